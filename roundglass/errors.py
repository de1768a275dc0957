"""The refusals: one class for each, all straight beneath GlassError."""


class GlassError(ValueError):
    pass


class NoRatio(GlassError):
    pass


class NoWhole(GlassError):
    pass


class TooMany(GlassError):
    pass


class NoText(GlassError):
    pass


class NoRow(GlassError):
    pass


class NoPart(GlassError):
    pass


class NoNumber(GlassError):
    pass


class NoPast(GlassError):
    pass
