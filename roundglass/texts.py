"""Texts: how ratios, benches and halls are written, and read again."""

from roundglass.benches import MOST_PARTS, is_part
from roundglass.errors import NoText
from roundglass.halls import MOST_BETWEEN
from roundglass.ratios import is_ratio

MOST_FIGURES = 300
FIGURES = "0123456789"
NO_PARTS = "none"
PARTS_APART = "; "
HALL_APART = " | "


def whole_text(number):
    # Python writes no number of very many figures at once, so it is written piece by piece.
    unit = 10 ** 60
    rest = abs(number)
    pieces = []
    while rest >= unit:
        rest, piece = divmod(rest, unit)
        pieces.append(str(piece).zfill(60))
    pieces.append(str(rest))
    return ("-" if number < 0 else "") + "".join(reversed(pieces))


def ratio_text(one):
    if not is_ratio(one):
        raise NoText("what is no ratio has no text")
    top, bottom = one
    if bottom == 1:
        return whole_text(top)
    return whole_text(top) + "/" + whole_text(bottom)


def part_text(part):
    if not is_part(part):
        raise NoText("what is no part has no text")
    return part[0] + " " + ratio_text(part[1])


def bench_text(bench):
    if not isinstance(bench, (list, tuple)):
        raise NoText("what is no bench has no text")
    if len(bench) == 0:
        return NO_PARTS
    return "; ".join([part_text(part) for part in bench])


def hall_text(hall):
    if not isinstance(hall, tuple) or len(hall) != 3:
        raise NoText("what is no hall has no text")
    near, bench, far = hall
    return ratio_text(near) + HALL_APART + bench_text(bench) + HALL_APART + ratio_text(far)


def are_figures(text):
    if len(text) == 0 or len(text) > MOST_FIGURES or any([sign not in FIGURES for sign in text]):
        return False
    return text == "0" or text[0] != "0"


def read_whole(text):
    # None where no whole number is so written.
    if are_figures(text):
        return int(text)
    if text[:1] == "-" and are_figures(text[1:]) and text != "-0":
        return -int(text[1:])
    return None


def read_ratio(text):
    if not isinstance(text, str):
        raise NoText("what is no text tells no ratio")
    top_text, slash, bottom_text = text.partition("/")
    told = (read_whole(top_text), read_whole(bottom_text) if slash == "/" else 1)
    # A bottom of 1 is not written.
    if not is_ratio(told) or bottom_text == "1":
        raise NoText("no ratio is so written")
    return told


def read_part(text):
    word, blank, number = text.partition(" ")
    part = (word, read_ratio(number))
    if not is_part(part):
        raise NoText("no part is so written")
    return part


def read_parts(text, most):
    if not isinstance(text, str):
        raise NoText("what is no text tells no bench")
    if text == NO_PARTS:
        return []
    parts = text.split(PARTS_APART)
    if len(parts) > most:
        raise NoText("a bench has no so many parts")
    return [read_part(part) for part in parts]


def read_bench(text):
    return read_parts(text, MOST_PARTS)


def read_hall(text):
    if not isinstance(text, str):
        raise NoText("what is no text tells no hall")
    texts = text.split(HALL_APART)
    if len(texts) != 3:
        raise NoText("no hall is so written")
    return (read_ratio(texts[0]), read_parts(texts[1], MOST_BETWEEN), read_ratio(texts[2]))
