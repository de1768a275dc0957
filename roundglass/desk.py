"""A desk: it keeps a bench between two mirrors, and answers rows of words."""

from roundglass.benches import MOST_PARTS, may_have, table_of
from roundglass.errors import NoNumber, NoPart, NoPast, NoRow, NoText, TooMany
from roundglass.forever import ever
from roundglass.halls import MOST_BETWEEN, kind
from roundglass.idle import idle
from roundglass.images import image
from roundglass.lines import lines_of
from roundglass.made import few_glasses
from roundglass.ratios import NOUGHT
from roundglass.tables import led
from roundglass.texts import bench_text, hall_text, ratio_text, read_ratio, whole_text
from roundglass.ways import stopped_by

# What stands behind the first word of each row.
ROWS = {
    "put": ("word", "number"),
    "set": ("part", "number"),
    "cut": ("part",),
    "near": ("number",),
    "far": ("number",),
    "back": (),
    "bench": (),
    "hall": (),
    "table": (),
    "image": ("plane",),
    "ray": ("number", "number"),
    "idle": ("part",),
    "round": (),
    "ever": ("number", "number"),
    "glasses": (),
}
CHANGES = ("put", "set", "cut", "near", "far")
OF_HALLS = ("hall", "round", "ever")
PART_WORDS = ("gap", "glass", "stop")


def read_number(text):
    try:
        return read_ratio(text)
    except NoText:
        raise NoRow("no number is so written") from None


def read_word(form, text):
    if form == "word":
        if text not in PART_WORDS:
            raise NoRow("no part is called so")
        return text
    if form == "plane" and text == "far":
        return None
    number = read_number(text)
    if form != "part":
        return number
    if number[1] != 1 or number[0] < 0:
        raise NoRow("parts are numbered by whole numbers from 0 on")
    return number[0]


def read_row(row):
    if not isinstance(row, str):
        raise NoRow("what is no text is no row")
    words = row.split(" ")
    if words[0] not in ROWS or len(words) != 1 + len(ROWS[words[0]]):
        raise NoRow("there is no such row")
    return (words[0], [read_word(form, text) for form, text in zip(ROWS[words[0]], words[1:])])


def part_of(bench, k):
    if k >= len(bench):
        raise NoPart("the bench has no such part")
    return bench[k]


def part_with(word, number):
    if not may_have(word, number):
        raise NoNumber("such a part may not have this number")
    return (word, number)


def put(bench, word, number):
    part = part_with(word, number)
    if len(bench) >= MOST_PARTS:
        raise TooMany("the bench is full")
    return bench + [part]


def changed_bench(bench, deed, values):
    if deed == "put":
        return put(bench, values[0], values[1])
    k = values[0]
    part = part_of(bench, k)
    instead = [] if deed == "cut" else [part_with(part[0], values[1])]
    return bench[:k] + instead + bench[k + 1:]


def changed(hall, deed, values):
    near, bench, far = hall
    if deed == "near":
        return (values[0], bench, far)
    if deed == "far":
        return (near, bench, values[0])
    return (near, changed_bench(bench, deed, values), far)


def ratio_texts(ratios):
    return " ".join(["far" if one is None else ratio_text(one) for one in ratios])


def ray_text(bench, ray):
    k = stopped_by(bench, ray)
    if k is not None:
        return f"stopped {k}"
    return "out " + ratio_texts(led(table_of(bench), ray))


def idle_text(bench, k):
    if part_of(bench, k)[0] != "stop":
        raise NoPart("the part is no stop")
    # Lines are numbered by stops alone.
    return idle(lines_of(bench), len(lines_of(bench[:k])))[0]


def round_text(hall):
    word, told = kind(hall)
    if word == "same":
        return f"{word} {told}"
    if word == "off" and told is not None:
        return word + " " + ratio_text(told)
    return word


def ever_text(hall, ray):
    told = ever(hall, ray)
    if told[0] != "stopped":
        return told[0]
    word, passed, way, k = told
    passed_text = whole_text(passed)
    return f"{word} {passed_text} {way} {k}"


def hall_answer(hall, question, values):
    if len(hall[1]) > MOST_BETWEEN:
        raise TooMany("a hall has no so many parts")
    if question == "hall":
        return hall_text(hall)
    if question == "round":
        return round_text(hall)
    return ever_text(hall, (values[0], values[1]))


def bench_answer(bench, question, values):
    if question == "bench":
        return bench_text(bench)
    if question == "table":
        return ratio_texts(table_of(bench))
    if question == "image":
        return ratio_texts(image(table_of(bench), values[0]))
    if question == "ray":
        return ray_text(bench, (values[0], values[1]))
    if question == "idle":
        return idle_text(bench, values[0])
    return bench_text(few_glasses(table_of(bench)))


class Desk:
    def __init__(self):
        self.hall = (NOUGHT, [], NOUGHT)
        self.past = []

    def say(self, row):
        word, values = read_row(row)
        if word in CHANGES:
            hall = changed(self.hall, word, values)
            self.past.append(self.hall)
            self.hall = hall
            return "ok"
        if word == "back":
            return self.take_back()
        if word in OF_HALLS:
            return hall_answer(self.hall, word, values)
        return bench_answer(self.hall[1], word, values)

    def take_back(self):
        if len(self.past) == 0:
            raise NoPast("there is no deed to take back")
        self.hall = self.past.pop()
        return "ok"
