"""Papers written down and read (point 25)."""

from duskbook.errors import NoPaper
from duskbook.pages import beacon_read, number_read, saying_read, saying_written

MOST_NUMBER = 200
TRUTHS_BY_WORD = {"yes": True, "no": False}

# The forms of the parts behind each first word. Those of ROWS are rows of such parts, those of SEVERAL are things of
# one form, both with their count ahead; any other one is a single word.
PAPERS = {
    "broken": (),
    "clash": ("road", "road"),
    "cross": ("road",),
    "late": ("road", "road"),
    "odd": ("places",),
    "lone": ("source", "places", "places"),
    "plan": ("plan rows",),
    "sums": ("sum rows",),
    "rows": ("beacons", "if rows"),
}
ROWS = {
    "plan rows": ("beacon", "source", "truth"),
    "sum rows": ("beacon", "beacons", "truth"),
    "if rows": ("beacon", "beacons"),
}
SEVERAL = {"road": "saying", "places": "place", "beacons": "beacon"}


def thing_written(form, thing):
    if form == "saying":
        return saying_written(thing)
    if form == "truth":
        return "yes" if thing else "no"
    return "none" if thing is None else str(thing)


def part_written(form, part):
    if form in SEVERAL:
        return [str(len(part))] + [thing_written(SEVERAL[form], thing) for thing in part]
    if form not in ROWS:
        return [thing_written(form, part)]
    words = [str(len(part))]
    for row in part:
        words.extend(parts_written(ROWS[form], row))
    return words


def parts_written(forms, parts):
    words = []
    for form, part in zip(forms, parts):
        words.extend(part_written(form, part))
    return words


def paper_written(paper):
    return " ".join([paper[0]] + parts_written(PAPERS[paper[0]], paper[1:]))


class Reader:
    def __init__(self, text):
        self.words = text.split(" ")
        self.place = 0

    def is_at_end(self):
        return self.place == len(self.words)

    def taken(self):
        if self.is_at_end():
            raise NoPaper("the paper is cut off")
        self.place += 1
        return self.words[self.place - 1]


def place_read(word):
    number = number_read(word)
    return None if number is None or number > MOST_NUMBER else number


def checked(thing):
    if thing is None:
        raise NoPaper("a word is not as it should be")
    return thing


def thing_read(form, word):
    if form == "source" and word == "none":
        return None
    if form == "saying":
        return checked(saying_read(word))
    if form == "truth":
        return checked(TRUTHS_BY_WORD.get(word))
    if form == "place":
        return checked(place_read(word))
    return checked(beacon_read(word))


def part_read(form, reader):
    if form not in SEVERAL and form not in ROWS:
        return thing_read(form, reader.taken())
    parts = []
    for count in range(checked(place_read(reader.taken()))):
        if form in SEVERAL:
            parts.append(thing_read(SEVERAL[form], reader.taken()))
        else:
            parts.append(parts_read(ROWS[form], reader))
    return tuple(parts)


def parts_read(forms, reader):
    return tuple([part_read(form, reader) for form in forms])


def paper_read(text):
    reader = Reader(text)
    word = reader.taken()
    if word not in PAPERS:
        raise NoPaper("the first word is no paper's")
    parts = parts_read(PAPERS[word], reader)
    if not reader.is_at_end():
        raise NoPaper("words stand behind the paper's end")
    return (word,) + parts
