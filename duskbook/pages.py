"""Pages: watches written down and read (point 24)."""

from duskbook.books import KINDS, book_made, is_beacon
from duskbook.errors import NoBook, NoHands, NoPage, Over
from duskbook.watches import Watch

FIGURES = "0123456789"
MOST_FIGURES = 3
LETTERS = {"keeper": "k", "storm": "s"}
HANDS_BY_LETTER = {"k": "keeper", "s": "storm"}
TRUTHS_BY_SIGN = {"1": True, "0": False}
TRUTHS_BY_MARK = {"+": True, "-": False}
ODDS_BY_WORD = {"odd": True, "even": False}


def saying_written(saying):
    beacon = saying[0]
    return f"+{beacon}" if saying[1] else f"-{beacon}"


def rule_written(kind, rule):
    if kind == "eithers":
        return ["rule"] + [saying_written(saying) for saying in rule]
    beacons = [str(beacon) for beacon in rule[0]]
    if kind == "sums":
        return ["rule", "odd" if rule[1] else "even"] + beacons
    return ["rule"] + beacons + [">"] + ([] if rule[1] is None else [str(rule[1])])


def signs_written(word, signs):
    return [word, "".join(signs)] if signs else [word]


def page_written(watch):
    kind = watch.book[0]
    rows = [["kind", kind], signs_written("hands", [LETTERS[hand] for hand in watch.hands])]
    rows.extend([rule_written(kind, rule) for rule in watch.book[1]])
    if watch.evening():
        rows.append(signs_written("settled", ["1" if lit else "0" for lit in watch.evening()]))
    return "\n".join([" ".join(words) for words in rows])


def number_read(word):
    # None where it is no number. The figures are asked for by name, as Python takes those of other scripts too.
    if not 1 <= len(word) <= MOST_FIGURES or not all([sign in FIGURES for sign in word]):
        return None
    if len(word) > 1 and word[0] == "0":
        return None
    return int(word)


def beacon_read(word):
    number = number_read(word)
    return number if is_beacon(number) else None


def saying_read(word):
    beacon = beacon_read(word[1:])
    if beacon is None or word[0] not in TRUTHS_BY_MARK:
        return None
    return (beacon, TRUTHS_BY_MARK[word[0]])


def hand_read(letter):
    return HANDS_BY_LETTER.get(letter)


def truth_read(sign):
    return TRUTHS_BY_SIGN.get(sign)


def each_read(read, words):
    things = [read(word) for word in words]
    if None in things:
        raise NoPage("a word or a sign is not as it should be")
    return things


def sum_read(words):
    if len(words) == 0 or words[0] not in ODDS_BY_WORD:
        raise NoPage("a sum is neither odd nor even")
    return (each_read(beacon_read, words[1:]), ODDS_BY_WORD[words[0]])


def if_read(words):
    if ">" not in words:
        raise NoPage("a body has no end")
    end = words.index(">")
    heads = each_read(beacon_read, words[end + 1:])
    if len(heads) > 1:
        raise NoPage("a rule has more than one head")
    return (each_read(beacon_read, words[:end]), heads[0] if heads else None)


def rule_read(kind, words):
    if words[0] != "rule":
        raise NoPage("a row is none of those that may stand there")
    if kind == "eithers":
        return each_read(saying_read, words[1:])
    if kind == "sums":
        return sum_read(words[1:])
    return if_read(words[1:])


def kind_read(words):
    if len(words) != 2 or words[0] != "kind" or words[1] not in KINDS:
        raise NoPage("the first row does not tell the kind")
    return words[1]


def hands_read(words):
    if len(words) > 2 or words[0] != "hands":
        raise NoPage("the second row does not tell the hands")
    return each_read(hand_read, "".join(words[1:]))


def settled_read(words):
    if len(words) != 2:
        raise NoPage("the last row does not tell the settled beacons")
    return each_read(truth_read, words[1])


def rows_read(text):
    rows = [row.split(" ") for row in text.split("\n")]
    # An empty word comes of a blank at an end, of two blanks, and of a row without words.
    if len(rows) < 2 or any(["" in words for words in rows]):
        raise NoPage("rows or words are parted otherwise than they should be")
    return rows


def watch_made(kind, rules, hands, truths):
    watch = Watch(book_made(kind, rules), hands)
    for lit in truths:
        watch.settle(lit)
    return watch


def page_read(text):
    rows = rows_read(text)
    kind = kind_read(rows[0])
    hands = hands_read(rows[1])
    some_settled = rows[-1][0] == "settled"
    truths = settled_read(rows[-1]) if some_settled else []
    rules = [rule_read(kind, words) for words in (rows[2:-1] if some_settled else rows[2:])]
    try:
        return watch_made(kind, rules, hands, truths)
    except (NoBook, NoHands, Over) as error:
        raise NoPage("the page's book, hands or settled beacons are refused") from error
