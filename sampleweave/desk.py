"""Desks: they keep weaves and consoles by names, and answer rows of words."""

from sampleweave.checks import is_name
from sampleweave.consoles import OVER, Console
from sampleweave.errors import NoRow, NoSuch
from sampleweave.figures import is_number
from sampleweave.lateness import made_up, rounds_late
from sampleweave.liveness import live
from sampleweave.ramps import check_steps
from sampleweave.rounds import counts
from sampleweave.sameness import same
from sampleweave.stretches import most_rounds
from sampleweave.texts import read_weave, weave_text

# What stands behind the first word of each row; some may have further words.
FORMS = {
    "weave": ("name",),
    "show": ("weave",),
    "counts": ("weave",),
    "live": ("weave",),
    "most": ("weave",),
    "madeup": ("name", "weave"),
    "same": ("weave", "weave"),
    "begin": ("name", "weave"),
    "hand": ("console", "word", "number"),
    "take": ("console", "word"),
    "rounds": ("console",),
    "turn": ("console", "word", "number"),
    "fade": ("console", "weave"),
}


def joined(things):
    """Words and numbers as a text, one blank between."""
    return " ".join([str(thing) for thing in things])


def over_told(desk, further):
    return int(further[0]) if further else desk.over


def keep_weave(desk, words):
    name, text = words
    desk.weaves[name] = read_weave(text)
    return "ok"


def show_weave(desk, words):
    return weave_text(desk.weaves[words[0]])


def tell_counts(desk, words):
    word, told = counts(desk.weaves[words[0]])
    if word == "clash":
        return word
    return " ".join([f"{name} {share}" for name, share in told])


def tell_live(desk, words):
    told = live(desk.weaves[words[0]])
    if told[0] == "live":
        return joined(told[1])
    return joined(["stuck", *told[2]])


def tell_most(desk, words):
    most = most_rounds(desk.weaves[words[0]])
    return "all" if most is None else str(most)


def keep_made_up(desk, words):
    name, elder = words
    weave = desk.weaves[elder]
    late = rounds_late(weave)
    desk.weaves[name] = made_up(weave)
    return str(late)


def tell_same(desk, words):
    one, other = words
    return joined(same(desk.weaves[one], desk.weaves[other]))


def begin_console(desk, words):
    name, weave, *further = words
    desk.consoles[name] = Console(desk.weaves[weave], lates=further == ["run"])
    return "ok"


def hand_numbers(desk, words):
    name, inlet, *numbers = words
    return str(desk.consoles[name].hand(inlet, [int(number) for number in numbers]))


def take_samples(desk, words):
    name, outlet = words
    return joined(desk.consoles[name].take(outlet))


def tell_rounds(desk, words):
    return str(desk.consoles[words[0]].rounds())


def turn_gain(desk, words):
    name, node, by, *further = words
    desk.consoles[name].turn(node, int(by), over=over_told(desk, further))
    return "ok"


def fade_weaves(desk, words):
    name, weave, *further = words
    desk.consoles[name].fade(desk.weaves[weave], over=over_told(desk, further))
    return "ok"


ANSWERS = {
    "weave": keep_weave,
    "show": show_weave,
    "counts": tell_counts,
    "live": tell_live,
    "most": tell_most,
    "madeup": keep_made_up,
    "same": tell_same,
    "begin": begin_console,
    "hand": hand_numbers,
    "take": take_samples,
    "rounds": tell_rounds,
    "turn": turn_gain,
    "fade": fade_weaves,
}


def fits(kind, word):
    """Whether a word can stand where this kind is wanted; what is kept by it is asked for later."""
    if kind == "name":
        return is_name(word)
    if kind == "number":
        return is_number(word)
    return word != ""


def further_fits(first, further):
    """Whether a row with this first word may have these further words."""
    if first == "begin":
        return further == [] or further == ["run"]
    if first == "turn" or first == "fade":
        return len(further) <= 1 and all([is_number(word) for word in further])
    if first == "hand":
        return all([is_number(word) for word in further])
    return further == []


def is_row(words):
    form = FORMS.get(words[0], ())
    rest = words[1:]
    if words[0] not in FORMS or len(rest) < len(form):
        return False
    return all([fits(kind, word) for kind, word in zip(form, rest)]) and further_fits(words[0], rest[len(form):])


def words_of_row(row):
    """The words of a row, behind them the text where there is one; what is no row is refused."""
    if not isinstance(row, str):
        raise NoRow("no text at all")
    head, feed, text = row.partition("\n")
    words = head.split(" ")
    if not is_row(words):
        raise NoRow("no words of a row")
    if words[0] == "weave" and feed == "\n":
        return [*words, text]
    if words[0] == "weave" or feed == "\n":
        raise NoRow("a text stands behind the words where a weave is told, and nowhere else")
    return words


def check_kept(desk, words):
    """Refuse the first word that should be what a weave or a console is kept by."""
    for kind, word in zip(FORMS[words[0]], words[1:]):
        if kind == "weave" and word not in desk.weaves or kind == "console" and word not in desk.consoles:
            raise NoSuch(word)


class Desk:
    """Keeps weaves and consoles, each by names of their own."""

    def __init__(self, *, over=OVER):
        check_steps(over)
        self.over = over
        self.weaves = {}
        self.consoles = {}
        self.answered = 0
        self.logged = []

    def say(self, row):
        words = words_of_row(row)
        check_kept(self, words)
        answer = ANSWERS[words[0]]
        told = answer(self, words[1:])
        self.answered += 1
        return told

    def play(self, rows):
        self.logged.append(("begin", self.answered))
        try:
            return [self.say(row) for row in rows]
        finally:
            self.logged.append(("end", self.answered))

    def log(self):
        return list(self.logged)
