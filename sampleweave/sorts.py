"""Sorts: nodes as words, and words as nodes."""

from sampleweave.errors import NoText
from sampleweave.figures import has_too_many_figures, is_number
from sampleweave.keepers import Count, Latch, Tape, Taps
from sampleweave.nodes import Choose, Clip, Gain, Inlet, Mix, Outlet, Share, Times
from sampleweave.rates import Down, Resample, Up

# How many numbers stand behind each word, at least.
LEAST_NUMBERS = {
    "inlet": 0, "outlet": 0, "gain": 1, "mix": 1, "times": 0, "clip": 2, "share": 1, "choose": 0, "taps": 1,
    "latch": 0, "count": 3, "tape": 1, "up": 1, "down": 1, "resample": 3,
}
# The words for a truth that is True.
MARKS = {"tape": "again", "up": "hold"}


def word_of(node):
    """The word for the sort of a node."""
    if isinstance(node, Inlet):
        return "inlet"
    if isinstance(node, Outlet):
        return "outlet"
    if isinstance(node, Gain):
        return "gain"
    if isinstance(node, Mix):
        return "mix"
    if isinstance(node, Times):
        return "times"
    if isinstance(node, Clip):
        return "clip"
    if isinstance(node, Share):
        return "share"
    if isinstance(node, Choose):
        return "choose"
    if isinstance(node, Taps):
        return "taps"
    if isinstance(node, Latch):
        return "latch"
    if isinstance(node, Count):
        return "count"
    if isinstance(node, Tape):
        return "tape"
    if isinstance(node, Up):
        return "up"
    if isinstance(node, Down):
        return "down"
    if isinstance(node, Resample):
        return "resample"
    raise NoText("there is no word for a node of the asker's own")


def node_of(word, numbers, marked, late, begin):
    """The node of the sort of this word; there are as many numbers as it needs, perhaps more."""
    if word == "inlet":
        return Inlet()
    if word == "outlet":
        return Outlet()
    if word == "gain":
        return Gain(numbers[0], late=late, begin=begin)
    if word == "mix":
        return Mix(numbers[0], late=late, begin=begin)
    if word == "times":
        return Times(late=late, begin=begin)
    if word == "clip":
        return Clip(numbers[0], numbers[1], late=late, begin=begin)
    if word == "share":
        return Share(numbers[0], late=late, begin=begin)
    if word == "choose":
        return Choose(late=late, begin=begin)
    if word == "taps":
        return Taps(numbers, late=late, begin=begin)
    if word == "latch":
        return Latch(late=late, begin=begin)
    if word == "count":
        return Count(numbers[0], numbers[1], numbers[2], late=late, begin=begin)
    if word == "tape":
        return Tape(numbers, marked, late=late, begin=begin)
    if word == "up":
        return Up(numbers[0], marked, late=late, begin=begin)
    if word == "down":
        return Down(numbers[0], late=late, begin=begin)
    return Resample(numbers[0], numbers[1], numbers[2:], late=late, begin=begin)


def number_word(number):
    if has_too_many_figures(number):
        raise NoText("a number of more than sixty figures")
    return str(number)


def argument_words(thing, mark):
    """The words for what a node is made of: a number, a list of such, or a truth, which its mark stands for."""
    if isinstance(thing, bool):
        return [mark] if thing else []
    if isinstance(thing, list):
        return [number_word(number) for number in thing]
    return [number_word(thing)]


def words_of_node(node):
    word = word_of(node)
    words = [word]
    for thing in node.made[:-2]:
        words.extend(argument_words(thing, MARKS.get(word)))
    if node.late() > 0:
        words.extend(["late", str(node.late())])
    if node.begin() > 0:
        words.extend(["begin", str(node.begin())])
    return words


def parted_at(words, mark):
    """The words ahead of a mark and the number behind it, where these end the words; else all of them, and 0."""
    if len(words) >= 2 and words[-2] == mark and is_number(words[-1]):
        return words[:-2], int(words[-1])
    return words, 0


def node_of_words(words):
    """A node of words; where they are none of a node, it is refused, or the words of that node are other ones."""
    word = words[0]
    rest, begin = parted_at(words[1:], "begin")
    rest, late = parted_at(rest, "late")
    marked = word in MARKS and MARKS[word] in rest[-1:]
    if marked:
        rest = rest[:-1]
    if word not in LEAST_NUMBERS or len(rest) < LEAST_NUMBERS[word] or not all([is_number(each) for each in rest]):
        raise NoText("no words of a node")
    return node_of(word, [int(each) for each in rest], marked, late, begin)
