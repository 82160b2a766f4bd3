"""Texts: weaves as lines of words, written and read."""

from sampleweave.errors import NoText, WeaveError
from sampleweave.figures import is_number
from sampleweave.sorts import node_of_words, words_of_node
from sampleweave.weaves import Weave


def weave_text(weave):
    """The text of a weave: a line for each node, then one for each wire."""
    lines = []
    for name in weave.names():
        lines.append(" ".join([f"{name}:", *words_of_node(weave.node(name))]))
    for source, goal, place, delay in weave.wires():
        lines.append(f"{source} > {goal} {place} {delay}")
    return "\n".join(lines)


def wire_of_words(words):
    if len(words) != 5 or words[1] != ">" or not is_number(words[3]) or not is_number(words[4]):
        raise NoText("no words of a wire")
    return words[0], words[2], int(words[3]), int(words[4])


def weave_of_lines(lines):
    """A weave of lines; where they are those of none, it is refused, or the lines of that weave are other ones."""
    nodes = []
    wires = []
    for line in lines:
        words = line.split(" ")
        if words[0].endswith(":") and len(words) > 1:
            nodes.append((words[0][:-1], node_of_words(words[1:])))
        else:
            wires.append(wire_of_words(words))
    return Weave(nodes, wires)


def read_weave(text):
    """The weave whose text this is."""
    if not isinstance(text, str):
        raise NoText("no text at all")
    try:
        weave = weave_of_lines(text.split("\n") if text else [])
    except WeaveError:
        raise NoText("no text of a weave that can be made") from None
    # Whatever was read too leniently is written otherwise.
    if weave_text(weave) != text:
        raise NoText("the weave that it tells is written otherwise")
    return weave
