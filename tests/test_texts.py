"""Weaves as texts."""

import random
import unittest

from sampleweave.errors import NoText
from sampleweave.keepers import Count, Latch, Tape, Taps
from sampleweave.nodes import Choose, Clip, Gain, Inlet, Mix, Outlet, Own, Share, Times
from sampleweave.rates import Down, Resample, Up
from sampleweave.texts import read_weave, weave_text
from sampleweave.weaves import Weave
from tests.test_weaves import fan, no_texts
from tests.things import Refusing, adding
from tests.woven import chain, echo, many_weaves, weave_of

SIXTY = 10 ** 60 - 1
LINES = [
    (Gain(5), "gain 5"), (Gain(-5), "gain -5"), (Gain(0), "gain 0"), (Gain(SIXTY), "gain " + "9" * 60),
    (Gain(-SIXTY), "gain -" + "9" * 60), (Mix(1), "mix 1"), (Clip(-3, 4), "clip -3 4"), (Share(7), "share 7"),
    (Taps([1]), "taps 1"), (Taps([0] * 12), "taps" + " 0" * 12), (Taps([1, -2, SIXTY]), f"taps 1 -2 {SIXTY}"),
    (Count(), "count 0 1 0"), (Count(-4, 0, 9), "count -4 0 9"), (Tape([3, -1]), "tape 3 -1"),
    (Tape([0], True), "tape 0 again"), (Tape([2] * 60), "tape" + " 2" * 60), (Up(3), "up 3"), (Up(8, True), "up 8 hold"),
    (Down(8), "down 8"), (Resample(3, 2, [1, 0, -1]), "resample 3 2 1 0 -1"), (Resample(1, 1, [5]), "resample 1 1 5"),
    (Gain(5, late=3), "gain 5 late 3"), (Gain(5, begin=9999), "gain 5 begin 9999"),
    (Taps([1, 2], late=99, begin=1), "taps 1 2 late 99 begin 1"), (Tape([1], True, begin=4), "tape 1 again begin 4"),
    (Up(2, True, late=1, begin=2), "up 2 hold late 1 begin 2"), (Mix(1, late=10), "mix 1 late 10"),
    (Down(3, late=7), "down 3 late 7"), (Resample(1, 2, [3], late=4, begin=5), "resample 1 2 3 late 4 begin 5"),
    (Count(1, 2, 3, late=4, begin=5), "count 1 2 3 late 4 begin 5"), (Share(1, begin=1), "share 1 begin 1"),
    (Clip(0, 0, late=1), "clip 0 0 late 1"),
]
SEVERAL = [(Times(), "times"), (Choose(), "choose"), (Latch(), "latch"), (Times(late=1), "times late 1"),
           (Choose(begin=1), "choose begin 1"), (Latch(late=2, begin=3), "latch late 2 begin 3"), (Mix(8), "mix 8")]


def of_one(node):
    return Weave([("in", Inlet()), ("x", node), ("out", Outlet())],
                 [("in", "x", place, 0) for place in range(len(node.takes()))] + [("x", "out", 0, 0)])


def text_of_one(words, places=1):
    return "\n".join(["in: inlet", f"x: {words}", "out: outlet"] + [f"in > x {place} 0" for place in range(places)]
                     + ["x > out 0 0"])


def some_weave():
    return weave_of({"in": Inlet(), "up": Up(2, True, late=3), "taps": Taps([10, -2], begin=12), "mix": Mix(2),
                     "out": Outlet()},
                    ["in up 0 0", "up taps 0 12", "taps mix 0 0", "mix mix 1 100", "mix out 0 9999"])


class Written(unittest.TestCase):
    def both_ways(self, weave, text):
        self.assertEqual(weave_text(weave), text)
        self.assertEqual(read_weave(text), weave)
        self.assertEqual(weave_text(read_weave(text)), text)

    def test_by_hand(self):
        self.both_ways(some_weave(), "in: inlet\nup: up 2 hold late 3\ntaps: taps 10 -2 begin 12\nmix: mix 2\n"
                       "out: outlet\nin > up 0 0\nup > taps 0 12\ntaps > mix 0 0\nmix > mix 1 100\nmix > out 0 9999")
        self.assertEqual(weave_text(weave=echo()), weave_text(echo()))
        self.assertEqual(read_weave(text=weave_text(echo())), echo())

    def test_without_nodes_and_without_wires(self):
        self.both_ways(Weave([], []), "")
        self.both_ways(weave_of({"in": Inlet()}, []), "in: inlet")
        self.both_ways(weave_of({"b": Inlet(), "a": Inlet()}, []), "b: inlet\na: inlet")

    def test_each_sort(self):
        for node, words in LINES:
            self.both_ways(of_one(node), text_of_one(words))
        for node, words in SEVERAL:
            self.both_ways(of_one(node), text_of_one(words, len(node.takes())))

    def test_names_that_are_words_of_the_texts(self):
        words = ["late", "begin", "again", "hold", "gain", "inlet", "outlet", "tape", "up", "abcdefgh", "z"]
        nodes = [("in", Inlet())] + [(word, Gain(2, late=1)) for word in words]
        wires = [("in", word, 0, 3) for word in words]
        weave = Weave(nodes, wires)
        self.assertEqual(read_weave(weave_text(weave)), weave)
        self.both_ways(weave_of({"inlet": Inlet(), "outlet": Outlet()}, ["inlet outlet 0 5"]),
                       "inlet: inlet\noutlet: outlet\ninlet > outlet 0 5")
        self.both_ways(weave_of({"again": Inlet(), "late": Tape([1], True, late=2), "begin": Outlet()},
                                ["again late 0 0", "late begin 0 0"]),
                       "again: inlet\nlate: tape 1 again late 2\nbegin: outlet\nagain > late 0 0\nlate > begin 0 0")

    def test_as_many_as_can_be(self):
        weave = Weave(*fan(24, 48))
        self.assertEqual(read_weave(weave_text(weave)), weave)

    def test_weaves_that_cannot_go(self):
        for weave in (echo(0), weave_of({"in": Inlet(), "down": Down(2), "mix": Mix(2)},
                                        ["in down 0 0", "down mix 0 0", "in mix 1 0"])):
            self.assertEqual(read_weave(weave_text(weave)), weave)

    def test_by_chance(self):
        written = 0
        for weave in many_weaves(131, 120, lates=(0, 0, 3)):
            if not any(isinstance(weave.node(name), Own) for name in weave.names()):
                written += 1
                self.assertEqual(read_weave(weave_text(weave)), weave)
        self.assertGreater(written, 20)


class Refused(Refusing):
    def no_text(self, text):
        self.refused(NoText, lambda: read_weave(text))

    def test_own_nodes(self):
        self.refused(NoText, lambda: weave_text(chain(Own(adding))))
        self.refused(NoText, lambda: weave_text(chain(Gain(1), Own(adding, begin=1), Gain(1))))

    def test_numbers_of_more_than_sixty_figures(self):
        for number in (SIXTY + 1, -SIXTY - 1, 10 ** 5000):
            self.refused(NoText, lambda: weave_text(chain(Gain(number))))
            self.refused(NoText, lambda: weave_text(chain(Taps([1, number]))))

    def test_no_texts(self):
        for thing in no_texts():
            self.no_text(thing)

    def test_numbers_not_so_written(self):
        for number in ("", "05", "00", "-0", "+5", "5 ", " 5", "5.", "0x5", "5_0", "five", "-", "--5", "1" + "0" * 60,
                       "-1" + "0" * 60, "\u0665", "\uff15", "\u00b2", "5\t", "1e3", "0" * 61, "True"):
            self.no_text(text_of_one(f"gain {number}"))
            self.no_text(text_of_one(f"clip -9 {number}"))
            self.no_text(f"in: inlet\nout: outlet\nin > out 0 {number}")
            self.no_text(f"in: inlet\nout: outlet\nin > out {number} 0")
            self.no_text(text_of_one(f"gain 1 late {number}"))
            self.no_text(text_of_one(f"gain 1 begin {number}"))

    def test_what_no_node_is_made_of(self):
        for words in ("mix 0", "mix 9", "clip 4 3", "share 0", "share -1", "taps", "taps" + " 1" * 13, "count 0 1 -1",
                      "tape", "tape again", "tape" + " 1" * 61, "up 0", "up 9", "down 0", "down 9", "resample 0 1 1",
                      "resample 9 1 1", "resample 1 9 1", "resample 1 1", "resample 1 1" + " 1" * 13, "gain 1 late 100",
                      "gain 1 begin 10000", "gain 1 late -1"):
            self.no_text(text_of_one(words))

    def test_a_word_more_or_less(self):
        for words in ("", "gain", "gain 1 2", "gain 1 late", "gain 1 late 0", "gain 1 begin 0", "gain late 1",
                      "gain 1 begin 2 late 1", "gain 1 late 1 late 1", "gain 1 begin 1 begin 1", "gain 1 again",
                      "gain 1 hold", "up 2 again", "up hold 2", "up 2 hold hold", "tape 1 hold", "tape 1 again again",
                      "tape again 1", "tape 1 late 1 again", "count", "count 0 1", "count 0 1 0 0", "clip 1", "down",
                      "clip 1 2 3", "times 1", "inlet 1", "inlet late 1", "outlet begin 1", "Gain 1", "gains 1", "own",
                      "node", "gain: 1", "late 5", "begin 5", "gain 1 late 1 begin", "mix 1 1", "down 2 2", "share 1 1"):
            self.no_text(text_of_one(words))

    def test_blanks_and_line_feeds(self):
        text = weave_text(some_weave())
        for at, sign in enumerate(text):
            if sign in " \n":
                for other in ("", "  ", "\n", " ", "\n\n", "\t", "\r\n", " \n", "\n ", "\u00a0", "\x0b", "\u2028"):
                    if other != sign:
                        self.spoilt(text[:at] + other + text[at + 1:])
        for spoilt in (" " + text, text + " ", "\n" + text, text + "\n", text + "\n\n", "\ufeff" + text, text + "\x00"):
            self.no_text(spoilt)
        for spoilt in ("\n", " ", "\n\n", ":", ": ", "a", "a:", "a: ", " > ", "a > b 0 0", "in: inlet\n"):
            self.no_text(spoilt)

    def spoilt(self, text):
        """It is refused, unless it is the text of another weave that can be made."""
        try:
            weave = read_weave(text)
        except NoText:
            return False
        self.assertEqual(weave_text(weave), text)
        return True

    def test_spoilt_at_one_sign(self):
        text = weave_text(some_weave())
        read = 0
        for at in range(len(text)):
            self.assertFalse(self.spoilt(text[:at] + "?" + text[at + 1:]))
            for other in ("", "0", "1", "-", "a", " ", ":", ">", "\n", text[at] * 2):
                read += self.spoilt(text[:at] + other + text[at + 1:])
        self.assertGreater(read, 20)

    def test_lines_exchanged_left_out_told_again(self):
        lines = weave_text(some_weave()).split("\n")
        nodes = len(some_weave())
        for at in range(len(lines)):
            self.no_text("\n".join(lines[:at] + lines[at + 1:]))
            self.no_text("\n".join(lines[:at] + [lines[at]] + lines[at:]))
            for other in range(at):
                moved = list(lines)
                moved[at], moved[other] = lines[other], lines[at]
                self.assertEqual(self.spoilt("\n".join(moved)), (at < nodes) == (other < nodes))

    def test_weaves_that_cannot_be_made(self):
        for text in ("a: outlet", "a: inlet\na: inlet", "A: inlet", "abcdefghi: inlet", "a b: inlet", ": inlet",
                     "a: inlet\nb: outlet", "a: inlet\nb: outlet\na > b 1 0", "a: inlet\nb: outlet\na > b 0 10000",
                     "a: inlet\nb: outlet\na > b 0 0\na > b 0 0", "a: inlet\nb: outlet\nb > b 0 0",
                     "a: inlet\nb: outlet\na > a 0 0", "a: inlet\nb: outlet\nc > b 0 0", "a: inlet\nb: outlet\na > c 0 0",
                     "b: gain 1\nb > b 0 1", "a: inlet\nb: outlet\na > b 0", "a: inlet\nb: outlet\na > b 0 0 0",
                     "a: inlet\nb: outlet\na < b 0 0", "a: inlet\nb: outlet\na>b 0 0", "a: inlet\nb: outlet\na b 0 0"):
            self.no_text(text)
        too_many = "\n".join(f"{one}{other}: inlet" for one in "abcde" for other in "abcde")
        self.no_text(too_many)
        self.assertEqual(len(read_weave("\n".join(too_many.split("\n")[:24]))), 24)

    def test_a_weave_stays(self):
        weave = some_weave()
        weave_text(weave)
        self.assertEqual(weave, some_weave())

    def test_by_chance(self):
        chance = random.Random(132)
        signs = "abilnotue:> 0123456789-\n"
        for _ in range(400):
            text = weave_text(echo()) if chance.random() < 0.5 else weave_text(some_weave())
            for _ in range(chance.randint(1, 3)):
                at = chance.randrange(len(text))
                text = text[:at] + chance.choice(signs) + text[at + chance.randint(0, 1):]
            self.spoilt(text)
