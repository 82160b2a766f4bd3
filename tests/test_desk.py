"""Desks: rows and their answers."""

import random
import unittest

from sampleweave.consoles import OVER, Console
from sampleweave.desk import Desk
from sampleweave.engines import Engine
from sampleweave.errors import Clash, Fading, Knot, NoGain, NoInlet, NoOutlet, NoRow, NoSteps, NoSuch, NotLinear, NoText
from sampleweave.errors import Short, Stuck, Unknown, Unlike
from sampleweave.keepers import Taps
from sampleweave.lateness import made_up
from sampleweave.nodes import Gain, Inlet, Mix, Outlet
from sampleweave.rates import Down, Up
from sampleweave.rounds import counts
from sampleweave.texts import weave_text
from sampleweave.weaves import Weave
from tests.test_weaves import no_texts
from tests.things import HUGE, Refusing, no_wholes
from tests.woven import chain, echo, weave_of


def told(name, weave):
    """The row that tells a weave."""
    return f"weave {name}\n{weave_text(weave)}"


def clashing():
    return weave_of({"in": Inlet(), "down": Down(2), "mix": Mix(2)}, ["in down 0 0", "down mix 0 0", "in mix 1 0"])


def knotted():
    return weave_of({"in": Inlet(), "mix": Mix(2), "up": Up(2), "gain": Gain(1), "down": Down(2), "out": Outlet()},
                    ["in mix 0 0", "mix up 0 9", "up gain 0 0", "gain down 0 0", "down mix 1 0", "mix out 0 0"])


def desk_with(**weaves):
    desk = Desk()
    for name, weave in weaves.items():
        desk.say(told(name, weave))
    return desk


class Rows(unittest.TestCase):
    def answers(self, desk, *pairs):
        for row, answer in pairs:
            self.assertEqual(desk.say(row), answer, row)

    def test_weave_and_show(self):
        desk = Desk()
        self.answers(desk, (told("a", echo()), "ok"), ("show a", weave_text(echo())), ("weave b\n", "ok"),
                     ("show b", ""), ("weave abcdefgh\nin: inlet", "ok"), ("show abcdefgh", "in: inlet"),
                     (told("a", chain(Gain(7))), "ok"), ("show a", weave_text(chain(Gain(7)))), ("show b", ""))
        self.assertEqual(desk.say(row="show b"), "")

    def test_counts(self):
        self.answers(desk_with(a=chain(Up(3), Down(2)), b=clashing(), c=Weave([], [])),
                     ("counts a", "in 2 a 2 b 3 out 3"), ("counts b", "clash"), ("counts c", ""))

    def test_live(self):
        self.answers(desk_with(a=chain(Gain(1), Up(2)), c=Weave([], [])), ("live a", "in a b out out"), ("live c", ""))
        desk = desk_with(a=echo(0), b=echo(0).put("gain", Gain(1, late=9)))
        for name in "ab":
            word, *ring = desk.say(f"live {name}").split(" ")
            self.assertEqual((word, sorted(ring)), ("stuck", ["1", "2"]))

    def test_most(self):
        self.answers(desk_with(a=chain(Gain(1)), b=echo(3), c=echo(0), d=echo(0).put("gain", Gain(1, late=9)),
                               e=echo(12)),
                     ("most a", "all"), ("most b", "3"), ("most c", "0"), ("most d", "0"), ("most e", "12"))

    def test_madeup(self):
        weave = weave_of({"in": Inlet(), "late": Gain(1, late=12), "mix": Mix(2), "out": Outlet()},
                         ["in late 0 0", "late mix 0 0", "in mix 1 0", "mix out 0 0"])
        desk = desk_with(a=weave)
        self.answers(desk, ("madeup b a", "12"), ("show b", weave_text(made_up(weave))), ("show a", weave_text(weave)),
                     ("madeup a a", "12"), ("show a", weave_text(made_up(weave))), (told("c", echo()), "ok"),
                     ("madeup d c", "0"), ("show d", weave_text(echo())))

    def test_same(self):
        desk = desk_with(a=echo(1, 3), b=echo(1, 3), c=echo(12, 4), d=echo(12, 5))
        self.answers(desk, ("same a b", "same"), ("same a a", "same"), ("same c d", "apart in out 12"),
                     ("same a c", "apart in out 1"))

    def test_begin_hand_take_rounds(self):
        desk = desk_with(a=chain(Gain(-2, late=1), delay=0), b=chain(Up(2), Down(3)))
        self.answers(desk, ("begin c a", "ok"), ("hand c in 5", "1"), ("hand c in 6 -7 0", "3"), ("rounds c", "4"),
                     ("take c out", "-10 -12 14 0"), ("take c out", ""), ("begin d a run", "ok"), ("rounds d", "0"),
                     ("hand d in 5 6", "2"), ("take d out", "0 -10"), ("begin e b", "ok"), ("hand e in 1 2", "0"),
                     ("take e out", ""), ("hand e in 3", "1"), ("take e out", "1 0"), ("rounds c", "4"))

    def test_turn(self):
        desk = Desk(over=2)
        self.answers(desk, (told("a", chain(Gain(0))), "ok"), ("begin c a", "ok"), ("turn c a 10", "ok"),
                     ("hand c in 1 1 1", "3"), ("take c out", "5 10 10"), ("turn c a -10 4", "ok"),
                     ("hand c in 1 1 1 1 1", "5"), ("take c out", "5 0 -5 -10 -10"), ("turn c a 3 0", "ok"),
                     ("hand c in 1", "1"), ("take c out", "3"))

    def test_fade(self):
        desk = Desk(over=2)
        self.answers(desk, (told("a", chain(Gain(0))), "ok"), (told("b", chain(Gain(10))), "ok"), ("begin c a", "ok"),
                     ("fade c b", "ok"), ("hand c in 1 1 1", "3"), ("take c out", "5 10 10"), ("fade c a 5", "ok"),
                     ("hand c in 1 1 1 1 1 1", "6"), ("take c out", "8 6 4 2 0 0"), ("fade c b 0", "ok"),
                     ("hand c in 1", "1"), ("take c out", "10"), ("rounds c", "10"))

    def test_steps_left_out(self):
        desk = desk_with(a=chain(Gain(0)))
        self.answers(desk, ("begin c a", "ok"), ("turn c a 16", "ok"), (f"hand c in{' 1' * 17}", "17"),
                     ("take c out", " ".join(str(k) for k in range(1, 17)) + " 16"))
        self.assertEqual(OVER, 16)
        desk = Desk(over=0)
        self.answers(desk, (told("a", chain(Gain(0))), "ok"), (told("b", chain(Gain(3))), "ok"), ("begin c a", "ok"),
                     ("turn c a 2", "ok"), ("hand c in 1", "1"), ("fade c b", "ok"), ("hand c in 1", "1"),
                     ("take c out", "2 3"))

    def test_great_numbers(self):
        desk = desk_with(a=chain(Gain(HUGE), Gain(HUGE)))
        self.answers(desk, ("begin c a", "ok"), (f"hand c in {HUGE} -{HUGE}", "2"),
                     ("take c out", f"{HUGE ** 3} {-HUGE ** 3}"))
        desk = desk_with(a=chain(*[Gain(10 ** 59)] * 8))
        self.answers(desk, ("begin c a", "ok"), ("hand c in 1", "1"), ("take c out", "1" + "0" * 472))

    def test_by_one_name(self):
        desk = desk_with(a=chain(Gain(1)), out=chain(Gain(2)))
        self.answers(desk, ("begin a a", "ok"), ("begin out out", "ok"), ("hand a in 1", "1"), ("hand out in 1", "1"),
                     ("take a out", "1"), ("take out out", "2"), ("show a", weave_text(chain(Gain(1)))),
                     ("fade a out 0", "ok"), ("hand a in 1", "1"), ("take a out", "2"))

    def test_names_that_are_words_of_the_rows(self):
        desk = desk_with(weave=chain(Gain(1)), run=chain(Gain(2)), show=echo())
        self.answers(desk, ("begin run run", "ok"), ("begin begin run run", "ok"), ("show weave", weave_text(chain(Gain(1)))),
                     ("hand begin in 4", "1"), ("take begin out", "8"), ("same show show", "same"))

    def test_a_weave_told_anew_while_a_console_of_the_elder_one_goes_on(self):
        desk = desk_with(a=chain(Taps([1, 10])))
        self.answers(desk, ("begin c a", "ok"), ("hand c in 1", "1"), (told("a", chain(Gain(9))), "ok"),
                     ("hand c in 2", "1"), ("take c out", "1 12"), ("begin d a", "ok"), ("hand d in 2", "1"),
                     ("take d out", "18"), ("begin c a", "ok"), ("rounds c", "0"), ("take c out", ""),
                     ("hand c in 1", "1"), ("take c out", "9"))

    def test_as_a_console(self):
        chance = random.Random(141)
        weave, other = echo(2, 3).put("mix", Mix(2, late=1)), echo(1, -2)
        for run in ("", " run"):
            desk = desk_with(a=weave, b=other)
            desk.say("begin c a" + run)
            console = Console(weave, lates=bool(run))
            for at in range(60):
                deed = chance.choice(["hand", "hand", "take", "turn", "fade"])
                if deed == "hand":
                    samples = [chance.randint(-9, 9) for _ in range(chance.randint(1, 4))]
                    self.assertEqual(desk.say(f"hand c in {' '.join(map(str, samples))}"),
                                     str(console.hand("in", samples)))
                elif deed == "take":
                    self.assertEqual(desk.say("take c out"), " ".join(str(x) for x in console.take("out")))
                elif deed == "turn":
                    by, over = chance.randint(-9, 9), chance.randint(0, 5)
                    desk.say(f"turn c gain {by} {over}")
                    console.turn("gain", by, over=over)
                elif console.fading() == 0:
                    name, to = chance.choice([("a", weave), ("b", other)])
                    desk.say(f"fade c {name} 3")
                    console.fade(to, over=3)
                self.assertEqual(desk.say("rounds c"), str(console.rounds()))


class Refused(Refusing):
    def setUp(self):
        self.desk = desk_with(a=chain(Gain(2)), b=echo(0), late=chain(Gain(3, late=2)))
        self.desk.say("begin c a")

    def no_row(self, row):
        self.refused(NoRow, lambda: self.desk.say(row))

    def no_such(self, row, who):
        self.assertEqual(self.refused(NoSuch, lambda: self.desk.say(row)).who, who)

    def test_no_texts(self):
        for thing in no_texts():
            self.no_row(thing)
            self.refused(NoRow, lambda: self.desk.play([thing]))

    def test_spoilt_by_a_word(self):
        for row in ("", " ", "\n", "shows a", "Show a", "show", "show a a", "counts", "counts a a", "live", "live a run",
                    "most", "most a 1", "madeup", "madeup x", "madeup x a a", "same", "same a", "same a a a", "begin",
                    "begin x", "begin x a run run", "begin x a meant", "begin x a Run", "begin x run a", "hand", "hand c",
                    "hand c in", "take", "take c", "take c out out", "take c out 1", "rounds", "rounds c c", "turn",
                    "turn c", "turn c a", "turn c a 1 2 3", "fade", "fade c", "fade c a 1 2", "weave", "weave x",
                    "weave x in: inlet", "weave\nin: inlet", "weave x y\nin: inlet", "log", "settle c", "ok", "a"):
            self.no_row(row)

    def test_spoilt_by_a_blank_or_a_line_feed(self):
        rows = ["show a", "counts a", "live a", "most a", "madeup x a", "same a a", "begin x a", "begin x a run",
                "hand c in 1 2", "take c out", "rounds c", "turn c a 5", "turn c a 5 6", "fade c a", "fade c a 7"]
        for row in rows:
            for spoilt in (" " + row, row + " ", "\n" + row, row + "\n", row + "\na: inlet", row.replace(" ", "  ", 1),
                           row.replace(" ", "\t"), row.replace(" ", "\n", 1), row.replace(" ", "")):
                self.no_row(spoilt)
        for spoilt in (" weave x\n", "weave  x\n", "weave x \n", "weave x\r\n", "weave\tx\n", "\nweave x\n", "weave x\t\n"):
            self.no_row(spoilt)

    def test_numbers_not_so_written(self):
        for number in ("05", "-0", "+5", "5.", "five", "-", "1" + "0" * 60, "\u0665", "1_0", "0x1", "--1", "00", "True"):
            for row in (f"hand c in {number}", f"hand c in 1 {number}", f"hand c in {number} 1", f"turn c a {number}",
                        f"turn c a 1 {number}", f"turn c a {number} 1", f"fade c a {number}"):
                self.no_row(row)
        self.assertEqual(self.desk.say("hand c in " + "9" * 60), "1")

    def test_names_that_are_none(self):
        for name in ("A", "abcdefghi", "a1", "x-y", "\u00e4", "x:", ">", "0", "-1", "x\u00a0"):
            for row in (f"weave {name}\nin: inlet", f"madeup {name} a", f"begin {name} a", f"begin {name} a run"):
                self.no_row(row)
            self.no_such(f"show {name}", name)
            self.no_such(f"rounds {name}", name)

    def test_no_such(self):
        self.no_such("show x", "x")
        self.no_such("show c", "c")
        for first in ("counts", "live", "most"):
            self.no_such(f"{first} c", "c")
        self.no_such("madeup a x", "x")
        self.no_such("same x y", "x")
        self.no_such("same a y", "y")
        self.no_such("same c a", "c")
        self.no_such("begin c x", "x")
        self.no_such("begin x x run", "x")
        self.no_such("hand a in 1", "a")
        self.no_such("take x x", "x")
        self.no_such("rounds a", "a")
        self.no_such("turn x x 1", "x")
        self.no_such("fade x y", "x")
        self.no_such("fade c y 3", "y")
        self.no_such("fade a c", "a")

    def test_no_row_ahead_of_no_such(self):
        for row in ("hand x in", "hand x in y", "turn x a y", "turn x a 1 y", "fade x y z", "begin X y", "madeup X y",
                    "same x", "take x", "rounds x y", "begin x y z", "weave X\nnone"):
            self.no_row(row)

    def test_then_as_the_stages_refuse(self):
        desk = self.desk
        self.refused(NoText, lambda: desk.say("weave a\nnone"))
        self.refused(NoText, lambda: desk.say("weave a\n\n"))
        self.refused(NoText, lambda: desk.say("weave a\nin: inlet\n"))
        desk.say(told("clash", clashing()))
        desk.say(told("knot", knotted()))
        desk.say(told("short", echo(1).put("gain", Gain(1, late=9))))
        desk.say(told("two", weave_of({"in": Inlet(), "a": Outlet()}, ["in a 0 0"])))
        for row in ("live clash", "most clash", "madeup x clash", "same clash b", "begin x clash", "fade c clash"):
            self.refused(Clash, lambda: desk.say(row))
        for row in ("madeup x b", "same b a", "same a b", "begin x b", "begin x b run", "fade c b 0"):
            self.assertEqual(sorted(self.refused(Stuck, lambda: desk.say(row)).ring), [1, 2])
        self.refused(Knot, lambda: desk.say("madeup x knot"))
        self.refused(Short, lambda: desk.say("madeup x short"))
        self.refused(NotLinear, lambda: desk.say("same a knot"))
        self.assertEqual(self.refused(Unlike, lambda: desk.say("same a two")).who, "out")
        self.assertEqual(self.refused(Unlike, lambda: desk.say("fade c two")).who, "out")
        self.assertEqual(self.refused(NoInlet, lambda: desk.say("hand c out 1")).who, "out")
        self.assertEqual(self.refused(NoInlet, lambda: desk.say("hand c A9 1")).who, "A9")
        self.assertEqual(self.refused(NoOutlet, lambda: desk.say("take c in")).who, "in")
        self.assertEqual(self.refused(Unknown, lambda: desk.say("turn c x 1")).who, "x")
        self.assertEqual(self.refused(NoGain, lambda: desk.say("turn c in 1 999")).who, "in")
        for number in (-1, 401, HUGE):
            self.refused(NoSteps, lambda: desk.say(f"turn c a 1 {number}"))
            self.refused(NoSteps, lambda: desk.say(f"fade c clash {number}"))
        desk.say("fade c a 3")
        self.refused(Fading, lambda: desk.say("fade c clash 999"))
        self.refused(NoSuch, lambda: desk.say("show x"))

    def test_what_is_refused_changes_nothing(self):
        desk = self.desk
        desk.say("hand c in 1 2")
        for row in ("weave a\nnone", "madeup a b", "begin c b", "begin c x", "hand c in 1 x", "hand c x 1", "take c x",
                    "turn c in 9 0", "turn c a 9 401", "fade c b 0", "hand c in 05"):
            with self.assertRaises(ValueError):
                desk.say(row)
        self.assertEqual(desk.play(["show a", "rounds c", "hand c in 5", "take c out", "same a a"]),
                         [weave_text(chain(Gain(2))), "2", "1", "2 4 10", "same"])

    def test_no_steps(self):
        for thing in no_wholes() + [-1, 401, HUGE, -HUGE]:
            self.refused(NoSteps, lambda: Desk(over=thing))
        self.refused(TypeError, lambda: Desk(3))
        Desk(over=400)
        Desk(over=0)


class Played(Refusing):
    def test_answers(self):
        desk = Desk()
        self.assertEqual(desk.play(rows=[told("a", echo()), "begin c a", "hand c in 1 2", "take c out"]),
                         ["ok", "ok", "2", "1 4"])
        self.assertEqual(desk.play([]), [])
        self.assertEqual(desk.play(["rounds c"]), ["2"])

    def test_up_to_the_first_refused_row(self):
        desk = Desk()
        error = self.refused(NoSuch, lambda: desk.play([told("a", echo()), "begin c a", "show b", "hand c in 1"]))
        self.assertEqual(error.who, "b")
        self.assertEqual(desk.play(["show a", "rounds c"]), [weave_text(echo()), "0"])
        self.refused(NoRow, lambda: desk.play(["hand c in 1", "hand c in", "hand c in 1"]))
        self.refused(NoInlet, lambda: desk.play(["hand c in 1", "hand c x 5"]))
        self.assertEqual(desk.say("rounds c"), "2")

    def test_log(self):
        desk = Desk()
        self.assertEqual(desk.log(), [])
        desk.say(told("a", echo()))
        desk.say("begin c a")
        self.assertEqual(desk.log(), [])
        desk.play(["rounds c", "show a", "hand c in 1"])
        self.assertEqual(desk.log(), [("begin", 2), ("end", 5)])
        self.refused(NoRow, lambda: desk.play(["rounds c", None, "rounds c"]))
        self.assertEqual(desk.log()[2:], [("begin", 5), ("end", 6)])
        self.refused(NoRow, lambda: desk.say("x"))
        self.refused(NoRow, lambda: desk.play(["x"]))
        desk.play([])
        desk.say("rounds c")
        desk.play(["rounds c"])
        self.assertEqual(desk.log()[4:], [("begin", 6), ("end", 6)] * 2 + [("begin", 7), ("end", 8)])

    def test_two_desks_know_nothing_of_each_other(self):
        one, other = Desk(over=3), Desk()
        one.play([told("a", echo()), "begin c a"])
        self.refused(NoSuch, lambda: other.say("show a"))
        self.refused(NoSuch, lambda: other.say("rounds c"))
        self.assertEqual(other.log(), [])
        other.play([told("a", chain(Gain(1))), "begin c a", "hand c in 1"])
        self.assertEqual((one.say("rounds c"), one.say("show a")), ("0", weave_text(echo())))
        self.assertEqual((one.log(), other.log()), ([("begin", 0), ("end", 2)], [("begin", 0), ("end", 3)]))

    def test_told_and_handed_lists_changed(self):
        desk = Desk()
        rows = [told("a", echo()), "begin c a"]
        answers = desk.play(rows)
        answers.append("x")
        self.assertEqual(len(rows), 2)
        rows.clear()
        desk.log().append("x")
        self.assertEqual(desk.log(), [("begin", 0), ("end", 2)])
        self.assertEqual(desk.play(["rounds c"]), ["0"])


class AsTheStages(unittest.TestCase):
    def test_takes_what_an_engine_tells(self):
        weave = chain(Up(3, True), Taps([1, -1]), Down(2))
        desk = desk_with(a=weave)
        desk.say("begin c a")
        engine = Engine(weave)
        for samples in ([1], [2, 3], [4, 5, 6]):
            desk.say(f"hand c in {' '.join(map(str, samples))}")
            engine.hand("in", samples)
        self.assertEqual(desk.say("take c out"), " ".join(map(str, engine.take("out"))))
        self.assertEqual(desk.say("counts a"), " ".join(f"{name} {many}" for name, many in counts(weave)[1]))
