"""movecells/desk.py: stores that are led by commands [2], [93]."""

import random
import unittest

from movecells import desk as file
from movecells.desk import Desk
from movecells.errors import CommandFailed, InvalidCommand, InvalidDistance, InvalidPlace, NothingToUndo, TooMany, UnknownWord
from movecells.gauges import Gauge
from movecells.maps import Map
from movecells.ratios import Ratio
from movecells.rules import Rule
from movecells.stores import Store
from tests import models, search_models
from tests.models import fraction, ratio
from tests.support import Alike, Checks, Word, odd_values
from tests.test_graphs import GAUGE, SQUARES, WHOLE
from tests.test_stores import FEW, filled

AREA = GAUGE.area
NUMBERS = ["0", "1", "1/2", "7", "-1", "10/3", "-2/3", str(10 ** 50)]
NO_NUMBERS = ["", "x", "01", "+1", "1.0", "2/4", "1/1", "0/1", "1/0", "-0", "1/-2", "--1", "1e3", "1_0", " 1", "1/2/3", "/2", "1/"]
NO_WORDS = ["", "A", "a1", "ninechars", "a-b", "1", "-", "a,b", "a\n", "_"]


def commands():
    """Commands of all sorts."""
    found = ["undo", "drop a", "drop zzzzzzzz"]
    for number in NUMBERS:
        found = found + [f"put a {number} 0", f"put abcdefgh 0 {number}", f"near {number} 0 1", f"near 0 {number} 1"]
        found = found + [f"near 0 0 {number}", f"truth {number} {number} {number}"]
    return found


def no_commands():
    """Values that are no commands."""
    found = [value for value in odd_values() if not isinstance(value, str)] + [0, b"undo", ["undo"], ("undo",), Alike()]
    found = found + ["", " ", "Undo", "undo ", " undo", "undo 1", "undo a", "undo\n", "undone", "put", "drop", "near", "truth", "a", "east"]
    found = found + ["put a 0", "put a 0 0 0", "put 0 0", "put a", "drop a b", "drop a 0", "drop", "drop ", "near 0 0", "near 0 0 1 1"]
    found = found + ["truth 0 0", "truth a 0 0 1", "near a 0 0 1", "put  a 0 0", "put a  0 0", "put a 0 0 ", "near 0 0  1", "drop  a"]
    found = found + ["PUT a 0 0", "puts a 0 0", "near 0 0 1 ", "put\na 0 0", "put a 0\n0"]
    for word in NO_WORDS:
        found = found + [f"put {word} 0 0", f"drop {word}"]
    for number in NO_NUMBERS:
        found = found + [f"put a {number} 0", f"put a 0 {number}", f"near {number} 0 1", f"near 0 {number} 1", f"near 0 0 {number}"]
        found = found + [f"truth {number} 0 1", f"truth 0 {number} 1", f"truth 0 0 {number}"]
    return found


class DeskCase(Checks, unittest.TestCase):
    def fails_with(self, error, values, action, *args):
        """The call raises just this error, with values that are equal to these, Ratios as such."""
        with self.assertRaises(error) as caught:
            action(*args)
        self.assertIs(caught.exception.__class__, error)
        self.assertEqual(list(vars(caught.exception).values()), values)
        for told, value in zip(vars(caught.exception).values(), values):
            self.assertIs(told.__class__, value.__class__)

    def do(self, desk, command, goal):
        told = desk.do(command)
        self.assertIs(told.__class__, str)
        self.assertEqual(told, goal)


class TestCommands(DeskCase):
    def test_which_values_are_commands(self):
        desk = Desk(filled())
        for command in commands():
            self.assertIs(Desk.is_command(command), True, command)
            self.assertIs(desk.is_command(value=Word(command)), True)
        for value in no_commands():
            self.assertIs(Desk.is_command(value), False, value)
            self.fails(InvalidCommand, [value], desk.do, value)
        self.assertEqual((desk.store, desk.store.changes), (filled(), 4))

    def test_each_command(self):
        desk = Desk(store=Store(WHOLE))
        self.do(desk, "near 0 0 2", "-")
        self.do(desk, "put b 1 1", "put")
        self.do(desk, "put a 15/2 0", "put")
        self.assertEqual(desk.store["a"], (Ratio(15, 2), Ratio(0)))
        self.do(desk, "near 0 0 2", "a a b")
        self.do(desk, "truth 0 0 2", "a b")
        self.do(desk, "truth 0 0 1/2", "a")
        self.do(desk, "truth 0 0 1/3", "-")
        self.do(desk, "near 4 3 1/2", "-")
        self.do(desk, "put a 4 3", "put")
        self.do(desk, "drop b", "dropped")
        self.assertEqual(desk.store.changes, 4)
        self.do(desk, "undo", "undone")
        self.do(desk, "undo", "undone")
        self.do(desk, "near 0 0 1/2", "a")
        self.assertEqual(desk.do(command="undo"), "undone")
        self.do(desk, "undo", "undone")
        self.fails(NothingToUndo, [], desk.do, "undo")
        self.assertEqual((len(desk.store), desk.store.changes), (0, 0))

    def test_errors_of_the_store(self):
        desk = Desk(filled())
        for command, error, values in (
            ("put e 8 0", InvalidPlace, [(Ratio(8), Ratio(0))]), ("put e 0 -1/2", InvalidPlace, [(Ratio(0), Ratio(-1, 2))]),
            ("near 0 4 1", InvalidPlace, [(Ratio(0), Ratio(4))]), ("near -1 0 0", InvalidPlace, [(Ratio(-1), Ratio(0))]),
            ("truth 17/2 0 1", InvalidPlace, [(Ratio(17, 2), Ratio(0))]), ("near 0 0 0", InvalidDistance, [Ratio(0)]),
            ("near 0 0 -1/2", InvalidDistance, [Ratio(-1, 2)]), ("truth 0 0 0", InvalidDistance, [Ratio(0)]),
            ("drop e", UnknownWord, ["e"]), ("drop aa", UnknownWord, ["aa"]),
        ):
            self.fails_with(error, values, desk.do, command)
        small = str(ratio(search_models.greatest(GAUGE, 1000)).over(2))
        self.fails(TooMany, ["signs", 1000], desk.do, f"near 0 0 {small}")
        self.do(desk, f"truth 0 0 {small}", "d")
        self.assertEqual((desk.store, desk.store.changes), (filled(), 4))

    def test_this_very_store_is_led(self):
        store = filled()
        desk, other = Desk(store), Desk(store)
        self.assertIs(desk.store, store)
        self.do(desk, "put z 0 0", "put")
        self.assertIn("z", store)
        store.drop("a")
        self.do(other, "truth 7 0 1/2", "-")
        self.do(other, "undo", "undone")
        self.do(desk, "truth 7 0 1/2", "a")
        store.use(FEW)
        self.do(desk, "near 0 0 1", "b d z")
        self.do(desk, "undo", "undone")
        self.do(desk, "near 0 0 1", "a b d z")

    def test_everything_listed_stands_in_the_class(self):
        self.stands_in_class(Desk, "movecells.desk", methods=("__init__", "do", "do_all"), properties=("store",))
        self.assertIsInstance(vars(Desk)["is_command"], staticmethod)
        self.assertIs(file.Desk, Desk)
        desk = Desk(filled())
        for action, names in ((Desk, ["store"]), (desk.do, ["command"]), (desk.do_all, ["commands"]), (Desk.is_command, ["value"])):
            self.has_parameters(action, *names)
        with self.assertRaises(AttributeError):
            desk.store = None


class TestDoAll(DeskCase):
    def test_answers(self):
        desk = Desk(Store(WHOLE))
        told = desk.do_all("put a 7 0", "near 0 0 2", "undo", "put b 0 0", "truth 0 0 2")
        self.assertIs(told.__class__, list)
        self.assertEqual(told, ["put", "a a", "undone", "put", "b"])
        self.assertEqual((desk.do_all(), desk.store.changes), ([], 1))

    def test_if_one_fails_nothing_is_changed(self):
        small = str(ratio(search_models.greatest(GAUGE, 1000)).over(2))
        for wrong, error in (
            ("nothing", InvalidCommand), ("drop z", UnknownWord), ("put a 8 0", InvalidPlace), ("near 0 0 0", InvalidDistance),
            (f"near 0 0 {small}", TooMany), (None, InvalidCommand), (Alike(), InvalidCommand), ("undo", NothingToUndo),
        ):
            for before in ([], ["put z 0 0", "drop z"], ["undo", "undo", "put q 1 1", "drop a", "put a 1 1"], ["undo"] * 4):
                if wrong == "undo":
                    before = ["undo"] * 4
                desk = Desk(filled())
                store = desk.store
                with self.assertRaises(CommandFailed) as caught:
                    desk.do_all(*before, wrong, "put y 0 0", "nothing")
                self.is_integer(caught.exception.position, len(before))
                self.assertIs(caught.exception.__cause__.__class__, error)
                self.assertIs(desk.store, store)
                self.assertEqual((store, store.changes, store.rule), (filled(), 4, WHOLE))
                for changes in (3, 2, 1, 0):
                    store.undo()
                    self.assertEqual(store.words(), list("abcd"[:changes]))
                self.fails(NothingToUndo, [], store.undo)

    def test_the_errors_that_are_behind_it(self):
        desk = Desk(filled())
        with self.assertRaises(CommandFailed) as caught:
            desk.do_all("undo", "put a 9 9")
        self.assertEqual(caught.exception.__cause__.value, (Ratio(9), Ratio(9)))
        with self.assertRaises(CommandFailed) as caught:
            desk.do_all("drop a", "drop a")
        self.assertEqual((caught.exception.position, caught.exception.__cause__.value), (1, "a"))


class TestLongRuns(DeskCase):
    def test_long_runs_of_commands(self):
        """Commands of all sorts, with undo amid them, against a dict and a list of all that was."""
        rnd = random.Random(6)
        borders = [str(Ratio(at, 2)) for at in range(16)]
        for kind, area in (("box", AREA), ("sum", AREA), ("box", Map(SQUARES, 8, 4)), ("sum", Map(SQUARES, 8, 4, closed=["north"]))):
            rule = Rule.whole(Gauge(area, 1, Ratio(1, 2), kind)) - [(1, 1), (-1, 0)]
            desk = Desk(Store(rule))
            kept = [{}]
            for _ in range(250):
                places = kept[-1]
                word, east, north, d = rnd.choice("abcdefg"), rnd.choice(borders), rnd.choice(borders[:8]), rnd.choice(["1", "1/2", "2", "3/4"])
                place = (Ratio.read(east), Ratio.read(north))
                sort = rnd.randrange(7)
                if sort < 2:
                    self.do(desk, f"put {word} {east} {north}", "put")
                    kept.append({**places, word: place})
                elif sort == 2:
                    if word in places:
                        self.do(desk, f"drop {word}", "dropped")
                        kept.append({other: places[other] for other in places if other != word})
                    else:
                        self.fails(UnknownWord, [word], desk.do, f"drop {word}")
                elif sort == 3 and len(kept) > 1:
                    self.do(desk, "undo", "undone")
                    kept.pop()
                elif sort < 6:
                    distance = Ratio.read(d)
                    near = [
                        one for one in places
                        if models.distance(area, kind, place, places[one]) <= fraction(distance)
                    ]
                    self.do(desk, f"truth {east} {north} {d}", " ".join(sorted(near)) or "-")
                    f = search_models.fineness(rule.gauge, distance)
                    asked = search_models.asked(rule, place, distance)
                    told = [one for one in places for name in asked if models.name_at(area, places[one], f) == name]
                    self.do(desk, f"near {east} {north} {d}", " ".join(sorted(told)) or "-")
                else:
                    with self.assertRaises(CommandFailed) as caught:
                        desk.do_all(f"put {word} {east} {north}", "near 0 0 1", f"put {word} {east} -1")
                    self.assertEqual(caught.exception.position, 2)
                self.assertEqual((desk.store.places(), desk.store.changes), (kept[-1], len(kept) - 1))


if __name__ == "__main__":
    unittest.main()
