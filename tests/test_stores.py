"""movecells/stores.py: places by words, and changes that are taken back [2], [63], [93]."""

import random
import unittest

from movecells import stores as file
from movecells.errors import InvalidDistance, InvalidPlace, InvalidPlaces, InvalidRule, InvalidWord, NothingToUndo, OtherMap
from movecells.errors import TooMany, UnknownWord
from movecells.gauges import Gauge
from movecells.maps import Map
from movecells.ratios import Ratio
from movecells.rules import Rule
from movecells.stores import Store, Trial, tried
from tests import models, search_models
from tests.graph_models import some_rules
from tests.models import fraction, ratio
from tests.support import Alike, Checks, Row, Word, not_of, odd_values
from tests.test_gaps import wrong_distances
from tests.test_graphs import GAUGE, SQUARES, WHOLE
from tests.test_places import wrong_places

AREA = GAUGE.area
FEW = WHOLE - [(1, 0), (-1, 0)]
OTHER = Rule.whole(Gauge(AREA, Ratio(1, 2), 1, "sum"))
FOREIGN = Rule.whole(Gauge(Map(SQUARES, 8, 4), 1, 1, "box"))


def wrong_words():
    """Values that are no WORDS."""
    found = [value for value in odd_values() if value != "east"] + [0, 1, "A", "a1", "a b", " a", "ninechars", "a-b", "-", ["a"], Alike()]
    return found + [("a",), b"a", "Ab", "a\n"]


def filled(rule=WHOLE, **places):
    store = Store(rule)
    for word, place in (places or {"a": (7, 0), "b": (1, 1), "c": (3, 3), "d": (0, 0)}).items():
        store[word] = place
    return store


class Failed(Exception):
    """Goes out of a block."""


class StoreCase(Checks, unittest.TestCase):
    def holds(self, store, places, changes=None):
        """The store holds just these places."""
        self.assertIs(store.places().__class__, dict)
        self.assertEqual(list(store.places()), sorted(places))
        self.assertEqual((store.words(), len(store)), (sorted(places), len(places)))
        self.assertIs(store.words().__class__, list)
        for word, place in places.items():
            for told in (store[word], store.places()[word]):
                self.are_ratios(told, [fraction(number) for number in place])
            self.assertIs(word in store, True)
        if changes is not None:
            self.is_integer(store.changes, changes)


class TestPlaces(StoreCase):
    def test_put_and_drop(self):
        store = Store(rule=WHOLE)
        self.holds(store, {}, 0)
        store["b"] = (1, Ratio(3, 2))
        store["a"] = (Ratio(7), 0)
        self.holds(store, {"a": (7, 0), "b": (1, Ratio(3, 2))}, 2)
        store["b"] = (0, 0)
        self.holds(store, {"a": (7, 0), "b": (0, 0)}, 3)
        self.assertIs(store.drop("a"), None)
        self.holds(store, {"b": (0, 0)}, 4)
        store.drop(word="b")
        self.holds(store, {}, 5)
        self.assertIs("b" in store, False)

    def test_places_are_copied(self):
        place = Row((7, 3))
        store = filled(a=place)
        self.assertIs(store["a"].__class__, tuple)
        told = store.places()
        told.clear()
        store.words().clear()
        self.holds(store, {"a": (7, 3)}, 1)
        store[Word("longword")] = (0, 0)
        self.assertEqual([word.__class__ for word in store.words()], [str, str])
        self.assertIs(store.places() is store.places(), False)

    def test_wrong_words_and_places(self):
        store = filled()
        before = store.copy()
        for word in wrong_words():
            self.fails(InvalidWord, [word], store.__setitem__, word, (0, 0))
            self.fails(InvalidWord, [word], store.__setitem__, word, None)
            self.assertIs(Store.__contains__(store, word), False)
            self.fails(UnknownWord, [word], store.__getitem__, word)
            self.fails(UnknownWord, [word], store.drop, word)
        for word in ("e", "east", "abcdefgh", "aa"):
            self.assertIs(word in store, False)
            self.fails(UnknownWord, [word], store.__getitem__, word)
            self.fails(UnknownWord, [word], store.drop, word=word)
        for place in wrong_places(AREA):
            self.fails(InvalidPlace, [place], store.__setitem__, "a", place)
            self.fails(InvalidPlace, [place], store.__setitem__, "new", place)
        self.assertEqual(store, before)
        self.is_integer(store.changes, 4)

    def test_a_store_has_no_meaning_in_loops(self):
        with self.assertRaises(TypeError):
            list(filled())
        with self.assertRaises(TypeError):
            sorted(filled())


class TestRules(StoreCase):
    def test_another_rule(self):
        store = filled()
        self.assertEqual(store.rule, WHOLE)
        store.rule = FEW
        self.assertEqual(store.rule, FEW)
        self.assertIs(store.use(rule=OTHER), None)
        self.assertEqual((store.rule, store.changes), (OTHER, 6))
        store.rule = OTHER
        self.holds(store, filled().places(), 7)
        again = Rule.whole(Gauge(Map(SQUARES, 8, 4, closed=["east"]), Ratio(1, 2), 1, "sum"))
        store.use(again)
        self.assertEqual(store.changes, 8)

    def test_wrong_rules(self):
        store = filled()
        for rule in not_of(Rule) + [GAUGE]:
            self.fails(InvalidRule, [rule], Store, rule)
            self.fails(InvalidRule, [rule], store.use, rule)
            self.fails(InvalidRule, [rule], setattr, store, "rule", rule)
        for area in (Map(SQUARES, 8, 4), AREA * 2, AREA.turned()):
            rule = Rule.whole(Gauge(area, 1, 1, "box"))
            for action in (store.use, lambda rule: setattr(store, "rule", rule)):
                with self.assertRaises(OtherMap) as caught:
                    action(rule)
                self.assertEqual((caught.exception.one, caught.exception.other), (AREA, area))
        self.assertEqual((store.rule, store.changes), (WHOLE, 4))


class TestNear(StoreCase):
    def goals(self, store, place, d):
        """What is told, near in truth, and missed, reckoned by themselves."""
        rule = store.rule
        area = rule.gauge.area
        asked = search_models.asked(rule, place, d)
        f = search_models.fineness(rule.gauge, d)
        cells = {word: models.name_at(area, one, f) for word, one in store.places().items()}
        told = [word for word in cells for name in asked if cells[word] == name]
        near = [
            word for word, one in store.places().items()
            if models.distance(area, rule.gauge.kind, place, one) <= fraction(d)
        ]
        return sorted(told), sorted(near), sorted(word for word in near if cells[word] not in asked)

    def test_all_sorts_of_rules(self):
        rnd = random.Random(4)
        missed = twice = 0
        for rule in some_rules(40):
            area = rule.gauge.area
            places = rnd.sample(models.corners(area, 2), 20)
            store = filled(rule, **{"w" + "abcdefghijklmnopqrst"[at]: place for at, place in enumerate(places[:14])})
            for place in places[12:]:
                for d in (search_models.greatest(rule.gauge, f) * part for f in (1, 2, 3) for part in (1, 2)):
                    told, near, not_told = self.goals(store, place, ratio(d))
                    for one, other in (
                        (store.near(place, ratio(d)), told), (store.truth(place, ratio(d)), near), (store.missed(place, ratio(d)), not_told),
                    ):
                        self.assertIs(one.__class__, list)
                        self.assertEqual(one, other)
                    missed += len(not_told)
                    twice += len(told) != len(set(told))
        self.assertGreater(min(missed, twice), 20)

    def test_by_names_and_of_none(self):
        store = filled()
        self.assertEqual(store.near(d=2, place=(0, 0)), ["a", "a", "b", "c", "d"])
        self.assertEqual(store.truth(d=1, place=(0, 0)), ["a", "b", "d"])
        store.use(WHOLE - [(-1, 0)])
        self.assertEqual(store.missed(d=1, place=(0, 0)), ["a"])
        self.assertEqual((Store(WHOLE).near((0, 0), 1), Store(WHOLE).truth((0, 0), 1), Store(WHOLE).missed((0, 0), 1)), ([], [], []))

    def test_wrong_arguments(self):
        for store in (filled(), Store(WHOLE)):
            for action in (store.near, store.truth, store.missed):
                right = {"place": (0, 0), "d": 1}
                self.has_parameters(action, *right)
                self.fails_for_each(InvalidPlace, wrong_places(AREA), action, right, "place")
                self.fails_for_each(InvalidDistance, wrong_distances(), action, right, "d")
                place = (8, 0)
                wrong = {"place": (place, InvalidPlace, [place]), "d": (0, InvalidDistance, [0])}
                self.fails_in_sequence(action, right, wrong)

    def test_distances_beyond_a_thousand_signs(self):
        small = ratio(search_models.greatest(GAUGE, 1000))
        for store in (filled(), Store(WHOLE)):
            self.assertEqual(store.near((0, 0), small), ["d"] if len(store) else [])
            self.assertEqual(store.missed((0, 0), small), [])
            for action in (store.near, store.missed):
                self.fails(TooMany, ["signs", 1000], action, (0, 0), small.over(2))
                place = (0, 4)
                self.fails(InvalidPlace, [place], action, place, small.over(2))
            self.assertEqual(store.truth((0, 0), small.over(2)), ["d"] if len(store) else [])


class TestJoined(StoreCase):
    def test_places_of_another_store(self):
        store, other = filled(a=(7, 0), b=(1, 1)), filled(FEW, b=(2, 2), c=(3, 3))
        same = store
        store += other
        self.assertIs(store, same)
        self.holds(store, {"a": (7, 0), "b": (2, 2), "c": (3, 3)}, 3)
        self.holds(other, {"b": (2, 2), "c": (3, 3)}, 2)
        self.assertEqual(store.rule, WHOLE)
        other["d"] = (0, 0)
        store.drop("c")
        self.holds(store, {"a": (7, 0), "b": (2, 2)}, 4)
        self.holds(other, {"b": (2, 2), "c": (3, 3), "d": (0, 0)}, 3)
        store.undo()
        store.undo()
        self.holds(store, {"a": (7, 0), "b": (1, 1)}, 2)

    def test_the_same_store_and_an_empty_one(self):
        store = filled()
        store += store
        self.holds(store, filled().places(), 5)
        store += Store(WHOLE)
        self.holds(store, filled().places(), 6)

    def test_wrong_values(self):
        store = filled()
        for value in not_of(Store) + [WHOLE, {"a": (0, 0)}, [("a", (0, 0))]]:
            self.fails(InvalidPlaces, [value], store.__iadd__, value)
        with self.assertRaises(OtherMap) as caught:
            store += Store(FOREIGN)
        self.assertEqual((caught.exception.one, caught.exception.other), (AREA, FOREIGN.gauge.area))
        self.holds(store, filled().places(), 4)


class TestUndo(StoreCase):
    def test_long_runs_of_changes(self):
        """Each change is taken back to what a list of all that was has kept."""
        rnd = random.Random(8)
        for _ in range(12):
            store = Store(WHOLE)
            kept = [(WHOLE, {})]
            for _ in range(120):
                rule, places = kept[-1]
                word = rnd.choice("abcde")
                place = (rnd.randrange(8), Ratio(rnd.randrange(12), 3))
                sort = rnd.randrange(8)
                if sort < 3:
                    store[word] = place
                    kept.append((rule, {**places, word: place}))
                elif sort == 3 and word in places:
                    store.drop(word)
                    kept.append((rule, {other: places[other] for other in places if other != word}))
                elif sort == 4:
                    rule = rnd.choice((WHOLE, FEW, OTHER))
                    store.use(rule)
                    kept.append((rule, places))
                elif sort == 5:
                    store += filled(OTHER, **{word: place, "x": (0, 0)})
                    kept.append((rule, {**places, word: place, "x": (0, 0)}))
                elif len(kept) > 1:
                    self.assertIs(store.undo(), None)
                    kept.pop()
                else:
                    self.fails(NothingToUndo, [], store.undo)
                self.assertEqual(store.rule, kept[-1][0])
                self.holds(store, kept[-1][1], len(kept) - 1)
                # A store that is made anew behaves alike.
                anew = filled(kept[-1][0], **kept[-1][1]) if kept[-1][1] else Store(kept[-1][0])
                self.assertIs(store == anew, True)
                self.assertEqual(store.near(place, Ratio(1, 2)), anew.near(place, Ratio(1, 2)))

    def test_changes_by_which_all_stays(self):
        store = filled()
        store["a"] = store["a"]
        store.rule = store.rule
        store += Store(WHOLE)
        self.holds(store, filled().places(), 7)
        for _ in range(7):
            store.undo()
        self.holds(store, {}, 0)
        for _ in range(2):
            self.fails(NothingToUndo, [], store.undo)

    def test_many_changes(self):
        store = Store(WHOLE)
        for at in range(300):
            store["w"] = (Ratio(at, 50), 0)
        self.is_integer(store.changes, 300)
        for at in reversed(range(300)):
            self.assertEqual(store["w"], (Ratio(at, 50), Ratio(0)))
            store.undo()
        self.holds(store, {}, 0)


class TestCopy(StoreCase):
    def test_copies_change_independently(self):
        store = filled()
        other = store.copy()
        self.assertIs(other.__class__, Store)
        self.assertIs(store == other, True)
        self.is_integer(other.changes, 4)
        other.drop("a")
        store["z"] = (0, 0)
        store.use(FEW)
        self.holds(other, {"b": (1, 1), "c": (3, 3), "d": (0, 0)}, 5)
        self.assertEqual((other.rule, store.rule), (WHOLE, FEW))
        for _ in range(5):
            other.undo()
        self.holds(other, {}, 0)
        self.is_integer(store.changes, 6)

    def test_equal(self):
        store = filled()
        self.assertIs(store == filled(d=(0, 0), c=(3, 3), b=(1, 1), a=(Ratio(7), 0)), True)
        store["a"] = (6, 0)
        store["a"] = (7, 0)
        self.assertIs(store == filled(), True)
        self.assertIs(store != filled(), False)
        for other in (
            filled(a=(7, 0)), filled(FEW, a=(7, 0), b=(1, 1), c=(3, 3), d=(0, 0)), Store(WHOLE),
            filled(a=(7, 0), b=(1, 1), c=(3, 3), d=(0, 1)), filled(a=(7, 0), b=(1, 1), c=(3, 3), e=(0, 0)),
        ):
            self.assertIs(store == other, False)
            self.assertIs(store != other, True)
        for value in odd_values() + [store.places(), WHOLE, 0]:
            self.assertIs(store == value, False)

    def test_everything_listed_stands_in_the_class(self):
        methods = "__init__ use __getitem__ __setitem__ drop __contains__ __len__ words places near truth missed __iadd__ undo"
        methods = methods.split() + ["copy", "__eq__"]
        self.stands_in_class(Store, "movecells.stores", methods=methods, properties=("rule", "changes"))
        self.stands_in_class(Trial, "movecells.stores", methods=("__init__", "__enter__", "__exit__"))
        self.assertEqual((tried.__module__, file.tried), ("movecells.stores", tried))
        store = filled()
        for action, names in (
            (Store, ["rule"]), (store.use, ["rule"]), (store.drop, ["word"]), (store.undo, []), (store.copy, []), (store.words, []),
            (store.places, []), (Trial, ["store"]), (tried, ["store", "action"]),
        ):
            self.has_parameters(action, *names)
        with self.assertRaises(AttributeError):
            store.changes = 0


class TestTrial(StoreCase):
    def changed(self, store):
        store.undo()
        store.undo()
        store["x"] = (0, 0)
        store.rule = FEW
        store += filled(OTHER, y=(1, 1))
        store.drop("a")
        store["b"] = (2, 2)
        self.holds(store, {"b": (2, 2), "x": (0, 0), "y": (1, 1)}, 7)

    def test_all_is_taken_back(self):
        store = filled()
        with Trial(store) as held:
            self.assertIs(held, store)
            self.changed(store)
        self.assertEqual(store.rule, WHOLE)
        self.holds(store, filled().places(), 4)
        store.undo()
        self.holds(store, {"a": (7, 0), "b": (1, 1), "c": (3, 3)}, 3)

    def test_errors_go_on(self):
        store = filled()
        for error in (Failed, KeyError, UnknownWord):
            with self.assertRaises(error):
                with Trial(store=store) as held:
                    self.changed(held)
                    raise error("x")
            self.holds(store, filled().places(), 4)
        with self.assertRaises(NothingToUndo):
            with Trial(store) as held:
                for _ in range(5):
                    held.undo()
        self.holds(store, filled().places(), 4)

    def test_blocks_that_are_left_early(self):
        store = filled()
        for _ in range(3):
            with Trial(store) as held:
                held.drop("a")
                continue

        def left():
            with Trial(store) as held:
                held.drop("b")
                return len(held)

        self.assertEqual(left(), 3)
        self.holds(store, filled().places(), 4)

    def test_one_behind_another_and_within(self):
        store = filled()
        trial = Trial(store)
        store["e"] = (0, 1)
        for word in ("a", "b"):
            with trial as held:
                held.drop(word)
                with Trial(held) as inner:
                    inner.drop("c")
                    inner.undo()
                    inner.undo()
                    self.holds(store, {**filled().places(), "e": (0, 1)}, 5)
                self.assertEqual((word in store, "c" in store, store.changes), (False, True, 6))
            self.holds(store, {**filled().places(), "e": (0, 1)}, 5)
            store["e"] = (0, 1)
            store.undo()

    def test_tried(self):
        store = filled()
        told = object()

        def action(held):
            self.assertIs(held, store)
            self.changed(held)
            return told

        self.assertIs(tried(store, action), told)
        self.assertIs(tried(action=action, store=store), told)
        self.assertEqual(tried(store, lambda held: held.changes), 4)
        self.holds(store, filled().places(), 4)
        with self.assertRaises(UnknownWord):
            tried(store, lambda held: held.drop("z"))
        self.assertIs(tried(store, Store.undo), None)
        self.holds(store, filled().places(), 4)


if __name__ == "__main__":
    unittest.main()
