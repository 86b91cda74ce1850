"""movecells/texts.py: texts of plans, maps, tables and rules, told and read [2], [91]."""

import random
import unittest

from movecells import texts as file
from movecells.errors import InvalidMap, InvalidPlan, InvalidRule, InvalidTable, InvalidText
from movecells.gauges import Gauge
from movecells.maps import Map
from movecells.plans import Plan
from movecells.ratios import Ratio
from movecells.rules import Rule
from movecells.tables import Table
from movecells.texts import map_text, plan_text, read_map, read_plan, read_rule, read_table, rule_text, table_text
from tests import models, text_models
from tests.graph_models import STAY, sample_rules, some_rules, written_otherwise
from tests.support import Alike, Checks, Word, not_of, odd_values
from tests.test_graphs import GAUGE, SQUARES, WHOLE

THREE = Plan([("north", 3)], [("east", 3), ("east", 2)], [("north", 2)])
AREA = Map(THREE, 7, Ratio(3, 4), closed=["north"])
RULE = Rule(
    Gauge(AREA, Ratio(1, 2), 1, "sum"), written_otherwise(THREE), [(1, 1), STAY], edges=("stop", "seam"),
    looks={(1, 5): [STAY], (0, 2): [(1, -1), STAY, (-1, 0)], (1, 0): [STAY, (0, 1)]},
)
READERS = {"plan": read_plan, "map": read_map, "rule": read_rule}
# What is put in the place of words.
WORDS = [
    "", "0", "1", "8", "01", "+1", "-1", "1/2", "2/4", "4/2", "0/1", "1/0", "1/1", "-0", "1.0", "e2", "e5", "e1", "n4", "x2", "E2",
    "e", "e22", "e02", "east", "north", "open", "closed", "close", "begins", "entries", "entry", "0:0", "1:7", "1:8", "1:", ":1",
    "1:0:0", "31", "32", "gauge", "box", "sum", "bow", "edges", "seam", "stop", "moves", "0,0", "-1,-1", "1,1", "1,2", "0,-0",
    "0,0,0", "look", "2", "3", "7", "5",
]


def texts():
    """Right texts of each kind, with the rounds of the plan."""
    found = []
    for rule in [WHOLE, RULE] + some_rules(5):
        rounds = rule.table.plan.rounds()
        found.append(("plan", plan_text(rule.table.plan), rounds))
        found.append(("map", map_text(rule.gauge.area), rounds))
        found.append(("table", table_text(rule.table), rounds))
        found.append(("rule", rule_text(rule), rounds))
    return found


class TextCase(Checks, unittest.TestCase):
    def is_read(self, kind, text, rounds):
        """A text is read if it is right, and told again just so; otherwise the wrong line is told."""
        told = text_models.wrong_line(kind, text, rounds)
        if kind == "table":
            plan = Plan(*rounds)
            if told is None:
                self.assertEqual(table_text(read_table(plan, text)), text)
            else:
                self.fails(InvalidText, [told], read_table, plan, text)
        elif told is None:
            teller = {"plan": plan_text, "map": map_text, "rule": rule_text}[kind]
            self.assertEqual(teller(READERS[kind](text)), text)
        else:
            self.fails(InvalidText, [told], READERS[kind], text)
        return told


class TestTexts(TextCase):
    def test_what_is_told(self):
        self.assertEqual(plan_text(plan=THREE), "n3\ne3 e2\nn2\n")
        self.assertEqual(plan_text(Plan.codes()), "e2 n2 e2 n2 e2\nn2 e2 n2 e2 n2\n")
        self.assertEqual(map_text(area=AREA), "n3\ne3 e2\nn2\neast 7 open\nnorth 3/4 closed\n")
        table = Table(SQUARES, [[[(1, None), (0, 0), (3, None), (2, 0)]], [[(0, 1), (1, None), (2, None), (3, None)]]], (1, 0, 1, 1))
        text = "begins 1 0 1 1\nentries 1 0:0 3 2:0\nentries 0:1 1 2 3\n"
        self.assertEqual(table_text(table=table), text)
        looks = {(0, 3): [(1, -1), STAY], (0, 1): [STAY]}
        rule = Rule(Gauge(Map(SQUARES, 8, Ratio(1, 3), closed=["east"]), 1, Ratio(1, 2), "sum"), table, [(1, 0), STAY], looks=looks)
        self.assertEqual(rule_text(rule=rule), (
            "e2 n2\neast 8 closed\nnorth 1/3 open\n" + text
            + "gauge sum 1 1/2\nedges seam seam\nmoves 0,0 1,0\nlook 0 1 0,0\nlook 0 3 0,0 1,-1\n"
        ))

    def test_there_and_back(self):
        for rule in sample_rules() + [WHOLE, RULE]:
            area, table = rule.gauge.area, rule.table
            for teller, reader, value in (
                (plan_text, read_plan, area.plan), (map_text, read_map, area), (rule_text, read_rule, rule),
                (table_text, lambda text: read_table(area.plan, text), table),
            ):
                text = teller(value)
                self.assertIs(text.__class__, str)
                again = reader(text)
                self.assertIs(again.__class__, value.__class__)
                self.assertEqual(again, value)
                self.assertEqual(teller(again), text)
                self.assertEqual(teller(reader(Word(text))), text)
        self.assertEqual(read_table(text=table_text(RULE.table), plan=THREE), RULE.table)
        self.assertEqual((read_plan(text="e2 n2\n"), read_map(text=map_text(AREA))), (SQUARES, AREA))
        self.assertEqual(read_rule(text=rule_text(RULE)), RULE)

    def test_great_numbers(self):
        for number in (10 ** 59, Ratio(1, 10 ** 59 + 1), Ratio(10 ** 59, 3)):
            area = Map(SQUARES, number, 1)
            self.assertEqual(read_map(map_text(area)), area)
        long = Map(SQUARES, Ratio(10 ** 900, 7), 1)
        self.assertEqual(read_map(map_text(long)), long)

    def test_all_rounds_and_states(self):
        for at, rounds in enumerate(models.ROUNDS):
            plan = Plan(*rounds)
            self.assertEqual(read_plan(plan_text(plan)), plan)
            for many in (1, 8):
                states = [[[(0, many - 1)] * plan.signs(phase) for phase in range(len(plan))]] * many
                table = Table(plan, states, (0, many - 1, 0, 0))
                self.assertEqual(read_table(plan, table_text(table)), table)


class TestWrongTexts(TextCase):
    def test_texts_that_are_spoiled_in_one_place(self):
        """Lines and words that are left out, doubled, exchanged or put in, blanks and line feeds too many or too few."""
        rnd = random.Random(11)
        told = {}
        for kind, text, rounds in texts():
            *lines, _ = text.split("\n")
            changed = [text + "\n", text[:-1], "\n" + text, text + " ", text + "x", text + lines[-1] + "\n", text + text, text[1:]]
            for at in range(len(lines)) if len(lines) < 20 else sorted(rnd.sample(range(len(lines)), 20)):
                changed.append("".join(line + "\n" for line in lines[:at]))
                changed.append("".join(line + "\n" for line in lines[:at]) + lines[at])
                for other in (
                    [], [""], [lines[at]] * 2, lines[at + 1:at + 2] + [lines[at]], [lines[at] + " "], [" " + lines[at]],
                    [lines[at].replace(" ", "  ", 1)], [lines[at].replace(" ", "\n", 1)], [lines[at].upper()],
                    [lines[at] + " 0"], [lines[at], "e2"], [lines[at], "n3 n2"],
                ):
                    changed.append("".join(line + "\n" for line in lines[:at] + other + lines[at + 1:]))
                words = lines[at].split(" ")
                for position in models.some(range(len(words)), 4):
                    less = words[:position] + words[position + 1:]
                    twice = words[:position + 1] + words[position:]
                    turned = words[:position] + words[position + 1:position + 2] + [words[position]] + words[position + 2:]
                    others = [words[:position] + [word] + words[position + 1:] for word in rnd.sample(WORDS, 8)]
                    for new in [less, twice, turned] + others:
                        changed.append("".join(line + "\n" for line in lines[:at] + [" ".join(new)] + lines[at + 1:]))
            for other in changed:
                found = self.is_read(kind, other, rounds)
                told[(kind, found is None)] = told.get((kind, found is None), 0) + 1
        self.assertEqual(len(told), 8)

    def test_each_kind_of_wrong_line(self):
        right = "e2 n2\neast 8 closed\nnorth 1/3 open\nbegins 0 0 0 0\nentries 0 1 2:0 3\ngauge box 1 1\nedges seam stop\nmoves 0,0\n"
        read_rule(right)
        for old, new, line in (
            ("e2 n2\n", "", 1), ("e2 n2", "n2 e2 ", 1), ("e2 n2", "e2 n3", 2), ("e2 n2", "e4 n4 e4", 1), ("e2 n2", "e4 n4 e2 n2", 1),
            ("e2 n2", "e2", 2), ("e2 n2", "e2\nn2\ne2 n2\ne2 n2", 4), ("e2 n2", "e2\nn4\nn2", 4), ("e2 n2", "e2 n2 e2 n2 e2 n2", 1),
            ("8", "0", 2), ("8", "-8", 2), ("8", "8/1", 2), ("8", "16/2", 2), ("8", "08", 2), ("8", "eight", 2), ("closed", "shut", 2),
            ("east", "north", 2), ("north", "east", 3), ("1/3", "2/6", 3), ("1/3 open\n", "1/3 open", 3), ("open", "open open", 3),
            ("begins 0 0 0 0", "begins 0 0 0", 4), ("begins 0 0 0 0", "begins 0 0 0 8", 4), ("begins 0 0 0 0", "begins 0 0 0 1", 6),
            ("2:0", "2:1", 6), ("2:0", "2:8", 5), ("2:0", "4", 5), ("2:0 3", "2:0", 5), ("2:0 3", "2:0 3 3", 5), ("2:0", "2:", 5),
            ("entries 0 1 2:0 3\n", "", 5), ("entries 0 1 2:0 3\n", "entries 0 1 2:0 3\n" * 9, 13), ("entries 0", "entry 0", 5),
            ("box", "disc", 6), ("gauge box 1 1", "gauge box 1 2", 6), ("gauge box 1 1", "gauge box 0 1", 6),
            ("gauge box 1 1", "gauge box 1", 6), ("gauge box 1 1", "gauge box 1/1 1", 6), ("seam stop", "seam", 7),
            ("seam stop", "seam halt", 7), ("moves 0,0", "moves", 8), ("moves 0,0", "moves 1,0", 8), ("moves 0,0", "moves 0,0 0,0", 8),
            ("moves 0,0", "moves 1,0 0,0", 8), ("moves 0,0", "moves 0,0 2,0", 8), ("moves 0,0\n", "moves 0,0", 8),
            ("moves 0,0\n", "", 8), ("moves 0,0\n", "moves 0,0\n\n", 9), ("moves 0,0\n", "moves 0,0\nmoves 0,0\n", 9),
            ("moves 0,0\n", "moves 0,0\nlook 0 4 0,0\n", 9), ("moves 0,0\n", "moves 0,0\nlook 1 0 0,0\n", 9),
            ("moves 0,0\n", "moves 0,0\nlook 0 3\n", 9), ("moves 0,0\n", "moves 0,0\nlook 0 3 1,0\n", 9),
            ("moves 0,0\n", "moves 0,0\nlook 0 3 0,0\nlook 0 3 0,0\n", 10), ("moves 0,0\n", "moves 0,0\nlook 0 3 0,0\nlook 0 2 0,0\n", 10),
            ("moves 0,0\n", "moves 0,0\nlook 0 03 0,0\n", 9), ("moves 0,0\n", "moves 0,0\nlook 0 3 0,0 0,1", 9),
        ):
            text = right.replace(old, new, 1)
            self.assertNotEqual(text, right)
            self.fails(InvalidText, [line], read_rule, text)
            self.assertEqual(text_models.wrong_line("rule", text), line)

    def test_rounds_that_are_not_balanced(self):
        for text, line in (
            ("e2\n", 2), ("e2\nn3\n", 3), ("e2\nn2\ne2\n", 4), ("e2\nn2\ne2\nn2\n", 4), ("e4 e4\nn4 n4\nn2 e2\nx", 4), ("e2\nx", 2),
            ("e2\nx\n", 2), ("", 1), ("\n", 1), (" ", 1), ("x", 1), ("e2 n2", 1), ("e2 n2\n\n", 2), ("e2 n2\ne3 n2\n", 3),
        ):
            self.fails(InvalidText, [line], read_plan, text)
        self.assertEqual(len(read_plan("e4 e4\nn4 n4\nn2 e2\n")), 3)
        for text, line in (("e2\neast 1 open\nnorth 1 open\n", 2), ("e2\nn2\ne2\neast 1 open\n", 4), ("e2\nn2\n", 3), ("", 1)):
            self.fails(InvalidText, [line], read_map, text)
            self.fails(InvalidText, [line], read_rule, text)

    def test_states_that_do_not_come(self):
        plan = Plan([("east", 2)], [("north", 2)])
        for text, line in (
            ("begins 0 0 0 0\nentries 0 1\nentries 0 1\n", None), ("begins 0 0 0 0\nentries 0 1:1\nentries 0 1\n", 4),
            ("begins 0 0 0 1\nentries 0 1\nentries 0 1\n", 4), ("begins 0 0 0 0\nentries 0 1\n", 3),
            ("begins 0 0 0 0\nentries 0 1\nentries 0 1\nentries 0 1\n", 5), ("begins 7 0 0 0\n", 2), ("", 1),
            ("begins 0 0 0 0\n" + "entries 0 1:7\n" * 16, None), ("begins 0 0 0 0\n" + "entries 0 1\n" * 17, 18),
            ("begins 0 0 0 0\n" + "entries 0 1:7\n" * 14, 16), ("begins 0 0 0 0\nentries 0 1:1\nentries 0 1", 3),
        ):
            if line is None:
                self.assertEqual(table_text(read_table(plan, text)), text)
            else:
                self.fails(InvalidText, [line], read_table, plan, text)

    def test_values_of_other_kinds(self):
        wrong = [value for value in odd_values() if not isinstance(value, str)] + [0, 1, b"e2 n2\n", ["e2 n2\n"], SQUARES, Alike()]
        for value in wrong:
            for reader in READERS.values():
                self.fails(InvalidText, [1], reader, value)
            self.fails(InvalidText, [1], read_table, SQUARES, value)
        for value in odd_values():
            if isinstance(value, str):
                for reader in READERS.values():
                    self.fails(InvalidText, [1], reader, value)

    def test_wrong_arguments(self):
        for action, name, error, kind in (
            (plan_text, "plan", InvalidPlan, Plan), (map_text, "area", InvalidMap, Map), (table_text, "table", InvalidTable, Table),
            (rule_text, "rule", InvalidRule, Rule),
        ):
            self.has_parameters(action, name)
            self.assertEqual((action.__module__, getattr(file, action.__name__)), ("movecells.texts", action))
            self.fails_for_each(error, not_of(kind) + [GAUGE], action, {}, name)
        for action in READERS.values():
            self.has_parameters(action, "text")
        right = {"plan": SQUARES, "text": table_text(Table.right(SQUARES))}
        self.has_parameters(read_table, *right)
        self.fails_for_each(InvalidPlan, not_of(Plan), read_table, right, "plan")
        self.fails_in_sequence(read_table, right, {"plan": (None, InvalidPlan, [None]), "text": ("", InvalidText, [1])})


if __name__ == "__main__":
    unittest.main()
