"""The examples of the document's interface, in its sequence, one behind another as it tells them."""

import doctest
import unittest

EXAMPLES = """
>>> from movecells.plans import Plan
>>> plan = Plan.squares(2)
>>> [plan.signs(0), plan.place_of(0, 2), Plan.codes().counts(1)]
[4, (1, 0), (8, 4)]
>>> from movecells.maps import Map
>>> area = Map(plan, 8, 4, closed=["east"])
>>> [str(side) for side in area.sides(2)]
['2', '1']
>>> from movecells.names import cell, name_of
>>> [cell(plan, (2, 1)), name_of(plan, 2, (3, 0))]
[(2, 1), (2, 2)]
>>> from movecells.gaps import gap, way
>>> from movecells.places import name_at
>>> [name_at(area, (7, 1), 2), str(gap(area, "east", 1, 7)), way(area, "box", (1, 1), (2,))[1]]
[(2, 3), '2', False]
>>> from movecells.tables import Table
>>> from movecells.steps import step
>>> table = Table.right(plan)
>>> [step(table, (0, 2), "east"), step(table, (2,), "east")]
[((2, 0), False), ((0,), True)]
>>> from movecells.gauges import Gauge
>>> gauge = Gauge(area, 1, 1, "box")
>>> [str(gauge.greatest(1)), gauge(2), gauge.reached(0, 2)]
['2', 1, [(0, -1), (0, 0), (0, 1), (1, -1), (1, 0), (1, 1)]]
>>> from movecells.rules import Rule
>>> rule = Rule.whole(gauge)
>>> rule((0, 0), 2)
[(2,), (3,), (0,), (1,), (2,), (3,)]
>>> from movecells.missing import fewest_signs, misses_nothing
>>> [misses_nothing(rule), fewest_signs(rule.with_edges(("stop", "stop")))]
[True, 2]
>>> from movecells.alike import once_from
>>> from movecells.bounds import far_bound
>>> [once_from(rule), str(far_bound(rule))]
[2, '8']
"""


class TestInterface(unittest.TestCase):
    def test_examples(self):
        examples = doctest.DocTestParser().get_doctest(EXAMPLES, {}, "interface", None, 0)
        self.assertEqual(len(examples.examples), 26)
        told = []
        doctest.DocTestRunner().run(examples, out=told.append)
        self.assertEqual("".join(told), "")


if __name__ == "__main__":
    unittest.main()
