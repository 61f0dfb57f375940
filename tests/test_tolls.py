import copy

import plain
from anything import Touchy, no_costs, no_grammars, no_texts
from forestread.errors import NoCosts, NoGrammar, NoText
from forestread.tolls import tolls
from refusals import RefusalTest
from samples import NAMED, SUMS, drawn, name_of, sized, texts_for

GREAT = 10 ** 60
ALL_COSTS = [
    (1, 1, 1), (2, 3, 4), (0, 0, 0), (0, 1, 1), (1, 0, 1), (1, 1, 0), (0, 0, 5), (5, 0, 0), (1, 1, 9),
    (GREAT, GREAT, GREAT), (GREAT, GREAT - 1, 1), (GREAT - 1, 0, GREAT),
]


def nodes_told(grammar, text):
    """The nodes that point 23 names, whether or not they have a toll."""
    places = range(len(text) + 1)
    spans = [(begin, end) for begin in places for end in places[begin:]]
    parts = {rule[0] for rule in grammar} | {part for rule in grammar for part in rule[1] if part.startswith("'")}
    nodes = {(part, *span) for part in parts for span in spans}
    return nodes | {
        (number, done, *span)
        for number, rule in enumerate(grammar) for done in range(len(rule[1]) + 1) for span in spans
    }


class TollsTest(RefusalTest):

    def check(self, grammar, text, costs):
        before = copy.deepcopy(grammar)
        with self.subTest(grammar=grammar, text=text, costs=costs):
            told = tolls(grammar, text, costs)
            self.assertIs(type(told), dict)
            self.assertEqual(told, plain.tolls(grammar, text, costs))
            self.assertLessEqual(set(told), nodes_told(grammar, text))
            self.assertEqual(grammar, before)
            for toll in told.values():
                self.assertIs(type(toll), tuple)
                self.assertEqual(len(toll), 2)

    def test_signs_by_hand(self):
        told = tolls([("S", ("'a", "'b"), 0)], "ab", (10, 100, 1000))
        self.assertEqual(told["'a", 0, 0], (10, 0))
        self.assertEqual(told["'a", 0, 1], (0, 0))
        self.assertEqual(told["'a", 1, 2], (110, 0))
        self.assertEqual(told["'a", 0, 2], (100, 0))
        self.assertEqual(told["'b", 0, 2], (100, 0))
        told = tolls([("S", ("'c",), 0)], "ab", (10, 100, 50))
        self.assertEqual(told["'c", 0, 1], (50, 0))
        self.assertEqual(told["'c", 0, 2], (150, 0))
        self.assertEqual(told["'c", 2, 2], (10, 0))

    def test_rules_by_hand(self):
        told = tolls([("S", ("'a", "S"), 7), ("S", (), 9)], "ba", (1, 1, 1))
        self.assertEqual(told["S", 0, 2], (1, 2))
        self.assertEqual(told["S", 0, 0], (0, 1))
        self.assertEqual(told["S", 0, 1], (1, 1))
        self.assertEqual(told[0, 0, 0, 2], (2, 1))
        self.assertEqual(told[0, 1, 0, 2], (1, 1))
        self.assertEqual(told[0, 2, 0, 2], (1, 2))
        self.assertEqual(told[1, 0, 0, 1], (1, 1))

    def test_the_least_number_of_rules_for_the_least_cost(self):
        grammar = [("S", ("A",), 0), ("A", ("B",), 0), ("B", ("'a",), 0), ("S", ("'b",), 0)]
        told = tolls(grammar, "a", (1, 1, 1))
        self.assertEqual(told["S", 0, 1], (0, 3))
        self.assertEqual(tolls(grammar, "a", (0, 0, 0))["S", 0, 1], (0, 1))
        self.assertEqual(tolls(grammar, "", (1, 1, 1))["S", 0, 0], (1, 1))

    def test_no_rules(self):
        for text in ("", "a", "abc"):
            self.assertEqual(tolls([], text, (1, 1, 1)), {})

    def test_the_empty_text(self):
        self.assertEqual(tolls([("S", ("'a", "S"), 0), ("S", ("'b",), 1)], "", (3, 4, 5)), {
            ("'a", 0, 0): (3, 0), ("'b", 0, 0): (3, 0), ("S", 0, 0): (3, 1),
            (0, 0, 0, 0): (0, 1), (0, 1, 0, 0): (3, 1), (0, 2, 0, 0): (6, 2), (1, 0, 0, 0): (0, 1), (1, 1, 0, 0): (3, 1),
        })

    def test_nodes_without_a_toll_are_not_there(self):
        grammar = [("S", ("'a", "NONE", "'b"), 0), ("R", ("R", "'a"), 0), ("S", ("R",), 0), ("T", ("'t", "S"), 0)]
        told = tolls(grammar, "ab", (1, 1, 1))
        self.assertEqual({node[0] for node in told if len(node) == 3}, {"'a", "'b", "'t"})
        self.assertEqual({node[:2] for node in told if len(node) == 4}, {(0, 0), (0, 1), (1, 0), (2, 0), (3, 0), (3, 1)})

    def test_all_nodes_that_are_named(self):
        for text in ("", "1", "1+1z"):
            self.assertEqual(set(tolls(SUMS, text, (1, 1, 1))), nodes_told(SUMS, text))

    def test_named_grammars(self):
        for grammar in NAMED.values():
            for text in ("", "a", "ab", "zaz", "aab", "1+1", "(1"):
                for costs in ALL_COSTS[:4] + ALL_COSTS[-3:]:
                    self.check(grammar, text, costs)

    def test_each_kind_of_costs(self):
        for name in ("sums", "middle", "round", "beside nothing", "many nothings", "twice"):
            for costs in ALL_COSTS:
                for text in ("", "b", "abz", "aabb"):
                    self.check(NAMED[name], text, costs)

    def test_drawn_grammars(self):
        for place, grammar in enumerate(drawn(91, 60)):
            for text in texts_for(grammar, 2):
                self.check(grammar, text, ALL_COSTS[place % len(ALL_COSTS)])
        for place, grammar in enumerate(drawn(92, 20, most_rules=9, most_parts=6)):
            self.check(grammar, "abba", ALL_COSTS[place % len(ALL_COSTS)])

    def test_tolls_of_many_rules(self):
        grammar = sized(2 ** 55)
        self.assertEqual(tolls(grammar, "", (1, 1, 1))[grammar[0][0], 0, 0], (0, 2 ** 55))
        names = [(name_of(step), (name_of(step + 1),) * 6, 0) for step in range(59)] + [(name_of(59), ("'a",), 0)]
        told = tolls(names, "", (GREAT, 0, 0))
        self.assertEqual(told[name_of(0), 0, 0], (6 ** 59 * GREAT, (6 ** 60 - 1) // 5))
        told = tolls(names, "aa", (GREAT, 1, 1))
        self.assertEqual(told[name_of(0), 0, 2], ((6 ** 59 - 2) * GREAT, (6 ** 60 - 1) // 5))

    def test_60_rules_and_60_signs(self):
        grammar = [("S", ("S", "S"), number) for number in range(30)] + [("S", ("'a",), number) for number in range(30)]
        told = tolls(grammar, "ab" * 30, (2, 3, 2))
        self.assertEqual(told["S", 0, 60], (60, 119))
        self.assertEqual(told["S", 0, 1], (0, 1))
        self.assertEqual(told["S", 1, 2], (2, 1))

    def test_the_order_of_refusals(self):
        for text in ("a", "a" * 61, None, Touchy()):
            for costs in ((1, 1, 1), None, Touchy()):
                self.check_all_refused(NoGrammar, lambda thing: tolls(thing, text, costs), no_grammars())
        for grammar in ([], SUMS, NAMED["barren"]):
            for costs in ((1, 1, 1), None, Touchy()):
                self.check_all_refused(NoText, lambda thing: tolls(grammar, thing, costs), no_texts())
            self.check_all_refused(NoCosts, lambda thing: tolls(grammar, "a", thing), no_costs())

    def test_each_time_a_new_dict(self):
        grammar = list(SUMS)
        told = tolls(grammar, "1+", (1, 1, 1))
        before = dict(told)
        told.clear()
        again = tolls(grammar, "1+", (1, 1, 1))
        self.assertEqual(again, before)
        grammar.clear()
        self.assertEqual(again, before)
        self.assertEqual(tolls(SUMS, "1+", (1, 1, 1)), before)


if __name__ == "__main__":
    import unittest
    unittest.main()
