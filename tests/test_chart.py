import copy

import plain
from anything import Touchy, no_grammars, no_texts, ring_list
from forestread.chart import standing
from forestread.errors import NoGrammar, NoText
from refusals import RefusalTest
from samples import NAMED, SUMS, TEXTS, drawn, texts_for



class StandingTest(RefusalTest):

    def check(self, grammar, text):
        before = copy.deepcopy(grammar)
        with self.subTest(grammar=grammar, text=text):
            told = standing(grammar, text)
            self.assertIs(type(told), dict)
            self.assertEqual(told, plain.standing(grammar, text))
            self.assertEqual(grammar, before)

    def test_read_by_hand(self):
        self.assertEqual(standing([("S", ("'a", "S"), 0), ("S", (), 0)], "a"), {
            ("'a", 0, 1): 0,
            (0, 0, 0, 0): 0, (0, 0, 1, 1): 0, (1, 0, 0, 0): 0, (1, 0, 1, 1): 0,
            (0, 1, 0, 1): 0,
            ("S", 0, 0): 1, ("S", 1, 1): 1,
            (0, 2, 0, 1): 1,
            ("S", 0, 1): 2,
        })

    def test_no_rules(self):
        self.assertEqual(standing([], ""), {})
        self.assertEqual(standing([], "aba"), {("'a", 0, 1): 0, ("'b", 1, 2): 0, ("'a", 2, 3): 0})

    def test_the_empty_text(self):
        self.assertEqual(standing([("S", ("'a",), 0)], ""), {(0, 0, 0, 0): 0})
        self.assertEqual(standing([("S", (), 0)], ""), {(0, 0, 0, 0): 0, ("S", 0, 0): 1})

    def test_signs_stand_that_no_rule_has(self):
        told = standing([("S", ("'a",), 0)], "z a")
        for node in (("'z", 0, 1), ("' ", 1, 2), ("'a", 2, 3)):
            self.assertEqual(told[node], 0)
        self.assertNotIn(("'a", 0, 1), told)
        self.assertNotIn(("'z", 2, 3), told)

    def test_beginnings_of_no_parts_stand_at_each_place(self):
        told = standing(SUMS, "1+z1")
        for number in range(4):
            for place in range(5):
                self.assertEqual(told[number, 0, place, place], 0)
                self.assertNotIn((number, 0, place, place + 1), told)
                self.assertNotIn((number, 0, place - 1, place), told)

    def test_a_name_beneath_itself_alone_stands_nowhere(self):
        told = standing([("S", ("S",), 0), ("A", ("B",), 0), ("B", ("A",), 0)], "a")
        self.assertEqual([node for node in told if len(node) == 3], [("'a", 0, 1)])
        self.assertEqual([node for node in told if len(node) == 4 and node[1] > 0], [])

    def test_least_heights(self):
        grammar = [("S", ("A",), 0), ("A", ("B",), 0), ("B", ("'a",), 0)]
        told = standing(grammar, "a")
        self.assertEqual([told[name, 0, 1] for name in "SAB"], [3, 2, 1])
        told = standing(grammar + [("S", ("'a",), 0)], "a")
        self.assertEqual([told[name, 0, 1] for name in "SAB"], [1, 2, 1])
        self.assertEqual([told[number, 1, 0, 1] for number in range(4)], [2, 1, 0, 0])

    def test_heights_over_several_places_to_part(self):
        grammar = [("S", ("S", "S"), 0), ("S", ("'a",), 0)]
        told = standing(grammar, "a" * 9)
        heights = [told["S", 0, long] for long in range(1, 10)]
        self.assertEqual(heights, [1, 2, 3, 3, 4, 4, 4, 4, 5])
        self.assertEqual([told[0, 1, 0, long] for long in range(1, 10)], heights)

    def test_named_grammars(self):
        for grammar in NAMED.values():
            for text in TEXTS + ["1", "1+1", "(1)", "((1)+1)", "' =", "  0"]:
                self.check(grammar, text)

    def test_drawn_grammars(self):
        for grammar in drawn(31, 40):
            for text in texts_for(grammar, 3):
                self.check(grammar, text)
        for grammar in drawn(32, 10, most_rules=10, most_parts=6):
            for text in ("aab", "abab", "bbbaa"):
                self.check(grammar, text)

    def test_a_text_of_60_signs(self):
        told = standing(NAMED["pairs"], "a" * 60)
        spans = [(begin, end) for begin in range(61) for end in range(begin + 1, 61)]
        self.assertEqual({node[1:] for node in told if node[0] == "S"}, set(spans))
        self.assertEqual(told["S", 0, 60], 7)
        self.assertEqual(told["S", 7, 39], 6)
        self.assertEqual(told["S", 7, 40], 7)
        told = standing(SUMS, "(" * 29 + "1" + ")" * 29)
        self.assertEqual(told["SUM", 0, 59], 31)
        self.assertNotIn(("SUM", 0, 58), told)

    def test_60_rules(self):
        grammar = [("S", ("S", "S"), 1)] * 29 + [("A", ("S", "NONE"), 0)] + [("S", ("'a",), 2)] * 30
        told = standing(grammar, "a" * 30)
        for number in (0, 28):
            self.assertEqual(told[number, 2, 0, 30], 5)
        self.assertEqual(told[29, 1, 0, 30], 6)
        self.assertNotIn((29, 2, 0, 30), told)
        for number in (30, 59):
            self.assertEqual(told[number, 1, 29, 30], 0)

    def test_60_rules_and_60_signs(self):
        grammar = [("S", ("S",) * 6, number) for number in range(30)] + [("S", ("'a",), number) for number in range(30)]
        told = standing(grammar, "a" * 60)
        # S stands over 1, 6, 11 .. signs: a rule of six parts puts five more in the place of one.
        self.assertEqual(sorted({node[2] - node[1] for node in told if node[0] == "S"}), list(range(1, 60, 5)))
        self.assertEqual(told[29, 6, 3, 59], told["S", 3, 59] - 1)

    def test_no_grammar_is_refused_ahead_of_no_text(self):
        for text in ("a", "", "a" * 61, None, Touchy(), ["a"], "\n"):
            self.check_all_refused(NoGrammar, lambda thing: standing(thing, text), no_grammars())

    def test_no_text(self):
        for grammar in ([], SUMS):
            self.check_all_refused(NoText, lambda thing: standing(grammar, thing), no_texts() + ["a" * 61, ["a"], ring_list()])

    def test_each_time_a_new_dict(self):
        grammar = list(SUMS)
        told = standing(grammar, "1+1")
        before = dict(told)
        again = standing(grammar, "1+1")
        told.clear()
        told["spoilt"] = 1
        self.assertEqual(again, before)
        self.assertEqual(standing(grammar, "1+1"), before)
        self.check_refused(NoText, standing, grammar, None)
        grammar.clear()
        self.assertEqual(again, before)
        self.assertEqual(standing(SUMS, "1+1"), before)


if __name__ == "__main__":
    import unittest
    unittest.main()
