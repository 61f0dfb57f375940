import copy
import itertools

import plain
from anything import Touchy, lists_and_tuples, no_grammars, other_kinds, other_texts
from forestread.errors import NoGrammar, NoRow, TooGreat
from forestread.needs import least, needed, row_with
from refusals import RefusalTest
from samples import NAMED, SUMS, drawn, name_of, sized



def doubling(steps):
    """Names of which each stands twice beneath the one ahead: the first one's least size is 2 ** steps - 1."""
    grammar = [(name_of(step), (name_of(step + 1),) * 2, 0) for step in range(steps - 1)]
    return grammar + [(name_of(steps - 1), ("'a",), 0)]


class LeastTest(RefusalTest):

    def test_no_rules(self):
        self.assertEqual(least([]), {})

    def test_rules_of_no_parts_and_of_signs(self):
        self.assertEqual(least([("S", (), 9)]), {"S": 1})
        self.assertEqual(least([("S", ("'a", "'S", "''"), 9)]), {"S": 1})

    def test_heads_with_and_without_a_tree(self):
        self.assertEqual(least(SUMS), {"SUM": 2, "ONE": 1})
        self.assertEqual(least(NAMED["barren"]), {"B": 1})
        self.assertEqual(least(NAMED["barren ring"]), {"S": 1})

    def test_heads_that_need_one_another(self):
        self.assertEqual(least([("A", ("B",), 0), ("B", ("A",), 0)]), {})
        self.assertEqual(least([("A", ("B",), 0), ("B", ("A",), 0), ("B", ("'b",), 0)]), {"A": 2, "B": 1})
        self.assertEqual(least([("A", ("A", "B"), 0), ("B", ("A",), 0), ("A", (), 0)]), {"A": 1, "B": 2})

    def test_a_name_without_rules_among_parts(self):
        self.assertEqual(least([("S", ("NONE",), 0)]), {})
        self.assertEqual(least([("S", ("NONE", "'a"), 0), ("S", ("T", "T"), 0), ("T", ("'a",), 0)]), {"S": 3, "T": 1})

    def test_a_later_rule_is_smaller(self):
        grammar = [("S", ("A", "A", "A"), 0), ("S", ("B",), 0), ("A", (), 0), ("B", ("C",), 0), ("C", ("'c",), 0)]
        self.assertEqual(least(grammar), {"S": 3, "A": 1, "B": 2, "C": 1})
        self.assertEqual(least(grammar + [("B", (), 0)]), {"S": 2, "A": 1, "B": 1, "C": 1})

    def test_worths_count_for_nothing(self):
        self.assertEqual(least([("S", ("A", "A"), 0), ("S", ("A",), 10 ** 60), ("A", (), 10 ** 60)]), {"S": 2, "A": 1})

    def test_great_sizes(self):
        sizes = least(doubling(60))
        self.assertEqual(sizes, {name_of(step): 2 ** (60 - step) - 1 for step in range(60)})
        names = [(name_of(step), (name_of(step + 1),) * 6, 0) for step in range(59)] + [(name_of(59), (), 0)]
        self.assertEqual(least(names)[name_of(0)], (6 ** 60 - 1) // 5)

    def test_rules_in_another_order(self):
        grammar = NAMED["round"]
        told = least(grammar)
        for order in itertools.permutations(grammar):
            self.assertEqual(least(list(order)), told)
        for grammar in drawn(21, 60) + [doubling(60)]:
            self.assertEqual(least(grammar[::-1]), least(grammar))

    def test_against_a_plain_reckoning(self):
        for grammar in list(NAMED.values()) + drawn(22, 200):
            self.assertEqual(least(grammar), plain.least(grammar))

    def test_each_time_a_new_dict(self):
        grammar = list(SUMS)
        told = least(grammar)
        told["SUM"] = told["SPOILT"] = 0
        self.assertEqual(least(grammar), {"SUM": 2, "ONE": 1})
        kept = least(grammar)
        grammar.clear()
        self.assertEqual(kept, {"SUM": 2, "ONE": 1})
        self.assertEqual(least(grammar), {})

    def test_no_grammar(self):
        self.check_all_refused(NoGrammar, least, no_grammars())


class NeededTest(RefusalTest):

    def test_no_rules(self):
        self.assertEqual(needed([]), [])

    def test_all_rules(self):
        self.assertEqual(needed(SUMS), [0, 1, 2, 3])
        self.assertEqual(needed([("S", ("'a",), 0)] * 60), list(range(60)))
        self.assertEqual(needed(doubling(60)), list(range(60)))

    def test_heads_never_beneath_the_start(self):
        grammar = [("A", ("S",), 0), ("S", ("B",), 0), ("C", (), 0), ("B", ("'b",), 0), ("C", ("A",), 0)]
        self.assertEqual(needed(grammar), [0, 1, 3])
        self.assertEqual(needed(grammar[1:]), [0, 2])

    def test_rules_with_a_name_that_has_no_tree(self):
        grammar = [("S", ("A", "NONE"), 0), ("S", ("A",), 0), ("A", ("'a",), 0), ("S", ("B", "R"), 0), ("B", (), 0), ("R", ("R",), 0)]
        self.assertEqual(needed(grammar), [1, 2])

    def test_a_start_without_a_tree(self):
        self.assertEqual(needed([("S", ("S",), 0), ("A", (), 0)]), [])
        self.assertEqual(needed(NAMED["barren"]), [])
        self.assertEqual(needed([("S", ("A", "NONE"), 0), ("A", ("'a",), 0)]), [])

    def test_a_start_that_stands_beneath_itself(self):
        self.assertEqual(needed([("S", ("S",), 0), ("S", (), 0)]), [0, 1])
        self.assertEqual(needed(NAMED["round"]), [0, 1, 2, 3, 4])

    def test_names_that_go_down_against_the_order_of_rules(self):
        chain = [(name_of(number), (name_of(number + 1), "'a"), 0) for number in range(50)] + [(name_of(50), (), 0)]
        grammar = chain[:1] + chain[:0:-1] + [("ASIDE", ("'a",), 0)]
        self.assertEqual(needed(grammar), list(range(51)))
        self.assertEqual(needed(grammar[:20] + grammar[21:]), [])
        self.assertEqual(row_with(grammar, 1), [0] + list(range(50, 0, -1)))

    def test_numbers_rise(self):
        grammar = [("S", ("Z",), 0), ("A", ("'a",), 0), ("Z", ("A",), 0), ("Q", (), 0), ("S", (), 0)]
        self.assertEqual(needed(grammar), [0, 1, 2, 4])

    def test_against_the_rows_found_by_a_search(self):
        for grammar in drawn(23, 150):
            rows = plain.rows_of_length(grammar, 9)
            self.assertEqual(needed(grammar), sorted({number for row in rows for number in row}))

    def test_each_time_a_new_list(self):
        grammar = list(SUMS)
        needed(grammar).append("spoilt")
        told = needed(grammar)
        self.assertEqual(told, [0, 1, 2, 3])
        self.assertEqual(grammar, SUMS)
        grammar.pop()
        self.assertEqual(needed(grammar), [0, 1, 2])
        self.assertEqual(told, [0, 1, 2, 3])

    def test_no_grammar(self):
        self.check_all_refused(NoGrammar, needed, no_grammars())


class RowWithTest(RefusalTest):

    def check_rows(self, grammar, most):
        rows = plain.rows_of_length(grammar, most)
        before = copy.deepcopy(grammar)
        for number in range(len(grammar)):
            with self.subTest(grammar=grammar, number=number):
                shortest = min([len(row) for row in rows if number in row], default=None)
                if shortest is None:
                    self.check_refused(NoRow, row_with, grammar, number)
                    continue
                told = row_with(grammar, number)
                self.assertIsNotNone(plain.read(grammar, told))
                self.assertIn(number, told)
                self.assertEqual(len(told), shortest)
        self.assertEqual(grammar, before)

    def test_the_starts_own_rules(self):
        self.assertEqual(row_with([("S", (), 0)], 0), [0])
        self.assertEqual(row_with([("S", ("'a",), 0), ("S", ("S", "S"), 0)], 1), [1, 0, 0])
        self.assertEqual(row_with(SUMS, 3), [3, 1, 2])

    def test_rules_some_steps_beneath(self):
        grammar = [
            ("S", ("A", "B", "'s"), 0), ("A", ("'a",), 0), ("B", ("A", "C", "A"), 0), ("C", ("D",), 0),
            ("D", ("'d",), 0), ("D", ("A", "A", "A"), 0), ("C", (), 0),
        ]
        self.assertEqual(row_with(grammar, 1), [0, 1, 2, 1, 6, 1])
        self.assertEqual(row_with(grammar, 4), [0, 1, 2, 1, 3, 4, 1])
        self.assertEqual(row_with(grammar, 5), [0, 1, 2, 1, 3, 5, 1, 1, 1, 1])

    def test_against_the_rows_found_by_a_search(self):
        for grammar in list(NAMED.values()):
            self.check_rows(grammar, 8)
        for grammar in drawn(24, 150):
            self.check_rows(grammar, 9)

    def test_a_shorter_way_is_longer_in_steps(self):
        grammar = [
            ("S", ("A", "A", "A", "T"), 0), ("S", ("B",), 0), ("B", ("C",), 0), ("C", ("T",), 0),
            ("T", ("'t",), 0), ("A", ("D",), 0), ("D", (), 0),
        ]
        self.assertEqual(row_with(grammar, 4), [1, 2, 3, 4])

    def test_signs_count_for_nothing(self):
        grammar = [
            ("S", ("'a", "'a", "'a", "'a", "T"), 0), ("S", ("A", "T"), 0), ("A", ("'a",), 0), ("T", ("'t",), 0),
            ("S", ("U", "U", "T"), 0), ("U", (), 0),
        ]
        self.assertEqual(row_with(grammar, 3), [0, 3])
        signs = [(head, (parts + ("'a",) * 6)[:6], worth) for head, parts, worth in sized(1000)]
        for number in range(len(signs)):
            self.assertEqual(len(row_with(signs, number)), 1000)

    def test_rules_that_are_not_needed(self):
        for grammar in (NAMED["barren"], NAMED["barren ring"], [("S", ("S",), 0), ("A", (), 0)]):
            for number in range(len(grammar)):
                if number not in needed(grammar):
                    self.check_refused(NoRow, row_with, grammar, number)

    def test_numbers_of_no_rule(self):
        numbers = [-1, -4, 4, 5, 60, 10 ** 60, -(10 ** 60), 10 ** 5000]
        self.check_all_refused(NoRow, lambda number: row_with(SUMS, number), numbers)
        self.check_all_refused(NoRow, lambda number: row_with([], number), numbers + [0])

    def test_things_that_are_no_number(self):
        things = [True, False, None, "0", "", [], [0], (), (0,), 0.0, 1.0, Touchy()]
        things += other_kinds() + lists_and_tuples() + other_texts()
        self.check_all_refused(NoRow, lambda number: row_with(SUMS, number), things)
        self.check_all_refused(NoRow, lambda number: row_with([], number), things)

    def test_rows_of_1000_numbers_and_more(self):
        for size in (1, 2, 3, 30, 999, 1000):
            with self.subTest(size):
                grammar = sized(size)
                self.assertEqual(least(grammar)[grammar[0][0]], size)
                for number in range(len(grammar)):
                    told = row_with(grammar, number)
                    self.assertEqual(len(told), size)
                    self.assertIsNotNone(plain.read(grammar, told))
                    self.assertIn(number, told)
        for size in (1001, 1002, 2000, 10 ** 12):
            with self.subTest(size):
                grammar = sized(size)
                self.assertEqual(least(grammar)[grammar[0][0]], size)
                for number in range(len(grammar)):
                    self.check_refused(TooGreat, row_with, grammar, number)

    def test_only_rows_with_this_rule_are_too_long(self):
        grammar = [("S", (), 0), ("S", (name_of(0),), 0)] + doubling(58)
        self.assertEqual(row_with(grammar, 0), [0])
        self.check_refused(TooGreat, row_with, grammar, 1)
        self.check_refused(TooGreat, row_with, grammar, 59)
        self.check_refused(NoRow, row_with, grammar, 60)

    def test_not_needed_goes_ahead_of_too_great(self):
        grammar = doubling(58) + [("S", (name_of(0), name_of(0)), 0)]
        self.check_refused(TooGreat, row_with, grammar, 0)
        self.check_refused(NoRow, row_with, grammar, 58)

    def test_no_grammar_is_refused_ahead(self):
        for number in (0, -1, None, Touchy(), [], True):
            self.check_all_refused(NoGrammar, lambda thing: row_with(thing, number), no_grammars())

    def test_each_time_a_new_list(self):
        told = row_with(SUMS, 3)
        told.append("spoilt")
        self.check_refused(NoRow, row_with, SUMS, 4)
        self.assertEqual(row_with(SUMS, 3), [3, 1, 2])


if __name__ == "__main__":
    import unittest
    unittest.main()
