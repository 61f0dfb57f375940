import copy
import unittest

from anything import Touchy, lists_and_tuples, other_kinds, other_texts, ring_list, whole_numbers
from forestread.errors import NoGrammar
from forestread.rules import checked, heads_of, rules_of, start_of

ASKED = [
    ("checked", checked),
    ("start_of", start_of),
    ("heads_of", heads_of),
    ("rules_of", lambda thing: rules_of(thing, "S")),
    ("rules_of no head", lambda thing: rules_of(thing, "")),
]

SUMS = [
    ("SUM", ("SUM", "'+", "SUM"), 2),
    ("SUM", ("ONE",), 0),
    ("ONE", ("'1",), 1),
    ("SUM", ("'(", "SUM", "')"), 3),
    ("NIL", (), 10 ** 60),
    ("ONE", ("'1",), 1),
]


def rule_of_parts(*parts):
    return ("S", parts, 0)


class GrammarTest(unittest.TestCase):

    def check_refused(self, things):
        for place, thing in enumerate(things):
            for name, asked in ASKED:
                with self.subTest(name, place=place, kind=type(thing)):
                    with self.assertRaises(NoGrammar) as caught:
                        asked(thing)
                    self.assertIs(type(caught.exception), NoGrammar)

    def check_taken(self, grammars):
        for place, grammar in enumerate(grammars):
            with self.subTest(place=place):
                before = copy.deepcopy(grammar)
                told = checked(grammar)
                self.assertIs(type(told), list)
                self.assertEqual(told, before)
                self.assertEqual(start_of(grammar), before[0][0] if before else None)
                self.assertEqual(sorted(heads_of(grammar)), sorted({rule[0] for rule in before}))
                for head in heads_of(grammar):
                    self.assertEqual({before[number][0] for number in rules_of(grammar, head)}, {head})
                self.assertEqual(grammar, before)

    def check_rules_refused(self, rules):
        # A rule that is none spoils a grammar wherever it stands.
        good = ("S", ("'a",), 1)
        for rule in rules:
            self.check_refused([[rule], [good, rule], [rule, good], [good, rule, good]])


class CheckedTest(GrammarTest):

    def test_ordinary_grammars(self):
        self.check_taken([SUMS, [("S", (), 0)], [("S", ("S",), 1), ("S", ("NONE", "' "), 2)]])

    def test_none_to_sixty_rules(self):
        self.check_taken([[("S", ("'a",), 1)] * many for many in range(61)])
        self.check_taken([[("S", ("'a",), number) for number in range(60)]])

    def test_sixty_one_rules_and_more(self):
        self.check_refused([[("S", ("'a",), 1)] * many for many in (61, 62, 1000)])
        self.check_refused([[("S", ("'a",), number) for number in range(61)]])

    def test_heads(self):
        self.check_taken([[(head, (), 0)] for head in ("A", "Z", "ABCDEFGH", "ZZZZZZZZ")])

    def test_heads_that_are_none(self):
        heads = ["", "ABCDEFGHI", "s", "Sa", "S1", "S ", " S", "S\n", "\nS", "S_", "'a", "'S", "''", "@", "["]
        things = heads + other_kinds() + whole_numbers() + lists_and_tuples() + other_texts()
        self.check_rules_refused([(head, ("'a",), 0) for head in things])

    def test_parts(self):
        parts = ["' ", "''", "'~", "'A", "'a", "A", "ABCDEFGH", "S", "NONE"]
        self.check_taken([[rule_of_parts(part)] for part in parts])
        self.check_taken([[rule_of_parts(*parts[:6])], [rule_of_parts(*parts[3:])]])

    def test_parts_that_are_none(self):
        parts = ["", "a", "'", "'ab", "a'", "'\n", "'\t", "ABCDEFGHI", "s", "S1", " ", "S ", "S'", "S\n"]
        things = parts + other_kinds() + whole_numbers() + lists_and_tuples() + other_texts()
        for part in things:
            self.check_rules_refused([rule_of_parts(part)])
            self.check_refused([[rule_of_parts("'a", part)], [rule_of_parts(part, "S")]])
            self.check_refused([[rule_of_parts("'a", "'a", "'a", "'a", "'a", part)]])

    def test_none_to_six_parts(self):
        self.check_taken([[("S", ("'a",) * many, 0)] for many in range(7)])
        self.check_taken([[("S", ("S",) * many, 0)] for many in range(7)])

    def test_seven_parts_and_more(self):
        self.check_rules_refused([("S", ("'a",) * many, 0) for many in (7, 8, 1000)])
        self.check_rules_refused([("S", ("S",) * 7, 0)])

    def test_parts_in_no_tuple(self):
        things = [[], ["'a"], ["S", "'a"], "", "S", "'a", "SS", {"'a": 0}, {"S"}, iter(["S"])]
        self.check_rules_refused([("S", parts, 0) for parts in things + other_kinds() + whole_numbers()])

    def test_worths(self):
        self.check_taken([[("S", (), worth)] for worth in (0, 1, 2, 10 ** 60 - 1, 10 ** 60)])

    def test_worths_beyond_the_bounds(self):
        self.check_rules_refused([("S", (), worth) for worth in (-1, 10 ** 60 + 1, -(10 ** 60), 10 ** 5000)])

    def test_worths_that_are_none(self):
        things = [True, False, "0", "1", "", 0.0, 1.0]
        self.check_rules_refused([("S", (), worth) for worth in things + other_kinds() + lists_and_tuples()])

    def test_rules_that_are_no_tuples(self):
        things = [["S", (), 0], ["S", [], 0], "S", "SSS", "S 0 =", {"S": (), 0: 1}, {"S": ()}]
        self.check_rules_refused(things + other_kinds() + whole_numbers() + other_texts())

    def test_rules_of_other_lengths(self):
        self.check_rules_refused([(), ("S",), ("S", ()), ("S", (), 0, 0), ("S", (), 0, "S"), ("S", (), 0) * 2])
        self.check_rules_refused(lists_and_tuples())

    def test_rules_in_another_order(self):
        self.check_rules_refused([((), "S", 0), ("S", 0, ()), (0, "S", ()), (0, (), "S")])

    def test_rules_within_rules(self):
        self.check_refused([[[("S", (), 0)]], [(("S", (), 0),)], [("S", (("S", (), 0),), 0)]])

    def test_things_that_are_no_list(self):
        rule = ("S", ("'a",), 1)
        self.check_refused([(), (rule,), (rule, rule), rule, {0: rule}, {rule: 0}, {rule}, iter([rule]), "", "S"])
        self.check_refused(other_kinds() + whole_numbers() + other_texts())

    def test_other_lists(self):
        self.check_refused([thing for thing in lists_and_tuples() if thing != []])
        self.check_refused([[thing] for thing in lists_and_tuples()])
        self.check_refused([ring_list(), [ring_list()], [Touchy()], [("S", (), Touchy())]])

    def test_no_grammar_is_changed_by_its_refusal(self):
        wrong = [("S", ["'a"], 0), ["S", ("'a",), 0]]
        before = copy.deepcopy(wrong)
        self.check_refused([wrong])
        self.assertEqual(wrong, before)


class OwnListTest(GrammarTest):

    def test_checked_tells_a_new_list(self):
        for grammar in ([], SUMS):
            told = checked(grammar)
            again = checked(grammar)
            self.assertIsNot(told, grammar)
            self.assertIsNot(again, grammar)
            self.assertIsNot(told, again)

    def test_changing_what_was_told(self):
        grammar = list(SUMS)
        told = checked(grammar)
        again = checked(grammar)
        told.append("spoilt")
        told[0] = None
        self.assertEqual(grammar, SUMS)
        self.assertEqual(again, SUMS)
        self.assertEqual(checked(grammar), SUMS)
        self.assertEqual(start_of(grammar), "SUM")

    def test_changing_what_was_handed_in(self):
        grammar = list(SUMS)
        told = checked(grammar)
        heads = heads_of(grammar)
        numbers = rules_of(grammar, "SUM")
        grammar[:] = [("OTHER", (), 0)]
        self.assertEqual(told, SUMS)
        self.assertEqual(heads, ["SUM", "ONE", "NIL"])
        self.assertEqual(numbers, [0, 1, 3])
        self.assertEqual(checked(grammar), [("OTHER", (), 0)])
        self.assertEqual(start_of(grammar), "OTHER")
        self.assertEqual(heads_of(grammar), ["OTHER"])
        self.assertEqual(rules_of(grammar, "SUM"), [])

    def test_what_is_told_is_a_grammar(self):
        self.assertEqual(checked(checked(SUMS)), SUMS)

    def test_heads_and_numbers_are_new_lists(self):
        grammar = list(SUMS)
        for asked in (heads_of, lambda rules: rules_of(rules, "SUM"), lambda rules: rules_of(rules, "NO")):
            told = asked(grammar)
            before = list(told)
            again = asked(grammar)
            self.assertIsNot(told, again)
            told.append("spoilt")
            told[0] = "spoilt"
            self.assertEqual(again, before)
            self.assertEqual(asked(grammar), before)
            self.assertEqual(grammar, SUMS)

    def test_lists_of_no_rules_are_new(self):
        for asked in (checked, heads_of, lambda rules: rules_of(rules, "S")):
            grammar = []
            asked(grammar).append("spoilt")
            self.assertEqual(grammar, [])
            self.assertEqual(asked(grammar), [])
            self.assertEqual(asked([]), [])


class StartTest(unittest.TestCase):

    def test_no_rules(self):
        self.assertIsNone(start_of([]))

    def test_head_of_rule_0(self):
        self.assertEqual(start_of([("S", (), 0)]), "S")
        self.assertEqual(start_of(SUMS), "SUM")
        self.assertEqual(start_of(SUMS[2:]), "ONE")
        self.assertEqual(start_of([("Z", ("A",), 9), ("A", (), 0), ("A", ("Z",), 0)]), "Z")

    def test_it_need_not_be_the_first_name_or_the_least_worth(self):
        self.assertEqual(start_of([("B", (), 10 ** 60), ("A", (), 0), ("B", (), 0)]), "B")


class HeadsTest(unittest.TestCase):

    def test_no_rules(self):
        self.assertEqual(heads_of([]), [])

    def test_heads_that_come_again(self):
        self.assertEqual(heads_of(SUMS), ["SUM", "ONE", "NIL"])
        self.assertEqual(heads_of([("S", (), 0)] * 60), ["S"])

    def test_order_of_first_rules(self):
        order = ["Q", "B", "Q", "Z", "A", "B", "A", "C", "Z"]
        self.assertEqual(heads_of([(head, (), 0) for head in order]), ["Q", "B", "Z", "A", "C"])

    def test_names_among_parts_are_no_heads(self):
        self.assertEqual(heads_of([("S", ("A", "'B", "C"), 0), ("C", ("D",), 0)]), ["S", "C"])

    def test_sixty_heads(self):
        names = ["N" + chr(65 + number // 26) + chr(65 + number % 26) for number in range(60)]
        names.reverse()
        self.assertEqual(heads_of([(name, (), 0) for name in names]), names)

    def test_names_alike_but_for_a_letter(self):
        names = ["A", "AA", "AAA", "AAAAAAAA", "AAAAAAA", "AB", "BA", "AAAAAAAB", "BAAAAAAA"]
        self.assertEqual(heads_of([(name, (), 0) for name in names + names]), names)


class RulesOfTest(unittest.TestCase):

    def test_heads(self):
        self.assertEqual(rules_of(SUMS, "SUM"), [0, 1, 3])
        self.assertEqual(rules_of(SUMS, "NIL"), [4])

    def test_rules_that_are_alike(self):
        self.assertEqual(rules_of(SUMS, "ONE"), [2, 5])
        self.assertEqual(rules_of([("S", ("'a",), 1)] * 60, "S"), list(range(60)))

    def test_names_that_are_no_heads(self):
        self.assertEqual(rules_of([("S", ("A",), 0)], "A"), [])
        self.assertEqual(rules_of(SUMS, "S"), [])
        self.assertEqual(rules_of(SUMS, "SUMS"), [])
        self.assertEqual(rules_of([], "S"), [])

    def test_texts_that_are_no_names(self):
        for text in ["", "'1", "'(", "sum", "SUM ", " SUM", "SUM\n", "'", "A" * 61, "\n", "0"]:
            with self.subTest(text):
                self.assertEqual(rules_of(SUMS, text), [])

    def test_names_that_are_beginnings_of_one_another(self):
        names = ["A", "AB", "ABC", "AB", "A", "ABCDEFGH", "ABCDEFG", "ABCDEFGH"]
        grammar = [(name, (), 0) for name in names]
        self.assertEqual(rules_of(grammar, "A"), [0, 4])
        self.assertEqual(rules_of(grammar, "AB"), [1, 3])
        self.assertEqual(rules_of(grammar, "ABC"), [2])
        self.assertEqual(rules_of(grammar, "ABCD"), [])
        self.assertEqual(rules_of(grammar, "ABCDEFG"), [6])
        self.assertEqual(rules_of(grammar, "ABCDEFGH"), [5, 7])
        self.assertEqual(rules_of(grammar, "ABCDEFGHI"), [])

    def test_names_alike_but_for_a_letter(self):
        grammar = [(name, (), 0) for name in ["AAB", "AAC", "BAB", "ABB", "AAB"]]
        self.assertEqual(rules_of(grammar, "AAB"), [0, 4])
        self.assertEqual(rules_of(grammar, "AAC"), [1])
        self.assertEqual(rules_of(grammar, "BAB"), [2])
        self.assertEqual(rules_of(grammar, "ABB"), [3])
        self.assertEqual(rules_of(grammar, "BBB"), [])

    def test_what_is_handed_in_stays(self):
        grammar = list(SUMS)
        rules_of(grammar, "SUM")
        heads_of(grammar)
        start_of(grammar)
        self.assertEqual(grammar, SUMS)


if __name__ == "__main__":
    unittest.main()
