import copy

from anything import Touchy, lists_and_tuples, other_kinds, other_texts, whole_numbers
from forestread.errors import NoGrammar, NoRule
from forestread.notes import read_grammar, read_rule, show_grammar, show_rule
from refusals import RefusalTest
from samples import NAMED, SUMS, drawn

GREAT = 10 ** 60
SIGNS = [chr(code) for code in range(32, 127) if chr(code) != chr(37)]

WRITTEN = [
    (("S", ("'a", "S", "' "), 0), "S 0 = 'a S '"),
    (("S", (), 0), "S 0 ="),
    (("S", (), 12), "S 12 ="),
    (("ABCDEFGH", ("Z",), 7), "ABCDEFGH 7 = Z"),
    (("S", ("' ",), 1), "S 1 = '"),
    (("S", ("' ", "' "), 1), "S 1 = ' '"),
    (("S", ("' ", "'a"), 1), "S 1 = ' 'a"),
    (("S", ("'a", "' "), 1), "S 1 = 'a '"),
    (("S", ("'a", "' ", "'b"), 1), "S 1 = 'a ' 'b"),
    (("S", ("' ",) * 6, 1), "S 1 = ' ' ' ' ' '"),
    (("S", ("''",), 1), "S 1 = ''"),
    (("S", ("''", "' ", "''"), 1), "S 1 = '' ' ''"),
    (("S", ("'=",), 1), "S 1 = '="),
    (("S", ("'=", "'0", "'9"), 1), "S 1 = '= '0 '9"),
    (("S", ("A", "B", "C", "D", "E", "F"), 1), "S 1 = A B C D E F"),
    (("S", ("'A", "A"), GREAT - 1), "S " + "9" * 60 + " = 'A A"),
    (("S", ("'a",), GREAT), "S 1" + "0" * 60 + " = 'a"),
]

NO_RULES = [
    "", " ", "S", "S 0", "S 0 ", "S =", "S  =", "= ", "=", "0 =", " 0 =",
    # Blanks ahead, behind or doubled.
    " S 0 =", "S 0 = ", " S 0 = 'a", "S 0 = 'a ", "S  0 = 'a", "S 0  = 'a", "S 0 =  'a", "S 0 = 'a  'b", "S 0 = '  ",
    # Worths that are none.
    "S 00 = 'a", "S 01 = 'a", "S 000 =", "S -1 = 'a", "S +1 = 'a", "S -0 =", "S +0 =", "S 1_0 =", "S 0x1 =", "S 1.0 =",
    "S 1e5 =", "S A = 'a", "S ' = 'a", "S 'a = 'b", "S 1a =", "S a1 =", "S " + "1" * 62 + " =", "S 0" + "1" * 60 + " =",
    "S 1" + "0" * 59 + "1 =", "S 2" + "0" * 60 + " =", "S " + "9" * 61 + " =", "S 1" + "0" * 61 + " =", "S " + "0" * 61 + " =",
    # = lacking or doubled.
    "S 0 'a", "S 0 A", "S 0 == 'a", "S 0 = = 'a", "S 0 = 'a =", "S 0 = =", "S = 0 'a", "S 0=", "S 0= 'a", "S 0 ='a", "S0 = 'a",
    # Heads that are none.
    "s 0 =", "ABCDEFGHI 0 =", "'a 0 =", "' 0 =", "S1 0 =", "Sa 0 =", "S' 0 =", "1 0 =", "= 0 =",
    # Parts that are none.
    "S 0 = a", "S 0 = 'ab", "S 0 = ab", "S 0 = s", "S 0 = ABCDEFGHI", "S 0 = A1", "S 0 = '''", "S 0 = 'a'", "S 0 = 'a'b",
    "S 0 = A'", "S 0 = 0", "S 0 = A,B", "S 0 = ('a)",
    # Seven parts.
    "S 0 = A B C D E F G", "S 0 = ' ' ' ' ' ' '", "S 0 = " + "'a " * 6 + "'a",
    # Line feeds and tabs.
    "S 0 =\n", "\nS 0 =", "S 0 = 'a\n", "S 0\n= 'a", "S\n0 = 'a", "S 0 = '\n", "S 0 = 'a\nS 0 = 'b", "\n", "\n\n",
    "S\t0 = 'a", "S 0\t=", "S 0 =\t'a", "S 0 = '\t", "\tS 0 =", "S 0 =\t", "S 0 = 'a\t'b", "S 0 = A\n", "S\n 0 =", "S 1\n =",
]


class RuleNotesTest(RefusalTest):

    def test_written_and_read(self):
        for rule, text in WRITTEN:
            with self.subTest(text):
                self.assertEqual(show_rule(rule), text)
                told = read_rule(text)
                self.assertEqual(told, rule)
                self.assertEqual([type(part) for part in told], [str, tuple, int])

    def test_each_sign_at_each_place(self):
        for sign in SIGNS:
            for place in range(6):
                parts = ["A"] * 6
                parts[place] = "'" + sign
                for long in range(place + 1, 7):
                    rule = ("S", tuple(parts[:long]), 3)
                    self.assertEqual(read_rule(show_rule(rule)), rule)

    def test_worths(self):
        for worth in (0, 1, 9, 10, 100, 10 ** 59, GREAT - 1, GREAT):
            self.assertEqual(show_rule(("S", (), worth)), f"S {worth} =")
            self.assertEqual(read_rule(f"S {worth} ="), ("S", (), worth))

    def test_no_rules(self):
        self.check_all_refused(NoRule, read_rule, NO_RULES)

    def test_other_kinds(self):
        things = other_kinds() + whole_numbers() + lists_and_tuples() + other_texts()
        self.check_all_refused(NoRule, read_rule, things + [("S", (), 0), ["S 0 ="], b"S 0 =", Touchy()])

    def test_longer_texts(self):
        self.check_all_refused(NoRule, read_rule, ["S" * 8000, "S 0 = " + "'a " * 2000, " " * 8000, "S 0 =" + " " * 7000])

    def test_the_same_behind_a_refusal(self):
        for text in NO_RULES[:20]:
            self.check_refused(NoRule, read_rule, text)
            self.assertEqual(read_rule("S 0 = 'a S '"), ("S", ("'a", "S", "' "), 0))


class GrammarNotesTest(RefusalTest):

    def check_there_and_back(self, grammar, text):
        before = copy.deepcopy(grammar)
        self.assertEqual(show_grammar(grammar), text)
        told = read_grammar(text)
        self.assertIs(type(told), list)
        self.assertEqual(told, before)
        self.assertEqual(grammar, before)

    def test_no_rules(self):
        self.check_there_and_back([], "")

    def test_one_rule(self):
        for rule, text in WRITTEN:
            self.check_there_and_back([rule], text)

    def test_several_rules(self):
        text = "SUM 2 = SUM '+ SUM\nSUM 0 = ONE\nONE 1 = '1\nSUM 3 = '( SUM ')"
        self.check_there_and_back(SUMS, text)
        self.check_there_and_back([("S", (), 0)] * 2, "S 0 =\nS 0 =")
        self.check_there_and_back([("S", ("' ",), 0), ("A", (), 1), ("S", ("' ",), 0)], "S 0 = '\nA 1 =\nS 0 = '")

    def test_60_and_61_rules(self):
        long = ("ABCDEFGH", ("STUVWXYZ",) * 6, GREAT)
        line = show_rule(long)
        self.check_there_and_back([long] * 60, "\n".join([line] * 60))
        self.check_all_refused(NoGrammar, read_grammar, ["\n".join([line] * 61), "\n".join(["S 0 ="] * 61), "S 0 =\n" * 60])
        self.assertEqual(len(read_grammar("\n".join(["S 0 ="] * 60))), 60)

    def test_many_grammars(self):
        for grammar in list(NAMED.values()) + drawn(111, 100, signs="a '=0"):
            self.assertEqual(read_grammar(show_grammar(grammar)), grammar)

    def test_line_feeds(self):
        good = "S 0 = 'a"
        texts = ["\n", "\n\n", "\n" + good, good + "\n", good + "\n\n" + good, "\n" + good + "\n", good + "\n\n", good + "\n\n\n" + good]
        self.check_all_refused(NoGrammar, read_grammar, texts)

    def test_a_row_that_writes_no_rule(self):
        good = "S 0 = 'a"
        wrong = [text for text in NO_RULES if text and text != "S 0 = 'a\nS 0 = 'b"]
        self.check_all_refused(NoGrammar, read_grammar, wrong)
        self.check_all_refused(NoGrammar, read_grammar, [good + "\n" + text for text in wrong])
        self.check_all_refused(NoGrammar, read_grammar, [text + "\n" + good for text in wrong])
        self.assertEqual(read_grammar("S 0 = 'a\nS 0 = 'b"), [("S", ("'a",), 0), ("S", ("'b",), 0)])

    def test_other_row_ends(self):
        self.check_all_refused(NoGrammar, read_grammar, ["S 0 =\tS 0 =", "S 0 =  S 0 =", "S 0 = S 0 =", "S 0 =;S 0 ="])

    def test_other_kinds(self):
        things = other_kinds() + whole_numbers() + lists_and_tuples() + other_texts()
        self.check_all_refused(NoGrammar, read_grammar, things + [["S 0 ="], b"S 0 =", Touchy(), [("S", (), 0)]])

    def test_show_what_is_no_grammar(self):
        things = other_kinds() + whole_numbers() + other_texts() + ["", (), "S 0 =", [None], [("S", (), True)]]
        self.check_all_refused(NoGrammar, show_grammar, things + [[("S", (), 0)] * 61, [["S", (), 0]], (("S", (), 0),)])

    def test_a_new_list(self):
        read_grammar("").append("spoilt")
        self.assertEqual(read_grammar(""), [])
        told = read_grammar("S 0 =")
        told.clear()
        self.assertEqual(read_grammar("S 0 ="), [("S", (), 0)])


if __name__ == "__main__":
    import unittest
    unittest.main()
