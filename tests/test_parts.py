import string
import unittest

from anything import lists_and_tuples, other_kinds, other_texts, whole_numbers
from forestread.errors import NoText
from forestread.parts import checked_text, is_name, is_sign, is_whole

SIGNS = [chr(code) for code in range(32, 127) if chr(code) != "%"]


class PartsTest(unittest.TestCase):

    def check_all(self, asked, things, answer):
        for place, thing in enumerate(things):
            with self.subTest(place=place, kind=type(thing)):
                self.assertIs(asked(thing), answer)


class WholeTest(PartsTest):

    def test_whole_numbers(self):
        self.check_all(is_whole, whole_numbers(), True)

    def test_truths_are_none(self):
        self.check_all(is_whole, [True, False], False)

    def test_other_kinds(self):
        self.check_all(is_whole, other_kinds() + lists_and_tuples(), False)

    def test_texts_are_none(self):
        self.check_all(is_whole, ["", "0", "1", "-1", "S", "'a"] + other_texts(), False)


class SignTest(PartsTest):

    def test_each_sign_that_texts_have(self):
        self.assertEqual(len(SIGNS), 94)
        self.check_all(is_sign, ["'" + sign for sign in SIGNS], True)

    def test_the_edges_by_name(self):
        self.check_all(is_sign, ["' ", "''", "'~", "'a", "'A", "'0", "'!", "'}", "'$", "'&"], True)

    def test_no_sign_behind(self):
        self.check_all(is_sign, ["", "'"], False)

    def test_two_signs_behind(self):
        self.check_all(is_sign, ["'ab", "'''", "'  ", "'a'", "'a\n", "'a "], False)

    def test_line_feed_and_tab_behind(self):
        self.check_all(is_sign, ["'\n", "'\t"], False)

    def test_quote_behind_the_sign(self):
        self.check_all(is_sign, ["a'", " '", "~'", "A'"], False)

    def test_another_sign_ahead(self):
        self.check_all(is_sign, ["aa", "\"a", "`a", "  ", "&a", "(a", "\n'", "\ta"], False)

    def test_signs_alone_and_names(self):
        self.check_all(is_sign, ["a", " ", "A", "S", "AB", "SUM"], False)

    def test_other_kinds(self):
        things = other_kinds() + lists_and_tuples() + whole_numbers() + other_texts()
        self.check_all(is_sign, things, False)


class NameTest(PartsTest):

    def test_one_letter(self):
        self.check_all(is_name, list(string.ascii_uppercase), True)

    def test_up_to_eight_letters(self):
        self.check_all(is_name, ["A" * long for long in range(1, 9)], True)
        self.check_all(is_name, ["ABCDEFGH", "STUVWXYZ", "AZ", "ZA"], True)

    def test_none_and_nine_letters(self):
        self.check_all(is_name, ["", "A" * 9, "ABCDEFGHI", "A" * 60, "A" * 100000], False)

    def test_each_sign_outside_a_to_z(self):
        for sign in SIGNS + ["\n", "\t"]:
            if sign not in string.ascii_uppercase:
                self.check_all(is_name, [sign, sign + "A", "A" + sign, "A" + sign + "Z"], False)

    def test_signs_as_rules_write_them(self):
        self.check_all(is_name, ["'A", "'a", "''", "'"], False)

    def test_other_kinds(self):
        things = other_kinds() + lists_and_tuples() + whole_numbers() + other_texts()
        self.check_all(is_name, things, False)


class TextTest(PartsTest):

    def check_refused(self, things):
        for place, thing in enumerate(things):
            with self.subTest(place=place, kind=type(thing)):
                with self.assertRaises(NoText) as caught:
                    checked_text(thing)
                self.assertIs(type(caught.exception), NoText)

    def check_taken(self, texts):
        for text in texts:
            with self.subTest(text):
                told = checked_text(text)
                self.assertIs(type(told), str)
                self.assertEqual(told, text)

    def test_none_to_sixty_signs(self):
        self.check_taken(["a" * long for long in range(61)])

    def test_sixty_one_signs_and_more(self):
        self.check_refused(["a" * 61, " " * 61, "a" * 62, "a" * 100000])

    def test_each_sign(self):
        self.check_taken(SIGNS + ["".join(SIGNS[:60]), "".join(SIGNS[34:])])

    def test_line_feed_and_tab_at_each_place(self):
        for sign in ("\n", "\t"):
            self.check_refused([sign, sign + sign, sign + "abcd", "ab" + sign + "cd", "abcd" + sign])
            self.check_refused(["a" * place + sign + "a" * (59 - place) for place in range(60)])

    def test_other_kinds(self):
        self.check_refused(other_kinds() + lists_and_tuples() + whole_numbers() + other_texts())
        self.check_refused([["a"], ("a",), ["a", "b"], {"a": "b"}])


if __name__ == "__main__":
    unittest.main()
