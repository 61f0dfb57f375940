import copy
import itertools

import plain
from anything import Touchy, lists_and_tuples, no_costs, no_texts, other_kinds, other_texts, ring_list, whole_numbers
from forestread.changes import changed, cost_of
from forestread.errors import NoChange, NoCosts, NoText
from refusals import RefusalTest

COSTS = (3, 5, 7)
SIGNS = [chr(code) for code in range(32, 127) if chr(code) != chr(37)]
NO_SIGNS = ["", "ab", "aa", "  ", "\n", "\t", "'a"] + other_kinds() + whole_numbers() + lists_and_tuples() + other_texts()


class ChangesTest(RefusalTest):

    def check_change(self, text, deeds, new, cost):
        before = copy.deepcopy(deeds)
        with self.subTest(text=text, deeds=deeds):
            self.assertEqual(changed(text, deeds), new)
            self.assertEqual(cost_of(text, deeds, COSTS), cost)
            self.assertEqual(deeds, before)

    def check_no_change(self, text, things):
        self.check_all_refused(NoChange, lambda thing: changed(text, thing), things)
        self.check_all_refused(NoChange, lambda thing: cost_of(text, thing, COSTS), things)


class ChangedTest(ChangesTest):

    def test_each_deed(self):
        self.check_change("a", [("keep", "a")], "a", 0)
        self.check_change("a", [("cut", "a")], "", 5)
        self.check_change("a", [("swap", "a", "b")], "b", 7)
        self.check_change("", [("put", "a")], "a", 3)

    def test_the_empty_change(self):
        self.check_change("", [], "", 0)
        self.check_no_change("a", [[]])

    def test_all_orders(self):
        kinds = [("keep", "a"), ("cut", "b"), ("swap", "c", "d"), ("put", "e")]
        for many in range(5):
            for deeds in itertools.product(kinds, repeat=many):
                text = "".join(deed[1] for deed in deeds if deed[0] != "put")
                new = plain.done_deeds(text, deeds)
                self.check_change(text, list(deeds), new, plain.deeds_cost(deeds, COSTS))

    def test_each_sign(self):
        for sign, other in zip(SIGNS, SIGNS[1:] + SIGNS[:1]):
            deeds = [("keep", sign), ("swap", sign, other), ("put", sign), ("cut", sign)]
            self.check_change(sign * 3, deeds, sign + other + sign, 15)

    def test_new_texts_of_more_than_60_signs(self):
        text = "a" * 60
        self.check_change(text, [("keep", "a")] * 60 + [("put", "b")], text + "b", 3)
        self.check_change("", [("put", "a")] * 7000, "a" * 7000, 21000)

    def test_kinds(self):
        self.assertIs(type(changed("a", [("keep", "a")])), str)
        self.assertIs(type(cost_of("a", [("keep", "a")], COSTS)), int)

    def test_signs_left_over(self):
        self.check_no_change("ab", [[], [("keep", "a")], [("cut", "a")], [("swap", "a", "b")], [("put", "a"), ("put", "b")]])

    def test_deeds_left_over(self):
        self.check_no_change("a", [[("keep", "a"), ("keep", "a")], [("keep", "a"), ("cut", "b")], [("cut", "a")] * 2])
        self.check_no_change("", [[("keep", "a")], [("cut", "a")], [("swap", "a", "b")]])

    def test_a_sign_that_is_not_the_next_one(self):
        self.check_no_change("ab", [
            [("keep", "b"), ("keep", "a")], [("keep", "b"), ("keep", "b")], [("keep", "a"), ("cut", "a")],
            [("swap", "b", "a"), ("keep", "b")], [("cut", "b"), ("keep", "b")], [("keep", "a"), ("swap", "a", "b")],
            [("keep", "A"), ("keep", "b")], [("put", "a"), ("keep", "b")],
        ])

    def test_a_swap_of_a_sign_for_itself(self):
        self.check_no_change("a", [[("swap", "a", "a")]])
        self.check_no_change("ab", [[("keep", "a"), ("swap", "b", "b")]])

    def test_other_words(self):
        words = ["", "Keep", "KEEP", "keep ", " keep", "kee", "keeps", "drop", "insert", "k", "\n", "put", "swap"]
        self.check_no_change("a", [[(word, "a")] for word in words])
        self.check_no_change("a", [[(word, "a", "b")] for word in words if word != "swap"])
        self.check_no_change("a", [[(word, "a", "b")] for word in ("keep", "cut", "put")])
        things = other_kinds() + whole_numbers() + lists_and_tuples()
        self.check_no_change("a", [[(thing, "a")] for thing in things] + [[(thing, "a", "b")] for thing in things])

    def test_other_lengths(self):
        self.check_no_change("a", [
            [()], [("keep",)], [("cut",)], [("swap",)], [("put",)], [("swap", "a")], [("keep", "a", "a")],
            [("keep", "a"), ("put",)], [("swap", "a", "b", "c")], [("keep", "a"), ("put", "a", "b")], [("a",)],
            [("keep", "a"), ()], [("keep", "a", None)], [("put", "a"), ("keep",)],
        ])

    def test_deeds_that_are_no_tuples(self):
        things = [["keep", "a"], "keep", "ka", {"keep": "a"}, {"keep", "a"}, iter(("keep", "a"))]
        self.check_no_change("a", [[thing] for thing in things + other_kinds() + whole_numbers() + lists_and_tuples()])
        self.check_no_change("a", [[("keep", "a"), thing] for thing in things + other_kinds()])

    def test_signs_that_are_none(self):
        for sign in NO_SIGNS:
            self.check_no_change("a", [
                [("keep", sign)], [("cut", sign)], [("swap", sign, "b")], [("swap", "a", sign)],
                [("keep", "a"), ("put", sign)], [("put", sign), ("keep", "a")],
            ])
        self.check_no_change("ab", [[("keep", "ab")], [("cut", "ab")], [("swap", "ab", "c")], [("keep", ""), ("keep", "ab")]])

    def test_things_that_are_no_list(self):
        things = [(("keep", "a"),), ("keep", "a"), "keep a", {0: ("keep", "a")}, iter([("keep", "a")]), ring_list()]
        self.check_no_change("a", things + other_kinds() + whole_numbers() + other_texts() + lists_and_tuples())

    def test_no_text_is_refused_ahead(self):
        for deeds in ([], [("keep", "a")], None, (), Touchy(), [None]):
            self.check_all_refused(NoText, lambda thing: changed(thing, deeds), no_texts())


class CostTest(ChangesTest):

    def test_the_sum(self):
        deeds = [("put", "x"), ("keep", "a"), ("cut", "b"), ("swap", "c", "d"), ("put", "y"), ("cut", "e")]
        self.assertEqual(cost_of("abce", deeds, (1, 100, 10000)), 10202)
        self.assertEqual(cost_of("abce", deeds, (0, 0, 0)), 0)

    def test_costs_at_the_bounds(self):
        great = 10 ** 60
        deeds = [("put", "x"), ("cut", "a"), ("swap", "b", "c"), ("keep", "d")]
        self.assertEqual(cost_of("abd", deeds, (great, great, great)), 3 * great)
        self.assertEqual(cost_of("abd", deeds, (0, great, 0)), great)
        self.assertEqual(cost_of("abd", deeds, (great, 0, great - 1)), 2 * great - 1)

    def test_no_costs(self):
        self.check_all_refused(NoCosts, lambda thing: cost_of("a", [("keep", "a")], thing), no_costs())
        things = other_kinds() + whole_numbers() + other_texts() + lists_and_tuples()
        self.check_all_refused(NoCosts, lambda thing: cost_of("a", [("keep", "a")], thing), things)

    def test_no_costs_is_refused_ahead_of_no_change(self):
        for deeds in (None, [], (), Touchy(), [("keep", "b")], [None]):
            self.check_all_refused(NoCosts, lambda thing: cost_of("a", deeds, thing), no_costs())

    def test_no_text_is_refused_ahead_of_all(self):
        for deeds, costs in (([], COSTS), (None, COSTS), ([], None), (None, None), (Touchy(), Touchy())):
            self.check_all_refused(NoText, lambda thing: cost_of(thing, deeds, costs), no_texts())

    def test_the_same_behind_refusals(self):
        deeds = [("keep", "a"), ("put", "b")]
        self.check_refused(NoChange, changed, "b", deeds)
        self.check_refused(NoChange, cost_of, "b", deeds, COSTS)
        self.check_refused(NoCosts, cost_of, "a", deeds, None)
        self.assertEqual(deeds, [("keep", "a"), ("put", "b")])
        self.check_change("a", deeds, "ab", 3)


if __name__ == "__main__":
    import unittest
    unittest.main()
