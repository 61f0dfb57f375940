"""What the document promises over the whole program (points 1 to 3)."""

import copy
import importlib
import pathlib

import plain
from forestread.changes import changed, cost_of
from forestread.derived import text_of
from forestread.errors import Endless
from forestread.mends import mended
from forestread.needs import least
from forestread.numbered import place_of, row_at
from forestread.rings import ring
from forestread.tallies import Listed, Longest
from forestread.totals import how_many, total
from forestread.wood import Wood
from forestread.worths import best, told
from refusals import RefusalTest
from samples import NAMED, drawn, texts_for

PACKAGE = pathlib.Path(__file__).resolve().parent.parent / "forestread"

# The module of each name of the interface.
INTERFACE = {
    "errors": "ForestError NoGrammar NoText NoRow NoRule NoNumber NoCosts NoChange NoWords Endless TooGreat Barren",
    "parts": "is_whole is_sign is_name checked_text",
    "rules": "checked start_of heads_of rules_of",
    "derived": "text_of worth_of spans_of",
    "needs": "least needed row_with",
    "chart": "standing",
    "wood": "Wood",
    "rings": "ring settled",
    "tallies": "Tally Many Cheapest Longest Used Listed",
    "totals": "total how_many",
    "numbered": "row_at place_of",
    "worths": "told best prices",
    "changes": "changed cost_of",
    "tolls": "tolls",
    "mends": "mended",
    "notes": "show_rule show_grammar read_rule read_grammar",
    "desk": "Desk",
}


class WholeTest(RefusalTest):

    def check_endless(self, grammar, text, wood, found):
        self.assertIsNone(how_many(wood))
        self.assertIsNotNone(ring(wood))
        self.check_refused(Endless, row_at, wood, 0)
        for row in found[:3]:
            self.check_refused(Endless, place_of, wood, row)
        # More rows than any number that may be asked for.
        self.assertEqual(len(told(wood)), 60)

    def check_counted(self, grammar, text, wood, found, most):
        many = how_many(wood)
        self.assertIsNone(ring(wood))
        longest = total(wood, Longest()) or 0
        if longest <= most:
            self.assertEqual(many, len(found))
            self.assertEqual([row_at(wood, number) for number in range(min(many, 80))], found[:80])
            self.assertEqual(total(wood, Listed()), found[:60])
            self.assertEqual(told(wood), plain.by_worth(grammar, found)[:60])
        else:
            self.assertGreater(many, len(found))
        for number, row in enumerate(found[:40]):
            place = place_of(wood, row)
            self.assertEqual(row_at(wood, place), row)
            self.assertGreaterEqual(place, number)

    def check_by_worth(self, grammar, text, wood, found):
        rows = told(wood, 10)
        keys = [(plain.read(grammar, row)[1], len(row), row) for row in rows]
        self.assertEqual(keys, sorted(keys))
        self.assertEqual(len(rows), len({tuple(row) for row in rows}))
        for row in rows:
            self.assertEqual(plain.read(grammar, row)[0], text)
            self.assertEqual(text_of(grammar, row), text)
        for row in found:
            key = (plain.read(grammar, row)[1], len(row), row)
            self.assertTrue(row in rows or (len(rows) == 10 and key > keys[-1]), row)
        if rows:
            self.assertEqual(best(wood), rows[0])

    def check_mended(self, grammar, text, wood, found):
        if not grammar or grammar[0][0] not in least(grammar):
            self.assertEqual(found, [])
            return
        for costs in ((1, 1, 1), (2, 1, 3), (0, 0, 0), (10 ** 60, 1, 10 ** 60)):
            cost, deeds, row = mended(grammar, text, costs)
            self.assertEqual(changed(text, deeds), plain.read(grammar, row)[0])
            self.assertEqual(cost_of(text, deeds, costs), cost)
            if min(costs) > 0:
                self.assertEqual(cost == 0, wood.top() is not None)
            else:
                self.assertEqual(cost, 0)

    def check(self, grammar, text, most):
        before = copy.deepcopy(grammar)
        with self.subTest(grammar=grammar, text=text):
            wood = Wood(grammar, text)
            found = plain.rows_of_length(grammar, most, text)
            if wood.top() is None:
                self.assertEqual(found, [])
            if plain.ring_nodes(plain.wood(grammar, text)):
                self.check_endless(grammar, text, wood, found)
            else:
                self.check_counted(grammar, text, wood, found, most)
            self.check_by_worth(grammar, text, wood, found)
            self.check_mended(grammar, text, wood, found)
            self.assertEqual(grammar, before)

    def test_named_grammars(self):
        for grammar in NAMED.values():
            for text in texts_for(grammar, 3):
                self.check(grammar, text, 8)

    def test_drawn_grammars(self):
        for grammar in drawn(131, 60):
            for text in texts_for(grammar, 3):
                self.check(grammar, text, 8)

    def test_drawn_grammars_of_one_head(self):
        for grammar in drawn(132, 40, heads="S", signs="a"):
            for text in texts_for(grammar, 4):
                self.check(grammar, text, 9)

    def test_the_names_of_the_interface(self):
        for module, names in INTERFACE.items():
            loaded = importlib.import_module("forestread." + module)
            for name in names.split():
                with self.subTest(module=module, name=name):
                    self.assertTrue(callable(getattr(loaded, name)))
                    self.assertEqual(getattr(loaded, name).__module__, "forestread." + module)

    def test_each_file_of_the_interface_is_there(self):
        for module in INTERFACE:
            self.assertTrue((PACKAGE / (module + ".py")).is_file())

    def test_nothing_hangs_on_what_was_asked_before(self):
        cases = [(grammar, text) for grammar in drawn(133, 15) for text in ("", "a", "ab")]

        def answers(grammar, text):
            wood = Wood(grammar, text)
            return how_many(wood), told(wood, 5), set(wood.nodes()), ring(wood)

        first = [answers(*case) for case in cases]
        again = [answers(*case) for case in reversed(cases)]
        self.assertEqual(first, again[::-1])


if __name__ == "__main__":
    import unittest
    unittest.main()
