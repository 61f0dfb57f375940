"""Checks that many tests share: what is refused, and by which class."""

import unittest


class RefusalTest(unittest.TestCase):

    def check_refused(self, kind, asked, *handed):
        """Refused by this very class, and not by one under or above it."""
        with self.assertRaises(kind) as caught:
            asked(*handed)
        self.assertIs(type(caught.exception), kind)

    def check_all_refused(self, kind, asked, things):
        for place, thing in enumerate(things):
            with self.subTest(place=place, kind=type(thing)):
                self.check_refused(kind, asked, thing)
