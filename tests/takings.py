"""Asking the checker, shared by its tests."""

import unittest

from hidhalves.checker import holds


class CheckerCase(unittest.TestCase):
    def ask(self, claim, paper):
        """What the checker says, which is a truth, and changes nothing that was handed in."""
        before = repr((claim, paper))
        told = holds(claim, paper)
        self.assertIsInstance(told, bool, (claim, paper))
        self.assertEqual(repr((claim, paper)), before)
        return told

    def leave_any(self, claim, paper):
        """As leave, of things that can't be shown, or are unlike themselves when copied."""
        self.assertIs(holds(claim, paper), False)

    def take(self, claim, paper):
        self.assertIs(self.ask(claim, paper), True, (claim, paper))

    def leave(self, claim, paper):
        self.assertIs(self.ask(claim, paper), False, (claim, paper))
