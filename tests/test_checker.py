"""The checker as a whole: words, things of any kind in every place, and what it imports."""

import ast
import itertools
import os
import subprocess
import sys
import unittest

from hidhalves.checker import holds
from hidhalves.errors import HalvesError
from tests.takings import CheckerCase
from tests.things import LikeAll, bent, deep, listed, odd_things

ROOT = os.path.dirname(os.path.dirname(os.path.abspath(__file__)))
# The modules of the document's stages 1, 2 and 4.
LET = {"rows", "booktexts", "partings", "halves", "seen", "rules"}

BOOK = (4, (("a", "bbbn"), ("b", "yybb"), ("c", "ynnn")))
FIT = (("nnnn", "yyyn"), ("yynn", "yyyy"), ("ynnn", "ynnn"))
GOOD = [
    (("tree", ("nnyy", "nynn", "ynnn")),
     (("nnnn", "nnyy", "nynn", "ynnn"), (("nnnn", "nnyy", (2, 3)), ("nnnn", "nynn", (1,)), ("nnnn", "ynnn", (0,))))),
    (("crossing", ("nnn", "nyn", "ynn", "yyn")), (0, 1, ("nnn", "nyn", "ynn", "yyn"))),
    (("fit", BOOK), FIT),
    (("barred", (2, (("p", "nb"), ("q", "yb")))), ("four", 0, 1, ("p", "p", "q", "q"))),
    (("barred", (3, (("p", "bbb"), ("q", "nyn"), ("r", "ynn"), ("s", "nny")))),
     ("odd", (("row", "p", 0, 1, 2), ("seen", 0, 1, 1), ("seen", 0, 2, 1), ("seen", 1, 2, 1)))),
    (("many", BOOK, 4),
     (FIT, (((2, 3),), ((0, 1), (0, 2))), ((("row", "a", 0, 1, 2),), (("seen", 1, 2, 0),)))),
    (("many", (2, (("p", "nb"), ("q", "yb"))), 0), ("four", 0, 1, ("p", "p", "q", "q"))),
    (("fewest", (3, (("a", "bbn"), ("b", "nbb"))), 3), (("nnn", "yyn"), ("nnn", "nyy"))),
    (("crossed", ("bbnn", "nnbb", ("bbbb", "nbnb")), 2),
     (("nnnn", "yynn"), ("nnnn", "nnyy"), (("1111", "1111"), ("0111", "0001")))),
    (("never", ("nbnb", "nbnb", ("nbyb", "nbbb")), 2), None),
    (("alike", (3, (("a", "nby"), ("b", "bbn"))), (3, (("zed", "bnb"), ("a", "byy")))), ((1, 2, 0), (2,))),
]
WORDS = ("tree", "crossing", "fit", "barred", "many", "fewest", "crossed", "never", "alike")


class Raises:
    """Refuses to be compared, counted, gone through or asked for a truth."""

    def refuse(self, *things):
        raise RuntimeError("not to be asked")

    __eq__ = __ne__ = __lt__ = __gt__ = __le__ = __ge__ = __len__ = __iter__ = __bool__ = __contains__ = __getitem__ = __hash__ = refuse


def is_unlike(thing, good):
    """Whether these are unlike, truths and numbers counted as unlike; shown texts tell this where they can be had."""
    try:
        return repr(thing) != repr(good)
    except ValueError:
        return True


class AnyKind(CheckerCase):
    def test_good_ones_are_taken(self):
        self.assertEqual({claim[0] for claim, paper in GOOD}, set(WORDS))
        for claim, paper in GOOD:
            self.take(claim, paper)

    def test_a_thing_in_the_place_of_the_claim_or_the_paper(self):
        things = odd_things() + [Raises(), HalvesError("x"), [Raises()], (Raises(),), (Raises(), Raises()), (Raises(),) * 3]
        for claim, paper in GOOD:
            for thing in things:
                self.leave_any(thing, paper)
                if is_unlike(thing, paper):
                    self.leave_any(claim, thing)
        for thing, other in itertools.product(things, repeat=2):
            self.leave_any(thing, other)

    def test_a_thing_in_the_place_of_each_part(self):
        for good in GOOD:
            for thing in odd_things() + [Raises(), (Raises(),), (0, Raises())]:
                for claim, paper in bent(good, thing):
                    if is_unlike((claim, paper), good):
                        self.leave_any(claim, paper)

    def test_a_truth_for_a_number(self):
        """Numbers as truths stand at least once in each of these, and the claim would be taken by a mere ==."""
        for claim, paper in GOOD:
            for wrong in truths_in((claim, paper)):
                self.assertEqual(wrong, (claim, paper))
                self.leave_any(*wrong)

    def test_a_list_for_a_tuple(self):
        for good in GOOD:
            for wrong in listed(good)[1:]:
                self.leave_any(*wrong)

    def test_a_part_of_a_paper_left_out_or_twice(self):
        for claim, paper in GOOD:
            for wrong in shorter_or_longer(paper) if paper else []:
                self.leave_any(claim, wrong)

    def test_deep_things(self):
        for kind in (lambda inner: (inner,), lambda inner: (inner, inner), lambda inner: ("tree", inner), lambda inner: ("fit", inner),
                     lambda inner: (3, inner), lambda inner: ((0, 1, 2), inner), lambda inner: ("many", inner, 1), lambda inner: [inner]):
            for inmost in (None, (), "nnn", 0, LikeAll()):
                for depth in (1, 2, 12, 20):
                    thing = deep(kind, inmost, depth)
                    self.leave_any(thing, thing)
                    for claim, paper in GOOD:
                        self.leave_any(thing, paper)
                        self.leave_any((claim[0], thing) + claim[2:], paper)

    def test_other_words_and_numbers_of_parts(self):
        for claim, paper in GOOD:
            for word in WORDS + ("", "Tree", "trees", "tree ", "odd", "four", "row", "holds", "no"):
                if word != claim[0]:
                    self.leave_any((word,) + claim[1:], paper)
            for wrong in (claim[:1], claim[:-1], claim + (None,), claim + claim[-1:], (claim,), claim[1:], ()):
                self.leave_any(wrong, paper)

    def test_each_paper_with_each_other_claim(self):
        for (claim, paper), (other, beside) in itertools.permutations(GOOD, 2):
            self.assertIs(holds(claim, beside), paper == beside)


def truths_in(thing):
    """All things as this tuple, with True for one 1 or False for one 0 within."""
    told = []
    for at, part in enumerate(thing):
        if isinstance(part, tuple):
            others = truths_in(part)
        else:
            others = [bool(part)] if type(part) is int and part in (0, 1) else []
        told += [thing[:at] + (other,) + thing[at + 1:] for other in others]
    return told


def shorter_or_longer(thing):
    """All as this tuple, but that in one tuple, itself or one within, a part is left out or stands twice."""
    told = []
    for at, part in enumerate(thing):
        told += [thing[:at] + thing[at + 1:], thing[:at] + (part,) + thing[at:]]
        if isinstance(part, tuple):
            told += [thing[:at] + (other,) + thing[at + 1:] for other in shorter_or_longer(part)]
    return told


class Imports(unittest.TestCase):
    def test_the_checker_names_stages_1_2_and_4_alone(self):
        with open(os.path.join(ROOT, "hidhalves", "checker.py"), encoding="utf-8") as file:
            tree = ast.parse(file.read())
        named = {node.module for node in ast.walk(tree) if isinstance(node, ast.ImportFrom)}
        self.assertLessEqual(named, {"hidhalves." + name for name in LET})
        self.assertEqual([node for node in ast.walk(tree) if isinstance(node, ast.Import)], [])

    def test_nothing_else_comes_with_them(self):
        """Asked of a Python of its own, in which no other test has imported anything."""
        ask = "import sys, hidhalves.checker; print(' '.join(sorted(n for n in sys.modules if n.startswith('hidhalves.'))))"
        told = subprocess.run([sys.executable, "-c", ask], cwd=ROOT, capture_output=True, text=True, check=True).stdout.split()
        self.assertLessEqual(set(told), {"hidhalves." + name for name in LET | {"checker", "errors"}})


if __name__ == "__main__":
    unittest.main()
