"""Losses: point [26], and guarantee (f) of point [4] as far as it speaks of chains."""

import copy
import itertools
import random
import unittest

from crossundo.losses import loss, shows_loss
from crossundo.recovery import journals_of
from tests.samples import BUSY, CIRCLE, DOCUMENTS, all_damaged, anything, beginnings, bent, cut_off, doc_workspace
from tests.samples import drawn_workspace, is_place_by_definition, is_plain, kept_by_definition, mark, stirred_journals


def places_of(journals):
    """Return the rows by their places."""
    return {(document, number): row for document, rows in journals for number, row in enumerate(rows)}


def is_chain_by_definition(journals, document, number, thing):
    """Return whether any object is a chain for a row, by the words of point [26]."""
    rows = places_of(journals)
    if type(thing) is not tuple or not thing or not all(is_place_by_definition(place) for place in thing):
        return False
    if thing[0] != (document, number):
        return False
    for here, there in zip(thing, thing[1:]):
        earlier = there[0] == here[0] and there[1] < here[1]
        named = here in rows and there in rows[here][1]
        if not earlier and not named:
            return False
    if thing[-1] not in rows:
        return True
    if len(thing) == 1 or thing[-2] not in rows:
        return False
    return thing[-1] in rows[thing[-2]][1] and rows[thing[-1]] != rows[thing[-2]]


def small_journals():
    """Return small journals of many kinds, whole and damaged."""
    found = [CIRCLE, CIRCLE[:1], (CIRCLE[0], ("b", CIRCLE[1][1][:1]))]
    for seed in range(300):
        source = random.Random(seed)
        journals = stirred_journals(source)
        journals = tuple((document, rows[:3]) for document, rows in journals[:3])
        found.append(cut_off(source, journals, 0.5))
    return found


class Checks(unittest.TestCase):

    def check(self, journals, place, thing):
        """Compare shows_loss with the definition."""
        expected = is_chain_by_definition(journals, *place, thing)
        self.assertIs(shows_loss(journals, *place, thing), expected)
        return expected

    def check_losses(self, journals):
        """Check loss for each row; return how long the chains are."""
        left = kept_by_definition(journals)
        shown = repr(journals)
        lengths = []
        for place in places_of(journals):
            chain = loss(journals, *place)
            if place in left:
                self.assertIsNone(chain)
                lengths.append(0)
            else:
                self.assertTrue(is_plain(chain))
                self.assertTrue(is_chain_by_definition(journals, *place, chain))
                self.assertIs(shows_loss(journals, *place, chain), True)
                self.assertEqual(loss(journals, *place), chain)
                lengths.append(len(chain))
        self.assertEqual(repr(journals), shown)
        return lengths


class LossTest(Checks):

    def test_damaged_journals(self):
        lengths = [length for journals in all_damaged(150) for length in self.check_losses(journals)]
        self.assertGreater(lengths.count(0), 1000)
        self.assertGreater(lengths.count(2), 500)
        self.assertGreater(sum(length > 3 for length in lengths), 100)

    def test_by_hand(self):
        w = doc_workspace("a", "b")
        w.do("x", mark("a", "b"))
        w.save("a")
        a, b = journals_of(w)
        self.assertIsNone(loss((a, b), "a", 2))
        short = (a, (b[0], b[1][:1]))
        self.assertIsNone(loss(short, "a", 0))
        self.assertEqual(loss(short, "a", 1), (("a", 1), ("b", 1)))
        self.assertEqual(self.check_losses(short)[2], 3)
        self.assertEqual(loss((a,), "a", 1), (("a", 1), ("b", 1)))

    def test_another_row_stands_there(self):
        w = doc_workspace("a", "b")
        w.do("x", mark("a", "b"))
        (a, rows), b = journals_of(w)
        other = (("undo", "a", ("a", "b")), rows[1][1])
        journals = ((a, rows[:1] + (other,)), b)
        self.assertEqual(loss(journals, "a", 1), (("a", 1), ("b", 1)))
        self.assertEqual(loss(journals, "b", 1), (("b", 1), ("a", 1)))

    def test_a_circle_is_kept(self):
        for place in places_of(CIRCLE):
            self.assertIsNone(loss(CIRCLE, *place))

    def test_a_chain_over_all_documents(self):
        w = doc_workspace(*DOCUMENTS)
        for at in range(7):
            w.do("xyzuvwt"[at], mark(*DOCUMENTS[at:at + 2]))
        journals = beginnings(journals_of(w), (1, 3, 3, 3, 3, 3, 3, 3))
        self.assertGreater(max(self.check_losses(journals)), 8)
        self.assertEqual(loss(journals, "h", 1)[-1], ("a", 1))

    def test_the_longest_journals(self):
        w = drawn_workspace(1, 250, 8, BUSY)
        while len(w.log()) < 205:
            w.save(w.documents()[0])
        self.check_losses(cut_off(random.Random(4), journals_of(w)))
        self.assertEqual(set(self.check_losses(journals_of(w))), {0})


class ShowsLossTest(Checks):

    def test_all_tuples_of_up_to_three_places(self):
        found = []
        for at, journals in enumerate(small_journals()):
            left = kept_by_definition(journals)
            rows = places_of(journals)
            places = sorted({*rows, *(place for row in rows.values() for place in row[1]), ("a", 0), ("b", 4)})
            for start in rows:
                # A chain begins with the place of its row; that others do not count is looked at in some journals only.
                first = places if at < 15 else [start]
                things = [(), *((place,) for place in first), *itertools.product(first, places),
                          *itertools.product(first, places, places)]
                for thing in things:
                    shown = self.check(journals, start, thing)
                    self.assertFalse(shown and start in left)
                    found.append(shown)
        self.assertGreater(found.count(True), 1000)
        self.assertGreater(found.count(False), 1000)

    def test_another_first_place(self):
        w = doc_workspace("a", "b")
        w.do("x", mark("a", "b"))
        a, b = journals_of(w)
        short = (a, (b[0], b[1][:1]))
        chain = (("a", 1), ("b", 1))
        self.assertIs(shows_loss(short, "a", 1, chain), True)
        self.assertIs(shows_loss(short, "a", 0, chain), False)
        self.assertIs(shows_loss(short, "b", 0, chain), False)
        self.assertIs(shows_loss(short, "a", 1, chain[1:]), False)

    def test_chains_through_places_without_a_row(self):
        event = ("undo", "a", ("a", "b"))
        row = (event, (("a", 0), ("b", 5)))
        save = (("save", "b", ("b",)), (("b", 0),))
        journals = (("a", (row,)), ("b", (save,)))
        for rest, expected in (
                ((("b", 5),), True), ((("b", 5), ("b", 4)), True), ((("b", 5), ("b", 3), ("b", 1)), True),
                ((("b", 5), ("b", 0)), False), ((("b", 5), ("b", 5)), False), ((("b", 5), ("b", 6)), False),
                ((("b", 4),), False), ((("b", 5), ("a", 0)), False), ((("b", 5), ("b", 4), ("b", 0)), False),
                ((("a", 0), ("b", 5)), True), ((("a", 0),), False), ((), False), ((("a", 0), ("a", 0), ("b", 5), ("b", 2)), True),
                ((("b", 5), ("b", 2), ("b", 3)), False), ((("b", 0),), False), ((("c", 0),), False)):
            thing = (("a", 0),) + rest
            self.assertEqual(is_chain_by_definition(journals, "a", 0, thing), expected, thing)
            self.check(journals, ("a", 0), thing)

    def test_another_row_than_the_one_that_names_it(self):
        """The last place counts only if the row that stands at the next to last one names it."""
        undo, redo = ("undo", "a", ("a", "b")), ("redo", "a", ("a", "b"))
        journals = (("a", ((undo, (("a", 0), ("b", 1))),)),
                    ("b", ((redo, (("a", 9), ("b", 0))), (redo, (("a", 9), ("b", 1))))))
        for rest, expected in (((("b", 1),), True), ((("b", 1), ("b", 0)), False), ((("b", 1), ("b", 0), ("a", 9)), True),
                               ((("b", 0),), False), ((("b", 1), ("a", 9), ("a", 1)), True), ((("b", 1), ("a", 9), ("a", 0)), False),
                               ((("b", 1), ("b", 1)), False)):
            thing = (("a", 0),) + rest
            self.assertEqual(is_chain_by_definition(journals, "a", 0, thing), expected, thing)
            self.check(journals, ("a", 0), thing)

    def test_bent_chains(self):
        found = []
        for seed, journals in enumerate(all_damaged(120)):
            source = random.Random(seed)
            rows = places_of(journals)
            left = kept_by_definition(journals)
            lost = sorted(set(rows) - left)
            for start in source.sample(lost, min(len(lost), 3)):
                chain = loss(journals, *start)
                for _ in range(6):
                    once = bent(source, chain)
                    found.append(self.check(journals, start, once))
                    found.append(self.check(journals, start, bent(source, once)))
                at = source.randrange(len(chain))
                other = source.choice(sorted(rows))
                for thing in (chain[:at] + chain[at + 1:], chain[:at + 1] + chain[at:], chain[::-1], list(chain), chain + chain,
                              chain[:at] + (list(chain[at]),) + chain[at + 1:], chain[:at] + (other,) + chain[at + 1:],
                              chain[:at] + ((chain[at][0], chain[at][1] + 1),) + chain[at + 1:],
                              chain[:at] + ((other[0], chain[at][1]),) + chain[at + 1:], chain + (other,), (start,) + chain):
                    found.append(self.check(journals, start, thing))
                for kept_place in source.sample(sorted(left), min(len(left), 2)):
                    self.assertIs(shows_loss(journals, *kept_place, (kept_place,) + chain), False)
                    self.assertIs(shows_loss(journals, *kept_place, chain), False)
        self.assertGreater(found.count(True), 300)
        self.assertGreater(found.count(False), 300)

    def test_wandering_chains(self):
        """Chains of drawn steps of which each may be taken, ended anywhere."""
        found = []
        for seed, journals in enumerate(all_damaged(100)):
            source = random.Random(seed)
            rows = places_of(journals)
            for _ in range(8 if rows else 0):
                chain = (source.choice(sorted(rows)),)
                for _ in range(source.randint(1, 8)):
                    here = chain[-1]
                    steps = list(rows[here][1]) if here in rows else []
                    steps += [(here[0], number) for number in range(min(here[1], 30))]
                    if steps:
                        chain += (source.choice(steps),)
                    found.append(self.check(journals, chain[0], chain))
        self.assertGreater(found.count(True), 300)
        self.assertGreater(found.count(False), 300)

    def test_objects_of_any_kind(self):
        w = doc_workspace("a", "b")
        w.do("x", mark("a", "b"))
        a, b = journals_of(w)
        short = (a, (b[0], b[1][:1]))
        chain = (("a", 1), ("b", 1))
        for thing in anything():
            self.assertIs(shows_loss(short, "a", 1, thing), False)
            self.assertIs(shows_loss(short, "a", 1, (thing,)), False)
            self.assertIs(shows_loss(short, "a", 1, (chain[0], thing)), False)
            self.assertIs(shows_loss(short, "a", 1, (thing, chain[1])), False)
            self.assertIs(shows_loss(short, "a", 1, chain + (thing,)), False)
            self.assertIs(shows_loss(short, "a", 1, (chain[0], ("b", thing))), type(thing) is int and thing == 1)
            self.assertIs(shows_loss(short, "a", 1, (chain[0], (thing, 1))), type(thing) is str and thing == "b")

    def test_booleans_are_no_numbers(self):
        w = doc_workspace("a", "b")
        w.do("x", mark("a", "b"))
        a, b = journals_of(w)
        short = (a, (b[0], b[1][:1]))
        self.assertIs(shows_loss(short, "a", 1, (("a", True), ("b", 1))), False)
        self.assertIs(shows_loss(short, "a", 1, (("a", 1), ("b", True))), False)

    def test_what_is_passed_in_stays(self):
        for thing in ([("a", 1), ("b", 1)], (["a", 1],), {"a": [1]}):
            before = copy.deepcopy(thing)
            self.assertIs(shows_loss(CIRCLE[:1], "a", 0, thing), False)
            self.assertEqual(thing, before)


class CallsTest(unittest.TestCase):

    def test_arguments_by_name_in_another_order(self):
        journals = CIRCLE[:1]
        chain = loss(number=1, document="a", journals=journals)
        self.assertEqual(chain, loss(journals, "a", 1))
        self.assertIs(shows_loss(thing=chain, number=1, document="a", journals=journals), True)
        self.assertIs(shows_loss(thing=chain, number=0, document="a", journals=journals), False)


if __name__ == "__main__":
    unittest.main()
