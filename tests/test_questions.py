"""[9], [10], [16]: wishes, differences and refusals; small questions answered by hand."""

import unittest

from hoursmeant.errors import (
    InvalidNumber, InvalidProgram, InvalidValue, InvalidWish, InvalidZones, Refused,
)
from hoursmeant.programs import run
from hoursmeant.questions import breaking, differences, is_wish, keeps, refusals, witness
from tests.helpers import ODD_VALUES, is_odd_copy, nested, odd_at_each_depth

ZONE = ((0, 60), 100)
ONE = (ZONE,)
TWO = (ZONE, ((-30, 30), 200))
THERE_AND_BACK = (("read", 0, 0), ("find", 1, 0, "early", "refuse"))
# Values 0 and 4 are moments, 1 and 3 readings, 2 is a span.
ALL_KINDS = (("read", 0, 0), ("offset", 0, 0), ("plus", 0, 2), ("less", 3, 2))
LATER = (("read", 0, 0), ("add", 1, 60), ("find", 2, 0, "refuse", "refuse"))


def find(fold, gap):
    """The program that reads the start and finds the reading at the same place."""
    return (("read", 0, 0), ("find", 1, 0, fold, gap))


def unchanged(*tables):
    """A world of these tables, each first and later."""
    return tables, tables


class TestIsWish(unittest.TestCase):
    def yes(self, program, *values):
        for value in values:
            with self.subTest(value=value):
                self.assertIs(is_wish(ONE, program, value), True)

    def no(self, program, *values):
        for value in values:
            with self.subTest(value=value):
                self.assertIs(is_wish(ONE, program, value), False)

    def test_ordinary(self):
        self.yes(THERE_AND_BACK, ("found",), ("same", 0, 2), ("order", 2, 1), ("near", 0, 1, 60))
        self.yes((), ("found",), ("same", 0, 0), ("order", 0, 0), ("near", 0, 0, 0))

    def test_indexes_of_values_that_are_no_spans(self):
        right = (0, 1, 3, 4)
        for i in range(-2, 7):
            for j in range(-2, 7):
                for wish in (("same", i, j), ("order", i, j), ("near", i, j, 5)):
                    self.assertIs(is_wish(ONE, ALL_KINDS, wish), i in right and j in right)

    def test_bounds_of_most(self):
        self.yes(THERE_AND_BACK, *[("near", 0, 2, most) for most in (0, 1, 999999, 1000000)])
        self.no(THERE_AND_BACK, *[("near", 0, 2, most) for most in (-1, 1000001, 10 ** 30, -10 ** 30)])
        self.no(THERE_AND_BACK, *[("near", 0, 2, most) for most in ODD_VALUES])

    def test_words_and_lengths(self):
        for wish in (("found",), ("same", 0, 2), ("order", 0, 2), ("near", 0, 2, 5)):
            word, *rest = wish
            self.no(THERE_AND_BACK, wish + (0,), wish[:-1], wish[1:], wish * 2, (wish,), list(wish))
            self.no(THERE_AND_BACK, (word.upper(), *rest), (word + " ", *rest), (word[:-1], *rest))
            for odd in ("", "x" * 4000, None, 0, True, (word,), [word], nested(28)):
                self.no(THERE_AND_BACK, (odd, *rest))
        self.no(THERE_AND_BACK, "found", ("same", 0, 2, 5), ("near", 0, 2), ("found", 0, 2), ())

    def test_other_kinds(self):
        self.no(THERE_AND_BACK, *ODD_VALUES, 0, 10 ** 30)
        for wish in (("found",), ("same", 0, 1), ("near", 1, 0, 5)):
            self.no(THERE_AND_BACK, *[odd for odd in odd_at_each_depth(wish) if is_odd_copy(odd, wish)])

    def test_more_than_four_conversions(self):
        self.yes((("read", 0, 0),) * 8, ("same", 8, 0), ("found",))

    def test_zones_and_program_are_asked_for(self):
        for odd in (*ODD_VALUES, ZONE):
            self.assertRaises(InvalidZones, is_wish, odd, odd, ("found",))
            self.assertRaises(InvalidProgram, is_wish, ONE, odd, ("found",))


class TestKeeps(unittest.TestCase):
    def broken(self, zones, program, wish, world):
        self.assertIs(keeps(zones, program, wish), world is None)
        self.assertEqual(breaking(zones, program, wish), world)

    def test_found(self):
        # What is read and found again is never in a gap (F6).
        for gap in ("ahead", "behind", "refuse"):
            for fold in ("early", "late"):
                self.broken(ONE, find(fold, gap), ("found",), None)
            self.broken(ONE, find("refuse", gap), ("found",), unchanged((60, ((-59, 0),))))
        self.broken(ONE, LATER[:2] + (("find", 2, 0, "early", "ahead"),), ("found",), None)
        gap = unchanged((0, ((1, 60),)))
        self.broken(ONE, LATER[:2] + (("find", 2, 0, "early", "refuse"),), ("found",), gap)
        self.broken(ONE, (), ("found",), None)
        self.broken((((5,), 1),), LATER, ("found",), None)

    def test_same(self):
        early = unchanged((60, ((-59, 0),)))
        late = unchanged((60, ((1, 0),)))
        self.broken(ONE, find("early", "refuse"), ("same", 0, 2), early)
        self.broken(ONE, find("late", "refuse"), ("same", 0, 2), late)
        self.broken(ONE, find("early", "refuse"), ("same", 2, 0), early)
        # A refused run keeps it, and without a fold the moment comes back.
        self.broken(ONE, find("refuse", "refuse"), ("same", 0, 2), None)
        self.broken(ONE, find("early", "refuse") + (("read", 2, 0),), ("same", 1, 3), None)
        self.broken(ONE, THERE_AND_BACK, ("same", 2, 2), None)
        self.broken(ONE, ALL_KINDS, ("same", 1, 3), None)
        self.broken(ONE, ALL_KINDS, ("same", 0, 4), None)

    def test_order(self):
        early = unchanged((60, ((-59, 0),)))
        late = unchanged((60, ((1, 0),)))
        self.broken(ONE, find("early", "refuse"), ("order", 2, 0), None)
        self.broken(ONE, find("early", "refuse"), ("order", 0, 2), early)
        self.broken(ONE, find("late", "refuse"), ("order", 0, 2), None)
        self.broken(ONE, find("late", "refuse"), ("order", 2, 0), late)
        self.broken(ONE, find("refuse", "refuse"), ("order", 0, 2), None)
        self.broken(ONE, (("add", 0, 1),), ("order", 0, 1), None)
        self.broken(ONE, (("add", 0, 1),), ("order", 1, 0), unchanged((0, ())))
        self.broken(ONE, THERE_AND_BACK, ("order", 0, 1), None)
        self.broken(ONE, THERE_AND_BACK, ("order", 1, 0), unchanged((60, ((1, 0),))))

    def test_near(self):
        early = unchanged((60, ((-59, 0),)))
        late = unchanged((60, ((1, 0),)))
        for rules, world in ((("early", "refuse"), early), (("late", "refuse"), late)):
            for i, j in ((0, 2), (2, 0)):
                self.broken(ONE, find(*rules), ("near", i, j, 60), None)
                self.broken(ONE, find(*rules), ("near", i, j, 59), world)
                self.broken(ONE, find(*rules), ("near", i, j, 0), world)
        self.broken(ONE, find("refuse", "refuse"), ("near", 0, 2, 0), None)
        self.broken(ONE, (("add", 0, 100000), ("add", 1, -100000)), ("near", 0, 1, 100000), None)
        self.broken(ONE, (("add", 0, -100000),), ("near", 0, 1, 99999), unchanged((0, ())))

    def test_refused_run_keeps_all_but_found(self):
        program = find("refuse", "refuse") + (("add", 2, 1),)
        for i in range(4):
            for j in range(4):
                for wish in (("near", i, j, 61), ("near", i, j, 1000000)):
                    self.broken(ONE, program, wish, None)
        # The readings descend in a fold alone, and in each of these the find is refused.
        program = (("read", 0, 0), ("add", 0, 1), ("read", 2, 0), ("find", 1, 0, "refuse", "ahead"))
        self.broken(ONE, program[:3], ("order", 1, 3), unchanged((60, ((1, 0),))))
        self.broken(ONE, program, ("order", 1, 3), None)
        self.broken(ONE, program, ("found",), unchanged((60, ((-59, 0),))))

    def test_with_an_edition(self):
        program = (("read", 0, 0), ("edition", 0, 0), ("find", 1, 0, "early", "ahead"))
        self.broken(ONE, program, ("same", 0, 3), unchanged((60, ((-59, 0),))))
        program = (("read", 0, 0), ("edition", 0, 0), ("find", 1, 0, "early", "behind"))
        self.broken(ONE, program, ("same", 0, 3), (((0, ()),), ((0, ((0, 60),)),)))
        program = (("read", 0, 0), ("edition", 0, 0), ("read", 0, 0))
        self.broken(ONE, program, ("same", 1, 3), (((0, ()),), ((0, ((0, 60),)),)))
        program = (("add", 0, 1), ("read", 0, 0), ("edition", 1, 0), ("read", 0, 0))
        self.broken(ONE, program, ("same", 2, 4), None)
        # A refused find ahead of the edition: its place has the first table as later one.
        program = (("read", 0, 0), ("find", 1, 0, "refuse", "refuse"), ("edition", 0, 0))
        self.broken(ONE, program, ("found",), unchanged((60, ((-59, 0),))))

    def test_two_places(self):
        program = (("read", 0, 1), ("find", 1, 0, "early", "ahead"))
        self.broken(TWO, program, ("near", 0, 2, 90), None)
        self.broken(TWO, program, ("near", 0, 2, 89), unchanged((60, ((-89, 0),)), (-30, ())))
        self.broken(TWO, program, ("same", 1, 2), unchanged((60, ((-89, 0),)), (-30, ())))

    def test_first_case_of_several(self):
        # The cases of offsets (0, 0), (0, 60), (60, 0), (60, 60); the second and the third break it.
        program = (("read", 0, 0), ("add", 0, 500), ("read", 2, 0), ("add", 1, 500))
        self.broken(ONE, program, ("same", 3, 4), unchanged((0, ((1, 60),))))
        self.broken(ONE, program, ("order", 4, 3), unchanged((60, ((1, 0),))))

    def test_breaking_world_breaks(self):
        for program, wish in ((THERE_AND_BACK, ("same", 0, 2)), (LATER, ("found",))):
            world = breaking(ONE, program, wish)
            if wish == ("found",):
                self.assertRaises(Refused, run, ONE, program, world)
            else:
                values = run(ONE, program, world)
                self.assertNotEqual(values[0], values[2])

    def test_errors(self):
        for function in (keeps, breaking):
            for odd in (*ODD_VALUES, ("same", 0, 3), ("near", 0, 2, -1), [("found",)]):
                self.assertRaises(InvalidWish, function, ONE, THERE_AND_BACK, odd)
            self.assertRaises(InvalidWish, function, ONE, ALL_KINDS, ("same", 0, 2))


class TestDifferences(unittest.TestCase):
    def test_example_of_the_document(self):
        self.assertEqual(differences(ONE, THERE_AND_BACK, 0, 2), [-60, 0])

    def test_second_less_first(self):
        self.assertEqual(differences(ONE, THERE_AND_BACK, 2, 0), [0, 60])
        self.assertEqual(differences(ONE, THERE_AND_BACK, 0, 1), [0, 60])
        self.assertEqual(differences(ONE, THERE_AND_BACK, 1, 0), [-60, 0])
        self.assertEqual(differences(ONE, THERE_AND_BACK, 1, 1), [0])
        self.assertEqual(differences(ONE, (), 0, 0), [0])
        self.assertEqual(differences(ONE, (("add", 0, -7),), 0, 1), [-7])

    def test_ascending_and_each_once(self):
        zones = (((-90, 10, 30), 200),)
        program = (("read", 0, 0), ("add", 0, 150), ("read", 2, 0))
        self.assertEqual(differences(zones, program, 1, 3), [30, 50, 130, 150, 170, 250, 270])

    def test_refused_runs_are_left_out(self):
        self.assertEqual(differences(ONE, find("refuse", "refuse"), 0, 2), [0])
        # The two readings differ by 60 in runs that are refused behind them, too.
        program = (("read", 0, 0), ("add", 0, 1), ("read", 2, 0), ("find", 1, 0, "refuse", "ahead"))
        self.assertEqual(differences(ONE, program[:3], 1, 3), [-59, 1, 61])
        self.assertEqual(differences(ONE, program, 1, 3), [1, 61])
        self.assertEqual(differences(ONE, LATER, 0, 3), [60, 120])
        self.assertEqual(differences(ONE, LATER[:2] + (("find", 2, 0, "early", "behind"),), 0, 3), [0, 60, 120])

    def test_spacing_leaves_some_out(self):
        # Two folds one behind the other take three jumps from 0 to 170.
        program = find("late", "behind") + (("add", 2, 50), ("read", 3, 0), ("find", 4, 0, "late", "behind"))
        for spacing, numbers in ((61, [50, 110, 170]), (84, [50, 110, 170]), (85, [50, 110]), (100, [50, 110])):
            self.assertEqual(differences((((0, 60), spacing),), program, 0, 5), numbers)

    def test_indexes(self):
        for odd in (2, 5, -1, 10 ** 30, *ODD_VALUES):
            if odd is not True:
                self.assertRaises(InvalidValue, differences, ONE, ALL_KINDS, odd, 0)
            self.assertRaises(InvalidValue, differences, ONE, ALL_KINDS, 0, odd)
            self.assertRaises(InvalidValue, witness, ONE, ALL_KINDS, odd, 0, 0)
            self.assertRaises(InvalidValue, witness, ONE, ALL_KINDS, 0, odd, 0)


class TestWitness(unittest.TestCase):
    def test_each_difference_of_the_example(self):
        self.assertEqual(witness(ONE, THERE_AND_BACK, 0, 2, -60), unchanged((60, ((-59, 0),))))
        self.assertEqual(witness(ONE, THERE_AND_BACK, 0, 2, 0), unchanged((0, ())))
        self.assertEqual(witness(ONE, THERE_AND_BACK, 2, 0, 60), unchanged((60, ((-59, 0),))))

    def test_none(self):
        for number in (60, -59, -61, 1, 10 ** 30, -10 ** 30):
            self.assertIsNone(witness(ONE, THERE_AND_BACK, 0, 2, number))

    def test_first_case_that_is_not_refused(self):
        program = (("read", 0, 0), ("add", 0, 1), ("read", 2, 0), ("find", 1, 0, "refuse", "ahead"))
        self.assertIsNone(witness(ONE, program, 1, 3, -59))
        self.assertEqual(witness(ONE, program, 1, 3, 1), unchanged((0, ())))
        self.assertEqual(witness(ONE, program, 1, 3, 61), unchanged((0, ((1, 60),))))

    def test_numbers(self):
        for odd in ODD_VALUES:
            self.assertRaises(InvalidNumber, witness, ONE, THERE_AND_BACK, 0, 2, odd)

    def test_world_of_two_tables(self):
        program = (("offset", 0, 0), ("edition", 0, 0), ("plus", 0, 1), ("read", 0, 0))
        self.assertEqual(differences(ONE, program, 3, 4), [-60, 0, 60])
        self.assertEqual(witness(ONE, program, 3, 4, 60), (((0, ()),), ((0, ((0, 60),)),)))
        self.assertEqual(witness(ONE, program, 3, 4, -60), (((0, ((0, 60),)),), ((0, ()),)))


class TestRefusals(unittest.TestCase):
    def test_none(self):
        for program in ((), THERE_AND_BACK, ALL_KINDS, LATER[:2] + (("find", 2, 0, "late", "behind"),)):
            self.assertEqual(refusals(ONE, program), [])
        self.assertEqual(refusals((((5,), 1),), LATER), [])

    def test_folds_and_gaps(self):
        self.assertEqual(refusals(ONE, find("refuse", "ahead")), [1])
        self.assertEqual(refusals(ONE, find("early", "refuse")), [])
        for rules in (("refuse", "ahead"), ("early", "refuse"), ("refuse", "refuse")):
            self.assertEqual(refusals(ONE, LATER[:2] + (("find", 2, 0, *rules),)), [2])

    def test_several_steps(self):
        program = (
            ("read", 0, 0), ("find", 1, 0, "refuse", "ahead"), ("add", 1, 60), ("find", 3, 0, "late", "refuse"),
        )
        self.assertEqual(refusals(ONE, program), [1, 3])
        # The second find asks for what the first one has asked for, so it is never the refused one.
        program = (("read", 0, 0), ("find", 1, 0, "refuse", "ahead"), ("find", 1, 0, "refuse", "refuse"))
        self.assertEqual(refusals(ONE, program), [1])

    def test_edition_between_makes_gaps(self):
        program = (("read", 0, 0), ("edition", 0, 0), ("find", 1, 0, "early", "refuse"))
        self.assertEqual(refusals(ONE, program), [2])
