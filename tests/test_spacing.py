"""[5], [13]: looks, stretches, the early table, and F2 and F3."""

import unittest

from hoursmeant.spacing import can_hold, crowded, early_table, is_looks, offsets_left
from hoursmeant.zones import is_table
from tests.helpers import (
    ODD_VALUES, has, looks_within, nested, odd_at_each_depth, slow_crowded, slow_named, slow_offset,
    tables_within,
)

ZONE = ((0, 60), 100)
EXAMPLE = ((0, 0), (50, 60), (101, 0))
NEARER = ((0, 0), (50, 60), (100, 0))
SMALL = (
    (((0, 1), 2), 6), (((0, 1), 3), 6), (((-1, 2), 4), 6), (((5,), 1), 4), (((-1, 0, 1), 3), 4),
    (((0, 1, 3), 4), 4),
)


class TestIsLooks(unittest.TestCase):
    def yes(self, zone, *values):
        for value in values:
            with self.subTest(zone=zone, value=value):
                self.assertIs(is_looks(zone, value), True)

    def no(self, zone, *values):
        for value in values:
            with self.subTest(zone=zone, value=value):
                self.assertIs(is_looks(zone, value), False)

    def test_ordinary(self):
        self.yes(ZONE, (), ((0, 0),), EXAMPLE, NEARER, ((-10 ** 30, 60), (10 ** 30, 60)))
        self.yes(ZONE, ((0, 0), (1, 60), (2, 0)))
        self.yes(((5,), 1), ((3, 5),))

    def test_moments_ascend(self):
        self.no(ZONE, ((0, 0), (0, 0)), ((0, 0), (0, 60)), ((1, 0), (0, 0)), ((0, 0), (2, 0), (1, 0)))
        self.no(ZONE, ((0, 0), (1, 0), (1, 60)))

    def test_offsets_of_the_zone(self):
        self.no(ZONE, ((0, 30),), ((0, -60),), ((0, 0), (1, 61)), ((60, 600),), ((0, 10 ** 30),))

    def test_items_missing_or_too_many(self):
        self.no(ZONE, (0, 0), ((),), ((0,),), ((0, 0, 0),), ((0, 0), 5), (((0, 0),),), 0)

    def test_other_kinds(self):
        odd = [value for value in ODD_VALUES if value != ()]
        self.no(ZONE, *odd, [(0, 0)], ([0, 0],), (("0", 0),), ((0, "0"),), (None,))
        self.no(((0, 1), 2), ((True, 0),), ((0, True),), ((False, 1),), ((0, False),), ((-1, 0), (False, 0)))

    def test_any_kind_at_each_depth(self):
        self.no(((0, 1), 2), *odd_at_each_depth(((0, 0), (1, 1))), *odd_at_each_depth(((0, 0),)))
        self.no(((0, 1), 2), ((0, 0), nested(29)))

    def test_against_the_definition(self):
        zone = ((0, 1), 3)
        known = {*looks_within(zone, 0, 3)}
        marks = [(moment, offset) for moment in range(4) for offset in (0, 1, 2)]
        for one in marks:
            self.assertEqual(is_looks(zone, (one,)), (one,) in known)
            for two in marks:
                self.assertEqual(is_looks(zone, (one, two)), (one, two) in known)


class TestCrowded(unittest.TestCase):
    def test_examples_of_the_document(self):
        self.assertIs(can_hold(ZONE, EXAMPLE), True)
        self.assertIsNone(crowded(ZONE, EXAMPLE))
        self.assertEqual(early_table(ZONE, EXAMPLE), (0, ((1, 60), (101, 0))))
        self.assertIs(can_hold(ZONE, NEARER), False)
        self.assertEqual(crowded(ZONE, NEARER), (0, 2))
        self.assertIsNone(early_table(ZONE, NEARER))

    def test_no_looks_one_look_and_one_change(self):
        for looks in ((), ((7, 60),), ((0, 0), (1, 60)), ((0, 0), (1, 0), (2, 0)), ((5, 0), (6, 0), (7, 60))):
            self.assertIs(can_hold(ZONE, looks), True)
            self.assertIsNone(crowded(ZONE, looks))

    def test_just_far_enough_and_a_minute_less(self):
        # A table of the spacing has changes - 1 whole spacings between the first jump,
        # behind the first look, and the last one, at the last look.
        for changes in range(2, 8):
            middle = tuple((100 * k - 50, 60 * (k % 2)) for k in range(1, changes))
            start = ((0, 0),)
            for moment, can in ((100 * changes - 99, True), (100 * changes - 100, False)):
                looks = start + middle + ((moment, 60 * (changes % 2)),)
                with self.subTest(looks=looks):
                    self.assertIs(can_hold(ZONE, looks), can)
                    self.assertEqual(crowded(ZONE, looks), None if can else (0, changes))

    def test_equal_neighbours_are_no_changes(self):
        self.assertIsNone(crowded(ZONE, ((0, 0), (1, 60), (90, 60), (101, 0))))
        self.assertEqual(crowded(ZONE, ((0, 0), (1, 60), (90, 60), (100, 0))), (0, 3))
        self.assertEqual(crowded(ZONE, ((-9, 0), (0, 0), (1, 60), (90, 60), (100, 0))), (1, 4))
        self.assertEqual(crowded(ZONE, ((0, 0), (1, 60), (100, 0), (100 + 1, 0))), (0, 2))

    def test_which_of_several_stretches(self):
        # Least last index first, of these the greatest first index.
        looks = ((0, 0), (10, 60), (20, 0), (30, 60), (40, 0))
        self.assertEqual(slow_crowded(ZONE, looks), [(0, 2), (0, 3), (0, 4), (1, 3), (1, 4), (2, 4)])
        self.assertEqual(crowded(ZONE, looks), (0, 2))
        looks = ((0, 0), (500, 60), (999, 60), (1010, 0), (1020, 60))
        self.assertEqual(crowded(ZONE, looks), (2, 4))
        looks = ((0, 0), (1000, 0), (1001, 60), (1002, 0), (2000, 60), (2001, 0), (2002, 60))
        self.assertEqual(crowded(ZONE, looks), (1, 3))

    def test_long_stretch_with_no_shorter_one(self):
        looks = ((0, 0), (99, 60), (150, 0), (201, 60))
        self.assertIsNone(crowded(ZONE, looks))
        looks = ((0, 0), (99, 60), (150, 0), (200, 60))
        self.assertEqual(slow_crowded(ZONE, looks), [(0, 3)])
        self.assertEqual(crowded(ZONE, looks), (0, 3))

    def test_three_offsets(self):
        zone = ((0, 30, 60), 100)
        self.assertIsNone(crowded(zone, ((0, 0), (50, 30), (101, 60))))
        self.assertEqual(crowded(zone, ((0, 0), (50, 30), (100, 60))), (0, 2))

    def test_against_the_definition(self):
        for zone, last in SMALL:
            for looks in looks_within(zone, 0, last):
                named = slow_named(zone, looks)
                self.assertEqual(crowded(zone, looks), named)
                self.assertIs(can_hold(zone, looks), named is None)

    def test_stretches_that_are_not_short(self):
        # Two far groups of looks, so that changes in the one do not crowd the other.
        zone = ((0, 1), 3)
        near = [looks for looks in looks_within(zone, 0, 3) if looks]
        for one in near:
            for two in near:
                looks = one + tuple((moment + 20, offset) for moment, offset in two)
                self.assertEqual(crowded(zone, looks), slow_named(zone, looks))

    def test_more_than_sixty_looks(self):
        looks = tuple((100 * k, 60 * (k % 2)) for k in range(2000))
        self.assertIs(can_hold(ZONE, looks), True)
        table = early_table(ZONE, looks)
        self.assertEqual(table, (0, tuple((100 * k + 1, 60 - 60 * (k % 2)) for k in range(1999))))
        self.assertIs(is_table(ZONE, table), True)
        last = looks[:-1] + ((199801, 60),)
        self.assertIs(can_hold(ZONE, last), True)
        self.assertEqual(crowded(ZONE, ((1, 0),) + last[1:]), (0, 1999))
        self.assertEqual(crowded(ZONE, ((99, 0), (100, 60), (199, 0)) + last[3:]), (0, 2))
        looks = ((0, 0),) + tuple((100 * k - 50, 60 * (k % 2)) for k in range(1, 1999)) + ((199800, 60),)
        self.assertEqual(crowded(ZONE, looks), (0, 1999))
        self.assertEqual(offsets_left(ZONE, looks, 5), [])


class TestEarlyTable(unittest.TestCase):
    def test_no_looks_and_one_look(self):
        self.assertEqual(early_table(ZONE, ()), (0, ()))
        self.assertEqual(early_table(((-90, 5, 7), 200), ()), (-90, ()))
        self.assertEqual(early_table(ZONE, ((7, 60),)), (60, ()))
        self.assertEqual(early_table(ZONE, ((7, 60), (8, 60), (900, 60))), (60, ()))

    def test_jump_just_behind_the_look(self):
        self.assertEqual(early_table(ZONE, ((10, 0), (700, 60))), (0, ((11, 60),)))
        self.assertEqual(early_table(ZONE, ((-9, 60), (-8, 0))), (60, ((-8, 0),)))
        self.assertEqual(early_table(ZONE, ((10, 0), (40, 0), (700, 60))), (0, ((41, 60),)))
        looks = ((10, 0), (700, 60), (701, 0))
        self.assertEqual(early_table(ZONE, looks), (0, ((11, 60), (701, 0))))

    def test_jump_the_spacing_behind_the_one_ahead(self):
        for middle, jump in ((109, 111), (110, 111), (111, 112), (11, 111)):
            looks = ((10, 0), (middle, 60), (700, 0))
            self.assertEqual(early_table(ZONE, looks), (0, ((11, 60), (jump, 0))))
        looks = ((0, 0), (99, 60), (150, 0), (201, 60), (900, 0))
        self.assertEqual(early_table(ZONE, looks), (0, ((1, 60), (101, 0), (201, 60), (301, 0))))

    def test_three_offsets(self):
        zone = ((0, 30, 60), 100)
        looks = ((0, 30), (50, 60), (150, 0), (600, 30))
        self.assertEqual(early_table(zone, looks), (30, ((1, 60), (101, 0), (201, 30))))

    def test_moments_below_zero(self):
        looks = ((-500, 60), (-450, 0), (-399, 60))
        self.assertEqual(early_table(ZONE, looks), (60, ((-499, 0), (-399, 60))))

    def test_has_the_looks_with_fewest_jumps(self):
        # F2, with all tables of a short stretch. A table with jumps elsewhere has more of them.
        for zone, last in SMALL:
            tables = tables_within(zone, 1, last)
            for looks in looks_within(zone, 0, last):
                holders = [table for table in tables if has(table, looks)]
                self.assertIs(can_hold(zone, looks), bool(holders))
                early = early_table(zone, looks)
                if not holders:
                    self.assertIsNone(early)
                    continue
                self.assertIs(is_table(zone, early), True)
                self.assertTrue(has(early, looks))
                self.assertEqual(len(early[1]), min(len(jumps) for _, jumps in holders))


class TestOffsetsLeft(unittest.TestCase):
    def test_no_looks(self):
        self.assertEqual(offsets_left(ZONE, (), 5), [0, 60])
        self.assertEqual(offsets_left(((5,), 1), (), 5), [5])

    def test_at_ahead_of_between_and_behind_looks(self):
        self.assertEqual([offsets_left(ZONE, EXAMPLE, moment) for moment in (0, 50, 101)], [[0], [60], [0]])
        self.assertEqual(offsets_left(ZONE, EXAMPLE, -1), [0])
        self.assertEqual(offsets_left(ZONE, EXAMPLE, -99), [0])
        self.assertEqual(offsets_left(ZONE, EXAMPLE, -100), [0, 60])
        self.assertEqual(offsets_left(ZONE, EXAMPLE, 1), [60])
        self.assertEqual(offsets_left(ZONE, EXAMPLE, 100), [60])
        self.assertEqual(offsets_left(ZONE, EXAMPLE, 102), [0])
        self.assertEqual(offsets_left(ZONE, EXAMPLE, 200), [0])
        self.assertEqual(offsets_left(ZONE, EXAMPLE, 201), [0, 60])

    def test_at_a_moment_that_is_looked_at(self):
        zone = ((0, 30, 60), 100)
        for offset in (0, 30, 60):
            self.assertEqual(offsets_left(zone, ((7, offset),), 7), [offset])
            self.assertEqual(offsets_left(zone, ((7, offset),), 8), [0, 30, 60])

    def test_some_of_three_offsets(self):
        zone = ((0, 30, 60), 100)
        looks = ((0, 0), (90, 30))
        self.assertEqual(offsets_left(zone, looks, 45), [0, 30])
        self.assertEqual(offsets_left(zone, ((0, 30), (90, 30)), 45), [30])
        self.assertEqual(offsets_left(zone, ((0, 0), (101, 60)), 50), [0, 30, 60])
        self.assertEqual(offsets_left(zone, ((0, 0), (100, 60)), 50), [0, 60])

    def test_looks_that_cannot_be(self):
        for moment in (-10 ** 6, -1, 0, 25, 50, 100, 101, 10 ** 6):
            self.assertEqual(offsets_left(ZONE, NEARER, moment), [])

    def test_against_all_tables_of_a_short_stretch(self):
        # F3 stands here, too: what can be leaves an offset at each moment.
        for zone, last in SMALL:
            tables = tables_within(zone, 1, last)
            for looks in looks_within(zone, 0, last - 1):
                holders = [table for table in tables if has(table, looks)]
                for moment in range(last + 1):
                    left = sorted({slow_offset(table, moment) for table in holders})
                    self.assertEqual(offsets_left(zone, looks, moment), left)
                    self.assertEqual(bool(left), can_hold(zone, looks))
