"""[3], [4], [12]: zones, tables, readings, and finding."""

import unittest

from hoursmeant.zones import (
    find_moment, is_table, is_zone, is_zones, moments_of, offset_at, reading_at,
)
from tests.helpers import (
    ODD_VALUES, nested, odd_at_each_depth, slow_find, slow_gaps, slow_moments, slow_offset,
    tables_within,
)

ZONE = ((0, 60), 100)
FOLD = (60, ((600, 0),))
GAP = (0, ((600, 60),))
FOLDS = ("early", "late", "refuse")
GAPS = ("ahead", "behind", "refuse")
SMALL_ZONES = (
    ((0,), 1), ((3,), 2), ((0, 1), 2), ((-1, 2), 4), ((0, 2), 5), ((-2, -1), 2), ((-1, 0, 1), 3),
    ((0, 1, 3), 4), ((-4, 0, 1), 6),
)


class TestIsZone(unittest.TestCase):
    def yes(self, *values):
        for value in values:
            with self.subTest(value=value):
                self.assertIs(is_zone(value), True)

    def no(self, *values):
        for value in values:
            with self.subTest(value=value):
                self.assertIs(is_zone(value), False)

    def test_ordinary(self):
        self.yes(ZONE, ((0,), 1), ((-60, 0, 60), 10000), ((-300, -240), 260000))

    def test_number_of_offsets(self):
        self.yes(((5,), 9), ((5, 6), 9), ((5, 6, 7), 9))
        self.no(((), 9), ((5, 6, 7, 8), 9), ((5, 6, 7, 8, 9), 9))

    def test_bounds_of_offsets(self):
        self.yes(((-900,), 1), ((900,), 1), ((-900, 900), 1801), ((-900, 0, 900), 1801))
        self.no(((-901,), 1), ((901,), 1), ((-901, 0), 2000), ((0, 901), 2000))
        self.no(((0, 1, 901), 2000), ((-10 ** 30,), 1), ((10 ** 30,), 1))

    def test_offsets_ascend(self):
        self.no(((60, 0), 100), ((0, 0), 100), ((0, 60, 60), 100), ((0, 0, 60), 100))
        self.no(((0, 60, 30), 100), ((30, 0, 60), 100), ((60, 0), -100), ((2, 1, 0), 1))

    def test_bounds_of_spacing(self):
        self.no(((0, 60), 60), ((0, 60), 59), ((0, 60), 0), ((0, 60), -61), ((5,), 0), ((5,), -1))
        self.yes(((0, 60), 61), ((5,), 1), ((0, 30, 60), 61), ((0, 60), 1000000))
        self.no(((0, 60), 1000001), ((5,), 1000001), ((0, 60), 10 ** 30))
        self.no(((-900, 900), 1800), ((0, 1, 60), 60))

    def test_items_missing_or_too_many(self):
        self.no((), ((0, 60),), ((0, 60), 100, 100), (0, 60, 100), ((0, 60), (100,)), ((), ()))
        self.no(100, (100, (0, 60)))

    def test_other_kinds(self):
        self.no(*ODD_VALUES, [(0, 60), 100], ([0, 60], 100), ((0, 60), [100]), ((0, 60), "100"))
        self.no(((0,), True), ((False,), 1), ((False, True), 2), ((0, True), 2), ((-1, False), 2))

    def test_any_kind_at_each_depth(self):
        self.no(*odd_at_each_depth(((0, 1), 2)), *odd_at_each_depth(((0,), 1)))
        self.no(*odd_at_each_depth(((-900, 0, 900), 1000000)))


class TestIsZones(unittest.TestCase):
    def test_how_many(self):
        other = ((5,), 1)
        for value in ((ZONE,), (ZONE, ZONE), (ZONE, other), (other,)):
            self.assertIs(is_zones(value), True)
        for value in ((), (ZONE, ZONE, ZONE), (ZONE, other, ZONE, other)):
            self.assertIs(is_zones(value), False)

    def test_others(self):
        for value in (
            ZONE, [ZONE], [ZONE, ZONE], (list(ZONE),), ((ZONE,),), (ZONE, ((0, 60), 60)),
            (((0, 60), 60), ZONE), (ZONE, None), (None, ZONE), *ODD_VALUES,
            *odd_at_each_depth((((0, 1), 2), ((5,), 1))),
        ):
            with self.subTest(value=value):
                self.assertIs(is_zones(value), False)


class TestIsTable(unittest.TestCase):
    def yes(self, zone, *values):
        for value in values:
            with self.subTest(zone=zone, value=value):
                self.assertIs(is_table(zone, value), True)

    def no(self, zone, *values):
        for value in values:
            with self.subTest(zone=zone, value=value):
                self.assertIs(is_table(zone, value), False)

    def test_ordinary(self):
        self.yes(ZONE, (0, ()), (60, ()), FOLD, GAP, (0, ((600, 60), (5000, 0))))
        self.yes(ZONE, (0, ((-10 ** 30, 60), (10 ** 30, 0))), (60, ((-5, 0),)))
        self.yes(((5,), 1), (5, ()))

    def test_offsets_of_the_zone(self):
        self.no(ZONE, (30, ()), (-60, ()), (0, ((600, 30),)), (30, ((600, 0),)), (0, ((600, 61),)))
        self.no(((5,), 1), (0, ()), (5, ((600, 0),)))

    def test_spacing_between_jumps(self):
        self.yes(ZONE, (0, ((600, 60), (700, 0))), (0, ((-50, 60), (50, 0), (150, 60))))
        self.no(ZONE, (0, ((600, 60), (699, 0))), (0, ((-50, 60), (49, 0), (149, 60))))
        self.no(ZONE, (0, ((-50, 60), (50, 0), (149, 60))))
        self.yes(((0, 60), 61), (0, ((0, 60), (61, 0))))
        self.no(((0, 60), 61), (0, ((0, 60), (60, 0))))

    def test_jumps_ascend(self):
        self.no(ZONE, (0, ((600, 60), (600, 0))), (0, ((600, 60), (300, 0))))
        self.no(ZONE, (0, ((300, 60), (600, 0), (500, 60))))

    def test_jump_to_the_offset_that_holds(self):
        self.no(ZONE, (0, ((600, 0),)), (60, ((600, 60),)), (0, ((600, 60), (900, 60))))
        self.no(((5,), 1), (5, ((600, 5),)))
        three = ((0, 30, 60), 100)
        self.yes(three, (0, ((600, 30), (900, 60), (1200, 30), (1500, 0))))
        self.no(three, (0, ((600, 30), (900, 60), (1200, 60))))

    def test_items_missing_or_too_many(self):
        self.no(ZONE, (), (0,), (0, (), ()), ((), 0), (0, 600, 60), (0, (600, 60)), 0)
        self.no(ZONE, (0, ((600,),)), (0, ((600, 60, 60),)), (0, ((),)), (0, (((600, 60),),)))
        self.no(ZONE, (0, ((60, 600),)))

    def test_other_kinds(self):
        self.no(ZONE, *ODD_VALUES, [0, ()], (0, []), (0, [(600, 60)]), (0, ([600, 60],)), ("0", ()))
        unit = ((0, 1), 2)
        self.yes(unit, (0, ((1, 1), (3, 0))))
        self.no(unit, (False, ()), (True, ()), (0, ((1, True),)), (1, ((1, False),)), (0, ((True, 1),)))
        self.no(unit, (0, ((1, 1), (3, False))), (0, ((False, 1), (3, 0))))

    def test_any_kind_at_each_depth(self):
        self.no(((0, 1), 2), *odd_at_each_depth((0, ((0, 1), (2, 0)))))
        self.no(((0, 1), 2), *odd_at_each_depth((1, ())))

    def test_more_than_sixty_jumps(self):
        jumps = tuple((100 * k, 60 - 60 * (k % 2)) for k in range(2000))
        self.yes(ZONE, (0, jumps))
        self.no(ZONE, (60, jumps), (0, jumps[:1500] + ((149999, 60),)), (0, jumps[:-1] + (nested(27),)))
        table = (0, jumps)
        self.assertEqual(offset_at(ZONE, table, 199900), 0)
        self.assertEqual(offset_at(ZONE, table, 199899), 60)
        self.assertEqual(moments_of(ZONE, table, 199930), [199870, 199930])
        self.assertEqual(find_moment(ZONE, table, 199830, fold="refuse"), 199830)
        self.assertEqual(find_moment(ZONE, table, 199830, gap="behind"), 199770)

    def test_smaller_spacing_has_the_table(self):
        # F5, as far as it is about tables.
        for zone in SMALL_ZONES:
            greater = (zone[0], zone[1] + 1)
            for table in tables_within(greater, 0, 10):
                self.yes(greater, table)
                self.yes(zone, table)

    def test_all_tables_of_a_short_stretch(self):
        zone = ((0, 1), 3)
        tables = {*tables_within(zone, 0, 5)}
        marks = [(moment, offset) for moment in range(6) for offset in (0, 1)]
        for offset in (0, 1):
            for one in marks:
                self.assertEqual(is_table(zone, (offset, (one,))), (offset, (one,)) in tables)
                for two in marks:
                    table = (offset, (one, two))
                    self.assertEqual(is_table(zone, table), table in tables)


class TestReadings(unittest.TestCase):
    def test_ahead_of_at_and_behind_a_jump(self):
        table = (0, ((600, 60), (700, 0)))
        for moment, offset in ((599, 0), (600, 60), (601, 60), (699, 60), (700, 0), (701, 0)):
            self.assertEqual(offset_at(ZONE, table, moment), offset)
            self.assertEqual(reading_at(ZONE, table, moment), moment + offset)

    def test_without_jumps_and_far_away(self):
        for moment in (-10 ** 30, -1, 0, 10 ** 30):
            self.assertEqual(offset_at(ZONE, (60, ()), moment), 60)
            self.assertEqual(reading_at(ZONE, (60, ()), moment), moment + 60)
        self.assertEqual(offset_at(ZONE, FOLD, -10 ** 30), 60)
        self.assertEqual(offset_at(ZONE, FOLD, 10 ** 30), 0)
        self.assertEqual(reading_at(((-900,), 1), (-900, ()), 5), -895)

    def test_against_the_definition(self):
        for zone in SMALL_ZONES:
            for table in tables_within(zone, 0, 8):
                for moment in range(-2, 11):
                    offset = slow_offset(table, moment)
                    self.assertEqual(offset_at(zone, table, moment), offset)
                    self.assertEqual(reading_at(zone, table, moment), moment + offset)


class TestMoments(unittest.TestCase):
    def test_examples_of_the_document(self):
        for reading in range(590, 670):
            two = 600 <= reading <= 659
            self.assertEqual(len(moments_of(ZONE, FOLD, reading)), 2 if two else 1)
        self.assertEqual(moments_of(ZONE, FOLD, 630), [570, 630])
        self.assertEqual(moments_of(ZONE, GAP, 630), [])
        self.assertEqual(find_moment(ZONE, GAP, 630, gap="ahead"), 630)
        self.assertEqual(reading_at(ZONE, GAP, 630), 690)
        self.assertEqual(find_moment(ZONE, GAP, 630, gap="behind"), 570)
        self.assertEqual(reading_at(ZONE, GAP, 570), 570)

    def test_both_ends_of_a_fold(self):
        for reading, moments in (
            (599, [539]), (600, [540, 600]), (601, [541, 601]), (659, [599, 659]), (660, [660]),
        ):
            self.assertEqual(moments_of(ZONE, FOLD, reading), moments)

    def test_both_ends_of_a_gap(self):
        for reading, moments in ((599, [599]), (600, []), (601, []), (659, []), (660, [600])):
            self.assertEqual(moments_of(ZONE, GAP, reading), moments)

    def test_nine_pairs_of_rules(self):
        for fold in FOLDS:
            for gap in GAPS:
                for reading in (599, 600, 659, 660):
                    for table in (FOLD, GAP):
                        self.assertEqual(
                            find_moment(ZONE, table, reading, fold=fold, gap=gap),
                            slow_find(ZONE, table, reading, fold, gap),
                        )
                in_fold = {"early": 540, "late": 600, "refuse": None}[fold]
                self.assertEqual(find_moment(ZONE, FOLD, 600, fold=fold, gap=gap), in_fold)
                in_gap = {"ahead": 600, "behind": 540, "refuse": None}[gap]
                self.assertEqual(find_moment(ZONE, GAP, 600, gap=gap, fold=fold), in_gap)

    def test_defaults(self):
        self.assertEqual(find_moment(ZONE, FOLD, 630), 570)
        self.assertEqual(find_moment(ZONE, GAP, 630), 630)
        self.assertEqual(find_moment(ZONE, FOLD, 630, gap="refuse"), 570)
        self.assertEqual(find_moment(ZONE, GAP, 630, fold="refuse"), 630)
        self.assertEqual(find_moment(ZONE, FOLD, 500), 440)

    def test_fold_and_gap_beside_each_other(self):
        zone = ((0, 60), 61)
        table = (60, ((600, 0), (661, 60)))
        for reading, moments in (
            (599, [539]), (600, [540, 600]), (659, [599, 659]), (660, [660]), (661, []), (720, []),
            (721, [661]),
        ):
            self.assertEqual(moments_of(zone, table, reading), moments)
        self.assertEqual(find_moment(zone, table, 659, fold="late", gap="behind"), 659)
        self.assertEqual(find_moment(zone, table, 661, fold="late", gap="behind"), 601)
        self.assertEqual(find_moment(zone, table, 661), 661)
        table = (0, ((600, 60), (661, 0)))
        for reading, moments in (
            (599, [599]), (600, []), (659, []), (660, [600]), (661, [601, 661]), (720, [660, 720]),
            (721, [721]),
        ):
            self.assertEqual(moments_of(zone, table, reading), moments)

    def test_gap_of_three_offsets(self):
        zone = ((0, 30, 60), 61)
        table = (0, ((600, 30), (661, 60)))
        for reading, ahead, behind in ((600, 600, 570), (629, 629, 599), (691, 661, 631), (720, 690, 660)):
            self.assertEqual(moments_of(zone, table, reading), [])
            self.assertEqual(find_moment(zone, table, reading), ahead)
            self.assertEqual(find_moment(zone, table, reading, gap="behind"), behind)
        self.assertEqual([len(moments_of(zone, table, reading)) for reading in (599, 630, 690, 721)], [1] * 4)

    def test_far_moments(self):
        far = 10 ** 30
        self.assertEqual(moments_of(ZONE, (60, ((far, 0),)), far), [far - 60, far])
        self.assertEqual(find_moment(ZONE, (0, ((-far, 60),)), -far, gap="behind"), -far - 60)

    def test_against_the_definition(self):
        # F1 stands in slow_find and here: at most two moments, in a gap just one jump.
        for zone in SMALL_ZONES:
            for table in tables_within(zone, 0, 8):
                for reading in range(-6, 15):
                    moments = moments_of(zone, table, reading)
                    self.assertEqual(moments, slow_moments(zone, table, reading))
                    self.assertLessEqual(len(moments), 2)
                    self.assertEqual(len(slow_gaps(table, reading)), not moments)
                    for fold in FOLDS:
                        for gap in GAPS:
                            self.assertEqual(
                                find_moment(zone, table, reading, fold=fold, gap=gap),
                                slow_find(zone, table, reading, fold, gap),
                            )

    def test_one_jump_among_the_moments_looked_at(self):
        # F1, the second half.
        for zone in SMALL_ZONES:
            for offset, jumps in tables_within(zone, 0, 9):
                for reading in range(-6, 15):
                    first, last = reading - zone[0][-1], reading - zone[0][0]
                    self.assertLessEqual(sum(first < moment <= last for moment, _ in jumps), 1)
