"""[8], [10], [15]: cases, their early worlds, and what is looked at; small cases told by hand."""

import unittest

from hoursmeant.cases import cases, looks_of, worlds
from hoursmeant.errors import InvalidPlace, InvalidProgram, InvalidZones
from hoursmeant.programs import is_world, run
from tests.helpers import moved

ZONE = ((0, 60), 100)
ONE = (ZONE,)
TWO = (ZONE, ((-30, 30), 200))
EXAMPLE = (("read", 0, 0), ("find", 1, 0, "early", "refuse"))


def unchanged(*tables):
    """A world of these tables, each first and later."""
    return tables, tables


class TestExample(unittest.TestCase):
    def test_four_cases(self):
        self.assertEqual(cases(ONE, EXAMPLE), [
            (((0, 0, 0, 0), (0, 0, -60, 0)), (0, 0, 0), None),
            (((0, 0, 0, 0), (0, 0, -60, 60)), (0, 0, -60), None),
            (((0, 0, 0, 60), (0, 0, 60, 0)), (0, 60, 0), None),
            (((0, 0, 0, 60), (0, 0, 60, 60)), (0, 60, 0), None),
        ])

    def test_their_worlds(self):
        self.assertEqual(list(worlds(ONE, EXAMPLE)), [
            unchanged((0, ())), unchanged((60, ((-59, 0),))), unchanged((60, ((1, 0),))),
            unchanged((60, ())),
        ])

    def test_what_is_looked_at(self):
        self.assertEqual(looks_of(ONE, EXAMPLE, 0), [-60, 0, 60])


class TestCases(unittest.TestCase):
    def test_no_steps(self):
        self.assertEqual(cases(ONE, ()), [((), (0,), None)])
        self.assertEqual(list(worlds(ONE, ())), [unchanged((0, ()))])
        self.assertEqual(looks_of(ONE, (), 0), [])
        zones = (((-60, 5), 100), ((7,), 1))
        self.assertEqual(list(worlds(zones, ())), [unchanged((-60, ()), (7, ()))])

    def test_steps_without_looks(self):
        program = (("add", 0, 5), ("add", 1, -7))
        self.assertEqual(cases(ONE, program), [((), (0, 5, -2), None)])

    def test_spans_as_they_are(self):
        program = (("offset", 0, 0), ("plus", 0, 1), ("less", 2, 1), ("add", 2, 9))
        self.assertEqual(cases(ONE, program), [
            (((0, 0, 0, 0),), (0, 0, 0, 0, 9), None), (((0, 0, 0, 60),), (0, 60, 60, 0, 69), None),
        ])

    def test_each_moment_once(self):
        program = (("read", 0, 0), ("offset", 0, 0), ("read", 0, 0))
        self.assertEqual(cases(ONE, program), [
            (((0, 0, 0, 0),), (0, 0, 0, 0), None), (((0, 0, 0, 60),), (0, 60, 60, 60), None),
        ])

    def test_find_looks_from_the_greatest_offset_to_the_least(self):
        zones = (((-10, 0, 20), 50),)
        program = (("read", 0, 0), ("find", 1, 0, "late", "behind"))
        found = cases(zones, program)
        self.assertEqual(found[0], (((0, 0, 0, -10), (0, 0, -30, -10), (0, 0, -10, -10)), (0, -10, 0), None))
        # Each two changes need more minutes, so there are three cases without one and twelve with one.
        self.assertEqual(len(found), 15)
        self.assertEqual(looks_of(zones, program, 0), [-30, -20, -10, 0, 10, 20, 30])
        self.assertIn((((0, 0, 0, 0), (0, 0, -20, 20), (0, 0, 10, 0)), (0, 0, 0), None), found)
        self.assertIn((((0, 0, 0, 20), (0, 0, 20, -10), (0, 0, 30, -10)), (0, 20, 30), None), found)

    def test_crowded_looks_are_left_out(self):
        # From 0 to 50 to 101 there can be two jumps, from 0 to 50 to 100 not.
        for second, number in ((51, 8), (50, 6)):
            program = (("offset", 0, 0), ("add", 0, 50), ("offset", 2, 0), ("add", 2, second), ("offset", 4, 0))
            found = [tuple(look[3] for look in case[0]) for case in cases(ONE, program)]
            self.assertEqual(len(found), number)
            self.assertEqual(found, sorted(found))
            self.assertEqual((0, 60, 0) in found, number == 8)
            self.assertEqual((60, 0, 60) in found, number == 8)

    def test_spacing_of_the_early_world(self):
        program = (("offset", 0, 0), ("add", 0, 50), ("offset", 2, 0), ("add", 2, 51), ("offset", 4, 0))
        self.assertEqual(list(worlds(ONE, program))[2], unchanged((0, ((1, 60), (101, 0)))))
        self.assertEqual(list(worlds(ONE, program))[5], unchanged((60, ((1, 0), (101, 60)))))

    def test_refused_in_a_fold(self):
        program = (("read", 0, 0), ("find", 1, 0, "refuse", "ahead"), ("read", 2, 0))
        found = cases(ONE, program)
        self.assertEqual(found, [
            (((0, 0, 0, 0), (0, 0, -60, 0)), (0, 0, 0, 0), None),
            (((0, 0, 0, 0), (0, 0, -60, 60)), (0, 0), 1),
            (((0, 0, 0, 60), (0, 0, 60, 0)), (0, 60), 1),
            (((0, 0, 0, 60), (0, 0, 60, 60)), (0, 60, 0, 60), None),
        ])

    def test_refused_in_a_gap(self):
        program = (("read", 0, 0), ("add", 1, 60), ("find", 2, 0, "late", "refuse"), ("add", 3, 1))
        # From 0 to 120 there can be two jumps, so in the fourth case there is one ahead of the gap.
        self.assertEqual(cases(ONE, program), [
            (((0, 0, 0, 0), (0, 0, 60, 0)), (0, 0, 60, 60, 61), None),
            (((0, 0, 0, 0), (0, 0, 60, 60)), (0, 0, 60), 2),
            (((0, 0, 0, 60), (0, 0, 60, 0), (0, 0, 120, 0)), (0, 60, 120, 120, 121), None),
            (((0, 0, 0, 60), (0, 0, 60, 0), (0, 0, 120, 60)), (0, 60, 120), 2),
            (((0, 0, 0, 60), (0, 0, 60, 60), (0, 0, 120, 0)), (0, 60, 120, 120, 121), None),
            (((0, 0, 0, 60), (0, 0, 60, 60), (0, 0, 120, 60)), (0, 60, 120, 60, 61), None),
        ])

    def test_gap_by_the_other_rules(self):
        for gap, found in (("ahead", 60), ("behind", 0)):
            program = (("read", 0, 0), ("add", 1, 60), ("find", 2, 0, "late", gap))
            self.assertEqual(cases(ONE, program)[1], (((0, 0, 0, 0), (0, 0, 60, 60)), (0, 0, 60, found), None))

    def test_two_places(self):
        program = (("read", 0, 1), ("find", 1, 0, "early", "ahead"))
        found = cases(TWO, program)
        self.assertEqual(found[0], (((1, 0, 0, -30), (0, 0, -90, 0), (0, 0, -30, 0)), (0, -30, -30), None))
        self.assertEqual(found[6], (((1, 0, 0, 30), (0, 0, -30, 60), (0, 0, 30, 0)), (0, 30, -30), None))
        self.assertEqual(len(found), 8)
        self.assertEqual(looks_of(TWO, program, 0), [-90, -30, 30])
        self.assertEqual(looks_of(TWO, program, 1), [0])
        self.assertEqual(list(worlds(TWO, program))[6], unchanged((60, ((-29, 0),)), (30, ())))

    def test_places_do_not_crowd_each_other(self):
        steps = (("offset", 0, 0), ("add", 0, 1), ("offset", 2, 1), ("add", 0, 2), ("offset", 4, 0))
        self.assertEqual(len(cases((ZONE, ZONE), steps)), 8)
        # The same at one place: what stands between the two others is bound to them.
        steps = steps[:2] + (("offset", 2, 0),) + steps[3:]
        self.assertEqual(len(cases((ZONE, ZONE), steps)), 6)


class TestEditions(unittest.TestCase):
    def test_edition_looks_just_ahead_of_its_moment(self):
        self.assertEqual(cases(ONE, (("edition", 0, 0),)), [
            (((0, 0, -1, 0),), (0, 0), None), (((0, 0, -1, 60),), (0, 0), None),
        ])
        self.assertEqual(looks_of(ONE, (("add", 0, -7), ("edition", 1, 0)), 0), [-8])

    def test_moment_that_stands_twice(self):
        program = (("offset", 0, 0), ("edition", 0, 0), ("offset", 0, 0), ("offset", 0, 0))
        found = cases(ONE, program)
        self.assertEqual([tuple(look[3] for look in case[0]) for case in found], [
            (0, 0, 0), (0, 0, 60), (0, 60, 0), (0, 60, 60), (60, 0, 0), (60, 0, 60), (60, 60, 0), (60, 60, 60),
        ])
        self.assertEqual(found[1], (((0, 0, 0, 0), (0, 0, -1, 0), (0, 1, 0, 60)), (0, 0, 0, 60, 60), None))
        self.assertEqual(looks_of(ONE, program, 0), [-1, 0])
        early = list(worlds(ONE, program))
        self.assertEqual(early[1], (((0, ()),), ((0, ((0, 60),)),)))
        self.assertEqual(early[2], (((60, ((0, 0),)),), ((60, ((0, 0),)),)))
        self.assertEqual(early[4], (((0, ((0, 60),)),), ((0, ()),)))

    def test_ahead_of_the_edition_belongs_to_the_first_table(self):
        program = (("edition", 0, 0), ("add", 0, -1), ("offset", 2, 0), ("add", 0, -2), ("offset", 4, 0))
        looked = [case[0] for case in cases(ONE, program)]
        self.assertEqual(looked[1], ((0, 0, -1, 0), (0, 0, -2, 60)))
        self.assertEqual(len(looked), 4)

    def test_behind_the_edition_belongs_to_the_later_table(self):
        program = (("edition", 0, 0), ("add", 0, 1), ("offset", 2, 0))
        self.assertEqual(cases(ONE, program)[1], (((0, 0, -1, 0), (0, 1, 1, 60)), (0, 0, 1, 60), None))
        self.assertEqual(looks_of(ONE, program, 0), [-1, 1])
        self.assertEqual(list(worlds(ONE, program))[1], (((0, ()),), ((0, ((0, 60),)),)))

    def test_find_looks_in_both_tables(self):
        program = (("read", 0, 0), ("edition", 0, 0), ("find", 1, 0, "early", "refuse"))
        found = cases(ONE, program)
        self.assertEqual(found[0], (((0, 0, 0, 0), (0, 0, -1, 0), (0, 0, -60, 0), (0, 1, 0, 0)), (0, 0, 0, 0), None))
        self.assertEqual(found[1], (((0, 0, 0, 0), (0, 0, -1, 0), (0, 0, -60, 0), (0, 1, 0, 60)), (0, 0, 0), 2))

    def test_looks_behind_the_edition_in_the_first_table_do_not_bind_the_later_one(self):
        # Close as the moments are, the offset can change once in each table, and ahead of the
        # edition only in both. Between the looks of unlike tables it may change more often.
        program = (
            ("add", 0, 1), ("offset", 1, 0), ("edition", 0, 0), ("offset", 1, 0), ("add", 0, -2), ("offset", 5, 0),
        )
        found = {tuple(look[3] for look in case[0]): case for case in cases(ONE, program)}
        self.assertEqual(sorted(found), [
            (0, 0, 0, 0), (0, 0, 0, 60), (0, 0, 60, 0), (0, 60, 0, 60), (0, 60, 60, 60),
            (60, 0, 0, 0), (60, 0, 60, 0), (60, 60, 0, 60), (60, 60, 60, 0), (60, 60, 60, 60),
        ])
        looked = ((0, 0, 1, 60), (0, 0, -1, 0), (0, 1, 1, 0), (0, 0, -2, 0))
        self.assertEqual(found[(60, 0, 0, 0)][0], looked)
        self.assertEqual(len(found), 10)

    def test_edition_of_one_of_two_places(self):
        program = (("edition", 0, 1), ("offset", 0, 0), ("offset", 0, 1))
        found = cases(TWO, program)
        self.assertEqual(found[1], (((1, 0, -1, -30), (0, 0, 0, 0), (1, 1, 0, 30)), (0, 0, 0, 30), None))
        self.assertEqual(looks_of(TWO, program, 1), [-1, 0])
        self.assertEqual(list(worlds(TWO, program))[1], (((0, ()), (-30, ())), ((0, ()), (-30, ((0, 30),)))))

    def test_edition_that_the_run_does_not_come_to(self):
        program = (("read", 0, 0), ("find", 1, 0, "refuse", "refuse"), ("edition", 0, 0), ("offset", 0, 0))
        found = cases(ONE, program)
        self.assertEqual(found[2], (((0, 0, 0, 0), (0, 0, -60, 60)), (0, 0), 1))
        self.assertEqual(list(worlds(ONE, program))[2], unchanged((60, ((-59, 0),))))

    def test_edition_behind_all_looks(self):
        program = (("offset", 0, 0), ("add", 0, 1000), ("edition", 2, 0))
        self.assertEqual(list(worlds(ONE, program))[1], unchanged((0, ((1, 60),))))


class TestWorlds(unittest.TestCase):
    def test_one_by_one(self):
        program = EXAMPLE + (("read", 2, 0),)
        one, other = worlds(ONE, program), worlds(ONE, program)
        self.assertIs(iter(one), one)
        first = next(one)
        self.assertEqual([first, *one], list(other))
        self.assertRaises(StopIteration, next, one)

    def test_errors_at_the_latest_by_the_first_step(self):
        def first(*arguments, **named):
            return next(iter(worlds(*arguments, **named)))

        self.assertRaises(InvalidZones, first, None, None)
        self.assertRaises(InvalidProgram, first, ONE, None)
        self.assertRaises(InvalidProgram, first, zones=ONE, program=(("read", 0, 1),))
        self.assertRaises(TypeError, worlds, ONE)

    def test_run_from_any_start_in_the_world_moved(self):
        program = (
            ("read", 0, 1), ("edition", 0, 1), ("find", 1, 0, "late", "behind"), ("read", 3, 1),
        )
        for case, world in zip(cases(TWO, program), worlds(TWO, program)):
            self.assertIs(is_world(TWO, world), True)
            self.assertIsNone(case[2])
            for start in (0, 1, -77, 10 ** 12):
                values = run(TWO, program, moved(world, start), start)
                self.assertEqual(values, [value + start for value in case[1]])


class TestLooksOf(unittest.TestCase):
    def test_place(self):
        for odd in (1, -1, True, None, "0", (0,)):
            self.assertRaises(InvalidPlace, looks_of, ONE, EXAMPLE, odd)
        self.assertRaises(InvalidPlace, looks_of, TWO, EXAMPLE, 2)
        self.assertEqual(looks_of(TWO, EXAMPLE, 1), [])

    def test_what_only_some_case_looks_at(self):
        program = (("read", 0, 0), ("find", 1, 0, "refuse", "ahead"), ("add", 2, 500), ("offset", 3, 0))
        self.assertEqual(looks_of(ONE, program, 0), [-60, 0, 60, 500])
        # A crowded stretch keeps runs from what else they would look at.
        steps = (("offset", 0, 0), ("add", 0, 1), ("read", 2, 0), ("add", 0, 2), ("less", 3, 1), ("offset", 5, 0))
        self.assertEqual(looks_of(ONE, steps, 0), [-59, 0, 1, 61])
        near = (("offset", 0, 0), ("add", 0, 1), ("offset", 2, 0), ("plus", 0, 3), ("less", 4, 1), ("offset", 5, 0))
        self.assertEqual(looks_of(ONE, near, 0), [-60, 0, 1, 60])
