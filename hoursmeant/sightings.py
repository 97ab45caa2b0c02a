"""Sightings: looks that are gathered live and can always be."""

from hoursmeant.checks import check_number, is_number, is_pair
from hoursmeant.errors import Crowded, InvalidSightings, NoBlock, NothingToDrop, NothingToUndo, Seen
from hoursmeant.spacing import crowded_stretch, earliest_table, fitting_offsets
from hoursmeant.zones import check_offset, check_zone


class Sightings:
    """Looks of a zone; each see and drop is a deed that can be taken back."""

    def __init__(self, zone):
        check_zone(zone)
        self._zone = zone
        self._looks = ()
        # For each deed its moment and the looks ahead of it.
        self._deeds = []
        # For each block that has begun the number of deeds and the looks at its beginning.
        self._blocks = []

    @property
    def zone(self):
        """The zone of the looks."""
        return self._zone

    @property
    def looks(self):
        """The ascending tuple of the looks."""
        return self._looks

    def see(self, moment, offset):
        """Add a look and return True, False if it is there already."""
        check_number(moment)
        check_offset(self._zone, offset)
        seen = self._offset_at(moment)
        if seen is not None and seen != offset:
            raise Seen(seen)
        if seen is not None:
            return False
        looks = tuple(sorted(self._looks + ((moment, offset),)))
        _check_spacing(self._zone, looks)
        self._do_deed(moment, looks)
        return True

    def drop(self, moment):
        """Take the look at the moment away and return its offset."""
        check_number(moment)
        seen = self._offset_at(moment)
        if seen is None:
            raise NothingToDrop("no look at this moment")
        self._do_deed(moment, tuple([look for look in self._looks if look[0] != moment]))
        return seen

    def undo(self):
        """Take back the last deed, of the innermost block if there is one, and return its moment."""
        first = self._blocks[-1][0] if self._blocks else 0
        if len(self._deeds) == first:
            raise NothingToUndo("no deed to take back")
        moment, looks = self._deeds.pop()
        self._looks = looks
        return moment

    def options(self, moment):
        """The ascending list of the offsets that can be at the moment."""
        check_number(moment)
        return fitting_offsets(self._zone, self._looks, moment)

    def table(self):
        """The early table of the looks."""
        return earliest_table(self._zone, self._looks)

    def begin(self):
        """Begin a block."""
        self._blocks.append((len(self._deeds), self._looks))

    def finish(self):
        """End the innermost block and put all back to what it was at its beginning."""
        if not self._blocks:
            raise NoBlock("no block to finish")
        number, looks = self._blocks.pop()
        self._deeds = self._deeds[:number]
        self._looks = looks

    def twin(self):
        """An independent copy outside of all blocks, which can take back each deed."""
        copied = self._made(self._zone)
        copied._looks = self._looks
        copied._deeds = list(self._deeds)
        return copied

    @classmethod
    def _made(cls, zone):
        return cls(zone)

    def _offset_at(self, moment):
        for told, offset in self._looks:
            if told == moment:
                return offset
        return None

    def _do_deed(self, moment, looks):
        self._deeds.append((moment, self._looks))
        self._looks = looks

    def __len__(self):
        return len(self._looks)

    def __getitem__(self, moment):
        check_number(moment)
        return self._offset_at(moment)

    def __contains__(self, value):
        return is_pair(value) and is_number(value[0]) and is_number(value[1]) and value in self._looks

    # Without this, Python would take the items from 0 on.
    def __iter__(self):
        raise TypeError("sightings are not iterated over")

    def __or__(self, other):
        if not isinstance(other, Sightings) or other.zone != self._zone:
            raise InvalidSightings("not sightings of the same zone")
        looks = _looks_of_both(self._looks, other.looks)
        _check_spacing(self._zone, looks)
        joined = Sightings(self._zone)
        joined._looks = looks
        return joined

    def __eq__(self, other):
        return isinstance(other, Sightings) and self._zone == other._zone and self._looks == other._looks


class SureSightings(Sightings):
    """Sightings that add no look whose offset is certain without it."""

    def see(self, moment, offset):
        """Add a look and return True, False if its offset is the only one that can be there."""
        check_number(moment)
        check_offset(self.zone, offset)
        if self.options(moment) == [offset]:
            return False
        return super().see(moment, offset)


def _check_spacing(zone, looks):
    stretch = crowded_stretch(zone[1], looks)
    if stretch is not None:
        first, last = stretch
        raise Crowded(looks[first][0], looks[last][0])


def _looks_of_both(one, other):
    seen = dict(one)
    for moment, offset in other:
        if seen.get(moment, offset) != offset:
            raise Seen(seen[moment])
    return tuple(sorted(set(one + other)))
