"""Ears, which hear a count and sums piece by piece."""

from setmend.errors import Unlike
from setmend.leading import led, refuse_unless_bound
from setmend.sets import refuse_unless_set
from setmend.sums import refuse_unless_count

COUNT_PLACE = 0


class Ear:
    """The ear of a hand that has a set, its own, and is told a bound."""

    def __init__(self, own, bound):
        refuse_unless_set(own)
        refuse_unless_bound(bound)
        self._own = own
        self._bound = bound
        self._heard = {}

    def hear(self, place, number):
        """Hear the count, at the place 0, or the sum of this place."""
        refuse_unless_count(place)
        refuse_unless_count(number)
        if self._heard.get(place, number) != number:
            raise Unlike("another number was heard at this place")
        self._heard[place] = number

    def known(self):
        """How many sums were heard from the first one on, without a gap."""
        many = 0
        while many + 1 in self._heard:
            many += 1
        return many

    def leads(self):
        """What the own set lacks and has over, as far as what was heard leads; else None."""
        if COUNT_PLACE not in self._heard:
            return None
        told = tuple([self._heard[place] for place in range(1, self.known() + 1)])
        return led(self._own, self._bound, self._heard[COUNT_PLACE], told)
