"""Rates at several caps, along chains of machines, and kept ones."""

from openlimit.errors import InvalidMachine, InvalidNumber, InvalidOperation, TooLarge
from openlimit.kinds import is_between
from openlimit.machines.machines import check_machine, check_machines
from openlimit.machines.needs import MAX_CAP, check_cap, need
from openlimit.tables.closures import MOST_TUPLES
from openlimit.verdicts.bounds import check_limited, found_paper
from openlimit.verdicts.verdicts import are_both_bounded
from openlimit.verdicts.walks import Climb

# Each machine is bounded by itself; the verdict on this one is found at once.
EMPTY = ("a", 1, (), (), ())


def rates(first, second, *, until=30):
    """Yield for each cap from 0 the triple of the cap, the rate, and a word that needs so much."""
    check_machines((first, second))
    check_cap(until)
    check_limited(first, second, MOST_TUPLES)
    climb = Climb(first, second)
    least = 0
    for cap in range(until + 1):
        least, word, _ = climb.found_at(cap, least)
        yield (cap, least, word)


def are_mates(first, second):
    """Return whether each of the machines is bounded by the other one."""
    check_machines((first, second))
    return are_both_bounded(first, second, MOST_TUPLES)


def chained(cap, *machines):
    """Return the cap for the last machine, and for each other one its rate at the number of the next one."""
    check_cap(cap)
    if len(machines) < 2:
        raise InvalidMachine("a chain has at least two machines")
    for machine in machines:
        check_machine(machine)
    if any([machine[0] != machines[0][0] for machine in machines]):
        raise InvalidOperation("the machines have different alphabets")
    numbers = [cap]
    for place in reversed(range(len(machines) - 1)):
        first, second = machines[place:place + 2]
        check_limited(first, second, MOST_TUPLES)
        numbers.append(Climb(first, second).found_at(numbers[-1], 0)[0])
    return tuple(numbers[::-1])


class Exchange:
    """The rates of a machine over another one, which are kept when they have been found."""

    def __init__(self, first, second):
        check_machines((first, second))
        check_limited(first, second, MOST_TUPLES)
        self._first = first
        self._second = second
        self._climb = Climb(first, second)
        self._kept = {}

    @property
    def first(self):
        """The first machine."""
        return self._first

    @property
    def second(self):
        """The second machine."""
        return self._second

    @property
    def known(self):
        """The dict from all caps whose rates were kept to the rates."""
        return {cap: self._kept[cap] for cap in sorted(self._kept)}

    def _least_at(self, cap):
        """Return the greatest rate that is kept for a lower cap, or 0: the rate at the cap is not less."""
        return max([self._kept[known] for known in self._kept if known < cap], default=0)

    def rate_at(self, cap):
        """Return the rate at the cap, and keep it."""
        check_cap(cap)
        if cap not in self._kept:
            self._kept[cap] = self._climb.found_at(cap, self._least_at(cap))[0]
        return self._kept[cap]

    def shown(self, cap):
        """Return a bound paper for the cap, and keep the rate."""
        check_cap(cap)
        paper = found_paper(self._climb, cap, self._least_at(cap))
        self._kept[cap] = paper[0]
        return paper

    def then(self, other):
        """Return the exchange of the first machine and the second machine of the other exchange."""
        if not isinstance(other, Exchange) or other.first != self._second:
            raise InvalidOperation("this is not an exchange whose first machine is the second one here")
        # No verdict is looked for: what is bounded by what is bounded is bounded.
        found = Exchange(EMPTY, EMPTY)
        found._first = self._first
        found._second = other.second
        found._climb = Climb(self._first, other.second)
        return found

    def __call__(self, word):
        least = need(self._second, word)
        if least is None:
            return None
        if least > MAX_CAP:
            raise TooLarge(MAX_CAP)
        return self.rate_at(least)

    def __getitem__(self, at):
        if not is_between(at, 0, MAX_CAP) or at not in self._kept:
            raise InvalidNumber(at)
        return self._kept[at]

    def __iter__(self):
        raise TypeError("an exchange cannot be iterated over")

    def __contains__(self, at):
        return is_between(at, 0, MAX_CAP) and at in self._kept

    def __len__(self):
        return len(self._kept)

    def __bool__(self):
        return bool(self._kept)

    def __str__(self):
        return f"exchange with {len(self._kept)} known rates"

    def __eq__(self, other):
        return isinstance(other, Exchange) and self._first == other._first and self._second == other._second
