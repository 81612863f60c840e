"""Machines of patterns, and verdicts and rates of patterns."""

from openlimit.errors import InvalidOperation
from openlimit.machines.machines import MAX_LETTERS, check_alphabet
from openlimit.patterns.patterns import check_pattern
from openlimit.verdicts.bounds import rate
from openlimit.verdicts.verdicts import verdict


def machine_of(pattern, alphabet):
    """Return the machine of the pattern for the alphabet."""
    check_pattern(pattern)
    check_alphabet(alphabet)
    if not all([letter in alphabet for letter in pattern.letters]):
        raise InvalidOperation("a letter of the pattern is not in the alphabet")
    return pattern.machine_for(alphabet)


def common_machines(first, second):
    """Return the machines of two patterns for the alphabet of all their letters."""
    check_pattern(first)
    check_pattern(second)
    alphabet = "".join(sorted(set(first.letters + second.letters)))
    if len(alphabet) > MAX_LETTERS:
        raise InvalidOperation("two patterns have at most four letters together")
    return [pattern.machine_for(alphabet or "a") for pattern in (first, second)]


def pattern_verdict(first, second, *, most=300):
    """Return a verdict on the machines of two patterns."""
    one, other = common_machines(first, second)
    return verdict(one, other, most=most)


def pattern_rate(first, second, cap, *, most=300):
    """Return the rate of the machines of two patterns at the cap."""
    one, other = common_machines(first, second)
    return rate(one, other, cap, most=most)
