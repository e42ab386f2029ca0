"""The search for a right table with a number of states.

An entry that is not chosen yet leads to a blank: a number of its own behind those of the states, from which
nothing goes on.
"""

from wrongclock.pairs import newly_reached
from wrongclock.runs import Run


def right_table(almanac, many, clocks):
    """Return a right table of so many states, without entries that no story needs, None if there is none."""
    hours = almanac[0]
    blanks = [[(many + state * hours + reading, 0) for reading in range(hours)] for state in range(many)]
    return completed(almanac, tuple([tuple(row) for row in blanks]), clocks)


def completed(almanac, table, clocks):
    """Return a right table that differs from a table in its blanks alone, None if there is none."""
    many, hours = len(table), almanac[0]
    is_right, blanks = outlook(Run(almanac, table, clocks), many)
    if not is_right:
        return None
    if not blanks:
        return without_blanks(table)
    state, reading = divmod(blanks[0] - many, hours)
    for next_state in range(many):
        # No two windows have an hour in common, so that more than one deed at a waking is never right.
        for deeds in (0, 1):
            found = completed(almanac, with_entry(table, state, reading, (next_state, deeds)), clocks)
            if found is not None:
                return found
    return None


def outlook(run, many):
    """Return whether a keeper with a table of so many states never fails ahead of a blank, and the blanks he meets."""
    blanks = []
    seen = {}
    level = newly_reached(run.first_level(), seen)
    while level:
        going_on = {}
        for ground, clocks in level.items():
            _, state, fails = ground
            if state >= many:
                blanks.append(state)
            elif fails:
                return False, blanks
            else:
                going_on[ground] = clocks
        level = newly_reached(run.onward(going_on), seen)
    return True, blanks


def with_entry(table, state, reading, entry):
    """Return a table with an entry in place of that of a state and a reading."""
    row = table[state]
    return table[:state] + (row[:reading] + (entry,) + row[reading + 1:],) + table[state + 1:]


def without_blanks(table):
    """Return a table with None for its blanks."""
    many = len(table)
    return tuple([tuple([entry if entry[0] < many else None for entry in row]) for row in table])
