"""Widening boxes that are bare under a rule (point 29)."""

from curbdesk.errors import NotBare
from curbdesk.rules import restricted
from curbdesk.sides import united, without


def widest_bare(rule, box, *, limits):
    """Return the box with each value of the limits that can be added, one after another, while it stays bare."""
    found = rule.witness(box)
    if found is not None:
        raise NotBare(found)
    widest = restricted(rule.names, box)
    for name in rule.names:
        further = without(limits[name], widest[name])
        # Whether a value can be added hangs on the other names' sides alone, so all are asked about at once.
        allowed = rule.supported({**widest, name: further}, name)
        widest[name] = united(widest[name], without(further, allowed))
    return widest


def least_reason(rule, box, name, value, *, limits):
    """Return the widest bare box in which the name has this value alone."""
    return widest_bare(rule, {**box, name: [value]}, limits={**limits, name: [value]})
