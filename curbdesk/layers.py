"""Layers: the sums that the first terms of a total can have in a box (point 17)."""

from curbdesk.sides import common


def within_bounds(total, low, high):
    """Tell whether the total is within the bounds; a bound that is None does not count."""
    return (low is None or low <= total) and (high is None or total <= high)


def next_layer(layer, coefficient, side):
    """Return the sums of a number of the layer and the coefficient times a value of the side."""
    return sorted({number + coefficient * value for number in layer for value in side})


def sum_layers(terms, box):
    """Return the layers of the terms in the box, one more than there are terms."""
    layers = [[0]]
    for coefficient, name in terms:
        layers.append(next_layer(layers[-1], coefficient, box[name]))
    return layers


def live_layers(terms, box, *, low=None, high=None):
    """Return the layers with only those numbers that lead to a total within the bounds."""
    layers = sum_layers(terms, box)
    live = [[total for total in layers[-1] if within_bounds(total, low, high)]]
    for place in reversed(range(len(terms))):
        coefficient, name = terms[place]
        # A step backwards takes off what the term adds.
        before = next_layer(live[-1], -coefficient, box[name])
        live.append(common(layers[place], before))
    live.reverse()
    return live
