"""Fits: choices of values for names, with bounds on how many names take a value (point 19)."""


def full_fit(box, highs):
    """Return a choice for all names that keeps `highs`, or a crowd that has too little room."""
    return _grown(box, highs, {})


def wanted_fit(box, lows):
    """Return a choice for as many names as `lows` wants, or values that want too many names."""
    return _supplied(box, lows, {})


def merged_fit(full, part):
    """Return a choice from the two that gives each value as many names as `part` does, and not too many."""
    merged = dict(full)
    changed = True
    while changed:
        changed = False
        for name, value in part.items():
            if merged[name] != value and len(_takers(merged, value)) < len(_takers(part, value)):
                merged[name] = value
                changed = True
    return merged


def first_choice(box, highs, lows):
    """Return the first assignment in the box that keeps `highs` and gives each value its `lows`, or None."""
    fits = _fits_near(box, highs, lows, {}, {})
    if fits is None:
        return None
    narrowed = dict(box)
    for name, side in box.items():
        for value in side:
            narrowed[name] = [value]
            closer = _fits_near(narrowed, highs, lows, fits[0], fits[1])
            if closer is not None:
                fits = closer
                break
    return {name: side[0] for name, side in narrowed.items()}


def choices(box, highs, lows, name):
    """Return the values of the name in the assignments that keep `highs` and give each value its `lows`."""
    fits = _fits_near(box, highs, lows, {}, {})
    if fits is None:
        return []
    chosen = []
    for value in box[name]:
        narrowed = dict(box)
        narrowed[name] = [value]
        if _fits_near(narrowed, highs, lows, fits[0], fits[1]) is not None:
            chosen.append(value)
    return chosen


def _fits_near(box, highs, lows, full, part):
    """Return a full fit and a wanted fit, or None if one is missing; the others help to find them soon.

    If there are both, then the two can be merged.
    """
    word, new_full = _grown(box, highs, _part_within(full, box))
    if word == "crowd":
        return None
    word, new_part = _supplied(box, lows, _part_within(part, box))
    if word == "want":
        return None
    return (new_full, new_part)


def _part_within(fit, box):
    return {name: value for name, value in fit.items() if value in box[name]}


def _takers(fit, value):
    return [name for name in fit if fit[name] == value]


def _grown(box, highs, start):
    """Let a fit of some names that keeps `highs` grow to a fit of all names, as full_fit returns it."""
    fit = dict(start)
    for name in box:
        if name not in fit:
            word, content = _with_name(box, highs, fit, name)
            if word == "crowd":
                return ("crowd", content)
            fit = content
    return ("fit", fit)


def _with_name(box, highs, fit, name):
    """Return the fit with a value for one more name, or a crowd with it that has too little room."""
    crowd = [name]
    seekers = {}
    place = 0
    while place < len(crowd):
        seeker = crowd[place]
        for value in box[seeker]:
            if value not in seekers:
                seekers[value] = seeker
                takers = _takers(fit, value)
                if value not in highs or len(takers) < highs[value]:
                    return ("fit", _moved_up(fit, seekers, value))
                crowd.extend(takers)
        place += 1
    return ("crowd", crowd)


def _moved_up(fit, seekers, value):
    """Give the value to its seeker, what that one leaves to the next seeker, and so on."""
    moved = dict(fit)
    while value is not None:
        seeker = seekers[value]
        moved[seeker] = value
        value = fit.get(seeker)
    return moved


def _supplied(box, lows, start):
    """Let a fit of some names that gives no value too many grow until each has enough, as wanted_fit does."""
    fit = dict(start)
    for value, low in lows.items():
        while len(_takers(fit, value)) < low:
            word, content = _with_taker(box, fit, value)
            if word == "want":
                return ("want", content)
            fit = content
    return ("fit", fit)


def _with_taker(box, fit, value):
    """Return the fit with one more name for the value, or values with it that want too many names."""
    wanted = [value]
    giving = {}
    callers = {}
    place = 0
    while place < len(wanted):
        caller = wanted[place]
        for name, side in box.items():
            if name not in callers and caller in side:
                callers[name] = caller
                if name not in fit:
                    return ("fit", _called_up(fit, callers, giving, name))
                if fit[name] not in wanted:
                    giving[fit[name]] = name
                    wanted.append(fit[name])
        place += 1
    return ("want", wanted)


def _called_up(fit, callers, giving, name):
    """Give the name to its caller, what that one has to give to the next caller, and so on."""
    moved = dict(fit)
    while name is not None:
        moved[name] = callers[name]
        name = giving.get(callers[name])
    return moved
