"""Orders that follow from ties. Changes are places from 0 on, and sets of places are the bits of integers."""


def places_in(mask):
    """The places in a mask, ascending."""
    places = []
    rest = mask
    while rest > 0:
        low = rest & -rest
        places.append(low.bit_length() - 1)
        rest = rest ^ low
    return places


def direct_masks(places, ties):
    """For each place the mask of those that the ties themselves put before it."""
    direct = [0] * len(places)
    for later, earlier in ties:
        direct[places[later]] = direct[places[later]] | (1 << places[earlier])
    return direct


def ordered(direct):
    """The places, each one after all that it is directly tied behind; those in a ring or behind one are missing."""
    earlier = [places_in(mask) for mask in direct]
    later = [[] for _ in direct]
    for at in range(len(direct)):
        for place in earlier[at]:
            later[place].append(at)
    missing = [len(places) for places in earlier]
    order = [at for at in range(len(direct)) if missing[at] == 0]
    done = 0
    while done < len(order):
        first = order[done]
        for at in later[first]:
            missing[at] = missing[at] - 1
            if missing[at] == 0:
                order.append(at)
        done += 1
    return order


def ring_in(direct, order):
    """Places of a ring, each directly tied behind the next one, where `order` is what `ordered` could put in order."""
    stuck = (1 << len(direct)) - 1
    for at in order:
        stuck = stuck ^ (1 << at)
    # Each stuck place is tied behind another stuck one, so a walk back comes to a place twice.
    walk = []
    place = places_in(stuck)[0]
    while place not in walk:
        walk.append(place)
        place = places_in(direct[place] & stuck)[0]
    return walk[walk.index(place):]


def closed(direct, order):
    """Two lists of masks: all places that stand before each one, and those of them with none between."""
    before = [0] * len(direct)
    near = [0] * len(direct)
    for at in order:
        far = 0
        for place in places_in(direct[at]):
            far = far | before[place]
        before[at] = direct[at] | far
        near[at] = direct[at] & ~far
    return before, near


def reached(direct):
    """For each place the mask of all that stand before it by one tie or several, also where ties close rings."""
    order = ordered(direct)
    before, _ = closed(direct, order)
    there = {at: True for at in order}
    stuck = [at for at in range(len(direct)) if at not in there]
    for at in stuck:
        before[at] = direct[at]
        for place in places_in(direct[at]):
            if place in there:
                before[at] = before[at] | before[place]
    # All walks over stuck places, by those over the first of them, the first two and so on.
    for middle in stuck:
        for at in stuck:
            if (before[at] >> middle) & 1 == 1:
                before[at] = before[at] | before[middle]
    return before
