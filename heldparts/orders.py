"""Orders that follow from ties. Changes are places from 0 on, and sets of places are the bits of integers."""

# Up to so many changes are put in order by going through all of them again and again, which is faster than counting.
FEW = 40


def places_in(mask):
    """The places in a mask, ascending."""
    places = []
    rest = mask
    while rest > 0:
        low = rest & -rest
        places.append(low.bit_length() - 1)
        rest = rest ^ low
    return places


def ordered(earlier):
    """The places, each one after all that it is directly tied behind; those in a ring or behind one are missing.

    For each place `earlier` has a list of those that ties put before it.
    """
    later = [[] for _ in earlier]
    for at in range(len(earlier)):
        for place in earlier[at]:
            later[place].append(at)
    missing = [len(places) for places in earlier]
    order = [at for at in range(len(earlier)) if missing[at] == 0]
    done = 0
    while done < len(order):
        first = order[done]
        for at in later[first]:
            missing[at] = missing[at] - 1
            if missing[at] == 0:
                order.append(at)
        done += 1
    return order


def settled(earlier):
    """The places in an order, all that stands before each of them, and those of these with none between, as masks.

    Those in a ring or behind one are missing in the order.
    """
    # The first names have the last places, and often stand before the others.
    left = list(range(len(earlier)))[::-1] if len(earlier) <= FEW else ordered(earlier)
    before = [-1] * len(earlier)
    near = [0] * len(earlier)
    order = []
    more = True
    while more:
        waiting = []
        for at in left:
            own = far = 0
            for place in earlier[at]:
                if before[place] < 0:
                    waiting.append(at)
                    break
                own = own | (1 << place)
                far = far | before[place]
            else:
                before[at] = own | far
                near[at] = own & ~far
                order.append(at)
        more = 0 < len(waiting) < len(left)
        left = waiting
    return order, before, near


def ring_in(earlier, order):
    """Places of a ring, each directly tied behind the next one, where `order` has all that can be put in order."""
    there = {at: True for at in order}
    stuck = [at for at in range(len(earlier)) if at not in there]
    # Each stuck place is tied behind another stuck one, so a walk back comes to a place twice.
    walk = {}
    place = stuck[0]
    while place not in walk:
        walk[place] = len(walk)
        place = [other for other in earlier[place] if other not in there][0]
    return list(walk)[walk[place]:]


def reached(earlier):
    """For each place the mask of all that stand before it by one tie or several, also where ties close rings."""
    order, before, _ = settled(earlier)
    there = {at: True for at in order}
    stuck = [at for at in range(len(earlier)) if at not in there]
    for at in stuck:
        before[at] = 0
        for place in earlier[at]:
            before[at] = before[at] | (1 << place)
            if place in there:
                before[at] = before[at] | before[place]
    # All walks over stuck places, by those over the first of them, the first two and so on.
    for middle in stuck:
        for at in stuck:
            if (before[at] >> middle) & 1 == 1:
                before[at] = before[at] | before[middle]
    return before
