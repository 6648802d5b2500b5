"""Independent sets, of the events of a problem and of the names of a graph alike."""


def independent_tuples(names, neighbors):
    """Return all sets of names of which no two are neighbors, each as a tuple in the order of the names.

    `neighbors` is a dict from each name to its neighbors. The sets are ordered by their size,
    then by the positions of their names.
    """
    found = []
    # The sets of one size, each with the later names that it may still be given.
    level = [((), names)]
    while level != []:
        found.extend([chosen for chosen, _ in level])
        level = [longer for chosen, rest in level for longer in _with_one_more(chosen, rest, neighbors)]
    return found


def _with_one_more(chosen, rest, neighbors):
    found = []
    for place, name in enumerate(rest):
        later = [other for other in rest[place + 1:] if other not in neighbors[name]]
        found.append((chosen + (name,), later))
    return found
