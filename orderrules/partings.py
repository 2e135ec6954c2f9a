"""Finding a hidden rule of a family by chosen pairs."""

from itertools import combinations

from orderrules.checking import check_family
from orderrules.errors import NotFound
from orderrules.pairs import signs_of
from orderrules.tellings import all_tellings
from orderrules.wholes import is_whole

MOST_HERE = 4


def all_partings(family):
    """Return the list of tuples (parting, signs), ascending by signs."""
    check_few(family)
    ranked = sorted([(signs_of(pair), parting) for parting, pair in least_pairs(family)])
    return [(parting, signs) for signs, parting in ranked]


def pair_for(family, parting):
    """Return a pair with as few signs as can be that makes a parting."""
    check_few(family)
    if is_groups(parting):
        for found, pair in least_pairs(family):
            if found == parting:
                return pair
    raise NotFound("no pair makes this parting")


def signs_needed(family):
    """Return the number of signs within which a hidden rule is found."""
    check_few(family)
    return plan_for_all(family)[0]


def finding_plan(family):
    """Return a plan that finds a hidden rule with as few signs as can be."""
    check_few(family)
    return plan_for_all(family)[1]


def check_few(family):
    """Raise NotFound if a family, if it is one, has more than 4 rules."""
    check_family(family)
    if len(family) > MOST_HERE:
        raise NotFound("partings are for at most 4 rules")


def is_groups(value):
    """Return True if a value is a list of lists of places."""
    if not isinstance(value, list) or not all([isinstance(group, list) for group in value]):
        return False
    # True is equal to 1, yet it is no place.
    return all([is_whole(place, 0, MOST_HERE) for group in value for place in group])


def least_pairs(family):
    """Return the list of tuples (parting, pair), each parting once."""
    places = list(range(len(family)))
    found = {}
    for told, pair in all_tellings(family):
        parting = list(groups_by(told, places).values())
        # Unlike answers may make the same groups, the first with least signs.
        name = tuple([tuple(group) for group in parting])
        if name not in found:
            found[name] = (parting, pair)
    return list(found.values())


def groups_by(told, places):
    """Return a dict: for each comparison the ascending list of its places."""
    groups = {}
    for place in places:
        groups.setdefault(told[place], []).append(place)
    return groups


def plan_for_all(family):
    """Return the signs needed for a family, and a plan."""
    tellings = all_tellings(family)
    plans = {}
    # What is left is fewer rules each time, so smaller groups come first.
    for many in range(1, len(family) + 1):
        for places in combinations(range(len(family)), many):
            plans[places] = best_plan(tellings, places, plans)
    return plans[tuple(range(len(family)))]


def best_plan(tellings, places, plans):
    """Return the signs needed for the rules at some places, and a plan.

    The plans are those for all smaller groups of places.
    """
    asked = []
    for told, pair in tellings:
        groups = groups_by(told, places)
        if len(groups) > 1:
            asked.append(plan_of_asking(pair, groups, plans))
    if asked:
        return min(asked, key=lambda signs_and_plan: signs_and_plan[0])
    return (0, ("left", list(places)))


def plan_of_asking(pair, groups, plans):
    """Return the signs needed if a pair is asked that makes groups, and a plan."""
    behind = [(answer, plans[tuple(groups[answer])]) for answer in sorted(groups)]
    signs = signs_of(pair) + max([needed[0] for _, needed in behind])
    return (signs, ("ask", pair, [(answer, needed[1]) for answer, needed in behind]))
