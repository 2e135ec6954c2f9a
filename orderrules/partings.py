"""Finding a hidden rule of a family by chosen pairs."""

from orderrules.checking import check_family
from orderrules.errors import NotFound
from orderrules.marks import ANSWERS, marks_of
from orderrules.pairs import PAIRS, signs_of
from orderrules.wholes import is_whole

MOST_HERE = 4


def all_partings(family):
    """Return the list of tuples (parting, signs), ascending by signs."""
    check_few(family)
    ranked = sorted([(signs_of(pair), parting) for parting, pair in partings_and_pairs(family)])
    return [(parting, signs) for signs, parting in ranked]


def pair_for(family, parting):
    """Return a pair with as few signs as can be that makes a parting."""
    check_few(family)
    if is_groups(parting):
        for found, pair in partings_and_pairs(family):
            if found == parting:
                return pair
    raise NotFound("no pair makes this parting")


def signs_needed(family):
    """Return the number of signs within which a hidden rule is found."""
    check_few(family)
    return plan_for_all(family)[0]


def finding_plan(family):
    """Return a plan that finds a hidden rule with as few signs as can be."""
    check_few(family)
    return plan_for_all(family)[1]


def check_few(family):
    """Raise NotFound if a family, if it is one, has more than 4 rules."""
    check_family(family)
    if len(family) > MOST_HERE:
        raise NotFound("partings are for at most 4 rules")


def is_groups(value):
    """Return True if a value is a list of lists of places."""
    if not isinstance(value, list) or not all([isinstance(group, list) for group in value]):
        return False
    # True is equal to 1, yet it is no place.
    return all([is_whole(place, 0, MOST_HERE) for group in value for place in group])


def all_places(family):
    """Return the tuple of the places of a family."""
    return tuple(range(len(family)))


def partings_and_pairs(family):
    """Return the list of tuples (parting, pair), ascending by signs, each parting once."""
    places = all_places(family)
    return [(list(groups_by(told, places).values()), pair) for told, pair in least_tellings(family)]


def least_tellings(family):
    """Return the list of tuples (told, pair), ascending by signs.

    Told is the tuple of the marks that the rules of the family have for the
    pair. Of the pairs that make a parting only the first, which has the least
    signs, stands here.
    """
    columns = [marks_of(rule) for rule in family]
    found = {}
    for place, pair in enumerate(PAIRS):
        told = tuple([marks[place] for marks in columns])
        # Unlike marks may make the same groups.
        groups = tuple([told.index(mark) for mark in told])
        if groups not in found:
            found[groups] = (told, pair)
    return list(found.values())


def groups_by(told, places):
    """Return a dict: for each mark the ascending list of its places."""
    groups = {}
    for place in places:
        groups.setdefault(told[place], []).append(place)
    return groups


def plan_for_all(family):
    """Return the signs needed for a family, and a plan."""
    return best_plan(least_tellings(family), all_places(family), {})


def best_plan(tellings, places, plans):
    """Return the signs needed for the rules at some places, and a plan.

    The plans hold what is known for places so far, and get what is found.
    """
    if places not in plans:
        asked = []
        for told, pair in tellings:
            groups = groups_by(told, places)
            if len(groups) > 1:
                asked.append(plan_of_asking(tellings, pair, groups, plans))
        plans[places] = min(asked, key=signs_of_plan, default=(0, ("left", list(places))))
    return plans[places]


def signs_of_plan(signs_and_plan):
    """Return the signs of a tuple (signs, plan)."""
    return signs_and_plan[0]


def plan_of_asking(tellings, pair, groups, plans):
    """Return the signs needed if a pair is asked that makes groups, and a plan."""
    signs = 0
    parts = []
    for mark in sorted(groups):
        needed, plan = best_plan(tellings, tuple(groups[mark]), plans)
        signs = max(signs, needed)
        # Marks are ascending just as what they tell.
        parts.append((ANSWERS[mark], plan))
    return (signs_of(pair) + signs, ("ask", pair, parts))
