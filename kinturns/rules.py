"""Rules of marriage: whether a table keeps them, and the first table that does."""

from kinturns.errors import NoRule
from kinturns.tables import MOST_CLASSES, Table
from kinturns.walks import end_sex, parts, walked

WORDS = ("may", "never")


def check_rule(word, walk):
    # Asked first: what is no walk is refused as such, whatever else is amiss.
    if end_sex("man", walk) != "woman":
        raise NoRule(f"leads from a man to no woman: {walk!r}")
    if word not in WORDS:
        raise NoRule(f"no word of a rule: {word!r}")


def check_rules(rules):
    for word, walk in rules:
        check_rule(word, walk)


def breaking_class(table, word, walk):
    for c in range(table.size()):
        to_wife = walked(table, "man", c, walk)[1] == table.wife_of(c)
        if to_wife != (word == "may"):
            return c
    return None


def first_breach(table, rules):
    for place, rule in enumerate(rules):
        c = breaking_class(table, rule[0], rule[1])
        if c is not None:
            return (place, c)
    return None


def breach(table, rules):
    check_rules(rules)
    return first_breach(table, rules)


# From the least to the greatest, place by place.
def all_turns(many):
    turns = [[]]
    while len(turns[0]) < many:
        longer = []
        for turn in turns:
            longer.extend([turn + [c] for c in range(many) if c not in turn])
        turns = longer
    return turns


def ring_lengths(turn):
    rings = parts(Table(turn, turn))
    return tuple(sorted([len(ring) for ring in rings]))


# Whether a table keeps the rules and is one part does not hang on how its classes are numbered,
# and numbering them anew can make its wives any turn with rings of the same lengths. So of the
# turns with such rings the least alone is tried: if one of them will do, the least will.
def wives_to_try(turns):
    tried = {}
    answer = []
    for turn in turns:
        lengths = ring_lengths(turn)
        if lengths not in tried:
            tried[lengths] = True
            answer.append(turn)
    return answer


def first_of_size(rules, many):
    turns = all_turns(many)
    for wives in wives_to_try(turns):
        for heirs in turns:
            table = Table(wives, heirs)
            if len(parts(table)) == 1 and first_breach(table, rules) is None:
                return table
    return None


def first_table(rules, most):
    check_rules(rules)
    # No people has more classes, however many are asked for.
    for many in range(1, min(most, MOST_CLASSES) + 1):
        table = first_of_size(rules, many)
        if table is not None:
            return table
    return None
