"""The alternatives of a setting: what its permission and its definition leave possible, as lists of facts.

A term is a tuple of an end and a number, which are added up.
"""

from laterthemes.worth import limited


def term_of(operand):
    """The term for an operand: a name plus 0, or 0 plus a number."""
    return (operand, 0) if isinstance(operand, str) else (0, operand)


def one_more(term):
    """The term whose value is greater by 1."""
    return (term[0], term[1] + 1)


def compared(lower, upper):
    """The fact that one term is at most the other."""
    return (lower[0], upper[0], upper[1] - lower[1])


def equal_facts(one, other):
    """The two facts that two terms are equal."""
    return [compared(one, other), compared(other, one)]


def ordered(word, inner, outer):
    """The fact that a term is at most the extreme one for "max", at least that for "min"."""
    return compared(inner, outer) if word == "max" else compared(outer, inner)


def cases_of(definition):
    """The cases of a definition that is no number: tuples of a list of conditions and a term, the result."""
    word = definition[0]
    if word == "plus":
        return [([], (definition[1], definition[2]))]
    if word == "max" or word == "min":
        terms = [term_of(operand) for operand in definition[1]]
        return [(extreme_conditions(word, terms, at), terms[at]) for at in range(len(terms))]
    left, right, one, other = [term_of(operand) for operand in definition[1:]]
    return [([compared(right, left)], one), ([compared(one_more(left), right)], other)]


def extreme_conditions(word, terms, at):
    """The facts that the term at this place is the greatest, or the least, of all."""
    return [ordered(word, term, terms[at]) for place, term in enumerate(terms) if place != at]


def limit_facts(low, high, term):
    """The facts that a term is within the limits, as far as there are any."""
    facts = []
    if low is not None:
        facts.append(compared((0, low), term))
    if high is not None:
        facts.append(compared(term, (0, high)))
    return facts


def case_alternatives(own, low, high, case):
    """The alternatives of a sealed setting in a case: in the limits, below and above; `own` is its term."""
    conditions, result = case
    found = [conditions + limit_facts(low, high, result) + equal_facts(own, result)]
    if low is not None:
        found.append(conditions + [compared(one_more(result), (0, low))] + equal_facts(own, (0, low)))
    if high is not None:
        found.append(conditions + [compared((0, high + 1), result)] + equal_facts(own, (0, high)))
    return found


def sealed_alternatives(own, permission, definition):
    """The alternatives of a sealed setting; `own` is its term."""
    if definition[0] == "number":
        return [equal_facts(own, (0, limited(definition[1], permission)))]
    _, low, high = permission
    return [facts for case in cases_of(definition) for facts in case_alternatives(own, low, high, case)]


def alternatives_of(setting):
    """The list of the alternatives of a setting, each of them a list of facts."""
    name, permission, definition = setting
    own = term_of(name)
    if permission[0] == "free":
        return [limit_facts(permission[1], permission[2], own)]
    if permission[0] == "choice":
        return [equal_facts(own, term_of(other)) for other in permission[1]]
    if permission[0] == "extend":
        return [[ordered(definition[0], term_of(operand), own) for operand in definition[1]]]
    return sealed_alternatives(own, permission, definition)


def all_alternatives(settings):
    """A dictionary with the alternatives of each setting."""
    return {setting[0]: alternatives_of(setting) for setting in settings}
