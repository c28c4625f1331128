"""What shows that a claim is sure, and how it is checked.

Facts are looked up in tables: dictionaries whose keys are the facts of a conflict or of an alternative.
"""

from laterthemes.facts import is_fact
from laterthemes.forms import is_known


def table_of(facts):
    """A dictionary whose keys are these facts."""
    return {fact: True for fact in facts}


def is_known_fact(x, known):
    """Whether this is a fact of one of these tables."""
    # What is no fact may not be looked up, or be equal to a fact, as True is to 1.
    return is_fact(x) and any([x in table for table in known])


def is_closed(facts):
    """Whether each fact begins with the end with which the one before it ends, the first one after the last one."""
    return all([facts[at - 1][1] == facts[at][0] for at in range(len(facts))])


def is_ring(x, known):
    """Whether this is a ring of facts of these tables that cannot all be true."""
    if not isinstance(x, tuple) or len(x) != 2 or x[0] != "ring" or not isinstance(x[1], list):
        return False
    facts = x[1]
    if not all([is_known_fact(part, known) for part in facts]):
        return False
    # A ring without facts is wrong, too: its sum is 0.
    return is_closed(facts) and sum([fact[2] for fact in facts]) < 0


def is_case(x, tables):
    """Whether this is a case with one object for each alternative; `tables` has those of each setting."""
    if not isinstance(x, tuple) or len(x) != 3 or x[0] != "case" or not is_known(x[1], tables):
        return False
    return isinstance(x[2], list) and len(x[2]) == len(tables[x[1]])


def is_evidence(x, conflicts, options):
    """Whether this is evidence against these conflicts; `options` has the alternatives of each setting."""
    if not isinstance(x, list) or len(x) != len(conflicts):
        return False
    tables = {name: [table_of(facts) for facts in options[name]] for name in options}
    # A stack instead of recursion, because what is checked may be nested deeply.
    todo = [(tree, [table_of(conflict)]) for tree, conflict in zip(x, conflicts)]
    while todo:
        tree, known = todo.pop()
        if is_case(tree, tables):
            todo.extend([(part, known + [table]) for part, table in zip(tree[2], tables[tree[1]])])
        elif not is_ring(tree, known):
            return False
    return True
