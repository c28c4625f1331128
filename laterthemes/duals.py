"""What breaks a claim and what saves it: minimal breaks and minimal seals.

Firm names are those of the open settings that are not loose. Sets of them are ascending tuples.
"""

from laterthemes.cases import all_alternatives
from laterthemes.claims import require_question
from laterthemes.errors import InvalidList
from laterthemes.forms import is_name_list
from laterthemes.rows import open_names, with_sealed
from laterthemes.search import decided, layer_for


def breaks(book, claim, *, loose=()):
    """The list of the minimal breaks: tuples of the ascending tuple of the names and a layer."""
    require_question(book, claim)
    settings = book.settings()
    require_loose(settings, loose)
    found = minimal_breaks(settings, claim.conflicts, loose)
    return [(names, layer_for(settings, values, names + tuple(loose))) for names, values in found]


def seals(book, claim, *, loose=()):
    """The list of the minimal seals: tuples of the ascending tuple of the names and evidence."""
    require_question(book, claim)
    settings = book.settings()
    require_loose(settings, loose)
    found = minimal_breaks(settings, claim.conflicts, loose)
    chosen = minimal_meeting(subsets(firm_names(settings, loose)), [names for names, _ in found])
    return [(names, evidence_after(settings, claim.conflicts, names)) for names in chosen]


def require_loose(settings, loose):
    """Raise InvalidList unless this is a list or a tuple of different names of open settings."""
    names = {name: True for name in open_names(settings)}
    if not isinstance(loose, (list, tuple)) or not is_name_list(list(loose), names):
        raise InvalidList(loose)


def firm_names(settings, loose):
    """The ascending list of the names of the open settings that are not loose."""
    return sorted([name for name in open_names(settings) if name not in loose])


def subsets(names):
    """The list of all sets of these ascending names, the small ones first."""
    found = [()]
    for name in names:
        found = found + [part + (name,) for part in found]
    return [part for _, part in sorted([(len(part), part) for part in found])]


def contains(names, part):
    """Whether all names of the part are among these names."""
    return all([name in names for name in part])


def meets(names, others):
    """Whether the two have a name in common."""
    return any([name in others for name in names])


def evidence_after(settings, conflicts, names):
    """Evidence against the conflicts when the settings of these names, which are a seal, are sealed."""
    evidence, _, _ = decided(conflicts, all_alternatives(with_sealed(settings, names)))
    return evidence


def minimal_breaks(settings, conflicts, loose):
    """The list of the minimal breaks: tuples of the ascending tuple of the names and values that break the claim."""
    opened = all_alternatives(settings)
    _, _, values = decided(conflicts, opened)
    if values is None:
        return []
    firm = firm_names(settings, loose)
    closed = all_alternatives(with_sealed(settings, firm))
    found = []
    saving = []
    for names in subsets(firm):
        rest = [name for name in firm if name not in names]
        # A set that contains a break is not minimal; one that has no name of a seal is no break.
        if any([contains(names, other) for other, _ in found]) or any([contains(rest, other) for other in saving]):
            continue
        options = {name: closed[name] if name in rest else opened[name] for name in opened}
        _, needed, values = decided(conflicts, options)
        if values is None:
            saving.append([name for name in rest if name in needed])
        else:
            found.append((names, values))
    return found


def minimal_meeting(candidates, sets):
    """The minimal ones of the candidates, small ones first, that meet all of these sets."""
    found = []
    for names in candidates:
        if all([meets(names, other) for other in sets]) and not any([contains(names, other) for other in found]):
            found.append(names)
    return found
