"""Verdicts on claims: sure with evidence, or broken by a layer."""

from laterthemes.books import require_book
from laterthemes.cases import all_alternatives, alternatives_of
from laterthemes.claims import holds, require_question
from laterthemes.errors import InvalidLayer, NotAllowed
from laterthemes.evidence import is_evidence
from laterthemes.rows import open_names
from laterthemes.search import decided, layer_for


def alternatives(book, name):
    """The list of the alternatives of a setting, each of them a list of facts."""
    require_book(book)
    return alternatives_of(book.setting(name))


def verdict(book, claim):
    """("sure", evidence) if the claim holds after every allowed layer, otherwise ("breaks", layer)."""
    require_question(book, claim)
    settings = book.settings()
    evidence, _, values = decided(claim.conflicts, all_alternatives(settings))
    if values is None:
        return ("sure", evidence)
    return ("breaks", layer_for(settings, values, open_names(settings)))


def check_evidence(book, claim, evidence):
    """Whether any object is evidence that the claim is sure for the book."""
    require_question(book, claim)
    return is_evidence(evidence, claim.conflicts, all_alternatives(book.settings()))


def check_break(book, claim, layer):
    """Whether any object is an allowed layer after which the claim does not hold."""
    require_question(book, claim)
    try:
        later = book + layer
    except (InvalidLayer, NotAllowed):
        return False
    return not holds(later, claim)
