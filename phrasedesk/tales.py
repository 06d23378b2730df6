"""Whether a desk can have a tale."""

from phrasedesk.answers import Right, Wrong
from phrasedesk.errors import BadFroms, BadTale
from phrasedesk.rules import first_wrong_line, is_froms, is_tale


def judged(froms, tale):
    """A Right, or a Wrong with the first line that can't come."""
    if not is_froms(froms):
        raise BadFroms("froms are a list that has an earlier tongue for each tongue but the source, 2 to 8 in all")
    if not is_tale(tale):
        raise BadTale("a tale is a list of at most 40 tuples that tell of a phrase, a put or a taking back")
    line = first_wrong_line(froms, tale)
    if line is None:
        return Right()
    return Wrong(line)
