"""The refusals, one class for each kind."""


class PhraseError(ValueError):
    """Above all refusals of the package."""


class BadFroms(PhraseError):
    """Froms that are none."""


class BadPhrase(PhraseError):
    """A phrase that the desk does not have."""


class BadTongue(PhraseError):
    """A tongue that is none, or none for this."""


class BadText(PhraseError):
    """A text that is none."""


class BadSeen(PhraseError):
    """A number that was never put where the text is put from."""


class BadRow(PhraseError):
    """A row that is none of these froms."""


class BadOld(PhraseError):
    """Old ones that are none of these froms."""


class BadHands(PhraseError):
    """Too few or too many hands, or no number of them."""


class BadTale(PhraseError):
    """A tale that is no list of the told tuples, or too long."""


class Overtaken(PhraseError):
    """A put over a text that is not the one that stands."""


class Nothing(PhraseError):
    """Nothing that could be taken back."""


class TooMany(PhraseError):
    """One phrase more than a desk can have."""
