"""A desk, at which phrases come and their texts are put, taken back and filled."""

from phrasedesk.errors import BadFroms, BadPhrase, BadSeen, BadText, BadTongue, Nothing, Overtaken, TooMany
from phrasedesk.rounds import evened
from phrasedesk.rules import MOST_PHRASES, Past, chain_up, is_broken, is_froms, is_text, is_tongue, put_from


class Desk:
    """Phrases in the tongues of these froms, at first none."""

    def __init__(self, froms):
        if not is_froms(froms):
            raise BadFroms("froms are a list that has an earlier tongue for each tongue but the source, 2 to 8 in all")
        self.past = Past(froms)
        self.lines = []

    def phrase(self, text):
        """A new phrase comes with this text in the source; told is its number among the phrases."""
        self.check_text(text)
        if self.past.phrases >= MOST_PHRASES:
            raise TooMany("a desk has at most 6 phrases")
        phrase = self.past.begin_phrase()
        number = self.past.lay_down(phrase, 0, text, None)
        self.lines.append(("phrase", phrase, text, number))
        return phrase

    def put(self, phrase, tongue, text, seen, over):
        """A text is put, from the number seen, over the one that stands; told is its number."""
        self.check_place(phrase, tongue)
        self.check_text(text)
        if not self.past.was_seen(phrase, tongue, seen):
            raise BadSeen("seen is a number ever put of the phrase in the tongue above, None for the source")
        if not self.past.is_over(phrase, tongue, over):
            raise Overtaken("another text stands there, or none")
        number = self.past.lay_down(phrase, tongue, text, seen)
        self.lines.append(("put", phrase, tongue, text, seen, over, number))
        return number

    def back(self, phrase, tongue):
        """What stands is taken back; told is its number."""
        self.check_place(phrase, tongue)
        if not self.past.can_take_off(phrase, tongue):
            raise Nothing("nothing stands there that can be taken back")
        number = self.past.take_off(phrase, tongue)
        self.lines.append(("back", phrase, tongue, number))
        return number

    def now(self, phrase, tongue):
        """The number and the text that stand, None if none does."""
        self.check_place(phrase, tongue)
        number = self.past.standing(phrase, tongue)
        return None if number is None else (number, self.past.texts[number])

    def all_put(self, phrase, tongue):
        """The numbers and texts of all that was ever put, in turn."""
        self.check_place(phrase, tongue)
        return [(number, self.past.texts[number]) for number in self.past.ever[(phrase, tongue)]]

    def row(self, phrase):
        """For each tongue the number that stands and the one that it was put from, None where none stands."""
        self.check_phrase(phrase)
        return self.past.cells(phrase)

    def old(self):
        """All that are old, pairs of a phrase and a tongue, rising."""
        tongues = list(range(1, len(self.past.froms) + 1))
        phrases = list(range(self.past.phrases))
        return [(phrase, tongue) for phrase in phrases for tongue in tongues if not self.is_fresh(phrase, tongue)]

    def likes(self, phrase, tongue):
        """The fresh texts in this tongue of other phrases with the same text above, each once, rising."""
        self.check_phrase(phrase)
        self.check_other_tongue(tongue)
        above = put_from(self.past.froms, tongue)
        text = self.past.text_standing(phrase, above)
        # A fresh one has a text above it, so where this phrase has none there, none is like.
        others = [other for other in range(self.past.phrases) if other != phrase and self.is_fresh(other, tongue)]
        same = [other for other in others if self.past.text_standing(other, above) == text]
        return sorted(set([self.past.text_standing(other, tongue) for other in same]))

    def fill(self, tongue):
        """Each phrase broken here, not old above, with one like text has it put; told are these phrases."""
        self.check_other_tongue(tongue)
        phrases = list(range(self.past.phrases))
        filled = []
        for phrase in phrases:
            texts = self.texts_to_fill(phrase, tongue)
            if len(texts) == 1:
                self.put_like(phrase, tongue, texts[0])
                filled.append(phrase)
        return filled

    def rounds(self, hands):
        """The Rounds in which so many hands put all that is old anew."""
        return evened(self.past.froms, self.old(), hands)

    def tale(self):
        """What came at this desk, line by line."""
        return list(self.lines)

    def check_phrase(self, phrase):
        """Refuses what is none of the phrases."""
        if not self.past.has_phrase(phrase):
            raise BadPhrase("a phrase is the number of one that the desk has")

    def check_place(self, phrase, tongue):
        """Refuses what is none of the phrases, then what is no tongue."""
        self.check_phrase(phrase)
        if not is_tongue(self.past.froms, tongue):
            raise BadTongue("a tongue is a number from 0 on and below that of the tongues")

    def check_other_tongue(self, tongue):
        """Refuses what is no tongue but the source."""
        if not is_tongue(self.past.froms, tongue) or tongue == 0:
            raise BadTongue("a tongue but the source is a number from 1 on and below that of the tongues")

    def check_text(self, text):
        """Refuses what is no text."""
        if not is_text(text):
            raise BadText("a text has 1 to 6 letters a to z")

    def is_fresh(self, phrase, tongue):
        """Whether the tongue, maybe the source, is fresh in this phrase."""
        return chain_up(self.past.froms, self.past.cells(phrase), tongue) is None

    def texts_to_fill(self, phrase, tongue):
        """The like texts of a phrase that is broken in this tongue and not old above; none of another one."""
        if not is_broken(self.past.froms, self.past.cells(phrase), tongue):
            return []
        if not self.is_fresh(phrase, put_from(self.past.froms, tongue)):
            return []
        return self.likes(phrase, tongue)

    def put_like(self, phrase, tongue, text):
        """A text is put from what stands above, over what stands here."""
        seen = self.past.standing(phrase, put_from(self.past.froms, tongue))
        self.put(phrase, tongue, text, seen, self.past.standing(phrase, tongue))
