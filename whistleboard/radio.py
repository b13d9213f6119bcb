"""The radio, which loses and doubles."""


class Radio:
    """The messages that were heard, in whatever order and however often."""

    def __init__(self):
        # Under each sender and number the unlike texts.
        self.texts = {}

    def __eq__(self, other):
        return isinstance(other, Radio) and self.messages() == other.messages()

    def __len__(self):
        return len([key for key in self.texts if len(self.texts[key]) == 1])

    def hears(self, sender, number, text):
        """Hear a message: new, double, or clash where another text was heard under the number."""
        heard = self.texts.setdefault((sender, number), [])
        if text in heard:
            return "double"
        heard.append(text)
        return "new" if len(heard) == 1 else "clash"

    def read(self, sender):
        """The texts that stand, from number 1 on up to the first number that lacks one."""
        told = []
        while self.stands(sender, len(told) + 1):
            told.extend(self.texts[(sender, len(told) + 1)])
        return told

    def missing(self, sender):
        """The numbers below the greatest one heard under which nothing stands."""
        greatest = max([number for name, number in self.texts if name == sender], default=0)
        return [number for number in range(1, greatest) if not self.stands(sender, number)]

    def stands(self, sender, number):
        """Whether just one text was heard under the number."""
        return len(self.texts.get((sender, number), [])) == 1

    def messages(self):
        """Under each sender and number the texts, in one order only."""
        return {key: sorted(self.texts[key]) for key in self.texts}
