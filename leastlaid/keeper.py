"""Keepers: a text that is kept formatted while it is changed."""

from leastlaid.changes import change_between, changed, is_change
from leastlaid.errors import Faulty, Nothing, Wrong
from leastlaid.formatting import formatted_page, joined_shares
from leastlaid.pages import page_of, parted, text_of
from leastlaid.reading import faults_of
from leastlaid.styles import is_style
from leastlaid.words import is_text


class Keeper:
    """A text, a style and the formatted text, and what undo leads back to."""

    def __init__(self, text, style):
        if not is_text(text):
            raise Wrong(0)
        if not is_style(style):
            raise Wrong(1)
        # By a style and a PART, told by a text that has its page, or by the comments of the END: its layout.
        self._known = {}
        # The texts and styles that undo leads back to, the next one last.
        self._past = []
        self._last = None
        self._come_to(text, style)

    def _come_to(self, text, style):
        """Take a text and a style for those that are kept."""
        self._text = text
        self._style = style
        self._faults = tuple(faults_of(text))
        if not self._faults:
            self._last = self._laid(page_of(text))

    def _go_to(self, text, style):
        """Take another text and style, such that undo leads back."""
        self._past.append((self._text, self._style))
        self._come_to(text, style)

    def _laid(self, page):
        """Return the formatted text of a PAGE; no PART is laid out that is known."""
        parts, _, comments = parted(page)
        shares = [self._share(part) for _, part in parts]
        if comments:
            # They are laid out in one way only; what counts is that they have been.
            self._known[(self._style, comments)] = None
        return joined_shares(page, self._style, tuple(shares))

    def _share(self, part):
        """Return the layout of a PART with a statement."""
        key = (self._style, text_of(part))
        if key not in self._known:
            self._known[key] = formatted_page(part, self._style)
        return self._known[key]

    def text(self):
        """Return the text that is kept."""
        return self._text

    def style(self):
        """Return the STYLE that is kept."""
        return self._style

    def faults(self):
        """Return the tuple of the FAULTS of the text."""
        return self._faults

    def formatted(self):
        """Return the formatted text."""
        if self._faults:
            raise Faulty(self._faults)
        return self._last

    def last_formatted(self):
        """Return the formatted text of the last state without faults, None if there was none."""
        return self._last

    def change(self, change):
        """Change the text by a CHANGE."""
        if not is_change(change):
            raise Wrong(0)
        self._go_to(changed(self._text, change), self._style)

    def restyle(self, style):
        """Change the style."""
        if not is_style(style):
            raise Wrong(0)
        self._go_to(self._text, style)

    def undo(self):
        """Take back the last change, of the text or the style, that was not taken back yet."""
        if not self._past:
            raise Nothing()
        text, style = self._past.pop()
        self._come_to(text, style)

    def take_over(self):
        """Change the text to the formatted one."""
        self.change(change_between(self._text, self.formatted()))

    def laid_out(self):
        """Return how many PARTS have been laid out."""
        return len(self._known)

    def twin(self):
        """Return an independent Keeper in the same state."""
        other = Keeper("", self._style)
        other._known = {key: self._known[key] for key in self._known}
        other._past = list(self._past)
        other._text = self._text
        other._faults = self._faults
        other._last = self._last
        return other

    def __eq__(self, other):
        return isinstance(other, Keeper) and self._text == other._text and self._style == other._style
