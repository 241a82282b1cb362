"""Formatting: the texts of pages, statement by statement, and the tables that show them to be least bad."""

from leastlaid.judge import has_layout, told_badness
from leastlaid.pages import clipped, page_of, parted
from leastlaid.printing import document_of
from leastlaid.routes import Route
from leastlaid.tables import table_of


def _route_of(page, style):
    """Return the Route of the document of a PAGE by a STYLE."""
    return Route(style[0], style[3], document_of(page, style))


def formatted_page(page, style):
    """Return the TEXT of a PAGE that is laid out by a STYLE."""
    return _route_of(page, style).text()


def formatted(text, style):
    """Return a TEXT as it is formatted by a STYLE."""
    return formatted_page(page_of(text), style)


def least_of(page, style):
    """Return the BADNESS of the BEST layouts of a PAGE by a STYLE."""
    return _route_of(page, style).badness()


def _statement_pages(page):
    """Return the list of the PAGES of all outermost statements."""
    return [part for _, part in parted(page)[0]]


def statement_documents(page, style):
    """Return the tuple of the DOCUMENTS of all outermost statements of a PAGE."""
    return tuple([document_of(part, style) for part in _statement_pages(page)])


def shares_of(page, style):
    """Return the tuple of the TEXTS of all outermost statements of a PAGE, laid out by themselves."""
    return tuple([formatted_page(part, style) for part in _statement_pages(page)])


def _between(page, style):
    """Return what stands ahead of each share of a PAGE, and what stands behind the last one."""
    # What is cut within statements changes nothing of what stands between them.
    parts, empty, comments = parted(clipped(page, style[2]))
    ahead = ["\n" * many for many, _ in parts]
    return ahead, "\n" * empty + "".join([comment + "\n" for comment in comments])


def joined_shares(page, style, shares):
    """Return the shares of a PAGE, put together to a text."""
    ahead, end = _between(page, style)
    return "".join([lines + share for lines, share in zip(ahead, shares)]) + end


def paper_of(page, style):
    """Return the PAPER of a PAGE: the tables of all its outermost statements."""
    return tuple([table_of(style[0], style[3], document) for document in statement_documents(page, style)])


def _lines_from(text, begin, many):
    """Return so many lines of a text from an index on, each with its line feed, as if there were one at the end."""
    return "".join([line + "\n" for line in text[begin:].split("\n")[:many]])


def is_paper(page, style, other, thing):
    """Tell whether any value is a PAPER of a PAGE, and a text one whose badness is the least by it."""
    documents = statement_documents(page, style)
    if not isinstance(thing, tuple) or len(thing) != len(documents):
        return False
    ahead, _ = _between(page, style)
    shares = []
    begin = 0
    for lines, document, table in zip(ahead, documents, thing):
        badness = told_badness(style[0], style[3], document, table)
        if badness is None:
            return False
        # Each share ends with a line, so the table tells where the next one begins.
        begin += len(lines)
        share = _lines_from(other, begin, badness[1])
        if not has_layout(style[0], document, share, badness):
            return False
        shares.append(share)
        begin += len(share)
    return joined_shares(page, style, shares) == other
