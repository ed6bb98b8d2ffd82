"""The foe: books by which it names words until no text is well."""

from foeholes.errors import NoBook
from foeholes.frames import in_turn
from foeholes.standings import behind, hole_leads, is_pair, piece_leads
from foeholes.winning import prospects
from foeholes.writing import is_named


def is_winning(web, frame, thing):
    """Of anything, whether it is a book that wins against all writers of the web and frame."""
    if not isinstance(thing, dict):
        return False
    if not all([is_pair(web, frame, key) for key in thing]):
        return False
    if not all([is_named(frame, i, thing[(i, standing)]) for i, standing in thing]):
        return False
    if not is_held(thing, 0, piece_leads(web, frame, 0, None)):
        return False
    return all([holds_on(web, frame, thing, i, standing) for i, standing in thing])


def is_held(words, i, lead):
    """Whether a book of these words wins where piece i leads there: to none, or to a standing that it has."""
    # The end is no standing, so no book has it.
    return lead is None or (i, lead) in words


def holds_on(web, frame, words, i, standing):
    """Whether a book of these words goes on by its word for the standing, whatever text makes it heard."""
    leads = leads_next(web, frame, i, standing, words[(i, standing)])
    return all([is_held(words, i + 1, lead) for lead in leads])


def leads_next(web, frame, i, standing, word):
    """Where the next piece leads from all standings to which texts lead that make the word heard."""
    return [piece_leads(web, frame, i + 1, after) for after in behind(web, frame, i, standing, word)]


def book(web, frame):
    """A book of just what it comes to, with the least words that win; None where the writer wins."""
    first = piece_leads(web, frame, 0, None)
    if first is None:
        return {}
    found = prospects(web, frame, 0, [first])
    if not found or found[0].missing[first] is None:
        return None
    told = {}
    come_to = [first]
    for i, prospect in enumerate(found):
        leads = []
        for standing in come_to:
            word = prospect.missing[standing]
            told[(i, standing)] = word
            leads = leads + leads_next(web, frame, i, standing, word)
        come_to = sorted({lead for lead in leads if lead is not None})
    return told


def played(web, frame, book, answer):
    """The words and texts, and how it ends, where a book that wins is played against what an answer tells."""
    if not is_winning(web, frame, book):
        raise NoBook("this is no book that wins")
    # The answer may change the book that was handed in.
    words_by = {key: book[key] for key in book}
    words = []
    texts = []
    lead = piece_leads(web, frame, 0, None)
    while lead is not None:
        i = len(words)
        word = words_by[(i, lead)]
        words.append(word)
        texts.append(answer(i, word, in_turn(frame[0], texts)))
        read = hole_leads(web, frame, i, lead, texts[i])
        if read is None or read[0] != word:
            return (tuple(words), tuple(texts), ("text", i))
        lead = piece_leads(web, frame, i + 1, read[1])
    return (tuple(words), tuple(texts), ("piece", len(words)))
