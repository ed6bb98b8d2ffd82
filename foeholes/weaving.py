"""Weaving: one text that each listener hears as its own."""

from foeholes.frames import web_signs
from foeholes.standings import beginning, leads_to_end, read_by_all
from foeholes.writing import text_back


def woven(web, dues):
    """The least text of the web's signs of which each listener's telling is its own of these; None for none."""
    come_to = [beginning(web)]
    lasts = [(None, "")]
    known = set(come_to)
    at = 0
    while at < len(come_to):
        here = come_to[at]
        if leads_to_end(web, dues, here, ""):
            return text_back(lasts, at)
        for sign in web_signs(web):
            read = read_by_all(web, dues, None, here, sign)
            if read is not None and read[1] not in known:
                known.add(read[1])
                come_to.append(read[1])
                lasts.append((at, sign))
        at += 1
    return None
