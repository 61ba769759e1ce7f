"""Rolls for the readers of sayings."""

from contraryrolls.errors import NotSo
from contraryrolls.formsigns import FormSigns
from contraryrolls.plays import play
from contraryrolls.shown import check_shown, reader_of


def roll_for(saying, web):
    """A roll by which the reader of the saying lets the web; raises NotSo."""
    check_shown(saying)
    writer = FormSigns(saying, web)
    if not writer.says(0):
        raise NotSo(web)
    return writer.saying_signs(True, 0)


def shows_saying(saying, web, roll):
    """Whether the reader of the saying lets the web by this roll."""
    return play(reader_of(saying), web, roll)[0] == "let"
