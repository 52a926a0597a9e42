"""Books written as texts, and texts read as books."""

from pegrise.book import Book
from pegrise.errors import NoText
from pegrise.sightings import is_peg


def shown(book):
    return "; ".join([shown_row(row) for row in book.kept()])


def shown_row(row):
    return " ".join([row[1], row[2], str(row[3])])


def read(text, most=200):
    # The whole text is read ahead of the first taking, since NoText goes ahead of what the book refuses.
    sightings = read_sightings(text)
    book = Book(most)
    for sighting in sightings:
        book.take(sighting[0], sighting[1], sighting[2])
    return book


def read_sightings(text):
    # Split, the text without signs would still be one written row.
    if text == "":
        return []
    return [read_sighting(written) for written in text.split("; ")]


def read_sighting(written):
    # Split at the single blank, so that a doubled one leaves a word without signs.
    words = written.split(" ")
    if len(words) != 3 or not is_peg(words[0]) or not is_peg(words[1]) or not is_written_rise(words[2]):
        raise NoText("the text is not as a book is written")
    return (words[0], words[1], int(words[2]))


def is_written_rise(word):
    figures = word[1:] if word.startswith("-") else word
    if not 1 <= len(figures) <= 60:
        return False
    # By their place between 0 and 9, since isdigit and int take figures of other alphabets too.
    if not all(["0" <= sign <= "9" for sign in figures]):
        return False
    return figures[0] != "0" or word == "0"
