"""Texts of rows, of rows with a start and of certificates."""

from oddrounds.bounds import MAX_KEY, MAX_PLACES
from oddrounds.errors import BadText


def is_integer_text(value):
    """Return whether a string is the text of an integer from 0 on."""
    # isdigit would also accept digits that are not 0 to 9.
    if value == "" or not all([letter in "0123456789" for letter in value]):
        return False
    return value == "0" or value[0] != "0"


def integer_of(value, greatest):
    """Return the integer from 0 to greatest whose text a string is, or None."""
    # Python does not read numbers of several thousand digits.
    if not is_integer_text(value) or len(value) > len(str(greatest)):
        return None
    integer = int(value)
    return integer if integer <= greatest else None


def row_text(row):
    """Return the text of a row."""
    return " ".join([str(key) for key in row])


def parse_row(value):
    """Return the row whose text value is.

    Raises BadText(None) if value is not a string, and BadText(index) with the
    index of the first wrong part.
    """
    if not isinstance(value, str):
        raise BadText(None)
    keys = []
    for index, part in enumerate(value.split(" ")):
        key = integer_of(part, MAX_KEY)
        if index == MAX_PLACES or key is None or key in keys:
            raise BadText(index)
        keys.append(key)
    return tuple(keys)


def start_text(row, start):
    """Return the text of a row with a start."""
    return f"{start}: {row_text(row)}"


def parse_start(value):
    """Return the tuple (row, start) whose text value is.

    Raises BadText(None) if value is not a string that begins with a start,
    and BadText(index) as parse_row for what follows.
    """
    if not isinstance(value, str) or value[:3] not in ("0: ", "1: "):
        raise BadText(None)
    return (parse_row(value[3:]), int(value[0]))


def certificate_text(certificate):
    """Return the text of a certificate."""
    return " ".join([str(part) for part in certificate])


def parse_certificate(value):
    """Return the certificate whose text value is.

    Raises BadText(None) if value is not a string, and BadText(index) with the
    index of the first wrong or missing part.
    """
    if not isinstance(value, str):
        raise BadText(None)
    if value == "sorted":
        return ("sorted",)
    parts = value.split(" ")
    if parts[0] != "late":
        raise BadText(0)
    threshold = integer_of(parts[1], MAX_KEY) if len(parts) > 1 else None
    if threshold is None:
        raise BadText(1)
    place = integer_of(parts[2], MAX_PLACES - 1) if len(parts) > 2 else None
    if place is None:
        raise BadText(2)
    if len(parts) > 3:
        raise BadText(3)
    return ("late", threshold, place)
