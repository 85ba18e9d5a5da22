"""All ways to pick one thing out of each of several rows."""


def picks(rows):
    """Tuples, rising where the values of each row are."""
    found = [()]
    for values in rows:
        found = [picked + (value,) for picked in found for value in values]
    return found
