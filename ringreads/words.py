"""The words of texts and commands: numbers, and pairs of numbers. Nothing is checked here."""

MOST_DIGITS = 32


def number_of(word):
    """The number that a word tells, None if it tells none."""
    # Digits of other scripts are digits, too, but no decimal numbers here.
    if not word.isascii() or not word.isdigit() or len(word) > MOST_DIGITS:
        return None
    if len(word) > 1 and word.startswith("0"):
        return None
    return int(word)


def pair_of(word):
    """The tuple of two numbers that a word tells, None if it tells none."""
    numbers = [number_of(piece) for piece in word.split("+")]
    if len(numbers) != 2 or None in numbers:
        return None
    return (numbers[0], numbers[1])
