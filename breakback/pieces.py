"""What games have in common with the breakers that lead one game to another."""

from breakback.bits import number_of


def message_of(string, b):
    """Return the first of the two messages in a string for b = 0, the second one for b = 1."""
    half = len(string) // 2
    return string[half:] if b == 1 else string[:half]


def hint(row, place):
    """Return the challenge of the game next: the bits ahead of the place, then 1, then noughts."""
    return row[:place] + "1" + "0" * (len(row) - 1 - place)


def guess_of(said):
    """Return the bit that is guessed by saying this."""
    return "1" if said == "1" else "0"


def places_of(message):
    """Return the numbers of the places (i, bit i of the message) among (0, 0), (0, 1), (1, 0) and so on."""
    return [2 * i + number_of(bit) for i, bit in enumerate(message)]


def wins_onetime(block, shown, answered, said):
    """Tell whether what is said wins the game onetime.

    shown are the rows of the places, in order; answered is the message that was answered, or None.
    """
    _, n, _, rows = block
    l = len(shown) // 2
    message = said[:l]
    if len(said) != l + l * n or message == answered:
        return False
    for i, place in enumerate(places_of(message)):
        start = l + i * n
        if rows[number_of(said[start:start + n])] != shown[place]:
            return False
    return True
