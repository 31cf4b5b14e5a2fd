"""The texts of plain breakers.

A text is read word by word. Each parenthesis that is not closed yet is a list: empty up to its first word,
then that word and what stands behind it; PARTS stands first in the list for the parts of an ask.
"""

from breakback.errors import BadText

KINDS = ("say", "toss", "look", "ask")
PARTS = "parts"
FIGURES = "0123456789"


def part_text(part):
    """Return the word for a sign or for a number of a bit."""
    return part if isinstance(part, str) else f"b{part}"


def in_parentheses(words):
    """Return the words in parentheses, one space between them."""
    return "(" + " ".join(words) + ")"


def text_of(breaker):
    """Return the text of a plain breaker."""
    kind = breaker[0]
    if kind == "say":
        return in_parentheses([kind] + [part_text(part) for part in breaker[1]])
    if kind == "toss":
        return in_parentheses([kind] + [text_of(inner) for inner in breaker[1]])
    if kind == "look":
        return in_parentheses([kind, str(breaker[1]), text_of(breaker[2]), text_of(breaker[3])])
    return in_parentheses([kind, in_parentheses([part_text(part) for part in breaker[1]]), text_of(breaker[2])])


def awaited(read):
    """Return what may come next where this was read: "kind", "part", "number", "(" and ")"."""
    if read == []:
        return ("kind",)
    kind, many = read[0], len(read) - 1
    if kind in ("say", PARTS):
        return ("part", ")")
    if kind == "toss":
        return ("(",) if many == 0 else ("(", ")")
    if kind == "look":
        return (("number",), ("(",), ("(",), (")",))[many]
    return (("(",), ("(",), (")",))[many]


def told(read):
    """Return what the words in parentheses tell."""
    if read[0] == PARTS:
        return tuple(read[1:])
    if read[0] in ("say", "toss"):
        return (read[0], tuple(read[1:]))
    return tuple(read)


def shared(first, second):
    """Return the length of the longest beginning that both have."""
    many = 0
    while first[:many + 1] == second[:many + 1] and many < min(len(first), len(second)):
        many += 1
    return many


def begun_number(word):
    """Return the length of the longest beginning of the word with which some number begins."""
    if word[:1] == "0":
        return 1
    many = 0
    while many < len(word) and word[many] in FIGURES:
        many += 1
    return many


def begun(word, kind):
    """Return the length of the longest beginning of the word with which some word of this kind begins."""
    if kind == "kind":
        return max([shared(word, other) for other in KINDS])
    if kind == "number":
        return begun_number(word)
    if word[0] == "b":
        return 1 + begun_number(word[1:])
    return 1 if word[0] in "01" else 0


def is_whole_word(word, kind):
    """Tell whether this is a word of this kind, where all of it begins one."""
    if kind == "kind":
        return word in KINDS
    return word != "b"


def meaning(word, kind):
    """Return what a word of this kind means."""
    if kind == "number":
        return int(word)
    if kind == "part" and word[0] == "b":
        return int(word[1:])
    return word


def word_at(text, at):
    """Return the word that begins here."""
    stop = at
    while stop < len(text) and text[stop] not in " ()":
        stop += 1
    return text[at:stop]


def take_word(unclosed, word, at):
    """Put a word behind what was read, or raise BadText if it cannot stand at this place."""
    kind = awaited(unclosed[-1])[0] if unclosed else "("
    if kind not in ("kind", "part", "number"):
        raise BadText(at)
    many = begun(word, kind)
    if many < len(word) or not is_whole_word(word, kind):
        raise BadText(at + many)
    unclosed[-1].append(meaning(word, kind))


def take_left(unclosed, at):
    """Begin what is in a further parenthesis, or raise BadText if none can stand at this place."""
    if unclosed and "(" not in awaited(unclosed[-1]):
        raise BadText(at)
    unclosed.append([PARTS] if unclosed and unclosed[-1] == ["ask"] else [])


def take_right(unclosed, at):
    """Close the last parenthesis and return what it tells, or raise BadText if it cannot be closed."""
    if not unclosed or ")" not in awaited(unclosed[-1]):
        raise BadText(at)
    found = told(unclosed.pop())
    if unclosed:
        unclosed[-1].append(found)
    return found


def breaker_of(text):
    """Return the breaker that a text tells, or raise BadText."""
    unclosed = []
    found = None
    at = 0
    while at < len(text):
        sign = text[at]
        width = 1
        if sign != " " and found is not None and not unclosed:
            raise BadText(at)
        if sign == "(":
            take_left(unclosed, at)
        elif sign == ")":
            found = take_right(unclosed, at)
        elif sign != " ":
            word = word_at(text, at)
            take_word(unclosed, word, at)
            width = len(word)
        at += width
    if unclosed or found is None:
        raise BadText(len(text))
    return found
