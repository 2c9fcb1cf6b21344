"""Steps of scripts, and the lines that tell them."""

from onewaybits.errors import InvalidDeed, InvalidLine, InvalidScript
from onewaybits.kinds import is_list
from onewaybits.tree import DEED_PARTS, MOST_WRITTEN, is_deed

MOST_STEPS = 60
SYNC = "sync"
TOGETHER = "all: "
DIGITS = "0123456789"
# No number of a deed has more digits.
MOST_DIGITS = 3


def is_script(value):
    """Tell whether a value is a list of at most 60 steps."""
    return is_list(value) and len(value) <= MOST_STEPS and all([_is_step(step) for step in value])


def line_of(step):
    """Return the line of a step."""
    if not _is_step(step):
        raise InvalidDeed(step)
    return _line(step)


def read_deed(line):
    """Return the step with this line."""
    if not isinstance(line, str):
        raise InvalidLine(line)
    step = _step_told_by(line)
    # What is read with mercy, as two runs of one octet, has another line.
    if not _is_step(step) or _line(step) != line:
        raise InvalidLine(line)
    return step


def read_script(lines):
    """Return the list of the steps with these lines."""
    if not is_list(lines) or len(lines) > MOST_STEPS:
        raise InvalidScript(lines)
    return [read_deed(line) for line in lines]


def number_in_word(word, most_digits):
    """Return the integer that has this word, or None if there is none with at most so many digits."""
    if not 1 <= len(word) <= most_digits or not all([sign in DIGITS for sign in word]):
        return None
    if word[0] == "0" and len(word) > 1:
        return None
    return int(word)


def _is_step(value):
    return is_deed(value) or isinstance(value, tuple) and len(value) == 1 and value[0] == SYNC


def _line(step):
    if step[0] == SYNC:
        return SYNC
    if step[0] == "all":
        return TOGETHER + "; ".join([_line(deed) for deed in step[1]])
    parts = DEED_PARTS[step[0]]
    return " ".join([step[0]] + [_word(part, item) for part, item in zip(parts, step[1:])])


def _word(part, item):
    if part == "path":
        return "/" + "/".join(item)
    if part == "size":
        return str(item)
    if part == "octets":
        return ",".join([_run_word(octet, count) for octet, count in _runs(item)])
    return item


def _runs(octets):
    """Return for each run its octet and the number of its octets."""
    runs = []
    for octet in octets:
        if len(runs) > 0 and runs[-1][0] == octet:
            runs[-1] = (octet, runs[-1][1] + 1)
        else:
            runs.append((octet, 1))
    return runs


def _run_word(octet, count):
    if count == 1:
        return str(octet)
    return f"{octet}*{count}"


def _step_told_by(line):
    """Return the step that a line seems to tell; the parts that tell nothing are None in it."""
    if line == SYNC:
        return (SYNC,)
    if line.startswith(TOGETHER):
        return ("all", tuple([_deed_told_by(part) for part in line[len(TOGETHER):].split("; ")]))
    return _deed_told_by(line)


def _deed_told_by(line):
    words = line.split(" ")
    parts = DEED_PARTS.get(words[0])
    if parts is None:
        return None
    return (words[0],) + tuple([_item_told_by(part, word) for part, word in zip(parts, words[1:])])


def _item_told_by(part, word):
    if part == "path":
        return _path_told_by(word)
    if part == "size":
        return _number_told_by(word)
    if part == "octets":
        return _octets_told_by(word)
    return word


def _path_told_by(word):
    if word == "/":
        return ()
    return tuple(word[1:].split("/"))


def _number_told_by(word):
    return number_in_word(word, MOST_DIGITS)


def _octets_told_by(word):
    octets = []
    for run in word.split(","):
        octet, star, count = run.partition("*")
        times = _number_told_by(count) if star == "*" else 1
        if times is None or times > MOST_WRITTEN:
            return None
        octets.extend([_number_told_by(octet)] * times)
    return tuple(octets)
