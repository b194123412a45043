"""Codes read from their texts."""

from calltrim.codes import Code, MOST_LINES, is_line
from calltrim.errors import InvalidText
from calltrim.lines import ends_well, parsed_line


def read_code(text):
    texts = text.split("\n")
    last = len(texts) - 1
    lines = []
    at = 0
    for place in range(len(texts)):
        line = parsed_line(texts[place])
        wrong = place >= MOST_LINES or not is_line(line, len(texts))
        if wrong or (place == last and not ends_well(line)):
            raise InvalidText(text, at)
        lines.append(line)
        at += len(texts[place]) + 1
    return Code(lines)
