"""Papers reckoned plainly, by texts of figures, to measure the program by: [34] to [36]."""

from oracle import moved


def sixes_paper(n, one, other):
    first, second = str(one).rjust(n, "0"), str(other).rjust(n, "0")
    total = str(one + other).rjust(n, "0")
    carry = len(total) - n
    plain = int(first, 16) + int(second, 16)
    right = int(total[-n:], 16)
    lines = []
    for i in range(n):
        a, b = int(first[n - 1 - i]), int(second[n - 1 - i])
        before = carry_into(first, second, i)
        why = "none" if a + b + before < 10 else "nine" if a + b + before < 16 else "carry"
        figure = int(str(a + b + before)[-1])
        lines.append((a, b, before, a + b + before, why, figure, carry_into(first, second, i + 1)))
    return plain, right + carry * 16 ** n - plain, right, carry, tuple(lines)


def carry_into(first, second, i):
    """The carry out of the last i figures of both texts."""
    if i == 0:
        return 0
    return 1 if int(first[-i:]) + int(second[-i:]) >= 10 ** i else 0


def tries_paper(one, other):
    text, lines = str(one), []
    for i in range(len(text)):
        before = int(text[:i]) % other if i else 0
        ahead = int(str(before) + text[i])
        # The times taken are those that make up the figure of the quotient.
        figure = ahead // other
        four = tuple((times, times * other, bit == "1") for times, bit in zip((8, 4, 2, 1), f"{figure:04b}"))
        lines.append((ahead, four, figure, int(text[:i + 1]) % other))
    return tuple(lines)


def rounding_paper(number, by, rule):
    text = str(abs(number)).rjust(by + 1, "0")
    size, lost = text[:-by], text[-by:]
    told = moved(number, -by, rule)
    more = lost[1:].strip("0") != ""
    return int(size), int(lost[0]), more, size[-1] in "13579", str(number)[0] == "-", abs(told) != int(size), told
