"""Controls as they are held byte by byte, and what a whole one tells."""

ESCAPE = 27
BRACKET = 91
SEMICOLON = 59
MOST_HELD = 12
GREATEST_NUMBER = 999
FIRST_LETTER = 64
LETTERS = "@ABCDEFGHIJKLMNOPQRSTUVWXYZ[\\]^_`abcdefghijklmnopqrstuvwxyz{|}~"
OTHER_SCREEN = 47


def is_digit(byte):
    return 48 <= byte <= 57


def is_held_too(held, byte):
    """Whether the byte joins what is held, so that the control goes on."""
    if len(held) == 0:
        return False
    if len(held) == 1:
        return byte == BRACKET
    return len(held) < MOST_HELD and (is_digit(byte) or byte == SEMICOLON)


def ends_control(held, byte):
    return len(held) > 1 and FIRST_LETTER <= byte < FIRST_LETTER + len(LETTERS)


def letter_of(byte):
    return LETTERS[byte - FIRST_LETTER]


def numbers_told(held):
    """The numbers of a held control, with None for each that is left out; there is always one."""
    numbers = []
    number = None
    for byte in held[2:]:
        if byte == SEMICOLON:
            numbers.append(number)
            number = None
        else:
            number = min((0 if number is None else number) * 10 + byte - 48, GREATEST_NUMBER)
    numbers.append(number)
    return numbers


def has_fitting_numbers(letter, numbers):
    return len(numbers) == 1 or (len(numbers) == 2 and letter in ("H", "r"))


def first_number(numbers, otherwise):
    return otherwise if numbers[0] is None else numbers[0]


def second_number(numbers, otherwise):
    if len(numbers) < 2 or numbers[1] is None:
        return otherwise
    return numbers[1]


def colour_told(numbers):
    """The colour that m tells, or None."""
    number = first_number(numbers, 0)
    if number == 0:
        return 0
    return number - 30 if 30 <= number <= 37 else None


def region_told(numbers, height):
    """The region that r tells, as its top and its bottom, or None."""
    top = first_number(numbers, 1)
    bottom = second_number(numbers, height)
    return (top - 1, bottom - 1) if 1 <= top < bottom <= height else None


def screen_told(letter, numbers):
    """The number of the screen that h or l shows, or None."""
    if letter not in ("h", "l") or numbers != [OTHER_SCREEN]:
        return None
    return 1 if letter == "h" else 0
