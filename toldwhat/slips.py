"""Messages gone wrong: where a keeper first answers otherwise."""

from toldwhat.checks import check_letters, is_number
from toldwhat.errors import BadNumber
from toldwhat.keepers import check_keeper, check_row, kept_answers
from toldwhat.worlds import check_world, messages


def lost(world, letters, keeper, row, spot):
    """The first number of a message at which a keeper answers otherwise if one isn't told, None if he never does."""
    check_slip(world, letters, keeper, row, spot)
    answers = kept_answers(messages(world, letters), keeper, row[:spot] + row[spot + 1:])
    return first_unlike(world, letters, keeper, row, spot, answers[spot:])


def doubled(world, letters, keeper, row, spot):
    """The first number of a message at which a keeper answers otherwise if one is told twice, None if he never does."""
    check_slip(world, letters, keeper, row, spot)
    answers = kept_answers(messages(world, letters), keeper, row[:spot + 1] + row[spot:])
    return first_unlike(world, letters, keeper, row, spot, answers[spot + 2:])


def check_slip(world, letters, keeper, row, spot):
    """Raise the error of the leftmost argument that is not allowed."""
    check_world(world)
    check_letters(letters)
    check_keeper(world, letters, keeper)
    check_row(world, letters, row)
    if not is_number(spot, 0, len(row) - 1):
        raise BadNumber("not the number of a message of the row")


def first_unlike(world, letters, keeper, row, spot, others):
    """The first number from spot on at which the answers to a row are not the others, None without one."""
    answers = kept_answers(messages(world, letters), keeper, row)
    # The first answer comes ahead of all messages.
    for number, other in enumerate(others, start=spot):
        if answers[number + 1] != other:
            return number
    return None
