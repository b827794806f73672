"""Where a list of calls comes in and the list of their answers goes out."""

from pumpnet.calls import answer
from pumpnet.plant import Plant

# How many numbers stand behind each call's place.
WIDTHS = (1, 2, 3, 2, 2, 7, 1, 1, 0, 2, 1, 2, 1, 2, 0, 2, 1, 0, 1, 1, 2, 1, 0, 0, 0, 0)


def answers(calls):
    plant = Plant()
    told = []
    at = 0
    while at < len(calls):
        end = at + 1 + WIDTHS[calls[at]]
        numbers = answer(plant, calls[at], calls[at + 1:end])
        told.append(len(numbers))
        told.extend(numbers)
        at = end
    return told
