"""The way through the fewest valves, and of these the least.

Nodes that pipes alone join cost nothing to go between, so one place stands for all of them. A door is a valve that
counts as open, as (its number, the place at its one end, the place at its other end); doors come by their numbers.
"""


# The place that a door leads to from here, or None where it has no end here.
def beyond(door, here):
    if door[1] == here:
        return door[2]
    if door[2] == here:
        return door[1]
    return None


# For each place from which the goal can be reached, through how many doors at least.
def doors_left(doors, goal):
    left = {goal: 0}
    todo = [goal]
    while len(todo) > 0:
        here = todo.pop(0)
        for door in doors:
            there = beyond(door, here)
            if there is not None and there not in left:
                left[there] = left[here] + 1
                todo.append(there)
    return left


# The door to go through next: the first that leads nearer is the least, since doors come by their numbers.
def door_nearer(doors, left, here):
    for door in doors:
        there = beyond(door, here)
        if there is not None and left[there] < left[here]:
            return door
    return None


# The numbers of the doors from start to goal, or None where there is no way.
def least_way(doors, start, goal):
    left = doors_left(doors, goal)
    if start not in left:
        return None
    numbers = []
    here = start
    while here != goal:
        door = door_nearer(doors, left, here)
        numbers.append(door[0])
        here = beyond(door, here)
    return numbers
