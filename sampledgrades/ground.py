"""The calls of one list, one behind another, and their answers: of each how many numbers it has, then these."""

from sampledgrades.bounds import how_many_numbers, how_many_rows
from sampledgrades.calls import answer_call
from sampledgrades.keeping import Ground


# The rows stand one behind another from start on, each with how many numbers it has before it.
def read_rows(calls, start, count):
    rows = []
    for number in range(count):
        end = start + 1 + calls[start]
        rows.append(calls[start + 1:end])
        start = end
    return rows


def answers(calls):
    ground = Ground()
    told = []
    start = 0
    while start < len(calls):
        kind = calls[start]
        end = start + 1 + how_many_numbers(kind)
        rows = read_rows(calls, end, how_many_rows(kind))
        answer = answer_call(ground, kind, calls[start + 1:end], rows)
        told.append(len(answer))
        told.extend(answer)
        start = end + sum([1 + len(row) for row in rows])
    return told
