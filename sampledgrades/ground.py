"""The calls of one list, one behind another, and their answers: of each how many numbers it has, then these."""

from sampledgrades.calls import answer_call, how_many_numbers
from sampledgrades.keeping import Ground


def answers(calls):
    ground = Ground()
    told = []
    start = 0
    while start < len(calls):
        kind = calls[start]
        end = start + 1 + how_many_numbers(kind)
        answer = answer_call(ground, kind, calls[start + 1:end])
        told.append(len(answer))
        told.extend(answer)
        start = end
    return told
