"""A heap: a list of pairs of a value and a share, in which no pair's value is above that of the pair over it.

The pair at place p stands over those at 2p + 1 and 2p + 2, so a greatest value is at place 0.
"""


def put_in(heap, value, share):
    heap.append((value, share))
    place = len(heap) - 1
    while place > 0 and heap[(place - 1) // 2][0] < value:
        heap[place] = heap[(place - 1) // 2]
        place = (place - 1) // 2
    heap[place] = (value, share)


def greater_below(heap, place):
    left = 2 * place + 1
    if left + 1 < len(heap) and heap[left + 1][0] > heap[left][0]:
        return left + 1
    return left


def take_top(heap):
    last = heap.pop()
    if heap == []:
        return
    place = 0
    below = greater_below(heap, place)
    while below < len(heap) and heap[below][0] > last[0]:
        heap[place] = heap[below]
        place = below
        below = greater_below(heap, place)
    heap[place] = last


# Shares of that amount go off the greatest values; the heap must hold more than that.
def take_shares(heap, amount):
    left = amount
    while heap[0][1] <= left:
        left -= heap[0][1]
        take_top(heap)
    heap[0] = (heap[0][0], heap[0][1] - left)
