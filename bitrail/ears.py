"""An ear: a function that tells what is heard, the other bit at the pairs of post and turn that it is made of."""


def ear(wrong):
    kept = {}
    for pair in wrong:
        kept[pair] = True

    def heard(post, turn, bit):
        return 1 - bit if (post, turn) in kept else bit

    return heard
