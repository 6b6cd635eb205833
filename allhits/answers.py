"""What the stages tell, written as the desk answers it."""

from allhits.texts import show_set


def show_numbers(numbers):
    return " ".join([str(number) for number in numbers])


def show_word_and_sets(words, told):
    return " ".join([told[0]] + [show_set(words, one) for one in told[1:]])


def show_looked(words, told):
    if told[0] == "spare":
        return "spare " + words[told[1]]
    if told[0] == "misses":
        return show_word_and_sets(words, told)
    return " ".join(["least"] + [words[k] + ":" + show_set(words, other) for k, other in told[1]])


def show_ranks(words, told):
    if told[0] == "apart":
        return " ".join(["apart", words[told[1]], words[told[2]]])
    return " ".join(["ranks"] + [show_alike(words, names) for names in told[1]])


def show_alike(words, names):
    return "=".join([words[k] for k in names])


def show_weights(words, told):
    if told[0] == "weights":
        return "weights " + show_numbers(told[1] + [told[2]])
    yes = [show_set(words, one) for one in told[1]]
    no = [show_set(words, one) for one in told[2]]
    return " ".join(["trade"] + yes + ["/"] + no)
