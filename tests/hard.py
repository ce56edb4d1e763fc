"""Stocks that are hard for the program, found by a search that changed stocks little by little."""

# Their least text with two readings is long.
LONG_TEXTS = [
    ["abbbbaa", "bbaaaab", "bbbbaabb", "abbbb", "bbaabbbb", "bbbaabbb", "baabbbba", "aabbbaab"],
    ["ccb", "bbcccccb", "bcccbbcc", "ccbcbcb", "cbbcccbb", "cbcbbbcc", "cccbbccc", "bbccbbc"],
    ["bb", "ababbbab", "abbbabb", "bababab", "baaaaaba", "aaaaba", "bbbbaa", "bbaaaaa"],
    ["aaaaaaa", "aaaaaaaa"],
]
# They have many rests.
MANY_RESTS = [
    ["abbaaabb", "aabbaaa", "aaabbbab", "bbaaabba", "aaabbaba", "aabbaaab", "aaabbbbb", "baaabbaa"],
    ["abaaaaba", "aaaaaaab", "aaaabbab", "a", "abbaaaaa", "aaabbbaa", "baaaabbb", "aaaaaabb"],
]
# They need many cuts.
MANY_CUTS = [
    ["bbababaa", "aabababb", "bbbbbbba", "b", "abbbabbb", "abbbaaba", "babbabaa", "baababbb"],
    ["baaaaabb", "baaabbba", "aabababb", "abaababb", "bbbaaaaa", "a", "aaaaaaab", "bbbaaaba"],
]
# Two texts that begin unlike agree for long, but not for ever.
LONG_AGREEMENT = [
    ["bbabbabb", "aababbab", "abbaa", "baaba", "babbabba", "aabbabba", "baabaab", "abbabbb"],
    ["bbababa", "aabbbba", "aabbb", "aaaab", "ababaa", "abaab", "babab", "abaaaabb"],
]
# They are read in one way, and rows that go together for ever have long rings.
LONG_RINGS = [
    ["abaaaabb", "bbabaaab", "baaaabbb", "babbabba", "aaaaabb", "bbaaaaab", "bbbababb", "a"],
    ["a", "aaaaaaab", "baaaaabb", "bbaaabbb", "bbbaaaba", "abab", "bbbbb", "abbabaa"],
]
HARD = LONG_TEXTS + MANY_RESTS + MANY_CUTS + LONG_AGREEMENT + LONG_RINGS
