package kit

import (
	"canopy/mix"
)

// How many states a machine may have; one that is laid together of two may have more.
const (
	most       = 60
	mostJoined = 200
)

// command is what a line begins with: what stands behind it, and what it does.
type command struct {
	form
	do func(k *Kit, o order) string
}

// commandOf is the command of a word; one that is none does nothing.
func commandOf(word string) command {
	switch word {
	case "syms":
		return command{form{rest: true}, (*Kit).syms}
	case "expr":
		return command{form{makes: true, rest: true}, (*Kit).expr}
	case "dtd":
		return command{form{makes: true, rest: true}, (*Kit).dtd}
	case "not":
		return command{form{makes: true, uses: 1}, (*Kit).not}
	case "and":
		return command{form{makes: true, uses: 2}, joining(mix.And, mostJoined)}
	case "or":
		return command{form{makes: true, uses: 2}, joining(mix.Or, mostJoined)}
	case "less":
		return command{form{makes: true, uses: 2}, joining(mix.Less, most)}
	case "trim":
		return command{form{makes: true, uses: 1}, (*Kit).trim}
	case "takes":
		return command{form{uses: 1, rest: true}, (*Kit).takes}
	case "word":
		return command{form{uses: 1}, (*Kit).word}
	case "within":
		return command{form{uses: 2}, (*Kit).within}
	case "same":
		return command{form{uses: 2}, (*Kit).same}
	case "feed":
		return command{form{uses: 1, deep: true, rest: true}, (*Kit).feed}
	case "drop":
		return command{form{uses: 1}, (*Kit).drop}
	case "names":
		return command{form{}, (*Kit).names}
	}
	return command{}
}
