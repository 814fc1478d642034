package schema_test

import (
	"math/rand"
	"regexp"
	"slices"
	"strings"

	"canopy/api"
)

// These read schemas and words by other means than the program: signs by a pattern, their order by a machine that counts parentheses, models by cutting them apart, words by patterns of letters.

var (
	signPattern = regexp.MustCompile(`[a-z]+|(?s:.)`)
	namePattern = regexp.MustCompile(`^[a-z]{1,8}$`)
)

// plainSign is a sign of a text, at its place.
type plainSign struct {
	text string
	at   int
}

// plainSigns are those of a text, and one of nothing at its end.
func plainSigns(text string) []plainSign {
	var out []plainSign
	for _, at := range signPattern.FindAllStringIndex(text, -1) {
		if s := text[at[0]:at[1]]; s != " " && s != "\n" {
			out = append(out, plainSign{s, at[0]})
		}
	}
	return append(out, plainSign{"", len(text)})
}

// plainKind is the kind of a sign: n for a name, w for what may stand for a model besides, r and e for root and element, else its byte, or x.
func plainKind(s string) string {
	switch {
	case s == "root" || s == "element":
		return s[:1]
	case s == "empty" || s == "any" || s == "text":
		return "w"
	case namePattern.MatchString(s):
		return "n"
	case s != "" && strings.Contains(";=|,*+?()", s):
		return s
	case s == "":
		return "."
	}
	return "x"
}

// plainNext tells where a sign of a kind leads: 0 ahead of root, 1 the root, 2 its end, 3 element or end, 4 its name, 5 =, 6 ahead of an atom, 7 behind one, 8 behind how often it may be. Below 0: it may not stand there.
func plainNext(state, open int, kind string) int {
	ways := []map[string]int{{"r": 1}, {"n": 2}, {";": 3}, {"e": 4, ".": 9}, {"n": 5}, {"=": 6}, {"n": 7, "w": 7, "(": 6}, {"*": 8, "+": 8, "?": 8, ",": 6, "|": 6}, {",": 6, "|": 6}}
	if state >= 7 && kind == ")" && open > 0 {
		return 7
	}
	if state >= 7 && kind == ";" && open == 0 {
		return 3
	}
	if next, ok := ways[state][kind]; ok {
		return next
	}
	return -1
}

// plainRead reads a schema.
func plainRead(text string) (api.Schema, int, api.Errno) {
	if len(text) > api.MaxText {
		return api.Schema{}, 0, api.TooLong
	}
	state, open, begin := 0, 0, 0
	var s api.Schema
	signs := plainSigns(text)
	for i, sign := range signs {
		kind := plainKind(sign.text)
		next := plainNext(state, open, kind)
		switch {
		case next < 0:
			return api.Schema{}, sign.at, api.BadText
		case state == 1:
			s.Root = sign.text
		case state == 4 && slices.ContainsFunc(s.L, func(e api.Element) bool { return e.Name == sign.text }):
			return api.Schema{}, sign.at, api.Twice
		case state == 4 && len(s.L) == 8:
			return api.Schema{}, sign.at, api.TooLong
		case state == 4:
			s.L = append(s.L, api.Element{Name: sign.text})
		case state == 5:
			begin = i + 1
		case kind == "(" && open == 20:
			return api.Schema{}, sign.at, api.TooDeep
		case kind == "(":
			open++
		case kind == ")":
			open--
		case state >= 7 && next == 3:
			s.L[len(s.L)-1].M = plainModel(signs[begin:i])
		}
		state = next
	}
	for _, name := range plainNames(s) {
		if !slices.ContainsFunc(s.L, func(e api.Element) bool { return e.Name == name }) {
			return api.Schema{}, 0, api.NoName
		}
	}
	return s, 0, api.OK
}

// plainNames are those that s speaks of.
func plainNames(s api.Schema) []string {
	out := []string{s.Root}
	var in func(m api.Model)
	in = func(m api.Model) {
		if m.Kind == api.MName {
			out = append(out, m.Name)
		}
		for _, part := range m.L {
			in(part)
		}
	}
	for _, e := range s.L {
		in(e.M)
	}
	return out
}

// plainCut are the signs between those of a text that are in no parentheses.
func plainCut(signs []plainSign, at string) [][]plainSign {
	var out [][]plainSign
	open, from := 0, 0
	for i, sign := range signs {
		switch {
		case sign.text == "(":
			open++
		case sign.text == ")":
			open--
		case sign.text == at && open == 0:
			out = append(out, signs[from:i])
			from = i + 1
		}
	}
	return append(out, signs[from:])
}

// plainModel is what signs of a right order write.
func plainModel(signs []plainSign) api.Model {
	for i, at := range []string{"|", ","} {
		if parts := plainCut(signs, at); len(parts) > 1 {
			m := api.Model{Kind: []int{api.MOr, api.MSeq}[i]}
			for _, part := range parts {
				m.L = append(m.L, plainModel(part))
			}
			return m
		}
	}
	last := len(signs) - 1
	switch s := signs[last].text; s {
	case ")":
		return plainModel(signs[1:last])
	case "*":
		return star(plainModel(signs[:last]))
	case "+":
		return plus(plainModel(signs[:last]))
	case "?":
		return opt(plainModel(signs[:last]))
	case "empty":
		return void()
	case "any":
		return anything()
	case "text":
		return text()
	default:
		return name(s)
	}
}

// loose writes s with blanks and parentheses wherever they do no harm.
func loose(r *rand.Rand, s api.Schema) string {
	gap := func() string { return []string{"", "", " ", "\n", "  "}[r.Intn(5)] }
	out := gap() + "root" + []string{" ", "\n"}[r.Intn(2)] + s.Root + gap() + ";" + gap()
	for _, e := range s.L {
		out += "element " + gap() + e.Name + gap() + "=" + gap() + looseModel(r, e.M, gap) + gap() + ";" + gap()
	}
	if len(out) > api.MaxText {
		return strings.Join(strings.Fields(out), " ")
	}
	return out
}

// looseModel writes m, each part of it in parentheses, but atoms as it comes.
func looseModel(r *rand.Rand, m api.Model, gap func() string) string {
	var parts []string
	for _, part := range m.L {
		s := looseModel(r, part, gap)
		if len(part.L) > 0 || r.Intn(8) == 0 {
			s = "(" + gap() + s + gap() + ")"
		}
		parts = append(parts, s)
	}
	switch m.Kind {
	case api.MSeq:
		return strings.Join(parts, gap()+","+gap())
	case api.MOr:
		return strings.Join(parts, gap()+"|"+gap())
	case api.MStar, api.MPlus, api.MOpt:
		return parts[0] + gap() + "*+?"[m.Kind-api.MStar:m.Kind-api.MStar+1]
	case api.MName:
		return m.Name
	}
	return []string{"", "empty", "any", "text"}[m.Kind]
}

// plainPattern is a model as a pattern: element i is the letter i of a to h, a text t.
func plainPattern(s api.Schema, m api.Model) string {
	var parts []string
	for _, part := range m.L {
		parts = append(parts, "(?:"+plainPattern(s, part)+")")
	}
	switch m.Kind {
	case api.MAny:
		return "[a-ht]*"
	case api.MText:
		return "t"
	case api.MName:
		return "abcdefgh"[plainPlace(s, m.Name):][:1]
	case api.MSeq:
		return strings.Join(parts, "")
	case api.MOr:
		return strings.Join(parts, "|")
	case api.MStar, api.MPlus, api.MOpt:
		return parts[0] + "*+?"[m.Kind-api.MStar:][:1]
	}
	return ""
}

// plainPlace is that of an element in s.
func plainPlace(s api.Schema, name string) int {
	return slices.IndexFunc(s.L, func(e api.Element) bool { return e.Name == name })
}

// plainHas tells whether w is the word of the root of s: elements that hold no other are taken out one by one, each a letter then.
func plainHas(s api.Schema) func(w []int) bool {
	var fits []*regexp.Regexp
	for _, e := range s.L {
		fits = append(fits, regexp.MustCompile("^(?:"+plainPattern(s, e.M)+")$"))
	}
	return func(w []int) bool {
		held := []string{""} // what each open element holds, the innermost last
		var open []int
		for _, place := range w {
			last := len(held) - 1
			switch {
			case place < 0 || place > 2*len(s.L):
				return false
			case place == 2*len(s.L):
				held[last] += "t"
			case place%2 == 0:
				held, open = append(held, ""), append(open, place/2)
			case len(open) == 0 || open[len(open)-1] != place/2 || !fits[place/2].MatchString(held[last]):
				return false
			default:
				held, open = held[:last], open[:len(open)-1]
				held[last-1] += "abcdefgh"[place/2:][:1]
			}
		}
		return len(open) == 0 && held[0] == "abcdefgh"[plainPlace(s, s.Root):][:1]
	}
}
