package kit_test

import (
	"fmt"
	"regexp"
	"sort"
	"strings"

	"canopy/api"
	"canopy/auto"
	"canopy/comp"
	"canopy/dtd"
	"canopy/expr"
	"canopy/feed"
	"canopy/mix"
	"canopy/runs"
	"canopy/schema"
	"canopy/seek"
	"canopy/word"
)

// Lines by patterns: what stands behind the command, by its forms.
var (
	ofRest      = regexp.MustCompile(`(?s)^(syms)(?: (.*))?$`)
	ofNameRest  = regexp.MustCompile(`(?s)^(expr|dtd|takes) ([a-z]{1,8})(?: (.*))?$`)
	ofTwo       = regexp.MustCompile(`(?s)^(not|trim|within|same) ([a-z]{1,8}) ([a-z]{1,8})$`)
	ofThree     = regexp.MustCompile(`(?s)^(and|or|less) ([a-z]{1,8}) ([a-z]{1,8}) ([a-z]{1,8})$`)
	ofOne       = regexp.MustCompile(`(?s)^(word|drop) ([a-z]{1,8})$`)
	ofDeepRest  = regexp.MustCompile(`(?s)^(feed) ([a-z]{1,8}) (0|[1-9][0-9]{0,2})(?: (.*))?$`)
	ofNothing   = regexp.MustCompile(`(?s)^(names)$`)
	ofSymbol    = regexp.MustCompile(`^(<|</|)([a-z]{1,8})(>|)$`)
	kindByFront = map[string]int{"<>": api.Opens, "</>": api.Closes, "": api.Plain}
)

// plain is a kit that is told by patterns; it has each call's name beside what it answers.
type plain struct {
	l    []api.Sym
	have map[string]api.Auto
}

func newPlain() *plain { return &plain{have: map[string]api.Auto{}} }

// do is what Do is to answer.
func (k *plain) do(line string) string {
	for _, p := range []*regexp.Regexp{ofRest, ofNameRest, ofTwo, ofThree, ofOne, ofDeepRest, ofNothing} {
		if m := p.FindStringSubmatch(line); m != nil {
			return k.by(m[1:])
		}
	}
	return "text"
}

// by is what is to be answered of the parts of a line; machines are looked up ahead of all.
func (k *plain) by(m []string) string {
	used := map[string][]string{"not": m[1:], "trim": m[1:], "and": m[1:], "or": m[1:], "less": m[1:]}[m[0]]
	if used != nil {
		used = used[1:]
	}
	switch m[0] {
	case "takes", "word", "drop", "feed":
		used = m[1:2]
	case "within", "same":
		used = m[1:]
	}
	var of []api.Auto
	for _, n := range used {
		a, ok := k.have[n]
		if !ok {
			return "none"
		}
		of = append(of, a)
	}
	switch m[0] {
	case "syms", "expr", "dtd":
		return k.read(m)
	case "not", "and", "or", "less", "trim":
		return k.put(m[1], of, m[0])
	}
	return k.tell(m, of)
}

// read is what is to be answered of a line whose rest makes symbols or a machine.
func (k *plain) read(m []string) string {
	rest := m[len(m)-1]
	switch m[0] {
	case "syms":
		l, said := plainSyms(rest)
		if said != "" {
			return said
		}
		k.l, k.have = l, map[string]api.Auto{}
		return fmt.Sprint("ok ", len(l))
	case "expr":
		if len(k.l) == 0 {
			return "long"
		}
		e, at, err := expr.Parse(k.l, rest)
		if err != api.OK {
			return fmt.Sprint(err, " ", at)
		}
		a, err := comp.Make(k.l, e, 60)
		return k.kept(m[1], a, err)
	}
	s, at, err := schema.Parse(rest)
	if err != api.OK {
		return fmt.Sprint(err, " ", at)
	}
	a, err := dtd.Make(s, 60)
	if err == api.OK {
		k.l, k.have = schema.Syms(s), map[string]api.Auto{}
	}
	return k.kept(m[1], a, err)
}

// plainSyms are the symbols that a rest says; else what is to be answered.
func plainSyms(rest string) ([]api.Sym, string) {
	texts := strings.Split(rest, " ")
	if rest == "" || len(texts) > 20 {
		return nil, "long"
	}
	var l []api.Sym
	seen := map[string]int{}
	for i, text := range texts {
		m := ofSymbol.FindStringSubmatch(text)
		if m == nil || kindByFront[m[1]+m[3]] == 0 {
			return nil, "text"
		}
		if seen[text] > 0 {
			return nil, "twice"
		}
		seen[text] = i + 1
		l = append(l, api.Sym{Name: m[2], Kind: kindByFront[m[1]+m[3]]})
	}
	return l, ""
}

// put is what is to be answered of a line that makes a machine of machines.
func (k *plain) put(to string, of []api.Auto, command string) string {
	var a api.Auto
	var e api.Errno
	switch command {
	case "not":
		a, e = mix.Not(k.l, of[0], 60)
	case "and":
		a, e = mix.And(k.l, of[0], of[1], 200)
	case "or":
		a, e = mix.Or(k.l, of[0], of[1], 200)
	case "less":
		a, e = mix.Less(k.l, of[0], of[1], 60)
	case "trim":
		a = auto.Trim(k.l, of[0])
	}
	return k.kept(to, a, e)
}

// kept is what is to be answered of a machine that is made.
func (k *plain) kept(to string, a api.Auto, e api.Errno) string {
	if e != api.OK {
		return e.Error()
	}
	k.have[to] = a
	return fmt.Sprint("ok ", a.N, " ", len(a.Opens)+len(a.Closes)+len(a.Inners))
}

// tell is what is to be answered of a line that makes nothing.
func (k *plain) tell(m []string, of []api.Auto) string {
	var w []int
	var is bool
	var at int
	var e api.Errno
	switch m[0] {
	case "takes":
		if w, at, e = word.Parse(k.l, m[2]); e == api.OK {
			is = runs.Takes(k.l, of[0], w)
		}
	case "feed":
		deep := 0
		fmt.Sscan(m[2], &deep)
		f := feed.New(k.l, of[0], deep)
		f.Write([]byte(m[3]))
		is, at, e = f.Close()
	case "word":
		long, found := seek.Shortest(k.l, of[0])
		if !found {
			return "none"
		}
		return fmt.Sprint("ok ", long)
	case "within", "same":
		if w, is, e = seek.Within(k.l, of[0], of[1], 60); m[0] == "same" {
			w, is, e = seek.Same(k.l, of[0], of[1], 60)
		}
		if e != api.OK {
			return e.Error()
		}
		if !is {
			return fmt.Sprint("no ", len(w))
		}
	case "drop":
		delete(k.have, m[1])
		return "ok"
	case "names":
		s := []string{"ok"}
		for n := range k.have {
			s = append(s, n)
		}
		sort.Strings(s[1:])
		return strings.Join(s, " ")
	}
	switch {
	case e != api.OK:
		return fmt.Sprint(e, " ", at)
	case is:
		return "yes"
	}
	return "no"
}
