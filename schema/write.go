package schema

import (
	"strings"

	"canopy/api"
)

// often are the signs of how often a model may be: those of MStar, MPlus, MOpt.
const often = "*+?"

// Ranks of models: one stands bare in those of higher rank alone.
const (
	atom = iota
	rep
	seq
	or
	whole // of what stands in no model
)

// rank is that of a kind of models.
func rank(kind int) int {
	switch kind {
	case api.MStar, api.MPlus, api.MOpt:
		return rep
	case api.MSeq:
		return seq
	case api.MOr:
		return or
	}
	return atom
}

// write adds m, which stands in one of rank in.
func write(b *strings.Builder, m api.Model, in int) {
	if rank(m.Kind) < in {
		bare(b, m)
		return
	}
	b.WriteByte('(')
	bare(b, m)
	b.WriteByte(')')
}

// bare adds m without parentheses.
func bare(b *strings.Builder, m api.Model) {
	switch m.Kind {
	case api.MVoid:
		b.WriteString(wordEmpty)
	case api.MAny:
		b.WriteString(wordAny)
	case api.MText:
		b.WriteString(wordText)
	case api.MName:
		b.WriteString(m.Name)
	case api.MSeq:
		parts(b, m, ", ")
	case api.MOr:
		parts(b, m, " | ")
	case api.MStar, api.MPlus, api.MOpt:
		parts(b, m, "")
		b.WriteByte(often[m.Kind-api.MStar])
	}
}

// parts adds those of m, with what stands between.
func parts(b *strings.Builder, m api.Model, between string) {
	for i, part := range m.L {
		if i > 0 {
			b.WriteString(between)
		}
		write(b, part, rank(m.Kind))
	}
}
