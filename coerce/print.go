package coerce

import (
	"strconv"
	"strings"

	"savant/api"
	"savant/types"
)

// Print is c's text.
func (c Co) Print() string {
	var b strings.Builder
	c.write(&b)
	return b.String()
}

func (c Co) write(b *strings.Builder) {
	switch c.Kind {
	case api.CoVar:
		b.WriteString(c.Name)
	case api.CoRefl:
		writeType(b, c.T)
	default:
		c.writeForm(b)
	}
}

func (c Co) writeForm(b *strings.Builder) {
	f, _ := formOf(func(f form) bool { return f.kind == c.Kind })
	b.WriteByte('(')
	b.WriteString(f.word)
	if f.name != 0 {
		b.WriteByte(' ')
		b.WriteString(c.Name)
	}
	if f.hasNumber {
		b.WriteByte(' ')
		b.WriteString(strconv.Itoa(c.N))
	}
	for _, k := range c.Kids {
		b.WriteByte(' ')
		k.write(b)
	}
	if f.hasType {
		b.WriteByte(' ')
		writeType(b, c.T)
	}
	b.WriteByte(')')
}

func writeType(b *strings.Builder, t types.Type) {
	b.WriteByte('<')
	b.WriteString(t.Print())
	b.WriteByte('>')
}
