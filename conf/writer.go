package conf

import (
	"strconv"
	"strings"

	"waymark/api"
	"waymark/octet"
	"waymark/prefix"
)

// writer is told a net, line by line.
type writer struct {
	strings.Builder
}

// router tells all lines of a router.
func (w *writer) router(c api.Config) {
	w.line(routerLine, c.Sys, c.Level)
	for _, area := range c.Areas {
		w.line(areaLine, area)
	}
	if c.Host != "" {
		w.line(hostLine, c.Host)
	}
	if c.Overload {
		w.line(overloadLine)
	}
	for _, l := range c.Links {
		w.line(linkLine, l.Level, l.Metric[0], l.Metric[1], l.Mesh)
	}
	for _, o := range c.Owns {
		w.line(ownLine, o.Prefix, o.Metric, o.Level)
	}
	for _, p := range c.Leak {
		w.line(leakLine, p)
	}
	for _, k := range c.Keys {
		w.line(keyLine, k.ID, k.Secret)
	}
}

// line tells a line of these words, each as its text.
func (w *writer) line(words ...any) {
	for i, word := range words {
		if i > 0 {
			w.WriteString(blank)
		}
		switch is := word.(type) {
		case kind:
			w.WriteString(names[is])
		case string:
			w.WriteString(is)
		case int:
			w.WriteString(strconv.Itoa(is))
		case uint16:
			w.number(uint64(is))
		case uint32:
			w.number(uint64(is))
		case []byte:
			w.hex(is)
		case api.SysID:
			w.WriteString(octet.Write(is))
		case api.Prefix:
			text, _ := prefix.Write(is) // it was asked about ahead of this
			w.WriteString(text)
		}
	}
	w.WriteString(lineEnd)
}

// number tells a number.
func (w *writer) number(n uint64) {
	w.WriteString(strconv.FormatUint(n, 10))
}

// hex tells bytes by two digits each.
func (w *writer) hex(p []byte) {
	for _, b := range p {
		w.WriteByte(hexDigits[b>>4])
		w.WriteByte(hexDigits[b&15])
	}
}
