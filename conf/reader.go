package conf

import (
	"math"
	"strconv"
	"strings"

	"waymark/api"
	"waymark/net"
	"waymark/octet"
	"waymark/prefix"
)

// fault is what the reader gives up with: the number of a line that can't stand where it stands.
type fault struct {
	line int
}

// reader reads a net, line by line.
type reader struct {
	confs     []api.Config
	cables    []net.Cable
	line      int      // the number of the one that is read, from 1
	words     []string // those of it that are still to be read
	last      kind     // what the line ahead of it tells
	isOutside bool     // a number was greater than what can be kept of it
}

// read reads all lines; it gives up by a panic with a fault.
func (r *reader) read(s string) {
	for s != "" {
		line, rest, ended := strings.Cut(s, lineEnd)
		r.line++
		if !ended {
			r.giveUp()
		}
		r.words = strings.Split(line, blank)
		r.readLine()
		if len(r.words) > 0 {
			r.giveUp()
		}
		s = rest
	}
}

// giveUp ends the reading: the line that is read can't stand where it stands.
func (r *reader) giveUp() {
	panic(fault{r.line})
}

// readLine reads the words of a line, as many as it must have.
func (r *reader) readLine() {
	k := kindOf(r.word())
	if !k.standsBehind(r.last) {
		r.giveUp()
	}
	r.last = k
	switch k {
	case routerLine:
		r.confs = append(r.confs, api.Config{Sys: r.name(), Level: int(r.number())})
	case cableLine:
		r.cables = append(r.cables, net.Cable{A: int(r.number()), CA: int(r.number()), B: int(r.number()), CB: int(r.number())})
	default:
		r.readPart(k, &r.confs[len(r.confs)-1])
	}
}

// kindOf answers the kind of the lines that begin with that word.
func kindOf(word string) kind {
	for k, name := range names {
		if name == word && kind(k) != noLine {
			return kind(k)
		}
	}
	return noLine
}

// standsBehind tells whether a line of the kind k can stand behind one of the kind last, or at the beginning.
func (k kind) standsBehind(last kind) bool {
	switch k {
	case noLine:
		return false
	case routerLine:
		return last < cableLine
	case cableLine:
		return true
	case hostLine, overloadLine: // of which a router has one
		return last >= routerLine && last < k
	}
	return last >= routerLine && last <= k
}

// readPart reads what a line of the kind k tells of a router.
func (r *reader) readPart(k kind, c *api.Config) {
	switch k {
	case areaLine:
		c.Areas = append(c.Areas, r.hex())
	case hostLine:
		c.Host = r.host()
	case overloadLine:
		c.Overload = true
	case linkLine:
		c.Links = append(c.Links, api.Link{Level: int(r.number()), Metric: [2]uint32{r.number(), r.number()}, Mesh: r.mesh()})
	case ownLine:
		c.Owns = append(c.Owns, api.Own{Prefix: r.prefix(), Metric: r.number(), Level: int(r.number())})
	case leakLine:
		c.Leak = append(c.Leak, r.prefix())
	case keyLine:
		c.Keys = append(c.Keys, api.Key{ID: r.keyID(), Secret: r.hex()})
	}
}

// word answers the next word.
func (r *reader) word() string {
	if len(r.words) == 0 {
		r.giveUp()
	}
	word := r.words[0]
	r.words = r.words[1:]
	return word
}

// number reads a number, which may be greater than what may stand there.
func (r *reader) number() uint32 {
	return r.numberOf(r.word())
}

// numberOf answers the number of which word is the text.
func (r *reader) numberOf(word string) uint32 {
	n, err := strconv.ParseUint(word, 10, 32)
	// A number with noughts in front is read, too, but has another text.
	if err != nil || strconv.FormatUint(n, 10) != word {
		r.giveUp()
	}
	return uint32(n)
}

// mesh reads a mesh group.
func (r *reader) mesh() int {
	word := r.word()
	if word == "-1" {
		return -1
	}
	return int(r.numberOf(word))
}

// keyID reads the number of a key. One that has no room there may stand in the text all the same.
func (r *reader) keyID() uint16 {
	n := r.number()
	if n > math.MaxUint16 {
		r.isOutside = true
	}
	return uint16(n)
}

// hex reads bytes of two digits each.
func (r *reader) hex() []byte {
	word := r.word()
	if word == "" || len(word)%2 > 0 {
		r.giveUp()
	}
	var p []byte
	for i := 0; i < len(word); i += 2 {
		p = append(p, r.digit(word[i])<<4|r.digit(word[i+1]))
	}
	return p
}

// digit answers what a digit to the base 16 counts.
func (r *reader) digit(b byte) byte {
	n := strings.IndexByte(hexDigits, b)
	if n < 0 {
		r.giveUp()
	}
	return byte(n)
}

// host reads the text of a host.
func (r *reader) host() string {
	word := r.word()
	if !isHost(word) {
		r.giveUp()
	}
	return strings.Clone(word) // lest the whole text be held with it
}

// name reads a router's name.
func (r *reader) name() api.SysID {
	id, _, e := octet.Parse(r.word())
	if e != api.OK {
		r.giveUp()
	}
	return id
}

// prefix reads a prefix.
func (r *reader) prefix() api.Prefix {
	p, e := prefix.Parse(r.word())
	if e != api.OK {
		r.giveUp()
	}
	return p
}

// check answers the least error that keeps what was read from being a net.
func (r *reader) check() api.Errno {
	if r.isOutside {
		return api.ErrArg // the least one that there is
	}
	_, e := net.New(r.confs, r.cables)
	return e
}
