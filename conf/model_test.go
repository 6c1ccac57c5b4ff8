package conf_test

import (
	"regexp"
	"strconv"
	"strings"
	"testing"

	"waymark/api"
	"waymark/conf"
	"waymark/net"
	"waymark/prefix"
)

const (
	number = `(0|[1-9][0-9]{0,9})`
	hex    = `(?:[0-9a-f]{2})+`
	sys    = `[0-9a-f]{4}\.[0-9a-f]{4}\.[0-9a-f]{4}`
)

// forms are those of the lines, by the letters of their kinds; what they capture are numbers.
var forms = map[byte]*regexp.Regexp{
	'r': regexp.MustCompile(`^router ` + sys + ` ` + number + `$`),
	'a': regexp.MustCompile(`^area ` + hex + `$`),
	'h': regexp.MustCompile(`^host [a-z0-9.-]+$`),
	'o': regexp.MustCompile(`^overload$`),
	'l': regexp.MustCompile(`^link ` + number + ` ` + number + ` ` + number + ` (?:-1|` + number + `)$`),
	'w': regexp.MustCompile(`^own [^ ]+ ` + number + ` ` + number + `$`),
	'p': regexp.MustCompile(`^leak [^ ]+$`),
	'k': regexp.MustCompile(`^key ` + number + ` ` + hex + `$`),
	'c': regexp.MustCompile(`^cable ` + number + ` ` + number + ` ` + number + ` ` + number + `$`),
}

// order is that of the kinds.
var order = regexp.MustCompile(`^(ra*h?o?l*w*p*k*)*c*$`)

// kindOf answers the letter of a line's kind; 0: it is no line.
func kindOf(line string) byte {
	for kind, form := range forms {
		found := form.FindStringSubmatch(line)
		if found == nil {
			continue
		}
		for _, n := range found[1:] {
			if _, err := strconv.ParseUint(n, 10, 32); n != "" && err != nil {
				return 0
			}
		}
		if kind == 'w' || kind == 'p' {
			if _, e := prefix.Parse(strings.Split(line, " ")[1]); e != api.OK {
				return 0
			}
		}
		return kind
	}
	return 0
}

// firstWrong answers the number of the first line that can't stand there, by the chapter's words; 0: there is none.
func firstWrong(s string) int {
	var kinds []byte
	for i, line := range strings.SplitAfter(s, "\n") {
		if line == "" {
			break
		}
		kind := kindOf(strings.TrimSuffix(line, "\n"))
		kinds = append(kinds, kind)
		if kind == 0 || line[len(line)-1] != '\n' || !order.Match(kinds) {
			return i + 1
		}
	}
	return 0
}

// isReadByTheModel looks at whether Parse finds the first wrong line, and else answers what has that text, or an error.
func isReadByTheModel(t *testing.T, s string) {
	t.Helper()
	want := firstWrong(s)
	if want > 0 {
		noNet(t, s, want, api.ErrText)
		return
	}
	switch confs, cables, at, e := conf.Parse(s); e {
	case api.OK:
		writes(t, confs, cables, s)
		if _, e := net.New(confs, cables); e != api.OK || at != 0 {
			t.Errorf("Parse(%q) = %v, %v, %d, of which New says %d", s, confs, cables, at, e)
		}
	case api.ErrArg, api.ErrLong, api.ErrForm, api.ErrExists:
		noNet(t, s, 0, e)
	default:
		t.Errorf("Parse(%q) = %d, %d", s, at, e)
	}
}

func FuzzParse(f *testing.F) {
	_, _, s := rich()
	for _, text := range []string{"", s, one, two, "cable 0 0 0 1\n"} {
		f.Add(text)
	}
	f.Fuzz(func(t *testing.T, s string) {
		if len(s) <= api.MaxText {
			isReadByTheModel(t, s)
		}
	})
}
