package farm

import (
	"slices"
	"strconv"
	"strings"

	"almanac/api"
	"almanac/sls"
)

const (
	mostDigits = 9
	hexDigits  = "0123456789abcdef"
	nothing    = "-" // a KEEP of none
)

// Parts of a line, behind its word.
const (
	pidPart  = 'p'
	atPart   = 'a'
	nPart    = 'n'
	protPart = 'r'
	hexPart  = 'h'
	keepPart = 'k'
	moveN    = 'N'
	moveA    = 'A'
	moveB    = 'B'
)

// line is a kind of move, and how it is said.
type line struct {
	word  string
	kind  int // of the move
	op    int // of its operation
	parts string
}

// lines tells all kinds.
func lines() []line {
	return []line{
		{"make", sls.Do, api.OMake, ""},
		{"map", sls.Do, api.OMap, "panr"},
		{"unmap", sls.Do, api.OUnmap, "pan"},
		{"protect", sls.Do, api.OProtect, "panr"},
		{"load", sls.Do, api.OLoad, "pan"},
		{"store", sls.Do, api.OStore, "pah"},
		{"fork", sls.Do, api.OFork, "p"},
		{"exit", sls.Do, api.OExit, "p"},
		{"list", sls.Do, api.OList, ""},
		{"begin", sls.Begin, 0, ""},
		{"step", sls.Step, 0, ""},
		{"commit", sls.Commit, 0, ""},
		{"evict", sls.Evict, 0, "N"},
		{"clean", sls.Clean, 0, "N"},
		{"arm", sls.Arm, 0, "Nk"},
		{"boot", sls.Boot, 0, "k"},
		{"burst", sls.Burst, 0, "ABN"},
		{"full", sls.Full, 0, ""},
	}
}

// field tells where a move has the number of a part.
func field(m *sls.Move, part rune) *int {
	switch part {
	case pidPart:
		return &m.Op.Pid
	case atPart:
		return &m.Op.At
	case nPart:
		return &m.Op.N
	case protPart:
		return &m.Op.Prot
	case moveA:
		return &m.A
	case moveB:
		return &m.B
	}
	return &m.N
}

// number reads a number as it is written, and no other way.
func number(s string) (int, bool) {
	if len(strings.TrimPrefix(s, "-")) > mostDigits {
		return 0, false
	}
	v, err := strconv.Atoi(s)
	return v, err == nil && strconv.Itoa(v) == s
}

func unhex(s string) ([]byte, bool) {
	var out []byte
	for ; len(s) >= 2; s = s[2:] {
		hi, lo := strings.IndexByte(hexDigits, s[0]), strings.IndexByte(hexDigits, s[1])
		if hi < 0 || lo < 0 {
			return nil, false
		}
		out = append(out, byte(hi<<4|lo))
	}
	return out, len(s) == 0 && len(out) > 0
}

func hex(b []byte) string {
	out := make([]byte, 0, 2*len(b))
	for _, x := range b {
		out = append(out, hexDigits[x>>4], hexDigits[x&15])
	}
	return string(out)
}

func unkeep(s string) ([]bool, bool) {
	if s == nothing {
		return nil, true
	}
	var out []bool
	for _, x := range []byte(s) {
		if x != '0' && x != '1' {
			return nil, false
		}
		out = append(out, x == '1')
	}
	return out, len(out) > 0
}

func keep(l []bool) string {
	if len(l) == 0 {
		return nothing
	}
	out := make([]byte, len(l))
	for i, x := range l {
		out[i] = '0'
		if x {
			out[i] = '1'
		}
	}
	return string(out)
}

// parseLine tells the move of a line.
func parseLine(s string) (sls.Move, bool) {
	words := strings.Split(s, " ")
	all := lines()
	i := slices.IndexFunc(all, func(x line) bool { return x.word == words[0] })
	if i < 0 || len(words) != 1+len(all[i].parts) {
		return sls.Move{}, false
	}
	m := sls.Move{Kind: all[i].kind, Op: api.Op{Kind: all[i].op}}
	for i, part := range all[i].parts {
		word, ok := words[i+1], false
		switch part {
		case hexPart:
			m.Op.Data, ok = unhex(word)
		case keepPart:
			m.Keep, ok = unkeep(word)
		default:
			*field(&m, part), ok = number(word)
		}
		if !ok {
			return sls.Move{}, false
		}
	}
	return m, true
}

func Parse(text string) ([]sls.Move, api.Errno) {
	var out []sls.Move
	for s := range strings.SplitSeq(text, "\n") {
		if s == "" {
			continue
		}
		m, ok := parseLine(s)
		if !ok {
			return nil, api.ErrForm
		}
		out = append(out, m)
	}
	if len(out) > api.MaxMoves {
		return nil, api.ErrLong
	}
	return out, api.OK
}

// say tells the line of a move, if there is one of which it is told again.
func say(m sls.Move) (string, bool) {
	all := lines()
	i := slices.IndexFunc(all, func(x line) bool { return x.kind == m.Kind && x.op == m.Op.Kind })
	if i < 0 {
		return "", false
	}
	words := []string{all[i].word}
	for _, part := range all[i].parts {
		switch part {
		case hexPart:
			words = append(words, hex(m.Op.Data))
		case keepPart:
			words = append(words, keep(m.Keep))
		default:
			words = append(words, strconv.Itoa(*field(&m, part)))
		}
	}
	s := strings.Join(words, " ")
	again, ok := parseLine(s)
	return s, ok && same(again, m)
}

// same tells whether two moves are alike in all fields.
func same(a, b sls.Move) bool {
	return a.Kind == b.Kind && a.A == b.A && a.B == b.B && a.N == b.N && slices.Equal(a.Keep, b.Keep) &&
		a.Op.Kind == b.Op.Kind && a.Op.Pid == b.Op.Pid && a.Op.At == b.Op.At && a.Op.N == b.Op.N &&
		a.Op.Prot == b.Op.Prot && slices.Equal(a.Op.Data, b.Op.Data)
}

func Text(moves ...sls.Move) string {
	var out strings.Builder
	for _, m := range moves {
		if s, ok := say(m); ok {
			out.WriteString(s)
			out.WriteByte('\n')
		}
	}
	return out.String()
}
