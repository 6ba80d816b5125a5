package play

import (
	"strconv"
	"strings"

	"henhouse/api"
)

// mostNum is the greatest number that a line has.
const mostNum = 999999

// noBytes is what a line says of no bytes.
const noBytes = "-"

const hexDigits = "0123456789abcdef"

// What a line may have.
const (
	hasConn = 1 << iota
	hasNum
	hasBytes
)

// word is the first word of the line of that kind, and what else the line has; empty, if the kind is none.
func word(kind int) (string, int) {
	switch kind {
	case api.Open:
		return "open", 0
	case api.Send:
		return "send", hasConn | hasBytes
	case api.Half:
		return "half", hasConn
	case api.Pick:
		return "pick", hasConn
	case api.Tick:
		return "tick", hasNum
	case api.Take:
		return "take", hasConn | hasNum
	case api.Stop:
		return "stop", 0
	}
	return "", 0
}

// Show writes acts, a line each.
func Show(l []api.Act) (string, api.Errno) {
	var b strings.Builder
	for _, a := range l {
		if !may(a) {
			return "", api.ErrRange
		}
		writeLine(&b, a)
	}
	return b.String(), api.OK
}

// may tells whether a line can say all of a.
func may(a api.Act) bool {
	w, has := word(a.Kind)
	if w == "" || a.Conn < 0 || a.Conn > mostNum || a.N < 0 || a.N > mostNum {
		return false
	}
	return (has&hasConn != 0 || a.Conn == 0) && (has&hasNum != 0 || a.N == 0) && (has&hasBytes != 0 || a.Bytes == "")
}

func writeLine(b *strings.Builder, a api.Act) {
	w, has := word(a.Kind)
	b.WriteString(w)
	if has&hasConn != 0 {
		b.WriteString(" " + strconv.Itoa(a.Conn))
	}
	if has&hasNum != 0 {
		b.WriteString(" " + strconv.Itoa(a.N))
	}
	if has&hasBytes != 0 {
		b.WriteByte(' ')
		writeHex(b, a.Bytes)
	}
	b.WriteByte('\n')
}

func writeHex(b *strings.Builder, s string) {
	if s == "" {
		b.WriteString(noBytes)
	}
	for i := range len(s) {
		b.WriteByte(hexDigits[s[i]>>4])
		b.WriteByte(hexDigits[s[i]&15])
	}
}

// Parse is the acts that s writes; else the place of the first line that is none.
func Parse(s string) ([]api.Act, int, api.Errno) {
	var l []api.Act
	at := 0
	for line := range strings.Lines(s) {
		a, ok := parseLine(line)
		if !ok {
			return nil, at, api.ErrForm
		}
		l = append(l, a)
		at += len(line)
	}
	return l, 0, api.OK
}

// parseLine takes a line, with the byte 10 behind it.
func parseLine(line string) (api.Act, bool) {
	words := strings.Split(strings.TrimSuffix(line, "\n"), " ")
	a := api.Act{Kind: kindOf(words[0])}
	_, has := word(a.Kind)
	rest := words[1:]
	if has&hasConn != 0 && len(rest) > 0 {
		a.Conn, rest = number(rest[0]), rest[1:]
	}
	if has&hasNum != 0 && len(rest) > 0 {
		a.N, rest = number(rest[0]), rest[1:]
	}
	if has&hasBytes != 0 && len(rest) > 0 {
		a.Bytes = readHex(rest[0])
	}
	if !may(a) {
		return api.Act{}, false
	}
	// Whatever was passed over above (a word too many or too few, a 0 ahead, a digit that is none) shows here.
	var b strings.Builder
	writeLine(&b, a)
	return a, b.String() == line
}

// kindOf is 0 of what is no first word of a line.
func kindOf(first string) int {
	for kind := api.Open; kind <= api.Stop; kind++ {
		if w, _ := word(kind); w == first {
			return kind
		}
	}
	return 0
}

// number is -1, which no line has, of what is none.
func number(s string) int {
	n, e := strconv.Atoi(s)
	if e != nil {
		return -1
	}
	return n
}

// readHex reads what writeHex writes; of other texts something that is written otherwise.
func readHex(s string) string {
	b := make([]byte, 0, len(s)/2)
	for i := 0; i+1 < len(s); i += 2 {
		high, low := strings.IndexByte(hexDigits, s[i]), strings.IndexByte(hexDigits, s[i+1])
		if high < 0 || low < 0 {
			return ""
		}
		b = append(b, byte(high<<4|low))
	}
	return string(b)
}
