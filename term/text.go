package term

import (
	"strconv"
	"strings"

	"emend/api"
	"emend/quoted"
)

// Show is a list as a text.
func Show(l []api.Part) (string, api.Errno) {
	if !Well(l) {
		return "", api.ErrTree
	}
	var b strings.Builder
	var left []int // of each part that is open: how many kids are still to come
	for _, p := range l {
		if b.Len()+len(p.Word) > api.MaxShow {
			return "", api.ErrLong // and no mark is put around a word without end
		}
		if len(left) > 0 {
			b.WriteByte(' ')
			left[len(left)-1]--
		}
		b.WriteString("(" + strconv.Itoa(int(p.Kind)))
		if p.Word != "" {
			b.WriteString(" " + quoted.Quote(p.Word))
		}
		left = append(left, p.Kids)
		for len(left) > 0 && left[len(left)-1] == 0 {
			b.WriteByte(')')
			left = left[:len(left)-1]
		}
	}
	if b.Len() > api.MaxShow {
		return "", api.ErrLong
	}
	return b.String(), api.OK
}

// Read is the list that a text says.
func Read(s string) ([]api.Part, api.Errno) {
	if len(s) > api.MaxShow {
		return nil, api.ErrLong
	}
	at := 0
	next := func(piece string) bool { // goes over a piece, if it stands there
		ok := strings.HasPrefix(s[at:], piece)
		if ok {
			at += len(piece)
		}
		return ok
	}
	var l []api.Part
	var open []int // the parts of which kids may still come
	for again := true; again; again = len(open) > 0 {
		if len(open) > 0 {
			if !next(" ") {
				return nil, api.ErrForm
			}
			l[open[len(open)-1]].Kids++
		}
		p, size := head(s[at:])
		if size == 0 {
			return nil, api.ErrForm
		}
		at += size
		open = append(open, len(l))
		l = append(l, p)
		for len(open) > 0 && next(")") {
			open = open[:len(open)-1]
		}
	}
	if at != len(s) {
		return nil, api.ErrForm
	}
	return l, api.OK
}

// head is the part, without kids, that begins a text, and how many bytes of it
// that takes; 0, if none begins there.
func head(s string) (api.Part, int) {
	if !strings.HasPrefix(s, "(") {
		return api.Part{}, 0
	}
	to := 1
	for to < len(s) && '0' <= s[to] && s[to] <= '9' {
		to++
	}
	kind, err := strconv.ParseUint(s[1:to], 10, 8)
	if err != nil || s[1] == '0' && to > 2 {
		return api.Part{}, 0
	}
	p := api.Part{Kind: uint8(kind)}
	if !strings.HasPrefix(s[to:], ` "`) {
		return p, to
	}
	_, end, _ := quoted.Scan(s, to+1)
	if end == 0 {
		return api.Part{}, 0
	}
	p.Word, _ = quoted.Value(s[to+1 : end])
	if p.Word == "" || quoted.Quote(p.Word) != s[to+1:end] {
		return api.Part{}, 0
	}
	return p, end
}
