package bound

import (
	"slices"
	"strings"

	"bocage/api"
	"bocage/cut"
	"bocage/sat"
)

// reader goes through a text, part by part. Each of its steps takes one part, or tells that it is not there, and stays ahead of it.
type reader struct {
	text      string
	at        int  // where what is read next begins
	blanks    bool // whether such may stand ahead of a part
	round     bool // whether the opening one is (
	low, high api.Bound
	second    int // where the high bound's text begins
}

// Read is the span whose text is the beginning of s, and how many bytes that has. With an error: the place that is amiss.
func Read(s string) (api.Span, int, api.Errno) {
	r := reader{text: s}
	return r.read(r.opening, r.lowCut, r.comma, r.highCut, r.roundClosing)
}

// Loose is the span that a person has written at the beginning of s, and how many bytes that has. With an error: the place that is amiss.
func Loose(s string) (api.Span, int, api.Errno) {
	r := reader{text: s, blanks: true}
	return r.read(r.opening, r.lowNumber, r.comma, r.highNumber, r.closing)
}

// read takes all steps, and tells the span of the bounds that they have read.
func (r *reader) read(steps ...func() bool) (api.Span, int, api.Errno) {
	amiss := func(step func() bool) bool {
		r.skipBlanks()
		return !step()
	}
	if slices.ContainsFunc(steps, amiss) {
		return api.Span{}, r.at, api.ErrBoundForm
	}
	s, e := Span(r.low, r.high)
	if e != api.OK {
		return api.Span{}, r.second, e
	}
	return s, r.at, api.OK
}

// skipBlanks goes on to where the next part begins. No blank may stand ahead of the first one, which is at 0.
func (r *reader) skipBlanks() {
	if r.blanks && r.at > 0 {
		r.at = len(r.text) - len(strings.TrimLeft(r.rest(), " "))
	}
}

func (r *reader) rest() string { return r.text[r.at:] }

// take goes on behind part, if that is what stands here.
func (r *reader) take(part string) bool {
	if !strings.HasPrefix(r.rest(), part) {
		return false
	}
	r.at += len(part)
	return true
}

func (r *reader) opening() bool {
	r.round = r.take("(")
	return r.round || r.take("[")
}

func (r *reader) comma() bool { return r.take(",") }

func (r *reader) roundClosing() bool { return r.take(")") }

// closing tells the high bound's kind, unless that is None: it stands behind its text.
func (r *reader) closing() bool {
	round := r.take(")")
	if r.high.Kind != api.None {
		r.high.Kind = kindBeside(round)
	}
	return round || r.take("]")
}

func kindBeside(round bool) int {
	if round {
		return api.Open
	}
	return api.Closed
}

// lowCut takes -inf behind (, and a number's cut behind [.
func (r *reader) lowCut() bool {
	c, long := cut.Read(r.rest())
	if long == 0 || c == cut.Last() || r.round != (c == cut.First()) {
		return false
	}
	r.low = Low(c)
	r.at += long
	return true
}

// highCut takes a number's cut, or +inf.
func (r *reader) highCut() bool {
	r.second = r.at
	c, long := cut.Read(r.rest())
	if long == 0 || c == cut.First() {
		return false
	}
	r.high = High(c)
	r.at += long
	return true
}

// lowNumber takes -inf or a number, whichever the opening one is.
func (r *reader) lowNumber() bool {
	if r.take(cut.Text(cut.First())) {
		r.low = api.Bound{Kind: api.None}
		return true
	}
	n, is := r.number()
	r.low = api.Bound{Kind: kindBeside(r.round), At: n}
	return is
}

// highNumber takes a number or +inf. Of what kind the number's bound is closing tells.
func (r *reader) highNumber() bool {
	r.second = r.at
	if r.take(cut.Text(cut.Last())) {
		r.high = api.Bound{Kind: api.None}
		return true
	}
	n, is := r.number()
	r.high = api.Bound{Kind: api.Closed, At: n}
	return is
}

// number takes the longest beginning of what is left that is a number's text.
func (r *reader) number() (int64, bool) {
	n, long := sat.Read(r.rest())
	r.at += long
	return n, long > 0
}
