package codec

import "wagonpool/api"

// failure is what a reader panics with: reading ends deep inside nested lists, and every error ends it.
type failure struct{ reason api.Errno }

// reader reads a value from left to right.
type reader struct {
	b       []byte
	at      int
	deepest int // the greatest number of lists that were open at once
}

// Decode returns the value whose encoding is b.
func Decode(b []byte) (v api.Value, e api.Errno) {
	defer func() {
		if f, ok := recover().(failure); ok {
			v, e = api.Value{}, f.reason
		}
	}()
	if len(b) > api.MaxValue {
		panic(failure{api.ErrLimit})
	}
	r := reader{b: b}
	v = r.value(r.next(), 0)
	if r.at < len(b) {
		panic(failure{api.ErrForm})
	}
	// The nesting is judged last: bytes that are no encoding have another error, however deep they are nested.
	if r.deepest > api.MaxNesting {
		panic(failure{api.ErrLimit})
	}
	return v, api.OK
}

func (r *reader) next() byte {
	if r.at == len(r.b) {
		panic(failure{api.ErrShort})
	}
	c := r.b[r.at]
	r.at++
	return c
}

// value reads the rest of a value after its first byte; open is the number of lists that contain it.
func (r *reader) value(mark byte, open int) api.Value {
	switch {
	case mark > belowMark && mark <= integerMark+maxWidth:
		return api.Value{Kind: api.IntV, N: r.integer(int(mark)-integerMark, 0)}
	case mark <= belowMark && mark >= belowMark-maxWidth:
		return api.Value{Kind: api.IntV, N: ^r.integer(belowMark-int(mark), 0xff)}
	case mark == bytesMark:
		return api.Value{Kind: api.BytesV, B: r.bytes()}
	case mark == listMark:
		return api.Value{Kind: api.ListV, L: r.list(open + 1)}
	}
	panic(failure{api.ErrForm})
}

// integer reads a number of k digits, each of them after an exclusive or with flip.
func (r *reader) integer(k int, flip byte) (n int) {
	for i := range k {
		c := r.next() ^ flip
		leadingZero := i == 0 && c == 0
		tooGreat := i == 0 && k == maxWidth && c > 0x7f
		if leadingZero || tooGreat {
			panic(failure{api.ErrForm})
		}
		n = n<<8 | int(c)
	}
	return n
}

func (r *reader) bytes() (s []byte) {
	for {
		c := r.next()
		if c == 0 {
			switch r.next() {
			case endMark:
				return s
			case escape:
			default:
				panic(failure{api.ErrForm})
			}
		}
		s = append(s, c)
	}
}

func (r *reader) list(open int) (l []api.Value) {
	r.deepest = max(r.deepest, open)
	for mark := r.next(); mark != endMark; mark = r.next() {
		l = append(l, r.value(mark, open))
	}
	return l
}
