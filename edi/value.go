package edi

import "wagonpool/api"

// integer returns a number as a value.
func integer(n int) api.Value {
	return api.Value{Kind: api.IntV, N: n}
}

// integers returns the list of some numbers as a value.
func integers(l ...int) api.Value {
	v := api.Value{Kind: api.ListV}
	for _, n := range l {
		v.L = append(v.L, integer(n))
	}
	return v
}

// A reader stores what a value stands for, and reports whether the value has the shape that the reader expects.
type reader func(v api.Value) bool

// integerInto returns a reader of integers.
func integerInto(n *int) reader {
	return func(v api.Value) bool {
		*n = v.N
		return v.Kind == api.IntV && len(v.B) == 0 && len(v.L) == 0
	}
}

// textInto returns a reader of byte strings.
func textInto(s *string) reader {
	return func(v api.Value) bool {
		*s = string(v.B)
		return v.Kind == api.BytesV && v.N == 0 && len(v.L) == 0
	}
}

// listInto returns a reader of lists whose elements are read by some readers, one after the other.
func listInto(elements ...reader) reader {
	return func(v api.Value) bool {
		if !isList(v) || len(v.L) != len(elements) {
			return false
		}
		for i, element := range elements {
			if !element(v.L[i]) {
				return false
			}
		}
		return true
	}
}

// partsInto returns a reader of lists of components.
func partsInto(l *[]api.Part) reader {
	return func(v api.Value) bool {
		for _, x := range v.L {
			var p api.Part
			var bit int
			if !listInto(integerInto(&p.Kind), integerInto(&p.Serial), integerInto(&bit))(x) || !between(0, bit, 1) {
				return false
			}
			p.Fitted = bit == 1
			*l = append(*l, p)
		}
		return isList(v)
	}
}

// isList reports whether v is a list; its elements may be any.
func isList(v api.Value) bool {
	return v.Kind == api.ListV && v.N == 0 && len(v.B) == 0
}
