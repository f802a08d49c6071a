package spans

import (
	"iter"

	"wagonpool/api"
)

// empty reports whether s contains no minute.
func empty(s api.Span) bool {
	return s.From >= s.To
}

// both returns the span of the minutes that are in s and in t.
func both(s, t api.Span) api.Span {
	return api.Span{From: max(s.From, t.From), To: min(s.To, t.To)}
}

// cut returns the parts of the spans of l that lie within 0 to MaxTime, without those that are empty. Differences of their ends cannot overflow.
func cut(l []api.Span) (parts []api.Span) {
	for _, s := range l {
		part := both(s, api.Span{From: 0, To: api.MaxTime})
		if !empty(part) {
			parts = append(parts, part)
		}
	}
	return parts
}

// common produces the common parts of two normal lists in their order. No two of them touch, because one of the lists has a gap behind each of them.
func common(a, b []api.Span) iter.Seq[api.Span] {
	return func(yield func(api.Span) bool) {
		for i, j := 0, 0; i < len(a) && j < len(b); {
			part := both(a[i], b[j])
			if !empty(part) && !yield(part) {
				return
			}
			// What ends first has nothing in common with what follows in the other list.
			if a[i].To < b[j].To {
				i++
			} else {
				j++
			}
		}
	}
}

// gaps returns the normal list of the minutes that are not in the normal list l.
func gaps(l []api.Span) (x []api.Span) {
	from := 0
	for _, s := range l {
		if from < s.From {
			x = append(x, api.Span{From: from, To: s.From})
		}
		from = s.To
	}
	if from < api.MaxTime {
		x = append(x, api.Span{From: from, To: api.MaxTime})
	}
	return x
}
