package iset

import (
	"slices"

	"bocage/api"
	"bocage/span"
)

// change tells what becomes of parts, rising, by x, which is right.
type change func(parts []api.Span, x api.Span) []api.Span

// adding is what becomes of parts when a number of x is to be there: it has a change for each style, and for nothing else.
func adding() map[int]change {
	return map[int]change{
		api.Joining:    joined,
		api.Separating: separated,
		api.Splitting:  split,
	}
}

// flipping is what becomes of parts when just those numbers of x are to be there that were not, by style.
func flipping() map[int]change {
	return map[int]change{
		api.Joining: func(parts []api.Span, x api.Span) []api.Span {
			return span.List(flipped(parts, x))
		},
		api.Separating: flipped,
		api.Splitting:  flipped,
	}
}

// joined is as few parts as can be.
func joined(parts []api.Span, x api.Span) []api.Span {
	return span.List(slices.Concat(parts, []api.Span{x}))
}

// separated makes one part of x and of those that overlap it: those that touch it stay.
func separated(parts []api.Span, x api.Span) []api.Span {
	hull := x
	others := pieces(parts, func(part api.Span) []api.Span {
		if span.Overlap(part, x) {
			hull = span.Hull(hull, part)
			return nil
		}
		return []api.Span{part}
	})
	return sorted(others, []api.Span{hull})
}

// split cuts the parts where x begins and ends, and lays what is in no part between them.
func split(parts []api.Span, x api.Span) []api.Span {
	within := pieces(parts, func(part api.Span) []api.Span {
		if both, is := span.Meet(part, x); is {
			return []api.Span{both}
		}
		return nil
	})
	return sorted(without(parts, x), within, holes(parts, x))
}

// flipped is what is left of the parts without x, and x without the parts.
func flipped(parts []api.Span, x api.Span) []api.Span {
	return sorted(without(parts, x), holes(parts, x))
}

// without is what is left of the parts without x.
func without(parts []api.Span, x api.Span) []api.Span {
	return pieces(parts, func(part api.Span) []api.Span { return span.Minus(part, x) })
}

// holes is the largest spans of x that are in no part.
func holes(parts []api.Span, x api.Span) []api.Span {
	var row []api.Span
	from := x.Low
	put := func(till api.Cut) {
		if hole, e := span.Of(from, till); e == api.OK {
			row = append(row, hole)
		}
	}
	for _, part := range parts {
		if span.Overlap(part, x) {
			put(part.Low)
			from = part.High
		}
	}
	put(x.High)
	return row
}

// pieces is what of tells of each part, one behind the other.
func pieces(parts []api.Span, of func(part api.Span) []api.Span) []api.Span {
	var row []api.Span
	for _, part := range parts {
		row = append(row, of(part)...)
	}
	return row
}

// sorted is all of these rows, which do not overlap, rising.
func sorted(rows ...[]api.Span) []api.Span {
	all := slices.Concat(rows...)
	slices.SortFunc(all, span.Compare)
	return all
}

// apart tells whether no two of l, which is sorted, touch.
func apart(l []api.Span) bool {
	for i, part := range l {
		if i > 0 && l[i-1].High == part.Low {
			return false
		}
	}
	return true
}
