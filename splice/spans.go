package splice

import (
	"bocage/api"
	"bocage/ordmap"
	"bocage/span"
)

// Sound tells whether the spans of the map's segments are right, and do not overlap.
func Sound(m *ordmap.Map) bool { return sound(m.List()) }

// Over is the segments that have a number of s, by rising keys; none of a map that is not sound.
func Over(m *ordmap.Map, s api.Span) []api.Seg {
	return fitting(m, func(x api.Span) bool { return span.Overlap(x, s) })
}

// Beside is the segments that have a number of s, or touch it, by rising keys; none of a map that is not sound.
func Beside(m *ordmap.Map, s api.Span) []api.Seg {
	return fitting(m, func(x api.Span) bool { return span.Overlap(x, s) || span.Touch(x, s) })
}

// At is the segment that has n; false, if there is none, or if the map is not sound.
func At(m *ordmap.Map, n int64) (api.Seg, bool) {
	l := Over(m, span.Point(n))
	if len(l) == 0 {
		return api.Seg{}, false
	}
	return l[0], true // no two spans of a sound map have one number
}

// fitting is the segments whose spans fit, by rising keys; none of a map that is not sound.
func fitting(m *ordmap.Map, fits func(x api.Span) bool) []api.Seg {
	all := m.List()
	if !sound(all) {
		return nil
	}
	var l []api.Seg
	for _, s := range all {
		if fits(s.Span) {
			l = append(l, s)
		}
	}
	return withoutSpare(l)
}

// sound tells whether the spans of l, in that order, are those of a sound map.
func sound(l []api.Seg) bool {
	spans := make([]api.Span, 0, len(l))
	for _, s := range l {
		spans = append(spans, s.Span)
	}
	return span.Sorted(spans)
}
