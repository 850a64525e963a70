// Package share is layer 1: numbers with a point, as weights by which cells are parted (shared/doc/01-share.md).
package share

import (
	"math"
	"slices"

	"betony/api"
)

// Order tells where a stands to b: -1 ahead of it, 0 the same, 1 behind it.
func Order(a, b float64) int {
	switch {
	case math.IsNaN(a) || math.IsNaN(b):
		return after(math.IsNaN(a), math.IsNaN(b))
	case a < b:
		return -1
	case a > b:
		return 1
	}
	// The two zeros are equal to the language, but -0 stands ahead of 0.
	return after(!math.Signbit(a), !math.Signbit(b))
}

// after orders two by a trait that puts whoever has it behind.
func after(a, b bool) int {
	switch {
	case a == b:
		return 0
	case a:
		return 1
	}
	return -1
}

// Same tells whether a and b have the same place in the order.
func Same(a, b float64) bool { return Order(a, b) == 0 }

// Count tells what a weight counts.
func Count(w float64) float64 {
	if math.IsNaN(w) || w <= 0 {
		return 0
	}
	return w
}

// Together tells what each of 1 to MaxParts weights counts beside the others.
func Together(w []float64) []float64 {
	if len(w) == 0 || len(w) > api.MaxParts {
		return nil
	}
	counts := each(w, Count)
	greatest := slices.Max(counts)
	switch {
	case math.IsInf(greatest, 1):
		return each(counts, func(c float64) float64 {
			if math.IsInf(c, 1) {
				return 1
			}
			return 0
		})
	case greatest == 0:
		return each(counts, func(float64) float64 { return 1 })
	}
	// Divided by the greatest, so that no sum of them runs over.
	return each(counts, func(c float64) float64 { return c / greatest })
}

// each is a new list of what f makes of the numbers of l.
func each(l []float64, f func(float64) float64) []float64 {
	out := make([]float64, len(l))
	for i, x := range l {
		out[i] = f(x)
	}
	return out
}

// Shares parts n cells (0 to MaxCells) by 1 to MaxParts weights.
func Shares(n int, w []float64) []int {
	if n < 0 || n > api.MaxCells {
		return nil
	}
	counts := Together(w)
	if len(counts) == 0 {
		return nil
	}
	quotas := parted(n, counts)
	out, left := wholes(n, quotas)
	turns := byRest(quotas)
	for i := range left {
		out[turns[i%len(turns)]]++
	}
	return out
}

// parted is n, parted with a point as the counts tell: the quotas.
func parted(n int, counts []float64) []float64 {
	sum := 0.0
	for _, c := range counts {
		sum += c
	}
	return each(counts, func(c float64) float64 { return float64(n) * c / sum })
}

// wholes are the whole parts of the quotas, as far as n goes, and what is left of n.
func wholes(n int, quotas []float64) (out []int, left int) {
	out, left = make([]int, len(quotas)), n
	for i, q := range quotas {
		out[i] = min(int(math.Floor(q)), left)
		left -= out[i]
	}
	return out, left
}

// byRest are the places of the quotas in the order in which they get one cell more: who is the most above its whole part first, of like ones the first.
func byRest(quotas []float64) []int {
	rests := each(quotas, func(q float64) float64 { return q - math.Floor(q) })
	turns := make([]int, len(quotas))
	for i := range turns {
		turns[i] = i
	}
	slices.SortStableFunc(turns, func(a, b int) int { return Order(rests[b], rests[a]) })
	return turns
}
