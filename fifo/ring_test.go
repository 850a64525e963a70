package fifo

import (
	"testing"

	"betony/api"
)

// The section 'Ways' of the chapter: numbers stand in a ring that grows with them.
func TestRing(t *testing.T) {
	for _, room := range []int{1, 2, 3, 7, 8, 9, 64, 1000, api.MaxFifo} {
		q := New(room, -1)
		if len(q.ring) != 0 {
			t.Fatalf("room %d: %d places for no numbers", room, len(q.ring))
		}
		for n := 1; n <= room+1; n++ {
			v := n
			if n > room {
				v = -1
			}
			if !q.Put(v) {
				t.Fatalf("room %d: %d is lost", room, v)
			}
			if places := len(q.ring); places < n || places > max(least, 2*n) || places > room+1 {
				t.Fatalf("room %d: %d places for %d numbers", room, places, n)
			}
		}
	}
}

// Numbers that come and go make the ring no greater, but go round.
func TestRingGoesRound(t *testing.T) {
	q := New(api.MaxFifo, -1)
	for n := range 3 * least {
		q.Put(n)
	}
	places := len(q.ring)
	for n := range 10 * places {
		if v, ok := q.Take(); v != n || !ok {
			t.Fatalf("Take = %d, %v, want %d", v, ok, n)
		}
		q.Put(n + 3*least)
	}
	if len(q.ring) != places {
		t.Fatalf("%d places, want %d", len(q.ring), places)
	}
	if q.Clear(); len(q.ring) != 0 {
		t.Fatalf("%d places for no numbers", len(q.ring))
	}
}
