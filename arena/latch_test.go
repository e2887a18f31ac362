package arena

import (
	"math"
	"testing"

	"coppice/api"
)

// lastFree is the greatest even word. Nobody comes to it by calls within the bound of DOC.md, so it is laid in here.
const lastFree = math.MaxUint64 - 1

func atLastWord(t *testing.T) *Arena {
	t.Helper()
	a, err := New(1)
	if err != api.OK {
		t.Fatal(err)
	}
	a.taken[0].latch.word.Store(lastFree)
	for _, word := range []uint64{0, math.MaxUint64, lastFree - 2} {
		if is, err := a.Lock(1, word); is || err != api.OK {
			t.Fatalf("Lock with %d: %v, %d", word, is, err)
		}
	}
	if is, err := a.Lock(1, lastFree); !is || err != api.OK {
		t.Fatalf("Lock: %v, %d", is, err)
	}
	if word, _ := a.Word(1); word != math.MaxUint64 || len(a.Held()) != 1 {
		t.Fatalf("Word: %d; held %d", word, a.Held())
	}
	return a
}

// Unlock with true: behind 2^64 - 1 stands 0, and all goes on from there.
func TestWordGoesRound(t *testing.T) {
	a := atLastWord(t)
	if err := a.Unlock(1, true); err != api.OK {
		t.Fatalf("Unlock: %d", err)
	}
	if word, err := a.Word(1); word != 0 || err != api.OK || len(a.Held()) != 0 {
		t.Fatalf("Word: %d, %d; held %d", word, err, a.Held())
	}
	if err := a.Unlock(1, true); err != api.ErrArenaLatch {
		t.Errorf("Unlock of a free latch: %d", err)
	}
	if is, _ := a.Lock(1, math.MaxUint64); is {
		t.Error("Lock with the word that was")
	}
	if is, _ := a.Lock(1, 0); !is {
		t.Error("Lock with 0")
	}
}

// Unlock with false: one less.
func TestLastWordGivenBackUnchanged(t *testing.T) {
	a := atLastWord(t)
	if err := a.Unlock(1, false); err != api.OK {
		t.Fatalf("Unlock: %d", err)
	}
	if word, _ := a.Word(1); word != lastFree {
		t.Errorf("Word: %d", word)
	}
}
