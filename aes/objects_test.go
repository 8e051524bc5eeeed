package aes_test

import (
	"sync"
	"testing"

	"binnacle/aes"
)

// P5.1, P5.2, R7: nil tables and a nil key answer nothing.
func TestNil(t *testing.T) {
	var x *aes.Tables
	var k *aes.Key
	for n := range 256 {
		if x.Box(byte(n)) != 0 {
			t.Errorf("Box(%#x) of nil tables answers something", n)
		}
		if x.Key(every(byte(n))) != nil || x.Key(some(n)) != nil {
			t.Error("nil tables make a key")
		}
		if k.Turn(every(byte(n))) != (aes.Block{}) || k.Turn(some(n)) != (aes.Block{}) {
			t.Error("a nil key encrypts")
		}
		if x.Key(some(n)).Turn(some(n)) != (aes.Block{}) {
			t.Error("the key of nil tables encrypts")
		}
		if x.Turned() != 0 {
			t.Error("nil tables have encrypted something")
		}
	}
}

// P5.2, R7: what a nil key does not encrypt is not counted.
func TestNilNotCounted(t *testing.T) {
	x := aes.New()
	var k *aes.Key
	k.Turn(some(1))
	x.Key(some(1)).Turn(some(1))
	k.Turn(some(1))
	expectTurned(t, x, 1)
}

// P1: tables and a key that nobody made do not panic.
func TestUnmade(t *testing.T) {
	var x aes.Tables
	x.Turned()
	x.Box(7)
	x.Key(some(1)).Turn(some(2))
	x.Turned()
	var k aes.Key
	k.Turn(some(1))
}

// P5.2, R6: neither a key nor a block that was passed in is changed, and none is kept.
func TestArgumentsKept(t *testing.T) {
	x := aes.New()
	for n := range 100 {
		k, b := some(n), some(n+1)
		key := x.Key(k)
		first := key.Turn(b)
		expectBlock(t, "the key", k, some(n))
		expectBlock(t, "the block", b, some(n+1))
		k = every(0xff)
		b[0]++
		expectBlock(t, "another block", key.Turn(b), turned(t, some(n), b))
		b = first
		b[15]++
		expectBlock(t, "the first block", key.Turn(some(n+1)), first)
	}
}

// P5.2, R6: each key is a new one, also of the same bytes, and so are tables.
func TestResultsNew(t *testing.T) {
	x := aes.New()
	if x == aes.New() {
		t.Error("New returns the same tables twice")
	}
	one, two := x.Key(some(1)), x.Key(some(1))
	if one == nil || one == two {
		t.Error("Key returns none, or the same key twice")
	}
	three := x.Key(some(2))
	expectBlock(t, "Turn of one key, when another is made", one.Turn(some(3)), turned(t, some(1), some(3)))
	expectBlock(t, "Turn of another", three.Turn(some(3)), turned(t, some(2), some(3)))
}

// P5.1, P5.2, R8: keys of the same tables are used again and again and in turn, and which tables they are of does not matter.
func TestAgainAndAgain(t *testing.T) {
	x, other := aes.New(), aes.New()
	var keys, others []*aes.Key
	for n := range 20 {
		keys = append(keys, x.Key(some(n)))
	}
	for n := 19; n >= 0; n-- {
		others = append(others, other.Key(some(n)))
	}
	for range 3 {
		for n := range 20 {
			for m := range 20 {
				want := turned(t, some(n), some(m+50))
				expectBlock(t, "Turn", keys[n].Turn(some(m+50)), want)
				expectBlock(t, "Turn by other tables", others[19-n].Turn(some(m+50)), want)
				expectBlock(t, "Turn by a new key", x.Key(some(n)).Turn(some(m+50)), want)
			}
			if x.Box(byte(n)) != other.Box(byte(n)) || x.Box(byte(n)) != aes.New().Box(byte(n)) {
				t.Errorf("Box(%#x) hangs on the tables", n)
			}
		}
	}
	expectTurned(t, x, 2400)
	expectTurned(t, other, 1200)
}

// P5.1, R8: Box answers the same whether it is asked before or after a key is made.
func TestOrder(t *testing.T) {
	one, two := aes.New(), aes.New()
	b := one.Box(0x53)
	expectBlock(t, "Turn after Box", one.Key(some(1)).Turn(some(2)), turned(t, some(1), some(2)))
	expectBlock(t, "Turn before Box", two.Key(some(1)).Turn(some(2)), turned(t, some(1), some(2)))
	if b != 0xed || two.Box(0x53) != 0xed || one.Box(0x53) != 0xed {
		t.Error("Box hangs on what was asked before")
	}
}

// P5.1, P5.2: many may use the same new tables, and the same keys, at once; Turned counts the blocks of all.
func TestAtOnce(t *testing.T) {
	for range 20 {
		x := aes.New()
		var wait sync.WaitGroup
		for n := range 16 {
			wait.Go(func() {
				if n%4 == 0 && x.Box(0x53) != 0xed {
					t.Error("Box(0x53) is wrong")
				}
				k := x.Key(some(n))
				for m := range 50 {
					expectBlock(t, "Turn", k.Turn(some(m)), turned(t, some(n), some(m)))
				}
			})
		}
		wait.Wait()
		expectTurned(t, x, 16*50)
	}
}

// P5.2: no block is lost in the count where several are encrypted with one key, and with keys of the same tables, at once.
func TestTurnedAtOnce(t *testing.T) {
	x := aes.New()
	shared := x.Key(some(1))
	var wait sync.WaitGroup
	for n := range 8 {
		wait.Go(func() {
			own := x.Key(some(n))
			before := int64(0)
			for m := range 2000 {
				shared.Turn(some(m))
				own.Turn(some(m))
				now := x.Turned()
				if now < before+2 {
					t.Errorf("Turned = %d after %d and two blocks more", now, before)
				}
				before = now
			}
		})
	}
	wait.Wait()
	expectTurned(t, x, 8*2*2000)
}
