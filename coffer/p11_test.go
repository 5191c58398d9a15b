package coffer_test

import (
	"fmt"
	"math/rand"
	"strings"
	"testing"

	"coffer/api"
	"coffer/coffer"
)

// someHistory makes Backups and Prunes of a new Vault, and has what was told at first and behind each of them.
func someHistory(r *rand.Rand, calls int) []told {
	v := coffer.New()
	states := []told{allTold(v)}
	for range calls {
		chain := r.Intn(api.MaxChains)
		first, last, _ := v.Versions(chain)
		s, _ := v.Restore(chain, last)
		if last > 0 && r.Intn(4) == 0 {
			v.Prune(chain, first+r.Intn(last-first+1))
		} else if r.Intn(3) == 0 {
			v.Backup(chain, someText(r, r.Intn(150), 20))
		} else {
			v.Backup(chain, someEdit(r, s, 20))
		}
		states = append(states, allTold(v))
	}
	return states
}

// checkState opens a log, which must make what was told.
func checkState(t *testing.T, name, log string, want told) {
	t.Helper()
	v, e, n := coffer.Open(log)
	if v == nil || e != api.OK || n != len(want.log) {
		t.Fatalf("P11: %s: Open = %t, %d, %d, want %d", name, v != nil, e, n, len(want.log))
	}
	if allTold(v) != want {
		t.Fatalf("P11: %s: another Vault is opened", name)
	}
}

func TestP11CutOffAtEachPlace(t *testing.T) {
	r := rand.New(rand.NewSource(11))
	for range 10 {
		states := someHistory(r, 25)
		log := states[len(states)-1].log
		behind := 0
		for n := range len(log) + 1 {
			for behind+1 < len(states) && len(states[behind+1].log) <= n {
				behind++
			}
			checkState(t, fmt.Sprintf("cut off at %d", n), log[:n], states[behind])
		}
	}
}

func TestP11AFullLogCutOff(t *testing.T) {
	v := coffer.New()
	states := []told{allTold(v)}
	for i := 0; ; i++ {
		if _, e := v.Backup(i%3, strings.Repeat(string(rune('a'+i)), 900)); e != api.OK {
			break
		}
		states = append(states, allTold(v))
	}
	log := v.Log()
	for i, state := range states[:len(states)-1] {
		start, end := len(state.log), len(states[i+1].log)
		for _, n := range []int{start, start + 1, start + 2, (start + end) / 2, end - 5, end - 4, end - 1} {
			checkState(t, fmt.Sprintf("cut off at %d", n), log[:n], state)
		}
	}
}

// lengthSize is how many bytes the number at the front of a record has.
func lengthSize(record string) int {
	_, rest, _, _ := plainNumber(record)
	return len(record) - len(rest)
}

// otherByte is the text with another byte at that place.
func otherByte(s string, at int, by byte) string {
	return s[:at] + string([]byte{s[at] ^ by}) + s[at+1:]
}

func TestP11EachOtherByte(t *testing.T) {
	v := coffer.New()
	states := []told{allTold(v)}
	for _, call := range []func(){
		func() { v.Backup(0, "a text of bytes") },
		func() { v.Backup(0, "a text of bytes, and more") },
		func() { v.Backup(1, "") },
		func() { v.Prune(0, 2) },
		func() { v.Backup(1, "the last") },
	} {
		call()
		states = append(states, allTold(v))
	}
	log := v.Log()
	for i, state := range states[:len(states)-1] {
		start, end := len(state.log), len(states[i+1].log)
		for at := start + lengthSize(log[start:]); at < end; at++ {
			for by := 1; by < 256; by++ {
				checkState(t, fmt.Sprintf("with another byte at %d, by %x", at, by), otherByte(log, at, byte(by)), state)
			}
		}
	}
}

func TestP11OneOtherByteOfManyLogs(t *testing.T) {
	r := rand.New(rand.NewSource(111))
	for range 10 {
		states := someHistory(r, 25)
		log := states[len(states)-1].log
		for i, state := range states[:len(states)-1] {
			start, end := len(state.log), len(states[i+1].log)
			for at := start + lengthSize(log[start:]); at < end; at++ {
				by := byte(1 + r.Intn(255))
				checkState(t, fmt.Sprintf("with another byte at %d, by %x", at, by), otherByte(log, at, by), state)
			}
		}
	}
}

func TestP11AnotherLengthLeavesWhatStandsAhead(t *testing.T) {
	states := someHistory(rand.New(rand.NewSource(1111)), 25)
	log := states[len(states)-1].log
	for _, state := range states[:len(states)-1] {
		start := len(state.log)
		for at := start; at < start+lengthSize(log[start:]); at++ {
			for by := 1; by < 256; by++ {
				v, e, n := coffer.Open(otherByte(log, at, byte(by)))
				if v == nil || e != api.OK || n < start {
					t.Fatalf("P9: with another length at %d: Open = %t, %d, %d", at, v != nil, e, n)
				}
			}
		}
	}
}
