package cloister

import (
	"math/rand"
	"reflect"
	"runtime"
	"sync"
	"testing"
	"weak"

	"cloister/api"
)

// roomy gives each list of a config spare room, and fills it.
func roomy(c api.Config) api.Config {
	c = copyOf(c)
	for n := range c.Cells {
		c.Cells[n].Code = spare(c.Cells[n].Code, api.Ins{Op: 77, R: 77, A: 77, N: 77})
		c.Cells[n].Image = spare(c.Cells[n].Image, 77)
	}
	for n := range c.Table {
		c.Table[n] = spare(c.Table[n], api.Window{Cell: 77, Budget: 77})
	}
	c.Cells = spare(c.Cells, api.Cell{Limit: 77})
	c.Table = spare(c.Table, []api.Window{{Cell: 77, Budget: 77}})
	c.Chans = spare(c.Chans, api.Chan{Kind: 77, From: 77, To: 77})
	c.Devs = spare(c.Devs, 77)
	return c
}

func spare[T any](list []T, fill T) []T {
	out := append([]T{}, list...)
	return append(out, fill, fill, fill)[:len(list)]
}

// widened shows the lists of a config with all their spare room.
func widened(c api.Config) api.Config {
	c.Cells = append([]api.Cell{}, c.Cells[:cap(c.Cells)]...)
	for n, l := range c.Cells {
		c.Cells[n].Code = l.Code[:cap(l.Code)]
		c.Cells[n].Image = l.Image[:cap(l.Image)]
	}
	c.Table = append([][]api.Window{}, c.Table[:cap(c.Table)]...)
	for n, row := range c.Table {
		c.Table[n] = row[:cap(row)]
	}
	c.Chans = c.Chans[:cap(c.Chans)]
	c.Devs = c.Devs[:cap(c.Devs)]
	return c
}

func TestP2NothingWritten(t *testing.T) {
	r := rand.New(rand.NewSource(2))
	for n := range 3000 {
		c := roomy(someConfig(r))
		whole := copyOf(widened(c))
		New(c)
		if !reflect.DeepEqual(whole, widened(c)) {
			t.Fatalf("config %d: New wrote into it: %+v", n, c)
		}
	}
}

// TestP2SpareRoom: what stands behind a list's end does not count.
func TestP2SpareRoom(t *testing.T) {
	r := rand.New(rand.NewSource(5))
	for range 3000 {
		c := someConfig(r)
		e, at := wanted(c)
		check(t, "with spare room", roomy(c), e, at)
	}
}

// held makes a kernel of lists that nobody else has, runs it, and answers how to ask which of the lists are still there.
func held() (*Kernel, map[string]func() bool) {
	c := fullest()
	c.Cells[5].Code[0] = use(api.Input, 0, 1, 1)
	in := make([]api.In, api.MaxDevs)
	there := map[string]func() bool{
		"Cells": watch(&c.Cells[0]), "Code": watch(&c.Cells[5].Code[0]), "Image": watch(&c.Cells[5].Image[0]),
		"Table": watch(&c.Table[0]), "row": watch(&c.Table[7][0]), "Chans": watch(&c.Chans[0]), "Devs": watch(&c.Devs[0]),
		"inputs": watch(&in[0]),
	}
	k, _, _ := New(c)
	k.Frame(in)
	return k, there
}

func watch[T any](p *T) func() bool {
	w := weak.Make(p)
	return func() bool { return w.Value() != nil }
}

func TestP2NothingKept(t *testing.T) {
	k, there := held()
	if k == nil {
		t.Fatal("no kernel")
	}
	runtime.GC()
	for list, is := range there {
		if is() {
			t.Errorf("%s: the kernel keeps it", list)
		}
	}
	runtime.KeepAlive(k)
}

// TestP2OneByOne: an answer does not hang on the calls of New ahead of it, nor on those at the same time.
func TestP2OneByOne(t *testing.T) {
	r := rand.New(rand.NewSource(7))
	configs := []api.Config{least(), trio(), fullest()}
	for range 60 {
		configs = append(configs, someConfig(r))
	}
	var all sync.WaitGroup
	for range 8 {
		all.Go(func() {
			for _, one := range configs {
				for _, next := range configs {
					New(one)
					e, at := wanted(next)
					check(t, "after another one", next, e, at)
				}
			}
		})
	}
	all.Wait()
}
