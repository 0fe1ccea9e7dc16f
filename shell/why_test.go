package shell

import (
	"errors"
	"strings"
	"testing"

	"scruple/api"
)

// TestWaysWhy: why a line is none is an error that errors.Is finds; no other one is found.
func TestWaysWhy(t *testing.T) {
	all := []error{errLong, errMany, errKind, errFew, errRest, errNumber, errHex, errValue, errBody}
	for text, want := range map[string]error{
		strings.Repeat(" ", api.MaxText+1):     errLong,
		strings.Repeat("modules\n", 501):       errMany,
		strings.Repeat("modules\n", 500) + "x": errKind,
		"foo":                                  errKind, ".": errKind, "Call m f 9 []": errKind,
		"source": errFew, "module m": errFew, "call m": errFew, "call": errFew, "bid 1 2": errFew, "batch": errFew, "trace m f 9": errFew,
		"modules x": errRest, "source a b\n.": errRest, "form x\n.": errRest, "batch 1 1": errRest, "module m 00 00": errRest, "show a b": errRest,
		"batch x": errNumber, "call m f -1 []": errNumber, "call m f [] []": errNumber, "bid 0 01 0 m f 0 []": errNumber,
		"module m 0": errHex, "module m 0A": errHex,
		"get": errValue, "get 5": errValue, "get []": errValue, "call m f 9": errValue, "call m f 9 {}": errValue, "call m f 9 [1,2]": errValue, "call m f 9 [] []": errValue,
		"source m": errBody, "form": errBody, "asm m\n .": errBody, "source m\nx": errBody,
	} {
		_, stopped := read(text)
		if stopped == nil {
			t.Errorf("P24.1: %.40q is taken", text)
			continue
		}
		for _, e := range all {
			if errors.Is(stopped, e) != (e == want) {
				t.Errorf("P24.1: %.40q is none: %v; want %v", text, stopped, want)
			}
		}
	}
}

// TestWaysWhich: beside why stands the line, and both are said.
func TestWaysWhich(t *testing.T) {
	_, stopped := read("modules\nsource m\nfoo\n.\n; foo\nget 5\nfoo")
	if stopped == nil || stopped.line != 6 || stopped.Error() != "line 6: "+errValue.Error() {
		t.Errorf("P24.1: %v", stopped)
	}
	orders, stopped := read("modules\nsource m\nfoo\n.\n; foo\ndigest")
	if stopped != nil || len(orders) != 3 || orders[0].line != 1 || orders[1].line != 2 || orders[2].line != 6 {
		t.Errorf("P24.1: %v, %v", orders, stopped)
	}
}
