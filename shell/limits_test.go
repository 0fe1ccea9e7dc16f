package shell_test

import (
	"fmt"
	"strings"
	"testing"

	"scruple/api"
	"scruple/shell"
)

// isLine holds whether a line, behind one that says nothing, is one.
func isLine(t *testing.T, s string, want bool) {
	t.Helper()
	_, line, e := shell.Run(lined("; x|" + s))
	switch {
	case want && (line != 0 || e != api.OK):
		t.Errorf("P24.1: %.200s: error %d, line %d", s, e, line)
	case !want && (line != 2 || e != api.ErrShellLine):
		t.Errorf("P24.1: %.200s: error %d, line %d; want that it is no line", s, e, line)
	}
}

// numberSlots are lines in which a number lacks.
var numberSlots = []string{
	"call m f %s []", "trace m f %s 1 []", "trace m f 1 %s []", "bid %s 0 0 m f 9 []", "bid 0 %s 0 m f 9 []", "bid 0 0 %s m f 9 []", "bid 0 0 0 m f %s []", "batch %s",
}

func TestP241Numbers(t *testing.T) {
	for _, slot := range numberSlots {
		for _, word := range []string{"0", "1", "9", "10", "64", "100000000", "999999999", " 5", "5 "} {
			isLine(t, fmt.Sprintf(slot, word), true)
		}
		for _, word := range []string{
			"", "00", "01", "0000000001", "-0", "-1", "+0", "+1", "1000000000", "9999999999", "18446744073709551616", "x", "5x", "x5", "0x5", "5.0", "5e0", "1_0", "5,", "[]", `"5"`, "\t5", "5\t", "5\r", "5\x00", "٥", "5 5", ";", ".",
		} {
			isLine(t, fmt.Sprintf(slot, word), false)
		}
	}
}

// TestP241Values: a value's text is all that stands there, in its one form.
func TestP241Values(t *testing.T) {
	arrays := []string{"[]", "[1]", "[-1]", "[unit]", "[true, false]", `["a  b"]`, `["[", "]"]`, `["\x00\"\\"]`, "[[], [[]]]", `[{}, {"": 1, "a": [2]}]`, "[9223372036854775807, -9223372036854775808]", `[";"]`,
		"[" + strings.Repeat("1, ", 2046) + "1]", strings.Repeat("[", 8) + strings.Repeat("]", 8)}
	texts := []string{`""`, `"k"`, `" "`, `"a  b"`, `"\x00"`, `"\\\""`, `"unit"`, `"; x"`, `"` + strings.Repeat("k", 2047) + `"`}
	others := []string{"unit", "true", "false", "5", "-5", "{}", `{"a": 1}`}
	wrong := []string{
		"", "[", "]", "[1,2]", "[1 , 2]", "[1,  2]", "[ 1]", "[1 ]", "[ ]", "[1, ]", "[,]", "[1, 2", "[1] 2", "[] []", "[]]", "[];", "[] ; x", "[\t]", "[]\t", "[]\r", "[01]", "[-0]", "[+1]", "[9223372036854775808]", "[x]", "[Unit]", "[True]", `["a]`, `["\n"]`, `["\x0A"]`, `["\x41"]`, `["é"]`,
		`[{a: 1}]`, `[{"a":1}]`, `[{"b": 1, "a": 1}]`, `[{"a": 1, "a": 1}]`, "[" + strings.Repeat("1, ", 2047) + "1]", strings.Repeat("[", 9) + strings.Repeat("]", 9), "(1)", "1, 2",
		`"`, `"k`, `k"`, `'k'`, `k`, `"k" "k"`, `"k"k`, `"k";`, `"k" ; x`, `"\n"`, `"\x6b"`, `"\x0"`, `"é"`, `"k"` + "\t", `"` + strings.Repeat("k", 2048) + `"`,
	}
	for _, slot := range []string{"call m f 9 %s", "call m f 9    %s   ", "trace m f 9 9 %s", "bid 0 0 0 m f 9 %s", "get %s", "get   %s "} {
		isGet := strings.HasPrefix(slot, "get")
		for _, s := range arrays {
			isLine(t, fmt.Sprintf(slot, s), !isGet)
		}
		for _, s := range texts {
			isLine(t, fmt.Sprintf(slot, s), isGet)
		}
		for _, s := range append(wrong, others...) {
			isLine(t, fmt.Sprintf(slot, s), false)
		}
	}
}

func TestP241Hex(t *testing.T) {
	for _, word := range []string{"00", "0f", "ff", "0123456789abcdef", "  00 ", strings.Repeat("00", 30000)} {
		isLine(t, "module m "+word, true)
	}
	for _, word := range []string{"", "0", "000", "0A", "FF", "0g", "g0", "0x00", "00 00", "00;", "00\t", "\x00\x00", "éé"} {
		isLine(t, "module m "+word, false)
	}
}

// TestP241Words: how many words a line has, and what a name may be.
func TestP241Words(t *testing.T) {
	for s, tail := range map[string]string{
		"source m": "|.", "asm m": "|.", "form": "|.", "module m 00": "", "call m f 9 []": "", "trace m f 9 9 []": "", "bid 0 0 0 m f 9 []": "", "batch 9": "",
		"show m": "", "hex m": "", `get "k"`: "", "entries": "", "modules": "", "digest": "",
	} {
		isLine(t, s+tail, true)
		isLine(t, "   "+strings.ReplaceAll(s, " ", "   ")+"   "+tail, true)
		isLine(t, s+" x"+tail, false)
		isLine(t, s+" ;"+tail, false)
		isLine(t, s+" ; x"+tail, false)
		isLine(t, s+"\t"+tail, strings.HasSuffix(s, " m")) // a name's last byte
		isLine(t, "\t"+s+tail, false)
		isLine(t, "x "+s+tail, false)
		words := strings.Fields(s)
		for i := 1; i < len(words); i++ {
			isLine(t, strings.Join(words[:i], " ")+tail, false)
		}
		for i := range len(words) - 1 {
			less := append(append([]string{}, words[:i]...), words[i+1:]...)
			isLine(t, strings.Join(less, " ")+tail, false)
		}
	}
	for _, name := range []string{"m", "1", ".", ";", "[]", "é", "\t", "\r", "\x00", "\xff", `"`, strings.Repeat("m", 60000)} {
		for _, slot := range []string{"source %s|.", "asm %s|.", "module %s 00", "call %s f 9 []", "call m %s 9 []", "trace %s f 9 9 []", "trace m %s 9 9 []", "bid 0 0 0 %s f 9 []", "bid 0 0 0 m %s 9 []", "show %s", "hex %s"} {
			isLine(t, fmt.Sprintf(slot, name), true)
		}
	}
}

func TestP241Kinds(t *testing.T) {
	for _, s := range []string{
		"foo", "x", ".", "..", "Modules", "MODULES", "module", "modulesx", "xmodules", "modules.", "modules;", "modules\t", "\tmodules", "modules\r", "\rmodules", "modules\x00", "\x00", "\xff", "\ufeffmodules", "\u00a0modules", "run", "sources m", "Source m|.", "# x", "// x", ":", ",", "end", "none", "ok", "const 1", ".const 1", "dep m", "tell", "get", "batch", "drop", "bids", "next 1", "take",
	} {
		isLine(t, s, false)
		isLine(t, "  "+s, false)
		isLine(t, s+"  ", false)
	}
	for _, s := range []string{"", " ", "     ", ";", "; x", ";x", " ;", "   ; modules x", ";;;", ";.", ";\t", "|||", " | |;|", "; source m", ";foo|;foo|", "modules|;", "modules|", "|modules"} {
		isLine(t, s, true)
	}
}

// TestP241First: of several faults the first is told, and nothing else.
func TestP241First(t *testing.T) {
	many := strings.Repeat("modules|", 500)
	wide := func(s string) string { return s + strings.Repeat(" ", 65537-len(s)) }
	much := heavy + strings.Repeat(`get "k"|`, 129) // too much is told
	meets(t, map[string]string{
		wide("foo"):                                   "error 240, line 0",
		wide(much):                                    "error 240, line 0",
		wide("modules|foo|")[:65536]:                  "error 241, line 2",
		wide(strings.Repeat("modules|", 501)):         "error 240, line 0",
		wide(strings.Repeat("modules|", 501))[1:]:     "error 241, line 1", // odules
		wide(strings.Repeat("modules|", 502))[:65536]: "error 241, line 501",
		wide("modules|")[:65536]:                      "none|",
		many:                                          strings.Repeat("none|", 500),
		many + "foo":                                  "error 241, line 501",
		many + "modules":                              "error 241, line 501",
		many + "; x| |;":                              strings.Repeat("none|", 500),
		many + "|; x|digest":                          "error 241, line 503",
		many + "form|.":                               "error 241, line 501",
		many + "source m":                             "error 241, line 501",
		"foo|" + many:                                 "error 241, line 1",
		many + "modules|foo":                          "error 241, line 501",
		"source m|x":                                  "error 241, line 1",
		"modules|;|  |get|get|foo":                    "error 241, line 4",
		much + "foo":                                  fmt.Sprintf("error 241, line %d", 5+129),
		much + "foo|source m":                         fmt.Sprintf("error 241, line %d", 5+129),
		strings.Repeat(";|", 30000) + "foo":           "error 241, line 30001",
		strings.Repeat("|", 65533) + "foo":            "error 241, line 65534",
		strings.Repeat("|", 65536):                    "",
		strings.Repeat("|", 65537):                    "error 240, line 0",
		strings.Repeat("form|.|", 500):                strings.Repeat(".|", 500),
		strings.Repeat("form|.|", 501):                "error 241, line 1001",
		"form|" + strings.Repeat("modules|", 600) + ".|modules": "error 170 at 0|none|", // a body's lines are not counted
		strings.Repeat("form|", 502) + ".|foo":                  "error 241, line 504",
	})
}

// heavy are lines behind which k is told in many bytes: 8179, with the line's end.
var heavy = deployed + `|call m put 9999 ["k", "` + strings.Repeat(`\xff`, 2044) + `"]|`

// full is a script that tells just as many bytes as may be, and how many lines it has.
func full(t *testing.T) (string, int) {
	t.Helper()
	ahead := len(run(t, heavy))
	all, left := heavy, 1048576-ahead
	fill := func(line string) {
		tells := len(run(t, heavy+line)) - ahead
		for ; left >= tells; left -= tells {
			all += line
		}
	}
	fill(`get "k"|`)
	fill("form|fn f() { " + strings.Repeat("1; ", 200) + "}|.|")
	fill("digest|")
	if left%2 == 1 {
		all += "batch 0|" // tells 7
		left -= 7
	}
	fill("modules|") // tells 2
	if got := run(t, all); len(got) != 1048576 || !strings.HasSuffix(got, "|m|m|m|") {
		t.Fatalf("P24.1: a full script tells %.200s, and %d bytes of 1048576", got, len(got))
	}
	return all, strings.Count(all, "|")
}

// TestP241Told: 1048576 bytes may be told in all; the line is told that tells one more.
func TestP241Told(t *testing.T) {
	all, lines := full(t)
	for s, at := range map[string]int{
		"modules": 1, "; x||modules|digest": 3, "form|.|modules": 1, "entries": 1, "|source n|foo||bar|.|modules": 2, "call m put 0 []": 1, "; x|bid 0 0 0 m f 9 []": 2, "asm n||.|": 1, "module n 00": 1, "trace m id 9 9 [1]": 1, "batch 0": 1, `get "j"`: 1, "show m": 1, "hex m": 1, "form|foo|.": 1,
	} {
		meets(t, map[string]string{all + s: fmt.Sprintf("error 240, line %d", lines+at)})
	}
	whole := run(t, all)
	less := strings.TrimSuffix(all, "modules|")
	meets(t, map[string]string{
		all + "; x||;":   whole,
		less:             strings.TrimSuffix(whole, "m|"),
		less + "form|.|": strings.TrimSuffix(whole, "m|") + ".|",
		less + "batch 0": fmt.Sprintf("error 240, line %d", lines),
		"modules|" + all: fmt.Sprintf("error 240, line %d", lines-1), // none, and an end: as many as the last two lines tell
		all + "foo":      fmt.Sprintf("error 241, line %d", lines+1),
	})
}
