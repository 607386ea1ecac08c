package events

import (
	"testing"

	"sieve/api"
)

func TestFind(t *testing.T) {
	five := api.Value{Kind: api.Int, Num: 5}
	event := []api.Property{{Name: "n"}, {Name: "a", Val: five}, {Name: "A", Val: api.Value{Kind: api.Text, Str: "x"}}}
	for name, want := range map[string]api.Value{"a": five, "A": {Kind: api.Text, Str: "x"}, "n": {}, "b": {}, "": {}, "aa": {}} {
		if got := Find(event, name); got != want {
			t.Errorf("%q: %v, want %v", name, got, want)
		}
	}
	if got := Find(nil, "a"); got != (api.Value{}) {
		t.Errorf("of nothing: %v", got)
	}
}

func TestValidValue(t *testing.T) {
	for kind := -2; kind < 7; kind++ {
		for _, num := range []int64{-1 << 63, -1, 0, 1, 2, 1<<63 - 1} {
			for _, str := range []string{"", "x", "\x00'\xff", "12345678901234567890", "123456789012345678901"} {
				v := api.Value{Kind: kind, Num: num, Str: str}
				want := kind == api.Null && num == 0 && str == "" ||
					kind == api.Bool && (num == 0 || num == 1) && str == "" ||
					kind == api.Int && str == "" ||
					kind == api.Text && num == 0 && len(str) <= 20
				if got := Valid([]api.Property{{Name: "a", Val: v}}); got != want {
					t.Errorf("%v: %v", v, got)
				}
			}
		}
	}
}
