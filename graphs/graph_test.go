package graphs

import (
	"reflect"
	"testing"

	"dossier/api"
)

func TestRead(t *testing.T) {
	g, fault := Read("b *-> a; event b by s, r out done; b *-> a; event a by r due; a -><> b;")
	want := Graph{
		Events: []Event{
			{Name: "a", Roles: []string{"r"}, First: api.Mark{In: true, Due: true}},
			{Name: "b", Roles: []string{"r", "s"}, First: api.Mark{Done: true}},
		},
		Rules: []Rule{{"a", "b", Milestone}, {"b", "a", Response}},
	}
	if !reflect.DeepEqual(g, want) || fault != (Fault{}) {
		t.Errorf("Read: %+v, %+v, want %+v", g, fault, want)
	}
}

func TestReadRefused(t *testing.T) {
	for text, want := range map[string]Fault{
		"event a by r; a":                {api.ErrText, 15},
		"event a by r; a ->* bcdefghij;": {api.ErrSize, 20},
		"event a by r; a ->* b;":         {api.ErrName, 20},
	} {
		if g, fault := Read(text); !reflect.DeepEqual(g, Graph{}) || fault != want {
			t.Errorf("Read(%q): %+v, %+v, want no graph and %+v", text, g, fault, want)
		}
	}
}
