package states

import (
	"dossier/api"
	"dossier/graphs"
)

// event is one of the graph's, as it stands.
type event struct {
	name  string
	roles []string
	mark  api.Mark
}

func (e *event) finish() { e.mark.Done, e.mark.Due = true, false }

func (e *event) becomeDue() { e.mark.Due = true }

func (e *event) comeIn() { e.mark.In = true }

func (e *event) goOut() { e.mark.In = false }

func (e *event) stay() {}

func (e *event) isUndone() bool { return e.mark.In && !e.mark.Done }

func (e *event) isWanted() bool { return e.mark.In && e.mark.Due }

func (e *event) isHarmless() bool { return false }

// rule is between two events of one state.
type rule struct {
	kind        graphs.RuleKind
	left, right *event
}

// takeEffect is what the rule does when its left event is done.
func (r rule) takeEffect() {
	effects := [...]func(*event){
		graphs.Condition: (*event).stay,
		graphs.Milestone: (*event).stay,
		graphs.Response:  (*event).becomeDue,
		graphs.Inclusion: (*event).comeIn,
		graphs.Exclusion: (*event).goOut,
	}
	effects[r.kind](r.right)
}

// blocks tells whether the rule blocks its right event, as its left one stands.
func (r rule) blocks() bool {
	hindrances := [...]func(*event) bool{
		graphs.Condition: (*event).isUndone,
		graphs.Milestone: (*event).isWanted,
		graphs.Response:  (*event).isHarmless,
		graphs.Inclusion: (*event).isHarmless,
		graphs.Exclusion: (*event).isHarmless,
	}
	return hindrances[r.kind](r.left)
}
