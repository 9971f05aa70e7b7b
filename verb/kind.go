package verb

import "echelon/api"

// kind is what a verb is: its name, and what it takes.
type kind struct {
	name     string
	operands []api.Operand
}

// operandAt is what may stand at a place: where the verb takes nothing, that is 0 alone.
func (k kind) operandAt(place int) api.Operand {
	if place < len(k.operands) {
		return k.operands[place]
	}
	return api.Operand{}
}

// kindOf is what the verb of a number is, if there is one.
func kindOf(verb int) (kind, bool) {
	account, is := accounts()[verb]
	if !is {
		return kind{}, false
	}
	return account(teller{}), true
}

// numberOf is the number of the verb of a name; 0, which is no verb's, if there is none.
func numberOf(name string) int {
	all := accounts()
	for verb := 1; verb <= len(all); verb++ {
		if all[verb](teller{}).name == name {
			return verb
		}
	}
	return 0
}

// accounts has for each verb's number the method by which a teller says what it is. A method makes its list
// anew at each call, so that no two answers share one (R4).
func accounts() map[int]func(teller) kind {
	return map[int]func(teller) kind{
		api.Steer:  teller.steer,
		api.Halt:   teller.halt,
		api.Aim:    teller.aim,
		api.Fire:   teller.fire,
		api.Shield: teller.shield,
		api.Dash:   teller.dash,
		api.Say:    teller.say,
	}
}

// teller is whose methods say what the verbs are.
type teller struct{}

func (teller) steer() kind {
	return kind{name: "steer", operands: []api.Operand{{Name: "x", Least: -8, Most: 8}, {Name: "y", Least: -8, Most: 8}}}
}

func (teller) halt() kind { return kind{name: "halt"} }

func (teller) aim() kind {
	return kind{name: "aim", operands: []api.Operand{{Name: "to", Least: 0, Most: 15}}}
}

func (teller) fire() kind {
	return kind{name: "fire", operands: []api.Operand{{Name: "power", Least: 1, Most: 3}}}
}

func (teller) shield() kind {
	return kind{name: "shield", operands: []api.Operand{{Name: "on", Least: 0, Most: 1}}}
}

func (teller) dash() kind {
	return kind{name: "dash", operands: []api.Operand{{Name: "to", Least: 0, Most: 15}}}
}

func (teller) say() kind {
	return kind{name: "say", operands: []api.Operand{{Name: "what", Least: 0, Most: 255}}}
}
