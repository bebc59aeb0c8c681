package shell

import (
	"strconv"
	"strings"

	"resolvent/machine"
)

// mostNumber is the greatest number that a line may have.
const mostNumber = 100000

// questionWords is how many words stand behind ask: a predicate, and three of a room.
const questionWords = 4

// question is what ask asks: a predicate, in so much room.
type question struct {
	name  string
	arity int
	room  machine.Room
}

// readQuestion reads what stands behind ask.
func readQuestion(text string) (question, bool) {
	// One word more than there may be is enough to tell that there are too many.
	words := strings.SplitN(text, blank, questionWords+1)
	if len(words) != questionWords {
		return question{}, false
	}
	name, digits, _ := strings.Cut(words[0], "/")
	words[0] = digits
	var numbers [questionWords]int
	for k, word := range words {
		n, ok := readNumber(word)
		if !ok {
			return question{}, false
		}
		numbers[k] = n
	}
	return question{name: name, arity: numbers[0], room: machine.Room{Cells: numbers[1], Words: numbers[2], Choices: numbers[3]}}, true
}

// readNumber reads one from 0 to the greatest. As a number has one text alone, noughts and signs ahead aren't read.
func readNumber(digits string) (int, bool) {
	n, err := strconv.Atoi(digits)
	if err != nil || n < 0 || n > mostNumber || strconv.Itoa(n) != digits {
		return 0, false
	}
	return n, true
}

// outcomeWord is a machine's outcome in a word.
func outcomeWord(outcome int) string {
	switch outcome {
	case machine.Running:
		return "running"
	case machine.Success:
		return "success"
	case machine.Failure:
		return "failure"
	case machine.Full:
		return "full"
	}
	return "stuck"
}
