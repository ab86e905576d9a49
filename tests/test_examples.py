"""The examples of the interface, word for word, and those of README.md."""

import doctest
import pathlib
import unittest

FOLDER = pathlib.Path(__file__).resolve().parent
README = FOLDER.parent / "README.md"
SHARED_DOCUMENT = FOLDER.parent.parent / "shared" / "DOC.md"


def sections_of(text):
    """For each section its heading, the lines that its examples begin with, and its examples."""
    sections = []
    for part in text.split("\n## ")[1:]:
        heading, rest = part.split("\n", 1)
        blocks = [block.strip("\n").split("\n") for block in rest.split("```")[1::2]]
        # A block that directly follows the heading is the beginning of all examples of the section.
        start = blocks.pop(0) if rest.startswith("```") else []
        sections.append((heading, start, blocks))
    return sections


def steps_of(lines):
    """Tuples (source, what it shows), where the second one may be empty."""
    steps = []
    for line in lines:
        if line.startswith(">>> "):
            steps.append([line[4:], ""])
        else:
            steps[-1][1] += line
    return steps


def shown(source, names):
    """What the interface shows for a source: a repr, an error with its attributes, or nothing."""
    try:
        value = eval(compile(source, "example", "eval"), names)
    except SyntaxError:
        exec(compile(source, "example", "exec"), names)
        return ""
    except Exception as error:
        parts = ", ".join([f"{name}={value!r}" for name, value in vars(error).items()])
        return f"raises {type(error).__name__}" + (f"({parts})" if parts else "")
    return "" if value is None else repr(value)


class ExamplesTest(unittest.TestCase):
    def test_examples_of_the_interface(self):
        sections = sections_of((FOLDER / "examples.md").read_text())
        self.assertEqual(len(sections), 10)
        for heading, start, blocks in sections:
            self.assertTrue(blocks)
            for block in blocks:
                names = {}
                for source, wanted in steps_of(start + block):
                    with self.subTest(section=heading, source=source):
                        self.assertEqual(shown(source, names), wanted)

    def test_examples_are_those_of_the_document(self):
        if not SHARED_DOCUMENT.exists():
            self.skipTest("the document does not stand beside the project")
        of_document = {heading: parts for heading, *parts in sections_of(SHARED_DOCUMENT.read_text()) if parts[1]}
        self.assertEqual([row[0] for row in sections_of((FOLDER / "examples.md").read_text())], list(of_document))
        for heading, *parts in sections_of((FOLDER / "examples.md").read_text()):
            with self.subTest(section=heading):
                self.assertEqual(parts, of_document[heading])

    def test_examples_of_the_readme(self):
        text = README.read_text().replace("```", "")
        test = doctest.DocTestParser().get_doctest(text, {}, "README.md", "README.md", 0)
        self.assertGreater(len(test.examples), 5)
        report = []
        doctest.DocTestRunner(verbose=False).run(test, out=report.append)
        self.assertEqual("".join(report), "")


if __name__ == "__main__":
    unittest.main()
