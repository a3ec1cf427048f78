/- Package field's functions, each by what it answers: ffmt_any, fbegin_any, fopen_any, fnext_any, fprev_any, fcells_any, fof_any, fbegins_any. -/
import Derived.Test.YtoacookbfpcncaaFldNext
import Derived.Test.YtoacookbfpcncaaFldCells
