/- What packages text and docs answer, as one word: DocsI of the developers' collections. -/
import Derived.Test.YtpdleigcdmgfmaaTxtAny
import Derived.Test.YtpdleigcdmgfmaaDocDev
import Derived.Test.YtpdleigcdmgfmaaDocAhead
namespace Go.Proofs.Ytpdleigcdmgfmaa
open Go.RowKit

theorem docs_any : DocsI TxtAt where
  keep_ := fun ⟨g, X, cx, y, cy, T, h1, h2⟩ _ hb => ⟨g, X, cx, y, cy, T, h1, h2.keep_ hb⟩
  ptr := fun ⟨g, _, _, _, _, _, h1, _⟩ => ⟨_, h1⟩
  new := fun P c L w hl hcm _ ho => (tnew_any P c L w hl hcm ho).mono fun e w' ⟨h1, h2, h3⟩ => ⟨fun hr => by
    obtain ⟨g, y, cx, cy, X, T, e1, e2⟩ := h1 hr
    exact ⟨_, e1, g, X, cx, y, cy, T, rfl, e2⟩, h2, h3⟩
  array := fun _ _ _ A n c V _ ⟨g, X, cx, y, cy, T, h1, h2⟩ hn ho => by subst h1; exact docArray_any h2 A n c V hn ho
  arrayNil := docArrayNil_any
  back := fun A n c V w hn ho => docBack_any A n c V w hn ho
  ahead := fun A n c V w hn ho => docAhead_any A n c V w hn ho
  count := fun A n c V d a b w hn _ ha hb ho => docCount_any A n c V d a b w hn ha hb ho
end Go.Proofs.Ytpdleigcdmgfmaa
