/- The document's own Is of messages. (Written by gen-msbyt.py.) -/
import Derived.Test.YtfapkepfngddlaaGreatMsByt
import Derived.Test.YtfapkepfngddlaaGreatMsFrm
set_option maxRecDepth 100000
set_option maxHeartbeats 64000000
namespace Go.Proofs.YtfapkepfngddlaaGreat
open Go.RowKit Plain
set_option linter.unusedVariables false
theorem misR {b v : Value} {bs : Bytes} {m : PMsg} {w : World} (hb : By.Seq w b bs) (hv : IsMsg w v m) (hf : mformedM m = true) (hm : MsFit m) (hn : mfits m) (hil : m.items.length ≤ 1000) (htl : m.txns.length ≤ 1000) (htz : (m.txns.flatMap txnC.put).length ≤ 630000) (he : bs = pmsg m) :
  Calls Tryz.prog 18 #[b, v] w (GivesB w true) := by
 obtain ⟨va, vn, vc, fa, fn, fc, za, zn, zc, na, nn, nc, ia, im, ic, la, ln, lc, rfl, H⟩ := hv.slices;obtain ⟨ba, bn, bc, rfl, hbn, -, -, hbs⟩ := byParts hb;subst hbn;have hba := zB w (.cells #[.int .i64 m.kind, .int .i64 m.ticket, .bool m.whole, .slice va vn vc, .slice fa fn fc, .slice za zn zc, .slice na nn nc, .slice ia im ic, .slice la ln lc] 28);have X := zH (msbox_new H);have G0 := zH hba;have SB := zH (hbs.below hba);clear hv H hb hbs hba;go_enter Tryz.func18, Tryz.ntmps18
 go_upto_region 1 with fail
 generalize (w.alloc (.cells #[.int .i64 m.kind, .int .i64 m.ticket, .bool m.whole, .slice va vn vc, .slice fa fn fc, .slice za zn zc, .slice na nn nc, .slice ia im ic, .slice la ln lc] 28)) = w0 at *;obtain ⟨c0, c1, c2, c3, c4, c5, c6, c7, c8⟩ := X.out.c;have K1 := zH (mformedR X.out.is hm true hf);have K2 : Hid (∀ u, Below w0.heap.size w0 u → Calls Tryz.prog 14 #[.agg #[.int .i64 m.kind, .int .i64 m.ticket, .bool m.whole, .slice va vn vc, .slice fa fn fc, .slice za zn zc, .slice na nn nc, .slice ia im ic, .slice la ln lc]] u (GivesO u.heap.size u (.slice none 0 0) bs)) := zH (fun u h => by rw [he]; exact mbytesR (X.out.below h).is hf hn hil htl htz);have HC := zH (fun u (h : Below w0.heap.size w0 u) => (X.out.below h).c);clear he hf hm hn hil htl htz;go_wp2_with fail
 refine K1.out.mono ?_;rintro e w1 ⟨rfl, hb⟩;have B1 := zH hb;have K21 := K2.out w1 hb;clear hb K1 c0 c1 c2 c3 c4 c5 c6 c7 c8;obtain ⟨c0, c1, c2, c3, c4, c5, c6, c7, c8⟩ := HC.out w1 B1.out;go_wp2_with fail
 refine K21.mono ?_;rintro e w2 ⟨v2, rfl, ho, hg⟩;have B2 := zH (B1.out.trans (hg.below.mono B1.out.size));have KS := rsameBy (SB.out.below B2.out) ho.seq;obtain ⟨a2, n2, rfl, -, -, -, -⟩ := ho.parts;clear hg ho K21 c0 c1 c2 c3 c4 c5 c6 c7 c8;generalize bs.length = bn at *;go_wp2_with fail
 refine KS.mono ?_;rintro e w3 ⟨rfl, hb⟩;have B3 := zH (G0.out.trans ((B2.out.trans (hb.mono B2.out.size)).mono G0.out.size));clear hb KS;go_wp2_with fail
 go_ret
 exact ⟨rfl, B3.out⟩
end Go.Proofs.YtfapkepfngddlaaGreat
