/- A map by dots of rows of numbers: what stands at a dot; a look-up; an entry that is asked for, and stored into. -/
import Derived.Test.YtpnpomocjkmncaaGreatISets
import Derived.Test.YtpnpomocjkmncaaGreatOrHps
import Derived.WideKeyEntry
namespace Go.Proofs.YtpnpomocjkmncaaGreat
open Go.RowKit Plain Go.Maps Go.ChangeMaps Go.MapKept
open Go.WideElems (findIdx_born findIdx_arr modify_last set_self)
set_option linter.unusedVariables false

theorem mapDots : Tryz.prog.underlying 109 = some (.map 62 22) := Tryz.underlying109
structure EntsOk (es : Array MapEntry) (clock : Nat) (V : PDot → Value) : Prop where
 at_ : ∀ e ∈ es.toList, ∃ d, dotOk d ∧ e.key = dv d ∧ e.val = V d
 born : ∀ e ∈ es.toList, e.born < clock
 once : (es.toList.map (·.born)).Nodup
 keys : (es.toList.map (·.key)).Nodup
 none_ : ∀ d, (∀ e ∈ es.toList, e.key ≠ dv d) → V d = .slice none 0 0
def MapAt (w : World) (b : Nat) (V : PDot → Value) : Prop := ∃ es clock, w.heap[b]? = some (.map es clock) ∧ EntsOk es clock V
def StampAt (w : World) (b : Nat) (d : PDot) (st : Nat) : Prop := ∃ es clock, w.heap[b]? = some (.map es clock) ∧ ∃ e ∈ es.toList, e.key = dv d ∧ e.born = st
theorem MapAt.keep {w w' : World} {b : Nat} {V : PDot → Value} (h : MapAt w b V) (hb : w'.heap[b]? = w.heap[b]?) : MapAt w' b V := by
 obtain ⟨es, clock, h1, h2⟩ := h
 exact ⟨es, clock, hb.trans h1, h2⟩
theorem StampAt.keep {w w' : World} {b : Nat} {d : PDot} {st : Nat} (h : StampAt w b d st) (hb : w'.heap[b]? = w.heap[b]?) : StampAt w' b d st := by
 obtain ⟨es, clock, h1, h2⟩ := h
 exact ⟨es, clock, hb.trans h1, h2⟩
theorem MapAt.lt {w : World} {b : Nat} {V : PDot → Value} (h : MapAt w b V) : b < w.heap.size := by
 obtain ⟨es, clock, h1, -⟩ := h
 exact (Array.getElem?_eq_some_iff.1 h1).1
theorem MapAt.made (w : World) : MapAt (w.alloc (.map #[] 0)) w.heap.size (fun _ => .slice none 0 0) :=
 ⟨#[], 0, (MapKept.heap_alloc w _).1, ⟨by simp, by simp, by simp, by simp, fun _ _ => rfl⟩⟩
theorem MapAt.below {w w' : World} {b : Nat} {V : PDot → Value} (h : MapAt w b V) (hb : Below w.heap.size w w') : MapAt w' b V := h.keep (hb.block b h.lt)
theorem EntsOk.reads {es : Array MapEntry} {clock : Nat} {V : PDot → Value} (h : EntsOk es clock V) : ∀ e ∈ es.toList, ∃ l, keyOf Tryz.prog 62 e.key = some l := fun e he => by
 obtain ⟨d, hd, hk, -⟩ := h.at_ e he
 exact ⟨kd d, by rw [hk]; exact keyOf_dot hd⟩
theorem MapAt.look {w : World} {b : Nat} {V : PDot → Value} (h : MapAt w b V) {d : PDot} (hd : dotOk d) : (Instr.lookup 109 (.map (some b)) (dv d) false).run Tryz.prog w = .ok (V d) w := by
 obtain ⟨es, clock, hb, hE⟩ := h
 have hkey := keyOf_dot hd
 rcases lawDot.find w hkey es.toList hE.reads with ⟨h1, h2⟩ | ⟨j, e0, h1, h2, h3⟩
 ·rw [hE.none_ d h2]
  simp [Instr.lookup, run_underlying mapDots, MapKept.run_getObj_map hb, lawDot.check w _ hkey, h1, Result.andThen]
 ·obtain ⟨d', hd', hk, hv⟩ := hE.at_ e0 (List.mem_of_getElem? h2)
  obtain rfl : d' = d := dv_inj (hk.symm.trans h3)
  rw [← hv]
  simp [Instr.lookup, run_underlying mapDots, MapKept.run_getObj_map hb, lawDot.check w _ hkey, h1, Result.andThen]
theorem butf_setBlock {w : World} {b : Nat} {es es' : Array MapEntry} {clock clock' : Nat} (hb : w.heap[b]? = some (.map es clock)) : ButF (fun k => k = b) w (setBlock w b (.map es' clock')) :=
 ⟨rfl, rfl, rfl, by simp [setBlock], fun k _ hn => heap_setBlock_other hb _ hn⟩
theorem MapAt.entry {w : World} {b : Nat} {V : PDot → Value} (h : MapAt w b V) {d : PDot} (hd : dotOk d) :
  ∃ (st : Nat) (w1 : World), (Instr.mapEntry 109 (.map (some b)) (dv d)).run Tryz.prog w = .ok (.tuple #[V d, goInt st]) w1 ∧ MapAt w1 b V ∧ StampAt w1 b d st ∧ ButF (fun k => k = b) w w1 ∧ w1.heap.size = w.heap.size := by
 obtain ⟨es, clock, hb, hE⟩ := h
 have hkey := keyOf_dot hd
 rcases lawDot.find w hkey es.toList hE.reads with ⟨h1, h2⟩ | ⟨j, e0, h1, h2, h3⟩
 ·have hV := hE.none_ d h2
  refine ⟨clock, setBlock w b (.map (es.push ⟨dv d, .slice none 0 0, clock⟩) (clock + 1)), ?_, ⟨_, _, heap_setBlock_same hb _, ?_⟩, ⟨_, _, heap_setBlock_same hb _, ⟨dv d, .slice none 0 0, clock⟩, by simp, rfl, rfl⟩, butf_setBlock hb, by simp [setBlock]⟩
  ·rw [hV]
   simp [Instr.mapEntry, run_underlying mapDots, MapKept.run_getObj_map hb, lawDot.check w false hkey, h1, MapKept.run_setObj_map _ hb, Result.andThen, setBlock]
  ·constructor
   ·intro e he
    simp only [Array.toList_push, List.mem_append, List.mem_singleton] at he
    rcases he with he | rfl
    ·exact hE.at_ e he
    ·exact ⟨d, hd, rfl, hV.symm⟩
   ·intro e he
    simp only [Array.toList_push, List.mem_append, List.mem_singleton] at he
    rcases he with he | rfl
    ·exact Nat.lt_succ_of_lt (hE.born e he)
    ·exact Nat.lt_succ_self _
   ·simp only [Array.toList_push, List.map_append, List.map_cons, List.map_nil]
    refine List.nodup_append.2 ⟨hE.once, by simp, fun a ha c hc e1 => ?_⟩
    simp only [List.mem_singleton] at hc
    obtain ⟨x, hx, rfl⟩ := List.mem_map.1 ha
    have := hE.born x hx
    omega
   ·simp only [Array.toList_push, List.map_append, List.map_cons, List.map_nil]
    refine List.nodup_append.2 ⟨hE.keys, by simp, fun a ha c hc e1 => ?_⟩
    simp only [List.mem_singleton] at hc
    obtain ⟨x, hx, rfl⟩ := List.mem_map.1 ha
    exact h2 x hx (e1.trans hc)
   ·intro d' hn
    refine hE.none_ d' fun e he => hn e ?_
    simp [he]
 ·have hm0 : e0 ∈ es.toList := List.mem_of_getElem? h2
  have hj : es[j]? = some e0 := by simpa using h2
  obtain ⟨d', hd', hk, hv⟩ := hE.at_ e0 hm0
  obtain rfl : d' = d := dv_inj (hk.symm.trans h3)
  have hsame : es.modify j (fun e => { e with key := dv d' }) = es := by
   apply Array.ext'
   rw [Array.toList_modify, modify_eq_set _ _ _ _ h2]
   have : ({ e0 with key := dv d' } : MapEntry) = e0 := by rw [← h3]
   rw [this]
   exact set_self _ _ _ h2
  refine ⟨e0.born, setBlock w b (.map es clock), ?_, ⟨_, _, heap_setBlock_same hb _, hE⟩, ⟨_, _, heap_setBlock_same hb _, e0, hm0, h3, rfl⟩, butf_setBlock hb, by simp [setBlock]⟩
  rw [← hv]
  simp [Instr.mapEntry, run_underlying mapDots, MapKept.run_getObj_map hb, lawDot.check w false hkey, h1, hj, h3, lawDot.stays w hkey, hsame, MapKept.run_setObj_map _ hb, Result.andThen, setBlock]
def vset (V : PDot → Value) (d : PDot) (v : Value) : PDot → Value := fun e => if e = d then v else V e
theorem MapAt.store {w : World} {b : Nat} {V : PDot → Value} (h : MapAt w b V) {d : PDot} {st : Nat} (hs : StampAt w b d st) (hd : dotOk d) (v : Value) :
  ∃ w1, (Instr.entryStore 109 (.map (some b)) (goInt st) v).run Tryz.prog w = .ok () w1 ∧ MapAt w1 b (vset V d v) ∧ ButF (fun k => k = b) w w1 ∧ w1.heap.size = w.heap.size := by
 obtain ⟨es, clock, hb, hE⟩ := h
 obtain ⟨es', clock', hb', e0, hm0, hk0, rfl⟩ := hs
 rw [hb] at hb'
 cases hb'
 obtain ⟨j, hlt, hj'⟩ := List.mem_iff_getElem.1 hm0
 have hj : es.toList[j]? = some e0 := by rw [List.getElem?_eq_getElem hlt, hj']
 have hidx : es.findIdx? (fun e => ((e.born : Nat) : Int) == ((e0.born : Nat) : Int)) = some j := by
  rw [findIdx_arr]
  exact findIdx_born hE.once hj
 have hmod : (es.modify j (fun e => { e with val := v })).toList = es.toList.set j { e0 with val := v } := by
  rw [Array.toList_modify, modify_eq_set _ _ _ _ hj]
 have hmem : ∀ e ∈ (es.modify j (fun e => { e with val := v })).toList, e = { e0 with val := v } ∨ (e ∈ es.toList ∧ e.key ≠ e0.key) := by
  rw [hmod]
  intro e he
  obtain ⟨i, hi, rfl⟩ := List.mem_iff_getElem.1 he
  rw [List.length_set] at hi
  by_cases c : j = i
  ·subst c; left; simp
  ·right
   rw [List.getElem_set_ne c]
   refine ⟨List.getElem_mem _, fun ek => ?_⟩
   have hn := List.pairwise_iff_getElem.1 hE.keys
   have hl : j < (es.toList.map (·.key)).length := by simpa using hlt
   have hl2 : i < (es.toList.map (·.key)).length := by simpa using hi
   have e1 : (es.toList.map (·.key))[j] = e0.key := by rw [List.getElem_map, hj']
   have e2 : (es.toList.map (·.key))[i] = e0.key := by rw [List.getElem_map, ek]
   rcases Nat.lt_or_gt_of_ne c with hc | hc
   ·exact hn j i hl hl2 hc (e1.trans e2.symm)
   ·exact hn i j hl2 hl hc (e2.trans e1.symm)
 refine ⟨setBlock w b (.map (es.modify j (fun e => { e with val := v })) clock), ?_, ⟨_, _, heap_setBlock_same hb _, ?_⟩, butf_setBlock hb, by simp [setBlock]⟩
 ·simp [Instr.entryStore, MapKept.run_getObj_map hb, asInt, asIntOf, goInt, hidx, MapKept.run_setObj_map _ hb, Result.andThen, setBlock]
 ·constructor
  ·intro e he
   rcases hmem e he with rfl | ⟨h1, h2⟩
   ·exact ⟨d, hd, hk0, by unfold vset; rw [if_pos rfl]⟩
   ·obtain ⟨d', hd', hk', hv'⟩ := hE.at_ e h1
    refine ⟨d', hd', hk', ?_⟩
    unfold vset
    rw [if_neg (fun ed => h2 (by rw [hk', hk0, ed])), hv']
  ·intro e he
   rcases hmem e he with rfl | ⟨h1, h2⟩
   ·exact hE.born e0 hm0
   ·exact hE.born e h1
  ·rw [hmod, List.map_set]
   rw [set_self _ _ _ (by simp [hj])]
   exact hE.once
  ·rw [hmod, List.map_set]
   rw [set_self _ _ _ (by simp [hj])]
   exact hE.keys
  ·intro d' hn
   have hne : d' ≠ d := fun ed => hn { e0 with val := v } (by rw [hmod]; exact List.mem_set hlt _) (by rw [ed]; exact hk0)
   unfold vset
   rw [if_neg hne]
   refine hE.none_ d' fun e he => ?_
   obtain ⟨i, hi, rfl⟩ := List.mem_iff_getElem.1 he
   by_cases c : j = i
   ·subst c
    rw [hj', hk0]
    exact fun ek => hne (dv_inj ek).symm
   ·exact hn _ (by rw [hmod]; rw [show es.toList[i] = (es.toList.set j { e0 with val := v })[i]'(by simpa using hi) from (List.getElem_set_ne c _).symm]; exact List.getElem_mem _)
end Go.Proofs.YtpnpomocjkmncaaGreat
