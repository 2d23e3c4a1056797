/- Arguments opened as lists, with what the rows' own bound of memory says of each string and slice. -/
import Derived.Test.YtkhaijcaeoclaaaDoorOpen
import Derived.SizedLaws
namespace Go.Proofs.YtkhaijcaeoclaaaDoor
open Go.ChangeShapes Go.WideShapes Go.ChangeAt Go.RowKit
open Go.ChangeMaps (open_string shut_string)

section
variable {H : Type} {enc : TypeId × Value → H} {P : Program} {W : World}

theorem weights_strs (e : TypeId) (ss : List ByteArray) : ∀ s ∈ ss, s.size ∈ DataW.weightsAll P e (strs (H := H) ss) := by
  induction ss with
  | nil => intro s hs; cases hs
  | cons x r ih =>
    intro s hs
    have hx : strs (H := H) (x :: r) = .lit (.string x.data.toList) :: strs r := rfl
    rw [hx]
    simp only [DataW.weightsAll, DataW.weights, List.mem_append]
    rcases List.mem_cons.1 hs with rfl | hs
    · exact .inl (List.mem_singleton.2 (by rw [Array.length_toList]; rfl))
    · exact .inr (ih s hs)

theorem sized_each {ts : List TypeId} {ds : List (DataW H)} (h : (DataW.weightsEach P ts ds).all (· ≤ reachBytes) = true) {j : Nat} {t : TypeId} {d : DataW H} (ht : ts[j]? = some t) (hd : ds[j]? = some d) : ∀ n ∈ d.weights P t, n ≤ reachBytes := by
  intro n hn
  have := List.all_eq_true.1 h _ (DataW.weights_mem_each ht hd n hn)
  simpa using this

theorem open_texts_sized {t e : TypeId} {a0 : Option Addr} {len cap : Nat} {d : DataW H} {p : List MemPlace} (ht : P.underlying t = some (.slice e)) (he : P.underlying e = some .string) (hc : P.cellsOf e = 1) (hby : P.bytesOf e = 16)
    (h : DataW.Trod enc P W 0 (fun _ => true) true t (.slice a0 len cap) d p) (hw : ∀ n ∈ d.weights P t, n ≤ reachBytes) :
    ∃ ls : List (List UInt8), ls.length = len ∧ len ≤ cap ∧ cap ≤ maxLen ∧ Row W W.heap.size 1 a0 len (scells ls) ∧ len * 16 ≤ reachBytes ∧ ∀ s ∈ ls, s.length ≤ reachBytes := by
  obtain ⟨fuel, hf⟩ := h
  rcases open_strings ht he hc hf with ⟨hcs, hx⟩ | ⟨x, len', cap', ss, hcs, _, hl, hm, hz, hx, hcell, hwz⟩
  · simp [Value.cells] at hcs
    obtain ⟨rfl, rfl, rfl⟩ := hcs
    exact ⟨[], rfl, Nat.le_refl _, Nat.zero_le _, Row.nil, by omega, fun s hs => by cases hs⟩
  · simp [Value.cells] at hcs
    obtain ⟨rfl, rfl, rfl⟩ := hcs
    have hzl : ss.length = cap := by simpa using hz
    refine ⟨(ss.take len).map fun s => s.data.toList, by simp; omega, hl, hm, ⟨by simp [scells]; omega, fun hn => ?_⟩, ?_, ?_⟩
    · have h0 := hcell 0 (by omega)
      obtain ⟨b, off, spot⟩ := x
      have hspot : spot = none := by simpa [Addr.add] using World.cell?_spot h0
      subst hspot
      have hlt : b < W.heap.size := by
        rcases Nat.lt_or_ge b W.heap.size with h' | h'
        · exact h'
        · simp [World.cell?, Addr.add, Array.getElem?_eq_none h'] at h0
      refine ⟨b, off, rfl, hlt, fun j u hu => ?_⟩
      simp only [scells, List.map_map, List.getElem?_map, List.getElem?_take] at hu
      split at hu
      · rename_i hj
        have hjz : j < ss.length := by omega
        rw [List.getElem?_eq_getElem hjz] at hu
        simp only [Option.map_some, Option.some.injEq] at hu
        have := hcell j hjz
        rw [Go.WideShapes.add_plain] at this
        rw [this, ← hu]
        simp only [Function.comp, bs, List.getD_eq_getElem?_getD, List.getElem?_eq_getElem hjz, Option.getD_some]
      · simp at hu
    · injection hx with hx1 _
      subst hx1
      have := hw ((ss.take len).length * 16 + (ss.drop len).length * 16) (by
        simp only [DataW.weights, ht, hby, List.mem_cons]
        exact .inl (by simp [strs]; omega))
      have h2 : (ss.take len).length = len := by rw [List.length_take]; omega
      omega
    · injection hx with hx1 _
      subst hx1
      intro s hs
      obtain ⟨b, hb, rfl⟩ := List.mem_map.1 hs
      exact hw _ (by
        simp only [DataW.weights, ht, List.mem_cons, List.mem_append]
        exact .inr (.inl (weights_strs e _ b hb)))
end
end Go.Proofs.YtkhaijcaeoclaaaDoor
