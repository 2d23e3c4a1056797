/- An argument of type []emph.Run opened as a list of runs. -/
import Derived.Test.YtboeaofcioolnaaDoorOpenI
import Derived.Test.YtboeaofcioolnaaDoorEmMem
import Derived.ChangeArms
import Derived.WideShapes
namespace Go.Proofs.YtboeaofcioolnaaDoor
open Go.ChangeShapes Go.WideShapes Go.ChangeAt Go.RowKit

theorem list4 {α : Type} {l : List α} (h : l.length = 4) : ∃ c0 c1 c2 c3, l = [c0, c1, c2, c3] := by
  match l, h with
  | [c0, c1, c2, c3], _ => exact ⟨c0, c1, c2, c3, rfl⟩
theorem one_cellR {a b : Value} (h : [a] = [b]) : a = b := by injection h

section
variable {H : Type} {enc : TypeId × Value → H} {W : World}
/-- one run: four cells -/
theorem open_run {n : Nat} {cs : List Value} {y : DataW H × List MemPlace} (h : DataW.trod enc Tryd.prog W 0 (fun _ => true) true n 29 cs = some y) : ∃ r : Em.R, cs = acell r := by
  obtain ⟨xs, m, _, _, hl, hlen, hg⟩ := DataW.trod_struct Tryd.underlying29 h
  obtain ⟨c0, c1, c2, c3, rfl⟩ := list4 (hl.trans (by kernel_rfl))
  obtain ⟨y0, y1, y2, y3, rfl⟩ := list4 (hlen.trans rfl)
  have k8 : Tryd.prog.cellsOf 5 = 1 := by kernel_rfl
  have ki : Tryd.prog.cellsOf 3 = 1 := by kernel_rfl
  have kb : Tryd.prog.cellsOf 4 = 1 := by kernel_rfl
  have g0 : DataW.trod enc Tryd.prog W 0 (fun _ => true) true m 5 (([c0, c1, c2, c3].drop 0).take (Tryd.prog.cellsOf 5)) = some y0 := hg 0 _ rfl
  have g1 : DataW.trod enc Tryd.prog W 0 (fun _ => true) true m 3 (([c0, c1, c2, c3].drop 1).take (Tryd.prog.cellsOf 3)) = some y1 := hg 1 _ rfl
  have g2 : DataW.trod enc Tryd.prog W 0 (fun _ => true) true m 4 (([c0, c1, c2, c3].drop 2).take (Tryd.prog.cellsOf 4)) = some y2 := hg 2 _ rfl
  have g3 : DataW.trod enc Tryd.prog W 0 (fun _ => true) true m 4 (([c0, c1, c2, c3].drop 3).take (Tryd.prog.cellsOf 4)) = some y3 := hg 3 _ rfl
  rw [k8] at g0
  rw [ki] at g1
  rw [kb] at g2 g3
  obtain ⟨s0, e0, _, hw0⟩ := DataW.trod_int Tryd.underlying5 g0
  obtain ⟨s1, e1, _, _⟩ := DataW.trod_int Tryd.underlying3 g1
  obtain ⟨s2, e2, _⟩ := DataW.trod_bool Tryd.underlying4 g2
  obtain ⟨s3, e3, _⟩ := DataW.trod_bool Tryd.underlying4 g3
  obtain rfl : c0 = .int .u8 s0 := one_cellR e0
  obtain rfl : c1 = .int .i64 s1 := one_cellR e1
  obtain rfl : c2 = .bool s2 := one_cellR e2
  obtain rfl : c3 = .bool s3 := one_cellR e3
  have hb : 0 ≤ s0 ∧ s0 ≤ 255 := bounds_u8 hw0
  refine ⟨⟨UInt8.ofNat s0.toNat, s1, s2, s3⟩, ?_⟩
  have e : (((UInt8.ofNat s0.toNat).toNat : Nat) : Int) = s0 := by rw [UInt8.toNat_ofNat']; omega
  unfold acell
  simp only [e]
theorem open_runs {fs : Array Field} {a0 : Option Addr} {len cap : Nat} {d : DataW H} {p : List MemPlace} (ht : Tryd.prog.underlying 24 = some (.slice 29)) (_he : Tryd.prog.underlying 29 = some (.struct fs)) (hc : Tryd.prog.cellsOf 29 = 4)
    (h : DataW.Trod enc Tryd.prog W 0 (fun _ => true) true 24 (.slice a0 len cap) d p) :
    ∃ l : List Em.R, l.length = len ∧ len ≤ cap ∧ cap ≤ maxLen ∧ Row W W.heap.size 4 a0 len (acells l) ∧ len + 1 ≤ Rows.uptoBulk d := by
  obtain ⟨fuel, hf⟩ := h
  rcases DataW.trod_slice ht hf with ⟨hcs, hx⟩ | ⟨a, len', cap', elems, rest, n, _, hcs, hx, _, hl, hm, hlen, hel, _, _⟩
  · simp [Value.cells] at hcs
    obtain ⟨rfl, rfl, rfl⟩ := hcs
    exact ⟨[], rfl, Nat.le_refl _, Nat.zero_le _, Row.nil, bulk_one d⟩
  · simp [Value.cells] at hcs
    obtain ⟨rfl, rfl, rfl⟩ := hcs
    rw [hc] at hel
    have hb : len + 1 ≤ Rows.uptoBulk d := by
      injection hx with hx1 _
      subst hx1
      have := bulk_len (elems.map (·.1))
      rw [List.length_map] at this
      simp only [Rows.uptoBulk]
      omega
    have each : ∀ i, i < len → ∃ r : Em.R, ∀ j u, (acell r)[j]? = some u → W.cell? ((a.add (i * 4)).add j) = some u := by
      intro i hi
      have h1 := hel i hi
      rw [List.getElem?_eq_getElem (by omega), Option.bind_eq_some_iff] at h1
      obtain ⟨cs, hcs, hy⟩ := h1
      obtain ⟨r, rfl⟩ := open_run hy
      refine ⟨r, fun j u hu => ?_⟩
      have hj : j < 4 := by have := (List.getElem?_eq_some_iff.1 hu).1; simpa [acell] using this
      have := (World.cells?_some hcs).2.2 j hj
      rw [hu] at this
      exact this
    have all : ∀ k, k ≤ len → ∃ l : List Em.R, l.length = k ∧ ∀ i (hi : i < l.length), ∀ j u, (acell l[i])[j]? = some u → W.cell? ((a.add (i * 4)).add j) = some u := by
      intro k
      induction k with
      | zero => exact fun _ => ⟨[], rfl, fun i hi => by simp at hi⟩
      | succ k ih =>
        intro hk
        obtain ⟨l, hl1, hl2⟩ := ih (by omega)
        obtain ⟨r, hr⟩ := each k (by omega)
        refine ⟨l ++ [r], by simp [hl1], fun i hi j u hu => ?_⟩
        by_cases hik : i < l.length
        · rw [List.getElem_append_left hik] at hu; exact hl2 i hik j u hu
        · have hie : i = k := by simp at hi; omega
          subst hie
          rw [List.getElem_append_right (by omega)] at hu
          simp only [hl1, Nat.sub_self, List.getElem_cons_zero] at hu
          exact hr j u hu
    obtain ⟨l, hl1, hl2⟩ := all len (Nat.le_refl _)
    refine ⟨l, hl1, hl, hm, ⟨by rw [← hl1, acells_len], fun hn => ?_⟩, hb⟩
    have h0 := hl2 0 (by omega) 0 _ (by simp [acell]; rfl)
    obtain ⟨b, off, spot⟩ := a
    have hspot : spot = none := by
      have := World.cell?_spot h0
      simpa [Addr.add] using this
    subst hspot
    have hadd : ∀ i j : Nat, ((⟨b, off, none⟩ : Addr).add i).add j = ⟨b, off + (i + j), none⟩ := fun i j => by
      rw [Go.WideShapes.add_plain, Go.WideShapes.add_plain, Nat.add_assoc]
    have hlt : b < W.heap.size := by
      rw [hadd] at h0
      rcases Nat.lt_or_ge b W.heap.size with h' | h'
      · exact h'
      · simp [World.cell?, Array.getElem?_eq_none h'] at h0
    refine ⟨b, off, rfl, hlt, fun j u hu => ?_⟩
    have hjl : j < l.length * 4 := by have := (List.getElem?_eq_some_iff.1 hu).1; rwa [acells_len] at this
    obtain ⟨k, i, hi, rfl⟩ : ∃ k i, i < 4 ∧ j = k * 4 + i := ⟨j / 4, j % 4, by omega, by omega⟩
    have hk : k < l.length := by omega
    have hat := flat_at (f := acell) (m := 4) (fun _ => rfl) l k i hk hi
    rw [acells] at hu
    rw [hat] at hu
    have := hl2 k hk i u hu
    rwa [hadd] at this
end
end Go.Proofs.YtboeaofcioolnaaDoor
