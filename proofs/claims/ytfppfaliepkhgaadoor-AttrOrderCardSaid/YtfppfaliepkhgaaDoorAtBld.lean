/- Package attr: texts in quotes, read and written: by a strings.Builder. -/
import Derived.Test.YtfppfaliepkhgaaDoorAtFns
import Derived.Test.YtfppfaliepkhgaaDoorBldS
import Derived.Deep.DeepCutAuto
namespace Go.Proofs.YtfppfaliepkhgaaDoor
open Go.RowKit
attribute [local go_sem] canOp readsAs readUpon

theorem bcells_append (a b : List UInt8) : bcells (a ++ b) = bcells a ++ bcells b := by simp [bcells]
theorem ext_allocs (w : World) (o : Obj) : Below w.heap.size w (w.alloc o) := (Below.refl _ w).alloc (Nat.le_refl _) _
theorem fresh_bld (w : World) : IsB w.heap.size w.heap.size (bcells []) (w.alloc (.cells #[.pointer none, .slice none 0 0] 71)) :=
  Lib.IsBuilderF.of (Lib.fresh_isBuilder 71 5 w)
theorem bld_string (B b : Nat) (l : List UInt8) (w : World) (h : IsB B b (bcells l) w) (hBw : B ≤ w.heap.size) :
    Calls Tryd.prog 43 #[.pointer (some ⟨b, 0, none⟩)] w fun e w' => e = .returned (.string (bs l)) ∧ Below B w w' :=
  (Tryd.Builder_String_any_k B b l w h hBw).mono fun _ _ ⟨he, _, hb, _⟩ => ⟨he, hb⟩
theorem bld_len (B b : Nat) (l : List UInt8) (w : World) (h : IsB B b (bcells l) w) :
    Calls Tryd.prog 57 #[.pointer (some ⟨b, 0, none⟩)] w fun e w' => e = .returned (.int .i64 (l.length : Int)) ∧ w' = w :=
  (Tryd.Builder_Len_f B b (bcells l) w h).mono fun _ _ ⟨he, hw⟩ => ⟨by rw [he]; simp [bcells], hw⟩
theorem bcells_len (l : List UInt8) : (bcells l).length = l.length := by simp [bcells]
/-- one byte more -/
theorem bld_more {B b : Nat} {t : List UInt8} {c : UInt8} {w : World} (h : IsB B b (bcells t ++ [.int .u8 (c.toNat : Int)]) w) : IsB B b (bcells (t ++ [c])) w := by
  rw [bcells_append]; exact h

/-- what is read from place k on, behind the text t -/
def uAt (l : List UInt8) (k : Nat) (t : List UInt8) : Option (List UInt8 × Nat) := (At.qd (l.drop k)).map fun x => (t ++ x.1, k + x.2)
theorem uAt_start (l : List UInt8) : uAt l 0 [] = At.qd l := by
  unfold uAt
  rw [List.drop_zero]
  cases At.qd l with
  | none => rfl
  | some x => simp
theorem uAt_nil {l : List UInt8} {k : Nat} {t : List UInt8} (h : ¬ k < l.length) : uAt l k t = none := by
  unfold uAt; rw [List.drop_eq_nil_of_le (by omega), At.qd_nil]; rfl
theorem uAt_end {l : List UInt8} {k : Nat} {t : List UInt8} (hk : k < l.length) (h : l[k] = 34) : uAt l k t = some (t, k + 1) := by
  unfold uAt; rw [List.drop_eq_getElem_cons hk, h, At.qd_end]; simp
theorem uAt_one {l : List UInt8} {k : Nat} {t : List UInt8} (hk : k < l.length) (h : l[k] ≠ 34) (h' : l[k] ≠ 92) : uAt l k t = uAt l (k + 1) (t ++ [l[k]]) := by
  unfold uAt; rw [List.drop_eq_getElem_cons hk, At.qd_one _ h h']
  cases At.qd (l.drop (k + 1)) with
  | none => rfl
  | some x => simp; omega
theorem uAt_last {l : List UInt8} {k : Nat} {t : List UInt8} (hk : k < l.length) (h : l[k] = 92) (hk' : ¬ k + 1 < l.length) : uAt l k t = none := by
  unfold uAt; rw [List.drop_eq_getElem_cons hk, h, List.drop_eq_nil_of_le (by omega), At.qd_last]; rfl
theorem uAt_esc {l : List UInt8} {k : Nat} {t : List UInt8} (hk : k + 1 < l.length) (h : l[k] = 92) (h' : l[k + 1] = 34 ∨ l[k + 1] = 92) : uAt l k t = uAt l (k + 2) (t ++ [l[k + 1]]) := by
  unfold uAt; rw [List.drop_eq_getElem_cons (show k < l.length by omega), h, List.drop_eq_getElem_cons hk, At.qd_esc _ h']
  cases At.qd (l.drop (k + 2)) with
  | none => simp_all
  | some x => simp_all; omega
theorem uAt_bad {l : List UInt8} {k : Nat} {t : List UInt8} (hk : k + 1 < l.length) (h : l[k] = 92) (h' : ¬ (l[k + 1] = 34 ∨ l[k + 1] = 92)) : uAt l k t = none := by
  unfold uAt; rw [List.drop_eq_getElem_cons (show k < l.length by omega), h, List.drop_eq_getElem_cons hk, At.qd_bad _ h']; rfl

/-- the text, and what is behind the last quote -/
def uqv (l : List UInt8) : Option (List UInt8 × Nat) → Value
  | none => .tuple #[.string ⟨#[]⟩, .string ⟨#[]⟩, .bool false]
  | some x => .tuple #[.string (bs x.1), .string (bs (l.drop x.2)), .bool true]

set_option maxHeartbeats 4000000 in
set_option maxRecDepth 100000 in
theorem unquote_any (l : List UInt8) (w : World) (hl : l.length ≤ 1000000000) :
    Calls Tryd.prog 75 #[.string (bs l)] w fun e w' => e = .returned (uqv l (At.qd l)) ∧ Below w.heap.size w w' := by
  have hsz := bs_size l
  obtain ⟨V, hV⟩ : ∃ V, At.qd l = V := ⟨_, rfl⟩
  rw [hV]
  have hst : Hid (V = uAt l 0 []) := Lib.hid (by rw [uAt_start, hV])
  clear hV
  go_enter Tryd.func75, Tryd.ntmps75
  go_wp2_with fail
  go_loopw [6] (fun u wr => ∃ (t : List UInt8) (k : Nat), k ≤ l.length ∧ t.length ≤ k ∧ u = .int .i64 (k : Int) ∧ IsB w.heap.size w.heap.size (bcells t) wr ∧ Hid (V = uAt l k t) ∧ Below w.heap.size w wr) (fun u _ => l.length - (intOf u).toNat)
  case atStart => exact ⟨[], 0, by omega, by simp, rfl, fresh_bld w, hst, ext_allocs _ _⟩
  case round =>
    obtain ⟨t, k, hk, htk, rfl, hI, hf, hb⟩ := hrel
    have hz := hb.size
    have htl := bcells_len t
    by_cases hlt : k < l.length
    · have hx := run_byte hlt
      by_cases h34 : l[k] = 34
      · have g1 := byte_eq (n := 34) (by omega) h34
        have hdf := run_from (S := l) (i := k + 1) (by omega)
        rw [show ((k + 1 : Nat) : Int) = (k : Int) + 1 from by omega] at hdf
        have hw1 : IntKind.i64.wrap ((k : Int) + 1) = (k : Int) + 1 := by rw [IntKind.wrap_i64]; omega
        have hfin : Hid (uqv l V = .tuple #[.string (bs t), .string (bs (l.drop (k + 1))), .bool true]) := Lib.hid (by rw [hf.out, uAt_end hlt h34]; rfl)
        obtain ⟨T, hT⟩ : ∃ T, l.drop (k + 1) = T := ⟨_, rfl⟩
        rw [hT] at hdf hfin
        clear h34 hT
        go_wp2_with fail
        refine wp_region_can [(true, 1), (true, 2), (true, 3), (true, 4), (false, 0), (true, 5), (true, 6), (true, 7)] (fun _ => True) trivial (by kernel_rfl) (by kernel_rfl) (by kernel_rfl) (fun _ _ d _ _ h => by cases d <;> exact h) ?_
        repeat (first | refine wpCan_move rfl ?_ | (refine wpCan_cons rfl ?_; intro K hK; go_simp; refine hK _ _ _ ?_; clear hK K))
        refine wpCan_cons rfl ?_
        intro K hK
        go_simp
        refine (bld_string w.heap.size w.heap.size t wr.drew hI hz).mono ?_
        rintro e w3 ⟨rfl, hb3⟩
        refine ⟨fun _ => True, trivial, hK _ _ _ ?_⟩
        clear hK K
        repeat (first | refine wpCan_move rfl ?_ | (refine wpCan_cons rfl ?_; intro K hK; go_simp; refine hK _ _ _ ?_; clear hK K))
        refine wpCan_nil ?_
        go_wp2_with fail
        go_returns
        exact ⟨by rw [hfin.out]; rfl, hb.drew.trans hb3⟩
      · have g1 := byte_ne (n := 34) (by omega) h34
        by_cases h92 : l[k] = 92
        · have g2 := byte_eq (n := 92) (by omega) h92
          by_cases hlt2 : k + 1 < l.length
          · have hx2 := fun w => run_byte_at (v := (k : Int) + 1) hlt2 (by omega) w
            have hkl : ((k : Int) + 1 == (l.length : Int)) = false := beq_eq_false_iff_ne.2 (by omega)
            by_cases hc : l[k + 1] = 34 ∨ l[k + 1] = 92
            · have hf2 := Lib.hid (hf.out.trans (uAt_esc hlt2 h92 hc))
              have hc2 : (((l[k + 1].toNat : Int) != 34) = false) ∨ (((l[k + 1].toNat : Int) != 34) = true ∧ ((l[k + 1].toNat : Int) != 92) = false) := by
                rcases hc with hc | hc <;> rw [hc]
                · exact .inl rfl
                · exact .inr ⟨rfl, rfl⟩
              obtain ⟨b, hbb⟩ : ∃ b, l[k + 1] = b := ⟨_, rfl⟩
              rw [hbb] at hx2 hc2 hf2
              clear hc hbb h92 h34
              rcases hc2 with g3 | ⟨g3, g4⟩
              all_goals
                go_wp2_with (go_at_call 58; refine (writeByte_any w.heap.size w.heap.size _ (b.toNat : Int) _ hI (by omega) hz).mono ?_; rintro e w2 ⟨rfl, h1, b1, k1⟩)
                go_roundw
                case rel => exact ⟨t ++ [b], k + 2, by omega, by simp; omega, by go_num, bld_more h1, hf2, hb.trans b1⟩
                case measure => simp [intOf]; omega
            · have hfin : Hid (V = none) := Lib.hid (hf.out.trans (uAt_bad hlt2 h92 hc))
              have g3 : ((l[k + 1].toNat : Int) != 34) = true := by have h3 : ((l[k + 1].toNat : Int) == 34) = false := byte_ne (n := 34) (by omega) (fun h => hc (.inl h)); rw [bne, h3]; rfl
              have g4 : ((l[k + 1].toNat : Int) != 92) = true := by have h3 : ((l[k + 1].toNat : Int) == 92) = false := byte_ne (n := 92) (by omega) (fun h => hc (.inr h)); rw [bne, h3]; rfl
              clear hc h92 h34
              go_wp2_with fail
              go_returns
              exact ⟨by rw [hfin.out]; rfl, hb⟩
          · have hfin : Hid (V = none) := Lib.hid (hf.out.trans (uAt_last hlt h92 hlt2))
            have hkl : ((k : Int) + 1 == (l.length : Int)) = true := beq_iff_eq.2 (by omega)
            clear h92 h34
            go_wp2_with fail
            go_returns
            exact ⟨by rw [hfin.out]; rfl, hb⟩
        · have g2 := byte_ne (n := 92) (by omega) h92
          have hf2 := Lib.hid (hf.out.trans (uAt_one hlt h34 h92))
          obtain ⟨b, hbb⟩ : ∃ b, l[k] = b := ⟨_, rfl⟩
          rw [hbb] at hx g1 g2 hf2
          clear h92 h34 hbb
          go_wp2_with (go_at_call 58; refine (writeByte_any w.heap.size w.heap.size _ (b.toNat : Int) _ hI (by omega) hz).mono ?_; rintro e w2 ⟨rfl, h1, b1, k1⟩)
          go_roundw
          case rel => exact ⟨t ++ [b], k + 1, by omega, by simp; omega, by go_num, bld_more h1, hf2, hb.trans b1⟩
          case measure => simp [intOf]; omega
    · have hfin : Hid (V = none) := Lib.hid (by rw [hf.out, uAt_nil hlt])
      go_wp2_with fail
      go_returns
      exact ⟨by rw [hfin.out]; rfl, hb⟩

set_option maxHeartbeats 4000000 in
set_option maxRecDepth 100000 in
theorem quote_any (l : List UInt8) (w : World) (hl : l.length ≤ 1000000000) :
    Calls Tryd.prog 61 #[.string (bs l)] w fun e w' => e = .returned (.string (bs (34 :: (At.esc l ++ [34])))) ∧ Below w.heap.size w w' := by
  have hsz := bs_size l
  obtain ⟨V, hV⟩ : ∃ V, 34 :: (At.esc l ++ [34]) = V := ⟨_, rfl⟩
  rw [hV]
  replace hV := Lib.hid hV
  go_enter Tryd.func61, Tryd.ntmps61
  go_wp2_with (go_at_call 58; refine (writeByte_any w.heap.size w.heap.size (bcells []) 34 _ (fresh_bld w) (by simp [bcells]) (by simp)).mono ?_; rintro e w1 ⟨rfl, h1, b1, k1⟩)
  replace h1 : IsB w.heap.size w.heap.size (bcells [34]) w1 := h1
  have hb1 := Lib.hid ((ext_allocs w (.cells #[.pointer none, .slice none 0 0] 71)).trans b1)
  go_loopw [8] (fun u wr => ∃ (t : List UInt8) (k : Nat), k ≤ l.length ∧ t.length ≤ 1 + 2 * k ∧ u = .int .i64 (k : Int) ∧ IsB w.heap.size w.heap.size (bcells t) wr ∧ Hid (t ++ At.esc (l.drop k) = 34 :: At.esc l) ∧ Below w.heap.size w wr) (fun u _ => l.length - (intOf u).toNat)
  case atStart => exact ⟨[34], 0, by omega, by simp, rfl, h1, Lib.hid rfl, hb1.out⟩
  case round =>
    obtain ⟨t, k, hk, htk, rfl, hI, hf, hb⟩ := hrel
    have hz := hb.size
    have htl := bcells_len t
    rcases Nat.lt_or_eq_of_le hk with hlt | rfl
    · have hx := run_byte hlt
      have hn := esc_at hlt hf.out
      by_cases hc : l[k] = 34 ∨ l[k] = 92
      · have hf2 := Lib.hid (hn.1 hc)
        have hc2 : (((l[k].toNat : Int) == 34) = true) ∨ (((l[k].toNat : Int) == 34) = false ∧ ((l[k].toNat : Int) == 92) = true) := by
          rcases hc with hc | hc <;> rw [hc]
          · exact .inl rfl
          · exact .inr ⟨rfl, rfl⟩
        obtain ⟨b, hbb⟩ : ∃ b, l[k] = b := ⟨_, rfl⟩
        rw [hbb] at hx hf2 hc2
        clear hc hn hbb
        have htl2 := bcells_len (t ++ [92])
        rw [List.length_append] at htl2
        rcases hc2 with g1 | ⟨g1, g2⟩
        all_goals
          go_wp2_with fail
          refine (writeByte_any w.heap.size w.heap.size _ 92 _ hI (by omega) hz).mono ?_
          rintro e w2 ⟨rfl, h2, b2, k2⟩
          replace h2 := bld_more (c := 92) h2
          have hz2 := Nat.le_trans hz b2.size
          replace b2 := Lib.hid (hb.trans b2)
          go_wp2_with fail
          refine (writeByte_any w.heap.size w.heap.size _ (b.toNat : Int) _ h2 (by simp at htl2 ⊢; omega) hz2).mono ?_
          rintro e w3 ⟨rfl, h3, b3, k3⟩
          go_wp2_with fail
          go_roundw
          case rel => exact ⟨t ++ [92] ++ [b], k + 1, by omega, by simp; omega, by go_num, bld_more h3, hf2, b2.out.trans b3⟩
          case measure => simp [intOf]; omega
      · have hf2 := Lib.hid (hn.2 hc)
        have g1 : ((l[k].toNat : Int) == 34) = false := byte_ne (n := 34) (by omega) (fun h => hc (.inl h))
        have g2 : ((l[k].toNat : Int) == 92) = false := byte_ne (n := 92) (by omega) (fun h => hc (.inr h))
        obtain ⟨b, hbb⟩ : ∃ b, l[k] = b := ⟨_, rfl⟩
        rw [hbb] at hx hf2 g1 g2
        clear hc hn hbb
        go_wp2_with (go_at_call 58; refine (writeByte_any w.heap.size w.heap.size _ (b.toNat : Int) _ hI (by omega) hz).mono ?_; rintro e w2 ⟨rfl, h1, b1, k1⟩)
        go_roundw
        case rel => exact ⟨t ++ [b], k + 1, by omega, by simp; omega, by go_num, bld_more h1, hf2, hb.trans b1⟩
        case measure => simp [intOf]; omega
    · have hfin : Hid (t ++ [34] = V) := Lib.hid (by
        have := hf.out
        rw [List.drop_length] at this
        rw [← hV.out, ← List.cons_append, ← this]; simp [At.esc])
      go_wp2_with fail
      refine (writeByte_any w.heap.size w.heap.size _ 34 _ hI (by omega) hz).mono ?_
      rintro e w2 ⟨rfl, h2, b2, k2⟩
      replace h2 := bld_more (c := 34) h2
      rw [hfin.out] at h2
      have hz2 := Nat.le_trans hz b2.size
      replace b2 := Lib.hid (hb.trans b2)
      go_wp2_with fail
      refine (bld_string w.heap.size w.heap.size _ _ h2 hz2).mono ?_
      rintro e w3 ⟨rfl, b3⟩
      go_wp2_with fail
      go_ret
      exact ⟨rfl, b2.out.trans b3⟩
end Go.Proofs.YtfppfaliepkhgaaDoor
