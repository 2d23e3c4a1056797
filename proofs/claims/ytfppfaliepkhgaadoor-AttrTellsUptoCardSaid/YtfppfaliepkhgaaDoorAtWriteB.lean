/- The document's own answer of chapter 5: an info, written: no language, append true, noline false; no language, append true, noline true. -/
import Derived.Test.YtfppfaliepkhgaaDoorAtWriteR
namespace Go.Proofs.YtfppfaliepkhgaaDoor
open Go.RowKit
attribute [local go_sem] canOp readsAs readUpon

set_option maxHeartbeats 8000000 in
set_option maxRecDepth 100000 in
theorem rwrite_nil_a_n (an nm fl sy : List UInt8) (w : World) (ha : At.fits ⟨an, nm, fl, sy, true, false⟩) (hlang : an = []) :
    Calls Tryd.prog 11 #[.agg (acells ⟨an, nm, fl, sy, true, false⟩)] w fun e w' => e = .returned (.string (bs (At.write ⟨an, nm, fl, sy, true, false⟩))) ∧ Below w.heap.size w w' := by
  have hf := ha
  obtain ⟨hf1, hf2, hf3, hf4⟩ := ha
  simp only at hf1 hf2 hf3 hf4
  have hA := heap_alloc_new w (.cells #[.string (bs an), .string (bs nm), .string (bs fl), .string (bs sy), .bool true, .bool false] 27)
  have hBA := Lib.hid (ext_alloc w (.cells #[.string (bs an), .string (bs nm), .string (bs fl), .string (bs sy), .bool true, .bool false] 27))
  have hu0 : At.upto ⟨an, nm, fl, sy, true, false⟩ 0 = if an = [] then [] else [an] := by simp [At.upto]
  change Calls Tryd.prog 11 #[.agg #[.string (bs an), .string (bs nm), .string (bs fl), .string (bs sy), .bool true, .bool false]] w _
  obtain ⟨a, haa⟩ : ∃ a : At.Attr, a = ⟨an, nm, fl, sy, true, false⟩ := ⟨_, rfl⟩
  rw [← haa] at hu0 hf ⊢
  have htc : trioCells a = #[.string ⟨#[110, 97, 109, 101]⟩, .string (bs nm), .bool false, .string ⟨#[102, 105, 108, 101]⟩, .string (bs fl), .bool false, .string ⟨#[99, 111, 109, 109, 101, 110, 116]⟩, .string (bs sy), .bool false] := by rw [haa]; rfl
  replace haa := Lib.hid haa
  replace htc := Lib.hid htc
  have han : an = [] := hlang
  clear hlang
  rw [han, if_pos rfl] at hu0
  rw [han] at hA hBA
  rw [han]
  have ht := text_nil
  go_enter Tryd.func11, Tryd.ntmps11
  go_wp2_with fail
  have hown2 : (w.alloc (.cells #[.string (bs []), .string (bs nm), .string (bs fl), .string (bs sy), .bool true, .bool false] 27)).ownsRow (w.heap.size + 1) 9 1 (.slice none 0 0) (At.upto a 0).length (scells (At.upto a 0)) := by rw [hu0]; exact World.ownsRow_nil _ _ _ _
  have hb2 : Below w.heap.size w (w.alloc (.cells #[.string (bs []), .string (bs nm), .string (bs fl), .string (bs sy), .bool true, .bool false] 27)) := hBA.out
  have hA2 := hA
  have hs2 : w.heap.size + 1 ≤ (w.alloc (.cells #[.string (bs []), .string (bs nm), .string (bs fl), .string (bs sy), .bool true, .bool false] 27)).heap.size := by simp
  obtain ⟨w2, hw2⟩ : ∃ w2, w.alloc (.cells #[.string (bs []), .string (bs nm), .string (bs fl), .string (bs sy), .bool true, .bool false] 27) = w2 := ⟨_, rfl⟩
  rw [hw2] at hown2 hb2 hA2 hs2 ⊢
  have e2 : w2.heap.size = w.heap.size + 1 := by rw [← hw2]; simp
  rw [← e2]
  rw [← han] at hA2
  clear hw2 hA hBA ht han e2
  have hgt := heap_alloc_new w2 (.cells (trioCells a) 46)
  have hA3 := (keep hA2 (ext_alloc w2 (.cells (trioCells a) 46))).1
  have hown3 := own_below hown2 (ext_alloc w2 (.cells (trioCells a) 46))
  have hb3 := hb2.alloc (by omega) (.cells (trioCells a) 46)
  rw [htc.out] at hgt hA3 hown3 hb3
  rw [← htc.out] at hgt
  obtain ⟨wb, hwb⟩ : ∃ wb, w2.alloc (.cells #[.string ⟨#[110, 97, 109, 101]⟩, .string (bs nm), .bool false, .string ⟨#[102, 105, 108, 101]⟩, .string (bs fl), .bool false, .string ⟨#[99, 111, 109, 109, 101, 110, 116]⟩, .string (bs sy), .bool false] 46) = wb := ⟨_, rfl⟩
  rw [htc.out, hwb, ← htc.out] at hgt
  rw [hwb] at hA3 hown3 hb3 ⊢
  have hgl : w.heap.size < w2.heap.size := by omega
  obtain ⟨gt, hgg⟩ : ∃ g, w2.heap.size = g := ⟨_, rfl⟩
  rw [hgg] at hgt hgl ⊢
  clear hwb hgg hA2 hown2 hb2 hs2
  replace hgt := Lib.hid hgt
  replace hA3 := Lib.hid hA3
  go_loopw [3, 30] (fun vl u wr => ∃ k : Nat, k ≤ 3 ∧ u = .int .i64 (k : Int) ∧ wr.ownsRow (w.heap.size + 1) 9 1 vl (At.upto a k).length (scells (At.upto a k)) ∧ Hid (wr.heap[gt]? = some (.cells (trioCells a) 46)) ∧
      Hid (wr.heap[w.heap.size]? = some (.cells #[.string (bs an), .string (bs nm), .string (bs fl), .string (bs sy), .bool true, .bool false] 27)) ∧ Below w.heap.size w wr) (fun _ u _ => 3 - (intOf u).toNat)
  case atStart => exact ⟨0, by omega, rfl, hown3, hgt, hA3, hb3⟩
  case round =>
    obtain ⟨k, hk, rfl, hown, hgr, hAr, hb⟩ := hrel
    by_cases hlt : k < 3
    · obtain ⟨d0, d1, d2⟩ := trio_cell hgr.out hlt
      have hkl := trio_key (a := a) hlt
      have htl := trio_text hf hlt
      have hun := @upto_next a k hlt
      have hul := upto_len a k hk
      obtain ⟨p, hp⟩ : ∃ p, (At.trio a)[k]'hlt = p := ⟨_, rfl⟩
      rw [hp] at d0 d1 hkl htl hun
      obtain ⟨key, text⟩ := p
      simp only at d0 d1 hkl htl
      have hlt0 : gt < wr.heap.size := (Array.getElem?_eq_some_iff.1 hgr.out).1
      obtain ⟨A, c', rfl, hlc⟩ := own_shape hown
      replace hown := Lib.hid hown
      clear hp hgt hA3 hown3 hb3
      rcases text with _ | ⟨t0, t1⟩
      · have ht := text_nil
        have hun2 : At.upto a (k + 1) = At.upto a k := by rw [hun]; simp [At.po]
        clear hun
        go_wp2_with fail
        go_roundw
        case rel => exact ⟨k + 1, by omega, by go_num, by rw [hun2]; exact hown.out.alloc _, Lib.hid (keep hgr.out (ext_alloc _ _)).1, Lib.hid (keep hAr.out (ext_alloc _ _)).1, hb.alloc hb.size _⟩
        case measure => simp [intOf]; omega
      · have ht := text_cons t0 t1
        have hun2 : At.upto a (k + 1) = At.upto a k ++ [key ++ 61 :: At.value (t0 :: t1)] := by rw [hun]; simp [At.po]
        obtain ⟨T, hT⟩ : ∃ T, t0 :: t1 = T := ⟨_, rfl⟩
        rw [hT] at ht htl hun2 d1
        have hval := fun w => value_any T w (by omega)
        have hvl : (At.value T).length ≤ 2 * T.length + 2 := by rw [At.value_eq]; exact At.pval_len T
        obtain ⟨V, hV⟩ : ∃ V, At.value T = V := ⟨_, rfl⟩
        rw [hV] at hval hvl hun2
        have hzk := bs_size key
        have hzV := bs_size V
        have e1 : bs key ++ ⟨#[61]⟩ = bs (key ++ [61]) := by rw [show (⟨#[61]⟩ : ByteArray) = bs [61] from rfl, bs_append]
        have e2 : bs (key ++ [61]) ++ bs V = bs (key ++ 61 :: V) := by rw [bs_append]; simp
        have hz1 : (bs (key ++ [61])).size = key.length + 1 := by rw [bs_size]; simp
        obtain ⟨Y, hY⟩ : ∃ Y, key ++ [61] = Y := ⟨_, rfl⟩
        rw [hY] at e1 e2 hz1
        obtain ⟨X, hX⟩ : ∃ X, key ++ 61 :: V = X := ⟨_, rfl⟩
        rw [hX] at e2 hun2
        have hzT := bs_size T
        have hn1 : ¬ (9223372036854775807 < key.length + 1) := by omega
        have hn2 : ¬ (9223372036854775807 < key.length + 1 + V.length) := by omega
        clear hun hT hV hY hX
        go_wp2_with fail
        have hpb := heap_alloc_new wr (.cells #[.string (bs key), .string (bs T), .bool false] 46)
        have hgr4 := (keep hgr.out (ext_alloc wr (.cells #[.string (bs key), .string (bs T), .bool false] 46))).1
        have hAr4 := (keep hAr.out (ext_alloc wr (.cells #[.string (bs key), .string (bs T), .bool false] 46))).1
        have hown4 := own_below hown.out (ext_alloc wr (.cells #[.string (bs key), .string (bs T), .bool false] 46))
        have hb4 := hb.alloc hb.size (.cells #[.string (bs key), .string (bs T), .bool false] 46)
        obtain ⟨wp, hwp⟩ : ∃ wp, wr.alloc (.cells #[.string (bs key), .string (bs T), .bool false] 46) = wp := ⟨_, rfl⟩
        rw [hwp] at hpb hgr4 hAr4 hown4 hb4 ⊢
        obtain ⟨gp, hgp⟩ : ∃ g, wr.heap.size = g := ⟨_, rfl⟩
        rw [hgp] at hpb ⊢
        clear hwp hgp hgr hAr hown hb d0 d1 d2 hlt0
        refine wp_region_can [(true, 0), (true, 1), (true, 2), (true, 3), (true, 4), (true, 5), (false, 6), (true, 7), (false, 8), (false, 9), (true, 10)] (fun u => u.heap[gp]? = some (.cells #[.string (bs key), .string (bs T), .bool false] 46)) hpb (by kernel_rfl) (by kernel_rfl) (by kernel_rfl) (fun _ _ d _ _ h => by cases d <;> exact h) ?_
        refine wpCan_move rfl ?_
        refine wpCan_cons rfl ?_
        intro K hK
        go_simp
        refine hK _ _ _ ?_
        clear hK K
        refine wpCan_read (.string (bs key)) rfl (by go_simp) hpb (fun u hu => by obtain ⟨k0, k1, k2⟩ := three hu; go_simp) ?_
        refine wpCan_cons rfl ?_
        intro K hK
        go_simp
        refine hK _ _ _ ?_
        clear hK K
        refine wpCan_cons rfl ?_
        intro K hK
        go_simp
        refine hK _ _ _ ?_
        clear hK K
        refine wpCan_read (.string (bs T)) rfl (by go_simp) hpb (fun u hu => by obtain ⟨k0, k1, k2⟩ := three hu; go_simp) ?_
        refine wpCan_cons rfl ?_
        intro K hK
        go_simp
        refine (hval _).mono ?_
        rintro e w5 ⟨rfl, hb5⟩
        replace hb5 := ext_trans (ext_drew _) hb5
        have hpb5 := (keep hpb hb5).1
        have hgr5 := (keep hgr4 hb5).1
        have hAr5 := (keep hAr4 hb5).1
        have hown5 := own_below hown4 hb5
        have hb6 := hb4.trans (hb5.mono hb4.size)
        refine can_same (S := fun u => u.heap[gp]? = some (.cells #[.string (bs key), .string (bs T), .bool false] 46)) hpb5 (hK _ _ _ ?_)
        clear hK K
        refine wpCan_cons rfl ?_
        intro K hK
        go_simp
        refine hK _ _ _ ?_
        clear hK K
        refine wpCan_cons rfl ?_
        intro K hK
        go_simp
        refine can_same (S := fun u => u.heap[gp]? = some (.cells #[.string (bs key), .string (bs T), .bool false] 46)) (keep hpb5 (ext_alloc _ _)).1 (hK _ _ _ ?_)
        clear hK K
        have hsz5 := hb6.size
        have hlt5 := (Array.getElem?_eq_some_iff.1 hAr5).1
        refine wpCan_app rfl rfl (.tmp 37) (.tmp 45) rfl textEI rfl (own_below hown5 (ext_alloc _ _)) rfl (Row.fresh w5 9 #[.string (bs X)] (0, 0) (n := 1) (xs := scells [X]) rfl rfl) (scells_one _) (by omega) (by omega) (by simp; omega) ?_
        intro v7 w7 hown7 hg7 hb7
        have hgr7 := grown_block hg7.out ((keep hgr5 (ext_alloc _ _)).1) (own_other hown5 hgr5 (by decide))
        have hAr7 := grown_block hg7.out ((keep hAr5 (ext_alloc _ _)).1) (own_other hown5 hAr5 (by decide))
        have hpb7 := grown_block hg7.out ((keep hpb5 (ext_alloc _ _)).1) (own_other hown5 hpb5 (by decide))
        have hb8 := (hb6.alloc hb6.size _).trans (hb7.mono (Nat.le_succ _))
        refine can_same (S := fun u => u.heap[gp]? = some (.cells #[.string (bs key), .string (bs T), .bool false] 46)) hpb7 ?_
        refine wpCan_cons rfl ?_
        intro K hK
        go_simp
        refine hK _ _ _ ?_
        clear hK K
        refine wpCan_nil ?_
        go_wp2_with fail
        go_roundw
        case rel => exact ⟨k + 1, by omega, by go_num, by rw [hun2, List.length_append]; simpa [scells] using hown7, Lib.hid hgr7, Lib.hid hAr7, hb8⟩
        case measure => simp [intOf]; omega
    · -- behind the three
      obtain rfl : k = 3 := by omega
      have hp0 : At.parts a = At.upto a 3 ++ (if true = true then [At.wAppend] else []) ++ (if false = true then [At.wNoline] else []) := by rw [haa.out]; rfl
      have hul := upto_len a 3 (by omega)
      have hpn : ∀ x ∈ At.parts a, x ≠ [] := At.parts_ne
      have hpb := parts_bound hf
      have hpl := At.parts_len a
      have hcp := At.compose_parts a
      have hcl := At.compose_len hf
      have hwr : At.write a = (match At.read (At.compose a) with | some b => if At.same b a = true then At.compose a else [] | none => []) := rfl
      obtain ⟨I, hI⟩ : ∃ I, At.compose a = I := ⟨_, rfl⟩
      rw [hI] at hcp hcl hwr
      obtain ⟨PP, hPP⟩ : ∃ P, At.parts a = P := ⟨_, rfl⟩
      rw [hPP] at hp0 hpn hpb hpl hcp
      obtain ⟨Q, hQ⟩ : ∃ Q, At.upto a 3 = Q := ⟨_, rfl⟩
      rw [hQ] at hp0 hul hown
      have hrd := fun w => read_any I w hcl
      replace hpn := Lib.hid hpn
      replace hpb := Lib.hid hpb
      replace hcp := Lib.hid hcp
      replace hwr := Lib.hid hwr
      obtain ⟨y0, y1, y2, y3, y4, y5⟩ := six hAr.out
      have hzb := hb.size
      have hlta := (Array.getElem?_eq_some_iff.1 hAr.out).1
      obtain ⟨A, c', rfl, hlc⟩ := own_shape hown
      clear hI hPP hQ hgt hA3 hown3 hb3 hgr hk
      rw [if_pos rfl, if_neg (by simp), List.append_nil] at hp0
      go_wp2_with (at_builtin; refine wpList_app_new rfl (.tmp 50) (.tmp 51) rfl textEI rfl hown rfl (by simp) rfl (by intro u hu; simp at hu; subst hu; rfl) (by omega) (by omega) (by omega) ?_; intro v21 w21 hown21 hg21 hb21; obtain ⟨AA21, cc21, rfl, hcc21⟩ := own_shape hown21; have hA21 := grown_block hg21.out hAr.out (own_other hown hAr.out (by decide)); obtain ⟨y0, y1, y2, y3, y4, y5⟩ := six hA21; have hz21 := hg21.out.size)
      have hPl : Q.length + 1 = PP.length := by rw [hp0]; simp
      have hPi : (Q.length : Int) + 1 = (PP.length : Int) := by omega
      have hX : w21.ownsRow (w.heap.size + 1) 9 1 (.slice AA21 PP.length cc21) PP.length (scells PP) := by rw [← hPl, hp0]; simpa [scells, At.wAppend, At.wNoline, bs] using hown21
      have hXA := hA21
      have hXB := hb.trans (hb21.mono (Nat.le_succ _))
      have hlX : PP.length ≤ cc21 := by omega
      try rw [hPi]
      try rw [hPl]
      obtain ⟨wx, hwx⟩ : ∃ wx, w21 = wx := ⟨_, rfl⟩
      rw [hwx] at hX hXA hXB ⊢
      obtain ⟨AX, hAX⟩ : ∃ AX, AA21 = AX := ⟨_, rfl⟩
      obtain ⟨cX, hcX⟩ : ∃ cX, cc21 = cX := ⟨_, rfl⟩
      rw [hAX, hcX] at hX ⊢
      rw [hcX] at hlX
      clear hp0
      try clear hPl
      try clear hPi
      have hXR := Lib.hid (Row.own hX)
      replace hXA := Lib.hid hXA
      replace hXB := Lib.hid hXB
      have hxl := (Array.getElem?_eq_some_iff.1 hXA.out).1
      clear hX
      go_loop [6, 60] (fun s i => ∃ (t : List UInt8) (k : Nat), k ≤ PP.length ∧ s = .string (bs t) ∧ i = .int .i64 (k : Int) ∧ t.length ≤ 400000000 * k ∧ Hid (k = 0 ↔ t = []) ∧ Hid ((PP.drop k).foldl At.add t = I)) (fun _ i => PP.length - (intOf i).toNat)
      case atStart => exact ⟨[], 0, by omega, rfl, rfl, by simp, Lib.hid (by simp), Lib.hid (by rw [hcp.out]; rfl)⟩
      case round =>
        obtain ⟨t, k, hk, rfl, rfl, htl, hk0, hf⟩ := hrel
        have hzt := bs_size t
        by_cases hlt : k < PP.length
        · obtain ⟨bb, oo, hAA, hbb, hc⟩ := hXR.out.at1 hlt
          subst hAA
          have d0 := hc k hlt
          have hx0 := hpn.out _ (List.getElem_mem hlt)
          have hxb := hpb.out _ (List.getElem_mem hlt)
          have hst := At.join_step hlt t hf.out
          rw [show (scells PP)[k]'(by simpa [scells] using hlt) = .string (bs PP[k]) from by simp [scells]] at d0
          obtain ⟨x, hxx⟩ : ∃ x, PP[k] = x := ⟨_, rfl⟩
          rw [hxx] at d0 hx0 hxb hst
          have hzx := bs_size x
          clear hc hxx
          by_cases h0 : k = 0
          · subst h0
            obtain rfl := hk0.out.1 rfl
            rw [Nat.add_zero] at d0
            rw [At.add_first] at hst
            have e1 : bs [] ++ bs x = bs x := by rw [bs_append]; rfl
            replace hst := Lib.hid hst
            replace hx0 := Lib.hid hx0
            go_wp2_with fail
            go_round
            case rel => exact ⟨x, 1, by omega, rfl, rfl, by omega, Lib.hid (by simp [hx0.out]), hst⟩
            case measure => simp [intOf]; omega
          · have ht0 : t ≠ [] := fun h => h0 (hk0.out.2 h)
            rw [At.add_more ht0 hx0] at hst
            have hkp : (0 : Int) < (k : Int) := by omega
            have e1 : bs t ++ ⟨#[32]⟩ = bs (t ++ [32]) := by rw [show (⟨#[32]⟩ : ByteArray) = bs [32] from rfl, bs_append]
            have e2 : bs (t ++ [32]) ++ bs x = bs (t ++ [32] ++ x) := bs_append _ _
            have hz1 : (bs (t ++ [32])).size = t.length + 1 := by rw [bs_size]; simp
            have hn1 : ¬ (9223372036854775807 < t.length + 1) := by omega
            have hn2 : ¬ (9223372036854775807 < t.length + 1 + x.length) := by omega
            have hYl : (t ++ [32] ++ x).length = t.length + 1 + x.length := by simp; omega
            obtain ⟨Y, hY⟩ : ∃ Y, t ++ [32] ++ x = Y := ⟨_, rfl⟩
            have hYn : Y ≠ [] := by rw [← hY]; simp
            rw [hY] at e2 hst
            have hYb : Y.length ≤ 400000000 * (k + 1) := by rw [← hY, hYl]; omega
            obtain ⟨Z, hZ⟩ : ∃ Z, t ++ [32] = Z := ⟨_, rfl⟩
            rw [hZ] at e1 e2 hz1
            replace hst := Lib.hid hst
            replace hYn := Lib.hid hYn
            clear hY hYl hZ ht0 hx0 h0
            go_wp2_with fail
            go_round
            case rel => exact ⟨Y, k + 1, by omega, rfl, by go_num, hYb, Lib.hid (by simp [hYn.out]), hst⟩
            case measure => simp [intOf]; omega
        · have ht : t = I := by
            have := hf.out
            rw [List.drop_eq_nil_of_le (by omega)] at this; exact this
          subst ht
          obtain ⟨y0, y1, y2, y3, y4, y5⟩ := six hXA.out
          cases hr : At.read t with
          | none =>
            have hfin : Hid (At.write a = []) := Lib.hid (by rw [hwr.out, hr])
            rw [hr] at hrd
            change ∀ w, Calls Tryd.prog 13 #[.string (bs t)] w (fun e w' => e = .returned (.tuple #[.agg #[.string ⟨#[]⟩, .string ⟨#[]⟩, .string ⟨#[]⟩, .string ⟨#[]⟩, .bool false, .bool false], .bool false]) ∧ Below w.heap.size w w') at hrd
            clear hr
            go_wp2_with fail
            refine (hrd _).mono ?_
            rintro e w9 ⟨rfl, hb9⟩
            have hB9 := Lib.hid (hXB.out.trans (hb9.mono hXB.out.size))
            go_wp2_with fail
            go_ret
            exact ⟨by rw [hfin.out]; rfl, hB9.out.alloc hB9.out.size _⟩
          | some b =>
            obtain ⟨bn, bm, bf, by', bp, bl⟩ := b
            have hfin : Hid (At.write a = if At.same ⟨an, nm, fl, sy, true, false⟩ ⟨bn, bm, bf, by', bp, bl⟩ = true then t else []) := Lib.hid (by rw [hwr.out, hr, haa.out, At.same_comm])
            rw [hr] at hrd
            change ∀ w, Calls Tryd.prog 13 #[.string (bs t)] w (fun e w' => e = .returned (.tuple #[.agg #[.string (bs bn), .string (bs bm), .string (bs bf), .string (bs by'), .bool bp, .bool bl], .bool true]) ∧ Below w.heap.size w w') at hrd
            clear hr
            go_wp2_with fail
            refine (hrd _).mono ?_
            rintro e w9 ⟨rfl, hb9⟩
            obtain ⟨y0, y1, y2, y3, y4, y5⟩ := six (keep hXA.out hb9).1
            have hlt9 := (keep hXA.out hb9).2
            have hB9 := Lib.hid (hXB.out.trans (hb9.mono hXB.out.size))
            go_wp2_with fail
            all_goals
              go_ret
              refine ⟨?_, hB9.out.alloc hB9.out.size _⟩
              first
                | (rw [hfin.out, if_pos (same_yes (by assumption) (by assumption) (by assumption) (by assumption) (b_true (by assumption)) (b_false (by assumption)))]; rfl)
                | (rw [hfin.out, if_neg (same_no1 (by assumption))]; rfl)
                | (rw [hfin.out, if_neg (same_no2 (by assumption))]; rfl)
                | (rw [hfin.out, if_neg (same_no3 (by assumption))]; rfl)
                | (rw [hfin.out, if_neg (same_no4 (by assumption))]; rfl)
                | (rw [hfin.out, if_neg (same_no5 (n_true (by assumption)))]; rfl)
                | (rw [hfin.out, if_neg (same_no6 (n_false (by assumption)))]; rfl)

set_option maxHeartbeats 8000000 in
set_option maxRecDepth 100000 in
theorem rwrite_nil_a_l (an nm fl sy : List UInt8) (w : World) (ha : At.fits ⟨an, nm, fl, sy, true, true⟩) (hlang : an = []) :
    Calls Tryd.prog 11 #[.agg (acells ⟨an, nm, fl, sy, true, true⟩)] w fun e w' => e = .returned (.string (bs (At.write ⟨an, nm, fl, sy, true, true⟩))) ∧ Below w.heap.size w w' := by
  have hf := ha
  obtain ⟨hf1, hf2, hf3, hf4⟩ := ha
  simp only at hf1 hf2 hf3 hf4
  have hA := heap_alloc_new w (.cells #[.string (bs an), .string (bs nm), .string (bs fl), .string (bs sy), .bool true, .bool true] 27)
  have hBA := Lib.hid (ext_alloc w (.cells #[.string (bs an), .string (bs nm), .string (bs fl), .string (bs sy), .bool true, .bool true] 27))
  have hu0 : At.upto ⟨an, nm, fl, sy, true, true⟩ 0 = if an = [] then [] else [an] := by simp [At.upto]
  change Calls Tryd.prog 11 #[.agg #[.string (bs an), .string (bs nm), .string (bs fl), .string (bs sy), .bool true, .bool true]] w _
  obtain ⟨a, haa⟩ : ∃ a : At.Attr, a = ⟨an, nm, fl, sy, true, true⟩ := ⟨_, rfl⟩
  rw [← haa] at hu0 hf ⊢
  have htc : trioCells a = #[.string ⟨#[110, 97, 109, 101]⟩, .string (bs nm), .bool false, .string ⟨#[102, 105, 108, 101]⟩, .string (bs fl), .bool false, .string ⟨#[99, 111, 109, 109, 101, 110, 116]⟩, .string (bs sy), .bool false] := by rw [haa]; rfl
  replace haa := Lib.hid haa
  replace htc := Lib.hid htc
  have han : an = [] := hlang
  clear hlang
  rw [han, if_pos rfl] at hu0
  rw [han] at hA hBA
  rw [han]
  have ht := text_nil
  go_enter Tryd.func11, Tryd.ntmps11
  go_wp2_with fail
  have hown2 : (w.alloc (.cells #[.string (bs []), .string (bs nm), .string (bs fl), .string (bs sy), .bool true, .bool true] 27)).ownsRow (w.heap.size + 1) 9 1 (.slice none 0 0) (At.upto a 0).length (scells (At.upto a 0)) := by rw [hu0]; exact World.ownsRow_nil _ _ _ _
  have hb2 : Below w.heap.size w (w.alloc (.cells #[.string (bs []), .string (bs nm), .string (bs fl), .string (bs sy), .bool true, .bool true] 27)) := hBA.out
  have hA2 := hA
  have hs2 : w.heap.size + 1 ≤ (w.alloc (.cells #[.string (bs []), .string (bs nm), .string (bs fl), .string (bs sy), .bool true, .bool true] 27)).heap.size := by simp
  obtain ⟨w2, hw2⟩ : ∃ w2, w.alloc (.cells #[.string (bs []), .string (bs nm), .string (bs fl), .string (bs sy), .bool true, .bool true] 27) = w2 := ⟨_, rfl⟩
  rw [hw2] at hown2 hb2 hA2 hs2 ⊢
  have e2 : w2.heap.size = w.heap.size + 1 := by rw [← hw2]; simp
  rw [← e2]
  rw [← han] at hA2
  clear hw2 hA hBA ht han e2
  have hgt := heap_alloc_new w2 (.cells (trioCells a) 46)
  have hA3 := (keep hA2 (ext_alloc w2 (.cells (trioCells a) 46))).1
  have hown3 := own_below hown2 (ext_alloc w2 (.cells (trioCells a) 46))
  have hb3 := hb2.alloc (by omega) (.cells (trioCells a) 46)
  rw [htc.out] at hgt hA3 hown3 hb3
  rw [← htc.out] at hgt
  obtain ⟨wb, hwb⟩ : ∃ wb, w2.alloc (.cells #[.string ⟨#[110, 97, 109, 101]⟩, .string (bs nm), .bool false, .string ⟨#[102, 105, 108, 101]⟩, .string (bs fl), .bool false, .string ⟨#[99, 111, 109, 109, 101, 110, 116]⟩, .string (bs sy), .bool false] 46) = wb := ⟨_, rfl⟩
  rw [htc.out, hwb, ← htc.out] at hgt
  rw [hwb] at hA3 hown3 hb3 ⊢
  have hgl : w.heap.size < w2.heap.size := by omega
  obtain ⟨gt, hgg⟩ : ∃ g, w2.heap.size = g := ⟨_, rfl⟩
  rw [hgg] at hgt hgl ⊢
  clear hwb hgg hA2 hown2 hb2 hs2
  replace hgt := Lib.hid hgt
  replace hA3 := Lib.hid hA3
  go_loopw [3, 30] (fun vl u wr => ∃ k : Nat, k ≤ 3 ∧ u = .int .i64 (k : Int) ∧ wr.ownsRow (w.heap.size + 1) 9 1 vl (At.upto a k).length (scells (At.upto a k)) ∧ Hid (wr.heap[gt]? = some (.cells (trioCells a) 46)) ∧
      Hid (wr.heap[w.heap.size]? = some (.cells #[.string (bs an), .string (bs nm), .string (bs fl), .string (bs sy), .bool true, .bool true] 27)) ∧ Below w.heap.size w wr) (fun _ u _ => 3 - (intOf u).toNat)
  case atStart => exact ⟨0, by omega, rfl, hown3, hgt, hA3, hb3⟩
  case round =>
    obtain ⟨k, hk, rfl, hown, hgr, hAr, hb⟩ := hrel
    by_cases hlt : k < 3
    · obtain ⟨d0, d1, d2⟩ := trio_cell hgr.out hlt
      have hkl := trio_key (a := a) hlt
      have htl := trio_text hf hlt
      have hun := @upto_next a k hlt
      have hul := upto_len a k hk
      obtain ⟨p, hp⟩ : ∃ p, (At.trio a)[k]'hlt = p := ⟨_, rfl⟩
      rw [hp] at d0 d1 hkl htl hun
      obtain ⟨key, text⟩ := p
      simp only at d0 d1 hkl htl
      have hlt0 : gt < wr.heap.size := (Array.getElem?_eq_some_iff.1 hgr.out).1
      obtain ⟨A, c', rfl, hlc⟩ := own_shape hown
      replace hown := Lib.hid hown
      clear hp hgt hA3 hown3 hb3
      rcases text with _ | ⟨t0, t1⟩
      · have ht := text_nil
        have hun2 : At.upto a (k + 1) = At.upto a k := by rw [hun]; simp [At.po]
        clear hun
        go_wp2_with fail
        go_roundw
        case rel => exact ⟨k + 1, by omega, by go_num, by rw [hun2]; exact hown.out.alloc _, Lib.hid (keep hgr.out (ext_alloc _ _)).1, Lib.hid (keep hAr.out (ext_alloc _ _)).1, hb.alloc hb.size _⟩
        case measure => simp [intOf]; omega
      · have ht := text_cons t0 t1
        have hun2 : At.upto a (k + 1) = At.upto a k ++ [key ++ 61 :: At.value (t0 :: t1)] := by rw [hun]; simp [At.po]
        obtain ⟨T, hT⟩ : ∃ T, t0 :: t1 = T := ⟨_, rfl⟩
        rw [hT] at ht htl hun2 d1
        have hval := fun w => value_any T w (by omega)
        have hvl : (At.value T).length ≤ 2 * T.length + 2 := by rw [At.value_eq]; exact At.pval_len T
        obtain ⟨V, hV⟩ : ∃ V, At.value T = V := ⟨_, rfl⟩
        rw [hV] at hval hvl hun2
        have hzk := bs_size key
        have hzV := bs_size V
        have e1 : bs key ++ ⟨#[61]⟩ = bs (key ++ [61]) := by rw [show (⟨#[61]⟩ : ByteArray) = bs [61] from rfl, bs_append]
        have e2 : bs (key ++ [61]) ++ bs V = bs (key ++ 61 :: V) := by rw [bs_append]; simp
        have hz1 : (bs (key ++ [61])).size = key.length + 1 := by rw [bs_size]; simp
        obtain ⟨Y, hY⟩ : ∃ Y, key ++ [61] = Y := ⟨_, rfl⟩
        rw [hY] at e1 e2 hz1
        obtain ⟨X, hX⟩ : ∃ X, key ++ 61 :: V = X := ⟨_, rfl⟩
        rw [hX] at e2 hun2
        have hzT := bs_size T
        have hn1 : ¬ (9223372036854775807 < key.length + 1) := by omega
        have hn2 : ¬ (9223372036854775807 < key.length + 1 + V.length) := by omega
        clear hun hT hV hY hX
        go_wp2_with fail
        have hpb := heap_alloc_new wr (.cells #[.string (bs key), .string (bs T), .bool false] 46)
        have hgr4 := (keep hgr.out (ext_alloc wr (.cells #[.string (bs key), .string (bs T), .bool false] 46))).1
        have hAr4 := (keep hAr.out (ext_alloc wr (.cells #[.string (bs key), .string (bs T), .bool false] 46))).1
        have hown4 := own_below hown.out (ext_alloc wr (.cells #[.string (bs key), .string (bs T), .bool false] 46))
        have hb4 := hb.alloc hb.size (.cells #[.string (bs key), .string (bs T), .bool false] 46)
        obtain ⟨wp, hwp⟩ : ∃ wp, wr.alloc (.cells #[.string (bs key), .string (bs T), .bool false] 46) = wp := ⟨_, rfl⟩
        rw [hwp] at hpb hgr4 hAr4 hown4 hb4 ⊢
        obtain ⟨gp, hgp⟩ : ∃ g, wr.heap.size = g := ⟨_, rfl⟩
        rw [hgp] at hpb ⊢
        clear hwp hgp hgr hAr hown hb d0 d1 d2 hlt0
        refine wp_region_can [(true, 0), (true, 1), (true, 2), (true, 3), (true, 4), (true, 5), (false, 6), (true, 7), (false, 8), (false, 9), (true, 10)] (fun u => u.heap[gp]? = some (.cells #[.string (bs key), .string (bs T), .bool false] 46)) hpb (by kernel_rfl) (by kernel_rfl) (by kernel_rfl) (fun _ _ d _ _ h => by cases d <;> exact h) ?_
        refine wpCan_move rfl ?_
        refine wpCan_cons rfl ?_
        intro K hK
        go_simp
        refine hK _ _ _ ?_
        clear hK K
        refine wpCan_read (.string (bs key)) rfl (by go_simp) hpb (fun u hu => by obtain ⟨k0, k1, k2⟩ := three hu; go_simp) ?_
        refine wpCan_cons rfl ?_
        intro K hK
        go_simp
        refine hK _ _ _ ?_
        clear hK K
        refine wpCan_cons rfl ?_
        intro K hK
        go_simp
        refine hK _ _ _ ?_
        clear hK K
        refine wpCan_read (.string (bs T)) rfl (by go_simp) hpb (fun u hu => by obtain ⟨k0, k1, k2⟩ := three hu; go_simp) ?_
        refine wpCan_cons rfl ?_
        intro K hK
        go_simp
        refine (hval _).mono ?_
        rintro e w5 ⟨rfl, hb5⟩
        replace hb5 := ext_trans (ext_drew _) hb5
        have hpb5 := (keep hpb hb5).1
        have hgr5 := (keep hgr4 hb5).1
        have hAr5 := (keep hAr4 hb5).1
        have hown5 := own_below hown4 hb5
        have hb6 := hb4.trans (hb5.mono hb4.size)
        refine can_same (S := fun u => u.heap[gp]? = some (.cells #[.string (bs key), .string (bs T), .bool false] 46)) hpb5 (hK _ _ _ ?_)
        clear hK K
        refine wpCan_cons rfl ?_
        intro K hK
        go_simp
        refine hK _ _ _ ?_
        clear hK K
        refine wpCan_cons rfl ?_
        intro K hK
        go_simp
        refine can_same (S := fun u => u.heap[gp]? = some (.cells #[.string (bs key), .string (bs T), .bool false] 46)) (keep hpb5 (ext_alloc _ _)).1 (hK _ _ _ ?_)
        clear hK K
        have hsz5 := hb6.size
        have hlt5 := (Array.getElem?_eq_some_iff.1 hAr5).1
        refine wpCan_app rfl rfl (.tmp 37) (.tmp 45) rfl textEI rfl (own_below hown5 (ext_alloc _ _)) rfl (Row.fresh w5 9 #[.string (bs X)] (0, 0) (n := 1) (xs := scells [X]) rfl rfl) (scells_one _) (by omega) (by omega) (by simp; omega) ?_
        intro v7 w7 hown7 hg7 hb7
        have hgr7 := grown_block hg7.out ((keep hgr5 (ext_alloc _ _)).1) (own_other hown5 hgr5 (by decide))
        have hAr7 := grown_block hg7.out ((keep hAr5 (ext_alloc _ _)).1) (own_other hown5 hAr5 (by decide))
        have hpb7 := grown_block hg7.out ((keep hpb5 (ext_alloc _ _)).1) (own_other hown5 hpb5 (by decide))
        have hb8 := (hb6.alloc hb6.size _).trans (hb7.mono (Nat.le_succ _))
        refine can_same (S := fun u => u.heap[gp]? = some (.cells #[.string (bs key), .string (bs T), .bool false] 46)) hpb7 ?_
        refine wpCan_cons rfl ?_
        intro K hK
        go_simp
        refine hK _ _ _ ?_
        clear hK K
        refine wpCan_nil ?_
        go_wp2_with fail
        go_roundw
        case rel => exact ⟨k + 1, by omega, by go_num, by rw [hun2, List.length_append]; simpa [scells] using hown7, Lib.hid hgr7, Lib.hid hAr7, hb8⟩
        case measure => simp [intOf]; omega
    · -- behind the three
      obtain rfl : k = 3 := by omega
      have hp0 : At.parts a = At.upto a 3 ++ (if true = true then [At.wAppend] else []) ++ (if true = true then [At.wNoline] else []) := by rw [haa.out]; rfl
      have hul := upto_len a 3 (by omega)
      have hpn : ∀ x ∈ At.parts a, x ≠ [] := At.parts_ne
      have hpb := parts_bound hf
      have hpl := At.parts_len a
      have hcp := At.compose_parts a
      have hcl := At.compose_len hf
      have hwr : At.write a = (match At.read (At.compose a) with | some b => if At.same b a = true then At.compose a else [] | none => []) := rfl
      obtain ⟨I, hI⟩ : ∃ I, At.compose a = I := ⟨_, rfl⟩
      rw [hI] at hcp hcl hwr
      obtain ⟨PP, hPP⟩ : ∃ P, At.parts a = P := ⟨_, rfl⟩
      rw [hPP] at hp0 hpn hpb hpl hcp
      obtain ⟨Q, hQ⟩ : ∃ Q, At.upto a 3 = Q := ⟨_, rfl⟩
      rw [hQ] at hp0 hul hown
      have hrd := fun w => read_any I w hcl
      replace hpn := Lib.hid hpn
      replace hpb := Lib.hid hpb
      replace hcp := Lib.hid hcp
      replace hwr := Lib.hid hwr
      obtain ⟨y0, y1, y2, y3, y4, y5⟩ := six hAr.out
      have hzb := hb.size
      have hlta := (Array.getElem?_eq_some_iff.1 hAr.out).1
      obtain ⟨A, c', rfl, hlc⟩ := own_shape hown
      clear hI hPP hQ hgt hA3 hown3 hb3 hgr hk
      rw [if_pos rfl, if_pos rfl] at hp0
      go_wp2_with (first | (at_builtin; refine wpList_app_new rfl (.tmp 50) (.tmp 51) rfl textEI rfl hown rfl (by simp) rfl (by intro u hu; simp at hu; subst hu; rfl) (by omega) (by omega) (by omega) ?_; intro v21 w21 hown21 hg21 hb21; obtain ⟨AA21, cc21, rfl, hcc21⟩ := own_shape hown21; have hA21 := grown_block hg21.out hAr.out (own_other hown hAr.out (by decide)); obtain ⟨y0, y1, y2, y3, y4, y5⟩ := six hA21; have hz21 := hg21.out.size) | (at_builtin; refine wpList_app_new rfl (.tmp 55) (.tmp 56) rfl textEI rfl hown21 rfl (by simp) rfl (by intro u hu; simp at hu; subst hu; rfl) (by omega) (by omega) (by omega) ?_; intro v22 w22 hown22 hg22 hb22; obtain ⟨AA22, cc22, rfl, hcc22⟩ := own_shape hown22; have hA22 := grown_block hg22.out hA21 (own_other hown21 hA21 (by decide)); obtain ⟨y0, y1, y2, y3, y4, y5⟩ := six hA22; have hz22 := hg22.out.size))
      have hPl : Q.length + 1 + 1 = PP.length := by rw [hp0]; simp
      have hPi : (Q.length : Int) + 1 + 1 = (PP.length : Int) := by omega
      have hX : w22.ownsRow (w.heap.size + 1) 9 1 (.slice AA22 PP.length cc22) PP.length (scells PP) := by rw [← hPl, hp0]; simpa [scells, At.wAppend, At.wNoline, bs] using hown22
      have hXA := hA22
      have hXB := (hb.trans (hb21.mono (Nat.le_succ _))).trans (hb22.mono (Nat.le_succ _))
      have hlX : PP.length ≤ cc22 := by omega
      try rw [hPi]
      try rw [hPl]
      obtain ⟨wx, hwx⟩ : ∃ wx, w22 = wx := ⟨_, rfl⟩
      rw [hwx] at hX hXA hXB ⊢
      obtain ⟨AX, hAX⟩ : ∃ AX, AA22 = AX := ⟨_, rfl⟩
      obtain ⟨cX, hcX⟩ : ∃ cX, cc22 = cX := ⟨_, rfl⟩
      rw [hAX, hcX] at hX ⊢
      rw [hcX] at hlX
      clear hp0
      try clear hPl
      try clear hPi
      have hXR := Lib.hid (Row.own hX)
      replace hXA := Lib.hid hXA
      replace hXB := Lib.hid hXB
      have hxl := (Array.getElem?_eq_some_iff.1 hXA.out).1
      clear hX
      go_loop [6, 60] (fun s i => ∃ (t : List UInt8) (k : Nat), k ≤ PP.length ∧ s = .string (bs t) ∧ i = .int .i64 (k : Int) ∧ t.length ≤ 400000000 * k ∧ Hid (k = 0 ↔ t = []) ∧ Hid ((PP.drop k).foldl At.add t = I)) (fun _ i => PP.length - (intOf i).toNat)
      case atStart => exact ⟨[], 0, by omega, rfl, rfl, by simp, Lib.hid (by simp), Lib.hid (by rw [hcp.out]; rfl)⟩
      case round =>
        obtain ⟨t, k, hk, rfl, rfl, htl, hk0, hf⟩ := hrel
        have hzt := bs_size t
        by_cases hlt : k < PP.length
        · obtain ⟨bb, oo, hAA, hbb, hc⟩ := hXR.out.at1 hlt
          subst hAA
          have d0 := hc k hlt
          have hx0 := hpn.out _ (List.getElem_mem hlt)
          have hxb := hpb.out _ (List.getElem_mem hlt)
          have hst := At.join_step hlt t hf.out
          rw [show (scells PP)[k]'(by simpa [scells] using hlt) = .string (bs PP[k]) from by simp [scells]] at d0
          obtain ⟨x, hxx⟩ : ∃ x, PP[k] = x := ⟨_, rfl⟩
          rw [hxx] at d0 hx0 hxb hst
          have hzx := bs_size x
          clear hc hxx
          by_cases h0 : k = 0
          · subst h0
            obtain rfl := hk0.out.1 rfl
            rw [Nat.add_zero] at d0
            rw [At.add_first] at hst
            have e1 : bs [] ++ bs x = bs x := by rw [bs_append]; rfl
            replace hst := Lib.hid hst
            replace hx0 := Lib.hid hx0
            go_wp2_with fail
            go_round
            case rel => exact ⟨x, 1, by omega, rfl, rfl, by omega, Lib.hid (by simp [hx0.out]), hst⟩
            case measure => simp [intOf]; omega
          · have ht0 : t ≠ [] := fun h => h0 (hk0.out.2 h)
            rw [At.add_more ht0 hx0] at hst
            have hkp : (0 : Int) < (k : Int) := by omega
            have e1 : bs t ++ ⟨#[32]⟩ = bs (t ++ [32]) := by rw [show (⟨#[32]⟩ : ByteArray) = bs [32] from rfl, bs_append]
            have e2 : bs (t ++ [32]) ++ bs x = bs (t ++ [32] ++ x) := bs_append _ _
            have hz1 : (bs (t ++ [32])).size = t.length + 1 := by rw [bs_size]; simp
            have hn1 : ¬ (9223372036854775807 < t.length + 1) := by omega
            have hn2 : ¬ (9223372036854775807 < t.length + 1 + x.length) := by omega
            have hYl : (t ++ [32] ++ x).length = t.length + 1 + x.length := by simp; omega
            obtain ⟨Y, hY⟩ : ∃ Y, t ++ [32] ++ x = Y := ⟨_, rfl⟩
            have hYn : Y ≠ [] := by rw [← hY]; simp
            rw [hY] at e2 hst
            have hYb : Y.length ≤ 400000000 * (k + 1) := by rw [← hY, hYl]; omega
            obtain ⟨Z, hZ⟩ : ∃ Z, t ++ [32] = Z := ⟨_, rfl⟩
            rw [hZ] at e1 e2 hz1
            replace hst := Lib.hid hst
            replace hYn := Lib.hid hYn
            clear hY hYl hZ ht0 hx0 h0
            go_wp2_with fail
            go_round
            case rel => exact ⟨Y, k + 1, by omega, rfl, by go_num, hYb, Lib.hid (by simp [hYn.out]), hst⟩
            case measure => simp [intOf]; omega
        · have ht : t = I := by
            have := hf.out
            rw [List.drop_eq_nil_of_le (by omega)] at this; exact this
          subst ht
          obtain ⟨y0, y1, y2, y3, y4, y5⟩ := six hXA.out
          cases hr : At.read t with
          | none =>
            have hfin : Hid (At.write a = []) := Lib.hid (by rw [hwr.out, hr])
            rw [hr] at hrd
            change ∀ w, Calls Tryd.prog 13 #[.string (bs t)] w (fun e w' => e = .returned (.tuple #[.agg #[.string ⟨#[]⟩, .string ⟨#[]⟩, .string ⟨#[]⟩, .string ⟨#[]⟩, .bool false, .bool false], .bool false]) ∧ Below w.heap.size w w') at hrd
            clear hr
            go_wp2_with fail
            refine (hrd _).mono ?_
            rintro e w9 ⟨rfl, hb9⟩
            have hB9 := Lib.hid (hXB.out.trans (hb9.mono hXB.out.size))
            go_wp2_with fail
            go_ret
            exact ⟨by rw [hfin.out]; rfl, hB9.out.alloc hB9.out.size _⟩
          | some b =>
            obtain ⟨bn, bm, bf, by', bp, bl⟩ := b
            have hfin : Hid (At.write a = if At.same ⟨an, nm, fl, sy, true, true⟩ ⟨bn, bm, bf, by', bp, bl⟩ = true then t else []) := Lib.hid (by rw [hwr.out, hr, haa.out, At.same_comm])
            rw [hr] at hrd
            change ∀ w, Calls Tryd.prog 13 #[.string (bs t)] w (fun e w' => e = .returned (.tuple #[.agg #[.string (bs bn), .string (bs bm), .string (bs bf), .string (bs by'), .bool bp, .bool bl], .bool true]) ∧ Below w.heap.size w w') at hrd
            clear hr
            go_wp2_with fail
            refine (hrd _).mono ?_
            rintro e w9 ⟨rfl, hb9⟩
            obtain ⟨y0, y1, y2, y3, y4, y5⟩ := six (keep hXA.out hb9).1
            have hlt9 := (keep hXA.out hb9).2
            have hB9 := Lib.hid (hXB.out.trans (hb9.mono hXB.out.size))
            go_wp2_with fail
            all_goals
              go_ret
              refine ⟨?_, hB9.out.alloc hB9.out.size _⟩
              first
                | (rw [hfin.out, if_pos (same_yes (by assumption) (by assumption) (by assumption) (by assumption) (b_true (by assumption)) (b_true (by assumption)))]; rfl)
                | (rw [hfin.out, if_neg (same_no1 (by assumption))]; rfl)
                | (rw [hfin.out, if_neg (same_no2 (by assumption))]; rfl)
                | (rw [hfin.out, if_neg (same_no3 (by assumption))]; rfl)
                | (rw [hfin.out, if_neg (same_no4 (by assumption))]; rfl)
                | (rw [hfin.out, if_neg (same_no5 (n_true (by assumption)))]; rfl)
                | (rw [hfin.out, if_neg (same_no6 (n_true (by assumption)))]; rfl)

end Go.Proofs.YtfppfaliepkhgaaDoor
