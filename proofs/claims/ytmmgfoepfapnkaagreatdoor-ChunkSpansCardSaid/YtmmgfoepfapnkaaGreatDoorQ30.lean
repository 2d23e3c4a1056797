/- Law 14's ChunkOf, walked. Law 14's ChunkSpans, walked. -/
import Derived.Test.YtmmgfoepfapnkaaGreatDoorQ25
import Derived.Test.YtmmgfoepfapnkaaGreatDoorQ28
import Derived.Test.YtmmgfoepfapnkaaGreatDoorQ29
import Derived.Test.YtmmgfoepfapnkaaGreatDoorQ27
namespace Go.Proofs.YtmmgfoepfapnkaaGreatDoor
open Go.RowKit
attribute [local go_sem] canOp readsAs readUpon

set_option maxHeartbeats 8000000 in
set_option maxRecDepth 100000 in
theorem ck_of (xs : List Int) (A0 : Option Addr) (c0 : Nat) (wild : Bool) (w : World) (h0 : Row w w.heap.size 1 A0 xs.length (icells xs)) (hc0 : xs.length ≤ c0) (hm0 : c0 ≤ maxLen) (hTb : ATabs w) :
    Calls Tryz.prog 6 #[.slice A0 xs.length c0, .bool wild] w fun e w' => e = .returned (.bool true) ∧ Below w.heap.size w w' := by
  have hx0 : xs.length ≤ 9223372036854775807 := Nat.le_trans hc0 (Nat.le_trans hm0 (by decide))
  have hTt := Lib.hid (fun w' (hb : Below w.heap.size w w') => tabs_ext hTb hb)
  have hT := ck_tape_new w xs A0 c0 h0 hc0 hx0
  have hbA := ext_alloc w (.cells #[.slice A0 xs.length c0, .int .i64 0] 26)
  have hmm := @run_makeMap Tryz.prog
  replace hbA := Lib.hid hbA
  replace hT := Lib.hid hT
  clear h0 hTb hm0 hx0 hc0
  go_enter Tryz.func6, Tryz.ntmps6
  go_wp2_with fail
  generalize w.alloc (.cells #[.slice A0 xs.length c0, .int .i64 0] 26) = wa at hT hbA ⊢
  refine (good_any wa w.heap.size hT.out false).mono ?_
  rintro e w1 ⟨A1, n1, k1, l1, css1, rfl, hS1, hnc1, hn1, hs1, hT1, hA1⟩
  go_upto_if 22 with fail
  go_cut [6] (fun v wx => TDocs w wx v)
  case first =>
    cases wild with
    | false =>
      go_wp2_with fail
      go_meet
      case rel => exact TDocs.good hS1 hnc1 hn1 hs1 hbA.out hA1
    | true =>
      go_wp2_with fail
      refine (twild_any w1 w.heap.size hT1).mono ?_
      rintro e w2 ⟨v2, l2, rfl, hS2, hn2, hs2, _, hA2⟩
      go_wp2_with fail
      go_meet
      case rel => exact TDocs.wild hS2 hn2 hs2 hbA.out hA1 hA2
  case rest =>
    obtain ⟨A, c, l, css, rfl, hS, hn4, hlc, hls, hb⟩ := hcut
    clear hS1 hnc1 hn1 hs1 hT1 hA1 hT hbA
    have hcol := collect_any l css A c wc hS (fun s h => by have := (hls s h).2; omega) (by omega) (fun s h => by have := (hls s h).1; omega) (hTt.out _ hb) (tabs_size (hTt.out _ hb))
    have hok := Lib.hid (Ck.collect_ok l)
    have hfw := Ck.collect_few l
    obtain ⟨F, hF⟩ : ∃ F, (Ck.collect Ck.places l).1 = F := ⟨_, rfl⟩
    obtain ⟨ds, hds⟩ : ∃ ds, (Ck.collect Ck.places l).2 = ds := ⟨_, rfl⟩
    rw [hF, hds] at hcol
    rw [hds] at hok hfw
    obtain ⟨fc, fp, fl, fn⟩ := F
    replace hb := Lib.hid hb
    clear hF hds hS hls
    go_wp2_with fail
    refine hcol.mono ?_
    rintro e w3 ⟨⟨v3, rfl, ho3⟩, hb3⟩
    obtain ⟨css3, k1, k2⟩ := ho3
    obtain ⟨A3, c3, rfl, hc3⟩ := own_shape k1
    obtain ⟨cs3, hD3, -⟩ := OwnD.row ⟨css3, k1, k2⟩
    have hb3' := hb.out.trans (hb3.mono hb.out.size)
    have bF := ext_alloc w3 (.cells (fcells ⟨fc, fp, fl, fn⟩) 46)
    have bM := ext_alloc (w3.alloc (.cells (fcells ⟨fc, fp, fl, fn⟩) 46)) (.map #[] 0)
    have hz3 : (w3.alloc (.cells (fcells ⟨fc, fp, fl, fn⟩) 46)).heap.size = w3.heap.size + 1 := by simp
    have hM := SMap.made (w3.alloc (.cells (fcells ⟨fc, fp, fl, fn⟩) 46))
    have hzM := hM.lt
    rw [hz3] at hM hzM
    have hDW := hD3.keep (ext_trans bF bM) (B' := w3.heap.size + 1) (by omega)
    have hbW := hb3'.trans ((ext_trans bF bM).mono (by have := hb.out.size; have := hb3.size; omega))
    have hzw := Lib.hid hb3'.size
    clear k1 k2 hD3 hb3 hb3' bF bM hz3 hc3 hb
    replace hDW := Lib.hid hDW
    replace hbW := Lib.hid hbW
    replace hM := Lib.hid hM
    go_upto_region 8 with fail
    obtain ⟨W, hW⟩ : ∃ W, (w3.alloc (.cells (fcells ⟨fc, fp, fl, fn⟩) 46)).alloc (.map #[] 0) = W := ⟨_, rfl⟩
    rw [hW] at hDW hbW hM hzM
    change Code.wp _ _ _ _ ((w3.alloc (.cells (fcells ⟨fc, fp, fl, fn⟩) 46)).alloc (.map #[] 0))
    rw [hW]
    clear hW
    obtain ⟨gm, hgm⟩ : ∃ gm, w3.heap.size + 1 = gm := ⟨_, rfl⟩
    rw [hgm] at hDW hM hzM ⊢
    replace hgm := Lib.hid hgm
    have hd9 : ∀ d ∈ ds, DOk d := fun d hd => (hok.out d hd).ok
    have hke := keys_any ds cs3 A3 c3 W (hDW.out.keep (Below.refl _ _) (by omega)) hd9 (by omega)
    have hOf := Lib.hid (fun key (w' : World) (hb : Below gm W w') (hz : gm ≤ w'.heap.size) => of_any ds cs3 A3 c3 key w' (hDW.out.keep hb hz) hd9 (by omega))
    have hFi := Lib.hid (fun (w' : World) (hb : Below gm W w') (hz : gm ≤ w'.heap.size) => files_any ds cs3 A3 c3 w' (hDW.out.keep hb hz) hd9 (by omega))
    have hkn := Lib.hid (Ck.keys_nodup ds)
    have hkc := Ck.cnt_keys ds
    have hkl := Lib.hid (fun j => Ck.cnt_le ds (Ck.keys ds) j)
    have hkt := Lib.hid (fun j (h : j < (Ck.keys ds).length) => Ck.cnt_take (ds := ds) h)
    have hkm : Hid (∀ k ∈ Ck.keys ds, k.length ≤ 1000000000) := Lib.hid (fun k hk => by
      obtain ⟨d, hd, rfl⟩ := List.mem_map.1 hk
      exact (hd9 d (Ck.firsts_mem ds [] d hd)).key)
    have hof : Hid (∀ k, ∀ d ∈ Ck.of ds k, DOk d ∧ d.key = k) := Lib.hid (fun k d hd => by
      unfold Ck.of at hd
      rw [List.mem_filter] at hd
      exact ⟨hd9 d hd.1, by simpa using hd.2⟩)
    have hol : Hid (∀ k, (Ck.of ds k).length ≤ 200) := Lib.hid (fun k => Nat.le_trans (Ck.of_len ds k) hfw)
    have hkk : (Ck.keys ds).length ≤ 200 := by
      have h1 := Ck.firsts_len ds []
      show ((Ck.firsts [] ds).map _).length ≤ _
      rw [List.length_map]; omega
    have hfr := Lib.hid (Ck.files_right hok.out)
    replace hd9 := Lib.hid hd9
    obtain ⟨ks, hks⟩ : ∃ ks, Ck.keys ds = ks := ⟨_, rfl⟩
    rw [hks] at hke hkn hkc hkl hkt hkm hfr hkk
    clear hks hDW
    go_wp2_with fail
    refine hke.mono ?_
    rintro e w4 ⟨v4, rfl, ho4, hb4⟩
    obtain ⟨A4, c4, rfl, -⟩ := own_shape ho4
    have hz4 := hb4.size
    have hM4 := Lib.hid (hM.out.ext hb4)
    have hbW4 := Lib.hid (hbW.out.trans (hb4.mono (by have := hbW.out.size; exact this)))
    have hB4 := Lib.hid (hb4.mono (Nat.le_of_lt hzM))
    replace ho4 := Lib.hid ho4
    clear hke hb4 hM
    go_wp2_with fail
    go_loopw [9, 34] (fun nv iv wr => ∃ j : Nat, j ≤ ks.length ∧ iv = .int .i64 (j : Int) ∧ nv = .int .i64 (Ck.cnt ds (ks.take j) : Int) ∧ Hid (SMap wr gm j (fun k => if k ∈ ks.take j then 1 else 0)) ∧ Hid (Aside gm w4 wr)) (fun _ iv _ => ks.length - (intOf iv).toNat)
    case atStart => exact ⟨0, by omega, rfl, rfl, Lib.hid (hM4.out.is fun k => by simp), Lib.hid (Aside.refl _ _)⟩
    case round =>
      obtain ⟨j, hj, rfl, rfl, hMr, hAr⟩ := hrel
      have hkr := hkl.out j
      rcases Nat.lt_or_ge j ks.length with hlt | hge
      · have hor := own_aside ho4.out hAr.out (by omega)
        obtain ⟨b, o, hAo, hbb, hcc⟩ := txt_cell (Row.own hor) (k := j) hlt
        subst hAo
        have hkt1 := hkt.out j hlt
        have hkr1 := hkl.out (j + 1)
        have hnot : ks[j] ∉ ks.take j := by
          intro hm
          obtain ⟨i, hi, e⟩ := List.mem_take_iff_getElem.1 hm
          exact List.pairwise_iff_getElem.1 hkn.out i j (by omega) hlt (by omega) e
        have hkey := hkm.out _ (List.getElem_mem hlt)
        have htk : ∀ k, (k ∈ ks.take (j + 1)) ↔ (k = ks[j] ∨ k ∈ ks.take j) := fun k => by
          rw [List.take_succ_eq_append_getElem hlt, List.mem_append, List.mem_singleton]
          exact Or.comm
        obtain ⟨key, hke⟩ : ∃ key, ks[j] = key := ⟨_, rfl⟩
        rw [hke] at hcc hkt1 hnot hkey htk
        have hlk := hMr.out.look hkey
        simp only [if_neg hnot] at hlk
        have hzr := hAr.out.2.1
        replace hkt1 := Lib.hid hkt1
        replace htk := Lib.hid htk
        replace hke := Lib.hid hke
        clear hor hnot
        go_wp2_with (at_mapUpdate; refine wpList_seen rfl _ _ _ rfl rfl hMr.out (by omega) (c := 1) rfl rfl hkey (by omega) ?_; intro w5 hM5 hg5)
        have hA5 := hAr.out.grown hg5 (by omega)
        have hz5 := hA5.2.1
        have hB5 := hB4.out.trans hA5.1
        have hM5' := Lib.hid (hM5.is (f' := fun k => if k ∈ ks.take (j + 1) then 1 else 0) fun k => by
          by_cases e : k = key
          · rw [if_pos e, if_pos ((htk.out k).2 (.inl e))]; rfl
          · rw [if_neg e]
            by_cases e2 : k ∈ ks.take j
            · rw [if_pos e2, if_pos ((htk.out k).2 (.inr e2))]
            · rw [if_neg e2, if_neg (fun h => ((htk.out k).1 h).elim e e2)])
        have hof5 := hOf.out key w5 hB5 (by omega)
        have hmk := hof.out key
        have hml := hol.out key
        obtain ⟨es, hes⟩ : ∃ es, Ck.of ds key = es := ⟨_, rfl⟩
        rw [hes] at hof5 hmk hml hkt1
        replace hA5 := Lib.hid hA5
        replace hes := Lib.hid hes
        replace hmk := Lib.hid hmk
        clear hMr hAr hM5 hg5 hB5 hlk
        refine hof5.mono ?_
        rintro e w6 ⟨v6, rfl, ho6, hb6⟩
        obtain ⟨css6, k1, k2⟩ := ho6
        obtain ⟨A6, c6, rfl, -⟩ := own_shape k1
        obtain ⟨cs6, hD6, -⟩ := OwnD.row ⟨css6, k1, k2⟩
        have hA6 := Lib.hid (hA5.out.trans (Aside.of_ext hb6 (by omega)))
        have hM6 := Lib.hid (hM5'.out.ext hb6)
        have hz6 := hb6.size
        obtain ⟨cn, hcn⟩ : ∃ cn, Ck.cnt ds (ks.take j) = cn := ⟨_, rfl⟩
        rw [hcn] at hkr hkt1 ⊢
        obtain ⟨m, hm⟩ : ∃ m, es.length = m := ⟨_, rfl⟩
        rw [hm] at hml hkt1 hD6 ⊢
        replace hD6 := Lib.hid hD6
        replace hcn := Lib.hid hcn
        replace hm := Lib.hid hm
        clear k1 k2 hb6 hof5 hA5 hM5'
        go_wp2_with fail
        obtain ⟨wo, hwo⟩ : ∃ wo : World, wo = w6 := ⟨_, rfl⟩
        rw [← hwo] at hD6 hA6 hM6 hz6 ⊢
        clear hwo
        go_loopw [9, 48] (fun nv iv wq => ∃ i : Nat, i ≤ m ∧ iv = .int .i64 (i : Int) ∧ nv = .int .i64 ((cn + i : Nat) : Int) ∧ Hid (Below wo.heap.size wo wq)) (fun _ iv _ => m - (intOf iv).toNat)
        case atStart => exact ⟨0, by omega, rfl, rfl, Lib.hid (Below.refl _ _)⟩
        case round =>
          obtain ⟨i, hi, rfl, rfl, hb⟩ := hrel
          rcases Nat.lt_or_ge i m with hilt | hige
          · obtain ⟨b7, o7, hA7, hb7, hc7⟩ := (hD6.out.ext hb.out).def_at (by omega)
            subst hA7
            obtain ⟨LA, lc, g1, g2, g3⟩ := hc7 i (by rw [hm.out]; exact hilt)
            have hde := hmk.out _ (List.getElem_mem (show i < es.length by rw [hm.out]; exact hilt))
            obtain ⟨d, hd⟩ : ∃ d, es[i]'(by rw [hm.out]; exact hilt) = d := ⟨_, rfl⟩
            rw [hd] at g1 g2 g3 hde
            obtain ⟨ln, hln⟩ : ∃ ln, d.lines.length = ln := ⟨_, rfl⟩
            rw [hln] at g3
            have z0 := g3 0 _ rfl
            have z1 := g3 1 _ rfl
            have z2 := g3 2 _ rfl
            have z3 := g3 3 _ rfl
            have z4 := g3 4 _ rfl
            have z5 := g3 5 _ rfl
            have z6 := g3 6 _ rfl
            have z7 := g3 7 _ rfl
            have z8 := g3 8 _ rfl
            have z9 := g3 9 _ rfl
            have z10 := g3 10 _ rfl
            have z11 := g3 11 _ rfl
            rw [Nat.add_zero] at z0
            rw [hde.2] at z10
            have hb8 := Lib.hid (ext_trans hb.out (ext_alloc wr (.cells (#[.int .i64 (d.doc : Int), .int .i64 (d.line : Int), .int .i64 (d.frm : Int), .int .i64 (d.upto : Int), .string (bs d.attr.lang), .string (bs d.attr.name), .string (bs d.attr.file), .string (bs d.attr.style), .bool d.attr.append, .bool d.attr.noline, .string (bs key), .slice LA ln lc]) 52)))
            clear g1 g2 g3 hc7 hde hd hln hb
            go_wp2_with fail
            go_roundw
            case rel => exact ⟨i + 1, by omega, by go_num, by go_num, hb8⟩
            case measure => simp [intOf]; omega
          · obtain rfl : i = m := by omega
            have hAw := Lib.hid (hA6.out.trans (Aside.of_ext hb.out (by omega)))
            have hMw := Lib.hid (hM6.out.ext hb.out)
            have hct : Hid (Ck.cnt ds (ks.take (j + 1)) = cn + i) := Lib.hid hkt1.out
            clear hkt1 hb hA6 hM6
            go_wp2_with fail
            go_roundw
            case rel => exact ⟨j + 1, by omega, by go_num, by rw [hct.out], hMw, hAw⟩
            case measure => simp [intOf]; omega
      · obtain rfl : j = ks.length := by omega
        have hAr' := hAr.out
        have hBr := hB4.out.trans hAr'.1
        have hzr := hAr'.2.1
        have hfi := hFi.out wr hBr (by omega)
        have hMs := Lib.hid (hMr.out.is (f' := fun k => if k ∈ ks then 1 else 0) fun k => by rw [List.take_length])
        have hcn : Hid (Ck.cnt ds (ks.take ks.length) = ds.length) := Lib.hid (by rw [List.take_length]; exact hkc)
        have hbr := Lib.hid (hbW4.out.trans (hAr'.1.mono (by have := hzw.out; have := hgm.out; omega)))
        replace hBr := Lib.hid hBr
        clear hMr hAr hAr' hkr hkt hkl
        go_wp2_with fail
        refine hfi.mono ?_
        rintro e w7 ⟨v7, rfl, ho7, hb7⟩
        obtain ⟨A7, c7, rfl, -⟩ := own_shape ho7
        have hz7 := hb7.size
        have hM7 := Lib.hid (hMs.out.ext hb7)
        have hbW7 := Lib.hid (hbr.out.trans (hb7.mono (by have := hbr.out.size; exact this)))
        have hB7 := Lib.hid (hBr.out.trans (hb7.mono (by omega)))
        obtain ⟨hfn, hfk⟩ := hfr.out
        have hfl9 : (Ck.files ds).length ≤ 200 := by
          have h1 := Ck.firsts_len ds []
          have h2 := List.length_filter_le (fun d : Ck.Def => Ck.isF d.attr) (Ck.firsts [] ds)
          show (((Ck.firsts [] ds).filter _).map _).length ≤ _
          rw [List.length_map]; omega
        obtain ⟨fs, hfs⟩ : ∃ fs, Ck.files ds = fs := ⟨_, rfl⟩
        rw [hfs] at hfn hfk ho7 hfl9 ⊢
        replace ho7 := Lib.hid ho7
        replace hfn := Lib.hid hfn
        replace hfk := Lib.hid hfk
        clear hfi hb7 hMs hbr hfr hfs hBr
        go_wp2_with fail
        go_loopw [63] (fun iv wr => ∃ j : Nat, j ≤ fs.length ∧ iv = .int .i64 (j : Int) ∧ Hid (SMap wr gm (ks.length + j) (fun k => if k ∈ fs.take j then 2 else if k ∈ ks then 1 else 0)) ∧ Hid (Aside gm w7 wr)) (fun iv _ => fs.length - (intOf iv).toNat)
        case atStart => exact ⟨0, by omega, rfl, Lib.hid (hM7.out.is fun k => by simp), Lib.hid (Aside.refl _ _)⟩
        case round =>
          obtain ⟨j, hj, rfl, hMr, hAr⟩ := hrel
          have hzr := hAr.out.2.1
          have hBr := hB7.out.trans hAr.out.1
          rcases Nat.lt_or_ge j fs.length with hlt | hge
          · have hor := own_aside ho7.out hAr.out (by omega)
            obtain ⟨b, o, hAo, hbb, hcc⟩ := txt_cell (Row.own hor) (k := j) hlt
            subst hAo
            have hnot : fs[j] ∉ fs.take j := by
              intro hm
              obtain ⟨i, hi, e⟩ := List.mem_take_iff_getElem.1 hm
              exact List.pairwise_iff_getElem.1 hfn.out i j (by omega) hlt (by omega) e
            obtain ⟨hin, df, hdf, hfile⟩ := hfk.out _ (List.getElem_mem hlt)
            have hkey := hkm.out _ hin
            have htk : ∀ k, (k ∈ fs.take (j + 1)) ↔ (k = fs[j] ∨ k ∈ fs.take j) := fun k => by
              rw [List.take_succ_eq_append_getElem hlt, List.mem_append, List.mem_singleton]
              exact Or.comm
            obtain ⟨key, hke⟩ : ∃ key, fs[j] = key := ⟨_, rfl⟩
            rw [hke] at hcc hnot hkey htk hin hdf hfile
            have hlk := hMr.out.look hkey
            simp only [if_neg hnot, if_pos hin] at hlk
            have hof5 := fun (w5 : World) (hA5 : Below wr.heap.size wr w5) => hOf.out key w5 (hBr.trans (hA5.mono (by omega))) (by have := hA5.size; omega)
            have hml := hol.out key
            obtain ⟨es, hes⟩ : ∃ es, Ck.of ds key = es := ⟨_, rfl⟩
            rw [hes] at hof5 hml hdf
            replace hes := Lib.hid hes
            replace htk := Lib.hid htk
            replace hof5 := Lib.hid hof5
            have hlen : 0 < es.length := (List.getElem?_eq_some_iff.1 hdf).1
            have hd0 : es[0] = df := (List.getElem?_eq_some_iff.1 hdf).2
            obtain ⟨m, hm⟩ : ∃ m, es.length = m := ⟨_, rfl⟩
            rw [hm] at hml
            have hm0 : 0 < m := by omega
            have hmi : ¬ ((m : Int) = 0) := by omega
            clear hor hnot hin hdf
            go_wp2_with fail
            refine (hof5.out wr (Below.refl _ _)).mono ?_
            rintro e w8 ⟨v8, rfl, ho8, hb8⟩
            obtain ⟨css8, k1, k2⟩ := ho8
            obtain ⟨A8, c8, rfl, -⟩ := own_shape k1
            rw [hm]
            replace hb8 := Lib.hid hb8
            clear k1 k2
            go_wp2_with fail
            refine (hof5.out w8 hb8.out).mono ?_
            rintro e w9 ⟨v9, rfl, ho9, hb9⟩
            obtain ⟨css9, k1, k2⟩ := ho9
            obtain ⟨A9, c9, rfl, -⟩ := own_shape k1
            obtain ⟨cs9, hD9, -⟩ := OwnD.row ⟨css9, k1, k2⟩
            obtain ⟨b9, o9, hA9, hb99, hc9⟩ := hD9.def_at hlen
            subst hA9
            obtain ⟨LA, lc, g1, g2, g3⟩ := hc9 0 hlen
            have z6 := g3 6 _ rfl
            rw [hd0, hfile] at z6
            rw [hm]
            have hb10 := ext_trans hb8.out hb9
            have hM10 := Lib.hid (hMr.out.ext hb10)
            have hA10 := hAr.out.trans (Aside.of_ext hb10 (by omega))
            have z6' : w9.cell? ⟨b9, o9 + 6, none⟩ = some (.string (bs key)) := by rw [← z6, Nat.zero_mul, Nat.add_zero]
            clear k1 k2 hD9 hc9 g1 g2 g3 z6 hb10 hb9 hb8
            go_wp2_with (at_mapUpdate; refine wpList_seen rfl _ _ _ rfl rfl hM10.out (by omega) (c := 2) rfl rfl hkey (by omega) ?_; intro w5 hM5 hg5)
            have hA11 := Lib.hid (hA10.grown hg5 (by omega))
            have hM11 := Lib.hid (hM5.is (f' := fun k => if k ∈ fs.take (j + 1) then 2 else if k ∈ ks then 1 else 0) fun k => by
              by_cases e : k = key
              · rw [if_pos e, if_pos ((htk.out k).2 (.inl e))]; rfl
              · rw [if_neg e]
                by_cases e2 : k ∈ fs.take j
                · rw [if_pos e2, if_pos ((htk.out k).2 (.inr e2))]
                · rw [if_neg e2, if_neg (fun h => ((htk.out k).1 h).elim e e2)])
            clear hM5 hg5 hA10 hM10
            go_roundw
            case rel => exact ⟨j + 1, by omega, by go_num, hM11, hA11⟩
            case measure => simp [intOf]; omega
          · obtain rfl : j = fs.length := by omega
            have hbE := Lib.hid (hbW7.out.trans (hAr.out.1.mono (by have := hzw.out; have := hgm.out; omega)))
            have hkq := ck_known wr (hTt.out _ hbE.out)
            clear hAr hMr hBr hcn
            go_wp2_with fail
            refine hkq.mono ?_
            rintro e w2 ⟨rfl, hb2⟩
            replace hb2 := Lib.hid (ext_trans hbE.out hb2)
            go_wp2_with fail
            go_ret
            exact ⟨rfl, hb2.out⟩
end Go.Proofs.YtmmgfoepfapnkaaGreatDoor

namespace Go.Proofs.YtmmgfoepfapnkaaGreatDoor
open Go.RowKit
attribute [local go_sem] canOp readsAs readUpon

theorem Ck.sum_take (ls : List (List UInt8)) (j : Nat) : Ck.sum (ls.take j) ≤ Ck.sum ls := by
  have e : Ck.sum ls = Ck.sum (ls.take j) + Ck.sum (ls.drop j) := by
    unfold Ck.sum
    rw [← List.sum_append, ← List.map_append, List.take_append_drop]
  omega
/-- a slice's first elements -/
theorem run_cut_head {P : Program} {T : TypeId} (hT : P.underlying T = some (.slice (P.elem T))) (size : Nat) (hsz : ∀ w, (sizeOf (P.elem T)).run P w = .ok size w) (g o n c hi : Nat) (h2 : hi ≤ c) (w : World) :
    (Instr.slice T (.slice (some ⟨g, o, none⟩) n c) none (some (.int .i64 (hi : Int))) none).run P w = .ok (.slice (some ⟨g, o, none⟩) hi c) w := by
  rw [run_slice_h w T (some ⟨g, o, none⟩) n c hT .i64 hi (by omega) (by omega), hsz]
  simp [sliced, Result.andThen]
  intro _
  unfold Addr.add
  split <;> simp_all

set_option maxHeartbeats 8000000 in
set_option maxRecDepth 100000 in
theorem ck_spans (xs : List Int) (A0 : Option Addr) (c0 : Nat) (wild : Bool) (w : World) (h0 : Row w w.heap.size 1 A0 xs.length (icells xs)) (hc0 : xs.length ≤ c0) (hm0 : c0 ≤ maxLen) (hTb : ATabs w) :
    Calls Tryz.prog 5 #[.slice A0 xs.length c0, .bool wild] w fun e w' => e = .returned (.bool true) ∧ Below w.heap.size w w' := by
  have hx0 : xs.length ≤ 9223372036854775807 := Nat.le_trans hc0 (Nat.le_trans hm0 (by decide))
  have hTt := Lib.hid (fun w' (hb : Below w.heap.size w w') => tabs_ext hTb hb)
  have hT := ck_tape_new w xs A0 c0 h0 hc0 hx0
  have hbA := ext_alloc w (.cells #[.slice A0 xs.length c0, .int .i64 0] 26)
  replace hbA := Lib.hid hbA
  replace hT := Lib.hid hT
  clear h0 hTb hm0 hx0 hc0
  go_enter Tryz.func5, Tryz.ntmps5
  go_wp2_with fail
  generalize w.alloc (.cells #[.slice A0 xs.length c0, .int .i64 0] 26) = wa at hT hbA ⊢
  refine (good_any wa w.heap.size hT.out false).mono ?_
  rintro e w1 ⟨A1, n1, k1, l1, css1, rfl, hS1, hnc1, hn1, hs1, hT1, hA1⟩
  go_upto_if 21 with fail
  go_cut [6] (fun v wx => TDocs w wx v)
  case first =>
    cases wild with
    | false =>
      go_wp2_with fail
      go_meet
      case rel => exact TDocs.good hS1 hnc1 hn1 hs1 hbA.out hA1
    | true =>
      go_wp2_with fail
      refine (twild_any w1 w.heap.size hT1).mono ?_
      rintro e w2 ⟨v2, l2, rfl, hS2, hn2, hs2, _, hA2⟩
      go_wp2_with fail
      go_meet
      case rel => exact TDocs.wild hS2 hn2 hs2 hbA.out hA1 hA2
  case rest =>
    obtain ⟨A, c, l, css, rfl, hS, hn4, hlc, hls, hb⟩ := hcut
    clear hS1 hnc1 hn1 hs1 hT1 hA1 hT hbA
    have hcol := collect_any l css A c wc hS (fun s h => by have := (hls s h).2; omega) (by omega) (fun s h => by have := (hls s h).1; omega) (hTt.out _ hb) (tabs_size (hTt.out _ hb))
    have hok := Lib.hid (Ck.collect_ok l)
    have hfw := Ck.collect_few l
    obtain ⟨F, hF⟩ : ∃ F, (Ck.collect Ck.places l).1 = F := ⟨_, rfl⟩
    obtain ⟨ds, hds⟩ : ∃ ds, (Ck.collect Ck.places l).2 = ds := ⟨_, rfl⟩
    rw [hF, hds] at hcol
    rw [hds] at hok hfw
    obtain ⟨fc, fp, fl, fn⟩ := F
    replace hb := Lib.hid hb
    have hrt : fc = 0 → Ck.Right l ds := fun e => by
      have := Ck.collect_right (l := l) (by rw [hF]; exact e)
      rwa [hds] at this
    have hno : fc ≠ 0 → ds = [] := fun e => by
      have := Ck.collect_none (l := l) (by rw [hF]; exact e)
      rwa [hds] at this
    replace hS := Lib.hid hS
    replace hrt := Lib.hid hrt
    replace hno := Lib.hid hno
    clear hF hds hls
    go_wp2_with fail
    refine hcol.mono ?_
    rintro e w3 ⟨⟨v3, rfl, ho3⟩, hb3⟩
    obtain ⟨css3, k1, k2⟩ := ho3
    obtain ⟨A3, c3, rfl, hc3⟩ := own_shape k1
    obtain ⟨cs3, hD3, -⟩ := OwnD.row ⟨css3, k1, k2⟩
    have hb3' := hb.out.trans (hb3.mono hb.out.size)
    have bF := ext_alloc w3 (.cells (fcells ⟨fc, fp, fl, fn⟩) 46)
    have gF := heap_alloc_new w3 (.cells (fcells ⟨fc, fp, fl, fn⟩) 46)
    have hDW := hD3.ext bF
    have hSW := (hS.out.ext hb3).ext bF
    have hbW := hb3'.trans (bF.mono hb3'.size)
    have z0 : (w3.alloc (.cells (fcells ⟨fc, fp, fl, fn⟩) 46)).cell? ⟨w3.heap.size, 0, none⟩ = some (.int .i64 (fc : Int)) := cell12 gF rfl
    clear k1 k2 hD3 hb3 hb3' bF gF hb hS
    replace hDW := Lib.hid hDW
    replace hbW := Lib.hid hbW
    replace hSW := Lib.hid hSW
    go_upto_region 6 with fail
    obtain ⟨W, hW⟩ : ∃ W, w3.alloc (.cells (fcells ⟨fc, fp, fl, fn⟩) 46) = W := ⟨_, rfl⟩
    rw [hW] at hDW hbW hSW z0
    change Code.wp _ _ _ _ (w3.alloc (.cells (fcells ⟨fc, fp, fl, fn⟩) 46))
    rw [hW]
    clear hW
    by_cases hf0 : fc = 0
    · subst hf0
      have hR := Lib.hid (hrt.out rfl)
      have hkn := fun (w' : World) (hb : Below W.heap.size W w') => ck_known w' (hTt.out _ (hbW.out.trans (hb.mono hbW.out.size)))
      replace hkn := Lib.hid hkn
      clear hrt hno
      go_wp2_with fail
      go_loopw [40] (fun iv wr => ∃ i : Nat, i ≤ ds.length ∧ iv = .int .i64 (i : Int) ∧ Hid (Below W.heap.size W wr)) (fun iv _ => ds.length - (intOf iv).toNat)
      case atStart => exact ⟨0, by omega, rfl, Lib.hid (Below.refl _ _)⟩
      case round =>
        obtain ⟨i, hi, rfl, hb⟩ := hrel
        rcases Nat.lt_or_ge i ds.length with hlt | hge
        · obtain ⟨b0, o0, hA0, hb0, hc0⟩ := (hDW.out.ext hb.out).def_at (by omega)
          subst hA0
          obtain ⟨LA, lc, g1, g2, g3⟩ := hc0 i hlt
          have hsp := hR.out.each _ (List.getElem_mem hlt)
          have hpr : ∀ j (hj : j < i), Ck.Apart (ds[j]'(by omega)) ds[i] := fun j hj => List.pairwise_iff_getElem.1 hR.out.pair j i (by omega) hlt hj
          obtain ⟨a, ha⟩ : ∃ a, ds[i] = a := ⟨_, rfl⟩
          simp only [ha] at hpr
          rw [ha] at g1 g2 g3 hsp
          obtain ⟨ln, hln⟩ : ∃ ln, a.lines.length = ln := ⟨_, rfl⟩
          rw [hln] at g1 g2 g3
          have z0 := g3 0 _ rfl
          have z1 := g3 1 _ rfl
          have z2 := g3 2 _ rfl
          have z3 := g3 3 _ rfl
          have z4 := g3 4 _ rfl
          have z5 := g3 5 _ rfl
          have z6 := g3 6 _ rfl
          have z7 := g3 7 _ rfl
          have z8 := g3 8 _ rfl
          have z9 := g3 9 _ rfl
          have z10 := g3 10 _ rfl
          have z11 := g3 11 _ rfl
          rw [Nat.add_zero] at z0
          have bA := ext_alloc wr (.cells (darr a (.slice LA ln lc)) 52)
          have gA := heap_alloc_new wr (.cells (darr a (.slice LA ln lc)) 52)
          have hb1 := Lib.hid (ext_trans hb.out bA)
          have hL1 := Lib.hid (g2.ext bA)
          replace gA := Lib.hid gA
          replace hsp := Lib.hid hsp
          replace hpr := Lib.hid hpr
          replace hln := Lib.hid hln
          clear ha hc0 g2 g3 bA hb
          go_upto_region 11 with fail
          obtain ⟨w1, hw1⟩ : ∃ w1, wr.alloc (.cells (darr a (.slice LA ln lc)) 52) = w1 := ⟨_, rfl⟩
          rw [hw1] at hb1 hL1 gA
          change Code.wp _ _ _ _ (wr.alloc (.cells (darr a (.slice LA ln lc)) 52))
          rw [hw1]
          obtain ⟨g, hg⟩ : ∃ g, wr.heap.size = g := ⟨_, rfl⟩
          rw [hg] at gA ⊢
          have hzg : g < w1.heap.size := (Array.getElem?_eq_some_iff.1 gA.out).1
          clear hw1 z0 z1 z2 z3 z4 z5 z6 z7 z8 z9 z10 z11 hg
          have q := fun j v (hj : (darr a (.slice LA ln lc))[j]? = some v) => cell12 gA.out hj
          have q0 := q 0 _ rfl
          have q2 := q 2 _ rfl
          have q3 := q 3 _ rfl
          have q5 := q 5 _ rfl
          have q6 := q 6 _ rfl
          have q10 := q 10 _ rfl
          have q11 := q 11 _ rfl
          obtain ⟨b1, o1, hA1, hb1', hc1⟩ := (hSW.out.ext hb1.out).src_at (by have := hsp.out.doc; omega)
          subst hA1
          have hdoc := hsp.out.doc
          obtain ⟨DA, dc, d1, d2, d3, d4⟩ := hc1 a.doc hdoc
          have hwi := hsp.out.within _ (List.getElem?_eq_getElem hsp.out.doc)
          obtain ⟨dl, hdl⟩ : ∃ dl, l[a.doc].data.length = dl := ⟨_, rfl⟩
          rw [hdl] at d1 d2 d4 hwi
          have e1 : decide ((a.doc : Int) < 0) = false := decide_eq_false (by omega)
          have e2 : decide ((l.length : Int) ≤ (a.doc : Int)) = false := decide_eq_false (by have := hsp.out.doc; omega)
          have e3 : (0 : Int) ≤ (a.doc : Int) := by omega
          have e4 : (a.doc : Int) < (l.length : Int) := by have := hsp.out.doc; omega
          have e5 : decide ((a.frm : Int) < 0) = false := decide_eq_false (by omega)
          have e6 : decide ((a.upto : Int) < (a.frm : Int)) = false := decide_eq_false (by have := hsp.out.ord; omega)
          have e7 : decide ((dl : Int) < (a.upto : Int)) = false := decide_eq_false (by omega)
          have e8 : decide (a.upto < a.frm) = false := decide_eq_false (by have := hsp.out.ord; omega)
          have e9 : decide (dl < a.upto) = false := decide_eq_false (by omega)
          have s1 := bs_size a.attr.name
          have s2 := bs_size a.attr.file
          have s3 : ¬ (9223372036854775807 < a.attr.name.length + a.attr.file.length) := by have := hsp.out.ok.name; have := hsp.out.ok.file; omega
          have s4 := bs_append a.attr.name a.attr.file
          have s5 := bs_eq hsp.out.key
          have s6 : ((bs a.key).toList == []) = false := by rw [bs_toList]; exact beq_eq_false_iff_ne.2 hsp.out.has
          clear q hc1 d2 d3 hdl
          go_quiet (fail)
          have hb2 := Lib.hid (show Below W.heap.size W (w1.drewN nq) from below_drewN hb1.out nq)
          have hL2 := Lib.hid (show Row (w1.drewN nq) (w1.drewN nq).heap.size 1 LA ln (scells a.lines) from hL1.out)
          have gA2 := Lib.hid (show (w1.drewN nq).heap[g]? = some (.cells (darr a (.slice LA ln lc)) 52 (0, 0)) from gA.out)
          obtain ⟨w2, hw2⟩ : ∃ w2, w1.drewN nq = w2 := ⟨_, rfl⟩
          rw [hw2] at hb2 hL2 gA2 ⊢
          clear hw2 hb1 hL1 gA hzg q0 q2 q3 q5 q6 q10 q11 e1 e2 e3 e4 e5 e6 e7 e8 e9 s1 s2 s3 s4 s5 s6 d1 d4 hwi hb1'
          have hzg : g < w2.heap.size := (Array.getElem?_eq_some_iff.1 gA2.out).1
          have hlow := hsp.out.low
          have hhigh := hsp.out.high
          have hord := hsp.out.ord
          have hshort := hsp.out.short
          have q11 : w2.cell? ⟨g, 11, none⟩ = some (.slice LA ln lc) := cell12 gA2.out rfl
          have hlnl := hln.out
          have hlnb : ln ≤ 65536 := by rw [← hlnl]; exact hsp.out.few
          rw [hlnl] at hhigh
          go_wp2_with fail
          go_loopw [11, 99] (fun nv iv wr => ∃ j : Nat, j ≤ ln ∧ iv = .int .i64 (j : Int) ∧ nv = .int .i64 (Ck.sum (a.lines.take j) : Int) ∧ Hid (Below w2.heap.size w2 wr)) (fun _ iv _ => ln - (intOf iv).toNat)
          case atStart => exact ⟨0, by omega, rfl, rfl, Lib.hid (Below.refl _ _)⟩
          case round =>
            obtain ⟨j, hj, rfl, rfl, hb⟩ := hrel
            have hsj := Ck.sum_take a.lines j
            rcases Nat.lt_or_ge j ln with hjl | hjg
            · have hjl' : j < a.lines.length := by rw [hln.out]; exact hjl
              obtain ⟨b5, o5, hA5, hb5, hc5⟩ := txt_cell (by rw [hln.out]; exact hL2.out.ext hb.out) hjl'
              subst hA5
              have hs1 : Ck.sum (a.lines.take (j + 1)) = Ck.sum (a.lines.take j) + a.lines[j].length := by
                unfold Ck.sum
                rw [List.take_succ_eq_append_getElem hjl', List.map_append, List.sum_append]
                simp
              have hs2 := Ck.sum_take a.lines (j + 1)
              obtain ⟨t, ht⟩ : ∃ t, a.lines[j] = t := ⟨_, rfl⟩
              rw [ht] at hc5 hs1
              obtain ⟨sj, hsje⟩ : ∃ sj, Ck.sum (a.lines.take j) = sj := ⟨_, rfl⟩
              rw [hsje] at hs1 hsj ⊢
              have hsz := bs_size t
              have hs3 : Hid (Ck.sum (a.lines.take (j + 1)) = sj + t.length) := Lib.hid hs1
              have hs4 : sj + t.length ≤ 65536 := by omega
              clear ht hsje hs1 hs2
              go_wp2_with fail
              go_roundw
              case rel => exact ⟨j + 1, by omega, by go_num, by rw [hs3.out]; go_num, hb⟩
              case measure => simp [intOf]; omega
            · obtain rfl : ln = j := by omega
              have hs0 : Ck.sum (a.lines.take ln) = Ck.sum a.lines := by rw [List.take_of_length_le (by rw [hln.out]; exact Nat.le_refl _)]
              obtain ⟨S, hS⟩ : ∃ S, Ck.sum a.lines = S := ⟨_, rfl⟩
              rw [hS] at hlow hhigh hs0
              rw [hs0]
              have gR := (hb.out.block g hzg).trans gA2.out
              have y0 : wr.cell? ⟨g, 0, none⟩ = some (.int .i64 (a.doc : Int)) := cell12 gR rfl
              have y2 : wr.cell? ⟨g, 2, none⟩ = some (.int .i64 (a.frm : Int)) := cell12 gR rfl
              have y3 : wr.cell? ⟨g, 3, none⟩ = some (.int .i64 (a.upto : Int)) := cell12 gR rfl
              have y11 : wr.cell? ⟨g, 11, none⟩ = some (.slice LA ln lc) := cell12 gR rfl
              have hbR := Lib.hid (ext_trans hb2.out hb.out)
              obtain ⟨df, hdf⟩ : ∃ df : Nat, a.upto - a.frm = df := ⟨_, rfl⟩
              have hdi : (a.upto : Int) - (a.frm : Int) = (df : Int) := by omega
              have i1 : ¬ ((df : Int) < (S : Int)) := by omega
              have i2 : ¬ ((S : Int) + 2 * (ln : Int) < (df : Int)) := by omega
              have hcut := fun w => run_cut_head (P := Tryz.prog) (T := 35) (by kernel_rfl) 12 (fun w => by kernel_rfl) b0 o0 ds.length c3 i (by omega) w
              replace gR := Lib.hid gR
              clear hS hs0 hdf hb gA2 hL2 hb2 hzg q11 hsj
              go_upto_block 4 with fail
              obtain ⟨wR, hwR⟩ : ∃ wR : World, wR = wr := ⟨_, rfl⟩
              rw [← hwR] at gR hbR ⊢
              clear hwR y0 y2 y3 y11 i1 i2 hdi hcut
              go_wp2_with fail
              go_loopw [133] (fun iv wr => ∃ j : Nat, j ≤ i ∧ iv = .int .i64 (j : Int) ∧ Hid (Below wR.heap.size wR wr)) (fun iv _ => i - (intOf iv).toNat)
              case atStart => exact ⟨0, by omega, rfl, Lib.hid (Below.refl _ _)⟩
              case round =>
                obtain ⟨j, hj, rfl, hb⟩ := hrel
                rcases Nat.lt_or_ge j i with hji | hjg
                · obtain ⟨b7, o7, hA7, hb7, hc7⟩ := (hDW.out.ext (ext_trans hbR.out hb.out)).def_at (by omega)
                  injection hA7 with hA7
                  injection hA7 with hA7 hA8
                  subst hA7
                  subst hA8
                  obtain ⟨LB, lb, g1, g2, g3⟩ := hc7 j (by omega)
                  have hap := hpr.out j hji
                  have hbs := hR.out.each _ (List.getElem_mem (show j < ds.length by omega))
                  obtain ⟨d, hd⟩ : ∃ d, ds[j]'(by omega) = d := ⟨_, rfl⟩
                  rw [hd] at g1 g2 g3 hap hbs
                  obtain ⟨lm, hlm⟩ : ∃ lm, d.lines.length = lm := ⟨_, rfl⟩
                  rw [hlm] at g3
                  have z0 := g3 0 _ rfl
                  have z1 := g3 1 _ rfl
                  have z2 := g3 2 _ rfl
                  have z3 := g3 3 _ rfl
                  have z4 := g3 4 _ rfl
                  have z5 := g3 5 _ rfl
                  have z6 := g3 6 _ rfl
                  have z7 := g3 7 _ rfl
                  have z8 := g3 8 _ rfl
                  have z9 := g3 9 _ rfl
                  have z10 := g3 10 _ rfl
                  have z11 := g3 11 _ rfl
                  rw [Nat.add_zero] at z0
                  have bB := ext_alloc wr (.cells (darr d (.slice LB lb lb)) 52)
                  have bA := ext_alloc wr (.cells (darr d (.slice LB lm lb)) 52)
                  have gB := heap_alloc_new wr (.cells (darr d (.slice LB lm lb)) 52)
                  have hb5 := Lib.hid (ext_trans hb.out bA)
                  have gG := (bA.block g (by have := (Array.getElem?_eq_some_iff.1 gR.out).1; have := hb.out.size; omega)).trans ((hb.out.block g ((Array.getElem?_eq_some_iff.1 gR.out).1)).trans gR.out)
                  obtain ⟨a1, a2, a3⟩ := hap
                  replace gB := Lib.hid gB
                  replace gG := Lib.hid gG
                  replace a3 := Lib.hid a3
                  replace a2 := Lib.hid a2
                  clear hd hlm hc7 g1 g2 g3 bA bB hb hbs hb7
                  go_upto_region 24 with fail
                  obtain ⟨w5, hw5⟩ : ∃ w5, wr.alloc (.cells (darr d (.slice LB lm lb)) 52) = w5 := ⟨_, rfl⟩
                  rw [hw5] at gB gG hb5
                  change Code.wp _ _ _ _ (wr.alloc (.cells (darr d (.slice LB lm lb)) 52))
                  rw [hw5]
                  obtain ⟨gb, hgb⟩ : ∃ gb, wr.heap.size = gb := ⟨_, rfl⟩
                  rw [hgb] at gB ⊢
                  clear hw5 hgb z0 z1 z2 z3 z4 z5 z6 z7 z8 z9 z10 z11
                  have p := fun j v (hj : (darr d (.slice LB lm lb))[j]? = some v) => cell12 gB.out hj
                  have x := fun j v (hj : (darr a (.slice LA ln lc))[j]? = some v) => cell12 gG.out hj
                  have p0 : w5.cell? ⟨gb, 0, none⟩ = some (.int .i64 (d.doc : Int)) := p 0 _ rfl
                  have p3 : w5.cell? ⟨gb, 3, none⟩ = some (.int .i64 (d.upto : Int)) := p 3 _ rfl
                  have p6 : w5.cell? ⟨gb, 6, none⟩ = some (.string (bs d.attr.file)) := p 6 _ rfl
                  have p7 : w5.cell? ⟨gb, 7, none⟩ = some (.string (bs d.attr.style)) := p 7 _ rfl
                  have p10 : w5.cell? ⟨gb, 10, none⟩ = some (.string (bs d.key)) := p 10 _ rfl
                  have x0 : w5.cell? ⟨g, 0, none⟩ = some (.int .i64 (a.doc : Int)) := x 0 _ rfl
                  have x2 : w5.cell? ⟨g, 2, none⟩ = some (.int .i64 (a.frm : Int)) := x 2 _ rfl
                  have x6 : w5.cell? ⟨g, 6, none⟩ = some (.string (bs a.attr.file)) := x 6 _ rfl
                  have x7 : w5.cell? ⟨g, 7, none⟩ = some (.string (bs a.attr.style)) := x 7 _ rfl
                  have x10 : w5.cell? ⟨g, 10, none⟩ = some (.string (bs a.key)) := x 10 _ rfl
                  have i3 : ¬ ((a.doc : Int) < (d.doc : Int)) := by omega
                  clear p x
                  by_cases hdoc2 : d.doc = a.doc
                  · have i4 : ¬ ((a.frm : Int) ≤ (d.upto : Int)) := by have := a2.out hdoc2; omega
                    rw [hdoc2] at p0 i3
                    by_cases hkey : d.key = a.key
                    · obtain ⟨k1, k2⟩ := a3.out hkey
                      rw [hkey] at p10
                      rw [← k1] at p7
                      rw [← k2] at p6
                      clear hdoc2 hkey k1 k2 a2 a3 a1
                      go_wp2_with fail
                      go_roundw
                      case rel => first | exact ⟨j + 1, by omega, by go_num, hb5⟩ | exact ⟨_, _, _, ⟨j + 1, by omega, rfl⟩, rfl, rfl, by go_num⟩
                      case measure => simp [intOf]; omega
                    · have i5 := bs_ne hkey
                      clear hdoc2 hkey a2 a3 a1
                      go_wp2_with fail
                      go_roundw
                      case rel => first | exact ⟨j + 1, by omega, by go_num, hb5⟩ | exact ⟨_, _, _, ⟨j + 1, by omega, rfl⟩, rfl, rfl, by go_num⟩
                      case measure => simp [intOf]; omega
                  · have i4 : ¬ ((d.doc : Int) = (a.doc : Int)) := by omega
                    by_cases hkey : d.key = a.key
                    · obtain ⟨k1, k2⟩ := a3.out hkey
                      rw [hkey] at p10
                      rw [← k1] at p7
                      rw [← k2] at p6
                      clear hdoc2 hkey k1 k2 a2 a3 a1
                      go_wp2_with fail
                      go_roundw
                      case rel => first | exact ⟨j + 1, by omega, by go_num, hb5⟩ | exact ⟨_, _, _, ⟨j + 1, by omega, rfl⟩, rfl, rfl, by go_num⟩
                      case measure => simp [intOf]; omega
                    · have i5 := bs_ne hkey
                      clear hdoc2 hkey a2 a3 a1
                      go_wp2_with fail
                      go_roundw
                      case rel => first | exact ⟨j + 1, by omega, by go_num, hb5⟩ | exact ⟨_, _, _, ⟨j + 1, by omega, rfl⟩, rfl, rfl, by go_num⟩
                      case measure => simp [intOf]; omega
                · obtain rfl : j = i := by omega
                  have hbE := Lib.hid (ext_trans hbR.out hb.out)
                  clear hb
                  go_wp2_with fail
                  go_roundw
                  case rel => exact ⟨j + 1, by omega, by go_num, hbE⟩
                  case measure => simp [intOf]; omega
        · obtain rfl : i = ds.length := by omega
          have hkq := hkn.out wr hb.out
          have hbE := Lib.hid (hbW.out.trans (hb.out.mono hbW.out.size))
          clear hb
          go_wp2_with fail
          refine hkq.mono ?_
          rintro e w2 ⟨rfl, hb2⟩
          replace hb2 := Lib.hid (ext_trans hbE.out hb2)
          go_wp2_with fail
          go_ret
          exact ⟨rfl, hb2.out⟩
    · have hn0 := hno.out hf0
      subst hn0
      have hfi : ¬ ((fc : Int) = 0) := by omega
      have hkq := ck_known W (hTt.out _ hbW.out)
      go_wp2_with fail
      refine hkq.mono ?_
      rintro e w2 ⟨rfl, hb2⟩
      replace hb2 := Lib.hid (hbW.out.trans (hb2.mono hbW.out.size))
      go_wp2_with fail
      go_ret
      exact ⟨rfl, hb2.out⟩
end Go.Proofs.YtmmgfoepfapnkaaGreatDoor
