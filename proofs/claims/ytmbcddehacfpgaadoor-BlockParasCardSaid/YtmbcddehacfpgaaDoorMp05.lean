/- Law 7's BlockParas, walked. -/
import Derived.Test.YtmbcddehacfpgaaDoorMp03
import Derived.Test.YtmbcddehacfpgaaDoorMr23
import Derived.Test.YtmbcddehacfpgaaDoorMp02
import Derived.Test.YtmbcddehacfpgaaDoorMp04
namespace Go.Proofs.YtmbcddehacfpgaaDoor
open Go.RowKit
attribute [local go_sem] canOp readsAs readUpon

theorem run_rune (r : Int) (w : World) : (convert 21 9 (.int .i32 r)).run Tryd.prog w = .ok (.string (bs (Lib.encodeRune r))) w := by
  rw [run_convert_int_string w 21 9 .i32 r (by kernel_rfl) Tryd.underlying9, Ru.encode_eq]; rfl
theorem run_letter (r : Nat) (h : r < 26) (w : World) : (convert 21 9 (.int .i32 (97 + (r : Int)))).run Tryd.prog w = .ok (.string (bs [UInt8.ofNat (97 + r)])) w := by
  rw [run_rune]
  have : Lib.encodeRune (97 + (r : Int)) = [UInt8.ofNat (97 + r)] := by
    unfold Lib.encodeRune
    rw [Lib.encodeRuneZ_one (by omega) (by omega)]
    have e : (97 + (r : Int)).toNat = 97 + r := by omega
    simp only [List.map_cons, List.map_nil, e]
  rw [this]
set_option maxHeartbeats 4000000 in
set_option maxRecDepth 100000 in
theorem paras_any (ws : List Nat) (A0 : Option Addr) (c0 : Nat) (w : World) (h0 : Row w w.heap.size 1 A0 ws.length (ucells ws)) (_ : ws.length ≤ c0) (hx : ∀ x ∈ ws, x ≤ 65535) :
    Calls Tryd.prog 4 #[.slice A0 ws.length c0] w fun e w' => e = .returned (.bool true) ∧ Below w.heap.size w w' := by
  obtain ⟨tA, tB, tC, tD⟩ := para_trees ws
  have hL9 := pwords_len ws
  have hLs := pwords_short ws
  have hLe : pwords ws = (ws.take 10).map pword ++ [[101, 110, 100]] := rfl
  replace h0 := Lib.hid h0
  replace tA := Lib.hid tA
  replace tB := Lib.hid tB
  replace tC := Lib.hid tC
  replace tD := Lib.hid tD
  replace hLe := Lib.hid hLe
  go_enter Tryd.func4, Tryd.ntmps4
  go_wp2_with fail
  go_loopw [3, 4] (fun v i wr => ∃ k : Nat, i = .int .i64 (k : Int) ∧ k ≤ ws.length ∧ k ≤ 10 ∧ Hid (wr.ownsRow w.heap.size 9 1 v k (scells ((ws.take k).map pword))) ∧ Hid (Below w.heap.size w wr)) (fun _ i _ => 11 - (intOf i).toNat)
  case atStart => exact ⟨0, rfl, by omega, by omega, Lib.hid ⟨rfl, .inl ⟨rfl, rfl⟩⟩, Lib.hid (Below.refl _ _)⟩
  case round =>
    obtain ⟨k, rfl, hk1, hk2, hown, hb⟩ := hrel
    obtain ⟨Ay, cy, rfl, hcy⟩ := own_shape hown.out
    have hkk : (0 : Int) ≤ (k : Int) := by omega
    have hbz := hb.out.size
    by_cases hgo : k < ws.length ∧ k < 10
    · obtain ⟨hg1, hg2⟩ := hgo
      have hg1' : (k : Int) < (ws.length : Int) := by omega
      have hg2' : (k : Int) < 10 := by omega
      obtain ⟨b, o, rfl, hbb, hcc⟩ := h0.out.2 (by omega)
      have hsk := (hb.out.cell (p := ⟨b, o + k, none⟩) hbb).trans (hcc k (.int .u16 (ws[k] : Int)) (by simp [ucells, List.getElem?_eq_getElem hg1]))
      have hst := hx ws[k] (List.getElem_mem hg1)
      have hsn : (ws.take (k + 1)).map pword = (ws.take k).map pword ++ [pword ws[k]] := by rw [List.take_succ_eq_append_getElem hg1, List.map_append]; rfl
      obtain ⟨x, hs⟩ : ∃ x, ws[k] = x := ⟨_, rfl⟩
      rw [hs] at hsk hst hsn
      obtain ⟨r, hr, hr26, hre⟩ : ∃ r : Nat, (x : Int).tmod 26 = (r : Int) ∧ r < 26 ∧ pword x = [119, UInt8.ofNat (97 + r)] := ⟨x % 26, by rw [Int.tmod_eq_emod_of_nonneg (by omega)]; omega, Nat.mod_lt _ (by omega), rfl⟩
      have hr0 : (0 : Int) ≤ (r : Int) := by omega
      have hr1 : (r : Int) < 26 := by omega
      have hconv := run_letter r hr26
      obtain ⟨z, hz⟩ : ∃ z, UInt8.ofNat (97 + r) = z := ⟨_, rfl⟩
      rw [hz] at hconv hre
      have e1 : (⟨#[119]⟩ : ByteArray) ++ bs [z] = bs (pword x) := by rw [hre, show (⟨#[119]⟩ : ByteArray) = bs [119] from rfl, bs_append]; rfl
      have hz1 := bs_size [z]
      clear hcc hs hz hre
      go_wp2_with (at_builtin; refine wpList_app_new rfl (.tmp 23) (.tmp 33) rfl textEI rfl hown.out rfl rfl rfl (by intro u hu; simp at hu; subst hu; rfl) (by omega) (by omega) (by omega) ?_; intro v4 w4 hown4 hg4 hb4)
      go_roundw
      case rel => exact ⟨k + 1, by go_num, by omega, by omega, Lib.hid (by rw [hsn]; simp only [scells, List.map_append] at hown4 ⊢; exact hown4), Lib.hid (hb.out.trans hb4)⟩
      case measure => simp [intOf]; omega
    · have hstop : (ws.length : Int) ≤ (k : Int) ∨ (k : Int) < (ws.length : Int) ∧ (10 : Int) ≤ (k : Int) := by omega
      have hkt : ws.take k = ws.take 10 := by
        rcases Nat.lt_or_ge k ws.length with h | h
        · rw [show k = 10 from by omega]
        · rw [List.take_of_length_le h, List.take_of_length_le (by omega)]
      rw [hkt] at hown
      clear hgo hkt
      rcases hstop with hs1 | ⟨hs1, hs2⟩
      all_goals
        go_wp2_with (at_builtin; refine wpList_app_new rfl (.tmp 35) (.tmp 36) rfl textEI rfl hown.out rfl rfl rfl (by intro u hu; simp at hu; subst hu; rfl) (by omega) (by omega) (by omega) ?_; intro v4 w4 hown4 hg4 hb4; obtain ⟨A5, c5, rfl, hc5⟩ := own_shape hown4; have hz5 := hb4.size)
        have hL : scells ((ws.take 10).map pword) ++ #[Value.string ⟨#[101, 110, 100]⟩].toList = scells (pwords ws) := by rw [hLe.out]; simp [scells]; rfl
        have hLl : (pwords ws).length = k + 1 := by
          have := hown.out.1
          rw [hLe.out, List.length_append]
          simp [scells] at this ⊢
          omega
        rw [hL] at hown4
        obtain ⟨L, hLL⟩ : ∃ L, pwords ws = L := ⟨_, rfl⟩
        rw [hLL] at hL9 hLs tA tB tC tD hown4 hLl
        have hB4 := Lib.hid (hb.out.trans hb4)
        replace hown4 := Lib.hid hown4
        obtain ⟨n, hn⟩ : ∃ n, k + 1 = n := ⟨_, rfl⟩
        rw [show ((k : Int) + 1) = (n : Int) from by omega]
        rw [hn] at hown4 hLl hc5 ⊢
        clear hL hLL hLe hown hb4 hg4
        obtain ⟨T, hT⟩ : ∃ T : Nat → List UInt8, T = fun i => if i < n then Ln.join (L.take i) [10] else Pb.joinNl L := ⟨_, rfl⟩
        obtain ⟨S, hS⟩ : ∃ S : Nat → List UInt8, S = fun i => Ln.join (L.take i) [10] := ⟨_, rfl⟩
        have hS0 : S 0 = [] := by rw [hS]; rfl
        have hn0 : 0 < n := by omega
        have hT0 : T 0 = [] := by rw [hT]; show (if 0 < n then _ else _) = _; rw [if_pos hn0]; rfl
        have hSs : ∀ i (hi : i < L.length), S (i + 1) = S i ++ (L[i] ++ [10]) := fun i hi => by
          rw [hS]
          show Ln.join (L.take (i + 1)) [10] = _
          rw [List.take_succ_eq_append_getElem hi, join_append, Ln.join_cons, Ln.join_nil, List.append_nil]
        have hTs : ∀ i (hi : i < L.length), i + 1 < n → T (i + 1) = T i ++ L[i] ++ [10] := fun i hi h => by
          rw [hT]
          show (if i + 1 < n then _ else _) = (if i < n then _ else _) ++ _ ++ _
          rw [if_pos h, if_pos (by omega), List.take_succ_eq_append_getElem hi, join_append, Ln.join_cons, Ln.join_nil, List.append_nil, List.append_assoc]
        have hTe : ∀ i (hi : i < L.length), ¬ i + 1 < n → T (i + 1) = T i ++ L[i] := fun i hi h => by
          rw [hT]
          show (if i + 1 < n then _ else _) = (if i < n then _ else _) ++ _
          rw [if_neg h, if_pos (by omega)]
          have e : L = L.take i ++ [L[i]] := by
            rw [← List.take_succ_eq_append_getElem hi, List.take_of_length_le (by omega)]
          have := joinNl_last (L.take i) L[i]
          rw [← e] at this
          exact this
        have hSl : ∀ i, i ≤ n → (S i).length ≤ 44 := fun i hi => by
          rw [hS]
          have := join_len (ls := L.take i) fun s hs => hLs s (List.mem_of_mem_take hs)
          rw [List.length_take] at this
          show (Ln.join (L.take i) [10]).length ≤ 44
          omega
        have hTl : ∀ i, i ≤ n → (T i).length ≤ (S i).length := fun i hi => by
          rcases Nat.lt_or_ge i n with h | h
          · rw [hT, hS]; show (if i < n then _ else _ : List UInt8).length ≤ _; rw [if_pos h]; exact Nat.le_refl _
          · obtain ⟨j, rfl⟩ : ∃ j, i = j + 1 := ⟨i - 1, by omega⟩
            have h1 := hTe j (by omega) (by omega)
            have h2 := hSs j (by omega)
            have h3 : T j = S j := by rw [hT, hS]; show (if j < n then _ else _) = _; rw [if_pos (by omega)]
            rw [h1, h2, h3]
            simp only [List.length_append, List.length_cons, List.length_nil]; omega
        have hSn : S n = Ln.join L [10] := by rw [hS]; show Ln.join (L.take n) [10] = _; rw [← hLl, List.take_length]
        have hTn : T n = Pb.joinNl L := by rw [hT]; show (if n < n then _ else _) = _; rw [if_neg (by omega)]
        replace hSs := Lib.hid hSs
        replace hTs := Lib.hid hTs
        replace hTe := Lib.hid hTe
        clear hS hT
        go_loopw [5, 6, 40] (fun a t iv wy => ∃ i : Nat, iv = .int .i64 (i : Int) ∧ i ≤ n ∧ a = .string (bs (S i)) ∧ t = .string (bs (T i)) ∧ wy = w4) (fun _ _ iv _ => n - (intOf iv).toNat)
        case atStart => exact ⟨0, rfl, by omega, by rw [hS0]; rfl, by rw [hT0]; rfl, rfl⟩
        case round =>
          obtain ⟨i, rfl, hi, rfl, rfl, rfl⟩ := hrel
          rcases Nat.lt_or_eq_of_le hi with hil | rfl
          · have hik : i < L.length := by omega
            have hss := hSs.out i hik
            have hte := hTs.out i hik
            have htf := hTe.out i hik
            have hls := hLs _ (List.getElem_mem hik)
            rcases hown4.out.2 with ⟨_, h0⟩ | ⟨g1, q1, u1, hv1, _, hg1, _⟩
            · omega
            cases hv1
            have hck : wr.cell? ⟨g1, i, none⟩ = some (.string (bs L[i])) := own_cell hown4.out (by simp [scells, List.getElem?_eq_getElem hik])
            obtain ⟨s, hs⟩ : ∃ s, L[i] = s := ⟨_, rfl⟩
            rw [hs] at hss hte htf hls hck
            have hS1 := hSl i hi
            have hS2 := hSl (i + 1) (by omega)
            have hT1 := hTl i hi
            have hT2 := hTl (i + 1) (by omega)
            have hi0 : (0 : Int) ≤ (i : Int) := by omega
            have hi1 : (i : Int) < (n : Int) := by omega
            have e1 : bs s ++ (⟨#[10]⟩ : ByteArray) = bs (s ++ [10]) := by rw [show (⟨#[10]⟩ : ByteArray) = bs [10] from rfl, bs_append]
            obtain ⟨sl, hsl⟩ : ∃ sl, s ++ [10] = sl := ⟨_, rfl⟩
            rw [hsl] at e1 hss
            have hsll : sl.length = s.length + 1 := by rw [← hsl, List.length_append]; rfl
            have e2 : bs (S i) ++ bs sl = bs (S (i + 1)) := by rw [hss, bs_append]
            have e3 : bs (T i) ++ bs s = bs (T i ++ s) := by rw [bs_append]
            obtain ⟨tl, htl⟩ : ∃ tl, T i ++ s = tl := ⟨_, rfl⟩
            rw [htl] at e3 hte htf
            have htll : tl.length = (T i).length + s.length := by rw [← htl, List.length_append]
            have z1 := bs_size s
            have z2 := bs_size sl
            have z3 := bs_size (S i)
            have z4 := bs_size (T i)
            have z5 := bs_size tl
            clear hsl htl hs hg1 hss
            rcases Nat.lt_or_ge (i + 1) n with hlt | hge
            · have hlt' : (i : Int) + 1 < (n : Int) := by omega
              have hte' := hte hlt
              have e4 : bs tl ++ (⟨#[10]⟩ : ByteArray) = bs (T (i + 1)) := by rw [hte', show (⟨#[10]⟩ : ByteArray) = bs [10] from rfl, bs_append]
              clear hte htf hte'
              go_wp2_with fail
              go_roundw
              case rel => exact ⟨i + 1, by go_num, by omega, rfl, rfl, by first | rfl | trivial⟩
              case measure => simp [intOf]; omega
            · have hge' : (n : Int) ≤ (i : Int) + 1 := by omega
              have htf' := htf (by omega)
              rw [← htf'] at e3
              clear hte htf htf' z5
              go_wp2_with fail
              go_roundw
              case rel => exact ⟨i + 1, by go_num, by omega, rfl, rfl, by first | rfl | trivial⟩
              case measure => simp [intOf]; omega
          · have zS := hSl i (by omega)
            have zT := hTl i (by omega)
            rw [hSn] at zS zT
            rw [hSn, hTn]
            rw [hTn] at zT
            obtain ⟨D, hD⟩ : ∃ D, Ln.join L [10] = D := ⟨_, rfl⟩
            obtain ⟨J, hJ⟩ : ∃ J, Pb.joinNl L = J := ⟨_, rfl⟩
            rw [hD] at zS zT tA tB tC tD ⊢
            rw [hJ] at zT tA tB tC tD ⊢
            obtain ⟨D2, hD2⟩ : ∃ D2, D ++ [32, 32, 32, 10] ++ D = D2 := ⟨_, rfl⟩
            obtain ⟨D3, hD3⟩ : ∃ D3, [62, 32] ++ D = D3 := ⟨_, rfl⟩
            obtain ⟨D4, hD4⟩ : ∃ D4, D ++ [35, 32, 104, 10] ++ D = D4 := ⟨_, rfl⟩
            obtain ⟨D5, hD5⟩ : ∃ D5, D ++ [32, 32, 32, 10] = D5 := ⟨_, rfl⟩
            obtain ⟨D6, hD6⟩ : ∃ D6, D ++ [35, 32, 104, 10] = D6 := ⟨_, rfl⟩
            have f1 : bs D ++ (⟨#[32, 32, 32, 10]⟩ : ByteArray) = bs D5 := by rw [← hD5, show (⟨#[32, 32, 32, 10]⟩ : ByteArray) = bs [32, 32, 32, 10] from rfl, bs_append]
            have f2 : bs D5 ++ bs D = bs D2 := by rw [← hD2, ← hD5, bs_append]
            have f3 : (⟨#[62, 32]⟩ : ByteArray) ++ bs D = bs D3 := by rw [← hD3, show (⟨#[62, 32]⟩ : ByteArray) = bs [62, 32] from rfl, bs_append]
            have f4 : bs D ++ (⟨#[35, 32, 104, 10]⟩ : ByteArray) = bs D6 := by rw [← hD6, show (⟨#[35, 32, 104, 10]⟩ : ByteArray) = bs [35, 32, 104, 10] from rfl, bs_append]
            have f5 : bs D6 ++ bs D = bs D4 := by rw [← hD4, ← hD6, bs_append]
            have l2 : D2.length ≤ 100 := by rw [← hD2]; simp only [List.length_append, List.length_cons, List.length_nil]; omega
            have l3 : D3.length ≤ 100 := by rw [← hD3]; simp only [List.length_append, List.length_cons, List.length_nil]; omega
            have l4 : D4.length ≤ 100 := by rw [← hD4]; simp only [List.length_append, List.length_cons, List.length_nil]; omega
            have l5 : D5.length ≤ 100 := by rw [← hD5]; simp only [List.length_append, List.length_cons, List.length_nil]; omega
            have l6 : D6.length ≤ 100 := by rw [← hD6]; simp only [List.length_append, List.length_cons, List.length_nil]; omega
            have s1 := bs_size D
            have s2 := bs_size D2
            have s3 := bs_size D3
            have s4 := bs_size D4
            have s5 := bs_size D5
            have s6 := bs_size D6
            have c1 := run_bytes D
            have c2 := run_bytes D2
            have c3 := run_bytes D3
            have c4 := run_bytes D4
            rw [hD2] at tB
            rw [hD3] at tC
            rw [hD4] at tD
            rw [hLl] at tB tD
            clear hD hJ hD2 hD3 hD4 hD5 hD6 hSn hTn hSl hTl hTs hTe hSs hown4 hLs
            go_wp2_with fail
            refine (parse_conv D (by omega) wr).mono ?_
            rintro e w5 ⟨ca, rfl, ha, hb5⟩
            rw [show Pb.tree (Pb.linesOf D) = _ from tA.out] at ha
            obtain ⟨A1, k1, rfl, -, hk1⟩ := tc_kids ha
            obtain ⟨b1, o1, rfl, kk1⟩ := hk1 (by simp)
            obtain ⟨q1, t1, x1⟩ := kk1 0 (by simp)
            obtain ⟨A1', k1', rfl, -, -⟩ := tc_kids t1
            obtain ⟨w6, hw6⟩ : ∃ w6, w5.alloc (.cells #[.int .i64 0, .int .i64 0, .string (bs []), .string (bs []), .int .i64 0, .slice (some ⟨b1, o1, none⟩) 1 k1] 31) = w6 := ⟨_, rfl⟩
            have hn6 := heap_alloc_new w5 (.cells #[.int .i64 0, .int .i64 0, .string (bs []), .string (bs []), .int .i64 0, .slice (some ⟨b1, o1, none⟩) 1 k1] 31)
            have hb6 := ext_alloc w5 (.cells #[.int .i64 0, .int .i64 0, .string (bs []), .string (bs []), .int .i64 0, .slice (some ⟨b1, o1, none⟩) 1 k1] 31)
            have hz6 : (w5.alloc (.cells #[.int .i64 0, .int .i64 0, .string (bs []), .string (bs []), .int .i64 0, .slice (some ⟨b1, o1, none⟩) 1 k1] 31)).heap.size = w5.heap.size + 1 := by simp
            rw [hw6] at hn6 hb6 hz6
            have va := Lib.hid (cell_of hn6 (j := 5) rfl)
            have fa := Lib.hid (cell_mono hb6 (x1 2 _ rfl))
            have hB6 := Lib.hid (hb5.trans (hb6.mono hb5.size))
            obtain ⟨ga, hga⟩ : ∃ ga, w5.heap.size = ga := ⟨_, rfl⟩
            rw [hga] at va hz6
            have hp2 := parse_conv D2 (by omega) w6
            rw [hz6] at hp2
            replace hw6 := Lib.hid hw6
            replace hp2 := Lib.hid hp2
            clear kk1 hk1 ha t1 x1 hb6 hn6 hb5
            go_wp2_with fail
            rw [hw6.out]
            refine hp2.out.mono ?_
            rintro e w7 ⟨cb, rfl, hb, hb7⟩
            clear hp2
            have hb7' : Below w6.heap.size w6 w7 := by rw [hz6]; exact hb7
            rw [show Pb.tree (Pb.linesOf D2) = _ from tB.out] at hb
            obtain ⟨A2, k2, rfl, -, hk2⟩ := tc_kids hb
            obtain ⟨b2, o2, rfl, kk2⟩ := hk2 (by simp)
            obtain ⟨q2, t2, x2⟩ := kk2 1 (by simp)
            obtain ⟨A2', k2', rfl, -, -⟩ := tc_kids t2
            obtain ⟨w8, hw8⟩ : ∃ w8, w7.alloc (.cells #[.int .i64 0, .int .i64 0, .string (bs []), .string (bs []), .int .i64 0, .slice (some ⟨b2, o2, none⟩) 2 k2] 31) = w8 := ⟨_, rfl⟩
            have hn8 := heap_alloc_new w7 (.cells #[.int .i64 0, .int .i64 0, .string (bs []), .string (bs []), .int .i64 0, .slice (some ⟨b2, o2, none⟩) 2 k2] 31)
            have hb8 := ext_alloc w7 (.cells #[.int .i64 0, .int .i64 0, .string (bs []), .string (bs []), .int .i64 0, .slice (some ⟨b2, o2, none⟩) 2 k2] 31)
            have hz8 : (w7.alloc (.cells #[.int .i64 0, .int .i64 0, .string (bs []), .string (bs []), .int .i64 0, .slice (some ⟨b2, o2, none⟩) 2 k2] 31)).heap.size = w7.heap.size + 1 := by simp
            rw [hw8] at hn8 hb8 hz8
            have m8 := hb7'.trans (hb8.mono hb7'.size)
            replace va := Lib.hid (cell_mono m8 va.out)
            replace fa := Lib.hid (cell_mono m8 fa.out)
            have vb := Lib.hid (cell_of hn8 (j := 5) rfl)
            have fb := Lib.hid (cell_mono hb8 (x2 2 _ rfl))
            have fb4 := Lib.hid (cell_mono hb8 (x2 4 _ rfl))
            have hB8 := Lib.hid (hB6.out.trans (m8.mono hB6.out.size))
            obtain ⟨gb, hgb⟩ : ∃ gb, w7.heap.size = gb := ⟨_, rfl⟩
            rw [hgb] at vb hz8
            have hp3 := parse_conv D3 (by omega) w8
            rw [hz8] at hp3
            replace hw8 := Lib.hid hw8
            replace hp3 := Lib.hid hp3
            clear kk2 hk2 hb t2 x2 hb8 hn8 hb7 hb7' m8 hw6
            go_wp2_with fail
            rw [hw8.out]
            refine hp3.out.mono ?_
            rintro e w9 ⟨cc, rfl, hc, hb9⟩
            clear hp3
            have hb9' : Below w8.heap.size w8 w9 := by rw [hz8]; exact hb9
            rw [show Pb.tree (Pb.linesOf D3) = _ from tC.out] at hc
            obtain ⟨A3, k3, rfl, -, hk3⟩ := tc_kids hc
            obtain ⟨b3, o3, rfl, kk3⟩ := hk3 (by simp)
            obtain ⟨q3, t3, x3⟩ := kk3 0 (by simp)
            obtain ⟨A3', k3', rfl, -, hk3'⟩ := tc_kids t3
            obtain ⟨b4, o4, rfl, kk4⟩ := hk3' (by simp)
            obtain ⟨q4, t4, x4⟩ := kk4 0 (by simp)
            obtain ⟨A4', k4', rfl, -, -⟩ := tc_kids t4
            obtain ⟨w10, hw10⟩ : ∃ w10, w9.alloc (.cells #[.int .i64 0, .int .i64 0, .string (bs []), .string (bs []), .int .i64 0, .slice (some ⟨b3, o3, none⟩) 1 k3] 31) = w10 := ⟨_, rfl⟩
            have hn10 := heap_alloc_new w9 (.cells #[.int .i64 0, .int .i64 0, .string (bs []), .string (bs []), .int .i64 0, .slice (some ⟨b3, o3, none⟩) 1 k3] 31)
            have hb10 := ext_alloc w9 (.cells #[.int .i64 0, .int .i64 0, .string (bs []), .string (bs []), .int .i64 0, .slice (some ⟨b3, o3, none⟩) 1 k3] 31)
            have hz10 : (w9.alloc (.cells #[.int .i64 0, .int .i64 0, .string (bs []), .string (bs []), .int .i64 0, .slice (some ⟨b3, o3, none⟩) 1 k3] 31)).heap.size = w9.heap.size + 1 := by simp
            rw [hw10] at hn10 hb10 hz10
            have m10 := hb9'.trans (hb10.mono hb9'.size)
            replace va := Lib.hid (cell_mono m10 va.out)
            replace fa := Lib.hid (cell_mono m10 fa.out)
            replace vb := Lib.hid (cell_mono m10 vb.out)
            replace fb := Lib.hid (cell_mono m10 fb.out)
            replace fb4 := Lib.hid (cell_mono m10 fb4.out)
            have vc := Lib.hid (cell_of hn10 (j := 5) rfl)
            have fc := Lib.hid (cell_mono hb10 (x3 5 _ rfl))
            have fc2 := Lib.hid (cell_mono hb10 (x4 2 _ rfl))
            have hB10 := Lib.hid (hB8.out.trans (m10.mono hB8.out.size))
            obtain ⟨gc, hgc⟩ : ∃ gc, w9.heap.size = gc := ⟨_, rfl⟩
            rw [hgc] at vc hz10
            have hp4 := parse_conv D4 (by omega) w10
            rw [hz10] at hp4
            replace hw10 := Lib.hid hw10
            replace hp4 := Lib.hid hp4
            clear kk3 hk3 hc t3 x3 hb10 hn10 hb9 hb9' m10 hk3' kk4 t4 x4 hw8
            go_wp2_with fail
            rw [hw10.out]
            refine hp4.out.mono ?_
            rintro e w11 ⟨cd, rfl, hd, hb11⟩
            clear hp4
            have hb11' : Below w10.heap.size w10 w11 := by rw [hz10]; exact hb11
            rw [show Pb.tree (Pb.linesOf D4) = _ from tD.out] at hd
            obtain ⟨A5', k5, rfl, -, hk5⟩ := tc_kids hd
            obtain ⟨b5, o5, rfl, kk5⟩ := hk5 (by simp)
            obtain ⟨q5, t5, x5⟩ := kk5 1 (by simp)
            obtain ⟨q6, t6, x6⟩ := kk5 2 (by simp)
            obtain ⟨A6', k6', rfl, -, -⟩ := tc_kids t5
            obtain ⟨A7', k7', rfl, -, -⟩ := tc_kids t6
            obtain ⟨w12, hw12⟩ : ∃ w12, w11.alloc (.cells #[.int .i64 0, .int .i64 0, .string (bs []), .string (bs []), .int .i64 0, .slice (some ⟨b5, o5, none⟩) 3 k5] 31) = w12 := ⟨_, rfl⟩
            have hn12 := heap_alloc_new w11 (.cells #[.int .i64 0, .int .i64 0, .string (bs []), .string (bs []), .int .i64 0, .slice (some ⟨b5, o5, none⟩) 3 k5] 31)
            have hb12 := ext_alloc w11 (.cells #[.int .i64 0, .int .i64 0, .string (bs []), .string (bs []), .int .i64 0, .slice (some ⟨b5, o5, none⟩) 3 k5] 31)
            rw [hw12] at hn12 hb12
            have m12 := hb11'.trans (hb12.mono hb11'.size)
            replace va := cell_mono m12 va.out
            replace fa := cell_mono m12 fa.out
            replace vb := cell_mono m12 vb.out
            replace fb := cell_mono m12 fb.out
            replace fb4 := cell_mono m12 fb4.out
            replace vc := cell_mono m12 vc.out
            replace fc := cell_mono m12 fc.out
            replace fc2 := cell_mono m12 fc2.out
            have vd := cell_of hn12 (j := 5) rfl
            have fd := cell_mono hb12 (x5 0 _ rfl)
            have fd2 := cell_mono hb12 (x6 2 _ rfl)
            have hB12 := Lib.hid (hB10.out.trans (m12.mono hB10.out.size))
            obtain ⟨gd, hgd⟩ : ∃ gd, w11.heap.size = gd := ⟨_, rfl⟩
            rw [hgd] at vd
            simp only [Nat.zero_mul, Nat.one_mul, Nat.zero_add, Nat.add_zero, List.length_cons, List.length_nil, Nat.reduceAdd, Nat.reduceMul] at va fa vb fb fb4 vc fc fc2 vd fd fd2
            have hJJ := bs_eq (a := J) (b := J) rfl
            replace hw12 := Lib.hid hw12
            clear kk5 hk5 hd t5 t6 x5 x6 hb12 hn12 hb11 hb11' m12 hw10
            go_upto_region 20 with fail
            rw [hw12.out]
            clear hw12
            go_wp2_with fail
            refine (bknown_any w12).mono ?_
            rintro e w13 ⟨rfl, hb13⟩
            go_wp2_with fail
            go_ret
            exact ⟨rfl, hB4.out.trans ((ext_trans hB12.out hb13).mono hB4.out.size)⟩

theorem paras_said (ws : List Nat) (A0 : Option Addr) (c0 : Nat) (w : World) (h0 : Row w w.heap.size 1 A0 ws.length (ucells ws)) (hc0 : ws.length ≤ c0) (_ : c0 ≤ maxLen) (hx : ∀ x ∈ ws, x ≤ 65535) :
    Calls Tryd.prog 4 #[.slice A0 ws.length c0] w fun e w' => e = .returned (.bool true) ∧ Below w.heap.size w w' := paras_any ws A0 c0 w h0 hc0 hx
end Go.Proofs.YtmbcddehacfpgaaDoor
