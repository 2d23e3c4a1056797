/- FnLib FnBegins FnRBegins FnEnds -/
import Derived.Test.YtddkjkockbcamaaGreatDoorHw12
import Derived.Test.YtddkjkockbcamaaGreatDoorHw03
import Derived.Test.YtddkjkockbcamaaGreatDoorHw13
import Derived.Lib.IndexAny
import Derived.Laws.ResultCell
set_option maxHeartbeats 16000000
set_option maxRecDepth 100000
namespace Go.Proofs.YtddkjkockbcamaaGreatDoor
open Go.RowKit
theorem xG (b:UInt8):[(32:UInt8),9].contains b=Cl.cW b:=by
 simp only [Cl.cW,List.contains,List.elem];cases b==32<;>cases b==9<;>rfl
theorem FV (l:List UInt8):Lib.trimLeftS l [32,9]=Fn.front l:=by
 unfold Lib.trimLeftS
 induction l with
 | nil=>rfl
 | cons b r ih =>
  rw [List.dropWhile_cons,xG];cases hb:Cl.cW b with
  | true=>rw [if_pos rfl,ih,Fn.uS _ hb]
  | false=>rw [if_neg (by simp),Fn.qL _ hb]
theorem sQ (l:List UInt8):Lib.trimRightS l [32,9]=Fn.back l:=by
 unfold Lib.trimRightS
 induction l with
 | nil=>rfl
 | cons b r ih =>
  rw [List.reverse_cons,List.dropWhile_append];cases hr:Fn.back r with
  | nil =>
   rw [hr] at ih;have h0:r.reverse.dropWhile ([(32:UInt8),9].contains ·)=[]:=by
    have:=congrArg List.reverse ih;simpa using this
   rw [h0];simp only [List.isEmpty_nil,if_true,List.dropWhile_cons,List.dropWhile_nil,xG];cases hb:Cl.cW b with
   | true=>rw [Fn.yP hr hb];rfl
   | false=>rw [Fn.p4 _ hb,hr];rfl
  | cons x y =>
   rw [hr] at ih;have h0:(r.reverse.dropWhile ([(32:UInt8),9].contains ·)).isEmpty=false:=by
    cases hq:r.reverse.dropWhile ([(32:UInt8),9].contains ·) with
    | nil=>rw [hq] at ih;cases ih
    | cons _ _=>rfl
   rw [h0,Fn.tX (by rw [hr];simp),hr,← ih];simp
theorem SI (l:List UInt8):Lib.trimS l [32,9]=Fn.trim l:=by
 unfold Lib.trimS;rw [FV,sQ,Fn.I4];rfl
theorem xe (l:List UInt8) (w:World) (hl:l.length≤140737488355328) :
  Calls Tryz.prog 124 #[.string (bs l),.string ⟨#[32,9]⟩] w fun e w'=>e=.returned (.string (bs (Fn.trim l)))∧Below w.heap.size w w':=by
 have h:=Any.strings_Trim_laid Tryz.UY (by kernel_rfl) (bs l) ⟨#[32,9]⟩ w (by rw [au];omega) (by decide) (ascii_of_all (by decide));change Calls Tryz.prog 124 _ _ (fun e w'=>e=.returned (.string (bs (Lib.trimS l [32,9])))∧Below w.heap.size w w') at h;rwa [SI] at h
theorem DH (l:List UInt8) (c:UInt8) (w:World) :
  Calls Tryz.prog 159 #[.string (bs l),.string ⟨#[c]⟩] w fun e w'=>e=.returned (.bool (decide (c∈l)))∧w'=w:=by
 have h:=Tryz.strings_Contains_one (bs l) c w;rwa [show decide (0≤Lib.indexByte (bs l).data.toList c)=decide (c∈l) from by rw [← Lib.contains_iff_indexByte];simp [bs]] at h
theorem B7 (l:List UInt8) (w:World) (hl:l.length≤140737488355328) :
  Calls Tryz.prog 158 #[.string (bs l)] w fun e w'=>e=.returned (.string (bs l))∧Below w.heap.size w w':=by
 go_enter Tryz.func158,Tryz.ntmps158;go_wp2_with (go_at_call 185;refine (Tryz.stringslite_Clone (bs l) _ (by rw [au];omega)).mono ?_;rintro e w' ⟨rfl,hb⟩);go_ret;exact ⟨rfl,hb⟩
def opv (o:Fn.Op):Value:=.agg #[.int .u8 (o.c.toNat:Int),.int .i64 (o.n:Int),.int .i64 (o.ind:Int),.string (bs o.info)]
def nov:Value:=.agg #[.int .u8 0,.int .i64 0,.int .i64 0,.string ⟨#[]⟩]
def ql:Option Fn.Op→Value
 | none=>.tuple #[nov,.bool false]
 | some o=>.tuple #[opv o,.bool true]
theorem jZ (c:UInt8) (r:List UInt8) (w:World) :
  (Instr.index 9 (.string (bs (c::r))) (.int .i64 0)).run Tryz.prog w=.ok (.int .u8 (c.toNat:Int)) w:=bG (S:=c::r) (i:=0) (by simp) w
theorem Ka (l:List UInt8) (C n:Nat) (c:UInt8) (r I:List UInt8) (w:World) (hn:Hid (Fn.cu l=none))
  (hi:∀ w,Calls Tryz.prog 149 #[.string (bs l)] w fun e w'=>e=.returned (.tuple #[.int .i64 (C:Int),.string (bs (c::r)),.bool true])∧Below w.heap.size w w')
  (hrun:∀ w,Calls Tryz.prog 150 #[.string (bs (c::r)),.int .u8 (c.toNat:Int)] w fun e w'=>e=.returned (.int .i64 (n:Int))∧w=w')
  (hrl:n≤(c::r).length)
  (pz:∀ w,Calls Tryz.prog 124 #[.string (bs ((c::r).drop n)),.string ⟨#[32,9]⟩] w fun e w'=>e=.returned (.string (bs I))∧Below w.heap.size w w')
  (h3:n<3) (hc:c=96∨c=126) :
  Calls Tryz.prog 121 #[.string (bs l)] w fun e w'=>e=.returned (ql (Fn.cu l))∧Below w.heap.size w w':=by
 have hx:=jZ c r;have ht:=gf c r;have qm:=cB (S:=c::r) (i:=n) hrl;have hc2:(((c.toNat:Int) != 96)=false)∨((((c.toNat:Int) != 96)=true)∧(((c.toNat:Int) != 126)=false)):=by
  rcases hc with rfl | rfl
  ·exact .inl rfl
  ·exact .inr ⟨rfl,rfl⟩
 clear hc;rcases hc2 with hc2 | ⟨hc1,hc2⟩
 all_goals
  go_enter Tryz.func121,Tryz.ntmps121;go_wp2_with fail;refine (hi _).mono ?_;rintro e w1 ⟨rfl,hb1⟩;replace hb1:=Lib.hid hb1;go_wp2_with fail;refine (hrun _).mono ?_;rintro e w' ⟨rfl,rfl⟩;go_wp2_with fail;refine (pz _).mono ?_;rintro e w2 ⟨rfl,hb2⟩;replace hb2:=Lib.hid (ag hb1.out hb2);obtain ⟨k0,k1,k2,k3,k4⟩:=dX hb2.out;go_wp2;exact bodyPost_ret (v:=ql none) (by rw [results_cell_tmp rfl];go_simp;rfl) rfl ⟨by rw [hn.out],fI hb2.out _ _ _ _⟩
theorem Aw (l:List UInt8) (C n:Nat) (r I:List UInt8) (w:World) (hn:Hid (Fn.cu l=none))
  (hi:∀ w,Calls Tryz.prog 149 #[.string (bs l)] w fun e w'=>e=.returned (.tuple #[.int .i64 (C:Int),.string (bs (96::r)),.bool true])∧Below w.heap.size w w')
  (hrun:∀ w,Calls Tryz.prog 150 #[.string (bs (96::r)),.int .u8 96] w fun e w'=>e=.returned (.int .i64 (n:Int))∧w=w')
  (hrl:n≤(96::r).length)
  (pz:∀ w,Calls Tryz.prog 124 #[.string (bs ((96::r).drop n)),.string ⟨#[32,9]⟩] w fun e w'=>e=.returned (.string (bs I))∧Below w.heap.size w w')
  (rH:∀ w,Calls Tryz.prog 159 #[.string (bs I),.string ⟨#[96]⟩] w fun e w'=>e=.returned (.bool true)∧w'=w)
  (h3:¬ n<3) :
  Calls Tryz.prog 121 #[.string (bs l)] w fun e w'=>e=.returned (ql (Fn.cu l))∧Below w.heap.size w w':=by
 have hx:=jZ 96 r;have ht:=gf 96 r;have qm:=cB (S:=96::r) (i:=n) hrl;go_enter Tryz.func121,Tryz.ntmps121;go_wp2_with fail;refine (hi _).mono ?_;rintro e w1 ⟨rfl,hb1⟩;replace hb1:=Lib.hid hb1;go_wp2_with fail;refine (hrun _).mono ?_;rintro e w' ⟨rfl,rfl⟩;go_wp2_with fail;refine (pz _).mono ?_;rintro e w2 ⟨rfl,hb2⟩;replace hb2:=Lib.hid (ag hb1.out hb2);go_wp2_with fail;refine (rH _).mono ?_;rintro e w' ⟨rfl,rfl⟩;obtain ⟨k0,k1,k2,k3,k4⟩:=dX hb2.out;go_wp2;exact bodyPost_ret (v:=ql none) (by rw [results_cell_tmp rfl];go_simp;rfl) rfl ⟨by rw [hn.out],fI hb2.out _ _ _ _⟩
theorem CY (l:List UInt8) (C n:Nat) (r I:List UInt8) (w:World) (hn:Hid (Fn.cu l=some ⟨96,n,C,I⟩))
  (hi:∀ w,Calls Tryz.prog 149 #[.string (bs l)] w fun e w'=>e=.returned (.tuple #[.int .i64 (C:Int),.string (bs (96::r)),.bool true])∧Below w.heap.size w w')
  (hrun:∀ w,Calls Tryz.prog 150 #[.string (bs (96::r)),.int .u8 96] w fun e w'=>e=.returned (.int .i64 (n:Int))∧w=w')
  (hrl:n≤(96::r).length)
  (pz:∀ w,Calls Tryz.prog 124 #[.string (bs ((96::r).drop n)),.string ⟨#[32,9]⟩] w fun e w'=>e=.returned (.string (bs I))∧Below w.heap.size w w')
  (rH:∀ w,Calls Tryz.prog 159 #[.string (bs I),.string ⟨#[96]⟩] w fun e w'=>e=.returned (.bool false)∧w'=w)
  (hcl:∀ w,Calls Tryz.prog 158 #[.string (bs I)] w fun e w'=>e=.returned (.string (bs I))∧Below w.heap.size w w')
  (h3:¬ n<3) :
  Calls Tryz.prog 121 #[.string (bs l)] w fun e w'=>e=.returned (ql (Fn.cu l))∧Below w.heap.size w w':=by
 have hx:=jZ 96 r;have ht:=gf 96 r;have qm:=cB (S:=96::r) (i:=n) hrl;go_enter Tryz.func121,Tryz.ntmps121;go_wp2_with fail;refine (hi _).mono ?_;rintro e w1 ⟨rfl,hb1⟩;replace hb1:=Lib.hid hb1;go_wp2_with fail;refine (hrun _).mono ?_;rintro e w' ⟨rfl,rfl⟩;go_wp2_with fail;refine (pz _).mono ?_;rintro e w2 ⟨rfl,hb2⟩;replace hb2:=Lib.hid (ag hb1.out hb2);go_wp2_with fail;refine (rH _).mono ?_;rintro e w' ⟨rfl,rfl⟩;go_wp2_with fail;refine (hcl _).mono ?_;rintro e w3 ⟨rfl,hb3⟩;replace hb3:=Lib.hid (ag hb2.out hb3);obtain ⟨k0,k1,k2,k3,k4⟩:=dX hb3.out;go_wp2;exact bodyPost_ret (v:=ql (some ⟨96,n,C,I⟩)) (by rw [results_cell_tmp rfl];go_simp;rfl) rfl ⟨by rw [hn.out],fI hb3.out _ _ _ _⟩
theorem Az (l:List UInt8) (C n:Nat) (r I:List UInt8) (w:World) (hn:Hid (Fn.cu l=some ⟨126,n,C,I⟩))
  (hi:∀ w,Calls Tryz.prog 149 #[.string (bs l)] w fun e w'=>e=.returned (.tuple #[.int .i64 (C:Int),.string (bs (126::r)),.bool true])∧Below w.heap.size w w')
  (hrun:∀ w,Calls Tryz.prog 150 #[.string (bs (126::r)),.int .u8 126] w fun e w'=>e=.returned (.int .i64 (n:Int))∧w=w')
  (hrl:n≤(126::r).length)
  (pz:∀ w,Calls Tryz.prog 124 #[.string (bs ((126::r).drop n)),.string ⟨#[32,9]⟩] w fun e w'=>e=.returned (.string (bs I))∧Below w.heap.size w w')
  (hcl:∀ w,Calls Tryz.prog 158 #[.string (bs I)] w fun e w'=>e=.returned (.string (bs I))∧Below w.heap.size w w')
  (h3:¬ n<3) :
  Calls Tryz.prog 121 #[.string (bs l)] w fun e w'=>e=.returned (ql (Fn.cu l))∧Below w.heap.size w w':=by
 have hx:=jZ 126 r;have ht:=gf 126 r;have qm:=cB (S:=126::r) (i:=n) hrl;go_enter Tryz.func121,Tryz.ntmps121;go_wp2_with fail;refine (hi _).mono ?_;rintro e w1 ⟨rfl,hb1⟩;replace hb1:=Lib.hid hb1;go_wp2_with fail;refine (hrun _).mono ?_;rintro e w' ⟨rfl,rfl⟩;go_wp2_with fail;refine (pz _).mono ?_;rintro e w2 ⟨rfl,hb2⟩;replace hb2:=Lib.hid (ag hb1.out hb2);go_wp2_with fail;refine (hcl _).mono ?_;rintro e w3 ⟨rfl,hb3⟩;replace hb3:=Lib.hid (ag hb2.out hb3);obtain ⟨k0,k1,k2,k3,k4⟩:=dX hb3.out;go_wp2;exact bodyPost_ret (v:=ql (some ⟨126,n,C,I⟩)) (by rw [results_cell_tmp rfl];go_simp;rfl) rfl ⟨by rw [hn.out],fI hb3.out _ _ _ _⟩
theorem Dv (l:List UInt8) (C:Nat) (c:UInt8) (r:List UInt8) (w:World) (hn:Hid (Fn.cu l=none))
  (hi:∀ w,Calls Tryz.prog 149 #[.string (bs l)] w fun e w'=>e=.returned (.tuple #[.int .i64 (C:Int),.string (bs (c::r)),.bool true])∧Below w.heap.size w w')
  (hc:¬ (c=96∨c=126)) :
  Calls Tryz.prog 121 #[.string (bs l)] w fun e w'=>e=.returned (ql (Fn.cu l))∧Below w.heap.size w w':=by
 have hx:=jZ c r;have ht:=gf c r;have hc1:((c.toNat:Int) != 96)=true:=by have:=dw (n:=96) (by omega) (fun h=>hc (.inl h));simpa using this
 have hc2:((c.toNat:Int) != 126)=true:=by have:=dw (n:=126) (by omega) (fun h=>hc (.inr h));simpa using this
 clear hc;go_enter Tryz.func121,Tryz.ntmps121;go_wp2_with fail;refine (hi _).mono ?_;rintro e w1 ⟨rfl,hb1⟩;replace hb1:=Lib.hid hb1;obtain ⟨k0,k1,k2,k3,k4⟩:=dX hb1.out;go_wp2;exact bodyPost_ret (v:=ql none) (by rw [results_cell_tmp rfl];go_simp;rfl) rfl ⟨by rw [hn.out],fI hb1.out _ _ _ _⟩
theorem CA (l:List UInt8) (C:Nat) (w:World) (hn:Hid (Fn.cu l=none))
  (hi:∀ w,Calls Tryz.prog 149 #[.string (bs l)] w fun e w'=>e=.returned (.tuple #[.int .i64 (C:Int),.string (bs ([])),.bool true])∧Below w.heap.size w w') :
  Calls Tryz.prog 121 #[.string (bs l)] w fun e w'=>e=.returned (ql (Fn.cu l))∧Below w.heap.size w w':=by
 have ht:=oz;go_enter Tryz.func121,Tryz.ntmps121;go_wp2_with fail;refine (hi _).mono ?_;rintro e w1 ⟨rfl,hb1⟩;replace hb1:=Lib.hid hb1;obtain ⟨k0,k1,k2,k3,k4⟩:=dX hb1.out;go_wp2;exact bodyPost_ret (v:=ql none) (by rw [results_cell_tmp rfl];go_simp;rfl) rfl ⟨by rw [hn.out],fI hb1.out _ _ _ _⟩
theorem I8 (l:List UInt8) (C:Nat) (r:List UInt8) (w:World) (hn:Hid (Fn.cu l=none))
  (hi:∀ w,Calls Tryz.prog 149 #[.string (bs l)] w fun e w'=>e=.returned (.tuple #[.int .i64 (C:Int),.string (bs (r)),.bool false])∧Below w.heap.size w w') :
  Calls Tryz.prog 121 #[.string (bs l)] w fun e w'=>e=.returned (ql (Fn.cu l))∧Below w.heap.size w w':=by
 go_enter Tryz.func121,Tryz.ntmps121;go_wp2_with fail;refine (hi _).mono ?_;rintro e w1 ⟨rfl,hb1⟩;replace hb1:=Lib.hid hb1;obtain ⟨k0,k1,k2,k3,k4⟩:=dX hb1.out;go_wp2;exact bodyPost_ret (v:=ql none) (by rw [results_cell_tmp rfl];go_simp;rfl) rfl ⟨by rw [hn.out],fI hb1.out _ _ _ _⟩
theorem JB (l:List UInt8) (w:World) (hl:l.length≤140737488355328) :
  Calls Tryz.prog 121 #[.string (bs l)] w fun e w'=>e=.returned (ql (Fn.cu l))∧Below w.heap.size w w':=by
 have hi:=fun w=>Cg l w hl;have hle:(Fn.rs l).length≤l.length:=by unfold Fn.rs;rw [List.length_drop];omega
 by_cases hC:Fn.cl l≤3
 ·have hd:decide ((Fn.cl l:Int)≤3)=true:=by simp;omega
  rw [hd] at hi;clear hd;rcases hR:Fn.rs l with _ | ⟨c,r⟩
  ·rw [hR] at hi
   exact CA l _ w (Lib.hid (Fn.xZ hR)) hi
  ·rw [hR] at hi
   by_cases hc:c=96∨c=126
   ·have hgn:=@Fn.uC l c r hR
    have hgy:=@Fn.Is l c r hR hC hc;rw [hR] at hle;have hrun:=fun w=>LG (c::r) c w (by omega);have hrl:=Fn.gE c (c::r);have pz:=fun w=>xe ((c::r).drop (Fn.run c (c::r))) w (by rw [List.length_drop];omega);have hil:=Fn.iR ((c::r).drop (Fn.run c (c::r)));rw [List.length_drop] at hil;have rH:=fun w=>DH (Fn.info (c::r) c) 96 w;have hcl:=fun w=>B7 (Fn.info (c::r) c) w (by unfold Fn.info;omega)
    by_cases h3:Fn.run c (c::r)<3
    ·exact Ka l _ _ c r _ w (Lib.hid (hgn (by omega))) hi hrun hrl pz h3 hc
    ·rcases hc with rfl | rfl
     ·by_cases h9:96∈Fn.info (96::r) 96
      ·rw [decide_eq_true h9] at rH
       exact Aw l _ _ r _ w (Lib.hid (hgn (fun h=>h.2.2.2 ⟨rfl,h9⟩))) hi hrun hrl pz rH h3
      ·rw [decide_eq_false h9] at rH
       exact CY l _ _ r _ w (Lib.hid (hgy (by omega) (fun h=>h9 h.2))) hi hrun hrl pz rH hcl h3
     ·exact Az l _ _ r _ w (Lib.hid (hgy (by omega) (fun h=>absurd h.1 (by decide)))) hi hrun hrl pz hcl h3
   ·exact Dv l _ c r w (Lib.hid (Fn.uC hR (fun h=>hc h.2.1))) hi hc
 ·have hd:decide ((Fn.cl l:Int)≤3)=false:=by simp;omega
  have hn:Hid (Fn.cu l=none):=Lib.hid (by
   rcases hR:Fn.rs l with _ | ⟨c,r⟩
   ·exact Fn.xZ hR
   ·exact Fn.uC hR (fun h=>hC h.1))
  rw [hd] at hi;exact I8 l _ _ w hn hi
def fv (c:UInt8) (n i:Int) (s:ByteArray):Value:=.agg #[.int .u8 (c.toNat:Int),.int .i64 n,.int .i64 i,.string s]
theorem I1 (c:UInt8) (n:Int) (l:List UInt8) :
  (¬ Fn.cl l≤3∧Fn.ends c n l=false)∨(Fn.cl l≤3∧n<1∧Fn.ends c n l=false)∨(Fn.cl l≤3∧¬ n<1∧¬ n≤(Fn.run c (Fn.rs l):Int)∧Fn.ends c n l=false) ∨
  (Fn.cl l≤3∧¬ n<1∧n≤(Fn.run c (Fn.rs l):Int)∧Fn.ends c n l=Fn.emp ((Fn.rs l).drop (Fn.run c (Fn.rs l)))):=by
 by_cases h1:Fn.cl l≤3
 ·by_cases h2:n<1
  ·exact .inr (.inl ⟨h1,h2,Fn.DD (fun h=>by omega)⟩)
  ·by_cases h3:n≤(Fn.run c (Fn.rs l):Int)
   ·exact .inr (.inr (.inr ⟨h1,h2,h3,Fn.Wj ⟨by omega,h1,h3⟩⟩))
   ·exact .inr (.inr (.inl ⟨h1,h2,h3,Fn.DD (fun h=>h3 h.2.2)⟩))
 ·exact .inl ⟨h1,Fn.DD (fun h=>h1 h.2.1)⟩
theorem Y4 (l:List UInt8):(Fn.rs l).length≤l.length:=by unfold Fn.rs;rw [List.length_drop];omega
theorem SG (c:UInt8) (n i:Int) (s:ByteArray) (l:List UInt8) (w:World) (hl:l.length≤140737488355328) :
  Calls Tryz.prog 117 #[fv c n i s,.string (bs l)] w fun e w'=>e=.returned (.bool (Fn.ends c n l))∧Below w.heap.size w w':=by
 have hi:=fun w=>Cg l w hl;have hle:=Y4 l;have hrun:=fun w=>LG (Fn.rs l) c w (by omega);have hrl:=Fn.gE c (Fn.rs l);have hem:=fun w=>uN ((Fn.rs l).drop (Fn.run c (Fn.rs l))) w (by rw [List.length_drop];omega);have hed:decide ((Cl.lead Cl.inf ((Fn.rs l).drop (Fn.run c (Fn.rs l))) 0).2=((Fn.rs l).drop (Fn.run c (Fn.rs l))).length)=Fn.emp ((Fn.rs l).drop (Fn.run c (Fn.rs l))):=rfl;rw [hed] at hem;have qm:=cB (S:=Fn.rs l) (i:=Fn.run c (Fn.rs l)) hrl;have ht:=I1 c n l;clear hed;obtain ⟨N,hN⟩:∃ N,Fn.run c (Fn.rs l)=N:=⟨_,rfl⟩
 obtain ⟨C,hC⟩:∃ C,Fn.cl l=C:=⟨_,rfl⟩
 obtain ⟨S,hS⟩:∃ S,Fn.rs l=S:=⟨_,rfl⟩
 rw [hN] at hrun hrl hem qm ht;rw [hC] at hi ht;rw [hS] at hi hle hrun hrl hem qm ht;clear hN hC hS;rcases ht with ⟨h1,he⟩ | ⟨h1,h2,he⟩ | ⟨h1,h2,h3,he⟩ | ⟨h1,h2,h3,he⟩
 ·have hd:decide ((C:Int)≤3)=false:=by simp;omega
  rw [hd] at hi;replace he:=Lib.hid he;clear hd h1;unfold fv;go_enter Tryz.func117,Tryz.ntmps117;go_wp2_with fail;refine (hi _).mono ?_;rintro e w1 ⟨rfl,hb1⟩;replace hb1:=Lib.hid (ag (aa _ _) hb1);go_wp2;go_ret;exact ⟨by rw [he.out];rfl,hb1.out⟩
 ·have hd:decide ((C:Int)≤3)=true:=by simp;omega
  rw [hd] at hi;replace he:=Lib.hid he;clear hd h1;unfold fv;go_enter Tryz.func117,Tryz.ntmps117;go_wp2_with fail;refine (hi _).mono ?_;rintro e w1 ⟨rfl,hb1⟩;obtain ⟨k0,k1,k2,k3,k4⟩:=dX hb1;replace hb1:=Lib.hid (ag (aa _ _) hb1);go_wp2;go_ret;exact ⟨by rw [he.out];rfl,hb1.out⟩
 ·have hd:decide ((C:Int)≤3)=true:=by simp;omega
  rw [hd] at hi;replace he:=Lib.hid he;clear hd h1;unfold fv;go_enter Tryz.func117,Tryz.ntmps117;go_wp2_with fail;refine (hi _).mono ?_;rintro e w1 ⟨rfl,hb1⟩;obtain ⟨k0,k1,k2,k3,k4⟩:=dX hb1;replace hb1:=Lib.hid (ag (aa _ _) hb1);go_wp2_with fail;refine (hrun _).mono ?_;rintro e w' ⟨rfl,rfl⟩;go_wp2;go_ret;exact ⟨by rw [he.out];rfl,hb1.out⟩
 ·have hd:decide ((C:Int)≤3)=true:=by simp;omega
  rw [hd] at hi;replace he:=Lib.hid he;clear hd h1;unfold fv;go_enter Tryz.func117,Tryz.ntmps117;go_wp2_with fail;refine (hi _).mono ?_;rintro e w1 ⟨rfl,hb1⟩;obtain ⟨k0,k1,k2,k3,k4⟩:=dX hb1;replace hb1:=Lib.hid (ag (aa _ _) hb1);go_wp2_with fail;refine (hrun _).mono ?_;rintro e w' ⟨rfl,rfl⟩;go_wp2_with fail;refine (hem _).mono ?_;rintro e w' ⟨rfl,rfl⟩;go_wp2;go_ret;exact ⟨by rw [he.out];rfl,hb1.out⟩
end Go.Proofs.YtddkjkockbcamaaGreatDoor
