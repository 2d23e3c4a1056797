/- LfFns LfProg -/
import Derived.Test.YtddkjkockbcamaaGreatDoorHw25
import Derived.Test.YtddkjkockbcamaaGreatDoorHw24
import Derived.Test.YtddkjkockbcamaaGreatDoorHw04
import Derived.Deep.QuietTactic
import Derived.BigQuiet
import Derived.Test.YtddkjkockbcamaaGreatDoorHw14
set_option maxHeartbeats 16000000
set_option maxRecDepth 100000
namespace Go.Proofs.YtddkjkockbcamaaGreatDoor
open Go.RowKit
attribute [local go_sem] aD av aq
def Lf.Ls (S:List UInt8):List UInt8→Bool
 | []=>false
 | b::_=>S.contains b
theorem gD (l S:List UInt8) (w:World) :
  Calls Tryz.prog 160 #[.string (bs l),.string (bs S)] w fun e w'=>e=.returned (.bool (Lf.Ls S l))∧w=w':=by
 rcases l with _ | ⟨b,r⟩
 ·have e0:=oz
  go_enter Tryz.func160,Tryz.ntmps160;go_wp2_with fail;go_ret;exact ⟨rfl,rfl⟩
 ·have e0:=gf b r
  have hx:=bG (S:=b::r) (i:=0) (by simp);rw [List.getElem_cons_zero,show ((0:Nat):Int)=0 from rfl] at hx;have hc:=fun w=>AD S b w;have ht:=Hz S b;obtain ⟨n,hn⟩:∃ n,Lib.indexByte S b=n:=⟨_,rfl⟩
  rw [hn] at hc ht;clear hn;have hres:Lf.Ls S (b::r)=decide ((0:Int)≤n):=ht.symm;rw [hres];clear hres ht;go_enter Tryz.func160,Tryz.ntmps160;go_wp2_with (go_at_call 187;refine (hc _).mono ?_;rintro e w' ⟨rfl,rfl⟩);go_ret;exact ⟨rfl,rfl⟩
theorem WI (l:List UInt8):Lf.Ls [32,9] l=(match l with | []=>false | b::_=>Cl.cW b):=by
 rcases l with _ | ⟨b,r⟩
 ·rfl
 ·exact xG b
theorem H9 (l:List UInt8) (w:World) :
  Calls Tryz.prog 160 #[.string (bs l),.string ⟨#[32,9]⟩] w fun e w'=>e=.returned (.bool (Lf.Ls [32,9] l))∧w=w':=gD l [32,9] w
theorem F1 (l:List UInt8) (w:World) :
  Calls Tryz.prog 160 #[.string (bs l),.string ⟨#[42,45,95]⟩] w fun e w'=>e=.returned (.bool (Lf.Ls [42,45,95] l))∧w=w':=gD l [42,45,95] w
theorem E6 (l:List UInt8) (w:World) :
  Calls Tryz.prog 160 #[.string (bs l),.string ⟨#[42,45,43]⟩] w fun e w'=>e=.returned (.bool (Lf.Ls [42,45,43] l))∧w=w':=gD l [42,45,43] w
theorem Cv (l:List UInt8) (w:World) :
  Calls Tryz.prog 160 #[.string (bs l),.string ⟨#[62]⟩] w fun e w'=>e=.returned (.bool (Lf.Ls [62] l))∧w=w':=gD l [62] w
theorem SW (c:UInt8) (r:List UInt8):Lf.Ls [42,45,95] (c::r)=Lf.G5 c:=by
 simp only [Lf.Ls,Lf.G5,List.contains,List.elem];cases c==42<;>cases c==45<;>cases c==95<;>rfl
theorem S5 (c:UInt8) (r:List UInt8):Lf.Ls [42,45,43] (c::r)=Lf.bullet c:=by
 simp only [Lf.Ls,Lf.bullet,List.contains,List.elem];cases c==42<;>cases c==45<;>cases c==43<;>rfl
theorem AQ (c:UInt8) (r:List UInt8):Lf.Ls [62] (c::r)=decide (c=62):=by
 simp only [Lf.Ls,List.contains,List.elem]
 by_cases h:c=62
 ·subst h;rfl
 ·rw [decide_eq_false h,show (c==62)=false from beq_eq_false_iff_ne.2 h]
theorem B6 (l:List UInt8) (w:World) :
  Calls Tryz.prog 156 #[.string (bs l)] w fun e w'=>e=.returned (.bool (Lf.stop l))∧w=w':=by
 have hb:=H9 l;rw [WI] at hb;rcases l with _ | ⟨b,r⟩
 ·have e0:=oz
  go_enter Tryz.func156,Tryz.ntmps156;go_wp2_with fail;go_ret;exact ⟨rfl,rfl⟩
 ·have e0:=gf b r
  go_enter Tryz.func156,Tryz.ntmps156;go_wp2_with (go_at_call 160;refine (hb _).mono ?_;rintro e w' ⟨rfl,rfl⟩);go_ret;exact ⟨rfl,rfl⟩
theorem E4 (l:List UInt8) (c:UInt8) (w:World) (hl:l.length≤140737488355328) :
  Calls Tryz.prog 155 #[.string (bs l),.int .u8 (c.toNat:Int)] w fun e w'=>e=.returned (.int .i64 (Fn.run c l:Nat))∧w=w':=by
 have hsz:=au l;go_enter Tryz.func155,Tryz.ntmps155;go_wp2_with fail
 go_loop [5] (fun u=>∃ k:Nat,k≤l.length∧u=.int .i64 k∧Hid (k+Fn.run c (l.drop k)=Fn.run c l)) (fun u=>l.length-(intOf u).toNat)
 case atStart=>exact ⟨0,by omega,rfl,Lib.hid (by simp)⟩
 case round =>
  obtain ⟨k,hk,rfl,hf⟩:=hrel;rcases Nat.lt_or_eq_of_le hk with hlt | rfl
  ·have hx:=bG hlt w
   by_cases hc:l[k]=c
   ·have ht:=jK hc
    have hf2:Hid (k+1+Fn.run c (l.drop (k+1))=Fn.run c l):=Lib.hid (by have:=hf.out;rw [Fn.jS hlt hc] at this;omega);clear hc;go_wp2
    go_round
    case rel=>exact ⟨k+1,by omega,by go_num,hf2⟩
    case measure=>simp [intOf];omega
   ·have ht:=gz hc
    have aP:=Lib.hid (sy hf (Fn.qM hlt hc));clear hc;go_wp2;go_returns;exact ⟨by rw [← aP.out];rfl,rfl⟩
  ·have aP:=Lib.hid (sy hf (Fn.jF (by omega)))
   go_wp2;go_returns;exact ⟨by rw [← aP.out];rfl,rfl⟩
theorem NB (l:List UInt8) (w:World) (hl:l.length≤140737488355328) :
  Calls Tryz.prog 155 #[.string (bs l),.int .u8 35] w fun e w'=>e=.returned (.int .i64 (Fn.run 35 l:Nat))∧w=w':=E4 l 35 w hl
theorem JP (l:List UInt8) (w:World) (hl:l.length≤140737488355328) :
  Calls Tryz.prog 154 #[.string (bs l)] w fun e w'=>e=.returned (.tuple #[.int .i64 (Fn.cl l:Nat),.string (bs (Fn.rs l)),.bool (decide ((Fn.cl l:Int)≤3))])∧Below w.heap.size w w':=by
 have hle:=Cl.sF Cl.inf l 0;have hi:=fun w=>mE l w hl;have hcl:Fn.cl l=(Cl.lead Cl.inf l 0).1:=rfl;have ED:Fn.rs l=l.drop (Cl.lead Cl.inf l 0).2:=rfl;rw [hcl,ED];clear hcl ED;obtain ⟨C,K,Ub⟩:∃ C K,Cl.lead Cl.inf l 0=(C,K):=⟨_,_,rfl⟩
 rw [Ub] at hle hi;rw [Ub];simp only at hle hi ⊢;clear Ub;have qm:=cB (S:=l) (i:=K) (by omega);go_enter Tryz.func154,Tryz.ntmps154;go_wp2_with (go_at_call 181;refine (hi _).mono ?_;rintro e w' ⟨rfl,rfl⟩);go_quiet (fail);go_wp2;go_ret3;exact ⟨rfl,below_drewN (Below.refl _ _) _⟩
theorem Gr {u:List UInt8}(h:Lf.closed u=true):u=[]∨(Fn.back u).length<u.length:=by
 rcases List.eq_nil_or_concat u with hu | ⟨r,b,hu⟩
 ·exact .inl hu
 ·rw [List.concat_eq_append] at hu
  subst hu;refine .inr ?_;have hb:Cl.cW b=true:=by simpa [Lf.closed] using h
  rw [Fn.Ac _ hb,List.length_append];have:=Fn.yY r;simp;omega
theorem Oi {u:List UInt8}(h:Lf.closed u=false):u≠[]∧Fn.back u=u:=by
 rcases List.eq_nil_or_concat u with hu | ⟨r,b,hu⟩
 ·subst hu;cases h
 ·rw [List.concat_eq_append] at hu
  subst hu;have hb:Cl.cW b=false:=by simpa [Lf.closed] using h
  exact ⟨by simp,Fn.xV _ hb⟩
theorem Ol {a b:List UInt8}(h:a≠b):((bs a).toList==(bs b).toList)=false:=by
 rw [bH,bH];exact beq_eq_false_iff_ne.2 h
theorem Cz (t:List UInt8) (w:World) (hl:t.length≤140737488355328) :
  Calls Tryz.prog 157 #[.string (bs t)] w fun e w'=>e=.returned (.string (bs (Lf.title t)))∧Below w.heap.size w w':=by
 have h1:=fun w=>Da t w hl;have htl:Lf.title t=if Lf.closed (Lf.dH t)=true then Fn.back (Lf.dH t) else t:=rfl;have hul:=Lf.yR t;obtain ⟨u,hu⟩:∃ u,Lf.dH t=u:=⟨_,rfl⟩
 rw [hu] at h1 htl hul;have h2:=fun w=>C2 u w (by omega);clear hu;cases hc:Lf.closed u with
 | true =>
  rw [hc,if_pos rfl] at htl;rcases Gr hc with rfl | hlt
  ·have e0:=oz
   rw [htl];clear htl hc;go_enter Tryz.func157,Tryz.ntmps157;go_wp2_with fail;refine (h1 _).mono ?_;rintro e w1 ⟨rfl,hb1⟩;go_wp2_with fail;refine (h2 _).mono ?_;rintro e w2 ⟨rfl,hb2⟩;go_wp2_with fail;go_ret;exact ⟨rfl,ag hb1 hb2⟩
  ·have e0:(bs u).toList.isEmpty=false:=by
    rw [bH];cases u with
    | nil=>simp at hlt
    | cons _ _=>rfl
   have e1:=Ol (a:=Fn.back u) (b:=u) (by intro h;rw [h] at hlt;omega);rw [htl];clear htl hc;obtain ⟨B,hB⟩:∃ B,Fn.back u=B:=⟨_,rfl⟩
   rw [hB] at h2 e1 ⊢;clear hB hlt;go_enter Tryz.func157,Tryz.ntmps157;go_wp2_with fail;refine (h1 _).mono ?_;rintro e w1 ⟨rfl,hb1⟩;go_wp2_with fail;refine (h2 _).mono ?_;rintro e w2 ⟨rfl,hb2⟩;go_wp2_with fail;go_ret;exact ⟨rfl,ag hb1 hb2⟩
 | false =>
  rw [hc,if_neg (by simp)] at htl;obtain ⟨hne,hbk⟩:=Oi hc;have e0:(bs u).toList.isEmpty=false:=by
   rw [bH];cases u with
   | nil=>exact absurd rfl hne
   | cons _ _=>rfl
  rw [hbk] at h2;rw [htl];clear htl hc hbk hne;go_enter Tryz.func157,Tryz.ntmps157;go_wp2_with fail;refine (h1 _).mono ?_;rintro e w1 ⟨rfl,hb1⟩;go_wp2_with fail;refine (h2 _).mono ?_;rintro e w2 ⟨rfl,hb2⟩;go_wp2_with fail;go_ret;exact ⟨rfl,ag hb1 hb2⟩
def Lf.within (r:List UInt8):Nat×List UInt8:=if Fn.emp r=true then (1,[]) else (Lf.inner (Fn.cl r),Cl.strip (Lf.inner (Fn.cl r)) r)
theorem Jc (r:List UInt8) (w:World) (hl:r.length+3≤140737488355328) :
  Calls Tryz.prog 183 #[.string (bs r)] w fun e w'=>e=.returned (.tuple #[.int .i64 ((Lf.within r).1:Int),.string (bs (Lf.within r).2)])∧Below w.heap.size w w':=by
 have he:=fun w=>uN r w (by omega);have hem:decide ((Cl.lead Cl.inf r 0).2=r.length)=Fn.emp r:=rfl;rw [hem] at he;clear hem;have hw:Lf.within r=if Fn.emp r=true then (1,[]) else (Lf.inner (Fn.cl r),Cl.strip (Lf.inner (Fn.cl r)) r):=rfl;cases hE:Fn.emp r with
 | true =>
  rw [hE] at he;rw [hE,if_pos rfl] at hw;rw [hw];clear hw hE;go_enter Tryz.func183,Tryz.ntmps183;go_wp2_with fail;refine (he _).mono ?_;rintro e w1 ⟨rfl,rfl⟩;go_wp2_with fail;go_ret2;exact ⟨rfl,Below.refl _ _⟩
 | false =>
  rw [hE] at he;rw [hE,if_neg (by simp)] at hw;rw [hw];clear hw hE;have hin:=fun w=>mE r w (by omega);have hle:=Cl.sF Cl.inf r 0;have hcr:Fn.cl r=(Cl.lead Cl.inf r 0).1:=rfl;rw [← hcr] at hin hle;obtain ⟨n,hn⟩:∃ n,Fn.cl r=n:=⟨_,rfl⟩
  rw [hn] at hin hle ⊢;clear hn hcr;obtain ⟨K,hK⟩:∃ K,(Cl.lead Cl.inf r 0).2=K:=⟨_,rfl⟩
  rw [hK] at hin hle;clear hK;have hst:=fun w=>p8 r (Lf.inner n:Int) w (by omega);have aaU:(decide ((4:Int)<(n:Int))=true∧Lf.inner n=1)∨(decide ((4:Int)<(n:Int))=false∧Lf.inner n=n):=by
   unfold Lf.inner
   by_cases h4:4<n
   ·exact .inl ⟨by simp;omega,if_pos h4⟩
   ·exact .inr ⟨by simp;omega,if_neg h4⟩
  obtain ⟨m,hm⟩:∃ m,Lf.inner n=m:=⟨_,rfl⟩
  rw [hm] at hst aaU ⊢;clear hm;obtain ⟨S,hS⟩:∃ S,Cl.strip (m:Int) r=S:=⟨_,rfl⟩
  rw [hS] at hst ⊢;clear hS;rcases aaU with ⟨h4,rfl⟩ | ⟨h4,rfl⟩
  all_goals
   try rw [show ((1:Nat):Int)=1 from rfl] at hst
   go_enter Tryz.func183,Tryz.ntmps183;go_wp2_with fail;refine (he _).mono ?_;rintro e w1 ⟨rfl,rfl⟩;go_wp2_with fail;refine (hin _).mono ?_;rintro e w1 ⟨rfl,rfl⟩;go_wp2_with fail;refine (hst _).mono ?_;rintro e w2 ⟨rfl,hb2⟩;go_wp2_with fail;go_ret2;exact ⟨rfl,hb2⟩
theorem mL (l:List UInt8) (hl:l.length≤140737488355328):∃ (C:Nat) (R:List UInt8),Fn.cl l=C∧Fn.rs l=R∧R.length≤l.length∧C≤4*l.length∧∀ w,Calls Tryz.prog 154 #[.string (bs l)] w fun e w'=>e=.returned (.tuple #[.int .i64 (C:Int),.string (bs R),.bool (decide ((C:Int)≤3))])∧Below w.heap.size w w':=by
 have hle:=Cl.sF Cl.inf l 0;have hcl:Fn.cl l=(Cl.lead Cl.inf l 0).1:=rfl;refine ⟨_,_,rfl,rfl,?_,by omega,fun w=>JP l w hl⟩;unfold Fn.rs;rw [List.length_drop];omega
theorem Dm (l R:List UInt8) (w:World) (hn:Hid (Lf.uh l=false)) (b:Bool) (C:Int)
  (hin:∀ w,Calls Tryz.prog 154 #[.string (bs l)] w fun e w'=>e=.returned (.tuple #[.int .i64 C,.string (bs R),.bool b])∧Below w.heap.size w w')
  (hb:b=false∨(b=true∧∀ w,Calls Tryz.prog 160 #[.string (bs R),.string ⟨#[42,45,95]⟩] w fun e w'=>e=.returned (.bool false)∧w=w')) :
  Calls Tryz.prog 123 #[.string (bs l)] w fun e w'=>e=.returned (.bool (Lf.uh l))∧Below w.heap.size w w':=by
 rcases hb with rfl | ⟨rfl,hbg⟩
 ·go_enter Tryz.func123,Tryz.ntmps123
  go_wp2_with fail;refine (hin _).mono ?_;rintro e w1 ⟨rfl,hb1⟩;go_wp2_with fail;go_returns;exact ⟨by rw [hn.out];rfl,hb1⟩
 ·go_enter Tryz.func123,Tryz.ntmps123
  go_wp2_with fail;refine (hin _).mono ?_;rintro e w1 ⟨rfl,hb1⟩;go_wp2_with fail;refine (hbg _).mono ?_;rintro e w2 ⟨rfl,rfl⟩;go_wp2_with fail;go_returns;exact ⟨by rw [hn.out];rfl,hb1⟩
theorem QG (l R r:List UInt8) (c:UInt8) (w:World) (hR:R=c::r) (hn:Hid (Lf.uh l=(R.all (Lf.along c)&&decide (3≤R.count c)))) (C:Int) (hl:R.length≤140737488355328)
  (hin:∀ w,Calls Tryz.prog 154 #[.string (bs l)] w fun e w'=>e=.returned (.tuple #[.int .i64 C,.string (bs R),.bool true])∧Below w.heap.size w w')
  (hbg:∀ w,Calls Tryz.prog 160 #[.string (bs R),.string ⟨#[42,45,95]⟩] w fun e w'=>e=.returned (.bool true)∧w=w') :
  Calls Tryz.prog 123 #[.string (bs l)] w fun e w'=>e=.returned (.bool (Lf.uh l))∧Below w.heap.size w w':=by
 have hsz:=au R;have hx0:=bG (S:=R) (i:=0) (by rw [hR];simp);rw [show R[0]'(by rw [hR];simp)=c from by subst hR;rfl,show ((0:Nat):Int)=0 from rfl] at hx0;clear hR;go_enter Tryz.func123,Tryz.ntmps123;go_wp2_with fail;refine (hin _).mono ?_;rintro e w1 ⟨rfl,hb1⟩;replace hb1:=Lib.hid hb1;go_wp2_with fail;refine (hbg _).mono ?_;rintro e w2 ⟨rfl,rfl⟩;clear hin hbg;go_wp2_with fail
 go_loop [6,23] (fun u v=>∃ n k:Nat,k≤R.length∧n≤k∧u=.int .i64 (n:Int)∧v=.int .i64 (k:Int)∧Hid (Lf.uh l=((R.drop k).all (Lf.along c)&&decide (3≤n+(R.drop k).count c)))) (fun _ v=>R.length-(intOf v).toNat)
 case atStart=>exact ⟨0,0,by omega,by omega,rfl,rfl,Lib.hid (by rw [hn.out,Nat.zero_add,List.drop_zero])⟩
 case round =>
  obtain ⟨n,k,hk2,hnk,rfl,rfl,hf⟩:=hrel;rcases Nat.lt_or_eq_of_le hk2 with hlt | rfl
  ·have hx2:=bG hlt
   have ha:=S4 (c:=c) hlt;have rH:=Qy (c:=c) hlt;obtain ⟨b,hb⟩:∃ b,R[k]=b:=⟨_,rfl⟩
   rw [hb] at hx2 ha rH;clear hb
   by_cases hbc:b=c
   ·have he:=jK hbc
    have hf2:Hid (Lf.uh l=((R.drop (k+1)).all (Lf.along c)&&decide (3≤(n+1)+(R.drop (k+1)).count c))):=Lib.hid (by
     rw [hf.out,ha,rH,if_pos hbc,show Lf.along c b=true from by simp [Lf.along,hbc],Bool.true_and,show n+(List.count c (R.drop (k+1))+1)=n+1+List.count c (R.drop (k+1)) from by omega])
    clear ha rH hbc;go_wp2_with fail
    go_round
    case rel=>exact ⟨n+1,k+1,by omega,by omega,by go_num,by go_num,hf2⟩
    case measure=>simp [intOf];omega
   ·have he:=gz hbc
    rcases B2 b with ⟨g1,g3⟩ | ⟨g1,g2,g3⟩ | ⟨g1,g2,g3⟩
    case inr.inr =>
     have aP:Hid (Lf.uh l=false):=Lib.hid (by rw [hf.out,ha,show Lf.along c b=false from by simp [Lf.along,hbc,g3],Bool.false_and,Bool.false_and]);clear ha rH hbc;go_wp2_with fail;go_returns;exact ⟨by rw [aP.out];rfl,hb1.out⟩
    all_goals
     have hf2:Hid (Lf.uh l=((R.drop (k+1)).all (Lf.along c)&&decide (3≤n+(R.drop (k+1)).count c))):=Lib.hid (by
      rw [hf.out,ha,rH,if_neg hbc,show Lf.along c b=true from by simp [Lf.along,g3],Bool.true_and];rfl)
     clear ha rH hbc;go_wp2_with fail
     go_round
     case rel=>exact ⟨n,k+1,by omega,by omega,rfl,by go_num,hf2⟩
     case measure=>simp [intOf];omega
  ·have aP:Hid (Lf.uh l=decide ((3:Int)≤(n:Int))):=Lib.hid (by
    rw [hf.out,List.drop_length];simp only [List.all_nil,List.count_nil,Bool.true_and,Nat.add_zero];exact decide_eq_decide.2 (by omega))
   go_wp2_with fail;go_returns;exact ⟨by rw [aP.out];rfl,hb1.out⟩
theorem He (l:List UInt8) (w:World) (hl:l.length+100≤140737488355328) :
  Calls Tryz.prog 123 #[.string (bs l)] w fun e w'=>e=.returned (.bool (Lf.uh l))∧Below w.heap.size w w':=by
 obtain ⟨C,R,hC,hR,hRl,_,hin⟩:=mL l (by omega);have hbg:=fun w=>F1 R w
 by_cases h3:C≤3
 ·rw [show decide ((C:Int)≤3)=true from by simp;omega] at hin
  rcases R with _ | ⟨c,r⟩
  ·exact Dm l [] w (Lib.hid (Lf.UJ hR)) _ _ hin (.inr ⟨rfl,hbg⟩)
  ·rw [SW] at hbg
   have hb:=Lf.SH hR (by omega);cases hr:Lf.G5 c with
   | false =>
    rw [hr] at hbg hb;exact Dm l (c::r) w (Lib.hid (by rw [hb];rfl)) _ _ hin (.inr ⟨rfl,hbg⟩)
   | true =>
    rw [hr] at hbg hb;exact QG l (c::r) r c w rfl (Lib.hid (by rw [hb,Bool.true_and])) _ (by omega) hin hbg
 ·rw [show decide ((C:Int)≤3)=false from by simp;omega] at hin
  exact Dm l R w (Lib.hid (Lf.V7 (by omega))) _ _ hin (.inl rfl)
theorem yd (l:List UInt8) (w:World) (hl:l.length+100≤140737488355328) :
  Calls Tryz.prog 147 #[.string (bs l)] w fun e w'=>e=.returned (nc (Lf.quote l))∧Below w.heap.size w w':=by
 obtain ⟨C,R,hC,hR,hRl,_,hin⟩:=mL l (by omega);have hbg:=fun w=>Cv R w
 by_cases h3:C≤3
 ·rw [show decide ((C:Int)≤3)=true from by simp;omega] at hin
  by_cases hq:∃ r,R=62::r
  ·obtain ⟨r,rfl⟩:=hq
   rw [AQ,decide_eq_true rfl] at hbg;have hsz:(bs (62::r)).size=r.length+1:=au _;have qm:=cB (S:=62::r) (i:=1) (by simp);rw [List.drop_succ_cons,List.drop_zero,show ((1:Nat):Int)=1 from rfl] at qm;have hst:=fun w=>p8 r 1 w (by rw [List.length_cons] at hRl;omega);have hn:=Lib.hid (Ow hR ⟨by omega,rfl⟩);obtain ⟨S,hS⟩:∃ S,Cl.strip 1 r=S:=⟨_,rfl⟩
   rw [hS] at hst hn;clear hS hR hC;go_enter Tryz.func147,Tryz.ntmps147;go_wp2_with fail;refine (hin _).mono ?_;rintro e w1 ⟨rfl,hb1⟩;go_wp2_with fail;refine (hbg _).mono ?_;rintro e w2 ⟨rfl,rfl⟩;go_wp2_with fail;refine (hst _).mono ?_;rintro e w2 ⟨rfl,hb2⟩;go_wp2_with fail;go_ret2;exact ⟨by rw [hn.out];rfl,ag hb1 hb2⟩
  ·have hn:Hid (Lf.quote l=none)∧Lf.Ls [62] R=false:=by
    rcases R with _ | ⟨c,r⟩
    ·exact ⟨Lib.hid (Bt hR),rfl⟩
    ·have hc:c≠62:=fun h=>hq ⟨r,by rw [h]⟩
     exact ⟨Lib.hid (EJ hR (fun h=>hc h.2)),by rw [AQ,decide_eq_false hc]⟩
   rw [hn.2] at hbg;replace hn:=hn.1;clear hR hC hq;go_enter Tryz.func147,Tryz.ntmps147;go_wp2_with fail;refine (hin _).mono ?_;rintro e w1 ⟨rfl,hb1⟩;go_wp2_with fail;refine (hbg _).mono ?_;rintro e w2 ⟨rfl,rfl⟩;go_wp2_with fail;go_ret2;exact ⟨by rw [hn.out];rfl,hb1⟩
 ·rw [show decide ((C:Int)≤3)=false from by simp;omega] at hin
  have hn:Hid (Lf.quote l=none):=by
   rcases R with _ | ⟨c,r⟩
   ·exact Lib.hid (Bt hR)
   ·exact Lib.hid (EJ hR (fun h=>h3 (by omega)))
  clear hR hC;go_enter Tryz.func147,Tryz.ntmps147;go_wp2_with fail;refine (hin _).mono ?_;rintro e w1 ⟨rfl,hb1⟩;go_wp2_with fail;go_ret2;exact ⟨by rw [hn.out];rfl,hb1⟩
theorem sH (l R:List UInt8) (n:Nat) (w:World) (hn:Hid (Lf.eM l=none)) (b:Bool) (C:Int) (hnR:n≤R.length)
  (hin:∀ w,Calls Tryz.prog 154 #[.string (bs l)] w fun e w'=>e=.returned (.tuple #[.int .i64 C,.string (bs R),.bool b])∧Below w.heap.size w w')
  (hrun:∀ w,Calls Tryz.prog 155 #[.string (bs R),.int .u8 35] w fun e w'=>e=.returned (.int .i64 (n:Int))∧w=w')
  (hb:b=false∨(b=true∧n<1)∨(b=true∧1≤n∧6<n)∨(b=true∧1≤n∧n≤6∧∀ w,Calls Tryz.prog 156 #[.string (bs (R.drop n))] w fun e w'=>e=.returned (.bool false)∧w=w')) :
  Calls Tryz.prog 120 #[.string (bs l)] w fun e w'=>e=.returned (Cf (Lf.eM l))∧Below w.heap.size w w':=by
 have hsz:=au R;have qm:=cB (S:=R) (i:=n) hnR;rcases hb with rfl | ⟨rfl,h1⟩ | ⟨rfl,h1,h2⟩ | ⟨rfl,h1,h2,hap⟩
 ·go_enter Tryz.func120,Tryz.ntmps120
  go_wp2_with fail;refine (hin _).mono ?_;rintro e w1 ⟨rfl,hb1⟩;go_wp2_with fail;refine (hrun _).mono ?_;rintro e w2 ⟨rfl,rfl⟩;go_wp2_with fail;go_ret3;exact ⟨by rw [hn.out];rfl,hb1⟩
 ·have d1:decide ((n:Int)<1)=true:=by simp;omega
  go_enter Tryz.func120,Tryz.ntmps120;go_wp2_with fail;refine (hin _).mono ?_;rintro e w1 ⟨rfl,hb1⟩;go_wp2_with fail;refine (hrun _).mono ?_;rintro e w2 ⟨rfl,rfl⟩;go_wp2_with fail;go_ret3;exact ⟨by rw [hn.out];rfl,hb1⟩
 ·have d1:decide ((n:Int)<1)=false:=by simp;omega
  have d2:decide ((6:Int)<(n:Int))=true:=by simp;omega
  go_enter Tryz.func120,Tryz.ntmps120;go_wp2_with fail;refine (hin _).mono ?_;rintro e w1 ⟨rfl,hb1⟩;go_wp2_with fail;refine (hrun _).mono ?_;rintro e w2 ⟨rfl,rfl⟩;go_wp2_with fail;go_ret3;exact ⟨by rw [hn.out];rfl,hb1⟩
 ·have d1:decide ((n:Int)<1)=false:=by simp;omega
  have d2:decide ((6:Int)<(n:Int))=false:=by simp;omega
  go_enter Tryz.func120,Tryz.ntmps120;go_wp2_with fail;refine (hin _).mono ?_;rintro e w1 ⟨rfl,hb1⟩;go_wp2_with fail;refine (hrun _).mono ?_;rintro e w2 ⟨rfl,rfl⟩;go_wp2_with fail;refine (hap _).mono ?_;rintro e w2 ⟨rfl,rfl⟩;go_wp2_with fail;go_ret3;exact ⟨by rw [hn.out];rfl,hb1⟩
theorem Mz (l R X t T:List UInt8) (n:Nat) (w:World) (hn:Hid (Lf.eM l=some (n,T))) (C:Int) (hnR:n≤R.length)
  (hin:∀ w,Calls Tryz.prog 154 #[.string (bs l)] w fun e w'=>e=.returned (.tuple #[.int .i64 C,.string (bs R),.bool true])∧Below w.heap.size w w')
  (hrun:∀ w,Calls Tryz.prog 155 #[.string (bs R),.int .u8 35] w fun e w'=>e=.returned (.int .i64 (n:Int))∧w=w')
  (h1:1≤n) (h2:n≤6) (hX:R.drop n=X)
  (hap:∀ w,Calls Tryz.prog 156 #[.string (bs X)] w fun e w'=>e=.returned (.bool true)∧w=w')
  (pz:∀ w,Calls Tryz.prog 124 #[.string (bs X),.string ⟨#[32,9]⟩] w fun e w'=>e=.returned (.string (bs t))∧Below w.heap.size w w')
  (hun:∀ w,Calls Tryz.prog 157 #[.string (bs t)] w fun e w'=>e=.returned (.string (bs T))∧Below w.heap.size w w')
  (hcl:∀ w,Calls Tryz.prog 158 #[.string (bs T)] w fun e w'=>e=.returned (.string (bs T))∧Below w.heap.size w w') :
  Calls Tryz.prog 120 #[.string (bs l)] w fun e w'=>e=.returned (Cf (Lf.eM l))∧Below w.heap.size w w':=by
 have hsz:=au R;have qm:=cB (S:=R) (i:=n) hnR;rw [hX] at qm;have d1:decide ((n:Int)<1)=false:=by simp;omega
 have d2:decide ((6:Int)<(n:Int))=false:=by simp;omega
 clear hX;go_enter Tryz.func120,Tryz.ntmps120;go_wp2_with fail;refine (hin _).mono ?_;rintro e w1 ⟨rfl,hb1⟩;go_wp2_with fail;refine (hrun _).mono ?_;rintro e w2 ⟨rfl,rfl⟩;go_wp2_with fail;refine (hap _).mono ?_;rintro e w2 ⟨rfl,rfl⟩;replace hb1:=Lib.hid hb1;go_wp2_with fail;refine (pz _).mono ?_;rintro e w3 ⟨rfl,hb3⟩;replace hb3:=Lib.hid (ag hb1.out hb3);go_wp2_with fail;refine (hun _).mono ?_;rintro e w4 ⟨rfl,hb4⟩;replace hb4:=Lib.hid (ag hb3.out hb4);go_wp2_with fail;refine (hcl _).mono ?_;rintro e w5 ⟨rfl,hb5⟩;replace hb5:=Lib.hid (ag hb4.out hb5);go_wp2_with fail;go_ret3;exact ⟨by rw [hn.out];rfl,hb5.out⟩
theorem NI (l:List UInt8) (w:World) (hl:l.length+100≤140737488355328) :
  Calls Tryz.prog 120 #[.string (bs l)] w fun e w'=>e=.returned (Cf (Lf.eM l))∧Below w.heap.size w w':=by
 obtain ⟨C,R,hC,hR,hRl,_,hin⟩:=mL l (by omega);have hrun:=fun w=>NB R w (by omega);have hrl:=Fn.gE 35 R;have hno:=@VU l;have hye:=@Se l;rw [hC,hR] at hno hye;obtain ⟨n,hn⟩:∃ n,Fn.run 35 R=n:=⟨_,rfl⟩
 rw [hn] at hrun hrl hno hye
 by_cases h3:C≤3
 ·rw [show decide ((C:Int)≤3)=true from by simp;omega] at hin
  by_cases h1:1≤n
  ·by_cases h2:n≤6
   ·have hap:=fun w=>B6 (R.drop n) w
    cases hs:Lf.stop (R.drop n) with
    | true =>
     rw [hs] at hap;have Yu:(R.drop n).length≤R.length:=by rw [List.length_drop];omega
     have h:=hye ⟨h3,h1,h2,hs⟩;obtain ⟨X,hX⟩:∃ X,R.drop n=X:=⟨_,rfl⟩
     rw [hX] at h hap Yu;have htl:=Fn.iR X;have hTl:=Lf.B0 (Fn.trim X);exact Mz l R X (Fn.trim X) (Lf.title (Fn.trim X)) n w (Lib.hid h) _ hrl hin hrun h1 h2 hX hap (fun w=>xe X w (by omega)) (fun w=>Cz _ w (by omega)) (fun w=>B7 _ w (by omega))
    | false =>
     rw [hs] at hap;exact sH l R n w (Lib.hid (hno (fun h=>by rw [hs] at h;cases h.2.2.2))) _ _ hrl hin hrun (.inr (.inr (.inr ⟨rfl,h1,h2,hap⟩)))
   ·exact sH l R n w (Lib.hid (hno (fun h=>h2 h.2.2.1))) _ _ hrl hin hrun (.inr (.inr (.inl ⟨rfl,h1,by omega⟩)))
  ·exact sH l R n w (Lib.hid (hno (fun h=>h1 h.2.1))) _ _ hrl hin hrun (.inr (.inl ⟨rfl,by omega⟩))
 ·rw [show decide ((C:Int)≤3)=false from by simp;omega] at hin
  exact sH l R n w (Lib.hid (hno (fun h=>h3 h.1))) _ _ hrl hin hrun (.inl rfl)
theorem yW (l R:List UInt8) (w:World) (hn:Hid (Lf.item l=none)) (b:Bool) (C:Int)
  (hin:∀ w,Calls Tryz.prog 154 #[.string (bs l)] w fun e w'=>e=.returned (.tuple #[.int .i64 C,.string (bs R),.bool b])∧Below w.heap.size w w')
  (hb:b=false∨(b=true∧∀ w,Calls Tryz.prog 160 #[.string (bs R),.string ⟨#[42,45,43]⟩] w fun e w'=>e=.returned (.bool false)∧w=w')) :
  Calls Tryz.prog 153 #[.string (bs l)] w fun e w'=>e=.returned (BY (Lf.item l))∧Below w.heap.size w w':=by
 rcases hb with rfl | ⟨rfl,hbg⟩
 ·go_enter Tryz.func153,Tryz.ntmps153
  go_wp2_with fail;refine (hin _).mono ?_;rintro e w1 ⟨rfl,hb1⟩;go_wp2_with fail;go_returns;exact ⟨by rw [hn.out];rfl,hb1⟩
 ·go_enter Tryz.func153,Tryz.ntmps153
  go_wp2_with fail;refine (hin _).mono ?_;rintro e w1 ⟨rfl,hb1⟩;go_wp2_with fail;refine (hbg _).mono ?_;rintro e w2 ⟨rfl,rfl⟩;go_wp2_with fail;go_returns;exact ⟨by rw [hn.out];rfl,hb1⟩
theorem A6 (l r:List UInt8) (c:UInt8) (w:World) (hn:Hid (Lf.item l=none)) (C:Int)
  (hin:∀ w,Calls Tryz.prog 154 #[.string (bs l)] w fun e w'=>e=.returned (.tuple #[.int .i64 C,.string (bs (c::r)),.bool true])∧Below w.heap.size w w')
  (hbg:∀ w,Calls Tryz.prog 160 #[.string (bs (c::r)),.string ⟨#[42,45,43]⟩] w fun e w'=>e=.returned (.bool true)∧w=w')
  (s:Bool) (hap:∀ w,Calls Tryz.prog 156 #[.string (bs r)] w fun e w'=>e=.returned (.bool s)∧w=w')
  (hb:s=false∨(s=true∧∀ w,Calls Tryz.prog 123 #[.string (bs l)] w fun e w'=>e=.returned (.bool true)∧Below w.heap.size w w')) :
  Calls Tryz.prog 153 #[.string (bs l)] w fun e w'=>e=.returned (BY (Lf.item l))∧Below w.heap.size w w':=by
 have hsz:(bs (c::r)).size=r.length+1:=au _;have qm:=cB (S:=c::r) (i:=1) (by simp);rw [List.drop_succ_cons,List.drop_zero,show ((1:Nat):Int)=1 from rfl] at qm;rcases hb with rfl | ⟨rfl,hbk⟩
 ·go_enter Tryz.func153,Tryz.ntmps153
  go_wp2_with fail;refine (hin _).mono ?_;rintro e w1 ⟨rfl,hb1⟩;go_wp2_with fail;refine (hbg _).mono ?_;rintro e w2 ⟨rfl,rfl⟩;go_wp2_with fail;refine (hap _).mono ?_;rintro e w2 ⟨rfl,rfl⟩;go_wp2_with fail;go_returns;exact ⟨by rw [hn.out];rfl,hb1⟩
 ·go_enter Tryz.func153,Tryz.ntmps153
  go_wp2_with fail;refine (hin _).mono ?_;rintro e w1 ⟨rfl,hb1⟩;go_wp2_with fail;refine (hbg _).mono ?_;rintro e w2 ⟨rfl,rfl⟩;go_wp2_with fail;refine (hap _).mono ?_;rintro e w2 ⟨rfl,rfl⟩;go_wp2_with fail;refine (hbk _).mono ?_;rintro e w3 ⟨rfl,hb3⟩;go_wp2_with fail;go_returns;exact ⟨by rw [hn.out];rfl,ag hb1 hb3⟩
theorem E8 {l r:List UInt8}{c:UInt8}(h:Fn.rs l=c::r) (h1:Fn.cl l≤3∧Lf.bullet c=true∧Lf.uh l=false∧Lf.stop r=true):Lf.item l=some (c,Fn.cl l+1+(Lf.within r).1,(Lf.within r).2):=by
 unfold Lf.within;cases hE:Fn.emp r with
 | true=>rw [Qw h h1 hE];rfl
 | false=>rw [QM h h1 hE];rfl
theorem NS (l r S:List UInt8) (c:UInt8) (g C:Nat) (w:World) (hn:Hid (Lf.item l=some (c,C+1+g,S))) (hC:C≤3) (hg:g≤4)
  (hin:∀ w,Calls Tryz.prog 154 #[.string (bs l)] w fun e w'=>e=.returned (.tuple #[.int .i64 (C:Int),.string (bs (c::r)),.bool true])∧Below w.heap.size w w')
  (hbg:∀ w,Calls Tryz.prog 160 #[.string (bs (c::r)),.string ⟨#[42,45,43]⟩] w fun e w'=>e=.returned (.bool true)∧w=w')
  (hap:∀ w,Calls Tryz.prog 156 #[.string (bs r)] w fun e w'=>e=.returned (.bool true)∧w=w')
  (hbk:∀ w,Calls Tryz.prog 123 #[.string (bs l)] w fun e w'=>e=.returned (.bool false)∧Below w.heap.size w w')
  (hid:∀ w,Calls Tryz.prog 183 #[.string (bs r)] w fun e w'=>e=.returned (.tuple #[.int .i64 (g:Int),.string (bs S)])∧Below w.heap.size w w') :
  Calls Tryz.prog 153 #[.string (bs l)] w fun e w'=>e=.returned (BY (Lf.item l))∧Below w.heap.size w w':=by
 have hsz:(bs (c::r)).size=r.length+1:=au _;have qm:=cB (S:=c::r) (i:=1) (by simp);rw [List.drop_succ_cons,List.drop_zero,show ((1:Nat):Int)=1 from rfl] at qm;have hx0:=bG (S:=c::r) (i:=0) (by simp);rw [List.getElem_cons_zero,show ((0:Nat):Int)=0 from rfl] at hx0;go_enter Tryz.func153,Tryz.ntmps153;go_wp2_with fail;refine (hin _).mono ?_;rintro e w1 ⟨rfl,hb1⟩;go_wp2_with fail;refine (hbg _).mono ?_;rintro e w2 ⟨rfl,rfl⟩;go_wp2_with fail;refine (hap _).mono ?_;rintro e w2 ⟨rfl,rfl⟩;go_wp2_with fail;refine (hbk _).mono ?_;rintro e w3 ⟨rfl,hb3⟩;replace hb3:=Lib.hid (ag hb1 hb3);clear hb1;go_wp2_with fail;refine (hid _).mono ?_;rintro e w4 ⟨rfl,hb4⟩;replace hb4:=Lib.hid (ag hb3.out hb4);clear hb3 hin hbg hap hbk hid qm;go_wp2_with fail;go_returns;exact ⟨by rw [hn.out];rfl,hb4.out⟩
theorem Oh (l:List UInt8) (w:World) (hl:l.length+100≤140737488355328) :
  Calls Tryz.prog 153 #[.string (bs l)] w fun e w'=>e=.returned (BY (Lf.item l))∧Below w.heap.size w w':=by
 obtain ⟨C,R,hC,hR,hRl,_,hin⟩:=mL l (by omega);have hbg:=fun w=>E6 R w
 by_cases h3:C≤3
 ·rw [show decide ((C:Int)≤3)=true from by simp;omega] at hin
  rcases R with _ | ⟨c,r⟩
  ·exact yW l [] w (Lib.hid (Gf hR)) _ _ hin (.inr ⟨rfl,hbg⟩)
  ·rw [S5] at hbg
   rw [List.length_cons] at hRl;cases hbu:Lf.bullet c with
   | false =>
    rw [hbu] at hbg;exact yW l (c::r) w (Lib.hid (wX hR (fun h=>by rw [hbu] at h;cases h.2.1))) _ _ hin (.inr ⟨rfl,hbg⟩)
   | true =>
    rw [hbu] at hbg;have hap:=fun w=>B6 r w;have hbk:=fun w=>He l w hl;cases hs:Lf.stop r with
    | false =>
     rw [hs] at hap;exact A6 l r c w (Lib.hid (wX hR (fun h=>by rw [hs] at h;cases h.2.2.2))) _ hin hbg false hap (.inl rfl)
    | true =>
     rw [hs] at hap;cases hb:Lf.uh l with
     | true =>
      rw [hb] at hbk;exact A6 l r c w (Lib.hid (wX hR (fun h=>by rw [hb] at h;cases h.2.2.1))) _ hin hbg true hap (.inr ⟨rfl,hbk⟩)
     | false =>
      rw [hb] at hbk;have hn:=E8 hR ⟨by omega,hbu,hb,hs⟩;rw [hC] at hn;have hg:(Lf.within r).1≤4:=by
       unfold Lf.within
       split
       ·simp
       ·simp only [Lf.inner];split<;>omega
      exact NS l r _ c _ C w (Lib.hid hn) h3 hg hin hbg hap hbk (fun w=>Jc r w (by omega))
 ·rw [show decide ((C:Int)≤3)=false from by simp;omega] at hin
  have hn:Hid (Lf.item l=none):=by
   rcases R with _ | ⟨c,r⟩
   ·exact Lib.hid (Gf hR)
   ·exact Lib.hid (wX hR (fun h=>h3 (by omega)))
  exact yW l R w hn _ _ hin (.inl rfl)
end Go.Proofs.YtddkjkockbcamaaGreatDoor
