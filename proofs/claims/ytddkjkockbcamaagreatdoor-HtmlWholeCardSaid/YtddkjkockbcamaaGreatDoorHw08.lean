/- Line Split Ref -/
import Derived.Test.YtddkjkockbcamaaGreatDoorHw03
import Derived.Deep.QuietTactic
import Derived.BigQuiet
import Derived.Handy
set_option maxHeartbeats 16000000
set_option maxRecDepth 100000
namespace Go.Proofs.YtddkjkockbcamaaGreatDoor
open Go.RowKit
theorem drop_at {l:List UInt8}{k:Nat}(h:k<l.length):l.drop k=l[k]::l.drop (k+1):=List.drop_eq_getElem_cons h
theorem yH {b:UInt8}{n:Nat}(hn:n<256) (h:b=UInt8.ofNat n):((b.toNat:Int)==(n:Int))=true:=by
 subst h;simp;omega
theorem mA {b:UInt8}{n:Nat}(hn:n<256) (h:b≠UInt8.ofNat n):((b.toNat:Int)==(n:Int))=false:=by
 rw [beq_eq_false_iff_ne];intro he;apply h;have:b.toNat=n:=by omega
 subst this;simp
theorem BG {l:List UInt8}{w:World}{B:Nat}{A:Option Addr}(h:Row w B 1 A l.length (ai l)) (hn:0<l.length) :
  ∃ b o,A=some ⟨b,o,none⟩∧b<B∧∀ k,(hk:k<l.length)→w.cell? ⟨b,o+k,none⟩=some (.int .u8 (l[k].toNat:Int)):=by
 obtain ⟨b,o,e,hb,hc⟩:=h.at1 hn;exact ⟨b,o,e,hb,fun k hk=>by rw [hc k hk];simp [ai,bv]⟩
theorem sU (l:List UInt8) (A:Option Addr) (c:Nat) (w:World) :
  Calls Tryz.prog 115 #[.slice A l.length c,.int .i64 l.length] w fun e w'=>e=.returned (.int .i64 0)∧w=w':=by
 go_enter Tryz.func115,Tryz.ntmps115;go_wp2;go_ret;exact ⟨rfl,rfl⟩
theorem DR (l:List UInt8) (A:Option Addr) (c k:Nat) (w:World) (B:Nat) (h:Row w B 1 A l.length (ai l)) (hk:k<l.length) (hl:l.length≤1000000000000) :
  Calls Tryz.prog 115 #[.slice A l.length c,.int .i64 k] w fun e w'=>e=.returned (.int .i64 (Ln.eu (l.drop k):Nat))∧w=w':=by
 obtain ⟨b,o,rfl,hb,hc⟩:=BG h (by omega);have h0:=hc k hk;have hne:((k:Int)==(l.length:Int))=false:=by rw [beq_eq_false_iff_ne];omega
 by_cases Pn:l[k]=13
 ·have t13:((l[k].toNat:Int)==(13:Int))=true:=yH (n:=13) (by omega) Pn
  by_cases hlt:k+1<l.length
  ·have h1:=hc (k+1) hlt
   by_cases h10:l[k+1]=10
   ·have t10:((l[k+1].toNat:Int)==(10:Int))=true:=yH (n:=10) (by omega) h10
    have aP:=Lib.hid (show Ln.eu (l.drop k)=2 from by rw [drop_at hk,drop_at hlt,Pn,h10];rfl);clear hc h Pn h10;go_enter Tryz.func115,Tryz.ntmps115;go_wp2;go_ret;exact ⟨by rw [aP.out];rfl,rfl⟩
   ·have t10:((l[k+1].toNat:Int)==(10:Int))=false:=mA (n:=10) (by omega) h10
    have aP:=Lib.hid (show Ln.eu (l.drop k)=1 from by rw [drop_at hk,drop_at hlt,Pn];exact Ln.Ou _ h10);clear hc h Pn h10;go_enter Tryz.func115,Tryz.ntmps115;go_wp2;go_ret;exact ⟨by rw [aP.out];rfl,rfl⟩
  ·have aP:=Lib.hid (show Ln.eu (l.drop k)=1 from by rw [drop_at hk,List.drop_of_length_le (by omega),Pn];rfl)
   clear hc h Pn;go_enter Tryz.func115,Tryz.ntmps115;go_wp2;go_ret;exact ⟨by rw [aP.out];rfl,rfl⟩
 ·have t13:((l[k].toNat:Int)==(13:Int))=false:=mA (n:=13) (by omega) Pn
  have aP:=Lib.hid (show Ln.eu (l.drop k)=1 from by rw [drop_at hk];exact Ln.Hx _ Pn);clear hc h Pn;go_enter Tryz.func115,Tryz.ntmps115;go_wp2;go_ret;exact ⟨by rw [aP.out];rfl,rfl⟩
theorem Aj (l:List UInt8) (A:Option Addr) (c k:Nat) (w:World) (B:Nat) (h:Row w B 1 A l.length (ai l)) (hk:k≤l.length) (hl:l.length≤1000000000000) :
  Calls Tryz.prog 115 #[.slice A l.length c,.int .i64 k] w fun e w'=>e=.returned (.int .i64 (Ln.eu (l.drop k):Nat))∧w=w':=by
 rcases Nat.lt_or_eq_of_le hk with h1 | rfl
 ·exact DR l A c k w B h h1 hl
 ·rw [List.drop_length];exact sU l A c w
theorem NQ {x:UInt8}(h:Ln.qw x=true):((x.toNat:Int) != (10:Int))=false∨((x.toNat:Int) != (10:Int))=true∧((x.toNat:Int) != (13:Int))=false:=by
 simp only [Ln.qw,Bool.or_eq_true,beq_iff_eq] at h;rcases h with rfl | rfl
 ·exact .inl rfl
 ·exact .inr ⟨rfl,rfl⟩
theorem F8 {x:UInt8}(h:¬ Ln.qw x=true):((x.toNat:Int) != (10:Int))=true∧((x.toNat:Int) != (13:Int))=true:=by
 simp only [Ln.qw,Bool.or_eq_true,beq_iff_eq,not_or] at h;have h1:=mA (n:=10) (by omega) h.1;have h2:=mA (n:=13) (by omega) h.2;exact ⟨by simpa using h1,by simpa using h2⟩
theorem Yz {l:List UInt8}{k j:Nat}(h:Ln.pN l k=j):Ending.returned (.agg #[.int .i64 k,.int .i64 j,.int .i64 ((j:Int)+(Ln.eu (l.drop j):Nat))])=.returned (.agg #[.int .i64 k,.int .i64 (Ln.pN l k:Nat),.int .i64 (Ln.xB l k:Nat)]):=by
 unfold Ln.xB;rw [h];simp
theorem Jf {l:List UInt8}{k:Nat}(h:Ln.pN l k=l.length):Ending.returned (.agg #[.int .i64 k,.int .i64 l.length,.int .i64 l.length])=.returned (.agg #[.int .i64 k,.int .i64 (Ln.pN l k:Nat),.int .i64 (Ln.xB l k:Nat)]):=by
 unfold Ln.xB;rw [h];simp [Ln.eu]
theorem Dl (l:List UInt8) (A:Option Addr) (c k:Nat) (w:World) (h:Row w w.heap.size 1 A l.length (ai l)) (hk:k≤l.length) (hl:l.length≤1000000000000) :
  Calls Tryz.prog 77 #[.slice A l.length c,.int .i64 k] w fun e w' =>
   e=.returned (.agg #[.int .i64 k,.int .i64 (Ln.pN l k:Nat),.int .i64 (Ln.xB l k:Nat)])∧Below w.heap.size w w':=by
 have hL0:=h.alloc (Nat.le_refl _) (.cells #[.int .i64 0,.int .i64 0,.int .i64 0] 131);have hL:=Lib.hid hL0;clear hL0;go_enter Tryz.func77,Tryz.ntmps77;go_wp2_with fail
 go_loop [5] (fun v=>∃ j:Nat,k≤j∧j≤l.length∧v=.int .i64 j∧Hid (Ln.pN l j=Ln.pN l k)) (fun v=>l.length-(intOf v).toNat)
 case atStart=>exact ⟨k,Nat.le_refl _,hk,rfl,Lib.hid rfl⟩
 case round =>
  obtain ⟨j,hkj,hj,rfl,Z6⟩:=hrel;have hjn:j+Ln.eu (l.drop j)≤l.length:=by have:=Ln.BS (l.drop j);rw [List.length_drop] at this;omega
  rcases Nat.lt_or_eq_of_le hj with hlt | rfl
  ·obtain ⟨b,o,rfl,hb,hc⟩:=BG h (by omega)
   have h0:=hc j hlt
   by_cases MA:Ln.qw l[j]=true
   ·have Pm:=Lib.hid (show Ln.pN l k=j from by rw [← Z6.out];exact Ln.UU hlt MA)
    have h1:=NQ MA;clear hc MA h;rcases h1 with h10 | ⟨h10,Pn⟩
    all_goals
     go_wp2_with fail;refine (Aj l _ c j _ w.heap.size hL.out (by omega) hl).mono ?_;rintro e w' ⟨rfl,rfl⟩;go_wp2;go_returns;exact ⟨Yz Pm.out,by go_grown⟩
   ·have Pm:=Lib.hid (show Ln.pN l (j+1)=Ln.pN l k from by rw [← Z6.out];exact Ln.Qa hlt (by simpa using MA))
    obtain ⟨h10,Pn⟩:=F8 MA;clear hc MA h;go_wp2
    go_round
    case rel=>exact ⟨j+1,by omega,by omega,by go_num,Pm⟩
    case measure=>simp [intOf];omega
  ·have Pm:=Lib.hid (show Ln.pN l k=l.length from by rw [← Z6.out];exact Ln.ZB l)
   clear h;go_wp2_with fail;refine (sU l _ c _).mono ?_;rintro e w' ⟨rfl,rfl⟩;go_wp2;go_returns;exact ⟨Jf Pm.out,by go_grown⟩
theorem ZL (w:World):(sizeOf (Tryz.prog.elem 27)).run Tryz.prog w=.ok 1 w:=by kernel_rfl
theorem Zu:Tryz.prog.underlying 27=some (.slice (Tryz.prog.elem 27)):=by kernel_rfl
theorem Qh:EI Tryz.prog 39 9 1 16:=EI.mk' (z:=.string ⟨#[]⟩) Tryz.underlying39 (by kernel_rfl) rfl (by omega)
theorem Df:EI Tryz.prog 27 5 1 1:=EI.mk' (z:=.int .u8 0) Tryz.underlying27 (by kernel_rfl) rfl (by omega)
theorem Le:(Tryz.prog.info? 5).map (fun i=>i.zero)=some (some (.int .u8 0)):=by kernel_rfl
theorem MW (l:List UInt8) (A:Option Addr) (c:Nat) (w:World) (h:Row w w.heap.size 1 A l.length (ai l)) (hlc:l.length≤c) (hl:l.length≤1000000000000) :
  Calls Tryz.prog 50 #[.slice A l.length c] w fun e w' =>
   ∃ v,e=.returned v∧w'.ownsRow w.heap.size 9 1 v (Ln.texts l 0).length (aY (Ln.texts l 0))∧Below w.heap.size w w':=by
 have hR:=Lib.hid h;clear h;go_enter Tryz.func50,Tryz.ntmps50;go_wp2_with fail
 go_loopw [3,4] (fun v i wr=>∃ (k:Nat) (d:List (List UInt8)),k≤l.length∧i=.int .i64 k∧Hid (d++Ln.texts l k=Ln.texts l 0)∧d.length≤k∧wr.ownsRow w.heap.size 9 1 v d.length (aY d)∧Below w.heap.size w wr)
  (fun _ i _=>l.length-(intOf i).toNat)
 case atStart=>exact ⟨0,[],Nat.zero_le _,rfl,Lib.hid rfl,Nat.zero_le _,World.ownsRow_nil _ _ _ _,Below.refl _ _⟩
 case round =>
  obtain ⟨k,d,hk,rfl,hd,hdl,hown,hb⟩:=hrel;rcases Nat.lt_or_eq_of_le hk with hlt | rfl
  ·have hRr:=Lib.hid ((hR.out.below hb).more hb.size)
   have Ya:=Ln.CI l k;have Pf:=Ln.PG hk;have qm:=Lg Zu 1 ZL A l.length c _ _ Ya (Nat.le_trans Pf hlc);go_wp2_with fail;refine (Dl l _ c k _ hRr.out hk hl).mono ?_;rintro e w1 ⟨rfl,hb1⟩;have hown1:=bX hown hb1;have hz:=hb.size;have hz1:=hb1.size;have hcv:=me (c:=c-k) ((((hRr.out.below hb1).more hb1.size).alloc (Nat.le_refl _) (.cells #[.int .i64 k,.int .i64 (Ln.pN l k),.int .i64 (Ln.xB l k)] 131)).sub Ya Pf hlc) 27 5 9 Tryz.underlying27 Tryz.underlying5 Tryz.underlying9;go_wp2_with (at_builtin;refine gT rfl (.tmp 13) (.tmp 21) rfl Qh rfl (hown1.alloc _) rfl ?hg rfl ?hone ?hn ?hby ?hba ?_)
   case hg=>simp
   case hone=>rfl
   case hn=>omega
   case hby=>omega
   case hba=>simp;omega
   intro v2 w2 hown2 aaF hb2;have hcell:w2.cell? ⟨w1.heap.size,2,none⟩=some (.int .i64 (Ln.xB l k:Nat)):=(HX aaF.out (by simp) (YC hown1 (Nat.le_refl _))).trans (World.cell?_alloc_at _ _ _ _ rfl);have uR:=Ln.tG hlt;have hn2:=Ln.CE hk;have BF:=Lib.hid (show (d++[mid l k (Ln.pN l k)])++Ln.texts l (Ln.xB l k)=Ln.texts l 0 from by rw [← hd.out,Ln.yw hlt];simp);have hbz:Below w.heap.size w w2:=(hb.trans ((hb1.mono hz).trans ((Below.refl _ _).alloc (by omega) _))).trans hb2;clear hb hb1 hb2 aaF hown hown1 hcv qm;go_wp2
   go_roundw
   case rel=>exact ⟨Ln.xB l k,d++[mid l k (Ln.pN l k)],hn2,rfl,BF,by simp;omega,by simpa [aY] using hown2,hbz⟩
   case measure=>simp [intOf];omega
  ·have aP:d=Ln.texts l 0:=by rw [← hd.out,Ln.uk (by omega)];simp
   subst aP;go_wp2;go_returns;exact ⟨_,rfl,hown,hb⟩
theorem nu {ls:List (List UInt8)}{w:World}{B:Nat}{A:Option Addr}(h:Row w B 1 A ls.length (aY ls)) (hn:0<ls.length) :
  ∃ b o,A=some ⟨b,o,none⟩∧b<B∧∀ k,(hk:k<ls.length)→w.cell? ⟨b,o+k,none⟩=some (.string (bs ls[k])):=by
 obtain ⟨b,o,e,hb,hc⟩:=h.at1 hn;exact ⟨b,o,e,hb,fun k hk=>by rw [hc k hk];simp [aY]⟩
theorem RX (ls:List (List UInt8)) (en:List UInt8) (A:Option Addr) (c:Nat) (w:World) (h:Row w w.heap.size 1 A ls.length (aY ls)) (hls:ls.length≤1000000000000) (hl:(Ln.join ls en).length≤1000000000000) :
  Calls Tryz.prog 128 #[.slice A ls.length c,.string (bs en)] w fun e w' =>
   ∃ v,e=.returned v∧w'.ownsRow w.heap.size 5 1 v (Ln.join ls en).length (ai (Ln.join ls en))∧Below w.heap.size w w':=by
 have hR:=Lib.hid h;clear h;go_enter Tryz.func128,Tryz.ntmps128;go_wp2_with fail
 go_loopw [5,10] (fun v i wr=>∃ (k:Nat),k≤ls.length∧i=.int .i64 k∧wr.ownsRow w.heap.size 5 1 v (Ln.join (ls.take k) en).length (ai (Ln.join (ls.take k) en))∧Below w.heap.size w wr)
  (fun _ i _=>ls.length-(intOf i).toNat)
 case atStart=>exact ⟨0,Nat.zero_le _,rfl,World.ownsRow_nil _ _ _ _,Below.refl _ _⟩
 case round =>
  obtain ⟨k,hk,rfl,hown,hb⟩:=hrel;rcases Nat.lt_or_eq_of_le hk with hlt | rfl
  ·obtain ⟨b,o,rfl,kr,hc⟩:=nu hR.out (by omega)
   have h0:wr.cell? ⟨b,o+k,none⟩=some (.string (bs ls[k])):=(hb.cell kr).trans (hc k hlt);have hz:=hb.size;have hj:=Lib.hid (Ln.Mj en hlt);have hjl:=Ln.Dx ls (k+1) en;have XP:(Ln.join (ls.take k) en).length+ls[k].length+en.length≤1000000000000:=by
    have:=congrArg List.length hj.out;simp at this;omega
   clear hc;go_wp2_with (first | (at_builtin;refine eD rfl (.tmp 14) (.tmp 15) rfl Df Le Tryz.underlying9 rfl hown rfl (by omega) hz ?_;intro v1 w1 hown1 hg1 hb1;have hz1:=hb1.size) | (at_builtin;refine eD rfl (.tmp 17) (.tmp 18) rfl Df Le Tryz.underlying9 rfl hown1 rfl (by omega) (Nat.le_trans hz hz1) ?_;intro v2 w2 hown2 hg2 hb2));have eR:w2.ownsRow w.heap.size 5 1 v2 (Ln.join (ls.take (k+1)) en).length (ai (Ln.join (ls.take (k+1)) en)):=by
    rw [hj.out];simpa [Nat.add_assoc] using hown2
   have hbz:=(hb.trans hb1).trans hb2;clear hown hown1 hown2 hb hb1 hb2
   go_roundw
   case rel=>exact ⟨k+1,by omega,by go_num,eR,hbz⟩
   case measure=>simp [intOf];omega
  ·rw [List.take_length] at hown
   go_wp2;go_returns;exact ⟨_,rfl,hown,hb⟩
end Go.Proofs.YtddkjkockbcamaaGreatDoor
