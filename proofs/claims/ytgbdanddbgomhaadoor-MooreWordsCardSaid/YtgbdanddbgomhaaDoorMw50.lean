import Derived.Test.YtgbdanddbgomhaaDoorMw49
import Derived.Test.YtgbdanddbgomhaaDoorMw45
set_option linter.unusedVariables false
set_option linter.unusedSimpArgs false
namespace Go.Proofs.YtgbdanddbgomhaaDoor
open Go Go.RowKit
section
theorem zsy {l:List Nat} (h:l.Pairwise (· < ·)):l.Nodup:=h.imp fun e=>Nat.ne_of_lt e
structure Few (R:List (T×Bool)):Prop where
 len:R.length<=4
 ok:∀ r∈R,WF r.1∧plR r.1<=60
section
variable {R:List (T×Bool)}
theorem Few.nfas (h:Few R):∀ r∈R,WF r.1∧plR r.1<=256:=fun r hr=>⟨(h.ok r hr).1,by have:=(h.ok r hr).2;omega⟩
theorem Few.mem (h:Few R) {s:Lay} {x:Str} (hm:(s,x)∈laysOf R):∃ t,WF t∧plR t<=60∧lay0 t=(s,x):=by
 unfold laysOf at hm;obtain⟨r,hr,e⟩:=List.mem_map.1 hm;exact⟨r.1,(h.ok r hr).1,(h.ok r hr).2,e⟩
theorem Few.lay (h:Few R):∀ s x,(s,x)∈laysOf R->OkLay s x:=fun s x hm=>by
 obtain⟨t,h1,h2,h3⟩:=h.mem hm;have:=zvg h1 (by omega);rw[h3] at this;exact this
theorem Few.nodup (h:Few R):∀ s x,(s,x)∈laysOf R->x.first.Nodup:=fun s x hm=>by
 obtain⟨t,h1,h2,h3⟩:=h.mem hm;have:=(zc7 (xs:=[]) h1).2.sf;rw[h3] at this;exact zsy this
theorem zbk:(laysOf R).length=R.length:=by simp[laysOf]
end
theorem zri (L:List ByteArray) (bs:List Bool) (n:Nat) (h:n<=4):Few (rulesN L bs n):=by
 refine⟨Nat.le_trans (ze4 L bs n) h,fun r hr=>?_⟩;obtain⟨h1,h2,h3⟩:=ziw L bs n r hr;rw[zpp h1] at h2;exact⟨h1,by omega⟩
theorem zuv {L:List (Lay×Str)} {bs:List Bool} {lam most:Nat} (hm:1<=most∧most<=1000) {ss:List Sta} {rows:List (List Nat)} (h:srchOf L bs lam most=some (ss,rows)):
   OkM (clsOf L bs) (cntOf L bs) rows (ss.map fun s=>mOutP (RR L bs lam) s (0,0))∧rows.length<=1000∧∀ r∈rows,r.length<=256:=by
 unfold srchOf at h;obtain⟨h1,h2,z,h3⟩:=zg0 h (by omega) (Nat.zero_le _) (by simp;omega) ⟨by simp,rfl,fun j hj=>by omega⟩;have hC:cntOf L bs<=256:=zfx _ _;have hlen:rows.length=ss.length:=h1.len;have hpos:0<ss.length:=(by rw[h3];simp);have hrow:∀ (i:Nat) r,rows[i]?=some r->r.length=cntOf L bs∧∀ t∈r,t<rows.length:=fun i r e=>by
   have hi:i<ss.length:=(by rw[←hlen];exact (List.getElem?_eq_some_iff.1 e).1);obtain⟨s,row,e1,e2,e3,e4⟩:=h1.row i hi;rw[e] at e2;injection e2 with e2
   subst e2;refine⟨e3,fun t ht=>?_⟩;obtain⟨c,hc,et⟩:=List.getElem_of_mem ht;obtain⟨e5,e6⟩:=e4 c (by omega);rw[List.getElem?_eq_getElem hc,et] at e6;injection e6 with e6
   rw[e6,hlen];exact zr4 e5
 refine⟨⟨fun b hb=>zbj _ hb,hrow,by rw[List.length_map,hlen],by omega,by omega⟩,by omega,fun r hr=>?_⟩;obtain⟨i,hi⟩:=List.getElem?_of_mem hr;have:=(hrow i r hi).1;omega
theorem zu9 {w:World} {B n c:Nat} {A:Option Addr} {cs:List Bool} (h:w.ownsRow B 4 1 (.slice A n c) n (cs.map Value.bool)):RdBo w A cs:=fun i x hi=>by
 have hl:i<cs.length:=(List.getElem?_eq_some_iff.1 hi).1;have h1:=h.1;rw[List.length_map] at h1;rcases h.2 with ⟨_,h0⟩|⟨g,cap,cur,e,hB,hg,_⟩
 . omega
 . injection e with e1 e2 e3
   subst e1;refine⟨g,0,rfl,za0 hg,?_⟩;rw[Nat.zero_add,World.ownsRow.cellAt h i (by omega),List.getElem?_map,hi];rfl
end
theorem zsp:srchOf [] [] 5 1=some ([[]],[[0]]):=by
 unfold srchOf;rw[show cntOf [] []=1 from zez 255];rfl
theorem zru (W:World):Calls Tryd.prog 22 #[.slice none 0 0,.slice none 0 0,.int .i64 5,.int .i64 1] W fun e w'=>Below W.heap.size W w'∧∃ F A c B d,e = .returned (.tuple #[.agg (machC F 1 (.slice A 1 c) (.slice B 1 d)),.nilIface]):=by
 have h:=zi1 (w:=W) (A:=none) (B:=none) (ca:=0) (cb:=0) (L:=[]) (bs:=[]) (lam:=5) (most:=1) (fun i s x e=>by simp at e) (fun i x e=>by simp at e) (by omega) (by omega) (fun s x e=>by simp at e) (by simp) (by simp);refine h.mono fun e w' h=>?_
 unfold RetMB at h;rw[if_neg (by simp),show ((5:Int).toNat)=5 from rfl,show ((1:Int).toNat)=1 from rfl,zsp] at h;obtain⟨h1,vN,vO,O,rfl,hn,ho⟩:=h;obtain⟨A,c,e1⟩:=hn.form;obtain⟨B,d,e2⟩:=ho.form;refine⟨h1,clsOf [] [],A,c,B,d,?_⟩;rw[e1,e2,show cntOf [] []=1 from zez 255];rfl
theorem zrv (W:World):Calls Tryd.prog 22 #[.slice none 0 0,.slice none 0 0,.int .i64 0,.int .i64 1] W fun e w'=>Below W.heap.size W w'∧e = .returned (.tuple #[.agg zeroM,errV 1]):=by
 have h:=zi1 (w:=W) (A:=none) (B:=none) (ca:=0) (cb:=0) (L:=[]) (bs:=[]) (lam:=0) (most:=1) (fun i s x e=>by simp at e) (fun i x e=>by simp at e) (by omega) (by omega) (fun s x e=>by simp at e) (by simp) (by simp);refine h.mono fun e w' h=>?_
 unfold RetMB at h;rw[if_pos (by omega)] at h;exact h
set_option maxRecDepth 20000 in
set_option maxHeartbeats 2000000 in
theorem zwb (w:World):Calls Tryd.prog 19 #[] w fun e w'=>e = .returned (.bool true)∧Below w.heap.size w w':=by
 have hz38:∀ w:World,Sem.run Tryd.prog (zeroValue 60) w = .ok (.agg zeroM) w:=fun _=>by kernel_rfl
 have HB:=Zh zru;have HD:=Zh zrv;have hc:∀ W,Calls Tryd.prog 23 #[.iface 92 (.int .i64 1)] W fun e w'=>e = .returned (.int .i64 1)∧W=w':=fun W=>zky W 1 (by omega) (by omega)
 have HC:=Zh hc;clear hc;go_enter Tryd.func19,Tryd.ntmps19;go_upto_region 2 with (first
   | (go_at_call 22;(with_reducible refine (HB.out _).mono ?_);rintro e w1 ⟨b1,F,A,c,B,d,rfl⟩;have B1:=Zh b1;clear b1)
   | (refine zal (by rfl) _ _ (by rfl) (by rfl) (by rfl) Tryd.sizeMM rfl rfl (BoxM.new w1 60 (fun _=>0) 0 (.slice none 0 0) (.slice none 0 0)) ?_;intro hbx;have HX1:=Zh hbx;clear hbx;go_simp)
   | fail)
 have hb2:Below w.heap.size w ((w1.alloc (.cells zeroM 60)).setRow w1.heap.size (machC F 1 (.slice A 1 c) (.slice B 1 d))):=below_setRow (B1.out.alloc B1.out.size _) B1.out.size _;have hx2:=HX1.out;change BoxM ((w1.alloc (.cells zeroM 60)).setRow w1.heap.size (machC F 1 (.slice A 1 c) (.slice B 1 d))) _ _ _ _ _ _ at hx2;generalize (w1.alloc (.cells zeroM 60)).setRow w1.heap.size (machC F 1 (.slice A 1 c) (.slice B 1 d))=w2 at *;have HX2:=Zh hx2;have HB2:=Zh hb2;clear hx2 hb2 HX1;go_upto_region 3 with (first
   | (go_at_call 22;(with_reducible refine (HD.out _).mono ?_);rintro e w3 ⟨b3,rfl⟩;have B3:=Zh b3;have HX3:=Zh (HX2.out.stays b3);have HB3:=Zh (gro HB2.out b3);clear b3)
   | (refine zal (by rfl) _ _ (by rfl) (by rfl) (by rfl) Tryd.sizeMM rfl rfl (BoxM.new w3 60 (fun _=>0) 0 (.slice none 0 0) (.slice none 0 0)) ?_;intro hbx;clear hbx;go_simp)
   | fail)
 have hb4:Below w3.heap.size w3 ((w3.alloc (.cells zeroM 60)).setRow w3.heap.size (machC (fun _=>0) 0 (.slice none 0 0) (.slice none 0 0))):=below_setRow ((Below.refl _ _).alloc (Nat.le_refl _) _) (Nat.le_refl _) _;generalize (w3.alloc (.cells zeroM 60)).setRow w3.heap.size (machC (fun _=>0) 0 (.slice none 0 0) (.slice none 0 0))=w5 at *;have hx4:=HX3.out.stays hb4;have hb5:=gro HB3.out hb4;have c1:=hx4.num;have c2:=hx4.nxt;have c3:=hx4.out;have HB5:=Zh hb5;clear hb4 hx4 hb5;unfold errV;go_wp2_with (first
   | (go_at_call 23;(with_reducible refine (HC.out _).mono ?_);rintro e w6 ⟨rfl,rfl⟩)
   | fail)
 go_ret;exact⟨rfl,HB5.out⟩
end Go.Proofs.YtgbdanddbgomhaaDoor
