import Derived.Test.YtipfgpfplakhiaaDoorTw44
import Derived.Test.YtipfgpfplakhiaaDoorTw38
import Derived.Test.YtipfgpfplakhiaaDoorTw17
import Derived.Test.YtipfgpfplakhiaaDoorTw28
import Derived.Test.YtipfgpfplakhiaaDoorTw43
set_option linter.unusedVariables false
set_option linter.unusedSimpArgs false
set_option maxRecDepth 20000
set_option maxHeartbeats 4000000
namespace Go.Proofs.YtipfgpfplakhiaaDoor
open Go Go.RowKit
section
theorem zyl {l:List Nat} (h:l.Pairwise (· < ·)):l.Nodup:=h.imp fun e=>Nat.ne_of_lt e
structure Few (R:List (T×Bool)):Prop where
 len:R.length<=4
 ok:∀ r∈R,WF r.1∧plR r.1<=60
section
variable {R:List (T×Bool)}
theorem Few.nfas (h:Few R):∀ r∈R,WF r.1∧plR r.1<=256:=fun r hr=>⟨(h.ok r hr).1,by have:=(h.ok r hr).2;omega⟩
theorem Few.mem (h:Few R) {s:Lay} {x:Str} (hm:(s,x)∈zad R):∃ t,WF t∧plR t<=60∧lay0 t=(s,x):=by
 unfold zad at hm;obtain⟨r,hr,e⟩:=yg6.1 hm;exact⟨r.1,(h.ok r hr).1,(h.ok r hr).2,e⟩
theorem Few.lay (h:Few R):∀ s x,(s,x)∈zad R->zfl s x:=fun s x hm=>by
 obtain⟨t,h1,h2,h3⟩:=h.mem hm;have:=zwd h1 yie;rw[h3] at this;exact this
theorem Few.nodup (h:Few R):∀ s x,(s,x)∈zad R->x.first.Nodup:=fun s x hm=>by
 obtain⟨t,h1,h2,h3⟩:=h.mem hm;have:=(zfc (xs:=[]) h1).2.sf;rw[h3] at this;exact zyl this
theorem zd9:(zad R).length=R.length:=by simp[zad]
end
theorem zwy (L:List ByteArray) (bs:List Bool) (n:Nat) (h:n<=4):Few (zbn L bs n):=by
 refine⟨yfa (zhr L bs n) h,fun r hr=>?_⟩;obtain⟨h1,h2,h3⟩:=znx L bs n r hr;rw[ybd h1] at h2;exact⟨h1,by omega⟩
theorem zpn {L:List (Lay×Str)} {bs:List Bool} {lam most:Nat} (hm:1<=most∧most<=1000) {ss:List Sta} {rows:List (List Nat)} (h:zct L bs lam most=some (ss,rows)):
 OkM (zew L bs) (zef L bs) rows (ss.map fun s=>zbb (RR L bs lam) s (0,0))∧rows.length<=1000∧∀ r∈rows,r.length<=256:=by
 unfold zct at h;obtain⟨h1,h2,z,h3⟩:=zhf h yie (yf8 _) yil ⟨by simp,rfl,fun j hj=>by omega⟩;have hC:zef L bs<=256:=zgj _ _;have hlen:rows.length=ss.length:=h1.len;have hpos:0<ss.length:=(by rw[h3];simp);have hrow:∀ (i:Nat) r,rows[i]?=some r->r.length=zef L bs∧∀ t∈r,t<rows.length:=fun i r e=>by
  have hi:i<ss.length:=(by rw[←hlen];exact (yf4.1 e).1);obtain⟨s,row,e1,e2,e3,e4⟩:=h1.row i hi;rw[e] at e2;injection e2 with e2
  subst e2;refine⟨e3,fun t ht=>?_⟩;obtain⟨c,hc,et⟩:=yi9 ht;obtain⟨e5,e6⟩:=e4 c yie;rw[yey hc,et] at e6;injection e6 with e6
  rw[e6,hlen];exact zq2 e5
 refine⟨⟨fun b hb=>zd7 _ hb,hrow,by rw[yfr,hlen],by omega,by omega⟩,by omega,fun r hr=>?_⟩;obtain⟨i,hi⟩:=ygr hr;have:=(hrow i r hi).1;omega
theorem ya4 {w:World} {B n c:Nat} {A:Option Addr} {cs:List Bool} (h:w.ownsRow B 4 1 (.slice A n c) n (cs.map Value.bool)):RdBo w A cs:=fun i x hi=>by
 have hl:i<cs.length:=(yf4.1 hi).1;have h1:=h.1;rw[yfr] at h1;rcases h.2 with ⟨_,h0⟩|⟨g,cap,cur,e,hB,hg,_⟩
 .omega
 .injection e with e1 e2 e3
  subst e1;refine⟨g,0,rfl,za0 hg,?_⟩;rw[yg5,yf7 h i yie,yfs,hi];rfl
end
theorem zz1 {α:Type} [DecidableEq α] {P:α->Prop} {ss:List α} {t:α} (h:∀ s∈ss,P s) (ht:P t):∀ s∈ze7 ss t,P s:=fun s hs=>by
 unfold ze7 at hs;split at hs
 .exact h s hs
 .rw[yfm,yfn] at hs;rcases hs with hs|rfl
  .exact h s hs
  .exact ht
theorem zr2 {f:Nat->Sta} {most:Nat} {P:Sta->Prop} (hf:∀ c,P (f c)):∀ (k c:Nat) (ss:List Sta) (row:List Nat) (ss':List Sta) (row':List Nat),rowS f most k c ss row=some (ss',row')->(∀ s∈ss,P s)->∀ s∈ss',P s
 | 0,c,ss,row,ss',row',h,ha=>by
  unfold rowS at h;injection h with h
  injection h with h1 h2
  subst h1;exact ha
 | k+1,c,ss,row,ss',row',h,ha=>by
  unfold rowS at h;split at h
  .cases h
  .exact zr2 hf k (c+1) _ _ _ _ h (zz1 ha (hf c))
theorem zlh {step:Sta->Nat->Sta} {most n:Nat} {P:Sta->Prop} (hf:∀ s c,P (step s c)):∀ (fu i:Nat) (ss:List Sta) (rows:List (List Nat)) (ss':List Sta) (rows':List (List Nat)),ze3 step most n fu i ss rows=some (ss',rows')->(∀ s∈ss,P s)->∀ s∈ss',P s
 | 0,i,ss,rows,ss',rows',h,ha=>by
  unfold ze3 at h;injection h with h
  injection h with h1 h2
  subst h1;exact ha
 | fu+1,i,ss,rows,ss',rows',h,ha=>by
  unfold ze3 at h;split at h
  .injection h with h
   injection h with h1 h2
   subst h1;exact ha
  .rename_i s hs;split at h
   .cases h
   .rename_i ss2 row2 h2;exact zlh hf fu (i+1) _ _ _ _ h (zr2 (hf s) _ _ _ _ _ _ h2 ha)
theorem zod {R:RSt}:∀ (st:List (Nat×Nat)) (o:Nat×Nat),Fits R st->okO o->okO (zbb R st o)
 | [],o,h,ho=>ho
 | x::st,o,h,ho=>by
  rw[zbb];refine zod st _ (fun y hy=>h y (yfv _ hy)) ?_;have hx:=(h x yg9).2;have e64:(2:Nat) ^ 64=18446744073709551616:=yij;unfold zem;split
  .split
   .split
    .refine⟨ho.1,?_⟩;have:=yhy (n:=64) (x:=o.2) (y:=x.2) (by rw[e64];exact ho.2) hx
     simpa [e64] using this
    .refine⟨?_,ho.2⟩;have:=yhy (n:=64) (x:=o.1) (y:=x.2) (by rw[e64];exact ho.1) hx
     simpa [e64] using this
   .exact ho
  .exact ho
theorem zup {L:List (Lay×Str)} {bs:List Bool} {lam most:Nat} (hV:zn9 (RR L bs lam)) {ss:List Sta} {rows:List (List Nat)} (h:zct L bs lam most=some (ss,rows)):∀ o∈ss.map (fun s=>zbb (RR L bs lam) s (0,0)),okO o:=fun o ho=>by
 obtain⟨s,hs,rfl⟩:=yg6.1 ho;unfold zct at h;have hm:=zlh (P:=May (RR L bs lam)) (fun s c=>zqt _ hV _ s c) _ _ _ _ _ _ h (fun s hs=>by rw[yfn] at hs;subst hs;exact fun x hx=>by cases hx) s hs;exact zod s _ (ziq hV hm) ⟨by decide,by decide⟩
theorem Met.few7 {κ:Nat->Nat} {N:Nat} {fs:List Nat} (h:Met κ N fs):fs.length<=N:=by
 have hnd:fs.Nodup:=(List.Pairwise.of_map κ (fun a b hab e=>hab yj3) h.nod);have:=zgt fs (List.range N) hnd fun s hs=>yfz.2 (h.lt s hs)
 simpa using this
theorem zjj {κ nx:Nat->Nat}:∀ (k c:Nat) (fs row:List Nat),(zcw κ nx k c fs row).2.length=row.length+k∧∃ z,(zcw κ nx k c fs row).1=fs++z
 | 0,c,fs,row=>⟨by rw[zcw];rfl,[],by rw[zcw];simp⟩
 | k+1,c,fs,row=>by
  rw[zcw];split
  .obtain⟨h1,h2⟩:=zjj (κ:=κ) (nx:=nx) k (c+1) fs (row++[idxM (fs.map κ) (κ (nx c))]);exact⟨by rw[h1,yfd,ygd];omega,h2⟩
  .obtain⟨h1,z,h2⟩:=zjj (κ:=κ) (nx:=nx) k (c+1) (fs++[nx c]) (row++[fs.length]);exact⟨by rw[h1,yfd,ygd];omega,nx c::z,by rw[h2,yfl];rfl⟩
theorem zmm {κ:Nat->Nat} {δ:Nat->Nat->Nat} {C N:Nat} (hδ:∀ s c,s<N->c<C->δ s c<N):∀ (fu i:Nat) (fs:List Nat) (rows:List (List Nat)) (fs':List Nat) (rows':List (List Nat)),zf9 κ δ C fu i fs rows=(fs',rows')->Met κ N fs->rows.length=i->i<=fs.length->N<fu+i->(∀ r∈rows,r.length=C)->Met κ N fs'∧rows'.length=fs'.length∧(∀ r∈rows',r.length=C)∧∃ z,fs'=fs++z
 | 0,i,fs,rows,fs',rows',h,hm,hr,hi,hf,hC=>by
  have:=hm.few7;omega
 | fu+1,i,fs,rows,fs',rows',h,hm,hr,hi,hf,hC=>by
  rw[zf9] at h;split at h
  .rename_i hs;injection h with h1 h2
   subst h1 h2;rw[yi3] at hs;exact⟨hm,by omega,hC,[],by simp⟩
  .rename_i s hs;have hsN:=hm.lt s (yfh hs);have hil:=(yf4.1 hs).1;obtain⟨hl,z,hz⟩:=zjj (κ:=κ) (nx:=δ s) C 0 fs [];have hm':=zgw (κ:=κ) (nx:=δ s) C 0 fs [] (fun d hd=>hδ s d hsN yie) hm;rw[hz] at hm' h;obtain⟨g1,g2,g3,z',g4⟩:=zmm hδ fu (i+1) _ _ _ _ h hm' (by rw[yfd,ygd];omega) (by rw[yfd];omega) yie (fun r hr=>by
    rw[yfm,yfn] at hr;rcases hr with hr|rfl
    .exact hC r hr
    .simpa using hl)
   exact⟨g1,g2,g3,z++z',by rw[g4,yfl]⟩
theorem zjf (κ:Nat->Nat) {N:Nat} (h:0<N):Met κ N [0]:=⟨fun s hs=>by rw[yfn] at hs;omega,by simp⟩
theorem zdp {κ:Nat->Nat} {δ:Nat->Nat->Nat} {C N:Nat} (hδ:∀ s c,s<N->c<C->δ s c<N) (h0:0<N) {fs':List Nat} {rows':List (List Nat)} (h:zf9 κ δ C (N+1) 0 [0] []=(fs',rows')):Met κ N fs'∧rows'.length=fs'.length∧(∀ r∈rows',r.length=C)∧fs'.length<=N:=by
 obtain⟨h1,h2,h3,_⟩:=zmm hδ (N+1) 0 [0] [] fs' rows' h (zjf κ h0) rfl yii yie (fun r hr=>by cases hr);exact⟨h1,h2,h3,h1.few7⟩
theorem ye4 {rows:List (List Nat)} {N C:Nat} (hl:rows.length=N) (hr:∀ (i:Nat) r,rows[i]?=some r->r.length=C∧∀ x∈r,x<N):∀ s c,s<N->c<C->dl rows s c<N:=fun s c hs hc=>by
 have hs':s<rows.length:=yie;obtain⟨h1,h2⟩:=hr s rows[s] (yey hs');have hc':c<rows[s].length:=yie;unfold dl;have e1:rows.getD s []=rows[s]:=(by rw[yf0,yey hs',yi5]);rw[e1,yf0,yey hc',yi5];exact h2 _ (yfq _)
section
attribute [local go_sem ↓] Go.wp_at_zero Go.wp_at_succ
attribute [local go_sem ↓] zil zyf
def zkc (w:World) (L:List (Lay×Str)) (bs:List Bool) (lam:Nat) (o:Option (List Sta×List (List Nat))) (e:Ending) (w':World):Prop:=match o with
 | none=>e = .returned (.tuple #[.agg zbm,errV 11])
 | some (ss,rows)=>∃ (q:PT) (B:Nat) (vN vO:Value) (O:Nat->Prop) (fs:List Nat) (rows':List (List Nat)),e = .returned (.tuple #[.agg (zaf (zew L bs) (zef L bs) vN vO),.nilIface])∧w.heap.size<=B∧
  (∀ s t,s<rows.length->t<rows.length->(q.grp s=q.grp t↔Alk (dl rows) (fun s=>(ss.map fun s=>zbb (RR L bs lam) s (0,0))[s]?) rows.length (zef L bs) s t))∧zf9 q.grp (dl rows) (zef L bs) (rows.length+1) 0 [0] []=(fs,rows')∧
  Nxt w' B O vN rows'∧Ots w' B O vO (fs.map fun s=>(ss.map fun s=>zbb (RR L bs lam) s (0,0)).getD s (0,0))
def zlr (w:World) (l:List (T×Bool)) (lam most:Int) (e:Ending) (w':World):Prop:=
 Below w.heap.size w w'∧
 if lam<1∨32<lam∨most<1∨1000<most then e = .returned (.tuple #[.agg zbm,errV 1]) else
 zkc w (zad l) (l.map (·.2)) lam.toNat (zct (zad l) (l.map (·.2)) lam.toNat most.toNat) e w'
theorem ydm {w:World} {B:Nat} {O:Nat->Prop} {vN:Value} {rows:List (List Nat)} (h:Nxt w B O vN rows):Nxt w B (fun b=>B<=b) vN rows:=by
 obtain⟨vs,h1,h2,h3,h4⟩:=h.mem;refine⟨⟨vs,h1,h2,h3,fun u hu b e=>?_⟩,fun b e=>(h.in b e).1⟩;obtain⟨i,hi⟩:=ygr hu;obtain⟨r,hr⟩:∃ r,rows[i]?=some r:=⟨_,yey (by have:=(yf4.1 hi).1;omega)⟩;exact (yf5 (h3 i u r hi hr) b e).1
theorem ydl {w:World} {B:Nat} {O:Nat->Prop} {vO:Value} {outs:List (Nat×Nat)} (h:Ots w B O vO outs):Ots w B (fun b=>B<=b) vO outs:=⟨h.row,fun b e=>(h.in b e).1⟩
theorem ydv (w:World) (a b:Obj):Below w.heap.size w (((w.alloc a).alloc b).drew)∧(((w.alloc a).alloc b).drew).heap[w.heap.size]?=some a∧(((w.alloc a).alloc b).drew).heap[w.heap.size+1]?=some b:=by
 refine⟨(((yf6 _ _).alloc (yez _) _).alloc yii _).drew,?_,?_⟩
 .have h1:=yfo (w.alloc a) b w.heap.size yii;exact h1.trans (heap_alloc_new w a)
 .have:=heap_alloc_new (w.alloc a) b;rw[yfe] at this;exact this
theorem zm0 {w:World} {A:Option Addr} {c:Nat} {l:List (T×Bool)} {lam most:Int} (hr:RdRules w A l) (hok:∀ r∈l,WF r.1∧plR r.1<=256) (hl:l.length<=64) (hlam : -9223372036854775808<=lam∧lam<=9223372036854775807) (hmost : -9223372036854775808<=most∧most<=9223372036854775807):
 Calls Tryd.prog 12 #[.slice A l.length c,.int .i64 lam,.int .i64 most] w (zlr w l lam most):=by
 have hz38:∀ w:World,Sem.run Tryd.prog (zeroValue 38) w = .ok (.agg zbm) w:=fun _=>by kernel_rfl
 obtain⟨N,hN⟩:∃ N,l.length=N:=⟨_,rfl⟩;obtain⟨MN,hMN,hmkN⟩:=zvy N yie;obtain⟨MT,hMT,hmkT⟩:=zpy N yie;rw[hN] at hl ⊢;have HN:=Zh hN;have HMN:=Zh hMN;have HMT:=Zh hMT;have HL:=Zh hl;have HR:=Zh hr;have HOK:=Zh hok;obtain⟨w1,hw1⟩:∃ w1,w.alloc (.cells zbm 38)=w1:=⟨_,rfl⟩;have hb1:Below w.heap.size w w1:=yjj;have hx1:BoxM w1 w.heap.size 38 (fun _=>0) 0 (.slice none 0 0) (.slice none 0 0):=(by rw[←hw1];exact BoxM.new w _ _ _ _ _);have HW1:=Zh hw1;have HB1:=Zh hb1;have HX1:=Zh hx1;clear hr hok hN hMN hMT hl hb1 hx1 hw1;go_enter Tryd.func12,Tryd.ntmps12;go_upto_region 1 with fail
 rw[HW1.o];go_cut [8,9] from 16 to 21 (fun s8 s9 wx=>∃ gn gt:Nat,s8 = .slice (some ⟨gn,0,none⟩) N N∧s9 = .slice (some ⟨gt,0,none⟩) N N∧gn≠gt∧Below w1.heap.size w1 wx∧MadeN wx w1.heap.size gn N [] (fun _=>False)∧MadeT wx w1.heap.size gt N [])
 case first =>
  go_region_law (fail)
  all_goals
   go_wp2;go_meet
   first
    | (obtain⟨hb,h1,h2⟩:=ydv w1 (.cells MN 73) (.cells MT 4)
       exact⟨_,_,rfl,rfl,by omega,hb,MadeN.new HMN.o (by have:=HL.o;omega) h1 yie,MadeT.new HMT.o (by have:=HL.o;omega) h2 yie⟩)
    | (obtain⟨hb,h1,h2⟩:=ydv w1 (.cells MT 4) (.cells MN 73)
       exact⟨_,_,rfl,rfl,by omega,hb,MadeN.new HMN.o (by have:=HL.o;omega) h2 yie,MadeT.new HMT.o (by have:=HL.o;omega) h1 yie⟩)
 case rest =>
  obtain⟨gn,gt,rfl,rfl,hgt,hbc,hmn,hmt⟩:=hcut;have HGT:=Zh hgt;have HBC:=Zh hbc;have HM0:=Zh hmn;have HT0:=Zh hmt;have HNT:=Zh hmt.lt;clear hgt hbc hmn hmt hmkN hmkT;go_wp2;go_loopg [24] N (fun mm i wr=>∃ (k:Nat) (E:Nat->Prop),i = .int .i64 (k:Int)∧k<=N∧mm=N-k∧Below w1.heap.size w1 wr∧MadeN wr w1.heap.size gn N (zad (l.take k)) E∧MadeT wr w1.heap.size gt N ((l.take k).map (·.2))∧∀ b,E b->b≠gt)
  case atStart=>exact⟨0,_,rfl,yf8 _,rfl,HBC.o,HM0.o,HT0.o,fun b e=>e.elim⟩
  case round =>
   obtain⟨k,E,rfl,hk,hmk,hbr,hmn,hmt,hE⟩:=hrel;have HMK:=Zh hmk;have HBR:=Zh hbr;have HM:=Zh hmn;have HT:=Zh hmt;have HE:=Zh hE;clear hmk hmn hmt hE
   by_cases hkN:k<N
   .obtain⟨r,hrk⟩:∃ r,l[k]?=some r:=⟨_,yey (by rw[HN.o];omega)⟩;obtain⟨hwf,h256⟩:=HOK.o r (yfh hrk);have hrd:=(HR.o.stays HB1.o).stays hbr;obtain⟨g,off,kv,rfl,hg,hcs,htr⟩:=hrd k r hrk;obtain⟨Ak,nk,ck,rfl⟩:=htr.form;have htk:(zad (l.take k)).length=k:=(by simp[zad];have:=HN.o;omega);have htb:((l.take k).map (·.2)).length=k:=(by simp;have:=HN.o;omega);obtain⟨s,x,hsx⟩:∃ s x,lay0 r.1=(s,x):=⟨_,_,rfl⟩;have hinv:LInv s:=(by have:=(zfc (xs:=[]) hwf).1;rw[hsx] at this;exact this);have hbd:=fun (W:World) (hb:Below wr.heap.size wr W)=>ycq hwf (htr.stays hb) h256
    rw[hsx] at hbd;unfold zsj zcu at hbd;simp only at hbd;obtain⟨z,hz⟩:∃ z,s.sets.length=z:=⟨_,rfl⟩;obtain⟨xe,hxe⟩:∃ xe,x.empty=xe:=⟨_,rfl⟩;rw[hz,hxe] at hbd;have hel:=fun (W:World) (C gm m1 c1 m2 c2 m3 c3:Nat) (A1 A2 A3:Option Addr) (h:NfaAt W C (.slice A1 m1 c1) (.slice A2 m2 c2) gm (.slice A3 m3 c3) s x)=>Elem.of_at h hinv
    rw[hz,hxe] at hel;obtain⟨t,bl⟩:=r;have r0:=hcs 0 _ rfl;have r1:=hcs 1 _ rfl;have r2:=hcs 2 _ rfl;have r3:=hcs 3 _ rfl;have r4:=hcs 4 _ rfl;have r5:=hcs 5 _ rfl;have r6:=hcs 6 _ rfl;have r7:=hcs 7 _ rfl;have r8:=hcs 8 _ rfl;simp only[yh1] at r0 r1 r2 r3 r4 r5 r6 r7 r8 hbd hwf h256 hsx;have hk1:(k:Int)<(N:Int):=yie;have hk0:(0:Int)<=(k:Int):=yie;have HBD:=Zh hbd;have HEL:=Zh hel;have HRK:=Zh hrk;have HSX:=Zh hsx;have HTK:=Zh htk;have HTB:=Zh htb;clear hcs hg htr hbd hel hrk hsx hz hxe hwf h256 hinv htk htb hrd hbr;go_upto_region 5 with fail
    generalize hw4:wr.alloc (.cells #[.int .i64 t.op,.int .u64 (word t.set 0),.int .u64 (word t.set 1),.int .u64 (word t.set 2),.int .u64 (word t.set 3),.int .i64 t.lo,.int .i64 t.hi,.slice Ak nk ck,.bool bl] 58)=w4;have hb4:Below wr.heap.size wr w4:=(by rw[←hw4];exact (yf6 _ _).alloc (yez _) _);have hr4:HasO w4 wr.heap.size (.cells #[.int .i64 t.op,.int .u64 (word t.set 0),.int .u64 (word t.set 1),.int .u64 (word t.set 2),.int .u64 (word t.set 3),.int .i64 t.lo,.int .i64 t.hi,.slice Ak nk ck,.bool bl] 58 (0,0)):=(by rw[←hw4];exact zav _ _ _ _ rfl);obtain⟨g4,hg4⟩:∃ g4,wr.heap.size=g4:=⟨_,rfl⟩;have q0:=cell_of_row w4 wr.heap.size 0 _ 58 (0,0) hr4;have q1:=cell_of_row w4 wr.heap.size 1 _ 58 (0,0) hr4;have q2:=cell_of_row w4 wr.heap.size 2 _ 58 (0,0) hr4;have q3:=cell_of_row w4 wr.heap.size 3 _ 58 (0,0) hr4;have q4:=cell_of_row w4 wr.heap.size 4 _ 58 (0,0) hr4;have q5:=cell_of_row w4 wr.heap.size 5 _ 58 (0,0) hr4;have q6:=cell_of_row w4 wr.heap.size 6 _ 58 (0,0) hr4;have q7:=cell_of_row w4 wr.heap.size 7 _ 58 (0,0) hr4;have q8:=cell_of_row w4 wr.heap.size 8 _ 58 (0,0) hr4;simp only[List.getElem?_toArray,List.getElem?_cons_succ,List.getElem?_cons_zero] at q0 q1 q2 q3 q4 q5 q6 q7 q8;rw[hg4] at q0 q1 q2 q3 q4 q5 q6 q7 q8 ⊢;have hbd4:=HBD.o w4 hb4;have HBD4:=Zh hbd4;have HB4:=Zh hb4;have HG4:=Zh hg4;have HR4:=Zh hr4;clear hw4 hr4 hb4 hg4 hbd4 r0 r1 r2 r3 r4 r5 r6 r7 r8;go_upto_region 6 with (first
     | (go_at_call 27;(with_reducible refine HBD4.o.mono ?_);rintro e w5 ⟨A1,m1,c1,A2,m2,c2,gm,A3,m3,c3,rfl,hn1,b1⟩;have HN5:=Zh (HEL.o _ _ _ _ _ _ _ _ _ _ _ _ hn1);have HB5:=Zh b1;clear hn1 b1))
    generalize hw6:w5.alloc (.cells #[.slice A1 m1 c1,.slice A2 m2 c2,.slice (some ⟨gm,0,none⟩) z z,.slice A3 m3 c3,.bool xe] 73)=w6;have hb6:Below w5.heap.size w5 w6:=(by rw[←hw6];exact (yf6 _ _).alloc (yez _) _);have hr6:HasO w6 w5.heap.size (.cells #[.slice A1 m1 c1,.slice A2 m2 c2,.slice (some ⟨gm,0,none⟩) z z,.slice A3 m3 c3,.bool xe] 73 (0,0)):=(by rw[←hw6];exact zav _ _ _ _ rfl);have hw:=gro HB4.o (gro HB5.o hb6);have hm6:=(HM.o.stays hw).wide (E':=fun b=>E b∨(w4.heap.size<=b∧b<w5.heap.size)) (fun b e => .inl e) (fun b e=>by
     have h1:=HM.o.lt.2;have h2:=HB4.o.size;rcases e with e|e
     .have h5:=HM.o.1 b e;have h6:=hw.size;exact⟨by omega,h5.2⟩
     .have:=hb6.size;exact⟨by omega,by omega⟩)
    have ht6:=HT.o.stays hw;have hd6:Below w6.heap.size w6 w6.drew:=(yf6 _ _).drew;have y0:=cell_of_row w6 w5.heap.size 0 _ 73 (0,0) hr6;have y1:=cell_of_row w6 w5.heap.size 1 _ 73 (0,0) hr6;have y2:=cell_of_row w6 w5.heap.size 2 _ 73 (0,0) hr6;have y3:=cell_of_row w6 w5.heap.size 3 _ 73 (0,0) hr6;have y4:=cell_of_row w6 w5.heap.size 4 _ 73 (0,0) hr6;simp only[List.getElem?_toArray,List.getElem?_cons_succ,List.getElem?_cons_zero] at y0 y1 y2 y3 y4;have hr4b:=((gro HB5.o hb6).block _ (za0 HR4.o)).trans HR4.o;have q8:=cell_of_row w6 _ 8 _ 58 (0,0) hr4b;have hgn:wr.heap.size≠gn:=(by have:=HM.o.lt.2;omega);have hlk:(zad (l.take k)).length<N:=(by rw[HTK.o];exact hkN);have hlb:((l.take k).map (·.2)).length<N:=(by rw[HTB.o];exact hkN);have hst:=(hm6.stays hd6).stoM hlk A1 A2 (some ⟨gm,0,none⟩) A3 m1 c1 m2 c2 z z m3 c3 xe;have hset:=MadeN.set (cv:=#[.slice A1 m1 c1,.slice A2 m2 c2,.slice (some ⟨gm,0,none⟩) z z,.slice A3 m3 c3,.bool xe]) (hm6.stays hd6) hlk (((HN5.o.keep hb6.size fun b e=>hb6.block b e.2).wide fun b e => .inr e).keep (yez _) fun b e=>rfl);have hto:=MadeT.off (k:=(zad (l.take k)).length*5) (v:=#[.slice A1 m1 c1,.slice A2 m2 c2,.slice (some ⟨gm,0,none⟩) z z,.slice A3 m3 c3,.bool xe]) (ht6.stays hd6) (Ne.symm HGT.o);have hr4c:=(zy8 (w:=w6.drew) (k:=(zad (l.take k)).length*5) (cv:=#[.slice A1 m1 c1,.slice A2 m2 c2,.slice (some ⟨gm,0,none⟩) z z,.slice A3 m3 c3,.bool xe]) hgn).trans hr4b;have q8c:=cell_of_row (stoM w6.drew (.pointer (some ⟨gn,(zad (l.take k)).length*5,none⟩)) (.agg #[.slice A1 m1 c1,.slice A2 m2 c2,.slice (some ⟨gm,0,none⟩) z z,.slice A3 m3 c3,.bool xe])) _ 8 _ 58 (0,0) hr4c;have hbs:Below w1.heap.size w1 (stoM w6.drew (.pointer (some ⟨gn,(zad (l.take k)).length*5,none⟩)) (.agg #[.slice A1 m1 c1,.slice A2 m2 c2,.slice (some ⟨gm,0,none⟩) z z,.slice A3 m3 c3,.bool xe])):=zqi (gro HBR.o hw).drew HM.o.lt.1;have hfin:=hset.off (gt:=gt) (k:=k) (v := .bool bl) HGT.o (fun b e=>by
     have h1:=HT.o.lt.2;have h2:=HB4.o.size;rcases e with e|e
     .exact HE.o b e
     .omega)
    obtain⟨ub,hub,hfb⟩:=hto.cell hlb;have htf:=hto.set hlb bl;simp only[List.getElem?_toArray,List.getElem?_cons_succ,List.getElem?_cons_zero] at q8 q8c;rw[HTK.o] at hst hset hto hub hfb q8c hbs htf hfin;rw[HTB.o] at hub hfb htf;rw[HG4.o] at q8 q8c;have HFIN:=Zh hfin;have HTF:=Zh htf;have HBS:=Zh (hbs.setCell (p:=⟨gt,k,none⟩) HT.o.lt.1 (.bool bl));clear hw6 hb6 hr6 hw hm6 ht6 hd6 hlk hlb hset hto hr4b hr4c hgn hbs htf hfin;go_upto_region 8 with fail
    go_region_law (fail)
    all_goals
     have hN64:(k:Int)<64:=(by have:=HL.o;omega);go_wp2;go_roundg (N-(k+1))
     case measure=>have:=HMK.o;omega
     case rel =>
      have et:l.take (k+1)=l.take k++[(t,bl)]:=(by rw[List.take_add_one,HRK.o];rfl);have el:zad (l.take (k+1))=zad (l.take k)++[(s,x)]:=(by rw[et];simp[zad,HSX.o]);have ec:(l.take (k+1)).map (·.2)=(l.take k).map (·.2)++[bl]:=(by rw[et];simp);refine⟨k+1,_,by go_num,by omega,rfl,HBS.o,by rw[el];exact HFIN.o,by rw[ec];exact HTF.o,fun b e e2=>?_⟩;have h1:=HT.o.lt.2;have h2:=HB4.o.size;rcases e with e|e
      .exact HE.o b e e2
      .omega
   .have hkl:k=N:=yie;subst hkl;have hall:l.take k=l:=yg0 (by rw[HN.o];exact yez _);have hll:(zad l).length=k:=(by rw[zd9];exact HN.o);have hbl:(l.map (·.2)).length=k:=(by rw[yfr];exact HN.o);have hmd:=HM.o;have htd:=HT.o;rw[hall] at hmd htd;have hrd:=hmd.rd hll;have hro:=ya4 (htd.own hbl);have hLk:∀ s x,(s,x)∈zad l->zfl s x:=fun s x hm=>by
     unfold zad at hm;obtain⟨r,hr,e⟩:=yg6.1 hm;have:=zwd (HOK.o r hr).1 (HOK.o r hr).2;rw[e] at this;exact this
    have hl64:=HL.o;have hMB:=zz3 (ca:=k) (cb:=k) (lam:=lam) (most:=most) hrd hro hlam hmost hLk yie yie;unfold yd4 at hMB;rw[hll,hbl] at hMB;have hbw:=gro HB1.o HBR.o;have hxr:=HX1.o.stays HBR.o;have HBW:=Zh hbw;have HXR:=Zh hxr;have HLK:=Zh hLk;have HLL:=Zh hll;obtain⟨gb,hgb⟩:∃ gb,w.heap.size=gb:=⟨_,rfl⟩;rw[hgb] at HXR;have HGB:=Zh hgb;rw[hgb];clear hmd htd hrd hro hLk hbw hxr hall hbl hll hgb HM HT HE HM0 HT0 HNT HR HOK hl64 HMN HMT HX1 HW1
    by_cases hbad:lam<1∨32<lam∨most<1∨1000<most
    .have HMB:=Zh (hMB.mono fun e w' h=>by rw[if_pos (.inr hbad)] at h;exact h);have HBAD:=Zh hbad;clear hMB hbad;unfold errV at HMB;go_wp2_with (first
      | (go_at_call 8;(with_reducible refine HMB.o.mono ?_);rintro e w5 ⟨b5,rfl⟩;have HB5:=Zh (gro HBW.o b5);have HX5:=Zh (HXR.o.stays b5);clear b5)
      | (refine zag yik _ _ yik yik yik Tryd.sizeMM rfl rfl (BoxM.new w5 38 (fun _=>0) 0 (.slice none 0 0) (.slice none 0 0)) ?_;intro hbx;have hb6:Below w5.heap.size w5 ((w5.alloc (.cells zbm 38)).setRow w5.heap.size (zaf (fun _=>0) 0 (.slice none 0 0) (.slice none 0 0))):=below_setRow ((yf6 _ _).alloc (yez _) _) (yez _) _;have HX6:=Zh (HX5.o.stays hb6);have HB6:=Zh (gro HB5.o hb6);clear hbx hb6;go_simp)
      | (refine zag yik _ _ yik yik yik Tryd.sizeMM rfl rfl HX6.o ?_;intro hbx;have HX7:=Zh hbx;clear hbx;go_simp)
      | fail)
     refine bodyPost_ret (v := .tuple #[.agg zbm,errV 1]) (zc8 Tryd.results12 rfl rfl Tryd.underlying38 rfl Tryd.sizeMM HX7.o) rfl ⟨?_,?_⟩
     .exact below_setRow HB6.o (by have:=HGB.o;omega) _
     .rw[if_pos HBAD.o]
    .obtain⟨ln,rfl⟩:∃ k:Nat,lam=(k:Int):=⟨lam.toNat,by omega⟩;obtain⟨mn,rfl⟩:∃ k:Nat,most=(k:Int):=⟨most.toNat,by omega⟩;rw[yft,yft] at hMB;obtain⟨Ls,hLs⟩:∃ Ls,zad l=Ls:=⟨_,rfl⟩;obtain⟨bs,hbs⟩:∃ bs,l.map (·.2)=bs:=⟨_,rfl⟩;have HLS:=Zh hLs;have HBSS:=Zh hbs;rw[hLs] at HLK HLL;rw[hLs,hbs] at hMB;have hval:zn9 (RR Ls bs ln):=zno HLK.o (by have:=HLL.o;have:=HL.o;omega) yie;have HBAD:=Zh hbad;cases hT:zct Ls bs ln mn with
     | none =>
      have HMB:=Zh (hMB.mono fun e w' h=>by rw[if_neg yie,hT] at h;exact h);unfold zqj at HMB;simp only at HMB;have HTT:=Zh hT;clear hMB hbad hval hT hLs hbs;unfold errV at HMB;go_wp2_with (first
       | (go_at_call 8;(with_reducible refine HMB.o.mono ?_);rintro e w5 ⟨b5,rfl⟩;have HB5:=Zh (gro HBW.o b5);have HX5:=Zh (HXR.o.stays b5);clear b5)
       | (refine zag yik _ _ yik yik yik Tryd.sizeMM rfl rfl (BoxM.new w5 38 (fun _=>0) 0 (.slice none 0 0) (.slice none 0 0)) ?_;intro hbx;have hb6:Below w5.heap.size w5 ((w5.alloc (.cells zbm 38)).setRow w5.heap.size (zaf (fun _=>0) 0 (.slice none 0 0) (.slice none 0 0))):=below_setRow ((yf6 _ _).alloc (yez _) _) (yez _) _;have HX6:=Zh (HX5.o.stays hb6);have HB6:=Zh (gro HB5.o hb6);clear hbx hb6;go_simp)
       | (refine zag yik _ _ yik yik yik Tryd.sizeMM rfl rfl HX6.o ?_;intro hbx;have HX7:=Zh hbx;clear hbx;go_simp)
       | fail)
      refine bodyPost_ret (v := .tuple #[.agg zbm,errV 11]) (zc8 Tryd.results12 rfl rfl Tryd.underlying38 rfl Tryd.sizeMM HX7.o) rfl ⟨?_,?_⟩
      .exact below_setRow HB6.o (by have:=HGB.o;omega) _
      .rw[if_neg HBAD.o,yft,yft,HLS.o,HBSS.o,HTT.o];rfl
     | some v =>
      obtain⟨ss,rows⟩:=v;obtain⟨hok,hr1,hr2⟩:=zpn yie hT;have hoo:=zup hval hT;have hMB2:=hMB.mono fun e w' h=>by rw[if_neg yie,hT] at h;exact h
      unfold zqj at hMB2;simp only at hMB2;have hK6:zef Ls bs<=256:=zgj _ _;have HRT:Hid (∀ (e:Ending) (w':World),Below w.heap.size w w'->zkc w Ls bs ln (some (ss,rows)) e w'->zlr w l (ln:Int) (mn:Int) e w'):=Zh fun e w' hb h=>⟨hb,by rw[if_neg hbad,yft,yft,hLs,hbs,hT];exact h⟩
      unfold zkc at HRT;simp only at HRT;generalize zew Ls bs=F at *;generalize zef Ls bs=K at *;generalize (ss.map fun s=>zbb (RR Ls bs ln) s (0,0))=outs at *;have HMB:=Zh hMB2;obtain⟨rn,hrn⟩:∃ m,rows.length=m:=⟨_,rfl⟩;obtain⟨on,hon⟩:∃ m,outs.length=m:=⟨_,rfl⟩;have h0:0<rn:=(by rw[←hrn];exact hok.some);have hon':outs.length=rn:=(by rw[hok.out,hrn]);have hrow:∀ (i:Nat) r,rows[i]?=some r->r.length=K∧∀ x∈r,x<rn:=fun i r e=>by rw[←hrn];exact hok.row i r e
      have hNC:rn*K<=1000000:=yfa (yi4 (show rn<=1000 by omega) hK6) yij;have HLE:=Zh (fun (W:World) (B B':Nat) (O O':Nat->Prop) (vN vO:Value) (hN:Nxt W B O vN rows) (hO:Ots W B' O' vO outs)=>ybz (F:=F) hN hO hrn hon' h0 hoo hrow hNC yie yie);rw[hrn] at HRT;have HRN:=Zh hrn;have HON:=Zh hon;clear hMB hMB2 hok hT hr1 hr2 hbad hrn hon h0 hon' hrow hNC hoo hK6 hval hLs hbs;go_upto_region 13 with (first
       | (go_at_call 8;(with_reducible refine HMB.o.mono ?_);rintro e w5 ⟨b5,vN,vO,O,rfl,hn5,ho5⟩;obtain⟨AN,cN,hfN⟩:=hn5.form;obtain⟨AO,cO,hfO⟩:=ho5.form;rw[HRN.o] at hfN;rw[HON.o] at hfO;subst hfN hfO;have HB5:=Zh (gro HBW.o b5);have HX5:=Zh (HXR.o.stays b5);have HN5:=Zh hn5;have HO5:=Zh ho5;clear b5 hn5 ho5)
       | (refine zag yik _ _ yik yik yik Tryd.sizeMM rfl rfl (BoxM.new w5 38 (fun _=>0) 0 (.slice none 0 0) (.slice none 0 0)) ?_;intro hbx;have HX6:=Zh hbx;clear hbx;go_simp)
       | fail)
      have hb6:Below w5.heap.size w5 ((w5.alloc (.cells zbm 38)).setRow w5.heap.size (zaf F K (.slice AN rn cN) (.slice AO on cO))):=below_setRow ((yf6 _ _).alloc (yez _) _) (yez _) _;have hx6:=HX6.o;change BoxM ((w5.alloc (.cells zbm 38)).setRow w5.heap.size (zaf F K (.slice AN rn cN) (.slice AO on cO))) _ _ _ _ _ _ at hx6;generalize (w5.alloc (.cells zbm 38)).setRow w5.heap.size (zaf F K (.slice AN rn cN) (.slice AO on cO))=w6 at *;have hn6:=HN5.o.kept (Kept.of_below (fun _=>False) hb6) fun b e e'=>e'
      have ho6:=HO5.o.kept (Kept.of_below (fun _=>False) hb6) fun b e e'=>e'
      have HY6:=Zh hx6;have HXG:=Zh (HX5.o.stays hb6);have HB6:=Zh (gro HB5.o hb6);have HL6:=Zh (HLE.o _ _ _ _ _ _ _ hn6 ho6);clear hx6 hb6 HX6 HX5 HN5 HO5 HMB HLE hn6 ho6;go_wp2_with (first
       | (refine zcs yik _ yik yik Tryd.underlying38 rfl Tryd.sizeMM HY6.o ?_;go_simp)
       | (go_at_call 28;(with_reducible refine HL6.o.mono ?_);rintro e w7 ⟨q,uN,uO,U,fs,rows',rfl,hq,hls,hn7,ho7,b7⟩;obtain⟨EN,dN,e1⟩:=hn7.form;obtain⟨EO,dO,e2⟩:=ho7.form;subst e1 e2;have HB7:=Zh (gro HB6.o b7);have HX7:=Zh (HXG.o.stays b7);have HQ:=Zh hq;have HLSS:=Zh hls;have HN7:=Zh hn7;have HO7:=Zh ho7;have HW6:=Zh HB6.o.size;clear hq hls hn7 ho7 b7)
       | (refine zag yik _ _ yik yik yik Tryd.sizeMM rfl rfl HX7.o ?_;intro hbx;have HX8:=Zh hbx;clear hbx;go_simp)
       | fail)
      refine bodyPost_ret (v := .tuple #[.agg (zaf F K (.slice EN rows'.length dN) (.slice EO fs.length dO)),.nilIface]) (zc8 Tryd.results12 rfl rfl Tryd.underlying38 rfl Tryd.sizeMM HX8.o) rfl (HRT.o _ _ ?_ ?_)
      .exact below_setRow HB7.o (by have:=HGB.o;omega) _
      .have hg6:gb<w6.heap.size:=HXG.o.lt;have hkp:=zet (Kept.refl (fun b=>b=gb) w7) (.inl rfl) (zaf F K (.slice EN rows'.length dN) (.slice EO fs.length dO));have ho8:=(ydl HO7.o).kept hkp (fun b e e'=>by omega);rw[yfr] at ho8;exact⟨q,w6.heap.size,_,_,_,fs,rows',rfl,HW6.o,HQ.o,HLSS.o,(ydm HN7.o).kept hkp (fun b e e'=>by omega),ho8⟩
end
section
open Go
def stW (L:List (Lay×Str)) (lam:Nat) (xs:List Int):Nat->List Wd
 | 0=>[]
 | i+1=>zki L lam (xs.getD i 0).toNat (stW L lam xs i)
section
variable {L:List (Lay×Str)} {lam:Nat} {xs:List Int}
theorem ycf {S φ:Nat->Nat->Prop} {F:Nat->Prop} {i p j:Nat} (h:Goes S φ F i p j):i<j:=by
 induction h with
 | start p h hs=>omega
 | step q p j h hf hs ih=>omega
theorem zzs {S φ:Nat->Nat->Prop} {F:Nat->Prop} {i p j:Nat}:Goes S φ F i p (j+1)↔S p j∧((i=j∧F p)∨∃ q,Goes S φ F i q j∧φ q p):=by
 constructor
 .intro h;cases h with
  | start p h hs=>exact⟨hs,.inl ⟨rfl,h⟩⟩
  | step q p j h hf hs=>exact⟨hs,.inr ⟨q,h,hf⟩⟩
 .rintro⟨hs,⟨rfl,h⟩|⟨q,h,hf⟩⟩
  .exact .start p h hs
  .exact .step q p j h hf hs
theorem zm4 (hlam:1<=lam) (y:Wd):∀ i,i<=xs.length->(y∈stW L lam xs i↔y.rule<L.length∧1<=y.age∧y.age<=lam∧y.age<=i∧Goes (eats xs (L.getD y.rule lx0).1) (fol (L.getD y.rule lx0).1) (· ∈ (L.getD y.rule lx0).2.first) (i-y.age) y.place i)
 | 0,_=>by
  simp only[stW,yfk,false_iff];rintro⟨_,h1,_,h2,_⟩;omega
 | i+1,hi=>by
  rw[stW,zdi,zzs];constructor
  .rintro⟨h1,h2,h3⟩;rcases h3 with ⟨ha,hp⟩|⟨x,hx,e1,e2,e3,e4⟩
   .exact⟨h1,by omega,by omega,by omega,⟨by omega,h2⟩,.inl ⟨by omega,hp⟩⟩
   .obtain⟨_,f1,f2,f3,f4⟩:=(zm4 hlam x i yie).1 hx;rw[e1] at f4;refine⟨h1,by omega,by omega,by omega,⟨by omega,h2⟩,.inr ⟨x.place,?_,e4⟩⟩;rw[show i+1-y.age=i-x.age by omega];exact f4
  .rintro⟨h1,h2,h3,h4,⟨_,h5⟩,h6⟩;refine⟨h1,h5,?_⟩;rcases h6 with ⟨e,hp⟩|⟨q,hq,hf⟩
   .exact .inl ⟨by omega,hp⟩
   .have hlt:=ycf hq;refine .inr ⟨⟨y.rule,q,y.age-1⟩,(zm4 hlam _ i yie).2 ⟨h1,?_,?_,?_,?_⟩,rfl,?_,?_,hf⟩
    all_goals simp only
    .omega
    .omega
    .omega
    .rw[show i-(y.age-1)=i+1-y.age by omega];exact hq
    .omega
    .omega
theorem zqv (hL:∀ s x,(s,x)∈L->zfl s x) (hN:∀ s x,(s,x)∈L->x.first.Nodup) (hlam:1<=lam):∀ i,GoodD L lam (stW L lam xs i)
 | 0=>GoodD.nil _ _
 | i+1=>GoodD.step hL hN hlam _ _
end
def zid (R:List (T×Bool)) (c:Bool) (xs:List Int) (l:Nat):Prop:=∃ r∈R,r.2=c∧E xs r.1 (xs.length-l) xs.length
theorem zrj {R:List (T×Bool)} {r:Nat} (h:r<R.length):(zad R).getD r lx0=lay0 (R[r]'h).1:=by
 rw[yf0,yey (by rw[zd9];exact h)];simp[zad]
theorem zss {R:List (T×Bool)} (hf:Few R) {lam:Nat} (hlam:1<=lam) {xs:List Int} (l:Nat):
 ((zj0 (zad R) (R.map (·.2)) (stW (zad R) lam xs xs.length) (0,0)).1.testBit l=true↔1<=l∧l<=lam∧l<=xs.length∧zid R false xs l)∧
 ((zj0 (zad R) (R.map (·.2)) (stW (zad R) lam xs xs.length) (0,0)).2.testBit l=true↔1<=l∧l<=lam∧l<=xs.length∧zid R true xs l):=by
 have key:∀ c:Bool,(∃ x∈stW (zad R) lam xs xs.length,∃ y t b,(zad R)[x.rule]?=some (y,t)∧(R.map (·.2))[x.rule]?=some b∧t.last.contains x.place=true∧b=c∧x.age=l)↔1<=l∧l<=lam∧l<=xs.length∧zid R c xs l:=by
  intro c;constructor
  .rintro⟨x,hx,y,t,b,e1,e2,e3,rfl,rfl⟩;obtain⟨h1,h2,h3,h4,h5⟩:=(zm4 hlam x xs.length (yez _)).1 hx;rw[zd9] at h1;have hg:=getD_some e1;rw[hg] at h5;rw[zrj h1] at hg;have hm:R[x.rule]'h1∈R:=yfq _;have hgood:=(zfc (xs:=xs) (hf.ok _ hm).1).2.has (xs.length-x.age) xs.length;rw[hg] at hgood;refine⟨h2,h3,h4,R[x.rule]'h1,hm,?_,hgood.1 (.inr ⟨x.place,by simpa using e3,h5⟩)⟩;rw[yfs,yey h1] at e2;exact yia e2
  .rintro⟨h2,h3,h4,r,hr,rfl,hE⟩;obtain⟨i,hi,rfl⟩:=yi9 hr;have hgood:=(zfc (xs:=xs) (hf.ok _ hr).1).2.has (xs.length-l) xs.length;rcases hgood.2 hE with ⟨_,h0⟩|⟨p,hp,hg⟩
   .omega
   .have hl:=zrj hi;have hL:(zad R)[i]?=some ((lay0 (R[i]'hi).1).1,(lay0 (R[i]'hi).1).2):=by
     rw[zf3 (by rw[zd9];exact hi),hl]
    refine⟨⟨i,p,l⟩,(zm4 hlam _ xs.length (yez _)).2 ⟨by rw[zd9];exact hi,h2,h3,h4,?_⟩,_,_,_,hL,by rw[yfs,yey hi];rfl,by simpa using hp,rfl,rfl⟩;simp only;rw[hl];exact hg
 obtain⟨t1,t2⟩:=zik (zad R) (R.map (·.2)) l (stW (zad R) lam xs xs.length) (0,0);simp only[Nat.zero_testBit,ygy,false_or] at t1 t2;exact⟨t1.trans (key false),t2.trans (key true)⟩
theorem znw (F:Nat->Nat) (rows:List (List Nat)) (b:Int):∀ (u:List Int) (s:Nat),runN F rows (u++[b]) s=(rows.getD (runN F rows u s) []).getD (F b.toNat) 0
 | [],s=>rfl
 | x::u,s=>by
  show runN F rows (u++[b]) _=(rows.getD (runN F rows u _) []).getD (F b.toNat) 0
  exact znw F rows b u _
theorem zuu {L:List (Lay×Str)} {bs:List Bool} {lam most:Nat} (hL:∀ s x,(s,x)∈L->zfl s x) (hN:∀ s x,(s,x)∈L->x.first.Nodup) (hlam:1<=lam) (hm:1<=most) {ss:List Sta} {rows:List (List Nat)} (h:zct L bs lam most=some (ss,rows)) {xs:List Int} (hx:∀ k,k<xs.length->0<=xs.getD k 0∧xs.getD k 0<=255):
 ∀ i,i<=xs.length->ss[runN (zew L bs) rows (xs.take i) 0]?=some (canon L bs (stW L lam xs i)):=by
 unfold zct at h;obtain⟨h1,h2,z,h3⟩:=zhf h yie (yf8 _) yil ⟨by simp,rfl,fun j hj=>by omega⟩;intro i;induction i with
 | zero =>
  intro _
  show ss[0]?=some (canon L bs [])
  rw[zxd,h3];rfl
 | succ i ih =>
  intro hi;have hi':i<xs.length:=yie;have hb:=hx i hi';have ht:xs.take (i+1)=xs.take i++[xs.getD i 0]:=by
   rw[yfg hi'];simp[hi']
  have ih1:=ih yie;rw[ht,znw];obtain⟨j,hj⟩:∃ j,runN (zew L bs) rows (xs.take i) 0=j:=⟨_,rfl⟩;rw[hj] at ih1 ⊢;have hjl:j<ss.length:=(yf4.1 ih1).1;obtain⟨s,row,e1,e2,e3,e4⟩:=h1.row j hjl;rw[ih1] at e1;have e1:=yia e1;have hF:zew L bs=numK (keyL (zur L L.length)):=(by rw[←zlw L bs];rfl);have hlt:zew L bs (xs.getD i 0).toNat<zef L bs:=zd7 _ yie;obtain⟨e5,e6⟩:=e4 _ hlt;have hst:=zsw (bs:=bs) (lam:=lam) hL hF (zqv (xs:=xs) hL hN hlam i) (b:=(xs.getD i 0).toNat) yie rfl;rw[←e1,←hst] at e5 e6;rw[yf0 (l:=rows),e2]
  show ss[(row.getD _ 0)]?=_
  rw[yf0 (l:=row),e6];exact zq1 e5
theorem zut {R:List (T×Bool)} (hf:Few R) {lam most:Nat} (hlam:1<=lam) (hm:1<=most) {ss:List Sta} {rows:List (List Nat)} (h:zct (zad R) (R.map (·.2)) lam most=some (ss,rows)) {xs:List Int} (hx:∀ k,k<xs.length->0<=xs.getD k 0∧xs.getD k 0<=255) (l:Nat):
 ((((ss.map fun s=>zbb (RR (zad R) (R.map (·.2)) lam) s (0,0)).getD (runN (zew (zad R) (R.map (·.2))) rows xs 0) (0,0)).1.testBit l=true↔1<=l∧l<=lam∧l<=xs.length∧zid R false xs l))∧
 ((((ss.map fun s=>zbb (RR (zad R) (R.map (·.2)) lam) s (0,0)).getD (runN (zew (zad R) (R.map (·.2))) rows xs 0) (0,0)).2.testBit l=true↔1<=l∧l<=lam∧l<=xs.length∧zid R true xs l)):=by
 have h1:=zuu hf.lay hf.nodup hlam hm h hx xs.length (yez _);rw[yg0 (yez _)] at h1;have hg:=zqv (xs:=xs) hf.lay hf.nodup hlam xs.length;have hlen:(R.map (·.2)).length=(zad R).length:=(by rw[zd9,yfr]);have h2:(ss.map fun s=>zbb (RR (zad R) (R.map (·.2)) lam) s (0,0)).getD (runN (zew (zad R) (R.map (·.2))) rows xs 0) (0,0)=zj0 (zad R) (R.map (·.2)) (stW (zad R) lam xs xs.length) (0,0):=by
  rw[yf0,yfs,h1];exact zvc hlen hg.ok
 rw[h2];exact zss hf hlam l
end
section
open Go
noncomputable def zgh (R:List (T×Bool)) (c:Bool) (xs:List Int) (k i:Nat):Bool := @decide (∃ r∈R.take i,r.2=c∧E xs r.1 (xs.length-k) xs.length) (Classical.propDecidable _)
theorem endsB_iff {R:List (T×Bool)} {c:Bool} {xs:List Int} {k i:Nat}:zgh R c xs k i=true↔∃ r∈R.take i,r.2=c∧E xs r.1 (xs.length-k) xs.length:=by
 unfold zgh;exact @decide_eq_true_iff _ (Classical.propDecidable _)
theorem zlc (R:List (T×Bool)) (c:Bool) (xs:List Int) (k:Nat):zgh R c xs k 0=false:=by
 cases h:zgh R c xs k 0
 .rfl
 .obtain⟨r,hr,_⟩:=endsB_iff.1 h;simp at hr
theorem zld {R:List (T×Bool)} {c:Bool} {xs:List Int} {k i:Nat} {r:T×Bool} (h:R[i]?=some r) {b:Bool} (hb:b=true↔E xs r.1 (xs.length-k) xs.length):
 zgh R c xs k (i+1)=(zgh R c xs k i||(b&&(r.2==c))):=by
 obtain⟨hi,e⟩:=yf4.1 h;have ht:R.take (i+1)=R.take i++[r]:=(by rw[yfg hi,e]);have key:(∃ x∈R.take i++[r],x.2=c∧E xs x.1 (xs.length-k) xs.length)↔(∃ x∈R.take i,x.2=c∧E xs x.1 (xs.length-k) xs.length)∨(b=true∧r.2=c):=by
  constructor
  .rintro⟨x,hx,h1,h2⟩;rcases yfm.1 hx with hx|hx
   .exact .inl ⟨x,hx,h1,h2⟩
   .rw[yfn] at hx;subst hx;exact .inr ⟨hb.2 h2,h1⟩
  .rintro (⟨x,hx,h1,h2⟩|⟨h1,h2⟩)
   .exact⟨x,yfm.2 (.inl hx),h1,h2⟩
   .exact⟨r,yfm.2 (.inr (yfn.2 rfl)),h2,hb.1 h1⟩
 rw[ygc,endsB_iff,ht,key,yh6,endsB_iff,yh2,beq_iff_eq]
theorem zx0 {R:List (T×Bool)} {c:Bool} {xs:List Int} {k:Nat}:zgh R c xs k R.length=true↔zid R c xs k:=by
 unfold zid;rw[endsB_iff,yfy]
theorem yej {t:T} (h:WF t) (xs:List Int) (k:Nat) (hk:k<=xs.length):E (xs.drop (xs.length-k)) t 0 (xs.drop (xs.length-k)).length↔E xs t (xs.length-k) xs.length:=by
 have e:=yd8 (xs.take (xs.length-k)) (xs.drop (xs.length-k)) h;rw[yhj,yg8,List.length_drop,Nat.min_eq_left (Nat.sub_le _ _),show xs.length-k+(xs.length-(xs.length-k))=xs.length by omega] at e;rw[List.length_drop];exact e.symm
noncomputable def zig (R:List (T×Bool)) (lam:Int) (c:Bool) (xs:List Int) (k:Nat):Bool:=decide (1<=k∧(k:Int)<=lam∧k<=xs.length)&&zgh R c xs k R.length
theorem wantB_iff {R:List (T×Bool)} {lam:Int} {c:Bool} {xs:List Int} {k:Nat}:zig R lam c xs k=true↔1<=k∧(k:Int)<=lam∧k<=xs.length∧zid R c xs k:=by
 unfold zig;rw[yh2,decide_eq_true_iff,zx0];constructor
 .rintro⟨⟨a,b,d⟩,e⟩;exact⟨a,b,d,e⟩
 .rintro⟨a,b,d,e⟩;exact⟨⟨a,b,d⟩,e⟩
theorem zit (m k:Nat):(((m:Int) / 2 ^ k).tmod 2==1)=m.testBit k:=by
 rw[yh3];have e:(m:Int) / 2 ^ k=((m / 2 ^ k:Nat):Int):=yii;rw[e];generalize m / 2 ^ k=q;rw[yi0 yie,ygc,beq_iff_eq,decide_eq_true_iff];omega
end
theorem zhy {κ nx:Nat->Nat}:∀ (k c:Nat) (fs row fs' row':List Nat),zcw κ nx k c fs row=(fs',row')->row.length=c->(∃ z,fs'=fs++z)∧(∃ z,row'=row++z)∧∀ d,c<=d->d<c+k->row'.getD d 0<fs'.length∧κ (fs'.getD (row'.getD d 0) 0)=κ (nx d)
 | 0,c,fs,row,fs',row',h,hl=>by
  rw[zcw] at h;injection h with h1 h2
  subst h1 h2;exact⟨⟨[],by simp⟩,⟨[],by simp⟩,fun d h1 h2=>by omega⟩
 | k+1,c,fs,row,fs',row',h,hl=>by
  rw[zcw] at h;split at h
  .rename_i hm;obtain⟨⟨z,hz⟩,⟨y,hy⟩,h3⟩:=zhy k (c+1) _ _ _ _ h (by rw[yfd,ygd,hl]);refine⟨⟨z,hz⟩,⟨idxM (fs.map κ) (κ (nx c))::y,by rw[hy,yfl];rfl⟩,fun d h1 h2=>?_⟩
   by_cases e:d=c
   .subst e;have hg:row'.getD d 0=idxM (fs.map κ) (κ (nx d)):=by
     rw[hy,yf0,yfl,yfc yie,hl,ygf];rfl
    have hi:=zq2 hm;rw[yfr] at hi;rw[hg];refine⟨by rw[hz,yfd];omega,?_⟩;have:=zq1 hm;rw[yfs,Option.map_eq_some_iff] at this;obtain⟨s,hs,e⟩:=this;rw[hz,yf0,yfb hi,hs];exact e
   .exact h3 d yie yie
  .rename_i hm;obtain⟨⟨z,hz⟩,⟨y,hy⟩,h3⟩:=zhy k (c+1) _ _ _ _ h (by rw[yfd,ygd,hl]);refine⟨⟨nx c::z,by rw[hz,yfl];rfl⟩,⟨fs.length::y,by rw[hy,yfl];rfl⟩,fun d h1 h2=>?_⟩
   by_cases e:d=c
   .subst e;have hg:row'.getD d 0=fs.length:=by
     rw[hy,yf0,yfl,yfc yie,hl,ygf];rfl
    rw[hg];refine⟨by rw[hz,yfd,yfd,ygd];omega,?_⟩;rw[hz,yf0,yfl,yfc (yez _),ygf];rfl
   .exact h3 d yie yie
theorem zl5 {κ:Nat->Nat} {δ:Nat->Nat->Nat} {C N:Nat} (hδ:∀ s c,s<N->c<C->δ s c<N):∀ (fu i:Nat) (fs:List Nat) (rows:List (List Nat)) (fs':List Nat) (rows':List (List Nat)),zf9 κ δ C fu i fs rows=(fs',rows')->Met κ N fs->rows.length=i->i<=fs.length->N<fu+i->
 (∃ z,fs'=fs++z)∧(∃ z,rows'=rows++z)∧∀ j,i<=j->j<fs'.length->∀ d,d<C->dl rows' j d<fs'.length∧κ (fs'.getD (dl rows' j d) 0)=κ (δ (fs'.getD j 0) d)
 | 0,i,fs,rows,fs',rows',h,hm,hr,hi,hf=>by
  have:=hm.few7;omega
 | fu+1,i,fs,rows,fs',rows',h,hm,hr,hi,hf=>by
  rw[zf9] at h;split at h
  .rename_i hs;injection h with h1 h2
   subst h1 h2;rw[yi3] at hs;exact⟨⟨[],by simp⟩,⟨[],by simp⟩,fun j h1 h2=>by omega⟩
  .rename_i s hs;have hsN:=hm.lt s (yfh hs);have hil:=(yf4.1 hs).1;obtain⟨fs1,row1,h1⟩:∃ a b,zcw κ (δ s) C 0 fs []=(a,b):=⟨_,_,rfl⟩;have hm':=zgw (κ:=κ) (nx:=δ s) C 0 fs [] (fun d hd=>hδ s d hsN yie) hm;obtain⟨⟨z1,hz1⟩,⟨y1,hy1⟩,h3⟩:=zhy C 0 fs [] fs1 row1 h1 rfl;rw[h1] at hm' h;simp only at hm' h;obtain⟨⟨z2,hz2⟩,⟨y2,hy2⟩,h4⟩:=zl5 hδ fu (i+1) _ _ _ _ h hm' (by rw[yfd,ygd];omega) (by rw[hz1,yfd];omega) yie;refine⟨⟨z1++z2,by rw[hz2,hz1,yfl]⟩,⟨row1::y2,by rw[hy2,yfl];rfl⟩,fun j j1 j2 d hd=>?_⟩
   by_cases e:j=i
   .subst e;have e1:dl rows' j d=row1.getD d 0:=by
     unfold dl;have:rows'.getD j []=row1:=by
      rw[hy2,yf0,yfl,yfc yie,hr,ygf];rfl
     rw[this]
    have e2:fs'.getD j 0=s:=by
     rw[hz2,hz1,yfl,yf0,yfb hil,hs];rfl
    obtain⟨g1,g2⟩:=h3 d (yf8 _) yie;rw[e1,e2];refine⟨by rw[hz2,yfd];omega,?_⟩;rw[←g2,hz2,yf0,yfb g1,←yf0]
   .exact h4 j yie j2 d hd
section
structure Lst (κ:Nat->Nat) (rows:List (List Nat)) (outs:List (Nat×Nat)) (N C:Nat) (fs:List Nat) (rows':List (List Nat)):Prop where
 hδ:∀ s c,s<N->c<C->dl rows s c<N
 key:∀ s t,s<N->t<N->(κ s=κ t↔Alk (dl rows) (fun s=>outs[s]?) N C s t)
 all:zf9 κ (dl rows) C (N+1) 0 [0] []=(fs,rows')
 nz:0<N
 out:outs.length=N
section
variable {κ:Nat->Nat} {rows rows':List (List Nat)} {outs:List (Nat×Nat)} {N C:Nat} {fs:List Nat}
def zhu (outs:List (Nat×Nat)) (fs:List Nat):List (Nat×Nat):=fs.map fun s=>outs.getD s (0,0)
theorem Lst.met (h:Lst κ rows outs N C fs rows'):Met κ N fs:=(zdp h.hδ h.nz h.all).1
theorem Lst.len (h:Lst κ rows outs N C fs rows'):rows'.length=fs.length:=(zdp h.hδ h.nz h.all).2.1
theorem Lst.wide (h:Lst κ rows outs N C fs rows'):∀ r∈rows',r.length=C:=(zdp h.hδ h.nz h.all).2.2.1
theorem Lst.few (h:Lst κ rows outs N C fs rows'):fs.length<=N:=(zdp h.hδ h.nz h.all).2.2.2
theorem Lst.outLen (h:Lst κ rows outs N C fs rows'):(zhu outs fs).length=fs.length:=by rw[zhu,yfr]
theorem Lst.links (h:Lst κ rows outs N C fs rows'):(∃ z,fs=[0]++z)∧∀ j,j<fs.length->∀ d,d<C->dl rows' j d<fs.length∧κ (fs.getD (dl rows' j d) 0)=κ (dl rows (fs.getD j 0) d):=by
 obtain⟨h1,_,h3⟩:=zl5 h.hδ _ _ _ _ _ _ h.all (zjf κ h.nz) rfl yii yie;exact⟨h1,fun j hj=>h3 j (yf8 _) hj⟩
theorem Lst.pos (h:Lst κ rows outs N C fs rows'):0<fs.length:=by
 obtain⟨z,hz⟩:=h.links.1;rw[hz,yfd,ygd];omega
theorem Lst.first (h:Lst κ rows outs N C fs rows'):fs.getD 0 0=0:=by
 obtain⟨z,hz⟩:=h.links.1;rw[hz];rfl
theorem Lst.at (h:Lst κ rows outs N C fs rows') {i:Nat} (hi:i<fs.length):fs.getD i 0<N:=by
 rw[yf0,yey hi];exact h.met.lt _ (yfq _)
theorem Lst.step (h:Lst κ rows outs N C fs rows') {s t c:Nat} (hs:s<N) (ht:t<N) (hc:c<C) (e:κ s=κ t):κ (dl rows s c)=κ (dl rows t c):=by
 have:=(zp8 (o:=fun s=>outs[s]?) h.hδ).1 s t c hc ((h.key s t hs ht).1 e);exact (h.key _ _ (h.hδ s c hs hc) (h.hδ t c ht hc)).2 this
theorem Lst.tell (h:Lst κ rows outs N C fs rows') {s t:Nat} (hs:s<N) (ht:t<N) (e:κ s=κ t):outs[s]?=outs[t]?:=((h.key s t hs ht).1 e).2.2 [] yii
theorem Lst.go (h:Lst κ rows outs N C fs rows'):∀ (w:List Nat) (i s:Nat),(∀ c∈w,c<C)->i<fs.length->s<N->κ (fs.getD i 0)=κ s->goW (dl rows') w i<fs.length∧goW (dl rows) w s<N∧κ (fs.getD (goW (dl rows') w i) 0)=κ (goW (dl rows) w s)
 | [],i,s,hw,hi,hs,e=>⟨hi,hs,e⟩
 | c::w,i,s,hw,hi,hs,e=>by
  have hc:=hw c yii;obtain⟨h1,h2⟩:=h.links.2 i hi c hc;exact h.go w _ _ (fun d hd=>hw d (by simp[hd])) h1 (h.hδ s c hs hc) (h2.trans (h.step (h.at hi) hs hc e))
theorem zyt {outs:List (Nat×Nat)} {fs:List Nat} {i:Nat} (hi:i<fs.length) (hs:fs.getD i 0<outs.length):(zhu outs fs)[i]?=outs[fs.getD i 0]?:=by
 have e:fs.getD i 0=fs[i]:=(by rw[yf0,yey hi];rfl);rw[zhu,yfs,yey hi,e];rw[e] at hs;rw[yey hs,Option.map_some,yf0,yey hs];rfl
theorem Lst.told (h:Lst κ rows outs N C fs rows') {w:List Nat} {i s:Nat} (hw:∀ c∈w,c<C) (hi:i<fs.length) (hs:s<N) (e:κ (fs.getD i 0)=κ s):(zhu outs fs)[goW (dl rows') w i]?=outs[goW (dl rows) w s]?:=by
 obtain⟨h1,h2,h3⟩:=h.go w i s hw hi hs e;rw[zyt h1 (by rw[h.out];exact h.at h1)];exact h.tell (h.at h1) h2 h3
theorem Lst.apart (h:Lst κ rows outs N C fs rows') {i j:Nat} (hi:i<fs.length) (hj:j<fs.length):Alk (dl rows') (fun s=>(zhu outs fs)[s]?) fs.length C i j↔i=j:=by
 constructor
 .rintro⟨_,_,hw⟩;have hk:κ (fs.getD i 0)=κ (fs.getD j 0):=(h.key _ _ (h.at hi) (h.at hj)).2 ⟨h.at hi,h.at hj,fun w hc=>by
   have:=hw w hc;simp only at this ⊢;rw[h.told hc hi (h.at hi) rfl,h.told hc hj (h.at hj) rfl] at this;exact this⟩
  have hn:=h.met.nod;have e1:(fs.map κ)[i]'(by rw[yfr];exact hi)=(fs.map κ)[j]'(by rw[yfr];exact hj):=by
   rw[List.getElem_map,List.getElem_map];rw[yf0,yey hi,yf0,yey hj] at hk;exact hk
  exact (List.getElem_inj hn).1 e1
 .rintro rfl;exact⟨hi,hi,fun w hc=>rfl⟩
theorem Lst.rowsIn (h:Lst κ rows outs N C fs rows'):∀ (i:Nat) r,rows'[i]?=some r->r.length=C∧∀ x∈r,x<fs.length:=fun i r e=>by
 have hl:=h.wide r (yfh e);have hi:i<fs.length:=(by rw[←h.len];exact (yf4.1 e).1);refine⟨hl,fun x hx=>?_⟩;obtain⟨d,hd,hxd⟩:=yi9 hx;have:=(h.links.2 i hi d yie).1;unfold dl at this;rw[show rows'.getD i []=r by rw[yf0,e];rfl,yf0,yey hd] at this;rw[←hxd];exact this
theorem Lst.okM (h:Lst κ rows outs N C fs rows') {F:Nat->Nat} (hF:∀ b,b<256->F b<C) (hN:N<=100000):OkM F C rows' (zhu outs fs):=⟨hF,fun i r e=>by rw[h.len];exact h.rowsIn i r e,by rw[h.outLen,h.len],by rw[h.len];exact h.pos,by have:=h.few;have:=h.len;omega⟩
theorem zpo (F:Nat->Nat) (rows:List (List Nat)):∀ (xs:List Int) (s:Nat),runN F rows xs s=goW (dl rows) (xs.map fun b=>F b.toNat) s
 | [],s=>rfl
 | b::w,s=>by rw[runN,ygo,goW];exact zpo F rows w _
theorem Lst.run (h:Lst κ rows outs N C fs rows') {F:Nat->Nat} (hF:∀ b,b<256->F b<C) {xs:List Int} (hby:∀ k,k<xs.length->0<=xs.getD k 0∧xs.getD k 0<=255):(zhu outs fs).getD (runN F rows' xs 0) (0,0)=outs.getD (runN F rows xs 0) (0,0):=by
 have hw:∀ c∈xs.map (fun b=>F b.toNat),c<C:=fun c hc=>by
  obtain⟨b,hb,rfl⟩:=yg6.1 hc;obtain⟨k,hk,e⟩:=yi9 hb;have:=hby k hk;rw[yf0,yey hk,e] at this;simp only[yi5] at this;exact hF _ yie
 have:=h.told hw h.pos h.nz (by rw[h.first]);rw[zpo,zpo,yf0,yf0,this]
end
end
end Go.Proofs.YtipfgpfplakhiaaDoor
