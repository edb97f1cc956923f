import Derived.Test.YtipfgpfplakhiaaTc41
import Derived.Test.YtipfgpfplakhiaaTc36
import Derived.Test.YtipfgpfplakhiaaTc23
import Derived.Test.YtipfgpfplakhiaaTc40
set_option linter.unusedVariables false
set_option linter.unusedSimpArgs false
set_option maxRecDepth 20000
set_option maxHeartbeats 4000000
namespace Go.Proofs.Ytipfgpfplakhiaa
open Go Go.RowKit
section
theorem ya5 {l:List Nat} (h:l.Pairwise (· < ·)):l.Nodup:=h.imp fun e=>Nat.ne_of_lt e
structure Few (R:List (T×Bool)):Prop where
 len:R.length<=4
 ok:∀ r∈R,WF r.1∧plR r.1<=60
section
variable {R:List (T×Bool)}
theorem Few.nfas (h:Few R):∀ r∈R,WF r.1∧plR r.1<=256:=fun r hr=>⟨(h.ok r hr).1,by have:=(h.ok r hr).2;omega⟩
theorem Few.mem (h:Few R) {s:Lay} {x:Str} (hm:(s,x)∈zaj R):∃ t,WF t∧plR t<=60∧lay0 t=(s,x):=by
 unfold zaj at hm;obtain⟨r,hr,e⟩:=yhx.1 hm;exact⟨r.1,(h.ok r hr).1,(h.ok r hr).2,e⟩
theorem Few.lay (h:Few R):∀ s x,(s,x)∈zaj R->zg1 s x:=fun s x hm=>by
 obtain⟨t,h1,h2,h3⟩:=h.mem hm;have:=zx5 h1 yjz;rw[h3] at this;exact this
theorem Few.nodup (h:Few R):∀ s x,(s,x)∈zaj R->x.first.Nodup:=fun s x hm=>by
 obtain⟨t,h1,h2,h3⟩:=h.mem hm;have:=(zft (xs:=[]) h1).2.sf;rw[h3] at this;exact ya5 this
theorem Few.size (h:Few R):∀ s x,(s,x)∈zaj R->s.sets.length<=60:=fun s x hm=>by
 obtain⟨t,h1,h2,h3⟩:=h.mem hm;have hsz:(lay0 t).1.sets.length=plR t:=(by have:=zcx h1 ⟨[],[]⟩;simpa [lay0] using this);rw[h3] at hsz;simp only at hsz;omega
theorem zib:(zaj R).length=R.length:=by simp[zaj]
theorem Few.sets (h:Few R):∀ k,k<=(zaj R).length->(zf3 (zaj R) k).length<=k*60
 | 0,_=>by simp[zf3]
 | k+1,hk=>by
  have ih:=Few.sets h k yjz;have hm:(zaj R).getD k lx0∈zaj R:=(by rw[ygq,ygn yjz];exact yhb _);have:=h.size ((zaj R).getD k lx0).1 ((zaj R).getD k lx0).2 hm;rw[zf3,ygu];omega
theorem Few.few (h:Few R):(zf3 (zaj R) (zaj R).length).length*64<=100000:=by
 have:=h.sets _ (ygo _);have h2:=h.len;rw[←zib (R:=R)] at h2;omega
end
theorem zy0 (L:List ByteArray) (bs:List Bool) (n:Nat) (h:n<=4):Few (zbw L bs n):=by
 refine⟨ygw (zi0 L bs n) h,fun r hr=>?_⟩;obtain⟨h1,h2,h3⟩:=zo3 L bs n r hr;rw[zw2 h1] at h2;exact⟨h1,by omega⟩
theorem zq5 {L:List (Lay×Str)} {bs:List Bool} {lam most:Nat} (hm:1<=most∧most<=1000) {ss:List Sta} {rows:List (List Nat)} (h:zd6 L bs lam most=some (ss,rows)):
 OkM (zhr L bs) (zdi L bs) rows (ss.map fun s=>zbr (RR L bs lam) s (0,0))∧rows.length<=1000∧∀ r∈rows,r.length<=256:=by
 unfold zd6 at h;obtain⟨h1,h2,z,h3⟩:=zpl h yjz (ygy _) yk8 ⟨by simp,rfl,fun j hj=>by omega⟩;have hC:zdi L bs<=256:=ze7 _ _;have hlen:rows.length=ss.length:=h1.len;have hpos:0<ss.length:=(by rw[h3];simp);have hrow:∀ (i:Nat) r,rows[i]?=some r->r.length=zdi L bs∧∀ t∈r,t<rows.length:=fun i r e=>by
  have hi:i<ss.length:=(by rw[←hlen];exact (ygp.1 e).1);obtain⟨s,row,e1,e2,e3,e4⟩:=h1.row i hi;rw[e] at e2;injection e2 with e2
  subst e2;refine⟨e3,fun t ht=>?_⟩;obtain⟨c,hc,et⟩:=List.getElem_of_mem ht;obtain⟨e5,e6⟩:=e4 c yjz;rw[ygn hc,et] at e6;injection e6 with e6
  rw[e6,hlen];exact zxk e5
 refine⟨⟨fun b hb=>zdc _ hb,hrow,by rw[yh8,hlen],by omega,by omega⟩,by omega,fun r hr=>?_⟩;obtain⟨i,hi⟩:=yhu hr;have:=(hrow i r hi).1;omega
theorem zsq {w:World} {B n c:Nat} {A:Option Addr} {cs:List Bool} (h:w.ownsRow B 4 1 (.slice A n c) n (cs.map Value.bool)):RdBo w A cs:=fun i x hi=>by
 have hl:i<cs.length:=(ygp.1 hi).1;have h1:=h.1;rw[yh8] at h1;rcases h.2 with ⟨_,h0⟩|⟨g,cap,cur,e,hB,hg,_⟩
 .omega
 .injection e with e1 e2 e3
  subst e1;refine⟨g,0,rfl,za1 hg,?_⟩;rw[yhm,ygt h i yjz,yhj,hi];rfl
end
theorem yao {α:Type} [DecidableEq α] {P:α->Prop} {ss:List α} {t:α} (h:∀ s∈ss,P s) (ht:P t):∀ s∈zdn ss t,P s:=fun s hs=>by
 unfold zdn at hs;split at hs
 .exact h s hs
 .rw[yh7,yha] at hs;rcases hs with hs|rfl
  .exact h s hs
  .exact ht
theorem zrh {f:Nat->Sta} {most:Nat} {P:Sta->Prop} (hf:∀ c,P (f c)):∀ (k c:Nat) (ss:List Sta) (row:List Nat) (ss':List Sta) (row':List Nat),rowS f most k c ss row=some (ss',row')->(∀ s∈ss,P s)->∀ s∈ss',P s
 | 0,c,ss,row,ss',row',h,ha=>by
  unfold rowS at h;injection h with h
  injection h with h1 h2
  subst h1;exact ha
 | k+1,c,ss,row,ss',row',h,ha=>by
  unfold rowS at h;split at h
  .cases h
  .exact zrh hf k (c+1) _ _ _ _ h (yao ha (hf c))
theorem zlz {step:Sta->Nat->Sta} {most n:Nat} {P:Sta->Prop} (hf:∀ s c,P (step s c)):∀ (fu i:Nat) (ss:List Sta) (rows:List (List Nat)) (ss':List Sta) (rows':List (List Nat)),zbz step most n fu i ss rows=some (ss',rows')->(∀ s∈ss,P s)->∀ s∈ss',P s
 | 0,i,ss,rows,ss',rows',h,ha=>by
  unfold zbz at h;injection h with h
  injection h with h1 h2
  subst h1;exact ha
 | fu+1,i,ss,rows,ss',rows',h,ha=>by
  unfold zbz at h;split at h
  .injection h with h
   injection h with h1 h2
   subst h1;exact ha
  .rename_i s hs;split at h
   .cases h
   .rename_i ss2 row2 h2;exact zlz hf fu (i+1) _ _ _ _ h (zrh (hf s) _ _ _ _ _ _ h2 ha)
theorem zoi {R:RSt}:∀ (st:List (Nat×Nat)) (o:Nat×Nat),Fits R st->okO o->okO (zbr R st o)
 | [],o,h,ho=>ho
 | x::st,o,h,ho=>by
  rw[zbr];refine zoi st _ (fun y hy=>h y (yhi _ hy)) ?_;have hx:=(h x yhr).2;have e64:(2:Nat) ^ 64=18446744073709551616:=yk6;unfold zf7;split
  .split
   .split
    .refine⟨ho.1,?_⟩;have:=yiy (n:=64) (x:=o.2) (y:=x.2) (by rw[e64];exact ho.2) hx
     simpa [e64] using this
    .refine⟨?_,ho.2⟩;have:=yiy (n:=64) (x:=o.1) (y:=x.2) (by rw[e64];exact ho.1) hx
     simpa [e64] using this
   .exact ho
  .exact ho
theorem zvb {L:List (Lay×Str)} {bs:List Bool} {lam most:Nat} (hV:zl2 (RR L bs lam)) {ss:List Sta} {rows:List (List Nat)} (h:zd6 L bs lam most=some (ss,rows)):∀ o∈ss.map (fun s=>zbr (RR L bs lam) s (0,0)),okO o:=fun o ho=>by
 obtain⟨s,hs,rfl⟩:=yhx.1 ho;unfold zd6 at h;have hm:=zlz (P:=May (RR L bs lam)) (fun s c=>zr7 _ hV _ s c) _ _ _ _ _ _ h (fun s hs=>by rw[yha] at hs;subst hs;exact fun x hx=>by cases hx) s hs;exact zoi s _ (zj6 hV hm) ⟨by decide,by decide⟩
theorem Met.few7 {κ:Nat->Nat} {N:Nat} {fs:List Nat} (h:Met κ N fs):fs.length<=N:=by
 have hnd:fs.Nodup:=(List.Pairwise.of_map κ (fun a b hab e=>hab yl7) h.nod);have:=zcv fs (List.range N) hnd fun s hs=>yho.2 (h.lt s hs)
 simpa using this
theorem zk5 {κ nx:Nat->Nat}:∀ (k c:Nat) (fs row:List Nat),(zdt κ nx k c fs row).2.length=row.length+k∧∃ z,(zdt κ nx k c fs row).1=fs++z
 | 0,c,fs,row=>⟨by rw[zdt];rfl,[],by rw[zdt];simp⟩
 | k+1,c,fs,row=>by
  rw[zdt];split
  .obtain⟨h1,h2⟩:=zk5 (κ:=κ) (nx:=nx) k (c+1) fs (row++[idxM (fs.map κ) (κ (nx c))]);exact⟨by rw[h1,ygu,yi7];omega,h2⟩
  .obtain⟨h1,z,h2⟩:=zk5 (κ:=κ) (nx:=nx) k (c+1) (fs++[nx c]) (row++[fs.length]);exact⟨by rw[h1,ygu,yi7];omega,nx c::z,by rw[h2,yhe];rfl⟩
theorem zmz {κ:Nat->Nat} {δ:Nat->Nat->Nat} {C N:Nat} (hδ:∀ s c,s<N->c<C->δ s c<N):∀ (fu i:Nat) (fs:List Nat) (rows:List (List Nat)) (fs':List Nat) (rows':List (List Nat)),zfm κ δ C fu i fs rows=(fs',rows')->Met κ N fs->rows.length=i->i<=fs.length->N<fu+i->(∀ r∈rows,r.length=C)->Met κ N fs'∧rows'.length=fs'.length∧(∀ r∈rows',r.length=C)∧∃ z,fs'=fs++z
 | 0,i,fs,rows,fs',rows',h,hm,hr,hi,hf,hC=>by
  have:=hm.few7;omega
 | fu+1,i,fs,rows,fs',rows',h,hm,hr,hi,hf,hC=>by
  rw[zfm] at h;split at h
  .rename_i hs;injection h with h1 h2
   subst h1 h2;rw[List.getElem?_eq_none_iff] at hs;exact⟨hm,by omega,hC,[],by simp⟩
  .rename_i s hs;have hsN:=hm.lt s (yh1 hs);have hil:=(ygp.1 hs).1;obtain⟨hl,z,hz⟩:=zk5 (κ:=κ) (nx:=δ s) C 0 fs [];have hm':=zk4 (κ:=κ) (nx:=δ s) C 0 fs [] (fun d hd=>hδ s d hsN yjz) hm;rw[hz] at hm' h;obtain⟨g1,g2,g3,z',g4⟩:=zmz hδ fu (i+1) _ _ _ _ h hm' (by rw[ygu,yi7];omega) (by rw[ygu];omega) yjz (fun r hr=>by
    rw[yh7,yha] at hr;rcases hr with hr|rfl
    .exact hC r hr
    .simpa using hl)
   exact⟨g1,g2,g3,z++z',by rw[g4,yhe]⟩
theorem zoj (κ:Nat->Nat) {N:Nat} (h:0<N):Met κ N [0]:=⟨fun s hs=>by rw[yha] at hs;omega,by simp⟩
theorem zk6 {κ:Nat->Nat} {δ:Nat->Nat->Nat} {C N:Nat} (hδ:∀ s c,s<N->c<C->δ s c<N) (h0:0<N) {fs':List Nat} {rows':List (List Nat)} (h:zfm κ δ C (N+1) 0 [0] []=(fs',rows')):Met κ N fs'∧rows'.length=fs'.length∧(∀ r∈rows',r.length=C)∧fs'.length<=N:=by
 obtain⟨h1,h2,h3,_⟩:=zmz hδ (N+1) 0 [0] [] fs' rows' h (zoj κ h0) rfl yk3 yjz (fun r hr=>by cases hr);exact⟨h1,h2,h3,h1.few7⟩
theorem yfp {rows:List (List Nat)} {N C:Nat} (hl:rows.length=N) (hr:∀ (i:Nat) r,rows[i]?=some r->r.length=C∧∀ x∈r,x<N):∀ s c,s<N->c<C->dl rows s c<N:=fun s c hs hc=>by
 have hs':s<rows.length:=yjz;obtain⟨h1,h2⟩:=hr s rows[s] (ygn hs');have hc':c<rows[s].length:=yjz;unfold dl;have e1:rows.getD s []=rows[s]:=(by rw[ygq,ygn hs',Option.getD_some]);rw[e1,ygq,ygn hc',Option.getD_some];exact h2 _ (yhb _)
section
attribute [local go_sem ↓] Go.wp_at_zero Go.wp_at_succ
attribute [local go_sem ↓] zj1 zzr
def zqw (w:World) (L:List (Lay×Str)) (bs:List Bool) (lam:Nat) (o:Option (List Sta×List (List Nat))) (e:Ending) (w':World):Prop:=match o with
 | none=>e = .returned (.tuple #[.agg zcq,errV 11])
 | some (ss,rows)=>∃ (q:PT) (B:Nat) (vN vO:Value) (O:Nat->Prop) (fs:List Nat) (rows':List (List Nat)),e = .returned (.tuple #[.agg (zac (zhr L bs) (zdi L bs) vN vO),.nilIface])∧w.heap.size<=B∧
  (∀ s t,s<rows.length->t<rows.length->(q.grp s=q.grp t↔Alk (dl rows) (fun s=>(ss.map fun s=>zbr (RR L bs lam) s (0,0))[s]?) rows.length (zdi L bs) s t))∧zfm q.grp (dl rows) (zdi L bs) (rows.length+1) 0 [0] []=(fs,rows')∧
  Nxt w' B O vN rows'∧Ots w' B O vO (fs.map fun s=>(ss.map fun s=>zbr (RR L bs lam) s (0,0)).getD s (0,0))
def ziu (w:World) (l:List (T×Bool)) (lam most:Int) (e:Ending) (w':World):Prop:=
 Below w.heap.size w w'∧
 if lam<1∨32<lam∨most<1∨1000<most then e = .returned (.tuple #[.agg zcq,errV 1]) else
 zqw w (zaj l) (l.map (·.2)) lam.toNat (zd6 (zaj l) (l.map (·.2)) lam.toNat most.toNat) e w'
theorem yf6 {w:World} {B:Nat} {O:Nat->Prop} {vN:Value} {rows:List (List Nat)} (h:Nxt w B O vN rows):Nxt w B (fun b=>B<=b) vN rows:=by
 obtain⟨vs,h1,h2,h3,h4⟩:=h.mem;refine⟨⟨vs,h1,h2,h3,fun u hu b e=>?_⟩,fun b e=>(h.in b e).1⟩;obtain⟨i,hi⟩:=yhu hu;obtain⟨r,hr⟩:∃ r,rows[i]?=some r:=⟨_,ygn (by have:=(ygp.1 hi).1;omega)⟩;exact (ygs (h3 i u r hi hr) b e).1
theorem yf5 {w:World} {B:Nat} {O:Nat->Prop} {vO:Value} {outs:List (Nat×Nat)} (h:Ots w B O vO outs):Ots w B (fun b=>B<=b) vO outs:=⟨h.row,fun b e=>(h.in b e).1⟩
theorem yfg (w:World) (a b:Obj):Below w.heap.size w (((w.alloc a).alloc b).drew)∧(((w.alloc a).alloc b).drew).heap[w.heap.size]?=some a∧(((w.alloc a).alloc b).drew).heap[w.heap.size+1]?=some b:=by
 refine⟨(((ygr _ _).alloc (ygo _) _).alloc yk3 _).drew,?_,?_⟩
 .have h1:=yhf (w.alloc a) b w.heap.size yk3;exact h1.trans (heap_alloc_new w a)
 .have:=heap_alloc_new (w.alloc a) b;rw[yh0] at this;exact this
theorem zmk {w:World} {A:Option Addr} {c:Nat} {l:List (T×Bool)} {lam most:Int} (hr:RdRules w A l) (hok:∀ r∈l,WF r.1∧plR r.1<=256) (hl:l.length<=64) (hlam : -9223372036854775808<=lam∧lam<=9223372036854775807) (hmost : -9223372036854775808<=most∧most<=9223372036854775807):
 Calls Try.prog 17 #[.slice A l.length c,.int .i64 lam,.int .i64 most] w (ziu w l lam most):=by
 have hz38:∀ w:World,Sem.run Try.prog (zeroValue 41) w = .ok (.agg zcq) w:=fun _=>by kernel_rfl
 obtain⟨N,hN⟩:∃ N,l.length=N:=⟨_,rfl⟩;obtain⟨MN,hMN,hmkN⟩:=zwv N yjz;obtain⟨MT,hMT,hmkT⟩:=zqe N yjz;rw[hN] at hl ⊢;have HN:=Zh hN;have HMN:=Zh hMN;have HMT:=Zh hMT;have HL:=Zh hl;have HR:=Zh hr;have HOK:=Zh hok;obtain⟨w1,hw1⟩:∃ w1,w.alloc (.cells zcq 41)=w1:=⟨_,rfl⟩;have hb1:Below w.heap.size w w1:=ykk;have hx1:BoxM w1 w.heap.size 41 (fun _=>0) 0 (.slice none 0 0) (.slice none 0 0):=ykn;have HW1:=Zh hw1;have HB1:=Zh hb1;have HX1:=Zh hx1;clear hr hok hN hMN hMT hl hb1 hx1 hw1;go_enter Try.func17,Try.ntmps17;go_upto_region 1 with fail
 rw[HW1.o];go_cut [8,9] from 16 to 21 (fun s8 s9 wx=>∃ gn gt:Nat,s8 = .slice (some ⟨gn,0,none⟩) N N∧s9 = .slice (some ⟨gt,0,none⟩) N N∧gn≠gt∧Below w1.heap.size w1 wx∧MadeN wx w1.heap.size gn N [] (fun _=>False)∧MadeT wx w1.heap.size gt N [])
 case first =>
  go_region_law (fail)
  all_goals
   go_wp2;go_meet
   first
    | (obtain⟨hb,h1,h2⟩:=yfg w1 (.cells MN 79) (.cells MT 4)
       exact⟨_,_,rfl,rfl,by omega,hb,MadeN.new HMN.o (by have:=HL.o;omega) h1 yjz,MadeT.new HMT.o (by have:=HL.o;omega) h2 yjz⟩)
    | (obtain⟨hb,h1,h2⟩:=yfg w1 (.cells MT 4) (.cells MN 79)
       exact⟨_,_,rfl,rfl,by omega,hb,MadeN.new HMN.o (by have:=HL.o;omega) h2 yjz,MadeT.new HMT.o (by have:=HL.o;omega) h1 yjz⟩)
 case rest =>
  obtain⟨gn,gt,rfl,rfl,hgt,hbc,hmn,hmt⟩:=hcut;have HGT:=Zh hgt;have HBC:=Zh hbc;have HM0:=Zh hmn;have HT0:=Zh hmt;have HNT:=Zh hmt.lt;clear hgt hbc hmn hmt hmkN hmkT;go_wp2;go_loopg [24] N (fun mm i wr=>∃ (k:Nat) (E:Nat->Prop),i = .int .i64 (k:Int)∧k<=N∧mm=N-k∧Below w1.heap.size w1 wr∧MadeN wr w1.heap.size gn N (zaj (l.take k)) E∧MadeT wr w1.heap.size gt N ((l.take k).map (·.2))∧∀ b,E b->b≠gt)
  case atStart=>exact⟨0,_,rfl,ygy _,rfl,HBC.o,HM0.o,HT0.o,fun b e=>e.elim⟩
  case round =>
   obtain⟨k,E,rfl,hk,hmk,hbr,hmn,hmt,hE⟩:=hrel;have HMK:=Zh hmk;have HBR:=Zh hbr;have HM:=Zh hmn;have HT:=Zh hmt;have HE:=Zh hE;clear hmk hmn hmt hE
   by_cases hkN:k<N
   .obtain⟨r,hrk⟩:∃ r,l[k]?=some r:=⟨_,ygn yky⟩;obtain⟨hwf,h256⟩:=HOK.o r (yh1 hrk);have hrd:=(HR.o.stays HB1.o).stays hbr;obtain⟨g,off,kv,rfl,hg,hcs,htr⟩:=hrd k r hrk;obtain⟨Ak,nk,ck,rfl⟩:=htr.form;have htk:(zaj (l.take k)).length=k:=(by simp[zaj];have:=HN.o;omega);have htb:((l.take k).map (·.2)).length=k:=(by simp;have:=HN.o;omega);obtain⟨s,x,hsx⟩:∃ s x,lay0 r.1=(s,x):=⟨_,_,rfl⟩;have hinv:LInv s:=(by have:=(zft (xs:=[]) hwf).1;rw[hsx] at this;exact this);have hbd:=fun (W:World) (hb:Below wr.heap.size wr W)=>yee hwf (htr.stays hb) h256
    rw[hsx] at hbd;unfold zt1 zas at hbd;simp only at hbd;obtain⟨z,hz⟩:∃ z,s.sets.length=z:=⟨_,rfl⟩;obtain⟨xe,hxe⟩:∃ xe,x.empty=xe:=⟨_,rfl⟩;rw[hz,hxe] at hbd;have hel:=fun (W:World) (C gm m1 c1 m2 c2 m3 c3:Nat) (A1 A2 A3:Option Addr) (h:NfaAt W C (.slice A1 m1 c1) (.slice A2 m2 c2) gm (.slice A3 m3 c3) s x)=>Elem.of_at h hinv
    rw[hz,hxe] at hel;obtain⟨t,bl⟩:=r;have r0:=hcs 0 _ rfl;have r1:=hcs 1 _ rfl;have r2:=hcs 2 _ rfl;have r3:=hcs 3 _ rfl;have r4:=hcs 4 _ rfl;have r5:=hcs 5 _ rfl;have r6:=hcs 6 _ rfl;have r7:=hcs 7 _ rfl;have r8:=hcs 8 _ rfl;simp only[yi2] at r0 r1 r2 r3 r4 r5 r6 r7 r8 hbd hwf h256 hsx;have hk1:(k:Int)<(N:Int):=yjz;have hk0:(0:Int)<=(k:Int):=yjz;have HBD:=Zh hbd;have HEL:=Zh hel;have HRK:=Zh hrk;have HSX:=Zh hsx;have HTK:=Zh htk;have HTB:=Zh htb;clear hcs hg htr hbd hel hrk hsx hz hxe hwf h256 hinv htk htb hrd hbr;go_upto_region 5 with fail
    generalize hw4:wr.alloc (.cells #[.int .i64 t.op,.int .u64 (word t.set 0),.int .u64 (word t.set 1),.int .u64 (word t.set 2),.int .u64 (word t.set 3),.int .i64 t.lo,.int .i64 t.hi,.slice Ak nk ck,.bool bl] 72)=w4;have hb4:Below wr.heap.size wr w4:=(by rw[←hw4];exact (ygr _ _).alloc (ygo _) _);have hr4:HasO w4 wr.heap.size (.cells #[.int .i64 t.op,.int .u64 (word t.set 0),.int .u64 (word t.set 1),.int .u64 (word t.set 2),.int .u64 (word t.set 3),.int .i64 t.lo,.int .i64 t.hi,.slice Ak nk ck,.bool bl] 72 (0,0)):=(by rw[←hw4];exact zao _ _ _ _ rfl);obtain⟨g4,hg4⟩:∃ g4,wr.heap.size=g4:=⟨_,rfl⟩;have q0:=cell_of_row w4 wr.heap.size 0 _ 72 (0,0) hr4;have q1:=cell_of_row w4 wr.heap.size 1 _ 72 (0,0) hr4;have q2:=cell_of_row w4 wr.heap.size 2 _ 72 (0,0) hr4;have q3:=cell_of_row w4 wr.heap.size 3 _ 72 (0,0) hr4;have q4:=cell_of_row w4 wr.heap.size 4 _ 72 (0,0) hr4;have q5:=cell_of_row w4 wr.heap.size 5 _ 72 (0,0) hr4;have q6:=cell_of_row w4 wr.heap.size 6 _ 72 (0,0) hr4;have q7:=cell_of_row w4 wr.heap.size 7 _ 72 (0,0) hr4;have q8:=cell_of_row w4 wr.heap.size 8 _ 72 (0,0) hr4;simp only[List.getElem?_toArray,List.getElem?_cons_succ,List.getElem?_cons_zero] at q0 q1 q2 q3 q4 q5 q6 q7 q8;rw[hg4] at q0 q1 q2 q3 q4 q5 q6 q7 q8 ⊢;have hbd4:=HBD.o w4 hb4;have HBD4:=Zh hbd4;have HB4:=Zh hb4;have HG4:=Zh hg4;have HR4:=Zh hr4;clear hw4 hr4 hb4 hg4 hbd4 r0 r1 r2 r3 r4 r5 r6 r7 r8;go_upto_region 6 with (first
     | (go_at_call 30;(with_reducible refine HBD4.o.mono ?_);rintro e w5 ⟨A1,m1,c1,A2,m2,c2,gm,A3,m3,c3,rfl,hn1,b1⟩;have HN5:=Zh (HEL.o _ _ _ _ _ _ _ _ _ _ _ _ hn1);have HB5:=Zh b1;clear hn1 b1))
    generalize hw6:w5.alloc (.cells #[.slice A1 m1 c1,.slice A2 m2 c2,.slice (some ⟨gm,0,none⟩) z z,.slice A3 m3 c3,.bool xe] 79)=w6;have hb6:Below w5.heap.size w5 w6:=(by rw[←hw6];exact (ygr _ _).alloc (ygo _) _);have hr6:HasO w6 w5.heap.size (.cells #[.slice A1 m1 c1,.slice A2 m2 c2,.slice (some ⟨gm,0,none⟩) z z,.slice A3 m3 c3,.bool xe] 79 (0,0)):=(by rw[←hw6];exact zao _ _ _ _ rfl);have hw:=gro HB4.o (gro HB5.o hb6);have hm6:=(HM.o.stays hw).wide (E':=fun b=>E b∨(w4.heap.size<=b∧b<w5.heap.size)) (fun b e => .inl e) (fun b e=>by
     have h1:=HM.o.lt.2;have h2:=HB4.o.size;rcases e with e|e
     .have h5:=HM.o.1 b e;have h6:=hw.size;exact⟨by omega,h5.2⟩
     .have:=hb6.size;exact⟨by omega,by omega⟩)
    have ht6:=HT.o.stays hw;have hd6:Below w6.heap.size w6 w6.drew:=(ygr _ _).drew;have y0:=cell_of_row w6 w5.heap.size 0 _ 79 (0,0) hr6;have y1:=cell_of_row w6 w5.heap.size 1 _ 79 (0,0) hr6;have y2:=cell_of_row w6 w5.heap.size 2 _ 79 (0,0) hr6;have y3:=cell_of_row w6 w5.heap.size 3 _ 79 (0,0) hr6;have y4:=cell_of_row w6 w5.heap.size 4 _ 79 (0,0) hr6;simp only[List.getElem?_toArray,List.getElem?_cons_succ,List.getElem?_cons_zero] at y0 y1 y2 y3 y4;have hr4b:=((gro HB5.o hb6).block _ (za1 HR4.o)).trans HR4.o;have q8:=cell_of_row w6 _ 8 _ 72 (0,0) hr4b;have hgn:wr.heap.size≠gn:=(by have:=HM.o.lt.2;omega);have hlk:(zaj (l.take k)).length<N:=(by rw[HTK.o];exact hkN);have hlb:((l.take k).map (·.2)).length<N:=(by rw[HTB.o];exact hkN);have hst:=(hm6.stays hd6).stoM hlk A1 A2 (some ⟨gm,0,none⟩) A3 m1 c1 m2 c2 z z m3 c3 xe;have hset:=MadeN.set (cv:=#[.slice A1 m1 c1,.slice A2 m2 c2,.slice (some ⟨gm,0,none⟩) z z,.slice A3 m3 c3,.bool xe]) (hm6.stays hd6) hlk (((HN5.o.keep hb6.size fun b e=>hb6.block b e.2).wide fun b e => .inr e).keep (ygo _) fun b e=>rfl);have hto:=MadeT.off (k:=(zaj (l.take k)).length*5) (v:=#[.slice A1 m1 c1,.slice A2 m2 c2,.slice (some ⟨gm,0,none⟩) z z,.slice A3 m3 c3,.bool xe]) (ht6.stays hd6) (Ne.symm HGT.o);have hr4c:=(zzg (w:=w6.drew) (k:=(zaj (l.take k)).length*5) (cv:=#[.slice A1 m1 c1,.slice A2 m2 c2,.slice (some ⟨gm,0,none⟩) z z,.slice A3 m3 c3,.bool xe]) hgn).trans hr4b;have q8c:=cell_of_row (stoM w6.drew (.pointer (some ⟨gn,(zaj (l.take k)).length*5,none⟩)) (.agg #[.slice A1 m1 c1,.slice A2 m2 c2,.slice (some ⟨gm,0,none⟩) z z,.slice A3 m3 c3,.bool xe])) _ 8 _ 72 (0,0) hr4c;have hbs:Below w1.heap.size w1 (stoM w6.drew (.pointer (some ⟨gn,(zaj (l.take k)).length*5,none⟩)) (.agg #[.slice A1 m1 c1,.slice A2 m2 c2,.slice (some ⟨gm,0,none⟩) z z,.slice A3 m3 c3,.bool xe])):=zqv (gro HBR.o hw).drew HM.o.lt.1;have hfin:=hset.off (gt:=gt) (k:=k) (v := .bool bl) HGT.o (fun b e=>by
     have h1:=HT.o.lt.2;have h2:=HB4.o.size;rcases e with e|e
     .exact HE.o b e
     .omega)
    obtain⟨ub,hub,hfb⟩:=hto.cell hlb;have htf:=hto.set hlb bl;simp only[List.getElem?_toArray,List.getElem?_cons_succ,List.getElem?_cons_zero] at q8 q8c;rw[HTK.o] at hst hset hto hub hfb q8c hbs htf hfin;rw[HTB.o] at hub hfb htf;rw[HG4.o] at q8 q8c;have HFIN:=Zh hfin;have HTF:=Zh htf;have HBS:=Zh (hbs.setCell (p:=⟨gt,k,none⟩) HT.o.lt.1 (.bool bl));clear hw6 hb6 hr6 hw hm6 ht6 hd6 hlk hlb hset hto hr4b hr4c hgn hbs htf hfin;go_upto_region 8 with fail
    go_region_law (fail)
    all_goals
     have hN64:(k:Int)<64:=(by have:=HL.o;omega);go_wp2;go_roundg (N-(k+1))
     case measure=>have:=HMK.o;omega
     case rel =>
      have et:l.take (k+1)=l.take k++[(t,bl)]:=(by rw[yjp,HRK.o];rfl);have el:zaj (l.take (k+1))=zaj (l.take k)++[(s,x)]:=(by rw[et];simp[zaj,HSX.o]);have ec:(l.take (k+1)).map (·.2)=(l.take k).map (·.2)++[bl]:=(by rw[et];simp);refine⟨k+1,_,by go_num,by omega,rfl,HBS.o,by rw[el];exact HFIN.o,by rw[ec];exact HTF.o,fun b e e2=>?_⟩;have h1:=HT.o.lt.2;have h2:=HB4.o.size;rcases e with e|e
      .exact HE.o b e e2
      .omega
   .have hkl:k=N:=yjz;subst hkl;have hall:l.take k=l:=yhg (by rw[HN.o];exact ygo _);have hll:(zaj l).length=k:=(by rw[zib];exact HN.o);have hbl:(l.map (·.2)).length=k:=(by rw[yh8];exact HN.o);have hmd:=HM.o;have htd:=HT.o;rw[hall] at hmd htd;have hrd:=hmd.rd hll;have hro:=zsq (htd.own hbl);have hLk:∀ s x,(s,x)∈zaj l->zg1 s x:=fun s x hm=>by
     unfold zaj at hm;obtain⟨r,hr,e⟩:=yhx.1 hm;have:=zx5 (HOK.o r hr).1 (HOK.o r hr).2;rw[e] at this;exact this
    have hl64:=HL.o;have hMB:=yaq (ca:=k) (cb:=k) (lam:=lam) (most:=most) hrd hro hlam hmost hLk yjz yjz;unfold yen at hMB;rw[hll,hbl] at hMB;have hbw:=gro HB1.o HBR.o;have hxr:=HX1.o.stays HBR.o;have HBW:=Zh hbw;have HXR:=Zh hxr;have HLK:=Zh hLk;have HLL:=Zh hll;obtain⟨gb,hgb⟩:∃ gb,w.heap.size=gb:=⟨_,rfl⟩;rw[hgb] at HXR;have HGB:=Zh hgb;rw[hgb];clear hmd htd hrd hro hLk hbw hxr hall hbl hll hgb HM HT HE HM0 HT0 HNT HR HOK hl64 HMN HMT HX1 HW1
    by_cases hbad:lam<1∨32<lam∨most<1∨1000<most
    .have HMB:=Zh (hMB.mono fun e w' h=>by rw[if_pos (.inr hbad)] at h;exact h);have HBAD:=Zh hbad;clear hMB hbad;unfold errV at HMB;go_wp2_with (first
      | (go_at_call 20;(with_reducible refine HMB.o.mono ?_);rintro e w5 ⟨b5,rfl⟩;have HB5:=Zh (gro HBW.o b5);have HX5:=Zh (HXR.o.stays b5);clear b5)
      | (refine zab yk5 _ _ yk5 yk5 yk5 Try.sizeMM rfl rfl (BoxM.new w5 41 (fun _=>0) 0 (.slice none 0 0) (.slice none 0 0)) ?_;intro hbx;have hb6:Below w5.heap.size w5 ((w5.alloc (.cells zcq 41)).setRow w5.heap.size (zac (fun _=>0) 0 (.slice none 0 0) (.slice none 0 0))):=below_setRow ((ygr _ _).alloc (ygo _) _) (ygo _) _;have HX6:=Zh (HX5.o.stays hb6);have HB6:=Zh (gro HB5.o hb6);clear hbx hb6;go_simp)
      | (refine zab yk5 _ _ yk5 yk5 yk5 Try.sizeMM rfl rfl HX6.o ?_;intro hbx;have HX7:=Zh hbx;clear hbx;go_simp)
      | fail)
     refine bodyPost_ret (v := .tuple #[.agg zcq,errV 1]) (zb0 Try.results17 rfl rfl Try.underlying41 rfl Try.sizeMM HX7.o) rfl ⟨?_,?_⟩
     .exact below_setRow HB6.o yll _
     .rw[if_pos HBAD.o]
    .obtain⟨ln,rfl⟩:∃ k:Nat,lam=(k:Int):=⟨lam.toNat,by omega⟩;obtain⟨mn,rfl⟩:∃ k:Nat,most=(k:Int):=⟨most.toNat,by omega⟩;rw[yh9,yh9] at hMB;obtain⟨Ls,hLs⟩:∃ Ls,zaj l=Ls:=⟨_,rfl⟩;obtain⟨bs,hbs⟩:∃ bs,l.map (·.2)=bs:=⟨_,rfl⟩;have HLS:=Zh hLs;have HBSS:=Zh hbs;rw[hLs] at HLK HLL;rw[hLs,hbs] at hMB;have hval:zl2 (RR Ls bs ln):=zji HLK.o (by have:=HLL.o;have:=HL.o;omega) yjz;have HBAD:=Zh hbad;cases hT:zd6 Ls bs ln mn with
     | none =>
      have HMB:=Zh (hMB.mono fun e w' h=>by rw[if_neg yjz,hT] at h;exact h);unfold zqx at HMB;simp only at HMB;have HTT:=Zh hT;clear hMB hbad hval hT hLs hbs;unfold errV at HMB;go_wp2_with (first
       | (go_at_call 20;(with_reducible refine HMB.o.mono ?_);rintro e w5 ⟨b5,rfl⟩;have HB5:=Zh (gro HBW.o b5);have HX5:=Zh (HXR.o.stays b5);clear b5)
       | (refine zab yk5 _ _ yk5 yk5 yk5 Try.sizeMM rfl rfl (BoxM.new w5 41 (fun _=>0) 0 (.slice none 0 0) (.slice none 0 0)) ?_;intro hbx;have hb6:Below w5.heap.size w5 ((w5.alloc (.cells zcq 41)).setRow w5.heap.size (zac (fun _=>0) 0 (.slice none 0 0) (.slice none 0 0))):=below_setRow ((ygr _ _).alloc (ygo _) _) (ygo _) _;have HX6:=Zh (HX5.o.stays hb6);have HB6:=Zh (gro HB5.o hb6);clear hbx hb6;go_simp)
       | (refine zab yk5 _ _ yk5 yk5 yk5 Try.sizeMM rfl rfl HX6.o ?_;intro hbx;have HX7:=Zh hbx;clear hbx;go_simp)
       | fail)
      refine bodyPost_ret (v := .tuple #[.agg zcq,errV 11]) (zb0 Try.results17 rfl rfl Try.underlying41 rfl Try.sizeMM HX7.o) rfl ⟨?_,?_⟩
      .exact below_setRow HB6.o yll _
      .rw[if_neg HBAD.o,yh9,yh9,HLS.o,HBSS.o,HTT.o];rfl
     | some v =>
      obtain⟨ss,rows⟩:=v;obtain⟨hok,hr1,hr2⟩:=zq5 yjz hT;have hoo:=zvb hval hT;have hMB2:=hMB.mono fun e w' h=>by rw[if_neg yjz,hT] at h;exact h
      unfold zqx at hMB2;simp only at hMB2;have hK6:zdi Ls bs<=256:=ze7 _ _;have HRT:Hid (∀ (e:Ending) (w':World),Below w.heap.size w w'->zqw w Ls bs ln (some (ss,rows)) e w'->ziu w l (ln:Int) (mn:Int) e w'):=Zh fun e w' hb h=>⟨hb,by rw[if_neg hbad,yh9,yh9,hLs,hbs,hT];exact h⟩
      unfold zqw at HRT;simp only at HRT;generalize zhr Ls bs=F at *;generalize zdi Ls bs=K at *;generalize (ss.map fun s=>zbr (RR Ls bs ln) s (0,0))=outs at *;have HMB:=Zh hMB2;obtain⟨rn,hrn⟩:∃ m,rows.length=m:=⟨_,rfl⟩;obtain⟨on,hon⟩:∃ m,outs.length=m:=⟨_,rfl⟩;have h0:0<rn:=(by rw[←hrn];exact hok.some);have hon':outs.length=rn:=(by rw[hok.out,hrn]);have hrow:∀ (i:Nat) r,rows[i]?=some r->r.length=K∧∀ x∈r,x<rn:=fun i r e=>by rw[←hrn];exact hok.row i r e
      have hNC:rn*K<=1000000:=ygw (yjf (show rn<=1000 by omega) hK6) yk6;have HLE:=Zh (fun (W:World) (B B':Nat) (O O':Nat->Prop) (vN vO:Value) (hN:Nxt W B O vN rows) (hO:Ots W B' O' vO outs)=>ydu (F:=F) hN hO hrn hon' h0 hoo hrow hNC yjz yjz);rw[hrn] at HRT;have HRN:=Zh hrn;have HON:=Zh hon;clear hMB hMB2 hok hT hr1 hr2 hbad hrn hon h0 hon' hrow hNC hoo hK6 hval hLs hbs;go_upto_region 13 with (first
       | (go_at_call 20;(with_reducible refine HMB.o.mono ?_);rintro e w5 ⟨b5,vN,vO,O,rfl,hn5,ho5⟩;obtain⟨AN,cN,hfN⟩:=hn5.form;obtain⟨AO,cO,hfO⟩:=ho5.form;rw[HRN.o] at hfN;rw[HON.o] at hfO;subst hfN hfO;have HB5:=Zh (gro HBW.o b5);have HX5:=Zh (HXR.o.stays b5);have HN5:=Zh hn5;have HO5:=Zh ho5;clear b5 hn5 ho5)
       | (refine zab yk5 _ _ yk5 yk5 yk5 Try.sizeMM rfl rfl (BoxM.new w5 41 (fun _=>0) 0 (.slice none 0 0) (.slice none 0 0)) ?_;intro hbx;have HX6:=Zh hbx;clear hbx;go_simp)
       | fail)
      have hb6:Below w5.heap.size w5 ((w5.alloc (.cells zcq 41)).setRow w5.heap.size (zac F K (.slice AN rn cN) (.slice AO on cO))):=below_setRow ((ygr _ _).alloc (ygo _) _) (ygo _) _;have hx6:=HX6.o;change BoxM ((w5.alloc (.cells zcq 41)).setRow w5.heap.size (zac F K (.slice AN rn cN) (.slice AO on cO))) _ _ _ _ _ _ at hx6;generalize (w5.alloc (.cells zcq 41)).setRow w5.heap.size (zac F K (.slice AN rn cN) (.slice AO on cO))=w6 at *;have hn6:=HN5.o.kept (Kept.of_below (fun _=>False) hb6) fun b e e'=>e'
      have ho6:=HO5.o.kept (Kept.of_below (fun _=>False) hb6) fun b e e'=>e'
      have HY6:=Zh hx6;have HXG:=Zh (HX5.o.stays hb6);have HB6:=Zh (gro HB5.o hb6);have HL6:=Zh (HLE.o _ _ _ _ _ _ _ hn6 ho6);clear hx6 hb6 HX6 HX5 HN5 HO5 HMB HLE hn6 ho6;go_wp2_with (first
       | (refine zbh yk5 _ yk5 yk5 Try.underlying41 rfl Try.sizeMM HY6.o ?_;go_simp)
       | (go_at_call 9;(with_reducible refine HL6.o.mono ?_);rintro e w7 ⟨q,uN,uO,U,fs,rows',rfl,hq,hls,hn7,ho7,b7⟩;obtain⟨EN,dN,e1⟩:=hn7.form;obtain⟨EO,dO,e2⟩:=ho7.form;subst e1 e2;have HB7:=Zh (gro HB6.o b7);have HX7:=Zh (HXG.o.stays b7);have HQ:=Zh hq;have HLSS:=Zh hls;have HN7:=Zh hn7;have HO7:=Zh ho7;have HW6:=Zh HB6.o.size;clear hq hls hn7 ho7 b7)
       | (refine zab yk5 _ _ yk5 yk5 yk5 Try.sizeMM rfl rfl HX7.o ?_;intro hbx;have HX8:=Zh hbx;clear hbx;go_simp)
       | fail)
      refine bodyPost_ret (v := .tuple #[.agg (zac F K (.slice EN rows'.length dN) (.slice EO fs.length dO)),.nilIface]) (zb0 Try.results17 rfl rfl Try.underlying41 rfl Try.sizeMM HX8.o) rfl (HRT.o _ _ ?_ ?_)
      .exact below_setRow HB7.o yll _
      .have hg6:gb<w6.heap.size:=HXG.o.lt;have hkp:=zci (Kept.refl (fun b=>b=gb) w7) (.inl rfl) (zac F K (.slice EN rows'.length dN) (.slice EO fs.length dO));have ho8:=(yf5 HO7.o).kept hkp (fun b e e'=>by omega);rw[yh8] at ho8;exact⟨q,w6.heap.size,_,_,_,fs,rows',rfl,HW6.o,HQ.o,HLSS.o,(yf6 HN7.o).kept hkp (fun b e e'=>by omega),ho8⟩
end
end Go.Proofs.Ytipfgpfplakhiaa
