import Derived.Test.YtipfgpfplakhiaaTc44
import Derived.Test.YtipfgpfplakhiaaTc43
import Derived.Test.YtipfgpfplakhiaaTc46
import Derived.Test.YtipfgpfplakhiaaTc9
set_option linter.unusedVariables false
set_option linter.unusedSimpArgs false
set_option maxRecDepth 20000
set_option maxHeartbeats 4000000
namespace Go.Proofs.Ytipfgpfplakhiaa
open Go Go.RowKit
section
attribute [local go_sem ↓] Go.wp_at_zero Go.wp_at_succ
attribute [local go_sem ↓] zj1
theorem zpf (R:List (T×Bool)):zem R=(R.map (·.2)).map Value.bool:=by simp[zem]
theorem zvx {w:World} {A:Option Addr} {L:List Bool} (h:RdBo w A L):RdTr w A L:=fun i x e=>h i x e
theorem ydf {w:World} {B:Nat} {O:Nat->Prop} {vN:Value} {rows:List (List Nat)} (h:Nxt w B O vN rows):Nxt w B (fun b=>B<=b) vN rows:=by
 obtain⟨vs,h1,h2,h3,h4⟩:=h.mem;refine⟨⟨vs,h1,h2,h3,fun u hu b e=>?_⟩,fun b e=>(h.in b e).1⟩;obtain⟨i,hi⟩:=yhu hu;obtain⟨r,hr⟩:∃ r,rows[i]?=some r:=⟨_,ygn (by have:=(ygp.1 hi).1;omega)⟩;exact (ygs (h3 i u r hi hr) b e).1
structure Duo (w wr:World) (vb vc:Value) (l:List (T×Bool)) (E:Nat->Prop):Prop where
 rb:NfaRow 76 wr w.heap.size vb (zaj l) E
 rc:wr.ownsRow w.heap.size 4 1 vc l.length (zem l)
 ec:∀ b,E b->vc.ownBlock≠some b
 bel:Below w.heap.size w wr
theorem Duo.nil (w:World):Duo w w (.slice none 0 0) (.slice none 0 0) [] fun _=>False:=
 ⟨NfaRow.nil _ _ _,yhd _ _ _ 1,fun b e=>e.elim,ygr _ _⟩
def zq0 (w:World) (L:List (Lay×Str)) (bs:List Bool) (lam:Nat) (κ:Nat->Nat) (o:Option (List Sta×List (List Nat))) (e:Ending) (w':World):Prop:=match o with
 | none=>e = .returned (.tuple #[.agg zc5,.int .i64 11])
 | some (ss,rows)=>∃ (B:Nat) (vN vO:Value) (O:Nat->Prop) (fs:List Nat) (rows':List (List Nat)),e = .returned (.tuple #[.agg (zac (zhr L bs) (zdi L bs) vN vO),.int .i64 0])∧w.heap.size<=B∧
  zfm κ (dl rows) (zdi L bs) (rows.length+1) 0 [0] []=(fs,rows')∧
  Nxt w' B O vN rows'∧w'.ownsRow B 51 2 vO fs.length (outC (fs.map fun s=>(ss.map fun s=>zbr (RR L bs lam) s (0,0)).getD s (0,0)))
def zuv (w:World) (l:List (T×Bool)) (lam most:Int) (κ:Nat->Nat) (e:Ending) (w':World):Prop:=
 Below w.heap.size w w'∧
 if lam<1∨32<lam∨most<1∨1000<most then e = .returned (.tuple #[.agg zc5,.int .i64 1]) else
 zq0 w (zaj l) (l.map (·.2)) lam.toNat κ (zd6 (zaj l) (l.map (·.2)) lam.toNat most.toNat) e w'
def yg2 (L:List (Lay×Str)) (bs:List Bool) (lam:Nat) (κ:Nat->Nat) (o:Option (List Sta×List (List Nat))):Prop:=match o with
 | none=>True
 | some (ss,rows)=>∀ s t,s<rows.length->t<rows.length->(κ s=κ t↔Alk (dl rows) (fun s=>(ss.map fun s=>zbr (RR L bs lam) s (0,0))[s]?) rows.length (zdi L bs) s t)
theorem zv5 {w:World} {A:Option Addr} {c:Nat} {l:List (T×Bool)} {lam most:Int} {κ:Nat->Nat} (hr:RdRules w A l) (hfw:Few l) (hlam : -9223372036854775808<=lam∧lam<=9223372036854775807) (hmost : -9223372036854775808<=most∧most<=9223372036854775807)
 (hκ:¬ (lam<1∨32<lam∨most<1∨1000<most)->yg2 (zaj l) (l.map (·.2)) lam.toNat κ (zd6 (zaj l) (l.map (·.2)) lam.toNat most.toNat)):
 Calls Try.prog 18 #[.slice A l.length c,.int .i64 lam,.int .i64 most] w (zuv w l lam most κ):=by
 have hz43:∀ w:World,Sem.run Try.prog (zeroValue 38) w = .ok (.agg zc5) w:=fun _=>by kernel_rfl
 obtain⟨N,hN⟩:∃ N,l.length=N:=⟨_,rfl⟩;have hl:N<=4:=(by rw[←hN];exact hfw.len);rw[hN];have HN:=Zh hN;have HR:=Zh hr;have HFW:=Zh hfw;have HOK:=Zh hfw.nfas;have HKP:=Zh hκ;have HLM:=Zh hlam;have HMO:=Zh hmost;obtain⟨w0,hw0⟩:∃ w0,w.alloc (.cells zc5 38)=w0:=⟨_,rfl⟩;have hb0:Below w.heap.size w w0:=(by rw[←hw0];exact (ygr _ _).alloc (ygo _) _);have hx0:BoxM w0 w.heap.size 38 (fun _=>0) 0 (.slice none 0 0) (.slice none 0 0):=(by rw[←hw0];exact BoxM.new w _ _ _ _ _);have HW0:=Zh hw0;have HB0:=Zh hb0;have HX0:=Zh hx0;clear hr hN hb0 hx0 hw0 hfw hκ hlam hmost;go_enter Try.func18,Try.ntmps18;go_upto_region 1 with fail
 rw[HW0.o];go_wp2;go_loopg [8,9,10] N (fun mm vb vc i wr=>∃ (k:Nat) (E:Nat->Prop),i = .int .i64 (k:Int)∧k<=N∧mm=N-k∧Duo w0 wr vb vc (l.take k) E)
 case atStart=>exact⟨0,_,by first | rfl | trivial,ygy _,by first | rfl | trivial,Duo.nil w0⟩
 case round =>
  obtain⟨k,E,rfl,hk,hmk,ht⟩:=hrel;have HMK:=Zh hmk;have HT:=Zh ht;clear hmk
  by_cases hkN:k<N
  .obtain⟨r,hrk⟩:∃ r,l[k]?=some r:=⟨_,ygn yky⟩;obtain⟨hwf,h256⟩:=HOK.o r (yh1 hrk);have hrd:=HR.o.stays HB0.o;obtain⟨g,off,kv,rfl,hg,hcs0,htr0⟩:=hrd k r hrk;have hcs:=fun q u hu=>za3 (hcs0 q u hu) ht.bel
   have htr:=htr0.stays ht.bel;have HGW:=Zh hg;have HC8:=Zh (hcs0 8 _ rfl);obtain⟨Ak,nk,ck,rfl⟩:=htr.form;have htk:(zaj (l.take k)).length=k:=(by simp[zaj];have:=HN.o;omega);have hlen:(zaj (l.take k)).length<=1000:=yjz;obtain⟨s,x,hsx⟩:∃ s x,lay0 r.1=(s,x):=⟨_,_,rfl⟩;have hinv:LInv s:=(by have:=(zft (xs:=[]) hwf).1;rw[hsx] at this;exact this);have hbd:=fun (W:World) (hb:Below wr.heap.size wr W)=>ybx hwf (htr.stays hb) h256
   rw[hsx] at hbd;unfold zq1 zas at hbd;simp only at hbd;obtain⟨z,hz⟩:∃ z,s.sets.length=z:=⟨_,rfl⟩;obtain⟨xe,hxe⟩:∃ xe,x.empty=xe:=⟨_,rfl⟩;rw[hz,hxe] at hbd;have hel:=fun (W:World) (C gm m1 c1 m2 c2 m3 c3:Nat) (A1 A2 A3:Option Addr) (h:NfaAt W C (.slice A1 m1 c1) (.slice A2 m2 c2) gm (.slice A3 m3 c3) s x)=>Elem.of_at h hinv
   rw[hz,hxe] at hel;obtain⟨t,bl⟩:=r;have r0:=hcs 0 _ rfl;have r1:=hcs 1 _ rfl;have r2:=hcs 2 _ rfl;have r3:=hcs 3 _ rfl;have r4:=hcs 4 _ rfl;have r5:=hcs 5 _ rfl;have r6:=hcs 6 _ rfl;have r7:=hcs 7 _ rfl;have HC8':=HC8.o;simp only at HC8';clear HC8;have HC8:=Zh HC8';clear HC8';simp only[yi2] at r0 r1 r2 r3 r4 r5 r6 r7 hbd hwf h256 hsx;have hk1:(k:Int)<(N:Int):=yjz;have hk0:(0:Int)<=(k:Int):=yjz;have HBD:=Zh hbd;have HEL:=Zh hel;have HLK:=Zh hlen;have HRK:=Zh hrk;have HSX:=Zh hsx;clear hcs hcs0 htr0 hg htr hbd hel hlen hrk hsx hz hxe hwf h256 hinv ht htk hrd;go_wp2_with (first
    | (go_at_call 23;(with_reducible refine (HBD.o _ (ygr _ _)).mono ?_);rintro e w1 ⟨A1,m1,c1,A2,m2,c2,gm,A3,m3,c3,rfl,hn1,b1⟩;have HN1:=Zh (HEL.o _ _ _ _ _ _ _ _ _ _ _ _ hn1);have B1:=Zh b1;have hn0:HasO (w1.alloc (.cells #[.slice none 0 0,.slice none 0 0,.slice none 0 0,.slice none 0 0,.bool false] 76)) w1.heap.size (.cells #[.slice none 0 0,.slice none 0 0,.slice none 0 0,.slice none 0 0,.bool false] 76 (0,0)):=zao _ _ _ _ rfl;have hst:=ycj (ty:=76) (cs:=#[.slice A1 m1 c1,.slice A2 m2 c2,.slice (some ⟨gm,0,none⟩) z z,.slice A3 m3 c3,.bool xe]) hn0 yk2 rfl yle;have hy:=zxl (cs:=#[.slice A1 m1 c1,.slice A2 m2 c2,.slice (some ⟨gm,0,none⟩) z z,.slice A3 m3 c3,.bool xe]) hn0;have y0:=cell_of_row _ w1.heap.size 0 _ _ (0,0) hy;have y1:=cell_of_row _ w1.heap.size 1 _ _ (0,0) hy;have y2:=cell_of_row _ w1.heap.size 2 _ _ (0,0) hy;have y3:=cell_of_row _ w1.heap.size 3 _ _ (0,0) hy;have y4:=cell_of_row _ w1.heap.size 4 _ _ (0,0) hy;have BV:=Zh (show Below w1.heap.size w1 (stoW (w1.alloc (.cells #[.slice none 0 0,.slice none 0 0,.slice none 0 0,.slice none 0 0,.bool false] 76)) (.pointer (some ⟨w1.heap.size,0,none⟩)) (.agg #[.slice A1 m1 c1,.slice A2 m2 c2,.slice (some ⟨gm,0,none⟩) z z,.slice A3 m3 c3,.bool xe])) from zpp ((ygr _ _).alloc (ygo _) _) (ygo _));have bA:Below wr.heap.size wr (((stoW (w1.alloc (.cells #[.slice none 0 0,.slice none 0 0,.slice none 0 0,.slice none 0 0,.bool false] 76)) (.pointer (some ⟨w1.heap.size,0,none⟩)) (.agg #[.slice A1 m1 c1,.slice A2 m2 c2,.slice (some ⟨gm,0,none⟩) z z,.slice A3 m3 c3,.bool xe])).alloc (.cells #[.slice A1 m1 c1,.slice A2 m2 c2,.slice (some ⟨gm,0,none⟩) z z,.slice A3 m3 c3,.bool xe] 76))):=(gro B1.o BV.o).alloc (gro B1.o BV.o).size _;have HRBb:=Zh (HT.o.rb.fresh bA B1.o.size (E2:=fun b=>E b∨(wr.heap.size<=b∧b<w1.heap.size)) (fun b e => .inl e) (fun b e=>e.imp id fun e=>⟨e.1,yh3 e.2 (ygw BV.o.size yk3)⟩));have HEB:=Zh ((HN1.o.keep (w':=((stoW (w1.alloc (.cells #[.slice none 0 0,.slice none 0 0,.slice none 0 0,.slice none 0 0,.bool false] 76)) (.pointer (some ⟨w1.heap.size,0,none⟩)) (.agg #[.slice A1 m1 c1,.slice A2 m2 c2,.slice (some ⟨gm,0,none⟩) z z,.slice A3 m3 c3,.bool xe])).alloc (.cells #[.slice A1 m1 c1,.slice A2 m2 c2,.slice (some ⟨gm,0,none⟩) z z,.slice A3 m3 c3,.bool xe] 76))) (ygw BV.o.size yk3) (fun b e=>(yhf _ _ b (yh3 e.2 BV.o.size)).trans (BV.o.block b e.2))).wide (E':=fun b=>E b∨(wr.heap.size<=b∧b<w1.heap.size)) fun b e => .inr e);have HCA:=Zh (za6 HT.o.rc bA);have HWB:=Zh (HT.o.bel.trans (bA.mono HT.o.bel.size));have tokB:True:=trivial;clear hn1 b1 hn0 hy bA)
    | (at_builtin;have _t:=tokB;refine zt3 yf8 yk5 _ _ yk5 yk5 HRBb.o HWB.o.size HLK.o HEB.o ⟨_,0,none⟩ 1 yk5 (zsj (zao _ _ _ _ rfl)) ?_;intro vb' wB rb' gB oB;have hwB:=HWB.o.grown gB HWB.o.size (fun k e=>(HRBb.o.lt e).1);have s8:=(hwB.cell (p:=⟨g,off+k*9+8,none⟩) HGW.o).trans HC8.o;have HCB:=Zh (za6 (NfaRow.off3 HCA.o HRBb.o yk6 gB) (w':=(wB.alloc (.cells #[.bool bl] 4))) ((ygr _ _).alloc (ygo _) _));have HRBc:=Zh (rb'.stays (w':=(wB.alloc (.cells #[.bool bl] 4))) ((ygr _ _).alloc (ygo _) _));have HWC:=Zh (hwB.alloc hwB.size (.cells #[.bool bl] 4));have tokC:True:=trivial;clear rb' hwB tokB)
    | (at_builtin;have _t:=tokC;refine znl yk5 _ _ yk5 yk5 HCB.o HWC.o.size (by simp;have:=HN.o;omega) bl ⟨_,0,none⟩ 1 yk5 (zsj (zao _ _ _ _ rfl)) ?_;intro vc' wC rc' gC oC;have HRCc:=Zh rc';have HGC:=Zh gC;have HOC:=Zh oC;clear rc' gC oC tokC)
    | fail)
   go_roundg (N-(k+1))
   case measure=>have:=HMK.o;omega
   case rel =>
    have hE:∀ b,(E b∨(wr.heap.size<=b∧b<w1.heap.size))->u9.ownBlock≠some b:=fun b e e2=>by
     rcases e with e|e
     .exact HT.o.ec b e e2
     .have:=(ygs HT.o.rc b e2).2;omega
    have et:l.take (k+1)=l.take k++[(t,bl)]:=(by rw[yjp,HRK.o];rfl);have el:zaj (l.take (k+1))=zaj (l.take k)++[(s,x)]:=(by rw[et];simp[zaj,HSX.o]);have ec:zem (l.take (k+1))=zem (l.take k)++[.bool bl]:=(by rw[et];simp[zem]);refine⟨k+1,_,by go_num,by omega,rfl,⟨by rw[el];exact HRBc.o.off2 HCB.o yk6 hE HGC.o,by rw[ec,show (l.take (k+1)).length=(l.take k).length+1 from by rw[et];simp];exact HRCc.o,fun b e e2=>?_,HWC.o.grown HGC.o HWC.o.size fun j e=>(ygs HCB.o j e).1⟩⟩;rcases HOC.o with e3|e3
    .exact hE b e (e3▸e2)
    .have h5:=(HRBc.o.1 b e).1;rw[e3] at e2;injection e2 with e2
     omega
  .have hkl:k=N:=yjz;subst hkl;have hall:l.take k=l:=yhg (by rw[HN.o];exact ygo _);have htt:=HT.o;rw[hall] at htt;obtain⟨Ab,cb,e1,_⟩:=htt.rb.form;obtain⟨Ac,cc,e2⟩:=zof htt.rc;have hll:(zaj l).length=k:=(by rw[zib];exact HN.o);have hbl:(l.map (·.2)).length=k:=(by rw[yh8];exact HN.o);rw[hll] at e1;rw[HN.o] at e2;subst e1 e2;have hrd:=htt.rb.rd rfl;have hoc:=htt.rc;rw[zpf,HN.o] at hoc;have hro:=zvx (zsq hoc);have hfl:=HFW.o.lay;have hfn:=HFW.o.nodup;have hff:=HFW.o.few;have hl4:=hl;have hDB:=ya4 (ca:=cb) (cb:=cc) (lam:=lam) (most:=most) hrd hro HLM.o HMO.o hfl hfn yjz yjz hff;unfold yeo at hDB;rw[hll,hbl] at hDB;have HBW:=Zh (gro HB0.o htt.bel);have hxr:=HX0.o.stays htt.bel;have HXR:=Zh hxr;obtain⟨gb,hgb⟩:∃ gb,w.heap.size=gb:=⟨_,rfl⟩;rw[hgb] at HXR ⊢;have HGB:=Zh hgb;have HLK:=Zh hfl;have HLL:=Zh hll;clear htt hrd hro hoc hfl hfn hff hxr hall hbl hll hgb HT HR HOK HX0 HW0 hl4 HFW
   by_cases hbad:lam<1∨32<lam∨most<1∨1000<most
   .have HDB:=Zh (hDB.mono fun e w' h=>by rw[if_pos (.inr hbad)] at h;exact h);have HBAD:=Zh hbad;clear hDB hbad;go_wp2_with (first
     | (go_at_call 8;(with_reducible refine HDB.o.mono ?_);rintro e w5 ⟨b5,rfl⟩;have HB5:=Zh (gro HBW.o b5);have HX5:=Zh (HXR.o.stays b5);clear b5)
     | (refine zab yk5 _ _ yk5 yk5 yk5 Try.sizeMR rfl rfl (BoxM.new w5 38 (fun _=>0) 0 (.slice none 0 0) (.slice none 0 0)) ?_;intro hbx;have hb6:Below w5.heap.size w5 ((w5.alloc (.cells zc5 38)).setRow w5.heap.size (zac (fun _=>0) 0 (.slice none 0 0) (.slice none 0 0))):=below_setRow ((ygr _ _).alloc (ygo _) _) (ygo _) _;have HX6:=Zh (HX5.o.stays hb6);have HB6:=Zh (gro HB5.o hb6);clear hbx hb6;go_simp)
     | (refine zab yk5 _ _ yk5 yk5 yk5 Try.sizeMR rfl rfl HX6.o ?_;intro hbx;have HX7:=Zh hbx;clear hbx;go_simp)
     | fail)
    refine bodyPost_ret (v := .tuple #[.agg zc5,.int .i64 1]) (zb0 Try.results18 rfl rfl Try.underlying38 rfl Try.sizeMR HX7.o) rfl ⟨?_,?_⟩
    .exact below_setRow HB6.o yll _
    .rw[if_pos HBAD.o]
   .have hkp0:=HKP.o hbad;clear HKP;have HKP:=Zh hkp0;clear hkp0;obtain⟨ln,rfl⟩:∃ k:Nat,lam=(k:Int):=⟨lam.toNat,by omega⟩;obtain⟨mn,rfl⟩:∃ k:Nat,most=(k:Int):=⟨most.toNat,by omega⟩;rw[yh9,yh9] at hDB HKP;obtain⟨Ls,hLs⟩:∃ Ls,zaj l=Ls:=⟨_,rfl⟩;obtain⟨bs,hbs⟩:∃ bs,l.map (·.2)=bs:=⟨_,rfl⟩;have HLS:=Zh hLs;have HBSS:=Zh hbs;rw[hLs] at HLK HLL;rw[hLs,hbs] at hDB HKP;have hval:zl2 (RR Ls bs ln):=zji HLK.o (by have:=HLL.o;omega) yjz;have HBAD:=Zh hbad;cases hT:zd6 Ls bs ln mn with
    | none =>
     have HDB:=Zh (hDB.mono fun e w' h=>by rw[if_neg yjz,hT] at h;exact h);unfold zng at HDB;simp only at HDB;have HTT:=Zh hT;clear hDB hbad hval hT hLs hbs HKP;go_wp2_with (first
      | (go_at_call 8;(with_reducible refine HDB.o.mono ?_);rintro e w5 ⟨b5,rfl⟩;have HB5:=Zh (gro HBW.o b5);have HX5:=Zh (HXR.o.stays b5);clear b5)
      | (refine zab yk5 _ _ yk5 yk5 yk5 Try.sizeMR rfl rfl (BoxM.new w5 38 (fun _=>0) 0 (.slice none 0 0) (.slice none 0 0)) ?_;intro hbx;have hb6:Below w5.heap.size w5 ((w5.alloc (.cells zc5 38)).setRow w5.heap.size (zac (fun _=>0) 0 (.slice none 0 0) (.slice none 0 0))):=below_setRow ((ygr _ _).alloc (ygo _) _) (ygo _) _;have HX6:=Zh (HX5.o.stays hb6);have HB6:=Zh (gro HB5.o hb6);clear hbx hb6;go_simp)
      | (refine zab yk5 _ _ yk5 yk5 yk5 Try.sizeMR rfl rfl HX6.o ?_;intro hbx;have HX7:=Zh hbx;clear hbx;go_simp)
      | fail)
     refine bodyPost_ret (v := .tuple #[.agg zc5,.int .i64 11]) (zb0 Try.results18 rfl rfl Try.underlying38 rfl Try.sizeMR HX7.o) rfl ⟨?_,?_⟩
     .exact below_setRow HB6.o yll _
     .rw[if_neg HBAD.o,yh9,yh9,HLS.o,HBSS.o,HTT.o];rfl
    | some v =>
     obtain⟨ss,rows⟩:=v;obtain⟨hok,hr1,hr2⟩:=zq5 yjz hT;have hDB2:=hDB.mono fun e w' h=>by rw[if_neg yjz,hT] at h;exact h
     unfold zng at hDB2;simp only at hDB2;have hK6:zdi Ls bs<=256:=ze7 _ _;have hky:=HKP.o;rw[hT] at hky;unfold yg2 at hky;simp only at hky;have HRT:Hid (∀ (e:Ending) (w':World),Below w.heap.size w w'->zq0 w Ls bs ln κ (some (ss,rows)) e w'->zuv w l (ln:Int) (mn:Int) κ e w'):=Zh fun e w' hb h=>⟨hb,by rw[if_neg hbad,yh9,yh9,hLs,hbs,hT];exact h⟩
     unfold zq0 at HRT;simp only at HRT;generalize zhr Ls bs=F at *;generalize zdi Ls bs=K at *;generalize (ss.map fun s=>zbr (RR Ls bs ln) s (0,0))=outs at *;have HDB:=Zh hDB2;obtain⟨rn,hrn⟩:∃ m,rows.length=m:=⟨_,rfl⟩;obtain⟨on,hon⟩:∃ m,outs.length=m:=⟨_,rfl⟩;have h0:0<rn:=(by rw[←hrn];exact hok.some);have hon':outs.length=rn:=(by rw[hok.out,hrn]);have hrow:∀ (i:Nat) r,rows[i]?=some r->r.length=K∧∀ x∈r,x<rn:=fun i r e=>by rw[←hrn];exact hok.row i r e
     rw[hrn] at HRT hky;have HLE:=Zh (fun (W:World) (B B':Nat) (O O':Nat->Prop) (vN vO:Value) (hN:Nxt W B O vN rows) (hO:Ots W B' O' vO outs)=>ybs (F:=F) (κ:=κ) hN hO hrn hon' h0 hrow yjz yjz hky);have HRN:=Zh hrn;have HON:=Zh hon;clear hDB hDB2 hok hT hr1 hr2 hbad hrn hon h0 hon' hrow hK6 hval hLs hbs HKP hky;go_upto_region 14 with (first
      | (go_at_call 8;(with_reducible refine HDB.o.mono ?_);rintro e w5 ⟨b5,vN,vO,O,rfl,hn5,ho5⟩;obtain⟨AN,cN,hfN⟩:=hn5.form;obtain⟨AO,cO,hfO⟩:=ho5.form;rw[HRN.o] at hfN;rw[HON.o] at hfO;subst hfN hfO;have HB5:=Zh (gro HBW.o b5);have HX5:=Zh (HXR.o.stays b5);have HN5:=Zh hn5;have HO5:=Zh ho5;clear b5 hn5 ho5)
      | (refine zab yk5 _ _ yk5 yk5 yk5 Try.sizeMR rfl rfl (BoxM.new w5 38 (fun _=>0) 0 (.slice none 0 0) (.slice none 0 0)) ?_;intro hbx;have HX6:=Zh hbx;clear hbx;go_simp)
      | fail)
     have hb6:Below w5.heap.size w5 ((w5.alloc (.cells zc5 38)).setRow w5.heap.size (zac F K (.slice AN rn cN) (.slice AO on cO))):=below_setRow ((ygr _ _).alloc (ygo _) _) (ygo _) _;have hx6:=HX6.o;change BoxM ((w5.alloc (.cells zc5 38)).setRow w5.heap.size (zac F K (.slice AN rn cN) (.slice AO on cO))) _ _ _ _ _ _ at hx6;generalize (w5.alloc (.cells zc5 38)).setRow w5.heap.size (zac F K (.slice AN rn cN) (.slice AO on cO))=w6 at *;have hn6:=HN5.o.oth (Kept.of_below (fun _=>False) hb6) zce;have ho6:=HO5.o.kept (Kept.of_below (fun _=>False) hb6) fun b e e'=>e'
     have HY6:=Zh hx6;have HXG:=Zh (HX5.o.stays hb6);have HB6:=Zh (gro HB5.o hb6);have hl6:=HLE.o _ _ _ _ _ _ _ hn6 ho6;unfold yfy at hl6;have HL6:=Zh hl6;clear hx6 hb6 HX6 HX5 HN5 HO5 HDB HLE hn6 ho6 hl6;go_wp2_with (first
      | (refine zbh yk5 _ yk5 yk5 Try.underlying38 rfl Try.sizeMR HY6.o ?_;go_simp)
      | (go_at_call 31;(with_reducible refine HL6.o.mono ?_);rintro e w7 ⟨uN,uO,U,fs,rows',rfl,hls,hn7,ho7,b7⟩;obtain⟨EN,dN,e1⟩:=hn7.form;obtain⟨EO,dO,e2⟩:=zof ho7;subst e1 e2;have HB7:=Zh (gro HB6.o b7);have HX7:=Zh (HXG.o.stays b7);have HLSS:=Zh hls;have HN7:=Zh hn7;have HO7:=Zh ho7;have HW6:=Zh HB6.o.size;clear hls hn7 ho7 b7)
      | (refine zab yk5 _ _ yk5 yk5 yk5 Try.sizeMR rfl rfl HX7.o ?_;intro hbx;have HX8:=Zh hbx;clear hbx;go_simp)
      | fail)
     refine bodyPost_ret (v := .tuple #[.agg (zac F K (.slice EN rows'.length dN) (.slice EO fs.length dO)),.int .i64 0]) (zb0 Try.results18 rfl rfl Try.underlying38 rfl Try.sizeMR HX8.o) rfl (HRT.o _ _ ?_ ?_)
     .exact below_setRow HB7.o yll _
     .have hg6:gb<w6.heap.size:=HXG.o.lt;have hkp:=zci (Kept.refl (fun b=>b=gb) w7) (.inl rfl) (zac F K (.slice EN rows'.length dN) (.slice EO fs.length dO));exact⟨w6.heap.size,_,_,_,fs,rows',rfl,HW6.o,HLSS.o,(ydf HN7.o).kept hkp (fun b e e'=>by omega),za7 HO7.o fun b e hb=>hkp.block b hb (by have:=(ygs HO7.o b e).1;omega)⟩
end
def CodeIs (er:Value) (c:Nat):Prop:=(er = .nilIface∧c=0)∨(er=errV c∧1<=c∧c<=11)
theorem CodeIs.code {er:Value} {c:Nat} (h:CodeIs er c) (W:World):Calls Try.prog 19 #[er] W fun e w'=>e = .returned (.int .i64 (c:Int))∧W=w':=by
 rcases h with ⟨rfl,rfl⟩|⟨rfl,h1,h2⟩
 .exact yea W
 .exact zy5 W c h1 h2
theorem zzc {w w':World} {l:List (T×Bool)} {lam most:Int} {e:Ending} (h:ziu w l lam most e w') (hfw:Few l) (hlam : -9223372036854775808<=lam∧lam<=9223372036854775807) (hmost : -9223372036854775808<=most∧most<=9223372036854775807):
 Below w.heap.size w w'∧∃ (F:Nat->Nat) (K c:Nat) (er vN vO:Value) (B:Nat) (O:Nat->Prop) (rows:List (List Nat)) (outs:List (Nat×Nat)),e = .returned (.tuple #[.agg (zac F (K:Int) vN vO),er])∧CodeIs er c∧Nxt w' B O vN rows∧Ots w' B O vO outs∧outs.length=rows.length∧rows.length<=100000∧(∀ r∈rows,r.length<=100000)∧
  ∀ (W:World) (A:Option Addr) (cp:Nat),RdRules W A l->Calls Try.prog 18 #[.slice A l.length cp,.int .i64 lam,.int .i64 most] W fun e W'=>Below W.heap.size W W'∧∃ (uN uO:Value) (D:Nat) (U:Nat->Prop),e = .returned (.tuple #[.agg (zac F (K:Int) uN uO),.int .i64 (c:Int)])∧Nxt W' D U uN rows∧Ots W' D (fun b=>uO.ownBlock=some b) uO outs:=by
 unfold ziu at h;obtain⟨hb,h⟩:=h;refine⟨hb,?_⟩
 by_cases hbad:lam<1∨32<lam∨most<1∨1000<most
 .rw[if_pos hbad] at h;refine⟨fun _=>0,0,1,errV 1,.slice none 0 0,.slice none 0 0,0,fun _=>False,[],[],h,.inr ⟨rfl,by omega,by omega⟩,Nxt.nil _ _ _,Ots.nil _ _ _,rfl,by simp,by simp,fun W A cp hr=>?_⟩;have hd:=zv5 (κ:=id) (c:=cp) hr hfw hlam hmost (fun h=>absurd hbad h);refine hd.mono fun e W' hd=>?_
  unfold zuv at hd;rw[if_pos hbad] at hd;exact⟨hd.1,.slice none 0 0,.slice none 0 0,0,fun _=>False,hd.2,Nxt.nil _ _ _,Ots.nil _ _ _⟩
 .rw[if_neg hbad] at h;cases hT:zd6 (zaj l) (l.map (·.2)) lam.toNat most.toNat with
  | none =>
   rw[hT] at h;refine⟨fun _=>0,0,11,errV 11,.slice none 0 0,.slice none 0 0,0,fun _=>False,[],[],h,.inr ⟨rfl,by omega,by omega⟩,Nxt.nil _ _ _,Ots.nil _ _ _,rfl,by simp,by simp,fun W A cp hr=>?_⟩;have hd:=zv5 (κ:=id) (c:=cp) hr hfw hlam hmost (fun _=>by rw[hT];trivial);refine hd.mono fun e W' hd=>?_
   unfold zuv at hd;rw[if_neg hbad,hT] at hd;exact⟨hd.1,.slice none 0 0,.slice none 0 0,0,fun _=>False,hd.2,Nxt.nil _ _ _,Ots.nil _ _ _⟩
  | some v =>
   obtain⟨ss,rows⟩:=v;rw[hT] at h;obtain⟨q,B,vN,vO,O,fs,rows',he,_,hq,hls,hN,hO⟩:=h;obtain⟨hok,hr1,hr2⟩:=zq5 yjz hT;have hK6:zdi (zaj l) (l.map (·.2))<=256:=ze7 _ _;have hrow:∀ (i:Nat) r,rows[i]?=some r->r.length=zdi (zaj l) (l.map (·.2))∧∀ x∈r,x<rows.length:=fun i r e=>hok.row i r e
   obtain⟨hmet,hm1,hm2,hm3⟩:=zk6 (yfp rfl hrow) hok.some hls;have hd:=fun (W:World) (A:Option Addr) (cp:Nat) (hr:RdRules W A l)=>(zv5 (κ:=q.grp) (c:=cp) hr hfw hlam hmost (fun _=>by rw[hT];exact hq)).mono fun e W' (h:zuv W l lam most q.grp e W')=>(show Below W.heap.size W W'∧zq0 W (zaj l) (l.map (·.2)) lam.toNat q.grp (some (ss,rows)) e W' by unfold zuv at h;rw[if_neg hbad,hT] at h;exact h)
   unfold zq0 at hd;simp only at hd;have hl1:rows'.length<=100000:=ygw (by rw[hm1];exact hm3) (ygw hr1 yk6);have hl2:∀ r∈rows',r.length<=100000:=fun r hr=>by rw[hm2 r hr];exact ygw hK6 yk6
   clear hok hrow hT hq hmet hm2 hK6 hr2;generalize zhr (zaj l) (l.map (·.2))=F at *;generalize zdi (zaj l) (l.map (·.2))=K at *;generalize (ss.map fun s=>zbr (RR (zaj l) (l.map (·.2)) lam.toNat) s (0,0))=outs at *;have hol:(fs.map fun s=>outs.getD s (0,0)).length=rows'.length:=(by rw[yh8];exact hm1.symm);refine⟨F,K,0,.nilIface,vN,vO,B,O,rows',fs.map fun s=>outs.getD s (0,0),he,.inl ⟨rfl,rfl⟩,hN,hO,hol,hl1,hl2,fun W A cp hr=>?_⟩;refine (hd W A cp hr).mono fun e W' hd=>?_
   obtain⟨hb',D,uN,uO,U,fs2,rows2,he2,_,hls2,hn2,ho2⟩:=hd;obtain⟨e1,e2⟩:fs2=fs∧rows2=rows':=by
    have:=hls2.symm.trans hls;injection this with e1 e2
    exact⟨e1,e2⟩
   subst e1 e2;exact⟨hb',uN,uO,D,U,he2,hn2,⟨by rw[yh8];exact ho2,fun b e=>e⟩⟩
theorem zfh {ops:Array Oper} {S:World->Prop} {op:Oper} {a:Act} {g:Nat} {t:TypeId} {F:Nat->Nat} {n:Int} {vN vO:Value} (hw:Region.wanted op (yielded ops a.tmps)=true) (x:Operand) (ho:op.op = .load t x) (hx:a.eval x = .pointer (some ⟨g,0,none⟩)) (hS:∀ w,S w->BoxM w g t F n vN vO)
 {d:TypeDesc} (hu:Try.prog.underlying t=some d) (hd:d.isRow=true) (hs:(Try.prog.info? t).map (·.size)=some 259):YieldsIf Try.prog ops S op (.agg (zac F n vN vO)) a:=by
 have:=yieldsIf_load_mid hw t x ho g 0 hx (zac F n vN vO).toList d (fun w h=>(hS w h).whole) hu hd (by rw[hs];simp[zbu])
 simpa using this
theorem zpq (w:World):Below w.heap.size w w.drew:=⟨rfl,rfl,rfl,ygo _,fun _ _=>rfl⟩
theorem znu {w:World} {A B:Option Addr} {ca cb:Nat} {L:List ByteArray} {bs:List Bool} {lam most:Int} (hs:RdStr w A L) (hb:RdBo w B bs) (hL:L.length<=9223372036854775807) (hbs:bs.length<=9223372036854775807) (hsz:∀ s∈L,s.size<=9223372036854775807) (hlam : -9223372036854775808<=lam∧lam<=9223372036854775807) (hmost : -9223372036854775808<=most∧most<=9223372036854775807):
 Calls Try.prog 4 #[.slice A L.length ca,.slice B bs.length cb,.int .i64 lam,.int .i64 most] w fun e w'=>e = .returned (.bool true)∧Below w.heap.size w w':=by
 have HR:=Zh (fun W (h:Below w.heap.size w W)=>yd6 (ca:=ca) (cb:=cb) (hs.stays h) (hb.stays h) hL hbs hsz);obtain⟨R,hR⟩:∃ R,zbw L bs (min L.length 4)=R:=⟨_,rfl⟩;have hfew:=zy0 L bs (min L.length 4) yjz;rw[hR] at HR hfew;obtain⟨N1,hN1⟩:∃ n,L.length=n:=⟨_,rfl⟩;obtain⟨N2,hN2⟩:∃ n,bs.length=n:=⟨_,rfl⟩;rw[hN1,hN2] at HR ⊢;have HFW:=Zh hfew;clear hs hb hsz hR hfew hN1 hN2 hL hbs;have HUP:=Zh (yes w);have hz38:∀ w:World,Sem.run Try.prog (zeroValue 41) w = .ok (.agg zcq) w:=fun _=>by kernel_rfl
 have hz43:∀ w:World,Sem.run Try.prog (zeroValue 38) w = .ok (.agg zc5) w:=fun _=>by kernel_rfl
 by_cases hbig:100<most∧most<=1000
 .obtain⟨d1,d2⟩:=hbig;clear HR HFW hz38 hz43;go_enter Try.func4,Try.ntmps4;go_wp2_with (first
   | (go_at_call 16;(with_reducible refine HUP.o.mono ?_);rintro e w1 ⟨rfl,b1⟩;have B1:=Zh b1;clear b1)
   | fail)
  go_ret;exact⟨rfl,B1.o⟩
 have HT:Hid (∀ (W:World) (A:Option Addr) (c:Nat),RdRules W A R->Calls Try.prog 17 #[.slice A R.length c,.int .i64 lam,.int .i64 most] W fun e w'=>ziu W R lam most e w'):=Zh fun W A c hr=>zmk hr HFW.o.nfas (by have:=HFW.o.len;omega) hlam hmost
 obtain⟨n,hn⟩:∃ n,R.length=n:=⟨_,rfl⟩;have hBOTH:=fun (w w':World) (e:Ending) (h:ziu w R lam most e w')=>zzc h HFW.o hlam hmost
 unfold zsy at HR;rw[hn] at HR HT hBOTH;have HBO:=Zh hBOTH;have HN0:=Zh hn;clear hn hBOTH HFW;rcases (show ¬ 100<most∨(100<most∧¬ most<=1000) by omega) with d1|⟨d1,d2⟩
 all_goals
  clear hbig;go_enter Try.func4,Try.ntmps4;go_upto_region 6 with (first
   | (go_at_call 16;(with_reducible refine HUP.o.mono ?_);rintro e w1 ⟨rfl,b1⟩;have B1:=Zh b1;clear b1)
   | (go_at_call 6;(with_reducible refine (HR.o _ B1.o).mono ?_);rintro e w2 ⟨A2,c2,A2',c2',rfl,_,_,hr1,hr2,b2⟩;have B2:=Zh (gro B1.o b2);have HR1:=Zh hr1;have HR2:=Zh hr2;clear hr1 hr2 b2)
   | (go_at_call 17;(with_reducible refine (HT.o _ _ _ HR1.o).mono ?_);intro e w5 h5;obtain⟨b5,F,K,c,er,vN,vO,B5,O,rows,outs,rfl,hcd,hn5,ho5,hl1,hl2,hl3,hdoc⟩:=HBO.o _ _ _ h5;obtain⟨AN,cN,e1⟩:=hn5.form;obtain⟨AO,cO,e2⟩:=ho5.form;obtain⟨rn,hrn⟩:∃ m,rows.length=m:=⟨_,rfl⟩;obtain⟨on,hon⟩:∃ m,outs.length=m:=⟨_,rfl⟩;rw[hrn] at e1;rw[hon] at e2;subst e1 e2;have HB5:=Zh (gro B2.o b5);have HR5:=Zh (HR2.o.stays b5);have HCD:=Zh hcd;have HN5:=Zh hn5;have HO5:=Zh ho5;have HLL:=Zh (And.intro hl1 (And.intro hl2 hl3));have HDOC:=Zh hdoc;have HRN:=Zh hrn;have HON:=Zh hon;clear h5 hcd hn5 ho5 hl1 hl2 hl3 hdoc b5 hrn hon)
   | (refine zab yk5 _ _ yk5 yk5 yk5 Try.sizeMM rfl rfl (BoxM.new w5 41 (fun _=>0) 0 (.slice none 0 0) (.slice none 0 0)) ?_;intro hbx;have HX5:=Zh hbx;clear hbx;go_simp)
   | fail)
  have hb6:Below w5.heap.size w5 ((w5.alloc (.cells zcq 41)).setRow w5.heap.size (zac F K (.slice AN rn cN) (.slice AO on cO))):=below_setRow ((ygr _ _).alloc (ygo _) _) (ygo _) _;have hx6:=HX5.o;change BoxM ((w5.alloc (.cells zcq 41)).setRow w5.heap.size (zac F K (.slice AN rn cN) (.slice AO on cO))) _ _ _ _ _ _ at hx6;generalize (w5.alloc (.cells zcq 41)).setRow w5.heap.size (zac F K (.slice AN rn cN) (.slice AO on cO))=w6 at *;have HX6:=Zh hx6;have HB6:=Zh (gro HB5.o hb6);have HN6:=Zh (HN5.o.oth (Kept.of_below (fun _=>False) hb6) zce);have HO6:=Zh (HO5.o.kept (Kept.of_below (fun _=>False) hb6) fun b e e'=>e');have hd6:=HDOC.o w6 _ c2' (HR5.o.stays hb6);obtain⟨g5,hg5⟩:∃ g,w5.heap.size=g:=⟨_,rfl⟩;rw[hg5] at HX6 ⊢;clear hx6 hb6 HX5 hg5 HN5 HO5 HR5 HDOC HR HT HBO HR1 HR2;have HD6:=Zh hd6;clear hd6;go_upto_region 7 with (first
   | (go_at_call 18;(with_reducible refine HD6.o.mono ?_);rintro e w7 ⟨b7,uN,uO,D,U,rfl,hn7,ho7⟩;obtain⟨EN,dN,hfN⟩:=hn7.form;obtain⟨EO,dO,hfO⟩:=ho7.form;rw[HRN.o] at hfN;rw[HON.o] at hfO;subst hfN hfO;have HB7:=Zh (gro HB6.o b7);have HX7:=Zh (HX6.o.stays b7);have HN7:=Zh (HN6.o.oth (Kept.of_below (fun _=>False) b7) zce);have HO7:=Zh (HO6.o.kept (Kept.of_below (fun _=>False) b7) fun b e e'=>e');have KN7:=Zh hn7;have KO7:=Zh ho7;clear b7 hn7 ho7)
   | (refine zab yk5 _ _ yk5 yk5 yk5 Try.sizeMR rfl rfl (BoxM.new w7 38 (fun _=>0) 0 (.slice none 0 0) (.slice none 0 0)) ?_;intro hbx;have HY7:=Zh hbx;clear hbx;go_simp)
   | fail)
  have hb8:Below w7.heap.size w7 ((w7.alloc (.cells zc5 38)).setRow w7.heap.size (zac F K (.slice EN rn dN) (.slice EO on dO))):=below_setRow ((ygr _ _).alloc (ygo _) _) (ygo _) _;have hy8:=HY7.o;change BoxM ((w7.alloc (.cells zc5 38)).setRow w7.heap.size (zac F K (.slice EN rn dN) (.slice EO on dO))) _ _ _ _ _ _ at hy8;generalize (w7.alloc (.cells zc5 38)).setRow w7.heap.size (zac F K (.slice EN rn dN) (.slice EO on dO))=w8 at *;have HY8:=Zh hy8;have HX8:=Zh (HX7.o.stays hb8);have HB8:=Zh (gro HB7.o hb8);have HN8:=Zh (HN7.o.oth (Kept.of_below (fun _=>False) hb8) zce);have HO8:=Zh (HO7.o.kept (Kept.of_below (fun _=>False) hb8) fun b e e'=>e');have KN8:=Zh (KN7.o.oth (Kept.of_below (fun _=>False) hb8) zce);have KO8:=Zh (KO7.o.kept (Kept.of_below (fun _=>False) hb8) fun b e e'=>e');obtain⟨g7,hg7⟩:∃ g,w7.heap.size=g:=⟨_,rfl⟩;rw[hg7] at HY8 ⊢;clear hy8 hb8 HY7 HX7 HB7 HD6 HX6 HN7 HO7 KN7 KO7 hg7 HN6 HO6;have hmx:Try.prog.follows .mixedOrders=true:=yk2;have HLK:=Zh (fun W:World=>yff W F K AN rn cN AO on cO);have HSM:=Zh (fun (W:World) (hW:Below w8.heap.size w8 W)=>yd7 (n:=K) (F:=F) (HN8.o.oth (Kept.of_below (fun _=>False) hW) zce) (HO8.o.kept (Kept.of_below (fun _=>False) hW) fun b e e'=>e') (KN8.o.oth (Kept.of_below (fun _=>False) hW) zce) (KO8.o.kept (Kept.of_below (fun _=>False) hW) fun b e e'=>e') HLL.o.1 HLL.o.2.1 HLL.o.2.2);have hR0:=zpq w8;refine zcp (R:=fun W=>Below w8.heap.size w8 W) (S:=fun _=>True) (T:=[]) hmx ?_;refine anyR_tk (i:=0) (v := .agg (zac F K (.slice AN rn cN) (.slice AO on cO))) rfl (zfh yk5 _ yk5 yk5 (fun W hW=>HX8.o.stays hW) Try.underlying41 rfl Try.sizeMM) hR0 (fun _=>trivial) ?_;refine anyR_tk (i:=2) (v := .agg (zac F K (.slice EN rn dN) (.slice EO on dO))) rfl (zfh yk5 _ yk5 yk5 (fun W hW=>HY8.o.stays hW) Try.underlying38 rfl Try.sizeMR) hR0 (fun _=>trivial) ?_;refine za2 (rs:=[1]) yk2 yk3 ?_;refine za5 (za4 rfl fun K' hK=>?_);go_simp;go_at_call 13
  with_reducible refine (HLK.o _).mono ?_
  rintro e w9 ⟨rfl,b9⟩;have h9:=gro hR0 b9;refine hK.out _ _ h9 (fun _=>trivial) ?_;clear hK K' b9;refine za2 (rs:=[3]) yk2 yk3 ?_;refine za5 (za4 rfl fun K' hK=>?_);go_simp;go_at_call 12
  with_reducible refine (HSM.o _ h9).mono ?_
  rintro e w10 ⟨rfl,b10⟩;have h10:=gro h9 b10;refine hK.out _ _ h10 (fun _=>trivial) ?_;clear hK K' b10 h9;refine za2 (rs:=[4]) yk2 yk3 ?_;refine za5 (za4 rfl fun K' hK=>?_);go_simp;refine hK.out _ _ h10 (fun _=>trivial) ?_;clear hK K';refine zcb yk2 ?_ _;have HB10:=Zh (gro HB8.o h10);have HCO:=Zh (fun W:World=>HCD.o.code W);have hcc:((c:Int)==(c:Int))=true:=yk3;clear h10 hR0 HN8 HO8 KN8 KO8 HX8 HY8 HLK HSM;go_wp2_with (first
   | (go_at_call 19;(with_reducible refine (HCO.o _).mono ?_);rintro e w11 ⟨rfl,rfl⟩)
   | fail)
  go_ret;exact⟨rfl,HB10.o⟩
theorem znt (w:World) (A:Option Addr) (ca:Nat) (L:List ByteArray) (B:Option Addr) (cb:Nat) (bs:List Bool) (lam most:Int)
 (hs:RdStr w A L) (hL:L.length<=9223372036854775807) (hsz:∀ s∈L,s.size<=9223372036854775807) (hb:RdBo w B bs) (hbs:bs.length<=9223372036854775807) (c2 : -9223372036854775808<=lam) (e2:lam<=9223372036854775807) (c3 : -9223372036854775808<=most) (e3:most<=9223372036854775807):
 Calls Try.prog 4 #[.slice A L.length ca,.slice B bs.length cb,.int .i64 lam,.int .i64 most] w fun e w'=>e = .returned (.bool true)∧Below w.heap.size w w':=
 znu hs hb hL hbs hsz ⟨c2,e2⟩ ⟨c3,e3⟩
end Go.Proofs.Ytipfgpfplakhiaa
