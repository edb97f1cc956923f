import Derived.Test.YtipfgpfplakhiaaDoorTw2
import Derived.Laws.BitsAllLaws
set_option linter.unusedVariables false
set_option linter.unusedSimpArgs false
set_option maxRecDepth 20000
set_option maxHeartbeats 4000000
namespace Go.Proofs.YtipfgpfplakhiaaDoor
open Go Go.RowKit
section
def lon (lam x:Nat):Nat:=x % 2 ^ lam*2
theorem ycl (lam x:Nat) (hl:lam<=32) (hx:x<2 ^ (lam+1)):x &&& (18446744073709551615-2 ^ lam)=x % 2 ^ lam:=by
 apply yga;intro i;have h64:2 ^ lam<2 ^ 64:=Nat.pow_lt_pow_right yie yie;have e:18446744073709551615-2 ^ lam=2 ^ 64-(2 ^ lam+1):=yie;rw[Nat.testBit_and,e,yhv h64,Nat.testBit_mod_two_pow,yh4]
 by_cases h1:i<lam
 .have h2:¬ lam=i:=yie;have h3:i<64:=yie;simp[h1,h2,h3]
 .by_cases h2:lam=i
  .simp[h1,h2]
  .have h4:x.testBit i=false:=Nat.testBit_lt_two_pow (yff hx (ygq yie yie));simp[h1,h4]
theorem ydu (lam x:Nat):lon lam x<2 ^ (lam+1):=by
 unfold lon;have:=Nat.mod_lt x (yhq lam);rw[Nat.pow_succ];omega
def addTo (L:List Nat) (p n:Nat):List Nat:=L.set p (L.getD p 0 ||| n)
def zdo (L:List Nat) (base n:Nat):List Nat->List Nat
 | []=>L
 | q::qs=>zdo (addTo L (base+q) n) base n qs
def zfk (L:List Nat):List Nat->List Nat
 | []=>L
 | p::ps=>zfk (L.set p 2) ps
def zhi (R:RSt) (L:List Nat):List (Nat×Nat)->List Nat
 | []=>L
 | x::xs=>zhi R (match R.places[x.1]? with | some p=>zdo L p.base (lon R.lam x.2) p.fol | none=>L) xs
def zcl (L:List Nat) (k:Nat):List (Nat×Nat):=(List.range k).filterMap fun p=>if L.getD p 0=0 then none else some (p,L.getD p 0)
theorem zdk (L:List Nat) (k:Nat):zcl L (k+1)=zcl L k++(if L.getD k 0=0 then [] else [(k,L.getD k 0)]):=by
 unfold zcl;rw[ygh,List.filterMap_append]
 congr 1
 split <;> simp_all
theorem zku (L:List Nat) (k:Nat):(zcl L k).length<=k:=by
 have:=List.length_filterMap_le (fun p=>if L.getD p 0=0 then none else some (p,L.getD p 0)) (List.range k)
 simpa [zcl] using this
def zsf (R:RSt) (st:List (Nat×Nat)):List Nat:=zhi R (zfk (List.replicate R.places.length 0) R.first) st
def zf0 (R:RSt) (st:List (Nat×Nat)):List (Nat×Nat):=zcl (zsf R st) R.places.length
theorem zka (L:List Nat) (p n:Nat):(addTo L p n).length=L.length:=by simp[addTo]
theorem zji:∀ (qs:List Nat) (L:List Nat) (base n:Nat),(zdo L base n qs).length=L.length
 | [],L,base,n=>rfl
 | q::qs,L,base,n=>by rw[zdo,zji qs,zka]
theorem zln:∀ (ps:List Nat) (L:List Nat),(zfk L ps).length=L.length
 | [],L=>rfl
 | p::ps,L=>by rw[zfk,zln ps];simp
def Und (lam:Nat) (L:List Nat):Prop:=∀ x∈L,x<2 ^ (lam+1)
theorem Und.getD {lam:Nat} {L:List Nat} (h:Und lam L) (p:Nat):L.getD p 0<2 ^ (lam+1):=by
 rw[yf0];cases e:L[p]? with
 | none=>exact yhq _
 | some v=>exact h v (yfh e)
theorem Und.set {lam p v:Nat} {L:List Nat} (h:Und lam L) (hv:v<2 ^ (lam+1)):Und lam (L.set p v):=fun x hx=>by
 rcases List.mem_or_eq_of_mem_set hx with h1|h1
 .exact h x h1
 .rw[h1];exact hv
theorem Und.addTo {lam p n:Nat} {L:List Nat} (h:Und lam L) (hn:n<2 ^ (lam+1)):Und lam (addTo L p n):=h.set (yhy (h.getD p) hn)
def U64s (w:World) (C g:Nat) (L:List Nat):Prop:=w.ownsRow C 47 1 (.slice (some ⟨g,0,none⟩) L.length L.length) L.length (L.map fun (x:Nat)=>Value.int .u64 (x:Int))
section
variable {w w':World} {C g:Nat} {L:List Nat} {Q:Nat->Prop}
theorem U64s.cell (h:U64s w C g L) (j:Nat) (hj:j<L.length):w.cell? ⟨g,j,none⟩=some (.int .u64 (L.getD j 0:Nat)):=by
 rw[yf7 h j yie];simp[hj]
theorem U64s.frozen (h:U64s w C g L) (j:Nat):w.frozen? ⟨g,j,none⟩=false:=yfw h j
theorem U64s.in (h:U64s w C g L):C<=g∧g<w.heap.size:=yf5 h g rfl
theorem U64s.block (h:U64s w C g L) (hb:w'.heap[g]?=w.heap[g]?):U64s w' C g L:=za8 h fun b e _=>by injection e with e;subst e;exact hb
theorem U64s.stays (h:U64s w C g L) (hb:Below w.heap.size w w'):U64s w' C g L:=h.block (hb.block g h.in.2)
theorem U64s.set (h:U64s w C g L) (p:Nat) (v:Nat):U64s (w.setCell ⟨g,p,none⟩ (.int .u64 (v:Int))) C g (L.set p v):=by
 have:=(yg1 h p (.int .u64 (v:Int))).1;unfold U64s;rw[List.length_set,List.map_set];exact this
end
theorem zuh (n:Nat):(madeCells (Value.int .u64 0).cells (n*1)).toList=(List.replicate n 0).map fun (x:Nat)=>Value.int .u64 (x:Int):=by
 have:=toList_madeCells_one (Value.int .u64 0) n;rw[ygl];rw[show (madeCells (Value.int .u64 0).cells n).toList=List.replicate n (Value.int .u64 0) from this,List.map_replicate];rfl
end
section
attribute [local go_sem ↓] Go.wp_at_zero Go.wp_at_succ
theorem Tryd.infoU64:(Tryd.prog.info? 47).map (fun i=>(i.zero,i.size,i.bytes))=some (some (.int .u64 0),1,8):=by kernel_rfl
theorem yca {Q:Nat->Prop} {w w':World} (h:Kept Q w w') (n:Nat):Kept Q w (w'.drewN n):=⟨h.os,h.tape,h.output,h.size,h.block⟩
theorem zas {w:World} {B e size n:Nat} {v:Value} {xs:List Value} (h:w.ownsRow B e size v n xs):∃ A c,v = .slice A n c:=by
 rcases h.2 with ⟨rfl,h0⟩|⟨g,cap,cur,rfl,_⟩
 .exact⟨none,0,by rw[h0]⟩
 .exact⟨_,_,rfl⟩
theorem Wds.low {w:World} {B C:Nat} {v:Value} {l:List (Nat×Nat)} (h:Wds w B v l) (hb:C<=B):Wds w C v l:=by
 refine⟨h.1,?_⟩;rcases h.2 with h|⟨g,cap,cur,e,hB,r⟩
 .exact .inl h
 .exact .inr ⟨g,cap,cur,e,yfa hb hB,r⟩
structure zn9 (R:RSt):Prop where
 lam:1<=R.lam∧R.lam<=32
 P:R.places.length<=100000
 first:∀ p∈R.first,p<R.places.length
 firstN:R.first.length<=100000
 fol:∀ (i:Nat) p,R.places[i]?=some p->(∀ q∈p.fol,p.base+q<R.places.length)∧p.fol.length<=100000∧p.base<=100000
def May (R:RSt) (st:List (Nat×Nat)):Prop:=∀ x∈st,x.1<R.places.length∧x.2<2 ^ (R.lam+1)
theorem zz5 {w:World} {gr D:Nat} {R:RSt} {va:Value} {st:List (Nat×Nat)} (hR:RulesIn w gr R) (hV:zn9 R) (ha:Wds w D va st) (hf:May R st) (hl:st.length<=100000):
 Calls Tryd.prog 24 #[.pointer (some ⟨gr,0,none⟩),va] w fun e w'=>∃ v',e = .returned v'∧Wds w' w.heap.size v' (zf0 R st)∧Below w.heap.size w w':=by
 obtain⟨A,c,rfl⟩:=ha.form;obtain⟨vp,vs,v1,hbox,hvs,hrow,hfol,hfirst⟩:=hR;have hR':RulesIn w gr R:=⟨vp,vs,v1,hbox,hvs,hrow,hfol,hfirst⟩;obtain⟨Ap,cp,hfp⟩:=zas hrow;subst hfp;obtain⟨A1,c1,e1,-,-⟩:=hfirst.news;rw[zaj] at e1;subst e1;obtain⟨N1,hN1⟩:∃ n,R.first.length=n:=⟨_,rfl⟩
 rw[hN1] at hfirst hbox;have HN1:=Zh hN1;have hN19:N1<=100000:=(by rw[←hN1];exact hV.firstN);clear hN1;have HR:=Zh hR';have HA:=Zh ha;have HF:=Zh hf;have HV:=Zh hV;have HF1:=Zh hfirst;have r0:w.cell? ⟨gr,0,none⟩=some (.slice Ap R.places.length cp):=cell_of_row w gr 0 _ _ (0,0) hbox;have r1:w.cell? ⟨gr,1,none⟩=some (.slice A1 N1 c1):=cell_of_row w gr 1 _ _ (0,0) hbox;have r2:w.cell? ⟨gr,2,none⟩=some (.int .i64 R.lam):=cell_of_row w gr 2 _ _ (0,0) hbox;have hP9:=hV.P;obtain⟨L,hL⟩:∃ L,st.length=L:=⟨_,rfl⟩;rw[hL] at HA hl ⊢;have HL:=Zh hL;obtain⟨P,hP⟩:∃ P,R.places.length=P:=⟨_,rfl⟩;rw[hP] at r0 hP9;have HP:=Zh hP;obtain⟨i0,hi,hi0,hi1,hi2⟩:=info_parts Tryd.infoU64;obtain⟨wm,hmk,hown,hgm⟩:=run_make_full (P:=Tryd.prog) w w.heap.size 102 47 i0 _ 1 Tryd.underlying102 hi hi0 hi1 .i64 .i64 P (by rw[hi2];omega) yin (yez _);have hbm:Below w.heap.size w wm:=(yf6 _ _).grown hgm (yez _) fun q e=>by cases e
 have hu0:U64s wm w.heap.size w.heap.size (List.replicate P 0):=by
  unfold U64s;rw[←zuh,ygw];exact hown
 have r0':=(hbm.cell (p:=⟨gr,0,none⟩) (za0 hbox)).trans r0;have r1':=(hbm.cell (p:=⟨gr,1,none⟩) (za0 hbox)).trans r1;have r2':=(hbm.cell (p:=⟨gr,2,none⟩) (za0 hbox)).trans r2;have HBM:=Zh hbm;have HU0:=Zh hu0;have hgrl:gr<w.heap.size:=za0 hbox;have hnpos:w.heap.size<wm.heap.size:=hu0.in.2;clear hown hgm hbm hu0 hR' hbox hvs hrow hfol hfirst ha hf hL hV hP;go_enter Tryd.func24,Tryd.ntmps24;go_wp2;go_loopg [28] N1 (fun m i wr=>∃ (k:Nat) (Ls:List Nat),i = .int .i64 (k:Int)∧k<=N1∧m=N1-k∧U64s wr w.heap.size w.heap.size Ls∧Ls.length=P∧zfk Ls (R.first.drop k)=zfk (List.replicate P 0) R.first∧Und R.lam Ls∧Kept (fun b=>b=w.heap.size) wm wr)
 case atStart=>exact⟨0,_,rfl,yf8 _,rfl,HU0.o,by simp,rfl,fun x hx=>by rw[(List.mem_replicate.1 hx).2];exact yhq _,Kept.refl _ _⟩
 case round =>
  obtain⟨k,Ls,rfl,hk,hmk,hu,hlen,hah,hund,hkp⟩:=hrel;have HMK:=Zh hmk;have HU:=Zh hu;have HLEN:=Zh hlen;have HAH:=Zh hah;have HUND:=Zh hund;have HKP:=Zh hkp;clear hmk hu hlen hah hund hkp
  by_cases hkN:k<N1
  .have hks:k<R.first.length:=by rw[HN1.o];exact hkN
   have hi1':=HF1.o.stays HBM.o;have hin:=hi1'.off HKP.o (fun b e q=>by have:=(HF1.o.in e).2;omega);obtain⟨g1,cc,e1,_,hg1,hc1⟩:=hin.at k (by rw[zaj];exact hks);rw[zaj,HN1.o] at e1;simp only[Value.slice.injEq] at e1;obtain⟨rfl,-,rfl⟩:=e1;have hce:(ns R.first)[k]'(by rw[zaj];exact hks)=((R.first[k]'hks:Nat):Int):=(by simp[ns]);rw[hce] at hc1;have hpP:=HV.o.first _ (yfq hks)
   have hdr:=yge hks;obtain⟨x,hx⟩:∃ x,R.first[k]'hks=x:=⟨_,rfl⟩
   rw[hx] at hc1 hpP hdr;rw[HP.o] at hpP;have ha:=HAH.o;rw[hdr,zfk] at ha;have HA2:=Zh ha;have hcell:=HU.o.cell x (by rw[HLEN.o];exact hpP);have hfz:=HU.o.frozen x;have k0:(0:Int)<=(k:Int):=yie;have k1:(k:Int)<(N1:Int):=yie;have x0:(0:Int)<=(x:Int):=yie;have x1:(x:Int)<(P:Int):=yie;clear hi1' hin hce hdr hx ha hpP;go_wp2;go_roundg (N1-(k+1))
   case measure=>have:=HMK.o;omega
   case rel=>exact⟨k+1,Ls.set x 2,by go_num,by omega,rfl,HU.o.set x 2,by simp[HLEN.o],HA2.o,HUND.o.set (by have:=HV.o.lam.1;calc 2<2 ^ 2:=by decide
    _<=2 ^ (R.lam+1):=ygq yie yie),HKP.o.setCell (a:=⟨w.heap.size,x,none⟩) (.inl rfl) _⟩
  .have hkn:k=R.first.length:=by rw[HN1.o];omega
   have ha:=HAH.o;rw[hkn,List.drop_length,zfk] at ha;have HL1:=Zh ha;clear ha hkn HAH HMK;go_wp2;have HU1:=Zh (show U64s wr w.heap.size w.heap.size Ls∧Ls.length=P∧Und R.lam Ls∧Kept (fun b=>b=w.heap.size) wm wr from⟨HU.o,HLEN.o,HUND.o,HKP.o⟩);clear HU HLEN HUND HKP;go_loopg [38] L (fun m i wq=>∃ (q:Nat) (Lq:List Nat),i = .int .i64 (q:Int)∧q<=L∧m=L-q∧U64s wq w.heap.size w.heap.size Lq∧Lq.length=P∧zhi R Lq (st.drop q)=zhi R Ls st∧Und R.lam Lq∧Kept (fun b=>b=w.heap.size) wm wq)
   case atStart=>exact⟨0,Ls,rfl,yf8 _,rfl,HU1.o.1,HU1.o.2.1,rfl,HU1.o.2.2.1,HU1.o.2.2.2⟩
   case round =>
    obtain⟨q,Lq,rfl,hq,hmq,hu,hlen,hah,hund,hkp⟩:=hrel;have HMQ:=Zh hmq;have HU:=Zh hu;have HLEN:=Zh hlen;have HAH:=Zh hah;have HUND:=Zh hund;have HKP:=Zh hkp;clear hmq hu hlen hah hund hkp
    by_cases hqL:q<L
    .have hks:q<st.length:=(by rw[HL.o];exact hqL);obtain⟨x,hx⟩:∃ x,st[q]?=some x:=⟨_,yey hks⟩;obtain⟨cu0,hcu0⟩:=za7 HU0.o (b:=w.heap.size) rfl;have hAw:=(HA.o.stays HBM.o).off HKP.o fun b e e2=>by have:=(HA.o.in e).2;omega
     obtain⟨g,cc,e1,_,hg,h0,h1⟩:=hAw.at hx;rw[HL.o] at e1;simp only[Value.slice.injEq] at e1;obtain⟨rfl,-,rfl⟩:=e1;have hgx:st[q]'hks=x:=yiv;obtain⟨x1,x2⟩:=x;have hfx:=HF.o (x1,x2) (by rw[←hgx];exact yfq hks);obtain⟨p,hp⟩:∃ p,R.places[x1]?=some p:=⟨_,yey hfx.1⟩;obtain⟨gp,cp',v,r0m,hpc,hfl,hgp,cup,hcup⟩:=(HR.o.stays HBM.o).at hp;have hgrm:∃ cu,wm.heap[gr]?=some (.cells cu 77 (0,0)):=(by obtain⟨_,_,_,hb,_⟩:=HR.o.stays HBM.o;exact⟨_,hb⟩);have hne1:¬ gp=w.heap.size:=za1 hcup hcu0 yij;have hne2:¬ gr=w.heap.size:=(by obtain⟨cu,hb⟩:=hgrm;exact za1 hb hcu0 yij);obtain⟨hfq,hfn,hfb⟩:=HV.o.fol x1 p hp;have hdr:=yge hks;have ha:=HAH.o;rw[hdr,hgx,zhi] at ha;simp only[hp] at ha;have HAH2:=Zh ha;obtain⟨Av,cv,e2,-,-⟩:=hfl.news;rw[zaj] at e2;subst e2;have hvne:∀ b,(Value.slice Av p.fol.length cv).ownBlock=some b->¬ b=w.heap.size:=fun b e=>by
      obtain⟨cu,hb⟩:=hfl.kind e;exact za1 hb hcu0 yij
     have hPC:∀ W,Kept (fun b=>b=w.heap.size) wm W->W.cell? ⟨gr,0,none⟩=some (.slice (some ⟨gp,0,none⟩) R.places.length cp')∧W.cell? ⟨gr,2,none⟩=some (.int .i64 R.lam)∧W.cell? ⟨gp,x1*8+4,none⟩=some (.slice Av p.fol.length cv)∧W.cell? ⟨gp,x1*8+5,none⟩=some (.int .i64 p.base)∧Ints W 0 (.slice Av p.fol.length cv) (ns p.fol)∧gp<W.heap.size∧gr<W.heap.size:=fun W hk =>
      ⟨hk.cell r0m hne2,hk.cell r2' hne2,hk.cell (hpc 4 _ rfl) hne1,hk.cell (hpc 5 _ rfl) hne1,hfl.off hk hvne,yff hgp hk.size,yff (yff hgrl (yhh hnpos)) hk.size⟩
     have HPC:=Zh hPC;obtain⟨r0w,r2w,hc4,hc5,hflw,hgpw,hgr⟩:=hPC wr HKP.o;have hxP:(x1:Int)<(P:Int):=(by have:=hfx.1;have:=HP.o;omega);rw[HP.o] at r0w;have i0:(0:Int)<=(x1:Int):=yie;have k0:(0:Int)<=(q:Int):=yie;have k1:(q:Int)<(L:Int):=yie;obtain⟨lam,hlam⟩:∃ lam,R.lam=lam:=⟨_,rfl⟩;have hlm:=HV.o.lam;have hx2:=hfx.2;rw[hlam] at r2w hlm hx2;have HFQ:=Zh hfq;have HX2:=Zh hx2;have HLAM:=Zh hlam;have j0:(0:Int)<=(lam:Int):=yie;have j1:(lam:Int)<=64:=yie;have hsh:IntKind.u64.wrap (1*2 ^ ((lam:Int)).toNat)=((2 ^ lam:Nat):Int):=by
      have h64:2 ^ lam<2 ^ 64:=Nat.pow_lt_pow_right yie yie;rw[yft,IntKind.wrap_u64,Int.one_mul];rw[show ((2:Int) ^ lam)=((2 ^ lam:Nat):Int) by push_cast;rfl];omega
     obtain⟨M,hM⟩:∃ M:Nat,2 ^ lam=M:=⟨_,rfl⟩;obtain⟨y,hy⟩:∃ y:Nat,x2 % 2 ^ lam=y:=⟨_,rfl⟩;obtain⟨n,hn⟩:∃ n:Nat,y*2=n:=⟨_,rfl⟩;have h33:2 ^ (lam+1)<=2 ^ 33:=ygq yie yie;have hsh2:IntKind.u64.wrap ((2:Int) ^ lam)=(M:Int):=by
      rw[←hM,←hsh,yft,Int.one_mul]
     rw[hM] at hsh;have hMlt:M<2 ^ 33:=(by rw[←hM];exact yff (Nat.pow_lt_pow_right yie yie) h33);have hand:bits .andNot .u64 (x2:Int) (M:Int)=(y:Int):=by
      rw[u64_andNot_nat x2 M yie yie,←hM,ycl lam x2 hlm.2 hx2,hy]
     have hylt:y<2 ^ 33:=(by rw[←hy];have:=Nat.mod_lt x2 (yhq lam);omega);have hwn:IntKind.u64.wrap ((y:Int)*2)=(n:Int):=(by rw[IntKind.wrap_u64];omega);have hnlt:n<2 ^ 34:=yie;have hlon:lon R.lam x2=n:=(by unfold lon;rw[hlam,hy,hn]);have HLON:=Zh hlon;simp only[hlon] at HAH2;simp only at h0 h1;clear hM hy hn h33 hlon hPC hflw r0m hcup hgrm hvne hAw hpc hfl hfq hdr ha hgx hfx hp hx hks hlam;go_wp2;go_quiet (fail);go_wp2;go_quiet (fail);go_wp2;obtain⟨NF,hNF⟩:∃ n,p.fol.length=n:=⟨_,rfl⟩;have HNF:=Zh hNF;rw[hNF] at HPC hc4 hfn ⊢;obtain⟨base,hbase⟩:∃ b,p.base=b:=⟨_,rfl⟩;have HBASE:=Zh hbase;rw[hbase] at HPC hc5 hfb HAH2 HFQ;clear hNF hbase;go_loopg [63] NF (fun m i wz=>∃ (z:Nat) (Lz:List Nat),i = .int .i64 (z:Int)∧z<=NF∧m=NF-z∧U64s wz w.heap.size w.heap.size Lz∧Lz.length=P∧zdo Lz base n (p.fol.drop z)=zdo Lq base n p.fol∧Und R.lam Lz∧Kept (fun b=>b=w.heap.size) wm wz)
     case atStart=>exact⟨0,Lq,rfl,yf8 _,rfl,HU.o.stays (zhg ((yf6 _ _).alloc (yez _) _) _),HLEN.o,rfl,HUND.o,yca (HKP.o.alloc _) _⟩
     case round =>
      obtain⟨z,Lz,rfl,hz,hmz,huz,hlz,haz,hdz,hkz⟩:=hrel;have HMZ:=Zh hmz;have HUZ:=Zh huz;have HLZ:=Zh hlz;have HAZ:=Zh haz;have HDZ:=Zh hdz;have HKZ:=Zh hkz;clear hmz huz hlz haz hdz hkz r0w r2w hc4 hc5 hgpw hgr;obtain⟨r0w,r2w,hc4,hc5,hfl,hgpw,hgr⟩:=HPC.o wr HKZ.o
      by_cases hzF:z<NF
      .have hzs:z<p.fol.length:=(by rw[HNF.o];exact hzF);obtain⟨gv,cv',e3,_,hgv,hcv⟩:=hfl.at z (by rw[zaj];exact hzs);rw[zaj,HNF.o] at e3;simp only[Value.slice.injEq] at e3;obtain⟨rfl,-,rfl⟩:=e3;have hce:(ns p.fol)[z]'(by rw[zaj];exact hzs)=((p.fol[z]'hzs:Nat):Int):=(by simp[ns]);rw[hce] at hcv;have hqP:=HFQ.o _ (yfq hzs);have hdr:=yge hzs;obtain⟨f,hf⟩:∃ f,p.fol[z]'hzs=f:=⟨_,rfl⟩;rw[hf] at hcv hqP hdr;rw[HP.o] at hqP;have ha:=HAZ.o;rw[hdr,zdo] at ha;have HAZ2:=Zh ha;have hcell:=HUZ.o.cell (base+f) (by rw[HLZ.o];exact hqP);have hfz:=HUZ.o.frozen (base+f);have hold:=HDZ.o.getD (base+f);rw[HLAM.o] at hold;have h33:2 ^ (lam+1)<=2 ^ 33:=ygq yie yie;obtain⟨o,ho⟩:∃ o,Lz.getD (base+f) 0=o:=⟨_,rfl⟩;rw[ho] at hcell hold;have hor:=bits_or_u64_nat o n yie yie;have hnl:n<2 ^ (R.lam+1):=(by rw[←HLON.o];exact ydu _ _);have HNL:=Zh hnl;have HOO:=Zh ho;have z0:(0:Int)<=(z:Int):=yie;have z1:(z:Int)<(NF:Int):=yie;have b0:(0:Int)<=(base:Int)+(f:Int):=yie;have b1:(base:Int)+(f:Int)<(P:Int):=yie;have b2:((base:Int)+(f:Int)).toNat=base+f:=yie;have hwz:w.heap.size<wr.heap.size:=HUZ.o.in.2;clear hfl hce hdr hf ha hqP hold h33 hnl ho;go_wp2;go_roundg (NF-(z+1))
       case measure=>have:=HMZ.o;omega
       case rel =>
        have hset:=HUZ.o.set (base+f) (o ||| n);refine⟨z+1,addTo Lz (base+f) n,by go_num,by omega,rfl,?_,by rw[zka];exact HLZ.o,HAZ2.o,HDZ.o.addTo HNL.o,HKZ.o.setCell (a:=⟨w.heap.size,base+f,none⟩) (.inl rfl) _⟩;unfold addTo;rw[HOO.o];exact hset
      .have hzn:z=p.fol.length:=(by rw[HNF.o];omega);have ha:=HAZ.o;rw[hzn,List.drop_length,zdo] at ha;have HAZ2:=Zh ha;clear ha hzn;go_wp2;go_roundg (L-(q+1))
       case measure=>have:=HMQ.o;omega
       case rel=>exact⟨q+1,Lz,by go_num,by omega,rfl,HUZ.o,HLZ.o,by rw[HAZ2.o];exact HAH2.o,HDZ.o,HKZ.o⟩
    .have hkn:q=st.length:=yj2;have ha:=HAH.o;rw[hkn,List.drop_length,zhi] at ha;have hfin:Lq=zsf R st:=(by rw[ha,HL1.o,←HP.o];rfl);have HFIN:=Zh hfin;clear ha hkn hfin HAH HMQ;go_wp2;obtain⟨w3,h3⟩:∃ x,x=wr:=⟨_,rfl⟩;subst h3;have HSZ:=Zh (yff hnpos HKP.o.size);have HU3:=Zh (show U64s w3 w.heap.size w.heap.size Lq∧Lq.length=P∧Kept (fun b=>b=w.heap.size) wm w3 from⟨HU.o,HLEN.o,HKP.o⟩);clear HU HLEN HUND HKP;go_loopg [14,83] P (fun m v i wz=>∃ k:Nat,i = .int .i64 (k:Int)∧k<=P∧m=P-k∧Wds wz w3.heap.size v (zcl Lq k)∧Below w3.heap.size w3 wz)
     case atStart=>exact⟨0,rfl,yf8 _,rfl,Wds.nil _ _,yf6 _ _⟩
     case round =>
      obtain⟨z,rfl,hz,hmz,hwd,hbl⟩:=hrel;have HMZ:=Zh hmz;have HWD:=Zh hwd;have HBL:=Zh hbl;obtain⟨Av,cv,hfv⟩:=hwd.form;subst hfv;clear hmz hwd hbl
      by_cases hzP:z<P
      .have hcell:=(HU3.o.1.stays HBL.o).cell z (by rw[HU3.o.2.1];exact hzP);have hps:=zdk Lq z;have hpl:=zku Lq z;have hll:(zcl Lq z).length<=100000:=yie;obtain⟨n,hn⟩:∃ n,Lq.getD z 0=n:=⟨_,rfl⟩;rw[hn] at hcell hps;have HPS:=Zh hps;have z0:(0:Int)<=(z:Int):=yie;have z1:(z:Int)<(P:Int):=yie;have hBz:w3.heap.size<=wr.heap.size:=HBL.o.size;clear hps hpl hn
       by_cases hn0:n=0
       .subst hn0;go_wp2;go_roundg (P-(z+1))
        case measure=>have:=HMZ.o;omega
        case rel=>exact⟨z+1,by go_num,by omega,rfl,by have h:=HPS.o;simp only[if_true,ygm] at h;rw[h];exact HWD.o,HBL.o⟩
       .have hni:(n:Int)≠0:=yie;go_wp2_with (first
         | (at_builtin;refine zkl yik _ _ yik yik (HWD.o.stays ((yf6 _ _).alloc (yez _) _)) yil hll (z,n) ⟨wr.heap.size,0,none⟩ 1 yik (znf wr z n) ?_;intro v6 w6 i6 g6 o6;have I6:=Zh i6;have G6:=Zh g6;have O6:=Zh o6;clear i6 g6 o6)
         | fail)
        go_roundg (P-(z+1))
        case measure=>have:=HMZ.o;omega
        case rel =>
         have h:=HPS.o;rw[if_neg hn0] at h;exact⟨z+1,by go_num,by omega,rfl,by rw[h];exact I6.o,((HBL.o.alloc hBz _).grown G6.o yil fun k e=>(HWD.o.in e).1)⟩
      .have hzn:z=P:=yie;go_wp2;go_ret;refine⟨_,rfl,?_,(HBM.o.trans (HU3.o.2.2.below (yhh hnpos) fun b e=>by omega)).trans (HBL.o.mono (yhh HSZ.o))⟩;have h:=HWD.o.low (yhh HSZ.o);unfold zf0;rw[←HFIN.o,HP.o,←hzn];exact h
end
end Go.Proofs.YtipfgpfplakhiaaDoor
