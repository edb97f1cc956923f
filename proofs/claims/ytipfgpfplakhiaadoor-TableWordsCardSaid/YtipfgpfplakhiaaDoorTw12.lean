import Derived.Test.YtipfgpfplakhiaaDoorTw10
import Derived.RangeFuncBound
import Derived.RangeFuncCalls
import Derived.RangeFuncLeaves
import Derived.Shelf.Abstract
import Derived.Shelf.RegionOpen
import Derived.OwnWalkIn
import Derived.TacticsInMore
import Derived.LoopNIn
import Derived.LoopIn
import Derived.Sort.LoopGhostIn
import Derived.Lib.BufferMore
set_option linter.unusedVariables false
set_option linter.unusedSimpArgs false
set_option maxRecDepth 20000
set_option maxHeartbeats 4000000
namespace Go.Proofs.YtipfgpfplakhiaaDoor
open Go Go.RowKit
section
attribute [local go_sem ↓] Go.wp_at_zero Go.wp_at_succ
theorem Tryd.infoWord:(Tryd.prog.info? 47).map (fun i=>(i.zero,i.size,i.bytes))=some (some (.int .u64 0),1,8):=by kernel_rfl
def zbs (q:Nat->Bool) (m:Nat):List Value:=(List.range m).map fun i=>Value.int .u64 (word q i)
theorem zcn (q:Nat->Bool) (m:Nat):(zbs q m).length=m:=by simp[zbs]
theorem ze9 (q:Nat->Bool) (m i:Nat) (h:i<m):(zbs q m)[i]?=some (.int .u64 (word q i)):=by simp[zbs,h]
def Pl (w:World) (B:Nat) (v:Value) (m:Nat) (q:Nat->Bool):Prop:=w.ownsRow B 47 1 v m (zbs q m)
section
variable {w w':World} {B:Nat} {v:Value} {m:Nat} {q:Nat->Bool}
theorem Pl.stays (h:Pl w B v m q) (hb:Below w.heap.size w w'):Pl w' B v m q:=za6 h hb
theorem Pl.lower {B':Nat} (h:Pl w B v m q) (hB:B'<=B):Pl w B' v m q:=zbh h hB
theorem Pl.form (h:Pl w B v m q) (hm:0<m):∃ g c,v = .slice (some ⟨g,0,none⟩) m c∧B<=g∧g<w.heap.size:=by
 rcases h.2 with ⟨rfl,h0⟩|⟨g,cap,cur,rfl,hB,hg,_⟩
 .omega
 .exact⟨g,cap,rfl,hB,za0 hg⟩
theorem Pl.cell {g c:Nat} (h:Pl w B (.slice (some ⟨g,0,none⟩) m c) m q) (i:Nat) (hi:i<m):w.cell? ⟨g,i,none⟩=some (.int .u64 (word q i)):=by
 rw[yf7 h i yie,ze9 q m i hi]
theorem Pl.frozen {g c:Nat} (h:Pl w B (.slice (some ⟨g,0,none⟩) m c) m q) (i:Nat):w.frozen? ⟨g,i,none⟩=false:=yfw h i
theorem Pl.congr {q':Nat->Bool} (h:Pl w B v m q) (hq:∀ i,i<m->word q i=word q' i):Pl w B v m q':=by
 unfold Pl at *;have e:zbs q m=zbs q' m:=by
  unfold zbs;apply yhb;intro i hi;rw[hq i (by simpa using hi)]
 rwa [←e]
theorem Pl.set {g c:Nat} {q':Nat->Bool} (h:Pl w B (.slice (some ⟨g,0,none⟩) m c) m q) (i:Nat) (hi:i<m) (hq:∀ j,j≠i->word q' j=word q j):
 Pl (w.setCell ⟨g,i,none⟩ (.int .u64 (word q' i))) B (.slice (some ⟨g,0,none⟩) m c) m q'∧w.grownBy (w.setCell ⟨g,i,none⟩ (.int .u64 (word q' i))) (some g):=by
 have k:=yg1 h i (.int .u64 (word q' i));refine⟨?_,k.2⟩;unfold Pl;have e:(zbs q m).set i (.int .u64 (word q' i))=zbs q' m:=by
  apply ygi;intro j;rw[ygu]
  by_cases hj:j<m
  .rw[ze9 q' m j hj,ze9 q m j hj,zcn]
   by_cases hij:i=j
   .subst hij;simp[hi]
   .rw[if_neg hij,hq j (fun e=>hij e.symm)]
  .rw[yfj (by rw[zcn];omega),yfj (by rw[zcn];omega)]
   by_cases hij:i=j
   .omega
   .rw[if_neg hij]
 rw[←e];exact k.1
end
theorem zng (m:Nat):zbs za9 m=List.replicate m (.int .u64 0):=by
 apply ygi;intro j
 by_cases hj:j<m
 .rw[ze9 _ m j hj,zak];simp[hj]
 .rw[yfj (by rw[zcn];omega),yfj (by simpa using hj)]
def zf2 (w:World) (m:Nat) (q:Nat->Bool) (e:Ending) (w':World):Prop:=∃ v,e = .returned v∧Pl w' w.heap.size v m q∧Below w.heap.size w w'
theorem zf8 (w:World) (n:Nat) (hn:n<=1000000):Calls Tryd.prog 52 #[.int .i64 n] w (zf2 w (n / 64+1) za9):=by
 obtain⟨i0,hi,hz0,hz1,hz2⟩:=info_parts Tryd.infoWord;obtain⟨w',hr,hown,hg⟩:=run_make_full (P:=Tryd.prog) w w.heap.size 103 47 i0 _ 1 Tryd.underlying103 hi hz0 hz1 .i64 .i64 (n / 64+1) (by rw[hz2];omega) yin (yez _);rw[show (((n / 64+1:Nat)):Int)=(n:Int) / 64+1 by omega] at hr;rw[show (madeCells (Value.int IntKind.u64 0).cells ((n / 64+1)*1)).toList=zbs za9 (n / 64+1) by rw[zng,ygl];exact toList_madeCells_one _ _] at hown;have HO:=Zh hown;have HG:=Zh hg;clear hown hg hi hz0 hz1 hz2;go_enter Tryd.func52,Tryd.ntmps52;go_wp2;go_ret;exact⟨_,rfl,HO.o,(yf6 _ _).grown HG.o (yez _) (fun j e=>by cases e)⟩
theorem ybc (w:World) (B m i:Nat) (v:Value) (q:Nat->Bool) (h:Pl w B v m q) (hi:i<64*m) (hm:m<=1000000):Calls Tryd.prog 32 #[v,.int .i64 i] w fun e w'=>e = .returned (.bool (q i))∧w=w':=by
 obtain⟨g,c,rfl,_,_⟩:=h.form yie;have hc:=h.cell (i / 64) yie;have H:=yce q i;rw[←H];have e1:((i:Int) / 64).toNat=i / 64:=yie;have e2:((i:Int) % 64).toNat=i % 64:=yie;have e3:(i:Int) / 64<(m:Int):=yie;have e4:(0:Int)<=(i:Int) / 64:=yie;have w0:=ziw q (i / 64);have w1:=zue q (i / 64);clear H h;go_enter Tryd.func32,Tryd.ntmps32;go_wp2;go_ret;exact⟨rfl,rfl⟩
theorem ztn {a b:World} {row:Option Nat} (h:a.grownBy b row):a.grownBy b.drew row:=⟨h.os,h.tape,h.output,h.size,h.block⟩
theorem Pl.drew {w:World} {B m:Nat} {v:Value} {q:Nat->Bool} (h:Pl w B v m q):Pl w.drew B v m q:=h
def zhj (w:World) (B m:Nat) (v:Value) (q:Nat->Bool) (e:Ending) (w':World):Prop:=e = .returned (.tuple #[])∧Pl w' B v m q∧w.grownBy w' v.ownBlock
theorem zv4 (w:World) (B m i:Nat) (v:Value) (q:Nat->Bool) (h:Pl w B v m q) (hi:i<64*m) (hm:m<=1000000):Calls Tryd.prog 55 #[v,.int .i64 i] w (zhj w B m v (add1 q i)):=by
 obtain⟨g,c,rfl,_,_⟩:=h.form yie;have hc:=h.cell (i / 64) yie;have hf:=h.frozen (i / 64);have HA:=Zh (ycx q i);have HS:=Zh (h.set (q':=add1 q i) (i / 64) yie (fun j hj=>zlq q i j hj));have e1:((i:Int) / 64).toNat=i / 64:=yie;have e2:((i:Int) % 64).toNat=i % 64:=yie;have e3:(i:Int) / 64<(m:Int):=yie;have e4:(0:Int)<=(i:Int) / 64:=yie;have w0:=ziw q (i / 64);have w1:=zue q (i / 64);clear h;go_enter Tryd.func55,Tryd.ntmps55;go_region
 all_goals
  go_wp2;go_end0;rw[HA.o];exact⟨rfl,HS.o.1.drew,ztn HS.o.2⟩
theorem zve (w:World) (i n:Nat) (hn:n<=1000000) (hi:i<=n):Calls Tryd.prog 31 #[.int .i64 i,.int .i64 n] w (zf2 w (n / 64+1) (fun x=>x==i)):=by
 have HN:=Zh (zf8 w n hn);unfold zf2 at HN;have HA:=Zh (fun W v (h:Pl W w.heap.size v (n / 64+1) za9)=>zv4 W w.heap.size (n / 64+1) i v za9 h yie yie);unfold zhj at HA;go_enter Tryd.func31,Tryd.ntmps31;go_wp2_with (first
  | (go_at_call 52;(with_reducible refine HN.o.mono ?_);rintro e w1 ⟨v,rfl,hv,hb⟩)
  | (go_at_call 55;(with_reducible refine (HA.o _ _ hv).mono ?_);rintro e w2 ⟨rfl,hv2,hg2⟩))
 go_ret;refine⟨v,rfl,hv2.congr fun i' _=>?_,hb.grown hg2 hb.size (fun j e=>(yf5 hv j e).1)⟩;have e:zbl (add1 za9 i) i'=zbl (fun x=>x==i) i':=zdg _ _ i' fun j _=>by simp[add1,za9]
 unfold word;rw[e]
theorem zuc {q:Nat->Bool} {i:Nat} (h:word q i=0) (j:Nat) (hj:j<64):q (64*i+j)=false:=by
 have h0:zbl q i=0:=(by unfold word at h;omega);have t:=zau q i j;rw[h0] at t
 simpa [hj] using t.symm
theorem znh {q:Nat->Bool} {i:Nat} (h:word q i≠0):∃ j,j<64∧q (64*i+j)=true:=by
 by_cases hx:∃ j,j<64∧q (64*i+j)=true
 .exact hx
 .exfalso;apply h;have:zbl q i=0:=by
   apply yga;intro j;rw[zau]
   by_cases hj:j<64
   .have:¬ q (64*i+j)=true:=fun e=>hx ⟨j,hj,e⟩
    simp[this]
   .simp[hj]
  simp[word,this]
theorem zvk (w:World) (B m:Nat) (v:Value) (q:Nat->Bool) (h:Pl w B v m q) (hm0:0<m) (hm:m<=1000000):
 Calls Tryd.prog 50 #[v] w fun e w'=>∃ b:Bool,e = .returned (.bool b)∧(b=true↔∀ x,x<64*m->q x=false)∧w=w':=by
 obtain⟨g,c,rfl,_,_⟩:=h.form hm0;have HH:=Zh h;clear h;go_enter Tryd.func50,Tryd.ntmps50;go_wp2;go_loopg [7] m (fun m' i wr=>∃ j:Nat,i = .int .i64 (j:Int)∧j<=m∧m'=m-j∧(∀ x,x<64*j->q x=false)∧wr=w)
 case atStart=>exact⟨0,rfl,yf8 _,rfl,fun x hx=>by omega,rfl⟩
 case round =>
  obtain⟨j,rfl,hj,hmj,hz,rfl⟩:=hrel;have HMJ:=Zh hmj;have HZ:=Zh hz;clear hmj hz
  by_cases hlt:j<m
  .have hc:=HH.o.cell j hlt;cases hb:(word q j != 0)
   .have hw0:word q j=0:=(by simpa using hb);have HW0:=Zh hw0;clear hw0;go_wp2;go_roundg (m-(j+1))
    case measure=>have:=HMJ.o;omega
    case rel =>
     refine⟨j+1,by go_num,by omega,rfl,fun x hx=>?_,rfl⟩
     by_cases hx2:x<64*j
     .exact HZ.o x hx2
     .have:=zuc HW0.o (x-64*j) yie
      rwa [show 64*j+(x-64*j)=x by omega] at this
   .have hw0:word q j≠0:=(by simpa using hb);have HW0:=Zh (znh hw0);clear hw0;go_wp2;go_ret;refine⟨false,rfl,⟨fun h=>(by cases h),fun h=>?_⟩,rfl⟩;obtain⟨k,hk,hq⟩:=HW0.o;rw[h (64*j+k) yie] at hq;cases hq
  .go_wp2;go_ret;exact⟨true,rfl,⟨fun _ x hx=>HZ.o x yie,fun _=>rfl⟩,rfl⟩
def mixP (q f:Nat->Bool) (j:Nat):Nat->Bool:=fun x=>if x<64*j then f x else q x
theorem zkz (q f:Nat->Bool) (j i:Nat) (h:i<j):word (mixP q f j) i=word f i:=by
 unfold word;rw[zdg _ f i fun b hb=>by unfold mixP;rw[if_pos yie]]
theorem zl0 (q f:Nat->Bool) (j i:Nat) (h:j<=i):word (mixP q f j) i=word q i:=by
 unfold word;rw[zdg _ q i fun b hb=>by unfold mixP;rw[if_neg yie]]
theorem zrc (q f:Nat->Bool) (j i:Nat) (h:i≠j):word (mixP q f (j+1)) i=word (mixP q f j) i:=by
 by_cases hi:i<j
 .rw[zkz _ _ _ _ hi,zkz _ _ _ _ yie]
 .rw[zl0 _ _ _ _ yie,zl0 _ _ _ _ yie]
theorem zim (w:World) (B C m:Nat) (v v2:Value) (q r:Nat->Bool) (h:Pl w B v m q) (h2:Pl w C v2 m r) (hB:B<=w.heap.size) (hm0:0<m) (hm:m<=1000000):
 Calls Tryd.prog 53 #[v,v2] w (zhj w B m v (orP q r)):=by
 obtain⟨g,c,rfl,hg1,hg2⟩:=h.form hm0;obtain⟨g2,c2,rfl,_,hg4⟩:=h2.form hm0;have hcell:∀ i,i<m->w.cell? ⟨g2,i,none⟩=some (.int .u64 (word r i)):=fun i hi=>h2.cell i hi
 have HH:=Zh h;have HC:=Zh hcell;clear h h2 hcell;go_enter Tryd.func53,Tryd.ntmps53;go_wp2;go_loopg [8] m (fun m' i wr=>∃ j:Nat,i = .int .i64 (j:Int)∧j<=m∧m'=m-j∧Pl wr B (.slice (some ⟨g,0,none⟩) m c) m (mixP q (orP q r) j)∧(∀ k,j<=k->k<m->wr.cell? ⟨g2,k,none⟩=some (.int .u64 (word r k)))∧w.grownBy wr (some g))
 case atStart=>exact⟨0,rfl,yf8 _,rfl,HH.o.congr fun i hi=>(zl0 _ _ _ _ (yf8 _)).symm,fun k _ hk=>HC.o k hk,⟨rfl,rfl,rfl,yez _,fun _ _ _=>rfl⟩⟩
 case round =>
  obtain⟨j,rfl,hj,hmj,hpl,hr,hgw⟩:=hrel;have HMJ:=Zh hmj;have HPL:=Zh hpl;have HR:=Zh hr;clear hmj hpl hr
  by_cases hlt:j<m
  .have hc:=HPL.o.cell j hlt;have hf:=HPL.o.frozen j;rw[zl0 _ _ _ _ (yez _)] at hc;have hc2:=HR.o j (yez _) hlt;have HO:=Zh (zyv q r j);have hst:=HPL.o.set (q':=mixP q (orP q r) (j+1)) j hlt (fun i hi=>zrc _ _ j i hi);rw[zkz _ _ _ _ (Nat.lt_succ_self j)] at hst;have HST:=Zh hst;clear hst;go_wp2;go_roundg (m-(j+1))
   case measure=>have:=HMJ.o;omega
   case rel =>
    rw[HO.o];refine⟨j+1,by go_num,by omega,rfl,HST.o.1,fun k hk hkm=>?_,World.grownBy.trans hgw HST.o.2⟩;have:=HR.o k yie hkm;rw[World.cell?_setCell_other]
    .exact this
    .intro e;injection e with e1 e2
     omega
  .have hjm:j=m:=yie;go_wp2;go_end0;exact⟨rfl,HPL.o.congr fun i hi=>zkz _ _ _ _ yie,hgw⟩
end
section
open Go Go.RowKit Go.Shelf
attribute [local go_sem] Oper.semAt_some
abbrev UpAt (q:Nat->Bool) (M:Nat):={x:Nat // x<M∧q x=true}
theorem zso (q:Nat->Bool) (m:Nat):(upP q m).length<=m:=by
 unfold upP;exact yfa (yhg _ _) yii
def KpW (g:Nat) (W W':World):Prop:=W.heap.size<=W'.heap.size∧W'.heap[g]?=W.heap[g]?∧W'.heap[0]?=W.heap[0]?
theorem KpW.refl (g:Nat) (W:World):KpW g W W:=⟨yez _,rfl,rfl⟩
theorem KpW.trans {g:Nat} {A B C:World} (h:KpW g A B) (k:KpW g B C):KpW g A C:=⟨yfa h.1 k.1,k.2.1.trans h.2.1,k.2.2.trans h.2.2⟩
theorem KpW.tab {g:Nat} {W W':World} (h:KpW g W W') (ht:Tab W):Tab W':=⟨yff ht.1 h.1,fun k hk=>(yfp (w:=W) (a:=⟨0,k,none⟩) h.2.2).trans (ht.2 k hk)⟩
theorem KpW.cell {g i:Nat} {W W':World} (h:KpW g W W'):W'.cell? ⟨g,i,none⟩=W.cell? ⟨g,i,none⟩:=yfp (w:=W) (a:=⟨g,i,none⟩) h.2.1
theorem ydw {w:World} {g:Nat} (hg:g<w.heap.size) (ht:0<w.heap.size) (W:World) (l:Nat) (o o':Obj) (hl:w.heap.size<=l) (h:W.heap[l]?=some o) (_:o.isCells=false) (_:o.isWalk=false):KpW g W (W.putObj l o'):=
 ⟨by simp[World.putObj],World.putObj_heap_other yie,World.putObj_heap_other yie⟩
theorem ycv (n:Nat) (hn:1<=n) (l Bn g m c:Nat) (q:Nat->Bool) (hm:m<=1000000) (J Jx:List (UpAt q (64*m))->World->Prop)
 (hY:∀ pre x W,J pre W->pre.length<64*m+1->YieldAt Fence.wide (n-1) Tryd.prog l #[.int .i64 (x.1:Int)] W fun e W' =>
   (e = .returned (.bool true)∧J (pre++[x]) W'∧KpW g W W')∨(e = .returned (.bool false)∧Jx (pre++[x]) W'))
 (W:World) (hBn:W.cell? ⟨Bn,0,none⟩=some (.slice (some ⟨g,0,none⟩) m c)) (hc:∀ i,i<m->W.cell? ⟨g,i,none⟩=some (.int .u64 (word q i))) (ht:Tab W) (h0:J [] W):
 CallsIn Fence.wide n Tryd.prog 84 #[.func (.yield l) #[] #[],.pointer (some ⟨Bn,0,none⟩)] W fun e W'=>(∃ v,e = .returned v)∧
  ((∃ ys,ys.map (·.1)=upP q (64*m)∧J ys W')∨(∃ pre,True∧Jx pre W')):=by
 refine callsIn_of_wp Tryd.func84 rfl trivial ?_ rfl;simp only[Tryd.ntmps84,yic,yg7,yh5,Nat.reduceAdd,Nat.reduceSub,yi1,yi2,yid,yi7,yhc,ygg];have HC:=Zh hc;have HY:=Zh hY;clear hc hY
 gi_wp2
 gi_loopg [7] m (fun m' i wr=>∃ (k:Nat) (pre:List (UpAt q (64*m))),i = .int .i64 (k:Int)∧k<=m∧m'=m-k∧pre.map (·.1)=upP q (64*k)∧KpW g W wr∧J pre wr)
 case atStart=>exact⟨0,[],rfl,yf8 _,rfl,rfl,KpW.refl _ _,h0⟩
 case round =>
  obtain⟨k,pre,rfl,hk,hmk,hpre,hkp,hJ⟩:=hrel;have HMK:=Zh hmk;have HPRE:=Zh hpre;have HKP:=Zh hkp;have HJ:=Zh hJ;clear hmk hpre hkp hJ
  by_cases hlt:k<m
  .have hcx:=HKP.o.cell.trans (HC.o k hlt)
   gi_wp2
   gi_loopg [4] 65 (fun m' x wr2=>∃ (p:Nat) (pre:List (UpAt q (64*m))),x = .int .u64 (zdq q k p:Int)∧p<=64∧m'=65-p∧pre.map (·.1)=upP q (64*k+p)∧KpW g W wr2∧J pre wr2)
   case atStart =>
    refine⟨0,pre,?_,by omega,rfl,HPRE.o,HKP.o,HJ.o⟩;rw[zq9];rfl
   case round =>
    obtain⟨p,pre2,rfl,hp,hmp,hpre2,hkp2,hJ2⟩:=hrel;have HMP:=Zh hmp;have HPRE2:=Zh hpre2;have HKP2:=Zh hkp2;have HTAB:=Zh (hkp2.tab ht);clear hmp hpre2 hkp2
    by_cases hx:zdq q k p=0
    .have hxi:((zdq q k p:Nat):Int)=0:=yie;have HX:=Zh (fun _:Unit=>hx);clear hx
     gi_wp2
     gi_roundg (m-(k+1))
     case measure=>have:=HMK.o;omega
     case rel =>
      have h64:upP q (64*k+64)=upP q (64*k+p):=by
       have:=zlv (q:=q) (a:=64*k+p) (64-p) fun j h1 h2=>by
        have:=ztp (HX.o ()) (j-64*k) yie yie
        rwa [show 64*k+(j-64*k)=j by omega] at this
       rwa [show 64*k+p+(64-p)=64*k+64 by omega] at this
      exact⟨k+1,pre2,by go_num,by omega,rfl,by rw[show 64*(k+1)=64*k+64 by omega,h64];exact HPRE2.o,HKP2.o,hJ2⟩
    .obtain⟨j,hj1,hj2,hj3,hj4,hj5,hj6⟩:=ztq hx;have hxl:=zmz q k p;have e1:IntKind.u64.wrap (((zdq q k p:Nat):Int)-1)=((zdq q k p-1:Nat):Int):=by
      rw[IntKind.wrap_u64];omega
     have e2:bits .and .u64 ((zdq q k p:Nat):Int) ((zdq q k p-1:Nat):Int)=((zdq q k (j+1):Nat):Int):=by
      rw[bits_and_u64_nat _ _ hxl yie,hj5]
     have hxi:¬ ((zdq q k p:Nat):Int)=0:=yie;have hlen:pre2.length<64*m+1:=by
      have h1:=congrArg List.length HPRE2.o;have h2:=zso q (64*k+p);rw[yfr] at h1;omega
     obtain⟨xx,hxx⟩:∃ xx:UpAt q (64*m),xx.1=64*k+j:=⟨⟨64*k+j,by omega,hj3⟩,rfl⟩;obtain⟨fn,tmps,assign,body,hy,hR⟩:=HY.o pre2 xx wr hJ2 hlen;rw[hxx] at hy
     push_cast at hy
     have HXX:=Zh hxx;have HTZ:=Zh (fun N=>(callsIn_wide (n:=N)).2 (tz_p wr (zdq q k p) j hxl hj2 hj6 HTAB.o));have HJ3:=Zh hj3;have HJ4:=Zh hj4;generalize hgx:zdq q k p=x at *;generalize hgy:zdq q k (j+1)=y at *;have HGX:=Zh (fun _:Unit=>hgx);have HGY:=Zh (fun _:Unit=>hgy);have HR:=Zh hR;have HXL:=Zh hxl;have HJ1:=Zh hj1;clear hgx hgy hj3 hj4 hj5 hj6 hJ2 hx HTAB hxx hR hxl hj1 hlen
     gi_wp2_with (refine⟨trivial,?_⟩;gi_at_call 85;refine (HTZ.o _).mono ?_;rintro e w1 ⟨rfl,rfl⟩)
     refine HR.o.mono ?_;have hup:(pre2++[xx]).map (·.1)=upP q (64*k+(j+1)):=by
      rw[yfu,HPRE2.o,show 64*k+(j+1)=64*k+j+1 by omega,yaz HJ3.o];have:=zlv (q:=q) (a:=64*k+p) (j-p) fun i h1 h2=>by
       have:=HJ4.o (i-64*k) yie yie
       rwa [show 64*k+(i-64*k)=i by omega] at this
      rw[show 64*k+p+(j-p)=64*k+j by have:=HJ1.o;omega] at this;rw[this];simp[HXX.o]
     have HUP:=Zh hup;clear hup;rintro e W3 (⟨rfl,hJ3,hk3⟩|⟨rfl,hJx3⟩)
     .have HJ3':=Zh hJ3;have HK3:=Zh hk3;clear hJ3 hk3
      gi_wp2
      gi_roundg (65-(j+1))
      case measure=>have:=HMP.o;have:=HJ1.o;omega
      case rel =>
       have hy':=HGY.o ();exact⟨j+1,pre2++[xx],by rw[hy'],by omega,rfl,HUP.o,HKP2.o.trans HK3.o,HJ3'.o⟩
     .have HJX3:=Zh hJx3;clear hJx3
      gi_wp2
      refine bodyPost_ret (results_none rfl _ _ _) rfl ?_;exact⟨⟨_,rfl⟩,.inr ⟨_,trivial,HJX3.o⟩⟩
  .have hkm:k=m:=yie;have HKM:=Zh hkm;clear hkm
   gi_wp2
   go_end0;exact⟨⟨_,rfl⟩,.inl ⟨pre,by rw[HPRE.o,HKM.o],HJ.o⟩⟩
theorem yar (n:Nat) (a:Option Addr) (len cap:Nat) (w:World):
 CallsIn Fence.wide n Tryd.prog 69 #[.slice a len cap] w fun e w'=>e = .returned (.func (.func 84) #[] #[.pointer (some ⟨w.heap.size,0,none⟩)])∧w'=w.alloc (.cells #[.slice a len cap] 103):=by
 refine callsIn_of_wp Tryd.func69 rfl trivial ?_ rfl;simp only[Tryd.ntmps69,yic,yg7,yh5,Nat.reduceAdd,Nat.reduceSub,yi1,yi2,yid,yi7,yhc,ygg]
 gi_wp2
 go_ret;exact⟨rfl,rfl⟩
theorem zp7 (n:Nat) (hn:1<=n) (Bn g m c C:Nat) (q:Nat->Bool) (hm:m<=1000000) (w:World) (hBn:Bn<w.heap.size) (hcb:w.cell? ⟨Bn,0,none⟩=some (.slice (some ⟨g,0,none⟩) m c)) (hp:Pl w C (.slice (some ⟨g,0,none⟩) m c) m q) (hg:g<w.heap.size) (ht:Tab w):
 SeqStopsK Fence.wide n Tryd.prog 84 #[.pointer (some ⟨Bn,0,none⟩)] (fun x:UpAt q (64*m)=>#[Value.int .i64 (x.1:Int)]) (KpW g) (fun ys=>ys.map (·.1)=upP q (64*m)) (fun _=>True) (64*m+1) w:=fun l J Jx W hW _ _ hY h0 =>
 ycv n hn l Bn g m c q hm J Jx hY W ((hW.cell (p:=⟨Bn,0,none⟩) hBn).trans hcb) (fun i hi=>(hW.cell (p:=⟨g,i,none⟩) hg).trans (hp.cell i hi)) (ht.below hW ht.1) h0
end
section
attribute [local go_sem ↓] Go.wp_at_zero Go.wp_at_succ
theorem zpg (q:Nat->Bool) (m:Nat):∀ u∈zbs q m,u.oneCell'=true:=by
 intro u hu;simp only[zbs,yg6] at hu;obtain⟨i,_,rfl⟩:=hu;rfl
theorem zqe (w:World) (C m:Nat) (v:Value) (q:Nat->Bool) (h:Pl w C v m q) (hm0:0<m) (hm:m<=1000000):
 Calls Tryd.prog 87 #[v] w (zf2 w m q):=by
 obtain⟨i0,hi,hz0,hz1,hz2⟩:=info_parts Tryd.infoWord;obtain⟨g,c,rfl,_,hg⟩:=h.form hm0;have hown:(w.alloc (.cells #[] 47)).ownsRow w.heap.size 47 1 (.slice (some ⟨w.heap.size,0,none⟩) 0 0) 0 []:=yhz w #[] 0 (yez _) yij rfl;have hnews:∀ j u,(zbs q m)[j]?=some u->(w.alloc (.cells #[] 47)).cell? ((⟨g,0,none⟩:Addr).add j)=some u:=by
  intro j u hu;have hj:j<m:=by
   rcases ygs j m with h' | h'
   .exact h'
   .rw[yfj (by rw[zcn];exact h')] at hu;cases hu
  rw[ze9 q m j hj] at hu;have hu':=yia hu;rw[←hu'];have e:(⟨g,0,none⟩:Addr).add j=⟨g,j,none⟩:=by unfold Addr.add;split <;> simp_all
  rw[e];exact za4 (h.cell j hj) ((yf6 _ _).alloc (yez _) _)
 have HO:=Zh hown;have HN:=Zh hnews;have hnil:∀ W,(binOp .eql 103 (.slice (some ⟨g,0,none⟩) m c) (.slice none 0 0)).run Tryd.prog W = .ok (.bool false) W:=fun W=>Lib.run_eql_slice_some_nil W _ _ _ Tryd.underlying103
 clear hown hnews h;go_enter Tryd.func87,Tryd.ntmps87;go_wp2_with (at_builtin;refine wpList_append_own _ rfl _ _ 103 rfl w.heap.size 47 i0 (.int .u64 0) 1 8 Tryd.underlying103 hi hz0 hz1 hz2 rfl yij _ _ _ rfl HO.o ⟨g,0,none⟩ m c (zbs q m) rfl (by rw[zcn,ygl]) HN.o (zpg q m) ?c3 ?c4 ?c5 ?_)
 case c3=>unfold maxLen;omega
 case c4=>omega
 case c5=>simp
 .intro v' w2 hown' hgrow _;have HO2:=Zh hown';have hB2:Below w.heap.size w w2:=((yf6 _ _).alloc (yez _) _).grown hgrow yii (fun j e=>((HO.o).lt j e).1);clear hgrow hown';go_wp2;go_ret;refine⟨v',rfl,?_,hB2⟩;exact HO2.o
theorem ycj (w:World) (B C m:Nat) (v v2:Value) (q r:Nat->Bool) (h:Pl w B v m q) (h2:Pl w C v2 m r) (hm0:0<m) (hm:m<=1000000):
 Calls Tryd.prog 86 #[v,v2] w fun e w'=>∃ b:Bool,e = .returned (.bool b)∧(b=true↔∀ i,i<m->word q i=word r i)∧Below w.heap.size w w':=by
 obtain⟨g,c,rfl,_,_⟩:=h.form hm0;obtain⟨g2,c2,rfl,_,_⟩:=h2.form hm0;have H1:=Zh h;have H2:=Zh h2;clear h h2;go_enter Tryd.func86,Tryd.ntmps86;go_wp2;go_loopg [13] m (fun m' i wr=>∃ j:Nat,i = .int .i64 (j:Int)∧j<=m∧m'=m-j∧(∀ k,k<j->word q k=word r k)∧Below w.heap.size w wr)
 case atStart=>exact⟨0,rfl,yf8 _,rfl,fun k hk=>by omega,yf6 _ _⟩
 case round =>
  obtain⟨j,rfl,hj,hmj,hz,hW⟩:=hrel;have HMJ:=Zh hmj;have HZ:=Zh hz;clear hmj hz
  by_cases hlt:j<m
  .have hc:=(H1.o.stays hW).cell j hlt;have hc2:=(H2.o.stays hW).cell j hlt;have j0:(0:Int)<=(j:Int):=yie;have j1:(j:Int)<(m:Int):=yie;cases hb:(word q j != word r j)
   .go_wp2_with fail;go_quiet (fail);go_wp2;go_roundg (m-(j+1))
    case measure=>have:=HMJ.o;omega
    case rel =>
     refine⟨j+1,by go_num,by omega,rfl,fun k hk=>?_,below_drewN hW _⟩
     by_cases hk2:k<j
     .exact HZ.o k hk2
     .have:k=j:=by omega
      subst this
      simpa using hb
   .go_wp2_with fail;go_quiet (fail);go_wp2;go_ret;refine⟨false,rfl,⟨fun h=>(by cases h),fun h=>?_⟩,below_drewN hW _⟩;rw[h j hlt] at hb;simp at hb
  .go_wp2;go_ret;exact⟨true,rfl,⟨fun _ k hk=>HZ.o k yie,fun _=>rfl⟩,hW⟩
theorem znj (w:World) (B C m:Nat) (v v2:Value) (q r:Nat->Bool) (h:Pl w B v m q) (h2:Pl w C v2 m r) (hm0:0<m) (hm:m<=1000000):
 Calls Tryd.prog 88 #[v,v2] w (zf2 w m (zbi q r)):=by
 obtain⟨g2,c2,rfl,_,hg4⟩:=h2.form hm0;have H2:=Zh h2;have HC:=Zh (zqe w B m v q h hm0 hm);unfold zf2 at HC;clear h h2;go_enter Tryd.func88,Tryd.ntmps88;go_wp2_with (go_at_call 87;(with_reducible refine HC.o.mono ?_);rintro e w1 ⟨v1,rfl,hv1,hb1⟩;obtain⟨g,c,rfl,hg1,hg2⟩:=hv1.form hm0;have HV:=Zh hv1;clear hv1);obtain⟨w4,hw4⟩:∃ w4,w4=w1:=⟨_,rfl⟩;rw[←hw4] at HV hb1 hg2 ⊢;clear hw4;go_loopg [12] m (fun m' i wr=>∃ j:Nat,i = .int .i64 (j:Int)∧j<=m∧m'=m-j∧Pl wr w.heap.size (.slice (some ⟨g,0,none⟩) m c) m (mixP q (zbi q r) j)∧Below w.heap.size w wr)
 case atStart=>exact⟨0,rfl,yf8 _,rfl,HV.o.congr fun i hi=>(zl0 _ _ _ _ (yf8 _)).symm,hb1⟩
 case round =>
  obtain⟨j,rfl,hj,hmj,hpl,hW⟩:=hrel;have HMJ:=Zh hmj;have HPL:=Zh hpl;clear hmj hpl
  by_cases hlt:j<m
  .have hc:=HPL.o.cell j hlt;have hf:=HPL.o.frozen j;rw[zl0 _ _ _ _ (yez _)] at hc;have hc2:=(H2.o.stays hW).cell j hlt;have HO:=Zh (zpx q r j);have hst:=HPL.o.set (q':=mixP q (zbi q r) (j+1)) j hlt (fun i hi=>zrc _ _ j i hi);rw[zkz _ _ _ _ (Nat.lt_succ_self j)] at hst;have HST:=Zh hst;clear hst;go_wp2;go_roundg (m-(j+1))
   case measure=>have:=HMJ.o;omega
   case rel =>
    rw[HO.o];exact⟨j+1,by go_num,by omega,rfl,HST.o.1,hW.grown HST.o.2 hW.size (fun k e=>by injection e with e;omega)⟩
  .have hjm:j=m:=yie;go_wp2;go_ret;exact⟨_,rfl,HPL.o.congr fun i hi=>zkz _ _ _ _ yie,hW⟩
end
end Go.Proofs.YtipfgpfplakhiaaDoor
