import Derived.Test.YtipfgpfplakhiaaDoorTw27
import Derived.Test.YtipfgpfplakhiaaDoorTw30
set_option linter.unusedVariables false
set_option linter.unusedSimpArgs false
set_option maxRecDepth 20000
set_option maxHeartbeats 4000000
namespace Go.Proofs.YtipfgpfplakhiaaDoor
open Go Go.RowKit
def yef (w:World) (N C:Nat) (rows:List (List Nat)) (os:List (Nat×Nat)) (e:Ending) (w':World):Prop:=
 ∃ (gv cv:Nat) (G:Nat->Nat) (L:Nat->Nat->Bool),e = .returned (.slice (some ⟨gv,0,none⟩) N cv)∧MX w' w.heap.size (.slice (some ⟨gv,0,none⟩) N cv) N N G L∧(∀ s t,s<N->t<N->(L s t=true↔Alk (dl rows) (fun s=>os[s]?) N C s t))∧Below w.heap.size w w'
def zkj (os:List (Nat×Nat)) (s t:Nat):Bool:=decide (os[s]?=os[t]?)
theorem zyu {os:List (Nat×Nat)} {s t:Nat} {p q:Nat×Nat} (hp:os[s]?=some p) (hq:os[t]?=some q):zkj os s t=(((p.1:Int)==(q.1:Int))&&((p.2:Int)==(q.2:Int))):=by
 obtain⟨p1,p2⟩:=p;obtain⟨q1,q2⟩:=q;unfold zkj;rw[hp,hq];simp only[Option.some.injEq,Prod.mk.injEq]
 by_cases h1:p1=q1 <;> by_cases h2:p2=q2 <;> simp[h1,h2]
 all_goals omega
theorem zzw {w:World} {B B' N C:Nat} {F:Nat->Nat} {vN vO:Value} {O O':Nat->Prop} {rows:List (List Nat)} {os:List (Nat×Nat)} (hn:Nxt w B O vN rows) (ho:Ots w B' O' vO os) (hl:rows.length=N) (hol:os.length=N) (h0:0<N) (hr:∀ (i:Nat) r,rows[i]?=some r->r.length=C∧∀ x∈r,x<N) (hN9:N<=90000) (hC9:C<=90000):
 Calls Tryd.prog 15 #[.agg (zaf F (C:Int) vN vO)] w (yef w N C rows os):=by
 obtain⟨An,cn,hv⟩:=hn.form;rw[hl] at hv;subst hv;obtain⟨Ao,co,hvo⟩:=ho.form;rw[hol] at hvo;subst hvo;have hδ:∀ s c,s<N->c<C->dl rows s c<N:=fun s c hs hc=>by
  obtain⟨r,h1⟩:∃ r,rows[s]?=some r:=⟨_,yey yie⟩;obtain⟨h2,h3⟩:=hr s r h1;obtain⟨x,hx⟩:∃ x,r[c]?=some x:=⟨_,yey yie⟩;have e:dl rows s c=x:=by
   unfold dl;rw[yf0,yf0,h1];simp[hx]
  rw[e];exact h3 x (yfh hx)
 obtain⟨gn,hgn⟩:∃ g,An=some ⟨g,0,none⟩:=by
  obtain⟨us,n1,n2,n3,n4⟩:=hn.mem;rcases n2.2 with ⟨_,h00⟩|⟨g,cap,cur,e,_⟩
  .omega
  .injection e with e1;exact⟨g,e1⟩
 obtain⟨go,hgo⟩:∃ g,Ao=some ⟨g,0,none⟩:=by
  rcases ho.row.2 with ⟨_,h00⟩|⟨g,cap,cur,e,_⟩
  .omega
  .injection e with e1;exact⟨g,e1⟩
 subst hgn hgo;obtain⟨w1,hw1⟩:∃ w1,w.alloc (.cells (zaf F (C:Int) (.slice (some ⟨gn,0,none⟩) N cn) (.slice (some ⟨go,0,none⟩) N co)) 62)=w1:=⟨_,rfl⟩;have hb1:Below w.heap.size w w1:=yjj;have hx1:BoxM w1 w.heap.size 62 F (C:Int) (.slice (some ⟨gn,0,none⟩) N cn) (.slice (some ⟨go,0,none⟩) N co):=(by rw[←hw1];exact BoxM.new w _ _ _ _ _);have hn1:=hn.kept (Kept.of_below (fun _=>False) hb1) (fun _ _ q=>q);have ho1:=ho.kept (Kept.of_below (fun _=>False) hb1) (fun _ _ q=>q);have hz1:w.heap.size<=w1.heap.size:=hb1.size;obtain⟨b0,hb0⟩:∃ b0,w.heap.size=b0:=⟨_,rfl⟩;rw[hb0] at hx1 hz1;obtain⟨M,hM,hmk⟩:=zti N yie;have c5:=hx1.out;have HW1:=Zh hw1;have HX1:=Zh hx1;have HB1:=Zh hb1;have HN1:=Zh hn1;have HO1:=Zh ho1;have HM:=Zh hM;have HMK:=Zh hmk;have HR:=Zh hr;have HDD:=Zh hδ;have HL:=Zh hl;have HOL:=Zh hol;have HB0:=Zh hb0;have HZ1:=Zh hz1;have HN9:=Zh hN9;have hnN:(N:Int)<=90000:=yie;have hcC:(C:Int)<=90000:=yie;clear hw1 hx1 hb1 hn1 ho1 hM hmk hr hδ hl hol hz1 hn ho hN9 hC9;go_enter Tryd.func15,Tryd.ntmps15;go_upto_region 1 with fail
 rw[HW1.o];clear HW1;go_wp2;clear c5;go_loopg [4,5] N (fun mm v i wr=>∃ (k:Nat) (G:Nat->Nat) (L:Nat->Nat->Bool),i = .int .i64 (k:Int)∧k<=N∧mm=N-k∧MX wr w1.heap.size v N k G L∧(∀ s t,s<k->t<N->L s t=zkj os s t)∧Below w1.heap.size w1 wr)
 case atStart=>exact⟨0,fun _=>0,fun _ _=>false,by first | rfl | trivial,yf8 _,by first | rfl | trivial,MX.nil _ _ _ _ _,fun s t h=>absurd h (yhf _),yf6 _ _⟩
 case round =>
  obtain⟨k,G,L,rfl,hk,hmk,hmx,hlo,hbw⟩:=hrel;have HMM:=Zh hmk;have HMX:=Zh hmx;have HLO:=Zh hlo;have HBW:=Zh hbw;obtain⟨A,cv,rfl⟩:=hmx.form;clear hmk hmx hlo hbw
  by_cases hkN:k<N
  .have hkN':(k:Int)<(N:Int):=yie;have hmkW:=HMK.o wr;go_wp2_with (first
    | (at_builtin;go_loud (refine zsm (B:=w1.heap.size) Tryd.infoBoolsM Tryd.underlying60 rfl yij yij yik _ _ yik yik (za6 HMX.o.row (((yf6 _ _).alloc (yez _) _).alloc yii _)) yik (zav _ _ _ _ yii) rfl (by simp[Value.oneCell']) yja (yfa HBW.o.size yil) ?_);intro v2 w2 h2 hg2 ho2;have hmx2:=HMX.o.push HBW.o.size yja HM.o h2 hg2;have HMX2:=Zh hmx2;have HBW2:Hid (Below w1.heap.size w1 w2):=Zh (((HBW.o.alloc HBW.o.size _).alloc (by have:=HBW.o.size;simp;omega) _).grown hg2 (by have:=HBW.o.size;simp;omega) fun b e=>(HMX.o.block e).1);clear h2 hg2 ho2 hmx2)
    | fail)
   obtain⟨G2,hG2⟩:∃ G2,(fun i=>if i=k then wr.heap.size else G i)=G2:=⟨_,rfl⟩;obtain⟨L2,hL2⟩:∃ L2,(fun i=>if i=k then fun _=>false else L i)=L2:=⟨_,rfl⟩;rw[hG2,hL2] at HMX2;have hLk:∀ s t,s<k->t<N->L2 s t=zkj os s t:=fun s t hs ht=>by
    rw[←hL2];simp only[show ¬ s=k by omega,if_false];exact HLO.o s t hs ht
   clear hG2 hL2 hmkW;obtain⟨gv,cv2,hf2,_⟩:=HMX2.o.at k yie;subst hf2;have HLK:=Zh hLk;clear hLk;obtain⟨k1,hk1⟩:∃ k1,k+1=k1:=⟨_,rfl⟩;rw[hk1] at HMX2 ⊢;have HK1:=Zh hk1;clear hk1;go_loopg [6] N (fun mm i wr=>∃ (q:Nat) (L3:Nat->Nat->Bool),i = .int .i64 (q:Int)∧q<=N∧mm=N-q∧MX wr w1.heap.size (.slice (some ⟨gv,0,none⟩) k1 cv2) N k1 G2 L3∧(∀ s t,s<k->t<N->L3 s t=zkj os s t)∧(∀ t,t<q->L3 k t=zkj os k t)∧Below w1.heap.size w1 wr)
   case atStart=>exact⟨0,L2,by first | rfl | trivial,yf8 _,by first | rfl | trivial,HMX2.o,HLK.o,fun t h=>absurd h (yhf _),HBW2.o⟩
   case round =>
    obtain⟨q,L3,rfl,hq,hmq,hmx3,hl3,hl4,hb3⟩:=hrel;have HMQ:=Zh hmq;have HMX3:=Zh hmx3;have HL3:=Zh hl3;have HL4:=Zh hl4;have HB3:=Zh hb3;clear hmq hl3 hl4
    by_cases hqN:q<N
    .have hqN':(q:Int)<(N:Int):=yie;have hkk1:k<k1:=(by have:=HK1.o;omega);have hkk1':(k:Int)<(k1:Int):=yie;have d1:=hmx3.cell k hkk1;have z1:=(hmx3.rows k hkk1).cell q hqN;have z2:=(hmx3.rows k hkk1).frozen q;obtain⟨p1,hp1⟩:∃ p,os[k]?=some p:=⟨_,yey (by rw[HOL.o];exact hkN)⟩;obtain⟨p2,hp2⟩:∃ p,os[q]?=some p:=⟨_,yey (by rw[HOL.o];exact hqN)⟩;have hoq:=HO1.o.kept (Kept.of_below (fun _=>False) hb3) (fun _ _ q=>q);obtain⟨e1,e2⟩:=hoq.cells hp1;obtain⟨e3,e4⟩:=hoq.cells hp2;have x5:=(HX1.o.stays hb3).out;have hset:=hmx3.set hkk1 hqN (zkj os k q);have hbset:=hb3.setCell (p:=⟨G2 k,q,none⟩) (show w1.heap.size<=G2 k from (hmx3.rows k hkk1).in.1) (.bool (zkj os k q));have HSET:=Zh hset;have HBSET:=Zh hbset;obtain⟨bb,hbb⟩:∃ bb,zkj os k q=bb:=⟨_,rfl⟩;rw[hbb] at HSET HBSET;have heq:=fun W:World=>ybg (p1.1:Int) (p1.2:Int) (p2.1:Int) (p2.2:Int) W
     simp only[←zyu hp1 hp2,hbb] at heq;have hgu:Tryd.prog.eqGuardType Tryd.prog.depth 49=false:=yih;obtain⟨lb,hlb⟩:∃ lb,L3 k q=lb:=⟨_,rfl⟩;rw[hlb] at z1;obtain⟨p11,p12⟩:=p1;obtain⟨p21,p22⟩:=p2;simp only at e1 e2 e3 e4 heq;have HBB:=Zh hbb;clear hmx3 hb3 hp1 hp2 hoq hset hbset hlb hbb;obtain⟨gk,hgk⟩:∃ gk,G2 k=gk:=⟨_,rfl⟩;rw[hgk] at d1 z1 z2 HSET HBSET;clear hgk;go_wp2;go_region;go_wp2;go_roundg (N-(q+1))
     case measure=>have:=HMQ.o;omega
     case rel =>
      refine⟨q+1,upd2 L3 k q bb,by go_num,by omega,rfl,⟨HSET.o.row,HSET.o.rows,HSET.o.inj⟩,fun s t hs ht=>?_,fun t ht=>?_,HBSET.o.drew⟩
      .unfold upd2;rw[if_neg yie];exact HL3.o s t hs ht
      .unfold upd2;rw[if_pos rfl]
       by_cases e:t=q
       .rw[if_pos e,e,HBB.o]
       .rw[if_neg e];exact HL4.o t yie
    .have hql:q=N:=yie;have hLN:∀ s t,s<k+1->t<N->L3 s t=zkj os s t:=fun s t hs ht=>by
      by_cases e:s=k
      .rw[e];exact HL4.o t yie
      .exact HL3.o s t yie ht
     have HLN:=Zh hLN;subst hql;clear hLN hmx3 hb3;go_wp2;go_roundg (q-(k+1))
     case measure=>have:=HMM.o;omega
     case rel=>exact⟨k+1,G2,L3,by go_num,by omega,rfl,by rw[HK1.o];exact HMX3.o,HLN.o,HB3.o⟩
  .have hkl:k=N:=yie;subst hkl;obtain⟨gv,cv2,hf2,_⟩:=HMX.o.at 0 h0;injection hf2 with hA _ hcv
   subst hA hcv;have halk:AlkM (dl rows) (fun s=>os[s]?) k C L:=by
    refine⟨fun s t ha=>?_,fun s t hs ht h=>?_⟩
    .rw[HLO.o s t ha.1 ha.2.1];have:=ha.2.2 [] (fun c hc=>by simp at hc);exact decide_eq_true this
    .rw[HLO.o s t hs ht] at h;exact of_decide_eq_true h
   have HALK:=Zh halk;clear halk;go_wp2;go_loopg [7] (cntM k L+1) (fun mm b wr=>∃ (more:Bool) (L:Nat->Nat->Bool),b = .bool more∧mm=(if more then cntM k L+1 else 0)∧MX wr w1.heap.size (.slice (some ⟨gv,0,none⟩) k cv) k k G L∧AlkM (dl rows) (fun s=>os[s]?) k C L∧(more=false->∀ s t,s<k->t<k->zhn (dl rows) C L s t)∧Below w1.heap.size w1 wr)
   case atStart=>exact⟨true,L,by first | rfl | trivial,by first | rfl | trivial,HMX.o,HALK.o,fun e=>yj0,HBW.o⟩
   case round =>
    obtain⟨more,L4,rfl,hmm4,hmx4,halk4,hcl4,hb4⟩:=hrel;have HMM4:=Zh hmm4;have HMX4:=Zh hmx4;have HALK4:=Zh halk4;have HCL4:=Zh hcl4;have HB4:=Zh hb4;clear hmm4 hmx4 halk4 hcl4 hb4;cases more with
    | false =>
     go_wp2;go_ret;have hz:w.heap.size<=w1.heap.size:=HB1.o.size;exact⟨gv,cv,G,L4,rfl,⟨zbh HMX4.o.row hz,fun i hi=>zbh (HMX4.o.rows i hi) hz,HMX4.o.inj⟩,fun s t hs ht=>HALK4.o.done HDD.o (HCL4.o (by first | rfl | trivial)) hs ht,gro HB1.o HB4.o⟩
    | true =>
     go_wp2;obtain⟨c0,hc0⟩:∃ c0,cntM k L4=c0:=⟨_,rfl⟩;have hda:DA w1 wr w1.heap.size (.slice (some ⟨gv,0,none⟩) k cv) k C G (dl rows) (fun s=>os[s]?) c0 false L4 (fun s _=>s<0):=⟨HMX4.o,HALK4.o,Nat.le_of_eq hc0,fun e=>yj0,fun _ s t _ _ h=>absurd h (yhf _),HB4.o⟩;have HDA:=Zh hda;have HC0:=Zh hc0;clear hda hc0;go_loopg [7,8] k (fun mm b i wr=>∃ (more:Bool) (L:Nat->Nat->Bool) (s:Nat),b = .bool more∧i = .int .i64 (s:Int)∧s<=k∧mm=k-s∧DA w1 wr w1.heap.size (.slice (some ⟨gv,0,none⟩) k cv) k C G (dl rows) (fun s=>os[s]?) c0 more L (fun s' _=>s'<s))
     case atStart=>exact⟨false,L4,0,by first | rfl | trivial,by first | rfl | trivial,yf8 _,by first | rfl | trivial,HDA.o⟩
     case round =>
      obtain⟨m5,L5,s,rfl,rfl,hs5,hmm5,hda5⟩:=hrel;have HMM5:=Zh hmm5;have HDA5:=Zh hda5;clear hmm5 hda5
      by_cases hsk:s<k
      .have hsk':(s:Int)<(k:Int):=yie;go_wp2;go_loopg [7,9] k (fun mm b i wr=>∃ (more:Bool) (L:Nat->Nat->Bool) (t:Nat),b = .bool more∧i = .int .i64 (t:Int)∧t<=k∧mm=k-t∧DA w1 wr w1.heap.size (.slice (some ⟨gv,0,none⟩) k cv) k C G (dl rows) (fun s=>os[s]?) c0 more L (fun s' t'=>s'<s∨(s'=s∧t'<t)))
       case atStart=>exact⟨m5,L5,0,by first | rfl | trivial,by first | rfl | trivial,yf8 _,by first | rfl | trivial,HDA5.o.to fun e s' t' h1 h2 h3=>HDA5.o.cl e s' t' h1 h2 yie⟩
       case round =>
        obtain⟨m6,L6,t,rfl,rfl,ht6,hmm6,hda6⟩:=hrel;have HMM6:=Zh hmm6;have HDA6:=Zh hda6;clear hmm6 hda6
        by_cases htk:t<k
        .have htk':(t:Int)<(k:Int):=yie;go_wp2;go_loopg [7,10] C (fun mm b i wr=>∃ (more:Bool) (L:Nat->Nat->Bool) (c:Nat),b = .bool more∧i = .int .i64 (c:Int)∧c<=C∧mm=C-c∧DA w1 wr w1.heap.size (.slice (some ⟨gv,0,none⟩) k cv) k C G (dl rows) (fun s=>os[s]?) c0 more L (fun s' t'=>s'<s∨(s'=s∧t'<t))∧(more=false->L s t=true->∀ c',c'<c->L (dl rows s c') (dl rows t c')=true))
         case atStart=>exact⟨m6,L6,0,by first | rfl | trivial,by first | rfl | trivial,yf8 _,by first | rfl | trivial,HDA6.o,fun _ _ c' h=>absurd h (yhf _)⟩
         case round =>
          obtain⟨m7,L7,c,rfl,rfl,hc7,hmm7,hda7,hin7⟩:=hrel;have HMM7:=Zh hmm7;have HDA7:=Zh hda7;have HIN7:=Zh hin7;have x6:=(HX1.o.stays hda7.below).num;have d1:=hda7.mx.cell s hsk;have z1:=(hda7.mx.rows s hsk).cell t htk;have z2:=(hda7.mx.rows s hsk).frozen t;clear hmm7 hin7;have HNX:Hid ((L7 s t=false∨c=C)->m7=false->∀ s' t',s'<k->t'<k->(s'<s∨(s'=s∧t'<t+1))->zhn (dl rows) C L7 s' t'):=Zh fun hor hm s' t' h1 h2 h3=>by
           by_cases e:s'=s∧t'=t
           .rw[e.1,e.2];intro hl d hd;rcases hor with h|h
            .rw[h] at hl;cases hl
            .exact HIN7.o hm hl d yie
           .exact HDA7.o.cl hm s' t' h1 h2 yie
          by_cases hcC2:c<C
          .have hcC2':(c:Int)<(C:Int):=yie;cases hl7:L7 s t with
           | false =>
            rw[hl7] at z1;have HCL:=Zh (HNX.o (.inl hl7));clear hl7 hda7;obtain⟨gs,hgs⟩:∃ gs,G s=gs:=⟨_,rfl⟩;rw[hgs] at d1 z1 z2;clear hgs;go_wp2;go_roundg (k-(t+1))
            case measure=>have:=HMM6.o;omega
            case rel=>exact⟨m7,L7,t+1,rfl,by go_num,by omega,rfl,HDA7.o.to HCL.o⟩
           | true =>
            rw[hl7] at z1;obtain⟨r1,hr1⟩:∃ r,rows[s]?=some r:=⟨_,yey (by rw[HL.o];exact hsk)⟩;obtain⟨r2,hr2⟩:∃ r,rows[t]?=some r:=⟨_,yey (by rw[HL.o];exact htk)⟩;obtain⟨hr1C,hr1N⟩:=HR.o s r1 hr1;obtain⟨hr2C,hr2N⟩:=HR.o t r2 hr2;obtain⟨x,hx⟩:∃ x,r1[c]?=some x:=⟨_,yey yie⟩;obtain⟨y,hy⟩:∃ y,r2[c]?=some y:=⟨_,yey yie⟩;have hxN:=hr1N x (yfh hx);have hyN:=hr2N y (yfh hy);have e1:dl rows s c=x:=by
             unfold dl;rw[yf0,yf0,hr1];simp[hx]
            have e2:dl rows t c=y:=by
             unfold dl;rw[yf0,yf0,hr2];simp[hy]
            have hnk:=HN1.o.kept (Kept.of_below (fun _=>False) hda7.below) (fun _ _ q=>q);obtain⟨A1,c1,n1,n2⟩:=hnk.cells hr1;obtain⟨A2,c2,n3,n4⟩:=hnk.cells hr2;obtain⟨g1,hA1,n5⟩:=n2 c x hx;obtain⟨g2,hA2,n6⟩:=n4 c y hy;subst hA1 hA2;rw[hr1C] at n1;rw[hr2C] at n3;have x7:=(HX1.o.stays hda7.below).nxt;have d2:=hda7.mx.cell x hxN;have d3:=(hda7.mx.rows x hxN).cell y hyN;have hxN':(x:Int)<(k:Int):=yie;have hyN':(y:Int)<(k:Int):=yie;have HE1:=Zh e1;have HE2:=Zh e2;have HL7:=Zh hl7;clear hr1 hr2 hr1C hr1N hr2C hr2N hx hy e1 e2 hnk n2 n4 hda7 hl7;obtain⟨gs,hgs⟩:∃ gs,G s=gs:=⟨_,rfl⟩;obtain⟨gx,hgx⟩:∃ gx,G x=gx:=⟨_,rfl⟩;have HGS:=Zh hgs;rw[hgs] at d1 z1 z2;rw[hgx] at d2 d3;clear hgs hgx;cases hxy:L7 x y with
            | true =>
             rw[hxy] at d3;have HXY:=Zh hxy;clear hxy;go_wp2;go_quiet (fail);go_wp2;go_roundg (C-(c+1))
             case measure=>have:=HMM7.o;omega
             case rel=>exact⟨m7,L7,c+1,rfl,by go_num,by omega,rfl,HDA7.o.drewN _,fun hm hl c' hc'=>(by rcases Nat.lt_succ_iff_lt_or_eq.1 hc' with h|h;exact HIN7.o hm hl c' h;rw[h,HE1.o,HE2.o];exact HXY.o)⟩
            | false =>
             rw[hxy] at d3;have hdrop:=fun n=>(HDA7.o.drewN n).drop (P':=fun s' t'=>s'<s∨(s'=s∧t'<t)) HDD.o (yez _) hsk htk hcC2 HL7.o (by rw[HE1.o,HE2.o];exact hxy)
             simp only[HGS.o] at hdrop;have HDROP:=Zh hdrop;clear hxy hdrop;go_wp2;go_quiet (fail);go_wp2;go_roundg (C-(c+1))
             case measure=>have:=HMM7.o;omega
             case rel=>exact⟨true,_,c+1,rfl,by go_num,by omega,rfl,HDROP.o _,fun hm=>(by cases hm)⟩
          .have hcl2:c=C:=yie;have HCL:=Zh (HNX.o (.inr hcl2));have hcC2':¬ (c:Int)<(C:Int):=yie;clear hcl2 hda7 d1 z1 z2;go_wp2;go_roundg (k-(t+1))
           case measure=>have:=HMM6.o;omega
           case rel=>exact⟨m7,L7,t+1,rfl,by go_num,by omega,rfl,HDA7.o.to HCL.o⟩
        .have htl:t=k:=yie;subst htl;go_wp2;go_roundg (t-(s+1))
         case measure=>have:=HMM5.o;omega
         case rel=>exact⟨m6,L6,s+1,rfl,by go_num,by omega,rfl,HDA6.o.to fun e s' t' h1 h2 h3=>HDA6.o.cl e s' t' h1 h2 yie⟩
      .have hsl:s=k:=yie;subst hsl;go_wp2;go_roundg (if m5 then cntM s L5+1 else 0)
       case measure =>
        have h1:=HMM4.o;have h2:=HC0.o;have h3:=HDA5.o.lt;simp only[if_true] at h1;cases m5 with
        | true=>have:=h3 rfl;simp only[if_true];omega
        | false=>simp only[ygy,if_false];omega
       case rel=>exact⟨m5,L5,rfl,rfl,HDA5.o.mx,HDA5.o.alk,fun e s' t' h1 h2=>HDA5.o.cl e s' t' h1 h2 h1,HDA5.o.below⟩
end Go.Proofs.YtipfgpfplakhiaaDoor
