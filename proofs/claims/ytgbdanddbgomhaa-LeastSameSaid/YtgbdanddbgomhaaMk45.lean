import Derived.Test.YtgbdanddbgomhaaMk44
import Derived.Test.YtgbdanddbgomhaaMk38
import Derived.Test.YtgbdanddbgomhaaMk42
set_option linter.unusedVariables false
set_option linter.unusedSimpArgs false
namespace Go.Proofs.Ytgbdanddbgomhaa
open Go Go.RowKit
section
theorem zuq {l:List Nat} (h:l.Pairwise (· < ·)):l.Nodup:=h.imp fun e=>Nat.ne_of_lt e
structure Few (R:List (T×Bool)):Prop where
 len:R.length<=4
 ok:∀ r∈R,WF r.1∧plR r.1<=60
section
variable {R:List (T×Bool)}
theorem Few.nfas (h:Few R):∀ r∈R,WF r.1∧plR r.1<=256:=fun r hr=>⟨(h.ok r hr).1,by have:=(h.ok r hr).2;omega⟩
theorem Few.mem (h:Few R) {s:Lay} {x:Str} (hm:(s,x)∈laysOf R):∃ t,WF t∧plR t<=60∧lay0 t=(s,x):=by
 unfold laysOf at hm;obtain⟨r,hr,e⟩:=List.mem_map.1 hm;exact⟨r.1,(h.ok r hr).1,(h.ok r hr).2,e⟩
theorem Few.lay (h:Few R):∀ s x,(s,x)∈laysOf R->OkLay s x:=fun s x hm=>by
 obtain⟨t,h1,h2,h3⟩:=h.mem hm;have:=zxz h1 (by omega);rw[h3] at this;exact this
theorem Few.nodup (h:Few R):∀ s x,(s,x)∈laysOf R->x.first.Nodup:=fun s x hm=>by
 obtain⟨t,h1,h2,h3⟩:=h.mem hm;have:=(zeq (xs:=[]) h1).2.sf;rw[h3] at this;exact zuq this
theorem Few.size (h:Few R):∀ s x,(s,x)∈laysOf R->s.sets.length<=60:=fun s x hm=>by
 obtain⟨t,h1,h2,h3⟩:=h.mem hm;have hsz:(lay0 t).1.sets.length=plR t:=(by have:=zjc h1 ⟨[],[]⟩;simpa [lay0] using this);rw[h3] at hsz;simp only at hsz;omega
theorem zi3:(laysOf R).length=R.length:=by simp[laysOf]
theorem Few.sets (h:Few R):∀ k,k<=(laysOf R).length->(setsN (laysOf R) k).length<=k*60
 | 0,_=>by simp[setsN]
 | k+1,hk=>by
   have ih:=Few.sets h k (by omega);have hm:(laysOf R).getD k lx0∈laysOf R:=(by rw[List.getD_eq_getElem?_getD,List.getElem?_eq_getElem (by omega)];exact List.getElem_mem _);have:=h.size ((laysOf R).getD k lx0).1 ((laysOf R).getD k lx0).2 hm;rw[setsN,List.length_append];omega
theorem Few.few (h:Few R):(setsN (laysOf R) (laysOf R).length).length*64<=100000:=by
 have:=h.sets _ (Nat.le_refl _);have h2:=h.len;rw[←zi3 (R:=R)] at h2;omega
end
theorem zt4 (L:List ByteArray) (bs:List Bool) (n:Nat) (h:n<=4):Few (rulesN L bs n):=by
 refine⟨Nat.le_trans (zf4 L bs n) h,fun r hr=>?_⟩;obtain⟨h1,h2,h3⟩:=zk5 L bs n r hr;rw[zr7 h1] at h2;exact⟨h1,by omega⟩
theorem zxb {L:List (Lay×Str)} {bs:List Bool} {lam most:Nat} (hm:1<=most∧most<=1000) {ss:List Sta} {rows:List (List Nat)} (h:srchOf L bs lam most=some (ss,rows)):
   OkM (clsOf L bs) (cntOf L bs) rows (ss.map fun s=>mOutP (RR L bs lam) s (0,0))∧rows.length<=1000∧∀ r∈rows,r.length<=256:=by
 unfold srchOf at h;obtain⟨h1,h2,z,h3⟩:=zla h (by omega) (Nat.zero_le _) (by simp;omega) ⟨by simp,rfl,fun j hj=>by omega⟩;have hC:cntOf L bs<=256:=zd6 _ _;have hlen:rows.length=ss.length:=h1.len;have hpos:0<ss.length:=(by rw[h3];simp);have hrow:∀ (i:Nat) r,rows[i]?=some r->r.length=cntOf L bs∧∀ t∈r,t<rows.length:=fun i r e=>by
   have hi:i<ss.length:=(by rw[←hlen];exact (List.getElem?_eq_some_iff.1 e).1);obtain⟨s,row,e1,e2,e3,e4⟩:=h1.row i hi;rw[e] at e2;injection e2 with e2
   subst e2;refine⟨e3,fun t ht=>?_⟩;obtain⟨c,hc,et⟩:=List.getElem_of_mem ht;obtain⟨e5,e6⟩:=e4 c (by omega);rw[List.getElem?_eq_getElem hc,et] at e6;injection e6 with e6
   rw[e6,hlen];exact zgw e5
 refine⟨⟨fun b hb=>zbw _ hb,hrow,by rw[List.length_map,hlen],by omega,by omega⟩,by omega,fun r hr=>?_⟩;obtain⟨i,hi⟩:=List.getElem?_of_mem hr;have:=(hrow i r hi).1;omega
theorem zwh {w:World} {B n c:Nat} {A:Option Addr} {cs:List Bool} (h:w.ownsRow B 4 1 (.slice A n c) n (cs.map Value.bool)):RdBo w A cs:=fun i x hi=>by
 have hl:i<cs.length:=(List.getElem?_eq_some_iff.1 hi).1;have h1:=h.1;rw[List.length_map] at h1;rcases h.2 with ⟨_,h0⟩|⟨g,cap,cur,e,hB,hg,_⟩
 . omega
 . injection e with e1 e2 e3
   subst e1;refine⟨g,0,rfl,za4 hg,?_⟩;rw[Nat.zero_add,World.ownsRow.cellAt h i (by omega),List.getElem?_map,hi];rfl
end
theorem zva {α:Type} [DecidableEq α] {P:α->Prop} {ss:List α} {t:α} (h:∀ s∈ss,P s) (ht:P t):∀ s∈meetL ss t,P s:=fun s hs=>by
 unfold meetL at hs;split at hs
 . exact h s hs
 . rw[List.mem_append,List.mem_singleton] at hs;rcases hs with hs|rfl
   . exact h s hs
   . exact ht
theorem zn0 {f:Nat->Sta} {most:Nat} {P:Sta->Prop} (hf:∀ c,P (f c)):∀ (k c:Nat) (ss:List Sta) (row:List Nat) (ss':List Sta) (row':List Nat),rowS f most k c ss row=some (ss',row')->(∀ s∈ss,P s)->∀ s∈ss',P s
 | 0,c,ss,row,ss',row',h,ha=>by
   unfold rowS at h;injection h with h
   injection h with h1 h2
   subst h1;exact ha
 | k+1,c,ss,row,ss',row',h,ha=>by
   unfold rowS at h;split at h
   . cases h
   . exact zn0 hf k (c+1) _ _ _ _ h (zva ha (hf c))
theorem zif {step:Sta->Nat->Sta} {most n:Nat} {P:Sta->Prop} (hf:∀ s c,P (step s c)):∀ (fu i:Nat) (ss:List Sta) (rows:List (List Nat)) (ss':List Sta) (rows':List (List Nat)),buildS step most n fu i ss rows=some (ss',rows')->(∀ s∈ss,P s)->∀ s∈ss',P s
 | 0,i,ss,rows,ss',rows',h,ha=>by
   unfold buildS at h;injection h with h
   injection h with h1 h2
   subst h1;exact ha
 | fu+1,i,ss,rows,ss',rows',h,ha=>by
   unfold buildS at h;split at h
   . injection h with h
     injection h with h1 h2
     subst h1;exact ha
   . rename_i s hs;split at h
     . cases h
     . rename_i ss2 row2 h2;exact zif hf fu (i+1) _ _ _ _ h (zn0 (hf s) _ _ _ _ _ _ h2 ha)
theorem zki {R:RSt}:∀ (st:List (Nat×Nat)) (o:Nat×Nat),Fits R st->okO o->okO (mOutP R st o)
 | [],o,h,ho=>ho
 | x::st,o,h,ho=>by
   rw[mOutP];refine zki st _ (fun y hy=>h y (List.mem_cons_of_mem _ hy)) ?_;have hx:=(h x List.mem_cons_self).2;have e64:(2:Nat) ^ 64=18446744073709551616:=(by decide);unfold outStep;split
   . split
     . split
       . refine⟨ho.1,?_⟩;have:=Nat.or_lt_two_pow (n:=64) (x:=o.2) (y:=x.2) (by rw[e64];exact ho.2) hx
         simpa [e64] using this
       . refine⟨?_,ho.2⟩;have:=Nat.or_lt_two_pow (n:=64) (x:=o.1) (y:=x.2) (by rw[e64];exact ho.1) hx
         simpa [e64] using this
     . exact ho
   . exact ho
theorem zqg {L:List (Lay×Str)} {bs:List Bool} {lam most:Nat} (hV:Valid (RR L bs lam)) {ss:List Sta} {rows:List (List Nat)} (h:srchOf L bs lam most=some (ss,rows)):∀ o∈ss.map (fun s=>mOutP (RR L bs lam) s (0,0)),okO o:=fun o ho=>by
 obtain⟨s,hs,rfl⟩:=List.mem_map.1 ho;unfold srchOf at h;have hm:=zif (P:=May (RR L bs lam)) (fun s c=>zmr _ hV _ s c) _ _ _ _ _ _ h (fun s hs=>by rw[List.mem_singleton] at hs;subst hs;exact fun x hx=>by cases hx) s hs;exact zki s _ (zfx hV hm) ⟨by decide,by decide⟩
theorem Met.few7 {κ:Nat->Nat} {N:Nat} {fs:List Nat} (h:Met κ N fs):fs.length<=N:=by
 have hnd:fs.Nodup:=(List.Pairwise.of_map κ (fun a b hab e=>hab (by rw[e])) h.nod);have:=zbz fs (List.range N) hnd fun s hs=>List.mem_range.2 (h.lt s hs)
 simpa using this
theorem zgl {κ nx:Nat->Nat}:∀ (k c:Nat) (fs row:List Nat),(lsRow κ nx k c fs row).2.length=row.length+k∧∃ z,(lsRow κ nx k c fs row).1=fs++z
 | 0,c,fs,row=>⟨by rw[lsRow];rfl,[],by rw[lsRow];simp⟩
 | k+1,c,fs,row=>by
   rw[lsRow];split
   . obtain⟨h1,h2⟩:=zgl (κ:=κ) (nx:=nx) k (c+1) fs (row++[idxM (fs.map κ) (κ (nx c))]);exact⟨by rw[h1,List.length_append,List.length_singleton];omega,h2⟩
   . obtain⟨h1,z,h2⟩:=zgl (κ:=κ) (nx:=nx) k (c+1) (fs++[nx c]) (row++[fs.length]);exact⟨by rw[h1,List.length_append,List.length_singleton];omega,nx c::z,by rw[h2,List.append_assoc];rfl⟩
theorem zjb {κ:Nat->Nat} {δ:Nat->Nat->Nat} {C N:Nat} (hδ:∀ s c,s<N->c<C->δ s c<N):∀ (fu i:Nat) (fs:List Nat) (rows:List (List Nat)) (fs':List Nat) (rows':List (List Nat)),lsAll κ δ C fu i fs rows=(fs',rows')->Met κ N fs->rows.length=i->i<=fs.length->N<fu+i->(∀ r∈rows,r.length=C)->Met κ N fs'∧rows'.length=fs'.length∧(∀ r∈rows',r.length=C)∧∃ z,fs'=fs++z
 | 0,i,fs,rows,fs',rows',h,hm,hr,hi,hf,hC=>by
   have:=hm.few7;omega
 | fu+1,i,fs,rows,fs',rows',h,hm,hr,hi,hf,hC=>by
   rw[lsAll] at h;split at h
   . rename_i hs;injection h with h1 h2
     subst h1 h2;rw[List.getElem?_eq_none_iff] at hs;exact⟨hm,by omega,hC,[],by simp⟩
   . rename_i s hs;have hsN:=hm.lt s (List.mem_of_getElem? hs);have hil:=(List.getElem?_eq_some_iff.1 hs).1;obtain⟨hl,z,hz⟩:=zgl (κ:=κ) (nx:=δ s) C 0 fs [];have hm':=zcq (κ:=κ) (nx:=δ s) C 0 fs [] (fun d hd=>hδ s d hsN (by omega)) hm;rw[hz] at hm' h;obtain⟨g1,g2,g3,z',g4⟩:=zjb hδ fu (i+1) _ _ _ _ h hm' (by rw[List.length_append,List.length_singleton];omega) (by rw[List.length_append];omega) (by omega) (fun r hr=>by
       rw[List.mem_append,List.mem_singleton] at hr;rcases hr with hr|rfl
       . exact hC r hr
       . simpa using hl)
     exact⟨g1,g2,g3,z++z',by rw[g4,List.append_assoc]⟩
theorem zdd (κ:Nat->Nat) {N:Nat} (h:0<N):Met κ N [0]:=⟨fun s hs=>by rw[List.mem_singleton] at hs;omega,by simp⟩
theorem zbx {κ:Nat->Nat} {δ:Nat->Nat->Nat} {C N:Nat} (hδ:∀ s c,s<N->c<C->δ s c<N) (h0:0<N) {fs':List Nat} {rows':List (List Nat)} (h:lsAll κ δ C (N+1) 0 [0] []=(fs',rows')):Met κ N fs'∧rows'.length=fs'.length∧(∀ r∈rows',r.length=C)∧fs'.length<=N:=by
 obtain⟨h1,h2,h3,_⟩:=zjb hδ (N+1) 0 [0] [] fs' rows' h (zdd κ h0) rfl (by simp) (by omega) (fun r hr=>by cases hr);exact⟨h1,h2,h3,h1.few7⟩
theorem zw9 {rows:List (List Nat)} {N C:Nat} (hl:rows.length=N) (hr:∀ (i:Nat) r,rows[i]?=some r->r.length=C∧∀ x∈r,x<N):∀ s c,s<N->c<C->dl rows s c<N:=fun s c hs hc=>by
 have hs':s<rows.length:=(by omega);obtain⟨h1,h2⟩:=hr s rows[s] (List.getElem?_eq_getElem hs');have hc':c<rows[s].length:=(by omega);unfold dl;have e1:rows.getD s []=rows[s]:=(by rw[List.getD_eq_getElem?_getD,List.getElem?_eq_getElem hs',Option.getD_some]);rw[e1,List.getD_eq_getElem?_getD,List.getElem?_eq_getElem hc',Option.getD_some];exact h2 _ (List.getElem_mem _)
set_option maxRecDepth 20000 in
theorem zmh (F:Nat->Nat) (n:Int) (A:Option Addr) (m c:Nat) (B:Option Addr) (k d:Nat) (w:World):(Instr.build 41 #[(0,.agg (arrV 256 F)),(1,.int .i64 n),(2,.slice A m c),(3,.slice B k d)]).run Try.prog w = .ok (.agg (machC F n (.slice A m c) (.slice B k d))) w:=by
 refine run_build w _ _ _ ?_
 kernel_rfl
theorem zhe {w:World} {ops:Array Oper} {rest:List Oper} {o:Oper} {a:Act} {Q:Exit->Act->World->Prop} {F:Nat->Nat} {n:Int} {A:Option Addr} {m c:Nat} {B:Option Addr} {k d:Nat} (hgd:o.guard=none) (x0 x1 x2 x3:Operand) (ho:o.op = .build 41 #[(0,x0),(1,x1),(2,x2),(3,x3)])
   (h0:a.eval x0 = .agg (arrV 256 F)) (h1:a.eval x1 = .int .i64 n) (h2:a.eval x2 = .slice A m c) (h3:a.eval x3 = .slice B k d)
   (hk:wpList Try.prog ops Q rest (a.put o.dst (.agg (machC F n (.slice A m c) (.slice B k d)))) w):wpList Try.prog ops Q (o::rest) a w:=by
 refine wpList_plain hgd fun _ hK=>?_
 unfold Oper.wp execOp;have e:(#[(0,x0),(1,x1),(2,x2),(3,x3)]:Array (Nat×Operand)).map (fun (i,x)=>(i,a.eval x))=#[(0,.agg (arrV 256 F)),(1,.int .i64 n),(2,.slice A m c),(3,.slice B k d)]:=(by simp[h0,h1,h2,h3]);simp only[ho,e,Sem.run_bind,Sem.run_pure,Result.andThen_ok,zmh];exact hK _ _ hk
set_option maxRecDepth 20000 in
set_option maxHeartbeats 2000000 in
theorem zrz (w:World) (F:Nat->Nat) (n:Int) (A:Option Addr) (m c:Nat) (B:Option Addr) (k d:Nat):Calls Try.prog 10 #[.agg (machC F n (.slice A m c) (.slice B k d))] w fun e w'=>e = .returned (.agg (machC F n (.slice A m c) (.slice B k d)))∧Below w.heap.size w w':=by
 have hz43:∀ w:World,Sem.run Try.prog (zeroValue 41) w = .ok (.agg (machC (fun _=>0) 0 (.slice none 0 0) (.slice none 0 0))) w:=fun _=>by kernel_rfl
 obtain⟨w1,hw1⟩:∃ w1,w.alloc (.cells (machC F n (.slice A m c) (.slice B k d)) 38)=w1:=⟨_,rfl⟩;have hb1:Below w.heap.size w w1:=(by rw[←hw1];exact (Below.refl _ _).alloc (Nat.le_refl _) _);have hx1:BoxM w1 w.heap.size 38 F n (.slice A m c) (.slice B k d):=(by rw[←hw1];exact BoxM.new w _ _ _ _ _);have hs1:w1.heap.size=w.heap.size+1:=(by rw[←hw1];simp);have HW1:=Zh hw1;clear hw1;go_enter Try.func10,Try.ntmps10;go_upto_region 1 with fail
 rw[HW1.out];have hx2:=hx1.stays (show Below w1.heap.size w1 (w1.alloc (.cells (machC (fun _=>0) 0 (.slice none 0 0) (.slice none 0 0)) 41)) from (Below.refl _ _).alloc (Nat.le_refl _) _);have hy2:=BoxM.new w1 41 (fun _=>0) 0 (.slice none 0 0) (.slice none 0 0);have hb2:Below w1.heap.size w1 (w1.alloc (.cells (machC (fun _=>0) 0 (.slice none 0 0) (.slice none 0 0)) 41)):=(Below.refl _ _).alloc (Nat.le_refl _) _;generalize w1.alloc (.cells (machC (fun _=>0) 0 (.slice none 0 0) (.slice none 0 0)) 41)=w2 at *;have c1:=hx2.num;have c2:=hx2.nxt;have c3:=hx2.out;rw[hs1] at hy2;have HX2:=Zh hx2;have HY2:=Zh hy2;have HB2:=Zh (gro hb1 hb2);clear hx1 hx2 hy2 hb1 hb2 hs1 hz43;go_wp2_with (first
   | (refine zb7 (by rfl) _ (by rfl) (by rfl) HX2.out ?_;go_simp)
   | (refine zhe (by rfl) _ _ _ _ (by rfl) (by rfl) (by rfl) (by rfl) (by rfl) ?_;go_simp)
   | (refine zam (by rfl) _ _ (by rfl) (by rfl) (by rfl) Try.sizeMM rfl rfl HY2.out ?_;intro hbx;have HBX1:=Zh hbx;clear hbx;go_simp)
   | fail)
 exact bodyPost_ret (v := .agg (machC F n (.slice A m c) (.slice B k d))) (zcy Try.results10 rfl Try.underlying41 rfl Try.sizeMM HBX1.out) rfl ⟨rfl,zah HB2.out (Nat.le_succ _) _⟩
theorem zqh:srchOf [] [] 5 1=some ([[]],[[0]]):=by
 unfold srchOf;rw[show cntOf [] []=1 from zg1 255];rfl
theorem zpt (W:World):Calls Try.prog 26 #[.slice none 0 0,.slice none 0 0,.int .i64 5,.int .i64 1] W fun e w'=>Below W.heap.size W w'∧∃ F vN vO O,e = .returned (.tuple #[.agg (machC F ((1:Nat):Int) vN vO),.nilIface])∧Nxt w' W.heap.size O vN [[0]]∧Ots w' W.heap.size O vO [mOutP (RR [] [] 5) [] (0,0)]:=by
 have h:=zvc (w:=W) (A:=none) (B:=none) (ca:=0) (cb:=0) (L:=[]) (bs:=[]) (lam:=5) (most:=1) (fun i s x e=>by simp at e) (fun i x e=>by simp at e) (by omega) (by omega) (fun s x e=>by simp at e) (by simp) (by simp);refine h.mono fun e w' h=>?_
 unfold RetMB at h;rw[if_neg (by simp),show ((5:Int).toNat)=5 from rfl,show ((1:Int).toNat)=1 from rfl,zqh] at h;obtain⟨h1,vN,vO,O,rfl,hn,ho⟩:=h;refine⟨h1,clsOf [] [],vN,vO,O,?_,hn,ho⟩;rw[show cntOf [] []=1 from zg1 255]
theorem zs5 {w:World} {B B':Nat} {F:Nat->Nat} {vN vO:Value} {O O':Nat->Prop} (hn:Nxt w B O vN [[0]]) (ho:Ots w B' O' vO [mOutP (RR [] [] 5) [] (0,0)]):
   Calls Try.prog 9 #[.agg (machC F ((1:Nat):Int) vN vO)] w fun e w'=>Below w.heap.size w w'∧∃ A c B d,e = .returned (.agg (machC F 1 (.slice A 1 c) (.slice B 1 d))):=by
 have h:=zm1 (F:=F) (N:=1) (C:=1) hn ho rfl rfl (by omega) (fun o ho=>by rw[List.mem_singleton] at ho;subst ho;exact⟨by decide,by decide⟩) (fun i r e=>by
   cases i with
   | zero=>simp at e;subst e;exact⟨rfl,fun x hx=>by simp at hx;omega⟩
   | succ i=>simp at e) (by omega) (by omega) (by omega)
 refine h.mono fun e w' h=>?_
 obtain⟨q,uN,uO,O2,fs,rows',rfl,_,hls,hN,hO,hb⟩:=h;obtain⟨h1,h2,h3,h4⟩:=zbx (N:=1) (C:=1) (zw9 rfl (fun i r e=>by
   cases i with
   | zero=>simp at e;subst e;exact⟨rfl,fun x hx=>by simp at hx;omega⟩
   | succ i=>simp at e)) (by omega) hls
 obtain⟨_,_,_,z,hz⟩:=zjb (N:=1) (C:=1) (zw9 (rows:=[[0]]) rfl (fun i r e=>by
   cases i with
   | zero=>simp at e;subst e;exact⟨rfl,fun x hx=>by simp at hx;omega⟩
   | succ i=>simp at e)) _ _ _ _ _ _ hls (zdd _ (by omega)) rfl (by simp) (by omega) (fun r hr=>by cases hr)
 have hl:fs.length=1:=by
   have:fs.length=1+z.length:=by rw[hz,List.length_append];rfl
   omega
 obtain⟨A,c,e1⟩:=hN.form;obtain⟨B,d,e2⟩:=hO.form;rw[h2,hl] at e1;rw[List.length_map,hl] at e2;exact⟨hb,A,c,B,d,by rw[e1,e2];rfl⟩
set_option maxRecDepth 20000 in
set_option maxHeartbeats 2000000 in
theorem zyi (w:World):Calls Try.prog 5 #[] w fun e w'=>e = .returned (.bool true)∧Below w.heap.size w w':=by
 have hz38:∀ w:World,Sem.run Try.prog (zeroValue 41) w = .ok (.agg zeroM) w:=fun _=>by kernel_rfl
 have HB:=Zh zpt;go_enter Try.func5,Try.ntmps5;go_upto_region 2 with (first
   | (go_at_call 26;(with_reducible refine (HB.out _).mono ?_);rintro e w1 ⟨b1,F,vN,vO,O,rfl,hn1,ho1⟩;obtain⟨A,c,e1⟩:=hn1.form;obtain⟨B,d,e2⟩:=ho1.form;subst e1 e2;have B1:=Zh b1;have HN1:=Zh hn1;have HO1:=Zh ho1;clear b1 hn1 ho1)
   | (refine zam (by rfl) _ _ (by rfl) (by rfl) (by rfl) Try.sizeMM rfl rfl (BoxM.new w1 41 (fun _=>0) 0 (.slice none 0 0) (.slice none 0 0)) ?_;intro hbx;have HX1:=Zh hbx;clear hbx;go_simp)
   | fail)
 have hb2:Below w1.heap.size w1 ((w1.alloc (.cells zeroM 41)).setRow w1.heap.size (machC F 1 (.slice A 1 c) (.slice B 1 d))):=zah ((Below.refl _ _).alloc (Nat.le_refl _) _) (Nat.le_refl _) _;have hn2:=HN1.out.oth (Kept.of_below (fun _=>False) hb2) zau;have ho2:=HO1.out.kept (Kept.of_below (fun _=>False) hb2) fun b e e'=>e'
 have hx2:=HX1.out;change BoxM ((w1.alloc (.cells zeroM 41)).setRow w1.heap.size (machC F 1 (.slice A 1 c) (.slice B 1 d))) _ _ _ _ _ _ at hx2;have hb2':=gro B1.out hb2;generalize (w1.alloc (.cells zeroM 41)).setRow w1.heap.size (machC F 1 (.slice A 1 c) (.slice B 1 d))=w2 at *;have hle:=zs5 (F:=F) hn2 ho2;have HLE:Hid (Calls Try.prog 9 #[.agg (machC F 1 (.slice A 1 c) (.slice B 1 d))] w2 fun e w'=>Below w2.heap.size w2 w'∧∃ A c B d,e = .returned (.agg (machC F 1 (.slice A 1 c) (.slice B 1 d)))):=Zh hle;have HX2:=Zh hx2;have HB2:=Zh hb2';clear hx2 hb2 hb2' HX1 hn2 ho2 hle HN1 HO1 HB;go_upto_region 5 with (first
   | (refine zbe (by rfl) _ (by rfl) (by rfl) Try.underlying41 rfl Try.sizeMM HX2.out ?_;go_simp)
   | (go_at_call 9;(with_reducible refine HLE.out.mono ?_);rintro e w3 ⟨b3,A3,c3,B3,d3,rfl⟩;have HB3:=Zh (gro HB2.out b3);clear b3)
   | (refine zam (by rfl) _ _ (by rfl) (by rfl) (by rfl) Try.sizeMM rfl rfl (BoxM.new w3 41 (fun _=>0) 0 (.slice none 0 0) (.slice none 0 0)) ?_;intro hbx;have HX3:=Zh hbx;clear hbx;go_simp)
   | fail)
 have hb4:Below w3.heap.size w3 ((w3.alloc (.cells zeroM 41)).setRow w3.heap.size (machC F 1 (.slice A3 1 c3) (.slice B3 1 d3))):=zah ((Below.refl _ _).alloc (Nat.le_refl _) _) (Nat.le_refl _) _;have hx4:=HX3.out;change BoxM ((w3.alloc (.cells zeroM 41)).setRow w3.heap.size (machC F 1 (.slice A3 1 c3) (.slice B3 1 d3))) _ _ _ _ _ _ at hx4;have hb5:=gro HB3.out hb4;generalize (w3.alloc (.cells zeroM 41)).setRow w3.heap.size (machC F 1 (.slice A3 1 c3) (.slice B3 1 d3))=w5 at *;have c1:=hx4.num;have c2:=hx4.nxt;have c3:=hx4.out;have HB5:=Zh hb5;clear hb4 hx4 hb5;go_wp2;go_ret;exact⟨rfl,HB5.out⟩
theorem zc6 {κ nx:Nat->Nat}:∀ (k c:Nat) (fs row fs' row':List Nat),lsRow κ nx k c fs row=(fs',row')->row.length=c->(∃ z,fs'=fs++z)∧(∃ z,row'=row++z)∧∀ d,c<=d->d<c+k->row'.getD d 0<fs'.length∧κ (fs'.getD (row'.getD d 0) 0)=κ (nx d)
 | 0,c,fs,row,fs',row',h,hl=>by
   rw[lsRow] at h;injection h with h1 h2
   subst h1 h2;exact⟨⟨[],by simp⟩,⟨[],by simp⟩,fun d h1 h2=>by omega⟩
 | k+1,c,fs,row,fs',row',h,hl=>by
   rw[lsRow] at h;split at h
   . rename_i hm;obtain⟨⟨z,hz⟩,⟨y,hy⟩,h3⟩:=zc6 k (c+1) _ _ _ _ h (by rw[List.length_append,List.length_singleton,hl]);refine⟨⟨z,hz⟩,⟨idxM (fs.map κ) (κ (nx c))::y,by rw[hy,List.append_assoc];rfl⟩,fun d h1 h2=>?_⟩
     by_cases e:d=c
     . subst e;have hg:row'.getD d 0=idxM (fs.map κ) (κ (nx d)):=by
         rw[hy,List.getD_eq_getElem?_getD,List.append_assoc,List.getElem?_append_right (by omega),hl,Nat.sub_self];rfl
       have hi:=zgw hm;rw[List.length_map] at hi;rw[hg];refine⟨by rw[hz,List.length_append];omega,?_⟩;have:=zjh hm;rw[List.getElem?_map,Option.map_eq_some_iff] at this;obtain⟨s,hs,e⟩:=this;rw[hz,List.getD_eq_getElem?_getD,List.getElem?_append_left hi,hs];exact e
     . exact h3 d (by omega) (by omega)
   . rename_i hm;obtain⟨⟨z,hz⟩,⟨y,hy⟩,h3⟩:=zc6 k (c+1) _ _ _ _ h (by rw[List.length_append,List.length_singleton,hl]);refine⟨⟨nx c::z,by rw[hz,List.append_assoc];rfl⟩,⟨fs.length::y,by rw[hy,List.append_assoc];rfl⟩,fun d h1 h2=>?_⟩
     by_cases e:d=c
     . subst e;have hg:row'.getD d 0=fs.length:=by
         rw[hy,List.getD_eq_getElem?_getD,List.append_assoc,List.getElem?_append_right (by omega),hl,Nat.sub_self];rfl
       rw[hg];refine⟨by rw[hz,List.length_append,List.length_append,List.length_singleton];omega,?_⟩;rw[hz,List.getD_eq_getElem?_getD,List.append_assoc,List.getElem?_append_right (Nat.le_refl _),Nat.sub_self];rfl
     . exact h3 d (by omega) (by omega)
theorem zdt {κ:Nat->Nat} {δ:Nat->Nat->Nat} {C N:Nat} (hδ:∀ s c,s<N->c<C->δ s c<N):∀ (fu i:Nat) (fs:List Nat) (rows:List (List Nat)) (fs':List Nat) (rows':List (List Nat)),lsAll κ δ C fu i fs rows=(fs',rows')->Met κ N fs->rows.length=i->i<=fs.length->N<fu+i->
   (∃ z,fs'=fs++z)∧(∃ z,rows'=rows++z)∧∀ j,i<=j->j<fs'.length->∀ d,d<C->dl rows' j d<fs'.length∧κ (fs'.getD (dl rows' j d) 0)=κ (δ (fs'.getD j 0) d)
 | 0,i,fs,rows,fs',rows',h,hm,hr,hi,hf=>by
   have:=hm.few7;omega
 | fu+1,i,fs,rows,fs',rows',h,hm,hr,hi,hf=>by
   rw[lsAll] at h;split at h
   . rename_i hs;injection h with h1 h2
     subst h1 h2;rw[List.getElem?_eq_none_iff] at hs;exact⟨⟨[],by simp⟩,⟨[],by simp⟩,fun j h1 h2=>by omega⟩
   . rename_i s hs;have hsN:=hm.lt s (List.mem_of_getElem? hs);have hil:=(List.getElem?_eq_some_iff.1 hs).1;obtain⟨fs1,row1,h1⟩:∃ a b,lsRow κ (δ s) C 0 fs []=(a,b):=⟨_,_,rfl⟩;have hm':=zcq (κ:=κ) (nx:=δ s) C 0 fs [] (fun d hd=>hδ s d hsN (by omega)) hm;obtain⟨⟨z1,hz1⟩,⟨y1,hy1⟩,h3⟩:=zc6 C 0 fs [] fs1 row1 h1 rfl;rw[h1] at hm' h;simp only at hm' h;obtain⟨⟨z2,hz2⟩,⟨y2,hy2⟩,h4⟩:=zdt hδ fu (i+1) _ _ _ _ h hm' (by rw[List.length_append,List.length_singleton];omega) (by rw[hz1,List.length_append];omega) (by omega);refine⟨⟨z1++z2,by rw[hz2,hz1,List.append_assoc]⟩,⟨row1::y2,by rw[hy2,List.append_assoc];rfl⟩,fun j j1 j2 d hd=>?_⟩
     by_cases e:j=i
     . subst e;have e1:dl rows' j d=row1.getD d 0:=by
         unfold dl;have:rows'.getD j []=row1:=by
           rw[hy2,List.getD_eq_getElem?_getD,List.append_assoc,List.getElem?_append_right (by omega),hr,Nat.sub_self];rfl
         rw[this]
       have e2:fs'.getD j 0=s:=by
         rw[hz2,hz1,List.append_assoc,List.getD_eq_getElem?_getD,List.getElem?_append_left hil,hs];rfl
       obtain⟨g1,g2⟩:=h3 d (Nat.zero_le _) (by omega);rw[e1,e2];refine⟨by rw[hz2,List.length_append];omega,?_⟩;rw[←g2,hz2,List.getD_eq_getElem?_getD,List.getElem?_append_left g1,←List.getD_eq_getElem?_getD]
     . exact h4 j (by omega) j2 d hd
theorem zfc {κ nx nx':Nat->Nat}:∀ (k c:Nat) (fs row fs' row':List Nat),lsRow κ nx k c fs row=(fs',row')->row.length=c->(∀ d,c<=d->d<c+k->nx' d=row'.getD d 0)->lsRow id nx' k c (List.range fs.length) row=(List.range fs'.length,row')
 | 0,c,fs,row,fs',row',h,hl,hx=>by
   rw[lsRow] at h ⊢;injection h with h1 h2
   subst h1 h2;rfl
 | k+1,c,fs,row,fs',row',h,hl,hx=>by
   rw[lsRow] at h ⊢;have hc:=hx c (Nat.le_refl _) (by omega);rw[List.map_id];split at h
   . rename_i hm;obtain⟨_,⟨y,hy⟩,_⟩:=zc6 k (c+1) _ _ _ _ h (by rw[List.length_append,List.length_singleton,hl]);have hg:row'.getD c 0=idxM (fs.map κ) (κ (nx c)):=by
       rw[hy,List.getD_eq_getElem?_getD,List.append_assoc,List.getElem?_append_right (by omega),hl,Nat.sub_self];rfl
     have hi:=zgw hm;rw[List.length_map] at hi;rw[hc,hg];have hin:id (idxM (fs.map κ) (κ (nx c)))∈List.range fs.length:=List.mem_range.2 hi;rw[if_pos hin];have hidx:idxM (List.range fs.length) (id (idxM (fs.map κ) (κ (nx c))))=idxM (fs.map κ) (κ (nx c)):=by
       have h1:=zjh hin;have h2:=zgw hin;rw[List.length_range] at h2;rw[List.getElem?_range h2] at h1;injection h1
     rw[hidx];exact zfc k (c+1) fs _ fs' row' h (by rw[List.length_append,List.length_singleton,hl]) fun d h1 h2=>hx d (by omega) (by omega)
   . rename_i hm;obtain⟨_,⟨y,hy⟩,_⟩:=zc6 k (c+1) _ _ _ _ h (by rw[List.length_append,List.length_singleton,hl]);have hg:row'.getD c 0=fs.length:=by
       rw[hy,List.getD_eq_getElem?_getD,List.append_assoc,List.getElem?_append_right (by omega),hl,Nat.sub_self];rfl
     rw[hc,hg,if_neg (by simp),List.length_range];have:=zfc k (c+1) (fs++[nx c]) _ fs' row' h (by rw[List.length_append,List.length_singleton,hl]) fun d h1 h2=>hx d (by omega) (by omega)
     rw[List.length_append,List.length_singleton,List.range_succ] at this;exact this
theorem zi0 {κ:Nat->Nat} {δ δ':Nat->Nat->Nat} {C N:Nat} (hδ:∀ s c,s<N->c<C->δ s c<N):∀ (fu i:Nat) (fs:List Nat) (rows:List (List Nat)) (fs':List Nat) (rows':List (List Nat)),lsAll κ δ C fu i fs rows=(fs',rows')->Met κ N fs->rows.length=i->i<=fs.length->N<fu+i->(∀ j d,d<C->δ' j d=dl rows' j d)->
   ∀ fu',fs'.length<fu'+i->lsAll id δ' C fu' i (List.range fs.length) rows=(List.range fs'.length,rows')
 | 0,i,fs,rows,fs',rows',h,hm,hr,hi,hf,hx,fu',hf'=>by
   have:=hm.few7;omega
 | fu+1,i,fs,rows,fs',rows',h,hm,hr,hi,hf,hx,fu',hf'=>by
   obtain⟨⟨z,hz⟩,_,_⟩:=zdt hδ _ _ _ _ _ _ h hm hr hi hf;have hle:fs.length<=fs'.length:=(by rw[hz,List.length_append];omega);cases fu' with
   | zero=>omega
   | succ fu' =>
     rw[lsAll] at h;split at h
     . rename_i hs;injection h with h1 h2
       subst h1 h2;rw[List.getElem?_eq_none_iff] at hs;exact zko (by rw[List.getElem?_eq_none_iff,List.length_range];exact hs)
     . rename_i s hs;have hsN:=hm.lt s (List.mem_of_getElem? hs);have hil:=(List.getElem?_eq_some_iff.1 hs).1;obtain⟨fs1,row1,h1⟩:∃ a b,lsRow κ (δ s) C 0 fs []=(a,b):=⟨_,_,rfl⟩;have hm':=zcq (κ:=κ) (nx:=δ s) C 0 fs [] (fun d hd=>hδ s d hsN (by omega)) hm;obtain⟨⟨z1,hz1⟩,_,_⟩:=zc6 C 0 fs [] fs1 row1 h1 rfl;rw[h1] at hm' h;simp only at hm' h;obtain⟨_,⟨y2,hy2⟩,_⟩:=zdt hδ fu (i+1) _ _ _ _ h hm' (by rw[List.length_append,List.length_singleton];omega) (by rw[hz1,List.length_append];omega) (by omega);have e1:rows'.getD i []=row1:=by
         rw[hy2,List.getD_eq_getElem?_getD,List.append_assoc,List.getElem?_append_right (by omega),hr,Nat.sub_self];rfl
       have hrow:lsRow id (δ' i) C 0 (List.range fs.length) []=(List.range fs1.length,row1):=zfc C 0 fs [] fs1 row1 h1 rfl fun d _ hd=>by
         rw[hx i d (by omega)];unfold dl;rw[e1]
       rw[zem (by rw[List.getElem?_range hil]) hrow];exact zi0 hδ fu (i+1) fs1 _ fs' rows' h hm' (by rw[List.length_append,List.length_singleton];omega) (by rw[hz1,List.length_append];omega) (by omega) hx fu' (by omega)
end Go.Proofs.Ytgbdanddbgomhaa
