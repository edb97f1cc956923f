import Derived.Test.YtgbdanddbgomhaaMk45
set_option linter.unusedVariables false
set_option linter.unusedSimpArgs false
namespace Go.Proofs.Ytgbdanddbgomhaa
open Go Go.RowKit
section
theorem zkn {κ κ':Nat->Nat} {δ:Nat->Nat->Nat} {C N:Nat} (hδ:∀ s c,s<N->c<C->δ s c<N) (hκ:∀ s t,s<N->t<N->(κ s=κ t↔κ' s=κ' t)):∀ (fu i:Nat) (fs:List Nat) (rows:List (List Nat)),Met κ N fs->lsAll κ δ C fu i fs rows=lsAll κ' δ C fu i fs rows
 | 0,i,fs,rows,hm=>rfl
 | fu+1,i,fs,rows,hm=>by
   rw[lsAll,lsAll];cases hs:fs[i]? with
   | none=>rfl
   | some s =>
     simp only;have hsN:=hm.lt s (List.mem_of_getElem? hs);have hb:∀ d,d<0+C->δ s d<N:=fun d hd=>hδ s d hsN (by omega)
     rw[←zgm hκ C 0 fs [] hb hm.lt];exact zkn hδ hκ fu (i+1) _ _ (zcq C 0 fs [] hb hm)
structure Lst (κ:Nat->Nat) (rows:List (List Nat)) (outs:List (Nat×Nat)) (N C:Nat) (fs:List Nat) (rows':List (List Nat)):Prop where
 hδ:∀ s c,s<N->c<C->dl rows s c<N
 key:∀ s t,s<N->t<N->(κ s=κ t↔Alk (dl rows) (fun s=>outs[s]?) N C s t)
 all:lsAll κ (dl rows) C (N+1) 0 [0] []=(fs,rows')
 nz:0<N
 out:outs.length=N
section
variable {κ:Nat->Nat} {rows rows':List (List Nat)} {outs:List (Nat×Nat)} {N C:Nat} {fs:List Nat}
def outsN (outs:List (Nat×Nat)) (fs:List Nat):List (Nat×Nat):=fs.map fun s=>outs.getD s (0,0)
theorem Lst.met (h:Lst κ rows outs N C fs rows'):Met κ N fs:=(zbx h.hδ h.nz h.all).1
theorem Lst.len (h:Lst κ rows outs N C fs rows'):rows'.length=fs.length:=(zbx h.hδ h.nz h.all).2.1
theorem Lst.wide (h:Lst κ rows outs N C fs rows'):∀ r∈rows',r.length=C:=(zbx h.hδ h.nz h.all).2.2.1
theorem Lst.few (h:Lst κ rows outs N C fs rows'):fs.length<=N:=(zbx h.hδ h.nz h.all).2.2.2
theorem Lst.outLen (h:Lst κ rows outs N C fs rows'):(outsN outs fs).length=fs.length:=by rw[outsN,List.length_map]
theorem Lst.links (h:Lst κ rows outs N C fs rows'):(∃ z,fs=[0]++z)∧∀ j,j<fs.length->∀ d,d<C->dl rows' j d<fs.length∧κ (fs.getD (dl rows' j d) 0)=κ (dl rows (fs.getD j 0) d):=by
 obtain⟨h1,_,h3⟩:=zdt h.hδ _ _ _ _ _ _ h.all (zdd κ h.nz) rfl (by simp) (by omega);exact⟨h1,fun j hj=>h3 j (Nat.zero_le _) hj⟩
theorem Lst.pos (h:Lst κ rows outs N C fs rows'):0<fs.length:=by
 obtain⟨z,hz⟩:=h.links.1;rw[hz,List.length_append,List.length_singleton];omega
theorem Lst.first (h:Lst κ rows outs N C fs rows'):fs.getD 0 0=0:=by
 obtain⟨z,hz⟩:=h.links.1;rw[hz];rfl
theorem Lst.at (h:Lst κ rows outs N C fs rows') {i:Nat} (hi:i<fs.length):fs.getD i 0<N:=by
 rw[List.getD_eq_getElem?_getD,List.getElem?_eq_getElem hi];exact h.met.lt _ (List.getElem_mem _)
theorem Lst.step (h:Lst κ rows outs N C fs rows') {s t c:Nat} (hs:s<N) (ht:t<N) (hc:c<C) (e:κ s=κ t):κ (dl rows s c)=κ (dl rows t c):=by
 have:=(zli (o:=fun s=>outs[s]?) h.hδ).1 s t c hc ((h.key s t hs ht).1 e);exact (h.key _ _ (h.hδ s c hs hc) (h.hδ t c ht hc)).2 this
theorem Lst.tell (h:Lst κ rows outs N C fs rows') {s t:Nat} (hs:s<N) (ht:t<N) (e:κ s=κ t):outs[s]?=outs[t]?:=((h.key s t hs ht).1 e).2.2 [] (by simp)
theorem Lst.go (h:Lst κ rows outs N C fs rows'):∀ (w:List Nat) (i s:Nat),(∀ c∈w,c<C)->i<fs.length->s<N->κ (fs.getD i 0)=κ s->goW (dl rows') w i<fs.length∧goW (dl rows) w s<N∧κ (fs.getD (goW (dl rows') w i) 0)=κ (goW (dl rows) w s)
 | [],i,s,hw,hi,hs,e=>⟨hi,hs,e⟩
 | c::w,i,s,hw,hi,hs,e=>by
   have hc:=hw c (by simp);obtain⟨h1,h2⟩:=h.links.2 i hi c hc;exact h.go w _ _ (fun d hd=>hw d (by simp[hd])) h1 (h.hδ s c hs hc) (h2.trans (h.step (h.at hi) hs hc e))
theorem zj6 {outs:List (Nat×Nat)} {fs:List Nat} {i:Nat} (hi:i<fs.length) (hs:fs.getD i 0<outs.length):(outsN outs fs)[i]?=outs[fs.getD i 0]?:=by
 have e:fs.getD i 0=fs[i]:=(by rw[List.getD_eq_getElem?_getD,List.getElem?_eq_getElem hi];rfl);rw[outsN,List.getElem?_map,List.getElem?_eq_getElem hi,e];rw[e] at hs;rw[List.getElem?_eq_getElem hs,Option.map_some,List.getD_eq_getElem?_getD,List.getElem?_eq_getElem hs];rfl
theorem Lst.told (h:Lst κ rows outs N C fs rows') {w:List Nat} {i s:Nat} (hw:∀ c∈w,c<C) (hi:i<fs.length) (hs:s<N) (e:κ (fs.getD i 0)=κ s):(outsN outs fs)[goW (dl rows') w i]?=outs[goW (dl rows) w s]?:=by
 obtain⟨h1,h2,h3⟩:=h.go w i s hw hi hs e;rw[zj6 h1 (by rw[h.out];exact h.at h1)];exact h.tell (h.at h1) h2 h3
theorem Lst.apart (h:Lst κ rows outs N C fs rows') {i j:Nat} (hi:i<fs.length) (hj:j<fs.length):Alk (dl rows') (fun s=>(outsN outs fs)[s]?) fs.length C i j↔i=j:=by
 constructor
 . rintro⟨_,_,hw⟩;have hk:κ (fs.getD i 0)=κ (fs.getD j 0):=(h.key _ _ (h.at hi) (h.at hj)).2 ⟨h.at hi,h.at hj,fun w hc=>by
     have:=hw w hc;simp only at this ⊢;rw[h.told hc hi (h.at hi) rfl,h.told hc hj (h.at hj) rfl] at this;exact this⟩
   have hn:=h.met.nod;have e1:(fs.map κ)[i]'(by rw[List.length_map];exact hi)=(fs.map κ)[j]'(by rw[List.length_map];exact hj):=by
     rw[List.getElem_map,List.getElem_map];rw[List.getD_eq_getElem?_getD,List.getElem?_eq_getElem hi,List.getD_eq_getElem?_getD,List.getElem?_eq_getElem hj] at hk;exact hk
   exact (List.getElem_inj hn).1 e1
 . rintro rfl;exact⟨hi,hi,fun w hc=>rfl⟩
theorem Lst.rowsIn (h:Lst κ rows outs N C fs rows'):∀ (i:Nat) r,rows'[i]?=some r->r.length=C∧∀ x∈r,x<fs.length:=fun i r e=>by
 have hl:=h.wide r (List.mem_of_getElem? e);have hi:i<fs.length:=(by rw[←h.len];exact (List.getElem?_eq_some_iff.1 e).1);refine⟨hl,fun x hx=>?_⟩;obtain⟨d,hd,hxd⟩:=List.getElem_of_mem hx;have:=(h.links.2 i hi d (by omega)).1;unfold dl at this;rw[show rows'.getD i []=r by rw[List.getD_eq_getElem?_getD,e];rfl,List.getD_eq_getElem?_getD,List.getElem?_eq_getElem hd] at this;rw[←hxd];exact this
theorem Lst.again (h:Lst κ rows outs N C fs rows') {κ':Nat->Nat} (hκ:∀ s t,s<fs.length->t<fs.length->(κ' s=κ' t↔Alk (dl rows') (fun s=>(outsN outs fs)[s]?) fs.length C s t)) {fs2:List Nat} {rows2:List (List Nat)} (h2:lsAll κ' (dl rows') C (fs.length+1) 0 [0] []=(fs2,rows2)):rows2=rows'∧outsN (outsN outs fs) fs2=outsN outs fs:=by
 have hδ':=zw9 h.len h.rowsIn;have hk:∀ s t,s<fs.length->t<fs.length->(κ' s=κ' t↔id s=id t):=fun s t hs ht=>(hκ s t hs ht).trans (h.apart hs ht)
 rw[zkn hδ' hk _ _ _ _ (zdd κ' h.pos)] at h2;have h3:=zi0 (δ':=dl rows') h.hδ _ _ _ _ _ _ h.all (zdd κ h.nz) rfl (by simp) (by omega) (fun j d hd=>rfl) (fs.length+1) (by omega);have h4:lsAll id (dl rows') C (fs.length+1) 0 [0] []=(List.range fs.length,rows'):=h3;rw[h4] at h2;injection h2 with e1 e2
 refine⟨e2.symm,?_⟩;rw[←e1];apply List.ext_getElem?;intro i
 by_cases hi:i<fs.length
 . rw[zj6 (by rw[List.length_range];exact hi) (by rw[h.outLen,List.getD_eq_getElem?_getD,List.getElem?_range hi];exact hi),List.getD_eq_getElem?_getD,List.getElem?_range hi];rfl
 . rw[List.getElem?_eq_none_iff.2 (by rw[outsN,List.length_map,List.length_range];omega),List.getElem?_eq_none_iff.2 (by rw[h.outLen];omega)]
theorem Lst.okM (h:Lst κ rows outs N C fs rows') {F:Nat->Nat} (hF:∀ b,b<256->F b<C) (hN:N<=100000):OkM F C rows' (outsN outs fs):=⟨hF,fun i r e=>by rw[h.len];exact h.rowsIn i r e,by rw[h.outLen,h.len],by rw[h.len];exact h.pos,by have:=h.few;have:=h.len;omega⟩
theorem zlq (F:Nat->Nat) (rows:List (List Nat)):∀ (xs:List Int) (s:Nat),runN F rows xs s=goW (dl rows) (xs.map fun b=>F b.toNat) s
 | [],s=>rfl
 | b::w,s=>by rw[runN,List.map_cons,goW];exact zlq F rows w _
theorem Lst.run (h:Lst κ rows outs N C fs rows') {F:Nat->Nat} (hF:∀ b,b<256->F b<C) {xs:List Int} (hby:∀ k,k<xs.length->0<=xs.getD k 0∧xs.getD k 0<=255):(outsN outs fs).getD (runN F rows' xs 0) (0,0)=outs.getD (runN F rows xs 0) (0,0):=by
 have hw:∀ c∈xs.map (fun b=>F b.toNat),c<C:=fun c hc=>by
   obtain⟨b,hb,rfl⟩:=List.mem_map.1 hc;obtain⟨k,hk,e⟩:=List.getElem_of_mem hb;have:=hby k hk;rw[List.getD_eq_getElem?_getD,List.getElem?_eq_getElem hk,e] at this;simp only[Option.getD_some] at this;exact hF _ (by omega)
 have:=h.told hw h.pos h.nz (by rw[h.first]);rw[zlq,zlq,List.getD_eq_getElem?_getD,List.getD_eq_getElem?_getD,this]
theorem Lst.okOs (h:Lst κ rows outs N C fs rows') (ho:∀ o∈outs,okO o):∀ o∈outsN outs fs,okO o:=fun o hm=>by
 obtain⟨i,hi⟩:=List.getElem?_of_mem hm;have hl:i<fs.length:=(by rw[←h.outLen];exact (List.getElem?_eq_some_iff.1 hi).1);rw[zj6 hl (by rw[h.out];exact h.at hl)] at hi;exact ho o (List.mem_of_getElem? hi)
end
end
end Go.Proofs.Ytgbdanddbgomhaa
