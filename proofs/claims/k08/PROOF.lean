import PyProof.Rows.All
import Wide.All
import OpenK.AllK
import Wide.FinOn
import Lean
import PyProof.EqAt
import PyProof.EqKinds
import PyProof.TupleCall
import PyProof.StrWalks
import PyProof.ConsumeWalk
import PyProof.SumWalkG
import PyProof.Rows.SortStr
import PyProof.Rows.SortWalk
import PyProof.StationsW
import OpenK.KOwn
import KE.KDictLaws
import KE.KDictList
import KE.KTryMore
import PyProof.NsDelKeeps
import PyProof.Rows.CatchOwn
import PyProof.ExcAttrAll.ValueError
import PyProof.StrCalls2
import KE.KIntText
import PyProof.DictWalks
import PySem.Challenge.RW_pegrise_k08_spare_rows
noncomputable section
set_option Elab.async false
set_option linter.all false
set_option maxRecDepth 100000
open PySem.W (InitBack InstAt KitX Looks any_some bind_fn callWith_K callWith_K0 clsIn codeIn emptyDict excIn exmOne findCls findIn findObj findObj_own fnOf handedIn hasDictIn instObj isClsIn isFn kdl_call keepIn kia_one kitOne kitx_dict kitx_list lookIn looks_clsIn looks_find looks_findIn makesIn methodCall_KW methodObj mg_none_of mg_of mroIn notCls nsIn plainGet plainGet_of plainOver readsIn set_plain specialIn subIn tail_of_in takerIn takesIn typeIn Frag)
namespace L2
open PySem PySem.Spec PyProof.Rows
abbrev Key:=Sum Int Str
def Uh:Key->Value->Bool
 | .inl k,v=>Value.isInt k v
 | .inr x,v=>Value.isStrOf x v
def qfy (w:World):Key->Int
 | .inl k=>hashInt k
 | .inr x=>hashStr w x
theorem G3:∀ {k:Key} {v:Value},Uh k v=true->(∃ i t,k=Sum.inl i/\v=Value.int i t)\/(∃ x t,k=Sum.inr x/\v=Value.str x t)
 | .inl i,v,h=>by
  obtain ⟨t,e⟩:=Value.isInt_shape (k:=i) (v:=v) h
  exact .inl ⟨i,t,rfl,e⟩
 | .inr x,v,h=>by
  obtain ⟨t,e⟩:=Value.isStrOf_shape (x:=x) (v:=v) h
  exact .inr ⟨x,t,rfl,e⟩
theorem mS (i:Int) (t:Tok):Uh (.inl i) (.int i t)=true:=by simp [Uh,Value.isInt]
theorem mR (x:Str) (t:Tok):Uh (.inr x) (.str x t)=true:=by simp [Uh,Value.isStrOf]
theorem qcz (a b:Int):decide ((Sum.inl a:Key)=Sum.inl b)=(a == b):=by
 by_cases e:a=b
 ·subst e;simp
 ·have h:¬ (Sum.inl a:Key)=Sum.inl b:=fun q=>e (Sum.inl.inj q)
  rw [decide_eq_false h]
  exact (beq_eq_false_iff_ne.mpr e).symm
theorem qcw (a b:Str):decide ((Sum.inr a:Key)=Sum.inr b)=decide (a=b):=by
 by_cases e:a=b
 ·subst e;simp
 ·have h:¬ (Sum.inr a:Key)=Sum.inr b:=fun q=>e (Sum.inr.inj q)
  rw [decide_eq_false h,decide_eq_false e]
theorem qcy (a:Int) (b:Str):decide ((Sum.inl a:Key)=Sum.inr b)=false:=decide_eq_false (fun q=>nomatch q)
theorem qcx (a:Str) (b:Int):decide ((Sum.inr a:Key)=Sum.inl b)=false:=decide_eq_false (fun q=>nomatch q)
def W7 (prog:Program) (w:World):PySem.KeyKind prog w Key where
 is:=Uh
 hash:=qfy w
 inj:=fun v a b ha hb=>by
  rcases G3 ha with ⟨i,t,rfl,rfl⟩ | ⟨x,t,rfl,rfl⟩
  ·rcases G3 hb with ⟨j,u,rfl,e⟩ | ⟨y,u,rfl,e⟩
   ·injection e with e1 _;rw [e1]
   ·exact nomatch e
  ·rcases G3 hb with ⟨j,u,rfl,e⟩ | ⟨y,u,rfl,e⟩
   ·exact nomatch e
   ·injection e with e1 _;rw [e1]
 byValue:=fun k v h=>by
  rcases G3 h with ⟨i,t,rfl,rfl⟩ | ⟨x,t,rfl,rfl⟩ <;> rfl
 pyHash:=fun hv h=>by
  rcases G3 hv with ⟨i,t,rfl,rfl⟩ | ⟨x,t,rfl,rfl⟩
  ·exact wpAny_pyHash_int h
  ·exact wpAny_pyHash_str h
 eqBool:=fun hu hv h=>by
  rcases G3 hu with ⟨i,t,rfl,rfl⟩ | ⟨x,t,rfl,rfl⟩
  ·rcases G3 hv with ⟨j,u,rfl,rfl⟩ | ⟨y,u,rfl,rfl⟩
   ·rw [qcz] at h;exact wpAny_eqBool_int h
   ·rw [qcy] at h;exact SeqAt.EqAt.int_str i t y u _ _ _ _ h
  ·rcases G3 hv with ⟨j,u,rfl,rfl⟩ | ⟨y,u,rfl,rfl⟩
   ·rw [qcx] at h;exact SeqAt.EqAt.str_int x t j u _ _ _ _ h
   ·rw [qcw] at h;exact wpAny_eqBool_str h
 «strs»:=fun k x t v h=>by
  rcases G3 h with ⟨i,u,rfl,e⟩ | ⟨y,u,rfl,e⟩
  ·exact nomatch e
  ·injection e with e1 _
   subst e1
   cases v <;> rfl
theorem wU (prog:Program) (w:World) (k:Key) (v:Value):(W7 prog w).is k v=Uh k v:=rfl
theorem vD (prog:Program) (w:World) (i:Int) (t:Tok):(W7 prog w).is (.inl i) (.int i t)=true:=mS i t
theorem vC (prog:Program) (w:World) (x:Str) (t:Tok):(W7 prog w).is (.inr x) (.str x t)=true:=mR x t
inductive V where
 | non | bl (b:Bool) | int (i:Int) | str (x:Str) | byt (b:Array UInt8) | flt (b:UInt64) | ref (a:Addr) | ty (n:String)
 deriving DecidableEq
def Y8:V->Value->Prop
 | .non,u=>u=Value.none
 | .bl b,u=>u=Value.bool b
 | .int i,u=>∃ t,u=Value.int i t
 | .str x,u=>∃ t,u=Value.str x t
 | .byt b,u=>∃ t,u=Value.bytes b t
 | .flt b,u=>∃ t,u=Value.float b t
 | .ref a,u=>u=Value.ref a
 | .ty n,u=>u=Value.type n
abbrev Y4:List V->List Value->Prop:=Paired Y8
theorem Y4.length {xs:List V} {us:List Value} (r:Y4 xs us):xs.length=us.length:=Paired.length r
theorem Y4.get:∀ {xs:List V} {us:List Value} {i:Nat} {x:V},Y4 xs us->xs[i]?=some x->∃ u,us[i]?=some u/\Y8 x u
 | _,_,_,_,.nil,e=>by simp at e
 | _,_,0,_,.cons r _,e=>by simp at e;subst e;exact ⟨_,rfl,r⟩
 | _,_,i+1,x,.cons _ t,e=>by
  obtain ⟨u,h1,h2⟩:=Y4.get (i:=i) (x:=x) t (by simpa using e)
  exact ⟨u,by simpa using h1,h2⟩
theorem Y4.set {x:V} {u:Value} (r:Y8 x u):∀ {xs:List V} {us:List Value} (i:Nat),Y4 xs us->Y4 (xs.set i x) (us.set i u)
 | _,_,_,.nil=>.nil
 | _,_,0,.cons _ t=>.cons r t
 | _,_,i+1,.cons q t=>.cons q (Y4.set r i t)
theorem Y4.append:∀ {xs ys:List V} {us ws:List Value},Y4 xs us->Y4 ys ws->Y4 (xs++ys) (us++ws)
 | _,_,_,_,.nil,s=>s
 | _,_,_,_,.cons r t,s=>.cons r (Y4.append t s)
theorem Y4.take:∀ {xs:List V} {us:List Value} (n:Nat),Y4 xs us->Y4 (xs.take n) (us.take n)
 | _,_,0,_=>.nil
 | _,_,_+1,.nil=>.nil
 | _,_,n+1,.cons r t=>.cons r (Y4.take n t)
theorem Y4.drop:∀ {xs:List V} {us:List Value} (n:Nat),Y4 xs us->Y4 (xs.drop n) (us.drop n)
 | _,_,0,r=>r
 | _,_,_+1,.nil=>.nil
 | _,_,n+1,.cons _ t=>Y4.drop n t
def gk:Option V->Option Value->Prop
 | some v,some u=>Y8 v u
 | none,none=>True
 | _,_=>False
def KV {κ:Type}:List (κ×V)->List (κ×Value)->Prop:=Paired fun (p:κ×V) (q:κ×Value)=>p.1=q.1/\Y8 p.2 q.2
def kV:Key->V
 | .inl i=>.int i
 | .inr x=>.str x
inductive HO where
  | lst (xs:List V)
  | tup (xs:List V)
  | dK (kvs:List (Key×V)) | dT (kvs:List (List Key×V))
  | set (S:Int->Bool) (n:Nat)
  | ins (C dx:Addr) (fs:List (Str×V))
  | own (x:Addr)
  | xd (fs:List (Str×V))
  | met (f x:Addr)
  | rng (lo hi:Int)
  | frz (o:Obj) (u:HO)
  | tbl (ps:Array Value)
  | ext (φ:Heap->Prop)
abbrev Hp:=Addr->Option HO
def upd (H:Hp) (a:Addr) (o:HO):Hp:=fun b=>if b=a then some o else H b
theorem Y5 {H:Hp} {a:Addr} {o:HO}:upd H a o a=some o:=by unfold upd;rw [if_pos rfl]
theorem Z2 {H:Hp} {a b:Addr} {o:HO} (h:b≠a):upd H a o b=H b:=by unfold upd;rw [if_neg h]
theorem qeo {H:Hp} {a b:Addr} {o u:HO} (h:H a=some o) (h':H b=some u) (d:o≠u):a≠b:=by
 intro e;subst e;rw [h] at h';exact d (Option.some.inj h')
theorem Y2 {H:Hp} {a b:Addr} {o:HO} (h:H a=some o) (h':H b=none):a≠b:=by
 intro e;subst e;rw [h] at h';cases h'
section
variable (P:Program) (w:World)
def X4 (H:Hp) (h:Heap) (a:Addr):HO->Prop
 | .lst xs=>xs.length<=sizeLine/\∃ (its:List Value) (n:Nat),Y4 xs its/\h.get? a=some { cls:=.type "list",data:=.seq its.toArray n }
 | .tup xs=>xs.length<=sizeLine/\∃ its:List Value,Y4 xs its/\IsTup h a its.toArray
 | .dK kvs=>kvs.length<=sizeLine/\(a == sysModules)=false/\∃ vs,KV kvs vs/\h.DictOf (W7 P w) a vs
 | .dT kvs=>kvs.length<=sizeLine/\(a == sysModules)=false/\∃ xs:List (List Key×Addr×Value),
   Paired (fun (p:List Key×V) (q:List Key×Addr×Value)=>p.1=q.1/\H q.2.1=some (.tup (p.1.map kV))/\Y8 p.2 q.2.2) kvs xs/\
   ∃ o es ep,h.get? a=some o/\o.ExactDict/\o.data=.dict es ep/\es.toList=xs.map (entryOfKey (tupleKind (W7 P w)))/\(xs.map (·.1)).Nodup
 | .set S n=>h.SetOf (intKind P w) a S n
 | .ins C dx fs=>H dx=some (.own a)/\fs.length<=1000/\dx≠a/\h.get? a=some (instObj C dx)/\
   ∃ mA,h.Ns1 dx mA/\(∀ f,gk (fs.lookup f) (mA f))/\PySem.Within mA (fs.map (·.1))
 | .own _=>∃ o,h.get? a=some o
 | .xd fs=>∃ mA,h.Ns1 a mA/\∀ f,gk (fs.lookup f) (mA f)
 | .rng lo hi=>∃ t u v,h.get? a=some { cls:=.type "range",data:=.fields #[.int lo t,.int hi u,.int 1 v] }
 | .frz o u=>h.get? a=some o/\X4 H h a u
 | .tbl ps=>h.get? a=some { cls:=.none,data:=.fields ps }
 | .met f x=>h.get? a=some (methodObj (.ref f) (.ref x))
 | .ext φ=>φ h/\(∃ o,h.get? a=some o)/\∀ h1 h2:Heap,φ h1->(∀ o,h1.get? a=some o->h2.get? a=some o)->φ h2
def HOk (H:Hp) (h:Heap):Prop:=∀ a o,H a=some o->X4 P w H h a o
end
section
variable {P:Program} {w:World} {H H':Hp} {h h':Heap} {a:Addr} {o:HO}
theorem X4.lt (x:X4 P w H h a o):a < h.objs.size:=by
 cases o with
 | lst xs=>obtain ⟨_,_,_,_,e⟩:=x;exact Heap.lt_size e
 | tup xs=>obtain ⟨_,_,_,p⟩:=x;exact p.lt
 | dK kvs=>obtain ⟨_,_,_,_,o,_,_,e,_⟩:=x;exact Heap.lt_size e
 | dT kvs=>obtain ⟨_,_,_,_,o,_,_,e,_⟩:=x;exact Heap.lt_size e
 | set S n=>obtain ⟨o,_,_,_,e,_⟩:=x;exact Heap.lt_size e
 | ins C dx fs=>obtain ⟨_,_,_,e,_⟩:=x;exact Heap.lt_size e
 | own y=>obtain ⟨_,e⟩:=x;exact Heap.lt_size e
 | xd fs=>obtain ⟨_,⟨_,_,_,e,_⟩,_⟩:=x;exact Heap.lt_size e
 | rng lo hi=>obtain ⟨_,_,_,e⟩:=x;exact Heap.lt_size e
 | frz ob u=>obtain ⟨e,_⟩:=x;exact Heap.lt_size e
 | tbl ps=>exact Heap.lt_size (show h.get? a=some _ from x)
 | met f y=>exact Heap.lt_size (show h.get? a=some _ from x)
 | ext φ=>obtain ⟨_,⟨_,e⟩,_⟩:=x;exact Heap.lt_size e
theorem Paired.mapP {α β:Type} {F G:α->β->Prop}:∀ {l₁:List α} {l₂:List β},Paired F l₁ l₂->(∀ a b,F a b->G a b)->Paired G l₁ l₂
 | _,_,.nil,_=>.nil
 | _,_,.cons r t,f=>.cons (f _ _ r) (Paired.mapP t f)
theorem X4.stay (x:X4 P w H h a o) (k:∀ b u,(b=a\/H b=some (.own a))->h.get? b=some u->h'.get? b=some u)
  (ho:∀ b,H b=some (.own a)->H' b=some (.own a)) (ht:∀ b xs,H b=some (.tup xs)->H' b=some (.tup xs)):X4 P w H' h' a o:=by
 induction o with
 | lst xs=>obtain ⟨z,its,n,r,e⟩:=x;exact ⟨z,its,n,r,k _ _ (.inl rfl) e⟩
 | tup xs=>obtain ⟨z,its,r,ob,e,c⟩:=x;exact ⟨z,its,r,ob,k _ _ (.inl rfl) e,c⟩
 | dK kvs=>obtain ⟨z,y,vs,r,ob,es,ep,e,c⟩:=x;exact ⟨z,y,vs,r,ob,es,ep,k _ _ (.inl rfl) e,c⟩
 | dT kvs=>
  obtain ⟨z,y,xs,r,ob,es,ep,e,c⟩:=x
  exact ⟨z,y,xs,Paired.mapP r fun p q z=>⟨z.1,ht _ _ z.2.1,z.2.2⟩,ob,es,ep,k _ _ (.inl rfl) e,c⟩
 | set S n=>obtain ⟨ob,es,ep,t,e,c⟩:=x;exact ⟨ob,es,ep,t,k _ _ (.inl rfl) e,c⟩
 | ins C dx fs=>
  obtain ⟨d,z,ne,e,mA,⟨od,es,ep,e2,c⟩,r⟩:=x
  exact ⟨ho _ d,z,ne,k _ _ (.inl rfl) e,mA,⟨od,es,ep,k _ _ (.inr d) e2,c⟩,r⟩
 | own y=>obtain ⟨ob,e⟩:=x;exact ⟨ob,k _ _ (.inl rfl) e⟩
 | xd fs=>obtain ⟨mA,⟨od,es,ep,e,c⟩,r⟩:=x;exact ⟨mA,⟨od,es,ep,k _ _ (.inl rfl) e,c⟩,r⟩
 | rng lo hi=>obtain ⟨t,u,v,e⟩:=x;exact ⟨t,u,v,k _ _ (.inl rfl) e⟩
 | frz ob u ih=>obtain ⟨e,q⟩:=x;exact ⟨k _ _ (.inl rfl) e,ih q⟩
 | tbl ps=>
  have e:h.get? a=some { cls:=.none,data:=.fields ps }:=x
  show h'.get? a=some { cls:=.none,data:=.fields ps }
  exact k a _ (.inl rfl) e
 | met f y=>
  have e:h.get? a=some (methodObj (.ref f) (.ref y)):=x
  show h'.get? a=some (methodObj (.ref f) (.ref y))
  exact k a _ (.inl rfl) e
 | ext φ=>obtain ⟨p,⟨o,e⟩,st⟩:=x;exact ⟨st _ _ p fun o q=>k _ _ (.inl rfl) q,⟨o,k _ _ (.inl rfl) e⟩,st⟩
theorem HOk.lt (x:HOk P w H h) (e:H a=some o):a < h.objs.size:=(x a o e).lt
theorem HOk.fresh (x:HOk P w H h) (e:h.objs.size<=a):H a=none:=by
 cases q:H a with
 | none=>rfl
 | some u=>exact absurd (Nat.lt_of_lt_of_le (x.lt q) e) (Nat.lt_irrefl _)
theorem HOk.kept (x:HOk P w H h) (k:∀ b u,h.get? b=some u->h'.get? b=some u):HOk P w H h':=fun a o e=>
 (x a o e).stay (fun b u _ q=>k b u q) (fun _ q=>q) fun _ _ q=>q
theorem HOk.laid (x:HOk P w H h) (k:∀ b u,h.get? b=some u->h'.get? b=some u) (hp:h.objs.size<=a) (new:X4 P w (upd H a o) h' a o):HOk P w (upd H a o) h':=fun b u e=>by
 have hn:=x.fresh hp
 by_cases hb:b=a
 ·subst hb;rw [Y5] at e;cases e;exact new
 ·rw [Z2 hb] at e
  exact (x b u e).stay (fun c v _ q=>k c v q) (fun c q=>by rw [Z2 (Y2 q hn)];exact q) fun c xs q=>by rw [Z2 (Y2 q hn)];exact q
end
def Rd (H:Hp) (a:Addr) (u:HO):Prop:=H a=some u\/∃ o,H a=some (.frz o u)
theorem Rd.of {H:Hp} {a:Addr} {u:HO} (h:H a=some u):Rd H a u:=.inl h
theorem Rd.ok {P:Program} {w:World} {H:Hp} {h:Heap} {a:Addr} {u:HO} (r:Rd H a u) (x:HOk P w H h):X4 P w H h a u:=by
 rcases r with r | ⟨o,r⟩
 ·exact x a u r
 ·obtain ⟨_,q⟩:=x a _ r
  exact q
def Mut:Option HO->Prop
 | some (.lst _)=>True
 | some (.dK _)=>True
 | some (.dT _)=>True
 | some (.set _ _)=>True
 | some (.ins _ _ _)=>True
 | some (.ext _)=>True
 | _=>False
section
variable {P:Program} {w:World} {H:Hp} {h h':Heap} {x e:Addr} {o':HO}
theorem HOk.write (ok:HOk P w H h) (mu:Mut (H x)) (he:e=x\/H e=some (.own x)) (k:∀ b u,b≠e->h.get? b=some u->h'.get? b=some u) (heo:∃ u,h'.get? e=some u)
  (new:X4 P w (upd H x o') h' x o'):HOk P w (upd H x o') h':=fun b u q=>by
 have nown:∀ c y,H c=some (.own y)->c≠x:=fun c y r z=>by subst z;rw [r] at mu;exact mu
 have ntup:∀ c xs,H c=some (.tup xs)->c≠x:=fun c xs r z=>by subst z;rw [r] at mu;exact mu
 by_cases hb:b=x
 ·subst hb;rw [Y5] at q;cases q;exact new
 ·rw [Z2 hb] at q
  by_cases hbe:b=e
  ·have q':H b=some (.own x):=by
    rcases he with z | z
    ·exact absurd (hbe.trans z) hb
    ·rw [hbe];exact z
   rw [q] at q';cases q'
   obtain ⟨v,hv⟩:=heo
   exact ⟨v,by rw [hbe];exact hv⟩
  ·refine (ok b u q).stay (fun c v hc r=>k c v ?_ r) (fun c r=>by rw [Z2 (nown c b r)];exact r) fun c xs r=>by rw [Z2 (ntup c xs r)];exact r
   rcases hc with rfl | hc
   ·exact hbe
   ·rintro rfl
    rcases he with z | z
    ·exact nown c b hc z
    ·rw [hc] at z;cases z;exact hb rfl
end
structure Un (fs ex:List Addr) (H H':Hp) (h h':Heap):Prop where
 keep:∀ b o,h.get? b=some o->H b=none->b∉fs->b∉ex->h'.get? b=some o
 slot:∀ b o,h.get? b=some o->H b=none->b∈fs->b∉ex->∃ sl,h'.get? b=some { o with slots:=sl }
 free:∀ b o,h.get? b=some o->H b=none->b∉ex->H' b=none
 there:∀ b o,h.get? b=some o->b∉ex->∃ o',h'.get? b=some o'
 tups:∀ b xs,H b=some (.tup xs)->H' b=some (.tup xs)
 frzs:∀ b o u,H b=some (.frz o u)->H' b=some (.frz o u)
 tbls:∀ b ps,H b=some (.tbl ps)->∃ more,H' b=some (.tbl (ps++more))
section
variable {fs fs' ex ex':List Addr} {H H1 H2:Hp} {h h1 h2 h':Heap} {a x e:Addr} {o:HO}
theorem Un.any (u:Un fs ex H H1 h h1) {b:Addr} {ob:Obj} (q:h.get? b=some ob) (n:H b=none) (hx:b∉ex):∃ sl,h1.get? b=some { ob with slots:=sl }:=by
 by_cases hb:b∈fs
 ·exact u.slot b ob q n hb hx
 ·exact ⟨ob.slots,u.keep b ob q n hb hx⟩
theorem Un.trans (a:Un fs ex H H1 h h1) (b:Un fs ex H1 H2 h1 h2):Un fs ex H H2 h h2 where
 keep:=fun c ob q n hc hx=>b.keep c ob (a.keep c ob q n hc hx) (a.free c ob q n hx) hc hx
 slot:=fun c ob q n hc hx=>by
  obtain ⟨sl,e1⟩:=a.slot c ob q n hc hx
  obtain ⟨sl',e2⟩:=b.slot c _ e1 (a.free c ob q n hx) hc hx
  exact ⟨sl',e2⟩
 free:=fun c ob q n hx=>by
  obtain ⟨o',e1⟩:=a.there c ob q hx
  exact b.free c o' e1 (a.free c ob q n hx) hx
 there:=fun c ob q hx=>by
  obtain ⟨o',e1⟩:=a.there c ob q hx
  exact b.there c o' e1 hx
 tups:=fun c xs q=>b.tups c xs (a.tups c xs q)
 frzs:=fun c ob xs q=>b.frzs c ob xs (a.frzs c ob xs q)
 tbls:=fun c ps q=>by
  obtain ⟨m1,e1⟩:=a.tbls c ps q
  obtain ⟨m2,e2⟩:=b.tbls c _ e1
  exact ⟨m1++m2,by rw [e2,Array.append_assoc]⟩
theorem Un.kept (k:∀ b u,h.get? b=some u->h'.get? b=some u):Un fs ex H H h h':=
 ⟨fun b ob q _ _ _=>k b ob q,fun b ob q _ _ _=>⟨ob.slots,k b ob q⟩,fun _ _ _ n _=>n,fun b ob q _=>⟨ob,k b ob q⟩,fun _ _ q=>q,fun _ _ _ q=>q,fun _ ps q=>⟨#[],by rw [q];simp⟩⟩
theorem Un.refl:Un fs ex H H h h:=Un.kept fun _ _ q=>q
theorem Un.laid (k:∀ b u,h.get? b=some u->h'.get? b=some u) (hp:h.objs.size<=a) (hn:H a=none):Un fs ex H (upd H a o) h h' where
 keep:=fun b u q _ _ _=>k b u q
 slot:=fun b u q _ _ _=>⟨u.slots,k b u q⟩
 free:=fun b u q n _=>by rw [Z2 (Nat.ne_of_lt (Nat.lt_of_lt_of_le (Heap.lt_size q) hp))];exact n
 there:=fun b u q _=>⟨u,k b u q⟩
 tups:=fun b xs q=>by rw [Z2 (Y2 q hn)];exact q
 frzs:=fun b u xs q=>by rw [Z2 (Y2 q hn)];exact q
 tbls:=fun b ps q=>⟨#[],by rw [Z2 (Y2 q hn),q];simp⟩
theorem Un.write (mu:Mut (H x)) (he:e=x\/H e=some (.own x)) (k:∀ b u,b≠e->h.get? b=some u->h'.get? b=some u) (heo:∃ u,h'.get? e=some u):Un fs ex H (upd H x o) h h':=by
 have hx:∀ b,H b=none->b≠x:=fun b n z=>by subst z;rw [n] at mu;exact mu
 have hb:∀ b,H b=none->b≠e:=fun b n z=>by
  subst z
  rcases he with r | r
  ·exact hx b n r
  ·rw [n] at r;cases r
 have hm:∀ b u,H b=some u->¬ Mut (some u)->b≠x:=fun b u q nm z=>by subst z;rw [q] at mu;exact nm mu
 refine ⟨fun b u q n _ _=>k b u (hb b n) q,fun b u q n _ _=>⟨u.slots,k b u (hb b n) q⟩,fun b u q n _=>by rw [Z2 (hx b n)];exact n,fun b u q _=>?_,
  fun b xs q=>by rw [Z2 (hm b _ q fun z=>z)];exact q,fun b u xs q=>by rw [Z2 (hm b _ q fun z=>z)];exact q,fun b ps q=>⟨#[],by rw [Z2 (hm b _ q fun z=>z),q];simp⟩⟩
 by_cases hbe:b=e
 ·subst hbe;exact heo
 ·exact ⟨u,k b u hbe q⟩
theorem Un.mono (u:Un fs ex H H1 h h1) (hs:∀ b∈fs,b∈fs') (hx:∀ b∈ex,b∈ex'):Un fs' ex' H H1 h h1:=
 ⟨fun b ob q n hb he=>u.keep b ob q n (fun z=>hb (hs b z)) fun z=>he (hx b z),fun _ _ q n _ he=>u.any q n fun z=>he (hx _ z),fun b ob q n he=>u.free b ob q n fun z=>he (hx b z),fun b ob q he=>u.there b ob q fun z=>he (hx b z),u.tups,u.frzs,u.tbls⟩
end
def trk (h:Heap) (H:Hp):List Addr:=(List.range h.objs.size).filter fun a=>(H a).isSome
def zF (h:Heap) (H:Hp):Heap:=PySem.W.hideAll h (trk h H)
theorem mY (h:Heap) (H:Hp):(zF h H).objs.size=h.objs.size:=PySem.W.hideAll_size _ _
theorem JP {h:Heap} {H:Hp} {b:Addr} {o:Obj} (e:h.get? b=some o) (n:H b=none):(zF h H).get? b=some o:=
 PySem.W.hideAll_get _ e fun hm=>by
  have q:(H b).isSome=true:=(List.mem_filter.mp hm).2
  rw [n] at q;simp at q
theorem WY {h:Heap} {H:Hp} {b:Addr} {o:Obj} (e:(zF h H).get? b=some o):h.get? b=some o/\H b=none:=by
 have e':h.get? b=some o:=PySem.W.of_hideAll (trk h H) e
 refine ⟨e',?_⟩
 cases q:H b with
 | none=>rfl
 | some x=>
  have hm:b∈trk h H:=List.mem_filter.mpr ⟨List.mem_range.mpr (Heap.lt_size e'),by simp [q]⟩
  have z:(zF h H).get? b=none:=PySem.W.hideAll_none (trk h H) hm
  rw [z] at e;cases e
structure Mod (K:Frag) (mg:Str->Option Value) (base:Heap):Prop where
 kin:K.In base
 glob:base.Ns mainGlobals mg
 blt:∃ mb,base.Ns builtinsNs mb/\∀ x:Str,x≠"__name__"->mb x=bootBuiltins x
 nolimit:base.NoLimit
structure Cx where
 prog:Program
 w:World
 K:Frag
 mg:Str->Option Value
 base:Heap
 A:Around
 N:List Str
 s₀:Shared
 H₀:Hp
 env:Env
 outer:List Env
 stack:List Env
 ex:List Addr
 fn:Str->Bool
 calm:Bool
 pn:List (Addr×Obj)
 xe:Value->Shared->Prop
def frs (l:List Env):List Addr:=l.filterMap (·.frame)
abbrev Cx.fs (X:Cx):List Addr:=frs X.outer
def Vis (sc:Scope) (x:Str):Prop:=sc.names.lookup x=some .local\/sc.names.lookup x=some .cell\/sc.names.lookup x=some .free
def Loc (sc:Scope) (x:Str):Prop:=sc.names.lookup x=some .local\/sc.names.lookup x=some .cell
def qf5 (env:Env) (h:Heap) (m:Str->Option Value) (x:Str) (u:Value):Prop:=
 (env.kindOf x=some .local/\m x=some u)\/((env.kindOf x=some .cell\/env.kindOf x=some .free)/\∃ c,env.cells.lookup x=some c/\h.IsCell c (some u))
structure Cx.Ok (X:Cx):Prop where
 mod:Mod X.K X.mg X.base
 kind:X.env.scope.kind=.function
 glob:X.env.globals=mainGlobals
 blt:X.env.builtins=builtinsNs
 above:X.s₀.heap.objs.size<=X.env.locals
 inj:∀ x y c,X.env.cells.lookup x=some c->X.env.cells.lookup y=some c->x=y
 has:∀ x,(X.env.kindOf x=some .cell\/X.env.kindOf x=some .free)->∃ c,X.env.cells.lookup x=some c
 cab:∀ x c,X.fn x=true->X.env.cells.lookup x=some c->X.s₀.heap.objs.size<=c
 hd:X.calm=true->X.A.handled=none
 frames:X.A.frames=some X.stack
 stk:X.stack=X.outer\/(X.stack=X.env::X.outer/\X.env.frame=some X.env.locals)
 exf:∀ b∈X.ex,b≠X.env.locals/\∀ x c,X.env.cells.lookup x=some c->c≠b
 bs:∀ b o,X.base.get? b=some o->X.s₀.heap.get? b=some o/\X.H₀ b=none
 bsz:X.base.objs.size<=X.s₀.heap.objs.size
 noex:∀ b o,X.base.get? b=some o->b∉X.ex
 exfs:∀ b∈X.ex,b∉X.fs
 funs:X.s₀.heap.FunFrames X.base X.outer
 frf:∀ b∈X.fs,X.H₀ b=none
structure Inv (X:Cx) (pins:List (Addr×Obj)) (σ:List (Option V)) (H:Hp) (s:Shared):Prop where
 ok:X.Ok
 os:s.os=X.s₀.os
 bare:AllBare s.gens
 base:Un X.fs X.ex X.H₀ H X.s₀.heap s.heap
 loc:∃ m,s.heap.Ns X.env.locals m/\∀ (i:Nat) (x:Str) (v:V),X.N[i]?=some x->σ[i]?=some (some v)->Vis X.env.scope x->∃ u,Y8 v u/\qf5 X.env s.heap m x u
 cell:∀ x c,X.env.cells.lookup x=some c->∃ v,s.heap.IsCell c v
 free:H X.env.locals=none
 freeC:∀ x c,X.env.cells.lookup x=some c->H c=none
 pin:∀ p∈X.pn++pins,s.heap.get? p.1=some p.2/\H p.1=none/\p.1≠X.env.locals/\p.1∉X.fs/\∀ v,p.2.data≠.cell v
 hok:HOk X.prog X.w H s.heap
 len:σ.length=X.N.length
section
variable {X:Cx} {pins:List (Addr×Obj)} {σ:List (Option V)} {H H':Hp} {s:Shared} {h':Heap}
theorem Cx.Ok.nofr (ok:X.Ok) {b:Addr} {o:Obj} (e:X.base.get? b=some o):b∉X.fs:=fun hb=>by
 have:=(ok.funs.mem hb).1
 rw [e] at this;cases this
theorem Inv.bs (I:Inv X pins σ H s):∀ b o,X.base.get? b=some o->s.heap.get? b=some o/\H b=none:=fun b o e=>
 ⟨I.base.keep b o (I.ok.bs b o e).1 (I.ok.bs b o e).2 (I.ok.nofr e) (I.ok.noex b o e),I.base.free b o (I.ok.bs b o e).1 (I.ok.bs b o e).2 (I.ok.noex b o e)⟩
theorem Inv.bk (I:Inv X pins σ H s):∀ b o,X.base.get? b=some o->s.heap.get? b=some o:=fun b o e=>(I.bs b o e).1
theorem Inv.mod (I:Inv X pins σ H s):Mod X.K X.mg X.base:=I.ok.mod
theorem Inv.kIn (I:Inv X pins σ H s):X.K.In s.heap:=I.ok.mod.kin.keeps I.bk
theorem Inv.fr (I:Inv X pins σ H s):∃ m,Fr X.base X.env.locals s.heap m:=
 let ⟨m,hn,_⟩:=I.loc
 ⟨m,hn,I.bk,Nat.le_trans I.ok.bsz I.ok.above⟩
theorem Inv.lt (I:Inv X pins σ H s):X.env.locals < s.heap.objs.size:=let ⟨_,hn,_⟩:=I.loc;hn.lt
theorem Inv.sz (I:Inv X pins σ H s):X.s₀.heap.objs.size<=s.heap.objs.size:=Nat.le_trans I.ok.above (Nat.le_of_lt I.lt)
theorem Inv.nofs (I:Inv X pins σ H s) {a:Addr} (h:s.heap.objs.size<=a):a∉X.fs:=fun hb=>by
 obtain ⟨_,o,ho,_⟩:=I.ok.funs.mem hb
 exact absurd (Nat.lt_of_lt_of_le (Heap.lt_size ho) (Nat.le_trans I.sz h)) (Nat.lt_irrefl _)
theorem Inv.cne (I:Inv X pins σ H s):∀ x c,X.env.cells.lookup x=some c->c≠X.env.locals:=fun x c e z=>by
 obtain ⟨v,o,ho,hd⟩:=I.cell x c e
 obtain ⟨m,⟨o',es,ep,ho',hd',_⟩,_⟩:=I.loc
 rw [z,ho'] at ho;cases ho;rw [hd'] at hd;cases hd
theorem Inv.funs (I:Inv X pins σ H s):s.heap.FunFrames X.base X.outer:=by
 have all:∀ (l:List Env),(∀ b∈frs l,b∈X.fs)->X.s₀.heap.FunFrames X.base l->s.heap.FunFrames X.base l:=by
  intro l
  induction l with
  | nil=>intro _ _;trivial
  | cons env r ih=>
   intro hs hl
   obtain ⟨hk,⟨L,o,hf,hn,ho,hd⟩,hr⟩:=hl
   have hL:L∈X.fs:=hs L (by unfold frs;rw [List.filterMap_cons,hf];exact List.mem_cons_self)
   obtain ⟨sl,e⟩:=I.base.slot L o ho (I.ok.frf L hL) hL fun z=>I.ok.exfs L z hL
   exact ⟨hk,⟨L,_,hf,hn,e,hd⟩,ih (fun b hb=>hs b (by unfold frs;rw [List.filterMap_cons,hf];exact List.mem_cons_of_mem _ hb)) hr⟩
 exact all X.outer (fun _ hb=>hb) I.ok.funs
theorem Inv.stack (I:Inv X pins σ H s):s.heap.FunFrames X.base X.stack:=by
 rcases I.ok.stk with e | ⟨e,hf⟩
 ·rw [e];exact I.funs
 ·rw [e]
  obtain ⟨m,hn,_⟩:=I.loc
  refine .cons (by rw [I.ok.kind];decide) hf hn ?_ I.funs
  exact Heap.get?_none_of_le (Nat.le_trans I.ok.bsz I.ok.above)
theorem Inv.stkSub (I:Inv X pins σ H s):∀ b∈frs X.stack,b∈X.env.locals::X.fs:=fun b hb=>by
 rcases I.ok.stk with e | ⟨e,hf⟩
 ·rw [e] at hb;exact List.mem_cons_of_mem _ hb
 ·rw [e] at hb
  unfold frs at hb
  rw [List.filterMap_cons,hf] at hb
  exact hb
theorem Inv.stkFree (I:Inv X pins σ H s):∀ b∈frs X.stack,H b=none:=fun b hb=>by
 rcases List.mem_cons.mp (I.stkSub b hb) with e | hb
 ·rw [e];exact I.free
 ·obtain ⟨_,o,ho,_⟩:=I.ok.funs.mem hb
  exact I.base.free b o ho (I.ok.frf b hb) fun z=>I.ok.exfs b z hb
theorem Inv.step {g':Array GenState} {t':Nat} {d':Drawn} {ch:List Addr} (I:Inv X pins σ H s)
  (hch:∀ b∈ch,(b∈X.ex\/X.s₀.heap.objs.size<=b)/\b≠X.env.locals/\(∀ x c,X.env.cells.lookup x=some c->c≠b)/\∀ p∈X.pn++pins,p.1≠b)
  (keep:∀ b o,b≠X.env.locals->b∉X.fs->b∉ch->s.heap.get? b=some o->H b=none->h'.get? b=some o)
  (slot:∀ b o,b≠X.env.locals->b∈X.fs->b∉ch->s.heap.get? b=some o->H b=none->∃ sl,h'.get? b=some { o with slots:=sl }) (free:∀ b o,b∉ch->s.heap.get? b=some o->H b=none->H' b=none)
  (there:∀ b o,b∉ch->s.heap.get? b=some o->∃ o',h'.get? b=some o')
  (tups:∀ b xs,H b=some (.tup xs)->H' b=some (.tup xs)) (frzs:∀ b o u,H b=some (.frz o u)->H' b=some (.frz o u)) (tbls:∀ b ps,H b=some (.tbl ps)->∃ more,H' b=some (.tbl (ps++more)))
  (ns:∀ m,s.heap.Ns X.env.locals m->h'.Ns X.env.locals m) (hok:HOk X.prog X.w H' h') (hg:AllBare g'):
  Inv X pins σ H' { s with heap:=h',gens:=g',drawn:=d',toks:=t' }:=by
 have neL:∀ b o,X.s₀.heap.get? b=some o->b≠X.env.locals:=fun b o e=>Nat.ne_of_lt (Nat.lt_of_lt_of_le (Heap.lt_size e) I.ok.above)
 have neC:∀ b o,X.s₀.heap.get? b=some o->b∉X.ex->b∉ch:=fun b o e hx hb=>by
  rcases (hch b hb).1 with z | z
  ·exact hx z
  ·exact absurd (Nat.lt_of_lt_of_le (Heap.lt_size e) z) (Nat.lt_irrefl _)
 have cellK:∀ x c,X.env.cells.lookup x=some c->∀ v,s.heap.IsCell c v->h'.IsCell c v:=fun x c e v ⟨o,ho,hd⟩=>by
  have nch:c∉ch:=fun z=>(hch c z).2.2.1 x c e rfl
  by_cases hc:c∈X.fs
  ·obtain ⟨sl,q⟩:=slot c o (I.cne x c e) hc nch ho (I.freeC x c e)
   exact ⟨_,q,hd⟩
  ·exact ⟨o,keep c o (I.cne x c e) hc nch ho (I.freeC x c e),hd⟩
 refine ⟨I.ok,I.os,hg,⟨fun b o e n hb hx=>?_,fun b o e n hb hx=>?_,fun b o e n hx=>?_,fun b o e hx=>?_,fun b xs e=>tups b xs (I.base.tups b xs e),fun b o xs e=>frzs b o xs (I.base.frzs b o xs e),fun b ps e=>?_⟩,?_,fun x c e=>?_,?_,fun x c e=>?_,fun p hp=>?_,hok,I.len⟩
 ·exact keep b o (neL b o e) hb (neC b o e hx) (I.base.keep b o e n hb hx) (I.base.free b o e n hx)
 ·obtain ⟨sl,e1⟩:=I.base.slot b o e n hb hx
  obtain ⟨sl',e2⟩:=slot b _ (neL b o e) hb (neC b o e hx) e1 (I.base.free b o e n hx)
  exact ⟨sl',e2⟩
 ·obtain ⟨o',e1⟩:=I.base.there b o e hx
  exact free b o' (neC b o e hx) e1 (I.base.free b o e n hx)
 ·obtain ⟨o',e1⟩:=I.base.there b o e hx
  exact there b o' (neC b o e hx) e1
 ·obtain ⟨m1,e1⟩:=I.base.tbls b ps e
  obtain ⟨m2,e2⟩:=tbls b _ e1
  exact ⟨m1++m2,by rw [e2,Array.append_assoc]⟩
 ·obtain ⟨m,hn,hl⟩:=I.loc
  refine ⟨m,ns m hn,fun i x v e1 e2 e3=>?_⟩
  obtain ⟨u,r,l⟩:=hl i x v e1 e2 e3
  refine ⟨u,r,?_⟩
  rcases l with l | ⟨k,c,e,z⟩
  ·exact .inl l
  ·exact .inr ⟨k,c,e,cellK x c e _ z⟩
 ·obtain ⟨v,z⟩:=I.cell x c e
  exact ⟨v,cellK x c e v z⟩
 ·obtain ⟨m,⟨o,_,_,ho,_⟩,_⟩:=I.loc
  exact free _ o (fun z=>(hch _ z).2.1 rfl) ho I.free
 ·obtain ⟨v,o,ho,hd⟩:=I.cell x c e
  exact free c o (fun z=>(hch c z).2.2.1 x c e rfl) ho (I.freeC x c e)
 ·obtain ⟨e,n,ne,nf,d⟩:=I.pin p hp
  have nch:p.1∉ch:=fun z=>(hch p.1 z).2.2.2 p hp rfl
  exact ⟨keep p.1 p.2 ne nf nch e n,free p.1 p.2 nch e n,ne,nf,d⟩
theorem Inv.un {t':Nat} (I:Inv X pins σ H s) (u:Un X.fs [] H H' s.heap h') (hok:HOk X.prog X.w H' h'):Inv X pins σ H' { s with heap:=h',toks:=t' }:=by
 obtain ⟨m,⟨o,es,ep,ho,r⟩,_⟩:=id I.loc
 obtain ⟨sl,hL⟩:=u.any ho I.free (by simp)
 exact I.step (g':=s.gens) (d':=s.drawn) (ch:=[]) (fun _ z=>nomatch z) (fun b o _ hb _ e n=>u.keep b o e n hb (by simp)) (fun b o _ hb _ e n=>u.slot b o e n hb (by simp)) (fun b o _ e n=>u.free b o e n (by simp)) (fun b o _ e=>u.there b o e (by simp)) u.tups u.frzs u.tbls (fun m' hm=>by
  obtain ⟨o',es',ep',ho',r'⟩:=hm
  rw [ho] at ho';cases ho'
  exact ⟨_,es',ep',hL,r'⟩) hok I.bare
theorem Inv.call {g':Array GenState} {t':Nat} {d':Drawn} {ch:List Addr} (I:Inv X pins σ H s) (u:Un (frs X.stack) ch H H' s.heap h') (hok:HOk X.prog X.w H' h') (hg:AllBare g')
  (hch:∀ b∈ch,(b∈X.ex\/X.s₀.heap.objs.size<=b)/\b≠X.env.locals/\(∀ x c,X.env.cells.lookup x=some c->c≠b)/\∀ p∈X.pn++pins,p.1≠b):
  Inv X pins σ H' { s with heap:=h',gens:=g',drawn:=d',toks:=t' }:=by
 obtain ⟨m,⟨o,es,ep,ho,r⟩,_⟩:=id I.loc
 obtain ⟨sl,hL⟩:=u.any ho I.free fun z=>(hch _ z).2.1 rfl
 exact I.step (ch:=ch) hch (fun b o hL hb hc e n=>u.keep b o e n (fun z=>(List.mem_cons.mp (I.stkSub b z)).elim hL hb) hc) (fun b o _ _ hc e n=>u.any e n hc) (fun b o hc e n=>u.free b o e n hc) (fun b o hc e=>u.there b o e hc) u.tups u.frzs u.tbls (fun m' hm=>by
  obtain ⟨o',es',ep',ho',r'⟩:=hm
  rw [ho] at ho';cases ho'
  exact ⟨_,es',ep',hL,r'⟩) hok hg
theorem Inv.turned {t':Nat} {it:Addr} (I:Inv X pins σ H s) (k:∀ b o,b≠it->s.heap.get? b=some o->h'.get? b=some o) (hn:H it=none) (hL:it≠X.env.locals)
  (h1:it∈X.ex\/X.s₀.heap.objs.size<=it) (h2:∀ x c,X.env.cells.lookup x=some c->c≠it) (h3:∀ p∈X.pn++pins,p.1≠it):Inv X pins σ H { s with heap:=h',toks:=t' }:=by
 have nit:∀ b u,H b=some u->b≠it:=fun b u e z=>by rw [z,hn] at e;cases e
 refine I.step (g':=s.gens) (d':=s.drawn) (ch:=[it]) (fun b hb=>?_) (fun b o _ _ hc e _=>k b o (fun z=>hc (by simp [z])) e) (fun b o _ _ hc e _=>⟨o.slots,k b o (fun z=>hc (by simp [z])) e⟩) (fun _ _ _ _ n=>n)
  (fun b o hc e=>⟨o,k b o (fun z=>hc (by simp [z])) e⟩) (fun _ _ e=>e) (fun _ _ _ e=>e) (fun b ps e=>⟨#[],by rw [e];simp⟩) (fun m hm=>?_) (fun b u e=>?_) I.bare
 ·have e:b=it:=by simpa using hb
  subst e
  exact ⟨h1,hL,h2,h3⟩
 ·obtain ⟨o,es,ep,ho,r⟩:=hm
  exact ⟨o,es,ep,k _ o (Ne.symm hL) ho,r⟩
 ·refine (I.hok b u e).stay (fun c v hc q=>k c v ?_ q) (fun _ q=>q) fun _ _ q=>q
  rcases hc with z | z
  ·rw [z];exact nit b u e
  ·exact nit c _ z
theorem Inv.tok (I:Inv X pins σ H s) (t:Nat):Inv X pins σ H { s with toks:=t }:=I.un (h':=s.heap) (t':=t) Un.refl I.hok
theorem Inv.kept {t':Nat} (I:Inv X pins σ H s) (k:∀ b u,s.heap.get? b=some u->h'.get? b=some u):Inv X pins σ H { s with heap:=h',toks:=t' }:=I.un (Un.kept k) (I.hok.kept k)
theorem Inv.laid {a:Addr} {o:HO} {t':Nat} (I:Inv X pins σ H s) (k:∀ b u,s.heap.get? b=some u->h'.get? b=some u) (hp:s.heap.objs.size<=a) (new:X4 X.prog X.w (upd H a o) h' a o):
  Inv X pins σ (upd H a o) { s with heap:=h',toks:=t' }:=I.un (Un.laid k hp (I.hok.fresh hp)) (I.hok.laid k hp new)
theorem Inv.write {x e:Addr} {o:HO} {t':Nat} (I:Inv X pins σ H s) (mu:Mut (H x)) (he:e=x\/H e=some (.own x)) (k:∀ b u,b≠e->s.heap.get? b=some u->h'.get? b=some u) (heo:∃ u,h'.get? e=some u)
  (new:X4 X.prog X.w (upd H x o) h' x o):Inv X pins σ (upd H x o) { s with heap:=h',toks:=t' }:=I.un (Un.write mu he k heo) (I.hok.write mu he k heo new)
theorem Inv.pins_of {pins':List (Addr×Obj)} (I:Inv X pins σ H s) (h:∀ p∈pins',s.heap.get? p.1=some p.2/\H p.1=none/\p.1≠X.env.locals/\p.1∉X.fs/\∀ v,p.2.data≠.cell v):Inv X pins' σ H s:=
 ⟨I.ok,I.os,I.bare,I.base,I.loc,I.cell,I.free,I.freeC,fun p hp=>(List.mem_append.mp hp).elim (fun z=>I.pin p (List.mem_append_left _ z)) (h p),I.hok,I.len⟩
theorem Ua {N:List Str} (hN:N.Nodup) {i j:Nat} {x:Str} (a:N[i]?=some x) (b:N[j]?=some x):i=j:=by
 obtain ⟨h1,e1⟩:=List.getElem?_eq_some_iff.mp a
 obtain ⟨h2,e2⟩:=List.getElem?_eq_some_iff.mp b
 exact (List.getElem_inj hN).mp (e1.trans e2.symm)
theorem Gs {M:Model} {A:Around} {E:Value->Shared->Prop} {i:Nat} {x:Str} {v:V} {u:Value} {Q:Unit->Shared->Prop} (I:Inv X pins σ H s) (hN:X.N.Nodup) (hi:X.N[i]?=some x) (hx:Loc X.env.scope x) (r:Y8 v u)
  (h:∀ s',Inv X pins (σ.set i (some v)) H s'->(∃ a,Heap.SameBut a s.heap s'.heap/\(a=X.env.locals\/X.env.cells.lookup x=some a))->Q () s') (hf:X.fn x=true\/X.env.scope.names.lookup x=some .local:=by first | exact .inl rfl | exact .inr rfl | assumption):wpAny M A (storeName X.env x u) Q E s:=by
 obtain ⟨m,hn,hl⟩:=id I.loc
 have hcls:(X.env.scope.kind == .class || (X.env.scope.kind == .module && X.env.locals != X.env.globals))=false:=by rw [I.ok.kind];rfl
 have hiσ:i < σ.length:=by rw [I.len];exact (List.getElem?_eq_some_iff.mp hi).1
 have cne:=I.cne
 have tracked:∀ {a:Addr} {h':Heap},(∃ o,s.heap.get? a=some o/\H a=none)->Heap.SameBut a s.heap h'->HOk X.prog X.w H h':=fun {a h'} ha hs b ob e=>by
  obtain ⟨_,_,hfree⟩:=ha
  refine (I.hok b ob e).stay (fun c w' hc q=>(hs.2 c ?_).trans q) (fun _ q=>q) fun _ _ q=>q
  rintro rfl
  rcases hc with rfl | hc
  ·rw [hfree] at e;cases e
  ·rw [hfree] at hc;cases hc
 rcases hx with hk | hk
 ·refine wpAny_storeName_local hk hn (fun h' hn' hs=>?_) hcls
  obtain ⟨oL,_,_,hoL,_⟩:=id hn
  refine h _ ⟨I.ok,I.os,I.bare,⟨fun b o e n hb hx=>?_,fun b o e n hb hx=>?_,I.base.free,fun b o e hx=>?_,I.base.tups,I.base.frzs,I.base.tbls⟩,⟨_,hn',fun j y v' e1 e2 e3=>?_⟩,fun y c e=>?_,I.free,I.freeC,fun p hp=>?_,tracked ⟨oL,hoL,I.free⟩ hs,by simpa using I.len⟩ ⟨_,hs,.inl rfl⟩
  ·exact (hs.2 b (Nat.ne_of_lt (Nat.lt_of_lt_of_le (Heap.lt_size e) I.ok.above))).trans (I.base.keep b o e n hb hx)
  ·obtain ⟨sl,e1⟩:=I.base.slot b o e n hb hx
   exact ⟨sl,(hs.2 b (Nat.ne_of_lt (Nat.lt_of_lt_of_le (Heap.lt_size e) I.ok.above))).trans e1⟩
  ·obtain ⟨o',e1⟩:=I.base.there b o e hx
   exact ⟨o',(hs.2 b (Nat.ne_of_lt (Nat.lt_of_lt_of_le (Heap.lt_size e) I.ok.above))).trans e1⟩
  ·by_cases hj:j=i
   ·subst hj
    rw [hi] at e1;cases e1
    rw [List.getElem?_set_self hiσ] at e2
    cases e2
    exact ⟨u,r,.inl ⟨hk,by simp⟩⟩
   ·rw [List.getElem?_set_ne (Ne.symm hj)] at e2
    obtain ⟨u',r',q⟩:=hl j y v' e1 e2 e3
    refine ⟨u',r',?_⟩
    rcases q with ⟨k,e⟩ | ⟨k,c,e,z⟩
    ·refine .inl ⟨k,?_⟩
     have:y≠x:=fun e=>hj (Ua hN e1 (e ▸ hi))
     simp [this,e]
    ·exact .inr ⟨k,c,e,z.sameBut hs (cne y c e)⟩
  ·obtain ⟨w',z⟩:=I.cell y c e
   exact ⟨w',z.sameBut hs (cne y c e)⟩
  ·obtain ⟨e,n,ne,nf,d⟩:=I.pin p hp
   exact ⟨(hs.2 p.1 ne).trans e,n,ne,nf,d⟩
 ·have hfn:X.fn x=true:=by
   rcases hf with z | z
   ·exact z
   ·rw [z] at hk;cases hk
  obtain ⟨c,hc⟩:=I.ok.has x (.inl hk)
  obtain ⟨w',z⟩:=I.cell x c hc
  refine wpAny_storeName_cell I.ok.kind hk hc z (fun h' hc' hs=>?_)
  obtain ⟨oc,hoc,hocd⟩:=id z
  refine h { s with heap:=h' } ⟨I.ok,I.os,I.bare,⟨fun b o e n hb hx=>?_,fun b o e n hb hx=>?_,I.base.free,fun b o e hx=>?_,I.base.tups,I.base.frzs,I.base.tbls⟩,⟨m,hn.sameBut hs (Ne.symm (cne x c hc)),fun j y v' e1 e2 e3=>?_⟩,fun y c' e=>?_,I.free,I.freeC,fun p hp=>?_,tracked ⟨oc,hoc,I.freeC x c hc⟩ hs,by simpa using I.len⟩ ⟨c,hs,.inr hc⟩
  ·exact (hs.2 b (Nat.ne_of_lt (Nat.lt_of_lt_of_le (Heap.lt_size e) (I.ok.cab x c hfn hc)))).trans (I.base.keep b o e n hb hx)
  ·obtain ⟨sl,e1⟩:=I.base.slot b o e n hb hx
   exact ⟨sl,(hs.2 b (Nat.ne_of_lt (Nat.lt_of_lt_of_le (Heap.lt_size e) (I.ok.cab x c hfn hc)))).trans e1⟩
  ·obtain ⟨o',e1⟩:=I.base.there b o e hx
   exact ⟨o',(hs.2 b (Nat.ne_of_lt (Nat.lt_of_lt_of_le (Heap.lt_size e) (I.ok.cab x c hfn hc)))).trans e1⟩
  ·by_cases hj:j=i
   ·subst hj
    rw [hi] at e1;cases e1
    rw [List.getElem?_set_self hiσ] at e2
    cases e2
    exact ⟨u,r,.inr ⟨.inl hk,c,hc,hc'⟩⟩
   ·rw [List.getElem?_set_ne (Ne.symm hj)] at e2
    obtain ⟨u',r',q⟩:=hl j y v' e1 e2 e3
    refine ⟨u',r',?_⟩
    rcases q with q | ⟨k,c',e,z'⟩
    ·exact .inl q
    ·refine .inr ⟨k,c',e,z'.sameBut hs ?_⟩
     rintro rfl
     exact hj (Ua hN e1 (I.ok.inj _ _ _ e hc ▸ hi))
  ·by_cases hcc:c'=c
   ·subst hcc;exact ⟨_,hc'⟩
   ·obtain ⟨w2,z2⟩:=I.cell y c' e
    exact ⟨w2,z2.sameBut hs hcc⟩
  ·obtain ⟨e,n,ne,nf,d⟩:=I.pin p hp
   refine ⟨(hs.2 p.1 ?_).trans e,n,ne,nf,d⟩
   intro q
   rw [q,hoc] at e
   have q':oc=p.2:=Option.some.inj e
   exact d w' (by rw [← q'];exact hocd)
theorem ma {M:Model} {A:Around} {E:Value->Shared->Prop} {i:Nat} {x:Str} {v:V} {u:Value} {Q:Unit->Shared->Prop} (I:Inv X pins σ H s) (hN:X.N.Nodup) (hi:X.N[i]?=some x) (hx:Loc X.env.scope x) (r:Y8 v u)
  (h:∀ s',Inv X pins (σ.set i (some v)) H s'->Q () s') (hf:X.fn x=true\/X.env.scope.names.lookup x=some .local:=by first | exact .inl rfl | exact .inr rfl | assumption):wpAny M A (storeName X.env x u) Q E s:=
 Gs I hN hi hx r (fun s' I' _=>h s' I') hf
theorem Inv.call' {s':Shared} {ch:List Addr} (I:Inv X pins σ H s) (ho:s'.os=s.os) (u:Un (frs X.stack) ch H H' s.heap s'.heap) (hok:HOk X.prog X.w H' s'.heap) (hg:AllBare s'.gens)
  (hch:∀ b∈ch,(b∈X.ex\/X.s₀.heap.objs.size<=b)/\b≠X.env.locals/\(∀ x c,X.env.cells.lookup x=some c->c≠b)/\∀ p∈X.pn++pins,p.1≠b):Inv X pins σ H' s':=by
 obtain ⟨h',g',d',t',o'⟩:=s'
 have e:o'=s.os:=ho
 subst e
 exact I.call (g':=g') (t':=t') (d':=d') u hok hg hch
end
abbrev XK:=Value->Option Addr->Hp->Prop
abbrev St:=List (Option V)
abbrev VK:=V->Hp->Prop
abbrev TE:=St->Hp->VK->Prop
abbrev TT:=St->Hp->(Bool->Hp->Prop)->Prop
abbrev TA:=St->Hp->(List V->Hp->Prop)->Prop
structure Ends where
 nx:St->Hp->Prop
 rt:VK
 bk:St->Hp->Prop:=fun _ _=>False
 ct:St->Hp->Prop:=fun _ _=>False
abbrev TS:=Ends->St->Hp->Prop
def EP (X:Cx) (pins:List (Addr×Obj)) (σ:St) (Q:VK) (u:Value) (s':Shared):Prop:=∃ v H',Inv X pins σ H' s'/\Y8 v u/\Q v H'
def TP (X:Cx) (pins:List (Addr×Obj)) (σ:St) (Q:Bool->Hp->Prop) (b:Bool) (s':Shared):Prop:=∃ H',Inv X pins σ H' s'/\Q b H'
def AP (X:Cx) (pins:List (Addr×Obj)) (σ:St) (Q:List V->Hp->Prop) (us:List Value) (s':Shared):Prop:=∃ vs H',Inv X pins σ H' s'/\Y4 vs us/\Q vs H'
def SP (X:Cx) (pins:List (Addr×Obj)) (D:Ends) (f:Flow) (s':Shared):Prop:=
 match f with
 | .next=>∃ σ' H',Inv X pins σ' H' s'/\D.nx σ' H'
 | .brk=>∃ σ' H',Inv X pins σ' H' s'/\D.bk σ' H'
 | .cont=>∃ σ' H',Inv X pins σ' H' s'/\D.ct σ' H'
 | .ret u=>∃ v σ' H',Inv X pins σ' H' s'/\Y8 v u/\D.rt v H'
def PE (X:Cx) (e:Expr) (t:TE):Prop:=
 ∀ (pins:List (Addr×Obj)) (s:Shared) (σ:St) (H:Hp) (Q:VK),Inv X pins σ H s->t σ H Q->wpAny (model X.prog X.w) X.A (eval e X.env) (EP X pins σ Q) X.xe s
def PT (X:Cx) (e:Expr) (t:TT):Prop:=
 ∀ (pins:List (Addr×Obj)) (s:Shared) (σ:St) (H:Hp) (Q:Bool->Hp->Prop),Inv X pins σ H s->t σ H Q->wpAny (model X.prog X.w) X.A (isTrue e X.env (eval e X.env)) (TP X pins σ Q) X.xe s
def PW (X:Cx) (e:Expr) (t:TT):Prop:=
 ∀ (whole:Sem Value) (pins:List (Addr×Obj)) (s:Shared) (σ:St) (H:Hp) (Q:Bool->Hp->Prop),Inv X pins σ H s->t σ H Q->wpAny (model X.prog X.w) X.A (isTrue e X.env whole) (TP X pins σ Q) X.xe s
theorem PW.pt {X:Cx} {e:Expr} {t:TT} (h:PW X e t):PT X e t:=h _
def PA (X:Cx) (es:List Expr) (t:TA):Prop:=
 ∀ (pos:Pos) (pins:List (Addr×Obj)) (s:Shared) (σ:St) (H:Hp) (Q:List V->Hp->Prop),Inv X pins σ H s->t σ H Q->wpAny (model X.prog X.w) X.A (spliced (backTo pos (starEach es X.env))) (AP X pins σ Q) X.xe s
def PS (X:Cx) (st:Stmt) (t:TS):Prop:=
 ∀ (pins:List (Addr×Obj)) (s:Shared) (σ:St) (H:Hp) (D:Ends),Inv X pins σ H s->t D σ H->wpAny (model X.prog X.w) X.A (exec st X.env) (SP X pins D) X.xe s
def PSs (X:Cx) (st:List Stmt) (t:TS):Prop:=
 ∀ (pins:List (Addr×Obj)) (s:Shared) (σ:St) (H:Hp) (D:Ends),Inv X pins σ H s->t D σ H->wpAny (model X.prog X.w) X.A (execs st X.env) (SP X pins D) X.xe s
theorem thn {α:Type} {t:Sem α} {Q Q':α->Shared->Prop} {M:Model} {A:Around} {E:Value->Shared->Prop} {s:Shared} (h:wpAny M A t Q E s) (hQ:∀ a s,Q a s->Q' a s):wpAny M A t Q' E s:=wpAny_mono h hQ fun _ _ x=>x
section
variable {X:Cx}
def Vx (i:Nat):TE:=fun σ H Q=>∃ v,σ[i]?=some (some v)/\Q v H
def tC (v:V):TE:=fun _ H Q=>Q v H
theorem mi {i:Nat} {x:Str} {pos:Pos} (hN:X.N[i]?=some x) (hv:Vis X.env.scope x) (hd:(x == ("__debug__":Str))=false:=by decide) (hcd:(x == ("__classdict__":Str))=false:=by decide):PE X (.Name x pos) (Vx i):=by
 intro pins s σ H Q I h
 obtain ⟨v,e,h⟩:=h
 obtain ⟨m,hn,hl⟩:=I.loc
 obtain ⟨u,r,l⟩:=hl i x v hN e hv
 have fin:EP X pins σ Q u s:=⟨v,H,I,r,h⟩
 rcases l with ⟨hk,hm⟩ | ⟨hk,c,hc,hcell⟩
 ·exact wpAny_Name (wpAny_loadName_local I.ok.kind hk hn hm fin) hd
 ·rcases hk with hk | hk
  ·exact wpAny_Name (wpAny_loadName_cell I.ok.kind hk hc hcell fin) hd
  ·exact wpAny_Name (wpAny_loadName_free I.ok.kind hk hc hcell fin hcd) hd
theorem wD {i j pos}:PE X (.Constant (.int i) j pos) (tC (.int i)):=fun _ _ _ H _ I h=>wpAny_Constant_int ⟨.int i,H,I.tok _,⟨_,rfl⟩,h⟩
theorem qel {b j pos}:PE X (.Constant (.bool b) j pos) (tC (.bl b)):=fun _ _ _ H _ I h=>Constant_bool ⟨.bl b,H,I,rfl,h⟩
theorem qcf {j pos}:PE X (.Constant .none j pos) (tC .non):=fun _ _ _ H _ I h=>Constant_none ⟨.non,H,I,rfl,h⟩
theorem wC {x j pos}:PE X (.Constant (.str x) j pos) (tC (.str x)):=fun _ _ _ H _ I h=>Calls.Constant_str ⟨.str x,H,I.tok _,⟨_,rfl⟩,h⟩
def Gl (X:Cx) (x:Str):Prop:=X.env.kindOf x=some .globalImplicit
theorem uw {E:Value->Shared->Prop} {pins:List (Addr×Obj)} {s:Shared} {σ:St} {H:Hp} {x:Str} {u:Value} {pos:Pos} {Q:Value->Shared->Prop} (I:Inv X pins σ H s) (hg:Gl X x) (hm:X.mg x=some u) (h:Q u s)
  (hd:(x == ("__debug__":Str))=false:=by decide):wpAny (model X.prog X.w) X.A (eval (.Name x pos) X.env) Q E s:=
 Calls.Name_function_global I.ok.kind hg (Calls.loadGlobal_global (by rw [I.ok.glob];exact I.mod.glob.keeps I.bk) hm h) hd
theorem Yw {E:Value->Shared->Prop} {pins:List (Addr×Obj)} {s:Shared} {σ:St} {H:Hp} {x:Str} {u:Value} {pos:Pos} {Q:Value->Shared->Prop} (I:Inv X pins σ H s) (hg:Gl X x) (hm:X.mg x=none) (hv:bootBuiltins x=some u) (h:Q u s)
  (hn:x≠"__name__":=by decide) (hd:(x == ("__debug__":Str))=false:=by decide):wpAny (model X.prog X.w) X.A (eval (.Name x pos) X.env) Q E s:=by
 obtain ⟨mb,h1,h2⟩:=I.mod.blt
 exact Calls.Name_function_global I.ok.kind hg (Calls.loadGlobal_builtin (by rw [I.ok.glob];exact I.mod.glob.keeps I.bk) hm (by rw [I.ok.blt];exact h1.keeps I.bk) ((h2 x hn).trans hv) h) hd
theorem qU {x:Str} {v:V} {u:Value} {pos:Pos} (hg:Gl X x) (hm:X.mg x=some u) (r:Y8 v u) (hd:(x == ("__debug__":Str))=false:=by decide):PE X (.Name x pos) (tC v):=
 fun _ _ _ H _ I h=>uw I hg hm ⟨v,H,I,r,h⟩ hd
theorem bG {x:Str} {v:V} {u:Value} {pos:Pos} (hg:Gl X x) (hm:X.mg x=none) (hv:bootBuiltins x=some u) (r:Y8 v u) (hn:x≠"__name__":=by decide) (hd:(x == ("__debug__":Str))=false:=by decide):PE X (.Name x pos) (tC v):=
 fun _ _ _ H _ I h=>Yw I hg hm hv ⟨v,H,I,r,h⟩ hn hd
variable {a b:Expr} {ta tb:TE} {pos:Pos}
def PC (X:Cx) (op:CmpOp) (a b:Expr) (t:TE):Prop:=
 ∀ (pins:List (Addr×Obj)) (s:Shared) (σ:St) (H:Hp) (Q:VK),Inv X pins σ H s->t σ H Q->
  wpAny (model X.prog X.w) X.A (eval a X.env) (fun v s₁=>wpAny (model X.prog X.w) X.A (eval b X.env) (fun u s₂=>wpAny (model X.prog X.w) X.A (compareOp op v u) (EP X pins σ Q) X.xe s₂) X.xe s₁) X.xe s
theorem vB (b:Expr) {op:CmpOp} (h:op≠.In) (h2:op≠.NotIn):behindInMarks op b=false:=by
 have e1:(op == CmpOp.In)=false:=by cases op <;> first | rfl | exact absurd rfl h
 have e2:(op == CmpOp.NotIn)=false:=by cases op <;> first | rfl | exact absurd rfl h2
 cases b <;> simp [behindInMarks,e1,e2]
def qfg (ta:TE):TE:=fun σ H Q=>ta σ H fun x H1=>Q (.bl (decide (x=.non))) H1
def qdv (ta:TE):TE:=fun σ H Q=>ta σ H fun x H1=>Q (.bl (!decide (x=.non))) H1
theorem Y8.none_iff {x:V} {v:Value} (r:Y8 x v):(v == Value.none)=decide (x=.non):=by
 cases x with
 | non=>cases r;rfl
 | bl _=>cases r;rfl
 | int _=>obtain ⟨t,rfl⟩:=r;rfl
 | str _=>obtain ⟨t,rfl⟩:=r;rfl
 | byt _=>obtain ⟨t,rfl⟩:=r;rfl
 | flt _=>obtain ⟨t,rfl⟩:=r;rfl
 | ref _=>cases r;rfl
 | ty _=>cases r;rfl
theorem ZT {j pos'} (ha:PE X a ta):PC X .Is a (.Constant .none j pos') (qfg ta):=by
 intro pins s σ H Q I h
 refine thn (ha pins s σ H _ I h) fun v s1 ⟨x,H1,I1,r1,q1⟩=>?_
 exact Constant_none (is_none_gen ⟨.bl _,H1,I1,by rw [r1.none_iff];rfl,q1⟩)
theorem bH {j pos'} (ha:PE X a ta):PC X .IsNot a (.Constant .none j pos') (qdv ta):=by
 intro pins s σ H Q I h
 refine thn (ha pins s σ H _ I h) fun v s1 ⟨x,H1,I1,r1,q1⟩=>?_
 exact Constant_none (isnot_none_gen ⟨.bl _,H1,I1,by rw [r1.none_iff];rfl,q1⟩)
def tB (t:TE):TT:=fun σ H Q=>t σ H fun x H1=>∃ c,x=.bl c/\Q c H1
theorem ZR {op:CmpOp} {t:TE} (h:PC X op a b t) (h1:behindInMarks op b=false:=by first | exact vB _ (by decide) (by decide) | rfl):PE X (.Compare a [op] [b] pos) t:=fun pins s σ H Q I hw=>wpAny_Compare1 (h pins s σ H Q I hw) h1
theorem kZ {op:CmpOp} {t:TE} (h:PC X op a b t) (h1:behindInMarks op b=false:=by first | exact vB _ (by decide) (by decide) | rfl):PT X (.Compare a [op] [b] pos) (tB t):=by
 intro pins s σ H Q I hw
 refine wpAny_isTrue_Compare1 (thn (h pins s σ H _ I hw) fun v s1 h1=>thn h1 fun u s2 h2=>thn h2 fun c s3 ⟨x,H1,I1,r1,q1⟩=>?_) h1
 obtain ⟨d,rfl,q⟩:=q1
 cases r1
 exact wpAny_truthy_bool ⟨H1,I1,q⟩
variable {tA tB':TT} {rest:List Expr}
def qfn (t u:TT):TT:=fun σ H Q=>t σ H fun c H1=>if c=true then u σ H1 Q else Q false H1
def tOr (t u:TT):TT:=fun σ H Q=>t σ H fun c H1=>if c=true then Q true H1 else u σ H1 Q
def qfe (t:TT):TT:=fun σ H Q=>t σ H fun c H1=>Q (!c) H1
theorem WE (ha:PT X a tA):PW X (.BoolOp .And [a] pos) tA:=by
 intro wh pins s σ H Q I h
 refine isTrue_and (thn (ha pins s σ H Q I h) fun c s1 e=>?_)
 cases c with
 | true=>exact isTrue_and_nil e
 | false=>exact e
theorem qb1 (ha:PT X a tA):PW X (.BoolOp .Or [a] pos) tA:=by
 intro wh pins s σ H Q I h
 refine isTrue_or (thn (ha pins s σ H Q I h) fun c s1 e=>?_)
 cases c with
 | false=>exact isTrue_or_nil e
 | true=>exact e
theorem qb2 (ha:PT X a tA) (hb:PW X (.BoolOp .And (b::rest) pos) tB'):PW X (.BoolOp .And (a::b::rest) pos) (qfn tA tB'):=by
 intro wh pins s σ H Q I h
 refine isTrue_and (thn (ha pins s σ H _ I h) fun c s1 ⟨H1,I1,q1⟩=>?_)
 cases c with
 | true=>exact hb wh pins s1 σ H1 Q I1 q1
 | false=>exact ⟨H1,I1,q1⟩
theorem qef (ha:PT X a tA) (hb:PW X (.BoolOp .Or (b::rest) pos) tB'):PW X (.BoolOp .Or (a::b::rest) pos) (tOr tA tB'):=by
 intro wh pins s σ H Q I h
 refine isTrue_or (thn (ha pins s σ H _ I h) fun c s1 ⟨H1,I1,q1⟩=>?_)
 cases c with
 | true=>exact ⟨H1,I1,q1⟩
 | false=>exact hb wh pins s1 σ H1 Q I1 q1
theorem qb3 (ha:PT X a tA):PT X (.UnaryOp .Not a pos) (qfe tA):=by
 intro pins s σ H Q I h
 exact isTrue_not (ha pins s σ H (fun c H1=>Q (!c) H1) I h)
def qdz (ta tb:TE):TE:=fun σ H Q=>ta σ H fun x H1=>∃ c,x=.bl c/\if c=true then tb σ H1 Q else Q (.bl false) H1
def qfd (ta tb:TE):TE:=fun σ H Q=>ta σ H fun x H1=>∃ c,x=.bl c/\if c=true then Q (.bl true) H1 else tb σ H1 Q
def qdu (ta:TE):TE:=fun σ H Q=>ta σ H fun x H1=>∃ c,x=.bl c/\Q (.bl (!c)) H1
theorem qcd {op} {t:TE} (h:PE X a t):PE X (.BoolOp op [a] pos) t:=fun pins s σ H Q I hw=>BoolOp_one (h pins s σ H Q I hw)
theorem qci (ha:PE X a ta) (hb:PE X (.BoolOp .And (b::rest) pos) tb):PE X (.BoolOp .And (a::b::rest) pos) (qdz ta tb):=by
 intro pins s σ H Q I h
 refine BoolOp_and (thn (ha pins s σ H _ I h) fun v s1 ⟨x,H1,I1,r1,q1⟩=>?_)
 obtain ⟨c,rfl,q1⟩:=q1
 cases r1
 refine wpAny_truthy_bool ?_
 cases c with
 | true=>exact hb pins s1 σ H1 Q I1 q1
 | false=>exact ⟨.bl false,H1,I1,rfl,q1⟩
theorem qei (ha:PE X a ta) (hb:PE X (.BoolOp .Or (b::rest) pos) tb):PE X (.BoolOp .Or (a::b::rest) pos) (qfd ta tb):=by
 intro pins s σ H Q I h
 refine BoolOp_or (thn (ha pins s σ H _ I h) fun v s1 ⟨x,H1,I1,r1,q1⟩=>?_)
 obtain ⟨c,rfl,q1⟩:=q1
 cases r1
 refine wpAny_truthy_bool ?_
 cases c with
 | false=>exact hb pins s1 σ H1 Q I1 q1
 | true=>exact ⟨.bl true,H1,I1,rfl,q1⟩
theorem qce (ha:PE X a ta):PE X (.UnaryOp .Not a pos) (qdu ta):=by
 intro pins s σ H Q I h
 refine UnaryOp_ (thn (ha pins s σ H _ I h) fun v s1 ⟨x,H1,I1,r1,q1⟩=>?_)
 obtain ⟨c,rfl,q1⟩:=q1
 cases r1
 exact not_of (wpAny_truthy_bool ⟨.bl (!c),H1,I1,rfl,q1⟩)
end
def SqL (K:Frag) (H:Hp) (a:Addr) (xs:List V):Prop:=
 Rd H a (.lst xs)\/
  ∃ (o:Obj) (its:Array Value) (n:Nat),K.lookup a=some o/\o.cls=.type "list"/\o.dict=none/\o.data=.seq its n/\its.size<=sizeLine/\Y4 xs its.toList
def SqT (K:Frag) (H:Hp) (a:Addr) (xs:List V):Prop:=
 Rd H a (.tup xs)\/
  ∃ (o:Obj) (its:Array Value) (n:Nat),K.lookup a=some o/\o.cls=.type "tuple"/\o.data=.seq its n/\its.size<=sizeLine/\Y4 xs its.toList
def qf1:Value->Option V
 | .none=>some .non
 | .bool b=>some (.bl b)
 | .int i _=>some (.int i)
 | .str x _=>some (.str x)
 | .bytes b _=>some (.byt b)
 | .float b _=>some (.flt b)
 | .ref a=>some (.ref a)
 | .type n=>some (.ty n)
 | _=>none
theorem Y8.abs {x:V} {u:Value} (r:Y8 x u):qf1 u=some x:=by
 cases x with
 | non=>cases r;rfl
 | bl _=>cases r;rfl
 | int _=>obtain ⟨t,rfl⟩:=r;rfl
 | str _=>obtain ⟨t,rfl⟩:=r;rfl
 | byt _=>obtain ⟨t,rfl⟩:=r;rfl
 | flt _=>obtain ⟨t,rfl⟩:=r;rfl
 | ref _=>cases r;rfl
 | ty _=>cases r;rfl
theorem Y8.inj {x y:V} {u:Value} (r:Y8 x u) (q:Y8 y u):x=y:=Option.some.inj (r.abs.symm.trans q.abs)
theorem Y4.inj:∀ {xs ys:List V} {us:List Value},Y4 xs us->Y4 ys us->xs=ys
 | _,_,_,.nil,.nil=>rfl
 | _,_,_,.cons r t,.cons r' t'=>by rw [r.inj r',Y4.inj t t']
section
variable {X:Cx} {pins:List (Addr×Obj)} {σ:St} {H:Hp} {s:Shared} {a:Addr} {xs ys:List V}
theorem SqL.of {K:Frag} (h:H a=some (.lst xs)):SqL K H a xs:=.inl (.inl h)
theorem SqT.of {K:Frag} (h:H a=some (.tup xs)):SqT K H a xs:=.inl (.inl h)
theorem Inv.list (I:Inv X pins σ H s) (h:SqL X.K H a xs):∃ its:List Value,Y4 xs its/\PlainL s.heap a its.toArray/\xs.length<=sizeLine:=by
 rcases h with h | ⟨o,its,n,hk,hc,hd,hs,hz,r⟩
 ·obtain ⟨z,its,n,r,e⟩:=h.ok I.hok
  exact ⟨its,r,⟨_,n,e,rfl,rfl,rfl⟩,z⟩
 ·refine ⟨its.toList,r,⟨o,n,I.kIn a o hk,hc,hd,by simpa using hs⟩,?_⟩
  have e:=r.length
  simp only [Array.length_toList] at e
  omega
theorem Inv.tuple (I:Inv X pins σ H s) (h:SqT X.K H a xs):∃ its:List Value,Y4 xs its/\IsTup s.heap a its.toArray/\xs.length<=sizeLine:=by
 rcases h with h | ⟨o,its,n,hk,hc,hs,hz,r⟩
 ·obtain ⟨z,its,r,p⟩:=h.ok I.hok
  exact ⟨its,r,p,z⟩
 ·refine ⟨its.toList,r,⟨o,I.kIn a o hk,hc,n,by simpa using hs⟩,?_⟩
  have e:=r.length
  simp only [Array.length_toList] at e
  omega
theorem Inv.list_inj (I:Inv X pins σ H s) (h:SqL X.K H a xs) (h':SqL X.K H a ys):xs=ys:=by
 obtain ⟨its,r,⟨o,n,e,_,_,d⟩,_⟩:=I.list h
 obtain ⟨its',r',⟨o',n',e',_,_,d'⟩,_⟩:=I.list h'
 rw [e] at e';cases e'
 rw [d] at d'
 injection d' with d1 _
 have:its=its':=by simpa using congrArg Array.toList d1
 subst this
 exact r.inj r'
theorem Inv.tuple_inj (I:Inv X pins σ H s) (h:SqT X.K H a xs) (h':SqT X.K H a ys):xs=ys:=by
 obtain ⟨its,r,⟨o,e,_,n,d⟩,_⟩:=I.tuple h
 obtain ⟨its',r',⟨o',e',_,n',d'⟩,_⟩:=I.tuple h'
 rw [e] at e';cases e'
 rw [d] at d'
 injection d' with d1 _
 have:its=its':=by simpa using congrArg Array.toList d1
 subst this
 exact r.inj r'
end
abbrev Cx.wish (X:Cx) (E:Value->Shared->Prop):Cx:={ X with xe:=E }
abbrev Cx.nox (X:Cx):Cx:=X.wish fun _ _=>False
theorem Cx.Ok.wish {X:Cx} (ok:X.Ok) (E:Value->Shared->Prop):(X.wish E).Ok:=
 ⟨ok.mod,ok.kind,ok.glob,ok.blt,ok.above,ok.inj,ok.has,ok.cab,ok.hd,ok.frames,ok.stk,ok.exf,ok.bs,ok.bsz,ok.noex,ok.exfs,ok.funs,ok.frf⟩
theorem Cx.Ok.unwish {X:Cx} {E:Value->Shared->Prop} (ok:(X.wish E).Ok):X.Ok:=
 ⟨ok.mod,ok.kind,ok.glob,ok.blt,ok.above,ok.inj,ok.has,ok.cab,ok.hd,ok.frames,ok.stk,ok.exf,ok.bs,ok.bsz,ok.noex,ok.exfs,ok.funs,ok.frf⟩
section
variable {X:Cx} {pins:List (Addr×Obj)} {σ:St} {H:Hp} {s:Shared} {E:Value->Shared->Prop}
theorem Inv.wish (I:Inv X pins σ H s) (E:Value->Shared->Prop):Inv (X.wish E) pins σ H s:=⟨I.ok.wish E,I.os,I.bare,I.base,I.loc,I.cell,I.free,I.freeC,I.pin,I.hok,I.len⟩
theorem Inv.unwish (I:Inv (X.wish E) pins σ H s):Inv X pins σ H s:=⟨I.ok.unwish,I.os,I.bare,I.base,I.loc,I.cell,I.free,I.freeC,I.pin,I.hok,I.len⟩
theorem SP.unwish {D:Ends} {f:Flow} {s':Shared} (h:SP (X.wish E) pins D f s'):SP X pins D f s':=by
 cases f with
 | next=>obtain ⟨σ',H',I,q⟩:=h;exact ⟨σ',H',I.unwish,q⟩
 | brk=>obtain ⟨σ',H',I,q⟩:=h;exact ⟨σ',H',I.unwish,q⟩
 | cont=>obtain ⟨σ',H',I,q⟩:=h;exact ⟨σ',H',I.unwish,q⟩
 | ret u=>obtain ⟨v,σ',H',I,r,q⟩:=h;exact ⟨v,σ',H',I.unwish,r,q⟩
theorem PE.nox {e:Expr} {t:TE} (h:PE X.nox e t):PE X e t:=fun pins s σ H Q I hw=>
 wpAny_mono (h pins s σ H Q (I.wish _) hw) (fun _ _ ⟨v,H',I',r,q⟩=>⟨v,H',I'.unwish,r,q⟩) fun _ _ z=>False.elim z
theorem PT.nox {e:Expr} {t:TT} (h:PT X.nox e t):PT X e t:=fun pins s σ H Q I hw=>
 wpAny_mono (h pins s σ H Q (I.wish _) hw) (fun _ _ ⟨H',I',q⟩=>⟨H',I'.unwish,q⟩) fun _ _ z=>False.elim z
theorem PSs.nox {st:List Stmt} {t:TS} (h:PSs X.nox st t):PSs X st t:=fun pins s σ H D I hw=>
 wpAny_mono (h pins s σ H D (I.wish _) hw) (fun _ _ q=>q.unwish) fun _ _ z=>False.elim z
end
section
variable {X:Cx} {st:Stmt} {rest:List Stmt} {t u:TS} {e:Expr} {te:TE} {pos:Pos}
def qdw:TS:=fun D σ H=>D.nx σ H
def qds (t u:TS):TS:=fun D σ H=>t { D with nx:=u D } σ H
theorem WF:PSs X [] qdw:=fun _ _ σ H _ I h=>wpAny_execs_nil ⟨σ,H,I,h⟩
theorem Xu (h1:PS X st t) (h2:PSs X rest u):PSs X (st::rest) (qds t u):=by
 intro pins s σ H D I h
 refine wpAny_execs_cons (thn (h1 pins s σ H { D with nx:=u D } I h) fun f s1 q=>?_)
 cases f with
 | next=>
  obtain ⟨σ',H',I',q⟩:=q
  exact h2 pins s1 σ' H' D I' q
 | ret v=>exact q
 | brk=>exact q
 | cont=>exact q
theorem qS (h1:PS X st t):PSs X [st] t:=by
 intro pins s σ H D I h
 refine wpAny_execs_cons (thn (h1 pins s σ H D I h) fun f s1 q=>?_)
 cases f with
 | next=>exact wpAny_execs_nil q
 | ret v=>exact q
 | brk=>exact q
 | cont=>exact q
theorem Inv.quiet {pins:List (Addr×Obj)} {σ:St} {H:Hp} {s:Shared} (I:Inv X pins σ H s):interactive X.env=false:=by simp [interactive,I.ok.kind]
def qa3 (te:TE):TS:=fun D σ H=>te σ H fun _ H1=>D.nx σ H1
theorem qT (he:PE X e te) (hs:swapsWith e none pos.line X.env=pure false:=by rfl):PS X (.Expr e pos) (qa3 te):=by
 intro pins s σ H D I h
 exact wpAny_Expr_any (thn (he pins s σ H _ I h) fun v s1 ⟨x,H1,I1,r1,q1⟩=>⟨σ,H1,I1,q1⟩) I.quiet hs
def qfc (te:TE):TS:=fun D σ H=>te σ H D.rt
theorem qb5 (he:PE X e te):PS X (.Return (some e) pos) (qfc te):=by
 intro pins s σ H D I h
 exact wpAny_Return_some (thn (he pins s σ H _ I h) fun v s1 ⟨x,H1,I1,r1,q1⟩=>⟨x,σ,H1,I1,r1,q1⟩)
def qfi (c:TT) (t u:TS):TS:=fun D σ H=>c σ H fun b H1=>if b=true then t D σ H1 else u D σ H1
theorem qeg {c:Expr} {a b:List Stmt} {tc:TT} (hc:PT X c tc) (ha:PSs X a t) (hb:PSs X b u):PS X (.If c a b pos) (qfi tc t u):=by
 intro pins s σ H D I h
 refine wpAny_If (thn (hc pins s σ H _ I h) fun d s1 ⟨H1,I1,q1⟩=>?_)
 cases d with
 | true=>exact ha pins s1 σ H1 D I1 q1
 | false=>exact hb pins s1 σ H1 D I1 q1
end
abbrev TG:=V->St->Hp->(St->Hp->Prop)->Prop
def PG (X:Cx) (target:Expr) (t:TG):Prop:=
 ∀ (pins:List (Addr×Obj)) (s:Shared) (σ:St) (H:Hp) (v:V) (u:Value) (Q:St->Hp->Prop),Inv X pins σ H s->Y8 v u->t v σ H Q->
  wpAny (model X.prog X.w) X.A (assign target X.env u) (fun _ s'=>∃ σ' H',Inv X pins σ' H' s'/\Q σ' H') X.xe s
abbrev qdl:=V->V->V->Hp->(Hp->Prop)->Prop
def qe8 (X:Cx) (t:qdl):Prop:=
 ∀ (pins:List (Addr×Obj)) (s:Shared) (σ:St) (H:Hp) (o i v:V) (ov iv u:Value) (Q:Hp->Prop),Inv X pins σ H s->Y8 o ov->Y8 i iv->Y8 v u->t o i v H Q->
  wpAny (model X.prog X.w) X.A (setItem ov iv u) (fun _ s'=>∃ H',Inv X pins σ H' s'/\Q H') X.xe s
abbrev TIp:=V->V->Hp->VK->Prop
def PIp (X:Cx) (op:Operator) (t:TIp):Prop:=
 ∀ (pins:List (Addr×Obj)) (s:Shared) (σ:St) (H:Hp) (x y:V) (v u:Value) (Q:VK),Inv X pins σ H s->Y8 x v->Y8 y u->t x y H Q->
  wpAny (model X.prog X.w) X.A (inplaceOp op v u) (EP X pins σ Q) X.xe s
section
variable {X:Cx} {pos:Pos}
def vN (i:Nat):TG:=fun v σ H Q=>Q (σ.set i (some v)) H
theorem bE {i:Nat} {x:Str} (hN:X.N.Nodup) (hi:X.N[i]?=some x) (hx:Loc X.env.scope x) (hf:X.fn x=true\/X.env.scope.names.lookup x=some .local:=by first | exact .inl rfl | exact .inr rfl | assumption):PG X (.Name x pos) (vN i):=by
 intro pins s σ H v u Q I r h
 exact wpAny_assign_Name (ma I hN hi hx r (fun s' I'=>⟨_,H,I',h⟩) hf)
def qfz (to ti:TE) (t:qdl):TG:=fun v σ H Q=>to σ H fun o H1=>ti σ H1 fun i H2=>t o i v H2 fun H3=>Q σ H3
theorem qcb {o i:Expr} {to ti:TE} {t:qdl} (ho:PE X o to) (hi:PE X i ti) (hs:qe8 X t)
  (ha:∀ v,assign (.Subscript o i pos) X.env v=(do
   let ov ← holding [v] (eval o X.env)
   let iv ← holding [v,ov] (eval i X.env)
   standAt pos
   holding [v,ov,iv] (setItem ov iv v)
   release [v,ov,iv] []):=by intro _;rfl):PG X (.Subscript o i pos) (qfz to ti t):=by
 intro pins s σ H v u Q I r h
 rw [ha]
 refine wpAny_bind (wpAny_holding (thn (ho pins s σ H _ I h) fun ov s1 ⟨x,H1,I1,r1,q1⟩=>?_))
 refine wpAny_bind (wpAny_holding (thn (hi pins s1 σ H1 _ I1 q1) fun iv s2 ⟨y,H2,I2,r2,q2⟩=>?_))
 refine wpAny_bind (wpAny_standAt (wpAny_bind (wpAny_holding (thn (hs pins s2 σ H2 x y v ov iv u _ I2 r1 r2 r q2) fun _ s3 ⟨H3,I3,q3⟩=>?_))))
 exact wpAny_release ⟨σ,H3,I3,q3⟩
def qbu (te:TE) (g:TG):TS:=fun D σ H=>te σ H fun x H1=>g x σ H1 D.nx
theorem qb9 {tg e:Expr} {te:TE} {g:TG} (he:PE X e te) (hg:PG X tg g) (hs:swapsWithSole [tg] e pos.line X.env=pure false:=by rfl) (hw:swappedStores [tg] e X.env=pure none:=by rfl)
  (h1:(assignEach [tg] X.env).map (·.2)=[assign tg X.env]:=by rfl):PS X (.Assign [tg] e pos) (qbu te g):=by
 intro pins s σ H D I h
 refine wpAny_Assign_stores (thn (he pins s σ H _ I h) fun v s1 ⟨x,H1,I1,r1,q1⟩=>?_) hs hw
 rw [h1]
 exact thn (hg pins s1 σ H1 x v _ I1 r1 q1) fun _ s2 q=>q
theorem qb4 {i:Nat} {x:Str} {e:Expr} {te:TE} {pos':Pos} (hN:X.N.Nodup) (hi:X.N[i]?=some x) (hx:Loc X.env.scope x) (he:PE X e te) (hs:swapsWith e (some (.Name x pos')) pos.line X.env=pure false:=by rfl) (hf:X.fn x=true\/X.env.scope.names.lookup x=some .local:=by first | exact .inl rfl | exact .inr rfl | assumption):
  PS X (.Assign [.Name x pos'] e pos) (qbu te (vN i)):=by
 intro pins s σ H D I h
 refine wpAny_Assign_Name (thn (he pins s σ H _ I h) fun v s1 ⟨y,H1,I1,r1,q1⟩=>?_) hs
 exact ma I1 hN hi hx r1 (fun s2 I2=>⟨_,H1,I2,q1⟩) hf
def qfm (i:Nat) (te:TE) (ti:TIp):TS:=fun D σ H=>∃ x,σ[i]?=some (some x)/\te σ H fun y H1=>ti x y H1 fun z H2=>D.nx (σ.set i (some z)) H2
theorem qb8 {i:Nat} {x:Str} {e:Expr} {te:TE} {op:Operator} {ti:TIp} {pos':Pos} (hN:X.N.Nodup) (hi:X.N[i]?=some x) (hx:Loc X.env.scope x) (he:PE X e te) (ho:PIp X op ti) (hf:X.fn x=true\/X.env.scope.names.lookup x=some .local:=by first | exact .inl rfl | exact .inr rfl | assumption):
  PS X (.AugAssign (.Name x pos') op e pos) (qfm i te ti):=by
 intro pins s σ H D I h
 obtain ⟨v,e1,h⟩:=h
 obtain ⟨m,hn,hl⟩:=I.loc
 have vis:Vis X.env.scope x:=by rcases hx with k | k;exact .inl k;exact .inr (.inl k)
 obtain ⟨u,r,l⟩:=hl i x v hi e1 vis
 refine wpAny_AugAssign_Name ?_
 have go:wpAny (model X.prog X.w) X.A (eval e X.env) (fun w s₂=>wpAny (model X.prog X.w) X.A (inplaceOp op u w) (fun r s₃=>wpAny (model X.prog X.w) X.A (storeName X.env x r) (fun _=>SP X pins D .next) X.xe s₃) X.xe s₂) X.xe s:=by
  refine thn (he pins s σ H _ I h) fun w s1 ⟨y,H1,I1,r1,q1⟩=>?_
  refine thn (ho pins s1 σ H1 v y u w _ I1 r r1 q1) fun z s2 ⟨zv,H2,I2,r2,q2⟩=>?_
  exact ma I2 hN hi hx r2 (fun s3 I3=>⟨_,H2,I3,q2⟩) hf
 rcases l with ⟨hk,hm⟩ | ⟨hk,c,hc,hcell⟩
 ·exact wpAny_loadName_local I.ok.kind hk hn hm go
 ·rcases hk with hk | hk
  ·exact wpAny_loadName_cell I.ok.kind hk hc hcell go
  ·rcases hx with k | k
   ·have:X.env.scope.names.lookup x=some .free:=hk
    rw [k] at this;cases this
   ·have:X.env.scope.names.lookup x=some .free:=hk
    rw [k] at this;cases this
def ipI (f:Int->Int->Int):TIp:=fun x y H Q=>∃ i j,x=.int i/\y=.int j/\Q (.int (f i j)) H
theorem qc3:PIp X .Add (ipI fun i j=>i+j):=by
 intro pins s σ H x y v u Q I r1 r2 h
 obtain ⟨i,j,e1,e2,q⟩:=h
 subst e1;subst e2
 obtain ⟨t,rfl⟩:=r1
 obtain ⟨t',rfl⟩:=r2
 exact iadd_int ⟨.int _,H,I.tok _,⟨_,rfl⟩,q⟩
end
section
variable {X:Cx} {pos:Pos}
def qbr (c:TT) (tb:TS):TS:=fun D σ H=>∃ W:Nat->St->Hp->Prop,(∃ m,W m σ H)/\∀ m σ H,W m σ H->
 c σ H fun b H1=>if b=true then ∃ N:St->Hp->Prop,(∀ σ' H',N σ' H'->∃ m',m' < m/\W m' σ' H')/\tb { D with nx:=N,ct:=N,bk:=D.nx } σ H1 else D.nx σ H1
theorem ZE {c:Expr} {body:List Stmt} {tc:TT} {tb:TS} (hp:PassesOwn (model X.prog X.w) X.A X.env X.xe) (hc:PT X c tc) (hb:PSs X body tb):PS X (.While c body [] pos) (qbr tc tb):=by
 intro pins s σ H D I h
 obtain ⟨W,⟨m0,w0⟩,turn⟩:=h
 refine wpAny_While (codeAny_whileLoop (fun n s'=>∃ σ' H',Inv X pins σ' H' s'/\W n σ' H') ?_ m0 ⟨σ,H,I,w0⟩)
 rintro n s1 ⟨σ1,H1,I1,w1⟩
 refine wpAny_passesOwn hp (thn (hc pins s1 σ1 H1 _ I1 (turn n σ1 H1 w1)) fun b s2 ⟨H2,I2,q2⟩=>?_)
 cases b with
 | true=>
  obtain ⟨N,hN,q2⟩:=q2
  rw [if_pos rfl]
  refine wpAny_passesOwn hp (thn (hb pins s2 σ1 H2 _ I2 q2) fun f s3 q3=>?_)
  cases f with
  | next=>
   obtain ⟨σ3,H3,I3,n3⟩:=q3
   obtain ⟨m',hm,w3⟩:=hN σ3 H3 n3
   exact ⟨m',hm,σ3,H3,I3,w3⟩
  | cont=>
   obtain ⟨σ3,H3,I3,n3⟩:=q3
   obtain ⟨m',hm,w3⟩:=hN σ3 H3 n3
   exact ⟨m',hm,σ3,H3,I3,w3⟩
  | brk=>exact q3
  | ret v=>exact q3
 | false=>
  rw [if_neg Bool.false_ne_true]
  exact wpAny_execs_nil ⟨σ1,H2,I2,q2⟩
end
structure It where
 go:Nat->Hp->Prop
 yld:Nat->Hp->V->Hp->Prop
 stop:Nat->Hp->Prop
def Gj (X:Cx) (pins:List (Addr×Obj)) (H:Hp) (b:Addr):Prop:=
 H b=none/\b≠X.env.locals/\b∉X.fs/\(b∈X.ex\/X.s₀.heap.objs.size<=b)/\(∀ x c,X.env.cells.lookup x=some c->c≠b)/\∀ p∈X.pn++pins,p.1≠b
theorem Inv.fpOk {X:Cx} {pins:List (Addr×Obj)} {σ:St} {H H':Hp} {s:Shared} {b:Addr} (I:Inv X pins σ H s) (hb:s.heap.objs.size<=b) (hn:H' b=none):Gj X pins H' b:=by
 refine ⟨hn,Nat.ne_of_gt (Nat.lt_of_lt_of_le I.lt hb),I.nofs hb,.inr (Nat.le_trans I.sz hb),fun x c e z=>?_,fun p hp z=>?_⟩
 ·obtain ⟨v,q⟩:=I.cell x c e
  exact absurd (Nat.lt_of_lt_of_le q.lt (by rw [z];exact hb)) (Nat.lt_irrefl _)
 ·exact absurd (Nat.lt_of_lt_of_le (Heap.lt_size (I.pin p hp).1) (by rw [z];exact hb)) (Nat.lt_irrefl _)
structure Turn (P:Program) (w:World) (K:Frag) (tg:Expr) (J:It) (fp:List Addr) (it:Addr) (tn:Nat->Heap->Prop):Prop where
 mem:it∈fp
 obj:∀ i h,tn i h->∀ b∈fp,∃ o,h.get? b=some o/\∀ v,o.data≠.cell v
 keep:∀ i h h',tn i h->(∀ b∈fp,∀ o,h.get? b=some o->h'.get? b=some o)->tn i h'
 item:∀ (X:Cx),X.prog=P->X.w=w->X.K=K->X.calm=true->∀ (i:Nat) (pins:List (Addr×Obj)) (s:Shared) (σ:St) (H:Hp) (E:Value->Shared->Prop),Inv X pins σ H s->(∀ b∈fp,Gj X pins H b)->tn i s.heap->J.go i H->
  wpAny (model P w) X.A (pyNext (.ref it)) (fun r s1=>∃ u,r=some u/\
   wpAny (model P w) X.A (letOwnedTupleGo tg (.ref it) u) (fun _ s2=>∃ x H',Inv X pins σ H' s2/\Y8 x u/\J.yld i H x H'/\tn (i+1) s2.heap/\∀ b∈fp,H' b=none) E s1) E s
 done:∀ (X:Cx),X.prog=P->X.w=w->X.K=K->X.calm=true->∀ (i:Nat) (pins:List (Addr×Obj)) (s:Shared) (σ:St) (H:Hp) (E:Value->Shared->Prop),Inv X pins σ H s->(∀ b∈fp,Gj X pins H b)->tn i s.heap->J.stop i H->
  wpAny (model P w) X.A (pyNext (.ref it)) (fun r s1=>r=none/\Inv X pins σ H s1) E s
 self:∀ (A:Around) (i:Nat) (s:Shared) (Q:Value->Shared->Prop) (E:Value->Shared->Prop),tn i s.heap->Q (.ref it) s->wpAny (model P w) A (pyIter (.ref it)) Q E s
abbrev TI:=St->Hp->(It->Hp->Prop)->Prop
def PIE (X:Cx) (pins:List (Addr×Obj)) (σ:St) (tg:Expr) (R:It->Hp->Prop) (itv:Value) (s2:Shared):Prop:=
 ∃ (it:Addr) (fp:List Addr) (tn:Nat->Heap->Prop) (J:It) (H':Hp),itv=.ref it/\Inv X pins σ H' s2/\Turn X.prog X.w X.K tg J fp it tn/\tn 0 s2.heap/\(∀ b∈fp,Gj X pins H' b)/\R J H'
def PI (X:Cx) (tg iter:Expr) (wi:TI):Prop:=
 ∀ (pins:List (Addr×Obj)) (s:Shared) (σ:St) (H:Hp) (R:It->Hp->Prop),Inv X pins σ H s->wi σ H R->
  wpAny (model X.prog X.w) X.A (eval iter X.env) (fun v s1=>wpAny (model X.prog X.w) X.A (pyIter v) (PIE X pins σ tg R) X.xe s1) X.xe s
theorem vM {M:Model} {A:Around} {E:Value->Shared->Prop} {s:Shared} {tg:Expr} {it:Addr} {u:Value} {o:Obj} {n:String} {vs:Array Value} {Q:Unit->Shared->Prop} (ho:s.heap.get? it=some o) (hc:o.cls=.type n) (hd:o.data=.fields vs)
  (hn:["enumerate","zip","dict_itemiterator","dict_reverseitemiterator","odict_iterator","itertools.zip_longest","itertools.pairwise"].contains n=false) (hQ:Q () s):wpAny M A (letOwnedTupleGo tg (.ref it) u) Q E s:=by
 unfold letOwnedTupleGo
 cases tg <;> first
  | exact wpAny_pure hQ
  | (cases u <;> first
    | exact wpAny_pure hQ
    | (refine wpAny_bind (wpAny_load ho ?_)
       rw [hc,hd]
       show wpAny M A (if (["enumerate","zip","dict_itemiterator","dict_reverseitemiterator","odict_iterator","itertools.zip_longest","itertools.pairwise"].contains n && vs[0]? == some (rawInt _))=true then _ else _) Q E s
       rw [if_neg (by intro h;rw [hn,Bool.false_and] at h;cases h)]
       exact wpAny_pure hQ))
def Itl (K:Frag) (a:Addr):It:=
 ⟨fun i H=>∃ xs x,SqL K H a xs/\xs[i]?=some x,fun i H x H'=>H'=H/\∀ xs,SqL K H a xs->xs[i]?=some x,fun i H=>∃ xs,SqL K H a xs/\xs.length<=i⟩
def Itt (K:Frag) (a:Addr):It:=
 ⟨fun i H=>∃ xs x,SqT K H a xs/\xs[i]?=some x,fun i H x H'=>H'=H/\∀ xs,SqT K H a xs->xs[i]?=some x,fun i H=>∃ xs,SqT K H a xs/\xs.length<=i⟩
def Itr (lo:Int) (n:Nat):It:=⟨fun i _=>i < n,fun i H x H'=>H'=H/\x=.int (lo+i),fun i _=>n<=i⟩
theorem fK {P:Program} {w:World} {K:Frag} {tg:Expr} (a it:Addr):Turn P w K tg (Itl K a) [it] it (fun i h=>h.IsListIter it a i) where
 mem:=by simp
 obj:=fun i h st b hb=>by
  have e:b=it:=by simpa using hb
  subst e
  obtain ⟨o,e,c,d⟩:=st
  exact ⟨o,e,fun v z=>by rw [d] at z;cases z⟩
 keep:=fun i h h' st k=>st.at fun o e=>k it (by simp) o e
 item:=by
  intro X hP hw hK hc i pins s σ H E I hf st hg
  subst hP hw hK
  obtain ⟨xs,x,hq,hx⟩:=hg
  obtain ⟨its,rv,p,hz⟩:=I.list hq
  obtain ⟨u,hu,ru⟩:=rv.get hx
  obtain ⟨f0,f1,f2,f3,f4,f5⟩:=hf it (by simp)
  refine wpAny_pyNext_list_item st p.isList (x:=u) (by simpa using hu) fun h' st' sb=>?_
  have I1:Inv X pins σ H { s with heap:=h' }:=I.turned (t':=s.toks) (fun b o hb e=>(sb.2 b hb).trans e) f0 f1 f3 f4 f5
  obtain ⟨o,e,c,d⟩:=id st'
  exact ⟨u,rfl,vM (s:={ s with heap:=h' }) e c d (by decide) ⟨x,H,I1,ru,⟨rfl,fun ys hy=>by rw [I.list_inj hy hq];exact hx⟩,st',fun b hb=>(hf b hb).1⟩⟩
 done:=by
  intro X hP hw hK hc i pins s σ H E I hf st hg
  subst hP hw hK
  obtain ⟨xs,hq,hx⟩:=hg
  obtain ⟨its,rv,p,hz⟩:=I.list hq
  obtain ⟨f0,f1,f2,f3,f4,f5⟩:=hf it (by simp)
  have hl:=rv.length
  exact wpAny_pyNext_list_end (I.ok.hd hc) st p.isList (by simp;omega) fun h' eb=>⟨rfl,I.turned (t':=s.toks) (fun b o hb e=>eb b o hb e) f0 f1 f3 f4 f5⟩
 self:=fun _ _ _ _ _ st h=>wpAny_pyIter_listiter st h
theorem yY {P:Program} {w:World} {K:Frag} {tg:Expr} (a it:Addr):Turn P w K tg (Itt K a) [it] it (fun i h=>h.IsTupleIter it a i) where
 mem:=by simp
 obj:=fun i h st b hb=>by
  have e:b=it:=by simpa using hb
  subst e
  obtain ⟨o,e,c,d⟩:=st
  exact ⟨o,e,fun v z=>by rw [d] at z;cases z⟩
 keep:=fun i h h' st k=>st.at fun o e=>k it (by simp) o e
 item:=by
  intro X hP hw hK hc i pins s σ H E I hf st hg
  subst hP hw hK
  obtain ⟨xs,x,hq,hx⟩:=hg
  obtain ⟨its,rv,p,hz⟩:=I.tuple hq
  obtain ⟨u,hu,ru⟩:=rv.get hx
  obtain ⟨f0,f1,f2,f3,f4,f5⟩:=hf it (by simp)
  refine wpAny_pyNext_tuple_item st (show s.heap.IsTuple a its.toArray from p) (x:=u) (by simpa using hu) fun h' st' sb=>?_
  have I1:Inv X pins σ H { s with heap:=h' }:=I.turned (t':=s.toks) (fun b o hb e=>(sb.2 b hb).trans e) f0 f1 f3 f4 f5
  obtain ⟨o,e,c,d⟩:=id st'
  exact ⟨u,rfl,vM (s:={ s with heap:=h' }) e c d (by decide) ⟨x,H,I1,ru,⟨rfl,fun ys hy=>by rw [I.tuple_inj hy hq];exact hx⟩,st',fun b hb=>(hf b hb).1⟩⟩
 done:=by
  intro X hP hw hK hc i pins s σ H E I hf st hg
  subst hP hw hK
  obtain ⟨xs,hq,hx⟩:=hg
  obtain ⟨its,rv,p,hz⟩:=I.tuple hq
  obtain ⟨f0,f1,f2,f3,f4,f5⟩:=hf it (by simp)
  have hl:=rv.length
  exact wpAny_pyNext_tuple_end (I.ok.hd hc) st (show s.heap.IsTuple a its.toArray from p) (by simp;omega) fun h' eb=>⟨rfl,I.turned (t':=s.toks) (fun b o hb e=>eb b o hb e) f0 f1 f3 f4 f5⟩
 self:=fun _ _ _ _ _ st h=>wpAny_pyIter_tupleiter st h
theorem kC {P:Program} {w:World} {K:Frag} {tg:Expr} (it:Addr) (lo:Int) (n:Nat):Turn P w K tg (Itr lo n) [it] it (fun i h=>IsRangeIter h it (lo+(i:Nat) * 1) ((n:Int) - (i:Nat)) 1) where
 mem:=by simp
 obj:=fun i h st b hb=>by
  have e:b=it:=by simpa using hb
  subst e
  exact ⟨_,st,fun v z=>by
   have z':Data.fields _=Data.cell v:=z
   cases z'⟩
 keep:=fun i h h' st k=>k it (by simp) _ st
 item:=by
  intro X hP hw hK hc i pins s σ H E I hf st hg
  subst hP hw hK
  obtain ⟨f0,f1,f2,f3,f4,f5⟩:=hf it (by simp)
  have W:=Walks.range (prog:=X.prog) (w:=X.w) (I.ok.hd hc) it lo 1 n
  refine W.item i s _ _ hg st fun v h' tk hv st' kk=>?_
  obtain ⟨t,rfl⟩:=hv
  have I1:Inv X pins σ H { s with heap:=h',toks:=tk }:=I.turned (fun b o hb e=>kk b o (by simpa using hb) e) f0 f1 f3 f4 f5
  refine ⟨_,rfl,vM (s:={ s with heap:=h',toks:=tk }) (n:="range_iterator") st' rfl rfl (by decide) ⟨.int (lo+i),H,I1,⟨t,?_⟩,⟨rfl,rfl⟩,st',fun b hb=>(hf b hb).1⟩⟩
  rw [Int.mul_one]
 done:=by
  intro X hP hw hK hc i pins s σ H E I hf st hg
  subst hP hw hK
  obtain ⟨f0,f1,f2,f3,f4,f5⟩:=hf it (by simp)
  exact wpAny_pyNext_range_end (I.ok.hd hc) st (by have:n<=i:=hg;omega) fun h' eb=>⟨rfl,I.turned (t':=s.toks) (fun b o hb e=>eb b o hb e) f0 f1 f3 f4 f5⟩
 self:=fun _ _ _ _ _ st h=>wpAny_pyIter_rangeiter st h
section
variable {X:Cx} {tg:Expr}
theorem jL {pins:List (Addr×Obj)} {σ:St} {H:Hp} {s:Shared} {R:It->Hp->Prop} {E:Value->Shared->Prop} {lo hi:Int} {t u v:Tok} {tk:Nat} (I:Inv X pins σ H s) (h1:-(2 ^ 62)<=lo) (h2:lo < 2 ^ 62) (h3:-(2 ^ 62)<=hi) (h4:hi < 2 ^ 62)
  (q:R (Itr lo (hi - lo).toNat) H):wpAny (model X.prog X.w) X.A (pyIter (.ref s.heap.objs.size)) (PIE X pins σ tg R) E { s with heap:=s.heap.push { cls:=.type "range",data:=.fields #[.int lo t,.int hi u,.int 1 v] },toks:=tk }:=by
 refine wpAny_pyIter_range (IsRange.new ..) (small_one h1 h2 h3 h4) ?_
 have I1:Inv X pins σ H { s with heap:=s.heap.push { cls:=.type "range",data:=.fields #[.int lo t,.int hi u,.int 1 v] },toks:=tk }:=I.kept fun b o e=>Heap.get?_push_of_some _ e
 refine ⟨(s.heap.push { cls:=.type "range",data:=.fields #[.int lo t,.int hi u,.int 1 v] }).objs.size,[(s.heap.push { cls:=.type "range",data:=.fields #[.int lo t,.int hi u,.int 1 v] }).objs.size],_,_,H,rfl,
  I1.kept (t':=tk) fun b o e=>Heap.get?_push_of_some _ e,kC _ lo (hi - lo).toNat,?_,fun b hb=>?_,q⟩
 ·have e1:lo+((0:Nat):Int) * 1=lo:=by simp
  have e2:(((hi - lo).toNat:Nat):Int) - ((0:Nat):Int)=Builtin.Range.rangeSize lo hi 1:=by rw [rangeSize_one];split <;> omega
  show IsRangeIter _ _ (lo+((0:Nat):Int) * 1) ((((hi - lo).toNat:Nat):Int) - ((0:Nat):Int)) 1
  rw [e1,e2]
  exact Heap.get?_push_size _ rfl
 ·have e:b=(s.heap.push { cls:=.type "range",data:=.fields #[.int lo t,.int hi u,.int 1 v] }).objs.size:=by simpa using hb
  subst e
  exact I1.fpOk (Nat.le_refl _) (I1.hok.fresh (Nat.le_refl _))
def qeu (ta:TA):TI:=fun σ H R=>ta σ H fun vs H1=>∃ j:Int,vs=[.int j]/\-(2 ^ 62)<=j/\j < 2 ^ 62/\R (Itr 0 j.toNat) H1
def qet (ta:TA):TI:=fun σ H R=>ta σ H fun vs H1=>∃ i j:Int,vs=[.int i,.int j]/\(-(2 ^ 62)<=i/\i < 2 ^ 62/\-(2 ^ 62)<=j/\j < 2 ^ 62)/\R (Itr i (j - i).toNat) H1
theorem mE {a:Expr} {ta:TA} {p pos:Pos} (hg:Gl X "range") (hm:X.mg "range"=none) (ha:PA X [a] ta) (hs:starEach [a] X.env=[(false,eval a X.env)]:=by rfl):PI X tg (.Call (.Name "range" p) [a] [] pos) (qeu ta):=by
 intro pins s σ H R I h
 refine Call_ (Yw I hg hm boot_range (PyProof.Rows.callWith_type1 (thn (ha pos pins s σ H _ I h) fun us s1 ⟨vs,H1,I1,r1,q1⟩=>?_) hs rfl))
 obtain ⟨j,e,q1,q2,q⟩:=q1
 subst e
 cases r1 with
 | cons r rr=>
  cases rr
  obtain ⟨t,rfl⟩:=r
  exact call_range_1 (jL I1 (by omega) (by omega) q1 q2 (by simpa using q))
theorem mD {a b:Expr} {ta:TA} {p pos:Pos} (hg:Gl X "range") (hm:X.mg "range"=none) (ha:PA X [a,b] ta) (hs:starEach [a,b] X.env=[(false,eval a X.env),(false,eval b X.env)]:=by rfl) (hs2:starEach [b] X.env=[(false,eval b X.env)]:=by rfl):
  PI X tg (.Call (.Name "range" p) [a,b] [] pos) (qet ta):=by
 intro pins s σ H R I h
 refine Call_ (Yw I hg hm boot_range (PyProof.Rows.callWith_type1 (thn (ha pos pins s σ H _ I h) fun us s1 ⟨vs,H1,I1,r1,q1⟩=>?_) (by rw [hs,hs2]) (by rw [hs2];rfl)))
 obtain ⟨i,j,e,⟨q1,q2,q3,q4⟩,q⟩:=q1
 subst e
 cases r1 with
 | cons r rr=>
  cases rr with
  | cons r' rr=>
   cases rr
   obtain ⟨t,rfl⟩:=r
   obtain ⟨t',rfl⟩:=r'
   exact call_range_2 (jL I1 q1 q2 q3 q4 q)
def qfj (wi:TI) (g:TG) (tb:TS):TS:=fun D σ H=>wi σ H fun J H1=>∃ W:Nat->Nat->St->Hp->Prop,(∃ m,W 0 m σ H1)/\∀ i m σ H,W i m σ H->
 (J.stop i H/\D.nx σ H)\/(J.go i H/\∃ N:St->Hp->Prop,(∀ σ' H',N σ' H'->∃ m',m' < m/\W (i+1) m' σ' H')/\∀ x H',J.yld i H x H'->g x σ H' fun σ2 H2=>tb { D with nx:=N,ct:=N,bk:=D.nx } σ2 H2)
def Xv (fp:List Addr) (h:Heap):List (Addr×Obj):=fp.filterMap fun b=>(h.get? b).map fun o=>(b,o)
theorem xx {fp:List Addr} {h:Heap} {b:Addr} {o:Obj} (hb:b∈fp) (e:h.get? b=some o):(b,o)∈Xv fp h:=List.mem_filterMap.mpr ⟨b,hb,by rw [e];rfl⟩
theorem mK {fp:List Addr} {h:Heap} {p:Addr×Obj} (hp:p∈Xv fp h):p.1∈fp/\h.get? p.1=some p.2:=by
 obtain ⟨b,hb,e⟩:=List.mem_filterMap.mp hp
 cases q:h.get? b with
 | none=>rw [q] at e;cases e
 | some o=>
  rw [q] at e
  have e':(b,o)=p:=Option.some.inj e
  subst e'
  exact ⟨hb,q⟩
theorem Inv.pinned {pins:List (Addr×Obj)} {σ:St} {H:Hp} {s:Shared} {fp:List Addr} (I:Inv X pins σ H s) (hf:∀ b∈fp,Gj X pins H b) (ho:∀ b∈fp,∃ o,s.heap.get? b=some o/\∀ v,o.data≠.cell v):Inv X (pins++Xv fp s.heap) σ H s:=
 I.pins_of fun p hp=>(List.mem_append.mp hp).elim (fun z=>I.pin p (List.mem_append_right _ z)) fun z=>by
  obtain ⟨hb,e⟩:=mK z
  obtain ⟨f0,f1,f2,_⟩:=hf p.1 hb
  obtain ⟨o,e',d⟩:=ho p.1 hb
  rw [e] at e';cases e'
  exact ⟨e,f0,f1,f2,d⟩
theorem Inv.unpinned {pins pl:List (Addr×Obj)} {σ:St} {H:Hp} {s:Shared} (I:Inv X (pins++pl) σ H s):Inv X pins σ H s:=I.pins_of fun p hp=>I.pin p (List.mem_append_right _ (List.mem_append_left _ hp))
theorem qb6 {iter:Expr} {body:List Stmt} {wi:TI} {g:TG} {tb:TS} {pos:Pos} (hp:PassesOwn (model X.prog X.w) X.A X.env X.xe) (hc:X.calm=true) (hi:PI X tg iter wi) (hg:PG X tg g) (hb:PSs X body tb)
  (hs:∀ x,foldedSetIterable iter X.env x=pure x:=by intro _;rfl):PS X (.For tg iter body [] pos) (qfj wi g tb):=by
 intro pins s σ H D I h
 refine wpAny_For (thn (hi pins s σ H _ I h) fun v s1 h1=>thn h1 fun itv s2 h2=>?_) hs
 obtain ⟨it,fp,tn,J,H2,e,I2,T,st2,f2,W,⟨m0,w0⟩,turn⟩:=h2
 subst e
 have stat:∀ {H':Hp},(∀ b∈fp,H' b=none)->∀ b∈fp,Gj X pins H' b:=fun hn b hb=>⟨hn b hb,(f2 b hb).2⟩
 refine codeAny_forLoop_any (fun n s'=>∃ i σ' H',Inv X pins σ' H' s'/\tn i s'.heap/\(∀ b∈fp,H' b=none)/\W i n σ' H') ?_ m0 ⟨0,σ,H2,I2,st2,fun b hb=>(f2 b hb).1,w0⟩
 rintro n s3 ⟨i,σ3,H3,I3,st3,fr3,w3⟩
 rcases turn i n σ3 H3 w3 with ⟨stop,qn⟩ | ⟨go,N,hN,step⟩
 ·refine wpAny_passesOwn hp (thn (T.done X rfl rfl rfl hc i pins s3 σ3 H3 X.xe I3 (stat fr3) st3 stop) fun r s4 ⟨hr,I4⟩=>?_)
  subst hr
  exact wpAny_execs_nil ⟨σ3,H3,I4,qn⟩
 ·refine wpAny_passesOwn hp (thn (T.item X rfl rfl rfl hc i pins s3 σ3 H3 X.xe I3 (stat fr3) st3 go) fun r s4 ⟨u,hr,h4⟩=>?_)
  subst hr
  refine wpAny_passesOwn hp (thn h4 fun _ s5 ⟨x,H5,I5,r5,y5,st5,fr5⟩=>?_)
  have I5':=I5.pinned (stat fr5) (T.obj _ _ st5)
  refine wpAny_passesOwn hp (thn (hg _ s5 σ3 H5 x u _ I5' r5 (step x H5 y5)) fun _ s6 ⟨σ6,H6,I6,q6⟩=>?_)
  refine wpAny_passesOwn hp (thn (hb _ s6 σ6 H6 _ I6 q6) fun f s7 q7=>?_)
  have again:∀ {σ7:St} {H7:Hp},Inv X (pins++Xv fp s5.heap) σ7 H7 s7->N σ7 H7->∃ m,m < n/\∃ i σ' H',Inv X pins σ' H' s7/\tn i s7.heap/\(∀ b∈fp,H' b=none)/\W i m σ' H':=fun {σ7 H7} I7 n7=>by
   obtain ⟨m',hm,w7⟩:=hN σ7 H7 n7
   refine ⟨m',hm,i+1,σ7,H7,I7.unpinned,T.keep _ _ _ st5 fun b hb o e=>(I7.pin (b,o) (List.mem_append_right _ (List.mem_append_right _ (xx hb e)))).1,fun b hb=>?_,w7⟩
   obtain ⟨o,e,d⟩:=T.obj _ _ st5 b hb
   exact (I7.pin (b,o) (List.mem_append_right _ (List.mem_append_right _ (xx hb e)))).2.1
  cases f with
  | next=>obtain ⟨σ7,H7,I7,n7⟩:=q7;exact again I7 n7
  | cont=>obtain ⟨σ7,H7,I7,n7⟩:=q7;exact again I7 n7
  | brk=>obtain ⟨σ7,H7,I7,q7⟩:=q7;exact ⟨σ7,H7,I7.unpinned,q7⟩
  | ret v=>obtain ⟨x7,σ7,H7,I7,r7,q7⟩:=q7;exact ⟨x7,σ7,H7,I7.unpinned,r7,q7⟩
end
abbrev R2:=V->V->Hp->VK->Prop
def OpR (X:Cx) (f:Value->Value->Sem Value) (r:R2):Prop:=
 ∀ (pins:List (Addr×Obj)) (s:Shared) (σ:St) (H:Hp) (x y:V) (v u:Value) (Q:VK),Inv X pins σ H s->Y8 x v->Y8 y u->r x y H Q->
  wpAny (model X.prog X.w) X.A (f v u) (EP X pins σ Q) X.xe s
def UnR (X:Cx) (f:Value->Sem Value) (r:V->Hp->VK->Prop):Prop:=
 ∀ (pins:List (Addr×Obj)) (s:Shared) (σ:St) (H:Hp) (x:V) (v:Value) (Q:VK),Inv X pins σ H s->Y8 x v->r x H Q->
  wpAny (model X.prog X.w) X.A (f v) (EP X pins σ Q) X.xe s
def D6 (X:Cx) (f:Value) (r:List V->Hp->VK->Prop):Prop:=
 ∀ (pins:List (Addr×Obj)) (s:Shared) (σ:St) (H:Hp) (xs:List V) (us:List Value) (Q:VK),Inv X pins σ H s->Y4 xs us->r xs H Q->
  wpAny (model X.prog X.w) X.A (call f us) (EP X pins σ Q) X.xe s
def qf2 (X:Cx) (r:V->Hp->(Bool->Hp->Prop)->Prop):Prop:=
 ∀ (pins:List (Addr×Obj)) (s:Shared) (σ:St) (H:Hp) (x:V) (v:Value) (Q:Bool->Hp->Prop),Inv X pins σ H s->Y8 x v->r x H Q->
  wpAny (model X.prog X.w) X.A (truthy v) (TP X pins σ Q) X.xe s
def tOp (r:R2) (ta tb:TE):TE:=fun σ H Q=>ta σ H fun x H1=>tb σ H1 fun y H2=>r x y H2 Q
def tUn (r:V->Hp->VK->Prop) (ta:TE):TE:=fun σ H Q=>ta σ H fun x H1=>r x H1 Q
def rI (C:Int->Int->Prop) (g:Int->Int->V):R2:=fun x y H Q=>∃ i j,x=.int i/\y=.int j/\C i j/\Q (g i j) H
def rI0 (g:Int->Int->V):R2:=fun x y H Q=>∃ i j,x=.int i/\y=.int j/\Q (g i j) H
def rU (g:Int->V):V->Hp->VK->Prop:=fun x H Q=>∃ i,x=.int i/\Q (g i) H
section
variable {X:Cx} {a b c:Expr} {ta tb tc:TE} {pos:Pos}
theorem qdi (ha:PE X a ta) (hb:PE X b tb) {pins:List (Addr×Obj)} {s:Shared} {σ:St} {H:Hp} {R:V->V->Hp->Prop} (I:Inv X pins σ H s)
  (h:ta σ H fun x H1=>tb σ H1 fun y H2=>R x y H2) {Q:Value->Shared->Prop} {f:Value->Value->Sem Value}
  (hf:∀ v u s2 x y H2,Inv X pins σ H2 s2->Y8 x v->Y8 y u->R x y H2->wpAny (model X.prog X.w) X.A (f v u) Q X.xe s2):
  wpAny (model X.prog X.w) X.A (eval a X.env) (fun v s₁=>wpAny (model X.prog X.w) X.A (eval b X.env) (fun u s₂=>wpAny (model X.prog X.w) X.A (f v u) Q X.xe s₂) X.xe s₁) X.xe s:=by
 refine thn (ha pins s σ H _ I h) fun v s1 ⟨x,H1,I1,r1,q1⟩=>?_
 refine thn (hb pins s1 σ H1 _ I1 q1) fun u s2 ⟨y,H2,I2,r2,q2⟩=>?_
 exact hf v u s2 x y H2 I2 r1 r2 q2
theorem qej {op:Operator} {r:R2} (ho:OpR X (binaryOp op) r) (ha:PE X a ta) (hb:PE X b tb):PE X (.BinOp a op b pos) (tOp r ta tb):=by
 intro pins s σ H Q I h
 exact wpAny_BinOp (qdi ha hb I h fun v u s2 x y H2 I2 rx ry q=>ho pins s2 σ H2 x y v u Q I2 rx ry q)
theorem qeh {op:UnaryOp} {r:V->Hp->VK->Prop} (ho:UnR X (unaryOp op) r) (ha:PE X a ta):PE X (.UnaryOp op a pos) (tUn r ta):=by
 intro pins s σ H Q I h
 exact UnaryOp_ (thn (ha pins s σ H _ I h) fun v s1 ⟨x,H1,I1,r1,q1⟩=>ho pins s1 σ H1 x v Q I1 r1 q1)
theorem opI {f:Value->Value->Sem Value} {C:Int->Int->Prop} {g:Int->Int->Int}
  (rule:∀ (i j:Int) (t u:Tok) (s:Shared) (Q:Value->Shared->Prop) (E:Value->Shared->Prop),C i j->Q (.int (g i j) s.toks) { s with toks:=s.toks+1 }->wpAny (model X.prog X.w) X.A (f (.int i t) (.int j u)) Q E s):
  OpR X f (rI C fun i j=>.int (g i j)):=by
 intro pins s σ H x y v u Q I rx ry h
 obtain ⟨i,j,rfl,rfl,hc,q⟩:=h
 obtain ⟨t,rfl⟩:=rx
 obtain ⟨t',rfl⟩:=ry
 exact rule i j t t' s _ _ hc ⟨.int (g i j),H,I.tok _,⟨_,rfl⟩,q⟩
theorem qen {f:Value->Value->Sem Value} {g:Int->Int->Int}
  (rule:∀ (i j:Int) (t u:Tok) (s:Shared) (Q:Value->Shared->Prop) (E:Value->Shared->Prop),Q (.int (g i j) s.toks) { s with toks:=s.toks+1 }->wpAny (model X.prog X.w) X.A (f (.int i t) (.int j u)) Q E s):
  OpR X f (rI0 fun i j=>.int (g i j)):=by
 intro pins s σ H x y v u Q I rx ry h
 obtain ⟨i,j,rfl,rfl,q⟩:=h
 obtain ⟨t,rfl⟩:=rx
 obtain ⟨t',rfl⟩:=ry
 exact rule i j t t' s _ _ ⟨.int (g i j),H,I.tok _,⟨_,rfl⟩,q⟩
theorem qcq {f:Value->Value->Sem Value} {g:Int->Int->Bool}
  (rule:∀ (i j:Int) (t u:Tok) (s:Shared) (Q:Value->Shared->Prop) (E:Value->Shared->Prop),Q (.bool (g i j)) s->wpAny (model X.prog X.w) X.A (f (.int i t) (.int j u)) Q E s):
  OpR X f (rI0 fun i j=>.bl (g i j)):=by
 intro pins s σ H x y v u Q I rx ry h
 obtain ⟨i,j,rfl,rfl,q⟩:=h
 obtain ⟨t,rfl⟩:=rx
 obtain ⟨t',rfl⟩:=ry
 exact rule i j t t' s _ _ ⟨.bl (g i j),H,I,rfl,q⟩
def qf6 (i j:Int):Prop:=0<=j/\j<=1000000/\i.natAbs < 2 ^ 64
def qay (i j:Int):Prop:=(-(2 ^ 64) < i/\i < 2 ^ 64)\/(-(2 ^ 64) < j/\j < 2 ^ 64)
theorem qay.ok {i j:Int} (h:qay i j):IntMulOk i j:=by
 rcases h with ⟨h1,h2⟩ | ⟨h1,h2⟩
 ·exact .of_left (intBits_le_64 h1 h2)
 ·exact .of_right (intBits_le_64 h1 h2)
theorem qcp:OpR X (binaryOp .Add) (rI0 fun i j=>.int (i+j)):=qen fun _ _ _ _ _ _ _ q=>add_int q
theorem qck:OpR X (binaryOp .Sub) (rI0 fun i j=>.int (i - j)):=qen fun _ _ _ _ _ _ _ q=>sub_int q
theorem qcn:OpR X (binaryOp .Mod) (rI (fun _ j=>0 < j) fun i j=>.int (i % j)):=opI fun i j _ _ _ _ _ hc q=>by
 have h1:(0:Int) < j:=hc
 exact mod_int' (by omega) (by rw [Int.fmod_eq_emod_of_nonneg i (by omega)];exact q)
theorem qcl:OpR X (binaryOp .Pow) (rI qf6 fun i j=>.int (i ^ j.toNat)):=opI fun _ _ _ _ _ _ _ hc q=>pow_int_small hc.1 hc.2.1 hc.2.2 q
theorem unI {f:Value->Sem Value} {g:Int->Int}
  (rule:∀ (i:Int) (t:Tok) (s:Shared) (Q:Value->Shared->Prop) (E:Value->Shared->Prop),Q (.int (g i) s.toks) { s with toks:=s.toks+1 }->wpAny (model X.prog X.w) X.A (f (.int i t)) Q E s):
  UnR X f (rU fun i=>.int (g i)):=by
 intro pins s σ H x v Q I rx h
 obtain ⟨i,rfl,q⟩:=h
 obtain ⟨t,rfl⟩:=rx
 exact rule i t s _ _ ⟨.int (g i),H,I.tok _,⟨_,rfl⟩,q⟩
theorem qbo:UnR X (unaryOp .USub) (rU fun i=>.int (-i)):=unI fun _ _ _ _ _ q=>neg_int q
end
def qK:V->V->Bool
 | .non,.non=>true | .non,.int _=>true | .int _,.non=>true | .non,.bl _=>true | .bl _,.non=>true | .non,.str _=>true | .str _,.non=>true
 | .int _,.int _=>true | .bl _,.bl _=>true | .str _,.str _=>true | .byt _,.byt _=>true
 | .int _,.str _=>true | .str _,.int _=>true | .bl _,.str _=>true | .str _,.bl _=>true
 | _,_=>false
section
variable {X:Cx} {a b c:Expr} {ta tb tc:TE} {pos:Pos}
theorem gK {pins:List (Addr×Obj)} {σ:St} {H:Hp} {s:Shared} {Q:VK} {k k':Bool} (I:Inv X pins σ H s) (q:Q (.bl k) H) (e:k=k'):EP X pins σ Q (.bool k') s:=by
 subst e
 exact ⟨.bl k,H,I,rfl,q⟩
theorem qba:OpR X (compareOp .Lt) (rI0 fun i j=>.bl (decide (i < j))):=qcq fun _ _ _ _ _ _ _ q=>lt_int q
theorem qbb:OpR X (compareOp .LtE) (rI0 fun i j=>.bl (decide (i<=j))):=qcq fun _ _ _ _ _ _ _ q=>le_int q
theorem qem:OpR X (compareOp .GtE) (rI0 fun i j=>.bl (decide (j<=i))):=qcq fun _ _ _ _ _ _ _ q=>ge_int q
theorem mG:OpR X (compareOp .Lt) (fun x y H Q=>∃ i j,x=.str i/\y=.str j/\Q (.bl (decide (i.cps.toList < j.cps.toList))) H):=by
 intro pins s σ H x y v u Q I rx ry h
 obtain ⟨i,j,rfl,rfl,q⟩:=h
 obtain ⟨t,rfl⟩:=rx
 obtain ⟨t',rfl⟩:=ry
 exact lt_str (gK I q rfl)
theorem OpR.or {f:Value->Value->Sem Value} {r r':R2} (h:OpR X f r) (h':OpR X f r'):OpR X f (fun x y H Q=>r x y H Q\/r' x y H Q):=by
 intro pins s σ H x y v u Q I rx ry q
 rcases q with q | q
 ·exact h pins s σ H x y v u Q I rx ry q
 ·exact h' pins s σ H x y v u Q I rx ry q
theorem Ze (b:Expr) {op:CmpOp} (h:op≠.In:=by decide) (h2:op≠.NotIn:=by decide):behindInMarks op b=false:=by
 have e1:(op == CmpOp.In)=false:=by cases op <;> first | rfl | exact absurd rfl h
 have e2:(op == CmpOp.NotIn)=false:=by cases op <;> first | rfl | exact absurd rfl h2
 cases b <;> simp [behindInMarks,e1,e2]
theorem WP {op:CmpOp} {r:R2} (ho:OpR X (compareOp op) r) (ha:PE X a ta) (hb:PE X b tb) (hm:behindInMarks op b=false):PE X (.Compare a [op] [b] pos) (tOp r ta tb):=by
 intro pins s σ H Q I h
 exact wpAny_Compare1 (qdi ha hb I h fun v u s2 x y H2 I2 rx ry q=>ho pins s2 σ H2 x y v u Q I2 rx ry q) hm
def QG (t:TE):TT:=fun σ H Q=>t σ H fun x H'=>∃ k,x=.bl k/\Q k H'
theorem bB {op:CmpOp} {r:R2} (ho:OpR X (compareOp op) r) (ha:PE X a ta) (hb:PE X b tb) (hm:behindInMarks op b=false):PT X (.Compare a [op] [b] pos) (QG (tOp r ta tb)):=by
 intro pins s σ H Q I h
 refine wpAny_isTrue_Compare1 (thn (ha pins s σ H _ I h) fun v s1 ⟨x,H1,I1,r1,q1⟩=>thn (hb pins s1 σ H1 _ I1 q1) fun u s2 ⟨y,H2,I2,r2,q2⟩=>
  thn (ho pins s2 σ H2 x y v u _ I2 r1 r2 q2) fun c s3 ⟨z,H3,I3,r3,k,e,q3⟩=>?_) hm
 subst e
 cases r3
 exact wpAny_truthy_bool ⟨H3,I3,q3⟩
def QJ (r r':R2) (ta tb tc:TE):TE:=fun σ H Q=>ta σ H fun x H1=>tb σ H1 fun y H2=>r x y H2 fun z H3=>∃ k,z=.bl k/\
 (if k=true then tc σ H3 fun w' H4=>r' y w' H4 Q else Q (.bl false) H3)
theorem ZS {op op':CmpOp} {r r':R2} (ho:OpR X (compareOp op) r) (ho':OpR X (compareOp op') r') (ha:PE X a ta) (hb:PE X b tb) (hc:PE X c tc)
  (hm:lastMarks [op,op'] [b,c]=false:=by with_unfolding_all rfl):PE X (.Compare a [op,op'] [b,c] pos) (QJ r r' ta tb tc):=by
 intro pins s σ H Q I h
 refine Compare_chain (thn (ha pins s σ H _ I h) fun v s1 ⟨x,H1,I1,r1,q1⟩=>chain_link (thn (hb pins s1 σ H1 _ I1 q1) fun u s2 ⟨y,H2,I2,r2,q2⟩=>
  thn (ho pins s2 σ H2 x y v u _ I2 r1 r2 q2) fun d s3 ⟨z,H3,I3,r3,k,e,q3⟩=>?_)) hm
 subst e
 cases r3
 refine wpAny_truthy_bool ?_
 cases k with
 | false=>exact ite_ff ⟨.bl false,H3,I3,rfl,q3⟩
 | true=>exact ite_tt (chain_last (thn (hc pins s3 σ H3 _ I3 q3) fun w' s4 ⟨z',H4,I4,r4,q4⟩=>ho' pins s4 σ H4 y z' u w' Q I4 r2 r4 q4))
def qdk (K:Frag) (x:V) (H:Hp) (k:Bool):Prop:=
 match x with
 | .non=>k=false
 | .bl b=>k=b
 | .int i=>k=(i != 0)
 | .str y=>y.length<=sizeLine/\k=((y.length:Int) != 0)
 | .byt y=>y.size<=sizeLine/\k=((y.size:Int) != 0)
 | .ref p=>(∃ xs,SqL K H p xs/\k=!xs.isEmpty)\/(∃ xs,SqT K H p xs/\k=!xs.isEmpty)\/∃ kvs,H p=some (.dK kvs)/\k=!kvs.isEmpty
 | _=>False
theorem gB {κ:Type} {kvs:List (κ×V)} {vs:List (κ×Value)} (r:KV kvs vs):(!vs.isEmpty)=!kvs.isEmpty:=by
 cases r <;> rfl
theorem Uj {xs:List V} {its:List Value} (r:Y4 xs its):(!its.toArray.isEmpty)=!xs.isEmpty:=by
 cases r <;> simp
theorem Yv:(sizeLine:Nat) < 2 ^ 63:=by rw [sizeLine_eq];decide
theorem qbp:qf2 X (fun x H Q=>∃ k,qdk X.K x H k/\Q k H):=by
 intro pins s σ H x v Q I rx h
 obtain ⟨k,e,q⟩:=h
 have hl:=Yv
 have hs:sizeLine=16777216:=sizeLine_eq
 cases x with
 | non=>
  cases rx
  have e':k=false:=e
  subst e'
  exact truthy_none ⟨H,I,q⟩
 | bl b=>
  cases rx
  have e':k=b:=e
  subst e'
  exact wpAny_truthy_bool ⟨H,I,q⟩
 | int i=>
  obtain ⟨t,rfl⟩:=rx
  have e':k=(i != 0):=e
  subst e'
  exact PySem.P.truthy_int ⟨H,I,q⟩
 | str y=>
  obtain ⟨t,rfl⟩:=rx
  obtain ⟨hy,e'⟩:y.length<=sizeLine/\k=((y.length:Int) != 0):=e
  subst e'
  exact PySem.P.truthy_str (by omega) ⟨H,I.tok _,q⟩
 | byt y=>
  obtain ⟨t,rfl⟩:=rx
  obtain ⟨hy,e'⟩:y.size<=sizeLine/\k=((y.size:Int) != 0):=e
  subst e'
  exact PySem.W.truthy_bytes (by omega) ⟨H,I.tok _,q⟩
 | ref p=>
  cases rx
  have e':(∃ xs,SqL X.K H p xs/\k=!xs.isEmpty)\/(∃ xs,SqT X.K H p xs/\k=!xs.isEmpty)\/∃ kvs,H p=some (.dK kvs)/\k=!kvs.isEmpty:=e
  rcases e' with ⟨xs,hx,e'⟩ | ⟨xs,hx,e'⟩ | ⟨kvs,hx,e'⟩
  ·subst e'
   obtain ⟨its,r,pl,hz⟩:=I.list hx
   have hlen:=r.length
   exact wpAny_truthy_list pl.isList (by simp only [List.size_toArray];omega) ⟨H,I.tok _,by rw [Uj r];exact q⟩
  ·subst e'
   obtain ⟨its,r,pl,hz⟩:=I.tuple hx
   have hlen:=r.length
   exact truthy_tuple pl (by simp only [List.size_toArray];omega) ⟨H,I.tok _,by rw [Uj r];exact q⟩
  ·subst e'
   obtain ⟨hz,hS,vs,r,m⟩:kvs.length<=sizeLine/\(p == sysModules)=false/\∃ vs,KV kvs vs/\s.heap.DictOf (W7 X.prog X.w) p vs:=I.hok p _ hx
   have hlen:kvs.length=vs.length:=Paired.length r
   exact wpAny_truthy_dict hS m (by omega) ⟨H,I.tok _,by rw [gB r];exact q⟩
 | _=>exact (show False from e).elim
theorem ZD (ha:PE X a ta) (he:∀ whole,isTrue a X.env whole=(do let v ← whole;standAt a.pos;holding [v] (truthy v))):
  PT X a (fun σ H Q=>ta σ H fun x H'=>∃ k,qdk X.K x H' k/\Q k H'):=by
 intro pins s σ H Q I h
 exact isTrue_plain (thn (ha pins s σ H _ I h) fun v s1 ⟨x,H1,I1,r1,q1⟩=>qbp pins s1 σ H1 x v Q I1 r1 q1) (he _)
theorem wH:OpR X (binaryOp .Add) (fun x y H Q=>∃ i j,x=.str i/\y=.str j/\i.length+j.length<=sizeLine/\Q (.str (i++j)) H):=by
 intro pins s σ H x y v u Q I rx ry h
 obtain ⟨i,j,rfl,rfl,hz,q⟩:=h
 obtain ⟨t,rfl⟩:=rx
 obtain ⟨t',rfl⟩:=ry
 exact add_str (fun t' tk=>⟨.str (i++j),H,I.tok _,⟨_,rfl⟩,q⟩) hz
theorem fh {x:V} {us:List Value} (r:Y4 [x] us):∃ u,us=[u]/\Y8 x u:=by
 cases r with
 | cons r1 r2=>cases r2;exact ⟨_,rfl,r1⟩
theorem uY {x y:V} {us:List Value} (r:Y4 [x,y] us):∃ u w',us=[u,w']/\Y8 x u/\Y8 y w':=by
 cases r with
 | cons r1 r2=>
  cases r2 with
  | cons r3 r4=>cases r4;exact ⟨_,_,rfl,r1,r3⟩
theorem YW:D6 X (.builtin "abs") (fun xs H Q=>∃ i,xs=[.int i]/\Q (.int (if i < 0 then -i else i)) H):=by
 intro pins s σ H xs us Q I r h
 obtain ⟨i,rfl,q⟩:=h
 obtain ⟨u,rfl,t,rfl⟩:=fh r
 exact call_abs_int fun u tk=>⟨.int (if i < 0 then -i else i),H,I.tok _,⟨_,rfl⟩,q⟩
theorem uL (hc:X.calm=true):D6 X (.builtin "min") (fun xs H Q=>∃ i j,xs=[.int i,.int j]/\Q (.int (if j < i then j else i)) H):=by
 intro pins s σ H xs us Q I r h
 obtain ⟨i,j,rfl,q⟩:=h
 obtain ⟨u,w',rfl,⟨t,rfl⟩,⟨t',rfl⟩⟩:=uY r
 refine min_two_ints (I.ok.hd hc) fun h' tk k=>⟨_,H,I.kept k,?_,q⟩
 by_cases hj:j < i
 ·rw [if_pos hj,if_pos hj];exact ⟨_,rfl⟩
 ·rw [if_neg hj,if_neg hj];exact ⟨_,rfl⟩
theorem uN:D6 X (.type "int") (fun xs H Q=>(∃ i,xs=[.int i]/\Q (.int i) H)\/∃ k,xs=[.bl k]/\Q (.int (if k then 1 else 0)) H):=by
 intro pins s σ H xs us Q I r h
 rcases h with ⟨i,rfl,q⟩ | ⟨k,rfl,q⟩
 ·obtain ⟨u,rfl,t,rfl⟩:=fh r
  exact call_int_int ⟨.int i,H,I,⟨_,rfl⟩,q⟩
 ·obtain ⟨u,rfl,r1⟩:=fh r
  cases r1
  exact call_int_bool ⟨.int (if k then 1 else 0),H,I.tok _,⟨_,rfl⟩,q⟩
def qe9 (K:Frag) (x:V) (H:Hp) (n:Nat):Prop:=
 match x with
 | .str y=>y.length<=sizeLine/\n=y.length
 | .byt y=>y.size<=sizeLine/\n=y.size
 | .ref p=>(∃ xs,SqL K H p xs/\n=xs.length)\/∃ xs,SqT K H p xs/\n=xs.length
 | _=>False
theorem YU:D6 X (.builtin "len") (fun xs H Q=>∃ x n,xs=[x]/\qe9 X.K x H n/\Q (.int n) H):=by
 intro pins s σ H xs us Q I r h
 obtain ⟨x,n,rfl,e,q⟩:=h
 obtain ⟨u,rfl,rx⟩:=fh r
 have hl:=Yv
 have hs:sizeLine=16777216:=sizeLine_eq
 cases x with
 | str y=>
  obtain ⟨t,rfl⟩:=rx
  obtain ⟨hy,e'⟩:y.length<=sizeLine/\n=y.length:=e
  subst e'
  exact len_str (by omega) ⟨.int _,H,I.tok _,⟨_,rfl⟩,q⟩
 | byt y=>
  obtain ⟨t,rfl⟩:=rx
  obtain ⟨hy,e'⟩:y.size<=sizeLine/\n=y.size:=e
  subst e'
  exact PySem.W.len_bytes (by omega) ⟨.int _,H,I.tok _,⟨_,rfl⟩,q⟩
 | ref p=>
  cases rx
  have e':(∃ xs,SqL X.K H p xs/\n=xs.length)\/∃ xs,SqT X.K H p xs/\n=xs.length:=e
  rcases e' with ⟨xs,hx,e'⟩ | ⟨xs,hx,e'⟩
  ·subst e'
   obtain ⟨its,r',pl,hz⟩:=I.list hx
   have hlen:=r'.length
   exact Calls.call_len_list pl.isList (by simp only [List.size_toArray];omega) ⟨.int xs.length,H,I.tok _,⟨_,by simp only [List.size_toArray];rw [hlen]⟩,q⟩
  ·subst e'
   obtain ⟨its,r',pl,hz⟩:=I.tuple hx
   have hlen:=r'.length
   exact len_tuple pl (by simp only [List.size_toArray];omega) ⟨.int xs.length,H,I.tok _,⟨_,by simp only [List.size_toArray];rw [hlen]⟩,q⟩
 | _=>exact (show False from e).elim
end
structure ObjM (h:Heap) (x dx C:Addr) (mA:Str->Option Value):Prop where
 obj:h.get? x=some (instObj C dx)
 ns:h.Ns1 dx mA
 ne:dx≠x
theorem Be {h:Heap} {dx:Addr} {mA:Str->Option Value} (n:h.Ns1 dx mA):∃ od,h.get? dx=some od/\∀ name,lookIn name od=some (mA name):=by
 obtain ⟨o,es,ep,ho,hd,hk,_,hm⟩:=n
 refine ⟨o,ho,fun name=>?_⟩
 have e:=hm name
 unfold nsFind findBy at e
 rw [← Array.find?_toList] at e
 unfold lookIn
 rw [hd]
 dsimp only
 split
 ·rename_i y q
  rw [q] at e
  exact congrArg some e
 ·rename_i q
  rw [q] at e
  have a:es.toList.any (·.refKey)=false:=by
   rw [List.any_eq_false]
   intro y hy
   obtain ⟨z,t,hkey⟩:=hk y (Array.mem_toList_iff.mp hy)
   simp [DictEntry.refKey,hkey]
  have a':¬ es.toList.any (·.refKey)=true:=by rw [a];exact Bool.false_ne_true
  rw [if_neg a']
  exact congrArg some e
theorem ObjM.look {h:Heap} {x dx C:Addr} {mA:Str->Option Value} (I:ObjM h x dx C mA):∃ od,InstAt h x (instObj C dx) C (some od)/\∀ name,lookIn name od=some (mA name):=
 let ⟨od,ho,hl⟩:=Be I.ns
 ⟨od,⟨I.obj,rfl,rfl,ho⟩,hl⟩
section
variable {prog:Program} {w:World} {A:Around} {E:Value->Shared->Prop} {s:Shared} {K:Frag} {x dx C f:Addr} {mA:Str->Option Value} {name:Str} {v:Value}
theorem XS {expr:Bool} {Q:Value->Shared->Prop} (X:K.In s.heap) (I:ObjM s.heap x dx C mA) (hg:plainGet K C name=true) (hh:hasDictIn K C=true)
  (ha:findIn K (.ref C) name=some none) (hv:mA name=some v) (hv':handedIn v=true) (h:Q v { s with toks:=s.toks+1 }):
  wpAny (model prog w) A (getAttr (.ref x) name expr) Q E s:=by
 obtain ⟨od,J,hl⟩:=I.look
 exact PySem.W.get_value X J (plainGet_of hg).1 (findObj_own hh ha rfl (by rw [hl,hv])) hv' h
theorem JS {pl:Sem Bool} {Q:Value×List Value->Shared->Prop} (X:K.In s.heap) (I:ObjM s.heap x dx C mA) (hg:plainGet K C name=true)
  (hf:findIn K (.ref C) name=some (some (.ref f))) (ht:isFn K (.ref f)=true) (hv:mA name=none) (h:Q (.ref f,[.ref x]) s):
  wpAny (model prog w) A (getMethod (.ref x) name pl) Q E s:=by
 obtain ⟨od,J,hl⟩:=I.look
 exact PySem.W.method_fn X J (plainGet_of hg).1 (plainGet_of hg).2 hf (beq_iff_eq.mp ht) (by show (lookIn name od).map (·.isSome)=some false;rw [hl,hv];rfl) h
theorem VR {ns:List Str} {Q:Unit->Shared->Prop} (X:K.In s.heap) (I:ObjM s.heap x dx C mA)
  (hs:findIn K (.ref C) "__setattr__"=some (some (.builtin "object.__setattr__"))) (hp:plainOver K C=true) (ht:takerIn K C name=some none) (hh:hasDictIn K C=true)
  (hw:PySem.Within mA ns) (hsz:ns.length<=sizeLine)
  (h:∀ h',ObjM h' x dx C (fun y=>if y=name then some v else mA y)->Heap.SameBut dx s.heap h'->Q () { s with heap:=h',toks:=s.toks+2 }):
  wpAny (model prog w) A (setAttr (.ref x) name v) Q E s:=by
 obtain ⟨od,J,hl⟩:=I.look
 refine set_plain X J hs (PySem.W.osa_open (s:={ s with toks:=s.toks+1 }) (r:=none) X J hp ht fun b=>?_)
 obtain ⟨cd,hc,hd'⟩:=any_some hh
 have hx:s.heap.get? x=some ⟨.ref C,some dx,.plain,#[]⟩:=I.obj
 refine wpAny_bind (wpAny_pure (wpAny_bind (wpAny_bind (wpAny_loadPart hx (wpAny_bind (Looks.here (s:={ s with toks:=s.toks+1 }) (looks_clsIn X hc) ?_))))))
 rw [hd']
 refine wpAny_pure (a:=some dx) (wpAny_bind (wpAny_pure (wpAny_bind ?_)))
 refine wpAny_nsSet1 (s:={ s with toks:=s.toks+1 }) I.ns fun h' hn2 hs2=>?_
 obtain ⟨oD,esD,epD,hoD,hdD,hcD⟩:=hn2.count (PySem.Within.cons name v hw)
 refine wpAny_bind (wpAny_lookBehind hoD (by rw [hdD];exact pastItsLine_dict (Nat.le_trans hcD (by rw [List.length_cons];omega))) ?_)
 exact wpAny_pure (h _ ⟨(hs2.2 _ (Ne.symm I.ne)).trans I.obj,hn2,I.ne⟩ hs2)
theorem JD {R:Result->Shared->Prop} {vs:List Value} {kw:List (Str×Value)} (X:K.In s.heap) (hm:makesIn K C=true)
  (hi:findIn K (.ref C) "__init__"=some (some (.ref f))) (hf:typeIn K (.ref f)=some (.type "function"))
  (h:codeAny (model prog w) (A.under (.builtin "type.__call__" ⟨.ref C::vs,kw⟩)) (.call (.ref f) ⟨.ref (s.heap.objs.size+1)::vs,kw⟩) (InitBack (s.heap.objs.size+1) R)
   { s with heap:=(s.heap.push emptyDict).push (instObj C s.heap.objs.size) }):
  codeAny (model prog w) A (.call (.ref C) ⟨vs,kw⟩) R s:=by
 obtain ⟨hh,g,d,t,os⟩:=s
 exact PySem.W.make_core (PySem.W.makes_of X hm) (looks_findIn X hi) (fun self=>bind_fn X self hf) (.inl rfl) h
end
def wy (f:Str) (v:V):List (Str×V)->List (Str×V)
 | []=>[(f,v)]
 | (g,x)::r=>if g=f then (g,v)::r else (g,x)::wy f v r
theorem Vn (f g:Str) (v:V):∀ fs:List (Str×V),(wy f v fs).lookup g=if g=f then some v else fs.lookup g
 | []=>by
  show List.lookup g [(f,v)]=_
  by_cases h:g=f
  ·have hb:(g == f)=true:=beq_iff_eq.mpr h
   simp only [List.lookup,hb,if_pos h]
  ·have hb:(g == f)=false:=beq_eq_false_iff_ne.mpr h
   simp only [List.lookup,hb,if_neg h]
 | (k,x)::r=>by
  have ih:=Vn f g v r
  rw [show wy f v ((k,x)::r)=(if k=f then (k,v)::r else (k,x)::wy f v r) from rfl]
  by_cases hk:k=f
  ·rw [if_pos hk]
   by_cases h:g=k
   ·have hb:(g == k)=true:=beq_iff_eq.mpr h
    simp only [List.lookup,hb,if_pos (h.trans hk)]
   ·have hb:(g == k)=false:=beq_eq_false_iff_ne.mpr h
    simp only [List.lookup,hb,if_neg (fun e:g=f=>h (e.trans hk.symm))]
  ·rw [if_neg hk]
   by_cases h:g=k
   ·have hb:(g == k)=true:=beq_iff_eq.mpr h
    simp only [List.lookup,hb,if_neg (fun e:g=f=>hk (h.symm.trans e))]
   ·have hb:(g == k)=false:=beq_eq_false_iff_ne.mpr h
    simp only [List.lookup,hb]
    exact ih
theorem Yx (f:Str) (v:V):∀ fs:List (Str×V),f∈(wy f v fs).map (·.1)/\∀ g,g∈fs.map (·.1)->g∈(wy f v fs).map (·.1)
 | []=>⟨by simp [wy],fun g h=>by simp at h⟩
 | (k,x)::r=>by
  obtain ⟨i1,i2⟩:=Yx f v r
  rw [show wy f v ((k,x)::r)=(if k=f then (k,v)::r else (k,x)::wy f v r) from rfl]
  by_cases hk:k=f
  ·rw [if_pos hk]
   subst hk
   exact ⟨by simp,fun g h=>by simpa using h⟩
  ·rw [if_neg hk]
   refine ⟨?_,fun g h=>?_⟩
   ·rw [List.map_cons]
    exact List.mem_cons_of_mem _ i1
   ·rw [List.map_cons] at h ⊢
    rcases List.mem_cons.mp h with e | e
    ·exact List.mem_cons.mpr (.inl e)
    ·exact List.mem_cons_of_mem _ (i2 g e)
theorem Vo (f:Str) (v:V):∀ fs:List (Str×V),(wy f v fs).length<=fs.length+1
 | []=>by simp [wy]
 | (k,x)::r=>by
  have ih:=Vo f v r
  rw [show wy f v ((k,x)::r)=(if k=f then (k,v)::r else (k,x)::wy f v r) from rfl]
  by_cases hk:k=f
  ·rw [if_pos hk,List.length_cons,List.length_cons];omega
  ·rw [if_neg hk,List.length_cons,List.length_cons];omega
theorem gk.some_of {v:V} {o:Option Value} (r:gk (some v) o):∃ u,o=some u/\Y8 v u:=by
 cases o with
 | none=>exact (show False from r).elim
 | some u=>exact ⟨u,rfl,r⟩
theorem gk.none_of {o:Option Value} (r:gk none o):o=none:=by
 cases o with
 | none=>rfl
 | some u=>exact (show False from r).elim
theorem Bh {v:V} {u:Value} (r:Y8 v u):handedIn u=true:=by
 cases v with
 | non=>cases (show u=Value.none from r);rfl
 | bl b=>cases (show u=Value.bool b from r);rfl
 | int i=>obtain ⟨t,e⟩:=(show ∃ t,u=Value.int i t from r);cases e;rfl
 | str x=>obtain ⟨t,e⟩:=(show ∃ t,u=Value.str x t from r);cases e;rfl
 | byt b=>obtain ⟨t,e⟩:=(show ∃ t,u=Value.bytes b t from r);cases e;rfl
 | flt b=>obtain ⟨t,e⟩:=(show ∃ t,u=Value.float b t from r);cases e;rfl
 | ref a=>cases (show u=Value.ref a from r);rfl
 | ty n=>cases (show u=Value.type n from r);rfl
section
variable {P:Program} {w:World} {H H':Hp} {h h':Heap} {a C dx:Addr} {fs fs':List (Str×V)}
theorem Wr (hok:HOk P w H h) (e:H a=some (.ins C dx fs)):∃ mA,ObjM h a dx C mA/\(∀ f,gk (fs.lookup f) (mA f))/\PySem.Within mA (fs.map (·.1))/\fs.length<=1000/\H dx=some (.own a):=by
 obtain ⟨d,z,ne,ob,mA,n,r,q⟩:=(show X4 P w H h a (.ins C dx fs) from hok a _ e)
 exact ⟨mA,⟨ob,n,ne⟩,r,q,z,d⟩
end
structure Cls (K:Frag) (C:Addr):Prop where
 pg:plainGet K C Str.empty=true
 hd:hasDictIn K C=true
 po:plainOver K C=true
 sa:findIn K (.ref C) "__setattr__"=some (some (.builtin "object.__setattr__"))
theorem Cls.get {K:Frag} {C:Addr} (c:Cls K C) (f:Str):plainGet K C f=true:=c.pg
def zj (K:Frag) (C:Addr) (f:Str):Prop:=findIn K (.ref C) f=some none
theorem zj.taker {K:Frag} {C:Addr} {f:Str} (n:zj K C f):takerIn K C f=some none:=by
 unfold takerIn
 rw [show findIn K (.ref C) f=some none from n]
 rfl
structure Meth (K:Frag) (C:Addr) (m:Str) (f:Addr):Prop where
 at_:findIn K (.ref C) m=some (some (.ref f))
 fn:isFn K (.ref f)=true
 kp:keepIn K (.ref f)=true
section
variable {X:Cx} {pins:List (Addr×Obj)} {σ:St} {H:Hp} {s:Shared} {a C dx:Addr} {fs:List (Str×V)} {f:Str} {v:V} {A:Around} {E:Value->Shared->Prop}
theorem Ul {b:Bool} {Q:Value->Shared->Prop} (I:Inv X pins σ H s) (e:H a=some (.ins C dx fs)) (c:Cls X.K C) (n:zj X.K C f) (l:fs.lookup f=some v)
  (h:∀ u s',Inv X pins σ H s'->Y8 v u->Q u s'):wpAny (model X.prog X.w) A (getAttr (.ref a) f b) Q E s:=by
 obtain ⟨mA,O,r,_,_,_⟩:=Wr I.hok e
 obtain ⟨u,hu,ru⟩:=gk.some_of (v:=v) (o:=mA f) (by rw [← l];exact r f)
 exact XS I.kIn O (c.get f) c.hd n hu (Bh ru) (h u _ (I.tok _) ru)
theorem Zh {m:Str} {g:Addr} {pl:Sem Bool} {Q:Value×List Value->Shared->Prop} (I:Inv X pins σ H s) (e:H a=some (.ins C dx fs)) (c:Cls X.K C) (k:Meth X.K C m g) (l:fs.lookup m=none)
  (h:Q (.ref g,[.ref a]) s):wpAny (model X.prog X.w) A (getMethod (.ref a) m pl) Q E s:=by
 obtain ⟨mA,O,r,_,_,_⟩:=Wr I.hok e
 have hn:mA m=none:=gk.none_of (by rw [← l];exact r m)
 exact JS I.kIn O (c.get m) k.at_ k.fn hn h
theorem Xh {y:V} {u:Value} {Q:Unit->Shared->Prop} (I:Inv X pins σ H s) (e:H a=some (.ins C dx fs)) (c:Cls X.K C) (n:zj X.K C f) (hl:fs.length < 1000) (ry:Y8 y u)
  (h:∀ s',Inv X pins σ (upd H a (.ins C dx (wy f y fs))) s'->Q () s'):wpAny (model X.prog X.w) A (setAttr (.ref a) f u) Q E s:=by
 obtain ⟨mA,O,r,wi,_,ho⟩:=Wr I.hok e
 have hz:(fs.map (·.1)).length<=sizeLine:=by rw [List.length_map,sizeLine_eq];omega
 refine VR I.kIn O c.sa c.po n.taker c.hd wi hz fun h' O' sb=>h _ ?_
 have hd:∃ o,h'.get? dx=some o:=let ⟨o,_,_,e',_⟩:=O'.ns;⟨o,e'⟩
 refine I.write (x:=a) (e:=dx) (by rw [e];exact True.intro) (.inr ho) (fun b q hb z=>(sb.2 b hb).trans z) hd ?_
 refine ⟨by rw [Z2 O.ne];exact ho,?_,O.ne,O'.obj,_,O'.ns,fun g=>?_,fun g hg=>?_⟩
 ·have:=Vo f y fs;omega
 ·show gk ((wy f y fs).lookup g) (if g=f then some u else mA g)
  rw [Vn]
  by_cases q:g=f
  ·rw [if_pos q,if_pos q];exact ry
  ·rw [if_neg q,if_neg q];exact r g
 ·by_cases q:g=f
  ·rw [q];exact (Yx f y fs).1
  ·refine (Yx f y fs).2 g (wi g fun z=>hg ?_)
   show (if g=f then some u else mA g)=none
   rw [if_neg q];exact z
theorem Inv.made (I:Inv X pins σ H s):Inv X pins σ (upd (upd H s.heap.objs.size (.own (s.heap.objs.size+1))) (s.heap.objs.size+1) (.ins C s.heap.objs.size []))
  { s with heap:=(s.heap.push emptyDict).push (instObj C s.heap.objs.size) }:=by
 have e1:(s.heap.push emptyDict).get? s.heap.objs.size=some emptyDict:=Heap.get?_push_size s.heap rfl
 have e2:((s.heap.push emptyDict).push (instObj C s.heap.objs.size)).get? (s.heap.objs.size+1)=some (instObj C s.heap.objs.size):=by
  have:=Heap.get?_push_size (s.heap.push emptyDict) (o:=instObj C s.heap.objs.size) rfl
  rwa [Heap.size_push] at this
 have e3:(s.heap.push emptyDict).Ns s.heap.objs.size (fun _=>none):=⟨emptyDict,#[],_,e1,rfl,(fun e he=>absurd he (by simp)),fun _=>rfl⟩
 have I1:=I.laid (a:=s.heap.objs.size) (o:=.own (s.heap.objs.size+1)) (h':=s.heap.push emptyDict) (t':=s.toks) (fun b u q=>Heap.get?_push_of_some _ q) (Nat.le_refl _) ⟨_,e1⟩
 refine I1.laid (a:=s.heap.objs.size+1) (o:=.ins C s.heap.objs.size []) (t':=s.toks) (fun b u q=>Heap.get?_push_of_some _ q) (Nat.le_of_eq (Heap.size_push _ _)) ?_
 have ne:s.heap.objs.size≠s.heap.objs.size+1:=Nat.ne_of_lt (Nat.lt_succ_self _)
 refine ⟨by rw [Z2 ne,Y5],Nat.zero_le _,ne,e2,fun _=>none,(Heap.Ns1.of_empty e3).at fun o q=>Heap.get?_push_of_some _ q,fun _=>True.intro,fun y hy=>absurd rfl hy⟩
theorem bZ {prog:Program} {w:World} {env:Env} {e:Expr} {f:Str} {pos:Pos} {s:Shared} {Q:Value->Shared->Prop} (hb:attributeBase e f env (eval e env)=eval e env)
  (h:wpAny (model prog w) A (eval e env) (fun o s₁=>wpAny (model prog w) A (getAttr o f true) Q E s₁) E s):wpAny (model prog w) A (eval (.Attribute e f pos) env) Q E s:=
 Attribute_any_ h (by rw [arm_eval_Attribute,hb])
end
def qfk (K:Frag) (ta:TE) (f:Str):TE:=fun σ H Q=>ta σ H fun x H1=>∃ a C dx fs v,x=.ref a/\H1 a=some (.ins C dx fs)/\Cls K C/\zj K C f/\fs.lookup f=some v/\Q v H1
def qfq (K:Frag) (ta tv:TE) (f:Str):TS:=fun D σ H=>tv σ H fun y H1=>ta σ H1 fun x H2=>∃ a C dx fs,x=.ref a/\H2 a=some (.ins C dx fs)/\Cls K C/\zj K C f/\fs.length < 1000/\
 D.nx σ (upd H2 a (.ins C dx (wy f y fs)))
def qax (X:Cx) (op:Operator) (rd:V->V->Hp->VK->Prop):Prop:=
 ∀ (pins:List (Addr×Obj)) (s:Shared) (σ:St) (H:Hp) (x y:V) (u v:Value) (Q:VK),Inv X pins σ H s->Y8 x u->Y8 y v->rd x y H Q->wpAny (model X.prog X.w) X.A (inplaceOp op u v) (EP X pins σ Q) X.xe s
def VW (K:Frag) (ta tv:TE) (rd:V->V->Hp->VK->Prop) (f:Str):TS:=fun D σ H=>ta σ H fun x H1=>∃ a C dx fs v,x=.ref a/\H1 a=some (.ins C dx fs)/\Cls K C/\zj K C f/\fs.lookup f=some v/\
 tv σ H1 fun y H2=>rd v y H2 fun z H3=>∃ dx' fs',H3 a=some (.ins C dx' fs')/\fs'.length < 1000/\D.nx σ (upd H3 a (.ins C dx' (wy f z fs')))
section
variable {X:Cx} {o e value:Expr} {f:Str} {pos pos' tpos:Pos} {ta tv:TE}
theorem qcg (he:PE X e ta) (hb:attributeBase e f X.env (eval e X.env)=eval e X.env):PE X (.Attribute e f pos) (qfk X.K ta f):=by
 intro pins s σ H Q I h
 refine bZ hb (thn (he pins s σ H _ I h) fun u s1 ⟨x,H1,I1,rx,a,C,dx,fs,v,ex,ea,c,n,l,q⟩=>?_)
 subst ex
 obtain rfl:u=Value.ref a:=rx
 exact Ul I1 ea c n l fun u' s2 I2 ru=>⟨v,H1,I2,ru,q⟩
theorem qb7 (ha:PE X o ta) (hv:PE X value tv) (hs:swapsWith value (some (.Attribute o f pos')) pos.line X.env=pure false):PS X (.Assign [.Attribute o f pos'] value pos) (qfq X.K ta tv f):=by
 intro pins s σ H D I h
 refine plainObj_wpAny_Assign_Attribute (thn (hv pins s σ H _ I h) fun u s1 ⟨y,H1,I1,ry,q⟩=>thn (ha pins s1 σ H1 _ I1 q) fun ov s2 ⟨x,H2,I2,rx,a,C,dx,fs,ex,ea,c,n,l,q2⟩=>?_) hs
 subst ex
 obtain rfl:ov=Value.ref a:=rx
 exact Xh I2 ea c n l ry fun s3 I3=>⟨σ,_,I3,q2⟩
theorem mB {op:Operator} {rd:V->V->Hp->VK->Prop} (ha:PE X o ta) (hv:PE X value tv) (hop:qax X op rd):PS X (.AugAssign (.Attribute o f tpos) op value pos) (VW X.K ta tv rd f):=by
 intro pins s σ H D I h
 refine wpAny_AugAssign_AttributeAny (thn (ha pins s σ H _ I h) fun ov s1 ⟨x,H1,I1,rx,a,C,dx,fs,v,ex,ea,c,n,l,q⟩=>?_)
 subst ex
 obtain rfl:ov=Value.ref a:=rx
 refine Ul I1 ea c n l fun u s2 I2 ru=>thn (hv pins s2 σ H1 _ I2 q) fun w3 s3 ⟨y,H2,I3,ry,q3⟩=>thn (hop pins s3 σ H2 v y u w3 _ I3 ru ry q3) fun w4 s4 ⟨z,H3,I4,rz,dx',fs',ea',l',q4⟩=>?_
 exact Xh I4 ea' c n l' rz fun s5 I5=>⟨σ,_,I5,q4⟩
def qfw:V->V->Hp->VK->Prop:=fun x y H Q=>∃ i j,x=.int i/\y=.int j/\Q (.int (i+j)) H
theorem qc4:qax X .Add qfw:=by
 rintro pins s σ H x y u v Q I rx ry ⟨i,j,rfl,rfl,q⟩
 obtain ⟨t,rfl⟩:=(show ∃ t,u=Value.int i t from rx)
 obtain ⟨t',rfl⟩:=(show ∃ t',v=Value.int j t' from ry)
 exact PyProof.Rows.iadd_int ⟨.int (i+j),H,I.tok _,⟨_,rfl⟩,q⟩
end
section
variable {X:Cx} {pins:List (Addr×Obj)} {σ:St} {H:Hp} {s:Shared} {A:Around} {E:Value->Shared->Prop} {Q:Value->Shared->Prop} {c:Value} {b:Bool}
inductive TyOf (K:Frag) (H:Hp):V->Value->Prop where
 | non:TyOf K H .non (.type "NoneType")
 | bl (x:Bool):TyOf K H (.bl x) (.type "bool")
 | int (i:Int):TyOf K H (.int i) (.type "int")
 | str (x:Str):TyOf K H (.str x) (.type "str")
 | flt (x:UInt64):TyOf K H (.flt x) (.type "float")
 | lst {a:Addr} {xs:List V} (e:H a=some (.lst xs)):TyOf K H (.ref a) (.type "list")
 | frz {a:Addr} {o:Obj} {xs:List V} (e:H a=some (.frz o (.lst xs))):TyOf K H (.ref a) (.type "list")
 | tup {a:Addr} {xs:List V} (e:H a=some (.tup xs)):TyOf K H (.ref a) (.type "tuple")
 | dK {a:Addr} {kvs:List (Key×V)} (e:H a=some (.dK kvs)):TyOf K H (.ref a) (.type "dict")
 | dT {a:Addr} {kvs:List (List Key×V)} (e:H a=some (.dT kvs)):TyOf K H (.ref a) (.type "dict")
 | ins {a C dx:Addr} {fs:List (Str×V)} (e:H a=some (.ins C dx fs)) (cl:Cls K C) (ha:findIn K (.ref C) "__class__"=some (some (.builtin "object.__class__")))
   (hn:specialIn K (.builtin "object.__class__") "__get__"=some (some (.builtin "getset_descriptor.__get__"))) (htk:takesIn K (.builtin "object.__class__")=some true)
   (hm:mroIn K C (.type "object")=some true):TyOf K H (.ref a) (.ref C)
theorem mU {x:V} {u t:Value} (I:Inv X pins σ H s) (rx:Y8 x u) (ty:TyOf X.K H x t) (e:kitOne X.K t c=some b) (h:∀ tk,Q (.bool b) { s with toks:=tk }):
  wpAny (model X.prog X.w) A (call (.builtin "isinstance") [u,c]) Q E s:=by
 cases ty with
 | non=>cases (show u=Value.none from rx);exact kia_one PySem.W.kitx_none I.kIn True.intro e (fun z=>nomatch z) h
 | bl y=>cases (show u=Value.bool y from rx);exact kia_one PySem.W.kitx_bool I.kIn True.intro e (fun z=>nomatch z) h
 | int i=>obtain ⟨t,q⟩:=(show ∃ t,u=Value.int i t from rx);cases q;exact kia_one PySem.W.kitx_int I.kIn True.intro e (fun z=>nomatch z) h
 | str y=>obtain ⟨t,q⟩:=(show ∃ t,u=Value.str y t from rx);cases q;exact kia_one PySem.W.kitx_str I.kIn True.intro e (fun z=>nomatch z) h
 | flt y=>obtain ⟨t,q⟩:=(show ∃ t,u=Value.float y t from rx);cases q;exact kia_one PySem.W.kitx_float I.kIn True.intro e (fun z=>nomatch z) h
 | @lst a xs ea=>
  cases (show u=Value.ref a from rx)
  obtain ⟨_,_,n,_,h1⟩:=(show X4 X.prog X.w H s.heap a (.lst xs) from I.hok a _ ea)
  exact kia_one kitx_list I.kIn ⟨_,h1,rfl⟩ e (fun z=>nomatch z) h
 | @frz a ob xs ea=>
  cases (show u=Value.ref a from rx)
  obtain ⟨_,_,_,n,_,h1⟩:=(show X4 X.prog X.w H s.heap a (.frz ob (.lst xs)) from I.hok a _ ea)
  exact kia_one kitx_list I.kIn ⟨_,h1,rfl⟩ e (fun z=>nomatch z) h
 | @tup a xs ea=>
  cases (show u=Value.ref a from rx)
  obtain ⟨_,_,_,p⟩:=(show X4 X.prog X.w H s.heap a (.tup xs) from I.hok a _ ea)
  obtain ⟨o,h1,h2,_⟩:=p
  exact kia_one PySem.W.kitx_tuple I.kIn ⟨o,h1,h2⟩ e (fun z=>nomatch z) h
 | @dK a kvs ea=>
  cases (show u=Value.ref a from rx)
  obtain ⟨_,_,vs,_,p⟩:=(show X4 X.prog X.w H s.heap a (.dK kvs) from I.hok a _ ea)
  obtain ⟨o,es,ep,h1,h2,_⟩:=p
  exact kia_one kitx_dict I.kIn ⟨o,h1,h2.1⟩ e (fun z=>nomatch z) h
 | @dT a kvs ea=>
  cases (show u=Value.ref a from rx)
  obtain ⟨_,_,xs,_,o,es,ep,h1,h2,_⟩:=(show X4 X.prog X.w H s.heap a (.dT kvs) from I.hok a _ ea)
  exact kia_one kitx_dict I.kIn ⟨o,h1,h2.1⟩ e (fun z=>nomatch z) h
 | @ins a C dx fs ea cl ha hn htk hm=>
  cases (show u=Value.ref a from rx)
  obtain ⟨mA,O,_⟩:=Wr I.hok ea
  obtain ⟨od,J,_⟩:=O.look
  exact kia_one (PySem.W.kitx_own (cl.get _) cl.hd ha hn htk hm) I.kIn J e (fun z=>nomatch z) h
end
structure Room (k:Nat) (A:Around):Prop where
 hd:A.handled=none
 dp:A.depth+3 * k+5 < recursionLimit
 un:A.units+16 * k+200 < cLine
theorem Room.mono {j k:Nat} {A:Around} (r:Room k A) (h:j<=k):Room j A:=⟨r.hd,by have:=r.dp;omega,by have:=r.un;omega⟩
theorem Room.deeper {k:Nat} {A:Around} (r:Room (k+1) A) (env:Env):Room k (A.deeper env):=
 ⟨r.hd,by have:=r.dp;show A.depth+1+3 * k+5 < _;omega,by have:=r.un;show A.units+3+16 * k+200 < _;omega⟩
theorem wX {A:Around} {C:Addr} {us:List Value} {kw:List (Str×Value)}:(A.under (.builtin "type.__call__" ⟨.ref C::us,kw⟩)).depth=A.depth+1:=by
 first | rfl | simp [Around.under,Code.weight,Code.isCreation,Code.isGuard,Code.isCaller,Code.frames,Code.isFrame,guardIds]
theorem wW {A:Around} {C:Addr} {us:List Value} {kw:List (Str×Value)}:(A.under (.builtin "type.__call__" ⟨.ref C::us,kw⟩)).units=A.units+1:=by
 first | rfl | simp [Around.under,Code.cUnits,Code.frames,Code.isFrame]
theorem Room.make {k:Nat} {A:Around} (r:Room (k+1) A) (C:Addr) (us:List Value) (kw:List (Str×Value)):Room k (A.under (.builtin "type.__call__" ⟨.ref C::us,kw⟩)):=
 ⟨r.hd,by have:=r.dp;rw [wX];omega,by have:=r.un;rw [wW];omega⟩
theorem Room.depth {k:Nat} {A:Around} (r:Room k A):A.depth < recursionLimit:=by have:=r.dp;omega
theorem Room.units {k:Nat} {A:Around} (r:Room k A):A.units+64 < cLine:=by have:=r.un;omega
def QH:TA:=fun _ H Q=>Q [] H
def xV (ta:TE) (tr:TA):TA:=fun σ H Q=>ta σ H fun x H1=>tr σ H1 fun xs H2=>Q (x::xs) H2
section
variable {X:Cx} {e:Expr} {es:List Expr} {te:TE} {t:TA} {pos:Pos}
theorem qz:PA X [] QH:=fun _ _ _ _ H Q I h=>Calls.spliced_nil ⟨[],H,I,.nil,h⟩
theorem K1 (ha:PE X e te) (hr:PA X es t) (hs:starEach (e::es) X.env=(false,eval e X.env)::starEach es X.env:=by rfl):PA X (e::es) (xV te t):=by
 intro pos pins s σ H Q I h
 rw [hs]
 show wpAny _ _ (spliced ((false,eval e X.env)::backTo pos (starEach es X.env))) _ _ s
 refine Calls.spliced_cons (thn (ha pins s σ H _ I h) fun u s1 ⟨x,H1,I1,r1,q1⟩=>?_)
 exact thn (hr pos pins s1 σ H1 _ I1 q1) fun us s2 ⟨xs,H2,I2,r2,q2⟩=>⟨x::xs,H2,I2,.cons r1 r2,q2⟩
def qfb (t:TA):TE:=fun σ H Q=>t σ H fun xs H1=>xs.length<=sizeLine/\∀ p,H1 p=none->Q (.ref p) (upd H1 p (.tup xs))
def qff (t:TA):TE:=fun σ H Q=>t σ H fun xs H1=>xs.length<=sizeLine/\∀ p,H1 p=none->Q (.ref p) (upd H1 p (.lst xs))
theorem qcc {x1} (h:PA X es t):PE X (.Tuple es x1 pos) (qfb t):=by
 intro pins s σ H Q I hq
 refine wpAny_Tuple_spliced (thn (h pos pins s σ H _ I hq) fun us s1 ⟨xs,H1,I1,r,z,q⟩=>⟨by rw [← r.length];exact z,?_⟩)
 have hf:H1 s1.heap.objs.size=none:=I1.hok.fresh (Nat.le_refl _)
 refine ⟨.ref s1.heap.objs.size,upd H1 s1.heap.objs.size (.tup xs),I1.laid (t':=s1.toks) (fun b u e=>Heap.get?_push_of_some _ e) (Nat.le_refl _) ?_,rfl,q _ hf⟩
 exact ⟨z,us,r,⟨_,Heap.get?_push_size _ rfl,rfl,_,rfl⟩⟩
theorem ZM (h:PA X es t):PE X (.List es pos) (qff t):=by
 intro pins s σ H Q I hq
 refine wpAny_List_spliced (thn (h pos pins s σ H _ I hq) fun us s1 ⟨xs,H1,I1,r,z,q⟩=>⟨by rw [← r.length];exact z,?_⟩)
 have hf:H1 s1.heap.objs.size=none:=I1.hok.fresh (Nat.le_refl _)
 refine ⟨.ref s1.heap.objs.size,upd H1 s1.heap.objs.size (.lst xs),I1.laid (t':=s1.toks) (fun b u e=>Heap.get?_push_of_some _ e) (Nat.le_refl _) ?_,rfl,q _ hf⟩
 exact ⟨z,us,0,r,Heap.get?_push_size _ rfl⟩
end
abbrev Sp:=List V->Hp->VK->XK->Prop
abbrev CXT:=List Env->Hp->Shared->XK->Value->Shared->Prop
structure Env0 (P:Program) (w:World) (K:Frag) (mg:Str->Option Value) (base:Heap) (A:Around) (outer:List Env) (s:Shared) (H:Hp):Prop where
 frames:A.frames=some outer
 mod:Mod K mg base
 bs:∀ b o,base.get? b=some o->s.heap.get? b=some o/\H b=none
 bsz:base.objs.size<=s.heap.objs.size
 funs:s.heap.FunFrames base outer
 frf:∀ b∈frs outer,H b=none
 hok:HOk P w H s.heap
 bare:AllBare s.gens
def CE (outer:List Env) (P:Program) (w:World) (H:Hp) (s:Shared) (Q:VK) (u:Value) (s':Shared):Prop:=
 ∃ v H',s'.os=s.os/\AllBare s'.gens/\Un (frs outer) [] H H' s.heap s'.heap/\HOk P w H' s'.heap/\Y8 v u/\Q v H'
def CR (CX:CXT) (outer:List Env) (P:Program) (w:World) (H:Hp) (s:Shared) (Q:VK) (E:XK) (r:Result) (s':Shared):Prop:=
 match r with
 | .ok (.ret u)=>CE outer P w H s Q u s'
 | .ok _=>False
 | .error e=>CX outer H s E e s'
structure FnOk (P:Program) (w:World) (K:Frag) (mg:Str->Option Value) (base:Heap) (CX:CXT) (k:Nat) (f:Addr) (fd:FuncData) (ps:List Str) (sp:Sp):Prop where
 len:∀ vs H Q E,sp vs H Q E->vs.length=ps.length
 run:∀ (A:Around) (outer:List Env) (s:Shared) (H:Hp) (args:Args) (us:List Value) (vs:List V) (Q:VK) (E:XK),Room k A->Env0 P w K mg base A outer s H->BindsTo s fd args (ps.zip us)->Y4 vs us->sp vs H Q E->
  codeAny (model P w) A (.call (.ref f) args) (CR CX outer P w H s Q E) s
theorem FnOk.mono {P:Program} {w:World} {K:Frag} {mg:Str->Option Value} {base:Heap} {CX:CXT} {j k:Nat} {f:Addr} {fd:FuncData} {ps:List Str} {sp:Sp} (F:FnOk P w K mg base CX j f fd ps sp) (h:j<=k):
  FnOk P w K mg base CX k f fd ps sp:=⟨F.len,fun A outer s H args us vs Q E hr=>F.run A outer s H args us vs Q E (hr.mono h)⟩
theorem FnOk.imp {P:Program} {w:World} {K:Frag} {mg:Str->Option Value} {base:Heap} {CX:CXT} {k:Nat} {f:Addr} {fd:FuncData} {ps:List Str} {sp sp':Sp} (F:FnOk P w K mg base CX k f fd ps sp)
  (h:∀ vs H Q E,sp' vs H Q E->sp vs H Q E):FnOk P w K mg base CX k f fd ps sp':=
 ⟨fun vs H Q E q=>F.len vs H Q E (h _ _ _ _ q),fun A outer s H args us vs Q E hr he hb hv hs=>F.run A outer s H args us vs Q E hr he hb hv (h _ _ _ _ hs)⟩
theorem Env0.make {P:Program} {w:World} {K:Frag} {mg:Str->Option Value} {base:Heap} {A:Around} {outer:List Env} {s:Shared} {H:Hp} (e:Env0 P w K mg base A outer s H) (C:Addr) (us:List Value) (kw:List (Str×Value)):
  Env0 P w K mg base (A.under (.builtin "type.__call__" ⟨.ref C::us,kw⟩)) outer s H:=⟨by first | exact e.frames | (simpa [Around.under,Code.envs,Code.isFrame,pushEnvs] using e.frames),e.mod,e.bs,e.bsz,e.funs,e.frf,e.hok,e.bare⟩
section
variable {X:Cx} {pins:List (Addr×Obj)} {σ:St} {H:Hp} {s s':Shared}
theorem Inv.env0 (I:Inv X pins σ H s):Env0 X.prog X.w X.K X.mg X.base X.A X.stack s H:=
 ⟨I.ok.frames,I.ok.mod,I.bs,Nat.le_trans I.ok.bsz I.sz,I.stack,I.stkFree,I.hok,I.bare⟩
theorem Inv.after {Q:VK} {u:Value} (I:Inv X pins σ H s) (h:CE X.stack X.prog X.w H s Q u s'):EP X pins σ Q u s':=by
 obtain ⟨v,H',os,bare,un,hok,r,q⟩:=h
 obtain ⟨hh,g,d,t,os'⟩:=s'
 obtain rfl:os'=s.os:=os
 exact ⟨v,H',I.call (h':=hh) (g':=g) (d':=d) (t':=t) (ch:=[]) un hok bare (fun b z=>absurd z (by simp)),r,q⟩
end
def qdy (sp:Sp) (dvs:List V) (E:XK) (t:TA):TE:=fun σ H Q=>t σ H fun vs H1=>sp (vs++dvs) H1 Q E
def qa1 (C:Addr) (m:Str) (sp:Sp) (dvs:List V) (E:XK) (ta:TE) (t:TA):TE:=fun σ H Q=>ta σ H fun x H1=>∃ a dx fs,x=.ref a/\H1 a=some (.ins C dx fs)/\fs.lookup m=none/\
 t σ H1 fun vs H2=>sp (x::(vs++dvs)) H2 Q E
def qa2 (C:Addr) (sp:Sp) (dvs:List V) (E:XK) (t:TA):TE:=fun σ H Q=>t σ H fun vs H1=>∀ x dx,H1 x=none->H1 dx=none->dx≠x->
 sp (.ref x::(vs++dvs)) (upd (upd H1 dx (.own x)) x (.ins C dx [])) (fun v H2=>v=.non/\Q (.ref x) H2) E
def Y6 (K:Frag) (fd:FuncData) (ps:List Str) (ds:List Value):Prop:=
 ∀ (s:Shared) (us:List Value),K.In s.heap->(us++ds).length=ps.length->BindsTo s fd ⟨us,[]⟩ (ps.zip (us++ds))
theorem Y6.all {K:Frag} {fd:FuncData} {ps:List Str} (h:∀ us:List Value,us.length=ps.length->bindArgs fd ⟨us,[]⟩=pure (ps.zip us)):Y6 K fd ps []:=fun s us _ hl=>by
 rw [List.append_nil] at hl ⊢
 exact .of_eq (h us hl)
def C0 (CX:CXT) (X:Cx) (E:XK):Prop:=∀ (pins:List (Addr×Obj)) (σ:St) (H:Hp) (s:Shared) (e:Value) (s':Shared),Inv X pins σ H s->CX X.stack H s E e s'->X.xe e s'
section
variable {X:Cx} {CX:CXT} {k:Nat} {f C:Addr} {fd:FuncData} {ps:List Str} {sp:Sp} {dvs:List V} {ds:List Value} {E:XK} {x m:Str} {p pos apos:Pos} {e o:Expr} {es:List Expr} {ta:TE} {t:TA}
theorem kP {pins:List (Addr×Obj)} {σ:St} {H:Hp} {s:Shared} {Q:VK} {us:List Value} {vs:List V} (F:FnOk X.prog X.w X.K X.mg X.base CX k f fd ps sp) (hr:Room k X.A) (hb:Y6 X.K fd ps ds) (hd:Y4 dvs ds) (hx:C0 CX X E)
  (I:Inv X pins σ H s) (r:Y4 vs us) (h:sp (vs++dvs) H Q E):wpAny (model X.prog X.w) X.A (call (.ref f) us) (EP X pins σ Q) X.xe s:=by
 have r2:Y4 (vs++dvs) (us++ds):=r.append hd
 have hl:(us++ds).length=ps.length:=by rw [← r2.length];exact F.len _ _ _ _ h
 refine wpAny_call (codeAny_mono (F.run X.A X.stack s H ⟨us,[]⟩ (us++ds) (vs++dvs) Q E hr I.env0 (hb s us I.kIn hl) r2 h) fun r s' hq=>?_)
 cases r with
 | error e=>exact hx pins σ H s e s' I hq
 | ok fl=>
  cases fl with
  | ret u=>exact I.after hq
  | next=>exact False.elim hq
  | brk=>exact False.elim hq
  | cont=>exact False.elim hq
theorem WQ (F:FnOk X.prog X.w X.K X.mg X.base CX k f fd ps sp) (hr:Room k X.A) (hg:Gl X x) (hm:X.mg x=some (.ref f)) (hk:keepIn X.K (.ref f)=true) (hb:Y6 X.K fd ps ds) (hd:Y4 dvs ds) (hx:C0 CX X E)
  (ha:PA X (e::es) t) (hdb:(x == ("__debug__":Str))=false:=by decide) (he:starEach (e::es) X.env=(false,eval e X.env)::starEach es X.env:=by rfl) (hpl:(backTo pos (starEach es X.env)).any (·.1)=false:=by rfl):
  PE X (.Call (.Name x p) (e::es) [] pos) (qdy sp dvs E t):=by
 intro pins s σ H Q I h
 refine wpAny_Call_Name_kw (uw I hg hm ?_ hdb)
 refine callWith_K (h₀:=X.base) I.ok.mod.kin hk (thn (ha pos pins s σ H _ I h) fun us s1 ⟨vs,H1,I1,r,q⟩=>⟨I1.kIn,?_⟩) he hpl
 exact kP F hr hb hd hx I1 r q
theorem WL {pl:Sem Bool} (he:PE X o ta) (c:Cls X.K C) (hm:Meth X.K C m f) (F:FnOk X.prog X.w X.K X.mg X.base CX k f fd ps sp) (hr:Room k X.A) (hb:Y6 X.K fd ps ds) (hd:Y4 dvs ds) (hx:C0 CX X E) (ha:PA X (e::es) t)
  (hst:starEach (e::es) X.env=(false,eval e X.env)::starEach es X.env:=by rfl) (hpl:(backTo pos (starEach es X.env)).any (·.1)=false:=by rfl)
  (ht:eval (.Call (.Attribute o m apos) (e::es) [] pos) X.env=(do
   let ov ← eval o X.env
   standAt apos.atName
   let (f,first) ← holding [ov] (getMethod ov m pl)
   callWith pos f first (backTo pos (starEach (e::es) X.env)) (backToKw pos (keywordEach [] X.env))):=by rfl):
  PE X (.Call (.Attribute o m apos) (e::es) [] pos) (qa1 C m sp dvs E ta t):=by
 intro pins s σ H Q I h
 refine methodCall_KW (pl:=pl) (thn (he pins s σ H _ I h) fun u s1 ⟨x,H1,I1,rx,a,dx,fs,ex,ea,l,q⟩=>?_) ht
 subst ex
 obtain rfl:u=Value.ref a:=rx
 refine Zh I1 ea c hm l ?_
 refine callWith_K (first:=[.ref a]) (h₀:=X.base) I.ok.mod.kin hm.kp (thn (ha pos pins s1 σ H1 _ I1 q) fun us s2 ⟨vs,H2,I2,r,q2⟩=>⟨I2.kIn,?_⟩) hst hpl
 exact kP (us:=.ref a::us) (vs:=.ref a::vs) F hr hb hd hx I2 (.cons rfl r) q2
theorem ZK {pl:Sem Bool} (he:PE X o ta) (c:Cls X.K C) (hm:Meth X.K C m f) (F:FnOk X.prog X.w X.K X.mg X.base CX k f fd ps sp) (hr:Room k X.A) (hb:Y6 X.K fd ps ds) (hd:Y4 dvs ds) (hx:C0 CX X E)
  (ht:eval (.Call (.Attribute o m apos) [] [] pos) X.env=(do
   let ov ← eval o X.env
   standAt apos.atName
   let (f,first) ← holding [ov] (getMethod ov m pl)
   callWith pos f first (backTo pos (starEach [] X.env)) (backToKw pos (keywordEach [] X.env))):=by rfl):
  PE X (.Call (.Attribute o m apos) [] [] pos) (qa1 C m sp dvs E ta QH):=by
 intro pins s σ H Q I h
 refine methodCall_KW (pl:=pl) (thn (he pins s σ H _ I h) fun u s1 ⟨x,H1,I1,rx,a,dx,fs,ex,ea,l,q⟩=>?_) ht
 subst ex
 obtain rfl:u=Value.ref a:=rx
 refine Zh I1 ea c hm l ?_
 exact callWith_K0 (first:=[.ref a]) I1.kIn hm.kp (kP (us:=[.ref a]) (vs:=[.ref a]) F hr hb hd hx I1 (.cons rfl .nil) q)
structure Mk (K:Frag) (C f:Addr):Prop where
 makes:makesIn K C=true
 init:findIn K (.ref C) "__init__"=some (some (.ref f))
 fn:isFn K (.ref f)=true
 kp:keepIn K (.ref C)=true
theorem jH {pins:List (Addr×Obj)} {σ:St} {H:Hp} {s:Shared} {Q:VK} {us:List Value} {vs:List V} (M:Mk X.K C f) (F:FnOk X.prog X.w X.K X.mg X.base CX k f fd ps sp) (hr:Room (k+1) X.A) (hb:Y6 X.K fd ps ds) (hd:Y4 dvs ds)
  (hx:C0 CX X E) (I:Inv X pins σ H s) (r:Y4 vs us)
  (h:∀ x dx,H x=none->H dx=none->dx≠x->sp (.ref x::(vs++dvs)) (upd (upd H dx (.own x)) x (.ins C dx [])) (fun v H2=>v=.non/\Q (.ref x) H2) E):
  wpAny (model X.prog X.w) X.A (call (.ref C) us) (EP X pins σ Q) X.xe s:=by
 have hq:=h (s.heap.objs.size+1) s.heap.objs.size (I.hok.fresh (Nat.le_succ _)) (I.hok.fresh (Nat.le_refl _)) (Nat.ne_of_lt (Nat.lt_succ_self _))
 have I2:=Inv.made (C:=C) I
 have r2:Y4 (V.ref (s.heap.objs.size+1)::(vs++dvs)) (Value.ref (s.heap.objs.size+1)::(us++ds)):=.cons rfl (r.append hd)
 have hl:(Value.ref (s.heap.objs.size+1)::us++ds).length=ps.length:=by
  have e:=r2.length
  rw [F.len _ _ _ _ hq] at e
  exact e.symm
 refine wpAny_call (JD (f:=f) I.kIn M.makes M.init (beq_iff_eq.mp M.fn) (codeAny_mono (F.run _ X.stack _ _ ⟨Value.ref (s.heap.objs.size+1)::us,[]⟩ (Value.ref (s.heap.objs.size+1)::(us++ds)) _ _ E (hr.make C us [])
  (I2.env0.make C us []) (hb _ (Value.ref (s.heap.objs.size+1)::us) I2.kIn hl) r2 hq) fun r s' hq'=>?_))
 cases r with
 | error e=>exact hx pins σ _ _ e s' I2 hq'
 | ok fl=>
  cases fl with
  | ret u=>
   obtain ⟨v,H',I3,rv,ev,q3⟩:=I2.after hq'
   subst ev
   exact ⟨rv,⟨V.ref (s.heap.objs.size+1),H',I3,rfl,q3⟩⟩
  | next=>exact False.elim hq'
  | brk=>exact False.elim hq'
  | cont=>exact False.elim hq'
theorem WM (M:Mk X.K C f) (F:FnOk X.prog X.w X.K X.mg X.base CX k f fd ps sp) (hr:Room (k+1) X.A) (hg:Gl X x) (hm:X.mg x=some (.ref C)) (hb:Y6 X.K fd ps ds) (hd:Y4 dvs ds) (hx:C0 CX X E)
  (ha:PA X (e::es) t) (hdb:(x == ("__debug__":Str))=false:=by decide) (he:starEach (e::es) X.env=(false,eval e X.env)::starEach es X.env:=by rfl) (hpl:(backTo pos (starEach es X.env)).any (·.1)=false:=by rfl):
  PE X (.Call (.Name x p) (e::es) [] pos) (qa2 C sp dvs E t):=by
 intro pins s σ H Q I h
 refine wpAny_Call_Name_kw (uw I hg hm ?_ hdb)
 refine callWith_K (h₀:=X.base) I.ok.mod.kin M.kp (thn (ha pos pins s σ H _ I h) fun us s1 ⟨vs,H1,I1,r,q⟩=>⟨I1.kIn,?_⟩) he hpl
 exact jH M F hr hb hd hx I1 r q
theorem ZL (M:Mk X.K C f) (F:FnOk X.prog X.w X.K X.mg X.base CX k f fd ps sp) (hr:Room (k+1) X.A) (hg:Gl X x) (hm:X.mg x=some (.ref C)) (hb:Y6 X.K fd ps ds) (hd:Y4 dvs ds) (hx:C0 CX X E)
  (hdb:(x == ("__debug__":Str))=false:=by decide):PE X (.Call (.Name x p) [] [] pos) (qa2 C sp dvs E QH):=by
 intro pins s σ H Q I h
 refine wpAny_Call_Name_kw (uw I hg hm ?_ hdb)
 exact callWith_K0 I.kIn M.kp (jH (us:=[]) M F hr hb hd hx I .nil h)
end
section
variable {X:Cx} {CX:CXT} {k:Nat} {f C:Addr} {fd:FuncData} {ps ks:List Str} {sp:Sp} {E:XK} {x m:Str} {p pos apos kpos:Pos} {e o:Expr} {es:List Expr} {kws:List Keyword} {te ta:TE} {t tk:TA} {nm:Option Str}
variable {g:List Value->List Value->List Value} {gV:List V->List V->List V}
end
structure FnScope (N P:List Str) (sc:Scope):Prop where
 kind:sc.kind=.function
 co:sc.isCoroutine=false
 gen:sc.isGenerator=false
 nd:N.Nodup
 pre:N.take P.length=P
 par:∀ x∈P,sc.names.lookup x=some .local\/sc.names.lookup x=some .cell
 nofree:∀ y∈sc.names,y.2≠.free
theorem qC {kindOf:Str->Option NameKind} {x:Str}:∀ {binds:List (Str×Value)} {m:Str->Option Value},(∀ v,(x,v)∉binds)->bindL kindOf binds m x=m x
 | [],_,_=>rfl
 | (n,v)::r,m,h=>by
  unfold bindL
  rw [qC fun w hw=>h w (List.mem_cons_of_mem _ hw)]
  split
  ·have:x≠n:=by rintro rfl;exact h v List.mem_cons_self
   simp [this]
  ·rfl
theorem qE {kindOf:Str->Option NameKind} {x:Str}:∀ {binds:List (Str×Value)} {m:Str->Option Value},(∀ v,(x,v)∉binds)->bindC kindOf binds m x=m x
 | [],_,_=>rfl
 | (n,v)::r,m,h=>by
  unfold bindC
  rw [qE fun w hw=>h w (List.mem_cons_of_mem _ hw)]
  split
  ·rfl
  ·have:x≠n:=by rintro rfl;exact h v List.mem_cons_self
   simp [this]
theorem qD {kindOf:Str->Option NameKind} {x:Str} {v:Value}:∀ {P:List Str} {vs:List Value} {i:Nat} {m:Str->Option Value},P.Nodup->P[i]?=some x->vs[i]?=some v->kindOf x=some .local->
  bindL kindOf (P.zip vs) m x=some v
 | [],_,_,_,_,h,_,_=>by simp at h
 | _::_,[],_,_,_,_,h,_=>by simp at h
 | p::P,w::vs,0,m,nd,h1,h2,hk=>by
  simp at h1 h2;subst h1;subst h2
  show bindL kindOf ((p,w)::P.zip vs) m p=_
  unfold bindL
  rw [qC fun v hv=>(List.nodup_cons.mp nd).1 (List.of_mem_zip hv).1,if_pos hk]
  simp
 | p::P,w::vs,i+1,m,nd,h1,h2,hk=>by
  show bindL kindOf ((p,w)::P.zip vs) m x=_
  unfold bindL
  exact qD (i:=i) (List.nodup_cons.mp nd).2 (by simpa using h1) (by simpa using h2) hk
theorem qF {kindOf:Str->Option NameKind} {x:Str} {v:Value}:∀ {P:List Str} {vs:List Value} {i:Nat} {m:Str->Option Value},P.Nodup->P[i]?=some x->vs[i]?=some v->kindOf x≠some .local->
  bindC kindOf (P.zip vs) m x=some v
 | [],_,_,_,_,h,_,_=>by simp at h
 | _::_,[],_,_,_,_,h,_=>by simp at h
 | p::P,w::vs,0,m,nd,h1,h2,hk=>by
  simp at h1 h2;subst h1;subst h2
  show bindC kindOf ((p,w)::P.zip vs) m p=_
  unfold bindC
  rw [qE fun v hv=>(List.nodup_cons.mp nd).1 (List.of_mem_zip hv).1,if_neg hk]
  simp
 | p::P,w::vs,i+1,m,nd,h1,h2,hk=>by
  show bindC kindOf ((p,w)::P.zip vs) m x=_
  unfold bindC
  exact qF (i:=i) (List.nodup_cons.mp nd).2 (by simpa using h1) (by simpa using h2) hk
def start (N:List Str) (vs:List V):St:=vs.map some++List.replicate (N.length - vs.length) none
def Ql (CX:CXT) (P:Program) (w:World) (K:Frag) (mg:Str->Option Value) (base:Heap) (N:List Str) (qual:Str) (scope:Scope) (f:Addr) (cd:Value) (A:Around) (outer:List Env) (s:Shared) (H:Hp) (E:XK):Cx where
 prog:=P
 w:=w
 K:=K
 mg:=mg
 base:=base
 A:=A.deeper (envOfC qual scope s.heap.objs.size f cd)
 N:=N
 s₀:=s
 H₀:=H
 env:=envOfC qual scope s.heap.objs.size f cd
 outer:=outer
 stack:=envOfC qual scope s.heap.objs.size f cd::outer
 ex:=[]
 calm:=true
 fn:=fun _=>true
 pn:=[]
 xe:=fun e s'=>wpAny (model P w) (A.deeper (envOfC qual scope s.heap.objs.size f cd)) (leaving (envOfC qual scope s.heap.objs.size f cd) e) (fun _ s''=>CX outer H s E e s'') (fun e' s''=>CX outer H s E e' s'') s'
theorem yC {sc:Scope} {n:Nat} {x:Str} (h:sc.names.lookup x=some .cell):∃ c,(cellsFrom n sc.names []).lookup x=some c:=by
 have q:=PySem.W.cellsFrom_some sc.names n [] (.inl h)
 exact Option.isSome_iff_exists.mp q
theorem mV {CX:CXT} {P:Program} {w:World} {K:Frag} {mg:Str->Option Value} {base:Heap} {N ps:List Str} {qual:Str} {scope:Scope} {f:Addr} {cd:Value} {A:Around} {outer:List Env} {s s1:Shared} {H:Hp} {E:XK} {us:List Value} {vs:List V}
  (S:FnScope N ps scope) (hd:A.handled=none) (e0:Env0 P w K mg base A outer s H) (hl:vs.length=ps.length) (r:Y4 vs us)
  (x:InCallC s s.heap.objs.size (bindL (envOfC qual scope s.heap.objs.size f cd).kindOf (ps.zip us) fun _=>none) (cellsFrom (s.heap.objs.size+1) scope.names []) (bindC (envOfC qual scope s.heap.objs.size f cd).kindOf (ps.zip us) fun _=>none) s1):
  Inv (Ql CX P w K mg base N qual scope f cd A outer s H E) [] (start N vs) H s1:=by
 have hpl:ps.length<=N.length:=by have:=congrArg List.length S.pre;rw [List.length_take] at this;omega
 obtain ⟨h1,tk,rfl,hk⟩:=x.done
 have noA:∀ b:Addr,b∉(Ql CX P w K mg base N qual scope f cd A outer s H E).ex:=fun b z=>absurd (show b∈([]:List Addr) from z) (by simp)
 refine ⟨⟨e0.mod,S.kind,rfl,rfl,Nat.le_refl _,fun y z c h1 h2=>?_,fun y hy=>?_,fun y c _ h=>?_,fun _=>hd,Around.frames_deeper e0.frames,.inr ⟨rfl,rfl⟩,fun b z=>absurd z (noA b),e0.bs,e0.bsz,fun b _ _=>noA b,fun b z=>absurd z (noA b),e0.funs,e0.frf⟩,
  rfl,e0.bare,Un.kept hk,⟨_,x.toInCall.ns,fun i y v h1 h2 h3=>?_⟩,fun y c h=>⟨_,x.cell y c h⟩,e0.hok.fresh (Nat.le_refl _),fun y c h=>?_,fun p hp=>absurd (show p∈([]:List (Addr×Obj)) from hp) (by simp),e0.hok.kept hk,?_⟩
 ·exact name_of_addr x.apart (PySem.mem_of_lookup h1) (PySem.mem_of_lookup h2)
 ·have hy:scope.names.lookup y=some .cell\/scope.names.lookup y=some .free:=hy
  rcases hy with hy | hy
  ·exact yC hy
  ·exact absurd rfl (S.nofree _ (PySem.mem_of_lookup hy))
 ·exact Nat.le_of_lt (x.above y c (PySem.mem_of_lookup h))
 ·have hi:i < vs.length:=by
   unfold start at h2
   by_cases hi:i < vs.length
   ·exact hi
   ·rw [List.getElem?_append_right (by simpa using hi)] at h2
    rw [List.getElem?_replicate] at h2
    split at h2 <;> cases h2
  have ha:vs[i]?=some v:=by
   unfold start at h2
   rw [List.getElem?_append_left (by simpa using hi),List.getElem?_map] at h2
   cases e:vs[i]? with
   | none=>rw [e] at h2;cases h2
   | some a=>rw [e] at h2;cases h2;rfl
  obtain ⟨u,hu,rv⟩:=r.get ha
  have hp:ps[i]?=some y:=by
   rw [← S.pre,List.getElem?_take_of_lt (by omega)];exact h1
  have ndP:ps.Nodup:=by rw [← S.pre];exact S.nd.sublist (List.take_sublist _ _)
  refine ⟨u,rv,?_⟩
  rcases S.par y (List.mem_of_getElem? hp) with k | k
  ·exact .inl ⟨k,qD ndP hp hu k⟩
  ·obtain ⟨c,e⟩:=yC (n:=s.heap.objs.size+1) k
   refine .inr ⟨.inl k,c,e,?_⟩
   have q:=x.cell y c e
   rw [qF ndP hp hu (by show scope.names.lookup y≠_;rw [k];decide)] at q
   exact q
 ·exact e0.hok.fresh (Nat.le_of_lt (x.above y c (PySem.mem_of_lookup h)))
 ·unfold start
  show _=N.length
  rw [List.length_append,List.length_map,List.length_replicate]
  omega
theorem bR {CX:CXT} {P:Program} {w:World} {K:Frag} {mg:Str->Option Value} {base:Heap} {k:Nat} {f:Addr} {name qual:Str} {params:Arguments} {body:List Stmt} {scope:Scope} {dV kV doc pm cdv ct oc:Value} {an od:Option Addr}
  {osl:Array (Option Value)} {N ps:List Str} {sp:Sp} (lk:K.lookup f=some ⟨oc,od,.func (fnOf name qual params body scope dV kV doc pm an cdv ct),osl⟩) (hcd:codeIn K cdv qual=true) (S:FnScope N ps scope)
  (len:∀ vs H Q E,sp vs H Q E->vs.length=ps.length)
  (hbody:∀ (A:Around) (outer:List Env) (s:Shared) (H:Hp) (vs:List V) (Q:VK) (E:XK),Room k (A.deeper (envOfC qual scope s.heap.objs.size f cdv))->sp vs H Q E->
   ∃ t,PSs (Ql CX P w K mg base N qual scope f cdv A outer s H E) body t/\t { nx:=fun _ H'=>Q .non H',rt:=Q } (start N vs) H):
  FnOk P w K mg base CX (k+1) f (fnOf name qual params body scope dV kV doc pm an cdv ct) ps sp:=by
 refine ⟨len,fun A outer s H args us vs Q E hr e0 hb r hsp=>?_⟩
 have hl:=len _ _ _ _ hsp
 have KX:K.In s.heap:=e0.mod.kin.keeps fun b o e=>(e0.bs b o e).1
 have lim:s.heap.NoLimit:=e0.mod.nolimit.keeps fun b o e=>(e0.bs b o e).1
 have hkind:∀ y∈ps.zip us,scope.names.lookup y.1=some .local\/(scope.names.lookup y.1=some .cell/\((cellsFrom (s.heap.objs.size+1) scope.names []).lookup y.1).isSome=true):=fun ⟨n,v⟩ hy=>by
  rcases S.par n (List.of_mem_zip hy).1 with q | q
  ·exact .inl q
  ·exact .inr ⟨q,PySem.W.cellsFrom_some _ _ _ (.inl q)⟩
 refine codeAny_call_function hr.depth (KX _ _ lk) rfl S.co S.gen rfl (PySem.W.codeRec_of KX hcd) (hb _ _ _ _ ?_)
 refine wpAny_newFunctionEnv_cells S.kind hkind fun env he s1 x=>?_
 subst he
 refine ⟨lim.keeps x.toInCall.keep,codeAny_func ?_⟩
 obtain ⟨t,ht,hq⟩:=hbody A outer s H vs Q E (hr.deeper _) hsp
 have I:Inv (Ql CX P w K mg base N qual scope f cdv A outer s H E) [] (start N vs) H s1:=mV S hr.hd e0 hl r x
 refine wpAny_mono (ht [] s1 (start N vs) H _ I hq) (fun fl s' hs=>?_) fun e s' hs=>hs
 have fin:∀ {σ':St} {H':Hp} {v:V} {u:Value},Inv (Ql CX P w K mg base N qual scope f cdv A outer s H E) [] σ' H' s'->Y8 v u->Q v H'->CE outer P w H s Q u s':=
  fun {σ' H' v u} J rv q=>⟨v,H',J.os,J.bare,J.base,J.hok,rv,q⟩
 cases fl with
 | ret u=>
  obtain ⟨v,σ',H',J,rv,q⟩:=hs
  exact fin J rv q
 | next=>
  obtain ⟨σ',H',J,q⟩:=hs
  exact fin (v:=V.non) (u:=Value.none) J rfl q
 | brk=>
  obtain ⟨_,_,_,q⟩:=hs
  exact False.elim q
 | cont=>
  obtain ⟨_,_,_,q⟩:=hs
  exact False.elim q
section
variable {X:Cx} {x:Str} {p pos:Pos} {e:Expr} {es:List Expr} {t:TA} {id T:String} {r:List V->Hp->VK->Prop}
def tCB (r:List V->Hp->VK->Prop) (t:TA):TE:=fun σ H Q=>t σ H fun vs H1=>r vs H1 Q
theorem mj (hc:D6 X (.builtin id) r) (hg:Gl X x) (hm:X.mg x=none) (hv:bootBuiltins x=some (.builtin id)) (ha:PA X (e::es) t) (hn:x≠"__name__":=by decide) (hdb:(x == ("__debug__":Str))=false:=by decide)
  (he:starEach (e::es) X.env=(false,eval e X.env)::starEach es X.env:=by rfl) (hpl:(backTo pos (starEach es X.env)).any (·.1)=false:=by rfl):PE X (.Call (.Name x p) (e::es) [] pos) (tCB r t):=by
 intro pins s σ H Q I h
 refine wpAny_Call_Name_kw (Yw I hg hm hv ?_ hn hdb)
 exact PyProof.Rows.callWith_builtin1 (thn (ha pos pins s σ H _ I h) fun us s1 ⟨vs,H1,I1,r1,q1⟩=>hc pins s1 σ H1 vs us Q I1 r1 q1) he hpl
theorem Yp (hc:D6 X (.type T) r) (hg:Gl X x) (hm:X.mg x=none) (hv:bootBuiltins x=some (.type T)) (ha:PA X (e::es) t) (hn:x≠"__name__":=by decide) (hdb:(x == ("__debug__":Str))=false:=by decide)
  (he:starEach (e::es) X.env=(false,eval e X.env)::starEach es X.env:=by rfl) (hpl:(backTo pos (starEach es X.env)).any (·.1)=false:=by rfl):PE X (.Call (.Name x p) (e::es) [] pos) (tCB r t):=by
 intro pins s σ H Q I h
 refine wpAny_Call_Name_kw (Yw I hg hm hv ?_ hn hdb)
 exact PyProof.Rows.callWith_type1 (thn (ha pos pins s σ H _ I h) fun us s1 ⟨vs,H1,I1,r1,q1⟩=>hc pins s1 σ H1 vs us Q I1 r1 q1) he hpl
end
end L2
namespace HT
open PySem PyProof.Rows
section
open PySem.SeqAt
open PySem.AutoSeq1 (wpAny_loadPart')
open PySem.MeetsSeq PySem.MeetsSeq2 PySem.MeetsSeq3
end
section
variable {prog:Program} {w:World} {A:Around} {E:Value->Shared->Prop} {s:Shared}
theorem qaq {t b:Addr} {vs ws:List Value} {Q:Value->Shared->Prop} (ht:IsTup s.heap t vs.toArray) (hb:IsTup s.heap b ws.toArray) (hv:vs≠[])
  (h1:ws=[]->Q (.ref t) s) (h2:ws≠[]->Q (.ref s.heap.objs.size) { s with heap:=s.heap.push { cls:=.type "tuple",data:=.seq (vs++ws).toArray } })
  (hsz:vs.length+ws.length<=sizeLine):wpAny (model prog w) A (binaryOp .Add (.ref t) (.ref b)) Q E s:=by
 obtain ⟨⟨cls,dd,data,sl⟩,ho,hc,n,hd⟩:=id ht
 obtain ⟨⟨cls2,dd2,data2,sl2⟩,ho2,hc2,n2,hd2⟩:=id hb
 simp only at hc hd hc2 hd2
 subst hc hd hc2 hd2
 have e:vs.toArray++ws.toArray=(vs++ws).toArray:=by simp
 by_cases hw:ws=[]
 ·exact concat_meets ⟨_,ho,rfl⟩ ⟨_,ho2,rfl⟩ noFill_tuple_add seq_tuple_add PySem.F.slot_tuple_add PySem.F.entry_tuple_add (PySem.F.args_tuple_add_2 _ _)
   (tuple_addW1 t b vs.toArray ws.toArray n n2 dd dd2 sl sl2 (by simpa using hv) (by simp [hw])) ⟨ho,ho2,h1 hw⟩
 ·refine concat_meets ⟨_,ho,rfl⟩ ⟨_,ho2,rfl⟩ noFill_tuple_add seq_tuple_add PySem.F.slot_tuple_add PySem.F.entry_tuple_add (PySem.F.args_tuple_add_2 _ _)
   (tuple_addW2 t b vs.toArray ws.toArray n n2 dd dd2 sl sl2 (by simpa using hv) (by simpa using hw) (by rw [List.size_toArray,List.size_toArray];exact hsz)) ⟨ho,ho2,?_⟩
  rw [e]
  exact h2 hw
def sIx (n d:Nat):Option Int->Nat
 | none=>d
 | some v=>if v < 0 then (v+(n:Int)).toNat else min v.toNat n
theorem kN (n d:Nat) (hd:d<=n) (o:Option Int):sIx n d o<=n:=by
 cases o with
 | none=>exact hd
 | some v=>
  show (if v < 0 then (v+(n:Int)).toNat else min v.toNat n)<=n
  by_cases hv:v < 0
  ·rw [if_pos hv];omega
  ·rw [if_neg hv];exact Nat.min_le_right _ _
theorem bX (v:Int) (n d:Nat):(if v < 0 then max (v+(n:Int)) 0 else min v (n:Int))=((sIx n d (some v):Nat):Int):=by
 show (if v < 0 then max (v+(n:Int)) 0 else min v (n:Int))=(((if v < 0 then (v+(n:Int)).toNat else min v.toNat n):Nat):Int)
 by_cases hv:v < 0
 ·simp only [if_pos hv];omega
 ·simp only [if_neg hv];omega
theorem xP (lo hi:Option Int) (n:Nat):Builtin.Slice.sliceAdjust lo hi 1 (n:Int)=(((sIx n 0 lo:Nat):Int),((sIx n n hi:Nat):Int)):=by
 have h1:¬ ((1:Int) < 0):=by omega
 unfold Builtin.Slice.sliceAdjust
 simp only [h1,if_false]
 refine Prod.ext ?_ ?_
 ·cases lo with
  | none=>rfl
  | some v=>exact bX v n 0
 ·cases hi with
  | none=>rfl
  | some v=>exact bX v n n
theorem wB (i j:Nat):Builtin.Slice.slicePlaces (i:Int) (j:Int) 1=j - i:=by
 unfold Builtin.Slice.slicePlaces
 have h1:(1:Int) > 0:=by omega
 simp only [h1,if_true,Int.ediv_one]
 split <;> omega
theorem Xf {v:Value} {o:Option Int} {Q:Option Int->Shared->Prop} (p:IsPart v o) (h:Q o s):wpAny (model prog w) A (Builtin.Slice.slicePartIndex v) Q E s:=by
 cases p with
 | none=>exact slicePart_none h
 | int i t=>exact slicePart_int h
theorem Yi {sl:Addr} {vl vu:Value} {lo hi:Option Int} {n:Nat} {Q:Int×Int×Nat->Shared->Prop} (hs:s.heap.IsSliceOf sl vl vu .none) (pl:IsPart vl lo) (pu:IsPart vu hi)
  (h:Q (((sIx n 0 lo:Nat):Int),1,sIx n n hi - sIx n 0 lo) s):wpAny (model prog w) A (Builtin.Slice.sliceApplied (.ref sl) (pure (n:Int))) Q E s:=by
 obtain ⟨os,hos,hcs,hds⟩:=id hs
 unfold Builtin.Slice.sliceApplied Builtin.Slice.sliceFields
 refine wpAny_bind (wpAny_bind (wpAny_field hos hds (x:=vl) rfl (wpAny_bind (wpAny_field hos hds (x:=vu) rfl (wpAny_bind (wpAny_field hos hds (x:=.none) rfl (wpAny_pure ?_)))))))
 refine wpAny_bind (slicePart_none ?_)
 show wpAny _ _ (if ((1:Int) == 0)=true then _ else _) _ _ s
 rw [if_neg (by decide)]
 refine wpAny_bind (Xf pl (wpAny_bind (Xf pu (wpAny_bind (wpAny_pure ?_)))))
 show wpAny _ _ (match Builtin.Slice.sliceAdjust lo hi 1 (n:Int) with | (lo,hi)=>pure (lo,(1:Int),Builtin.Slice.slicePlaces lo hi 1)) _ _ s
 rw [xP lo hi n]
 show wpAny _ _ (pure (((sIx n 0 lo:Nat):Int),(1:Int),Builtin.Slice.slicePlaces ((sIx n 0 lo:Nat):Int) ((sIx n n hi:Nat):Int) 1)) _ _ s
 rw [wB]
 exact wpAny_pure h
theorem ZI (xs:Array Value) (i k:Nat):((List.range k).filterMap fun (m:Nat)=>xs[((i:Int)+(m:Int) * 1).toNat]?).toArray=((xs.toList.drop i).take k).toArray:=by
 have e:(fun (m:Nat)=>xs[((i:Int)+(m:Int) * 1).toNat]?)=fun m=>xs[i+m]?:=by
  funext m
  have:((i:Int)+(m:Int) * 1).toNat=i+m:=by omega
  rw [this]
 rw [e]
 have:=pick_run xs i k
 rw [List.filterMap_map] at this
 have e2:((fun x=>xs[x]?) ∘ fun x=>i+x)=fun m=>xs[i+m]?:=rfl
 rw [e2] at this
 rw [this]
theorem Jo {t sl:Addr} {items:Array Value} {vl vu:Value} {lo hi:Option Int} {Q:Value->Shared->Prop} (ht:IsTup s.heap t items) (hs:s.heap.IsSliceOf sl vl vu .none) (pl:IsPart vl lo) (pu:IsPart vu hi)
  (hw:¬ (sIx items.size 0 lo=0/\sIx items.size items.size hi=items.size))
  (h:Q (.ref s.heap.objs.size) { s with heap:=s.heap.push { cls:=.type "tuple",data:=.seq ((items.toList.drop (sIx items.size 0 lo)).take (sIx items.size items.size hi - sIx items.size 0 lo)).toArray } })
  (hsz:items.size<=sizeLine):wpAny (model prog w) A (getItem (.ref t) (.ref sl)) Q E s:=by
 have htake:sizeOk (.seq ((items.toList.drop (sIx items.size 0 lo)).take (sIx items.size items.size hi - sIx items.size 0 lo)).toArray):=by
  show ((items.toList.drop (sIx items.size 0 lo)).take (sIx items.size items.size hi - sIx items.size 0 lo)).toArray.size<=sizeLine
  rw [List.size_toArray,List.length_take,List.length_drop,Array.length_toList]
  omega
 have hj:sIx items.size items.size hi<=items.size:=kN _ _ (Nat.le_refl _) hi
 obtain ⟨os,hos,hcs,hds⟩:=id hs
 have hTs:s.TypeIs (.ref sl) "slice":=⟨os,hos,hcs⟩
 unfold getItem
 try with_reducible refine wpAny_holding ?_
 first | refine wpAny_bind (wpAny_pure ?_) | skip
 refine wpAny_bind (wpAny_sequenceKey ht.typeIs (by decide) ?_)
 refine wpAny_bind (wpAny_callSpecial?_slot (name:=Str.ofString "__getitem__") ht.typeIs PyProof.Rows.slot_tuple_getitem
  (wpAny_call_entry PyProof.Rows.slot_tuple_getitem ht.typeIs entry_tuple_getitem ?_ (args_tuple_getitem _ _)))
 show wpAny _ _ (Builtin.Tuple.tupleItemsOf (.ref t) >>= _) _ _ s
 refine wpAny_bind (tupleItemsOf_ ht ?_)
 refine wpAny_bind (wpAny_typeOf hTs ?_)
 rw [if_pos (by decide)]
 refine wpAny_bind (Yi hs pl pu ?_)
 have hno:¬ ((((sIx items.size 0 lo:Nat):Int) == 0 && (1:Int) == 1 && (sIx items.size items.size hi - sIx items.size 0 lo) == items.size)=true):=by
  intro q
  rw [Bool.and_eq_true,Bool.and_eq_true] at q
  have q1:((sIx items.size 0 lo:Nat):Int)=0:=eq_of_beq q.1.1
  have q2:sIx items.size items.size hi - sIx items.size 0 lo=items.size:=eq_of_beq q.2
  exact hw ⟨by omega,by omega⟩
 show wpAny _ _ (if (((sIx items.size 0 lo:Nat):Int) == 0 && (1:Int) == 1 && (sIx items.size items.size hi - sIx items.size 0 lo) == items.size)=true then _ else _) _ _ s
 rw [if_neg hno,ZI]
 first
  | exact wpAny_bind (m:=Builtin.Tuple.tupleExact _) (wpAny_newObj_type (wpAny_pure ⟨_,rfl,wpAny_pure h⟩) htake)
  | exact wpAny_bind (m:=Builtin.Tuple.tupleExact _) (wpAny_newObj_type (wpAny_bind (wpAny_pure (wpAny_pure ⟨_,rfl,wpAny_pure h⟩))) htake)
  | exact wpAny_bind (wpAny_bind (m:=Builtin.Tuple.tupleExact _) (wpAny_newObj_type (wpAny_pure (wpAny_pure ⟨_,rfl,wpAny_pure h⟩)) htake))
  | exact wpAny_bind (wpAny_bind (m:=Builtin.Tuple.tupleExact _) (wpAny_newObj_type (wpAny_pure ⟨_,rfl,wpAny_pure h⟩) htake))
end
end HT
namespace L2
open PySem PySem.Spec PyProof.Rows
abbrev TO:=St->Hp->(Option Int->Hp->Prop)->Prop
def PO (X:Cx) (e:Option Expr) (t:TO):Prop:=
 ∀ (pins:List (Addr×Obj)) (s:Shared) (σ:St) (H:Hp) (Q:Option Int->Hp->Prop),Inv X pins σ H s->t σ H Q->
  wpAny (model X.prog X.w) X.A (evalPart e X.env) (fun u s'=>∃ o H',Inv X pins σ H' s'/\IsPart u o/\Q o H') X.xe s
def VI:TO:=fun _ H Q=>Q none H
def qdt (t:TE):TO:=fun σ H Q=>t σ H fun x H1=>∃ i,x=.int i/\Q (some i) H1
section
variable {X:Cx} {e:Expr} {te:TE} {lo hi:Option Expr} {tl th:TO} {pos p2:Pos}
theorem WJ:PO X none VI:=by
 intro pins s σ H Q I h
 rw [evalPart_none]
 exact wpAny_pure ⟨none,H,I,.none,h⟩
theorem WI (h:PE X e te):PO X (some e) (qdt te):=by
 intro pins s σ H Q I hw
 rw [evalPart_some]
 refine thn (h pins s σ H _ I hw) fun u s1 ⟨x,H1,I1,r1,q1⟩=>?_
 obtain ⟨i,rfl,q⟩:=q1
 obtain ⟨t,rfl⟩:=r1
 exact ⟨some i,H1,I1,.int i t,q⟩
def SlR (X:Cx) (r:V->Option Int->Option Int->Hp->VK->Prop):Prop:=
 ∀ (pins:List (Addr×Obj)) (s:Shared) (σ:St) (H:Hp) (x:V) (v vl vu:Value) (lo hi:Option Int) (sl:Addr) (Q:VK),Inv X pins σ H s->Y8 x v->s.heap.IsSliceOf sl vl vu .none->IsPart vl lo->IsPart vu hi->r x lo hi H Q->
  ∃ T id,typeLookup (.type T) "__getitem__"=pure (some (.builtin id))/\s.TypeIs v T/\wpAny (model X.prog X.w) X.A (getItem v (.ref sl)) (EP X pins σ Q) X.xe s
theorem SlR.or {r r':V->Option Int->Option Int->Hp->VK->Prop} (h:SlR X r) (h':SlR X r'):SlR X (fun x lo hi H Q=>r x lo hi H Q\/r' x lo hi H Q):=by
 intro pins s σ H x v vl vu lo hi sl Q I rx hs pl pu q
 rcases q with q | q
 ·exact h pins s σ H x v vl vu lo hi sl Q I rx hs pl pu q
 ·exact h' pins s σ H x v vl vu lo hi sl Q I rx hs pl pu q
def tSl (r:V->Option Int->Option Int->Hp->VK->Prop) (te:TE) (tl th:TO):TE:=fun σ H Q=>te σ H fun x H1=>tl σ H1 fun l H2=>th σ H2 fun u H3=>r x l u H3 Q
theorem ZJ {r:V->Option Int->Option Int->Hp->VK->Prop} (hr:SlR X r) (he:PE X e te) (hl:PO X lo tl) (hu:PO X hi th):PE X (.Subscript e (.Slice lo hi none p2) pos) (tSl r te tl th):=by
 intro pins s σ H Q I h
 refine Subscript_ (thn (he pins s σ H _ I h) fun v s1 ⟨x,H1,I1,r1,q1⟩=>?_)
 refine wpAny_Slice (thn (hl pins s1 σ H1 _ I1 q1) fun vl s2 ⟨l,H2,I2,pl,q2⟩=>thn (hu pins s2 σ H2 _ I2 q2) fun vu s3 ⟨u,H3,I3,pu,q3⟩=>?_)
 rw [evalPart_none]
 refine wpAny_pure ?_
 have I4:Inv X pins σ H3 { s3 with heap:=s3.heap.push { cls:=.type "slice",data:=.fields #[vl,vu,.none] } }:=I3.kept (t':=s3.toks) fun b ob q=>Heap.get?_push_of_some _ q
 obtain ⟨T,id,hT,ht,hg⟩:=hr pins { s3 with heap:=s3.heap.push { cls:=.type "slice",data:=.fields #[vl,vu,.none] } } σ H3 x v vl vu l u s3.heap.objs.size Q I4 r1 (Heap.IsSliceOf.new ..) pl pu q3
 show wpAny (model X.prog X.w) X.A (subscriptTail e (.Slice lo hi none p2) v (.ref s3.heap.objs.size)) (EP X pins σ Q) X.xe { s3 with heap:=s3.heap.push { cls:=.type "slice",data:=.fields #[vl,vu,.none] } }
 exact tail_any (ops:=[.ref s3.heap.objs.size,v]) ht hT hg (by with_unfolding_all rfl)
def Gb (xs:List V) (lo hi:Option Int):List V:=(xs.drop (HT.sIx xs.length 0 lo)).take (HT.sIx xs.length xs.length hi - HT.sIx xs.length 0 lo)
theorem Vu (xs:List V) (lo hi:Option Int):(Gb xs lo hi).length<=xs.length:=by
 unfold Gb
 rw [List.length_take,List.length_drop]
 omega
def qft (K:Frag):V->Option Int->Option Int->Hp->VK->Prop:=fun x lo hi H Q=>∃ a xs,x=.ref a/\SqT K H a xs/\
 ¬ (HT.sIx xs.length 0 lo=0/\HT.sIx xs.length xs.length hi=xs.length)/\∀ p,H p=none->Q (.ref p) (upd H p (.tup (Gb xs lo hi)))
theorem qbx:SlR X (qft X.K):=by
 intro pins s σ H x v vl vu lo hi sl Q I rx hs pl pu h
 obtain ⟨a,xs,rfl,hx,hw,q⟩:=h
 cases rx
 obtain ⟨its,r,ht,hz⟩:=I.tuple hx
 have hlen:its.toArray.size=xs.length:=by rw [List.size_toArray];exact r.length.symm
 refine ⟨"tuple",_,PyProof.Rows.slot_tuple_getitem.lookup,ht.typeIs,?_⟩
 refine HT.Jo ht hs pl pu (by rw [hlen];exact hw) ?_ (by rw [hlen];exact hz)
 rw [hlen]
 refine ⟨.ref s.heap.objs.size,_,I.laid (t':=s.toks) (o:=.tup (Gb xs lo hi)) (fun b ob q=>Heap.get?_push_of_some _ q) (Nat.le_refl _) ?_,rfl,q _ (I.hok.fresh (Nat.le_refl _))⟩
 exact ⟨Nat.le_trans (Vu xs lo hi) hz,_,(r.drop (HT.sIx xs.length 0 lo)).take (HT.sIx xs.length xs.length hi - HT.sIx xs.length 0 lo),IsTup.new _ _⟩
def qa9 (K:Frag):R2:=fun x y H Q=>∃ a b xs ys,x=.ref a/\y=.ref b/\SqT K H a xs/\SqT K H b ys/\xs≠[]/\xs.length+ys.length<=sizeLine/\
 (ys=[]->Q (.ref a) H)/\(ys≠[]->∀ p,H p=none->Q (.ref p) (upd H p (.tup (xs++ys))))
theorem Y4.nil_iff {xs:List V} {us:List Value} (r:Y4 xs us):us=[]↔xs=[]:=by
 cases r with
 | nil=>simp
 | cons _ _=>simp
theorem WV:OpR X (binaryOp .Add) (qa9 X.K):=by
 intro pins s σ H x y v u Q I rx ry h
 obtain ⟨a,b,xs,ys,rfl,rfl,ha,hb,hx,hz,q1,q2⟩:=h
 cases rx
 cases ry
 obtain ⟨its,r1,p1,_⟩:=I.tuple ha
 obtain ⟨its2,r2,p2,_⟩:=I.tuple hb
 refine HT.qaq p1 p2 (fun z=>hx (r1.nil_iff.mp z)) (fun z=>⟨.ref a,H,I,rfl,q1 (r2.nil_iff.mp z)⟩) (fun z=>?_) (by rw [← r1.length,← r2.length];exact hz)
 refine ⟨.ref s.heap.objs.size,_,I.laid (t':=s.toks) (o:=.tup (xs++ys)) (fun b ob q=>Heap.get?_push_of_some _ q) (Nat.le_refl _) ?_,rfl,q2 (fun w=>z (r2.nil_iff.mpr w)) _ (I.hok.fresh (Nat.le_refl _))⟩
 exact ⟨by rw [List.length_append];exact hz,_,r1.append r2,IsTup.new _ _⟩
end
def ixN (n:Nat) (i:Int):Option Nat:=if 0<=i then (if i < n then some i.toNat else none) else if -(n:Int)<=i then some (i+n).toNat else none
def atI {α:Type} (xs:List α) (i:Int):Option α:=(ixN xs.length i).bind fun j=>xs[j]?
theorem bP {n:Nat} {i:Int} {j:Nat} (h:ixN n i=some j):seqIndex? i n=some j/\j < n/\-(n:Int)<=i/\i < n:=by
 unfold ixN at h
 by_cases h0:0<=i
 ·rw [if_pos h0] at h
  by_cases h1:i < n
  ·rw [if_pos h1] at h
   have e:i.toNat=j:=Option.some.inj h
   exact ⟨by rw [seqIndex_of h0 h1,e],by omega,by omega,h1⟩
  ·rw [if_neg h1] at h;cases h
 ·rw [if_neg h0] at h
  by_cases h1:-(n:Int)<=i
  ·rw [if_pos h1] at h
   have e:(i+n).toNat=j:=Option.some.inj h
   exact ⟨by rw [seqIndex_neg (by omega) h1,e],by omega,h1,by omega⟩
  ·rw [if_neg h1] at h;cases h
theorem zW {α:Type} {xs:List α} {i:Int} {v:α} (h:atI xs i=some v):∃ j,seqIndex? i xs.length=some j/\xs[j]?=some v/\j < xs.length/\-(xs.length:Int)<=i/\i < xs.length:=by
 unfold atI at h
 cases e:ixN xs.length i with
 | none=>rw [e] at h;cases h
 | some j=>
  rw [e] at h
  obtain ⟨h1,h2,h3,h4⟩:=bP e
  exact ⟨j,h1,h,h2,h3,h4⟩
def fC (b:Expr):Prop:=∀ o i,subscripted b false o i=operate [o,i] (getItem o i)
def IxR (X:Cx) (r:R2):Prop:=
 ∀ (value slice:Expr) (pins:List (Addr×Obj)) (s:Shared) (σ:St) (H:Hp) (x y:V) (v u:Value) (Q:VK),Inv X pins σ H s->Y8 x v->Y8 y u->r x y H Q->
  subscripted slice false v u=operate [v,u] (getItem v u)->wpAny (model X.prog X.w) X.A (subscriptTail value slice v u) (EP X pins σ Q) X.xe s
def MtR (X:Cx) (id:String) (r:V->List V->Hp->VK->Prop):Prop:=
 ∀ (pins:List (Addr×Obj)) (s:Shared) (σ:St) (H:Hp) (x:V) (xs:List V) (v:Value) (us:List Value) (Q:VK),Inv X pins σ H s->Y8 x v->Y4 xs us->r x xs H Q->
  wpAny (model X.prog X.w) X.A (call (.builtin id) (v::us)) (EP X pins σ Q) X.xe s
section
variable {X:Cx} {a b:Expr} {ta tb:TE} {pos:Pos}
theorem IxR.or {r r':R2} (h:IxR X r) (h':IxR X r'):IxR X (fun x y H Q=>r x y H Q\/r' x y H Q):=by
 intro value slice pins s σ H x y v u Q I rx ry q hs
 rcases q with q | q
 ·exact h value slice pins s σ H x y v u Q I rx ry q hs
 ·exact h' value slice pins s σ H x y v u Q I rx ry q hs
theorem ZO {r:R2} (hr:IxR X r) (ha:PE X a ta) (hb:PE X b tb) (hs:fC b):PE X (.Subscript a b pos) (tOp r ta tb):=by
 intro pins s σ H Q I h
 exact Subscript_ (qdi ha hb I h fun v u s2 x y H2 I2 rx ry q=>hr a b pins s2 σ H2 x y v u Q I2 rx ry q (hs _ _))
def qeb (K:Frag):R2:=fun x y H Q=>∃ p xs i v,x=.ref p/\y=.int i/\SqL K H p xs/\atI xs i=some v/\Q v H
def qd9 (K:Frag):R2:=fun x y H Q=>∃ p xs i v,x=.ref p/\y=.int i/\SqT K H p xs/\atI xs i=some v/\Q v H
def qea:R2:=fun x y H Q=>∃ z i c,x=.str z/\y=.int i/\z.length<=sizeLine/\atI z.cps.toList i=some c/\Q (.str ⟨#[c]⟩) H
theorem XQ:IxR X (qeb X.K):=by
 intro value slice pins s σ H x y v u Q I rx ry h hs
 obtain ⟨p,xs,i,z,rfl,rfl,hq,he,q⟩:=h
 cases rx
 obtain ⟨t,rfl⟩:=ry
 obtain ⟨its,r,pl,hz⟩:=I.list hq
 obtain ⟨j,h1,h2,h3,h4,h5⟩:=zW he
 obtain ⟨w,ew,rw'⟩:=r.get h2
 have hl:=r.length
 have hn:=Yv
 have fin:EP X pins σ Q w s:=⟨z,H,I,rw',q⟩
 by_cases h0:0<=i
 ·have hj:i.toNat=j:=by
   rw [seqIndex_of h0 h5] at h1
   exact Option.some.inj h1
  exact item_listR pl.isList h0 (by omega) (by rw [hj];simpa using ew) fin hs
 ·have hj:(i+(its.toArray.size:Int)).toNat=j:=by
   rw [seqIndex_neg (by omega) h4] at h1
   rw [List.size_toArray,← hl]
   exact Option.some.inj h1
  exact subscriptTail_builtinR (x:=w) pl.isList.typeIs slot_list_getitem.lookup
   (wpAny_getItem_list_neg (Q:=fun r s'=>r=w/\EP X pins σ Q r s') pl.isList (by omega) (by rw [List.size_toArray] <;> omega) (by omega) (by rw [hj];simpa using ew) ⟨rfl,fin⟩) hs
theorem qc0:IxR X (qd9 X.K):=by
 intro value slice pins s σ H x y v u Q I rx ry h hs
 obtain ⟨p,xs,i,z,rfl,rfl,hq,he,q⟩:=h
 cases rx
 obtain ⟨t,rfl⟩:=ry
 obtain ⟨its,r,pl,hz⟩:=I.tuple hq
 obtain ⟨j,h1,h2,h3,h4,h5⟩:=zW he
 obtain ⟨w,ew,rw'⟩:=r.get h2
 have hl:=r.length
 have hn:=Yv
 have fin:EP X pins σ Q w s:=⟨z,H,I,rw',q⟩
 exact subscriptTail_builtinR (x:=w) pl.typeIs slot_tuple_getitem.lookup
  (getItem_tuple (j:=j) (Q:=fun r s'=>r=w/\EP X pins σ Q r s') pl (by omega) (by omega) (by rw [List.size_toArray,← hl];exact h1) (by simpa using ew) ⟨rfl,fin⟩) hs
theorem qc1:IxR X qea:=by
 intro value slice pins s σ H x y v u Q I rx ry h hs
 obtain ⟨z,i,c,rfl,rfl,hz,he,q⟩:=h
 obtain ⟨t,rfl⟩:=rx
 obtain ⟨t',rfl⟩:=ry
 obtain ⟨j,h1,h2,h3,h4,h5⟩:=zW he
 have hl:z.cps.toList.length=z.length:=by simp [Str.length]
 rw [hl] at h1 h4 h5
 have hn:=Yv
 exact tail_any (typeIs_str s z t) slot_str_getitem.lookup (getItem_str (c:=c) (by
  have e1:decide (i < -(2 ^ 63:Int))=false:=decide_eq_false (by omega)
  have e2:decide (i ≥ 2 ^ 63)=false:=decide_eq_false (by omega)
  rw [e1,e2,Bool.or_false]) (by rw [h1];simpa using h2) ⟨.str ⟨#[c]⟩,H,I.tok _,⟨_,rfl⟩,q⟩) hs
def rIx (K:Frag):R2:=fun x y H Q=>qeb K x y H Q\/qd9 K x y H Q\/qea x y H Q
theorem gA:IxR X (rIx X.K):=XQ.or (qc0.or qc1)
theorem wV (its:List Value) (n j:Nat) (u:Value):Obj.mapSeq (·.setIfInBounds j u) { cls:=.type "list",data:=.seq its.toArray n }={ cls:=.type "list",data:=.seq (its.set j u).toArray n }:=by
 simp [Obj.mapSeq]
theorem Inv.lst {pins:List (Addr×Obj)} {σ:St} {H:Hp} {s:Shared} {p:Addr} {xs:List V} (I:Inv X pins σ H s) (h:H p=some (.lst xs)):
  ∃ (its:List Value) (n:Nat),Y4 xs its/\s.heap.get? p=some { cls:=.type "list",data:=.seq its.toArray n }/\xs.length<=sizeLine:=by
 obtain ⟨z,its,n,r,e⟩:=I.hok p _ h
 exact ⟨its,n,r,e,z⟩
theorem Inv.lstUpd {pins:List (Addr×Obj)} {σ:St} {H:Hp} {s:Shared} {p:Addr} {xs ys:List V} {its its':List Value} {n n':Nat} {f:Obj->Obj} (I:Inv X pins σ H s) (h:H p=some (.lst xs))
  (ho:s.heap.get? p=some { cls:=.type "list",data:=.seq its.toArray n }) (hf:f { cls:=.type "list",data:=.seq its.toArray n }={ cls:=.type "list",data:=.seq its'.toArray n' }) (r:Y4 ys its') (hz:ys.length<=sizeLine) (t:Nat):
  Inv X pins σ (upd H p (.lst ys)) { s with heap:=s.heap.update p f,toks:=t }:=by
 have e:(s.heap.update p f).get? p=some { cls:=.type "list",data:=.seq its'.toArray n' }:=by
  rw [Heap.get?_update_self f ho (by rw [hf] <;> rfl),hf]
 refine I.write (x:=p) (e:=p) (by rw [h];trivial) (.inl rfl) (fun b u hb q=>(Heap.get?_update_other _ _ (Ne.symm hb)).trans q) ⟨_,e⟩ ?_
 exact ⟨hz,its',n',r,e⟩
def qd7:V->V->V->Hp->(Hp->Prop)->Prop:=fun o i v H Q=>∃ p xs k j,o=.ref p/\i=.int k/\H p=some (.lst xs)/\ixN xs.length k=some j/\Q (upd H p (.lst (xs.set j v)))
theorem QO:qe8 X qd7:=by
 intro pins s σ H o i v ov iv u Q I ro ri rv h
 obtain ⟨p,xs,k,j,rfl,rfl,hp,hj,q⟩:=h
 cases ro
 obtain ⟨t,rfl⟩:=ri
 obtain ⟨its,n,r,ho,hz⟩:=I.lst hp
 obtain ⟨h1,h2,h3,h4⟩:=bP hj
 have hl:=r.length
 have hn:=Yv
 have I':Inv X pins σ (upd H p (.lst (xs.set j v))) { s with heap:=s.heap.update p (Obj.mapSeq (·.setIfInBounds j u)) }:=
  I.lstUpd hp ho (wV its n j u) (r.set rv j) (by rw [List.length_set];exact hz) s.toks
 by_cases h0:0<=k
 ·have hk:k.toNat=j:=by
   rw [seqIndex_of h0 h4] at h1
   exact Option.some.inj h1
  exact PySem.W.ki_setAt ho h0 (by omega) (by rw [List.size_toArray,← hl];exact h4) (by rw [hk];exact ⟨_,I',q⟩)
 ·have hk:(k+(its.toArray.size:Int)).toNat=j:=by
   rw [seqIndex_neg (by omega) h3] at h1
   rw [List.size_toArray,← hl]
   exact Option.some.inj h1
  exact PySem.W.ki_setBack ho (by omega) (by rw [List.size_toArray,← hl];exact h3) (by omega) (by rw [hk];exact ⟨_,I',q⟩)
theorem Zw (lo hi:Option Int) (n:Nat):(sliceBounds lo hi none n).1=((HT.sIx n 0 lo:Nat):Int)/\(sliceBounds lo hi none n).2.1=((HT.sIx n n hi:Nat):Int)/\(sliceBounds lo hi none n).2.2=1:=by
 refine ⟨?_,?_,rfl⟩
 ·cases lo with
  | none=>simp [sliceBounds,HT.sIx]
  | some i=>
   simp only [sliceBounds,HT.sIx,Option.getD_none,show (1:Int) > 0 by decide,if_true]
   by_cases h:i < 0
   ·simp only [h,if_true] <;> omega
   ·simp only [h,if_false] <;> omega
 ·cases hi with
  | none=>simp [sliceBounds,HT.sIx]
  | some i=>
   simp only [sliceBounds,HT.sIx,Option.getD_none,show (1:Int) > 0 by decide,if_true]
   by_cases h:i < 0
   ·simp only [h,if_true] <;> omega
   ·simp only [h,if_false] <;> omega
theorem Kt (its:List Value) (lo hi:Option Int):slicePick its.toArray lo hi none=((its.drop (HT.sIx its.length 0 lo)).take (HT.sIx its.length its.length hi - HT.sIx its.length 0 lo)).toArray:=by
 obtain ⟨h1,h2,h3⟩:=Zw lo hi its.toArray.size
 unfold slicePick
 rw [h1,h2,h3]
 simp only [sliceRange_one,pick_run,List.size_toArray] <;> rfl
def qfv (K:Frag):V->Option Int->Option Int->Hp->VK->Prop:=fun x lo hi H Q=>∃ a xs,x=.ref a/\SqL K H a xs/\∀ p,H p=none->Q (.ref p) (upd H p (.lst (Gb xs lo hi)))
theorem VQ:SlR X (qfv X.K):=by
 intro pins s σ H x v vl vu lo hi sl Q I rx hs pl pu h
 obtain ⟨a,xs,rfl,hx,q⟩:=h
 cases rx
 obtain ⟨its,r,ht,hz⟩:=I.list hx
 have hlen:=r.length
 refine ⟨"list",_,slot_list_getitem.lookup,ht.isList.typeIs,?_⟩
 refine wpAny_getItem_list_slice ht.isList hs pl pu .none (by simp) ?_ (by rw [List.size_toArray] <;> omega)
 rw [Kt,← hlen]
 refine ⟨.ref s.heap.objs.size,_,I.laid (t':=s.toks) (o:=.lst (Gb xs lo hi)) (fun b ob q=>Heap.get?_push_of_some _ q) (Nat.le_refl _) ?_,rfl,q _ (I.hok.fresh (Nat.le_refl _))⟩
 exact ⟨Nat.le_trans (Vu xs lo hi) hz,_,0,(r.drop (HT.sIx xs.length 0 lo)).take (HT.sIx xs.length xs.length hi - HT.sIx xs.length 0 lo),Heap.get?_push_size _ rfl⟩
theorem D6.or {f:Value} {r r':List V->Hp->VK->Prop} (h:D6 X f r) (h':D6 X f r'):D6 X f (fun xs H Q=>r xs H Q\/r' xs H Q):=by
 intro pins s σ H xs us Q I rs q
 rcases q with q | q
 ·exact h pins s σ H xs us Q I rs q
 ·exact h' pins s σ H xs us Q I rs q
theorem Yb:D6 X (.type "list") (fun xs H Q=>∃ p ys,xs=[.ref p]/\(SqL X.K H p ys\/SqT X.K H p ys)/\∀ l,H l=none->Q (.ref l) (upd H l (.lst ys))):=by
 intro pins s σ H xs us Q I r h
 obtain ⟨p,ys,rfl,hq,q⟩:=h
 obtain ⟨u,rfl,rx⟩:=fh r
 cases rx
 have fin:∀ (its:List Value),Y4 ys its->ys.length<=sizeLine->∀ (h':Heap) (c':Nat),(∀ b o',s.heap.get? b=some o'->h'.get? b=some o')->
   h'.get? s.heap.objs.size=some { cls:=.type "list",dict:=none,data:=.seq its.toArray c',slots:=#[] }->EP X pins σ Q (.ref s.heap.objs.size) { s with heap:=h' }:=fun its r' hz h' c' kp e=>
  ⟨.ref s.heap.objs.size,_,I.laid (t':=s.toks) kp (Nat.le_refl _) (show X4 X.prog X.w _ h' _ (.lst ys) from ⟨hz,its,c',r',e⟩),rfl,q _ (I.hok.fresh (Nat.le_refl _))⟩
 rcases hq with hq | hq
 ·obtain ⟨its,r',pl,hz⟩:=I.list hq
  have hlen:=r'.length
  obtain ⟨o,ho,hc,n,hd⟩:=pl.isList
  exact call_list_seq p (.inl rfl) ho hc hd (fun h' c' kp e=>fin its r' hz h' c' kp e) (by simp only [List.size_toArray] <;> omega)
 ·obtain ⟨its,r',pl,hz⟩:=I.tuple hq
  have hlen:=r'.length
  obtain ⟨o,ho,hc,n,hd⟩:=pl
  exact call_list_seq p (.inr rfl) ho hc hd (fun h' c' kp e=>fin its r' hz h' c' kp e) (by simp only [List.size_toArray] <;> omega)
def tyV (K:Frag) (T:String) (x:V) (H:Hp):Prop:=match x with
 | .str _=>T="str"
 | .int _=>T="int"
 | .ref p=>(T="list"/\∃ xs,SqL K H p xs)\/(T="tuple"/\∃ o,K.lookup p=some o/\o.cls=.type "tuple"/\o.dict=none)\/
   (T="dict"/\((∃ kvs,H p=some (.dK kvs))\/∃ kvs,H p=some (.dT kvs)))\/(T="set"/\∃ S n,H p=some (.set S n))
 | _=>False
theorem QC {pins:List (Addr×Obj)} {σ:St} {H:Hp} {s:Shared} {T:String} {x:V} {v:Value} (I:Inv X pins σ H s) (r:Y8 x v) (ty:tyV X.K T x H):
  s.TypeIs v T/\∀ a,v=.ref a->∃ ob,s.heap.get? a=some ob/\ob.dict=none:=by
 cases x with
 | str z=>
  obtain ⟨t,rfl⟩:=r
  cases (show T="str" from ty)
  exact ⟨typeIs_str s z t,fun _ e=>nomatch e⟩
 | int i=>
  obtain ⟨t,rfl⟩:=r
  cases (show T="int" from ty)
  exact ⟨typeIs_int s i t,fun _ e=>nomatch e⟩
 | ref p=>
  cases r
  rcases ty with ⟨rfl,xs,hq⟩ | ⟨rfl,o,hk,hc,hd⟩ | ⟨rfl,hk⟩ | ⟨rfl,S,n,hk⟩
  ·obtain ⟨its,_,pl,_⟩:=I.list hq
   refine ⟨pl.isList.typeIs,fun a e=>?_⟩
   cases e
   obtain ⟨o,n,e,c,hd,_⟩:=pl
   exact ⟨o,e,hd⟩
  ·refine ⟨⟨o,I.kIn p o hk,hc⟩,fun a e=>?_⟩
   cases e
   exact ⟨o,I.kIn _ o hk,hd⟩
  ·have z:∃ o,s.heap.get? p=some o/\o.ExactDict:=by
    rcases hk with ⟨kvs,hk⟩ | ⟨kvs,hk⟩
    ·obtain ⟨_,_,_,_,o,_,_,e,ex,_⟩:=I.hok p _ hk
     exact ⟨o,e,ex⟩
    ·obtain ⟨_,_,_,_,o,_,_,e,ex,_⟩:=I.hok p _ hk
     exact ⟨o,e,ex⟩
   obtain ⟨o,e,ex⟩:=z
   refine ⟨⟨o,e,ex.1⟩,fun a e2=>?_⟩
   cases e2
   exact ⟨o,e,ex.2.1⟩
  ·obtain ⟨o,_,_,_,e,ex,_⟩:=I.hok p _ hk
   refine ⟨⟨o,e,ex.1⟩,fun a e2=>?_⟩
   cases e2
   exact ⟨o,e,ex.2.1⟩
 | _=>exact False.elim ty
def qfl (K:Frag) (T:String) (r:V->List V->Hp->VK->Prop) (to:TE):TE:=fun σ H Q=>to σ H fun x H1=>tyV K T x H1/\r x [] H1 Q
def tBM (K:Frag) (T:String) (r:V->List V->Hp->VK->Prop) (to:TE) (t:TA):TE:=fun σ H Q=>to σ H fun x H1=>tyV K T x H1/\t σ H1 fun xs H2=>r x xs H2 Q
variable {o e:Expr} {es:List Expr} {to:TE} {t:TA} {name:Str} {apos cpos:Pos} {T id:String} {r:V->List V->Hp->VK->Prop}
theorem qch (pa:PlainAttrs T) (slot:Slot T name id) (hty:typeOf (.builtin id)=pure (.type "method_descriptor")) (hm:MtR X id r) (ho:PE X o to)
  (hbase:attributeBase o name X.env (eval o X.env)=eval o X.env:=by rfl) (hline:(apos.endLine == cpos.line)=true:=by rfl):PE X (.Call (.Attribute o name apos) [] [] cpos) (qfl X.K T r to):=by
 intro pins s σ H Q I h
 refine wpAny_Call_method0_late hbase hline (thn (ho pins s σ H _ I h) fun v s1 ⟨x,H1,I1,r1,ty,q1⟩=>?_)
 obtain ⟨h1,h2⟩:=QC I1 r1 ty
 exact ⟨T,id,pa,slot,hty,h1,h2,Calls.callWith_builtin rfl (PySem.evalArgs_none (hm pins s1 σ H1 x [] v [] Q I1 r1 .nil q1))⟩
theorem qek (pa:PlainAttrs T) (slot:Slot T name id) (hty:typeOf (.builtin id)=pure (.type "method_descriptor")) (hm:MtR X id r) (ho:PE X o to) (ha:PA X (e::es) t)
  (hbase:attributeBase o name X.env (eval o X.env)=eval o X.env:=by rfl)
  (hfew:((backTo cpos (starEach (e::es) X.env)).all (fun x=>!x.1) && (backToKw cpos (keywordEach [] X.env)).all (fun x=>x.1.isSome)
   && decide ((e::es).length+([]:List Keyword).length+(if ([]:List Keyword).isEmpty then 0 else 1) < 30))=true:=by rfl)
  (hline:(apos.endLine == cpos.line)=true:=by rfl) (hs:starEach (e::es) X.env=(false,eval e X.env)::starEach es X.env:=by rfl) (hplain:(backTo cpos (starEach es X.env)).any (·.1)=false:=by rfl):
  PE X (.Call (.Attribute o name apos) (e::es) [] cpos) (tBM X.K T r to t):=by
 intro pins s σ H Q I h
 refine wpAny_Call_method_late hbase hfew hline rfl (thn (ho pins s σ H _ I h) fun v s1 ⟨x,H1,I1,r1,ty,q1⟩=>?_)
 obtain ⟨h1,h2⟩:=QC I1 r1 ty
 refine ⟨T,id,pa,slot,hty,h1,h2,?_⟩
 have hA:=ha cpos pins s1 σ H1 _ I1 q1
 rw [hs] at hA ⊢
 refine Calls.callWith_builtin (by show (false || (backTo cpos (starEach es X.env)).any (·.1))=false;rw [hplain] <;> rfl) (Calls.evalArgs_plain ?_)
 exact thn hA fun us s2 ⟨vs,H2,I2,r2,q2⟩=>hm pins s2 σ H2 x vs v us Q I2 r1 r2 q2
/- xs.append(e),list.index on a module's tuple .. are MtR facts of 06m -/
end
def MtM (X:Cx) (id:String) (r:V->List V->Hp->VK->Prop):Prop:=
 ∀ (pins:List (Addr×Obj)) (s:Shared) (σ:St) (H:Hp) (x:V) (xs:List V) (v:Value) (us:List Value) (Q:VK),Inv X pins σ H s->Y8 x v->Y4 xs us->r x xs H Q->
  wpAny (model X.prog X.w) X.A (call (.builtin id) (v::us)) (EP X pins σ Q) X.xe s
theorem Y4.one:∀ {x:V} {us:List Value},Y4 [x] us->∃ u,us=[u]/\Y8 x u
 | _,_,.cons r .nil=>⟨_,rfl,r⟩
theorem Y4.zero:∀ {us:List Value},Y4 [] us->us=[]
 | _,.nil=>rfl
theorem Y4.reverse {xs:List V} {us:List Value} (h:Y4 xs us):Y4 xs.reverse us.reverse:=by
 induction h with
 | nil=>exact .nil
 | cons r t ih=>rw [List.reverse_cons,List.reverse_cons];exact Y4.append ih (.cons r .nil)
section
variable {X:Cx} {pins:List (Addr×Obj)} {σ:St} {H:Hp} {s:Shared} {l b:Addr} {xs ys zs:List V}
theorem Inv.lset {its its':List Value} {n:Nat} {f:Array Value->Array Value} {t':Nat} (I:Inv X pins σ H s) (hH:H l=some (.lst xs))
  (e:s.heap.get? l=some { cls:=.type "list",data:=.seq its.toArray n }) (hf:f its.toArray=its'.toArray) (hv:Y4 ys its') (hz:ys.length<=sizeLine):
  Inv X pins σ (upd H l (.lst ys)) { s with heap:=s.heap.update l (Obj.mapSeq f),toks:=t' }:=by
 have q:=PySem.IsL.update e f
 rw [hf] at q
 refine I.write (x:=l) (e:=l) (by rw [hH];exact trivial) (.inl rfl) (fun b' u hb hu=>(Heap.get?_update_other s.heap (Obj.mapSeq f) (Ne.symm hb)).trans hu) ⟨_,q⟩ ?_
 exact ⟨hz,its',_,hv,q⟩
theorem Inv.lnew {its:List Value} {t':Nat} (I:Inv X pins σ H s) (hv:Y4 ys its) (hz:ys.length<=sizeLine):
  Inv X pins σ (upd H s.heap.objs.size (.lst ys)) { s with heap:=s.heap.push { cls:=.type "list",data:=.seq its.toArray },toks:=t' }:=
 I.laid (fun _ _ q=>Heap.get?_push_of_some _ q) (Nat.le_refl _) ⟨hz,its,0,hv,Heap.get?_push_size _ rfl⟩
theorem Inv.fresh (I:Inv X pins σ H s):H s.heap.objs.size=none:=I.hok.fresh (Nat.le_refl _)
theorem Inv.lstM (I:Inv X pins σ H s) (hH:H l=some (.lst xs)):xs.length<=sizeLine/\∃ (its:List Value) (n:Nat),Y4 xs its/\xs.length=its.length/\s.heap.get? l=some { cls:=.type "list",data:=.seq its.toArray n }:=by
 obtain ⟨z,its,n,r,e⟩:=I.hok l _ hH
 exact ⟨z,its,n,r,r.length,e⟩
end
section
variable {X:Cx}
def bA:V->List V->Hp->VK->Prop:=fun x vs H Q=>∃ l xs y,x=.ref l/\vs=[y]/\H l=some (.lst xs)/\xs.length < sizeLine/\Q .non (upd H l (.lst (xs++[y])))
theorem mL:MtM X "list.append" bA:=by
 intro pins s σ H x vs v us Q I rx rv h
 obtain ⟨l,xs,y,rfl,rfl,hH,hz,q⟩:=h
 cases rx
 obtain ⟨u,rfl,ru⟩:=rv.one
 obtain ⟨z,its,n,r,hl,e⟩:=I.lstM hH
 refine call_meets F.slot_list_append ⟨_,e,rfl⟩ F.entry_list_append (F.args_list_append_2 _ _) (PySem.list_append l its.toArray n u (by rw [List.size_toArray];omega)) ⟨e,?_⟩
 refine ⟨.non,_,I.lset (its':=its++[u]) hH e (by simp) (r.append (.cons ru .nil)) ?_,rfl,q⟩
 rw [List.length_append,List.length_singleton]
 omega
def jO:V->List V->Hp->VK->Prop:=fun x vs H Q=>∃ l xs,x=.ref l/\vs=[]/\H l=some (.lst xs)/\Q .non (upd H l (.lst xs.reverse))
theorem wQ:MtM X "list.reverse" jO:=by
 intro pins s σ H x vs v us Q I rx rv h
 obtain ⟨l,xs,rfl,rfl,hH,q⟩:=h
 cases rx
 have hus:=rv.zero
 subst hus
 obtain ⟨z,its,n,r,hl,e⟩:=I.lstM hH
 refine call_meets F.slot_list_reverse ⟨_,e,rfl⟩ F.entry_list_reverse (F.args_list_reverse_1 _) (AutoSeq1.list_reverse_list_0 l its.toArray n (by rw [List.size_toArray];omega)) ⟨e,?_⟩
 refine ⟨.non,_,I.lset (its':=its.reverse) hH e (by simp) r.reverse ?_,rfl,q⟩
 rw [List.length_reverse]
 omega
def qb0:R2:=fun x y H Q=>∃ l b xs zs,x=.ref l/\y=.ref b/\H l=some (.lst xs)/\H b=some (.lst zs)/\xs.length+zs.length<=sizeLine/\∀ p,H p=none->Q (.ref p) (upd H p (.lst (xs++zs)))
theorem qco:OpR X (binaryOp .Add) qb0:=by
 intro pins s σ H x y v u Q I rx ry h
 obtain ⟨l,b,xs,zs,rfl,rfl,hH,hB,hz,q⟩:=h
 cases rx
 cases ry
 obtain ⟨z,its,n,r,hl,e⟩:=I.lstM hH
 obtain ⟨z2,its2,n2,r2,hl2,e2⟩:=I.lstM hB
 refine PySem.P.add_list e e2 ?_ (by rw [List.size_toArray,List.size_toArray];omega)
 have ea:its.toArray++its2.toArray=(its++its2).toArray:=by simp
 rw [ea]
 exact ⟨.ref _,_,I.lnew (t':=s.toks) (r.append r2) (by rw [List.length_append];omega),rfl,q _ I.fresh⟩
end
section
variable {prog:Program} {w:World} {A:Around} {E:Value->Shared->Prop} {s:Shared}
set_option maxRecDepth 100000 in
end
section
variable {X:Cx}
end
end L2
namespace Att
open PySem PySem.W PySem.Calls PyProof.Rows
theorem Wb {P:Params} {h:Heap}:∀ (ns:List Int) (vs:List Value),WellAll P h vs (ns.map WData.int)->IntsAre vs ns:=by
 intro ns
 induction ns with
 | nil=>
  intro vs w
  rw [List.map_nil] at w
  cases w
  exact .nil
 | cons n ns ih=>
  intro vs w
  rw [List.map_cons] at w
  cases w with
  | cons a b=>
   cases a
   exact .cons _ _ (ih _ b)
theorem fR {l:OpenLaw} {n:Nat} (hn:l.most=some n) {P:Params} {h:Heap} {args:List WData} {vals:List Value}
  (hpre:l.row.toRowW.claim.pre args=true) (hwl:WellAll P h vals args):
  ∃ a vs ns,vals=[Value.ref a]/\args=[WData.list (ns.map WData.int)]/\h.get? a=some { cls:=.type "list",data:=.seq vs.toArray }/\IntsAre vs ns/\ns.length<=n:=by
 have hsh:WShape.hasAll [] args [.list .int]=true:=(pre_splitW hpre).1
 have hc:l.pre.holds [] { args:=args }=true:=(pre_splitW hpre).2
 obtain ⟨d,r,rfl,h1,h2⟩:=hasAllW_cons hsh
 obtain rfl:=hasAllW_nil h2
 obtain ⟨xs,rfl,h3⟩:=hasW_list h1
 obtain ⟨ns,rfl⟩:=items_int h3
 have hlen:ns.length<=n:=by
  unfold OpenLaw.pre at hc
  have h4:(WTm.not (.lt (.lit (.int (n:Int))) (.len (.arg 0)))).holds [] { args:=[.list (ns.map .int)] }=true:=by
   have h4:=(holds_andW hc).1
   rw [hn] at h4
   exact h4
  have h5:=condW_of h4 (w_not (w_lt w_lit (w_len_list (w_arg rfl))))
  rw [List.length_map] at h5
  refine Nat.le_of_not_lt fun q=>?_
  have q':(n:Int) < ((ns.length:Nat):Int):=by omega
  first
   | (rw [decide_eq_true q'] at h5;exact absurd h5 (by decide))
   | (simp at h5;omega)
 cases hwl with
 | cons w1 w2=>
  cases w2
  cases w1 with
  | list ho hall=>exact ⟨_,_,ns,rfl,rfl,ho,Wb ns _ hall,hlen⟩
theorem mC (l:OpenLaw) (args:List WData):l.row.toRowW.claim.post args (.bool true) args=true:=
 postW_of (r:=l.row.toRowW) (X:=(true == true))
  (show WShape.has [] (.bool true) .bool=true by first | rfl | decide | simp [WShape.has,WShape.arms,WShape.armsAll])
  (show (WTm.eq .res (.lit (.bool true))).value [] { args:=args,res:=some (.bool true),after:=args }=some (.bool (true == true)) from w_eq_bool (w_res rfl) w_lit) rfl
theorem yT {l:OpenLaw} {n:Nat} {q:Program} {loose:List Str} {XP:(Str->Option Value)->Heap->Prop} {YP:World->Heap->Prop} {d:DefRec}
  (hn:l.most=some n) (hdf:d.params.defaults=[])
  (call:∀ (w:World) (s₀ s₁:Shared) (mg mb:Str->Option Value) (fa:Addr) (o:Obj) (pm cd doc:Value) (a:Addr) (vs:List Value) (ns:List Int),
   Ground q loose [] XP w s₀ mg mb s₁.heap->YP w s₁.heap->
   s₁.heap.get? fa=some o->o.data=.func (docDef d.name d.params d.body d.scope pm cd doc)->s₁.heap.CodeRec cd d.name->mg d.name=some (.ref fa)->
   s₁.heap.get? a=some { cls:=.type "list",data:=.seq vs.toArray }->IntsAre vs ns->ns.length<=n->s₁.gens=#[]->
   codeAny (model l.prog w) callerA (.call (.ref fa) ⟨[.ref a],[]⟩) (fun r s'=>r=.ok (.ret (.bool true))/\OldK s₁.heap s'.heap/\s'.os=s₁.os/\AllBare s'.gens) s₁):
  WalkO q loose XP YP l.row.toRowW d [] (fun f vs=>PySem.call f vs):=by
 intro w s₀ s₁ mg mb G Y fa o pm cd doc dV kV ho hd hcd hD hmg hg args vals as hpre hlay hrd hwl hlo
 obtain rfl:dV=.none:=Dflts.none hD hdf
 obtain rfl:kV=.none:=Dflts.noKw hD
 obtain ⟨a,vs,ns,rfl,rfl,hobj,hints,hlen⟩:=fR hn hpre hwl
 refine enter_call (codeAny_mono (call w s₀ s₁ mg mb fa o pm cd doc a vs ns G Y ho (fd_plain hd) hcd hmg hobj hints hlen hg) fun r s' hq=>?_)
 obtain ⟨rfl,h2,h3,h4⟩:=hq
 exact ⟨.inl ⟨.bool true,.bool true,[],rfl,fun _=>rfl,.bool true,mC l _,fun _=>⟨List.Pairwise.nil,fun _ hm=>(nomatch hm)⟩⟩,h2,h3,h4⟩
section
variable {prog:Program} {w:World} {A:Around} {E:Value->Shared->Prop} {s:Shared} {K:Frag}
end
end Att
namespace L2
open PySem PySem.Spec PyProof.Rows
theorem Gm:∀ {vs:List Value} {ns:List Int},IntsAre vs ns->Y4 (ns.map V.int) vs
 | _,_,.nil=>.nil
 | _,_,.cons n t h=>.cons ⟨t,rfl⟩ (Gm h)
def qdm (H:Hp):Prop:=∀ b,H b=none\/∃ o xs,H b=some (.frz o (.lst xs))
theorem JI {P:Program} {w:World} {K:Frag} {mg mb:Str->Option Value} {CX:CXT} {k:Nat} {fa a:Addr} {fd:FuncData} {x:Str} {sp:Sp} {s₁:Shared} {vs:List Value} {ns:List Int}
  (KX:K.In s₁.heap) (hns:s₁.heap.Ns mainGlobals mg) (hb:s₁.heap.Ns builtinsNs mb) (hbb:∀ x:Str,x≠"__name__"->mb x=bootBuiltins x) (hlim:s₁.heap.NoLimit) (hg:s₁.gens=#[])
  (ha:s₁.heap.get? a=some { cls:=.type "list",data:=.seq vs.toArray }) (hi:IntsAre vs ns) (hl:ns.length<=sizeLine) (hr:Room k callerA)
  (F:∀ base:Heap,K.In base->base.Ns mainGlobals mg->FnOk P w K mg base CX k fa fd [x] sp) (hbind:∀ (s:Shared) (u:Value),BindsTo s fd ⟨[u],[]⟩ [(x,u)])
  (hsp:∀ H:Hp,qdm H->SqL K H a (ns.map V.int)->sp [.ref a] H (fun v _=>v=.bl true) fun _ _ _=>False)
  (hCX:∀ H e s',CX [] H s₁ (fun _ _ _=>False) e s'->False):
  codeAny (model P w) callerA (.call (.ref fa) ⟨[.ref a],[]⟩) (fun r s'=>r=.ok (.ret (.bool true))/\OldK s₁.heap s'.heap/\s'.os=s₁.os/\AllBare s'.gens) s₁:=by
 have rv:=Gm hi
 have lenV:=hi.length
 have core:∀ H:Hp,qdm H->SqL K H a (ns.map V.int)->HOk P w H s₁.heap->(∀ b,H b≠none->b=a)->(H a≠none->K.lookup a=none)->
   codeAny (model P w) callerA (.call (.ref fa) ⟨[.ref a],[]⟩) (fun r s'=>r=.ok (.ret (.bool true))/\OldK s₁.heap s'.heap/\s'.os=s₁.os/\AllBare s'.gens) s₁:=by
  intro H hO hS hok hA hK
  have base_of:∀ {b:Addr} {o:Obj},s₁.heap.get? b=some o->H b=none->(zF s₁.heap H).get? b=some o:=fun e n=>JP e n
  have noA:∀ {b:Addr} {o:Obj} {es:Array DictEntry} {ep:Nat},s₁.heap.get? b=some o->o.data=.dict es ep->H b=none:=fun {b o es ep} e d=>by
   cases q:H b with
   | none=>rfl
   | some u=>
    have e':b=a:=hA b (by rw [q];simp)
    subst e'
    rw [ha] at e;cases e
    have d':Data.seq vs.toArray _=Data.dict es ep:=d
    cases d'
  have nsK:∀ {b:Addr} {m:Str->Option Value},s₁.heap.Ns b m->(zF s₁.heap H).Ns b m:=fun {b m} ⟨o,es,ep,e,d,r⟩=>⟨o,es,ep,base_of e (noA e d),d,r⟩
  have hKb:K.In (zF s₁.heap H):=fun b o e=>base_of (KX b o e) (by
   cases q:H b with
   | none=>rfl
   | some u=>
    have e':b=a:=hA b (by rw [q];simp)
    subst e'
    rw [hK (by rw [q];simp)] at e;cases e)
  have hM:Mod K mg (zF s₁.heap H):=⟨hKb,nsK hns,⟨mb,nsK hb,hbb⟩,let ⟨mc,h1,h2⟩:=hlim;⟨mc,nsK h1,h2⟩⟩
  have e0:Env0 P w K mg (zF s₁.heap H) callerA [] s₁ H:=⟨rfl,hM,fun b o e=>WY e,Nat.le_of_eq (mY _ _),trivial,fun b hb=>absurd (show b∈([]:List Addr) from hb) (by simp),hok,.of_eq hg⟩
  refine codeAny_mono ((F _ hKb (nsK hns)).run callerA [] s₁ H ⟨[.ref a],[]⟩ [.ref a] [.ref a] _ _ hr e0 (hbind s₁ (.ref a)) (.cons rfl .nil) (hsp H hO hS)) fun r s' h=>?_
  cases r with
  | error e=>exact (hCX H e s' h).elim
  | ok fl=>
   cases fl with
   | next=>exact False.elim h
   | brk=>exact False.elim h
   | cont=>exact False.elim h
   | ret u=>
    obtain ⟨v,H',os,bare,un,hok',r',q⟩:=h
    have q':v=.bl true:=q
    subst q'
    obtain rfl:u=Value.bool true:=r'
    refine ⟨rfl,OldK.of_keep fun b o e=>?_,os,bare⟩
    cases q:H b with
    | none=>exact un.keep b o e q (by intro z;exact absurd (show b∈([]:List Addr) from z) (by simp)) (by simp)
    | some u=>
     rcases hO b with z | ⟨ob,xs,z⟩
     ·rw [q] at z;cases z
     ·have z2:=un.frzs b ob _ z
      obtain ⟨e1,_⟩:=hok b _ z
      obtain ⟨e2,_⟩:=hok' b _ z2
      rw [e] at e1;cases e1
      exact e2
 cases hk:K.lookup a with
 | some o=>
  have e:=KX a o hk
  rw [ha] at e
  cases e
  refine core (fun _=>none) (fun _=>.inl rfl) (.inr ⟨_,vs.toArray,_,hk,rfl,rfl,rfl,by rw [List.size_toArray,lenV];exact hl,by simpa using rv⟩) (fun b u z=>by have z':(none:Option HO)=some u:=z;cases z') (fun b z=>absurd rfl z) fun z=>absurd rfl z
 | none=>
  refine core (fun b=>if b=a then some (.frz { cls:=.type "list",data:=.seq vs.toArray } (.lst (ns.map V.int))) else none) (fun b=>?_) (.inl (.inr ⟨{ cls:=.type "list",data:=.seq vs.toArray },if_pos rfl⟩)) (fun b u z=>?_) (fun b z=>?_) fun _=>hk
  ·by_cases hb:b=a
   ·exact .inr ⟨_,_,if_pos hb⟩
   ·exact .inl (if_neg hb)
  ·by_cases hb:b=a
   ·have z':=(if_pos hb).symm.trans z
    cases z'
    subst hb
    exact ⟨ha,by rw [List.length_map];exact hl,vs,_,rv,ha⟩
   ·have z':=(if_neg hb).symm.trans z
    cases z'
  ·by_cases hb:b=a
   ·exact hb
   ·exact absurd (if_neg hb) z
theorem VE {l:PySem.W.OpenLaw} {n k:Nat} {q:Program} {loose:List Str} {XP:(Str->Option Value)->Heap->Prop} {YP:World->Heap->Prop} {d:DefRec} {K:Params->Frag} {CX:World->CXT} {sp:World->Sp} {x:Str}
  (hn:l.most=some n) (hn2:n<=sizeLine) (hdf:d.params.defaults=[]) (hr:Room k callerA)
  (hY:∀ (w:World) (h:Heap),YP w h->(K w.params).In h)
  (F:∀ (w:World) (mg:Str->Option Value) (fa:Addr) (h:Heap),(K w.params).In h->h.Ns mainGlobals mg->mg d.name=some (.ref fa)->
   ∃ fd:FuncData,(∀ (s:Shared) (u:Value),BindsTo s fd ⟨[u],[]⟩ [(x,u)])/\
    ∀ base:Heap,(K w.params).In base->base.Ns mainGlobals mg->FnOk l.prog w (K w.params) mg base (CX w) k fa fd [x] (sp w))
  (hsp:∀ (w:World) (H:Hp) (a:Addr) (ns:List Int),ns.length<=n->qdm H->SqL (K w.params) H a (ns.map V.int)->sp w [.ref a] H (fun v _=>v=.bl true) fun _ _ _=>False)
  (hCX:∀ (w:World) (H:Hp) (s:Shared) (e:Value) (s':Shared),CX w [] H s (fun _ _ _=>False) e s'->False):
  PySem.W.WalkO q loose XP YP l.row.toRowW d [] (fun f vs=>PySem.call f vs):=by
 refine Att.yT hn hdf fun w s₀ s₁ mg mb fa o pm cd doc a vs ns G Y ho hd hcd hmg hobj hints hlen hg=>?_
 have KX:=hY w _ Y
 obtain ⟨fd,hb,hF⟩:=F w mg fa _ KX G.T.g hmg
 exact JI KX G.T.g G.T.b G.T.builtins G.T.nolimit hg hobj hints (Nat.le_trans hlen hn2) hr hF hb (fun H hO hS=>hsp w H a ns hlen hO hS) fun H e s'=>hCX w H s₁ e s'
def A4 (s:Stmt) (j:Nat):Stmt:=match s with
 | .ClassDef _ _ _ body _ _ _ _ _ _ _=>body.getD j (.Pass ⟨0,0,0,0⟩)
 | _=>.Pass ⟨0,0,0,0⟩
def J9 (s:Stmt):Arguments:=match s with
 | .FunctionDef _ a _ _ _ _ _ _ _ _=>a
 | _=>{ posonlyargs:=[],args:=[],vararg:=none,kwonlyargs:=[],kw_defaults:=[],kwarg:=none,defaults:=[] }
def J3 (s:Stmt):List Stmt:=match s with
 | .FunctionDef _ _ b _ _ _ _ _ _ _=>b
 | _=>[]
def Q5 (s:Stmt):Scope:=match s with
 | .FunctionDef _ _ _ _ _ _ sc _ _ _=>sc
 | _=>{ kind:=.function,names:=[],isGenerator:=false,isCoroutine:=false }
abbrev CX0:CXT:=fun _ _ _ _ _ _=>False
abbrev E0:XK:=fun _ _ _=>False
structure Fun (K:Frag) (x qual:Str) (st:Stmt) (f:Addr) (fd:FuncData):Prop where
 ex:∃ (oc:Value) (od:Option Addr) (kV doc pm:Value) (an:Option Addr) (cdv ct:Value) (osl:Array (Option Value)),
  fd=fnOf x qual (J9 st) (J3 st) (Q5 st) .none kV doc pm an cdv ct/\K.lookup f=some ⟨oc,od,.func fd,osl⟩/\codeIn K cdv qual=true
 kp:keepIn K (.ref f)=true
section
variable {P:Program} {w:World} {K:Frag} {mg:Str->Option Value} {base:Heap}
theorem Fun.ok {x qual:Str} {st:Stmt} {f:Addr} {fd:FuncData} {N ps:List Str} {k:Nat} {sp:Sp} (F:Fun K x qual st f fd) (S:FnScope N ps (Q5 st)) (len:∀ vs H Q E,sp vs H Q E->vs.length=ps.length)
  (hbody:∀ (cdv:Value) (A:Around) (outer:List Env) (s:Shared) (H:Hp) (vs:List V) (Q:VK) (E:XK),Room k (A.deeper (envOfC qual (Q5 st) s.heap.objs.size f cdv))->sp vs H Q E->
   ∃ t,PSs (Ql CX0 P w K mg base N qual (Q5 st) f cdv A outer s H E).nox (J3 st) t/\t { nx:=fun _ H'=>Q .non H',rt:=Q } (start N vs) H):FnOk P w K mg base CX0 (k+1) f fd ps sp:=by
 obtain ⟨oc,od,kV,doc,pm,an,cdv,ct,osl,rfl,lk,hcd⟩:=F.ex
 refine bR lk hcd S len fun A outer s H vs Q E hr hsp=>?_
 obtain ⟨t,h,q⟩:=hbody cdv A outer s H vs Q E hr hsp
 exact ⟨t,h.nox,q⟩
end
theorem Yh {n:Nat} (h:n<=1000):n < sizeLine:=Nat.lt_of_le_of_lt h (by decide)
section
variable {X:Cx}
theorem pv (i:Nat) {x:Str} {pos:Pos} (hN:X.N[i]?=some x:=by rfl) (hv:Vis X.env.scope x:=by first | exact Or.inl rfl | exact Or.inr (Or.inl rfl) | exact Or.inr (Or.inr rfl)) (hd:(x == ("__debug__":Str))=false:=by decide)
  (hcd:(x == ("__classdict__":Str))=false:=by decide):PE X (.Name x pos) (Vx i):=mi hN hv hd hcd
end
def yU (H H':Hp):Prop:=∀ b o,H b=some o->H' b=some o
theorem yU.refl (H:Hp):yU H H:=fun _ _ h=>h
theorem yU.trans {H H1 H2:Hp} (a:yU H H1) (b:yU H1 H2):yU H H2:=fun c o h=>b c o (a c o h)
theorem yU.free {H H':Hp} (e:yU H H') {l:Addr} (h:H' l=Option.none):H l=Option.none:=by
 cases q:H l with
 | none=>rfl
 | some o=>
  rw [e l o q] at h
  cases h
section
variable {κ:Type} [DecidableEq κ]
def kd (kvs:List (κ×V)) (k:κ):Option V:=(kvs.find? fun kv=>decide (kv.1=k)).map (·.2)
def gr (kvs:List (κ×V)) (k:κ) (v:V):List (κ×V):=
 if (kvs.any fun kv=>decide (kv.1=k))=true then kvs.map (fun kv=>if kv.1=k then (kv.1,v) else kv) else kvs++[(k,v)]
def Vs (kvs:List (κ×V)) (k:κ):List (κ×V):=kvs.filter fun kv=>decide (kv.1≠k)
theorem Zt {p:κ×V} {r:List (κ×V)} {k:κ} (e:p.1=k):kd (p::r) k=some p.2:=by simp [kd,List.find?_cons,e]
theorem fj {p:κ×V} {r:List (κ×V)} {k:κ} (e:¬ p.1=k):kd (p::r) k=kd r k:=by simp [kd,List.find?_cons,e]
theorem Wy (k:κ):∀ kvs:List (κ×V),(kvs.any fun kv=>decide (kv.1=k))=(kd kvs k).isSome
 | []=>rfl
 | p::r=>by
  rw [List.any_cons]
  by_cases e:p.1=k
  ·simp only [Zt e,decide_eq_true e,Bool.true_or,Option.isSome_some]
  ·rw [fj e,decide_eq_false e,Bool.false_or];exact Wy k r
theorem ko (kvs:List (κ×V)) (k:κ) (v:V):(gr kvs k v).length<=kvs.length+1:=by
 unfold gr
 split
 ·rw [List.length_map];omega
 ·rw [List.length_append,List.length_cons,List.length_nil];omega
theorem gk.isSome_eq {o:Option V} {u:Option Value} (r:gk o u):o.isSome=u.isSome:=by
 cases o with
 | none=>cases u with
  | none=>rfl
  | some _=>exact (show False from r).elim
 | some _=>cases u with
  | none=>exact (show False from r).elim
  | some _=>rfl
theorem gk.getD {o:Option V} {u:Option Value} {d:V} {d':Value} (r:gk o u) (rd:Y8 d d'):Y8 (o.getD d) (u.getD d'):=by
 cases o with
 | none=>cases u with
  | none=>exact rd
  | some _=>exact (show False from r).elim
 | some _=>cases u with
  | none=>exact (show False from r).elim
  | some _=>exact r
theorem KV.val {kvs:List (κ×V)} {vs:List (κ×Value)} (r:KV kvs vs) (k:κ):gk (kd kvs k) (valueAt vs k):=by
 unfold KV at r
 induction r with
 | nil=>exact True.intro
 | @cons p q ps qs h t ih=>
  obtain ⟨h1,h2⟩:=h
  by_cases e:p.1=k
  ·have e':q.1=k:=h1.symm.trans e
   have b:valueAt (q::qs) k=some q.2:=by simp [valueAt,List.find?_cons,e']
   rw [Zt e,b];exact h2
  ·have e':¬ q.1=k:=fun z=>e (h1.trans z)
   have b:valueAt (q::qs) k=valueAt qs k:=by simp [valueAt,List.find?_cons,e']
   rw [fj e,b];exact ih
theorem KV.any {kvs:List (κ×V)} {vs:List (κ×Value)} (r:KV kvs vs) (k:κ):(kvs.any fun kv=>decide (kv.1=k))=vs.any fun kv=>decide (kv.1=k):=by
 unfold KV at r
 induction r with
 | nil=>rfl
 | cons h t ih=>rw [List.any_cons,List.any_cons,ih,h.1]
theorem KV.repl {kvs:List (κ×V)} {vs:List (κ×Value)} (r:KV kvs vs) (k:κ) {y:V} {u:Value} (ry:Y8 y u):
  KV (kvs.map fun kv=>if kv.1=k then (kv.1,y) else kv) (vs.map fun kv=>if kv.1=k then (kv.1,u) else kv):=by
 unfold KV at r ⊢
 induction r with
 | nil=>exact .nil
 | @cons p q ps qs h t ih=>
  rw [List.map_cons,List.map_cons]
  refine .cons ?_ ih
  obtain ⟨h1,h2⟩:=h
  by_cases e:p.1=k
  ·rw [if_pos e,if_pos (h1.symm.trans e)];exact ⟨h1,ry⟩
  ·rw [if_neg e,if_neg (fun z=>e (h1.trans z))];exact ⟨h1,h2⟩
theorem KV.put {kvs:List (κ×V)} {vs:List (κ×Value)} (r:KV kvs vs) (k:κ) {y:V} {u:Value} (ry:Y8 y u):KV (gr kvs k y) (stored vs k u):=by
 unfold gr stored
 rw [r.any k]
 by_cases e:(vs.any fun kv=>decide (kv.1=k))=true
 ·rw [if_pos e,if_pos e];exact r.repl k ry
 ·rw [if_neg e,if_neg e];exact Paired.snoc r ⟨rfl,ry⟩
theorem KV.drop {kvs:List (κ×V)} {vs:List (κ×Value)} (r:KV kvs vs) (k:κ):KV (Vs kvs k) (without vs k):=by
 unfold KV at r ⊢
 unfold Vs without
 induction r with
 | nil=>exact .nil
 | @cons p q ps qs h t ih=>
  obtain ⟨h1,h2⟩:=h
  rw [List.filter_cons,List.filter_cons]
  by_cases e:p.1=k
  ·have a:¬ decide (p.1≠k)=true:=by simp [e]
   have b:¬ decide (q.1≠k)=true:=by simp [h1.symm.trans e]
   rw [if_neg a,if_neg b];exact ih
  ·have e':¬ q.1=k:=fun z=>e (h1.trans z)
   have a:decide (p.1≠k)=true:=by simp [e]
   have b:decide (q.1≠k)=true:=by simp [e']
   rw [if_pos a,if_pos b];exact .cons ⟨h1,h2⟩ ih
theorem KV.keys {kvs:List (κ×V)} {vs:List (κ×Value)} (r:KV kvs vs):kvs.map (·.1)=vs.map (·.1):=by
 unfold KV at r
 induction r with
 | nil=>rfl
 | cons h t ih=>rw [List.map_cons,List.map_cons,ih,h.1]
theorem KV.length {kvs:List (κ×V)} {vs:List (κ×Value)} (r:KV kvs vs):kvs.length=vs.length:=Paired.length r
theorem YD (kvs:List (κ×V)) (k:κ):(Vs kvs k).length<=kvs.length:=List.length_filter_le _ _
end
theorem Vp {P:Program} {w:World} {k:Key} {u:Value} (r:Y8 (kV k) u):(W7 P w).is k u=true:=by
 cases k with
 | inl i=>obtain ⟨t,e⟩:=(show ∃ t,u=Value.int i t from r);subst e;exact vD P w i t
 | inr x=>obtain ⟨t,e⟩:=(show ∃ t,u=Value.str x t from r);subst e;exact vC P w x t
theorem Bg {P:Program} {w:World}:∀ {ks:List Key} {us:List Value},Y4 (ks.map kV) us->ItemsAre (W7 P w) ks us
 | [],_,r=>by rw [List.map_nil] at r;cases r;exact .nil
 | k::ks,_,r=>by
  rw [List.map_cons] at r
  cases r with
  | cons h t=>exact .cons (Vp h) (Bg t)
abbrev KT (H:Hp):List (List Key×V)->List (List Key×Addr×Value)->Prop:=Paired fun p q=>p.1=q.1/\H q.2.1=some (.tup (p.1.map kV))/\Y8 p.2 q.2.2
theorem KT.val {H:Hp} {kvs:List (List Key×V)} {xs:List (List Key×Addr×Value)} (r:KT H kvs xs) (k:List Key):gk (kd kvs k) ((atKey xs k).map (·.2)):=by
 induction r with
 | nil=>exact True.intro
 | @cons p q ps qs h t ih=>
  obtain ⟨h1,_,h2⟩:=h
  by_cases e:p.1=k
  ·have e':q.1=k:=h1.symm.trans e
   have b:atKey (q::qs) k=some q.2:=by simp [atKey,List.find?_cons,e']
   rw [Zt e,b];exact h2
  ·have e':¬ q.1=k:=fun z=>e (h1.trans z)
   have b:atKey (q::qs) k=atKey qs k:=by simp [atKey,List.find?_cons,e']
   rw [fj e,b];exact ih
theorem KT.repl {H:Hp} {kvs:List (List Key×V)} {xs:List (List Key×Addr×Value)} (r:KT H kvs xs) (k:List Key) {y:V} {u:Value} (ry:Y8 y u):
  KT H (kvs.map fun kv=>if kv.1=k then (kv.1,y) else kv) (xs.map (putAt k u)):=by
 induction r with
 | nil=>exact .nil
 | @cons p q ps qs h t ih=>
  rw [List.map_cons,List.map_cons]
  refine .cons ?_ ih
  obtain ⟨h1,h2,h3⟩:=h
  unfold putAt
  by_cases e:p.1=k
  ·rw [if_pos e,if_pos (h1.symm.trans e)];exact ⟨h1,h2,ry⟩
  ·rw [if_neg e,if_neg (fun z=>e (h1.trans z))];exact ⟨h1,h2,h3⟩
theorem KT.put {H:Hp} {kvs:List (List Key×V)} {xs:List (List Key×Addr×Value)} (r:KT H kvs xs) (k:List Key) {b:Addr} {y:V} {u:Value} (hb:H b=some (.tup (k.map kV))) (ry:Y8 y u):
  KT H (gr kvs k y) (storedH xs k b u):=by
 have e:(kvs.any fun kv=>decide (kv.1=k))=(atKey xs k).isSome:=by
  rw [Wy,(r.val k).isSome_eq,Option.isSome_map]
 unfold gr storedH
 rw [e]
 by_cases q:(atKey xs k).isSome=true
 ·rw [if_pos q,if_pos q];exact r.repl k ry
 ·rw [if_neg q,if_neg q];exact Paired.snoc r ⟨rfl,hb,ry⟩
theorem KT.keeps {H H':Hp} {kvs:List (List Key×V)} {xs:List (List Key×Addr×Value)} (r:KT H kvs xs) (ht:∀ b ys,H b=some (.tup ys)->H' b=some (.tup ys)):KT H' kvs xs:=
 Paired.mapP r fun _ _ z=>⟨z.1,ht _ _ z.2.1,z.2.2⟩
section
variable {P:Program} {w:World} {H:Hp} {h:Heap} {a:Addr}
theorem qa5 {u:HO} (ok:HOk P w H h) (e:Rd H a u):X4 P w H h a u:=e.ok ok
theorem Uu {kvs:List (Key×V)} (ok:HOk P w H h) (e:Rd H a (.dK kvs)):kvs.length<=sizeLine/\(a == sysModules)=false/\∃ vs,KV kvs vs/\h.DictOf (W7 P w) a vs:=
 show X4 P w H h a (.dK kvs) from qa5 ok e
theorem Vt {kvs:List (Key×V)} (ok:HOk P w H h) (e:H a=some (.dK kvs)):kvs.length<=sizeLine/\(a == sysModules)=false/\∃ vs,KV kvs vs/\h.DictOf (W7 P w) a vs:=Uu ok (.inl e)
theorem Ug {ks:List Key} (ok:HOk P w H h) (e:H a=some (.tup (ks.map kV))):(tupleKind (W7 P w)).is h ks a:=by
 obtain ⟨_,its,r,o,h1,h2,n,h3⟩:=(show X4 P w H h a (.tup (ks.map kV)) from ok a _ e)
 exact ⟨o,its.toArray,n,h1,h2,h3,by simpa using Bg r⟩
theorem Bp {kvs:List (List Key×V)} (ok:HOk P w H h) (e:Rd H a (.dT kvs)):kvs.length<=sizeLine/\(a == sysModules)=false/\
  ∃ xs,KT H kvs xs/\h.DictOfH (tupleKind (W7 P w)) a xs:=by
 obtain ⟨z,y,xs,r,o,es,ep,h1,h2,h3,h4,h5⟩:=(show X4 P w H h a (.dT kvs) from qa5 ok e)
 refine ⟨z,y,xs,r,o,es,ep,h1,h2,h3,h4,fun x hx=>?_,h5⟩
 have all:∀ {l:List (List Key×V)} {m:List (List Key×Addr×Value)},KT H l m->∀ x∈m,(tupleKind (W7 P w)).is h x.1 x.2.1:=by
  intro l m q
  induction q with
  | nil=>intro x hx;exact nomatch hx
  | @cons p q ps qs hq t ih=>
   intro x hx
   rcases List.mem_cons.mp hx with e | hx
   ·subst e
    exact Ug ok (by rw [← hq.1];exact hq.2.1)
   ·exact ih x hx
 exact all r x hx
theorem qe0 {kvs:List (List Key×V)} (ok:HOk P w H h) (e:H a=some (.dT kvs)):kvs.length<=sizeLine/\(a == sysModules)=false/\
  ∃ xs,KT H kvs xs/\h.DictOfH (tupleKind (W7 P w)) a xs:=Bp ok (.inl e)
end
def Qm (H:Hp) (a:Addr) (y:V) (r:Option V):Prop:=
 (∃ kvs k,Rd H a (.dK kvs)/\y=kV k/\r=kd kvs k)\/∃ kvs k b,Rd H a (.dT kvs)/\y=.ref b/\H b=some (.tup (k.map kV))/\r=kd kvs k
def xR (H:Hp) (a:Addr) (y v:V) (H':Hp):Prop:=
 (∃ kvs k,H a=some (.dK kvs)/\y=kV k/\kvs.length < sizeLine/\H'=upd H a (.dK (gr kvs k v)))\/
 ∃ kvs k b,H a=some (.dT kvs)/\y=.ref b/\H b=some (.tup (k.map kV))/\kvs.length < sizeLine/\H'=upd H a (.dT (gr kvs k v))
theorem Qm.k {H:Hp} {a:Addr} {kvs:List (Key×V)} {k:Key} (e:H a=some (.dK kvs)):Qm H a (kV k) (kd kvs k):=.inl ⟨kvs,k,.inl e,rfl,rfl⟩
theorem Qm.t {H:Hp} {a b:Addr} {kvs:List (List Key×V)} {k:List Key} (e:H a=some (.dT kvs)) (eb:H b=some (.tup (k.map kV))):Qm H a (.ref b) (kd kvs k):=.inr ⟨kvs,k,b,.inl e,rfl,eb,rfl⟩
theorem xR.k {H:Hp} {a:Addr} {kvs:List (Key×V)} {k:Key} {v:V} (e:H a=some (.dK kvs)) (hl:kvs.length < sizeLine):xR H a (kV k) v (upd H a (.dK (gr kvs k v))):=.inl ⟨kvs,k,e,rfl,hl,rfl⟩
theorem xR.t {H:Hp} {a b:Addr} {kvs:List (List Key×V)} {k:List Key} {v:V} (e:H a=some (.dT kvs)) (eb:H b=some (.tup (k.map kV))) (hl:kvs.length < sizeLine):
  xR H a (.ref b) v (upd H a (.dT (gr kvs k v))):=.inr ⟨kvs,k,b,e,rfl,eb,hl,rfl⟩
section
variable {X:Cx} {pins:List (Addr×Obj)} {σ:St} {H:Hp} {s:Shared} {a:Addr} {y v:V} {u r:Value} {o:Option V} {A:Around} {E:Value->Shared->Prop}
theorem Inv.big (I:Inv X pins σ H s):sysModules < s.heap.objs.size:=by
 have h:mainGlobals < s.heap.objs.size:=(I.mod.glob.keeps I.bk).lt
 exact Nat.lt_trans (by decide) h
theorem uE {Q:Value->Shared->Prop} (hu:A.units+1 < cLine) (I:Inv X pins σ H s) (g:Qm H a y (some v)) (ry:Y8 y u) (h:∀ w' s',Inv X pins σ H s'->Y8 v w'->Q w' s'):
  wpAny (model X.prog X.w) A (getItem (.ref a) u) Q E s:=by
 rcases g with ⟨kvs,k,e,ey,l⟩ | ⟨kvs,k,b,e,ey,eb,l⟩
 ·subst ey
  obtain ⟨z,hd,vs,rel,dd⟩:=Uu I.hok e
  obtain ⟨w',hw,rw'⟩:=gk.some_of (v:=v) (o:=valueAt vs k) (by rw [l];exact rel.val k)
  exact wpAny_getItem_of (Vp ry) dd.mapOf hw (h w' _ (I.tok _) rw')
 ·subst ey
  cases (show u=Value.ref b from ry)
  obtain ⟨z,hd,xs,rel,dd⟩:=Bp I.hok e
  obtain ⟨w',hw,rw'⟩:=gk.some_of (v:=v) (o:=(atKey xs k).map (·.2)) (by rw [l];exact rel.val k)
  obtain ⟨p,hp,hp2⟩:=Option.map_eq_some_iff.mp hw
  refine wpAny_getItem_heap (tupleKind_room_in1 hu) (Ug I.hok eb) dd hp ?_
  rw [hp2]
  exact h w' _ (I.tok _) rw'
theorem qan {Q:Value->Shared->Prop} (hu:A.units+1 < cLine) (I:Inv X pins σ H s) (g:Qm H a y o) (ry:Y8 y u) (h:∀ s',Inv X pins σ H s'->Q (.bool (!o.isSome)) s'):
  wpAny (model X.prog X.w) A (compareOp .NotIn u (.ref a)) Q E s:=by
 rcases g with ⟨kvs,k,e,ey,l⟩ | ⟨kvs,k,b,e,ey,eb,l⟩
 ·subst ey
  obtain ⟨z,hd,vs,rel,dd⟩:=Uu I.hok e
  refine wpAny_notIn_of (Vp ry) hd dd.mapOf ?_
  rw [← (rel.val k).isSome_eq,← l]
  exact h _ (I.tok _)
 ·subst ey
  cases (show u=Value.ref b from ry)
  obtain ⟨z,hd,xs,rel,dd⟩:=Bp I.hok e
  refine wpAny_notIn_heap (tupleKind_room_in1 hu) (Ug I.hok eb) hd dd ?_
  have q:=(rel.val k).isSome_eq
  rw [Option.isSome_map] at q
  rw [← q,← l]
  exact h _ (I.tok _)
theorem Jx {h':Heap} {t':Nat} {ob:HO} (I:Inv X pins σ H s) (mu:Mut (H a)) (hs:Heap.SameBut a s.heap h') (he:∃ q,h'.get? a=some q) (new:X4 X.prog X.w (upd H a ob) h' a ob):
  Inv X pins σ (upd H a ob) { s with heap:=h',toks:=t' }:=
 I.write (x:=a) (e:=a) mu (.inl rfl) (fun b q hb z=>(hs.2 b hb).trans z) he new
theorem zK {P:Program} {w:World} {H':Hp} {h':Heap} {kvs:List (Key×V)} {vs:List (Key×Value)} (z:kvs.length<=sizeLine) (hd:(a == sysModules)=false) (rel:KV kvs vs) (dd:h'.DictOf (W7 P w) a vs):
  X4 P w H' h' a (.dK kvs):=⟨z,hd,vs,rel,dd⟩
theorem uD {H':Hp} {Q:Unit->Shared->Prop} (hu:A.units+1 < cLine) (I:Inv X pins σ H s) (g:xR H a y v H') (ry:Y8 y u) (rv:Y8 v r) (h:∀ s',Inv X pins σ H' s'->Q () s'):
  wpAny (model X.prog X.w) A (setItem (.ref a) u r) Q E s:=by
 rcases g with ⟨kvs,k,e,ey,l,eH⟩ | ⟨kvs,k,b,e,ey,eb,l,eH⟩
 ·subst ey eH
  obtain ⟨z,hd,vs,rel,dd⟩:=Vt I.hok e
  have hz:vs.length<=sizeLine:=by rw [← rel.length];exact z
  have hl:(gr kvs k v).length<=sizeLine:=by have:=ko kvs k v;omega
  refine wpAny_setItem_pairs (hsz:=hz) (Vp ry) dd fun h' dd' hs=>h _ ?_
  have he:∃ q,h'.get? a=some q:=let ⟨q,_,_,hq,_⟩:=dd';⟨q,hq⟩
  exact Jx I (by rw [e];exact True.intro) hs he (zK hl hd (rel.put k rv) dd')
 ·subst ey eH
  cases (show u=Value.ref b from ry)
  obtain ⟨z,hd,xs,rel,dd⟩:=qe0 I.hok e
  have hz:xs.length<=sizeLine:=by rw [← Paired.length rel];exact z
  have hl:(gr kvs k v).length<=sizeLine:=by have:=ko kvs k v;omega
  refine wpAny_setItem_heap (hsz:=hz) (tupleKind_room_in1 hu) (Ug I.hok eb) dd fun h' dd' hs=>h _ ?_
  obtain ⟨q,es,ep,hq,h2,h3,h4,_,h5⟩:=dd'
  refine Jx I (by rw [e];exact True.intro) hs ⟨q,hq⟩ ⟨hl,hd,_,(rel.put k eb rv).keeps fun c ys ec=>?_,q,es,ep,hq,h2,h3,h4,h5⟩
  rw [Z2 (qeo ec e (fun z=>nomatch z))]
  exact ec
end
section
variable {X:Cx} {pins:List (Addr×Obj)} {σ:St} {H:Hp} {s:Shared} {a:Addr} {kvs:List (Key×V)} {k:Key} {u:Value} {A:Around} {E:Value->Shared->Prop}
theorem qe4 {v:V} {more:List Value} {Q:Value->Shared->Prop} (I:Inv X pins σ H s) (e:H a=some (.dK kvs)) (ry:Y8 (kV k) u) (l:kd kvs k=some v) (hm:more=[]\/∃ x,more=[x])
  (h:∀ w' s',Inv X pins σ (upd H a (.dK (Vs kvs k))) s'->Y8 v w'->Q w' s'):wpAny (model X.prog X.w) A (call (.builtin "dict.pop") (.ref a::u::more)) Q E s:=by
 obtain ⟨z,hd,vs,rel,dd⟩:=Vt I.hok e
 obtain ⟨w',hw,rw'⟩:=gk.some_of (v:=v) (o:=valueAt vs k) (by rw [← l];exact rel.val k)
 have hp:(keyPart u).isSome=true:=by
  cases k with
  | inl i=>obtain ⟨t,q⟩:=(show ∃ t,u=Value.int i t from ry);subst q;rfl
  | inr x=>obtain ⟨t,q⟩:=(show ∃ t,u=Value.str x t from ry);subst q;rfl
 have ha:argsOk "dict.pop" ⟨.ref a::u::more,[]⟩:=by
  rcases hm with q | ⟨x,q⟩
  ·subst q;exact PySem.F.args_dict_pop_2 _ _
  ·subst q;exact PySem.F.args_dict_pop_3 _ _ _
 refine call_meetsIn PySem.F.slot_dict_pop dd.typeIs PySem.F.entry_dict_pop ha (meets_dict_pop_there (W7 X.prog X.w) a (Vp ry) more hm hp)
  ⟨vs,w',dd,by rw [← rel.length];exact z,hw,fun h' dd' hs=>h w' _ ?_ rw'⟩
 have he:∃ q,h'.get? a=some q:=let ⟨q,_,_,hq,_⟩:=dd';⟨q,hq⟩
 exact Jx I (by rw [e];exact True.intro) hs he (zK (Nat.le_trans (YD kvs k) z) hd (rel.drop k) dd')
theorem qe5 {Q:Value->Shared->Prop} (I:Inv X pins σ H s) (e:Rd H a (.dK kvs)) (h:∀ t s',Inv X pins σ H s'->Q (.int kvs.length t) s'):wpAny (model X.prog X.w) A (call (.builtin "len") [.ref a]) Q E s:=by
 obtain ⟨z,hd,vs,rel,dd⟩:=Uu I.hok e
 refine call_len_dict hd dd (by rw [← rel.length];rw [sizeLine_eq] at z;omega) ?_
 rw [← rel.length]
 exact h _ _ (I.tok _)
end
def qdn (i:Expr):Prop:=∀ ov iv,subscripted i false ov iv=operate [ov,iv] (getItem ov iv)
theorem VL {prog:Program} {w:World} {A:Around} {E:Value->Shared->Prop} {s:Shared} {env:Env} {value slice:Expr} {pos:Pos} {T id:String} {Q:Value->Shared->Prop}
  (hl:typeLookup (.type T) "__getitem__"=pure (some (.builtin id))) (hs:qdn slice)
  (h:wpAny (model prog w) A (eval value env) (fun o s₁=>wpAny (model prog w) A (eval slice env) (fun i s₂=>s₂.TypeIs o T/\wpAny (model prog w) A (getItem o i) Q E s₂) E s₁) E s):
  wpAny (model prog w) A (eval (.Subscript value slice pos) env) Q E s:=by
 refine Subscript_ (wpAny_mono h (fun o s₁ h₁=>wpAny_mono h₁ (fun i s₂ h₂=>?_) fun _ _ x=>x) fun _ _ x=>x)
 obtain ⟨hT,h₂⟩:=h₂
 unfold subscriptTail
 refine wpAny_bind ?_
 rw [getitemInPython_of_ne hT.not_modules]
 refine wpAny_bind (wpAny_specialOf hT hl ?_)
 have fin:wpAny (model prog w) A (subscripted slice false o i) (fun r s₃=>wpAny (model prog w) A (letTemporaryGo value o r >>= fun _=>pure r) Q E s₃) E s₂:=by
  rw [hs o i]
  exact wpAny_operating (wpAny_mono h₂ (fun r s₃ h₃=>wpAny_bind (wpAny_letTemporaryGo (wpAny_pure h₃))) fun _ _ x=>x)
 first
  | exact wpAny_pure (wpAny_bind fin)
  | exact wpAny_bind (wpAny_pure (wpAny_bind fin))
  | exact wpAny_bind fin
theorem vU {X:Cx} {pins:List (Addr×Obj)} {σ:St} {H:Hp} {s:Shared} {a:Addr} {y:V} {o:Option V} (I:Inv X pins σ H s) (g:Qm H a y o):s.TypeIs (.ref a) "dict":=by
 rcases g with ⟨kvs,k,e,_,_⟩ | ⟨kvs,k,b,e,_,_,_⟩
 ·obtain ⟨_,_,vs,_,dd⟩:=Uu I.hok e
  exact dd.typeIs
 ·obtain ⟨_,_,xs,_,dd⟩:=Bp I.hok e
  exact dd.typeIs
def QI (td ty:TE):TE:=fun σ H Q=>td σ H fun x H1=>ty σ H1 fun y H2=>∃ a v,x=.ref a/\Qm H2 a y (some v)/\Q v H2
def VJ (ty td:TE):TE:=fun σ H Q=>ty σ H fun y H1=>td σ H1 fun x H2=>∃ a o,x=.ref a/\Qm H2 a y o/\Q (.bl (!o.isSome)) H2
def qd4 (td ty tv:TE):TS:=fun D σ H=>tv σ H fun v H1=>td σ H1 fun x H2=>ty σ H2 fun y H3=>∃ a H4,x=.ref a/\xR H3 a y v H4/\D.nx σ H4
section
variable {X:Cx} {o i e value:Expr} {pos pos' tpos:Pos} {td ty tv:TE}
theorem qV (hu:X.A.units+1 < cLine) (ho:PE X o td) (hi:PE X i ty) (hs:qdn i):PE X (.Subscript o i pos) (QI td ty):=by
 intro pins s σ H Q I h
 refine VL PySem.F.slot_dict_getitem.lookup hs (thn (ho pins s σ H _ I h) fun u s1 ⟨x,H1,I1,rx,q1⟩=>thn (hi pins s1 σ H1 _ I1 q1) fun iv s2 ⟨y,H2,I2,ry,a,v,ex,g,q2⟩=>?_)
 subst ex
 obtain rfl:u=Value.ref a:=rx
 exact ⟨vU I2 g,uE hu I2 g ry fun w' s3 I3 rw'=>⟨v,H2,I3,rw',q2⟩⟩
theorem mF (hu:X.A.units+1 < cLine) (hi:PE X i ty) (ho:PE X o td):PC X .NotIn i o (VJ ty td):=by
 intro pins s σ H Q I h
 refine thn (hi pins s σ H _ I h) fun iv s1 ⟨y,H1,I1,ry,q1⟩=>thn (ho pins s1 σ H1 _ I1 q1) fun u s2 ⟨x,H2,I2,rx,a,ov,ex,g,q2⟩=>?_
 subst ex
 obtain rfl:u=Value.ref a:=rx
 exact qan hu I2 g ry fun s3 I3=>⟨.bl (!ov.isSome),H2,I3,rfl,q2⟩
theorem WG (hu:X.A.units+1 < cLine) (ho:PE X o td) (hi:PE X i ty) (hv:PE X value tv) (hs:swapsWith value (some (.Subscript o i pos')) pos.line X.env=pure false):
  PS X (.Assign [.Subscript o i pos'] value pos) (qd4 td ty tv):=by
 intro pins s σ H D I h
 refine wpAny_Assign_Subscript (thn (hv pins s σ H _ I h) fun r s1 ⟨v,H1,I1,rv,q1⟩=>thn (ho pins s1 σ H1 _ I1 q1) fun u s2 ⟨x,H2,I2,rx,q2⟩=>thn (hi pins s2 σ H2 _ I2 q2) fun iv s3 ⟨y,H3,I3,ry,a,H4,ex,g,q3⟩=>?_) hs
 subst ex
 obtain rfl:u=Value.ref a:=rx
 exact uD hu I3 g ry rv fun s4 I4=>⟨σ,H4,I4,q3⟩
end
theorem vT {P:Program} {w:World} {H:Hp} (h:Heap) (hb:sysModules < h.objs.size):X4 P w H (h.push { cls:=.type "dict",data:=.dict #[] }) h.objs.size (.dK []):=
 ⟨Nat.zero_le _,beq_eq_false_iff_ne.mpr (Ne.symm (Nat.ne_of_lt hb)),[],.nil,Heap.DictOf.new h⟩
def qbt:TE:=fun _ H Q=>∀ p,H p=none->Q (.ref p) (upd H p (.dK []))
section
variable {X:Cx} {pos:Pos}
theorem ZP:PE X (.Dict [] [] pos) qbt:=fun pins s σ H Q I h=>
 wpAny_Dict_empty ⟨.ref s.heap.objs.size,_,I.laid (a:=s.heap.objs.size) (o:=.dK []) (t':=s.toks) (fun _ _ q=>Heap.get?_push_of_some _ q) (Nat.le_refl _) (vT s.heap I.big),rfl,h _ (I.hok.fresh (Nat.le_refl _))⟩
end
def kG:List (TE×TE)->St->Hp->(List (V×V)->Hp->Prop)->Prop
 | [],_,H,Q=>Q [] H
 | (tk,tv)::r,σ,H,Q=>tk σ H fun x H1=>tv σ H1 fun y H2=>kG r σ H2 fun ps H3=>Q ((x,y)::ps) H3
abbrev VV:List (V×V)->List (Value×Value)->Prop:=Paired fun p q=>Y8 p.1 q.1/\Y8 p.2 q.2
def PPs (X:Cx) (pos:Pos) (keys:List (Option Expr)) (values:List Expr) (trs:List (TE×TE)):Prop:=
 ∀ (pins:List (Addr×Obj)) (s:Shared) (σ:St) (H:Hp) (Q:List (V×V)->Hp->Prop),Inv X pins σ H s->kG trs σ H Q->
  wpAny (model X.prog X.w) X.A (evalPairs (pairTrees keys values X.env pos)) (fun vs s'=>∃ ps H',Inv X pins σ H' s'/\VV ps vs/\Q ps H') X.xe s
theorem WH {X:Cx} {pos:Pos}:PPs X pos [] [] []:=fun pins s σ H Q I h=>pairTrees_nil_walk ⟨[],H,I,.nil,h⟩
theorem ZG {X:Cx} {pos:Pos} {k v:Expr} {ks:List (Option Expr)} {vs:List Expr} {tk tv:TE} {trs:List (TE×TE)} (hk:PE X k tk) (hv:PE X v tv) (hr:PPs X pos ks vs trs):
  PPs X pos (some k::ks) (v::vs) ((tk,tv)::trs):=fun pins s σ H Q I h=>
 pairTrees_cons_walk (thn (hk pins s σ H _ I h) fun u s1 ⟨x,H1,I1,rx,q1⟩=>thn (hv pins s1 σ H1 _ I1 q1) fun w2 s2 ⟨y,H2,I2,ry,q2⟩=>
  thn (hr pins s2 σ H2 _ I2 q2) fun ws s3 ⟨ps,H3,I3,rel,q3⟩=>⟨(x,y)::ps,H3,I3,.cons ⟨rx,ry⟩ rel,q3⟩)
def Ud (kvs more:List (Key×V)):List (Key×V):=more.foldl (fun acc kv=>gr acc kv.1 kv.2) kvs
theorem KV.merge:∀ {more:List (Key×V)} {rs:List (Key×Value)} {kvs:List (Key×V)} {vs:List (Key×Value)},KV more rs->KV kvs vs->KV (Ud kvs more) (merged vs rs):=by
 intro more rs kvs vs r
 unfold KV at r
 induction r generalizing kvs vs with
 | nil=>intro q;exact q
 | @cons p q ps qs h t ih=>
  intro r0
  have e:KV (gr kvs p.1 p.2) (stored vs q.1 q.2):=by
   have:=r0.put p.1 h.2
   rw [← h.1];exact this
  exact ih e
theorem Qq:∀ (more kvs:List (Key×V)),(Ud kvs more).length<=kvs.length+more.length
 | [],kvs=>by show kvs.length<=kvs.length+0;omega
 | p::r,kvs=>by
  have h1:=Qq r (gr kvs p.1 p.2)
  have h2:=ko kvs p.1 p.2
  show (Ud (gr kvs p.1 p.2) r).length<=_
  rw [List.length_cons];omega
theorem Kb {P:Program} {w:World}:∀ {kvs:List (Key×V)} {ws:List (Value×Value)},VV (kvs.map fun kv=>(kV kv.1,kv.2)) ws->∃ rs,Carries (W7 P w) ws rs/\KV kvs rs
 | [],_,r=>by rw [List.map_nil] at r;cases r;exact ⟨[],True.intro,.nil⟩
 | p::kvs,_,r=>by
  rw [List.map_cons] at r
  cases r with
  | @cons a b as bs h t=>
   obtain ⟨rs,c,q⟩:=Kb (P:=P) (w:=w) t
   obtain ⟨b1,b2⟩:=b
   exact ⟨(p.1,b2)::rs,⟨Vp h.1,rfl,c⟩,.cons ⟨rfl,h.2⟩ q⟩
def qdx (trs:List (TE×TE)):TE:=fun σ H Q=>∀ p,H p=none->kG trs σ (upd H p (.dK [])) fun ps H2=>H2 p=some (.dK [])/\∃ kvs:List (Key×V),ps=kvs.map (fun kv=>(kV kv.1,kv.2))/\kvs.length<=15/\Q (.ref p) (upd H2 p (.dK (Ud [] kvs)))
theorem WO {X:Cx} {pos:Pos} {keys:List (Option Expr)} {values:List Expr} {trs:List (TE×TE)} (h:PPs X pos keys values trs) (hall:keys.all (·.isSome)=true) (hl:keys.length=values.length) (h0:keys≠[])
  (h15:keys.length<=15):PE X (.Dict keys values pos) (qdx trs):=by
 intro pins s σ H Q I q
 have hn:=I.hok.fresh (Nat.le_refl s.heap.objs.size)
 have I1:=I.laid (a:=s.heap.objs.size) (o:=.dK []) (h':=s.heap.push { cls:=.type "dict",data:=.dict #[] }) (t':=s.toks) (fun _ _ q=>Heap.get?_push_of_some _ q) (Nat.le_refl _) (vT s.heap I.big)
 refine wpAny_Dict_walk (knd:=W7 X.prog X.w) hall hl h0 h15 (thn (h pins _ σ _ _ I1 (q _ hn)) fun ws s2 ⟨ps,H2,I2,rel,e,kvs,ep,lk,q2⟩=>?_)
 subst ep
 obtain ⟨rs,c,rk⟩:=Kb (P:=X.prog) (w:=X.w) rel
 obtain ⟨z,hd,vs0,r0,dd⟩:=Vt I2.hok e
 cases r0
 refine ⟨rs,c,dd,fun h' dd' hs=>⟨.ref s.heap.objs.size,_,?_,rfl,q2⟩⟩
 have hz:(Ud [] kvs).length<=sizeLine:=by
  have h1:=Qq kvs []
  rw [List.length_nil] at h1
  rw [sizeLine_eq];omega
 have he:∃ q,h'.get? s.heap.objs.size=some q:=let ⟨q,_,_,hq,_⟩:=dd';⟨q,hq⟩
 exact Jx I2 (by rw [e];exact True.intro) hs he (zK hz hd (rk.merge .nil) dd')
def IsD (H:Hp) (a:Addr):Prop:=(∃ kvs,Rd H a (.dK kvs))\/∃ kvs,Rd H a (.dT kvs)
theorem qc2 {X:Cx} {pins:List (Addr×Obj)} {σ:St} {H:Hp} {s:Shared} {a:Addr} (I:Inv X pins σ H s) (d:IsD H a):
  s.TypeIs (.ref a) "dict"/\(∀ b,Value.ref a=.ref b->∃ ob,s.heap.get? b=some ob/\ob.dict=none)/\(a == sysModules)=false:=by
 rcases d with ⟨kvs,e⟩ | ⟨kvs,e⟩
 ·obtain ⟨_,hd,vs,_,dd⟩:=Uu I.hok e
  refine ⟨dd.typeIs,fun b q=>?_,hd⟩
  cases q
  obtain ⟨ob,_,_,h1,h2,_⟩:=dd
  exact ⟨ob,h1,h2.2.1⟩
 ·obtain ⟨_,hd,xs,_,dd⟩:=Bp I.hok e
  refine ⟨dd.typeIs,fun b q=>?_,hd⟩
  cases q
  obtain ⟨ob,_,_,h1,h2,_⟩:=dd
  exact ⟨ob,h1,h2.2.1⟩
section
variable {X:Cx} {pins:List (Addr×Obj)} {σ:St} {H:Hp} {s:Shared} {a:Addr} {y d:V} {u r:Value} {o:Option V} {A:Around} {E:Value->Shared->Prop}
theorem qdg {Q:Value->Shared->Prop} (hu:A.units+1 < cLine) (I:Inv X pins σ H s) (g:Qm H a y o) (ry:Y8 y u) (rd:Y8 d r) (h:∀ w' s',Inv X pins σ H s'->Y8 (o.getD d) w'->Q w' s'):
  wpAny (model X.prog X.w) A (call (.builtin "dict.get") [.ref a,u,r]) Q E s:=by
 rcases g with ⟨kvs,k,e,ey,l⟩ | ⟨kvs,k,b,e,ey,eb,l⟩
 ·subst ey
  obtain ⟨z,hd,vs,rel,dd⟩:=Uu I.hok e
  refine call_meetsIn PySem.F.slot_dict_get dd.typeIs PySem.F.entry_dict_get (PySem.F.args_dict_get_3 _ _ _) (meets_dict_get_default (W7 X.prog X.w) a (Vp ry) hd r) ⟨_,dd.mapOf,h _ _ (I.tok _) ?_⟩
  rw [l]
  exact (rel.val k).getD rd
 ·subst ey
  cases (show u=Value.ref b from ry)
  obtain ⟨z,hd,xs,rel,dd⟩:=Bp I.hok e
  refine call_meetsIn PySem.F.slot_dict_get dd.typeIs PySem.F.entry_dict_get (PySem.F.args_dict_get_3 _ _ _) (meetsH_dict_get_default (tupleKind (W7 X.prog X.w)) a b hd r) ⟨tupleKind_room_in1 hu,k,xs,Ug I.hok eb,dd,h _ _ (I.tok _) ?_⟩
  rw [l]
  exact (rel.val k).getD rd
end
section
variable {X:Cx} {o e f:Expr} {apos cpos:Pos} {td ty tx:TE}
end
section
variable {X:Cx} {pins:List (Addr×Obj)} {σ:St} {H:Hp} {s:Shared} {a:Addr} {kvs:List (Key×V)} {A:Around} {E:Value->Shared->Prop}
end
section
variable {X:Cx} {pins:List (Addr×Obj)} {σ:St} {H:Hp} {s:Shared} {a:Addr} {y:V} {u:Value} {A:Around} {E:Value->Shared->Prop}
end
section
variable {X:Cx}
theorem uM:D6 X (.builtin "len") (fun xs H Q=>∃ a kvs,xs=[V.ref a]/\H a=some (.dK kvs)/\Q (.int kvs.length) H):=by
 intro pins s σ H xs us Q I r h
 obtain ⟨a,kvs,rfl,ha,q⟩:=h
 obtain ⟨u,rfl,ru⟩:=fh r
 cases ru
 exact qe5 I (.inl ha) fun t s' I'=>⟨.int kvs.length,H,I',⟨t,rfl⟩,q⟩
end
section
variable {κ:Type} [DecidableEq κ]
end
end L2
namespace DL
open PySem PySem.Spec L2
open PyProof.Rows hiding St
inductive D where
 | non | bl (b:Bool) | int (i:Int) | str (x:List Nat) | tup (xs:List D) | lst (xs:List D) | hnd (k:Nat) | scr (ns:List Int)
abbrev DK:=Sum Int (List Nat)
def kK:DK->Key
 | .inl i=>.inl i
 | .inr x=>.inr ⟨x.toArray⟩
inductive Cell where
 | lst (xs:List D)
 | dct (kvs:List (DK×D))
 | ins (C:Addr) (fs:List (Str×D))
 | exn (cls:Value) (fs:List (Str×D))
 | dead
structure Exc where
 cls:Value
 fs:List (Str×D)
inductive Out (α:Type) where
 | ok (x:α) (c:List Cell)
 | exc (x:Exc) (c:List Cell)
abbrev M (α:Type):=List Cell->Option (Out α)
def M.ret {α:Type} (x:α):M α:=fun c=>some (.ok x c)
def M.stuck {α:Type}:M α:=fun _=>none
def M.bd {α β:Type} (m:M α) (f:α->M β):M β:=fun c=>match m c with
 | some (.ok x c')=>f x c'
 | some (.exc e c')=>some (.exc e c')
 | none=>none
theorem kQ {α β:Type} (x:α) (f:α->M β):(M.ret x).bd f=f x:=rfl
abbrev L:=List (Option D)
abbrev Ow:=List (Option Addr)
abbrev ED:=L->M D
abbrev TD:=L->M Bool
abbrev AD:=L->M (List D)
inductive Fl where
 | nx (l:L) | ret (d:D) | bk (l:L) | ct (l:L)
abbrev SD:=L->M Fl
def Scr (K:Frag) (H:Hp) (O:Ow) (a:Addr) (xs:List V):Prop:=
 (∃ o,H a=some (.frz o (.lst xs))/\some a∉O)\/
  ∃ (o:Obj) (its:Array Value) (n:Nat),K.lookup a=some o/\o.cls=.type "list"/\o.dict=none/\o.data=.seq its n/\its.size<=sizeLine/\Y4 xs its.toList
theorem Scr.sq {K:Frag} {H:Hp} {O:Ow} {a:Addr} {xs:List V} (h:Scr K H O a xs):SqL K H a xs:=by
 rcases h with ⟨o,h,_⟩ | h
 ·exact .inl (.inr ⟨o,h⟩)
 ·exact .inr h
mutual
inductive Rep (K:Frag) (H:Hp) (O:Ow):V->D->Prop where
 | non:Rep K H O .non .non
 | bl (b:Bool):Rep K H O (.bl b) (.bl b)
 | int (i:Int):Rep K H O (.int i) (.int i)
 | str (x:List Nat):Rep K H O (.str ⟨x.toArray⟩) (.str x)
 | tup {a:Addr} {vs:List V} {xs:List D} (h:H a=some (.tup vs)) (n:some a∉O) (r:Reps K H O vs xs):Rep K H O (.ref a) (.tup xs)
 | lst {a:Addr} {vs:List V} {xs:List D} (h:H a=some (.lst vs)) (n:some a∉O) (r:Reps K H O vs xs):Rep K H O (.ref a) (.lst xs)
 | scr {a:Addr} {ns:List Int} (h:Scr K H O a (ns.map V.int)):Rep K H O (.ref a) (.scr ns)
 | hnd {a:Addr} {k:Nat} (h:O[k]?=some (some a)):Rep K H O (.ref a) (.hnd k)
inductive Reps (K:Frag) (H:Hp) (O:Ow):List V->List D->Prop where
 | nil:Reps K H O [] []
 | cons {v:V} {d:D} {vs:List V} {ds:List D} (h:Rep K H O v d) (t:Reps K H O vs ds):Reps K H O (v::vs) (d::ds)
end
structure Ext (H:Hp) (O:Ow) (H':Hp) (O':Ow):Prop where
 keep:∀ b o,H b=some o->some b∉O->H' b=some o
 pre:∀ (k:Nat) (a:Addr),O[k]?=some (some a)->O'[k]?=some (some a)
 fresh:∀ a,some a∈O'->some a∈O\/H a=none
theorem Ext.refl (H:Hp) (O:Ow):Ext H O H O:=⟨fun _ _ h _=>h,fun _ _ h=>h,fun _ h=>.inl h⟩
theorem Ext.notin {H H':Hp} {O O':Ow} (e:Ext H O H' O') {b:Addr} {o:HO} (h:H b=some o) (n:some b∉O):some b∉O':=fun m=>by
 rcases e.fresh b m with q | q
 ·exact n q
 ·rw [h] at q;cases q
theorem Ext.trans {H H1 H2:Hp} {O O1 O2:Ow} (e:Ext H O H1 O1) (f:Ext H1 O1 H2 O2):Ext H O H2 O2 where
 keep:=fun b o h n=>f.keep b o (e.keep b o h n) (e.notin h n)
 pre:=fun k a h=>f.pre k a (e.pre k a h)
 fresh:=fun a h=>by
  rcases f.fresh a h with q | q
  ·exact e.fresh a q
  ·cases z:H a with
   | none=>exact .inr rfl
   | some o=>
    by_cases m:some a∈O
    ·exact .inl m
    ·rw [e.keep a o z m] at q;cases q
theorem Scr.mono {K:Frag} {H H':Hp} {O O':Ow} {a:Addr} {xs:List V} (e:Ext H O H' O') (h:Scr K H O a xs):Scr K H' O' a xs:=by
 rcases h with ⟨o,h,n⟩ | h
 ·exact .inl ⟨o,e.keep _ _ h n,e.notin h n⟩
 ·exact .inr h
mutual
theorem Rep.mono {K:Frag} {H H':Hp} {O O':Ow} (e:Ext H O H' O'):∀ {v:V} {d:D},Rep K H O v d->Rep K H' O' v d
 | _,_,.non=>.non
 | _,_,.bl b=>.bl b
 | _,_,.int i=>.int i
 | _,_,.str x=>.str x
 | _,_,.tup h n r=>.tup (e.keep _ _ h n) (e.notin h n) (Reps.mono e r)
 | _,_,.lst h n r=>.lst (e.keep _ _ h n) (e.notin h n) (Reps.mono e r)
 | _,_,.scr h=>.scr (h.mono e)
 | _,_,.hnd h=>.hnd (e.pre _ _ h)
theorem Reps.mono {K:Frag} {H H':Hp} {O O':Ow} (e:Ext H O H' O'):∀ {vs:List V} {ds:List D},Reps K H O vs ds->Reps K H' O' vs ds
 | _,_,.nil=>.nil
 | _,_,.cons h t=>.cons (Rep.mono e h) (Reps.mono e t)
end
theorem Reps.length {K:Frag} {H:Hp} {O:Ow}:∀ {vs:List V} {ds:List D},Reps K H O vs ds->vs.length=ds.length
 | _,_,.nil=>rfl
 | _,_,.cons _ t=>congrArg (·+1) (Reps.length t)
theorem Reps.append {K:Frag} {H:Hp} {O:Ow}:∀ {vs:List V} {ds:List D} {us:List V} {es:List D},Reps K H O vs ds->Reps K H O us es->Reps K H O (vs++us) (ds++es)
 | _,_,_,_,.nil,r=>r
 | _,_,_,_,.cons h t,r=>.cons h (Reps.append t r)
theorem Reps.get {K:Frag} {H:Hp} {O:Ow}:∀ {vs:List V} {ds:List D} {i:Nat} {d:D},Reps K H O vs ds->ds[i]?=some d->∃ v,vs[i]?=some v/\Rep K H O v d
 | _,_,_,_,.nil,e=>by simp at e
 | _,_,0,_,.cons h _,e=>by simp at e;subst e;exact ⟨_,rfl,h⟩
 | _,_,i+1,d,.cons _ t,e=>by
  obtain ⟨u,h1,h2⟩:=Reps.get (i:=i) (d:=d) t (by simpa using e)
  exact ⟨u,by simpa using h1,h2⟩
theorem Reps.take {K:Frag} {H:Hp} {O:Ow}:∀ {vs:List V} {ds:List D} (n:Nat),Reps K H O vs ds->Reps K H O (vs.take n) (ds.take n)
 | _,_,0,_=>.nil
 | _,_,_+1,.nil=>.nil
 | _,_,n+1,.cons h t=>.cons h (Reps.take n t)
theorem Reps.drop {K:Frag} {H:Hp} {O:Ow}:∀ {vs:List V} {ds:List D} (n:Nat),Reps K H O vs ds->Reps K H O (vs.drop n) (ds.drop n)
 | _,_,0,r=>r
 | _,_,_+1,.nil=>.nil
 | _,_,n+1,.cons _ t=>Reps.drop n t
theorem Reps.set {K:Frag} {H:Hp} {O:Ow} {v:V} {d:D} (h:Rep K H O v d):∀ {vs:List V} {ds:List D} (i:Nat),Reps K H O vs ds->Reps K H O (vs.set i v) (ds.set i d)
 | _,_,_,.nil=>.nil
 | _,_,0,.cons _ t=>.cons h t
 | _,_,i+1,.cons q t=>.cons q (Reps.set h i t)
theorem Reps.ints {K:Frag} {H:Hp} {O:Ow}:∀ (ns:List Int),Reps K H O (ns.map V.int) (ns.map D.int)
 | []=>.nil
 | n::r=>.cons (.int n) (Reps.ints r)
def X5 (K:Frag) (H:Hp) (O:Ow) (as:List (Key×V)) (bs:List (DK×D)):Prop:=as.map (·.1)=bs.map (fun p=>kK p.1)/\Reps K H O (as.map (·.2)) (bs.map (·.2))
def qp (K:Frag) (H:Hp) (O:Ow) (as:List (Str×V)) (bs:List (Str×D)):Prop:=as.map (·.1)=bs.map (·.1)/\Reps K H O (as.map (·.2)) (bs.map (·.2))
def Kz (a:Addr) (cls:Value) (dx:Option Addr):HO:=.ext fun h=>∃ o,h.get? a=some o/\o.cls=cls/\o.dict=dx/\∃ ws,o.data=.fields ws
def XF (K:Frag) (H:Hp) (O:Ow) (dx:Option Addr) (fs:List (Str×D)):Prop:=match dx with
 | none=>fs=[]
 | some b=>some b∉O/\∃ us,H b=some (.xd us)/\qp K H O us fs
theorem XF.mono {K:Frag} {H H':Hp} {O O':Ow} {dx:Option Addr} {fs:List (Str×D)} (e:Ext H O H' O') (h:XF K H O dx fs):XF K H' O' dx fs:=by
 cases dx with
 | none=>exact h
 | some b=>
  obtain ⟨n,us,h1,h2⟩:=h
  exact ⟨e.notin h1 n,us,e.keep _ _ h1 n,h2.1,h2.2.mono e⟩
def bz (K:Frag) (H:Hp) (O:Ow) (k:Nat):Cell->Prop
 | .dead=>O[k]?=some none
 | .lst xs=>∃ a vs,O[k]?=some (some a)/\H a=some (.lst vs)/\Reps K H O vs xs
 | .dct kvs=>∃ a us,O[k]?=some (some a)/\H a=some (.dK us)/\X5 K H O us kvs/\(kvs.map (·.1)).Nodup
 | .ins C fs=>∃ a dx us,O[k]?=some (some a)/\H a=some (.ins C dx us)/\qp K H O us fs
 | .exn cls fs=>∃ a dx,O[k]?=some (some a)/\H a=some (Kz a cls dx)/\XF K H O dx fs
structure Cells (K:Frag) (H:Hp) (O:Ow) (c:List Cell):Prop where
 len:O.length=c.length
 at_:∀ (k:Nat) (x:Cell),c[k]?=some x->bz K H O k x
 inj:∀ (i j:Nat) (a:Addr),O[i]?=some (some a)->O[j]?=some (some a)->i=j
theorem Cells.there {K:Frag} {H:Hp} {O:Ow} {c:List Cell} (h:Cells K H O c) {a:Addr} (m:some a∈O):∃ o,H a=some o:=by
 obtain ⟨k,hk,e⟩:=List.mem_iff_getElem.mp m
 have hk':k < c.length:=by rw [← h.len];exact hk
 have e':O[k]?=some (some a):=by rw [List.getElem?_eq_getElem hk,e]
 have q:=h.at_ k c[k] (List.getElem?_eq_getElem hk')
 cases z:c[k] with
 | dead=>rw [z] at q;rw [show O[k]?=some none from q] at e';cases e'
 | lst xs=>rw [z] at q;obtain ⟨a',vs,q1,q2,_⟩:=q;rw [q1] at e';cases e';exact ⟨_,q2⟩
 | dct kvs=>rw [z] at q;obtain ⟨a',vs,q1,q2,_⟩:=q;rw [q1] at e';cases e';exact ⟨_,q2⟩
 | ins C fs=>rw [z] at q;obtain ⟨a',dx,vs,q1,q2,_⟩:=q;rw [q1] at e';cases e';exact ⟨_,q2⟩
 | exn cls fs=>rw [z] at q;obtain ⟨a',dx,q1,q2,_⟩:=q;rw [q1] at e';cases e';exact ⟨_,q2⟩
theorem Cells.fresh {K:Frag} {H:Hp} {O:Ow} {c:List Cell} (h:Cells K H O c) {p:Addr} (n:H p=none):some p∉O:=fun m=>by
 obtain ⟨o,e⟩:=h.there m
 rw [n] at e;cases e
theorem Ext.updN {H:Hp} {O:Ow} {p:Addr} {o:HO} (n:H p=none):Ext H O (upd H p o) O:=
 ⟨fun b u h _=>by rw [Z2 (Y2 h n)];exact h,fun _ _ h=>h,fun _ h=>.inl h⟩
theorem Cells.ext {K:Frag} {H H':Hp} {O:Ow} {c:List Cell} (h:Cells K H O c) (s:∀ b o,H b=some o->H' b=some o):Cells K H' O c:=by
 have e:Ext H O H' O:=⟨fun b o q _=>s b o q,fun _ _ q=>q,fun _ q=>.inl q⟩
 refine ⟨h.len,fun k x q=>?_,h.inj⟩
 have z:=h.at_ k x q
 cases x with
 | dead=>exact z
 | lst xs=>obtain ⟨a,vs,q1,q2,q3⟩:=z;exact ⟨a,vs,q1,s _ _ q2,q3.mono e⟩
 | dct kvs=>obtain ⟨a,vs,q1,q2,q3,q4⟩:=z;exact ⟨a,vs,q1,s _ _ q2,⟨q3.1,q3.2.mono e⟩,q4⟩
 | ins C fs=>obtain ⟨a,dx,vs,q1,q2,q3⟩:=z;exact ⟨a,dx,vs,q1,s _ _ q2,q3.1,q3.2.mono e⟩
 | exn cls fs=>obtain ⟨a,dx,q1,q2,q3⟩:=z;exact ⟨a,dx,q1,s _ _ q2,q3.mono e⟩
theorem Cells.updN {K:Frag} {H:Hp} {O:Ow} {c:List Cell} {p:Addr} {o:HO} (h:Cells K H O c) (n:H p=none):Cells K (upd H p o) O c:=
 h.ext fun b u q=>by rw [Z2 (Y2 q n)];exact q
def qdj (K:Frag) (H:Hp) (O:Ow) (cls:Value) (dx:Option Addr) (x:Exc):Prop:=
 cls=x.cls/\match dx with
  | none=>x.fs=[]
  | some a=>some a∉O/\∃ us,H a=some (.xd us)/\qp K H O us x.fs
def J4 {α:Type} (K:Frag) (E:XK) (H:Hp) (O:Ow) (P:α->Hp->Ow->List Cell->Prop):Option (Out α)->Prop
 | some (.ok x c)=>∀ H' O',Ext H O H' O'->Cells K H' O' c->P x H' O' c
 | some (.exc x c)=>∀ H' O' cls dx,Ext H O H' O'->Cells K H' O' c->qdj K H' O' cls dx x->E cls dx H'
 | none=>False
theorem J4.mono {α:Type} {K:Frag} {E:XK} {H H1:Hp} {O O1:Ow} {P:α->Hp->Ow->List Cell->Prop} {r:Option (Out α)} (e:Ext H O H1 O1) (h:J4 K E H O P r):J4 K E H1 O1 P r:=by
 cases r with
 | none=>exact h
 | some o=>
  cases o with
  | ok x c=>exact fun H' O' e'=>h H' O' (e.trans e')
  | exc x c=>exact fun H' O' cls dx e'=>h H' O' cls dx (e.trans e')
theorem J4.imp {α:Type} {K:Frag} {E:XK} {H:Hp} {O:Ow} {P P':α->Hp->Ow->List Cell->Prop} {r:Option (Out α)} (h:J4 K E H O P r) (i:∀ x H' O' c,Ext H O H' O'->Cells K H' O' c->P x H' O' c->P' x H' O' c):J4 K E H O P' r:=by
 cases r with
 | none=>exact h
 | some o=>
  cases o with
  | ok x c=>exact fun H' O' e' hc=>i x H' O' c e' hc (h H' O' e' hc)
  | exc x c=>exact h
theorem J4.bd {α β:Type} {K:Frag} {E:XK} {H:Hp} {O:Ow} {P:β->Hp->Ow->List Cell->Prop} {m:M α} {f:α->M β} {c:List Cell} (h:J4 K E H O P (m.bd f c)):
  J4 K E H O (fun x H1 O1 c1=>J4 K E H1 O1 P (f x c1)) (m c):=by
 unfold M.bd at h
 cases z:m c with
 | none=>rw [z] at h;exact h
 | some o=>
  cases o with
  | ok x c1=>rw [z] at h;exact fun H' O' e _=>h.mono e
  | exc x c1=>rw [z] at h;exact h
theorem J4.ret {α:Type} {K:Frag} {E:XK} {H:Hp} {O:Ow} {P:α->Hp->Ow->List Cell->Prop} {x:α} {c:List Cell} (h:J4 K E H O P (M.ret x c)) (hc:Cells K H O c):P x H O c:=h H O (Ext.refl H O) hc
structure Locs (K:Frag) (H:Hp) (O:Ow) (l:L) (σ:St):Prop where
 len:l.length=σ.length
 at_:∀ (i:Nat) (d:D),l[i]?=some (some d)->∃ v,σ[i]?=some (some v)/\Rep K H O v d
theorem Locs.mono {K:Frag} {H H':Hp} {O O':Ow} {l:L} {σ:St} (e:Ext H O H' O') (h:Locs K H O l σ):Locs K H' O' l σ:=
 ⟨h.len,fun i d q=>let ⟨v,q1,q2⟩:=h.at_ i d q;⟨v,q1,q2.mono e⟩⟩
theorem Locs.set {K:Frag} {H:Hp} {O:Ow} {l:L} {σ:St} {v:V} {d:D} (h:Locs K H O l σ) (i:Nat) (r:Rep K H O v d):Locs K H O (l.set i (some d)) (σ.set i (some v)):=by
 refine ⟨by rw [List.length_set,List.length_set];exact h.len,fun j e q=>?_⟩
 rw [List.getElem?_set] at q ⊢
 by_cases z:i=j
 ·subst z
  rw [if_pos rfl] at q ⊢
  rw [← h.len]
  by_cases y:i < l.length
  ·rw [if_pos y] at q ⊢
   cases q
   exact ⟨v,rfl,r⟩
  ·rw [if_neg y] at q;cases q
 ·rw [if_neg z] at q ⊢
  exact h.at_ j e q
theorem Locs.start {K:Frag} {H:Hp} {O:Ow} {vs:List V} {ds:List D} (N:List Str) (r:Reps K H O vs ds):Locs K H O (ds.map some++List.replicate (N.length - ds.length) none) (start N vs):=by
 have e:=r.length
 refine ⟨by unfold L2.start;simp [e],fun i d q=>?_⟩
 unfold L2.start
 by_cases hi:i < ds.length
 ·rw [List.getElem?_append_left (by simpa using hi),List.getElem?_map] at q
  rw [List.getElem?_append_left (by simpa [e] using hi),List.getElem?_map]
  cases z:ds[i]? with
  | none=>rw [z] at q;cases q
  | some d'=>
   rw [z] at q;cases q
   obtain ⟨v,h1,h2⟩:=r.get z
   exact ⟨v,by rw [h1];rfl,h2⟩
 ·rw [List.getElem?_append_right (by simpa using hi),List.getElem?_replicate] at q
  split at q <;> cases q
def P6 (K:Frag) (E:XK) (t:ED):TE:=fun σ H Q=>∃ O l c,Locs K H O l σ/\Cells K H O c/\J4 K E H O (fun d H' O' _=>∀ v,Rep K H' O' v d->Q v H') (t l c)
def Jl (K:Frag) (E:XK) (t:TD):TT:=fun σ H Q=>∃ O l c,Locs K H O l σ/\Cells K H O c/\J4 K E H O (fun b H' _ _=>Q b H') (t l c)
def JF (K:Frag) (E:XK) (t:AD):TA:=fun σ H Q=>∃ O l c,Locs K H O l σ/\Cells K H O c/\J4 K E H O (fun ds H' O' _=>∀ vs,Reps K H' O' vs ds->Q vs H') (t l c)
def xh (K:Frag) (Dn:Ends):Fl->Hp->Ow->List Cell->Prop
 | .nx l,H,O,_=>∀ σ,Locs K H O l σ->Dn.nx σ H
 | .ret d,H,O,_=>∀ v,Rep K H O v d->Dn.rt v H
 | .bk l,H,O,_=>∀ σ,Locs K H O l σ->Dn.bk σ H
 | .ct l,H,O,_=>∀ σ,Locs K H O l σ->Dn.ct σ H
def bM (K:Frag) (E:XK) (t:SD):TS:=fun Dn σ H=>∃ O l c,Locs K H O l σ/\Cells K H O c/\J4 K E H O (xh K Dn) (t l c)
structure DE (X:Cx) (E:XK) (e:Expr) (t:ED):Prop where
 h:PE X e (P6 X.K E t)
structure DT (X:Cx) (E:XK) (e:Expr) (t:TD):Prop where
 h:PT X e (Jl X.K E t)
structure DW (X:Cx) (E:XK) (e:Expr) (t:TD):Prop where
 h:PW X e (Jl X.K E t)
structure DA (X:Cx) (E:XK) (es:List Expr) (t:AD):Prop where
 h:PA X es (JF X.K E t)
structure DS (X:Cx) (E:XK) (st:Stmt) (t:SD):Prop where
 h:PS X st (bM X.K E t)
structure DSs (X:Cx) (E:XK) (st:List Stmt) (t:SD):Prop where
 h:PSs X st (bM X.K E t)
theorem PE.imp {X:Cx} {e:Expr} {t t':TE} (h:PE X e t) (i:∀ σ H Q,t' σ H Q->t σ H Q):PE X e t':=fun pins s σ H Q I q=>h pins s σ H Q I (i _ _ _ q)
theorem PT.imp {X:Cx} {e:Expr} {t t':TT} (h:PT X e t) (i:∀ σ H Q,t' σ H Q->t σ H Q):PT X e t':=fun pins s σ H Q I q=>h pins s σ H Q I (i _ _ _ q)
theorem PW.imp {X:Cx} {e:Expr} {t t':TT} (h:PW X e t) (i:∀ σ H Q,t' σ H Q->t σ H Q):PW X e t':=fun w pins s σ H Q I q=>h w pins s σ H Q I (i _ _ _ q)
theorem PA.imp {X:Cx} {e:List Expr} {t t':TA} (h:PA X e t) (i:∀ σ H Q,t' σ H Q->t σ H Q):PA X e t':=fun p pins s σ H Q I q=>h p pins s σ H Q I (i _ _ _ q)
theorem PS.imp {X:Cx} {e:Stmt} {t t':TS} (h:PS X e t) (i:∀ D σ H,t' D σ H->t D σ H):PS X e t':=fun pins s σ H D I q=>h pins s σ H D I (i _ _ _ q)
theorem PSs.imp {X:Cx} {e:List Stmt} {t t':TS} (h:PSs X e t) (i:∀ D σ H,t' D σ H->t D σ H):PSs X e t':=fun pins s σ H D I q=>h pins s σ H D I (i _ _ _ q)
section
variable {X:Cx} {E:XK} {a b c e:Expr} {ta tb tc:ED} {pos:Pos}
theorem Z3 {K:Frag} {m:ED} {α:Type} {f:D->M α} {P:α->Hp->Ow->List Cell->Prop} {σ:St} {H:Hp} {O:Ow} {l:L} {c:List Cell} {R:V->Hp->Prop} (hl:Locs K H O l σ) (hc:Cells K H O c) (h:J4 K E H O P ((m l).bd f c))
  (k:∀ d v H1 O1 c1,Ext H O H1 O1->Locs K H1 O1 l σ->Cells K H1 O1 c1->Rep K H1 O1 v d->J4 K E H1 O1 P (f d c1)->R v H1):P6 K E m σ H R:=
 ⟨O,l,c,hl,hc,h.bd.imp fun d H1 O1 c1 e1 c1' p v rv=>k d v H1 O1 c1 e1 (hl.mono e1) c1' rv p⟩
theorem mw {K:Frag} {m:TD} {α:Type} {f:Bool->M α} {P:α->Hp->Ow->List Cell->Prop} {σ:St} {H:Hp} {O:Ow} {l:L} {c:List Cell} {R:Bool->Hp->Prop} (hl:Locs K H O l σ) (hc:Cells K H O c) (h:J4 K E H O P ((m l).bd f c))
  (k:∀ d H1 O1 c1,Ext H O H1 O1->Locs K H1 O1 l σ->Cells K H1 O1 c1->J4 K E H1 O1 P (f d c1)->R d H1):Jl K E m σ H R:=
 ⟨O,l,c,hl,hc,h.bd.imp fun d H1 O1 c1 e1 c1' p=>k d H1 O1 c1 e1 (hl.mono e1) c1' p⟩
theorem C3 {K:Frag} {m:AD} {α:Type} {f:List D->M α} {P:α->Hp->Ow->List Cell->Prop} {σ:St} {H:Hp} {O:Ow} {l:L} {c:List Cell} {R:List V->Hp->Prop} (hl:Locs K H O l σ) (hc:Cells K H O c) (h:J4 K E H O P ((m l).bd f c))
  (k:∀ d v H1 O1 c1,Ext H O H1 O1->Locs K H1 O1 l σ->Cells K H1 O1 c1->Reps K H1 O1 v d->J4 K E H1 O1 P (f d c1)->R v H1):JF K E m σ H R:=
 ⟨O,l,c,hl,hc,h.bd.imp fun d H1 O1 c1 e1 c1' p v rv=>k d v H1 O1 c1 e1 (hl.mono e1) c1' rv p⟩
def dv (i:Nat):ED:=fun l=>match l[i]? with
 | some (some d)=>M.ret d
 | _=>M.stuck
theorem Q0 (i:Nat) {x:Str} {pos:Pos} (hN:X.N[i]?=some x:=by rfl) (hv:Vis X.env.scope x:=by first | exact Or.inl rfl | exact Or.inr (Or.inl rfl) | exact Or.inr (Or.inr rfl)) (hd:(x == ("__debug__":Str))=false:=by decide)
  (hcd:(x == ("__classdict__":Str))=false:=by decide):DE X E (.Name x pos) (dv i):=by
 refine ⟨PE.imp (mi hN hv hd hcd) fun σ H Q h=>?_⟩
 obtain ⟨O,l,c,hl,hc,p⟩:=h
 unfold dv at p
 cases z:l[i]? with
 | none=>rw [z] at p;exact p.elim
 | some o=>
  cases o with
  | none=>rw [z] at p;exact p.elim
  | some d=>
   rw [z] at p
   obtain ⟨v,h1,h2⟩:=hl.at_ i d z
   exact ⟨v,h1,J4.ret p hc v h2⟩
def dc (d:D):ED:=fun _=>M.ret d
theorem Jw {v:V} {d:D} (h:PE X e (tC v)) (r:∀ H O,Rep X.K H O v d):DE X E e (dc d):=by
 refine ⟨PE.imp h fun σ H Q h=>?_⟩
 obtain ⟨O,l,c,hl,hc,p⟩:=h
 exact J4.ret p hc v (r H O)
theorem Q3 {i:Int} {j:Nat}:DE X E (.Constant (.int i) j pos) (dc (.int i)):=Jw wD fun _ _=>.int i
theorem D5 {i:Bool} {j:Nat}:DE X E (.Constant (.bool i) j pos) (dc (.bl i)):=Jw qel fun _ _=>.bl i
theorem D8 (x:List Nat) {i:Str} {j:Nat} (h:i=⟨x.toArray⟩:=by decide +kernel):DE X E (.Constant (.str i) j pos) (dc (.str x)):=Jw wC fun _ _=>by rw [h];exact .str x
theorem Zn {j:Nat}:DE X E (.Constant .none j pos) (dc .non):=Jw qcf fun _ _=>.non
def d2 (f:D->D->M D) (ta tb:ED):ED:=fun l=>(ta l).bd fun x=>(tb l).bd fun y=>f x y
def Op2 (X:Cx) (E:XK) (r:R2) (f:D->D->M D):Prop:=∀ H O c x y v u Q,Cells X.K H O c->Rep X.K H O v x->Rep X.K H O u y->J4 X.K E H O (fun d H' O' _=>∀ v,Rep X.K H' O' v d->Q v H') (f x y c)->r v u H Q
theorem bN {r:R2} {f:D->D->M D} (hf:Op2 X E r f) {σ:St} {H:Hp} {Q:VK} (h:P6 X.K E (d2 f ta tb) σ H Q):tOp r (P6 X.K E ta) (P6 X.K E tb) σ H Q:=by
 obtain ⟨O,l,c,hl,hc,p⟩:=h
 refine Z3 hl hc p fun x v H1 O1 c1 e1 hl1 hc1 rv p1=>?_
 refine Z3 hl1 hc1 p1 fun y u H2 O2 c2 e2 hl2 hc2 ru p2=>?_
 exact hf H2 O2 c2 x y v u Q hc2 (rv.mono e2) ru p2
theorem Bv {op:Operator} {r:R2} {f:D->D->M D} (ho:OpR X (binaryOp op) r) (hf:Op2 X E r f) (ha:DE X E a ta) (hb:DE X E b tb):DE X E (.BinOp a op b pos) (d2 f ta tb):=⟨PE.imp (qej ho ha.h hb.h) fun σ H Q h=>bN hf h⟩
theorem YM {op:CmpOp} {r:R2} {f:D->D->M D} (ho:OpR X (compareOp op) r) (hf:Op2 X E r f) (ha:DE X E a ta) (hb:DE X E b tb) (hm:behindInMarks op b=false):DE X E (.Compare a [op] [b] pos) (d2 f ta tb):=⟨PE.imp (WP ho ha.h hb.h hm) fun σ H Q h=>bN hf h⟩
def tOf (t:ED):TD:=fun l=>(t l).bd fun d=>match d with
 | .bl b=>M.ret b
 | _=>M.stuck
theorem Jk {t:ED} {σ:St} {H:Hp} {Q:Bool->Hp->Prop} (h:Jl X.K E (tOf t) σ H Q):QG (P6 X.K E t) σ H Q:=by
 obtain ⟨O,l,c,hl,hc,p⟩:=h
 refine Z3 hl hc p fun x v H1 O1 c1 e1 hl1 hc1 rv p1=>?_
 cases x with
 | bl b=>cases rv;exact ⟨b,rfl,J4.ret p1 hc1⟩
 | _=>exact p1.elim
theorem Us {op:CmpOp} {r:R2} {f:D->D->M D} (ho:OpR X (compareOp op) r) (hf:Op2 X E r f) (ha:DE X E a ta) (hb:DE X E b tb) (hm:behindInMarks op b=false):DT X E (.Compare a [op] [b] pos) (tOf (d2 f ta tb)):=by
 refine ⟨PT.imp (bB ho ha.h hb.h hm) fun σ H Q h=>?_⟩
 have h2:=Jk h
 obtain ⟨O,l,c,hl,hc,p⟩:=h2
 exact bN hf ⟨O,l,c,hl,hc,p⟩
end
open PyProof.Rows hiding St
theorem qa:1000000<=sizeLine:=by rw [sizeLine_eq];decide
section
variable {X:Cx} {E:XK} {a b c e:Expr} {ta tb tc:ED} {pos:Pos}
def xk:D->M Bool
 | .non=>M.ret false
 | .bl b=>M.ret b
 | .int i=>M.ret (i != 0)
 | .str y=>if y.length<=1000000 then M.ret ((y.length:Int) != 0) else M.stuck
 | .tup xs=>M.ret (!xs.isEmpty)
 | .lst xs=>M.ret (!xs.isEmpty)
 | .scr ns=>M.ret (!ns.isEmpty)
 | .hnd k=>fun c=>match c[k]? with
  | some (.lst xs)=>some (.ok (!xs.isEmpty) c)
  | some (.dct xs)=>some (.ok (!xs.isEmpty) c)
  | _=>none
theorem Reps.isEmpty {K:Frag} {H:Hp} {O:Ow} {vs:List V} {ds:List D} (r:Reps K H O vs ds):vs.isEmpty=ds.isEmpty:=by cases r <;> rfl
theorem QE {H:Hp} {O:Ow} {c:List Cell} {v:V} {d:D} {Q:Bool->Hp->Prop} (hc:Cells X.K H O c) (r:Rep X.K H O v d) (p:J4 X.K E H O (fun b H' _ _=>Q b H') (xk d c)):∃ k,qdk X.K v H k/\Q k H:=by
 cases r with
 | non=>exact ⟨_,rfl,J4.ret p hc⟩
 | bl b=>exact ⟨_,rfl,J4.ret p hc⟩
 | int i=>exact ⟨_,rfl,J4.ret p hc⟩
 | str y=>
  unfold xk at p
  by_cases z:y.length<=1000000
  ·simp only [z,if_true] at p
   exact ⟨_,⟨Nat.le_trans (by show y.toArray.size<=_;simpa using z) qa,by show _=((y.toArray.size:Int) != 0);simp⟩,J4.ret p hc⟩
  ·simp only [z,if_false] at p
   exact p.elim
 | tup h n r=>exact ⟨_,.inr (.inl ⟨_,SqT.of h,by rw [r.isEmpty]⟩),J4.ret p hc⟩
 | lst h n r=>exact ⟨_,.inl ⟨_,SqL.of h,by rw [r.isEmpty]⟩,J4.ret p hc⟩
 | scr h=>exact ⟨_,.inl ⟨_,h.sq,by simp⟩,J4.ret p hc⟩
 | @hnd a k h=>
  unfold xk at p
  cases z:c[k]? with
  | none=>simp only [z] at p;exact p.elim
  | some x=>
   have q:=hc.at_ k x z
   cases x with
   | lst xs=>
    simp only [z] at p
    obtain ⟨a',vs,q1,q2,q3⟩:=q
    rw [h] at q1;cases q1
    exact ⟨_,.inl ⟨_,SqL.of q2,by rw [q3.isEmpty]⟩,p H O (Ext.refl H O) hc⟩
   | dct kvs=>
    simp only [z] at p
    obtain ⟨a',us,q1,q2,q3,_⟩:=q
    rw [h] at q1;cases q1
    refine ⟨_,.inr (.inr ⟨_,q2,?_⟩),p H O (Ext.refl H O) hc⟩
    have w:=q3.2.isEmpty
    simp only [List.isEmpty_map] at w
    rw [w]
   | _=>simp only [z] at p;exact p.elim
def W6 (t:ED):TD:=fun l=>(t l).bd xk
theorem X9 (ha:DE X E a ta) (he:∀ whole,isTrue a X.env whole=(do let v ← whole;standAt a.pos;holding [v] (truthy v)):=by intro _;rfl):DT X E a (W6 ta):=by
 refine ⟨PT.imp (ZD ha.h he) fun σ H Q h=>?_⟩
 obtain ⟨O,l,c,hl,hc,p⟩:=h
 refine Z3 hl hc p fun x v H1 O1 c1 e1 hl1 hc1 rv p1=>?_
 exact QE hc1 rv p1
def Y9 (t:TD):TD:=fun l=>(t l).bd fun b=>M.ret (!b)
def we (t u:TD):TD:=fun l=>(t l).bd fun b=>if b=true then u l else M.ret false
def N6 (t u:TD):TD:=fun l=>(t l).bd fun b=>if b=true then M.ret true else u l
variable {p q:TD} {rest:List Expr}
theorem B4 (ha:DT X E a p):DT X E (.UnaryOp .Not a pos) (Y9 p):=by
 refine ⟨PT.imp (qb3 ha.h) fun σ H Q h=>?_⟩
 obtain ⟨O,l,c,hl,hc,p⟩:=h
 exact mw hl hc p fun x H1 O1 c1 e1 hl1 hc1 p1=>J4.ret p1 hc1
theorem bU (ha:DT X E a p):DW X E (.BoolOp .And [a] pos) p:=⟨WE ha.h⟩
theorem yo (ha:DT X E a p):DW X E (.BoolOp .Or [a] pos) p:=⟨qb1 ha.h⟩
theorem YA (ha:DT X E a p) (hb:DW X E (.BoolOp .And (b::rest) pos) q):DW X E (.BoolOp .And (a::b::rest) pos) (we p q):=by
 refine ⟨PW.imp (qb2 ha.h hb.h) fun σ H Q h=>?_⟩
 obtain ⟨O,l,c,hl,hc,p⟩:=h
 refine mw hl hc p fun x H1 O1 c1 e1 hl1 hc1 p1=>?_
 cases x with
 | true=>exact ⟨O1,l,c1,hl1,hc1,p1⟩
 | false=>exact J4.ret p1 hc1
theorem ky (ha:DT X E a p) (hb:DW X E (.BoolOp .Or (b::rest) pos) q):DW X E (.BoolOp .Or (a::b::rest) pos) (N6 p q):=by
 refine ⟨PW.imp (qef ha.h hb.h) fun σ H Q h=>?_⟩
 obtain ⟨O,l,c,hl,hc,p⟩:=h
 refine mw hl hc p fun x H1 O1 c1 e1 hl1 hc1 p1=>?_
 cases x with
 | true=>exact J4.ret p1 hc1
 | false=>exact ⟨O1,l,c1,hl1,hc1,p1⟩
theorem Va (h:DW X E a p):DT X E a p:=⟨PW.pt h.h⟩
def N8 (ta tb:ED):ED:=fun l=>(ta l).bd fun x=>match x with
 | .bl true=>tb l
 | .bl false=>M.ret (.bl false)
 | _=>M.stuck
def Ga (ta tb:ED):ED:=fun l=>(ta l).bd fun x=>match x with
 | .bl true=>M.ret (.bl true)
 | .bl false=>tb l
 | _=>M.stuck
def Bw (ta:ED):ED:=fun l=>(ta l).bd fun x=>match x with
 | .bl b=>M.ret (.bl (!b))
 | _=>M.stuck
theorem gf {op} (h:DE X E a ta):DE X E (.BoolOp op [a] pos) ta:=⟨qcd h.h⟩
theorem yr (ha:DE X E a ta) (hb:DE X E (.BoolOp .And (b::rest) pos) tb):DE X E (.BoolOp .And (a::b::rest) pos) (N8 ta tb):=by
 refine ⟨PE.imp (qci ha.h hb.h) fun σ H Q h=>?_⟩
 obtain ⟨O,l,c,hl,hc,p⟩:=h
 refine Z3 hl hc p fun x v H1 O1 c1 e1 hl1 hc1 rv p1=>?_
 cases x with
 | bl k=>
  cases rv
  refine ⟨k,rfl,?_⟩
  cases k with
  | true=>exact ⟨O1,l,c1,hl1,hc1,p1⟩
  | false=>exact J4.ret p1 hc1 _ (.bl false)
 | _=>exact p1.elim
theorem qe2 (ha:DE X E a ta) (hb:DE X E (.BoolOp .Or (b::rest) pos) tb):DE X E (.BoolOp .Or (a::b::rest) pos) (Ga ta tb):=by
 refine ⟨PE.imp (qei ha.h hb.h) fun σ H Q h=>?_⟩
 obtain ⟨O,l,c,hl,hc,p⟩:=h
 refine Z3 hl hc p fun x v H1 O1 c1 e1 hl1 hc1 rv p1=>?_
 cases x with
 | bl k=>
  cases rv
  refine ⟨k,rfl,?_⟩
  cases k with
  | true=>exact J4.ret p1 hc1 _ (.bl true)
  | false=>exact ⟨O1,l,c1,hl1,hc1,p1⟩
 | _=>exact p1.elim
theorem YG (ha:DE X E a ta):DE X E (.UnaryOp .Not a pos) (Bw ta):=by
 refine ⟨PE.imp (qce ha.h) fun σ H Q h=>?_⟩
 obtain ⟨O,l,c,hl,hc,p⟩:=h
 refine Z3 hl hc p fun x v H1 O1 c1 e1 hl1 hc1 rv p1=>?_
 cases x with
 | bl k=>cases rv;exact ⟨k,rfl,J4.ret p1 hc1 _ (.bl _)⟩
 | _=>exact p1.elim
def dIf (p:TD) (ta tb:ED):ED:=fun l=>(p l).bd fun b=>if b=true then ta l else tb l
def jw (f g:D->D->M D) (ta tb tc:ED):ED:=fun l=>(ta l).bd fun x=>(tb l).bd fun y=>(f x y).bd fun z=>match z with
 | .bl true=>(tc l).bd fun w=>g y w
 | .bl false=>M.ret (.bl false)
 | _=>M.stuck
def Q9:AD:=fun _=>M.ret []
def Q1 (t:ED) (u:AD):AD:=fun l=>(t l).bd fun x=>(u l).bd fun xs=>M.ret (x::xs)
variable {es:List Expr} {t:AD}
theorem Z0:DA X E [] Q9:=by
 refine ⟨PA.imp qz fun σ H Q h=>?_⟩
 obtain ⟨O,l,c,hl,hc,p⟩:=h
 exact J4.ret p hc _ .nil
theorem Q2 (ha:DE X E e ta) (hr:DA X E es t) (hs:starEach (e::es) X.env=(false,eval e X.env)::starEach es X.env:=by rfl):DA X E (e::es) (Q1 ta t):=by
 refine ⟨PA.imp (K1 ha.h hr.h hs) fun σ H Q h=>?_⟩
 obtain ⟨O,l,c,hl,hc,p⟩:=h
 refine Z3 hl hc p fun x v H1 O1 c1 e1 hl1 hc1 rv p1=>?_
 refine C3 hl1 hc1 p1 fun xs vs H2 O2 c2 e2 hl2 hc2 rvs p2=>?_
 exact J4.ret p2 hc2 _ (.cons (rv.mono e2) rvs)
def vj (t:AD):ED:=fun l=>(t l).bd fun xs=>if xs.length<=1000 then M.ret (.tup xs) else M.stuck
def yt (t:AD):ED:=fun l=>(t l).bd fun xs=>if xs.length<=1000 then M.ret (.lst xs) else M.stuck
theorem Cells.tupNew {K:Frag} {H:Hp} {O:Ow} {c:List Cell} {p:Addr} {vs:List V} {xs:List D} (hc:Cells K H O c) (n:H p=none) (r:Reps K H O vs xs):Rep K (upd H p (.tup vs)) O (.ref p) (.tup xs):=
 .tup Y5 (hc.fresh n) (r.mono (Ext.updN n))
theorem Cells.lstNew {K:Frag} {H:Hp} {O:Ow} {c:List Cell} {p:Addr} {vs:List V} {xs:List D} (hc:Cells K H O c) (n:H p=none) (r:Reps K H O vs xs):Rep K (upd H p (.lst vs)) O (.ref p) (.lst xs):=
 .lst Y5 (hc.fresh n) (r.mono (Ext.updN n))
theorem gc {x1} (h:DA X E es t):DE X E (.Tuple es x1 pos) (vj t):=by
 refine ⟨PE.imp (qcc h.h) fun σ H Q h=>?_⟩
 obtain ⟨O,l,c,hl,hc,p⟩:=h
 refine C3 hl hc p fun xs vs H1 O1 c1 e1 hl1 hc1 rv p1=>?_
 by_cases z:xs.length<=1000
 ·simp only [z,if_true] at p1
  refine ⟨by rw [rv.length];exact Nat.le_of_lt (Yh z),fun q n=>?_⟩
  exact p1 _ O1 (Ext.updN n) (hc1.updN n) _ (hc1.tupNew n rv)
 ·simp only [z,if_false] at p1
  exact p1.elim
theorem bj (h:DA X E es t):DE X E (.List es pos) (yt t):=by
 refine ⟨PE.imp (ZM h.h) fun σ H Q h=>?_⟩
 obtain ⟨O,l,c,hl,hc,p⟩:=h
 refine C3 hl hc p fun xs vs H1 O1 c1 e1 hl1 hc1 rv p1=>?_
 by_cases z:xs.length<=1000
 ·simp only [z,if_true] at p1
  refine ⟨by rw [rv.length];exact Nat.le_of_lt (Yh z),fun q n=>?_⟩
  exact p1 _ O1 (Ext.updN n) (hc1.updN n) _ (hc1.lstNew n rv)
 ·simp only [z,if_false] at p1
  exact p1.elim
def wc (t:AD):ED:=fun l=>(t l).bd fun xs c=>if xs.length<=1000 then some (.ok (.hnd c.length) (c++[.lst xs])) else none
theorem Cells.push {K:Frag} {H:Hp} {O:Ow} {c:List Cell} {p:Addr} {o:HO} {x:Cell} (hc:Cells K H O c) (n:H p=none) (hx:bz K (upd H p o) (O++[some p]) O.length x):
  Ext H O (upd H p o) (O++[some p])/\Cells K (upd H p o) (O++[some p]) (c++[x]):=by
 have ex:Ext H O (upd H p o) (O++[some p]):=by
  refine ⟨fun b u h _=>by rw [Z2 (Y2 h n)];exact h,fun k a h=>?_,fun a h=>?_⟩
  ·rw [List.getElem?_append_left (List.getElem?_eq_some_iff.mp h).1];exact h
  ·rcases List.mem_append.mp h with h | h
   ·exact .inl h
   ·obtain h:=List.mem_singleton.mp h
    cases h
    exact .inr n
 refine ⟨ex,by simp [hc.len],fun k y q=>?_,fun i j a h1 h2=>?_⟩
 ·by_cases hk:k < c.length
  ·rw [List.getElem?_append_left hk] at q
   have z:=hc.at_ k y q
   cases y with
   | dead=>
    have z:O[k]?=some none:=z
    show (O++[some p])[k]?=some none
    rw [List.getElem?_append_left (List.getElem?_eq_some_iff.mp z).1];exact z
   | lst xs=>obtain ⟨a,vs,q1,q2,q3⟩:=z;exact ⟨a,vs,ex.pre _ _ q1,by rw [Z2 (Y2 q2 n)];exact q2,q3.mono ex⟩
   | dct kvs=>obtain ⟨a,vs,q1,q2,q3,q4⟩:=z;exact ⟨a,vs,ex.pre _ _ q1,by rw [Z2 (Y2 q2 n)];exact q2,⟨q3.1,q3.2.mono ex⟩,q4⟩
   | ins C fs=>obtain ⟨a,dx,vs,q1,q2,q3⟩:=z;exact ⟨a,dx,vs,ex.pre _ _ q1,by rw [Z2 (Y2 q2 n)];exact q2,q3.1,q3.2.mono ex⟩
   | exn cls fs=>obtain ⟨a,dx,q1,q2,q3⟩:=z;exact ⟨a,dx,ex.pre _ _ q1,by rw [Z2 (Y2 q2 n)];exact q2,q3.mono ex⟩
  ·rw [List.getElem?_append_right (by omega)] at q
   have hk0:k - c.length=0:=by
    have:=(List.getElem?_eq_some_iff.mp q).1
    simp at this
    omega
   rw [hk0] at q
   simp at q
   subst q
   have hk1:k=O.length:=by rw [hc.len];omega
   rw [hk1]
   exact hx
 ·have nO:=hc.fresh n
  have side:∀ (i:Nat),(O++[some p])[i]?=some (some a)->(O[i]?=some (some a))\/(i=O.length/\a=p):=fun i h=>by
   by_cases hi:i < O.length
   ·rw [List.getElem?_append_left hi] at h;exact .inl h
   ·rw [List.getElem?_append_right (by omega)] at h
    have h0:i - O.length=0:=by
     have:=(List.getElem?_eq_some_iff.mp h).1
     simp at this
     omega
    rw [h0] at h
    simp at h
    exact .inr ⟨by omega,h.symm⟩
  rcases side i h1 with g1 | ⟨g1,e1⟩
  ·rcases side j h2 with g2 | ⟨g2,e2⟩
   ·exact hc.inj i j a g1 g2
   ·rw [e2] at g1;exact absurd (List.mem_of_getElem? g1) nO
  ·rcases side j h2 with g2 | ⟨g2,e2⟩
   ·rw [e1] at g2;exact absurd (List.mem_of_getElem? g2) nO
   ·omega
theorem Cells.pushLst {K:Frag} {H:Hp} {O:Ow} {c:List Cell} {p:Addr} {vs:List V} {xs:List D} (hc:Cells K H O c) (n:H p=none) (r:Reps K H O vs xs):
  Ext H O (upd H p (.lst vs)) (O++[some p])/\Cells K (upd H p (.lst vs)) (O++[some p]) (c++[.lst xs])/\Rep K (upd H p (.lst vs)) (O++[some p]) (.ref p) (.hnd c.length):=by
 have e0:Ext H O (upd H p (.lst vs)) (O++[some p]):=by
  refine ⟨fun b u h _=>by rw [Z2 (Y2 h n)];exact h,fun k a h=>?_,fun a h=>?_⟩
  ·rw [List.getElem?_append_left (List.getElem?_eq_some_iff.mp h).1];exact h
  ·rcases List.mem_append.mp h with h | h
   ·exact .inl h
   ·obtain h:=List.mem_singleton.mp h
    cases h
    exact .inr n
 obtain ⟨h1,h2⟩:=hc.push (o:=.lst vs) (x:=.lst xs) n ⟨p,vs,by simp,Y5,r.mono e0⟩
 exact ⟨h1,h2,.hnd (by rw [← hc.len];simp)⟩
theorem Qf (h:DA X E es t):DE X E (.List es pos) (wc t):=by
 refine ⟨PE.imp (ZM h.h) fun σ H Q h=>?_⟩
 obtain ⟨O,l,c,hl,hc,p⟩:=h
 refine C3 hl hc p fun xs vs H1 O1 c1 e1 hl1 hc1 rv p1=>?_
 by_cases z:xs.length<=1000
 ·simp only [z,if_true] at p1
  refine ⟨by rw [rv.length];exact Nat.le_of_lt (Yh z),fun q n=>?_⟩
  obtain ⟨h1,h2,h3⟩:=hc1.pushLst n rv
  exact p1 _ _ h1 h2 _ h3
 ·simp only [z,if_false] at p1
  exact p1.elim
end
section
variable {X:Cx} {E:XK} {a b c e:Expr} {ta tb tc:ED} {pos:Pos} {st:Stmt} {rest:List Stmt} {t u:SD} {p:TD}
def X0:SD:=fun l=>M.ret (.nx l)
def Z4 (t u:SD):SD:=fun l=>(t l).bd fun f=>match f with
 | .nx l'=>u l'
 | f=>M.ret f
theorem J8:DSs X E [] X0:=by
 refine ⟨PSs.imp WF fun Dn σ H h=>?_⟩
 obtain ⟨O,l,c,hl,hc,p⟩:=h
 exact J4.ret p hc σ hl
theorem Q4 (h1:DS X E st t) (h2:DSs X E rest u):DSs X E (st::rest) (Z4 t u):=by
 refine ⟨PSs.imp (Xu h1.h h2.h) fun Dn σ H h=>?_⟩
 obtain ⟨O,l,c,hl,hc,p⟩:=h
 refine ⟨O,l,c,hl,hc,p.bd.imp fun f H1 O1 c1 e1 hc1 p1=>?_⟩
 cases f with
 | nx l'=>exact fun σ' hl'=>⟨O1,l',c1,hl',hc1,p1⟩
 | ret d=>exact J4.ret (E:=E) (P:=xh X.K Dn) (x:=Fl.ret d) p1 hc1
 | bk l'=>exact J4.ret (E:=E) (P:=xh X.K Dn) (x:=Fl.bk l') p1 hc1
 | ct l'=>exact J4.ret (E:=E) (P:=xh X.K Dn) (x:=Fl.ct l') p1 hc1
theorem Q7 (h1:DS X E st t):DSs X E [st] t:=⟨qS h1.h⟩
def qfs:SD:=fun l=>M.ret (.bk l)
def qfr:SD:=fun l=>M.ret (.ct l)
def G8 (ta:ED):SD:=fun l=>(ta l).bd fun _=>M.ret (.nx l)
theorem R3 (he:DE X E e ta) (hs:swapsWith e none pos.line X.env=pure false:=by rfl):DS X E (.Expr e pos) (G8 ta):=by
 refine ⟨PS.imp (qT he.h hs) fun Dn σ H h=>?_⟩
 obtain ⟨O,l,c,hl,hc,p⟩:=h
 exact Z3 hl hc p fun x v H1 O1 c1 e1 hl1 hc1 rv p1=>J4.ret p1 hc1 σ hl1
def Y1 (ta:ED):SD:=fun l=>(ta l).bd fun d=>M.ret (.ret d)
theorem J1 (he:DE X E e ta):DS X E (.Return (some e) pos) (Y1 ta):=by
 refine ⟨PS.imp (qb5 he.h) fun Dn σ H h=>?_⟩
 obtain ⟨O,l,c,hl,hc,p⟩:=h
 exact Z3 hl hc p fun x v H1 O1 c1 e1 hl1 hc1 rv p1=>J4.ret p1 hc1 v rv
def qd3:SD:=fun _=>M.ret (.ret .non)
def sIf (p:TD) (t u:SD):SD:=fun l=>(p l).bd fun b=>if b=true then t l else u l
theorem W1 {sa sb:List Stmt} (hc:DT X E c p) (ha:DSs X E sa t) (hb:DSs X E sb u):DS X E (.If c sa sb pos) (sIf p t u):=by
 refine ⟨PS.imp (qeg hc.h ha.h hb.h) fun Dn σ H h=>?_⟩
 obtain ⟨O,l,c,hl,hc,p⟩:=h
 refine mw hl hc p fun x H1 O1 c1 e1 hl1 hc1 p1=>?_
 cases x with
 | true=>exact ⟨O1,l,c1,hl1,hc1,p1⟩
 | false=>exact ⟨O1,l,c1,hl1,hc1,p1⟩
def Y0 (i:Nat) (ta:ED):SD:=fun l=>(ta l).bd fun d=>M.ret (.nx (l.set i (some d)))
theorem Z8 {i:Nat} {x:Str} {pos':Pos} (hN:X.N.Nodup) (he:DE X E e ta) (hi:X.N[i]?=some x:=by rfl) (hx:Loc X.env.scope x:=by first | exact Or.inl rfl | exact Or.inr rfl) (hs:swapsWith e (some (.Name x pos')) pos.line X.env=pure false:=by rfl)
  (hf:X.fn x=true\/X.env.scope.names.lookup x=some .local:=by first | exact .inl rfl | exact .inr rfl | assumption):DS X E (.Assign [.Name x pos'] e pos) (Y0 i ta):=by
 refine ⟨PS.imp (qb4 hN hi hx he.h hs hf) fun Dn σ H h=>?_⟩
 obtain ⟨O,l,c,hl,hc,p⟩:=h
 exact Z3 hl hc p fun x v H1 O1 c1 e1 hl1 hc1 rv p1=>J4.ret p1 hc1 _ (hl1.set i rv)
abbrev GD:=D->L->Option L
def DG (X:Cx) (tg:Expr) (g:GD):Prop:=∃ t:TG,PG X tg t/\∀ H O v d l σ l',Rep X.K H O v d->Locs X.K H O l σ->g d l=some l'->∀ Q:St->Hp->Prop,(∀ σ',Locs X.K H O l' σ'->Q σ' H)->t v σ H Q
def J5 (i:Nat):GD:=fun d l=>some (l.set i (some d))
theorem U0 {i:Nat} {x:Str} (hN:X.N.Nodup) (hi:X.N[i]?=some x:=by rfl) (hx:Loc X.env.scope x:=by first | exact Or.inl rfl | exact Or.inr rfl)
  (hf:X.fn x=true\/X.env.scope.names.lookup x=some .local:=by first | exact .inl rfl | exact .inr rfl | assumption):DG X (.Name x pos) (J5 i):=
 ⟨vN i,bE hN hi hx hf,fun H O v d l σ l' r hl e Q k=>by cases e;exact k _ (hl.set i r)⟩
theorem Br {α:Type} {xs:List α} {i:Nat} {x:α} (h:xs[i]?=some x):xs.drop i=x::xs.drop (i+1):=by
 obtain ⟨h1,h2⟩:=List.getElem?_eq_some_iff.mp h
 rw [List.drop_eq_getElem_cons h1,h2]
end
open PyProof.Rows hiding St
mutual
def D.bel (n:Nat):D->Bool
 | .tup xs=>D.bels n xs
 | .lst xs=>D.bels n xs
 | .hnd k=>decide (k < n)
 | _=>true
def D.bels (n:Nat):List D->Bool
 | []=>true
 | x::xs=>D.bel n x && D.bels n xs
end
def Cell.bel (n:Nat):Cell->Bool
 | .lst xs=>D.bels n xs
 | .dct kvs=>D.bels n (kvs.map (·.2))
 | .ins _ fs=>D.bels n (fs.map (·.2))
 | .exn _ fs=>D.bels n (fs.map (·.2))
 | .dead=>true
theorem Ki {n:Nat}:∀ {xs:List D},(∀ x∈xs,D.bel n x=true)->D.bels n xs=true
 | [],_=>by simp [D.bels]
 | x::xs,h=>by simp [D.bels,h x List.mem_cons_self,Ki fun y hy=>h y (List.mem_cons_of_mem _ hy)]
mutual
theorem Rep.bel {K:Frag} {H:Hp} {O:Ow}:∀ {v:V} {d:D},Rep K H O v d->D.bel O.length d=true
 | _,_,.non=>by simp [D.bel]
 | _,_,.bl b=>by simp [D.bel]
 | _,_,.int i=>by simp [D.bel]
 | _,_,.str x=>by simp [D.bel]
 | _,_,.tup h n r=>by simp [D.bel];exact Reps.bel r
 | _,_,.lst h n r=>by simp [D.bel];exact Reps.bel r
 | _,_,.scr h=>by simp [D.bel]
 | _,_,.hnd h=>by simp [D.bel];exact (List.getElem?_eq_some_iff.mp h).1
theorem Reps.bel {K:Frag} {H:Hp} {O:Ow}:∀ {vs:List V} {ds:List D},Reps K H O vs ds->D.bels O.length ds=true
 | _,_,.nil=>by simp [D.bels]
 | _,_,.cons h t=>by simp [D.bels];exact ⟨Rep.bel h,Reps.bel t⟩
end
structure Sub (n:Nat) (O O':Ow):Prop where
 pre:∀ (k:Nat) (a:Addr),k < n->O[k]?=some (some a)->O'[k]?=some (some a)
 sub:∀ a,some a∈O'->some a∈O
mutual
theorem Rep.to {K:Frag} {H:Hp} {O O':Ow} {n:Nat} (s:Sub n O O'):∀ {v:V} {d:D},Rep K H O v d->D.bel n d=true->Rep K H O' v d
 | _,_,.non,_=>.non
 | _,_,.bl b,_=>.bl b
 | _,_,.int i,_=>.int i
 | _,_,.str x,_=>.str x
 | _,_,.tup h m r,q=>.tup h (fun z=>m (s.sub _ z)) (Reps.to s r (by simpa [D.bel] using q))
 | _,_,.lst h m r,q=>.lst h (fun z=>m (s.sub _ z)) (Reps.to s r (by simpa [D.bel] using q))
 | _,_,.scr h,q=>.scr (by
   rcases h with ⟨o,h,m⟩ | h
   ·exact .inl ⟨o,h,fun z=>m (s.sub _ z)⟩
   ·exact .inr h)
 | _,_,.hnd h,q=>.hnd (s.pre _ _ (by simpa [D.bel] using q) h)
theorem Reps.to {K:Frag} {H:Hp} {O O':Ow} {n:Nat} (s:Sub n O O'):∀ {vs:List V} {ds:List D},Reps K H O vs ds->D.bels n ds=true->Reps K H O' vs ds
 | _,_,.nil,_=>.nil
 | _,_,.cons h t,q=>by
  simp [D.bels] at q
  exact .cons (Rep.to s h q.1) (Reps.to s t q.2)
end
theorem Sub.take (n:Nat) (O:Ow):Sub n O (O.take n):=
 ⟨fun k a hk h=>by rw [List.getElem?_take_of_lt hk];exact h,fun a h=>List.mem_of_mem_take h⟩
theorem XF.to {K:Frag} {H:Hp} {O O':Ow} {n:Nat} {dx:Option Addr} {fs:List (Str×D)} (s:Sub n O O') (h:XF K H O dx fs) (b:D.bels n (fs.map (·.2))=true):XF K H O' dx fs:=by
 cases dx with
 | none=>exact h
 | some a=>
  obtain ⟨m,us,h1,h2⟩:=h
  exact ⟨fun z=>m (s.sub _ z),us,h1,h2.1,h2.2.to s b⟩
theorem XF.bel {K:Frag} {H:Hp} {O:Ow} {dx:Option Addr} {fs:List (Str×D)} (h:XF K H O dx fs):D.bels O.length (fs.map (·.2))=true:=by
 cases dx with
 | none=>rw [show fs=[] from h];rfl
 | some a=>
  obtain ⟨m,us,h1,h2⟩:=h
  exact h2.2.bel
theorem bz.to {K:Frag} {H:Hp} {O O':Ow} {n k:Nat} {x:Cell} (s:Sub n O O') (hk:k < n) (hd:O[k]?=some none->O'[k]?=some none) (h:bz K H O k x) (b:x.bel n=true):bz K H O' k x:=by
 cases x with
 | dead=>exact hd h
 | lst xs=>obtain ⟨a,vs,q1,q2,q3⟩:=h;exact ⟨a,vs,s.pre _ _ hk q1,q2,q3.to s b⟩
 | dct kvs=>obtain ⟨a,vs,q1,q2,q3,q4⟩:=h;exact ⟨a,vs,s.pre _ _ hk q1,q2,⟨q3.1,q3.2.to s b⟩,q4⟩
 | ins C fs=>obtain ⟨a,dx,vs,q1,q2,q3⟩:=h;exact ⟨a,dx,vs,s.pre _ _ hk q1,q2,q3.1,q3.2.to s b⟩
 | exn cls fs=>obtain ⟨a,dx,q1,q2,q3⟩:=h;exact ⟨a,dx,s.pre _ _ hk q1,q2,q3.to s b⟩
theorem bz.bel {K:Frag} {H:Hp} {O:Ow} {k:Nat} {x:Cell} (h:bz K H O k x):x.bel O.length=true:=by
 cases x with
 | dead=>rfl
 | lst xs=>obtain ⟨a,vs,q1,q2,q3⟩:=h;exact q3.bel
 | dct kvs=>obtain ⟨a,vs,q1,q2,q3,q4⟩:=h;exact q3.2.bel
 | ins C fs=>obtain ⟨a,dx,vs,q1,q2,q3⟩:=h;exact q3.2.bel
 | exn cls fs=>obtain ⟨a,dx,q1,q2,q3⟩:=h;exact q3.bel
theorem Cells.cut {K:Frag} {H:Hp} {O:Ow} {c:List Cell} {n:Nat} (h:Cells K H O c) (b:∀ k x,k < n->c[k]?=some x->x.bel n=true):Cells K H (O.take n) (c.take n):=by
 refine ⟨by simp [h.len],fun k x q=>?_,fun i j a h1 h2=>?_⟩
 ·have hk:k < n:=by
   have:=(List.getElem?_eq_some_iff.mp q).1
   rw [List.length_take] at this
   omega
  rw [List.getElem?_take_of_lt hk] at q
  exact (h.at_ k x q).to (Sub.take n O) hk (fun z=>by rw [List.getElem?_take_of_lt hk];exact z) (b k x hk q)
 ·have hi:i < n:=by
   have:=(List.getElem?_eq_some_iff.mp h1).1
   rw [List.length_take] at this
   omega
  have hj:j < n:=by
   have:=(List.getElem?_eq_some_iff.mp h2).1
   rw [List.length_take] at this
   omega
  rw [List.getElem?_take_of_lt hi] at h1
  rw [List.getElem?_take_of_lt hj] at h2
  exact h.inj i j a h1 h2
theorem Ext.cut {H H':Hp} {O O':Ow} (e:Ext H O H' O'):Ext H O H' (O'.take O.length):=
 ⟨e.keep,fun k a h=>by rw [List.getElem?_take_of_lt (List.getElem?_eq_some_iff.mp h).1];exact e.pre k a h,fun a h=>e.fresh a (List.mem_of_mem_take h)⟩
abbrev FD:=List D->M D
def spD (K:Frag) (n:Nat) (g:FD):Sp:=fun vs H Q E=>vs.length=n/\∃ O ds c,Reps K H O vs ds/\Cells K H O c/\J4 K E H O (fun d H' O' _=>∀ v,Rep K H' O' v d->Q v H') (g ds c)
def Z1 (N:List Str) (ds:List D):L:=ds.map some++List.replicate (N.length - ds.length) none
def R6 (c c':List Cell):Prop:=c.length<=c'.length/\∀ k x,k < c.length->c'[k]?=some x->c[k]?=some x\/x.bel c.length=true
theorem R6.refl (c:List Cell):R6 c c:=⟨Nat.le_refl _,fun _ _ _ h=>.inl h⟩
theorem R6.app (c ex:List Cell):R6 c (c++ex):=⟨by simp,fun k x hk h=>by rw [List.getElem?_append_left hk] at h;exact .inl h⟩
inductive Fin (c:List Cell):Option (Out Fl)->Option (Out D)->Prop where
 | val {d:D} {c':List Cell} (b:D.bel c.length d=true) (k:R6 c c'):Fin c (some (.ok (.ret d) c')) (some (.ok d (c'.take c.length)))
 | non {l:L} {c':List Cell} (k:R6 c c'):Fin c (some (.ok (.nx l) c')) (some (.ok .non (c'.take c.length)))
  | frz {i:Nat} {xs:List D} {c':List Cell} (hi:c.length<=i) (z:c'[i]?=some (.lst xs)) (b:D.bels c.length xs=true) (k:R6 c c'):Fin c (some (.ok (.ret (.hnd i)) c')) (some (.ok (.lst xs) (c'.take c.length)))
  | cell {i:Nat} {x:Cell} {c':List Cell} (hi:c.length<=i) (z:c'[i]?=some x) (b:x.bel c.length=true) (nd:x≠.dead) (k:R6 c c'):Fin c (some (.ok (.ret (.hnd i)) c')) (some (.ok (.hnd c.length) (c'.take c.length++[x])))
  | whole {d:D} {c':List Cell}:Fin c (some (.ok (.ret d) c')) (some (.ok d c'))
 | wholeN {l:L} {c':List Cell}:Fin c (some (.ok (.nx l) c')) (some (.ok .non c'))
 | exc {x:Exc} {c':List Cell} (b:D.bels c.length (x.fs.map (·.2))=true) (k:R6 c c'):Fin c (some (.exc x c')) (some (.exc x (c'.take c.length)))
theorem R6.bel {K:Frag} {H:Hp} {O:Ow} {c c':List Cell} (hc:Cells K H O c) (k:R6 c c'):∀ j x,j < c.length->c'[j]?=some x->x.bel c.length=true:=fun j x hj h=>by
 rcases k.2 j x hj h with q | q
 ·have:=(hc.at_ j x q).bel
  rw [hc.len] at this
  exact this
 ·exact q
theorem vO {K:Frag} {E:XK} {H:Hp} {O:Ow} {c:List Cell} {Q:VK} {r':Option (Out Fl)} {r:Option (Out D)} (hc:Cells K H O c) (f:Fin c r' r) (p:J4 K E H O (fun d H' O' _=>∀ v,Rep K H' O' v d->Q v H') r):
  J4 K E H O (xh K { nx:=fun _ H'=>Q .non H',rt:=Q }) r':=by
 cases f with
 | @val d c' b k=>
  intro H' O' e hc' v rv
  have e':=e.cut
  rw [hc.len] at e'
  exact p H' _ e' (hc'.cut (k.bel hc)) v (rv.to (Sub.take _ _) b)
 | @non l c' k=>
  intro H' O' e hc' σ hl
  have e':=e.cut
  rw [hc.len] at e'
  exact p H' _ e' (hc'.cut (k.bel hc)) _ .non
 | @frz i xs c' hi z b k=>
  intro H' O' e hc' v rv
  have e':=e.cut
  rw [hc.len] at e'
  cases rv with
  | @hnd a k' hk=>
   obtain ⟨a',vs,q1,q2,q3⟩:=hc'.at_ i _ z
   rw [hk] at q1;cases q1
   refine p H' _ e' (hc'.cut (k.bel hc)) _ (.lst q2 (fun m=>?_) (q3.to (Sub.take _ _) b))
   obtain ⟨j,hj,ej⟩:=List.mem_iff_getElem.mp m
   rw [List.length_take] at hj
   have:O'[j]?=some (some a):=by
    rw [← List.getElem?_take_of_lt (show j < c.length by omega),List.getElem?_eq_getElem (by rw [List.length_take];exact hj),ej]
   have:=hc'.inj j i a this hk
   omega
 | @cell i x c' hi z b nd k=>
  intro H' O' e hc' v rv
  cases rv with
  | @hnd a k' hk=>
   have hcut:=hc'.cut (k.bel hc)
   have hlen:(O'.take c.length).length=c.length:=by
    rw [hcut.len,List.length_take]
    have:=k.1
    omega
   have s1:Sub c.length O' (O'.take c.length++[some a]):=by
    refine ⟨fun j b hj h=>?_,fun b h=>?_⟩
    ·rw [List.getElem?_append_left (by omega),List.getElem?_take_of_lt hj];exact h
    ·rcases List.mem_append.mp h with h | h
     ·exact List.mem_of_mem_take h
     ·have h:=List.mem_singleton.mp h
      cases h
      exact List.mem_of_getElem? hk
   have ex:Ext H O H' (O'.take c.length++[some a]):=by
    have e':=e.cut
    rw [hc.len] at e'
    refine ⟨e'.keep,fun j b h=>?_,fun b h=>?_⟩
    ·have q:=e'.pre j b h
     rw [List.getElem?_append_left (List.getElem?_eq_some_iff.mp q).1];exact q
    ·rcases List.mem_append.mp h with h | h
     ·exact e'.fresh b h
     ·have h:=List.mem_singleton.mp h
      cases h
      exact e.fresh a (List.mem_of_getElem? hk)
   have hat:bz K H' (O'.take c.length++[some a]) c.length x:=by
    have h0:=hc'.at_ i x z
    have hn:(O'.take c.length++[some a])[c.length]?=some (some a):=by
     rw [List.getElem?_append_right (by omega)]
     simp [hlen]
    cases x with
    | dead=>exact absurd rfl nd
    | lst xs=>obtain ⟨a',vs,q1,q2,q3⟩:=h0;rw [hk] at q1;cases q1;exact ⟨a,vs,hn,q2,q3.to s1 b⟩
    | dct kvs=>obtain ⟨a',vs,q1,q2,q3,q4⟩:=h0;rw [hk] at q1;cases q1;exact ⟨a,vs,hn,q2,⟨q3.1,q3.2.to s1 b⟩,q4⟩
    | ins C fs=>obtain ⟨a',dx,vs,q1,q2,q3⟩:=h0;rw [hk] at q1;cases q1;exact ⟨a,dx,vs,hn,q2,q3.1,q3.2.to s1 b⟩
    | exn cls fs=>obtain ⟨a',dx,q1,q2,q3⟩:=h0;rw [hk] at q1;cases q1;exact ⟨a,dx,hn,q2,q3.to s1 b⟩
   refine p H' _ ex ⟨by simp [hlen,List.length_take];have:=k.1;omega,fun j y q=>?_,fun j1 j2 b h1 h2=>?_⟩ _ (.hnd (by rw [List.getElem?_append_right (by omega)];simp [hlen]))
   ·by_cases hj:j < c.length
    ·rw [List.getElem?_append_left (by rw [List.length_take];have:=k.1;omega),List.getElem?_take_of_lt hj] at q
     exact (hc'.at_ j y q).to s1 hj (fun z=>by rw [List.getElem?_append_left (by omega),List.getElem?_take_of_lt hj];exact z) (k.bel hc j y hj q)
    ·have hl2:(c'.take c.length).length=c.length:=by rw [List.length_take];have:=k.1;omega
     rw [List.getElem?_append_right (by omega),hl2] at q
     have h0:j - c.length=0:=by
      have:=(List.getElem?_eq_some_iff.mp q).1
      simp at this
      omega
     rw [h0] at q
     simp at q
     subst q
     have:j=c.length:=by omega
     rw [this]
     exact hat
   ·have side:∀ (j:Nat),(O'.take c.length++[some a])[j]?=some (some b)->(j < c.length/\O'[j]?=some (some b))\/(j=c.length/\b=a):=fun j h=>by
     by_cases hj:j < c.length
     ·rw [List.getElem?_append_left (by omega),List.getElem?_take_of_lt hj] at h;exact .inl ⟨hj,h⟩
     ·rw [List.getElem?_append_right (by omega),hlen] at h
      have h0:j - c.length=0:=by
       have:=(List.getElem?_eq_some_iff.mp h).1
       simp at this
       omega
      rw [h0] at h
      simp at h
      exact .inr ⟨by omega,h.symm⟩
    rcases side j1 h1 with ⟨g1,f1⟩ | ⟨g1,f1⟩
    ·rcases side j2 h2 with ⟨g2,f2⟩ | ⟨g2,f2⟩
     ·exact hc'.inj j1 j2 b f1 f2
     ·rw [f2] at f1
      have:=hc'.inj j1 i a f1 hk
      omega
    ·rcases side j2 h2 with ⟨g2,f2⟩ | ⟨g2,f2⟩
     ·rw [f1] at f2
      have:=hc'.inj j2 i a f2 hk
      omega
     ·omega
 | @whole d c'=>exact fun H' O' e hc' v rv=>p H' O' e hc' v rv
 | @wholeN l c'=>exact fun H' O' e hc' σ _=>p H' O' e hc' _ .non
 | @exc x c' b k=>
  intro H' O' cls dx e hc' rx
  have e':=e.cut
  rw [hc.len] at e'
  refine p H' _ cls dx e' (hc'.cut (k.bel hc)) ?_
  obtain ⟨r1,r2⟩:=rx
  refine ⟨r1,?_⟩
  cases dx with
  | none=>exact r2
  | some a=>
   obtain ⟨r3,us,r4,r5⟩:=r2
   exact ⟨fun m=>r3 (List.mem_of_mem_take m),us,r4,r5.1,r5.2.to (Sub.take _ _) b⟩
section
variable {P:Program} {w:World} {K:Frag} {mg:Str->Option Value} {base:Heap}
end
open PyProof.Rows hiding St
def W5 (lo:Int) (n:Nat):List D:=(List.range n).map fun k=>D.int (lo+(k:Nat))
section
variable {X:Cx} {E:XK} {a b c e:Expr} {ta tb tc:ED} {pos:Pos}
theorem kU {lo:Int} {n i:Nat} (h:i < n):(W5 lo n)[i]?=some (D.int (lo+(i:Nat))):=by
 unfold W5
 rw [List.getElem?_map,List.getElem?_range h]
 rfl
def vr (p:TD) (body:SD):Nat->L->M Fl
 | 0,_=>M.stuck
 | n+1,l=>(p l).bd fun b=>if b=true then (body l).bd fun f=>match f with
   | .nx l2=>vr p body n l2
   | .ct l2=>vr p body n l2
   | .bk l2=>M.ret (.nx l2)
   | .ret d=>M.ret (.ret d)
  else M.ret (.nx l)
theorem vS (fuel:L->Nat) {p:TD} {body:List Stmt} {sb:SD} (hp:PassesOwn (model X.prog X.w) X.A X.env X.xe) (hc:DT X E c p) (hb:DSs X E body sb):DS X E (.While c body [] pos) (fun l=>vr p sb (fuel l) l):=by
 refine ⟨PS.imp (ZE hp hc.h hb.h) fun Dn σ H h=>?_⟩
 obtain ⟨O,l,c,hl,hc,pp⟩:=h
 refine ⟨fun m σ H=>∃ O l c,Locs X.K H O l σ/\Cells X.K H O c/\J4 X.K E H O (xh X.K Dn) (vr p sb m l c),⟨fuel l,O,l,c,hl,hc,pp⟩,?_⟩
 rintro m σ2 H2 ⟨O2,l2,c2,hl2,hc2,p2⟩
 cases m with
 | zero=>exact p2.elim
 | succ m=>
  unfold vr at p2
  refine mw hl2 hc2 p2 fun x H3 O3 c3 e3 hl3 hc3 p3=>?_
  cases x with
  | false=>exact J4.ret (E:=E) (P:=xh X.K Dn) (x:=Fl.nx l2) p3 hc3 σ2 hl3
  | true=>
   rw [if_pos rfl]
   refine ⟨fun σ' H'=>∃ O l c,Locs X.K H' O l σ'/\Cells X.K H' O c/\J4 X.K E H' O (xh X.K Dn) (vr p sb m l c),fun σ' H' q=>⟨m,Nat.lt_succ_self _,q⟩,O3,l2,c3,hl3,hc3,?_⟩
   have p3:=J4.bd p3
   refine p3.imp fun f H4 O4 c4 e4 hc4 p4=>?_
   cases f with
   | nx l4=>exact fun σ4 q=>⟨O4,l4,c4,q,hc4,p4⟩
   | ct l4=>exact fun σ4 q=>⟨O4,l4,c4,q,hc4,p4⟩
   | bk l4=>exact J4.ret (E:=E) (P:=xh X.K Dn) (x:=Fl.nx l4) p4 hc4
   | ret d=>exact J4.ret (E:=E) (P:=xh X.K Dn) (x:=Fl.ret d) p4 hc4
def gN (n:Nat) (g:FD):FD:=fun ds=>if ds.length=n then g ds else M.stuck
def Z7 (n:Nat) (g:FD) (dds:List D) (t:AD):ED:=fun l=>(t l).bd fun xs=>gN n g (xs++dds)
variable {es:List Expr} {t:AD} {CX:CXT} {k n:Nat} {f:Addr} {fd:FuncData} {ps:List Str} {g:FD} {dvs:List V} {dds:List D} {ds:List Value} {x:Str} {p:Pos}
theorem Jp {K:Frag} {H:Hp} {O:Ow} {c:List Cell} {xs:List D} {vs:List V} {Q:VK} (r:Reps K H O vs xs) (hc:Cells K H O c) (h:J4 K E H O (fun d H' O' _=>∀ v,Rep K H' O' v d->Q v H') (gN n g xs c)):spD K n g vs H Q E:=by
 unfold gN at h
 by_cases z:xs.length=n
 ·rw [if_pos z] at h
  exact ⟨by rw [r.length];exact z,O,xs,c,r,hc,h⟩
 ·rw [if_neg z] at h
  exact h.elim
theorem Z6 (F:FnOk X.prog X.w X.K X.mg X.base CX k f fd ps (spD X.K n g)) (hr:Room k X.A) (hm:X.mg x=some (.ref f)) (hk:keepIn X.K (.ref f)=true) (hb:Y6 X.K fd ps ds) (hd:Y4 dvs ds) (rd:∀ H O,Reps X.K H O dvs dds) (hx:C0 CX X E)
  (ha:DA X E (e::es) t) (hg:Gl X x:=by rfl) (hdb:(x == ("__debug__":Str))=false:=by decide) (he:starEach (e::es) X.env=(false,eval e X.env)::starEach es X.env:=by rfl) (hpl:(backTo pos (starEach es X.env)).any (·.1)=false:=by rfl):
  DE X E (.Call (.Name x p) (e::es) [] pos) (Z7 n g dds t):=by
 refine ⟨PE.imp (WQ F hr hg hm hk hb hd hx ha.h hdb he hpl) fun σ H Q h=>?_⟩
 obtain ⟨O,l,c,hl,hc,p⟩:=h
 refine C3 hl hc p fun xs vs H1 O1 c1 e1 hl1 hc1 rv p1=>?_
 exact Jp (rv.append (rd _ _)) hc1 p1
end
open PyProof.Rows hiding St
section
variable {X:Cx} {E:XK} {a b c e:Expr} {ta tb tc:ED} {pos:Pos}
def jn (d:D) (c:List Cell):Option (List D):=match d with
 | .lst xs=>some xs
 | .hnd k=>match c[k]? with
  | some (.lst xs)=>some xs
  | _=>none
 | _=>none
theorem ur {K:Frag} {H:Hp} {O:Ow} {c:List Cell} {v:V} {d:D} {xs:List D} (hc:Cells K H O c) (r:Rep K H O v d) (h:jn d c=some xs):∃ a vs,v=.ref a/\H a=some (.lst vs)/\Reps K H O vs xs:=by
 cases r with
 | @lst a vs ys h1 n r1=>cases h;exact ⟨a,vs,rfl,h1,r1⟩
 | @hnd a k hk=>
  simp only [jn] at h
  cases z:c[k]? with
  | none=>rw [z] at h;cases h
  | some x=>
   rw [z] at h
   cases x with
   | lst ys=>
    cases h
    obtain ⟨a',vs,q1,q2,q3⟩:=hc.at_ k _ z
    rw [hk] at q1;cases q1
    exact ⟨a,vs,rfl,q2,q3⟩
   | _=>cases h
 | _=>cases h
abbrev V2 (K:Frag) (E:XK) (H:Hp) (O:Ow) (Q:VK) (r:Option (Out D)):Prop:=J4 K E H O (fun d H' O' _=>∀ v,Rep K H' O' v d->Q v H') r
theorem V2.ok {K:Frag} {H:Hp} {O:Ow} {Q:VK} {c:List Cell} {d:D} {v:V} (p:V2 K E H O Q (some (.ok d c))) (hc:Cells K H O c) (r:Rep K H O v d):Q v H:=p H O (Ext.refl _ _) hc v r
theorem V2.new {K:Frag} {H:Hp} {O:Ow} {Q:VK} {c:List Cell} {d:D} {q:Addr} {o:HO} (p:V2 K E H O Q (some (.ok d c))) (hc:Cells K H O c) (n:H q=none) (r:Rep K (upd H q o) O (.ref q) d):Q (.ref q) (upd H q o):=
 p _ O (Ext.updN n) (hc.updN n) _ r
def W3 (x y:D):M D:=match x,y with
 | .int i,.int j=>M.ret (.int (i+j))
 | .str i,.str j=>if i.length+j.length<=1000000 then M.ret (.str (i++j)) else M.stuck
 | .tup xs,.tup ys=>if xs.isEmpty=false/\xs.length+ys.length<=1000000 then M.ret (.tup (xs++ys)) else M.stuck
 | x,y=>fun c=>match jn x c,jn y c with
  | some xs,some ys=>if xs.length+ys.length<=1000000 then some (.ok (.lst (xs++ys)) c) else none
  | _,_=>none
theorem VN (i j:List Nat):(⟨i.toArray⟩:Str)++⟨j.toArray⟩=⟨(i++j).toArray⟩:=by
 show (⟨i.toArray++j.toArray⟩:Str)=_
 simp
theorem WX:Op2 X E (fun x y H Q=>(rI0 fun i j=>.int (i+j)) x y H Q\/(∃ i j,x=.str i/\y=.str j/\i.length+j.length<=sizeLine/\Q (.str (i++j)) H)\/qb0 x y H Q\/qa9 X.K x y H Q) W3:=by
 intro H O c x y v u Q hc rx ry p
 have lists:(∀ c,W3 x y c=match jn x c,jn y c with
  | some xs,some ys=>if xs.length+ys.length<=1000000 then some (.ok (.lst (xs++ys)) c) else none
  | _,_=>none)->qb0 v u H Q:=by
  intro e
  rw [e c] at p
  cases z:jn x c with
  | none=>rw [z] at p;exact p.elim
  | some xs=>
   cases z2:jn y c with
   | none=>rw [z,z2] at p;exact p.elim
   | some ys=>
    rw [z,z2] at p
    obtain ⟨a,vs,e1,h1,r1⟩:=ur hc rx z
    obtain ⟨b,us,e2,h2,r2⟩:=ur hc ry z2
    have p:V2 X.K E H O Q (if xs.length+ys.length<=1000000 then some (.ok (.lst (xs++ys)) c) else none):=p
    by_cases hz:xs.length+ys.length<=1000000
    ·rw [if_pos hz] at p
     refine ⟨a,b,vs,us,e1,e2,h1,h2,by rw [r1.length,r2.length];exact Nat.le_trans hz qa,fun q n=>V2.new p hc n (hc.lstNew n (r1.append r2))⟩
    ·rw [if_neg hz] at p;exact p.elim
 cases rx with
 | int i=>
  cases ry with
  | int j=>exact .inl ⟨i,j,rfl,rfl,J4.ret p hc _ (.int _)⟩
  | _=>exact .inr (.inr (.inl (lists fun _=>rfl)))
 | str i=>
  cases ry with
  | str j=>
   have p:V2 X.K E H O Q ((if i.length+j.length<=1000000 then M.ret (.str (i++j)) else M.stuck) c):=p
   by_cases hz:i.length+j.length<=1000000
   ·rw [if_pos hz] at p
    refine .inr (.inl ⟨_,_,rfl,rfl,?_,?_⟩)
    ·show i.toArray.size+j.toArray.size<=sizeLine
     simp
     exact Nat.le_trans hz qa
    ·rw [VN];exact J4.ret p hc _ (.str _)
   ·rw [if_neg hz] at p;exact p.elim
  | _=>exact .inr (.inr (.inl (lists fun _=>rfl)))
 | @tup a vs xs h1 n1 r1=>
  have rx:Rep X.K H O (.ref a) (.tup xs):=.tup h1 n1 r1
  cases ry with
  | @tup b us ys h2 n2 r2=>
   have p:V2 X.K E H O Q ((if xs.isEmpty=false/\xs.length+ys.length<=1000000 then M.ret (.tup (xs++ys)) else M.stuck) c):=p
   by_cases hz:xs.isEmpty=false/\xs.length+ys.length<=1000000
   ·rw [if_pos hz] at p
    refine .inr (.inr (.inr ⟨a,b,vs,us,rfl,rfl,SqT.of h1,SqT.of h2,?_,by rw [r1.length,r2.length];exact Nat.le_trans hz.2 qa,fun z=>?_,fun z q n=>V2.new p hc n (hc.tupNew n (r1.append r2))⟩))
    ·rintro rfl
     cases r1
     cases hz.1
    ·subst z
     cases r2
     rw [List.append_nil] at p
     exact J4.ret p hc _ rx
   ·rw [if_neg hz] at p;exact p.elim
  | _=>exact .inr (.inr (.inl (lists fun _=>rfl)))
 | non=>exact .inr (.inr (.inl (lists fun _=>rfl)))
 | bl _=>exact .inr (.inr (.inl (lists fun _=>rfl)))
 | lst _ _ _=>exact .inr (.inr (.inl (lists fun _=>rfl)))
 | hnd _=>exact .inr (.inr (.inl (lists fun _=>rfl)))
 | scr _=>exact .inr (.inr (.inl (lists fun _=>rfl)))
theorem V3 (ha:DE X E a ta) (hb:DE X E b tb):DE X E (.BinOp a .Add b pos) (d2 W3 ta tb):=Bv (qcp.or (wH.or (qco.or WV))) WX ha hb
def i2 (C:Int->Int->Prop) [∀ i j,Decidable (C i j)] (f:Int->Int->D):D->D->M D
 | .int i,.int j=>if C i j then M.ret (f i j) else M.stuck
 | _,_=>M.stuck
theorem qX {C C':Int->Int->Prop} [∀ i j,Decidable (C i j)] {f:Int->Int->V} {f':Int->Int->D} (hC:∀ i j,C i j->C' i j) (hf:∀ K H O i j,C i j->Rep K H O (f i j) (f' i j)):Op2 X E (rI C' f) (i2 C f'):=by
 intro H O c x y v u Q hc rx ry p
 cases rx with
 | int i=>
  cases ry with
  | int j=>
   have p:V2 X.K E H O Q ((if C i j then M.ret (f' i j) else M.stuck) c):=p
   by_cases z:C i j
   ·rw [if_pos z] at p
    exact ⟨i,j,rfl,rfl,hC i j z,J4.ret p hc _ (hf _ _ _ i j z)⟩
   ·rw [if_neg z] at p;exact p.elim
  | _=>exact p.elim
 | _=>exact p.elim
def yes:Int->Int->Prop:=fun _ _=>True
instance (i j:Int):Decidable (yes i j):=.isTrue trivial
def i20 (f:Int->Int->D):D->D->M D
 | .int i,.int j=>M.ret (f i j)
 | _,_=>M.stuck
theorem WW {f:Int->Int->V} {f':Int->Int->D} (hf:∀ K H O i j,Rep K H O (f i j) (f' i j)):Op2 X E (rI0 f) (i20 f'):=by
 intro H O c x y v u Q hc rx ry p
 cases rx with
 | int i=>
  cases ry with
  | int j=>exact ⟨i,j,rfl,rfl,J4.ret p hc _ (hf _ _ _ i j)⟩
  | _=>exact p.elim
 | _=>exact p.elim
abbrev fy:D->D->M D:=i20 fun i j=>.int (i - j)
theorem bh (ha:DE X E a ta) (hb:DE X E b tb):DE X E (.BinOp a .Sub b pos) (d2 fy ta tb):=Bv qck (WW fun _ _ _ i j=>.int _) ha hb
def Ub (i j:Int):Prop:=(-(2 ^ 64) < i/\i < 2 ^ 64)\/(-(2 ^ 64) < j/\j < 2 ^ 64)\/((-(10 ^ 200) < i/\i < 10 ^ 200)/\(-(10 ^ 200) < j/\j < 10 ^ 200))
instance (i j:Int):Decidable (Ub i j):=by unfold Ub;infer_instance
theorem ZZ {i j:Int} (h:Ub i j):IntMulOk i j:=by
 rcases h with h | h | ⟨h1,h2⟩
 ·exact qay.ok (.inl h)
 ·exact qay.ok (.inr h)
 ·have big:∀ k:Int,-(10 ^ 200) < k/\k < 10 ^ 200->k.natAbs < 2 ^ 1024:=fun k hk=>by
   have e1:(10:Nat) ^ 200<=2 ^ 1024:=by decide +kernel
   have e2:k.natAbs < 10 ^ 200:=by omega
   exact Nat.lt_of_lt_of_le e2 e1
  exact PyProof.Rows.mulOk_of_bits (m:=1024) (n:=1024) (PySem.intBits_le_iff.mpr (big i h1)) (PySem.intBits_le_iff.mpr (big j h2)) (by decide)
theorem WT:OpR X (binaryOp .Mult) (rI Ub fun i j=>.int (i * j)):=opI fun _ _ _ _ _ _ _ hc q=>mul_int q (ZZ hc)
abbrev N5:D->D->M D:=i2 Ub fun i j=>.int (i * j)
theorem B5 (ha:DE X E a ta) (hb:DE X E b tb):DE X E (.BinOp a .Mult b pos) (d2 N5 ta tb):=Bv WT (qX (fun _ _ h=>h) fun _ _ _ i j _=>.int _) ha hb
def Bs (_ j:Int):Prop:=0 < j/\j < 10 ^ 200
instance (i j:Int):Decidable (Bs i j):=by unfold Bs;infer_instance
theorem WU:OpR X (binaryOp .FloorDiv) (rI Bs fun i j=>.int (i / j)):=opI fun i j _ _ _ _ _ hc q=>by
 rw [← Int.fdiv_eq_ediv_of_nonneg i (Int.le_of_lt hc.1)] at q
 refine floordiv_int (by have:=hc.1;omega) q (.inl (PyProof.noPylong_of_log2 ?_))
 have e1:(10:Nat) ^ 200<=2 ^ 1024:=by decide +kernel
 have e2:j.natAbs < 10 ^ 200:=by have:=hc.1;have:=hc.2;omega
 have e3:j.natAbs≠0:=by have:=hc.1;omega
 exact Nat.lt_trans ((Nat.log2_lt e3).mpr (Nat.lt_of_lt_of_le e2 e1)) (by decide)
abbrev Jt:D->D->M D:=i2 Bs fun i j=>.int (i / j)
theorem Zo (ha:DE X E a ta) (hb:DE X E b tb):DE X E (.BinOp a .FloorDiv b pos) (d2 Jt ta tb):=Bv WU (qX (fun _ _ h=>h) fun _ _ _ i j _=>.int _) ha hb
def mv (_ j:Int):Prop:=0 < j
instance (i j:Int):Decidable (mv i j):=by unfold mv;infer_instance
abbrev X8:D->D->M D:=i2 mv fun i j=>.int (i % j)
theorem W2 (ha:DE X E a ta) (hb:DE X E b tb):DE X E (.BinOp a .Mod b pos) (d2 X8 ta tb):=Bv qcn (qX (fun _ _ h=>h) fun _ _ _ i j _=>.int _) ha hb
def Jc (i j:Int):Prop:=(-(2 ^ 64) < i/\i < 2 ^ 64)/\0<=j/\j<=1000
instance (i j:Int):Decidable (Jc i j):=by unfold Jc;infer_instance
abbrev Zd:D->D->M D:=i2 Jc fun i j=>.int (i ^ j.toNat)
theorem Zm (ha:DE X E a ta) (hb:DE X E b tb):DE X E (.BinOp a .Pow b pos) (d2 Zd ta tb):=Bv qcl (qX (fun i j h=>⟨h.2.1,by have:=h.2.2;omega,by have:=h.1;omega⟩) fun _ _ _ i j _=>.int _) ha hb
def wO:D->M D
 | .int i=>M.ret (.int (-i))
 | _=>M.stuck
def d1 (f:D->M D) (ta:ED):ED:=fun l=>(ta l).bd f
theorem YH (ha:DE X E a ta):DE X E (.UnaryOp .USub a pos) (d1 wO ta):=by
 refine ⟨PE.imp (qeh qbo ha.h) fun σ H Q h=>?_⟩
 obtain ⟨O,l,c,hl,hc,p⟩:=h
 refine Z3 hl hc p fun x v H1 O1 c1 e1 hl1 hc1 rv p1=>?_
 cases rv with
 | int i=>exact ⟨i,rfl,J4.ret p1 hc1 _ (.int _)⟩
 | _=>exact p1.elim
def ltL (x y:List Nat):Bool:=decide (x < y)
def Vd (fi:Int->Int->Bool) (fs:List Nat->List Nat->Bool):D->D->M D
 | .int i,.int j=>M.ret (.bl (fi i j))
 | .str i,.str j=>M.ret (.bl (fs i j))
 | _,_=>M.stuck
abbrev rS (fs:List Nat->List Nat->Bool):R2:=fun x y H Q=>∃ i j,x=.str i/\y=.str j/\Q (.bl (fs i.cps.toList j.cps.toList)) H
theorem Jd {fi:Int->Int->Bool} {fs:List Nat->List Nat->Bool}:Op2 X E (fun x y H Q=>rI0 (fun i j=>.bl (fi i j)) x y H Q\/rS fs x y H Q) (Vd fi fs):=by
 intro H O c x y v u Q hc rx ry p
 cases rx with
 | int i=>
  cases ry with
  | int j=>exact .inl ⟨i,j,rfl,rfl,J4.ret p hc _ (.bl _)⟩
  | _=>exact p.elim
 | str i=>
  cases ry with
  | str j=>exact .inr ⟨_,_,rfl,rfl,J4.ret p hc _ (.bl _)⟩
  | _=>exact p.elim
 | _=>exact p.elim
theorem ZU:OpR X (compareOp .Lt) (rS ltL):=mG
theorem ZV:OpR X (compareOp .LtE) (rS fun x y=>!ltL y x):=by
 intro pins s σ H x y v u Q I rx ry h
 obtain ⟨i,j,rfl,rfl,q⟩:=h
 obtain ⟨t,rfl⟩:=rx
 obtain ⟨t',rfl⟩:=ry
 exact PySem.P.le_str (gK I q rfl)
theorem qcj:OpR X (compareOp .GtE) (rS fun x y=>!ltL x y):=by
 intro pins s σ H x y v u Q I rx ry h
 obtain ⟨i,j,rfl,rfl,q⟩:=h
 obtain ⟨t,rfl⟩:=rx
 obtain ⟨t',rfl⟩:=ry
 exact PySem.P.ge_str (gK I q rfl)
abbrev ltD:D->D->M D:=Vd (fun i j=>decide (i < j)) ltL
abbrev leD:D->D->M D:=Vd (fun i j=>decide (i<=j)) fun x y=>!ltL y x
abbrev geD:D->D->M D:=Vd (fun i j=>decide (j<=i)) fun x y=>!ltL x y
theorem qe3 (ha:DE X E a ta) (hb:DE X E b tb):DE X E (.Compare a [.Lt] [b] pos) (d2 ltD ta tb):=YM (qba.or ZU) Jd ha hb (Ze _)
theorem qbk (ha:DE X E a ta) (hb:DE X E b tb):DT X E (.Compare a [.Lt] [b] pos) (tOf (d2 ltD ta tb)):=Us (qba.or ZU) Jd ha hb (Ze _)
theorem qe1 (ha:DE X E a ta) (hb:DE X E b tb):DT X E (.Compare a [.GtE] [b] pos) (tOf (d2 geD ta tb)):=Us (qem.or qcj) Jd ha hb (Ze _)
theorem wY {r r':R2} {f g:D->D->M D} (hf:Op2 X E r f) (hg:Op2 X E r' g) {σ:St} {H:Hp} {Q:VK} (h:P6 X.K E (jw f g ta tb tc) σ H Q):QJ r r' (P6 X.K E ta) (P6 X.K E tb) (P6 X.K E tc) σ H Q:=by
 obtain ⟨O,l,c,hl,hc,p⟩:=h
 refine Z3 hl hc p fun x v H1 O1 c1 e1 hl1 hc1 rv p1=>?_
 refine Z3 hl1 hc1 p1 fun y u H2 O2 c2 e2 hl2 hc2 ru p2=>?_
 refine hf H2 O2 c2 x y v u _ hc2 (rv.mono e2) ru ?_
 refine p2.bd.imp fun z H3 O3 c3 e3 hc3 p3 w rw_=>?_
 cases z with
 | bl k=>
  cases rw_
  refine ⟨k,rfl,?_⟩
  cases k with
  | false=>exact J4.ret p3 hc3 _ (.bl false)
  | true=>
   have p3:V2 X.K E H3 O3 Q (((tc l).bd fun w=>g y w) c3):=p3
   refine Z3 (hl2.mono e3) hc3 p3 fun w2 v2 H4 O4 c4 e4 hl4 hc4 rv4 p4=>?_
   exact hg H4 O4 c4 y w2 u v2 Q hc4 ((ru.mono e3).mono e4) rv4 p4
 | _=>exact p3.elim
theorem YN {op op':CmpOp} {r r':R2} {f g:D->D->M D} (ho:OpR X (compareOp op) r) (hf:Op2 X E r f) (ho':OpR X (compareOp op') r') (hg:Op2 X E r' g) (ha:DE X E a ta) (hb:DE X E b tb) (hc:DE X E c tc) (hm:lastMarks [op,op'] [b,c]=false:=by with_unfolding_all rfl):
  DE X E (.Compare a [op,op'] [b,c] pos) (jw f g ta tb tc):=⟨PE.imp (ZS ho ho' ha.h hb.h hc.h hm) fun σ H Q h=>wY hf hg h⟩
theorem vX (ha:DE X E a ta) (hb:DE X E b tb) (hc:DE X E c tc) (hm:lastMarks [.LtE,.LtE] [b,c]=false:=by with_unfolding_all rfl):DE X E (.Compare a [.LtE,.LtE] [b,c] pos) (jw leD leD ta tb tc):=YN (qbb.or ZV) Jd (qbb.or ZV) Jd ha hb hc hm
end
open PyProof.Rows hiding St
mutual
def eqD:D->D->Bool
 | .non,.non=>true
 | .bl a,.bl b=>a == b
 | .bl a,.int b=>(if a then 1 else 0) == b
 | .int a,.bl b=>a == (if b then 1 else 0)
 | .int a,.int b=>a == b
 | .str a,.str b=>a == b
 | .tup xs,.tup ys=>vg xs ys
 | .lst xs,.lst ys=>vg xs ys
 | _,_=>false
def vg:List D->List D->Bool
 | [],[]=>true
 | x::xs,y::ys=>eqD x y && vg xs ys
 | _,_=>false
end
def J6:Nat->D->Bool
 | n+1,.tup xs=>xs.all (J6 n)
 | n+1,.lst xs=>xs.all (J6 n)
 | 0,.tup _=>false
 | 0,.lst _=>false
 | _,.hnd _=>false
 | _,.scr _=>false
 | _,_=>true
theorem Up:∀ {xs ys:List D},vg xs ys=true->xs.length=ys.length
 | [],[],_=>rfl
 | x::xs,y::ys,h=>by simp [vg] at h;simp [Up h.2]
 | [],_::_,h=>by simp [vg] at h
 | _::_,[],h=>by simp [vg] at h
theorem Zk:∀ (xs ys:List D),xs.length=ys.length->vg xs ys=(List.range xs.length).all fun j=>eqD (xs.getD j .non) (ys.getD j .non)
 | [],[],_=>rfl
 | x::xs,y::ys,h=>by
  have ih:=Zk xs ys (by simpa using h)
  rw [List.length_cons,List.range_succ_eq_map,List.all_cons,List.all_map]
  simp only [vg,ih]
  rfl
 | [],_::_,h=>by simp at h
 | _::_,[],h=>by simp at h
mutual
theorem Uq:∀ (n:Nat) (d:D),J6 n d=true->eqD d d=true
 | _,.non,_=>by simp [eqD]
 | _,.bl _,_=>by simp [eqD]
 | _,.int _,_=>by simp [eqD]
 | _,.str _,_=>by simp [eqD]
 | n+1,.tup xs,h=>by simp only [eqD];exact Yz n xs (by simpa [J6] using h)
 | n+1,.lst xs,h=>by simp only [eqD];exact Yz n xs (by simpa [J6] using h)
 | 0,.tup xs,h=>by simp [J6] at h
 | 0,.lst xs,h=>by simp [J6] at h
 | n,.hnd _,h=>by cases n <;> simp [J6] at h
 | n,.scr _,h=>by cases n <;> simp [J6] at h
theorem Yz:∀ (n:Nat) (d:List D),(∀ x∈d,J6 n x=true)->vg d d=true
 | _,[],_=>by simp [vg]
 | n,x::xs,h=>by simp [vg,Uq n x (h x List.mem_cons_self),Yz n xs fun y hy=>h y (List.mem_cons_of_mem _ hy)]
end
section
variable {X:Cx} {E:XK} {pins:List (Addr×Obj)} {σ:St} {H:Hp} {s:Shared} {O:Ow}
mutual
theorem Rep.inj:∀ (n:Nat) {v:V} {x y:D},J6 n x=true->J6 n y=true->Rep X.K H O v x->Rep X.K H O v y->x=y
 | _,_,_,_,_,_,.non,.non=>rfl
 | _,_,_,_,_,_,.bl _,.bl _=>rfl
 | _,_,_,_,_,_,.int _,.int _=>rfl
 | _,_,_,_,_,_,.str x,r=>by
  generalize e:V.str ⟨x.toArray⟩=v at r
  cases r with
  | str y=>have e':x.toArray=y.toArray:=by injection e with e;injection e
           have:x=y:=by simpa using congrArg Array.toList e'
           rw [this]
  | _=>cases e
 | n+1,_,_,_,h1,h2,.tup a1 _ r1,.tup a2 _ r2=>by
  rw [a1] at a2;cases a2
  rw [Reps.inj n (by simpa [J6] using h1) (by simpa [J6] using h2) r1 r2]
 | n+1,_,_,_,h1,h2,.lst a1 _ r1,.lst a2 _ r2=>by
  rw [a1] at a2;cases a2
  rw [Reps.inj n (by simpa [J6] using h1) (by simpa [J6] using h2) r1 r2]
 | 0,_,_,_,h1,_,.tup _ _ _,_=>by simp [J6] at h1
 | 0,_,_,_,h1,_,.lst _ _ _,_=>by simp [J6] at h1
 | _,_,_,_,_,_,.tup a1 _ _,.lst a2 _ _=>by rw [a1] at a2;cases a2
 | _,_,_,_,_,_,.lst a1 _ _,.tup a2 _ _=>by rw [a1] at a2;cases a2
 | n,_,_,_,h1,_,.hnd _,_=>by cases n <;> simp [J6] at h1
 | n,_,_,_,h1,_,.scr _,_=>by cases n <;> simp [J6] at h1
 | n,_,_,_,_,h2,_,.hnd _=>by cases n <;> simp [J6] at h2
 | n,_,_,_,_,h2,_,.scr _=>by cases n <;> simp [J6] at h2
theorem Reps.inj:∀ (n:Nat) {v:List V} {x y:List D},(∀ d∈x,J6 n d=true)->(∀ d∈y,J6 n d=true)->Reps X.K H O v x->Reps X.K H O v y->x=y
 | _,_,_,_,_,_,.nil,.nil=>rfl
 | n,_,_,_,h1,h2,.cons a1 b1,.cons a2 b2=>by
  rw [Rep.inj n (h1 _ List.mem_cons_self) (h2 _ List.mem_cons_self) a1 a2,Reps.inj n (fun d hd=>h1 d (List.mem_cons_of_mem _ hd)) (fun d hd=>h2 d (List.mem_cons_of_mem _ hd)) b1 b2]
end
theorem jB (x y:List Nat):((⟨x.toArray⟩:Str) == ⟨y.toArray⟩)=(x == y):=by
 rw [Bool.eq_iff_iff]
 simp
theorem QR {A:Around} {n:Nat} {vs us:List V} {xs ys:List D} {its its2:List Value} (ih:∀ (x y:D) (v u:V) (v' u':Value),J6 n x=true->J6 n y=true->Rep X.K H O v x->Rep X.K H O u y->Y8 v v'->Y8 u u'->SeqAt.EqAt A s v' u' (eqD x y))
  (h1:∀ d∈xs,J6 n d=true) (h2:∀ d∈ys,J6 n d=true) (r1:Reps X.K H O vs xs) (r2:Reps X.K H O us ys) (q1:Y4 vs its) (q2:Y4 us its2):
  ∀ j (g1:j < its.toArray.size) (g2:j < its2.toArray.size),SeqAt.EqAt A s its.toArray[j] its2.toArray[j] (eqD (xs.getD j .non) (ys.getD j .non)):=by
 intro j g1 g2
 have l1:=r1.length
 have l2:=r2.length
 have k1:=q1.length
 have k2:=q2.length
 simp only [List.size_toArray] at g1 g2
 obtain ⟨d1,e1⟩:∃ d,xs[j]?=some d:=⟨xs[j]'(by omega),List.getElem?_eq_getElem (by omega)⟩
 obtain ⟨d2,e2⟩:∃ d,ys[j]?=some d:=⟨ys[j]'(by omega),List.getElem?_eq_getElem (by omega)⟩
 obtain ⟨v,f1,t1⟩:=r1.get e1
 obtain ⟨u,f2,t2⟩:=r2.get e2
 obtain ⟨v',w1,s1⟩:=q1.get f1
 obtain ⟨u',w2,s2⟩:=q2.get f2
 have a1:its.toArray[j]=v':=by
  rw [List.getElem_toArray]
  rw [List.getElem?_eq_getElem g1] at w1
  exact Option.some.inj w1
 have a2:its2.toArray[j]=u':=by
  rw [List.getElem_toArray]
  rw [List.getElem?_eq_getElem g2] at w2
  exact Option.some.inj w2
 rw [a1,a2,List.getD_eq_getElem?_getD,List.getD_eq_getElem?_getD,e1,e2]
 exact ih d1 d2 v u v' u' (h1 _ (List.mem_of_getElem? e1)) (h2 _ (List.mem_of_getElem? e2)) t1 t2 s1 s2
theorem zJ (I:Inv X pins σ H s):∀ (n:Nat) (A:Around),A.units+n < cLine->∀ (x y:D) (v u:V) (v' u':Value),J6 n x=true->J6 n y=true->Rep X.K H O v x->Rep X.K H O u y->Y8 v v'->Y8 u u'->
  SeqAt.RcAt A s v' u' (eqD x y)/\SeqAt.RcNeAt A s v' u' (!eqD x y)/\SeqAt.EqAt A s v' u' (eqD x y):=by
 intro n
 induction n with
 | zero=>
  intro A hu x y v u v' u' h1 h2 rx ry sx sy
  cases rx with
  | non=>
   cases sx
   cases ry with
   | non=>cases sy;simp only [eqD];exact ⟨SeqAt.RcAt.none_none,SeqAt.RcNeAt.none_none,SeqAt.EqAt.same _⟩
   | bl b=>cases sy;simp only [eqD];exact ⟨SeqAt.RcAt.none_bool b,SeqAt.RcNeAt.none_bool b,SeqAt.EqAt.none_bool b⟩
   | int b=>obtain ⟨t,rfl⟩:=sy;simp only [eqD];exact ⟨SeqAt.RcAt.none_int b t,SeqAt.RcNeAt.none_int b t,SeqAt.EqAt.none_int b t⟩
   | str b=>obtain ⟨t,rfl⟩:=sy;simp only [eqD];exact ⟨SeqAt.RcAt.none_str _ t,SeqAt.RcNeAt.none_str _ t,SeqAt.EqAt.none_str _ t⟩
   | _=>simp [J6] at h2
  | bl a=>
   cases sx
   cases ry with
   | non=>cases sy;simp only [eqD];exact ⟨SeqAt.RcAt.bool_none a,SeqAt.RcNeAt.bool_none a,SeqAt.EqAt.bool_none a⟩
   | bl b=>cases sy;simp only [eqD];exact ⟨SeqAt.RcAt.bool_bool a b,SeqAt.RcNeAt.bool_bool a b,SeqAt.EqAt.bool_bool a b⟩
   | int b=>obtain ⟨t,rfl⟩:=sy;simp only [eqD];exact ⟨SeqAt.RcAt.bool_int a b t,SeqAt.RcNeAt.bool_int a b t,SeqAt.EqAt.bool_int a b t⟩
   | str b=>obtain ⟨t,rfl⟩:=sy;simp only [eqD];exact ⟨SeqAt.RcAt.bool_str a _ t,SeqAt.RcNeAt.bool_str a _ t,SeqAt.EqAt.bool_str a _ t⟩
   | _=>simp [J6] at h2
  | int a=>
   obtain ⟨t',rfl⟩:=sx
   cases ry with
   | non=>cases sy;simp only [eqD];exact ⟨SeqAt.RcAt.int_none a t',SeqAt.RcNeAt.int_none a t',SeqAt.EqAt.int_none a t'⟩
   | bl b=>cases sy;simp only [eqD];exact ⟨SeqAt.RcAt.int_bool a t' b,SeqAt.RcNeAt.int_bool a t' b,SeqAt.EqAt.int_bool a t' b⟩
   | int b=>obtain ⟨t,rfl⟩:=sy;simp only [eqD];exact ⟨SeqAt.RcAt.int_int a t' b t,SeqAt.RcNeAt.int_int a t' b t,SeqAt.EqAt.int_int a t' b t⟩
   | str b=>obtain ⟨t,rfl⟩:=sy;simp only [eqD];exact ⟨SeqAt.RcAt.int_str a t' _ t,SeqAt.RcNeAt.int_str a t' _ t,SeqAt.EqAt.int_str a t' _ t⟩
   | _=>simp [J6] at h2
  | str a=>
   obtain ⟨t',rfl⟩:=sx
   cases ry with
   | non=>cases sy;simp only [eqD];exact ⟨SeqAt.RcAt.str_none _ t',SeqAt.RcNeAt.str_none _ t',SeqAt.EqAt.str_none _ t'⟩
   | bl b=>cases sy;simp only [eqD];exact ⟨SeqAt.RcAt.str_bool _ t' b,SeqAt.RcNeAt.str_bool _ t' b,SeqAt.EqAt.str_bool _ t' b⟩
   | int b=>obtain ⟨t,rfl⟩:=sy;simp only [eqD];exact ⟨SeqAt.RcAt.str_int _ t' b t,SeqAt.RcNeAt.str_int _ t' b t,SeqAt.EqAt.str_int _ t' b t⟩
   | str b=>obtain ⟨t,rfl⟩:=sy;simp only [eqD];rw [← jB];exact ⟨SeqAt.RcAt.str_str _ t' _ t,SeqAt.RcNeAt.str_str _ t' _ t,SeqAt.EqAt.str_str _ t' _ t⟩
   | _=>simp [J6] at h2
  | _=>simp [J6] at h1
 | succ n ih=>
  intro A hu x y v u v' u' h1 h2 rx ry sx sy
  have hu0:A.units < cLine:=by omega
  have hu1:A.in1.units+n < cLine:=by show A.units+1+n < cLine;omega
  have ih1:=fun x y v u v' u' a b c d e f=>(ih A.in1 hu1 x y v u v' u' a b c d e f).2.2
  have flat:J6 n x=true->J6 n y=true->SeqAt.RcAt A s v' u' (eqD x y)/\SeqAt.RcNeAt A s v' u' (!eqD x y)/\SeqAt.EqAt A s v' u' (eqD x y):=fun a b=>ih A (by omega) x y v u v' u' a b rx ry sx sy
  have qK:∀ d:D,(match d with | .tup _=>False | .lst _=>False | .hnd _=>False | .scr _=>False | _=>True)->J6 n d=true:=by
   intro d hd
   cases d <;> first | exact hd.elim | (cases n <;> rfl)
  cases rx with
  | @tup a vs xs a1 m1 r1=>
   cases sx
   obtain ⟨its,q1,p1,z1⟩:=I.tuple (SqT.of a1)
   have g1:∀ d∈xs,J6 n d=true:=by simpa [J6] using h1
   cases ry with
   | @tup b us ys a2 m2 r2=>
    cases sy
    obtain ⟨its2,q2,p2,z2⟩:=I.tuple (SqT.of a2)
    have g2:∀ d∈ys,J6 n d=true:=by simpa [J6] using h2
    have he:=QR ih1 g1 g2 r1 r2 q1 q2
    have ee:((List.range (min its.toArray.size its2.toArray.size)).all (fun j=>eqD (xs.getD j .non) (ys.getD j .non)) && (its.toArray.size == its2.toArray.size))=eqD (.tup xs) (.tup ys):=by
     simp only [eqD,List.size_toArray,← q1.length,← q2.length,r1.length,r2.length]
     by_cases hl:xs.length=ys.length
     ·rw [Zk xs ys hl,hl];simp
     ·have:vg xs ys=false:=by
       cases z:vg xs ys with
       | false=>rfl
       | true=>exact absurd (Up z) hl
      rw [this]
      simp [hl]
    have t1:=SeqAt.RcAt.tuples p1 p2 hu0 he
    have t2:=SeqAt.RcNeAt.tuples p1 p2 hu0 he
    rw [ee] at t1 t2
    refine ⟨t1,t2,?_⟩
    by_cases hab:a=b
    ·subst hab
     have exy:D.tup xs=D.tup ys:=Rep.inj (n+1) h1 h2 (.tup a1 m1 r1) (.tup a2 m2 r2)
     rw [← exy,Uq _ _ h1]
     exact SeqAt.EqAt.same _
    ·exact SeqAt.EqAt.of_refs hab t1
   | @lst b us ys a2 m2 r2=>
    cases sy
    obtain ⟨its2,q2,p2,z2⟩:=I.list (SqL.of a2)
    simp only [eqD]
    exact ⟨SeqAt.RcAt.tuple_list p1 p2.isList hu0,SeqAt.RcNeAt.tuple_list p1 p2.isList hu0,SeqAt.EqAt.tuple_list p1 p2.isList hu0⟩
   | non=>cases sy;simp only [eqD];exact ⟨SeqAt.RcAt.tuple_none p1 hu0,SeqAt.RcNeAt.tuple_none p1 hu0,SeqAt.EqAt.tuple_none p1 hu0⟩
   | bl b=>cases sy;simp only [eqD];exact ⟨SeqAt.RcAt.tuple_bool b p1 hu0,SeqAt.RcNeAt.tuple_bool b p1 hu0,SeqAt.EqAt.tuple_bool b p1 hu0⟩
   | int b=>obtain ⟨t,rfl⟩:=sy;simp only [eqD];exact ⟨SeqAt.RcAt.tuple_int b t p1 hu0,SeqAt.RcNeAt.tuple_int b t p1 hu0,SeqAt.EqAt.tuple_int b t p1 hu0⟩
   | str b=>obtain ⟨t,rfl⟩:=sy;simp only [eqD];exact ⟨SeqAt.RcAt.tuple_str _ t p1 hu0,SeqAt.RcNeAt.tuple_str _ t p1 hu0,SeqAt.EqAt.tuple_str _ t p1 hu0⟩
   | hnd _=>simp [J6] at h2
   | scr _=>simp [J6] at h2
  | @lst a vs xs a1 m1 r1=>
   cases sx
   obtain ⟨its,q1,p1',z1⟩:=I.list (SqL.of a1)
   have p1:=p1'.isList
   have g1:∀ d∈xs,J6 n d=true:=by simpa [J6] using h1
   cases ry with
   | @lst b us ys a2 m2 r2=>
    cases sy
    obtain ⟨its2,q2,p2',z2⟩:=I.list (SqL.of a2)
    have p2:=p2'.isList
    have g2:∀ d∈ys,J6 n d=true:=by simpa [J6] using h2
    have he:=QR ih1 g1 g2 r1 r2 q1 q2
    have O6:SeqAt.RcAt A s (.ref a) (.ref b) (eqD (.lst xs) (.lst ys))/\SeqAt.RcNeAt A s (.ref a) (.ref b) (!eqD (.lst xs) (.lst ys)):=by
     simp only [eqD]
     by_cases hl:xs.length=ys.length
     ·have hsz:its.toArray.size=its2.toArray.size:=by simp only [List.size_toArray,← q1.length,← q2.length,r1.length,r2.length];exact hl
      have t1:=SeqAt.RcAt.lists p1 p2 hsz hu0 he
      have t2:=SeqAt.RcNeAt.lists p1 p2 hsz hu0 he
      have ee:(List.range its.toArray.size).all (fun j=>eqD (xs.getD j .non) (ys.getD j .non))=vg xs ys:=by
       rw [Zk xs ys hl]
       simp only [List.size_toArray,← q1.length,r1.length]
      rw [ee] at t1 t2
      exact ⟨t1,t2⟩
     ·have hsz:(its.toArray.size != its2.toArray.size)=true:=by simp only [List.size_toArray,← q1.length,← q2.length,r1.length,r2.length];simpa using hl
      have:vg xs ys=false:=by
       cases z:vg xs ys with
       | false=>rfl
       | true=>exact absurd (Up z) hl
      rw [this]
      exact ⟨SeqAt.RcAt.lists_lengths p1 p2 hsz hu0,SeqAt.RcNeAt.lists_lengths p1 p2 hsz hu0⟩
    refine ⟨O6.1,O6.2,?_⟩
    by_cases hab:a=b
    ·subst hab
     have exy:D.lst xs=D.lst ys:=Rep.inj (n+1) h1 h2 (.lst a1 m1 r1) (.lst a2 m2 r2)
     rw [← exy,Uq _ _ h1]
     exact SeqAt.EqAt.same _
    ·exact SeqAt.EqAt.of_refs hab O6.1
   | @tup b us ys a2 m2 r2=>
    cases sy
    obtain ⟨its2,q2,p2,z2⟩:=I.tuple (SqT.of a2)
    simp only [eqD]
    exact ⟨SeqAt.RcAt.list_tuple p1 p2 hu0,SeqAt.RcNeAt.list_tuple p1 p2 hu0,SeqAt.EqAt.list_tuple p1 p2 hu0⟩
   | non=>cases sy;simp only [eqD];exact ⟨SeqAt.RcAt.list_none p1 hu0,SeqAt.RcNeAt.list_none p1 hu0,SeqAt.EqAt.list_none p1 hu0⟩
   | bl b=>cases sy;simp only [eqD];exact ⟨SeqAt.RcAt.list_bool b p1 hu0,SeqAt.RcNeAt.list_bool b p1 hu0,SeqAt.EqAt.list_bool b p1 hu0⟩
   | int b=>obtain ⟨t,rfl⟩:=sy;simp only [eqD];exact ⟨SeqAt.RcAt.list_int b t p1 hu0,SeqAt.RcNeAt.list_int b t p1 hu0,SeqAt.EqAt.list_int b t p1 hu0⟩
   | str b=>obtain ⟨t,rfl⟩:=sy;simp only [eqD];exact ⟨SeqAt.RcAt.list_str _ t p1 hu0,SeqAt.RcNeAt.list_str _ t p1 hu0,SeqAt.EqAt.list_str _ t p1 hu0⟩
   | hnd _=>simp [J6] at h2
   | scr _=>simp [J6] at h2
  | hnd _=>simp [J6] at h1
  | scr _=>simp [J6] at h1
  | non=>
   cases ry with
   | @tup b us ys a2 m2 r2=>cases sx;cases sy;obtain ⟨its2,q2,p2,z2⟩:=I.tuple (SqT.of a2);simp only [eqD];exact ⟨SeqAt.RcAt.none_tuple p2 hu0,SeqAt.RcNeAt.none_tuple p2 hu0,SeqAt.EqAt.none_tuple p2 hu0⟩
   | @lst b us ys a2 m2 r2=>cases sx;cases sy;obtain ⟨its2,q2,p2,z2⟩:=I.list (SqL.of a2);simp only [eqD];exact ⟨SeqAt.RcAt.none_list p2.isList hu0,SeqAt.RcNeAt.none_list p2.isList hu0,SeqAt.EqAt.none_list p2.isList hu0⟩
   | hnd _=>simp [J6] at h2
   | scr _=>simp [J6] at h2
   | _=>exact flat (qK _ trivial) (qK _ trivial)
  | bl c=>
   cases ry with
   | @tup b us ys a2 m2 r2=>cases sx;cases sy;obtain ⟨its2,q2,p2,z2⟩:=I.tuple (SqT.of a2);simp only [eqD];exact ⟨SeqAt.RcAt.bool_tuple c p2 hu0,SeqAt.RcNeAt.bool_tuple c p2 hu0,SeqAt.EqAt.bool_tuple c p2 hu0⟩
   | @lst b us ys a2 m2 r2=>cases sx;cases sy;obtain ⟨its2,q2,p2,z2⟩:=I.list (SqL.of a2);simp only [eqD];exact ⟨SeqAt.RcAt.bool_list c p2.isList hu0,SeqAt.RcNeAt.bool_list c p2.isList hu0,SeqAt.EqAt.bool_list c p2.isList hu0⟩
   | hnd _=>simp [J6] at h2
   | scr _=>simp [J6] at h2
   | _=>exact flat (qK _ trivial) (qK _ trivial)
  | int c=>
   cases ry with
   | @tup b us ys a2 m2 r2=>obtain ⟨t,rfl⟩:=sx;cases sy;obtain ⟨its2,q2,p2,z2⟩:=I.tuple (SqT.of a2);simp only [eqD];exact ⟨SeqAt.RcAt.int_tuple c t p2 hu0,SeqAt.RcNeAt.int_tuple c t p2 hu0,SeqAt.EqAt.int_tuple c t p2 hu0⟩
   | @lst b us ys a2 m2 r2=>obtain ⟨t,rfl⟩:=sx;cases sy;obtain ⟨its2,q2,p2,z2⟩:=I.list (SqL.of a2);simp only [eqD];exact ⟨SeqAt.RcAt.int_list c t p2.isList hu0,SeqAt.RcNeAt.int_list c t p2.isList hu0,SeqAt.EqAt.int_list c t p2.isList hu0⟩
   | hnd _=>simp [J6] at h2
   | scr _=>simp [J6] at h2
   | _=>exact flat (qK _ trivial) (qK _ trivial)
  | str c=>
   cases ry with
   | @tup b us ys a2 m2 r2=>obtain ⟨t,rfl⟩:=sx;cases sy;obtain ⟨its2,q2,p2,z2⟩:=I.tuple (SqT.of a2);simp only [eqD];exact ⟨SeqAt.RcAt.str_tuple _ t p2 hu0,SeqAt.RcNeAt.str_tuple _ t p2 hu0,SeqAt.EqAt.str_tuple _ t p2 hu0⟩
   | @lst b us ys a2 m2 r2=>obtain ⟨t,rfl⟩:=sx;cases sy;obtain ⟨its2,q2,p2,z2⟩:=I.list (SqL.of a2);simp only [eqD];exact ⟨SeqAt.RcAt.str_list _ t p2.isList hu0,SeqAt.RcNeAt.str_list _ t p2.isList hu0,SeqAt.EqAt.str_list _ t p2.isList hu0⟩
   | hnd _=>simp [J6] at h2
   | scr _=>simp [J6] at h2
   | _=>exact flat (qK _ trivial) (qK _ trivial)
end
open PyProof.Rows hiding St
mutual
theorem Xg:∀ (n:Nat) (d:D),J6 n d=true->D.bel 0 d=true
 | _,.non,_=>by simp [D.bel]
 | _,.bl _,_=>by simp [D.bel]
 | _,.int _,_=>by simp [D.bel]
 | _,.str _,_=>by simp [D.bel]
 | n+1,.tup xs,h=>by simp only [D.bel];exact uq n xs (by simpa [J6] using h)
 | n+1,.lst xs,h=>by simp only [D.bel];exact uq n xs (by simpa [J6] using h)
 | 0,.tup xs,h=>by simp [J6] at h
 | 0,.lst xs,h=>by simp [J6] at h
 | n,.hnd _,h=>by cases n <;> simp [J6] at h
 | n,.scr _,h=>by cases n <;> simp [J6] at h
theorem uq:∀ (n:Nat) (d:List D),(∀ x∈d,J6 n x=true)->D.bels 0 d=true
 | _,[],_=>by simp [D.bels]
 | n,x::xs,h=>by simp [D.bels,Xg n x (h x List.mem_cons_self),uq n xs fun y hy=>h y (List.mem_cons_of_mem _ hy)]
end
def V6 (d:D) (c:List Cell):D:=match d with
 | .hnd k=>match c[k]? with
  | some (.lst xs)=>.lst xs
  | _=>.hnd k
 | d=>d
theorem Sub.nil (O:Ow):Sub 0 O []:=⟨fun k a h=>absurd h (Nat.not_lt_zero _),fun a h=>by cases h⟩
theorem qH {K:Frag} {H:Hp} {O:Ow} {c:List Cell} {v:V} {d:D} {n:Nat} (hc:Cells K H O c) (r:Rep K H O v d) (h:J6 n (V6 d c)=true):Rep K H [] v (V6 d c):=by
 have plain:V6 d c=d->Rep K H [] v (V6 d c):=fun e=>by
  rw [e] at h ⊢
  exact r.to (Sub.nil O) (Xg n d h)
 cases r with
 | @hnd a k hk=>
  simp only [V6] at h ⊢
  cases z:c[k]? with
  | none=>rw [z] at h;cases n <;> simp [J6] at h
  | some x=>
   cases x with
   | lst xs=>
    simp only [z] at h ⊢
    obtain ⟨a',vs,q1,q2,q3⟩:=hc.at_ k _ z
    rw [hk] at q1;cases q1
    have hb:=Xg n _ h
    simp only [D.bel] at hb
    exact .lst q2 (by simp) (q3.to (Sub.nil O) hb)
   | _=>simp only [z] at h;cases n <;> simp [J6] at h
 | _=>exact plain rfl
section
variable {X:Cx} {E:XK} {a b c e:Expr} {ta tb tc:ED} {pos:Pos}
def eqM (neg:Bool) (x y:D):M D:=fun c=>if J6 20 (V6 x c)=true/\J6 20 (V6 y c)=true then some (.ok (.bl (if neg then !eqD (V6 x c) (V6 y c) else eqD (V6 x c) (V6 y c))) c) else none
abbrev WD (K:Frag) (neg:Bool):R2:=fun x y H Q=>∃ d d',Rep K H [] x d/\Rep K H [] y d'/\J6 20 d=true/\J6 20 d'=true/\Q (.bl (if neg then !eqD d d' else eqD d d')) H
theorem wG (hu:X.A.units+64 < cLine):OpR X (compareOp .Eq) (WD X.K false):=by
 intro pins s σ H x y v u Q I rx ry h
 obtain ⟨d,d',r1,r2,h1,h2,q⟩:=h
 exact (zJ I 20 X.A (by omega) d d' x y v u h1 h2 r1 r2 rx ry).1 X.prog X.w X.xe _ ⟨.bl _,H,I,rfl,q⟩
theorem qcm (hu:X.A.units+64 < cLine):OpR X (compareOp .NotEq) (WD X.K true):=by
 intro pins s σ H x y v u Q I rx ry h
 obtain ⟨d,d',r1,r2,h1,h2,q⟩:=h
 exact (zJ I 20 X.A (by omega) d d' x y v u h1 h2 r1 r2 rx ry).2.1 X.prog X.w X.xe _ ⟨.bl _,H,I,rfl,q⟩
theorem wI {neg:Bool}:Op2 X E (WD X.K neg) (eqM neg):=by
 intro H O c x y v u Q hc rx ry p
 unfold eqM at p
 by_cases z:J6 20 (V6 x c)=true/\J6 20 (V6 y c)=true
 ·rw [if_pos z] at p
  exact ⟨_,_,qH hc rx z.1,qH hc ry z.2,z.1,z.2,V2.ok p hc (.bl _)⟩
 ·rw [if_neg z] at p;exact p.elim
theorem vY (hu:X.A.units+64 < cLine) (ha:DE X E a ta) (hb:DE X E b tb):DE X E (.Compare a [.Eq] [b] pos) (d2 (eqM false) ta tb):=YM (wG hu) wI ha hb (Ze _)
theorem Jr (hu:X.A.units+64 < cLine) (ha:DE X E a ta) (hb:DE X E b tb):DT X E (.Compare a [.Eq] [b] pos) (tOf (d2 (eqM false) ta tb)):=Us (wG hu) wI ha hb (Ze _)
theorem yp (hu:X.A.units+64 < cLine) (ha:DE X E a ta) (hb:DE X E b tb):DT X E (.Compare a [.NotEq] [b] pos) (tOf (d2 (eqM true) ta tb)):=Us (qcm hu) wI ha hb (Ze _)
def VT (d:D) (c:List Cell):Option (List D):=match d with
 | .tup xs=>some xs
 | d=>jn d c
def inM (neg:Bool) (x y:D):M D:=fun c=>match VT y c with
 | some ys=>if J6 20 (V6 x c)=true/\ys.all (J6 20)=true then some (.ok (.bl (if neg then !(ys.any fun y=>eqD y (V6 x c)) else ys.any fun y=>eqD y (V6 x c))) c) else none
 | none=>none
abbrev qed (K:Frag) (neg:Bool):R2:=fun x y H Q=>∃ p vs d ys,y=.ref p/\(H p=some (.lst vs)\/H p=some (.tup vs))/\Reps K H [] vs ys/\Rep K H [] x d/\J6 20 d=true/\(∀ y∈ys,J6 20 y=true)/\Q (.bl (if neg then !(ys.any fun y=>eqD y d) else ys.any fun y=>eqD y d)) H
open Classical in
def eU (K:Frag) (H:Hp) (d:D) (u:Value):Bool:=if ∃ v y,Y8 v u/\Rep K H [] v y/\J6 20 y=true/\eqD y d=true then true else false
theorem qbj {H:Hp} {d y:D} {v:V} {u:Value} (rv:Y8 v u) (r:Rep X.K H [] v y) (h:J6 20 y=true):eU X.K H d u=eqD y d:=by
 unfold eU
 split
 ·rename_i z
  obtain ⟨v',y',r1,r2,h2,e⟩:=z
  have:=Y8.inj rv r1
  subst this
  rw [Rep.inj (X:=X) 20 h h2 r r2,e]
 ·rename_i z
  cases q:eqD y d with
  | false=>rfl
  | true=>exact absurd ⟨v,y,rv,r,h,q⟩ z
theorem gP {H:Hp} {d:D}:∀ {vs:List V} {us:List Value} {ys:List D},Y4 vs us->Reps X.K H [] vs ys->(∀ y∈ys,J6 20 y=true)->us.any (eU X.K H d)=ys.any fun y=>eqD y d
 | _,_,_,.nil,.nil,_=>rfl
 | _,_,_,.cons r1 t1,.cons r2 t2,h=>by
  rw [List.any_cons,List.any_cons,qbj r1 r2 (h _ List.mem_cons_self),gP t1 t2 fun y hy=>h y (List.mem_cons_of_mem _ hy)]
theorem JZ {pins:List (Addr×Obj)} {σ:St} {H:Hp} {s:Shared} {A:Around} {d:D} {x:V} {v':Value} (I:Inv X pins σ H s) (hu:A.units+20 < cLine) (rx:Rep X.K H [] x d) (hx:J6 20 d=true) (sx:Y8 x v'):
  ∀ {vs:List V} {us:List Value} {ys:List D},Y4 vs us->Reps X.K H [] vs ys->(∀ y∈ys,J6 20 y=true)->∀ u∈us,SeqAt.EqAt A s u v' (eU X.K H d u)
 | _,_,_,.nil,.nil,_=>fun u hu=>by cases hu
 | _,_,_,.cons r1 t1,.cons r2 t2,h=>fun u hm=>by
  rcases List.mem_cons.mp hm with e | e
  ·subst e
   rw [qbj r1 r2 (h _ List.mem_cons_self)]
   exact (zJ I 20 A hu _ _ _ _ _ _ (h _ List.mem_cons_self) hx r2 rx r1 sx).2.2
  ·exact JZ I hu rx hx sx t1 t2 (fun y hy=>h y (List.mem_cons_of_mem _ hy)) u e
theorem WS (hu:X.A.units+64 < cLine):OpR X (compareOp .NotIn) (qed X.K true):=by
 intro pins s σ H x y v u Q I rx ry h
 obtain ⟨p,vs,d,ys,rfl,hq,r1,r2,h1,h2,q⟩:=h
 cases ry
 have hu1:X.A.in1.units+20 < cLine:=by show X.A.units+1+20 < cLine;omega
 rcases hq with hq | hq
 ·obtain ⟨its,r,pl,hz⟩:=I.list (SqL.of hq)
  refine SeqAt.notIn_listAt (eU X.K H d) pl.isList (fun w hw=>JZ I hu1 r2 h1 rx r r1 h2 w (by simpa using hw)) ⟨.bl _,H,I,rfl,?_⟩
  rw [show its.toArray.any (eU X.K H d)=its.any (eU X.K H d) by simp,gP r r1 h2]
  exact q
 ·obtain ⟨its,r,pl,hz⟩:=I.tuple (SqT.of hq)
  refine SeqAt.notIn_tupleAt (eU X.K H d) pl (fun w hw=>JZ I hu1 r2 h1 rx r r1 h2 w (by simpa using hw)) ⟨.bl _,H,I,rfl,?_⟩
  rw [show its.toArray.any (eU X.K H d)=its.any (eU X.K H d) by simp,gP r r1 h2]
  exact q
theorem VS {K:Frag} {H:Hp} {O:Ow} {c:List Cell} {v:V} {d:D} {xs:List D} (hc:Cells K H O c) (r:Rep K H O v d) (h:VT d c=some xs):∃ a vs,v=.ref a/\(H a=some (.lst vs)\/H a=some (.tup vs))/\Reps K H O vs xs:=by
 cases r with
 | @tup a vs ys h1 n r1=>cases h;exact ⟨a,vs,rfl,.inr h1,r1⟩
 | @lst a vs ys h1 n r1=>cases h;exact ⟨a,vs,rfl,.inl h1,r1⟩
 | @hnd a k hk=>
  obtain ⟨a',vs,e,q1,q2⟩:=ur hc (.hnd hk) h
  exact ⟨a',vs,e,.inl q1,q2⟩
 | _=>cases h
theorem qcs {neg:Bool}:Op2 X E (qed X.K neg) (inM neg):=by
 intro H O c x y v u Q hc rx ry p
 unfold inM at p
 cases z:VT y c with
 | none=>rw [z] at p;exact p.elim
 | some ys=>
  simp only [z] at p
  by_cases z2:J6 20 (V6 x c)=true/\ys.all (J6 20)=true
  ·rw [if_pos z2] at p
   obtain ⟨a,vs,e1,h1,r1⟩:=VS hc ry z
   have z3:∀ y∈ys,J6 20 y=true:=by simpa using z2.2
   exact ⟨a,vs,_,ys,e1,h1,r1.to (Sub.nil O) (uq 20 ys z3),qH hc rx z2.1,z2.1,z3,V2.ok p hc (.bl _)⟩
  ·rw [if_neg z2] at p;exact p.elim
def B3 (d:D):M D:=match d with
 | .str y=>if y.length<=1000000 then M.ret (.int y.length) else M.stuck
 | .tup xs=>M.ret (.int xs.length)
 | .lst xs=>M.ret (.int xs.length)
 | .scr xs=>M.ret (.int xs.length)
 | .hnd k=>fun c=>match c[k]? with
  | some (.lst xs)=>some (.ok (.int xs.length) c)
  | some (.dct xs)=>some (.ok (.int xs.length) c)
  | _=>none
 | _=>M.stuck
theorem JG {H:Hp} {O:Ow} {c:List Cell} {v:V} {d:D} {Q:VK} (hc:Cells X.K H O c) (r:Rep X.K H O v d) (p:V2 X.K E H O Q (B3 d c)):(∃ x n,[v]=[x]/\qe9 X.K x H n/\Q (.int n) H)\/∃ a kvs,[v]=[V.ref a]/\H a=some (.dK kvs)/\Q (.int kvs.length) H:=by
 cases r with
 | str y=>
  simp only [B3] at p
  by_cases z:y.length<=1000000
  ·rw [if_pos z] at p
   exact .inl ⟨_,y.length,rfl,⟨Nat.le_trans (by show y.toArray.size<=_;simpa using z) qa,by show _=y.toArray.size;simp⟩,J4.ret p hc _ (.int _)⟩
  ·rw [if_neg z] at p;exact p.elim
 | tup h n r=>exact .inl ⟨_,_,rfl,.inr ⟨_,SqT.of h,rfl⟩,by rw [r.length];exact J4.ret p hc _ (.int _)⟩
 | lst h n r=>exact .inl ⟨_,_,rfl,.inl ⟨_,SqL.of h,rfl⟩,by rw [r.length];exact J4.ret p hc _ (.int _)⟩
 | scr h=>exact .inl ⟨_,_,rfl,.inl ⟨_,h.sq,rfl⟩,by rw [List.length_map];exact J4.ret p hc _ (.int _)⟩
 | @hnd a k h=>
  simp only [B3] at p
  cases z:c[k]? with
  | none=>simp only [z] at p;exact p.elim
  | some x=>
   have q:=hc.at_ k x z
   cases x with
   | lst xs=>
    simp only [z] at p
    obtain ⟨a',vs,q1,q2,q3⟩:=q
    rw [h] at q1;cases q1
    exact .inl ⟨_,_,rfl,.inl ⟨_,SqL.of q2,rfl⟩,by rw [q3.length];exact V2.ok p hc (.int _)⟩
   | dct kvs=>
    simp only [z] at p
    obtain ⟨a',us,q1,q2,q3,_⟩:=q
    rw [h] at q1;cases q1
    refine .inr ⟨_,_,rfl,q2,?_⟩
    have w:=q3.2.length
    simp only [List.length_map] at w
    rw [w]
    exact V2.ok p hc (.int _)
   | _=>simp only [z] at p;exact p.elim
 | _=>exact p.elim
theorem vZ {id x:String} {p2:Pos} {f:D->M D} {r:List V->Hp->VK->Prop} (hcall:D6 X (.builtin id) r) (hf:∀ H O c d v Q,Cells X.K H O c->Rep X.K H O v d->V2 X.K E H O Q (f d c)->r [v] H Q) (hm:X.mg x=none) (ha:DE X E a ta)
  (hv:bootBuiltins x=some (.builtin id):=by rfl) (hg:Gl X x:=by rfl) (hn:(x:Str)≠"__name__":=by decide) (hdb:((x:Str) == ("__debug__":Str))=false:=by decide) (hst:starEach [a] X.env=[(false,eval a X.env)]:=by rfl):DE X E (.Call (.Name x p2) [a] [] pos) (d1 f ta):=by
 refine ⟨PE.imp (mj hcall hg hm hv (K1 ha.h qz hst) hn hdb hst rfl) fun σ H Q h=>?_⟩
 obtain ⟨O,l,c,hl,hc,p⟩:=h
 exact Z3 hl hc p fun x v H1 O1 c1 e1 hl1 hc1 rv p1=>hf H1 O1 c1 x v Q hc1 rv p1
theorem qbm {T x:String} {p2:Pos} {f:D->M D} {r:List V->Hp->VK->Prop} (hcall:D6 X (.type T) r) (hf:∀ H O c d v Q,Cells X.K H O c->Rep X.K H O v d->V2 X.K E H O Q (f d c)->r [v] H Q) (hm:X.mg x=none) (ha:DE X E a ta)
  (hv:bootBuiltins x=some (.type T):=by rfl) (hg:Gl X x:=by rfl) (hn:(x:Str)≠"__name__":=by decide) (hdb:((x:Str) == ("__debug__":Str))=false:=by decide) (hst:starEach [a] X.env=[(false,eval a X.env)]:=by rfl):DE X E (.Call (.Name x p2) [a] [] pos) (d1 f ta):=by
 refine ⟨PE.imp (Yp hcall hg hm hv (K1 ha.h qz hst) hn hdb hst rfl) fun σ H Q h=>?_⟩
 obtain ⟨O,l,c,hl,hc,p⟩:=h
 exact Z3 hl hc p fun x v H1 O1 c1 e1 hl1 hc1 rv p1=>hf H1 O1 c1 x v Q hc1 rv p1
theorem ju {p2:Pos} (hm:X.mg "len"=none) (ha:DE X E a ta) (hg:Gl X "len":=by rfl) (hst:starEach [a] X.env=[(false,eval a X.env)]:=by rfl):DE X E (.Call (.Name "len" p2) [a] [] pos) (d1 B3 ta):=
 vZ (YU.or uM) (fun _ _ _ _ _ _ hc r p=>JG hc r p) hm ha PySem.boot_len hg (hst:=hst)
def qaw:D->M D
 | .int i=>M.ret (.int (if i < 0 then -i else i))
 | _=>M.stuck
theorem qdf {p2:Pos} (hm:X.mg "abs"=none) (ha:DE X E a ta) (hg:Gl X "abs":=by rfl) (hst:starEach [a] X.env=[(false,eval a X.env)]:=by rfl):DE X E (.Call (.Name "abs" p2) [a] [] pos) (d1 qaw ta):=
 vZ YW (fun H O c d v Q hc r p=>by cases r with
  | int i=>exact ⟨i,rfl,J4.ret p hc _ (.int _)⟩
  | _=>exact p.elim) hm ha (hg:=hg) (hst:=hst)
end
open PyProof.Rows hiding St
section
variable {X:Cx} {E:XK} {a b c e:Expr} {ta tb tc:ED} {pos:Pos}
def oM (o:Option D):M D:=match o with
 | some d=>M.ret d
 | none=>M.stuck
def ixM (x y:D):M D:=match y with
 | .int i=>match x with
  | .tup xs=>oM (atI xs i)
  | .lst xs=>oM (atI xs i)
  | .str s=>if s.length<=1000000 then oM ((atI s i).map fun c=>.str [c]) else M.stuck
  | .scr ns=>oM ((atI ns i).map .int)
  | .hnd k=>fun c=>match c[k]? with
   | some (.lst xs)=>oM (atI xs i) c
   | _=>none
  | _=>M.stuck
 | _=>M.stuck
theorem Km {K:Frag} {H:Hp} {O:Ow} {vs:List V} {xs:List D} {i:Int} {d:D} (r:Reps K H O vs xs) (h:atI xs i=some d):∃ v,atI vs i=some v/\Rep K H O v d:=by
 unfold atI at h ⊢
 rw [r.length]
 cases z:ixN xs.length i with
 | none=>rw [z] at h;cases h
 | some j=>
  rw [z] at h
  obtain ⟨v,e,q⟩:=r.get (i:=j) h
  exact ⟨v,e,q⟩
theorem qau {α β:Type} (f:α->β) (xs:List α) (i:Int):atI (xs.map f) i=(atI xs i).map f:=by
 unfold atI
 rw [List.length_map]
 cases ixN xs.length i with
 | none=>rfl
 | some j=>show (xs.map f)[j]?=(xs[j]?).map f;rw [List.getElem?_map]
theorem Jh {K:Frag} {H:Hp} {O:Ow} {c:List Cell} {Q:VK} {o:Option D} (p:V2 K E H O Q (oM o c)):∃ d,o=some d/\V2 K E H O Q (M.ret d c):=by
 cases o with
 | none=>exact p.elim
 | some d=>exact ⟨d,rfl,p⟩
theorem qcr:Op2 X E (rIx X.K) ixM:=by
 intro H O c x y v u Q hc rx ry p
 cases ry with
 | int i=>
  cases rx with
  | @tup a vs xs h n r=>
   obtain ⟨d,e,p⟩:=Jh p
   obtain ⟨w,e2,q⟩:=Km r e
   exact .inr (.inl ⟨a,vs,i,w,rfl,rfl,SqT.of h,e2,J4.ret p hc _ q⟩)
  | @lst a vs xs h n r=>
   obtain ⟨d,e,p⟩:=Jh p
   obtain ⟨w,e2,q⟩:=Km r e
   exact .inl ⟨a,vs,i,w,rfl,rfl,SqL.of h,e2,J4.ret p hc _ q⟩
  | @scr a ns h=>
   obtain ⟨d,e,p⟩:=Jh p
   obtain ⟨n,e3,e4⟩:=Option.map_eq_some_iff.mp e
   subst e4
   exact .inl ⟨a,_,i,.int n,rfl,rfl,h.sq,by rw [qau,e3];rfl,J4.ret p hc _ (.int n)⟩
  | str s=>
   have p:V2 X.K E H O Q ((if s.length<=1000000 then oM ((atI s i).map fun c=>.str [c]) else M.stuck) c):=p
   by_cases z:s.length<=1000000
   ·rw [if_pos z] at p
    obtain ⟨d,e,p⟩:=Jh p
    obtain ⟨n,e3,e4⟩:=Option.map_eq_some_iff.mp e
    subst e4
    exact .inr (.inr ⟨_,i,n,rfl,rfl,Nat.le_trans (by show s.toArray.size<=_;simpa using z) qa,by simpa using e3,J4.ret p hc _ (.str [n])⟩)
   ·rw [if_neg z] at p;exact p.elim
  | @hnd a k hk=>
   have p:V2 X.K E H O Q (match c[k]? with
    | some (.lst xs)=>oM (atI xs i) c
    | _=>none):=p
   cases z:c[k]? with
   | none=>rw [z] at p;exact p.elim
   | some x=>
    rw [z] at p
    cases x with
    | lst xs=>
     obtain ⟨a',vs,q1,q2,q3⟩:=hc.at_ k _ z
     rw [hk] at q1;cases q1
     obtain ⟨d,e,p⟩:=Jh p
     obtain ⟨w,e2,q⟩:=Km q3 e
     exact .inl ⟨a,vs,i,w,rfl,rfl,SqL.of q2,e2,J4.ret p hc _ q⟩
    | _=>exact p.elim
  | _=>exact p.elim
 | _=>exact p.elim
theorem J0 (ha:DE X E a ta) (hb:DE X E b tb) (hs:fC b:=by intro _ _;rfl):DE X E (.Subscript a b pos) (d2 ixM ta tb):=⟨PE.imp (ZO gA ha.h hb.h hs) fun σ H Q h=>bN qcr h⟩
abbrev OD:=L->M (Option Int)
def qbc (K:Frag) (E:XK) (t:OD):TO:=fun σ H Q=>∃ O l c,Locs K H O l σ/\Cells K H O c/\J4 K E H O (fun o H' _ _=>Q o H') (t l c)
structure DO (X:Cx) (E:XK) (e:Option Expr) (t:OD):Prop where
 h:PO X e (qbc X.K E t)
def D4:OD:=fun _=>M.ret none
def T8 (ta:ED):OD:=fun l=>(ta l).bd fun d=>match d with
 | .int i=>M.ret (some i)
 | _=>M.stuck
theorem PO.imp {X:Cx} {e:Option Expr} {t t':TO} (h:PO X e t) (i:∀ σ H Q,t' σ H Q->t σ H Q):PO X e t':=fun pins s σ H Q I q=>h pins s σ H Q I (i _ _ _ q)
theorem vh:DO X E none D4:=⟨PO.imp WJ fun σ H Q h=>by
 obtain ⟨O,l,c,hl,hc,p⟩:=h
 exact J4.ret p hc⟩
theorem qh (ha:DE X E a ta):DO X E (some a) (T8 ta):=⟨PO.imp (WI ha.h) fun σ H Q h=>by
 obtain ⟨O,l,c,hl,hc,p⟩:=h
 refine Z3 hl hc p fun x v H1 O1 c1 e1 hl1 hc1 rv p1=>?_
 cases rv with
 | int i=>exact ⟨i,rfl,J4.ret p1 hc1⟩
 | _=>exact p1.elim⟩
theorem vE {K:Frag} {m:OD} {α:Type} {f:Option Int->M α} {P:α->Hp->Ow->List Cell->Prop} {σ:St} {H:Hp} {O:Ow} {l:L} {c:List Cell} {R:Option Int->Hp->Prop} (hl:Locs K H O l σ) (hc:Cells K H O c) (h:J4 K E H O P ((m l).bd f c))
  (k:∀ d H1 O1 c1,Ext H O H1 O1->Locs K H1 O1 l σ->Cells K H1 O1 c1->J4 K E H1 O1 P (f d c1)->R d H1):qbc K E m σ H R:=
 ⟨O,l,c,hl,hc,h.bd.imp fun d H1 O1 c1 e1 c1' p=>k d H1 O1 c1 e1 (hl.mono e1) c1' p⟩
def R5 {α:Type} (xs:List α) (lo hi:Option Int):List α:=(xs.drop (HT.sIx xs.length 0 lo)).take (HT.sIx xs.length xs.length hi - HT.sIx xs.length 0 lo)
theorem Reps.cut {K:Frag} {H:Hp} {O:Ow} {vs:List V} {xs:List D} (r:Reps K H O vs xs) (lo hi:Option Int):Reps K H O (Gb vs lo hi) (R5 xs lo hi):=by
 unfold Gb R5
 rw [r.length]
 exact (r.drop _).take _
def slM (d:D) (lo hi:Option Int):M D:=match d with
 | .lst xs=>M.ret (.lst (R5 xs lo hi))
 | .scr ns=>M.ret (.lst ((R5 ns lo hi).map .int))
 | .hnd k=>fun c=>match c[k]? with
  | some (.lst xs)=>some (.ok (.lst (R5 xs lo hi)) c)
  | _=>none
 | .tup xs=>if HT.sIx xs.length 0 lo=0/\HT.sIx xs.length xs.length hi=xs.length then M.stuck else M.ret (.tup (R5 xs lo hi))
 | _=>M.stuck
def dSl (f:D->Option Int->Option Int->M D) (te:ED) (tl th:OD):ED:=fun l=>(te l).bd fun d=>(tl l).bd fun lo=>(th l).bd fun hi=>f d lo hi
theorem uF (ns:List Int) (lo hi:Option Int):Gb (ns.map V.int) lo hi=(R5 ns lo hi).map V.int:=by
 unfold Gb R5
 rw [List.length_map,List.map_take,List.map_drop]
def U8 (neg:Bool):D->M D
 | .non=>M.ret (.bl (!neg))
 | _=>M.ret (.bl neg)
theorem ba {H:Hp} {O:Ow} {c:List Cell} {v:V} {d:D} {Q:VK} {neg:Bool} (hc:Cells X.K H O c) (r:Rep X.K H O v d) (p:V2 X.K E H O Q (U8 neg d c)):Q (.bl (if neg then !decide (v=.non) else decide (v=.non))) H:=by
 cases neg <;> cases r <;> exact J4.ret p hc _ (.bl _)
theorem YK {j:Nat} {pos':Pos} (ha:DE X E a ta):DE X E (.Compare a [.Is] [.Constant .none j pos'] pos) (d1 (U8 false) ta):=by
 refine ⟨PE.imp (ZR (ZT ha.h)) fun σ H Q h=>?_⟩
 obtain ⟨O,l,c,hl,hc,p⟩:=h
 exact Z3 hl hc p fun x v H1 O1 c1 e1 hl1 hc1 rv p1=>ba (neg:=false) hc1 rv p1
theorem Ju {j:Nat} {pos':Pos} (ha:DE X E a ta):DE X E (.Compare a [.IsNot] [.Constant .none j pos'] pos) (d1 (U8 true) ta):=by
 refine ⟨PE.imp (ZR (bH ha.h)) fun σ H Q h=>?_⟩
 obtain ⟨O,l,c,hl,hc,p⟩:=h
 exact Z3 hl hc p fun x v H1 O1 c1 e1 hl1 hc1 rv p1=>ba (neg:=true) hc1 rv p1
theorem gQ {j:Nat} {pos':Pos} (ha:DE X E a ta):DT X E (.Compare a [.Is] [.Constant .none j pos'] pos) (tOf (d1 (U8 false) ta)):=by
 refine ⟨PT.imp (kZ (ZT ha.h)) fun σ H Q h=>?_⟩
 obtain ⟨O,l,c,hl,hc,p⟩:=Jk h
 exact Z3 hl hc p fun x v H1 O1 c1 e1 hl1 hc1 rv p1=>ba (neg:=false) hc1 rv p1
theorem XY {j:Nat} {pos':Pos} (ha:DE X E a ta):DT X E (.Compare a [.IsNot] [.Constant .none j pos'] pos) (tOf (d1 (U8 true) ta)):=by
 refine ⟨PT.imp (kZ (bH ha.h)) fun σ H Q h=>?_⟩
 obtain ⟨O,l,c,hl,hc,p⟩:=Jk h
 exact Z3 hl hc p fun x v H1 O1 c1 e1 hl1 hc1 rv p1=>ba (neg:=true) hc1 rv p1
def uc:ED:=fun _ c=>some (.ok (.hnd c.length) (c++[.dct []]))
theorem Jv:DE X E (.Dict [] [] pos) uc:=by
 refine ⟨PE.imp ZP fun σ H Q h=>?_⟩
 obtain ⟨O,l,c,hl,hc,p⟩:=h
 intro q n
 have nO:=hc.fresh n
 obtain ⟨h1,h2⟩:=hc.push (o:=.dK []) (x:=.dct []) n ⟨q,[],by simp,Y5,⟨rfl,.nil⟩,by simp⟩
 exact p _ _ h1 h2 _ (.hnd (by rw [← hc.len];simp))
inductive Ty where
 | non | bl | int | str | tup | lst | dct
 deriving DecidableEq
def Ty.nm:Ty->String
 | .non=>"NoneType" | .bl=>"bool" | .int=>"int" | .str=>"str" | .tup=>"tuple" | .lst=>"list" | .dct=>"dict"
def Ty.sub:Ty->Ty->Bool
 | .bl,.int=>true
 | s,t=>decide (s=t)
theorem qcv (K:Frag) (s t:Ty):kitOne K (.type s.nm) (.type t.nm)=some (s.sub t):=by
 cases s <;> cases t <;> rfl
def tyM (d:D) (c:List Cell):Option Ty:=match d with
 | .non=>some .non
 | .bl _=>some .bl
 | .int _=>some .int
 | .str _=>some .str
 | .tup _=>some .tup
 | .lst _=>some .lst
 | .hnd k=>match c[k]? with
  | some (.lst _)=>some .lst
  | some (.dct _)=>some .dct
  | _=>none
 | .scr _=>none
def D2 (t:Ty) (d:D):M D:=fun c=>match tyM d c with
 | some s=>some (.ok (.bl (s.sub t)) c)
 | none=>none
theorem YV:D6 X (.builtin "isinstance") (fun vs H Q=>∃ x s t,vs=[x,.ty (Ty.nm t)]/\TyOf X.K H x (.type (Ty.nm s))/\Q (.bl (s.sub t)) H):=by
 intro pins s σ H xs us Q I r h
 obtain ⟨x,sT,tT,rfl,ty,q⟩:=h
 obtain ⟨u,w,rfl,r1,r2⟩:=uY r
 cases r2
 exact mU I r1 ty (qcv _ _ _) fun tk=>⟨.bl _,H,I.tok _,rfl,q⟩
theorem VG {H:Hp} {O:Ow} {c:List Cell} {v:V} {d:D} {s:Ty} (hc:Cells X.K H O c) (r:Rep X.K H O v d) (h:tyM d c=some s):TyOf X.K H v (.type s.nm):=by
 cases r with
 | non=>cases h;exact .non
 | bl b=>cases h;exact .bl b
 | int b=>cases h;exact .int b
 | str b=>cases h;exact .str _
 | tup h1 _ _=>cases h;exact .tup h1
 | lst h1 _ _=>cases h;exact .lst h1
 | scr h1=>cases h
 | @hnd a k hk=>
  simp only [tyM] at h
  cases z:c[k]? with
  | none=>rw [z] at h;cases h
  | some x=>
   rw [z] at h
   cases x with
   | lst xs=>
    cases h
    obtain ⟨a',vs,q1,q2,q3⟩:=hc.at_ k _ z
    rw [hk] at q1;cases q1
    exact .lst q2
   | dct xs=>
    cases h
    obtain ⟨a',vs,q1,q2,q3⟩:=hc.at_ k _ z
    rw [hk] at q1;cases q1
    exact .dK q2
   | _=>cases h
theorem gg (t:Ty) {T:String} {p1 p2:Pos} (hm:X.mg "isinstance"=none) (hmT:X.mg T=none) (ha:DE X E a ta) (hvT:bootBuiltins T=some (.type t.nm):=by rfl) (hg:Gl X "isinstance":=by rfl) (hgT:Gl X T:=by rfl)
  (hnT:(T:Str)≠"__name__":=by decide) (hdT:((T:Str) == ("__debug__":Str))=false:=by decide) (hst:starEach [a,.Name T p2] X.env=[(false,eval a X.env),(false,eval (.Name T p2) X.env)]:=by rfl) (hst2:starEach [.Name T p2] X.env=[(false,eval (.Name T p2) X.env)]:=by rfl):
  DE X E (.Call (.Name "isinstance" p1) [a,.Name T p2] [] pos) (d1 (D2 t) ta):=by
 have h2:PE X (.Name T p2) (tC (.ty t.nm)):=bG (v:=.ty t.nm) hgT hmT hvT rfl hnT hdT
 refine ⟨PE.imp (mj (id:="isinstance") YV hg hm rfl (K1 ha.h (K1 h2 qz hst2) (by rw [hst,hst2])) (by decide) (by decide) (by rw [hst,hst2]) (by rw [hst2];rfl)) fun σ H Q h=>?_⟩
 obtain ⟨O,l,c,hl,hc,p⟩:=h
 refine Z3 hl hc p fun x v H1 O1 c1 e1 hl1 hc1 rv p1=>?_
 have p1:V2 X.K E H1 O1 Q (match tyM x c1 with
  | some s=>some (.ok (.bl (s.sub t)) c1)
  | none=>none):=p1
 cases z:tyM x c1 with
 | none=>rw [z] at p1;exact p1.elim
 | some s=>
  rw [z] at p1
  exact ⟨v,s,t,rfl,VG hc1 rv z,V2.ok p1 hc1 (.bl _)⟩
end
open PyProof.Rows hiding St
def Ve (cells:List (Str×Addr)):List (Str×NameKind)->List (Str×Addr)->List (Str×Addr)
 | [],acc=>acc
 | (n,k)::r,acc=>if (k == NameKind.free)=true then Ve cells r ((n,(cells.lookup n).getD 0)::acc) else Ve cells r acc
theorem Zq {env:Env}:∀ (names:List (Str×NameKind)) (acc:List (Str×Addr)),(∀ y∈names,y.2=.free->(env.cells.lookup y.1).isSome=true)->
  (forIn (m:=Sem) names acc fun x cs=>if (x.2 == NameKind.free)=true then do let a ← cellOf env x.1;pure (ForInStep.yield ((x.1,a)::cs)) else pure (ForInStep.yield cs))=pure (Ve env.cells names acc)
 | [],acc,_=>rfl
 | (n,k)::r,acc,h=>by
  rw [List.forIn_cons]
  have hr:∀ y∈r,y.2=.free->(env.cells.lookup y.1).isSome=true:=fun y hy=>h y (List.mem_cons_of_mem _ hy)
  unfold Ve
  by_cases z:(k == NameKind.free)=true
  ·obtain ⟨c,hc⟩:=Option.isSome_iff_exists.mp (h (n,k) List.mem_cons_self (by simpa using z))
   have e:cellOf env n=pure c:=by unfold cellOf;rw [hc]
   have hc':env.cells.lookup n=some c:=hc
   simp only [z,if_true,e,pure_bind,hc',Option.getD_some]
   exact Zq r _ hr
  ·simp only [z,if_false,pure_bind]
   exact Zq r _ hr
theorem gZ {scope:Scope} {env:Env} (h:∀ y∈scope.names,y.2=.free->(env.cells.lookup y.1).isSome=true):closureFor scope env=pure (Ve env.cells scope.names []):=by
 have q:=Zq scope.names [] h
 unfold closureFor
 simp only [bind_pure_comp] at q ⊢
 first | exact q | (rw [← q];rfl) | simpa using q
theorem Jy {cells:List (Str×Addr)}:∀ (names:List (Str×NameKind)) (acc:List (Str×Addr)),(∀ y∈names,y.2=.free->(cells.lookup y.1).isSome=true)->(∀ y c,acc.lookup y=some c->cells.lookup y=some c)->∀ y c,(Ve cells names acc).lookup y=some c->cells.lookup y=some c
 | [],acc,_,ha,y,c,h=>ha y c h
 | (n,k)::r,acc,hn,ha,y,c,h=>by
  have hr:∀ y∈r,y.2=.free->(cells.lookup y.1).isSome=true:=fun y hy=>hn y (List.mem_cons_of_mem _ hy)
  unfold Ve at h
  by_cases z:(k == NameKind.free)=true
  ·rw [if_pos z] at h
   obtain ⟨d,hd⟩:=Option.isSome_iff_exists.mp (hn (n,k) List.mem_cons_self (by simpa using z))
   have hd:cells.lookup n=some d:=hd
   refine Jy r _ hr (fun y' c' h'=>?_) y c h
   rw [List.lookup_cons] at h'
   cases q:y' == n with
   | true=>
    rw [q] at h'
    have:y'=n:=by simpa using q
    subst this
    rw [hd] at h' ⊢
    simpa using h'
   | false=>rw [q] at h';exact ha y' c' h'
  ·rw [if_neg z] at h
   exact Jy r _ hr ha y c h
theorem Uz {cells:List (Str×Addr)}:∀ (names:List (Str×NameKind)) (acc:List (Str×Addr)) (y:Str),(acc.lookup y).isSome=true->((Ve cells names acc).lookup y).isSome=true
 | [],acc,y,h=>h
 | (n,k)::r,acc,y,h=>by
  unfold Ve
  by_cases z:(k == NameKind.free)=true
  ·rw [if_pos z]
   refine Uz r _ y ?_
   rw [List.lookup_cons]
   cases q:y == n with
   | true=>rfl
   | false=>exact h
  ·rw [if_neg z];exact Uz r _ y h
theorem Uy {cells:List (Str×Addr)}:∀ (names:List (Str×NameKind)) (acc:List (Str×Addr)) (y:Str),(y,NameKind.free)∈names->((Ve cells names acc).lookup y).isSome=true
 | [],acc,y,h=>by cases h
 | (n,k)::r,acc,y,h=>by
  unfold Ve
  by_cases z:(k == NameKind.free)=true
  ·rw [if_pos z]
   rcases List.mem_cons.mp h with e | e
   ·have e1:y=n:=congrArg Prod.fst e
    refine Uz r _ y ?_
    rw [List.lookup_cons,e1,beq_self_eq_true]
    rfl
   ·exact Uy r _ y e
  ·rw [if_neg z]
   rcases List.mem_cons.mp h with e | e
   ·have e1:NameKind.free=k:=congrArg Prod.snd e
    rw [← e1] at z;exact absurd rfl z
   ·exact Uy r _ y e
theorem Ja {env:Env}:∀ {names:List (Str×NameKind)} {x:Str} {k':NameKind},(names.map fun (n,k)=>if (k == NameKind.free && env.scope.kind == .function && env.kindOf n == some .cell) then (n,NameKind.cell) else (n,k)).lookup x=some k'->
  ∃ k,names.lookup x=some k/\(k'=k\/(k=.free/\k'=.cell))
 | [],_,_,h=>by simp at h
 | (n,k)::r,x,k',h=>by
  have ih:=@Ja env r x k'
  have h:List.lookup x ((if (k == NameKind.free && env.scope.kind == .function && env.kindOf n == some .cell)=true then (n,NameKind.cell) else (n,k))::_)=some k':=h
  rw [List.lookup_cons (as:=r)]
  cases hx:x == n with
  | true=>
   by_cases hc:(k == NameKind.free && env.scope.kind == .function && env.kindOf n == some .cell)=true
   ·rw [if_pos hc,List.lookup_cons,hx] at h
    simp only [Bool.and_eq_true,beq_iff_eq] at hc
    exact ⟨k,rfl,.inr ⟨hc.1.1,(Option.some.inj h).symm⟩⟩
   ·rw [if_neg hc,List.lookup_cons,hx] at h
    exact ⟨k,rfl,.inl (Option.some.inj h).symm⟩
  | false=>
   by_cases hc:(k == NameKind.free && env.scope.kind == .function && env.kindOf n == some .cell)=true
   ·rw [if_pos hc,List.lookup_cons,hx] at h;exact ih h
   ·rw [if_neg hc,List.lookup_cons,hx] at h;exact ih h
theorem Jb {env:Env}:∀ {names:List (Str×NameKind)} {x:Str},names.lookup x=some .free->
  (names.map fun (n,k)=>if (k == NameKind.free && env.scope.kind == .function && env.kindOf n == some .cell) then (n,NameKind.cell) else (n,k)).lookup x=some .cell\/
  (names.map fun (n,k)=>if (k == NameKind.free && env.scope.kind == .function && env.kindOf n == some .cell) then (n,NameKind.cell) else (n,k)).lookup x=some .free
 | [],_,h=>by simp at h
 | (n,k)::r,x,h=>by
  have ih:=@Jb env r x
  show List.lookup x ((if (k == NameKind.free && env.scope.kind == .function && env.kindOf n == some .cell)=true then (n,NameKind.cell) else (n,k))::_)=_\/List.lookup x ((if (k == NameKind.free && env.scope.kind == .function && env.kindOf n == some .cell)=true then (n,NameKind.cell) else (n,k))::_)=_
  rw [List.lookup_cons] at h
  cases hx:x == n with
  | true=>
   rw [hx] at h
   cases h
   by_cases hc:(NameKind.free == NameKind.free && env.scope.kind == .function && env.kindOf n == some .cell)=true
   ·rw [if_pos hc];simp [List.lookup_cons,hx]
   ·rw [if_neg hc];simp [List.lookup_cons,hx]
  | false=>
   rw [hx] at h
   by_cases hc:(k == NameKind.free && env.scope.kind == .function && env.kindOf n == some .cell)=true
   ·rw [if_pos hc];simp only [List.lookup_cons,hx];exact ih h
   ·rw [if_neg hc];simp only [List.lookup_cons,hx];exact ih h
def V5 (X:Cx) (scope:Scope) (C:Addr) (N':List Str) (s:Shared) (H:Hp) (fp:List Addr) (pins:List (Addr×Obj)):Cx:=
 { X with N:=N',s₀:=s,H₀:=H,env:=compEnvC scope (Ve X.env.cells scope.names []) C X.env,outer:=X.stack,stack:=X.stack,ex:=fp,fn:=fun _=>false,pn:=X.pn++pins,xe:=fun _ _=>False }
structure CompScope (X:Cx) (scope:Scope):Prop where
 kind:scope.kind=.function
 nocell:∀ y∈scope.names,y.2≠.cell
 names:∀ y∈scope.names,y.2=.local->scope.names.lookup y.1=some .local
 fr:∀ y∈scope.names,y.2=.free->X.env.scope.names.lookup y.1=some .cell\/X.env.scope.names.lookup y.1=some .free
def gi (outer:List (Str×NameKind)) (scope:Scope):Bool:=
 scope.names.all (fun y=>decide (y.2≠.cell)) && scope.names.all (fun y=>decide (y.2≠.local) || decide (scope.names.lookup y.1=some .local)) && scope.names.all fun y=>decide (y.2≠.free) || decide (outer.lookup y.1=some .cell) || decide (outer.lookup y.1=some .free)
theorem CompScope.of {X:Cx} {scope:Scope} (hk:scope.kind=.function) (h:gi X.env.scope.names scope=true):CompScope X scope:=by
 unfold gi at h
 simp only [Bool.and_eq_true,List.all_eq_true,Bool.or_eq_true,decide_eq_true_eq] at h
 obtain ⟨⟨h1,h2⟩,h3⟩:=h
 refine ⟨hk,h1,fun y hy hl=>(h2 y hy).resolve_left fun z=>z hl,fun y hy hf=>?_⟩
 rcases h3 y hy with (z | z) | z
 ·exact absurd hf z
 ·exact .inl z
 ·exact .inr z
section
variable {X:Cx} {pins:List (Addr×Obj)} {σ:St} {H:Hp} {s:Shared}
theorem CompScope.cells (S:CompScope X scope) (I:Inv X pins σ H s):∀ y∈scope.names,y.2=.free->(X.env.cells.lookup y.1).isSome=true:=fun y hy hf=>by
 obtain ⟨c,hc⟩:=I.ok.has y.1 (S.fr y hy hf)
 rw [hc];rfl
theorem JM {scope:Scope} {C:Addr} {N':List Str} {fp:List Addr} {σ':St} {h':Heap} {tk:Nat} (S:CompScope X scope) (I:Inv X pins σ H s) (hfp:∀ b∈fp,Gj X pins H b) (hlt:∀ b∈fp,b < s.heap.objs.size) (hC:s.heap.objs.size<=C)
  (hk:∀ b o,s.heap.get? b=some o->h'.get? b=some o) (hns:h'.Ns C fun _=>none) (hl:σ'.length=N'.length)
  (hσ:∀ (i:Nat) (x:Str) (v:V),N'[i]?=some x->σ'[i]?=some (some v)->scope.names.lookup x=some .free/\∃ j:Nat,X.N[j]?=some x/\σ[j]?=some (some v)):
  Inv (V5 X scope C N' s H fp pins) [] σ' H { s with heap:=h',toks:=tk }:=by
 have sub:=Jy (cells:=X.env.cells) scope.names [] (S.cells I) (fun _ _ h=>by simp at h)
 have ltC:∀ b o,s.heap.get? b=some o->b≠C:=fun b o e=>Nat.ne_of_lt (Nat.lt_of_lt_of_le (Heap.lt_size e) hC)
 have has:∀ x,(scope.names.lookup x=some .free)->∃ c,(Ve X.env.cells scope.names []).lookup x=some c:=fun x h=>Option.isSome_iff_exists.mp (Uy _ _ x (PySem.mem_of_lookup h))
 refine ⟨⟨I.ok.mod,S.kind,I.ok.glob,I.ok.blt,hC,fun x y c h1 h2=>I.ok.inj x y c (sub x c h1) (sub y c h2),fun x hx=>?_,fun _ _ h=>(Bool.false_ne_true h).elim,I.ok.hd,I.ok.frames,.inl rfl,fun b hb=>⟨Nat.ne_of_lt (Nat.lt_of_lt_of_le (hlt b hb) hC),fun x c h=>(hfp b hb).2.2.2.2.1 x c (sub x c h)⟩,
  I.bs,Nat.le_trans I.ok.bsz I.sz,fun b o e hb=>?_,fun b hb z=>?_,I.stack,I.stkFree⟩,rfl,I.bare,Un.kept hk,⟨_,hns,fun i x v h1 h2 h3=>?_⟩,fun x c h=>?_,I.hok.fresh hC,fun x c h=>I.freeC x c (sub x c h),fun p hp=>?_,I.hok.kept hk,hl⟩
 ·have hx:(relabel scope X.env).names.lookup x=some .cell\/(relabel scope X.env).names.lookup x=some .free:=hx
  have:∃ k',(relabel scope X.env).names.lookup x=some k'/\(k'=.cell\/k'=.free):=by
   rcases hx with h | h
   ·exact ⟨_,h,.inl rfl⟩
   ·exact ⟨_,h,.inr rfl⟩
  obtain ⟨k',h,hk'⟩:=this
  obtain ⟨k,hl,e⟩:=Ja h
  have:k=.free:=by
   rcases e with e | e
   ·rcases hk' with z | z
    ·rw [z] at e;subst e;exact absurd rfl (S.nocell _ (PySem.mem_of_lookup hl))
    ·rw [z] at e;exact e.symm
   ·exact e.1
  subst this
  exact has x hl
 ·rcases (hfp b hb).2.2.2.1 with z | z
  ·exact I.ok.noex b o e z
  ·exact absurd (Nat.lt_of_lt_of_le (Heap.lt_size e) (Nat.le_trans I.ok.bsz z)) (Nat.lt_irrefl _)
 ·rcases List.mem_cons.mp (I.stkSub b z) with q | q
  ·exact (hfp b hb).2.1 q
  ·exact (hfp b hb).2.2.1 q
 ·obtain ⟨hf,j,hj,hv⟩:=hσ i x v h1 h2
  obtain ⟨m,hn,hlk⟩:=I.loc
  have hvis:Vis X.env.scope x:=by
   rcases S.fr (x,.free) (PySem.mem_of_lookup hf) rfl with q | q
   ·exact .inr (.inl q)
   ·exact .inr (.inr q)
  obtain ⟨u,ru,lk⟩:=hlk j x v hj hv hvis
  refine ⟨u,ru,.inr ⟨Jb hf,?_⟩⟩
  obtain ⟨c',hc'⟩:=has x hf
  have e:=sub x c' hc'
  rcases lk with ⟨k1,_⟩ | ⟨_,c,hc,hcell⟩
  ·rcases S.fr (x,.free) (PySem.mem_of_lookup hf) rfl with q | q
   ·rw [show X.env.kindOf x=X.env.scope.names.lookup x from rfl,q] at k1;cases k1
   ·rw [show X.env.kindOf x=X.env.scope.names.lookup x from rfl,q] at k1;cases k1
  ·have e2:c=c':=Option.some.inj (hc.symm.trans e)
   subst e2
   exact ⟨c,hc',hcell.keeps hk⟩
 ·obtain ⟨v,q⟩:=I.cell x c (sub x c h)
  exact ⟨v,q.keeps hk⟩
 ·have hp:p∈X.pn++pins:=by
   have hp:p∈(X.pn++pins)++[]:=hp
   rwa [List.append_nil] at hp
  obtain ⟨e,n,ne,nf,d⟩:=I.pin p hp
  refine ⟨hk _ _ e,n,ltC _ _ e,fun z=>?_,d⟩
  rcases List.mem_cons.mp (I.stkSub p.1 z) with q | q
  ·exact ne q
  ·exact nf q
end
def yV (X:Cx) (ifs:List Expr) (t:TT):Prop:=
 ∀ (pins:List (Addr×Obj)) (s:Shared) (σ:St) (H:Hp) (Q:Bool->Hp->Prop),Inv X pins σ H s->t σ H Q->
  wpAny (model X.prog X.w) X.A (forIn ifs true fun c r=>if r=true then do let ok ← isTrue c X.env (eval c X.env);pure (ForInStep.yield ok) else pure (ForInStep.yield r)) (TP X pins σ Q) X.xe s
theorem ZH {X:Cx}:yV X [] (fun _ H Q=>Q true H):=fun pins s σ H Q I h=>wpAny_pure ⟨H,I,h⟩
theorem jS {X:Cx} {c:Expr} {t:TT} (h:PT X c t):yV X [c] t:=fun pins s σ H Q I hq=>by
 rw [List.forIn_cons]
 simp only [if_true]
 refine wpAny_bind (wpAny_bind (thn (h pins s σ H Q I hq) fun b s1 q=>?_))
 exact wpAny_pure (wpAny_pure q)
def jA (wi:TI) (σ0:St->St) (g:TG) (tt:TT) (te:TE):TE:=fun σ H Q=>wi σ H fun J H1=>∃ W:Nat->Nat->List V->St->Hp->Prop,(∃ m,W 0 m [] (σ0 σ) H1)/\∀ i m vs σ' H,W i m vs σ' H->
 (J.stop i H/\∀ p,H p=none->Q (.ref p) (upd H p (.lst vs)))\/
 (J.go i H/\vs.length < sizeLine/\∀ x H',J.yld i H x H'->g x σ' H' fun σ2 H2=>tt σ2 H2 fun b H3=>if b=true then te σ2 H3 fun y H4=>∃ m',m' < m/\W (i+1) m' (vs++[y]) σ2 H4 else ∃ m',m' < m/\W (i+1) m' vs σ2 H3)
theorem QA {α:Type} {M:Model} {A:Around} {Q:Shared->Prop} {E E':Value->Shared->Prop} {s:Shared} {t:Sem α} {R:α->Shared->Prop} (h:wpAny M A (pure ():Sem Unit) (fun _ s=>Q s) E s) (k:Q s->wpAny M A t R E' s):wpAny M A t R E' s:=
 fun Γ p hΓ=>k (h Γ p hΓ) Γ p hΓ
theorem By {X:Cx} {scope:Scope} {elt iter:Expr} {x:Str} {px pos p0:Pos} {ifs:List Expr} {N':List Str} {σ0:St->St} {wi:TI} {g:TG} {tt:TT} {te:TE} {use:Option (Value->Sem Unit)} {R:Value->Shared->Prop} (S:CompScope X scope) (hcalm:X.calm=true) (hi:PI X (.Name x px) iter wi)
  (hN:∀ σ:St,σ.length=X.N.length->(σ0 σ).length=N'.length/\∀ (i:Nat) (y:Str) (v:V),N'[i]?=some y->(σ0 σ)[i]?=some (some v)->scope.names.lookup y=some .free/\∃ j:Nat,X.N[j]?=some y/\σ[j]?=some (some v))
  (hg:∀ C s H fp pins,PG (V5 X scope C N' s H fp pins) (.Name x px) g) (ht:∀ C s H fp pins,yV (V5 X scope C N' s H fp pins) ifs tt) (he:∀ C s H fp pins,PE (V5 X scope C N' s H fp pins) elt te)
  {pins:List (Addr×Obj)} {s:Shared} {σ:St} {H:Hp} {Q:VK} (I:Inv X pins σ H s) (h:jA wi σ0 g tt te σ H Q)
  (fin:∀ (D C:Addr) (m:Str->Option Value) (H':Hp) (s4:Shared),Inv X pins σ H' s4->s4.heap.Ns C m->H' C=none->C≠X.env.locals->X.s₀.heap.objs.size<=C->(∀ x c,X.env.cells.lookup x=some c->c≠C)->(∀ p∈X.pn++pins,p.1≠C)->Q (.ref D) H'->∀ r,compPost (model X.prog X.w) X.A X.xe use R (.ref D) C (.ok r) s4)
  (hs:∀ v,foldedSetIterable iter X.env v=pure v):wpAny (model X.prog X.w) X.A (comprehension (.ListComp elt [⟨.Name x px,iter,ifs,0⟩] scope pos) scope X.env p0 (newList []) false (eval iter X.env) use) R X.xe s:=by
 refine wpAny_comprehension_free (use:=use) rfl hs (gZ (S.cells I)) S.kind S.names (thn (hi pins s σ H _ I h) fun v s1 h1=>thn h1 fun itv s2 h2=>?_)
 obtain ⟨it,fp,tn,J,H2,e,I2,T,st2,f2,W,⟨m0,w0⟩,turn⟩:=h2
 subst e
 have hfl:∀ b∈fp,b < s2.heap.objs.size:=fun b hb=>by
  obtain ⟨o,e,_⟩:=T.obj _ _ st2 b hb
  exact Heap.lt_size e
 refine wpAny_newObj_type (wpAny_newFunctionEnv S.nocell (by intro y hy;simp at hy) (fun h₁ hns₁ hsb₁=>?_) S.kind)
 dsimp only at hns₁ hsb₁ ⊢
 generalize hH2:s2.heap.push { cls:=.type "list",dict:=none,data:=.seq ([]:List Value).toArray }=G2 at hns₁ hsb₁ ⊢
 have hC:G2.objs.size=s2.heap.objs.size+1:=by rw [← hH2,Heap.size_push]
 have hDC:s2.heap.objs.size≠G2.objs.size:=by rw [hC];exact Nat.ne_of_lt (Nat.lt_succ_self _)
 have below:∀ b,b < s2.heap.objs.size->b≠G2.objs.size:=fun b hb=>by rw [hC];exact Nat.ne_of_lt (Nat.lt_succ_of_lt hb)
 have old:∀ b o,s2.heap.get? b=some o->h₁.get? b=some o:=fun b o e=>hsb₁.extBut b o (below b (Heap.lt_size e)) (Heap.get?_push_of_some _ (hH2 ▸ Heap.get?_push_of_some _ e))
 have hacc:h₁.PlainList s2.heap.objs.size #[]:=⟨_,hsb₁.extBut _ _ hDC (Heap.get?_push_of_some _ (hH2 ▸ Heap.get?_push_size _ rfl))⟩
 have hD0:H2 s2.heap.objs.size=none:=I2.hok.fresh (Nat.le_refl _)
 have hDs:s2.heap.objs.size∉frs X.stack:=fun z=>by
  rcases List.mem_cons.mp (I2.stkSub _ z) with q | q
  ·exact absurd I2.lt (by rw [← q];exact Nat.lt_irrefl _)
  ·exact I2.nofs (Nat.le_refl _) q
 have sub:=Jy (cells:=X.env.cells) scope.names [] (S.cells I2) (fun _ _ h=>by simp at h)
 have hCe:s2.heap.objs.size<=G2.objs.size:=by rw [hC];exact Nat.le_succ _
 have hns:h₁.Ns G2.objs.size fun _=>none:=by
  have:(fun x:Str=>(([]:List (Str×Value)).reverse).lookup x)=fun _=>none:=rfl
  rw [this] at hns₁
  exact hns₁
 have I1:Inv (V5 X scope G2.objs.size N' s2 H2 fp pins) [] (σ0 σ) H2 { s2 with heap:=h₁,toks:=s2.toks+([]:List (Str×Value)).length }:=
  JM S I2 f2 hfl hCe old hns (hN σ I2.len).1 (hN σ I2.len).2
 have fpD:∀ b∈fp,b≠s2.heap.objs.size:=fun b hb=>Nat.ne_of_lt (hfl b hb)
 have V8:∀ y c,(V5 X scope G2.objs.size N' s2 H2 fp pins).env.cells.lookup y=some c->c≠s2.heap.objs.size:=fun y c h=>by
  obtain ⟨v,q⟩:=I2.cell y c (sub y c h)
  exact Nat.ne_of_lt q.lt
 have pnD:∀ p∈X.pn++pins,p.1≠s2.heap.objs.size:=fun p hp=>Nat.ne_of_lt (Heap.lt_size (I2.pin p hp).1)
 have stat:∀ {H':Hp} {ob:Obj},(∀ b∈fp,H' b=none)->∀ b∈fp,Gj (V5 X scope G2.objs.size N' s2 H2 fp pins) [(s2.heap.objs.size,ob)] H' b:=fun {H' ob} hn b hb=>by
  refine ⟨hn b hb,below b (hfl b hb),fun z=>?_,.inl hb,fun y c h=>(f2 b hb).2.2.2.2.1 y c (sub y c h),fun p hp=>?_⟩
  ·rcases List.mem_cons.mp (I2.stkSub b z) with q | q
   ·exact (f2 b hb).2.1 q
   ·exact (f2 b hb).2.2.1 q
  ·rcases List.mem_append.mp hp with q | q
   ·exact (f2 b hb).2.2.2.2.2 p q
   ·obtain rfl:=List.mem_singleton.mp q
    exact (fpD b hb).symm
 have pinD:∀ {σ':St} {H':Hp} {s':Shared} {ob:Obj},Inv (V5 X scope G2.objs.size N' s2 H2 fp pins) [] σ' H' s'->s'.heap.get? s2.heap.objs.size=some ob->H' s2.heap.objs.size=none->(∀ v,ob.data≠.cell v)->Inv (V5 X scope G2.objs.size N' s2 H2 fp pins) [(s2.heap.objs.size,ob)] σ' H' s':=
  fun {σ' H' s' ob} J e n d=>J.pins_of fun p hp=>by
   obtain rfl:=List.mem_singleton.mp hp
   exact ⟨e,n,hDC,hDs,d⟩
 have loop:codeAny (model X.prog X.w) X.A (.compLoop (.ListComp elt [⟨.Name x px,iter,ifs,0⟩] scope pos) 0 (.ref it) (.ref s2.heap.objs.size) (V5 X scope G2.objs.size N' s2 H2 fp pins).env)
   (compPost (model X.prog X.w) X.A X.xe use R (.ref s2.heap.objs.size) G2.objs.size) { s2 with heap:=h₁,toks:=s2.toks+([]:List (Str×Value)).length }:=by
  refine codeAny_compLoop_tests (fun n s'=>∃ i σi Hi vs ys,Inv (V5 X scope G2.objs.size N' s2 H2 fp pins) [] σi Hi s'/\tn i s'.heap/\(∀ b∈fp,Hi b=none)/\s'.heap.PlainList s2.heap.objs.size ys/\Y4 vs ys.toList/\Hi s2.heap.objs.size=none/\vs.length<=sizeLine/\W i n vs σi Hi) ?_ m0
   ⟨0,σ0 σ,H2,[],#[],I1,T.keep _ _ _ st2 fun b _ o e=>old b o e,fun b hb=>(f2 b hb).1,hacc,.nil,hD0,Nat.zero_le _,w0⟩ (fun v=>rfl)
  rintro n s3 ⟨i,σ3,H3,vs,ys,I3,st3,fr3,⟨nn,hpl⟩,rv,hD3,hz,w3⟩
  have I3p:=pinD I3 hpl hD3 (fun v=>by intro z;cases z)
  rcases turn i n vs σ3 H3 w3 with ⟨stop,qn⟩ | ⟨go,hlt,step⟩
  ·refine wpAny_mono (T.done (V5 X scope G2.objs.size N' s2 H2 fp pins) rfl rfl rfl hcalm i _ s3 σ3 H3 _ I3p (stat fr3) st3 stop) (fun r s4 ⟨hr,I4⟩=>?_) fun _ _ z=>z
   subst hr
   obtain ⟨m4,hn4,_⟩:=I4.loc
   have e4:s4.heap.get? s2.heap.objs.size=some { cls:=.type "list",dict:=none,data:=.seq ys nn,slots:=#[] }:=(I4.pin (s2.heap.objs.size,_) (List.mem_append_right _ (List.mem_singleton.mpr rfl))).1
   have eC:H3 G2.objs.size=none:=I4.free
   have keepC:∀ b o,b≠G2.objs.size->s4.heap.get? b=some o->s4.heap.get? b=some o:=fun _ _ _ e=>e
   have un4:Un (frs X.stack) fp H2 H3 s2.heap s4.heap:=I4.base
   have un5:Un (frs X.stack) fp H2 (upd H3 s2.heap.objs.size (.lst vs)) s2.heap s4.heap:=by
    refine ⟨fun b o e nb hb hx=>keepC b o (below b (Heap.lt_size e)) (un4.keep b o e nb hb hx),fun b o e nb hb hx=>?_,fun b o e nb hx=>?_,fun b o e hx=>?_,fun b xs e=>?_,fun b o u e=>?_,fun b ps e=>?_⟩
    ·obtain ⟨sl,q⟩:=un4.slot b o e nb hb hx
     exact ⟨sl,keepC b _ (below b (Heap.lt_size e)) q⟩
    ·rw [Z2 (Nat.ne_of_lt (Heap.lt_size e))];exact un4.free b o e nb hx
    ·obtain ⟨o',q⟩:=un4.there b o e hx
     exact ⟨o',keepC b _ (below b (Heap.lt_size e)) q⟩
    ·have q:=un4.tups b xs e;rw [Z2 (Y2 q hD3)];exact q
    ·have q:=un4.frzs b o u e;rw [Z2 (Y2 q hD3)];exact q
    ·obtain ⟨more,q⟩:=un4.tbls b ps e
     exact ⟨more,by rw [Z2 (Y2 q hD3)];exact q⟩
   have hok5:HOk X.prog X.w (upd H3 s2.heap.objs.size (.lst vs)) s4.heap:=fun b u q=>by
    by_cases hb:b=s2.heap.objs.size
    ·subst hb
     rw [Y5] at q;cases q
     exact ⟨hz,ys.toList,nn,rv,by rw [keepC _ _ hDC e4]⟩
    ·rw [Z2 hb] at q
     refine (I4.hok b u q).stay (fun c v hc r=>keepC c v ?_ r) (fun c r=>by rw [Z2 (Y2 r hD3)];exact r) fun c xs r=>by rw [Z2 (Y2 r hD3)];exact r
     rcases hc with z | z
     ·rw [z];exact Y2 q eC
     ·exact Y2 z eC
   have I6:Inv X pins σ (upd H3 s2.heap.objs.size (.lst vs)) s4:=
    I2.call' (ch:=fp) I4.os un5 hok5 I4.bare fun b hb=>⟨(f2 b hb).2.2.2.1,(f2 b hb).2.1,(f2 b hb).2.2.2.2.1,(f2 b hb).2.2.2.2.2⟩
   refine fin s2.heap.objs.size G2.objs.size m4 _ s4 I6 hn4 (by rw [Z2 hDC.symm];exact eC) (fun z=>absurd I2.lt (by rw [← z,hC];exact Nat.not_lt.mpr (Nat.le_succ _))) (Nat.le_trans I2.sz hCe) (fun y c e=>?_) (fun p hp=>below p.1 (Heap.lt_size (I2.pin p hp).1)) (qn _ hD3) _
   obtain ⟨v,q⟩:=I2.cell y c e
   exact below c q.lt
  ·refine wpAny_mono (T.item (V5 X scope G2.objs.size N' s2 H2 fp pins) rfl rfl rfl hcalm i _ s3 σ3 H3 _ I3p (stat fr3) st3 go) (fun r s4 ⟨u,hr,h4⟩=>?_) fun _ _ z=>z
   subst hr
   refine QA (Q:=fun s5=>∃ y H5,Inv (V5 X scope G2.objs.size N' s2 H2 fp pins) [(s2.heap.objs.size,_)] σ3 H5 s5/\Y8 y u/\J.yld i H3 y H5/\tn (i+1) s5.heap/\∀ b∈fp,H5 b=none) h4 fun ⟨y,H5,I5,r5,y5,st5,fr5⟩=>?_
   have I5':=I5.pinned (stat fr5) (T.obj _ _ st5)
   refine wpAny_mono (hg G2.objs.size s2 H2 fp pins _ s4 σ3 H5 y u _ I5' r5 (step y H5 y5)) (fun _ s6 ⟨σ6,H6,I6,q6⟩=>?_) fun _ _ z=>z.elim
   refine wpAny_mono (ht G2.objs.size s2 H2 fp pins _ s6 σ6 H6 _ I6 q6) (fun ok s7 ⟨H7,I7,q7⟩=>?_) fun _ _ z=>z.elim
   have fpK:∀ {σ':St} {H':Hp} {s':Shared} {ob:Obj},Inv (V5 X scope G2.objs.size N' s2 H2 fp pins) ([(s2.heap.objs.size,ob)]++Xv fp s4.heap) σ' H' s'->(∀ b∈fp,∀ o,s4.heap.get? b=some o->s'.heap.get? b=some o)/\(∀ b∈fp,H' b=none)/\s'.heap.get? s2.heap.objs.size=some ob/\H' s2.heap.objs.size=none:=fun {σ' H' s' ob} J=>by
    refine ⟨fun b hb o e=>(J.pin (b,o) (List.mem_append_right _ (List.mem_append_right _ (xx hb e)))).1,fun b hb=>?_,?_⟩
    ·obtain ⟨o,e,d⟩:=T.obj _ _ st5 b hb
     exact (J.pin (b,o) (List.mem_append_right _ (List.mem_append_right _ (xx hb e)))).2.1
    ·have q:=J.pin (s2.heap.objs.size,ob) (List.mem_append_right _ (List.mem_append_left _ (List.mem_singleton.mpr rfl)))
     exact ⟨q.1,q.2.1⟩
   have free0:∀ {σ':St} {H':Hp} {s':Shared} {pl:List (Addr×Obj)},Inv (V5 X scope G2.objs.size N' s2 H2 fp pins) pl σ' H' s'->Inv (V5 X scope G2.objs.size N' s2 H2 fp pins) [] σ' H' s':=fun J=>J.pins_of fun p hp=>by cases hp
   cases ok with
   | false=>
    obtain ⟨m',hm,w7⟩:=q7
    obtain ⟨k1,k2,k3,k4⟩:=fpK I7
    exact ⟨m',hm,i+1,σ6,H7,vs,ys,free0 I7,T.keep _ _ _ st5 k1,k2,⟨nn,k3⟩,rv,k4,hz,w7⟩
   | true=>
    simp only [if_true] at q7 ⊢
    refine wpAny_mono (he G2.objs.size s2 H2 fp pins _ s7 σ6 H7 _ I7 q7) (fun z s8 ⟨v8,H8,I8,r8,m',hm,w8⟩=>?_) fun _ _ z=>z.elim
    obtain ⟨k1,k2,k3,k4⟩:=fpK I8
    have hys:ys.size<=sizeLine:=by
     have:=rv.length
     simp only [Array.length_toList] at this
     omega
    refine wpAny_list_append_plain (hsz:=hys) ⟨nn,k3⟩ fun h9 hl9 hs9=>?_
    refine ⟨m',hm,i+1,σ6,H8,vs++[v8],ys.push z,?_,?_,k2,hl9,?_,k4,by rw [List.length_append,List.length_singleton];exact hlt,w8⟩
    ·exact (free0 I8).turned (t':=s8.toks) (fun b o hb e=>hs9.extBut b o hb e) k4 hDC (.inr (Nat.le_refl _)) V8 fun p hp=>by
      have hp:p∈(X.pn++pins)++[]:=hp
      rw [List.append_nil] at hp
      exact pnD p hp
    ·exact T.keep _ _ _ st5 fun b hb o e=>hs9.extBut b o (fpD b hb) (k1 b hb o e)
    ·rw [Array.toList_push]
     exact rv.append (.cons r8 .nil)
 exact codeAny_compStart_list loop (T.self _ _ _ _ _ (T.keep _ _ _ st2 fun b _ o e=>old b o e) loop)
theorem bF {X:Cx} {scope:Scope} {elt iter:Expr} {x:Str} {px pos:Pos} {ifs:List Expr} {N':List Str} {σ0:St->St} {wi:TI} {g:TG} {tt:TT} {te:TE} (S:CompScope X scope) (hcalm:X.calm=true) (hi:PI X (.Name x px) iter wi)
  (hN:∀ σ:St,σ.length=X.N.length->(σ0 σ).length=N'.length/\∀ (i:Nat) (y:Str) (v:V),N'[i]?=some y->(σ0 σ)[i]?=some (some v)->scope.names.lookup y=some .free/\∃ j:Nat,X.N[j]?=some y/\σ[j]?=some (some v))
  (hg:∀ C s H fp pins,PG (V5 X scope C N' s H fp pins) (.Name x px) g) (ht:∀ C s H fp pins,yV (V5 X scope C N' s H fp pins) ifs tt) (he:∀ C s H fp pins,PE (V5 X scope C N' s H fp pins) elt te)
  (hs:∀ v,foldedSetIterable iter X.env v=pure v:=by intro _;rfl):PE X (.ListComp elt [⟨.Name x px,iter,ifs,0⟩] scope pos) (jA wi σ0 g tt te):=by
 intro pins s σ H Q I h
 rw [eval_ListComp]
 exact By (use:=none) S hcalm hi hN hg ht he I h (fun D C m H' s4 I4 hn n1 n2 n3 n4 n5 q r=>⟨m,hn,fun h' hs'=>⟨.ref D,H',I4.turned (t':=s4.toks) (fun b o hb e=>hs'.extBut b o hb e) n1 n2 (.inr n3) n4 n5,rfl,q⟩⟩) hs
theorem wA {X:Cx} {scope:Scope} {elt iter:Expr} {x y:Str} {px py pos spos:Pos} {ifs:List Expr} {N':List Str} {σ0:St->St} {wi:TI} {g:TG} {tt:TT} {te:TE} {i:Nat} (hNd:X.N.Nodup) (hy:X.N[i]?=some y) (hyl:X.env.scope.names.lookup y=some .local)
  (hsw:swapsWith (.ListComp elt [⟨.Name x px,iter,ifs,0⟩] scope pos) (some (.Name y py)) spos.line X.env=pure true) (S:CompScope X scope) (hcalm:X.calm=true) (hi:PI X (.Name x px) iter wi)
  (hN:∀ σ:St,σ.length=X.N.length->(σ0 σ).length=N'.length/\∀ (i:Nat) (y:Str) (v:V),N'[i]?=some y->(σ0 σ)[i]?=some (some v)->scope.names.lookup y=some .free/\∃ j:Nat,X.N[j]?=some y/\σ[j]?=some (some v))
  (hg:∀ C s H fp pins,PG (V5 X scope C N' s H fp pins) (.Name x px) g) (ht:∀ C s H fp pins,yV (V5 X scope C N' s H fp pins) ifs tt) (he:∀ C s H fp pins,PE (V5 X scope C N' s H fp pins) elt te)
  (hs:∀ v,foldedSetIterable iter X.env v=pure v:=by intro _;rfl):PS X (.Assign [.Name y py] (.ListComp elt [⟨.Name x px,iter,ifs,0⟩] scope pos) spos) (qbu (jA wi σ0 g tt te) (vN i)):=by
 intro pins s σ H D I h
 rw [exec_Assign_Name_used _ _ _ _ hsw]
 refine wpAny_bind (wpAny_standAt (wpAny_bind ?_))
 show wpAny _ X.A (do let _ ← comprehension (.ListComp elt [⟨.Name x px,iter,ifs,0⟩] scope pos) scope X.env _ (newList []) false (eval iter X.env) (some (assign (.Name y py) X.env))) _ _ s
 refine wpAny_bind (wpAny_mono (By (use:=some (assign (.Name y py) X.env)) (R:=fun _ s'=>SP X pins D .next s') S hcalm hi hN hg ht he I h (fun D' C m H' s4 I4 hn n1 n2 n3 n4 n5 q r=>?_) hs) (fun _ s' hq=>wpAny_pure (wpAny_pure hq)) fun _ _ e=>e)
 show wpAny _ _ (assign (.Name y py) X.env (.ref D')) _ _ _
 refine wpAny_assign_Name (Gs I4 hNd hy (.inl hyl) (v:=.ref D') rfl (fun s5 I5 hsame=>?_) (.inr hyl))
 obtain ⟨a,hs5,ha⟩:=hsame
 have ne:C≠a:=by
  rcases ha with z | z
  ·rw [z];exact n2
  ·exact (n4 y a z).symm
 exact ⟨m,hn.sameBut hs5 ne,fun h' hs'=>⟨_,H',I5.turned (t':=s5.toks) (fun b o hb e=>hs'.extBut b o hb e) n1 n2 (.inr n3) n4 n5,q⟩⟩
open PyProof.Rows hiding St
def Its (z:Str):It:=⟨fun i _=>i < z.cps.size,fun i H v H'=>H'=H/\∃ c,z.cps[i]?=some c/\v=.str ⟨#[c]⟩,fun i _=>z.cps.size<=i⟩
theorem zY {P:Program} {w:World} {K:Frag} {tg:Expr} (it:Addr) (z:Str) (t:Tok) (ty:String) (hty:["enumerate","zip","dict_itemiterator","dict_reverseitemiterator","odict_iterator","itertools.zip_longest","itertools.pairwise"].contains ty=false)
  (W:∀ A:Around,A.handled=none->Walks P w A it [it] [it] z.cps.size (SignAt z) (fun i h=>h.IsStrIter it ty z t i)) (hself:∀ (A:Around) (i:Nat) (s:Shared) (Q:Value->Shared->Prop) (E:Value->Shared->Prop),s.heap.IsStrIter it ty z t i->Q (.ref it) s->wpAny (model P w) A (pyIter (.ref it)) Q E s):
  Turn P w K tg (Its z) [it] it (fun i h=>i<=z.cps.size/\h.IsStrIter it ty z t i) where
 mem:=by simp
 obj:=fun i h st b hb=>by
  have e:b=it:=by simpa using hb
  subst e
  obtain ⟨_,o,e,c,d⟩:=st
  exact ⟨o,e,fun v z=>by rw [d] at z;cases z⟩
 keep:=fun i h h' st k=>by
  obtain ⟨hi,o,e,r⟩:=st
  exact ⟨hi,o,k it (by simp) o e,r⟩
 item:=by
  intro X hP hw hK hc i pins s σ H E I hf st hg
  subst hP hw hK
  obtain ⟨f0,f1,f2,f3,f4,f5⟩:=hf it (by simp)
  have hg:i < z.cps.size:=hg
  refine (W X.A (I.ok.hd hc)).item i s _ _ hg st.2 fun v h' tk hv st' kp=>?_
  obtain ⟨c,u,hcu,rfl⟩:=hv
  have I1:Inv X pins σ H { s with heap:=h',toks:=tk }:=I.turned (t':=tk) (fun b o hb e=>kp b o (by simpa using hb) e) f0 f1 f3 f4 f5
  obtain ⟨o,e,cl,d⟩:=id st'
  exact ⟨_,rfl,vM (s:={ s with heap:=h',toks:=tk }) e cl d hty ⟨.str ⟨#[c]⟩,H,I1,⟨u,rfl⟩,⟨rfl,c,hcu,rfl⟩,⟨hg,st'⟩,fun b hb=>(hf b hb).1⟩⟩
 done:=by
  intro X hP hw hK hc i pins s σ H E I hf st hg
  subst hP hw hK
  obtain ⟨f0,f1,f2,f3,f4,f5⟩:=hf it (by simp)
  have hg:z.cps.size<=i:=hg
  have e:i=z.cps.size:=Nat.le_antisymm st.1 hg
  subst e
  exact (W X.A (I.ok.hd hc)).done s _ _ st.2 fun h' tk kp=>⟨rfl,I.turned (t':=tk) (fun b o hb e=>kp b o (by simpa using hb) e) f0 f1 f3 f4 f5⟩
 self:=fun A i s Q E st h=>hself A i s Q E st.2 h
theorem jP {X:Cx} {pins:List (Addr×Obj)} {σ:St} {H:Hp} {s:Shared} {z:Str} {t:Tok} {tg:Expr} {R:It->Hp->Prop} (I:Inv X pins σ H s) (q:R (Its z) H):wpAny (model X.prog X.w) X.A (pyIter (.str z t)) (PIE X pins σ tg R) X.xe s:=by
 have fin:∀ b,b∈[s.heap.objs.size]->Gj X pins H b:=fun b hb=>by
  have e:b=s.heap.objs.size:=by simpa using hb
  subst e
  exact I.fpOk (Nat.le_refl _) (I.hok.fresh (Nat.le_refl _))
 cases ha:z.cps.all (· < 128)
 ·refine wpAny_pyIter_wide ha ⟨s.heap.objs.size,[s.heap.objs.size],_,_,H,rfl,I.kept (t':=s.toks) fun b o e=>Heap.get?_push_of_some _ e,zY _ z t "str_iterator" (by decide) (fun A hA=>Walks.strWide hA _ z t) (fun A i s Q E st h=>wpAny_pyIter_striter_wide st h),⟨Nat.zero_le _,_,Heap.get?_push_size _ rfl,rfl,rfl⟩,fin,q⟩
 ·refine wpAny_pyIter_ascii ha ⟨s.heap.objs.size,[s.heap.objs.size],_,_,H,rfl,I.kept (t':=s.toks) fun b o e=>Heap.get?_push_of_some _ e,zY _ z t "str_ascii_iterator" (by decide) (fun A hA=>Walks.strAscii hA _ z t) (fun A i s Q E st h=>wpAny_pyIter_striter_ascii st h),⟨Nat.zero_le _,_,Heap.get?_push_size _ rfl,rfl,rfl⟩,fin,q⟩
section
variable {X:Cx} {E:XK} {a b c e l' tg:Expr} {ta tb tc:ED} {pos:Pos}
theorem qca {l:Expr} {tl:TE} (hl:PE X l tl):PI X tg l (fun σ H R=>tl σ H fun x H1=>(∃ a,x=.ref a/\(∃ xs,SqL X.K H1 a xs)/\R (Itl X.K a) H1)\/(∃ a,x=.ref a/\(∃ xs,SqT X.K H1 a xs)/\R (Itt X.K a) H1)\/∃ z,x=.str z/\R (Its z) H1):=by
 intro pins s σ H R I h
 refine thn (hl pins s σ H _ I h) fun v s1 ⟨x,H1,I1,r1,q1⟩=>?_
 have fin:∀ b,b∈[s1.heap.objs.size]->Gj X pins H1 b:=fun b hb=>by
  have e:b=s1.heap.objs.size:=by simpa using hb
  subst e
  exact I1.fpOk (Nat.le_refl _) (I1.hok.fresh (Nat.le_refl _))
 rcases q1 with ⟨a,e,⟨xs,hq⟩,q⟩ | ⟨a,e,⟨xs,hq⟩,q⟩ | ⟨z,e,q⟩
 ·subst e
  cases r1
  obtain ⟨its,rv,p,hz⟩:=I1.list hq
  refine wpAny_pyIter_list p.isList ?_
  exact ⟨s1.heap.objs.size,[s1.heap.objs.size],_,_,H1,rfl,I1.kept (t':=s1.toks) fun b o e=>Heap.get?_push_of_some _ e,fK a _,⟨_,Heap.get?_push_size _ rfl,rfl,rfl⟩,fin,q⟩
 ·subst e
  cases r1
  obtain ⟨its,rv,p,hz⟩:=I1.tuple hq
  refine wpAny_pyIter_tuple (show s1.heap.IsTuple a its.toArray from p) ?_
  exact ⟨s1.heap.objs.size,[s1.heap.objs.size],_,_,H1,rfl,I1.kept (t':=s1.toks) fun b o e=>Heap.get?_push_of_some _ e,yY a _,⟨_,Heap.get?_push_size _ rfl,rfl,rfl⟩,fin,q⟩
 ·subst e
  obtain ⟨t,rfl⟩:=r1
  exact jP I1 q
structure Src where
 xs:List D
 chk:List Cell->Prop
structure SrcOk (K:Frag) (J:It) (S:Src) (H1:Hp) (O1:Ow):Prop where
 go:∀ H O c i,Ext H1 O1 H O->Cells K H O c->S.chk c->i < S.xs.length->J.go i H
 stop:∀ H O c i,Ext H1 O1 H O->Cells K H O c->S.chk c->S.xs.length<=i->J.stop i H
 yld:∀ H O c i d x H',Ext H1 O1 H O->Cells K H O c->S.chk c->S.xs[i]?=some d->J.yld i H x H'->H'=H/\Rep K H O x d
abbrev ID:=L->M Src
def qbd (K:Frag) (E:XK) (t:ID):TI:=fun σ H R=>∃ O l c,Locs K H O l σ/\Cells K H O c/\J4 K E H O (fun S H' O' _=>∀ J,SrcOk K J S H' O'->R J H') (t l c)
structure DI (X:Cx) (E:XK) (tg iter:Expr) (t:ID):Prop where
 h:PI X tg iter (qbd X.K E t)
theorem PI.imp {X:Cx} {tg e:Expr} {t t':TI} (h:PI X tg e t) (i:∀ σ H R,t' σ H R->t σ H R):PI X tg e t':=fun pins s σ H R I q=>h pins s σ H R I (i _ _ _ q)
def ki:D->M Src
 | .lst xs=>M.ret ⟨xs,fun _=>True⟩
 | .tup xs=>M.ret ⟨xs,fun _=>True⟩
 | .str s=>M.ret ⟨s.map fun c=>.str [c],fun _=>True⟩
 | .scr ns=>M.ret ⟨ns.map .int,fun _=>True⟩
 | .hnd k=>fun c=>match c[k]? with
  | some (.lst xs)=>some (.ok ⟨xs,fun c'=>c'[k]?=some (.lst xs)⟩ c)
  | _=>none
 | _=>M.stuck
def T9 (ta:ED):ID:=fun l=>(ta l).bd ki
theorem qbw {K:Frag} {H1:Hp} {O1:Ow} {a:Addr} {vs:List V} {xs:List D} {chk:List Cell->Prop} (h:∀ H O c,Ext H1 O1 H O->Cells K H O c->chk c->∃ vs,SqL K H a vs/\Reps K H O vs xs):SrcOk K (Itl K a) ⟨xs,chk⟩ H1 O1 where
 go:=fun H O c i e hc hk hi=>by
  obtain ⟨vs,q,r⟩:=h H O c e hc hk
  obtain ⟨d,hd⟩:∃ d,xs[i]?=some d:=⟨xs[i]'hi,List.getElem?_eq_getElem hi⟩
  obtain ⟨v,hv,_⟩:=r.get hd
  exact ⟨vs,v,q,hv⟩
 stop:=fun H O c i e hc hk hi=>by
  obtain ⟨vs,q,r⟩:=h H O c e hc hk
  exact ⟨vs,q,by rw [r.length];exact hi⟩
 yld:=fun H O c i d x H' e hc hk hd y=>by
  obtain ⟨vs,q,r⟩:=h H O c e hc hk
  obtain ⟨v,hv,rv⟩:=r.get hd
  have:=y.2 vs q
  rw [hv] at this;cases this
  exact ⟨y.1,rv⟩
theorem qfo {K:Frag} {H1:Hp} {O1:Ow} {a:Addr} {xs:List D} {chk:List Cell->Prop} (h:∀ H O c,Ext H1 O1 H O->Cells K H O c->chk c->∃ vs,SqT K H a vs/\Reps K H O vs xs):SrcOk K (Itt K a) ⟨xs,chk⟩ H1 O1 where
 go:=fun H O c i e hc hk hi=>by
  obtain ⟨vs,q,r⟩:=h H O c e hc hk
  obtain ⟨d,hd⟩:∃ d,xs[i]?=some d:=⟨xs[i]'hi,List.getElem?_eq_getElem hi⟩
  obtain ⟨v,hv,_⟩:=r.get hd
  exact ⟨vs,v,q,hv⟩
 stop:=fun H O c i e hc hk hi=>by
  obtain ⟨vs,q,r⟩:=h H O c e hc hk
  exact ⟨vs,q,by rw [r.length];exact hi⟩
 yld:=fun H O c i d x H' e hc hk hd y=>by
  obtain ⟨vs,q,r⟩:=h H O c e hc hk
  obtain ⟨v,hv,rv⟩:=r.get hd
  have:=y.2 vs q
  rw [hv] at this;cases this
  exact ⟨y.1,rv⟩
theorem L6 (ha:DE X E a ta):DI X E tg a (T9 ta):=by
 refine ⟨PI.imp (qca ha.h) fun σ H R h=>?_⟩
 obtain ⟨O,l,c,hl,hc,p⟩:=h
 refine Z3 hl hc p fun x v H1 O1 c1 e1 hl1 hc1 rv p1=>?_
 cases rv with
 | @lst a vs xs h n r=>exact .inl ⟨a,rfl,⟨vs,SqL.of h⟩,J4.ret p1 hc1 _ (qbw (vs:=vs) fun H O c e _ _=>⟨vs,SqL.of (e.keep _ _ h n),r.mono e⟩)⟩
 | @scr a ns h=>exact .inl ⟨a,rfl,⟨_,h.sq⟩,J4.ret p1 hc1 _ (qbw (vs:=ns.map V.int) fun H O c e _ _=>⟨_,(h.mono e).sq,Reps.ints _⟩)⟩
 | @tup a vs xs h n r=>exact .inr (.inl ⟨a,rfl,⟨vs,SqT.of h⟩,J4.ret p1 hc1 _ (qfo fun H O c e _ _=>⟨vs,SqT.of (e.keep _ _ h n),r.mono e⟩)⟩)
 | @hnd a k hk=>
  simp only [ki] at p1
  cases z:c1[k]? with
  | none=>rw [z] at p1;exact p1.elim
  | some x=>
   rw [z] at p1
   cases x with
   | lst xs=>
    obtain ⟨a',vs,q1,q2,q3⟩:=hc1.at_ k _ z
    rw [hk] at q1;cases q1
    refine .inl ⟨a,rfl,⟨vs,SqL.of q2⟩,p1 H1 O1 (Ext.refl _ _) hc1 _ (qbw (vs:=vs) fun H O c e hc hck=>?_)⟩
    obtain ⟨a4,vs4,g1,g2,g3⟩:=hc.at_ k _ hck
    have g1':=e.pre k a hk
    rw [g1'] at g1;cases g1
    exact ⟨vs4,SqL.of g2,g3⟩
   | _=>exact p1.elim
 | str s=>
  refine .inr (.inr ⟨_,rfl,J4.ret p1 hc1 _ ⟨fun H O c i e hc hk hi=>?_,fun H O c i e hc hk hi=>?_,fun H O c i d x H' e hc hk hd y=>?_⟩⟩)
  ·show i < s.toArray.size
   simpa using hi
  ·show s.toArray.size<=i
   simpa using hi
  ·obtain ⟨y1,ch,y2,y3⟩:=y
   refine ⟨y1,?_⟩
   have hd:(s.map fun c=>D.str [c])[i]?=some d:=hd
   rw [List.getElem?_map] at hd
   have y2:s[i]?=some ch:=by simpa using y2
   rw [y2] at hd
   cases hd
   rw [y3]
   exact .str [ch]
 | _=>exact p1.elim
def iR1 (ta:ED):ID:=fun l=>(ta l).bd fun d=>match d with
 | .int j=>if -1000000<=j/\j<=1000000 then M.ret ⟨W5 0 j.toNat,fun _=>True⟩ else M.stuck
 | _=>M.stuck
def iR2 (ta tb:ED):ID:=fun l=>(ta l).bd fun d=>(tb l).bd fun d'=>match d,d' with
 | .int i,.int j=>if (-1000000<=i/\i<=1000000)/\-1000000<=j/\j<=1000000 then M.ret ⟨W5 i (j - i).toNat,fun _=>True⟩ else M.stuck
 | _,_=>M.stuck
theorem qd0 {K:Frag} {H1:Hp} {O1:Ow} {lo:Int} {n:Nat} {chk:List Cell->Prop}:SrcOk K (Itr lo n) ⟨W5 lo n,chk⟩ H1 O1 where
 go:=fun H O c i e hc hk hi=>by
  show i < n
  simpa [W5] using hi
 stop:=fun H O c i e hc hk hi=>by
  show n<=i
  simpa [W5] using hi
 yld:=fun H O c i d x H' e hc hk hd y=>by
  have hi:i < n:=by
   have:=(List.getElem?_eq_some_iff.mp hd).1
   simpa [W5] using this
  have hd:(W5 lo n)[i]?=some d:=hd
  rw [kU hi] at hd
  cases hd
  obtain ⟨y1,y2⟩:=y
  exact ⟨y1,by rw [y2];exact .int _⟩
theorem Qd {p pos2:Pos} (hm:X.mg "range"=none) (ha:DE X E a ta) (hgl:Gl X "range":=by rfl) (hst:starEach [a] X.env=[(false,eval a X.env)]:=by rfl):DI X E tg (.Call (.Name "range" p) [a] [] pos2) (iR1 ta):=by
 refine ⟨PI.imp (mE hgl hm (K1 ha.h qz hst) hst) fun σ H R h=>?_⟩
 obtain ⟨O,l,c,hl,hc,p⟩:=h
 refine Z3 hl hc p fun x v H1 O1 c1 e1 hl1 hc1 rv p1=>?_
 cases rv with
 | int j=>
  simp only at p1
  by_cases z:-1000000<=j/\j<=1000000
  ·rw [if_pos z] at p1
   exact ⟨j,rfl,by omega,by omega,J4.ret p1 hc1 _ qd0⟩
  ·rw [if_neg z] at p1
   exact p1.elim
 | _=>exact p1.elim
theorem Bt {p pos2:Pos} (hm:X.mg "range"=none) (ha:DE X E a ta) (hb':DE X E b tb) (hgl:Gl X "range":=by rfl) (hst:starEach [a,b] X.env=[(false,eval a X.env),(false,eval b X.env)]:=by rfl) (hst2:starEach [b] X.env=[(false,eval b X.env)]:=by rfl):
  DI X E tg (.Call (.Name "range" p) [a,b] [] pos2) (iR2 ta tb):=by
 refine ⟨PI.imp (mD hgl hm (K1 ha.h (K1 hb'.h qz hst2) (by rw [hst,hst2])) hst hst2) fun σ H R h=>?_⟩
 obtain ⟨O,l,c,hl,hc,p⟩:=h
 refine Z3 hl hc p fun x v H1 O1 c1 e1 hl1 hc1 rv p1=>?_
 refine Z3 hl1 hc1 p1 fun y u H2 O2 c2 e2 hl2 hc2 ru p2=>?_
 cases rv with
 | int i=>
  cases ru with
  | int j=>
   simp only at p2
   by_cases z:(-1000000<=i/\i<=1000000)/\-1000000<=j/\j<=1000000
   ·rw [if_pos z] at p2
    exact ⟨i,j,rfl,by omega,J4.ret p2 hc2 _ qd0⟩
   ·rw [if_neg z] at p2
    exact p2.elim
  | _=>exact p2.elim
 | _=>exact p2.elim
open Classical in
def vf (chk:List Cell->Prop) (g:GD) (body:SD):List D->L->M Fl
 | [],l=>fun c=>if chk c then some (.ok (.nx l) c) else none
 | x::xs,l=>fun c=>if chk c then (match g x l with
  | none=>none
  | some l1=>((body l1).bd fun f=>match f with
   | .nx l2=>vf chk g body xs l2
   | .ct l2=>vf chk g body xs l2
   | .bk l2=>M.ret (.nx l2)
   | .ret d=>M.ret (.ret d)) c) else none
def B2 (ti:ID) (g:GD) (body:SD):SD:=fun l=>(ti l).bd fun S=>vf S.chk g body S.xs l
theorem N1 {iter:Expr} {body:List Stmt} {ti:ID} {g:GD} {sb:SD} (hp:PassesOwn (model X.prog X.w) X.A X.env X.xe) (hcalm:X.calm=true) (hi:DI X E tg iter ti) (hg:DG X tg g) (hb:DSs X E body sb)
  (hs:∀ x,foldedSetIterable iter X.env x=pure x:=by intro _;rfl):DS X E (.For tg iter body [] pos) (B2 ti g sb):=by
 obtain ⟨gt,hg1,hg2⟩:=hg
 refine ⟨PS.imp (qb6 hp hcalm hi.h hg1 hb.h hs) fun Dn σ H h=>?_⟩
 obtain ⟨O,l,c,hl,hc,p⟩:=h
 refine ⟨O,l,c,hl,hc,p.bd.imp fun S H1 O1 c1 e1 hc1 p1 J ok=>?_⟩
 have chk:∀ {i:Nat} {H:Hp} {O:Ow} {l:L} {c:List Cell},J4 X.K E H O (xh X.K Dn) (vf S.chk g sb (S.xs.drop i) l c)->S.chk c:=fun {i H O l c} p=>by
  cases zz:S.xs.drop i with
  | nil=>
   rw [zz] at p;unfold vf at p
   by_cases q:S.chk c
   ·exact q
   ·rw [if_neg q] at p;exact p.elim
  | cons y ys=>
   rw [zz] at p;unfold vf at p
   by_cases q:S.chk c
   ·exact q
   ·rw [if_neg q] at p;exact p.elim
 refine ⟨fun i m σ H=>m=S.xs.length - i/\i<=S.xs.length/\∃ O l c,Ext H1 O1 H O/\Locs X.K H O l σ/\Cells X.K H O c/\J4 X.K E H O (xh X.K Dn) (vf S.chk g sb (S.xs.drop i) l c),
  ⟨S.xs.length,by simp,Nat.zero_le _,O1,l,c1,Ext.refl _ _,hl.mono e1,hc1,by simpa using p1⟩,?_⟩
 rintro i m σ2 H2 ⟨rfl,hi,O2,l2,c2,e2,hl2,hc2,p2⟩
 have z2:=chk p2
 by_cases hlt:i < S.xs.length
 ·obtain ⟨d,hd⟩:∃ d,S.xs[i]?=some d:=⟨S.xs[i],by simp [hlt]⟩
  rw [Br hd] at p2
  unfold vf at p2
  rw [if_pos z2] at p2
  refine .inr ⟨ok.go H2 O2 c2 i e2 hc2 z2 hlt,fun σ' H'=>∃ O l c,Ext H1 O1 H' O/\Locs X.K H' O l σ'/\Cells X.K H' O c/\J4 X.K E H' O (xh X.K Dn) (vf S.chk g sb (S.xs.drop (i+1)) l c),fun σ' H' q=>⟨S.xs.length - (i+1),by omega,rfl,hlt,q⟩,fun x' H' yl=>?_⟩
  obtain ⟨e',rd⟩:=ok.yld H2 O2 c2 i d x' H' e2 hc2 z2 hd yl
  subst e'
  cases z3:g d l2 with
  | none=>rw [z3] at p2;exact p2.elim
  | some l3=>
   rw [z3] at p2
   have p2:=J4.bd p2
   refine hg2 _ O2 x' d l2 σ2 l3 rd hl2 z3 _ fun σ3 hl3=>⟨O2,l3,c2,hl3,hc2,p2.imp fun f H4 O4 c4 e4 hc4 p4=>?_⟩
   cases f with
   | nx l4=>exact fun σ4 q=>⟨O4,l4,c4,e2.trans e4,q,hc4,p4⟩
   | ct l4=>exact fun σ4 q=>⟨O4,l4,c4,e2.trans e4,q,hc4,p4⟩
   | bk l4=>exact J4.ret (E:=E) (P:=xh X.K Dn) (x:=Fl.nx l4) p4 hc4
   | ret d=>exact J4.ret (E:=E) (P:=xh X.K Dn) (x:=Fl.ret d) p4 hc4
 ·have ei:i=S.xs.length:=by omega
  subst ei
  rw [List.drop_length] at p2
  unfold vf at p2
  rw [if_pos z2] at p2
  exact .inl ⟨ok.stop H2 O2 c2 _ e2 hc2 z2 (Nat.le_refl _),p2 H2 O2 (Ext.refl _ _) hc2 σ2 hl2⟩
def noX {α:Type} (m:M α):M α:=fun c=>match m c with
 | some (.ok x c')=>some (.ok x c')
 | _=>none
theorem bK {α:Type} (x:α):noX (M.ret x)=M.ret x:=rfl
theorem Ji {α:Type} {K:Frag} {H:Hp} {O:Ow} {P:α->Hp->Ow->List Cell->Prop} {m:M α} {c:List Cell} (h:J4 K E H O P (noX m c)):J4 K E0 H O P (m c):=by
 unfold noX at h
 cases z:m c with
 | none=>rw [z] at h;exact h
 | some o=>
  cases o with
  | ok x c'=>rw [z] at h;exact h
  | exc x c'=>rw [z] at h;exact h.elim
open Classical in
def C8 (chk:List Cell->Prop) (g:GD) (p:TD) (te:ED):List D->List D->L->M D
 | [],acc,l=>fun c=>if chk c then some (.ok (.lst acc) c) else none
 | x::xs,acc,l=>fun c=>if chk c/\acc.length < 1000000 then (match g x l with
  | none=>none
  | some l1=>((noX (p l1)).bd fun b=>if b=true then (noX (te l1)).bd fun d=>C8 chk g p te xs (acc++[d]) l1 else C8 chk g p te xs acc l1) c) else none
def l0 (idx:List Nat) (l:L):L:=none::idx.map fun j=>(l[j]?).getD none
def ff:TD:=fun _=>M.ret true
def L7 (ti:ID) (idx:List Nat) (g:GD) (p:TD) (te:ED):ED:=fun l=>(ti l).bd fun S=>C8 S.chk g p te S.xs [] (l0 idx l)
structure DIf (X:Cx) (E:XK) (ifs:List Expr) (t:TD):Prop where
 h:yV X ifs (Jl X.K E t)
theorem zL {X:Cx}:DIf X E0 [] ff:=⟨fun pins s σ H Q I h=>by
 obtain ⟨O,l,c,hl,hc,p⟩:=h
 exact ZH pins s σ H Q I (J4.ret p hc)⟩
theorem Wv {X:Cx} {c:Expr} {t:TD} (h:DT X E0 c t):DIf X E0 [c] t:=⟨jS h.h⟩
def sg0 (idx:List Nat) (σ:St):St:=none::idx.map fun j=>(σ[j]?).getD none
theorem qep {K:Frag} {H:Hp} {O:Ow} {l:L} {σ:St} (idx:List Nat) (h:Locs K H O l σ):Locs K H O (l0 idx l) (sg0 idx σ):=by
 refine ⟨by simp [l0,sg0],fun i d q=>?_⟩
 cases i with
 | zero=>simp [l0] at q
 | succ i=>
  simp only [l0,List.getElem?_cons_succ,List.getElem?_map] at q
  cases z:idx[i]? with
  | none=>rw [z] at q;cases q
  | some j=>
   rw [z] at q
   simp only [Option.map_some,Option.some.injEq] at q
   cases z2:l[j]? with
   | none=>rw [z2] at q;cases q
   | some o=>
    rw [z2] at q
    simp only [Option.getD_some] at q
    subst q
    obtain ⟨v,h1,h2⟩:=h.at_ j d z2
    exact ⟨v,by simp [sg0,z,h1],h2⟩
def jr (N:List Str) (names:List (Str×NameKind)) (idx:List Nat):Bool:=idx.all fun j=>match N[j]? with
 | some y=>decide (names.lookup y=some .free)
 | none=>false
def N9 (x:Str) (N:List Str) (idx:List Nat):List Str:=x::idx.map fun j=>N.getD j ""
theorem zO {scope:Scope} {x:Str} {idx:List Nat} (hN:jr X.N scope.names idx=true):∀ σ:St,σ.length=X.N.length->(sg0 idx σ).length=(N9 x X.N idx).length/\∀ (i:Nat) (y:Str) (v:V),(N9 x X.N idx)[i]?=some y->(sg0 idx σ)[i]?=some (some v)->scope.names.lookup y=some .free/\∃ j:Nat,X.N[j]?=some y/\σ[j]?=some (some v):=by
 have hN2:∀ j∈idx,∃ y,X.N[j]?=some y/\scope.names.lookup y=some .free:=fun j hj=>by
  have q:=List.all_eq_true.mp hN j hj
  cases z:X.N[j]? with
  | none=>rw [z] at q;cases q
  | some y=>rw [z] at q;exact ⟨y,rfl,by simpa using q⟩
 refine fun σ hl=>⟨by simp [sg0,N9],fun i y v h1 h2=>?_⟩
 cases i with
 | zero=>simp [sg0] at h2
 | succ i=>
  simp only [sg0,N9,List.getElem?_cons_succ,List.getElem?_map] at h1 h2
  cases z:idx[i]? with
  | none=>rw [z] at h1;cases h1
  | some j=>
   rw [z] at h1 h2
   obtain ⟨y',hy,hf⟩:=hN2 j (List.mem_of_getElem? z)
   simp only [Option.map_some,Option.some.injEq] at h1 h2
   rw [List.getD_eq_getElem?_getD,hy] at h1
   simp only [Option.getD_some] at h1
   subst h1
   refine ⟨hf,j,hy,?_⟩
   cases z2:σ[j]? with
   | none=>rw [z2] at h2;cases h2
   | some o=>rw [z2] at h2;simp only [Option.getD_some] at h2;rw [h2]
theorem bW {scope:Scope} {x:Str} {px:Pos} {idx:List Nat} {g:GD} (hg:∀ C s H fp pins,DG (V5 X scope C (N9 x X.N idx) s H fp pins) (.Name x px) g):
  ∃ gt:TG,(∀ C s H fp pins,PG (V5 X scope C (N9 x X.N idx) s H fp pins) (.Name x px) gt)/\∀ H O v d l σ l',Rep X.K H O v d->Locs X.K H O l σ->g d l=some l'->∀ Q:St->Hp->Prop,(∀ σ',Locs X.K H O l' σ'->Q σ' H)->gt v σ H Q:=by
 refine ⟨fun v σ H Q=>∃ O d l l',Rep X.K H O v d/\Locs X.K H O l σ/\g d l=some l'/\∀ σ',Locs X.K H O l' σ'->Q σ' H,fun C s H fp pins=>?_,fun H O v d l σ l' r hl e Q k=>⟨O,d,l,l',r,hl,e,k⟩⟩
 obtain ⟨gt,h1,h2⟩:=hg C s H fp pins
 intro pins' s' σ' H' v u Q I r ⟨O,d,l,l',a1,a2,a3,a4⟩
 exact h1 pins' s' σ' H' v u Q I r (h2 H' O v d l σ' l' a1 a2 a3 Q a4)
theorem Bx {idx:List Nat} {ti:ID} {g:GD} {gt:TG} {p:TD} {te:ED} {σ:St} {H:Hp} {Q:VK} (hg2:∀ H O v d l σ l',Rep X.K H O v d->Locs X.K H O l σ->g d l=some l'->∀ Q:St->Hp->Prop,(∀ σ',Locs X.K H O l' σ'->Q σ' H)->gt v σ H Q) (h:P6 X.K E (L7 ti idx g p te) σ H Q):jA (qbd X.K E ti) (sg0 idx) gt (Jl X.K E0 p) (P6 X.K E0 te) σ H Q:=by
 obtain ⟨O,l,c,hl,hc,pp⟩:=h
 refine ⟨O,l,c,hl,hc,pp.bd.imp fun S H1 O1 c1 e1 hc1 p1 J ok=>?_⟩
 have chk:∀ {i:Nat} {H:Hp} {O:Ow} {l:L} {c:List Cell} {acc:List D},V2 X.K E H O Q (C8 S.chk g p te (S.xs.drop i) acc l c)->S.chk c:=fun {i H O l c acc} pq=>by
  cases zz:S.xs.drop i with
  | nil=>
   rw [zz] at pq;unfold C8 at pq
   by_cases q:S.chk c
   ·exact q
   ·rw [if_neg q] at pq;exact pq.elim
  | cons y ys=>
   rw [zz] at pq;unfold C8 at pq
   by_cases q:S.chk c
   ·exact q
   ·rw [if_neg (fun z=>q z.1)] at pq;exact pq.elim
 refine ⟨fun i m vs σ' H'=>m=S.xs.length - i/\i<=S.xs.length/\∃ O l c acc,Ext H1 O1 H' O/\Locs X.K H' O l σ'/\Cells X.K H' O c/\Reps X.K H' O vs acc/\V2 X.K E H' O Q (C8 S.chk g p te (S.xs.drop i) acc l c),
  ⟨S.xs.length,by simp,Nat.zero_le _,O1,l0 idx l,c1,[],Ext.refl _ _,qep idx (hl.mono e1),hc1,.nil,by simpa using p1⟩,?_⟩
 rintro i m vs σ2 H2 ⟨rfl,hi',O2,l2,c2,acc,e2,hl2,hc2,r2,p2⟩
 have z2:=chk p2
 by_cases hlt:i < S.xs.length
 ·obtain ⟨d,hd⟩:∃ d,S.xs[i]?=some d:=⟨S.xs[i],by simp [hlt]⟩
  rw [Br hd] at p2
  unfold C8 at p2
  by_cases z4:S.chk c2/\acc.length < 1000000
  ·rw [if_pos z4] at p2
   refine .inr ⟨ok.go H2 O2 c2 i e2 hc2 z2 hlt,by rw [r2.length];exact Nat.lt_of_lt_of_le z4.2 qa,fun x' H' yl=>?_⟩
   obtain ⟨e',rd⟩:=ok.yld H2 O2 c2 i d x' H' e2 hc2 z2 hd yl
   subst e'
   cases z3:g d l2 with
   | none=>rw [z3] at p2;exact p2.elim
   | some l3=>
    rw [z3] at p2
    refine hg2 _ O2 x' d l2 σ2 l3 rd hl2 z3 _ fun σ3 hl3=>⟨O2,l3,c2,hl3,hc2,(Ji (J4.bd p2)).imp fun b H4 O4 c4 e4 hc4 p4=>?_⟩
    cases b with
    | false=>exact ⟨S.xs.length - (i+1),by omega,rfl,hlt,O4,l3,c4,acc,e2.trans e4,hl3.mono e4,hc4,r2.mono e4,p4⟩
    | true=>
     rw [if_pos rfl] at p4 ⊢
     exact ⟨O4,l3,c4,hl3.mono e4,hc4,(Ji (J4.bd p4)).imp fun d5 H5 O5 c5 e5 hc5 p5 v5 rv5=>⟨S.xs.length - (i+1),by omega,rfl,hlt,O5,l3,c5,acc++[d5],(e2.trans e4).trans e5,(hl3.mono e4).mono e5,hc5,((r2.mono e4).mono e5).append (.cons rv5 .nil),p5⟩⟩
  ·rw [if_neg z4] at p2;exact p2.elim
 ·have ei:i=S.xs.length:=by omega
  subst ei
  rw [List.drop_length] at p2
  unfold C8 at p2
  rw [if_pos z2] at p2
  exact .inl ⟨ok.stop H2 O2 c2 _ e2 hc2 z2 (Nat.le_refl _),fun q n=>V2.new p2 hc2 n (hc2.lstNew n r2)⟩
theorem Ww {scope:Scope} {elt iter:Expr} {x:Str} {px:Pos} {ifs:List Expr} {ti:ID} {g:GD} {p:TD} {te:ED} (idx:List Nat) (S:CompScope X scope) (hcalm:X.calm=true) (hi:DI X E (.Name x px) iter ti)
  (hN:jr X.N scope.names idx=true)
  (hg:∀ C s H fp pins,DG (V5 X scope C (N9 x X.N idx) s H fp pins) (.Name x px) g) (ht:∀ C s H fp pins,DIf (V5 X scope C (N9 x X.N idx) s H fp pins) E0 ifs p)
  (he:∀ C s H fp pins,DE (V5 X scope C (N9 x X.N idx) s H fp pins) E0 elt te)
  (hs:∀ v,foldedSetIterable iter X.env v=pure v:=by intro _;rfl):DE X E (.ListComp elt [⟨.Name x px,iter,ifs,0⟩] scope pos) (L7 ti idx g p te):=by
 obtain ⟨gt,hg1,hg2⟩:=bW hg
 exact ⟨PE.imp (bF (N':=N9 x X.N idx) (σ0:=sg0 idx) (tt:=Jl X.K E0 p) (te:=P6 X.K E0 te) S hcalm hi.h (zO hN) hg1 (fun C s H fp pins=>(ht C s H fp pins).h) (fun C s H fp pins=>(he C s H fp pins).h) hs) fun σ H Q h=>Bx hg2 h⟩
theorem Zl {scope:Scope} {elt iter:Expr} {x y:Str} {px py spos:Pos} {ifs:List Expr} {ti:ID} {g:GD} {p:TD} {te:ED} {i:Nat} (idx:List Nat) (hNd:X.N.Nodup) (S:CompScope X scope) (hcalm:X.calm=true) (hi:DI X E (.Name x px) iter ti)
  (hN:jr X.N scope.names idx=true)
  (hg:∀ C s H fp pins,DG (V5 X scope C (N9 x X.N idx) s H fp pins) (.Name x px) g) (ht:∀ C s H fp pins,DIf (V5 X scope C (N9 x X.N idx) s H fp pins) E0 ifs p)
  (he:∀ C s H fp pins,DE (V5 X scope C (N9 x X.N idx) s H fp pins) E0 elt te)
  (hs:∀ v,foldedSetIterable iter X.env v=pure v) (hy:X.N[i]?=some y:=by rfl) (hyl:X.env.scope.names.lookup y=some .local:=by rfl) (hsw:swapsWith (.ListComp elt [⟨.Name x px,iter,ifs,0⟩] scope pos) (some (.Name y py)) spos.line X.env=pure true:=by rfl):
  DS X E (.Assign [.Name y py] (.ListComp elt [⟨.Name x px,iter,ifs,0⟩] scope pos) spos) (Y0 i (L7 ti idx g p te)):=by
 obtain ⟨gt,hg1,hg2⟩:=bW hg
 refine ⟨PS.imp (wA (N':=N9 x X.N idx) (σ0:=sg0 idx) (tt:=Jl X.K E0 p) (te:=P6 X.K E0 te) hNd hy hyl hsw S hcalm hi.h (zO hN) hg1 (fun C s H fp pins=>(ht C s H fp pins).h) (fun C s H fp pins=>(he C s H fp pins).h) hs) fun Dn σ H h=>Bx hg2 ?_⟩
 obtain ⟨O,l,c,hl,hc,pp⟩:=h
 exact Z3 hl hc pp fun d v H1 O1 c1 e1 hl1 hc1 rv p1=>J4.ret p1 hc1 _ (hl1.set i rv)
end
open PyProof.Rows hiding St
section
variable {X:Cx} {E:XK} {a b c e:Expr} {ta tb tc:ED} {pos:Pos}
theorem VF {bs:List Bool}:∀ {us:List Value},Y4 (bs.map V.bl) us->us=bs.map Value.bool:=by
 induction bs with
 | nil=>intro us r;cases r;rfl
 | cons b bs ih=>intro us r;rw [List.map_cons] at r;cases r with | cons h t=>rw [ih t];cases h;rfl
theorem uQ (hc:X.calm=true):D6 X (.builtin "all") (fun vs H Q=>∃ (a:Addr) (bs:List Bool),vs=[.ref a]/\H a=some (.lst (bs.map V.bl))/\Q (.bl (bs.all id)) H):=by
 intro pins s σ H xs us Q I r h
 obtain ⟨a,bs,rfl,ha,q⟩:=h
 obtain ⟨u,rfl,rx⟩:=fh r
 cases rx
 obtain ⟨its,rv,pl,hz⟩:=I.list (SqL.of ha)
 obtain rfl:=VF rv
 refine call_all_walk (wpAny_pyIter_list pl.isList ?_)
 have hne:a≠s.heap.objs.size:=Nat.ne_of_lt (I.hok.lt ha)
 refine ⟨s.heap.objs.size,_,_,_,_,_,fun i=>bs.getD i true,rfl,Walks.list (A:=X.A.in1) (I.ok.hd hc) s.heap.objs.size a hne (bs.map Value.bool).toArray,⟨⟨_,Heap.get?_push_size _ rfl,rfl,rfl⟩,?_⟩,?_,fun h' tk kp=>?_⟩
 ·obtain ⟨o,e,r⟩:=pl.isList
  exact ⟨o,Heap.get?_push_of_some _ e,r⟩
 ·intro i v s' Q' E' hP hQ
  have hP:(bs.map Value.bool).toArray[i]?=some v:=hP
  rw [List.getElem?_toArray,List.getElem?_map] at hP
  cases z:bs[i]? with
  | none=>rw [z] at hP;cases hP
  | some b=>
   rw [z] at hP
   cases hP
   simp only [List.getD_eq_getElem?_getD,z] at hQ
   exact wpAny_truthy_bool hQ
 ·have e:(List.range (bs.map Value.bool).toArray.size).all (fun i=>bs.getD i true)=bs.all id:=by
   rw [List.size_toArray,List.length_map]
   clear kp ha rv pl hz r q hne
   induction bs with
   | nil=>rfl
   | cons b bs ih=>
    rw [List.length_cons,List.range_succ_eq_map,List.all_cons,List.all_map,List.all_cons,← ih]
    rfl
  rw [e]
  refine ⟨.bl _,H,I.kept (t':=tk) (fun b o e=>?_),rfl,q⟩
  refine kp b o (fun m=>?_) (Heap.get?_push_of_some _ e)
  have:=List.mem_singleton.mp m
  exact absurd (Heap.lt_size e) (by rw [this];exact Nat.lt_irrefl _)
def Kg:List D->Option (List Bool)
 | []=>some []
 | .bl b::r=>(Kg r).map (b::·)
 | _=>none
theorem xZ {K:Frag} {H:Hp} {O:Ow}:∀ {vs:List V} {xs:List D} {bs:List Bool},Reps K H O vs xs->Kg xs=some bs->vs=bs.map V.bl
 | _,_,_,.nil,h=>by cases h;rfl
 | _,_,_,.cons (.bl b) t,h=>by
  simp only [Kg] at h
  obtain ⟨bs,h1,h2⟩:=Option.map_eq_some_iff.mp h
  subst h2
  rw [xZ t h1];rfl
 | _,_,_,.cons .non t,h=>by cases h
 | _,_,_,.cons (.int _) t,h=>by cases h
 | _,_,_,.cons (.str _) t,h=>by cases h
 | _,_,_,.cons (.tup _ _ _) t,h=>by cases h
 | _,_,_,.cons (.lst _ _ _) t,h=>by cases h
 | _,_,_,.cons (.hnd _) t,h=>by cases h
 | _,_,_,.cons (.scr _) t,h=>by cases h
def qav:D->M D
 | .lst xs=>match Kg xs with
  | some bs=>M.ret (.bl (bs.all id))
  | none=>M.stuck
 | _=>M.stuck
theorem qde {p2:Pos} (hc:X.calm=true) (hm:X.mg "all"=none) (ha:DE X E a ta) (hg:Gl X "all":=by rfl) (hst:starEach [a] X.env=[(false,eval a X.env)]:=by rfl):DE X E (.Call (.Name "all" p2) [a] [] pos) (d1 qav ta):=
 vZ (uQ hc) (fun H O c d v Q hc r p=>by cases r with
  | @lst a vs xs h n r=>
   simp only [qav] at p
   cases z:Kg xs with
   | none=>rw [z] at p;exact p.elim
   | some bs=>
    rw [z] at p
    have e:=xZ r z
    subst e
    exact ⟨a,bs,rfl,h,J4.ret p hc _ (.bl _)⟩
  | _=>exact p.elim) hm ha (hg:=hg) (hst:=hst)
theorem uR {α:Type} (f:α->Bool) (xs:List α):Kg (xs.map fun x=>D.bl (f x))=some (xs.map f):=by
 induction xs with
 | nil=>rfl
 | cons x xs ih=>simp [Kg,ih]
end
open PyProof.Rows hiding St
theorem qdr {l:PySem.W.OpenLaw} {q:Program} {loose:List Str} {XP:(Str->Option Value)->Heap->Prop} {YP:World->Heap->Prop} {d:DefRec} {K:Params->Frag} {x:Str} {k:Nat} {g:FD} (hn:l.most=some 63) (hdf:d.params.defaults=[]) (hr:Room k callerA)
  (hY:∀ (w:World) (h:Heap),YP w h->(K w.params).In h)
  (F:∀ (w:World) (mg:Str->Option Value) (fa:Addr) (h:Heap),(K w.params).In h->h.Ns mainGlobals mg->mg d.name=some (.ref fa)->
   ∃ fd:FuncData,(∀ (s:Shared) (u:Value),BindsTo s fd ⟨[u],[]⟩ [(x,u)])/\∀ base:Heap,(K w.params).In base->base.Ns mainGlobals mg->FnOk l.prog w (K w.params) mg base CX0 k fa fd [x] (spD (K w.params) 1 g))
  (ht:∀ ns:List Int,ns.length<=63->∃ c,g [.scr ns] []=some (.ok (.bl true) c)):
  PySem.W.WalkO q loose XP YP l.row.toRowW d [] (fun f vs=>PySem.call f vs):=by
 refine L2.VE (n:=63) (k:=k) (x:=x) (CX:=fun _=>CX0) (sp:=fun w=>spD (K w.params) 1 g) hn (by decide) hdf hr hY F (fun w H a ns hl hO hS=>?_) fun _ _ _ _ _ z=>z
 obtain ⟨c,e⟩:=ht ns hl
 refine ⟨rfl,[],[.scr ns],[],.cons (.scr ?_) .nil,⟨rfl,fun k x h=>by simp at h,fun i j a h=>by simp at h⟩,?_⟩
 ·rcases hS with (h | ⟨o,h⟩) | h
  ·rcases hO a with z | ⟨ob,xs,z⟩
   ·rw [z] at h;cases h
   ·rw [z] at h;cases h
  ·exact .inl ⟨o,h,by simp⟩
  ·exact .inr h
 ·rw [e]
  intro H' O' _ _ v r
  cases r;rfl
def gV (f:List D->List Cell->Option D):FD:=fun ds c=>match f ds c with
 | some d=>some (.ok d c)
 | none=>none
theorem jc {f:List D->List Cell->Option D} {tb:SD} {N:List Str} {n:Nat} (h:∀ ds c d,ds.length=n->f ds c=some d->(∃ ex,tb (Z1 N ds) c=some (.ok (.ret d) (c++ex)))/\D.bel c.length d=true):
  ∀ ds c r,ds.length=n->gV f ds c=some r->∃ d c1,r=.ok d c1/\Fin c (tb (Z1 N ds) c) (some (.ok d c1)):=by
 intro ds c r hl e
 unfold gV at e
 cases z:f ds c with
 | none=>rw [z] at e;cases e
 | some d=>
  rw [z] at e
  cases e
  obtain ⟨⟨ex,e2⟩,hb⟩:=h ds c d hl z
  refine ⟨d,c,rfl,?_⟩
  rw [e2]
  have:=Fin.val (c:=c) (c':=c++ex) hb (R6.app c ex)
  simpa using this
theorem Vq {n:Nat} {f:List D->List Cell->Option D} {ds:List D} {c:List Cell} {d:D} (hl:ds.length=n) (h:f ds c=some d):gN n (gV f) ds c=some (.ok d c):=by
 unfold gN gV
 rw [if_pos hl,h]
theorem Z9 {α β:Type} {m:M α} {f:α->M β} {c c':List Cell} {x:α} (h:m c=some (.ok x c')):m.bd f c=f x c':=by unfold M.bd;rw [h]
theorem Vh {α β:Type} {m:M α} {f:α->M β} {c c':List Cell} {x:Exc} (h:m c=some (.exc x c')):m.bd f c=some (.exc x c'):=by unfold M.bd;rw [h]
theorem JU {g:GD} {body:SD} {l:L} {c:List Cell}:vf (fun _=>True) g body [] l c=some (.ok (.nx l) c):=by simp [vf]
theorem yB {te:ED} {rest:L} {f:D->D}:∀ (xs acc:List D) (o:Option D) (c:List Cell),(∀ x∈xs,te (some x::rest) c=some (.ok (f x) c))->acc.length+xs.length<=1000000->
  C8 (fun _=>True) (J5 0) ff te xs acc (o::rest) c=some (.ok (.lst (acc++xs.map f)) c)
 | [],acc,o,c,_,_=>by simp [C8]
 | x::xs,acc,o,c,h,hl=>by
  have ih:=yB xs (acc++[f x]) (some x) c (fun y hy=>h y (List.mem_cons_of_mem _ hy)) (by simp at hl ⊢;omega)
  simp only [C8,J5,List.set_cons_zero,ff,bK,kQ,if_true]
  rw [if_pos ⟨trivial,by simp at hl;omega⟩]
  unfold M.bd noX
  rw [h x List.mem_cons_self]
  simp only
  rw [ih]
  simp
end DL
namespace DL
open PySem PySem.Spec L2
theorem XT {es p env} (x:Value):foldedSetIterable (.List es p) env x=pure x:=rfl
theorem JT {es k p env} (x:Value):foldedSetIterable (.Tuple es k p) env x=pure x:=rfl
theorem zo {n p env} (x:Value):foldedSetIterable (.Name n p) env x=pure x:=rfl
theorem zq {f a k p env} (x:Value):foldedSetIterable (.Call f a k p) env x=pure x:=rfl
theorem Jq {a b p env} (x:Value):foldedSetIterable (.Subscript a b p) env x=pure x:=rfl
open PyProof.Rows hiding St
theorem Cells.setC {K:Frag} {H:Hp} {O:Ow} {c:List Cell} {k:Nat} {a:Addr} {o:HO} {x:Cell} (hc:Cells K H O c) (hO:O[k]?=some (some a)) (hx:Ext H O (upd H a o) O->bz K (upd H a o) O k x):
  Ext H O (upd H a o) O/\Cells K (upd H a o) O (c.set k x):=by
 have e:Ext H O (L2.upd H a o) O:=⟨fun b u h n=>by rw [Z2 (fun z=>n (by rw [z];exact List.mem_of_getElem? hO))];exact h,fun _ _ h=>h,fun _ h=>.inl h⟩
 refine ⟨e,by rw [List.length_set];exact hc.len,fun j y q=>?_,hc.inj⟩
 rw [List.getElem?_set] at q
 by_cases hj:k=j
 ·rw [if_pos hj] at q
  split at q
  ·cases q
   rw [← hj]
   exact hx e
  ·cases q
 ·rw [if_neg hj] at q
  have z:=hc.at_ j y q
  have ne:∀ b,O[j]?=some (some b)->b≠a:=fun b hb w=>hj (hc.inj k j a hO (by rw [hb,w]))
  cases y with
  | dead=>exact z
  | lst xs=>obtain ⟨b,vs,q1,q2,q3⟩:=z;exact ⟨b,vs,q1,by rw [Z2 (ne b q1)];exact q2,q3.mono e⟩
  | dct kvs=>obtain ⟨b,vs,q1,q2,q3,q4⟩:=z;exact ⟨b,vs,q1,by rw [Z2 (ne b q1)];exact q2,⟨q3.1,q3.2.mono e⟩,q4⟩
  | ins C fs=>obtain ⟨b,dx,vs,q1,q2,q3⟩:=z;exact ⟨b,dx,vs,q1,by rw [Z2 (ne b q1)];exact q2,q3.1,q3.2.mono e⟩
  | exn cls fs=>obtain ⟨b,dx,q1,q2,q3⟩:=z;exact ⟨b,dx,q1,by rw [Z2 (ne b q1)];exact q2,q3.mono e⟩
theorem Cells.setL {K:Frag} {H:Hp} {O:Ow} {c:List Cell} {k:Nat} {a:Addr} {vs:List V} {ys:List D} (hc:Cells K H O c) (hO:O[k]?=some (some a)) (r:Reps K H O vs ys):
  Ext H O (upd H a (.lst vs)) O/\Cells K (upd H a (.lst vs)) O (c.set k (.lst ys)):=hc.setC hO fun e=>⟨a,vs,hO,Y5,r.mono e⟩
section
variable {X:Cx} {E:XK} {a b c e o:Expr} {ta tb tc to:ED} {pos apos cpos:Pos} {es:List Expr} {t:AD}
def mM (ty:Ty) (f:D->List D->M D) (to:ED) (t:AD):ED:=fun l=>(to l).bd fun o c=>if tyM o c=some ty then ((t l).bd fun xs=>f o xs) c else none
theorem QB {H:Hp} {O:Ow} {c:List Cell} {v:V} {d:D} {s:Ty} (hc:Cells X.K H O c) (r:Rep X.K H O v d) (h:tyM d c=some s) (hs:s=.lst\/s=.dct\/s=.str):tyV X.K s.nm v H:=by
 cases r with
 | str b=>cases h;rfl
 | lst h1 _ _=>cases h;exact .inl ⟨rfl,_,SqL.of h1⟩
 | @hnd a k hk=>
  simp only [tyM] at h
  cases z:c[k]? with
  | none=>rw [z] at h;cases h
  | some x=>
   rw [z] at h
   cases x with
   | lst xs=>
    cases h
    obtain ⟨a',vs,q1,q2,q3⟩:=hc.at_ k _ z
    rw [hk] at q1;cases q1
    exact .inl ⟨rfl,_,SqL.of q2⟩
   | dct xs=>
    cases h
    obtain ⟨a',vs,q1,q2,q3⟩:=hc.at_ k _ z
    rw [hk] at q1;cases q1
    exact .inr (.inr (.inl ⟨rfl,.inl ⟨_,q2⟩⟩))
   | _=>cases h
 | non=>cases h;rcases hs with h | h | h <;> cases h
 | bl _=>cases h;rcases hs with h | h | h <;> cases h
 | int _=>cases h;rcases hs with h | h | h <;> cases h
 | tup _ _ _=>cases h;rcases hs with h | h | h <;> cases h
 | scr _=>cases h
def MtD (X:Cx) (E:XK) (r:V->List V->Hp->VK->Prop) (f:D->List D->M D):Prop:=∀ H O c o xs v vs Q,Cells X.K H O c->Rep X.K H O v o->Reps X.K H O vs xs->V2 X.K E H O Q (f o xs c)->r v vs H Q
theorem bV (ty:Ty) (hty:ty=.lst\/ty=.dct\/ty=.str) {name:Str} {id:String} {r:V->List V->Hp->VK->Prop} {f:D->List D->M D} (pa:PlainAttrs ty.nm) (slot:Slot ty.nm name id) (htp:typeOf (.builtin id)=pure (.type "method_descriptor")) (hm:MtR X id r) (hf:MtD X E r f) (ho:DE X E o to) (ha:DA X E (e::es) t)
  (hbase:attributeBase o name X.env (eval o X.env)=eval o X.env:=by rfl)
  (hfew:((backTo cpos (starEach (e::es) X.env)).all (fun x=>!x.1) && (backToKw cpos (keywordEach [] X.env)).all (fun x=>x.1.isSome) && decide ((e::es).length+([]:List Keyword).length+(if ([]:List Keyword).isEmpty then 0 else 1) < 30))=true:=by rfl)
  (hline:(apos.endLine == cpos.line)=true:=by rfl) (hs:starEach (e::es) X.env=(false,eval e X.env)::starEach es X.env:=by rfl) (hplain:(backTo cpos (starEach es X.env)).any (·.1)=false:=by rfl):
  DE X E (.Call (.Attribute o name apos) (e::es) [] cpos) (mM ty f to t):=by
 refine ⟨PE.imp (qek pa slot htp hm ho.h ha.h hbase hfew hline hs hplain) fun σ H Q h=>?_⟩
 obtain ⟨O,l,c,hl,hc,p⟩:=h
 refine Z3 hl hc p fun x v H1 O1 c1 e1 hl1 hc1 rv p1=>?_
 have p1:V2 X.K E H1 O1 Q (if tyM x c1=some ty then ((t l).bd fun xs=>f x xs) c1 else none):=p1
 by_cases z:tyM x c1=some ty
 ·rw [if_pos z] at p1
  refine ⟨QB hc1 rv z hty,C3 hl1 hc1 p1 fun xs vs H2 O2 c2 e2 hl2 hc2 rvs p2=>?_⟩
  exact hf H2 O2 c2 x xs v vs Q hc2 (rv.mono e2) rvs p2
 ·rw [if_neg z] at p1;exact p1.elim
theorem qdd (ty:Ty) (hty:ty=.lst\/ty=.dct\/ty=.str) {name:Str} {id:String} {r:V->List V->Hp->VK->Prop} {f:D->List D->M D} (pa:PlainAttrs ty.nm) (slot:Slot ty.nm name id) (htp:typeOf (.builtin id)=pure (.type "method_descriptor")) (hm:MtR X id r) (hf:MtD X E r f) (ho:DE X E o to)
  (hbase:attributeBase o name X.env (eval o X.env)=eval o X.env:=by rfl) (hline:(apos.endLine == cpos.line)=true:=by rfl):DE X E (.Call (.Attribute o name apos) [] [] cpos) (mM ty f to Q9):=by
 refine ⟨PE.imp (qch pa slot htp hm ho.h hbase hline) fun σ H Q h=>?_⟩
 obtain ⟨O,l,c,hl,hc,p⟩:=h
 refine Z3 hl hc p fun x v H1 O1 c1 e1 hl1 hc1 rv p1=>?_
 have p1:V2 X.K E H1 O1 Q (if tyM x c1=some ty then f x [] c1 else none):=p1
 by_cases z:tyM x c1=some ty
 ·rw [if_pos z] at p1
  exact ⟨QB hc1 rv z hty,hf H1 O1 c1 x [] v [] Q hc1 rv .nil p1⟩
 ·rw [if_neg z] at p1;exact p1.elim
def yu (o:D) (c:List Cell):Option (Nat×List D):=match o with
 | .hnd k=>match c[k]? with
  | some (.lst ys)=>some (k,ys)
  | _=>none
 | _=>none
theorem Ka {H:Hp} {O:Ow} {c:List Cell} {v:V} {d:D} {k:Nat} {ys:List D} (hc:Cells X.K H O c) (r:Rep X.K H O v d) (h:yu d c=some (k,ys)):∃ a vs,v=.ref a/\O[k]?=some (some a)/\H a=some (.lst vs)/\Reps X.K H O vs ys/\c[k]?=some (.lst ys):=by
 cases r with
 | @hnd a j hj=>
  simp only [yu] at h
  cases z:c[j]? with
  | none=>rw [z] at h;cases h
  | some x=>
   rw [z] at h
   cases x with
   | lst xs=>
    simp only [Option.some.injEq,Prod.mk.injEq] at h
    obtain ⟨rfl,rfl⟩:=h
    obtain ⟨a',vs,q1,q2,q3⟩:=hc.at_ _ _ z
    rw [hj] at q1;cases q1
    exact ⟨a,vs,rfl,hj,q2,q3,z⟩
   | _=>cases h
 | _=>cases h
def K9 (o:D) (xs:List D):M D:=fun c=>match yu o c,xs with
 | some (k,ys),[x]=>if ys.length < 1000000 then some (.ok .non (c.set k (.lst (ys++[x])))) else none
 | _,_=>none
theorem wR:MtD X E bA K9:=by
 intro H O c o xs v vs Q hc ro rx p
 unfold K9 at p
 cases z:yu o c with
 | none=>rw [z] at p;exact p.elim
 | some q=>
  obtain ⟨k,ys⟩:=q
  rw [z] at p
  obtain ⟨a,us,e1,hO,ha,ru,hk⟩:=Ka hc ro z
  cases rx with
  | nil=>exact p.elim
  | cons r1 r2=>
   cases r2 with
   | cons _ _=>exact p.elim
   | @nil=>
    rename_i v1 d1
    have p:V2 X.K E H O Q (if ys.length < 1000000 then some (.ok .non (c.set k (.lst (ys++[d1])))) else none):=p
    by_cases hz:ys.length < 1000000
    ·rw [if_pos hz] at p
     obtain ⟨ex,cx⟩:=hc.setL hO (ru.append (.cons r1 .nil))
     exact ⟨a,us,v1,e1,rfl,ha,by rw [ru.length];exact Nat.lt_of_lt_of_le hz qa,p _ O ex cx _ .non⟩
    ·rw [if_neg hz] at p;exact p.elim
theorem zh (ho:DE X E o to) (ha:DE X E e te) (hbase:attributeBase o "append" X.env (eval o X.env)=eval o X.env:=by rfl)
  (hfew:((backTo cpos (starEach [e] X.env)).all (fun x=>!x.1) && (backToKw cpos (keywordEach [] X.env)).all (fun x=>x.1.isSome) && decide ([e].length+([]:List Keyword).length+(if ([]:List Keyword).isEmpty then 0 else 1) < 30))=true:=by rfl)
  (hline:(apos.endLine == cpos.line)=true:=by rfl) (hs:starEach [e] X.env=[(false,eval e X.env)]:=by rfl):DE X E (.Call (.Attribute o "append" apos) [e] [] cpos) (mM .lst K9 to (Q1 te Q9)):=
 bV .lst (.inl rfl) PySem.F.plainAttrs_list PySem.F.slot_list_append PySem.F.type_list_append mL wR ho (Q2 ha Z0 hs) hbase hfew hline hs rfl
def kI (d:D) (c:List Cell):Option (List D):=match d with
 | .tup xs=>some xs
 | .scr ns=>some (ns.map .int)
 | d=>jn d c
theorem VU {K:Frag} {H:Hp} {O:Ow} {c:List Cell} {v:V} {d:D} {xs:List D} (hc:Cells K H O c) (r:Rep K H O v d) (h:kI d c=some xs):∃ a vs,v=.ref a/\(SqL K H a vs\/SqT K H a vs)/\Reps K H O vs xs:=by
 cases r with
 | @tup a vs ys h1 n r1=>cases h;exact ⟨a,vs,rfl,.inr (SqT.of h1),r1⟩
 | @lst a vs ys h1 n r1=>cases h;exact ⟨a,vs,rfl,.inl (SqL.of h1),r1⟩
 | @scr a ns h1=>cases h;exact ⟨a,_,rfl,.inl h1.sq,Reps.ints _⟩
 | @hnd a k hk=>
  obtain ⟨a',vs,e,q1,q2⟩:=ur hc (.hnd hk) h
  exact ⟨a',vs,e,.inl (SqL.of q1),q2⟩
 | _=>cases h
def qeq (d:D):M D:=fun c=>match kI d c with
 | some xs=>some (.ok (.lst xs) c)
 | none=>none
def qer (d:D):M D:=fun c=>match kI d c with
 | some xs=>some (.ok (.hnd c.length) (c++[.lst xs]))
 | none=>none
def Zg:List D->Option (List Int)
 | []=>some []
 | .int b::r=>(Zg r).map (b::·)
 | _=>none
theorem Gz {K:Frag} {H:Hp} {O:Ow}:∀ {vs:List V} {xs:List D} {bs:List Int},Reps K H O vs xs->Zg xs=some bs->vs=bs.map V.int
 | _,_,_,.nil,h=>by cases h;rfl
 | _,_,_,.cons (.int b) t,h=>by
  simp only [Zg] at h
  obtain ⟨bs,h1,h2⟩:=Option.map_eq_some_iff.mp h
  subst h2
  rw [Gz t h1];rfl
 | _,_,_,.cons .non t,h=>by cases h
 | _,_,_,.cons (.bl _) t,h=>by cases h
 | _,_,_,.cons (.str _) t,h=>by cases h
 | _,_,_,.cons (.tup _ _ _) t,h=>by cases h
 | _,_,_,.cons (.lst _ _ _) t,h=>by cases h
 | _,_,_,.cons (.hnd _) t,h=>by cases h
 | _,_,_,.cons (.scr _) t,h=>by cases h
theorem gH {α:Type} (f:α->Int) (xs:List α):Zg (xs.map fun x=>D.int (f x))=some (xs.map f):=by
 induction xs with
 | nil=>rfl
 | cons x xs ih=>simp [Zg,ih]
theorem jR:∀ (ns:List Int) (n:Nat),n<=ns.length->preSum (fun i=>ns.getD i 0) n=(ns.take n).sum:=by
 intro ns n
 induction n with
 | zero=>intro _;simp [preSum]
 | succ n ih=>
  intro h
  have e:ns.take (n+1)=ns.take n++[ns.getD n 0]:=by
   rw [List.take_succ_eq_append_getElem (by omega)]
   congr 2
   simp [List.getD_eq_getElem?_getD,List.getElem?_eq_getElem (show n < ns.length by omega)]
  rw [e,List.sum_append,← ih (by omega)]
  simp [preSum]
theorem uH (hc:X.calm=true):D6 X (.builtin "sum") (fun vs H Q=>∃ (a:Addr) (ns:List Int),vs=[.ref a]/\SqL X.K H a (ns.map V.int)/\Q (.int ns.sum) H):=by
 intro pins s σ H xs us Q I r h
 obtain ⟨a,ns,rfl,ha,q⟩:=h
 obtain ⟨u,rfl,rx⟩:=fh r
 cases rx
 obtain ⟨its,rv,pl,hz⟩:=I.list ha
 have hlen:=rv.length
 rw [List.length_map] at hlen
 refine call_sum_walkG (wpAny_pyIter_list pl.isList ?_)
 have hne:a≠s.heap.objs.size:=by
  obtain ⟨o,e,_⟩:=pl.isList
  exact Nat.ne_of_lt (Heap.lt_size e)
 refine ⟨s.heap.objs.size,_,_,_,_,_,fun i=>ns.getD i 0,rfl,Walks.list (A:=X.A.in1) (I.ok.hd hc) s.heap.objs.size a hne its.toArray,⟨⟨_,Heap.get?_push_size _ rfl,rfl,rfl⟩,?_⟩,?_,?_,fun h' tk t' kp=>?_⟩
 ·obtain ⟨o,e,r⟩:=pl.isList
  exact ⟨o,Heap.get?_push_of_some _ e,r⟩
 ·intro b hb
  show b < (s.heap.push _).objs.size
  rw [Heap.size_push]
  simp only [List.mem_cons,List.not_mem_nil,or_false] at hb
  rcases hb with rfl | rfl
  ·exact Nat.lt_succ_self _
  ·obtain ⟨o,e,r⟩:=pl.isList
   exact Nat.lt_succ_of_lt (Heap.lt_size e)
 ·intro i v hP
  have hP:its.toArray[i]?=some v:=hP
  rw [List.getElem?_toArray] at hP
  have hi:=(List.getElem?_eq_some_iff.mp hP).1
  obtain ⟨u,hu,ru⟩:=rv.get (i:=i) (x:=.int (ns.getD i 0)) (by
   rw [List.getElem?_map,List.getElem?_eq_getElem (by omega),List.getD_eq_getElem?_getD,List.getElem?_eq_getElem (by omega)]
   rfl)
  rw [hP] at hu
  cases hu
  exact ru
 ·have e:preSum (fun i=>ns.getD i 0) its.toArray.size=ns.sum:=by
   rw [List.size_toArray,← hlen,jR ns ns.length (Nat.le_refl _),List.take_length]
  rw [e]
  refine ⟨.int _,H,I.kept (t':=tk) (fun b o e=>?_),⟨t',rfl⟩,q⟩
  refine kp b o (fun m=>?_) (Heap.get?_push_of_some _ e)
  have:=List.mem_singleton.mp m
  exact absurd (Heap.lt_size e) (by rw [this];exact Nat.lt_irrefl _)
def fO (d:D):M D:=fun c=>match jn d c with
 | some xs=>match Zg xs with
  | some ns=>some (.ok (.int ns.sum) c)
  | none=>none
 | none=>none
theorem qdc {p2:Pos} (hc:X.calm=true) (hm:X.mg "sum"=none) (ha:DE X E a ta) (hg:Gl X "sum":=by rfl) (hst:starEach [a] X.env=[(false,eval a X.env)]:=by rfl):DE X E (.Call (.Name "sum" p2) [a] [] pos) (d1 fO ta):=
 vZ (uH hc) (fun H O c d v Q hc r p=>by
  unfold fO at p
  cases z:jn d c with
  | none=>rw [z] at p;exact p.elim
  | some xs=>
   simp only [z] at p
   cases z2:Zg xs with
   | none=>rw [z2] at p;exact p.elim
   | some ns=>
    rw [z2] at p
    obtain ⟨a,vs,e,hq,rs⟩:=ur hc r z
    have e2:=Gz rs z2
    subst e2
    exact ⟨a,ns,by rw [e],SqL.of hq,V2.ok p hc (.int _)⟩) hm ha (hg:=hg) (hst:=hst)
theorem qc9 (hu:X.A.units+64 < cLine) (ha:DE X E a ta) (hb:DE X E b tb) (hm:behindInMarks .NotIn b=false:=by rfl):DT X E (.Compare a [.NotIn] [b] pos) (tOf (d2 (inM true) ta tb)):=Us (WS hu) qcs ha hb hm
def qbz (o i v:D) (l:L):M Fl:=fun c=>match yu o c,i with
 | some (k,ys),.int n=>match ixN ys.length n with
  | some j=>some (.ok (.nx l) (c.set k (.lst (ys.set j v))))
  | none=>none
 | _,_=>none
def fU (to ti te:ED):SD:=fun l=>(te l).bd fun v=>(to l).bd fun o=>(ti l).bd fun i=>qbz o i v l
theorem qda {i:Expr} {ti te:ED} {pos':Pos} (he:DE X E e te) (ho:DE X E o to) (hi:DE X E i ti) (hs:swapsWithSole [.Subscript o i pos'] e pos.line X.env=pure false:=by rfl) (hw:swappedStores [.Subscript o i pos'] e X.env=pure none:=by rfl)
  (h1:(assignEach [.Subscript o i pos'] X.env).map (·.2)=[assign (.Subscript o i pos') X.env]:=by rfl)
  (hasg:∀ v,assign (.Subscript o i pos') X.env v=(do
   let ov ← holding [v] (eval o X.env)
   let iv ← holding [v,ov] (eval i X.env)
   standAt pos'
   holding [v,ov,iv] (setItem ov iv v)
   release [v,ov,iv] []):=by intro _;rfl):DS X E (.Assign [.Subscript o i pos'] e pos) (fU to ti te):=by
 refine ⟨PS.imp (qb9 he.h (qcb ho.h hi.h QO hasg) hs hw h1) fun Dn σ H h=>?_⟩
 obtain ⟨O,l,c,hl,hc,p⟩:=h
 refine Z3 hl hc p fun x v H1 O1 c1 e1 hl1 hc1 rv p1=>?_
 refine Z3 hl1 hc1 p1 fun y u H2 O2 c2 e2 hl2 hc2 ru p2=>?_
 refine Z3 hl2 hc2 p2 fun z w H3 O3 c3 e3 hl3 hc3 rw_ p3=>?_
 unfold qbz at p3
 cases q:yu y c3 with
 | none=>rw [q] at p3;exact p3.elim
 | some kk=>
  obtain ⟨k,ys⟩:=kk
  rw [q] at p3
  obtain ⟨a,us,ea,hO,ha,ru',hk⟩:=Ka hc3 (ru.mono e3) q
  cases rw_ with
  | int n=>
   simp only at p3
   cases q2:ixN ys.length n with
   | none=>rw [q2] at p3;exact p3.elim
   | some j=>
    rw [q2] at p3
    obtain ⟨ex,cx⟩:=hc3.setL hO (ru'.set ((rv.mono e2).mono e3) j)
    exact ⟨a,us,n,j,ea,rfl,ha,by rw [ru'.length];exact q2,p3 _ O3 ex cx σ (hl3.mono ex)⟩
  | _=>exact p3.elim
def qfp (i j:Nat) (ta tb:ED):SD:=fun l=>(ta l).bd fun x=>(tb l).bd fun y=>M.ret (.nx ((l.set i (some x)).set j (some y)))
def JC:List D->M D
 | [.int i,.int j]=>M.ret (.int (if j < i then j else i))
 | _=>M.stuck
def dB2 (f:List D->M D) (ta tb:ED):ED:=fun l=>(ta l).bd fun x=>(tb l).bd fun y=>f [x,y]
theorem qah {p2:Pos} (hcalm:X.calm=true) (hm:X.mg "min"=none) (ha:DE X E a ta) (hb:DE X E b tb) (hg:Gl X "min":=by rfl) (hst:starEach [a,b] X.env=[(false,eval a X.env),(false,eval b X.env)]:=by rfl) (hst2:starEach [b] X.env=[(false,eval b X.env)]:=by rfl):
  DE X E (.Call (.Name "min" p2) [a,b] [] pos) (dB2 JC ta tb):=by
 refine ⟨PE.imp (mj (id:="min") (uL hcalm) hg hm rfl (K1 ha.h (K1 hb.h qz hst2) (by rw [hst,hst2])) (by decide) (by decide) (by rw [hst,hst2]) (by rw [hst2];rfl)) fun σ H Q h=>?_⟩
 obtain ⟨O,l,c,hl,hc,p⟩:=h
 refine Z3 hl hc p fun x v H1 O1 c1 e1 hl1 hc1 rv p1=>?_
 refine Z3 hl1 hc1 p1 fun y u H2 O2 c2 e2 hl2 hc2 ru p2=>?_
 cases rv with
 | int i=>
  cases ru with
  | int j=>exact ⟨i,j,rfl,J4.ret p2 hc2 _ (.int _)⟩
  | _=>exact p2.elim
 | _=>exact p2.elim
end
end DL
namespace DL
open PySem PySem.Spec PySem.Builtin PySem.Builtin.Str L2
open PyProof.Rows hiding St
variable {X:Cx} {E:XK} {e:Expr} {te:ED} {pos:Pos}
theorem Ks (l u:Option Int) (n:Nat):strSliceIndices l u 1 n=(List.range (HT.sIx n n u - HT.sIx n 0 l)).map (HT.sIx n 0 l+·):=by
 obtain ⟨h1,h2,_⟩:=Zw l u n
 rw [← sliceRange_one,← h1,← h2]
 rfl
theorem fE (x:List Nat) (l u:Option Int):Txt.slice ⟨x.toArray⟩ l u=⟨(R5 x l u).toArray⟩:=by
 have hn:(⟨x.toArray⟩:Str).length=x.length:=by show x.toArray.size=_;simp
 unfold Txt.slice
 rw [hn,Ks]
 have hp:((List.range (HT.sIx x.length x.length u - HT.sIx x.length 0 l)).map (HT.sIx x.length 0 l+·)).filterMap ((⟨x.toArray⟩:Str).cps[·]?)=R5 x l u:=by
  rw [pick_run];rfl
 rw [hp]
 split
 ·rename_i h
  have h:HT.sIx x.length x.length u - HT.sIx x.length 0 l=x.length:=by simpa using h
  have hle:=HT.kN x.length x.length (Nat.le_refl _) u
  have h0:HT.sIx x.length 0 l=0:=by
   have:=HT.kN x.length 0 (Nat.zero_le _) l
   by_cases hx:x.length=0
   ·omega
   ·omega
  unfold R5
  rw [h,h0]
  simp
 ·rfl
def qfu:V->Option Int->Option Int->Hp->VK->Prop:=fun x lo hi H Q=>∃ a:List Nat,x=.str ⟨a.toArray⟩/\a.length<=1000000/\Q (.str ⟨(R5 a lo hi).toArray⟩) H
theorem qby:SlR X qfu:=by
 intro pins s σ H x v vl vu lo hi sl Q I rx hs pl pu h
 obtain ⟨a,rfl,ha,q⟩:=h
 obtain ⟨t,rfl⟩:=rx
 have hz:(⟨a.toArray⟩:Str).length<=sizeLine:=by
  show a.toArray.size<=sizeLine
  rw [List.size_toArray]
  exact Nat.le_trans ha (by decide)
 refine ⟨"str",_,F.slot_str_getitem.lookup,typeIs_str _ _ _,?_⟩
 have fin:∀ (l u:Option (Int×Tok)),l.map (·.1)=lo->u.map (·.1)=hi->(sliceMade ⟨a.toArray⟩ t l u none).post (EP X pins σ Q) s:=by
  intro l u h1 h2
  have hz':=Nat.le_trans (Txt.slice_le ⟨a.toArray⟩ lo hi) hz
  have e:Txt.slice ⟨a.toArray⟩ lo hi=⟨(R5 a lo hi).toArray⟩:=fE a lo hi
  have hw:∀ (t':Tok) (k:Nat),EP X pins σ Q (.str (Txt.slice ⟨a.toArray⟩ lo hi) t') { s with toks:=k }:=fun t' k=>by
   rw [e]
   exact ⟨.str ⟨(R5 a lo hi).toArray⟩,H,I.kept (t':=k) (h':=s.heap) fun b u q=>q,⟨t',rfl⟩,q⟩
  have z:=post_val_or_str (t:=t) ⟨hz',hw⟩
  unfold sliceMade slicePicked
  rw [h1,h2]
  exact z
 cases pl with
 | none=>cases pu with
  | none=>exact wpAny_getItem_str_slice (l:=none) (u:=none) (st:=none) hs rfl (fin none none rfl rfl)
  | int j tj=>exact wpAny_getItem_str_slice (l:=none) (u:=some (j,tj)) (st:=none) hs rfl (fin none (some (j,tj)) rfl rfl)
 | int i ti=>cases pu with
  | none=>exact wpAny_getItem_str_slice (l:=some (i,ti)) (u:=none) (st:=none) hs rfl (fin (some (i,ti)) none rfl rfl)
  | int j tj=>exact wpAny_getItem_str_slice (l:=some (i,ti)) (u:=some (j,tj)) (st:=none) hs rfl (fin (some (i,ti)) (some (j,tj)) rfl rfl)
def slS (d:D) (lo hi:Option Int):M D:=match d with
 | .str x=>if x.length<=1000000 then M.ret (.str (R5 x lo hi)) else M.stuck
 | d=>slM d lo hi
theorem gd {te:ED} {lo hi:Option Expr} {tl th:OD} {p2:Pos} (he:DE X E e te) (hl:DO X E lo tl) (hh:DO X E hi th):DE X E (.Subscript e (.Slice lo hi none p2) pos) (dSl slS te tl th):=by
 refine ⟨PE.imp (ZJ (qby.or (VQ.or qbx)) he.h hl.h hh.h) fun σ H Q h=>?_⟩
 obtain ⟨O,l,c,hl,hc,p⟩:=h
 refine Z3 hl hc p fun x v H1 O1 c1 e1 hl1 hc1 rv p1=>?_
 refine vE hl1 hc1 p1 fun lo H2 O2 c2 e2 hl2 hc2 p2=>?_
 refine vE hl2 hc2 p2 fun hi H3 O3 c3 e3 hl3 hc3 p3=>?_
 have rv:=(rv.mono e2).mono e3
 have p3:V2 X.K E H3 O3 Q (slS x lo hi c3):=p3
 cases rv with
 | str a=>
  simp only [slS] at p3
  by_cases z:a.length<=1000000
  ·rw [if_pos z] at p3
   exact .inl ⟨a,rfl,z,J4.ret p3 hc3 _ (.str _)⟩
  ·rw [if_neg z] at p3;exact p3.elim
 | @lst a vs xs h n r=>exact .inr (.inl ⟨a,vs,rfl,SqL.of h,fun q n=>V2.new p3 hc3 n (hc3.lstNew n (r.cut lo hi))⟩)
 | @scr a ns h=>exact .inr (.inl ⟨a,_,rfl,h.sq,fun q n=>V2.new p3 hc3 n (hc3.lstNew n (by rw [uF];exact Reps.ints _))⟩)
 | @hnd a k hk=>
  simp only [slS,slM] at p3
  cases z:c3[k]? with
  | none=>rw [z] at p3;exact p3.elim
  | some x=>
   rw [z] at p3
   cases x with
   | lst xs=>
    obtain ⟨a',vs,q1,q2,q3⟩:=hc3.at_ k _ z
    rw [hk] at q1;cases q1
    exact .inr (.inl ⟨a,vs,rfl,SqL.of q2,fun q n=>V2.new p3 hc3 n (hc3.lstNew n (q3.cut lo hi))⟩)
   | _=>exact p3.elim
 | @tup a vs xs h n r=>
  simp only [slS,slM] at p3
  by_cases z:HT.sIx xs.length 0 lo=0/\HT.sIx xs.length xs.length hi=xs.length
  ·rw [if_pos z] at p3;exact p3.elim
  ·rw [if_neg z] at p3
   exact .inr (.inr ⟨a,vs,rfl,SqT.of h,by rw [r.length];exact z,fun q n=>V2.new p3 hc3 n (hc3.tupNew n (r.cut lo hi))⟩)
 | _=>exact p3.elim
theorem Reps.rev {K:Frag} {H:Hp} {O:Ow} {vs:List V} {xs:List D} (r:Reps K H O vs xs):Reps K H O vs.reverse xs.reverse:=by
 induction vs generalizing xs with
 | nil=>cases r;exact .nil
 | cons v vs ih=>
  cases r with
  | cons h t=>
   rw [List.reverse_cons,List.reverse_cons]
   exact (ih t).append (.cons h .nil)
def qd5 (d:D):M D:=fun c=>match jn d c with
 | some xs=>some (.ok (.lst xs.reverse) c)
 | none=>none
def qf0 (te:ED) (ts:OD):ED:=fun l=>(te l).bd fun d=>(ts l).bd fun s=>if s=some (-1) then qd5 d else M.stuck
open PyProof.Rows hiding St
theorem zV {α:Type} {xs:List α} {i:Int} (h0:0<=i) (h1:i < xs.length):atI xs i=xs[i.toNat]?:=by
 unfold atI ixN
 rw [if_pos h0,if_pos h1]
 rfl
theorem jM (lo:Int) (n:Nat):W5 lo (n+1)=.int lo::W5 (lo+1) n:=by
 unfold W5
 rw [List.range_succ_eq_map,List.map_cons,List.map_map]
 congr 1
 ·simp
 ·refine List.map_congr_left fun k _=>?_
  simp only [Function.comp,D.int.injEq]
  omega
theorem JY (h:∀ x∈xs,eqD x x=true):vg xs xs=true:=by
 induction xs with
 | nil=>rfl
 | cons x xs ih=>simp [vg,h x (by simp),ih fun y hy=>h y (by simp [hy])]
theorem Q6 {a b:SD} {l l':L} {c c':List Cell} (h:a l c=some (.ok (.nx l') c')):Z4 a b l c=b l' c':=by
 unfold Z4 M.bd
 simp only [h]
theorem xt {a b:SD} {l:L} {c c':List Cell} {d:D} (h:a l c=some (.ok (.ret d) c')):Z4 a b l c=some (.ok (.ret d) c'):=by
 unfold Z4 M.bd
 simp only [h]
 rfl
def Bk:Nat:=100000
open PyProof.Rows hiding St
variable {X:Cx} {E:XK} {a e:Expr} {ta te:ED} {pos:Pos}
structure Ord {α:Type} (lt:α->α->Bool):Prop where
 tr:∀ a b c,lt b a=false->lt c b=false->lt c a=false
 tot:∀ a b,lt a b=true->lt b a=false
 anti:∀ a b,lt a b=false->lt b a=false->a=b
def mX {α:Type} (lt:α->α->Bool) (x:α):List α->List α
 | []=>[x]
 | y::ys=>if lt y x=true then y::mX lt x ys else x::y::ys
def fb {α:Type} (lt:α->α->Bool):List α->List α
 | []=>[]
 | x::xs=>mX lt x (fb lt xs)
theorem Yy {α:Type} (lt:α->α->Bool) (x:α):∀ ys:List α,(mX lt x ys).Perm (x::ys)
 | []=>.refl _
 | y::ys=>by
  unfold mX
  split
  ·exact ((Yy lt x ys).cons y).trans (.swap x y ys)
  ·exact .refl _
theorem qr {α:Type} (lt:α->α->Bool):∀ xs:List α,(fb lt xs).Perm xs
 | []=>.refl _
 | x::xs=>(Yy lt x _).trans ((qr lt xs).cons x)
abbrev Asc {α:Type} (lt:α->α->Bool):List α->Prop:=List.Pairwise fun a b=>lt b a=false
theorem vL {α:Type} {lt:α->α->Bool} (o:Ord lt) (x:α):∀ {ys:List α},Asc lt ys->Asc lt (mX lt x ys)
 | [],_=>List.pairwise_singleton _ _
 | y::ys,h=>by
  obtain ⟨h1,h2⟩:=List.pairwise_cons.mp h
  unfold mX
  split
  ·rename_i z
   refine List.pairwise_cons.mpr ⟨fun b hb=>?_,vL o x h2⟩
   rcases List.mem_cons.mp ((Yy lt x ys).mem_iff.mp hb) with q | q
   ·rw [q];exact o.tot _ _ z
   ·exact h1 b q
  ·rename_i z
   have z:lt y x=false:=by simpa using z
   refine List.pairwise_cons.mpr ⟨fun b hb=>?_,h⟩
   rcases List.mem_cons.mp hb with q | q
   ·rw [q];exact z
   ·exact o.tr _ _ _ z (h1 b q)
theorem uo {α:Type} {lt:α->α->Bool} (o:Ord lt):∀ xs:List α,Asc lt (fb lt xs)
 | []=>List.Pairwise.nil
 | x::xs=>vL o x (uo o xs)
theorem Kn {α:Type} {lt:α->α->Bool} (o:Ord lt):∀ {xs ys:List α},xs.Perm ys->Asc lt xs->Asc lt ys->xs=ys
 | [],ys,p,_,_=>(List.perm_nil.mp p.symm).symm
 | x::xs,[],p,_,_=>by have:=p.length_eq;simp at this
 | x::xs,y::ys,p,h1,h2=>by
  have e:x=y:=by
   rcases List.mem_cons.mp (p.mem_iff.mp (List.mem_cons_self ..)) with q | q
   ·exact q
   ·rcases List.mem_cons.mp (p.mem_iff.mpr (List.mem_cons_self ..)) with q2 | q2
    ·exact q2.symm
    ·exact o.anti _ _ ((List.pairwise_cons.mp h2).1 x q) ((List.pairwise_cons.mp h1).1 y q2)
  subst e
  rw [Kn o (List.perm_cons x |>.mp p) (List.pairwise_cons.mp h1).2 (List.pairwise_cons.mp h2).2]
theorem QL {α:Type} {lt:α->α->Bool} (o:Ord lt) {xs ys:List α} (p:ys.Perm xs) (h:Asc lt ys):ys=fb lt xs:=Kn o (p.trans (qr lt xs).symm) h (uo o xs)
theorem Bb {α:Type} {lt:α->α->Bool} {x:α} {xs:List α}:x∈fb lt xs↔x∈xs:=(qr lt xs).mem_iff
theorem Jm {α:Type} (lt:α->α->Bool) (xs:List α):(fb lt xs).length=xs.length:=(qr lt xs).length_eq
theorem qW:Ord ltL where
 tr:=fun a b c h1 h2=>by
  simp only [ltL,decide_eq_false_iff_not] at *
  exact List.le_trans (l₁:=a) (l₂:=b) (l₃:=c) h1 h2
 tot:=fun a b h=>by
  simp only [ltL,decide_eq_true_eq,decide_eq_false_iff_not] at *
  exact List.lt_asymm h
 anti:=fun a b h1 h2=>by
  simp only [ltL,decide_eq_false_iff_not] at *
  exact List.le_antisymm (as:=a) (bs:=b) h2 h1
theorem Ko {α:Type} {lt:α->α->Bool} (o:Ord lt) {xs:List α} (h:Asc lt xs) (n:xs.Nodup):xs.Pairwise fun a b=>lt a b=true:=by
 refine (h.and n).imp fun {a b} q=>?_
 cases z:lt a b with
 | true=>rfl
 | false=>exact absurd (o.anti a b z q.1) q.2
theorem Xq:∀ (p:List Nat) (l:List (List Nat)),risingS ⟨p.toArray⟩ (l.map fun x=>⟨x.toArray⟩)=true->Asc ltL (p::l)
 | p,[],_=>List.pairwise_singleton _ _
 | p,x::r,h=>by
  simp only [List.map_cons,risingS,Bool.and_eq_true,Bool.not_eq_true'] at h
  rw [ltCps_eq] at h
  have ih:=Xq x r h.2
  have h1:ltL x p=false:=h.1
  refine List.pairwise_cons.mpr ⟨fun b hb=>?_,ih⟩
  rcases List.mem_cons.mp hb with q | q
  ·rw [q];exact h1
  ·exact qW.tr _ _ _ h1 ((List.pairwise_cons.mp ih).1 b q)
theorem jC:∀ (l:List (List Nat)),sortedS (l.map fun x=>⟨x.toArray⟩)=true->Asc ltL l
 | [],_=>List.Pairwise.nil
 | p::l,h=>Xq p l h
theorem kH {xs:List (List Nat)}:∀ {us:List Value},Y4 (xs.map fun x=>V.str ⟨x.toArray⟩) us->StrsAre us (xs.map fun x=>⟨x.toArray⟩):=by
 induction xs with
 | nil=>intro us r;rw [List.map_nil] at r;cases r;exact .nil
 | cons n ns ih=>
  intro us r
  rw [List.map_cons] at r
  cases r with
  | cons r1 r2=>
   obtain ⟨t,e⟩:=r1
   subst e
   exact .cons _ t (ih r2)
theorem Gk:∀ {ss:List Str} {us:List Value},StrsAre us ss->Y4 (ss.map V.str) us
 | _,_,.nil=>.nil
 | _,_,.cons y t r=>.cons ⟨t,rfl⟩ (Gk r)
def qbv (x:List Nat):Str:=⟨x.toArray⟩
theorem fP (s:Str):qbv s.cps.toList=s:=by cases s;simp [qbv]
theorem xB:D6 X (.builtin "sorted") (fun vs H Q=>∃ (a:Addr) (xs:List (List Nat)),vs=[.ref a]/\SqL X.K H a (xs.map fun x=>V.str ⟨x.toArray⟩)/\xs.length < 64/\∀ l,H l=none->Q (.ref l) (upd H l (.lst ((fb ltL xs).map fun x=>V.str ⟨x.toArray⟩)))):=by
 intro pins s σ H xs us Q I r h
 obtain ⟨a,xs,rfl,ha,h64,q⟩:=h
 obtain ⟨u,rfl,rx⟩:=fh r
 cases rx
 obtain ⟨its,rv,pl,hz⟩:=I.list ha
 have hlen:=rv.length
 rw [List.length_map] at hlen
 refine sorted_strs pl.isList (kH rv) (by omega) fun out ss' h1 h2 h3=>?_
 obtain ⟨e,he⟩:=sortedAll_at s.heap its out
 have ess:ss'=(ss'.map fun s:Str=>s.cps.toList).map qbv:=by
  rw [List.map_map]
  conv=>lhs;rw [← List.map_id ss']
  exact List.map_congr_left fun s _=>(fP s).symm
 have hp:(ss'.map fun s:Str=>s.cps.toList).Perm xs:=by
  have:=h2.map fun s:Str=>s.cps.toList
  rw [List.map_map] at this
  have e2:xs.map ((fun s:Str=>s.cps.toList) ∘ fun x:List Nat=>(⟨x.toArray⟩:Str))=xs:=by
   conv=>rhs;rw [← List.map_id xs]
   exact List.map_congr_left fun x _=>by simp
  rwa [e2] at this
 have hs:Asc ltL (ss'.map fun s:Str=>s.cps.toList):=jC _ (by rw [ess] at h3;exact h3)
 have hq:=QL qW hp hs
 have hv:=Gk h1
 rw [ess,hq,List.map_map] at hv
 refine ⟨.ref _,_,I.laid (t':=s.toks) (h':=sortedAll s.heap its out) (o:=.lst ((fb ltL xs).map fun x=>V.str ⟨x.toArray⟩)) (fun _ _=>sortedAll_old) (Nat.le_succ _) ?_,rfl,q _ (I.hok.fresh (Nat.le_succ _))⟩
 refine ⟨by rw [List.length_map,Jm];rw [List.length_map] at hz;exact hz,out.toList,e,hv,?_⟩
 rw [he]
def fz:List D->Option (List (List Nat))
 | []=>some []
 | .str b::r=>(fz r).map (b::·)
 | _=>none
theorem Gr:∀ {ds:List D} {ns:List (List Nat)},fz ds=some ns->ds=ns.map .str
 | [],ns,h=>by cases h;rfl
 | d::ds,ns,h=>by
  cases d with
  | str n=>
   simp only [fz] at h
   cases z:fz ds with
   | none=>rw [z] at h;cases h
   | some ms=>rw [z] at h;cases h;rw [Gr z];rfl
  | _=>cases h
theorem Xd (xs:List (List Nat)):fz (xs.map D.str)=some xs:=by
 induction xs with
 | nil=>rfl
 | cons x xs ih=>simp [fz,ih]
theorem Gy {K:Frag} {H:Hp} {O:Ow}:∀ {vs:List V} {xs:List (List Nat)},Reps K H O vs (xs.map .str)->vs=xs.map fun x=>V.str ⟨x.toArray⟩
 | _,[],.nil=>rfl
 | _,x::xs,.cons h t=>by cases h;rw [Gy t];rfl
theorem Reps.strs {K:Frag} {H:Hp} {O:Ow}:∀ (xs:List (List Nat)),Reps K H O (xs.map fun x=>V.str ⟨x.toArray⟩) (xs.map .str)
 | []=>.nil
 | x::xs=>.cons (.str x) (Reps.strs xs)
def Gu (d:D):M D:=fun c=>match jn d c with
 | some xs=>match fz xs with
  | some ss=>if ss.length < 64 then some (.ok (.lst ((fb ltL ss).map .str)) c) else none
  | none=>none
 | none=>none
theorem Bu {p2:Pos} (hm:X.mg "sorted"=none) (ha:DE X E a ta) (hg:Gl X "sorted":=by rfl) (hst:starEach [a] X.env=[(false,eval a X.env)]:=by rfl):DE X E (.Call (.Name "sorted" p2) [a] [] pos) (d1 Gu ta):=
 vZ xB (fun H O c d v Q hc r p=>by
  unfold Gu at p
  cases z:jn d c with
  | none=>rw [z] at p;exact p.elim
  | some xs=>
   rw [z] at p
   simp only at p
   cases z2:fz xs with
   | none=>rw [z2] at p;exact p.elim
   | some ss=>
    rw [z2] at p
    simp only at p
    by_cases h:ss.length < 64
    ·rw [if_pos h] at p
     obtain ⟨a,vs,e,hq,rs⟩:=ur hc r z
     have e1:=Gr z2
     subst e1
     have e2:=Gy rs
     subst e2
     exact ⟨a,ss,by rw [e],SqL.of hq,h,fun q n=>V2.new p hc n (hc.lstNew n (Reps.strs _))⟩
    ·rw [if_neg h] at p;exact p.elim) hm ha (hg:=hg) (hst:=hst)
open PyProof.Rows hiding St
def Wj (tb:SD) (N:List Str) (ds:List D) (c:List Cell) (d:D):Prop:=
 (∃ ex,tb (Z1 N ds) c=some (.ok (.ret d) (c++ex))/\D.bel c.length d=true)\/
 (∃ i xs ex,d=.lst xs/\tb (Z1 N ds) c=some (.ok (.ret (.hnd i)) (c++ex))/\c.length<=i/\(c++ex)[i]?=some (.lst xs)/\D.bels c.length xs=true)
theorem Wj.val {tb:SD} {N:List Str} {ds:List D} {c:List Cell} {d:D} (ex:List Cell) (h:tb (Z1 N ds) c=some (.ok (.ret d) (c++ex))) (b:D.bel c.length d=true):Wj tb N ds c d:=.inl ⟨ex,h,b⟩
theorem Wj.same {tb:SD} {N:List Str} {ds:List D} {c:List Cell} {d:D} (h:tb (Z1 N ds) c=some (.ok (.ret d) c)) (b:D.bel c.length d=true:=by rfl):Wj tb N ds c d:=.inl ⟨[],by rw [List.append_nil];exact h,b⟩
theorem Wj.lst {tb:SD} {N:List Str} {ds:List D} {c:List Cell} {xs:List D} (i:Nat) (ex:List Cell) (h:tb (Z1 N ds) c=some (.ok (.ret (.hnd i)) (c++ex))) (hi:c.length<=i) (hx:(c++ex)[i]?=some (.lst xs)) (b:D.bels c.length xs=true):Wj tb N ds c (.lst xs):=.inr ⟨i,xs,ex,rfl,h,hi,hx,b⟩
open Classical in
def gR (tb:SD) (N:List Str) (P:List D->D->Prop):FD:=fun ds c=>if h:∃ d,P ds d/\Wj tb N ds c d then some (.ok (Classical.choose h) c) else none
theorem xX {tb:SD} {N:List Str} {P:List D->D->Prop} {n:Nat}:∀ ds c r,ds.length=n->gR tb N P ds c=some r->∃ d c1,r=.ok d c1/\Fin c (tb (Z1 N ds) c) (some (.ok d c1)):=by
 intro ds c r hl e
 unfold gR at e
 split at e
 ·rename_i h
  cases e
  refine ⟨_,c,rfl,?_⟩
  rcases (Classical.choose_spec h).2 with ⟨ex,h1,h2⟩ | ⟨i,xs,ex,h0,h1,h2,h3,h4⟩
  ·rw [h1]
   have:=Fin.val (c:=c) h2 (R6.app c ex)
   rw [List.take_left] at this
   exact this
  ·rw [h1,h0]
   have:=Fin.frz (c:=c) h2 h3 h4 (R6.app c ex)
   rw [List.take_left] at this
   exact this
 ·cases e
theorem zR {tb:SD} {N:List Str} {P:List D->D->Prop} {n:Nat} {ds:List D} {c:List Cell} (hl:ds.length=n) (h:∃ d,P ds d/\Wj tb N ds c d):∃ d,P ds d/\gN n (gR tb N P) ds c=some (.ok d c):=by
 refine ⟨Classical.choose h,(Classical.choose_spec h).1,?_⟩
 unfold gN gR
 rw [if_pos hl,dif_pos h]
theorem C6 {chk:List Cell->Prop} {g:GD} {body:SD} (I:List D->L->List Cell->Prop)
  (step:∀ x r l c,I (x::r) l c->chk c/\∃ l1,g x l=some l1/\∃ l2 c2,(body l1 c=some (.ok (.nx l2) c2)\/body l1 c=some (.ok (.ct l2) c2))/\I r l2 c2) (stop:∀ l c,I [] l c->chk c):
  ∀ xs l c,I xs l c->∃ l' c',vf chk g body xs l c=some (.ok (.nx l') c')/\I [] l' c'
 | [],l,c,h=>⟨l,c,by simp [vf,stop l c h],h⟩
 | x::r,l,c,h=>by
  obtain ⟨hk,l1,h1,l2,c2,h2,h3⟩:=step x r l c h
  obtain ⟨l',c',h4,h5⟩:=C6 I step stop r l2 c2 h3
  refine ⟨l',c',?_,h5⟩
  simp only [vf,hk,if_true,h1]
  rcases h2 with h2 | h2
  ·rw [Z9 h2];exact h4
  ·rw [Z9 h2];exact h4
theorem my {g:GD} {body:SD} (lo:Int) (n:Nat) (I:Nat->L->List Cell->Prop)
  (step:∀ k l c,k < n->I k l c->∃ l1,g (.int (lo+(k:Nat))) l=some l1/\∃ l2 c2,(body l1 c=some (.ok (.nx l2) c2)\/body l1 c=some (.ok (.ct l2) c2))/\I (k+1) l2 c2) {l:L} {c:List Cell} (h:I 0 l c):
  ∃ l' c',vf (fun _=>True) g body (W5 lo n) l c=some (.ok (.nx l') c')/\I n l' c':=by
 obtain ⟨l',c',h1,h2⟩:=C6 (chk:=fun _=>True) (g:=g) (body:=body) (fun xs l c=>∃ k,k<=n/\xs=W5 (lo+(k:Nat)) (n - k)/\I k l c) (fun x r l c ⟨k,hk,e,hI⟩=>by
  refine ⟨trivial,?_⟩
  cases z:n - k with
  | zero=>rw [z] at e;cases e
  | succ m=>
   rw [z,jM] at e
   cases e
   obtain ⟨l1,h1,l2,c2,h2,h3⟩:=step k l c (by omega) hI
   refine ⟨l1,h1,l2,c2,h2,k+1,by omega,?_,h3⟩
   have e1:n - (k+1)=m:=by omega
   have e2:lo+((k+1:Nat):Int)=lo+(k:Int)+1:=by omega
   rw [e1,e2]) (fun _ _ _=>trivial) (W5 lo n) l c ⟨0,Nat.zero_le _,by simp,h⟩
 obtain ⟨k,hk,e,hI⟩:=h2
 have hz:n - k=0:=by
  have:=congrArg List.length e
  simp [W5] at this
  omega
 have:k=n:=by omega
 subst this
 exact ⟨l',c',h1,hI⟩
open PyProof.Rows hiding St
def U4:D->Bool
 | .tup [.int _,.str _,.str _,.int _]=>true
 | _=>false
theorem T6 {d:D} (h:U4 d=true):∃ n p q r,d=.tup [.int n,.str p,.str q,.int r]:=by
 unfold U4 at h
 split at h
 ·exact ⟨_,_,_,_,rfl⟩
 ·cases h
theorem mh {xs:List D} (k:Nat) (h:xs.all U4=true):D.bels k xs=true:=by
 induction xs with
 | nil=>rfl
 | cons x xs ih=>
  simp only [List.all_cons,Bool.and_eq_true] at h
  obtain ⟨n,p,q,r,rfl⟩:=T6 h.1
  simp [D.bels,D.bel,ih h.2]
theorem VZ {xs:List D} (h:xs.all U4=true):vg xs xs=true:=JY fun x hx=>by
 obtain ⟨n,p,q,r,rfl⟩:=T6 (List.all_eq_true.mp h x hx)
 simp [eqD,vg]
theorem Gw {xs:List D} (h:xs.all U4=true):xs.all (J6 19)=true:=List.all_eq_true.mpr fun x hx=>by
 obtain ⟨n,p,q,r,rfl⟩:=T6 (List.all_eq_true.mp h x hx)
 simp [J6]
def Zs (rows:List D) (p q:List Nat):Prop:=∃ n r,D.tup [.int n,.str p,.str q,.int r]∈rows
inductive Reach (rows:List D) (one:List Nat):List Nat->Prop where
 | refl:Reach rows one one
 | fwd {p q:List Nat} (h:Reach rows one p) (e:Zs rows p q):Reach rows one q
 | bwd {p q:List Nat} (h:Reach rows one q) (e:Zs rows p q):Reach rows one p
def qf3 (rows:List D) (zs:List (List Nat)):Prop:=∀ p q,Zs rows p q->(p∈zs↔q∈zs)
theorem QN {rows:List D} {one:List Nat} {zs:List (List Nat)} (h1:one∈zs) (h2:qf3 rows zs) {x:List Nat} (h:Reach rows one x):x∈zs:=by
 induction h with
 | refl=>exact h1
 | fwd _ e ih=>exact (h2 _ _ e).mp ih
 | bwd _ e ih=>exact (h2 _ _ e).mpr ih
def ends:List D->List (List Nat)
 | []=>[]
 | .tup [_,.str p,.str q,_]::r=>p::q::ends r
 | _::r=>ends r
theorem vQ:∀ rows:List D,(ends rows).length<=2 * rows.length
 | []=>by simp [ends]
 | d::r=>by
  have ih:=vQ r
  unfold ends
  split
  ·rename_i h;cases h
  ·rename_i h;cases h;simp;omega
  ·rename_i h;cases h;simp;omega
theorem Jj {n r:Int} {p q:List Nat}:∀ {rows:List D},D.tup [.int n,.str p,.str q,.int r]∈rows->p∈ends rows/\q∈ends rows
 | [],h=>by cases h
 | d::rows,h=>by
  rcases List.mem_cons.mp h with e | e
  ·subst e;simp [ends]
  ·have ih:=Jj e
   unfold ends
   split
   ·rename_i z;cases z
   ·rename_i z;cases z;exact ⟨by simp [ih.1],by simp [ih.2]⟩
   ·rename_i z;cases z;exact ih
def xj (rows:List D) (zs:List (List Nat)):Nat:=((ends rows).filter fun x=>!decide (x∈zs)).length
theorem Bn {α:Type} {f g:α->Bool} (h:∀ x,f x=true->g x=true):∀ xs:List α,(xs.filter f).length<=(xs.filter g).length
 | []=>Nat.le_refl _
 | x::xs=>by
  have ih:=Bn h xs
  cases z:f x with
  | true=>simp [z,h x z];exact ih
  | false=>cases z2:g x <;> simp [z,z2] <;> omega
theorem Bm {α:Type} {f g:α->Bool} (h:∀ x,f x=true->g x=true) {y:α} (hy:f y=false) (hy2:g y=true):∀ {xs:List α},y∈xs->(xs.filter f).length < (xs.filter g).length
 | x::xs,m=>by
  rcases List.mem_cons.mp m with e | e
  ·subst e
   have:=Bn h xs
   simp [hy,hy2];omega
  ·have ih:=Bm h hy hy2 e
   cases z:f x with
   | true=>simp [z,h x z];exact ih
   | false=>cases z2:g x <;> simp [z,z2] <;> omega
theorem Gn {rows:List D} {zs:List (List Nat)} {x:List Nat} (h:x∈ends rows) (n:x∉zs):xj rows (zs++[x]) < xj rows zs:=
 Bm (fun y hy=>by
  simp only [Bool.not_eq_true',decide_eq_false_iff_not,List.mem_append,not_or] at hy ⊢
  exact hy.1) (by simp) (by simpa using n) h
theorem Gp (rows:List D) (zs:List (List Nat)):xj rows zs<=2 * rows.length:=Nat.le_trans (List.length_filter_le _ _) (vQ rows)
open PyProof.Rows hiding St
section
variable {X:Cx} {E:XK} {a e o value:Expr} {ta te to:ED} {pos pos' apos:Pos} {C f:Addr} {fl m:Str}
def O0 (C:Addr) (o:D) (c:List Cell):Option (Nat×List (Str×D)):=match o with
 | .hnd k=>match c[k]? with
  | some (.ins C' fs)=>if C'=C then some (k,fs) else none
  | _=>none
 | _=>none
theorem yv {H:Hp} {O:Ow} {c:List Cell} {v:V} {d:D} {k:Nat} {fs:List (Str×D)} (hc:Cells X.K H O c) (r:Rep X.K H O v d) (h:O0 C d c=some (k,fs)):
  ∃ a dx us,v=.ref a/\d=.hnd k/\O[k]?=some (some a)/\H a=some (.ins C dx us)/\qp X.K H O us fs/\c[k]?=some (.ins C fs):=by
 cases r with
 | @hnd a j hj=>
  simp only [O0] at h
  cases z:c[j]? with
  | none=>rw [z] at h;cases h
  | some x=>
   rw [z] at h
   cases x with
   | ins C' gs=>
    simp only at h
    split at h
    ·rename_i e
     subst e
     simp only [Option.some.injEq,Prod.mk.injEq] at h
     obtain ⟨rfl,rfl⟩:=h
     obtain ⟨a',dx,us,q1,q2,q3⟩:=hc.at_ _ _ z
     rw [hj] at q1;cases q1
     exact ⟨a,dx,us,rfl,rfl,hj,q2,q3,z⟩
    ·cases h
   | _=>cases h
 | _=>cases h
theorem qp.lookup {K:Frag} {H:Hp} {O:Ow}:∀ {us:List (Str×V)} {fs:List (Str×D)} {d:D},qp K H O us fs->fs.lookup fl=some d->∃ v,us.lookup fl=some v/\Rep K H O v d
 | [],[],d,_,h=>by cases h
 | [],_::_,_,h,_=>by cases h.1
 | _::_,[],_,h,_=>by cases h.1
 | (x,v)::us,(y,b)::fs,d,h,hl=>by
  obtain ⟨h1,h2⟩:=h
  simp only [List.map_cons,List.cons.injEq] at h1
  obtain ⟨rfl,h1⟩:=h1
  simp only [List.map_cons] at h2
  cases h2 with
  | cons r1 r2=>
   rw [List.lookup_cons] at hl ⊢
   split at hl
   ·cases hl;exact ⟨v,rfl,r1⟩
   ·exact qp.lookup ⟨h1,r2⟩ hl
theorem qp.lookup_none {K:Frag} {H:Hp} {O:Ow}:∀ {us:List (Str×V)} {fs:List (Str×D)},qp K H O us fs->fs.lookup fl=none->us.lookup fl=none
 | [],_,_,_=>rfl
 | _::_,[],h,_=>by cases h.1
 | (x,v)::us,(y,b)::fs,h,hl=>by
  obtain ⟨h1,h2⟩:=h
  simp only [List.map_cons,List.cons.injEq] at h1
  obtain ⟨rfl,h1⟩:=h1
  simp only [List.map_cons] at h2
  cases h2 with
  | cons r1 r2=>
   rw [List.lookup_cons] at hl ⊢
   split at hl
   ·cases hl
   ·exact qp.lookup_none ⟨h1,r2⟩ hl
def jQ (f:Str) (v:D):List (Str×D)->List (Str×D)
 | []=>[(f,v)]
 | (g,x)::r=>if g=f then (g,v)::r else (g,x)::jQ f v r
theorem qp.put {K:Frag} {H:Hp} {O:Ow} {v:V} {d:D} (r:Rep K H O v d):∀ {us:List (Str×V)} {fs:List (Str×D)},qp K H O us fs->qp K H O (wy fl v us) (jQ fl d fs)
 | [],[],_=>⟨rfl,.cons r .nil⟩
 | [],_::_,h=>by cases h.1
 | _::_,[],h=>by cases h.1
 | (x,w)::us,(y,b)::fs,h=>by
  obtain ⟨h1,h2⟩:=h
  simp only [List.map_cons,List.cons.injEq] at h1
  obtain ⟨rfl,h1⟩:=h1
  simp only [List.map_cons] at h2
  cases h2 with
  | cons r1 r2=>
   unfold wy jQ
   split
   ·exact ⟨by simp [h1],.cons r r2⟩
   ·obtain ⟨i1,i2⟩:=qp.put r (us:=us) (fs:=fs) ⟨h1,r2⟩
    exact ⟨by simp [i1],.cons r1 i2⟩
theorem qp.length {K:Frag} {H:Hp} {O:Ow} {us:List (Str×V)} {fs:List (Str×D)} (h:qp K H O us fs):us.length=fs.length:=by
 have:=congrArg List.length h.1
 simpa using this
def zg (C:Addr) (fl:Str) (o:D):M D:=fun c=>match O0 C o c with
 | some (_,fs)=>match fs.lookup fl with
  | some d=>some (.ok d c)
  | none=>none
 | none=>none
theorem jv (C:Addr) (hC:Cls X.K C) (hN:zj X.K C fl) (ho:DE X E o to) (hb:attributeBase o fl X.env (eval o X.env)=eval o X.env:=by rfl):DE X E (.Attribute o fl pos) (d1 (zg C fl) to):=by
 refine ⟨PE.imp (qcg ho.h hb) fun σ H Q h=>?_⟩
 obtain ⟨O,l,c,hl,hc,p⟩:=h
 refine Z3 hl hc p fun x v H1 O1 c1 e1 hl1 hc1 rv p1=>?_
 unfold zg at p1
 cases z:O0 C x c1 with
 | none=>rw [z] at p1;exact p1.elim
 | some q=>
  obtain ⟨k,fs⟩:=q
  rw [z] at p1
  simp only at p1
  obtain ⟨a,dx,us,rfl,_,hO,ha,hf,hk⟩:=yv hc1 rv z
  cases z2:fs.lookup fl with
  | none=>rw [z2] at p1;exact p1.elim
  | some d=>
   rw [z2] at p1
   obtain ⟨w,hw,rw_⟩:=hf.lookup z2
   exact ⟨a,C,dx,us,w,rfl,ha,hC,hN,hw,V2.ok p1 hc1 rw_⟩
def QQ (C:Addr) (fl:Str) (o v:D) (l:L):M Fl:=fun c=>match O0 C o c with
 | some (k,fs)=>if fs.length < 1000 then some (.ok (.nx l) (c.set k (.ins C (jQ fl v fs)))) else none
 | none=>none
def Gv (C:Addr) (fl:Str) (to te:ED):SD:=fun l=>(te l).bd fun v=>(to l).bd fun o=>QQ C fl o v l
theorem gT (C:Addr) (hC:Cls X.K C) (hN:zj X.K C fl) (ho:DE X E o to) (he:DE X E value te) (hs:swapsWith value (some (.Attribute o fl pos')) pos.line X.env=pure false:=by rfl):DS X E (.Assign [.Attribute o fl pos'] value pos) (Gv C fl to te):=by
 refine ⟨PS.imp (qb7 ho.h he.h hs) fun Dn σ H h=>?_⟩
 obtain ⟨O,l,c,hl,hc,p⟩:=h
 refine Z3 hl hc p fun y w H1 O1 c1 e1 hl1 hc1 ry p1=>?_
 refine Z3 hl1 hc1 p1 fun x v H2 O2 c2 e2 hl2 hc2 rv p2=>?_
 unfold QQ at p2
 cases z:O0 C x c2 with
 | none=>rw [z] at p2;exact p2.elim
 | some q=>
  obtain ⟨k,fs⟩:=q
  rw [z] at p2
  simp only at p2
  obtain ⟨a,dx,us,rfl,_,hO,ha,hf,hk⟩:=yv hc2 rv z
  by_cases hlen:fs.length < 1000
  ·rw [if_pos hlen] at p2
   obtain ⟨ex,cx⟩:=hc2.setC (o:=.ins C dx (wy fl w us)) (x:=.ins C (jQ fl y fs)) hO (fun ex=>⟨a,dx,_,hO,Y5 .. ,by
    have hq:=qp.put (fl:=fl) (ry.mono e2) hf
    exact ⟨hq.1,hq.2.mono ex⟩⟩)
   exact ⟨a,C,dx,us,rfl,ha,hC,hN,by rw [hf.length];exact hlen,p2 _ O2 ex cx σ (hl2.mono ex)⟩
  ·rw [if_neg hlen] at p2;exact p2.elim
end
section
variable {X:Cx} {E:XK} {e o:Expr} {to:ED} {pos apos:Pos} {C f:Addr} {m x:Str} {es:List Expr} {t:AD} {CX:CXT} {k n:Nat} {fd:FuncData} {ps:List Str} {g:FD} {dvs:List V} {dds:List D} {ds:List Value} {p:Pos}
def N0 (C:Addr) (m:Str) (n:Nat) (g:FD) (dds:List D) (to:ED) (t:AD):ED:=fun l=>(to l).bd fun o c=>match O0 C o c with
 | some (_,fs)=>if fs.lookup m=none then ((t l).bd fun xs=>gN n g (o::(xs++dds))) c else none
 | none=>none
theorem vi {pl:Sem Bool} (C:Addr) (ho:DE X E o to) (hC:Cls X.K C) (hm:Meth X.K C m f) (F:FnOk X.prog X.w X.K X.mg X.base CX k f fd ps (spD X.K n g)) (hr:Room k X.A) (hb:Y6 X.K fd ps ds) (hd:Y4 dvs ds) (rd:∀ H O,Reps X.K H O dvs dds) (hx:C0 CX X E) (ha:DA X E (e::es) t)
  (hst:starEach (e::es) X.env=(false,eval e X.env)::starEach es X.env:=by rfl) (hpl:(backTo pos (starEach es X.env)).any (·.1)=false:=by rfl)
  (ht:eval (.Call (.Attribute o m apos) (e::es) [] pos) X.env=(do
   let ov ← eval o X.env
   standAt apos.atName
   let (f,first) ← holding [ov] (getMethod ov m pl)
   callWith pos f first (backTo pos (starEach (e::es) X.env)) (backToKw pos (keywordEach [] X.env))):=by rfl):
  DE X E (.Call (.Attribute o m apos) (e::es) [] pos) (N0 C m n g dds to t):=by
 refine ⟨PE.imp (WL ho.h hC hm F hr hb hd hx ha.h hst hpl ht) fun σ H Q h=>?_⟩
 obtain ⟨O,l,c,hl,hc,p⟩:=h
 refine Z3 hl hc p fun x v H1 O1 c1 e1 hl1 hc1 rv p1=>?_
 cases z:O0 C x c1 with
 | none=>rw [z] at p1;exact p1.elim
 | some q=>
  obtain ⟨k,fs⟩:=q
  rw [z] at p1
  simp only at p1
  obtain ⟨a,dx,us,rfl,_,hO,ha,hf,hk⟩:=yv hc1 rv z
  by_cases hn:fs.lookup m=none
  ·rw [if_pos hn] at p1
   refine ⟨a,dx,us,rfl,ha,hf.lookup_none hn,?_⟩
   refine C3 hl1 hc1 p1 fun xs vs H2 O2 c2 e2 hl2 hc2 rv2 p2=>?_
   exact Jp (.cons (rv.mono e2) (rv2.append (rd _ _))) hc2 p2
  ·rw [if_neg hn] at p1;exact p1.elim
theorem yq {pl:Sem Bool} (C:Addr) (ho:DE X E o to) (hC:Cls X.K C) (hm:Meth X.K C m f) (F:FnOk X.prog X.w X.K X.mg X.base CX k f fd ps (spD X.K n g)) (hr:Room k X.A) (hb:Y6 X.K fd ps ds) (hd:Y4 dvs ds) (rd:∀ H O,Reps X.K H O dvs dds) (hx:C0 CX X E)
  (ht:eval (.Call (.Attribute o m apos) [] [] pos) X.env=(do
   let ov ← eval o X.env
   standAt apos.atName
   let (f,first) ← holding [ov] (getMethod ov m pl)
   callWith pos f first (backTo pos (starEach [] X.env)) (backToKw pos (keywordEach [] X.env))):=by rfl):
  DE X E (.Call (.Attribute o m apos) [] [] pos) (N0 C m n g dds to Q9):=by
 refine ⟨PE.imp (ZK ho.h hC hm F hr hb hd hx ht) fun σ H Q h=>?_⟩
 obtain ⟨O,l,c,hl,hc,p⟩:=h
 refine Z3 hl hc p fun x v H1 O1 c1 e1 hl1 hc1 rv p1=>?_
 cases z:O0 C x c1 with
 | none=>rw [z] at p1;exact p1.elim
 | some q=>
  obtain ⟨k,fs⟩:=q
  rw [z] at p1
  simp only at p1
  obtain ⟨a,dx,us,rfl,_,hO,ha,hf,hk⟩:=yv hc1 rv z
  by_cases hn:fs.lookup m=none
  ·rw [if_pos hn] at p1
   exact ⟨a,dx,us,rfl,ha,hf.lookup_none hn,Jp (.cons rv (rd _ _)) hc1 p1⟩
  ·rw [if_neg hn] at p1;exact p1.elim
def mkM (C:Addr) (n:Nat) (g:FD) (xs:List D):M D:=fun c=>((gN n g (.hnd c.length::xs)).bd fun d=>match d with
 | .non=>M.ret (.hnd c.length)
 | _=>M.stuck) (c++[.ins C []])
theorem Bc {H:Hp} {O:Ow} {c:List Cell} {xs:List D} {vs:List V} {Q:VK} (r:Reps X.K H O vs xs) (hc:Cells X.K H O c) (h:V2 X.K E H O Q (mkM C n g xs c)):
  ∀ x dx,H x=none->H dx=none->dx≠x->spD X.K n g (.ref x::vs) (upd (upd H dx (.own x)) x (.ins C dx [])) (fun v H2=>v=.non/\Q (.ref x) H2) E:=by
 intro x dx hx hd ne
 have hc1:=hc.updN (o:=.own x) hd
 have e1:Ext H O (upd H dx (.own x)) O:=Ext.updN hd
 have hx1:upd H dx (.own x) x=none:=by rw [Z2 (Ne.symm ne)];exact hx
 obtain ⟨e2,hc2⟩:=hc1.push (o:=.ins C dx []) (x:=.ins C []) hx1 ⟨x,dx,[],by simp,Y5,⟨rfl,.nil⟩⟩
 have e3:=e1.trans e2
 have hk:(O++[some x])[c.length]?=some (some x):=by rw [← hc.len];simp
 refine Jp (xs:=.hnd c.length::xs) (.cons (.hnd hk) (r.mono e3)) hc2 ?_
 unfold mkM at h
 refine ((h.mono e3).bd).imp fun d H1 O1 c1 e4 hc4 p v rv=>?_
 cases rv with
 | non=>
  refine ⟨rfl,?_⟩
  exact J4.ret p hc4 _ (.hnd (e4.pre _ _ hk))
 | _=>exact p.elim
def YO (C:Addr) (n:Nat) (g:FD) (dds:List D) (t:AD):ED:=fun l=>(t l).bd fun xs=>mkM C n g (xs++dds)
theorem qai (C:Addr) (M:Mk X.K C f) (F:FnOk X.prog X.w X.K X.mg X.base CX k f fd ps (spD X.K n g)) (hr:Room (k+1) X.A) (hm:X.mg x=some (.ref C)) (hb:Y6 X.K fd ps ds) (hd:Y4 dvs ds) (rd:∀ H O,Reps X.K H O dvs dds) (hx:C0 CX X E)
  (ha:DA X E (e::es) t) (hg:Gl X x:=by rfl) (hdb:(x == ("__debug__":Str))=false:=by decide) (he:starEach (e::es) X.env=(false,eval e X.env)::starEach es X.env:=by rfl) (hpl:(backTo pos (starEach es X.env)).any (·.1)=false:=by rfl):
  DE X E (.Call (.Name x p) (e::es) [] pos) (YO C n g dds t):=by
 refine ⟨PE.imp (WM M F hr hg hm hb hd hx ha.h hdb he hpl) fun σ H Q h=>?_⟩
 obtain ⟨O,l,c,hl,hc,p⟩:=h
 refine C3 hl hc p fun xs vs H1 O1 c1 e1 hl1 hc1 rv p1=>?_
 exact Bc (rv.append (rd _ _)) hc1 p1
theorem YI (C:Addr) (M:Mk X.K C f) (F:FnOk X.prog X.w X.K X.mg X.base CX k f fd ps (spD X.K n g)) (hr:Room (k+1) X.A) (hm:X.mg x=some (.ref C)) (hb:Y6 X.K fd ps ds) (hd:Y4 dvs ds) (rd:∀ H O,Reps X.K H O dvs dds) (hx:C0 CX X E)
  (hg:Gl X x:=by rfl) (hdb:(x == ("__debug__":Str))=false:=by decide):DE X E (.Call (.Name x p) [] [] pos) (fun _=>mkM C n g dds):=by
 refine ⟨PE.imp (ZL M F hr hg hm hb hd hx hdb) fun σ H Q h=>?_⟩
 obtain ⟨O,l,c,hl,hc,p⟩:=h
 exact Bc (rd _ _) hc p
end
open PyProof.Rows hiding St
structure Chg (xs fs:List Addr) (h h':Heap):Prop where
 keep:∀ b o,h.get? b=some o->b∉xs->b∉fs->h'.get? b=some o
 slot:∀ b o,h.get? b=some o->b∉xs->∃ sl,h'.get? b=some { o with slots:=sl }
 there:∀ b o,h.get? b=some o->∃ o',h'.get? b=some o'
theorem Chg.refl {xs fs:List Addr} {h:Heap}:Chg xs fs h h:=⟨fun _ _ q _ _=>q,fun _ o q _=>⟨o.slots,q⟩,fun _ o q=>⟨o,q⟩⟩
theorem Chg.trans {xs fs:List Addr} {h h1 h2:Heap} (a:Chg xs fs h h1) (b:Chg xs fs h1 h2):Chg xs fs h h2:=
 ⟨fun c o q n m=>b.keep c o (a.keep c o q n m) n m,fun c o q n=>by
  obtain ⟨sl,e⟩:=a.slot c o q n
  obtain ⟨sl2,e2⟩:=b.slot c _ e n
  exact ⟨sl2,e2⟩,fun c o q=>by
  obtain ⟨o1,e⟩:=a.there c o q
  exact b.there c o1 e⟩
theorem Chg.mono {xs ys fs gs:List Addr} {h h':Heap} (a:Chg xs fs h h') (x:∀ b∈xs,b∈ys) (f:∀ b∈fs,b∈gs):Chg ys gs h h':=
 ⟨fun b o q n m=>a.keep b o q (fun z=>n (x b z)) (fun z=>m (f b z)),fun b o q n=>a.slot b o q fun z=>n (x b z),a.there⟩
theorem Chg.ofSlots {xs fs:List Addr} {h h':Heap} (s:Heap.SlotsOnly fs h h'):Chg xs fs h h':=
 ⟨fun b o q _ m=>by rw [s.2.1 b m];exact q,fun b o q _=>s.2.2 b o q,fun b o q=>by obtain ⟨sl,e⟩:=s.2.2 b o q;exact ⟨_,e⟩⟩
theorem Chg.push {xs fs:List Addr} {h:Heap} (o:Obj):Chg xs fs h (h.push o):=
 ⟨fun b u q _ _=>Heap.get?_push_of_some _ q,fun b u q _=>⟨u.slots,Heap.get?_push_of_some _ q⟩,fun b u q=>⟨u,Heap.get?_push_of_some _ q⟩⟩
theorem Chg.upd {xs fs:List Addr} {h:Heap} {a:Addr} {o:Obj} {vs:Array Value} {f:Array Value->Array Value} (ha:h.get? a=some o) (hd:o.data=.fields vs) (m:a∈xs):Chg xs fs h (h.update a (Obj.mapFields f)):=by
 have other:∀ b,b≠a->(h.update a (Obj.mapFields f)).get? b=h.get? b:=fun b n=>Heap.get?_update_other _ _ (Ne.symm n)
 have hd3:=Obj.data_mapFields hd f
 have self:=Heap.get?_update_self (Obj.mapFields f) ha (Obj.isFreed_of_fields hd3)
 refine ⟨fun b u q n _=>?_,fun b u q n=>?_,fun b u q=>?_⟩
 ·rw [other b (fun z=>n (by rw [z];exact m))];exact q
 ·rw [other b (fun z=>n (by rw [z];exact m))];exact ⟨u.slots,q⟩
 ·by_cases z:b=a
  ·subst z;exact ⟨_,self⟩
  ·rw [other b z];exact ⟨u,q⟩
theorem ub (f:Array Value->Array Value) (o:Obj):(Obj.mapFields f o).dict=o.dict:=by
 unfold Obj.mapFields
 split <;> rfl
structure Exo (e:Addr) (cls:Value) (dx:Option Addr) (tb:Option Addr) (fl:Value) (h:Heap):Prop where
 ob:∃ oe vs,h.get? e=some oe/\oe.cls=cls/\oe.dict=dx/\oe.data=.fields vs/\vs[1]?=some (tb.elim Value.none Value.ref)
 en:∀ T,tb=some T->T≠e/\∃ oT ts,h.get? T=some oT/\oT.data=.fields ts/\ts[3]?=some fl
theorem WB {h:Heap} {e:Addr} {ob n:Obj} {ws:Array Value} (at_e:h.get? e=some ob) (hw:ob.data=.fields ws) (hn:n.isFreed=false):
  ((h.push n).update e (Obj.mapFields fun v=>v.setIfInBounds 1 (.ref h.objs.size))).get? e=some (Obj.mapFields (fun v=>v.setIfInBounds 1 (.ref h.objs.size)) ob)/\
  ((h.push n).update e (Obj.mapFields fun v=>v.setIfInBounds 1 (.ref h.objs.size))).get? h.objs.size=some n/\h.objs.size≠e/\
  ∀ xs fs:List Addr,e∈xs->Chg xs fs h ((h.push n).update e (Obj.mapFields fun v=>v.setIfInBounds 1 (.ref h.objs.size))):=by
 have apart:h.objs.size≠e:=fun z=>absurd (Heap.lt_size at_e) (by rw [← z];exact Nat.lt_irrefl _)
 have later:(h.push n).get? e=some ob:=Heap.get?_push_of_some n at_e
 refine ⟨Heap.get?_update_self _ later (Obj.isFreed_of_fields (Obj.data_mapFields hw _)),?_,apart,fun xs fs m=>(Chg.push n).trans (Chg.upd later hw m)⟩
 rw [Heap.get?_update_other _ _ (fun z=>apart z.symm)]
 exact Heap.get?_push_size h hn
section
variable {M:Model} {A:Around} {E:Value->Shared->Prop} {s:Shared} {env:Env} {outer:List Env} {L e:Addr} {cls:Value} {dx:Option Addr} {base:Heap}
theorem Ur {top:Value} {had:Bool} {xs:List Addr} {Q:Unit->Shared->Prop} {ob:Obj} {ws:Array Value} (stk:A.frames=some (env::outer)) (fun_:s.heap.FunFrames base (env::outer)) (here:env.frame=some L)
  (at_e:s.heap.get? e=some ob) (oc:ob.cls=cls) (od:ob.dict=dx) (hw:ob.data=.fields ws) (long:1 < ws.size) (mem:e∈xs)
  (fin:∀ h' T,Exo e cls dx (some T) (rawInt L) h'->Chg xs (frs (env::outer)) s.heap h'->s.heap.get? T=none->Q () { s with heap:=h' }):
  wpAny M A (frameOf env >>= fun fr=>entryPlaceOf L had >>= fun pl=>EntryCells.newEntry top fr .none (rawInt L) .none pl >>= fun n=>setField (.ref e) 1 n) Q E s:=by
 have free:e∉frs (env::outer):=fun z=>by
  have ⟨_,o,got,plain⟩:=fun_.mem z
  exact plain ws (by rw [← hw];exact congrArg Obj.data (Option.some.inj (got.symm.trans at_e)))
 apply wpAny_bind
 apply wpAny_frameOf_fun stk fun_ here
 intro g sl
 apply wpAny_bind
 apply wpAny_entryPlaceOf
 intro pl place
 apply wpAny_bind
 refine wpAny_newObj_type ?_ (place.sizeOk5 top (.ref L) .none (rawInt L) .none)
 generalize made:({ cls:=.type "traceback",data:=.fields ([top,.ref L,.none,rawInt L,.none]++(if pl.isEmpty then List.replicate 6 Value.none else pl)).toArray }:Obj)=n
 have in_g:g.get? e=some ob:=(sl.2.1 e free).trans at_e
 obtain ⟨r1,r2,r3,r4⟩:=WB (n:=n) in_g hw (by rw [← made];rfl)
 apply wpAny_setField (Heap.get?_push_of_some n in_g) hw long
 apply fin _ g.objs.size
 ·constructor
  ·exact ⟨_,_,r1,by rw [Obj.cls_mapFields,oc],by rw [ub,od],Obj.data_mapFields hw _,by simp [long]⟩
  ·intro T same
   cases same
   exact ⟨r3,n,_,r2,by rw [← made],by simp⟩
 ·exact (Chg.ofSlots sl).trans (r4 _ _ mem)
 ·cases z:s.heap.get? g.objs.size with
  | none=>rfl
  | some o=>
   have ⟨_,back⟩:=sl.2.2 _ _ z
   exact absurd (Heap.lt_size back) (Nat.lt_irrefl _)
def Qr (e:Addr) (tb:Option Addr):List Addr:=e::tb.toList
theorem Ba {tb:Option Addr} {Q:Unit->Shared->Prop} (stk:A.frames=some (env::outer)) (fun_:s.heap.FunFrames base (env::outer)) (here:env.frame=some L) (exo:Exo e cls dx tb .none s.heap)
  (fin:∀ h' T,Exo e cls dx (some T) (rawInt L) h'->Chg (Qr e tb) (frs (env::outer)) s.heap h'->s.heap.get? T=none->Q () { s with heap:=h' }):wpAny M A (noteFrame (.ref e) env) Q E s:=by
 obtain ⟨⟨ob,ws,at_e,oc,od,hw,second⟩,ent⟩:=exo
 have long:1 < ws.size:=by
  by_cases z:1 < ws.size
  ·exact z
  ·rw [Array.getElem?_eq_none (by omega)] at second;cases second
 unfold noteFrame
 rw [here]
 apply wpAny_bind
 apply wpAny_field at_e hw second
 cases tb with
 | none=>exact Ur stk fun_ here at_e oc od hw long (by simp [Qr]) fin
 | some T=>
  obtain ⟨apart,oT,ts,at_T,tw,fourth⟩:=ent T rfl
  have long3:3 < ts.size:=by
   by_cases z:3 < ts.size
   ·exact z
   ·rw [Array.getElem?_eq_none (by omega)] at fourth;cases fourth
  apply wpAny_bind
  apply wpAny_field at_T tw fourth
  apply wpAny_bind
  apply wpAny_setField at_T tw long3
  have step:Chg (Qr e (some T)) (frs (env::outer)) s.heap (s.heap.update T (Obj.mapFields fun v=>v.setIfInBounds 3 .none)):=Chg.upd at_T tw (by simp [Qr])
  have away:∀ b,b≠T->(s.heap.update T (Obj.mapFields fun v=>v.setIfInBounds 3 .none)).get? b=s.heap.get? b:=fun b z=>Heap.get?_update_other _ _ z.symm
  have fun2:(s.heap.update T (Obj.mapFields fun v=>v.setIfInBounds 3 .none)).FunFrames base (env::outer):=fun_.of_keeps fun b o got plain=>by
   refine ⟨o,?_,rfl⟩
   rw [away b fun z=>plain ts (by rw [← tw];rw [z] at got;exact congrArg Obj.data (Option.some.inj (got.symm.trans at_T)))]
   exact got
  refine Ur (xs:=Qr e (some T)) stk fun2 here ((away e apart.symm).trans at_e) oc od hw long (by simp [Qr]) fun h' T' p1 p2 p3=>fin h' T' p1 (step.trans p2) ?_
  cases z:s.heap.get? T' with
  | none=>rfl
  | some o=>
   have ⟨_,back⟩:=step.there T' o z
   rw [p3] at back;cases back
theorem kx {T:Addr} {fl:Value} {Q:Unit->Shared->Prop} (exo:Exo e cls dx (some T) fl s.heap)
  (fin:∀ h',Exo e cls dx (some T) .none h'->Chg [T] [] s.heap h'->Q () { s with heap:=h' }):wpAny M A (setFlight (.ref e) none) Q E s:=by
 obtain ⟨⟨ob,ws,at_e,oc,od,hw,second⟩,ent⟩:=exo
 obtain ⟨apart,oT,ts,at_T,tw,fourth⟩:=ent T rfl
 have long3:3 < ts.size:=by
  by_cases z:3 < ts.size
  ·exact z
  ·rw [Array.getElem?_eq_none (by omega)] at fourth;cases fourth
 unfold setFlight
 apply wpAny_bind
 apply wpAny_field at_e hw second
 apply wpAny_setField at_T tw long3
 apply fin
 ·refine ⟨⟨ob,ws,(Heap.get?_update_other _ _ apart).trans at_e,oc,od,hw,second⟩,fun T' same=>?_⟩
  cases same
  exact ⟨apart,_,_,Heap.get?_update_self _ at_T (Obj.isFreed_of_fields (Obj.data_mapFields tw _)),Obj.data_mapFields tw _,by simp [long3]⟩
 ·exact Chg.upd at_T tw (by simp)
theorem wZ {tb:Option Addr} {Q:Unit->Shared->Prop} (hfr:A.frames=some (env::outer)) (hl:s.heap.FunFrames base (env::outer)) (hf:env.frame=some L) (hx:Exo e cls dx tb .none s.heap)
  (h:∀ h' T,Exo e cls dx (some T) .none h'->Chg (Qr e tb) (frs (env::outer)) s.heap h'->s.heap.get? T=none->Q () { s with heap:=h' }):wpAny M A (leaving env (.ref e)) Q E s:=by
 unfold leaving
 refine wpAny_bind (Ba hfr hl hf hx fun h' T x1 x2 x3=>?_)
 refine kx (s:={ s with heap:=h' }) x1 fun h2 y1 y2=>?_
 refine h h2 T y1 ?_ x3
 refine ⟨fun b o q n m=>?_,fun b o q n=>?_,fun b o q=>?_⟩
 ·have q1:=x2.keep b o q n m
  exact y2.keep b o q1 (fun z=>by rw [List.mem_singleton.mp z,x3] at q;cases q) (by simp)
 ·obtain ⟨sl,q1⟩:=x2.slot b o q n
  exact ⟨sl,y2.keep b _ q1 (fun z=>by rw [List.mem_singleton.mp z,x3] at q;cases q) (by simp)⟩
 ·obtain ⟨o1,q1⟩:=x2.there b o q
  exact y2.there b o1 q1
end
open PyProof.Rows hiding St
section
variable {P:Program} {w:World} {H H':Hp} {h h':Heap} {a:Addr} {o:HO} {xs fs:List Addr}
theorem Je (x:X4 P w H h a o):∃ ob,h.get? a=some ob:=by
 induction o with
 | lst xs=>obtain ⟨_,_,_,_,e⟩:=x;exact ⟨_,e⟩
 | tup xs=>obtain ⟨_,_,_,ob,e,_⟩:=x;exact ⟨_,e⟩
 | dK kvs=>obtain ⟨_,_,_,_,o,_,_,e,_⟩:=x;exact ⟨_,e⟩
 | dT kvs=>obtain ⟨_,_,_,_,o,_,_,e,_⟩:=x;exact ⟨_,e⟩
 | set S n=>obtain ⟨o,_,_,_,e,_⟩:=x;exact ⟨_,e⟩
 | ins C dx fs=>obtain ⟨_,_,_,e,_⟩:=x;exact ⟨_,e⟩
 | own y=>exact x
 | xd fs=>obtain ⟨_,⟨_,_,_,e,_⟩,_⟩:=x;exact ⟨_,e⟩
 | rng lo hi=>obtain ⟨_,_,_,e⟩:=x;exact ⟨_,e⟩
 | frz ob u=>obtain ⟨e,_⟩:=x;exact ⟨_,e⟩
 | tbl ps=>exact ⟨_,(show h.get? a=some _ from x)⟩
 | met f y=>exact ⟨_,(show h.get? a=some _ from x)⟩
 | ext φ=>obtain ⟨_,e,_⟩:=x;exact e
theorem bQ (x:HOk P w H h) (g:Chg xs fs h h') (n:∀ b∈xs,H b=none) (m:∀ b∈fs,H b=none):HOk P w H h':=fun a o e=>
 (x a o e).stay (fun b u hb q=>by
  have ne:H b≠none:=by
   rcases hb with rfl | hb
   ·rw [e];simp
   ·rw [hb];simp
  exact g.keep b u q (fun z=>ne (n b z)) fun z=>ne (m b z)) (fun _ q=>q) fun _ _ q=>q
end
def CXD (P:Program) (w:World):CXT:=fun outer H s E e s'=>∃ (ea T:Addr) (cls:Value) (dx:Option Addr) (H':Hp),e=.ref ea/\s'.os=s.os/\AllBare s'.gens/\Un (frs outer) [] H H' s.heap s'.heap/\HOk P w H' s'.heap/\
 Exo ea cls dx (some T) .none s'.heap/\H' ea=none/\H' T=none/\s.heap.get? ea=none/\s.heap.get? T=none/\E cls dx H'
def XB (X:Cx) (pins:List (Addr×Obj)) (σ:St) (E:XK) (e:Value) (s':Shared):Prop:=∃ (ea:Addr) (cls:Value) (dx tb:Option Addr) (H':Hp),e=.ref ea/\Inv X pins σ H' s'/\Exo ea cls dx tb .none s'.heap/\H' ea=none/\X.s₀.heap.get? ea=none/\
 (∀ T,tb=some T->H' T=none/\X.s₀.heap.get? T=none)/\E cls dx H'
theorem VD {X:Cx} {pins:List (Addr×Obj)} {σ:St} {H:Hp} {s s':Shared} {E:XK} {e:Value} (hx:X.ex=[]) (I:Inv X pins σ H s) (h:CXD X.prog X.w X.stack H s E e s'):XB X pins σ E e s':=by
 obtain ⟨ea,T,cls,dx,H',rfl,os,bare,un,hok,ex,h1,h2,h3,h4,q⟩:=h
 have old:∀ b,s.heap.get? b=none->X.s₀.heap.get? b=none:=fun b hb=>by
  cases z:X.s₀.heap.get? b with
  | none=>rfl
  | some o=>
   obtain ⟨o',e⟩:=I.base.there b o z (by rw [hx];simp)
   rw [hb] at e;cases e
 exact ⟨ea,cls,dx,some T,H',rfl,I.call' os un hok bare (fun b z=>absurd z (by simp)),ex,h1,old _ h3,fun T' e=>by cases e;exact ⟨h2,old _ h4⟩,q⟩
theorem uX {P:Program} {w:World} {K:Frag} {mg:Str->Option Value} {base:Heap} {N:List Str} {qual:Str} {scope:Scope} {f:Addr} {cd:Value} {A:Around} {outer:List Env} {s:Shared} {H:Hp} {E E':XK} {pins:List (Addr×Obj)} {σ:St} {e:Value} {s':Shared} {Xe:Value->Shared->Prop}
  (h:XB ((Ql (CXD P w) P w K mg base N qual scope f cd A outer s H E).wish Xe) pins σ E e s'):(Ql (CXD P w) P w K mg base N qual scope f cd A outer s H E).xe e s':=by
 obtain ⟨ea,cls,dx,tb,H',rfl,I,ex,h1,h2,h3,q⟩:=h
 have I:=I.unwish
 have hL:(envOfC qual scope s.heap.objs.size f cd).frame=some s.heap.objs.size:=rfl
 show wpAny (model P w) (A.deeper (envOfC qual scope s.heap.objs.size f cd)) (leaving (envOfC qual scope s.heap.objs.size f cd) (.ref ea)) (fun _ s''=>CXD P w outer H s E (.ref ea) s'') (fun e' s''=>CXD P w outer H s E e' s'') s'
 refine wZ (outer:=outer) I.ok.frames I.stack hL ex fun h' T x1 x2 x3=>?_
 have fr0:∀ b∈frs (envOfC qual scope s.heap.objs.size f cd::outer),H' b=none:=I.stkFree
 have xn:∀ b∈Qr ea tb,H' b=none/\s.heap.get? b=none:=fun b hb=>by
  rcases List.mem_cons.mp hb with rfl | hb
  ·exact ⟨h1,h2⟩
  ·exact h3 b (by simpa using hb)
 have base:Un (frs outer) [] H H' s.heap s'.heap:=I.base
 have hT:H' T=none:=by
  cases z:H' T with
  | none=>rfl
  | some o=>
   obtain ⟨ob,e⟩:=Je (I.hok T o z)
   rw [x3] at e;cases e
 have old:∀ b,s'.heap.get? b=none->s.heap.get? b=none:=fun b hb=>by
  cases z:s.heap.get? b with
  | none=>rfl
  | some o=>
   obtain ⟨o',e⟩:=base.there b o z (by simp)
   rw [hb] at e;cases e
 have notx:∀ b o,s.heap.get? b=some o->b∉Qr ea tb:=fun b o e z=>by rw [(xn b z).2] at e;cases e
 have notL:∀ b o,s.heap.get? b=some o->b≠s.heap.objs.size:=fun b o e z=>absurd (Heap.lt_size e) (by rw [z];exact Nat.lt_irrefl _)
 refine ⟨ea,T,cls,dx,H',rfl,I.os,I.bare,⟨fun b o e n m _=>?_,fun b o e n m _=>?_,base.free,fun b o e _=>?_,base.tups,base.frzs,base.tbls⟩,bQ I.hok x2 (fun b hb=>(xn b hb).1) fr0,x1,h1,hT,h2,old T x3,q⟩
 ·refine x2.keep b o (base.keep b o e n m (by simp)) (notx b o e) fun z=>?_
  unfold frs at z
  rw [List.filterMap_cons,hL] at z
  rcases List.mem_cons.mp z with z | z
  ·exact notL b o e z
  ·exact m z
 ·obtain ⟨sl,e1⟩:=base.slot b o e n m (by simp)
  obtain ⟨sl2,e2⟩:=x2.slot b _ e1 (notx b o e)
  exact ⟨sl2,e2⟩
 ·obtain ⟨o1,e1⟩:=base.there b o e (by simp)
  exact x2.there b o1 e1
open PyProof.Rows hiding St
abbrev bmV:List Value:=[.type "ValueError",.type "Exception",.type "BaseException",.type "object"]
def qdq (K:Frag) (C:Addr):Prop:=excIn K C bmV "ValueError.__new__"=true
theorem uA {K:Frag} {h:Heap} {C:Addr} {bmB:List Value} {newId:String} (X:K.In h) (q:excIn K C bmB newId=true):
  ∃ bm N nm qn bs hdct sn sub ab col dd k0 k1 k2 k3 k5 mN,h.get? C=some (excClassObj nm qn C N bs bm hdct sn sub ab col dd k0 k1 k2 k3 k5 newId)/\h.Ns N mN/\mN "__init__"=none/\OwnTail h bmB bm:=by
 unfold excIn at q
 split at q
 case h_2=>cases q
 case h_1 odict cdat slots found=>
  split at q
  case h_2=>cases q
  case h_1 self rest s0 s1 s2 s3 made s5 mroEq slotsEq=>
   rw [Bool.and_eq_true,Bool.and_eq_true,Bool.and_eq_true,Bool.and_eq_true,Bool.and_eq_true] at q
   have isC:self=C:=eq_of_beq q.1.1.1.1.1
   have isNew:made=newId:=eq_of_beq q.1.1.1.1.2
   have noDel:cdat.hasDel=false:=by simpa using q.1.1.1.2
   have named:=PySem.W.isNs_of_in X q.1.2
   have bare:=PySem.W.nsMap_none_of_in X q.1.2 (eq_of_beq q.2)
   refine ⟨rest,cdat.ns,cdat.name,cdat.qualname,cdat.bases,cdat.hasDict,cdat.slotNames,cdat.subclasses,cdat.abstract,cdat.collection,odict,s0,s1,s2,s3,s5,_,?_,.of_isNs named,bare,tail_of_in X q.1.1.2⟩
   rw [X _ _ found,← isNew]
   cases cdat
   cases slots
   simp only at mroEq slotsEq noDel
   subst isC noDel mroEq slotsEq
   rfl
section
variable {X:Cx} {E:XK} {x:Str} {C:Addr} {np cpos pos:Pos} {e:Expr} {es:List Expr} {t:TA}
def Kq (X:Cx) (E:XK):Prop:=∀ pins σ e s',XB X pins σ E e s'->X.xe e s'
theorem XH {pins:List (Addr×Obj)} {σ:St} {H:Hp} {s:Shared} {h':Heap} {ea:Addr} {vs:List Value} (hex:X.ex=[]) (I:Inv X pins σ H s) (m:Heap.MadeExcOf s.heap h' ea (.ref C) vs) (q:E (.ref C) none H):XB X pins σ E (.ref ea) { s with heap:=h' }:=by
 obtain ⟨t,he,_,_⟩:=m.there
 have hH:H ea=none:=by
  cases z:H ea with
  | none=>rfl
  | some o=>
   obtain ⟨ob,e⟩:=Je (I.hok ea o z)
   rw [m.new] at e;cases e
 have h0:X.s₀.heap.get? ea=none:=by
  cases z:X.s₀.heap.get? ea with
  | none=>rfl
  | some o=>
   obtain ⟨o',e⟩:=I.base.there ea o z (by rw [hex];simp)
   rw [m.new] at e;cases e
 exact ⟨ea,.ref C,none,none,H,rfl,I.kept (t':=s.toks) m.keeps,⟨⟨_,_,he,rfl,rfl,rfl,rfl⟩,fun T hT=>by cases hT⟩,hH,h0,(fun T hT=>by cases hT),q⟩
def qbs (C:Addr) (E:XK) (t:TA):TS:=fun _ σ H=>t σ H fun vs H1=>vs.length<=1000/\E (.ref C) none H1
theorem ZF (hex:X.ex=[]) (hcalm:X.calm=true) (hl:Kq X E) (hC:qdq X.K C) (hg:Gl X x) (hm:X.mg x=some (.ref C)) (ha:PA X (e::es) t) (hdb:(x == ("__debug__":Str))=false:=by decide)
  (he:starEach (e::es) X.env=(false,eval e X.env)::starEach es X.env:=by rfl) (hpl:(backTo cpos (starEach es X.env)).any (·.1)=false:=by rfl):
  PS X (.Raise (some (.Call (.Name x np) (e::es) [] cpos)) none pos) (qbs C E t):=by
 intro pins s σ H D I h
 obtain ⟨tl,N,nm,q,bs,hdct,sn,sub,ab,col,dd,k0,k1,k2,k3,k5,mN,hCo,hN,hni,T⟩:=uA I.mod.kin hC
 refine wpAny_Raise_call_subT (C:=C) (nm:=nm) (q:=q) (N:=N) (bs:=bs) (bm:=tl) (hdct:=hdct) (sn:=sn) (sub:=sub) (ab:=ab) (col:=col) (dd:=dd) (k0:=k0) (k1:=k1) (k2:=k2) (k3:=k3) (k5:=k5)
  F.excBase_ValueError (mN:=mN) (T.hasType F.excBase_ValueError.hasBase) (I.ok.hd hcalm) (by rw [he];show (false || (backTo cpos (starEach es X.env)).any (·.1))=false;rw [hpl];rfl) hni ?_
 refine thn (qU (v:=.ref C) hg hm rfl hdb pins s σ H (fun v H1=>v=.ref C/\H1=H) I ⟨rfl,rfl⟩) fun u s1 ⟨v,H1,I1,r1,e1,e2⟩=>?_
 subst e1 e2
 obtain rfl:u=Value.ref C:=r1
 refine ⟨rfl,?_⟩
 have z:=ha cpos pins s1 σ H1 _ I1 h
 rw [he] at z ⊢
 refine Calls.evalArgs_plain (wpAny_mono z (fun us s2 h2=>?_) fun _ _ y=>y)
 obtain ⟨vs,H2,I2,r2,hlen,q2⟩:=h2
 exact ⟨rfl,by
  have:=r2.length
  have:=qa
  show us.length<=sizeLine
  omega,I2.bk _ _ hCo,hN.keeps I2.bk,T.keeps I2.bk,fun h' ea m=>hl pins σ _ _ (XH hex I2 m q2)⟩
end
open PyProof.Rows hiding St
section
variable {X:Cx} {E:XK} {x:Str} {C:Addr} {np cpos pos:Pos} {e:Expr} {es:List Expr} {t:AD}
def qP (C:Addr) (t:AD):SD:=fun l=>(t l).bd fun xs c=>if xs.length<=1000 then some (.exc ⟨.ref C,[]⟩ c) else none
theorem kW {K:Frag} {H:Hp} {O:Ow} {c:List Cell} {P:Fl->Hp->Ow->List Cell->Prop} (hc:Cells K H O c) (h:J4 K E H O P (some (.exc ⟨.ref C,[]⟩ c))):E (.ref C) none H:=
 h H O (.ref C) none (Ext.refl _ _) hc ⟨rfl,rfl⟩
theorem YB (hex:X.ex=[]) (hcalm:X.calm=true) (hl:Kq X E) (hC:qdq X.K C) (hm:X.mg x=some (.ref C)) (ha:DA X E (e::es) t) (hg:Gl X x:=by rfl) (hdb:(x == ("__debug__":Str))=false:=by decide)
  (he:starEach (e::es) X.env=(false,eval e X.env)::starEach es X.env:=by rfl) (hpl:(backTo cpos (starEach es X.env)).any (·.1)=false:=by rfl):
  DS X E (.Raise (some (.Call (.Name x np) (e::es) [] cpos)) none pos) (qP C t):=by
 refine ⟨PS.imp (ZF hex hcalm hl hC hg hm ha.h hdb he hpl) fun Dn σ H h=>?_⟩
 obtain ⟨O,l,c,hl,hc,p⟩:=h
 refine C3 hl hc p fun xs vs H1 O1 c1 e1 hl1 hc1 rv p1=>?_
 by_cases z:xs.length<=1000
 ·rw [if_pos z] at p1
  exact ⟨by rw [rv.length];exact z,kW hc1 p1⟩
 ·rw [if_neg z] at p1;exact p1.elim
end
section
variable {P:Program} {w:World} {K:Frag} {mg:Str->Option Value} {base:Heap} {N:List Str} {qual:Str} {scope:Scope} {f:Addr} {cd:Value} {A:Around} {outer:List Env} {s:Shared} {H:Hp} {E:XK}
theorem Wn:Kq (Ql (CXD P w) P w K mg base N qual scope f cd A outer s H E) E:=fun _ _ _ _ h=>uX (E':=E) (Xe:=(Ql (CXD P w) P w K mg base N qual scope f cd A outer s H E).xe) h
theorem bI:C0 (CXD P w) (Ql (CXD P w) P w K mg base N qual scope f cd A outer s H E) E:=fun pins σ H s e s' I h=>Wn pins σ e s' (VD rfl I h)
theorem Z5 {X:Cx} {E:XK}:C0 CX0 X E:=fun _ _ _ _ _ _ _ h=>h.elim
end
open PyProof.Rows hiding St
def D1:D->Option DK
 | .int i=>some (.inl i)
 | .str x=>some (.inr x)
 | _=>none
theorem xy {K:Frag} {H:Hp} {O:Ow} {v:V} {d:D} {k:DK} (r:Rep K H O v d) (h:D1 d=some k):v=kV (kK k):=by
 cases r with
 | int i=>cases h;rfl
 | str x=>cases h;rfl
 | _=>cases h
theorem zE {a b:DK} (e:kK a=kK b):a=b:=by
 cases a with
 | inl i=>
  cases b with
  | inl j=>simp only [kK,Sum.inl.injEq] at e;rw [e]
  | inr y=>simp [kK] at e
 | inr x=>
  cases b with
  | inl j=>simp [kK] at e
  | inr y=>
   simp only [kK,Sum.inr.injEq] at e
   have e':(⟨x.toArray⟩:Str).cps=(⟨y.toArray⟩:Str).cps:=congrArg Str.cps e
   have e2:x=y:=by
    have:=congrArg Array.toList e'
    simpa using this
   rw [e2]
def J2 (kvs:List (DK×D)) (k:DK):Option D:=(kvs.find? fun kv=>decide (kv.1=k)).map (·.2)
def U6 (kvs:List (DK×D)) (k:DK) (v:D):List (DK×D):=if (J2 kvs k).isSome=true then kvs.map (fun kv=>if kv.1=k then (kv.1,v) else kv) else kvs++[(k,v)]
def ua (kvs:List (DK×D)) (k:DK):List (DK×D):=kvs.filter fun kv=>decide (kv.1≠k)
theorem Zu {k:DK}:J2 [] k=none:=rfl
theorem K0 {p:DK×D} {r:List (DK×D)} {k:DK}:J2 (p::r) k=if p.1=k then some p.2 else J2 r k:=by
 by_cases e:p.1=k <;> simp [J2,List.find?_cons,e]
theorem uZ {a b:List (DK×D)} {k:DK}:J2 (a++b) k=(J2 a k).or (J2 b k):=by
 induction a with
 | nil=>simp [Zu]
 | cons p r ih=>
  rw [List.cons_append,K0,K0,ih]
  split <;> simp
theorem zX {k j:DK} {y:D}:∀ {kvs:List (DK×D)},J2 (kvs.map fun kv=>if kv.1=k then (kv.1,y) else kv) j=(J2 kvs j).map fun x=>if j=k then y else x
 | []=>rfl
 | p::r=>by
  rw [List.map_cons,K0,K0,zX]
  by_cases e:p.1=k
  ·rw [if_pos e]
   by_cases e2:p.1=j
   ·simp [e2,← e]
   ·simp [e2]
  ·rw [if_neg e]
   by_cases e2:p.1=j
   ·have:j≠k:=fun z=>e (e2.trans z)
    simp [e2,this]
   ·simp [e2]
theorem N2 {kvs:List (DK×D)} {k j:DK} {y:D}:J2 (U6 kvs k y) j=if j=k then some y else J2 kvs j:=by
 unfold U6
 cases z:J2 kvs k with
 | none=>
  simp only [Option.isSome_none,Bool.false_eq_true,if_false]
  rw [uZ,K0,Zu]
  by_cases e:j=k
  ·subst e;simp [z]
  ·have e':¬ k=j:=fun q=>e q.symm
   simp [e,e']
 | some d=>
  simp only [Option.isSome_some,if_true]
  rw [zX]
  by_cases e:j=k
  ·subst e;simp [z]
  ·simp [e]
theorem Wz {kvs:List (DK×D)} {k:DK} {d:D} (h:J2 kvs k=some d):(k,d)∈kvs:=by
 induction kvs with
 | nil=>cases h
 | cons p r ih=>
  rw [K0] at h
  split at h
  ·rename_i e;cases h;subst e;exact List.mem_cons_self
  ·exact List.mem_cons_of_mem _ (ih h)
theorem valD_key {kvs:List (DK×D)} {k:DK}:(J2 kvs k).isSome=true↔k∈kvs.map (·.1):=by
 induction kvs with
 | nil=>simp [Zu]
 | cons p r ih=>
  rw [K0,List.map_cons,List.mem_cons]
  by_cases e:p.1=k
  ·simp [e]
  ·have:¬ k=p.1:=fun z=>e z.symm
   simp [e,this,ih]
theorem kY {kvs:List (DK×D)} {k:DK} {v:D}:(U6 kvs k v).map (·.1)=if (J2 kvs k).isSome=true then kvs.map (·.1) else kvs.map (·.1)++[k]:=by
 unfold U6
 split
 ·rw [List.map_map]
  refine List.map_congr_left fun p _=>?_
  simp only [Function.comp]
  split <;> rfl
 ·simp
theorem uv {kvs:List (DK×D)} {k:DK} {v:D} (h:(kvs.map (·.1)).Nodup):((U6 kvs k v).map (·.1)).Nodup:=by
 rw [kY]
 split
 ·exact h
 ·rename_i e
  rw [List.nodup_append]
  refine ⟨h,by simp,fun a ha b hb=>?_⟩
  simp only [List.mem_singleton] at hb
  subst hb
  exact fun z=>e (valD_key.mpr (z ▸ ha))
theorem wL {kvs:List (DK×D)} {k:DK} (h:(kvs.map (·.1)).Nodup):((ua kvs k).map (·.1)).Nodup:=by
 unfold ua
 exact h.sublist (List.Sublist.map _ List.filter_sublist)
section
variable {K:Frag} {H:Hp} {O:Ow} {us:List (Key×V)} {kvs:List (DK×D)} {k:DK} {d:D} {v:V}
theorem X5.nil_inv (h:X5 K H O us []):us=[]:=by
 obtain ⟨h1,_⟩:=h
 cases us with
 | nil=>rfl
 | cons _ _=>simp at h1
theorem X5.cons_inv {p:DK×D} (h:X5 K H O us (p::kvs)):∃ v us',us=(kK p.1,v)::us'/\Rep K H O v p.2/\X5 K H O us' kvs:=by
 obtain ⟨h1,h2⟩:=h
 cases us with
 | nil=>simp at h1
 | cons q us'=>
  simp only [List.map_cons,List.cons.injEq] at h1
  simp only [List.map_cons] at h2
  cases h2 with
  | cons r t=>exact ⟨q.2,us',by rw [← h1.1],r,h1.2,t⟩
theorem X5.nil:X5 K H O [] []:=⟨rfl,.nil⟩
theorem X5.cons (r:Rep K H O v d) (h:X5 K H O us kvs):X5 K H O ((kK k,v)::us) ((k,d)::kvs):=⟨by simp [h.1],.cons r h.2⟩
theorem X5.app {us':List (Key×V)} {kvs':List (DK×D)} (h:X5 K H O us kvs) (h':X5 K H O us' kvs'):X5 K H O (us++us') (kvs++kvs'):=⟨by simp [h.1,h'.1],by rw [List.map_append,List.map_append];exact h.2.append h'.2⟩
theorem X5.len (h:X5 K H O us kvs):us.length=kvs.length:=by
 have:=congrArg List.length h.1
 simpa using this
theorem X5.mono {H':Hp} {O':Ow} (e:Ext H O H' O') (h:X5 K H O us kvs):X5 K H' O' us kvs:=⟨h.1,h.2.mono e⟩
theorem X5.val_some:∀ {kvs:List (DK×D)} {us:List (Key×V)},X5 K H O us kvs->J2 kvs k=some d->∃ v,kd us (kK k)=some v/\Rep K H O v d
 | [],_,_,e=>by cases e
 | p::kvs,us,h,e=>by
  obtain ⟨v,us',rfl,r,t⟩:=h.cons_inv
  rw [K0] at e
  by_cases z:p.1=k
  ·rw [if_pos z] at e
   cases e
   exact ⟨v,Zt (by show kK p.1=kK k;rw [z]),r⟩
  ·rw [if_neg z] at e
   obtain ⟨v',h1,h2⟩:=t.val_some e
   exact ⟨v',by rw [fj (fun q=>z (zE q))];exact h1,h2⟩
theorem X5.val_none:∀ {kvs:List (DK×D)} {us:List (Key×V)},X5 K H O us kvs->J2 kvs k=none->kd us (kK k)=none
 | [],_,h,_=>by rw [h.nil_inv];rfl
 | p::kvs,us,h,e=>by
  obtain ⟨v,us',rfl,r,t⟩:=h.cons_inv
  rw [K0] at e
  by_cases z:p.1=k
  ·rw [if_pos z] at e;cases e
  ·rw [if_neg z] at e
   rw [fj (fun q=>z (zE q))]
   exact t.val_none e
theorem X5.repl (r:Rep K H O v d):∀ {kvs:List (DK×D)} {us:List (Key×V)},X5 K H O us kvs->X5 K H O (us.map fun kv=>if kv.1=kK k then (kv.1,v) else kv) (kvs.map fun kv=>if kv.1=k then (kv.1,d) else kv)
 | [],_,h=>by rw [h.nil_inv];exact .nil
 | p::kvs,us,h=>by
  obtain ⟨v',us',rfl,r',t⟩:=h.cons_inv
  rw [List.map_cons,List.map_cons]
  by_cases z:p.1=k
  ·rw [if_pos (by show kK p.1=kK k;rw [z]),if_pos z]
   exact .cons r (X5.repl r t)
  ·rw [if_neg (fun q=>z (zE q)),if_neg z]
   exact .cons r' (X5.repl r t)
theorem X5.put (r:Rep K H O v d) (h:X5 K H O us kvs):X5 K H O (gr us (kK k) v) (U6 kvs k d):=by
 unfold gr U6
 rw [Wy]
 cases z:J2 kvs k with
 | none=>
  rw [h.val_none z]
  simp only [Option.isSome_none,Bool.false_eq_true,if_false]
  exact h.app (.cons r .nil)
 | some x=>
  obtain ⟨v',e,_⟩:=h.val_some z
  rw [e]
  simp only [Option.isSome_some,if_true]
  exact h.repl r
theorem X5.drop:∀ {kvs:List (DK×D)} {us:List (Key×V)},X5 K H O us kvs->X5 K H O (Vs us (kK k)) (ua kvs k)
 | [],_,h=>by rw [h.nil_inv];exact .nil
 | p::kvs,us,h=>by
  obtain ⟨v',us',rfl,r',t⟩:=h.cons_inv
  have ih:X5 K H O (Vs us' (kK k)) (ua kvs k):=t.drop
  unfold Vs ua at ih ⊢
  by_cases z:p.1=k
  ·rw [List.filter_cons_of_neg (by simp [z]),List.filter_cons_of_neg (by simp [z])]
   exact ih
  ·rw [List.filter_cons_of_pos (by simpa using fun q=>z (zE q)),List.filter_cons_of_pos (by simpa using z)]
   exact .cons r' ih
end
theorem Cells.setK {K:Frag} {H:Hp} {O:Ow} {c:List Cell} {k:Nat} {a:Addr} {us:List (Key×V)} {kvs:List (DK×D)} (hc:Cells K H O c) (hO:O[k]?=some (some a)) (r:X5 K H O us kvs) (n:(kvs.map (·.1)).Nodup):
  Ext H O (upd H a (.dK us)) O/\Cells K (upd H a (.dK us)) O (c.set k (.dct kvs)):=hc.setC hO fun e=>⟨a,us,hO,Y5,r.mono e,n⟩
def V8 (o:D) (c:List Cell):Option (Nat×List (DK×D)):=match o with
 | .hnd k=>match c[k]? with
  | some (.dct ys)=>some (k,ys)
  | _=>none
 | _=>none
section
variable {X:Cx} {E:XK} {a b e o i value:Expr} {ta tb te to ti:ED} {pos pos' apos cpos:Pos}
theorem qk {H:Hp} {O:Ow} {c:List Cell} {v:V} {d:D} {k:Nat} {ys:List (DK×D)} (hc:Cells X.K H O c) (r:Rep X.K H O v d) (h:V8 d c=some (k,ys)):
  ∃ a us,v=.ref a/\O[k]?=some (some a)/\H a=some (.dK us)/\X5 X.K H O us ys/\(ys.map (·.1)).Nodup/\c[k]?=some (.dct ys):=by
 cases r with
 | @hnd a j hj=>
  simp only [V8] at h
  cases z:c[j]? with
  | none=>rw [z] at h;cases h
  | some x=>
   rw [z] at h
   cases x with
   | dct xs=>
    simp only [Option.some.injEq,Prod.mk.injEq] at h
    obtain ⟨rfl,rfl⟩:=h
    obtain ⟨a',vs,q1,q2,q3,q4⟩:=hc.at_ _ _ z
    rw [hj] at q1;cases q1
    exact ⟨a,vs,rfl,hj,q2,q3,q4,z⟩
   | _=>cases h
 | _=>cases h
def U9 (x y:D):M D:=fun c=>match V8 x c,D1 y with
 | some (_,kvs),some k=>match J2 kvs k with
  | some d=>some (.ok d c)
  | none=>none
 | _,_=>none
theorem YQ {x y:D} {c:List Cell} {r:Option (Out D)} (h:U9 x y c=r) (hr:r≠none):∃ j kvs k d,V8 x c=some (j,kvs)/\D1 y=some k/\J2 kvs k=some d/\r=some (.ok d c):=by
 unfold U9 at h
 cases z:V8 x c with
 | none=>rw [z] at h;exact absurd h.symm hr
 | some p=>
  obtain ⟨j,kvs⟩:=p
  rw [z] at h
  cases z2:D1 y with
  | none=>rw [z2] at h;exact absurd h.symm hr
  | some k=>
   rw [z2] at h
   simp only at h
   cases z3:J2 kvs k with
   | none=>rw [z3] at h;exact absurd h.symm hr
   | some d=>rw [z3] at h;exact ⟨j,kvs,k,d,rfl,rfl,z3,h.symm⟩
theorem bD {α:Type} {K:Frag} {H:Hp} {O:Ow} {P:α->Hp->Ow->List Cell->Prop} {r:Option (Out α)} (p:J4 K E H O P r):r≠none:=fun e=>by rw [e] at p;exact p.elim
theorem R4 (hu:X.A.units+64 < cLine) (ha:DE X E a ta) (hb:DE X E b tb) (hs:qdn b:=by intro _ _;rfl):DE X E (.Subscript a b pos) (d2 U9 ta tb):=by
 refine ⟨PE.imp (qV (by omega) ha.h hb.h hs) fun σ H Q h=>?_⟩
 obtain ⟨O,l,c,hl,hc,p⟩:=h
 refine Z3 hl hc p fun x v H1 O1 c1 e1 hl1 hc1 rv p1=>?_
 refine Z3 hl1 hc1 p1 fun y u H2 O2 c2 e2 hl2 hc2 ru p2=>?_
 obtain ⟨j,kvs,k,d,h1,h2,h3,h4⟩:=YQ rfl (bD p2)
 rw [h4] at p2
 obtain ⟨q,us,ea,hO,hq,kr,nd,hk⟩:=qk hc2 (rv.mono e2) h1
 obtain ⟨w,hw,rw_⟩:=kr.val_some h3
 have ey:=xy ru h2
 subst ey
 exact ⟨q,w,ea,by rw [← hw];exact Qm.k hq,V2.ok p2 hc2 rw_⟩
def qj (neg:Bool) (x y:D):M D:=fun c=>match V8 y c,D1 x with
 | some (_,kvs),some k=>some (.ok (.bl (if neg then !(J2 kvs k).isSome else (J2 kvs k).isSome)) c)
 | _,_=>none
theorem qao {neg:Bool} {x y:D} {c:List Cell} {r:Option (Out D)} (h:qj neg x y c=r) (hr:r≠none):∃ j kvs k,V8 y c=some (j,kvs)/\D1 x=some k/\r=some (.ok (.bl (if neg then !(J2 kvs k).isSome else (J2 kvs k).isSome)) c):=by
 unfold qj at h
 cases z:V8 y c with
 | none=>rw [z] at h;exact absurd h.symm hr
 | some p=>
  obtain ⟨j,kvs⟩:=p
  rw [z] at h
  cases z2:D1 x with
  | none=>rw [z2] at h;exact absurd h.symm hr
  | some k=>rw [z2] at h;exact ⟨j,kvs,k,rfl,rfl,h.symm⟩
theorem X5.isSome {K:Frag} {H:Hp} {O:Ow} {us:List (Key×V)} {kvs:List (DK×D)} {k:DK} (h:X5 K H O us kvs):(kd us (kK k)).isSome=(J2 kvs k).isSome:=by
 cases z:J2 kvs k with
 | none=>rw [h.val_none z];rfl
 | some d=>obtain ⟨v,e,_⟩:=h.val_some z;rw [e];rfl
theorem qac {σ:St} {H:Hp} {Q:VK} {neg:Bool} (h:P6 X.K E (d2 (qj neg) ta tb) σ H Q):
  P6 X.K E ta σ H fun y H1=>P6 X.K E tb σ H1 fun x H2=>∃ a o,x=.ref a/\Qm H2 a y o/\Q (.bl (if neg then !o.isSome else o.isSome)) H2:=by
 obtain ⟨O,l,c,hl,hc,p⟩:=h
 refine Z3 hl hc p fun x v H1 O1 c1 e1 hl1 hc1 rv p1=>?_
 refine Z3 hl1 hc1 p1 fun y u H2 O2 c2 e2 hl2 hc2 ru p2=>?_
 obtain ⟨j,kvs,k,h1,h2,h4⟩:=qao rfl (bD p2)
 rw [h4] at p2
 obtain ⟨q,us,ea,hO,hq,kr,nd,hk⟩:=qk hc2 ru h1
 have ey:=xy (rv.mono e2) h2
 subst ey
 refine ⟨q,_,ea,Qm.k hq,?_⟩
 rw [kr.isSome]
 exact V2.ok p2 hc2 (.bl _)
theorem YF {σ:St} {H:Hp} {Q:Bool->Hp->Prop} {neg:Bool} (h:Jl X.K E (tOf (d2 (qj neg) ta tb)) σ H Q):
  P6 X.K E ta σ H fun y H1=>P6 X.K E tb σ H1 fun x H2=>∃ a o,x=.ref a/\Qm H2 a y o/\∃ k,V.bl (if neg then !o.isSome else o.isSome)=.bl k/\Q k H2:=qac (Jk h)
theorem kz (hu:X.A.units+64 < cLine) (ha:DE X E a ta) (hb:DE X E b tb) (hm:behindInMarks .NotIn b=false:=by rfl):DT X E (.Compare a [.NotIn] [b] pos) (tOf (d2 (qj true) ta tb)):=
 ⟨PT.imp (kZ (mF (by omega) ha.h hb.h) hm) fun σ H Q h=>YF h⟩
def ZA (o i v:D) (l:L):M Fl:=fun c=>match V8 o c,D1 i with
 | some (j,kvs),some k=>if kvs.length < 1000000 then some (.ok (.nx l) (c.set j (.dct (U6 kvs k v)))) else none
 | _,_=>none
def jq (to ti te:ED):SD:=fun l=>(te l).bd fun v=>(to l).bd fun o=>(ti l).bd fun i=>ZA o i v l
theorem Qc (hu:X.A.units+64 < cLine) (he:DE X E e te) (ho:DE X E o to) (hi:DE X E i ti) (hs:swapsWith e (some (.Subscript o i pos')) pos.line X.env=pure false:=by rfl):DS X E (.Assign [.Subscript o i pos'] e pos) (jq to ti te):=by
 refine ⟨PS.imp (WG (by omega) ho.h hi.h he.h hs) fun Dn σ H h=>?_⟩
 obtain ⟨O,l,c,hl,hc,p⟩:=h
 refine Z3 hl hc p fun x v H1 O1 c1 e1 hl1 hc1 rv p1=>?_
 refine Z3 hl1 hc1 p1 fun y u H2 O2 c2 e2 hl2 hc2 ru p2=>?_
 refine Z3 hl2 hc2 p2 fun z w H3 O3 c3 e3 hl3 hc3 rw_ p3=>?_
 unfold ZA at p3
 cases q:V8 y c3 with
 | none=>rw [q] at p3;exact p3.elim
 | some kk=>
  obtain ⟨j,kvs⟩:=kk
  rw [q] at p3
  obtain ⟨a,us,ea,hO,ha,kr,nd,hk⟩:=qk hc3 (ru.mono e3) q
  cases q2:D1 z with
  | none=>rw [q2] at p3;exact p3.elim
  | some k=>
   rw [q2] at p3
   simp only at p3
   by_cases hz:kvs.length < 1000000
   ·rw [if_pos hz] at p3
    have ey:=xy rw_ q2
    subst ey
    obtain ⟨ex,cx⟩:=hc3.setK hO (kr.put (k:=k) ((rv.mono e2).mono e3)) (uv nd)
    have hz':us.length < sizeLine:=by have:=kr.len;have:=qa;omega
    exact ⟨a,_,ea,xR.k ha hz',p3 _ O3 ex cx σ (hl3.mono ex)⟩
   ·rw [if_neg hz] at p3;exact p3.elim
def zM (tk tv:ED):ED:=fun l c=>((tk l).bd fun k=>(tv l).bd fun v=>fun c2=>match D1 k,c2[c.length]? with
 | some kk,some (.dct [])=>some (.ok (.hnd c.length) (c2.set c.length (.dct [(kk,v)])))
 | _,_=>none) (c++[.dct []])
theorem YL {pos:Pos} (ha:DE X E a ta) (hb:DE X E b tb):DE X E (.Dict [some a] [b] pos) (zM ta tb):=by
 refine ⟨PE.imp (WO (ZG ha.h hb.h WH) rfl rfl (by intro z;cases z) (by show 1<=15;omega)) fun σ H Q h=>?_⟩
 obtain ⟨O,l,c,hl,hc,p⟩:=h
 intro q n
 obtain ⟨h1,h2⟩:=hc.push (o:=.dK []) (x:=.dct []) n ⟨q,[],by simp,Y5,⟨rfl,.nil⟩,by simp⟩
 have hl':=hl.mono h1
 have p':=J4.mono h1 p
 unfold zM at p'
 refine Z3 hl' h2 p' fun x v H1 O1 c1 e1 hl1 hc1 rv p1=>?_
 refine Z3 hl1 hc1 p1 fun y u H2 O2 c2 e2 hl2 hc2 ru p2=>?_
 have hO:O2[c.length]?=some (some q):=e2.pre _ _ (e1.pre _ _ (by rw [← hc.len];simp))
 cases z1:D1 x with
 | none=>rw [z1] at p2;exact p2.elim
 | some kk=>
  rw [z1] at p2
  cases z2:c2[c.length]? with
  | none=>rw [z2] at p2;exact p2.elim
  | some cl=>
   rw [z2] at p2
   cases cl with
   | dct ks=>
    cases ks with
    | nil=>
     obtain ⟨a',us,q1,q2,q3,q4⟩:=hc2.at_ _ _ z2
     rw [hO] at q1;cases q1
     rw [q3.nil_inv] at q2
     have ex:=xy (rv.mono e2) z1
     subst ex
     obtain ⟨ex,cx⟩:=hc2.setK (us:=[(kK kk,u)]) (kvs:=[(kk,y)]) hO (.cons ru .nil) (by simp)
     exact ⟨q2,[(kK kk,u)],rfl,by show 1<=15;omega,p2 _ O2 ex cx _ (.hnd hO)⟩
    | cons _ _=>exact p2.elim
   | _=>exact p2.elim
def gJ (o:D) (xs:List D):M D:=fun c=>match V8 o c,xs with
 | some (_,kvs),[k,z]=>match D1 k with
  | some kk=>some (.ok ((J2 kvs kk).getD z) c)
  | none=>none
 | _,_=>none
def qa7:V->List V->Hp->VK->Prop:=fun x vs H Q=>∃ a y z o,x=.ref a/\vs=[y,z]/\Qm H a y o/\Q (o.getD z) H
theorem qcu (hu:X.A.units+64 < cLine):MtR X "dict.get" qa7:=by
 intro pins s σ H x vs v us Q I rx rv h
 obtain ⟨a,y,z,o,rfl,rfl,g,q⟩:=h
 cases rx
 cases rv with
 | cons r1 t1=>
  cases t1 with
  | cons r2 t2=>
   cases t2
   exact qdg (by omega) I g r1 r2 fun w' s' I' rw'=>⟨_,H,I',rw',q⟩
theorem XD:MtD X E qa7 gJ:=by
 intro H O c o xs v vs Q hc ro rx p
 unfold gJ at p
 cases z:V8 o c with
 | none=>rw [z] at p;exact p.elim
 | some q=>
  obtain ⟨j,kvs⟩:=q
  rw [z] at p
  obtain ⟨a,us,e1,hO,ha,kr,nd,hk⟩:=qk hc ro z
  cases rx with
  | nil=>exact p.elim
  | cons r1 r2=>
   cases r2 with
   | nil=>exact p.elim
   | cons r3 r4=>
    cases r4 with
    | cons _ _=>exact p.elim
    | nil=>
     rename_i v1 d1 v2 d2
     simp only at p
     cases z2:D1 d1 with
     | none=>rw [z2] at p;exact p.elim
     | some kk=>
      rw [z2] at p
      simp only at p
      have ey:=xy r1 z2
      subst ey
      refine ⟨a,_,_,_,e1,rfl,Qm.k ha,?_⟩
      cases z3:J2 kvs kk with
      | none=>
       rw [z3] at p
       rw [kr.val_none z3]
       exact V2.ok p hc r3
      | some d=>
       rw [z3] at p
       obtain ⟨w,hw,rw_⟩:=kr.val_some z3
       rw [hw]
       exact V2.ok p hc rw_
theorem qak (hu:X.A.units+64 < cLine) {f:Expr} {tf:ED} (ho:DE X E o to) (ha:DE X E e te) (hf:DE X E f tf) (hbase:attributeBase o "get" X.env (eval o X.env)=eval o X.env:=by rfl)
  (hfew:((backTo cpos (starEach [e,f] X.env)).all (fun x=>!x.1) && (backToKw cpos (keywordEach [] X.env)).all (fun x=>x.1.isSome) && decide (([e,f]:List Expr).length+([]:List Keyword).length+(if ([]:List Keyword).isEmpty then 0 else 1) < 30))=true:=by rfl)
  (hline:(apos.endLine == cpos.line)=true:=by rfl) (hs:starEach [e,f] X.env=(false,eval e X.env)::starEach [f] X.env:=by rfl) (hs2:starEach [f] X.env=(false,eval f X.env)::starEach [] X.env:=by rfl) (hplain:(backTo cpos (starEach [f] X.env)).any (·.1)=false:=by rfl):
  DE X E (.Call (.Attribute o "get" apos) [e,f] [] cpos) (mM .dct gJ to (Q1 te (Q1 tf Q9))):=
 bV .dct (.inr (.inl rfl)) PySem.F.plainAttrs_dict PySem.F.slot_dict_get PySem.F.type_dict_get (qcu hu) XD ho (Q2 ha (Q2 hf Z0 hs2) hs) hbase hfew hline hs hplain
def kj (o:D) (xs:List D):M D:=fun c=>match V8 o c,xs with
 | some (j,kvs),[k,z]=>match D1 k with
  | some kk=>if kvs.length < 1000000 then (match J2 kvs kk with
   | some d=>some (.ok d c)
   | none=>some (.ok z (c.set j (.dct (U6 kvs kk z))))) else none
  | none=>none
 | _,_=>none
def qa6:V->List V->Hp->VK->Prop:=fun x vs H Q=>∃ a k z kvs,x=.ref a/\vs=[kV k,z]/\H a=some (.dK kvs)/\kvs.length < sizeLine/\(∀ v,kd kvs k=some v->Q v H)/\(kd kvs k=none->Q z (upd H a (.dK (gr kvs k z))))
theorem WZ:MtR X "dict.setdefault" qa6:=by
 intro pins s σ H x vs v us Q I rx rv h
 obtain ⟨a,k,z,kvs,rfl,rfl,ha,hz,q1,q2⟩:=h
 cases rx
 cases rv with
 | cons r1 t1=>
  cases t1 with
  | cons r2 t2=>
   cases t2
   obtain ⟨hz',hd,vs,rel,dd⟩:=Vt I.hok ha
   refine call_meetsIn PySem.F.slot_dict_setdefault dd.typeIs PySem.F.entry_dict_setdefault (PySem.F.args_dict_setdefault_3 _ _ _) (kt_meets_setdefault (W7 X.prog X.w) a (Vp r1) hd _) ⟨vs,dd,by rw [← rel.length];exact hz',fun w' hw=>?_,fun hn h' dd' hs=>?_⟩
   ·have ro:=rel.val k
    rw [hw] at ro
    cases zz:kd kvs k with
    | none=>rw [zz] at ro;cases ro
    | some w=>
     rw [zz] at ro
     exact ⟨w,H,I.tok _,ro,q1 w zz⟩
   ·have zn:kd kvs k=none:=by
     have ro:=rel.val k
     rw [hn] at ro
     cases zz:kd kvs k with
     | none=>rfl
     | some w=>rw [zz] at ro;cases ro
    have he:∃ q,h'.get? a=some q:=let ⟨q,_,_,hq,_⟩:=dd';⟨q,hq⟩
    have hl:(gr kvs k z).length<=sizeLine:=by have:=ko kvs k z;omega
    exact ⟨z,_,Jx I (by rw [ha];exact True.intro) hs he (zK hl hd (rel.put k r2) dd'),r2,q2 zn⟩
theorem JA:MtD X E qa6 kj:=by
 intro H O c o xs v vs Q hc ro rx p
 unfold kj at p
 cases z:V8 o c with
 | none=>rw [z] at p;exact p.elim
 | some q=>
  obtain ⟨j,kvs⟩:=q
  rw [z] at p
  obtain ⟨a,us,e1,hO,ha,kr,nd,hk⟩:=qk hc ro z
  cases rx with
  | nil=>exact p.elim
  | cons r1 r2=>
   cases r2 with
   | nil=>exact p.elim
   | cons r3 r4=>
    cases r4 with
    | cons _ _=>exact p.elim
    | nil=>
     rename_i v1 d1 v2 d2
     simp only at p
     cases z2:D1 d1 with
     | none=>rw [z2] at p;exact p.elim
     | some kk=>
      rw [z2] at p
      simp only at p
      by_cases hz:kvs.length < 1000000
      ·rw [if_pos hz] at p
       have ey:=xy r1 z2
       subst ey
       have hz':us.length < sizeLine:=by have:=kr.len;have:=qa;omega
       refine ⟨a,kK kk,_,us,e1,rfl,ha,hz',fun w hw=>?_,fun hn=>?_⟩
       ·cases z3:J2 kvs kk with
        | none=>rw [kr.val_none z3] at hw;cases hw
        | some d=>
         rw [z3] at p
         obtain ⟨w',hw',rw_⟩:=kr.val_some z3
         rw [hw'] at hw;cases hw
         exact V2.ok p hc rw_
       ·cases z3:J2 kvs kk with
        | some d=>obtain ⟨w',hw',rw_⟩:=kr.val_some z3;rw [hw'] at hn;cases hn
        | none=>
         rw [z3] at p
         obtain ⟨ex,cx⟩:=hc.setK hO (kr.put (k:=kk) r3) (uv nd)
         exact p _ O ex cx _ (r3.mono ex)
      ·rw [if_neg hz] at p;exact p.elim
theorem qae {f:Expr} {tf:ED} (ho:DE X E o to) (ha:DE X E e te) (hf:DE X E f tf) (hbase:attributeBase o "setdefault" X.env (eval o X.env)=eval o X.env:=by rfl)
  (hfew:((backTo cpos (starEach [e,f] X.env)).all (fun x=>!x.1) && (backToKw cpos (keywordEach [] X.env)).all (fun x=>x.1.isSome) && decide (([e,f]:List Expr).length+([]:List Keyword).length+(if ([]:List Keyword).isEmpty then 0 else 1) < 30))=true:=by rfl)
  (hline:(apos.endLine == cpos.line)=true:=by rfl) (hs:starEach [e,f] X.env=(false,eval e X.env)::starEach [f] X.env:=by rfl) (hs2:starEach [f] X.env=(false,eval f X.env)::starEach [] X.env:=by rfl) (hplain:(backTo cpos (starEach [f] X.env)).any (·.1)=false:=by rfl):
  DE X E (.Call (.Attribute o "setdefault" apos) [e,f] [] cpos) (mM .dct kj to (Q1 te (Q1 tf Q9))):=
 bV .dct (.inr (.inl rfl)) PySem.F.plainAttrs_dict PySem.F.slot_dict_setdefault PySem.F.type_dict_setdefault WZ JA ho (Q2 ha (Q2 hf Z0 hs2) hs) hbase hfew hline hs hplain
def yA (o:D) (xs:List D):M D:=fun c=>match V8 o c,xs with
 | some (j,kvs),[k]=>match D1 k with
  | some kk=>match J2 kvs kk with
   | some d=>some (.ok d (c.set j (.dct (ua kvs kk))))
   | none=>none
  | none=>none
 | _,_=>none
def qa8:V->List V->Hp->VK->Prop:=fun x vs H Q=>∃ a k v kvs,x=.ref a/\vs=[kV k]/\H a=some (.dK kvs)/\kd kvs k=some v/\Q v (upd H a (.dK (Vs kvs k)))
theorem XE:MtR X "dict.pop" qa8:=by
 intro pins s σ H x vs v us Q I rx rv h
 obtain ⟨a,k,z,kvs,rfl,rfl,ha,hv,q⟩:=h
 cases rx
 cases rv with
 | cons r1 t1=>
  cases t1
  exact qe4 I ha r1 hv (.inl rfl) fun w' s' I' rw'=>⟨_,_,I',rw',q⟩
theorem JB:MtD X E qa8 yA:=by
 intro H O c o xs v vs Q hc ro rx p
 unfold yA at p
 cases z:V8 o c with
 | none=>rw [z] at p;exact p.elim
 | some q=>
  obtain ⟨j,kvs⟩:=q
  rw [z] at p
  obtain ⟨a,us,e1,hO,ha,kr,nd,hk⟩:=qk hc ro z
  cases rx with
  | nil=>exact p.elim
  | cons r1 r2=>
   cases r2 with
   | cons _ _=>exact p.elim
   | nil=>
    rename_i v1 d1
    simp only at p
    cases z2:D1 d1 with
    | none=>rw [z2] at p;exact p.elim
    | some kk=>
     rw [z2] at p
     simp only at p
     cases z3:J2 kvs kk with
     | none=>rw [z3] at p;exact p.elim
     | some d=>
      rw [z3] at p
      have ey:=xy r1 z2
      subst ey
      obtain ⟨w',hw',rw_⟩:=kr.val_some z3
      obtain ⟨ex,cx⟩:=hc.setK hO (kr.drop (k:=kk)) (wL nd)
      exact ⟨a,kK kk,w',us,e1,rfl,ha,hw',p _ O ex cx _ (rw_.mono ex)⟩
theorem qam (ho:DE X E o to) (ha:DE X E e te) (hbase:attributeBase o "pop" X.env (eval o X.env)=eval o X.env:=by rfl)
  (hfew:((backTo cpos (starEach [e] X.env)).all (fun x=>!x.1) && (backToKw cpos (keywordEach [] X.env)).all (fun x=>x.1.isSome) && decide (([e]:List Expr).length+([]:List Keyword).length+(if ([]:List Keyword).isEmpty then 0 else 1) < 30))=true:=by rfl)
  (hline:(apos.endLine == cpos.line)=true:=by rfl) (hs:starEach [e] X.env=(false,eval e X.env)::starEach [] X.env:=by rfl) (hplain:(backTo cpos (starEach [] X.env)).any (·.1)=false:=by rfl):
  DE X E (.Call (.Attribute o "pop" apos) [e] [] cpos) (mM .dct yA to (Q1 te Q9)):=
 bV .dct (.inr (.inl rfl)) PySem.F.plainAttrs_dict PySem.F.slot_dict_pop PySem.F.type_dict_pop XE JB ho (Q2 ha Z0 hs) hbase hfew hline hs hplain
def QW (o:D) (xs:List D):M D:=fun c=>match yu o c,xs with
 | some (k,ys),[]=>some (.ok .non (c.set k (.lst ys.reverse)))
 | _,_=>none
theorem XA:MtD X E jO QW:=by
 intro H O c o xs v vs Q hc ro rx p
 unfold QW at p
 cases z:yu o c with
 | none=>rw [z] at p;exact p.elim
 | some q=>
  obtain ⟨k,ys⟩:=q
  rw [z] at p
  obtain ⟨a,us,e1,hO,ha,ru,hk⟩:=Ka hc ro z
  cases rx with
  | cons _ _=>exact p.elim
  | nil=>
   obtain ⟨ex,cx⟩:=hc.setL hO ru.rev
   exact ⟨a,us,e1,rfl,ha,p _ O ex cx _ .non⟩
theorem qag (ho:DE X E o to) (hbase:attributeBase o "reverse" X.env (eval o X.env)=eval o X.env:=by rfl) (hline:(apos.endLine == cpos.line)=true:=by rfl):DE X E (.Call (.Attribute o "reverse" apos) [] [] cpos) (mM .lst QW to Q9):=
 qdd .lst (.inl rfl) PySem.F.plainAttrs_list PySem.F.slot_list_reverse PySem.F.type_list_reverse wQ XA ho hbase hline
end
open PyProof.Rows hiding St
theorem qI:∀ {xs:List V} {us:List Value},xs.length=us.length->(∀ (j:Nat) x u,xs[j]?=some x->us[j]?=some u->Y8 x u)->Y4 xs us
 | [],[],_,_=>.nil
 | x::xs,u::us,hl,h=>.cons (h 0 x u rfl rfl) (qI (by simpa using hl) fun j y w h1 h2=>h (j+1) y w (by simpa using h1) (by simpa using h2))
 | [],_::_,hl,_=>by simp at hl
 | _::_,[],hl,_=>by simp at hl
theorem JJ {P:Program} {w:World} {k:Key} {u:Value} (h:(W7 P w).is k u=true):Y8 (kV k) u:=by
 rw [wU] at h
 rcases G3 h with ⟨i,t,rfl,rfl⟩ | ⟨x,t,rfl,rfl⟩
 ·exact ⟨t,rfl⟩
 ·exact ⟨t,rfl⟩
section
variable {X:Cx} {E:XK} {a b e o i value:Expr} {ta tb te to ti:ED} {pos pos' apos cpos tpos:Pos}
theorem xC (hcalm:X.calm=true):D6 X (.type "list") (fun xs H Q=>∃ a kvs,xs=[.ref a]/\H a=some (.dK kvs)/\∀ l,H l=none->Q (.ref l) (upd H l (.lst (kvs.map fun p=>kV p.1)))):=by
 intro pins s σ H xs us Q I r h
 obtain ⟨a,kvs,rfl,ha,q⟩:=h
 obtain ⟨u,rfl,rx⟩:=fh r
 cases rx
 obtain ⟨z,hd,vs,rel,dd⟩:=Vt I.hok ha
 obtain ⟨ep,hat⟩:=dd.dictAt
 refine kdl_call (PySem.W.kdl_dict (knd:=W7 X.prog X.w) (kvs:=vs) (ep:=ep) hd) (I.ok.hd hcalm) hat (by rw [← rel.length];exact z) fun h' tk acc' c' hk hD hacc=>?_
 have hlen:(kvs.map fun p=>kV p.1).length=acc'.toList.length:=by
  have h1:=hacc.1
  have h2:=rel.length
  simp only [List.length_map,Array.length_toList]
  omega
 have hv:Y4 (kvs.map fun p=>kV p.1) acc'.toList:=qI hlen fun j x u h1 h2=>by
  obtain ⟨k,y,e1,e2⟩:=hacc.2 j u (by rw [← Array.getElem?_toList];exact h2)
  have hk1:=congrArg (·[j]?) rel.keys
  simp only [List.getElem?_map,e1,Option.map_some] at hk1
  rw [List.getElem?_map] at h1
  cases zz:kvs[j]? with
  | none=>rw [zz] at h1;cases h1
  | some p=>
   rw [zz] at h1 hk1
   simp only [Option.map_some,Option.some.injEq] at h1 hk1
   rw [← h1,hk1]
   exact JJ e2
 have hz:(kvs.map fun p=>kV p.1).length<=sizeLine:=by rw [List.length_map];exact z
 exact ⟨.ref s.heap.objs.size,_,I.laid (t':=tk) hk (Nat.le_refl _) (show X4 X.prog X.w _ h' _ (.lst _) from ⟨hz,acc'.toList,c',hv,by simpa using hD⟩),rfl,q _ (I.hok.fresh (Nat.le_refl _))⟩
def dkD:DK->D
 | .inl i=>.int i
 | .inr x=>.str x
theorem Yk {K:Frag} {H:Hp} {O:Ow}:∀ {kvs:List (DK×D)} {us:List (Key×V)},X5 K H O us kvs->Reps K H O (us.map fun p=>kV p.1) (kvs.map fun p=>dkD p.1)
 | [],_,h=>by rw [h.nil_inv];exact .nil
 | p::kvs,us,h=>by
  obtain ⟨v,us',rfl,r,t⟩:=h.cons_inv
  obtain ⟨k,d⟩:=p
  cases k with
  | inl i=>exact .cons (.int i) (Yk t)
  | inr x=>exact .cons (.str x) (Yk t)
def Bf (d:D):M D:=fun c=>match V8 d c with
 | some (_,kvs)=>some (.ok (.lst (kvs.map fun p=>dkD p.1)) c)
 | none=>none
theorem vW {p2:Pos} (hcalm:X.calm=true) (hm:X.mg "list"=none) (ha:DE X E a ta) (hg:Gl X "list":=by rfl) (hst:starEach [a] X.env=[(false,eval a X.env)]:=by rfl):DE X E (.Call (.Name "list" p2) [a] [] pos) (d1 Bf ta):=
 qbm (xC hcalm) (fun H O c d v Q hc r p=>by
  unfold Bf at p
  cases z:V8 d c with
  | none=>rw [z] at p;exact p.elim
  | some q=>
   obtain ⟨j,kvs⟩:=q
   rw [z] at p
   obtain ⟨a,us,e,hO,ha,kr,nd,hk⟩:=qk hc r z
   refine ⟨a,us,by rw [e],ha,fun q n=>?_⟩
   exact V2.new p hc n (hc.lstNew n (Yk kr))) hm ha (hg:=hg) (hst:=hst)
def tLV (to:TE):TE:=fun σ H Q=>to σ H fun x H1=>∃ a kvs,x=.ref a/\H1 a=some (.dK kvs)/\∀ l,H1 l=none->Q (.ref l) (upd H1 l (.lst (kvs.map (·.2))))
theorem ZN {to:TE} {p2:Pos} (hcalm:X.calm=true) (hm:X.mg "list"=none) (ho:PE X o to) (hg:Gl X "list":=by rfl)
  (hbase:attributeBase o "values" X.env (eval o X.env)=eval o X.env:=by rfl) (hline:(apos.endLine == cpos.line)=true:=by rfl)
  (hst:starEach [.Call (.Attribute o "values" apos) [] [] cpos] X.env=(false,eval (.Call (.Attribute o "values" apos) [] [] cpos) X.env)::starEach [] X.env:=by rfl):
  PE X (.Call (.Name "list" p2) [.Call (.Attribute o "values" apos) [] [] cpos] [] pos) (tLV to):=by
 intro pins s σ H Q I h
 refine wpAny_Call_Name_kw (Yw (u:=.type "list") I hg hm (by rfl) ?_ (by decide) (by decide))
 refine PyProof.Rows.callWith_type1 ?_ hst rfl
 rw [hst]
 show wpAny _ _ (spliced ((false,eval (.Call (.Attribute o "values" apos) [] [] cpos) X.env)::backTo pos (starEach [] X.env))) _ _ s
 refine Calls.spliced_cons ?_
 refine wpAny_Call_method0_late hbase hline (thn (ho pins s σ H _ I h) fun v s1 ⟨x,H1,I1,r1,a,kvs,ex,ha,q⟩=>?_)
 subst ex
 cases r1
 obtain ⟨t1,t2,t3⟩:=qc2 I1 (.inl ⟨kvs,.inl ha⟩)
 refine ⟨"dict","dict.values",PySem.F.plainAttrs_dict,PySem.F.slot_dict_values,PySem.F.type_dict_values,t1,t2,Calls.callWith_builtin rfl (PySem.evalArgs_none ?_)⟩
 obtain ⟨z,hd,vs,rel,dd⟩:=Vt I1.hok ha
 refine call_meetsIn PySem.F.slot_dict_values dd.typeIs PySem.F.entry_dict_values (PySem.F.args_dict_values_1 _) (meets_dict_values (W7 X.prog X.w) a hd) ⟨⟨vs,dd⟩,?_⟩
 refine Calls.spliced_nil ?_
 have I2:Inv X pins σ H1 { s1 with heap:=s1.heap.push { cls:=.type "dict_values",data:=.fields #[.ref a] } }:=I1.kept (t':=s1.toks) fun b u hb=>Heap.get?_push_of_some _ hb
 obtain ⟨z2,hd2,vs2,rel2,dd2⟩:=Vt I2.hok ha
 obtain ⟨ep,hat⟩:=dd2.dictAt
 refine kdl_call (PySem.W.kdl_values (knd:=W7 X.prog X.w) (kvs:=vs2) (ep:=ep) (r:=s1.heap.objs.size)) (I2.ok.hd hcalm) ⟨⟨_,Heap.get?_push_size _ rfl,rfl,rfl⟩,hat⟩ (by rw [← rel2.length];exact z2) fun h' tk acc' c' hk hD hacc=>?_
 have hlen:(kvs.map (·.2)).length=acc'.toList.length:=by
  have h1:=hacc.1
  have h2:=rel2.length
  simp only [List.length_map,Array.length_toList]
  omega
 have hv:Y4 (kvs.map (·.2)) acc'.toList:=qI hlen fun j x u h1 h2=>by
  obtain ⟨k,e1⟩:=hacc.2 j u (by rw [← Array.getElem?_toList];exact h2)
  rw [List.getElem?_map] at h1
  cases zz:kvs[j]? with
  | none=>rw [zz] at h1;cases h1
  | some p=>
   rw [zz] at h1
   simp only [Option.map_some,Option.some.injEq] at h1
   have:=kv_get rel2 zz e1
   rw [← h1]
   exact this
 have hz:(kvs.map (·.2)).length<=sizeLine:=by rw [List.length_map];exact z2
 exact ⟨.ref _,_,I2.laid (t':=tk) hk (Nat.le_refl _) (show X4 X.prog X.w _ h' _ (.lst _) from ⟨hz,acc'.toList,c',hv,by simpa using hD⟩),rfl,q _ (I2.hok.fresh (Nat.le_refl _))⟩
where
 kv_get:∀ {kvs:List (Key×V)} {vs:List (Key×Value)} {j:Nat} {p:Key×V} {k:Key} {u:Value},KV kvs vs->kvs[j]?=some p->vs[j]?=some (k,u)->Y8 p.2 u:=by
  intro kvs vs j p k u r
  unfold KV at r
  induction r generalizing j with
  | nil=>intro h;cases h
  | cons h t ih=>
   intro h1 h2
   cases j with
   | zero=>
    simp only [List.getElem?_cons_zero,Option.some.injEq] at h1 h2
    subst h1 h2
    exact h.2
   | succ j=>exact ih (by simpa using h1) (by simpa using h2)
def bL (d:D):M D:=fun c=>match V8 d c with
 | some (_,kvs)=>some (.ok (.lst (kvs.map (·.2))) c)
 | none=>none
theorem YJ {p2:Pos} (hcalm:X.calm=true) (hm:X.mg "list"=none) (ho:DE X E o to) (hg:Gl X "list":=by rfl)
  (hbase:attributeBase o "values" X.env (eval o X.env)=eval o X.env:=by rfl) (hline:(apos.endLine == cpos.line)=true:=by rfl)
  (hst:starEach [.Call (.Attribute o "values" apos) [] [] cpos] X.env=(false,eval (.Call (.Attribute o "values" apos) [] [] cpos) X.env)::starEach [] X.env:=by rfl):
  DE X E (.Call (.Name "list" p2) [.Call (.Attribute o "values" apos) [] [] cpos] [] pos) (d1 bL to):=by
 refine ⟨PE.imp (ZN hcalm hm ho.h hg hbase hline hst) fun σ H Q h=>?_⟩
 obtain ⟨O,l,c,hl,hc,p⟩:=h
 refine Z3 hl hc p fun x v H1 O1 c1 e1 hl1 hc1 rv p1=>?_
 unfold bL at p1
 cases z:V8 x c1 with
 | none=>rw [z] at p1;exact p1.elim
 | some q=>
  obtain ⟨j,kvs⟩:=q
  rw [z] at p1
  obtain ⟨a,us,ea,hO,ha,kr,nd,hk⟩:=qk hc1 rv z
  exact ⟨a,us,ea,ha,fun q n=>V2.new p1 hc1 n (hc1.lstNew n kr.2)⟩
def VX (i:Nat) (f:Int->Int->Int) (te:ED):SD:=fun l=>match l[i]? with
 | some (some (.int n))=>(te l).bd fun d=>match d with
  | .int m=>M.ret (.nx (l.set i (some (.int (f n m)))))
  | _=>M.stuck
 | _=>M.stuck
theorem qdb {i:Nat} {x:Str} {op:Operator} {f:Int->Int->Int} (ho:PIp X op (ipI f)) (hN:X.N.Nodup) (he:DE X E e te) (hi:X.N[i]?=some x:=by rfl) (hx:Loc X.env.scope x:=by first | exact Or.inl rfl | exact Or.inr rfl)
  (hf:X.fn x=true\/X.env.scope.names.lookup x=some .local:=by first | exact .inl rfl | exact .inr rfl):DS X E (.AugAssign (.Name x pos') op e pos) (VX i f te):=by
 refine ⟨PS.imp (qb8 hN hi hx he.h ho hf) fun Dn σ H h=>?_⟩
 obtain ⟨O,l,c,hl,hc,p⟩:=h
 unfold VX at p
 cases z:l[i]? with
 | none=>rw [z] at p;exact p.elim
 | some od=>
  cases od with
  | none=>rw [z] at p;exact p.elim
  | some d=>
   obtain ⟨v,h1,h2⟩:=hl.at_ i d z
   cases h2 with
   | int n=>
    rw [z] at p
    refine ⟨_,h1,Z3 hl hc p fun y u H1 O1 c1 e1 hl1 hc1 ru p1=>?_⟩
    cases ru with
    | int m=>exact ⟨n,m,rfl,rfl,J4.ret p1 hc1 _ (hl1.set i (.int _))⟩
    | _=>exact p1.elim
   | _=>rw [z] at p;exact p.elim
end
open Classical in
def gF (tb:SD) (N:List Str) (P:List D->List Cell->D->List Cell->Prop):FD:=fun ds c=>if h:∃ q:D×List Cell,P ds c q.1 q.2/\Fin c (tb (Z1 N ds) c) (some (.ok q.1 q.2)) then some (.ok (Classical.choose h).1 (Classical.choose h).2) else none
theorem QU {tb:SD} {N:List Str} {P:List D->List Cell->D->List Cell->Prop} {n:Nat}:∀ ds c r,ds.length=n->gF tb N P ds c=some r->∃ d c1,r=.ok d c1/\Fin c (tb (Z1 N ds) c) (some (.ok d c1)):=by
 intro ds c r hl e
 unfold gF at e
 split at e
 ·rename_i h
  cases e
  exact ⟨_,_,rfl,(Classical.choose_spec h).2⟩
 ·cases e
theorem xE {tb:SD} {N:List Str} {P:List D->List Cell->D->List Cell->Prop} {n:Nat} {ds:List D} {c:List Cell} (hl:ds.length=n) (h:∃ d c',P ds c d c'/\Fin c (tb (Z1 N ds) c) (some (.ok d c'))):∃ d c',P ds c d c'/\gN n (gF tb N P) ds c=some (.ok d c'):=by
 have h':∃ q:D×List Cell,P ds c q.1 q.2/\Fin c (tb (Z1 N ds) c) (some (.ok q.1 q.2)):=let ⟨d,c',h1,h2⟩:=h;⟨(d,c'),h1,h2⟩
 refine ⟨(Classical.choose h').1,(Classical.choose h').2,(Classical.choose_spec h').1,?_⟩
 unfold gN gF
 rw [if_pos hl,dif_pos h']
open PyProof.Rows hiding St
theorem Qu {p:TD} {sb:SD} (I:Nat->L->List Cell->Prop) (J:L->List Cell->Prop)
  (step:∀ m l c,I m l c->(p l c=some (.ok false c)/\J l c)\/(p l c=some (.ok true c)/\∃ l2 c2 m2,(sb l c=some (.ok (.nx l2) c2)\/sb l c=some (.ok (.ct l2) c2))/\I m2 l2 c2/\m2 < m)):
  ∀ (fuel:Nat) (m:Nat) (l:L) (c:List Cell),I m l c->m < fuel->∃ l' c',vr p sb fuel l c=some (.ok (.nx l') c')/\J l' c'
 | 0,_,_,_,_,h=>absurd h (Nat.not_lt_zero _)
 | fuel+1,m,l,c,h,hm=>by
  rcases step m l c h with ⟨h1,h2⟩ | ⟨h1,l2,c2,m2,h2,h3,h4⟩
  ·refine ⟨l,c,?_,h2⟩
   simp only [vr]
   rw [Z9 h1]
   rfl
  ·obtain ⟨l',c',h5,h6⟩:=Qu I J step fuel m2 l2 c2 h3 (by omega)
   refine ⟨l',c',?_,h6⟩
   simp only [vr]
   rw [Z9 h1]
   rcases h2 with h2 | h2
   ·simp only [if_true];rw [Z9 h2];exact h5
   ·simp only [if_true];rw [Z9 h2];exact h5
theorem Yu {α:Type} [BEq α] [LawfulBEq α]:∀ {xs ys:List α},xs.Nodup->(∀ x∈xs,x∈ys)->xs.length<=ys.length
 | [],_,_,_=>Nat.zero_le _
 | x::xs,ys,n,h=>by
  rw [List.nodup_cons] at n
  have hx:=h x List.mem_cons_self
  have ih:=Yu (xs:=xs) (ys:=ys.erase x) n.2 fun y hy=>(List.mem_erase_of_ne (fun e=>n.1 (by rw [← e];exact hy))).mpr (h y (List.mem_cons_of_mem _ hy))
  rw [List.length_erase_of_mem hx] at ih
  have:0 < ys.length:=List.length_pos_of_mem hx
  rw [List.length_cons]
  omega
abbrev Q8 (n:Int) (p q:List Nat) (r:Int):D:=.tup [.int n,.str p,.str q,.int r]
def kc (rows:List D) (n:Int) (p q:List Nat) (r:Int):Prop:=Q8 n p q r∈rows\/Q8 n q p (0 - r)∈rows
inductive Walk (rows:List D) (other:List Nat):List Nat->List (List Nat)->List D->Prop where
 | nil {gone:List (List Nat)} (h:other∉gone):Walk rows other other gone []
 | cons {n r:Int} {p q:List Nat} {gone:List (List Nat)} {xs:List D} (s:kc rows n p q r) (h:p∉gone) (t:Walk rows other q (gone++[p]) xs):Walk rows other p gone (Q8 n p q r::xs)
def xS:D->D
 | .tup [.int n,.str p,.str q,.int r]=>.tup [.int n,.str q,.str p,.int (0 - r)]
 | d=>d
def O6:List D->List D
 | []=>[]
 | x::xs=>x::xS x::O6 xs
theorem yI:∀ xs:List D,(O6 xs).length=2 * xs.length
 | []=>rfl
 | x::xs=>by simp [O6,yI xs];omega
theorem yJ:∀ xs ys:List D,O6 (xs++ys)=O6 xs++O6 ys
 | [],_=>rfl
 | x::xs,ys=>by simp [O6,yJ xs ys]
theorem qB {n r:Int} {p q:List Nat}:∀ {rows:List D},rows.all U4=true->Q8 n p q r∈O6 rows->kc rows n p q r
 | [],_,h=>by cases h
 | x::xs,ho,h=>by
  simp only [List.all_cons,Bool.and_eq_true] at ho
  simp only [O6,List.mem_cons] at h
  rcases h with h | h | h
  ·exact .inl (by rw [h];exact List.mem_cons_self)
  ·obtain ⟨n',p',q',r',rfl⟩:=T6 ho.1
   simp only [xS,D.tup.injEq,List.cons.injEq,D.int.injEq,D.str.injEq,and_true] at h
   obtain ⟨rfl,rfl,rfl,rfl⟩:=h
   refine .inr ?_
   have e:(0:Int) - (0 - r')=r':=by omega
   rw [e]
   exact List.mem_cons_self
  ·rcases qB ho.2 h with h | h
   ·exact .inl (List.mem_cons_of_mem _ h)
   ·exact .inr (List.mem_cons_of_mem _ h)
theorem Yg {n r:Int} {p q:List Nat}:∀ {rows:List D},Q8 n p q r∈rows->Q8 n p q r∈O6 rows/\Q8 n q p (0 - r)∈O6 rows
 | [],h=>by cases h
 | x::xs,h=>by
  rcases List.mem_cons.mp h with h | h
  ·subst h
   exact ⟨List.mem_cons_self,List.mem_cons_of_mem _ List.mem_cons_self⟩
  ·have ih:=Yg h
   exact ⟨List.mem_cons_of_mem _ (List.mem_cons_of_mem _ ih.1),List.mem_cons_of_mem _ (List.mem_cons_of_mem _ ih.2)⟩
theorem kc.edge {rows:List D} {n r:Int} {p q:List Nat} (h:kc rows n p q r):Zs rows p q\/Zs rows q p:=by
 rcases h with h | h
 ·exact .inl ⟨_,_,h⟩
 ·exact .inr ⟨_,_,h⟩
theorem kc.ends {rows:List D} {n r:Int} {p q:List Nat} (h:kc rows n p q r):p∈ends rows/\q∈ends rows:=by
 rcases h with h | h
 ·exact Jj h
 ·exact (Jj h).symm
theorem kc.reach {rows:List D} {n r:Int} {one p q:List Nat} (h:kc rows n p q r) (g:Reach rows one p):Reach rows one q:=by
 rcases h.edge with e | e
 ·exact g.fwd e
 ·exact g.bwd e
def frm (p:List Nat):D->Bool
 | .tup [.int _,.str p',.str _,.int _]=>decide (p'=p)
 | _=>false
theorem qc7 {p:List Nat} {d:D} (h:frm p d=true):∃ n q r,d=Q8 n p q r:=by
 unfold frm at h
 split at h
 ·rw [decide_eq_true_eq] at h
  subst h
  exact ⟨_,_,_,rfl⟩
 ·cases h
theorem yk {p p' q:List Nat} {n r:Int}:frm p (Q8 n p' q r)=decide (p'=p):=rfl
def C9 (c cs:List Cell):Prop:=∃ ex,cs=c++ex
theorem C9.refl (c:List Cell):C9 c c:=⟨[],by simp⟩
theorem C9.push {c cs:List Cell} (h:C9 c cs) (x:Cell):C9 c (cs++[x]):=by
 obtain ⟨ex,rfl⟩:=h
 exact ⟨ex++[x],by simp⟩
theorem C9.set {c cs:List Cell} (h:C9 c cs) {j:Nat} (x:Cell) (hj:c.length<=j):C9 c (cs.set j x):=by
 obtain ⟨ex,rfl⟩:=h
 exact ⟨ex.set (j - c.length) x,by rw [List.set_append_right _ _ hj]⟩
theorem C9.len {c cs:List Cell} (h:C9 c cs):c.length<=cs.length:=by
 obtain ⟨ex,rfl⟩:=h
 simp
theorem C9.kept {c cs:List Cell} (h:C9 c cs):R6 c cs:=by
 obtain ⟨ex,rfl⟩:=h
 exact R6.app c ex
theorem C9.take {c cs:List Cell} (h:C9 c cs):cs.take c.length=c:=by
 obtain ⟨ex,rfl⟩:=h
 simp
theorem C9.trans {a b c:List Cell} (h:C9 a b) (g:C9 b c):C9 a c:=by
 obtain ⟨e1,rfl⟩:=h
 obtain ⟨e2,rfl⟩:=g
 exact ⟨e1++e2,by simp⟩
structure Lv (c:List Cell) (S:List D) (i:Nat) (cs:List Cell):Prop where
 grown:C9 c cs
 hi:c.length<=i
 at_:∃ kvs,cs[i]?=some (.dct kvs)/\kvs.length<=S.length/\(∀ p d,J2 kvs (.inr p)=some d->∃ j,d=.hnd j/\c.length<=j/\cs[j]?=some (.lst (S.filter (frm p))))/\
  (∀ p1 p2 j,J2 kvs (.inr p1)=some (.hnd j)->J2 kvs (.inr p2)=some (.hnd j)->p1=p2)/\(∀ p,J2 kvs (.inr p)=none->S.filter (frm p)=[])
theorem Yn (kvs:List (DK×D)) (k:DK) (v:D):(U6 kvs k v).length<=kvs.length+1:=by
 unfold U6
 split <;> simp
theorem Ym {kvs:List (DK×D)} {k:DK} (v:D) (h:J2 kvs k=none):U6 kvs k v=kvs++[(k,v)]:=by
 unfold U6
 rw [h]
 rfl
theorem Lv.there {c:List Cell} {S:List D} {i:Nat} {cs:List Cell} {n r:Int} {p q:List Nat} {kvs:List (DK×D)} {j:Nat} (h:Lv c S i cs) (hk:cs[i]?=some (.dct kvs)) (hv:J2 kvs (.inr p)=some (.hnd j)):
  c.length<=j/\cs[j]?=some (.lst (S.filter (frm p)))/\Lv c (S++[Q8 n p q r]) i ((cs++[Cell.lst []]).set j (Cell.lst (S.filter (frm p)++[Q8 n p q r]))):=by
 obtain ⟨kvs',hk',hl,h1,h2,h3⟩:=h.at_
 rw [hk] at hk';cases hk'
 obtain ⟨j',e,hj,hc⟩:=h1 p _ hv
 cases e
 refine ⟨hj,hc,(h.grown.push _).set _ hj,h.hi,kvs,?_,by simp;omega,fun p' d hd=>?_,h2,fun p' hn=>?_⟩
 ·have ne:j≠i:=fun e=>by rw [e,hk] at hc;cases hc
  rw [List.getElem?_set_ne ne,List.getElem?_append_left (List.getElem?_eq_some_iff.mp hk).1]
  exact hk
 ·obtain ⟨j',rfl,hj',hc'⟩:=h1 p' d hd
  refine ⟨j',rfl,hj',?_⟩
  by_cases e:j=j'
  ·subst e
   have ep:=h2 p p' j hv hd
   subst ep
   rw [List.getElem?_set_self (by rw [List.length_append];have:=(List.getElem?_eq_some_iff.mp hc).1;omega),List.filter_append]
   simp [yk]
  ·have np:¬ p=p':=fun z=>e (by subst z;rw [hv] at hd;cases hd;rfl)
   rw [List.getElem?_set_ne e,List.getElem?_append_left (List.getElem?_eq_some_iff.mp hc').1,hc',List.filter_append]
   simp [yk,np]
 ·have np:¬ p=p':=fun z=>by subst z;rw [hv] at hn;cases hn
  rw [List.filter_append,h3 p' hn]
  simp [yk,np]
theorem Lv.new {c:List Cell} {S:List D} {i:Nat} {cs:List Cell} {n r:Int} {p q:List Nat} {kvs:List (DK×D)} (h:Lv c S i cs) (hk:cs[i]?=some (.dct kvs)) (hv:J2 kvs (.inr p)=none):
  Lv c (S++[Q8 n p q r]) i (((cs++[Cell.lst []]).set i (Cell.dct (U6 kvs (.inr p) (.hnd cs.length)))).set cs.length (Cell.lst [Q8 n p q r])):=by
 obtain ⟨kvs',hk',hl,h1,h2,h3⟩:=h.at_
 rw [hk] at hk';cases hk'
 have hi:=(List.getElem?_eq_some_iff.mp hk).1
 have hlen:=h.grown.len
 have old:∀ p' j',J2 kvs (.inr p')=some (.hnd j')->j' < cs.length/\j'≠i:=fun p' j' e=>by
  obtain ⟨j2,e2,_,hc⟩:=h1 p' _ e
  cases e2
  exact ⟨(List.getElem?_eq_some_iff.mp hc).1,fun z=>by rw [z,hk] at hc;cases hc⟩
 refine ⟨((h.grown.push _).set _ h.hi).set _ hlen,h.hi,U6 kvs (.inr p) (.hnd cs.length),?_,?_,fun p' d hd=>?_,fun p1 p2 j a b=>?_,fun p' hn=>?_⟩
 ·rw [List.getElem?_set_ne (by omega),List.getElem?_set_self (by simp;omega)]
 ·have:=Yn kvs (.inr p) (.hnd cs.length)
  simp only [List.length_append,List.length_singleton]
  omega
 ·rw [N2] at hd
  by_cases e:(Sum.inr p':DK)=.inr p
  ·rw [if_pos e] at hd
   cases hd
   cases e
   refine ⟨_,rfl,hlen,?_⟩
   rw [List.getElem?_set_self (by simp),List.filter_append,h3 p hv]
   simp [yk]
  ·rw [if_neg e] at hd
   obtain ⟨j',rfl,hj',hc'⟩:=h1 p' d hd
   obtain ⟨o1,o2⟩:=old p' j' hd
   refine ⟨j',rfl,hj',?_⟩
   have np:¬ p=p':=fun z=>e (by rw [z])
   rw [List.getElem?_set_ne (by omega),List.getElem?_set_ne (fun z=>o2 z.symm),List.getElem?_append_left o1,hc',List.filter_append]
   simp [yk,np]
 ·rw [N2] at a b
  by_cases e1:(Sum.inr p1:DK)=.inr p
  ·by_cases e2:(Sum.inr p2:DK)=.inr p
   ·cases e1;cases e2;rfl
   ·rw [if_pos e1] at a
    rw [if_neg e2] at b
    cases a
    have:=(old p2 _ b).1
    omega
  ·rw [if_neg e1] at a
   by_cases e2:(Sum.inr p2:DK)=.inr p
   ·rw [if_pos e2] at b
    cases b
    have:=(old p1 _ a).1
    omega
   ·rw [if_neg e2] at b
    exact h2 p1 p2 j a b
 ·rw [N2] at hn
  by_cases e:(Sum.inr p':DK)=.inr p
  ·rw [if_pos e] at hn;cases hn
  ·rw [if_neg e] at hn
   have np:¬ p=p':=fun z=>e (by rw [z])
   rw [List.filter_append,h3 p' hn]
   simp [yk,np]
structure Lst (rows:List D) (one:List Nat) (pegs:List (List Nat)) (kvs:List (DK×D)):Prop where
 keys:kvs.map (·.1)=pegs.map Sum.inr
 nodup:pegs.Nodup
 first:pegs[0]?=some one
 val0:J2 kvs (.inr one)=some .non
 val:∀ (k:Nat) p,pegs[k]?=some p->0 < k->∃ n q r,∃ j:Nat,j < k/\pegs[j]?=some q/\J2 kvs (.inr p)=some (Q8 n q p r)/\kc rows n q p r
 vals:∀ d∈kvs.map (·.2),d=.non\/U4 d=true
 room:pegs.length+xj rows pegs<=2 * rows.length+1
theorem Lst.has {rows:List D} {one:List Nat} {pegs:List (List Nat)} {kvs:List (DK×D)} (h:Lst rows one pegs kvs) (p:List Nat):(J2 kvs (.inr p)).isSome=decide (p∈pegs):=by
 have:(J2 kvs (.inr p)).isSome=true↔p∈pegs:=by
  rw [valD_key,h.keys,List.mem_map]
  exact ⟨fun ⟨a,b,e⟩=>by cases e;exact b,fun b=>⟨p,b,rfl⟩⟩
 cases z:(J2 kvs (.inr p)).isSome with
 | true=>simp [this.mp z]
 | false=>
  have:p∉pegs:=fun m=>by rw [this.mpr m] at z;cases z
  simp [this]
theorem Lst.start (rows:List D) (one:List Nat):Lst rows one [one] [(.inr one,.non)] where
 keys:=rfl
 nodup:=by simp
 first:=rfl
 val0:=by simp [K0]
 val:=fun k p h hk=>by
  have:=(List.getElem?_eq_some_iff.mp h).1
  simp at this
  omega
 vals:=fun d hd=>by simp at hd;exact .inl hd
 room:=by
  have:=Gp rows [one]
  simp only [List.length_singleton]
  omega
theorem Lst.add {rows:List D} {one:List Nat} {pegs:List (List Nat)} {kvs:List (DK×D)} {n r:Int} {p q:List Nat} {k:Nat} (h:Lst rows one pegs kvs) (hp:pegs[k]?=some p) (hs:kc rows n p q r) (hq:q∉pegs):
  Lst rows one (pegs++[q]) (kvs++[(.inr q,Q8 n p q r)]):=by
 have hk:=(List.getElem?_eq_some_iff.mp hp).1
 have vn:J2 kvs (.inr q)=none:=by
  have:=h.has q
  rw [decide_eq_false hq] at this
  cases z:J2 kvs (.inr q) with
  | none=>rfl
  | some d=>rw [z] at this;cases this
 have look:∀ x,J2 (kvs++[(Sum.inr q,Q8 n p q r)]) (.inr x)=if x=q then some (Q8 n p q r) else J2 kvs (.inr x):=fun x=>by
  rw [← Ym _ vn,N2]
  by_cases e:x=q
  ·subst e;simp
  ·have e':¬ (Sum.inr x:DK)=.inr q:=fun z=>e (by cases z;rfl)
   rw [if_neg e',if_neg e]
 have m1:one∈pegs:=List.mem_of_getElem? h.first
 exact {
  keys:=by rw [List.map_append,List.map_append,h.keys];rfl
  nodup:=by
   rw [List.nodup_append]
   refine ⟨h.nodup,by simp,fun a ha b hb=>?_⟩
   simp only [List.mem_singleton] at hb
   subst hb
   exact fun z=>hq (z ▸ ha)
  first:=by rw [List.getElem?_append_left (by omega)];exact h.first
  val0:=by rw [look,if_neg (fun z:one=q=>hq (z ▸ m1))];exact h.val0
  val:=fun k' p' hp' hk'=>by
   by_cases e:k' < pegs.length
   ·rw [List.getElem?_append_left e] at hp'
    obtain ⟨n',q',r',j,hj,hq',hv,hs'⟩:=h.val k' p' hp' hk'
    refine ⟨n',q',r',j,hj,by rw [List.getElem?_append_left (by omega)];exact hq',?_,hs'⟩
    rw [look,if_neg (fun z:p'=q=>hq (z ▸ List.mem_of_getElem? hp'))]
    exact hv
   ·rw [List.getElem?_append_right (by omega)] at hp'
    have e0:k' - pegs.length=0:=by
     have:=(List.getElem?_eq_some_iff.mp hp').1
     simp at this
     omega
    rw [e0] at hp'
    simp at hp'
    subst hp'
    exact ⟨n,p,r,k,by omega,by rw [List.getElem?_append_left hk];exact hp,by rw [look,if_pos rfl],hs⟩
  vals:=fun d hd=>by
   rw [List.map_append] at hd
   rcases List.mem_append.mp hd with hd | hd
   ·exact h.vals d hd
   ·simp at hd;subst hd;exact .inr rfl
  room:=by
   have:=Gn (hs.ends.2) hq
   have:=h.room
   rw [List.length_append,List.length_singleton]
   omega }
theorem Lst.reach {rows:List D} {one:List Nat} {pegs:List (List Nat)} {kvs:List (DK×D)} (h:Lst rows one pegs kvs):∀ (k:Nat) p,pegs[k]?=some p->Reach rows one p:=by
 intro k
 induction k using Nat.strongRecOn with
 | ind k ih=>
  intro p hp
  by_cases h0:k=0
  ·subst h0;rw [h.first] at hp;cases hp;exact .refl
  ·obtain ⟨n,q,r,j,hj,hq,hv,hs⟩:=h.val k p hp (by omega)
   exact hs.reach (ih j hj q hq)
theorem Lst.sub {rows:List D} {one:List Nat} {pegs:List (List Nat)} {kvs:List (DK×D)} (h:Lst rows one pegs kvs):∀ p∈pegs,p=one\/p∈ends rows:=fun p hp=>by
 obtain ⟨k,hk,e⟩:=List.mem_iff_getElem.mp hp
 have hp':pegs[k]?=some p:=by rw [List.getElem?_eq_getElem hk,e]
 by_cases h0:k=0
 ·subst h0;rw [h.first] at hp';cases hp';exact .inl rfl
 ·obtain ⟨n,q,r,j,hj,hq,hv,hs⟩:=h.val k p hp' (by omega)
  exact .inr hs.ends.2
def Kr (rows:List D) (pegs:List (List Nat)) (m:Nat):Prop:=∀ (k:Nat) p,k < m->pegs[k]?=some p->∀ n q r,Q8 n p q r∈O6 rows->q∈pegs
theorem Lst.all {rows:List D} {one:List Nat} {pegs:List (List Nat)} {kvs:List (DK×D)} (h:Lst rows one pegs kvs) (hc:Kr rows pegs pegs.length) (x:List Nat):x∈pegs↔Reach rows one x:=by
 refine ⟨fun hx=>?_,fun hx=>?_⟩
 ·obtain ⟨k,hk,e⟩:=List.mem_iff_getElem.mp hx
  exact h.reach k x (by rw [List.getElem?_eq_getElem hk,e])
 ·refine QN (List.mem_of_getElem? h.first) (fun p q ⟨n,r,e⟩=>⟨fun hp=>?_,fun hp=>?_⟩) hx
  ·obtain ⟨k,hk,e'⟩:=List.mem_iff_getElem.mp hp
   exact hc k p hk (by rw [List.getElem?_eq_getElem hk,e']) n q r (Yg e).1
  ·obtain ⟨k,hk,e'⟩:=List.mem_iff_getElem.mp hp
   exact hc k q hk (by rw [List.getElem?_eq_getElem hk,e']) n p (0 - r) (Yg e).2
theorem Lst.bel {rows:List D} {one:List Nat} {pegs:List (List Nat)} {kvs:List (DK×D)} (h:Lst rows one pegs kvs) (k:Nat):D.bels k (kvs.map (·.2))=true:=Ki fun d hd=>by
 rcases h.vals d hd with e | e
 ·subst e;rfl
 ·obtain ⟨n,p,q,r,rfl⟩:=T6 e
  simp [D.bel,D.bels]
end DL
namespace DL
open PySem PySem.Spec L2
theorem Vc {chk:List Cell->Prop} {te:ED} {rest:L} {f:D->D} (c:List Cell) (hk:chk c):∀ (xs acc:List D) (o:Option D),(∀ x∈xs,te (some x::rest) c=some (.ok (f x) c))->acc.length+xs.length<=1000000->
  C8 chk (J5 0) ff te xs acc (o::rest) c=some (.ok (.lst (acc++xs.map f)) c)
 | [],acc,o,_,_=>by simp [C8,hk]
 | x::xs,acc,o,h,hl=>by
  have ih:=Vc c hk xs (acc++[f x]) (some x) (fun y hy=>h y (List.mem_cons_of_mem _ hy)) (by simp at hl ⊢;omega)
  simp only [C8,J5,List.set_cons_zero,ff,bK,kQ,if_true]
  rw [if_pos ⟨hk,by simp at hl;omega⟩]
  unfold M.bd noX
  rw [h x List.mem_cons_self]
  simp only
  rw [ih]
  simp
end DL
namespace DL
open PySem PySem.Spec L2
theorem ZX {α:Type} {xs:List α} (n:xs.Nodup) {a b:Nat} (ha:a < xs.length) (hb:b < xs.length) (e:xs[a]=xs[b]):a=b:=by
 have pw:=List.pairwise_iff_getElem.mp n
 rcases Nat.lt_trichotomy a b with h | h | h
 ·exact absurd e (pw a b ha hb h)
 ·exact h
 ·exact absurd e.symm (pw b a hb ha h)
section
variable {f:D->D->M D} {h:D->M D} {k:D->List D->M D} {ta tb to te ti:ED} {t:AD} {l:L} {c c1 c2 c3:List Cell} {x y z:D} {xs:List D} {i n:Nat} {g:FD} {dds:List D} {ty:Ty} {r:Option (Out D)}
theorem Uw (h1:ta l c=some (.ok x c1)) (h2:tb l c1=some (.ok y c2)):d2 f ta tb l c=f x y c2:=by unfold d2;rw [Z9 h1,Z9 h2]
theorem Ux (h1:ta l c=some (.ok x c1)):d1 h ta l c=h x c1:=by unfold d1;rw [Z9 h1]
theorem Ue (h1:to l c=some (.ok x c1)) (ht:tyM x c1=some ty) (h2:t l c1=some (.ok xs c2)):mM ty k to t l c=k x xs c2:=by unfold mM;rw [Z9 h1,if_pos ht,Z9 h2]
theorem Y7 (h1:ta l c=some (.ok x c1)) (h2:t l c1=some (.ok xs c2)):Q1 ta t l c=some (.ok (x::xs) c2):=by unfold Q1;rw [Z9 h1,Z9 h2];rfl
theorem U1:Q9 l c=some (.ok [] c):=rfl
theorem B1 (h1:t l c=some (.ok xs c1)):Z7 n g dds t l c=gN n g (xs++dds) c1:=by unfold Z7;rw [Z9 h1]
theorem J7 (h1:te l c=some (.ok x c1)):Y0 i te l c=some (.ok (.nx (l.set i (some x))) c1):=by unfold Y0;rw [Z9 h1];rfl
theorem qg (h1:te l c=some (.ok x c1)):G8 te l c=some (.ok (.nx l) c1):=by unfold G8;rw [Z9 h1];rfl
theorem N3 (h1:te l c=some (.ok x c1)):Y1 te l c=some (.ok (.ret x) c1):=by unfold Y1;rw [Z9 h1];rfl
theorem WA {e:Exc} (h1:te l c=some (.exc e c1)):Y1 te l c=some (.exc e c1):=by unfold Y1;rw [Vh h1]
theorem xW {e:Exc} (h1:te l c=some (.exc e c1)):Y0 i te l c=some (.exc e c1):=by unfold Y0;rw [Vh h1]
theorem vP {e:Exc} (h1:te l c=some (.exc e c1)):G8 te l c=some (.exc e c1):=by unfold G8;rw [Vh h1]
theorem Wm {a b:SD} {e:Exc} (h:a l c=some (.exc e c1)):Z4 a b l c=some (.exc e c1):=by unfold Z4;rw [Vh h]
theorem wz {p:TD} {a b:SD} (h:p l c=some (.ok true c1)):sIf p a b l c=a l c1:=by unfold sIf;rw [Z9 h];rfl
theorem K8 {p:TD} {a b:SD} (h:p l c=some (.ok false c1)):sIf p a b l c=b l c1:=by unfold sIf;rw [Z9 h];rfl
theorem js {S:Src} {ti:ID} {g:GD} {body:SD} (h:ti l c=some (.ok S c1)):B2 ti g body l c=vf S.chk g body S.xs l c1:=by unfold B2;rw [Z9 h]
theorem uy {te:ED} {r:Option (Out Src)} (h:te l c=some (.ok x c1)) (h2:ki x c1=r):T9 te l c=r:=by unfold T9;rw [Z9 h];exact h2
theorem kE (h:t l c=some (.ok xs c1)) (hl:xs.length<=1000:=by decide):vj t l c=some (.ok (.tup xs) c1):=by unfold vj;rw [Z9 h,if_pos hl];rfl
end
open PyProof.Rows hiding St
section
variable {X:Cx} {pins:List (Addr×Obj)} {σ:St} {H:Hp} {s:Shared} {h':Heap} {xs:List Addr} {t':Nat}
structure FrX (X:Cx) (pins:List (Addr×Obj)) (H:Hp) (b:Addr):Prop where
 un:H b=none
 new:X.s₀.heap.get? b=none
 loc:b≠X.env.locals
 cel:∀ x c,X.env.cells.lookup x=some c->c≠b
 pin:∀ p∈X.pn++pins,p.1≠b
theorem zH {H':Hp} {b:Addr} (hx:X.ex=[]) (I:Inv X pins σ H s) (n:s.heap.get? b=none) (u:H' b=none):FrX X pins H' b where
 un:=u
 new:=by
  cases z:X.s₀.heap.get? b with
  | none=>rfl
  | some o=>
   obtain ⟨o',e⟩:=I.base.there b o z (by rw [hx];simp)
   rw [n] at e;cases e
 loc:=fun e=>by
  obtain ⟨m,⟨o,_,_,ho,_⟩,_⟩:=I.loc
  rw [← e,n] at ho;cases ho
 cel:=fun x c e z=>by
  obtain ⟨v,o,ho,_⟩:=I.cell x c e
  rw [z,n] at ho;cases ho
 pin:=fun p hp z=>by
  have:=(I.pin p hp).1
  rw [z,n] at this;cases this
theorem Wq (I:Inv X pins σ H s) (g:Chg xs (frs X.stack) s.heap h') (n:∀ b∈xs,FrX X pins H b):Inv X pins σ H { s with heap:=h',toks:=t' }:=by
 have nx:∀ b o,X.s₀.heap.get? b=some o->b∉xs:=fun b o e z=>by rw [(n b z).new] at e;cases e
 have nL:∀ b o,X.s₀.heap.get? b=some o->b≠X.env.locals:=fun b o e=>Nat.ne_of_lt (Nat.lt_of_lt_of_le (Heap.lt_size e) I.ok.above)
 have nf:∀ b,b≠X.env.locals->b∉X.fs->b∉frs X.stack:=fun b h1 h2 z=>(List.mem_cons.mp (I.stkSub b z)).elim h1 h2
 have cellK:∀ x c,X.env.cells.lookup x=some c->∀ v,s.heap.IsCell c v->h'.IsCell c v:=fun x c e v ⟨o,ho,hd⟩=>by
  obtain ⟨sl,q⟩:=g.slot c o ho fun z=>(n c z).cel x c e rfl
  exact ⟨_,q,hd⟩
 refine ⟨I.ok,I.os,I.bare,⟨fun b o e m hb hx=>?_,fun b o e m hb hx=>?_,I.base.free,fun b o e hx=>?_,I.base.tups,I.base.frzs,I.base.tbls⟩,?_,fun x c e=>?_,I.free,I.freeC,fun p hp=>?_,bQ I.hok g (fun b hb=>(n b hb).un) I.stkFree,I.len⟩
 ·exact g.keep b o (I.base.keep b o e m hb hx) (nx b o e) (nf b (nL b o e) hb)
 ·obtain ⟨sl,e1⟩:=I.base.slot b o e m hb hx
  obtain ⟨sl2,e2⟩:=g.slot b _ e1 (nx b o e)
  exact ⟨sl2,e2⟩
 ·obtain ⟨o1,e1⟩:=I.base.there b o e hx
  exact g.there b o1 e1
 ·obtain ⟨m,⟨o,es,ep,ho,r⟩,hl⟩:=I.loc
  obtain ⟨sl,hL⟩:=g.slot _ o ho fun z=>(n _ z).loc rfl
  refine ⟨m,⟨_,es,ep,hL,r⟩,fun i x v e1 e2 e3=>?_⟩
  obtain ⟨u,r,l⟩:=hl i x v e1 e2 e3
  refine ⟨u,r,?_⟩
  rcases l with l | ⟨k,c,e,z⟩
  ·exact .inl l
  ·exact .inr ⟨k,c,e,cellK x c e _ z⟩
 ·obtain ⟨v,z⟩:=I.cell x c e
  exact ⟨v,cellK x c e v z⟩
 ·obtain ⟨e,m,ne,nfs,d⟩:=I.pin p hp
  exact ⟨g.keep p.1 p.2 e (fun z=>(n _ z).pin p hp rfl) (nf _ ne nfs),m,ne,nfs,d⟩
theorem mW {ea:Addr} {oe:Obj} {ws:Array Value} (I:Inv X pins σ H s) (f:FrX X pins H ea) (he:s.heap.get? ea=some oe) (hd:oe.data=.fields ws):Inv X pins σ (upd H ea (Kz ea oe.cls oe.dict)) s:=by
 have ne:∀ b u,H b=some u->b≠ea:=fun b u e z=>by rw [z,f.un] at e;cases e
 refine ⟨I.ok,I.os,I.bare,⟨I.base.keep,I.base.slot,fun b o e m hx=>?_,I.base.there,fun b ys e=>?_,fun b o u e=>?_,fun b ps e=>?_⟩,I.loc,I.cell,?_,fun x c e=>?_,fun p hp=>?_,fun a o e=>?_,I.len⟩
 ·rw [Z2 (fun z=>by rw [z,f.new] at e;cases e)]
  exact I.base.free b o e m hx
 ·have:=I.base.tups b ys e
  rw [Z2 (ne b _ this)];exact this
 ·have:=I.base.frzs b o u e
  rw [Z2 (ne b _ this)];exact this
 ·obtain ⟨m,this⟩:=I.base.tbls b ps e
  exact ⟨m,by rw [Z2 (ne b _ this)];exact this⟩
 ·rw [Z2 (fun z=>f.loc z.symm)];exact I.free
 ·rw [Z2 (f.cel x c e)];exact I.freeC x c e
 ·obtain ⟨e,m,n1,n2,d⟩:=I.pin p hp
  exact ⟨e,by rw [Z2 (f.pin p hp)];exact m,n1,n2,d⟩
 ·by_cases z:a=ea
  ·subst z
   rw [Y5] at e
   cases e
   refine ⟨⟨oe,he,rfl,rfl,ws,hd⟩,⟨oe,he⟩,fun h1 h2 q k=>?_⟩
   obtain ⟨o,q1,q2⟩:=q
   exact ⟨o,k o q1,q2⟩
  ·rw [Z2 z] at e
   refine (I.hok a o e).stay (fun b u _ q=>q) (fun b q=>?_) fun b ys q=>?_
   ·rw [Z2 (ne b _ q)];exact q
   ·rw [Z2 (ne b _ q)];exact q
def XC (X:Cx) (pins:List (Addr×Obj)) (σ:St) (E:XK) (e:Value) (s':Shared):Prop:=∃ (ea T:Addr) (cls:Value) (dx:Option Addr) (H':Hp),e=.ref ea/\Inv X pins σ H' s'/\Exo ea cls dx (some T) .none s'.heap/\FrX X pins H' ea/\FrX X pins H' T/\E cls dx H'
theorem VC {E:XK} {e:Value} {s':Shared} (hx:X.ex=[]) (I:Inv X pins σ H s) (h:CXD X.prog X.w X.stack H s E e s'):XC X pins σ E e s':=by
 obtain ⟨ea,T,cls,dx,H',rfl,os,bare,un,hok,ex,h1,h2,h3,h4,q⟩:=h
 exact ⟨ea,T,cls,dx,H',rfl,I.call' os un hok bare (fun b z=>absurd z (by simp)),ex,zH hx I h3 h1,zH hx I h4 h2,q⟩
end
def PEx (X:Cx) (E:XK) (e:Expr) (t:TE):Prop:=
 ∀ (pins:List (Addr×Obj)) (s:Shared) (σ:St) (H:Hp) (Q:VK),Inv X pins σ H s->t σ H Q->wpAny (model X.prog X.w) X.A (eval e X.env) (EP X pins σ Q) (XC X pins σ E) s
def PSx (X:Cx) (E:XK) (st:Stmt) (t:TS):Prop:=
 ∀ (pins:List (Addr×Obj)) (s:Shared) (σ:St) (H:Hp) (D:Ends),Inv X pins σ H s->t D σ H->wpAny (model X.prog X.w) X.A (exec st X.env) (SP X pins D) (XC X pins σ E) s
def qf4 (X:Cx) (E:XK) (st:List Stmt) (t:TS):Prop:=
 ∀ (pins:List (Addr×Obj)) (s:Shared) (σ:St) (H:Hp) (D:Ends),Inv X pins σ H s->t D σ H->wpAny (model X.prog X.w) X.A (execs st X.env) (SP X pins D) (XC X pins σ E) s
structure DEx (X:Cx) (e:Expr) (t:ED):Prop where
 h:∀ E,PEx X E e (P6 X.K E t)
structure DSx (X:Cx) (st:Stmt) (t:SD):Prop where
 h:∀ E,PSx X E st (bM X.K E t)
structure DSsx (X:Cx) (st:List Stmt) (t:SD):Prop where
 h:∀ E,qf4 X E st (bM X.K E t)
section
variable {X:Cx} {E:XK} {a b c e o:Expr} {es:List Expr} {ta to:ED} {t:AD} {pos apos p:Pos} {CX:CXT} {k n:Nat} {f C:Addr} {fd:FuncData} {ps:List Str} {g:FD} {dvs:List V} {dds:List D} {ds:List Value} {x m:Str}
theorem VY {sp:Sp} {pins:List (Addr×Obj)} {σ:St} {H:Hp} {s:Shared} {Q:VK} {us:List Value} {vs:List V} (F:FnOk X.prog X.w X.K X.mg X.base (CXD X.prog X.w) k f fd ps sp) (hr:Room k X.A) (hb:Y6 X.K fd ps ds) (hd:Y4 dvs ds) (hex:X.ex=[])
  (I:Inv X pins σ H s) (r:Y4 vs us) (h:sp (vs++dvs) H Q E):wpAny (model X.prog X.w) X.A (call (.ref f) us) (EP X pins σ Q) (XC X pins σ E) s:=by
 have both_:=r.append hd
 have long:(us++ds).length=ps.length:=both_.length.symm.trans (F.len _ _ _ _ h)
 refine wpAny_call (codeAny_mono (F.run X.A X.stack s H ⟨us,[]⟩ (us++ds) (vs++dvs) Q E hr I.env0 (hb s us I.kIn long) both_ h) fun out s' fin=>?_)
 match out,fin with
 | .error _,fin=>exact VC hex I fin
 | .ok (.ret _),fin=>exact I.after fin
def bo (C:Addr) (m:Str) (n:Nat) (g:FD) (dds:List D) (to:ED) (t:AD):ED:=fun l=>(noX (to l)).bd fun o c=>match O0 C o c with
 | some (_,fs)=>if fs.lookup m=none then ((noX (t l)).bd fun xs=>gN n g (o::(xs++dds))) c else none
 | none=>none
theorem Uv {pl:Sem Bool} (C:Addr) (hno:∀ e s,X.xe e s->False) (hex:X.ex=[]) (ho:DE X E0 o to) (hC:Cls X.K C) (hm:Meth X.K C m f) (F:FnOk X.prog X.w X.K X.mg X.base (CXD X.prog X.w) k f fd ps (spD X.K n g)) (hr:Room k X.A) (hb:Y6 X.K fd ps ds) (hd:Y4 dvs ds) (rd:∀ H O,Reps X.K H O dvs dds) (ha:DA X E0 (e::es) t)
  (hst:starEach (e::es) X.env=(false,eval e X.env)::starEach es X.env:=by rfl) (hpl:(backTo pos (starEach es X.env)).any (·.1)=false:=by rfl)
  (ht:eval (.Call (.Attribute o m apos) (e::es) [] pos) X.env=(do
   let ov ← eval o X.env
   standAt apos.atName
   let (f,first) ← holding [ov] (getMethod ov m pl)
   callWith pos f first (backTo pos (starEach (e::es) X.env)) (backToKw pos (keywordEach [] X.env))):=by rfl):
  DEx X (.Call (.Attribute o m apos) (e::es) [] pos) (bo C m n g dds to t):=by
 refine ⟨fun E pins s σ H Q I h=>?_⟩
 obtain ⟨O,l,c,hl,hc,p⟩:=h
 have p0:=Ji p.bd
 have h0:P6 X.K E0 to σ H (fun v H1=>∃ d O1 c1,Ext H O H1 O1/\Locs X.K H1 O1 l σ/\Cells X.K H1 O1 c1/\Rep X.K H1 O1 v d/\V2 X.K E H1 O1 Q (match O0 C d c1 with
   | some (_,fs)=>if fs.lookup m=none then ((noX (t l)).bd fun xs=>gN n g (d::(xs++dds))) c1 else none
   | none=>none)):=⟨O,l,c,hl,hc,p0.imp fun d H1 O1 c1 e1 hc1 q v rv=>⟨d,O1,c1,e1,hl.mono e1,hc1,rv,q⟩⟩
 refine methodCall_KW (pl:=pl) (wpAny_mono (ho.h pins s σ H _ I h0) (fun u s1 ⟨v,H1,I1,rx,d,O1,c1,e1,hl1,hc1,rv,p1⟩=>?_) fun _ _ z=>(hno _ _ z).elim) ht
 cases z:O0 C d c1 with
 | none=>rw [z] at p1;exact p1.elim
 | some q=>
  obtain ⟨k',fs⟩:=q
  rw [z] at p1
  simp only at p1
  obtain ⟨a,dx,us,rfl,_,hO,hH,hf,hk⟩:=yv hc1 rv z
  obtain rfl:u=Value.ref a:=rx
  by_cases hn:fs.lookup m=none
  ·rw [if_pos hn] at p1
   have p2:=Ji p1.bd
   have h1:JF X.K E0 t σ H1 (fun vs H2=>spD X.K n g (.ref a::(vs++dvs)) H2 Q E):=⟨O1,l,c1,hl1,hc1,p2.imp fun xs H2 O2 c2 e2 hc2 q vs rvs=>Jp (.cons (rv.mono e2) (rvs.append (rd _ _))) hc2 q⟩
   refine Zh I1 hH hC hm (hf.lookup_none hn) ?_
   refine callWith_K (first:=[.ref a]) (h₀:=X.base) I.ok.mod.kin hm.kp (wpAny_mono (ha.h pos pins s1 σ H1 _ I1 h1) (fun us s2 ⟨vs,H2,I2,r,q2⟩=>⟨I2.kIn,?_⟩) fun _ _ z=>(hno _ _ z).elim) hst hpl
   exact VY (us:=.ref a::us) (vs:=.ref a::vs) F hr hb hd hex I2 (.cons rfl r) q2
  ·rw [if_neg hn] at p1;exact p1.elim
theorem vR (he:DEx X e ta) (hs:swapsWith e none pos.line X.env=pure false:=by rfl):DSx X (.Expr e pos) (G8 ta):=by
 refine ⟨fun E pins s σ H D I h=>?_⟩
 obtain ⟨O,l,c,hl,hc,p⟩:=h
 have h1:P6 X.K E ta σ H (fun _ H1=>D.nx σ H1):=Z3 hl hc p fun d v H1 O1 c1 e1 hl1 hc1 rv p1=>J4.ret p1 hc1 σ hl1
 exact wpAny_Expr_any (thn (he.h E pins s σ H _ I h1) fun v s1 ⟨x,H1,I1,r1,q1⟩=>⟨σ,H1,I1,q1⟩) I.quiet hs
theorem XZ {i:Nat} {pos':Pos} (hN:X.N.Nodup) (he:DEx X e ta) (hi:X.N[i]?=some x:=by rfl) (hx:Loc X.env.scope x:=by first | exact Or.inl rfl | exact Or.inr rfl) (hs:swapsWith e (some (.Name x pos')) pos.line X.env=pure false:=by rfl)
  (hf:X.fn x=true\/X.env.scope.names.lookup x=some .local:=by first | exact .inl rfl | exact .inr rfl):DSx X (.Assign [.Name x pos'] e pos) (Y0 i ta):=by
 refine ⟨fun E pins s σ H D I h=>?_⟩
 obtain ⟨O,l,c,hl,hc,p⟩:=h
 have h1:P6 X.K E ta σ H (fun v H1=>D.nx (σ.set i (some v)) H1):=Z3 hl hc p fun d v H1 O1 c1 e1 hl1 hc1 rv p1=>J4.ret p1 hc1 _ (hl1.set i rv)
 refine wpAny_Assign_Name (thn (he.h E pins s σ H _ I h1) fun v s1 ⟨y,H1,I1,r1,q1⟩=>?_) hs
 exact ma I1 hN hi hx r1 (fun s2 I2=>⟨_,H1,I2,q1⟩) hf
theorem Ut {st:Stmt} {t:SD} (h1:DSx X st t):DSsx X [st] t:=by
 refine ⟨fun E pins s σ H D I h=>wpAny_execs_cons (thn (h1.h E pins s σ H D I h) fun f s1 q=>?_)⟩
 cases f with
 | next=>exact wpAny_execs_nil q
 | ret v=>exact q
 | brk=>exact q
 | cont=>exact q
end
def inH (X:Cx) (ea:Addr):Cx:={ X with A:=X.A.mark (some (.ref ea)),calm:=false,xe:=fun _ _=>False }
section
variable {X:Cx} {pins:List (Addr×Obj)} {σ:St} {H:Hp} {s:Shared} {ea:Addr}
theorem gD (I:Inv X pins σ H s) (ea:Addr):Inv (inH X ea) pins σ H s:=
 ⟨⟨I.ok.mod,I.ok.kind,I.ok.glob,I.ok.blt,I.ok.above,I.ok.inj,I.ok.has,I.ok.cab,(fun z=>by cases z),I.ok.frames,I.ok.stk,I.ok.exf,I.ok.bs,I.ok.bsz,I.ok.noex,I.ok.exfs,I.ok.funs,I.ok.frf⟩,I.os,I.bare,I.base,I.loc,I.cell,I.free,I.freeC,I.pin,I.hok,I.len⟩
theorem kq (ok:X.Ok) (I:Inv (inH X ea) pins σ H s):Inv X pins σ H s:=⟨ok,I.os,I.bare,I.base,I.loc,I.cell,I.free,I.freeC,I.pin,I.hok,I.len⟩
theorem Ws {M:Model} {A:Around} {E:Value->Shared->Prop} {i:Nat} {x:Str} {pos:Pos} {Q:Unit->Shared->Prop} (I:Inv X pins σ H s) (hN:X.N.Nodup) (hi:X.N[i]?=some x) (hx:X.env.kindOf x=some .local)
  (h:∀ s',Inv X pins (σ.set i none) H s'->Q () s'):wpAny M A (do bindName X.env x .none;unbindBehindTheSuite X.env x pos) Q E s:=by
 obtain ⟨m,names,look⟩:=I.loc
 obtain ⟨oL,_,_,hoL,_⟩:=id names
 have fresh:∀ b o,X.s₀.heap.get? b=some o->b≠X.env.locals:=fun b o e=>Nat.ne_of_lt (Nat.lt_of_lt_of_le (Heap.lt_size e) I.ok.above)
 refine wpAny_nameGoes_keeps hx names (by rw [I.ok.kind];rfl) fun h' v names' same=>h _ ?_
 refine ⟨I.ok,I.os,I.bare,⟨fun b o e n hb hx=>?_,fun b o e n hb hx=>?_,I.base.free,fun b o e hx=>?_,I.base.tups,I.base.frzs,I.base.tbls⟩,⟨_,names',fun j y v' e1 e2 e3=>?_⟩,fun y c e=>?_,I.free,I.freeC,fun p hp=>?_,fun b ob e=>?_,by rw [List.length_set];exact I.len⟩
 ·exact (same.2 b (fresh b o e)).trans (I.base.keep b o e n hb hx)
 ·obtain ⟨sl,e1⟩:=I.base.slot b o e n hb hx
  exact ⟨sl,(same.2 b (fresh b o e)).trans e1⟩
 ·obtain ⟨o',e1⟩:=I.base.there b o e hx
  exact ⟨o',(same.2 b (fresh b o e)).trans e1⟩
 ·by_cases hj:j=i
  ·subst hj
   rw [List.getElem?_set] at e2
   simp only [if_true] at e2
   split at e2 <;> cases e2
  ·rw [List.getElem?_set_ne (Ne.symm hj)] at e2
   obtain ⟨u',r',q⟩:=look j y v' e1 e2 e3
   refine ⟨u',r',?_⟩
   rcases q with ⟨k,e⟩ | ⟨k,c,e,z⟩
   ·have ny:y≠x:=fun e=>hj (Ua hN e1 (e ▸ hi))
    exact .inl ⟨k,by simp [ny,e]⟩
   ·exact .inr ⟨k,c,e,z.sameBut same (I.cne y c e)⟩
 ·obtain ⟨w',z⟩:=I.cell y c e
  exact ⟨w',z.sameBut same (I.cne y c e)⟩
 ·obtain ⟨e,n,ne,nf,d⟩:=I.pin p hp
  exact ⟨(same.2 p.1 ne).trans e,n,ne,nf,d⟩
 ·refine (I.hok b ob e).stay (fun c w' hc q=>(same.2 c ?_).trans q) (fun _ q=>q) fun _ _ q=>q
  intro z
  subst z
  rcases hc with hc | hc
  ·rw [← hc,I.free] at e;cases e
  ·rw [I.free] at hc;cases hc
end
abbrev HD:=Exc->SD
structure DH (X:Cx) (E:XK) (hs:List ExceptHandler) (t:HD):Prop where
 h:∀ (pins:List (Addr×Obj)) (s:Shared) (σ:St) (H:Hp) (O:Ow) (l:L) (c:List Cell) (x:Exc) (ea T:Addr) (cls:Value) (dx:Option Addr) (D:Ends),Inv X pins σ H s->Locs X.K H O l σ->Cells X.K H O c->qdj X.K H O cls dx x->Exo ea cls dx (some T) .none s.heap->
  FrX X pins H ea->FrX X pins H T->J4 X.K E H O (xh X.K D) (t x l c)->wpAny (model X.prog X.w) X.A (handleBy (.ref ea) X.env hs) (SP X pins D) X.xe s
def JQ:HD:=fun _ _=>M.stuck
theorem gU {X:Cx} {E:XK}:DH X E [] JQ:=⟨fun _ _ _ _ _ _ _ _ _ _ _ _ _ _ _ _ _ _ _ _ p=>p.elim⟩
def Bi (K:Frag) (B:Addr) (ts:SD) (rest:HD):HD:=fun x l c=>match exmOne K x.cls (.ref B) with
 | some true=>ts l c
 | some false=>rest x l c
 | none=>none
def qaz (i:Nat):Fl->Fl
 | .nx l=>.nx (l.set i none)
 | .bk l=>.bk (l.set i none)
 | .ct l=>.ct (l.set i none)
 | .ret d=>.ret d
def hAs (K:Frag) (B:Addr) (i:Nat) (ts:SD) (rest:HD):HD:=fun x l c=>match exmOne K x.cls (.ref B) with
 | some true=>((ts (l.set i (some (.hnd c.length)))).bd fun f=>M.ret (qaz i f)) (c++[.exn x.cls x.fs])
 | some false=>rest x l c
 | none=>none
section
variable {X:Cx} {E:XK} {B:Addr} {x nm:Str} {np pos:Pos} {b₀:Stmt} {suite:List Stmt} {ts:SD} {rest:List ExceptHandler} {tr:HD}
theorem mO {M:Model} {h:Heap} {ea:Addr} {oe:Obj} (he:h.get? ea=some oe):Looks M h (typeOf (.ref ea)) oe.cls:=(Looks.ld he).andThen .now
theorem YT {pins:List (Addr×Obj)} {s:Shared} {σ:St} {H:Hp} {ea:Addr} {oe:Obj} {b:Bool} {name:Option Str} {D:Ends} (I:Inv X pins σ H s) (he:s.heap.get? ea=some oe) (hb:exmOne X.K oe.cls (.ref B)=some b) (hg:Gl X x) (hm:X.mg x=some (.ref B)) (hdb:(x == ("__debug__":Str))=false)
  (yes:b=true->codeAny (model X.prog X.w) (X.A.mark (some (.ref ea))) (.handlers (.ref ea) [.ExceptHandler none name (b₀::suite) pos] X.env) (fun r s₂=>match r with
     | .ok f=>(match name with
      | none=>SP X pins D f s₂
      | some n=>wpAny (model X.prog X.w) X.A (do bindName X.env n .none;unbindBehindTheSuite X.env n pos) (fun _ s₃=>SP X pins D f s₃) X.xe s₂)
     | .error x=>cameBackBy (model X.prog X.w) X.A X.env X.xe x s₂) s)
  (no:b=false->wpAny (model X.prog X.w) X.A (handleBy (.ref ea) X.env rest) (SP X pins D) X.xe s):
  wpAny (model X.prog X.w) X.A (handleBy (.ref ea) X.env (.ExceptHandler (some (.Name x np)) name (b₀::suite) pos::rest)) (SP X pins D) X.xe s:=by
 refine wpAny_handleBy_cons (codeAny_handlers_test ?_) (by intro q;cases q)
 have I':=gD I ea
 have hg':Gl (inH X ea) x:=hg
 refine uw (X:=inH X ea) I' hg' hm ?_ hdb
 refine (PySem.W.exm_one (M:=model X.prog X.w) I.kIn (mO he) hb).here ?_
 cases b with
 | true=>exact yes rfl
 | false=>exact no rfl
theorem qad (hs:∀ ea,DSs (inH X ea) E0 (b₀::suite) ts) (hm:X.mg x=some (.ref B)) (hr:DH X E0 rest tr) (hg:Gl X x:=by rfl) (hdb:(x == ("__debug__":Str))=false:=by decide):
  DH X E0 (.ExceptHandler (some (.Name x np)) none (b₀::suite) pos::rest) (Bi X.K B ts tr):=by
 refine ⟨fun pins s σ H O l c ex ea T cls dx D I hl hc xr exo f1 f2 p=>?_⟩
 obtain ⟨⟨oe,ws,he,hcls,hdict,hdat,h1⟩,en⟩:=id exo
 have e0:oe.cls=ex.cls:=hcls.trans xr.1
 unfold Bi at p
 cases z:exmOne X.K ex.cls (.ref B) with
 | none=>rw [z] at p;exact p.elim
 | some b=>
  rw [z] at p
  refine YT I he (by rw [e0];exact z) hg hm hdb (fun hb=>?_) fun hb=>?_
  ·subst hb
   refine codeAny_handlers_suite (kx exo fun h' y1 y2=>?_)
   have I2:Inv X pins σ H { s with heap:=h' }:=Wq (t':=s.toks) I (y2.mono (ys:=[T]) (gs:=frs X.stack) (fun _ z=>z) (fun _ z=>absurd z (by simp))) fun b hb=>by
    have e:b=T:=by simpa using hb
    rw [e];exact f2
   refine wpAny_mono ((hs ea).h pins _ σ H D (gD I2 ea) ⟨O,l,c,hl,hc,p⟩) (fun fl s2 q=>?_) fun _ _ z=>z.elim
   cases fl with
   | next=>obtain ⟨σ',H',J,q⟩:=q;exact ⟨σ',H',kq I.ok J,q⟩
   | brk=>obtain ⟨σ',H',J,q⟩:=q;exact ⟨σ',H',kq I.ok J,q⟩
   | cont=>obtain ⟨σ',H',J,q⟩:=q;exact ⟨σ',H',kq I.ok J,q⟩
   | ret u=>obtain ⟨v,σ',H',J,r,q⟩:=q;exact ⟨v,σ',H',kq I.ok J,r,q⟩
  ·subst hb
   exact hr.h pins s σ H O l c ex ea T cls dx D I hl hc xr exo f1 f2 p
theorem JV {H:Hp} {O:Ow} {p:Addr} {o:HO} (n:H p=none):Ext H O (upd H p o) (O++[some p]):=by
 refine ⟨fun b u h _=>by rw [Z2 (Y2 h n)];exact h,fun k a h=>?_,fun a h=>?_⟩
 ·rw [List.getElem?_append_left (List.getElem?_eq_some_iff.mp h).1];exact h
 ·rcases List.mem_append.mp h with h | h
  ·exact .inl h
  ·have e:=List.mem_singleton.mp h
   cases e
   exact .inr n
theorem ZC {K:Frag} {H:Hp} {O:Ow} {c:List Cell} {ea:Addr} {c1 cls:Value} {dx:Option Addr} {fs:List (Str×D)} (hc:Cells K H O c) (n:H ea=none) (ec:c1=cls) (xf:XF K H O dx fs):
  Ext H O (upd H ea (Kz ea c1 dx)) (O++[some ea])/\Cells K (upd H ea (Kz ea c1 dx)) (O++[some ea]) (c++[.exn cls fs]):=by
 subst ec
 exact hc.push n ⟨ea,dx,by simp,Y5,xf.mono (JV n)⟩
theorem Zf {K:Frag} {H:Hp} {O:Ow} {l:L} {σ:St} (i:Nat) (h:Locs K H O l σ):Locs K H O (l.set i none) (σ.set i none):=by
 refine ⟨by rw [List.length_set,List.length_set];exact h.len,fun j d e=>?_⟩
 by_cases hj:i=j
 ·subst hj
  rw [List.getElem?_set] at e
  simp only [if_true] at e
  split at e <;> cases e
 ·rw [List.getElem?_set_ne hj] at e ⊢
  exact h.at_ j d e
theorem qbl {i:Nat} (hN:X.N.Nodup) (hs:∀ ea,DSs (inH X ea) E0 (b₀::suite) ts) (hm:X.mg x=some (.ref B)) (hr:DH X E0 rest tr) (hi:X.N[i]?=some nm:=by rfl) (hk:X.env.kindOf nm=some .local:=by rfl) (hg:Gl X x:=by rfl) (hdb:(x == ("__debug__":Str))=false:=by decide):
  DH X E0 (.ExceptHandler (some (.Name x np)) (some nm) (b₀::suite) pos::rest) (hAs X.K B i ts tr):=by
 refine ⟨fun pins s σ H O l c ex ea T cls dx D I hl hc xr exo f1 f2 p=>?_⟩
 obtain ⟨⟨oe,ws,he,hcls,hdict,hdat,h1⟩,en⟩:=id exo
 have e0:oe.cls=ex.cls:=hcls.trans xr.1
 unfold hAs at p
 cases z:exmOne X.K ex.cls (.ref B) with
 | none=>rw [z] at p;exact p.elim
 | some b=>
  rw [z] at p
  refine YT I he (by rw [e0];exact z) hg hm hdb (fun hb=>?_) fun hb=>?_
  ·subst hb
   refine codeAny_handlers_suite_as (kx exo fun h' y1 y2=>?_)
   have I2:Inv X pins σ H { s with heap:=h' }:=Wq (t':=s.toks) I (y2.mono (ys:=[T]) (gs:=frs X.stack) (fun _ z=>z) (fun _ z=>absurd z (by simp))) fun b hb=>by
    have e:b=T:=by simpa using hb
    rw [e];exact f2
   obtain ⟨⟨oe2,ws2,he2,hcls2,hdict2,hdat2,_⟩,_⟩:=y1
   have I3:=mW I2 f1 he2 hdat2
   rw [hcls2,hdict2] at I3
   have hO:some ea∉O:=hc.fresh f1.un
   have xf:XF X.K H O dx ex.fs:=by
    have x2:=xr.2
    cases dx with
    | none=>exact x2
    | some b=>exact x2
   obtain ⟨e1,hc1⟩:=ZC (cls:=ex.cls) hc f1.un xr.1 xf
   have hkl:X.env.scope.names.lookup nm=some .local:=hk
   refine ma (X:=inH X ea) (v:=.ref ea) (gD I3 ea) hN hi (.inl hkl) rfl (fun s3 I4=>?_) (.inr hkl)
   have hl2:Locs X.K (upd H ea (Kz ea cls dx)) (O++[some ea]) (l.set i (some (.hnd c.length))) (σ.set i (some (.ref ea))):=(hl.mono e1).set i (.hnd (by rw [← hc.len];simp))
   have p2:=J4.mono e1 p
   have p3:J4 X.K E0 (upd H ea (Kz ea cls dx)) (O++[some ea]) (xh X.K { nx:=fun σ H=>D.nx (σ.set i none) H,bk:=fun σ H=>D.bk (σ.set i none) H,ct:=fun σ H=>D.ct (σ.set i none) H,rt:=D.rt }) (ts (l.set i (some (.hnd c.length))) (c++[.exn ex.cls ex.fs])):=by
    refine p2.bd.imp fun fl H' O' c' e' hc' q=>?_
    have q:=J4.ret q hc'
    cases fl with
    | nx l'=>exact fun σ' hl'=>q _ (Zf i hl')
    | bk l'=>exact fun σ' hl'=>q _ (Zf i hl')
    | ct l'=>exact fun σ' hl'=>q _ (Zf i hl')
    | ret d=>exact q
   refine wpAny_mono ((hs ea).h pins _ _ _ _ I4 ⟨_,_,_,hl2,hc1,p3⟩) (fun fl s4 q=>?_) fun _ _ z=>z.elim
   cases fl with
   | next=>obtain ⟨σ',H',J,q⟩:=q;exact Ws (kq I.ok J) hN hi hk fun s5 J'=>⟨_,H',J',q⟩
   | brk=>obtain ⟨σ',H',J,q⟩:=q;exact Ws (kq I.ok J) hN hi hk fun s5 J'=>⟨_,H',J',q⟩
   | cont=>obtain ⟨σ',H',J,q⟩:=q;exact Ws (kq I.ok J) hN hi hk fun s5 J'=>⟨_,H',J',q⟩
   | ret u=>obtain ⟨v,σ',H',J,r,q⟩:=q;exact Ws (kq I.ok J) hN hi hk fun s5 J'=>⟨v,_,H',J',r,q⟩
  ·subst hb
   exact hr.h pins s σ H O l c ex ea T cls dx D I hl hc xr exo f1 f2 p
def Xn (tb:SD) (th:HD):SD:=fun l c=>match tb l c with
 | some (.ok f c')=>some (.ok f c')
 | some (.exc x c')=>th x l c'
 | none=>none
theorem gS {body:List Stmt} {h₀:ExceptHandler} {hs:List ExceptHandler} {tb:SD} {th:HD} (hex:X.ex=[]) (hb:DSsx X body tb) (hh:DH X E0 (h₀::hs) th) (hst:X.stack=X.env::X.outer:=by rfl) (hfr:X.env.frame=some X.env.locals:=by rfl):
  DS X E0 (.Try body (h₀::hs) [] [] pos) (Xn tb th):=by
 refine ⟨fun pins s σ H D I h=>?_⟩
 obtain ⟨O,l,c,hl,hc,p⟩:=h
 let Ec:XK:=fun cls dx H'=>∃ x c' O',tb l c=some (.exc x c')/\Ext H O H' O'/\Cells X.K H' O' c'/\qdj X.K H' O' cls dx x
 have pb:J4 X.K Ec H O (xh X.K D) (tb l c):=by
  unfold Xn at p
  cases z:tb l c with
  | none=>rw [z] at p;exact p.elim
  | some o=>
   rw [z] at p
   cases o with
   | ok f c'=>exact p
   | exc x c'=>exact fun H' O' cls dx e1 e2 e3=>⟨x,c',O',z,e1,e2,e3⟩
 refine wpAny_Try_except (wpAny_mono (hb.h Ec pins s σ H D I ⟨O,l,c,hl,hc,pb⟩) (fun f s1 q=>?_) fun e s1 q=>?_)
 ·cases f with
  | next=>exact wpAny_execs_nil q
  | ret v=>exact q
  | brk=>exact q
  | cont=>exact q
 ·obtain ⟨ea,T,cls,dx,H',rfl,I1,exo,f1,f2,ex,c',O',z,e1,hc1,xr⟩:=q
  have stk:X.A.frames=some (X.env::X.outer):=by rw [← hst];exact I1.ok.frames
  have fun_:s1.heap.FunFrames X.base (X.env::X.outer):=by rw [← hst];exact I1.stack
  refine Ba stk fun_ hfr exo fun h1 T1 x1 x2 x3=>?_
  have n1:H' T1=none:=by
   cases zz:H' T1 with
   | none=>rfl
   | some o=>
    obtain ⟨ob,e⟩:=Je (I1.hok T1 o zz)
    rw [x3] at e;cases e
  have f3:FrX X pins H' T1:=zH hex I1 x3 n1
  have I2:Inv X pins σ H' { s1 with heap:=h1 }:=Wq (t':=s1.toks) I1 (x2.mono (ys:=Qr ea (some T)) (gs:=frs X.stack) (fun _ z=>z) (fun b z=>by rw [hst];exact z)) fun b hb=>by
   rcases List.mem_cons.mp hb with e | hb
   ·rw [e];exact f1
   ·have e:b=T:=by simpa using hb
    rw [e];exact f2
  refine kx (s:={ s1 with heap:=h1 }) x1 fun h2 y1 y2=>?_
  have I3:Inv X pins σ H' { s1 with heap:=h2 }:=Wq (s:={ s1 with heap:=h1 }) (t':=s1.toks) I2 (y2.mono (ys:=[T1]) (gs:=frs X.stack) (fun _ z=>z) (fun _ z=>absurd z (by simp))) fun b hb=>by
   have e:b=T1:=by simpa using hb
   rw [e];exact f3
  unfold Xn at p
  rw [z] at p
  exact hh.h pins _ σ H' O' l c' ex ea T1 cls dx D I3 (hl.mono e1) hc1 xr y1 f1 f3 (J4.mono e1 p)
end
open PyProof.Rows hiding St
section
variable {prog:Program} {w:World} {A:Around} {E:Value->Shared->Prop} {h:Heap} {g:Array GenState} {d:Drawn} {t:Nat} {os:OsState} {K:Frag} {x C:Addr} {ox:Obj} {od:Option Obj} {name:Str}
structure ExcA (K:Frag) (C:Addr):Prop where
 ga:findIn K (.ref C) "__getattribute__"=some (some (.builtin "BaseException.__getattribute__"))
 gh:findIn K (.ref C) "__getattr__"=some none
 sb:subIn K (.ref C) (.type "BaseException")=some true
theorem uC {nameV:Value} {Q:Unit->Shared->Prop} (X:K.In h) (I:InstAt h x ox C od) (Fa:ExcA K C) (hq:Q () ⟨h,g,d,t,os⟩):wpAny (model prog w) A (checkBuiltinCall "BaseException.__getattribute__" ⟨[.ref x,nameV],[]⟩) Q E ⟨h,g,d,t,os⟩:=by
 have hk:builtinKind "BaseException.__getattribute__"=some .slot:=by decide +kernel
 have hsplit:splitId "BaseException.__getattribute__"=some ("BaseException","__getattribute__"):=by decide +kernel
 have L:Looks (model prog w) h (isInstance (.ref x) (.type "BaseException")) true:=(I.type (M:=model prog w)).andThen (PySem.W.looks_subIn X Fa.sb)
 have ha:=F.args_bexc_ga (.ref x) nameV
 simp only [checkBuiltinCall,hk,hsplit]
 refine wpAny_bind ?_
 refine L.at ?_
 repeat (first | assumption | wp_step)
theorem Wc {tk:Tok} {v:Value} {Q:_root_.PySem.Fin->Shared->Prop} (X:K.In h) (I:InstAt h x ox C od) (hf:findObj K C od name=some (.value v)) (hq:Q (.done (.ret v)) ⟨h,g,d,t,os⟩):
  wpAny (model prog w) A (Builtin.«object.__getattribute__» ⟨[.ref x,.str name tk],[]⟩) Q E ⟨h,g,d,t,os⟩:=by
 have L0:=I.type (M:=model prog w)
 have L1:=looks_find (M:=model prog w) X I hf
 refine wpAny_bind (wpAny_pure (wpAny_bind (wpAny_pure (wpAny_bind (L0.at (wpAny_bind (L1.at ?_)))))))
 exact wpAny_pure hq
theorem Wd {tk:Tok} {Q:_root_.PySem.Fin->Shared->Prop} (X:K.In h) (I:InstAt h x ox C od) (hf:findObj K C od name=some (.bind (.builtin "getset_descriptor.__get__") (.builtin "object.__class__"))) (hm:mroIn K C (.type "object")=some true) (hq:Q (.done (.ret (.ref C))) ⟨h,g,d,t,os⟩):
  wpAny (model prog w) A (Builtin.«object.__getattribute__» ⟨[.ref x,.str name tk],[]⟩) Q E ⟨h,g,d,t,os⟩:=by
 have L0:=I.type (M:=model prog w)
 have L1:=looks_find (M:=model prog w) X I hf
 refine wpAny_bind (wpAny_pure (wpAny_bind (wpAny_pure (wpAny_bind (L0.at (wpAny_bind (L1.at ?_)))))))
 refine wpAny_bind (wpAny_holding (wpAny_call (PySem.W.class_get (s:=⟨h,g,d,t,os⟩) (ox:=ox) (od:=od) X I hm ?_)))
 exact wpAny_pure hq
theorem JW {tk:Tok} {fill expr:Bool} {v:Value} {Q:Value->Shared->Prop} (X:K.In h) (I:InstAt h x ox C od) (Fa:ExcA K C)
  (he:∀ (A:Around) (E:Value->Shared->Prop) (R:_root_.PySem.Fin->Shared->Prop),R (.done (.ret v)) ⟨h,g,d,t,os⟩->wpAny (model prog w) A (Builtin.«object.__getattribute__» ⟨[.ref x,.str name tk],[]⟩) R E ⟨h,g,d,t,os⟩) (hh:handedOut v=pure v) (hq:Q v ⟨h,g,d,t,os⟩):
  wpAny (model prog w) A (getAttrBy (.ref x) (.str name tk) fill expr) Q E ⟨h,g,d,t,os⟩:=by
 have L0:=I.type (M:=model prog w)
 have L1:=looks_findIn (M:=model prog w) X Fa.ga
 have L2:=looks_findIn (M:=model prog w) X Fa.gh
 have f3:=F.attr_ValueError.ga.bind (.ref x)
 have hx0:(expr && onTheHeap (Value.builtin "BaseException.__getattribute__"))=false:=by cases expr <;> rfl
 have hx2:(Value.builtin "BaseException.__getattribute__" == Value.builtin "object.__getattribute__")=false:=by decide +kernel
 unfold getAttrBy
 refine wpAny_holding (wpAny_bind (L0.at (wpAny_bind (L1.at ?_))))
 simp only [hx2,Bool.and_false,Bool.false_eq_true,if_false]
 unfold getAttrByItsOwn
 refine wpAny_bind ?_
 refine L2.at ?_
 refine wpAny_bind (wpAny_attempt (wpAny_holding ?_))
 unfold callGetattribute
 rw [hx0]
 simp only [Bool.false_eq_true,if_false]
 unfold boundAndCalled
 rw [f3]
 refine wpAny_bind (wpAny_pure ?_)
 refine wpAny_call (codeAny_call_builtin F.attr_ValueError.ga.plain F.entry_bexc_ga (uC X I Fa (he _ _ _ ?_)))
 show wpAny _ _ (handedOut v) _ _ _
 rw [hh]
 exact wpAny_pure hq
structure ExcC (K:Frag) (C:Addr):Prop extends ExcA K C where
 cls:(clsIn K C).isSome=true
 ca:findIn K (.ref C) "__class__"=some (some (.builtin "object.__class__"))
 cg:specialIn K (.builtin "object.__class__") "__get__"=some (some (.builtin "getset_descriptor.__get__"))
 ct:takesIn K (.builtin "object.__class__")=some true
 mo:mroIn K C (.type "object")=some true
theorem Ky (Fc:ExcC K C):findObj K C od "__class__"=some (.bind (.builtin "getset_descriptor.__get__") (.builtin "object.__class__")):=by
 obtain ⟨cd,hc⟩:=Option.isSome_iff_exists.mp Fc.cls
 unfold findObj
 rw [hc,Option.bind_some,Fc.ca,Option.bind_some]
 simp [Fc.cg,Fc.ct]
theorem uB {Q:Option Value->Shared->Prop} {s:Shared} (X:K.In s.heap) (I:InstAt s.heap x ox C od) (Fc:ExcC K C) (hq:Q (some (.ref C)) { s with toks:=s.toks+1 }):
  wpAny (model prog w) A (getAttr? (.ref x) "__class__") Q E s:=by
 obtain ⟨h,g,d,t,os⟩:=s
 unfold getAttr? getAttrBy?
 refine wpAny_bind (wpAny_mkText (wpAny_bind (wpAny_attempt ?_)))
 refine JW (v:=.ref C) (name:="__class__") X I Fc.toExcA (fun A' E' R hR=>Wd X I (Ky Fc) Fc.mo hR) rfl ?_
 exact wpAny_pure hq
theorem vG (Fc:ExcC K C):KitX K (.ref x) (.ref C) (fun h=>InstAt h x ox C od) where
 ty:=fun _ _ _ I=>I.type
 it:=fun _ _ X _=>by
  obtain ⟨cd,hc⟩:=Option.isSome_iff_exists.mp Fc.cls
  unfold clsIn at hc
  split at hc
  ·rename_i c' d' cd' sl' ho
   intro A' Q' E' s' k q
   unfold isType loadHead
   exact wpAny_bind (wpAny_loadPart (k _ _ (X _ _ ho)) (wpAny_pure q))
  ·cases hc
 ne:=fun h tp dd its n sl X htp=>by
  obtain ⟨cd,hc⟩:=Option.isSome_iff_exists.mp Fc.cls
  cases q:(Value.ref C == Value.ref tp) with
  | false=>rfl
  | true=>
   have e:C=tp:=Value.ref.inj (beq_iff_eq.mp q)
   subst e
   unfold clsIn at hc
   split at hc
   ·rename_i c' d' cd' sl' ho
    have z:=(X _ _ ho).symm.trans htp
    cases z
   ·cases hc
 ca:=fun X I k=>uB X I Fc k
end
section
variable {X:Cx} {E:XK} {a:Expr} {ta:ED} {pos:Pos}
def fD (K:Frag) (good:List Value):Prop:=∀ v∈good,∃ C,v=.ref C/\ExcC K C
open Classical in
def gv (K:Frag) (good:List Value) (c:Value) (d:D):M D:=fun cs=>match d with
 | .hnd k=>match cs[k]? with
  | some (.exn cls _)=>if cls∈good then (match kitOne K cls c with
   | some b=>some (.ok (.bl b) cs)
   | none=>none) else none
  | _=>none
 | _=>none
def qec (K:Frag) (c:Value):List V->Hp->VK->Prop:=fun vs H Q=>∃ a C dx b z,vs=[.ref a,z]/\(∀ w,Y8 z w->w=c)/\H a=some (Kz a (.ref C) dx)/\ExcC K C/\(∀ b,dx=some b->∃ us,H b=some (.xd us))/\kitOne K (.ref C) c=some b/\Q (.bl b) H
theorem yH {c:Value}:D6 X (.builtin "isinstance") (qec X.K c):=by
 intro pins s σ H xs us Q I r h
 obtain ⟨a,C,dx,b,z,rfl,rz,ha,Fc,hd,hk,q⟩:=h
 obtain ⟨u,w,rfl,r1,r2⟩:=uY r
 cases r1
 have ec:=rz w r2
 subst ec
 obtain ⟨⟨oe,h1,h2,h3,ws,h4⟩,_,_⟩:=(show X4 X.prog X.w H s.heap a (Kz a (.ref C) dx) from I.hok a _ ha)
 have no:notCls oe=true:=by
  unfold notCls
  rw [h4]
 cases dx with
 | none=>exact kia_one (vG (ox:=oe) (od:=none) Fc) I.kIn ⟨h1,h2,no,by rw [h3];trivial⟩ hk (fun z=>nomatch z) fun tk=>⟨.bl b,H,I.tok _,rfl,q⟩
 | some b'=>
  obtain ⟨us,hb⟩:=hd b' rfl
  obtain ⟨ob,hob⟩:=Je (I.hok b' _ hb)
  exact kia_one (vG (ox:=oe) (od:=some ob) Fc) I.kIn ⟨h1,h2,no,by rw [h3];exact hob⟩ hk (fun z=>nomatch z) fun tk=>⟨.bl b,H,I.tok _,rfl,q⟩
theorem vH {good:List Value} {c:Value} {z:V} {σ:St} {H:Hp} {Q:VK} (hG:fD X.K good) (hz:∀ w,Y8 z w->w=c) (h:P6 X.K E (d1 (gv X.K good c) ta) σ H Q):P6 X.K E ta σ H fun x H1=>qec X.K c [x,z] H1 Q:=by
 obtain ⟨O,l,cs,hl,hc,p⟩:=h
 refine Z3 hl hc p fun x v H1 O1 c1 e1 hl1 hc1 rv p1=>?_
 unfold gv at p1
 cases rv with
 | @hnd a k hk=>
  simp only at p1
  cases q:c1[k]? with
  | none=>rw [q] at p1;exact p1.elim
  | some cl=>
   rw [q] at p1
   cases cl with
   | exn cls fs=>
    simp only at p1
    obtain ⟨a',dx,q1,q2,q3⟩:=hc1.at_ k _ q
    rw [hk] at q1;cases q1
    by_cases hg:cls∈good
    ·rw [if_pos hg] at p1
     obtain ⟨C,rfl,Fc⟩:=hG cls hg
     cases hkit:kitOne X.K (.ref C) c with
     | none=>rw [hkit] at p1;exact p1.elim
     | some b=>
      rw [hkit] at p1
      refine ⟨a,C,dx,b,z,rfl,hz,q2,Fc,fun b' e=>?_,hkit,V2.ok p1 hc1 (.bl b)⟩
      subst e
      obtain ⟨_,us,h1,_⟩:=q3
      exact ⟨us,h1⟩
    ·rw [if_neg hg] at p1;exact p1.elim
   | _=>exact p1.elim
 | _=>exact p1.elim
theorem qi {good:List Value} {B:Addr} {x:Str} {p1 p2:Pos} (hG:fD X.K good) (hm:X.mg "isinstance"=none) (hmx:X.mg x=some (.ref B)) (ha:DE X E a ta) (hg:Gl X "isinstance":=by rfl) (hgx:Gl X x:=by rfl) (hdx:(x == ("__debug__":Str))=false:=by decide)
  (hst:starEach [a,.Name x p2] X.env=[(false,eval a X.env),(false,eval (.Name x p2) X.env)]:=by rfl) (hst2:starEach [.Name x p2] X.env=[(false,eval (.Name x p2) X.env)]:=by rfl):
  DE X E (.Call (.Name "isinstance" p1) [a,.Name x p2] [] pos) (d1 (gv X.K good (.ref B)) ta):=by
 have h2:PE X (.Name x p2) (tC (.ref B)):=qU (v:=.ref B) hgx hmx rfl hdx
 refine ⟨PE.imp (mj (id:="isinstance") (yH (c:=.ref B)) hg hm rfl (K1 ha.h (K1 h2 qz hst2) (by rw [hst,hst2])) (by decide) (by decide) (by rw [hst,hst2]) (by rw [hst2];rfl)) fun σ H Q h=>vH hG (fun w r=>r) h⟩
theorem qaj {good:List Value} {T:String} {p1 p2:Pos} (hG:fD X.K good) (hm:X.mg "isinstance"=none) (hmT:X.mg T=none) (ha:DE X E a ta) (hvT:bootBuiltins T=some (.type T):=by rfl) (hg:Gl X "isinstance":=by rfl) (hgT:Gl X T:=by rfl)
  (hnT:(T:Str)≠"__name__":=by decide) (hdT:((T:Str) == ("__debug__":Str))=false:=by decide) (hst:starEach [a,.Name T p2] X.env=[(false,eval a X.env),(false,eval (.Name T p2) X.env)]:=by rfl) (hst2:starEach [.Name T p2] X.env=[(false,eval (.Name T p2) X.env)]:=by rfl):
  DE X E (.Call (.Name "isinstance" p1) [a,.Name T p2] [] pos) (d1 (gv X.K good (.type T)) ta):=by
 have h2:PE X (.Name T p2) (tC (.ty T)):=bG (v:=.ty T) hgT hmT hvT rfl hnT hdT
 refine ⟨PE.imp (mj (id:="isinstance") (yH (c:=.type T)) hg hm rfl (K1 ha.h (K1 h2 qz hst2) (by rw [hst,hst2])) (by decide) (by decide) (by rw [hst,hst2]) (by rw [hst2];rfl)) fun σ H Q h=>vH hG (fun w r=>r) h⟩
end
section
variable {X:Cx} {E:XK}
def Xo:SD:=fun _=>M.stuck
theorem Js {st:Stmt}:DS X E st Xo:=⟨fun _ _ _ _ _ _ h=>by
 obtain ⟨O,l,c,_,_,p⟩:=h
 exact p.elim⟩
end
section
variable {X:Cx} {E:XK} {o e:Expr} {to te:ED} {pos tpos:Pos} {fl:Str}
def qat (C:Addr) (fl:Str) (f:Int->Int->Int) (to te:ED):SD:=fun l=>(to l).bd fun o c=>match O0 C o c with
 | some (_,fs)=>match fs.lookup fl with
  | some (.int n)=>((te l).bd fun d c2=>match d,O0 C o c2 with
   | .int m,some (k,fs2)=>if fs2.length < 1000 then some (.ok (.nx l) (c2.set k (.ins C (jQ fl (.int (f n m)) fs2)))) else none
   | _,_=>none) c
  | _=>none
 | none=>none
theorem qaa (C:Addr) {op:Operator} {f:Int->Int->Int} (hop:qax X op (fun x y H Q=>∃ i j,x=.int i/\y=.int j/\Q (.int (f i j)) H)) (hC:Cls X.K C) (hN:zj X.K C fl) (ho:DE X E o to) (he:DE X E e te):DS X E (.AugAssign (.Attribute o fl tpos) op e pos) (qat C fl f to te):=by
 refine ⟨PS.imp (mB ho.h he.h hop) fun Dn σ H h=>?_⟩
 obtain ⟨O,l,c,hl,hc,p⟩:=h
 refine Z3 hl hc p fun x v H1 O1 c1 e1 hl1 hc1 rv p1=>?_
 cases z:O0 C x c1 with
 | none=>rw [z] at p1;exact p1.elim
 | some q=>
  obtain ⟨k,fs⟩:=q
  rw [z] at p1
  simp only at p1
  obtain ⟨a,dx,us,rfl,_,hO,ha,hf,hk⟩:=yv hc1 rv z
  cases z2:fs.lookup fl with
  | none=>rw [z2] at p1;exact p1.elim
  | some dv=>
   rw [z2] at p1
   obtain ⟨vv,h1,h2⟩:=hf.lookup z2
   cases h2 with
   | int n=>
    simp only at p1
    refine ⟨a,C,dx,us,_,rfl,ha,hC,hN,h1,?_⟩
    refine Z3 hl1 hc1 p1 fun y u H2 O2 c2 e2 hl2 hc2 ru p2=>?_
    cases ru with
    | int m=>
     cases z3:O0 C x c2 with
     | none=>rw [z3] at p2;exact p2.elim
     | some q3=>
      obtain ⟨k3,fs3⟩:=q3
      rw [z3] at p2
      simp only at p2
      obtain ⟨a3,dx3,us3,ea3,_,hO3,ha3,hf3,hk3⟩:=yv hc2 (rv.mono e2) z3
      cases ea3
      by_cases hz:fs3.length < 1000
      ·rw [if_pos hz] at p2
       obtain ⟨ex,cx⟩:=hc2.setC (o:=.ins C dx3 (wy fl (.int (f n m)) us3)) (x:=.ins C (jQ fl (.int (f n m)) fs3)) hO3 (fun ex=>⟨a,dx3,_,hO3,Y5,by
        have:=qp.put (fl:=fl) (Rep.int (K:=X.K) (H:=H2) (O:=O2) (f n m)) hf3
        exact ⟨this.1,this.2.mono ex⟩⟩)
       exact ⟨n,m,rfl,rfl,dx3,us3,ha3,by rw [hf3.length];exact hz,p2 _ O2 ex cx σ (hl2.mono ex)⟩
      ·rw [if_neg hz] at p2;exact p2.elim
    | _=>exact p2.elim
   | _=>exact p1.elim
theorem XR:qax X .Add (fun x y H Q=>∃ i j,x=.int i/\y=.int j/\Q (.int (i+j)) H):=qc4
end
section
variable {X:Cx} {pos px py:Pos} {k:Nat}
end
open PyProof.Rows hiding St
structure FunG (K:Frag) (x qual:Str) (st:Stmt) (f:Addr) (fd:FuncData):Prop where
 ex:∃ (oc:Value) (od:Option Addr) (dV kV doc pm:Value) (an:Option Addr) (cdv ct:Value) (osl:Array (Option Value)),
  fd=fnOf x qual (J9 st) (J3 st) (Q5 st) dV kV doc pm an cdv ct/\K.lookup f=some ⟨oc,od,.func fd,osl⟩/\codeIn K cdv qual=true
 kp:keepIn K (.ref f)=true
section
variable {P:Program} {w:World} {K:Frag} {mg:Str->Option Value} {base:Heap}
theorem Y3 {x qual:Str} {st:Stmt} {f:Addr} {oc:Value} {od an:Option Addr} {osl:Array (Option Value)} {dV kV doc pm cdv ct:Value} (l:K.lookup f=some ⟨oc,od,.func (fnOf x qual (J9 st) (J3 st) (Q5 st) dV kV doc pm an cdv ct),osl⟩)
  (c:codeIn K cdv qual=true) (k:keepIn K (.ref f)=true):FunG K x qual st f (fnOf x qual (J9 st) (J3 st) (Q5 st) dV kV doc pm an cdv ct):=⟨⟨oc,od,dV,kV,doc,pm,an,cdv,ct,osl,rfl,l,c⟩,k⟩
theorem T7 {x qual:Str} {st:Stmt} {f:Addr} {fd:FuncData} {N ps:List Str} {k n:Nat} {g:FD} {tb:SD} (F:FunG K x qual st f fd) (S:FnScope N ps (Q5 st)) (hn:ps.length=n)
  (hb:∀ (cdv:Value) (A:Around) (outer:List Env) (s:Shared) (H:Hp) (E:XK),Room k (A.deeper (envOfC qual (Q5 st) s.heap.objs.size f cdv))->DSs (Ql CX0 P w K mg base N qual (Q5 st) f cdv A outer s H E).nox E0 (J3 st) tb)
  (hr:∀ ds c r,ds.length=n->g ds c=some r->∃ d c1,r=.ok d c1/\Fin c (tb (Z1 N ds) c) (some (.ok d c1))):
  FnOk P w K mg base CX0 (k+1) f fd ps (spD K n g):=by
 obtain ⟨oc,od,dV,kV,doc,pm,an,cdv,ct,osl,rfl,lk,hcd⟩:=F.ex
 refine bR lk hcd S (fun vs H Q E h=>by rw [hn];exact h.1) fun A outer s H vs Q E hroom h=>?_
 obtain ⟨hl,O,ds,c,r,hc,p⟩:=h
 refine ⟨_,((hb cdv A outer s H E hroom).h).nox,?_⟩
 have hl2:ds.length=n:=by rw [← r.length];exact hl
 cases z:g ds c with
 | none=>rw [z] at p;exact p.elim
 | some o=>
  refine ⟨O,Z1 N ds,c,Locs.start N r,hc,?_⟩
  obtain ⟨d,c1,e,hf⟩:=hr ds c o hl2 z
  rw [z,e] at p
  exact vO (E:=E0) hc hf p
end
section
variable {X:Cx} {E:XK} {o:Expr} {to:ED} {pos apos cpos:Pos}
end
end DL
namespace DL
open PySem PySem.Spec L2
section
variable {to te:ED} {t:AD} {l:L} {c c1 c2 c3:List Cell} {o x:D} {xs:List D} {n k i:Nat} {g:FD} {dds:List D} {C:Addr} {m:Str} {fs:List (Str×D)} {e:Exc}
theorem P4 (h1:to l c=some (.ok o c1)) (hc:O0 C o c1=some (k,fs)) (hn:fs.lookup m=none) (h2:t l c1=some (.ok xs c2)):N0 C m n g dds to t l c=gN n g (o::(xs++dds)) c2:=by
 unfold N0
 rw [Z9 h1]
 simp only [hc,hn,if_true]
 rw [Z9 h2]
theorem ZY {α:Type} {q:M α} {y:α} (h:q c=some (.ok y c1)):noX q c=some (.ok y c1):=by unfold noX;rw [h]
theorem Uc (h1:to l c=some (.ok o c1)) (hc:O0 C o c1=some (k,fs)) (hn:fs.lookup m=none) (h2:t l c1=some (.ok xs c2)):bo C m n g dds to t l c=gN n g (o::(xs++dds)) c2:=by
 unfold bo
 rw [Z9 (ZY h1)]
 simp only [hc,hn,if_true]
 rw [Z9 (ZY h2)]
theorem QD {tb:SD} {th:HD} {f:Fl} (h:tb l c=some (.ok f c1)):Xn tb th l c=some (.ok f c1):=by unfold Xn;rw [h]
theorem qJ {tb:SD} {th:HD} (h:tb l c=some (.exc e c1)):Xn tb th l c=th e l c1:=by unfold Xn;rw [h]
theorem VA {K:Frag} {B:Addr} {ts:SD} {rest:HD} {f:Fl} (h:exmOne K e.cls (.ref B)=some true) (h2:ts (l.set i (some (.hnd c.length))) (c++[.exn e.cls e.fs])=some (.ok f c1)):hAs K B i ts rest e l c=some (.ok (qaz i f) c1):=by
 unfold hAs
 simp only [h]
 rw [Z9 h2]
 rfl
theorem YX {K:Frag} {B:Addr} {ts:SD} {rest:HD} (h:exmOne K e.cls (.ref B)=some true):Bi K B ts rest e l c=ts l c:=by
 unfold Bi
 simp only [h]
theorem XG (h:gN n g (.hnd c.length::xs) (c++[.ins C []])=some (.ok .non c1)):mkM C n g xs c=some (.ok (.hnd c.length) c1):=by
 unfold mkM
 rw [Z9 h]
 rfl
theorem QX {t:AD} (h:t l c=some (.ok xs c1)) (hl:xs.length<=1000):qP C t l c=some (.exc ⟨.ref C,[]⟩ c1):=by
 unfold qP
 rw [Z9 h]
 simp only [hl,if_true]
theorem V7 {b:Nat} (h:c[b]?=some (.ins C fs)):O0 C (.hnd b) c=some (b,fs):=by
 unfold O0
 simp only [h,if_true]
end
end DL
namespace DL
open PySem PySem.Spec L2
open Classical in
def gC (tb:SD) (N:List Str):FD:=fun ds c=>match tb (Z1 N ds) c with
 | some (.ok (.ret d) c')=>if D.bel c.length d=true/\R6 c c' then some (.ok d (c'.take c.length)) else none
 | some (.ok (.nx _) c')=>if R6 c c' then some (.ok .non (c'.take c.length)) else none
 | _=>none
def gW (tb:SD) (N:List Str):FD:=fun ds c=>match tb (Z1 N ds) c with
 | some (.ok (.ret d) c')=>some (.ok d c')
 | some (.ok (.nx _) c')=>some (.ok .non c')
 | _=>none
section
variable {tb:SD} {N:List Str} {n:Nat} {ds:List D} {c c' c2:List Cell} {d:D} {l:L} {x:Exc}
theorem fe:∀ ds c r,ds.length=n->gC tb N ds c=some r->∃ d c1,r=.ok d c1/\Fin c (tb (Z1 N ds) c) (some (.ok d c1)):=by
 intro ds c r hl e
 unfold gC at e
 split at e
 ·rename_i z
  split at e
  ·rename_i h
   cases e
   exact ⟨_,_,rfl,by rw [z];exact .val h.1 h.2⟩
  ·cases e
 ·rename_i z
  split at e
  ·rename_i h
   cases e
   exact ⟨_,_,rfl,by rw [z];exact .non h⟩
  ·cases e
 ·cases e
theorem Vk:∀ ds c r,ds.length=n->gW tb N ds c=some r->∃ d c1,r=.ok d c1/\Fin c (tb (Z1 N ds) c) (some (.ok d c1)):=by
 intro ds c r hl e
 unfold gW at e
 split at e
 ·rename_i z
  cases e
  exact ⟨_,_,rfl,by rw [z];exact .whole⟩
 ·rename_i z
  cases e
  exact ⟨_,_,rfl,by rw [z];exact .wholeN⟩
 ·cases e
theorem D9 (hl:ds.length=n) (h:tb (Z1 N ds) c=some (.ok (.ret d) c')) (hb:D.bel c.length d=true) (hk:R6 c c') (e:c'.take c.length=c2):gN n (gC tb N) ds c=some (.ok d c2):=by
 unfold gN gC
 rw [if_pos hl,h]
 simp only
 rw [if_pos ⟨hb,hk⟩,e]
theorem Kf (hl:ds.length=n) (h:tb (Z1 N ds) c=some (.ok (.ret d) c')):gN n (gW tb N) ds c=some (.ok d c'):=by
 unfold gN gW
 rw [if_pos hl,h]
theorem bY (hl:ds.length=n) (h:tb (Z1 N ds) c=some (.ok (.nx l) c')):gN n (gW tb N) ds c=some (.ok .non c'):=by
 unfold gN gW
 rw [if_pos hl,h]
end
theorem Zp {chk:List Cell->Prop} {p:TD} {te:ED} {rest:L} {f:D->D} {b:D->Bool} (c:List Cell) (hk:chk c):∀ (xs acc:List D) (o:Option D),(∀ x∈xs,p (some x::rest) c=some (.ok (b x) c))->(∀ x∈xs,te (some x::rest) c=some (.ok (f x) c))->acc.length+xs.length<=1000000->
  C8 chk (J5 0) p te xs acc (o::rest) c=some (.ok (.lst (acc++(xs.filter b).map f)) c)
 | [],acc,o,_,_,_=>by simp [C8,hk]
 | x::xs,acc,o,hp,h,hl=>by
  have ih:=fun acc'=>Zp (b:=b) c hk xs acc' (some x) (fun y hy=>hp y (List.mem_cons_of_mem _ hy)) (fun y hy=>h y (List.mem_cons_of_mem _ hy))
  simp only [C8,J5,List.set_cons_zero]
  rw [if_pos ⟨hk,by simp at hl;omega⟩]
  unfold M.bd noX
  rw [hp x List.mem_cons_self]
  simp only
  cases z:b x with
  | true=>
   simp only [if_true]
   rw [h x List.mem_cons_self]
   simp only
   rw [ih _ (by simp at hl ⊢;omega),List.filter_cons_of_pos z]
   simp
  | false=>
   simp only [Bool.false_eq_true,if_false]
   rw [ih _ (by simp at hl ⊢;omega),List.filter_cons_of_neg (by simp [z])]
abbrev Ev (te:ED) (l:L) (c:List Cell) (x:D):Prop:=te l c=some (.ok x c)
abbrev EvA (t:AD) (l:L) (c:List Cell) (xs:List D):Prop:=t l c=some (.ok xs c)
abbrev EvT (t:TD) (l:L) (c:List Cell) (b:Bool):Prop:=t l c=some (.ok b c)
section
variable {f:D->D->M D} {h:D->M D} {ta tb te:ED} {t:AD} {l:L} {c:List Cell} {x y z:D} {xs:List D} {n:Nat} {g:FD} {dds:List D} {p q:TD} {b:Bool}
theorem ev2 (h1:Ev ta l c x) (h2:Ev tb l c y) (h3:f x y c=some (.ok z c)):Ev (d2 f ta tb) l c z:=(Uw h1 h2).trans h3
theorem ev1 (h1:Ev ta l c x) (h3:h x c=some (.ok z c)):Ev (d1 h ta) l c z:=(Ux h1).trans h3
theorem evc (h1:EvA t l c xs) (h3:gN n g (xs++dds) c=some (.ok z c)):Ev (Z7 n g dds t) l c z:=(B1 h1).trans h3
theorem eva (h1:Ev ta l c x) (h2:EvA t l c xs):EvA (Q1 ta t) l c (x::xs):=Y7 h1 h2
theorem evn:EvA Q9 l c []:=rfl
theorem evt (h1:EvA t l c xs) (hl:xs.length<=1000:=by simp):Ev (vj t) l c (.tup xs):=kE h1 hl
theorem evl (h1:EvA t l c xs) (hl:xs.length<=1000:=by simp):Ev (yt t) l c (.lst xs):=by
 show yt t l c=_
 unfold yt
 rw [Z9 h1]
 first
  | rfl
  | (simp only [if_pos hl];rfl)
theorem I9 (h1:Ev te l c (.bl b)):EvT (tOf te) l c b:=by
 show tOf te l c=_
 unfold tOf
 rw [Z9 h1]
 rfl
theorem K6 (h1:Ev te l c (.bl b)):EvT (W6 te) l c b:=by
 show W6 te l c=_
 unfold W6
 rw [Z9 h1]
 rfl
theorem L5 (h1:EvT p l c b):EvT (Y9 p) l c (!b):=by
 show Y9 p l c=_
 unfold Y9
 rw [Z9 h1]
 rfl
theorem E8 (h1:EvT p l c false) (h2:EvT q l c b):EvT (N6 p q) l c b:=by
 show N6 p q l c=_
 unfold N6
 rw [Z9 h1]
 exact h2
theorem gM (h1:EvT p l c true):EvT (N6 p q) l c true:=by
 show N6 p q l c=_
 unfold N6
 rw [Z9 h1]
 rfl
theorem XW (h1:EvT p l c true) (h2:EvT q l c b):EvT (we p q) l c b:=by
 show we p q l c=_
 unfold we
 rw [Z9 h1]
 exact h2
theorem XX (h1:EvT p l c false):EvT (we p q) l c false:=by
 show we p q l c=_
 unfold we
 rw [Z9 h1]
 rfl
theorem gy {ok:Int->Int->Prop} {f:Int->Int->D} [inst:∀ i j,Decidable (ok i j)] {i j:Int} {c:List Cell} (h:ok i j):i2 ok f (.int i) (.int j) c=some (.ok (f i j) c):=by
 unfold i2
 simp only [if_pos h]
 rfl
end
theorem Zv (c ex:List Cell):(c++ex).take c.length=c:=List.take_left
end DL
namespace DL
open PySem PySem.Spec PySem.Calls L2
open PyProof.Rows hiding St
def yn (K:Frag) (C:Addr) (bmB:List Value) (newId:String):Bool:=match K.lookup C with
 | some ⟨.type "type",_,.cls cd,sl⟩=>(match cd.mro,sl.toList with
  | .ref C'::bm,[_,_,_,_,some (.builtin n),_]=>C' == C && n == newId && !cd.hasDel && PySem.W.tailIn K bmB bm
  | _,_=>false)
 | _=>false
theorem Qb {K:Frag} {h:Heap} {C:Addr} {bmB:List Value} {newId:String} (X:K.In h) (q:yn K C bmB newId=true):
  ∃ bm N nm qn bs hdct sn sub ab col dd k0 k1 k2 k3 k5,h.get? C=some (excClassObj nm qn C N bs bm hdct sn sub ab col dd k0 k1 k2 k3 k5 newId)/\OwnTail h bmB bm:=by
 unfold yn at q
 split at q
 case h_2=>cases q
 case h_1 odict cdat slots found=>
  split at q
  case h_2=>cases q
  case h_1 self rest s0 s1 s2 s3 made s5 mroEq slotsEq=>
   rw [Bool.and_eq_true,Bool.and_eq_true,Bool.and_eq_true] at q
   have isC:self=C:=eq_of_beq q.1.1.1
   have isNew:made=newId:=eq_of_beq q.1.1.2
   have noDel:cdat.hasDel=false:=by simpa using q.1.2
   refine ⟨rest,cdat.ns,cdat.name,cdat.qualname,cdat.bases,cdat.hasDict,cdat.slotNames,cdat.subclasses,cdat.abstract,cdat.collection,odict,s0,s1,s2,s3,s5,?_,tail_of_in X q.2⟩
   rw [X _ _ found,← isNew]
   cases cdat
   cases slots
   simp only at mroEq slotsEq noDel
   subst isC noDel mroEq slotsEq
   rfl
section
variable {prog:Program} {w:World} {A:Around} {K:Frag} {C fI:Addr} {R:Result->Shared->Prop} {h:Heap} {g:Array GenState} {d:Drawn} {t:Nat} {os:OsState}
abbrev ym (C:Addr) (t0:Addr):Obj:={ cls:=.ref C,data:=.fields #[.ref t0,.none,.none,.none,.bool false,.none] }
abbrev D3 (rest:List Value):Obj:={ cls:=.type "tuple",data:=.seq rest.toArray }
theorem JE {rest:List Value} (X:K.In h) (hx:yn K C bmV "ValueError.__new__"=true) (hi:findIn K (.ref C) "__init__"=some (some (.ref fI))) (hf:typeIn K (.ref fI)=some (.type "function")) (hrest:rest.length<=sizeLine)
  (hq:codeAny (model prog w) (A.under (.builtin "type.__call__" ⟨.ref C::rest,[]⟩)) (.call (.ref fI) ⟨.ref (h.objs.size+1)::rest,[]⟩) (InitBack (h.objs.size+1) R) ⟨(h.push (D3 rest)).push (ym C h.objs.size),g,d,t,os⟩):
  codeAny (model prog w) A (.call (.ref C) ⟨rest,[]⟩) R ⟨h,g,d,t,os⟩:=by
 obtain ⟨bm,N,nm,qn,bs,hdct,sn,sub,ab,col,dd,k0,k1,k2,k3,k5,hC,T⟩:=Qb X hx
 have F:=F.excBase_ValueError
 have f1:=tc_lookup
 have f2:=tc_bind (.ref C)
 have hT:(⟨h,g,d,t,os⟩:Shared).TypeIs (.ref C) "type":=⟨_,hC,rfl⟩
 refine codeAny_of_tree ?_
 show wpAny _ _ (callAny (.ref C) _) _ _ _
 repeat (any_goals (first | assumption | with_reducible refine wpAny_loadPart_at hC ?_ | wp_step))
 refine ⟨rfl,?_⟩
 refine codeAny_call_builtin_at (Code.quiet_builtin _ (by decide +kernel)) entry_typeCall (wpAny_check_type_call_sub hC ?_)
 repeat (first | with_reducible refine wpAny_loadPart_at hC ?_ | with_reducible refine wpAny_madeBy_exc hC ?_ | wp_step)
 refine codeAny_call_builtin_code (Code.quiet_builtin _ F.quiet) (wpAny_check_new_subT F T hC ?_)
 refine codeAny_exc_new_subT F T hC ?_ hrest
 show wpAny _ _ _ _ _ _
 have k:∀ b o,h.get? b=some o->((h.push (D3 rest)).push (ym C h.objs.size)).get? b=some o:=fun b o e=>Heap.get?_push_of_some _ (Heap.get?_push_of_some _ e)
 have hC₁:=k _ _ hC
 have hget:((h.push (D3 rest)).push (ym C h.objs.size)).get? (h.objs.size+1)=some (ym C h.objs.size):=by heap_get
 have hcC:(Value.ref C::bm).contains (.ref C)=true:=by simp
 have t1:Looks (model prog w) ((h.push (D3 rest)).push (ym C h.objs.size)) (typeOf (.ref (h.objs.size+1))) (.ref C):=(Looks.ld hget).andThen .now
 have i1:=(looks_findIn (M:=model prog w) X hi).keeps k
 have b1:=(bind_fn (M:=model prog w) X (.ref (h.objs.size+1)) hf).keeps k
 have s1:Looks (model prog w) ((h.push (D3 rest)).push (ym C h.objs.size)) (isSubtype (.ref C) (.ref C)) true:=fun A' Q' E' s' k' q'=>by
  obtain ⟨hh,g',d',t',os'⟩:=s'
  exact wpAny_isSubtype_exc (k' _ _ hC₁) (by rw [hcC];exact q')
 change wpAny _ _ _ _ _ ⟨(h.push (D3 rest)).push (ym C h.objs.size),g,d,t,os⟩
 unfold isInstance callSpecial? specialOf
 repeat (first | with_reducible refine wpAny_call ?_ | lk)
 refine codeAny_mono hq fun r s' z=>?_
 rcases r with e | (v | _ | _ | _) <;> first | exact z | exact z.elim | skip
 obtain ⟨rfl,z⟩:=z
 exact wpAny_pure (wpAny_pure z)
theorem JN {e t0:Addr} {ob:Obj} {vs:Array Value} {rest:List Value} (X:K.In h) (hx:yn K C bmV "ValueError.__new__"=true) (he:h.get? e=some ob) (hcls:ob.cls=.ref C) (hd:ob.data=.fields vs) (h0:vs[0]?=some (.ref t0)) (hrest:rest.length<=sizeLine)
  (hq:R (.ok (.ret .none)) ⟨(h.push (D3 rest)).update e (Obj.mapFields (·.setIfInBounds 0 (.ref h.objs.size))),g,d,t,os⟩):
  codeAny (model prog w) A (.call (.builtin "ValueError.__init__") ⟨.ref e::rest,[]⟩) R ⟨h,g,d,t,os⟩:=by
 obtain ⟨bm,N,nm,qn,bs,hdct,sn,sub,ab,col,dd,k0,k1,k2,k3,k5,hC,T⟩:=Qb X hx
 have F:=F.excBase_ValueError
 refine codeAny_call_builtin F.init.plain F.initEntry (wpAny_check_init_subT F T hC he hcls ?_)
 unfold Builtin.«BaseException.__init__»
 dsimp only
 rw [if_neg (by simp)]
 unfold newTuple Builtin.BaseException.bexcPut
 have hsz:0 < vs.size:=(Array.getElem?_eq_some_iff.mp h0).1
 have he₁:=Heap.get?_push_of_some (h:=h) (D3 rest) he
 refine wpAny_bind (wpAny_newObj_type (wpAny_bind (wpAny_bind (wpAny_field he₁ hd h0 (wpAny_bind (wpAny_setField he₁ hd hsz ?_))))) (by show rest.toArray.size<=sizeLine;rw [List.size_toArray];exact hrest))
 exact wpAny_letGo (wpAny_pure hq)
end
def mz (a C:Addr) (dx:Option Addr):HO:=.ext fun h=>∃ o,h.get? a=some o/\o.cls=.ref C/\o.dict=dx/\∃ ws t0,o.data=.fields ws/\ws[0]?=some (.ref t0)/\ws[1]?=some .none
theorem zI {P:Program} {w:World} {H:Hp} {h:Heap} {a C:Addr} {dx:Option Addr} {o:Obj} {ws:Array Value} {t0:Addr} (e:h.get? a=some o) (hc:o.cls=.ref C) (hd:o.dict=dx) (hw:o.data=.fields ws) (h0:ws[0]?=some (.ref t0)) (h1:ws[1]?=some .none):X4 P w H h a (mz a C dx):=
 ⟨⟨o,e,hc,hd,ws,t0,hw,h0,h1⟩,⟨o,e⟩,fun _ _ ⟨o',q,r⟩ k=>⟨o',k _ q,r⟩⟩
structure BaseI (K:Frag) (P:Addr):Prop where
 ga:specialIn K (.ref P) "__getattribute__"=some (some (.builtin "type.__getattribute__"))
 rd:readsIn K P (.type "type")=true
 fd:findCls K (.ref P) (.type "type") "__init__"=some (.val (.builtin "ValueError.__init__"))
section
variable {X:Cx} {E:XK} {x:Str} {C P fI:Addr} {np cpos apos pos:Pos} {e:Expr} {es:List Expr} {t:TA}
def QK (C:Addr) (t:TA):TE:=fun σ H Q=>t σ H fun vs H1=>∃ a ys dx,vs=.ref a::ys/\ys.length<=1000/\H1 a=some (mz a C dx)/\Q .non H1
theorem jT {pl:Sem Bool} (hC:yn X.K C bmV "ValueError.__new__"=true) (hb:BaseI X.K P) (hg:Gl X x) (hm:X.mg x=some (.ref P)) (ha:PA X (e::es) t) (hdb:(x == ("__debug__":Str))=false:=by decide)
  (hst:starEach (e::es) X.env=(false,eval e X.env)::starEach es X.env:=by rfl) (hpl:(backTo pos (starEach es X.env)).any (·.1)=false:=by rfl)
  (ht:eval (.Call (.Attribute (.Name x np) "__init__" apos) (e::es) [] pos) X.env=(do
   let ov ← eval (.Name x np) X.env
   standAt apos.atName
   let (f,first) ← holding [ov] (getMethod ov "__init__" pl)
   callWith pos f first (backTo pos (starEach (e::es) X.env)) (backToKw pos (keywordEach [] X.env))):=by rfl):
  PE X (.Call (.Attribute (.Name x np) "__init__" apos) (e::es) [] pos) (QK C t):=by
 intro pins s σ H Q I h
 refine methodCall_KW (pl:=pl) (thn (qU (v:=.ref P) hg hm rfl hdb pins s σ H (fun v H1=>v=.ref P/\H1=H) I ⟨rfl,rfl⟩) fun u s1 ⟨v,H1,I1,r1,e1,e2⟩=>?_) ht
 subst e1 e2
 obtain rfl:u=Value.ref P:=r1
 refine PySem.W.method_cls I1.kIn hb.ga (PySem.W.cls_value I1.kIn hb.rd hb.fd rfl ?_)
 have I2:Inv X pins σ H1 { s1 with toks:=s1.toks+1 }:=I1.kept (fun _ _ q=>q)
 refine PyProof.Rows.callWith_builtin1 (thn (ha pos pins _ σ H1 _ I2 h) fun us s2 ⟨vs,H2,I3,r3,a,ys,dx,ev,hl,hH,q⟩=>?_) hst hpl
 subst ev
 obtain ⟨u,us',rfl,ru,rr⟩:∃ u us',us=u::us'/\Y8 (.ref a) u/\Y4 ys us':=by cases r3 with | cons ru rr=>exact ⟨_,_,rfl,ru,rr⟩
 obtain rfl:u=Value.ref a:=ru
 obtain ⟨⟨o,ho,hc,hd,ws,t0,hw,h0,h1⟩,_,_⟩:=(show X4 X.prog X.w H2 s2.heap a (mz a C dx) from I3.hok a _ hH)
 have hlen:us'.length<=sizeLine:=by
  have:=rr.length
  have:=qa
  omega
 obtain ⟨hh,g,d,tk,os⟩:=s2
 refine wpAny_call (JN I3.kIn hC ho hc hw h0 hlen ?_)
 refine ⟨.non,H2,?_,rfl,q⟩
 have hw2:=Obj.data_mapFields hw (·.setIfInBounds 0 (.ref hh.objs.size))
 have self:=Heap.get?_update_self (Obj.mapFields (·.setIfInBounds 0 (.ref hh.objs.size))) (Heap.get?_push_of_some (D3 us') ho) (Obj.isFreed_of_fields hw2)
 have:=I3.write (x:=a) (e:=a) (o:=mz a C dx) (t':=tk) (h':=(hh.push (D3 us')).update a (Obj.mapFields (·.setIfInBounds 0 (.ref hh.objs.size)))) (by rw [hH];exact trivial) (.inl rfl) (fun b u hb hu=>(Heap.get?_update_other _ _ (Ne.symm hb)).trans (Heap.get?_push_of_some _ hu)) ⟨_,self⟩ ?_
 ·rwa [show upd H2 a (mz a C dx)=H2 from by funext b;unfold upd;split <;> simp_all] at this
 ·have hsz:0 < ws.size:=(Array.getElem?_eq_some_iff.mp h0).1
  refine zI self ?_ ?_ hw2 (t0:=hh.objs.size) ?_ ?_
  ·rw [← hc];unfold Obj.mapFields;split <;> rfl
  ·rw [← hd];exact ub _ _
  ·simp [Array.getElem?_setIfInBounds,hsz]
  ·rw [Array.getElem?_setIfInBounds_ne (by decide)];exact h1
end
end DL
namespace DL
open PySem PySem.Spec PySem.Calls L2
open PyProof.Rows hiding St
open PySem.Builtin PySem.Builtin.ObjectAttr
theorem kR (self:Value):refuseLoop self "__setattr__" bmV=pure ():=by kernel_rfl
theorem jJ {h:Heap} (self:Value) {l:List Value} (T:OwnTail h bmV l):refuseLoop self "__setattr__" l=pure ():=by
 induction T with
 | base=>exact kR self
 | own _ _ _ _ ih=>rw [refuseLoop_ref];exact ih
section
variable {prog:Program} {w:World} {A:Around} {E:Value->Shared->Prop} {K:Frag} {C x:Addr} {R:Result->Shared->Prop} {s:Shared} {ox:Obj} {od:Option Obj} {name:Str} {tk:Tok} {v:Value}
theorem WR {r:Option Value} (X:K.In s.heap) (hx:yn K C bmV "ValueError.__new__"=true) (I:InstAt s.heap x ox C od) (ht:takerIn K C name=some r)
  (h:∀ b,wpAny (model prog w) A.in1 (match r with | some a=>setByDescriptor a (.ref x) v | none=>storeInOwnDict (.ref x) (.ref C) (.str name tk) name v b)
   (fun fin s'=>match fin with | .done f=>R (.ok f) s' | .again c'=>c'.quiet=true/\codeAny (model prog w) A c' R s') (fun e s'=>R (.error e) s') s):
  codeAny (model prog w) A (.call (.builtin "object.__setattr__") ⟨[.ref x,.str name tk,v],[]⟩) R s:=by
 have SF:=PySem.F.store_object
 obtain ⟨bm,N,nm,qn,bs,hdct,sn,sub,ab,col,dd,k0,k1,k2,k3,k5,hC,T⟩:=Qb X hx
 have hob:(Value.ref C::bm).contains (.type "object")=true:=by rw [List.contains_cons,T.hasType (b:=true) (by decide +kernel),Bool.or_true]
 have sub':Looks (model prog w) s.heap (isInstance (.ref x) (.type "object")) true:=I.type.andThen (fun A' Q' E' s' k' q'=>by
  obtain ⟨hh,g',d',t',os'⟩:=s'
  exact wpAny_isSubtype_exc (k' _ _ hC) (by rw [hob];exact q'))
 refine codeAny_call_builtin SF.slot.plain SF.entry (@PySem.W.check_slot (model prog w) _ _ s "object.__setattr__" "object" "__setattr__" (.ref x) [.str name tk,v] [] _ SF.kind SF.split sub' (SF.args (.ref x) (.str name tk) v) ?_)
 obtain ⟨attr,ha,hr⟩:=Option.bind_eq_some_iff.mp ht
 have hm:Looks (model prog w) s.heap (mroOf (.ref C)) (.ref C::bm):=fun A' Q' E' s' k' q'=>by
  obtain ⟨hh,g',d',t',os'⟩:=s'
  exact wpAny_mroOf_exc (k' _ _ hC) q'
 have L3:Looks (model prog w) s.heap (storeTaker? attr) r:=by
  cases attr with
  | none=>cases hr;exact .now
  | some a=>
   obtain ⟨b,hb,rfl⟩:=Option.map_eq_some_iff.mp hr
   refine (PySem.W.looks_takesIn X hb).andThen ?_
   cases b <;> exact .now
 rw [PySem.W.osa_eq,refuse_eq]
 refine wpAny_bind (wpAny_bind (I.type.here (wpAny_bind (hm.here ?_))))
 rw [refuseLoop_ref,jJ _ T]
 refine wpAny_pure (wpAny_bind (I.type.here (wpAny_bind ((looks_findIn X ha).here (wpAny_bind (L3.here ?_))))))
 exact h _
theorem QP {o:Obj} {ws:Array Value} {Q:Unit->Shared->Prop} (X:K.In s.heap) (hx:yn K C bmV "ValueError.__new__"=true) (hs:findIn K (.ref C) "__setattr__"=some (some (.builtin "object.__setattr__"))) (ht:takerIn K C name=some none) (hh:hasDictIn K C=true)
  (he:s.heap.get? x=some o) (hc:o.cls=.ref C) (hd:o.dict=none) (hw:o.data=.fields ws)
  (h:∀ h' tk',h'.Ns1 s.heap.objs.size (fun y=>if y=name then some v else none)->h'.get? x=some { o with dict:=some s.heap.objs.size }->(∀ b u,b≠x->s.heap.get? b=some u->h'.get? b=some u)->Q () { s with heap:=h',toks:=tk' }):
  wpAny (model prog w) A (setAttr (.ref x) name v) Q E s:=by
 have I:InstAt s.heap x o C none:=⟨he,hc,by obtain ⟨oc,odi,oda,osl⟩:=o;cases hw;rfl,by rw [hd];trivial⟩
 refine set_plain X I hs (WR (s:={ s with toks:=s.toks+1 }) (r:=none) X hx I ht fun b=>?_)
 obtain ⟨cd,hcd,hd'⟩:=any_some hh
 obtain ⟨oc,odi,oda,osl⟩:=o
 dsimp only at hc hd hw
 subst hc hd hw
 refine wpAny_bind (wpAny_pure (wpAny_bind (wpAny_bind (wpAny_loadPart he (wpAny_bind (Looks.here (s:={ s with toks:=s.toks+1 }) (looks_clsIn X hcd) ?_))))))
 rw [hd']
 have e1:(s.heap.push emptyDict).get? s.heap.objs.size=some emptyDict:=Heap.get?_push_size s.heap rfl
 have e2:(s.heap.push emptyDict).get? x=some ⟨.ref C,none,.fields ws,osl⟩:=Heap.get?_push_of_some _ he
 have ne:x≠s.heap.objs.size:=fun z=>absurd (Heap.lt_size he) (by rw [z];exact Nat.lt_irrefl _)
 let up:Obj->Obj:=fun o=>{ o with dict:=some s.heap.objs.size }
 have e3:((s.heap.push emptyDict).update x up).get? x=some ⟨.ref C,some s.heap.objs.size,.fields ws,osl⟩:=Heap.get?_update_self up e2 rfl
 have e4:((s.heap.push emptyDict).update x up).get? s.heap.objs.size=some emptyDict:=(Heap.get?_update_other _ _ ne).trans e1
 have ns0:((s.heap.push emptyDict).update x up).Ns s.heap.objs.size (fun _=>none):=⟨emptyDict,#[],_,e4,rfl,(fun e he=>absurd he (by simp)),fun _=>rfl⟩
 show wpAny _ _ (do
  let d ← alloc emptyDict
  update x fun o=>{ o with dict:=some d }
  pure (some d)) _ _ _
 refine wpAny_bind (wpAny_alloc (wpAny_bind (wpAny_update e2 (wpAny_pure ?_))))
 refine wpAny_bind (wpAny_pure (wpAny_bind ?_))
 refine wpAny_nsSet1 (s:={ s with heap:=(s.heap.push emptyDict).update x up,toks:=s.toks+1 }) (Heap.Ns1.of_empty ns0) fun h' hn2 hs2=>?_
 obtain ⟨oD,esD,epD,hoD,hdD,hcD⟩:=hn2.count (PySem.Within.cons (ns:=[]) name v (fun y hy=>absurd rfl hy))
 refine wpAny_bind (wpAny_lookBehind hoD (by rw [hdD];exact pastItsLine_dict (Nat.le_trans hcD (by rw [sizeLine_eq];simp))) ?_)
 exact wpAny_pure (h _ _ hn2 ((hs2.2 _ ne).trans e3) fun b u hb hu=>by
  have nb:b≠s.heap.objs.size:=fun z=>absurd (Heap.lt_size hu) (by rw [z];exact Nat.lt_irrefl _)
  rw [hs2.2 _ nb,Heap.get?_update_other _ _ (Ne.symm hb)]
  exact Heap.get?_push_of_some _ hu)
end
section
variable {X:Cx} {pins:List (Addr×Obj)} {σ:St} {H:Hp} {s:Shared}
theorem gG {d:Addr} {o:HO} (I:Inv X pins σ H s) (f:FrX X pins H d) (ok:X4 X.prog X.w (upd H d o) s.heap d o):Inv X pins σ (upd H d o) s:=by
 have ne:∀ b u,H b=some u->b≠d:=fun b u e z=>by rw [z,f.un] at e;cases e
 refine ⟨I.ok,I.os,I.bare,⟨I.base.keep,I.base.slot,fun b o e m hx=>?_,I.base.there,fun b ys e=>?_,fun b o u e=>?_,fun b ps e=>?_⟩,I.loc,I.cell,?_,fun x c e=>?_,fun p hp=>?_,fun a o' e=>?_,I.len⟩
 ·rw [Z2 (fun z=>by rw [z,f.new] at e;cases e)]
  exact I.base.free b o e m hx
 ·have:=I.base.tups b ys e
  rw [Z2 (ne b _ this)];exact this
 ·have:=I.base.frzs b o u e
  rw [Z2 (ne b _ this)];exact this
 ·obtain ⟨m,this⟩:=I.base.tbls b ps e
  exact ⟨m,by rw [Z2 (ne b _ this)];exact this⟩
 ·rw [Z2 (fun z=>f.loc z.symm)];exact I.free
 ·rw [Z2 (f.cel x c e)];exact I.freeC x c e
 ·obtain ⟨e,m,n1,n2,d⟩:=I.pin p hp
  exact ⟨e,by rw [Z2 (f.pin p hp)];exact m,n1,n2,d⟩
 ·by_cases z:a=d
  ·subst z
   rw [Y5] at e
   cases e
   exact ok
  ·rw [Z2 z] at e
   refine (I.hok a o' e).stay (fun b u _ q=>q) (fun b q=>?_) fun b ys q=>?_
   ·rw [Z2 (ne b _ q)];exact q
   ·rw [Z2 (ne b _ q)];exact q
structure ExcS (K:Frag) (C:Addr) (f:Str):Prop where
 ex:yn K C bmV "ValueError.__new__"=true
 sa:findIn K (.ref C) "__setattr__"=some (some (.builtin "object.__setattr__"))
 tk:takerIn K C f=some none
 hd:hasDictIn K C=true
variable {o value:Expr} {f:Str} {pos pos':Pos} {ta tv:TE} {C:Addr}
def qa4 (C:Addr) (f:Str) (ta tv:TE):TS:=fun D σ H=>tv σ H fun y H1=>ta σ H1 fun x H2=>∃ a,x=.ref a/\H2 a=some (mz a C none)/\∀ d,H2 d=none->d≠a->D.nx σ (upd (upd H2 a (mz a C (some d))) d (.xd [(f,y)]))
theorem bC (hex:X.ex=[]) (S:ExcS X.K C f) (ha:PE X o ta) (hv:PE X value tv) (hs:swapsWith value (some (.Attribute o f pos')) pos.line X.env=pure false):PS X (.Assign [.Attribute o f pos'] value pos) (qa4 C f ta tv):=by
 intro pins s σ H D I h
 refine plainObj_wpAny_Assign_Attribute (thn (hv pins s σ H _ I h) fun u s1 ⟨y,H1,I1,ry,q⟩=>thn (ha pins s1 σ H1 _ I1 q) fun ov s2 ⟨x,H2,I2,rx,a,ex,ea,q2⟩=>?_) hs
 subst ex
 obtain rfl:ov=Value.ref a:=rx
 obtain ⟨⟨ob,ho,hc,hd,ws,t0,hw,h0,h1⟩,_,_⟩:=(show X4 X.prog X.w H2 s2.heap a (mz a C none) from I2.hok a _ ea)
 refine QP I2.kIn S.ex S.sa S.tk S.hd ho hc hd hw fun h' tk' n1 e1 k1=>?_
 have fr:H2 s2.heap.objs.size=none:=I2.fresh
 have dn:s2.heap.get? s2.heap.objs.size=none:=Heap.get?_none_of_le (Nat.le_refl _)
 have ne:s2.heap.objs.size≠a:=fun z=>by rw [z,ea] at fr;cases fr
 have I3:=I2.write (x:=a) (e:=a) (o:=mz a C (some s2.heap.objs.size)) (t':=tk') (h':=h') (by rw [ea];exact trivial) (.inl rfl) k1 ⟨_,e1⟩ (zI e1 hc rfl hw h0 h1)
 have F0:=zH hex I2 dn fr
 have F1:FrX X pins (upd H2 a (mz a C (some s2.heap.objs.size))) s2.heap.objs.size:={ F0 with un:=by rw [Z2 ne];exact fr }
 exact ⟨σ,_,gG (o:=.xd [(f,y)]) I3 F1 ⟨_,n1,fun g=>by
  show gk ([(f,y)].lookup g) (if g=f then some u else none)
  by_cases z:g=f
  ·rw [if_pos z,z,List.lookup_cons_self];exact ry
  ·rw [if_neg z,List.lookup_cons,show (g == f)=false from beq_false_of_ne z];exact trivial⟩,q2 _ fr ne⟩
end
end DL
namespace DL
open PySem PySem.Spec PySem.Calls L2
open PyProof.Rows hiding St
theorem fX {M:Model} {A:Around} {E:Value->Shared->Prop} {env:Env} {s:Shared} {x:Sem Value} {Q:Flow->Shared->Prop} {nm q:Str} {C N:Addr} {bs bm:List Value} {hdct:Bool} {sn:List Str} {sub:List Value} {ab:Bool} {col:Option Bool} {dd:Option Addr} {k0 k1 k2 k3 k5:Option Value} {newId:String}
  (hbase:bm.contains (.type "BaseException")=true) (hh:A.handled=none)
  (h:wpAny M A x (fun v s₁=>∃ e o ws,v=.ref e/\s₁.heap.get? C=some (excClassObj nm q C N bs bm hdct sn sub ab col dd k0 k1 k2 k3 k5 newId)/\s₁.heap.get? e=some o/\o.cls=.ref C/\o.data=.fields ws/\ws[1]?=some .none/\E (.ref e) s₁) E s):
  wpAny M A (raiseStmt env (some x) none) Q E s:=by
 have hcB:(Value.ref C::bm).contains (.type "BaseException")=true:=by rw [List.contains_cons,hbase,Bool.or_true]
 unfold raiseStmt
 refine wpAny_bind (wpAny_mono h (fun v s₁ h₁=>?_) fun _ _ x=>x)
 obtain ⟨e,o,ws,rfl,hC,he,hc,hw,h1,hE⟩:=h₁
 obtain ⟨oc,od,oda,osl⟩:=o
 dsimp only at hc hw
 subst hc hw
 obtain ⟨hp,g,d,tk,os⟩:=s₁
 repeat (first | with_reducible refine wpAny_loadPart_at he ?_ | with_reducible refine wpAny_loadPart_at hC ?_ | (with_reducible refine wpAny_isSubtype_exc hC ?_;rw [hcB]) | wp_step)
 rw [h1]
 refine wpAny_pure ?_
 rw [if_neg (by decide)]
 exact wpAny_pure (wpAny_raiseNew_none hh hE)
def vV (H:Hp) (a:Addr):Hp:=fun b=>if b=a then none else H b
section
variable {X:Cx} {pins:List (Addr×Obj)} {σ:St} {H:Hp} {s:Shared} {E:XK}
theorem Vb (a:Addr):vV H a a=none:=if_pos rfl
theorem bg {a b:Addr} (h:b≠a):vV H a b=H b:=if_neg h
theorem Qe {a b:Addr} (h:H b=none):vV H a b=none:=by
 unfold vV
 split
 ·rfl
 ·exact h
theorem gE {a:Addr} {φ:Heap->Prop} (I:Inv X pins σ H s) (he:H a=some (.ext φ)):Inv X pins σ (vV H a) s:=by
 refine ⟨I.ok,I.os,I.bare,⟨I.base.keep,I.base.slot,fun b o e m hx=>Qe (I.base.free b o e m hx),I.base.there,fun b ys e=>?_,fun b o u e=>?_,fun b ps e=>?_⟩,I.loc,I.cell,Qe I.free,fun x c e=>Qe (I.freeC x c e),fun p hp=>?_,fun b o e=>?_,I.len⟩
 ·have:=I.base.tups b ys e
  rw [bg (fun z=>by rw [z,he] at this;cases this)];exact this
 ·have:=I.base.frzs b o u e
  rw [bg (fun z=>by rw [z,he] at this;cases this)];exact this
 ·obtain ⟨m,this⟩:=I.base.tbls b ps e
  exact ⟨m,by rw [bg (fun z=>by rw [z,he] at this;cases this)];exact this⟩
 ·obtain ⟨e,m,n1,n2,d⟩:=I.pin p hp
  exact ⟨e,Qe m,n1,n2,d⟩
 ·have ne:b≠a:=fun z=>by rw [z,Vb] at e;cases e
  rw [bg ne] at e
  refine (I.hok b o e).stay (fun _ _ _ q=>q) (fun c q=>?_) fun c ys q=>?_
  ·rw [bg (fun z=>by rw [z,he] at q;cases q)];exact q
  ·rw [bg (fun z=>by rw [z,he] at q;cases q)];exact q
end
section
variable {X:Cx} {CX:CXT} {k:Nat} {f C:Addr} {fd:FuncData} {ps:List Str} {sp:Sp} {E E':XK} {x:Str} {np cpos pos:Pos} {e:Expr} {es:List Expr} {t:TA} {pins:List (Addr×Obj)} {σ:St} {H:Hp} {s:Shared}
structure MkX (K:Frag) (C f:Addr):Prop where
 ex:yn K C bmV "ValueError.__new__"=true
 init:findIn K (.ref C) "__init__"=some (some (.ref f))
 fn:isFn K (.ref f)=true
 kp:keepIn K (.ref C)=true
theorem Inv.madeX (I:Inv X pins σ H s) (us:List Value):Inv X pins σ (upd H (s.heap.objs.size+1) (mz (s.heap.objs.size+1) C none)) { s with heap:=(s.heap.push (D3 us)).push (ym C s.heap.objs.size) }:=by
 have e2:((s.heap.push (D3 us)).push (ym C s.heap.objs.size)).get? (s.heap.objs.size+1)=some (ym C s.heap.objs.size):=by
  have:=Heap.get?_push_size (s.heap.push (D3 us)) (o:=ym C s.heap.objs.size) rfl
  rwa [Heap.size_push] at this
 exact I.laid (a:=s.heap.objs.size+1) (t':=s.toks) (fun b u q=>Heap.get?_push_of_some _ (Heap.get?_push_of_some _ q)) (Nat.le_succ _) (zI e2 rfl rfl rfl rfl rfl)
theorem fV {us:List Value} {vs:List V} {Q:Addr->Hp->Prop} {Qv:Value->Shared->Prop} (M:MkX X.K C f) (F:FnOk X.prog X.w X.K X.mg X.base CX k f fd ps sp) (hr:Room (k+1) X.A) (hb:Y6 X.K fd ps [])
  (hx:C0 CX X E) (I:Inv X pins σ H s) (r:Y4 vs us) (hlen:us.length<=sizeLine) (h:∀ x,H x=none->sp (.ref x::vs) (upd H x (mz x C none)) (fun v H2=>v=.non/\Q x H2) E)
  (fin:∀ H' s',Inv X pins σ H' s'->Q (s.heap.objs.size+1) H'->Qv (.ref (s.heap.objs.size+1)) s'):
  wpAny (model X.prog X.w) X.A (call (.ref C) us) Qv X.xe s:=by
 have hq:=h (s.heap.objs.size+1) (I.hok.fresh (Nat.le_succ _))
 have I2:=Inv.madeX (C:=C) I us
 have r2:Y4 (V.ref (s.heap.objs.size+1)::vs) (Value.ref (s.heap.objs.size+1)::us):=.cons rfl r
 have hl:(Value.ref (s.heap.objs.size+1)::us++[]).length=ps.length:=by
  have e:=r2.length
  rw [F.len _ _ _ _ hq] at e
  rw [List.append_nil]
  exact e.symm
 have bnd:=hb _ (Value.ref (s.heap.objs.size+1)::us) I2.kIn hl
 rw [List.append_nil] at bnd
 obtain ⟨hh,g,d,tk,os⟩:=s
 refine wpAny_call (JE (fI:=f) I.kIn M.ex M.init (beq_iff_eq.mp M.fn) hlen (codeAny_mono (F.run _ X.stack _ _ ⟨Value.ref (hh.objs.size+1)::us,[]⟩ (Value.ref (hh.objs.size+1)::us) _ _ E (hr.make C us [])
  (I2.env0.make C us []) bnd r2 hq) fun r s' hq'=>?_))
 cases r with
 | error e=>exact hx pins σ _ _ e s' I2 hq'
 | ok fl=>
  cases fl with
  | ret u=>
   obtain ⟨v,H',I3,rv,ev,q3⟩:=I2.after hq'
   subst ev
   exact ⟨rv,fin _ _ I3 q3⟩
  | next=>exact False.elim hq'
  | brk=>exact False.elim hq'
  | cont=>exact False.elim hq'
def VH (C:Addr) (sp:Sp) (E E':XK) (t:TA):TS:=fun _ σ H=>t σ H fun vs H1=>vs.length<=1000/\∀ x,H1 x=none->sp (.ref x::vs) (upd H1 x (mz x C none)) (fun v H2=>v=.non/\∃ dx,H2 x=some (mz x C dx)/\E' (.ref C) dx (vV H2 x)) E
theorem fZ (hex:X.ex=[]) (hcalm:X.calm=true) (hl:Kq X E') (M:MkX X.K C f) (F:FnOk X.prog X.w X.K X.mg X.base CX k f fd ps sp) (hr:Room (k+1) X.A) (hb:Y6 X.K fd ps []) (hx:C0 CX X E) (hg:Gl X x) (hm:X.mg x=some (.ref C)) (ha:PA X (e::es) t) (hdb:(x == ("__debug__":Str))=false:=by decide)
  (he:starEach (e::es) X.env=(false,eval e X.env)::starEach es X.env:=by rfl) (hpl:(backTo cpos (starEach es X.env)).any (·.1)=false:=by rfl):
  PS X (.Raise (some (.Call (.Name x np) (e::es) [] cpos)) none pos) (VH C sp E E' t):=by
 intro pins s σ H D I h
 obtain ⟨bm,N,nm,qn,bs,hdct,sn,sub,ab,col,dd,k0,k1,k2,k3,k5,hC,T⟩:=Qb I.ok.mod.kin M.ex
 have hbase:bm.contains (.type "BaseException")=true:=T.hasType PySem.F.excBase_ValueError.hasBase
 rw [arm_exec_Raise]
 refine wpAny_bind (wpAny_standAt (fX (C:=C) (nm:=nm) (q:=qn) (N:=N) (bs:=bs) (bm:=bm) (hdct:=hdct) (sn:=sn) (sub:=sub) (ab:=ab) (col:=col) (dd:=dd) (k0:=k0) (k1:=k1) (k2:=k2) (k3:=k3) (k5:=k5) (newId:="ValueError.__new__") hbase (I.ok.hd hcalm) ?_))
 refine wpAny_bind (wpAny_mono ?_ (fun v s1 h1=>wpAny_bind (wpAny_standAt (wpAny_pure h1))) fun _ _ x=>x)
 refine wpAny_Call_Name_kw (uw I hg hm ?_ hdb)
 refine callWith_K (h₀:=X.base) I.ok.mod.kin M.kp (thn (ha cpos pins s σ H _ I h) fun us s1 ⟨vs,H1,I1,r,hlen,q⟩=>⟨I1.kIn,?_⟩) he hpl
 have hlen2:us.length<=sizeLine:=by
  have:=r.length
  have:=qa
  omega
 refine fV M F hr hb hx I1 r hlen2 q fun H' s' I' ⟨dx,hH,q'⟩=>?_
 obtain ⟨⟨o,ho,hc,hd,ws,t0,hw,h0,h1⟩,_,_⟩:=(show X4 X.prog X.w H' s'.heap _ (mz _ C dx) from I'.hok _ _ hH)
 refine ⟨_,o,ws,rfl,I'.bk _ _ hC,ho,hc,hw,h1,hl pins σ _ _ ?_⟩
 have h0':X.s₀.heap.get? (s1.heap.objs.size+1)=none:=by
  cases z:X.s₀.heap.get? (s1.heap.objs.size+1) with
  | none=>rfl
  | some o=>
   obtain ⟨o',e⟩:=I1.base.there _ o z (by rw [hex];simp)
   exact absurd (Heap.lt_size e) (Nat.not_lt.mpr (Nat.le_succ _))
 exact ⟨_,.ref C,dx,none,vV H' _,rfl,gE I' hH,⟨⟨o,ws,ho,hc,hd,hw,h1⟩,fun T hT=>by cases hT⟩,Vb _,h0',(fun T hT=>by cases hT),q'⟩
end
end DL
namespace DL
open PySem PySem.Spec PySem.Calls L2
open PyProof.Rows hiding St
def qd8 (K:Frag):List V->Hp->VK->Prop:=fun xs H Q=>∃ p ys,xs=[.ref p]/\(SqL K H p ys\/SqT K H p ys)/\∀ l,H l=none->Q (.ref l) (upd H l (.lst ys))
def qfh (K:Frag) (C:Addr) (f:Str) (tw:TE):TS:=qds (qa3 (QK C (xV (Vx 0) (xV tw QH)))) (qa4 C f (Vx 0) (tCB (qd8 K) (xV (Vx 1) QH)))
def spI (K:Frag) (C:Addr) (f:Str):Sp:=fun vs H Q _=>∃ a z ys,vs=[.ref a,.ref z]/\H a=some (mz a C none)/\(SqL K H z ys\/SqT K H z ys)/\
 ∀ p d,H p=none->H d=none->p≠d->Q .non (upd (upd (upd H p (.lst ys)) a (mz a C (some d))) d (.xd [(f,.ref p)]))
section
variable {P:Program} {w:World} {K:Frag} {mg:Str->Option Value} {base:Heap}
theorem okI {x qual:Str} {st:Stmt} {f C:Addr} {fd:FuncData} {N ps:List Str} {k:Nat} {fl:Str} {tw:TE} {wd:V} (F:FunG K x qual st f fd) (S:FnScope N ps (Q5 st)) (hn:ps.length=2) (hN:N.length=2) (htw:∀ σ H Q,Q wd H->tw σ H Q)
  (hb:∀ (cdv:Value) (A:Around) (outer:List Env) (s:Shared) (H:Hp) (E:XK),Room k (A.deeper (envOfC qual (Q5 st) s.heap.objs.size f cdv))->PSs (Ql CX0 P w K mg base N qual (Q5 st) f cdv A outer s H E) (J3 st) (qfh K C fl tw)):
  FnOk P w K mg base CX0 (k+1) f fd ps (spI K C fl):=by
 obtain ⟨oc,od,dV,kV,doc,pm,an,cdv,ct,osl,rfl,lk,hcd⟩:=F.ex
 refine bR lk hcd S (fun vs H Q E h=>by obtain ⟨a,z,ys,rfl,_⟩:=h;rw [hn];rfl) fun A outer s H vs Q E hroom h=>⟨_,hb cdv A outer s H E hroom,?_⟩
 obtain ⟨a,z,ys,rfl,hH,hz,q⟩:=h
 refine ⟨.ref a,rfl,htw _ _ _ ⟨a,[wd],none,rfl,by show 1<=1000;omega,hH,?_⟩⟩
 refine ⟨.ref z,rfl,z,ys,rfl,hz,fun l hl=>⟨.ref a,rfl,a,rfl,?_,fun d hd hda=>?_⟩⟩
 ·rw [Z2 (fun e=>by rw [← e,hH] at hl;cases hl)];exact hH
 ·have hdl:d≠l:=fun e=>by rw [e,Y5] at hd;cases hd
  rw [Z2 hdl] at hd
  exact q l d hl hd (Ne.symm hdl)
end
end DL
namespace DL
open PySem PySem.Spec PySem.Calls L2 Builtin.Str
open PyProof.Rows hiding St
section
variable {X:Cx} {E:XK} {a b e o:Expr} {ta tb te to:ED} {pos apos cpos:Pos}
theorem Ge:D6 X (.type "int") (fun xs H Q=>∃ x n,xs=[.str x]/\PySem.intText? x=some n/\x.length<=640/\Q (.int n) H):=by
 intro pins s σ H xs us Q I r h
 obtain ⟨x,n,rfl,hn,hl,q⟩:=h
 obtain ⟨u,rfl,t,rfl⟩:=fh r
 exact PySem.W.KIN.call_text hn hl ⟨.int n,H,I.tok _,⟨_,rfl⟩,q⟩
end
end DL
namespace DL
open PySem PySem.Spec PySem.Calls L2 Builtin.Str
open PyProof.Rows hiding St
abbrev tx (x:List Nat):Str:=⟨x.toArray⟩
def vK:D->M D
 | .str x=>match PySem.intText? (tx x) with
  | some n=>if x.length<=640 then M.ret (.int n) else M.stuck
  | none=>M.stuck
 | .bl b=>M.ret (.int (if b then 1 else 0))
 | .int i=>M.ret (.int i)
 | _=>M.stuck
section
variable {X:Cx} {E:XK} {a b e o:Expr} {ta tb te to:ED} {pos apos cpos:Pos}
theorem Qg {p2:Pos} (hm:X.mg "int"=none) (ha:DE X E a ta) (hg:Gl X "int":=by rfl) (hst:starEach [a] X.env=[(false,eval a X.env)]:=by rfl):DE X E (.Call (.Name "int" p2) [a] [] pos) (d1 vK ta):=
 qbm (T:="int") (D6.or Ge uN) (fun H O c d v Q hc r p=>by
  cases r with
  | str x=>
   have p:V2 X.K E H O Q ((match PySem.intText? (tx x) with
    | some n=>if x.length<=640 then (M.ret (D.int n):M D) else M.stuck
    | none=>M.stuck) c):=p
   cases z:PySem.intText? (tx x) with
   | none=>rw [z] at p;exact p.elim
   | some n=>
    rw [z] at p
    have p:V2 X.K E H O Q ((if x.length<=640 then (M.ret (D.int n):M D) else M.stuck) c):=p
    by_cases z2:x.length<=640
    ·rw [if_pos z2] at p
     exact .inl ⟨tx x,n,rfl,z,by show x.toArray.size<=640;rw [List.size_toArray];exact z2,J4.ret p hc _ (.int _)⟩
    ·rw [if_neg z2] at p;exact p.elim
  | int i=>exact .inr (.inl ⟨i,rfl,J4.ret p hc _ (.int _)⟩)
  | bl b=>exact .inr (.inr ⟨b,rfl,J4.ret p hc _ (.int _)⟩)
  | _=>exact p.elim) hm ha (hg:=hg) (hst:=hst)
end
end DL
namespace DL
open PySem PySem.Spec PySem.Calls L2
open PyProof.Rows hiding St
def ut (C:Addr) (f:Str) (t:AD):SD:=fun l=>(t l).bd fun xs c=>match xs with
 | [d]=>match kI d c with
  | some ys=>some (.exc ⟨.ref C,[(f,.hnd c.length)]⟩ (c++[.lst ys]))
  | none=>none
 | _=>none
theorem gX {H:Hp} {x p d:Addr} {e0 l e1 y:HO} (hx:H x=none) (hp:p≠x) (hd:d≠x):vV (upd (upd (upd (upd H x e0) p l) x e1) d y) x=upd (upd H p l) d y:=by
 funext b
 by_cases z:b=x
 ·subst z
  rw [Vb,Z2 (Ne.symm hd),Z2 (Ne.symm hp),hx]
 ·rw [bg z]
  by_cases zd:b=d
  ·subst zd;rw [Y5,Y5]
  ·rw [Z2 zd,Z2 zd,Z2 z]
   by_cases zp:b=p
   ·subst zp;rw [Y5,Y5]
   ·rw [Z2 zp,Z2 zp,Z2 z]
theorem VP {K:Frag} {H:Hp} {x b:Addr} {o:HO} {us:List V} (n:H x=none) (h:SqL K H b us):SqL K (upd H x o) b us:=by
 rcases h with (h | ⟨o',h⟩) | h
 ·exact .inl (.inl (by rw [Z2 (Y2 h n)];exact h))
 ·exact .inl (.inr ⟨o',by rw [Z2 (Y2 h n)];exact h⟩)
 ·exact .inr h
theorem VO {K:Frag} {H:Hp} {x b:Addr} {o:HO} {us:List V} (n:H x=none) (h:SqT K H b us):SqT K (upd H x o) b us:=by
 rcases h with (h | ⟨o',h⟩) | h
 ·exact .inl (.inl (by rw [Z2 (Y2 h n)];exact h))
 ·exact .inl (.inr ⟨o',by rw [Z2 (Y2 h n)];exact h⟩)
 ·exact .inr h
section
variable {X:Cx} {E:XK} {x:Str} {C fA:Addr} {np cpos pos:Pos} {e:Expr} {t:AD} {k:Nat} {fd:FuncData} {ps:List Str} {fl:Str}
theorem Bq (hex:X.ex=[]) (hcalm:X.calm=true) (hl:Kq X E) (M:MkX X.K C fA) (F:FnOk X.prog X.w X.K X.mg X.base CX0 k fA fd ps (spI X.K C fl)) (hr:Room (k+1) X.A) (hb:Y6 X.K fd ps []) (hm:X.mg x=some (.ref C)) (ha:DA X E [e] t) (hg:Gl X x:=by rfl) (hdb:(x == ("__debug__":Str))=false:=by decide)
  (he:starEach [e] X.env=[(false,eval e X.env)]:=by rfl):
  DS X E (.Raise (some (.Call (.Name x np) [e] [] cpos)) none pos) (ut C fl t):=by
 refine ⟨PS.imp (fZ (E:=E) hex hcalm hl M F hr hb Z5 hg hm ha.h hdb he rfl) fun Dn σ H h=>?_⟩
 obtain ⟨O,l,c,hl,hc,p⟩:=h
 refine C3 hl hc p fun xs vs H1 O1 c1 e1 hl1 hc1 rv p1=>?_
 match xs,rv,p1 with
 | [],_,p1=>exact p1.elim
 | _::_::_,_,p1=>exact p1.elim
 | [d],rv,p1=>
  cases rv with
  | cons r1 r2=>
   cases r2
   refine ⟨by show 1<=1000;omega,fun a hx=>?_⟩
   have p1:J4 X.K E H1 O1 (xh X.K Dn) (match kI d c1 with
    | some ys=>some (.exc ⟨.ref C,[(fl,.hnd c1.length)]⟩ (c1++[.lst ys]))
    | none=>none):=p1
   cases z:kI d c1 with
   | none=>rw [z] at p1;exact p1.elim
   | some ys=>
    rw [z] at p1
    have p1:J4 X.K E H1 O1 (xh X.K Dn) (some (.exc ⟨.ref C,[(fl,.hnd c1.length)]⟩ (c1++[.lst ys]))):=p1
    obtain ⟨b,us,rfl,hs,rs0⟩:=VU hc1 r1 z
    refine ⟨a,b,us,rfl,Y5,hs.imp (VP hx) (VO hx),fun q dd hq hd hqd=>⟨rfl,some dd,?_,?_⟩⟩
    ·have:dd≠a:=fun w=>by rw [w,Y5] at hd;cases hd
     rw [Z2 (Ne.symm this),Y5]
    ·have hqa:q≠a:=fun w=>by rw [w,Y5] at hq;cases hq
     have hda:dd≠a:=fun w=>by rw [w,Y5] at hd;cases hd
     rw [Z2 hqa] at hq
     rw [Z2 hda] at hd
     rw [gX hx hqa hda]
     obtain ⟨ex1,hc2,rh⟩:=hc1.pushLst hq rs0
     have hd2:upd H1 q (.lst us) dd=none:=by rw [Z2 (Ne.symm hqd)];exact hd
     have ex2:=Ext.updN (O:=O1++[some q]) (o:=.xd [(fl,.ref q)]) hd2
     refine p1 _ (O1++[some q]) (.ref C) (some dd) (ex1.trans ex2) (hc2.updN hd2) ⟨rfl,fun w=>?_,[(fl,.ref q)],Y5,rfl,.cons (rh.mono ex2) .nil⟩
     obtain ⟨o,ho⟩:=hc2.there w
     rw [hd2] at ho;cases ho
end
end DL
namespace DL
open PySem PySem.Spec PySem.Calls L2
open PyProof.Rows hiding St
structure ExcF (K:Frag) (C:Addr) (f:Str):Prop where
 hd:hasDictIn K C=true
 no:findIn K (.ref C) f=some none
def qee (K:Frag) (f:Str):V->Hp->VK->Prop:=fun x H Q=>∃ a C b us v,x=.ref a/\H a=some (Kz a (.ref C) (some b))/\ExcA K C/\ExcF K C f/\H b=some (.xd us)/\us.lookup f=some v/\Q v H
section
variable {X:Cx} {E:XK} {o e:Expr} {to:ED} {ta:TE} {pos:Pos} {f:Str}
theorem WN (he:PE X e ta) (hb:attributeBase e f X.env (eval e X.env)=eval e X.env):PE X (.Attribute e f pos) (tUn (qee X.K f) ta):=by
 intro pins s σ H Q I h
 refine bZ hb (thn (he pins s σ H _ I h) fun u s1 ⟨x,H1,I1,rx,q⟩=>?_)
 obtain ⟨a,C,b,us,v,rfl,ha,Fa,Ff,hbb,hl,q⟩:=q
 obtain rfl:u=Value.ref a:=rx
 obtain ⟨⟨oe,h1,h2,h3,ws,h4⟩,_,_⟩:=(show X4 X.prog X.w H1 s1.heap a (Kz a (.ref C) (some b)) from I1.hok a _ ha)
 have no:notCls oe=true:=by
  unfold notCls
  rw [h4]
 obtain ⟨mA,ns,r⟩:=(show X4 X.prog X.w H1 s1.heap b (.xd us) from I1.hok b _ hbb)
 obtain ⟨od,hod,look⟩:=Be ns
 obtain ⟨u',hu,ru⟩:=gk.some_of (v:=v) (o:=mA f) (by rw [← hl];exact r f)
 have J:InstAt s1.heap a oe C (some od):=⟨h1,h2,no,by rw [h3];exact hod⟩
 have hf:findObj X.K C (some od) f=some (.value u'):=findObj_own Ff.hd Ff.no rfl (by rw [look,hu])
 obtain ⟨hh,g,d,tk,os⟩:=s1
 unfold getAttr
 refine wpAny_bind (wpAny_mkText ?_)
 refine JW (v:=u') (name:=f) I1.kIn J Fa (fun A' E' R hR=>Wc I1.kIn J hf hR) (PySem.W.handedOut_of (Bh ru)) ⟨v,H1,I1.tok _,ru,q⟩
def XU (good:List (Value×Str)) (f:Str) (d:D):M D:=fun c=>match d with
 | .hnd k=>match c[k]? with
  | some (.exn cls fs)=>match fs.lookup f with
   | some x=>if (cls,f)∈good then some (.ok x c) else none
   | none=>none
  | _=>none
 | _=>none
def qbn (K:Frag) (good:List (Value×Str)):Prop:=∀ p∈good,∃ C,p.1=.ref C/\ExcA K C/\ExcF K C p.2
theorem qal {good:List (Value×Str)} (hG:qbn X.K good) (ho:DE X E o to) (hb:attributeBase o f X.env (eval o X.env)=eval o X.env:=by rfl):DE X E (.Attribute o f pos) (d1 (XU good f) to):=by
 refine ⟨PE.imp (WN ho.h hb) fun σ H Q h=>?_⟩
 obtain ⟨O,l,c,hl,hc,p⟩:=h
 refine Z3 hl hc p fun x v H1 O1 c1 e1 hl1 hc1 rv p1=>?_
 unfold XU at p1
 cases rv with
 | @hnd a k hk=>
  simp only at p1
  cases q:c1[k]? with
  | none=>rw [q] at p1;exact p1.elim
  | some cl=>
   rw [q] at p1
   cases cl with
   | exn cls fs=>
    simp only at p1
    obtain ⟨a',dx,q1,q2,q3⟩:=hc1.at_ k _ q
    rw [hk] at q1;cases q1
    cases z:fs.lookup f with
    | none=>rw [z] at p1;exact p1.elim
    | some d=>
     rw [z] at p1
     simp only at p1
     by_cases hg:(cls,f)∈good
     ·rw [if_pos hg] at p1
      obtain ⟨C,e2,Fa,Ff⟩:=hG _ hg
      simp only at e2
      subst e2
      cases dx with
      | none=>
       have e3:fs=[]:=q3
       rw [e3] at z;cases z
      | some b=>
       obtain ⟨_,us,h1,h2⟩:=q3
       obtain ⟨w,hw,rw_⟩:=qp.lookup h2 z
       exact ⟨a,C,b,us,w,rfl,q2,Fa,Ff,h1,hw,V2.ok p1 hc1 rw_⟩
     ·rw [if_neg hg] at p1;exact p1.elim
   | _=>exact p1.elim
 | _=>exact p1.elim
end
end DL
namespace DL
open PySem PySem.Spec PySem.Calls L2 Builtin
open PyProof.Rows hiding St
end DL
namespace DL
open PySem PySem.Spec PySem.Calls L2
open PyProof.Rows hiding St
section
variable {X:Cx} {E:XK} {e o:Expr} {te to:ED} {pos apos cpos:Pos}
end
end DL
namespace DL
open PySem PySem.Spec PySem.Calls L2
open PyProof.Rows hiding St
inductive Fin2 (c:List Cell):Option (Out Fl)->Option (Out D)->Prop where
 | old {a:Option (Out Fl)} {b:Option (Out D)} (h:Fin c a b):Fin2 c a b
 | wholeX {x:Exc} {c':List Cell}:Fin2 c (some (.exc x c')) (some (.exc x c'))
def gWX (tb:SD) (N:List Str):FD:=fun ds c=>match tb (Z1 N ds) c with
 | some (.exc x c')=>some (.exc x c')
 | _=>gW tb N ds c
section
variable {tb:SD} {N:List Str} {n:Nat} {ds:List D} {c c':List Cell} {d:D} {x:Exc}
theorem Xp:∀ ds c r,ds.length=n->gWX tb N ds c=some r->Fin2 c (tb (Z1 N ds) c) (some r):=by
 intro ds c r hl e
 unfold gWX at e
 split at e
 ·rename_i z
  cases e
  rw [z];exact .wholeX
 ·obtain ⟨d,c1,rfl,h⟩:=Vk (n:=n) ds c r hl e
  exact .old h
theorem zQ (hl:ds.length=n) (h:tb (Z1 N ds) c=some (.ok (.ret d) c')):gN n (gWX tb N) ds c=some (.ok d c'):=by
 unfold gN gWX gW
 rw [if_pos hl,h]
theorem ue (hl:ds.length=n) (h:tb (Z1 N ds) c=some (.exc x c')):gN n (gWX tb N) ds c=some (.exc x c'):=by
 unfold gN gWX
 rw [if_pos hl,h]
end
section
variable {P:Program} {w:World} {K:Frag} {mg:Str->Option Value} {base:Heap}
theorem vA {x qual:Str} {st:Stmt} {f:Addr} {fd:FuncData} {N ps:List Str} {k n:Nat} {g:FD} {tb:SD} (F:FunG K x qual st f fd) (S:FnScope N ps (Q5 st)) (hn:ps.length=n)
  (hb:∀ (cdv:Value) (A:Around) (outer:List Env) (s:Shared) (H:Hp) (E:XK),Room k (A.deeper (envOfC qual (Q5 st) s.heap.objs.size f cdv))->DSs (Ql (CXD P w) P w K mg base N qual (Q5 st) f cdv A outer s H E) E (J3 st) tb)
  (hr:∀ ds c r,ds.length=n->g ds c=some r->Fin2 c (tb (Z1 N ds) c) (some r)):
  FnOk P w K mg base (CXD P w) (k+1) f fd ps (spD K n g):=by
 obtain ⟨oc,od,dV,kV,doc,pm,an,cdv,ct,osl,rfl,lk,hcd⟩:=F.ex
 refine bR lk hcd S (fun vs H Q E h=>by rw [hn];exact h.1) fun A outer s H vs Q E hroom h=>?_
 obtain ⟨hl,O,ds,c,r,hc,p⟩:=h
 refine ⟨_,(hb cdv A outer s H E hroom).h,?_⟩
 have hl2:ds.length=n:=by rw [← r.length];exact hl
 cases z:g ds c with
 | none=>rw [z] at p;exact p.elim
 | some o=>
  refine ⟨O,Z1 N ds,c,Locs.start N r,hc,?_⟩
  have hf:=hr ds c o hl2 z
  rw [z] at p
  generalize tb (Z1 N ds) c=a at hf ⊢
  cases hf with
  | old h=>exact vO hc h p
  | wholeX=>exact p
end
end DL
namespace DL
open PySem PySem.Spec PySem.Calls L2
open PyProof.Rows hiding St
section
variable {X:Cx} {pins:List (Addr×Obj)} {σ:St} {H:Hp} {s:Shared} {a:Addr} {u u':HO}
theorem Inv.swapO (I:Inv X pins σ H s) (e:H a=some u) (n1:∀ x,u≠.own x) (n2:∀ xs,u≠.tup xs) (n3:∀ o v,X.H₀ a≠some (.frz o v)) (n4:∀ ps,X.H₀ a≠some (.tbl ps)) (hn:X4 X.prog X.w H s.heap a u'):Inv X pins σ (upd H a u') s:=by
 have ne:∀ b,H b=none->b≠a:=fun b h z=>by rw [z,e] at h;cases h
 have own:∀ b x,H b=some (.own x)->upd H a u' b=some (.own x):=fun b x h=>by
  rw [Z2 (fun z=>by rw [z,e] at h;cases h;exact n1 x rfl)];exact h
 have tup:∀ b xs,H b=some (.tup xs)->upd H a u' b=some (.tup xs):=fun b xs h=>by
  rw [Z2 (fun z=>by rw [z,e] at h;cases h;exact n2 xs rfl)];exact h
 refine ⟨I.ok,I.os,I.bare,⟨I.base.keep,I.base.slot,fun b o q n hx=>?_,I.base.there,fun b xs q=>tup b xs (I.base.tups b xs q),fun b o v q=>?_,fun b ps q=>?_⟩,I.loc,I.cell,?_,fun x c h=>?_,fun p hp=>?_,fun b v q=>?_,I.len⟩
 ·have:=I.base.free b o q n hx
  rw [Z2 (ne b this)];exact this
 ·have:=I.base.frzs b o v q
  rw [Z2 (fun z=>n3 o v (by rw [← z];exact q))];exact this
 ·obtain ⟨more,this⟩:=I.base.tbls b ps q
  exact ⟨more,by rw [Z2 (fun z=>n4 ps (by rw [← z];exact q))];exact this⟩
 ·rw [Z2 (ne _ I.free)];exact I.free
 ·rw [Z2 (ne _ (I.freeC x c h))];exact I.freeC x c h
 ·obtain ⟨p1,p2,p3⟩:=I.pin p hp
  exact ⟨p1,by rw [Z2 (ne _ p2)];exact p2,p3⟩
 ·by_cases z:b=a
  ·subst z
   rw [Y5] at q
   cases q
   exact hn.stay (fun _ _ _ h=>h) (fun c h=>own c _ h) tup
  ·rw [Z2 z] at q
   exact (I.hok b v q).stay (fun _ _ _ h=>h) (fun c h=>own c _ h) tup
end
def Itk (a:Addr) (o:Obj) (kvs:List (Key×V)):It:=
 ⟨fun i H=>H a=some (.frz o (.dK kvs))/\i < kvs.length,fun i H x H'=>H'=H/\∃ k v,kvs[i]?=some (k,v)/\x=kV k,fun i H=>H a=some (.frz o (.dK kvs))/\kvs.length<=i⟩
theorem qes:∀ {kvs:List (Key×V)} {vs:List (Key×Value)},KV kvs vs->∀ {i:Nat} {k:Key} {v:V},kvs[i]?=some (k,v)->∃ u,vs[i]?=some (k,u):=by
 intro kvs vs h
 induction h with
 | nil=>intro i k v e;simp at e
 | @cons p q l m r t ih=>
  intro i k v e
  cases i with
  | zero=>
   simp only [List.getElem?_cons_zero,Option.some.injEq] at e
   subst e
   refine ⟨q.2,?_⟩
   simp only [List.getElem?_cons_zero,Option.some.injEq]
   obtain ⟨r1,_⟩:=r
   exact Prod.ext r1.symm rfl
  | succ i=>
   simp only [List.getElem?_cons_succ] at e ⊢
   exact ih e
theorem fM {P:Program} {w:World} {K:Frag} {tg:Expr} (a it:Addr) (hne:a≠it) (o:Obj) (es:Array DictEntry) (ep:Nat) (ho:o.data=.dict es ep) (kvs:List (Key×V)):
  Turn P w K tg (Itk a o kvs) [it] it (fun i h=>h.IsKeyIter it a i kvs.length ep) where
 mem:=by simp
 obj:=fun i h st b hb=>by
  have e:b=it:=by simpa using hb
  subst e
  obtain ⟨o,e,c,d⟩:=st
  exact ⟨o,e,fun v z=>by rw [d] at z;cases z⟩
 keep:=fun i h h' st k=>st.at fun o e=>k it (by simp) o e
 item:=by
  intro X hP hw hK hc i pins s σ H E I hf st hg
  subst hP hw hK
  obtain ⟨hq,hi⟩:=hg
  obtain ⟨e0,z,hs,vs,rel,dd⟩:=(show X4 X.prog X.w H s.heap a (.frz o (.dK kvs)) from I.hok a _ hq)
  obtain ⟨ep',dat⟩:=dd.dictAt
  obtain ⟨o',es',g1,g2,g3,g4⟩:=id dat
  rw [e0] at g1
  cases g1
  rw [ho] at g3
  cases g3
  obtain ⟨⟨k,v⟩,hx⟩:∃ p,kvs[i]?=some p:=⟨kvs[i],by simp [hi]⟩
  obtain ⟨u,hu⟩:=qes rel hx
  obtain ⟨f0,f1,f2,f3,f4,f5⟩:=hf it (by simp)
  rw [rel.length] at st
  refine wpAny_pyNext_dict_item st dat hu fun key h' hkey st' sb=>?_
  have I1:Inv X pins σ H { s with heap:=h' }:=I.turned (t':=s.toks) (fun b o hb e=>(sb.2 b hb).trans e) f0 f1 f3 f4 f5
  obtain ⟨o,e,c,d⟩:=id st'
  rw [← rel.length] at st'
  exact ⟨key,rfl,vM (s:={ s with heap:=h' }) e c d (by decide) ⟨kV k,H,I1,JJ hkey,⟨rfl,k,v,hx,rfl⟩,st',fun b hb=>(hf b hb).1⟩⟩
 done:=by
  intro X hP hw hK hc i pins s σ H E I hf st hg
  subst hP hw hK
  obtain ⟨hq,hi⟩:=hg
  obtain ⟨e0,z,hs,vs,rel,dd⟩:=(show X4 X.prog X.w H s.heap a (.frz o (.dK kvs)) from I.hok a _ hq)
  obtain ⟨ep',dat⟩:=dd.dictAt
  obtain ⟨o',es',g1,g2,g3,g4⟩:=id dat
  rw [e0] at g1
  cases g1
  rw [ho] at g3
  cases g3
  obtain ⟨f0,f1,f2,f3,f4,f5⟩:=hf it (by simp)
  have hl:=rel.length
  rw [hl] at st
  exact wpAny_pyNext_dict_end (I.ok.hd hc) st dat (by simp;omega) fun h' eb=>⟨rfl,I.turned (t':=s.toks) (fun b o hb e=>eb b o hb e) f0 f1 f3 f4 f5⟩
 self:=fun _ _ _ _ _ st h=>wpAny_pyIter_keyiter st h
section
variable {X:Cx} {E:XK} {tg:Expr}
def qbe (tl:TE):TI:=fun σ H R=>tl σ H fun x H1=>∃ a kvs,x=.ref a/\H1 a=some (.dK kvs)/\∀ o,R (Itk a o kvs) (upd H1 a (.frz o (.dK kvs)))
theorem WK {l:Expr} {tl:TE} (hl:PE X l tl):PI X tg l (qbe tl):=by
 intro pins s σ H R I h
 refine thn (hl pins s σ H _ I h) fun v s1 ⟨x,H1,I1,r1,a,kvs,e,hq,q⟩=>?_
 subst e
 cases r1
 have nf:∀ o v,X.H₀ a≠some (.frz o v):=fun o v h=>by have:=I1.base.frzs a o v h;rw [hq] at this;cases this
 have nt:∀ ps,X.H₀ a≠some (.tbl ps):=fun ps h=>by obtain ⟨m,this⟩:=I1.base.tbls a ps h;rw [hq] at this;cases this
 obtain ⟨z,hs,vs,rel,dd⟩:=Vt I1.hok hq
 obtain ⟨ep,dat⟩:=dd.dictAt
 obtain ⟨o,es,g1,g2,g3,g4⟩:=id dat
 refine wpAny_pyIter_dict (knd:=W7 X.prog X.w) hs dat ?_
 have I2:Inv X pins σ (upd H1 a (.frz o (.dK kvs))) s1:=Inv.swapO I1 hq (fun _ h=>by cases h) (fun _ h=>by cases h) nf nt ⟨g1,z,hs,vs,rel,dd⟩
 have lt:a < s1.heap.objs.size:=Heap.lt_size g1
 refine ⟨s1.heap.objs.size,[s1.heap.objs.size],_,_,_,rfl,I2.kept (t':=s1.toks) fun b o e=>Heap.get?_push_of_some _ e,fM a _ (Nat.ne_of_lt lt) o es ep g3 kvs,⟨_,Heap.get?_push_size _ rfl,rfl,by rw [rel.length];rfl⟩,fun b hb=>?_,q o⟩
 have e:b=s1.heap.objs.size:=by simpa using hb
 subst e
 exact I2.fpOk (Nat.le_refl _) (I2.hok.fresh (Nat.le_refl _))
theorem ZQ {scope:Scope} {elt iter:Expr} {x:Str} {px pos:Pos} {ifs:List Expr} {N':List Str} {σ0:St->St} {tl:TE} {g:TG} {tt:TT} {te:TE} (S:CompScope X scope) (hcalm:X.calm=true) (hi:PE X iter tl)
  (hN:∀ σ:St,σ.length=X.N.length->(σ0 σ).length=N'.length/\∀ (i:Nat) (y:Str) (v:V),N'[i]?=some y->(σ0 σ)[i]?=some (some v)->scope.names.lookup y=some .free/\∃ j:Nat,X.N[j]?=some y/\σ[j]?=some (some v))
  (hg:∀ C s H fp pins,PG (V5 X scope C N' s H fp pins) (.Name x px) g) (ht:∀ C s H fp pins,yV (V5 X scope C N' s H fp pins) ifs tt) (he:∀ C s H fp pins,PE (V5 X scope C N' s H fp pins) elt te)
  (hs:∀ v,foldedSetIterable iter X.env v=pure v:=by intro _;rfl):PE X (.ListComp elt [⟨.Name x px,iter,ifs,0⟩] scope pos) (fun σ H Q=>∃ a kvs,H a=some (.dK kvs)/\jA (qbe tl) σ0 g tt te σ H fun v H'=>∃ o,H' a=some (.frz o (.dK kvs))/\Q v (upd H' a (.dK kvs))):=by
 intro pins s σ H Q I ⟨a,kvs,hq,h⟩
 have nf:∀ o v,X.H₀ a≠some (.frz o v):=fun o v h=>by have:=I.base.frzs a o v h;rw [hq] at this;cases this
 have nt:∀ ps,X.H₀ a≠some (.tbl ps):=fun ps h=>by obtain ⟨m,this⟩:=I.base.tbls a ps h;rw [hq] at this;cases this
 refine thn (bF S hcalm (WK hi) hN hg ht he hs pins s σ H _ I h) fun v s1 ⟨y,H1,I1,r1,o,ho,q⟩=>?_
 obtain ⟨_,hk⟩:=(show X4 X.prog X.w H1 s1.heap a (.frz o (.dK kvs)) from I1.hok a _ ho)
 exact ⟨y,_,Inv.swapO I1 ho (fun _ h=>by cases h) (fun _ h=>by cases h) nf nt hk,r1,q⟩
end
end DL
namespace DL
open PySem PySem.Spec PySem.Calls L2
open PyProof.Rows hiding St
def vJ:DK×D->Bool
 | (.inr _,.tup [.str _,.int _])=>true
 | _=>false
def Qk:D->List Nat
 | .tup (.str l::_)=>l
 | _=>[]
def jG (x y:D):M D:=fun c=>match V8 x c,y with
 | some (_,kvs),.str one=>match J2 kvs (.inr one) with
  | some d=>if kvs.all vJ=true/\kvs.length < 1000000 then some (.ok (.lst ((kvs.filter fun kv=>decide (Qk kv.2=Qk d)).map fun kv=>dkD kv.1)) c) else none
  | none=>none
 | _,_=>none
theorem vI {p:DK×D} (h:vJ p=true):∃ a l n,p=(.inr a,.tup [.str l,.int n]):=by
 unfold vJ at h
 split at h
 ·exact ⟨_,_,_,rfl⟩
 ·cases h
theorem Wk:∀ {kvs:List (DK×D)} {i:Nat} {k:DK} {d:D},(kvs.map (·.1)).Nodup->kvs[i]?=some (k,d)->J2 kvs k=some d
 | [],i,k,d,_,h=>by simp at h
 | p::r,0,k,d,_,h=>by
  simp only [List.getElem?_cons_zero,Option.some.injEq] at h
  subst h
  rw [K0,if_pos rfl]
 | p::r,i+1,k,d,n,h=>by
  rw [List.getElem?_cons_succ] at h
  rw [List.map_cons,List.nodup_cons] at n
  rw [K0,if_neg (fun z=>n.1 (by rw [z];exact List.mem_map.mpr ⟨_,List.mem_of_getElem? h,rfl⟩))]
  exact Wk n.2 h
theorem xT {K:Frag} {H:Hp} {O:Ow} {v:V} {l:List Nat} {n:Int} (r:Rep K H O v (.tup [.str l,.int n])):∃ a,v=.ref a/\H a=some (.tup [.str ⟨l.toArray⟩,.int n]):=by
 cases r with
 | @tup a vs _ h _ rs=>
  cases rs with
  | cons h1 t1=>
   cases t1 with
   | cons h2 t2=>
    cases t2
    cases h1
    cases h2
    exact ⟨a,rfl,h⟩
theorem xY {K:Frag} {H:Hp} {O:Ow}:∀ (kvs:List (DK×D)),Reps K H O (kvs.map fun p=>kV (kK p.1)) (kvs.map fun p=>dkD p.1)
 | []=>.nil
 | p::r=>.cons (by
   obtain ⟨k,d⟩:=p
   cases k with
   | inl i=>exact .int i
   | inr x=>exact .str x) (xY r)
section
variable {X:Cx} {E:XK}
theorem hu1 {n:Nat} (h:n+64 < cLine):n+1 < cLine:=by omega
abbrev qa0 (K:Frag):TT:=QG (tOp (WD K false) (tOp (rIx K) (QI (Vx 1) (Vx 0)) (tC (.int 0))) (tOp (rIx K) (QI (Vx 1) (Vx 2)) (tC (.int 0))))
theorem qaf {scope:Scope} {elt iter:Expr} {x:Str} {px pos:Pos} {ifs:List Expr} (i j:Nat) (S:CompScope X scope) (hcalm:X.calm=true) (hi:PE X iter (Vx i)) (hN:jr X.N scope.names [i,j]=true)
  (hg:∀ C s H fp pins,PG (V5 X scope C (N9 x X.N [i,j]) s H fp pins) (.Name x px) (vN 0)) (ht:∀ C s H fp pins,yV (V5 X scope C (N9 x X.N [i,j]) s H fp pins) ifs (qa0 X.K))
  (he:∀ C s H fp pins,PE (V5 X scope C (N9 x X.N [i,j]) s H fp pins) elt (Vx 0))
  (hs:∀ v,foldedSetIterable iter X.env v=pure v:=by intro _;rfl):DE X E (.ListComp elt [⟨.Name x px,iter,ifs,0⟩] scope pos) (d2 jG (dv i) (dv j)):=by
 refine ⟨PE.imp (ZQ (N':=N9 x X.N [i,j]) (σ0:=sg0 [i,j]) S hcalm hi (zO hN) hg ht he hs) fun σ H Q h=>?_⟩
 obtain ⟨O,l,c,hl,hc,p⟩:=h
 have hp:∃ dx dy,l[i]?=some (some dx)/\l[j]?=some (some dy)/\V2 X.K E H O Q (jG dx dy c):=by
  unfold d2 dv at p
  cases z1:l[i]? with
  | none=>rw [z1] at p;exact p.elim
  | some o1=>
   cases o1 with
   | none=>rw [z1] at p;exact p.elim
   | some dx=>
    cases z2:l[j]? with
    | none=>rw [z1,z2] at p;exact p.elim
    | some o2=>
     cases o2 with
     | none=>rw [z1,z2] at p;exact p.elim
     | some dy=>rw [z1,z2] at p;exact ⟨dx,dy,rfl,rfl,p⟩
 obtain ⟨dx,dy,h1,h2,p⟩:=hp
 obtain ⟨vx,s1,r1⟩:=hl.at_ i dx h1
 obtain ⟨vy,s2,r2⟩:=hl.at_ j dy h2
 unfold jG at p
 cases zc:V8 dx c with
 | none=>rw [zc] at p;exact p.elim
 | some q0=>
  obtain ⟨kk,kvs⟩:=q0
  rw [zc] at p
  cases r2 with
  | str one=>
   simp only at p
   cases zv:J2 kvs (.inr one) with
   | none=>rw [zv] at p;exact p.elim
   | some d1=>
    rw [zv] at p
    simp only at p
    by_cases zt:kvs.all vJ=true/\kvs.length < 1000000
    ·rw [if_pos zt] at p
     obtain ⟨q,us,e,hO,hq,kr,nd,hk⟩:=qk hc r1 zc
     subst e
     have hlen:=kr.len
     have one1:∃ l1 n1,d1=.tup [.str l1,.int n1]:=by
      obtain ⟨a,l1,n1,e⟩:=vI (List.all_eq_true.mp zt.1 _ (Wz zv))
      cases e
      exact ⟨l1,n1,rfl⟩
     obtain ⟨l1,n1,rfl⟩:=one1
     obtain ⟨w1,hw1,rw1⟩:=kr.val_some zv
     obtain ⟨a1,rfl,ha1⟩:=xT rw1
     refine ⟨q,us,hq,.ref q,s1,q,us,rfl,hq,fun o=>?_⟩
     have fr:upd H q (.frz o (.dK us)) q=some (.frz o (.dK us)):=Y5
     have tupF:∀ {b vs},H b=some (.tup vs)->upd H q (.frz o (.dK us)) b=some (.tup vs):=fun {b vs} hb=>by
      rw [Z2 (fun z=>by rw [z,hq] at hb;cases hb)];exact hb
     refine ⟨fun i' m vs σ' H'=>m=us.length - i'/\i'<=us.length/\H'=upd H q (.frz o (.dK us))/\σ'.length=3/\σ'[1]?=some (some (.ref q))/\σ'[2]?=some (some (.str ⟨one.toArray⟩))/\vs=((kvs.take i').filter fun kv=>decide (Qk kv.2=l1)).map fun kv=>kV (kK kv.1),
      ⟨us.length,by simp,Nat.zero_le _,rfl,rfl,by simp [sg0,s1],by simp [sg0,s2],by simp⟩,?_⟩
     rintro i' m vs σ' H' ⟨rfl,hi',rfl,l3,q1,q2,rfl⟩
     by_cases hlt:i' < us.length
     ·refine .inr ⟨⟨fr,hlt⟩,?_,?_⟩
      ·rw [List.length_map]
       have a1:=List.length_filter_le (fun kv:DK×D=>decide (Qk kv.2=l1)) (kvs.take i')
       have a2:(kvs.take i').length<=i':=by rw [List.length_take];omega
       exact Nat.lt_of_lt_of_le (show _ < 1000000 by omega) qa
      ·rintro x' H' ⟨rfl,k,v,hx,rfl⟩
       obtain ⟨⟨dk,dd⟩,hd⟩:∃ p,kvs[i']?=some p:=⟨kvs[i']'(by omega),by simp⟩
       obtain ⟨a,l2,n2,e⟩:=vI (List.all_eq_true.mp zt.1 _ (List.mem_of_getElem? hd))
       cases e
       have ek:k=kK (.inr a):=by
        have:=congrArg (fun z:List Key=>z[i']?) kr.1
        simp only [List.getElem?_map,hx,hd,Option.map_some,Option.some.injEq] at this
        exact this
       subst ek
       obtain ⟨w2,hw2,rw2⟩:=kr.val_some (Wk nd hd)
       obtain ⟨a2,rfl,ha2⟩:=xT rw2
       have g0:(σ'.set 0 (some (kV (kK (.inr a)))))[0]?=some (some (kV (kK (.inr a)))):=by rw [List.getElem?_set_self (by omega)]
       have g1:(σ'.set 0 (some (kV (kK (.inr a)))))[1]?=some (some (.ref q)):=by rw [List.getElem?_set_ne (by omega)];exact q1
       have g2:(σ'.set 0 (some (kV (kK (.inr a)))))[2]?=some (some (.str ⟨one.toArray⟩)):=by rw [List.getElem?_set_ne (by omega)];exact q2
       have fin:∀ b:Bool,b=decide (l2=l1)->if b=true then Vx 0 (σ'.set 0 (some (kV (kK (.inr a))))) (upd H q (.frz o (.dK us))) (fun y H4=>∃ m',m' < us.length - i'/\m'=us.length - (i'+1)/\i'+1<=us.length/\H4=upd H q (.frz o (.dK us))/\(σ'.set 0 (some (kV (kK (.inr a))))).length=3/\(σ'.set 0 (some (kV (kK (.inr a)))))[1]?=some (some (.ref q))/\(σ'.set 0 (some (kV (kK (.inr a)))))[2]?=some (some (.str ⟨one.toArray⟩))/\(((kvs.take i').filter fun kv=>decide (Qk kv.2=l1)).map fun kv=>kV (kK kv.1))++[y]=((kvs.take (i'+1)).filter fun kv=>decide (Qk kv.2=l1)).map fun kv=>kV (kK kv.1))
         else ∃ m',m' < us.length - i'/\m'=us.length - (i'+1)/\i'+1<=us.length/\upd H q (.frz o (.dK us))=upd H q (.frz o (.dK us))/\(σ'.set 0 (some (kV (kK (.inr a))))).length=3/\(σ'.set 0 (some (kV (kK (.inr a)))))[1]?=some (some (.ref q))/\(σ'.set 0 (some (kV (kK (.inr a)))))[2]?=some (some (.str ⟨one.toArray⟩))/\(((kvs.take i').filter fun kv=>decide (Qk kv.2=l1)).map fun kv=>kV (kK kv.1))=((kvs.take (i'+1)).filter fun kv=>decide (Qk kv.2=l1)).map fun kv=>kV (kK kv.1):=fun b hb=>by
        have tk:kvs.take (i'+1)=kvs.take i'++[(.inr a,.tup [.str l2,.int n2])]:=by rw [List.take_add_one,hd];rfl
        by_cases zl:l2=l1
        ·rw [decide_eq_true zl] at hb
         subst hb
         rw [if_pos rfl]
         refine ⟨_,g0,_,by omega,rfl,by omega,rfl,by rw [List.length_set];exact l3,g1,g2,?_⟩
         rw [tk,List.filter_append,List.map_append,List.filter_cons_of_pos (by simp [Qk,zl])]
         rfl
        ·rw [decide_eq_false zl] at hb
         subst hb
         rw [if_neg Bool.false_ne_true]
         refine ⟨_,by omega,rfl,by omega,rfl,by rw [List.length_set];exact l3,g1,g2,?_⟩
         rw [tk,List.filter_append,List.map_append,List.filter_cons_of_neg (by simp [Qk,zl])]
         simp
       show qa0 X.K _ _ _
       refine ⟨.ref q,g1,_,g0,q,_,rfl,.inl ⟨us,kK (.inr a),.inr ⟨o,fr⟩,rfl,hw2.symm⟩,.inr (.inl ⟨a2,_,0,.str ⟨l2.toArray⟩,rfl,rfl,.inl (.inl (tupF ha2)),rfl,?_⟩)⟩
       refine ⟨.ref q,g1,_,g2,q,_,rfl,.inl ⟨us,kK (.inr one),.inr ⟨o,fr⟩,rfl,hw1.symm⟩,.inr (.inl ⟨a1,_,0,.str ⟨l1.toArray⟩,rfl,rfl,.inl (.inl (tupF ha1)),rfl,?_⟩)⟩
       exact ⟨.str l2,.str l1,.str l2,.str l1,rfl,rfl,_,rfl,fin _ (by simp [eqD];exact Bool.eq_iff_iff.mpr (by simp))⟩
     ·have ei:i'=us.length:=by omega
      subst ei
      refine .inl ⟨⟨fr,Nat.le_refl _⟩,fun pn hn=>?_⟩
      have nq:pn≠q:=fun z=>by rw [z,fr] at hn;cases hn
      have hn0:H pn=none:=by rw [Z2 nq] at hn;exact hn
      refine ⟨o,by rw [Z2 (Ne.symm nq)];exact fr,?_⟩
      rw [show upd (upd (upd H q (.frz o (.dK us))) pn (.lst (((kvs.take us.length).filter fun kv=>decide (Qk kv.2=l1)).map fun kv=>kV (kK kv.1)))) q (.dK us)=upd H pn (.lst ((kvs.filter fun kv=>decide (Qk kv.2=l1)).map fun kv=>kV (kK kv.1))) from by
       rw [hlen,List.take_length]
       funext b
       unfold upd
       by_cases z1:b=q
       ·rw [if_pos z1,if_neg (by rw [z1];exact Ne.symm nq),z1,hq]
       ·rw [if_neg z1,if_neg z1]]
      exact V2.new p hc hn0 (hc.lstNew hn0 (xY _))
    ·rw [if_neg zt] at p;exact p.elim
  | _=>exact p.elim
end
end DL
set_option maxHeartbeats 4000000
namespace HD
open PySem PySem.W PyProof.Rows
abbrev ST:=Option (SharedT×Thread)
section
variable (st:(Code->Sem Fin)->Program->World->SharedT->Thread->Option (SharedT×Thread)) (den:Code->Sem Fin) (p:Program) (w:World) (m:Nat) (ann:Option Value)
def one (x:ST):ST:=@Option.rec (SharedT×Thread) (fun _=>ST) none (fun y=>@Bool.rec (fun _=>ST) (@Bool.rec (fun _=>ST) none (st den p w y.1 y.2) (stepOk m ann y.2)) (some y) (through y.2)) x
def go (k:Nat):ST->ST:=@Nat.rec (fun _=>ST->ST) (one st den p w m ann) (fun _ f x=>@Option.rec (SharedT×Thread) (fun _=>ST) none (fun y=>f (some y)) (f x)) k
def it (n:Nat):ST->ST:=@Nat.rec (fun _=>ST->ST) (fun x=>x) (fun _ f x=>f (one st den p w m ann x)) n
theorem Wp:∀ n,it st den p w m ann n none=none
 | 0=>rfl
 | n+1=>Wp n
theorem JL:∀ a b x,it st den p w m ann (a+b) x=it st den p w m ann b (it st den p w m ann a x)
 | 0,b,x=>by rw [Nat.zero_add];rfl
 | a+1,b,x=>by
  rw [Nat.add_right_comm]
  exact JL a b _
theorem JR:∀ k x,go st den p w m ann k x=it st den p w m ann (2 ^ k) x
 | 0,x=>rfl
 | k+1,x=>by
  have e:go st den p w m ann (k+1) x=@Option.rec (SharedT×Thread) (fun _=>ST) none (fun y=>go st den p w m ann k (some y)) (go st den p w m ann k x):=rfl
  rw [e,Nat.pow_succ,Nat.mul_two,JL,← JR k x]
  cases go st den p w m ann k x with
  | none=>exact (Wp st den p w m ann _).symm
  | some y=>exact JR k (some y)
end
variable {p:Program} {w:World} {m:Nat} {ann:Option Value}
theorem JK {s:SharedT} {t:Thread} (h:through t=true):∀ n,it stepT (denote treeTable) p w m ann n (some (s,t))=some (s,t)
 | 0=>rfl
 | n+1=>by
  have e:one stepT (denote treeTable) p w m ann (some (s,t))=some (s,t):=by
   show @Bool.rec (fun _=>ST) _ _ (through t)=_
   rw [h]
  show it stepT (denote treeTable) p w m ann n (one stepT (denote treeTable) p w m ann (some (s,t)))=_
  rw [e];exact JK h n
theorem qbq:∀ (n:Nat) (s:SharedT) (t:Thread) (s':SharedT) (t':Thread),it stepT (denote treeTable) p w m ann n (some (s,t))=some (s',t')->through t'=true->topRun treeTable p w m ann (n+1) s.abs t=some s'.abs:=by
 intro n
 induction n with
 | zero=>
  intro s t s' t' h ht
  obtain ⟨rfl,rfl⟩:=Prod.mk.inj (Option.some.inj h)
  unfold topRun;rw [ht]
 | succ n ih=>
  intro s t s' t' h ht
  cases ht0:through t with
  | true=>
   rw [JK ht0] at h
   obtain ⟨rfl,rfl⟩:=Prod.mk.inj (Option.some.inj h)
   unfold topRun;rw [ht0]
  | false=>
   have e:one stepT (denote treeTable) p w m ann (some (s,t))=@Bool.rec (fun _=>ST) none (stepT (denote treeTable) p w s t) (stepOk m ann t):=by
    show @Bool.rec (fun _=>ST) _ _ (through t)=_
    rw [ht0]
   have h:it stepT (denote treeTable) p w m ann n (one stepT (denote treeTable) p w m ann (some (s,t)))=some (s',t'):=h
   rw [e] at h
   unfold topRun;rw [ht0]
   cases hk:stepOk m ann t with
   | false=>
    rw [hk] at h
    have h:it stepT (denote treeTable) p w m ann n none=some (s',t'):=h
    rw [Wp] at h;cases h
   | true=>
    rw [hk] at h
    have h:it stepT (denote treeTable) p w m ann n (stepT (denote treeTable) p w s t)=some (s',t'):=h
    cases hs:stepT (denote treeTable) p w s t with
    | none=>rw [hs,Wp] at h;cases h
    | some y=>
     obtain ⟨s2,t2⟩:=y
     rw [hs] at h
     have e2:=stepT_spec hs
     show (match step (denote treeTable) p w s.abs t with | .go s' t'=>topRun treeTable p w m ann (n+1) s' t' | .halt _ _=>none)=_
     rw [e2]
     exact ih s2 t2 s' t' h ht
def mkT (l:List Obj):Nat->Nat->Nat->BT:=fun f=>@Nat.rec (fun _=>Nat->Nat->BT) (fun _ _=>BT.nil) (fun _ g a b=>@Option.rec Obj (fun _=>BT) BT.nil (fun o=>BT.node o (g (2 * a) (a+b)) (g (2 * a) (2 * a+b))) l[b]?) f
def T0 (m:Nat) (w:World) (os:OsState):SharedT:=⟨mkT (boot_heap w.params).objs.toList 12 1 0,m,(boot_heap w.params).life,Array.mk [],boot_drawn,boot_toks,os⟩
def fin {β:Type} (sn:Program->List Str->List Str->(Shared->Bool)->Bool->Shared->β) (p q:Program) (loose:List Str) (Xt:Shared->Bool) {α:Type} (Yf:Shared->α) (w:World) (y:SharedT×Thread):Option (β×α):=
 match through y.2 && (staticsOk (importedModules p.main.body) (boot_heap w.params) y.1.abs.heap && namesBound p y.1.abs.heap && gensDone y.1.abs && laidKept (boot_heap w.params) y.1.abs.heap) with
 | true=>some (sn q loose (importedModules p.main.body) Xt true y.1.abs,Yf y.1.abs)
 | false=>none
theorem XJ {p q:Program} {loose:List Str} {Xt:Shared->Bool} {α:Type} {Yf:Shared->α} {Ya:World->α} {N:Nat} (k m:Nat) (ann:Option Value) {st:(Code->Sem Fin)->Program->World->SharedT->Thread->Option (SharedT×Thread)} {den:Code->Sem Fin} {sn:Program->List Str->List Str->(Shared->Bool)->Bool->Shared->_}
  (hs:stepT=st) (hd:denote treeTable=den) (hn:openSeen=sn) (o:opening p=plainProg p.main.scope.names) (hN:Nat.ble 600 N=true) (hk:Nat.ble (2 ^ k+1) N=true) (f:∀ s,fenceModules? p s=some s)
  (z:∀ w os,(⟨boot_heap w.params,Array.mk [],boot_drawn,boot_toks,os⟩:Shared)=(T0 m w os).abs)
  (sz:∀ w:World,((boot_heap w.params).isNs mainGlobals,(boot_heap w.params).objs.size,(boot_heap w.params).nsMap mainGlobals "__annotations__")=(true,m,ann))
  (h:∀ w os,(go st den p w m ann k (some (T0 m w os,topStub p))).bind (fin sn p q loose Xt Yf w)=some (openGood q loose,Ya w)):LeftO p q loose Xt Yf Ya N:=fun w=>by
 subst hs hd hn
 obtain ⟨⟨hp,gs,d,kk,os⟩,e,e'⟩:=Option.map_eq_some_iff.mp (boot_open o hN f w)
 obtain ⟨rfl,rfl,rfl,rfl⟩:hp=boot_heap w.params/\gs=Array.mk []/\d=boot_drawn/\kk=boot_toks:=by simpa using e'
 obtain ⟨z1,z2,z3⟩:_/\_/\_:=by simpa only [Prod.mk.injEq] using sz w
 obtain ⟨⟨s,t⟩,h1,h2⟩:=Option.bind_eq_some_iff.mp (h w os)
 rw [JR] at h1
 unfold fin at h2
 split at h2
 ·rename_i hb
  obtain ⟨hb1,hb2⟩:=Bool.and_eq_true_iff.mp hb
  have r:=topRun_mono (N - (2 ^ k+1)) _ _ _ _ (qbq _ _ _ _ _ h1 hb1)
  rw [show 2 ^ k+1+(N - (2 ^ k+1))=N by have:=Nat.le_of_ble_eq_true hk;omega,← z w os] at r
  have tt:topFrom treeTable p w N ⟨boot_heap w.params,Array.mk [],boot_drawn,boot_toks,os⟩=some s.abs:=by
   unfold topFrom
   dsimp only
   rw [z1,z2,z3,r]
   show (match staticsOk (importedModules p.main.body) (boot_heap w.params) s.abs.heap && namesBound p s.abs.heap && gensDone s.abs && laidKept (boot_heap w.params) s.abs.heap with | true=>_ | false=>_)=_
   rw [hb2]
  unfold openEnds
  rw [e]
  show (topFrom treeTable p w N _).map _=_
  rw [tt]
  exact h2
 ·cases h2
end HD
set_option maxHeartbeats 4000000
namespace K08
open PySem PySem.Spec L2 DL
open PyProof.Rows hiding St
abbrev RN (n:Nat) (g:FD) (tb:SD) (N:List Str):Prop:=∀ ds c r,ds.length=n->g ds c=some r->∃ d c1,r=.ok d c1/\Fin c (tb (Z1 N ds) c) (some (.ok d c1))
abbrev B0 (P:Program) (w:World) (K:Frag) (mg:Str->Option Value) (base:Heap) (k:Nat) (q:Str) (st:Stmt) (f:Addr) (N:List Str) (tb:SD):Prop:=∀ (cdv:Value) (A:Around) (outer:List Env) (s:Shared) (H:Hp) (E:XK),Room k (A.deeper (envOfC q (Q5 st) s.heap.objs.size f cdv))->DSs (Ql CX0 P w K mg base N q (Q5 st) f cdv A outer s H E).nox E0 (J3 st) tb
abbrev BX (P:Program) (w:World) (K:Frag) (mg:Str->Option Value) (base:Heap) (k:Nat) (q:Str) (st:Stmt) (f:Addr) (N:List Str) (tb:SD):Prop:=∀ (cdv:Value) (A:Around) (outer:List Env) (s:Shared) (H:Hp) (E:XK),Room k (A.deeper (envOfC q (Q5 st) s.heap.objs.size f cdv))->DSs (Ql (CXD P w) P w K mg base N q (Q5 st) f cdv A outer s H E) E (J3 st) tb
theorem scs {N P:List Str} {sc:Scope} (a:sc.kind=.function:=by rfl) (b:sc.isCoroutine=false:=by rfl) (c:sc.isGenerator=false:=by rfl) (d:N.Nodup:=by decide +kernel) (e:N.take P.length=P:=by rfl) (f:∀ x∈P,sc.names.lookup x=some .local\/sc.names.lookup x=some .cell:=by decide +kernel) (g:∀ y∈sc.names,y.2≠.free:=by decide +kernel):FnScope N P sc:=⟨a,b,c,d,e,f,g⟩
def top (i:Nat):Stmt:=PySem.Challenge.pw_pegrise_k08_spare_rows.main.body.getD i (.Pass ⟨0,0,0,0⟩)
abbrev gn:Stmt:=A4 (top 7) 0
abbrev qq:Stmt:=A4 (top 5) 0
abbrev ja:Stmt:=top 10
abbrev E6:Stmt:=top 11
abbrev qy:Stmt:=top 12
abbrev M6:Stmt:=top 13
abbrev yc:Stmt:=top 14
abbrev kn:Stmt:=top 16
abbrev R7:Stmt:=top 17
abbrev qu:Stmt:=top 18
abbrev P2:Stmt:=top 19
abbrev G6:Stmt:=top 20
abbrev P1:Stmt:=top 21
abbrev T3:Stmt:=A4 (top 23) 0
abbrev S5:Stmt:=A4 (top 23) 1
abbrev T4:Stmt:=A4 (top 23) 2
abbrev S6:Stmt:=A4 (top 23) 3
abbrev E7:Stmt:=A4 (top 23) 4
abbrev M3:Stmt:=A4 (top 23) 7
abbrev S7:Stmt:=A4 (top 23) 8
abbrev M7:Stmt:=A4 (top 23) 9
abbrev M5:Stmt:=top 25
abbrev R8:Stmt:=top 26
abbrev A9:Stmt:=top 27
abbrev E4:Stmt:=top 28
abbrev S4:Stmt:=top 29
abbrev G7:Stmt:=top 30
abbrev qw:Stmt:=top 31
abbrev E1:Stmt:=top 32
abbrev qx:Stmt:=top 33
abbrev E5:Stmt:=top 34
abbrev E2:Stmt:=top 35
abbrev K4:Stmt:=top 36
abbrev G0:Stmt:=top 37
abbrev S3:Stmt:=top 38
abbrev E3:Stmt:=top 39
abbrev W9:Stmt:=top 40
abbrev R9:Stmt:=top 41
abbrev K3:Stmt:=top 42
abbrev Xm:Stmt:=top 43
abbrev fc:Stmt:=A4 (top 23) 9
abbrev yd:Stmt:=A4 (top 23) 7
structure Adr where
 f_is_peg:Addr
 d_is_peg:FuncData
 f_is_whole:Addr
 d_is_whole:FuncData
 f_is_rise:Addr
 d_is_rise:FuncData
 f_is_sighting:Addr
 d_is_sighting:FuncData
 f_turned:Addr
 d_turned:FuncData
 f_total:Addr
 d_total:FuncData
 f_way_along:Addr
 d_way_along:FuncData
 f_part_of:Addr
 d_part_of:FuncData
 f_last_steps:Addr
 d_last_steps:FuncData
 f_steps_by_peg:Addr
 d_steps_by_peg:FuncData
 f_turned_row:Addr
 d_turned_row:FuncData
 f_Book_init:Addr
 d_Book_init:FuncData
 f_Book_take:Addr
 d_Book_take:FuncData
 f_Book_drop:Addr
 d_Book_drop:FuncData
 f_Book_rise:Addr
 d_Book_rise:FuncData
 f_Book_way:Addr
 d_Book_way:FuncData
 f_Book_spare:Addr
 d_Book_spare:FuncData
 f_Book_kept:Addr
 d_Book_kept:FuncData
 f_Book_row_at:Addr
 d_Book_row_at:FuncData
 f_law_cell_at:Addr
 d_law_cell_at:FuncData
 f_law_whole:Addr
 d_law_whole:FuncData
 f_law_word:Addr
 d_law_word:FuncData
 f_law_pegs:Addr
 d_law_pegs:FuncData
 f_law_highs:Addr
 d_law_highs:FuncData
 f_law_sighting:Addr
 d_law_sighting:FuncData
 f_law_lay:Addr
 d_law_lay:FuncData
 f_law_tops:Addr
 d_law_tops:FuncData
 f_law_gap:Addr
 d_law_gap:FuncData
 f_law_kind:Addr
 d_law_kind:FuncData
 f_law_rows:Addr
 d_law_rows:FuncData
 f_law_both_take:Addr
 d_law_both_take:FuncData
 f_law_without:Addr
 d_law_without:FuncData
 f_law_part:Addr
 d_law_part:FuncData
 f_law_rise:Addr
 d_law_rise:FuncData
 f_law_no_number:Addr
 d_law_no_number:FuncData
 f_law_spare:Addr
 d_law_spare:FuncData
 f_law_looked_at:Addr
 d_law_looked_at:FuncData
 f_law:Addr
 d_law:FuncData
 k_Book_init:Tok
 c_Book:Addr
 x_Against:Addr
 x_Full:Addr
 x_NoNumber:Addr
 x_NoSighting:Addr
 x_NoText:Addr
 x_NoWay:Addr
 x_PegError:Addr
 fx_Against:Addr
 dx_Against:FuncData
 fx_NoWay:Addr
 dx_NoWay:FuncData
def zG (t:Adr):List (Value×Str):=[(.ref t.x_Against,"trail"),(.ref t.x_NoWay,"near")]
def C4 (t:Adr):List Value:=[.ref t.x_Against,.ref t.x_NoNumber,.ref t.x_NoWay]
structure Txt (K:Frag) (mg:Str->Option Value) (t:Adr):Prop where
 F_is_peg:FunG K "is_peg" "is_peg" ja t.f_is_peg t.d_is_peg
 m_is_peg:mg "is_peg"=some (.ref t.f_is_peg)
 bi_is_peg:Y6 K t.d_is_peg (["thing"]:List Str) []
 F_is_whole:FunG K "is_whole" "is_whole" E6 t.f_is_whole t.d_is_whole
 m_is_whole:mg "is_whole"=some (.ref t.f_is_whole)
 bi_is_whole:Y6 K t.d_is_whole (["thing"]:List Str) []
 F_is_rise:FunG K "is_rise" "is_rise" qy t.f_is_rise t.d_is_rise
 m_is_rise:mg "is_rise"=some (.ref t.f_is_rise)
 bi_is_rise:Y6 K t.d_is_rise (["thing"]:List Str) []
 F_is_sighting:FunG K "is_sighting" "is_sighting" M6 t.f_is_sighting t.d_is_sighting
 m_is_sighting:mg "is_sighting"=some (.ref t.f_is_sighting)
 bi_is_sighting:Y6 K t.d_is_sighting (["thing"]:List Str) []
 F_turned:FunG K "turned" "turned" yc t.f_turned t.d_turned
 m_turned:mg "turned"=some (.ref t.f_turned)
 bi_turned:Y6 K t.d_turned (["sighting"]:List Str) []
 F_total:FunG K "total" "total" kn t.f_total t.d_total
 m_total:mg "total"=some (.ref t.f_total)
 bi_total:Y6 K t.d_total (["steps"]:List Str) []
 F_way_along:FunG K "way_along" "way_along" R7 t.f_way_along t.d_way_along
 m_way_along:mg "way_along"=some (.ref t.f_way_along)
 bi_way_along:Y6 K t.d_way_along (["rows","one","other"]:List Str) []
 F_part_of:FunG K "part_of" "part_of" qu t.f_part_of t.d_part_of
 m_part_of:mg "part_of"=some (.ref t.f_part_of)
 bi_part_of:Y6 K t.d_part_of (["rows","one"]:List Str) []
 F_last_steps:FunG K "last_steps" "last_steps" P2 t.f_last_steps t.d_last_steps
 m_last_steps:mg "last_steps"=some (.ref t.f_last_steps)
 bi_last_steps:Y6 K t.d_last_steps (["rows","one"]:List Str) []
 F_steps_by_peg:FunG K "steps_by_peg" "steps_by_peg" G6 t.f_steps_by_peg t.d_steps_by_peg
 m_steps_by_peg:mg "steps_by_peg"=some (.ref t.f_steps_by_peg)
 bi_steps_by_peg:Y6 K t.d_steps_by_peg (["rows"]:List Str) []
 F_turned_row:FunG K "turned_row" "turned_row" P1 t.f_turned_row t.d_turned_row
 m_turned_row:mg "turned_row"=some (.ref t.f_turned_row)
 bi_turned_row:Y6 K t.d_turned_row (["row"]:List Str) []
 F_Book_init:FunG K "__init__" "Book.__init__" T3 t.f_Book_init t.d_Book_init
 bi_Book_init:Y6 K t.d_Book_init (["self","most"]:List Str) []
 bd_Book_init:Y6 K t.d_Book_init (["self","most"]:List Str) [.int 200 t.k_Book_init]
 F_Book_take:FunG K "take" "Book.take" S5 t.f_Book_take t.d_Book_take
 me_Book_take:Meth K t.c_Book "take" t.f_Book_take
 bi_Book_take:Y6 K t.d_Book_take (["self","one","other","rise"]:List Str) []
 F_Book_drop:FunG K "drop" "Book.drop" T4 t.f_Book_drop t.d_Book_drop
 me_Book_drop:Meth K t.c_Book "drop" t.f_Book_drop
 bi_Book_drop:Y6 K t.d_Book_drop (["self","number"]:List Str) []
 F_Book_rise:FunG K "rise" "Book.rise" S6 t.f_Book_rise t.d_Book_rise
 me_Book_rise:Meth K t.c_Book "rise" t.f_Book_rise
 bi_Book_rise:Y6 K t.d_Book_rise (["self","one","other"]:List Str) []
 F_Book_way:FunG K "way" "Book.way" E7 t.f_Book_way t.d_Book_way
 me_Book_way:Meth K t.c_Book "way" t.f_Book_way
 bi_Book_way:Y6 K t.d_Book_way (["self","one","other"]:List Str) []
 F_Book_spare:FunG K "spare" "Book.spare" M3 t.f_Book_spare t.d_Book_spare
 me_Book_spare:Meth K t.c_Book "spare" t.f_Book_spare
 bi_Book_spare:Y6 K t.d_Book_spare (["self","number"]:List Str) []
 F_Book_kept:FunG K "kept" "Book.kept" S7 t.f_Book_kept t.d_Book_kept
 me_Book_kept:Meth K t.c_Book "kept" t.f_Book_kept
 bi_Book_kept:Y6 K t.d_Book_kept (["self"]:List Str) []
 F_Book_row_at:FunG K "row_at" "Book.row_at" M7 t.f_Book_row_at t.d_Book_row_at
 me_Book_row_at:Meth K t.c_Book "row_at" t.f_Book_row_at
 bi_Book_row_at:Y6 K t.d_Book_row_at (["self","number"]:List Str) []
 F_law_cell_at:FunG K "_law_cell_at" "_law_cell_at" M5 t.f_law_cell_at t.d_law_cell_at
 m_law_cell_at:mg "_law_cell_at"=some (.ref t.f_law_cell_at)
 bi_law_cell_at:Y6 K t.d_law_cell_at (["_law_script","_law_k"]:List Str) []
 F_law_whole:FunG K "_law_whole" "_law_whole" R8 t.f_law_whole t.d_law_whole
 m_law_whole:mg "_law_whole"=some (.ref t.f_law_whole)
 bi_law_whole:Y6 K t.d_law_whole (["_law_found"]:List Str) []
 F_law_word:FunG K "_law_word" "_law_word" A9 t.f_law_word t.d_law_word
 m_law_word:mg "_law_word"=some (.ref t.f_law_word)
 bi_law_word:Y6 K t.d_law_word (["_law_number"]:List Str) []
 F_law_pegs:FunG K "_law_pegs" "_law_pegs" E4 t.f_law_pegs t.d_law_pegs
 m_law_pegs:mg "_law_pegs"=some (.ref t.f_law_pegs)
 bi_law_pegs:Y6 K t.d_law_pegs (["_law_cell","_law_many"]:List Str) []
 F_law_highs:FunG K "_law_highs" "_law_highs" S4 t.f_law_highs t.d_law_highs
 m_law_highs:mg "_law_highs"=some (.ref t.f_law_highs)
 bi_law_highs:Y6 K t.d_law_highs (["_law_some","_law_cell"]:List Str) []
 F_law_sighting:FunG K "_law_sighting" "_law_sighting" G7 t.f_law_sighting t.d_law_sighting
 m_law_sighting:mg "_law_sighting"=some (.ref t.f_law_sighting)
 bi_law_sighting:Y6 K t.d_law_sighting (["_law_some","_law_highs_here","_law_cell","_law_k"]:List Str) []
 F_law_lay:FunG K "_law_lay" "_law_lay" qw t.f_law_lay t.d_law_lay
 m_law_lay:mg "_law_lay"=some (.ref t.f_law_lay)
 bi_law_lay:Y6 K t.d_law_lay (["_law_tops_here","_law_row"]:List Str) []
 F_law_tops:FunG K "_law_tops" "_law_tops" E1 t.f_law_tops t.d_law_tops
 m_law_tops:mg "_law_tops"=some (.ref t.f_law_tops)
 bi_law_tops:Y6 K t.d_law_tops (["_law_rows_here"]:List Str) []
 F_law_gap:FunG K "_law_gap" "_law_gap" qx t.f_law_gap t.d_law_gap
 m_law_gap:mg "_law_gap"=some (.ref t.f_law_gap)
 bi_law_gap:Y6 K t.d_law_gap (["_law_tops_here","_law_one","_law_other"]:List Str) []
 F_law_kind:FunG K "_law_kind" "_law_kind" E5 t.f_law_kind t.d_law_kind
 m_law_kind:mg "_law_kind"=some (.ref t.f_law_kind)
 bi_law_kind:Y6 K t.d_law_kind (["_law_e"]:List Str) []
 F_law_rows:FunG K "_law_rows" "_law_rows" E2 t.f_law_rows t.d_law_rows
 m_law_rows:mg "_law_rows"=some (.ref t.f_law_rows)
 bi_law_rows:Y6 K t.d_law_rows (["_law_found","_law_rows_here"]:List Str) []
 F_law_both_take:FunG K "_law_both_take" "_law_both_take" K4 t.f_law_both_take t.d_law_both_take
 m_law_both_take:mg "_law_both_take"=some (.ref t.f_law_both_take)
 bi_law_both_take:Y6 K t.d_law_both_take (["_law_books","_law_rows_here","_law_tops_here","_law_box","_law_sighting_here"]:List Str) []
 F_law_without:FunG K "_law_without" "_law_without" G0 t.f_law_without t.d_law_without
 m_law_without:mg "_law_without"=some (.ref t.f_law_without)
 bi_law_without:Y6 K t.d_law_without (["_law_rows_here","_law_number"]:List Str) []
 F_law_part:FunG K "_law_part" "_law_part" S3 t.f_law_part t.d_law_part
 m_law_part:mg "_law_part"=some (.ref t.f_law_part)
 bi_law_part:Y6 K t.d_law_part (["_law_tops_here","_law_one"]:List Str) []
 F_law_rise:FunG K "_law_rise" "_law_rise" E3 t.f_law_rise t.d_law_rise
 m_law_rise:mg "_law_rise"=some (.ref t.f_law_rise)
 bi_law_rise:Y6 K t.d_law_rise (["_law_book","_law_tops_here","_law_one","_law_other"]:List Str) []
 F_law_no_number:FunG K "_law_no_number" "_law_no_number" W9 t.f_law_no_number t.d_law_no_number
 m_law_no_number:mg "_law_no_number"=some (.ref t.f_law_no_number)
 bi_law_no_number:Y6 K t.d_law_no_number (["_law_book","_law_box","_law_rows_here","_law_cell"]:List Str) []
 F_law_spare:FunG K "_law_spare" "_law_spare" R9 t.f_law_spare t.d_law_spare
 m_law_spare:mg "_law_spare"=some (.ref t.f_law_spare)
 bi_law_spare:Y6 K t.d_law_spare (["_law_book","_law_rows_here","_law_row"]:List Str) []
 F_law_looked_at:FunG K "_law_looked_at" "_law_looked_at" K3 t.f_law_looked_at t.d_law_looked_at
 m_law_looked_at:mg "_law_looked_at"=some (.ref t.f_law_looked_at)
 bi_law_looked_at:Y6 K t.d_law_looked_at (["_law_books","_law_rows_here","_law_some","_law_row"]:List Str) []
 F_law:FunG K "law" "law" Xm t.f_law t.d_law
 m_law:mg "law"=some (.ref t.f_law)
 bi_law:Y6 K t.d_law (["_law_script"]:List Str) []
 cl_Book:Cls K t.c_Book
 mg_Book:mg "Book"=some (.ref t.c_Book)
 mk_Book:Mk K t.c_Book t.f_Book_init
 na_Book_most:zj K t.c_Book "most"
 na_Book_taken:zj K t.c_Book "taken"
 na_Book_rows:zj K t.c_Book "rows"
 mx_Against:mg "Against"=some (.ref t.x_Against)
 mx_Full:mg "Full"=some (.ref t.x_Full)
 mx_NoNumber:mg "NoNumber"=some (.ref t.x_NoNumber)
 mx_NoSighting:mg "NoSighting"=some (.ref t.x_NoSighting)
 mx_NoText:mg "NoText"=some (.ref t.x_NoText)
 mx_NoWay:mg "NoWay"=some (.ref t.x_NoWay)
 mx_PegError:mg "PegError"=some (.ref t.x_PegError)
 bs_PegError:BaseI K t.x_PegError
 Fx_Against:FunG K "__init__" "Against.__init__" qq t.fx_Against t.dx_Against
 bix_Against:Y6 K t.dx_Against (["self","trail"]:List Str) []
 mkx_Against:MkX K t.x_Against t.fx_Against
 xs_Against:ExcS K t.x_Against "trail"
 xF_Against:ExcF K t.x_Against "trail"
 Fx_NoWay:FunG K "__init__" "NoWay.__init__" gn t.fx_NoWay t.dx_NoWay
 bix_NoWay:Y6 K t.dx_NoWay (["self","near"]:List Str) []
 mkx_NoWay:MkX K t.x_NoWay t.fx_NoWay
 xs_NoWay:ExcS K t.x_NoWay "near"
 xF_NoWay:ExcF K t.x_NoWay "near"
 x_NoNumber:qdq K t.x_NoNumber
 xc_Against:ExcC K t.x_Against
 em_Against_Against:exmOne K (.ref t.x_Against) (.ref t.x_Against)=some true
 em_Against_NoWay:exmOne K (.ref t.x_Against) (.ref t.x_NoWay)=some false
 em_Against_PegError:exmOne K (.ref t.x_Against) (.ref t.x_PegError)=some true
 ki_Against_Against:kitOne K (.ref t.x_Against) (.ref t.x_Against)=some true
 ki_Against_Full:kitOne K (.ref t.x_Against) (.ref t.x_Full)=some false
 ki_Against_NoNumber:kitOne K (.ref t.x_Against) (.ref t.x_NoNumber)=some false
 ki_Against_NoSighting:kitOne K (.ref t.x_Against) (.ref t.x_NoSighting)=some false
 ki_Against_NoText:kitOne K (.ref t.x_Against) (.ref t.x_NoText)=some false
 ki_Against_NoWay:kitOne K (.ref t.x_Against) (.ref t.x_NoWay)=some false
 ki_Against_ValueError:kitOne K (.ref t.x_Against) (.type "ValueError")=some true
 xc_NoNumber:ExcC K t.x_NoNumber
 em_NoNumber_Against:exmOne K (.ref t.x_NoNumber) (.ref t.x_Against)=some false
 em_NoNumber_NoWay:exmOne K (.ref t.x_NoNumber) (.ref t.x_NoWay)=some false
 em_NoNumber_PegError:exmOne K (.ref t.x_NoNumber) (.ref t.x_PegError)=some true
 ki_NoNumber_Against:kitOne K (.ref t.x_NoNumber) (.ref t.x_Against)=some false
 ki_NoNumber_Full:kitOne K (.ref t.x_NoNumber) (.ref t.x_Full)=some false
 ki_NoNumber_NoNumber:kitOne K (.ref t.x_NoNumber) (.ref t.x_NoNumber)=some true
 ki_NoNumber_NoSighting:kitOne K (.ref t.x_NoNumber) (.ref t.x_NoSighting)=some false
 ki_NoNumber_NoText:kitOne K (.ref t.x_NoNumber) (.ref t.x_NoText)=some false
 ki_NoNumber_NoWay:kitOne K (.ref t.x_NoNumber) (.ref t.x_NoWay)=some false
 ki_NoNumber_ValueError:kitOne K (.ref t.x_NoNumber) (.type "ValueError")=some true
 xc_NoWay:ExcC K t.x_NoWay
 em_NoWay_Against:exmOne K (.ref t.x_NoWay) (.ref t.x_Against)=some false
 em_NoWay_NoWay:exmOne K (.ref t.x_NoWay) (.ref t.x_NoWay)=some true
 em_NoWay_PegError:exmOne K (.ref t.x_NoWay) (.ref t.x_PegError)=some true
 ki_NoWay_Against:kitOne K (.ref t.x_NoWay) (.ref t.x_Against)=some false
 ki_NoWay_Full:kitOne K (.ref t.x_NoWay) (.ref t.x_Full)=some false
 ki_NoWay_NoNumber:kitOne K (.ref t.x_NoWay) (.ref t.x_NoNumber)=some false
 ki_NoWay_NoSighting:kitOne K (.ref t.x_NoWay) (.ref t.x_NoSighting)=some false
 ki_NoWay_NoText:kitOne K (.ref t.x_NoWay) (.ref t.x_NoText)=some false
 ki_NoWay_NoWay:kitOne K (.ref t.x_NoWay) (.ref t.x_NoWay)=some true
 ki_NoWay_ValueError:kitOne K (.ref t.x_NoWay) (.type "ValueError")=some true
 b_ValueError:mg "ValueError"=none
 b_abs:mg "abs"=none
 b_all:mg "all"=none
 b_bool:mg "bool"=none
 b_int:mg "int"=none
 b_isinstance:mg "isinstance"=none
 b_len:mg "len"=none
 b_list:mg "list"=none
 b_min:mg "min"=none
 b_range:mg "range"=none
 b_sorted:mg "sorted"=none
 b_str:mg "str"=none
 b_sum:mg "sum"=none
 b_tuple:mg "tuple"=none
variable {P:Program} {w:World} {K:Frag} {mg:Str->Option Value} {base:Heap} {t:Adr}
theorem P7 (T:Txt K mg t):fD K (C4 t):=fun v hv=>by
 simp only [C4,List.mem_cons,List.not_mem_nil,or_false] at hv
 rcases hv with rfl | rfl | rfl
 ·exact ⟨_,rfl,T.xc_Against⟩
 ·exact ⟨_,rfl,T.xc_NoNumber⟩
 ·exact ⟨_,rfl,T.xc_NoWay⟩
theorem mZ (T:Txt K mg t):qbn K (zG t):=fun v hv=>by
 simp only [zG,List.mem_cons,List.not_mem_nil,or_false] at hv
 rcases hv with rfl | rfl
 ·exact ⟨_,rfl,T.xc_Against.toExcA,T.xF_Against⟩
 ·exact ⟨_,rfl,T.xc_NoWay.toExcA,T.xF_NoWay⟩
abbrev xQ:List Str:=["self","trail"]
theorem jD:FnScope xQ ["self","trail"] (Q5 qq):=scs
theorem jZ (T:Txt K mg t):FnOk P w K mg base CX0 1 t.fx_Against t.dx_Against ["self","trail"] (spI K t.x_Against "trail"):=
 okI (k:=0) T.Fx_Against jD rfl rfl (fun _ _ _ h=>h) fun _ _ _ _ _ _ _=>
  Xu (qT (jT T.xs_Against.ex T.bs_PegError rfl T.mx_PegError (K1 (mi (i:=0) rfl (.inl rfl)) (K1 wC qz))))
   (qS (bC rfl T.xs_Against (mi (i:=0) rfl (.inl rfl)) (Yp Yb rfl T.b_list (by rfl) (K1 (mi (i:=1) rfl (.inl rfl)) qz)) rfl))
abbrev VB:List Str:=["self","near"]
theorem fQ:FnScope VB ["self","near"] (Q5 gn):=scs
theorem mJ (T:Txt K mg t):FnOk P w K mg base CX0 1 t.fx_NoWay t.dx_NoWay ["self","near"] (spI K t.x_NoWay "near"):=
 okI (k:=0) T.Fx_NoWay fQ rfl rfl (fun _ _ _ h=>h) fun _ _ _ _ _ _ _=>
  Xu (qT (jT T.xs_NoWay.ex T.bs_PegError rfl T.mx_PegError (K1 (mi (i:=0) rfl (.inl rfl)) (K1 wC qz))))
   (qS (bC rfl T.xs_NoWay (mi (i:=0) rfl (.inl rfl)) (Yp Yb rfl T.b_list (by rfl) (K1 (mi (i:=1) rfl (.inl rfl)) qz)) rfl))
def low (c:Nat):Bool:=decide (97<=c) && decide (c<=122)
def K7 (s:List Nat):Bool:=decide (1<=s.length) && decide (s.length<=8) && s.all low
theorem lt1 (c d:Nat):ltL [c] [d]=decide (c < d):=by
 unfold ltL
 by_cases h:c < d
 ·simp [h,List.cons_lt_cons_iff]
 ·simp [h,List.cons_lt_cons_iff]
  try omega
def okD (d:D) (c:List Cell):Bool:=(tyM d c).isSome && match d with
 | .str s=>decide (s.length<=1000000)
 | _=>true
def Yo:D->Bool
 | .str s=>K7 s
 | _=>false
abbrev D0:List Str:=["thing"]
theorem fT:FnScope D0 ["thing"] (Q5 ja):=scs
def zw:SD:=(Z4 (sIf (Y9 (W6 (d1 (D2 .str) (dv 0)))) (Y1 (dc (.bl false))) X0)
  (Y1 (N8 (jw leD leD (dc (.int 1)) (d1 B3 (dv 0)) (dc (.int 8))) (d1 qav (L7 (T9 (dv 0)) [] (J5 0) ff (jw leD leD (dc (.str [97])) (dv 0) (dc (.str [122]))))))))
def f_is_peg:List D->List Cell->Option D
 | [d],c=>if okD d c=true then some (.bl (Yo d)) else none
 | _,_=>none
abbrev C5:FD:=gV f_is_peg
theorem YS (s:List Nat) (c:List Cell) (h:s.length<=1000000):
  C8 (fun _=>True) (J5 0) ff (jw leD leD (dc (.str [97])) (dv 0) (dc (.str [122]))) (s.map fun c=>D.str [c]) [] [none] c=some (.ok (.lst (s.map fun c=>D.bl (low c))) c):=by
 have:=yB (te:=jw leD leD (dc (.str [97])) (dv 0) (dc (.str [122]))) (rest:=[]) (f:=fun x=>match x with | .str [c]=>D.bl (low c) | _=>.non) (s.map fun c=>D.str [c]) [] none c (fun x hx=>by
  obtain ⟨k,_,rfl⟩:=List.mem_map.mp hx
  simp only [jw,dc,dv,kQ,List.getElem?_cons_zero,Vd,lt1,low]
  by_cases z:k < 97
  ·simp [z,M.ret,Nat.not_le.mpr z]
  ·have z':97<=k:=by omega
   by_cases z2:122 < k
   ·have:¬ k<=122:=by omega
    simp [z,z',z2,this,M.ret]
   ·have:k<=122:=by omega
    simp [z,z',z2,this,M.ret]) (by simpa using h)
 rw [this]
 simp [Function.comp_def]
theorem QZ:RN 1 C5 zw D0:=by
 refine jc fun ds c d hl h=>?_
 match ds,hl with
 | [x],_=>
  simp only [f_is_peg] at h
  split at h
  ·rename_i ho
   cases h
   refine ⟨⟨[],?_⟩,rfl⟩
   unfold okD at ho
   simp only [Bool.and_eq_true] at ho
   cases x with
   | str s=>
    have hs:s.length<=1000000:=by simpa using ho.2
    by_cases h1:1<=s.length
    ·by_cases h8:s.length<=8
     ·have e1:((1:Int)<=(s.length:Int)):=by omega
      have e8:((s.length:Int)<=8):=by omega
      simp [zw,D0,Z1,Z4,sIf,Y1,X0,Y9,W6,d1,dv,dc,D2,tyM,Ty.sub,xk,B3,Vd,N8,jw,T9,ki,M.bd,M.ret,hs,e1,e8,L7,l0,YS s c hs,qav,uR,Yo,K7,h1,h8,Function.comp_def]
     ·have e1:((1:Int)<=(s.length:Int)):=by omega
      have e8:¬ ((s.length:Int)<=8):=by omega
      simp [zw,D0,Z1,Z4,sIf,Y1,X0,Y9,W6,d1,dv,dc,D2,tyM,Ty.sub,xk,B3,Vd,N8,jw,M.bd,M.ret,hs,e1,e8,Yo,K7,h1,h8]
    ·have e1:¬ ((1:Int)<=(s.length:Int)):=by omega
     simp [zw,D0,Z1,Z4,sIf,Y1,X0,Y9,W6,d1,dv,dc,D2,tyM,Ty.sub,xk,B3,Vd,N8,jw,M.bd,M.ret,hs,e1,Yo,K7,h1]
   | hnd k=>
    have ho:=ho.1
    simp only [tyM] at ho
    cases z:c[k]? with
    | none=>rw [z] at ho;cases ho
    | some y=>
     cases y with
     | lst _=>simp [zw,D0,Z1,Z4,sIf,Y1,Y9,W6,d1,dv,dc,D2,tyM,Ty.sub,xk,M.bd,M.ret,z,Yo]
     | dct _=>simp [zw,D0,Z1,Z4,sIf,Y1,Y9,W6,d1,dv,dc,D2,tyM,Ty.sub,xk,M.bd,M.ret,z,Yo]
     | _=>rw [z] at ho;cases ho
   | scr ns=>cases ho.1
   | _=>simp [zw,D0,Z1,Z4,sIf,Y1,Y9,W6,d1,dv,dc,D2,tyM,Ty.sub,xk,M.bd,M.ret,Yo]
  ·cases h
abbrev zm:List Str:=["thing"]
theorem jF:FnScope zm ["thing"] (Q5 E6):=scs
def ya:SD:=(Y1 (N8 (d1 (D2 .int) (dv 0)) (Bw (d1 (D2 .bl) (dv 0)))))
def xi:D->Bool
 | .int _=>true
 | _=>false
def f_is_whole:List D->List Cell->Option D
 | [d],c=>if (tyM d c).isSome=true then some (.bl (xi d)) else none
 | _,_=>none
abbrev G9:FD:=gV f_is_whole
theorem kX:RN 1 G9 ya zm:=by
 refine jc fun ds c d hl h=>?_
 match ds,hl with
 | [x],_=>
  simp only [f_is_whole] at h
  split at h
  ·rename_i ho
   cases h
   refine ⟨⟨[],?_⟩,rfl⟩
   cases x with
   | hnd k=>
    simp only [tyM] at ho
    cases z:c[k]? with
    | none=>rw [z] at ho;cases ho
    | some y=>
     cases y with
     | lst _=>simp [ya,zm,Z1,Y1,d1,dv,D2,tyM,Ty.sub,N8,M.bd,M.ret,z,xi]
     | dct _=>simp [ya,zm,Z1,Y1,d1,dv,D2,tyM,Ty.sub,N8,M.bd,M.ret,z,xi]
     | _=>rw [z] at ho;cases ho
   | scr ns=>cases ho
   | _=>simp [ya,zm,Z1,Y1,d1,dv,D2,tyM,Ty.sub,N8,Bw,M.bd,M.ret,xi]
  ·cases h
abbrev xg:List Str:=["thing"]
theorem kM:FnScope xg ["thing"] (Q5 qy):=scs
def um:SD:=(Y1 (N8 (Z7 1 G9 [] (Q1 (dv 0) Q9)) (d2 ltD (d1 qaw (dv 0)) (d2 Zd (dc (.int 10)) (dc (.int 60))))))
def jI:D->Bool
 | .int i=>decide (-(10 ^ 60) < i/\i < 10 ^ 60)
 | _=>false
def f_is_rise:List D->List Cell->Option D
 | [d],c=>if (tyM d c).isSome=true then some (.bl (jI d)) else none
 | _,_=>none
abbrev uz:FD:=gV f_is_rise
theorem ml (d:D) (c:List Cell) (h:(tyM d c).isSome=true):gN 1 G9 [d] c=some (.ok (.bl (xi d)) c):=Vq rfl (by simp [f_is_whole,h])
theorem fY:RN 1 uz um xg:=by
 refine jc fun ds c d hl h=>?_
 match ds,hl with
 | [x],_=>
  simp only [f_is_rise] at h
  split at h
  ·rename_i ho
   cases h
   refine ⟨⟨[],?_⟩,rfl⟩
   have hw:=ml x c ho
   cases x with
   | int i=>
    simp [um,xg,Z1,Y1,d1,d2,dv,dc,Q9,Q1,Z7,qaw,i2,Vd,N8,M.bd,M.ret,Jc,hw,xi,jI]
    rw [Bool.eq_iff_iff]
    simp only [Bool.and_eq_true,decide_eq_true_eq]
    by_cases z:i < 0
    ·simp only [z,if_true];omega
    ·simp only [z,if_false];omega
   | _=>simp [um,xg,Z1,Y1,dv,Q9,Q1,Z7,N8,M.bd,M.ret,hw,xi,jI]
  ·cases h
theorem Yq (d:D) (c:List Cell) (h:okD d c=true):gN 1 C5 [d] c=some (.ok (.bl (Yo d)) c):=Vq rfl (by simp [f_is_peg,h])
theorem wF (d:D) (c:List Cell) (h:(tyM d c).isSome=true):gN 1 uz [d] c=some (.ok (.bl (jI d)) c):=Vq rfl (by simp [f_is_rise,h])
abbrev W8:List Str:=["thing"]
theorem Xk:FnScope W8 ["thing"] (Q5 M6):=scs
def X6:SD:=(Z4 (sIf (N6 (Y9 (W6 (d1 (D2 .tup) (dv 0)))) (tOf (d2 (eqM true) (d1 B3 (dv 0)) (dc (.int 3))))) (Y1 (dc (.bl false))) X0)
  (Y1 (N8 (Z7 1 C5 [] (Q1 (d2 ixM (dv 0) (dc (.int 0))) Q9)) (N8 (Z7 1 C5 [] (Q1 (d2 ixM (dv 0) (dc (.int 1))) Q9)) (Z7 1 uz [] (Q1 (d2 ixM (dv 0) (dc (.int 2))) Q9))))))
def jm:D->Bool
 | .tup [x,y,z]=>Yo x && Yo y && jI z
 | _=>false
def okT (d:D) (c:List Cell):Bool:=(tyM d c).isSome && match d with
 | .tup [x,y,z]=>okD x c && okD y c && (tyM z c).isSome
 | _=>true
def f_is_sighting:List D->List Cell->Option D
 | [d],c=>if okT d c=true then some (.bl (jm d)) else none
 | _,_=>none
abbrev P9:FD:=gV f_is_sighting
theorem Kv:RN 1 P9 X6 W8:=by
 refine jc fun ds c d hl h=>?_
 match ds,hl with
 | [x],_=>
  simp only [f_is_sighting] at h
  split at h
  ·rename_i ho
   cases h
   refine ⟨⟨[],?_⟩,rfl⟩
   unfold okT at ho
   simp only [Bool.and_eq_true] at ho
   cases x with
   | hnd k=>
    have ho:=ho.1
    simp only [tyM] at ho
    cases z:c[k]? with
    | none=>rw [z] at ho;cases ho
    | some y=>
     cases y with
     | lst _=>simp [X6,W8,Z1,Z4,sIf,Y1,Y9,N6,W6,d1,dv,dc,D2,tyM,Ty.sub,xk,M.bd,M.ret,z,jm]
     | dct _=>simp [X6,W8,Z1,Z4,sIf,Y1,Y9,N6,W6,d1,dv,dc,D2,tyM,Ty.sub,xk,M.bd,M.ret,z,jm]
     | _=>rw [z] at ho;cases ho
   | scr ns=>cases ho.1
   | tup xs=>
    have hx:=ho.2
    match xs,hx with
    | [x,y,z],hx=>
     simp only [Bool.and_eq_true] at hx
     obtain ⟨⟨h1,h2⟩,h3⟩:=hx
     have c1:=Yq x c h1
     have c2:=Yq y c h2
     have c3:=wF z c h3
     cases p1:Yo x <;> cases p2:Yo y <;> simp [X6,W8,Z1,Z4,sIf,Y1,X0,Y9,N6,W6,tOf,d1,d2,dv,dc,Q9,Q1,Z7,D2,tyM,Ty.sub,xk,B3,ixM,oM,eqM,V6,N8,M.bd,M.ret,J6,eqD,atI,ixN,c1,c2,c3,p1,p2,jm]
    | [],_=>simp [X6,W8,Z1,Z4,sIf,Y1,Y9,N6,W6,tOf,d1,d2,dv,dc,D2,tyM,Ty.sub,xk,B3,eqM,V6,M.bd,M.ret,J6,eqD,jm]
    | [_],_=>simp [X6,W8,Z1,Z4,sIf,Y1,Y9,N6,W6,tOf,d1,d2,dv,dc,D2,tyM,Ty.sub,xk,B3,eqM,V6,M.bd,M.ret,J6,eqD,jm]
    | [_,_],_=>simp [X6,W8,Z1,Z4,sIf,Y1,Y9,N6,W6,tOf,d1,d2,dv,dc,D2,tyM,Ty.sub,xk,B3,eqM,V6,M.bd,M.ret,J6,eqD,jm]
    | a::b::c'::d'::r,_=>
     have e:¬ ((r.length:Int)+1+1+1+1=3):=by omega
     simp [X6,W8,Z1,Z4,sIf,Y1,Y9,N6,W6,tOf,d1,d2,dv,dc,D2,tyM,Ty.sub,xk,B3,eqM,V6,M.bd,M.ret,J6,eqD,jm,e]
   | _=>simp [X6,W8,Z1,Z4,sIf,Y1,Y9,N6,W6,d1,dv,dc,D2,tyM,Ty.sub,xk,M.bd,M.ret,jm]
  ·cases h
def Xr:D->Int
 | .tup [_,_,_,.int r]=>r
 | _=>0
def Zc:List D->Int
 | []=>0
 | x::xs=>Xr x+Zc xs
abbrev br:List Str:=["steps"]
theorem QT:FnScope br ["steps"] (Q5 kn):=scs
def Wl:SD:=(Y1 (d1 fO (L7 (T9 (dv 0)) [] (J5 0) ff (d2 ixM (dv 0) (dc (.int 3))))))
def f_total:List D->List Cell->Option D
 | [d],c=>match jn d c with
  | some xs=>if xs.all U4=true/\xs.length<=1000 then some (.int (Zc xs)) else none
  | none=>none
 | _,_=>none
abbrev vc:FD:=gV f_total
theorem Gx:∀ {xs:List D},xs.all U4=true->(xs.map fun x=>Xr x).sum=Zc xs
 | [],_=>rfl
 | x::xs,h=>by
  simp only [List.all_cons,Bool.and_eq_true] at h
  simp [Zc,Gx h.2]
theorem WC:RN 1 vc Wl br:=by
 refine jc fun ds c d hl h=>?_
 match ds,hl with
 | [x],_=>
  simp only [f_total] at h
  cases z:jn x c with
  | none=>rw [z] at h;cases h
  | some xs=>
   rw [z] at h
   simp only at h
   split at h
   ·rename_i ho
    cases h
    refine ⟨⟨[],?_⟩,rfl⟩
    have key:∀ (chk:List Cell->Prop),chk c->C8 chk (J5 0) ff (d2 ixM (dv 0) (dc (.int 3))) xs [] [none] c=some (.ok (.lst (xs.map fun x=>D.int (Xr x))) c):=fun chk hk=>by
     rw [Vc (f:=fun x=>D.int (Xr x)) c hk xs [] none (fun y hy=>by
      obtain ⟨n,p,q,r,rfl⟩:=T6 (List.all_eq_true.mp ho.1 y hy)
      have ix:atI [D.int n,D.str p,D.str q,D.int r] 3=some (D.int r):=rfl
      simp [d2,dv,dc,ixM,oM,M.bd,M.ret,ix,Xr]) (by simp;omega)]
     simp
    have hs:=gH (fun x:D=>Xr x) xs
    have hsum:=Gx ho.1
    cases x with
    | lst ys=>
     cases z
     have e:=key (fun _=>True) trivial
     simp [Wl,br,Z1,Y1,d1,dv,fO,T9,ki,M.bd,M.ret,jn,L7,l0,e,hs,hsum]
    | hnd k=>
     have z2:c[k]?=some (.lst xs):=by
      simp only [jn] at z
      split at z
      ·rename_i w;cases z;exact w
      ·cases z
     have e:=key (fun c'=>c'[k]?=some (.lst xs)) z2
     simp [Wl,br,Z1,Y1,d1,dv,fO,T9,ki,M.bd,M.ret,jn,L7,l0,z2,e,hs,hsum]
    | _=>cases z
   ·cases h
theorem Kc (d:D) (xs:List D) (c:List Cell) (h:jn d c=some xs) (ho:xs.all U4=true) (hl:xs.length<=1000):gN 1 vc [d] c=some (.ok (.int (Zc xs)) c):=Vq rfl (by simp only [f_total];rw [h];simp only;rw [if_pos ⟨ho,hl⟩])
abbrev Yd:List Str:=["sighting"]
theorem fS:FnScope Yd ["sighting"] (Q5 yc):=scs
def Xb:SD:=(Y1 (vj (Q1 (d2 ixM (dv 0) (dc (.int 1))) (Q1 (d2 ixM (dv 0) (dc (.int 0))) (Q1 (d2 fy (dc (.int 0)) (d2 ixM (dv 0) (dc (.int 2)))) Q9)))))
def f_turned:List D->List Cell->Option D
 | [.tup [.str p,.str q,.int r]],_=>some (.tup [.str q,.str p,.int (0 - r)])
 | _,_=>none
abbrev gz:FD:=gV f_turned
theorem QY:RN 1 gz Xb Yd:=by
 refine jc fun ds c d hl h=>?_
 unfold f_turned at h
 split at h
 ·rename_i p q r
  cases h
  refine ⟨⟨[],?_⟩,rfl⟩
  have ix0:atI [D.str p,D.str q,D.int r] 0=some (D.str p):=rfl
  have ix1:atI [D.str p,D.str q,D.int r] 1=some (D.str q):=rfl
  have ix2:atI [D.str p,D.str q,D.int r] 2=some (D.int r):=rfl
  simp [Xb,Yd,Z1,Y1,d2,dv,dc,vj,Q9,Q1,ixM,oM,i20,M.bd,M.ret,ix0,ix1,ix2]
 ·cases h
theorem yE (p q:List Nat) (r:Int) (c:List Cell):gN 1 gz [.tup [.str p,.str q,.int r]] c=some (.ok (.tup [.str q,.str p,.int (0 - r)]) c):=Vq rfl rfl
abbrev P5:List Str:=["row"]
theorem Ku:FnScope P5 ["row"] (Q5 P1):=scs
def xl:SD:=(Y1 (d2 W3 (vj (Q1 (d2 ixM (dv 0) (dc (.int 0))) Q9)) (Z7 1 gz [] (Q1 (dSl slS (dv 0) (T8 (dc (.int 1))) D4) Q9))))
def f_turned_row:List D->List Cell->Option D
 | [.tup [.int n,.str p,.str q,.int r]],_=>some (.tup [.int n,.str q,.str p,.int (0 - r)])
 | _,_=>none
abbrev vb:FD:=gV f_turned_row
theorem qQ:RN 1 vb xl P5:=by
 refine jc fun ds c d hl h=>?_
 unfold f_turned_row at h
 split at h
 ·rename_i n p q r
  cases h
  refine ⟨⟨[],?_⟩,rfl⟩
  have ix0:atI [D.int n,D.str p,D.str q,D.int r] 0=some (D.int n):=rfl
  have sl:slS (.tup [D.int n,D.str p,D.str q,D.int r]) (some 1) none c=some (.ok (.tup [D.str p,D.str q,D.int r]) c):=by
   simp only [slS,slM]
   rw [if_neg (by simp [HT.sIx])]
   rfl
  have ct:=yE p q r c
  unfold xl
  have e1:vj (Q1 (d2 ixM (dv 0) (dc (.int 0))) Q9) (Z1 P5 [.tup [.int n,.str p,.str q,.int r]]) c=some (.ok (.tup [.int n]) c):=by simp [P5,Z1,d2,dv,dc,vj,Q9,Q1,ixM,oM,M.bd,M.ret,ix0]
  have e0:dSl slS (dv 0) (T8 (dc (.int 1))) D4 (Z1 P5 [.tup [.int n,.str p,.str q,.int r]]) c=some (.ok (.tup [D.str p,D.str q,D.int r]) c):=sl
  have e2:=(B1 (n:=1) (g:=gz) (dds:=[]) (Y7 e0 U1)).trans ct
  have e3:d2 W3 (vj (Q1 (d2 ixM (dv 0) (dc (.int 0))) Q9)) (Z7 1 gz [] (Q1 (dSl slS (dv 0) (T8 (dc (.int 1))) D4) Q9)) (Z1 P5 [.tup [.int n,.str p,.str q,.int r]]) c=some (.ok (.tup [.int n,.str q,.str p,.int (0 - r)]) c):=(Uw e1 e2).trans rfl
  rw [N3 e3]
  simp
 ·cases h
theorem We {x:D} (h:U4 x=true) (c:List Cell):gN 1 vb [x] c=some (.ok (xS x) c):=by
 obtain ⟨n,p,q,r,rfl⟩:=T6 h
 exact Vq rfl rfl
abbrev L9:List Str:=["rows","leaving","row","step"]
theorem A3:FnScope L9 ["rows"] (Q5 G6):=scs
def ke:SD:=(G8 (mM .lst K9 (mM .dct kj (dv 1) (Q1 (d2 ixM (dv 3) (dc (.int 1))) (Q1 (wc Q9) Q9))) (Q1 (dv 3) Q9)))
def O7:SD:=(B2 (T9 (vj (Q1 (dv 2) (Q1 (Z7 1 vb [] (Q1 (dv 2) Q9)) Q9)))) (J5 3) ke)
def O8:SD:=(Z4 (Y0 1 uc)
  (Z4 (B2 (T9 (dv 0)) (J5 2) O7)
  (Y1 (dv 1))))
def ug (ds:List D) (c:List Cell) (d:D) (c':List Cell):Prop:=∃ rows i,ds=[.lst rows]/\d=.hnd i/\Lv c (O6 rows) i c'
abbrev yf:FD:=gF O8 L9 ug
theorem Xa {c:List Cell} {S:List D} {i:Nat} {cs:List Cell} (h:Lv c S i cs) (n:Int) (p q:List Nat) (r:Int) (hS:S.length < 10000) (o0 o2:Option D):
  ∃ cs',ke [o0,some (.hnd i),o2,some (Q8 n p q r)] cs=some (.ok (.nx [o0,some (.hnd i),o2,some (Q8 n p q r)]) cs')/\Lv c (S++[Q8 n p q r]) i cs':=by
 obtain ⟨kvs,hk,hl,h1,_,_⟩:=h.at_
 have hi:=(List.getElem?_eq_some_iff.mp hk).1
 have hk2:(cs++[Cell.lst []])[i]?=some (.dct kvs):=by rw [List.getElem?_append_left hi];exact hk
 have hl2:kvs.length < 1000000:=by omega
 have ix1:atI [D.int n,D.str p,D.str q,D.int r] 1=some (D.str p):=rfl
 have arg:(Q1 (d2 ixM (dv 3) (dc (.int 1))) (Q1 (wc Q9) Q9)) [o0,some (.hnd i),o2,some (Q8 n p q r)] cs=some (.ok [.str p,.hnd cs.length] (cs++[.lst []])):=by simp [d2,dv,dc,Q9,Q1,ixM,oM,M.bd,M.ret,wc,ix1]
 cases z:J2 kvs (.inr p) with
 | some d=>
  obtain ⟨j,rfl,hj,hc⟩:=h1 p d z
  obtain ⟨_,_,h3⟩:=h.there (n:=n) (r:=r) (q:=q) hk z
  have hjl:=(List.getElem?_eq_some_iff.mp hc).1
  have hc2:(cs++[Cell.lst []])[j]?=some (.lst (S.filter (frm p))):=by rw [List.getElem?_append_left hjl];exact hc
  have hf:(S.filter (frm p)).length < 1000000:=by have:=List.length_filter_le (frm p) S;omega
  refine ⟨_,?_,h3⟩
  have e1:mM .dct kj (dv 1) (Q1 (d2 ixM (dv 3) (dc (.int 1))) (Q1 (wc Q9) Q9)) [o0,some (.hnd i),o2,some (Q8 n p q r)] cs=some (.ok (.hnd j) (cs++[.lst []])):=
   (Ue (x:=.hnd i) (c1:=cs) rfl (by simp [tyM,hk]) arg).trans (by simp [kj,V8,hk2,D1,hl2,z])
  exact qg (x:=.non) ((Ue e1 (by simp [tyM,hc2]) (xs:=[Q8 n p q r]) (c2:=cs++[.lst []]) rfl).trans (by simp [K9,yu,hc2,hf]))
 | none=>
  have h3:=h.new (n:=n) (r:=r) (q:=q) hk z
  refine ⟨_,?_,h3⟩
  have e1:mM .dct kj (dv 1) (Q1 (d2 ixM (dv 3) (dc (.int 1))) (Q1 (wc Q9) Q9)) [o0,some (.hnd i),o2,some (Q8 n p q r)] cs=some (.ok (.hnd cs.length) ((cs++[Cell.lst []]).set i (Cell.dct (U6 kvs (.inr p) (.hnd cs.length))))):=
   (Ue (x:=.hnd i) (c1:=cs) rfl (by simp [tyM,hk]) arg).trans (by simp [kj,V8,hk2,D1,hl2,z])
  have hc2:((cs++[Cell.lst []]).set i (Cell.dct (U6 kvs (.inr p) (.hnd cs.length))))[cs.length]?=some (.lst []):=by
   rw [List.getElem?_set_ne (by omega)];simp
  exact qg (x:=.non) ((Ue e1 (by simp only [tyM,hc2]) (xs:=[Q8 n p q r]) (c2:=(cs++[Cell.lst []]).set i (Cell.dct (U6 kvs (.inr p) (.hnd cs.length)))) rfl).trans (by simp only [K9,yu,hc2];rfl))
theorem Jz (rows:List D) (c:List Cell) (hr:rows.all U4=true) (hn:rows.length<=1000):∃ i c',Lv c (O6 rows) i c'/\gN 1 yf [.lst rows] c=some (.ok (.hnd i) c'):=by
 have h:∃ d c',ug [.lst rows] c d c'/\Fin c (O8 (Z1 L9 [.lst rows]) c) (some (.ok d c')):=by
  let st (o2 o3:Option D):L:=[some (.lst rows),some (.hnd c.length),o2,o3]
  obtain ⟨l',c',e,done,o2,o3,el,ed,hL⟩:=C6 (chk:=fun _=>True) (g:=J5 2) (body:=O7) (fun xs l cs=>∃ (done:List D) (o2 o3:Option D),l=st o2 o3/\done++xs=rows/\Lv c (O6 done) c.length cs)
   (fun x xs l cs ⟨done,o2,o3,el,ed,hL⟩=>by
    subst el
    have hx:U4 x=true:=List.all_eq_true.mp hr x (by rw [← ed];simp)
    have hdl:done.length+(xs.length+1)=rows.length:=by rw [← ed];simp
    obtain ⟨n,p,q,r,rfl⟩:=T6 hx
    have b1:=yI done
    obtain ⟨c1,e1,L1⟩:=Xa hL n p q r (by omega) (some (.lst rows)) (some (Q8 n p q r))
    obtain ⟨c2,e2,L2⟩:=Xa L1 n q p (0 - r) (by simp;omega) (some (.lst rows)) (some (Q8 n p q r))
    refine ⟨trivial,_,rfl,st (some (Q8 n p q r)) (some (Q8 n q p (0 - r))),c2,.inl ?_,done++[Q8 n p q r],_,_,rfl,by simp [← ed],?_⟩
    ·have ct:=We (x:=Q8 n p q r) rfl cs
     unfold O7 B2
     rw [Z9 (x:=⟨[Q8 n p q r,Q8 n q p (0 - r)],fun _=>True⟩) (c':=cs) (by
      unfold T9
      rw [Z9 (x:=.tup [Q8 n p q r,Q8 n q p (0 - r)]) (c':=cs) (by
       unfold vj
       rw [Z9 (x:=[Q8 n p q r,Q8 n q p (0 - r)]) (c':=cs) (by
        unfold Q1
        rw [Z9 (x:=Q8 n p q r) (c':=cs) rfl]
        rw [Z9 (x:=[Q8 n q p (0 - r)]) (c':=cs) (by
         rw [Z9 (x:=Q8 n q p (0 - r)) (c':=cs) (by
          unfold Z7
          rw [Z9 (x:=[Q8 n p q r]) (c':=cs) rfl]
          exact ct)]
         rfl)]
        rfl)]
       rfl)]
      rfl)]
     simp only [vf,if_true,J5,st,List.set_cons_succ,List.set_cons_zero]
     rw [Z9 e1]
     simp only [vf,if_true,J5,List.set_cons_succ,List.set_cons_zero]
     rw [Z9 e2]
    ·rw [yJ]
     have:O6 done++[Q8 n p q r]++[Q8 n q p (0 - r)]=O6 done++O6 [Q8 n p q r]:=by simp [O6,xS]
     rw [← this]
     exact L2)
   (fun _ _ _=>trivial) rows (st none none) (c++[.dct []]) ⟨[],none,none,rfl,rfl,(C9.refl c).push _,Nat.le_refl _,⟨[],by simp,Nat.le_refl _,(fun p d h=>by cases h),(fun _ _ _ h=>by cases h),fun _ _=>rfl⟩⟩
  rw [List.append_nil] at ed
  subst ed el
  refine ⟨.hnd c.length,c',⟨done,c.length,rfl,rfl,hL⟩,?_⟩
  have s1:Z1 L9 [.lst done]=[some (.lst done),none,none,none]:=rfl
  rw [s1]
  unfold O8
  rw [Q6 (l':=st none none) (c':=c++[.dct []]) (by simp [st,Y0,M.bd,M.ret,uc])]
  rw [Q6 (l':=st o2 o3) (c':=c') (by
   unfold B2
   rw [Z9 (x:=⟨done,fun _=>True⟩) (c':=c++[.dct []]) (by simp [st,dv,T9,ki,M.bd,M.ret])]
   exact e)]
  rw [show Y1 (dv 1) (st o2 o3) c'=some (.ok (.ret (.hnd c.length)) c') from rfl]
  exact .whole
 obtain ⟨d,c',⟨rows',i,e1,rfl,e2⟩,e⟩:=xE rfl h
 cases e1
 exact ⟨i,c',e2,e⟩
abbrev qm:List Str:=["rows","one","leaving","last","pegs","place","step"]
theorem M4:FnScope qm ["rows","one"] (Q5 P2):=scs
def A2:SD:=(sIf (tOf (d2 (qj true) (d2 ixM (dv 6) (dc (.int 2))) (dv 3))) (Z4 (jq (dv 3) (d2 ixM (dv 6) (dc (.int 2))) (dv 6))
  (G8 (mM .lst K9 (dv 4) (Q1 (d2 ixM (dv 6) (dc (.int 2))) Q9)))) X0)
def jk:SD:=(Z4 (B2 (T9 (mM .dct gJ (dv 2) (Q1 (d2 ixM (dv 4) (dv 5)) (Q1 (yt Q9) Q9)))) (J5 6) A2)
  (VX 5 (fun i j=>i+j) (dc (.int 1))))
def jy:SD:=(Z4 (Y0 2 (Z7 1 yf [] (Q1 (dv 0) Q9)))
  (Z4 (Y0 3 (zM (dv 1) (dc .non)))
  (Z4 (Y0 4 (wc (Q1 (dv 1) Q9)))
  (Z4 (Y0 5 (dc (.int 0)))
  (Z4 (fun l=>vr (tOf (d2 ltD (dv 5) (d1 B3 (dv 4)))) jk Bk l)
  (Y1 (dv 3)))))))
def Yc (ds:List D) (c:List Cell) (d:D) (c':List Cell):Prop:=∃ rows one pegs kvs,ds=[.lst rows,.str one]/\d=.hnd c.length/\c'=c++[.dct kvs]/\Lst rows one pegs kvs/\Kr rows pegs pegs.length
abbrev vd:FD:=gF jy qm Yc
abbrev lz (rows:List D) (one:List Nat) (i:Nat) (c1:List Cell) (place:Int) (o:Option D):L:=[some (.lst rows),some (.str one),some (.hnd i),some (.hnd c1.length),some (.hnd (c1.length+1)),some (.int place),o]
abbrev cz (c1:List Cell) (kvs:List (DK×D)) (pegs:List (List Nat)):List Cell:=c1++[.dct kvs,.lst (pegs.map .str)]
theorem YR (c1:List Cell) (kvs:List (DK×D)) (pegs:List (List Nat)):(cz c1 kvs pegs)[c1.length]?=some (.dct kvs):=by simp
theorem fL (rows:List D) (one:List Nat) (i:Nat) (c1:List Cell) (place:Int) (kvs:List (DK×D)) (pegs:List (List Nat)) (hL:Lst rows one pegs kvs) (n:Int) (p q:List Nat) (r:Int) (hl:kvs.length < 10000) (hl2:pegs.length < 10000):
  A2 (lz rows one i c1 place (some (Q8 n p q r))) (cz c1 kvs pegs)=if q∈pegs then some (.ok (.nx (lz rows one i c1 place (some (Q8 n p q r)))) (cz c1 kvs pegs)) else some (.ok (.nx (lz rows one i c1 place (some (Q8 n p q r)))) (cz c1 (kvs++[(.inr q,Q8 n p q r)]) (pegs++[q]))):=by
 have ix2:atI [D.int n,D.str p,D.str q,D.int r] 2=some (D.str q):=rfl
 have hk:=hL.has q
 have hd:=YR c1 kvs pegs
 have t1:tOf (d2 (qj true) (d2 ixM (dv 6) (dc (.int 2))) (dv 3)) (lz rows one i c1 place (some (Q8 n p q r))) (cz c1 kvs pegs)=some (.ok (!decide (q∈pegs)) (cz c1 kvs pegs)):=by
  simp [tOf,d2,dv,dc,ixM,oM,M.bd,M.ret,ix2,qj,V8,D1,hk]
 unfold A2 sIf
 rw [Z9 t1]
 by_cases hq:q∈pegs
 ·simp [hq,X0,M.ret]
 ·have vn:J2 kvs (.inr q)=none:=by
   rw [decide_eq_false hq] at hk
   cases z:J2 kvs (.inr q) with
   | none=>rfl
   | some d=>rw [z] at hk;cases hk
  have hl3:kvs.length < 1000000:=by omega
  have hl4:pegs.length < 1000000:=by omega
  rw [if_neg hq]
  simp only [hq,decide_false,Bool.not_false,if_true]
  rw [Q6 (l':=lz rows one i c1 place (some (Q8 n p q r))) (c':=cz c1 (kvs++[(.inr q,Q8 n p q r)]) pegs) (by
   simp [d2,dv,dc,ixM,oM,M.bd,M.ret,ix2,jq,ZA,V8,D1,hl3,Ym _ vn])]
  simp [G8,d2,dv,dc,Q9,Q1,tyM,ixM,oM,mM,K9,yu,M.bd,M.ret,ix2,hl4]
theorem fg (rows:List D) (one:List Nat) (c:List Cell) (hr:rows.all U4=true) (hn:rows.length<=1000):∃ pegs kvs,Lst rows one pegs kvs/\Kr rows pegs pegs.length/\gN 2 vd [.lst rows,.str one] c=some (.ok (.hnd c.length) (c++[.dct kvs])):=by
 have h:∃ d c',Yc [.lst rows,.str one] c d c'/\Fin c (jy (Z1 qm [.lst rows,.str one]) c) (some (.ok d c')):=by
  obtain ⟨i,c1,hv,e1⟩:=Jz rows c hr hn
  obtain ⟨kv,hk,hkl,hk1,hk2,hk3⟩:=hv.at_
  have hi:=(List.getElem?_eq_some_iff.mp hk).1
  obtain ⟨l',c',ew,place,pegs,kvs,o,el,ec,hL,hp,hC,hge⟩:=Qu (p:=tOf (d2 ltD (dv 5) (d1 B3 (dv 4)))) (sb:=jk)
   (fun m l cs=>∃ (place:Nat) (pegs:List (List Nat)) (kvs:List (DK×D)) (o:Option D),l=lz rows one i c1 place o/\cs=cz c1 kvs pegs/\Lst rows one pegs kvs/\place<=pegs.length/\Kr rows pegs place/\m=pegs.length+xj rows pegs - place)
   (fun l cs=>∃ (place:Nat) (pegs:List (List Nat)) (kvs:List (DK×D)) (o:Option D),l=lz rows one i c1 place o/\cs=cz c1 kvs pegs/\Lst rows one pegs kvs/\place<=pegs.length/\Kr rows pegs place/\pegs.length<=place)
   (fun m l cs ⟨place,pegs,kvs,o,el,ec,hL,hp,hC,hm⟩=>by
    subst el ec
    have room:=hL.room
    have ht:tOf (d2 ltD (dv 5) (d1 B3 (dv 4))) (lz rows one i c1 place o) (cz c1 kvs pegs)=some (.ok (decide ((place:Int) < pegs.length)) (cz c1 kvs pegs)):=by simp [tOf,d1,d2,dv,B3,Vd,M.bd,M.ret]
    by_cases hlt:place < pegs.length
    ·refine .inr ⟨by rw [ht];simp;omega,?_⟩
     obtain ⟨p,hpp⟩:∃ p,pegs[place]?=some p:=⟨_,List.getElem?_eq_getElem hlt⟩
     obtain ⟨d,S,hS1,hS2,hS3⟩:∃ d S,(mM .dct gJ (dv 2) (Q1 (d2 ixM (dv 4) (dv 5)) (Q1 (yt Q9) Q9))) (lz rows one i c1 place o) (cz c1 kvs pegs)=some (.ok d (cz c1 kvs pegs))/\(∀ kvs' pegs',∃ chk,ki d (cz c1 kvs pegs)=some (.ok ⟨S,chk⟩ (cz c1 kvs pegs))/\(chk (cz c1 kvs' pegs')))/\S=(O6 rows).filter (frm p):=by
      have hk':(cz c1 kvs pegs)[i]?=some (.dct kv):=by rw [List.getElem?_append_left hi];exact hk
      have ixp:atI (pegs.map D.str) (place:Int)=some (.str p):=by
       rw [zV (by omega) (by simpa using hlt)]
       simp [hpp]
      have ar:(Q1 (d2 ixM (dv 4) (dv 5)) (Q1 (yt Q9) Q9)) (lz rows one i c1 place o) (cz c1 kvs pegs)=some (.ok [.str p,.lst []] (cz c1 kvs pegs)):=by simp [d2,dv,yt,Q9,Q1,ixM,oM,M.bd,M.ret,ixp]
      have e0:∀ d,(J2 kv (.inr p)).getD (.lst [])=d->(mM .dct gJ (dv 2) (Q1 (d2 ixM (dv 4) (dv 5)) (Q1 (yt Q9) Q9))) (lz rows one i c1 place o) (cz c1 kvs pegs)=some (.ok d (cz c1 kvs pegs)):=fun d hd=>by
       unfold mM
       rw [Z9 (x:=.hnd i) (c':=cz c1 kvs pegs) rfl,if_pos (by simp only [tyM,hk']),Z9 ar]
       simp only [gJ,V8,hk',D1]
       rw [hd]
      cases z:J2 kv (.inr p) with
      | none=>
       refine ⟨.lst [],[],e0 _ (by rw [z];rfl),fun kvs' pegs'=>⟨fun _=>True,rfl,trivial⟩,(hk3 p z).symm⟩
      | some d=>
       obtain ⟨j,rfl,hj,hc⟩:=hk1 p d z
       have hjl:=(List.getElem?_eq_some_iff.mp hc).1
       have hc2:∀ kvs' pegs',(cz c1 kvs' pegs')[j]?=some (.lst ((O6 rows).filter (frm p))):=fun kvs' pegs'=>by rw [List.getElem?_append_left hjl];exact hc
       refine ⟨.hnd j,_,e0 _ (by rw [z];rfl),fun kvs' pegs'=>⟨fun c'=>c'[j]?=some (.lst ((O6 rows).filter (frm p))),by simp only [ki,hc2],hc2 kvs' pegs'⟩,rfl⟩
     subst hS3
     obtain ⟨chk,src,_⟩:=hS2 kvs pegs
     have hchk:∀ kvs' pegs',chk (cz c1 kvs' pegs'):=fun kvs' pegs'=>by
      obtain ⟨chk',src',h'⟩:=hS2 kvs' pegs'
      rw [src] at src'
      cases src'
      exact h'
     obtain ⟨l2,c2,e2,ps,kvs2,o2,el2,ec2,hL2,⟨ns,hps⟩,hun,hall⟩:=C6 (chk:=chk) (g:=J5 6) (body:=A2)
      (fun rs l cs=>∃ (ps:List (List Nat)) (kvs2:List (DK×D)) (o2:Option D),l=lz rows one i c1 place o2/\cs=cz c1 kvs2 ps/\Lst rows one ps kvs2/\(∃ ns,ps=pegs++ns)/\ps.length+xj rows ps<=pegs.length+xj rows pegs/\(∀ x∈(O6 rows).filter (frm p),x∈rs\/∀ n q r,x=Q8 n p q r->q∈ps)/\∀ x∈rs,x∈(O6 rows).filter (frm p))
      (fun x rs l cs ⟨ps,kvs2,o2,el,ec,hL2,⟨ns,hps⟩,hun,hall,hsub⟩=>by
       subst el ec
       have hx:=hsub x (by simp)
       rw [List.mem_filter] at hx
       obtain ⟨n,q,r,rfl⟩:=qc7 hx.2
       have hs:=qB hr hx.1
       have room2:=hL2.room
       have kl:kvs2.length=ps.length:=by
        have:=congrArg List.length hL2.keys
        simpa using this
       have e3:=fL rows one i c1 place kvs2 ps hL2 n p q r (by omega) (by omega)
       by_cases hq:q∈ps
       ·rw [if_pos hq] at e3
        refine ⟨hchk _ _,_,rfl,_,_,.inl e3,ps,kvs2,_,rfl,rfl,hL2,⟨ns,hps⟩,hun,fun y hy=>?_,fun y hy=>hsub y (by simp [hy])⟩
        rcases hall y hy with h | h
        ·rcases List.mem_cons.mp h with h | h
         ·subst h
          exact .inr fun n' q' r' e=>by cases e;exact hq
         ·exact .inl h
        ·exact .inr h
       ·rw [if_neg hq] at e3
        have hpp2:ps[place]?=some p:=by rw [hps,List.getElem?_append_left hlt];exact hpp
        have hu:=Gn hs.ends.2 hq
        refine ⟨hchk _ _,_,rfl,_,_,.inl e3,ps++[q],_,_,rfl,rfl,hL2.add hpp2 hs hq,⟨ns++[q],by rw [hps];simp⟩,by rw [List.length_append,List.length_singleton];omega,fun y hy=>?_,fun y hy=>hsub y (by simp [hy])⟩
        rcases hall y hy with h | h
        ·rcases List.mem_cons.mp h with h | h
         ·subst h
          exact .inr fun n' q' r' e=>by cases e;simp
         ·exact .inl h
        ·exact .inr fun n' q' r' e=>by simp [h n' q' r' e])
      (fun l cs ⟨ps,kvs2,o2,el,ec,_⟩=>by subst ec;exact hchk _ _)
      ((O6 rows).filter (frm p)) (lz rows one i c1 place o) (cz c1 kvs pegs) ⟨pegs,kvs,o,rfl,rfl,hL,⟨[],by simp⟩,Nat.le_refl _,fun x hx=>.inl hx,fun x hx=>hx⟩
     subst el2 ec2
     have hge:pegs.length<=ps.length:=by rw [hps];simp
     have hdec:ps.length+xj rows ps - (place+1) < m:=by omega
     refine ⟨lz rows one i c1 ((place:Int)+1) o2,cz c1 kvs2 ps,ps.length+xj rows ps - (place+1),.inl ?_,⟨place+1,ps,kvs2,o2,by simp,rfl,hL2,by rw [hps];simp;omega,?_,rfl⟩,hdec⟩
     ·unfold jk
      rw [Q6 (l':=lz rows one i c1 place o2) (c':=cz c1 kvs2 ps) (by
       unfold B2
       rw [Z9 (x:=⟨(O6 rows).filter (frm p),chk⟩) (c':=cz c1 kvs pegs) (by
        unfold T9
        rw [Z9 hS1]
        exact src)]
       exact e2)]
      simp [VX,dc,M.bd,M.ret]
     ·intro k p' hk' hp' n q r hs
      by_cases ek:k=place
      ·subst ek
       have:p'=p:=by
        rw [hps,List.getElem?_append_left hlt,hpp] at hp'
        cases hp';rfl
       subst this
       have hm:=hall.1 (Q8 n p' q r) (by rw [List.mem_filter];exact ⟨hs,by simp [yk]⟩)
       rcases hm with h | h
       ·cases h
       ·exact h n q r rfl
      ·have hk2:k < place:=by omega
       rw [hps,List.getElem?_append_left (by omega)] at hp'
       rw [hps]
       exact List.mem_append_left _ (hC k p' hk2 hp' n q r hs)
    ·exact .inl ⟨by rw [ht];simp;omega,place,pegs,kvs,o,rfl,rfl,hL,hp,hC,by omega⟩)
   Bk _ (lz rows one i c1 0 none) (cz c1 [(.inr one,.non)] [one]) ⟨0,[one],_,none,rfl,rfl,Lst.start rows one,Nat.zero_le _,fun k p hk=>absurd hk (Nat.not_lt_zero _),rfl⟩ (by
    have:=Gp rows [one]
    show _ < 100000
    simp only [List.length_singleton]
    omega)
  subst el ec
  refine ⟨.hnd c.length,c++[.dct kvs],⟨rows,one,pegs,kvs,rfl,rfl,rfl,hL,fun k p hk=>hC k p (by omega)⟩,?_⟩
  have s1:Z1 qm [.lst rows,.str one]=[some (.lst rows),some (.str one),none,none,none,none,none]:=rfl
  rw [s1]
  unfold jy
  rw [Q6 (l':=[some (.lst rows),some (.str one),some (.hnd i),none,none,none,none]) (c':=c1) (by simp [Y0,dv,Q9,Q1,Z7,M.bd,M.ret,e1])]
  rw [Q6 (l':=[some (.lst rows),some (.str one),some (.hnd i),some (.hnd c1.length),none,none,none]) (c':=c1++[.dct [(.inr one,.non)]]) (by simp [Y0,dv,dc,M.bd,M.ret,zM,D1])]
  rw [Q6 (l':=[some (.lst rows),some (.str one),some (.hnd i),some (.hnd c1.length),some (.hnd (c1.length+1)),none,none]) (c':=cz c1 [(.inr one,.non)] [one]) (by simp [Y0,dv,Q9,Q1,M.bd,M.ret,wc])]
  rw [Q6 (l':=lz rows one i c1 0 none) (c':=cz c1 [(.inr one,.non)] [one]) (by simp [Y0,dc,M.bd,M.ret])]
  rw [Q6 (l':=lz rows one i c1 place o) (c':=cz c1 kvs pegs) ew]
  rw [show Y1 (dv 3) (lz rows one i c1 place o) (cz c1 kvs pegs)=some (.ok (.ret (.hnd c1.length)) (cz c1 kvs pegs)) from rfl]
  have g:C9 c (cz c1 kvs pegs):=hv.grown.trans ⟨_,rfl⟩
  have:=DL.Fin.cell (c:=c) (i:=c1.length) (x:=.dct kvs) (c':=cz c1 kvs pegs) hv.grown.len (YR c1 kvs pegs) (hL.bel c.length) (fun z=>by cases z) g.kept
  rw [g.take] at this
  exact this
 obtain ⟨d,c',⟨rows',one',pegs,kvs,e1,rfl,rfl,e2,e3⟩,e⟩:=xE rfl h
 cases e1
 exact ⟨pegs,kvs,e2,e3,e⟩
abbrev jf:List Str:=["rows","one","other","last","steps","peg"]
theorem qb:FnScope jf ["rows","one","other"] (Q5 R7):=scs
def vt:SD:=(Z4 (G8 (mM .lst K9 (dv 4) (Q1 (d2 U9 (dv 3) (dv 5)) Q9)))
  (Y0 5 (d2 ixM (d2 U9 (dv 3) (dv 5)) (dc (.int 1)))))
def zu:SD:=(Z4 (Y0 3 (Z7 2 vd [] (Q1 (dv 0) (Q1 (dv 1) Q9))))
  (Z4 (sIf (tOf (d2 (qj true) (dv 2) (dv 3))) (Y1 (dc .non)) X0)
  (Z4 (Y0 4 (wc Q9))
  (Z4 (Y0 5 (dv 2))
  (Z4 (fun l=>vr (tOf (d2 (eqM true) (dv 5) (dv 1))) vt Bk l)
  (Z4 (G8 (mM .lst QW (dv 4) Q9))
  (Y1 (dv 4))))))))
def Vv (ds:List D) (d:D):Prop:=∃ (rows:List D) (one other:List Nat),ds=[.lst rows,.str one,.str other]/\((d=.non/\¬ Reach rows one other)\/∃ steps,d=.lst steps/\Walk rows other one [] steps/\steps.length<=1000)
abbrev H9:FD:=gR zu jf Vv
theorem yw (rows:List D) (one other:List Nat) (c:List Cell) (hr:rows.all U4=true) (hn:rows.length<=400):∃ d,((d=.non/\¬ Reach rows one other)\/∃ steps,d=.lst steps/\Walk rows other one [] steps/\steps.length<=1000)/\gN 3 H9 [.lst rows,.str one,.str other] c=some (.ok d c):=by
 have h:∃ d,Vv [.lst rows,.str one,.str other] d/\Wj zu jf [.lst rows,.str one,.str other] c d:=by
  obtain ⟨pegs,kvs,hL,hC,e1⟩:=fg rows one c hr (by omega)
  have s1:Z1 jf [.lst rows,.str one,.str other]=[some (.lst rows),some (.str one),some (.str other),none,none,none]:=rfl
  have hk:=hL.has other
  have room:=hL.room
  have t1:(sIf (tOf (d2 (qj true) (dv 2) (dv 3))) (Y1 (dc .non)) X0) [some (.lst rows),some (.str one),some (.str other),some (.hnd c.length),none,none] (c++[.dct kvs])=if other∈pegs then some (.ok (.nx [some (.lst rows),some (.str one),some (.str other),some (.hnd c.length),none,none]) (c++[.dct kvs])) else some (.ok (.ret .non) (c++[.dct kvs])):=by
   by_cases ho:other∈pegs <;> simp [sIf,Y1,X0,tOf,d2,dv,dc,M.bd,M.ret,qj,V8,D1,hk,ho]
  by_cases ho:other∈pegs
  ·rw [if_pos ho] at t1
   let st (p:List Nat):L:=[some (.lst rows),some (.str one),some (.str other),some (.hnd c.length),some (.hnd (c.length+1)),some (.str p)]
   obtain ⟨k0,hk0,ek0⟩:=List.mem_iff_getElem.mp ho
   have hk0':pegs[k0]?=some other:=by rw [List.getElem?_eq_getElem hk0,ek0]
   have uniq:∀ (a b:Nat) x,pegs[a]?=some x->pegs[b]?=some x->a=b:=fun a b x ha hb=>by
    obtain ⟨ha1,ha2⟩:=List.getElem?_eq_some_iff.mp ha
    obtain ⟨hb1,hb2⟩:=List.getElem?_eq_some_iff.mp hb
    exact ZX hL.nodup ha1 hb1 (ha2.trans hb2.symm)
   obtain ⟨l',c',ew,peg,acc,el,ec,hw,hal,hok,hone⟩:=Qu (p:=tOf (d2 (eqM true) (dv 5) (dv 1))) (sb:=vt)
    (fun m l cs=>∃ (peg:List Nat) (acc:List D),l=st peg/\cs=c++[.dct kvs,.lst acc]/\pegs[m]?=some peg/\(∀ gone,(∀ g∈gone,∃ j:Nat,j < m/\pegs[j]?=some g)->Walk rows other peg gone acc.reverse)/\acc.length+m<=k0/\acc.all U4=true)
    (fun l cs=>∃ (peg:List Nat) (acc:List D),l=st peg/\cs=c++[.dct kvs,.lst acc]/\Walk rows other peg [] acc.reverse/\acc.length<=k0/\acc.all U4=true/\peg=one)
    (fun m l cs ⟨peg,acc,el,ec,hm,hw,hl,hok⟩=>by
     subst el ec
     by_cases e:peg=one
     ·subst e
      exact .inl ⟨by simp [st,tOf,d2,dv,eqM,V6,M.bd,M.ret,J6,eqD],peg,acc,rfl,rfl,hw [] (fun g hg=>by cases hg),by omega,hok,rfl⟩
     ·have m0:0 < m:=Nat.pos_of_ne_zero fun z=>e (by rw [z,hL.first] at hm;cases hm;rfl)
      obtain ⟨n,q,r,j,hj,hq,hv,hs⟩:=hL.val m peg hm m0
      refine .inr ⟨by simp [st,tOf,d2,dv,eqM,V6,M.bd,M.ret,J6,eqD,e],st q,c++[.dct kvs,.lst (acc++[Q8 n q peg r])],j,.inl ?_,⟨q,_,rfl,rfl,hq,fun gone hg=>?_,by simp;omega,by rw [List.all_append,hok];rfl⟩,hj⟩
      ·have ix1:atI [D.int n,D.str q,D.str peg,D.int r] 1=some (D.str q):=rfl
       have hl2:acc.length < 1000000:=by omega
       unfold vt
       rw [Q6 (l':=st peg) (c':=c++[.dct kvs,.lst (acc++[Q8 n q peg r])]) (by simp [st,G8,d2,dv,Q9,Q1,tyM,mM,K9,yu,M.bd,M.ret,U9,V8,D1,hv,hl2])]
       simp [st,Y0,d2,dv,dc,ixM,oM,M.bd,M.ret,U9,V8,D1,hv,ix1]
      ·rw [List.reverse_append]
       refine .cons hs (fun hm'=>?_) (hw _ fun g hg'=>?_)
       ·obtain ⟨j',hj',e'⟩:=hg q hm'
        have:=uniq j' j q e' hq
        omega
       ·rcases List.mem_append.mp hg' with h' | h'
        ·obtain ⟨j',hj',e'⟩:=hg g h'
         exact ⟨j',by omega,e'⟩
        ·simp only [List.mem_singleton] at h'
         subst h'
         exact ⟨j,hj,hq⟩)
    Bk k0 (st other) (c++[.dct kvs,.lst []]) ⟨other,[],rfl,rfl,hk0',fun gone hg=>.nil fun hm'=>by
     obtain ⟨j',hj',e'⟩:=hg other hm'
     have:=uniq j' k0 other e' hk0'
     omega,by simp,rfl⟩ (by show k0 < 100000;omega)
   subst el ec hone
   refine ⟨.lst acc.reverse,⟨rows,peg,other,rfl,.inr ⟨_,rfl,hw,by rw [List.length_reverse];omega⟩⟩,.lst (c.length+1) [.dct kvs,.lst acc.reverse] ?_ (by omega) (by simp) (mh _ (by rw [List.all_reverse];exact hok))⟩
   rw [s1]
   unfold zu
   rw [Q6 (l':=[some (.lst rows),some (.str peg),some (.str other),some (.hnd c.length),none,none]) (c':=c++[.dct kvs]) (by simp [Y0,dv,Q9,Q1,Z7,M.bd,M.ret,e1])]
   rw [Q6 t1]
   rw [Q6 (l':=[some (.lst rows),some (.str peg),some (.str other),some (.hnd c.length),some (.hnd (c.length+1)),none]) (c':=c++[.dct kvs,.lst []]) (by simp [Y0,Q9,M.bd,M.ret,wc])]
   rw [Q6 (l':=st other) (c':=c++[.dct kvs,.lst []]) (by simp [st,Y0,dv,M.bd,M.ret])]
   rw [Q6 (l':=st peg) (c':=c++[.dct kvs,.lst acc]) ew]
   rw [Q6 (l':=st peg) (c':=c++[.dct kvs,.lst acc.reverse]) (by simp [st,G8,dv,Q9,tyM,mM,yu,M.bd,M.ret,QW])]
   rfl
  ·rw [if_neg ho] at t1
   refine ⟨.non,⟨rows,one,other,rfl,.inl ⟨rfl,fun hr'=>ho ((hL.all hC other).mpr hr')⟩⟩,.val [.dct kvs] ?_ rfl⟩
   rw [s1]
   unfold zu
   rw [Q6 (l':=[some (.lst rows),some (.str one),some (.str other),some (.hnd c.length),none,none]) (c':=c++[.dct kvs]) (by simp [Y0,dv,Q9,Q1,Z7,M.bd,M.ret,e1])]
   rw [xt t1]
 obtain ⟨d,⟨rows',one',other',e1,e2⟩,e⟩:=zR rfl h
 cases e1
 exact ⟨d,e2,e⟩
abbrev xc:List Str:=["rows","one"]
theorem kJ:FnScope xc ["rows","one"] (Q5 qu):=scs
def uj:SD:=(Y1 (d1 Gu (d1 Bf (Z7 2 vd [] (Q1 (dv 0) (Q1 (dv 1) Q9))))))
def qG (ds:List D) (d:D):Prop:=∃ (rows:List D) (one:List Nat) (ps:List (List Nat)),ds=[.lst rows,.str one]/\d=.lst (ps.map .str)/\(∀ x,x∈ps↔Reach rows one x)/\ps.Pairwise (fun a b=>ltL a b=true)/\ps.length<=1000
abbrev xa:FD:=gR uj xc qG
theorem zP (rows:List D) (one:List Nat) (c:List Cell) (hr:rows.all U4=true) (hn:rows.length<=1000) (pool:List (List Nat)) (hp:∀ x∈ends rows,x∈pool) (hpl:pool.length<=62):∃ ps:List (List Nat),(∀ x,x∈ps↔Reach rows one x)/\ps.Pairwise (fun a b=>ltL a b=true)/\ps.length<=1000/\gN 2 xa [.lst rows,.str one] c=some (.ok (.lst (ps.map .str)) c):=by
 have h:∃ d,qG [.lst rows,.str one] d/\Wj uj xc [.lst rows,.str one] c d:=by
  obtain ⟨pegs,kvs,hL,hC,e1⟩:=fg rows one c hr hn
  have hlen:pegs.length < 64:=by
   have:=Yu (ys:=one::pool) hL.nodup fun x hx=>by
    rcases hL.sub x hx with e | e
    ·rw [e];exact List.mem_cons_self
    ·exact List.mem_cons_of_mem _ (hp x e)
   rw [List.length_cons] at this
   omega
  have hkeys:(kvs.map fun p=>dkD p.1)=pegs.map D.str:=by
   have:=congrArg (List.map dkD) hL.keys
   rw [List.map_map,List.map_map] at this
   exact this
  refine ⟨.lst ((fb ltL pegs).map .str),⟨rows,one,fb ltL pegs,rfl,rfl,fun x=>by rw [Bb];exact hL.all hC x,Ko qW (uo qW pegs) ((qr ltL pegs).nodup_iff.mpr hL.nodup),by rw [Jm];omega⟩,.val [.dct kvs] ?_ (strs_belP _ _)⟩
  have hs:=Xd pegs
  have hg:(c++[Cell.dct kvs])[c.length]?=some (.dct kvs):=by simp
  simp [uj,xc,Z1,Z4,sIf,Y1,qd3,Y0,X0,G8,qfs,qfr,Y9,we,N6,W6,tOf,d1,d2,dv,dc,vj,yt,Q9,Q1,Z7,D2,tyM,Ty.sub,xk,B3,qaw,ixM,oM,i2,i20,W3,Vd,eqM,V6,U8,wO,N8,Ga,Bw,dIf,jw,dSl,slS,slM,qf0,qd5,mM,K9,yu,fO,Gu,qeq,qer,kI,dB2,JC,fU,qbz,qfp, D4,T8,T9,iR1,iR2,ki,B2,M.bd,M.ret,M.stuck,jn,Bs,mv,Ub,Jc,J6,J5,e1,Bf,V8,hkeys,hs,hlen]
 obtain ⟨d,⟨rows',one',ps,e1,rfl,e2,e3,e4⟩,e⟩:=zR rfl h
 cases e1
 exact ⟨ps,e2,e3,e4,e⟩
where
 strs_belP (n:Nat):∀ (ps:List (List Nat)),D.bels n (ps.map .str)=true
  | []=>rfl
  | x::xs=>by simp [D.bels,D.bel,strs_belP n xs]
def HR (hh:List Nat->Int) (rows:List D):Prop:=∀ x∈rows,∃ n p q,x=Q8 n p q (hh q - hh p)
theorem HR.ok {hh:List Nat->Int} {rows:List D} (h:HR hh rows):rows.all U4=true:=List.all_eq_true.mpr fun x hx=>by
 obtain ⟨n,p,q,rfl⟩:=h x hx
 rfl
theorem Ye {hh:List Nat->Int} {rows:List D} (h:HR hh rows) {n r:Int} {p q:List Nat} (s:kc rows n p q r):r=hh q - hh p:=by
 rcases s with s | s
 ·obtain ⟨n',p',q',e⟩:=h _ s
  simp only [D.tup.injEq,List.cons.injEq,D.int.injEq,D.str.injEq,and_true] at e
  obtain ⟨_,rfl,rfl,e⟩:=e
  exact e
 ·obtain ⟨n',p',q',e⟩:=h _ s
  simp only [D.tup.injEq,List.cons.injEq,D.int.injEq,D.str.injEq,and_true] at e
  obtain ⟨_,rfl,rfl,e⟩:=e
  omega
theorem uh {hh:List Nat->Int} {rows:List D} (h:HR hh rows) {other one:List Nat} {gone:List (List Nat)} {steps:List D} (w:Walk rows other one gone steps):steps.all U4=true/\Zc steps=hh other - hh one:=by
 induction w with
 | nil _=>exact ⟨rfl,by simp [Zc]⟩
 | @cons n r p q gone xs s _ _ ih=>
  refine ⟨by rw [List.all_cons,ih.1];rfl,?_⟩
  have:=Ye h s
  have e:Zc (Q8 n p q r::xs)=r+Zc xs:=by simp [Zc,Xr]
  rw [e,ih.2]
  omega
theorem W0 {rows:List D} {a b x:List Nat} (h:Reach rows a b) (g:Reach rows b x):Reach rows a x:=by
 induction g with
 | refl=>exact h
 | fwd _ e ih=>exact ih.fwd e
 | bwd _ e ih=>exact ih.bwd e
theorem M8 {rows:List D} {a b:List Nat} (h:Reach rows a b):Reach rows b a:=by
 induction h with
 | refl=>exact .refl
 | fwd _ e ih=>exact W0 (.bwd .refl e) ih
 | bwd _ e ih=>exact W0 (.fwd .refl e) ih
theorem xv {rows rows':List D} (s:∀ x∈rows,x∈rows') {a b:List Nat} (h:Reach rows a b):Reach rows' a b:=by
 have ed:∀ {p q},Zs rows p q->Zs rows' p q:=fun ⟨n,r,e⟩=>⟨n,r,s _ e⟩
 induction h with
 | refl=>exact .refl
 | fwd _ e ih=>exact ih.fwd (ed e)
 | bwd _ e ih=>exact ih.bwd (ed e)
theorem Yl {rows:List D} {n r:Int} {p q a b:List Nat}:Reach (rows++[Q8 n p q r]) a b↔Reach rows a b\/(Reach rows a p/\Reach rows q b)\/(Reach rows a q/\Reach rows p b):=by
 have up:∀ {x y},Reach rows x y->Reach (rows++[Q8 n p q r]) x y:=fun h=>xv (fun x hx=>List.mem_append_left _ hx) h
 have new:Zs (rows++[Q8 n p q r]) p q:=⟨n,r,by simp⟩
 constructor
 ·intro h
  induction h with
  | refl=>exact .inl .refl
  | @fwd u v _ e ih=>
   obtain ⟨m,s,e⟩:=e
   rcases List.mem_append.mp e with e | e
   ·have ee:Zs rows u v:=⟨m,s,e⟩
    rcases ih with h | ⟨h1,h2⟩ | ⟨h1,h2⟩
    ·exact .inl (h.fwd ee)
    ·exact .inr (.inl ⟨h1,h2.fwd ee⟩)
    ·exact .inr (.inr ⟨h1,h2.fwd ee⟩)
   ·simp only [List.mem_singleton,D.tup.injEq,List.cons.injEq,D.int.injEq,D.str.injEq,and_true] at e
    obtain ⟨_,rfl,rfl,_⟩:=e
    rcases ih with h | ⟨h1,h2⟩ | ⟨h1,h2⟩
    ·exact .inr (.inl ⟨h,.refl⟩)
    ·exact .inr (.inl ⟨h1,.refl⟩)
    ·exact .inl h1
  | @bwd u v _ e ih=>
   obtain ⟨m,s,e⟩:=e
   rcases List.mem_append.mp e with e | e
   ·have ee:Zs rows u v:=⟨m,s,e⟩
    rcases ih with h | ⟨h1,h2⟩ | ⟨h1,h2⟩
    ·exact .inl (h.bwd ee)
    ·exact .inr (.inl ⟨h1,h2.bwd ee⟩)
    ·exact .inr (.inr ⟨h1,h2.bwd ee⟩)
   ·simp only [List.mem_singleton,D.tup.injEq,List.cons.injEq,D.int.injEq,D.str.injEq,and_true] at e
    obtain ⟨_,rfl,rfl,_⟩:=e
    rcases ih with h | ⟨h1,h2⟩ | ⟨h1,h2⟩
    ·exact .inr (.inr ⟨h,.refl⟩)
    ·exact .inl h1
    ·exact .inr (.inr ⟨h1,.refl⟩)
 ·rintro (h | ⟨h1,h2⟩ | ⟨h1,h2⟩)
  ·exact up h
  ·exact W0 ((up h1).fwd new) (up h2)
  ·exact W0 ((up h1).bwd new) (up h2)
theorem kS {hh kk:List Nat->Int} {rows:List D} (h:HR hh rows) (k:HR kk rows) {a b:List Nat} (g:Reach rows a b):hh b - hh a=kk b - kk a:=by
 have ed:∀ {p q},Zs rows p q->hh q - hh p=kk q - kk p:=fun {p q} ⟨n,r,e⟩=>by
  have h1:=Ye h (.inl e)
  have h2:=Ye k (.inl e)
  omega
 induction g with
 | refl=>omega
 | fwd _ e ih=>have:=ed e;omega
 | bwd _ e ih=>have:=ed e;omega
open Classical in
theorem qc5 {hh:List Nat->Int} {rows:List D} (h:HR hh rows) {n r:Int} {p q:List Nat} (hn:¬ Reach rows p q):∃ kk,HR kk (rows++[Q8 n p q r]):=by
 refine ⟨fun x=>if Reach rows q x then hh x+(hh p+r - hh q) else hh x,fun x hx=>?_⟩
 rcases List.mem_append.mp hx with hx | hx
 ·obtain ⟨m,u,v,rfl⟩:=h x hx
  have ee:Zs rows u v:=⟨m,_,hx⟩
  refine ⟨m,u,v,?_⟩
  have e:(Reach rows q u)↔Reach rows q v:=⟨fun g=>g.fwd ee,fun g=>g.bwd ee⟩
  by_cases z:Reach rows q u
  ·simp only [if_pos z,if_pos (e.mp z)]
   rw [show hh v+(hh p+r - hh q) - (hh u+(hh p+r - hh q))=hh v - hh u by omega]
  ·simp only [if_neg z,if_neg (fun g=>z (e.mpr g))]
 ·rw [List.mem_singleton.mp hx]
  refine ⟨n,p,q,?_⟩
  simp only [if_pos (Reach.refl (rows:=rows) (one:=q)),if_neg (fun g=>hn (M8 g))]
  rw [show hh q+(hh p+r - hh q) - hh p=r by omega]
theorem qc6 {hh:List Nat->Int} {rows:List D} (h:HR hh rows) {n r:Int} {p q:List Nat} (e:r=hh q - hh p):HR hh (rows++[Q8 n p q r]):=fun x hx=>by
 rcases List.mem_append.mp hx with hx | hx
 ·exact h x hx
 ·rw [List.mem_singleton.mp hx];exact ⟨n,p,q,by rw [e]⟩
theorem Uk {hh:List Nat->Int} {rows rows':List D} (h:HR hh rows) (s:∀ x∈rows',x∈rows):HR hh rows':=fun x hx=>h x (s x hx)
theorem Qw {rows:List D} {other one:List Nat} {gone:List (List Nat)} {steps:List D} (w:Walk rows other one gone steps):Reach rows one other:=by
 induction w with
 | nil _=>exact .refl
 | cons s _ _ ih=>exact W0 (s.reach .refl) ih
theorem zN {ti:ID} {idx:List Nat} {g:GD} {p:TD} {te:ED} {l:L} {c c1:List Cell} {S:Src} (h:ti l c=some (.ok S c1)):L7 ti idx g p te l c=C8 S.chk g p te S.xs [] (l0 idx l) c1:=by
 unfold L7
 rw [Z9 h]
def U2:D->Int
 | .tup (.int n::_)=>n
 | _=>0
def kvR (rows:List D):List (DK×D):=rows.map fun r=>(.inl (U2 r),r)
theorem Jn (rows:List D):(kvR rows).map (·.2)=rows:=by simp [kvR,Function.comp_def]
theorem XN {a b:List D} (h:kvR a=kvR b):a=b:=by
 have:=congrArg (List.map (·.2)) h
 rwa [Jn,Jn] at this
theorem bO (rows:List D):(kvR rows).length=rows.length:=by simp [kvR]
theorem ux (i:Int):∀ rows:List D,J2 (kvR rows) (.inl i)=rows.find? fun r=>decide (U2 r=i)
 | []=>rfl
 | r::rows=>by
  show J2 ((.inl (U2 r),r)::kvR rows) (.inl i)=_
  rw [K0,List.find?_cons,ux i rows]
  by_cases e:U2 r=i
  ·simp [e]
  ·have e':¬ (Sum.inl (U2 r):DK)=.inl i:=fun z=>e (by cases z;rfl)
   simp [e]
theorem vF (i:Int):∀ rows:List D,ua (kvR rows) (.inl i)=kvR (rows.filter fun r=>decide (U2 r≠i))
 | []=>rfl
 | r::rows=>by
  have ih:=vF i rows
  unfold ua at ih ⊢
  show List.filter _ ((.inl (U2 r),r)::kvR rows)=_
  by_cases e:U2 r=i
  ·rw [List.filter_cons_of_neg (by simp [e]),List.filter_cons_of_neg (by simp [e]),ih]
  ·have e':¬ (Sum.inl (U2 r):DK)=.inl i:=fun z=>e (by cases z;rfl)
   rw [List.filter_cons_of_pos (by simpa using e'),List.filter_cons_of_pos (by simpa using e),ih]
   rfl
theorem XM {rows:List D} {row:D} {n:Int} (hn:U2 row=n) (hk:∀ r∈rows,U2 r≠n):U6 (kvR rows) (.inl n) row=kvR (rows++[row]):=by
 have hv:J2 (kvR rows) (.inl n)=none:=by
  rw [ux,List.find?_eq_none]
  intro r hr
  simpa using hk r hr
 rw [Ym _ hv]
 simp [kvR,hn]
abbrev yx (m k:Int) (j:Nat):List (Str×D):=[("most",.int m),("taken",.int k),("rows",.hnd j)]
structure BookAt (t:Adr) (cs:List Cell) (b j:Nat) (m k:Int) (rows:List D):Prop where
 ob:cs[b]?=some (.ins t.c_Book (yx m k j))
 dc:cs[j]?=some (.dct (kvR rows))
theorem BookAt.ne {cs:List Cell} {b j:Nat} {m k:Int} {rows:List D} (h:BookAt t cs b j m k rows):b≠j:=fun e=>by
 have h1:=h.ob
 rw [e,h.dc] at h1;cases h1
theorem BookAt.uniq {cs:List Cell} {b j j':Nat} {m k m' k':Int} {rows rows':List D} (h:BookAt t cs b j m k rows) (h':BookAt t cs b j' m' k' rows'):j=j'/\m=m'/\k=k'/\rows=rows':=by
 have e:=h.ob.symm.trans h'.ob
 simp only [Option.some.injEq,Cell.ins.injEq,List.cons.injEq,Prod.mk.injEq,D.int.injEq,D.hnd.injEq,true_and,and_true] at e
 obtain ⟨rfl,rfl,rfl⟩:=e
 have e2:=h.dc.symm.trans h'.dc
 simp only [Option.some.injEq,Cell.dct.injEq] at e2
 exact ⟨rfl,rfl,rfl,XN e2⟩
theorem BookAt.app {cs ex:List Cell} {b j:Nat} {m k:Int} {rows:List D} (h:BookAt t cs b j m k rows):BookAt t (cs++ex) b j m k rows:=
 ⟨by rw [List.getElem?_append_left (List.getElem?_eq_some_iff.mp h.ob).1];exact h.ob,by rw [List.getElem?_append_left (List.getElem?_eq_some_iff.mp h.dc).1];exact h.dc⟩
theorem BookAt.keep {cs cs':List Cell} {b j:Nat} {m k:Int} {rows:List D} (h:BookAt t cs b j m k rows) (hb:cs'[b]?=cs[b]?) (hj:cs'[j]?=cs[j]?):BookAt t cs' b j m k rows:=⟨by rw [hb];exact h.ob,by rw [hj];exact h.dc⟩
section
variable {cs:List Cell} {b j:Nat} {m k:Int} {rows:List D} {l:L}
theorem qar (h:BookAt t cs b j m k rows) (hl:l[0]?=some (some (.hnd b))):d1 (zg t.c_Book "most") (dv 0) l cs=some (.ok (.int m) cs):=by
 refine (Ux (x:=.hnd b) (c1:=cs) (by unfold dv;rw [hl];rfl)).trans ?_
 unfold zg
 rw [V7 h.ob]
 rfl
theorem Kh (h:BookAt t cs b j m k rows) (hl:l[0]?=some (some (.hnd b))):d1 (zg t.c_Book "taken") (dv 0) l cs=some (.ok (.int k) cs):=by
 refine (Ux (x:=.hnd b) (c1:=cs) (by unfold dv;rw [hl];rfl)).trans ?_
 unfold zg
 rw [V7 h.ob]
 rfl
theorem bq (h:BookAt t cs b j m k rows) (hl:l[0]?=some (some (.hnd b))):d1 (zg t.c_Book "rows") (dv 0) l cs=some (.ok (.hnd j) cs):=by
 refine (Ux (x:=.hnd b) (c1:=cs) (by unfold dv;rw [hl];rfl)).trans ?_
 unfold zg
 rw [V7 h.ob]
 rfl
theorem Qi (h:BookAt t cs b j m k rows):V8 (.hnd j) cs=some (j,kvR rows):=by
 unfold V8
 simp only [h.dc]
end
abbrev jh:List Str:=["self"]
theorem qN:FnScope jh ["self"] (Q5 S7):=scs
def zy (K:Frag) (t:Adr):SD:=(Y1 (d1 bL (d1 (zg t.c_Book "rows") (dv 0))))
def Vw (t:Adr) (ds:List D) (c:List Cell) (d:D) (c':List Cell):Prop:=c'=c/\∃ b j m k rows,ds=[.hnd b]/\BookAt t c b j m k rows/\d=.lst rows
abbrev X3 (K:Frag) (t:Adr):FD:=gF (zy K t) jh (Vw t)
theorem vo {c:List Cell} {b j:Nat} {m k:Int} {rows:List D} (h:BookAt t c b j m k rows) (hr:rows.all U4=true):gN 1 (X3 K t) [.hnd b] c=some (.ok (.lst rows) c):=by
 have hx:∃ d c',Vw t [.hnd b] c d c'/\Fin c (zy K t (Z1 jh [.hnd b]) c) (some (.ok d c')):=by
  refine ⟨.lst rows,c,⟨rfl,b,j,m,k,rows,rfl,h,rfl⟩,?_⟩
  have e:zy K t (Z1 jh [.hnd b]) c=some (.ok (.ret (.lst rows)) c):=by
   unfold zy
   exact N3 ((Ux (bq h rfl)).trans (by unfold bL;rw [Qi h];simp only [Jn]))
  rw [e]
  have:=DL.Fin.val (c:=c) (c':=c) (d:=.lst rows) (by show D.bels c.length rows=true;exact mh _ hr) (R6.refl c)
  rwa [List.take_length] at this
 obtain ⟨d,c',⟨rfl,b',j',m',k',rows',e1,h',rfl⟩,e⟩:=xE rfl hx
 simp only [List.cons.injEq,D.hnd.injEq,and_true] at e1
 subst e1
 obtain ⟨_,_,_,rfl⟩:=h.uniq h'
 exact e
theorem jU (d:D) (c:List Cell) (h:okT d c=true):gN 1 P9 [d] c=some (.ok (.bl (jm d)) c):=Vq rfl (by simp [f_is_sighting,h])
theorem Bl {rows:List D} (f:D->Bool) (h:rows.all U4=true):(rows.filter f).all U4=true:=List.all_eq_true.mpr fun x hx=>List.all_eq_true.mp h x (List.mem_filter.mp hx).1
abbrev A7:List Str:=["self","number"]
theorem Yj:FnScope A7 ["self","number"] (Q5 fc):=scs
def jl (K:Frag) (t:Adr):SD:=(Z4 (sIf (N6 (Y9 (W6 (Z7 1 G9 [] (Q1 (dv 1) Q9)))) (tOf (d2 (qj true) (dv 1) (d1 (zg t.c_Book "rows") (dv 0))))) Xo X0)
  (Y1 (d2 U9 (d1 (zg t.c_Book "rows") (dv 0)) (dv 1))))
abbrev B7 (K:Frag) (t:Adr):FD:=gW (jl K t) A7
theorem Qs {c:List Cell} {b j:Nat} {m k i:Int} {rows:List D} {row:D} (h:BookAt t c b j m k rows) (zf:(rows.find? fun r=>decide (U2 r=i))=some row):gN 2 (B7 K t) [.hnd b,.int i] c=some (.ok row c):=by
 refine Kf rfl ?_
 have s1:Z1 A7 [.hnd b,.int i]=[some (.hnd b),some (.int i)]:=rfl
 have w1:W6 (Z7 1 G9 [] (Q1 (dv 1) Q9)) [some (.hnd b),some (.int i)] c=some (.ok true c):=by
  unfold W6
  rw [Z9 ((B1 (n:=1) (g:=G9) (dds:=[]) (Y7 (x:=.int i) (c1:=c) rfl U1)).trans (ml (.int i) c rfl))]
  rfl
 have orE:(N6 (Y9 (W6 (Z7 1 G9 [] (Q1 (dv 1) Q9)))) (tOf (d2 (qj true) (dv 1) (d1 (zg t.c_Book "rows") (dv 0))))) [some (.hnd b),some (.int i)] c=some (.ok false c):=by
  unfold N6 Y9
  rw [Z9 (x:=false) (c':=c) (by rw [Z9 w1];rfl)]
  simp only [Bool.false_eq_true,if_false]
  unfold tOf
  rw [Z9 (x:=.bl false) (c':=c) ((Uw (x:=.int i) (c1:=c) rfl (bq h rfl)).trans (by unfold qj;rw [Qi h];simp only [D1,ux,zf];rfl))]
  rfl
 rw [s1]
 unfold jl
 rw [Q6 (l':=[some (.hnd b),some (.int i)]) (c':=c) ((K8 orE).trans rfl)]
 exact N3 ((Uw (bq h rfl) (y:=.int i) (c2:=c) rfl).trans (by unfold U9;rw [Qi h];simp only [D1,ux,zf]))
abbrev wn:List Str:=["self","number","row"]
theorem Zz:FnScope wn ["self","number"] (Q5 T4):=scs
def fx (K:Frag) (t:Adr):SD:=(Z4 (Y0 2 (N0 t.c_Book "row_at" 2 (B7 K t) [] (dv 0) (Q1 (dv 1) Q9)))
  (Z4 (G8 (mM .dct yA (d1 (zg t.c_Book "rows") (dv 0)) (Q1 (dv 1) Q9)))
  (Y1 (dSl slS (dv 2) (T8 (dc (.int 1))) D4))))
def YE (c:List Cell) (j:Nat) (rows:List D) (i:Int):List Cell:=c.set j (.dct (kvR (rows.filter fun r=>decide (U2 r≠i))))
abbrev G4 (K:Frag) (t:Adr):FD:=gW (fx K t) wn
theorem Qh {c:List Cell} {b j:Nat} {m k i n s:Int} {p q:List Nat} {rows:List D} (h:BookAt t c b j m k rows) (zf:(rows.find? fun r=>decide (U2 r=i))=some (Q8 n p q s)):
  gN 2 (G4 K t) [.hnd b,.int i] c=some (.ok (.tup [.str p,.str q,.int s]) (YE c j rows i)):=by
 refine Kf rfl ?_
 have s1:Z1 wn [.hnd b,.int i]=[some (.hnd b),some (.int i),none]:=rfl
 have e1:N0 t.c_Book "row_at" 2 (B7 K t) [] (dv 0) (Q1 (dv 1) Q9) [some (.hnd b),some (.int i),none] c=some (.ok (.tup [.int n,.str p,.str q,.int s]) c):=(P4 (o:=.hnd b) (c1:=c) rfl (V7 h.ob) rfl (Y7 (x:=.int i) (c1:=c) rfl U1)).trans (Qs h zf)
 rw [s1]
 unfold fx
 rw [Q6 (l':=[some (.hnd b),some (.int i),some (.tup [.int n,.str p,.str q,.int s])]) (c':=c) (J7 e1)]
 rw [Q6 (l':=[some (.hnd b),some (.int i),some (.tup [.int n,.str p,.str q,.int s])]) (c':=YE c j rows i) (qg (x:=.tup [.int n,.str p,.str q,.int s]) ((Ue (bq h rfl) (by unfold tyM;simp only [h.dc]) (Y7 (x:=.int i) (c1:=c) rfl U1)).trans (by
  unfold yA
  rw [Qi h]
  simp only [D1,ux,zf,vF]
  rfl)))]
 refine N3 ?_
 show slS (.tup [.int n,.str p,.str q,.int s]) (some 1) none (YE c j rows i)=_
 simp only [slS,slM]
 rw [if_neg (by simp [HT.sIx])]
 rfl
abbrev wj:List Str:=["self","one","other","rise","steps"]
theorem Zy:FnScope wj ["self","one","other","rise"] (Q5 S5):=scs
def kg (K:Frag) (t:Adr):SD:=(Z4 (sIf (Y9 (W6 (Z7 1 P9 [] (Q1 (vj (Q1 (dv 1) (Q1 (dv 2) (Q1 (dv 3) Q9)))) Q9)))) Xo X0)
  (Z4 (sIf (tOf (d2 geD (d1 B3 (d1 (zg t.c_Book "rows") (dv 0))) (d1 (zg t.c_Book "most") (dv 0)))) Xo X0)
  (Z4 (Y0 4 (Z7 3 H9 [] (Q1 (N0 t.c_Book "kept" 1 (X3 K t) [] (dv 0) Q9) (Q1 (dv 1) (Q1 (dv 2) Q9)))))
  (Z4 (sIf (we (tOf (d1 (U8 true) (dv 4))) (tOf (d2 (eqM true) (Z7 1 vc [] (Q1 (dv 4) Q9)) (dv 3)))) (ut t.x_Against "trail" (Q1 (dv 4) Q9)) X0)
  (Z4 (qat t.c_Book "taken" (fun i j=>i+j) (dv 0) (dc (.int 1)))
  (Z4 (jq (d1 (zg t.c_Book "rows") (dv 0)) (d1 (zg t.c_Book "taken") (dv 0)) (vj (Q1 (d1 (zg t.c_Book "taken") (dv 0)) (Q1 (dv 1) (Q1 (dv 2) (Q1 (dv 3) Q9))))))
  (Y1 (d1 (zg t.c_Book "taken") (dv 0)))))))))
def fk (t:Adr) (c:List Cell) (b j:Nat) (m k:Int) (rows:List D) (x y z:D):List Cell:=(c.set b (.ins t.c_Book (yx m (k+1) j))).set j (.dct (kvR (rows++[.tup [.int (k+1),x,y,z]])))
theorem kF {c:List Cell} {b j:Nat} {m k:Int} {rows:List D} {x y z:D} (h:BookAt t c b j m k rows):BookAt t (fk t c b j m k rows x y z) b j m (k+1) (rows++[.tup [.int (k+1),x,y,z]]):=by
 have hb:=(List.getElem?_eq_some_iff.mp h.ob).1
 have hj:=(List.getElem?_eq_some_iff.mp h.dc).1
 refine ⟨?_,?_⟩
 ·unfold fk
  rw [List.getElem?_set_ne h.ne.symm,List.getElem?_set_self hb]
 ·unfold fk
  rw [List.getElem?_set_self (by rw [List.length_set];exact hj)]
abbrev N7 (K:Frag) (t:Adr):FD:=gWX (kg K t) wj
theorem uG {c:List Cell} {b j:Nat} {m k:Int} {rows:List D} (h:BookAt t c b j m k rows) (hr:rows.all U4=true) (hk:∀ r∈rows,U2 r<=k) (hn:rows.length<=400) (p q:List Nat) (r:Int) (hs:jm (.tup [.str p,.str q,.int r])=true) (hT:okT (.tup [.str p,.str q,.int r]) c=true)
  (hf:¬ m<=(rows.length:Int)) (hw:∀ steps,Walk rows q p [] steps->steps.all U4=true):
  ((¬ Reach rows p q\/∃ steps,Walk rows q p [] steps/\Zc steps=r)/\gN 4 (N7 K t) [.hnd b,.str p,.str q,.int r] c=some (.ok (.int (k+1)) (fk t c b j m k rows (.str p) (.str q) (.int r))))\/
   (∃ steps,Walk rows q p [] steps/\steps.length<=1000/\Zc steps≠r/\gN 4 (N7 K t) [.hnd b,.str p,.str q,.int r] c=some (.exc ⟨.ref t.x_Against,[("trail",.hnd c.length)]⟩ (c++[.lst steps]))):=by
 let st (o:Option D):L:=[some (.hnd b),some (.str p),some (.str q),some (.int r),o]
 have s1:Z1 wj [.hnd b,.str p,.str q,.int r]=st none:=rfl
 have t1:Y9 (W6 (Z7 1 P9 [] (Q1 (vj (Q1 (dv 1) (Q1 (dv 2) (Q1 (dv 3) Q9)))) Q9))) (st none) c=some (.ok false c):=by
  have e0:=(B1 (n:=1) (g:=P9) (dds:=[]) (Y7 (kE (l:=st none) (c:=c) (Y7 (ta:=dv 1) (x:=.str p) (c1:=c) rfl (Y7 (ta:=dv 2) (x:=.str q) (c1:=c) rfl (Y7 (ta:=dv 3) (x:=.int r) (c1:=c) rfl U1))) (by show 3<=1000;omega)) U1)).trans (jU _ c hT)
  unfold Y9 W6
  rw [Z9 (x:=true) (c':=c) (by rw [Z9 e0,hs];rfl)]
  rfl
 have t2:tOf (d2 geD (d1 B3 (d1 (zg t.c_Book "rows") (dv 0))) (d1 (zg t.c_Book "most") (dv 0))) (st none) c=some (.ok (decide (m<=(rows.length:Int))) c):=by
  unfold tOf
  rw [Z9 (x:=.bl (decide (m<=(rows.length:Int)))) (c':=c) ((Uw (x:=.int rows.length) (c1:=c) ((Ux (bq h rfl)).trans (by unfold B3;simp only [h.dc,bO])) (qar h rfl)).trans rfl)]
  rfl
 rw [decide_eq_false hf] at t2
 obtain ⟨d,hd,ew⟩:=yw rows p q c hr hn
 have ek:=(P4 (m:="kept") (n:=1) (g:=X3 K t) (dds:=[]) (l:=st none) (t:=Q9) (to:=dv 0) (o:=.hnd b) (c1:=c) rfl (V7 h.ob) rfl U1).trans (vo (K:=K) h hr)
 have e3:=J7 (i:=4) ((B1 (Y7 ek (Y7 (ta:=dv 1) (x:=.str p) (c1:=c) rfl (Y7 (ta:=dv 2) (x:=.str q) (c1:=c) rfl U1)))).trans ew)
 have tot:∀ steps,d=.lst steps->Walk rows q p [] steps->steps.length<=1000->tOf (d2 (eqM true) (Z7 1 vc [] (Q1 (dv 4) Q9)) (dv 3)) (st (some d)) c=some (.ok (decide (Zc steps≠r)) c):=by
  intro steps e w hl
  subst e
  have et:=(B1 (n:=1) (g:=vc) (dds:=[]) (l:=st (some (.lst steps))) (c:=c) (Y7 (ta:=dv 4) (x:=.lst steps) (c1:=c) rfl U1)).trans (Kc (.lst steps) steps c rfl (hw steps w) hl)
  unfold tOf
  rw [Z9 (x:=.bl (decide (Zc steps≠r))) (c':=c) ((Uw et (y:=.int r) (c2:=c) rfl).trans (by simp [eqM,V6,J6,eqD];exact Bool.eq_iff_iff.mpr (by simp)))]
  rfl
 have done:we (tOf (d1 (U8 true) (dv 4))) (tOf (d2 (eqM true) (Z7 1 vc [] (Q1 (dv 4) Q9)) (dv 3))) (st (some d)) c=some (.ok false c)->gN 4 (N7 K t) [.hnd b,.str p,.str q,.int r] c=some (.ok (.int (k+1)) (fk t c b j m k rows (.str p) (.str q) (.int r))):=by
  intro t3
  refine zQ rfl ?_
  rw [s1]
  unfold kg
  rw [Q6 (l':=st none) (c':=c) ((K8 t1).trans rfl)]
  rw [Q6 (l':=st none) (c':=c) ((K8 t2).trans rfl)]
  rw [Q6 (l':=st (some d)) (c':=c) e3]
  rw [Q6 (l':=st (some d)) (c':=c) ((K8 t3).trans rfl)]
  have hb:=(List.getElem?_eq_some_iff.mp h.ob).1
  have ea:qat t.c_Book "taken" (fun i j=>i+j) (dv 0) (dc (.int 1)) (st (some d)) c=some (.ok (.nx (st (some d))) (c.set b (.ins t.c_Book (yx m (k+1) j)))):=by
   unfold qat
   rw [Z9 (x:=.hnd b) (c':=c) rfl]
   rw [V7 h.ob]
   simp only
   rw [show (yx m k j).lookup ("taken":Str)=some (.int k) from rfl]
   simp only
   rw [Z9 (x:=.int 1) (c':=c) rfl]
   rw [V7 h.ob]
   rfl
  rw [Q6 ea]
  have h2:BookAt t (c.set b (.ins t.c_Book (yx m (k+1) j))) b j m (k+1) rows:=⟨List.getElem?_set_self hb,by rw [List.getElem?_set_ne h.ne];exact h.dc⟩
  have ep:jq (d1 (zg t.c_Book "rows") (dv 0)) (d1 (zg t.c_Book "taken") (dv 0)) (vj (Q1 (d1 (zg t.c_Book "taken") (dv 0)) (Q1 (dv 1) (Q1 (dv 2) (Q1 (dv 3) Q9))))) (st (some d)) (c.set b (.ins t.c_Book (yx m (k+1) j)))=some (.ok (.nx (st (some d))) (fk t c b j m k rows (.str p) (.str q) (.int r))):=by
   unfold jq
   rw [Z9 (kE (Y7 (Kh h2 (l:=st (some d)) rfl) (Y7 (ta:=dv 1) (x:=.str p) (c1:=c.set b (.ins t.c_Book (yx m (k+1) j))) rfl (Y7 (ta:=dv 2) (x:=.str q) (c1:=c.set b (.ins t.c_Book (yx m (k+1) j))) rfl (Y7 (ta:=dv 3) (x:=.int r) (c1:=c.set b (.ins t.c_Book (yx m (k+1) j))) rfl U1)))) (by show 4<=1000;omega))]
   rw [Z9 (bq h2 rfl),Z9 (Kh h2 rfl)]
   unfold ZA
   rw [Qi h2]
   simp only [D1]
   rw [if_pos (by rw [bO];omega),XM (n:=k+1) rfl (fun r' hr' e=>by have:=hk r' hr';omega)]
   rfl
  rw [Q6 ep]
  exact N3 (Kh (kF (x:=.str p) (y:=.str q) (z:=.int r) h) (l:=st (some d)) rfl)
 rcases hd with ⟨rfl,hnr⟩ | ⟨steps,rfl,w,hl⟩
 ·exact .inl ⟨.inl hnr,done rfl⟩
 ·have tt:=tot steps rfl w hl
  by_cases hsum:Zc steps=r
  ·refine .inl ⟨.inr ⟨steps,w,hsum⟩,done ?_⟩
   unfold we
   rw [Z9 (x:=true) (c':=c) rfl]
   simp only [if_true]
   rw [tt];simp [hsum]
  ·refine .inr ⟨steps,w,hl,hsum,ue rfl ?_⟩
   have t3:we (tOf (d1 (U8 true) (dv 4))) (tOf (d2 (eqM true) (Z7 1 vc [] (Q1 (dv 4) Q9)) (dv 3))) (st (some (.lst steps))) c=some (.ok true c):=by
    unfold we
    rw [Z9 (x:=true) (c':=c) rfl]
    simp only [if_true]
    rw [tt];simp [hsum]
   rw [s1]
   unfold kg
   rw [Q6 (l':=st none) (c':=c) ((K8 t1).trans rfl)]
   rw [Q6 (l':=st none) (c':=c) ((K8 t2).trans rfl)]
   rw [Q6 (l':=st (some (.lst steps))) (c':=c) e3]
   refine Wm ((wz t3).trans ?_)
   unfold ut
   rw [Z9 (Y7 (ta:=dv 4) (x:=.lst steps) (c1:=c) rfl U1)]
   rfl
abbrev wm:List Str:=["self","most"]
theorem qO:FnScope wm ["self","most"] (Q5 T3):=scs
def fw (K:Frag) (t:Adr):SD:=(Z4 (Gv t.c_Book "most" (dv 0) (dv 1))
  (Z4 (Gv t.c_Book "taken" (dv 0) (dc (.int 0)))
  (Gv t.c_Book "rows" (dv 0) uc)))
abbrev jd (K:Frag) (t:Adr):FD:=gW (fw K t) wm
abbrev wN (t:Adr) (c:List Cell) (m:Int):List Cell:=c++[.ins t.c_Book (yx m 0 (c.length+1)),.dct []]
theorem uO (m:Int) (c:List Cell):gN 2 (jd K t) [.hnd c.length,.int m] (c++[.ins t.c_Book []])=some (.ok .non (wN t c m)):=by
 refine bY (l:=[some (.hnd c.length),some (.int m)]) rfl ?_
 have s1:Z1 wm [.hnd c.length,.int m]=[some (.hnd c.length),some (.int m)]:=rfl
 rw [s1]
 unfold fw
 have f1:∀ fs (fl:Str) (te:ED) (d:D) (ex:List Cell),te [some (.hnd c.length),some (.int m)] (c++[.ins t.c_Book fs])=some (.ok d (c++[.ins t.c_Book fs]++ex))->
   Gv t.c_Book fl (dv 0) te [some (.hnd c.length),some (.int m)] (c++[.ins t.c_Book fs])=QQ t.c_Book fl (.hnd c.length) d [some (.hnd c.length),some (.int m)] (c++[.ins t.c_Book fs]++ex):=fun fs fl te d ex h=>by
  unfold Gv
  rw [Z9 h,Z9 (x:=.hnd c.length) (c':=c++[.ins t.c_Book fs]++ex) rfl]
 have f2:∀ (fs:List (Str×D)) (fl:Str) (d:D) (ex:List Cell) (fs':List (Str×D)),fs.length < 1000->jQ fl d fs=fs'->QQ t.c_Book fl (.hnd c.length) d [some (.hnd c.length),some (.int m)] (c++[.ins t.c_Book fs]++ex)=some (.ok (.nx [some (.hnd c.length),some (.int m)]) (c++[.ins t.c_Book fs']++ex)):=fun fs fl d ex fs' hlen e=>by
  unfold QQ
  rw [V7 (fs:=fs) (by simp)]
  simp only
  rw [if_pos hlen,e]
  simp
 rw [Q6 (((f1 [] "most" (dv 1) (.int m) [] (by rw [List.append_nil];rfl)).trans (f2 [] "most" (.int m) [] [("most",.int m)] (by decide) rfl)).trans (by rw [List.append_nil]))]
 rw [Q6 (((f1 [("most",.int m)] "taken" (dc (.int 0)) (.int 0) [] (by rw [List.append_nil];rfl)).trans (f2 [("most",.int m)] "taken" (.int 0) [] [("most",.int m),("taken",.int 0)] (by show 1 < 1000;omega) rfl)).trans (by rw [List.append_nil]))]
 refine (f1 [("most",.int m),("taken",.int 0)] "rows" uc (.hnd (c.length+1)) [.dct []] ?_).trans ((f2 [("most",.int m),("taken",.int 0)] "rows" (.hnd (c.length+1)) [.dct []] (yx m 0 (c.length+1)) (by show 2 < 1000;omega) rfl).trans (by simp))
 simp [uc]
theorem Bd (m:Int) (c:List Cell):mkM t.c_Book 2 (jd K t) [.int m] c=some (.ok (.hnd c.length) (wN t c m)):=XG (uO m c)
abbrev zr:List Str:=["self","number"]
theorem Xl:FnScope zr ["self","number"] (Q5 M7):=scs
def wu (K:Frag) (t:Adr):SD:=(Z4 (sIf (N6 (Y9 (W6 (Z7 1 G9 [] (Q1 (dv 1) Q9)))) (tOf (d2 (qj true) (dv 1) (d1 (zg t.c_Book "rows") (dv 0))))) (qP t.x_NoNumber (Q1 (dc (.str [110,111,32,107,101,112,116,32,115,105,103,104,116,105,110,103,32,104,97,115,32,116,104,105,115,32,110,117,109,98,101,114])) Q9)) X0)
  (Y1 (d2 U9 (d1 (zg t.c_Book "rows") (dv 0)) (dv 1))))
abbrev gb (K:Frag) (t:Adr):FD:=gWX (wu K t) zr
theorem yF {c:List Cell} {b j:Nat} {m k:Int} {rows:List D} (h:BookAt t c b j m k rows) {d:D} (hd:(tyM d c).isSome=true) (hi:∀ i,d=.int i->(rows.find? fun r=>decide (U2 r=i))=none):gN 2 (gb K t) [.hnd b,d] c=some (.exc ⟨.ref t.x_NoNumber,[]⟩ c):=by
 refine ue rfl ?_
 let st:L:=[some (.hnd b),some d]
 have s1:Z1 zr [.hnd b,d]=st:=rfl
 have w1:EvT (W6 (Z7 1 G9 [] (Q1 (dv 1) Q9))) st c (xi d):=K6 (evc (eva (x:=d) rfl evn) (ml d c hd))
 have w2:EvT (N6 (Y9 (W6 (Z7 1 G9 [] (Q1 (dv 1) Q9)))) (tOf (d2 (qj true) (dv 1) (d1 (zg t.c_Book "rows") (dv 0))))) st c true:=by
  cases z:xi d with
  | false=>
   rw [z] at w1
   exact gM (L5 w1)
  | true=>
   rw [z] at w1
   have hd2:∃ i,d=.int i:=by
    cases d <;> first | exact ⟨_,rfl⟩ | cases z
   obtain ⟨i,rfl⟩:=hd2
   refine E8 (L5 w1) (I9 (ev2 (x:=.int i) rfl (bq h rfl) ?_))
   unfold qj
   rw [Qi h]
   simp only [D1,ux,hi i rfl]
   rfl
 rw [s1]
 unfold wu
 exact Wm ((wz w2).trans (QX (Y7 (c1:=c) rfl U1) (by show 1<=1000;omega)))
abbrev qo:List Str:=["self","number","row","others"]
theorem wx:FnScope qo ["self","number"] (Q5 M3):=scs
def xq (K:Frag) (t:Adr):SD:=(Z4 (Y0 2 (N0 t.c_Book "row_at" 2 (gb K t) [] (dv 0) (Q1 (dv 1) Q9)))
  (Z4 (Y0 3 (L7 (T9 (N0 t.c_Book "kept" 1 (X3 K t) [] (dv 0) Q9)) [1] (J5 0) (tOf (d2 (eqM true) (d2 ixM (dv 0) (dc (.int 0))) (dv 1))) (dv 0)))
  (Y1 (d1 (U8 true) (Z7 3 H9 [] (Q1 (dv 3) (Q1 (d2 ixM (dv 2) (dc (.int 1))) (Q1 (d2 ixM (dv 2) (dc (.int 2))) Q9))))))))
abbrev be (K:Frag) (t:Adr):FD:=gWX (xq K t) qo
theorem Gc {c:List Cell} {b j:Nat} {m k:Int} {rows:List D} (h:BookAt t c b j m k rows) {d:D} (hd:(tyM d c).isSome=true) (hi:∀ i,d=.int i->(rows.find? fun r=>decide (U2 r=i))=none):gN 2 (be K t) [.hnd b,d] c=some (.exc ⟨.ref t.x_NoNumber,[]⟩ c):=by
 refine ue rfl ?_
 unfold xq
 exact Wm (xW ((P4 (o:=.hnd b) (c1:=c) rfl (V7 h.ob) rfl (Y7 (x:=d) (c1:=c) rfl U1)).trans (yF h hd hi)))
abbrev G1 (rows:List D) (i:Int):List D:=rows.filter fun r=>decide (U2 r≠i)
theorem qbf {rows:List D} {c:List Cell} {chk:List Cell->Prop} {ti:ID} {l:L} {i:Int} {a:Nat} (hs:ti l c=some (.ok ⟨rows,chk⟩ c)) (hk:chk c) (hl:l0 [a] l=[none,some (.int i)]) (hr:rows.all U4=true) (hn:rows.length<=1000):Ev (L7 ti [a] (J5 0) (tOf (d2 (eqM true) (d2 ixM (dv 0) (dc (.int 0))) (dv 1))) (dv 0)) l c (.lst (G1 rows i)):=by
 show L7 _ _ _ _ _ _ _=_
 rw [zN (S:=⟨rows,chk⟩) hs,hl]
 rw [Zp (f:=fun x=>x) (b:=fun x=>decide (U2 x≠i)) c hk rows [] none (fun y hy=>by
  obtain ⟨n',p',q',r',rfl⟩:=T6 (List.all_eq_true.mp hr y hy)
  exact I9 (ev2 (ev2 (x:=Q8 n' p' q' r') (y:=.int 0) (z:=.int n') rfl rfl rfl) (y:=.int i) rfl (by show some (Out.ok (D.bl (!decide (n'=i))) c)=some (.ok (.bl (decide (n'≠i))) c);rw [decide_not]))) (fun y hy=>rfl) (by simp;omega)]
 rw [List.map_id'];rfl
abbrev N4:List Str:=["self","number","row","others"]
theorem jo:FnScope N4 ["self","number"] (Q5 yd):=scs
def yb (K:Frag) (t:Adr):SD:=(Z4 (Y0 2 (N0 t.c_Book "row_at" 2 (B7 K t) [] (dv 0) (Q1 (dv 1) Q9)))
  (Z4 (Y0 3 (L7 (T9 (N0 t.c_Book "kept" 1 (X3 K t) [] (dv 0) Q9)) [1] (J5 0) (tOf (d2 (eqM true) (d2 ixM (dv 0) (dc (.int 0))) (dv 1))) (dv 0)))
  (Y1 (d1 (U8 true) (Z7 3 H9 [] (Q1 (dv 3) (Q1 (d2 ixM (dv 2) (dc (.int 1))) (Q1 (d2 ixM (dv 2) (dc (.int 2))) Q9))))))))
abbrev qf (K:Frag) (t:Adr):FD:=gW (yb K t) N4
open Classical in
theorem xA {c:List Cell} {b j:Nat} {m k i n s:Int} {p q:List Nat} {rows:List D} (h:BookAt t c b j m k rows) (hr:rows.all U4=true) (hn:rows.length<=400) (zf:(rows.find? fun r=>decide (U2 r=i))=some (Q8 n p q s)):
  gN 2 (qf K t) [.hnd b,.int i] c=some (.ok (.bl (decide (Reach (G1 rows i) p q))) c):=by
 refine Kf rfl ?_
 let st (a b':Option D):L:=[some (.hnd b),some (.int i),a,b']
 have s1:Z1 N4 [.hnd b,.int i]=st none none:=rfl
 have e1:Ev (N0 t.c_Book "row_at" 2 (B7 K t) [] (dv 0) (Q1 (dv 1) Q9)) (st none none) c (Q8 n p q s):=(P4 (o:=.hnd b) (c1:=c) rfl (V7 h.ob) rfl (Y7 (x:=.int i) (c1:=c) rfl U1)).trans (Qs h zf)
 have ek:Ev (N0 t.c_Book "kept" 1 (X3 K t) [] (dv 0) Q9) (st (some (Q8 n p q s)) none) c (.lst rows):=(P4 (o:=.hnd b) (c1:=c) rfl (V7 h.ob) rfl U1).trans (vo (K:=K) h hr)
 have e2:=qbf (i:=i) (a:=1) (uy ek (r:=some (.ok ⟨rows,fun _=>True⟩ c)) rfl) trivial rfl hr (by omega)
 rw [s1]
 unfold yb
 rw [Q6 (l':=st (some (Q8 n p q s)) none) (c':=c) (J7 (i:=2) e1)]
 rw [Q6 (l':=st (some (Q8 n p q s)) (some (.lst (G1 rows i)))) (c':=c) (J7 (i:=3) e2)]
 have ln:(G1 rows i).length<=400:=Nat.le_trans (List.length_filter_le _ _) hn
 obtain ⟨d,hd,ew⟩:=yw (G1 rows i) p q c (Bl _ hr) ln
 refine N3 (ev1 (evc (eva (x:=.lst (G1 rows i)) rfl (eva (ev2 (x:=Q8 n p q s) (y:=.int 1) (z:=.str p) rfl rfl rfl) (eva (ev2 (x:=Q8 n p q s) (y:=.int 2) (z:=.str q) rfl rfl rfl) evn))) ew) ?_)
 rcases hd with ⟨rfl,hnr⟩ | ⟨steps,rfl,w,hl⟩
 ·rw [decide_eq_false hnr];rfl
 ·rw [decide_eq_true (Qw w)];rfl
theorem gw {p:List Nat} (h:K7 p=true):1<=p.length/\p.length<=8:=by
 simp only [K7,Bool.and_eq_true,decide_eq_true_eq] at h
 exact h.1
abbrev ka:List Str:=["self","one","other","rows","steps"]
theorem mf:FnScope ka ["self","one","other"] (Q5 E7):=scs
def xp (K:Frag) (t:Adr):SD:=(Z4 (sIf (N6 (Y9 (W6 (Z7 1 C5 [] (Q1 (dv 1) Q9)))) (Y9 (W6 (Z7 1 C5 [] (Q1 (dv 2) Q9))))) Xo X0)
  (Z4 (Y0 3 (N0 t.c_Book "kept" 1 (X3 K t) [] (dv 0) Q9))
  (Z4 (Y0 4 (Z7 3 H9 [] (Q1 (dv 3) (Q1 (dv 1) (Q1 (dv 2) Q9)))))
  (Z4 (sIf (tOf (d1 (U8 false) (dv 4))) (ut t.x_NoWay "near" (Q1 (Z7 2 xa [] (Q1 (dv 3) (Q1 (dv 1) Q9))) Q9)) X0)
  (Y1 (dv 4))))))
abbrev yj (K:Frag) (t:Adr):FD:=gWX (xp K t) ka
structure Part (rows:List D) (one:List Nat) (ps:List (List Nat)):Prop where
 mem:∀ x,x∈ps↔Reach rows one x
 asc:ps.Pairwise fun a b=>ltL a b=true
theorem yD {c:List Cell} {b j:Nat} {m k:Int} {rows:List D} (h:BookAt t c b j m k rows) (hr:rows.all U4=true) (hn:rows.length<=400) {p q:List Nat} (hp:K7 p=true) (hq:K7 q=true) {pool:List (List Nat)} (hpo:∀ x∈ends rows,x∈pool) (hpl:pool.length<=62):
  (∃ steps,Walk rows q p [] steps/\steps.length<=1000/\gN 3 (yj K t) [.hnd b,.str p,.str q] c=some (.ok (.lst steps) c))\/
   (¬ Reach rows p q/\∃ ps,Part rows p ps/\gN 3 (yj K t) [.hnd b,.str p,.str q] c=some (.exc ⟨.ref t.x_NoWay,[("near",.hnd c.length)]⟩ (c++[.lst (ps.map .str)]))):=by
 let st (o3 o4:Option D):L:=[some (.hnd b),some (.str p),some (.str q),o3,o4]
 have s1:Z1 ka [.hnd b,.str p,.str q]=st none none:=rfl
 have lp:=gw hp
 have lq:=gw hq
 have pg:∀ {a:List Nat},K7 a=true->a.length<=8->gN 1 C5 [.str a] c=some (.ok (.bl true) c):=fun {a} ha hl=>by
  have:=Yq (.str a) c (by show (true && decide (a.length<=1000000))=true;rw [decide_eq_true (by omega)];rfl)
  rw [show Yo (.str a)=true from ha] at this
  exact this
 have t1:EvT (N6 (Y9 (W6 (Z7 1 C5 [] (Q1 (dv 1) Q9)))) (Y9 (W6 (Z7 1 C5 [] (Q1 (dv 2) Q9))))) (st none none) c false:=
  E8 (L5 (b:=true) (K6 (evc (eva (x:=.str p) rfl evn) (pg hp lp.2)))) (L5 (b:=true) (K6 (evc (eva (x:=.str q) rfl evn) (pg hq lq.2))))
 have ek:Ev (N0 t.c_Book "kept" 1 (X3 K t) [] (dv 0) Q9) (st none none) c (.lst rows):=(P4 (o:=.hnd b) (c1:=c) rfl (V7 h.ob) rfl U1).trans (vo (K:=K) h hr)
 obtain ⟨d,hd,ew⟩:=yw rows p q c hr hn
 have e4:Ev (Z7 3 H9 [] (Q1 (dv 3) (Q1 (dv 1) (Q1 (dv 2) Q9)))) (st (some (.lst rows)) none) c d:=evc (eva (x:=.lst rows) rfl (eva (x:=.str p) rfl (eva (x:=.str q) rfl evn))) ew
 have go:∀ {r:Option (Out Fl)},Z4 (sIf (tOf (d1 (U8 false) (dv 4))) (ut t.x_NoWay "near" (Q1 (Z7 2 xa [] (Q1 (dv 3) (Q1 (dv 1) Q9))) Q9)) X0) (Y1 (dv 4)) (st (some (.lst rows)) (some d)) c=r->xp K t (Z1 ka [.hnd b,.str p,.str q]) c=r:=fun {r} hx=>by
  rw [s1]
  unfold xp
  rw [Q6 (l':=st none none) (c':=c) ((K8 t1).trans rfl)]
  rw [Q6 (l':=st (some (.lst rows)) none) (c':=c) (J7 (i:=3) ek)]
  rw [Q6 (l':=st (some (.lst rows)) (some d)) (c':=c) (J7 (i:=4) e4)]
  exact hx
 rcases hd with ⟨rfl,hnr⟩ | ⟨steps,rfl,w,hl⟩
 ·obtain ⟨ps,m1,m2,_,ep⟩:=zP rows p c hr (by omega) pool hpo hpl
  refine .inr ⟨hnr,ps,⟨m1,m2⟩,ue rfl (go ?_)⟩
  refine Wm ((wz (I9 (ev1 (x:=.non) rfl rfl))).trans ?_)
  unfold ut
  rw [Z9 (eva (t:=Q9) (evc (g:=xa) (n:=2) (dds:=[]) (eva (ta:=dv 3) (l:=st (some (.lst rows)) (some .non)) (c:=c) (x:=.lst rows) rfl (eva (ta:=dv 1) (x:=.str p) rfl evn)) ep) evn)]
  rfl
 ·refine .inl ⟨steps,w,hl,zQ rfl (go ?_)⟩
  rw [Q6 (l':=st (some (.lst rows)) (some (.lst steps))) (c':=c) ((K8 (I9 (ev1 (x:=.lst steps) rfl rfl))).trans rfl)]
  rfl
abbrev wk:List Str:=["self","one","other"]
theorem qM:FnScope wk ["self","one","other"] (Q5 S6):=scs
def kh (K:Frag) (t:Adr):SD:=(Y1 (Z7 1 vc [] (Q1 (N0 t.c_Book "way" 3 (yj K t) [] (dv 0) (Q1 (dv 1) (Q1 (dv 2) Q9))) Q9)))
abbrev I0 (K:Frag) (t:Adr):FD:=gWX (kh K t) wk
theorem uW {ta:ED} {t:AD} {l:L} {c c1:List Cell} {e:Exc} (h:ta l c=some (.exc e c1)):Q1 ta t l c=some (.exc e c1):=by unfold Q1;rw [Vh h]
theorem uI {c:List Cell} {b j:Nat} {m k:Int} {rows:List D} {hh:List Nat->Int} (h:BookAt t c b j m k rows) (hr:HR hh rows) (hn:rows.length<=400) {p q:List Nat} (hp:K7 p=true) (hq:K7 q=true) {pool:List (List Nat)} (hpo:∀ x∈ends rows,x∈pool) (hpl:pool.length<=62):
  (Reach rows p q/\gN 3 (I0 K t) [.hnd b,.str p,.str q] c=some (.ok (.int (hh q - hh p)) c))\/
   (¬ Reach rows p q/\∃ ps,Part rows p ps/\gN 3 (I0 K t) [.hnd b,.str p,.str q] c=some (.exc ⟨.ref t.x_NoWay,[("near",.hnd c.length)]⟩ (c++[.lst (ps.map .str)]))):=by
 have s1:Z1 wk [.hnd b,.str p,.str q]=[some (.hnd b),some (.str p),some (.str q)]:=rfl
 have em:N0 t.c_Book "way" 3 (yj K t) [] (dv 0) (Q1 (dv 1) (Q1 (dv 2) Q9)) [some (.hnd b),some (.str p),some (.str q)] c=_:=P4 (o:=.hnd b) (c1:=c) rfl (V7 h.ob) rfl (Y7 (x:=.str p) (c1:=c) rfl (Y7 (x:=.str q) (c1:=c) rfl U1))
 rcases yD (K:=K) h hr.ok hn hp hq hpo hpl with ⟨steps,w,hl,e⟩ | ⟨nr,ps,hps,e⟩
 ·obtain ⟨w1,w2⟩:=uh hr w
  refine .inl ⟨Qw w,zQ rfl ?_⟩
  rw [s1]
  unfold kh
  have:=Kc (.lst steps) steps c rfl w1 hl
  rw [w2] at this
  exact N3 (evc (eva (em.trans e) evn) this)
 ·refine .inr ⟨nr,ps,hps,ue rfl ?_⟩
  rw [s1]
  unfold kh
  refine WA ?_
  unfold Z7
  rw [Vh (uW (em.trans e))]
def mP:List Nat:=[97,98,99,100,101,102,103,104,105,106,107,108,109,110,111,112,113,114,115,116,117,118,119,120,121,122]
theorem XI {i:Int} (h0:0<=i) (h1:i < 26):atI mP i=some (97+i.toNat):=by
 have e:mP=(List.range 26).map fun k=>97+k:=by decide
 rw [zV h0 (by rw [e];simpa using h1),e,List.getElem?_map,List.getElem?_range (by omega)]
 rfl
theorem uf {α:Type} {xs:List α} {i:Int} (h0:0<=i) (h1:i < xs.length):∃ x,x∈xs/\atI xs i=some x:=by
 rw [zV h0 h1]
 have:i.toNat < xs.length:=by omega
 exact ⟨xs[i.toNat],List.getElem_mem this,List.getElem?_eq_getElem this⟩
abbrev R1:List Str:=["_law_script","_law_k"]
theorem Xj:FnScope R1 ["_law_script","_law_k"] (Q5 M5):=scs
def C2:SD:=(Z4 (sIf (tOf (d2 ltD (dv 1) (d1 B3 (dv 0)))) (Y1 (d2 ixM (dv 0) (dv 1))) X0)
  (Y1 (dc (.int 0))))
def Qt (_:List D) (d:D):Prop:=∃ n,d=.int n
abbrev M9:FD:=gR C2 R1 Qt
theorem vk (ns:List Int) (k:Int) (c:List Cell) (hk:0<=k):∃ n,gN 2 M9 [.scr ns,.int k] c=some (.ok (.int n) c):=by
 have h:∃ d,Qt [.scr ns,.int k] d/\Wj C2 R1 [.scr ns,.int k] c d:=by
  by_cases z:k < ns.length
  ·obtain ⟨n,_,hn⟩:=uf hk z
   exact ⟨.int n,⟨n,rfl⟩,.same (by simp [C2,R1,Z1,Z4,sIf,Y1,tOf,d1,d2,dv,B3,ixM,oM,Vd,M.bd,M.ret,z,hn])⟩
  ·exact ⟨.int 0,⟨0,rfl⟩,.same (by simp [C2,R1,Z1,Z4,sIf,Y1,X0,tOf,d1,d2,dv,dc,B3,Vd,M.bd,M.ret,z])⟩
 obtain ⟨d,⟨n,rfl⟩,e⟩:=zR rfl h
 exact ⟨n,e⟩
abbrev wf:List Str:=["_law_found"]
theorem qL:FnScope wf ["_law_found"] (Q5 R8):=scs
def fm:SD:=(Y1 (N8 (d1 (D2 .int) (dv 0)) (Bw (d1 (D2 .bl) (dv 0)))))
def f_law_whole:List D->List Cell->Option D
 | [.int _],_=>some (.bl true)
 | _,_=>none
abbrev E9:FD:=gV f_law_whole
theorem jN:RN 1 E9 fm wf:=by
 refine jc fun ds c d hl h=>?_
 unfold f_law_whole at h
 split at h
 ·cases h
  exact ⟨⟨[],by simp [fm,wf,Z1,Y1,d1,dv,D2,tyM,Ty.sub,N8,Bw,M.bd,M.ret]⟩,rfl⟩
 ·cases h
theorem Zr (n:Int) (c:List Cell):gN 1 E9 [.int n] c=some (.ok (.bl true) c):=Vq rfl rfl
section
variable {ta tb:ED} {l:L} {c:List Cell} {a b m:Int}
theorem evM (h:Ev ta l c (.int a)) (hm:0 < m):Ev (d2 X8 ta (dc (.int m))) l c (.int (a % m)):=ev2 h (y:=.int m) rfl (gy (show mv a m from hm))
theorem gL (h:Ev ta l c (.int a)) (hm:0 < m/\m < 10 ^ 200):Ev (d2 Jt ta (dc (.int m))) l c (.int (a / m)):=ev2 h (y:=.int m) rfl (gy (show Bs a m from hm))
theorem K2 (h1:Ev ta l c (.int a)) (h2:Ev tb l c (.int b)):Ev (d2 W3 ta tb) l c (.int (a+b)):=ev2 h1 h2 rfl
theorem Vr (h1:Ev ta l c (.int a)) (h2:Ev tb l c (.int b)):Ev (d2 fy ta tb) l c (.int (a - b)):=ev2 h1 h2 rfl
theorem C7 (h1:Ev ta l c (.int a)) (h2:Ev tb l c (.int b)) (ok:Ub a b):Ev (d2 N5 ta tb) l c (.int (a * b)):=ev2 h1 h2 (gy ok)
theorem qbh (h:Ev ta l c (.int a)) (h0:0<=a) (h1:a < 26):Ev (d2 ixM (dc (.str mP)) ta) l c (.str [97+a.toNat]):=
 ev2 (x:=.str mP) rfl h (by
  have g3:=XI h0 h1
  have g5:mP.length<=1000000:=by decide
  simp [ixM,oM,g3,g5,M.ret])
theorem JX {x y:List Nat} (h1:Ev ta l c (.str x)) (h2:Ev tb l c (.str y)) (hl:x.length+y.length<=1000000):Ev (d2 W3 ta tb) l c (.str (x++y)):=ev2 h1 h2 (by simp [W3,hl,M.ret])
end
abbrev bt:List Str:=["_law_number","_law_word_here","_law_k"]
theorem km:FnScope bt ["_law_number"] (Q5 A9):=scs
def Qn:SD:=(Y0 1 (d2 W3 (dv 1) (d2 ixM (dc (.str [97,98,99,100,101,102,103,104,105,106,107,108,109,110,111,112,113,114,115,116,117,118,119,120,121,122])) (d2 X8 (d2 X8 (d2 N5 (dv 0) (d2 W3 (d2 N5 (dv 2) (dv 2)) (dc (.int 3)))) (dc (.int 1009))) (dc (.int 26))))))
def Qx:SD:=(Z4 (Y0 1 (dc (.str [])))
  (Z4 (B2 (iR1 (dc (.int 8))) (J5 2) Qn)
  (Y1 (dv 1))))
abbrev bc:FD:=gC Qx bt
theorem Bz (n:Int) (c:List Cell):∃ w,w.length=8/\w.all low=true/\gN 1 bc [.int n] c=some (.ok (.str w) c):=by
 obtain ⟨l',c',e,hI⟩:=my (g:=J5 2) (body:=Qn) 0 8 (fun k l c'=>c'=c/\∃ w o,l=[some (.int n),some (.str w),o]/\w.length=k/\w.all low=true)
  (fun k l c' hk ⟨ec,w,o,el,hw,ha⟩=>by
   subst ec el
   obtain ⟨i,hi⟩:∃ i:Int,0+(k:Int)=i:=⟨_,rfl⟩
   rw [hi]
   have kk:i * i<=8 * 8:=Int.mul_le_mul (by omega) (by omega) (by omega) (by omega)
   have kk0:0<=i * i:=Int.mul_nonneg (by omega) (by omega)
   obtain ⟨z,hz⟩:∃ z,i * i+3=z:=⟨_,rfl⟩
   have q1:Ev (d2 N5 (dv 0) (d2 W3 (d2 N5 (dv 2) (dv 2)) (dc (.int 3)))) [some (.int n),some (.str w),some (.int i)] c' (.int (n * z)):=by
    rw [← hz]
    exact C7 (a:=n) rfl (K2 (C7 (a:=i) (b:=i) rfl rfl (.inl ⟨by omega,by omega⟩)) (b:=3) rfl) (.inr (.inl ⟨by omega,by omega⟩))
   have q2:=JX (ta:=dv 1) (x:=w) rfl (qbh (evM (evM q1 (m:=1009) (by decide)) (m:=26) (by decide)) (by omega) (by omega)) (by simp;omega)
   refine ⟨_,rfl,[some (.int n),some (.str (w++[97+(n * z % 1009 % 26).toNat])),some (.int i)],c',.inl ?_,rfl,_,_,rfl,by simp [hw],by rw [List.all_append,ha];simp [low];omega⟩
   exact J7 (i:=1) q2)
  (l:=[some (.int n),some (.str []),none]) (c:=c) ⟨rfl,_,_,rfl,rfl,rfl⟩
 obtain ⟨ec,w,o,el,hw,ha⟩:=hI
 subst ec el
 refine ⟨w,hw,ha,D9 rfl ?_ rfl (R6.refl _) List.take_length⟩
 simp [Qx,bt,Z1,Z4,Y1,Y0,dv,dc,iR1,B2,M.bd,M.ret,e]
theorem Xc (n:Nat):∀ (ps:List (List Nat)),D.bels n (ps.map .str)=true
 | []=>rfl
 | _::ps=>by simp [D.bels,D.bel,Xc n ps]
theorem kO {n:Nat} {d:Nat} {i:Int} (h0:0<=i) (h1:i<=n):HT.sIx n d (some i)=i.toNat:=by
 simp only [HT.sIx]
 rw [if_neg (by omega)]
 omega
theorem qdh {α:Type} (xs:List α) {a b:Int} (h0:0<=a) (h1:a<=b) (h2:b<=xs.length):(DL.R5 xs (some a) (some b)).length=(b - a).toNat:=by
 unfold DL.R5
 rw [kO h0 (by omega),kO (by omega) h2,List.length_take,List.length_drop]
 omega
theorem gY {α:Type} (xs:List α) {b:Int} (h0:0<=b) (h2:b<=xs.length):(DL.R5 xs none (some b)).length=b.toNat:=by
 unfold DL.R5
 rw [kO h0 h2]
 simp only [HT.sIx]
 rw [List.length_take,List.length_drop]
 omega
theorem Wx {w:List Nat} (lo hi:Option Int) (h:w.all low=true):(DL.R5 w lo hi).all low=true:=List.all_eq_true.mpr fun x hx=>List.all_eq_true.mp h x (List.mem_of_mem_drop (List.mem_of_mem_take hx))
theorem Ui {w:List Nat} (h1:1<=w.length) (h8:w.length<=8) (h:w.all low=true):K7 w=true:=by
 unfold K7
 rw [decide_eq_true h1,decide_eq_true h8,h]
 rfl
theorem Xw {ta:ED} {l:L} {c:List Cell} {a:Int} (h:Ev ta l c (.int a)):T8 ta l c=some (.ok (some a) c):=by
 unfold T8
 rw [Z9 h]
 rfl
theorem gI {ta:ED} {l:L} {c c1:List Cell} {z:Int} (h:ta l c=some (.ok (.int z) c1)) (g1:-1000000<=z) (g2:z<=1000000):iR1 ta l c=some (.ok ⟨W5 0 z.toNat,fun _=>True⟩ c1):=by
 unfold iR1
 rw [Z9 h]
 simp only [if_pos (And.intro g1 g2)]
 rfl
abbrev yz:List Str:=["_law_cell","_law_many","_law_number","_law_word_here","_law_at","_law_size","_law_found","_law_k","_law_letter","_law_other"]
theorem B9:FnScope yz ["_law_cell","_law_many"] (Q5 E4):=scs
def C1:SD:=(Z4 (Y0 8 (d2 ixM (dc (.str [97,98,99,100,101,102,103,104,105,106,107,108,109,110,111,112,113,114,115,116,117,118,119,120,121,122])) (d2 X8 (d2 W3 (d2 Jt (dv 2) (dc (.int 7))) (d2 N5 (dc (.int 5)) (dv 7))) (dc (.int 26)))))
  (sIf (tOf (d2 (eqM false) (d2 X8 (dv 2) (dc (.int 3))) (dc (.int 0)))) (G8 (mM .lst K9 (dv 6) (Q1 (dSl slS (dv 3) D4 (T8 (d2 W3 (dc (.int 1)) (dv 7)))) Q9))) (sIf (tOf (d2 (eqM false) (d2 X8 (dv 2) (dc (.int 3))) (dc (.int 1)))) (G8 (mM .lst K9 (dv 6) (Q1 (d2 W3 (d2 W3 (dSl slS (dv 3) D4 (T8 (dv 4))) (dv 8)) (dSl slS (dv 3) (T8 (d2 W3 (dv 4) (dc (.int 1)))) (T8 (dv 5)))) Q9))) (Z4 (Y0 9 (Z7 1 bc [] (Q1 (d2 W3 (d2 Jt (dv 2) (dc (.int 3))) (d2 N5 (d2 N5 (dc (.int 7919)) (dv 7)) (dv 7))) Q9)))
  (G8 (mM .lst K9 (dv 6) (Q1 (dSl slS (dv 9) D4 (T8 (d2 W3 (dc (.int 1)) (d2 X8 (d2 W3 (d2 Jt (dv 2) (dc (.int 11))) (d2 N5 (dc (.int 3)) (dv 7))) (dc (.int 8)))))) Q9)))))))
def xo:SD:=(Z4 (Y0 2 (d2 X8 (d2 N5 (d2 W3 (d2 X8 (dv 0) (dc (.int 1000000007))) (dc (.int 7))) (dc (.int 48271))) (dc (.int 1000000007))))
  (Z4 (Y0 3 (Z7 1 bc [] (Q1 (dv 2) Q9)))
  (Z4 (Y0 4 (d2 X8 (d2 Jt (dv 2) (dc (.int 3))) (dc (.int 8))))
  (Z4 (Y0 5 (d2 W3 (d2 W3 (dv 4) (dc (.int 1))) (d2 X8 (d2 Jt (dv 2) (dc (.int 24))) (d2 fy (dc (.int 8)) (dv 4)))))
  (Z4 (Y0 6 (wc Q9))
  (Z4 (B2 (iR1 (dv 1)) (J5 7) C1)
  (Y1 (dv 6))))))))
def Kp (ds:List D) (d:D):Prop:=∃ (n z:Int) (ps:List (List Nat)),ds=[.int n,.int z]/\d=.lst (ps.map .str)/\ps.length=z.toNat/\∀ p∈ps,K7 p=true
abbrev Zi:FD:=gR xo yz Kp
theorem bT {ta:ED} {lo hi:OD} {l:L} {c:List Cell} {x:List Nat} {a b:Option Int} (h:Ev ta l c (.str x)) (ha:lo l c=some (.ok a c)) (hb:hi l c=some (.ok b c)) (hx:x.length<=1000000):Ev (dSl slS ta lo hi) l c (.str (DL.R5 x a b)):=by
 show dSl slS ta lo hi l c=_
 unfold dSl
 rw [Z9 h,Z9 ha,Z9 hb]
 simp [slS,hx,M.ret]
theorem fH (n z s y u k:Int) (w:List Nat) (ps:List (List Nat)) (o8 o9:Option D) (c:List Cell) (hw:w.length=8) (ha:w.all low=true) (y0:0<=y) (y1:y < u) (u1:u<=8) (hl2:ps.length < 1000000) (k0:0<=k) (hk:k < 8) (s0:0<=s):
  ∃ (q:List Nat) (p8 p9:Option D),K7 q=true/\C1 [some (.int n),some (.int z),some (.int s),some (.str w),some (.int y),some (.int u),some (.hnd c.length),some (.int k),o8,o9] (c++[.lst (ps.map .str)])=some (.ok (.nx [some (.int n),some (.int z),some (.int s),some (.str w),some (.int y),some (.int u),some (.hnd c.length),some (.int k),p8,p9]) (c++[.lst ((ps++[q]).map .str)])):=by
 obtain ⟨cc,hcc⟩:∃ cc,cc=c++[Cell.lst (ps.map .str)]:=⟨_,rfl⟩
 let st (a b:Option D):L:=[some (.int n),some (.int z),some (.int s),some (.str w),some (.int y),some (.int u),some (.hnd c.length),some (.int k),a,b]
 have g6:w.length<=1000000:=by omega
 have l1:Ev (d2 ixM (dc (.str mP)) (d2 X8 (d2 W3 (d2 Jt (dv 2) (dc (.int 7))) (d2 N5 (dc (.int 5)) (dv 7))) (dc (.int 26)))) (st o8 o9) cc (.str [97+((s / 7+5 * k) % 26).toNat]):=
  qbh (evM (K2 (gL (a:=s) rfl (by decide)) (C7 (a:=5) (b:=k) rfl rfl (.inl ⟨by decide,by decide⟩))) (by decide)) (by omega) (by omega)
 have app:∀ (te:ED) (q:List Nat) (a b:Option D),Ev te (st a b) cc (.str q)->G8 (mM .lst K9 (dv 6) (Q1 te Q9)) (st a b) cc=some (.ok (.nx (st a b)) (c++[.lst ((ps++[q]).map .str)])):=by
  intro te q a b h
  refine qg (x:=.non) ((Ue (to:=dv 6) (x:=.hnd c.length) (c1:=cc) rfl (by unfold tyM;simp [hcc]) (eva h evn)).trans ?_)
  simp [K9,yu,hcc,hl2]
 obtain ⟨L8,hL8⟩:∃ x,some (D.str [97+((s / 7+5 * k) % 26).toNat])=x:=⟨_,rfl⟩
 have e1:=J7 (i:=8) l1
 rw [← hcc]
 unfold C1
 have e1':Y0 8 (d2 ixM (dc (.str [97,98,99,100,101,102,103,104,105,106,107,108,109,110,111,112,113,114,115,116,117,118,119,120,121,122])) (d2 X8 (d2 W3 (d2 Jt (dv 2) (dc (.int 7))) (d2 N5 (dc (.int 5)) (dv 7))) (dc (.int 26)))) (st o8 o9) cc=some (.ok (.nx (st (some (.str [97+((s / 7+5 * k) % 26).toNat])) o9)) cc):=e1
 have tst:∀ (v:Int) a b,EvT (tOf (d2 (eqM false) (d2 X8 (dv 2) (dc (.int 3))) (dc (.int v)))) (st a b) cc (decide (s % 3=v)):=fun v a b=>
  I9 (ev2 (evM (a:=s) rfl (by decide)) (y:=.int v) rfl (by simp [eqM,V6,J6,eqD];exact Bool.eq_iff_iff.mpr (by simp)))
 by_cases z0:s % 3=0
 ·have h1:=gY w (b:=1+k) (by omega) (by omega)
  have q:=app _ (DL.R5 w none (some (1+k))) (some (.str [97+((s / 7+5 * k) % 26).toNat])) o9 (bT (ta:=dv 3) (x:=w) (lo:=D4) (a:=none) rfl rfl (Xw (K2 (ta:=dc (.int 1)) (tb:=dv 7) (a:=1) (b:=k) rfl rfl)) g6)
  refine ⟨DL.R5 w none (some (1+k)),some (.str [97+((s / 7+5 * k) % 26).toNat]),o9,Ui (by omega) (by omega) (Wx _ _ ha),?_⟩
  rw [Q6 e1']
  have t0:=tst 0 (some (.str [97+((s / 7+5 * k) % 26).toNat])) o9
  rw [decide_eq_true z0] at t0
  exact (wz t0).trans q
 ·have t0:=tst 0 (some (.str [97+((s / 7+5 * k) % 26).toNat])) o9
  rw [decide_eq_false z0] at t0
  by_cases z1:s % 3=1
  ·have t1:=tst 1 (some (.str [97+((s / 7+5 * k) % 26).toNat])) o9
   rw [decide_eq_true z1] at t1
   have c1:=gY w (b:=y) y0 (by omega)
   have c2:=qdh w (a:=y+1) (b:=u) (by omega) (by omega) (by omega)
   have q:=app _ (DL.R5 w none (some y)++[97+((s / 7+5 * k) % 26).toNat]++DL.R5 w (some (y+1)) (some u)) (some (.str [97+((s / 7+5 * k) % 26).toNat])) o9
    (JX (JX (bT (ta:=dv 3) (x:=w) (lo:=D4) (a:=none) rfl rfl (Xw (ta:=dv 4) (a:=y) rfl) g6) (tb:=dv 8) rfl (by simp;omega)) (bT (ta:=dv 3) (x:=w) rfl (Xw (K2 (ta:=dv 4) (tb:=dc (.int 1)) (a:=y) (b:=1) rfl rfl)) (Xw (ta:=dv 5) (a:=u) rfl) g6) (by simp only [List.length_append,List.length_singleton];omega))
   refine ⟨DL.R5 w none (some y)++[97+((s / 7+5 * k) % 26).toNat]++DL.R5 w (some (y+1)) (some u),some (.str [97+((s / 7+5 * k) % 26).toNat]),o9,Ui (by simp only [List.length_append,List.length_singleton];omega) (by simp only [List.length_append,List.length_singleton];omega) (by rw [List.all_append,List.all_append,Wx _ _ ha,Wx _ _ ha];simp [low];omega),?_⟩
   rw [Q6 e1']
   exact (K8 t0).trans ((wz t1).trans q)
  ·have t1:=tst 1 (some (.str [97+((s / 7+5 * k) % 26).toNat])) o9
   rw [decide_eq_false z1] at t1
   have kk:k * k<=8 * 8:=Int.mul_le_mul (by omega) (by omega) (by omega) (by omega)
   have kk0:0<=k * k:=Int.mul_nonneg (by omega) (by omega)
   obtain ⟨w2,hw2,ha2,ew2⟩:=Bz (s / 3+7919 * k * k) cc
   have e9:=J7 (i:=9) (evc (dds:=[]) (l:=st (some (.str [97+((s / 7+5 * k) % 26).toNat])) o9) (eva (K2 (gL (ta:=dv 2) (a:=s) rfl (m:=3) (by decide)) (C7 (C7 (ta:=dc (.int 7919)) (tb:=dv 7) (a:=7919) (b:=k) rfl rfl (.inl ⟨by decide,by decide⟩)) (tb:=dv 7) (b:=k) rfl (.inr (.inl ⟨by omega,by omega⟩)))) evn) ew2)
   have q:=app _ (DL.R5 w2 none (some (1+(s / 11+3 * k) % 8))) (some (.str [97+((s / 7+5 * k) % 26).toNat])) (some (.str w2))
    (bT (ta:=dv 9) (x:=w2) (lo:=D4) (a:=none) rfl rfl (Xw (K2 (ta:=dc (.int 1)) (a:=1) rfl (evM (K2 (gL (ta:=dv 2) (a:=s) rfl (m:=11) (by decide)) (C7 (ta:=dc (.int 3)) (tb:=dv 7) (a:=3) (b:=k) rfl rfl (.inl ⟨by decide,by decide⟩))) (m:=8) (by decide)))) (by omega))
   have c1:=gY w2 (b:=1+(s / 11+3 * k) % 8) (by omega) (by omega)
   refine ⟨DL.R5 w2 none (some (1+(s / 11+3 * k) % 8)),some (.str [97+((s / 7+5 * k) % 26).toNat]),some (.str w2),Ui (by omega) (by omega) (Wx _ _ ha2),?_⟩
   rw [Q6 e1']
   refine (K8 t0).trans ((K8 t1).trans ?_)
   rw [Q6 e9]
   exact q
theorem uJ (n z:Int) (c:List Cell) (h0:1<=z) (h1:z<=8):∃ ps:List (List Nat),ps.length=z.toNat/\(∀ p∈ps,K7 p=true)/\gN 2 Zi [.int n,.int z] c=some (.ok (.lst (ps.map .str)) c):=by
 have h:∃ d,Kp [.int n,.int z] d/\Wj xo yz [.int n,.int z] c d:=by
  obtain ⟨s,hs⟩:∃ s,(n % 1000000007+7) * 48271 % 1000000007=s:=⟨_,rfl⟩
  have s0:0<=s:=by omega
  obtain ⟨w,hw,ha,ew⟩:=Bz s c
  obtain ⟨y,hy⟩:∃ y,s / 3 % 8=y:=⟨_,rfl⟩
  have v0:0 < 8 - y:=by omega
  have v1:=Int.emod_nonneg (s / 24) (show 8 - y≠0 by omega)
  have v2:=Int.emod_lt_of_pos (s / 24) v0
  obtain ⟨u,hu⟩:∃ u,y+1+s / 24 % (8 - y)=u:=⟨_,rfl⟩
  let st (o:L):L:=[some (.int n),some (.int z),some (.int s),some (.str w),some (.int y),some (.int u),some (.hnd c.length)]++o
  obtain ⟨l',c',e,hI⟩:=my (g:=J5 7) (body:=C1) 0 z.toNat (fun k l c'=>∃ ps:List (List Nat),c'=c++[.lst (ps.map .str)]/\ps.length=k/\(∀ p∈ps,K7 p=true)/\∃ o7 o8 o9,l=st [o7,o8,o9])
   (fun k l c' hk ⟨ps,ec,hp,hq,o7,o8,o9,el⟩=>by
    subst ec el
    obtain ⟨q,p8,p9,hpq,e⟩:=fH n z s y u (0+(k:Nat)) w ps o8 o9 c hw ha (by omega) (by omega) (by omega) (by omega) (by omega) (by omega) s0
    exact ⟨_,rfl,_,_,.inl e,ps++[q],by simp,by simp [hp],(fun p hp'=>by
     rcases List.mem_append.mp hp' with h | h
     ·exact hq p h
     ·rw [List.mem_singleton.mp h];exact hpq),_,_,_,rfl⟩)
   (l:=st [none,none,none]) (c:=c++[.lst []]) ⟨[],rfl,rfl,(fun p hp=>by cases hp),_,_,_,rfl⟩
  obtain ⟨ps,ec,hp,hq,o7,o8,o9,el⟩:=hI
  subst ec el
  refine ⟨.lst (ps.map .str),⟨n,z,ps,rfl,rfl,hp,hq⟩,.lst c.length [.lst (ps.map .str)] ?_ (Nat.le_refl _) (by simp) (Xc _ _)⟩
  have s1:Z1 yz [.int n,.int z]=[some (.int n),some (.int z),none,none,none,none,none,none,none,none]:=rfl
  rw [s1]
  unfold xo
  rw [Q6 (l':=[some (.int n),some (.int z),some (.int s),none,none,none,none,none,none,none]) (c':=c) (J7 (i:=2) (by rw [← hs];exact evM (C7 (K2 (evM (a:=n) rfl (by decide)) (b:=7) rfl) (b:=48271) rfl (.inr (.inl ⟨by decide,by decide⟩))) (by decide)))]
  rw [Q6 (l':=[some (.int n),some (.int z),some (.int s),some (.str w),none,none,none,none,none,none]) (c':=c) (J7 (i:=3) (evc (dds:=[]) (eva (x:=.int s) rfl evn) ew))]
  rw [Q6 (l':=[some (.int n),some (.int z),some (.int s),some (.str w),some (.int y),none,none,none,none,none]) (c':=c) (J7 (i:=4) (by rw [← hy];exact evM (gL (a:=s) rfl (by decide)) (by decide)))]
  rw [Q6 (l':=[some (.int n),some (.int z),some (.int s),some (.str w),some (.int y),some (.int u),none,none,none,none]) (c':=c) (J7 (i:=5) (by rw [← hu];exact K2 (K2 (a:=y) (b:=1) rfl rfl) (ev2 (gL (a:=s) rfl (by decide)) (Vr (a:=8) (b:=y) rfl rfl) (gy (show mv (s / 24) (8 - y) from v0)))))]
  rw [Q6 (l':=st [none,none,none]) (c':=c++[.lst []]) (J7 (i:=6) (x:=.hnd c.length) (by simp [wc,Q9,M.bd,M.ret]))]
  have g1:(-1000000:Int)<=z:=by omega
  have g2:z<=1000000:=by omega
  have ef:B2 (iR1 (dv 1)) (J5 7) C1 (st [none,none,none]) (c++[.lst []])=some (.ok (.nx (st [o7,o8,o9])) (c++[.lst (ps.map .str)])):=by
   exact (js (gI (ta:=dv 1) (z:=z) rfl g1 g2)).trans e
  rw [Q6 ef]
  exact N3 rfl
 obtain ⟨d,⟨n',z',ps,e1,rfl,e2,e3⟩,e⟩:=zR rfl h
 cases e1
 exact ⟨ps,e2,e3,e⟩
theorem qR {to ti te:ED} {l:L} {c:List Cell} {o i v:D} {j:Nat} {kvs:List (DK×D)} {k:DK} (h1:Ev te l c v) (h2:Ev to l c o) (hc:V8 o c=some (j,kvs)) (h3:Ev ti l c i) (hk:D1 i=some k) (hl:kvs.length < 1000000):
  jq to ti te l c=some (.ok (.nx l) (c.set j (.dct (U6 kvs k v)))):=by
 unfold jq
 rw [Z9 h1,Z9 h2,Z9 h3]
 unfold ZA
 rw [hc,hk]
 simp only
 rw [if_pos hl]
theorem Xs {kvs:List (DK×D)} {k:DK} {v:D} (h:(J2 kvs k).isSome=true):(U6 kvs k v).length=kvs.length:=by
 unfold U6
 rw [if_pos h,List.length_map]
def qdp (ps:List (List Nat)) (kvs:List (DK×D)):Prop:=∀ p∈ps,∃ v,J2 kvs (.inr p)=some (.int v)/\0<=v/\v < 5 * 10 ^ 59
abbrev wg:List Str:=["_law_some","_law_cell","_law_highs_here","_law_start","_law_k","_law_steps"]
theorem qc:FnScope wg ["_law_some","_law_cell"] (Q5 S4):=scs
def O9:SD:=(Z4 (Y0 5 (d2 N5 (d2 W3 (d2 W3 (d2 N5 (dv 4) (dv 4)) (d2 N5 (dc (.int 3)) (dv 4))) (dc (.int 1))) (d2 W3 (d2 N5 (dc (.int 982451653)) (d2 Zd (dc (.int 10)) (dc (.int 46)))) (dc (.int 39)))))
  (Z4 (jq (dv 2) (d2 ixM (dv 0) (dv 4)) (d2 X8 (d2 N5 (d2 W3 (dv 3) (dv 4)) (dv 5)) (d2 N5 (dc (.int 5)) (d2 Zd (dc (.int 10)) (dc (.int 59))))))
  (sIf (tOf (d2 (eqM false) (d2 X8 (dv 1) (dc (.int 5))) (dc (.int 1)))) (jq (dv 2) (d2 ixM (dv 0) (dv 4)) (d2 X8 (d2 N5 (dv 4) (dv 4)) (dc (.int 3)))) X0)))
def fo:SD:=(Z4 (Y0 2 uc)
  (Z4 (Y0 3 (d2 X8 (dv 1) (d2 Zd (dc (.int 10)) (dc (.int 60)))))
  (Z4 (B2 (iR1 (d1 B3 (dv 0))) (J5 4) O9)
  (Y1 (dv 2)))))
abbrev mx:FD:=gW fo wg
theorem kD (n s k:Int) (ps:List (List Nat)) (kvs:List (DK×D)) (p:List Nat) (c:List Cell) (o5:Option D) (k0:0<=k) (hk:k < 24) (s0:0<=s) (s1:s < 10 ^ 60) (hp:atI (ps.map D.str) k=some (.str p)) (hl:kvs.length < 1000):
  ∃ v p5 kvs',(0<=v/\v < 5 * 10 ^ 59)/\(∀ q,J2 kvs' q=if q=.inr p then some (.int v) else J2 kvs q)/\kvs'.length<=kvs.length+1/\O9 [some (.lst (ps.map .str)),some (.int n),some (.hnd c.length),some (.int s),some (.int k),o5] (c++[.dct kvs])=some (.ok (.nx [some (.lst (ps.map .str)),some (.int n),some (.hnd c.length),some (.int s),some (.int k),p5]) (c++[.dct kvs'])):=by
 obtain ⟨F,hF⟩:∃ F:Int,F=10 ^ 46:=⟨_,rfl⟩
 obtain ⟨T,hT⟩:∃ T:Int,T=10 ^ 59:=⟨_,rfl⟩
 have F0:0 < F/\F < 10 ^ 50:=by rw [hF];decide
 have T0:0 < T:=by rw [hT];decide
 let st (a:Option D):L:=[some (.lst (ps.map .str)),some (.int n),some (.hnd c.length),some (.int s),some (.int k),a]
 have pw:∀ (m:Int) (l:L) (cc:List Cell) (R:Int),Jc 10 m->(R=10 ^ m.toNat)->Ev (d2 Zd (dc (.int 10)) (dc (.int m))) l cc (.int R):=fun m l cc R h e=>ev2 (x:=.int 10) (y:=.int m) rfl rfl ((gy h).trans (by rw [e]))
 have kk:k * k<=24 * 24:=Int.mul_le_mul (by omega) (by omega) k0 (by omega)
 have kk0:0<=k * k:=Int.mul_nonneg k0 k0
 obtain ⟨B,hB⟩:∃ B,(k * k+3 * k+1) * (982451653 * F+39)=B:=⟨_,rfl⟩
 have q1:∀ cc,Ev (d2 N5 (d2 W3 (d2 W3 (d2 N5 (dv 4) (dv 4)) (d2 N5 (dc (.int 3)) (dv 4))) (dc (.int 1))) (d2 W3 (d2 N5 (dc (.int 982451653)) (d2 Zd (dc (.int 10)) (dc (.int 46)))) (dc (.int 39)))) (st o5) cc (.int B):=fun cc=>by
  rw [← hB]
  exact C7 (K2 (K2 (C7 (a:=k) (b:=k) rfl rfl (.inl ⟨by omega,by omega⟩)) (C7 (a:=3) (b:=k) rfl rfl (.inl ⟨by decide,by decide⟩))) (b:=1) rfl) (K2 (C7 (a:=982451653) rfl (pw 46 _ _ F (by decide) hF) (.inl ⟨by decide,by decide⟩)) (b:=39) rfl) (.inl ⟨by omega,by omega⟩)
 have B0:-(10 ^ 200) < B/\B < 10 ^ 200:=by
  have b1:0<=B:=by rw [← hB];exact Int.mul_nonneg (by omega) (by omega)
  have b2:B<=1000 * (982451653 * 10 ^ 50+39):=by rw [← hB];exact Int.mul_le_mul (by omega) (by omega) (by omega) (by omega)
  have:(1000 * (982451653 * 10 ^ 50+39):Int) < 10 ^ 200:=by decide
  omega
 have A0:-(10 ^ 200) < s+k/\s+k < 10 ^ 200:=by
  have:(10 ^ 60+24:Int) < 10 ^ 200:=by decide
  omega
 have q2:∀ cc,Ev (d2 X8 (d2 N5 (d2 W3 (dv 3) (dv 4)) (dv 5)) (d2 N5 (dc (.int 5)) (d2 Zd (dc (.int 10)) (dc (.int 59))))) (st (some (.int B))) cc (.int ((s+k) * B % (5 * T))):=fun cc=>
  ev2 (C7 (K2 (a:=s) (b:=k) rfl rfl) (b:=B) rfl (.inr (.inr ⟨A0,B0⟩))) (C7 (a:=5) rfl (pw 59 _ _ T (by decide) hT) (.inl ⟨by decide,by decide⟩)) (gy (show mv _ (5 * T) by show 0 < 5 * T;omega))
 have q3:∀ cc,Ev (d2 ixM (dv 0) (dv 4)) (st (some (.int B))) cc (.str p):=fun cc=>ev2 (x:=.lst (ps.map .str)) (y:=.int k) rfl rfl (by simp only [ixM,hp,oM,M.ret])
 have V0:=Int.emod_nonneg ((s+k) * B) (show 5 * T≠0 by omega)
 have V1:=Int.emod_lt_of_pos ((s+k) * B) (show 0 < 5 * T by omega)
 have cd:∀ x,V8 (.hnd c.length) (c++[.dct x])=some (c.length,x):=fun x=>by simp [V8]
 have e1:=qR (to:=dv 2) (o:=.hnd c.length) (q2 (c++[.dct kvs])) rfl (cd kvs) (q3 _) (k:=.inr p) rfl (by omega)
 rw [List.set_append_right _ _ (Nat.le_refl _)] at e1
 simp only [Nat.sub_self,List.set_cons_zero] at e1
 have l1:=Yn kvs (.inr p) (.int ((s+k) * B % (5 * T)))
 unfold O9
 have tst:∀ cc,EvT (tOf (d2 (eqM false) (d2 X8 (dv 1) (dc (.int 5))) (dc (.int 1)))) (st (some (.int B))) cc (decide (n % 5=1)):=fun cc=>
  I9 (ev2 (evM (a:=n) rfl (by decide)) (y:=.int 1) rfl (by simp [eqM,V6,J6,eqD];exact Bool.eq_iff_iff.mpr (by simp)))
 by_cases z:n % 5=1
 ·have e2:=qR (to:=dv 2) (o:=.hnd c.length) (evM (C7 (ta:=dv 4) (tb:=dv 4) (l:=st (some (.int B))) (c:=c++[.dct (U6 kvs (.inr p) (.int ((s+k) * B % (5 * T))))]) (a:=k) (b:=k) rfl rfl (.inl ⟨by omega,by omega⟩)) (m:=3) (by decide)) rfl (cd _) (q3 _) (k:=.inr p) rfl (by omega)
  rw [List.set_append_right _ _ (Nat.le_refl _)] at e2
  simp only [Nat.sub_self,List.set_cons_zero] at e2
  refine ⟨k * k % 3,some (.int B),U6 (U6 kvs (.inr p) (.int ((s+k) * B % (5 * T)))) (.inr p) (.int (k * k % 3)),⟨by omega,by omega⟩,fun q=>?_,?_,?_⟩
  ·rw [N2]
   split
   ·rfl
   ·rw [N2];rename_i h;rw [if_neg h]
  ·have l2:(U6 (U6 kvs (.inr p) (.int ((s+k) * B % (5 * T)))) (.inr p) (.int (k * k % 3))).length=(U6 kvs (.inr p) (.int ((s+k) * B % (5 * T)))).length:=by
    have hs:(J2 (U6 kvs (.inr p) (.int ((s+k) * B % (5 * T)))) (.inr p)).isSome=true:=by rw [N2,if_pos rfl];rfl
    exact Xs hs
   omega
  ·have t1:=tst (c++[.dct (U6 kvs (.inr p) (.int ((s+k) * B % (5 * T))))])
   rw [decide_eq_true z] at t1
   change Z4 _ _ (st o5) (c++[.dct kvs])=_
   rw [Q6 (l':=st (some (.int B))) (c':=c++[Cell.dct kvs]) (J7 (i:=5) (q1 _)),Q6 e1]
   exact (wz t1).trans e2
 ·refine ⟨(s+k) * B % (5 * T),some (.int B),U6 kvs (.inr p) (.int ((s+k) * B % (5 * T))),⟨V0,by rw [hT] at V1 ⊢;exact V1⟩,fun q=>N2,l1,?_⟩
  have t1:=tst (c++[.dct (U6 kvs (.inr p) (.int ((s+k) * B % (5 * T))))])
  rw [decide_eq_false z] at t1
  change Z4 _ _ (st o5) (c++[.dct kvs])=_
  rw [Q6 (l':=st (some (.int B))) (c':=c++[Cell.dct kvs]) (J7 (i:=5) (q1 _)),Q6 e1]
  exact (K8 t1).trans rfl
theorem xD (ps:List (List Nat)) (n:Int) (c:List Cell) (hp:ps.length<=24):∃ kvs,qdp ps kvs/\gN 2 mx [.lst (ps.map .str),.int n] c=some (.ok (.hnd c.length) (c++[.dct kvs])):=by
 obtain ⟨T,hT⟩:∃ T:Int,T=10 ^ 60:=⟨_,rfl⟩
 have T0:0 < T:=by rw [hT];decide
 have S0:=Int.emod_nonneg n (show T≠0 by omega)
 have S1:=Int.emod_lt_of_pos n T0
 obtain ⟨s,hs⟩:∃ s,n % T=s:=⟨_,rfl⟩
 rw [hs] at S0 S1
 let st (o:L):L:=[some (.lst (ps.map .str)),some (.int n),some (.hnd c.length),some (.int s)]++o
 obtain ⟨l',c',e,hI⟩:=my (g:=J5 4) (body:=O9) 0 ps.length (fun k l c'=>∃ (kvs:List (DK×D)) (o4 o5:Option D),l=st [o4,o5]/\c'=c++[.dct kvs]/\kvs.length<=k/\(∀ i p,i < k->ps[i]?=some p->∃ v,J2 kvs (.inr p)=some (.int v)/\0<=v/\v < 5 * 10 ^ 59))
  (fun k l c' hk ⟨kvs,o4,o5,el,ec,hl,hv⟩=>by
   subst el ec
   have hat:atI (ps.map D.str) (0+(k:Nat))=some (.str ps[k]):=by
    rw [zV (by omega) (by simp;omega)]
    have:(0+(k:Int)).toNat=k:=by omega
    rw [this,List.getElem?_map,List.getElem?_eq_getElem hk]
    rfl
   obtain ⟨v,p5,kvs',hv2,hp2,hl2,e⟩:=kD n s (0+(k:Nat)) ps kvs ps[k] c o5 (by omega) (by omega) S0 (by rw [← hT];exact S1) hat (by omega)
   refine ⟨_,rfl,_,_,.inl e,kvs',_,_,rfl,rfl,by omega,fun i p hi hp'=>?_⟩
   rw [hp2]
   by_cases z:(Sum.inr p:DK)=.inr ps[k]
   ·rw [if_pos z];exact ⟨v,rfl,hv2⟩
   ·rw [if_neg z]
    by_cases zi:i=k
    ·subst zi
     rw [List.getElem?_eq_getElem hk] at hp'
     cases hp'
     exact absurd rfl z
    ·exact hv i p (by omega) hp')
  (l:=st [none,none]) (c:=c++[.dct []]) ⟨[],_,_,rfl,rfl,Nat.le_refl _,fun i p hi=>absurd hi (Nat.not_lt_zero _)⟩
 obtain ⟨kvs,o4,o5,el,ec,hl,hv⟩:=hI
 subst el ec
 refine ⟨kvs,fun p hp'=>?_,Kf rfl ?_⟩
 ·obtain ⟨i,hi,ei⟩:=List.mem_iff_getElem.mp hp'
  exact hv i p hi (by rw [List.getElem?_eq_getElem hi,ei])
 ·have s1:Z1 wg [.lst (ps.map .str),.int n]=[some (.lst (ps.map .str)),some (.int n),none,none,none,none]:=rfl
  rw [s1]
  unfold fo
  rw [Q6 (l':=[some (.lst (ps.map .str)),some (.int n),some (.hnd c.length),none,none,none]) (c':=c++[.dct []]) (by simp [Y0,M.bd,M.ret,uc])]
  rw [Q6 (l':=st [none,none]) (c':=c++[.dct []]) (J7 (i:=3) (by rw [← hs];exact ev2 (x:=.int n) rfl (ev2 (x:=.int 10) (y:=.int 60) rfl rfl ((gy (show Jc 10 60 by decide)).trans (by rw [hT];rfl))) (gy (show mv n T from T0))))]
  rw [Q6 (l':=st [o4,o5]) (c':=c++[.dct kvs]) (by
   have g1:(-1000000:Int)<=(ps.length:Int):=by omega
   have g2:(ps.length:Int)<=1000000:=by omega
   exact (js (gI (ta:=d1 B3 (dv 0)) (z:=ps.length) (c1:=c++[Cell.dct []]) (by simp [st,d1,dv,B3,M.bd,M.ret]) g1 g2)).trans e)]
  exact N3 rfl
abbrev ql:List Str:=["_law_some","_law_highs_here","_law_cell","_law_k","_law_number","_law_one","_law_other","_law_way","_law_rise_here"]
theorem U3:FnScope ql ["_law_some","_law_highs_here","_law_cell","_law_k"] (Q5 G7):=scs
def vz:SD:=(Z4 (Y0 4 (d2 W3 (d2 X8 (d2 W3 (dv 2) (dv 3)) (dc (.int 2147483629))) (dc (.int 1))))
  (Z4 (Y0 5 (d2 ixM (dv 0) (d2 X8 (d2 X8 (d2 N5 (dv 4) (dc (.int 48271))) (dc (.int 1000003))) (d1 B3 (dv 0)))))
  (Z4 (Y0 6 (d2 ixM (dv 0) (d2 X8 (d2 X8 (d2 N5 (dv 4) (dc (.int 69621))) (dc (.int 999983))) (d1 B3 (dv 0)))))
  (Z4 (Y0 7 (d2 X8 (d2 X8 (d2 N5 (dv 4) (dc (.int 40692))) (dc (.int 999979))) (dc (.int 6))))
  (Z4 (Y0 8 (d2 fy (d2 U9 (dv 1) (dv 6)) (d2 U9 (dv 1) (dv 5))))
  (Z4 (sIf (tOf (d2 (eqM false) (dv 7) (dc (.int 4)))) (Y0 8 (d2 fy (d2 W3 (dv 8) (dc (.int 1))) (d2 N5 (dc (.int 2)) (d2 X8 (dv 4) (dc (.int 2)))))) X0)
  (Z4 (sIf (tOf (d2 (eqM false) (dv 7) (dc (.int 5)))) (Y0 8 (d2 fy (d2 X8 (dv 2) (d2 fy (d2 N5 (dc (.int 2)) (d2 Zd (dc (.int 10)) (dc (.int 60)))) (dc (.int 1)))) (d2 fy (d2 Zd (dc (.int 10)) (dc (.int 60))) (dc (.int 1))))) X0)
  (Y1 (vj (Q1 (dv 5) (Q1 (dv 6) (Q1 (dv 8) Q9))))))))))))
abbrev qe:FD:=gC vz ql
theorem qey {ta tb:ED} {l:L} {c:List Cell} {ps:List (List Nat)} {i:Int} (h1:Ev ta l c (.lst (ps.map .str))) (h2:Ev tb l c (.int i)) (h0:0<=i) (hi:i < ps.length):∃ p∈ps,Ev (d2 ixM ta tb) l c (.str p):=by
 obtain ⟨x,hx,e⟩:=uf (xs:=ps.map D.str) h0 (by simpa using hi)
 obtain ⟨p,hp,rfl⟩:=List.mem_map.mp hx
 exact ⟨p,hp,ev2 h1 h2 (by simp only [ixM,e,oM,M.ret])⟩
theorem Um {ta tb:ED} {l:L} {c:List Cell} {o i v:D} {j:Nat} {kvs:List (DK×D)} {k:DK} (h1:Ev ta l c o) (hc:V8 o c=some (j,kvs)) (h2:Ev tb l c i) (hk:D1 i=some k) (hv:J2 kvs k=some v):Ev (d2 U9 ta tb) l c v:=
 ev2 h1 h2 (by unfold U9;rw [hc,hk];simp only [hv])
theorem bS {ta tb:ED} {l:L} {c:List Cell} {a b:Int} (h1:Ev ta l c (.int a)) (h2:Ev tb l c (.int b)):EvT (tOf (d2 (eqM false) ta tb)) l c (decide (a=b)):=
 I9 (ev2 h1 h2 (by simp [eqM,V6,J6,eqD];exact Bool.eq_iff_iff.mpr (by simp)))
theorem Gd (ps:List (List Nat)) (kvs:List (DK×D)) (c:List Cell) (j:Nat) (n k:Int) (hj:c[j]?=some (.dct kvs)) (h0:0 < ps.length) (hH:qdp ps kvs):
  ∃ p q r,p∈ps/\q∈ps/\-(10 ^ 60) < r/\r < 10 ^ 60/\gN 4 qe [.lst (ps.map .str),.hnd j,.int n,.int k] c=some (.ok (.tup [.str p,.str q,.int r]) c):=by
 obtain ⟨T,hT⟩:∃ T:Int,T=10 ^ 60:=⟨_,rfl⟩
 have T0:10 < T:=by rw [hT];decide
 have T5:(5 * 10 ^ 59:Int) * 2=T:=by rw [hT];decide
 obtain ⟨H5,h5⟩:∃ H5:Int,H5=5 * 10 ^ 59:=⟨_,rfl⟩
 rw [← h5] at T5
 obtain ⟨m,hm⟩:∃ m,(n+k) % 2147483629+1=m:=⟨_,rfl⟩
 have hL:0 < (ps.length:Int):=by omega
 let st (o:L):L:=[some (.lst (ps.map .str)),some (.hnd j),some (.int n),some (.int k)]++o
 have q1:Ev (d2 W3 (d2 X8 (d2 W3 (dv 2) (dv 3)) (dc (.int 2147483629))) (dc (.int 1))) (st [none,none,none,none,none]) c (.int m):=by
  rw [← hm];exact K2 (evM (K2 (a:=n) (b:=k) rfl rfl) (by decide)) (b:=1) rfl
 have len:∀ o,Ev (d1 B3 (dv 0)) (st o) c (.int ps.length):=fun o=>ev1 (x:=.lst (ps.map .str)) rfl (by simp [B3,M.ret])
 have ix:∀ (o:L) (a b:Int),(st o)[4]?=some (some (.int m))->0 < b->-(2 ^ 64) < a->a < 2 ^ 64->∃ p∈ps,Ev (d2 ixM (dv 0) (d2 X8 (d2 X8 (d2 N5 (dv 4) (dc (.int a))) (dc (.int b))) (d1 B3 (dv 0)))) (st o) c (.str p):=by
  intro o a b ho hb a0 a1
  have e4:Ev (dv 4) (st o) c (.int m):=by show dv 4 (st o) c=_;unfold dv;rw [ho];rfl
  exact qey (ta:=dv 0) rfl (ev2 (evM (C7 e4 (b:=a) rfl (.inr (.inl ⟨a0,a1⟩))) hb) (len o) (gy (show mv _ (ps.length:Int) from hL))) (Int.emod_nonneg _ (by omega)) (Int.emod_lt_of_pos _ hL)
 obtain ⟨p,hp,q2⟩:=ix [some (.int m),none,none,none,none] 48271 1000003 rfl (by decide) (by decide) (by decide)
 obtain ⟨q,hq,q3⟩:=ix [some (.int m),some (.str p),none,none,none] 69621 999983 rfl (by decide) (by decide) (by decide)
 have q4:Ev (d2 X8 (d2 X8 (d2 N5 (dv 4) (dc (.int 40692))) (dc (.int 999979))) (dc (.int 6))) (st [some (.int m),some (.str p),some (.str q),none,none]) c (.int (m * 40692 % 999979 % 6)):=
  evM (evM (C7 (a:=m) (b:=40692) rfl rfl (.inr (.inl ⟨by decide,by decide⟩))) (by decide)) (by decide)
 obtain ⟨y,hy⟩:∃ y,m * 40692 % 999979 % 6=y:=⟨_,rfl⟩
 rw [hy] at q4
 obtain ⟨vp,ep,p0,p1⟩:=hH p hp
 obtain ⟨vq,eq,r0,r1⟩:=hH q hq
 rw [← h5] at p1 r1
 have cd:V8 (.hnd j) c=some (j,kvs):=by simp [V8,hj]
 have q5:Ev (d2 fy (d2 U9 (dv 1) (dv 6)) (d2 U9 (dv 1) (dv 5))) (st [some (.int m),some (.str p),some (.str q),some (.int y),none]) c (.int (vq - vp)):=
  Vr (Um (ta:=dv 1) (o:=.hnd j) rfl cd (tb:=dv 6) (i:=.str q) rfl (k:=.inr q) rfl eq) (Um (ta:=dv 1) (o:=.hnd j) rfl cd (tb:=dv 5) (i:=.str p) rfl (k:=.inr p) rfl ep)
 have fin:∀ r0 r:Int,sIf (tOf (d2 (eqM false) (dv 7) (dc (.int 4)))) (Y0 8 (d2 fy (d2 W3 (dv 8) (dc (.int 1))) (d2 N5 (dc (.int 2)) (d2 X8 (dv 4) (dc (.int 2)))))) X0 (st [some (.int m),some (.str p),some (.str q),some (.int y),some (.int (vq - vp))]) c=some (.ok (.nx (st [some (.int m),some (.str p),some (.str q),some (.int y),some (.int r0)])) c)->
   sIf (tOf (d2 (eqM false) (dv 7) (dc (.int 5)))) (Y0 8 (d2 fy (d2 X8 (dv 2) (d2 fy (d2 N5 (dc (.int 2)) (d2 Zd (dc (.int 10)) (dc (.int 60)))) (dc (.int 1)))) (d2 fy (d2 Zd (dc (.int 10)) (dc (.int 60))) (dc (.int 1))))) X0 (st [some (.int m),some (.str p),some (.str q),some (.int y),some (.int r0)]) c=some (.ok (.nx (st [some (.int m),some (.str p),some (.str q),some (.int y),some (.int r)])) c)->
   gN 4 qe [.lst (ps.map .str),.hnd j,.int n,.int k] c=some (.ok (.tup [.str p,.str q,.int r]) c):=by
  intro r0 r h1 h2
  refine D9 rfl (c':=c) ?_ (by simp [D.bel,D.bels]) (R6.refl _) List.take_length
  have s1:Z1 ql [.lst (ps.map .str),.hnd j,.int n,.int k]=st [none,none,none,none,none]:=rfl
  rw [s1]
  unfold vz
  rw [Q6 (l':=st [some (.int m),none,none,none,none]) (c':=c) (J7 (i:=4) q1)]
  rw [Q6 (l':=st [some (.int m),some (.str p),none,none,none]) (c':=c) (J7 (i:=5) q2)]
  rw [Q6 (l':=st [some (.int m),some (.str p),some (.str q),none,none]) (c':=c) (J7 (i:=6) q3)]
  rw [Q6 (l':=st [some (.int m),some (.str p),some (.str q),some (.int y),none]) (c':=c) (J7 (i:=7) q4)]
  rw [Q6 (l':=st [some (.int m),some (.str p),some (.str q),some (.int y),some (.int (vq - vp))]) (c':=c) (J7 (i:=8) q5)]
  rw [Q6 h1,Q6 h2]
  exact N3 (evt (eva (x:=.str p) rfl (eva (x:=.str q) rfl (eva (x:=.int r) rfl evn))))
 have t4:∀ a,EvT (tOf (d2 (eqM false) (dv 7) (dc (.int 4)))) (st [some (.int m),some (.str p),some (.str q),some (.int y),a]) c (decide (y=4)):=fun a=>bS (a:=y) (b:=4) rfl rfl
 have t5:∀ a,EvT (tOf (d2 (eqM false) (dv 7) (dc (.int 5)))) (st [some (.int m),some (.str p),some (.str q),some (.int y),a]) c (decide (y=5)):=fun a=>bS (a:=y) (b:=5) rfl rfl
 have pw:∀ o,Ev (d2 Zd (dc (.int 10)) (dc (.int 60))) (st o) c (.int T):=fun o=>ev2 (x:=.int 10) (y:=.int 60) rfl rfl ((gy (show Jc 10 60 by decide)).trans (by rw [hT];rfl))
 rw [← hT]
 by_cases z4:y=4
 ·refine ⟨p,q,vq - vp+1 - 2 * (m % 2),hp,hq,by omega,by omega,fin (vq - vp+1 - 2 * (m % 2)) _ ?_ ?_⟩
  ·have t:=t4 (some (.int (vq - vp)))
   rw [decide_eq_true z4] at t
   exact (wz t).trans (J7 (i:=8) (Vr (K2 (a:=vq - vp) (b:=1) rfl rfl) (C7 (a:=2) rfl (evM (a:=m) rfl (by decide)) (.inl ⟨by decide,by decide⟩))))
  ·have t:=t5 (some (.int (vq - vp+1 - 2 * (m % 2))))
   rw [decide_eq_false (by omega)] at t
   exact (K8 t).trans rfl
 ·have ta:=t4 (some (.int (vq - vp)))
  rw [decide_eq_false z4] at ta
  by_cases z5:y=5
  ·have M0:0 < 2 * T - 1:=by omega
   have V0:=Int.emod_nonneg n (show 2 * T - 1≠0 by omega)
   have V1:=Int.emod_lt_of_pos n M0
   refine ⟨p,q,n % (2 * T - 1) - (T - 1),hp,hq,by omega,by omega,fin (vq - vp) _ ((K8 ta).trans rfl) ?_⟩
   have t:=t5 (some (.int (vq - vp)))
   rw [decide_eq_true z5] at t
   exact (wz t).trans (J7 (i:=8) (Vr (ev2 (x:=.int n) rfl (Vr (C7 (a:=2) rfl (pw _) (.inl ⟨by decide,by decide⟩)) (b:=1) rfl) (gy (show mv n (2 * T - 1) from M0))) (Vr (pw _) (b:=1) rfl)))
  ·refine ⟨p,q,vq - vp,hp,hq,by omega,by omega,fin (vq - vp) _ ((K8 ta).trans rfl) ?_⟩
   have t:=t5 (some (.int (vq - vp)))
   rw [decide_eq_false z5] at t
   exact (K8 t).trans rfl
abbrev V4 (l:List Nat) (h:Int):D:=.tup [.str l,.int h]
structure Tops (hh:List Nat->Int) (rows:List D) (kvs:List (DK×D)):Prop where
 ty:∀ k d,J2 kvs k=some d->∃ p l h,k=.inr p/\d=V4 l h
 key:∀ n p q r,Q8 n p q r∈rows->(J2 kvs (.inr p)).isSome=true/\(J2 kvs (.inr q)).isSome=true
 lab:∀ p l h,J2 kvs (.inr p)=some (V4 l h)->(J2 kvs (.inr l)).isSome=true/\Reach rows p l
 same:∀ p l h q l' h',J2 kvs (.inr p)=some (V4 l h)->J2 kvs (.inr q)=some (V4 l' h')->Reach rows p q->l=l'/\h' - h=hh q - hh p
 nd:(kvs.map (·.1)).Nodup
theorem Tops.nil (hh:List Nat->Int):Tops hh [] []:=⟨(fun k d h=>by cases h),(fun n p q r h=>by cases h),(fun p l h e=>by cases e),(fun p l h q l' h' e=>by cases e),by simp⟩
theorem Tops.lone {hh:List Nat->Int} {rows:List D} {kvs:List (DK×D)} (T:Tops hh rows kvs) {p b:List Nat} (hn:J2 kvs (.inr p)=none) (g:Reach rows p b):p=b:=by
 induction g with
 | refl=>rfl
 | fwd _ e ih=>
  obtain ⟨n,r,e⟩:=e
  have:=(T.key n _ _ r e).1
  rw [← ih,hn] at this;cases this
 | bwd _ e ih=>
  obtain ⟨n,r,e⟩:=e
  have:=(T.key n _ _ r e).2
  rw [← ih,hn] at this;cases this
theorem Tops.at {hh:List Nat->Int} {rows:List D} {kvs:List (DK×D)} (T:Tops hh rows kvs) {p:List Nat} (h:(J2 kvs (.inr p)).isSome=true):∃ l h,J2 kvs (.inr p)=some (V4 l h):=by
 obtain ⟨d,e⟩:=Option.isSome_iff_exists.mp h
 obtain ⟨_,l,h,_,rfl⟩:=T.ty _ _ e
 exact ⟨l,h,e⟩
theorem Tops.add {hh:List Nat->Int} {rows:List D} {kvs:List (DK×D)} (T:Tops hh rows kvs) {p:List Nat} (hn:J2 kvs (.inr p)=none):Tops hh rows (U6 kvs (.inr p) (V4 p 0)):=by
 have vp:∀ a,J2 (U6 kvs (.inr p) (V4 p 0)) (.inr a)=if a=p then some (V4 p 0) else J2 kvs (.inr a):=fun a=>by
  rw [N2]
  by_cases z:a=p
  ·rw [if_pos (by rw [z]),if_pos z]
  ·rw [if_neg (fun e=>z (Sum.inr.inj e)),if_neg z]
 have up:∀ a,(J2 kvs (.inr a)).isSome=true->(J2 (U6 kvs (.inr p) (V4 p 0)) (.inr a)).isSome=true:=fun a h=>by
  rw [vp]
  split
  ·rfl
  ·exact h
 refine ⟨fun k d h=>?_,fun n u v r h=>⟨up _ (T.key n u v r h).1,up _ (T.key n u v r h).2⟩,fun a l h e=>?_,fun a l h b l' h' ea eb g=>?_,uv T.nd⟩
 ·rw [N2] at h
  split at h
  ·cases h;exact ⟨p,p,0,by assumption,rfl⟩
  ·exact T.ty k d h
 ·rw [vp] at e
  by_cases z:a=p
  ·rw [if_pos z] at e
   cases e
   exact ⟨by rw [vp,if_pos rfl];rfl,by rw [z];exact .refl⟩
  ·rw [if_neg z] at e
   obtain ⟨h1,h2⟩:=T.lab a l h e
   exact ⟨up _ h1,h2⟩
 ·rw [vp] at ea eb
  by_cases za:a=p
  ·have eab:p=b:=T.lone hn (by rw [← za];exact g)
   rw [if_pos za] at ea
   rw [if_pos eab.symm] at eb
   cases ea;cases eb
   exact ⟨rfl,by rw [za,← eab];omega⟩
  ·rw [if_neg za] at ea
   by_cases zb:b=p
   ·exact absurd (T.lone hn (by rw [← zb];exact M8 g)).symm za
   ·rw [if_neg zb] at eb
    exact T.same a l h b l' h' ea eb g
theorem Tops.join {hh:List Nat->Int} {rows:List D} {kvs kvs':List (DK×D)} (T:Tops hh rows kvs) {n r:Int} {p q l1 l2:List Nat} {h1 h2:Int} (ep:J2 kvs (.inr p)=some (V4 l1 h1)) (eq:J2 kvs (.inr q)=some (V4 l2 h2)) (hne:l1≠l2) (hr:r=hh q - hh p)
  (hv:∀ a,J2 kvs' (.inr a)=match J2 kvs (.inr a) with | some (.tup [.str l,.int h])=>if l=l2 then some (V4 l1 (h+(h1+r - h2))) else some (V4 l h) | _=>none) (ht:∀ k d,J2 kvs' k=some d->∃ a,k=.inr a) (hnd:(kvs'.map (·.1)).Nodup):Tops hh (rows++[Q8 n p q r]) kvs':=by
 have inv:∀ a l h,J2 kvs' (.inr a)=some (V4 l h)->∃ lo ho,J2 kvs (.inr a)=some (V4 lo ho)/\((lo=l2/\l=l1/\h=ho+(h1+r - h2))\/(lo≠l2/\l=lo/\h=ho)):=by
  intro a l h e
  rw [hv] at e
  cases z:J2 kvs (.inr a) with
  | none=>rw [z] at e;cases e
  | some d=>
   obtain ⟨_,lo,ho,_,rfl⟩:=T.ty _ _ z
   rw [z] at e
   simp only at e
   refine ⟨lo,ho,rfl,?_⟩
   split at e
   ·rename_i w
    cases e
    exact .inl ⟨w,rfl,rfl⟩
   ·rename_i w
    cases e
    exact .inr ⟨w,rfl,rfl⟩
 have up:∀ a,(J2 kvs (.inr a)).isSome=true->(J2 kvs' (.inr a)).isSome=true:=fun a h=>by
  obtain ⟨lo,ho,e⟩:=T.at h
  rw [hv,e]
  simp only
  split <;> rfl
 have mono:∀ {a b},Reach rows a b->Reach (rows++[Q8 n p q r]) a b:=fun g=>xv (fun x hx=>List.mem_append_left _ hx) g
 refine ⟨fun k d e=>?_,fun m u v s h=>?_,fun a l h e=>?_,fun a l h b l' h' ea eb g=>?_,hnd⟩
 ·obtain ⟨a,rfl⟩:=ht k d e
  have e':=e
  rw [hv] at e
  cases z:J2 kvs (.inr a) with
  | none=>rw [z] at e;cases e
  | some d0=>
   obtain ⟨_,lo,ho,_,rfl⟩:=T.ty _ _ z
   rw [z] at e
   simp only at e
   split at e
   ·cases e;exact ⟨a,_,_,rfl,rfl⟩
   ·cases e;exact ⟨a,_,_,rfl,rfl⟩
 ·rcases List.mem_append.mp h with h | h
  ·exact ⟨up _ (T.key m u v s h).1,up _ (T.key m u v s h).2⟩
  ·simp only [List.mem_singleton,D.tup.injEq,List.cons.injEq,D.int.injEq,D.str.injEq,and_true] at h
   obtain ⟨_,rfl,rfl,_⟩:=h
   exact ⟨up _ (by rw [ep];rfl),up _ (by rw [eq];rfl)⟩
 ·obtain ⟨lo,ho,e0,w⟩:=inv a l h e
  obtain ⟨k1,k2⟩:=T.lab a lo ho e0
  obtain ⟨p1,p2⟩:=T.lab p l1 h1 ep
  obtain ⟨q1,q2⟩:=T.lab q l2 h2 eq
  rcases w with ⟨rfl,rfl,rfl⟩ | ⟨_,rfl,rfl⟩
  ·exact ⟨up _ p1,Yl.mpr (.inr (.inr ⟨W0 k2 (M8 q2),p2⟩))⟩
  ·exact ⟨up _ k1,mono k2⟩
 ·obtain ⟨la,ha,ea0,wa⟩:=inv a l h ea
  obtain ⟨lb,hb,eb0,wb⟩:=inv b l' h' eb
  rcases Yl.mp g with g | ⟨g1,g2⟩ | ⟨g1,g2⟩
  ·obtain ⟨e1,e2⟩:=T.same a la ha b lb hb ea0 eb0 g
   subst e1
   rcases wa with ⟨w1,rfl,rfl⟩ | ⟨w1,rfl,rfl⟩
   ·rcases wb with ⟨_,rfl,rfl⟩ | ⟨w2,_,_⟩
    ·exact ⟨rfl,by omega⟩
    ·exact absurd w1 w2
   ·rcases wb with ⟨w2,_,_⟩ | ⟨_,rfl,rfl⟩
    ·exact absurd w2 w1
    ·exact ⟨rfl,e2⟩
  ·obtain ⟨e1,e2⟩:=T.same a la ha p l1 h1 ea0 ep g1
   obtain ⟨e3,e4⟩:=T.same q l2 h2 b lb hb eq eb0 g2
   subst e1 e3
   rcases wa with ⟨w1,_,_⟩ | ⟨_,rfl,rfl⟩
   ·exact absurd w1 hne
   ·rcases wb with ⟨_,rfl,rfl⟩ | ⟨w2,_,_⟩
    ·exact ⟨rfl,by omega⟩
    ·exact absurd rfl w2
  ·obtain ⟨e1,e2⟩:=T.same a la ha q l2 h2 ea0 eq g1
   obtain ⟨e3,e4⟩:=T.same p l1 h1 b lb hb ep eb0 g2
   subst e1 e3
   rcases wb with ⟨w1,_,_⟩ | ⟨_,rfl,rfl⟩
   ·exact absurd w1 hne
   ·rcases wa with ⟨_,rfl,rfl⟩ | ⟨w2,_,_⟩
    ·exact ⟨rfl,by omega⟩
    ·exact absurd rfl w2
theorem Tops.stay {hh:List Nat->Int} {rows:List D} {kvs:List (DK×D)} (T:Tops hh rows kvs) {n r:Int} {p q l:List Nat} {h1 h2:Int} (ep:J2 kvs (.inr p)=some (V4 l h1)) (eq:J2 kvs (.inr q)=some (V4 l h2)):Tops hh (rows++[Q8 n p q r]) kvs:=by
 have pq:Reach rows p q:=W0 (T.lab p l h1 ep).2 (M8 (T.lab q l h2 eq).2)
 have back:∀ {a b},Reach (rows++[Q8 n p q r]) a b->Reach rows a b:=fun g=>by
  rcases Yl.mp g with g | ⟨g1,g2⟩ | ⟨g1,g2⟩
  ·exact g
  ·exact W0 g1 (W0 pq g2)
  ·exact W0 g1 (W0 (M8 pq) g2)
 refine ⟨T.ty,fun m u v s h=>?_,fun a l h e=>⟨(T.lab a l h e).1,xv (fun x hx=>List.mem_append_left _ hx) (T.lab a l h e).2⟩,fun a l h b l' h' ea eb g=>T.same a l h b l' h' ea eb (back g),T.nd⟩
 rcases List.mem_append.mp h with h | h
 ·exact T.key m u v s h
 ·simp only [List.mem_singleton,D.tup.injEq,List.cons.injEq,D.int.injEq,D.str.injEq,and_true] at h
  obtain ⟨_,rfl,rfl,_⟩:=h
  exact ⟨by rw [ep];rfl,by rw [eq];rfl⟩
theorem Tops.swap {hh kk:List Nat->Int} {rows:List D} {kvs:List (DK×D)} (T:Tops hh rows kvs) (h:HR hh rows) (k:HR kk rows):Tops kk rows kvs:=
 ⟨T.ty,T.key,T.lab,fun p l x q l' x' ep eq g=>⟨(T.same p l x q l' x' ep eq g).1,by rw [(T.same p l x q l' x' ep eq g).2];exact kS h k g⟩,T.nd⟩
section
variable {ta tb:ED} {l:L} {c:List Cell}
theorem qbi {x y:List Nat} (h1:Ev ta l c (.str x)) (h2:Ev tb l c (.str y)):EvT (tOf (d2 (eqM false) ta tb)) l c (decide (x=y)):=
 I9 (ev2 h1 h2 (by simp [eqM,V6,J6,eqD];exact Bool.eq_iff_iff.mpr (by simp)))
theorem qbg {x y:List Nat} (h1:Ev ta l c (.str x)) (h2:Ev tb l c (.str y)):EvT (tOf (d2 (eqM true) ta tb)) l c (decide (x≠y)):=
 I9 (ev2 h1 h2 (by simp [eqM,V6,J6,eqD];exact Bool.eq_iff_iff.mpr (by simp)))
theorem Wt {o i:D} {j:Nat} {kvs:List (DK×D)} {k:DK} (h1:Ev ta l c i) (h2:Ev tb l c o) (hc:V8 o c=some (j,kvs)) (hk:D1 i=some k):EvT (tOf (d2 (qj true) ta tb)) l c (!(J2 kvs k).isSome):=
 I9 (ev2 h1 h2 (by unfold qj;rw [hc,hk];rfl))
end
abbrev Qj:List Str:=["_law_tops_here","_law_one","_law_other"]
theorem kL:FnScope Qj ["_law_tops_here","_law_one","_law_other"] (Q5 qx):=scs
def gm:SD:=(Z4 (sIf (tOf (d2 (eqM false) (dv 1) (dv 2))) (Y1 (dc (.int 0))) X0)
  (Z4 (sIf (N6 (tOf (d2 (qj true) (dv 1) (dv 0))) (N6 (tOf (d2 (qj true) (dv 2) (dv 0))) (tOf (d2 (eqM true) (d2 ixM (d2 U9 (dv 0) (dv 1)) (dc (.int 0))) (d2 ixM (d2 U9 (dv 0) (dv 2)) (dc (.int 0))))))) (Y1 (dc .non)) X0)
  (Y1 (d2 fy (d2 ixM (d2 U9 (dv 0) (dv 2)) (dc (.int 1))) (d2 ixM (d2 U9 (dv 0) (dv 1)) (dc (.int 1)))))))
abbrev W4:FD:=gC gm Qj
theorem je {hh:List Nat->Int} {rows:List D} {kvs:List (DK×D)} (T:Tops hh rows kvs) {c:List Cell} {j:Nat} (hj:c[j]?=some (.dct kvs)) (p q:List Nat):
  (Reach rows p q/\gN 3 W4 [.hnd j,.str p,.str q] c=some (.ok (.int (hh q - hh p)) c))\/(¬ Reach rows p q/\gN 3 W4 [.hnd j,.str p,.str q] c=some (.ok .non c)):=by
 let st:L:=[some (.hnd j),some (.str p),some (.str q)]
 have s1:Z1 Qj [.hnd j,.str p,.str q]=st:=rfl
 have cd:V8 (.hnd j) c=some (j,kvs):=by simp [V8,hj]
 have t1:EvT (tOf (d2 (eqM false) (dv 1) (dv 2))) st c (decide (p=q)):=qbi rfl rfl
 have i1:EvT (tOf (d2 (qj true) (dv 1) (dv 0))) st c (!(J2 kvs (.inr p)).isSome):=Wt (i:=.str p) (o:=.hnd j) rfl rfl cd rfl
 have i2:EvT (tOf (d2 (qj true) (dv 2) (dv 0))) st c (!(J2 kvs (.inr q)).isSome):=Wt (i:=.str q) (o:=.hnd j) rfl rfl cd rfl
 by_cases z:p=q
 ·subst z
  refine .inl ⟨.refl,?_⟩
  rw [Int.sub_self]
  refine D9 rfl (c':=c) ?_ rfl (R6.refl _) List.take_length
  rw [decide_eq_true rfl] at t1
  rw [s1]
  unfold gm
  exact xt ((wz t1).trans rfl)
 ·rw [decide_eq_false z] at t1
  have no:EvT (N6 (tOf (d2 (qj true) (dv 1) (dv 0))) (N6 (tOf (d2 (qj true) (dv 2) (dv 0))) (tOf (d2 (eqM true) (d2 ixM (d2 U9 (dv 0) (dv 1)) (dc (.int 0))) (d2 ixM (d2 U9 (dv 0) (dv 2)) (dc (.int 0))))))) st c true->gN 3 W4 [.hnd j,.str p,.str q] c=some (.ok .non c):=fun t2=>by
   refine D9 rfl (c':=c) ?_ rfl (R6.refl _) List.take_length
   rw [s1]
   unfold gm
   rw [Q6 (l':=st) (c':=c) ((K8 t1).trans rfl)]
   exact xt ((wz t2).trans rfl)
  cases ep:J2 kvs (.inr p) with
  | none=>
   rw [ep] at i1
   exact .inr ⟨fun g=>z (T.lone ep g),no (gM i1)⟩
  | some dp=>
   rw [ep] at i1
   cases eq:J2 kvs (.inr q) with
   | none=>
    rw [eq] at i2
    exact .inr ⟨fun g=>z (T.lone eq (M8 g)).symm,no (E8 i1 (gM i2))⟩
   | some dq=>
    rw [eq] at i2
    obtain ⟨_,lp,hp,_,rfl⟩:=T.ty _ _ ep
    obtain ⟨_,lq,hq,_,rfl⟩:=T.ty _ _ eq
    have gp:Ev (d2 U9 (dv 0) (dv 1)) st c (V4 lp hp):=Um (o:=.hnd j) rfl cd (i:=.str p) rfl rfl ep
    have gq:Ev (d2 U9 (dv 0) (dv 2)) st c (V4 lq hq):=Um (o:=.hnd j) rfl cd (i:=.str q) rfl rfl eq
    have ix:∀ {te:ED} {a:List Nat} {b:Int},Ev te st c (V4 a b)->Ev (d2 ixM te (dc (.int 0))) st c (.str a)/\Ev (d2 ixM te (dc (.int 1))) st c (.int b):=fun h=>⟨ev2 h (y:=.int 0) rfl rfl,ev2 h (y:=.int 1) rfl rfl⟩
    have t3:EvT (tOf (d2 (eqM true) (d2 ixM (d2 U9 (dv 0) (dv 1)) (dc (.int 0))) (d2 ixM (d2 U9 (dv 0) (dv 2)) (dc (.int 0))))) st c (decide (lp≠lq)):=qbg (ix gp).1 (ix gq).1
    by_cases zl:lp=lq
    ·subst zl
     have g:Reach rows p q:=W0 (T.lab p lp hp ep).2 (M8 (T.lab q lp hq eq).2)
     refine .inl ⟨g,?_⟩
     rw [← (T.same p lp hp q lp hq ep eq g).2]
     refine D9 rfl (c':=c) ?_ rfl (R6.refl _) List.take_length
     rw [decide_eq_false (fun h=>h rfl)] at t3
     rw [s1]
     unfold gm
     rw [Q6 (l':=st) (c':=c) ((K8 t1).trans rfl)]
     rw [Q6 (l':=st) (c':=c) ((K8 (E8 i1 (E8 i2 t3))).trans rfl)]
     exact N3 (Vr (ix gq).2 (ix gp).2)
    ·rw [decide_eq_true zl] at t3
     exact .inr ⟨fun g=>zl (T.same p lp hp q lq hq ep eq g).1,no (E8 i1 (E8 i2 t3))⟩
theorem valD_key {kvs:List (DK×D)} {k:DK}:(J2 kvs k).isSome=true↔k∈kvs.map (·.1):=by
 induction kvs with
 | nil=>simp [Zu]
 | cons p r ih=>
  rw [K0]
  by_cases e:p.1=k
  ·simp [e]
  ·rw [if_neg e,ih]
   simp only [List.map_cons,List.mem_cons]
   exact ⟨.inr,fun h=>h.elim (fun h=>absurd h.symm e) id⟩
theorem qab {k:DK} {a:List Nat} (h:dkD k=.str a):k=.inr a:=by
 cases k with
 | inl i=>cases h
 | inr x=>cases h;rfl
def yX (l1 l2:List Nat) (g:Int):Option D->Option D
 | some (.tup [.str l,.int h])=>if l=l2 then some (V4 l1 (h+g)) else some (V4 l h)
 | x=>x
abbrev Vi:List Str:=["_law_tops_here","_law_row","_law_peg","_law_first","_law_second","_law_gap_here"]
theorem qt:FnScope Vi ["_law_tops_here","_law_row"] (Q5 qw):=scs
def jx:SD:=(sIf (tOf (d2 (qj true) (dv 2) (dv 0))) (jq (dv 0) (dv 2) (vj (Q1 (dv 2) (Q1 (dc (.int 0)) Q9)))) X0)
def U7:SD:=(sIf (tOf (d2 (eqM false) (d2 ixM (d2 U9 (dv 0) (dv 2)) (dc (.int 0))) (d2 ixM (dv 4) (dc (.int 0))))) (jq (dv 0) (dv 2) (vj (Q1 (d2 ixM (dv 3) (dc (.int 0))) (Q1 (d2 W3 (d2 ixM (d2 U9 (dv 0) (dv 2)) (dc (.int 1))) (dv 5)) Q9)))) X0)
def uk:SD:=(Z4 (B2 (T9 (yt (Q1 (d2 ixM (dv 1) (dc (.int 1))) (Q1 (d2 ixM (dv 1) (dc (.int 2))) Q9)))) (J5 2) jx)
  (Z4 (Y0 3 (d2 U9 (dv 0) (d2 ixM (dv 1) (dc (.int 1)))))
  (Z4 (Y0 4 (d2 U9 (dv 0) (d2 ixM (dv 1) (dc (.int 2)))))
  (sIf (tOf (d2 (eqM true) (d2 ixM (dv 3) (dc (.int 0))) (d2 ixM (dv 4) (dc (.int 0))))) (Z4 (Y0 5 (d2 fy (d2 W3 (d2 ixM (dv 3) (dc (.int 1))) (d2 ixM (dv 1) (dc (.int 3)))) (d2 ixM (dv 4) (dc (.int 1)))))
  (B2 (T9 (d1 Bf (dv 0))) (J5 2) U7)) X0))))
abbrev vm:FD:=gW uk Vi
section
variable {hh:List Nat->Int} {rows:List D} {kvs:List (DK×D)} {c:List Cell} {j:Nat}
abbrev stT (j:Nat) (o2 o3 o4 o5 o6:Option D):L:=[some (.hnd j),o2,o3,o4,o5,o6]
theorem cdT (hj:j < c.length) (x:List (DK×D)):V8 (.hnd j) (c.set j (.dct x))=some (j,x):=by unfold V8;simp only [List.getElem?_set_self hj]
theorem qd1 (x y:List (DK×D)):(c.set j (Cell.dct x)).set j (.dct y)=c.set j (.dct y):=by rw [List.set_set]
theorem zZ (hj:j < c.length) (T:Tops hh rows kvs) (hl:kvs.length < 10000) (a:List Nat) (o2 o4 o5 o6:Option D):
  ∃ kvs',Tops hh rows kvs'/\(J2 kvs' (.inr a)).isSome=true/\(∀ b,(J2 kvs b).isSome=true->(J2 kvs' b).isSome=true)/\kvs'.length<=kvs.length+1/\
   jx (stT j o2 (some (.str a)) o4 o5 o6) (c.set j (.dct kvs))=some (.ok (.nx (stT j o2 (some (.str a)) o4 o5 o6)) (c.set j (.dct kvs'))):=by
 have t1:EvT (tOf (d2 (qj true) (dv 2) (dv 0))) (stT j o2 (some (.str a)) o4 o5 o6) (c.set j (.dct kvs)) (!(J2 kvs (.inr a)).isSome):=Wt (i:=.str a) (o:=.hnd j) rfl rfl (cdT hj kvs) rfl
 unfold jx
 cases z:J2 kvs (.inr a) with
 | some d=>
  rw [z] at t1
  exact ⟨kvs,T,by rw [z];rfl,fun _ h=>h,Nat.le_succ _,(K8 t1).trans rfl⟩
 | none=>
  rw [z] at t1
  have e:=qR (to:=dv 0) (ti:=dv 2) (o:=.hnd j) (i:=.str a) (v:=V4 a 0) (l:=stT j o2 (some (.str a)) o4 o5 o6) (evt (eva (ta:=dv 2) (x:=.str a) rfl (eva (ta:=dc (.int 0)) (x:=.int 0) rfl evn))) rfl (cdT hj kvs) rfl (k:=.inr a) rfl (by omega)
  rw [qd1] at e
  refine ⟨U6 kvs (.inr a) (V4 a 0),T.add z,by rw [N2,if_pos rfl];rfl,fun b h=>?_,Yn kvs _ _,(wz t1).trans e⟩
  rw [N2]
  split
  ·rfl
  ·exact h
open Classical in
theorem fN (hj:j < c.length) (T:Tops hh rows kvs) (hl:kvs.length < 10000) (l1 l2:List Nat) (h1 h2 g:Int) (hne:l1≠l2) (o2 o3:Option D):
  ∃ kvs' o3',kvs'.length=kvs.length/\(kvs'.map (·.1)).Nodup/\(∀ k,J2 kvs' k=yX l1 l2 g (J2 kvs k))/\
   vf (fun _=>True) (J5 2) U7 (kvs.map fun p=>dkD p.1) (stT j o2 o3 (some (V4 l1 h1)) (some (V4 l2 h2)) (some (.int g))) (c.set j (.dct kvs))=some (.ok (.nx (stT j o2 o3' (some (V4 l1 h1)) (some (V4 l2 h2)) (some (.int g)))) (c.set j (.dct kvs'))):=by
 obtain ⟨l',c',e,kvs',pre,o3',e1,e2,e3,e3n,e4,e5⟩:=C6 (chk:=fun _=>True) (g:=J5 2) (body:=U7)
  (fun xs l c'=>∃ (kvs':List (DK×D)) (pre:List D) (o3':Option D),(kvs.map fun p=>dkD p.1)=pre++xs/\c'=c.set j (.dct kvs')/\kvs'.length=kvs.length/\(kvs'.map (·.1)).Nodup/\(∀ k,J2 kvs' k=if dkD k∈pre then yX l1 l2 g (J2 kvs k) else J2 kvs k)/\l=stT j o2 o3' (some (V4 l1 h1)) (some (V4 l2 h2)) (some (.int g)))
  (fun x r l c' ⟨kvs',pre,o3',e1,e2,e3,e3n,e4,e5⟩=>by
   subst e2 e5
   refine ⟨trivial,_,rfl,?_⟩
   have hx:x∈kvs.map fun p=>dkD p.1:=by rw [e1];simp
   obtain ⟨⟨k,d⟩,hk,rfl⟩:=List.mem_map.mp hx
   have hs:(J2 kvs k).isSome=true:=valD_key.mpr (List.mem_map.mpr ⟨_,hk,rfl⟩)
   obtain ⟨d',ed⟩:=Option.isSome_iff_exists.mp hs
   obtain ⟨a,lo,ho,rfl,rfl⟩:=T.ty _ _ ed
   show ∃ l2_1 c2,(U7 (stT j o2 (some (.str a)) (some (V4 l1 h1)) (some (V4 l2 h2)) (some (.int g))) (c.set j (.dct kvs'))=_\/_)/\_
   have get:∀ {lb hb},J2 kvs' (.inr a)=some (V4 lb hb)->EvT (tOf (d2 (eqM false) (d2 ixM (d2 U9 (dv 0) (dv 2)) (dc (.int 0))) (d2 ixM (dv 4) (dc (.int 0))))) (stT j o2 (some (.str a)) (some (V4 l1 h1)) (some (V4 l2 h2)) (some (.int g))) (c.set j (.dct kvs')) (decide (lb=l2))/\
     Ev (d2 ixM (d2 U9 (dv 0) (dv 2)) (dc (.int 1))) (stT j o2 (some (.str a)) (some (V4 l1 h1)) (some (V4 l2 h2)) (some (.int g))) (c.set j (.dct kvs')) (.int hb):=fun {lb hb} h=>by
    have q:Ev (d2 U9 (dv 0) (dv 2)) (stT j o2 (some (.str a)) (some (V4 l1 h1)) (some (V4 l2 h2)) (some (.int g))) (c.set j (.dct kvs')) (V4 lb hb):=Um (o:=.hnd j) rfl (cdT hj kvs') (i:=.str a) rfl rfl h
    exact ⟨qbi (ev2 q (y:=.int 0) rfl rfl) (ev2 (x:=V4 l2 h2) (y:=.int 0) rfl rfl rfl),ev2 q (y:=.int 1) rfl rfl⟩
   have keep:U7 (stT j o2 (some (.str a)) (some (V4 l1 h1)) (some (V4 l2 h2)) (some (.int g))) (c.set j (.dct kvs'))=some (.ok (.nx (stT j o2 (some (.str a)) (some (V4 l1 h1)) (some (V4 l2 h2)) (some (.int g)))) (c.set j (.dct kvs')))->
     (∀ k,J2 kvs' k=if dkD k∈pre++[.str a] then yX l1 l2 g (J2 kvs k) else J2 kvs k)->∃ l2_1 c2,(U7 (stT j o2 (some (.str a)) (some (V4 l1 h1)) (some (V4 l2 h2)) (some (.int g))) (c.set j (.dct kvs'))=some (.ok (.nx l2_1) c2)\/U7 (stT j o2 (some (.str a)) (some (V4 l1 h1)) (some (V4 l2 h2)) (some (.int g))) (c.set j (.dct kvs'))=some (.ok (.ct l2_1) c2))/\∃ (kvs':List (DK×D)) (pre:List D) (o3':Option D),(kvs.map fun p=>dkD p.1)=pre++r/\c2=c.set j (.dct kvs')/\kvs'.length=kvs.length/\(kvs'.map (·.1)).Nodup/\(∀ k,J2 kvs' k=if dkD k∈pre then yX l1 l2 g (J2 kvs k) else J2 kvs k)/\l2_1=stT j o2 o3' (some (V4 l1 h1)) (some (V4 l2 h2)) (some (.int g)):=fun h1 h2=>
    ⟨_,_,.inl h1,kvs',pre++[.str a],_,by rw [e1];simp [dkD],rfl,e3,e3n,h2,rfl⟩
   by_cases hp:D.str a∈pre
   ·have ec:=e4 (.inr a)
    rw [if_pos (show dkD (.inr a)∈pre from hp),ed] at ec
    have mem:∀ k,dkD k∈pre++[.str a]↔dkD k∈pre:=fun k=>by
     rw [List.mem_append,List.mem_singleton]
     exact ⟨fun h=>h.elim id fun h=>by rw [h];exact hp,.inl⟩
    refine keep ?_ fun k=>by rw [e4];simp only [mem]
    unfold U7
    simp only [yX] at ec
    by_cases zl:lo=l2
    ·rw [if_pos zl] at ec
     have t:=(get ec).1
     rw [decide_eq_false hne] at t
     exact (K8 t).trans rfl
    ·rw [if_neg zl] at ec
     have t:=(get ec).1
     rw [decide_eq_false zl] at t
     exact (K8 t).trans rfl
   ·have ec:=e4 (.inr a)
    rw [if_neg (show ¬ dkD (.inr a)∈pre from hp),ed] at ec
    obtain ⟨t,gh⟩:=get ec
    have mem:∀ k,k≠.inr a->(dkD k∈pre++[.str a]↔dkD k∈pre):=fun k hk=>by
     rw [List.mem_append,List.mem_singleton]
     exact ⟨fun h=>h.elim id fun h=>absurd (qab h) hk,.inl⟩
    by_cases zl:lo=l2
    ·rw [decide_eq_true zl] at t
     have e6:=qR (to:=dv 0) (ti:=dv 2) (o:=.hnd j) (i:=.str a) (v:=V4 l1 (ho+g)) (evt (eva (ev2 (f:=ixM) (ta:=dv 3) (tb:=dc (.int 0)) (x:=V4 l1 h1) (y:=.int 0) rfl rfl rfl) (eva (K2 gh (tb:=dv 5) (b:=g) rfl) evn))) rfl (cdT hj kvs') rfl (k:=.inr a) rfl (by omega)
     rw [qd1] at e6
     refine ⟨_,_,.inl (show U7 _ _=_ from (wz t).trans e6),U6 kvs' (.inr a) (V4 l1 (ho+g)),pre++[.str a],_,by rw [e1];simp [dkD],rfl,?_,uv e3n,fun k=>?_,rfl⟩
     ·rw [Xs (by rw [ec];rfl)];exact e3
     ·rw [N2]
      by_cases hk:k=.inr a
      ·subst hk
       rw [if_pos rfl,if_pos (by simp [dkD]),ed]
       simp only [yX]
       rw [if_pos zl]
      ·rw [if_neg hk,e4]
       simp only [mem k hk]
    ·rw [decide_eq_false zl] at t
     refine keep (show U7 _ _=_ from (K8 t).trans rfl) fun k=>?_
     by_cases hk:k=.inr a
     ·subst hk
      rw [if_pos (by simp [dkD]),ed,ec]
      simp only [yX]
      rw [if_neg zl]
     ·rw [e4]
      simp only [mem k hk])
  (fun _ _ _=>trivial) (kvs.map fun p=>dkD p.1) (stT j o2 o3 (some (V4 l1 h1)) (some (V4 l2 h2)) (some (.int g))) (c.set j (.dct kvs)) ⟨kvs,[],o3,rfl,rfl,rfl,T.nd,(fun k=>by rw [if_neg (by simp)]),rfl⟩
 subst e2 e5
 refine ⟨kvs',o3',e3,e3n,fun k=>?_,e⟩
 rw [e4]
 rw [List.append_nil] at e1
 by_cases hk:dkD k∈pre
 ·rw [if_pos hk]
 ·rw [if_neg hk]
  cases z:J2 kvs k with
  | none=>rfl
  | some d=>
   exact absurd (by rw [← e1];exact List.mem_map.mpr ⟨(k,d),Wz z,rfl⟩) hk
end
theorem Qa {g:GD} {body:SD} {x:D} {xs:List D} {l l1 l2:L} {c c2:List Cell} (hg:g x l=some l1) (hb:body l1 c=some (.ok (.nx l2) c2)):vf (fun _=>True) g body (x::xs) l c=vf (fun _=>True) g body xs l2 c2:=by
 simp [vf,hg,M.bd,hb]
section
variable {hh:List Nat->Int} {rows:List D} {kvs:List (DK×D)} {c:List Cell} {j:Nat}
theorem fF (hj:j < c.length) (T:Tops hh rows kvs) (hl:kvs.length < 9000) (n r:Int) (p q:List Nat) (hr:r=hh q - hh p) (o3 o4 o5 o6:Option D):
  ∃ kvs' o3' o4' o5' o6',Tops hh (rows++[Q8 n p q r]) kvs'/\kvs'.length<=kvs.length+2/\
   uk (stT j (some (Q8 n p q r)) o3 o4 o5 o6) (c.set j (.dct kvs))=some (.ok (.nx (stT j (some (Q8 n p q r)) o3' o4' o5' o6')) (c.set j (.dct kvs'))):=by
 obtain ⟨k1,T1,p1,u1,len1,e1⟩:=zZ (j:=j) (c:=c) hj T (by omega) p (some (Q8 n p q r)) o4 o5 o6
 obtain ⟨k2,T2,q2,u2,len2,e2⟩:=zZ (j:=j) (c:=c) hj T1 (by omega) q (some (Q8 n p q r)) o4 o5 o6
 have p2:=u2 _ p1
 obtain ⟨l1,h1,ep⟩:=T2.at p2
 obtain ⟨l2,h2,eq⟩:=T2.at q2
 have ixr:∀ a b e f (cc:List Cell),Ev (d2 ixM (dv 1) (dc (.int 1))) (stT j (some (Q8 n p q r)) a b e f) cc (.str p)/\Ev (d2 ixM (dv 1) (dc (.int 2))) (stT j (some (Q8 n p q r)) a b e f) cc (.str q)/\Ev (d2 ixM (dv 1) (dc (.int 3))) (stT j (some (Q8 n p q r)) a b e f) cc (.int r):=fun a b e f cc=>
  ⟨ev2 (x:=Q8 n p q r) (y:=.int 1) rfl rfl rfl,ev2 (x:=Q8 n p q r) (y:=.int 2) rfl rfl rfl,ev2 (x:=Q8 n p q r) (y:=.int 3) rfl rfl rfl⟩
 have f1:B2 (T9 (yt (Q1 (d2 ixM (dv 1) (dc (.int 1))) (Q1 (d2 ixM (dv 1) (dc (.int 2))) Q9)))) (J5 2) jx (stT j (some (Q8 n p q r)) o3 o4 o5 o6) (c.set j (.dct kvs))=some (.ok (.nx (stT j (some (Q8 n p q r)) (some (.str q)) o4 o5 o6)) (c.set j (.dct k2))):=by
  obtain ⟨x1,x2,_⟩:=ixr o3 o4 o5 o6 (c.set j (.dct kvs))
  rw [js (uy (evl (eva x1 (eva x2 evn))) rfl)]
  rw [Qa (l1:=stT j (some (Q8 n p q r)) (some (.str p)) o4 o5 o6) rfl e1,Qa (l1:=stT j (some (Q8 n p q r)) (some (.str q)) o4 o5 o6) rfl e2]
  exact JU
 have cd:=cdT (c:=c) hj k2
 have g1:Ev (d2 U9 (dv 0) (d2 ixM (dv 1) (dc (.int 1)))) (stT j (some (Q8 n p q r)) (some (.str q)) o4 o5 o6) (c.set j (.dct k2)) (V4 l1 h1):=Um (o:=.hnd j) rfl cd (ixr _ _ _ _ _).1 rfl ep
 have g2:Ev (d2 U9 (dv 0) (d2 ixM (dv 1) (dc (.int 2)))) (stT j (some (Q8 n p q r)) (some (.str q)) (some (V4 l1 h1)) o5 o6) (c.set j (.dct k2)) (V4 l2 h2):=Um (o:=.hnd j) rfl cd (ixr _ _ _ _ _).2.1 rfl eq
 have t:EvT (tOf (d2 (eqM true) (d2 ixM (dv 3) (dc (.int 0))) (d2 ixM (dv 4) (dc (.int 0))))) (stT j (some (Q8 n p q r)) (some (.str q)) (some (V4 l1 h1)) (some (V4 l2 h2)) o6) (c.set j (.dct k2)) (decide (l1≠l2)):=
  qbg (ev2 (x:=V4 l1 h1) (y:=.int 0) rfl rfl rfl) (ev2 (x:=V4 l2 h2) (y:=.int 0) rfl rfl rfl)
 unfold uk
 rw [Q6 f1]
 rw [Q6 (l':=stT j (some (Q8 n p q r)) (some (.str q)) (some (V4 l1 h1)) o5 o6) (c':=c.set j (.dct k2)) (J7 (i:=3) g1)]
 rw [Q6 (l':=stT j (some (Q8 n p q r)) (some (.str q)) (some (V4 l1 h1)) (some (V4 l2 h2)) o6) (c':=c.set j (.dct k2)) (J7 (i:=4) g2)]
 by_cases zl:l1=l2
 ·subst zl
  rw [decide_eq_false (fun h=>h rfl)] at t
  exact ⟨k2,_,_,_,_,T2.stay ep eq,by omega,(K8 t).trans rfl⟩
 ·rw [decide_eq_true zl] at t
  obtain ⟨k3,o3',len3,nd3,hv,e3⟩:=fN (j:=j) (c:=c) hj T2 (by omega) l1 l2 h1 h2 (h1+r - h2) zl (some (Q8 n p q r)) (some (.str q))
  have g3:Ev (d2 fy (d2 W3 (d2 ixM (dv 3) (dc (.int 1))) (d2 ixM (dv 1) (dc (.int 3)))) (d2 ixM (dv 4) (dc (.int 1)))) (stT j (some (Q8 n p q r)) (some (.str q)) (some (V4 l1 h1)) (some (V4 l2 h2)) o6) (c.set j (.dct k2)) (.int (h1+r - h2)):=
   Vr (K2 (ev2 (x:=V4 l1 h1) (y:=.int 1) rfl rfl rfl) (ixr _ _ _ _ _).2.2) (ev2 (x:=V4 l2 h2) (y:=.int 1) rfl rfl rfl)
  refine ⟨k3,o3',some (V4 l1 h1),some (V4 l2 h2),some (.int (h1+r - h2)),T2.join ep eq zl hr (fun a=>?_) (fun k d h=>?_) nd3,by omega,(wz t).trans ?_⟩
  ·rw [hv]
   cases z:J2 k2 (.inr a) with
   | none=>rfl
   | some d=>
    obtain ⟨_,lo,ho,_,rfl⟩:=T2.ty _ _ z
    rfl
  ·rw [hv] at h
   cases z:J2 k2 k with
   | none=>rw [z] at h;cases h
   | some d'=>
    obtain ⟨a,_,_,e,_⟩:=T2.ty _ _ z
    exact ⟨a,e⟩
  ·rw [Q6 (l':=stT j (some (Q8 n p q r)) (some (.str q)) (some (V4 l1 h1)) (some (V4 l2 h2)) (some (.int (h1+r - h2)))) (c':=c.set j (.dct k2)) (J7 (i:=5) g3)]
   rw [js (uy (x:=.lst (k2.map fun p=>dkD p.1)) (c1:=c.set j (.dct k2)) (ev1 (x:=.hnd j) rfl (by unfold Bf;rw [cd])) rfl)]
   exact e3
theorem yG (hj:c[j]?=some (.dct kvs)) (T:Tops hh rows kvs) (hl:kvs.length < 9000) (n r:Int) (p q:List Nat) (hr:r=hh q - hh p):∃ kvs',Tops hh (rows++[Q8 n p q r]) kvs'/\kvs'.length<=kvs.length+2/\gN 2 vm [.hnd j,Q8 n p q r] c=some (.ok .non (c.set j (.dct kvs'))):=by
 have lt:=(List.getElem?_eq_some_iff.mp hj).1
 obtain ⟨kvs',o3,o4,o5,o6,T',len,e⟩:=fF (c:=c) lt T hl n r p q hr none none none none
 rw [show c.set j (.dct kvs)=c from by
  refine List.ext_getElem? fun i=>?_
  by_cases z:j=i
  ·subst z;rw [List.getElem?_set_self lt,hj]
  ·rw [List.getElem?_set_ne z]] at e
 exact ⟨kvs',T',len,bY rfl e⟩
end
structure Sees (d:D) (c:List Cell) (rows:List D):Prop where
 ty:tyM d c=some .lst
 vw:V6 d c=.lst rows
 sr:∃ chk:List Cell->Prop,ki d c=some (.ok ⟨rows,chk⟩ c)/\chk c
theorem Zx (rows:List D) (c:List Cell):Sees (.lst rows) c rows:=⟨rfl,rfl,_,rfl,trivial⟩
theorem QS {k:Nat} {rows:List D} {c:List Cell} (h:c[k]?=some (.lst rows)):Sees (.hnd k) c rows:=⟨by simp only [tyM,h],by simp only [V6,h],_,(by simp only [ki,h];rfl),h⟩
inductive RowsV (c:List Cell) (rows:List D):D->Prop where
 | val:RowsV c rows (.lst rows)
 | cel {k:Nat} (h:c[k]?=some (.lst rows)):RowsV c rows (.hnd k)
theorem RowsV.sees {c:List Cell} {rows:List D} {d:D} (h:RowsV c rows d):Sees d c rows:=by
 cases h with
 | val=>exact Zx _ _
 | cel h=>exact QS h
theorem RowsV.app {c:List Cell} {rows:List D} {d:D} (h:RowsV c rows d) (x:List Cell):RowsV (c++x) rows d:=by
 cases h with
 | val=>exact .val
 | cel h=>exact .cel (by rw [List.getElem?_append_left (List.getElem?_eq_some_iff.mp h).1];exact h)
theorem RowsV.src {c:List Cell} {rows:List D} {d:D} (h:RowsV c rows d):∃ chk:List Cell->Prop,∀ x,ki d (c++x)=some (.ok ⟨rows,chk⟩ (c++x))/\chk (c++x):=by
 cases h with
 | val=>exact ⟨fun _=>True,fun x=>⟨rfl,trivial⟩⟩
 | @cel k h=>
  have e:∀ x,(c++x)[k]?=some (.lst rows):=fun x=>by rw [List.getElem?_append_left (List.getElem?_eq_some_iff.mp h).1];exact h
  exact ⟨fun c'=>c'[k]?=some (.lst rows),fun x=>⟨by simp only [ki,e],e x⟩⟩
abbrev bu:List Str:=["_law_rows_here","_law_tops_here","_law_row"]
theorem md:FnScope bu ["_law_rows_here"] (Q5 E1):=scs
def Qo:SD:=(G8 (Z7 2 vm [] (Q1 (dv 1) (Q1 (dv 2) Q9))))
def Qy:SD:=(Z4 (Y0 1 uc)
  (Z4 (B2 (T9 (dv 0)) (J5 2) Qo)
  (Y1 (dv 1))))
abbrev L4:FD:=gW Qy bu
theorem Vf {hh:List Nat->Int} {rows:List D} {c:List Cell} {d:D} (h:HR hh rows) (hn:rows.length<=400) (hd:RowsV c rows d):∃ kvs,Tops hh rows kvs/\kvs.length<=2 * rows.length/\gN 1 L4 [d] c=some (.ok (.hnd c.length) (c++[.dct kvs])):=by
 obtain ⟨chk,hs⟩:=hd.src
 let st (o:Option D):L:=[some d,some (.hnd c.length),o]
 obtain ⟨l',c',e,kvs,dn,o,e1,e2,e3,e4,e5⟩:=C6 (chk:=chk) (g:=J5 2) (body:=Qo)
  (fun xs l c'=>∃ (kvs:List (DK×D)) (dn:List D) (o:Option D),rows=dn++xs/\c'=c++[.dct kvs]/\kvs.length<=2 * dn.length/\Tops hh dn kvs/\l=st o)
  (fun x r l c' ⟨kvs,dn,o,e1,e2,e3,e4,e5⟩=>by
   subst e2 e5
   refine ⟨(hs _).2,_,rfl,?_⟩
   obtain ⟨n,p,q,rfl⟩:=h x (by rw [e1];simp)
   have hd:dn.length<=400:=by
    have:=congrArg List.length e1
    simp at this
    omega
   obtain ⟨kvs',T',len,e⟩:=yG (c:=c++[.dct kvs]) (j:=c.length) (by simp) e4 (by omega) n (hh q - hh p) p q rfl
   rw [show (c++[Cell.dct kvs]).set c.length (.dct kvs')=c++[.dct kvs'] by rw [List.set_append_right _ _ (Nat.le_refl _)];simp] at e
   exact ⟨st (some (Q8 n p q (hh q - hh p))),_,.inl (qg ((B1 (n:=2) (g:=vm) (dds:=[]) (l:=st (some (Q8 n p q (hh q - hh p)))) (Y7 (ta:=dv 1) (x:=.hnd c.length) (c1:=c++[Cell.dct kvs]) rfl (Y7 (ta:=dv 2) (x:=Q8 n p q (hh q - hh p)) (c1:=c++[Cell.dct kvs]) rfl U1))).trans e)),kvs',dn++[Q8 n p q (hh q - hh p)],_,by rw [e1];simp,rfl,by simp;omega,T',rfl⟩)
  (fun l c' ⟨kvs,dn,o,e1,e2,e3,e4,e5⟩=>by rw [e2];exact (hs _).2) rows (st none) (c++[.dct []]) ⟨[],[],_,rfl,rfl,Nat.le_refl _,Tops.nil hh,rfl⟩
 subst e2 e5
 rw [List.append_nil] at e1
 subst e1
 refine ⟨kvs,e4,e3,Kf rfl ?_⟩
 have s1:Z1 bu [d]=[some d,none,none]:=rfl
 rw [s1]
 unfold Qy
 rw [Q6 (l':=st none) (c':=c++[Cell.dct []]) (by simp [st,Y0,M.bd,M.ret,uc])]
 rw [Q6 (l':=st o) (c':=c++[Cell.dct kvs]) (by
  rw [js (uy (x:=d) (c1:=c++[Cell.dct []]) rfl (r:=some (.ok ⟨rows,chk⟩ (c++[Cell.dct []]))) (hs _).1)]
  exact e)]
 exact N3 rfl
theorem fB {xs ys:List (List Nat)} (h1:xs.Pairwise fun a b=>ltL a b=true) (h2:ys.Pairwise fun a b=>ltL a b=true) (hm:∀ x,x∈xs↔x∈ys):xs=ys:=by
 have irr:∀ a,ltL a a=true->False:=fun a h=>by have:=qW.tot a a h;rw [h] at this;cases this
 have nd:∀ {zs:List (List Nat)},(zs.Pairwise fun a b=>ltL a b=true)->zs.Nodup:=fun h=>List.Pairwise.imp (S:=fun a b=>a≠b) (fun {a b} q z=>irr b (by rw [z] at q;exact q)) h
 have asc:∀ {zs:List (List Nat)},(zs.Pairwise fun a b=>ltL a b=true)->Asc ltL zs:=fun h=>h.imp fun {a b} q=>qW.tot a b q
 exact Kn qW ((List.perm_ext_iff_of_nodup (nd h1) (nd h2)).mpr hm) (asc h1) (asc h2)
def qfx:DK->List Nat
 | .inr a=>a
 | .inl _=>[]
theorem kT {rows:List D} {a b:List Nat} (h:Reach rows a b):b=a\/b∈ends rows:=by
 have ed:∀ {p q},Zs rows p q->p∈ends rows/\q∈ends rows:=fun {p q} ⟨n,r,e⟩=>Jj e
 cases h with
 | refl=>exact .inl rfl
 | fwd _ e=>exact .inr (ed e).2
 | bwd _ e=>exact .inr (ed e).1
abbrev zk:List Str:=["_law_tops_here","_law_one"]
theorem jE:FnScope zk ["_law_tops_here","_law_one"] (Q5 S3):=scs
def Za:SD:=(Z4 (sIf (tOf (d2 (qj true) (dv 1) (dv 0))) (Y1 (yt (Q1 (dv 1) Q9))) X0)
  (Y1 (d1 Gu (d2 jG (dv 0) (dv 1)))))
abbrev Zj:FD:=gC Za zk
theorem uK {hh:List Nat->Int} {rows:List D} {kvs:List (DK×D)} {c:List Cell} {j:Nat} (T:Tops hh rows kvs) (hj:c[j]?=some (.dct kvs)) (hl:kvs.length < 1000000) {pool:List (List Nat)} (hpo:∀ x∈ends rows,x∈pool) (hpl:pool.length<=62) {one:List Nat} {ps:List (List Nat)} (hps:Part rows one ps):
  gN 2 Zj [.hnd j,.str one] c=some (.ok (.lst (ps.map .str)) c):=by
 let st:L:=[some (.hnd j),some (.str one)]
 have s1:Z1 zk [.hnd j,.str one]=st:=rfl
 have cd:V8 (.hnd j) c=some (j,kvs):=by unfold V8;simp only [hj]
 refine D9 rfl (c':=c) ?_ (by show D.bels c.length (ps.map .str)=true;exact Xc _ ps) (R6.refl c) List.take_length
 have t1:EvT (tOf (d2 (qj true) (dv 1) (dv 0))) st c (!(J2 kvs (.inr one)).isSome):=Wt (i:=.str one) (o:=.hnd j) rfl rfl cd rfl
 rw [s1]
 unfold Za
 cases z:J2 kvs (.inr one) with
 | none=>
  rw [z] at t1
  have e:ps=[one]:=fB hps.asc (List.pairwise_singleton _ _) fun x=>by
   rw [hps.mem,List.mem_singleton]
   exact ⟨fun g=>(T.lone z g).symm,fun h=>by rw [h];exact .refl⟩
  rw [e]
  exact xt ((wz t1).trans (N3 (evl (eva (x:=.str one) rfl evn))))
 | some d1=>
  rw [z] at t1
  rw [Q6 (l':=st) (c':=c) ((K8 t1).trans rfl)]
  obtain ⟨_,l1,h1,_,rfl⟩:=T.ty _ _ z
  have top:∀ kv∈kvs,∃ a l h,kv=(.inr a,V4 l h)/\J2 kvs (.inr a)=some (V4 l h):=fun kv hkv=>by
   obtain ⟨i,hi,e⟩:=List.mem_iff_getElem.mp hkv
   have v:=Wk (k:=kv.1) (d:=kv.2) T.nd (show kvs[i]?=some (kv.1,kv.2) by rw [List.getElem?_eq_getElem hi,e])
   obtain ⟨a,l,h,e1,e2⟩:=T.ty _ _ v
   refine ⟨a,l,h,Prod.ext e1 e2,?_⟩
   rw [e1,e2] at v;exact v
  have all:kvs.all vJ=true:=List.all_eq_true.mpr fun kv hkv=>by
   obtain ⟨a,l,h,e,_⟩:=top kv hkv
   rw [e];rfl
  obtain ⟨qs,hqs⟩:∃ qs,qs=(kvs.filter fun kv=>decide (Qk kv.2=l1)).map fun kv=>qfx kv.1:=⟨_,rfl⟩
  have e1:((kvs.filter fun kv=>decide (Qk kv.2=l1)).map fun kv=>dkD kv.1)=qs.map .str:=by
   rw [hqs,List.map_map]
   refine List.map_congr_left fun kv hkv=>?_
   obtain ⟨a,l,h,e,_⟩:=top kv (List.mem_filter.mp hkv).1
   rw [e];rfl
  have nd:qs.Nodup:=by
   rw [hqs]
   refine List.pairwise_map.mpr (List.Pairwise.imp_of_mem (R:=fun a b:DK×D=>a.1≠b.1) (fun {a b} ha hb hne e=>?_) ((List.pairwise_map.mp T.nd).filter _))
   obtain ⟨x,_,_,ea,_⟩:=top a (List.mem_filter.mp ha).1
   obtain ⟨y,_,_,eb,_⟩:=top b (List.mem_filter.mp hb).1
   rw [ea,eb] at e hne
   exact hne (by rw [show x=y from e])
  have mem:∀ x,x∈qs↔Reach rows one x:=fun x=>by
   rw [hqs,List.mem_map]
   constructor
   ·rintro ⟨kv,hkv,rfl⟩
    obtain ⟨hk,hlab⟩:=List.mem_filter.mp hkv
    obtain ⟨a,l,h,rfl,v⟩:=top kv hk
    have el:l=l1:=of_decide_eq_true hlab
    subst el
    exact W0 (T.lab one l h1 z).2 (M8 (T.lab a l h v).2)
   ·intro g
    cases zx:J2 kvs (.inr x) with
    | none=>
     have:=T.lone zx (M8 g)
     rw [← this,zx] at z;cases z
    | some dx=>
     obtain ⟨_,l,h,_,rfl⟩:=T.ty _ _ zx
     have el:=(T.same one l1 h1 x l h z zx g).1
     exact ⟨(.inr x,V4 l h),List.mem_filter.mpr ⟨Wz zx,by simp [Qk,el]⟩,rfl⟩
  have len:qs.length < 64:=by
   have:=Yu (ys:=one::pool) nd fun x hx=>by
    rcases kT ((mem x).mp hx) with e | e
    ·rw [e];exact List.mem_cons_self
    ·exact List.mem_cons_of_mem _ (hpo x e)
   rw [List.length_cons] at this
   omega
  have es:fb ltL qs=ps:=fB (Ko qW (uo qW qs) ((qr ltL qs).nodup_iff.mpr nd)) hps.asc fun x=>by rw [Bb,mem,hps.mem]
  refine N3 (ev1 (x:=.lst (qs.map .str)) (ev2 (x:=.hnd j) (y:=.str one) rfl rfl ?_) ?_)
  ·unfold jG
   rw [cd]
   simp only [z]
   rw [if_pos ⟨all,hl⟩]
   show some (Out.ok (D.lst ((kvs.filter fun kv=>decide (Qk kv.2=l1)).map fun kv=>dkD kv.1)) c)=_
   rw [e1]
  ·unfold Gu
   simp only [jn,Xd]
   rw [if_pos len,es]
abbrev bv:List Str:=["_law_found","_law_rows_here","_law_row"]
theorem Vj:FnScope bv ["_law_found","_law_rows_here"] (Q5 E2):=scs
def wt:SD:=(sIf (N6 (Y9 (W6 (d1 (D2 .tup) (dv 2)))) (N6 (Y9 (W6 (Z7 1 E9 [] (Q1 (d2 ixM (dv 2) (dc (.int 0))) Q9)))) (Y9 (W6 (Z7 1 E9 [] (Q1 (d2 ixM (dv 2) (dc (.int 3))) Q9)))))) (Y1 (dc (.bl false))) X0)
def Qz:SD:=(Z4 (sIf (N6 (Y9 (W6 (d1 (D2 .lst) (dv 0)))) (tOf (d2 (eqM true) (dv 0) (dv 1)))) (Y1 (dc (.bl false))) X0)
  (Z4 (B2 (T9 (dv 0)) (J5 2) wt)
  (Y1 (dc (.bl true)))))
abbrev yg:FD:=gC Qz bv
theorem Vg {d d':D} {c:List Cell} {rows:List D} (h:Sees d c rows) (h':Sees d' c rows) (hr:rows.all U4=true):gN 2 yg [d,d'] c=some (.ok (.bl true) c):=by
 let st (o:Option D):L:=[some d,some d',o]
 have s1:Z1 bv [d,d']=st none:=rfl
 refine D9 rfl (c':=c) ?_ rfl (R6.refl c) List.take_length
 rw [s1]
 unfold Qz
 have t1:EvT (N6 (Y9 (W6 (d1 (D2 .lst) (dv 0)))) (tOf (d2 (eqM true) (dv 0) (dv 1)))) (st none) c false:=by
  refine E8 (L5 (b:=true) (K6 (ev1 (x:=d) rfl (by simp only [D2,h.ty];rfl)))) (I9 (ev2 (x:=d) (y:=d') rfl rfl ?_))
  unfold eqM
  have q1:=VZ hr
  have q2:=Gw hr
  rw [h.vw,h'.vw]
  simp only [J6,q2,and_self,if_true,eqD,q1]
  rfl
 rw [Q6 (l':=st none) (c':=c) ((K8 t1).trans rfl)]
 obtain ⟨chk,hs,hk⟩:=h.sr
 obtain ⟨l',c',e,o,el,ec,_⟩:=C6 (chk:=chk) (g:=J5 2) (body:=wt) (fun xs l c'=>∃ o,l=st o/\c'=c/\xs.all U4=true)
  (fun x xs l c' ⟨o,el,ec,hx⟩=>by
   subst el ec
   simp only [List.all_cons,Bool.and_eq_true] at hx
   obtain ⟨n,p,q,r,rfl⟩:=T6 hx.1
   refine ⟨hk,_,rfl,st (some (Q8 n p q r)),c',.inl ?_,_,rfl,rfl,hx.2⟩
   unfold wt
   refine (K8 ?_).trans rfl
   refine E8 (L5 (b:=true) (K6 (ev1 (x:=Q8 n p q r) rfl rfl))) (E8 (L5 (b:=true) (K6 (evc (eva (ev2 (x:=Q8 n p q r) (y:=.int 0) (z:=.int n) rfl rfl rfl) evn) (Zr n c')))) (L5 (b:=true) (K6 (evc (eva (ev2 (x:=Q8 n p q r) (y:=.int 3) (z:=.int r) rfl rfl rfl) evn) (Zr r c')))))
   )
  (fun l c' ⟨o,el,ec,_⟩=>by subst ec;exact hk) rows (st none) c ⟨none,rfl,rfl,hr⟩
 subst el ec
 rw [Q6 (l':=st o) (c':=c') (by
  rw [js (S:=⟨rows,chk⟩) (c1:=c') (by unfold T9;rw [Z9 (x:=d) (c':=c') rfl];exact hs)]
  exact e)]
 rfl
section
variable {ta tb:ED} {l:L} {c:List Cell} {b:Bool}
theorem qev (h:Ev ta l c (.bl true)):Ev (Ga ta tb) l c (.bl true):=by
 show Ga ta tb l c=_
 unfold Ga
 rw [Z9 h];rfl
theorem qew (h:Ev ta l c (.bl false)) (h2:Ev tb l c (.bl b)):Ev (Ga ta tb) l c (.bl b):=by
 show Ga ta tb l c=_
 unfold Ga
 rw [Z9 h];exact h2
theorem Uo (h:Ev ta l c (.bl true)) (h2:Ev tb l c (.bl b)):Ev (N8 ta tb) l c (.bl b):=by
 show N8 ta tb l c=_
 unfold N8
 rw [Z9 h];exact h2
end
abbrev qfa:List Nat:=[119,97,121]
abbrev bJ:List Nat:=[110,117,109,98,101,114]
structure KitK (K:Frag) (t:Adr) (cls:Value) (nn nw:Bool):Prop where
 go:cls∈C4 t
 ve:kitOne K cls (.type "ValueError")=some true
 ns:kitOne K cls (.ref t.x_NoSighting)=some false
 fu:kitOne K cls (.ref t.x_Full)=some false
 ag:kitOne K cls (.ref t.x_Against)=some false
 nn:kitOne K cls (.ref t.x_NoNumber)=some nn
 nw:kitOne K cls (.ref t.x_NoWay)=some nw
 nt:kitOne K cls (.ref t.x_NoText)=some false
theorem zD (T:Txt K mg t):KitK K t (.ref t.x_NoNumber) true false:=⟨by simp [C4],T.ki_NoNumber_ValueError,T.ki_NoNumber_NoSighting,T.ki_NoNumber_Full,T.ki_NoNumber_Against,T.ki_NoNumber_NoNumber,T.ki_NoNumber_NoWay,T.ki_NoNumber_NoText⟩
theorem mQ (T:Txt K mg t):KitK K t (.ref t.x_NoWay) false true:=⟨by simp [C4],T.ki_NoWay_ValueError,T.ki_NoWay_NoSighting,T.ki_NoWay_Full,T.ki_NoWay_Against,T.ki_NoWay_NoNumber,T.ki_NoWay_NoWay,T.ki_NoWay_NoText⟩
abbrev bx:List Str:=["_law_e","_law_many"]
theorem me:FnScope bx ["_law_e"] (Q5 E5):=scs
def Zb (K:Frag) (t:Adr):SD:=(Z4 (Y0 1 (d2 W3 (d2 W3 (d1 vK (d1 (gv K (C4 t) (.ref t.x_NoSighting)) (dv 0))) (d1 vK (d1 (gv K (C4 t) (.ref t.x_Full)) (dv 0)))) (d1 vK (d1 (gv K (C4 t) (.ref t.x_Against)) (dv 0)))))
  (Z4 (Y0 1 (d2 W3 (d2 W3 (d2 W3 (dv 1) (d1 vK (d1 (gv K (C4 t) (.ref t.x_NoNumber)) (dv 0)))) (d1 vK (d1 (gv K (C4 t) (.ref t.x_NoWay)) (dv 0)))) (d1 vK (d1 (gv K (C4 t) (.ref t.x_NoText)) (dv 0)))))
  (Z4 (sIf (N6 (tOf (d2 (eqM true) (dv 1) (dc (.int 1)))) (Y9 (W6 (d1 (gv K (C4 t) (.type "ValueError")) (dv 0))))) (Y1 (dc (.str [111,100,100]))) X0)
  (Z4 (sIf (W6 (d1 (gv K (C4 t) (.ref t.x_NoSighting)) (dv 0))) (Y1 (dc (.str [115,105,103,104,116,105,110,103]))) X0)
  (Z4 (sIf (W6 (d1 (gv K (C4 t) (.ref t.x_Full)) (dv 0))) (Y1 (dc (.str [102,117,108,108]))) X0)
  (Z4 (sIf (W6 (d1 (gv K (C4 t) (.ref t.x_Against)) (dv 0))) (Y1 (dc (.str [97,103,97,105,110,115,116]))) X0)
  (Z4 (sIf (W6 (d1 (gv K (C4 t) (.ref t.x_NoNumber)) (dv 0))) (Y1 (dc (.str [110,117,109,98,101,114]))) X0)
  (Z4 (sIf (W6 (d1 (gv K (C4 t) (.ref t.x_NoWay)) (dv 0))) (Y1 (dc (.str [119,97,121]))) X0)
  (Y1 (dc (.str [116,101,120,116])))))))))))
abbrev yi (K:Frag) (t:Adr):FD:=gC (Zb K t) bx
theorem qez {ta:ED} {l:L} {c:List Cell} {k:Nat} {cls B:Value} {fs:List (Str×D)} {b:Bool} (h:Ev ta l c (.hnd k)) (hk:c[k]?=some (.exn cls fs)) (hg:cls∈C4 t) (kit:kitOne K cls B=some b):Ev (d1 (gv K (C4 t) B) ta) l c (.bl b):=
 ev1 h (by unfold gv;simp only [hk];rw [if_pos hg,kit])
theorem Bo {ta:ED} {l:L} {c:List Cell} {b:Bool} (h:Ev ta l c (.bl b)):Ev (d1 vK ta) l c (.int (if b then 1 else 0)):=ev1 h rfl
theorem qA {c:List Cell} {k:Nat} {cls:Value} {fs:List (Str×D)} {nn nw:Bool} (hk:c[k]?=some (.exn cls fs)) (kk:KitK K t cls nn nw) (h1:(if nn then 1 else 0:Int)+(if nw then 1 else 0)=1):
  gN 1 (yi K t) [.hnd k] c=some (.ok (.str (if nn then bJ else qfa)) c):=by
 let st (o:Option D):L:=[some (.hnd k),o]
 have s1:Z1 bx [.hnd k]=st none:=rfl
 have ev:∀ o {B b},kitOne K cls B=some b->Ev (d1 (gv K (C4 t) B) (dv 0)) (st o) c (.bl b):=fun o {B b} h=>qez rfl hk kk.go h
 have e1:=K2 (K2 (Bo (ev none kk.ns)) (Bo (ev none kk.fu))) (Bo (ev none kk.ag))
 have e2:=fun v:Int=>K2 (K2 (K2 (ta:=dv 1) (l:=st (some (.int v))) (c:=c) (a:=v) rfl (Bo (ev _ kk.nn))) (Bo (ev _ kk.nw))) (Bo (ev _ kk.nt))
 refine D9 rfl (c':=c) ?_ (by cases nn <;> rfl) (R6.refl c) List.take_length
 rw [s1]
 unfold Zb
 rw [Q6 (l':=st (some (.int 0))) (c':=c) (J7 (i:=1) e1)]
 rw [Q6 (l':=st (some (.int 1))) (c':=c) (J7 (i:=1) (by
  have e:=e2 0
  have:(0:Int)+(if nn then 1 else 0)+(if nw then 1 else 0)+(if (false:Bool) then 1 else 0)=1:=by simpa using h1
  rw [this] at e
  exact e))]
 have t1:EvT (N6 (tOf (d2 (eqM true) (dv 1) (dc (.int 1)))) (Y9 (W6 (d1 (gv K (C4 t) (.type "ValueError")) (dv 0))))) (st (some (.int 1))) c false:=
  E8 (I9 (ev2 (x:=.int 1) (y:=.int 1) rfl rfl (by simp [eqM,V6,J6,eqD]))) (L5 (b:=true) (K6 (ev _ kk.ve)))
 rw [Q6 (l':=st (some (.int 1))) (c':=c) ((K8 t1).trans rfl)]
 rw [Q6 (l':=st (some (.int 1))) (c':=c) ((K8 (K6 (ev _ kk.ns))).trans rfl)]
 rw [Q6 (l':=st (some (.int 1))) (c':=c) ((K8 (K6 (ev _ kk.fu))).trans rfl)]
 rw [Q6 (l':=st (some (.int 1))) (c':=c) ((K8 (K6 (ev _ kk.ag))).trans rfl)]
 have tf:=K6 (ev (some (.int 1)) kk.nn)
 have tg:=K6 (ev (some (.int 1)) kk.nw)
 cases nn with
 | true=>exact xt ((wz tf).trans rfl)
 | false=>
  rw [Q6 (l':=st (some (.int 1))) (c':=c) ((K8 tf).trans rfl)]
  cases nw with
  | true=>exact xt ((wz tg).trans rfl)
  | false=>cases h1
abbrev R0:List Str:=["_law_rows_here","_law_number"]
theorem Xi:FnScope R0 ["_law_rows_here","_law_number"] (Q5 G0):=scs
def wq:SD:=(Y1 (L7 (T9 (dv 0)) [1] (J5 0) (tOf (d2 (eqM true) (d2 ixM (dv 0) (dc (.int 0))) (dv 1))) (dv 0)))
abbrev X7:FD:=gC wq R0
theorem bp {c:List Cell} {d:D} {rows:List D} (hd:RowsV c rows d) (hr:rows.all U4=true) (hn:rows.length<=400) (i:Int):gN 2 X7 [d,.int i] c=some (.ok (.lst (G1 rows i)) c):=by
 refine D9 rfl (c':=c) ?_ (by show D.bels c.length _=true;exact mh _ (Bl _ hr)) (R6.refl c) List.take_length
 have s1:Z1 R0 [d,.int i]=[some d,some (.int i)]:=rfl
 obtain ⟨chk,hs,hk⟩:=hd.sees.sr
 rw [s1]
 unfold wq
 exact N3 (qbf (uy (x:=d) (c1:=c) rfl hs) hk rfl hr (by omega))
abbrev bw:List Str:=["_law_book","_law_tops_here","_law_one","_law_other","_law_due","_law_found","_law_refused","_law_near","_law_e"]
theorem B8:FnScope bw ["_law_book","_law_tops_here","_law_one","_law_other"] (Q5 E3):=scs
def xm (K:Frag) (t:Adr):SD:=(Z4 (Y0 4 (Z7 3 W4 [] (Q1 (dv 1) (Q1 (dv 2) (Q1 (dv 3) Q9)))))
  (Z4 (Y0 5 (dc .non))
  (Z4 (Y0 6 (dc .non))
  (Z4 (Y0 7 (yt Q9))
  (Z4 (Xn (Y0 5 (bo t.c_Book "rise" 3 (I0 K t) [] (dv 0) (Q1 (dv 2) (Q1 (dv 3) Q9)))) (hAs K t.x_NoWay 8 (Z4 (Y0 6 (dv 8))
  (Y0 7 (d1 (XU (zG t) "near") (dv 8)))) JQ))
  (Z4 (sIf (tOf (d1 (U8 false) (dv 4))) (Z4 (sIf (N6 (tOf (d1 (U8 false) (dv 6))) (N6 (tOf (d2 (eqM true) (Z7 1 (yi K t) [] (Q1 (dv 6) Q9)) (dc (.str [119,97,121])))) (Y9 (W6 (d1 (D2 .lst) (dv 7)))))) (Y1 (dc (.bl false))) X0)
  (Y1 (d2 (eqM false) (dv 7) (Z7 2 Zj [] (Q1 (dv 1) (Q1 (dv 2) Q9)))))) X0)
  (Y1 (N8 (d1 (U8 false) (dv 6)) (N8 (Z7 1 E9 [] (Q1 (dv 5) Q9)) (d2 (eqM false) (dv 5) (dv 4)))))))))))
abbrev yh (K:Frag) (t:Adr):FD:=gC (xm K t) bw
theorem VM {ps:List (List Nat)}:eqD (.lst (ps.map .str)) (.lst (ps.map .str))=true:=by
 show vg (ps.map .str) (ps.map .str)=true
 induction ps with
 | nil=>rfl
 | cons x xs ih=>simp [vg,eqD,ih]
theorem Gq (n:Nat) (ps:List (List Nat)):J6 (n+2) (.lst (ps.map .str))=true:=by
 show (ps.map D.str).all (J6 (n+1))=true
 exact List.all_eq_true.mpr fun x hx=>by
  obtain ⟨y,_,rfl⟩:=List.mem_map.mp hx
  rfl
theorem gj (T:Txt K mg t) {c:List Cell} {b j jt:Nat} {m k:Int} {rows:List D} {hh:List Nat->Int} {kvs:List (DK×D)} (h:BookAt t c b j m k rows) (hr:HR hh rows) (hn:rows.length<=400) (Tp:Tops hh rows kvs) (hj:c[jt]?=some (.dct kvs)) (hl:kvs.length < 1000000) {p q:List Nat} (hp:K7 p=true) (hq:K7 q=true) {pool:List (List Nat)} (hpo:∀ x∈ends rows,x∈pool) (hpl:pool.length<=62):
  gN 4 (yh K t) [.hnd b,.hnd jt,.str p,.str q] c=some (.ok (.bl true) c):=by
 let st (o4 o5 o6 o7:Option D):L:=[some (.hnd b),some (.hnd jt),some (.str p),some (.str q),o4,o5,o6,o7,none]
 have s1:Z1 bw [.hnd b,.hnd jt,.str p,.str q]=st none none none none:=rfl
 have cm:∀ {o4:Option D} {o:Option (Out D)},gN 3 (I0 K t) [.hnd b,.str p,.str q] c=o->bo t.c_Book "rise" 3 (I0 K t) [] (dv 0) (Q1 (dv 2) (Q1 (dv 3) Q9)) (st o4 (some .non) (some .non) (some (.lst []))) c=o:=fun {o4 o} e=>
  (Uc (o:=.hnd b) (c1:=c) rfl (V7 h.ob) rfl (eva (x:=.str p) rfl (eva (x:=.str q) rfl evn))).trans e
 rcases uI (K:=K) h hr hn hp hq hpo hpl with ⟨g,e⟩ | ⟨g,ps,hps,e⟩
 ·have gp:gN 3 W4 [.hnd jt,.str p,.str q] c=some (.ok (.int (hh q - hh p)) c):=by
   rcases je Tp hj p q with ⟨_,e⟩ | ⟨n,_⟩
   ·exact e
   ·exact absurd g n
  refine D9 rfl (c':=c) ?_ rfl (R6.refl c) List.take_length
  rw [s1]
  unfold xm
  rw [Q6 (l':=st (some (.int (hh q - hh p))) none none none) (c':=c) (J7 (i:=4) (evc (eva (x:=.hnd jt) rfl (eva (x:=.str p) rfl (eva (x:=.str q) rfl evn))) gp))]
  rw [Q6 (l':=st (some (.int (hh q - hh p))) (some .non) none none) (c':=c) rfl,Q6 (l':=st (some (.int (hh q - hh p))) (some .non) (some .non) none) (c':=c) rfl,Q6 (l':=st (some (.int (hh q - hh p))) (some .non) (some .non) (some (.lst []))) (c':=c) (J7 (i:=7) (evl evn))]
  rw [Q6 (l':=st (some (.int (hh q - hh p))) (some (.int (hh q - hh p))) (some .non) (some (.lst []))) (c':=c) (QD (J7 (i:=5) (cm e)))]
  rw [Q6 (l':=st (some (.int (hh q - hh p))) (some (.int (hh q - hh p))) (some .non) (some (.lst []))) (c':=c) ((K8 (I9 (ev1 (x:=.int (hh q - hh p)) rfl rfl))).trans rfl)]
  exact N3 (Uo (ev1 (x:=.non) rfl rfl) (Uo (evc (eva (x:=.int (hh q - hh p)) rfl evn) (Zr _ c)) (ev2 (x:=.int (hh q - hh p)) (y:=.int (hh q - hh p)) rfl rfl (by simp [eqM,V6,J6,eqD]))))
 ·have gp:gN 3 W4 [.hnd jt,.str p,.str q] c=some (.ok .non c):=by
   rcases je Tp hj p q with ⟨n,_⟩ | ⟨_,e⟩
   ·exact absurd n g
   ·exact e
  obtain ⟨cc,hcc⟩:∃ cc,cc=c++[Cell.lst (ps.map .str),.exn (.ref t.x_NoWay) [("near",.hnd c.length)]]:=⟨_,rfl⟩
  have lt:=(List.getElem?_eq_some_iff.mp hj).1
  have z1:cc[jt]?=some (.dct kvs):=by rw [hcc,List.getElem?_append_left lt];exact hj
  have z2:cc[c.length]?=some (.lst (ps.map .str)):=by rw [hcc];simp
  have z3:cc[c.length+1]?=some (.exn (.ref t.x_NoWay) [("near",.hnd c.length)]):=by rw [hcc];simp
  refine D9 rfl (c':=cc) ?_ rfl (by rw [hcc];exact R6.app c _) (by rw [hcc];exact Zv c _)
  rw [s1]
  unfold xm
  rw [Q6 (l':=st (some .non) none none none) (c':=c) (J7 (i:=4) (evc (eva (x:=.hnd jt) rfl (eva (x:=.str p) rfl (eva (x:=.str q) rfl evn))) gp))]
  rw [Q6 (l':=st (some .non) (some .non) none none) (c':=c) rfl,Q6 (l':=st (some .non) (some .non) (some .non) none) (c':=c) rfl,Q6 (l':=st (some .non) (some .non) (some .non) (some (.lst []))) (c':=c) (J7 (i:=7) (evl evn))]
  rw [Q6 (l':=st (some .non) (some .non) (some (.hnd (c.length+1))) (some (.hnd c.length))) (c':=cc) ((qJ (xW (cm e))).trans ((VA (e:=⟨.ref t.x_NoWay,[("near",.hnd c.length)]⟩) (c:=c++[.lst (ps.map .str)]) T.em_NoWay_NoWay (f:=.nx [some (.hnd b),some (.hnd jt),some (.str p),some (.str q),some .non,some .non,some (.hnd (c.length+1)),some (.hnd c.length),some (.hnd (c.length+1))]) (c1:=cc) (by
   rw [show c++[Cell.lst (ps.map .str)]++[Cell.exn (Value.ref t.x_NoWay) [("near",D.hnd c.length)]]=cc by rw [hcc];simp,show (c++[Cell.lst (ps.map .str)]).length=c.length+1 by simp]
   refine (Q6 (l':=[some (.hnd b),some (.hnd jt),some (.str p),some (.str q),some .non,some .non,some (.hnd (c.length+1)),some (.lst []),some (.hnd (c.length+1))]) (c':=cc) rfl).trans (J7 (i:=7) (ev1 (x:=.hnd (c.length+1)) rfl ?_))
   unfold XU
   simp only
   rw [z3]
   simp only
   rw [show List.lookup ("near":Str) [("near",D.hnd c.length)]=some (.hnd c.length) from rfl]
   simp only
   rw [if_pos (by simp [zG])])).trans rfl))]
  have t1:EvT (N6 (tOf (d1 (U8 false) (dv 6))) (N6 (tOf (d2 (eqM true) (Z7 1 (yi K t) [] (Q1 (dv 6) Q9)) (dc (.str [119,97,121])))) (Y9 (W6 (d1 (D2 .lst) (dv 7)))))) (st (some .non) (some .non) (some (.hnd (c.length+1))) (some (.hnd c.length))) cc false:=
   E8 (I9 (ev1 (x:=.hnd (c.length+1)) rfl rfl)) (E8 (I9 (ev2 (evc (eva (x:=.hnd (c.length+1)) rfl evn) (qA z3 (mQ T) rfl)) (y:=.str [119,97,121]) rfl (by simp [eqM,V6,J6,eqD]))) (L5 (b:=true) (K6 (ev1 (x:=.hnd c.length) rfl (by simp only [D2,tyM,z2];rfl)))))
  refine xt ((wz (I9 (ev1 (x:=.non) rfl rfl))).trans ?_)
  rw [Q6 (l':=st (some .non) (some .non) (some (.hnd (c.length+1))) (some (.hnd c.length))) (c':=cc) ((K8 t1).trans rfl)]
  refine N3 (ev2 (x:=.hnd c.length) rfl (evc (eva (x:=.hnd jt) rfl (eva (x:=.str p) rfl evn)) (uK Tp z1 hl hpo hpl hps)) ?_)
  unfold eqM
  have v1:V6 (.hnd c.length) cc=.lst (ps.map .str):=by simp only [V6,z2]
  have v2:V6 (.lst (ps.map .str)) cc=.lst (ps.map .str):=rfl
  rw [v1,v2,if_pos ⟨Gq 18 ps,Gq 18 ps⟩,VM]
  rfl
abbrev jg:List Str:=["_law_book","_law_rows_here","_law_row","_law_due","_law_found"]
theorem xu:FnScope jg ["_law_book","_law_rows_here","_law_row"] (Q5 R9):=scs
def kf (K:Frag) (t:Adr):SD:=(Z4 (Y0 3 (d1 (U8 true) (Z7 3 W4 [] (Q1 (Z7 1 L4 [] (Q1 (Z7 2 X7 [] (Q1 (dv 1) (Q1 (d2 ixM (dv 2) (dc (.int 0))) Q9))) Q9)) (Q1 (d2 ixM (dv 2) (dc (.int 1))) (Q1 (d2 ixM (dv 2) (dc (.int 2))) Q9))))))
  (Z4 (Y0 4 (N0 t.c_Book "spare" 2 (qf K t) [] (dv 0) (Q1 (d2 ixM (dv 2) (dc (.int 0))) Q9)))
  (Y1 (N8 (d1 (D2 .bl) (dv 4)) (d2 (eqM false) (dv 4) (dv 3))))))
abbrev ku (K:Frag) (t:Adr):FD:=gC (kf K t) jg
open Classical in
theorem ud {c:List Cell} {b j:Nat} {m k i s:Int} {p q:List Nat} {rows:List D} {d:D} {hh:List Nat->Int} (h:BookAt t c b j m k rows) (hr:HR hh rows) (hn:rows.length<=400) (hd:RowsV c rows d) (zf:(rows.find? fun r=>decide (U2 r=i))=some (Q8 i p q s)):
  gN 3 (ku K t) [.hnd b,d,Q8 i p q s] c=some (.ok (.bl true) c):=by
 let st (o3 o4:Option D):L:=[some (.hnd b),some d,some (Q8 i p q s),o3,o4]
 have s1:Z1 jg [.hnd b,d,Q8 i p q s]=st none none:=rfl
 have hr2:HR hh (G1 rows i):=Uk hr fun x hx=>(List.mem_filter.mp hx).1
 have ln:(G1 rows i).length<=400:=Nat.le_trans (List.length_filter_le _ _) hn
 obtain ⟨kvs,Tp,_,et⟩:=Vf (c:=c) hr2 ln .val
 obtain ⟨cc,hcc⟩:∃ cc,cc=c++[Cell.dct kvs]:=⟨_,rfl⟩
 have z1:cc[c.length]?=some (.dct kvs):=by rw [hcc];simp
 have ix:∀ o3 o4 (x:List Cell) (i':Int) (d':D),ixM (Q8 i p q s) (.int i') x=some (.ok d' x)->Ev (d2 ixM (dv 2) (dc (.int i'))) (st o3 o4) x d':=fun o3 o4 x i' d' h=>ev2 (x:=Q8 i p q s) (y:=.int i') rfl rfl h
 refine D9 rfl (c':=cc) ?_ rfl (by rw [hcc];exact R6.app c _) (by rw [hcc];exact Zv c _)
 have e0:=(B1 (n:=1) (g:=L4) (dds:=[]) (Y7 (t:=Q9) (evc (l:=st none none) (c:=c) (g:=X7) (n:=2) (dds:=[]) (eva (ta:=dv 1) (x:=d) rfl (eva (ix none none c 0 (.int i) rfl) evn)) (bp hd hr.ok hn i)) U1)).trans et
 rw [← hcc] at e0
 have e1:∀ x,gN 3 W4 [.hnd c.length,.str p,.str q] cc=some (.ok x cc)->(d1 (U8 true) (Z7 3 W4 [] (Q1 (Z7 1 L4 [] (Q1 (Z7 2 X7 [] (Q1 (dv 1) (Q1 (d2 ixM (dv 2) (dc (.int 0))) Q9))) Q9)) (Q1 (d2 ixM (dv 2) (dc (.int 1))) (Q1 (d2 ixM (dv 2) (dc (.int 2))) Q9))))) (st none none) c=U8 true x cc:=fun x hx=>
  Ux ((B1 (Y7 e0 (eva (ix _ _ cc 1 (.str p) rfl) (eva (ix _ _ cc 2 (.str q) rfl) evn)))).trans hx)
 have h2:BookAt t cc b j m k rows:=by rw [hcc];exact h.app
 have fin:∀ bb:Bool,(d1 (U8 true) (Z7 3 W4 [] (Q1 (Z7 1 L4 [] (Q1 (Z7 2 X7 [] (Q1 (dv 1) (Q1 (d2 ixM (dv 2) (dc (.int 0))) Q9))) Q9)) (Q1 (d2 ixM (dv 2) (dc (.int 1))) (Q1 (d2 ixM (dv 2) (dc (.int 2))) Q9))))) (st none none) c=some (.ok (.bl bb) cc)->gN 2 (qf K t) [.hnd b,.int i] cc=some (.ok (.bl bb) cc)->
   kf K t (Z1 jg [.hnd b,d,Q8 i p q s]) c=some (.ok (.ret (.bl true)) cc):=fun bb x1 x2=>by
  rw [s1]
  unfold kf
  rw [Q6 (l':=st (some (.bl bb)) none) (c':=cc) (J7 (i:=3) x1)]
  rw [Q6 (l':=st (some (.bl bb)) (some (.bl bb))) (c':=cc) (J7 (i:=4) ((P4 (o:=.hnd b) (c1:=cc) rfl (V7 h2.ob) rfl (eva (ix _ _ cc 0 (.int i) rfl) evn)).trans x2))]
  exact N3 (Uo (ev1 (x:=.bl bb) rfl rfl) (ev2 (x:=.bl bb) (y:=.bl bb) rfl rfl (by simp [eqM,V6,J6,eqD])))
 have sp:=xA (K:=K) h2 hr.ok hn zf
 rcases je Tp z1 p q with ⟨g,e⟩ | ⟨g,e⟩
 ·rw [decide_eq_true g] at sp
  exact fin true (e1 _ e) sp
 ·rw [decide_eq_false g] at sp
  exact fin false (e1 _ e) sp
abbrev U5:List Str:=["_law_book","_law_box","_law_rows_here","_law_cell","_law_odd","_law_kept","_law_gone","_law_refused","_law_e"]
theorem X1:FnScope U5 ["_law_book","_law_box","_law_rows_here","_law_cell"] (Q5 W9):=scs
def ji (K:Frag) (t:Adr):SD:=(Z4 (Y0 4 (d2 ixM (yt (Q1 (dc (.int 0)) (Q1 (d1 wO (dc (.int 1))) (Q1 (d2 W3 (d2 ixM (dv 1) (dc (.int 0))) (dc (.int 1))) (Q1 (d2 Zd (dc (.int 10)) (dc (.int 30))) (Q1 (dc (.bl true)) (Q1 (dc (.bl false)) (Q1 (dc .non) (Q1 (dc (.str [49])) (Q1 (yt (Q1 (dc (.int 1)) Q9)) (Q1 (vj (Q1 (dc (.int 1)) Q9)) Q9))))))))))) (d2 X8 (dv 3) (dc (.int 10)))))
  (Z4 (sIf (tOf (d2 (eqM false) (d2 X8 (dv 3) (dc (.int 3))) (dc (.int 0)))) (Z4 (Y0 5 (L7 (T9 (dv 2)) [] (J5 0) ff (d2 ixM (dv 0) (dc (.int 0)))))
  (Z4 (Y0 6 (L7 (iR2 (dc (.int 1)) (d2 W3 (d2 ixM (dv 1) (dc (.int 0))) (dc (.int 1)))) [5] (J5 0) (tOf (d2 (inM true) (dv 0) (dv 1))) (dv 0)))
  (Y0 4 (d2 ixM (d2 W3 (dv 6) (yt (Q1 (d2 W3 (d2 ixM (dv 1) (dc (.int 0))) (dc (.int 2))) Q9))) (dc (.int 0)))))) X0)
  (Z4 (Y0 7 (dc .non))
  (Z4 (Xn (G8 (bo t.c_Book "spare" 2 (be K t) [] (dv 0) (Q1 (dv 4) Q9))) (hAs K t.x_PegError 8 (Y0 7 (dv 8)) JQ))
  (Y1 (N8 (d1 (U8 true) (dv 7)) (d2 (eqM false) (Z7 1 (yi K t) [] (Q1 (dv 7) Q9)) (dc (.str [110,117,109,98,101,114])))))))))
abbrev A5 (K:Frag) (t:Adr):FD:=gC (ji K t) U5
abbrev qdo (rows:List D) (x:D):Prop:=(∀ c,(tyM x c).isSome=true)/\∀ i,x=.int i->∀ r∈rows,U2 r≠i
theorem qc8 {xs:List D} {ta tb:ED} {l:L} {c:List Cell} {i:Int} {x:D} (h1:Ev ta l c (.lst xs)) (h2:Ev tb l c (.int i)) (h:atI xs i=some x):Ev (d2 ixM ta tb) l c x:=ev2 h1 h2 (by simp only [ixM,h,oM,M.ret])
theorem JO {ta tb:ED} {l:L} {c:List Cell} {i j:Int} (h1:Ev ta l c (.int i)) (h2:Ev tb l c (.int j)) (hi:-1000000<=i/\i<=1000000) (hj:-1000000<=j/\j<=1000000):iR2 ta tb l c=some (.ok ⟨W5 i (j - i).toNat,fun _=>True⟩ c):=by
 unfold iR2
 rw [Z9 h1,Z9 h2]
 simp only
 rw [if_pos ⟨hi,hj⟩]
 rfl
theorem Kd (T:Txt K mg t) {c:List Cell} {b j jb:Nat} {m k:Int} {rows:List D} {d:D} (h:BookAt t c b j m k rows) (hr:rows.all U4=true) (hn:rows.length<=400) (lo:∀ r∈rows,1<=U2 r/\U2 r<=k) (k0:0<=k) (k1:k<=1000) (hb:c[jb]?=some (.lst [.int k])) (hd:RowsV c rows d) (n:Int):
  gN 4 (A5 K t) [.hnd b,.hnd jb,d,.int n] c=some (.ok (.bl true) c):=by
 let st (o4 o5 o6 o7:Option D):L:=[some (.hnd b),some (.hnd jb),some d,some (.int n),o4,o5,o6,o7,none]
 have s1:Z1 U5 [.hnd b,.hnd jb,d,.int n]=st none none none none:=rfl
 obtain ⟨big,hbig⟩:∃ big:Int,big=10 ^ 30:=⟨_,rfl⟩
 have bigk:k+2 < big:=by rw [hbig];omega
 have ixb:∀ o4 o5 o6 o7,Ev (d2 ixM (dv 1) (dc (.int 0))) (st o4 o5 o6 o7) c (.int k):=fun o4 o5 o6 o7=>ev2 (x:=.hnd jb) (y:=.int 0) rfl rfl (by unfold ixM;simp only [hb];rfl)
 have pw:Ev (d2 Zd (dc (.int 10)) (dc (.int 30))) (st none none none none) c (.int big):=ev2 (x:=.int 10) (y:=.int 30) rfl rfl ((gy (show Jc 10 30 by decide)).trans (by rw [hbig];rfl))
 have eA:=evl (eva (ta:=dc (.int 0)) (x:=.int 0) rfl (eva (ev1 (h:=wO) (ta:=dc (.int 1)) (x:=.int 1) (z:=.int (-1)) rfl rfl) (eva (K2 (ixb none none none none) (tb:=dc (.int 1)) (b:=1) rfl) (eva pw (eva (ta:=dc (.bl true)) (x:=.bl true) rfl (eva (ta:=dc (.bl false)) (x:=.bl false) rfl (eva (ta:=dc .non) (x:=.non) rfl (eva (ta:=dc (.str [49])) (x:=.str [49]) rfl (eva (evl (eva (ta:=dc (.int 1)) (x:=.int 1) rfl evn)) (eva (evt (eva (ta:=dc (.int 1)) (x:=.int 1) rfl evn)) evn))))))))))
 have m0:=Int.emod_nonneg n (show (10:Int)≠0 by decide)
 have m1:=Int.emod_lt_of_pos n (show (0:Int) < 10 by decide)
 obtain ⟨x0,hx0,ex0⟩:=uf (xs:=[D.int 0,.int (-1),.int (k+1),.int big,.bl true,.bl false,.non,.str [49],.lst [.int 1],.tup [.int 1]]) m0 m1
 have g0:qdo rows x0:=by
  simp only [List.mem_cons,List.not_mem_nil,or_false] at hx0
  rcases hx0 with rfl | rfl | rfl | rfl | rfl | rfl | rfl | rfl | rfl | rfl
  all_goals refine ⟨fun c=>rfl,fun i e r hr' z=>?_⟩
  all_goals first
   | (cases e;have:=lo r hr';omega)
   | cases e
 have e4:=qc8 eA (evM (ta:=dv 3) (a:=n) (m:=10) rfl (by decide)) ex0
 have tB:EvT (tOf (d2 (eqM false) (d2 X8 (dv 3) (dc (.int 3))) (dc (.int 0)))) (st (some x0) none none none) c (decide (n % 3=0)):=bS (evM (a:=n) (m:=3) rfl (by decide)) rfl
 have hB:∃ x o5 o6,qdo rows x/\sIf (tOf (d2 (eqM false) (d2 X8 (dv 3) (dc (.int 3))) (dc (.int 0)))) (Z4 (Y0 5 (L7 (T9 (dv 2)) [] (J5 0) ff (d2 ixM (dv 0) (dc (.int 0)))))
   (Z4 (Y0 6 (L7 (iR2 (dc (.int 1)) (d2 W3 (d2 ixM (dv 1) (dc (.int 0))) (dc (.int 1)))) [5] (J5 0) (tOf (d2 (inM true) (dv 0) (dv 1))) (dv 0)))
   (Y0 4 (d2 ixM (d2 W3 (dv 6) (yt (Q1 (d2 W3 (d2 ixM (dv 1) (dc (.int 0))) (dc (.int 2))) Q9))) (dc (.int 0)))))) X0 (st (some x0) none none none) c=some (.ok (.nx (st (some x) o5 o6 none)) c):=by
  by_cases z:n % 3=0
  ·rw [decide_eq_true z] at tB
   obtain ⟨chk,hs,hk⟩:=hd.sees.sr
   have c5:Ev (L7 (T9 (dv 2)) [] (J5 0) ff (d2 ixM (dv 0) (dc (.int 0)))) (st (some x0) none none none) c (.lst (rows.map fun r=>D.int (U2 r))):=by
    show L7 _ _ _ _ _ _ _=_
    rw [zN (S:=⟨rows,chk⟩) (uy (x:=d) (c1:=c) rfl hs)]
    rw [show l0 [] (st (some x0) none none none)=[none] from rfl]
    rw [Vc (f:=fun r=>D.int (U2 r)) c hk rows [] none (fun y hy=>by
     obtain ⟨n',p',q',r',rfl⟩:=T6 (List.all_eq_true.mp hr y hy)
     exact ev2 (x:=Q8 n' p' q' r') (y:=.int 0) rfl rfl rfl) (by simp;omega)]
    rfl
   have a5:(rows.map fun r=>D.int (U2 r)).all (J6 20)=true:=List.all_eq_true.mpr fun x hx=>by
    obtain ⟨y,_,rfl⟩:=List.mem_map.mp hx
    rfl
   let bf:D->Bool:=fun x=>!((rows.map fun r=>D.int (U2 r)).any fun y=>eqD y x)
   have c6:Ev (L7 (iR2 (dc (.int 1)) (d2 W3 (d2 ixM (dv 1) (dc (.int 0))) (dc (.int 1)))) [5] (J5 0) (tOf (d2 (inM true) (dv 0) (dv 1))) (dv 0)) (st (some x0) (some (.lst (rows.map fun r=>D.int (U2 r)))) none none) c (.lst ((W5 1 (k+1 - 1).toNat).filter bf)):=by
    show L7 _ _ _ _ _ _ _=_
    rw [zN (S:=⟨W5 1 (k+1 - 1).toNat,fun _=>True⟩) (JO (i:=1) rfl (K2 (ixb _ _ _ _) (b:=1) rfl) (by decide) (by omega))]
    rw [show l0 [5] (st (some x0) (some (.lst (rows.map fun r=>D.int (U2 r)))) none none)=[none,some (.lst (rows.map fun r=>D.int (U2 r)))] from rfl]
    rw [Zp (f:=fun x=>x) (b:=bf) c trivial (W5 1 (k+1 - 1).toNat) [] none (fun y hy=>by
     obtain ⟨i,_,rfl⟩:=List.mem_map.mp hy
     exact I9 (ev2 (x:=.int (1+(i:Nat))) (y:=.lst (rows.map fun r=>D.int (U2 r))) rfl rfl (by
      unfold inM
      simp only [VT,jn]
      rw [if_pos ⟨rfl,a5⟩]
      rfl))) (fun y hy=>rfl) (by simp [W5];omega)]
    rw [List.map_id'];rfl
   obtain ⟨x,hx,gx⟩:∃ x,atI (((W5 1 (k+1 - 1).toNat).filter bf)++[.int (k+2)]) 0=some x/\qdo rows x:=by
    cases zf:(W5 1 (k+1 - 1).toNat).filter bf with
    | nil=>exact ⟨.int (k+2),rfl,fun c=>rfl,fun i e r hr' z=>by cases e;have:=lo r hr';omega⟩
    | cons y ys=>
     have hy:y∈(W5 1 (k+1 - 1).toNat).filter bf:=by rw [zf];exact List.mem_cons_self
     obtain ⟨h1,h2⟩:=List.mem_filter.mp hy
     obtain ⟨i,_,rfl⟩:=List.mem_map.mp h1
     refine ⟨.int (1+(i:Nat)),by unfold atI ixN;rw [if_pos (by decide),if_pos (by simp only [List.cons_append,List.length_cons];omega)];rfl,(fun c=>rfl),fun i' e r hr' z=>?_⟩
     cases e
     have:((rows.map fun r=>D.int (U2 r)).any fun y=>eqD y (.int (1+(i:Nat))))=true:=List.any_eq_true.mpr ⟨_,List.mem_map.mpr ⟨r,hr',rfl⟩,by simp [eqD,z]⟩
     simp only [bf,this] at h2
     cases h2
   refine ⟨x,some (.lst (rows.map fun r=>D.int (U2 r))),some (.lst ((W5 1 (k+1 - 1).toNat).filter bf)),gx,(wz tB).trans ?_⟩
   rw [Q6 (l':=st (some x0) (some (.lst (rows.map fun r=>D.int (U2 r)))) none none) (c':=c) (J7 (i:=5) c5)]
   rw [Q6 (l':=st (some x0) (some (.lst (rows.map fun r=>D.int (U2 r)))) (some (.lst ((W5 1 (k+1 - 1).toNat).filter bf))) none) (c':=c) (J7 (i:=6) c6)]
   have ll:=List.length_filter_le bf (W5 1 (k+1 - 1).toNat)
   have lr:(W5 1 (k+1 - 1).toNat).length=(k+1 - 1).toNat:=by simp [W5]
   exact J7 (i:=4) (qc8 (ev2 (x:=.lst ((W5 1 (k+1 - 1).toNat).filter bf)) (y:=.lst [.int (k+2)]) rfl (evl (eva (K2 (ixb _ _ _ _) (b:=2) rfl) evn)) (by
    simp only [W3,jn]
    rw [if_pos (by simp only [List.length_cons,List.length_nil];omega)])) (i:=0) rfl hx)
  ·rw [decide_eq_false z] at tB
   exact ⟨x0,none,none,g0,(K8 tB).trans rfl⟩
 obtain ⟨x,o5,o6,gx,eB⟩:=hB
 have e7:=Gc (K:=K) h (d:=x) (gx.1 c) (fun i e=>List.find?_eq_none.mpr fun r hr'=>by simpa using gx.2 i e r hr')
 obtain ⟨cc,hcc⟩:∃ cc,cc=c++[Cell.exn (.ref t.x_NoNumber) []]:=⟨_,rfl⟩
 have z3:cc[c.length]?=some (.exn (.ref t.x_NoNumber) []):=by rw [hcc];simp
 refine D9 rfl (c':=cc) ?_ rfl (by rw [hcc];exact R6.app c _) (by rw [hcc];exact Zv c _)
 rw [s1]
 unfold ji
 rw [Q6 (l':=st (some x0) none none none) (c':=c) (J7 (i:=4) e4),Q6 eB]
 rw [Q6 (l':=st (some x) o5 o6 (some .non)) (c':=c) rfl]
 rw [Q6 (l':=st (some x) o5 o6 (some (.hnd c.length))) (c':=cc) ((qJ (vP ((Uc (o:=.hnd b) (c1:=c) rfl (V7 h.ob) rfl (eva (x:=x) rfl evn)).trans e7))).trans ((VA (e:=⟨.ref t.x_NoNumber,[]⟩) (c:=c) T.em_NoNumber_PegError (f:=.nx [some (.hnd b),some (.hnd jb),some d,some (.int n),some x,o5,o6,some (.hnd c.length),some (.hnd c.length)]) (c1:=cc) (by rw [← hcc];rfl)).trans rfl))]
 exact N3 (Uo (ev1 (x:=.hnd c.length) rfl rfl) (ev2 (evc (eva (x:=.hnd c.length) rfl evn) (qA z3 (zD T) rfl)) (y:=.str bJ) rfl (by simp [eqM,V6,J6,eqD])))
theorem QM {p q:List Nat} {r:Int} (hp:K7 p=true) (hq:K7 q=true) (h1:-(10 ^ 60) < r) (h2:r < 10 ^ 60):jm (.tup [.str p,.str q,.int r])=true:=by
 show (K7 p && K7 q && decide (-(10 ^ 60) < r/\r < 10 ^ 60))=true
 rw [hp,hq,decide_eq_true ⟨h1,h2⟩]
 rfl
theorem mI {p q:List Nat} (r:Int) (c:List Cell) (hp:K7 p=true) (hq:K7 q=true):okT (.tup [.str p,.str q,.int r]) c=true:=by
 have lp:=gw hp
 have lq:=gw hq
 show (true && ((true && decide (p.length<=1000000)) && (true && decide (q.length<=1000000)) && true))=true
 rw [decide_eq_true (show p.length<=1000000 by omega),decide_eq_true (show q.length<=1000000 by omega)]
 rfl
theorem Wo {rows:List D} (n:Nat) (h:rows.all U4=true):(Cell.dct (kvR rows)).bel n=true:=by
 show D.bels n ((kvR rows).map (·.2))=true
 rw [Jn]
 exact mh n h
theorem QF {hh:List Nat->Int} {rows:List D} {kvs:List (DK×D)} (T:Tops hh rows kvs) (n:Nat):(Cell.dct kvs).bel n=true:=by
 show D.bels n (kvs.map (·.2))=true
 refine Ki fun x hx=>?_
 obtain ⟨⟨k,d⟩,hm,rfl⟩:=List.mem_map.mp hx
 obtain ⟨i,hi⟩:=List.mem_iff_getElem?.mp hm
 obtain ⟨_,l,h,_,e⟩:=T.ty k d (Wk T.nd hi)
 show D.bel n d=true
 rw [e];rfl
abbrev cS (t:Adr) (H0:List (DK×D)) (k1:Int) (r1:List D) (k2:Int) (r2 rr:List D) (kt:List (DK×D)) (kb:Int):List Cell:=[.dct H0,.ins t.c_Book (yx 200 k1 2),.dct (kvR r1),.ins t.c_Book (yx 200 k2 4),.dct (kvR r2),.lst rr,.dct kt,.lst [.int kb]]
theorem XO {H0 kt kt':List (DK×D)} {k1 k2 kb k1' k2' kb':Int} {r1 r2 rr r1' r2' rr':List D} (h1:r1'.all U4=true) (h2:r2'.all U4=true) (h3:rr'.all U4=true) (h4:(Cell.dct kt').bel 8=true):R6 (cS t H0 k1 r1 k2 r2 rr kt kb) (cS t H0 k1' r1' k2' r2' rr' kt' kb'):=by
 refine ⟨Nat.le_refl _,fun i x hi e=>?_⟩
 match i,e with
 | 0,e=>exact .inl e
 | 1,e=>cases (show some (Cell.ins t.c_Book (yx 200 k1' 2))=some x from e);exact .inr rfl
 | 2,e=>cases (show some (Cell.dct (kvR r1'))=some x from e);exact .inr (Wo 8 h1)
 | 3,e=>cases (show some (Cell.ins t.c_Book (yx 200 k2' 4))=some x from e);exact .inr rfl
 | 4,e=>cases (show some (Cell.dct (kvR r2'))=some x from e);exact .inr (Wo 8 h2)
 | 5,e=>cases (show some (Cell.lst rr')=some x from e);exact .inr (mh 8 h3)
 | 6,e=>cases (show some (Cell.dct kt')=some x from e);exact .inr h4
 | 7,e=>cases (show some (Cell.lst [.int kb'])=some x from e);exact .inr rfl
 | i+8,e=>cases e
abbrev yy:D:=.lst [.hnd 1,.hnd 3]
abbrev P8:List Str:=["_law_books","_law_rows_here","_law_tops_here","_law_box","_law_sighting_here","_law_gap_here","_law_good","_law_book","_law_taken"]
theorem G5:FnScope P8 ["_law_books","_law_rows_here","_law_tops_here","_law_box","_law_sighting_here"] (Q5 K4):=scs
def V9 (K:Frag) (t:Adr):SD:=(Z4 (Y0 8 (dc (.bl true)))
  (Z4 (Xn (G8 (bo t.c_Book "take" 4 (N7 K t) [] (dv 7) (Q1 (d2 ixM (dv 4) (dc (.int 0))) (Q1 (d2 ixM (dv 4) (dc (.int 1))) (Q1 (d2 ixM (dv 4) (dc (.int 2))) Q9))))) (Bi K t.x_Against (Y0 8 (dc (.bl false))) JQ))
  (sIf (tOf (d2 (eqM true) (dv 8) (dv 6))) (Y1 (dc (.bl false))) X0)))
def A1 (K:Frag) (t:Adr):SD:=(Z4 (Y0 5 (Z7 3 W4 [] (Q1 (dv 2) (Q1 (d2 ixM (dv 4) (dc (.int 0))) (Q1 (d2 ixM (dv 4) (dc (.int 1))) Q9)))))
  (Z4 (Y0 6 (Ga (d1 (U8 false) (dv 5)) (d2 (eqM false) (dv 5) (d2 ixM (dv 4) (dc (.int 2))))))
  (Z4 (sIf (W6 (dv 6)) (Z4 (fU (dv 3) (dc (.int 0)) (d2 W3 (d2 ixM (dv 3) (dc (.int 0))) (dc (.int 1))))
  (Z4 (G8 (mM .lst K9 (dv 1) (Q1 (d2 W3 (vj (Q1 (d2 ixM (dv 3) (dc (.int 0))) Q9)) (dv 4)) Q9)))
  (G8 (Z7 2 vm [] (Q1 (dv 2) (Q1 (d2 ixM (dv 1) (d1 wO (dc (.int 1)))) Q9)))))) X0)
  (Z4 (B2 (T9 (dv 0)) (J5 7) (V9 K t))
  (Y1 (dc (.bl true)))))))
abbrev K5 (K:Frag) (t:Adr):FD:=gC (A1 K t) P8
abbrev stB (p q:List Nat) (r:Int) (o5 o6 o7 o8:Option D):L:=[some yy,some (.hnd 5),some (.hnd 6),some (.hnd 7),some (.tup [.str p,.str q,.int r]),o5,o6,o7,o8]
theorem ui (T:Txt K mg t) {c:List Cell} {b j:Nat} {k r:Int} {rows:List D} {p q:List Nat} {hh:List Nat->Int} (h:BookAt t c b j 200 k rows) (hr:HR hh rows) (hk:∀ r∈rows,U2 r<=k) (hn:rows.length<=100) (hp:K7 p=true) (hq:K7 q=true) (r0:-(10 ^ 60) < r) (r1:r < 10 ^ 60) (good:Bool) (hg:good=true↔(Reach rows p q->r=hh q - hh p)) (o5 ot:Option D):
  ∃ c',(good=true->c'=fk t c b j 200 k rows (.str p) (.str q) (.int r))/\(good=false->∃ x,c'=c++x)/\V9 K t (stB p q r o5 (some (.bl good)) (some (.hnd b)) ot) c=some (.ok (.nx (stB p q r o5 (some (.bl good)) (some (.hnd b)) (some (.bl good)))) c'):=by
 have ix:∀ (o8:Option D) (i:Int) (d:D),ixM (.tup [.str p,.str q,.int r]) (.int i) c=some (.ok d c)->Ev (d2 ixM (dv 4) (dc (.int i))) (stB p q r o5 (some (.bl good)) (some (.hnd b)) o8) c d:=fun o8 i d h=>ev2 (x:=.tup [.str p,.str q,.int r]) (y:=.int i) rfl rfl h
 have cm:∀ {o:Out D},gN 4 (N7 K t) [.hnd b,.str p,.str q,.int r] c=some o->bo t.c_Book "take" 4 (N7 K t) [] (dv 7) (Q1 (d2 ixM (dv 4) (dc (.int 0))) (Q1 (d2 ixM (dv 4) (dc (.int 1))) (Q1 (d2 ixM (dv 4) (dc (.int 2))) Q9))) (stB p q r o5 (some (.bl good)) (some (.hnd b)) (some (.bl true))) c=some o:=fun {o} e=>
  (Uc (o:=.hnd b) (c1:=c) rfl (V7 h.ob) rfl (eva (ix _ 0 (.str p) rfl) (eva (ix _ 1 (.str q) rfl) (eva (ix _ 2 (.int r) rfl) evn)))).trans e
 have tst:∀ cc,EvT (tOf (d2 (eqM true) (dv 8) (dv 6))) (stB p q r o5 (some (.bl good)) (some (.hnd b)) (some (.bl good))) cc false:=fun cc=>I9 (ev2 (x:=.bl good) (y:=.bl good) rfl rfl (by simp [eqM,V6,J6,eqD]))
 have fin:∀ cc,Xn (G8 (bo t.c_Book "take" 4 (N7 K t) [] (dv 7) (Q1 (d2 ixM (dv 4) (dc (.int 0))) (Q1 (d2 ixM (dv 4) (dc (.int 1))) (Q1 (d2 ixM (dv 4) (dc (.int 2))) Q9))))) (Bi K t.x_Against (Y0 8 (dc (.bl false))) JQ) (stB p q r o5 (some (.bl good)) (some (.hnd b)) (some (.bl true))) c=some (.ok (.nx (stB p q r o5 (some (.bl good)) (some (.hnd b)) (some (.bl good)))) cc)->
   V9 K t (stB p q r o5 (some (.bl good)) (some (.hnd b)) ot) c=some (.ok (.nx (stB p q r o5 (some (.bl good)) (some (.hnd b)) (some (.bl good)))) cc):=fun cc e=>by
  unfold V9
  rw [Q6 (l':=stB p q r o5 (some (.bl good)) (some (.hnd b)) (some (.bl true))) (c':=c) rfl,Q6 e]
  exact (K8 (tst cc)).trans rfl
 rcases uG (K:=K) h hr.ok hk (by omega) p q r (QM hp hq r0 r1) (mI r c hp hq) (by omega) (fun s w=>(uh hr w).1) with ⟨cs,e⟩ | ⟨steps,w,hl,hs,e⟩
 ·have g:good=true:=hg.mpr fun g=>by
   rcases cs with n | ⟨steps,w,e⟩
   ·exact absurd g n
   ·rw [← e];exact (uh hr w).2
  subst g
  exact ⟨_,fun _=>rfl,(fun z=>by cases z),fin _ (QD (qg (cm e)))⟩
 ·have g:good=false:=by
   cases good with
   | false=>rfl
   | true=>exact absurd ((uh hr w).2.trans (hg.mp rfl (Qw w)).symm) hs
  subst g
  exact ⟨_,(fun z=>by cases z),fun _=>⟨_,rfl⟩,fin _ ((qJ (vP (cm e))).trans ((YX T.em_Against_Against).trans rfl))⟩
theorem uP (T:Txt K mg t) {H0 kt:List (DK×D)} {k r:Int} {rows:List D} {p q:List Nat} {hh:List Nat->Int} (hr:HR hh rows) (Tp:Tops hh rows kt) (hl:kt.length < 9000) (hk:∀ r∈rows,U2 r<=k) (hn:rows.length<=100) (hp:K7 p=true) (hq:K7 q=true) (r0:-(10 ^ 60) < r) (r1:r < 10 ^ 60):
  (∃ kk kt',HR kk (rows++[Q8 (k+1) p q r])/\Tops kk (rows++[Q8 (k+1) p q r]) kt'/\kt'.length<=kt.length+2/\
   gN 5 (K5 K t) [yy,.hnd 5,.hnd 6,.hnd 7,.tup [.str p,.str q,.int r]] (cS t H0 k rows k rows rows kt k)=some (.ok (.bl true) (cS t H0 (k+1) (rows++[Q8 (k+1) p q r]) (k+1) (rows++[Q8 (k+1) p q r]) (rows++[Q8 (k+1) p q r]) kt' (k+1))))\/
  gN 5 (K5 K t) [yy,.hnd 5,.hnd 6,.hnd 7,.tup [.str p,.str q,.int r]] (cS t H0 k rows k rows rows kt k)=some (.ok (.bl true) (cS t H0 k rows k rows rows kt k)):=by
 let c:=cS t H0 k rows k rows rows kt k
 have s1:Z1 P8 [yy,.hnd 5,.hnd 6,.hnd 7,.tup [.str p,.str q,.int r]]=stB p q r none none none none:=rfl
 have ix:∀ (cc:List Cell) (o5 o6 o7 o8:Option D) (i:Int) (d:D),ixM (.tup [.str p,.str q,.int r]) (.int i) cc=some (.ok d cc)->Ev (d2 ixM (dv 4) (dc (.int i))) (stB p q r o5 o6 o7 o8) cc d:=fun cc o5 o6 o7 o8 i d h=>ev2 (x:=.tup [.str p,.str q,.int r]) (y:=.int i) rfl rfl h
 obtain ⟨d5,good,e5,e6,hg⟩:∃ (d5:D) (good:Bool),gN 3 W4 [.hnd 6,.str p,.str q] c=some (.ok d5 c)/\Ev (Ga (d1 (U8 false) (dv 5)) (d2 (eqM false) (dv 5) (d2 ixM (dv 4) (dc (.int 2))))) (stB p q r (some d5) none none none) c (.bl good)/\(good=true↔(Reach rows p q->r=hh q - hh p)):=by
  rcases je Tp (c:=c) (j:=6) rfl p q with ⟨g,e⟩ | ⟨g,e⟩
  ·refine ⟨_,decide (hh q - hh p=r),e,qew (ev1 (x:=.int (hh q - hh p)) rfl rfl) (ev2 (x:=.int (hh q - hh p)) rfl (ix c _ _ _ _ 2 (.int r) rfl) (by simp [eqM,V6,J6,eqD];exact Bool.eq_iff_iff.mpr (by simp))),?_⟩
   rw [decide_eq_true_eq]
   exact ⟨fun z _=>z.symm,fun z=>(z g).symm⟩
  ·exact ⟨_,true,e,qev (ev1 (x:=.non) rfl rfl),⟨fun _ z=>absurd z g,fun _=>rfl⟩⟩
 have pre:∀ (R:Option (Out Fl)) (c2:List Cell),sIf (W6 (dv 6)) (Z4 (fU (dv 3) (dc (.int 0)) (d2 W3 (d2 ixM (dv 3) (dc (.int 0))) (dc (.int 1))))
   (Z4 (G8 (mM .lst K9 (dv 1) (Q1 (d2 W3 (vj (Q1 (d2 ixM (dv 3) (dc (.int 0))) Q9)) (dv 4)) Q9)))
   (G8 (Z7 2 vm [] (Q1 (dv 2) (Q1 (d2 ixM (dv 1) (d1 wO (dc (.int 1)))) Q9)))))) X0 (stB p q r (some d5) (some (.bl good)) none none) c=some (.ok (.nx (stB p q r (some d5) (some (.bl good)) none none)) c2)->
   Z4 (B2 (T9 (dv 0)) (J5 7) (V9 K t)) (Y1 (dc (.bl true))) (stB p q r (some d5) (some (.bl good)) none none) c2=R->A1 K t (Z1 P8 [yy,.hnd 5,.hnd 6,.hnd 7,.tup [.str p,.str q,.int r]]) c=R:=fun R c2 h1 h2=>by
  rw [s1]
  unfold A1
  rw [Q6 (l':=stB p q r (some d5) none none none) (c':=c) (J7 (i:=5) (evc (eva (x:=.hnd 6) rfl (eva (ix c _ _ _ _ 0 (.str p) rfl) (eva (ix c _ _ _ _ 1 (.str q) rfl) evn))) e5))]
  rw [Q6 (l':=stB p q r (some d5) (some (.bl good)) none none) (c':=c) (J7 (i:=6) e6),Q6 h1]
  exact h2
 have loop:∀ (c2 c3 c4:List Cell),V9 K t (stB p q r (some d5) (some (.bl good)) (some (.hnd 1)) none) c2=some (.ok (.nx (stB p q r (some d5) (some (.bl good)) (some (.hnd 1)) (some (.bl good)))) c3)->
   V9 K t (stB p q r (some d5) (some (.bl good)) (some (.hnd 3)) (some (.bl good))) c3=some (.ok (.nx (stB p q r (some d5) (some (.bl good)) (some (.hnd 3)) (some (.bl good)))) c4)->
   Z4 (B2 (T9 (dv 0)) (J5 7) (V9 K t)) (Y1 (dc (.bl true))) (stB p q r (some d5) (some (.bl good)) none none) c2=some (.ok (.ret (.bl true)) c4):=fun c2 c3 c4 h1 h2=>by
  rw [Q6 (l':=stB p q r (some d5) (some (.bl good)) (some (.hnd 3)) (some (.bl good))) (c':=c4) (by
   rw [js (S:=⟨[.hnd 1,.hnd 3],fun _=>True⟩) (c1:=c2) rfl]
   rw [Qa (l1:=stB p q r (some d5) (some (.bl good)) (some (.hnd 1)) none) rfl h1]
   rw [Qa (l1:=stB p q r (some d5) (some (.bl good)) (some (.hnd 3)) (some (.bl good))) rfl h2]
   simp [vf])]
  rfl
 cases good with
 | false=>
  obtain ⟨c3,_,h3,e3⟩:=ui (K:=K) T (c:=c) (b:=1) (j:=2) (p:=p) (q:=q) (r:=r) ⟨rfl,rfl⟩ hr hk hn hp hq r0 r1 false hg (some d5) none
  obtain ⟨x,rfl⟩:=h3 rfl
  have b2:BookAt t (c++x) 3 4 200 k rows:=BookAt.app ⟨rfl,rfl⟩
  obtain ⟨c4,_,h4,e4⟩:=ui (K:=K) T (p:=p) (q:=q) (r:=r) b2 hr hk hn hp hq r0 r1 false hg (some d5) (some (.bl false))
  obtain ⟨y,rfl⟩:=h4 rfl
  refine .inr (D9 rfl (c':=c++x++y) (pre _ c ((K8 (K6 (b:=false) rfl)).trans rfl) (loop _ _ _ e3 e4)) rfl ?_ ?_)
  ·rw [List.append_assoc];exact R6.app c _
  ·rw [List.append_assoc];exact Zv c _
 | true=>
  obtain ⟨rows',hrows⟩:∃ rows',rows'=rows++[Q8 (k+1) p q r]:=⟨_,rfl⟩
  obtain ⟨kk,hkk⟩:∃ kk,HR kk rows':=by
   rw [hrows]
   by_cases g:Reach rows p q
   ·exact ⟨hh,qc6 hr (hg.mp rfl g)⟩
   ·exact qc5 hr g
  have er:r=kk q - kk p:=by
   obtain ⟨n',p',q',e⟩:=hkk (Q8 (k+1) p q r) (by rw [hrows];simp)
   cases e
   rfl
  have hk0:HR kk rows:=Uk hkk fun x hx=>by rw [hrows];exact List.mem_append_left _ hx
  let c1:=cS t H0 k rows k rows rows' kt (k+1)
  obtain ⟨kt',T',len,el⟩:=yG (c:=c1) (j:=6) rfl (Tp.swap hr hk0) hl (k+1) r p q er
  rw [← hrows] at T' ⊢
  let c2:=cS t H0 k rows k rows rows' kt' (k+1)
  let c3:=cS t H0 (k+1) rows' k rows rows' kt' (k+1)
  let c4:=cS t H0 (k+1) rows' (k+1) rows' rows' kt' (k+1)
  obtain ⟨c3',h3,_,e3⟩:=ui (K:=K) T (c:=c2) (b:=1) (j:=2) (p:=p) (q:=q) (r:=r) ⟨rfl,rfl⟩ hr hk hn hp hq r0 r1 true hg (some d5) none
  have h3':c3'=c3:=(h3 rfl).trans (by show fk t c2 1 2 200 k rows (.str p) (.str q) (.int r)=c3;unfold fk;rw [← hrows];rfl)
  subst h3'
  obtain ⟨c4',h4,_,e4⟩:=ui (K:=K) T (c:=c3) (b:=3) (j:=4) (p:=p) (q:=q) (r:=r) ⟨rfl,rfl⟩ hr hk hn hp hq r0 r1 true hg (some d5) (some (.bl true))
  have h4':c4'=c4:=(h4 rfl).trans (by show fk t c3 3 4 200 k rows (.str p) (.str q) (.int r)=c4;unfold fk;rw [← hrows];rfl)
  subst h4'
  have o':=hkk.ok
  refine .inl ⟨kk,kt',hkk,T',len,D9 rfl (c':=c4) (pre _ c2 ((wz (K6 (b:=true) rfl)).trans ?_) (loop _ _ _ e3 e4)) rfl (XO o' o' o' (QF T' 8)) rfl⟩
  let c0:=cS t H0 k rows k rows rows kt (k+1)
  let st:=stB p q r (some d5) (some (.bl true)) none none
  have x1:fU (dv 3) (dc (.int 0)) (d2 W3 (d2 ixM (dv 3) (dc (.int 0))) (dc (.int 1))) st c=some (.ok (.nx st) c0):=by
   unfold fU
   rw [Z9 (x:=.int (k+1)) (c':=c) (K2 (ev2 (x:=.hnd 7) (y:=.int 0) (z:=.int k) rfl rfl rfl) (b:=1) rfl),Z9 (x:=.hnd 7) (c':=c) rfl,Z9 (x:=.int 0) (c':=c) rfl]
   rfl
  have x2:G8 (mM .lst K9 (dv 1) (Q1 (d2 W3 (vj (Q1 (d2 ixM (dv 3) (dc (.int 0))) Q9)) (dv 4)) Q9)) st c0=some (.ok (.nx st) c1):=by
   refine qg (x:=.non) ((Ue (to:=dv 1) (x:=.hnd 5) (c1:=c0) rfl rfl (eva (x:=Q8 (k+1) p q r) (ev2 (evt (eva (ev2 (x:=.hnd 7) (y:=.int 0) (z:=.int (k+1)) rfl rfl rfl) evn)) (y:=.tup [.str p,.str q,.int r]) rfl rfl) evn)).trans ?_)
   show (if rows.length < 1000000 then some (Out.ok D.non (c0.set 5 (.lst (rows++[Q8 (k+1) p q r])))) else none)=_
   rw [if_pos (by omega),← hrows]
   rfl
  have x3:Ev (d2 ixM (dv 1) (d1 wO (dc (.int 1)))) st c1 (Q8 (k+1) p q r):=by
   refine ev2 (x:=.hnd 5) (y:=.int (-1)) rfl rfl ?_
   show oM (atI rows' (-1)) c1=_
   have ll:rows'.length=rows.length+1:=by rw [hrows];simp
   have:atI rows' (-1)=some (Q8 (k+1) p q r):=by
    unfold atI ixN
    rw [if_neg (by decide),if_pos (by omega)]
    show rows'[(-1+(rows'.length:Int)).toNat]?=_
    rw [show (-1+(rows'.length:Int)).toNat=rows.length by omega,hrows,List.getElem?_append_right (Nat.le_refl _)]
    simp
   rw [this]
   rfl
  rw [Q6 x1,Q6 x2]
  exact qg ((B1 (eva (x:=.hnd 6) rfl (eva x3 evn))).trans el)
abbrev qe7 (ps:List (List Nat)) (k:Int) (x:D):Prop:=∃ n p q r,x=Q8 n p q r/\p∈ps/\q∈ps/\1<=n/\n<=k
theorem Wu {ps:List (List Nat)} {k:Int}:∀ {rows:List D},(∀ x∈rows,qe7 ps k x)->∀ x∈ends rows,x∈ps
 | [],_,x,hx=>by cases hx
 | y::ys,h,x,hx=>by
  obtain ⟨n,p,q,r,rfl,hp,hq,_⟩:=h y List.mem_cons_self
  rcases List.mem_cons.mp (show x∈p::q::ends ys from hx) with rfl | hx
  ·exact hp
  ·rcases List.mem_cons.mp hx with rfl | hx
   ·exact hq
   ·exact Wu (fun z hz=>h z (List.mem_cons_of_mem _ hz)) x hx
theorem xb:∀ {rows:List D},(rows.Pairwise fun x y=>U2 x < U2 y)->∀ {x:D},x∈rows->(rows.find? fun r=>decide (U2 r=U2 x))=some x
 | [],_,x,hx=>by cases hx
 | y::ys,h,x,hx=>by
  rw [List.pairwise_cons] at h
  rw [List.find?_cons]
  rcases List.mem_cons.mp hx with rfl | hx
  ·simp
  ·have:=h.1 x hx
   rw [decide_eq_false (by omega)]
   exact xb h.2 hx
theorem ZW {rows:List D} (h:rows.Pairwise fun x y=>U2 x < U2 y) {x y:D} (hx:x∈rows) (hy:y∈rows) (e:U2 x=U2 y):x=y:=by
 have a:=xb h hx
 rw [e] at a
 exact Option.some.inj (a.symm.trans (xb h hy))
theorem jK {rows:List D} (h:rows.Pairwise fun x y=>U2 x < U2 y) {i s:Int} {p q:List Nat} (hm:Q8 i p q s∈rows) (g:Reach (G1 rows i) p q) {a b:List Nat} (w:Reach rows a b):Reach (G1 rows i) a b:=by
 have ed:∀ {x y},Zs rows x y->Zs (G1 rows i) x y\/(x=p/\y=q):=fun {x y} ⟨n,r,e⟩=>by
  by_cases z:n=i
  ·have:=ZW h e hm (by show n=i;exact z)
   cases this
   exact .inr ⟨rfl,rfl⟩
  ·exact .inl ⟨n,r,List.mem_filter.mpr ⟨e,decide_eq_true z⟩⟩
 induction w with
 | refl=>exact .refl
 | fwd _ e ih=>
  rcases ed e with e | ⟨rfl,rfl⟩
  ·exact .fwd ih e
  ·exact W0 ih g
 | bwd _ e ih=>
  rcases ed e with e | ⟨rfl,rfl⟩
  ·exact .bwd ih e
  ·exact W0 ih (M8 g)
structure S8 (ps:List (List Nat)) (k:Int) (rows:List D):Prop where
 hr:∃ hh,HR hh rows
 nm:rows.Pairwise fun x y=>U2 x < U2 y
 en:∀ x∈rows,qe7 ps k x
 ln:rows.length<=100
theorem S8.sub {ps:List (List Nat)} {k:Int} {rows rows':List D} (h:S8 ps k rows) (s:rows'.Sublist rows):S8 ps k rows':=by
 obtain ⟨hh,hr⟩:=h.hr
 exact ⟨⟨hh,Uk hr fun x hx=>s.subset hx⟩,h.nm.sublist s,fun x hx=>h.en x (s.subset hx),Nat.le_trans s.length_le h.ln⟩
theorem S8.no {ps:List (List Nat)} {k:Int} {rows:List D} (h:S8 ps k rows) (i:Int):S8 ps k (G1 rows i):=h.sub List.filter_sublist
theorem mT {H0 kt:List (DK×D)} {k1 k2 kb:Int} {r1 r2 rr r1' r2':List D} (ex:List Cell) (h1:r1'.all U4=true) (h2:r2'.all U4=true):R6 (cS t H0 k1 r1 k2 r2 rr kt kb) (cS t H0 k1 r1' k2 r2' rr kt kb++ex):=by
 refine ⟨by simp,fun i x hi e=>?_⟩
 rw [List.getElem?_append_left (show i < (cS t H0 k1 r1' k2 r2' rr kt kb).length from hi)] at e
 match i,e with
 | 0,e=>exact .inl e
 | 1,e=>exact .inl e
 | 2,e=>cases (show some (Cell.dct (kvR r1'))=some x from e);exact .inr (Wo 8 h1)
 | 3,e=>exact .inl e
 | 4,e=>cases (show some (Cell.dct (kvR r2'))=some x from e);exact .inr (Wo 8 h2)
 | 5,e=>exact .inl e
 | 6,e=>exact .inl e
 | 7,e=>exact .inl e
 | i+8,e=>cases e
theorem qex {ta tb:ED} {l:L} {c:List Cell} {a m:Int} (h:Ev ta l c (.int a)) (h2:Ev tb l c (.int m)) (hm:0 < m):Ev (d2 X8 ta tb) l c (.int (a % m)):=ev2 h h2 (gy (show mv a m from hm))
abbrev A6:List Str:=["_law_books","_law_rows_here","_law_some","_law_row","_law_left","_law_before","_law_behind","_law_spare_here","_law_one","_law_other"]
theorem X2:FnScope A6 ["_law_books","_law_rows_here","_law_some","_law_row"] (Q5 K3):=scs
def P0 (K:Frag) (t:Adr):SD:=(Z4 (Y0 9 (d2 ixM (dv 2) (d2 X8 (d2 W3 (d2 ixM (dv 3) (dc (.int 0))) (d1 B3 (dv 8))) (d1 B3 (dv 2)))))
  (Z4 (sIf (N6 (Y9 (W6 (Z7 4 (yh K t) [] (Q1 (d2 ixM (dv 0) (dc (.int 0))) (Q1 (dv 5) (Q1 (dv 8) (Q1 (dv 9) Q9))))))) (Y9 (W6 (Z7 4 (yh K t) [] (Q1 (d2 ixM (dv 0) (dc (.int 1))) (Q1 (dv 6) (Q1 (dv 8) (Q1 (dv 9) Q9)))))))) (Y1 (dc (.bl false))) X0)
  (sIf (we (W6 (dv 7)) (tOf (d2 (eqM true) (Z7 3 W4 [] (Q1 (dv 5) (Q1 (dv 8) (Q1 (dv 9) Q9)))) (Z7 3 W4 [] (Q1 (dv 6) (Q1 (dv 8) (Q1 (dv 9) Q9))))))) (Y1 (dc (.bl false))) X0)))
def A8 (K:Frag) (t:Adr):SD:=(sIf (Y9 (W6 (Z7 3 (ku K t) [] (Q1 (d2 ixM (dv 0) (dc (.int 0))) (Q1 (dv 4) (Q1 (dv 9) Q9)))))) (Y1 (dc (.bl false))) X0)
def jj (K:Frag) (t:Adr):SD:=(Z4 (Y0 4 (Z7 2 X7 [] (Q1 (dv 1) (Q1 (d2 ixM (dv 3) (dc (.int 0))) Q9))))
  (Z4 (Y0 5 (Z7 1 L4 [] (Q1 (dv 1) Q9)))
  (Z4 (Y0 6 (Z7 1 L4 [] (Q1 (dv 4) Q9)))
  (Z4 (Y0 7 (d1 (U8 true) (Z7 3 W4 [] (Q1 (dv 6) (Q1 (d2 ixM (dv 3) (dc (.int 1))) (Q1 (d2 ixM (dv 3) (dc (.int 2))) Q9))))))
  (Z4 (sIf (N6 (Y9 (W6 (Z7 3 (ku K t) [] (Q1 (d2 ixM (dv 0) (dc (.int 0))) (Q1 (dv 1) (Q1 (dv 3) Q9)))))) (Y9 (W6 (Z7 2 yg [] (Q1 (N0 t.c_Book "kept" 1 (X3 K t) [] (d2 ixM (dv 0) (dc (.int 0))) Q9) (Q1 (dv 1) Q9)))))) (Y1 (dc (.bl false))) X0)
  (Z4 (sIf (tOf (d2 (eqM true) (N0 t.c_Book "drop" 2 (G4 K t) [] (d2 ixM (dv 0) (dc (.int 1))) (Q1 (d2 ixM (dv 3) (dc (.int 0))) Q9)) (dSl slS (dv 3) (T8 (dc (.int 1))) D4))) (Y1 (dc (.bl false))) X0)
  (Z4 (B2 (T9 (dv 2)) (J5 8) (P0 K t))
  (Z4 (sIf (Y9 (W6 (Z7 4 (yh K t) [] (Q1 (d2 ixM (dv 0) (dc (.int 1))) (Q1 (dv 6) (Q1 (d2 ixM (dv 3) (dc (.int 1))) (Q1 (d2 ixM (dv 3) (dc (.int 2))) Q9))))))) (Y1 (dc (.bl false))) X0)
  (Z4 (G8 (N0 t.c_Book "drop" 2 (G4 K t) [] (d2 ixM (dv 0) (dc (.int 0))) (Q1 (d2 ixM (dv 3) (dc (.int 0))) Q9)))
  (Z4 (B2 (T9 (dSl slS (dv 4) D4 (T8 (dc (.int 3))))) (J5 9) (A8 K t))
  (Y1 (dc (.bl true)))))))))))))
abbrev B6 (K:Frag) (t:Adr):FD:=gC (jj K t) A6
abbrev stO (d:D) (ps:List (List Nat)) (row:D) (o4 o5 o6 o7 o8 o9:Option D):L:=[some yy,some d,some (.lst (ps.map .str)),some row,o4,o5,o6,o7,o8,o9]
theorem fJ (T:Txt K mg t) {c:List Cell} {k i s:Int} {rows:List D} {p q:List Nat} {ps:List (List Nat)} {kA kB:List (DK×D)} {hh:List Nat->Int} {d:D} (S:S8 ps k rows) (hr:HR hh rows) (hm:Q8 i p q s∈rows) (b1:BookAt t c 1 2 200 k rows) (b2:BookAt t c 3 4 200 k (G1 rows i)) (TA:Tops hh rows kA) (TB:Tops hh (G1 rows i) kB) (lA:kA.length < 1000) (lB:kB.length < 1000) (zA:c[8]?=some (.dct kA)) (zB:c[9]?=some (.dct kB))
  (pl:0 < ps.length/\ps.length<=24) (pg:∀ p∈ps,K7 p=true) (sp:Bool) (hsp:sp=true->Reach (G1 rows i) p q) {a:List Nat} (ha:a∈ps) (o9:Option D):
  ∃ a9,P0 K t (stO d ps (Q8 i p q s) (some (.lst (G1 rows i))) (some (.hnd 8)) (some (.hnd 9)) (some (.bl sp)) (some (.str a)) o9) c=some (.ok (.nx (stO d ps (Q8 i p q s) (some (.lst (G1 rows i))) (some (.hnd 8)) (some (.hnd 9)) (some (.bl sp)) (some (.str a)) a9)) c):=by
 let st (o:Option D):L:=stO d ps (Q8 i p q s) (some (.lst (G1 rows i))) (some (.hnd 8)) (some (.hnd 9)) (some (.bl sp)) (some (.str a)) o
 have la:=gw (pg a ha)
 have hl:(0:Int) < ps.length:=by omega
 have e1:Ev (d1 B3 (dv 8)) (st o9) c (.int a.length):=ev1 (x:=.str a) rfl (by unfold B3;simp only;rw [if_pos (by omega)];rfl)
 have e2:Ev (d1 B3 (dv 2)) (st o9) c (.int ps.length):=ev1 (x:=.lst (ps.map .str)) rfl (by unfold B3;simp only [List.length_map];rfl)
 have e3:=qex (K2 (ev2 (f:=ixM) (ta:=dv 3) (tb:=dc (.int 0)) (l:=st o9) (x:=Q8 i p q s) (y:=.int 0) (z:=.int i) rfl rfl rfl) e1) e2 hl
 obtain ⟨b,hb,e4⟩:=qey (ta:=dv 2) (l:=st o9) (c:=c) (ps:=ps) rfl e3 (Int.emod_nonneg _ (by omega)) (Int.emod_lt_of_pos _ hl)
 have hin:=Wu S.en
 have S2:=S.no i
 have hr2:HR hh (G1 rows i):=Uk hr fun x hx=>(List.mem_filter.mp hx).1
 have hin2:=Wu S2.en
 have x1:=gj (K:=K) T b1 hr (Nat.le_trans S.ln (by omega)) TA zA (by omega) (pg a ha) (pg b hb) hin (by omega)
 have x2:=gj (K:=K) T b2 hr2 (Nat.le_trans S2.ln (by omega)) TB zB (by omega) (pg a ha) (pg b hb) hin2 (by omega)
 refine ⟨some (.str b),?_⟩
 unfold P0
 rw [Q6 (l':=st (some (.str b))) (c':=c) (J7 (i:=9) e4)]
 rw [Q6 (l':=st (some (.str b))) (c':=c) ((K8 (E8 (L5 (b:=true) (K6 (evc (eva (ev2 (x:=yy) (y:=.int 0) (z:=.hnd 1) rfl rfl rfl) (eva (x:=.hnd 8) rfl (eva (x:=.str a) rfl (eva (x:=.str b) rfl evn)))) x1))) (L5 (b:=true) (K6 (evc (eva (ev2 (x:=yy) (y:=.int 1) (z:=.hnd 3) rfl rfl rfl) (eva (x:=.hnd 9) rfl (eva (x:=.str a) rfl (eva (x:=.str b) rfl evn)))) x2))))).trans rfl)]
 cases sp with
 | false=>exact (K8 (XX (K6 (b:=false) rfl))).trans rfl
 | true=>
  have g:=hsp rfl
  obtain ⟨d',y1,y2,sh,eq⟩:∃ d',gN 3 W4 [.hnd 8,.str a,.str b] c=some (.ok d' c)/\gN 3 W4 [.hnd 9,.str a,.str b] c=some (.ok d' c)/\J6 20 (V6 d' c)=true/\eqD (V6 d' c) (V6 d' c)=true:=by
   rcases je TA zA a b with ⟨n,e⟩ | ⟨n,e⟩
   ·rcases je TB zB a b with ⟨n',e'⟩ | ⟨n',e'⟩
    ·exact ⟨_,e,e',rfl,by simp [V6,eqD]⟩
    ·exact absurd (jK S.nm hm g n) n'
   ·rcases je TB zB a b with ⟨n',e'⟩ | ⟨n',e'⟩
    ·exact absurd (xv (fun x hx=>(List.mem_filter.mp hx).1) n') n
    ·exact ⟨_,e,e',rfl,rfl⟩
  refine (K8 (XW (K6 (b:=true) rfl) (I9 (b:=false) (ev2 (evc (eva (x:=.hnd 8) rfl (eva (x:=.str a) rfl (eva (x:=.str b) rfl evn))) y1) (evc (eva (x:=.hnd 9) rfl (eva (x:=.str a) rfl (eva (x:=.str b) rfl evn))) y2) ?_)))).trans rfl
  unfold eqM
  rw [if_pos ⟨sh,sh⟩,eq]
  rfl
theorem Ke (T:Txt K mg t) {H0 kt:List (DK×D)} {k kb i s:Int} {rows rr:List D} {p q:List Nat} {ps:List (List Nat)} {d:D} (S:S8 ps k rows) (hd:RowsV (cS t H0 k rows k rows rr kt kb) rows d) (hm:Q8 i p q s∈rows) (pl:0 < ps.length/\ps.length<=24) (pg:∀ p∈ps,K7 p=true):
  gN 4 (B6 K t) [yy,d,.lst (ps.map .str),Q8 i p q s] (cS t H0 k rows k rows rr kt kb)=some (.ok (.bl true) (cS t H0 k (G1 rows i) k (G1 rows i) rr kt kb)):=by
 obtain ⟨hh,hr⟩:=S.hr
 obtain ⟨left,hleft⟩:∃ left,left=G1 rows i:=⟨_,rfl⟩
 let row:=Q8 i p q s
 have S2:S8 ps k left:=by rw [hleft];exact S.no i
 have hr2:HR hh left:=by rw [hleft];exact Uk hr fun x hx=>(List.mem_filter.mp hx).1
 have n1:rows.length<=400:=Nat.le_trans S.ln (by omega)
 have n2:left.length<=400:=Nat.le_trans S2.ln (by omega)
 have zf:(rows.find? fun r=>decide (U2 r=i))=some (Q8 i p q s):=xb S.nm hm
 obtain ⟨hp,hq⟩:p∈ps/\q∈ps:=by
  obtain ⟨_,_,_,_,e,hp,hq,_⟩:=S.en _ hm
  cases e
  exact ⟨hp,hq⟩
 let c0:=cS t H0 k rows k rows rr kt kb
 have e4:gN 2 X7 [d,.int i] c0=some (.ok (.lst left) c0):=by rw [hleft];exact bp hd S.hr.choose_spec.ok n1 i
 obtain ⟨kA,TA,lA,eA⟩:=Vf (c:=c0) hr n1 hd
 let c1:=c0++[Cell.dct kA]
 obtain ⟨kB,TB,lB,eB⟩:=Vf (c:=c1) hr2 n2 .val
 let ex:List Cell:=[.dct kA,.dct kB]
 let c2:=c0++ex
 have hd2:RowsV c2 rows d:=hd.app ex
 have b12:BookAt t c2 1 2 200 k rows:=⟨rfl,rfl⟩
 have b22:BookAt t c2 3 4 200 k rows:=⟨rfl,rfl⟩
 let c3:=cS t H0 k rows k left rr kt kb++ex
 let c4:=cS t H0 k left k left rr kt kb++ex
 have b13:BookAt t c3 1 2 200 k rows:=⟨rfl,rfl⟩
 have b23:BookAt t c3 3 4 200 k left:=⟨rfl,rfl⟩
 have b14:BookAt t c4 1 2 200 k left:=⟨rfl,rfl⟩
 let st (o4 o5 o6 o7 o8 o9:Option D):L:=stO d ps row o4 o5 o6 o7 o8 o9
 have s1:Z1 A6 [yy,d,.lst (ps.map .str),Q8 i p q s]=st none none none none none none:=rfl
 obtain ⟨sp,esp,hsp⟩:∃ sp:Bool,Ev (d1 (U8 true) (Z7 3 W4 [] (Q1 (dv 6) (Q1 (d2 ixM (dv 3) (dc (.int 1))) (Q1 (d2 ixM (dv 3) (dc (.int 2))) Q9))))) (st (some (.lst left)) (some (.hnd 8)) (some (.hnd 9)) none none none) c2 (.bl sp)/\(sp=true->Reach left p q):=by
  have ea:=eva (ta:=dv 6) (l:=st (some (.lst left)) (some (.hnd 8)) (some (.hnd 9)) none none none) (c:=c2) (x:=.hnd 9) rfl (eva (ev2 (f:=ixM) (ta:=dv 3) (tb:=dc (.int 1)) (x:=row) (y:=.int 1) (z:=.str p) rfl rfl rfl) (eva (ev2 (f:=ixM) (ta:=dv 3) (tb:=dc (.int 2)) (x:=row) (y:=.int 2) (z:=.str q) rfl rfl rfl) evn))
  rcases je TB (c:=c2) (j:=9) rfl p q with ⟨n,e⟩ | ⟨n,e⟩
  ·exact ⟨true,ev1 (evc ea e) rfl,fun _=>n⟩
  ·exact ⟨false,ev1 (evc ea e) rfl,fun z=>by cases z⟩
 let su (o8 o9:Option D):L:=st (some (.lst left)) (some (.hnd 8)) (some (.hnd 9)) (some (.bl sp)) o8 o9
 have bk0:∀ (o8 o9:Option D) (cc:List Cell),Ev (d2 ixM (dv 0) (dc (.int 0))) (su o8 o9) cc (.hnd 1):=fun o8 o9 cc=>ev2 (x:=yy) (y:=.int 0) rfl rfl rfl
 have bk1:∀ (o8 o9:Option D) (cc:List Cell),Ev (d2 ixM (dv 0) (dc (.int 1))) (su o8 o9) cc (.hnd 3):=fun o8 o9 cc=>ev2 (x:=yy) (y:=.int 1) rfl rfl rfl
 have rw0:∀ (o8 o9:Option D) (cc:List Cell),Ev (d2 ixM (dv 3) (dc (.int 0))) (su o8 o9) cc (.int i):=fun o8 o9 cc=>ev2 (x:=row) (y:=.int 0) rfl rfl rfl
 have rw1:∀ (o8 o9:Option D) (cc:List Cell),Ev (d2 ixM (dv 3) (dc (.int 1))) (su o8 o9) cc (.str p):=fun o8 o9 cc=>ev2 (x:=row) (y:=.int 1) rfl rfl rfl
 have rw2:∀ (o8 o9:Option D) (cc:List Cell),Ev (d2 ixM (dv 3) (dc (.int 2))) (su o8 o9) cc (.str q):=fun o8 o9 cc=>ev2 (x:=row) (y:=.int 2) rfl rfl rfl
 have ls:kA.length < 1000/\kB.length < 1000:=by have:=S.ln;have:=S2.ln;omega
 obtain ⟨l7,c7,e7,o8,o9,el,ec,_⟩:=C6 (chk:=fun _=>True) (g:=J5 8) (body:=P0 K t) (fun xs l c'=>∃ o8 o9,l=su o8 o9/\c'=c3/\∀ x∈xs,∃ a∈ps,x=.str a)
  (fun x xs l c' ⟨o8,o9,el,ec,hx⟩=>by
   subst el ec
   obtain ⟨a,ha,rfl⟩:=hx x List.mem_cons_self
   subst hleft
   obtain ⟨a9,e⟩:=fJ (K:=K) (d:=d) T S hr hm b13 b23 TA TB ls.1 ls.2 rfl rfl pl pg sp hsp ha o9
   exact ⟨trivial,_,rfl,_,_,.inl e,_,_,rfl,rfl,fun y hy=>hx y (List.mem_cons_of_mem _ hy)⟩)
  (fun _ _ _=>trivial) (ps.map .str) (su none none) c3 ⟨none,none,rfl,rfl,fun x hx=>by
   obtain ⟨a,ha,rfl⟩:=List.mem_map.mp hx
   exact ⟨a,ha,rfl⟩⟩
 subst el ec
 obtain ⟨few,hfew⟩:∃ few,few=DL.R5 left none (some 3):=⟨_,rfl⟩
 obtain ⟨l9,c9,e9,p8,p9,el,ec,_⟩:=C6 (chk:=fun _=>True) (g:=J5 9) (body:=A8 K t) (fun xs l c'=>∃ o8 o9,l=su o8 o9/\c'=c4/\∀ x∈xs,x∈left)
  (fun x xs l c' ⟨o8,o9,el,ec,hx⟩=>by
   subst el ec
   have hm2:=hx x List.mem_cons_self
   obtain ⟨n',p',q',s',rfl,_⟩:=S2.en x hm2
   have y1:=ud (K:=K) b14 hr2 n2 (.val (rows:=left)) (xb S2.nm hm2)
   refine ⟨trivial,_,rfl,su o8 (some (Q8 n' p' q' s')),c4,.inl ?_,_,_,rfl,rfl,fun y hy=>hx y (List.mem_cons_of_mem _ hy)⟩
   unfold A8
   exact (K8 (L5 (b:=true) (K6 (evc (eva (bk0 _ _ _) (eva (x:=.lst left) rfl (eva (x:=Q8 n' p' q' s') rfl evn))) y1)))).trans rfl)
  (fun _ _ _=>trivial) few (su o8 o9) c4 ⟨o8,o9,rfl,rfl,fun x hx=>by
   rw [hfew] at hx
   exact List.mem_of_mem_drop (List.mem_of_mem_take hx)⟩
 subst el ec
 rw [← hleft]
 refine D9 rfl (c':=c4) ?_ rfl (mT ex hr2.ok hr2.ok) rfl
 rw [s1]
 unfold jj
 rw [Q6 (l':=st (some (.lst left)) none none none none none) (c':=c0) (J7 (i:=4) (evc (eva (x:=d) rfl (eva (ev2 (x:=row) (y:=.int 0) (z:=.int i) rfl rfl rfl) evn)) e4))]
 rw [Q6 (l':=st (some (.lst left)) (some (.hnd 8)) none none none none) (c':=c1) (J7 (i:=5) ((B1 (eva (x:=d) rfl evn)).trans eA))]
 rw [Q6 (l':=st (some (.lst left)) (some (.hnd 8)) (some (.hnd 9)) none none none) (c':=c2) (J7 (i:=6) ((B1 (eva (x:=.lst left) rfl evn)).trans eB))]
 rw [Q6 (l':=su none none) (c':=c2) (J7 (i:=7) esp)]
 have y5:=ud (K:=K) b12 hr n1 hd2 zf
 have k5:Ev (N0 t.c_Book "kept" 1 (X3 K t) [] (d2 ixM (dv 0) (dc (.int 0))) Q9) (su none none) c2 (.lst rows):=(P4 (o:=.hnd 1) (c1:=c2) (bk0 _ _ _) (V7 b12.ob) rfl U1).trans (vo (K:=K) b12 hr.ok)
 rw [Q6 (l':=su none none) (c':=c2) ((K8 (E8 (L5 (b:=true) (K6 (evc (eva (bk0 _ _ _) (eva (x:=d) rfl (eva (x:=row) rfl evn))) y5))) (L5 (b:=true) (K6 (evc (eva k5 (eva (x:=d) rfl evn)) (Vg (Zx rows _) hd2.sees hr.ok)))))).trans rfl)]
 have y6:N0 t.c_Book "drop" 2 (G4 K t) [] (d2 ixM (dv 0) (dc (.int 1))) (Q1 (d2 ixM (dv 3) (dc (.int 0))) Q9) (su none none) c2=some (.ok (.tup [.str p,.str q,.int s]) c3):=by
  refine ((P4 (o:=.hnd 3) (c1:=c2) (bk1 _ _ _) (V7 b22.ob) rfl (eva (rw0 _ _ _) evn)).trans (Qh (K:=K) b22 zf)).trans ?_
  show _=some (Out.ok _ (cS t H0 k rows k left rr kt kb++ex))
  rw [hleft];rfl
 have y7:tOf (d2 (eqM true) (N0 t.c_Book "drop" 2 (G4 K t) [] (d2 ixM (dv 0) (dc (.int 1))) (Q1 (d2 ixM (dv 3) (dc (.int 0))) Q9)) (dSl slS (dv 3) (T8 (dc (.int 1))) D4)) (su none none) c2=some (.ok false c3):=by
  have sl:Ev (dSl slS (dv 3) (T8 (dc (.int 1))) D4) (su none none) c3 (.tup [.str p,.str q,.int s]):=by
   show slS (Q8 i p q s) (some 1) none c3=_
   simp only [slS,slM]
   rw [if_neg (by simp [HT.sIx])]
   rfl
  unfold tOf
  rw [Z9 ((Uw y6 sl).trans (show eqM true (.tup [.str p,.str q,.int s]) (.tup [.str p,.str q,.int s]) c3=some (.ok (.bl false) c3) by simp [eqM,V6,J6,eqD,vg]))]
  rfl
 rw [Q6 (l':=su none none) (c':=c3) ((K8 y7).trans rfl)]
 rw [Q6 (l':=su o8 o9) (c':=c3) (by
  rw [js (S:=⟨ps.map .str,fun _=>True⟩) (c1:=c3) rfl]
  exact e7)]
 have y8:=gj (K:=K) T b23 hr2 n2 TB (jt:=9) rfl (by omega) (pg p hp) (pg q hq) (Wu S2.en) (by omega)
 rw [Q6 (l':=su o8 o9) (c':=c3) ((K8 (L5 (b:=true) (K6 (evc (eva (bk1 _ _ _) (eva (x:=.hnd 9) rfl (eva (rw1 _ _ _) (eva (rw2 _ _ _) evn)))) y8)))).trans rfl)]
 rw [Q6 (l':=su o8 o9) (c':=c4) (qg (x:=.tup [.str p,.str q,.int s]) (((P4 (o:=.hnd 1) (c1:=c3) (bk0 _ _ _) (V7 b13.ob) rfl (eva (rw0 _ _ _) evn)).trans (Qh (K:=K) b13 zf)).trans (by
  show _=some (Out.ok _ (cS t H0 k left k left rr kt kb++ex))
  show some (Out.ok _ ((cS t H0 k rows k left rr kt kb++ex).set 2 (.dct (kvR (G1 rows i)))))=_
  rw [← hleft];rfl)))]
 rw [Q6 (l':=su p8 p9) (c':=c4) (by
  rw [js (S:=⟨few,fun _=>True⟩) (c1:=c4) (by rw [hfew];rfl)]
  exact e9)]
 rfl
abbrev yW:List Str:=["_law_script","_law_seed","_law_some","_law_highs_here","_law_books","_law_rows_here","_law_tops_here","_law_box","_law_k","_law_sighting_here","_law_row","_law_cell"]
theorem D7:FnScope yW ["_law_script"] (Q5 Xm):=scs
def fq (K:Frag) (t:Adr):SD:=(Z4 (Y0 9 (Z7 4 qe [] (Q1 (dv 2) (Q1 (dv 3) (Q1 (d2 ixM (dv 0) (dv 8)) (Q1 (dv 8) Q9))))))
  (sIf (Y9 (W6 (Z7 5 (K5 K t) [] (Q1 (dv 4) (Q1 (dv 5) (Q1 (dv 6) (Q1 (dv 7) (Q1 (dv 9) Q9)))))))) (Y1 (dc (.bl false))) X0))
def ft (K:Frag) (t:Adr):SD:=(Z4 (G8 (N0 t.c_Book "drop" 2 (G4 K t) [] (d2 ixM (dv 4) (dc (.int 0))) (Q1 (d2 ixM (dv 10) (dc (.int 0))) Q9)))
  (G8 (N0 t.c_Book "drop" 2 (G4 K t) [] (d2 ixM (dv 4) (dc (.int 1))) (Q1 (d2 ixM (dv 10) (dc (.int 0))) Q9))))
def fv (K:Frag) (t:Adr):SD:=(Z4 (Y0 11 (d2 Jt (d2 X8 (d2 N5 (d2 W3 (d2 X8 (Z7 2 M9 [] (Q1 (dv 0) (Q1 (d2 W3 (dc (.int 3)) (dv 8)) Q9))) (dc (.int 1000003))) (dv 8)) (dc (.int 69621))) (dc (.int 1000003))) (dc (.int 7))))
  (Z4 (sIf (Y9 (W6 (Z7 4 (A5 K t) [] (Q1 (d2 ixM (dv 4) (d2 X8 (dv 8) (dc (.int 2)))) (Q1 (dv 7) (Q1 (dv 5) (Q1 (dv 11) Q9))))))) (Y1 (dc (.bl false))) X0)
  (sIf (tOf (d2 (eqM true) (dv 5) (yt Q9))) (Z4 (Y0 10 (d2 ixM (dv 5) (d2 X8 (d2 X8 (d2 W3 (dv 11) (d2 N5 (dv 8) (dc (.int 5)))) (dc (.int 9973))) (d1 B3 (dv 5)))))
  (Z4 (sIf (Y9 (W6 (Z7 4 (B6 K t) [] (Q1 (dv 4) (Q1 (dv 5) (Q1 (dv 2) (Q1 (dv 10) Q9))))))) (Y1 (dc (.bl false))) X0)
  (Y0 5 (Z7 2 X7 [] (Q1 (dv 5) (Q1 (d2 ixM (dv 10) (dc (.int 0))) Q9)))))) X0)))
def xU (K:Frag) (t:Adr):SD:=(Z4 (Y0 1 (d2 X8 (d2 N5 (d2 W3 (d2 X8 (Z7 2 M9 [] (Q1 (dv 0) (Q1 (dc (.int 1)) Q9))) (dc (.int 2147483647))) (dc (.int 11))) (dc (.int 48271))) (dc (.int 2147483629))))
  (Z4 (Y0 2 (Z7 2 Zi [] (Q1 (Z7 2 M9 [] (Q1 (dv 0) (Q1 (dc (.int 0)) Q9))) (Q1 (d2 W3 (dc (.int 2)) (d2 X8 (dv 1) (dc (.int 6)))) Q9))))
  (Z4 (Y0 3 (Z7 2 mx [] (Q1 (dv 2) (Q1 (Z7 2 M9 [] (Q1 (dv 0) (Q1 (dc (.int 2)) Q9))) Q9))))
  (Z4 (Y0 4 (yt (Q1 (fun _=>mkM t.c_Book 2 (jd K t) [.int 200]) (Q1 (YO t.c_Book 2 (jd K t) [] (Q1 (dc (.int 200)) Q9)) Q9))))
  (Z4 (Y0 5 (wc Q9))
  (Z4 (Y0 6 uc)
  (Z4 (Y0 7 (wc (Q1 (dc (.int 0)) Q9)))
  (Z4 (B2 (iR2 (dc (.int 3)) (dB2 JC (d1 B3 (dv 0)) (dc (.int 43)))) (J5 8) (fq K t))
  (Z4 (sIf (tOf (d2 (eqM false) (d2 X8 (d2 Jt (dv 1) (dc (.int 6))) (dc (.int 2))) (dc (.int 1)))) (Z4 (B2 (T9 (dSl slS (dv 5) D4 (T8 (dc (.int 2))))) (J5 10) (ft K t))
  (Y0 5 (dSl slS (dv 5) (T8 (dc (.int 2))) D4))) X0)
  (Z4 (B2 (iR1 (dc (.int 3))) (J5 8) (fv K t))
  (Y1 (N8 (Z7 2 yg [] (Q1 (N0 t.c_Book "kept" 1 (X3 K t) [] (d2 ixM (dv 4) (dc (.int 0))) Q9) (Q1 (dv 5) Q9))) (Z7 2 yg [] (Q1 (N0 t.c_Book "kept" 1 (X3 K t) [] (d2 ixM (dv 4) (dc (.int 1))) Q9) (Q1 (dv 5) Q9)))))))))))))))
def f_law:List D->List Cell->Option D
 | [.scr ns],[]=>if ns.length<=63 then some (.bl true) else none
 | _,_=>none
abbrev Bj:FD:=gV f_law
theorem law_true (ns:List Int) (h:ns.length<=63):∃ c,Bj [.scr ns] []=some (.ok (.bl true) c):=⟨[],by simp [gV,f_law,h]⟩
abbrev stL (ns:List Int) (s:Int) (ps:List (List Nat)) (d5:D) (o8 o9 o10 o11:Option D):L:=[some (.scr ns),some (.int s),some (.lst (ps.map .str)),some (.hnd 0),some yy,some d5,some (.hnd 6),some (.hnd 7),o8,o9,o10,o11]
structure S9 (ps:List (List Nat)) (n:Nat) (k:Int) (rows:List D) (kt:List (DK×D)):Prop where
 st:S8 ps k rows
 tp:∃ hh,HR hh rows/\Tops hh rows kt
 k0:0<=k
 k1:k<=n
 lr:rows.length<=n
 lk:kt.length<=2 * n
section
variable {ns:List Int} {sd:Int} {ps:List (List Nat)} {H0:List (DK×D)}
theorem fG (T:Txt K mg t) (hH:qdp ps H0) (pl:0 < ps.length) (pg:∀ p∈ps,K7 p=true) {n:Nat} (hn:n < 43) {k:Int} {rows:List D} {kt:List (DK×D)} (h:S9 ps n k rows kt) (i:Int) (i0:0<=i) (i1:i < ns.length) (o9 o10 o11:Option D):
  ∃ k' rows' kt' a9,S9 ps (n+1) k' rows' kt'/\fq K t (stL ns sd ps (.hnd 5) (some (.int i)) o9 o10 o11) (cS t H0 k rows k rows rows kt k)=some (.ok (.nx (stL ns sd ps (.hnd 5) (some (.int i)) a9 o10 o11)) (cS t H0 k' rows' k' rows' rows' kt' k')):=by
 let c:=cS t H0 k rows k rows rows kt k
 obtain ⟨x,_,ex⟩:=uf (xs:=ns) i0 i1
 have ix:Ev (d2 ixM (dv 0) (dv 8)) (stL ns sd ps (.hnd 5) (some (.int i)) o9 o10 o11) c (.int x):=ev2 (x:=.scr ns) (y:=.int i) rfl rfl (by simp only [ixM,ex,oM,M.ret];rfl)
 obtain ⟨p,q,r,hp,hq,r0,r1,es⟩:=Gd ps H0 c 0 x i rfl pl hH
 obtain ⟨hh,hr,Tp⟩:=h.tp
 have lk:=h.lk
 have lr:=h.lr
 have le:∀ y∈rows,U2 y<=k:=fun y hy=>by
  obtain ⟨n',p',q',r',rfl,_,_,_,z⟩:=h.st.en y hy
  exact z
 have pre:∀ c2,gN 5 (K5 K t) [yy,.hnd 5,.hnd 6,.hnd 7,.tup [.str p,.str q,.int r]] c=some (.ok (.bl true) c2)->fq K t (stL ns sd ps (.hnd 5) (some (.int i)) o9 o10 o11) c=some (.ok (.nx (stL ns sd ps (.hnd 5) (some (.int i)) (some (.tup [.str p,.str q,.int r])) o10 o11)) c2):=fun c2 e=>by
  unfold fq
  rw [Q6 (l':=stL ns sd ps (.hnd 5) (some (.int i)) (some (.tup [.str p,.str q,.int r])) o10 o11) (c':=c) (J7 (i:=9) (evc (dds:=[]) (eva (x:=.lst (ps.map .str)) rfl (eva (x:=.hnd 0) rfl (eva ix (eva (x:=.int i) rfl evn)))) es))]
  have e0:=(B1 (n:=5) (g:=K5 K t) (dds:=[]) (l:=stL ns sd ps (.hnd 5) (some (.int i)) (some (.tup [.str p,.str q,.int r])) o10 o11) (c:=c) (eva (ta:=dv 4) (x:=yy) rfl (eva (ta:=dv 5) (x:=.hnd 5) rfl (eva (ta:=dv 6) (x:=.hnd 6) rfl (eva (ta:=dv 7) (x:=.hnd 7) rfl (eva (ta:=dv 9) (x:=.tup [.str p,.str q,.int r]) rfl evn)))))).trans e
  have t5:Y9 (W6 (Z7 5 (K5 K t) [] (Q1 (dv 4) (Q1 (dv 5) (Q1 (dv 6) (Q1 (dv 7) (Q1 (dv 9) Q9))))))) (stL ns sd ps (.hnd 5) (some (.int i)) (some (.tup [.str p,.str q,.int r])) o10 o11) c=some (.ok false c2):=by
   unfold Y9 W6
   rw [Z9 (x:=true) (c':=c2) (by rw [Z9 e0];rfl)]
   rfl
  exact (K8 t5).trans rfl
 rcases uP (K:=K) T (H0:=H0) hr Tp (by omega) le h.st.ln (pg p hp) (pg q hq) r0 r1 with ⟨kk,kt',hk,T',len,e⟩ | e
 ·refine ⟨k+1,_,kt',_,⟨⟨⟨kk,hk⟩,?_,fun y hy=>?_,?_⟩,⟨kk,hk,T'⟩,?_,?_,?_,?_⟩,pre _ e⟩
  ·rw [List.pairwise_append]
   refine ⟨h.st.nm,List.pairwise_singleton _ _,fun x hx y hy=>?_⟩
   rw [List.mem_singleton.mp hy]
   have:=le x hx
   show U2 x < k+1
   omega
  ·rcases List.mem_append.mp hy with hy | hy
   ·obtain ⟨n',p',q',r',e,a1,a2,a3,a4⟩:=h.st.en y hy
    exact ⟨n',p',q',r',e,a1,a2,a3,by omega⟩
   ·rw [List.mem_singleton.mp hy]
    exact ⟨k+1,p,q,r,rfl,hp,hq,by have:=h.k0;omega,Int.le_refl _⟩
  ·simp;omega
  ·have:=h.k0;omega
  ·have:=h.k1;omega
  ·simp;omega
  ·omega
 ·exact ⟨k,rows,kt,_,⟨h.st,h.tp,h.k0,by have:=h.k1;omega,by omega,by omega⟩,pre _ e⟩
theorem wM {x:D} {xs:List D} (h:(x::xs).Pairwise fun x y=>U2 x < U2 y):G1 (x::xs) (U2 x)=xs:=by
 rw [List.pairwise_cons] at h
 show List.filter _ (x::xs)=xs
 rw [List.filter_cons_of_neg (by simp)]
 exact List.filter_eq_self.mpr fun y hy=>by
  have:=h.1 y hy
  simp;omega
theorem qap (xs:List D):DL.R5 xs none (some 2)++xs.drop 2=xs/\DL.R5 xs (some 2) none=xs.drop 2:=by
 unfold DL.R5
 match xs with
 | []=>exact ⟨rfl,rfl⟩
 | [a]=>exact ⟨rfl,rfl⟩
 | a::b::r=>
  have e:HT.sIx (a::b::r).length 0 (some 2)=2:=by unfold HT.sIx;simp
  have e':HT.sIx (a::b::r).length (a::b::r).length (some 2)=2:=by unfold HT.sIx;simp
  have z:∀ n d,HT.sIx n d none=d:=fun _ _=>rfl
  rw [e,e',z,z]
  refine ⟨rfl,?_⟩
  show List.take ((a::b::r).length - 2) r=r
  exact List.take_of_length_le (by simp)
theorem YC {k:Int} {rows:List D} {kt:List (DK×D)} (h:S8 ps k rows) (o8 o9 o10 o11:Option D):
  ∃ a10,Z4 (B2 (T9 (dSl slS (dv 5) D4 (T8 (dc (.int 2))))) (J5 10) (ft K t)) (Y0 5 (dSl slS (dv 5) (T8 (dc (.int 2))) D4)) (stL ns sd ps (.hnd 5) o8 o9 o10 o11) (cS t H0 k rows k rows rows kt k)=some (.ok (.nx (stL ns sd ps (.lst (rows.drop 2)) o8 o9 a10 o11)) (cS t H0 k (rows.drop 2) k (rows.drop 2) rows kt k)):=by
 obtain ⟨q1,q2⟩:=qap rows
 obtain ⟨l',c',e,r1,o,el,ec,er,_⟩:=C6 (chk:=fun _=>True) (g:=J5 10) (body:=ft K t) (fun xs l c'=>∃ r1 o,l=stL ns sd ps (.hnd 5) o8 o9 o o11/\c'=cS t H0 k r1 k r1 rows kt k/\r1=xs++rows.drop 2/\S8 ps k r1)
  (fun x xs l c' ⟨r1,o,el,ec,er,hs⟩=>by
   subst el ec er
   have hx:x∈x::xs++rows.drop 2:=by simp
   obtain ⟨n,p,q,s,rfl,_⟩:=hs.en x hx
   have zf:=xb hs.nm hx
   have nh:G1 (Q8 n p q s::(xs++rows.drop 2)) n=xs++rows.drop 2:=wM hs.nm
   let ra:=Q8 n p q s::xs++rows.drop 2
   let rb:=xs++rows.drop 2
   let c0:=cS t H0 k ra k ra rows kt k
   let c1:=cS t H0 k rb k ra rows kt k
   let c2:=cS t H0 k rb k rb rows kt k
   let st:=stL ns sd ps (.hnd 5) o8 o9 (some (Q8 n p q s)) o11
   have b0:BookAt t c0 1 2 200 k ra:=⟨rfl,rfl⟩
   have b1:BookAt t c1 3 4 200 k ra:=⟨rfl,rfl⟩
   have d0:gN 2 (G4 K t) [.hnd 1,.int n] c0=some (.ok (.tup [.str p,.str q,.int s]) c1):=(Qh (K:=K) b0 zf).trans (by
    show some (Out.ok _ (c0.set 2 (.dct (kvR (G1 (Q8 n p q s::(xs++rows.drop 2)) n)))))=_
    rw [nh];rfl)
   have d1':gN 2 (G4 K t) [.hnd 3,.int n] c1=some (.ok (.tup [.str p,.str q,.int s]) c2):=(Qh (K:=K) b1 zf).trans (by
    show some (Out.ok _ (c1.set 4 (.dct (kvR (G1 (Q8 n p q s::(xs++rows.drop 2)) n)))))=_
    rw [nh];rfl)
   refine ⟨trivial,st,rfl,st,c2,.inl ?_,rb,_,rfl,rfl,rfl,hs.sub (List.sublist_cons_self _ _)⟩
   unfold ft
   rw [Q6 (l':=st) (c':=c1) (qg ((P4 (o:=.hnd 1) (c1:=c0) (ev2 (x:=yy) (y:=.int 0) rfl rfl rfl) (V7 b0.ob) rfl (eva (ev2 (x:=Q8 n p q s) (y:=.int 0) (z:=.int n) rfl rfl rfl) evn)).trans d0))]
   exact qg ((P4 (o:=.hnd 3) (c1:=c1) (ev2 (x:=yy) (y:=.int 1) rfl rfl rfl) (V7 b1.ob) rfl (eva (ev2 (x:=Q8 n p q s) (y:=.int 0) (z:=.int n) rfl rfl rfl) evn)).trans d1'))
  (fun _ _ _=>trivial) (DL.R5 rows none (some 2)) (stL ns sd ps (.hnd 5) o8 o9 o10 o11) (cS t H0 k rows k rows rows kt k) ⟨rows,o10,rfl,rfl,q1.symm,h⟩
 subst el ec
 rw [List.nil_append] at er
 subst er
 refine ⟨o,?_⟩
 rw [Q6 (l':=stL ns sd ps (.hnd 5) o8 o9 o o11) (c':=cS t H0 k (rows.drop 2) k (rows.drop 2) rows kt k) (by
  rw [js (S:=⟨DL.R5 rows none (some 2),fun _=>True⟩) (c1:=cS t H0 k rows k rows rows kt k) rfl]
  exact e)]
 refine (J7 (i:=5) (x:=.lst (DL.R5 rows (some 2) none)) (c1:=cS t H0 k (rows.drop 2) k (rows.drop 2) rows kt k) rfl).trans ?_
 rw [q2]
 rfl
theorem fW {c:List Cell} {rows:List D} {d:D} (h:RowsV c rows d):B3 d c=some (.ok (.int rows.length) c):=by
 cases h with
 | val=>rfl
 | cel h=>unfold B3;simp only [h]
theorem QV {c:List Cell} {rows:List D} {d x:D} {i:Int} (h:RowsV c rows d) (hx:atI rows i=some x):ixM d (.int i) c=some (.ok x c):=by
 cases h with
 | val=>unfold ixM;simp only [hx];rfl
 | cel h=>unfold ixM;simp only [h,hx];rfl
theorem yZ (T:Txt K mg t) (pl:0 < ps.length/\ps.length<=24) (pg:∀ p∈ps,K7 p=true) {k:Int} (k0:0<=k) (k1:k<=1000) {rows rr:List D} {kt:List (DK×D)} {d:D} (h:S8 ps k rows) (hd:RowsV (cS t H0 k rows k rows rr kt k) rows d) (i:Int) (i0:0<=i) (i1:i < 3) (o9 o10 o11:Option D):
  ∃ rows' d' a10 a11,S8 ps k rows'/\RowsV (cS t H0 k rows' k rows' rr kt k) rows' d'/\fv K t (stL ns sd ps d (some (.int i)) o9 o10 o11) (cS t H0 k rows k rows rr kt k)=some (.ok (.nx (stL ns sd ps d' (some (.int i)) o9 a10 a11)) (cS t H0 k rows' k rows' rr kt k)):=by
 let c:=cS t H0 k rows k rows rr kt k
 obtain ⟨hh,hr⟩:=h.hr
 have n1:rows.length<=400:=Nat.le_trans h.ln (by omega)
 obtain ⟨x,ex⟩:=vk ns (3+i) c (by omega)
 let st (d:D) (o10 o11:Option D):L:=stL ns sd ps d (some (.int i)) o9 o10 o11
 obtain ⟨n,e11⟩:∃ n:Int,Ev (d2 Jt (d2 X8 (d2 N5 (d2 W3 (d2 X8 (Z7 2 M9 [] (Q1 (dv 0) (Q1 (d2 W3 (dc (.int 3)) (dv 8)) Q9))) (dc (.int 1000003))) (dv 8)) (dc (.int 69621))) (dc (.int 1000003))) (dc (.int 7))) (st d o10 o11) c (.int n):=
  ⟨_,gL (evM (C7 (K2 (evM (evc (dds:=[]) (eva (x:=.scr ns) rfl (eva (K2 (a:=3) (b:=i) rfl rfl) evn)) ex) (by decide)) (b:=i) rfl) (b:=69621) rfl (.inr (.inl ⟨by decide,by decide⟩))) (by decide)) (by decide)⟩
 have lo:∀ r∈rows,1<=U2 r/\U2 r<=k:=fun y hy=>by
  obtain ⟨n',p',q',r',rfl,_,_,z1,z2⟩:=h.en y hy
  exact ⟨z1,z2⟩
 have e2:∃ b j,atI [D.hnd 1,.hnd 3] (i % 2)=some (.hnd b)/\BookAt t c b j 200 k rows:=by
  by_cases z:i % 2=0
  ·rw [z];exact ⟨1,2,rfl,rfl,rfl⟩
  ·rw [show i % 2=1 by omega];exact ⟨3,4,rfl,rfl,rfl⟩
 obtain ⟨b,j,eb,hb⟩:=e2
 have nn:=Kd (K:=K) T hb hr.ok n1 lo k0 k1 (jb:=7) rfl hd n
 have t1:EvT (Y9 (W6 (Z7 4 (A5 K t) [] (Q1 (d2 ixM (dv 4) (d2 X8 (dv 8) (dc (.int 2)))) (Q1 (dv 7) (Q1 (dv 5) (Q1 (dv 11) Q9))))))) (st d o10 (some (.int n))) c false:=
  L5 (b:=true) (K6 (evc (eva (qc8 (xs:=[D.hnd 1,.hnd 3]) rfl (evM (a:=i) rfl (by decide)) eb) (eva (x:=.hnd 7) rfl (eva (x:=d) rfl (eva (x:=.int n) rfl evn)))) nn))
 have t2:EvT (tOf (d2 (eqM true) (dv 5) (yt Q9))) (st d o10 (some (.int n))) c (!decide (rows=[])):=by
  refine I9 (ev2 (x:=d) rfl (evl evn) ?_)
  unfold eqM
  have q2:=Gw hr.ok
  rw [hd.sees.vw]
  have:V6 (.lst []) c=.lst []:=rfl
  rw [this,if_pos ⟨by simpa [J6] using q2,rfl⟩]
  cases rows with
  | nil=>rfl
  | cons y ys=>rfl
 have pre:∀ R,sIf (tOf (d2 (eqM true) (dv 5) (yt Q9))) (Z4 (Y0 10 (d2 ixM (dv 5) (d2 X8 (d2 X8 (d2 W3 (dv 11) (d2 N5 (dv 8) (dc (.int 5)))) (dc (.int 9973))) (d1 B3 (dv 5)))))
   (Z4 (sIf (Y9 (W6 (Z7 4 (B6 K t) [] (Q1 (dv 4) (Q1 (dv 5) (Q1 (dv 2) (Q1 (dv 10) Q9))))))) (Y1 (dc (.bl false))) X0)
   (Y0 5 (Z7 2 X7 [] (Q1 (dv 5) (Q1 (d2 ixM (dv 10) (dc (.int 0))) Q9)))))) X0 (st d o10 (some (.int n))) c=R->fv K t (st d o10 o11) c=R:=fun R e=>by
  unfold fv
  rw [Q6 (l':=st d o10 (some (.int n))) (c':=c) (J7 (i:=11) e11),Q6 (l':=st d o10 (some (.int n))) (c':=c) ((K8 t1).trans rfl)]
  exact e
 by_cases z:rows=[]
 ·rw [decide_eq_true z] at t2
  exact ⟨rows,d,_,_,h,hd,pre _ ((K8 t2).trans rfl)⟩
 ·rw [decide_eq_false z] at t2
  have lp:(0:Int) < rows.length:=by
   have:=List.length_pos_iff.mpr z
   omega
  have ei:=qex (evM (K2 (ta:=dv 11) (l:=st d o10 (some (.int n))) (c:=c) (a:=n) rfl (C7 (ta:=dv 8) (a:=i) rfl (tb:=dc (.int 5)) (b:=5) rfl (.inr (.inl ⟨by decide,by decide⟩)))) (m:=9973) (by decide)) (ev1 (ta:=dv 5) (x:=d) rfl (fW hd)) lp
  obtain ⟨row,hm,ea⟩:=uf (xs:=rows) (Int.emod_nonneg ((n+i * 5) % 9973) (by omega)) (Int.emod_lt_of_pos ((n+i * 5) % 9973) lp)
  obtain ⟨n',p,q,s,rfl,_⟩:=h.en row hm
  have lk:=Ke (K:=K) T h hd hm pl pg
  let c2:=cS t H0 k (G1 rows n') k (G1 rows n') rr kt k
  have hd2:RowsV c2 rows d:=by
   cases hd with
   | val=>exact .val
   | @cel a ha=>
    refine .cel (k:=a) ?_
    match a,ha with
    | 0,ha=>cases ha
    | 1,ha=>cases ha
    | 2,ha=>cases ha
    | 3,ha=>cases ha
    | 4,ha=>cases ha
    | 5,ha=>exact ha
    | 6,ha=>cases ha
    | 7,ha=>exact ha
    | a+8,ha=>cases ha
  have wo:=bp hd2 hr.ok n1 n'
  have e0:=(B1 (n:=4) (g:=B6 K t) (dds:=[]) (l:=st d (some (Q8 n' p q s)) (some (.int n))) (c:=c) (eva (ta:=dv 4) (x:=yy) rfl (eva (ta:=dv 5) (x:=d) rfl (eva (ta:=dv 2) (x:=.lst (ps.map .str)) rfl (eva (ta:=dv 10) (x:=Q8 n' p q s) rfl evn))))).trans lk
  have t3:Y9 (W6 (Z7 4 (B6 K t) [] (Q1 (dv 4) (Q1 (dv 5) (Q1 (dv 2) (Q1 (dv 10) Q9)))))) (st d (some (Q8 n' p q s)) (some (.int n))) c=some (.ok false c2):=by
   unfold Y9 W6
   rw [Z9 (x:=true) (c':=c2) (by rw [Z9 e0];rfl)]
   rfl
  refine ⟨G1 rows n',.lst (G1 rows n'),some (Q8 n' p q s),some (.int n),h.no n',.val,pre _ ((wz t2).trans ?_)⟩
  rw [Q6 (l':=st d (some (Q8 n' p q s)) (some (.int n))) (c':=c) (J7 (i:=10) (ev2 (x:=d) rfl ei (QV hd ea)))]
  rw [Q6 (l':=st d (some (Q8 n' p q s)) (some (.int n))) (c':=c2) ((K8 t3).trans rfl)]
  exact J7 (i:=5) (evc (eva (x:=d) rfl (eva (ev2 (x:=Q8 n' p q s) (y:=.int 0) (z:=.int n') rfl rfl rfl) evn)) wo)
end
theorem JH (T:Txt K mg t) (ns:List Int) (hns:ns.length<=63):∃ c',xU K t (Z1 yW [.scr ns]) []=some (.ok (.ret (.bl true)) c'):=by
 obtain ⟨x0,ex0⟩:=vk ns 0 [] (by decide)
 obtain ⟨x1,ex1⟩:=vk ns 1 [] (by decide)
 obtain ⟨x2,ex2⟩:=vk ns 2 [] (by decide)
 obtain ⟨s,hs⟩:∃ s,(x1 % 2147483647+11) * 48271 % 2147483629=s:=⟨_,rfl⟩
 obtain ⟨ps,hl,pg,ep⟩:=uJ x0 (2+s % 6) [] (by omega) (by omega)
 have pl:0 < ps.length/\ps.length<=24:=by omega
 obtain ⟨H0,hH,eh⟩:=xD ps x2 [] pl.2
 let ca:List Cell:=[.dct H0]
 let st (o1 o2 o3 o4 o5 o6 o7 o8 o9 o10 o11:Option D):L:=[some (.scr ns),o1,o2,o3,o4,o5,o6,o7,o8,o9,o10,o11]
 have s1:Z1 yW [.scr ns]=st none none none none none none none none none none none:=rfl
 let c0:=cS t H0 0 [] 0 [] [] [] 0
 obtain ⟨m,hm⟩:∃ m:Int,m=min (ns.length:Int) 43:=⟨_,rfl⟩
 have i0:S9 ps 0 0 [] []:=⟨⟨⟨fun _=>0,fun x hx=>by cases hx⟩,List.Pairwise.nil,(fun x hx=>by cases hx),by simp⟩,⟨fun _=>0,(fun x hx=>by cases hx),Tops.nil _⟩,Int.le_refl _,Int.le_refl _,Nat.le_refl _,Nat.le_refl _⟩
 obtain ⟨l1,c1,e1,k,rows,kt,o8,o9,el,ec,h9⟩:=my (g:=J5 8) (body:=fq K t) 3 (m - 3).toNat (fun i l c'=>∃ k rows kt o8 o9,l=stL ns s ps (.hnd 5) o8 o9 none none/\c'=cS t H0 k rows k rows rows kt k/\S9 ps i k rows kt)
  (fun i l c' hi ⟨k,rows,kt,o8,o9,el,ec,h9⟩=>by
   subst el ec
   obtain ⟨k',rows',kt',a9,h',e⟩:=fG (K:=K) (ns:=ns) (sd:=s) T hH pl.1 pg (by omega) h9 (3+(i:Nat)) (by omega) (by omega) o9 none none
   exact ⟨_,rfl,_,_,.inl e,k',rows',kt',_,_,rfl,rfl,h'⟩)
  (l:=stL ns s ps (.hnd 5) none none none none) (c:=c0) ⟨0,[],[],_,_,rfl,rfl,i0⟩
 subst el ec
 have k1:k<=1000:=by have:=h9.k1;omega
 obtain ⟨r2,d2,rr,a10,h8,v2,e2⟩:∃ (r2:List D) (d':D) (rr:List D) (a10:Option D),S8 ps k r2/\RowsV (cS t H0 k r2 k r2 rr kt k) r2 d'/\
   sIf (tOf (d2 (eqM false) (d2 X8 (d2 Jt (dv 1) (dc (.int 6))) (dc (.int 2))) (dc (.int 1)))) (Z4 (B2 (T9 (dSl slS (dv 5) D4 (T8 (dc (.int 2))))) (J5 10) (ft K t))
    (Y0 5 (dSl slS (dv 5) (T8 (dc (.int 2))) D4))) X0 (stL ns s ps (.hnd 5) o8 o9 none none) (cS t H0 k rows k rows rows kt k)=some (.ok (.nx (stL ns s ps d' o8 o9 a10 none)) (cS t H0 k r2 k r2 rr kt k)):=by
  have t1:EvT (tOf (d2 (eqM false) (d2 X8 (d2 Jt (dv 1) (dc (.int 6))) (dc (.int 2))) (dc (.int 1)))) (stL ns s ps (.hnd 5) o8 o9 none none) (cS t H0 k rows k rows rows kt k) (decide (s / 6 % 2=1)):=bS (evM (gL (a:=s) rfl (by decide)) (by decide)) (b:=1) rfl
  by_cases z:s / 6 % 2=1
  ·rw [decide_eq_true z] at t1
   obtain ⟨a10,e⟩:=YC (K:=K) (t:=t) (ns:=ns) (sd:=s) (H0:=H0) (kt:=kt) h9.st o8 o9 none none
   exact ⟨rows.drop 2,.lst (rows.drop 2),rows,a10,h9.st.sub (List.drop_sublist 2 rows),.val,(wz t1).trans e⟩
  ·rw [decide_eq_false z] at t1
   exact ⟨rows,.hnd 5,rows,none,h9.st,.cel rfl,(K8 t1).trans rfl⟩
 obtain ⟨l3,c3,e3,r3,d3,p8,p10,p11,el,ec,h3,v3⟩:=my (g:=J5 8) (body:=fv K t) 0 3 (fun i l c'=>∃ r3 d3 p8 p10 p11,l=stL ns s ps d3 p8 o9 p10 p11/\c'=cS t H0 k r3 k r3 rr kt k/\S8 ps k r3/\RowsV c' r3 d3)
  (fun i l c' hi ⟨r3,d3,p8,p10,p11,el,ec,h3,v3⟩=>by
   subst el ec
   obtain ⟨r',d',q10,q11,h',v',e⟩:=yZ (K:=K) (ns:=ns) (sd:=s) T pl pg h9.k0 k1 h3 v3 (0+(i:Nat)) (by omega) (by omega) o9 p10 p11
   exact ⟨_,rfl,_,_,.inl e,r',d',_,_,_,rfl,rfl,h',v'⟩)
  (l:=stL ns s ps d2 o8 o9 a10 none) (c:=cS t H0 k r2 k r2 rr kt k) ⟨r2,d2,_,_,_,rfl,rfl,h8,v2⟩
 subst el ec
 let c4:=cS t H0 k r3 k r3 rr kt k
 refine ⟨c4,?_⟩
 rw [s1]
 unfold xU
 rw [Q6 (l':=st (some (.int s)) none none none none none none none none none none) (c':=[]) (J7 (i:=1) (by rw [← hs];exact evM (C7 (K2 (evM (evc (dds:=[]) (eva (x:=.scr ns) rfl (eva (x:=.int 1) rfl evn)) ex1) (by decide)) (b:=11) rfl) (b:=48271) rfl (.inr (.inl ⟨by decide,by decide⟩))) (by decide)))]
 rw [Q6 (l':=st (some (.int s)) (some (.lst (ps.map .str))) none none none none none none none none none) (c':=[]) (J7 (i:=2) (evc (dds:=[]) (eva (evc (dds:=[]) (eva (x:=.scr ns) rfl (eva (x:=.int 0) rfl evn)) ex0) (eva (K2 (a:=2) rfl (evM (a:=s) rfl (by decide))) evn)) ep))]
 rw [Q6 (l':=st (some (.int s)) (some (.lst (ps.map .str))) (some (.hnd 0)) none none none none none none none none) (c':=ca) (J7 (i:=3) ((B1 (dds:=[]) (eva (x:=.lst (ps.map .str)) rfl (eva (evc (dds:=[]) (eva (x:=.scr ns) rfl (eva (x:=.int 2) rfl evn)) ex2) evn))).trans eh))]
 let cb:=wN t (wN t ca 200) 200
 rw [Q6 (l':=st (some (.int s)) (some (.lst (ps.map .str))) (some (.hnd 0)) (some yy) none none none none none none none) (c':=cb) (J7 (i:=4) (by
  unfold yt
  rw [Z9 (x:=[.hnd 1,.hnd 3]) (c':=cb) (by
   refine Y7 (c1:=wN t ca 200) (Bd 200 ca) (Y7 (x:=.hnd 3) (c1:=cb) ?_ U1)
   unfold YO
   rw [Z9 (x:=[.int 200]) (c':=wN t ca 200) (eva (x:=.int 200) rfl evn)]
   exact Bd 200 (wN t ca 200))]
  rfl))]
 rw [Q6 (l':=st (some (.int s)) (some (.lst (ps.map .str))) (some (.hnd 0)) (some yy) (some (.hnd 5)) none none none none none none) (c':=cb++[.lst []]) rfl]
 rw [Q6 (l':=st (some (.int s)) (some (.lst (ps.map .str))) (some (.hnd 0)) (some yy) (some (.hnd 5)) (some (.hnd 6)) none none none none none) (c':=cb++[.lst []]++[.dct []]) rfl]
 rw [Q6 (l':=stL ns s ps (.hnd 5) none none none none) (c':=c0) rfl]
 rw [Q6 (l':=stL ns s ps (.hnd 5) o8 o9 none none) (c':=cS t H0 k rows k rows rows kt k) (by
  rw [js (S:=⟨W5 3 (m - 3).toNat,fun _=>True⟩) (c1:=c0) (by
   have em:Ev (dB2 JC (d1 B3 (dv 0)) (dc (.int 43))) (stL ns s ps (.hnd 5) none none none none) c0 (.int m):=by
    show dB2 _ _ _ _ _=_
    unfold dB2
    rw [Z9 (x:=.int ns.length) (c':=c0) rfl,Z9 (x:=.int 43) (c':=c0) rfl]
    simp only [JC]
    by_cases z:(43:Int) < ns.length
    ·rw [if_pos z,show m=43 by omega];rfl
    ·rw [if_neg z,show m=ns.length by omega];rfl
   exact JO (i:=3) rfl em (by decide) (by omega))]
  exact e1)]
 rw [Q6 e2]
 rw [Q6 (l':=stL ns s ps d3 p8 o9 p10 p11) (c':=c4) (by
  rw [js (S:=⟨W5 0 (3:Int).toNat,fun _=>True⟩) (c1:=cS t H0 k r2 k r2 rr kt k) (gI (z:=3) rfl (by decide) (by decide))]
  exact e3)]
 obtain ⟨hh,hr3⟩:=h3.hr
 have b1:BookAt t c4 1 2 200 k r3:=⟨rfl,rfl⟩
 have b2:BookAt t c4 3 4 200 k r3:=⟨rfl,rfl⟩
 refine N3 (Uo (evc (dds:=[]) (eva ((P4 (o:=.hnd 1) (c1:=c4) (ev2 (x:=yy) (y:=.int 0) rfl rfl rfl) (V7 b1.ob) rfl U1).trans (vo (K:=K) b1 hr3.ok)) (eva (x:=d3) rfl evn)) (Vg (Zx r3 _) v3.sees hr3.ok)) (evc (dds:=[]) (eva ((P4 (o:=.hnd 3) (c1:=c4) (ev2 (x:=yy) (y:=.int 1) rfl rfl rfl) (V7 b2.ob) rfl U1).trans (vo (K:=K) b2 hr3.ok)) (eva (x:=d3) rfl evn)) (Vg (Zx r3 _) v3.sees hr3.ok)))
theorem qd6 (T:Txt K mg t):RN 1 (Bj) (xU K t) yW:=by
 intro ds c r hl h
 unfold Bj gV at h
 cases z:f_law ds c with
 | none=>rw [z] at h;cases h
 | some d=>
  rw [z] at h
  cases h
  unfold f_law at z
  split at z
  ·rename_i ns
   split at z
   ·rename_i hns
    cases z
    obtain ⟨c',e⟩:=JH T ns hns
    refine ⟨_,_,rfl,?_⟩
    rw [e]
    exact DL.Fin.val (c:=[]) (c':=c') rfl ⟨Nat.zero_le _,fun _ _ h _=>absurd h (Nat.not_lt_zero _)⟩
   ·cases z
  ·cases z
theorem YZ (T:Txt K mg t):B0 P w K mg base 0 "is_peg" ja t.f_is_peg D0 zw:=fun cdv A outer s H E hr=>have hu:=hr.units
 (Q4 (W1 (B4 (X9 (gg .str T.b_isinstance T.b_str (Q0 0)))) (Q7 (J1 D5)) J8)
   (Q7 (J1 (yr (vX Q3 (ju T.b_len (Q0 0)) Q3) (gf (qde rfl T.b_all (Ww [] (CompScope.of rfl (by show gi (Q5 ja).names _=true;decide +kernel)) rfl (L6 (Q0 0)) (by show jr D0 _ _=true;decide +kernel) (fun _ _ _ _ _=>U0 (i:=0) (by show (N9 _ D0 _).Nodup;decide +kernel)) (fun _ _ _ _ _=>zL) (fun _ _ _ _ _=>(vX (D8 [97]) (Q0 0) (D8 [122]))) zo)))))))
theorem uu (T:Txt K mg t):FnOk P w K mg base CX0 1 t.f_is_peg t.d_is_peg ["thing"] (spD K 1 C5):=
 T7 T.F_is_peg fT rfl (YZ T) QZ
theorem xN (T:Txt K mg t):B0 P w K mg base 0 "is_whole" E6 t.f_is_whole zm ya:=fun cdv A outer s H E hr=>have hu:=hr.units
 (Q7 (J1 (yr (gg .int T.b_isinstance T.b_int (Q0 0)) (gf (YG (gg .bl T.b_isinstance T.b_bool (Q0 0)))))))
theorem mr (T:Txt K mg t):FnOk P w K mg base CX0 1 t.f_is_whole t.d_is_whole ["thing"] (spD K 1 G9):=
 T7 T.F_is_whole jF rfl (xN T) kX
theorem YY (T:Txt K mg t):B0 P w K mg base 0 "turned" yc t.f_turned Yd Xb:=fun cdv A outer s H E hr=>have hu:=hr.units
 (Q7 (J1 (gc (Q2 (J0 (Q0 0) Q3) (Q2 (J0 (Q0 0) Q3) (Q2 (bh Q3 (J0 (Q0 0) Q3)) Z0))))))
theorem mH (T:Txt K mg t):FnOk P w K mg base CX0 1 t.f_turned t.d_turned ["sighting"] (spD K 1 gz):=
 T7 T.F_turned fS rfl (YY T) QY
theorem qas (T:Txt K mg t):B0 P w K mg base 0 "total" kn t.f_total br Wl:=fun cdv A outer s H E hr=>have hu:=hr.units
 (Q7 (J1 (qdc rfl T.b_sum (Ww [] (CompScope.of rfl (by show gi (Q5 kn).names _=true;decide +kernel)) rfl (L6 (Q0 0)) (by show jr br _ _=true;decide +kernel) (fun _ _ _ _ _=>U0 (i:=0) (by show (N9 _ br _).Nodup;decide +kernel)) (fun _ _ _ _ _=>zL) (fun _ _ _ _ _=>(J0 (Q0 0) Q3)) zo))))
theorem jV (T:Txt K mg t):FnOk P w K mg base CX0 1 t.f_total t.d_total ["steps"] (spD K 1 vc):=
 T7 T.F_total QT rfl (qas T) WC
theorem yR (T:Txt K mg t):B0 P w K mg base 0 "Book.__init__" T3 t.f_Book_init wm (fw K t):=fun cdv A outer s H E hr=>have hu:=hr.units
 (Q4 (gT t.c_Book T.cl_Book T.na_Book_most (Q0 0) (Q0 1))
   (Q4 (gT t.c_Book T.cl_Book T.na_Book_taken (Q0 0) Q3)
   (Q7 (gT t.c_Book T.cl_Book T.na_Book_rows (Q0 0) Jv))))
theorem Jg (T:Txt K mg t):FnOk P w K mg base CX0 1 t.f_Book_init t.d_Book_init ["self","most"] (spD K 2 (jd K t)):=
 T7 T.F_Book_init qO rfl (yR T) Vk
theorem yQ (T:Txt K mg t):B0 P w K mg base 0 "Book.kept" S7 t.f_Book_kept jh (zy K t):=fun cdv A outer s H E hr=>have hu:=hr.units
 (Q7 (J1 (YJ rfl T.b_list (jv t.c_Book T.cl_Book T.na_Book_rows (Q0 0)))))
theorem P3 (T:Txt K mg t):FnOk P w K mg base CX0 1 t.f_Book_kept t.d_Book_kept ["self"] (spD K 1 (X3 K t)):=
 T7 T.F_Book_kept qN rfl (yQ T) QU
theorem Gg (T:Txt K mg t):B0 P w K mg base 0 "_law_cell_at" M5 t.f_law_cell_at R1 C2:=fun cdv A outer s H E hr=>have hu:=hr.units
 (Q4 (W1 (qbk (Q0 1) (ju T.b_len (Q0 0))) (Q7 (J1 (J0 (Q0 0) (Q0 1)))) J8)
   (Q7 (J1 Q3)))
theorem qd (T:Txt K mg t):FnOk P w K mg base CX0 1 t.f_law_cell_at t.d_law_cell_at ["_law_script","_law_k"] (spD K 2 M9):=
 T7 T.F_law_cell_at Xj rfl (Gg T) xX
theorem yL (T:Txt K mg t):B0 P w K mg base 0 "_law_whole" R8 t.f_law_whole wf fm:=fun cdv A outer s H E hr=>have hu:=hr.units
 (Q7 (J1 (yr (gg .int T.b_isinstance T.b_int (Q0 0)) (gf (YG (gg .bl T.b_isinstance T.b_bool (Q0 0)))))))
theorem xw (T:Txt K mg t):FnOk P w K mg base CX0 1 t.f_law_whole t.d_law_whole ["_law_found"] (spD K 1 E9):=
 T7 T.F_law_whole qL rfl (yL T) jN
theorem xF (T:Txt K mg t):B0 P w K mg base 0 "_law_word" A9 t.f_law_word bt Qx:=fun cdv A outer s H E hr=>have hu:=hr.units
 (Q4 (Z8 (i:=1) km.nd (D8 []))
   (Q4 (N1 PassesOwn.never rfl (Qd T.b_range Q3) (U0 (i:=2) km.nd)
   (Q7 (Z8 (i:=1) km.nd (V3 (Q0 1) (J0 (D8 [97,98,99,100,101,102,103,104,105,106,107,108,109,110,111,112,113,114,115,116,117,118,119,120,121,122]) (W2 (W2 (B5 (Q0 0) (V3 (B5 (Q0 2) (Q0 2)) Q3)) Q3) Q3))))) zq)
   (Q7 (J1 (Q0 1)))))
theorem Vl (T:Txt K mg t):FnOk P w K mg base CX0 1 t.f_law_word t.d_law_word ["_law_number"] (spD K 1 bc):=
 T7 T.F_law_word km rfl (xF T) fe
theorem yN (T:Txt K mg t):B0 P w K mg base 0 "_law_highs" S4 t.f_law_highs wg fo:=fun cdv A outer s H E hr=>have hu:=hr.units
 (Q4 (Z8 (i:=2) qc.nd Jv)
   (Q4 (Z8 (i:=3) qc.nd (W2 (Q0 1) (Zm Q3 Q3)))
   (Q4 (N1 PassesOwn.never rfl (Qd T.b_range (ju T.b_len (Q0 0))) (U0 (i:=4) qc.nd)
   (Q4 (Z8 (i:=5) qc.nd (B5 (V3 (V3 (B5 (Q0 4) (Q0 4)) (B5 Q3 (Q0 4))) Q3) (V3 (B5 Q3 (Zm Q3 Q3)) Q3)))
   (Q4 (Qc hu (W2 (B5 (V3 (Q0 3) (Q0 4)) (Q0 5)) (B5 Q3 (Zm Q3 Q3))) (Q0 2) (J0 (Q0 0) (Q0 4)))
   (Q7 (W1 (Jr hu (W2 (Q0 1) Q3) Q3) (Q7 (Qc hu (W2 (B5 (Q0 4) (Q0 4)) Q3) (Q0 2) (J0 (Q0 0) (Q0 4)))) J8)))) zq)
   (Q7 (J1 (Q0 2))))))
theorem qY (T:Txt K mg t):FnOk P w K mg base CX0 1 t.f_law_highs t.d_law_highs ["_law_some","_law_cell"] (spD K 2 mx):=
 T7 T.F_law_highs qc rfl (yN T) Vk
theorem Kk (T:Txt K mg t):B0 P w K mg base 0 "_law_sighting" G7 t.f_law_sighting ql vz:=fun cdv A outer s H E hr=>have hu:=hr.units
 (Q4 (Z8 (i:=4) U3.nd (V3 (W2 (V3 (Q0 2) (Q0 3)) Q3) Q3))
   (Q4 (Z8 (i:=5) U3.nd (J0 (Q0 0) (W2 (W2 (B5 (Q0 4) Q3) Q3) (ju T.b_len (Q0 0)))))
   (Q4 (Z8 (i:=6) U3.nd (J0 (Q0 0) (W2 (W2 (B5 (Q0 4) Q3) Q3) (ju T.b_len (Q0 0)))))
   (Q4 (Z8 (i:=7) U3.nd (W2 (W2 (B5 (Q0 4) Q3) Q3) Q3))
   (Q4 (Z8 (i:=8) U3.nd (bh (R4 hu (Q0 1) (Q0 6)) (R4 hu (Q0 1) (Q0 5))))
   (Q4 (W1 (Jr hu (Q0 7) Q3) (Q7 (Z8 (i:=8) U3.nd (bh (V3 (Q0 8) Q3) (B5 Q3 (W2 (Q0 4) Q3))))) J8)
   (Q4 (W1 (Jr hu (Q0 7) Q3) (Q7 (Z8 (i:=8) U3.nd (bh (W2 (Q0 2) (bh (B5 Q3 (Zm Q3 Q3)) Q3)) (bh (Zm Q3 Q3) Q3)))) J8)
   (Q7 (J1 (gc (Q2 (Q0 5) (Q2 (Q0 6) (Q2 (Q0 8) Z0)))))))))))))
theorem Vz (T:Txt K mg t):FnOk P w K mg base CX0 1 t.f_law_sighting t.d_law_sighting ["_law_some","_law_highs_here","_law_cell","_law_k"] (spD K 4 qe):=
 T7 T.F_law_sighting U3 rfl (Kk T) fe
theorem uT (T:Txt K mg t):B0 P w K mg base 0 "_law_lay" qw t.f_law_lay Vi uk:=fun cdv A outer s H E hr=>have hu:=hr.units
 (Q4 (N1 PassesOwn.never rfl (L6 (bj (Q2 (J0 (Q0 1) Q3) (Q2 (J0 (Q0 1) Q3) Z0)))) (U0 (i:=2) qt.nd)
   (Q7 (W1 (kz hu (Q0 2) (Q0 0)) (Q7 (Qc hu (gc (Q2 (Q0 2) (Q2 Q3 Z0))) (Q0 0) (Q0 2))) J8)) XT)
   (Q4 (Z8 (i:=3) qt.nd (R4 hu (Q0 0) (J0 (Q0 1) Q3)))
   (Q4 (Z8 (i:=4) qt.nd (R4 hu (Q0 0) (J0 (Q0 1) Q3)))
   (Q7 (W1 (yp hu (J0 (Q0 3) Q3) (J0 (Q0 4) Q3)) (Q4 (Z8 (i:=5) qt.nd (bh (V3 (J0 (Q0 3) Q3) (J0 (Q0 1) Q3)) (J0 (Q0 4) Q3)))
   (Q7 (N1 PassesOwn.never rfl (L6 (vW rfl T.b_list (Q0 0))) (U0 (i:=2) qt.nd)
   (Q7 (W1 (Jr hu (J0 (R4 hu (Q0 0) (Q0 2)) Q3) (J0 (Q0 4) Q3)) (Q7 (Qc hu (gc (Q2 (J0 (Q0 3) Q3) (Q2 (V3 (J0 (R4 hu (Q0 0) (Q0 2)) Q3) (Q0 5)) Z0))) (Q0 0) (Q0 2))) J8)) zq))) J8)))))
theorem Xx (T:Txt K mg t):FnOk P w K mg base CX0 1 t.f_law_lay t.d_law_lay ["_law_tops_here","_law_row"] (spD K 2 vm):=
 T7 T.F_law_lay qt rfl (uT T) Vk
theorem uU (T:Txt K mg t):B0 P w K mg base 0 "_law_gap" qx t.f_law_gap Qj gm:=fun cdv A outer s H E hr=>have hu:=hr.units
 (Q4 (W1 (Jr hu (Q0 1) (Q0 2)) (Q7 (J1 Q3)) J8)
   (Q4 (W1 (Va (ky (kz hu (Q0 1) (Q0 0)) (ky (kz hu (Q0 2) (Q0 0)) (yo (yp hu (J0 (R4 hu (Q0 0) (Q0 1)) Q3) (J0 (R4 hu (Q0 0) (Q0 2)) Q3)))))) (Q7 (J1 Zn)) J8)
   (Q7 (J1 (bh (J0 (R4 hu (Q0 0) (Q0 2)) Q3) (J0 (R4 hu (Q0 0) (Q0 1)) Q3))))))
theorem ze (T:Txt K mg t):FnOk P w K mg base CX0 1 t.f_law_gap t.d_law_gap ["_law_tops_here","_law_one","_law_other"] (spD K 3 W4):=
 T7 T.F_law_gap kL rfl (uU T) fe
theorem xM (T:Txt K mg t):B0 P w K mg base 0 "_law_kind" E5 t.f_law_kind bx (Zb K t):=fun cdv A outer s H E hr=>have hu:=hr.units
 (Q4 (Z8 (i:=1) me.nd (V3 (V3 (Qg T.b_int (qi (P7 T) T.b_isinstance T.mx_NoSighting (Q0 0))) (Qg T.b_int (qi (P7 T) T.b_isinstance T.mx_Full (Q0 0)))) (Qg T.b_int (qi (P7 T) T.b_isinstance T.mx_Against (Q0 0)))))
   (Q4 (Z8 (i:=1) me.nd (V3 (V3 (V3 (Q0 1) (Qg T.b_int (qi (P7 T) T.b_isinstance T.mx_NoNumber (Q0 0)))) (Qg T.b_int (qi (P7 T) T.b_isinstance T.mx_NoWay (Q0 0)))) (Qg T.b_int (qi (P7 T) T.b_isinstance T.mx_NoText (Q0 0)))))
   (Q4 (W1 (Va (ky (yp hu (Q0 1) Q3) (yo (B4 (X9 (qaj (P7 T) T.b_isinstance T.b_ValueError (Q0 0))))))) (Q7 (J1 (D8 [111,100,100]))) J8)
   (Q4 (W1 (X9 (qi (P7 T) T.b_isinstance T.mx_NoSighting (Q0 0))) (Q7 (J1 (D8 [115,105,103,104,116,105,110,103]))) J8)
   (Q4 (W1 (X9 (qi (P7 T) T.b_isinstance T.mx_Full (Q0 0))) (Q7 (J1 (D8 [102,117,108,108]))) J8)
   (Q4 (W1 (X9 (qi (P7 T) T.b_isinstance T.mx_Against (Q0 0))) (Q7 (J1 (D8 [97,103,97,105,110,115,116]))) J8)
   (Q4 (W1 (X9 (qi (P7 T) T.b_isinstance T.mx_NoNumber (Q0 0))) (Q7 (J1 (D8 [110,117,109,98,101,114]))) J8)
   (Q4 (W1 (X9 (qi (P7 T) T.b_isinstance T.mx_NoWay (Q0 0))) (Q7 (J1 (D8 [119,97,121]))) J8)
   (Q7 (J1 (D8 [116,101,120,116])))))))))))
theorem Vm (T:Txt K mg t):FnOk P w K mg base CX0 1 t.f_law_kind t.d_law_kind ["_law_e"] (spD K 1 (yi K t)):=
 T7 T.F_law_kind me rfl (xM T) fe
theorem Gf (T:Txt K mg t):B0 P w K mg base 0 "_law_without" G0 t.f_law_without R0 wq:=fun cdv A outer s H E hr=>have hu:=hr.units
 (Q7 (J1 (Ww [1] (CompScope.of rfl (by show gi (Q5 G0).names _=true;decide +kernel)) rfl (L6 (Q0 0)) (by show jr R0 _ _=true;decide +kernel) (fun _ _ _ _ _=>U0 (i:=0) (by show (N9 _ R0 _).Nodup;decide +kernel)) (fun _ _ _ _ _=>(Wv (yp hu (J0 (Q0 0) Q3) (Q0 1)))) (fun _ _ _ _ _=>(Q0 0)) zo)))
theorem ye (T:Txt K mg t):FnOk P w K mg base CX0 1 t.f_law_without t.d_law_without ["_law_rows_here","_law_number"] (spD K 2 X7):=
 T7 T.F_law_without Xi rfl (Gf T) fe
theorem xK (T:Txt K mg t):B0 P w K mg base 0 "_law_part" S3 t.f_law_part zk Za:=fun cdv A outer s H E hr=>have hu:=hr.units
 (Q4 (W1 (kz hu (Q0 1) (Q0 0)) (Q7 (J1 (bj (Q2 (Q0 1) Z0)))) J8)
   (Q7 (J1 (Bu T.b_sorted (qaf 0 1 (CompScope.of rfl (by show gi (Q5 S3).names _=true;decide +kernel)) rfl (pv 0) (by show jr zk _ _=true;decide +kernel) (fun _ _ _ _ _=>bE (i:=0) (by show (N9 _ zk _).Nodup;decide +kernel) rfl (by first | exact Or.inl rfl | exact Or.inr rfl)) (fun _ _ _ _ _=>jS (bB (wG hu) (ZO gA (qV (hu1 hu) (pv 1) (pv 0) (by intro _ _;rfl)) wD (by intro _ _;rfl)) (ZO gA (qV (hu1 hu) (pv 1) (pv 2) (by intro _ _;rfl)) wD (by intro _ _;rfl)) (Ze _))) (fun _ _ _ _ _=>pv 0) zo)))))
theorem jX (T:Txt K mg t):FnOk P w K mg base CX0 1 t.f_law_part t.d_law_part ["_law_tops_here","_law_one"] (spD K 2 Zj):=
 T7 T.F_law_part jE rfl (xK T) fe
theorem uV (T:Txt K mg t):B0 P w K mg base 1 "is_rise" qy t.f_is_rise xg um:=fun cdv A outer s H E hr=>have hu:=hr.units
 (Q7 (J1 (yr (Z6 (mr T) (hr.mono (by decide)) T.m_is_whole T.F_is_whole.kp T.bi_is_whole .nil (fun _ _=>.nil) Z5 (Q2 (Q0 0) Z0)) (gf (qe3 (qdf T.b_abs (Q0 0)) (Zm Q3 Q3))))))
theorem wK (T:Txt K mg t):FnOk P w K mg base CX0 2 t.f_is_rise t.d_is_rise ["thing"] (spD K 1 uz):=
 T7 T.F_is_rise kM rfl (uV T) fY
theorem zS (T:Txt K mg t):B0 P w K mg base 1 "turned_row" P1 t.f_turned_row P5 xl:=fun cdv A outer s H E hr=>have hu:=hr.units
 (Q7 (J1 (V3 (gc (Q2 (J0 (Q0 0) Q3) Z0)) (Z6 (mH T) (hr.mono (by decide)) T.m_turned T.F_turned.kp T.bi_turned .nil (fun _ _=>.nil) Z5 (Q2 (gd (Q0 0) (qh Q3) vh) Z0)))))
theorem Kw (T:Txt K mg t):FnOk P w K mg base CX0 2 t.f_turned_row t.d_turned_row ["row"] (spD K 1 vb):=
 T7 T.F_turned_row Ku rfl (zS T) qQ
theorem Gi (T:Txt K mg t):BX P w K mg base 1 "Book.row_at" M7 t.f_Book_row_at zr (wu K t):=fun cdv A outer s H E hr=>have hu:=hr.units
 (Q4 (W1 (Va (ky (B4 (X9 (Z6 (mr T) (hr.mono (by decide)) T.m_is_whole T.F_is_whole.kp T.bi_is_whole .nil (fun _ _=>.nil) Z5 (Q2 (Q0 1) Z0)))) (yo (kz hu (Q0 1) (jv t.c_Book T.cl_Book T.na_Book_rows (Q0 0)))))) (Q7 (YB rfl rfl Wn T.x_NoNumber T.mx_NoNumber (Q2 (D8 [110,111,32,107,101,112,116,32,115,105,103,104,116,105,110,103,32,104,97,115,32,116,104,105,115,32,110,117,109,98,101,114]) Z0))) J8)
   (Q7 (J1 (R4 hu (jv t.c_Book T.cl_Book T.na_Book_rows (Q0 0)) (Q0 1)))))
theorem Xz (T:Txt K mg t):FnOk P w K mg base (CXD P w) 2 t.f_Book_row_at t.d_Book_row_at ["self","number"] (spD K 2 (gb K t)):=
 vA T.F_Book_row_at Xl rfl (Gi T) Xp
theorem xJ (T:Txt K mg t):B0 P w K mg base 1 "_law_pegs" E4 t.f_law_pegs yz xo:=fun cdv A outer s H E hr=>have hu:=hr.units
 (Q4 (Z8 (i:=2) B9.nd (W2 (B5 (V3 (W2 (Q0 0) Q3) Q3) Q3) Q3))
   (Q4 (Z8 (i:=3) B9.nd (Z6 (Vl T) (hr.mono (by decide)) T.m_law_word T.F_law_word.kp T.bi_law_word .nil (fun _ _=>.nil) Z5 (Q2 (Q0 2) Z0)))
   (Q4 (Z8 (i:=4) B9.nd (W2 (Zo (Q0 2) Q3) Q3))
   (Q4 (Z8 (i:=5) B9.nd (V3 (V3 (Q0 4) Q3) (W2 (Zo (Q0 2) Q3) (bh Q3 (Q0 4)))))
   (Q4 (Z8 (i:=6) B9.nd (Qf Z0))
   (Q4 (N1 PassesOwn.never rfl (Qd T.b_range (Q0 1)) (U0 (i:=7) B9.nd)
   (Q4 (Z8 (i:=8) B9.nd (J0 (D8 [97,98,99,100,101,102,103,104,105,106,107,108,109,110,111,112,113,114,115,116,117,118,119,120,121,122]) (W2 (V3 (Zo (Q0 2) Q3) (B5 Q3 (Q0 7))) Q3)))
   (Q7 (W1 (Jr hu (W2 (Q0 2) Q3) Q3) (Q7 (R3 (zh (Q0 6) (gd (Q0 3) vh (qh (V3 Q3 (Q0 7))))))) (Q7 (W1 (Jr hu (W2 (Q0 2) Q3) Q3) (Q7 (R3 (zh (Q0 6) (V3 (V3 (gd (Q0 3) vh (qh (Q0 4))) (Q0 8)) (gd (Q0 3) (qh (V3 (Q0 4) Q3)) (qh (Q0 5))))))) (Q4 (Z8 (i:=9) B9.nd (Z6 (Vl T) (hr.mono (by decide)) T.m_law_word T.F_law_word.kp T.bi_law_word .nil (fun _ _=>.nil) Z5 (Q2 (V3 (Zo (Q0 2) Q3) (B5 (B5 Q3 (Q0 7)) (Q0 7))) Z0)))
   (Q7 (R3 (zh (Q0 6) (gd (Q0 9) vh (qh (V3 Q3 (W2 (V3 (Zo (Q0 2) Q3) (B5 Q3 (Q0 7))) Q3))))))))))))) zq)
   (Q7 (J1 (Q0 6)))))))))
theorem jW (T:Txt K mg t):FnOk P w K mg base CX0 2 t.f_law_pegs t.d_law_pegs ["_law_cell","_law_many"] (spD K 2 Zi):=
 T7 T.F_law_pegs B9 rfl (xJ T) xX
theorem xG (T:Txt K mg t):B0 P w K mg base 1 "_law_tops" E1 t.f_law_tops bu Qy:=fun cdv A outer s H E hr=>have hu:=hr.units
 (Q4 (Z8 (i:=1) md.nd Jv)
   (Q4 (N1 PassesOwn.never rfl (L6 (Q0 0)) (U0 (i:=2) md.nd)
   (Q7 (R3 (Z6 (Xx T) (hr.mono (by decide)) T.m_law_lay T.F_law_lay.kp T.bi_law_lay .nil (fun _ _=>.nil) Z5 (Q2 (Q0 1) (Q2 (Q0 2) Z0))))) zo)
   (Q7 (J1 (Q0 1)))))
theorem mm (T:Txt K mg t):FnOk P w K mg base CX0 2 t.f_law_tops t.d_law_tops ["_law_rows_here"] (spD K 1 L4):=
 T7 T.F_law_tops md rfl (xG T) Vk
theorem xH (T:Txt K mg t):B0 P w K mg base 1 "_law_rows" E2 t.f_law_rows bv Qz:=fun cdv A outer s H E hr=>have hu:=hr.units
 (Q4 (W1 (Va (ky (B4 (X9 (gg .lst T.b_isinstance T.b_list (Q0 0)))) (yo (yp hu (Q0 0) (Q0 1))))) (Q7 (J1 D5)) J8)
   (Q4 (N1 PassesOwn.never rfl (L6 (Q0 0)) (U0 (i:=2) Vj.nd)
   (Q7 (W1 (Va (ky (B4 (X9 (gg .tup T.b_isinstance T.b_tuple (Q0 2)))) (ky (B4 (X9 (Z6 (xw T) (hr.mono (by decide)) T.m_law_whole T.F_law_whole.kp T.bi_law_whole .nil (fun _ _=>.nil) Z5 (Q2 (J0 (Q0 2) Q3) Z0)))) (yo (B4 (X9 (Z6 (xw T) (hr.mono (by decide)) T.m_law_whole T.F_law_whole.kp T.bi_law_whole .nil (fun _ _=>.nil) Z5 (Q2 (J0 (Q0 2) Q3) Z0)))))))) (Q7 (J1 D5)) J8)) zo)
   (Q7 (J1 D5))))
theorem mn (T:Txt K mg t):FnOk P w K mg base CX0 2 t.f_law_rows t.d_law_rows ["_law_found","_law_rows_here"] (spD K 2 yg):=
 T7 T.F_law_rows Vj rfl (xH T) fe
theorem Wi (T:Txt K mg t):B0 P w K mg base 1 "Book.row_at" fc t.f_Book_row_at A7 (jl K t):=fun cdv A outer s H E hr=>have hu:=hr.units
 (Q4 (W1 (Va (ky (B4 (X9 (Z6 (mr T) (hr.mono (by decide)) T.m_is_whole T.F_is_whole.kp T.bi_is_whole .nil (fun _ _=>.nil) Z5 (Q2 (Q0 1) Z0)))) (yo (kz hu (Q0 1) (jv t.c_Book T.cl_Book T.na_Book_rows (Q0 0)))))) (Q7 Js) J8)
   (Q7 (J1 (R4 hu (jv t.c_Book T.cl_Book T.na_Book_rows (Q0 0)) (Q0 1)))))
theorem gu (T:Txt K mg t):FnOk P w K mg base CX0 2 t.f_Book_row_at t.d_Book_row_at ["self","number"] (spD K 2 (B7 K t)):=
 T7 T.F_Book_row_at Yj rfl (Wi T) Vk
theorem Gh (T:Txt K mg t):B0 P w K mg base 2 "is_sighting" M6 t.f_is_sighting W8 X6:=fun cdv A outer s H E hr=>have hu:=hr.units
 (Q4 (W1 (Va (ky (B4 (X9 (gg .tup T.b_isinstance T.b_tuple (Q0 0)))) (yo (yp hu (ju T.b_len (Q0 0)) Q3)))) (Q7 (J1 D5)) J8)
   (Q7 (J1 (yr (Z6 (uu T) (hr.mono (by decide)) T.m_is_peg T.F_is_peg.kp T.bi_is_peg .nil (fun _ _=>.nil) Z5 (Q2 (J0 (Q0 0) Q3) Z0)) (yr (Z6 (uu T) (hr.mono (by decide)) T.m_is_peg T.F_is_peg.kp T.bi_is_peg .nil (fun _ _=>.nil) Z5 (Q2 (J0 (Q0 0) Q3) Z0)) (gf (Z6 (wK T) (hr.mono (by decide)) T.m_is_rise T.F_is_rise.kp T.bi_is_rise .nil (fun _ _=>.nil) Z5 (Q2 (J0 (Q0 0) Q3) Z0))))))))
theorem Xy (T:Txt K mg t):FnOk P w K mg base CX0 3 t.f_is_sighting t.d_is_sighting ["thing"] (spD K 1 P9):=
 T7 T.F_is_sighting Xk rfl (Gh T) Kv
theorem Kj (T:Txt K mg t):B0 P w K mg base 2 "steps_by_peg" G6 t.f_steps_by_peg L9 O8:=fun cdv A outer s H E hr=>have hu:=hr.units
 (Q4 (Z8 (i:=1) A3.nd Jv)
   (Q4 (N1 PassesOwn.never rfl (L6 (Q0 0)) (U0 (i:=2) A3.nd)
   (Q7 (N1 PassesOwn.never rfl (L6 (gc (Q2 (Q0 2) (Q2 (Z6 (Kw T) (hr.mono (by decide)) T.m_turned_row T.F_turned_row.kp T.bi_turned_row .nil (fun _ _=>.nil) Z5 (Q2 (Q0 2) Z0)) Z0)))) (U0 (i:=3) A3.nd)
   (Q7 (R3 (zh (qae (Q0 1) (J0 (Q0 3) Q3) (Qf Z0)) (Q0 3)))) JT)) zo)
   (Q7 (J1 (Q0 1)))))
theorem Vy (T:Txt K mg t):FnOk P w K mg base CX0 3 t.f_steps_by_peg t.d_steps_by_peg ["rows"] (spD K 1 yf):=
 T7 T.F_steps_by_peg A3 rfl (Kj T) QU
theorem yS (T:Txt K mg t):B0 P w K mg base 2 "Book.drop" T4 t.f_Book_drop wn (fx K t):=fun cdv A outer s H E hr=>have hu:=hr.units
 (Q4 (Z8 (i:=2) Zz.nd (vi t.c_Book (Q0 0) T.cl_Book T.me_Book_row_at (gu T) (hr.mono (by decide)) T.bi_Book_row_at .nil (fun _ _=>.nil) Z5 (Q2 (Q0 1) Z0)))
   (Q4 (R3 (qam (jv t.c_Book T.cl_Book T.na_Book_rows (Q0 0)) (Q0 1)))
   (Q7 (J1 (gd (Q0 2) (qh Q3) vh)))))
theorem va (T:Txt K mg t):FnOk P w K mg base CX0 3 t.f_Book_drop t.d_Book_drop ["self","number"] (spD K 2 (G4 K t)):=
 T7 T.F_Book_drop Zz rfl (yS T) Vk
theorem zT (T:Txt K mg t):B0 P w K mg base 3 "last_steps" P2 t.f_last_steps qm jy:=fun cdv A outer s H E hr=>have hu:=hr.units
 (Q4 (Z8 (i:=2) M4.nd (Z6 (Vy T) (hr.mono (by decide)) T.m_steps_by_peg T.F_steps_by_peg.kp T.bi_steps_by_peg .nil (fun _ _=>.nil) Z5 (Q2 (Q0 0) Z0)))
   (Q4 (Z8 (i:=3) M4.nd (YL (Q0 1) Zn))
   (Q4 (Z8 (i:=4) M4.nd (Qf (Q2 (Q0 1) Z0)))
   (Q4 (Z8 (i:=5) M4.nd Q3)
   (Q4 (vS (fun _=>Bk) PassesOwn.never (qbk (Q0 5) (ju T.b_len (Q0 4)))
   (Q4 (N1 PassesOwn.never rfl (L6 (qak hu (Q0 2) (J0 (Q0 4) (Q0 5)) (bj Z0))) (U0 (i:=6) M4.nd)
   (Q7 (W1 (kz hu (J0 (Q0 6) Q3) (Q0 3)) (Q4 (Qc hu (Q0 6) (Q0 3) (J0 (Q0 6) Q3))
   (Q7 (R3 (zh (Q0 4) (J0 (Q0 6) Q3))))) J8)) zq)
   (Q7 (qdb (i:=5) qc3 M4.nd Q3))))
   (Q7 (J1 (Q0 3))))))))
theorem Qp (T:Txt K mg t):FnOk P w K mg base CX0 4 t.f_last_steps t.d_last_steps ["rows","one"] (spD K 2 vd):=
 T7 T.F_last_steps M4 rfl (zT T) QU
theorem yK (T:Txt K mg t):B0 P w K mg base 4 "way_along" R7 t.f_way_along jf zu:=fun cdv A outer s H E hr=>have hu:=hr.units
 (Q4 (Z8 (i:=3) qb.nd (Z6 (Qp T) (hr.mono (by decide)) T.m_last_steps T.F_last_steps.kp T.bi_last_steps .nil (fun _ _=>.nil) Z5 (Q2 (Q0 0) (Q2 (Q0 1) Z0))))
   (Q4 (W1 (kz hu (Q0 2) (Q0 3)) (Q7 (J1 Zn)) J8)
   (Q4 (Z8 (i:=4) qb.nd (Qf Z0))
   (Q4 (Z8 (i:=5) qb.nd (Q0 2))
   (Q4 (vS (fun _=>Bk) PassesOwn.never (yp hu (Q0 5) (Q0 1))
   (Q4 (R3 (zh (Q0 4) (R4 hu (Q0 3) (Q0 5))))
   (Q7 (Z8 (i:=5) qb.nd (J0 (R4 hu (Q0 3) (Q0 5)) Q3)))))
   (Q4 (R3 (qag (Q0 4)))
   (Q7 (J1 (Q0 4)))))))))
theorem jz (T:Txt K mg t):FnOk P w K mg base CX0 5 t.f_way_along t.d_way_along ["rows","one","other"] (spD K 3 H9):=
 T7 T.F_way_along qb rfl (yK T) xX
theorem uS (T:Txt K mg t):B0 P w K mg base 4 "part_of" qu t.f_part_of xc uj:=fun cdv A outer s H E hr=>have hu:=hr.units
 (Q7 (J1 (Bu T.b_sorted (vW rfl T.b_list (Z6 (Qp T) (hr.mono (by decide)) T.m_last_steps T.F_last_steps.kp T.bi_last_steps .nil (fun _ _=>.nil) Z5 (Q2 (Q0 0) (Q2 (Q0 1) Z0)))))))
theorem wJ (T:Txt K mg t):FnOk P w K mg base CX0 5 t.f_part_of t.d_part_of ["rows","one"] (spD K 2 xa):=
 T7 T.F_part_of kJ rfl (uS T) xX
theorem yO (T:Txt K mg t):BX P w K mg base 5 "Book.take" S5 t.f_Book_take wj (kg K t):=fun cdv A outer s H E hr=>have hu:=hr.units
 (Q4 (W1 (B4 (X9 (Z6 (Xy T) (hr.mono (by decide)) T.m_is_sighting T.F_is_sighting.kp T.bi_is_sighting .nil (fun _ _=>.nil) Z5 (Q2 (gc (Q2 (Q0 1) (Q2 (Q0 2) (Q2 (Q0 3) Z0)))) Z0)))) (Q7 Js) J8)
   (Q4 (W1 (qe1 (ju T.b_len (jv t.c_Book T.cl_Book T.na_Book_rows (Q0 0))) (jv t.c_Book T.cl_Book T.na_Book_most (Q0 0))) (Q7 Js) J8)
   (Q4 (Z8 (i:=4) Zy.nd (Z6 (jz T) (hr.mono (by decide)) T.m_way_along T.F_way_along.kp T.bi_way_along .nil (fun _ _=>.nil) Z5 (Q2 (yq t.c_Book (Q0 0) T.cl_Book T.me_Book_kept (P3 T) (hr.mono (by decide)) T.bi_Book_kept .nil (fun _ _=>.nil) Z5) (Q2 (Q0 1) (Q2 (Q0 2) Z0)))))
   (Q4 (W1 (Va (YA (XY (Q0 4)) (bU (yp hu (Z6 (jV T) (hr.mono (by decide)) T.m_total T.F_total.kp T.bi_total .nil (fun _ _=>.nil) Z5 (Q2 (Q0 4) Z0)) (Q0 3))))) (Q7 (Bq rfl rfl Wn T.mkx_Against (jZ T) (hr.mono (by decide)) T.bix_Against T.mx_Against (Q2 (Q0 4) Z0))) J8)
   (Q4 (qaa t.c_Book XR T.cl_Book T.na_Book_taken (Q0 0) Q3)
   (Q4 (Qc hu (gc (Q2 (jv t.c_Book T.cl_Book T.na_Book_taken (Q0 0)) (Q2 (Q0 1) (Q2 (Q0 2) (Q2 (Q0 3) Z0))))) (jv t.c_Book T.cl_Book T.na_Book_rows (Q0 0)) (jv t.c_Book T.cl_Book T.na_Book_taken (Q0 0)))
   (Q7 (J1 (jv t.c_Book T.cl_Book T.na_Book_taken (Q0 0))))))))))
theorem qZ (T:Txt K mg t):FnOk P w K mg base (CXD P w) 6 t.f_Book_take t.d_Book_take ["self","one","other","rise"] (spD K 4 (N7 K t)):=
 vA T.F_Book_take Zy rfl (yO T) Xp
theorem xO (T:Txt K mg t):BX P w K mg base 5 "Book.way" E7 t.f_Book_way ka (xp K t):=fun cdv A outer s H E hr=>have hu:=hr.units
 (Q4 (W1 (Va (ky (B4 (X9 (Z6 (uu T) (hr.mono (by decide)) T.m_is_peg T.F_is_peg.kp T.bi_is_peg .nil (fun _ _=>.nil) Z5 (Q2 (Q0 1) Z0)))) (yo (B4 (X9 (Z6 (uu T) (hr.mono (by decide)) T.m_is_peg T.F_is_peg.kp T.bi_is_peg .nil (fun _ _=>.nil) Z5 (Q2 (Q0 2) Z0))))))) (Q7 Js) J8)
   (Q4 (Z8 (i:=3) mf.nd (yq t.c_Book (Q0 0) T.cl_Book T.me_Book_kept (P3 T) (hr.mono (by decide)) T.bi_Book_kept .nil (fun _ _=>.nil) Z5))
   (Q4 (Z8 (i:=4) mf.nd (Z6 (jz T) (hr.mono (by decide)) T.m_way_along T.F_way_along.kp T.bi_way_along .nil (fun _ _=>.nil) Z5 (Q2 (Q0 3) (Q2 (Q0 1) (Q2 (Q0 2) Z0)))))
   (Q4 (W1 (gQ (Q0 4)) (Q7 (Bq rfl rfl Wn T.mkx_NoWay (mJ T) (hr.mono (by decide)) T.bix_NoWay T.mx_NoWay (Q2 (Z6 (wJ T) (hr.mono (by decide)) T.m_part_of T.F_part_of.kp T.bi_part_of .nil (fun _ _=>.nil) Z5 (Q2 (Q0 3) (Q2 (Q0 1) Z0))) Z0))) J8)
   (Q7 (J1 (Q0 4)))))))
theorem jY (T:Txt K mg t):FnOk P w K mg base (CXD P w) 6 t.f_Book_way t.d_Book_way ["self","one","other"] (spD K 3 (yj K t)):=
 vA T.F_Book_way mf rfl (xO T) Xp
theorem zU (T:Txt K mg t):BX P w K mg base 5 "Book.spare" M3 t.f_Book_spare qo (xq K t):=fun cdv A outer s H E hr=>have hu:=hr.units
 (Q4 (Z8 (i:=2) wx.nd (vi t.c_Book (Q0 0) T.cl_Book T.me_Book_row_at (Xz T) (hr.mono (by decide)) T.bi_Book_row_at .nil (fun _ _=>.nil) bI (Q2 (Q0 1) Z0)))
   (Q4 (Zl (i:=3) [1] wx.nd (CompScope.of rfl (by show gi (Q5 M3).names _=true;decide +kernel)) rfl (L6 (yq t.c_Book (Q0 0) T.cl_Book T.me_Book_kept (P3 T) (hr.mono (by decide)) T.bi_Book_kept .nil (fun _ _=>.nil) Z5)) (by show jr qo _ _=true;decide +kernel) (fun _ _ _ _ _=>U0 (i:=0) (by show (N9 _ qo _).Nodup;decide +kernel)) (fun _ _ _ _ _=>(Wv (yp hu (J0 (Q0 0) Q3) (Q0 1)))) (fun _ _ _ _ _=>(Q0 0)) zq)
   (Q7 (J1 (Ju (Z6 (jz T) (hr.mono (by decide)) T.m_way_along T.F_way_along.kp T.bi_way_along .nil (fun _ _=>.nil) Z5 (Q2 (Q0 3) (Q2 (J0 (Q0 2) Q3) (Q2 (J0 (Q0 2) Q3) Z0)))))))))
theorem Kx (T:Txt K mg t):FnOk P w K mg base (CXD P w) 6 t.f_Book_spare t.d_Book_spare ["self","number"] (spD K 2 (be K t)):=
 vA T.F_Book_spare wx rfl (zU T) Xp
theorem Kl (T:Txt K mg t):B0 P w K mg base 5 "Book.spare" yd t.f_Book_spare N4 (yb K t):=fun cdv A outer s H E hr=>have hu:=hr.units
 (Q4 (Z8 (i:=2) jo.nd (vi t.c_Book (Q0 0) T.cl_Book T.me_Book_row_at (gu T) (hr.mono (by decide)) T.bi_Book_row_at .nil (fun _ _=>.nil) Z5 (Q2 (Q0 1) Z0)))
   (Q4 (Zl (i:=3) [1] jo.nd (CompScope.of rfl (by show gi (Q5 yd).names _=true;decide +kernel)) rfl (L6 (yq t.c_Book (Q0 0) T.cl_Book T.me_Book_kept (P3 T) (hr.mono (by decide)) T.bi_Book_kept .nil (fun _ _=>.nil) Z5)) (by show jr N4 _ _=true;decide +kernel) (fun _ _ _ _ _=>U0 (i:=0) (by show (N9 _ N4 _).Nodup;decide +kernel)) (fun _ _ _ _ _=>(Wv (yp hu (J0 (Q0 0) Q3) (Q0 1)))) (fun _ _ _ _ _=>(Q0 0)) zq)
   (Q7 (J1 (Ju (Z6 (jz T) (hr.mono (by decide)) T.m_way_along T.F_way_along.kp T.bi_way_along .nil (fun _ _=>.nil) Z5 (Q2 (Q0 3) (Q2 (J0 (Q0 2) Q3) (Q2 (J0 (Q0 2) Q3) Z0)))))))))
theorem Wa (T:Txt K mg t):FnOk P w K mg base CX0 6 t.f_Book_spare t.d_Book_spare ["self","number"] (spD K 2 (qf K t)):=
 T7 T.F_Book_spare jo rfl (Kl T) Vk
theorem yP (T:Txt K mg t):BX P w K mg base 6 "Book.rise" S6 t.f_Book_rise wk (kh K t):=fun cdv A outer s H E hr=>have hu:=hr.units
 (Q7 (J1 (Z6 (jV T) (hr.mono (by decide)) T.m_total T.F_total.kp T.bi_total .nil (fun _ _=>.nil) Z5 (Q2 (vi t.c_Book (Q0 0) T.cl_Book T.me_Book_way (jY T) (hr.mono (by decide)) T.bi_Book_way .nil (fun _ _=>.nil) bI (Q2 (Q0 1) (Q2 (Q0 2) Z0))) Z0))))
theorem zC (T:Txt K mg t):FnOk P w K mg base (CXD P w) 7 t.f_Book_rise t.d_Book_rise ["self","one","other"] (spD K 3 (I0 K t)):=
 vA T.F_Book_rise qM rfl (yP T) Xp
theorem Wh (T:Txt K mg t):B0 P w K mg base 6 "_law_both_take" K4 t.f_law_both_take P8 (A1 K t):=fun cdv A outer s H E hr=>have hu:=hr.units
 (Q4 (Z8 (i:=5) G5.nd (Z6 (ze T) (hr.mono (by decide)) T.m_law_gap T.F_law_gap.kp T.bi_law_gap .nil (fun _ _=>.nil) Z5 (Q2 (Q0 2) (Q2 (J0 (Q0 4) Q3) (Q2 (J0 (Q0 4) Q3) Z0)))))
   (Q4 (Z8 (i:=6) G5.nd (qe2 (YK (Q0 5)) (gf (vY hu (Q0 5) (J0 (Q0 4) Q3)))))
   (Q4 (W1 (X9 (Q0 6)) (Q4 (qda (V3 (J0 (Q0 3) Q3) Q3) (Q0 3) Q3)
   (Q4 (R3 (zh (Q0 1) (V3 (gc (Q2 (J0 (Q0 3) Q3) Z0)) (Q0 4))))
   (Q7 (R3 (Z6 (Xx T) (hr.mono (by decide)) T.m_law_lay T.F_law_lay.kp T.bi_law_lay .nil (fun _ _=>.nil) Z5 (Q2 (Q0 2) (Q2 (J0 (Q0 1) (YH Q3)) Z0))))))) J8)
   (Q4 (N1 PassesOwn.never rfl (L6 (Q0 0)) (U0 (i:=7) G5.nd)
   (Q4 (Z8 (i:=8) G5.nd D5)
   (Q4 (gS rfl (Ut (vR (Uv t.c_Book (fun _ _ h=>h) rfl (Q0 7) T.cl_Book T.me_Book_take (qZ T) (hr.mono (by decide)) T.bi_Book_take .nil (fun _ _=>.nil) (Q2 (J0 (Q0 4) Q3) (Q2 (J0 (Q0 4) Q3) (Q2 (J0 (Q0 4) Q3) Z0)))))) (qad (fun _=>(Q7 (Z8 (i:=8) G5.nd D5))) T.mx_Against gU))
   (Q7 (W1 (yp hu (Q0 8) (Q0 6)) (Q7 (J1 D5)) J8)))) zo)
   (Q7 (J1 D5))))))
theorem Yt (T:Txt K mg t):FnOk P w K mg base CX0 7 t.f_law_both_take t.d_law_both_take ["_law_books","_law_rows_here","_law_tops_here","_law_box","_law_sighting_here"] (spD K 5 (K5 K t)):=
 T7 T.F_law_both_take G5 rfl (Wh T) fe
theorem Wf (T:Txt K mg t):B0 P w K mg base 6 "_law_no_number" W9 t.f_law_no_number U5 (ji K t):=fun cdv A outer s H E hr=>have hu:=hr.units
 (Q4 (Z8 (i:=4) X1.nd (J0 (bj (Q2 Q3 (Q2 (YH Q3) (Q2 (V3 (J0 (Q0 1) Q3) Q3) (Q2 (Zm Q3 Q3) (Q2 D5 (Q2 D5 (Q2 Zn (Q2 (D8 [49]) (Q2 (bj (Q2 Q3 Z0)) (Q2 (gc (Q2 Q3 Z0)) Z0))))))))))) (W2 (Q0 3) Q3)))
   (Q4 (W1 (Jr hu (W2 (Q0 3) Q3) Q3) (Q4 (Z8 (i:=5) X1.nd (Ww [] (CompScope.of rfl (by show gi (Q5 W9).names _=true;decide +kernel)) rfl (L6 (Q0 2)) (by show jr U5 _ _=true;decide +kernel) (fun _ _ _ _ _=>U0 (i:=0) (by show (N9 _ U5 _).Nodup;decide +kernel)) (fun _ _ _ _ _=>zL) (fun _ _ _ _ _=>(J0 (Q0 0) Q3)) zo))
   (Q4 (Zl (i:=6) [5] X1.nd (CompScope.of rfl (by show gi (Q5 W9).names _=true;decide +kernel)) rfl (Bt T.b_range Q3 (V3 (J0 (Q0 1) Q3) Q3)) (by show jr U5 _ _=true;decide +kernel) (fun _ _ _ _ _=>U0 (i:=0) (by show (N9 _ U5 _).Nodup;decide +kernel)) (fun _ _ _ _ _=>(Wv (qc9 hu (Q0 0) (Q0 1)))) (fun _ _ _ _ _=>(Q0 0)) zq)
   (Q7 (Z8 (i:=4) X1.nd (J0 (V3 (Q0 6) (bj (Q2 (V3 (J0 (Q0 1) Q3) Q3) Z0))) Q3))))) J8)
   (Q4 (Z8 (i:=7) X1.nd Zn)
   (Q4 (gS rfl (Ut (vR (Uv t.c_Book (fun _ _ h=>h) rfl (Q0 0) T.cl_Book T.me_Book_spare (Kx T) (hr.mono (by decide)) T.bi_Book_spare .nil (fun _ _=>.nil) (Q2 (Q0 4) Z0)))) (qbl (i:=8) X1.nd (fun _=>(Q7 (Z8 (i:=7) X1.nd (Q0 8)))) T.mx_PegError gU))
   (Q7 (J1 (yr (Ju (Q0 7)) (gf (vY hu (Z6 (Vm T) (hr.mono (by decide)) T.m_law_kind T.F_law_kind.kp T.bi_law_kind .nil (fun _ _=>.nil) Z5 (Q2 (Q0 7) Z0)) (D8 [110,117,109,98,101,114]))))))))))
theorem Yr (T:Txt K mg t):FnOk P w K mg base CX0 7 t.f_law_no_number t.d_law_no_number ["_law_book","_law_box","_law_rows_here","_law_cell"] (spD K 4 (A5 K t)):=
 T7 T.F_law_no_number X1 rfl (Wf T) fe
theorem yM (T:Txt K mg t):B0 P w K mg base 6 "_law_spare" R9 t.f_law_spare jg (kf K t):=fun cdv A outer s H E hr=>have hu:=hr.units
 (Q4 (Z8 (i:=3) xu.nd (Ju (Z6 (ze T) (hr.mono (by decide)) T.m_law_gap T.F_law_gap.kp T.bi_law_gap .nil (fun _ _=>.nil) Z5 (Q2 (Z6 (mm T) (hr.mono (by decide)) T.m_law_tops T.F_law_tops.kp T.bi_law_tops .nil (fun _ _=>.nil) Z5 (Q2 (Z6 (ye T) (hr.mono (by decide)) T.m_law_without T.F_law_without.kp T.bi_law_without .nil (fun _ _=>.nil) Z5 (Q2 (Q0 1) (Q2 (J0 (Q0 2) Q3) Z0))) Z0)) (Q2 (J0 (Q0 2) Q3) (Q2 (J0 (Q0 2) Q3) Z0))))))
   (Q4 (Z8 (i:=4) xu.nd (vi t.c_Book (Q0 0) T.cl_Book T.me_Book_spare (Wa T) (hr.mono (by decide)) T.bi_Book_spare .nil (fun _ _=>.nil) Z5 (Q2 (J0 (Q0 2) Q3) Z0)))
   (Q7 (J1 (yr (gg .bl T.b_isinstance T.b_bool (Q0 4)) (gf (vY hu (Q0 4) (Q0 3))))))))
theorem Jf (T:Txt K mg t):FnOk P w K mg base CX0 7 t.f_law_spare t.d_law_spare ["_law_book","_law_rows_here","_law_row"] (spD K 3 (ku K t)):=
 T7 T.F_law_spare xu rfl (yM T) fe
theorem xI (T:Txt K mg t):B0 P w K mg base 7 "_law_rise" E3 t.f_law_rise bw (xm K t):=fun cdv A outer s H E hr=>have hu:=hr.units
 (Q4 (Z8 (i:=4) B8.nd (Z6 (ze T) (hr.mono (by decide)) T.m_law_gap T.F_law_gap.kp T.bi_law_gap .nil (fun _ _=>.nil) Z5 (Q2 (Q0 1) (Q2 (Q0 2) (Q2 (Q0 3) Z0)))))
   (Q4 (Z8 (i:=5) B8.nd Zn)
   (Q4 (Z8 (i:=6) B8.nd Zn)
   (Q4 (Z8 (i:=7) B8.nd (bj Z0))
   (Q4 (gS rfl (Ut (XZ (i:=5) B8.nd (Uv t.c_Book (fun _ _ h=>h) rfl (Q0 0) T.cl_Book T.me_Book_rise (zC T) (hr.mono (by decide)) T.bi_Book_rise .nil (fun _ _=>.nil) (Q2 (Q0 2) (Q2 (Q0 3) Z0))))) (qbl (i:=8) B8.nd (fun _=>(Q4 (Z8 (i:=6) B8.nd (Q0 8))
   (Q7 (Z8 (i:=7) B8.nd (qal (mZ T) (Q0 8)))))) T.mx_NoWay gU))
   (Q4 (W1 (gQ (Q0 4)) (Q4 (W1 (Va (ky (gQ (Q0 6)) (ky (yp hu (Z6 (Vm T) (hr.mono (by decide)) T.m_law_kind T.F_law_kind.kp T.bi_law_kind .nil (fun _ _=>.nil) Z5 (Q2 (Q0 6) Z0)) (D8 [119,97,121])) (yo (B4 (X9 (gg .lst T.b_isinstance T.b_list (Q0 7)))))))) (Q7 (J1 D5)) J8)
   (Q7 (J1 (vY hu (Q0 7) (Z6 (jX T) (hr.mono (by decide)) T.m_law_part T.F_law_part.kp T.bi_law_part .nil (fun _ _=>.nil) Z5 (Q2 (Q0 1) (Q2 (Q0 2) Z0))))))) J8)
   (Q7 (J1 (yr (YK (Q0 6)) (yr (Z6 (xw T) (hr.mono (by decide)) T.m_law_whole T.F_law_whole.kp T.bi_law_whole .nil (fun _ _=>.nil) Z5 (Q2 (Q0 5) Z0)) (gf (vY hu (Q0 5) (Q0 4)))))))))))))
theorem mq (T:Txt K mg t):FnOk P w K mg base CX0 8 t.f_law_rise t.d_law_rise ["_law_book","_law_tops_here","_law_one","_law_other"] (spD K 4 (yh K t)):=
 T7 T.F_law_rise B8 rfl (xI T) fe
theorem Wg (T:Txt K mg t):B0 P w K mg base 8 "_law_looked_at" K3 t.f_law_looked_at A6 (jj K t):=fun cdv A outer s H E hr=>have hu:=hr.units
 (Q4 (Z8 (i:=4) X2.nd (Z6 (ye T) (hr.mono (by decide)) T.m_law_without T.F_law_without.kp T.bi_law_without .nil (fun _ _=>.nil) Z5 (Q2 (Q0 1) (Q2 (J0 (Q0 3) Q3) Z0))))
   (Q4 (Z8 (i:=5) X2.nd (Z6 (mm T) (hr.mono (by decide)) T.m_law_tops T.F_law_tops.kp T.bi_law_tops .nil (fun _ _=>.nil) Z5 (Q2 (Q0 1) Z0)))
   (Q4 (Z8 (i:=6) X2.nd (Z6 (mm T) (hr.mono (by decide)) T.m_law_tops T.F_law_tops.kp T.bi_law_tops .nil (fun _ _=>.nil) Z5 (Q2 (Q0 4) Z0)))
   (Q4 (Z8 (i:=7) X2.nd (Ju (Z6 (ze T) (hr.mono (by decide)) T.m_law_gap T.F_law_gap.kp T.bi_law_gap .nil (fun _ _=>.nil) Z5 (Q2 (Q0 6) (Q2 (J0 (Q0 3) Q3) (Q2 (J0 (Q0 3) Q3) Z0))))))
   (Q4 (W1 (Va (ky (B4 (X9 (Z6 (Jf T) (hr.mono (by decide)) T.m_law_spare T.F_law_spare.kp T.bi_law_spare .nil (fun _ _=>.nil) Z5 (Q2 (J0 (Q0 0) Q3) (Q2 (Q0 1) (Q2 (Q0 3) Z0)))))) (yo (B4 (X9 (Z6 (mn T) (hr.mono (by decide)) T.m_law_rows T.F_law_rows.kp T.bi_law_rows .nil (fun _ _=>.nil) Z5 (Q2 (yq t.c_Book (J0 (Q0 0) Q3) T.cl_Book T.me_Book_kept (P3 T) (hr.mono (by decide)) T.bi_Book_kept .nil (fun _ _=>.nil) Z5) (Q2 (Q0 1) Z0)))))))) (Q7 (J1 D5)) J8)
   (Q4 (W1 (yp hu (vi t.c_Book (J0 (Q0 0) Q3) T.cl_Book T.me_Book_drop (va T) (hr.mono (by decide)) T.bi_Book_drop .nil (fun _ _=>.nil) Z5 (Q2 (J0 (Q0 3) Q3) Z0)) (gd (Q0 3) (qh Q3) vh)) (Q7 (J1 D5)) J8)
   (Q4 (N1 PassesOwn.never rfl (L6 (Q0 2)) (U0 (i:=8) X2.nd)
   (Q4 (Z8 (i:=9) X2.nd (J0 (Q0 2) (W2 (V3 (J0 (Q0 3) Q3) (ju T.b_len (Q0 8))) (ju T.b_len (Q0 2)))))
   (Q4 (W1 (Va (ky (B4 (X9 (Z6 (mq T) (hr.mono (by decide)) T.m_law_rise T.F_law_rise.kp T.bi_law_rise .nil (fun _ _=>.nil) Z5 (Q2 (J0 (Q0 0) Q3) (Q2 (Q0 5) (Q2 (Q0 8) (Q2 (Q0 9) Z0))))))) (yo (B4 (X9 (Z6 (mq T) (hr.mono (by decide)) T.m_law_rise T.F_law_rise.kp T.bi_law_rise .nil (fun _ _=>.nil) Z5 (Q2 (J0 (Q0 0) Q3) (Q2 (Q0 6) (Q2 (Q0 8) (Q2 (Q0 9) Z0)))))))))) (Q7 (J1 D5)) J8)
   (Q7 (W1 (Va (YA (X9 (Q0 7)) (bU (yp hu (Z6 (ze T) (hr.mono (by decide)) T.m_law_gap T.F_law_gap.kp T.bi_law_gap .nil (fun _ _=>.nil) Z5 (Q2 (Q0 5) (Q2 (Q0 8) (Q2 (Q0 9) Z0)))) (Z6 (ze T) (hr.mono (by decide)) T.m_law_gap T.F_law_gap.kp T.bi_law_gap .nil (fun _ _=>.nil) Z5 (Q2 (Q0 6) (Q2 (Q0 8) (Q2 (Q0 9) Z0)))))))) (Q7 (J1 D5)) J8)))) zo)
   (Q4 (W1 (B4 (X9 (Z6 (mq T) (hr.mono (by decide)) T.m_law_rise T.F_law_rise.kp T.bi_law_rise .nil (fun _ _=>.nil) Z5 (Q2 (J0 (Q0 0) Q3) (Q2 (Q0 6) (Q2 (J0 (Q0 3) Q3) (Q2 (J0 (Q0 3) Q3) Z0))))))) (Q7 (J1 D5)) J8)
   (Q4 (R3 (vi t.c_Book (J0 (Q0 0) Q3) T.cl_Book T.me_Book_drop (va T) (hr.mono (by decide)) T.bi_Book_drop .nil (fun _ _=>.nil) Z5 (Q2 (J0 (Q0 3) Q3) Z0)))
   (Q4 (N1 PassesOwn.never rfl (L6 (gd (Q0 4) vh (qh Q3))) (U0 (i:=9) X2.nd)
   (Q7 (W1 (B4 (X9 (Z6 (Jf T) (hr.mono (by decide)) T.m_law_spare T.F_law_spare.kp T.bi_law_spare .nil (fun _ _=>.nil) Z5 (Q2 (J0 (Q0 0) Q3) (Q2 (Q0 4) (Q2 (Q0 9) Z0)))))) (Q7 (J1 D5)) J8)) Jq)
   (Q7 (J1 D5))))))))))))
theorem Ys (T:Txt K mg t):FnOk P w K mg base CX0 9 t.f_law_looked_at t.d_law_looked_at ["_law_books","_law_rows_here","_law_some","_law_row"] (spD K 4 (B6 K t)):=
 T7 T.F_law_looked_at X2 rfl (Wg T) fe
theorem qe6 (T:Txt K mg t):B0 P w K mg base 9 "law" Xm t.f_law yW (xU K t):=fun cdv A outer s H E hr=>have hu:=hr.units
 (Q4 (Z8 (i:=1) D7.nd (W2 (B5 (V3 (W2 (Z6 (qd T) (hr.mono (by decide)) T.m_law_cell_at T.F_law_cell_at.kp T.bi_law_cell_at .nil (fun _ _=>.nil) Z5 (Q2 (Q0 0) (Q2 Q3 Z0))) Q3) Q3) Q3) Q3))
   (Q4 (Z8 (i:=2) D7.nd (Z6 (jW T) (hr.mono (by decide)) T.m_law_pegs T.F_law_pegs.kp T.bi_law_pegs .nil (fun _ _=>.nil) Z5 (Q2 (Z6 (qd T) (hr.mono (by decide)) T.m_law_cell_at T.F_law_cell_at.kp T.bi_law_cell_at .nil (fun _ _=>.nil) Z5 (Q2 (Q0 0) (Q2 Q3 Z0))) (Q2 (V3 Q3 (W2 (Q0 1) Q3)) Z0))))
   (Q4 (Z8 (i:=3) D7.nd (Z6 (qY T) (hr.mono (by decide)) T.m_law_highs T.F_law_highs.kp T.bi_law_highs .nil (fun _ _=>.nil) Z5 (Q2 (Q0 2) (Q2 (Z6 (qd T) (hr.mono (by decide)) T.m_law_cell_at T.F_law_cell_at.kp T.bi_law_cell_at .nil (fun _ _=>.nil) Z5 (Q2 (Q0 0) (Q2 Q3 Z0))) Z0))))
   (Q4 (Z8 (i:=4) D7.nd (bj (Q2 (YI t.c_Book T.mk_Book (Jg T) (hr.mono (by decide)) T.mg_Book T.bd_Book_init (show Y4 [V.int 200] [Value.int 200 t.k_Book_init] from .cons ⟨_,rfl⟩ .nil) (fun _ _=>.cons (.int 200) .nil) Z5) (Q2 (qai t.c_Book T.mk_Book (Jg T) (hr.mono (by decide)) T.mg_Book T.bi_Book_init .nil (fun _ _=>.nil) Z5 (Q2 Q3 Z0)) Z0))))
   (Q4 (Z8 (i:=5) D7.nd (Qf Z0))
   (Q4 (Z8 (i:=6) D7.nd Jv)
   (Q4 (Z8 (i:=7) D7.nd (Qf (Q2 Q3 Z0)))
   (Q4 (N1 PassesOwn.never rfl (Bt T.b_range Q3 (qah rfl T.b_min (ju T.b_len (Q0 0)) Q3)) (U0 (i:=8) D7.nd)
   (Q4 (Z8 (i:=9) D7.nd (Z6 (Vz T) (hr.mono (by decide)) T.m_law_sighting T.F_law_sighting.kp T.bi_law_sighting .nil (fun _ _=>.nil) Z5 (Q2 (Q0 2) (Q2 (Q0 3) (Q2 (J0 (Q0 0) (Q0 8)) (Q2 (Q0 8) Z0))))))
   (Q7 (W1 (B4 (X9 (Z6 (Yt T) (hr.mono (by decide)) T.m_law_both_take T.F_law_both_take.kp T.bi_law_both_take .nil (fun _ _=>.nil) Z5 (Q2 (Q0 4) (Q2 (Q0 5) (Q2 (Q0 6) (Q2 (Q0 7) (Q2 (Q0 9) Z0)))))))) (Q7 (J1 D5)) J8))) zq)
   (Q4 (W1 (Jr hu (W2 (Zo (Q0 1) Q3) Q3) Q3) (Q4 (N1 PassesOwn.never rfl (L6 (gd (Q0 5) vh (qh Q3))) (U0 (i:=10) D7.nd)
   (Q4 (R3 (vi t.c_Book (J0 (Q0 4) Q3) T.cl_Book T.me_Book_drop (va T) (hr.mono (by decide)) T.bi_Book_drop .nil (fun _ _=>.nil) Z5 (Q2 (J0 (Q0 10) Q3) Z0)))
   (Q7 (R3 (vi t.c_Book (J0 (Q0 4) Q3) T.cl_Book T.me_Book_drop (va T) (hr.mono (by decide)) T.bi_Book_drop .nil (fun _ _=>.nil) Z5 (Q2 (J0 (Q0 10) Q3) Z0))))) Jq)
   (Q7 (Z8 (i:=5) D7.nd (gd (Q0 5) (qh Q3) vh)))) J8)
   (Q4 (N1 PassesOwn.never rfl (Qd T.b_range Q3) (U0 (i:=8) D7.nd)
   (Q4 (Z8 (i:=11) D7.nd (Zo (W2 (B5 (V3 (W2 (Z6 (qd T) (hr.mono (by decide)) T.m_law_cell_at T.F_law_cell_at.kp T.bi_law_cell_at .nil (fun _ _=>.nil) Z5 (Q2 (Q0 0) (Q2 (V3 Q3 (Q0 8)) Z0))) Q3) (Q0 8)) Q3) Q3) Q3))
   (Q4 (W1 (B4 (X9 (Z6 (Yr T) (hr.mono (by decide)) T.m_law_no_number T.F_law_no_number.kp T.bi_law_no_number .nil (fun _ _=>.nil) Z5 (Q2 (J0 (Q0 4) (W2 (Q0 8) Q3)) (Q2 (Q0 7) (Q2 (Q0 5) (Q2 (Q0 11) Z0))))))) (Q7 (J1 D5)) J8)
   (Q7 (W1 (yp hu (Q0 5) (bj Z0)) (Q4 (Z8 (i:=10) D7.nd (J0 (Q0 5) (W2 (W2 (V3 (Q0 11) (B5 (Q0 8) Q3)) Q3) (ju T.b_len (Q0 5)))))
   (Q4 (W1 (B4 (X9 (Z6 (Ys T) (hr.mono (by decide)) T.m_law_looked_at T.F_law_looked_at.kp T.bi_law_looked_at .nil (fun _ _=>.nil) Z5 (Q2 (Q0 4) (Q2 (Q0 5) (Q2 (Q0 2) (Q2 (Q0 10) Z0))))))) (Q7 (J1 D5)) J8)
   (Q7 (Z8 (i:=5) D7.nd (Z6 (ye T) (hr.mono (by decide)) T.m_law_without T.F_law_without.kp T.bi_law_without .nil (fun _ _=>.nil) Z5 (Q2 (Q0 5) (Q2 (J0 (Q0 10) Q3) Z0))))))) J8)))) zq)
   (Q7 (J1 (yr (Z6 (mn T) (hr.mono (by decide)) T.m_law_rows T.F_law_rows.kp T.bi_law_rows .nil (fun _ _=>.nil) Z5 (Q2 (yq t.c_Book (J0 (Q0 4) Q3) T.cl_Book T.me_Book_kept (P3 T) (hr.mono (by decide)) T.bi_Book_kept .nil (fun _ _=>.nil) Z5) (Q2 (Q0 5) Z0))) (gf (Z6 (mn T) (hr.mono (by decide)) T.m_law_rows T.F_law_rows.kp T.bi_law_rows .nil (fun _ _=>.nil) Z5 (Q2 (yq t.c_Book (J0 (Q0 4) Q3) T.cl_Book T.me_Book_kept (P3 T) (hr.mono (by decide)) T.bi_Book_kept .nil (fun _ _=>.nil) Z5) (Q2 (Q0 5) Z0)))))))))))))))))
theorem qct (T:Txt K mg t):FnOk P w K mg base CX0 10 t.f_law t.d_law ["_law_script"] (spD K 1 Bj):=
 T7 T.F_law D7 rfl (qe6 T) (qd6 T)
theorem all_mk {l:PySem.W.OpenLaw} {w:World} {K:Frag} {h:Heap} {mg:Str->Option Value} {fa f0 f1 f2 f3 f4 f5 f6 f7 f8 f9 f10 f11 f12 f13 f14 f15 f16 f17 f18 f19 f20 f21 f22 f23 f24 f25 f26 f27 f28 f29 f30 f31 f32 f33 f34 f35 f36 f37 c_Book x_Against x_Full x_NoNumber x_NoSighting x_NoText x_NoWay x_PegError fx_Against fx_NoWay:Addr} (X:K.In h) (G:h.Ns mainGlobals mg) (hfa:mg "law"=some (.ref fa))
  (ac_Book:nsIn K mainGlobals "Book"=some (some (.ref c_Book)))
  (ax_Against:nsIn K mainGlobals "Against"=some (some (.ref x_Against)))
  (ax_Full:nsIn K mainGlobals "Full"=some (some (.ref x_Full)))
  (ax_NoNumber:nsIn K mainGlobals "NoNumber"=some (some (.ref x_NoNumber)))
  (ax_NoSighting:nsIn K mainGlobals "NoSighting"=some (some (.ref x_NoSighting)))
  (ax_NoText:nsIn K mainGlobals "NoText"=some (some (.ref x_NoText)))
  (ax_NoWay:nsIn K mainGlobals "NoWay"=some (some (.ref x_NoWay)))
  (ax_PegError:nsIn K mainGlobals "PegError"=some (some (.ref x_PegError)))
  (a0:nsIn K mainGlobals "is_peg"=some (some (.ref f0)))
  (l0:K.lookup f0=some ⟨oc0,od0,.func (fnOf "is_peg" "is_peg" (J9 ja) (J3 ja) (Q5 ja) .none kV0 dc0 pm0 an0 cd0 ct0),sl0⟩)
  (c0:codeIn K cd0 "is_peg"=true)
  (k0:keepIn K (.ref f0)=true)
  (a1:nsIn K mainGlobals "is_whole"=some (some (.ref f1)))
  (l1:K.lookup f1=some ⟨oc1,od1,.func (fnOf "is_whole" "is_whole" (J9 E6) (J3 E6) (Q5 E6) .none kV1 dc1 pm1 an1 cd1 ct1),sl1⟩)
  (c1:codeIn K cd1 "is_whole"=true)
  (k1:keepIn K (.ref f1)=true)
  (a2:nsIn K mainGlobals "is_rise"=some (some (.ref f2)))
  (l2:K.lookup f2=some ⟨oc2,od2,.func (fnOf "is_rise" "is_rise" (J9 qy) (J3 qy) (Q5 qy) .none kV2 dc2 pm2 an2 cd2 ct2),sl2⟩)
  (c2:codeIn K cd2 "is_rise"=true)
  (k2:keepIn K (.ref f2)=true)
  (a3:nsIn K mainGlobals "is_sighting"=some (some (.ref f3)))
  (l3:K.lookup f3=some ⟨oc3,od3,.func (fnOf "is_sighting" "is_sighting" (J9 M6) (J3 M6) (Q5 M6) .none kV3 dc3 pm3 an3 cd3 ct3),sl3⟩)
  (c3:codeIn K cd3 "is_sighting"=true)
  (k3:keepIn K (.ref f3)=true)
  (a4:nsIn K mainGlobals "turned"=some (some (.ref f4)))
  (l4:K.lookup f4=some ⟨oc4,od4,.func (fnOf "turned" "turned" (J9 yc) (J3 yc) (Q5 yc) .none kV4 dc4 pm4 an4 cd4 ct4),sl4⟩)
  (c4:codeIn K cd4 "turned"=true)
  (k4:keepIn K (.ref f4)=true)
  (a5:nsIn K mainGlobals "total"=some (some (.ref f5)))
  (l5:K.lookup f5=some ⟨oc5,od5,.func (fnOf "total" "total" (J9 kn) (J3 kn) (Q5 kn) .none kV5 dc5 pm5 an5 cd5 ct5),sl5⟩)
  (c5:codeIn K cd5 "total"=true)
  (k5:keepIn K (.ref f5)=true)
  (a6:nsIn K mainGlobals "way_along"=some (some (.ref f6)))
  (l6:K.lookup f6=some ⟨oc6,od6,.func (fnOf "way_along" "way_along" (J9 R7) (J3 R7) (Q5 R7) .none kV6 dc6 pm6 an6 cd6 ct6),sl6⟩)
  (c6:codeIn K cd6 "way_along"=true)
  (k6:keepIn K (.ref f6)=true)
  (a7:nsIn K mainGlobals "part_of"=some (some (.ref f7)))
  (l7:K.lookup f7=some ⟨oc7,od7,.func (fnOf "part_of" "part_of" (J9 qu) (J3 qu) (Q5 qu) .none kV7 dc7 pm7 an7 cd7 ct7),sl7⟩)
  (c7:codeIn K cd7 "part_of"=true)
  (k7:keepIn K (.ref f7)=true)
  (a8:nsIn K mainGlobals "last_steps"=some (some (.ref f8)))
  (l8:K.lookup f8=some ⟨oc8,od8,.func (fnOf "last_steps" "last_steps" (J9 P2) (J3 P2) (Q5 P2) .none kV8 dc8 pm8 an8 cd8 ct8),sl8⟩)
  (c8:codeIn K cd8 "last_steps"=true)
  (k8:keepIn K (.ref f8)=true)
  (a9:nsIn K mainGlobals "steps_by_peg"=some (some (.ref f9)))
  (l9:K.lookup f9=some ⟨oc9,od9,.func (fnOf "steps_by_peg" "steps_by_peg" (J9 G6) (J3 G6) (Q5 G6) .none kV9 dc9 pm9 an9 cd9 ct9),sl9⟩)
  (c9:codeIn K cd9 "steps_by_peg"=true)
  (k9:keepIn K (.ref f9)=true)
  (a10:nsIn K mainGlobals "turned_row"=some (some (.ref f10)))
  (l10:K.lookup f10=some ⟨oc10,od10,.func (fnOf "turned_row" "turned_row" (J9 P1) (J3 P1) (Q5 P1) .none kV10 dc10 pm10 an10 cd10 ct10),sl10⟩)
  (c10:codeIn K cd10 "turned_row"=true)
  (k10:keepIn K (.ref f10)=true)
  (a11:findIn K (.ref c_Book) "__init__"=some (some (.ref f11)))
  (i11:isFn K (.ref f11)=true)
  (l11:K.lookup f11=some ⟨oc11,od11,.func (fnOf "__init__" "Book.__init__" (J9 T3) (J3 T3) (Q5 T3) (.ref e11) kV11 dc11 pm11 an11 cd11 ct11),sl11⟩)
  (c11:codeIn K cd11 "Book.__init__"=true)
  (k11:keepIn K (.ref f11)=true)
  (q11:K.lookup e11=some ⟨eo11,ed11,.seq #[.int 200 et11] en11,es11⟩)
  (a12:findIn K (.ref c_Book) "take"=some (some (.ref f12)))
  (i12:isFn K (.ref f12)=true)
  (l12:K.lookup f12=some ⟨oc12,od12,.func (fnOf "take" "Book.take" (J9 S5) (J3 S5) (Q5 S5) .none kV12 dc12 pm12 an12 cd12 ct12),sl12⟩)
  (c12:codeIn K cd12 "Book.take"=true)
  (k12:keepIn K (.ref f12)=true)
  (a13:findIn K (.ref c_Book) "drop"=some (some (.ref f13)))
  (i13:isFn K (.ref f13)=true)
  (l13:K.lookup f13=some ⟨oc13,od13,.func (fnOf "drop" "Book.drop" (J9 T4) (J3 T4) (Q5 T4) .none kV13 dc13 pm13 an13 cd13 ct13),sl13⟩)
  (c13:codeIn K cd13 "Book.drop"=true)
  (k13:keepIn K (.ref f13)=true)
  (a14:findIn K (.ref c_Book) "rise"=some (some (.ref f14)))
  (i14:isFn K (.ref f14)=true)
  (l14:K.lookup f14=some ⟨oc14,od14,.func (fnOf "rise" "Book.rise" (J9 S6) (J3 S6) (Q5 S6) .none kV14 dc14 pm14 an14 cd14 ct14),sl14⟩)
  (c14:codeIn K cd14 "Book.rise"=true)
  (k14:keepIn K (.ref f14)=true)
  (a15:findIn K (.ref c_Book) "way"=some (some (.ref f15)))
  (i15:isFn K (.ref f15)=true)
  (l15:K.lookup f15=some ⟨oc15,od15,.func (fnOf "way" "Book.way" (J9 E7) (J3 E7) (Q5 E7) .none kV15 dc15 pm15 an15 cd15 ct15),sl15⟩)
  (c15:codeIn K cd15 "Book.way"=true)
  (k15:keepIn K (.ref f15)=true)
  (a16:findIn K (.ref c_Book) "spare"=some (some (.ref f16)))
  (i16:isFn K (.ref f16)=true)
  (l16:K.lookup f16=some ⟨oc16,od16,.func (fnOf "spare" "Book.spare" (J9 M3) (J3 M3) (Q5 M3) .none kV16 dc16 pm16 an16 cd16 ct16),sl16⟩)
  (c16:codeIn K cd16 "Book.spare"=true)
  (k16:keepIn K (.ref f16)=true)
  (a17:findIn K (.ref c_Book) "kept"=some (some (.ref f17)))
  (i17:isFn K (.ref f17)=true)
  (l17:K.lookup f17=some ⟨oc17,od17,.func (fnOf "kept" "Book.kept" (J9 S7) (J3 S7) (Q5 S7) .none kV17 dc17 pm17 an17 cd17 ct17),sl17⟩)
  (c17:codeIn K cd17 "Book.kept"=true)
  (k17:keepIn K (.ref f17)=true)
  (a18:findIn K (.ref c_Book) "row_at"=some (some (.ref f18)))
  (i18:isFn K (.ref f18)=true)
  (l18:K.lookup f18=some ⟨oc18,od18,.func (fnOf "row_at" "Book.row_at" (J9 M7) (J3 M7) (Q5 M7) .none kV18 dc18 pm18 an18 cd18 ct18),sl18⟩)
  (c18:codeIn K cd18 "Book.row_at"=true)
  (k18:keepIn K (.ref f18)=true)
  (a19:nsIn K mainGlobals "_law_cell_at"=some (some (.ref f19)))
  (l19:K.lookup f19=some ⟨oc19,od19,.func (fnOf "_law_cell_at" "_law_cell_at" (J9 M5) (J3 M5) (Q5 M5) .none kV19 dc19 pm19 an19 cd19 ct19),sl19⟩)
  (c19:codeIn K cd19 "_law_cell_at"=true)
  (k19:keepIn K (.ref f19)=true)
  (a20:nsIn K mainGlobals "_law_whole"=some (some (.ref f20)))
  (l20:K.lookup f20=some ⟨oc20,od20,.func (fnOf "_law_whole" "_law_whole" (J9 R8) (J3 R8) (Q5 R8) .none kV20 dc20 pm20 an20 cd20 ct20),sl20⟩)
  (c20:codeIn K cd20 "_law_whole"=true)
  (k20:keepIn K (.ref f20)=true)
  (a21:nsIn K mainGlobals "_law_word"=some (some (.ref f21)))
  (l21:K.lookup f21=some ⟨oc21,od21,.func (fnOf "_law_word" "_law_word" (J9 A9) (J3 A9) (Q5 A9) .none kV21 dc21 pm21 an21 cd21 ct21),sl21⟩)
  (c21:codeIn K cd21 "_law_word"=true)
  (k21:keepIn K (.ref f21)=true)
  (a22:nsIn K mainGlobals "_law_pegs"=some (some (.ref f22)))
  (l22:K.lookup f22=some ⟨oc22,od22,.func (fnOf "_law_pegs" "_law_pegs" (J9 E4) (J3 E4) (Q5 E4) .none kV22 dc22 pm22 an22 cd22 ct22),sl22⟩)
  (c22:codeIn K cd22 "_law_pegs"=true)
  (k22:keepIn K (.ref f22)=true)
  (a23:nsIn K mainGlobals "_law_highs"=some (some (.ref f23)))
  (l23:K.lookup f23=some ⟨oc23,od23,.func (fnOf "_law_highs" "_law_highs" (J9 S4) (J3 S4) (Q5 S4) .none kV23 dc23 pm23 an23 cd23 ct23),sl23⟩)
  (c23:codeIn K cd23 "_law_highs"=true)
  (k23:keepIn K (.ref f23)=true)
  (a24:nsIn K mainGlobals "_law_sighting"=some (some (.ref f24)))
  (l24:K.lookup f24=some ⟨oc24,od24,.func (fnOf "_law_sighting" "_law_sighting" (J9 G7) (J3 G7) (Q5 G7) .none kV24 dc24 pm24 an24 cd24 ct24),sl24⟩)
  (c24:codeIn K cd24 "_law_sighting"=true)
  (k24:keepIn K (.ref f24)=true)
  (a25:nsIn K mainGlobals "_law_lay"=some (some (.ref f25)))
  (l25:K.lookup f25=some ⟨oc25,od25,.func (fnOf "_law_lay" "_law_lay" (J9 qw) (J3 qw) (Q5 qw) .none kV25 dc25 pm25 an25 cd25 ct25),sl25⟩)
  (c25:codeIn K cd25 "_law_lay"=true)
  (k25:keepIn K (.ref f25)=true)
  (a26:nsIn K mainGlobals "_law_tops"=some (some (.ref f26)))
  (l26:K.lookup f26=some ⟨oc26,od26,.func (fnOf "_law_tops" "_law_tops" (J9 E1) (J3 E1) (Q5 E1) .none kV26 dc26 pm26 an26 cd26 ct26),sl26⟩)
  (c26:codeIn K cd26 "_law_tops"=true)
  (k26:keepIn K (.ref f26)=true)
  (a27:nsIn K mainGlobals "_law_gap"=some (some (.ref f27)))
  (l27:K.lookup f27=some ⟨oc27,od27,.func (fnOf "_law_gap" "_law_gap" (J9 qx) (J3 qx) (Q5 qx) .none kV27 dc27 pm27 an27 cd27 ct27),sl27⟩)
  (c27:codeIn K cd27 "_law_gap"=true)
  (k27:keepIn K (.ref f27)=true)
  (a28:nsIn K mainGlobals "_law_kind"=some (some (.ref f28)))
  (l28:K.lookup f28=some ⟨oc28,od28,.func (fnOf "_law_kind" "_law_kind" (J9 E5) (J3 E5) (Q5 E5) .none kV28 dc28 pm28 an28 cd28 ct28),sl28⟩)
  (c28:codeIn K cd28 "_law_kind"=true)
  (k28:keepIn K (.ref f28)=true)
  (a29:nsIn K mainGlobals "_law_rows"=some (some (.ref f29)))
  (l29:K.lookup f29=some ⟨oc29,od29,.func (fnOf "_law_rows" "_law_rows" (J9 E2) (J3 E2) (Q5 E2) .none kV29 dc29 pm29 an29 cd29 ct29),sl29⟩)
  (c29:codeIn K cd29 "_law_rows"=true)
  (k29:keepIn K (.ref f29)=true)
  (a30:nsIn K mainGlobals "_law_both_take"=some (some (.ref f30)))
  (l30:K.lookup f30=some ⟨oc30,od30,.func (fnOf "_law_both_take" "_law_both_take" (J9 K4) (J3 K4) (Q5 K4) .none kV30 dc30 pm30 an30 cd30 ct30),sl30⟩)
  (c30:codeIn K cd30 "_law_both_take"=true)
  (k30:keepIn K (.ref f30)=true)
  (a31:nsIn K mainGlobals "_law_without"=some (some (.ref f31)))
  (l31:K.lookup f31=some ⟨oc31,od31,.func (fnOf "_law_without" "_law_without" (J9 G0) (J3 G0) (Q5 G0) .none kV31 dc31 pm31 an31 cd31 ct31),sl31⟩)
  (c31:codeIn K cd31 "_law_without"=true)
  (k31:keepIn K (.ref f31)=true)
  (a32:nsIn K mainGlobals "_law_part"=some (some (.ref f32)))
  (l32:K.lookup f32=some ⟨oc32,od32,.func (fnOf "_law_part" "_law_part" (J9 S3) (J3 S3) (Q5 S3) .none kV32 dc32 pm32 an32 cd32 ct32),sl32⟩)
  (c32:codeIn K cd32 "_law_part"=true)
  (k32:keepIn K (.ref f32)=true)
  (a33:nsIn K mainGlobals "_law_rise"=some (some (.ref f33)))
  (l33:K.lookup f33=some ⟨oc33,od33,.func (fnOf "_law_rise" "_law_rise" (J9 E3) (J3 E3) (Q5 E3) .none kV33 dc33 pm33 an33 cd33 ct33),sl33⟩)
  (c33:codeIn K cd33 "_law_rise"=true)
  (k33:keepIn K (.ref f33)=true)
  (a34:nsIn K mainGlobals "_law_no_number"=some (some (.ref f34)))
  (l34:K.lookup f34=some ⟨oc34,od34,.func (fnOf "_law_no_number" "_law_no_number" (J9 W9) (J3 W9) (Q5 W9) .none kV34 dc34 pm34 an34 cd34 ct34),sl34⟩)
  (c34:codeIn K cd34 "_law_no_number"=true)
  (k34:keepIn K (.ref f34)=true)
  (a35:nsIn K mainGlobals "_law_spare"=some (some (.ref f35)))
  (l35:K.lookup f35=some ⟨oc35,od35,.func (fnOf "_law_spare" "_law_spare" (J9 R9) (J3 R9) (Q5 R9) .none kV35 dc35 pm35 an35 cd35 ct35),sl35⟩)
  (c35:codeIn K cd35 "_law_spare"=true)
  (k35:keepIn K (.ref f35)=true)
  (a36:nsIn K mainGlobals "_law_looked_at"=some (some (.ref f36)))
  (l36:K.lookup f36=some ⟨oc36,od36,.func (fnOf "_law_looked_at" "_law_looked_at" (J9 K3) (J3 K3) (Q5 K3) .none kV36 dc36 pm36 an36 cd36 ct36),sl36⟩)
  (c36:codeIn K cd36 "_law_looked_at"=true)
  (k36:keepIn K (.ref f36)=true)
  (a37:nsIn K mainGlobals "law"=some (some (.ref f37)))
  (l37:K.lookup f37=some ⟨oc37,od37,.func (fnOf "law" "law" (J9 Xm) (J3 Xm) (Q5 Xm) .none kV37 dc37 pm37 an37 cd37 ct37),sl37⟩)
  (c37:codeIn K cd37 "law"=true)
  (k37:keepIn K (.ref f37)=true)
  (pg_Book:plainGet K c_Book Str.empty=true)
  (hd_Book:hasDictIn K c_Book=true)
  (po_Book:plainOver K c_Book=true)
  (sa_Book:findIn K (.ref c_Book) "__setattr__"=some (some (.builtin "object.__setattr__")))
  (mk_Book:makesIn K c_Book=true)
  (kc_Book:keepIn K (.ref c_Book)=true)
  (na_Book_most:findIn K (.ref c_Book) "most"=some none)
  (na_Book_taken:findIn K (.ref c_Book) "taken"=some none)
  (na_Book_rows:findIn K (.ref c_Book) "rows"=some none)
  (xcg:specialIn K (.builtin "object.__class__") "__get__"=some (some (.builtin "getset_descriptor.__get__")))
  (xct:takesIn K (.builtin "object.__class__")=some true)
  (bga_PegError:specialIn K (.ref x_PegError) "__getattribute__"=some (some (.builtin "type.__getattribute__")))
  (brd_PegError:readsIn K x_PegError (.type "type")=true)
  (bfd_PegError:findCls K (.ref x_PegError) (.type "type") "__init__"=some (.val (.builtin "ValueError.__init__")))
  (xa_Against:findIn K (.ref x_Against) "__init__"=some (some (.ref fx_Against)))
  (xi_Against:isFn K (.ref fx_Against)=true)
  (xl_Against:K.lookup fx_Against=some ⟨ocxAgainst,odxAgainst,.func (fnOf "__init__" "Against.__init__" (J9 qq) (J3 qq) (Q5 qq) .none kVxAgainst dcxAgainst pmxAgainst anxAgainst cdxAgainst ctxAgainst),slxAgainst⟩)
  (xd_Against:codeIn K cdxAgainst "Against.__init__"=true)
  (xe_Against:keepIn K (.ref fx_Against)=true)
  (xf_Against:keepIn K (.ref x_Against)=true)
  (xg_Against:yn K x_Against bmV "ValueError.__new__"=true)
  (xh_Against:findIn K (.ref x_Against) "__setattr__"=some (some (.builtin "object.__setattr__")))
  (xj_Against:takerIn K x_Against "trail"=some none)
  (xm_Against:hasDictIn K x_Against=true)
  (xn_Against:findIn K (.ref x_Against) "trail"=some none)
  (xa_NoWay:findIn K (.ref x_NoWay) "__init__"=some (some (.ref fx_NoWay)))
  (xi_NoWay:isFn K (.ref fx_NoWay)=true)
  (xl_NoWay:K.lookup fx_NoWay=some ⟨ocxNoWay,odxNoWay,.func (fnOf "__init__" "NoWay.__init__" (J9 gn) (J3 gn) (Q5 gn) .none kVxNoWay dcxNoWay pmxNoWay anxNoWay cdxNoWay ctxNoWay),slxNoWay⟩)
  (xd_NoWay:codeIn K cdxNoWay "NoWay.__init__"=true)
  (xe_NoWay:keepIn K (.ref fx_NoWay)=true)
  (xf_NoWay:keepIn K (.ref x_NoWay)=true)
  (xg_NoWay:yn K x_NoWay bmV "ValueError.__new__"=true)
  (xh_NoWay:findIn K (.ref x_NoWay) "__setattr__"=some (some (.builtin "object.__setattr__")))
  (xj_NoWay:takerIn K x_NoWay "near"=some none)
  (xm_NoWay:hasDictIn K x_NoWay=true)
  (xn_NoWay:findIn K (.ref x_NoWay) "near"=some none)
  (xk_NoNumber:excIn K x_NoNumber bmV "ValueError.__new__"=true)
  (xga_Against:findIn K (.ref x_Against) "__getattribute__"=some (some (.builtin "BaseException.__getattribute__")))
  (xgh_Against:findIn K (.ref x_Against) "__getattr__"=some none)
  (xsb_Against:subIn K (.ref x_Against) (.type "BaseException")=some true)
  (xcs_Against:isClsIn K x_Against=true)
  (xca_Against:findIn K (.ref x_Against) "__class__"=some (some (.builtin "object.__class__")))
  (xmo_Against:mroIn K x_Against (.type "object")=some true)
  (em_Against_Against:exmOne K (.ref x_Against) (.ref x_Against)=some true)
  (em_Against_NoWay:exmOne K (.ref x_Against) (.ref x_NoWay)=some false)
  (em_Against_PegError:exmOne K (.ref x_Against) (.ref x_PegError)=some true)
  (ki_Against_Against:kitOne K (.ref x_Against) (.ref x_Against)=some true)
  (ki_Against_Full:kitOne K (.ref x_Against) (.ref x_Full)=some false)
  (ki_Against_NoNumber:kitOne K (.ref x_Against) (.ref x_NoNumber)=some false)
  (ki_Against_NoSighting:kitOne K (.ref x_Against) (.ref x_NoSighting)=some false)
  (ki_Against_NoText:kitOne K (.ref x_Against) (.ref x_NoText)=some false)
  (ki_Against_NoWay:kitOne K (.ref x_Against) (.ref x_NoWay)=some false)
  (ki_Against_ValueError:kitOne K (.ref x_Against) (.type "ValueError")=some true)
  (xga_NoNumber:findIn K (.ref x_NoNumber) "__getattribute__"=some (some (.builtin "BaseException.__getattribute__")))
  (xgh_NoNumber:findIn K (.ref x_NoNumber) "__getattr__"=some none)
  (xsb_NoNumber:subIn K (.ref x_NoNumber) (.type "BaseException")=some true)
  (xcs_NoNumber:isClsIn K x_NoNumber=true)
  (xca_NoNumber:findIn K (.ref x_NoNumber) "__class__"=some (some (.builtin "object.__class__")))
  (xmo_NoNumber:mroIn K x_NoNumber (.type "object")=some true)
  (em_NoNumber_Against:exmOne K (.ref x_NoNumber) (.ref x_Against)=some false)
  (em_NoNumber_NoWay:exmOne K (.ref x_NoNumber) (.ref x_NoWay)=some false)
  (em_NoNumber_PegError:exmOne K (.ref x_NoNumber) (.ref x_PegError)=some true)
  (ki_NoNumber_Against:kitOne K (.ref x_NoNumber) (.ref x_Against)=some false)
  (ki_NoNumber_Full:kitOne K (.ref x_NoNumber) (.ref x_Full)=some false)
  (ki_NoNumber_NoNumber:kitOne K (.ref x_NoNumber) (.ref x_NoNumber)=some true)
  (ki_NoNumber_NoSighting:kitOne K (.ref x_NoNumber) (.ref x_NoSighting)=some false)
  (ki_NoNumber_NoText:kitOne K (.ref x_NoNumber) (.ref x_NoText)=some false)
  (ki_NoNumber_NoWay:kitOne K (.ref x_NoNumber) (.ref x_NoWay)=some false)
  (ki_NoNumber_ValueError:kitOne K (.ref x_NoNumber) (.type "ValueError")=some true)
  (xga_NoWay:findIn K (.ref x_NoWay) "__getattribute__"=some (some (.builtin "BaseException.__getattribute__")))
  (xgh_NoWay:findIn K (.ref x_NoWay) "__getattr__"=some none)
  (xsb_NoWay:subIn K (.ref x_NoWay) (.type "BaseException")=some true)
  (xcs_NoWay:isClsIn K x_NoWay=true)
  (xca_NoWay:findIn K (.ref x_NoWay) "__class__"=some (some (.builtin "object.__class__")))
  (xmo_NoWay:mroIn K x_NoWay (.type "object")=some true)
  (em_NoWay_Against:exmOne K (.ref x_NoWay) (.ref x_Against)=some false)
  (em_NoWay_NoWay:exmOne K (.ref x_NoWay) (.ref x_NoWay)=some true)
  (em_NoWay_PegError:exmOne K (.ref x_NoWay) (.ref x_PegError)=some true)
  (ki_NoWay_Against:kitOne K (.ref x_NoWay) (.ref x_Against)=some false)
  (ki_NoWay_Full:kitOne K (.ref x_NoWay) (.ref x_Full)=some false)
  (ki_NoWay_NoNumber:kitOne K (.ref x_NoWay) (.ref x_NoNumber)=some false)
  (ki_NoWay_NoSighting:kitOne K (.ref x_NoWay) (.ref x_NoSighting)=some false)
  (ki_NoWay_NoText:kitOne K (.ref x_NoWay) (.ref x_NoText)=some false)
  (ki_NoWay_NoWay:kitOne K (.ref x_NoWay) (.ref x_NoWay)=some true)
  (ki_NoWay_ValueError:kitOne K (.ref x_NoWay) (.type "ValueError")=some true)
  (z_ValueError:nsIn K mainGlobals "ValueError"=some none)
  (z_abs:nsIn K mainGlobals "abs"=some none)
  (z_all:nsIn K mainGlobals "all"=some none)
  (z_bool:nsIn K mainGlobals "bool"=some none)
  (z_int:nsIn K mainGlobals "int"=some none)
  (z_isinstance:nsIn K mainGlobals "isinstance"=some none)
  (z_len:nsIn K mainGlobals "len"=some none)
  (z_list:nsIn K mainGlobals "list"=some none)
  (z_min:nsIn K mainGlobals "min"=some none)
  (z_range:nsIn K mainGlobals "range"=some none)
  (z_sorted:nsIn K mainGlobals "sorted"=some none)
  (z_str:nsIn K mainGlobals "str"=some none)
  (z_sum:nsIn K mainGlobals "sum"=some none)
  (z_tuple:nsIn K mainGlobals "tuple"=some none)
  : ∃ fd:FuncData,(∀ (s:Shared) (v:Value),BindsTo s fd ⟨[v],[]⟩ [("_law_script",v)])/\∀ base:Heap,K.In base->base.Ns mainGlobals mg->FnOk l.prog w K mg base CX0 10 fa fd ["_law_script"] (spD K 1 Bj):=by
 have e:=hfa.symm.trans (mg_of X G a37)
 cases e
 have F0:=Y3 (st:=ja) l0 c0 k0
 have F1:=Y3 (st:=E6) l1 c1 k1
 have F2:=Y3 (st:=qy) l2 c2 k2
 have F3:=Y3 (st:=M6) l3 c3 k3
 have F4:=Y3 (st:=yc) l4 c4 k4
 have F5:=Y3 (st:=kn) l5 c5 k5
 have F6:=Y3 (st:=R7) l6 c6 k6
 have F7:=Y3 (st:=qu) l7 c7 k7
 have F8:=Y3 (st:=P2) l8 c8 k8
 have F9:=Y3 (st:=G6) l9 c9 k9
 have F10:=Y3 (st:=P1) l10 c10 k10
 have F11:=Y3 (st:=T3) l11 c11 k11
 have F12:=Y3 (st:=S5) l12 c12 k12
 have F13:=Y3 (st:=T4) l13 c13 k13
 have F14:=Y3 (st:=S6) l14 c14 k14
 have F15:=Y3 (st:=E7) l15 c15 k15
 have F16:=Y3 (st:=M3) l16 c16 k16
 have F17:=Y3 (st:=S7) l17 c17 k17
 have F18:=Y3 (st:=M7) l18 c18 k18
 have F19:=Y3 (st:=M5) l19 c19 k19
 have F20:=Y3 (st:=R8) l20 c20 k20
 have F21:=Y3 (st:=A9) l21 c21 k21
 have F22:=Y3 (st:=E4) l22 c22 k22
 have F23:=Y3 (st:=S4) l23 c23 k23
 have F24:=Y3 (st:=G7) l24 c24 k24
 have F25:=Y3 (st:=qw) l25 c25 k25
 have F26:=Y3 (st:=E1) l26 c26 k26
 have F27:=Y3 (st:=qx) l27 c27 k27
 have F28:=Y3 (st:=E5) l28 c28 k28
 have F29:=Y3 (st:=E2) l29 c29 k29
 have F30:=Y3 (st:=K4) l30 c30 k30
 have F31:=Y3 (st:=G0) l31 c31 k31
 have F32:=Y3 (st:=S3) l32 c32 k32
 have F33:=Y3 (st:=E3) l33 c33 k33
 have F34:=Y3 (st:=W9) l34 c34 k34
 have F35:=Y3 (st:=R9) l35 c35 k35
 have F36:=Y3 (st:=K3) l36 c36 k36
 have F37:=Y3 (st:=Xm) l37 c37 k37
 have FxAgainst:=Y3 (st:=qq) xl_Against xd_Against xe_Against
 have FxNoWay:=Y3 (st:=gn) xl_NoWay xd_NoWay xe_NoWay
 have T:Txt K mg ⟨f0,_,f1,_,f2,_,f3,_,f4,_,f5,_,f6,_,f7,_,f8,_,f9,_,f10,_,f11,_,f12,_,f13,_,f14,_,f15,_,f16,_,f17,_,f18,_,f19,_,f20,_,f21,_,f22,_,f23,_,f24,_,f25,_,f26,_,f27,_,f28,_,f29,_,f30,_,f31,_,f32,_,f33,_,f34,_,f35,_,f36,_,fa,_,et11,c_Book,x_Against,x_Full,x_NoNumber,x_NoSighting,x_NoText,x_NoWay,x_PegError,fx_Against,_,fx_NoWay,_⟩:=⟨F0,
  mg_of X G a0,
  (.all fun us hl=>match us,hl with | [_],_=>rfl),
  F1,
  mg_of X G a1,
  (.all fun us hl=>match us,hl with | [_],_=>rfl),
  F2,
  mg_of X G a2,
  (.all fun us hl=>match us,hl with | [_],_=>rfl),
  F3,
  mg_of X G a3,
  (.all fun us hl=>match us,hl with | [_],_=>rfl),
  F4,
  mg_of X G a4,
  (.all fun us hl=>match us,hl with | [_],_=>rfl),
  F5,
  mg_of X G a5,
  (.all fun us hl=>match us,hl with | [_],_=>rfl),
  F6,
  mg_of X G a6,
  (.all fun us hl=>match us,hl with | [_,_,_],_=>rfl),
  F7,
  mg_of X G a7,
  (.all fun us hl=>match us,hl with | [_,_],_=>rfl),
  F8,
  mg_of X G a8,
  (.all fun us hl=>match us,hl with | [_,_],_=>rfl),
  F9,
  mg_of X G a9,
  (.all fun us hl=>match us,hl with | [_],_=>rfl),
  F10,
  mg_of X G a10,
  (.all fun us hl=>match us,hl with | [_],_=>rfl),
  F11,
  (fun s us X hl=>match us,(show us.length=2 by simpa using hl) with | [_,_],_=>BindsTo.of_defaults rfl (X _ _ q11) rfl rfl rfl),
  (fun s us X hl=>match us,(show us.length=1 by simpa using hl) with | [_],_=>BindsTo.of_defaults rfl (X _ _ q11) rfl rfl rfl),
  F12,
  ⟨a12,i12,k12⟩,
  (.all fun us hl=>match us,hl with | [_,_,_,_],_=>rfl),
  F13,
  ⟨a13,i13,k13⟩,
  (.all fun us hl=>match us,hl with | [_,_],_=>rfl),
  F14,
  ⟨a14,i14,k14⟩,
  (.all fun us hl=>match us,hl with | [_,_,_],_=>rfl),
  F15,
  ⟨a15,i15,k15⟩,
  (.all fun us hl=>match us,hl with | [_,_,_],_=>rfl),
  F16,
  ⟨a16,i16,k16⟩,
  (.all fun us hl=>match us,hl with | [_,_],_=>rfl),
  F17,
  ⟨a17,i17,k17⟩,
  (.all fun us hl=>match us,hl with | [_],_=>rfl),
  F18,
  ⟨a18,i18,k18⟩,
  (.all fun us hl=>match us,hl with | [_,_],_=>rfl),
  F19,
  mg_of X G a19,
  (.all fun us hl=>match us,hl with | [_,_],_=>rfl),
  F20,
  mg_of X G a20,
  (.all fun us hl=>match us,hl with | [_],_=>rfl),
  F21,
  mg_of X G a21,
  (.all fun us hl=>match us,hl with | [_],_=>rfl),
  F22,
  mg_of X G a22,
  (.all fun us hl=>match us,hl with | [_,_],_=>rfl),
  F23,
  mg_of X G a23,
  (.all fun us hl=>match us,hl with | [_,_],_=>rfl),
  F24,
  mg_of X G a24,
  (.all fun us hl=>match us,hl with | [_,_,_,_],_=>rfl),
  F25,
  mg_of X G a25,
  (.all fun us hl=>match us,hl with | [_,_],_=>rfl),
  F26,
  mg_of X G a26,
  (.all fun us hl=>match us,hl with | [_],_=>rfl),
  F27,
  mg_of X G a27,
  (.all fun us hl=>match us,hl with | [_,_,_],_=>rfl),
  F28,
  mg_of X G a28,
  (.all fun us hl=>match us,hl with | [_],_=>rfl),
  F29,
  mg_of X G a29,
  (.all fun us hl=>match us,hl with | [_,_],_=>rfl),
  F30,
  mg_of X G a30,
  (.all fun us hl=>match us,hl with | [_,_,_,_,_],_=>rfl),
  F31,
  mg_of X G a31,
  (.all fun us hl=>match us,hl with | [_,_],_=>rfl),
  F32,
  mg_of X G a32,
  (.all fun us hl=>match us,hl with | [_,_],_=>rfl),
  F33,
  mg_of X G a33,
  (.all fun us hl=>match us,hl with | [_,_,_,_],_=>rfl),
  F34,
  mg_of X G a34,
  (.all fun us hl=>match us,hl with | [_,_,_,_],_=>rfl),
  F35,
  mg_of X G a35,
  (.all fun us hl=>match us,hl with | [_,_,_],_=>rfl),
  F36,
  mg_of X G a36,
  (.all fun us hl=>match us,hl with | [_,_,_,_],_=>rfl),
  F37,
  mg_of X G a37,
  (.all fun us hl=>match us,hl with | [_],_=>rfl),
  ⟨pg_Book,hd_Book,po_Book,sa_Book⟩,
  mg_of X G ac_Book,
  ⟨mk_Book,a11,i11,kc_Book⟩,
  na_Book_most,
  na_Book_taken,
  na_Book_rows,
  mg_of X G ax_Against,
  mg_of X G ax_Full,
  mg_of X G ax_NoNumber,
  mg_of X G ax_NoSighting,
  mg_of X G ax_NoText,
  mg_of X G ax_NoWay,
  mg_of X G ax_PegError,
  ⟨bga_PegError,brd_PegError,bfd_PegError⟩,
  FxAgainst,
  (.all fun us hl=>match us,hl with | [_,_],_=>rfl),
  ⟨xg_Against,xa_Against,xi_Against,xf_Against⟩,
  ⟨xg_Against,xh_Against,xj_Against,xm_Against⟩,
  ⟨xm_Against,xn_Against⟩,
  FxNoWay,
  (.all fun us hl=>match us,hl with | [_,_],_=>rfl),
  ⟨xg_NoWay,xa_NoWay,xi_NoWay,xf_NoWay⟩,
  ⟨xg_NoWay,xh_NoWay,xj_NoWay,xm_NoWay⟩,
  ⟨xm_NoWay,xn_NoWay⟩,
  xk_NoNumber,
  ⟨⟨xga_Against,xgh_Against,xsb_Against⟩,xcs_Against,xca_Against,xcg,xct,xmo_Against⟩,
  em_Against_Against,
  em_Against_NoWay,
  em_Against_PegError,
  ki_Against_Against,
  ki_Against_Full,
  ki_Against_NoNumber,
  ki_Against_NoSighting,
  ki_Against_NoText,
  ki_Against_NoWay,
  ki_Against_ValueError,
  ⟨⟨xga_NoNumber,xgh_NoNumber,xsb_NoNumber⟩,xcs_NoNumber,xca_NoNumber,xcg,xct,xmo_NoNumber⟩,
  em_NoNumber_Against,
  em_NoNumber_NoWay,
  em_NoNumber_PegError,
  ki_NoNumber_Against,
  ki_NoNumber_Full,
  ki_NoNumber_NoNumber,
  ki_NoNumber_NoSighting,
  ki_NoNumber_NoText,
  ki_NoNumber_NoWay,
  ki_NoNumber_ValueError,
  ⟨⟨xga_NoWay,xgh_NoWay,xsb_NoWay⟩,xcs_NoWay,xca_NoWay,xcg,xct,xmo_NoWay⟩,
  em_NoWay_Against,
  em_NoWay_NoWay,
  em_NoWay_PegError,
  ki_NoWay_Against,
  ki_NoWay_Full,
  ki_NoWay_NoNumber,
  ki_NoWay_NoSighting,
  ki_NoWay_NoText,
  ki_NoWay_NoWay,
  ki_NoWay_ValueError,
  mg_none_of X G z_ValueError,
  mg_none_of X G z_abs,
  mg_none_of X G z_all,
  mg_none_of X G z_bool,
  mg_none_of X G z_int,
  mg_none_of X G z_isinstance,
  mg_none_of X G z_len,
  mg_none_of X G z_list,
  mg_none_of X G z_min,
  mg_none_of X G z_range,
  mg_none_of X G z_sorted,
  mg_none_of X G z_str,
  mg_none_of X G z_sum,
  mg_none_of X G z_tuple⟩
 exact ⟨_,fun s v=>.of_eq rfl,fun base _ _=>qct T⟩
theorem walk {l:PySem.W.OpenLaw} {q:Program} {loose:List Str} {XP:(Str->Option Value)->Heap->Prop} {YP:World->Heap->Prop} {d:DefRec} {K:Params->Frag} (hn:l.most=some 63) (hdf:d.params.defaults=[])
  (hY:∀ (w:World) (h:Heap),YP w h->(K w.params).In h)
  (F:∀ (w:World) (mg:Str->Option Value) (fa:Addr) (h:Heap),(K w.params).In h->h.Ns mainGlobals mg->mg d.name=some (.ref fa)->
   ∃ fd:FuncData,(∀ (s:Shared) (u:Value),BindsTo s fd ⟨[u],[]⟩ [("_law_script",u)])/\∀ base:Heap,(K w.params).In base->base.Ns mainGlobals mg->FnOk l.prog w (K w.params) mg base CX0 10 fa fd ["_law_script"] (spD (K w.params) 1 Bj)):
  PySem.W.WalkO q loose XP YP l.row.toRowW d [] (fun f vs=>PySem.call f vs):=
 qdr hn hdf ⟨rfl,by decide,by decide⟩ hY F law_true
end K08
namespace HD
open PySem PySem.W PyProof.Rows
def qv:Program:=view PySem.Challenge.pw_pegrise_k08_spare_rows [43]
def lo:List Str:=(PySem.Challenge.pw_pegrise_k08_spare_rows.main.scope.names.map fun x=>x.1).filter fun x=>x != ("law":Str)
theorem qd2:PySem.Challenge.rw_pegrise_k08_spare_rows.wellSaid=true:=by kernel_rfl
theorem opp:opening PySem.Challenge.pw_pegrise_k08_spare_rows=plainProg PySem.Challenge.pw_pegrise_k08_spare_rows.main.scope.names:=by kernel_rfl
theorem fnn:∀ s,fenceModules? PySem.Challenge.pw_pegrise_k08_spare_rows s=some s:=by intro s;kernel_rfl
theorem zz:∀ (w:World) os,(⟨boot_heap w.params,Array.mk [],boot_drawn,boot_toks,os⟩:Shared)=(T0 11 w os).abs:=by intro w os;kernel_rfl
theorem szz:∀ w:World,((boot_heap w.params).isNs mainGlobals,(boot_heap w.params).objs.size,(boot_heap w.params).nsMap mainGlobals "__annotations__")=(true,11,some (.ref 6)):=by intro w;kernel_rfl
end HD
open PySem PySem.W PyProof.Rows
local macro_rules
 | `(tactic| o_head $H:term)=>`(tactic| (
  refine holds_open (r:=OpenLaw.row PySem.Challenge.rw_pegrise_k08_spare_rows) (q:=HD.qv) (loose:=HD.lo)
   (Xt:=fun s=>xlAt HD.qv [] s && recOk (RowW.records (OpenRow.toRowW (OpenLaw.row PySem.Challenge.rw_pegrise_k08_spare_rows))) s)
   (XP:=XL HD.qv []) (Yf:=Hook.obs $H) (Ya:=Hook.val $H) (YP:=Hook.says $H) (N:=9000)
   (HD.XJ 13 11 (some (.ref 6)) PySem.W.Fast.te10156331382660048174 (congrFun PySem.W.Fast.te11892475500146522536 treeTable)
    PySem.W.Fast.te4187177175401517315 HD.opp rfl (by decide +kernel) HD.fnn HD.zz HD.szz (fun w os=>by kernel_rfl))
   (Hook.of $H) (Hook.keeps $H) (fun s e=>xl_of s (Bool.and_eq_true_iff.mp e).1) XL.keeps
   (by rfl) (by rfl) (by rfl) (fun s e=>recFacts_of (Bool.and_eq_true_iff.mp e).2)
   (by rfl) (by assumption) (by decide +kernel) ⟨rfl,rfl,rfl,rfl,rfl,by decide +kernel⟩ ?hw ?hc))
set_option maxRecDepth 100000 in
set_option maxHeartbeats 0 in
theorem PySem.Challenge.cw_pegrise_k08_spare_rows_holds : PySem.Challenge.rw_pegrise_k08_spare_rows.Holds := by
 w_on
 refine holds_law HD.qd2 fun qd2=>?_
 k_head
 ·w_witness2
 k_fill
 refine K08.walk (l:=PySem.Challenge.rw_pegrise_k08_spare_rows) rfl rfl (fun w h Y=>PySem.W.kIn_of Y) ?F
 case F=>
  intro w mg fa h KX G hmg
  refine' K08.all_mk KX G hmg ?_ ?_ ?_ ?_ ?_ ?_ ?_ ?_ ?_ ?_ ?_ ?_ ?_ ?_ ?_ ?_ ?_ ?_ ?_ ?_ ?_ ?_ ?_ ?_ ?_ ?_ ?_ ?_ ?_ ?_ ?_ ?_ ?_ ?_ ?_ ?_ ?_ ?_ ?_ ?_ ?_ ?_ ?_ ?_ ?_ ?_ ?_ ?_ ?_ ?_ ?_ ?_ ?_ ?_ ?_ ?_ ?_ ?_ ?_ ?_ ?_ ?_ ?_ ?_ ?_ ?_ ?_ ?_ ?_ ?_ ?_ ?_ ?_ ?_ ?_ ?_ ?_ ?_ ?_ ?_ ?_ ?_ ?_ ?_ ?_ ?_ ?_ ?_ ?_ ?_ ?_ ?_ ?_ ?_ ?_ ?_ ?_ ?_ ?_ ?_ ?_ ?_ ?_ ?_ ?_ ?_ ?_ ?_ ?_ ?_ ?_ ?_ ?_ ?_ ?_ ?_ ?_ ?_ ?_ ?_ ?_ ?_ ?_ ?_ ?_ ?_ ?_ ?_ ?_ ?_ ?_ ?_ ?_ ?_ ?_ ?_ ?_ ?_ ?_ ?_ ?_ ?_ ?_ ?_ ?_ ?_ ?_ ?_ ?_ ?_ ?_ ?_ ?_ ?_ ?_ ?_ ?_ ?_ ?_ ?_ ?_ ?_ ?_ ?_ ?_ ?_ ?_ ?_ ?_ ?_ ?_ ?_ ?_ ?_ ?_ ?_ ?_ ?_ ?_ ?_ ?_ ?_ ?_ ?_ ?_ ?_ ?_ ?_ ?_ ?_ ?_ ?_ ?_ ?_ ?_ ?_ ?_ ?_ ?_ ?_ ?_ ?_ ?_ ?_ ?_ ?_ ?_ ?_ ?_ ?_ ?_ ?_ ?_ ?_ ?_ ?_ ?_ ?_ ?_ ?_ ?_ ?_ ?_ ?_ ?_ ?_ ?_ ?_ ?_ ?_ ?_ ?_ ?_ ?_ ?_ ?_ ?_ ?_ ?_ ?_ ?_ ?_ ?_ ?_ ?_ ?_ ?_ ?_ ?_ ?_ ?_ ?_ ?_ ?_ ?_ ?_ ?_ ?_ ?_ ?_ ?_ ?_ ?_ ?_ ?_ ?_ ?_ ?_
  all_goals try first | k_is | kit_is | kts_exm | k_exc | kernel_rfl
