import PyProof.Rows.All
import Wide.All
import OpenK.AllK
import Wide.FinOn
import Lean
import PyProof.EqAt
import PyProof.EqKinds
import PyProof.TupleCall
import PyProof.StrWalks
import PyProof.ConsumeWalk
import PyProof.SumWalkG
import PyProof.Rows.SortStr
import PyProof.Rows.SortWalk
import PyProof.StationsW
import OpenK.KOwn
import KE.KDictLaws
import KE.KDictList
import KE.KTryMore
import PyProof.NsDelKeeps
import PyProof.Rows.CatchOwn
import PyProof.ExcAttrAll.ValueError
import PyProof.StrCalls2
import KE.KIntText
import PyProof.DictWalks
import PyProof.ZipIter
import PyProof.StrLawsTight
import KE.IntTextLaws
import KE.IntTextText
import PyProof.Rows.StrIntSpec
import PySem.Challenge.RW_pegrise_k05_written_and_read
set_option Elab.async false
set_option linter.all false
set_option maxRecDepth 100000
open PySem.W (Looks callWith_K callWith_K0 codeIn emptyDict excIn exmOne findIn fnOf handedIn hasDictIn instObj isFn keepIn kia_one kitOne kitx_dict kitx_list kitx_own lookIn makesIn methodCall_KW methodObj mg_none_of mg_of mroIn nsIn plainGet plainGet_of plainOver specialIn subIn takerIn takesIn Frag)
namespace L2
open PySem PySem.Spec PyProof.Rows
abbrev Key:=Sum Int Str
def keyIs:Key->Value->Bool
 | .inl k,v=>Value.isInt k v
 | .inr x,v=>Value.isStrOf x v
def keyH (w:World):Key->Int
 | .inl k=>hashInt k
 | .inr x=>hashStr w x
theorem keyIs_shape:∀ {k:Key} {v:Value},keyIs k v=true->(∃ i t,k=Sum.inl i/\v=Value.int i t)\/(∃ x t,k=Sum.inr x/\v=Value.str x t)
 | .inl i,v,h=>by
  obtain ⟨t,e⟩:=Value.isInt_shape (k:=i) (v:=v) h
  exact .inl ⟨i,t,rfl,e⟩
 | .inr x,v,h=>by
  obtain ⟨t,e⟩:=Value.isStrOf_shape (x:=x) (v:=v) h
  exact .inr ⟨x,t,rfl,e⟩
theorem keyIs_int (i:Int) (t:Tok):keyIs (.inl i) (.int i t)=true:=by simp [keyIs,Value.isInt]
theorem keyIs_str (x:Str) (t:Tok):keyIs (.inr x) (.str x t)=true:=by simp [keyIs,Value.isStrOf]
theorem key_ll (a b:Int):decide ((Sum.inl a:Key)=Sum.inl b)=(a == b):=by
 by_cases e:a=b
 ·subst e;simp
 ·have h:¬ (Sum.inl a:Key)=Sum.inl b:=fun q=>e (Sum.inl.inj q)
  rw [decide_eq_false h]
  exact (beq_eq_false_iff_ne.mpr e).symm
theorem key_rr (a b:Str):decide ((Sum.inr a:Key)=Sum.inr b)=decide (a=b):=by
 by_cases e:a=b
 ·subst e;simp
 ·have h:¬ (Sum.inr a:Key)=Sum.inr b:=fun q=>e (Sum.inr.inj q)
  rw [decide_eq_false h,decide_eq_false e]
theorem key_lr (a:Int) (b:Str):decide ((Sum.inl a:Key)=Sum.inr b)=false:=decide_eq_false (fun q=>nomatch q)
theorem key_rl (a:Str) (b:Int):decide ((Sum.inr a:Key)=Sum.inl b)=false:=decide_eq_false (fun q=>nomatch q)
def mixKind (prog:Program) (w:World):PySem.KeyKind prog w Key where
 is:=keyIs
 hash:=keyH w
 inj:=fun v a b ha hb=>by
  rcases keyIs_shape ha with ⟨i,t,rfl,rfl⟩ | ⟨x,t,rfl,rfl⟩
  ·rcases keyIs_shape hb with ⟨j,u,rfl,e⟩ | ⟨y,u,rfl,e⟩
   ·injection e with e1 _;rw [e1]
   ·exact nomatch e
  ·rcases keyIs_shape hb with ⟨j,u,rfl,e⟩ | ⟨y,u,rfl,e⟩
   ·exact nomatch e
   ·injection e with e1 _;rw [e1]
 byValue:=fun k v h=>by
  rcases keyIs_shape h with ⟨i,t,rfl,rfl⟩ | ⟨x,t,rfl,rfl⟩ <;> rfl
 pyHash:=fun hv h=>by
  rcases keyIs_shape hv with ⟨i,t,rfl,rfl⟩ | ⟨x,t,rfl,rfl⟩
  ·exact wpAny_pyHash_int h
  ·exact wpAny_pyHash_str h
 eqBool:=fun hu hv h=>by
  rcases keyIs_shape hu with ⟨i,t,rfl,rfl⟩ | ⟨x,t,rfl,rfl⟩
  ·rcases keyIs_shape hv with ⟨j,u,rfl,rfl⟩ | ⟨y,u,rfl,rfl⟩
   ·rw [key_ll] at h;exact wpAny_eqBool_int h
   ·rw [key_lr] at h;exact SeqAt.EqAt.int_str i t y u _ _ _ _ h
  ·rcases keyIs_shape hv with ⟨j,u,rfl,rfl⟩ | ⟨y,u,rfl,rfl⟩
   ·rw [key_rl] at h;exact SeqAt.EqAt.str_int x t j u _ _ _ _ h
   ·rw [key_rr] at h;exact wpAny_eqBool_str h
 «strs»:=fun k x t v h=>by
  rcases keyIs_shape h with ⟨i,u,rfl,e⟩ | ⟨y,u,rfl,e⟩
  ·exact nomatch e
  ·injection e with e1 _
   subst e1
   cases v <;> rfl
theorem mixKind_int (prog:Program) (w:World) (i:Int) (t:Tok):(mixKind prog w).is (.inl i) (.int i t)=true:=keyIs_int i t
theorem mixKind_str (prog:Program) (w:World) (x:Str) (t:Tok):(mixKind prog w).is (.inr x) (.str x t)=true:=keyIs_str x t
end L2
namespace L2
open PySem PySem.Spec PyProof.Rows
inductive V where
 | non | bl (b:Bool) | int (i:Int) | str (x:Str) | byt (b:Array UInt8) | flt (b:UInt64) | ref (a:Addr) | ty (n:String)
 deriving DecidableEq
def RelV:V->Value->Prop
 | .non,u=>u=Value.none
 | .bl b,u=>u=Value.bool b
 | .int i,u=>∃ t,u=Value.int i t
 | .str x,u=>∃ t,u=Value.str x t
 | .byt b,u=>∃ t,u=Value.bytes b t
 | .flt b,u=>∃ t,u=Value.float b t
 | .ref a,u=>u=Value.ref a
 | .ty n,u=>u=Value.type n
abbrev Vals:List V->List Value->Prop:=Paired RelV
theorem Vals.length {xs:List V} {us:List Value} (r:Vals xs us):xs.length=us.length:=Paired.length r
theorem Vals.get:∀ {xs:List V} {us:List Value} {i:Nat} {x:V},Vals xs us->xs[i]?=some x->∃ u,us[i]?=some u/\RelV x u
 | _,_,_,_,.nil,e=>by simp at e
 | _,_,0,_,.cons r _,e=>by simp at e;subst e;exact ⟨_,rfl,r⟩
 | _,_,i+1,x,.cons _ t,e=>by
  obtain ⟨u,h1,h2⟩:=Vals.get (i:=i) (x:=x) t (by simpa using e)
  exact ⟨u,by simpa using h1,h2⟩
theorem Vals.set {x:V} {u:Value} (r:RelV x u):∀ {xs:List V} {us:List Value} (i:Nat),Vals xs us->Vals (xs.set i x) (us.set i u)
 | _,_,_,.nil=>.nil
 | _,_,0,.cons _ t=>.cons r t
 | _,_,i+1,.cons q t=>.cons q (Vals.set r i t)
theorem Vals.append:∀ {xs ys:List V} {us ws:List Value},Vals xs us->Vals ys ws->Vals (xs++ys) (us++ws)
 | _,_,_,_,.nil,s=>s
 | _,_,_,_,.cons r t,s=>.cons r (Vals.append t s)
theorem Vals.take:∀ {xs:List V} {us:List Value} (n:Nat),Vals xs us->Vals (xs.take n) (us.take n)
 | _,_,0,_=>.nil
 | _,_,_+1,.nil=>.nil
 | _,_,n+1,.cons r t=>.cons r (Vals.take n t)
theorem Vals.drop:∀ {xs:List V} {us:List Value} (n:Nat),Vals xs us->Vals (xs.drop n) (us.drop n)
 | _,_,0,r=>r
 | _,_,_+1,.nil=>.nil
 | _,_,n+1,.cons _ t=>Vals.drop n t
def RelO:Option V->Option Value->Prop
 | some v,some u=>RelV v u
 | none,none=>True
 | _,_=>False
def KV {κ:Type}:List (κ×V)->List (κ×Value)->Prop:=Paired fun (p:κ×V) (q:κ×Value)=>p.1=q.1/\RelV p.2 q.2
def kV:Key->V
 | .inl i=>.int i
 | .inr x=>.str x
inductive HO where
  | lst (xs:List V)
  | tup (xs:List V)
  | dK (kvs:List (Key×V)) | dT (kvs:List (List Key×V))
  | set (S:Int->Bool) (n:Nat)
  | ins (C dx:Addr) (fs:List (Str×V))
  | own (x:Addr)
  | xd (fs:List (Str×V))
  | met (f x:Addr)
  | rng (lo hi:Int)
  | frz (o:Obj) (u:HO)
  | tbl (ps:Array Value)
  | ext (φ:Heap->Prop)
abbrev Hp:=Addr->Option HO
def upd (H:Hp) (a:Addr) (o:HO):Hp:=fun b=>if b=a then some o else H b
theorem upd_same {H:Hp} {a:Addr} {o:HO}:upd H a o a=some o:=by unfold upd;rw [if_pos rfl]
theorem upd_ne {H:Hp} {a b:Addr} {o:HO} (h:b≠a):upd H a o b=H b:=by unfold upd;rw [if_neg h]
theorem ne_of {H:Hp} {a b:Addr} {o u:HO} (h:H a=some o) (h':H b=some u) (d:o≠u):a≠b:=by
 intro e;subst e;rw [h] at h';exact d (Option.some.inj h')
theorem ne_of_none {H:Hp} {a b:Addr} {o:HO} (h:H a=some o) (h':H b=none):a≠b:=by
 intro e;subst e;rw [h] at h';cases h'
section
variable (P:Program) (w:World)
def ObjOk (H:Hp) (h:Heap) (a:Addr):HO->Prop
 | .lst xs=>xs.length<=sizeLine/\∃ (its:List Value) (n:Nat),Vals xs its/\h.get? a=some { cls:=.type "list",data:=.seq its.toArray n }
 | .tup xs=>xs.length<=sizeLine/\∃ its:List Value,Vals xs its/\IsTup h a its.toArray
 | .dK kvs=>kvs.length<=sizeLine/\(a == sysModules)=false/\∃ vs,KV kvs vs/\h.DictOf (mixKind P w) a vs
 | .dT kvs=>kvs.length<=sizeLine/\(a == sysModules)=false/\∃ xs:List (List Key×Addr×Value),
   Paired (fun (p:List Key×V) (q:List Key×Addr×Value)=>p.1=q.1/\H q.2.1=some (.tup (p.1.map kV))/\RelV p.2 q.2.2) kvs xs/\
   ∃ o es ep,h.get? a=some o/\o.ExactDict/\o.data=.dict es ep/\es.toList=xs.map (entryOfKey (tupleKind (mixKind P w)))/\(xs.map (·.1)).Nodup
 | .set S n=>h.SetOf (intKind P w) a S n
 | .ins C dx fs=>H dx=some (.own a)/\fs.length<=1000/\dx≠a/\h.get? a=some (instObj C dx)/\
   ∃ mA,h.Ns1 dx mA/\(∀ f,RelO (fs.lookup f) (mA f))/\PySem.Within mA (fs.map (·.1))
 | .own _=>∃ o,h.get? a=some o
 | .xd fs=>∃ mA,h.Ns1 a mA/\∀ f,RelO (fs.lookup f) (mA f)
 | .rng lo hi=>∃ t u v,h.get? a=some { cls:=.type "range",data:=.fields #[.int lo t,.int hi u,.int 1 v] }
 | .frz o u=>h.get? a=some o/\ObjOk H h a u
 | .tbl ps=>h.get? a=some { cls:=.none,data:=.fields ps }
 | .met f x=>h.get? a=some (methodObj (.ref f) (.ref x))
 | .ext φ=>φ h/\(∃ o,h.get? a=some o)/\∀ h1 h2:Heap,φ h1->(∀ o,h1.get? a=some o->h2.get? a=some o)->φ h2
def HOk (H:Hp) (h:Heap):Prop:=∀ a o,H a=some o->ObjOk P w H h a o
end
section
variable {P:Program} {w:World} {H H':Hp} {h h':Heap} {a:Addr} {o:HO}
theorem ObjOk.lt (x:ObjOk P w H h a o):a < h.objs.size:=by
 cases o with
 | lst xs=>obtain ⟨_,_,_,_,e⟩:=x;exact Heap.lt_size e
 | tup xs=>obtain ⟨_,_,_,p⟩:=x;exact p.lt
 | dK kvs=>obtain ⟨_,_,_,_,o,_,_,e,_⟩:=x;exact Heap.lt_size e
 | dT kvs=>obtain ⟨_,_,_,_,o,_,_,e,_⟩:=x;exact Heap.lt_size e
 | set S n=>obtain ⟨o,_,_,_,e,_⟩:=x;exact Heap.lt_size e
 | ins C dx fs=>obtain ⟨_,_,_,e,_⟩:=x;exact Heap.lt_size e
 | own y=>obtain ⟨_,e⟩:=x;exact Heap.lt_size e
 | xd fs=>obtain ⟨_,⟨_,_,_,e,_⟩,_⟩:=x;exact Heap.lt_size e
 | rng lo hi=>obtain ⟨_,_,_,e⟩:=x;exact Heap.lt_size e
 | frz ob u=>obtain ⟨e,_⟩:=x;exact Heap.lt_size e
 | tbl ps=>exact Heap.lt_size (show h.get? a=some _ from x)
 | met f y=>exact Heap.lt_size (show h.get? a=some _ from x)
 | ext φ=>obtain ⟨_,⟨_,e⟩,_⟩:=x;exact Heap.lt_size e
theorem Paired.mapP {α β:Type} {F G:α->β->Prop}:∀ {l₁:List α} {l₂:List β},Paired F l₁ l₂->(∀ a b,F a b->G a b)->Paired G l₁ l₂
 | _,_,.nil,_=>.nil
 | _,_,.cons r t,f=>.cons (f _ _ r) (Paired.mapP t f)
theorem ObjOk.stay (x:ObjOk P w H h a o) (k:∀ b u,(b=a\/H b=some (.own a))->h.get? b=some u->h'.get? b=some u)
  (ho:∀ b,H b=some (.own a)->H' b=some (.own a)) (ht:∀ b xs,H b=some (.tup xs)->H' b=some (.tup xs)):ObjOk P w H' h' a o:=by
 induction o with
 | lst xs=>obtain ⟨z,its,n,r,e⟩:=x;exact ⟨z,its,n,r,k _ _ (.inl rfl) e⟩
 | tup xs=>obtain ⟨z,its,r,ob,e,c⟩:=x;exact ⟨z,its,r,ob,k _ _ (.inl rfl) e,c⟩
 | dK kvs=>obtain ⟨z,y,vs,r,ob,es,ep,e,c⟩:=x;exact ⟨z,y,vs,r,ob,es,ep,k _ _ (.inl rfl) e,c⟩
 | dT kvs=>
  obtain ⟨z,y,xs,r,ob,es,ep,e,c⟩:=x
  exact ⟨z,y,xs,Paired.mapP r fun p q z=>⟨z.1,ht _ _ z.2.1,z.2.2⟩,ob,es,ep,k _ _ (.inl rfl) e,c⟩
 | set S n=>obtain ⟨ob,es,ep,t,e,c⟩:=x;exact ⟨ob,es,ep,t,k _ _ (.inl rfl) e,c⟩
 | ins C dx fs=>
  obtain ⟨d,z,ne,e,mA,⟨od,es,ep,e2,c⟩,r⟩:=x
  exact ⟨ho _ d,z,ne,k _ _ (.inl rfl) e,mA,⟨od,es,ep,k _ _ (.inr d) e2,c⟩,r⟩
 | own y=>obtain ⟨ob,e⟩:=x;exact ⟨ob,k _ _ (.inl rfl) e⟩
 | xd fs=>obtain ⟨mA,⟨od,es,ep,e,c⟩,r⟩:=x;exact ⟨mA,⟨od,es,ep,k _ _ (.inl rfl) e,c⟩,r⟩
 | rng lo hi=>obtain ⟨t,u,v,e⟩:=x;exact ⟨t,u,v,k _ _ (.inl rfl) e⟩
 | frz ob u ih=>obtain ⟨e,q⟩:=x;exact ⟨k _ _ (.inl rfl) e,ih q⟩
 | tbl ps=>
  have e:h.get? a=some { cls:=.none,data:=.fields ps }:=x
  show h'.get? a=some { cls:=.none,data:=.fields ps }
  exact k a _ (.inl rfl) e
 | met f y=>
  have e:h.get? a=some (methodObj (.ref f) (.ref y)):=x
  show h'.get? a=some (methodObj (.ref f) (.ref y))
  exact k a _ (.inl rfl) e
 | ext φ=>obtain ⟨p,⟨o,e⟩,st⟩:=x;exact ⟨st _ _ p fun o q=>k _ _ (.inl rfl) q,⟨o,k _ _ (.inl rfl) e⟩,st⟩
theorem HOk.lt (x:HOk P w H h) (e:H a=some o):a < h.objs.size:=(x a o e).lt
theorem HOk.fresh (x:HOk P w H h) (e:h.objs.size<=a):H a=none:=by
 cases q:H a with
 | none=>rfl
 | some u=>exact absurd (Nat.lt_of_lt_of_le (x.lt q) e) (Nat.lt_irrefl _)
theorem HOk.kept (x:HOk P w H h) (k:∀ b u,h.get? b=some u->h'.get? b=some u):HOk P w H h':=fun a o e=>
 (x a o e).stay (fun b u _ q=>k b u q) (fun _ q=>q) fun _ _ q=>q
theorem HOk.laid (x:HOk P w H h) (k:∀ b u,h.get? b=some u->h'.get? b=some u) (hp:h.objs.size<=a) (new:ObjOk P w (upd H a o) h' a o):HOk P w (upd H a o) h':=fun b u e=>by
 have hn:=x.fresh hp
 by_cases hb:b=a
 ·subst hb;rw [upd_same] at e;cases e;exact new
 ·rw [upd_ne hb] at e
  exact (x b u e).stay (fun c v _ q=>k c v q) (fun c q=>by rw [upd_ne (ne_of_none q hn)];exact q) fun c xs q=>by rw [upd_ne (ne_of_none q hn)];exact q
end
def Rd (H:Hp) (a:Addr) (u:HO):Prop:=H a=some u\/∃ o,H a=some (.frz o u)
theorem Rd.of {H:Hp} {a:Addr} {u:HO} (h:H a=some u):Rd H a u:=.inl h
theorem Rd.ok {P:Program} {w:World} {H:Hp} {h:Heap} {a:Addr} {u:HO} (r:Rd H a u) (x:HOk P w H h):ObjOk P w H h a u:=by
 rcases r with r | ⟨o,r⟩
 ·exact x a u r
 ·obtain ⟨_,q⟩:=x a _ r
  exact q
def Mut:Option HO->Prop
 | some (.lst _)=>True
 | some (.dK _)=>True
 | some (.dT _)=>True
 | some (.set _ _)=>True
 | some (.ins _ _ _)=>True
 | some (.ext _)=>True
 | _=>False
section
variable {P:Program} {w:World} {H:Hp} {h h':Heap} {x e:Addr} {o':HO}
theorem HOk.write (ok:HOk P w H h) (mu:Mut (H x)) (he:e=x\/H e=some (.own x)) (k:∀ b u,b≠e->h.get? b=some u->h'.get? b=some u) (heo:∃ u,h'.get? e=some u)
  (new:ObjOk P w (upd H x o') h' x o'):HOk P w (upd H x o') h':=fun b u q=>by
 have nown:∀ c y,H c=some (.own y)->c≠x:=fun c y r z=>by subst z;rw [r] at mu;exact mu
 have ntup:∀ c xs,H c=some (.tup xs)->c≠x:=fun c xs r z=>by subst z;rw [r] at mu;exact mu
 by_cases hb:b=x
 ·subst hb;rw [upd_same] at q;cases q;exact new
 ·rw [upd_ne hb] at q
  by_cases hbe:b=e
  ·have q':H b=some (.own x):=by
    rcases he with z | z
    ·exact absurd (hbe.trans z) hb
    ·rw [hbe];exact z
   rw [q] at q';cases q'
   obtain ⟨v,hv⟩:=heo
   exact ⟨v,by rw [hbe];exact hv⟩
  ·refine (ok b u q).stay (fun c v hc r=>k c v ?_ r) (fun c r=>by rw [upd_ne (nown c b r)];exact r) fun c xs r=>by rw [upd_ne (ntup c xs r)];exact r
   rcases hc with rfl | hc
   ·exact hbe
   ·rintro rfl
    rcases he with z | z
    ·exact nown c b hc z
    ·rw [hc] at z;cases z;exact hb rfl
end
structure Un (fs ex:List Addr) (H H':Hp) (h h':Heap):Prop where
 keep:∀ b o,h.get? b=some o->H b=none->b∉fs->b∉ex->h'.get? b=some o
 slot:∀ b o,h.get? b=some o->H b=none->b∈fs->b∉ex->∃ sl,h'.get? b=some { o with slots:=sl }
 free:∀ b o,h.get? b=some o->H b=none->b∉ex->H' b=none
 there:∀ b o,h.get? b=some o->b∉ex->∃ o',h'.get? b=some o'
 tups:∀ b xs,H b=some (.tup xs)->H' b=some (.tup xs)
 frzs:∀ b o u,H b=some (.frz o u)->H' b=some (.frz o u)
 tbls:∀ b ps,H b=some (.tbl ps)->∃ more,H' b=some (.tbl (ps++more))
section
variable {fs fs' ex ex':List Addr} {H H1 H2:Hp} {h h1 h2 h':Heap} {a x e:Addr} {o:HO}
theorem Un.any (u:Un fs ex H H1 h h1) {b:Addr} {ob:Obj} (q:h.get? b=some ob) (n:H b=none) (hx:b∉ex):∃ sl,h1.get? b=some { ob with slots:=sl }:=by
 by_cases hb:b∈fs
 ·exact u.slot b ob q n hb hx
 ·exact ⟨ob.slots,u.keep b ob q n hb hx⟩
theorem Un.trans (a:Un fs ex H H1 h h1) (b:Un fs ex H1 H2 h1 h2):Un fs ex H H2 h h2 where
 keep:=fun c ob q n hc hx=>b.keep c ob (a.keep c ob q n hc hx) (a.free c ob q n hx) hc hx
 slot:=fun c ob q n hc hx=>by
  obtain ⟨sl,e1⟩:=a.slot c ob q n hc hx
  obtain ⟨sl',e2⟩:=b.slot c _ e1 (a.free c ob q n hx) hc hx
  exact ⟨sl',e2⟩
 free:=fun c ob q n hx=>by
  obtain ⟨o',e1⟩:=a.there c ob q hx
  exact b.free c o' e1 (a.free c ob q n hx) hx
 there:=fun c ob q hx=>by
  obtain ⟨o',e1⟩:=a.there c ob q hx
  exact b.there c o' e1 hx
 tups:=fun c xs q=>b.tups c xs (a.tups c xs q)
 frzs:=fun c ob xs q=>b.frzs c ob xs (a.frzs c ob xs q)
 tbls:=fun c ps q=>by
  obtain ⟨m1,e1⟩:=a.tbls c ps q
  obtain ⟨m2,e2⟩:=b.tbls c _ e1
  exact ⟨m1++m2,by rw [e2,Array.append_assoc]⟩
theorem Un.kept (k:∀ b u,h.get? b=some u->h'.get? b=some u):Un fs ex H H h h':=
 ⟨fun b ob q _ _ _=>k b ob q,fun b ob q _ _ _=>⟨ob.slots,k b ob q⟩,fun _ _ _ n _=>n,fun b ob q _=>⟨ob,k b ob q⟩,fun _ _ q=>q,fun _ _ _ q=>q,fun _ ps q=>⟨#[],by rw [q];simp⟩⟩
theorem Un.refl:Un fs ex H H h h:=Un.kept fun _ _ q=>q
theorem Un.laid (k:∀ b u,h.get? b=some u->h'.get? b=some u) (hp:h.objs.size<=a) (hn:H a=none):Un fs ex H (upd H a o) h h' where
 keep:=fun b u q _ _ _=>k b u q
 slot:=fun b u q _ _ _=>⟨u.slots,k b u q⟩
 free:=fun b u q n _=>by rw [upd_ne (Nat.ne_of_lt (Nat.lt_of_lt_of_le (Heap.lt_size q) hp))];exact n
 there:=fun b u q _=>⟨u,k b u q⟩
 tups:=fun b xs q=>by rw [upd_ne (ne_of_none q hn)];exact q
 frzs:=fun b u xs q=>by rw [upd_ne (ne_of_none q hn)];exact q
 tbls:=fun b ps q=>⟨#[],by rw [upd_ne (ne_of_none q hn),q];simp⟩
theorem Un.write (mu:Mut (H x)) (he:e=x\/H e=some (.own x)) (k:∀ b u,b≠e->h.get? b=some u->h'.get? b=some u) (heo:∃ u,h'.get? e=some u):Un fs ex H (upd H x o) h h':=by
 have hx:∀ b,H b=none->b≠x:=fun b n z=>by subst z;rw [n] at mu;exact mu
 have hb:∀ b,H b=none->b≠e:=fun b n z=>by
  subst z
  rcases he with r | r
  ·exact hx b n r
  ·rw [n] at r;cases r
 have hm:∀ b u,H b=some u->¬ Mut (some u)->b≠x:=fun b u q nm z=>by subst z;rw [q] at mu;exact nm mu
 refine ⟨fun b u q n _ _=>k b u (hb b n) q,fun b u q n _ _=>⟨u.slots,k b u (hb b n) q⟩,fun b u q n _=>by rw [upd_ne (hx b n)];exact n,fun b u q _=>?_,
  fun b xs q=>by rw [upd_ne (hm b _ q fun z=>z)];exact q,fun b u xs q=>by rw [upd_ne (hm b _ q fun z=>z)];exact q,fun b ps q=>⟨#[],by rw [upd_ne (hm b _ q fun z=>z),q];simp⟩⟩
 by_cases hbe:b=e
 ·subst hbe;exact heo
 ·exact ⟨u,k b u hbe q⟩
theorem Un.mono (u:Un fs ex H H1 h h1) (hs:∀ b∈fs,b∈fs') (hx:∀ b∈ex,b∈ex'):Un fs' ex' H H1 h h1:=
 ⟨fun b ob q n hb he=>u.keep b ob q n (fun z=>hb (hs b z)) fun z=>he (hx b z),fun _ _ q n _ he=>u.any q n fun z=>he (hx _ z),fun b ob q n he=>u.free b ob q n fun z=>he (hx b z),fun b ob q he=>u.there b ob q fun z=>he (hx b z),u.tups,u.frzs,u.tbls⟩
end
def trk (h:Heap) (H:Hp):List Addr:=(List.range h.objs.size).filter fun a=>(H a).isSome
def hidT (h:Heap) (H:Hp):Heap:=PySem.W.hideAll h (trk h H)
theorem hidT_size (h:Heap) (H:Hp):(hidT h H).objs.size=h.objs.size:=PySem.W.hideAll_size _ _
theorem hidT_get {h:Heap} {H:Hp} {b:Addr} {o:Obj} (e:h.get? b=some o) (n:H b=none):(hidT h H).get? b=some o:=
 PySem.W.hideAll_get _ e fun hm=>by
  have q:(H b).isSome=true:=(List.mem_filter.mp hm).2
  rw [n] at q;simp at q
theorem of_hidT {h:Heap} {H:Hp} {b:Addr} {o:Obj} (e:(hidT h H).get? b=some o):h.get? b=some o/\H b=none:=by
 have e':h.get? b=some o:=PySem.W.of_hideAll (trk h H) e
 refine ⟨e',?_⟩
 cases q:H b with
 | none=>rfl
 | some x=>
  have hm:b∈trk h H:=List.mem_filter.mpr ⟨List.mem_range.mpr (Heap.lt_size e'),by simp [q]⟩
  have z:(hidT h H).get? b=none:=PySem.W.hideAll_none (trk h H) hm
  rw [z] at e;cases e
end L2
namespace L2
open PySem PySem.Spec PyProof.Rows
structure Mod (K:Frag) (mg:Str->Option Value) (base:Heap):Prop where
 kin:K.In base
 glob:base.Ns mainGlobals mg
 blt:∃ mb,base.Ns builtinsNs mb/\∀ x:Str,x≠"__name__"->mb x=bootBuiltins x
 nolimit:base.NoLimit
structure Cx where
 prog:Program
 w:World
 K:Frag
 mg:Str->Option Value
 base:Heap
 A:Around
 N:List Str
 s₀:Shared
 H₀:Hp
 env:Env
 outer:List Env
 stack:List Env
 ex:List Addr
 fn:Str->Bool
 calm:Bool
 pn:List (Addr×Obj)
 xe:Value->Shared->Prop
def frs (l:List Env):List Addr:=l.filterMap (·.frame)
abbrev Cx.fs (X:Cx):List Addr:=frs X.outer
def Vis (sc:Scope) (x:Str):Prop:=sc.names.lookup x=some .local\/sc.names.lookup x=some .cell\/sc.names.lookup x=some .free
def Loc (sc:Scope) (x:Str):Prop:=sc.names.lookup x=some .local\/sc.names.lookup x=some .cell
def Look (env:Env) (h:Heap) (m:Str->Option Value) (x:Str) (u:Value):Prop:=
 (env.kindOf x=some .local/\m x=some u)\/((env.kindOf x=some .cell\/env.kindOf x=some .free)/\∃ c,env.cells.lookup x=some c/\h.IsCell c (some u))
structure Cx.Ok (X:Cx):Prop where
 mod:Mod X.K X.mg X.base
 kind:X.env.scope.kind=.function
 glob:X.env.globals=mainGlobals
 blt:X.env.builtins=builtinsNs
 above:X.s₀.heap.objs.size<=X.env.locals
 inj:∀ x y c,X.env.cells.lookup x=some c->X.env.cells.lookup y=some c->x=y
 has:∀ x,(X.env.kindOf x=some .cell\/X.env.kindOf x=some .free)->∃ c,X.env.cells.lookup x=some c
 cab:∀ x c,X.fn x=true->X.env.cells.lookup x=some c->X.s₀.heap.objs.size<=c
 hd:X.calm=true->X.A.handled=none
 frames:X.A.frames=some X.stack
 stk:X.stack=X.outer\/(X.stack=X.env::X.outer/\X.env.frame=some X.env.locals)
 exf:∀ b∈X.ex,b≠X.env.locals/\∀ x c,X.env.cells.lookup x=some c->c≠b
 bs:∀ b o,X.base.get? b=some o->X.s₀.heap.get? b=some o/\X.H₀ b=none
 bsz:X.base.objs.size<=X.s₀.heap.objs.size
 noex:∀ b o,X.base.get? b=some o->b∉X.ex
 exfs:∀ b∈X.ex,b∉X.fs
 funs:X.s₀.heap.FunFrames X.base X.outer
 frf:∀ b∈X.fs,X.H₀ b=none
structure Inv (X:Cx) (pins:List (Addr×Obj)) (σ:List (Option V)) (H:Hp) (s:Shared):Prop where
 ok:X.Ok
 os:s.os=X.s₀.os
 bare:AllBare s.gens
 base:Un X.fs X.ex X.H₀ H X.s₀.heap s.heap
 loc:∃ m,s.heap.Ns X.env.locals m/\∀ (i:Nat) (x:Str) (v:V),X.N[i]?=some x->σ[i]?=some (some v)->Vis X.env.scope x->∃ u,RelV v u/\Look X.env s.heap m x u
 cell:∀ x c,X.env.cells.lookup x=some c->∃ v,s.heap.IsCell c v
 free:H X.env.locals=none
 freeC:∀ x c,X.env.cells.lookup x=some c->H c=none
 pin:∀ p∈X.pn++pins,s.heap.get? p.1=some p.2/\H p.1=none/\p.1≠X.env.locals/\p.1∉X.fs/\∀ v,p.2.data≠.cell v
 hok:HOk X.prog X.w H s.heap
 len:σ.length=X.N.length
section
variable {X:Cx} {pins:List (Addr×Obj)} {σ:List (Option V)} {H H':Hp} {s:Shared} {h':Heap}
theorem Cx.Ok.nofr (ok:X.Ok) {b:Addr} {o:Obj} (e:X.base.get? b=some o):b∉X.fs:=fun hb=>by
 have:=(ok.funs.mem hb).1
 rw [e] at this;cases this
theorem Inv.bs (I:Inv X pins σ H s):∀ b o,X.base.get? b=some o->s.heap.get? b=some o/\H b=none:=fun b o e=>
 ⟨I.base.keep b o (I.ok.bs b o e).1 (I.ok.bs b o e).2 (I.ok.nofr e) (I.ok.noex b o e),I.base.free b o (I.ok.bs b o e).1 (I.ok.bs b o e).2 (I.ok.noex b o e)⟩
theorem Inv.bk (I:Inv X pins σ H s):∀ b o,X.base.get? b=some o->s.heap.get? b=some o:=fun b o e=>(I.bs b o e).1
theorem Inv.mod (I:Inv X pins σ H s):Mod X.K X.mg X.base:=I.ok.mod
theorem Inv.kIn (I:Inv X pins σ H s):X.K.In s.heap:=I.ok.mod.kin.keeps I.bk
theorem Inv.fr (I:Inv X pins σ H s):∃ m,Fr X.base X.env.locals s.heap m:=
 let ⟨m,hn,_⟩:=I.loc
 ⟨m,hn,I.bk,Nat.le_trans I.ok.bsz I.ok.above⟩
theorem Inv.lt (I:Inv X pins σ H s):X.env.locals < s.heap.objs.size:=let ⟨_,hn,_⟩:=I.loc;hn.lt
theorem Inv.sz (I:Inv X pins σ H s):X.s₀.heap.objs.size<=s.heap.objs.size:=Nat.le_trans I.ok.above (Nat.le_of_lt I.lt)
theorem Inv.nofs (I:Inv X pins σ H s) {a:Addr} (h:s.heap.objs.size<=a):a∉X.fs:=fun hb=>by
 obtain ⟨_,o,ho,_⟩:=I.ok.funs.mem hb
 exact absurd (Nat.lt_of_lt_of_le (Heap.lt_size ho) (Nat.le_trans I.sz h)) (Nat.lt_irrefl _)
theorem Inv.cne (I:Inv X pins σ H s):∀ x c,X.env.cells.lookup x=some c->c≠X.env.locals:=fun x c e z=>by
 obtain ⟨v,o,ho,hd⟩:=I.cell x c e
 obtain ⟨m,⟨o',es,ep,ho',hd',_⟩,_⟩:=I.loc
 rw [z,ho'] at ho;cases ho;rw [hd'] at hd;cases hd
theorem Inv.funs (I:Inv X pins σ H s):s.heap.FunFrames X.base X.outer:=by
 have all:∀ (l:List Env),(∀ b∈frs l,b∈X.fs)->X.s₀.heap.FunFrames X.base l->s.heap.FunFrames X.base l:=by
  intro l
  induction l with
  | nil=>intro _ _;trivial
  | cons env r ih=>
   intro hs hl
   obtain ⟨hk,⟨L,o,hf,hn,ho,hd⟩,hr⟩:=hl
   have hL:L∈X.fs:=hs L (by unfold frs;rw [List.filterMap_cons,hf];exact List.mem_cons_self)
   obtain ⟨sl,e⟩:=I.base.slot L o ho (I.ok.frf L hL) hL fun z=>I.ok.exfs L z hL
   exact ⟨hk,⟨L,_,hf,hn,e,hd⟩,ih (fun b hb=>hs b (by unfold frs;rw [List.filterMap_cons,hf];exact List.mem_cons_of_mem _ hb)) hr⟩
 exact all X.outer (fun _ hb=>hb) I.ok.funs
theorem Inv.stack (I:Inv X pins σ H s):s.heap.FunFrames X.base X.stack:=by
 rcases I.ok.stk with e | ⟨e,hf⟩
 ·rw [e];exact I.funs
 ·rw [e]
  obtain ⟨m,hn,_⟩:=I.loc
  refine .cons (by rw [I.ok.kind];decide) hf hn ?_ I.funs
  exact Heap.get?_none_of_le (Nat.le_trans I.ok.bsz I.ok.above)
theorem Inv.stkSub (I:Inv X pins σ H s):∀ b∈frs X.stack,b∈X.env.locals::X.fs:=fun b hb=>by
 rcases I.ok.stk with e | ⟨e,hf⟩
 ·rw [e] at hb;exact List.mem_cons_of_mem _ hb
 ·rw [e] at hb
  unfold frs at hb
  rw [List.filterMap_cons,hf] at hb
  exact hb
theorem Inv.stkFree (I:Inv X pins σ H s):∀ b∈frs X.stack,H b=none:=fun b hb=>by
 rcases List.mem_cons.mp (I.stkSub b hb) with e | hb
 ·rw [e];exact I.free
 ·obtain ⟨_,o,ho,_⟩:=I.ok.funs.mem hb
  exact I.base.free b o ho (I.ok.frf b hb) fun z=>I.ok.exfs b z hb
theorem Inv.step {g':Array GenState} {t':Nat} {d':Drawn} {ch:List Addr} (I:Inv X pins σ H s)
  (hch:∀ b∈ch,(b∈X.ex\/X.s₀.heap.objs.size<=b)/\b≠X.env.locals/\(∀ x c,X.env.cells.lookup x=some c->c≠b)/\∀ p∈X.pn++pins,p.1≠b)
  (keep:∀ b o,b≠X.env.locals->b∉X.fs->b∉ch->s.heap.get? b=some o->H b=none->h'.get? b=some o)
  (slot:∀ b o,b≠X.env.locals->b∈X.fs->b∉ch->s.heap.get? b=some o->H b=none->∃ sl,h'.get? b=some { o with slots:=sl }) (free:∀ b o,b∉ch->s.heap.get? b=some o->H b=none->H' b=none)
  (there:∀ b o,b∉ch->s.heap.get? b=some o->∃ o',h'.get? b=some o')
  (tups:∀ b xs,H b=some (.tup xs)->H' b=some (.tup xs)) (frzs:∀ b o u,H b=some (.frz o u)->H' b=some (.frz o u)) (tbls:∀ b ps,H b=some (.tbl ps)->∃ more,H' b=some (.tbl (ps++more)))
  (ns:∀ m,s.heap.Ns X.env.locals m->h'.Ns X.env.locals m) (hok:HOk X.prog X.w H' h') (hg:AllBare g'):
  Inv X pins σ H' { s with heap:=h',gens:=g',drawn:=d',toks:=t' }:=by
 have neL:∀ b o,X.s₀.heap.get? b=some o->b≠X.env.locals:=fun b o e=>Nat.ne_of_lt (Nat.lt_of_lt_of_le (Heap.lt_size e) I.ok.above)
 have neC:∀ b o,X.s₀.heap.get? b=some o->b∉X.ex->b∉ch:=fun b o e hx hb=>by
  rcases (hch b hb).1 with z | z
  ·exact hx z
  ·exact absurd (Nat.lt_of_lt_of_le (Heap.lt_size e) z) (Nat.lt_irrefl _)
 have cellK:∀ x c,X.env.cells.lookup x=some c->∀ v,s.heap.IsCell c v->h'.IsCell c v:=fun x c e v ⟨o,ho,hd⟩=>by
  have nch:c∉ch:=fun z=>(hch c z).2.2.1 x c e rfl
  by_cases hc:c∈X.fs
  ·obtain ⟨sl,q⟩:=slot c o (I.cne x c e) hc nch ho (I.freeC x c e)
   exact ⟨_,q,hd⟩
  ·exact ⟨o,keep c o (I.cne x c e) hc nch ho (I.freeC x c e),hd⟩
 refine ⟨I.ok,I.os,hg,⟨fun b o e n hb hx=>?_,fun b o e n hb hx=>?_,fun b o e n hx=>?_,fun b o e hx=>?_,fun b xs e=>tups b xs (I.base.tups b xs e),fun b o xs e=>frzs b o xs (I.base.frzs b o xs e),fun b ps e=>?_⟩,?_,fun x c e=>?_,?_,fun x c e=>?_,fun p hp=>?_,hok,I.len⟩
 ·exact keep b o (neL b o e) hb (neC b o e hx) (I.base.keep b o e n hb hx) (I.base.free b o e n hx)
 ·obtain ⟨sl,e1⟩:=I.base.slot b o e n hb hx
  obtain ⟨sl',e2⟩:=slot b _ (neL b o e) hb (neC b o e hx) e1 (I.base.free b o e n hx)
  exact ⟨sl',e2⟩
 ·obtain ⟨o',e1⟩:=I.base.there b o e hx
  exact free b o' (neC b o e hx) e1 (I.base.free b o e n hx)
 ·obtain ⟨o',e1⟩:=I.base.there b o e hx
  exact there b o' (neC b o e hx) e1
 ·obtain ⟨m1,e1⟩:=I.base.tbls b ps e
  obtain ⟨m2,e2⟩:=tbls b _ e1
  exact ⟨m1++m2,by rw [e2,Array.append_assoc]⟩
 ·obtain ⟨m,hn,hl⟩:=I.loc
  refine ⟨m,ns m hn,fun i x v e1 e2 e3=>?_⟩
  obtain ⟨u,r,l⟩:=hl i x v e1 e2 e3
  refine ⟨u,r,?_⟩
  rcases l with l | ⟨k,c,e,z⟩
  ·exact .inl l
  ·exact .inr ⟨k,c,e,cellK x c e _ z⟩
 ·obtain ⟨v,z⟩:=I.cell x c e
  exact ⟨v,cellK x c e v z⟩
 ·obtain ⟨m,⟨o,_,_,ho,_⟩,_⟩:=I.loc
  exact free _ o (fun z=>(hch _ z).2.1 rfl) ho I.free
 ·obtain ⟨v,o,ho,hd⟩:=I.cell x c e
  exact free c o (fun z=>(hch c z).2.2.1 x c e rfl) ho (I.freeC x c e)
 ·obtain ⟨e,n,ne,nf,d⟩:=I.pin p hp
  have nch:p.1∉ch:=fun z=>(hch p.1 z).2.2.2 p hp rfl
  exact ⟨keep p.1 p.2 ne nf nch e n,free p.1 p.2 nch e n,ne,nf,d⟩
theorem Inv.un {t':Nat} (I:Inv X pins σ H s) (u:Un X.fs [] H H' s.heap h') (hok:HOk X.prog X.w H' h'):Inv X pins σ H' { s with heap:=h',toks:=t' }:=by
 obtain ⟨m,⟨o,es,ep,ho,r⟩,_⟩:=id I.loc
 obtain ⟨sl,hL⟩:=u.any ho I.free (by simp)
 exact I.step (g':=s.gens) (d':=s.drawn) (ch:=[]) (fun _ z=>nomatch z) (fun b o _ hb _ e n=>u.keep b o e n hb (by simp)) (fun b o _ hb _ e n=>u.slot b o e n hb (by simp)) (fun b o _ e n=>u.free b o e n (by simp)) (fun b o _ e=>u.there b o e (by simp)) u.tups u.frzs u.tbls (fun m' hm=>by
  obtain ⟨o',es',ep',ho',r'⟩:=hm
  rw [ho] at ho';cases ho'
  exact ⟨_,es',ep',hL,r'⟩) hok I.bare
theorem Inv.call {g':Array GenState} {t':Nat} {d':Drawn} {ch:List Addr} (I:Inv X pins σ H s) (u:Un (frs X.stack) ch H H' s.heap h') (hok:HOk X.prog X.w H' h') (hg:AllBare g')
  (hch:∀ b∈ch,(b∈X.ex\/X.s₀.heap.objs.size<=b)/\b≠X.env.locals/\(∀ x c,X.env.cells.lookup x=some c->c≠b)/\∀ p∈X.pn++pins,p.1≠b):
  Inv X pins σ H' { s with heap:=h',gens:=g',drawn:=d',toks:=t' }:=by
 obtain ⟨m,⟨o,es,ep,ho,r⟩,_⟩:=id I.loc
 obtain ⟨sl,hL⟩:=u.any ho I.free fun z=>(hch _ z).2.1 rfl
 exact I.step (ch:=ch) hch (fun b o hL hb hc e n=>u.keep b o e n (fun z=>(List.mem_cons.mp (I.stkSub b z)).elim hL hb) hc) (fun b o _ _ hc e n=>u.any e n hc) (fun b o hc e n=>u.free b o e n hc) (fun b o hc e=>u.there b o e hc) u.tups u.frzs u.tbls (fun m' hm=>by
  obtain ⟨o',es',ep',ho',r'⟩:=hm
  rw [ho] at ho';cases ho'
  exact ⟨_,es',ep',hL,r'⟩) hok hg
theorem Inv.turned {t':Nat} {it:Addr} (I:Inv X pins σ H s) (k:∀ b o,b≠it->s.heap.get? b=some o->h'.get? b=some o) (hn:H it=none) (hL:it≠X.env.locals)
  (h1:it∈X.ex\/X.s₀.heap.objs.size<=it) (h2:∀ x c,X.env.cells.lookup x=some c->c≠it) (h3:∀ p∈X.pn++pins,p.1≠it):Inv X pins σ H { s with heap:=h',toks:=t' }:=by
 have nit:∀ b u,H b=some u->b≠it:=fun b u e z=>by rw [z,hn] at e;cases e
 refine I.step (g':=s.gens) (d':=s.drawn) (ch:=[it]) (fun b hb=>?_) (fun b o _ _ hc e _=>k b o (fun z=>hc (by simp [z])) e) (fun b o _ _ hc e _=>⟨o.slots,k b o (fun z=>hc (by simp [z])) e⟩) (fun _ _ _ _ n=>n)
  (fun b o hc e=>⟨o,k b o (fun z=>hc (by simp [z])) e⟩) (fun _ _ e=>e) (fun _ _ _ e=>e) (fun b ps e=>⟨#[],by rw [e];simp⟩) (fun m hm=>?_) (fun b u e=>?_) I.bare
 ·have e:b=it:=by simpa using hb
  subst e
  exact ⟨h1,hL,h2,h3⟩
 ·obtain ⟨o,es,ep,ho,r⟩:=hm
  exact ⟨o,es,ep,k _ o (Ne.symm hL) ho,r⟩
 ·refine (I.hok b u e).stay (fun c v hc q=>k c v ?_ q) (fun _ q=>q) fun _ _ q=>q
  rcases hc with z | z
  ·rw [z];exact nit b u e
  ·exact nit c _ z
theorem Inv.tok (I:Inv X pins σ H s) (t:Nat):Inv X pins σ H { s with toks:=t }:=I.un (h':=s.heap) (t':=t) Un.refl I.hok
theorem Inv.kept {t':Nat} (I:Inv X pins σ H s) (k:∀ b u,s.heap.get? b=some u->h'.get? b=some u):Inv X pins σ H { s with heap:=h',toks:=t' }:=I.un (Un.kept k) (I.hok.kept k)
theorem Inv.laid {a:Addr} {o:HO} {t':Nat} (I:Inv X pins σ H s) (k:∀ b u,s.heap.get? b=some u->h'.get? b=some u) (hp:s.heap.objs.size<=a) (new:ObjOk X.prog X.w (upd H a o) h' a o):
  Inv X pins σ (upd H a o) { s with heap:=h',toks:=t' }:=I.un (Un.laid k hp (I.hok.fresh hp)) (I.hok.laid k hp new)
theorem Inv.write {x e:Addr} {o:HO} {t':Nat} (I:Inv X pins σ H s) (mu:Mut (H x)) (he:e=x\/H e=some (.own x)) (k:∀ b u,b≠e->s.heap.get? b=some u->h'.get? b=some u) (heo:∃ u,h'.get? e=some u)
  (new:ObjOk X.prog X.w (upd H x o) h' x o):Inv X pins σ (upd H x o) { s with heap:=h',toks:=t' }:=I.un (Un.write mu he k heo) (I.hok.write mu he k heo new)
theorem Inv.pins_of {pins':List (Addr×Obj)} (I:Inv X pins σ H s) (h:∀ p∈pins',s.heap.get? p.1=some p.2/\H p.1=none/\p.1≠X.env.locals/\p.1∉X.fs/\∀ v,p.2.data≠.cell v):Inv X pins' σ H s:=
 ⟨I.ok,I.os,I.bare,I.base,I.loc,I.cell,I.free,I.freeC,fun p hp=>(List.mem_append.mp hp).elim (fun z=>I.pin p (List.mem_append_left _ z)) (h p),I.hok,I.len⟩
theorem nodup_ix {N:List Str} (hN:N.Nodup) {i j:Nat} {x:Str} (a:N[i]?=some x) (b:N[j]?=some x):i=j:=by
 obtain ⟨h1,e1⟩:=List.getElem?_eq_some_iff.mp a
 obtain ⟨h2,e2⟩:=List.getElem?_eq_some_iff.mp b
 exact (List.getElem_inj hN).mp (e1.trans e2.symm)
theorem store_ok2 {M:Model} {A:Around} {E:Value->Shared->Prop} {i:Nat} {x:Str} {v:V} {u:Value} {Q:Unit->Shared->Prop} (I:Inv X pins σ H s) (hN:X.N.Nodup) (hi:X.N[i]?=some x) (hx:Loc X.env.scope x) (r:RelV v u)
  (h:∀ s',Inv X pins (σ.set i (some v)) H s'->(∃ a,Heap.SameBut a s.heap s'.heap/\(a=X.env.locals\/X.env.cells.lookup x=some a))->Q () s') (hf:X.fn x=true\/X.env.scope.names.lookup x=some .local:=by first | exact .inl rfl | exact .inr rfl | assumption):wpAny M A (storeName X.env x u) Q E s:=by
 obtain ⟨m,hn,hl⟩:=id I.loc
 have hcls:(X.env.scope.kind == .class || (X.env.scope.kind == .module && X.env.locals != X.env.globals))=false:=by rw [I.ok.kind];rfl
 have hiσ:i < σ.length:=by rw [I.len];exact (List.getElem?_eq_some_iff.mp hi).1
 have cne:=I.cne
 have tracked:∀ {a:Addr} {h':Heap},(∃ o,s.heap.get? a=some o/\H a=none)->Heap.SameBut a s.heap h'->HOk X.prog X.w H h':=fun {a h'} ha hs b ob e=>by
  obtain ⟨_,_,hfree⟩:=ha
  refine (I.hok b ob e).stay (fun c w' hc q=>(hs.2 c ?_).trans q) (fun _ q=>q) fun _ _ q=>q
  rintro rfl
  rcases hc with rfl | hc
  ·rw [hfree] at e;cases e
  ·rw [hfree] at hc;cases hc
 rcases hx with hk | hk
 ·refine wpAny_storeName_local hk hn (fun h' hn' hs=>?_) hcls
  obtain ⟨oL,_,_,hoL,_⟩:=id hn
  refine h _ ⟨I.ok,I.os,I.bare,⟨fun b o e n hb hx=>?_,fun b o e n hb hx=>?_,I.base.free,fun b o e hx=>?_,I.base.tups,I.base.frzs,I.base.tbls⟩,⟨_,hn',fun j y v' e1 e2 e3=>?_⟩,fun y c e=>?_,I.free,I.freeC,fun p hp=>?_,tracked ⟨oL,hoL,I.free⟩ hs,by simpa using I.len⟩ ⟨_,hs,.inl rfl⟩
  ·exact (hs.2 b (Nat.ne_of_lt (Nat.lt_of_lt_of_le (Heap.lt_size e) I.ok.above))).trans (I.base.keep b o e n hb hx)
  ·obtain ⟨sl,e1⟩:=I.base.slot b o e n hb hx
   exact ⟨sl,(hs.2 b (Nat.ne_of_lt (Nat.lt_of_lt_of_le (Heap.lt_size e) I.ok.above))).trans e1⟩
  ·obtain ⟨o',e1⟩:=I.base.there b o e hx
   exact ⟨o',(hs.2 b (Nat.ne_of_lt (Nat.lt_of_lt_of_le (Heap.lt_size e) I.ok.above))).trans e1⟩
  ·by_cases hj:j=i
   ·subst hj
    rw [hi] at e1;cases e1
    rw [List.getElem?_set_self hiσ] at e2
    cases e2
    exact ⟨u,r,.inl ⟨hk,by simp⟩⟩
   ·rw [List.getElem?_set_ne (Ne.symm hj)] at e2
    obtain ⟨u',r',q⟩:=hl j y v' e1 e2 e3
    refine ⟨u',r',?_⟩
    rcases q with ⟨k,e⟩ | ⟨k,c,e,z⟩
    ·refine .inl ⟨k,?_⟩
     have:y≠x:=fun e=>hj (nodup_ix hN e1 (e ▸ hi))
     simp [this,e]
    ·exact .inr ⟨k,c,e,z.sameBut hs (cne y c e)⟩
  ·obtain ⟨w',z⟩:=I.cell y c e
   exact ⟨w',z.sameBut hs (cne y c e)⟩
  ·obtain ⟨e,n,ne,nf,d⟩:=I.pin p hp
   exact ⟨(hs.2 p.1 ne).trans e,n,ne,nf,d⟩
 ·have hfn:X.fn x=true:=by
   rcases hf with z | z
   ·exact z
   ·rw [z] at hk;cases hk
  obtain ⟨c,hc⟩:=I.ok.has x (.inl hk)
  obtain ⟨w',z⟩:=I.cell x c hc
  refine wpAny_storeName_cell I.ok.kind hk hc z (fun h' hc' hs=>?_)
  obtain ⟨oc,hoc,hocd⟩:=id z
  refine h { s with heap:=h' } ⟨I.ok,I.os,I.bare,⟨fun b o e n hb hx=>?_,fun b o e n hb hx=>?_,I.base.free,fun b o e hx=>?_,I.base.tups,I.base.frzs,I.base.tbls⟩,⟨m,hn.sameBut hs (Ne.symm (cne x c hc)),fun j y v' e1 e2 e3=>?_⟩,fun y c' e=>?_,I.free,I.freeC,fun p hp=>?_,tracked ⟨oc,hoc,I.freeC x c hc⟩ hs,by simpa using I.len⟩ ⟨c,hs,.inr hc⟩
  ·exact (hs.2 b (Nat.ne_of_lt (Nat.lt_of_lt_of_le (Heap.lt_size e) (I.ok.cab x c hfn hc)))).trans (I.base.keep b o e n hb hx)
  ·obtain ⟨sl,e1⟩:=I.base.slot b o e n hb hx
   exact ⟨sl,(hs.2 b (Nat.ne_of_lt (Nat.lt_of_lt_of_le (Heap.lt_size e) (I.ok.cab x c hfn hc)))).trans e1⟩
  ·obtain ⟨o',e1⟩:=I.base.there b o e hx
   exact ⟨o',(hs.2 b (Nat.ne_of_lt (Nat.lt_of_lt_of_le (Heap.lt_size e) (I.ok.cab x c hfn hc)))).trans e1⟩
  ·by_cases hj:j=i
   ·subst hj
    rw [hi] at e1;cases e1
    rw [List.getElem?_set_self hiσ] at e2
    cases e2
    exact ⟨u,r,.inr ⟨.inl hk,c,hc,hc'⟩⟩
   ·rw [List.getElem?_set_ne (Ne.symm hj)] at e2
    obtain ⟨u',r',q⟩:=hl j y v' e1 e2 e3
    refine ⟨u',r',?_⟩
    rcases q with q | ⟨k,c',e,z'⟩
    ·exact .inl q
    ·refine .inr ⟨k,c',e,z'.sameBut hs ?_⟩
     rintro rfl
     exact hj (nodup_ix hN e1 (I.ok.inj _ _ _ e hc ▸ hi))
  ·by_cases hcc:c'=c
   ·subst hcc;exact ⟨_,hc'⟩
   ·obtain ⟨w2,z2⟩:=I.cell y c' e
    exact ⟨w2,z2.sameBut hs hcc⟩
  ·obtain ⟨e,n,ne,nf,d⟩:=I.pin p hp
   refine ⟨(hs.2 p.1 ?_).trans e,n,ne,nf,d⟩
   intro q
   rw [q,hoc] at e
   have q':oc=p.2:=Option.some.inj e
   exact d w' (by rw [← q'];exact hocd)
theorem store_ok {M:Model} {A:Around} {E:Value->Shared->Prop} {i:Nat} {x:Str} {v:V} {u:Value} {Q:Unit->Shared->Prop} (I:Inv X pins σ H s) (hN:X.N.Nodup) (hi:X.N[i]?=some x) (hx:Loc X.env.scope x) (r:RelV v u)
  (h:∀ s',Inv X pins (σ.set i (some v)) H s'->Q () s') (hf:X.fn x=true\/X.env.scope.names.lookup x=some .local:=by first | exact .inl rfl | exact .inr rfl | assumption):wpAny M A (storeName X.env x u) Q E s:=
 store_ok2 I hN hi hx r (fun s' I' _=>h s' I') hf
theorem Inv.call' {s':Shared} {ch:List Addr} (I:Inv X pins σ H s) (ho:s'.os=s.os) (u:Un (frs X.stack) ch H H' s.heap s'.heap) (hok:HOk X.prog X.w H' s'.heap) (hg:AllBare s'.gens)
  (hch:∀ b∈ch,(b∈X.ex\/X.s₀.heap.objs.size<=b)/\b≠X.env.locals/\(∀ x c,X.env.cells.lookup x=some c->c≠b)/\∀ p∈X.pn++pins,p.1≠b):Inv X pins σ H' s':=by
 obtain ⟨h',g',d',t',o'⟩:=s'
 have e:o'=s.os:=ho
 subst e
 exact I.call (g':=g') (t':=t') (d':=d') u hok hg hch
end
abbrev XK:=Value->Option Addr->Hp->Prop
abbrev St:=List (Option V)
abbrev VK:=V->Hp->Prop
abbrev TE:=St->Hp->VK->Prop
abbrev TT:=St->Hp->(Bool->Hp->Prop)->Prop
abbrev TA:=St->Hp->(List V->Hp->Prop)->Prop
structure Ends where
 nx:St->Hp->Prop
 rt:VK
 bk:St->Hp->Prop:=fun _ _=>False
 ct:St->Hp->Prop:=fun _ _=>False
abbrev TS:=Ends->St->Hp->Prop
def EP (X:Cx) (pins:List (Addr×Obj)) (σ:St) (Q:VK) (u:Value) (s':Shared):Prop:=∃ v H',Inv X pins σ H' s'/\RelV v u/\Q v H'
def TP (X:Cx) (pins:List (Addr×Obj)) (σ:St) (Q:Bool->Hp->Prop) (b:Bool) (s':Shared):Prop:=∃ H',Inv X pins σ H' s'/\Q b H'
def AP (X:Cx) (pins:List (Addr×Obj)) (σ:St) (Q:List V->Hp->Prop) (us:List Value) (s':Shared):Prop:=∃ vs H',Inv X pins σ H' s'/\Vals vs us/\Q vs H'
def SP (X:Cx) (pins:List (Addr×Obj)) (D:Ends) (f:Flow) (s':Shared):Prop:=
 match f with
 | .next=>∃ σ' H',Inv X pins σ' H' s'/\D.nx σ' H'
 | .brk=>∃ σ' H',Inv X pins σ' H' s'/\D.bk σ' H'
 | .cont=>∃ σ' H',Inv X pins σ' H' s'/\D.ct σ' H'
 | .ret u=>∃ v σ' H',Inv X pins σ' H' s'/\RelV v u/\D.rt v H'
def PE (X:Cx) (e:Expr) (t:TE):Prop:=
 ∀ (pins:List (Addr×Obj)) (s:Shared) (σ:St) (H:Hp) (Q:VK),Inv X pins σ H s->t σ H Q->wpAny (model X.prog X.w) X.A (eval e X.env) (EP X pins σ Q) X.xe s
def PT (X:Cx) (e:Expr) (t:TT):Prop:=
 ∀ (pins:List (Addr×Obj)) (s:Shared) (σ:St) (H:Hp) (Q:Bool->Hp->Prop),Inv X pins σ H s->t σ H Q->wpAny (model X.prog X.w) X.A (isTrue e X.env (eval e X.env)) (TP X pins σ Q) X.xe s
def PW (X:Cx) (e:Expr) (t:TT):Prop:=
 ∀ (whole:Sem Value) (pins:List (Addr×Obj)) (s:Shared) (σ:St) (H:Hp) (Q:Bool->Hp->Prop),Inv X pins σ H s->t σ H Q->wpAny (model X.prog X.w) X.A (isTrue e X.env whole) (TP X pins σ Q) X.xe s
theorem PW.pt {X:Cx} {e:Expr} {t:TT} (h:PW X e t):PT X e t:=h _
def PA (X:Cx) (es:List Expr) (t:TA):Prop:=
 ∀ (pos:Pos) (pins:List (Addr×Obj)) (s:Shared) (σ:St) (H:Hp) (Q:List V->Hp->Prop),Inv X pins σ H s->t σ H Q->wpAny (model X.prog X.w) X.A (spliced (backTo pos (starEach es X.env))) (AP X pins σ Q) X.xe s
def PS (X:Cx) (st:Stmt) (t:TS):Prop:=
 ∀ (pins:List (Addr×Obj)) (s:Shared) (σ:St) (H:Hp) (D:Ends),Inv X pins σ H s->t D σ H->wpAny (model X.prog X.w) X.A (exec st X.env) (SP X pins D) X.xe s
def PSs (X:Cx) (st:List Stmt) (t:TS):Prop:=
 ∀ (pins:List (Addr×Obj)) (s:Shared) (σ:St) (H:Hp) (D:Ends),Inv X pins σ H s->t D σ H->wpAny (model X.prog X.w) X.A (execs st X.env) (SP X pins D) X.xe s
theorem thn {α:Type} {t:Sem α} {Q Q':α->Shared->Prop} {M:Model} {A:Around} {E:Value->Shared->Prop} {s:Shared} (h:wpAny M A t Q E s) (hQ:∀ a s,Q a s->Q' a s):wpAny M A t Q' E s:=wpAny_mono h hQ fun _ _ x=>x
end L2
namespace L2
open PySem PySem.Spec PyProof.Rows
section
variable {X:Cx}
def tVar (i:Nat):TE:=fun σ H Q=>∃ v,σ[i]?=some (some v)/\Q v H
def tC (v:V):TE:=fun _ H Q=>Q v H
theorem pe_var {i:Nat} {x:Str} {pos:Pos} (hN:X.N[i]?=some x) (hv:Vis X.env.scope x) (hd:(x == ("__debug__":Str))=false:=by decide) (hcd:(x == ("__classdict__":Str))=false:=by decide):PE X (.Name x pos) (tVar i):=by
 intro pins s σ H Q I h
 obtain ⟨v,e,h⟩:=h
 obtain ⟨m,hn,hl⟩:=I.loc
 obtain ⟨u,r,l⟩:=hl i x v hN e hv
 have fin:EP X pins σ Q u s:=⟨v,H,I,r,h⟩
 rcases l with ⟨hk,hm⟩ | ⟨hk,c,hc,hcell⟩
 ·exact wpAny_Name (wpAny_loadName_local I.ok.kind hk hn hm fin) hd
 ·rcases hk with hk | hk
  ·exact wpAny_Name (wpAny_loadName_cell I.ok.kind hk hc hcell fin) hd
  ·exact wpAny_Name (wpAny_loadName_free I.ok.kind hk hc hcell fin hcd) hd
theorem pe_int {i j pos}:PE X (.Constant (.int i) j pos) (tC (.int i)):=fun _ _ _ H _ I h=>wpAny_Constant_int ⟨.int i,H,I.tok _,⟨_,rfl⟩,h⟩
theorem pe_bl {b j pos}:PE X (.Constant (.bool b) j pos) (tC (.bl b)):=fun _ _ _ H _ I h=>Constant_bool ⟨.bl b,H,I,rfl,h⟩
theorem pe_non {j pos}:PE X (.Constant .none j pos) (tC .non):=fun _ _ _ H _ I h=>Constant_none ⟨.non,H,I,rfl,h⟩
theorem pe_str {x j pos}:PE X (.Constant (.str x) j pos) (tC (.str x)):=fun _ _ _ H _ I h=>Calls.Constant_str ⟨.str x,H,I.tok _,⟨_,rfl⟩,h⟩
def Gl (X:Cx) (x:Str):Prop:=X.env.kindOf x=some .globalImplicit
theorem ld_glob {E:Value->Shared->Prop} {pins:List (Addr×Obj)} {s:Shared} {σ:St} {H:Hp} {x:Str} {u:Value} {pos:Pos} {Q:Value->Shared->Prop} (I:Inv X pins σ H s) (hg:Gl X x) (hm:X.mg x=some u) (h:Q u s)
  (hd:(x == ("__debug__":Str))=false:=by decide):wpAny (model X.prog X.w) X.A (eval (.Name x pos) X.env) Q E s:=
 Calls.Name_function_global I.ok.kind hg (Calls.loadGlobal_global (by rw [I.ok.glob];exact I.mod.glob.keeps I.bk) hm h) hd
theorem ld_blt {E:Value->Shared->Prop} {pins:List (Addr×Obj)} {s:Shared} {σ:St} {H:Hp} {x:Str} {u:Value} {pos:Pos} {Q:Value->Shared->Prop} (I:Inv X pins σ H s) (hg:Gl X x) (hm:X.mg x=none) (hv:bootBuiltins x=some u) (h:Q u s)
  (hn:x≠"__name__":=by decide) (hd:(x == ("__debug__":Str))=false:=by decide):wpAny (model X.prog X.w) X.A (eval (.Name x pos) X.env) Q E s:=by
 obtain ⟨mb,h1,h2⟩:=I.mod.blt
 exact Calls.Name_function_global I.ok.kind hg (Calls.loadGlobal_builtin (by rw [I.ok.glob];exact I.mod.glob.keeps I.bk) hm (by rw [I.ok.blt];exact h1.keeps I.bk) ((h2 x hn).trans hv) h) hd
theorem pe_glob {x:Str} {v:V} {u:Value} {pos:Pos} (hg:Gl X x) (hm:X.mg x=some u) (r:RelV v u) (hd:(x == ("__debug__":Str))=false:=by decide):PE X (.Name x pos) (tC v):=
 fun _ _ _ H _ I h=>ld_glob I hg hm ⟨v,H,I,r,h⟩ hd
theorem pe_bltn {x:Str} {v:V} {u:Value} {pos:Pos} (hg:Gl X x) (hm:X.mg x=none) (hv:bootBuiltins x=some u) (r:RelV v u) (hn:x≠"__name__":=by decide) (hd:(x == ("__debug__":Str))=false:=by decide):PE X (.Name x pos) (tC v):=
 fun _ _ _ H _ I h=>ld_blt I hg hm hv ⟨v,H,I,r,h⟩ hn hd
variable {a b:Expr} {ta tb:TE} {pos:Pos}
def PC (X:Cx) (op:CmpOp) (a b:Expr) (t:TE):Prop:=
 ∀ (pins:List (Addr×Obj)) (s:Shared) (σ:St) (H:Hp) (Q:VK),Inv X pins σ H s->t σ H Q->
  wpAny (model X.prog X.w) X.A (eval a X.env) (fun v s₁=>wpAny (model X.prog X.w) X.A (eval b X.env) (fun u s₂=>wpAny (model X.prog X.w) X.A (compareOp op v u) (EP X pins σ Q) X.xe s₂) X.xe s₁) X.xe s
theorem nobehind (b:Expr) {op:CmpOp} (h:op≠.In) (h2:op≠.NotIn):behindInMarks op b=false:=by
 have e1:(op == CmpOp.In)=false:=by cases op <;> first | rfl | exact absurd rfl h
 have e2:(op == CmpOp.NotIn)=false:=by cases op <;> first | rfl | exact absurd rfl h2
 cases b <;> simp [behindInMarks,e1,e2]
def tNotN (ta:TE):TE:=fun σ H Q=>ta σ H fun x H1=>Q (.bl (!decide (x=.non))) H1
theorem RelV.none_iff {x:V} {v:Value} (r:RelV x v):(v == Value.none)=decide (x=.non):=by
 cases x with
 | non=>cases r;rfl
 | bl _=>cases r;rfl
 | int _=>obtain ⟨t,rfl⟩:=r;rfl
 | str _=>obtain ⟨t,rfl⟩:=r;rfl
 | byt _=>obtain ⟨t,rfl⟩:=r;rfl
 | flt _=>obtain ⟨t,rfl⟩:=r;rfl
 | ref _=>cases r;rfl
 | ty _=>cases r;rfl
theorem pc_notN {j pos'} (ha:PE X a ta):PC X .IsNot a (.Constant .none j pos') (tNotN ta):=by
 intro pins s σ H Q I h
 refine thn (ha pins s σ H _ I h) fun v s1 ⟨x,H1,I1,r1,q1⟩=>?_
 exact Constant_none (isnot_none_gen ⟨.bl _,H1,I1,by rw [r1.none_iff];rfl,q1⟩)
def tB (t:TE):TT:=fun σ H Q=>t σ H fun x H1=>∃ c,x=.bl c/\Q c H1
theorem pt_cmp {op:CmpOp} {t:TE} (h:PC X op a b t) (h1:behindInMarks op b=false:=by first | exact nobehind _ (by decide) (by decide) | rfl):PT X (.Compare a [op] [b] pos) (tB t):=by
 intro pins s σ H Q I hw
 refine wpAny_isTrue_Compare1 (thn (h pins s σ H _ I hw) fun v s1 h1=>thn h1 fun u s2 h2=>thn h2 fun c s3 ⟨x,H1,I1,r1,q1⟩=>?_) h1
 obtain ⟨d,rfl,q⟩:=q1
 cases r1
 exact wpAny_truthy_bool ⟨H1,I1,q⟩
variable {tA tB':TT} {rest:List Expr}
def tAnd (t u:TT):TT:=fun σ H Q=>t σ H fun c H1=>if c=true then u σ H1 Q else Q false H1
def tOr (t u:TT):TT:=fun σ H Q=>t σ H fun c H1=>if c=true then Q true H1 else u σ H1 Q
def tNot (t:TT):TT:=fun σ H Q=>t σ H fun c H1=>Q (!c) H1
theorem pw_and1 (ha:PT X a tA):PW X (.BoolOp .And [a] pos) tA:=by
 intro wh pins s σ H Q I h
 refine isTrue_and (thn (ha pins s σ H Q I h) fun c s1 e=>?_)
 cases c with
 | true=>exact isTrue_and_nil e
 | false=>exact e
theorem pw_or1 (ha:PT X a tA):PW X (.BoolOp .Or [a] pos) tA:=by
 intro wh pins s σ H Q I h
 refine isTrue_or (thn (ha pins s σ H Q I h) fun c s1 e=>?_)
 cases c with
 | false=>exact isTrue_or_nil e
 | true=>exact e
theorem pw_and (ha:PT X a tA) (hb:PW X (.BoolOp .And (b::rest) pos) tB'):PW X (.BoolOp .And (a::b::rest) pos) (tAnd tA tB'):=by
 intro wh pins s σ H Q I h
 refine isTrue_and (thn (ha pins s σ H _ I h) fun c s1 ⟨H1,I1,q1⟩=>?_)
 cases c with
 | true=>exact hb wh pins s1 σ H1 Q I1 q1
 | false=>exact ⟨H1,I1,q1⟩
theorem pw_or (ha:PT X a tA) (hb:PW X (.BoolOp .Or (b::rest) pos) tB'):PW X (.BoolOp .Or (a::b::rest) pos) (tOr tA tB'):=by
 intro wh pins s σ H Q I h
 refine isTrue_or (thn (ha pins s σ H _ I h) fun c s1 ⟨H1,I1,q1⟩=>?_)
 cases c with
 | true=>exact ⟨H1,I1,q1⟩
 | false=>exact hb wh pins s1 σ H1 Q I1 q1
theorem pt_not (ha:PT X a tA):PT X (.UnaryOp .Not a pos) (tNot tA):=by
 intro pins s σ H Q I h
 exact isTrue_not (ha pins s σ H (fun c H1=>Q (!c) H1) I h)
def tAndV (ta tb:TE):TE:=fun σ H Q=>ta σ H fun x H1=>∃ c,x=.bl c/\if c=true then tb σ H1 Q else Q (.bl false) H1
def tOrV (ta tb:TE):TE:=fun σ H Q=>ta σ H fun x H1=>∃ c,x=.bl c/\if c=true then Q (.bl true) H1 else tb σ H1 Q
def tNotV (ta:TE):TE:=fun σ H Q=>ta σ H fun x H1=>∃ c,x=.bl c/\Q (.bl (!c)) H1
theorem pe_one {op} {t:TE} (h:PE X a t):PE X (.BoolOp op [a] pos) t:=fun pins s σ H Q I hw=>BoolOp_one (h pins s σ H Q I hw)
theorem pe_and (ha:PE X a ta) (hb:PE X (.BoolOp .And (b::rest) pos) tb):PE X (.BoolOp .And (a::b::rest) pos) (tAndV ta tb):=by
 intro pins s σ H Q I h
 refine BoolOp_and (thn (ha pins s σ H _ I h) fun v s1 ⟨x,H1,I1,r1,q1⟩=>?_)
 obtain ⟨c,rfl,q1⟩:=q1
 cases r1
 refine wpAny_truthy_bool ?_
 cases c with
 | true=>exact hb pins s1 σ H1 Q I1 q1
 | false=>exact ⟨.bl false,H1,I1,rfl,q1⟩
theorem pe_or (ha:PE X a ta) (hb:PE X (.BoolOp .Or (b::rest) pos) tb):PE X (.BoolOp .Or (a::b::rest) pos) (tOrV ta tb):=by
 intro pins s σ H Q I h
 refine BoolOp_or (thn (ha pins s σ H _ I h) fun v s1 ⟨x,H1,I1,r1,q1⟩=>?_)
 obtain ⟨c,rfl,q1⟩:=q1
 cases r1
 refine wpAny_truthy_bool ?_
 cases c with
 | false=>exact hb pins s1 σ H1 Q I1 q1
 | true=>exact ⟨.bl true,H1,I1,rfl,q1⟩
theorem pe_not (ha:PE X a ta):PE X (.UnaryOp .Not a pos) (tNotV ta):=by
 intro pins s σ H Q I h
 refine UnaryOp_ (thn (ha pins s σ H _ I h) fun v s1 ⟨x,H1,I1,r1,q1⟩=>?_)
 obtain ⟨c,rfl,q1⟩:=q1
 cases r1
 exact not_of (wpAny_truthy_bool ⟨.bl (!c),H1,I1,rfl,q1⟩)
def tIf (t:TT) (ta tb:TE):TE:=fun σ H Q=>t σ H fun c H1=>if c=true then ta σ H1 Q else tb σ H1 Q
theorem pe_ifExp {c:Expr} (hc:PT X c tA) (ha:PE X a ta) (hb:PE X b tb):PE X (.IfExp c a b pos) (tIf tA ta tb):=by
 intro pins s σ H Q I h
 refine wpAny_IfExp (thn (hc pins s σ H _ I h) fun d s1 ⟨H1,I1,q1⟩=>?_)
 cases d with
 | true=>exact ha pins s1 σ H1 Q I1 q1
 | false=>exact hb pins s1 σ H1 Q I1 q1
end
end L2
namespace L2
open PySem PySem.Spec PyProof.Rows
def SqL (K:Frag) (H:Hp) (a:Addr) (xs:List V):Prop:=
 Rd H a (.lst xs)\/
  ∃ (o:Obj) (its:Array Value) (n:Nat),K.lookup a=some o/\o.cls=.type "list"/\o.dict=none/\o.data=.seq its n/\its.size<=sizeLine/\Vals xs its.toList
def SqT (K:Frag) (H:Hp) (a:Addr) (xs:List V):Prop:=
 Rd H a (.tup xs)\/
  ∃ (o:Obj) (its:Array Value) (n:Nat),K.lookup a=some o/\o.cls=.type "tuple"/\o.data=.seq its n/\its.size<=sizeLine/\Vals xs its.toList
def absV:Value->Option V
 | .none=>some .non
 | .bool b=>some (.bl b)
 | .int i _=>some (.int i)
 | .str x _=>some (.str x)
 | .bytes b _=>some (.byt b)
 | .float b _=>some (.flt b)
 | .ref a=>some (.ref a)
 | .type n=>some (.ty n)
 | _=>none
theorem RelV.abs {x:V} {u:Value} (r:RelV x u):absV u=some x:=by
 cases x with
 | non=>cases r;rfl
 | bl _=>cases r;rfl
 | int _=>obtain ⟨t,rfl⟩:=r;rfl
 | str _=>obtain ⟨t,rfl⟩:=r;rfl
 | byt _=>obtain ⟨t,rfl⟩:=r;rfl
 | flt _=>obtain ⟨t,rfl⟩:=r;rfl
 | ref _=>cases r;rfl
 | ty _=>cases r;rfl
theorem RelV.inj {x y:V} {u:Value} (r:RelV x u) (q:RelV y u):x=y:=Option.some.inj (r.abs.symm.trans q.abs)
theorem Vals.inj:∀ {xs ys:List V} {us:List Value},Vals xs us->Vals ys us->xs=ys
 | _,_,_,.nil,.nil=>rfl
 | _,_,_,.cons r t,.cons r' t'=>by rw [r.inj r',Vals.inj t t']
section
variable {X:Cx} {pins:List (Addr×Obj)} {σ:St} {H:Hp} {s:Shared} {a:Addr} {xs ys:List V}
theorem SqL.of {K:Frag} (h:H a=some (.lst xs)):SqL K H a xs:=.inl (.inl h)
theorem SqT.of {K:Frag} (h:H a=some (.tup xs)):SqT K H a xs:=.inl (.inl h)
theorem Inv.list (I:Inv X pins σ H s) (h:SqL X.K H a xs):∃ its:List Value,Vals xs its/\PlainL s.heap a its.toArray/\xs.length<=sizeLine:=by
 rcases h with h | ⟨o,its,n,hk,hc,hd,hs,hz,r⟩
 ·obtain ⟨z,its,n,r,e⟩:=h.ok I.hok
  exact ⟨its,r,⟨_,n,e,rfl,rfl,rfl⟩,z⟩
 ·refine ⟨its.toList,r,⟨o,n,I.kIn a o hk,hc,hd,by simpa using hs⟩,?_⟩
  have e:=r.length
  simp only [Array.length_toList] at e
  omega
theorem Inv.tuple (I:Inv X pins σ H s) (h:SqT X.K H a xs):∃ its:List Value,Vals xs its/\IsTup s.heap a its.toArray/\xs.length<=sizeLine:=by
 rcases h with h | ⟨o,its,n,hk,hc,hs,hz,r⟩
 ·obtain ⟨z,its,r,p⟩:=h.ok I.hok
  exact ⟨its,r,p,z⟩
 ·refine ⟨its.toList,r,⟨o,I.kIn a o hk,hc,n,by simpa using hs⟩,?_⟩
  have e:=r.length
  simp only [Array.length_toList] at e
  omega
theorem Inv.list_inj (I:Inv X pins σ H s) (h:SqL X.K H a xs) (h':SqL X.K H a ys):xs=ys:=by
 obtain ⟨its,r,⟨o,n,e,_,_,d⟩,_⟩:=I.list h
 obtain ⟨its',r',⟨o',n',e',_,_,d'⟩,_⟩:=I.list h'
 rw [e] at e';cases e'
 rw [d] at d'
 injection d' with d1 _
 have:its=its':=by simpa using congrArg Array.toList d1
 subst this
 exact r.inj r'
theorem Inv.tuple_inj (I:Inv X pins σ H s) (h:SqT X.K H a xs) (h':SqT X.K H a ys):xs=ys:=by
 obtain ⟨its,r,⟨o,e,_,n,d⟩,_⟩:=I.tuple h
 obtain ⟨its',r',⟨o',e',_,n',d'⟩,_⟩:=I.tuple h'
 rw [e] at e';cases e'
 rw [d] at d'
 injection d' with d1 _
 have:its=its':=by simpa using congrArg Array.toList d1
 subst this
 exact r.inj r'
end
abbrev Cx.wish (X:Cx) (E:Value->Shared->Prop):Cx:={ X with xe:=E }
abbrev Cx.nox (X:Cx):Cx:=X.wish fun _ _=>False
theorem Cx.Ok.wish {X:Cx} (ok:X.Ok) (E:Value->Shared->Prop):(X.wish E).Ok:=
 ⟨ok.mod,ok.kind,ok.glob,ok.blt,ok.above,ok.inj,ok.has,ok.cab,ok.hd,ok.frames,ok.stk,ok.exf,ok.bs,ok.bsz,ok.noex,ok.exfs,ok.funs,ok.frf⟩
theorem Cx.Ok.unwish {X:Cx} {E:Value->Shared->Prop} (ok:(X.wish E).Ok):X.Ok:=
 ⟨ok.mod,ok.kind,ok.glob,ok.blt,ok.above,ok.inj,ok.has,ok.cab,ok.hd,ok.frames,ok.stk,ok.exf,ok.bs,ok.bsz,ok.noex,ok.exfs,ok.funs,ok.frf⟩
section
variable {X:Cx} {pins:List (Addr×Obj)} {σ:St} {H:Hp} {s:Shared} {E:Value->Shared->Prop}
theorem Inv.wish (I:Inv X pins σ H s) (E:Value->Shared->Prop):Inv (X.wish E) pins σ H s:=⟨I.ok.wish E,I.os,I.bare,I.base,I.loc,I.cell,I.free,I.freeC,I.pin,I.hok,I.len⟩
theorem Inv.unwish (I:Inv (X.wish E) pins σ H s):Inv X pins σ H s:=⟨I.ok.unwish,I.os,I.bare,I.base,I.loc,I.cell,I.free,I.freeC,I.pin,I.hok,I.len⟩
theorem SP.unwish {D:Ends} {f:Flow} {s':Shared} (h:SP (X.wish E) pins D f s'):SP X pins D f s':=by
 cases f with
 | next=>obtain ⟨σ',H',I,q⟩:=h;exact ⟨σ',H',I.unwish,q⟩
 | brk=>obtain ⟨σ',H',I,q⟩:=h;exact ⟨σ',H',I.unwish,q⟩
 | cont=>obtain ⟨σ',H',I,q⟩:=h;exact ⟨σ',H',I.unwish,q⟩
 | ret u=>obtain ⟨v,σ',H',I,r,q⟩:=h;exact ⟨v,σ',H',I.unwish,r,q⟩
theorem PE.nox {e:Expr} {t:TE} (h:PE X.nox e t):PE X e t:=fun pins s σ H Q I hw=>
 wpAny_mono (h pins s σ H Q (I.wish _) hw) (fun _ _ ⟨v,H',I',r,q⟩=>⟨v,H',I'.unwish,r,q⟩) fun _ _ z=>False.elim z
theorem PT.nox {e:Expr} {t:TT} (h:PT X.nox e t):PT X e t:=fun pins s σ H Q I hw=>
 wpAny_mono (h pins s σ H Q (I.wish _) hw) (fun _ _ ⟨H',I',q⟩=>⟨H',I'.unwish,q⟩) fun _ _ z=>False.elim z
theorem PSs.nox {st:List Stmt} {t:TS} (h:PSs X.nox st t):PSs X st t:=fun pins s σ H D I hw=>
 wpAny_mono (h pins s σ H D (I.wish _) hw) (fun _ _ q=>q.unwish) fun _ _ z=>False.elim z
end
section
variable {X:Cx} {st:Stmt} {rest:List Stmt} {t u:TS} {e:Expr} {te:TE} {pos:Pos}
def tNext:TS:=fun D σ H=>D.nx σ H
def tSeq (t u:TS):TS:=fun D σ H=>t { D with nx:=u D } σ H
theorem pss_nil:PSs X [] tNext:=fun _ _ σ H _ I h=>wpAny_execs_nil ⟨σ,H,I,h⟩
theorem pss_cons (h1:PS X st t) (h2:PSs X rest u):PSs X (st::rest) (tSeq t u):=by
 intro pins s σ H D I h
 refine wpAny_execs_cons (thn (h1 pins s σ H { D with nx:=u D } I h) fun f s1 q=>?_)
 cases f with
 | next=>
  obtain ⟨σ',H',I',q⟩:=q
  exact h2 pins s1 σ' H' D I' q
 | ret v=>exact q
 | brk=>exact q
 | cont=>exact q
theorem pss_one (h1:PS X st t):PSs X [st] t:=by
 intro pins s σ H D I h
 refine wpAny_execs_cons (thn (h1 pins s σ H D I h) fun f s1 q=>?_)
 cases f with
 | next=>exact wpAny_execs_nil q
 | ret v=>exact q
 | brk=>exact q
 | cont=>exact q
theorem Inv.quiet {pins:List (Addr×Obj)} {σ:St} {H:Hp} {s:Shared} (I:Inv X pins σ H s):interactive X.env=false:=by simp [interactive,I.ok.kind]
def tDrop (te:TE):TS:=fun D σ H=>te σ H fun _ H1=>D.nx σ H1
theorem ps_expr (he:PE X e te) (hs:swapsWith e none pos.line X.env=pure false:=by rfl):PS X (.Expr e pos) (tDrop te):=by
 intro pins s σ H D I h
 exact wpAny_Expr_any (thn (he pins s σ H _ I h) fun v s1 ⟨x,H1,I1,r1,q1⟩=>⟨σ,H1,I1,q1⟩) I.quiet hs
def tRet (te:TE):TS:=fun D σ H=>te σ H D.rt
theorem ps_ret (he:PE X e te):PS X (.Return (some e) pos) (tRet te):=by
 intro pins s σ H D I h
 exact wpAny_Return_some (thn (he pins s σ H _ I h) fun v s1 ⟨x,H1,I1,r1,q1⟩=>⟨x,σ,H1,I1,r1,q1⟩)
def tIfS (c:TT) (t u:TS):TS:=fun D σ H=>c σ H fun b H1=>if b=true then t D σ H1 else u D σ H1
theorem ps_if {c:Expr} {a b:List Stmt} {tc:TT} (hc:PT X c tc) (ha:PSs X a t) (hb:PSs X b u):PS X (.If c a b pos) (tIfS tc t u):=by
 intro pins s σ H D I h
 refine wpAny_If (thn (hc pins s σ H _ I h) fun d s1 ⟨H1,I1,q1⟩=>?_)
 cases d with
 | true=>exact ha pins s1 σ H1 D I1 q1
 | false=>exact hb pins s1 σ H1 D I1 q1
end
abbrev TG:=V->St->Hp->(St->Hp->Prop)->Prop
abbrev TGs:=List V->St->Hp->(St->Hp->Prop)->Prop
def PG (X:Cx) (target:Expr) (t:TG):Prop:=
 ∀ (pins:List (Addr×Obj)) (s:Shared) (σ:St) (H:Hp) (v:V) (u:Value) (Q:St->Hp->Prop),Inv X pins σ H s->RelV v u->t v σ H Q->
  wpAny (model X.prog X.w) X.A (assign target X.env u) (fun _ s'=>∃ σ' H',Inv X pins σ' H' s'/\Q σ' H') X.xe s
def PGs (X:Cx) (ts:List Expr) (t:TGs):Prop:=
 ∀ (pins:List (Addr×Obj)) (s:Shared) (σ:St) (H:Hp) (vs:List V) (us:List Value) (Q:St->Hp->Prop),Inv X pins σ H s->Vals vs us->t vs σ H Q->
  wpAny (model X.prog X.w) X.A (assignInOrder ((assignEach ts X.env).map (·.2)) us) (fun _ s'=>∃ σ' H',Inv X pins σ' H' s'/\Q σ' H') X.xe s
abbrev TIp:=V->V->Hp->VK->Prop
def PIp (X:Cx) (op:Operator) (t:TIp):Prop:=
 ∀ (pins:List (Addr×Obj)) (s:Shared) (σ:St) (H:Hp) (x y:V) (v u:Value) (Q:VK),Inv X pins σ H s->RelV x v->RelV y u->t x y H Q->
  wpAny (model X.prog X.w) X.A (inplaceOp op v u) (EP X pins σ Q) X.xe s
section
variable {X:Cx} {pos:Pos}
def gName (i:Nat):TG:=fun v σ H Q=>Q (σ.set i (some v)) H
theorem pg_name {i:Nat} {x:Str} (hN:X.N.Nodup) (hi:X.N[i]?=some x) (hx:Loc X.env.scope x) (hf:X.fn x=true\/X.env.scope.names.lookup x=some .local:=by first | exact .inl rfl | exact .inr rfl | assumption):PG X (.Name x pos) (gName i):=by
 intro pins s σ H v u Q I r h
 exact wpAny_assign_Name (store_ok I hN hi hx r (fun s' I'=>⟨_,H,I',h⟩) hf)
def gNil:TGs:=fun vs σ H Q=>vs=[]/\Q σ H
def gCons (t:TG) (u:TGs):TGs:=fun vs σ H Q=>∃ v r,vs=v::r/\t v σ H fun σ' H'=>u r σ' H' Q
theorem pgs_nil:PGs X [] gNil:=by
 intro pins s σ H vs us Q I r h
 obtain ⟨e,h⟩:=h
 subst e
 cases r
 exact assignInOrder_nil ⟨σ,H,I,h⟩
theorem pgs_cons {e:Expr} {es:List Expr} {t:TG} {u:TGs} (h1:PG X e t) (h2:PGs X es u)
  (hs:(assignEach (e::es) X.env).map (·.2)=assign e X.env::(assignEach es X.env).map (·.2):=by rfl):PGs X (e::es) (gCons t u):=by
 intro pins s σ H vs us Q I r h
 obtain ⟨v,vr,e1,h⟩:=h
 subst e1
 cases r with
 | cons r rr=>
  rw [hs]
  refine assignInOrder_cons (thn (h1 pins s σ H _ _ _ I r h) fun _ s1 ⟨σ1,H1,I1,q1⟩=>?_)
  exact h2 pins s1 σ1 H1 _ _ Q I1 rr q1
def gTup (K:Frag) (n:Nat) (t:TGs):TG:=fun v σ H Q=>∃ a xs,v=.ref a/\SqT K H a xs/\xs.length=n/\t xs σ H Q
theorem pg_tup {es:List Expr} {k:Nat} {t:TGs} {n:Nat} (hc:X.calm=true) (h:PGs X es t)
  (hn:(assignEach es X.env).length=n:=by rfl) (hst:(assignEach es X.env).findIdx? (·.1)=none:=by rfl):PG X (.Tuple es k pos) (gTup X.K n t):=by
 intro pins s σ H v u Q I r hw
 obtain ⟨a,xs,e1,hq,hl,hw⟩:=hw
 subst e1
 cases r
 obtain ⟨its,rv,ht,hz⟩:=I.tuple hq
 refine assign_Tuple_tuple (I.ok.hd hc) ht (by simp [hn,← hl,rv.length]) hst fun h' hx=>?_
 have I1:Inv X pins σ H { s with heap:=h' }:=I.kept (t':=s.toks) fun b o e=>hx b o (Nat.ne_of_lt (Heap.lt_size e)) e
 exact h pins _ σ H xs _ Q I1 (by simpa using rv) hw
def tAsg (te:TE) (g:TG):TS:=fun D σ H=>te σ H fun x H1=>g x σ H1 D.nx
theorem ps_set {i:Nat} {x:Str} {e:Expr} {te:TE} {pos':Pos} (hN:X.N.Nodup) (hi:X.N[i]?=some x) (hx:Loc X.env.scope x) (he:PE X e te) (hs:swapsWith e (some (.Name x pos')) pos.line X.env=pure false:=by rfl) (hf:X.fn x=true\/X.env.scope.names.lookup x=some .local:=by first | exact .inl rfl | exact .inr rfl | assumption):
  PS X (.Assign [.Name x pos'] e pos) (tAsg te (gName i)):=by
 intro pins s σ H D I h
 refine wpAny_Assign_Name (thn (he pins s σ H _ I h) fun v s1 ⟨y,H1,I1,r1,q1⟩=>?_) hs
 exact store_ok I1 hN hi hx r1 (fun s2 I2=>⟨_,H1,I2,q1⟩) hf
def tAug (i:Nat) (te:TE) (ti:TIp):TS:=fun D σ H=>∃ x,σ[i]?=some (some x)/\te σ H fun y H1=>ti x y H1 fun z H2=>D.nx (σ.set i (some z)) H2
theorem ps_aug {i:Nat} {x:Str} {e:Expr} {te:TE} {op:Operator} {ti:TIp} {pos':Pos} (hN:X.N.Nodup) (hi:X.N[i]?=some x) (hx:Loc X.env.scope x) (he:PE X e te) (ho:PIp X op ti) (hf:X.fn x=true\/X.env.scope.names.lookup x=some .local:=by first | exact .inl rfl | exact .inr rfl | assumption):
  PS X (.AugAssign (.Name x pos') op e pos) (tAug i te ti):=by
 intro pins s σ H D I h
 obtain ⟨v,e1,h⟩:=h
 obtain ⟨m,hn,hl⟩:=I.loc
 have vis:Vis X.env.scope x:=by rcases hx with k | k;exact .inl k;exact .inr (.inl k)
 obtain ⟨u,r,l⟩:=hl i x v hi e1 vis
 refine wpAny_AugAssign_Name ?_
 have go:wpAny (model X.prog X.w) X.A (eval e X.env) (fun w s₂=>wpAny (model X.prog X.w) X.A (inplaceOp op u w) (fun r s₃=>wpAny (model X.prog X.w) X.A (storeName X.env x r) (fun _=>SP X pins D .next) X.xe s₃) X.xe s₂) X.xe s:=by
  refine thn (he pins s σ H _ I h) fun w s1 ⟨y,H1,I1,r1,q1⟩=>?_
  refine thn (ho pins s1 σ H1 v y u w _ I1 r r1 q1) fun z s2 ⟨zv,H2,I2,r2,q2⟩=>?_
  exact store_ok I2 hN hi hx r2 (fun s3 I3=>⟨_,H2,I3,q2⟩) hf
 rcases l with ⟨hk,hm⟩ | ⟨hk,c,hc,hcell⟩
 ·exact wpAny_loadName_local I.ok.kind hk hn hm go
 ·rcases hk with hk | hk
  ·exact wpAny_loadName_cell I.ok.kind hk hc hcell go
  ·rcases hx with k | k
   ·have:X.env.scope.names.lookup x=some .free:=hk
    rw [k] at this;cases this
   ·have:X.env.scope.names.lookup x=some .free:=hk
    rw [k] at this;cases this
def ipI (f:Int->Int->Int):TIp:=fun x y H Q=>∃ i j,x=.int i/\y=.int j/\Q (.int (f i j)) H
theorem ip_add:PIp X .Add (ipI fun i j=>i+j):=by
 intro pins s σ H x y v u Q I r1 r2 h
 obtain ⟨i,j,e1,e2,q⟩:=h
 subst e1;subst e2
 obtain ⟨t,rfl⟩:=r1
 obtain ⟨t',rfl⟩:=r2
 exact iadd_int ⟨.int _,H,I.tok _,⟨_,rfl⟩,q⟩
end
section
variable {X:Cx} {pos:Pos}
def tWhile (c:TT) (tb:TS):TS:=fun D σ H=>∃ W:Nat->St->Hp->Prop,(∃ m,W m σ H)/\∀ m σ H,W m σ H->
 c σ H fun b H1=>if b=true then ∃ N:St->Hp->Prop,(∀ σ' H',N σ' H'->∃ m',m' < m/\W m' σ' H')/\tb { D with nx:=N,ct:=N,bk:=D.nx } σ H1 else D.nx σ H1
theorem ps_while {c:Expr} {body:List Stmt} {tc:TT} {tb:TS} (hp:PassesOwn (model X.prog X.w) X.A X.env X.xe) (hc:PT X c tc) (hb:PSs X body tb):PS X (.While c body [] pos) (tWhile tc tb):=by
 intro pins s σ H D I h
 obtain ⟨W,⟨m0,w0⟩,turn⟩:=h
 refine wpAny_While (codeAny_whileLoop (fun n s'=>∃ σ' H',Inv X pins σ' H' s'/\W n σ' H') ?_ m0 ⟨σ,H,I,w0⟩)
 rintro n s1 ⟨σ1,H1,I1,w1⟩
 refine wpAny_passesOwn hp (thn (hc pins s1 σ1 H1 _ I1 (turn n σ1 H1 w1)) fun b s2 ⟨H2,I2,q2⟩=>?_)
 cases b with
 | true=>
  obtain ⟨N,hN,q2⟩:=q2
  rw [if_pos rfl]
  refine wpAny_passesOwn hp (thn (hb pins s2 σ1 H2 _ I2 q2) fun f s3 q3=>?_)
  cases f with
  | next=>
   obtain ⟨σ3,H3,I3,n3⟩:=q3
   obtain ⟨m',hm,w3⟩:=hN σ3 H3 n3
   exact ⟨m',hm,σ3,H3,I3,w3⟩
  | cont=>
   obtain ⟨σ3,H3,I3,n3⟩:=q3
   obtain ⟨m',hm,w3⟩:=hN σ3 H3 n3
   exact ⟨m',hm,σ3,H3,I3,w3⟩
  | brk=>exact q3
  | ret v=>exact q3
 | false=>
  rw [if_neg Bool.false_ne_true]
  exact wpAny_execs_nil ⟨σ1,H2,I2,q2⟩
end
structure It where
 go:Nat->Hp->Prop
 yld:Nat->Hp->V->Hp->Prop
 stop:Nat->Hp->Prop
def FpOk (X:Cx) (pins:List (Addr×Obj)) (H:Hp) (b:Addr):Prop:=
 H b=none/\b≠X.env.locals/\b∉X.fs/\(b∈X.ex\/X.s₀.heap.objs.size<=b)/\(∀ x c,X.env.cells.lookup x=some c->c≠b)/\∀ p∈X.pn++pins,p.1≠b
theorem Inv.fpOk {X:Cx} {pins:List (Addr×Obj)} {σ:St} {H H':Hp} {s:Shared} {b:Addr} (I:Inv X pins σ H s) (hb:s.heap.objs.size<=b) (hn:H' b=none):FpOk X pins H' b:=by
 refine ⟨hn,Nat.ne_of_gt (Nat.lt_of_lt_of_le I.lt hb),I.nofs hb,.inr (Nat.le_trans I.sz hb),fun x c e z=>?_,fun p hp z=>?_⟩
 ·obtain ⟨v,q⟩:=I.cell x c e
  exact absurd (Nat.lt_of_lt_of_le q.lt (by rw [z];exact hb)) (Nat.lt_irrefl _)
 ·exact absurd (Nat.lt_of_lt_of_le (Heap.lt_size (I.pin p hp).1) (by rw [z];exact hb)) (Nat.lt_irrefl _)
structure Turn (P:Program) (w:World) (K:Frag) (tg:Expr) (J:It) (fp:List Addr) (it:Addr) (tn:Nat->Heap->Prop):Prop where
 mem:it∈fp
 obj:∀ i h,tn i h->∀ b∈fp,∃ o,h.get? b=some o/\∀ v,o.data≠.cell v
 keep:∀ i h h',tn i h->(∀ b∈fp,∀ o,h.get? b=some o->h'.get? b=some o)->tn i h'
 item:∀ (X:Cx),X.prog=P->X.w=w->X.K=K->X.calm=true->∀ (i:Nat) (pins:List (Addr×Obj)) (s:Shared) (σ:St) (H:Hp) (E:Value->Shared->Prop),Inv X pins σ H s->(∀ b∈fp,FpOk X pins H b)->tn i s.heap->J.go i H->
  wpAny (model P w) X.A (pyNext (.ref it)) (fun r s1=>∃ u,r=some u/\
   wpAny (model P w) X.A (letOwnedTupleGo tg (.ref it) u) (fun _ s2=>∃ x H',Inv X pins σ H' s2/\RelV x u/\J.yld i H x H'/\tn (i+1) s2.heap/\∀ b∈fp,H' b=none) E s1) E s
 done:∀ (X:Cx),X.prog=P->X.w=w->X.K=K->X.calm=true->∀ (i:Nat) (pins:List (Addr×Obj)) (s:Shared) (σ:St) (H:Hp) (E:Value->Shared->Prop),Inv X pins σ H s->(∀ b∈fp,FpOk X pins H b)->tn i s.heap->J.stop i H->
  wpAny (model P w) X.A (pyNext (.ref it)) (fun r s1=>r=none/\Inv X pins σ H s1) E s
 self:∀ (A:Around) (i:Nat) (s:Shared) (Q:Value->Shared->Prop) (E:Value->Shared->Prop),tn i s.heap->Q (.ref it) s->wpAny (model P w) A (pyIter (.ref it)) Q E s
abbrev TI:=St->Hp->(It->Hp->Prop)->Prop
def PIE (X:Cx) (pins:List (Addr×Obj)) (σ:St) (tg:Expr) (R:It->Hp->Prop) (itv:Value) (s2:Shared):Prop:=
 ∃ (it:Addr) (fp:List Addr) (tn:Nat->Heap->Prop) (J:It) (H':Hp),itv=.ref it/\Inv X pins σ H' s2/\Turn X.prog X.w X.K tg J fp it tn/\tn 0 s2.heap/\(∀ b∈fp,FpOk X pins H' b)/\R J H'
def PI (X:Cx) (tg iter:Expr) (wi:TI):Prop:=
 ∀ (pins:List (Addr×Obj)) (s:Shared) (σ:St) (H:Hp) (R:It->Hp->Prop),Inv X pins σ H s->wi σ H R->
  wpAny (model X.prog X.w) X.A (eval iter X.env) (fun v s1=>wpAny (model X.prog X.w) X.A (pyIter v) (PIE X pins σ tg R) X.xe s1) X.xe s
theorem go_of {M:Model} {A:Around} {E:Value->Shared->Prop} {s:Shared} {tg:Expr} {it:Addr} {u:Value} {o:Obj} {n:String} {vs:Array Value} {Q:Unit->Shared->Prop} (ho:s.heap.get? it=some o) (hc:o.cls=.type n) (hd:o.data=.fields vs)
  (hn:["enumerate","zip","dict_itemiterator","dict_reverseitemiterator","odict_iterator","itertools.zip_longest","itertools.pairwise"].contains n=false) (hQ:Q () s):wpAny M A (letOwnedTupleGo tg (.ref it) u) Q E s:=by
 unfold letOwnedTupleGo
 cases tg <;> first
  | exact wpAny_pure hQ
  | (cases u <;> first
    | exact wpAny_pure hQ
    | (refine wpAny_bind (wpAny_load ho ?_)
       rw [hc,hd]
       show wpAny M A (if (["enumerate","zip","dict_itemiterator","dict_reverseitemiterator","odict_iterator","itertools.zip_longest","itertools.pairwise"].contains n && vs[0]? == some (rawInt _))=true then _ else _) Q E s
       rw [if_neg (by intro h;rw [hn,Bool.false_and] at h;cases h)]
       exact wpAny_pure hQ))
def Itl (K:Frag) (a:Addr):It:=
 ⟨fun i H=>∃ xs x,SqL K H a xs/\xs[i]?=some x,fun i H x H'=>H'=H/\∀ xs,SqL K H a xs->xs[i]?=some x,fun i H=>∃ xs,SqL K H a xs/\xs.length<=i⟩
def Itt (K:Frag) (a:Addr):It:=
 ⟨fun i H=>∃ xs x,SqT K H a xs/\xs[i]?=some x,fun i H x H'=>H'=H/\∀ xs,SqT K H a xs->xs[i]?=some x,fun i H=>∃ xs,SqT K H a xs/\xs.length<=i⟩
def Itr (lo:Int) (n:Nat):It:=⟨fun i _=>i < n,fun i H x H'=>H'=H/\x=.int (lo+i),fun i _=>n<=i⟩
theorem turn_list {P:Program} {w:World} {K:Frag} {tg:Expr} (a it:Addr):Turn P w K tg (Itl K a) [it] it (fun i h=>h.IsListIter it a i) where
 mem:=by simp
 obj:=fun i h st b hb=>by
  have e:b=it:=by simpa using hb
  subst e
  obtain ⟨o,e,c,d⟩:=st
  exact ⟨o,e,fun v z=>by rw [d] at z;cases z⟩
 keep:=fun i h h' st k=>st.at fun o e=>k it (by simp) o e
 item:=by
  intro X hP hw hK hc i pins s σ H E I hf st hg
  subst hP hw hK
  obtain ⟨xs,x,hq,hx⟩:=hg
  obtain ⟨its,rv,p,hz⟩:=I.list hq
  obtain ⟨u,hu,ru⟩:=rv.get hx
  obtain ⟨f0,f1,f2,f3,f4,f5⟩:=hf it (by simp)
  refine wpAny_pyNext_list_item st p.isList (x:=u) (by simpa using hu) fun h' st' sb=>?_
  have I1:Inv X pins σ H { s with heap:=h' }:=I.turned (t':=s.toks) (fun b o hb e=>(sb.2 b hb).trans e) f0 f1 f3 f4 f5
  obtain ⟨o,e,c,d⟩:=id st'
  exact ⟨u,rfl,go_of (s:={ s with heap:=h' }) e c d (by decide) ⟨x,H,I1,ru,⟨rfl,fun ys hy=>by rw [I.list_inj hy hq];exact hx⟩,st',fun b hb=>(hf b hb).1⟩⟩
 done:=by
  intro X hP hw hK hc i pins s σ H E I hf st hg
  subst hP hw hK
  obtain ⟨xs,hq,hx⟩:=hg
  obtain ⟨its,rv,p,hz⟩:=I.list hq
  obtain ⟨f0,f1,f2,f3,f4,f5⟩:=hf it (by simp)
  have hl:=rv.length
  exact wpAny_pyNext_list_end (I.ok.hd hc) st p.isList (by simp;omega) fun h' eb=>⟨rfl,I.turned (t':=s.toks) (fun b o hb e=>eb b o hb e) f0 f1 f3 f4 f5⟩
 self:=fun _ _ _ _ _ st h=>wpAny_pyIter_listiter st h
theorem turn_tuple {P:Program} {w:World} {K:Frag} {tg:Expr} (a it:Addr):Turn P w K tg (Itt K a) [it] it (fun i h=>h.IsTupleIter it a i) where
 mem:=by simp
 obj:=fun i h st b hb=>by
  have e:b=it:=by simpa using hb
  subst e
  obtain ⟨o,e,c,d⟩:=st
  exact ⟨o,e,fun v z=>by rw [d] at z;cases z⟩
 keep:=fun i h h' st k=>st.at fun o e=>k it (by simp) o e
 item:=by
  intro X hP hw hK hc i pins s σ H E I hf st hg
  subst hP hw hK
  obtain ⟨xs,x,hq,hx⟩:=hg
  obtain ⟨its,rv,p,hz⟩:=I.tuple hq
  obtain ⟨u,hu,ru⟩:=rv.get hx
  obtain ⟨f0,f1,f2,f3,f4,f5⟩:=hf it (by simp)
  refine wpAny_pyNext_tuple_item st (show s.heap.IsTuple a its.toArray from p) (x:=u) (by simpa using hu) fun h' st' sb=>?_
  have I1:Inv X pins σ H { s with heap:=h' }:=I.turned (t':=s.toks) (fun b o hb e=>(sb.2 b hb).trans e) f0 f1 f3 f4 f5
  obtain ⟨o,e,c,d⟩:=id st'
  exact ⟨u,rfl,go_of (s:={ s with heap:=h' }) e c d (by decide) ⟨x,H,I1,ru,⟨rfl,fun ys hy=>by rw [I.tuple_inj hy hq];exact hx⟩,st',fun b hb=>(hf b hb).1⟩⟩
 done:=by
  intro X hP hw hK hc i pins s σ H E I hf st hg
  subst hP hw hK
  obtain ⟨xs,hq,hx⟩:=hg
  obtain ⟨its,rv,p,hz⟩:=I.tuple hq
  obtain ⟨f0,f1,f2,f3,f4,f5⟩:=hf it (by simp)
  have hl:=rv.length
  exact wpAny_pyNext_tuple_end (I.ok.hd hc) st (show s.heap.IsTuple a its.toArray from p) (by simp;omega) fun h' eb=>⟨rfl,I.turned (t':=s.toks) (fun b o hb e=>eb b o hb e) f0 f1 f3 f4 f5⟩
 self:=fun _ _ _ _ _ st h=>wpAny_pyIter_tupleiter st h
theorem turn_range {P:Program} {w:World} {K:Frag} {tg:Expr} (it:Addr) (lo:Int) (n:Nat):Turn P w K tg (Itr lo n) [it] it (fun i h=>IsRangeIter h it (lo+(i:Nat) * 1) ((n:Int) - (i:Nat)) 1) where
 mem:=by simp
 obj:=fun i h st b hb=>by
  have e:b=it:=by simpa using hb
  subst e
  exact ⟨_,st,fun v z=>by
   have z':Data.fields _=Data.cell v:=z
   cases z'⟩
 keep:=fun i h h' st k=>k it (by simp) _ st
 item:=by
  intro X hP hw hK hc i pins s σ H E I hf st hg
  subst hP hw hK
  obtain ⟨f0,f1,f2,f3,f4,f5⟩:=hf it (by simp)
  have W:=Walks.range (prog:=X.prog) (w:=X.w) (I.ok.hd hc) it lo 1 n
  refine W.item i s _ _ hg st fun v h' tk hv st' kk=>?_
  obtain ⟨t,rfl⟩:=hv
  have I1:Inv X pins σ H { s with heap:=h',toks:=tk }:=I.turned (fun b o hb e=>kk b o (by simpa using hb) e) f0 f1 f3 f4 f5
  refine ⟨_,rfl,go_of (s:={ s with heap:=h',toks:=tk }) (n:="range_iterator") st' rfl rfl (by decide) ⟨.int (lo+i),H,I1,⟨t,?_⟩,⟨rfl,rfl⟩,st',fun b hb=>(hf b hb).1⟩⟩
  rw [Int.mul_one]
 done:=by
  intro X hP hw hK hc i pins s σ H E I hf st hg
  subst hP hw hK
  obtain ⟨f0,f1,f2,f3,f4,f5⟩:=hf it (by simp)
  exact wpAny_pyNext_range_end (I.ok.hd hc) st (by have:n<=i:=hg;omega) fun h' eb=>⟨rfl,I.turned (t':=s.toks) (fun b o hb e=>eb b o hb e) f0 f1 f3 f4 f5⟩
 self:=fun _ _ _ _ _ st h=>wpAny_pyIter_rangeiter st h
end L2
namespace L2
open PySem PySem.Spec PyProof.Rows
section
variable {X:Cx} {tg:Expr}
theorem range_it {pins:List (Addr×Obj)} {σ:St} {H:Hp} {s:Shared} {R:It->Hp->Prop} {E:Value->Shared->Prop} {lo hi:Int} {t u v:Tok} {tk:Nat} (I:Inv X pins σ H s) (h1:-(2 ^ 62)<=lo) (h2:lo < 2 ^ 62) (h3:-(2 ^ 62)<=hi) (h4:hi < 2 ^ 62)
  (q:R (Itr lo (hi - lo).toNat) H):wpAny (model X.prog X.w) X.A (pyIter (.ref s.heap.objs.size)) (PIE X pins σ tg R) E { s with heap:=s.heap.push { cls:=.type "range",data:=.fields #[.int lo t,.int hi u,.int 1 v] },toks:=tk }:=by
 refine wpAny_pyIter_range (IsRange.new ..) (small_one h1 h2 h3 h4) ?_
 have I1:Inv X pins σ H { s with heap:=s.heap.push { cls:=.type "range",data:=.fields #[.int lo t,.int hi u,.int 1 v] },toks:=tk }:=I.kept fun b o e=>Heap.get?_push_of_some _ e
 refine ⟨(s.heap.push { cls:=.type "range",data:=.fields #[.int lo t,.int hi u,.int 1 v] }).objs.size,[(s.heap.push { cls:=.type "range",data:=.fields #[.int lo t,.int hi u,.int 1 v] }).objs.size],_,_,H,rfl,
  I1.kept (t':=tk) fun b o e=>Heap.get?_push_of_some _ e,turn_range _ lo (hi - lo).toNat,?_,fun b hb=>?_,q⟩
 ·have e1:lo+((0:Nat):Int) * 1=lo:=by simp
  have e2:(((hi - lo).toNat:Nat):Int) - ((0:Nat):Int)=Builtin.Range.rangeSize lo hi 1:=by rw [rangeSize_one];split <;> omega
  show IsRangeIter _ _ (lo+((0:Nat):Int) * 1) ((((hi - lo).toNat:Nat):Int) - ((0:Nat):Int)) 1
  rw [e1,e2]
  exact Heap.get?_push_size _ rfl
 ·have e:b=(s.heap.push { cls:=.type "range",data:=.fields #[.int lo t,.int hi u,.int 1 v] }).objs.size:=by simpa using hb
  subst e
  exact I1.fpOk (Nat.le_refl _) (I1.hok.fresh (Nat.le_refl _))
def iRng1 (ta:TA):TI:=fun σ H R=>ta σ H fun vs H1=>∃ j:Int,vs=[.int j]/\-(2 ^ 62)<=j/\j < 2 ^ 62/\R (Itr 0 j.toNat) H1
theorem pi_range1 {a:Expr} {ta:TA} {p pos:Pos} (hg:Gl X "range") (hm:X.mg "range"=none) (ha:PA X [a] ta) (hs:starEach [a] X.env=[(false,eval a X.env)]:=by rfl):PI X tg (.Call (.Name "range" p) [a] [] pos) (iRng1 ta):=by
 intro pins s σ H R I h
 refine Call_ (ld_blt I hg hm boot_range (PyProof.Rows.callWith_type1 (thn (ha pos pins s σ H _ I h) fun us s1 ⟨vs,H1,I1,r1,q1⟩=>?_) hs rfl))
 obtain ⟨j,e,q1,q2,q⟩:=q1
 subst e
 cases r1 with
 | cons r rr=>
  cases rr
  obtain ⟨t,rfl⟩:=r
  exact call_range_1 (range_it I1 (by omega) (by omega) q1 q2 (by simpa using q))
def tFor (wi:TI) (g:TG) (tb:TS):TS:=fun D σ H=>wi σ H fun J H1=>∃ W:Nat->Nat->St->Hp->Prop,(∃ m,W 0 m σ H1)/\∀ i m σ H,W i m σ H->
 (J.stop i H/\D.nx σ H)\/(J.go i H/\∃ N:St->Hp->Prop,(∀ σ' H',N σ' H'->∃ m',m' < m/\W (i+1) m' σ' H')/\∀ x H',J.yld i H x H'->g x σ H' fun σ2 H2=>tb { D with nx:=N,ct:=N,bk:=D.nx } σ2 H2)
def pinsAt (fp:List Addr) (h:Heap):List (Addr×Obj):=fp.filterMap fun b=>(h.get? b).map fun o=>(b,o)
theorem mem_pinsAt {fp:List Addr} {h:Heap} {b:Addr} {o:Obj} (hb:b∈fp) (e:h.get? b=some o):(b,o)∈pinsAt fp h:=List.mem_filterMap.mpr ⟨b,hb,by rw [e];rfl⟩
theorem of_pinsAt {fp:List Addr} {h:Heap} {p:Addr×Obj} (hp:p∈pinsAt fp h):p.1∈fp/\h.get? p.1=some p.2:=by
 obtain ⟨b,hb,e⟩:=List.mem_filterMap.mp hp
 cases q:h.get? b with
 | none=>rw [q] at e;cases e
 | some o=>
  rw [q] at e
  have e':(b,o)=p:=Option.some.inj e
  subst e'
  exact ⟨hb,q⟩
theorem Inv.pinned {pins:List (Addr×Obj)} {σ:St} {H:Hp} {s:Shared} {fp:List Addr} (I:Inv X pins σ H s) (hf:∀ b∈fp,FpOk X pins H b) (ho:∀ b∈fp,∃ o,s.heap.get? b=some o/\∀ v,o.data≠.cell v):Inv X (pins++pinsAt fp s.heap) σ H s:=
 I.pins_of fun p hp=>(List.mem_append.mp hp).elim (fun z=>I.pin p (List.mem_append_right _ z)) fun z=>by
  obtain ⟨hb,e⟩:=of_pinsAt z
  obtain ⟨f0,f1,f2,_⟩:=hf p.1 hb
  obtain ⟨o,e',d⟩:=ho p.1 hb
  rw [e] at e';cases e'
  exact ⟨e,f0,f1,f2,d⟩
theorem Inv.unpinned {pins pl:List (Addr×Obj)} {σ:St} {H:Hp} {s:Shared} (I:Inv X (pins++pl) σ H s):Inv X pins σ H s:=I.pins_of fun p hp=>I.pin p (List.mem_append_right _ (List.mem_append_left _ hp))
theorem ps_for {iter:Expr} {body:List Stmt} {wi:TI} {g:TG} {tb:TS} {pos:Pos} (hp:PassesOwn (model X.prog X.w) X.A X.env X.xe) (hc:X.calm=true) (hi:PI X tg iter wi) (hg:PG X tg g) (hb:PSs X body tb)
  (hs:∀ x,foldedSetIterable iter X.env x=pure x:=by intro _;rfl):PS X (.For tg iter body [] pos) (tFor wi g tb):=by
 intro pins s σ H D I h
 refine wpAny_For (thn (hi pins s σ H _ I h) fun v s1 h1=>thn h1 fun itv s2 h2=>?_) hs
 obtain ⟨it,fp,tn,J,H2,e,I2,T,st2,f2,W,⟨m0,w0⟩,turn⟩:=h2
 subst e
 have stat:∀ {H':Hp},(∀ b∈fp,H' b=none)->∀ b∈fp,FpOk X pins H' b:=fun hn b hb=>⟨hn b hb,(f2 b hb).2⟩
 refine codeAny_forLoop_any (fun n s'=>∃ i σ' H',Inv X pins σ' H' s'/\tn i s'.heap/\(∀ b∈fp,H' b=none)/\W i n σ' H') ?_ m0 ⟨0,σ,H2,I2,st2,fun b hb=>(f2 b hb).1,w0⟩
 rintro n s3 ⟨i,σ3,H3,I3,st3,fr3,w3⟩
 rcases turn i n σ3 H3 w3 with ⟨stop,qn⟩ | ⟨go,N,hN,step⟩
 ·refine wpAny_passesOwn hp (thn (T.done X rfl rfl rfl hc i pins s3 σ3 H3 X.xe I3 (stat fr3) st3 stop) fun r s4 ⟨hr,I4⟩=>?_)
  subst hr
  exact wpAny_execs_nil ⟨σ3,H3,I4,qn⟩
 ·refine wpAny_passesOwn hp (thn (T.item X rfl rfl rfl hc i pins s3 σ3 H3 X.xe I3 (stat fr3) st3 go) fun r s4 ⟨u,hr,h4⟩=>?_)
  subst hr
  refine wpAny_passesOwn hp (thn h4 fun _ s5 ⟨x,H5,I5,r5,y5,st5,fr5⟩=>?_)
  have I5':=I5.pinned (stat fr5) (T.obj _ _ st5)
  refine wpAny_passesOwn hp (thn (hg _ s5 σ3 H5 x u _ I5' r5 (step x H5 y5)) fun _ s6 ⟨σ6,H6,I6,q6⟩=>?_)
  refine wpAny_passesOwn hp (thn (hb _ s6 σ6 H6 _ I6 q6) fun f s7 q7=>?_)
  have again:∀ {σ7:St} {H7:Hp},Inv X (pins++pinsAt fp s5.heap) σ7 H7 s7->N σ7 H7->∃ m,m < n/\∃ i σ' H',Inv X pins σ' H' s7/\tn i s7.heap/\(∀ b∈fp,H' b=none)/\W i m σ' H':=fun {σ7 H7} I7 n7=>by
   obtain ⟨m',hm,w7⟩:=hN σ7 H7 n7
   refine ⟨m',hm,i+1,σ7,H7,I7.unpinned,T.keep _ _ _ st5 fun b hb o e=>(I7.pin (b,o) (List.mem_append_right _ (List.mem_append_right _ (mem_pinsAt hb e)))).1,fun b hb=>?_,w7⟩
   obtain ⟨o,e,d⟩:=T.obj _ _ st5 b hb
   exact (I7.pin (b,o) (List.mem_append_right _ (List.mem_append_right _ (mem_pinsAt hb e)))).2.1
  cases f with
  | next=>obtain ⟨σ7,H7,I7,n7⟩:=q7;exact again I7 n7
  | cont=>obtain ⟨σ7,H7,I7,n7⟩:=q7;exact again I7 n7
  | brk=>obtain ⟨σ7,H7,I7,q7⟩:=q7;exact ⟨σ7,H7,I7.unpinned,q7⟩
  | ret v=>obtain ⟨x7,σ7,H7,I7,r7,q7⟩:=q7;exact ⟨x7,σ7,H7,I7.unpinned,r7,q7⟩
end
end L2
namespace L2
open PySem PySem.Spec PyProof.Rows
abbrev R2:=V->V->Hp->VK->Prop
def OpR (X:Cx) (f:Value->Value->Sem Value) (r:R2):Prop:=
 ∀ (pins:List (Addr×Obj)) (s:Shared) (σ:St) (H:Hp) (x y:V) (v u:Value) (Q:VK),Inv X pins σ H s->RelV x v->RelV y u->r x y H Q->
  wpAny (model X.prog X.w) X.A (f v u) (EP X pins σ Q) X.xe s
def UnR (X:Cx) (f:Value->Sem Value) (r:V->Hp->VK->Prop):Prop:=
 ∀ (pins:List (Addr×Obj)) (s:Shared) (σ:St) (H:Hp) (x:V) (v:Value) (Q:VK),Inv X pins σ H s->RelV x v->r x H Q->
  wpAny (model X.prog X.w) X.A (f v) (EP X pins σ Q) X.xe s
def CallR (X:Cx) (f:Value) (r:List V->Hp->VK->Prop):Prop:=
 ∀ (pins:List (Addr×Obj)) (s:Shared) (σ:St) (H:Hp) (xs:List V) (us:List Value) (Q:VK),Inv X pins σ H s->Vals xs us->r xs H Q->
  wpAny (model X.prog X.w) X.A (call f us) (EP X pins σ Q) X.xe s
def TruR (X:Cx) (r:V->Hp->(Bool->Hp->Prop)->Prop):Prop:=
 ∀ (pins:List (Addr×Obj)) (s:Shared) (σ:St) (H:Hp) (x:V) (v:Value) (Q:Bool->Hp->Prop),Inv X pins σ H s->RelV x v->r x H Q->
  wpAny (model X.prog X.w) X.A (truthy v) (TP X pins σ Q) X.xe s
def tOp (r:R2) (ta tb:TE):TE:=fun σ H Q=>ta σ H fun x H1=>tb σ H1 fun y H2=>r x y H2 Q
def tUn (r:V->Hp->VK->Prop) (ta:TE):TE:=fun σ H Q=>ta σ H fun x H1=>r x H1 Q
def rI (C:Int->Int->Prop) (g:Int->Int->V):R2:=fun x y H Q=>∃ i j,x=.int i/\y=.int j/\C i j/\Q (g i j) H
def rI0 (g:Int->Int->V):R2:=fun x y H Q=>∃ i j,x=.int i/\y=.int j/\Q (g i j) H
def rU (g:Int->V):V->Hp->VK->Prop:=fun x H Q=>∃ i,x=.int i/\Q (g i) H
section
variable {X:Cx} {a b c:Expr} {ta tb tc:TE} {pos:Pos}
theorem binT (ha:PE X a ta) (hb:PE X b tb) {pins:List (Addr×Obj)} {s:Shared} {σ:St} {H:Hp} {R:V->V->Hp->Prop} (I:Inv X pins σ H s)
  (h:ta σ H fun x H1=>tb σ H1 fun y H2=>R x y H2) {Q:Value->Shared->Prop} {f:Value->Value->Sem Value}
  (hf:∀ v u s2 x y H2,Inv X pins σ H2 s2->RelV x v->RelV y u->R x y H2->wpAny (model X.prog X.w) X.A (f v u) Q X.xe s2):
  wpAny (model X.prog X.w) X.A (eval a X.env) (fun v s₁=>wpAny (model X.prog X.w) X.A (eval b X.env) (fun u s₂=>wpAny (model X.prog X.w) X.A (f v u) Q X.xe s₂) X.xe s₁) X.xe s:=by
 refine thn (ha pins s σ H _ I h) fun v s1 ⟨x,H1,I1,r1,q1⟩=>?_
 refine thn (hb pins s1 σ H1 _ I1 q1) fun u s2 ⟨y,H2,I2,r2,q2⟩=>?_
 exact hf v u s2 x y H2 I2 r1 r2 q2
theorem pe_op {op:Operator} {r:R2} (ho:OpR X (binaryOp op) r) (ha:PE X a ta) (hb:PE X b tb):PE X (.BinOp a op b pos) (tOp r ta tb):=by
 intro pins s σ H Q I h
 exact wpAny_BinOp (binT ha hb I h fun v u s2 x y H2 I2 rx ry q=>ho pins s2 σ H2 x y v u Q I2 rx ry q)
theorem pe_un {op:UnaryOp} {r:V->Hp->VK->Prop} (ho:UnR X (unaryOp op) r) (ha:PE X a ta):PE X (.UnaryOp op a pos) (tUn r ta):=by
 intro pins s σ H Q I h
 exact UnaryOp_ (thn (ha pins s σ H _ I h) fun v s1 ⟨x,H1,I1,r1,q1⟩=>ho pins s1 σ H1 x v Q I1 r1 q1)
theorem opI {f:Value->Value->Sem Value} {C:Int->Int->Prop} {g:Int->Int->Int}
  (rule:∀ (i j:Int) (t u:Tok) (s:Shared) (Q:Value->Shared->Prop) (E:Value->Shared->Prop),C i j->Q (.int (g i j) s.toks) { s with toks:=s.toks+1 }->wpAny (model X.prog X.w) X.A (f (.int i t) (.int j u)) Q E s):
  OpR X f (rI C fun i j=>.int (g i j)):=by
 intro pins s σ H x y v u Q I rx ry h
 obtain ⟨i,j,rfl,rfl,hc,q⟩:=h
 obtain ⟨t,rfl⟩:=rx
 obtain ⟨t',rfl⟩:=ry
 exact rule i j t t' s _ _ hc ⟨.int (g i j),H,I.tok _,⟨_,rfl⟩,q⟩
theorem opI0 {f:Value->Value->Sem Value} {g:Int->Int->Int}
  (rule:∀ (i j:Int) (t u:Tok) (s:Shared) (Q:Value->Shared->Prop) (E:Value->Shared->Prop),Q (.int (g i j) s.toks) { s with toks:=s.toks+1 }->wpAny (model X.prog X.w) X.A (f (.int i t) (.int j u)) Q E s):
  OpR X f (rI0 fun i j=>.int (g i j)):=by
 intro pins s σ H x y v u Q I rx ry h
 obtain ⟨i,j,rfl,rfl,q⟩:=h
 obtain ⟨t,rfl⟩:=rx
 obtain ⟨t',rfl⟩:=ry
 exact rule i j t t' s _ _ ⟨.int (g i j),H,I.tok _,⟨_,rfl⟩,q⟩
theorem opB0 {f:Value->Value->Sem Value} {g:Int->Int->Bool}
  (rule:∀ (i j:Int) (t u:Tok) (s:Shared) (Q:Value->Shared->Prop) (E:Value->Shared->Prop),Q (.bool (g i j)) s->wpAny (model X.prog X.w) X.A (f (.int i t) (.int j u)) Q E s):
  OpR X f (rI0 fun i j=>.bl (g i j)):=by
 intro pins s σ H x y v u Q I rx ry h
 obtain ⟨i,j,rfl,rfl,q⟩:=h
 obtain ⟨t,rfl⟩:=rx
 obtain ⟨t',rfl⟩:=ry
 exact rule i j t t' s _ _ ⟨.bl (g i j),H,I,rfl,q⟩
def CPow (i j:Int):Prop:=0<=j/\j<=1000000/\i.natAbs < 2 ^ 64
def CMul (i j:Int):Prop:=(-(2 ^ 64) < i/\i < 2 ^ 64)\/(-(2 ^ 64) < j/\j < 2 ^ 64)
theorem CMul.ok {i j:Int} (h:CMul i j):IntMulOk i j:=by
 rcases h with ⟨h1,h2⟩ | ⟨h1,h2⟩
 ·exact .of_left (intBits_le_64 h1 h2)
 ·exact .of_right (intBits_le_64 h1 h2)
theorem op_add:OpR X (binaryOp .Add) (rI0 fun i j=>.int (i+j)):=opI0 fun _ _ _ _ _ _ _ q=>add_int q
theorem op_sub:OpR X (binaryOp .Sub) (rI0 fun i j=>.int (i - j)):=opI0 fun _ _ _ _ _ _ _ q=>sub_int q
theorem op_mod:OpR X (binaryOp .Mod) (rI (fun _ j=>0 < j) fun i j=>.int (i % j)):=opI fun i j _ _ _ _ _ hc q=>by
 have h1:(0:Int) < j:=hc
 exact mod_int' (by omega) (by rw [Int.fmod_eq_emod_of_nonneg i (by omega)];exact q)
theorem op_pow:OpR X (binaryOp .Pow) (rI CPow fun i j=>.int (i ^ j.toNat)):=opI fun _ _ _ _ _ _ _ hc q=>pow_int_small hc.1 hc.2.1 hc.2.2 q
theorem unI {f:Value->Sem Value} {g:Int->Int}
  (rule:∀ (i:Int) (t:Tok) (s:Shared) (Q:Value->Shared->Prop) (E:Value->Shared->Prop),Q (.int (g i) s.toks) { s with toks:=s.toks+1 }->wpAny (model X.prog X.w) X.A (f (.int i t)) Q E s):
  UnR X f (rU fun i=>.int (g i)):=by
 intro pins s σ H x v Q I rx h
 obtain ⟨i,rfl,q⟩:=h
 obtain ⟨t,rfl⟩:=rx
 exact rule i t s _ _ ⟨.int (g i),H,I.tok _,⟨_,rfl⟩,q⟩
theorem un_neg:UnR X (unaryOp .USub) (rU fun i=>.int (-i)):=unI fun _ _ _ _ _ q=>neg_int q
end
def scal:V->V->Bool
 | .non,.non=>true | .non,.int _=>true | .int _,.non=>true | .non,.bl _=>true | .bl _,.non=>true | .non,.str _=>true | .str _,.non=>true
 | .int _,.int _=>true | .bl _,.bl _=>true | .str _,.str _=>true | .byt _,.byt _=>true
 | .int _,.str _=>true | .str _,.int _=>true | .bl _,.str _=>true | .str _,.bl _=>true
 | _,_=>false
section
variable {X:Cx} {a b c:Expr} {ta tb tc:TE} {pos:Pos}
theorem fin_bl {pins:List (Addr×Obj)} {σ:St} {H:Hp} {s:Shared} {Q:VK} {k k':Bool} (I:Inv X pins σ H s) (q:Q (.bl k) H) (e:k=k'):EP X pins σ Q (.bool k') s:=by
 subst e
 exact ⟨.bl k,H,I,rfl,q⟩
theorem op_lt:OpR X (compareOp .Lt) (rI0 fun i j=>.bl (decide (i < j))):=opB0 fun _ _ _ _ _ _ _ q=>lt_int q
theorem op_le:OpR X (compareOp .LtE) (rI0 fun i j=>.bl (decide (i<=j))):=opB0 fun _ _ _ _ _ _ _ q=>le_int q
theorem op_gt:OpR X (compareOp .Gt) (rI0 fun i j=>.bl (decide (j < i))):=opB0 fun _ _ _ _ _ _ _ q=>gt_int q
theorem op_ge:OpR X (compareOp .GtE) (rI0 fun i j=>.bl (decide (j<=i))):=opB0 fun _ _ _ _ _ _ _ q=>ge_int q
theorem op_lt_str:OpR X (compareOp .Lt) (fun x y H Q=>∃ i j,x=.str i/\y=.str j/\Q (.bl (decide (i.cps.toList < j.cps.toList))) H):=by
 intro pins s σ H x y v u Q I rx ry h
 obtain ⟨i,j,rfl,rfl,q⟩:=h
 obtain ⟨t,rfl⟩:=rx
 obtain ⟨t',rfl⟩:=ry
 exact lt_str (fin_bl I q rfl)
theorem OpR.or {f:Value->Value->Sem Value} {r r':R2} (h:OpR X f r) (h':OpR X f r'):OpR X f (fun x y H Q=>r x y H Q\/r' x y H Q):=by
 intro pins s σ H x y v u Q I rx ry q
 rcases q with q | q
 ·exact h pins s σ H x y v u Q I rx ry q
 ·exact h' pins s σ H x y v u Q I rx ry q
theorem nomark (b:Expr) {op:CmpOp} (h:op≠.In:=by decide) (h2:op≠.NotIn:=by decide):behindInMarks op b=false:=by
 have e1:(op == CmpOp.In)=false:=by cases op <;> first | rfl | exact absurd rfl h
 have e2:(op == CmpOp.NotIn)=false:=by cases op <;> first | rfl | exact absurd rfl h2
 cases b <;> simp [behindInMarks,e1,e2]
theorem pe_cmpR {op:CmpOp} {r:R2} (ho:OpR X (compareOp op) r) (ha:PE X a ta) (hb:PE X b tb) (hm:behindInMarks op b=false):PE X (.Compare a [op] [b] pos) (tOp r ta tb):=by
 intro pins s σ H Q I h
 exact wpAny_Compare1 (binT ha hb I h fun v u s2 x y H2 I2 rx ry q=>ho pins s2 σ H2 x y v u Q I2 rx ry q) hm
def tTest (t:TE):TT:=fun σ H Q=>t σ H fun x H'=>∃ k,x=.bl k/\Q k H'
theorem pt_cmpR {op:CmpOp} {r:R2} (ho:OpR X (compareOp op) r) (ha:PE X a ta) (hb:PE X b tb) (hm:behindInMarks op b=false):PT X (.Compare a [op] [b] pos) (tTest (tOp r ta tb)):=by
 intro pins s σ H Q I h
 refine wpAny_isTrue_Compare1 (thn (ha pins s σ H _ I h) fun v s1 ⟨x,H1,I1,r1,q1⟩=>thn (hb pins s1 σ H1 _ I1 q1) fun u s2 ⟨y,H2,I2,r2,q2⟩=>
  thn (ho pins s2 σ H2 x y v u _ I2 r1 r2 q2) fun c s3 ⟨z,H3,I3,r3,k,e,q3⟩=>?_) hm
 subst e
 cases r3
 exact wpAny_truthy_bool ⟨H3,I3,q3⟩
def tChain (r r':R2) (ta tb tc:TE):TE:=fun σ H Q=>ta σ H fun x H1=>tb σ H1 fun y H2=>r x y H2 fun z H3=>∃ k,z=.bl k/\
 (if k=true then tc σ H3 fun w' H4=>r' y w' H4 Q else Q (.bl false) H3)
theorem pe_chain {op op':CmpOp} {r r':R2} (ho:OpR X (compareOp op) r) (ho':OpR X (compareOp op') r') (ha:PE X a ta) (hb:PE X b tb) (hc:PE X c tc)
  (hm:lastMarks [op,op'] [b,c]=false:=by with_unfolding_all rfl):PE X (.Compare a [op,op'] [b,c] pos) (tChain r r' ta tb tc):=by
 intro pins s σ H Q I h
 refine Compare_chain (thn (ha pins s σ H _ I h) fun v s1 ⟨x,H1,I1,r1,q1⟩=>chain_link (thn (hb pins s1 σ H1 _ I1 q1) fun u s2 ⟨y,H2,I2,r2,q2⟩=>
  thn (ho pins s2 σ H2 x y v u _ I2 r1 r2 q2) fun d s3 ⟨z,H3,I3,r3,k,e,q3⟩=>?_)) hm
 subst e
 cases r3
 refine wpAny_truthy_bool ?_
 cases k with
 | false=>exact ite_ff ⟨.bl false,H3,I3,rfl,q3⟩
 | true=>exact ite_tt (chain_last (thn (hc pins s3 σ H3 _ I3 q3) fun w' s4 ⟨z',H4,I4,r4,q4⟩=>ho' pins s4 σ H4 y z' u w' Q I4 r2 r4 q4))
theorem pt_chain {op op':CmpOp} {r r':R2} (ho:OpR X (compareOp op) r) (ho':OpR X (compareOp op') r') (ha:PE X a ta) (hb:PE X b tb) (hc:PE X c tc)
  (hm:lastMarks [op,op'] [b,c]=false:=by with_unfolding_all rfl):PT X (.Compare a [op,op'] [b,c] pos) (tTest (tChain r r' ta tb tc)):=by
 intro pins s σ H Q I h
 refine isTrue_chain (thn (ha pins s σ H _ I h) fun v s1 ⟨x,H1,I1,r1,q1⟩=>test_link (thn (hb pins s1 σ H1 _ I1 q1) fun u s2 ⟨y,H2,I2,r2,q2⟩=>
  thn (ho pins s2 σ H2 x y v u _ I2 r1 r2 q2) fun d s3 ⟨z,H3,I3,r3,k,e,q3⟩=>?_)) hm
 subst e
 cases r3
 refine wpAny_truthy_bool ?_
 cases k with
 | false=>
  obtain ⟨k',e',q'⟩:=q3
  cases e'
  exact ite_ff ⟨H3,I3,q'⟩
 | true=>
  refine ite_tt (test_last (thn (hc pins s3 σ H3 _ I3 q3) fun w' s4 ⟨z',H4,I4,r4,q4⟩=>thn (ho' pins s4 σ H4 y z' u w' _ I4 r2 r4 q4) fun d' s5 ⟨z2,H5,I5,r5,k2,e2,q5⟩=>?_))
  subst e2
  cases r5
  exact wpAny_truthy_bool ⟨H5,I5,q5⟩
def TruV (K:Frag) (x:V) (H:Hp) (k:Bool):Prop:=
 match x with
 | .non=>k=false
 | .bl b=>k=b
 | .int i=>k=(i != 0)
 | .str y=>y.length<=sizeLine/\k=((y.length:Int) != 0)
 | .byt y=>y.size<=sizeLine/\k=((y.size:Int) != 0)
 | .ref p=>(∃ xs,SqL K H p xs/\k=!xs.isEmpty)\/(∃ xs,SqT K H p xs/\k=!xs.isEmpty)\/∃ kvs,H p=some (.dK kvs)/\k=!kvs.isEmpty
 | _=>False
theorem isEmpty_kv {κ:Type} {kvs:List (κ×V)} {vs:List (κ×Value)} (r:KV kvs vs):(!vs.isEmpty)=!kvs.isEmpty:=by
 cases r <;> rfl
theorem isEmpty_of {xs:List V} {its:List Value} (r:Vals xs its):(!its.toArray.isEmpty)=!xs.isEmpty:=by
 cases r <;> simp
theorem line63:(sizeLine:Nat) < 2 ^ 63:=by rw [sizeLine_eq];decide
theorem tru_ok:TruR X (fun x H Q=>∃ k,TruV X.K x H k/\Q k H):=by
 intro pins s σ H x v Q I rx h
 obtain ⟨k,e,q⟩:=h
 have hl:=line63
 have hs:sizeLine=16777216:=sizeLine_eq
 cases x with
 | non=>
  cases rx
  have e':k=false:=e
  subst e'
  exact truthy_none ⟨H,I,q⟩
 | bl b=>
  cases rx
  have e':k=b:=e
  subst e'
  exact wpAny_truthy_bool ⟨H,I,q⟩
 | int i=>
  obtain ⟨t,rfl⟩:=rx
  have e':k=(i != 0):=e
  subst e'
  exact PySem.P.truthy_int ⟨H,I,q⟩
 | str y=>
  obtain ⟨t,rfl⟩:=rx
  obtain ⟨hy,e'⟩:y.length<=sizeLine/\k=((y.length:Int) != 0):=e
  subst e'
  exact PySem.P.truthy_str (by omega) ⟨H,I.tok _,q⟩
 | byt y=>
  obtain ⟨t,rfl⟩:=rx
  obtain ⟨hy,e'⟩:y.size<=sizeLine/\k=((y.size:Int) != 0):=e
  subst e'
  exact PySem.W.truthy_bytes (by omega) ⟨H,I.tok _,q⟩
 | ref p=>
  cases rx
  have e':(∃ xs,SqL X.K H p xs/\k=!xs.isEmpty)\/(∃ xs,SqT X.K H p xs/\k=!xs.isEmpty)\/∃ kvs,H p=some (.dK kvs)/\k=!kvs.isEmpty:=e
  rcases e' with ⟨xs,hx,e'⟩ | ⟨xs,hx,e'⟩ | ⟨kvs,hx,e'⟩
  ·subst e'
   obtain ⟨its,r,pl,hz⟩:=I.list hx
   have hlen:=r.length
   exact wpAny_truthy_list pl.isList (by simp only [List.size_toArray];omega) ⟨H,I.tok _,by rw [isEmpty_of r];exact q⟩
  ·subst e'
   obtain ⟨its,r,pl,hz⟩:=I.tuple hx
   have hlen:=r.length
   exact truthy_tuple pl (by simp only [List.size_toArray];omega) ⟨H,I.tok _,by rw [isEmpty_of r];exact q⟩
  ·subst e'
   obtain ⟨hz,hS,vs,r,m⟩:kvs.length<=sizeLine/\(p == sysModules)=false/\∃ vs,KV kvs vs/\s.heap.DictOf (mixKind X.prog X.w) p vs:=I.hok p _ hx
   have hlen:kvs.length=vs.length:=Paired.length r
   exact wpAny_truthy_dict hS m (by omega) ⟨H,I.tok _,by rw [isEmpty_kv r];exact q⟩
 | _=>exact (show False from e).elim
theorem pt_truth (ha:PE X a ta) (he:∀ whole,isTrue a X.env whole=(do let v ← whole;standAt a.pos;holding [v] (truthy v))):
  PT X a (fun σ H Q=>ta σ H fun x H'=>∃ k,TruV X.K x H' k/\Q k H'):=by
 intro pins s σ H Q I h
 exact isTrue_plain (thn (ha pins s σ H _ I h) fun v s1 ⟨x,H1,I1,r1,q1⟩=>tru_ok pins s1 σ H1 x v Q I1 r1 q1) (he _)
theorem op_add_str:OpR X (binaryOp .Add) (fun x y H Q=>∃ i j,x=.str i/\y=.str j/\i.length+j.length<=sizeLine/\Q (.str (i++j)) H):=by
 intro pins s σ H x y v u Q I rx ry h
 obtain ⟨i,j,rfl,rfl,hz,q⟩:=h
 obtain ⟨t,rfl⟩:=rx
 obtain ⟨t',rfl⟩:=ry
 exact add_str (fun t' tk=>⟨.str (i++j),H,I.tok _,⟨_,rfl⟩,q⟩) hz
theorem vals1 {x:V} {us:List Value} (r:Vals [x] us):∃ u,us=[u]/\RelV x u:=by
 cases r with
 | cons r1 r2=>cases r2;exact ⟨_,rfl,r1⟩
theorem vals2 {x y:V} {us:List Value} (r:Vals [x,y] us):∃ u w',us=[u,w']/\RelV x u/\RelV y w':=by
 cases r with
 | cons r1 r2=>
  cases r2 with
  | cons r3 r4=>cases r4;exact ⟨_,_,rfl,r1,r3⟩
theorem call_abs:CallR X (.builtin "abs") (fun xs H Q=>∃ i,xs=[.int i]/\Q (.int (if i < 0 then -i else i)) H):=by
 intro pins s σ H xs us Q I r h
 obtain ⟨i,rfl,q⟩:=h
 obtain ⟨u,rfl,t,rfl⟩:=vals1 r
 exact call_abs_int fun u tk=>⟨.int (if i < 0 then -i else i),H,I.tok _,⟨_,rfl⟩,q⟩
theorem call_int1:CallR X (.type "int") (fun xs H Q=>(∃ i,xs=[.int i]/\Q (.int i) H)\/∃ k,xs=[.bl k]/\Q (.int (if k then 1 else 0)) H):=by
 intro pins s σ H xs us Q I r h
 rcases h with ⟨i,rfl,q⟩ | ⟨k,rfl,q⟩
 ·obtain ⟨u,rfl,t,rfl⟩:=vals1 r
  exact call_int_int ⟨.int i,H,I,⟨_,rfl⟩,q⟩
 ·obtain ⟨u,rfl,r1⟩:=vals1 r
  cases r1
  exact call_int_bool ⟨.int (if k then 1 else 0),H,I.tok _,⟨_,rfl⟩,q⟩
theorem call_str_int:CallR X (.type "str") (fun xs H Q=>∃ i,xs=[.int i]/\i.natAbs.log2 < 1920/\Q (.str (toString i)) H):=by
 intro pins s σ H xs us Q I r h
 obtain ⟨i,rfl,hz,q⟩:=h
 obtain ⟨u,rfl,t,rfl⟩:=vals1 r
 exact PySem.P.str_of_int hz ⟨.str _,H,I.tok _,⟨_,rfl⟩,q⟩
def LenV (K:Frag) (x:V) (H:Hp) (n:Nat):Prop:=
 match x with
 | .str y=>y.length<=sizeLine/\n=y.length
 | .byt y=>y.size<=sizeLine/\n=y.size
 | .ref p=>(∃ xs,SqL K H p xs/\n=xs.length)\/∃ xs,SqT K H p xs/\n=xs.length
 | _=>False
theorem call_len:CallR X (.builtin "len") (fun xs H Q=>∃ x n,xs=[x]/\LenV X.K x H n/\Q (.int n) H):=by
 intro pins s σ H xs us Q I r h
 obtain ⟨x,n,rfl,e,q⟩:=h
 obtain ⟨u,rfl,rx⟩:=vals1 r
 have hl:=line63
 have hs:sizeLine=16777216:=sizeLine_eq
 cases x with
 | str y=>
  obtain ⟨t,rfl⟩:=rx
  obtain ⟨hy,e'⟩:y.length<=sizeLine/\n=y.length:=e
  subst e'
  exact len_str (by omega) ⟨.int _,H,I.tok _,⟨_,rfl⟩,q⟩
 | byt y=>
  obtain ⟨t,rfl⟩:=rx
  obtain ⟨hy,e'⟩:y.size<=sizeLine/\n=y.size:=e
  subst e'
  exact PySem.W.len_bytes (by omega) ⟨.int _,H,I.tok _,⟨_,rfl⟩,q⟩
 | ref p=>
  cases rx
  have e':(∃ xs,SqL X.K H p xs/\n=xs.length)\/∃ xs,SqT X.K H p xs/\n=xs.length:=e
  rcases e' with ⟨xs,hx,e'⟩ | ⟨xs,hx,e'⟩
  ·subst e'
   obtain ⟨its,r',pl,hz⟩:=I.list hx
   have hlen:=r'.length
   exact Calls.call_len_list pl.isList (by simp only [List.size_toArray];omega) ⟨.int xs.length,H,I.tok _,⟨_,by simp only [List.size_toArray];rw [hlen]⟩,q⟩
  ·subst e'
   obtain ⟨its,r',pl,hz⟩:=I.tuple hx
   have hlen:=r'.length
   exact len_tuple pl (by simp only [List.size_toArray];omega) ⟨.int xs.length,H,I.tok _,⟨_,by simp only [List.size_toArray];rw [hlen]⟩,q⟩
 | _=>exact (show False from e).elim
end
end L2
namespace L2
open PySem PySem.Spec PyProof.Rows
structure ObjM (h:Heap) (x dx C:Addr) (mA:Str->Option Value):Prop where
 obj:h.get? x=some (instObj C dx)
 ns:h.Ns1 dx mA
 ne:dx≠x
theorem lookIn_ns {h:Heap} {dx:Addr} {mA:Str->Option Value} (n:h.Ns1 dx mA):∃ od,h.get? dx=some od/\∀ name,lookIn name od=some (mA name):=by
 obtain ⟨o,es,ep,ho,hd,hk,_,hm⟩:=n
 refine ⟨o,ho,fun name=>?_⟩
 have e:=hm name
 unfold nsFind findBy at e
 rw [← Array.find?_toList] at e
 unfold lookIn
 rw [hd]
 dsimp only
 split
 ·rename_i y q
  rw [q] at e
  exact congrArg some e
 ·rename_i q
  rw [q] at e
  have a:es.toList.any (·.refKey)=false:=by
   rw [List.any_eq_false]
   intro y hy
   obtain ⟨z,t,hkey⟩:=hk y (Array.mem_toList_iff.mp hy)
   simp [DictEntry.refKey,hkey]
  have a':¬ es.toList.any (·.refKey)=true:=by rw [a];exact Bool.false_ne_true
  rw [if_neg a']
  exact congrArg some e
theorem ObjM.look {h:Heap} {x dx C:Addr} {mA:Str->Option Value} (I:ObjM h x dx C mA):∃ od,PySem.W.InstAt h x (instObj C dx) C (some od)/\∀ name,lookIn name od=some (mA name):=
 let ⟨od,ho,hl⟩:=lookIn_ns I.ns
 ⟨od,⟨I.obj,rfl,rfl,ho⟩,hl⟩
section
variable {prog:Program} {w:World} {A:Around} {E:Value->Shared->Prop} {s:Shared} {K:Frag} {x dx C f:Addr} {mA:Str->Option Value} {name:Str} {v:Value}
theorem get_map {expr:Bool} {Q:Value->Shared->Prop} (X:K.In s.heap) (I:ObjM s.heap x dx C mA) (hg:plainGet K C name=true) (hh:hasDictIn K C=true)
  (ha:findIn K (.ref C) name=some none) (hv:mA name=some v) (hv':handedIn v=true) (h:Q v { s with toks:=s.toks+1 }):
  wpAny (model prog w) A (getAttr (.ref x) name expr) Q E s:=by
 obtain ⟨od,J,hl⟩:=I.look
 exact PySem.W.get_value X J (plainGet_of hg).1 (PySem.W.findObj_own hh ha rfl (by rw [hl,hv])) hv' h
theorem get_meth {pl:Sem Bool} {Q:Value×List Value->Shared->Prop} (X:K.In s.heap) (I:ObjM s.heap x dx C mA) (hg:plainGet K C name=true)
  (hf:findIn K (.ref C) name=some (some (.ref f))) (ht:isFn K (.ref f)=true) (hv:mA name=none) (h:Q (.ref f,[.ref x]) s):
  wpAny (model prog w) A (getMethod (.ref x) name pl) Q E s:=by
 obtain ⟨od,J,hl⟩:=I.look
 exact PySem.W.method_fn X J (plainGet_of hg).1 (plainGet_of hg).2 hf (beq_iff_eq.mp ht) (by show (lookIn name od).map (·.isSome)=some false;rw [hl,hv];rfl) h
theorem set_map {ns:List Str} {Q:Unit->Shared->Prop} (X:K.In s.heap) (I:ObjM s.heap x dx C mA)
  (hs:findIn K (.ref C) "__setattr__"=some (some (.builtin "object.__setattr__"))) (hp:plainOver K C=true) (ht:takerIn K C name=some none) (hh:hasDictIn K C=true)
  (hw:PySem.Within mA ns) (hsz:ns.length<=sizeLine)
  (h:∀ h',ObjM h' x dx C (fun y=>if y=name then some v else mA y)->Heap.SameBut dx s.heap h'->Q () { s with heap:=h',toks:=s.toks+2 }):
  wpAny (model prog w) A (setAttr (.ref x) name v) Q E s:=by
 obtain ⟨od,J,hl⟩:=I.look
 refine PySem.W.set_plain X J hs (PySem.W.osa_open (s:={ s with toks:=s.toks+1 }) (r:=none) X J hp ht fun b=>?_)
 obtain ⟨cd,hc,hd'⟩:=PySem.W.any_some hh
 have hx:s.heap.get? x=some ⟨.ref C,some dx,.plain,#[]⟩:=I.obj
 refine wpAny_bind (wpAny_pure (wpAny_bind (wpAny_bind (wpAny_loadPart hx (wpAny_bind (Looks.here (s:={ s with toks:=s.toks+1 }) (PySem.W.looks_clsIn X hc) ?_))))))
 rw [hd']
 refine wpAny_pure (a:=some dx) (wpAny_bind (wpAny_pure (wpAny_bind ?_)))
 refine wpAny_nsSet1 (s:={ s with toks:=s.toks+1 }) I.ns fun h' hn2 hs2=>?_
 obtain ⟨oD,esD,epD,hoD,hdD,hcD⟩:=hn2.count (PySem.Within.cons name v hw)
 refine wpAny_bind (wpAny_lookBehind hoD (by rw [hdD];exact pastItsLine_dict (Nat.le_trans hcD (by rw [List.length_cons];omega))) ?_)
 exact wpAny_pure (h _ ⟨(hs2.2 _ (Ne.symm I.ne)).trans I.obj,hn2,I.ne⟩ hs2)
theorem make_map {R:Result->Shared->Prop} {vs:List Value} {kw:List (Str×Value)} (X:K.In s.heap) (hm:makesIn K C=true)
  (hi:findIn K (.ref C) "__init__"=some (some (.ref f))) (hf:PySem.W.typeIn K (.ref f)=some (.type "function"))
  (h:codeAny (model prog w) (A.under (.builtin "type.__call__" ⟨.ref C::vs,kw⟩)) (.call (.ref f) ⟨.ref (s.heap.objs.size+1)::vs,kw⟩) (PySem.W.InitBack (s.heap.objs.size+1) R)
   { s with heap:=(s.heap.push emptyDict).push (instObj C s.heap.objs.size) }):
  codeAny (model prog w) A (.call (.ref C) ⟨vs,kw⟩) R s:=by
 obtain ⟨hh,g,d,t,os⟩:=s
 exact PySem.W.make_core (PySem.W.makes_of X hm) (PySem.W.looks_findIn X hi) (fun self=>PySem.W.bind_fn X self hf) (.inl rfl) h
end
def putF (f:Str) (v:V):List (Str×V)->List (Str×V)
 | []=>[(f,v)]
 | (g,x)::r=>if g=f then (g,v)::r else (g,x)::putF f v r
theorem lookup_putF (f g:Str) (v:V):∀ fs:List (Str×V),(putF f v fs).lookup g=if g=f then some v else fs.lookup g
 | []=>by
  show List.lookup g [(f,v)]=_
  by_cases h:g=f
  ·have hb:(g == f)=true:=beq_iff_eq.mpr h
   simp only [List.lookup,hb,if_pos h]
  ·have hb:(g == f)=false:=beq_eq_false_iff_ne.mpr h
   simp only [List.lookup,hb,if_neg h]
 | (k,x)::r=>by
  have ih:=lookup_putF f g v r
  rw [show putF f v ((k,x)::r)=(if k=f then (k,v)::r else (k,x)::putF f v r) from rfl]
  by_cases hk:k=f
  ·rw [if_pos hk]
   by_cases h:g=k
   ·have hb:(g == k)=true:=beq_iff_eq.mpr h
    simp only [List.lookup,hb,if_pos (h.trans hk)]
   ·have hb:(g == k)=false:=beq_eq_false_iff_ne.mpr h
    simp only [List.lookup,hb,if_neg (fun e:g=f=>h (e.trans hk.symm))]
  ·rw [if_neg hk]
   by_cases h:g=k
   ·have hb:(g == k)=true:=beq_iff_eq.mpr h
    simp only [List.lookup,hb,if_neg (fun e:g=f=>hk (h.symm.trans e))]
   ·have hb:(g == k)=false:=beq_eq_false_iff_ne.mpr h
    simp only [List.lookup,hb]
    exact ih
theorem keys_putF (f:Str) (v:V):∀ fs:List (Str×V),f∈(putF f v fs).map (·.1)/\∀ g,g∈fs.map (·.1)->g∈(putF f v fs).map (·.1)
 | []=>⟨by simp [putF],fun g h=>by simp at h⟩
 | (k,x)::r=>by
  obtain ⟨i1,i2⟩:=keys_putF f v r
  rw [show putF f v ((k,x)::r)=(if k=f then (k,v)::r else (k,x)::putF f v r) from rfl]
  by_cases hk:k=f
  ·rw [if_pos hk]
   subst hk
   exact ⟨by simp,fun g h=>by simpa using h⟩
  ·rw [if_neg hk]
   refine ⟨?_,fun g h=>?_⟩
   ·rw [List.map_cons]
    exact List.mem_cons_of_mem _ i1
   ·rw [List.map_cons] at h ⊢
    rcases List.mem_cons.mp h with e | e
    ·exact List.mem_cons.mpr (.inl e)
    ·exact List.mem_cons_of_mem _ (i2 g e)
theorem length_putF (f:Str) (v:V):∀ fs:List (Str×V),(putF f v fs).length<=fs.length+1
 | []=>by simp [putF]
 | (k,x)::r=>by
  have ih:=length_putF f v r
  rw [show putF f v ((k,x)::r)=(if k=f then (k,v)::r else (k,x)::putF f v r) from rfl]
  by_cases hk:k=f
  ·rw [if_pos hk,List.length_cons,List.length_cons];omega
  ·rw [if_neg hk,List.length_cons,List.length_cons];omega
theorem RelO.some_of {v:V} {o:Option Value} (r:RelO (some v) o):∃ u,o=some u/\RelV v u:=by
 cases o with
 | none=>exact (show False from r).elim
 | some u=>exact ⟨u,rfl,r⟩
theorem RelO.none_of {o:Option Value} (r:RelO none o):o=none:=by
 cases o with
 | none=>rfl
 | some u=>exact (show False from r).elim
theorem handed_of {v:V} {u:Value} (r:RelV v u):handedIn u=true:=by
 cases v with
 | non=>cases (show u=Value.none from r);rfl
 | bl b=>cases (show u=Value.bool b from r);rfl
 | int i=>obtain ⟨t,e⟩:=(show ∃ t,u=Value.int i t from r);cases e;rfl
 | str x=>obtain ⟨t,e⟩:=(show ∃ t,u=Value.str x t from r);cases e;rfl
 | byt b=>obtain ⟨t,e⟩:=(show ∃ t,u=Value.bytes b t from r);cases e;rfl
 | flt b=>obtain ⟨t,e⟩:=(show ∃ t,u=Value.float b t from r);cases e;rfl
 | ref a=>cases (show u=Value.ref a from r);rfl
 | ty n=>cases (show u=Value.type n from r);rfl
section
variable {P:Program} {w:World} {H H':Hp} {h h':Heap} {a C dx:Addr} {fs fs':List (Str×V)}
theorem ins_get (hok:HOk P w H h) (e:H a=some (.ins C dx fs)):∃ mA,ObjM h a dx C mA/\(∀ f,RelO (fs.lookup f) (mA f))/\PySem.Within mA (fs.map (·.1))/\fs.length<=1000/\H dx=some (.own a):=by
 obtain ⟨d,z,ne,ob,mA,n,r,q⟩:=(show ObjOk P w H h a (.ins C dx fs) from hok a _ e)
 exact ⟨mA,⟨ob,n,ne⟩,r,q,z,d⟩
end
structure Cls (K:Frag) (C:Addr):Prop where
 pg:plainGet K C Str.empty=true
 hd:hasDictIn K C=true
 po:plainOver K C=true
 sa:findIn K (.ref C) "__setattr__"=some (some (.builtin "object.__setattr__"))
theorem Cls.get {K:Frag} {C:Addr} (c:Cls K C) (f:Str):plainGet K C f=true:=c.pg
def NoAttr (K:Frag) (C:Addr) (f:Str):Prop:=findIn K (.ref C) f=some none
theorem NoAttr.taker {K:Frag} {C:Addr} {f:Str} (n:NoAttr K C f):takerIn K C f=some none:=by
 unfold takerIn
 rw [show findIn K (.ref C) f=some none from n]
 rfl
structure Meth (K:Frag) (C:Addr) (m:Str) (f:Addr):Prop where
 at_:findIn K (.ref C) m=some (some (.ref f))
 fn:isFn K (.ref f)=true
 kp:keepIn K (.ref f)=true
section
variable {X:Cx} {pins:List (Addr×Obj)} {σ:St} {H:Hp} {s:Shared} {a C dx:Addr} {fs:List (Str×V)} {f:Str} {v:V} {A:Around} {E:Value->Shared->Prop}
theorem getattr_ok {b:Bool} {Q:Value->Shared->Prop} (I:Inv X pins σ H s) (e:H a=some (.ins C dx fs)) (c:Cls X.K C) (n:NoAttr X.K C f) (l:fs.lookup f=some v)
  (h:∀ u s',Inv X pins σ H s'->RelV v u->Q u s'):wpAny (model X.prog X.w) A (getAttr (.ref a) f b) Q E s:=by
 obtain ⟨mA,O,r,_,_,_⟩:=ins_get I.hok e
 obtain ⟨u,hu,ru⟩:=RelO.some_of (v:=v) (o:=mA f) (by rw [← l];exact r f)
 exact get_map I.kIn O (c.get f) c.hd n hu (handed_of ru) (h u _ (I.tok _) ru)
theorem getmeth_ok {m:Str} {g:Addr} {pl:Sem Bool} {Q:Value×List Value->Shared->Prop} (I:Inv X pins σ H s) (e:H a=some (.ins C dx fs)) (c:Cls X.K C) (k:Meth X.K C m g) (l:fs.lookup m=none)
  (h:Q (.ref g,[.ref a]) s):wpAny (model X.prog X.w) A (getMethod (.ref a) m pl) Q E s:=by
 obtain ⟨mA,O,r,_,_,_⟩:=ins_get I.hok e
 have hn:mA m=none:=RelO.none_of (by rw [← l];exact r m)
 exact get_meth I.kIn O (c.get m) k.at_ k.fn hn h
theorem setattr_ok {y:V} {u:Value} {Q:Unit->Shared->Prop} (I:Inv X pins σ H s) (e:H a=some (.ins C dx fs)) (c:Cls X.K C) (n:NoAttr X.K C f) (hl:fs.length < 1000) (ry:RelV y u)
  (h:∀ s',Inv X pins σ (upd H a (.ins C dx (putF f y fs))) s'->Q () s'):wpAny (model X.prog X.w) A (setAttr (.ref a) f u) Q E s:=by
 obtain ⟨mA,O,r,wi,_,ho⟩:=ins_get I.hok e
 have hz:(fs.map (·.1)).length<=sizeLine:=by rw [List.length_map,sizeLine_eq];omega
 refine set_map I.kIn O c.sa c.po n.taker c.hd wi hz fun h' O' sb=>h _ ?_
 have hd:∃ o,h'.get? dx=some o:=let ⟨o,_,_,e',_⟩:=O'.ns;⟨o,e'⟩
 refine I.write (x:=a) (e:=dx) (by rw [e];exact True.intro) (.inr ho) (fun b q hb z=>(sb.2 b hb).trans z) hd ?_
 refine ⟨by rw [upd_ne O.ne];exact ho,?_,O.ne,O'.obj,_,O'.ns,fun g=>?_,fun g hg=>?_⟩
 ·have:=length_putF f y fs;omega
 ·show RelO ((putF f y fs).lookup g) (if g=f then some u else mA g)
  rw [lookup_putF]
  by_cases q:g=f
  ·rw [if_pos q,if_pos q];exact ry
  ·rw [if_neg q,if_neg q];exact r g
 ·by_cases q:g=f
  ·rw [q];exact (keys_putF f y fs).1
  ·refine (keys_putF f y fs).2 g (wi g fun z=>hg ?_)
   show (if g=f then some u else mA g)=none
   rw [if_neg q];exact z
theorem Inv.made (I:Inv X pins σ H s):Inv X pins σ (upd (upd H s.heap.objs.size (.own (s.heap.objs.size+1))) (s.heap.objs.size+1) (.ins C s.heap.objs.size []))
  { s with heap:=(s.heap.push emptyDict).push (instObj C s.heap.objs.size) }:=by
 have e1:(s.heap.push emptyDict).get? s.heap.objs.size=some emptyDict:=Heap.get?_push_size s.heap rfl
 have e2:((s.heap.push emptyDict).push (instObj C s.heap.objs.size)).get? (s.heap.objs.size+1)=some (instObj C s.heap.objs.size):=by
  have:=Heap.get?_push_size (s.heap.push emptyDict) (o:=instObj C s.heap.objs.size) rfl
  rwa [Heap.size_push] at this
 have e3:(s.heap.push emptyDict).Ns s.heap.objs.size (fun _=>none):=⟨emptyDict,#[],_,e1,rfl,(fun e he=>absurd he (by simp)),fun _=>rfl⟩
 have I1:=I.laid (a:=s.heap.objs.size) (o:=.own (s.heap.objs.size+1)) (h':=s.heap.push emptyDict) (t':=s.toks) (fun b u q=>Heap.get?_push_of_some _ q) (Nat.le_refl _) ⟨_,e1⟩
 refine I1.laid (a:=s.heap.objs.size+1) (o:=.ins C s.heap.objs.size []) (t':=s.toks) (fun b u q=>Heap.get?_push_of_some _ q) (Nat.le_of_eq (Heap.size_push _ _)) ?_
 have ne:s.heap.objs.size≠s.heap.objs.size+1:=Nat.ne_of_lt (Nat.lt_succ_self _)
 refine ⟨by rw [upd_ne ne,upd_same],Nat.zero_le _,ne,e2,fun _=>none,(Heap.Ns1.of_empty e3).at fun o q=>Heap.get?_push_of_some _ q,fun _=>True.intro,fun y hy=>absurd rfl hy⟩
theorem attr_of {prog:Program} {w:World} {env:Env} {e:Expr} {f:Str} {pos:Pos} {s:Shared} {Q:Value->Shared->Prop} (hb:attributeBase e f env (eval e env)=eval e env)
  (h:wpAny (model prog w) A (eval e env) (fun o s₁=>wpAny (model prog w) A (getAttr o f true) Q E s₁) E s):wpAny (model prog w) A (eval (.Attribute e f pos) env) Q E s:=
 Attribute_any_ h (by rw [arm_eval_Attribute,hb])
end
def tFld (K:Frag) (ta:TE) (f:Str):TE:=fun σ H Q=>ta σ H fun x H1=>∃ a C dx fs v,x=.ref a/\H1 a=some (.ins C dx fs)/\Cls K C/\NoAttr K C f/\fs.lookup f=some v/\Q v H1
def sFld (K:Frag) (ta tv:TE) (f:Str):TS:=fun D σ H=>tv σ H fun y H1=>ta σ H1 fun x H2=>∃ a C dx fs,x=.ref a/\H2 a=some (.ins C dx fs)/\Cls K C/\NoAttr K C f/\fs.length < 1000/\
 D.nx σ (upd H2 a (.ins C dx (putF f y fs)))
def InOp (X:Cx) (op:Operator) (rd:V->V->Hp->VK->Prop):Prop:=
 ∀ (pins:List (Addr×Obj)) (s:Shared) (σ:St) (H:Hp) (x y:V) (u v:Value) (Q:VK),Inv X pins σ H s->RelV x u->RelV y v->rd x y H Q->wpAny (model X.prog X.w) X.A (inplaceOp op u v) (EP X pins σ Q) X.xe s
def sFldAug (K:Frag) (ta tv:TE) (rd:V->V->Hp->VK->Prop) (f:Str):TS:=fun D σ H=>ta σ H fun x H1=>∃ a C dx fs v,x=.ref a/\H1 a=some (.ins C dx fs)/\Cls K C/\NoAttr K C f/\fs.lookup f=some v/\
 tv σ H1 fun y H2=>rd v y H2 fun z H3=>∃ dx' fs',H3 a=some (.ins C dx' fs')/\fs'.length < 1000/\D.nx σ (upd H3 a (.ins C dx' (putF f z fs')))
section
variable {X:Cx} {o e value:Expr} {f:Str} {pos pos' tpos:Pos} {ta tv:TE}
theorem pe_fld (he:PE X e ta) (hb:attributeBase e f X.env (eval e X.env)=eval e X.env):PE X (.Attribute e f pos) (tFld X.K ta f):=by
 intro pins s σ H Q I h
 refine attr_of hb (thn (he pins s σ H _ I h) fun u s1 ⟨x,H1,I1,rx,a,C,dx,fs,v,ex,ea,c,n,l,q⟩=>?_)
 subst ex
 obtain rfl:u=Value.ref a:=rx
 exact getattr_ok I1 ea c n l fun u' s2 I2 ru=>⟨v,H1,I2,ru,q⟩
theorem ps_fld (ha:PE X o ta) (hv:PE X value tv) (hs:swapsWith value (some (.Attribute o f pos')) pos.line X.env=pure false):PS X (.Assign [.Attribute o f pos'] value pos) (sFld X.K ta tv f):=by
 intro pins s σ H D I h
 refine plainObj_wpAny_Assign_Attribute (thn (hv pins s σ H _ I h) fun u s1 ⟨y,H1,I1,ry,q⟩=>thn (ha pins s1 σ H1 _ I1 q) fun ov s2 ⟨x,H2,I2,rx,a,C,dx,fs,ex,ea,c,n,l,q2⟩=>?_) hs
 subst ex
 obtain rfl:ov=Value.ref a:=rx
 exact setattr_ok I2 ea c n l ry fun s3 I3=>⟨σ,_,I3,q2⟩
theorem ps_fldaug {op:Operator} {rd:V->V->Hp->VK->Prop} (ha:PE X o ta) (hv:PE X value tv) (hop:InOp X op rd):PS X (.AugAssign (.Attribute o f tpos) op value pos) (sFldAug X.K ta tv rd f):=by
 intro pins s σ H D I h
 refine wpAny_AugAssign_AttributeAny (thn (ha pins s σ H _ I h) fun ov s1 ⟨x,H1,I1,rx,a,C,dx,fs,v,ex,ea,c,n,l,q⟩=>?_)
 subst ex
 obtain rfl:ov=Value.ref a:=rx
 refine getattr_ok I1 ea c n l fun u s2 I2 ru=>thn (hv pins s2 σ H1 _ I2 q) fun w3 s3 ⟨y,H2,I3,ry,q3⟩=>thn (hop pins s3 σ H2 v y u w3 _ I3 ru ry q3) fun w4 s4 ⟨z,H3,I4,rz,dx',fs',ea',l',q4⟩=>?_
 exact setattr_ok I4 ea' c n l' rz fun s5 I5=>⟨σ,_,I5,q4⟩
def rAdd:V->V->Hp->VK->Prop:=fun x y H Q=>∃ i j,x=.int i/\y=.int j/\Q (.int (i+j)) H
theorem in_add:InOp X .Add rAdd:=by
 rintro pins s σ H x y u v Q I rx ry ⟨i,j,rfl,rfl,q⟩
 obtain ⟨t,rfl⟩:=(show ∃ t,u=Value.int i t from rx)
 obtain ⟨t',rfl⟩:=(show ∃ t',v=Value.int j t' from ry)
 exact PyProof.Rows.iadd_int ⟨.int (i+j),H,I.tok _,⟨_,rfl⟩,q⟩
end
section
variable {X:Cx} {pins:List (Addr×Obj)} {σ:St} {H:Hp} {s:Shared} {A:Around} {E:Value->Shared->Prop} {Q:Value->Shared->Prop} {c:Value} {b:Bool}
inductive TyOf (K:Frag) (H:Hp):V->Value->Prop where
 | non:TyOf K H .non (.type "NoneType")
 | bl (x:Bool):TyOf K H (.bl x) (.type "bool")
 | int (i:Int):TyOf K H (.int i) (.type "int")
 | str (x:Str):TyOf K H (.str x) (.type "str")
 | flt (x:UInt64):TyOf K H (.flt x) (.type "float")
 | lst {a:Addr} {xs:List V} (e:H a=some (.lst xs)):TyOf K H (.ref a) (.type "list")
 | frz {a:Addr} {o:Obj} {xs:List V} (e:H a=some (.frz o (.lst xs))):TyOf K H (.ref a) (.type "list")
 | tup {a:Addr} {xs:List V} (e:H a=some (.tup xs)):TyOf K H (.ref a) (.type "tuple")
 | dK {a:Addr} {kvs:List (Key×V)} (e:H a=some (.dK kvs)):TyOf K H (.ref a) (.type "dict")
 | dT {a:Addr} {kvs:List (List Key×V)} (e:H a=some (.dT kvs)):TyOf K H (.ref a) (.type "dict")
 | ins {a C dx:Addr} {fs:List (Str×V)} (e:H a=some (.ins C dx fs)) (cl:Cls K C) (ha:findIn K (.ref C) "__class__"=some (some (.builtin "object.__class__")))
   (hn:specialIn K (.builtin "object.__class__") "__get__"=some (some (.builtin "getset_descriptor.__get__"))) (htk:takesIn K (.builtin "object.__class__")=some true)
   (hm:mroIn K C (.type "object")=some true):TyOf K H (.ref a) (.ref C)
theorem isinst_ok {x:V} {u t:Value} (I:Inv X pins σ H s) (rx:RelV x u) (ty:TyOf X.K H x t) (e:kitOne X.K t c=some b) (h:∀ tk,Q (.bool b) { s with toks:=tk }):
  wpAny (model X.prog X.w) A (call (.builtin "isinstance") [u,c]) Q E s:=by
 cases ty with
 | non=>cases (show u=Value.none from rx);exact kia_one PySem.W.kitx_none I.kIn True.intro e (fun z=>nomatch z) h
 | bl y=>cases (show u=Value.bool y from rx);exact kia_one PySem.W.kitx_bool I.kIn True.intro e (fun z=>nomatch z) h
 | int i=>obtain ⟨t,q⟩:=(show ∃ t,u=Value.int i t from rx);cases q;exact kia_one PySem.W.kitx_int I.kIn True.intro e (fun z=>nomatch z) h
 | str y=>obtain ⟨t,q⟩:=(show ∃ t,u=Value.str y t from rx);cases q;exact kia_one PySem.W.kitx_str I.kIn True.intro e (fun z=>nomatch z) h
 | flt y=>obtain ⟨t,q⟩:=(show ∃ t,u=Value.float y t from rx);cases q;exact kia_one PySem.W.kitx_float I.kIn True.intro e (fun z=>nomatch z) h
 | @lst a xs ea=>
  cases (show u=Value.ref a from rx)
  obtain ⟨_,_,n,_,h1⟩:=(show ObjOk X.prog X.w H s.heap a (.lst xs) from I.hok a _ ea)
  exact kia_one kitx_list I.kIn ⟨_,h1,rfl⟩ e (fun z=>nomatch z) h
 | @frz a ob xs ea=>
  cases (show u=Value.ref a from rx)
  obtain ⟨_,_,_,n,_,h1⟩:=(show ObjOk X.prog X.w H s.heap a (.frz ob (.lst xs)) from I.hok a _ ea)
  exact kia_one kitx_list I.kIn ⟨_,h1,rfl⟩ e (fun z=>nomatch z) h
 | @tup a xs ea=>
  cases (show u=Value.ref a from rx)
  obtain ⟨_,_,_,p⟩:=(show ObjOk X.prog X.w H s.heap a (.tup xs) from I.hok a _ ea)
  obtain ⟨o,h1,h2,_⟩:=p
  exact kia_one PySem.W.kitx_tuple I.kIn ⟨o,h1,h2⟩ e (fun z=>nomatch z) h
 | @dK a kvs ea=>
  cases (show u=Value.ref a from rx)
  obtain ⟨_,_,vs,_,p⟩:=(show ObjOk X.prog X.w H s.heap a (.dK kvs) from I.hok a _ ea)
  obtain ⟨o,es,ep,h1,h2,_⟩:=p
  exact kia_one kitx_dict I.kIn ⟨o,h1,h2.1⟩ e (fun z=>nomatch z) h
 | @dT a kvs ea=>
  cases (show u=Value.ref a from rx)
  obtain ⟨_,_,xs,_,o,es,ep,h1,h2,_⟩:=(show ObjOk X.prog X.w H s.heap a (.dT kvs) from I.hok a _ ea)
  exact kia_one kitx_dict I.kIn ⟨o,h1,h2.1⟩ e (fun z=>nomatch z) h
 | @ins a C dx fs ea cl ha hn htk hm=>
  cases (show u=Value.ref a from rx)
  obtain ⟨mA,O,_⟩:=ins_get I.hok ea
  obtain ⟨od,J,_⟩:=O.look
  exact kia_one (kitx_own (cl.get _) cl.hd ha hn htk hm) I.kIn J e (fun z=>nomatch z) h
end
end L2
namespace L2
open PySem PySem.Spec PyProof.Rows
structure Room (k:Nat) (A:Around):Prop where
 hd:A.handled=none
 dp:A.depth+3 * k+5 < recursionLimit
 un:A.units+16 * k+200 < cLine
theorem Room.mono {j k:Nat} {A:Around} (r:Room k A) (h:j<=k):Room j A:=⟨r.hd,by have:=r.dp;omega,by have:=r.un;omega⟩
theorem Room.deeper {k:Nat} {A:Around} (r:Room (k+1) A) (env:Env):Room k (A.deeper env):=
 ⟨r.hd,by have:=r.dp;show A.depth+1+3 * k+5 < _;omega,by have:=r.un;show A.units+3+16 * k+200 < _;omega⟩
theorem make_depth {A:Around} {C:Addr} {us:List Value} {kw:List (Str×Value)}:(A.under (.builtin "type.__call__" ⟨.ref C::us,kw⟩)).depth=A.depth+1:=by
 first | rfl | simp [Around.under,Code.weight,Code.isCreation,Code.isGuard,Code.isCaller,Code.frames,Code.isFrame,guardIds]
theorem make_units {A:Around} {C:Addr} {us:List Value} {kw:List (Str×Value)}:(A.under (.builtin "type.__call__" ⟨.ref C::us,kw⟩)).units=A.units+1:=by
 first | rfl | simp [Around.under,Code.cUnits,Code.frames,Code.isFrame]
theorem Room.make {k:Nat} {A:Around} (r:Room (k+1) A) (C:Addr) (us:List Value) (kw:List (Str×Value)):Room k (A.under (.builtin "type.__call__" ⟨.ref C::us,kw⟩)):=
 ⟨r.hd,by have:=r.dp;rw [make_depth];omega,by have:=r.un;rw [make_units];omega⟩
theorem Room.depth {k:Nat} {A:Around} (r:Room k A):A.depth < recursionLimit:=by have:=r.dp;omega
theorem Room.units {k:Nat} {A:Around} (r:Room k A):A.units+64 < cLine:=by have:=r.un;omega
def tNil:TA:=fun _ H Q=>Q [] H
def tCons (ta:TE) (tr:TA):TA:=fun σ H Q=>ta σ H fun x H1=>tr σ H1 fun xs H2=>Q (x::xs) H2
section
variable {X:Cx} {e:Expr} {es:List Expr} {te:TE} {t:TA} {pos:Pos}
theorem pa_nil:PA X [] tNil:=fun _ _ _ _ H Q I h=>Calls.spliced_nil ⟨[],H,I,.nil,h⟩
theorem pa_cons (ha:PE X e te) (hr:PA X es t) (hs:starEach (e::es) X.env=(false,eval e X.env)::starEach es X.env:=by rfl):PA X (e::es) (tCons te t):=by
 intro pos pins s σ H Q I h
 rw [hs]
 show wpAny _ _ (spliced ((false,eval e X.env)::backTo pos (starEach es X.env))) _ _ s
 refine Calls.spliced_cons (thn (ha pins s σ H _ I h) fun u s1 ⟨x,H1,I1,r1,q1⟩=>?_)
 exact thn (hr pos pins s1 σ H1 _ I1 q1) fun us s2 ⟨xs,H2,I2,r2,q2⟩=>⟨x::xs,H2,I2,.cons r1 r2,q2⟩
def tTup (t:TA):TE:=fun σ H Q=>t σ H fun xs H1=>xs.length<=sizeLine/\∀ p,H1 p=none->Q (.ref p) (upd H1 p (.tup xs))
def tLst (t:TA):TE:=fun σ H Q=>t σ H fun xs H1=>xs.length<=sizeLine/\∀ p,H1 p=none->Q (.ref p) (upd H1 p (.lst xs))
theorem pe_tup {x1} (h:PA X es t):PE X (.Tuple es x1 pos) (tTup t):=by
 intro pins s σ H Q I hq
 refine wpAny_Tuple_spliced (thn (h pos pins s σ H _ I hq) fun us s1 ⟨xs,H1,I1,r,z,q⟩=>⟨by rw [← r.length];exact z,?_⟩)
 have hf:H1 s1.heap.objs.size=none:=I1.hok.fresh (Nat.le_refl _)
 refine ⟨.ref s1.heap.objs.size,upd H1 s1.heap.objs.size (.tup xs),I1.laid (t':=s1.toks) (fun b u e=>Heap.get?_push_of_some _ e) (Nat.le_refl _) ?_,rfl,q _ hf⟩
 exact ⟨z,us,r,⟨_,Heap.get?_push_size _ rfl,rfl,_,rfl⟩⟩
theorem pe_lst (h:PA X es t):PE X (.List es pos) (tLst t):=by
 intro pins s σ H Q I hq
 refine wpAny_List_spliced (thn (h pos pins s σ H _ I hq) fun us s1 ⟨xs,H1,I1,r,z,q⟩=>⟨by rw [← r.length];exact z,?_⟩)
 have hf:H1 s1.heap.objs.size=none:=I1.hok.fresh (Nat.le_refl _)
 refine ⟨.ref s1.heap.objs.size,upd H1 s1.heap.objs.size (.lst xs),I1.laid (t':=s1.toks) (fun b u e=>Heap.get?_push_of_some _ e) (Nat.le_refl _) ?_,rfl,q _ hf⟩
 exact ⟨z,us,0,r,Heap.get?_push_size _ rfl⟩
end
abbrev Sp:=List V->Hp->VK->XK->Prop
abbrev CXT:=List Env->Hp->Shared->XK->Value->Shared->Prop
structure Env0 (P:Program) (w:World) (K:Frag) (mg:Str->Option Value) (base:Heap) (A:Around) (outer:List Env) (s:Shared) (H:Hp):Prop where
 frames:A.frames=some outer
 mod:Mod K mg base
 bs:∀ b o,base.get? b=some o->s.heap.get? b=some o/\H b=none
 bsz:base.objs.size<=s.heap.objs.size
 funs:s.heap.FunFrames base outer
 frf:∀ b∈frs outer,H b=none
 hok:HOk P w H s.heap
 bare:AllBare s.gens
def CE (outer:List Env) (P:Program) (w:World) (H:Hp) (s:Shared) (Q:VK) (u:Value) (s':Shared):Prop:=
 ∃ v H',s'.os=s.os/\AllBare s'.gens/\Un (frs outer) [] H H' s.heap s'.heap/\HOk P w H' s'.heap/\RelV v u/\Q v H'
def CR (CX:CXT) (outer:List Env) (P:Program) (w:World) (H:Hp) (s:Shared) (Q:VK) (E:XK) (r:Result) (s':Shared):Prop:=
 match r with
 | .ok (.ret u)=>CE outer P w H s Q u s'
 | .ok _=>False
 | .error e=>CX outer H s E e s'
structure FnOk (P:Program) (w:World) (K:Frag) (mg:Str->Option Value) (base:Heap) (CX:CXT) (k:Nat) (f:Addr) (fd:FuncData) (ps:List Str) (sp:Sp):Prop where
 len:∀ vs H Q E,sp vs H Q E->vs.length=ps.length
 run:∀ (A:Around) (outer:List Env) (s:Shared) (H:Hp) (args:Args) (us:List Value) (vs:List V) (Q:VK) (E:XK),Room k A->Env0 P w K mg base A outer s H->BindsTo s fd args (ps.zip us)->Vals vs us->sp vs H Q E->
  codeAny (model P w) A (.call (.ref f) args) (CR CX outer P w H s Q E) s
theorem FnOk.mono {P:Program} {w:World} {K:Frag} {mg:Str->Option Value} {base:Heap} {CX:CXT} {j k:Nat} {f:Addr} {fd:FuncData} {ps:List Str} {sp:Sp} (F:FnOk P w K mg base CX j f fd ps sp) (h:j<=k):
  FnOk P w K mg base CX k f fd ps sp:=⟨F.len,fun A outer s H args us vs Q E hr=>F.run A outer s H args us vs Q E (hr.mono h)⟩
theorem FnOk.imp {P:Program} {w:World} {K:Frag} {mg:Str->Option Value} {base:Heap} {CX:CXT} {k:Nat} {f:Addr} {fd:FuncData} {ps:List Str} {sp sp':Sp} (F:FnOk P w K mg base CX k f fd ps sp)
  (h:∀ vs H Q E,sp' vs H Q E->sp vs H Q E):FnOk P w K mg base CX k f fd ps sp':=
 ⟨fun vs H Q E q=>F.len vs H Q E (h _ _ _ _ q),fun A outer s H args us vs Q E hr he hb hv hs=>F.run A outer s H args us vs Q E hr he hb hv (h _ _ _ _ hs)⟩
theorem Env0.make {P:Program} {w:World} {K:Frag} {mg:Str->Option Value} {base:Heap} {A:Around} {outer:List Env} {s:Shared} {H:Hp} (e:Env0 P w K mg base A outer s H) (C:Addr) (us:List Value) (kw:List (Str×Value)):
  Env0 P w K mg base (A.under (.builtin "type.__call__" ⟨.ref C::us,kw⟩)) outer s H:=⟨by first | exact e.frames | (simpa [Around.under,Code.envs,Code.isFrame,pushEnvs] using e.frames),e.mod,e.bs,e.bsz,e.funs,e.frf,e.hok,e.bare⟩
section
variable {X:Cx} {pins:List (Addr×Obj)} {σ:St} {H:Hp} {s s':Shared}
theorem Inv.env0 (I:Inv X pins σ H s):Env0 X.prog X.w X.K X.mg X.base X.A X.stack s H:=
 ⟨I.ok.frames,I.ok.mod,I.bs,Nat.le_trans I.ok.bsz I.sz,I.stack,I.stkFree,I.hok,I.bare⟩
theorem Inv.after {Q:VK} {u:Value} (I:Inv X pins σ H s) (h:CE X.stack X.prog X.w H s Q u s'):EP X pins σ Q u s':=by
 obtain ⟨v,H',os,bare,un,hok,r,q⟩:=h
 obtain ⟨hh,g,d,t,os'⟩:=s'
 obtain rfl:os'=s.os:=os
 exact ⟨v,H',I.call (h':=hh) (g':=g) (d':=d) (t':=t) (ch:=[]) un hok bare (fun b z=>absurd z (by simp)),r,q⟩
end
def tCall (sp:Sp) (dvs:List V) (E:XK) (t:TA):TE:=fun σ H Q=>t σ H fun vs H1=>sp (vs++dvs) H1 Q E
def tMeth (C:Addr) (m:Str) (sp:Sp) (dvs:List V) (E:XK) (ta:TE) (t:TA):TE:=fun σ H Q=>ta σ H fun x H1=>∃ a dx fs,x=.ref a/\H1 a=some (.ins C dx fs)/\fs.lookup m=none/\
 t σ H1 fun vs H2=>sp (x::(vs++dvs)) H2 Q E
def tMake (C:Addr) (sp:Sp) (dvs:List V) (E:XK) (t:TA):TE:=fun σ H Q=>t σ H fun vs H1=>∀ x dx,H1 x=none->H1 dx=none->dx≠x->
 sp (.ref x::(vs++dvs)) (upd (upd H1 dx (.own x)) x (.ins C dx [])) (fun v H2=>v=.non/\Q (.ref x) H2) E
def Binds (K:Frag) (fd:FuncData) (ps:List Str) (ds:List Value):Prop:=
 ∀ (s:Shared) (us:List Value),K.In s.heap->(us++ds).length=ps.length->BindsTo s fd ⟨us,[]⟩ (ps.zip (us++ds))
theorem Binds.all {K:Frag} {fd:FuncData} {ps:List Str} (h:∀ us:List Value,us.length=ps.length->bindArgs fd ⟨us,[]⟩=pure (ps.zip us)):Binds K fd ps []:=fun s us _ hl=>by
 rw [List.append_nil] at hl ⊢
 exact .of_eq (h us hl)
def Passes (CX:CXT) (X:Cx) (E:XK):Prop:=∀ (pins:List (Addr×Obj)) (σ:St) (H:Hp) (s:Shared) (e:Value) (s':Shared),Inv X pins σ H s->CX X.stack H s E e s'->X.xe e s'
section
variable {X:Cx} {CX:CXT} {k:Nat} {f C:Addr} {fd:FuncData} {ps:List Str} {sp:Sp} {dvs:List V} {ds:List Value} {E:XK} {x m:Str} {p pos apos:Pos} {e o:Expr} {es:List Expr} {ta:TE} {t:TA}
theorem run_fn {pins:List (Addr×Obj)} {σ:St} {H:Hp} {s:Shared} {Q:VK} {us:List Value} {vs:List V} (F:FnOk X.prog X.w X.K X.mg X.base CX k f fd ps sp) (hr:Room k X.A) (hb:Binds X.K fd ps ds) (hd:Vals dvs ds) (hx:Passes CX X E)
  (I:Inv X pins σ H s) (r:Vals vs us) (h:sp (vs++dvs) H Q E):wpAny (model X.prog X.w) X.A (call (.ref f) us) (EP X pins σ Q) X.xe s:=by
 have r2:Vals (vs++dvs) (us++ds):=r.append hd
 have hl:(us++ds).length=ps.length:=by rw [← r2.length];exact F.len _ _ _ _ h
 refine wpAny_call (codeAny_mono (F.run X.A X.stack s H ⟨us,[]⟩ (us++ds) (vs++dvs) Q E hr I.env0 (hb s us I.kIn hl) r2 h) fun r s' hq=>?_)
 cases r with
 | error e=>exact hx pins σ H s e s' I hq
 | ok fl=>
  cases fl with
  | ret u=>exact I.after hq
  | next=>exact False.elim hq
  | brk=>exact False.elim hq
  | cont=>exact False.elim hq
theorem pe_call (F:FnOk X.prog X.w X.K X.mg X.base CX k f fd ps sp) (hr:Room k X.A) (hg:Gl X x) (hm:X.mg x=some (.ref f)) (hk:keepIn X.K (.ref f)=true) (hb:Binds X.K fd ps ds) (hd:Vals dvs ds) (hx:Passes CX X E)
  (ha:PA X (e::es) t) (hdb:(x == ("__debug__":Str))=false:=by decide) (he:starEach (e::es) X.env=(false,eval e X.env)::starEach es X.env:=by rfl) (hpl:(backTo pos (starEach es X.env)).any (·.1)=false:=by rfl):
  PE X (.Call (.Name x p) (e::es) [] pos) (tCall sp dvs E t):=by
 intro pins s σ H Q I h
 refine wpAny_Call_Name_kw (ld_glob I hg hm ?_ hdb)
 refine callWith_K (h₀:=X.base) I.ok.mod.kin hk (thn (ha pos pins s σ H _ I h) fun us s1 ⟨vs,H1,I1,r,q⟩=>⟨I1.kIn,?_⟩) he hpl
 exact run_fn F hr hb hd hx I1 r q
theorem pe_meth {pl:Sem Bool} (he:PE X o ta) (c:Cls X.K C) (hm:Meth X.K C m f) (F:FnOk X.prog X.w X.K X.mg X.base CX k f fd ps sp) (hr:Room k X.A) (hb:Binds X.K fd ps ds) (hd:Vals dvs ds) (hx:Passes CX X E) (ha:PA X (e::es) t)
  (hst:starEach (e::es) X.env=(false,eval e X.env)::starEach es X.env:=by rfl) (hpl:(backTo pos (starEach es X.env)).any (·.1)=false:=by rfl)
  (ht:eval (.Call (.Attribute o m apos) (e::es) [] pos) X.env=(do
   let ov ← eval o X.env
   standAt apos.atName
   let (f,first) ← holding [ov] (getMethod ov m pl)
   callWith pos f first (backTo pos (starEach (e::es) X.env)) (backToKw pos (keywordEach [] X.env))):=by rfl):
  PE X (.Call (.Attribute o m apos) (e::es) [] pos) (tMeth C m sp dvs E ta t):=by
 intro pins s σ H Q I h
 refine methodCall_KW (pl:=pl) (thn (he pins s σ H _ I h) fun u s1 ⟨x,H1,I1,rx,a,dx,fs,ex,ea,l,q⟩=>?_) ht
 subst ex
 obtain rfl:u=Value.ref a:=rx
 refine getmeth_ok I1 ea c hm l ?_
 refine callWith_K (first:=[.ref a]) (h₀:=X.base) I.ok.mod.kin hm.kp (thn (ha pos pins s1 σ H1 _ I1 q) fun us s2 ⟨vs,H2,I2,r,q2⟩=>⟨I2.kIn,?_⟩) hst hpl
 exact run_fn (us:=.ref a::us) (vs:=.ref a::vs) F hr hb hd hx I2 (.cons rfl r) q2
theorem pe_meth0 {pl:Sem Bool} (he:PE X o ta) (c:Cls X.K C) (hm:Meth X.K C m f) (F:FnOk X.prog X.w X.K X.mg X.base CX k f fd ps sp) (hr:Room k X.A) (hb:Binds X.K fd ps ds) (hd:Vals dvs ds) (hx:Passes CX X E)
  (ht:eval (.Call (.Attribute o m apos) [] [] pos) X.env=(do
   let ov ← eval o X.env
   standAt apos.atName
   let (f,first) ← holding [ov] (getMethod ov m pl)
   callWith pos f first (backTo pos (starEach [] X.env)) (backToKw pos (keywordEach [] X.env))):=by rfl):
  PE X (.Call (.Attribute o m apos) [] [] pos) (tMeth C m sp dvs E ta tNil):=by
 intro pins s σ H Q I h
 refine methodCall_KW (pl:=pl) (thn (he pins s σ H _ I h) fun u s1 ⟨x,H1,I1,rx,a,dx,fs,ex,ea,l,q⟩=>?_) ht
 subst ex
 obtain rfl:u=Value.ref a:=rx
 refine getmeth_ok I1 ea c hm l ?_
 exact callWith_K0 (first:=[.ref a]) I1.kIn hm.kp (run_fn (us:=[.ref a]) (vs:=[.ref a]) F hr hb hd hx I1 (.cons rfl .nil) q)
structure Mk (K:Frag) (C f:Addr):Prop where
 makes:makesIn K C=true
 init:findIn K (.ref C) "__init__"=some (some (.ref f))
 fn:isFn K (.ref f)=true
 kp:keepIn K (.ref C)=true
theorem run_make {pins:List (Addr×Obj)} {σ:St} {H:Hp} {s:Shared} {Q:VK} {us:List Value} {vs:List V} (M:Mk X.K C f) (F:FnOk X.prog X.w X.K X.mg X.base CX k f fd ps sp) (hr:Room (k+1) X.A) (hb:Binds X.K fd ps ds) (hd:Vals dvs ds)
  (hx:Passes CX X E) (I:Inv X pins σ H s) (r:Vals vs us)
  (h:∀ x dx,H x=none->H dx=none->dx≠x->sp (.ref x::(vs++dvs)) (upd (upd H dx (.own x)) x (.ins C dx [])) (fun v H2=>v=.non/\Q (.ref x) H2) E):
  wpAny (model X.prog X.w) X.A (call (.ref C) us) (EP X pins σ Q) X.xe s:=by
 have hq:=h (s.heap.objs.size+1) s.heap.objs.size (I.hok.fresh (Nat.le_succ _)) (I.hok.fresh (Nat.le_refl _)) (Nat.ne_of_lt (Nat.lt_succ_self _))
 have I2:=Inv.made (C:=C) I
 have r2:Vals (V.ref (s.heap.objs.size+1)::(vs++dvs)) (Value.ref (s.heap.objs.size+1)::(us++ds)):=.cons rfl (r.append hd)
 have hl:(Value.ref (s.heap.objs.size+1)::us++ds).length=ps.length:=by
  have e:=r2.length
  rw [F.len _ _ _ _ hq] at e
  exact e.symm
 refine wpAny_call (make_map (f:=f) I.kIn M.makes M.init (beq_iff_eq.mp M.fn) (codeAny_mono (F.run _ X.stack _ _ ⟨Value.ref (s.heap.objs.size+1)::us,[]⟩ (Value.ref (s.heap.objs.size+1)::(us++ds)) _ _ E (hr.make C us [])
  (I2.env0.make C us []) (hb _ (Value.ref (s.heap.objs.size+1)::us) I2.kIn hl) r2 hq) fun r s' hq'=>?_))
 cases r with
 | error e=>exact hx pins σ _ _ e s' I2 hq'
 | ok fl=>
  cases fl with
  | ret u=>
   obtain ⟨v,H',I3,rv,ev,q3⟩:=I2.after hq'
   subst ev
   exact ⟨rv,⟨V.ref (s.heap.objs.size+1),H',I3,rfl,q3⟩⟩
  | next=>exact False.elim hq'
  | brk=>exact False.elim hq'
  | cont=>exact False.elim hq'
theorem pe_make (M:Mk X.K C f) (F:FnOk X.prog X.w X.K X.mg X.base CX k f fd ps sp) (hr:Room (k+1) X.A) (hg:Gl X x) (hm:X.mg x=some (.ref C)) (hb:Binds X.K fd ps ds) (hd:Vals dvs ds) (hx:Passes CX X E)
  (ha:PA X (e::es) t) (hdb:(x == ("__debug__":Str))=false:=by decide) (he:starEach (e::es) X.env=(false,eval e X.env)::starEach es X.env:=by rfl) (hpl:(backTo pos (starEach es X.env)).any (·.1)=false:=by rfl):
  PE X (.Call (.Name x p) (e::es) [] pos) (tMake C sp dvs E t):=by
 intro pins s σ H Q I h
 refine wpAny_Call_Name_kw (ld_glob I hg hm ?_ hdb)
 refine callWith_K (h₀:=X.base) I.ok.mod.kin M.kp (thn (ha pos pins s σ H _ I h) fun us s1 ⟨vs,H1,I1,r,q⟩=>⟨I1.kIn,?_⟩) he hpl
 exact run_make M F hr hb hd hx I1 r q
theorem pe_make0 (M:Mk X.K C f) (F:FnOk X.prog X.w X.K X.mg X.base CX k f fd ps sp) (hr:Room (k+1) X.A) (hg:Gl X x) (hm:X.mg x=some (.ref C)) (hb:Binds X.K fd ps ds) (hd:Vals dvs ds) (hx:Passes CX X E)
  (hdb:(x == ("__debug__":Str))=false:=by decide):PE X (.Call (.Name x p) [] [] pos) (tMake C sp dvs E tNil):=by
 intro pins s σ H Q I h
 refine wpAny_Call_Name_kw (ld_glob I hg hm ?_ hdb)
 exact callWith_K0 I.kIn M.kp (run_make (us:=[]) M F hr hb hd hx I .nil h)
end
section
variable {X:Cx} {CX:CXT} {k:Nat} {f C:Addr} {fd:FuncData} {ps ks:List Str} {sp:Sp} {E:XK} {x m:Str} {p pos apos kpos:Pos} {e o:Expr} {es:List Expr} {kws:List Keyword} {te ta:TE} {t tk:TA} {nm:Option Str}
variable {g:List Value->List Value->List Value} {gV:List V->List V->List V}
end
structure FnScope (N P:List Str) (sc:Scope):Prop where
 kind:sc.kind=.function
 co:sc.isCoroutine=false
 gen:sc.isGenerator=false
 nd:N.Nodup
 pre:N.take P.length=P
 par:∀ x∈P,sc.names.lookup x=some .local\/sc.names.lookup x=some .cell
 nofree:∀ y∈sc.names,y.2≠.free
theorem bindL_out {kindOf:Str->Option NameKind} {x:Str}:∀ {binds:List (Str×Value)} {m:Str->Option Value},(∀ v,(x,v)∉binds)->bindL kindOf binds m x=m x
 | [],_,_=>rfl
 | (n,v)::r,m,h=>by
  unfold bindL
  rw [bindL_out fun w hw=>h w (List.mem_cons_of_mem _ hw)]
  split
  ·have:x≠n:=by rintro rfl;exact h v List.mem_cons_self
   simp [this]
  ·rfl
theorem bindC_out {kindOf:Str->Option NameKind} {x:Str}:∀ {binds:List (Str×Value)} {m:Str->Option Value},(∀ v,(x,v)∉binds)->bindC kindOf binds m x=m x
 | [],_,_=>rfl
 | (n,v)::r,m,h=>by
  unfold bindC
  rw [bindC_out fun w hw=>h w (List.mem_cons_of_mem _ hw)]
  split
  ·rfl
  ·have:x≠n:=by rintro rfl;exact h v List.mem_cons_self
   simp [this]
theorem bindL_get {kindOf:Str->Option NameKind} {x:Str} {v:Value}:∀ {P:List Str} {vs:List Value} {i:Nat} {m:Str->Option Value},P.Nodup->P[i]?=some x->vs[i]?=some v->kindOf x=some .local->
  bindL kindOf (P.zip vs) m x=some v
 | [],_,_,_,_,h,_,_=>by simp at h
 | _::_,[],_,_,_,_,h,_=>by simp at h
 | p::P,w::vs,0,m,nd,h1,h2,hk=>by
  simp at h1 h2;subst h1;subst h2
  show bindL kindOf ((p,w)::P.zip vs) m p=_
  unfold bindL
  rw [bindL_out fun v hv=>(List.nodup_cons.mp nd).1 (List.of_mem_zip hv).1,if_pos hk]
  simp
 | p::P,w::vs,i+1,m,nd,h1,h2,hk=>by
  show bindL kindOf ((p,w)::P.zip vs) m x=_
  unfold bindL
  exact bindL_get (i:=i) (List.nodup_cons.mp nd).2 (by simpa using h1) (by simpa using h2) hk
theorem bindC_get {kindOf:Str->Option NameKind} {x:Str} {v:Value}:∀ {P:List Str} {vs:List Value} {i:Nat} {m:Str->Option Value},P.Nodup->P[i]?=some x->vs[i]?=some v->kindOf x≠some .local->
  bindC kindOf (P.zip vs) m x=some v
 | [],_,_,_,_,h,_,_=>by simp at h
 | _::_,[],_,_,_,_,h,_=>by simp at h
 | p::P,w::vs,0,m,nd,h1,h2,hk=>by
  simp at h1 h2;subst h1;subst h2
  show bindC kindOf ((p,w)::P.zip vs) m p=_
  unfold bindC
  rw [bindC_out fun v hv=>(List.nodup_cons.mp nd).1 (List.of_mem_zip hv).1,if_neg hk]
  simp
 | p::P,w::vs,i+1,m,nd,h1,h2,hk=>by
  show bindC kindOf ((p,w)::P.zip vs) m x=_
  unfold bindC
  exact bindC_get (i:=i) (List.nodup_cons.mp nd).2 (by simpa using h1) (by simpa using h2) hk
def start (N:List Str) (vs:List V):St:=vs.map some++List.replicate (N.length - vs.length) none
def cxOf (CX:CXT) (P:Program) (w:World) (K:Frag) (mg:Str->Option Value) (base:Heap) (N:List Str) (qual:Str) (scope:Scope) (f:Addr) (cd:Value) (A:Around) (outer:List Env) (s:Shared) (H:Hp) (E:XK):Cx where
 prog:=P
 w:=w
 K:=K
 mg:=mg
 base:=base
 A:=A.deeper (envOfC qual scope s.heap.objs.size f cd)
 N:=N
 s₀:=s
 H₀:=H
 env:=envOfC qual scope s.heap.objs.size f cd
 outer:=outer
 stack:=envOfC qual scope s.heap.objs.size f cd::outer
 ex:=[]
 calm:=true
 fn:=fun _=>true
 pn:=[]
 xe:=fun e s'=>wpAny (model P w) (A.deeper (envOfC qual scope s.heap.objs.size f cd)) (leaving (envOfC qual scope s.heap.objs.size f cd) e) (fun _ s''=>CX outer H s E e s'') (fun e' s''=>CX outer H s E e' s'') s'
theorem cell_has {sc:Scope} {n:Nat} {x:Str} (h:sc.names.lookup x=some .cell):∃ c,(cellsFrom n sc.names []).lookup x=some c:=by
 have q:=PySem.W.cellsFrom_some sc.names n [] (.inl h)
 exact Option.isSome_iff_exists.mp q
theorem inv_start {CX:CXT} {P:Program} {w:World} {K:Frag} {mg:Str->Option Value} {base:Heap} {N ps:List Str} {qual:Str} {scope:Scope} {f:Addr} {cd:Value} {A:Around} {outer:List Env} {s s1:Shared} {H:Hp} {E:XK} {us:List Value} {vs:List V}
  (S:FnScope N ps scope) (hd:A.handled=none) (e0:Env0 P w K mg base A outer s H) (hl:vs.length=ps.length) (r:Vals vs us)
  (x:InCallC s s.heap.objs.size (bindL (envOfC qual scope s.heap.objs.size f cd).kindOf (ps.zip us) fun _=>none) (cellsFrom (s.heap.objs.size+1) scope.names []) (bindC (envOfC qual scope s.heap.objs.size f cd).kindOf (ps.zip us) fun _=>none) s1):
  Inv (cxOf CX P w K mg base N qual scope f cd A outer s H E) [] (start N vs) H s1:=by
 have hpl:ps.length<=N.length:=by have:=congrArg List.length S.pre;rw [List.length_take] at this;omega
 obtain ⟨h1,tk,rfl,hk⟩:=x.done
 have noA:∀ b:Addr,b∉(cxOf CX P w K mg base N qual scope f cd A outer s H E).ex:=fun b z=>absurd (show b∈([]:List Addr) from z) (by simp)
 refine ⟨⟨e0.mod,S.kind,rfl,rfl,Nat.le_refl _,fun y z c h1 h2=>?_,fun y hy=>?_,fun y c _ h=>?_,fun _=>hd,Around.frames_deeper e0.frames,.inr ⟨rfl,rfl⟩,fun b z=>absurd z (noA b),e0.bs,e0.bsz,fun b _ _=>noA b,fun b z=>absurd z (noA b),e0.funs,e0.frf⟩,
  rfl,e0.bare,Un.kept hk,⟨_,x.toInCall.ns,fun i y v h1 h2 h3=>?_⟩,fun y c h=>⟨_,x.cell y c h⟩,e0.hok.fresh (Nat.le_refl _),fun y c h=>?_,fun p hp=>absurd (show p∈([]:List (Addr×Obj)) from hp) (by simp),e0.hok.kept hk,?_⟩
 ·exact name_of_addr x.apart (PySem.mem_of_lookup h1) (PySem.mem_of_lookup h2)
 ·have hy:scope.names.lookup y=some .cell\/scope.names.lookup y=some .free:=hy
  rcases hy with hy | hy
  ·exact cell_has hy
  ·exact absurd rfl (S.nofree _ (PySem.mem_of_lookup hy))
 ·exact Nat.le_of_lt (x.above y c (PySem.mem_of_lookup h))
 ·have hi:i < vs.length:=by
   unfold start at h2
   by_cases hi:i < vs.length
   ·exact hi
   ·rw [List.getElem?_append_right (by simpa using hi)] at h2
    rw [List.getElem?_replicate] at h2
    split at h2 <;> cases h2
  have ha:vs[i]?=some v:=by
   unfold start at h2
   rw [List.getElem?_append_left (by simpa using hi),List.getElem?_map] at h2
   cases e:vs[i]? with
   | none=>rw [e] at h2;cases h2
   | some a=>rw [e] at h2;cases h2;rfl
  obtain ⟨u,hu,rv⟩:=r.get ha
  have hp:ps[i]?=some y:=by
   rw [← S.pre,List.getElem?_take_of_lt (by omega)];exact h1
  have ndP:ps.Nodup:=by rw [← S.pre];exact S.nd.sublist (List.take_sublist _ _)
  refine ⟨u,rv,?_⟩
  rcases S.par y (List.mem_of_getElem? hp) with k | k
  ·exact .inl ⟨k,bindL_get ndP hp hu k⟩
  ·obtain ⟨c,e⟩:=cell_has (n:=s.heap.objs.size+1) k
   refine .inr ⟨.inl k,c,e,?_⟩
   have q:=x.cell y c e
   rw [bindC_get ndP hp hu (by show scope.names.lookup y≠_;rw [k];decide)] at q
   exact q
 ·exact e0.hok.fresh (Nat.le_of_lt (x.above y c (PySem.mem_of_lookup h)))
 ·unfold start
  show _=N.length
  rw [List.length_append,List.length_map,List.length_replicate]
  omega
theorem fn_of {CX:CXT} {P:Program} {w:World} {K:Frag} {mg:Str->Option Value} {base:Heap} {k:Nat} {f:Addr} {name qual:Str} {params:Arguments} {body:List Stmt} {scope:Scope} {dV kV doc pm cdv ct oc:Value} {an od:Option Addr}
  {osl:Array (Option Value)} {N ps:List Str} {sp:Sp} (lk:K.lookup f=some ⟨oc,od,.func (fnOf name qual params body scope dV kV doc pm an cdv ct),osl⟩) (hcd:codeIn K cdv qual=true) (S:FnScope N ps scope)
  (len:∀ vs H Q E,sp vs H Q E->vs.length=ps.length)
  (hbody:∀ (A:Around) (outer:List Env) (s:Shared) (H:Hp) (vs:List V) (Q:VK) (E:XK),Room k (A.deeper (envOfC qual scope s.heap.objs.size f cdv))->sp vs H Q E->
   ∃ t,PSs (cxOf CX P w K mg base N qual scope f cdv A outer s H E) body t/\t { nx:=fun _ H'=>Q .non H',rt:=Q } (start N vs) H):
  FnOk P w K mg base CX (k+1) f (fnOf name qual params body scope dV kV doc pm an cdv ct) ps sp:=by
 refine ⟨len,fun A outer s H args us vs Q E hr e0 hb r hsp=>?_⟩
 have hl:=len _ _ _ _ hsp
 have KX:K.In s.heap:=e0.mod.kin.keeps fun b o e=>(e0.bs b o e).1
 have lim:s.heap.NoLimit:=e0.mod.nolimit.keeps fun b o e=>(e0.bs b o e).1
 have hkind:∀ y∈ps.zip us,scope.names.lookup y.1=some .local\/(scope.names.lookup y.1=some .cell/\((cellsFrom (s.heap.objs.size+1) scope.names []).lookup y.1).isSome=true):=fun ⟨n,v⟩ hy=>by
  rcases S.par n (List.of_mem_zip hy).1 with q | q
  ·exact .inl q
  ·exact .inr ⟨q,PySem.W.cellsFrom_some _ _ _ (.inl q)⟩
 refine codeAny_call_function hr.depth (KX _ _ lk) rfl S.co S.gen rfl (PySem.W.codeRec_of KX hcd) (hb _ _ _ _ ?_)
 refine wpAny_newFunctionEnv_cells S.kind hkind fun env he s1 x=>?_
 subst he
 refine ⟨lim.keeps x.toInCall.keep,codeAny_func ?_⟩
 obtain ⟨t,ht,hq⟩:=hbody A outer s H vs Q E (hr.deeper _) hsp
 have I:Inv (cxOf CX P w K mg base N qual scope f cdv A outer s H E) [] (start N vs) H s1:=inv_start S hr.hd e0 hl r x
 refine wpAny_mono (ht [] s1 (start N vs) H _ I hq) (fun fl s' hs=>?_) fun e s' hs=>hs
 have fin:∀ {σ':St} {H':Hp} {v:V} {u:Value},Inv (cxOf CX P w K mg base N qual scope f cdv A outer s H E) [] σ' H' s'->RelV v u->Q v H'->CE outer P w H s Q u s':=
  fun {σ' H' v u} J rv q=>⟨v,H',J.os,J.bare,J.base,J.hok,rv,q⟩
 cases fl with
 | ret u=>
  obtain ⟨v,σ',H',J,rv,q⟩:=hs
  exact fin J rv q
 | next=>
  obtain ⟨σ',H',J,q⟩:=hs
  exact fin (v:=V.non) (u:=Value.none) J rfl q
 | brk=>
  obtain ⟨_,_,_,q⟩:=hs
  exact False.elim q
 | cont=>
  obtain ⟨_,_,_,q⟩:=hs
  exact False.elim q
end L2
namespace L2
open PySem PySem.Spec PyProof.Rows
section
variable {X:Cx} {x:Str} {p pos:Pos} {e:Expr} {es:List Expr} {t:TA} {id T:String} {r:List V->Hp->VK->Prop}
def tCB (r:List V->Hp->VK->Prop) (t:TA):TE:=fun σ H Q=>t σ H fun vs H1=>r vs H1 Q
theorem pe_callB (hc:CallR X (.builtin id) r) (hg:Gl X x) (hm:X.mg x=none) (hv:bootBuiltins x=some (.builtin id)) (ha:PA X (e::es) t) (hn:x≠"__name__":=by decide) (hdb:(x == ("__debug__":Str))=false:=by decide)
  (he:starEach (e::es) X.env=(false,eval e X.env)::starEach es X.env:=by rfl) (hpl:(backTo pos (starEach es X.env)).any (·.1)=false:=by rfl):PE X (.Call (.Name x p) (e::es) [] pos) (tCB r t):=by
 intro pins s σ H Q I h
 refine wpAny_Call_Name_kw (ld_blt I hg hm hv ?_ hn hdb)
 exact PyProof.Rows.callWith_builtin1 (thn (ha pos pins s σ H _ I h) fun us s1 ⟨vs,H1,I1,r1,q1⟩=>hc pins s1 σ H1 vs us Q I1 r1 q1) he hpl
theorem pe_callTy (hc:CallR X (.type T) r) (hg:Gl X x) (hm:X.mg x=none) (hv:bootBuiltins x=some (.type T)) (ha:PA X (e::es) t) (hn:x≠"__name__":=by decide) (hdb:(x == ("__debug__":Str))=false:=by decide)
  (he:starEach (e::es) X.env=(false,eval e X.env)::starEach es X.env:=by rfl) (hpl:(backTo pos (starEach es X.env)).any (·.1)=false:=by rfl):PE X (.Call (.Name x p) (e::es) [] pos) (tCB r t):=by
 intro pins s σ H Q I h
 refine wpAny_Call_Name_kw (ld_blt I hg hm hv ?_ hn hdb)
 exact PyProof.Rows.callWith_type1 (thn (ha pos pins s σ H _ I h) fun us s1 ⟨vs,H1,I1,r1,q1⟩=>hc pins s1 σ H1 vs us Q I1 r1 q1) he hpl
end
end L2
namespace HT
open PySem PyProof.Rows
section
open PySem.SeqAt
open PySem.AutoSeq1 (wpAny_loadPart')
open PySem.MeetsSeq PySem.MeetsSeq2 PySem.MeetsSeq3
end
section
variable {prog:Program} {w:World} {A:Around} {E:Value->Shared->Prop} {s:Shared}
theorem cat_tup {t b:Addr} {vs ws:List Value} {Q:Value->Shared->Prop} (ht:IsTup s.heap t vs.toArray) (hb:IsTup s.heap b ws.toArray) (hv:vs≠[])
  (h1:ws=[]->Q (.ref t) s) (h2:ws≠[]->Q (.ref s.heap.objs.size) { s with heap:=s.heap.push { cls:=.type "tuple",data:=.seq (vs++ws).toArray } })
  (hsz:vs.length+ws.length<=sizeLine):wpAny (model prog w) A (binaryOp .Add (.ref t) (.ref b)) Q E s:=by
 obtain ⟨⟨cls,dd,data,sl⟩,ho,hc,n,hd⟩:=id ht
 obtain ⟨⟨cls2,dd2,data2,sl2⟩,ho2,hc2,n2,hd2⟩:=id hb
 simp only at hc hd hc2 hd2
 subst hc hd hc2 hd2
 have e:vs.toArray++ws.toArray=(vs++ws).toArray:=by simp
 by_cases hw:ws=[]
 ·exact concat_meets ⟨_,ho,rfl⟩ ⟨_,ho2,rfl⟩ noFill_tuple_add seq_tuple_add PySem.F.slot_tuple_add PySem.F.entry_tuple_add (PySem.F.args_tuple_add_2 _ _)
   (tuple_addW1 t b vs.toArray ws.toArray n n2 dd dd2 sl sl2 (by simpa using hv) (by simp [hw])) ⟨ho,ho2,h1 hw⟩
 ·refine concat_meets ⟨_,ho,rfl⟩ ⟨_,ho2,rfl⟩ noFill_tuple_add seq_tuple_add PySem.F.slot_tuple_add PySem.F.entry_tuple_add (PySem.F.args_tuple_add_2 _ _)
   (tuple_addW2 t b vs.toArray ws.toArray n n2 dd dd2 sl sl2 (by simpa using hv) (by simpa using hw) (by rw [List.size_toArray,List.size_toArray];exact hsz)) ⟨ho,ho2,?_⟩
  rw [e]
  exact h2 hw
def sIx (n d:Nat):Option Int->Nat
 | none=>d
 | some v=>if v < 0 then (v+(n:Int)).toNat else min v.toNat n
theorem sIx_le (n d:Nat) (hd:d<=n) (o:Option Int):sIx n d o<=n:=by
 cases o with
 | none=>exact hd
 | some v=>
  show (if v < 0 then (v+(n:Int)).toNat else min v.toNat n)<=n
  by_cases hv:v < 0
  ·rw [if_pos hv];omega
  ·rw [if_neg hv];exact Nat.min_le_right _ _
theorem clip_eq (v:Int) (n d:Nat):(if v < 0 then max (v+(n:Int)) 0 else min v (n:Int))=((sIx n d (some v):Nat):Int):=by
 show (if v < 0 then max (v+(n:Int)) 0 else min v (n:Int))=(((if v < 0 then (v+(n:Int)).toNat else min v.toNat n):Nat):Int)
 by_cases hv:v < 0
 ·simp only [if_pos hv];omega
 ·simp only [if_neg hv];omega
theorem adjust_gen (lo hi:Option Int) (n:Nat):Builtin.Slice.sliceAdjust lo hi 1 (n:Int)=(((sIx n 0 lo:Nat):Int),((sIx n n hi:Nat):Int)):=by
 have h1:¬ ((1:Int) < 0):=by omega
 unfold Builtin.Slice.sliceAdjust
 simp only [h1,if_false]
 refine Prod.ext ?_ ?_
 ·cases lo with
  | none=>rfl
  | some v=>exact clip_eq v n 0
 ·cases hi with
  | none=>rfl
  | some v=>exact clip_eq v n n
theorem places_gen (i j:Nat):Builtin.Slice.slicePlaces (i:Int) (j:Int) 1=j - i:=by
 unfold Builtin.Slice.slicePlaces
 have h1:(1:Int) > 0:=by omega
 simp only [h1,if_true,Int.ediv_one]
 split <;> omega
theorem slicePart_ {v:Value} {o:Option Int} {Q:Option Int->Shared->Prop} (p:IsPart v o) (h:Q o s):wpAny (model prog w) A (Builtin.Slice.slicePartIndex v) Q E s:=by
 cases p with
 | none=>exact slicePart_none h
 | int i t=>exact slicePart_int h
theorem sliceApplied_gen {sl:Addr} {vl vu:Value} {lo hi:Option Int} {n:Nat} {Q:Int×Int×Nat->Shared->Prop} (hs:s.heap.IsSliceOf sl vl vu .none) (pl:IsPart vl lo) (pu:IsPart vu hi)
  (h:Q (((sIx n 0 lo:Nat):Int),1,sIx n n hi - sIx n 0 lo) s):wpAny (model prog w) A (Builtin.Slice.sliceApplied (.ref sl) (pure (n:Int))) Q E s:=by
 obtain ⟨os,hos,hcs,hds⟩:=id hs
 unfold Builtin.Slice.sliceApplied Builtin.Slice.sliceFields
 refine wpAny_bind (wpAny_bind (wpAny_field hos hds (x:=vl) rfl (wpAny_bind (wpAny_field hos hds (x:=vu) rfl (wpAny_bind (wpAny_field hos hds (x:=.none) rfl (wpAny_pure ?_)))))))
 refine wpAny_bind (slicePart_none ?_)
 show wpAny _ _ (if ((1:Int) == 0)=true then _ else _) _ _ s
 rw [if_neg (by decide)]
 refine wpAny_bind (slicePart_ pl (wpAny_bind (slicePart_ pu (wpAny_bind (wpAny_pure ?_)))))
 show wpAny _ _ (match Builtin.Slice.sliceAdjust lo hi 1 (n:Int) with | (lo,hi)=>pure (lo,(1:Int),Builtin.Slice.slicePlaces lo hi 1)) _ _ s
 rw [adjust_gen lo hi n]
 show wpAny _ _ (pure (((sIx n 0 lo:Nat):Int),(1:Int),Builtin.Slice.slicePlaces ((sIx n 0 lo:Nat):Int) ((sIx n n hi:Nat):Int) 1)) _ _ s
 rw [places_gen]
 exact wpAny_pure h
theorem pick_gen (xs:Array Value) (i k:Nat):((List.range k).filterMap fun (m:Nat)=>xs[((i:Int)+(m:Int) * 1).toNat]?).toArray=((xs.toList.drop i).take k).toArray:=by
 have e:(fun (m:Nat)=>xs[((i:Int)+(m:Int) * 1).toNat]?)=fun m=>xs[i+m]?:=by
  funext m
  have:((i:Int)+(m:Int) * 1).toNat=i+m:=by omega
  rw [this]
 rw [e]
 have:=pick_run xs i k
 rw [List.filterMap_map] at this
 have e2:((fun x=>xs[x]?) ∘ fun x=>i+x)=fun m=>xs[i+m]?:=rfl
 rw [e2] at this
 rw [this]
theorem getItem_tuple_cut {t sl:Addr} {items:Array Value} {vl vu:Value} {lo hi:Option Int} {Q:Value->Shared->Prop} (ht:IsTup s.heap t items) (hs:s.heap.IsSliceOf sl vl vu .none) (pl:IsPart vl lo) (pu:IsPart vu hi)
  (hw:¬ (sIx items.size 0 lo=0/\sIx items.size items.size hi=items.size))
  (h:Q (.ref s.heap.objs.size) { s with heap:=s.heap.push { cls:=.type "tuple",data:=.seq ((items.toList.drop (sIx items.size 0 lo)).take (sIx items.size items.size hi - sIx items.size 0 lo)).toArray } })
  (hsz:items.size<=sizeLine):wpAny (model prog w) A (getItem (.ref t) (.ref sl)) Q E s:=by
 have htake:sizeOk (.seq ((items.toList.drop (sIx items.size 0 lo)).take (sIx items.size items.size hi - sIx items.size 0 lo)).toArray):=by
  show ((items.toList.drop (sIx items.size 0 lo)).take (sIx items.size items.size hi - sIx items.size 0 lo)).toArray.size<=sizeLine
  rw [List.size_toArray,List.length_take,List.length_drop,Array.length_toList]
  omega
 have hj:sIx items.size items.size hi<=items.size:=sIx_le _ _ (Nat.le_refl _) hi
 obtain ⟨os,hos,hcs,hds⟩:=id hs
 have hTs:s.TypeIs (.ref sl) "slice":=⟨os,hos,hcs⟩
 unfold getItem
 try with_reducible refine wpAny_holding ?_
 first | refine wpAny_bind (wpAny_pure ?_) | skip
 refine wpAny_bind (wpAny_sequenceKey ht.typeIs (by decide) ?_)
 refine wpAny_bind (wpAny_callSpecial?_slot (name:=Str.ofString "__getitem__") ht.typeIs PyProof.Rows.slot_tuple_getitem
  (wpAny_call_entry PyProof.Rows.slot_tuple_getitem ht.typeIs entry_tuple_getitem ?_ (args_tuple_getitem _ _)))
 show wpAny _ _ (Builtin.Tuple.tupleItemsOf (.ref t) >>= _) _ _ s
 refine wpAny_bind (tupleItemsOf_ ht ?_)
 refine wpAny_bind (wpAny_typeOf hTs ?_)
 rw [if_pos (by decide)]
 refine wpAny_bind (sliceApplied_gen hs pl pu ?_)
 have hno:¬ ((((sIx items.size 0 lo:Nat):Int) == 0 && (1:Int) == 1 && (sIx items.size items.size hi - sIx items.size 0 lo) == items.size)=true):=by
  intro q
  rw [Bool.and_eq_true,Bool.and_eq_true] at q
  have q1:((sIx items.size 0 lo:Nat):Int)=0:=eq_of_beq q.1.1
  have q2:sIx items.size items.size hi - sIx items.size 0 lo=items.size:=eq_of_beq q.2
  exact hw ⟨by omega,by omega⟩
 show wpAny _ _ (if (((sIx items.size 0 lo:Nat):Int) == 0 && (1:Int) == 1 && (sIx items.size items.size hi - sIx items.size 0 lo) == items.size)=true then _ else _) _ _ s
 rw [if_neg hno,pick_gen]
 first
  | exact wpAny_bind (m:=Builtin.Tuple.tupleExact _) (wpAny_newObj_type (wpAny_pure ⟨_,rfl,wpAny_pure h⟩) htake)
  | exact wpAny_bind (m:=Builtin.Tuple.tupleExact _) (wpAny_newObj_type (wpAny_bind (wpAny_pure (wpAny_pure ⟨_,rfl,wpAny_pure h⟩))) htake)
  | exact wpAny_bind (wpAny_bind (m:=Builtin.Tuple.tupleExact _) (wpAny_newObj_type (wpAny_pure (wpAny_pure ⟨_,rfl,wpAny_pure h⟩)) htake))
  | exact wpAny_bind (wpAny_bind (m:=Builtin.Tuple.tupleExact _) (wpAny_newObj_type (wpAny_pure ⟨_,rfl,wpAny_pure h⟩) htake))
end
end HT
namespace L2
open PySem PySem.Spec PyProof.Rows
abbrev TO:=St->Hp->(Option Int->Hp->Prop)->Prop
def PO (X:Cx) (e:Option Expr) (t:TO):Prop:=
 ∀ (pins:List (Addr×Obj)) (s:Shared) (σ:St) (H:Hp) (Q:Option Int->Hp->Prop),Inv X pins σ H s->t σ H Q->
  wpAny (model X.prog X.w) X.A (evalPart e X.env) (fun u s'=>∃ o H',Inv X pins σ H' s'/\IsPart u o/\Q o H') X.xe s
def tNoPart:TO:=fun _ H Q=>Q none H
def tPart (t:TE):TO:=fun σ H Q=>t σ H fun x H1=>∃ i,x=.int i/\Q (some i) H1
section
variable {X:Cx} {e:Expr} {te:TE} {lo hi:Option Expr} {tl th:TO} {pos p2:Pos}
theorem po_none:PO X none tNoPart:=by
 intro pins s σ H Q I h
 rw [evalPart_none]
 exact wpAny_pure ⟨none,H,I,.none,h⟩
theorem po_some (h:PE X e te):PO X (some e) (tPart te):=by
 intro pins s σ H Q I hw
 rw [evalPart_some]
 refine thn (h pins s σ H _ I hw) fun u s1 ⟨x,H1,I1,r1,q1⟩=>?_
 obtain ⟨i,rfl,q⟩:=q1
 obtain ⟨t,rfl⟩:=r1
 exact ⟨some i,H1,I1,.int i t,q⟩
def SlR (X:Cx) (r:V->Option Int->Option Int->Hp->VK->Prop):Prop:=
 ∀ (pins:List (Addr×Obj)) (s:Shared) (σ:St) (H:Hp) (x:V) (v vl vu:Value) (lo hi:Option Int) (sl:Addr) (Q:VK),Inv X pins σ H s->RelV x v->s.heap.IsSliceOf sl vl vu .none->IsPart vl lo->IsPart vu hi->r x lo hi H Q->
  ∃ T id,typeLookup (.type T) "__getitem__"=pure (some (.builtin id))/\s.TypeIs v T/\wpAny (model X.prog X.w) X.A (getItem v (.ref sl)) (EP X pins σ Q) X.xe s
theorem SlR.or {r r':V->Option Int->Option Int->Hp->VK->Prop} (h:SlR X r) (h':SlR X r'):SlR X (fun x lo hi H Q=>r x lo hi H Q\/r' x lo hi H Q):=by
 intro pins s σ H x v vl vu lo hi sl Q I rx hs pl pu q
 rcases q with q | q
 ·exact h pins s σ H x v vl vu lo hi sl Q I rx hs pl pu q
 ·exact h' pins s σ H x v vl vu lo hi sl Q I rx hs pl pu q
def tSl (r:V->Option Int->Option Int->Hp->VK->Prop) (te:TE) (tl th:TO):TE:=fun σ H Q=>te σ H fun x H1=>tl σ H1 fun l H2=>th σ H2 fun u H3=>r x l u H3 Q
theorem pe_slice {r:V->Option Int->Option Int->Hp->VK->Prop} (hr:SlR X r) (he:PE X e te) (hl:PO X lo tl) (hu:PO X hi th):PE X (.Subscript e (.Slice lo hi none p2) pos) (tSl r te tl th):=by
 intro pins s σ H Q I h
 refine Subscript_ (thn (he pins s σ H _ I h) fun v s1 ⟨x,H1,I1,r1,q1⟩=>?_)
 refine wpAny_Slice (thn (hl pins s1 σ H1 _ I1 q1) fun vl s2 ⟨l,H2,I2,pl,q2⟩=>thn (hu pins s2 σ H2 _ I2 q2) fun vu s3 ⟨u,H3,I3,pu,q3⟩=>?_)
 rw [evalPart_none]
 refine wpAny_pure ?_
 have I4:Inv X pins σ H3 { s3 with heap:=s3.heap.push { cls:=.type "slice",data:=.fields #[vl,vu,.none] } }:=I3.kept (t':=s3.toks) fun b ob q=>Heap.get?_push_of_some _ q
 obtain ⟨T,id,hT,ht,hg⟩:=hr pins { s3 with heap:=s3.heap.push { cls:=.type "slice",data:=.fields #[vl,vu,.none] } } σ H3 x v vl vu l u s3.heap.objs.size Q I4 r1 (Heap.IsSliceOf.new ..) pl pu q3
 show wpAny (model X.prog X.w) X.A (subscriptTail e (.Slice lo hi none p2) v (.ref s3.heap.objs.size)) (EP X pins σ Q) X.xe { s3 with heap:=s3.heap.push { cls:=.type "slice",data:=.fields #[vl,vu,.none] } }
 exact tail_any (ops:=[.ref s3.heap.objs.size,v]) ht hT hg (by with_unfolding_all rfl)
def cutV (xs:List V) (lo hi:Option Int):List V:=(xs.drop (HT.sIx xs.length 0 lo)).take (HT.sIx xs.length xs.length hi - HT.sIx xs.length 0 lo)
theorem cutV_length (xs:List V) (lo hi:Option Int):(cutV xs lo hi).length<=xs.length:=by
 unfold cutV
 rw [List.length_take,List.length_drop]
 omega
def rSlT (K:Frag):V->Option Int->Option Int->Hp->VK->Prop:=fun x lo hi H Q=>∃ a xs,x=.ref a/\SqT K H a xs/\
 ¬ (HT.sIx xs.length 0 lo=0/\HT.sIx xs.length xs.length hi=xs.length)/\∀ p,H p=none->Q (.ref p) (upd H p (.tup (cutV xs lo hi)))
theorem sl_tup:SlR X (rSlT X.K):=by
 intro pins s σ H x v vl vu lo hi sl Q I rx hs pl pu h
 obtain ⟨a,xs,rfl,hx,hw,q⟩:=h
 cases rx
 obtain ⟨its,r,ht,hz⟩:=I.tuple hx
 have hlen:its.toArray.size=xs.length:=by rw [List.size_toArray];exact r.length.symm
 refine ⟨"tuple",_,PyProof.Rows.slot_tuple_getitem.lookup,ht.typeIs,?_⟩
 refine HT.getItem_tuple_cut ht hs pl pu (by rw [hlen];exact hw) ?_ (by rw [hlen];exact hz)
 rw [hlen]
 refine ⟨.ref s.heap.objs.size,_,I.laid (t':=s.toks) (o:=.tup (cutV xs lo hi)) (fun b ob q=>Heap.get?_push_of_some _ q) (Nat.le_refl _) ?_,rfl,q _ (I.hok.fresh (Nat.le_refl _))⟩
 exact ⟨Nat.le_trans (cutV_length xs lo hi) hz,_,(r.drop (HT.sIx xs.length 0 lo)).take (HT.sIx xs.length xs.length hi - HT.sIx xs.length 0 lo),IsTup.new _ _⟩
def rCatT (K:Frag):R2:=fun x y H Q=>∃ a b xs ys,x=.ref a/\y=.ref b/\SqT K H a xs/\SqT K H b ys/\xs≠[]/\xs.length+ys.length<=sizeLine/\
 (ys=[]->Q (.ref a) H)/\(ys≠[]->∀ p,H p=none->Q (.ref p) (upd H p (.tup (xs++ys))))
theorem Vals.nil_iff {xs:List V} {us:List Value} (r:Vals xs us):us=[]↔xs=[]:=by
 cases r with
 | nil=>simp
 | cons _ _=>simp
theorem op_catT:OpR X (binaryOp .Add) (rCatT X.K):=by
 intro pins s σ H x y v u Q I rx ry h
 obtain ⟨a,b,xs,ys,rfl,rfl,ha,hb,hx,hz,q1,q2⟩:=h
 cases rx
 cases ry
 obtain ⟨its,r1,p1,_⟩:=I.tuple ha
 obtain ⟨its2,r2,p2,_⟩:=I.tuple hb
 refine HT.cat_tup p1 p2 (fun z=>hx (r1.nil_iff.mp z)) (fun z=>⟨.ref a,H,I,rfl,q1 (r2.nil_iff.mp z)⟩) (fun z=>?_) (by rw [← r1.length,← r2.length];exact hz)
 refine ⟨.ref s.heap.objs.size,_,I.laid (t':=s.toks) (o:=.tup (xs++ys)) (fun b ob q=>Heap.get?_push_of_some _ q) (Nat.le_refl _) ?_,rfl,q2 (fun w=>z (r2.nil_iff.mpr w)) _ (I.hok.fresh (Nat.le_refl _))⟩
 exact ⟨by rw [List.length_append];exact hz,_,r1.append r2,IsTup.new _ _⟩
end
end L2
namespace L2
open PySem PySem.Spec PyProof.Rows
def ixN (n:Nat) (i:Int):Option Nat:=if 0<=i then (if i < n then some i.toNat else none) else if -(n:Int)<=i then some (i+n).toNat else none
def atI {α:Type} (xs:List α) (i:Int):Option α:=(ixN xs.length i).bind fun j=>xs[j]?
theorem ixN_seq {n:Nat} {i:Int} {j:Nat} (h:ixN n i=some j):seqIndex? i n=some j/\j < n/\-(n:Int)<=i/\i < n:=by
 unfold ixN at h
 by_cases h0:0<=i
 ·rw [if_pos h0] at h
  by_cases h1:i < n
  ·rw [if_pos h1] at h
   have e:i.toNat=j:=Option.some.inj h
   exact ⟨by rw [seqIndex_of h0 h1,e],by omega,by omega,h1⟩
  ·rw [if_neg h1] at h;cases h
 ·rw [if_neg h0] at h
  by_cases h1:-(n:Int)<=i
  ·rw [if_pos h1] at h
   have e:(i+n).toNat=j:=Option.some.inj h
   exact ⟨by rw [seqIndex_neg (by omega) h1,e],by omega,h1,by omega⟩
  ·rw [if_neg h1] at h;cases h
theorem atI_get {α:Type} {xs:List α} {i:Int} {v:α} (h:atI xs i=some v):∃ j,seqIndex? i xs.length=some j/\xs[j]?=some v/\j < xs.length/\-(xs.length:Int)<=i/\i < xs.length:=by
 unfold atI at h
 cases e:ixN xs.length i with
 | none=>rw [e] at h;cases h
 | some j=>
  rw [e] at h
  obtain ⟨h1,h2,h3,h4⟩:=ixN_seq e
  exact ⟨j,h1,h,h2,h3,h4⟩
def PlainIx (b:Expr):Prop:=∀ o i,subscripted b false o i=operate [o,i] (getItem o i)
def IxR (X:Cx) (r:R2):Prop:=
 ∀ (value slice:Expr) (pins:List (Addr×Obj)) (s:Shared) (σ:St) (H:Hp) (x y:V) (v u:Value) (Q:VK),Inv X pins σ H s->RelV x v->RelV y u->r x y H Q->
  subscripted slice false v u=operate [v,u] (getItem v u)->wpAny (model X.prog X.w) X.A (subscriptTail value slice v u) (EP X pins σ Q) X.xe s
def MtR (X:Cx) (id:String) (r:V->List V->Hp->VK->Prop):Prop:=
 ∀ (pins:List (Addr×Obj)) (s:Shared) (σ:St) (H:Hp) (x:V) (xs:List V) (v:Value) (us:List Value) (Q:VK),Inv X pins σ H s->RelV x v->Vals xs us->r x xs H Q->
  wpAny (model X.prog X.w) X.A (call (.builtin id) (v::us)) (EP X pins σ Q) X.xe s
section
variable {X:Cx} {a b:Expr} {ta tb:TE} {pos:Pos}
theorem IxR.or {r r':R2} (h:IxR X r) (h':IxR X r'):IxR X (fun x y H Q=>r x y H Q\/r' x y H Q):=by
 intro value slice pins s σ H x y v u Q I rx ry q hs
 rcases q with q | q
 ·exact h value slice pins s σ H x y v u Q I rx ry q hs
 ·exact h' value slice pins s σ H x y v u Q I rx ry q hs
theorem pe_ix {r:R2} (hr:IxR X r) (ha:PE X a ta) (hb:PE X b tb) (hs:PlainIx b):PE X (.Subscript a b pos) (tOp r ta tb):=by
 intro pins s σ H Q I h
 exact Subscript_ (binT ha hb I h fun v u s2 x y H2 I2 rx ry q=>hr a b pins s2 σ H2 x y v u Q I2 rx ry q (hs _ _))
def rIxL (K:Frag):R2:=fun x y H Q=>∃ p xs i v,x=.ref p/\y=.int i/\SqL K H p xs/\atI xs i=some v/\Q v H
def rIxT (K:Frag):R2:=fun x y H Q=>∃ p xs i v,x=.ref p/\y=.int i/\SqT K H p xs/\atI xs i=some v/\Q v H
def rIxS:R2:=fun x y H Q=>∃ z i c,x=.str z/\y=.int i/\z.length<=sizeLine/\atI z.cps.toList i=some c/\Q (.str ⟨#[c]⟩) H
theorem ix_list:IxR X (rIxL X.K):=by
 intro value slice pins s σ H x y v u Q I rx ry h hs
 obtain ⟨p,xs,i,z,rfl,rfl,hq,he,q⟩:=h
 cases rx
 obtain ⟨t,rfl⟩:=ry
 obtain ⟨its,r,pl,hz⟩:=I.list hq
 obtain ⟨j,h1,h2,h3,h4,h5⟩:=atI_get he
 obtain ⟨w,ew,rw'⟩:=r.get h2
 have hl:=r.length
 have hn:=line63
 have fin:EP X pins σ Q w s:=⟨z,H,I,rw',q⟩
 by_cases h0:0<=i
 ·have hj:i.toNat=j:=by
   rw [seqIndex_of h0 h5] at h1
   exact Option.some.inj h1
  exact item_listR pl.isList h0 (by omega) (by rw [hj];simpa using ew) fin hs
 ·have hj:(i+(its.toArray.size:Int)).toNat=j:=by
   rw [seqIndex_neg (by omega) h4] at h1
   rw [List.size_toArray,← hl]
   exact Option.some.inj h1
  exact subscriptTail_builtinR (x:=w) pl.isList.typeIs slot_list_getitem.lookup
   (wpAny_getItem_list_neg (Q:=fun r s'=>r=w/\EP X pins σ Q r s') pl.isList (by omega) (by rw [List.size_toArray] <;> omega) (by omega) (by rw [hj];simpa using ew) ⟨rfl,fin⟩) hs
theorem ix_tup:IxR X (rIxT X.K):=by
 intro value slice pins s σ H x y v u Q I rx ry h hs
 obtain ⟨p,xs,i,z,rfl,rfl,hq,he,q⟩:=h
 cases rx
 obtain ⟨t,rfl⟩:=ry
 obtain ⟨its,r,pl,hz⟩:=I.tuple hq
 obtain ⟨j,h1,h2,h3,h4,h5⟩:=atI_get he
 obtain ⟨w,ew,rw'⟩:=r.get h2
 have hl:=r.length
 have hn:=line63
 have fin:EP X pins σ Q w s:=⟨z,H,I,rw',q⟩
 exact subscriptTail_builtinR (x:=w) pl.typeIs slot_tuple_getitem.lookup
  (getItem_tuple (j:=j) (Q:=fun r s'=>r=w/\EP X pins σ Q r s') pl (by omega) (by omega) (by rw [List.size_toArray,← hl];exact h1) (by simpa using ew) ⟨rfl,fin⟩) hs
theorem ix_str:IxR X rIxS:=by
 intro value slice pins s σ H x y v u Q I rx ry h hs
 obtain ⟨z,i,c,rfl,rfl,hz,he,q⟩:=h
 obtain ⟨t,rfl⟩:=rx
 obtain ⟨t',rfl⟩:=ry
 obtain ⟨j,h1,h2,h3,h4,h5⟩:=atI_get he
 have hl:z.cps.toList.length=z.length:=by simp [Str.length]
 rw [hl] at h1 h4 h5
 have hn:=line63
 exact tail_any (typeIs_str s z t) slot_str_getitem.lookup (getItem_str (c:=c) (by
  have e1:decide (i < -(2 ^ 63:Int))=false:=decide_eq_false (by omega)
  have e2:decide (i ≥ 2 ^ 63)=false:=decide_eq_false (by omega)
  rw [e1,e2,Bool.or_false]) (by rw [h1];simpa using h2) ⟨.str ⟨#[c]⟩,H,I.tok _,⟨_,rfl⟩,q⟩) hs
def rIx (K:Frag):R2:=fun x y H Q=>rIxL K x y H Q\/rIxT K x y H Q\/rIxS x y H Q
theorem ix_seq:IxR X (rIx X.K):=ix_list.or (ix_tup.or ix_str)
theorem Inv.lst {pins:List (Addr×Obj)} {σ:St} {H:Hp} {s:Shared} {p:Addr} {xs:List V} (I:Inv X pins σ H s) (h:H p=some (.lst xs)):
  ∃ (its:List Value) (n:Nat),Vals xs its/\s.heap.get? p=some { cls:=.type "list",data:=.seq its.toArray n }/\xs.length<=sizeLine:=by
 obtain ⟨z,its,n,r,e⟩:=I.hok p _ h
 exact ⟨its,n,r,e,z⟩
theorem slice_bounds (lo hi:Option Int) (n:Nat):(sliceBounds lo hi none n).1=((HT.sIx n 0 lo:Nat):Int)/\(sliceBounds lo hi none n).2.1=((HT.sIx n n hi:Nat):Int)/\(sliceBounds lo hi none n).2.2=1:=by
 refine ⟨?_,?_,rfl⟩
 ·cases lo with
  | none=>simp [sliceBounds,HT.sIx]
  | some i=>
   simp only [sliceBounds,HT.sIx,Option.getD_none,show (1:Int) > 0 by decide,if_true]
   by_cases h:i < 0
   ·simp only [h,if_true] <;> omega
   ·simp only [h,if_false] <;> omega
 ·cases hi with
  | none=>simp [sliceBounds,HT.sIx]
  | some i=>
   simp only [sliceBounds,HT.sIx,Option.getD_none,show (1:Int) > 0 by decide,if_true]
   by_cases h:i < 0
   ·simp only [h,if_true] <;> omega
   ·simp only [h,if_false] <;> omega
theorem slicePick_cut (its:List Value) (lo hi:Option Int):slicePick its.toArray lo hi none=((its.drop (HT.sIx its.length 0 lo)).take (HT.sIx its.length its.length hi - HT.sIx its.length 0 lo)).toArray:=by
 obtain ⟨h1,h2,h3⟩:=slice_bounds lo hi its.toArray.size
 unfold slicePick
 rw [h1,h2,h3]
 simp only [sliceRange_one,pick_run,List.size_toArray] <;> rfl
def rSlL (K:Frag):V->Option Int->Option Int->Hp->VK->Prop:=fun x lo hi H Q=>∃ a xs,x=.ref a/\SqL K H a xs/\∀ p,H p=none->Q (.ref p) (upd H p (.lst (cutV xs lo hi)))
theorem sl_list:SlR X (rSlL X.K):=by
 intro pins s σ H x v vl vu lo hi sl Q I rx hs pl pu h
 obtain ⟨a,xs,rfl,hx,q⟩:=h
 cases rx
 obtain ⟨its,r,ht,hz⟩:=I.list hx
 have hlen:=r.length
 refine ⟨"list",_,slot_list_getitem.lookup,ht.isList.typeIs,?_⟩
 refine wpAny_getItem_list_slice ht.isList hs pl pu .none (by simp) ?_ (by rw [List.size_toArray] <;> omega)
 rw [slicePick_cut,← hlen]
 refine ⟨.ref s.heap.objs.size,_,I.laid (t':=s.toks) (o:=.lst (cutV xs lo hi)) (fun b ob q=>Heap.get?_push_of_some _ q) (Nat.le_refl _) ?_,rfl,q _ (I.hok.fresh (Nat.le_refl _))⟩
 exact ⟨Nat.le_trans (cutV_length xs lo hi) hz,_,0,(r.drop (HT.sIx xs.length 0 lo)).take (HT.sIx xs.length xs.length hi - HT.sIx xs.length 0 lo),Heap.get?_push_size _ rfl⟩
theorem CallR.or {f:Value} {r r':List V->Hp->VK->Prop} (h:CallR X f r) (h':CallR X f r'):CallR X f (fun xs H Q=>r xs H Q\/r' xs H Q):=by
 intro pins s σ H xs us Q I rs q
 rcases q with q | q
 ·exact h pins s σ H xs us Q I rs q
 ·exact h' pins s σ H xs us Q I rs q
def tyV (K:Frag) (T:String) (x:V) (H:Hp):Prop:=match x with
 | .str _=>T="str"
 | .int _=>T="int"
 | .ref p=>(T="list"/\∃ xs,SqL K H p xs)\/(T="tuple"/\∃ o,K.lookup p=some o/\o.cls=.type "tuple"/\o.dict=none)\/
   (T="dict"/\((∃ kvs,H p=some (.dK kvs))\/∃ kvs,H p=some (.dT kvs)))\/(T="set"/\∃ S n,H p=some (.set S n))
 | _=>False
theorem tyV_is {pins:List (Addr×Obj)} {σ:St} {H:Hp} {s:Shared} {T:String} {x:V} {v:Value} (I:Inv X pins σ H s) (r:RelV x v) (ty:tyV X.K T x H):
  s.TypeIs v T/\∀ a,v=.ref a->∃ ob,s.heap.get? a=some ob/\ob.dict=none:=by
 cases x with
 | str z=>
  obtain ⟨t,rfl⟩:=r
  cases (show T="str" from ty)
  exact ⟨typeIs_str s z t,fun _ e=>nomatch e⟩
 | int i=>
  obtain ⟨t,rfl⟩:=r
  cases (show T="int" from ty)
  exact ⟨typeIs_int s i t,fun _ e=>nomatch e⟩
 | ref p=>
  cases r
  rcases ty with ⟨rfl,xs,hq⟩ | ⟨rfl,o,hk,hc,hd⟩ | ⟨rfl,hk⟩ | ⟨rfl,S,n,hk⟩
  ·obtain ⟨its,_,pl,_⟩:=I.list hq
   refine ⟨pl.isList.typeIs,fun a e=>?_⟩
   cases e
   obtain ⟨o,n,e,c,hd,_⟩:=pl
   exact ⟨o,e,hd⟩
  ·refine ⟨⟨o,I.kIn p o hk,hc⟩,fun a e=>?_⟩
   cases e
   exact ⟨o,I.kIn _ o hk,hd⟩
  ·have z:∃ o,s.heap.get? p=some o/\o.ExactDict:=by
    rcases hk with ⟨kvs,hk⟩ | ⟨kvs,hk⟩
    ·obtain ⟨_,_,_,_,o,_,_,e,ex,_⟩:=I.hok p _ hk
     exact ⟨o,e,ex⟩
    ·obtain ⟨_,_,_,_,o,_,_,e,ex,_⟩:=I.hok p _ hk
     exact ⟨o,e,ex⟩
   obtain ⟨o,e,ex⟩:=z
   refine ⟨⟨o,e,ex.1⟩,fun a e2=>?_⟩
   cases e2
   exact ⟨o,e,ex.2.1⟩
  ·obtain ⟨o,_,_,_,e,ex,_⟩:=I.hok p _ hk
   refine ⟨⟨o,e,ex.1⟩,fun a e2=>?_⟩
   cases e2
   exact ⟨o,e,ex.2.1⟩
 | _=>exact False.elim ty
def tBM0 (K:Frag) (T:String) (r:V->List V->Hp->VK->Prop) (to:TE):TE:=fun σ H Q=>to σ H fun x H1=>tyV K T x H1/\r x [] H1 Q
def tBM (K:Frag) (T:String) (r:V->List V->Hp->VK->Prop) (to:TE) (t:TA):TE:=fun σ H Q=>to σ H fun x H1=>tyV K T x H1/\t σ H1 fun xs H2=>r x xs H2 Q
variable {o e:Expr} {es:List Expr} {to:TE} {t:TA} {name:Str} {apos cpos:Pos} {T id:String} {r:V->List V->Hp->VK->Prop}
theorem pe_bm0 (pa:PlainAttrs T) (slot:Slot T name id) (hty:typeOf (.builtin id)=pure (.type "method_descriptor")) (hm:MtR X id r) (ho:PE X o to)
  (hbase:attributeBase o name X.env (eval o X.env)=eval o X.env:=by rfl) (hline:(apos.endLine == cpos.line)=true:=by rfl):PE X (.Call (.Attribute o name apos) [] [] cpos) (tBM0 X.K T r to):=by
 intro pins s σ H Q I h
 refine wpAny_Call_method0_late hbase hline (thn (ho pins s σ H _ I h) fun v s1 ⟨x,H1,I1,r1,ty,q1⟩=>?_)
 obtain ⟨h1,h2⟩:=tyV_is I1 r1 ty
 exact ⟨T,id,pa,slot,hty,h1,h2,Calls.callWith_builtin rfl (PySem.evalArgs_none (hm pins s1 σ H1 x [] v [] Q I1 r1 .nil q1))⟩
theorem pe_bm (pa:PlainAttrs T) (slot:Slot T name id) (hty:typeOf (.builtin id)=pure (.type "method_descriptor")) (hm:MtR X id r) (ho:PE X o to) (ha:PA X (e::es) t)
  (hbase:attributeBase o name X.env (eval o X.env)=eval o X.env:=by rfl)
  (hfew:((backTo cpos (starEach (e::es) X.env)).all (fun x=>!x.1) && (backToKw cpos (keywordEach [] X.env)).all (fun x=>x.1.isSome)
   && decide ((e::es).length+([]:List Keyword).length+(if ([]:List Keyword).isEmpty then 0 else 1) < 30))=true:=by rfl)
  (hline:(apos.endLine == cpos.line)=true:=by rfl) (hs:starEach (e::es) X.env=(false,eval e X.env)::starEach es X.env:=by rfl) (hplain:(backTo cpos (starEach es X.env)).any (·.1)=false:=by rfl):
  PE X (.Call (.Attribute o name apos) (e::es) [] cpos) (tBM X.K T r to t):=by
 intro pins s σ H Q I h
 refine wpAny_Call_method_late hbase hfew hline rfl (thn (ho pins s σ H _ I h) fun v s1 ⟨x,H1,I1,r1,ty,q1⟩=>?_)
 obtain ⟨h1,h2⟩:=tyV_is I1 r1 ty
 refine ⟨T,id,pa,slot,hty,h1,h2,?_⟩
 have hA:=ha cpos pins s1 σ H1 _ I1 q1
 rw [hs] at hA ⊢
 refine Calls.callWith_builtin (by show (false || (backTo cpos (starEach es X.env)).any (·.1))=false;rw [hplain] <;> rfl) (Calls.evalArgs_plain ?_)
 exact thn hA fun us s2 ⟨vs,H2,I2,r2,q2⟩=>hm pins s2 σ H2 x vs v us Q I2 r1 r2 q2
/- xs.append(e),list.index on a module's tuple .. are MtR facts of 06m -/
end
end L2
namespace L2
open PySem PySem.Spec PyProof.Rows
def MtM (X:Cx) (id:String) (r:V->List V->Hp->VK->Prop):Prop:=
 ∀ (pins:List (Addr×Obj)) (s:Shared) (σ:St) (H:Hp) (x:V) (xs:List V) (v:Value) (us:List Value) (Q:VK),Inv X pins σ H s->RelV x v->Vals xs us->r x xs H Q->
  wpAny (model X.prog X.w) X.A (call (.builtin id) (v::us)) (EP X pins σ Q) X.xe s
theorem Vals.one:∀ {x:V} {us:List Value},Vals [x] us->∃ u,us=[u]/\RelV x u
 | _,_,.cons r .nil=>⟨_,rfl,r⟩
theorem Vals.zero:∀ {us:List Value},Vals [] us->us=[]
 | _,.nil=>rfl
theorem Vals.reverse {xs:List V} {us:List Value} (h:Vals xs us):Vals xs.reverse us.reverse:=by
 induction h with
 | nil=>exact .nil
 | cons r t ih=>rw [List.reverse_cons,List.reverse_cons];exact Vals.append ih (.cons r .nil)
section
variable {X:Cx} {pins:List (Addr×Obj)} {σ:St} {H:Hp} {s:Shared} {l b:Addr} {xs ys zs:List V}
theorem Inv.lset {its its':List Value} {n:Nat} {f:Array Value->Array Value} {t':Nat} (I:Inv X pins σ H s) (hH:H l=some (.lst xs))
  (e:s.heap.get? l=some { cls:=.type "list",data:=.seq its.toArray n }) (hf:f its.toArray=its'.toArray) (hv:Vals ys its') (hz:ys.length<=sizeLine):
  Inv X pins σ (upd H l (.lst ys)) { s with heap:=s.heap.update l (Obj.mapSeq f),toks:=t' }:=by
 have q:=PySem.IsL.update e f
 rw [hf] at q
 refine I.write (x:=l) (e:=l) (by rw [hH];exact trivial) (.inl rfl) (fun b' u hb hu=>(Heap.get?_update_other s.heap (Obj.mapSeq f) (Ne.symm hb)).trans hu) ⟨_,q⟩ ?_
 exact ⟨hz,its',_,hv,q⟩
theorem Inv.lnew {its:List Value} {t':Nat} (I:Inv X pins σ H s) (hv:Vals ys its) (hz:ys.length<=sizeLine):
  Inv X pins σ (upd H s.heap.objs.size (.lst ys)) { s with heap:=s.heap.push { cls:=.type "list",data:=.seq its.toArray },toks:=t' }:=
 I.laid (fun _ _ q=>Heap.get?_push_of_some _ q) (Nat.le_refl _) ⟨hz,its,0,hv,Heap.get?_push_size _ rfl⟩
theorem Inv.fresh (I:Inv X pins σ H s):H s.heap.objs.size=none:=I.hok.fresh (Nat.le_refl _)
theorem Inv.lstM (I:Inv X pins σ H s) (hH:H l=some (.lst xs)):xs.length<=sizeLine/\∃ (its:List Value) (n:Nat),Vals xs its/\xs.length=its.length/\s.heap.get? l=some { cls:=.type "list",data:=.seq its.toArray n }:=by
 obtain ⟨z,its,n,r,e⟩:=I.hok l _ hH
 exact ⟨z,its,n,r,r.length,e⟩
end
section
variable {X:Cx}
def rAppend:V->List V->Hp->VK->Prop:=fun x vs H Q=>∃ l xs y,x=.ref l/\vs=[y]/\H l=some (.lst xs)/\xs.length < sizeLine/\Q .non (upd H l (.lst (xs++[y])))
theorem mt_append:MtM X "list.append" rAppend:=by
 intro pins s σ H x vs v us Q I rx rv h
 obtain ⟨l,xs,y,rfl,rfl,hH,hz,q⟩:=h
 cases rx
 obtain ⟨u,rfl,ru⟩:=rv.one
 obtain ⟨z,its,n,r,hl,e⟩:=I.lstM hH
 refine call_meets F.slot_list_append ⟨_,e,rfl⟩ F.entry_list_append (F.args_list_append_2 _ _) (PySem.list_append l its.toArray n u (by rw [List.size_toArray];omega)) ⟨e,?_⟩
 refine ⟨.non,_,I.lset (its':=its++[u]) hH e (by simp) (r.append (.cons ru .nil)) ?_,rfl,q⟩
 rw [List.length_append,List.length_singleton]
 omega
def rReverse:V->List V->Hp->VK->Prop:=fun x vs H Q=>∃ l xs,x=.ref l/\vs=[]/\H l=some (.lst xs)/\Q .non (upd H l (.lst xs.reverse))
theorem mt_reverse:MtM X "list.reverse" rReverse:=by
 intro pins s σ H x vs v us Q I rx rv h
 obtain ⟨l,xs,rfl,rfl,hH,q⟩:=h
 cases rx
 have hus:=rv.zero
 subst hus
 obtain ⟨z,its,n,r,hl,e⟩:=I.lstM hH
 refine call_meets F.slot_list_reverse ⟨_,e,rfl⟩ F.entry_list_reverse (F.args_list_reverse_1 _) (AutoSeq1.list_reverse_list_0 l its.toArray n (by rw [List.size_toArray];omega)) ⟨e,?_⟩
 refine ⟨.non,_,I.lset (its':=its.reverse) hH e (by simp) r.reverse ?_,rfl,q⟩
 rw [List.length_reverse]
 omega
def rClear:V->List V->Hp->VK->Prop:=fun x vs H Q=>∃ l xs,x=.ref l/\vs=[]/\H l=some (.lst xs)/\Q .non (upd H l (.lst []))
theorem mt_clear:MtM X "list.clear" rClear:=by
 intro pins s σ H x vs v us Q I rx rv h
 obtain ⟨l,xs,rfl,rfl,hH,q⟩:=h
 cases rx
 have hus:=rv.zero
 subst hus
 obtain ⟨z,its,n,r,hl,e⟩:=I.lstM hH
 refine call_meets F.slot_list_clear ⟨_,e,rfl⟩ F.entry_list_clear (F.args_list_clear_1 _) (AutoSeq1.list_clear_list_0 l its.toArray n (by rw [List.size_toArray];omega)) ⟨e,?_⟩
 exact ⟨.non,_,I.lset (its':=[]) (ys:=[]) hH e rfl .nil (Nat.zero_le _),rfl,q⟩
def rCat:R2:=fun x y H Q=>∃ l b xs zs,x=.ref l/\y=.ref b/\H l=some (.lst xs)/\H b=some (.lst zs)/\xs.length+zs.length<=sizeLine/\∀ p,H p=none->Q (.ref p) (upd H p (.lst (xs++zs)))
theorem op_cat:OpR X (binaryOp .Add) rCat:=by
 intro pins s σ H x y v u Q I rx ry h
 obtain ⟨l,b,xs,zs,rfl,rfl,hH,hB,hz,q⟩:=h
 cases rx
 cases ry
 obtain ⟨z,its,n,r,hl,e⟩:=I.lstM hH
 obtain ⟨z2,its2,n2,r2,hl2,e2⟩:=I.lstM hB
 refine PySem.P.add_list e e2 ?_ (by rw [List.size_toArray,List.size_toArray];omega)
 have ea:its.toArray++its2.toArray=(its++its2).toArray:=by simp
 rw [ea]
 exact ⟨.ref _,_,I.lnew (t':=s.toks) (r.append r2) (by rw [List.length_append];omega),rfl,q _ I.fresh⟩
end
section
variable {prog:Program} {w:World} {A:Around} {E:Value->Shared->Prop} {s:Shared}
set_option maxRecDepth 100000 in
end
section
variable {X:Cx}
end
end L2
namespace Att
open PySem PySem.W PySem.Calls PyProof.Rows
theorem ints_of_wellAll {P:Params} {h:Heap}:∀ (ns:List Int) (vs:List Value),WellAll P h vs (ns.map WData.int)->IntsAre vs ns:=by
 intro ns
 induction ns with
 | nil=>
  intro vs w
  rw [List.map_nil] at w
  cases w
  exact .nil
 | cons n ns ih=>
  intro vs w
  rw [List.map_cons] at w
  cases w with
  | cons a b=>
   cases a
   exact .cons _ _ (ih _ b)
theorem script_of {l:OpenLaw} {n:Nat} (hn:l.most=some n) {P:Params} {h:Heap} {args:List WData} {vals:List Value}
  (hpre:l.row.toRowW.claim.pre args=true) (hwl:WellAll P h vals args):
  ∃ a vs ns,vals=[Value.ref a]/\args=[WData.list (ns.map WData.int)]/\h.get? a=some { cls:=.type "list",data:=.seq vs.toArray }/\IntsAre vs ns/\ns.length<=n:=by
 have hsh:WShape.hasAll [] args [.list .int]=true:=(pre_splitW hpre).1
 have hc:l.pre.holds [] { args:=args }=true:=(pre_splitW hpre).2
 obtain ⟨d,r,rfl,h1,h2⟩:=hasAllW_cons hsh
 obtain rfl:=hasAllW_nil h2
 obtain ⟨xs,rfl,h3⟩:=hasW_list h1
 obtain ⟨ns,rfl⟩:=items_int h3
 have hlen:ns.length<=n:=by
  unfold OpenLaw.pre at hc
  have h4:(WTm.not (.lt (.lit (.int (n:Int))) (.len (.arg 0)))).holds [] { args:=[.list (ns.map .int)] }=true:=by
   have h4:=(holds_andW hc).1
   rw [hn] at h4
   exact h4
  have h5:=condW_of h4 (w_not (w_lt w_lit (w_len_list (w_arg rfl))))
  rw [List.length_map] at h5
  refine Nat.le_of_not_lt fun q=>?_
  have q':(n:Int) < ((ns.length:Nat):Int):=by omega
  first
   | (rw [decide_eq_true q'] at h5;exact absurd h5 (by decide))
   | (simp at h5;omega)
 cases hwl with
 | cons w1 w2=>
  cases w2
  cases w1 with
  | list ho hall=>exact ⟨_,_,ns,rfl,rfl,ho,ints_of_wellAll ns _ hall,hlen⟩
theorem post_true (l:OpenLaw) (args:List WData):l.row.toRowW.claim.post args (.bool true) args=true:=
 postW_of (r:=l.row.toRowW) (X:=(true == true))
  (show WShape.has [] (.bool true) .bool=true by first | rfl | decide | simp [WShape.has,WShape.arms,WShape.armsAll])
  (show (WTm.eq .res (.lit (.bool true))).value [] { args:=args,res:=some (.bool true),after:=args }=some (.bool (true == true)) from w_eq_bool (w_res rfl) w_lit) rfl
theorem attach_call {l:OpenLaw} {n:Nat} {q:Program} {loose:List Str} {XP:(Str->Option Value)->Heap->Prop} {YP:World->Heap->Prop} {d:DefRec}
  (hn:l.most=some n) (hdf:d.params.defaults=[])
  (call:∀ (w:World) (s₀ s₁:Shared) (mg mb:Str->Option Value) (fa:Addr) (o:Obj) (pm cd doc:Value) (a:Addr) (vs:List Value) (ns:List Int),
   Ground q loose [] XP w s₀ mg mb s₁.heap->YP w s₁.heap->
   s₁.heap.get? fa=some o->o.data=.func (docDef d.name d.params d.body d.scope pm cd doc)->s₁.heap.CodeRec cd d.name->mg d.name=some (.ref fa)->
   s₁.heap.get? a=some { cls:=.type "list",data:=.seq vs.toArray }->IntsAre vs ns->ns.length<=n->s₁.gens=#[]->
   codeAny (model l.prog w) callerA (.call (.ref fa) ⟨[.ref a],[]⟩) (fun r s'=>r=.ok (.ret (.bool true))/\OldK s₁.heap s'.heap/\s'.os=s₁.os/\AllBare s'.gens) s₁):
  WalkO q loose XP YP l.row.toRowW d [] (fun f vs=>PySem.call f vs):=by
 intro w s₀ s₁ mg mb G Y fa o pm cd doc dV kV ho hd hcd hD hmg hg args vals as hpre hlay hrd hwl hlo
 obtain rfl:dV=.none:=Dflts.none hD hdf
 obtain rfl:kV=.none:=Dflts.noKw hD
 obtain ⟨a,vs,ns,rfl,rfl,hobj,hints,hlen⟩:=script_of hn hpre hwl
 refine enter_call (codeAny_mono (call w s₀ s₁ mg mb fa o pm cd doc a vs ns G Y ho (fd_plain hd) hcd hmg hobj hints hlen hg) fun r s' hq=>?_)
 obtain ⟨rfl,h2,h3,h4⟩:=hq
 exact ⟨.inl ⟨.bool true,.bool true,[],rfl,fun _=>rfl,.bool true,post_true l _,fun _=>⟨List.Pairwise.nil,fun _ hm=>(nomatch hm)⟩⟩,h2,h3,h4⟩
section
variable {prog:Program} {w:World} {A:Around} {E:Value->Shared->Prop} {s:Shared} {K:Frag}
end
end Att
namespace L2
open PySem PySem.Spec PyProof.Rows
theorem vals_ints:∀ {vs:List Value} {ns:List Int},IntsAre vs ns->Vals (ns.map V.int) vs
 | _,_,.nil=>.nil
 | _,_,.cons n t h=>.cons ⟨t,rfl⟩ (vals_ints h)
def Only (H:Hp):Prop:=∀ b,H b=none\/∃ o xs,H b=some (.frz o (.lst xs))
theorem law_call {P:Program} {w:World} {K:Frag} {mg mb:Str->Option Value} {CX:CXT} {k:Nat} {fa a:Addr} {fd:FuncData} {x:Str} {sp:Sp} {s₁:Shared} {vs:List Value} {ns:List Int}
  (KX:K.In s₁.heap) (hns:s₁.heap.Ns mainGlobals mg) (hb:s₁.heap.Ns builtinsNs mb) (hbb:∀ x:Str,x≠"__name__"->mb x=bootBuiltins x) (hlim:s₁.heap.NoLimit) (hg:s₁.gens=#[])
  (ha:s₁.heap.get? a=some { cls:=.type "list",data:=.seq vs.toArray }) (hi:IntsAre vs ns) (hl:ns.length<=sizeLine) (hr:Room k callerA)
  (F:∀ base:Heap,K.In base->base.Ns mainGlobals mg->FnOk P w K mg base CX k fa fd [x] sp) (hbind:∀ (s:Shared) (u:Value),BindsTo s fd ⟨[u],[]⟩ [(x,u)])
  (hsp:∀ H:Hp,Only H->SqL K H a (ns.map V.int)->sp [.ref a] H (fun v _=>v=.bl true) fun _ _ _=>False)
  (hCX:∀ H e s',CX [] H s₁ (fun _ _ _=>False) e s'->False):
  codeAny (model P w) callerA (.call (.ref fa) ⟨[.ref a],[]⟩) (fun r s'=>r=.ok (.ret (.bool true))/\OldK s₁.heap s'.heap/\s'.os=s₁.os/\AllBare s'.gens) s₁:=by
 have rv:=vals_ints hi
 have lenV:=hi.length
 have core:∀ H:Hp,Only H->SqL K H a (ns.map V.int)->HOk P w H s₁.heap->(∀ b,H b≠none->b=a)->(H a≠none->K.lookup a=none)->
   codeAny (model P w) callerA (.call (.ref fa) ⟨[.ref a],[]⟩) (fun r s'=>r=.ok (.ret (.bool true))/\OldK s₁.heap s'.heap/\s'.os=s₁.os/\AllBare s'.gens) s₁:=by
  intro H hO hS hok hA hK
  have base_of:∀ {b:Addr} {o:Obj},s₁.heap.get? b=some o->H b=none->(hidT s₁.heap H).get? b=some o:=fun e n=>hidT_get e n
  have noA:∀ {b:Addr} {o:Obj} {es:Array DictEntry} {ep:Nat},s₁.heap.get? b=some o->o.data=.dict es ep->H b=none:=fun {b o es ep} e d=>by
   cases q:H b with
   | none=>rfl
   | some u=>
    have e':b=a:=hA b (by rw [q];simp)
    subst e'
    rw [ha] at e;cases e
    have d':Data.seq vs.toArray _=Data.dict es ep:=d
    cases d'
  have nsK:∀ {b:Addr} {m:Str->Option Value},s₁.heap.Ns b m->(hidT s₁.heap H).Ns b m:=fun {b m} ⟨o,es,ep,e,d,r⟩=>⟨o,es,ep,base_of e (noA e d),d,r⟩
  have hKb:K.In (hidT s₁.heap H):=fun b o e=>base_of (KX b o e) (by
   cases q:H b with
   | none=>rfl
   | some u=>
    have e':b=a:=hA b (by rw [q];simp)
    subst e'
    rw [hK (by rw [q];simp)] at e;cases e)
  have hM:Mod K mg (hidT s₁.heap H):=⟨hKb,nsK hns,⟨mb,nsK hb,hbb⟩,let ⟨mc,h1,h2⟩:=hlim;⟨mc,nsK h1,h2⟩⟩
  have e0:Env0 P w K mg (hidT s₁.heap H) callerA [] s₁ H:=⟨rfl,hM,fun b o e=>of_hidT e,Nat.le_of_eq (hidT_size _ _),trivial,fun b hb=>absurd (show b∈([]:List Addr) from hb) (by simp),hok,.of_eq hg⟩
  refine codeAny_mono ((F _ hKb (nsK hns)).run callerA [] s₁ H ⟨[.ref a],[]⟩ [.ref a] [.ref a] _ _ hr e0 (hbind s₁ (.ref a)) (.cons rfl .nil) (hsp H hO hS)) fun r s' h=>?_
  cases r with
  | error e=>exact (hCX H e s' h).elim
  | ok fl=>
   cases fl with
   | next=>exact False.elim h
   | brk=>exact False.elim h
   | cont=>exact False.elim h
   | ret u=>
    obtain ⟨v,H',os,bare,un,hok',r',q⟩:=h
    have q':v=.bl true:=q
    subst q'
    obtain rfl:u=Value.bool true:=r'
    refine ⟨rfl,OldK.of_keep fun b o e=>?_,os,bare⟩
    cases q:H b with
    | none=>exact un.keep b o e q (by intro z;exact absurd (show b∈([]:List Addr) from z) (by simp)) (by simp)
    | some u=>
     rcases hO b with z | ⟨ob,xs,z⟩
     ·rw [q] at z;cases z
     ·have z2:=un.frzs b ob _ z
      obtain ⟨e1,_⟩:=hok b _ z
      obtain ⟨e2,_⟩:=hok' b _ z2
      rw [e] at e1;cases e1
      exact e2
 cases hk:K.lookup a with
 | some o=>
  have e:=KX a o hk
  rw [ha] at e
  cases e
  refine core (fun _=>none) (fun _=>.inl rfl) (.inr ⟨_,vs.toArray,_,hk,rfl,rfl,rfl,by rw [List.size_toArray,lenV];exact hl,by simpa using rv⟩) (fun b u z=>by have z':(none:Option HO)=some u:=z;cases z') (fun b z=>absurd rfl z) fun z=>absurd rfl z
 | none=>
  refine core (fun b=>if b=a then some (.frz { cls:=.type "list",data:=.seq vs.toArray } (.lst (ns.map V.int))) else none) (fun b=>?_) (.inl (.inr ⟨{ cls:=.type "list",data:=.seq vs.toArray },if_pos rfl⟩)) (fun b u z=>?_) (fun b z=>?_) fun _=>hk
  ·by_cases hb:b=a
   ·exact .inr ⟨_,_,if_pos hb⟩
   ·exact .inl (if_neg hb)
  ·by_cases hb:b=a
   ·have z':=(if_pos hb).symm.trans z
    cases z'
    subst hb
    exact ⟨ha,by rw [List.length_map];exact hl,vs,_,rv,ha⟩
   ·have z':=(if_neg hb).symm.trans z
    cases z'
  ·by_cases hb:b=a
   ·exact hb
   ·exact absurd (if_neg hb) z
end L2
namespace L2
open PySem PySem.Spec PyProof.Rows
theorem walk_of {l:PySem.W.OpenLaw} {n k:Nat} {q:Program} {loose:List Str} {XP:(Str->Option Value)->Heap->Prop} {YP:World->Heap->Prop} {d:DefRec} {K:Params->Frag} {CX:World->CXT} {sp:World->Sp} {x:Str}
  (hn:l.most=some n) (hn2:n<=sizeLine) (hdf:d.params.defaults=[]) (hr:Room k callerA)
  (hY:∀ (w:World) (h:Heap),YP w h->(K w.params).In h)
  (F:∀ (w:World) (mg:Str->Option Value) (fa:Addr) (h:Heap),(K w.params).In h->h.Ns mainGlobals mg->mg d.name=some (.ref fa)->
   ∃ fd:FuncData,(∀ (s:Shared) (u:Value),BindsTo s fd ⟨[u],[]⟩ [(x,u)])/\
    ∀ base:Heap,(K w.params).In base->base.Ns mainGlobals mg->FnOk l.prog w (K w.params) mg base (CX w) k fa fd [x] (sp w))
  (hsp:∀ (w:World) (H:Hp) (a:Addr) (ns:List Int),ns.length<=n->Only H->SqL (K w.params) H a (ns.map V.int)->sp w [.ref a] H (fun v _=>v=.bl true) fun _ _ _=>False)
  (hCX:∀ (w:World) (H:Hp) (s:Shared) (e:Value) (s':Shared),CX w [] H s (fun _ _ _=>False) e s'->False):
  PySem.W.WalkO q loose XP YP l.row.toRowW d [] (fun f vs=>PySem.call f vs):=by
 refine Att.attach_call hn hdf fun w s₀ s₁ mg mb fa o pm cd doc a vs ns G Y ho hd hcd hmg hobj hints hlen hg=>?_
 have KX:=hY w _ Y
 obtain ⟨fd,hb,hF⟩:=F w mg fa _ KX G.T.g hmg
 exact law_call KX G.T.g G.T.b G.T.builtins G.T.nolimit hg hobj hints (Nat.le_trans hlen hn2) hr hF hb (fun H hO hS=>hsp w H a ns hlen hO hS) fun H e s'=>hCX w H s₁ e s'
end L2
namespace L2
open PySem PySem.Spec PyProof.Rows
def inClass (s:Stmt) (j:Nat):Stmt:=match s with
 | .ClassDef _ _ _ body _ _ _ _ _ _ _=>body.getD j (.Pass ⟨0,0,0,0⟩)
 | _=>.Pass ⟨0,0,0,0⟩
def defArgs (s:Stmt):Arguments:=match s with
 | .FunctionDef _ a _ _ _ _ _ _ _ _=>a
 | _=>{ posonlyargs:=[],args:=[],vararg:=none,kwonlyargs:=[],kw_defaults:=[],kwarg:=none,defaults:=[] }
def defBody (s:Stmt):List Stmt:=match s with
 | .FunctionDef _ _ b _ _ _ _ _ _ _=>b
 | _=>[]
def defScope (s:Stmt):Scope:=match s with
 | .FunctionDef _ _ _ _ _ _ sc _ _ _=>sc
 | _=>{ kind:=.function,names:=[],isGenerator:=false,isCoroutine:=false }
abbrev CX0:CXT:=fun _ _ _ _ _ _=>False
abbrev E0:XK:=fun _ _ _=>False
structure Fun (K:Frag) (x qual:Str) (st:Stmt) (f:Addr) (fd:FuncData):Prop where
 ex:∃ (oc:Value) (od:Option Addr) (kV doc pm:Value) (an:Option Addr) (cdv ct:Value) (osl:Array (Option Value)),
  fd=fnOf x qual (defArgs st) (defBody st) (defScope st) .none kV doc pm an cdv ct/\K.lookup f=some ⟨oc,od,.func fd,osl⟩/\codeIn K cdv qual=true
 kp:keepIn K (.ref f)=true
section
variable {P:Program} {w:World} {K:Frag} {mg:Str->Option Value} {base:Heap}
theorem Fun.ok {x qual:Str} {st:Stmt} {f:Addr} {fd:FuncData} {N ps:List Str} {k:Nat} {sp:Sp} (F:Fun K x qual st f fd) (S:FnScope N ps (defScope st)) (len:∀ vs H Q E,sp vs H Q E->vs.length=ps.length)
  (hbody:∀ (cdv:Value) (A:Around) (outer:List Env) (s:Shared) (H:Hp) (vs:List V) (Q:VK) (E:XK),Room k (A.deeper (envOfC qual (defScope st) s.heap.objs.size f cdv))->sp vs H Q E->
   ∃ t,PSs (cxOf CX0 P w K mg base N qual (defScope st) f cdv A outer s H E).nox (defBody st) t/\t { nx:=fun _ H'=>Q .non H',rt:=Q } (start N vs) H):FnOk P w K mg base CX0 (k+1) f fd ps sp:=by
 obtain ⟨oc,od,kV,doc,pm,an,cdv,ct,osl,rfl,lk,hcd⟩:=F.ex
 refine fn_of lk hcd S len fun A outer s H vs Q E hr hsp=>?_
 obtain ⟨t,h,q⟩:=hbody cdv A outer s H vs Q E hr hsp
 exact ⟨t,h.nox,q⟩
end
theorem small1000 {n:Nat} (h:n<=1000):n < sizeLine:=Nat.lt_of_le_of_lt h (by decide)
section
variable {X:Cx}
end
def Same (H H':Hp):Prop:=∀ b o,H b=some o->H' b=some o
theorem Same.refl (H:Hp):Same H H:=fun _ _ h=>h
theorem Same.trans {H H1 H2:Hp} (a:Same H H1) (b:Same H1 H2):Same H H2:=fun c o h=>b c o (a c o h)
theorem Same.free {H H':Hp} (e:Same H H') {l:Addr} (h:H' l=Option.none):H l=Option.none:=by
 cases q:H l with
 | none=>rfl
 | some o=>
  rw [e l o q] at h
  cases h
theorem Same.seq {K:Frag} {H H':Hp} {a:Addr} {xs:List V} (e:Same H H') (h:SqL K H a xs):SqL K H' a xs:=by
 rcases h with (h | ⟨o,h⟩) | h
 ·exact .inl (.inl (e _ _ h))
 ·exact .inl (.inr ⟨o,e _ _ h⟩)
 ·exact .inr h
end L2
namespace L2
open PySem PySem.Spec PyProof.Rows
section
variable {κ:Type} [DecidableEq κ]
def valV (kvs:List (κ×V)) (k:κ):Option V:=(kvs.find? fun kv=>decide (kv.1=k)).map (·.2)
def putK (kvs:List (κ×V)) (k:κ) (v:V):List (κ×V):=
 if (kvs.any fun kv=>decide (kv.1=k))=true then kvs.map (fun kv=>if kv.1=k then (kv.1,v) else kv) else kvs++[(k,v)]
def dropK (kvs:List (κ×V)) (k:κ):List (κ×V):=kvs.filter fun kv=>decide (kv.1≠k)
theorem valV_pos {p:κ×V} {r:List (κ×V)} {k:κ} (e:p.1=k):valV (p::r) k=some p.2:=by simp [valV,List.find?_cons,e]
theorem valV_neg {p:κ×V} {r:List (κ×V)} {k:κ} (e:¬ p.1=k):valV (p::r) k=valV r k:=by simp [valV,List.find?_cons,e]
theorem valV_any (k:κ):∀ kvs:List (κ×V),(kvs.any fun kv=>decide (kv.1=k))=(valV kvs k).isSome
 | []=>rfl
 | p::r=>by
  rw [List.any_cons]
  by_cases e:p.1=k
  ·simp only [valV_pos e,decide_eq_true e,Bool.true_or,Option.isSome_some]
  ·rw [valV_neg e,decide_eq_false e,Bool.false_or];exact valV_any k r
theorem length_putK (kvs:List (κ×V)) (k:κ) (v:V):(putK kvs k v).length<=kvs.length+1:=by
 unfold putK
 split
 ·rw [List.length_map];omega
 ·rw [List.length_append,List.length_cons,List.length_nil];omega
theorem RelO.isSome_eq {o:Option V} {u:Option Value} (r:RelO o u):o.isSome=u.isSome:=by
 cases o with
 | none=>cases u with
  | none=>rfl
  | some _=>exact (show False from r).elim
 | some _=>cases u with
  | none=>exact (show False from r).elim
  | some _=>rfl
theorem RelO.getD {o:Option V} {u:Option Value} {d:V} {d':Value} (r:RelO o u) (rd:RelV d d'):RelV (o.getD d) (u.getD d'):=by
 cases o with
 | none=>cases u with
  | none=>exact rd
  | some _=>exact (show False from r).elim
 | some _=>cases u with
  | none=>exact (show False from r).elim
  | some _=>exact r
theorem KV.val {kvs:List (κ×V)} {vs:List (κ×Value)} (r:KV kvs vs) (k:κ):RelO (valV kvs k) (valueAt vs k):=by
 unfold KV at r
 induction r with
 | nil=>exact True.intro
 | @cons p q ps qs h t ih=>
  obtain ⟨h1,h2⟩:=h
  by_cases e:p.1=k
  ·have e':q.1=k:=h1.symm.trans e
   have b:valueAt (q::qs) k=some q.2:=by simp [valueAt,List.find?_cons,e']
   rw [valV_pos e,b];exact h2
  ·have e':¬ q.1=k:=fun z=>e (h1.trans z)
   have b:valueAt (q::qs) k=valueAt qs k:=by simp [valueAt,List.find?_cons,e']
   rw [valV_neg e,b];exact ih
theorem KV.any {kvs:List (κ×V)} {vs:List (κ×Value)} (r:KV kvs vs) (k:κ):(kvs.any fun kv=>decide (kv.1=k))=vs.any fun kv=>decide (kv.1=k):=by
 unfold KV at r
 induction r with
 | nil=>rfl
 | cons h t ih=>rw [List.any_cons,List.any_cons,ih,h.1]
theorem KV.repl {kvs:List (κ×V)} {vs:List (κ×Value)} (r:KV kvs vs) (k:κ) {y:V} {u:Value} (ry:RelV y u):
  KV (kvs.map fun kv=>if kv.1=k then (kv.1,y) else kv) (vs.map fun kv=>if kv.1=k then (kv.1,u) else kv):=by
 unfold KV at r ⊢
 induction r with
 | nil=>exact .nil
 | @cons p q ps qs h t ih=>
  rw [List.map_cons,List.map_cons]
  refine .cons ?_ ih
  obtain ⟨h1,h2⟩:=h
  by_cases e:p.1=k
  ·rw [if_pos e,if_pos (h1.symm.trans e)];exact ⟨h1,ry⟩
  ·rw [if_neg e,if_neg (fun z=>e (h1.trans z))];exact ⟨h1,h2⟩
theorem KV.put {kvs:List (κ×V)} {vs:List (κ×Value)} (r:KV kvs vs) (k:κ) {y:V} {u:Value} (ry:RelV y u):KV (putK kvs k y) (stored vs k u):=by
 unfold putK stored
 rw [r.any k]
 by_cases e:(vs.any fun kv=>decide (kv.1=k))=true
 ·rw [if_pos e,if_pos e];exact r.repl k ry
 ·rw [if_neg e,if_neg e];exact Paired.snoc r ⟨rfl,ry⟩
theorem KV.drop {kvs:List (κ×V)} {vs:List (κ×Value)} (r:KV kvs vs) (k:κ):KV (dropK kvs k) (without vs k):=by
 unfold KV at r ⊢
 unfold dropK without
 induction r with
 | nil=>exact .nil
 | @cons p q ps qs h t ih=>
  obtain ⟨h1,h2⟩:=h
  rw [List.filter_cons,List.filter_cons]
  by_cases e:p.1=k
  ·have a:¬ decide (p.1≠k)=true:=by simp [e]
   have b:¬ decide (q.1≠k)=true:=by simp [h1.symm.trans e]
   rw [if_neg a,if_neg b];exact ih
  ·have e':¬ q.1=k:=fun z=>e (h1.trans z)
   have a:decide (p.1≠k)=true:=by simp [e]
   have b:decide (q.1≠k)=true:=by simp [e']
   rw [if_pos a,if_pos b];exact .cons ⟨h1,h2⟩ ih
theorem KV.keys {kvs:List (κ×V)} {vs:List (κ×Value)} (r:KV kvs vs):kvs.map (·.1)=vs.map (·.1):=by
 unfold KV at r
 induction r with
 | nil=>rfl
 | cons h t ih=>rw [List.map_cons,List.map_cons,ih,h.1]
theorem KV.length {kvs:List (κ×V)} {vs:List (κ×Value)} (r:KV kvs vs):kvs.length=vs.length:=Paired.length r
theorem dropK_le (kvs:List (κ×V)) (k:κ):(dropK kvs k).length<=kvs.length:=List.length_filter_le _ _
end
theorem kV_is {P:Program} {w:World} {k:Key} {u:Value} (r:RelV (kV k) u):(mixKind P w).is k u=true:=by
 cases k with
 | inl i=>obtain ⟨t,e⟩:=(show ∃ t,u=Value.int i t from r);subst e;exact mixKind_int P w i t
 | inr x=>obtain ⟨t,e⟩:=(show ∃ t,u=Value.str x t from r);subst e;exact mixKind_str P w x t
theorem items_are {P:Program} {w:World}:∀ {ks:List Key} {us:List Value},Vals (ks.map kV) us->ItemsAre (mixKind P w) ks us
 | [],_,r=>by rw [List.map_nil] at r;cases r;exact .nil
 | k::ks,_,r=>by
  rw [List.map_cons] at r
  cases r with
  | cons h t=>exact .cons (kV_is h) (items_are t)
abbrev KT (H:Hp):List (List Key×V)->List (List Key×Addr×Value)->Prop:=Paired fun p q=>p.1=q.1/\H q.2.1=some (.tup (p.1.map kV))/\RelV p.2 q.2.2
theorem KT.val {H:Hp} {kvs:List (List Key×V)} {xs:List (List Key×Addr×Value)} (r:KT H kvs xs) (k:List Key):RelO (valV kvs k) ((atKey xs k).map (·.2)):=by
 induction r with
 | nil=>exact True.intro
 | @cons p q ps qs h t ih=>
  obtain ⟨h1,_,h2⟩:=h
  by_cases e:p.1=k
  ·have e':q.1=k:=h1.symm.trans e
   have b:atKey (q::qs) k=some q.2:=by simp [atKey,List.find?_cons,e']
   rw [valV_pos e,b];exact h2
  ·have e':¬ q.1=k:=fun z=>e (h1.trans z)
   have b:atKey (q::qs) k=atKey qs k:=by simp [atKey,List.find?_cons,e']
   rw [valV_neg e,b];exact ih
theorem KT.repl {H:Hp} {kvs:List (List Key×V)} {xs:List (List Key×Addr×Value)} (r:KT H kvs xs) (k:List Key) {y:V} {u:Value} (ry:RelV y u):
  KT H (kvs.map fun kv=>if kv.1=k then (kv.1,y) else kv) (xs.map (putAt k u)):=by
 induction r with
 | nil=>exact .nil
 | @cons p q ps qs h t ih=>
  rw [List.map_cons,List.map_cons]
  refine .cons ?_ ih
  obtain ⟨h1,h2,h3⟩:=h
  unfold putAt
  by_cases e:p.1=k
  ·rw [if_pos e,if_pos (h1.symm.trans e)];exact ⟨h1,h2,ry⟩
  ·rw [if_neg e,if_neg (fun z=>e (h1.trans z))];exact ⟨h1,h2,h3⟩
theorem KT.put {H:Hp} {kvs:List (List Key×V)} {xs:List (List Key×Addr×Value)} (r:KT H kvs xs) (k:List Key) {b:Addr} {y:V} {u:Value} (hb:H b=some (.tup (k.map kV))) (ry:RelV y u):
  KT H (putK kvs k y) (storedH xs k b u):=by
 have e:(kvs.any fun kv=>decide (kv.1=k))=(atKey xs k).isSome:=by
  rw [valV_any,(r.val k).isSome_eq,Option.isSome_map]
 unfold putK storedH
 rw [e]
 by_cases q:(atKey xs k).isSome=true
 ·rw [if_pos q,if_pos q];exact r.repl k ry
 ·rw [if_neg q,if_neg q];exact Paired.snoc r ⟨rfl,hb,ry⟩
theorem KT.keeps {H H':Hp} {kvs:List (List Key×V)} {xs:List (List Key×Addr×Value)} (r:KT H kvs xs) (ht:∀ b ys,H b=some (.tup ys)->H' b=some (.tup ys)):KT H' kvs xs:=
 Paired.mapP r fun _ _ z=>⟨z.1,ht _ _ z.2.1,z.2.2⟩
section
variable {P:Program} {w:World} {H:Hp} {h:Heap} {a:Addr}
theorem rd_of {u:HO} (ok:HOk P w H h) (e:Rd H a u):ObjOk P w H h a u:=e.ok ok
theorem dk_rd {kvs:List (Key×V)} (ok:HOk P w H h) (e:Rd H a (.dK kvs)):kvs.length<=sizeLine/\(a == sysModules)=false/\∃ vs,KV kvs vs/\h.DictOf (mixKind P w) a vs:=
 show ObjOk P w H h a (.dK kvs) from rd_of ok e
theorem dk_of {kvs:List (Key×V)} (ok:HOk P w H h) (e:H a=some (.dK kvs)):kvs.length<=sizeLine/\(a == sysModules)=false/\∃ vs,KV kvs vs/\h.DictOf (mixKind P w) a vs:=dk_rd ok (.inl e)
theorem key_of {ks:List Key} (ok:HOk P w H h) (e:H a=some (.tup (ks.map kV))):(tupleKind (mixKind P w)).is h ks a:=by
 obtain ⟨_,its,r,o,h1,h2,n,h3⟩:=(show ObjOk P w H h a (.tup (ks.map kV)) from ok a _ e)
 exact ⟨o,its.toArray,n,h1,h2,h3,by simpa using items_are r⟩
theorem dt_rd {kvs:List (List Key×V)} (ok:HOk P w H h) (e:Rd H a (.dT kvs)):kvs.length<=sizeLine/\(a == sysModules)=false/\
  ∃ xs,KT H kvs xs/\h.DictOfH (tupleKind (mixKind P w)) a xs:=by
 obtain ⟨z,y,xs,r,o,es,ep,h1,h2,h3,h4,h5⟩:=(show ObjOk P w H h a (.dT kvs) from rd_of ok e)
 refine ⟨z,y,xs,r,o,es,ep,h1,h2,h3,h4,fun x hx=>?_,h5⟩
 have all:∀ {l:List (List Key×V)} {m:List (List Key×Addr×Value)},KT H l m->∀ x∈m,(tupleKind (mixKind P w)).is h x.1 x.2.1:=by
  intro l m q
  induction q with
  | nil=>intro x hx;exact nomatch hx
  | @cons p q ps qs hq t ih=>
   intro x hx
   rcases List.mem_cons.mp hx with e | hx
   ·subst e
    exact key_of ok (by rw [← hq.1];exact hq.2.1)
   ·exact ih x hx
 exact all r x hx
theorem dt_of {kvs:List (List Key×V)} (ok:HOk P w H h) (e:H a=some (.dT kvs)):kvs.length<=sizeLine/\(a == sysModules)=false/\
  ∃ xs,KT H kvs xs/\h.DictOfH (tupleKind (mixKind P w)) a xs:=dt_rd ok (.inl e)
end
def DGet (H:Hp) (a:Addr) (y:V) (r:Option V):Prop:=
 (∃ kvs k,Rd H a (.dK kvs)/\y=kV k/\r=valV kvs k)\/∃ kvs k b,Rd H a (.dT kvs)/\y=.ref b/\H b=some (.tup (k.map kV))/\r=valV kvs k
def DPut (H:Hp) (a:Addr) (y v:V) (H':Hp):Prop:=
 (∃ kvs k,H a=some (.dK kvs)/\y=kV k/\kvs.length < sizeLine/\H'=upd H a (.dK (putK kvs k v)))\/
 ∃ kvs k b,H a=some (.dT kvs)/\y=.ref b/\H b=some (.tup (k.map kV))/\kvs.length < sizeLine/\H'=upd H a (.dT (putK kvs k v))
theorem DGet.k {H:Hp} {a:Addr} {kvs:List (Key×V)} {k:Key} (e:H a=some (.dK kvs)):DGet H a (kV k) (valV kvs k):=.inl ⟨kvs,k,.inl e,rfl,rfl⟩
theorem DGet.t {H:Hp} {a b:Addr} {kvs:List (List Key×V)} {k:List Key} (e:H a=some (.dT kvs)) (eb:H b=some (.tup (k.map kV))):DGet H a (.ref b) (valV kvs k):=.inr ⟨kvs,k,b,.inl e,rfl,eb,rfl⟩
theorem DPut.k {H:Hp} {a:Addr} {kvs:List (Key×V)} {k:Key} {v:V} (e:H a=some (.dK kvs)) (hl:kvs.length < sizeLine):DPut H a (kV k) v (upd H a (.dK (putK kvs k v))):=.inl ⟨kvs,k,e,rfl,hl,rfl⟩
theorem DPut.t {H:Hp} {a b:Addr} {kvs:List (List Key×V)} {k:List Key} {v:V} (e:H a=some (.dT kvs)) (eb:H b=some (.tup (k.map kV))) (hl:kvs.length < sizeLine):
  DPut H a (.ref b) v (upd H a (.dT (putK kvs k v))):=.inr ⟨kvs,k,b,e,rfl,eb,hl,rfl⟩
section
variable {X:Cx} {pins:List (Addr×Obj)} {σ:St} {H:Hp} {s:Shared} {a:Addr} {y v:V} {u r:Value} {o:Option V} {A:Around} {E:Value->Shared->Prop}
theorem Inv.big (I:Inv X pins σ H s):sysModules < s.heap.objs.size:=by
 have h:mainGlobals < s.heap.objs.size:=(I.mod.glob.keeps I.bk).lt
 exact Nat.lt_trans (by decide) h
theorem d_getItem {Q:Value->Shared->Prop} (hu:A.units+1 < cLine) (I:Inv X pins σ H s) (g:DGet H a y (some v)) (ry:RelV y u) (h:∀ w' s',Inv X pins σ H s'->RelV v w'->Q w' s'):
  wpAny (model X.prog X.w) A (getItem (.ref a) u) Q E s:=by
 rcases g with ⟨kvs,k,e,ey,l⟩ | ⟨kvs,k,b,e,ey,eb,l⟩
 ·subst ey
  obtain ⟨z,hd,vs,rel,dd⟩:=dk_rd I.hok e
  obtain ⟨w',hw,rw'⟩:=RelO.some_of (v:=v) (o:=valueAt vs k) (by rw [l];exact rel.val k)
  exact wpAny_getItem_of (kV_is ry) dd.mapOf hw (h w' _ (I.tok _) rw')
 ·subst ey
  cases (show u=Value.ref b from ry)
  obtain ⟨z,hd,xs,rel,dd⟩:=dt_rd I.hok e
  obtain ⟨w',hw,rw'⟩:=RelO.some_of (v:=v) (o:=(atKey xs k).map (·.2)) (by rw [l];exact rel.val k)
  obtain ⟨p,hp,hp2⟩:=Option.map_eq_some_iff.mp hw
  refine wpAny_getItem_heap (tupleKind_room_in1 hu) (key_of I.hok eb) dd hp ?_
  rw [hp2]
  exact h w' _ (I.tok _) rw'
theorem d_notIn {Q:Value->Shared->Prop} (hu:A.units+1 < cLine) (I:Inv X pins σ H s) (g:DGet H a y o) (ry:RelV y u) (h:∀ s',Inv X pins σ H s'->Q (.bool (!o.isSome)) s'):
  wpAny (model X.prog X.w) A (compareOp .NotIn u (.ref a)) Q E s:=by
 rcases g with ⟨kvs,k,e,ey,l⟩ | ⟨kvs,k,b,e,ey,eb,l⟩
 ·subst ey
  obtain ⟨z,hd,vs,rel,dd⟩:=dk_rd I.hok e
  refine wpAny_notIn_of (kV_is ry) hd dd.mapOf ?_
  rw [← (rel.val k).isSome_eq,← l]
  exact h _ (I.tok _)
 ·subst ey
  cases (show u=Value.ref b from ry)
  obtain ⟨z,hd,xs,rel,dd⟩:=dt_rd I.hok e
  refine wpAny_notIn_heap (tupleKind_room_in1 hu) (key_of I.hok eb) hd dd ?_
  have q:=(rel.val k).isSome_eq
  rw [Option.isSome_map] at q
  rw [← q,← l]
  exact h _ (I.tok _)
theorem d_write {h':Heap} {t':Nat} {ob:HO} (I:Inv X pins σ H s) (mu:Mut (H a)) (hs:Heap.SameBut a s.heap h') (he:∃ q,h'.get? a=some q) (new:ObjOk X.prog X.w (upd H a ob) h' a ob):
  Inv X pins σ (upd H a ob) { s with heap:=h',toks:=t' }:=
 I.write (x:=a) (e:=a) mu (.inl rfl) (fun b q hb z=>(hs.2 b hb).trans z) he new
theorem dk_new {P:Program} {w:World} {H':Hp} {h':Heap} {kvs:List (Key×V)} {vs:List (Key×Value)} (z:kvs.length<=sizeLine) (hd:(a == sysModules)=false) (rel:KV kvs vs) (dd:h'.DictOf (mixKind P w) a vs):
  ObjOk P w H' h' a (.dK kvs):=⟨z,hd,vs,rel,dd⟩
theorem d_setItem {H':Hp} {Q:Unit->Shared->Prop} (hu:A.units+1 < cLine) (I:Inv X pins σ H s) (g:DPut H a y v H') (ry:RelV y u) (rv:RelV v r) (h:∀ s',Inv X pins σ H' s'->Q () s'):
  wpAny (model X.prog X.w) A (setItem (.ref a) u r) Q E s:=by
 rcases g with ⟨kvs,k,e,ey,l,eH⟩ | ⟨kvs,k,b,e,ey,eb,l,eH⟩
 ·subst ey eH
  obtain ⟨z,hd,vs,rel,dd⟩:=dk_of I.hok e
  have hz:vs.length<=sizeLine:=by rw [← rel.length];exact z
  have hl:(putK kvs k v).length<=sizeLine:=by have:=length_putK kvs k v;omega
  refine wpAny_setItem_pairs (hsz:=hz) (kV_is ry) dd fun h' dd' hs=>h _ ?_
  have he:∃ q,h'.get? a=some q:=let ⟨q,_,_,hq,_⟩:=dd';⟨q,hq⟩
  exact d_write I (by rw [e];exact True.intro) hs he (dk_new hl hd (rel.put k rv) dd')
 ·subst ey eH
  cases (show u=Value.ref b from ry)
  obtain ⟨z,hd,xs,rel,dd⟩:=dt_of I.hok e
  have hz:xs.length<=sizeLine:=by rw [← Paired.length rel];exact z
  have hl:(putK kvs k v).length<=sizeLine:=by have:=length_putK kvs k v;omega
  refine wpAny_setItem_heap (hsz:=hz) (tupleKind_room_in1 hu) (key_of I.hok eb) dd fun h' dd' hs=>h _ ?_
  obtain ⟨q,es,ep,hq,h2,h3,h4,_,h5⟩:=dd'
  refine d_write I (by rw [e];exact True.intro) hs ⟨q,hq⟩ ⟨hl,hd,_,(rel.put k eb rv).keeps fun c ys ec=>?_,q,es,ep,hq,h2,h3,h4,h5⟩
  rw [upd_ne (ne_of ec e (fun z=>nomatch z))]
  exact ec
end
section
variable {X:Cx} {pins:List (Addr×Obj)} {σ:St} {H:Hp} {s:Shared} {a:Addr} {kvs:List (Key×V)} {k:Key} {u:Value} {A:Around} {E:Value->Shared->Prop}
theorem d_pop {v:V} {more:List Value} {Q:Value->Shared->Prop} (I:Inv X pins σ H s) (e:H a=some (.dK kvs)) (ry:RelV (kV k) u) (l:valV kvs k=some v) (hm:more=[]\/∃ x,more=[x])
  (h:∀ w' s',Inv X pins σ (upd H a (.dK (dropK kvs k))) s'->RelV v w'->Q w' s'):wpAny (model X.prog X.w) A (call (.builtin "dict.pop") (.ref a::u::more)) Q E s:=by
 obtain ⟨z,hd,vs,rel,dd⟩:=dk_of I.hok e
 obtain ⟨w',hw,rw'⟩:=RelO.some_of (v:=v) (o:=valueAt vs k) (by rw [← l];exact rel.val k)
 have hp:(keyPart u).isSome=true:=by
  cases k with
  | inl i=>obtain ⟨t,q⟩:=(show ∃ t,u=Value.int i t from ry);subst q;rfl
  | inr x=>obtain ⟨t,q⟩:=(show ∃ t,u=Value.str x t from ry);subst q;rfl
 have ha:argsOk "dict.pop" ⟨.ref a::u::more,[]⟩:=by
  rcases hm with q | ⟨x,q⟩
  ·subst q;exact PySem.F.args_dict_pop_2 _ _
  ·subst q;exact PySem.F.args_dict_pop_3 _ _ _
 refine call_meetsIn PySem.F.slot_dict_pop dd.typeIs PySem.F.entry_dict_pop ha (meets_dict_pop_there (mixKind X.prog X.w) a (kV_is ry) more hm hp)
  ⟨vs,w',dd,by rw [← rel.length];exact z,hw,fun h' dd' hs=>h w' _ ?_ rw'⟩
 have he:∃ q,h'.get? a=some q:=let ⟨q,_,_,hq,_⟩:=dd';⟨q,hq⟩
 exact d_write I (by rw [e];exact True.intro) hs he (dk_new (Nat.le_trans (dropK_le kvs k) z) hd (rel.drop k) dd')
theorem d_len {Q:Value->Shared->Prop} (I:Inv X pins σ H s) (e:Rd H a (.dK kvs)) (h:∀ t s',Inv X pins σ H s'->Q (.int kvs.length t) s'):wpAny (model X.prog X.w) A (call (.builtin "len") [.ref a]) Q E s:=by
 obtain ⟨z,hd,vs,rel,dd⟩:=dk_rd I.hok e
 refine call_len_dict hd dd (by rw [← rel.length];rw [sizeLine_eq] at z;omega) ?_
 rw [← rel.length]
 exact h _ _ (I.tok _)
end
def NoSl (i:Expr):Prop:=∀ ov iv,subscripted i false ov iv=operate [ov,iv] (getItem ov iv)
theorem subD_of {prog:Program} {w:World} {A:Around} {E:Value->Shared->Prop} {s:Shared} {env:Env} {value slice:Expr} {pos:Pos} {T id:String} {Q:Value->Shared->Prop}
  (hl:typeLookup (.type T) "__getitem__"=pure (some (.builtin id))) (hs:NoSl slice)
  (h:wpAny (model prog w) A (eval value env) (fun o s₁=>wpAny (model prog w) A (eval slice env) (fun i s₂=>s₂.TypeIs o T/\wpAny (model prog w) A (getItem o i) Q E s₂) E s₁) E s):
  wpAny (model prog w) A (eval (.Subscript value slice pos) env) Q E s:=by
 refine Subscript_ (wpAny_mono h (fun o s₁ h₁=>wpAny_mono h₁ (fun i s₂ h₂=>?_) fun _ _ x=>x) fun _ _ x=>x)
 obtain ⟨hT,h₂⟩:=h₂
 unfold subscriptTail
 refine wpAny_bind ?_
 rw [getitemInPython_of_ne hT.not_modules]
 refine wpAny_bind (wpAny_specialOf hT hl ?_)
 have fin:wpAny (model prog w) A (subscripted slice false o i) (fun r s₃=>wpAny (model prog w) A (letTemporaryGo value o r >>= fun _=>pure r) Q E s₃) E s₂:=by
  rw [hs o i]
  exact wpAny_operating (wpAny_mono h₂ (fun r s₃ h₃=>wpAny_bind (wpAny_letTemporaryGo (wpAny_pure h₃))) fun _ _ x=>x)
 first
  | exact wpAny_pure (wpAny_bind fin)
  | exact wpAny_bind (wpAny_pure (wpAny_bind fin))
  | exact wpAny_bind fin
theorem dict_typeIs {X:Cx} {pins:List (Addr×Obj)} {σ:St} {H:Hp} {s:Shared} {a:Addr} {y:V} {o:Option V} (I:Inv X pins σ H s) (g:DGet H a y o):s.TypeIs (.ref a) "dict":=by
 rcases g with ⟨kvs,k,e,_,_⟩ | ⟨kvs,k,b,e,_,_,_⟩
 ·obtain ⟨_,_,vs,_,dd⟩:=dk_rd I.hok e
  exact dd.typeIs
 ·obtain ⟨_,_,xs,_,dd⟩:=dt_rd I.hok e
  exact dd.typeIs
def tDGet (td ty:TE):TE:=fun σ H Q=>td σ H fun x H1=>ty σ H1 fun y H2=>∃ a v,x=.ref a/\DGet H2 a y (some v)/\Q v H2
def tDNotIn (ty td:TE):TE:=fun σ H Q=>ty σ H fun y H1=>td σ H1 fun x H2=>∃ a o,x=.ref a/\DGet H2 a y o/\Q (.bl (!o.isSome)) H2
def sDPut (td ty tv:TE):TS:=fun D σ H=>tv σ H fun v H1=>td σ H1 fun x H2=>ty σ H2 fun y H3=>∃ a H4,x=.ref a/\DPut H3 a y v H4/\D.nx σ H4
section
variable {X:Cx} {o i e value:Expr} {pos pos' tpos:Pos} {td ty tv:TE}
theorem pe_dget (hu:X.A.units+1 < cLine) (ho:PE X o td) (hi:PE X i ty) (hs:NoSl i):PE X (.Subscript o i pos) (tDGet td ty):=by
 intro pins s σ H Q I h
 refine subD_of PySem.F.slot_dict_getitem.lookup hs (thn (ho pins s σ H _ I h) fun u s1 ⟨x,H1,I1,rx,q1⟩=>thn (hi pins s1 σ H1 _ I1 q1) fun iv s2 ⟨y,H2,I2,ry,a,v,ex,g,q2⟩=>?_)
 subst ex
 obtain rfl:u=Value.ref a:=rx
 exact ⟨dict_typeIs I2 g,d_getItem hu I2 g ry fun w' s3 I3 rw'=>⟨v,H2,I3,rw',q2⟩⟩
theorem pc_dnotin (hu:X.A.units+1 < cLine) (hi:PE X i ty) (ho:PE X o td):PC X .NotIn i o (tDNotIn ty td):=by
 intro pins s σ H Q I h
 refine thn (hi pins s σ H _ I h) fun iv s1 ⟨y,H1,I1,ry,q1⟩=>thn (ho pins s1 σ H1 _ I1 q1) fun u s2 ⟨x,H2,I2,rx,a,ov,ex,g,q2⟩=>?_
 subst ex
 obtain rfl:u=Value.ref a:=rx
 exact d_notIn hu I2 g ry fun s3 I3=>⟨.bl (!ov.isSome),H2,I3,rfl,q2⟩
theorem ps_dput (hu:X.A.units+1 < cLine) (ho:PE X o td) (hi:PE X i ty) (hv:PE X value tv) (hs:swapsWith value (some (.Subscript o i pos')) pos.line X.env=pure false):
  PS X (.Assign [.Subscript o i pos'] value pos) (sDPut td ty tv):=by
 intro pins s σ H D I h
 refine wpAny_Assign_Subscript (thn (hv pins s σ H _ I h) fun r s1 ⟨v,H1,I1,rv,q1⟩=>thn (ho pins s1 σ H1 _ I1 q1) fun u s2 ⟨x,H2,I2,rx,q2⟩=>thn (hi pins s2 σ H2 _ I2 q2) fun iv s3 ⟨y,H3,I3,ry,a,H4,ex,g,q3⟩=>?_) hs
 subst ex
 obtain rfl:u=Value.ref a:=rx
 exact d_setItem hu I3 g ry rv fun s4 I4=>⟨σ,H4,I4,q3⟩
end
theorem dk_empty {P:Program} {w:World} {H:Hp} (h:Heap) (hb:sysModules < h.objs.size):ObjOk P w H (h.push { cls:=.type "dict",data:=.dict #[] }) h.objs.size (.dK []):=
 ⟨Nat.zero_le _,beq_eq_false_iff_ne.mpr (Ne.symm (Nat.ne_of_lt hb)),[],.nil,Heap.DictOf.new h⟩
def tDNewK:TE:=fun _ H Q=>∀ p,H p=none->Q (.ref p) (upd H p (.dK []))
section
variable {X:Cx} {pos:Pos}
theorem pe_dnewK:PE X (.Dict [] [] pos) tDNewK:=fun pins s σ H Q I h=>
 wpAny_Dict_empty ⟨.ref s.heap.objs.size,_,I.laid (a:=s.heap.objs.size) (o:=.dK []) (t':=s.toks) (fun _ _ q=>Heap.get?_push_of_some _ q) (Nat.le_refl _) (dk_empty s.heap I.big),rfl,h _ (I.hok.fresh (Nat.le_refl _))⟩
end
def tPairs:List (TE×TE)->St->Hp->(List (V×V)->Hp->Prop)->Prop
 | [],_,H,Q=>Q [] H
 | (tk,tv)::r,σ,H,Q=>tk σ H fun x H1=>tv σ H1 fun y H2=>tPairs r σ H2 fun ps H3=>Q ((x,y)::ps) H3
abbrev VV:List (V×V)->List (Value×Value)->Prop:=Paired fun p q=>RelV p.1 q.1/\RelV p.2 q.2
def PPs (X:Cx) (pos:Pos) (keys:List (Option Expr)) (values:List Expr) (trs:List (TE×TE)):Prop:=
 ∀ (pins:List (Addr×Obj)) (s:Shared) (σ:St) (H:Hp) (Q:List (V×V)->Hp->Prop),Inv X pins σ H s->tPairs trs σ H Q->
  wpAny (model X.prog X.w) X.A (evalPairs (pairTrees keys values X.env pos)) (fun vs s'=>∃ ps H',Inv X pins σ H' s'/\VV ps vs/\Q ps H') X.xe s
theorem pps_nil {X:Cx} {pos:Pos}:PPs X pos [] [] []:=fun pins s σ H Q I h=>pairTrees_nil_walk ⟨[],H,I,.nil,h⟩
theorem pps_cons {X:Cx} {pos:Pos} {k v:Expr} {ks:List (Option Expr)} {vs:List Expr} {tk tv:TE} {trs:List (TE×TE)} (hk:PE X k tk) (hv:PE X v tv) (hr:PPs X pos ks vs trs):
  PPs X pos (some k::ks) (v::vs) ((tk,tv)::trs):=fun pins s σ H Q I h=>
 pairTrees_cons_walk (thn (hk pins s σ H _ I h) fun u s1 ⟨x,H1,I1,rx,q1⟩=>thn (hv pins s1 σ H1 _ I1 q1) fun w2 s2 ⟨y,H2,I2,ry,q2⟩=>
  thn (hr pins s2 σ H2 _ I2 q2) fun ws s3 ⟨ps,H3,I3,rel,q3⟩=>⟨(x,y)::ps,H3,I3,.cons ⟨rx,ry⟩ rel,q3⟩)
def mergeK (kvs more:List (Key×V)):List (Key×V):=more.foldl (fun acc kv=>putK acc kv.1 kv.2) kvs
theorem KV.merge:∀ {more:List (Key×V)} {rs:List (Key×Value)} {kvs:List (Key×V)} {vs:List (Key×Value)},KV more rs->KV kvs vs->KV (mergeK kvs more) (merged vs rs):=by
 intro more rs kvs vs r
 unfold KV at r
 induction r generalizing kvs vs with
 | nil=>intro q;exact q
 | @cons p q ps qs h t ih=>
  intro r0
  have e:KV (putK kvs p.1 p.2) (stored vs q.1 q.2):=by
   have:=r0.put p.1 h.2
   rw [← h.1];exact this
  exact ih e
theorem length_mergeK:∀ (more kvs:List (Key×V)),(mergeK kvs more).length<=kvs.length+more.length
 | [],kvs=>by show kvs.length<=kvs.length+0;omega
 | p::r,kvs=>by
  have h1:=length_mergeK r (putK kvs p.1 p.2)
  have h2:=length_putK kvs p.1 p.2
  show (mergeK (putK kvs p.1 p.2) r).length<=_
  rw [List.length_cons];omega
theorem carries_of {P:Program} {w:World}:∀ {kvs:List (Key×V)} {ws:List (Value×Value)},VV (kvs.map fun kv=>(kV kv.1,kv.2)) ws->∃ rs,Carries (mixKind P w) ws rs/\KV kvs rs
 | [],_,r=>by rw [List.map_nil] at r;cases r;exact ⟨[],True.intro,.nil⟩
 | p::kvs,_,r=>by
  rw [List.map_cons] at r
  cases r with
  | @cons a b as bs h t=>
   obtain ⟨rs,c,q⟩:=carries_of (P:=P) (w:=w) t
   obtain ⟨b1,b2⟩:=b
   exact ⟨(p.1,b2)::rs,⟨kV_is h.1,rfl,c⟩,.cons ⟨rfl,h.2⟩ q⟩
def tDisp (trs:List (TE×TE)):TE:=fun σ H Q=>∀ p,H p=none->tPairs trs σ (upd H p (.dK [])) fun ps H2=>H2 p=some (.dK [])/\∃ kvs:List (Key×V),ps=kvs.map (fun kv=>(kV kv.1,kv.2))/\kvs.length<=15/\Q (.ref p) (upd H2 p (.dK (mergeK [] kvs)))
theorem pe_disp {X:Cx} {pos:Pos} {keys:List (Option Expr)} {values:List Expr} {trs:List (TE×TE)} (h:PPs X pos keys values trs) (hall:keys.all (·.isSome)=true) (hl:keys.length=values.length) (h0:keys≠[])
  (h15:keys.length<=15):PE X (.Dict keys values pos) (tDisp trs):=by
 intro pins s σ H Q I q
 have hn:=I.hok.fresh (Nat.le_refl s.heap.objs.size)
 have I1:=I.laid (a:=s.heap.objs.size) (o:=.dK []) (h':=s.heap.push { cls:=.type "dict",data:=.dict #[] }) (t':=s.toks) (fun _ _ q=>Heap.get?_push_of_some _ q) (Nat.le_refl _) (dk_empty s.heap I.big)
 refine wpAny_Dict_walk (knd:=mixKind X.prog X.w) hall hl h0 h15 (thn (h pins _ σ _ _ I1 (q _ hn)) fun ws s2 ⟨ps,H2,I2,rel,e,kvs,ep,lk,q2⟩=>?_)
 subst ep
 obtain ⟨rs,c,rk⟩:=carries_of (P:=X.prog) (w:=X.w) rel
 obtain ⟨z,hd,vs0,r0,dd⟩:=dk_of I2.hok e
 cases r0
 refine ⟨rs,c,dd,fun h' dd' hs=>⟨.ref s.heap.objs.size,_,?_,rfl,q2⟩⟩
 have hz:(mergeK [] kvs).length<=sizeLine:=by
  have h1:=length_mergeK kvs []
  rw [List.length_nil] at h1
  rw [sizeLine_eq];omega
 have he:∃ q,h'.get? s.heap.objs.size=some q:=let ⟨q,_,_,hq,_⟩:=dd';⟨q,hq⟩
 exact d_write I2 (by rw [e];exact True.intro) hs he (dk_new hz hd (rk.merge .nil) dd')
def IsD (H:Hp) (a:Addr):Prop:=(∃ kvs,Rd H a (.dK kvs))\/∃ kvs,Rd H a (.dT kvs)
theorem isD_at {X:Cx} {pins:List (Addr×Obj)} {σ:St} {H:Hp} {s:Shared} {a:Addr} (I:Inv X pins σ H s) (d:IsD H a):
  s.TypeIs (.ref a) "dict"/\(∀ b,Value.ref a=.ref b->∃ ob,s.heap.get? b=some ob/\ob.dict=none)/\(a == sysModules)=false:=by
 rcases d with ⟨kvs,e⟩ | ⟨kvs,e⟩
 ·obtain ⟨_,hd,vs,_,dd⟩:=dk_rd I.hok e
  refine ⟨dd.typeIs,fun b q=>?_,hd⟩
  cases q
  obtain ⟨ob,_,_,h1,h2,_⟩:=dd
  exact ⟨ob,h1,h2.2.1⟩
 ·obtain ⟨_,hd,xs,_,dd⟩:=dt_rd I.hok e
  refine ⟨dd.typeIs,fun b q=>?_,hd⟩
  cases q
  obtain ⟨ob,_,_,h1,h2,_⟩:=dd
  exact ⟨ob,h1,h2.2.1⟩
section
variable {X:Cx} {pins:List (Addr×Obj)} {σ:St} {H:Hp} {s:Shared} {a:Addr} {y d:V} {u r:Value} {o:Option V} {A:Around} {E:Value->Shared->Prop}
theorem d_get2 {Q:Value->Shared->Prop} (hu:A.units+1 < cLine) (I:Inv X pins σ H s) (g:DGet H a y o) (ry:RelV y u) (rd:RelV d r) (h:∀ w' s',Inv X pins σ H s'->RelV (o.getD d) w'->Q w' s'):
  wpAny (model X.prog X.w) A (call (.builtin "dict.get") [.ref a,u,r]) Q E s:=by
 rcases g with ⟨kvs,k,e,ey,l⟩ | ⟨kvs,k,b,e,ey,eb,l⟩
 ·subst ey
  obtain ⟨z,hd,vs,rel,dd⟩:=dk_rd I.hok e
  refine call_meetsIn PySem.F.slot_dict_get dd.typeIs PySem.F.entry_dict_get (PySem.F.args_dict_get_3 _ _ _) (meets_dict_get_default (mixKind X.prog X.w) a (kV_is ry) hd r) ⟨_,dd.mapOf,h _ _ (I.tok _) ?_⟩
  rw [l]
  exact (rel.val k).getD rd
 ·subst ey
  cases (show u=Value.ref b from ry)
  obtain ⟨z,hd,xs,rel,dd⟩:=dt_rd I.hok e
  refine call_meetsIn PySem.F.slot_dict_get dd.typeIs PySem.F.entry_dict_get (PySem.F.args_dict_get_3 _ _ _) (meetsH_dict_get_default (tupleKind (mixKind X.prog X.w)) a b hd r) ⟨tupleKind_room_in1 hu,k,xs,key_of I.hok eb,dd,h _ _ (I.tok _) ?_⟩
  rw [l]
  exact (rel.val k).getD rd
end
section
variable {X:Cx} {o e f:Expr} {apos cpos:Pos} {td ty tx:TE}
end
section
variable {X:Cx} {pins:List (Addr×Obj)} {σ:St} {H:Hp} {s:Shared} {a:Addr} {kvs:List (Key×V)} {A:Around} {E:Value->Shared->Prop}
end
section
variable {X:Cx} {pins:List (Addr×Obj)} {σ:St} {H:Hp} {s:Shared} {a:Addr} {y:V} {u:Value} {A:Around} {E:Value->Shared->Prop}
end
end L2
namespace L2
open PySem PySem.Spec PyProof.Rows
section
variable {X:Cx}
theorem call_lenD:CallR X (.builtin "len") (fun xs H Q=>∃ a kvs,xs=[V.ref a]/\H a=some (.dK kvs)/\Q (.int kvs.length) H):=by
 intro pins s σ H xs us Q I r h
 obtain ⟨a,kvs,rfl,ha,q⟩:=h
 obtain ⟨u,rfl,ru⟩:=vals1 r
 cases ru
 exact d_len I (.inl ha) fun t s' I'=>⟨.int kvs.length,H,I',⟨t,rfl⟩,q⟩
end
end L2
namespace L2
open PySem PySem.Spec PyProof.Rows
section
variable {κ:Type} [DecidableEq κ]
end
end L2
namespace DL
open PySem PySem.Spec L2
open PyProof.Rows hiding St
inductive D where
 | non | bl (b:Bool) | int (i:Int) | str (x:List Nat) | tup (xs:List D) | lst (xs:List D) | hnd (k:Nat) | scr (ns:List Int)
abbrev DK:=Sum Int (List Nat)
def kK:DK->Key
 | .inl i=>.inl i
 | .inr x=>.inr ⟨x.toArray⟩
inductive Cell where
 | lst (xs:List D)
 | dct (kvs:List (DK×D))
 | ins (C:Addr) (fs:List (Str×D))
 | exn (cls:Value) (fs:List (Str×D))
 | dead
structure Exc where
 cls:Value
 fs:List (Str×D)
inductive Out (α:Type) where
 | ok (x:α) (c:List Cell)
 | exc (x:Exc) (c:List Cell)
abbrev M (α:Type):=List Cell->Option (Out α)
def M.ret {α:Type} (x:α):M α:=fun c=>some (.ok x c)
def M.stuck {α:Type}:M α:=fun _=>none
def M.bd {α β:Type} (m:M α) (f:α->M β):M β:=fun c=>match m c with
 | some (.ok x c')=>f x c'
 | some (.exc e c')=>some (.exc e c')
 | none=>none
theorem ret_bd {α β:Type} (x:α) (f:α->M β):(M.ret x).bd f=f x:=rfl
abbrev L:=List (Option D)
abbrev Ow:=List (Option Addr)
abbrev ED:=L->M D
abbrev TD:=L->M Bool
abbrev AD:=L->M (List D)
inductive Fl where
 | nx (l:L) | ret (d:D) | bk (l:L) | ct (l:L)
abbrev SD:=L->M Fl
def Scr (K:Frag) (H:Hp) (O:Ow) (a:Addr) (xs:List V):Prop:=
 (∃ o,H a=some (.frz o (.lst xs))/\some a∉O)\/
  ∃ (o:Obj) (its:Array Value) (n:Nat),K.lookup a=some o/\o.cls=.type "list"/\o.dict=none/\o.data=.seq its n/\its.size<=sizeLine/\Vals xs its.toList
theorem Scr.sq {K:Frag} {H:Hp} {O:Ow} {a:Addr} {xs:List V} (h:Scr K H O a xs):SqL K H a xs:=by
 rcases h with ⟨o,h,_⟩ | h
 ·exact .inl (.inr ⟨o,h⟩)
 ·exact .inr h
mutual
inductive Rep (K:Frag) (H:Hp) (O:Ow):V->D->Prop where
 | non:Rep K H O .non .non
 | bl (b:Bool):Rep K H O (.bl b) (.bl b)
 | int (i:Int):Rep K H O (.int i) (.int i)
 | str (x:List Nat):Rep K H O (.str ⟨x.toArray⟩) (.str x)
 | tup {a:Addr} {vs:List V} {xs:List D} (h:H a=some (.tup vs)) (n:some a∉O) (r:Reps K H O vs xs):Rep K H O (.ref a) (.tup xs)
 | lst {a:Addr} {vs:List V} {xs:List D} (h:H a=some (.lst vs)) (n:some a∉O) (r:Reps K H O vs xs):Rep K H O (.ref a) (.lst xs)
 | scr {a:Addr} {ns:List Int} (h:Scr K H O a (ns.map V.int)):Rep K H O (.ref a) (.scr ns)
 | hnd {a:Addr} {k:Nat} (h:O[k]?=some (some a)):Rep K H O (.ref a) (.hnd k)
inductive Reps (K:Frag) (H:Hp) (O:Ow):List V->List D->Prop where
 | nil:Reps K H O [] []
 | cons {v:V} {d:D} {vs:List V} {ds:List D} (h:Rep K H O v d) (t:Reps K H O vs ds):Reps K H O (v::vs) (d::ds)
end
structure Ext (H:Hp) (O:Ow) (H':Hp) (O':Ow):Prop where
 keep:∀ b o,H b=some o->some b∉O->H' b=some o
 pre:∀ (k:Nat) (a:Addr),O[k]?=some (some a)->O'[k]?=some (some a)
 fresh:∀ a,some a∈O'->some a∈O\/H a=none
theorem Ext.refl (H:Hp) (O:Ow):Ext H O H O:=⟨fun _ _ h _=>h,fun _ _ h=>h,fun _ h=>.inl h⟩
theorem Ext.notin {H H':Hp} {O O':Ow} (e:Ext H O H' O') {b:Addr} {o:HO} (h:H b=some o) (n:some b∉O):some b∉O':=fun m=>by
 rcases e.fresh b m with q | q
 ·exact n q
 ·rw [h] at q;cases q
theorem Ext.trans {H H1 H2:Hp} {O O1 O2:Ow} (e:Ext H O H1 O1) (f:Ext H1 O1 H2 O2):Ext H O H2 O2 where
 keep:=fun b o h n=>f.keep b o (e.keep b o h n) (e.notin h n)
 pre:=fun k a h=>f.pre k a (e.pre k a h)
 fresh:=fun a h=>by
  rcases f.fresh a h with q | q
  ·exact e.fresh a q
  ·cases z:H a with
   | none=>exact .inr rfl
   | some o=>
    by_cases m:some a∈O
    ·exact .inl m
    ·rw [e.keep a o z m] at q;cases q
theorem Scr.mono {K:Frag} {H H':Hp} {O O':Ow} {a:Addr} {xs:List V} (e:Ext H O H' O') (h:Scr K H O a xs):Scr K H' O' a xs:=by
 rcases h with ⟨o,h,n⟩ | h
 ·exact .inl ⟨o,e.keep _ _ h n,e.notin h n⟩
 ·exact .inr h
mutual
theorem Rep.mono {K:Frag} {H H':Hp} {O O':Ow} (e:Ext H O H' O'):∀ {v:V} {d:D},Rep K H O v d->Rep K H' O' v d
 | _,_,.non=>.non
 | _,_,.bl b=>.bl b
 | _,_,.int i=>.int i
 | _,_,.str x=>.str x
 | _,_,.tup h n r=>.tup (e.keep _ _ h n) (e.notin h n) (Reps.mono e r)
 | _,_,.lst h n r=>.lst (e.keep _ _ h n) (e.notin h n) (Reps.mono e r)
 | _,_,.scr h=>.scr (h.mono e)
 | _,_,.hnd h=>.hnd (e.pre _ _ h)
theorem Reps.mono {K:Frag} {H H':Hp} {O O':Ow} (e:Ext H O H' O'):∀ {vs:List V} {ds:List D},Reps K H O vs ds->Reps K H' O' vs ds
 | _,_,.nil=>.nil
 | _,_,.cons h t=>.cons (Rep.mono e h) (Reps.mono e t)
end
theorem Reps.length {K:Frag} {H:Hp} {O:Ow}:∀ {vs:List V} {ds:List D},Reps K H O vs ds->vs.length=ds.length
 | _,_,.nil=>rfl
 | _,_,.cons _ t=>congrArg (·+1) (Reps.length t)
theorem Reps.append {K:Frag} {H:Hp} {O:Ow}:∀ {vs:List V} {ds:List D} {us:List V} {es:List D},Reps K H O vs ds->Reps K H O us es->Reps K H O (vs++us) (ds++es)
 | _,_,_,_,.nil,r=>r
 | _,_,_,_,.cons h t,r=>.cons h (Reps.append t r)
theorem Reps.get {K:Frag} {H:Hp} {O:Ow}:∀ {vs:List V} {ds:List D} {i:Nat} {d:D},Reps K H O vs ds->ds[i]?=some d->∃ v,vs[i]?=some v/\Rep K H O v d
 | _,_,_,_,.nil,e=>by simp at e
 | _,_,0,_,.cons h _,e=>by simp at e;subst e;exact ⟨_,rfl,h⟩
 | _,_,i+1,d,.cons _ t,e=>by
  obtain ⟨u,h1,h2⟩:=Reps.get (i:=i) (d:=d) t (by simpa using e)
  exact ⟨u,by simpa using h1,h2⟩
theorem Reps.take {K:Frag} {H:Hp} {O:Ow}:∀ {vs:List V} {ds:List D} (n:Nat),Reps K H O vs ds->Reps K H O (vs.take n) (ds.take n)
 | _,_,0,_=>.nil
 | _,_,_+1,.nil=>.nil
 | _,_,n+1,.cons h t=>.cons h (Reps.take n t)
theorem Reps.drop {K:Frag} {H:Hp} {O:Ow}:∀ {vs:List V} {ds:List D} (n:Nat),Reps K H O vs ds->Reps K H O (vs.drop n) (ds.drop n)
 | _,_,0,r=>r
 | _,_,_+1,.nil=>.nil
 | _,_,n+1,.cons _ t=>Reps.drop n t
theorem Reps.set {K:Frag} {H:Hp} {O:Ow} {v:V} {d:D} (h:Rep K H O v d):∀ {vs:List V} {ds:List D} (i:Nat),Reps K H O vs ds->Reps K H O (vs.set i v) (ds.set i d)
 | _,_,_,.nil=>.nil
 | _,_,0,.cons _ t=>.cons h t
 | _,_,i+1,.cons q t=>.cons q (Reps.set h i t)
theorem Reps.ints {K:Frag} {H:Hp} {O:Ow}:∀ (ns:List Int),Reps K H O (ns.map V.int) (ns.map D.int)
 | []=>.nil
 | n::r=>.cons (.int n) (Reps.ints r)
def KReps (K:Frag) (H:Hp) (O:Ow) (as:List (Key×V)) (bs:List (DK×D)):Prop:=as.map (·.1)=bs.map (fun p=>kK p.1)/\Reps K H O (as.map (·.2)) (bs.map (·.2))
def FReps (K:Frag) (H:Hp) (O:Ow) (as:List (Str×V)) (bs:List (Str×D)):Prop:=as.map (·.1)=bs.map (·.1)/\Reps K H O (as.map (·.2)) (bs.map (·.2))
def excO (a:Addr) (cls:Value) (dx:Option Addr):HO:=.ext fun h=>∃ o,h.get? a=some o/\o.cls=cls/\o.dict=dx/\∃ ws,o.data=.fields ws
def XF (K:Frag) (H:Hp) (O:Ow) (dx:Option Addr) (fs:List (Str×D)):Prop:=match dx with
 | none=>fs=[]
 | some b=>some b∉O/\∃ us,H b=some (.xd us)/\FReps K H O us fs
theorem XF.mono {K:Frag} {H H':Hp} {O O':Ow} {dx:Option Addr} {fs:List (Str×D)} (e:Ext H O H' O') (h:XF K H O dx fs):XF K H' O' dx fs:=by
 cases dx with
 | none=>exact h
 | some b=>
  obtain ⟨n,us,h1,h2⟩:=h
  exact ⟨e.notin h1 n,us,e.keep _ _ h1 n,h2.1,h2.2.mono e⟩
def CellAt (K:Frag) (H:Hp) (O:Ow) (k:Nat):Cell->Prop
 | .dead=>O[k]?=some none
 | .lst xs=>∃ a vs,O[k]?=some (some a)/\H a=some (.lst vs)/\Reps K H O vs xs
 | .dct kvs=>∃ a us,O[k]?=some (some a)/\H a=some (.dK us)/\KReps K H O us kvs/\(kvs.map (·.1)).Nodup
 | .ins C fs=>∃ a dx us,O[k]?=some (some a)/\H a=some (.ins C dx us)/\FReps K H O us fs
 | .exn cls fs=>∃ a dx,O[k]?=some (some a)/\H a=some (excO a cls dx)/\XF K H O dx fs
structure Cells (K:Frag) (H:Hp) (O:Ow) (c:List Cell):Prop where
 len:O.length=c.length
 at_:∀ (k:Nat) (x:Cell),c[k]?=some x->CellAt K H O k x
 inj:∀ (i j:Nat) (a:Addr),O[i]?=some (some a)->O[j]?=some (some a)->i=j
theorem Cells.there {K:Frag} {H:Hp} {O:Ow} {c:List Cell} (h:Cells K H O c) {a:Addr} (m:some a∈O):∃ o,H a=some o:=by
 obtain ⟨k,hk,e⟩:=List.mem_iff_getElem.mp m
 have hk':k < c.length:=by rw [← h.len];exact hk
 have e':O[k]?=some (some a):=by rw [List.getElem?_eq_getElem hk,e]
 have q:=h.at_ k c[k] (List.getElem?_eq_getElem hk')
 cases z:c[k] with
 | dead=>rw [z] at q;rw [show O[k]?=some none from q] at e';cases e'
 | lst xs=>rw [z] at q;obtain ⟨a',vs,q1,q2,_⟩:=q;rw [q1] at e';cases e';exact ⟨_,q2⟩
 | dct kvs=>rw [z] at q;obtain ⟨a',vs,q1,q2,_⟩:=q;rw [q1] at e';cases e';exact ⟨_,q2⟩
 | ins C fs=>rw [z] at q;obtain ⟨a',dx,vs,q1,q2,_⟩:=q;rw [q1] at e';cases e';exact ⟨_,q2⟩
 | exn cls fs=>rw [z] at q;obtain ⟨a',dx,q1,q2,_⟩:=q;rw [q1] at e';cases e';exact ⟨_,q2⟩
theorem Cells.fresh {K:Frag} {H:Hp} {O:Ow} {c:List Cell} (h:Cells K H O c) {p:Addr} (n:H p=none):some p∉O:=fun m=>by
 obtain ⟨o,e⟩:=h.there m
 rw [n] at e;cases e
theorem Ext.updN {H:Hp} {O:Ow} {p:Addr} {o:HO} (n:H p=none):Ext H O (upd H p o) O:=
 ⟨fun b u h _=>by rw [upd_ne (ne_of_none h n)];exact h,fun _ _ h=>h,fun _ h=>.inl h⟩
theorem Cells.ext {K:Frag} {H H':Hp} {O:Ow} {c:List Cell} (h:Cells K H O c) (s:∀ b o,H b=some o->H' b=some o):Cells K H' O c:=by
 have e:Ext H O H' O:=⟨fun b o q _=>s b o q,fun _ _ q=>q,fun _ q=>.inl q⟩
 refine ⟨h.len,fun k x q=>?_,h.inj⟩
 have z:=h.at_ k x q
 cases x with
 | dead=>exact z
 | lst xs=>obtain ⟨a,vs,q1,q2,q3⟩:=z;exact ⟨a,vs,q1,s _ _ q2,q3.mono e⟩
 | dct kvs=>obtain ⟨a,vs,q1,q2,q3,q4⟩:=z;exact ⟨a,vs,q1,s _ _ q2,⟨q3.1,q3.2.mono e⟩,q4⟩
 | ins C fs=>obtain ⟨a,dx,vs,q1,q2,q3⟩:=z;exact ⟨a,dx,vs,q1,s _ _ q2,q3.1,q3.2.mono e⟩
 | exn cls fs=>obtain ⟨a,dx,q1,q2,q3⟩:=z;exact ⟨a,dx,q1,s _ _ q2,q3.mono e⟩
theorem Cells.updN {K:Frag} {H:Hp} {O:Ow} {c:List Cell} {p:Addr} {o:HO} (h:Cells K H O c) (n:H p=none):Cells K (upd H p o) O c:=
 h.ext fun b u q=>by rw [upd_ne (ne_of_none q n)];exact q
def XRep (K:Frag) (H:Hp) (O:Ow) (cls:Value) (dx:Option Addr) (x:Exc):Prop:=
 cls=x.cls/\match dx with
  | none=>x.fs=[]
  | some a=>some a∉O/\∃ us,H a=some (.xd us)/\FReps K H O us x.fs
def Post {α:Type} (K:Frag) (E:XK) (H:Hp) (O:Ow) (P:α->Hp->Ow->List Cell->Prop):Option (Out α)->Prop
 | some (.ok x c)=>∀ H' O',Ext H O H' O'->Cells K H' O' c->P x H' O' c
 | some (.exc x c)=>∀ H' O' cls dx,Ext H O H' O'->Cells K H' O' c->XRep K H' O' cls dx x->E cls dx H'
 | none=>False
theorem Post.mono {α:Type} {K:Frag} {E:XK} {H H1:Hp} {O O1:Ow} {P:α->Hp->Ow->List Cell->Prop} {r:Option (Out α)} (e:Ext H O H1 O1) (h:Post K E H O P r):Post K E H1 O1 P r:=by
 cases r with
 | none=>exact h
 | some o=>
  cases o with
  | ok x c=>exact fun H' O' e'=>h H' O' (e.trans e')
  | exc x c=>exact fun H' O' cls dx e'=>h H' O' cls dx (e.trans e')
theorem Post.imp {α:Type} {K:Frag} {E:XK} {H:Hp} {O:Ow} {P P':α->Hp->Ow->List Cell->Prop} {r:Option (Out α)} (h:Post K E H O P r) (i:∀ x H' O' c,Ext H O H' O'->Cells K H' O' c->P x H' O' c->P' x H' O' c):Post K E H O P' r:=by
 cases r with
 | none=>exact h
 | some o=>
  cases o with
  | ok x c=>exact fun H' O' e' hc=>i x H' O' c e' hc (h H' O' e' hc)
  | exc x c=>exact h
theorem Post.bd {α β:Type} {K:Frag} {E:XK} {H:Hp} {O:Ow} {P:β->Hp->Ow->List Cell->Prop} {m:M α} {f:α->M β} {c:List Cell} (h:Post K E H O P (m.bd f c)):
  Post K E H O (fun x H1 O1 c1=>Post K E H1 O1 P (f x c1)) (m c):=by
 unfold M.bd at h
 cases z:m c with
 | none=>rw [z] at h;exact h
 | some o=>
  cases o with
  | ok x c1=>rw [z] at h;exact fun H' O' e _=>h.mono e
  | exc x c1=>rw [z] at h;exact h
theorem Post.ret {α:Type} {K:Frag} {E:XK} {H:Hp} {O:Ow} {P:α->Hp->Ow->List Cell->Prop} {x:α} {c:List Cell} (h:Post K E H O P (M.ret x c)) (hc:Cells K H O c):P x H O c:=h H O (Ext.refl H O) hc
structure Locs (K:Frag) (H:Hp) (O:Ow) (l:L) (σ:St):Prop where
 len:l.length=σ.length
 at_:∀ (i:Nat) (d:D),l[i]?=some (some d)->∃ v,σ[i]?=some (some v)/\Rep K H O v d
theorem Locs.mono {K:Frag} {H H':Hp} {O O':Ow} {l:L} {σ:St} (e:Ext H O H' O') (h:Locs K H O l σ):Locs K H' O' l σ:=
 ⟨h.len,fun i d q=>let ⟨v,q1,q2⟩:=h.at_ i d q;⟨v,q1,q2.mono e⟩⟩
theorem Locs.set {K:Frag} {H:Hp} {O:Ow} {l:L} {σ:St} {v:V} {d:D} (h:Locs K H O l σ) (i:Nat) (r:Rep K H O v d):Locs K H O (l.set i (some d)) (σ.set i (some v)):=by
 refine ⟨by rw [List.length_set,List.length_set];exact h.len,fun j e q=>?_⟩
 rw [List.getElem?_set] at q ⊢
 by_cases z:i=j
 ·subst z
  rw [if_pos rfl] at q ⊢
  rw [← h.len]
  by_cases y:i < l.length
  ·rw [if_pos y] at q ⊢
   cases q
   exact ⟨v,rfl,r⟩
  ·rw [if_neg y] at q;cases q
 ·rw [if_neg z] at q ⊢
  exact h.at_ j e q
theorem Locs.start {K:Frag} {H:Hp} {O:Ow} {vs:List V} {ds:List D} (N:List Str) (r:Reps K H O vs ds):Locs K H O (ds.map some++List.replicate (N.length - ds.length) none) (start N vs):=by
 have e:=r.length
 refine ⟨by unfold L2.start;simp [e],fun i d q=>?_⟩
 unfold L2.start
 by_cases hi:i < ds.length
 ·rw [List.getElem?_append_left (by simpa using hi),List.getElem?_map] at q
  rw [List.getElem?_append_left (by simpa [e] using hi),List.getElem?_map]
  cases z:ds[i]? with
  | none=>rw [z] at q;cases q
  | some d'=>
   rw [z] at q;cases q
   obtain ⟨v,h1,h2⟩:=r.get z
   exact ⟨v,by rw [h1];rfl,h2⟩
 ·rw [List.getElem?_append_right (by simpa using hi),List.getElem?_replicate] at q
  split at q <;> cases q
def liftE (K:Frag) (E:XK) (t:ED):TE:=fun σ H Q=>∃ O l c,Locs K H O l σ/\Cells K H O c/\Post K E H O (fun d H' O' _=>∀ v,Rep K H' O' v d->Q v H') (t l c)
def liftT (K:Frag) (E:XK) (t:TD):TT:=fun σ H Q=>∃ O l c,Locs K H O l σ/\Cells K H O c/\Post K E H O (fun b H' _ _=>Q b H') (t l c)
def liftA (K:Frag) (E:XK) (t:AD):TA:=fun σ H Q=>∃ O l c,Locs K H O l σ/\Cells K H O c/\Post K E H O (fun ds H' O' _=>∀ vs,Reps K H' O' vs ds->Q vs H') (t l c)
def FlOk (K:Frag) (Dn:Ends):Fl->Hp->Ow->List Cell->Prop
 | .nx l,H,O,_=>∀ σ,Locs K H O l σ->Dn.nx σ H
 | .ret d,H,O,_=>∀ v,Rep K H O v d->Dn.rt v H
 | .bk l,H,O,_=>∀ σ,Locs K H O l σ->Dn.bk σ H
 | .ct l,H,O,_=>∀ σ,Locs K H O l σ->Dn.ct σ H
def liftS (K:Frag) (E:XK) (t:SD):TS:=fun Dn σ H=>∃ O l c,Locs K H O l σ/\Cells K H O c/\Post K E H O (FlOk K Dn) (t l c)
structure DE (X:Cx) (E:XK) (e:Expr) (t:ED):Prop where
 h:PE X e (liftE X.K E t)
structure DT (X:Cx) (E:XK) (e:Expr) (t:TD):Prop where
 h:PT X e (liftT X.K E t)
structure DW (X:Cx) (E:XK) (e:Expr) (t:TD):Prop where
 h:PW X e (liftT X.K E t)
structure DA (X:Cx) (E:XK) (es:List Expr) (t:AD):Prop where
 h:PA X es (liftA X.K E t)
structure DS (X:Cx) (E:XK) (st:Stmt) (t:SD):Prop where
 h:PS X st (liftS X.K E t)
structure DSs (X:Cx) (E:XK) (st:List Stmt) (t:SD):Prop where
 h:PSs X st (liftS X.K E t)
theorem PE.imp {X:Cx} {e:Expr} {t t':TE} (h:PE X e t) (i:∀ σ H Q,t' σ H Q->t σ H Q):PE X e t':=fun pins s σ H Q I q=>h pins s σ H Q I (i _ _ _ q)
theorem PT.imp {X:Cx} {e:Expr} {t t':TT} (h:PT X e t) (i:∀ σ H Q,t' σ H Q->t σ H Q):PT X e t':=fun pins s σ H Q I q=>h pins s σ H Q I (i _ _ _ q)
theorem PW.imp {X:Cx} {e:Expr} {t t':TT} (h:PW X e t) (i:∀ σ H Q,t' σ H Q->t σ H Q):PW X e t':=fun w pins s σ H Q I q=>h w pins s σ H Q I (i _ _ _ q)
theorem PA.imp {X:Cx} {e:List Expr} {t t':TA} (h:PA X e t) (i:∀ σ H Q,t' σ H Q->t σ H Q):PA X e t':=fun p pins s σ H Q I q=>h p pins s σ H Q I (i _ _ _ q)
theorem PS.imp {X:Cx} {e:Stmt} {t t':TS} (h:PS X e t) (i:∀ D σ H,t' D σ H->t D σ H):PS X e t':=fun pins s σ H D I q=>h pins s σ H D I (i _ _ _ q)
theorem PSs.imp {X:Cx} {e:List Stmt} {t t':TS} (h:PSs X e t) (i:∀ D σ H,t' D σ H->t D σ H):PSs X e t':=fun pins s σ H D I q=>h pins s σ H D I (i _ _ _ q)
section
variable {X:Cx} {E:XK} {a b c e:Expr} {ta tb tc:ED} {pos:Pos}
theorem liftE_bd {K:Frag} {m:ED} {α:Type} {f:D->M α} {P:α->Hp->Ow->List Cell->Prop} {σ:St} {H:Hp} {O:Ow} {l:L} {c:List Cell} {R:V->Hp->Prop} (hl:Locs K H O l σ) (hc:Cells K H O c) (h:Post K E H O P ((m l).bd f c))
  (k:∀ d v H1 O1 c1,Ext H O H1 O1->Locs K H1 O1 l σ->Cells K H1 O1 c1->Rep K H1 O1 v d->Post K E H1 O1 P (f d c1)->R v H1):liftE K E m σ H R:=
 ⟨O,l,c,hl,hc,h.bd.imp fun d H1 O1 c1 e1 c1' p v rv=>k d v H1 O1 c1 e1 (hl.mono e1) c1' rv p⟩
theorem liftT_bd {K:Frag} {m:TD} {α:Type} {f:Bool->M α} {P:α->Hp->Ow->List Cell->Prop} {σ:St} {H:Hp} {O:Ow} {l:L} {c:List Cell} {R:Bool->Hp->Prop} (hl:Locs K H O l σ) (hc:Cells K H O c) (h:Post K E H O P ((m l).bd f c))
  (k:∀ d H1 O1 c1,Ext H O H1 O1->Locs K H1 O1 l σ->Cells K H1 O1 c1->Post K E H1 O1 P (f d c1)->R d H1):liftT K E m σ H R:=
 ⟨O,l,c,hl,hc,h.bd.imp fun d H1 O1 c1 e1 c1' p=>k d H1 O1 c1 e1 (hl.mono e1) c1' p⟩
theorem liftA_bd {K:Frag} {m:AD} {α:Type} {f:List D->M α} {P:α->Hp->Ow->List Cell->Prop} {σ:St} {H:Hp} {O:Ow} {l:L} {c:List Cell} {R:List V->Hp->Prop} (hl:Locs K H O l σ) (hc:Cells K H O c) (h:Post K E H O P ((m l).bd f c))
  (k:∀ d v H1 O1 c1,Ext H O H1 O1->Locs K H1 O1 l σ->Cells K H1 O1 c1->Reps K H1 O1 v d->Post K E H1 O1 P (f d c1)->R v H1):liftA K E m σ H R:=
 ⟨O,l,c,hl,hc,h.bd.imp fun d H1 O1 c1 e1 c1' p v rv=>k d v H1 O1 c1 e1 (hl.mono e1) c1' rv p⟩
def dv (i:Nat):ED:=fun l=>match l[i]? with
 | some (some d)=>M.ret d
 | _=>M.stuck
theorem de_var (i:Nat) {x:Str} {pos:Pos} (hN:X.N[i]?=some x:=by rfl) (hv:Vis X.env.scope x:=by first | exact Or.inl rfl | exact Or.inr (Or.inl rfl) | exact Or.inr (Or.inr rfl)) (hd:(x == ("__debug__":Str))=false:=by decide)
  (hcd:(x == ("__classdict__":Str))=false:=by decide):DE X E (.Name x pos) (dv i):=by
 refine ⟨PE.imp (pe_var hN hv hd hcd) fun σ H Q h=>?_⟩
 obtain ⟨O,l,c,hl,hc,p⟩:=h
 unfold dv at p
 cases z:l[i]? with
 | none=>rw [z] at p;exact p.elim
 | some o=>
  cases o with
  | none=>rw [z] at p;exact p.elim
  | some d=>
   rw [z] at p
   obtain ⟨v,h1,h2⟩:=hl.at_ i d z
   exact ⟨v,h1,Post.ret p hc v h2⟩
def dc (d:D):ED:=fun _=>M.ret d
theorem de_const {v:V} {d:D} (h:PE X e (tC v)) (r:∀ H O,Rep X.K H O v d):DE X E e (dc d):=by
 refine ⟨PE.imp h fun σ H Q h=>?_⟩
 obtain ⟨O,l,c,hl,hc,p⟩:=h
 exact Post.ret p hc v (r H O)
theorem de_int {i:Int} {j:Nat}:DE X E (.Constant (.int i) j pos) (dc (.int i)):=de_const pe_int fun _ _=>.int i
theorem de_bl {i:Bool} {j:Nat}:DE X E (.Constant (.bool i) j pos) (dc (.bl i)):=de_const pe_bl fun _ _=>.bl i
theorem de_str (x:List Nat) {i:Str} {j:Nat} (h:i=⟨x.toArray⟩:=by decide +kernel):DE X E (.Constant (.str i) j pos) (dc (.str x)):=de_const pe_str fun _ _=>by rw [h];exact .str x
theorem de_non {j:Nat}:DE X E (.Constant .none j pos) (dc .non):=de_const pe_non fun _ _=>.non
def d2 (f:D->D->M D) (ta tb:ED):ED:=fun l=>(ta l).bd fun x=>(tb l).bd fun y=>f x y
def Op2 (X:Cx) (E:XK) (r:R2) (f:D->D->M D):Prop:=∀ H O c x y v u Q,Cells X.K H O c->Rep X.K H O v x->Rep X.K H O u y->Post X.K E H O (fun d H' O' _=>∀ v,Rep X.K H' O' v d->Q v H') (f x y c)->r v u H Q
theorem lift2 {r:R2} {f:D->D->M D} (hf:Op2 X E r f) {σ:St} {H:Hp} {Q:VK} (h:liftE X.K E (d2 f ta tb) σ H Q):tOp r (liftE X.K E ta) (liftE X.K E tb) σ H Q:=by
 obtain ⟨O,l,c,hl,hc,p⟩:=h
 refine liftE_bd hl hc p fun x v H1 O1 c1 e1 hl1 hc1 rv p1=>?_
 refine liftE_bd hl1 hc1 p1 fun y u H2 O2 c2 e2 hl2 hc2 ru p2=>?_
 exact hf H2 O2 c2 x y v u Q hc2 (rv.mono e2) ru p2
theorem de_op {op:Operator} {r:R2} {f:D->D->M D} (ho:OpR X (binaryOp op) r) (hf:Op2 X E r f) (ha:DE X E a ta) (hb:DE X E b tb):DE X E (.BinOp a op b pos) (d2 f ta tb):=⟨PE.imp (pe_op ho ha.h hb.h) fun σ H Q h=>lift2 hf h⟩
theorem de_cmp {op:CmpOp} {r:R2} {f:D->D->M D} (ho:OpR X (compareOp op) r) (hf:Op2 X E r f) (ha:DE X E a ta) (hb:DE X E b tb) (hm:behindInMarks op b=false):DE X E (.Compare a [op] [b] pos) (d2 f ta tb):=⟨PE.imp (pe_cmpR ho ha.h hb.h hm) fun σ H Q h=>lift2 hf h⟩
def tOf (t:ED):TD:=fun l=>(t l).bd fun d=>match d with
 | .bl b=>M.ret b
 | _=>M.stuck
theorem lift_tOf {t:ED} {σ:St} {H:Hp} {Q:Bool->Hp->Prop} (h:liftT X.K E (tOf t) σ H Q):tTest (liftE X.K E t) σ H Q:=by
 obtain ⟨O,l,c,hl,hc,p⟩:=h
 refine liftE_bd hl hc p fun x v H1 O1 c1 e1 hl1 hc1 rv p1=>?_
 cases x with
 | bl b=>cases rv;exact ⟨b,rfl,Post.ret p1 hc1⟩
 | _=>exact p1.elim
theorem dt_cmp {op:CmpOp} {r:R2} {f:D->D->M D} (ho:OpR X (compareOp op) r) (hf:Op2 X E r f) (ha:DE X E a ta) (hb:DE X E b tb) (hm:behindInMarks op b=false):DT X E (.Compare a [op] [b] pos) (tOf (d2 f ta tb)):=by
 refine ⟨PT.imp (pt_cmpR ho ha.h hb.h hm) fun σ H Q h=>?_⟩
 have h2:=lift_tOf h
 obtain ⟨O,l,c,hl,hc,p⟩:=h2
 exact lift2 hf ⟨O,l,c,hl,hc,p⟩
end
open PyProof.Rows hiding St
theorem sl_1e6:1000000<=sizeLine:=by rw [sizeLine_eq];decide
section
variable {X:Cx} {E:XK} {a b c e:Expr} {ta tb tc:ED} {pos:Pos}
def truD:D->M Bool
 | .non=>M.ret false
 | .bl b=>M.ret b
 | .int i=>M.ret (i != 0)
 | .str y=>if y.length<=1000000 then M.ret ((y.length:Int) != 0) else M.stuck
 | .tup xs=>M.ret (!xs.isEmpty)
 | .lst xs=>M.ret (!xs.isEmpty)
 | .scr ns=>M.ret (!ns.isEmpty)
 | .hnd k=>fun c=>match c[k]? with
  | some (.lst xs)=>some (.ok (!xs.isEmpty) c)
  | some (.dct xs)=>some (.ok (!xs.isEmpty) c)
  | _=>none
theorem Reps.isEmpty {K:Frag} {H:Hp} {O:Ow} {vs:List V} {ds:List D} (r:Reps K H O vs ds):vs.isEmpty=ds.isEmpty:=by cases r <;> rfl
theorem tru_lift {H:Hp} {O:Ow} {c:List Cell} {v:V} {d:D} {Q:Bool->Hp->Prop} (hc:Cells X.K H O c) (r:Rep X.K H O v d) (p:Post X.K E H O (fun b H' _ _=>Q b H') (truD d c)):∃ k,TruV X.K v H k/\Q k H:=by
 cases r with
 | non=>exact ⟨_,rfl,Post.ret p hc⟩
 | bl b=>exact ⟨_,rfl,Post.ret p hc⟩
 | int i=>exact ⟨_,rfl,Post.ret p hc⟩
 | str y=>
  unfold truD at p
  by_cases z:y.length<=1000000
  ·simp only [z,if_true] at p
   exact ⟨_,⟨Nat.le_trans (by show y.toArray.size<=_;simpa using z) sl_1e6,by show _=((y.toArray.size:Int) != 0);simp⟩,Post.ret p hc⟩
  ·simp only [z,if_false] at p
   exact p.elim
 | tup h n r=>exact ⟨_,.inr (.inl ⟨_,SqT.of h,by rw [r.isEmpty]⟩),Post.ret p hc⟩
 | lst h n r=>exact ⟨_,.inl ⟨_,SqL.of h,by rw [r.isEmpty]⟩,Post.ret p hc⟩
 | scr h=>exact ⟨_,.inl ⟨_,h.sq,by simp⟩,Post.ret p hc⟩
 | @hnd a k h=>
  unfold truD at p
  cases z:c[k]? with
  | none=>simp only [z] at p;exact p.elim
  | some x=>
   have q:=hc.at_ k x z
   cases x with
   | lst xs=>
    simp only [z] at p
    obtain ⟨a',vs,q1,q2,q3⟩:=q
    rw [h] at q1;cases q1
    exact ⟨_,.inl ⟨_,SqL.of q2,by rw [q3.isEmpty]⟩,p H O (Ext.refl H O) hc⟩
   | dct kvs=>
    simp only [z] at p
    obtain ⟨a',us,q1,q2,q3,_⟩:=q
    rw [h] at q1;cases q1
    refine ⟨_,.inr (.inr ⟨_,q2,?_⟩),p H O (Ext.refl H O) hc⟩
    have w:=q3.2.isEmpty
    simp only [List.isEmpty_map] at w
    rw [w]
   | _=>simp only [z] at p;exact p.elim
def dTru (t:ED):TD:=fun l=>(t l).bd truD
theorem dt_val (ha:DE X E a ta) (he:∀ whole,isTrue a X.env whole=(do let v ← whole;standAt a.pos;holding [v] (truthy v)):=by intro _;rfl):DT X E a (dTru ta):=by
 refine ⟨PT.imp (pt_truth ha.h he) fun σ H Q h=>?_⟩
 obtain ⟨O,l,c,hl,hc,p⟩:=h
 refine liftE_bd hl hc p fun x v H1 O1 c1 e1 hl1 hc1 rv p1=>?_
 exact tru_lift hc1 rv p1
def dNotT (t:TD):TD:=fun l=>(t l).bd fun b=>M.ret (!b)
def dAndT (t u:TD):TD:=fun l=>(t l).bd fun b=>if b=true then u l else M.ret false
def dOrT (t u:TD):TD:=fun l=>(t l).bd fun b=>if b=true then M.ret true else u l
variable {p q:TD} {rest:List Expr}
theorem dt_not (ha:DT X E a p):DT X E (.UnaryOp .Not a pos) (dNotT p):=by
 refine ⟨PT.imp (pt_not ha.h) fun σ H Q h=>?_⟩
 obtain ⟨O,l,c,hl,hc,p⟩:=h
 exact liftT_bd hl hc p fun x H1 O1 c1 e1 hl1 hc1 p1=>Post.ret p1 hc1
theorem dw_and1 (ha:DT X E a p):DW X E (.BoolOp .And [a] pos) p:=⟨pw_and1 ha.h⟩
theorem dw_or1 (ha:DT X E a p):DW X E (.BoolOp .Or [a] pos) p:=⟨pw_or1 ha.h⟩
theorem dw_and (ha:DT X E a p) (hb:DW X E (.BoolOp .And (b::rest) pos) q):DW X E (.BoolOp .And (a::b::rest) pos) (dAndT p q):=by
 refine ⟨PW.imp (pw_and ha.h hb.h) fun σ H Q h=>?_⟩
 obtain ⟨O,l,c,hl,hc,p⟩:=h
 refine liftT_bd hl hc p fun x H1 O1 c1 e1 hl1 hc1 p1=>?_
 cases x with
 | true=>exact ⟨O1,l,c1,hl1,hc1,p1⟩
 | false=>exact Post.ret p1 hc1
theorem dw_or (ha:DT X E a p) (hb:DW X E (.BoolOp .Or (b::rest) pos) q):DW X E (.BoolOp .Or (a::b::rest) pos) (dOrT p q):=by
 refine ⟨PW.imp (pw_or ha.h hb.h) fun σ H Q h=>?_⟩
 obtain ⟨O,l,c,hl,hc,p⟩:=h
 refine liftT_bd hl hc p fun x H1 O1 c1 e1 hl1 hc1 p1=>?_
 cases x with
 | true=>exact Post.ret p1 hc1
 | false=>exact ⟨O1,l,c1,hl1,hc1,p1⟩
theorem dt_w (h:DW X E a p):DT X E a p:=⟨PW.pt h.h⟩
def dAndV (ta tb:ED):ED:=fun l=>(ta l).bd fun x=>match x with
 | .bl true=>tb l
 | .bl false=>M.ret (.bl false)
 | _=>M.stuck
def dOrV (ta tb:ED):ED:=fun l=>(ta l).bd fun x=>match x with
 | .bl true=>M.ret (.bl true)
 | .bl false=>tb l
 | _=>M.stuck
def dNotV (ta:ED):ED:=fun l=>(ta l).bd fun x=>match x with
 | .bl b=>M.ret (.bl (!b))
 | _=>M.stuck
theorem de_one {op} (h:DE X E a ta):DE X E (.BoolOp op [a] pos) ta:=⟨pe_one h.h⟩
theorem de_and (ha:DE X E a ta) (hb:DE X E (.BoolOp .And (b::rest) pos) tb):DE X E (.BoolOp .And (a::b::rest) pos) (dAndV ta tb):=by
 refine ⟨PE.imp (pe_and ha.h hb.h) fun σ H Q h=>?_⟩
 obtain ⟨O,l,c,hl,hc,p⟩:=h
 refine liftE_bd hl hc p fun x v H1 O1 c1 e1 hl1 hc1 rv p1=>?_
 cases x with
 | bl k=>
  cases rv
  refine ⟨k,rfl,?_⟩
  cases k with
  | true=>exact ⟨O1,l,c1,hl1,hc1,p1⟩
  | false=>exact Post.ret p1 hc1 _ (.bl false)
 | _=>exact p1.elim
theorem de_or (ha:DE X E a ta) (hb:DE X E (.BoolOp .Or (b::rest) pos) tb):DE X E (.BoolOp .Or (a::b::rest) pos) (dOrV ta tb):=by
 refine ⟨PE.imp (pe_or ha.h hb.h) fun σ H Q h=>?_⟩
 obtain ⟨O,l,c,hl,hc,p⟩:=h
 refine liftE_bd hl hc p fun x v H1 O1 c1 e1 hl1 hc1 rv p1=>?_
 cases x with
 | bl k=>
  cases rv
  refine ⟨k,rfl,?_⟩
  cases k with
  | true=>exact Post.ret p1 hc1 _ (.bl true)
  | false=>exact ⟨O1,l,c1,hl1,hc1,p1⟩
 | _=>exact p1.elim
theorem de_not (ha:DE X E a ta):DE X E (.UnaryOp .Not a pos) (dNotV ta):=by
 refine ⟨PE.imp (pe_not ha.h) fun σ H Q h=>?_⟩
 obtain ⟨O,l,c,hl,hc,p⟩:=h
 refine liftE_bd hl hc p fun x v H1 O1 c1 e1 hl1 hc1 rv p1=>?_
 cases x with
 | bl k=>cases rv;exact ⟨k,rfl,Post.ret p1 hc1 _ (.bl _)⟩
 | _=>exact p1.elim
def dIf (p:TD) (ta tb:ED):ED:=fun l=>(p l).bd fun b=>if b=true then ta l else tb l
theorem de_if (hc:DT X E c p) (ha:DE X E a ta) (hb:DE X E b tb):DE X E (.IfExp c a b pos) (dIf p ta tb):=by
 refine ⟨PE.imp (pe_ifExp hc.h ha.h hb.h) fun σ H Q h=>?_⟩
 obtain ⟨O,l,c,hl,hc,p⟩:=h
 refine liftT_bd hl hc p fun x H1 O1 c1 e1 hl1 hc1 p1=>?_
 cases x with
 | true=>exact ⟨O1,l,c1,hl1,hc1,p1⟩
 | false=>exact ⟨O1,l,c1,hl1,hc1,p1⟩
def dChain (f g:D->D->M D) (ta tb tc:ED):ED:=fun l=>(ta l).bd fun x=>(tb l).bd fun y=>(f x y).bd fun z=>match z with
 | .bl true=>(tc l).bd fun w=>g y w
 | .bl false=>M.ret (.bl false)
 | _=>M.stuck
def aNil:AD:=fun _=>M.ret []
def aCons (t:ED) (u:AD):AD:=fun l=>(t l).bd fun x=>(u l).bd fun xs=>M.ret (x::xs)
variable {es:List Expr} {t:AD}
theorem da_nil:DA X E [] aNil:=by
 refine ⟨PA.imp pa_nil fun σ H Q h=>?_⟩
 obtain ⟨O,l,c,hl,hc,p⟩:=h
 exact Post.ret p hc _ .nil
theorem da_cons (ha:DE X E e ta) (hr:DA X E es t) (hs:starEach (e::es) X.env=(false,eval e X.env)::starEach es X.env:=by rfl):DA X E (e::es) (aCons ta t):=by
 refine ⟨PA.imp (pa_cons ha.h hr.h hs) fun σ H Q h=>?_⟩
 obtain ⟨O,l,c,hl,hc,p⟩:=h
 refine liftE_bd hl hc p fun x v H1 O1 c1 e1 hl1 hc1 rv p1=>?_
 refine liftA_bd hl1 hc1 p1 fun xs vs H2 O2 c2 e2 hl2 hc2 rvs p2=>?_
 exact Post.ret p2 hc2 _ (.cons (rv.mono e2) rvs)
def dTup (t:AD):ED:=fun l=>(t l).bd fun xs=>if xs.length<=1000 then M.ret (.tup xs) else M.stuck
def dLst (t:AD):ED:=fun l=>(t l).bd fun xs=>if xs.length<=1000 then M.ret (.lst xs) else M.stuck
theorem Cells.tupNew {K:Frag} {H:Hp} {O:Ow} {c:List Cell} {p:Addr} {vs:List V} {xs:List D} (hc:Cells K H O c) (n:H p=none) (r:Reps K H O vs xs):Rep K (upd H p (.tup vs)) O (.ref p) (.tup xs):=
 .tup upd_same (hc.fresh n) (r.mono (Ext.updN n))
theorem Cells.lstNew {K:Frag} {H:Hp} {O:Ow} {c:List Cell} {p:Addr} {vs:List V} {xs:List D} (hc:Cells K H O c) (n:H p=none) (r:Reps K H O vs xs):Rep K (upd H p (.lst vs)) O (.ref p) (.lst xs):=
 .lst upd_same (hc.fresh n) (r.mono (Ext.updN n))
theorem de_tup {x1} (h:DA X E es t):DE X E (.Tuple es x1 pos) (dTup t):=by
 refine ⟨PE.imp (pe_tup h.h) fun σ H Q h=>?_⟩
 obtain ⟨O,l,c,hl,hc,p⟩:=h
 refine liftA_bd hl hc p fun xs vs H1 O1 c1 e1 hl1 hc1 rv p1=>?_
 by_cases z:xs.length<=1000
 ·simp only [z,if_true] at p1
  refine ⟨by rw [rv.length];exact Nat.le_of_lt (small1000 z),fun q n=>?_⟩
  exact p1 _ O1 (Ext.updN n) (hc1.updN n) _ (hc1.tupNew n rv)
 ·simp only [z,if_false] at p1
  exact p1.elim
theorem de_lst (h:DA X E es t):DE X E (.List es pos) (dLst t):=by
 refine ⟨PE.imp (pe_lst h.h) fun σ H Q h=>?_⟩
 obtain ⟨O,l,c,hl,hc,p⟩:=h
 refine liftA_bd hl hc p fun xs vs H1 O1 c1 e1 hl1 hc1 rv p1=>?_
 by_cases z:xs.length<=1000
 ·simp only [z,if_true] at p1
  refine ⟨by rw [rv.length];exact Nat.le_of_lt (small1000 z),fun q n=>?_⟩
  exact p1 _ O1 (Ext.updN n) (hc1.updN n) _ (hc1.lstNew n rv)
 ·simp only [z,if_false] at p1
  exact p1.elim
def dLstC (t:AD):ED:=fun l=>(t l).bd fun xs c=>if xs.length<=1000 then some (.ok (.hnd c.length) (c++[.lst xs])) else none
theorem Cells.push {K:Frag} {H:Hp} {O:Ow} {c:List Cell} {p:Addr} {o:HO} {x:Cell} (hc:Cells K H O c) (n:H p=none) (hx:CellAt K (upd H p o) (O++[some p]) O.length x):
  Ext H O (upd H p o) (O++[some p])/\Cells K (upd H p o) (O++[some p]) (c++[x]):=by
 have ex:Ext H O (upd H p o) (O++[some p]):=by
  refine ⟨fun b u h _=>by rw [upd_ne (ne_of_none h n)];exact h,fun k a h=>?_,fun a h=>?_⟩
  ·rw [List.getElem?_append_left (List.getElem?_eq_some_iff.mp h).1];exact h
  ·rcases List.mem_append.mp h with h | h
   ·exact .inl h
   ·obtain h:=List.mem_singleton.mp h
    cases h
    exact .inr n
 refine ⟨ex,by simp [hc.len],fun k y q=>?_,fun i j a h1 h2=>?_⟩
 ·by_cases hk:k < c.length
  ·rw [List.getElem?_append_left hk] at q
   have z:=hc.at_ k y q
   cases y with
   | dead=>
    have z:O[k]?=some none:=z
    show (O++[some p])[k]?=some none
    rw [List.getElem?_append_left (List.getElem?_eq_some_iff.mp z).1];exact z
   | lst xs=>obtain ⟨a,vs,q1,q2,q3⟩:=z;exact ⟨a,vs,ex.pre _ _ q1,by rw [upd_ne (ne_of_none q2 n)];exact q2,q3.mono ex⟩
   | dct kvs=>obtain ⟨a,vs,q1,q2,q3,q4⟩:=z;exact ⟨a,vs,ex.pre _ _ q1,by rw [upd_ne (ne_of_none q2 n)];exact q2,⟨q3.1,q3.2.mono ex⟩,q4⟩
   | ins C fs=>obtain ⟨a,dx,vs,q1,q2,q3⟩:=z;exact ⟨a,dx,vs,ex.pre _ _ q1,by rw [upd_ne (ne_of_none q2 n)];exact q2,q3.1,q3.2.mono ex⟩
   | exn cls fs=>obtain ⟨a,dx,q1,q2,q3⟩:=z;exact ⟨a,dx,ex.pre _ _ q1,by rw [upd_ne (ne_of_none q2 n)];exact q2,q3.mono ex⟩
  ·rw [List.getElem?_append_right (by omega)] at q
   have hk0:k - c.length=0:=by
    have:=(List.getElem?_eq_some_iff.mp q).1
    simp at this
    omega
   rw [hk0] at q
   simp at q
   subst q
   have hk1:k=O.length:=by rw [hc.len];omega
   rw [hk1]
   exact hx
 ·have nO:=hc.fresh n
  have side:∀ (i:Nat),(O++[some p])[i]?=some (some a)->(O[i]?=some (some a))\/(i=O.length/\a=p):=fun i h=>by
   by_cases hi:i < O.length
   ·rw [List.getElem?_append_left hi] at h;exact .inl h
   ·rw [List.getElem?_append_right (by omega)] at h
    have h0:i - O.length=0:=by
     have:=(List.getElem?_eq_some_iff.mp h).1
     simp at this
     omega
    rw [h0] at h
    simp at h
    exact .inr ⟨by omega,h.symm⟩
  rcases side i h1 with g1 | ⟨g1,e1⟩
  ·rcases side j h2 with g2 | ⟨g2,e2⟩
   ·exact hc.inj i j a g1 g2
   ·rw [e2] at g1;exact absurd (List.mem_of_getElem? g1) nO
  ·rcases side j h2 with g2 | ⟨g2,e2⟩
   ·rw [e1] at g2;exact absurd (List.mem_of_getElem? g2) nO
   ·omega
theorem Cells.pushLst {K:Frag} {H:Hp} {O:Ow} {c:List Cell} {p:Addr} {vs:List V} {xs:List D} (hc:Cells K H O c) (n:H p=none) (r:Reps K H O vs xs):
  Ext H O (upd H p (.lst vs)) (O++[some p])/\Cells K (upd H p (.lst vs)) (O++[some p]) (c++[.lst xs])/\Rep K (upd H p (.lst vs)) (O++[some p]) (.ref p) (.hnd c.length):=by
 have e0:Ext H O (upd H p (.lst vs)) (O++[some p]):=by
  refine ⟨fun b u h _=>by rw [upd_ne (ne_of_none h n)];exact h,fun k a h=>?_,fun a h=>?_⟩
  ·rw [List.getElem?_append_left (List.getElem?_eq_some_iff.mp h).1];exact h
  ·rcases List.mem_append.mp h with h | h
   ·exact .inl h
   ·obtain h:=List.mem_singleton.mp h
    cases h
    exact .inr n
 obtain ⟨h1,h2⟩:=hc.push (o:=.lst vs) (x:=.lst xs) n ⟨p,vs,by simp,upd_same,r.mono e0⟩
 exact ⟨h1,h2,.hnd (by rw [← hc.len];simp)⟩
theorem de_lstC (h:DA X E es t):DE X E (.List es pos) (dLstC t):=by
 refine ⟨PE.imp (pe_lst h.h) fun σ H Q h=>?_⟩
 obtain ⟨O,l,c,hl,hc,p⟩:=h
 refine liftA_bd hl hc p fun xs vs H1 O1 c1 e1 hl1 hc1 rv p1=>?_
 by_cases z:xs.length<=1000
 ·simp only [z,if_true] at p1
  refine ⟨by rw [rv.length];exact Nat.le_of_lt (small1000 z),fun q n=>?_⟩
  obtain ⟨h1,h2,h3⟩:=hc1.pushLst n rv
  exact p1 _ _ h1 h2 _ h3
 ·simp only [z,if_false] at p1
  exact p1.elim
end
section
variable {X:Cx} {E:XK} {a b c e:Expr} {ta tb tc:ED} {pos:Pos} {st:Stmt} {rest:List Stmt} {t u:SD} {p:TD}
def sNil:SD:=fun l=>M.ret (.nx l)
def sSeq (t u:SD):SD:=fun l=>(t l).bd fun f=>match f with
 | .nx l'=>u l'
 | f=>M.ret f
theorem dss_nil:DSs X E [] sNil:=by
 refine ⟨PSs.imp pss_nil fun Dn σ H h=>?_⟩
 obtain ⟨O,l,c,hl,hc,p⟩:=h
 exact Post.ret p hc σ hl
theorem dss_cons (h1:DS X E st t) (h2:DSs X E rest u):DSs X E (st::rest) (sSeq t u):=by
 refine ⟨PSs.imp (pss_cons h1.h h2.h) fun Dn σ H h=>?_⟩
 obtain ⟨O,l,c,hl,hc,p⟩:=h
 refine ⟨O,l,c,hl,hc,p.bd.imp fun f H1 O1 c1 e1 hc1 p1=>?_⟩
 cases f with
 | nx l'=>exact fun σ' hl'=>⟨O1,l',c1,hl',hc1,p1⟩
 | ret d=>exact Post.ret (E:=E) (P:=FlOk X.K Dn) (x:=Fl.ret d) p1 hc1
 | bk l'=>exact Post.ret (E:=E) (P:=FlOk X.K Dn) (x:=Fl.bk l') p1 hc1
 | ct l'=>exact Post.ret (E:=E) (P:=FlOk X.K Dn) (x:=Fl.ct l') p1 hc1
theorem dss_one (h1:DS X E st t):DSs X E [st] t:=⟨pss_one h1.h⟩
def sExpr (ta:ED):SD:=fun l=>(ta l).bd fun _=>M.ret (.nx l)
theorem ds_expr (he:DE X E e ta) (hs:swapsWith e none pos.line X.env=pure false:=by rfl):DS X E (.Expr e pos) (sExpr ta):=by
 refine ⟨PS.imp (ps_expr he.h hs) fun Dn σ H h=>?_⟩
 obtain ⟨O,l,c,hl,hc,p⟩:=h
 exact liftE_bd hl hc p fun x v H1 O1 c1 e1 hl1 hc1 rv p1=>Post.ret p1 hc1 σ hl1
def sRet (ta:ED):SD:=fun l=>(ta l).bd fun d=>M.ret (.ret d)
theorem ds_ret (he:DE X E e ta):DS X E (.Return (some e) pos) (sRet ta):=by
 refine ⟨PS.imp (ps_ret he.h) fun Dn σ H h=>?_⟩
 obtain ⟨O,l,c,hl,hc,p⟩:=h
 exact liftE_bd hl hc p fun x v H1 O1 c1 e1 hl1 hc1 rv p1=>Post.ret p1 hc1 v rv
def sIf (p:TD) (t u:SD):SD:=fun l=>(p l).bd fun b=>if b=true then t l else u l
theorem ds_if {sa sb:List Stmt} (hc:DT X E c p) (ha:DSs X E sa t) (hb:DSs X E sb u):DS X E (.If c sa sb pos) (sIf p t u):=by
 refine ⟨PS.imp (ps_if hc.h ha.h hb.h) fun Dn σ H h=>?_⟩
 obtain ⟨O,l,c,hl,hc,p⟩:=h
 refine liftT_bd hl hc p fun x H1 O1 c1 e1 hl1 hc1 p1=>?_
 cases x with
 | true=>exact ⟨O1,l,c1,hl1,hc1,p1⟩
 | false=>exact ⟨O1,l,c1,hl1,hc1,p1⟩
def sSet (i:Nat) (ta:ED):SD:=fun l=>(ta l).bd fun d=>M.ret (.nx (l.set i (some d)))
theorem ds_set {i:Nat} {x:Str} {pos':Pos} (hN:X.N.Nodup) (he:DE X E e ta) (hi:X.N[i]?=some x:=by rfl) (hx:Loc X.env.scope x:=by first | exact Or.inl rfl | exact Or.inr rfl) (hs:swapsWith e (some (.Name x pos')) pos.line X.env=pure false:=by rfl)
  (hf:X.fn x=true\/X.env.scope.names.lookup x=some .local:=by first | exact .inl rfl | exact .inr rfl | assumption):DS X E (.Assign [.Name x pos'] e pos) (sSet i ta):=by
 refine ⟨PS.imp (ps_set hN hi hx he.h hs hf) fun Dn σ H h=>?_⟩
 obtain ⟨O,l,c,hl,hc,p⟩:=h
 exact liftE_bd hl hc p fun x v H1 O1 c1 e1 hl1 hc1 rv p1=>Post.ret p1 hc1 _ (hl1.set i rv)
abbrev GD:=D->L->Option L
def DG (X:Cx) (tg:Expr) (g:GD):Prop:=∃ t:TG,PG X tg t/\∀ H O v d l σ l',Rep X.K H O v d->Locs X.K H O l σ->g d l=some l'->∀ Q:St->Hp->Prop,(∀ σ',Locs X.K H O l' σ'->Q σ' H)->t v σ H Q
def gdName (i:Nat):GD:=fun d l=>some (l.set i (some d))
theorem dg_name {i:Nat} {x:Str} (hN:X.N.Nodup) (hi:X.N[i]?=some x:=by rfl) (hx:Loc X.env.scope x:=by first | exact Or.inl rfl | exact Or.inr rfl)
  (hf:X.fn x=true\/X.env.scope.names.lookup x=some .local:=by first | exact .inl rfl | exact .inr rfl | assumption):DG X (.Name x pos) (gdName i):=
 ⟨gName i,pg_name hN hi hx hf,fun H O v d l σ l' r hl e Q k=>by cases e;exact k _ (hl.set i r)⟩
theorem drop_cons {α:Type} {xs:List α} {i:Nat} {x:α} (h:xs[i]?=some x):xs.drop i=x::xs.drop (i+1):=by
 obtain ⟨h1,h2⟩:=List.getElem?_eq_some_iff.mp h
 rw [List.drop_eq_getElem_cons h1,h2]
end
open PyProof.Rows hiding St
mutual
def D.bel (n:Nat):D->Bool
 | .tup xs=>D.bels n xs
 | .lst xs=>D.bels n xs
 | .hnd k=>decide (k < n)
 | _=>true
def D.bels (n:Nat):List D->Bool
 | []=>true
 | x::xs=>D.bel n x && D.bels n xs
end
def Cell.bel (n:Nat):Cell->Bool
 | .lst xs=>D.bels n xs
 | .dct kvs=>D.bels n (kvs.map (·.2))
 | .ins _ fs=>D.bels n (fs.map (·.2))
 | .exn _ fs=>D.bels n (fs.map (·.2))
 | .dead=>true
theorem bels_mem {n:Nat}:∀ {xs:List D},(∀ x∈xs,D.bel n x=true)->D.bels n xs=true
 | [],_=>by simp [D.bels]
 | x::xs,h=>by simp [D.bels,h x List.mem_cons_self,bels_mem fun y hy=>h y (List.mem_cons_of_mem _ hy)]
mutual
theorem Rep.bel {K:Frag} {H:Hp} {O:Ow}:∀ {v:V} {d:D},Rep K H O v d->D.bel O.length d=true
 | _,_,.non=>by simp [D.bel]
 | _,_,.bl b=>by simp [D.bel]
 | _,_,.int i=>by simp [D.bel]
 | _,_,.str x=>by simp [D.bel]
 | _,_,.tup h n r=>by simp [D.bel];exact Reps.bel r
 | _,_,.lst h n r=>by simp [D.bel];exact Reps.bel r
 | _,_,.scr h=>by simp [D.bel]
 | _,_,.hnd h=>by simp [D.bel];exact (List.getElem?_eq_some_iff.mp h).1
theorem Reps.bel {K:Frag} {H:Hp} {O:Ow}:∀ {vs:List V} {ds:List D},Reps K H O vs ds->D.bels O.length ds=true
 | _,_,.nil=>by simp [D.bels]
 | _,_,.cons h t=>by simp [D.bels];exact ⟨Rep.bel h,Reps.bel t⟩
end
structure Sub (n:Nat) (O O':Ow):Prop where
 pre:∀ (k:Nat) (a:Addr),k < n->O[k]?=some (some a)->O'[k]?=some (some a)
 sub:∀ a,some a∈O'->some a∈O
mutual
theorem Rep.to {K:Frag} {H:Hp} {O O':Ow} {n:Nat} (s:Sub n O O'):∀ {v:V} {d:D},Rep K H O v d->D.bel n d=true->Rep K H O' v d
 | _,_,.non,_=>.non
 | _,_,.bl b,_=>.bl b
 | _,_,.int i,_=>.int i
 | _,_,.str x,_=>.str x
 | _,_,.tup h m r,q=>.tup h (fun z=>m (s.sub _ z)) (Reps.to s r (by simpa [D.bel] using q))
 | _,_,.lst h m r,q=>.lst h (fun z=>m (s.sub _ z)) (Reps.to s r (by simpa [D.bel] using q))
 | _,_,.scr h,q=>.scr (by
   rcases h with ⟨o,h,m⟩ | h
   ·exact .inl ⟨o,h,fun z=>m (s.sub _ z)⟩
   ·exact .inr h)
 | _,_,.hnd h,q=>.hnd (s.pre _ _ (by simpa [D.bel] using q) h)
theorem Reps.to {K:Frag} {H:Hp} {O O':Ow} {n:Nat} (s:Sub n O O'):∀ {vs:List V} {ds:List D},Reps K H O vs ds->D.bels n ds=true->Reps K H O' vs ds
 | _,_,.nil,_=>.nil
 | _,_,.cons h t,q=>by
  simp [D.bels] at q
  exact .cons (Rep.to s h q.1) (Reps.to s t q.2)
end
theorem Sub.take (n:Nat) (O:Ow):Sub n O (O.take n):=
 ⟨fun k a hk h=>by rw [List.getElem?_take_of_lt hk];exact h,fun a h=>List.mem_of_mem_take h⟩
theorem XF.to {K:Frag} {H:Hp} {O O':Ow} {n:Nat} {dx:Option Addr} {fs:List (Str×D)} (s:Sub n O O') (h:XF K H O dx fs) (b:D.bels n (fs.map (·.2))=true):XF K H O' dx fs:=by
 cases dx with
 | none=>exact h
 | some a=>
  obtain ⟨m,us,h1,h2⟩:=h
  exact ⟨fun z=>m (s.sub _ z),us,h1,h2.1,h2.2.to s b⟩
theorem XF.bel {K:Frag} {H:Hp} {O:Ow} {dx:Option Addr} {fs:List (Str×D)} (h:XF K H O dx fs):D.bels O.length (fs.map (·.2))=true:=by
 cases dx with
 | none=>rw [show fs=[] from h];rfl
 | some a=>
  obtain ⟨m,us,h1,h2⟩:=h
  exact h2.2.bel
theorem CellAt.to {K:Frag} {H:Hp} {O O':Ow} {n k:Nat} {x:Cell} (s:Sub n O O') (hk:k < n) (hd:O[k]?=some none->O'[k]?=some none) (h:CellAt K H O k x) (b:x.bel n=true):CellAt K H O' k x:=by
 cases x with
 | dead=>exact hd h
 | lst xs=>obtain ⟨a,vs,q1,q2,q3⟩:=h;exact ⟨a,vs,s.pre _ _ hk q1,q2,q3.to s b⟩
 | dct kvs=>obtain ⟨a,vs,q1,q2,q3,q4⟩:=h;exact ⟨a,vs,s.pre _ _ hk q1,q2,⟨q3.1,q3.2.to s b⟩,q4⟩
 | ins C fs=>obtain ⟨a,dx,vs,q1,q2,q3⟩:=h;exact ⟨a,dx,vs,s.pre _ _ hk q1,q2,q3.1,q3.2.to s b⟩
 | exn cls fs=>obtain ⟨a,dx,q1,q2,q3⟩:=h;exact ⟨a,dx,s.pre _ _ hk q1,q2,q3.to s b⟩
theorem CellAt.bel {K:Frag} {H:Hp} {O:Ow} {k:Nat} {x:Cell} (h:CellAt K H O k x):x.bel O.length=true:=by
 cases x with
 | dead=>rfl
 | lst xs=>obtain ⟨a,vs,q1,q2,q3⟩:=h;exact q3.bel
 | dct kvs=>obtain ⟨a,vs,q1,q2,q3,q4⟩:=h;exact q3.2.bel
 | ins C fs=>obtain ⟨a,dx,vs,q1,q2,q3⟩:=h;exact q3.2.bel
 | exn cls fs=>obtain ⟨a,dx,q1,q2,q3⟩:=h;exact q3.bel
theorem Cells.cut {K:Frag} {H:Hp} {O:Ow} {c:List Cell} {n:Nat} (h:Cells K H O c) (b:∀ k x,k < n->c[k]?=some x->x.bel n=true):Cells K H (O.take n) (c.take n):=by
 refine ⟨by simp [h.len],fun k x q=>?_,fun i j a h1 h2=>?_⟩
 ·have hk:k < n:=by
   have:=(List.getElem?_eq_some_iff.mp q).1
   rw [List.length_take] at this
   omega
  rw [List.getElem?_take_of_lt hk] at q
  exact (h.at_ k x q).to (Sub.take n O) hk (fun z=>by rw [List.getElem?_take_of_lt hk];exact z) (b k x hk q)
 ·have hi:i < n:=by
   have:=(List.getElem?_eq_some_iff.mp h1).1
   rw [List.length_take] at this
   omega
  have hj:j < n:=by
   have:=(List.getElem?_eq_some_iff.mp h2).1
   rw [List.length_take] at this
   omega
  rw [List.getElem?_take_of_lt hi] at h1
  rw [List.getElem?_take_of_lt hj] at h2
  exact h.inj i j a h1 h2
theorem Ext.cut {H H':Hp} {O O':Ow} (e:Ext H O H' O'):Ext H O H' (O'.take O.length):=
 ⟨e.keep,fun k a h=>by rw [List.getElem?_take_of_lt (List.getElem?_eq_some_iff.mp h).1];exact e.pre k a h,fun a h=>e.fresh a (List.mem_of_mem_take h)⟩
abbrev FD:=List D->M D
def spD (K:Frag) (n:Nat) (g:FD):Sp:=fun vs H Q E=>vs.length=n/\∃ O ds c,Reps K H O vs ds/\Cells K H O c/\Post K E H O (fun d H' O' _=>∀ v,Rep K H' O' v d->Q v H') (g ds c)
def startD (N:List Str) (ds:List D):L:=ds.map some++List.replicate (N.length - ds.length) none
def Kept (c c':List Cell):Prop:=c.length<=c'.length/\∀ k x,k < c.length->c'[k]?=some x->c[k]?=some x\/x.bel c.length=true
theorem Kept.refl (c:List Cell):Kept c c:=⟨Nat.le_refl _,fun _ _ _ h=>.inl h⟩
theorem Kept.app (c ex:List Cell):Kept c (c++ex):=⟨by simp,fun k x hk h=>by rw [List.getElem?_append_left hk] at h;exact .inl h⟩
inductive Fin (c:List Cell):Option (Out Fl)->Option (Out D)->Prop where
 | val {d:D} {c':List Cell} (b:D.bel c.length d=true) (k:Kept c c'):Fin c (some (.ok (.ret d) c')) (some (.ok d (c'.take c.length)))
 | non {l:L} {c':List Cell} (k:Kept c c'):Fin c (some (.ok (.nx l) c')) (some (.ok .non (c'.take c.length)))
  | frz {i:Nat} {xs:List D} {c':List Cell} (hi:c.length<=i) (z:c'[i]?=some (.lst xs)) (b:D.bels c.length xs=true) (k:Kept c c'):Fin c (some (.ok (.ret (.hnd i)) c')) (some (.ok (.lst xs) (c'.take c.length)))
  | cell {i:Nat} {x:Cell} {c':List Cell} (hi:c.length<=i) (z:c'[i]?=some x) (b:x.bel c.length=true) (nd:x≠.dead) (k:Kept c c'):Fin c (some (.ok (.ret (.hnd i)) c')) (some (.ok (.hnd c.length) (c'.take c.length++[x])))
  | whole {d:D} {c':List Cell}:Fin c (some (.ok (.ret d) c')) (some (.ok d c'))
 | wholeN {l:L} {c':List Cell}:Fin c (some (.ok (.nx l) c')) (some (.ok .non c'))
 | exc {x:Exc} {c':List Cell} (b:D.bels c.length (x.fs.map (·.2))=true) (k:Kept c c'):Fin c (some (.exc x c')) (some (.exc x (c'.take c.length)))
theorem Kept.bel {K:Frag} {H:Hp} {O:Ow} {c c':List Cell} (hc:Cells K H O c) (k:Kept c c'):∀ j x,j < c.length->c'[j]?=some x->x.bel c.length=true:=fun j x hj h=>by
 rcases k.2 j x hj h with q | q
 ·have:=(hc.at_ j x q).bel
  rw [hc.len] at this
  exact this
 ·exact q
theorem fin_post {K:Frag} {E:XK} {H:Hp} {O:Ow} {c:List Cell} {Q:VK} {r':Option (Out Fl)} {r:Option (Out D)} (hc:Cells K H O c) (f:Fin c r' r) (p:Post K E H O (fun d H' O' _=>∀ v,Rep K H' O' v d->Q v H') r):
  Post K E H O (FlOk K { nx:=fun _ H'=>Q .non H',rt:=Q }) r':=by
 cases f with
 | @val d c' b k=>
  intro H' O' e hc' v rv
  have e':=e.cut
  rw [hc.len] at e'
  exact p H' _ e' (hc'.cut (k.bel hc)) v (rv.to (Sub.take _ _) b)
 | @non l c' k=>
  intro H' O' e hc' σ hl
  have e':=e.cut
  rw [hc.len] at e'
  exact p H' _ e' (hc'.cut (k.bel hc)) _ .non
 | @frz i xs c' hi z b k=>
  intro H' O' e hc' v rv
  have e':=e.cut
  rw [hc.len] at e'
  cases rv with
  | @hnd a k' hk=>
   obtain ⟨a',vs,q1,q2,q3⟩:=hc'.at_ i _ z
   rw [hk] at q1;cases q1
   refine p H' _ e' (hc'.cut (k.bel hc)) _ (.lst q2 (fun m=>?_) (q3.to (Sub.take _ _) b))
   obtain ⟨j,hj,ej⟩:=List.mem_iff_getElem.mp m
   rw [List.length_take] at hj
   have:O'[j]?=some (some a):=by
    rw [← List.getElem?_take_of_lt (show j < c.length by omega),List.getElem?_eq_getElem (by rw [List.length_take];exact hj),ej]
   have:=hc'.inj j i a this hk
   omega
 | @cell i x c' hi z b nd k=>
  intro H' O' e hc' v rv
  cases rv with
  | @hnd a k' hk=>
   have hcut:=hc'.cut (k.bel hc)
   have hlen:(O'.take c.length).length=c.length:=by
    rw [hcut.len,List.length_take]
    have:=k.1
    omega
   have s1:Sub c.length O' (O'.take c.length++[some a]):=by
    refine ⟨fun j b hj h=>?_,fun b h=>?_⟩
    ·rw [List.getElem?_append_left (by omega),List.getElem?_take_of_lt hj];exact h
    ·rcases List.mem_append.mp h with h | h
     ·exact List.mem_of_mem_take h
     ·have h:=List.mem_singleton.mp h
      cases h
      exact List.mem_of_getElem? hk
   have ex:Ext H O H' (O'.take c.length++[some a]):=by
    have e':=e.cut
    rw [hc.len] at e'
    refine ⟨e'.keep,fun j b h=>?_,fun b h=>?_⟩
    ·have q:=e'.pre j b h
     rw [List.getElem?_append_left (List.getElem?_eq_some_iff.mp q).1];exact q
    ·rcases List.mem_append.mp h with h | h
     ·exact e'.fresh b h
     ·have h:=List.mem_singleton.mp h
      cases h
      exact e.fresh a (List.mem_of_getElem? hk)
   have hat:CellAt K H' (O'.take c.length++[some a]) c.length x:=by
    have h0:=hc'.at_ i x z
    have hn:(O'.take c.length++[some a])[c.length]?=some (some a):=by
     rw [List.getElem?_append_right (by omega)]
     simp [hlen]
    cases x with
    | dead=>exact absurd rfl nd
    | lst xs=>obtain ⟨a',vs,q1,q2,q3⟩:=h0;rw [hk] at q1;cases q1;exact ⟨a,vs,hn,q2,q3.to s1 b⟩
    | dct kvs=>obtain ⟨a',vs,q1,q2,q3,q4⟩:=h0;rw [hk] at q1;cases q1;exact ⟨a,vs,hn,q2,⟨q3.1,q3.2.to s1 b⟩,q4⟩
    | ins C fs=>obtain ⟨a',dx,vs,q1,q2,q3⟩:=h0;rw [hk] at q1;cases q1;exact ⟨a,dx,vs,hn,q2,q3.1,q3.2.to s1 b⟩
    | exn cls fs=>obtain ⟨a',dx,q1,q2,q3⟩:=h0;rw [hk] at q1;cases q1;exact ⟨a,dx,hn,q2,q3.to s1 b⟩
   refine p H' _ ex ⟨by simp [hlen,List.length_take];have:=k.1;omega,fun j y q=>?_,fun j1 j2 b h1 h2=>?_⟩ _ (.hnd (by rw [List.getElem?_append_right (by omega)];simp [hlen]))
   ·by_cases hj:j < c.length
    ·rw [List.getElem?_append_left (by rw [List.length_take];have:=k.1;omega),List.getElem?_take_of_lt hj] at q
     exact (hc'.at_ j y q).to s1 hj (fun z=>by rw [List.getElem?_append_left (by omega),List.getElem?_take_of_lt hj];exact z) (k.bel hc j y hj q)
    ·have hl2:(c'.take c.length).length=c.length:=by rw [List.length_take];have:=k.1;omega
     rw [List.getElem?_append_right (by omega),hl2] at q
     have h0:j - c.length=0:=by
      have:=(List.getElem?_eq_some_iff.mp q).1
      simp at this
      omega
     rw [h0] at q
     simp at q
     subst q
     have:j=c.length:=by omega
     rw [this]
     exact hat
   ·have side:∀ (j:Nat),(O'.take c.length++[some a])[j]?=some (some b)->(j < c.length/\O'[j]?=some (some b))\/(j=c.length/\b=a):=fun j h=>by
     by_cases hj:j < c.length
     ·rw [List.getElem?_append_left (by omega),List.getElem?_take_of_lt hj] at h;exact .inl ⟨hj,h⟩
     ·rw [List.getElem?_append_right (by omega),hlen] at h
      have h0:j - c.length=0:=by
       have:=(List.getElem?_eq_some_iff.mp h).1
       simp at this
       omega
      rw [h0] at h
      simp at h
      exact .inr ⟨by omega,h.symm⟩
    rcases side j1 h1 with ⟨g1,f1⟩ | ⟨g1,f1⟩
    ·rcases side j2 h2 with ⟨g2,f2⟩ | ⟨g2,f2⟩
     ·exact hc'.inj j1 j2 b f1 f2
     ·rw [f2] at f1
      have:=hc'.inj j1 i a f1 hk
      omega
    ·rcases side j2 h2 with ⟨g2,f2⟩ | ⟨g2,f2⟩
     ·rw [f1] at f2
      have:=hc'.inj j2 i a f2 hk
      omega
     ·omega
 | @whole d c'=>exact fun H' O' e hc' v rv=>p H' O' e hc' v rv
 | @wholeN l c'=>exact fun H' O' e hc' σ _=>p H' O' e hc' _ .non
 | @exc x c' b k=>
  intro H' O' cls dx e hc' rx
  have e':=e.cut
  rw [hc.len] at e'
  refine p H' _ cls dx e' (hc'.cut (k.bel hc)) ?_
  obtain ⟨r1,r2⟩:=rx
  refine ⟨r1,?_⟩
  cases dx with
  | none=>exact r2
  | some a=>
   obtain ⟨r3,us,r4,r5⟩:=r2
   exact ⟨fun m=>r3 (List.mem_of_mem_take m),us,r4,r5.1,r5.2.to (Sub.take _ _) b⟩
section
variable {P:Program} {w:World} {K:Frag} {mg:Str->Option Value} {base:Heap}
end
open PyProof.Rows hiding St
def rangeD (lo:Int) (n:Nat):List D:=(List.range n).map fun k=>D.int (lo+(k:Nat))
section
variable {X:Cx} {E:XK} {a b c e:Expr} {ta tb tc:ED} {pos:Pos}
theorem rangeD_get {lo:Int} {n i:Nat} (h:i < n):(rangeD lo n)[i]?=some (D.int (lo+(i:Nat))):=by
 unfold rangeD
 rw [List.getElem?_map,List.getElem?_range h]
 rfl
def whileN (p:TD) (body:SD):Nat->L->M Fl
 | 0,_=>M.stuck
 | n+1,l=>(p l).bd fun b=>if b=true then (body l).bd fun f=>match f with
   | .nx l2=>whileN p body n l2
   | .ct l2=>whileN p body n l2
   | .bk l2=>M.ret (.nx l2)
   | .ret d=>M.ret (.ret d)
  else M.ret (.nx l)
theorem ds_while (fuel:L->Nat) {p:TD} {body:List Stmt} {sb:SD} (hp:PassesOwn (model X.prog X.w) X.A X.env X.xe) (hc:DT X E c p) (hb:DSs X E body sb):DS X E (.While c body [] pos) (fun l=>whileN p sb (fuel l) l):=by
 refine ⟨PS.imp (ps_while hp hc.h hb.h) fun Dn σ H h=>?_⟩
 obtain ⟨O,l,c,hl,hc,pp⟩:=h
 refine ⟨fun m σ H=>∃ O l c,Locs X.K H O l σ/\Cells X.K H O c/\Post X.K E H O (FlOk X.K Dn) (whileN p sb m l c),⟨fuel l,O,l,c,hl,hc,pp⟩,?_⟩
 rintro m σ2 H2 ⟨O2,l2,c2,hl2,hc2,p2⟩
 cases m with
 | zero=>exact p2.elim
 | succ m=>
  unfold whileN at p2
  refine liftT_bd hl2 hc2 p2 fun x H3 O3 c3 e3 hl3 hc3 p3=>?_
  cases x with
  | false=>exact Post.ret (E:=E) (P:=FlOk X.K Dn) (x:=Fl.nx l2) p3 hc3 σ2 hl3
  | true=>
   rw [if_pos rfl]
   refine ⟨fun σ' H'=>∃ O l c,Locs X.K H' O l σ'/\Cells X.K H' O c/\Post X.K E H' O (FlOk X.K Dn) (whileN p sb m l c),fun σ' H' q=>⟨m,Nat.lt_succ_self _,q⟩,O3,l2,c3,hl3,hc3,?_⟩
   have p3:=Post.bd p3
   refine p3.imp fun f H4 O4 c4 e4 hc4 p4=>?_
   cases f with
   | nx l4=>exact fun σ4 q=>⟨O4,l4,c4,q,hc4,p4⟩
   | ct l4=>exact fun σ4 q=>⟨O4,l4,c4,q,hc4,p4⟩
   | bk l4=>exact Post.ret (E:=E) (P:=FlOk X.K Dn) (x:=Fl.nx l4) p4 hc4
   | ret d=>exact Post.ret (E:=E) (P:=FlOk X.K Dn) (x:=Fl.ret d) p4 hc4
def gN (n:Nat) (g:FD):FD:=fun ds=>if ds.length=n then g ds else M.stuck
def dCall (n:Nat) (g:FD) (dds:List D) (t:AD):ED:=fun l=>(t l).bd fun xs=>gN n g (xs++dds)
variable {es:List Expr} {t:AD} {CX:CXT} {k n:Nat} {f:Addr} {fd:FuncData} {ps:List Str} {g:FD} {dvs:List V} {dds:List D} {ds:List Value} {x:Str} {p:Pos}
theorem gN_post {K:Frag} {H:Hp} {O:Ow} {c:List Cell} {xs:List D} {vs:List V} {Q:VK} (r:Reps K H O vs xs) (hc:Cells K H O c) (h:Post K E H O (fun d H' O' _=>∀ v,Rep K H' O' v d->Q v H') (gN n g xs c)):spD K n g vs H Q E:=by
 unfold gN at h
 by_cases z:xs.length=n
 ·rw [if_pos z] at h
  exact ⟨by rw [r.length];exact z,O,xs,c,r,hc,h⟩
 ·rw [if_neg z] at h
  exact h.elim
theorem de_call (F:FnOk X.prog X.w X.K X.mg X.base CX k f fd ps (spD X.K n g)) (hr:Room k X.A) (hm:X.mg x=some (.ref f)) (hk:keepIn X.K (.ref f)=true) (hb:Binds X.K fd ps ds) (hd:Vals dvs ds) (rd:∀ H O,Reps X.K H O dvs dds) (hx:Passes CX X E)
  (ha:DA X E (e::es) t) (hg:Gl X x:=by rfl) (hdb:(x == ("__debug__":Str))=false:=by decide) (he:starEach (e::es) X.env=(false,eval e X.env)::starEach es X.env:=by rfl) (hpl:(backTo pos (starEach es X.env)).any (·.1)=false:=by rfl):
  DE X E (.Call (.Name x p) (e::es) [] pos) (dCall n g dds t):=by
 refine ⟨PE.imp (pe_call F hr hg hm hk hb hd hx ha.h hdb he hpl) fun σ H Q h=>?_⟩
 obtain ⟨O,l,c,hl,hc,p⟩:=h
 refine liftA_bd hl hc p fun xs vs H1 O1 c1 e1 hl1 hc1 rv p1=>?_
 exact gN_post (rv.append (rd _ _)) hc1 p1
end
open PyProof.Rows hiding St
section
variable {X:Cx} {E:XK} {a b c e:Expr} {ta tb tc:ED} {pos:Pos}
def seqL (d:D) (c:List Cell):Option (List D):=match d with
 | .lst xs=>some xs
 | .hnd k=>match c[k]? with
  | some (.lst xs)=>some xs
  | _=>none
 | _=>none
theorem seqL_ok {K:Frag} {H:Hp} {O:Ow} {c:List Cell} {v:V} {d:D} {xs:List D} (hc:Cells K H O c) (r:Rep K H O v d) (h:seqL d c=some xs):∃ a vs,v=.ref a/\H a=some (.lst vs)/\Reps K H O vs xs:=by
 cases r with
 | @lst a vs ys h1 n r1=>cases h;exact ⟨a,vs,rfl,h1,r1⟩
 | @hnd a k hk=>
  simp only [seqL] at h
  cases z:c[k]? with
  | none=>rw [z] at h;cases h
  | some x=>
   rw [z] at h
   cases x with
   | lst ys=>
    cases h
    obtain ⟨a',vs,q1,q2,q3⟩:=hc.at_ k _ z
    rw [hk] at q1;cases q1
    exact ⟨a,vs,rfl,q2,q3⟩
   | _=>cases h
 | _=>cases h
abbrev PostD (K:Frag) (E:XK) (H:Hp) (O:Ow) (Q:VK) (r:Option (Out D)):Prop:=Post K E H O (fun d H' O' _=>∀ v,Rep K H' O' v d->Q v H') r
theorem PostD.ok {K:Frag} {H:Hp} {O:Ow} {Q:VK} {c:List Cell} {d:D} {v:V} (p:PostD K E H O Q (some (.ok d c))) (hc:Cells K H O c) (r:Rep K H O v d):Q v H:=p H O (Ext.refl _ _) hc v r
theorem PostD.new {K:Frag} {H:Hp} {O:Ow} {Q:VK} {c:List Cell} {d:D} {q:Addr} {o:HO} (p:PostD K E H O Q (some (.ok d c))) (hc:Cells K H O c) (n:H q=none) (r:Rep K (upd H q o) O (.ref q) d):Q (.ref q) (upd H q o):=
 p _ O (Ext.updN n) (hc.updN n) _ r
def addD (x y:D):M D:=match x,y with
 | .int i,.int j=>M.ret (.int (i+j))
 | .str i,.str j=>if i.length+j.length<=1000000 then M.ret (.str (i++j)) else M.stuck
 | .tup xs,.tup ys=>if xs.isEmpty=false/\xs.length+ys.length<=1000000 then M.ret (.tup (xs++ys)) else M.stuck
 | x,y=>fun c=>match seqL x c,seqL y c with
  | some xs,some ys=>if xs.length+ys.length<=1000000 then some (.ok (.lst (xs++ys)) c) else none
  | _,_=>none
theorem str_app (i j:List Nat):(⟨i.toArray⟩:Str)++⟨j.toArray⟩=⟨(i++j).toArray⟩:=by
 show (⟨i.toArray++j.toArray⟩:Str)=_
 simp
theorem op2_add:Op2 X E (fun x y H Q=>(rI0 fun i j=>.int (i+j)) x y H Q\/(∃ i j,x=.str i/\y=.str j/\i.length+j.length<=sizeLine/\Q (.str (i++j)) H)\/rCat x y H Q\/rCatT X.K x y H Q) addD:=by
 intro H O c x y v u Q hc rx ry p
 have lists:(∀ c,addD x y c=match seqL x c,seqL y c with
  | some xs,some ys=>if xs.length+ys.length<=1000000 then some (.ok (.lst (xs++ys)) c) else none
  | _,_=>none)->rCat v u H Q:=by
  intro e
  rw [e c] at p
  cases z:seqL x c with
  | none=>rw [z] at p;exact p.elim
  | some xs=>
   cases z2:seqL y c with
   | none=>rw [z,z2] at p;exact p.elim
   | some ys=>
    rw [z,z2] at p
    obtain ⟨a,vs,e1,h1,r1⟩:=seqL_ok hc rx z
    obtain ⟨b,us,e2,h2,r2⟩:=seqL_ok hc ry z2
    have p:PostD X.K E H O Q (if xs.length+ys.length<=1000000 then some (.ok (.lst (xs++ys)) c) else none):=p
    by_cases hz:xs.length+ys.length<=1000000
    ·rw [if_pos hz] at p
     refine ⟨a,b,vs,us,e1,e2,h1,h2,by rw [r1.length,r2.length];exact Nat.le_trans hz sl_1e6,fun q n=>PostD.new p hc n (hc.lstNew n (r1.append r2))⟩
    ·rw [if_neg hz] at p;exact p.elim
 cases rx with
 | int i=>
  cases ry with
  | int j=>exact .inl ⟨i,j,rfl,rfl,Post.ret p hc _ (.int _)⟩
  | _=>exact .inr (.inr (.inl (lists fun _=>rfl)))
 | str i=>
  cases ry with
  | str j=>
   have p:PostD X.K E H O Q ((if i.length+j.length<=1000000 then M.ret (.str (i++j)) else M.stuck) c):=p
   by_cases hz:i.length+j.length<=1000000
   ·rw [if_pos hz] at p
    refine .inr (.inl ⟨_,_,rfl,rfl,?_,?_⟩)
    ·show i.toArray.size+j.toArray.size<=sizeLine
     simp
     exact Nat.le_trans hz sl_1e6
    ·rw [str_app];exact Post.ret p hc _ (.str _)
   ·rw [if_neg hz] at p;exact p.elim
  | _=>exact .inr (.inr (.inl (lists fun _=>rfl)))
 | @tup a vs xs h1 n1 r1=>
  have rx:Rep X.K H O (.ref a) (.tup xs):=.tup h1 n1 r1
  cases ry with
  | @tup b us ys h2 n2 r2=>
   have p:PostD X.K E H O Q ((if xs.isEmpty=false/\xs.length+ys.length<=1000000 then M.ret (.tup (xs++ys)) else M.stuck) c):=p
   by_cases hz:xs.isEmpty=false/\xs.length+ys.length<=1000000
   ·rw [if_pos hz] at p
    refine .inr (.inr (.inr ⟨a,b,vs,us,rfl,rfl,SqT.of h1,SqT.of h2,?_,by rw [r1.length,r2.length];exact Nat.le_trans hz.2 sl_1e6,fun z=>?_,fun z q n=>PostD.new p hc n (hc.tupNew n (r1.append r2))⟩))
    ·rintro rfl
     cases r1
     cases hz.1
    ·subst z
     cases r2
     rw [List.append_nil] at p
     exact Post.ret p hc _ rx
   ·rw [if_neg hz] at p;exact p.elim
  | _=>exact .inr (.inr (.inl (lists fun _=>rfl)))
 | non=>exact .inr (.inr (.inl (lists fun _=>rfl)))
 | bl _=>exact .inr (.inr (.inl (lists fun _=>rfl)))
 | lst _ _ _=>exact .inr (.inr (.inl (lists fun _=>rfl)))
 | hnd _=>exact .inr (.inr (.inl (lists fun _=>rfl)))
 | scr _=>exact .inr (.inr (.inl (lists fun _=>rfl)))
theorem de_add (ha:DE X E a ta) (hb:DE X E b tb):DE X E (.BinOp a .Add b pos) (d2 addD ta tb):=de_op (op_add.or (op_add_str.or (op_cat.or op_catT))) op2_add ha hb
def i2 (C:Int->Int->Prop) [∀ i j,Decidable (C i j)] (f:Int->Int->D):D->D->M D
 | .int i,.int j=>if C i j then M.ret (f i j) else M.stuck
 | _,_=>M.stuck
theorem op2_i2 {C C':Int->Int->Prop} [∀ i j,Decidable (C i j)] {f:Int->Int->V} {f':Int->Int->D} (hC:∀ i j,C i j->C' i j) (hf:∀ K H O i j,C i j->Rep K H O (f i j) (f' i j)):Op2 X E (rI C' f) (i2 C f'):=by
 intro H O c x y v u Q hc rx ry p
 cases rx with
 | int i=>
  cases ry with
  | int j=>
   have p:PostD X.K E H O Q ((if C i j then M.ret (f' i j) else M.stuck) c):=p
   by_cases z:C i j
   ·rw [if_pos z] at p
    exact ⟨i,j,rfl,rfl,hC i j z,Post.ret p hc _ (hf _ _ _ i j z)⟩
   ·rw [if_neg z] at p;exact p.elim
  | _=>exact p.elim
 | _=>exact p.elim
def yes:Int->Int->Prop:=fun _ _=>True
instance (i j:Int):Decidable (yes i j):=.isTrue trivial
def i20 (f:Int->Int->D):D->D->M D
 | .int i,.int j=>M.ret (f i j)
 | _,_=>M.stuck
theorem op2_i20 {f:Int->Int->V} {f':Int->Int->D} (hf:∀ K H O i j,Rep K H O (f i j) (f' i j)):Op2 X E (rI0 f) (i20 f'):=by
 intro H O c x y v u Q hc rx ry p
 cases rx with
 | int i=>
  cases ry with
  | int j=>exact ⟨i,j,rfl,rfl,Post.ret p hc _ (hf _ _ _ i j)⟩
  | _=>exact p.elim
 | _=>exact p.elim
abbrev subD:D->D->M D:=i20 fun i j=>.int (i - j)
theorem de_sub (ha:DE X E a ta) (hb:DE X E b tb):DE X E (.BinOp a .Sub b pos) (d2 subD ta tb):=de_op op_sub (op2_i20 fun _ _ _ i j=>.int _) ha hb
def mulOk (i j:Int):Prop:=(-(2 ^ 64) < i/\i < 2 ^ 64)\/(-(2 ^ 64) < j/\j < 2 ^ 64)\/((-(10 ^ 200) < i/\i < 10 ^ 200)/\(-(10 ^ 200) < j/\j < 10 ^ 200))
instance (i j:Int):Decidable (mulOk i j):=by unfold mulOk;infer_instance
theorem mulOk_ok {i j:Int} (h:mulOk i j):IntMulOk i j:=by
 rcases h with h | h | ⟨h1,h2⟩
 ·exact CMul.ok (.inl h)
 ·exact CMul.ok (.inr h)
 ·have big:∀ k:Int,-(10 ^ 200) < k/\k < 10 ^ 200->k.natAbs < 2 ^ 1024:=fun k hk=>by
   have e1:(10:Nat) ^ 200<=2 ^ 1024:=by decide +kernel
   have e2:k.natAbs < 10 ^ 200:=by omega
   exact Nat.lt_of_lt_of_le e2 e1
  exact PyProof.Rows.mulOk_of_bits (m:=1024) (n:=1024) (PySem.intBits_le_iff.mpr (big i h1)) (PySem.intBits_le_iff.mpr (big j h2)) (by decide)
theorem op_mulB:OpR X (binaryOp .Mult) (rI mulOk fun i j=>.int (i * j)):=opI fun _ _ _ _ _ _ _ hc q=>mul_int q (mulOk_ok hc)
abbrev mulD:D->D->M D:=i2 mulOk fun i j=>.int (i * j)
theorem de_mul (ha:DE X E a ta) (hb:DE X E b tb):DE X E (.BinOp a .Mult b pos) (d2 mulD ta tb):=de_op op_mulB (op2_i2 (fun _ _ h=>h) fun _ _ _ i j _=>.int _) ha hb
def divOk (_ j:Int):Prop:=0 < j/\j < 10 ^ 200
instance (i j:Int):Decidable (divOk i j):=by unfold divOk;infer_instance
theorem op_divB:OpR X (binaryOp .FloorDiv) (rI divOk fun i j=>.int (i / j)):=opI fun i j _ _ _ _ _ hc q=>by
 rw [← Int.fdiv_eq_ediv_of_nonneg i (Int.le_of_lt hc.1)] at q
 refine floordiv_int (by have:=hc.1;omega) q (.inl (PyProof.noPylong_of_log2 ?_))
 have e1:(10:Nat) ^ 200<=2 ^ 1024:=by decide +kernel
 have e2:j.natAbs < 10 ^ 200:=by have:=hc.1;have:=hc.2;omega
 have e3:j.natAbs≠0:=by have:=hc.1;omega
 exact Nat.lt_trans ((Nat.log2_lt e3).mpr (Nat.lt_of_lt_of_le e2 e1)) (by decide)
abbrev divD:D->D->M D:=i2 divOk fun i j=>.int (i / j)
theorem de_div (ha:DE X E a ta) (hb:DE X E b tb):DE X E (.BinOp a .FloorDiv b pos) (d2 divD ta tb):=de_op op_divB (op2_i2 (fun _ _ h=>h) fun _ _ _ i j _=>.int _) ha hb
def modOk (_ j:Int):Prop:=0 < j
instance (i j:Int):Decidable (modOk i j):=by unfold modOk;infer_instance
abbrev modD:D->D->M D:=i2 modOk fun i j=>.int (i % j)
theorem de_mod (ha:DE X E a ta) (hb:DE X E b tb):DE X E (.BinOp a .Mod b pos) (d2 modD ta tb):=de_op op_mod (op2_i2 (fun _ _ h=>h) fun _ _ _ i j _=>.int _) ha hb
def powOk (i j:Int):Prop:=(-(2 ^ 64) < i/\i < 2 ^ 64)/\0<=j/\j<=1000
instance (i j:Int):Decidable (powOk i j):=by unfold powOk;infer_instance
abbrev powD:D->D->M D:=i2 powOk fun i j=>.int (i ^ j.toNat)
theorem de_pow (ha:DE X E a ta) (hb:DE X E b tb):DE X E (.BinOp a .Pow b pos) (d2 powD ta tb):=de_op op_pow (op2_i2 (fun i j h=>⟨h.2.1,by have:=h.2.2;omega,by have:=h.1;omega⟩) fun _ _ _ i j _=>.int _) ha hb
def negD:D->M D
 | .int i=>M.ret (.int (-i))
 | _=>M.stuck
def d1 (f:D->M D) (ta:ED):ED:=fun l=>(ta l).bd f
theorem de_neg (ha:DE X E a ta):DE X E (.UnaryOp .USub a pos) (d1 negD ta):=by
 refine ⟨PE.imp (pe_un un_neg ha.h) fun σ H Q h=>?_⟩
 obtain ⟨O,l,c,hl,hc,p⟩:=h
 refine liftE_bd hl hc p fun x v H1 O1 c1 e1 hl1 hc1 rv p1=>?_
 cases rv with
 | int i=>exact ⟨i,rfl,Post.ret p1 hc1 _ (.int _)⟩
 | _=>exact p1.elim
def ltL (x y:List Nat):Bool:=decide (x < y)
def cmpD (fi:Int->Int->Bool) (fs:List Nat->List Nat->Bool):D->D->M D
 | .int i,.int j=>M.ret (.bl (fi i j))
 | .str i,.str j=>M.ret (.bl (fs i j))
 | _,_=>M.stuck
abbrev rS (fs:List Nat->List Nat->Bool):R2:=fun x y H Q=>∃ i j,x=.str i/\y=.str j/\Q (.bl (fs i.cps.toList j.cps.toList)) H
theorem op2_cmp {fi:Int->Int->Bool} {fs:List Nat->List Nat->Bool}:Op2 X E (fun x y H Q=>rI0 (fun i j=>.bl (fi i j)) x y H Q\/rS fs x y H Q) (cmpD fi fs):=by
 intro H O c x y v u Q hc rx ry p
 cases rx with
 | int i=>
  cases ry with
  | int j=>exact .inl ⟨i,j,rfl,rfl,Post.ret p hc _ (.bl _)⟩
  | _=>exact p.elim
 | str i=>
  cases ry with
  | str j=>exact .inr ⟨_,_,rfl,rfl,Post.ret p hc _ (.bl _)⟩
  | _=>exact p.elim
 | _=>exact p.elim
theorem ops_lt:OpR X (compareOp .Lt) (rS ltL):=op_lt_str
theorem ops_le:OpR X (compareOp .LtE) (rS fun x y=>!ltL y x):=by
 intro pins s σ H x y v u Q I rx ry h
 obtain ⟨i,j,rfl,rfl,q⟩:=h
 obtain ⟨t,rfl⟩:=rx
 obtain ⟨t',rfl⟩:=ry
 exact PySem.P.le_str (fin_bl I q rfl)
theorem ops_ge:OpR X (compareOp .GtE) (rS fun x y=>!ltL x y):=by
 intro pins s σ H x y v u Q I rx ry h
 obtain ⟨i,j,rfl,rfl,q⟩:=h
 obtain ⟨t,rfl⟩:=rx
 obtain ⟨t',rfl⟩:=ry
 exact PySem.P.ge_str (fin_bl I q rfl)
abbrev ltD:D->D->M D:=cmpD (fun i j=>decide (i < j)) ltL
abbrev leD:D->D->M D:=cmpD (fun i j=>decide (i<=j)) fun x y=>!ltL y x
abbrev geD:D->D->M D:=cmpD (fun i j=>decide (j<=i)) fun x y=>!ltL x y
abbrev gtD:D->D->M D:=i20 fun i j=>.bl (decide (j < i))
theorem de_lt (ha:DE X E a ta) (hb:DE X E b tb):DE X E (.Compare a [.Lt] [b] pos) (d2 ltD ta tb):=de_cmp (op_lt.or ops_lt) op2_cmp ha hb (nomark _)
theorem dt_lt (ha:DE X E a ta) (hb:DE X E b tb):DT X E (.Compare a [.Lt] [b] pos) (tOf (d2 ltD ta tb)):=dt_cmp (op_lt.or ops_lt) op2_cmp ha hb (nomark _)
theorem dt_ge (ha:DE X E a ta) (hb:DE X E b tb):DT X E (.Compare a [.GtE] [b] pos) (tOf (d2 geD ta tb)):=dt_cmp (op_ge.or ops_ge) op2_cmp ha hb (nomark _)
theorem dt_gt (ha:DE X E a ta) (hb:DE X E b tb):DT X E (.Compare a [.Gt] [b] pos) (tOf (d2 gtD ta tb)):=dt_cmp op_gt (op2_i20 fun _ _ _ i j=>.bl _) ha hb (nomark _)
theorem lift_chain {r r':R2} {f g:D->D->M D} (hf:Op2 X E r f) (hg:Op2 X E r' g) {σ:St} {H:Hp} {Q:VK} (h:liftE X.K E (dChain f g ta tb tc) σ H Q):tChain r r' (liftE X.K E ta) (liftE X.K E tb) (liftE X.K E tc) σ H Q:=by
 obtain ⟨O,l,c,hl,hc,p⟩:=h
 refine liftE_bd hl hc p fun x v H1 O1 c1 e1 hl1 hc1 rv p1=>?_
 refine liftE_bd hl1 hc1 p1 fun y u H2 O2 c2 e2 hl2 hc2 ru p2=>?_
 refine hf H2 O2 c2 x y v u _ hc2 (rv.mono e2) ru ?_
 refine p2.bd.imp fun z H3 O3 c3 e3 hc3 p3 w rw_=>?_
 cases z with
 | bl k=>
  cases rw_
  refine ⟨k,rfl,?_⟩
  cases k with
  | false=>exact Post.ret p3 hc3 _ (.bl false)
  | true=>
   have p3:PostD X.K E H3 O3 Q (((tc l).bd fun w=>g y w) c3):=p3
   refine liftE_bd (hl2.mono e3) hc3 p3 fun w2 v2 H4 O4 c4 e4 hl4 hc4 rv4 p4=>?_
   exact hg H4 O4 c4 y w2 u v2 Q hc4 ((ru.mono e3).mono e4) rv4 p4
 | _=>exact p3.elim
theorem de_chain {op op':CmpOp} {r r':R2} {f g:D->D->M D} (ho:OpR X (compareOp op) r) (hf:Op2 X E r f) (ho':OpR X (compareOp op') r') (hg:Op2 X E r' g) (ha:DE X E a ta) (hb:DE X E b tb) (hc:DE X E c tc) (hm:lastMarks [op,op'] [b,c]=false:=by with_unfolding_all rfl):
  DE X E (.Compare a [op,op'] [b,c] pos) (dChain f g ta tb tc):=⟨PE.imp (pe_chain ho ho' ha.h hb.h hc.h hm) fun σ H Q h=>lift_chain hf hg h⟩
theorem de_le_le (ha:DE X E a ta) (hb:DE X E b tb) (hc:DE X E c tc) (hm:lastMarks [.LtE,.LtE] [b,c]=false:=by with_unfolding_all rfl):DE X E (.Compare a [.LtE,.LtE] [b,c] pos) (dChain leD leD ta tb tc):=de_chain (op_le.or ops_le) op2_cmp (op_le.or ops_le) op2_cmp ha hb hc hm
end
open PyProof.Rows hiding St
mutual
def eqD:D->D->Bool
 | .non,.non=>true
 | .bl a,.bl b=>a == b
 | .bl a,.int b=>(if a then 1 else 0) == b
 | .int a,.bl b=>a == (if b then 1 else 0)
 | .int a,.int b=>a == b
 | .str a,.str b=>a == b
 | .tup xs,.tup ys=>eqDs xs ys
 | .lst xs,.lst ys=>eqDs xs ys
 | _,_=>false
def eqDs:List D->List D->Bool
 | [],[]=>true
 | x::xs,y::ys=>eqD x y && eqDs xs ys
 | _,_=>false
end
def shal:Nat->D->Bool
 | n+1,.tup xs=>xs.all (shal n)
 | n+1,.lst xs=>xs.all (shal n)
 | 0,.tup _=>false
 | 0,.lst _=>false
 | _,.hnd _=>false
 | _,.scr _=>false
 | _,_=>true
theorem eqDs_len:∀ {xs ys:List D},eqDs xs ys=true->xs.length=ys.length
 | [],[],_=>rfl
 | x::xs,y::ys,h=>by simp [eqDs] at h;simp [eqDs_len h.2]
 | [],_::_,h=>by simp [eqDs] at h
 | _::_,[],h=>by simp [eqDs] at h
theorem eqDs_range:∀ (xs ys:List D),xs.length=ys.length->eqDs xs ys=(List.range xs.length).all fun j=>eqD (xs.getD j .non) (ys.getD j .non)
 | [],[],_=>rfl
 | x::xs,y::ys,h=>by
  have ih:=eqDs_range xs ys (by simpa using h)
  rw [List.length_cons,List.range_succ_eq_map,List.all_cons,List.all_map]
  simp only [eqDs,ih]
  rfl
 | [],_::_,h=>by simp at h
 | _::_,[],h=>by simp at h
mutual
theorem eqD_refl:∀ (n:Nat) (d:D),shal n d=true->eqD d d=true
 | _,.non,_=>by simp [eqD]
 | _,.bl _,_=>by simp [eqD]
 | _,.int _,_=>by simp [eqD]
 | _,.str _,_=>by simp [eqD]
 | n+1,.tup xs,h=>by simp only [eqD];exact eqDs_refl n xs (by simpa [shal] using h)
 | n+1,.lst xs,h=>by simp only [eqD];exact eqDs_refl n xs (by simpa [shal] using h)
 | 0,.tup xs,h=>by simp [shal] at h
 | 0,.lst xs,h=>by simp [shal] at h
 | n,.hnd _,h=>by cases n <;> simp [shal] at h
 | n,.scr _,h=>by cases n <;> simp [shal] at h
theorem eqDs_refl:∀ (n:Nat) (d:List D),(∀ x∈d,shal n x=true)->eqDs d d=true
 | _,[],_=>by simp [eqDs]
 | n,x::xs,h=>by simp [eqDs,eqD_refl n x (h x List.mem_cons_self),eqDs_refl n xs fun y hy=>h y (List.mem_cons_of_mem _ hy)]
end
section
variable {X:Cx} {E:XK} {pins:List (Addr×Obj)} {σ:St} {H:Hp} {s:Shared} {O:Ow}
mutual
theorem Rep.inj:∀ (n:Nat) {v:V} {x y:D},shal n x=true->shal n y=true->Rep X.K H O v x->Rep X.K H O v y->x=y
 | _,_,_,_,_,_,.non,.non=>rfl
 | _,_,_,_,_,_,.bl _,.bl _=>rfl
 | _,_,_,_,_,_,.int _,.int _=>rfl
 | _,_,_,_,_,_,.str x,r=>by
  generalize e:V.str ⟨x.toArray⟩=v at r
  cases r with
  | str y=>have e':x.toArray=y.toArray:=by injection e with e;injection e
           have:x=y:=by simpa using congrArg Array.toList e'
           rw [this]
  | _=>cases e
 | n+1,_,_,_,h1,h2,.tup a1 _ r1,.tup a2 _ r2=>by
  rw [a1] at a2;cases a2
  rw [Reps.inj n (by simpa [shal] using h1) (by simpa [shal] using h2) r1 r2]
 | n+1,_,_,_,h1,h2,.lst a1 _ r1,.lst a2 _ r2=>by
  rw [a1] at a2;cases a2
  rw [Reps.inj n (by simpa [shal] using h1) (by simpa [shal] using h2) r1 r2]
 | 0,_,_,_,h1,_,.tup _ _ _,_=>by simp [shal] at h1
 | 0,_,_,_,h1,_,.lst _ _ _,_=>by simp [shal] at h1
 | _,_,_,_,_,_,.tup a1 _ _,.lst a2 _ _=>by rw [a1] at a2;cases a2
 | _,_,_,_,_,_,.lst a1 _ _,.tup a2 _ _=>by rw [a1] at a2;cases a2
 | n,_,_,_,h1,_,.hnd _,_=>by cases n <;> simp [shal] at h1
 | n,_,_,_,h1,_,.scr _,_=>by cases n <;> simp [shal] at h1
 | n,_,_,_,_,h2,_,.hnd _=>by cases n <;> simp [shal] at h2
 | n,_,_,_,_,h2,_,.scr _=>by cases n <;> simp [shal] at h2
theorem Reps.inj:∀ (n:Nat) {v:List V} {x y:List D},(∀ d∈x,shal n d=true)->(∀ d∈y,shal n d=true)->Reps X.K H O v x->Reps X.K H O v y->x=y
 | _,_,_,_,_,_,.nil,.nil=>rfl
 | n,_,_,_,h1,h2,.cons a1 b1,.cons a2 b2=>by
  rw [Rep.inj n (h1 _ List.mem_cons_self) (h2 _ List.mem_cons_self) a1 a2,Reps.inj n (fun d hd=>h1 d (List.mem_cons_of_mem _ hd)) (fun d hd=>h2 d (List.mem_cons_of_mem _ hd)) b1 b2]
end
theorem str_eq_list (x y:List Nat):((⟨x.toArray⟩:Str) == ⟨y.toArray⟩)=(x == y):=by
 rw [Bool.eq_iff_iff]
 simp
theorem seq_at {A:Around} {n:Nat} {vs us:List V} {xs ys:List D} {its its2:List Value} (ih:∀ (x y:D) (v u:V) (v' u':Value),shal n x=true->shal n y=true->Rep X.K H O v x->Rep X.K H O u y->RelV v v'->RelV u u'->SeqAt.EqAt A s v' u' (eqD x y))
  (h1:∀ d∈xs,shal n d=true) (h2:∀ d∈ys,shal n d=true) (r1:Reps X.K H O vs xs) (r2:Reps X.K H O us ys) (q1:Vals vs its) (q2:Vals us its2):
  ∀ j (g1:j < its.toArray.size) (g2:j < its2.toArray.size),SeqAt.EqAt A s its.toArray[j] its2.toArray[j] (eqD (xs.getD j .non) (ys.getD j .non)):=by
 intro j g1 g2
 have l1:=r1.length
 have l2:=r2.length
 have k1:=q1.length
 have k2:=q2.length
 simp only [List.size_toArray] at g1 g2
 obtain ⟨d1,e1⟩:∃ d,xs[j]?=some d:=⟨xs[j]'(by omega),List.getElem?_eq_getElem (by omega)⟩
 obtain ⟨d2,e2⟩:∃ d,ys[j]?=some d:=⟨ys[j]'(by omega),List.getElem?_eq_getElem (by omega)⟩
 obtain ⟨v,f1,t1⟩:=r1.get e1
 obtain ⟨u,f2,t2⟩:=r2.get e2
 obtain ⟨v',w1,s1⟩:=q1.get f1
 obtain ⟨u',w2,s2⟩:=q2.get f2
 have a1:its.toArray[j]=v':=by
  rw [List.getElem_toArray]
  rw [List.getElem?_eq_getElem g1] at w1
  exact Option.some.inj w1
 have a2:its2.toArray[j]=u':=by
  rw [List.getElem_toArray]
  rw [List.getElem?_eq_getElem g2] at w2
  exact Option.some.inj w2
 rw [a1,a2,List.getD_eq_getElem?_getD,List.getD_eq_getElem?_getD,e1,e2]
 exact ih d1 d2 v u v' u' (h1 _ (List.mem_of_getElem? e1)) (h2 _ (List.mem_of_getElem? e2)) t1 t2 s1 s2
theorem eq_both (I:Inv X pins σ H s):∀ (n:Nat) (A:Around),A.units+n < cLine->∀ (x y:D) (v u:V) (v' u':Value),shal n x=true->shal n y=true->Rep X.K H O v x->Rep X.K H O u y->RelV v v'->RelV u u'->
  SeqAt.RcAt A s v' u' (eqD x y)/\SeqAt.RcNeAt A s v' u' (!eqD x y)/\SeqAt.EqAt A s v' u' (eqD x y):=by
 intro n
 induction n with
 | zero=>
  intro A hu x y v u v' u' h1 h2 rx ry sx sy
  cases rx with
  | non=>
   cases sx
   cases ry with
   | non=>cases sy;simp only [eqD];exact ⟨SeqAt.RcAt.none_none,SeqAt.RcNeAt.none_none,SeqAt.EqAt.same _⟩
   | bl b=>cases sy;simp only [eqD];exact ⟨SeqAt.RcAt.none_bool b,SeqAt.RcNeAt.none_bool b,SeqAt.EqAt.none_bool b⟩
   | int b=>obtain ⟨t,rfl⟩:=sy;simp only [eqD];exact ⟨SeqAt.RcAt.none_int b t,SeqAt.RcNeAt.none_int b t,SeqAt.EqAt.none_int b t⟩
   | str b=>obtain ⟨t,rfl⟩:=sy;simp only [eqD];exact ⟨SeqAt.RcAt.none_str _ t,SeqAt.RcNeAt.none_str _ t,SeqAt.EqAt.none_str _ t⟩
   | _=>simp [shal] at h2
  | bl a=>
   cases sx
   cases ry with
   | non=>cases sy;simp only [eqD];exact ⟨SeqAt.RcAt.bool_none a,SeqAt.RcNeAt.bool_none a,SeqAt.EqAt.bool_none a⟩
   | bl b=>cases sy;simp only [eqD];exact ⟨SeqAt.RcAt.bool_bool a b,SeqAt.RcNeAt.bool_bool a b,SeqAt.EqAt.bool_bool a b⟩
   | int b=>obtain ⟨t,rfl⟩:=sy;simp only [eqD];exact ⟨SeqAt.RcAt.bool_int a b t,SeqAt.RcNeAt.bool_int a b t,SeqAt.EqAt.bool_int a b t⟩
   | str b=>obtain ⟨t,rfl⟩:=sy;simp only [eqD];exact ⟨SeqAt.RcAt.bool_str a _ t,SeqAt.RcNeAt.bool_str a _ t,SeqAt.EqAt.bool_str a _ t⟩
   | _=>simp [shal] at h2
  | int a=>
   obtain ⟨t',rfl⟩:=sx
   cases ry with
   | non=>cases sy;simp only [eqD];exact ⟨SeqAt.RcAt.int_none a t',SeqAt.RcNeAt.int_none a t',SeqAt.EqAt.int_none a t'⟩
   | bl b=>cases sy;simp only [eqD];exact ⟨SeqAt.RcAt.int_bool a t' b,SeqAt.RcNeAt.int_bool a t' b,SeqAt.EqAt.int_bool a t' b⟩
   | int b=>obtain ⟨t,rfl⟩:=sy;simp only [eqD];exact ⟨SeqAt.RcAt.int_int a t' b t,SeqAt.RcNeAt.int_int a t' b t,SeqAt.EqAt.int_int a t' b t⟩
   | str b=>obtain ⟨t,rfl⟩:=sy;simp only [eqD];exact ⟨SeqAt.RcAt.int_str a t' _ t,SeqAt.RcNeAt.int_str a t' _ t,SeqAt.EqAt.int_str a t' _ t⟩
   | _=>simp [shal] at h2
  | str a=>
   obtain ⟨t',rfl⟩:=sx
   cases ry with
   | non=>cases sy;simp only [eqD];exact ⟨SeqAt.RcAt.str_none _ t',SeqAt.RcNeAt.str_none _ t',SeqAt.EqAt.str_none _ t'⟩
   | bl b=>cases sy;simp only [eqD];exact ⟨SeqAt.RcAt.str_bool _ t' b,SeqAt.RcNeAt.str_bool _ t' b,SeqAt.EqAt.str_bool _ t' b⟩
   | int b=>obtain ⟨t,rfl⟩:=sy;simp only [eqD];exact ⟨SeqAt.RcAt.str_int _ t' b t,SeqAt.RcNeAt.str_int _ t' b t,SeqAt.EqAt.str_int _ t' b t⟩
   | str b=>obtain ⟨t,rfl⟩:=sy;simp only [eqD];rw [← str_eq_list];exact ⟨SeqAt.RcAt.str_str _ t' _ t,SeqAt.RcNeAt.str_str _ t' _ t,SeqAt.EqAt.str_str _ t' _ t⟩
   | _=>simp [shal] at h2
  | _=>simp [shal] at h1
 | succ n ih=>
  intro A hu x y v u v' u' h1 h2 rx ry sx sy
  have hu0:A.units < cLine:=by omega
  have hu1:A.in1.units+n < cLine:=by show A.units+1+n < cLine;omega
  have ih1:=fun x y v u v' u' a b c d e f=>(ih A.in1 hu1 x y v u v' u' a b c d e f).2.2
  have flat:shal n x=true->shal n y=true->SeqAt.RcAt A s v' u' (eqD x y)/\SeqAt.RcNeAt A s v' u' (!eqD x y)/\SeqAt.EqAt A s v' u' (eqD x y):=fun a b=>ih A (by omega) x y v u v' u' a b rx ry sx sy
  have scal:∀ d:D,(match d with | .tup _=>False | .lst _=>False | .hnd _=>False | .scr _=>False | _=>True)->shal n d=true:=by
   intro d hd
   cases d <;> first | exact hd.elim | (cases n <;> rfl)
  cases rx with
  | @tup a vs xs a1 m1 r1=>
   cases sx
   obtain ⟨its,q1,p1,z1⟩:=I.tuple (SqT.of a1)
   have g1:∀ d∈xs,shal n d=true:=by simpa [shal] using h1
   cases ry with
   | @tup b us ys a2 m2 r2=>
    cases sy
    obtain ⟨its2,q2,p2,z2⟩:=I.tuple (SqT.of a2)
    have g2:∀ d∈ys,shal n d=true:=by simpa [shal] using h2
    have he:=seq_at ih1 g1 g2 r1 r2 q1 q2
    have ee:((List.range (min its.toArray.size its2.toArray.size)).all (fun j=>eqD (xs.getD j .non) (ys.getD j .non)) && (its.toArray.size == its2.toArray.size))=eqD (.tup xs) (.tup ys):=by
     simp only [eqD,List.size_toArray,← q1.length,← q2.length,r1.length,r2.length]
     by_cases hl:xs.length=ys.length
     ·rw [eqDs_range xs ys hl,hl];simp
     ·have:eqDs xs ys=false:=by
       cases z:eqDs xs ys with
       | false=>rfl
       | true=>exact absurd (eqDs_len z) hl
      rw [this]
      simp [hl]
    have t1:=SeqAt.RcAt.tuples p1 p2 hu0 he
    have t2:=SeqAt.RcNeAt.tuples p1 p2 hu0 he
    rw [ee] at t1 t2
    refine ⟨t1,t2,?_⟩
    by_cases hab:a=b
    ·subst hab
     have exy:D.tup xs=D.tup ys:=Rep.inj (n+1) h1 h2 (.tup a1 m1 r1) (.tup a2 m2 r2)
     rw [← exy,eqD_refl _ _ h1]
     exact SeqAt.EqAt.same _
    ·exact SeqAt.EqAt.of_refs hab t1
   | @lst b us ys a2 m2 r2=>
    cases sy
    obtain ⟨its2,q2,p2,z2⟩:=I.list (SqL.of a2)
    simp only [eqD]
    exact ⟨SeqAt.RcAt.tuple_list p1 p2.isList hu0,SeqAt.RcNeAt.tuple_list p1 p2.isList hu0,SeqAt.EqAt.tuple_list p1 p2.isList hu0⟩
   | non=>cases sy;simp only [eqD];exact ⟨SeqAt.RcAt.tuple_none p1 hu0,SeqAt.RcNeAt.tuple_none p1 hu0,SeqAt.EqAt.tuple_none p1 hu0⟩
   | bl b=>cases sy;simp only [eqD];exact ⟨SeqAt.RcAt.tuple_bool b p1 hu0,SeqAt.RcNeAt.tuple_bool b p1 hu0,SeqAt.EqAt.tuple_bool b p1 hu0⟩
   | int b=>obtain ⟨t,rfl⟩:=sy;simp only [eqD];exact ⟨SeqAt.RcAt.tuple_int b t p1 hu0,SeqAt.RcNeAt.tuple_int b t p1 hu0,SeqAt.EqAt.tuple_int b t p1 hu0⟩
   | str b=>obtain ⟨t,rfl⟩:=sy;simp only [eqD];exact ⟨SeqAt.RcAt.tuple_str _ t p1 hu0,SeqAt.RcNeAt.tuple_str _ t p1 hu0,SeqAt.EqAt.tuple_str _ t p1 hu0⟩
   | hnd _=>simp [shal] at h2
   | scr _=>simp [shal] at h2
  | @lst a vs xs a1 m1 r1=>
   cases sx
   obtain ⟨its,q1,p1',z1⟩:=I.list (SqL.of a1)
   have p1:=p1'.isList
   have g1:∀ d∈xs,shal n d=true:=by simpa [shal] using h1
   cases ry with
   | @lst b us ys a2 m2 r2=>
    cases sy
    obtain ⟨its2,q2,p2',z2⟩:=I.list (SqL.of a2)
    have p2:=p2'.isList
    have g2:∀ d∈ys,shal n d=true:=by simpa [shal] using h2
    have he:=seq_at ih1 g1 g2 r1 r2 q1 q2
    have both:SeqAt.RcAt A s (.ref a) (.ref b) (eqD (.lst xs) (.lst ys))/\SeqAt.RcNeAt A s (.ref a) (.ref b) (!eqD (.lst xs) (.lst ys)):=by
     simp only [eqD]
     by_cases hl:xs.length=ys.length
     ·have hsz:its.toArray.size=its2.toArray.size:=by simp only [List.size_toArray,← q1.length,← q2.length,r1.length,r2.length];exact hl
      have t1:=SeqAt.RcAt.lists p1 p2 hsz hu0 he
      have t2:=SeqAt.RcNeAt.lists p1 p2 hsz hu0 he
      have ee:(List.range its.toArray.size).all (fun j=>eqD (xs.getD j .non) (ys.getD j .non))=eqDs xs ys:=by
       rw [eqDs_range xs ys hl]
       simp only [List.size_toArray,← q1.length,r1.length]
      rw [ee] at t1 t2
      exact ⟨t1,t2⟩
     ·have hsz:(its.toArray.size != its2.toArray.size)=true:=by simp only [List.size_toArray,← q1.length,← q2.length,r1.length,r2.length];simpa using hl
      have:eqDs xs ys=false:=by
       cases z:eqDs xs ys with
       | false=>rfl
       | true=>exact absurd (eqDs_len z) hl
      rw [this]
      exact ⟨SeqAt.RcAt.lists_lengths p1 p2 hsz hu0,SeqAt.RcNeAt.lists_lengths p1 p2 hsz hu0⟩
    refine ⟨both.1,both.2,?_⟩
    by_cases hab:a=b
    ·subst hab
     have exy:D.lst xs=D.lst ys:=Rep.inj (n+1) h1 h2 (.lst a1 m1 r1) (.lst a2 m2 r2)
     rw [← exy,eqD_refl _ _ h1]
     exact SeqAt.EqAt.same _
    ·exact SeqAt.EqAt.of_refs hab both.1
   | @tup b us ys a2 m2 r2=>
    cases sy
    obtain ⟨its2,q2,p2,z2⟩:=I.tuple (SqT.of a2)
    simp only [eqD]
    exact ⟨SeqAt.RcAt.list_tuple p1 p2 hu0,SeqAt.RcNeAt.list_tuple p1 p2 hu0,SeqAt.EqAt.list_tuple p1 p2 hu0⟩
   | non=>cases sy;simp only [eqD];exact ⟨SeqAt.RcAt.list_none p1 hu0,SeqAt.RcNeAt.list_none p1 hu0,SeqAt.EqAt.list_none p1 hu0⟩
   | bl b=>cases sy;simp only [eqD];exact ⟨SeqAt.RcAt.list_bool b p1 hu0,SeqAt.RcNeAt.list_bool b p1 hu0,SeqAt.EqAt.list_bool b p1 hu0⟩
   | int b=>obtain ⟨t,rfl⟩:=sy;simp only [eqD];exact ⟨SeqAt.RcAt.list_int b t p1 hu0,SeqAt.RcNeAt.list_int b t p1 hu0,SeqAt.EqAt.list_int b t p1 hu0⟩
   | str b=>obtain ⟨t,rfl⟩:=sy;simp only [eqD];exact ⟨SeqAt.RcAt.list_str _ t p1 hu0,SeqAt.RcNeAt.list_str _ t p1 hu0,SeqAt.EqAt.list_str _ t p1 hu0⟩
   | hnd _=>simp [shal] at h2
   | scr _=>simp [shal] at h2
  | hnd _=>simp [shal] at h1
  | scr _=>simp [shal] at h1
  | non=>
   cases ry with
   | @tup b us ys a2 m2 r2=>cases sx;cases sy;obtain ⟨its2,q2,p2,z2⟩:=I.tuple (SqT.of a2);simp only [eqD];exact ⟨SeqAt.RcAt.none_tuple p2 hu0,SeqAt.RcNeAt.none_tuple p2 hu0,SeqAt.EqAt.none_tuple p2 hu0⟩
   | @lst b us ys a2 m2 r2=>cases sx;cases sy;obtain ⟨its2,q2,p2,z2⟩:=I.list (SqL.of a2);simp only [eqD];exact ⟨SeqAt.RcAt.none_list p2.isList hu0,SeqAt.RcNeAt.none_list p2.isList hu0,SeqAt.EqAt.none_list p2.isList hu0⟩
   | hnd _=>simp [shal] at h2
   | scr _=>simp [shal] at h2
   | _=>exact flat (scal _ trivial) (scal _ trivial)
  | bl c=>
   cases ry with
   | @tup b us ys a2 m2 r2=>cases sx;cases sy;obtain ⟨its2,q2,p2,z2⟩:=I.tuple (SqT.of a2);simp only [eqD];exact ⟨SeqAt.RcAt.bool_tuple c p2 hu0,SeqAt.RcNeAt.bool_tuple c p2 hu0,SeqAt.EqAt.bool_tuple c p2 hu0⟩
   | @lst b us ys a2 m2 r2=>cases sx;cases sy;obtain ⟨its2,q2,p2,z2⟩:=I.list (SqL.of a2);simp only [eqD];exact ⟨SeqAt.RcAt.bool_list c p2.isList hu0,SeqAt.RcNeAt.bool_list c p2.isList hu0,SeqAt.EqAt.bool_list c p2.isList hu0⟩
   | hnd _=>simp [shal] at h2
   | scr _=>simp [shal] at h2
   | _=>exact flat (scal _ trivial) (scal _ trivial)
  | int c=>
   cases ry with
   | @tup b us ys a2 m2 r2=>obtain ⟨t,rfl⟩:=sx;cases sy;obtain ⟨its2,q2,p2,z2⟩:=I.tuple (SqT.of a2);simp only [eqD];exact ⟨SeqAt.RcAt.int_tuple c t p2 hu0,SeqAt.RcNeAt.int_tuple c t p2 hu0,SeqAt.EqAt.int_tuple c t p2 hu0⟩
   | @lst b us ys a2 m2 r2=>obtain ⟨t,rfl⟩:=sx;cases sy;obtain ⟨its2,q2,p2,z2⟩:=I.list (SqL.of a2);simp only [eqD];exact ⟨SeqAt.RcAt.int_list c t p2.isList hu0,SeqAt.RcNeAt.int_list c t p2.isList hu0,SeqAt.EqAt.int_list c t p2.isList hu0⟩
   | hnd _=>simp [shal] at h2
   | scr _=>simp [shal] at h2
   | _=>exact flat (scal _ trivial) (scal _ trivial)
  | str c=>
   cases ry with
   | @tup b us ys a2 m2 r2=>obtain ⟨t,rfl⟩:=sx;cases sy;obtain ⟨its2,q2,p2,z2⟩:=I.tuple (SqT.of a2);simp only [eqD];exact ⟨SeqAt.RcAt.str_tuple _ t p2 hu0,SeqAt.RcNeAt.str_tuple _ t p2 hu0,SeqAt.EqAt.str_tuple _ t p2 hu0⟩
   | @lst b us ys a2 m2 r2=>obtain ⟨t,rfl⟩:=sx;cases sy;obtain ⟨its2,q2,p2,z2⟩:=I.list (SqL.of a2);simp only [eqD];exact ⟨SeqAt.RcAt.str_list _ t p2.isList hu0,SeqAt.RcNeAt.str_list _ t p2.isList hu0,SeqAt.EqAt.str_list _ t p2.isList hu0⟩
   | hnd _=>simp [shal] at h2
   | scr _=>simp [shal] at h2
   | _=>exact flat (scal _ trivial) (scal _ trivial)
end
open PyProof.Rows hiding St
mutual
theorem shal_bel:∀ (n:Nat) (d:D),shal n d=true->D.bel 0 d=true
 | _,.non,_=>by simp [D.bel]
 | _,.bl _,_=>by simp [D.bel]
 | _,.int _,_=>by simp [D.bel]
 | _,.str _,_=>by simp [D.bel]
 | n+1,.tup xs,h=>by simp only [D.bel];exact shal_bels n xs (by simpa [shal] using h)
 | n+1,.lst xs,h=>by simp only [D.bel];exact shal_bels n xs (by simpa [shal] using h)
 | 0,.tup xs,h=>by simp [shal] at h
 | 0,.lst xs,h=>by simp [shal] at h
 | n,.hnd _,h=>by cases n <;> simp [shal] at h
 | n,.scr _,h=>by cases n <;> simp [shal] at h
theorem shal_bels:∀ (n:Nat) (d:List D),(∀ x∈d,shal n x=true)->D.bels 0 d=true
 | _,[],_=>by simp [D.bels]
 | n,x::xs,h=>by simp [D.bels,shal_bel n x (h x List.mem_cons_self),shal_bels n xs fun y hy=>h y (List.mem_cons_of_mem _ hy)]
end
def viewD (d:D) (c:List Cell):D:=match d with
 | .hnd k=>match c[k]? with
  | some (.lst xs)=>.lst xs
  | _=>.hnd k
 | d=>d
theorem Sub.nil (O:Ow):Sub 0 O []:=⟨fun k a h=>absurd h (Nat.not_lt_zero _),fun a h=>by cases h⟩
theorem view_ok {K:Frag} {H:Hp} {O:Ow} {c:List Cell} {v:V} {d:D} {n:Nat} (hc:Cells K H O c) (r:Rep K H O v d) (h:shal n (viewD d c)=true):Rep K H [] v (viewD d c):=by
 have plain:viewD d c=d->Rep K H [] v (viewD d c):=fun e=>by
  rw [e] at h ⊢
  exact r.to (Sub.nil O) (shal_bel n d h)
 cases r with
 | @hnd a k hk=>
  simp only [viewD] at h ⊢
  cases z:c[k]? with
  | none=>rw [z] at h;cases n <;> simp [shal] at h
  | some x=>
   cases x with
   | lst xs=>
    simp only [z] at h ⊢
    obtain ⟨a',vs,q1,q2,q3⟩:=hc.at_ k _ z
    rw [hk] at q1;cases q1
    have hb:=shal_bel n _ h
    simp only [D.bel] at hb
    exact .lst q2 (by simp) (q3.to (Sub.nil O) hb)
   | _=>simp only [z] at h;cases n <;> simp [shal] at h
 | _=>exact plain rfl
section
variable {X:Cx} {E:XK} {a b c e:Expr} {ta tb tc:ED} {pos:Pos}
def eqM (neg:Bool) (x y:D):M D:=fun c=>if shal 20 (viewD x c)=true/\shal 20 (viewD y c)=true then some (.ok (.bl (if neg then !eqD (viewD x c) (viewD y c) else eqD (viewD x c) (viewD y c))) c) else none
abbrev rEqD (K:Frag) (neg:Bool):R2:=fun x y H Q=>∃ d d',Rep K H [] x d/\Rep K H [] y d'/\shal 20 d=true/\shal 20 d'=true/\Q (.bl (if neg then !eqD d d' else eqD d d')) H
theorem op_eqD (hu:X.A.units+64 < cLine):OpR X (compareOp .Eq) (rEqD X.K false):=by
 intro pins s σ H x y v u Q I rx ry h
 obtain ⟨d,d',r1,r2,h1,h2,q⟩:=h
 exact (eq_both I 20 X.A (by omega) d d' x y v u h1 h2 r1 r2 rx ry).1 X.prog X.w X.xe _ ⟨.bl _,H,I,rfl,q⟩
theorem op_neD (hu:X.A.units+64 < cLine):OpR X (compareOp .NotEq) (rEqD X.K true):=by
 intro pins s σ H x y v u Q I rx ry h
 obtain ⟨d,d',r1,r2,h1,h2,q⟩:=h
 exact (eq_both I 20 X.A (by omega) d d' x y v u h1 h2 r1 r2 rx ry).2.1 X.prog X.w X.xe _ ⟨.bl _,H,I,rfl,q⟩
theorem op2_eq {neg:Bool}:Op2 X E (rEqD X.K neg) (eqM neg):=by
 intro H O c x y v u Q hc rx ry p
 unfold eqM at p
 by_cases z:shal 20 (viewD x c)=true/\shal 20 (viewD y c)=true
 ·rw [if_pos z] at p
  exact ⟨_,_,view_ok hc rx z.1,view_ok hc ry z.2,z.1,z.2,PostD.ok p hc (.bl _)⟩
 ·rw [if_neg z] at p;exact p.elim
theorem de_eq (hu:X.A.units+64 < cLine) (ha:DE X E a ta) (hb:DE X E b tb):DE X E (.Compare a [.Eq] [b] pos) (d2 (eqM false) ta tb):=de_cmp (op_eqD hu) op2_eq ha hb (nomark _)
theorem de_ne (hu:X.A.units+64 < cLine) (ha:DE X E a ta) (hb:DE X E b tb):DE X E (.Compare a [.NotEq] [b] pos) (d2 (eqM true) ta tb):=de_cmp (op_neD hu) op2_eq ha hb (nomark _)
theorem dt_eq (hu:X.A.units+64 < cLine) (ha:DE X E a ta) (hb:DE X E b tb):DT X E (.Compare a [.Eq] [b] pos) (tOf (d2 (eqM false) ta tb)):=dt_cmp (op_eqD hu) op2_eq ha hb (nomark _)
theorem dt_ne (hu:X.A.units+64 < cLine) (ha:DE X E a ta) (hb:DE X E b tb):DT X E (.Compare a [.NotEq] [b] pos) (tOf (d2 (eqM true) ta tb)):=dt_cmp (op_neD hu) op2_eq ha hb (nomark _)
open Classical in
def lenM (d:D):M D:=match d with
 | .str y=>if y.length<=1000000 then M.ret (.int y.length) else M.stuck
 | .tup xs=>M.ret (.int xs.length)
 | .lst xs=>M.ret (.int xs.length)
 | .scr xs=>M.ret (.int xs.length)
 | .hnd k=>fun c=>match c[k]? with
  | some (.lst xs)=>some (.ok (.int xs.length) c)
  | some (.dct xs)=>some (.ok (.int xs.length) c)
  | _=>none
 | _=>M.stuck
theorem len_lift {H:Hp} {O:Ow} {c:List Cell} {v:V} {d:D} {Q:VK} (hc:Cells X.K H O c) (r:Rep X.K H O v d) (p:PostD X.K E H O Q (lenM d c)):(∃ x n,[v]=[x]/\LenV X.K x H n/\Q (.int n) H)\/∃ a kvs,[v]=[V.ref a]/\H a=some (.dK kvs)/\Q (.int kvs.length) H:=by
 cases r with
 | str y=>
  simp only [lenM] at p
  by_cases z:y.length<=1000000
  ·rw [if_pos z] at p
   exact .inl ⟨_,y.length,rfl,⟨Nat.le_trans (by show y.toArray.size<=_;simpa using z) sl_1e6,by show _=y.toArray.size;simp⟩,Post.ret p hc _ (.int _)⟩
  ·rw [if_neg z] at p;exact p.elim
 | tup h n r=>exact .inl ⟨_,_,rfl,.inr ⟨_,SqT.of h,rfl⟩,by rw [r.length];exact Post.ret p hc _ (.int _)⟩
 | lst h n r=>exact .inl ⟨_,_,rfl,.inl ⟨_,SqL.of h,rfl⟩,by rw [r.length];exact Post.ret p hc _ (.int _)⟩
 | scr h=>exact .inl ⟨_,_,rfl,.inl ⟨_,h.sq,rfl⟩,by rw [List.length_map];exact Post.ret p hc _ (.int _)⟩
 | @hnd a k h=>
  simp only [lenM] at p
  cases z:c[k]? with
  | none=>simp only [z] at p;exact p.elim
  | some x=>
   have q:=hc.at_ k x z
   cases x with
   | lst xs=>
    simp only [z] at p
    obtain ⟨a',vs,q1,q2,q3⟩:=q
    rw [h] at q1;cases q1
    exact .inl ⟨_,_,rfl,.inl ⟨_,SqL.of q2,rfl⟩,by rw [q3.length];exact PostD.ok p hc (.int _)⟩
   | dct kvs=>
    simp only [z] at p
    obtain ⟨a',us,q1,q2,q3,_⟩:=q
    rw [h] at q1;cases q1
    refine .inr ⟨_,_,rfl,q2,?_⟩
    have w:=q3.2.length
    simp only [List.length_map] at w
    rw [w]
    exact PostD.ok p hc (.int _)
   | _=>simp only [z] at p;exact p.elim
 | _=>exact p.elim
theorem de_b1 {id x:String} {p2:Pos} {f:D->M D} {r:List V->Hp->VK->Prop} (hcall:CallR X (.builtin id) r) (hf:∀ H O c d v Q,Cells X.K H O c->Rep X.K H O v d->PostD X.K E H O Q (f d c)->r [v] H Q) (hm:X.mg x=none) (ha:DE X E a ta)
  (hv:bootBuiltins x=some (.builtin id):=by rfl) (hg:Gl X x:=by rfl) (hn:(x:Str)≠"__name__":=by decide) (hdb:((x:Str) == ("__debug__":Str))=false:=by decide) (hst:starEach [a] X.env=[(false,eval a X.env)]:=by rfl):DE X E (.Call (.Name x p2) [a] [] pos) (d1 f ta):=by
 refine ⟨PE.imp (pe_callB hcall hg hm hv (pa_cons ha.h pa_nil hst) hn hdb hst rfl) fun σ H Q h=>?_⟩
 obtain ⟨O,l,c,hl,hc,p⟩:=h
 exact liftE_bd hl hc p fun x v H1 O1 c1 e1 hl1 hc1 rv p1=>hf H1 O1 c1 x v Q hc1 rv p1
theorem de_t1 {T x:String} {p2:Pos} {f:D->M D} {r:List V->Hp->VK->Prop} (hcall:CallR X (.type T) r) (hf:∀ H O c d v Q,Cells X.K H O c->Rep X.K H O v d->PostD X.K E H O Q (f d c)->r [v] H Q) (hm:X.mg x=none) (ha:DE X E a ta)
  (hv:bootBuiltins x=some (.type T):=by rfl) (hg:Gl X x:=by rfl) (hn:(x:Str)≠"__name__":=by decide) (hdb:((x:Str) == ("__debug__":Str))=false:=by decide) (hst:starEach [a] X.env=[(false,eval a X.env)]:=by rfl):DE X E (.Call (.Name x p2) [a] [] pos) (d1 f ta):=by
 refine ⟨PE.imp (pe_callTy hcall hg hm hv (pa_cons ha.h pa_nil hst) hn hdb hst rfl) fun σ H Q h=>?_⟩
 obtain ⟨O,l,c,hl,hc,p⟩:=h
 exact liftE_bd hl hc p fun x v H1 O1 c1 e1 hl1 hc1 rv p1=>hf H1 O1 c1 x v Q hc1 rv p1
theorem de_len {p2:Pos} (hm:X.mg "len"=none) (ha:DE X E a ta) (hg:Gl X "len":=by rfl) (hst:starEach [a] X.env=[(false,eval a X.env)]:=by rfl):DE X E (.Call (.Name "len" p2) [a] [] pos) (d1 lenM ta):=
 de_b1 (call_len.or call_lenD) (fun _ _ _ _ _ _ hc r p=>len_lift hc r p) hm ha PySem.boot_len hg (hst:=hst)
def absM:D->M D
 | .int i=>M.ret (.int (if i < 0 then -i else i))
 | _=>M.stuck
theorem de_abs {p2:Pos} (hm:X.mg "abs"=none) (ha:DE X E a ta) (hg:Gl X "abs":=by rfl) (hst:starEach [a] X.env=[(false,eval a X.env)]:=by rfl):DE X E (.Call (.Name "abs" p2) [a] [] pos) (d1 absM ta):=
 de_b1 call_abs (fun H O c d v Q hc r p=>by cases r with
  | int i=>exact ⟨i,rfl,Post.ret p hc _ (.int _)⟩
  | _=>exact p.elim) hm ha (hg:=hg) (hst:=hst)
def intS (i:Int):List Nat:=(toString i).toList.map Char.toNat
def strM:D->M D
 | .int i=>if -(10 ^ 200) < i/\i < 10 ^ 200 then M.ret (.str (intS i)) else M.stuck
 | .str x=>M.stuck
 | _=>M.stuck
theorem ofString_intS (i:Int):(Str.ofString (toString i):Str)=⟨(intS i).toArray⟩:=by
 rw [Str.ofString_eq_toList]
 rfl
theorem de_strOf {p2:Pos} (hm:X.mg "str"=none) (ha:DE X E a ta) (hg:Gl X "str":=by rfl) (hst:starEach [a] X.env=[(false,eval a X.env)]:=by rfl):DE X E (.Call (.Name "str" p2) [a] [] pos) (d1 strM ta):=
 de_t1 call_str_int (fun H O c d v Q hc r p=>by cases r with
  | int i=>
   have p:PostD X.K E H O Q ((if -(10 ^ 200) < i/\i < 10 ^ 200 then M.ret (.str (intS i)) else M.stuck) c):=p
   by_cases z:-(10 ^ 200) < i/\i < 10 ^ 200
   ·rw [if_pos z] at p
    refine ⟨i,rfl,?_,?_⟩
    ·have e1:(10:Nat) ^ 200<=2 ^ 1024:=by decide +kernel
     have e2:i.natAbs < 10 ^ 200:=by omega
     by_cases h0:i.natAbs=0
     ·rw [h0];decide
     ·exact Nat.lt_trans ((Nat.log2_lt h0).mpr (Nat.lt_of_lt_of_le e2 e1)) (by decide)
    ·have e:=ofString_intS i
     show Q (.str (Str.ofString (toString i))) H
     rw [e]
     exact Post.ret p hc _ (.str _)
   ·rw [if_neg z] at p;exact p.elim
  | _=>exact p.elim) hm ha (hg:=hg) (hst:=hst)
end
open PyProof.Rows hiding St
section
variable {X:Cx} {E:XK} {a b c e:Expr} {ta tb tc:ED} {pos:Pos}
def oM (o:Option D):M D:=match o with
 | some d=>M.ret d
 | none=>M.stuck
def ixM (x y:D):M D:=match y with
 | .int i=>match x with
  | .tup xs=>oM (atI xs i)
  | .lst xs=>oM (atI xs i)
  | .str s=>if s.length<=1000000 then oM ((atI s i).map fun c=>.str [c]) else M.stuck
  | .scr ns=>oM ((atI ns i).map .int)
  | .hnd k=>fun c=>match c[k]? with
   | some (.lst xs)=>oM (atI xs i) c
   | _=>none
  | _=>M.stuck
 | _=>M.stuck
theorem atI_reps {K:Frag} {H:Hp} {O:Ow} {vs:List V} {xs:List D} {i:Int} {d:D} (r:Reps K H O vs xs) (h:atI xs i=some d):∃ v,atI vs i=some v/\Rep K H O v d:=by
 unfold atI at h ⊢
 rw [r.length]
 cases z:ixN xs.length i with
 | none=>rw [z] at h;cases h
 | some j=>
  rw [z] at h
  obtain ⟨v,e,q⟩:=r.get (i:=j) h
  exact ⟨v,e,q⟩
theorem atI_map {α β:Type} (f:α->β) (xs:List α) (i:Int):atI (xs.map f) i=(atI xs i).map f:=by
 unfold atI
 rw [List.length_map]
 cases ixN xs.length i with
 | none=>rfl
 | some j=>show (xs.map f)[j]?=(xs[j]?).map f;rw [List.getElem?_map]
theorem oM_post {K:Frag} {H:Hp} {O:Ow} {c:List Cell} {Q:VK} {o:Option D} (p:PostD K E H O Q (oM o c)):∃ d,o=some d/\PostD K E H O Q (M.ret d c):=by
 cases o with
 | none=>exact p.elim
 | some d=>exact ⟨d,rfl,p⟩
theorem op2_ix:Op2 X E (rIx X.K) ixM:=by
 intro H O c x y v u Q hc rx ry p
 cases ry with
 | int i=>
  cases rx with
  | @tup a vs xs h n r=>
   obtain ⟨d,e,p⟩:=oM_post p
   obtain ⟨w,e2,q⟩:=atI_reps r e
   exact .inr (.inl ⟨a,vs,i,w,rfl,rfl,SqT.of h,e2,Post.ret p hc _ q⟩)
  | @lst a vs xs h n r=>
   obtain ⟨d,e,p⟩:=oM_post p
   obtain ⟨w,e2,q⟩:=atI_reps r e
   exact .inl ⟨a,vs,i,w,rfl,rfl,SqL.of h,e2,Post.ret p hc _ q⟩
  | @scr a ns h=>
   obtain ⟨d,e,p⟩:=oM_post p
   obtain ⟨n,e3,e4⟩:=Option.map_eq_some_iff.mp e
   subst e4
   exact .inl ⟨a,_,i,.int n,rfl,rfl,h.sq,by rw [atI_map,e3];rfl,Post.ret p hc _ (.int n)⟩
  | str s=>
   have p:PostD X.K E H O Q ((if s.length<=1000000 then oM ((atI s i).map fun c=>.str [c]) else M.stuck) c):=p
   by_cases z:s.length<=1000000
   ·rw [if_pos z] at p
    obtain ⟨d,e,p⟩:=oM_post p
    obtain ⟨n,e3,e4⟩:=Option.map_eq_some_iff.mp e
    subst e4
    exact .inr (.inr ⟨_,i,n,rfl,rfl,Nat.le_trans (by show s.toArray.size<=_;simpa using z) sl_1e6,by simpa using e3,Post.ret p hc _ (.str [n])⟩)
   ·rw [if_neg z] at p;exact p.elim
  | @hnd a k hk=>
   have p:PostD X.K E H O Q (match c[k]? with
    | some (.lst xs)=>oM (atI xs i) c
    | _=>none):=p
   cases z:c[k]? with
   | none=>rw [z] at p;exact p.elim
   | some x=>
    rw [z] at p
    cases x with
    | lst xs=>
     obtain ⟨a',vs,q1,q2,q3⟩:=hc.at_ k _ z
     rw [hk] at q1;cases q1
     obtain ⟨d,e,p⟩:=oM_post p
     obtain ⟨w,e2,q⟩:=atI_reps q3 e
     exact .inl ⟨a,vs,i,w,rfl,rfl,SqL.of q2,e2,Post.ret p hc _ q⟩
    | _=>exact p.elim
  | _=>exact p.elim
 | _=>exact p.elim
theorem de_ix (ha:DE X E a ta) (hb:DE X E b tb) (hs:PlainIx b:=by intro _ _;rfl):DE X E (.Subscript a b pos) (d2 ixM ta tb):=⟨PE.imp (pe_ix ix_seq ha.h hb.h hs) fun σ H Q h=>lift2 op2_ix h⟩
abbrev OD:=L->M (Option Int)
def liftO (K:Frag) (E:XK) (t:OD):TO:=fun σ H Q=>∃ O l c,Locs K H O l σ/\Cells K H O c/\Post K E H O (fun o H' _ _=>Q o H') (t l c)
structure DO (X:Cx) (E:XK) (e:Option Expr) (t:OD):Prop where
 h:PO X e (liftO X.K E t)
def oNone:OD:=fun _=>M.ret none
def oSome (ta:ED):OD:=fun l=>(ta l).bd fun d=>match d with
 | .int i=>M.ret (some i)
 | _=>M.stuck
theorem PO.imp {X:Cx} {e:Option Expr} {t t':TO} (h:PO X e t) (i:∀ σ H Q,t' σ H Q->t σ H Q):PO X e t':=fun pins s σ H Q I q=>h pins s σ H Q I (i _ _ _ q)
theorem do_none:DO X E none oNone:=⟨PO.imp po_none fun σ H Q h=>by
 obtain ⟨O,l,c,hl,hc,p⟩:=h
 exact Post.ret p hc⟩
theorem do_some (ha:DE X E a ta):DO X E (some a) (oSome ta):=⟨PO.imp (po_some ha.h) fun σ H Q h=>by
 obtain ⟨O,l,c,hl,hc,p⟩:=h
 refine liftE_bd hl hc p fun x v H1 O1 c1 e1 hl1 hc1 rv p1=>?_
 cases rv with
 | int i=>exact ⟨i,rfl,Post.ret p1 hc1⟩
 | _=>exact p1.elim⟩
theorem liftO_bd {K:Frag} {m:OD} {α:Type} {f:Option Int->M α} {P:α->Hp->Ow->List Cell->Prop} {σ:St} {H:Hp} {O:Ow} {l:L} {c:List Cell} {R:Option Int->Hp->Prop} (hl:Locs K H O l σ) (hc:Cells K H O c) (h:Post K E H O P ((m l).bd f c))
  (k:∀ d H1 O1 c1,Ext H O H1 O1->Locs K H1 O1 l σ->Cells K H1 O1 c1->Post K E H1 O1 P (f d c1)->R d H1):liftO K E m σ H R:=
 ⟨O,l,c,hl,hc,h.bd.imp fun d H1 O1 c1 e1 c1' p=>k d H1 O1 c1 e1 (hl.mono e1) c1' p⟩
def cutD {α:Type} (xs:List α) (lo hi:Option Int):List α:=(xs.drop (HT.sIx xs.length 0 lo)).take (HT.sIx xs.length xs.length hi - HT.sIx xs.length 0 lo)
theorem Reps.cut {K:Frag} {H:Hp} {O:Ow} {vs:List V} {xs:List D} (r:Reps K H O vs xs) (lo hi:Option Int):Reps K H O (cutV vs lo hi) (cutD xs lo hi):=by
 unfold cutV cutD
 rw [r.length]
 exact (r.drop _).take _
def slM (d:D) (lo hi:Option Int):M D:=match d with
 | .lst xs=>M.ret (.lst (cutD xs lo hi))
 | .scr ns=>M.ret (.lst ((cutD ns lo hi).map .int))
 | .hnd k=>fun c=>match c[k]? with
  | some (.lst xs)=>some (.ok (.lst (cutD xs lo hi)) c)
  | _=>none
 | .tup xs=>if HT.sIx xs.length 0 lo=0/\HT.sIx xs.length xs.length hi=xs.length then M.stuck else M.ret (.tup (cutD xs lo hi))
 | _=>M.stuck
def dSl (f:D->Option Int->Option Int->M D) (te:ED) (tl th:OD):ED:=fun l=>(te l).bd fun d=>(tl l).bd fun lo=>(th l).bd fun hi=>f d lo hi
theorem cutV_ints (ns:List Int) (lo hi:Option Int):cutV (ns.map V.int) lo hi=(cutD ns lo hi).map V.int:=by
 unfold cutV cutD
 rw [List.length_map,List.map_take,List.map_drop]
def isNonM (neg:Bool):D->M D
 | .non=>M.ret (.bl (!neg))
 | _=>M.ret (.bl neg)
theorem isNon_lift {H:Hp} {O:Ow} {c:List Cell} {v:V} {d:D} {Q:VK} {neg:Bool} (hc:Cells X.K H O c) (r:Rep X.K H O v d) (p:PostD X.K E H O Q (isNonM neg d c)):Q (.bl (if neg then !decide (v=.non) else decide (v=.non))) H:=by
 cases neg <;> cases r <;> exact Post.ret p hc _ (.bl _)
theorem dt_notN {j:Nat} {pos':Pos} (ha:DE X E a ta):DT X E (.Compare a [.IsNot] [.Constant .none j pos'] pos) (tOf (d1 (isNonM true) ta)):=by
 refine ⟨PT.imp (pt_cmp (pc_notN ha.h)) fun σ H Q h=>?_⟩
 obtain ⟨O,l,c,hl,hc,p⟩:=lift_tOf h
 exact liftE_bd hl hc p fun x v H1 O1 c1 e1 hl1 hc1 rv p1=>isNon_lift (neg:=true) hc1 rv p1
def dDict:ED:=fun _ c=>some (.ok (.hnd c.length) (c++[.dct []]))
theorem de_dict:DE X E (.Dict [] [] pos) dDict:=by
 refine ⟨PE.imp pe_dnewK fun σ H Q h=>?_⟩
 obtain ⟨O,l,c,hl,hc,p⟩:=h
 intro q n
 have nO:=hc.fresh n
 obtain ⟨h1,h2⟩:=hc.push (o:=.dK []) (x:=.dct []) n ⟨q,[],by simp,upd_same,⟨rfl,.nil⟩,by simp⟩
 exact p _ _ h1 h2 _ (.hnd (by rw [← hc.len];simp))
inductive Ty where
 | non | bl | int | str | tup | lst | dct
 deriving DecidableEq
def Ty.nm:Ty->String
 | .non=>"NoneType" | .bl=>"bool" | .int=>"int" | .str=>"str" | .tup=>"tuple" | .lst=>"list" | .dct=>"dict"
def Ty.sub:Ty->Ty->Bool
 | .bl,.int=>true
 | s,t=>decide (s=t)
theorem kit_ty (K:Frag) (s t:Ty):kitOne K (.type s.nm) (.type t.nm)=some (s.sub t):=by
 cases s <;> cases t <;> rfl
def tyM (d:D) (c:List Cell):Option Ty:=match d with
 | .non=>some .non
 | .bl _=>some .bl
 | .int _=>some .int
 | .str _=>some .str
 | .tup _=>some .tup
 | .lst _=>some .lst
 | .hnd k=>match c[k]? with
  | some (.lst _)=>some .lst
  | some (.dct _)=>some .dct
  | _=>none
 | .scr _=>none
def isiM (t:Ty) (d:D):M D:=fun c=>match tyM d c with
 | some s=>some (.ok (.bl (s.sub t)) c)
 | none=>none
theorem call_isi:CallR X (.builtin "isinstance") (fun vs H Q=>∃ x s t,vs=[x,.ty (Ty.nm t)]/\TyOf X.K H x (.type (Ty.nm s))/\Q (.bl (s.sub t)) H):=by
 intro pins s σ H xs us Q I r h
 obtain ⟨x,sT,tT,rfl,ty,q⟩:=h
 obtain ⟨u,w,rfl,r1,r2⟩:=vals2 r
 cases r2
 exact isinst_ok I r1 ty (kit_ty _ _ _) fun tk=>⟨.bl _,H,I.tok _,rfl,q⟩
theorem ty_lift {H:Hp} {O:Ow} {c:List Cell} {v:V} {d:D} {s:Ty} (hc:Cells X.K H O c) (r:Rep X.K H O v d) (h:tyM d c=some s):TyOf X.K H v (.type s.nm):=by
 cases r with
 | non=>cases h;exact .non
 | bl b=>cases h;exact .bl b
 | int b=>cases h;exact .int b
 | str b=>cases h;exact .str _
 | tup h1 _ _=>cases h;exact .tup h1
 | lst h1 _ _=>cases h;exact .lst h1
 | scr h1=>cases h
 | @hnd a k hk=>
  simp only [tyM] at h
  cases z:c[k]? with
  | none=>rw [z] at h;cases h
  | some x=>
   rw [z] at h
   cases x with
   | lst xs=>
    cases h
    obtain ⟨a',vs,q1,q2,q3⟩:=hc.at_ k _ z
    rw [hk] at q1;cases q1
    exact .lst q2
   | dct xs=>
    cases h
    obtain ⟨a',vs,q1,q2,q3⟩:=hc.at_ k _ z
    rw [hk] at q1;cases q1
    exact .dK q2
   | _=>cases h
theorem de_isi (t:Ty) {T:String} {p1 p2:Pos} (hm:X.mg "isinstance"=none) (hmT:X.mg T=none) (ha:DE X E a ta) (hvT:bootBuiltins T=some (.type t.nm):=by rfl) (hg:Gl X "isinstance":=by rfl) (hgT:Gl X T:=by rfl)
  (hnT:(T:Str)≠"__name__":=by decide) (hdT:((T:Str) == ("__debug__":Str))=false:=by decide) (hst:starEach [a,.Name T p2] X.env=[(false,eval a X.env),(false,eval (.Name T p2) X.env)]:=by rfl) (hst2:starEach [.Name T p2] X.env=[(false,eval (.Name T p2) X.env)]:=by rfl):
  DE X E (.Call (.Name "isinstance" p1) [a,.Name T p2] [] pos) (d1 (isiM t) ta):=by
 have h2:PE X (.Name T p2) (tC (.ty t.nm)):=pe_bltn (v:=.ty t.nm) hgT hmT hvT rfl hnT hdT
 refine ⟨PE.imp (pe_callB (id:="isinstance") call_isi hg hm rfl (pa_cons ha.h (pa_cons h2 pa_nil hst2) (by rw [hst,hst2])) (by decide) (by decide) (by rw [hst,hst2]) (by rw [hst2];rfl)) fun σ H Q h=>?_⟩
 obtain ⟨O,l,c,hl,hc,p⟩:=h
 refine liftE_bd hl hc p fun x v H1 O1 c1 e1 hl1 hc1 rv p1=>?_
 have p1:PostD X.K E H1 O1 Q (match tyM x c1 with
  | some s=>some (.ok (.bl (s.sub t)) c1)
  | none=>none):=p1
 cases z:tyM x c1 with
 | none=>rw [z] at p1;exact p1.elim
 | some s=>
  rw [z] at p1
  exact ⟨v,s,t,rfl,ty_lift hc1 rv z,PostD.ok p1 hc1 (.bl _)⟩
end
open PyProof.Rows hiding St
def clGo (cells:List (Str×Addr)):List (Str×NameKind)->List (Str×Addr)->List (Str×Addr)
 | [],acc=>acc
 | (n,k)::r,acc=>if (k == NameKind.free)=true then clGo cells r ((n,(cells.lookup n).getD 0)::acc) else clGo cells r acc
theorem closure_go {env:Env}:∀ (names:List (Str×NameKind)) (acc:List (Str×Addr)),(∀ y∈names,y.2=.free->(env.cells.lookup y.1).isSome=true)->
  (forIn (m:=Sem) names acc fun x cs=>if (x.2 == NameKind.free)=true then do let a ← cellOf env x.1;pure (ForInStep.yield ((x.1,a)::cs)) else pure (ForInStep.yield cs))=pure (clGo env.cells names acc)
 | [],acc,_=>rfl
 | (n,k)::r,acc,h=>by
  rw [List.forIn_cons]
  have hr:∀ y∈r,y.2=.free->(env.cells.lookup y.1).isSome=true:=fun y hy=>h y (List.mem_cons_of_mem _ hy)
  unfold clGo
  by_cases z:(k == NameKind.free)=true
  ·obtain ⟨c,hc⟩:=Option.isSome_iff_exists.mp (h (n,k) List.mem_cons_self (by simpa using z))
   have e:cellOf env n=pure c:=by unfold cellOf;rw [hc]
   have hc':env.cells.lookup n=some c:=hc
   simp only [z,if_true,e,pure_bind,hc',Option.getD_some]
   exact closure_go r _ hr
  ·simp only [z,if_false,pure_bind]
   exact closure_go r _ hr
theorem closure_eq {scope:Scope} {env:Env} (h:∀ y∈scope.names,y.2=.free->(env.cells.lookup y.1).isSome=true):closureFor scope env=pure (clGo env.cells scope.names []):=by
 have q:=closure_go scope.names [] h
 unfold closureFor
 simp only [bind_pure_comp] at q ⊢
 first | exact q | (rw [← q];rfl) | simpa using q
theorem clGo_sub {cells:List (Str×Addr)}:∀ (names:List (Str×NameKind)) (acc:List (Str×Addr)),(∀ y∈names,y.2=.free->(cells.lookup y.1).isSome=true)->(∀ y c,acc.lookup y=some c->cells.lookup y=some c)->∀ y c,(clGo cells names acc).lookup y=some c->cells.lookup y=some c
 | [],acc,_,ha,y,c,h=>ha y c h
 | (n,k)::r,acc,hn,ha,y,c,h=>by
  have hr:∀ y∈r,y.2=.free->(cells.lookup y.1).isSome=true:=fun y hy=>hn y (List.mem_cons_of_mem _ hy)
  unfold clGo at h
  by_cases z:(k == NameKind.free)=true
  ·rw [if_pos z] at h
   obtain ⟨d,hd⟩:=Option.isSome_iff_exists.mp (hn (n,k) List.mem_cons_self (by simpa using z))
   have hd:cells.lookup n=some d:=hd
   refine clGo_sub r _ hr (fun y' c' h'=>?_) y c h
   rw [List.lookup_cons] at h'
   cases q:y' == n with
   | true=>
    rw [q] at h'
    have:y'=n:=by simpa using q
    subst this
    rw [hd] at h' ⊢
    simpa using h'
   | false=>rw [q] at h';exact ha y' c' h'
  ·rw [if_neg z] at h
   exact clGo_sub r _ hr ha y c h
theorem clGo_acc {cells:List (Str×Addr)}:∀ (names:List (Str×NameKind)) (acc:List (Str×Addr)) (y:Str),(acc.lookup y).isSome=true->((clGo cells names acc).lookup y).isSome=true
 | [],acc,y,h=>h
 | (n,k)::r,acc,y,h=>by
  unfold clGo
  by_cases z:(k == NameKind.free)=true
  ·rw [if_pos z]
   refine clGo_acc r _ y ?_
   rw [List.lookup_cons]
   cases q:y == n with
   | true=>rfl
   | false=>exact h
  ·rw [if_neg z];exact clGo_acc r _ y h
theorem clGo_has {cells:List (Str×Addr)}:∀ (names:List (Str×NameKind)) (acc:List (Str×Addr)) (y:Str),(y,NameKind.free)∈names->((clGo cells names acc).lookup y).isSome=true
 | [],acc,y,h=>by cases h
 | (n,k)::r,acc,y,h=>by
  unfold clGo
  by_cases z:(k == NameKind.free)=true
  ·rw [if_pos z]
   rcases List.mem_cons.mp h with e | e
   ·have e1:y=n:=congrArg Prod.fst e
    refine clGo_acc r _ y ?_
    rw [List.lookup_cons,e1,beq_self_eq_true]
    rfl
   ·exact clGo_has r _ y e
  ·rw [if_neg z]
   rcases List.mem_cons.mp h with e | e
   ·have e1:NameKind.free=k:=congrArg Prod.snd e
    rw [← e1] at z;exact absurd rfl z
   ·exact clGo_has r _ y e
theorem relabel_look {env:Env}:∀ {names:List (Str×NameKind)} {x:Str} {k':NameKind},(names.map fun (n,k)=>if (k == NameKind.free && env.scope.kind == .function && env.kindOf n == some .cell) then (n,NameKind.cell) else (n,k)).lookup x=some k'->
  ∃ k,names.lookup x=some k/\(k'=k\/(k=.free/\k'=.cell))
 | [],_,_,h=>by simp at h
 | (n,k)::r,x,k',h=>by
  have ih:=@relabel_look env r x k'
  have h:List.lookup x ((if (k == NameKind.free && env.scope.kind == .function && env.kindOf n == some .cell)=true then (n,NameKind.cell) else (n,k))::_)=some k':=h
  rw [List.lookup_cons (as:=r)]
  cases hx:x == n with
  | true=>
   by_cases hc:(k == NameKind.free && env.scope.kind == .function && env.kindOf n == some .cell)=true
   ·rw [if_pos hc,List.lookup_cons,hx] at h
    simp only [Bool.and_eq_true,beq_iff_eq] at hc
    exact ⟨k,rfl,.inr ⟨hc.1.1,(Option.some.inj h).symm⟩⟩
   ·rw [if_neg hc,List.lookup_cons,hx] at h
    exact ⟨k,rfl,.inl (Option.some.inj h).symm⟩
  | false=>
   by_cases hc:(k == NameKind.free && env.scope.kind == .function && env.kindOf n == some .cell)=true
   ·rw [if_pos hc,List.lookup_cons,hx] at h;exact ih h
   ·rw [if_neg hc,List.lookup_cons,hx] at h;exact ih h
theorem relabel_free {env:Env}:∀ {names:List (Str×NameKind)} {x:Str},names.lookup x=some .free->
  (names.map fun (n,k)=>if (k == NameKind.free && env.scope.kind == .function && env.kindOf n == some .cell) then (n,NameKind.cell) else (n,k)).lookup x=some .cell\/
  (names.map fun (n,k)=>if (k == NameKind.free && env.scope.kind == .function && env.kindOf n == some .cell) then (n,NameKind.cell) else (n,k)).lookup x=some .free
 | [],_,h=>by simp at h
 | (n,k)::r,x,h=>by
  have ih:=@relabel_free env r x
  show List.lookup x ((if (k == NameKind.free && env.scope.kind == .function && env.kindOf n == some .cell)=true then (n,NameKind.cell) else (n,k))::_)=_\/List.lookup x ((if (k == NameKind.free && env.scope.kind == .function && env.kindOf n == some .cell)=true then (n,NameKind.cell) else (n,k))::_)=_
  rw [List.lookup_cons] at h
  cases hx:x == n with
  | true=>
   rw [hx] at h
   cases h
   by_cases hc:(NameKind.free == NameKind.free && env.scope.kind == .function && env.kindOf n == some .cell)=true
   ·rw [if_pos hc];simp [List.lookup_cons,hx]
   ·rw [if_neg hc];simp [List.lookup_cons,hx]
  | false=>
   rw [hx] at h
   by_cases hc:(k == NameKind.free && env.scope.kind == .function && env.kindOf n == some .cell)=true
   ·rw [if_pos hc];simp only [List.lookup_cons,hx];exact ih h
   ·rw [if_neg hc];simp only [List.lookup_cons,hx];exact ih h
def cxComp (X:Cx) (scope:Scope) (C:Addr) (N':List Str) (s:Shared) (H:Hp) (fp:List Addr) (pins:List (Addr×Obj)):Cx:=
 { X with N:=N',s₀:=s,H₀:=H,env:=compEnvC scope (clGo X.env.cells scope.names []) C X.env,outer:=X.stack,stack:=X.stack,ex:=fp,fn:=fun _=>false,pn:=X.pn++pins,xe:=fun _ _=>False }
structure CompScope (X:Cx) (scope:Scope):Prop where
 kind:scope.kind=.function
 nocell:∀ y∈scope.names,y.2≠.cell
 names:∀ y∈scope.names,y.2=.local->scope.names.lookup y.1=some .local
 fr:∀ y∈scope.names,y.2=.free->X.env.scope.names.lookup y.1=some .cell\/X.env.scope.names.lookup y.1=some .free
def compOk (outer:List (Str×NameKind)) (scope:Scope):Bool:=
 scope.names.all (fun y=>decide (y.2≠.cell)) && scope.names.all (fun y=>decide (y.2≠.local) || decide (scope.names.lookup y.1=some .local)) && scope.names.all fun y=>decide (y.2≠.free) || decide (outer.lookup y.1=some .cell) || decide (outer.lookup y.1=some .free)
theorem CompScope.of {X:Cx} {scope:Scope} (hk:scope.kind=.function) (h:compOk X.env.scope.names scope=true):CompScope X scope:=by
 unfold compOk at h
 simp only [Bool.and_eq_true,List.all_eq_true,Bool.or_eq_true,decide_eq_true_eq] at h
 obtain ⟨⟨h1,h2⟩,h3⟩:=h
 refine ⟨hk,h1,fun y hy hl=>(h2 y hy).resolve_left fun z=>z hl,fun y hy hf=>?_⟩
 rcases h3 y hy with (z | z) | z
 ·exact absurd hf z
 ·exact .inl z
 ·exact .inr z
section
variable {X:Cx} {pins:List (Addr×Obj)} {σ:St} {H:Hp} {s:Shared}
theorem CompScope.cells (S:CompScope X scope) (I:Inv X pins σ H s):∀ y∈scope.names,y.2=.free->(X.env.cells.lookup y.1).isSome=true:=fun y hy hf=>by
 obtain ⟨c,hc⟩:=I.ok.has y.1 (S.fr y hy hf)
 rw [hc];rfl
theorem inv_comp {scope:Scope} {C:Addr} {N':List Str} {fp:List Addr} {σ':St} {h':Heap} {tk:Nat} (S:CompScope X scope) (I:Inv X pins σ H s) (hfp:∀ b∈fp,FpOk X pins H b) (hlt:∀ b∈fp,b < s.heap.objs.size) (hC:s.heap.objs.size<=C)
  (hk:∀ b o,s.heap.get? b=some o->h'.get? b=some o) (hns:h'.Ns C fun _=>none) (hl:σ'.length=N'.length)
  (hσ:∀ (i:Nat) (x:Str) (v:V),N'[i]?=some x->σ'[i]?=some (some v)->scope.names.lookup x=some .free/\∃ j:Nat,X.N[j]?=some x/\σ[j]?=some (some v)):
  Inv (cxComp X scope C N' s H fp pins) [] σ' H { s with heap:=h',toks:=tk }:=by
 have sub:=clGo_sub (cells:=X.env.cells) scope.names [] (S.cells I) (fun _ _ h=>by simp at h)
 have ltC:∀ b o,s.heap.get? b=some o->b≠C:=fun b o e=>Nat.ne_of_lt (Nat.lt_of_lt_of_le (Heap.lt_size e) hC)
 have has:∀ x,(scope.names.lookup x=some .free)->∃ c,(clGo X.env.cells scope.names []).lookup x=some c:=fun x h=>Option.isSome_iff_exists.mp (clGo_has _ _ x (PySem.mem_of_lookup h))
 refine ⟨⟨I.ok.mod,S.kind,I.ok.glob,I.ok.blt,hC,fun x y c h1 h2=>I.ok.inj x y c (sub x c h1) (sub y c h2),fun x hx=>?_,fun _ _ h=>(Bool.false_ne_true h).elim,I.ok.hd,I.ok.frames,.inl rfl,fun b hb=>⟨Nat.ne_of_lt (Nat.lt_of_lt_of_le (hlt b hb) hC),fun x c h=>(hfp b hb).2.2.2.2.1 x c (sub x c h)⟩,
  I.bs,Nat.le_trans I.ok.bsz I.sz,fun b o e hb=>?_,fun b hb z=>?_,I.stack,I.stkFree⟩,rfl,I.bare,Un.kept hk,⟨_,hns,fun i x v h1 h2 h3=>?_⟩,fun x c h=>?_,I.hok.fresh hC,fun x c h=>I.freeC x c (sub x c h),fun p hp=>?_,I.hok.kept hk,hl⟩
 ·have hx:(relabel scope X.env).names.lookup x=some .cell\/(relabel scope X.env).names.lookup x=some .free:=hx
  have:∃ k',(relabel scope X.env).names.lookup x=some k'/\(k'=.cell\/k'=.free):=by
   rcases hx with h | h
   ·exact ⟨_,h,.inl rfl⟩
   ·exact ⟨_,h,.inr rfl⟩
  obtain ⟨k',h,hk'⟩:=this
  obtain ⟨k,hl,e⟩:=relabel_look h
  have:k=.free:=by
   rcases e with e | e
   ·rcases hk' with z | z
    ·rw [z] at e;subst e;exact absurd rfl (S.nocell _ (PySem.mem_of_lookup hl))
    ·rw [z] at e;exact e.symm
   ·exact e.1
  subst this
  exact has x hl
 ·rcases (hfp b hb).2.2.2.1 with z | z
  ·exact I.ok.noex b o e z
  ·exact absurd (Nat.lt_of_lt_of_le (Heap.lt_size e) (Nat.le_trans I.ok.bsz z)) (Nat.lt_irrefl _)
 ·rcases List.mem_cons.mp (I.stkSub b z) with q | q
  ·exact (hfp b hb).2.1 q
  ·exact (hfp b hb).2.2.1 q
 ·obtain ⟨hf,j,hj,hv⟩:=hσ i x v h1 h2
  obtain ⟨m,hn,hlk⟩:=I.loc
  have hvis:Vis X.env.scope x:=by
   rcases S.fr (x,.free) (PySem.mem_of_lookup hf) rfl with q | q
   ·exact .inr (.inl q)
   ·exact .inr (.inr q)
  obtain ⟨u,ru,lk⟩:=hlk j x v hj hv hvis
  refine ⟨u,ru,.inr ⟨relabel_free hf,?_⟩⟩
  obtain ⟨c',hc'⟩:=has x hf
  have e:=sub x c' hc'
  rcases lk with ⟨k1,_⟩ | ⟨_,c,hc,hcell⟩
  ·rcases S.fr (x,.free) (PySem.mem_of_lookup hf) rfl with q | q
   ·rw [show X.env.kindOf x=X.env.scope.names.lookup x from rfl,q] at k1;cases k1
   ·rw [show X.env.kindOf x=X.env.scope.names.lookup x from rfl,q] at k1;cases k1
  ·have e2:c=c':=Option.some.inj (hc.symm.trans e)
   subst e2
   exact ⟨c,hc',hcell.keeps hk⟩
 ·obtain ⟨v,q⟩:=I.cell x c (sub x c h)
  exact ⟨v,q.keeps hk⟩
 ·have hp:p∈X.pn++pins:=by
   have hp:p∈(X.pn++pins)++[]:=hp
   rwa [List.append_nil] at hp
  obtain ⟨e,n,ne,nf,d⟩:=I.pin p hp
  refine ⟨hk _ _ e,n,ltC _ _ e,fun z=>?_,d⟩
  rcases List.mem_cons.mp (I.stkSub p.1 z) with q | q
  ·exact ne q
  ·exact nf q
end
def PIfs (X:Cx) (ifs:List Expr) (t:TT):Prop:=
 ∀ (pins:List (Addr×Obj)) (s:Shared) (σ:St) (H:Hp) (Q:Bool->Hp->Prop),Inv X pins σ H s->t σ H Q->
  wpAny (model X.prog X.w) X.A (forIn ifs true fun c r=>if r=true then do let ok ← isTrue c X.env (eval c X.env);pure (ForInStep.yield ok) else pure (ForInStep.yield r)) (TP X pins σ Q) X.xe s
theorem pifs_nil {X:Cx}:PIfs X [] (fun _ H Q=>Q true H):=fun pins s σ H Q I h=>wpAny_pure ⟨H,I,h⟩
def tComp (wi:TI) (σ0:St->St) (g:TG) (tt:TT) (te:TE):TE:=fun σ H Q=>wi σ H fun J H1=>∃ W:Nat->Nat->List V->St->Hp->Prop,(∃ m,W 0 m [] (σ0 σ) H1)/\∀ i m vs σ' H,W i m vs σ' H->
 (J.stop i H/\∀ p,H p=none->Q (.ref p) (upd H p (.lst vs)))\/
 (J.go i H/\vs.length < sizeLine/\∀ x H',J.yld i H x H'->g x σ' H' fun σ2 H2=>tt σ2 H2 fun b H3=>if b=true then te σ2 H3 fun y H4=>∃ m',m' < m/\W (i+1) m' (vs++[y]) σ2 H4 else ∃ m',m' < m/\W (i+1) m' vs σ2 H3)
theorem use_pure {α:Type} {M:Model} {A:Around} {Q:Shared->Prop} {E E':Value->Shared->Prop} {s:Shared} {t:Sem α} {R:α->Shared->Prop} (h:wpAny M A (pure ():Sem Unit) (fun _ s=>Q s) E s) (k:Q s->wpAny M A t R E' s):wpAny M A t R E' s:=
 fun Γ p hΓ=>k (h Γ p hΓ) Γ p hΓ
theorem comp_core {X:Cx} {scope:Scope} {elt iter:Expr} {x:Str} {px pos p0:Pos} {ifs:List Expr} {N':List Str} {σ0:St->St} {wi:TI} {g:TG} {tt:TT} {te:TE} {use:Option (Value->Sem Unit)} {R:Value->Shared->Prop} (S:CompScope X scope) (hcalm:X.calm=true) (hi:PI X (.Name x px) iter wi)
  (hN:∀ σ:St,σ.length=X.N.length->(σ0 σ).length=N'.length/\∀ (i:Nat) (y:Str) (v:V),N'[i]?=some y->(σ0 σ)[i]?=some (some v)->scope.names.lookup y=some .free/\∃ j:Nat,X.N[j]?=some y/\σ[j]?=some (some v))
  (hg:∀ C s H fp pins,PG (cxComp X scope C N' s H fp pins) (.Name x px) g) (ht:∀ C s H fp pins,PIfs (cxComp X scope C N' s H fp pins) ifs tt) (he:∀ C s H fp pins,PE (cxComp X scope C N' s H fp pins) elt te)
  {pins:List (Addr×Obj)} {s:Shared} {σ:St} {H:Hp} {Q:VK} (I:Inv X pins σ H s) (h:tComp wi σ0 g tt te σ H Q)
  (fin:∀ (D C:Addr) (m:Str->Option Value) (H':Hp) (s4:Shared),Inv X pins σ H' s4->s4.heap.Ns C m->H' C=none->C≠X.env.locals->X.s₀.heap.objs.size<=C->(∀ x c,X.env.cells.lookup x=some c->c≠C)->(∀ p∈X.pn++pins,p.1≠C)->Q (.ref D) H'->∀ r,compPost (model X.prog X.w) X.A X.xe use R (.ref D) C (.ok r) s4)
  (hs:∀ v,foldedSetIterable iter X.env v=pure v):wpAny (model X.prog X.w) X.A (comprehension (.ListComp elt [⟨.Name x px,iter,ifs,0⟩] scope pos) scope X.env p0 (newList []) false (eval iter X.env) use) R X.xe s:=by
 refine wpAny_comprehension_free (use:=use) rfl hs (closure_eq (S.cells I)) S.kind S.names (thn (hi pins s σ H _ I h) fun v s1 h1=>thn h1 fun itv s2 h2=>?_)
 obtain ⟨it,fp,tn,J,H2,e,I2,T,st2,f2,W,⟨m0,w0⟩,turn⟩:=h2
 subst e
 have hfl:∀ b∈fp,b < s2.heap.objs.size:=fun b hb=>by
  obtain ⟨o,e,_⟩:=T.obj _ _ st2 b hb
  exact Heap.lt_size e
 refine wpAny_newObj_type (wpAny_newFunctionEnv S.nocell (by intro y hy;simp at hy) (fun h₁ hns₁ hsb₁=>?_) S.kind)
 dsimp only at hns₁ hsb₁ ⊢
 generalize hH2:s2.heap.push { cls:=.type "list",dict:=none,data:=.seq ([]:List Value).toArray }=G2 at hns₁ hsb₁ ⊢
 have hC:G2.objs.size=s2.heap.objs.size+1:=by rw [← hH2,Heap.size_push]
 have hDC:s2.heap.objs.size≠G2.objs.size:=by rw [hC];exact Nat.ne_of_lt (Nat.lt_succ_self _)
 have below:∀ b,b < s2.heap.objs.size->b≠G2.objs.size:=fun b hb=>by rw [hC];exact Nat.ne_of_lt (Nat.lt_succ_of_lt hb)
 have old:∀ b o,s2.heap.get? b=some o->h₁.get? b=some o:=fun b o e=>hsb₁.extBut b o (below b (Heap.lt_size e)) (Heap.get?_push_of_some _ (hH2 ▸ Heap.get?_push_of_some _ e))
 have hacc:h₁.PlainList s2.heap.objs.size #[]:=⟨_,hsb₁.extBut _ _ hDC (Heap.get?_push_of_some _ (hH2 ▸ Heap.get?_push_size _ rfl))⟩
 have hD0:H2 s2.heap.objs.size=none:=I2.hok.fresh (Nat.le_refl _)
 have hDs:s2.heap.objs.size∉frs X.stack:=fun z=>by
  rcases List.mem_cons.mp (I2.stkSub _ z) with q | q
  ·exact absurd I2.lt (by rw [← q];exact Nat.lt_irrefl _)
  ·exact I2.nofs (Nat.le_refl _) q
 have sub:=clGo_sub (cells:=X.env.cells) scope.names [] (S.cells I2) (fun _ _ h=>by simp at h)
 have hCe:s2.heap.objs.size<=G2.objs.size:=by rw [hC];exact Nat.le_succ _
 have hns:h₁.Ns G2.objs.size fun _=>none:=by
  have:(fun x:Str=>(([]:List (Str×Value)).reverse).lookup x)=fun _=>none:=rfl
  rw [this] at hns₁
  exact hns₁
 have I1:Inv (cxComp X scope G2.objs.size N' s2 H2 fp pins) [] (σ0 σ) H2 { s2 with heap:=h₁,toks:=s2.toks+([]:List (Str×Value)).length }:=
  inv_comp S I2 f2 hfl hCe old hns (hN σ I2.len).1 (hN σ I2.len).2
 have fpD:∀ b∈fp,b≠s2.heap.objs.size:=fun b hb=>Nat.ne_of_lt (hfl b hb)
 have cellD:∀ y c,(cxComp X scope G2.objs.size N' s2 H2 fp pins).env.cells.lookup y=some c->c≠s2.heap.objs.size:=fun y c h=>by
  obtain ⟨v,q⟩:=I2.cell y c (sub y c h)
  exact Nat.ne_of_lt q.lt
 have pnD:∀ p∈X.pn++pins,p.1≠s2.heap.objs.size:=fun p hp=>Nat.ne_of_lt (Heap.lt_size (I2.pin p hp).1)
 have stat:∀ {H':Hp} {ob:Obj},(∀ b∈fp,H' b=none)->∀ b∈fp,FpOk (cxComp X scope G2.objs.size N' s2 H2 fp pins) [(s2.heap.objs.size,ob)] H' b:=fun {H' ob} hn b hb=>by
  refine ⟨hn b hb,below b (hfl b hb),fun z=>?_,.inl hb,fun y c h=>(f2 b hb).2.2.2.2.1 y c (sub y c h),fun p hp=>?_⟩
  ·rcases List.mem_cons.mp (I2.stkSub b z) with q | q
   ·exact (f2 b hb).2.1 q
   ·exact (f2 b hb).2.2.1 q
  ·rcases List.mem_append.mp hp with q | q
   ·exact (f2 b hb).2.2.2.2.2 p q
   ·obtain rfl:=List.mem_singleton.mp q
    exact (fpD b hb).symm
 have pinD:∀ {σ':St} {H':Hp} {s':Shared} {ob:Obj},Inv (cxComp X scope G2.objs.size N' s2 H2 fp pins) [] σ' H' s'->s'.heap.get? s2.heap.objs.size=some ob->H' s2.heap.objs.size=none->(∀ v,ob.data≠.cell v)->Inv (cxComp X scope G2.objs.size N' s2 H2 fp pins) [(s2.heap.objs.size,ob)] σ' H' s':=
  fun {σ' H' s' ob} J e n d=>J.pins_of fun p hp=>by
   obtain rfl:=List.mem_singleton.mp hp
   exact ⟨e,n,hDC,hDs,d⟩
 have loop:codeAny (model X.prog X.w) X.A (.compLoop (.ListComp elt [⟨.Name x px,iter,ifs,0⟩] scope pos) 0 (.ref it) (.ref s2.heap.objs.size) (cxComp X scope G2.objs.size N' s2 H2 fp pins).env)
   (compPost (model X.prog X.w) X.A X.xe use R (.ref s2.heap.objs.size) G2.objs.size) { s2 with heap:=h₁,toks:=s2.toks+([]:List (Str×Value)).length }:=by
  refine codeAny_compLoop_tests (fun n s'=>∃ i σi Hi vs ys,Inv (cxComp X scope G2.objs.size N' s2 H2 fp pins) [] σi Hi s'/\tn i s'.heap/\(∀ b∈fp,Hi b=none)/\s'.heap.PlainList s2.heap.objs.size ys/\Vals vs ys.toList/\Hi s2.heap.objs.size=none/\vs.length<=sizeLine/\W i n vs σi Hi) ?_ m0
   ⟨0,σ0 σ,H2,[],#[],I1,T.keep _ _ _ st2 fun b _ o e=>old b o e,fun b hb=>(f2 b hb).1,hacc,.nil,hD0,Nat.zero_le _,w0⟩ (fun v=>rfl)
  rintro n s3 ⟨i,σ3,H3,vs,ys,I3,st3,fr3,⟨nn,hpl⟩,rv,hD3,hz,w3⟩
  have I3p:=pinD I3 hpl hD3 (fun v=>by intro z;cases z)
  rcases turn i n vs σ3 H3 w3 with ⟨stop,qn⟩ | ⟨go,hlt,step⟩
  ·refine wpAny_mono (T.done (cxComp X scope G2.objs.size N' s2 H2 fp pins) rfl rfl rfl hcalm i _ s3 σ3 H3 _ I3p (stat fr3) st3 stop) (fun r s4 ⟨hr,I4⟩=>?_) fun _ _ z=>z
   subst hr
   obtain ⟨m4,hn4,_⟩:=I4.loc
   have e4:s4.heap.get? s2.heap.objs.size=some { cls:=.type "list",dict:=none,data:=.seq ys nn,slots:=#[] }:=(I4.pin (s2.heap.objs.size,_) (List.mem_append_right _ (List.mem_singleton.mpr rfl))).1
   have eC:H3 G2.objs.size=none:=I4.free
   have keepC:∀ b o,b≠G2.objs.size->s4.heap.get? b=some o->s4.heap.get? b=some o:=fun _ _ _ e=>e
   have un4:Un (frs X.stack) fp H2 H3 s2.heap s4.heap:=I4.base
   have un5:Un (frs X.stack) fp H2 (upd H3 s2.heap.objs.size (.lst vs)) s2.heap s4.heap:=by
    refine ⟨fun b o e nb hb hx=>keepC b o (below b (Heap.lt_size e)) (un4.keep b o e nb hb hx),fun b o e nb hb hx=>?_,fun b o e nb hx=>?_,fun b o e hx=>?_,fun b xs e=>?_,fun b o u e=>?_,fun b ps e=>?_⟩
    ·obtain ⟨sl,q⟩:=un4.slot b o e nb hb hx
     exact ⟨sl,keepC b _ (below b (Heap.lt_size e)) q⟩
    ·rw [upd_ne (Nat.ne_of_lt (Heap.lt_size e))];exact un4.free b o e nb hx
    ·obtain ⟨o',q⟩:=un4.there b o e hx
     exact ⟨o',keepC b _ (below b (Heap.lt_size e)) q⟩
    ·have q:=un4.tups b xs e;rw [upd_ne (ne_of_none q hD3)];exact q
    ·have q:=un4.frzs b o u e;rw [upd_ne (ne_of_none q hD3)];exact q
    ·obtain ⟨more,q⟩:=un4.tbls b ps e
     exact ⟨more,by rw [upd_ne (ne_of_none q hD3)];exact q⟩
   have hok5:HOk X.prog X.w (upd H3 s2.heap.objs.size (.lst vs)) s4.heap:=fun b u q=>by
    by_cases hb:b=s2.heap.objs.size
    ·subst hb
     rw [upd_same] at q;cases q
     exact ⟨hz,ys.toList,nn,rv,by rw [keepC _ _ hDC e4]⟩
    ·rw [upd_ne hb] at q
     refine (I4.hok b u q).stay (fun c v hc r=>keepC c v ?_ r) (fun c r=>by rw [upd_ne (ne_of_none r hD3)];exact r) fun c xs r=>by rw [upd_ne (ne_of_none r hD3)];exact r
     rcases hc with z | z
     ·rw [z];exact ne_of_none q eC
     ·exact ne_of_none z eC
   have I6:Inv X pins σ (upd H3 s2.heap.objs.size (.lst vs)) s4:=
    I2.call' (ch:=fp) I4.os un5 hok5 I4.bare fun b hb=>⟨(f2 b hb).2.2.2.1,(f2 b hb).2.1,(f2 b hb).2.2.2.2.1,(f2 b hb).2.2.2.2.2⟩
   refine fin s2.heap.objs.size G2.objs.size m4 _ s4 I6 hn4 (by rw [upd_ne hDC.symm];exact eC) (fun z=>absurd I2.lt (by rw [← z,hC];exact Nat.not_lt.mpr (Nat.le_succ _))) (Nat.le_trans I2.sz hCe) (fun y c e=>?_) (fun p hp=>below p.1 (Heap.lt_size (I2.pin p hp).1)) (qn _ hD3) _
   obtain ⟨v,q⟩:=I2.cell y c e
   exact below c q.lt
  ·refine wpAny_mono (T.item (cxComp X scope G2.objs.size N' s2 H2 fp pins) rfl rfl rfl hcalm i _ s3 σ3 H3 _ I3p (stat fr3) st3 go) (fun r s4 ⟨u,hr,h4⟩=>?_) fun _ _ z=>z
   subst hr
   refine use_pure (Q:=fun s5=>∃ y H5,Inv (cxComp X scope G2.objs.size N' s2 H2 fp pins) [(s2.heap.objs.size,_)] σ3 H5 s5/\RelV y u/\J.yld i H3 y H5/\tn (i+1) s5.heap/\∀ b∈fp,H5 b=none) h4 fun ⟨y,H5,I5,r5,y5,st5,fr5⟩=>?_
   have I5':=I5.pinned (stat fr5) (T.obj _ _ st5)
   refine wpAny_mono (hg G2.objs.size s2 H2 fp pins _ s4 σ3 H5 y u _ I5' r5 (step y H5 y5)) (fun _ s6 ⟨σ6,H6,I6,q6⟩=>?_) fun _ _ z=>z.elim
   refine wpAny_mono (ht G2.objs.size s2 H2 fp pins _ s6 σ6 H6 _ I6 q6) (fun ok s7 ⟨H7,I7,q7⟩=>?_) fun _ _ z=>z.elim
   have fpK:∀ {σ':St} {H':Hp} {s':Shared} {ob:Obj},Inv (cxComp X scope G2.objs.size N' s2 H2 fp pins) ([(s2.heap.objs.size,ob)]++pinsAt fp s4.heap) σ' H' s'->(∀ b∈fp,∀ o,s4.heap.get? b=some o->s'.heap.get? b=some o)/\(∀ b∈fp,H' b=none)/\s'.heap.get? s2.heap.objs.size=some ob/\H' s2.heap.objs.size=none:=fun {σ' H' s' ob} J=>by
    refine ⟨fun b hb o e=>(J.pin (b,o) (List.mem_append_right _ (List.mem_append_right _ (mem_pinsAt hb e)))).1,fun b hb=>?_,?_⟩
    ·obtain ⟨o,e,d⟩:=T.obj _ _ st5 b hb
     exact (J.pin (b,o) (List.mem_append_right _ (List.mem_append_right _ (mem_pinsAt hb e)))).2.1
    ·have q:=J.pin (s2.heap.objs.size,ob) (List.mem_append_right _ (List.mem_append_left _ (List.mem_singleton.mpr rfl)))
     exact ⟨q.1,q.2.1⟩
   have free0:∀ {σ':St} {H':Hp} {s':Shared} {pl:List (Addr×Obj)},Inv (cxComp X scope G2.objs.size N' s2 H2 fp pins) pl σ' H' s'->Inv (cxComp X scope G2.objs.size N' s2 H2 fp pins) [] σ' H' s':=fun J=>J.pins_of fun p hp=>by cases hp
   cases ok with
   | false=>
    obtain ⟨m',hm,w7⟩:=q7
    obtain ⟨k1,k2,k3,k4⟩:=fpK I7
    exact ⟨m',hm,i+1,σ6,H7,vs,ys,free0 I7,T.keep _ _ _ st5 k1,k2,⟨nn,k3⟩,rv,k4,hz,w7⟩
   | true=>
    simp only [if_true] at q7 ⊢
    refine wpAny_mono (he G2.objs.size s2 H2 fp pins _ s7 σ6 H7 _ I7 q7) (fun z s8 ⟨v8,H8,I8,r8,m',hm,w8⟩=>?_) fun _ _ z=>z.elim
    obtain ⟨k1,k2,k3,k4⟩:=fpK I8
    have hys:ys.size<=sizeLine:=by
     have:=rv.length
     simp only [Array.length_toList] at this
     omega
    refine wpAny_list_append_plain (hsz:=hys) ⟨nn,k3⟩ fun h9 hl9 hs9=>?_
    refine ⟨m',hm,i+1,σ6,H8,vs++[v8],ys.push z,?_,?_,k2,hl9,?_,k4,by rw [List.length_append,List.length_singleton];exact hlt,w8⟩
    ·exact (free0 I8).turned (t':=s8.toks) (fun b o hb e=>hs9.extBut b o hb e) k4 hDC (.inr (Nat.le_refl _)) cellD fun p hp=>by
      have hp:p∈(X.pn++pins)++[]:=hp
      rw [List.append_nil] at hp
      exact pnD p hp
    ·exact T.keep _ _ _ st5 fun b hb o e=>hs9.extBut b o (fpD b hb) (k1 b hb o e)
    ·rw [Array.toList_push]
     exact rv.append (.cons r8 .nil)
 exact codeAny_compStart_list loop (T.self _ _ _ _ _ (T.keep _ _ _ st2 fun b _ o e=>old b o e) loop)
theorem pe_comp {X:Cx} {scope:Scope} {elt iter:Expr} {x:Str} {px pos:Pos} {ifs:List Expr} {N':List Str} {σ0:St->St} {wi:TI} {g:TG} {tt:TT} {te:TE} (S:CompScope X scope) (hcalm:X.calm=true) (hi:PI X (.Name x px) iter wi)
  (hN:∀ σ:St,σ.length=X.N.length->(σ0 σ).length=N'.length/\∀ (i:Nat) (y:Str) (v:V),N'[i]?=some y->(σ0 σ)[i]?=some (some v)->scope.names.lookup y=some .free/\∃ j:Nat,X.N[j]?=some y/\σ[j]?=some (some v))
  (hg:∀ C s H fp pins,PG (cxComp X scope C N' s H fp pins) (.Name x px) g) (ht:∀ C s H fp pins,PIfs (cxComp X scope C N' s H fp pins) ifs tt) (he:∀ C s H fp pins,PE (cxComp X scope C N' s H fp pins) elt te)
  (hs:∀ v,foldedSetIterable iter X.env v=pure v:=by intro _;rfl):PE X (.ListComp elt [⟨.Name x px,iter,ifs,0⟩] scope pos) (tComp wi σ0 g tt te):=by
 intro pins s σ H Q I h
 rw [eval_ListComp]
 exact comp_core (use:=none) S hcalm hi hN hg ht he I h (fun D C m H' s4 I4 hn n1 n2 n3 n4 n5 q r=>⟨m,hn,fun h' hs'=>⟨.ref D,H',I4.turned (t':=s4.toks) (fun b o hb e=>hs'.extBut b o hb e) n1 n2 (.inr n3) n4 n5,rfl,q⟩⟩) hs
theorem ps_setComp {X:Cx} {scope:Scope} {elt iter:Expr} {x y:Str} {px py pos spos:Pos} {ifs:List Expr} {N':List Str} {σ0:St->St} {wi:TI} {g:TG} {tt:TT} {te:TE} {i:Nat} (hNd:X.N.Nodup) (hy:X.N[i]?=some y) (hyl:X.env.scope.names.lookup y=some .local)
  (hsw:swapsWith (.ListComp elt [⟨.Name x px,iter,ifs,0⟩] scope pos) (some (.Name y py)) spos.line X.env=pure true) (S:CompScope X scope) (hcalm:X.calm=true) (hi:PI X (.Name x px) iter wi)
  (hN:∀ σ:St,σ.length=X.N.length->(σ0 σ).length=N'.length/\∀ (i:Nat) (y:Str) (v:V),N'[i]?=some y->(σ0 σ)[i]?=some (some v)->scope.names.lookup y=some .free/\∃ j:Nat,X.N[j]?=some y/\σ[j]?=some (some v))
  (hg:∀ C s H fp pins,PG (cxComp X scope C N' s H fp pins) (.Name x px) g) (ht:∀ C s H fp pins,PIfs (cxComp X scope C N' s H fp pins) ifs tt) (he:∀ C s H fp pins,PE (cxComp X scope C N' s H fp pins) elt te)
  (hs:∀ v,foldedSetIterable iter X.env v=pure v:=by intro _;rfl):PS X (.Assign [.Name y py] (.ListComp elt [⟨.Name x px,iter,ifs,0⟩] scope pos) spos) (tAsg (tComp wi σ0 g tt te) (gName i)):=by
 intro pins s σ H D I h
 rw [exec_Assign_Name_used _ _ _ _ hsw]
 refine wpAny_bind (wpAny_standAt (wpAny_bind ?_))
 show wpAny _ X.A (do let _ ← comprehension (.ListComp elt [⟨.Name x px,iter,ifs,0⟩] scope pos) scope X.env _ (newList []) false (eval iter X.env) (some (assign (.Name y py) X.env))) _ _ s
 refine wpAny_bind (wpAny_mono (comp_core (use:=some (assign (.Name y py) X.env)) (R:=fun _ s'=>SP X pins D .next s') S hcalm hi hN hg ht he I h (fun D' C m H' s4 I4 hn n1 n2 n3 n4 n5 q r=>?_) hs) (fun _ s' hq=>wpAny_pure (wpAny_pure hq)) fun _ _ e=>e)
 show wpAny _ _ (assign (.Name y py) X.env (.ref D')) _ _ _
 refine wpAny_assign_Name (store_ok2 I4 hNd hy (.inl hyl) (v:=.ref D') rfl (fun s5 I5 hsame=>?_) (.inr hyl))
 obtain ⟨a,hs5,ha⟩:=hsame
 have ne:C≠a:=by
  rcases ha with z | z
  ·rw [z];exact n2
  ·exact (n4 y a z).symm
 exact ⟨m,hn.sameBut hs5 ne,fun h' hs'=>⟨_,H',I5.turned (t':=s5.toks) (fun b o hb e=>hs'.extBut b o hb e) n1 n2 (.inr n3) n4 n5,q⟩⟩
open PyProof.Rows hiding St
def Its (z:Str):It:=⟨fun i _=>i < z.cps.size,fun i H v H'=>H'=H/\∃ c,z.cps[i]?=some c/\v=.str ⟨#[c]⟩,fun i _=>z.cps.size<=i⟩
theorem turn_str {P:Program} {w:World} {K:Frag} {tg:Expr} (it:Addr) (z:Str) (t:Tok) (ty:String) (hty:["enumerate","zip","dict_itemiterator","dict_reverseitemiterator","odict_iterator","itertools.zip_longest","itertools.pairwise"].contains ty=false)
  (W:∀ A:Around,A.handled=none->Walks P w A it [it] [it] z.cps.size (SignAt z) (fun i h=>h.IsStrIter it ty z t i)) (hself:∀ (A:Around) (i:Nat) (s:Shared) (Q:Value->Shared->Prop) (E:Value->Shared->Prop),s.heap.IsStrIter it ty z t i->Q (.ref it) s->wpAny (model P w) A (pyIter (.ref it)) Q E s):
  Turn P w K tg (Its z) [it] it (fun i h=>i<=z.cps.size/\h.IsStrIter it ty z t i) where
 mem:=by simp
 obj:=fun i h st b hb=>by
  have e:b=it:=by simpa using hb
  subst e
  obtain ⟨_,o,e,c,d⟩:=st
  exact ⟨o,e,fun v z=>by rw [d] at z;cases z⟩
 keep:=fun i h h' st k=>by
  obtain ⟨hi,o,e,r⟩:=st
  exact ⟨hi,o,k it (by simp) o e,r⟩
 item:=by
  intro X hP hw hK hc i pins s σ H E I hf st hg
  subst hP hw hK
  obtain ⟨f0,f1,f2,f3,f4,f5⟩:=hf it (by simp)
  have hg:i < z.cps.size:=hg
  refine (W X.A (I.ok.hd hc)).item i s _ _ hg st.2 fun v h' tk hv st' kp=>?_
  obtain ⟨c,u,hcu,rfl⟩:=hv
  have I1:Inv X pins σ H { s with heap:=h',toks:=tk }:=I.turned (t':=tk) (fun b o hb e=>kp b o (by simpa using hb) e) f0 f1 f3 f4 f5
  obtain ⟨o,e,cl,d⟩:=id st'
  exact ⟨_,rfl,go_of (s:={ s with heap:=h',toks:=tk }) e cl d hty ⟨.str ⟨#[c]⟩,H,I1,⟨u,rfl⟩,⟨rfl,c,hcu,rfl⟩,⟨hg,st'⟩,fun b hb=>(hf b hb).1⟩⟩
 done:=by
  intro X hP hw hK hc i pins s σ H E I hf st hg
  subst hP hw hK
  obtain ⟨f0,f1,f2,f3,f4,f5⟩:=hf it (by simp)
  have hg:z.cps.size<=i:=hg
  have e:i=z.cps.size:=Nat.le_antisymm st.1 hg
  subst e
  exact (W X.A (I.ok.hd hc)).done s _ _ st.2 fun h' tk kp=>⟨rfl,I.turned (t':=tk) (fun b o hb e=>kp b o (by simpa using hb) e) f0 f1 f3 f4 f5⟩
 self:=fun A i s Q E st h=>hself A i s Q E st.2 h
theorem pyIter_strV {X:Cx} {pins:List (Addr×Obj)} {σ:St} {H:Hp} {s:Shared} {z:Str} {t:Tok} {tg:Expr} {R:It->Hp->Prop} (I:Inv X pins σ H s) (q:R (Its z) H):wpAny (model X.prog X.w) X.A (pyIter (.str z t)) (PIE X pins σ tg R) X.xe s:=by
 have fin:∀ b,b∈[s.heap.objs.size]->FpOk X pins H b:=fun b hb=>by
  have e:b=s.heap.objs.size:=by simpa using hb
  subst e
  exact I.fpOk (Nat.le_refl _) (I.hok.fresh (Nat.le_refl _))
 cases ha:z.cps.all (· < 128)
 ·refine wpAny_pyIter_wide ha ⟨s.heap.objs.size,[s.heap.objs.size],_,_,H,rfl,I.kept (t':=s.toks) fun b o e=>Heap.get?_push_of_some _ e,turn_str _ z t "str_iterator" (by decide) (fun A hA=>Walks.strWide hA _ z t) (fun A i s Q E st h=>wpAny_pyIter_striter_wide st h),⟨Nat.zero_le _,_,Heap.get?_push_size _ rfl,rfl,rfl⟩,fin,q⟩
 ·refine wpAny_pyIter_ascii ha ⟨s.heap.objs.size,[s.heap.objs.size],_,_,H,rfl,I.kept (t':=s.toks) fun b o e=>Heap.get?_push_of_some _ e,turn_str _ z t "str_ascii_iterator" (by decide) (fun A hA=>Walks.strAscii hA _ z t) (fun A i s Q E st h=>wpAny_pyIter_striter_ascii st h),⟨Nat.zero_le _,_,Heap.get?_push_size _ rfl,rfl,rfl⟩,fin,q⟩
section
variable {X:Cx} {E:XK} {a b c e l' tg:Expr} {ta tb tc:ED} {pos:Pos}
theorem pi_any {l:Expr} {tl:TE} (hl:PE X l tl):PI X tg l (fun σ H R=>tl σ H fun x H1=>(∃ a,x=.ref a/\(∃ xs,SqL X.K H1 a xs)/\R (Itl X.K a) H1)\/(∃ a,x=.ref a/\(∃ xs,SqT X.K H1 a xs)/\R (Itt X.K a) H1)\/∃ z,x=.str z/\R (Its z) H1):=by
 intro pins s σ H R I h
 refine thn (hl pins s σ H _ I h) fun v s1 ⟨x,H1,I1,r1,q1⟩=>?_
 have fin:∀ b,b∈[s1.heap.objs.size]->FpOk X pins H1 b:=fun b hb=>by
  have e:b=s1.heap.objs.size:=by simpa using hb
  subst e
  exact I1.fpOk (Nat.le_refl _) (I1.hok.fresh (Nat.le_refl _))
 rcases q1 with ⟨a,e,⟨xs,hq⟩,q⟩ | ⟨a,e,⟨xs,hq⟩,q⟩ | ⟨z,e,q⟩
 ·subst e
  cases r1
  obtain ⟨its,rv,p,hz⟩:=I1.list hq
  refine wpAny_pyIter_list p.isList ?_
  exact ⟨s1.heap.objs.size,[s1.heap.objs.size],_,_,H1,rfl,I1.kept (t':=s1.toks) fun b o e=>Heap.get?_push_of_some _ e,turn_list a _,⟨_,Heap.get?_push_size _ rfl,rfl,rfl⟩,fin,q⟩
 ·subst e
  cases r1
  obtain ⟨its,rv,p,hz⟩:=I1.tuple hq
  refine wpAny_pyIter_tuple (show s1.heap.IsTuple a its.toArray from p) ?_
  exact ⟨s1.heap.objs.size,[s1.heap.objs.size],_,_,H1,rfl,I1.kept (t':=s1.toks) fun b o e=>Heap.get?_push_of_some _ e,turn_tuple a _,⟨_,Heap.get?_push_size _ rfl,rfl,rfl⟩,fin,q⟩
 ·subst e
  obtain ⟨t,rfl⟩:=r1
  exact pyIter_strV I1 q
structure Src where
 xs:List D
 chk:List Cell->Prop
structure SrcOk (K:Frag) (J:It) (S:Src) (H1:Hp) (O1:Ow):Prop where
 go:∀ H O c i,Ext H1 O1 H O->Cells K H O c->S.chk c->i < S.xs.length->J.go i H
 stop:∀ H O c i,Ext H1 O1 H O->Cells K H O c->S.chk c->S.xs.length<=i->J.stop i H
 yld:∀ H O c i d x H',Ext H1 O1 H O->Cells K H O c->S.chk c->S.xs[i]?=some d->J.yld i H x H'->H'=H/\Rep K H O x d
abbrev ID:=L->M Src
def liftI (K:Frag) (E:XK) (t:ID):TI:=fun σ H R=>∃ O l c,Locs K H O l σ/\Cells K H O c/\Post K E H O (fun S H' O' _=>∀ J,SrcOk K J S H' O'->R J H') (t l c)
structure DI (X:Cx) (E:XK) (tg iter:Expr) (t:ID):Prop where
 h:PI X tg iter (liftI X.K E t)
theorem PI.imp {X:Cx} {tg e:Expr} {t t':TI} (h:PI X tg e t) (i:∀ σ H R,t' σ H R->t σ H R):PI X tg e t':=fun pins s σ H R I q=>h pins s σ H R I (i _ _ _ q)
def srcOf:D->M Src
 | .lst xs=>M.ret ⟨xs,fun _=>True⟩
 | .tup xs=>M.ret ⟨xs,fun _=>True⟩
 | .str s=>M.ret ⟨s.map fun c=>.str [c],fun _=>True⟩
 | .scr ns=>M.ret ⟨ns.map .int,fun _=>True⟩
 | .hnd k=>fun c=>match c[k]? with
  | some (.lst xs)=>some (.ok ⟨xs,fun c'=>c'[k]?=some (.lst xs)⟩ c)
  | _=>none
 | _=>M.stuck
def iVal (ta:ED):ID:=fun l=>(ta l).bd srcOf
theorem srcL {K:Frag} {H1:Hp} {O1:Ow} {a:Addr} {vs:List V} {xs:List D} {chk:List Cell->Prop} (h:∀ H O c,Ext H1 O1 H O->Cells K H O c->chk c->∃ vs,SqL K H a vs/\Reps K H O vs xs):SrcOk K (Itl K a) ⟨xs,chk⟩ H1 O1 where
 go:=fun H O c i e hc hk hi=>by
  obtain ⟨vs,q,r⟩:=h H O c e hc hk
  obtain ⟨d,hd⟩:∃ d,xs[i]?=some d:=⟨xs[i]'hi,List.getElem?_eq_getElem hi⟩
  obtain ⟨v,hv,_⟩:=r.get hd
  exact ⟨vs,v,q,hv⟩
 stop:=fun H O c i e hc hk hi=>by
  obtain ⟨vs,q,r⟩:=h H O c e hc hk
  exact ⟨vs,q,by rw [r.length];exact hi⟩
 yld:=fun H O c i d x H' e hc hk hd y=>by
  obtain ⟨vs,q,r⟩:=h H O c e hc hk
  obtain ⟨v,hv,rv⟩:=r.get hd
  have:=y.2 vs q
  rw [hv] at this;cases this
  exact ⟨y.1,rv⟩
theorem srcT {K:Frag} {H1:Hp} {O1:Ow} {a:Addr} {xs:List D} {chk:List Cell->Prop} (h:∀ H O c,Ext H1 O1 H O->Cells K H O c->chk c->∃ vs,SqT K H a vs/\Reps K H O vs xs):SrcOk K (Itt K a) ⟨xs,chk⟩ H1 O1 where
 go:=fun H O c i e hc hk hi=>by
  obtain ⟨vs,q,r⟩:=h H O c e hc hk
  obtain ⟨d,hd⟩:∃ d,xs[i]?=some d:=⟨xs[i]'hi,List.getElem?_eq_getElem hi⟩
  obtain ⟨v,hv,_⟩:=r.get hd
  exact ⟨vs,v,q,hv⟩
 stop:=fun H O c i e hc hk hi=>by
  obtain ⟨vs,q,r⟩:=h H O c e hc hk
  exact ⟨vs,q,by rw [r.length];exact hi⟩
 yld:=fun H O c i d x H' e hc hk hd y=>by
  obtain ⟨vs,q,r⟩:=h H O c e hc hk
  obtain ⟨v,hv,rv⟩:=r.get hd
  have:=y.2 vs q
  rw [hv] at this;cases this
  exact ⟨y.1,rv⟩
theorem di_val (ha:DE X E a ta):DI X E tg a (iVal ta):=by
 refine ⟨PI.imp (pi_any ha.h) fun σ H R h=>?_⟩
 obtain ⟨O,l,c,hl,hc,p⟩:=h
 refine liftE_bd hl hc p fun x v H1 O1 c1 e1 hl1 hc1 rv p1=>?_
 cases rv with
 | @lst a vs xs h n r=>exact .inl ⟨a,rfl,⟨vs,SqL.of h⟩,Post.ret p1 hc1 _ (srcL (vs:=vs) fun H O c e _ _=>⟨vs,SqL.of (e.keep _ _ h n),r.mono e⟩)⟩
 | @scr a ns h=>exact .inl ⟨a,rfl,⟨_,h.sq⟩,Post.ret p1 hc1 _ (srcL (vs:=ns.map V.int) fun H O c e _ _=>⟨_,(h.mono e).sq,Reps.ints _⟩)⟩
 | @tup a vs xs h n r=>exact .inr (.inl ⟨a,rfl,⟨vs,SqT.of h⟩,Post.ret p1 hc1 _ (srcT fun H O c e _ _=>⟨vs,SqT.of (e.keep _ _ h n),r.mono e⟩)⟩)
 | @hnd a k hk=>
  simp only [srcOf] at p1
  cases z:c1[k]? with
  | none=>rw [z] at p1;exact p1.elim
  | some x=>
   rw [z] at p1
   cases x with
   | lst xs=>
    obtain ⟨a',vs,q1,q2,q3⟩:=hc1.at_ k _ z
    rw [hk] at q1;cases q1
    refine .inl ⟨a,rfl,⟨vs,SqL.of q2⟩,p1 H1 O1 (Ext.refl _ _) hc1 _ (srcL (vs:=vs) fun H O c e hc hck=>?_)⟩
    obtain ⟨a4,vs4,g1,g2,g3⟩:=hc.at_ k _ hck
    have g1':=e.pre k a hk
    rw [g1'] at g1;cases g1
    exact ⟨vs4,SqL.of g2,g3⟩
   | _=>exact p1.elim
 | str s=>
  refine .inr (.inr ⟨_,rfl,Post.ret p1 hc1 _ ⟨fun H O c i e hc hk hi=>?_,fun H O c i e hc hk hi=>?_,fun H O c i d x H' e hc hk hd y=>?_⟩⟩)
  ·show i < s.toArray.size
   simpa using hi
  ·show s.toArray.size<=i
   simpa using hi
  ·obtain ⟨y1,ch,y2,y3⟩:=y
   refine ⟨y1,?_⟩
   have hd:(s.map fun c=>D.str [c])[i]?=some d:=hd
   rw [List.getElem?_map] at hd
   have y2:s[i]?=some ch:=by simpa using y2
   rw [y2] at hd
   cases hd
   rw [y3]
   exact .str [ch]
 | _=>exact p1.elim
def iR1 (ta:ED):ID:=fun l=>(ta l).bd fun d=>match d with
 | .int j=>if -1000000<=j/\j<=1000000 then M.ret ⟨rangeD 0 j.toNat,fun _=>True⟩ else M.stuck
 | _=>M.stuck
theorem srcR {K:Frag} {H1:Hp} {O1:Ow} {lo:Int} {n:Nat} {chk:List Cell->Prop}:SrcOk K (Itr lo n) ⟨rangeD lo n,chk⟩ H1 O1 where
 go:=fun H O c i e hc hk hi=>by
  show i < n
  simpa [rangeD] using hi
 stop:=fun H O c i e hc hk hi=>by
  show n<=i
  simpa [rangeD] using hi
 yld:=fun H O c i d x H' e hc hk hd y=>by
  have hi:i < n:=by
   have:=(List.getElem?_eq_some_iff.mp hd).1
   simpa [rangeD] using this
  have hd:(rangeD lo n)[i]?=some d:=hd
  rw [rangeD_get hi] at hd
  cases hd
  obtain ⟨y1,y2⟩:=y
  exact ⟨y1,by rw [y2];exact .int _⟩
theorem di_range1 {p pos2:Pos} (hm:X.mg "range"=none) (ha:DE X E a ta) (hgl:Gl X "range":=by rfl) (hst:starEach [a] X.env=[(false,eval a X.env)]:=by rfl):DI X E tg (.Call (.Name "range" p) [a] [] pos2) (iR1 ta):=by
 refine ⟨PI.imp (pi_range1 hgl hm (pa_cons ha.h pa_nil hst) hst) fun σ H R h=>?_⟩
 obtain ⟨O,l,c,hl,hc,p⟩:=h
 refine liftE_bd hl hc p fun x v H1 O1 c1 e1 hl1 hc1 rv p1=>?_
 cases rv with
 | int j=>
  simp only at p1
  by_cases z:-1000000<=j/\j<=1000000
  ·rw [if_pos z] at p1
   exact ⟨j,rfl,by omega,by omega,Post.ret p1 hc1 _ srcR⟩
  ·rw [if_neg z] at p1
   exact p1.elim
 | _=>exact p1.elim
open Classical in
noncomputable def forC (chk:List Cell->Prop) (g:GD) (body:SD):List D->L->M Fl
 | [],l=>fun c=>if chk c then some (.ok (.nx l) c) else none
 | x::xs,l=>fun c=>if chk c then (match g x l with
  | none=>none
  | some l1=>((body l1).bd fun f=>match f with
   | .nx l2=>forC chk g body xs l2
   | .ct l2=>forC chk g body xs l2
   | .bk l2=>M.ret (.nx l2)
   | .ret d=>M.ret (.ret d)) c) else none
noncomputable def sForI (ti:ID) (g:GD) (body:SD):SD:=fun l=>(ti l).bd fun S=>forC S.chk g body S.xs l
theorem ds_forI {iter:Expr} {body:List Stmt} {ti:ID} {g:GD} {sb:SD} (hp:PassesOwn (model X.prog X.w) X.A X.env X.xe) (hcalm:X.calm=true) (hi:DI X E tg iter ti) (hg:DG X tg g) (hb:DSs X E body sb)
  (hs:∀ x,foldedSetIterable iter X.env x=pure x:=by intro _;rfl):DS X E (.For tg iter body [] pos) (sForI ti g sb):=by
 obtain ⟨gt,hg1,hg2⟩:=hg
 refine ⟨PS.imp (ps_for hp hcalm hi.h hg1 hb.h hs) fun Dn σ H h=>?_⟩
 obtain ⟨O,l,c,hl,hc,p⟩:=h
 refine ⟨O,l,c,hl,hc,p.bd.imp fun S H1 O1 c1 e1 hc1 p1 J ok=>?_⟩
 have chk:∀ {i:Nat} {H:Hp} {O:Ow} {l:L} {c:List Cell},Post X.K E H O (FlOk X.K Dn) (forC S.chk g sb (S.xs.drop i) l c)->S.chk c:=fun {i H O l c} p=>by
  cases zz:S.xs.drop i with
  | nil=>
   rw [zz] at p;unfold forC at p
   by_cases q:S.chk c
   ·exact q
   ·rw [if_neg q] at p;exact p.elim
  | cons y ys=>
   rw [zz] at p;unfold forC at p
   by_cases q:S.chk c
   ·exact q
   ·rw [if_neg q] at p;exact p.elim
 refine ⟨fun i m σ H=>m=S.xs.length - i/\i<=S.xs.length/\∃ O l c,Ext H1 O1 H O/\Locs X.K H O l σ/\Cells X.K H O c/\Post X.K E H O (FlOk X.K Dn) (forC S.chk g sb (S.xs.drop i) l c),
  ⟨S.xs.length,by simp,Nat.zero_le _,O1,l,c1,Ext.refl _ _,hl.mono e1,hc1,by simpa using p1⟩,?_⟩
 rintro i m σ2 H2 ⟨rfl,hi,O2,l2,c2,e2,hl2,hc2,p2⟩
 have z2:=chk p2
 by_cases hlt:i < S.xs.length
 ·obtain ⟨d,hd⟩:∃ d,S.xs[i]?=some d:=⟨S.xs[i],by simp [hlt]⟩
  rw [drop_cons hd] at p2
  unfold forC at p2
  rw [if_pos z2] at p2
  refine .inr ⟨ok.go H2 O2 c2 i e2 hc2 z2 hlt,fun σ' H'=>∃ O l c,Ext H1 O1 H' O/\Locs X.K H' O l σ'/\Cells X.K H' O c/\Post X.K E H' O (FlOk X.K Dn) (forC S.chk g sb (S.xs.drop (i+1)) l c),fun σ' H' q=>⟨S.xs.length - (i+1),by omega,rfl,hlt,q⟩,fun x' H' yl=>?_⟩
  obtain ⟨e',rd⟩:=ok.yld H2 O2 c2 i d x' H' e2 hc2 z2 hd yl
  subst e'
  cases z3:g d l2 with
  | none=>rw [z3] at p2;exact p2.elim
  | some l3=>
   rw [z3] at p2
   have p2:=Post.bd p2
   refine hg2 _ O2 x' d l2 σ2 l3 rd hl2 z3 _ fun σ3 hl3=>⟨O2,l3,c2,hl3,hc2,p2.imp fun f H4 O4 c4 e4 hc4 p4=>?_⟩
   cases f with
   | nx l4=>exact fun σ4 q=>⟨O4,l4,c4,e2.trans e4,q,hc4,p4⟩
   | ct l4=>exact fun σ4 q=>⟨O4,l4,c4,e2.trans e4,q,hc4,p4⟩
   | bk l4=>exact Post.ret (E:=E) (P:=FlOk X.K Dn) (x:=Fl.nx l4) p4 hc4
   | ret d=>exact Post.ret (E:=E) (P:=FlOk X.K Dn) (x:=Fl.ret d) p4 hc4
 ·have ei:i=S.xs.length:=by omega
  subst ei
  rw [List.drop_length] at p2
  unfold forC at p2
  rw [if_pos z2] at p2
  exact .inl ⟨ok.stop H2 O2 c2 _ e2 hc2 z2 (Nat.le_refl _),p2 H2 O2 (Ext.refl _ _) hc2 σ2 hl2⟩
def noX {α:Type} (m:M α):M α:=fun c=>match m c with
 | some (.ok x c')=>some (.ok x c')
 | _=>none
theorem noX_ret {α:Type} (x:α):noX (M.ret x)=M.ret x:=rfl
theorem noX_post {α:Type} {K:Frag} {H:Hp} {O:Ow} {P:α->Hp->Ow->List Cell->Prop} {m:M α} {c:List Cell} (h:Post K E H O P (noX m c)):Post K E0 H O P (m c):=by
 unfold noX at h
 cases z:m c with
 | none=>rw [z] at h;exact h
 | some o=>
  cases o with
  | ok x c'=>rw [z] at h;exact h
  | exc x c'=>rw [z] at h;exact h.elim
open Classical in
noncomputable def compC (chk:List Cell->Prop) (g:GD) (p:TD) (te:ED):List D->List D->L->M D
 | [],acc,l=>fun c=>if chk c then some (.ok (.lst acc) c) else none
 | x::xs,acc,l=>fun c=>if chk c/\acc.length < 1000000 then (match g x l with
  | none=>none
  | some l1=>((noX (p l1)).bd fun b=>if b=true then (noX (te l1)).bd fun d=>compC chk g p te xs (acc++[d]) l1 else compC chk g p te xs acc l1) c) else none
def l0 (idx:List Nat) (l:L):L:=none::idx.map fun j=>(l[j]?).getD none
def pTrue:TD:=fun _=>M.ret true
noncomputable def dComp (ti:ID) (idx:List Nat) (g:GD) (p:TD) (te:ED):ED:=fun l=>(ti l).bd fun S=>compC S.chk g p te S.xs [] (l0 idx l)
structure DIf (X:Cx) (E:XK) (ifs:List Expr) (t:TD):Prop where
 h:PIfs X ifs (liftT X.K E t)
theorem dif_nil {X:Cx}:DIf X E0 [] pTrue:=⟨fun pins s σ H Q I h=>by
 obtain ⟨O,l,c,hl,hc,p⟩:=h
 exact pifs_nil pins s σ H Q I (Post.ret p hc)⟩
def sg0 (idx:List Nat) (σ:St):St:=none::idx.map fun j=>(σ[j]?).getD none
theorem locs0 {K:Frag} {H:Hp} {O:Ow} {l:L} {σ:St} (idx:List Nat) (h:Locs K H O l σ):Locs K H O (l0 idx l) (sg0 idx σ):=by
 refine ⟨by simp [l0,sg0],fun i d q=>?_⟩
 cases i with
 | zero=>simp [l0] at q
 | succ i=>
  simp only [l0,List.getElem?_cons_succ,List.getElem?_map] at q
  cases z:idx[i]? with
  | none=>rw [z] at q;cases q
  | some j=>
   rw [z] at q
   simp only [Option.map_some,Option.some.injEq] at q
   cases z2:l[j]? with
   | none=>rw [z2] at q;cases q
   | some o=>
    rw [z2] at q
    simp only [Option.getD_some] at q
    subst q
    obtain ⟨v,h1,h2⟩:=h.at_ j d z2
    exact ⟨v,by simp [sg0,z,h1],h2⟩
def freeIn (N:List Str) (names:List (Str×NameKind)) (idx:List Nat):Bool:=idx.all fun j=>match N[j]? with
 | some y=>decide (names.lookup y=some .free)
 | none=>false
def compN (x:Str) (N:List Str) (idx:List Nat):List Str:=x::idx.map fun j=>N.getD j ""
theorem comp_hN {scope:Scope} {x:Str} {idx:List Nat} (hN:freeIn X.N scope.names idx=true):∀ σ:St,σ.length=X.N.length->(sg0 idx σ).length=(compN x X.N idx).length/\∀ (i:Nat) (y:Str) (v:V),(compN x X.N idx)[i]?=some y->(sg0 idx σ)[i]?=some (some v)->scope.names.lookup y=some .free/\∃ j:Nat,X.N[j]?=some y/\σ[j]?=some (some v):=by
 have hN2:∀ j∈idx,∃ y,X.N[j]?=some y/\scope.names.lookup y=some .free:=fun j hj=>by
  have q:=List.all_eq_true.mp hN j hj
  cases z:X.N[j]? with
  | none=>rw [z] at q;cases q
  | some y=>rw [z] at q;exact ⟨y,rfl,by simpa using q⟩
 refine fun σ hl=>⟨by simp [sg0,compN],fun i y v h1 h2=>?_⟩
 cases i with
 | zero=>simp [sg0] at h2
 | succ i=>
  simp only [sg0,compN,List.getElem?_cons_succ,List.getElem?_map] at h1 h2
  cases z:idx[i]? with
  | none=>rw [z] at h1;cases h1
  | some j=>
   rw [z] at h1 h2
   obtain ⟨y',hy,hf⟩:=hN2 j (List.mem_of_getElem? z)
   simp only [Option.map_some,Option.some.injEq] at h1 h2
   rw [List.getD_eq_getElem?_getD,hy] at h1
   simp only [Option.getD_some] at h1
   subst h1
   refine ⟨hf,j,hy,?_⟩
   cases z2:σ[j]? with
   | none=>rw [z2] at h2;cases h2
   | some o=>rw [z2] at h2;simp only [Option.getD_some] at h2;rw [h2]
theorem comp_gt {scope:Scope} {x:Str} {px:Pos} {idx:List Nat} {g:GD} (hg:∀ C s H fp pins,DG (cxComp X scope C (compN x X.N idx) s H fp pins) (.Name x px) g):
  ∃ gt:TG,(∀ C s H fp pins,PG (cxComp X scope C (compN x X.N idx) s H fp pins) (.Name x px) gt)/\∀ H O v d l σ l',Rep X.K H O v d->Locs X.K H O l σ->g d l=some l'->∀ Q:St->Hp->Prop,(∀ σ',Locs X.K H O l' σ'->Q σ' H)->gt v σ H Q:=by
 refine ⟨fun v σ H Q=>∃ O d l l',Rep X.K H O v d/\Locs X.K H O l σ/\g d l=some l'/\∀ σ',Locs X.K H O l' σ'->Q σ' H,fun C s H fp pins=>?_,fun H O v d l σ l' r hl e Q k=>⟨O,d,l,l',r,hl,e,k⟩⟩
 obtain ⟨gt,h1,h2⟩:=hg C s H fp pins
 intro pins' s' σ' H' v u Q I r ⟨O,d,l,l',a1,a2,a3,a4⟩
 exact h1 pins' s' σ' H' v u Q I r (h2 H' O v d l σ' l' a1 a2 a3 Q a4)
theorem comp_lift {idx:List Nat} {ti:ID} {g:GD} {gt:TG} {p:TD} {te:ED} {σ:St} {H:Hp} {Q:VK} (hg2:∀ H O v d l σ l',Rep X.K H O v d->Locs X.K H O l σ->g d l=some l'->∀ Q:St->Hp->Prop,(∀ σ',Locs X.K H O l' σ'->Q σ' H)->gt v σ H Q) (h:liftE X.K E (dComp ti idx g p te) σ H Q):tComp (liftI X.K E ti) (sg0 idx) gt (liftT X.K E0 p) (liftE X.K E0 te) σ H Q:=by
 obtain ⟨O,l,c,hl,hc,pp⟩:=h
 refine ⟨O,l,c,hl,hc,pp.bd.imp fun S H1 O1 c1 e1 hc1 p1 J ok=>?_⟩
 have chk:∀ {i:Nat} {H:Hp} {O:Ow} {l:L} {c:List Cell} {acc:List D},PostD X.K E H O Q (compC S.chk g p te (S.xs.drop i) acc l c)->S.chk c:=fun {i H O l c acc} pq=>by
  cases zz:S.xs.drop i with
  | nil=>
   rw [zz] at pq;unfold compC at pq
   by_cases q:S.chk c
   ·exact q
   ·rw [if_neg q] at pq;exact pq.elim
  | cons y ys=>
   rw [zz] at pq;unfold compC at pq
   by_cases q:S.chk c
   ·exact q
   ·rw [if_neg (fun z=>q z.1)] at pq;exact pq.elim
 refine ⟨fun i m vs σ' H'=>m=S.xs.length - i/\i<=S.xs.length/\∃ O l c acc,Ext H1 O1 H' O/\Locs X.K H' O l σ'/\Cells X.K H' O c/\Reps X.K H' O vs acc/\PostD X.K E H' O Q (compC S.chk g p te (S.xs.drop i) acc l c),
  ⟨S.xs.length,by simp,Nat.zero_le _,O1,l0 idx l,c1,[],Ext.refl _ _,locs0 idx (hl.mono e1),hc1,.nil,by simpa using p1⟩,?_⟩
 rintro i m vs σ2 H2 ⟨rfl,hi',O2,l2,c2,acc,e2,hl2,hc2,r2,p2⟩
 have z2:=chk p2
 by_cases hlt:i < S.xs.length
 ·obtain ⟨d,hd⟩:∃ d,S.xs[i]?=some d:=⟨S.xs[i],by simp [hlt]⟩
  rw [drop_cons hd] at p2
  unfold compC at p2
  by_cases z4:S.chk c2/\acc.length < 1000000
  ·rw [if_pos z4] at p2
   refine .inr ⟨ok.go H2 O2 c2 i e2 hc2 z2 hlt,by rw [r2.length];exact Nat.lt_of_lt_of_le z4.2 sl_1e6,fun x' H' yl=>?_⟩
   obtain ⟨e',rd⟩:=ok.yld H2 O2 c2 i d x' H' e2 hc2 z2 hd yl
   subst e'
   cases z3:g d l2 with
   | none=>rw [z3] at p2;exact p2.elim
   | some l3=>
    rw [z3] at p2
    refine hg2 _ O2 x' d l2 σ2 l3 rd hl2 z3 _ fun σ3 hl3=>⟨O2,l3,c2,hl3,hc2,(noX_post (Post.bd p2)).imp fun b H4 O4 c4 e4 hc4 p4=>?_⟩
    cases b with
    | false=>exact ⟨S.xs.length - (i+1),by omega,rfl,hlt,O4,l3,c4,acc,e2.trans e4,hl3.mono e4,hc4,r2.mono e4,p4⟩
    | true=>
     rw [if_pos rfl] at p4 ⊢
     exact ⟨O4,l3,c4,hl3.mono e4,hc4,(noX_post (Post.bd p4)).imp fun d5 H5 O5 c5 e5 hc5 p5 v5 rv5=>⟨S.xs.length - (i+1),by omega,rfl,hlt,O5,l3,c5,acc++[d5],(e2.trans e4).trans e5,(hl3.mono e4).mono e5,hc5,((r2.mono e4).mono e5).append (.cons rv5 .nil),p5⟩⟩
  ·rw [if_neg z4] at p2;exact p2.elim
 ·have ei:i=S.xs.length:=by omega
  subst ei
  rw [List.drop_length] at p2
  unfold compC at p2
  rw [if_pos z2] at p2
  exact .inl ⟨ok.stop H2 O2 c2 _ e2 hc2 z2 (Nat.le_refl _),fun q n=>PostD.new p2 hc2 n (hc2.lstNew n r2)⟩
theorem de_comp {scope:Scope} {elt iter:Expr} {x:Str} {px:Pos} {ifs:List Expr} {ti:ID} {g:GD} {p:TD} {te:ED} (idx:List Nat) (S:CompScope X scope) (hcalm:X.calm=true) (hi:DI X E (.Name x px) iter ti)
  (hN:freeIn X.N scope.names idx=true)
  (hg:∀ C s H fp pins,DG (cxComp X scope C (compN x X.N idx) s H fp pins) (.Name x px) g) (ht:∀ C s H fp pins,DIf (cxComp X scope C (compN x X.N idx) s H fp pins) E0 ifs p)
  (he:∀ C s H fp pins,DE (cxComp X scope C (compN x X.N idx) s H fp pins) E0 elt te)
  (hs:∀ v,foldedSetIterable iter X.env v=pure v:=by intro _;rfl):DE X E (.ListComp elt [⟨.Name x px,iter,ifs,0⟩] scope pos) (dComp ti idx g p te):=by
 obtain ⟨gt,hg1,hg2⟩:=comp_gt hg
 exact ⟨PE.imp (pe_comp (N':=compN x X.N idx) (σ0:=sg0 idx) (tt:=liftT X.K E0 p) (te:=liftE X.K E0 te) S hcalm hi.h (comp_hN hN) hg1 (fun C s H fp pins=>(ht C s H fp pins).h) (fun C s H fp pins=>(he C s H fp pins).h) hs) fun σ H Q h=>comp_lift hg2 h⟩
theorem ds_setComp {scope:Scope} {elt iter:Expr} {x y:Str} {px py spos:Pos} {ifs:List Expr} {ti:ID} {g:GD} {p:TD} {te:ED} {i:Nat} (idx:List Nat) (hNd:X.N.Nodup) (S:CompScope X scope) (hcalm:X.calm=true) (hi:DI X E (.Name x px) iter ti)
  (hN:freeIn X.N scope.names idx=true)
  (hg:∀ C s H fp pins,DG (cxComp X scope C (compN x X.N idx) s H fp pins) (.Name x px) g) (ht:∀ C s H fp pins,DIf (cxComp X scope C (compN x X.N idx) s H fp pins) E0 ifs p)
  (he:∀ C s H fp pins,DE (cxComp X scope C (compN x X.N idx) s H fp pins) E0 elt te)
  (hs:∀ v,foldedSetIterable iter X.env v=pure v) (hy:X.N[i]?=some y:=by rfl) (hyl:X.env.scope.names.lookup y=some .local:=by rfl) (hsw:swapsWith (.ListComp elt [⟨.Name x px,iter,ifs,0⟩] scope pos) (some (.Name y py)) spos.line X.env=pure true:=by rfl):
  DS X E (.Assign [.Name y py] (.ListComp elt [⟨.Name x px,iter,ifs,0⟩] scope pos) spos) (sSet i (dComp ti idx g p te)):=by
 obtain ⟨gt,hg1,hg2⟩:=comp_gt hg
 refine ⟨PS.imp (ps_setComp (N':=compN x X.N idx) (σ0:=sg0 idx) (tt:=liftT X.K E0 p) (te:=liftE X.K E0 te) hNd hy hyl hsw S hcalm hi.h (comp_hN hN) hg1 (fun C s H fp pins=>(ht C s H fp pins).h) (fun C s H fp pins=>(he C s H fp pins).h) hs) fun Dn σ H h=>comp_lift hg2 ?_⟩
 obtain ⟨O,l,c,hl,hc,pp⟩:=h
 exact liftE_bd hl hc pp fun d v H1 O1 c1 e1 hl1 hc1 rv p1=>Post.ret p1 hc1 _ (hl1.set i rv)
end
open PyProof.Rows hiding St
section
variable {X:Cx} {E:XK} {a b c e:Expr} {ta tb tc:ED} {pos:Pos}
theorem vals_bl {bs:List Bool}:∀ {us:List Value},Vals (bs.map V.bl) us->us=bs.map Value.bool:=by
 induction bs with
 | nil=>intro us r;cases r;rfl
 | cons b bs ih=>intro us r;rw [List.map_cons] at r;cases r with | cons h t=>rw [ih t];cases h;rfl
theorem call_allB (hc:X.calm=true):CallR X (.builtin "all") (fun vs H Q=>∃ (a:Addr) (bs:List Bool),vs=[.ref a]/\H a=some (.lst (bs.map V.bl))/\Q (.bl (bs.all id)) H):=by
 intro pins s σ H xs us Q I r h
 obtain ⟨a,bs,rfl,ha,q⟩:=h
 obtain ⟨u,rfl,rx⟩:=vals1 r
 cases rx
 obtain ⟨its,rv,pl,hz⟩:=I.list (SqL.of ha)
 obtain rfl:=vals_bl rv
 refine call_all_walk (wpAny_pyIter_list pl.isList ?_)
 have hne:a≠s.heap.objs.size:=Nat.ne_of_lt (I.hok.lt ha)
 refine ⟨s.heap.objs.size,_,_,_,_,_,fun i=>bs.getD i true,rfl,Walks.list (A:=X.A.in1) (I.ok.hd hc) s.heap.objs.size a hne (bs.map Value.bool).toArray,⟨⟨_,Heap.get?_push_size _ rfl,rfl,rfl⟩,?_⟩,?_,fun h' tk kp=>?_⟩
 ·obtain ⟨o,e,r⟩:=pl.isList
  exact ⟨o,Heap.get?_push_of_some _ e,r⟩
 ·intro i v s' Q' E' hP hQ
  have hP:(bs.map Value.bool).toArray[i]?=some v:=hP
  rw [List.getElem?_toArray,List.getElem?_map] at hP
  cases z:bs[i]? with
  | none=>rw [z] at hP;cases hP
  | some b=>
   rw [z] at hP
   cases hP
   simp only [List.getD_eq_getElem?_getD,z] at hQ
   exact wpAny_truthy_bool hQ
 ·have e:(List.range (bs.map Value.bool).toArray.size).all (fun i=>bs.getD i true)=bs.all id:=by
   rw [List.size_toArray,List.length_map]
   clear kp ha rv pl hz r q hne
   induction bs with
   | nil=>rfl
   | cons b bs ih=>
    rw [List.length_cons,List.range_succ_eq_map,List.all_cons,List.all_map,List.all_cons,← ih]
    rfl
  rw [e]
  refine ⟨.bl _,H,I.kept (t':=tk) (fun b o e=>?_),rfl,q⟩
  refine kp b o (fun m=>?_) (Heap.get?_push_of_some _ e)
  have:=List.mem_singleton.mp m
  exact absurd (Heap.lt_size e) (by rw [this];exact Nat.lt_irrefl _)
def blsOf:List D->Option (List Bool)
 | []=>some []
 | .bl b::r=>(blsOf r).map (b::·)
 | _=>none
theorem reps_bl {K:Frag} {H:Hp} {O:Ow}:∀ {vs:List V} {xs:List D} {bs:List Bool},Reps K H O vs xs->blsOf xs=some bs->vs=bs.map V.bl
 | _,_,_,.nil,h=>by cases h;rfl
 | _,_,_,.cons (.bl b) t,h=>by
  simp only [blsOf] at h
  obtain ⟨bs,h1,h2⟩:=Option.map_eq_some_iff.mp h
  subst h2
  rw [reps_bl t h1];rfl
 | _,_,_,.cons .non t,h=>by cases h
 | _,_,_,.cons (.int _) t,h=>by cases h
 | _,_,_,.cons (.str _) t,h=>by cases h
 | _,_,_,.cons (.tup _ _ _) t,h=>by cases h
 | _,_,_,.cons (.lst _ _ _) t,h=>by cases h
 | _,_,_,.cons (.hnd _) t,h=>by cases h
 | _,_,_,.cons (.scr _) t,h=>by cases h
def allM:D->M D
 | .lst xs=>match blsOf xs with
  | some bs=>M.ret (.bl (bs.all id))
  | none=>M.stuck
 | _=>M.stuck
theorem de_all {p2:Pos} (hc:X.calm=true) (hm:X.mg "all"=none) (ha:DE X E a ta) (hg:Gl X "all":=by rfl) (hst:starEach [a] X.env=[(false,eval a X.env)]:=by rfl):DE X E (.Call (.Name "all" p2) [a] [] pos) (d1 allM ta):=
 de_b1 (call_allB hc) (fun H O c d v Q hc r p=>by cases r with
  | @lst a vs xs h n r=>
   simp only [allM] at p
   cases z:blsOf xs with
   | none=>rw [z] at p;exact p.elim
   | some bs=>
    rw [z] at p
    have e:=reps_bl r z
    subst e
    exact ⟨a,bs,rfl,h,Post.ret p hc _ (.bl _)⟩
  | _=>exact p.elim) hm ha (hg:=hg) (hst:=hst)
theorem blsOf_map {α:Type} (f:α->Bool) (xs:List α):blsOf (xs.map fun x=>D.bl (f x))=some (xs.map f):=by
 induction xs with
 | nil=>rfl
 | cons x xs ih=>simp [blsOf,ih]
end
open PyProof.Rows hiding St
theorem walkD {l:PySem.W.OpenLaw} {q:Program} {loose:List Str} {XP:(Str->Option Value)->Heap->Prop} {YP:World->Heap->Prop} {d:DefRec} {K:Params->Frag} {x:Str} {k:Nat} {g:FD} (hn:l.most=some 63) (hdf:d.params.defaults=[]) (hr:Room k callerA)
  (hY:∀ (w:World) (h:Heap),YP w h->(K w.params).In h)
  (F:∀ (w:World) (mg:Str->Option Value) (fa:Addr) (h:Heap),(K w.params).In h->h.Ns mainGlobals mg->mg d.name=some (.ref fa)->
   ∃ fd:FuncData,(∀ (s:Shared) (u:Value),BindsTo s fd ⟨[u],[]⟩ [(x,u)])/\∀ base:Heap,(K w.params).In base->base.Ns mainGlobals mg->FnOk l.prog w (K w.params) mg base CX0 k fa fd [x] (spD (K w.params) 1 g))
  (ht:∀ ns:List Int,ns.length<=63->∃ c,g [.scr ns] []=some (.ok (.bl true) c)):
  PySem.W.WalkO q loose XP YP l.row.toRowW d [] (fun f vs=>PySem.call f vs):=by
 refine L2.walk_of (n:=63) (k:=k) (x:=x) (CX:=fun _=>CX0) (sp:=fun w=>spD (K w.params) 1 g) hn (by decide) hdf hr hY F (fun w H a ns hl hO hS=>?_) fun _ _ _ _ _ z=>z
 obtain ⟨c,e⟩:=ht ns hl
 refine ⟨rfl,[],[.scr ns],[],.cons (.scr ?_) .nil,⟨rfl,fun k x h=>by simp at h,fun i j a h=>by simp at h⟩,?_⟩
 ·rcases hS with (h | ⟨o,h⟩) | h
  ·rcases hO a with z | ⟨ob,xs,z⟩
   ·rw [z] at h;cases h
   ·rw [z] at h;cases h
  ·exact .inl ⟨o,h,by simp⟩
  ·exact .inr h
 ·rw [e]
  intro H' O' _ _ v r
  cases r;rfl
def gV (f:List D->List Cell->Option D):FD:=fun ds c=>match f ds c with
 | some d=>some (.ok d c)
 | none=>none
theorem run_pure {f:List D->List Cell->Option D} {tb:SD} {N:List Str} {n:Nat} (h:∀ ds c d,ds.length=n->f ds c=some d->(∃ ex,tb (startD N ds) c=some (.ok (.ret d) (c++ex)))/\D.bel c.length d=true):
  ∀ ds c r,ds.length=n->gV f ds c=some r->∃ d c1,r=.ok d c1/\Fin c (tb (startD N ds) c) (some (.ok d c1)):=by
 intro ds c r hl e
 unfold gV at e
 cases z:f ds c with
 | none=>rw [z] at e;cases e
 | some d=>
  rw [z] at e
  cases e
  obtain ⟨⟨ex,e2⟩,hb⟩:=h ds c d hl z
  refine ⟨d,c,rfl,?_⟩
  rw [e2]
  have:=Fin.val (c:=c) (c':=c++ex) hb (Kept.app c ex)
  simpa using this
theorem gN_gV {n:Nat} {f:List D->List Cell->Option D} {ds:List D} {c:List Cell} {d:D} (hl:ds.length=n) (h:f ds c=some d):gN n (gV f) ds c=some (.ok d c):=by
 unfold gN gV
 rw [if_pos hl,h]
theorem bd_ok {α β:Type} {m:M α} {f:α->M β} {c c':List Cell} {x:α} (h:m c=some (.ok x c')):m.bd f c=f x c':=by unfold M.bd;rw [h]
theorem bd_exc {α β:Type} {m:M α} {f:α->M β} {c c':List Cell} {x:Exc} (h:m c=some (.exc x c')):m.bd f c=some (.exc x c'):=by unfold M.bd;rw [h]
theorem comp_map {te:ED} {rest:L} {f:D->D}:∀ (xs acc:List D) (o:Option D) (c:List Cell),(∀ x∈xs,te (some x::rest) c=some (.ok (f x) c))->acc.length+xs.length<=1000000->
  compC (fun _=>True) (gdName 0) pTrue te xs acc (o::rest) c=some (.ok (.lst (acc++xs.map f)) c)
 | [],acc,o,c,_,_=>by simp [compC]
 | x::xs,acc,o,c,h,hl=>by
  have ih:=comp_map xs (acc++[f x]) (some x) c (fun y hy=>h y (List.mem_cons_of_mem _ hy)) (by simp at hl ⊢;omega)
  simp only [compC,gdName,List.set_cons_zero,pTrue,noX_ret,ret_bd,if_true]
  rw [if_pos ⟨trivial,by simp at hl;omega⟩]
  unfold M.bd noX
  rw [h x List.mem_cons_self]
  simp only
  rw [ih]
  simp
end DL
namespace DL
open PySem PySem.Spec L2
theorem fs_Tuple {es k p env} (x:Value):foldedSetIterable (.Tuple es k p) env x=pure x:=rfl
theorem fs_Name {n p env} (x:Value):foldedSetIterable (.Name n p) env x=pure x:=rfl
theorem fs_Call {f a k p env} (x:Value):foldedSetIterable (.Call f a k p) env x=pure x:=rfl
open PyProof.Rows hiding St
theorem Cells.setC {K:Frag} {H:Hp} {O:Ow} {c:List Cell} {k:Nat} {a:Addr} {o:HO} {x:Cell} (hc:Cells K H O c) (hO:O[k]?=some (some a)) (hx:Ext H O (upd H a o) O->CellAt K (upd H a o) O k x):
  Ext H O (upd H a o) O/\Cells K (upd H a o) O (c.set k x):=by
 have e:Ext H O (L2.upd H a o) O:=⟨fun b u h n=>by rw [upd_ne (fun z=>n (by rw [z];exact List.mem_of_getElem? hO))];exact h,fun _ _ h=>h,fun _ h=>.inl h⟩
 refine ⟨e,by rw [List.length_set];exact hc.len,fun j y q=>?_,hc.inj⟩
 rw [List.getElem?_set] at q
 by_cases hj:k=j
 ·rw [if_pos hj] at q
  split at q
  ·cases q
   rw [← hj]
   exact hx e
  ·cases q
 ·rw [if_neg hj] at q
  have z:=hc.at_ j y q
  have ne:∀ b,O[j]?=some (some b)->b≠a:=fun b hb w=>hj (hc.inj k j a hO (by rw [hb,w]))
  cases y with
  | dead=>exact z
  | lst xs=>obtain ⟨b,vs,q1,q2,q3⟩:=z;exact ⟨b,vs,q1,by rw [upd_ne (ne b q1)];exact q2,q3.mono e⟩
  | dct kvs=>obtain ⟨b,vs,q1,q2,q3,q4⟩:=z;exact ⟨b,vs,q1,by rw [upd_ne (ne b q1)];exact q2,⟨q3.1,q3.2.mono e⟩,q4⟩
  | ins C fs=>obtain ⟨b,dx,vs,q1,q2,q3⟩:=z;exact ⟨b,dx,vs,q1,by rw [upd_ne (ne b q1)];exact q2,q3.1,q3.2.mono e⟩
  | exn cls fs=>obtain ⟨b,dx,q1,q2,q3⟩:=z;exact ⟨b,dx,q1,by rw [upd_ne (ne b q1)];exact q2,q3.mono e⟩
theorem Cells.setL {K:Frag} {H:Hp} {O:Ow} {c:List Cell} {k:Nat} {a:Addr} {vs:List V} {ys:List D} (hc:Cells K H O c) (hO:O[k]?=some (some a)) (r:Reps K H O vs ys):
  Ext H O (upd H a (.lst vs)) O/\Cells K (upd H a (.lst vs)) O (c.set k (.lst ys)):=hc.setC hO fun e=>⟨a,vs,hO,upd_same,r.mono e⟩
section
variable {X:Cx} {E:XK} {a b c e o:Expr} {ta tb tc to:ED} {pos apos cpos:Pos} {es:List Expr} {t:AD}
def mM (ty:Ty) (f:D->List D->M D) (to:ED) (t:AD):ED:=fun l=>(to l).bd fun o c=>if tyM o c=some ty then ((t l).bd fun xs=>f o xs) c else none
theorem ty_tyV {H:Hp} {O:Ow} {c:List Cell} {v:V} {d:D} {s:Ty} (hc:Cells X.K H O c) (r:Rep X.K H O v d) (h:tyM d c=some s) (hs:s=.lst\/s=.dct\/s=.str):tyV X.K s.nm v H:=by
 cases r with
 | str b=>cases h;rfl
 | lst h1 _ _=>cases h;exact .inl ⟨rfl,_,SqL.of h1⟩
 | @hnd a k hk=>
  simp only [tyM] at h
  cases z:c[k]? with
  | none=>rw [z] at h;cases h
  | some x=>
   rw [z] at h
   cases x with
   | lst xs=>
    cases h
    obtain ⟨a',vs,q1,q2,q3⟩:=hc.at_ k _ z
    rw [hk] at q1;cases q1
    exact .inl ⟨rfl,_,SqL.of q2⟩
   | dct xs=>
    cases h
    obtain ⟨a',vs,q1,q2,q3⟩:=hc.at_ k _ z
    rw [hk] at q1;cases q1
    exact .inr (.inr (.inl ⟨rfl,.inl ⟨_,q2⟩⟩))
   | _=>cases h
 | non=>cases h;rcases hs with h | h | h <;> cases h
 | bl _=>cases h;rcases hs with h | h | h <;> cases h
 | int _=>cases h;rcases hs with h | h | h <;> cases h
 | tup _ _ _=>cases h;rcases hs with h | h | h <;> cases h
 | scr _=>cases h
def MtD (X:Cx) (E:XK) (r:V->List V->Hp->VK->Prop) (f:D->List D->M D):Prop:=∀ H O c o xs v vs Q,Cells X.K H O c->Rep X.K H O v o->Reps X.K H O vs xs->PostD X.K E H O Q (f o xs c)->r v vs H Q
theorem de_mt (ty:Ty) (hty:ty=.lst\/ty=.dct\/ty=.str) {name:Str} {id:String} {r:V->List V->Hp->VK->Prop} {f:D->List D->M D} (pa:PlainAttrs ty.nm) (slot:Slot ty.nm name id) (htp:typeOf (.builtin id)=pure (.type "method_descriptor")) (hm:MtR X id r) (hf:MtD X E r f) (ho:DE X E o to) (ha:DA X E (e::es) t)
  (hbase:attributeBase o name X.env (eval o X.env)=eval o X.env:=by rfl)
  (hfew:((backTo cpos (starEach (e::es) X.env)).all (fun x=>!x.1) && (backToKw cpos (keywordEach [] X.env)).all (fun x=>x.1.isSome) && decide ((e::es).length+([]:List Keyword).length+(if ([]:List Keyword).isEmpty then 0 else 1) < 30))=true:=by rfl)
  (hline:(apos.endLine == cpos.line)=true:=by rfl) (hs:starEach (e::es) X.env=(false,eval e X.env)::starEach es X.env:=by rfl) (hplain:(backTo cpos (starEach es X.env)).any (·.1)=false:=by rfl):
  DE X E (.Call (.Attribute o name apos) (e::es) [] cpos) (mM ty f to t):=by
 refine ⟨PE.imp (pe_bm pa slot htp hm ho.h ha.h hbase hfew hline hs hplain) fun σ H Q h=>?_⟩
 obtain ⟨O,l,c,hl,hc,p⟩:=h
 refine liftE_bd hl hc p fun x v H1 O1 c1 e1 hl1 hc1 rv p1=>?_
 have p1:PostD X.K E H1 O1 Q (if tyM x c1=some ty then ((t l).bd fun xs=>f x xs) c1 else none):=p1
 by_cases z:tyM x c1=some ty
 ·rw [if_pos z] at p1
  refine ⟨ty_tyV hc1 rv z hty,liftA_bd hl1 hc1 p1 fun xs vs H2 O2 c2 e2 hl2 hc2 rvs p2=>?_⟩
  exact hf H2 O2 c2 x xs v vs Q hc2 (rv.mono e2) rvs p2
 ·rw [if_neg z] at p1;exact p1.elim
theorem de_mt0 (ty:Ty) (hty:ty=.lst\/ty=.dct\/ty=.str) {name:Str} {id:String} {r:V->List V->Hp->VK->Prop} {f:D->List D->M D} (pa:PlainAttrs ty.nm) (slot:Slot ty.nm name id) (htp:typeOf (.builtin id)=pure (.type "method_descriptor")) (hm:MtR X id r) (hf:MtD X E r f) (ho:DE X E o to)
  (hbase:attributeBase o name X.env (eval o X.env)=eval o X.env:=by rfl) (hline:(apos.endLine == cpos.line)=true:=by rfl):DE X E (.Call (.Attribute o name apos) [] [] cpos) (mM ty f to aNil):=by
 refine ⟨PE.imp (pe_bm0 pa slot htp hm ho.h hbase hline) fun σ H Q h=>?_⟩
 obtain ⟨O,l,c,hl,hc,p⟩:=h
 refine liftE_bd hl hc p fun x v H1 O1 c1 e1 hl1 hc1 rv p1=>?_
 have p1:PostD X.K E H1 O1 Q (if tyM x c1=some ty then f x [] c1 else none):=p1
 by_cases z:tyM x c1=some ty
 ·rw [if_pos z] at p1
  exact ⟨ty_tyV hc1 rv z hty,hf H1 O1 c1 x [] v [] Q hc1 rv .nil p1⟩
 ·rw [if_neg z] at p1;exact p1.elim
def cellL (o:D) (c:List Cell):Option (Nat×List D):=match o with
 | .hnd k=>match c[k]? with
  | some (.lst ys)=>some (k,ys)
  | _=>none
 | _=>none
theorem cellL_ok {H:Hp} {O:Ow} {c:List Cell} {v:V} {d:D} {k:Nat} {ys:List D} (hc:Cells X.K H O c) (r:Rep X.K H O v d) (h:cellL d c=some (k,ys)):∃ a vs,v=.ref a/\O[k]?=some (some a)/\H a=some (.lst vs)/\Reps X.K H O vs ys/\c[k]?=some (.lst ys):=by
 cases r with
 | @hnd a j hj=>
  simp only [cellL] at h
  cases z:c[j]? with
  | none=>rw [z] at h;cases h
  | some x=>
   rw [z] at h
   cases x with
   | lst xs=>
    simp only [Option.some.injEq,Prod.mk.injEq] at h
    obtain ⟨rfl,rfl⟩:=h
    obtain ⟨a',vs,q1,q2,q3⟩:=hc.at_ _ _ z
    rw [hj] at q1;cases q1
    exact ⟨a,vs,rfl,hj,q2,q3,z⟩
   | _=>cases h
 | _=>cases h
def appendM (o:D) (xs:List D):M D:=fun c=>match cellL o c,xs with
 | some (k,ys),[x]=>if ys.length < 1000000 then some (.ok .non (c.set k (.lst (ys++[x])))) else none
 | _,_=>none
theorem mt_appendD:MtD X E rAppend appendM:=by
 intro H O c o xs v vs Q hc ro rx p
 unfold appendM at p
 cases z:cellL o c with
 | none=>rw [z] at p;exact p.elim
 | some q=>
  obtain ⟨k,ys⟩:=q
  rw [z] at p
  obtain ⟨a,us,e1,hO,ha,ru,hk⟩:=cellL_ok hc ro z
  cases rx with
  | nil=>exact p.elim
  | cons r1 r2=>
   cases r2 with
   | cons _ _=>exact p.elim
   | @nil=>
    rename_i v1 d1
    have p:PostD X.K E H O Q (if ys.length < 1000000 then some (.ok .non (c.set k (.lst (ys++[d1])))) else none):=p
    by_cases hz:ys.length < 1000000
    ·rw [if_pos hz] at p
     obtain ⟨ex,cx⟩:=hc.setL hO (ru.append (.cons r1 .nil))
     exact ⟨a,us,v1,e1,rfl,ha,by rw [ru.length];exact Nat.lt_of_lt_of_le hz sl_1e6,p _ O ex cx _ .non⟩
    ·rw [if_neg hz] at p;exact p.elim
theorem de_append (ho:DE X E o to) (ha:DE X E e te) (hbase:attributeBase o "append" X.env (eval o X.env)=eval o X.env:=by rfl)
  (hfew:((backTo cpos (starEach [e] X.env)).all (fun x=>!x.1) && (backToKw cpos (keywordEach [] X.env)).all (fun x=>x.1.isSome) && decide ([e].length+([]:List Keyword).length+(if ([]:List Keyword).isEmpty then 0 else 1) < 30))=true:=by rfl)
  (hline:(apos.endLine == cpos.line)=true:=by rfl) (hs:starEach [e] X.env=[(false,eval e X.env)]:=by rfl):DE X E (.Call (.Attribute o "append" apos) [e] [] cpos) (mM .lst appendM to (aCons te aNil)):=
 de_mt .lst (.inl rfl) PySem.F.plainAttrs_list PySem.F.slot_list_append PySem.F.type_list_append mt_append mt_appendD ho (da_cons ha da_nil hs) hbase hfew hline hs rfl
def clearM (o:D) (xs:List D):M D:=fun c=>match cellL o c,xs with
 | some (k,_),[]=>some (.ok .non (c.set k (.lst [])))
 | _,_=>none
theorem mt_clearD:MtD X E rClear clearM:=by
 intro H O c o xs v vs Q hc ro rx p
 unfold clearM at p
 cases z:cellL o c with
 | none=>rw [z] at p;exact p.elim
 | some q=>
  obtain ⟨k,ys⟩:=q
  rw [z] at p
  obtain ⟨a,us,e1,hO,ha,ru,hk⟩:=cellL_ok hc ro z
  cases rx with
  | cons r1 r2=>exact p.elim
  | nil=>
   obtain ⟨ex,cx⟩:=hc.setL hO .nil
   exact ⟨a,us,e1,rfl,ha,p _ O ex cx _ .non⟩
theorem de_clear (ho:DE X E o to) (hbase:attributeBase o "clear" X.env (eval o X.env)=eval o X.env:=by rfl) (hline:(apos.endLine == cpos.line)=true:=by rfl):DE X E (.Call (.Attribute o "clear" apos) [] [] cpos) (mM .lst clearM to aNil):=
 de_mt0 .lst (.inl rfl) PySem.F.plainAttrs_list PySem.F.slot_list_clear PySem.F.type_list_clear mt_clear mt_clearD ho hbase hline
def intsOf:List D->Option (List Int)
 | []=>some []
 | .int b::r=>(intsOf r).map (b::·)
 | _=>none
theorem reps_ints {K:Frag} {H:Hp} {O:Ow}:∀ {vs:List V} {xs:List D} {bs:List Int},Reps K H O vs xs->intsOf xs=some bs->vs=bs.map V.int
 | _,_,_,.nil,h=>by cases h;rfl
 | _,_,_,.cons (.int b) t,h=>by
  simp only [intsOf] at h
  obtain ⟨bs,h1,h2⟩:=Option.map_eq_some_iff.mp h
  subst h2
  rw [reps_ints t h1];rfl
 | _,_,_,.cons .non t,h=>by cases h
 | _,_,_,.cons (.bl _) t,h=>by cases h
 | _,_,_,.cons (.str _) t,h=>by cases h
 | _,_,_,.cons (.tup _ _ _) t,h=>by cases h
 | _,_,_,.cons (.lst _ _ _) t,h=>by cases h
 | _,_,_,.cons (.hnd _) t,h=>by cases h
 | _,_,_,.cons (.scr _) t,h=>by cases h
theorem intsOf_map {α:Type} (f:α->Int) (xs:List α):intsOf (xs.map fun x=>D.int (f x))=some (xs.map f):=by
 induction xs with
 | nil=>rfl
 | cons x xs ih=>simp [intsOf,ih]
theorem preSum_take:∀ (ns:List Int) (n:Nat),n<=ns.length->preSum (fun i=>ns.getD i 0) n=(ns.take n).sum:=by
 intro ns n
 induction n with
 | zero=>intro _;simp [preSum]
 | succ n ih=>
  intro h
  have e:ns.take (n+1)=ns.take n++[ns.getD n 0]:=by
   rw [List.take_succ_eq_append_getElem (by omega)]
   congr 2
   simp [List.getD_eq_getElem?_getD,List.getElem?_eq_getElem (show n < ns.length by omega)]
  rw [e,List.sum_append,← ih (by omega)]
  simp [preSum]
theorem call_sumI (hc:X.calm=true):CallR X (.builtin "sum") (fun vs H Q=>∃ (a:Addr) (ns:List Int),vs=[.ref a]/\SqL X.K H a (ns.map V.int)/\Q (.int ns.sum) H):=by
 intro pins s σ H xs us Q I r h
 obtain ⟨a,ns,rfl,ha,q⟩:=h
 obtain ⟨u,rfl,rx⟩:=vals1 r
 cases rx
 obtain ⟨its,rv,pl,hz⟩:=I.list ha
 have hlen:=rv.length
 rw [List.length_map] at hlen
 refine call_sum_walkG (wpAny_pyIter_list pl.isList ?_)
 have hne:a≠s.heap.objs.size:=by
  obtain ⟨o,e,_⟩:=pl.isList
  exact Nat.ne_of_lt (Heap.lt_size e)
 refine ⟨s.heap.objs.size,_,_,_,_,_,fun i=>ns.getD i 0,rfl,Walks.list (A:=X.A.in1) (I.ok.hd hc) s.heap.objs.size a hne its.toArray,⟨⟨_,Heap.get?_push_size _ rfl,rfl,rfl⟩,?_⟩,?_,?_,fun h' tk t' kp=>?_⟩
 ·obtain ⟨o,e,r⟩:=pl.isList
  exact ⟨o,Heap.get?_push_of_some _ e,r⟩
 ·intro b hb
  show b < (s.heap.push _).objs.size
  rw [Heap.size_push]
  simp only [List.mem_cons,List.not_mem_nil,or_false] at hb
  rcases hb with rfl | rfl
  ·exact Nat.lt_succ_self _
  ·obtain ⟨o,e,r⟩:=pl.isList
   exact Nat.lt_succ_of_lt (Heap.lt_size e)
 ·intro i v hP
  have hP:its.toArray[i]?=some v:=hP
  rw [List.getElem?_toArray] at hP
  have hi:=(List.getElem?_eq_some_iff.mp hP).1
  obtain ⟨u,hu,ru⟩:=rv.get (i:=i) (x:=.int (ns.getD i 0)) (by
   rw [List.getElem?_map,List.getElem?_eq_getElem (by omega),List.getD_eq_getElem?_getD,List.getElem?_eq_getElem (by omega)]
   rfl)
  rw [hP] at hu
  cases hu
  exact ru
 ·have e:preSum (fun i=>ns.getD i 0) its.toArray.size=ns.sum:=by
   rw [List.size_toArray,← hlen,preSum_take ns ns.length (Nat.le_refl _),List.take_length]
  rw [e]
  refine ⟨.int _,H,I.kept (t':=tk) (fun b o e=>?_),⟨t',rfl⟩,q⟩
  refine kp b o (fun m=>?_) (Heap.get?_push_of_some _ e)
  have:=List.mem_singleton.mp m
  exact absurd (Heap.lt_size e) (by rw [this];exact Nat.lt_irrefl _)
def sumM (d:D):M D:=fun c=>match seqL d c with
 | some xs=>match intsOf xs with
  | some ns=>some (.ok (.int ns.sum) c)
  | none=>none
 | none=>none
theorem de_sum {p2:Pos} (hc:X.calm=true) (hm:X.mg "sum"=none) (ha:DE X E a ta) (hg:Gl X "sum":=by rfl) (hst:starEach [a] X.env=[(false,eval a X.env)]:=by rfl):DE X E (.Call (.Name "sum" p2) [a] [] pos) (d1 sumM ta):=
 de_b1 (call_sumI hc) (fun H O c d v Q hc r p=>by
  unfold sumM at p
  cases z:seqL d c with
  | none=>rw [z] at p;exact p.elim
  | some xs=>
   simp only [z] at p
   cases z2:intsOf xs with
   | none=>rw [z2] at p;exact p.elim
   | some ns=>
    rw [z2] at p
    obtain ⟨a,vs,e,hq,rs⟩:=seqL_ok hc r z
    have e2:=reps_ints rs z2
    subst e2
    exact ⟨a,ns,by rw [e],SqL.of hq,PostD.ok p hc (.int _)⟩) hm ha (hg:=hg) (hst:=hst)
end
end DL
namespace DL
open PySem PySem.Spec PySem.Builtin PySem.Builtin.Str L2
open PyProof.Rows hiding St
variable {X:Cx} {E:XK} {e:Expr} {te:ED} {pos:Pos}
theorem strIdx_bounds (l u:Option Int) (n:Nat):strSliceIndices l u 1 n=(List.range (HT.sIx n n u - HT.sIx n 0 l)).map (HT.sIx n 0 l+·):=by
 obtain ⟨h1,h2,_⟩:=slice_bounds l u n
 rw [← sliceRange_one,← h1,← h2]
 rfl
theorem txt_slice (x:List Nat) (l u:Option Int):Txt.slice ⟨x.toArray⟩ l u=⟨(cutD x l u).toArray⟩:=by
 have hn:(⟨x.toArray⟩:Str).length=x.length:=by show x.toArray.size=_;simp
 unfold Txt.slice
 rw [hn,strIdx_bounds]
 have hp:((List.range (HT.sIx x.length x.length u - HT.sIx x.length 0 l)).map (HT.sIx x.length 0 l+·)).filterMap ((⟨x.toArray⟩:Str).cps[·]?)=cutD x l u:=by
  rw [pick_run];rfl
 rw [hp]
 split
 ·rename_i h
  have h:HT.sIx x.length x.length u - HT.sIx x.length 0 l=x.length:=by simpa using h
  have hle:=HT.sIx_le x.length x.length (Nat.le_refl _) u
  have h0:HT.sIx x.length 0 l=0:=by
   have:=HT.sIx_le x.length 0 (Nat.zero_le _) l
   by_cases hx:x.length=0
   ·omega
   ·omega
  unfold cutD
  rw [h,h0]
  simp
 ·rfl
def rSlS:V->Option Int->Option Int->Hp->VK->Prop:=fun x lo hi H Q=>∃ a:List Nat,x=.str ⟨a.toArray⟩/\a.length<=1000000/\Q (.str ⟨(cutD a lo hi).toArray⟩) H
theorem sl_str:SlR X rSlS:=by
 intro pins s σ H x v vl vu lo hi sl Q I rx hs pl pu h
 obtain ⟨a,rfl,ha,q⟩:=h
 obtain ⟨t,rfl⟩:=rx
 have hz:(⟨a.toArray⟩:Str).length<=sizeLine:=by
  show a.toArray.size<=sizeLine
  rw [List.size_toArray]
  exact Nat.le_trans ha (by decide)
 refine ⟨"str",_,F.slot_str_getitem.lookup,typeIs_str _ _ _,?_⟩
 have fin:∀ (l u:Option (Int×Tok)),l.map (·.1)=lo->u.map (·.1)=hi->(sliceMade ⟨a.toArray⟩ t l u none).post (EP X pins σ Q) s:=by
  intro l u h1 h2
  have hz':=Nat.le_trans (Txt.slice_le ⟨a.toArray⟩ lo hi) hz
  have e:Txt.slice ⟨a.toArray⟩ lo hi=⟨(cutD a lo hi).toArray⟩:=txt_slice a lo hi
  have hw:∀ (t':Tok) (k:Nat),EP X pins σ Q (.str (Txt.slice ⟨a.toArray⟩ lo hi) t') { s with toks:=k }:=fun t' k=>by
   rw [e]
   exact ⟨.str ⟨(cutD a lo hi).toArray⟩,H,I.kept (t':=k) (h':=s.heap) fun b u q=>q,⟨t',rfl⟩,q⟩
  have z:=post_val_or_str (t:=t) ⟨hz',hw⟩
  unfold sliceMade slicePicked
  rw [h1,h2]
  exact z
 cases pl with
 | none=>cases pu with
  | none=>exact wpAny_getItem_str_slice (l:=none) (u:=none) (st:=none) hs rfl (fin none none rfl rfl)
  | int j tj=>exact wpAny_getItem_str_slice (l:=none) (u:=some (j,tj)) (st:=none) hs rfl (fin none (some (j,tj)) rfl rfl)
 | int i ti=>cases pu with
  | none=>exact wpAny_getItem_str_slice (l:=some (i,ti)) (u:=none) (st:=none) hs rfl (fin (some (i,ti)) none rfl rfl)
  | int j tj=>exact wpAny_getItem_str_slice (l:=some (i,ti)) (u:=some (j,tj)) (st:=none) hs rfl (fin (some (i,ti)) (some (j,tj)) rfl rfl)
def slS (d:D) (lo hi:Option Int):M D:=match d with
 | .str x=>if x.length<=1000000 then M.ret (.str (cutD x lo hi)) else M.stuck
 | d=>slM d lo hi
theorem de_slS {te:ED} {lo hi:Option Expr} {tl th:OD} {p2:Pos} (he:DE X E e te) (hl:DO X E lo tl) (hh:DO X E hi th):DE X E (.Subscript e (.Slice lo hi none p2) pos) (dSl slS te tl th):=by
 refine ⟨PE.imp (pe_slice (sl_str.or (sl_list.or sl_tup)) he.h hl.h hh.h) fun σ H Q h=>?_⟩
 obtain ⟨O,l,c,hl,hc,p⟩:=h
 refine liftE_bd hl hc p fun x v H1 O1 c1 e1 hl1 hc1 rv p1=>?_
 refine liftO_bd hl1 hc1 p1 fun lo H2 O2 c2 e2 hl2 hc2 p2=>?_
 refine liftO_bd hl2 hc2 p2 fun hi H3 O3 c3 e3 hl3 hc3 p3=>?_
 have rv:=(rv.mono e2).mono e3
 have p3:PostD X.K E H3 O3 Q (slS x lo hi c3):=p3
 cases rv with
 | str a=>
  simp only [slS] at p3
  by_cases z:a.length<=1000000
  ·rw [if_pos z] at p3
   exact .inl ⟨a,rfl,z,Post.ret p3 hc3 _ (.str _)⟩
  ·rw [if_neg z] at p3;exact p3.elim
 | @lst a vs xs h n r=>exact .inr (.inl ⟨a,vs,rfl,SqL.of h,fun q n=>PostD.new p3 hc3 n (hc3.lstNew n (r.cut lo hi))⟩)
 | @scr a ns h=>exact .inr (.inl ⟨a,_,rfl,h.sq,fun q n=>PostD.new p3 hc3 n (hc3.lstNew n (by rw [cutV_ints];exact Reps.ints _))⟩)
 | @hnd a k hk=>
  simp only [slS,slM] at p3
  cases z:c3[k]? with
  | none=>rw [z] at p3;exact p3.elim
  | some x=>
   rw [z] at p3
   cases x with
   | lst xs=>
    obtain ⟨a',vs,q1,q2,q3⟩:=hc3.at_ k _ z
    rw [hk] at q1;cases q1
    exact .inr (.inl ⟨a,vs,rfl,SqL.of q2,fun q n=>PostD.new p3 hc3 n (hc3.lstNew n (q3.cut lo hi))⟩)
   | _=>exact p3.elim
 | @tup a vs xs h n r=>
  simp only [slS,slM] at p3
  by_cases z:HT.sIx xs.length 0 lo=0/\HT.sIx xs.length xs.length hi=xs.length
  ·rw [if_pos z] at p3;exact p3.elim
  ·rw [if_neg z] at p3
   exact .inr (.inr ⟨a,vs,rfl,SqT.of h,by rw [r.length];exact z,fun q n=>PostD.new p3 hc3 n (hc3.tupNew n (r.cut lo hi))⟩)
 | _=>exact p3.elim
theorem Reps.rev {K:Frag} {H:Hp} {O:Ow} {vs:List V} {xs:List D} (r:Reps K H O vs xs):Reps K H O vs.reverse xs.reverse:=by
 induction vs generalizing xs with
 | nil=>cases r;exact .nil
 | cons v vs ih=>
  cases r with
  | cons h t=>
   rw [List.reverse_cons,List.reverse_cons]
   exact (ih t).append (.cons h .nil)
open PyProof.Rows hiding St
theorem atI_in {α:Type} {xs:List α} {i:Int} (h0:0<=i) (h1:i < xs.length):atI xs i=xs[i.toNat]?:=by
 unfold atI ixN
 rw [if_pos h0,if_pos h1]
 rfl
theorem rangeD_cons (lo:Int) (n:Nat):rangeD lo (n+1)=.int lo::rangeD (lo+1) n:=by
 unfold rangeD
 rw [List.range_succ_eq_map,List.map_cons,List.map_map]
 congr 1
 ·simp
 ·refine List.map_congr_left fun k _=>?_
  simp only [Function.comp,D.int.injEq]
  omega
theorem seq_ok {a b:SD} {l l':L} {c c':List Cell} (h:a l c=some (.ok (.nx l') c')):sSeq a b l c=b l' c':=by
 unfold sSeq M.bd
 simp only [h]
theorem seq_ret {a b:SD} {l:L} {c c':List Cell} {d:D} (h:a l c=some (.ok (.ret d) c')):sSeq a b l c=some (.ok (.ret d) c'):=by
 unfold sSeq M.bd
 simp only [h]
 rfl
def fuel0:Nat:=100000
open PyProof.Rows hiding St
variable {X:Cx} {E:XK} {a e:Expr} {ta te:ED} {pos:Pos}
open PyProof.Rows hiding St
def Runs (tb:SD) (N:List Str) (ds:List D) (c:List Cell) (d:D):Prop:=
 (∃ ex,tb (startD N ds) c=some (.ok (.ret d) (c++ex))/\D.bel c.length d=true)\/
 (∃ i xs ex,d=.lst xs/\tb (startD N ds) c=some (.ok (.ret (.hnd i)) (c++ex))/\c.length<=i/\(c++ex)[i]?=some (.lst xs)/\D.bels c.length xs=true)
theorem Runs.val {tb:SD} {N:List Str} {ds:List D} {c:List Cell} {d:D} (ex:List Cell) (h:tb (startD N ds) c=some (.ok (.ret d) (c++ex))) (b:D.bel c.length d=true):Runs tb N ds c d:=.inl ⟨ex,h,b⟩
theorem Runs.same {tb:SD} {N:List Str} {ds:List D} {c:List Cell} {d:D} (h:tb (startD N ds) c=some (.ok (.ret d) c)) (b:D.bel c.length d=true:=by rfl):Runs tb N ds c d:=.inl ⟨[],by rw [List.append_nil];exact h,b⟩
theorem Runs.lst {tb:SD} {N:List Str} {ds:List D} {c:List Cell} {xs:List D} (i:Nat) (ex:List Cell) (h:tb (startD N ds) c=some (.ok (.ret (.hnd i)) (c++ex))) (hi:c.length<=i) (hx:(c++ex)[i]?=some (.lst xs)) (b:D.bels c.length xs=true):Runs tb N ds c (.lst xs):=.inr ⟨i,xs,ex,rfl,h,hi,hx,b⟩
open Classical in
noncomputable def gR (tb:SD) (N:List Str) (P:List D->D->Prop):FD:=fun ds c=>if h:∃ d,P ds d/\Runs tb N ds c d then some (.ok (Classical.choose h) c) else none
theorem run_R {tb:SD} {N:List Str} {P:List D->D->Prop} {n:Nat}:∀ ds c r,ds.length=n->gR tb N P ds c=some r->∃ d c1,r=.ok d c1/\Fin c (tb (startD N ds) c) (some (.ok d c1)):=by
 intro ds c r hl e
 unfold gR at e
 split at e
 ·rename_i h
  cases e
  refine ⟨_,c,rfl,?_⟩
  rcases (Classical.choose_spec h).2 with ⟨ex,h1,h2⟩ | ⟨i,xs,ex,h0,h1,h2,h3,h4⟩
  ·rw [h1]
   have:=Fin.val (c:=c) h2 (Kept.app c ex)
   rw [List.take_left] at this
   exact this
  ·rw [h1,h0]
   have:=Fin.frz (c:=c) h2 h3 h4 (Kept.app c ex)
   rw [List.take_left] at this
   exact this
 ·cases e
theorem call_R {tb:SD} {N:List Str} {P:List D->D->Prop} {n:Nat} {ds:List D} {c:List Cell} (hl:ds.length=n) (h:∃ d,P ds d/\Runs tb N ds c d):∃ d,P ds d/\gN n (gR tb N P) ds c=some (.ok d c):=by
 refine ⟨Classical.choose h,(Classical.choose_spec h).1,?_⟩
 unfold gN gR
 rw [if_pos hl,dif_pos h]
theorem forC_inv {chk:List Cell->Prop} {g:GD} {body:SD} (I:List D->L->List Cell->Prop)
  (step:∀ x r l c,I (x::r) l c->chk c/\∃ l1,g x l=some l1/\∃ l2 c2,(body l1 c=some (.ok (.nx l2) c2)\/body l1 c=some (.ok (.ct l2) c2))/\I r l2 c2) (stop:∀ l c,I [] l c->chk c):
  ∀ xs l c,I xs l c->∃ l' c',forC chk g body xs l c=some (.ok (.nx l') c')/\I [] l' c'
 | [],l,c,h=>⟨l,c,by simp [forC,stop l c h],h⟩
 | x::r,l,c,h=>by
  obtain ⟨hk,l1,h1,l2,c2,h2,h3⟩:=step x r l c h
  obtain ⟨l',c',h4,h5⟩:=forC_inv I step stop r l2 c2 h3
  refine ⟨l',c',?_,h5⟩
  simp only [forC,hk,if_true,h1]
  rcases h2 with h2 | h2
  ·rw [bd_ok h2];exact h4
  ·rw [bd_ok h2];exact h4
theorem forR_inv {g:GD} {body:SD} (lo:Int) (n:Nat) (I:Nat->L->List Cell->Prop)
  (step:∀ k l c,k < n->I k l c->∃ l1,g (.int (lo+(k:Nat))) l=some l1/\∃ l2 c2,(body l1 c=some (.ok (.nx l2) c2)\/body l1 c=some (.ok (.ct l2) c2))/\I (k+1) l2 c2) {l:L} {c:List Cell} (h:I 0 l c):
  ∃ l' c',forC (fun _=>True) g body (rangeD lo n) l c=some (.ok (.nx l') c')/\I n l' c':=by
 obtain ⟨l',c',h1,h2⟩:=forC_inv (chk:=fun _=>True) (g:=g) (body:=body) (fun xs l c=>∃ k,k<=n/\xs=rangeD (lo+(k:Nat)) (n - k)/\I k l c) (fun x r l c ⟨k,hk,e,hI⟩=>by
  refine ⟨trivial,?_⟩
  cases z:n - k with
  | zero=>rw [z] at e;cases e
  | succ m=>
   rw [z,rangeD_cons] at e
   cases e
   obtain ⟨l1,h1,l2,c2,h2,h3⟩:=step k l c (by omega) hI
   refine ⟨l1,h1,l2,c2,h2,k+1,by omega,?_,h3⟩
   have e1:n - (k+1)=m:=by omega
   have e2:lo+((k+1:Nat):Int)=lo+(k:Int)+1:=by omega
   rw [e1,e2]) (fun _ _ _=>trivial) (rangeD lo n) l c ⟨0,Nat.zero_le _,by simp,h⟩
 obtain ⟨k,hk,e,hI⟩:=h2
 have hz:n - k=0:=by
  have:=congrArg List.length e
  simp [rangeD] at this
  omega
 have:k=n:=by omega
 subst this
 exact ⟨l',c',h1,hI⟩
open PyProof.Rows hiding St
def okRow:D->Bool
 | .tup [.int _,.str _,.str _,.int _]=>true
 | _=>false
theorem okRow_is {d:D} (h:okRow d=true):∃ n p q r,d=.tup [.int n,.str p,.str q,.int r]:=by
 unfold okRow at h
 split at h
 ·exact ⟨_,_,_,_,rfl⟩
 ·cases h
theorem rows_bel {xs:List D} (k:Nat) (h:xs.all okRow=true):D.bels k xs=true:=by
 induction xs with
 | nil=>rfl
 | cons x xs ih=>
  simp only [List.all_cons,Bool.and_eq_true] at h
  obtain ⟨n,p,q,r,rfl⟩:=okRow_is h.1
  simp [D.bels,D.bel,ih h.2]
def Edge (rows:List D) (p q:List Nat):Prop:=∃ n r,D.tup [.int n,.str p,.str q,.int r]∈rows
inductive Reach (rows:List D) (one:List Nat):List Nat->Prop where
 | refl:Reach rows one one
 | fwd {p q:List Nat} (h:Reach rows one p) (e:Edge rows p q):Reach rows one q
 | bwd {p q:List Nat} (h:Reach rows one q) (e:Edge rows p q):Reach rows one p
def Shut (rows:List D) (zs:List (List Nat)):Prop:=∀ p q,Edge rows p q->(p∈zs↔q∈zs)
theorem shut_all {rows:List D} {one:List Nat} {zs:List (List Nat)} (h1:one∈zs) (h2:Shut rows zs) {x:List Nat} (h:Reach rows one x):x∈zs:=by
 induction h with
 | refl=>exact h1
 | fwd _ e ih=>exact (h2 _ _ e).mp ih
 | bwd _ e ih=>exact (h2 _ _ e).mpr ih
def ends:List D->List (List Nat)
 | []=>[]
 | .tup [_,.str p,.str q,_]::r=>p::q::ends r
 | _::r=>ends r
theorem ends_len:∀ rows:List D,(ends rows).length<=2 * rows.length
 | []=>by simp [ends]
 | d::r=>by
  have ih:=ends_len r
  unfold ends
  split
  ·rename_i h;cases h
  ·rename_i h;cases h;simp;omega
  ·rename_i h;cases h;simp;omega
theorem mem_ends {n r:Int} {p q:List Nat}:∀ {rows:List D},D.tup [.int n,.str p,.str q,.int r]∈rows->p∈ends rows/\q∈ends rows
 | [],h=>by cases h
 | d::rows,h=>by
  rcases List.mem_cons.mp h with e | e
  ·subst e;simp [ends]
  ·have ih:=mem_ends e
   unfold ends
   split
   ·rename_i z;cases z
   ·rename_i z;cases z;exact ⟨by simp [ih.1],by simp [ih.2]⟩
   ·rename_i z;cases z;exact ih
def unseen (rows:List D) (zs:List (List Nat)):Nat:=((ends rows).filter fun x=>!decide (x∈zs)).length
theorem filter_le {α:Type} {f g:α->Bool} (h:∀ x,f x=true->g x=true):∀ xs:List α,(xs.filter f).length<=(xs.filter g).length
 | []=>Nat.le_refl _
 | x::xs=>by
  have ih:=filter_le h xs
  cases z:f x with
  | true=>simp [z,h x z];exact ih
  | false=>cases z2:g x <;> simp [z,z2] <;> omega
theorem filter_lt {α:Type} {f g:α->Bool} (h:∀ x,f x=true->g x=true) {y:α} (hy:f y=false) (hy2:g y=true):∀ {xs:List α},y∈xs->(xs.filter f).length < (xs.filter g).length
 | x::xs,m=>by
  rcases List.mem_cons.mp m with e | e
  ·subst e
   have:=filter_le h xs
   simp [hy,hy2];omega
  ·have ih:=filter_lt h hy hy2 e
   cases z:f x with
   | true=>simp [z,h x z];exact ih
   | false=>cases z2:g x <;> simp [z,z2] <;> omega
theorem unseen_lt {rows:List D} {zs:List (List Nat)} {x:List Nat} (h:x∈ends rows) (n:x∉zs):unseen rows (zs++[x]) < unseen rows zs:=
 filter_lt (fun y hy=>by
  simp only [Bool.not_eq_true',decide_eq_false_iff_not,List.mem_append,not_or] at hy ⊢
  exact hy.1) (by simp) (by simpa using n) h
theorem unseen_le (rows:List D) (zs:List (List Nat)):unseen rows zs<=2 * rows.length:=Nat.le_trans (List.length_filter_le _ _) (ends_len rows)
open PyProof.Rows hiding St
section
variable {X:Cx} {E:XK} {a e o value:Expr} {ta te to:ED} {pos pos' apos:Pos} {C f:Addr} {fl m:Str}
def cellI (C:Addr) (o:D) (c:List Cell):Option (Nat×List (Str×D)):=match o with
 | .hnd k=>match c[k]? with
  | some (.ins C' fs)=>if C'=C then some (k,fs) else none
  | _=>none
 | _=>none
theorem cellI_ok {H:Hp} {O:Ow} {c:List Cell} {v:V} {d:D} {k:Nat} {fs:List (Str×D)} (hc:Cells X.K H O c) (r:Rep X.K H O v d) (h:cellI C d c=some (k,fs)):
  ∃ a dx us,v=.ref a/\d=.hnd k/\O[k]?=some (some a)/\H a=some (.ins C dx us)/\FReps X.K H O us fs/\c[k]?=some (.ins C fs):=by
 cases r with
 | @hnd a j hj=>
  simp only [cellI] at h
  cases z:c[j]? with
  | none=>rw [z] at h;cases h
  | some x=>
   rw [z] at h
   cases x with
   | ins C' gs=>
    simp only at h
    split at h
    ·rename_i e
     subst e
     simp only [Option.some.injEq,Prod.mk.injEq] at h
     obtain ⟨rfl,rfl⟩:=h
     obtain ⟨a',dx,us,q1,q2,q3⟩:=hc.at_ _ _ z
     rw [hj] at q1;cases q1
     exact ⟨a,dx,us,rfl,rfl,hj,q2,q3,z⟩
    ·cases h
   | _=>cases h
 | _=>cases h
theorem FReps.lookup {K:Frag} {H:Hp} {O:Ow}:∀ {us:List (Str×V)} {fs:List (Str×D)} {d:D},FReps K H O us fs->fs.lookup fl=some d->∃ v,us.lookup fl=some v/\Rep K H O v d
 | [],[],d,_,h=>by cases h
 | [],_::_,_,h,_=>by cases h.1
 | _::_,[],_,h,_=>by cases h.1
 | (x,v)::us,(y,b)::fs,d,h,hl=>by
  obtain ⟨h1,h2⟩:=h
  simp only [List.map_cons,List.cons.injEq] at h1
  obtain ⟨rfl,h1⟩:=h1
  simp only [List.map_cons] at h2
  cases h2 with
  | cons r1 r2=>
   rw [List.lookup_cons] at hl ⊢
   split at hl
   ·cases hl;exact ⟨v,rfl,r1⟩
   ·exact FReps.lookup ⟨h1,r2⟩ hl
theorem FReps.lookup_none {K:Frag} {H:Hp} {O:Ow}:∀ {us:List (Str×V)} {fs:List (Str×D)},FReps K H O us fs->fs.lookup fl=none->us.lookup fl=none
 | [],_,_,_=>rfl
 | _::_,[],h,_=>by cases h.1
 | (x,v)::us,(y,b)::fs,h,hl=>by
  obtain ⟨h1,h2⟩:=h
  simp only [List.map_cons,List.cons.injEq] at h1
  obtain ⟨rfl,h1⟩:=h1
  simp only [List.map_cons] at h2
  cases h2 with
  | cons r1 r2=>
   rw [List.lookup_cons] at hl ⊢
   split at hl
   ·cases hl
   ·exact FReps.lookup_none ⟨h1,r2⟩ hl
def putD (f:Str) (v:D):List (Str×D)->List (Str×D)
 | []=>[(f,v)]
 | (g,x)::r=>if g=f then (g,v)::r else (g,x)::putD f v r
theorem FReps.put {K:Frag} {H:Hp} {O:Ow} {v:V} {d:D} (r:Rep K H O v d):∀ {us:List (Str×V)} {fs:List (Str×D)},FReps K H O us fs->FReps K H O (putF fl v us) (putD fl d fs)
 | [],[],_=>⟨rfl,.cons r .nil⟩
 | [],_::_,h=>by cases h.1
 | _::_,[],h=>by cases h.1
 | (x,w)::us,(y,b)::fs,h=>by
  obtain ⟨h1,h2⟩:=h
  simp only [List.map_cons,List.cons.injEq] at h1
  obtain ⟨rfl,h1⟩:=h1
  simp only [List.map_cons] at h2
  cases h2 with
  | cons r1 r2=>
   unfold putF putD
   split
   ·exact ⟨by simp [h1],.cons r r2⟩
   ·obtain ⟨i1,i2⟩:=FReps.put r (us:=us) (fs:=fs) ⟨h1,r2⟩
    exact ⟨by simp [i1],.cons r1 i2⟩
theorem FReps.length {K:Frag} {H:Hp} {O:Ow} {us:List (Str×V)} {fs:List (Str×D)} (h:FReps K H O us fs):us.length=fs.length:=by
 have:=congrArg List.length h.1
 simpa using this
def fldM (C:Addr) (fl:Str) (o:D):M D:=fun c=>match cellI C o c with
 | some (_,fs)=>match fs.lookup fl with
  | some d=>some (.ok d c)
  | none=>none
 | none=>none
theorem de_fld (C:Addr) (hC:Cls X.K C) (hN:NoAttr X.K C fl) (ho:DE X E o to) (hb:attributeBase o fl X.env (eval o X.env)=eval o X.env:=by rfl):DE X E (.Attribute o fl pos) (d1 (fldM C fl) to):=by
 refine ⟨PE.imp (pe_fld ho.h hb) fun σ H Q h=>?_⟩
 obtain ⟨O,l,c,hl,hc,p⟩:=h
 refine liftE_bd hl hc p fun x v H1 O1 c1 e1 hl1 hc1 rv p1=>?_
 unfold fldM at p1
 cases z:cellI C x c1 with
 | none=>rw [z] at p1;exact p1.elim
 | some q=>
  obtain ⟨k,fs⟩:=q
  rw [z] at p1
  simp only at p1
  obtain ⟨a,dx,us,rfl,_,hO,ha,hf,hk⟩:=cellI_ok hc1 rv z
  cases z2:fs.lookup fl with
  | none=>rw [z2] at p1;exact p1.elim
  | some d=>
   rw [z2] at p1
   obtain ⟨w,hw,rw_⟩:=hf.lookup z2
   exact ⟨a,C,dx,us,w,rfl,ha,hC,hN,hw,PostD.ok p1 hc1 rw_⟩
def setF (C:Addr) (fl:Str) (o v:D) (l:L):M Fl:=fun c=>match cellI C o c with
 | some (k,fs)=>if fs.length < 1000 then some (.ok (.nx l) (c.set k (.ins C (putD fl v fs)))) else none
 | none=>none
def sFldD (C:Addr) (fl:Str) (to te:ED):SD:=fun l=>(te l).bd fun v=>(to l).bd fun o=>setF C fl o v l
theorem ds_fld (C:Addr) (hC:Cls X.K C) (hN:NoAttr X.K C fl) (ho:DE X E o to) (he:DE X E value te) (hs:swapsWith value (some (.Attribute o fl pos')) pos.line X.env=pure false:=by rfl):DS X E (.Assign [.Attribute o fl pos'] value pos) (sFldD C fl to te):=by
 refine ⟨PS.imp (ps_fld ho.h he.h hs) fun Dn σ H h=>?_⟩
 obtain ⟨O,l,c,hl,hc,p⟩:=h
 refine liftE_bd hl hc p fun y w H1 O1 c1 e1 hl1 hc1 ry p1=>?_
 refine liftE_bd hl1 hc1 p1 fun x v H2 O2 c2 e2 hl2 hc2 rv p2=>?_
 unfold setF at p2
 cases z:cellI C x c2 with
 | none=>rw [z] at p2;exact p2.elim
 | some q=>
  obtain ⟨k,fs⟩:=q
  rw [z] at p2
  simp only at p2
  obtain ⟨a,dx,us,rfl,_,hO,ha,hf,hk⟩:=cellI_ok hc2 rv z
  by_cases hlen:fs.length < 1000
  ·rw [if_pos hlen] at p2
   obtain ⟨ex,cx⟩:=hc2.setC (o:=.ins C dx (putF fl w us)) (x:=.ins C (putD fl y fs)) hO (fun ex=>⟨a,dx,_,hO,upd_same .. ,by
    have hq:=FReps.put (fl:=fl) (ry.mono e2) hf
    exact ⟨hq.1,hq.2.mono ex⟩⟩)
   exact ⟨a,C,dx,us,rfl,ha,hC,hN,by rw [hf.length];exact hlen,p2 _ O2 ex cx σ (hl2.mono ex)⟩
  ·rw [if_neg hlen] at p2;exact p2.elim
end
section
variable {X:Cx} {E:XK} {e o:Expr} {to:ED} {pos apos:Pos} {C f:Addr} {m x:Str} {es:List Expr} {t:AD} {CX:CXT} {k n:Nat} {fd:FuncData} {ps:List Str} {g:FD} {dvs:List V} {dds:List D} {ds:List Value} {p:Pos}
def dMeth (C:Addr) (m:Str) (n:Nat) (g:FD) (dds:List D) (to:ED) (t:AD):ED:=fun l=>(to l).bd fun o c=>match cellI C o c with
 | some (_,fs)=>if fs.lookup m=none then ((t l).bd fun xs=>gN n g (o::(xs++dds))) c else none
 | none=>none
theorem de_meth {pl:Sem Bool} (C:Addr) (ho:DE X E o to) (hC:Cls X.K C) (hm:Meth X.K C m f) (F:FnOk X.prog X.w X.K X.mg X.base CX k f fd ps (spD X.K n g)) (hr:Room k X.A) (hb:Binds X.K fd ps ds) (hd:Vals dvs ds) (rd:∀ H O,Reps X.K H O dvs dds) (hx:Passes CX X E) (ha:DA X E (e::es) t)
  (hst:starEach (e::es) X.env=(false,eval e X.env)::starEach es X.env:=by rfl) (hpl:(backTo pos (starEach es X.env)).any (·.1)=false:=by rfl)
  (ht:eval (.Call (.Attribute o m apos) (e::es) [] pos) X.env=(do
   let ov ← eval o X.env
   standAt apos.atName
   let (f,first) ← holding [ov] (getMethod ov m pl)
   callWith pos f first (backTo pos (starEach (e::es) X.env)) (backToKw pos (keywordEach [] X.env))):=by rfl):
  DE X E (.Call (.Attribute o m apos) (e::es) [] pos) (dMeth C m n g dds to t):=by
 refine ⟨PE.imp (pe_meth ho.h hC hm F hr hb hd hx ha.h hst hpl ht) fun σ H Q h=>?_⟩
 obtain ⟨O,l,c,hl,hc,p⟩:=h
 refine liftE_bd hl hc p fun x v H1 O1 c1 e1 hl1 hc1 rv p1=>?_
 cases z:cellI C x c1 with
 | none=>rw [z] at p1;exact p1.elim
 | some q=>
  obtain ⟨k,fs⟩:=q
  rw [z] at p1
  simp only at p1
  obtain ⟨a,dx,us,rfl,_,hO,ha,hf,hk⟩:=cellI_ok hc1 rv z
  by_cases hn:fs.lookup m=none
  ·rw [if_pos hn] at p1
   refine ⟨a,dx,us,rfl,ha,hf.lookup_none hn,?_⟩
   refine liftA_bd hl1 hc1 p1 fun xs vs H2 O2 c2 e2 hl2 hc2 rv2 p2=>?_
   exact gN_post (.cons (rv.mono e2) (rv2.append (rd _ _))) hc2 p2
  ·rw [if_neg hn] at p1;exact p1.elim
theorem de_meth0 {pl:Sem Bool} (C:Addr) (ho:DE X E o to) (hC:Cls X.K C) (hm:Meth X.K C m f) (F:FnOk X.prog X.w X.K X.mg X.base CX k f fd ps (spD X.K n g)) (hr:Room k X.A) (hb:Binds X.K fd ps ds) (hd:Vals dvs ds) (rd:∀ H O,Reps X.K H O dvs dds) (hx:Passes CX X E)
  (ht:eval (.Call (.Attribute o m apos) [] [] pos) X.env=(do
   let ov ← eval o X.env
   standAt apos.atName
   let (f,first) ← holding [ov] (getMethod ov m pl)
   callWith pos f first (backTo pos (starEach [] X.env)) (backToKw pos (keywordEach [] X.env))):=by rfl):
  DE X E (.Call (.Attribute o m apos) [] [] pos) (dMeth C m n g dds to aNil):=by
 refine ⟨PE.imp (pe_meth0 ho.h hC hm F hr hb hd hx ht) fun σ H Q h=>?_⟩
 obtain ⟨O,l,c,hl,hc,p⟩:=h
 refine liftE_bd hl hc p fun x v H1 O1 c1 e1 hl1 hc1 rv p1=>?_
 cases z:cellI C x c1 with
 | none=>rw [z] at p1;exact p1.elim
 | some q=>
  obtain ⟨k,fs⟩:=q
  rw [z] at p1
  simp only at p1
  obtain ⟨a,dx,us,rfl,_,hO,ha,hf,hk⟩:=cellI_ok hc1 rv z
  by_cases hn:fs.lookup m=none
  ·rw [if_pos hn] at p1
   exact ⟨a,dx,us,rfl,ha,hf.lookup_none hn,gN_post (.cons rv (rd _ _)) hc1 p1⟩
  ·rw [if_neg hn] at p1;exact p1.elim
def mkM (C:Addr) (n:Nat) (g:FD) (xs:List D):M D:=fun c=>((gN n g (.hnd c.length::xs)).bd fun d=>match d with
 | .non=>M.ret (.hnd c.length)
 | _=>M.stuck) (c++[.ins C []])
theorem make_post {H:Hp} {O:Ow} {c:List Cell} {xs:List D} {vs:List V} {Q:VK} (r:Reps X.K H O vs xs) (hc:Cells X.K H O c) (h:PostD X.K E H O Q (mkM C n g xs c)):
  ∀ x dx,H x=none->H dx=none->dx≠x->spD X.K n g (.ref x::vs) (upd (upd H dx (.own x)) x (.ins C dx [])) (fun v H2=>v=.non/\Q (.ref x) H2) E:=by
 intro x dx hx hd ne
 have hc1:=hc.updN (o:=.own x) hd
 have e1:Ext H O (upd H dx (.own x)) O:=Ext.updN hd
 have hx1:upd H dx (.own x) x=none:=by rw [upd_ne (Ne.symm ne)];exact hx
 obtain ⟨e2,hc2⟩:=hc1.push (o:=.ins C dx []) (x:=.ins C []) hx1 ⟨x,dx,[],by simp,upd_same,⟨rfl,.nil⟩⟩
 have e3:=e1.trans e2
 have hk:(O++[some x])[c.length]?=some (some x):=by rw [← hc.len];simp
 refine gN_post (xs:=.hnd c.length::xs) (.cons (.hnd hk) (r.mono e3)) hc2 ?_
 unfold mkM at h
 refine ((h.mono e3).bd).imp fun d H1 O1 c1 e4 hc4 p v rv=>?_
 cases rv with
 | non=>
  refine ⟨rfl,?_⟩
  exact Post.ret p hc4 _ (.hnd (e4.pre _ _ hk))
 | _=>exact p.elim
def dMake (C:Addr) (n:Nat) (g:FD) (dds:List D) (t:AD):ED:=fun l=>(t l).bd fun xs=>mkM C n g (xs++dds)
theorem de_make (C:Addr) (M:Mk X.K C f) (F:FnOk X.prog X.w X.K X.mg X.base CX k f fd ps (spD X.K n g)) (hr:Room (k+1) X.A) (hm:X.mg x=some (.ref C)) (hb:Binds X.K fd ps ds) (hd:Vals dvs ds) (rd:∀ H O,Reps X.K H O dvs dds) (hx:Passes CX X E)
  (ha:DA X E (e::es) t) (hg:Gl X x:=by rfl) (hdb:(x == ("__debug__":Str))=false:=by decide) (he:starEach (e::es) X.env=(false,eval e X.env)::starEach es X.env:=by rfl) (hpl:(backTo pos (starEach es X.env)).any (·.1)=false:=by rfl):
  DE X E (.Call (.Name x p) (e::es) [] pos) (dMake C n g dds t):=by
 refine ⟨PE.imp (pe_make M F hr hg hm hb hd hx ha.h hdb he hpl) fun σ H Q h=>?_⟩
 obtain ⟨O,l,c,hl,hc,p⟩:=h
 refine liftA_bd hl hc p fun xs vs H1 O1 c1 e1 hl1 hc1 rv p1=>?_
 exact make_post (rv.append (rd _ _)) hc1 p1
theorem de_make0 (C:Addr) (M:Mk X.K C f) (F:FnOk X.prog X.w X.K X.mg X.base CX k f fd ps (spD X.K n g)) (hr:Room (k+1) X.A) (hm:X.mg x=some (.ref C)) (hb:Binds X.K fd ps ds) (hd:Vals dvs ds) (rd:∀ H O,Reps X.K H O dvs dds) (hx:Passes CX X E)
  (hg:Gl X x:=by rfl) (hdb:(x == ("__debug__":Str))=false:=by decide):DE X E (.Call (.Name x p) [] [] pos) (fun _=>mkM C n g dds):=by
 refine ⟨PE.imp (pe_make0 M F hr hg hm hb hd hx hdb) fun σ H Q h=>?_⟩
 obtain ⟨O,l,c,hl,hc,p⟩:=h
 exact make_post (rd _ _) hc p
end
open PyProof.Rows hiding St
structure Chg (xs fs:List Addr) (h h':Heap):Prop where
 keep:∀ b o,h.get? b=some o->b∉xs->b∉fs->h'.get? b=some o
 slot:∀ b o,h.get? b=some o->b∉xs->∃ sl,h'.get? b=some { o with slots:=sl }
 there:∀ b o,h.get? b=some o->∃ o',h'.get? b=some o'
theorem Chg.refl {xs fs:List Addr} {h:Heap}:Chg xs fs h h:=⟨fun _ _ q _ _=>q,fun _ o q _=>⟨o.slots,q⟩,fun _ o q=>⟨o,q⟩⟩
theorem Chg.trans {xs fs:List Addr} {h h1 h2:Heap} (a:Chg xs fs h h1) (b:Chg xs fs h1 h2):Chg xs fs h h2:=
 ⟨fun c o q n m=>b.keep c o (a.keep c o q n m) n m,fun c o q n=>by
  obtain ⟨sl,e⟩:=a.slot c o q n
  obtain ⟨sl2,e2⟩:=b.slot c _ e n
  exact ⟨sl2,e2⟩,fun c o q=>by
  obtain ⟨o1,e⟩:=a.there c o q
  exact b.there c o1 e⟩
theorem Chg.mono {xs ys fs gs:List Addr} {h h':Heap} (a:Chg xs fs h h') (x:∀ b∈xs,b∈ys) (f:∀ b∈fs,b∈gs):Chg ys gs h h':=
 ⟨fun b o q n m=>a.keep b o q (fun z=>n (x b z)) (fun z=>m (f b z)),fun b o q n=>a.slot b o q fun z=>n (x b z),a.there⟩
theorem Chg.ofSlots {xs fs:List Addr} {h h':Heap} (s:Heap.SlotsOnly fs h h'):Chg xs fs h h':=
 ⟨fun b o q _ m=>by rw [s.2.1 b m];exact q,fun b o q _=>s.2.2 b o q,fun b o q=>by obtain ⟨sl,e⟩:=s.2.2 b o q;exact ⟨_,e⟩⟩
theorem Chg.push {xs fs:List Addr} {h:Heap} (o:Obj):Chg xs fs h (h.push o):=
 ⟨fun b u q _ _=>Heap.get?_push_of_some _ q,fun b u q _=>⟨u.slots,Heap.get?_push_of_some _ q⟩,fun b u q=>⟨u,Heap.get?_push_of_some _ q⟩⟩
theorem Chg.upd {xs fs:List Addr} {h:Heap} {a:Addr} {o:Obj} {vs:Array Value} {f:Array Value->Array Value} (ha:h.get? a=some o) (hd:o.data=.fields vs) (m:a∈xs):Chg xs fs h (h.update a (Obj.mapFields f)):=by
 have other:∀ b,b≠a->(h.update a (Obj.mapFields f)).get? b=h.get? b:=fun b n=>Heap.get?_update_other _ _ (Ne.symm n)
 have hd3:=Obj.data_mapFields hd f
 have self:=Heap.get?_update_self (Obj.mapFields f) ha (Obj.isFreed_of_fields hd3)
 refine ⟨fun b u q n _=>?_,fun b u q n=>?_,fun b u q=>?_⟩
 ·rw [other b (fun z=>n (by rw [z];exact m))];exact q
 ·rw [other b (fun z=>n (by rw [z];exact m))];exact ⟨u.slots,q⟩
 ·by_cases z:b=a
  ·subst z;exact ⟨_,self⟩
  ·rw [other b z];exact ⟨u,q⟩
theorem dict_mapFields (f:Array Value->Array Value) (o:Obj):(Obj.mapFields f o).dict=o.dict:=by
 unfold Obj.mapFields
 split <;> rfl
structure Exo (e:Addr) (cls:Value) (dx:Option Addr) (tb:Option Addr) (fl:Value) (h:Heap):Prop where
 ob:∃ oe vs,h.get? e=some oe/\oe.cls=cls/\oe.dict=dx/\oe.data=.fields vs/\vs[1]?=some (tb.elim Value.none Value.ref)
 en:∀ T,tb=some T->T≠e/\∃ oT ts,h.get? T=some oT/\oT.data=.fields ts/\ts[3]?=some fl
theorem rec_put {h:Heap} {e:Addr} {ob n:Obj} {ws:Array Value} (at_e:h.get? e=some ob) (hw:ob.data=.fields ws) (hn:n.isFreed=false):
  ((h.push n).update e (Obj.mapFields fun v=>v.setIfInBounds 1 (.ref h.objs.size))).get? e=some (Obj.mapFields (fun v=>v.setIfInBounds 1 (.ref h.objs.size)) ob)/\
  ((h.push n).update e (Obj.mapFields fun v=>v.setIfInBounds 1 (.ref h.objs.size))).get? h.objs.size=some n/\h.objs.size≠e/\
  ∀ xs fs:List Addr,e∈xs->Chg xs fs h ((h.push n).update e (Obj.mapFields fun v=>v.setIfInBounds 1 (.ref h.objs.size))):=by
 have apart:h.objs.size≠e:=fun z=>absurd (Heap.lt_size at_e) (by rw [← z];exact Nat.lt_irrefl _)
 have later:(h.push n).get? e=some ob:=Heap.get?_push_of_some n at_e
 refine ⟨Heap.get?_update_self _ later (Obj.isFreed_of_fields (Obj.data_mapFields hw _)),?_,apart,fun xs fs m=>(Chg.push n).trans (Chg.upd later hw m)⟩
 rw [Heap.get?_update_other _ _ (fun z=>apart z.symm)]
 exact Heap.get?_push_size h hn
section
variable {M:Model} {A:Around} {E:Value->Shared->Prop} {s:Shared} {env:Env} {outer:List Env} {L e:Addr} {cls:Value} {dx:Option Addr} {base:Heap}
theorem entry_step {top:Value} {had:Bool} {xs:List Addr} {Q:Unit->Shared->Prop} {ob:Obj} {ws:Array Value} (stk:A.frames=some (env::outer)) (fun_:s.heap.FunFrames base (env::outer)) (here:env.frame=some L)
  (at_e:s.heap.get? e=some ob) (oc:ob.cls=cls) (od:ob.dict=dx) (hw:ob.data=.fields ws) (long:1 < ws.size) (mem:e∈xs)
  (fin:∀ h' T,Exo e cls dx (some T) (rawInt L) h'->Chg xs (frs (env::outer)) s.heap h'->s.heap.get? T=none->Q () { s with heap:=h' }):
  wpAny M A (frameOf env >>= fun fr=>entryPlaceOf L had >>= fun pl=>EntryCells.newEntry top fr .none (rawInt L) .none pl >>= fun n=>setField (.ref e) 1 n) Q E s:=by
 have free:e∉frs (env::outer):=fun z=>by
  have ⟨_,o,got,plain⟩:=fun_.mem z
  exact plain ws (by rw [← hw];exact congrArg Obj.data (Option.some.inj (got.symm.trans at_e)))
 apply wpAny_bind
 apply wpAny_frameOf_fun stk fun_ here
 intro g sl
 apply wpAny_bind
 apply wpAny_entryPlaceOf
 intro pl place
 apply wpAny_bind
 refine wpAny_newObj_type ?_ (place.sizeOk5 top (.ref L) .none (rawInt L) .none)
 generalize made:({ cls:=.type "traceback",data:=.fields ([top,.ref L,.none,rawInt L,.none]++(if pl.isEmpty then List.replicate 6 Value.none else pl)).toArray }:Obj)=n
 have in_g:g.get? e=some ob:=(sl.2.1 e free).trans at_e
 obtain ⟨r1,r2,r3,r4⟩:=rec_put (n:=n) in_g hw (by rw [← made];rfl)
 apply wpAny_setField (Heap.get?_push_of_some n in_g) hw long
 apply fin _ g.objs.size
 ·constructor
  ·exact ⟨_,_,r1,by rw [Obj.cls_mapFields,oc],by rw [dict_mapFields,od],Obj.data_mapFields hw _,by simp [long]⟩
  ·intro T same
   cases same
   exact ⟨r3,n,_,r2,by rw [← made],by simp⟩
 ·exact (Chg.ofSlots sl).trans (r4 _ _ mem)
 ·cases z:s.heap.get? g.objs.size with
  | none=>rfl
  | some o=>
   have ⟨_,back⟩:=sl.2.2 _ _ z
   exact absurd (Heap.lt_size back) (Nat.lt_irrefl _)
def exoAt (e:Addr) (tb:Option Addr):List Addr:=e::tb.toList
theorem note_step {tb:Option Addr} {Q:Unit->Shared->Prop} (stk:A.frames=some (env::outer)) (fun_:s.heap.FunFrames base (env::outer)) (here:env.frame=some L) (exo:Exo e cls dx tb .none s.heap)
  (fin:∀ h' T,Exo e cls dx (some T) (rawInt L) h'->Chg (exoAt e tb) (frs (env::outer)) s.heap h'->s.heap.get? T=none->Q () { s with heap:=h' }):wpAny M A (noteFrame (.ref e) env) Q E s:=by
 obtain ⟨⟨ob,ws,at_e,oc,od,hw,second⟩,ent⟩:=exo
 have long:1 < ws.size:=by
  by_cases z:1 < ws.size
  ·exact z
  ·rw [Array.getElem?_eq_none (by omega)] at second;cases second
 unfold noteFrame
 rw [here]
 apply wpAny_bind
 apply wpAny_field at_e hw second
 cases tb with
 | none=>exact entry_step stk fun_ here at_e oc od hw long (by simp [exoAt]) fin
 | some T=>
  obtain ⟨apart,oT,ts,at_T,tw,fourth⟩:=ent T rfl
  have long3:3 < ts.size:=by
   by_cases z:3 < ts.size
   ·exact z
   ·rw [Array.getElem?_eq_none (by omega)] at fourth;cases fourth
  apply wpAny_bind
  apply wpAny_field at_T tw fourth
  apply wpAny_bind
  apply wpAny_setField at_T tw long3
  have step:Chg (exoAt e (some T)) (frs (env::outer)) s.heap (s.heap.update T (Obj.mapFields fun v=>v.setIfInBounds 3 .none)):=Chg.upd at_T tw (by simp [exoAt])
  have away:∀ b,b≠T->(s.heap.update T (Obj.mapFields fun v=>v.setIfInBounds 3 .none)).get? b=s.heap.get? b:=fun b z=>Heap.get?_update_other _ _ z.symm
  have fun2:(s.heap.update T (Obj.mapFields fun v=>v.setIfInBounds 3 .none)).FunFrames base (env::outer):=fun_.of_keeps fun b o got plain=>by
   refine ⟨o,?_,rfl⟩
   rw [away b fun z=>plain ts (by rw [← tw];rw [z] at got;exact congrArg Obj.data (Option.some.inj (got.symm.trans at_T)))]
   exact got
  refine entry_step (xs:=exoAt e (some T)) stk fun2 here ((away e apart.symm).trans at_e) oc od hw long (by simp [exoAt]) fun h' T' p1 p2 p3=>fin h' T' p1 (step.trans p2) ?_
  cases z:s.heap.get? T' with
  | none=>rfl
  | some o=>
   have ⟨_,back⟩:=step.there T' o z
   rw [p3] at back;cases back
theorem flight_step {T:Addr} {fl:Value} {Q:Unit->Shared->Prop} (exo:Exo e cls dx (some T) fl s.heap)
  (fin:∀ h',Exo e cls dx (some T) .none h'->Chg [T] [] s.heap h'->Q () { s with heap:=h' }):wpAny M A (setFlight (.ref e) none) Q E s:=by
 obtain ⟨⟨ob,ws,at_e,oc,od,hw,second⟩,ent⟩:=exo
 obtain ⟨apart,oT,ts,at_T,tw,fourth⟩:=ent T rfl
 have long3:3 < ts.size:=by
  by_cases z:3 < ts.size
  ·exact z
  ·rw [Array.getElem?_eq_none (by omega)] at fourth;cases fourth
 unfold setFlight
 apply wpAny_bind
 apply wpAny_field at_e hw second
 apply wpAny_setField at_T tw long3
 apply fin
 ·refine ⟨⟨ob,ws,(Heap.get?_update_other _ _ apart).trans at_e,oc,od,hw,second⟩,fun T' same=>?_⟩
  cases same
  exact ⟨apart,_,_,Heap.get?_update_self _ at_T (Obj.isFreed_of_fields (Obj.data_mapFields tw _)),Obj.data_mapFields tw _,by simp [long3]⟩
 ·exact Chg.upd at_T tw (by simp)
theorem leave_step {tb:Option Addr} {Q:Unit->Shared->Prop} (hfr:A.frames=some (env::outer)) (hl:s.heap.FunFrames base (env::outer)) (hf:env.frame=some L) (hx:Exo e cls dx tb .none s.heap)
  (h:∀ h' T,Exo e cls dx (some T) .none h'->Chg (exoAt e tb) (frs (env::outer)) s.heap h'->s.heap.get? T=none->Q () { s with heap:=h' }):wpAny M A (leaving env (.ref e)) Q E s:=by
 unfold leaving
 refine wpAny_bind (note_step hfr hl hf hx fun h' T x1 x2 x3=>?_)
 refine flight_step (s:={ s with heap:=h' }) x1 fun h2 y1 y2=>?_
 refine h h2 T y1 ?_ x3
 refine ⟨fun b o q n m=>?_,fun b o q n=>?_,fun b o q=>?_⟩
 ·have q1:=x2.keep b o q n m
  exact y2.keep b o q1 (fun z=>by rw [List.mem_singleton.mp z,x3] at q;cases q) (by simp)
 ·obtain ⟨sl,q1⟩:=x2.slot b o q n
  exact ⟨sl,y2.keep b _ q1 (fun z=>by rw [List.mem_singleton.mp z,x3] at q;cases q) (by simp)⟩
 ·obtain ⟨o1,q1⟩:=x2.there b o q
  exact y2.there b o1 q1
end
open PyProof.Rows hiding St
section
variable {P:Program} {w:World} {H H':Hp} {h h':Heap} {a:Addr} {o:HO} {xs fs:List Addr}
theorem ok_there (x:ObjOk P w H h a o):∃ ob,h.get? a=some ob:=by
 induction o with
 | lst xs=>obtain ⟨_,_,_,_,e⟩:=x;exact ⟨_,e⟩
 | tup xs=>obtain ⟨_,_,_,ob,e,_⟩:=x;exact ⟨_,e⟩
 | dK kvs=>obtain ⟨_,_,_,_,o,_,_,e,_⟩:=x;exact ⟨_,e⟩
 | dT kvs=>obtain ⟨_,_,_,_,o,_,_,e,_⟩:=x;exact ⟨_,e⟩
 | set S n=>obtain ⟨o,_,_,_,e,_⟩:=x;exact ⟨_,e⟩
 | ins C dx fs=>obtain ⟨_,_,_,e,_⟩:=x;exact ⟨_,e⟩
 | own y=>exact x
 | xd fs=>obtain ⟨_,⟨_,_,_,e,_⟩,_⟩:=x;exact ⟨_,e⟩
 | rng lo hi=>obtain ⟨_,_,_,e⟩:=x;exact ⟨_,e⟩
 | frz ob u=>obtain ⟨e,_⟩:=x;exact ⟨_,e⟩
 | tbl ps=>exact ⟨_,(show h.get? a=some _ from x)⟩
 | met f y=>exact ⟨_,(show h.get? a=some _ from x)⟩
 | ext φ=>obtain ⟨_,e,_⟩:=x;exact e
theorem hok_chg (x:HOk P w H h) (g:Chg xs fs h h') (n:∀ b∈xs,H b=none) (m:∀ b∈fs,H b=none):HOk P w H h':=fun a o e=>
 (x a o e).stay (fun b u hb q=>by
  have ne:H b≠none:=by
   rcases hb with rfl | hb
   ·rw [e];simp
   ·rw [hb];simp
  exact g.keep b u q (fun z=>ne (n b z)) fun z=>ne (m b z)) (fun _ q=>q) fun _ _ q=>q
end
def CXD (P:Program) (w:World):CXT:=fun outer H s E e s'=>∃ (ea T:Addr) (cls:Value) (dx:Option Addr) (H':Hp),e=.ref ea/\s'.os=s.os/\AllBare s'.gens/\Un (frs outer) [] H H' s.heap s'.heap/\HOk P w H' s'.heap/\
 Exo ea cls dx (some T) .none s'.heap/\H' ea=none/\H' T=none/\s.heap.get? ea=none/\s.heap.get? T=none/\E cls dx H'
def XB (X:Cx) (pins:List (Addr×Obj)) (σ:St) (E:XK) (e:Value) (s':Shared):Prop:=∃ (ea:Addr) (cls:Value) (dx tb:Option Addr) (H':Hp),e=.ref ea/\Inv X pins σ H' s'/\Exo ea cls dx tb .none s'.heap/\H' ea=none/\X.s₀.heap.get? ea=none/\
 (∀ T,tb=some T->H' T=none/\X.s₀.heap.get? T=none)/\E cls dx H'
theorem xb_call {X:Cx} {pins:List (Addr×Obj)} {σ:St} {H:Hp} {s s':Shared} {E:XK} {e:Value} (hx:X.ex=[]) (I:Inv X pins σ H s) (h:CXD X.prog X.w X.stack H s E e s'):XB X pins σ E e s':=by
 obtain ⟨ea,T,cls,dx,H',rfl,os,bare,un,hok,ex,h1,h2,h3,h4,q⟩:=h
 have old:∀ b,s.heap.get? b=none->X.s₀.heap.get? b=none:=fun b hb=>by
  cases z:X.s₀.heap.get? b with
  | none=>rfl
  | some o=>
   obtain ⟨o',e⟩:=I.base.there b o z (by rw [hx];simp)
   rw [hb] at e;cases e
 exact ⟨ea,cls,dx,some T,H',rfl,I.call' os un hok bare (fun b z=>absurd z (by simp)),ex,h1,old _ h3,fun T' e=>by cases e;exact ⟨h2,old _ h4⟩,q⟩
theorem xb_leave {P:Program} {w:World} {K:Frag} {mg:Str->Option Value} {base:Heap} {N:List Str} {qual:Str} {scope:Scope} {f:Addr} {cd:Value} {A:Around} {outer:List Env} {s:Shared} {H:Hp} {E E':XK} {pins:List (Addr×Obj)} {σ:St} {e:Value} {s':Shared} {Xe:Value->Shared->Prop}
  (h:XB ((cxOf (CXD P w) P w K mg base N qual scope f cd A outer s H E).wish Xe) pins σ E e s'):(cxOf (CXD P w) P w K mg base N qual scope f cd A outer s H E).xe e s':=by
 obtain ⟨ea,cls,dx,tb,H',rfl,I,ex,h1,h2,h3,q⟩:=h
 have I:=I.unwish
 have hL:(envOfC qual scope s.heap.objs.size f cd).frame=some s.heap.objs.size:=rfl
 show wpAny (model P w) (A.deeper (envOfC qual scope s.heap.objs.size f cd)) (leaving (envOfC qual scope s.heap.objs.size f cd) (.ref ea)) (fun _ s''=>CXD P w outer H s E (.ref ea) s'') (fun e' s''=>CXD P w outer H s E e' s'') s'
 refine leave_step (outer:=outer) I.ok.frames I.stack hL ex fun h' T x1 x2 x3=>?_
 have fr0:∀ b∈frs (envOfC qual scope s.heap.objs.size f cd::outer),H' b=none:=I.stkFree
 have xn:∀ b∈exoAt ea tb,H' b=none/\s.heap.get? b=none:=fun b hb=>by
  rcases List.mem_cons.mp hb with rfl | hb
  ·exact ⟨h1,h2⟩
  ·exact h3 b (by simpa using hb)
 have base:Un (frs outer) [] H H' s.heap s'.heap:=I.base
 have hT:H' T=none:=by
  cases z:H' T with
  | none=>rfl
  | some o=>
   obtain ⟨ob,e⟩:=ok_there (I.hok T o z)
   rw [x3] at e;cases e
 have old:∀ b,s'.heap.get? b=none->s.heap.get? b=none:=fun b hb=>by
  cases z:s.heap.get? b with
  | none=>rfl
  | some o=>
   obtain ⟨o',e⟩:=base.there b o z (by simp)
   rw [hb] at e;cases e
 have notx:∀ b o,s.heap.get? b=some o->b∉exoAt ea tb:=fun b o e z=>by rw [(xn b z).2] at e;cases e
 have notL:∀ b o,s.heap.get? b=some o->b≠s.heap.objs.size:=fun b o e z=>absurd (Heap.lt_size e) (by rw [z];exact Nat.lt_irrefl _)
 refine ⟨ea,T,cls,dx,H',rfl,I.os,I.bare,⟨fun b o e n m _=>?_,fun b o e n m _=>?_,base.free,fun b o e _=>?_,base.tups,base.frzs,base.tbls⟩,hok_chg I.hok x2 (fun b hb=>(xn b hb).1) fr0,x1,h1,hT,h2,old T x3,q⟩
 ·refine x2.keep b o (base.keep b o e n m (by simp)) (notx b o e) fun z=>?_
  unfold frs at z
  rw [List.filterMap_cons,hL] at z
  rcases List.mem_cons.mp z with z | z
  ·exact notL b o e z
  ·exact m z
 ·obtain ⟨sl,e1⟩:=base.slot b o e n m (by simp)
  obtain ⟨sl2,e2⟩:=x2.slot b _ e1 (notx b o e)
  exact ⟨sl2,e2⟩
 ·obtain ⟨o1,e1⟩:=base.there b o e (by simp)
  exact x2.there b o1 e1
open PyProof.Rows hiding St
abbrev bmV:List Value:=[.type "ValueError",.type "Exception",.type "BaseException",.type "object"]
def ExcK (K:Frag) (C:Addr):Prop:=excIn K C bmV "ValueError.__new__"=true
theorem exc_of_in {K:Frag} {h:Heap} {C:Addr} {bmB:List Value} {newId:String} (X:K.In h) (q:excIn K C bmB newId=true):
  ∃ bm N nm qn bs hdct sn sub ab col dd k0 k1 k2 k3 k5 mN,h.get? C=some (excClassObj nm qn C N bs bm hdct sn sub ab col dd k0 k1 k2 k3 k5 newId)/\h.Ns N mN/\mN "__init__"=none/\OwnTail h bmB bm:=by
 unfold excIn at q
 split at q
 case h_2=>cases q
 case h_1 odict cdat slots found=>
  split at q
  case h_2=>cases q
  case h_1 self rest s0 s1 s2 s3 made s5 mroEq slotsEq=>
   rw [Bool.and_eq_true,Bool.and_eq_true,Bool.and_eq_true,Bool.and_eq_true,Bool.and_eq_true] at q
   have isC:self=C:=eq_of_beq q.1.1.1.1.1
   have isNew:made=newId:=eq_of_beq q.1.1.1.1.2
   have noDel:cdat.hasDel=false:=by simpa using q.1.1.1.2
   have named:=PySem.W.isNs_of_in X q.1.2
   have bare:=PySem.W.nsMap_none_of_in X q.1.2 (eq_of_beq q.2)
   refine ⟨rest,cdat.ns,cdat.name,cdat.qualname,cdat.bases,cdat.hasDict,cdat.slotNames,cdat.subclasses,cdat.abstract,cdat.collection,odict,s0,s1,s2,s3,s5,_,?_,.of_isNs named,bare,PySem.W.tail_of_in X q.1.1.2⟩
   rw [X _ _ found,← isNew]
   cases cdat
   cases slots
   simp only at mroEq slotsEq noDel
   subst isC noDel mroEq slotsEq
   rfl
section
variable {X:Cx} {E:XK} {x:Str} {C:Addr} {np cpos pos:Pos} {e:Expr} {es:List Expr} {t:TA}
def Leaves (X:Cx) (E:XK):Prop:=∀ pins σ e s',XB X pins σ E e s'->X.xe e s'
theorem made_xb {pins:List (Addr×Obj)} {σ:St} {H:Hp} {s:Shared} {h':Heap} {ea:Addr} {vs:List Value} (hex:X.ex=[]) (I:Inv X pins σ H s) (m:Heap.MadeExcOf s.heap h' ea (.ref C) vs) (q:E (.ref C) none H):XB X pins σ E (.ref ea) { s with heap:=h' }:=by
 obtain ⟨t,he,_,_⟩:=m.there
 have hH:H ea=none:=by
  cases z:H ea with
  | none=>rfl
  | some o=>
   obtain ⟨ob,e⟩:=ok_there (I.hok ea o z)
   rw [m.new] at e;cases e
 have h0:X.s₀.heap.get? ea=none:=by
  cases z:X.s₀.heap.get? ea with
  | none=>rfl
  | some o=>
   obtain ⟨o',e⟩:=I.base.there ea o z (by rw [hex];simp)
   rw [m.new] at e;cases e
 exact ⟨ea,.ref C,none,none,H,rfl,I.kept (t':=s.toks) m.keeps,⟨⟨_,_,he,rfl,rfl,rfl,rfl⟩,fun T hT=>by cases hT⟩,hH,h0,(fun T hT=>by cases hT),q⟩
def tRaise (C:Addr) (E:XK) (t:TA):TS:=fun _ σ H=>t σ H fun vs H1=>vs.length<=1000/\E (.ref C) none H1
theorem ps_raise (hex:X.ex=[]) (hcalm:X.calm=true) (hl:Leaves X E) (hC:ExcK X.K C) (hg:Gl X x) (hm:X.mg x=some (.ref C)) (ha:PA X (e::es) t) (hdb:(x == ("__debug__":Str))=false:=by decide)
  (he:starEach (e::es) X.env=(false,eval e X.env)::starEach es X.env:=by rfl) (hpl:(backTo cpos (starEach es X.env)).any (·.1)=false:=by rfl):
  PS X (.Raise (some (.Call (.Name x np) (e::es) [] cpos)) none pos) (tRaise C E t):=by
 intro pins s σ H D I h
 obtain ⟨tl,N,nm,q,bs,hdct,sn,sub,ab,col,dd,k0,k1,k2,k3,k5,mN,hCo,hN,hni,T⟩:=exc_of_in I.mod.kin hC
 refine wpAny_Raise_call_subT (C:=C) (nm:=nm) (q:=q) (N:=N) (bs:=bs) (bm:=tl) (hdct:=hdct) (sn:=sn) (sub:=sub) (ab:=ab) (col:=col) (dd:=dd) (k0:=k0) (k1:=k1) (k2:=k2) (k3:=k3) (k5:=k5)
  F.excBase_ValueError (mN:=mN) (T.hasType F.excBase_ValueError.hasBase) (I.ok.hd hcalm) (by rw [he];show (false || (backTo cpos (starEach es X.env)).any (·.1))=false;rw [hpl];rfl) hni ?_
 refine thn (pe_glob (v:=.ref C) hg hm rfl hdb pins s σ H (fun v H1=>v=.ref C/\H1=H) I ⟨rfl,rfl⟩) fun u s1 ⟨v,H1,I1,r1,e1,e2⟩=>?_
 subst e1 e2
 obtain rfl:u=Value.ref C:=r1
 refine ⟨rfl,?_⟩
 have z:=ha cpos pins s1 σ H1 _ I1 h
 rw [he] at z ⊢
 refine Calls.evalArgs_plain (wpAny_mono z (fun us s2 h2=>?_) fun _ _ y=>y)
 obtain ⟨vs,H2,I2,r2,hlen,q2⟩:=h2
 exact ⟨rfl,by
  have:=r2.length
  have:=sl_1e6
  show us.length<=sizeLine
  omega,I2.bk _ _ hCo,hN.keeps I2.bk,T.keeps I2.bk,fun h' ea m=>hl pins σ _ _ (made_xb hex I2 m q2)⟩
end
open PyProof.Rows hiding St
section
variable {X:Cx} {E:XK} {x:Str} {C:Addr} {np cpos pos:Pos} {e:Expr} {es:List Expr} {t:AD}
def sRaise (C:Addr) (t:AD):SD:=fun l=>(t l).bd fun xs c=>if xs.length<=1000 then some (.exc ⟨.ref C,[]⟩ c) else none
theorem raise_post {K:Frag} {H:Hp} {O:Ow} {c:List Cell} {P:Fl->Hp->Ow->List Cell->Prop} (hc:Cells K H O c) (h:Post K E H O P (some (.exc ⟨.ref C,[]⟩ c))):E (.ref C) none H:=
 h H O (.ref C) none (Ext.refl _ _) hc ⟨rfl,rfl⟩
theorem ds_raise (hex:X.ex=[]) (hcalm:X.calm=true) (hl:Leaves X E) (hC:ExcK X.K C) (hm:X.mg x=some (.ref C)) (ha:DA X E (e::es) t) (hg:Gl X x:=by rfl) (hdb:(x == ("__debug__":Str))=false:=by decide)
  (he:starEach (e::es) X.env=(false,eval e X.env)::starEach es X.env:=by rfl) (hpl:(backTo cpos (starEach es X.env)).any (·.1)=false:=by rfl):
  DS X E (.Raise (some (.Call (.Name x np) (e::es) [] cpos)) none pos) (sRaise C t):=by
 refine ⟨PS.imp (ps_raise hex hcalm hl hC hg hm ha.h hdb he hpl) fun Dn σ H h=>?_⟩
 obtain ⟨O,l,c,hl,hc,p⟩:=h
 refine liftA_bd hl hc p fun xs vs H1 O1 c1 e1 hl1 hc1 rv p1=>?_
 by_cases z:xs.length<=1000
 ·rw [if_pos z] at p1
  exact ⟨by rw [rv.length];exact z,raise_post hc1 p1⟩
 ·rw [if_neg z] at p1;exact p1.elim
end
section
variable {P:Program} {w:World} {K:Frag} {mg:Str->Option Value} {base:Heap} {N:List Str} {qual:Str} {scope:Scope} {f:Addr} {cd:Value} {A:Around} {outer:List Env} {s:Shared} {H:Hp} {E:XK}
theorem leavesX:Leaves (cxOf (CXD P w) P w K mg base N qual scope f cd A outer s H E) E:=fun _ _ _ _ h=>xb_leave (E':=E) (Xe:=(cxOf (CXD P w) P w K mg base N qual scope f cd A outer s H E).xe) h
theorem passesX:Passes (CXD P w) (cxOf (CXD P w) P w K mg base N qual scope f cd A outer s H E) E:=fun pins σ H s e s' I h=>leavesX pins σ e s' (xb_call rfl I h)
theorem pass0E {X:Cx} {E:XK}:Passes CX0 X E:=fun _ _ _ _ _ _ _ h=>h.elim
end
open PyProof.Rows hiding St
def keyD:D->Option DK
 | .int i=>some (.inl i)
 | .str x=>some (.inr x)
 | _=>none
theorem key_rep {K:Frag} {H:Hp} {O:Ow} {v:V} {d:D} {k:DK} (r:Rep K H O v d) (h:keyD d=some k):v=kV (kK k):=by
 cases r with
 | int i=>cases h;rfl
 | str x=>cases h;rfl
 | _=>cases h
theorem kK_inj {a b:DK} (e:kK a=kK b):a=b:=by
 cases a with
 | inl i=>
  cases b with
  | inl j=>simp only [kK,Sum.inl.injEq] at e;rw [e]
  | inr y=>simp [kK] at e
 | inr x=>
  cases b with
  | inl j=>simp [kK] at e
  | inr y=>
   simp only [kK,Sum.inr.injEq] at e
   have e':(⟨x.toArray⟩:Str).cps=(⟨y.toArray⟩:Str).cps:=congrArg Str.cps e
   have e2:x=y:=by
    have:=congrArg Array.toList e'
    simpa using this
   rw [e2]
def valD (kvs:List (DK×D)) (k:DK):Option D:=(kvs.find? fun kv=>decide (kv.1=k)).map (·.2)
def putDK (kvs:List (DK×D)) (k:DK) (v:D):List (DK×D):=if (valD kvs k).isSome=true then kvs.map (fun kv=>if kv.1=k then (kv.1,v) else kv) else kvs++[(k,v)]
def dropDK (kvs:List (DK×D)) (k:DK):List (DK×D):=kvs.filter fun kv=>decide (kv.1≠k)
theorem valD_nil {k:DK}:valD [] k=none:=rfl
theorem valD_cons {p:DK×D} {r:List (DK×D)} {k:DK}:valD (p::r) k=if p.1=k then some p.2 else valD r k:=by
 by_cases e:p.1=k <;> simp [valD,List.find?_cons,e]
theorem valD_app {a b:List (DK×D)} {k:DK}:valD (a++b) k=(valD a k).or (valD b k):=by
 induction a with
 | nil=>simp [valD_nil]
 | cons p r ih=>
  rw [List.cons_append,valD_cons,valD_cons,ih]
  split <;> simp
theorem valD_map {k j:DK} {y:D}:∀ {kvs:List (DK×D)},valD (kvs.map fun kv=>if kv.1=k then (kv.1,y) else kv) j=(valD kvs j).map fun x=>if j=k then y else x
 | []=>rfl
 | p::r=>by
  rw [List.map_cons,valD_cons,valD_cons,valD_map]
  by_cases e:p.1=k
  ·rw [if_pos e]
   by_cases e2:p.1=j
   ·simp [e2,← e]
   ·simp [e2]
  ·rw [if_neg e]
   by_cases e2:p.1=j
   ·have:j≠k:=fun z=>e (e2.trans z)
    simp [e2,this]
   ·simp [e2]
theorem valD_put {kvs:List (DK×D)} {k j:DK} {y:D}:valD (putDK kvs k y) j=if j=k then some y else valD kvs j:=by
 unfold putDK
 cases z:valD kvs k with
 | none=>
  simp only [Option.isSome_none,Bool.false_eq_true,if_false]
  rw [valD_app,valD_cons,valD_nil]
  by_cases e:j=k
  ·subst e;simp [z]
  ·have e':¬ k=j:=fun q=>e q.symm
   simp [e,e']
 | some d=>
  simp only [Option.isSome_some,if_true]
  rw [valD_map]
  by_cases e:j=k
  ·subst e;simp [z]
  ·simp [e]
theorem valD_key {kvs:List (DK×D)} {k:DK}:(valD kvs k).isSome=true↔k∈kvs.map (·.1):=by
 induction kvs with
 | nil=>simp [valD_nil]
 | cons p r ih=>
  rw [valD_cons,List.map_cons,List.mem_cons]
  by_cases e:p.1=k
  ·simp [e]
  ·have:¬ k=p.1:=fun z=>e z.symm
   simp [e,this,ih]
theorem putDK_keys {kvs:List (DK×D)} {k:DK} {v:D}:(putDK kvs k v).map (·.1)=if (valD kvs k).isSome=true then kvs.map (·.1) else kvs.map (·.1)++[k]:=by
 unfold putDK
 split
 ·rw [List.map_map]
  refine List.map_congr_left fun p _=>?_
  simp only [Function.comp]
  split <;> rfl
 ·simp
theorem nodup_put {kvs:List (DK×D)} {k:DK} {v:D} (h:(kvs.map (·.1)).Nodup):((putDK kvs k v).map (·.1)).Nodup:=by
 rw [putDK_keys]
 split
 ·exact h
 ·rename_i e
  rw [List.nodup_append]
  refine ⟨h,by simp,fun a ha b hb=>?_⟩
  simp only [List.mem_singleton] at hb
  subst hb
  exact fun z=>e (valD_key.mpr (z ▸ ha))
theorem nodup_drop {kvs:List (DK×D)} {k:DK} (h:(kvs.map (·.1)).Nodup):((dropDK kvs k).map (·.1)).Nodup:=by
 unfold dropDK
 exact h.sublist (List.Sublist.map _ List.filter_sublist)
section
variable {K:Frag} {H:Hp} {O:Ow} {us:List (Key×V)} {kvs:List (DK×D)} {k:DK} {d:D} {v:V}
theorem KReps.nil_inv (h:KReps K H O us []):us=[]:=by
 obtain ⟨h1,_⟩:=h
 cases us with
 | nil=>rfl
 | cons _ _=>simp at h1
theorem KReps.cons_inv {p:DK×D} (h:KReps K H O us (p::kvs)):∃ v us',us=(kK p.1,v)::us'/\Rep K H O v p.2/\KReps K H O us' kvs:=by
 obtain ⟨h1,h2⟩:=h
 cases us with
 | nil=>simp at h1
 | cons q us'=>
  simp only [List.map_cons,List.cons.injEq] at h1
  simp only [List.map_cons] at h2
  cases h2 with
  | cons r t=>exact ⟨q.2,us',by rw [← h1.1],r,h1.2,t⟩
theorem KReps.nil:KReps K H O [] []:=⟨rfl,.nil⟩
theorem KReps.cons (r:Rep K H O v d) (h:KReps K H O us kvs):KReps K H O ((kK k,v)::us) ((k,d)::kvs):=⟨by simp [h.1],.cons r h.2⟩
theorem KReps.app {us':List (Key×V)} {kvs':List (DK×D)} (h:KReps K H O us kvs) (h':KReps K H O us' kvs'):KReps K H O (us++us') (kvs++kvs'):=⟨by simp [h.1,h'.1],by rw [List.map_append,List.map_append];exact h.2.append h'.2⟩
theorem KReps.len (h:KReps K H O us kvs):us.length=kvs.length:=by
 have:=congrArg List.length h.1
 simpa using this
theorem KReps.mono {H':Hp} {O':Ow} (e:Ext H O H' O') (h:KReps K H O us kvs):KReps K H' O' us kvs:=⟨h.1,h.2.mono e⟩
theorem KReps.val_some:∀ {kvs:List (DK×D)} {us:List (Key×V)},KReps K H O us kvs->valD kvs k=some d->∃ v,valV us (kK k)=some v/\Rep K H O v d
 | [],_,_,e=>by cases e
 | p::kvs,us,h,e=>by
  obtain ⟨v,us',rfl,r,t⟩:=h.cons_inv
  rw [valD_cons] at e
  by_cases z:p.1=k
  ·rw [if_pos z] at e
   cases e
   exact ⟨v,valV_pos (by show kK p.1=kK k;rw [z]),r⟩
  ·rw [if_neg z] at e
   obtain ⟨v',h1,h2⟩:=t.val_some e
   exact ⟨v',by rw [valV_neg (fun q=>z (kK_inj q))];exact h1,h2⟩
theorem KReps.val_none:∀ {kvs:List (DK×D)} {us:List (Key×V)},KReps K H O us kvs->valD kvs k=none->valV us (kK k)=none
 | [],_,h,_=>by rw [h.nil_inv];rfl
 | p::kvs,us,h,e=>by
  obtain ⟨v,us',rfl,r,t⟩:=h.cons_inv
  rw [valD_cons] at e
  by_cases z:p.1=k
  ·rw [if_pos z] at e;cases e
  ·rw [if_neg z] at e
   rw [valV_neg (fun q=>z (kK_inj q))]
   exact t.val_none e
theorem KReps.repl (r:Rep K H O v d):∀ {kvs:List (DK×D)} {us:List (Key×V)},KReps K H O us kvs->KReps K H O (us.map fun kv=>if kv.1=kK k then (kv.1,v) else kv) (kvs.map fun kv=>if kv.1=k then (kv.1,d) else kv)
 | [],_,h=>by rw [h.nil_inv];exact .nil
 | p::kvs,us,h=>by
  obtain ⟨v',us',rfl,r',t⟩:=h.cons_inv
  rw [List.map_cons,List.map_cons]
  by_cases z:p.1=k
  ·rw [if_pos (by show kK p.1=kK k;rw [z]),if_pos z]
   exact .cons r (KReps.repl r t)
  ·rw [if_neg (fun q=>z (kK_inj q)),if_neg z]
   exact .cons r' (KReps.repl r t)
theorem KReps.put (r:Rep K H O v d) (h:KReps K H O us kvs):KReps K H O (putK us (kK k) v) (putDK kvs k d):=by
 unfold putK putDK
 rw [valV_any]
 cases z:valD kvs k with
 | none=>
  rw [h.val_none z]
  simp only [Option.isSome_none,Bool.false_eq_true,if_false]
  exact h.app (.cons r .nil)
 | some x=>
  obtain ⟨v',e,_⟩:=h.val_some z
  rw [e]
  simp only [Option.isSome_some,if_true]
  exact h.repl r
theorem KReps.drop:∀ {kvs:List (DK×D)} {us:List (Key×V)},KReps K H O us kvs->KReps K H O (dropK us (kK k)) (dropDK kvs k)
 | [],_,h=>by rw [h.nil_inv];exact .nil
 | p::kvs,us,h=>by
  obtain ⟨v',us',rfl,r',t⟩:=h.cons_inv
  have ih:KReps K H O (dropK us' (kK k)) (dropDK kvs k):=t.drop
  unfold dropK dropDK at ih ⊢
  by_cases z:p.1=k
  ·rw [List.filter_cons_of_neg (by simp [z]),List.filter_cons_of_neg (by simp [z])]
   exact ih
  ·rw [List.filter_cons_of_pos (by simpa using fun q=>z (kK_inj q)),List.filter_cons_of_pos (by simpa using z)]
   exact .cons r' ih
end
theorem Cells.setK {K:Frag} {H:Hp} {O:Ow} {c:List Cell} {k:Nat} {a:Addr} {us:List (Key×V)} {kvs:List (DK×D)} (hc:Cells K H O c) (hO:O[k]?=some (some a)) (r:KReps K H O us kvs) (n:(kvs.map (·.1)).Nodup):
  Ext H O (upd H a (.dK us)) O/\Cells K (upd H a (.dK us)) O (c.set k (.dct kvs)):=hc.setC hO fun e=>⟨a,us,hO,upd_same,r.mono e,n⟩
def cellD (o:D) (c:List Cell):Option (Nat×List (DK×D)):=match o with
 | .hnd k=>match c[k]? with
  | some (.dct ys)=>some (k,ys)
  | _=>none
 | _=>none
section
variable {X:Cx} {E:XK} {a b e o i value:Expr} {ta tb te to ti:ED} {pos pos' apos cpos:Pos}
theorem cellD_ok {H:Hp} {O:Ow} {c:List Cell} {v:V} {d:D} {k:Nat} {ys:List (DK×D)} (hc:Cells X.K H O c) (r:Rep X.K H O v d) (h:cellD d c=some (k,ys)):
  ∃ a us,v=.ref a/\O[k]?=some (some a)/\H a=some (.dK us)/\KReps X.K H O us ys/\(ys.map (·.1)).Nodup/\c[k]?=some (.dct ys):=by
 cases r with
 | @hnd a j hj=>
  simp only [cellD] at h
  cases z:c[j]? with
  | none=>rw [z] at h;cases h
  | some x=>
   rw [z] at h
   cases x with
   | dct xs=>
    simp only [Option.some.injEq,Prod.mk.injEq] at h
    obtain ⟨rfl,rfl⟩:=h
    obtain ⟨a',vs,q1,q2,q3,q4⟩:=hc.at_ _ _ z
    rw [hj] at q1;cases q1
    exact ⟨a,vs,rfl,hj,q2,q3,q4,z⟩
   | _=>cases h
 | _=>cases h
def dGetM (x y:D):M D:=fun c=>match cellD x c,keyD y with
 | some (_,kvs),some k=>match valD kvs k with
  | some d=>some (.ok d c)
  | none=>none
 | _,_=>none
theorem dGetM_is {x y:D} {c:List Cell} {r:Option (Out D)} (h:dGetM x y c=r) (hr:r≠none):∃ j kvs k d,cellD x c=some (j,kvs)/\keyD y=some k/\valD kvs k=some d/\r=some (.ok d c):=by
 unfold dGetM at h
 cases z:cellD x c with
 | none=>rw [z] at h;exact absurd h.symm hr
 | some p=>
  obtain ⟨j,kvs⟩:=p
  rw [z] at h
  cases z2:keyD y with
  | none=>rw [z2] at h;exact absurd h.symm hr
  | some k=>
   rw [z2] at h
   simp only at h
   cases z3:valD kvs k with
   | none=>rw [z3] at h;exact absurd h.symm hr
   | some d=>rw [z3] at h;exact ⟨j,kvs,k,d,rfl,rfl,z3,h.symm⟩
theorem post_ne {α:Type} {K:Frag} {H:Hp} {O:Ow} {P:α->Hp->Ow->List Cell->Prop} {r:Option (Out α)} (p:Post K E H O P r):r≠none:=fun e=>by rw [e] at p;exact p.elim
theorem de_dget (hu:X.A.units+64 < cLine) (ha:DE X E a ta) (hb:DE X E b tb) (hs:NoSl b:=by intro _ _;rfl):DE X E (.Subscript a b pos) (d2 dGetM ta tb):=by
 refine ⟨PE.imp (pe_dget (by omega) ha.h hb.h hs) fun σ H Q h=>?_⟩
 obtain ⟨O,l,c,hl,hc,p⟩:=h
 refine liftE_bd hl hc p fun x v H1 O1 c1 e1 hl1 hc1 rv p1=>?_
 refine liftE_bd hl1 hc1 p1 fun y u H2 O2 c2 e2 hl2 hc2 ru p2=>?_
 obtain ⟨j,kvs,k,d,h1,h2,h3,h4⟩:=dGetM_is rfl (post_ne p2)
 rw [h4] at p2
 obtain ⟨q,us,ea,hO,hq,kr,nd,hk⟩:=cellD_ok hc2 (rv.mono e2) h1
 obtain ⟨w,hw,rw_⟩:=kr.val_some h3
 have ey:=key_rep ru h2
 subst ey
 exact ⟨q,w,ea,by rw [← hw];exact DGet.k hq,PostD.ok p2 hc2 rw_⟩
def dInM (neg:Bool) (x y:D):M D:=fun c=>match cellD y c,keyD x with
 | some (_,kvs),some k=>some (.ok (.bl (if neg then !(valD kvs k).isSome else (valD kvs k).isSome)) c)
 | _,_=>none
theorem dInM_is {neg:Bool} {x y:D} {c:List Cell} {r:Option (Out D)} (h:dInM neg x y c=r) (hr:r≠none):∃ j kvs k,cellD y c=some (j,kvs)/\keyD x=some k/\r=some (.ok (.bl (if neg then !(valD kvs k).isSome else (valD kvs k).isSome)) c):=by
 unfold dInM at h
 cases z:cellD y c with
 | none=>rw [z] at h;exact absurd h.symm hr
 | some p=>
  obtain ⟨j,kvs⟩:=p
  rw [z] at h
  cases z2:keyD x with
  | none=>rw [z2] at h;exact absurd h.symm hr
  | some k=>rw [z2] at h;exact ⟨j,kvs,k,rfl,rfl,h.symm⟩
theorem KReps.isSome {K:Frag} {H:Hp} {O:Ow} {us:List (Key×V)} {kvs:List (DK×D)} {k:DK} (h:KReps K H O us kvs):(valV us (kK k)).isSome=(valD kvs k).isSome:=by
 cases z:valD kvs k with
 | none=>rw [h.val_none z];rfl
 | some d=>obtain ⟨v,e,_⟩:=h.val_some z;rw [e];rfl
theorem dinLift {σ:St} {H:Hp} {Q:VK} {neg:Bool} (h:liftE X.K E (d2 (dInM neg) ta tb) σ H Q):
  liftE X.K E ta σ H fun y H1=>liftE X.K E tb σ H1 fun x H2=>∃ a o,x=.ref a/\DGet H2 a y o/\Q (.bl (if neg then !o.isSome else o.isSome)) H2:=by
 obtain ⟨O,l,c,hl,hc,p⟩:=h
 refine liftE_bd hl hc p fun x v H1 O1 c1 e1 hl1 hc1 rv p1=>?_
 refine liftE_bd hl1 hc1 p1 fun y u H2 O2 c2 e2 hl2 hc2 ru p2=>?_
 obtain ⟨j,kvs,k,h1,h2,h4⟩:=dInM_is rfl (post_ne p2)
 rw [h4] at p2
 obtain ⟨q,us,ea,hO,hq,kr,nd,hk⟩:=cellD_ok hc2 ru h1
 have ey:=key_rep (rv.mono e2) h2
 subst ey
 refine ⟨q,_,ea,DGet.k hq,?_⟩
 rw [kr.isSome]
 exact PostD.ok p2 hc2 (.bl _)
theorem dinLiftT {σ:St} {H:Hp} {Q:Bool->Hp->Prop} {neg:Bool} (h:liftT X.K E (tOf (d2 (dInM neg) ta tb)) σ H Q):
  liftE X.K E ta σ H fun y H1=>liftE X.K E tb σ H1 fun x H2=>∃ a o,x=.ref a/\DGet H2 a y o/\∃ k,V.bl (if neg then !o.isSome else o.isSome)=.bl k/\Q k H2:=dinLift (lift_tOf h)
theorem dt_dnin (hu:X.A.units+64 < cLine) (ha:DE X E a ta) (hb:DE X E b tb) (hm:behindInMarks .NotIn b=false:=by rfl):DT X E (.Compare a [.NotIn] [b] pos) (tOf (d2 (dInM true) ta tb)):=
 ⟨PT.imp (pt_cmp (pc_dnotin (by omega) ha.h hb.h) hm) fun σ H Q h=>dinLiftT h⟩
def putM (o i v:D) (l:L):M Fl:=fun c=>match cellD o c,keyD i with
 | some (j,kvs),some k=>if kvs.length < 1000000 then some (.ok (.nx l) (c.set j (.dct (putDK kvs k v)))) else none
 | _,_=>none
def sDPutD (to ti te:ED):SD:=fun l=>(te l).bd fun v=>(to l).bd fun o=>(ti l).bd fun i=>putM o i v l
theorem ds_dput (hu:X.A.units+64 < cLine) (he:DE X E e te) (ho:DE X E o to) (hi:DE X E i ti) (hs:swapsWith e (some (.Subscript o i pos')) pos.line X.env=pure false:=by rfl):DS X E (.Assign [.Subscript o i pos'] e pos) (sDPutD to ti te):=by
 refine ⟨PS.imp (ps_dput (by omega) ho.h hi.h he.h hs) fun Dn σ H h=>?_⟩
 obtain ⟨O,l,c,hl,hc,p⟩:=h
 refine liftE_bd hl hc p fun x v H1 O1 c1 e1 hl1 hc1 rv p1=>?_
 refine liftE_bd hl1 hc1 p1 fun y u H2 O2 c2 e2 hl2 hc2 ru p2=>?_
 refine liftE_bd hl2 hc2 p2 fun z w H3 O3 c3 e3 hl3 hc3 rw_ p3=>?_
 unfold putM at p3
 cases q:cellD y c3 with
 | none=>rw [q] at p3;exact p3.elim
 | some kk=>
  obtain ⟨j,kvs⟩:=kk
  rw [q] at p3
  obtain ⟨a,us,ea,hO,ha,kr,nd,hk⟩:=cellD_ok hc3 (ru.mono e3) q
  cases q2:keyD z with
  | none=>rw [q2] at p3;exact p3.elim
  | some k=>
   rw [q2] at p3
   simp only at p3
   by_cases hz:kvs.length < 1000000
   ·rw [if_pos hz] at p3
    have ey:=key_rep rw_ q2
    subst ey
    obtain ⟨ex,cx⟩:=hc3.setK hO (kr.put (k:=k) ((rv.mono e2).mono e3)) (nodup_put nd)
    have hz':us.length < sizeLine:=by have:=kr.len;have:=sl_1e6;omega
    exact ⟨a,_,ea,DPut.k ha hz',p3 _ O3 ex cx σ (hl3.mono ex)⟩
   ·rw [if_neg hz] at p3;exact p3.elim
def dDisp1 (tk tv:ED):ED:=fun l c=>((tk l).bd fun k=>(tv l).bd fun v=>fun c2=>match keyD k,c2[c.length]? with
 | some kk,some (.dct [])=>some (.ok (.hnd c.length) (c2.set c.length (.dct [(kk,v)])))
 | _,_=>none) (c++[.dct []])
theorem de_disp1 {pos:Pos} (ha:DE X E a ta) (hb:DE X E b tb):DE X E (.Dict [some a] [b] pos) (dDisp1 ta tb):=by
 refine ⟨PE.imp (pe_disp (pps_cons ha.h hb.h pps_nil) rfl rfl (by intro z;cases z) (by show 1<=15;omega)) fun σ H Q h=>?_⟩
 obtain ⟨O,l,c,hl,hc,p⟩:=h
 intro q n
 obtain ⟨h1,h2⟩:=hc.push (o:=.dK []) (x:=.dct []) n ⟨q,[],by simp,upd_same,⟨rfl,.nil⟩,by simp⟩
 have hl':=hl.mono h1
 have p':=Post.mono h1 p
 unfold dDisp1 at p'
 refine liftE_bd hl' h2 p' fun x v H1 O1 c1 e1 hl1 hc1 rv p1=>?_
 refine liftE_bd hl1 hc1 p1 fun y u H2 O2 c2 e2 hl2 hc2 ru p2=>?_
 have hO:O2[c.length]?=some (some q):=e2.pre _ _ (e1.pre _ _ (by rw [← hc.len];simp))
 cases z1:keyD x with
 | none=>rw [z1] at p2;exact p2.elim
 | some kk=>
  rw [z1] at p2
  cases z2:c2[c.length]? with
  | none=>rw [z2] at p2;exact p2.elim
  | some cl=>
   rw [z2] at p2
   cases cl with
   | dct ks=>
    cases ks with
    | nil=>
     obtain ⟨a',us,q1,q2,q3,q4⟩:=hc2.at_ _ _ z2
     rw [hO] at q1;cases q1
     rw [q3.nil_inv] at q2
     have ex:=key_rep (rv.mono e2) z1
     subst ex
     obtain ⟨ex,cx⟩:=hc2.setK (us:=[(kK kk,u)]) (kvs:=[(kk,y)]) hO (.cons ru .nil) (by simp)
     exact ⟨q2,[(kK kk,u)],rfl,by show 1<=15;omega,p2 _ O2 ex cx _ (.hnd hO)⟩
    | cons _ _=>exact p2.elim
   | _=>exact p2.elim
def getM (o:D) (xs:List D):M D:=fun c=>match cellD o c,xs with
 | some (_,kvs),[k,z]=>match keyD k with
  | some kk=>some (.ok ((valD kvs kk).getD z) c)
  | none=>none
 | _,_=>none
def rGet2:V->List V->Hp->VK->Prop:=fun x vs H Q=>∃ a y z o,x=.ref a/\vs=[y,z]/\DGet H a y o/\Q (o.getD z) H
theorem mt_get (hu:X.A.units+64 < cLine):MtR X "dict.get" rGet2:=by
 intro pins s σ H x vs v us Q I rx rv h
 obtain ⟨a,y,z,o,rfl,rfl,g,q⟩:=h
 cases rx
 cases rv with
 | cons r1 t1=>
  cases t1 with
  | cons r2 t2=>
   cases t2
   exact d_get2 (by omega) I g r1 r2 fun w' s' I' rw'=>⟨_,H,I',rw',q⟩
theorem mt_getD:MtD X E rGet2 getM:=by
 intro H O c o xs v vs Q hc ro rx p
 unfold getM at p
 cases z:cellD o c with
 | none=>rw [z] at p;exact p.elim
 | some q=>
  obtain ⟨j,kvs⟩:=q
  rw [z] at p
  obtain ⟨a,us,e1,hO,ha,kr,nd,hk⟩:=cellD_ok hc ro z
  cases rx with
  | nil=>exact p.elim
  | cons r1 r2=>
   cases r2 with
   | nil=>exact p.elim
   | cons r3 r4=>
    cases r4 with
    | cons _ _=>exact p.elim
    | nil=>
     rename_i v1 d1 v2 d2
     simp only at p
     cases z2:keyD d1 with
     | none=>rw [z2] at p;exact p.elim
     | some kk=>
      rw [z2] at p
      simp only at p
      have ey:=key_rep r1 z2
      subst ey
      refine ⟨a,_,_,_,e1,rfl,DGet.k ha,?_⟩
      cases z3:valD kvs kk with
      | none=>
       rw [z3] at p
       rw [kr.val_none z3]
       exact PostD.ok p hc r3
      | some d=>
       rw [z3] at p
       obtain ⟨w,hw,rw_⟩:=kr.val_some z3
       rw [hw]
       exact PostD.ok p hc rw_
theorem de_get2 (hu:X.A.units+64 < cLine) {f:Expr} {tf:ED} (ho:DE X E o to) (ha:DE X E e te) (hf:DE X E f tf) (hbase:attributeBase o "get" X.env (eval o X.env)=eval o X.env:=by rfl)
  (hfew:((backTo cpos (starEach [e,f] X.env)).all (fun x=>!x.1) && (backToKw cpos (keywordEach [] X.env)).all (fun x=>x.1.isSome) && decide (([e,f]:List Expr).length+([]:List Keyword).length+(if ([]:List Keyword).isEmpty then 0 else 1) < 30))=true:=by rfl)
  (hline:(apos.endLine == cpos.line)=true:=by rfl) (hs:starEach [e,f] X.env=(false,eval e X.env)::starEach [f] X.env:=by rfl) (hs2:starEach [f] X.env=(false,eval f X.env)::starEach [] X.env:=by rfl) (hplain:(backTo cpos (starEach [f] X.env)).any (·.1)=false:=by rfl):
  DE X E (.Call (.Attribute o "get" apos) [e,f] [] cpos) (mM .dct getM to (aCons te (aCons tf aNil))):=
 de_mt .dct (.inr (.inl rfl)) PySem.F.plainAttrs_dict PySem.F.slot_dict_get PySem.F.type_dict_get (mt_get hu) mt_getD ho (da_cons ha (da_cons hf da_nil hs2) hs) hbase hfew hline hs hplain
def setdefM (o:D) (xs:List D):M D:=fun c=>match cellD o c,xs with
 | some (j,kvs),[k,z]=>match keyD k with
  | some kk=>if kvs.length < 1000000 then (match valD kvs kk with
   | some d=>some (.ok d c)
   | none=>some (.ok z (c.set j (.dct (putDK kvs kk z))))) else none
  | none=>none
 | _,_=>none
def rSetd:V->List V->Hp->VK->Prop:=fun x vs H Q=>∃ a k z kvs,x=.ref a/\vs=[kV k,z]/\H a=some (.dK kvs)/\kvs.length < sizeLine/\(∀ v,valV kvs k=some v->Q v H)/\(valV kvs k=none->Q z (upd H a (.dK (putK kvs k z))))
theorem mt_setd:MtR X "dict.setdefault" rSetd:=by
 intro pins s σ H x vs v us Q I rx rv h
 obtain ⟨a,k,z,kvs,rfl,rfl,ha,hz,q1,q2⟩:=h
 cases rx
 cases rv with
 | cons r1 t1=>
  cases t1 with
  | cons r2 t2=>
   cases t2
   obtain ⟨hz',hd,vs,rel,dd⟩:=dk_of I.hok ha
   refine call_meetsIn PySem.F.slot_dict_setdefault dd.typeIs PySem.F.entry_dict_setdefault (PySem.F.args_dict_setdefault_3 _ _ _) (kt_meets_setdefault (mixKind X.prog X.w) a (kV_is r1) hd _) ⟨vs,dd,by rw [← rel.length];exact hz',fun w' hw=>?_,fun hn h' dd' hs=>?_⟩
   ·have ro:=rel.val k
    rw [hw] at ro
    cases zz:valV kvs k with
    | none=>rw [zz] at ro;cases ro
    | some w=>
     rw [zz] at ro
     exact ⟨w,H,I.tok _,ro,q1 w zz⟩
   ·have zn:valV kvs k=none:=by
     have ro:=rel.val k
     rw [hn] at ro
     cases zz:valV kvs k with
     | none=>rfl
     | some w=>rw [zz] at ro;cases ro
    have he:∃ q,h'.get? a=some q:=let ⟨q,_,_,hq,_⟩:=dd';⟨q,hq⟩
    have hl:(putK kvs k z).length<=sizeLine:=by have:=length_putK kvs k z;omega
    exact ⟨z,_,d_write I (by rw [ha];exact True.intro) hs he (dk_new hl hd (rel.put k r2) dd'),r2,q2 zn⟩
theorem mt_setdD:MtD X E rSetd setdefM:=by
 intro H O c o xs v vs Q hc ro rx p
 unfold setdefM at p
 cases z:cellD o c with
 | none=>rw [z] at p;exact p.elim
 | some q=>
  obtain ⟨j,kvs⟩:=q
  rw [z] at p
  obtain ⟨a,us,e1,hO,ha,kr,nd,hk⟩:=cellD_ok hc ro z
  cases rx with
  | nil=>exact p.elim
  | cons r1 r2=>
   cases r2 with
   | nil=>exact p.elim
   | cons r3 r4=>
    cases r4 with
    | cons _ _=>exact p.elim
    | nil=>
     rename_i v1 d1 v2 d2
     simp only at p
     cases z2:keyD d1 with
     | none=>rw [z2] at p;exact p.elim
     | some kk=>
      rw [z2] at p
      simp only at p
      by_cases hz:kvs.length < 1000000
      ·rw [if_pos hz] at p
       have ey:=key_rep r1 z2
       subst ey
       have hz':us.length < sizeLine:=by have:=kr.len;have:=sl_1e6;omega
       refine ⟨a,kK kk,_,us,e1,rfl,ha,hz',fun w hw=>?_,fun hn=>?_⟩
       ·cases z3:valD kvs kk with
        | none=>rw [kr.val_none z3] at hw;cases hw
        | some d=>
         rw [z3] at p
         obtain ⟨w',hw',rw_⟩:=kr.val_some z3
         rw [hw'] at hw;cases hw
         exact PostD.ok p hc rw_
       ·cases z3:valD kvs kk with
        | some d=>obtain ⟨w',hw',rw_⟩:=kr.val_some z3;rw [hw'] at hn;cases hn
        | none=>
         rw [z3] at p
         obtain ⟨ex,cx⟩:=hc.setK hO (kr.put (k:=kk) r3) (nodup_put nd)
         exact p _ O ex cx _ (r3.mono ex)
      ·rw [if_neg hz] at p;exact p.elim
theorem de_setd {f:Expr} {tf:ED} (ho:DE X E o to) (ha:DE X E e te) (hf:DE X E f tf) (hbase:attributeBase o "setdefault" X.env (eval o X.env)=eval o X.env:=by rfl)
  (hfew:((backTo cpos (starEach [e,f] X.env)).all (fun x=>!x.1) && (backToKw cpos (keywordEach [] X.env)).all (fun x=>x.1.isSome) && decide (([e,f]:List Expr).length+([]:List Keyword).length+(if ([]:List Keyword).isEmpty then 0 else 1) < 30))=true:=by rfl)
  (hline:(apos.endLine == cpos.line)=true:=by rfl) (hs:starEach [e,f] X.env=(false,eval e X.env)::starEach [f] X.env:=by rfl) (hs2:starEach [f] X.env=(false,eval f X.env)::starEach [] X.env:=by rfl) (hplain:(backTo cpos (starEach [f] X.env)).any (·.1)=false:=by rfl):
  DE X E (.Call (.Attribute o "setdefault" apos) [e,f] [] cpos) (mM .dct setdefM to (aCons te (aCons tf aNil))):=
 de_mt .dct (.inr (.inl rfl)) PySem.F.plainAttrs_dict PySem.F.slot_dict_setdefault PySem.F.type_dict_setdefault mt_setd mt_setdD ho (da_cons ha (da_cons hf da_nil hs2) hs) hbase hfew hline hs hplain
def dPopM (o:D) (xs:List D):M D:=fun c=>match cellD o c,xs with
 | some (j,kvs),[k]=>match keyD k with
  | some kk=>match valD kvs kk with
   | some d=>some (.ok d (c.set j (.dct (dropDK kvs kk))))
   | none=>none
  | none=>none
 | _,_=>none
def rDPop:V->List V->Hp->VK->Prop:=fun x vs H Q=>∃ a k v kvs,x=.ref a/\vs=[kV k]/\H a=some (.dK kvs)/\valV kvs k=some v/\Q v (upd H a (.dK (dropK kvs k)))
theorem mt_dpop:MtR X "dict.pop" rDPop:=by
 intro pins s σ H x vs v us Q I rx rv h
 obtain ⟨a,k,z,kvs,rfl,rfl,ha,hv,q⟩:=h
 cases rx
 cases rv with
 | cons r1 t1=>
  cases t1
  exact d_pop I ha r1 hv (.inl rfl) fun w' s' I' rw'=>⟨_,_,I',rw',q⟩
theorem mt_dpopD:MtD X E rDPop dPopM:=by
 intro H O c o xs v vs Q hc ro rx p
 unfold dPopM at p
 cases z:cellD o c with
 | none=>rw [z] at p;exact p.elim
 | some q=>
  obtain ⟨j,kvs⟩:=q
  rw [z] at p
  obtain ⟨a,us,e1,hO,ha,kr,nd,hk⟩:=cellD_ok hc ro z
  cases rx with
  | nil=>exact p.elim
  | cons r1 r2=>
   cases r2 with
   | cons _ _=>exact p.elim
   | nil=>
    rename_i v1 d1
    simp only at p
    cases z2:keyD d1 with
    | none=>rw [z2] at p;exact p.elim
    | some kk=>
     rw [z2] at p
     simp only at p
     cases z3:valD kvs kk with
     | none=>rw [z3] at p;exact p.elim
     | some d=>
      rw [z3] at p
      have ey:=key_rep r1 z2
      subst ey
      obtain ⟨w',hw',rw_⟩:=kr.val_some z3
      obtain ⟨ex,cx⟩:=hc.setK hO (kr.drop (k:=kk)) (nodup_drop nd)
      exact ⟨a,kK kk,w',us,e1,rfl,ha,hw',p _ O ex cx _ (rw_.mono ex)⟩
theorem de_dpop (ho:DE X E o to) (ha:DE X E e te) (hbase:attributeBase o "pop" X.env (eval o X.env)=eval o X.env:=by rfl)
  (hfew:((backTo cpos (starEach [e] X.env)).all (fun x=>!x.1) && (backToKw cpos (keywordEach [] X.env)).all (fun x=>x.1.isSome) && decide (([e]:List Expr).length+([]:List Keyword).length+(if ([]:List Keyword).isEmpty then 0 else 1) < 30))=true:=by rfl)
  (hline:(apos.endLine == cpos.line)=true:=by rfl) (hs:starEach [e] X.env=(false,eval e X.env)::starEach [] X.env:=by rfl) (hplain:(backTo cpos (starEach [] X.env)).any (·.1)=false:=by rfl):
  DE X E (.Call (.Attribute o "pop" apos) [e] [] cpos) (mM .dct dPopM to (aCons te aNil)):=
 de_mt .dct (.inr (.inl rfl)) PySem.F.plainAttrs_dict PySem.F.slot_dict_pop PySem.F.type_dict_pop mt_dpop mt_dpopD ho (da_cons ha da_nil hs) hbase hfew hline hs hplain
def revL (o:D) (xs:List D):M D:=fun c=>match cellL o c,xs with
 | some (k,ys),[]=>some (.ok .non (c.set k (.lst ys.reverse)))
 | _,_=>none
theorem mt_revD:MtD X E rReverse revL:=by
 intro H O c o xs v vs Q hc ro rx p
 unfold revL at p
 cases z:cellL o c with
 | none=>rw [z] at p;exact p.elim
 | some q=>
  obtain ⟨k,ys⟩:=q
  rw [z] at p
  obtain ⟨a,us,e1,hO,ha,ru,hk⟩:=cellL_ok hc ro z
  cases rx with
  | cons _ _=>exact p.elim
  | nil=>
   obtain ⟨ex,cx⟩:=hc.setL hO ru.rev
   exact ⟨a,us,e1,rfl,ha,p _ O ex cx _ .non⟩
theorem de_revm (ho:DE X E o to) (hbase:attributeBase o "reverse" X.env (eval o X.env)=eval o X.env:=by rfl) (hline:(apos.endLine == cpos.line)=true:=by rfl):DE X E (.Call (.Attribute o "reverse" apos) [] [] cpos) (mM .lst revL to aNil):=
 de_mt0 .lst (.inl rfl) PySem.F.plainAttrs_list PySem.F.slot_list_reverse PySem.F.type_list_reverse mt_reverse mt_revD ho hbase hline
end
open PyProof.Rows hiding St
theorem vals_ix:∀ {xs:List V} {us:List Value},xs.length=us.length->(∀ (j:Nat) x u,xs[j]?=some x->us[j]?=some u->RelV x u)->Vals xs us
 | [],[],_,_=>.nil
 | x::xs,u::us,hl,h=>.cons (h 0 x u rfl rfl) (vals_ix (by simpa using hl) fun j y w h1 h2=>h (j+1) y w (by simpa using h1) (by simpa using h2))
 | [],_::_,hl,_=>by simp at hl
 | _::_,[],hl,_=>by simp at hl
section
variable {X:Cx} {E:XK} {a b e o i value:Expr} {ta tb te to ti:ED} {pos pos' apos cpos tpos:Pos}
def tLV (to:TE):TE:=fun σ H Q=>to σ H fun x H1=>∃ a kvs,x=.ref a/\H1 a=some (.dK kvs)/\∀ l,H1 l=none->Q (.ref l) (upd H1 l (.lst (kvs.map (·.2))))
theorem pe_listV {to:TE} {p2:Pos} (hcalm:X.calm=true) (hm:X.mg "list"=none) (ho:PE X o to) (hg:Gl X "list":=by rfl)
  (hbase:attributeBase o "values" X.env (eval o X.env)=eval o X.env:=by rfl) (hline:(apos.endLine == cpos.line)=true:=by rfl)
  (hst:starEach [.Call (.Attribute o "values" apos) [] [] cpos] X.env=(false,eval (.Call (.Attribute o "values" apos) [] [] cpos) X.env)::starEach [] X.env:=by rfl):
  PE X (.Call (.Name "list" p2) [.Call (.Attribute o "values" apos) [] [] cpos] [] pos) (tLV to):=by
 intro pins s σ H Q I h
 refine wpAny_Call_Name_kw (ld_blt (u:=.type "list") I hg hm (by rfl) ?_ (by decide) (by decide))
 refine PyProof.Rows.callWith_type1 ?_ hst rfl
 rw [hst]
 show wpAny _ _ (spliced ((false,eval (.Call (.Attribute o "values" apos) [] [] cpos) X.env)::backTo pos (starEach [] X.env))) _ _ s
 refine Calls.spliced_cons ?_
 refine wpAny_Call_method0_late hbase hline (thn (ho pins s σ H _ I h) fun v s1 ⟨x,H1,I1,r1,a,kvs,ex,ha,q⟩=>?_)
 subst ex
 cases r1
 obtain ⟨t1,t2,t3⟩:=isD_at I1 (.inl ⟨kvs,.inl ha⟩)
 refine ⟨"dict","dict.values",PySem.F.plainAttrs_dict,PySem.F.slot_dict_values,PySem.F.type_dict_values,t1,t2,Calls.callWith_builtin rfl (PySem.evalArgs_none ?_)⟩
 obtain ⟨z,hd,vs,rel,dd⟩:=dk_of I1.hok ha
 refine call_meetsIn PySem.F.slot_dict_values dd.typeIs PySem.F.entry_dict_values (PySem.F.args_dict_values_1 _) (meets_dict_values (mixKind X.prog X.w) a hd) ⟨⟨vs,dd⟩,?_⟩
 refine Calls.spliced_nil ?_
 have I2:Inv X pins σ H1 { s1 with heap:=s1.heap.push { cls:=.type "dict_values",data:=.fields #[.ref a] } }:=I1.kept (t':=s1.toks) fun b u hb=>Heap.get?_push_of_some _ hb
 obtain ⟨z2,hd2,vs2,rel2,dd2⟩:=dk_of I2.hok ha
 obtain ⟨ep,hat⟩:=dd2.dictAt
 refine PySem.W.kdl_call (PySem.W.kdl_values (knd:=mixKind X.prog X.w) (kvs:=vs2) (ep:=ep) (r:=s1.heap.objs.size)) (I2.ok.hd hcalm) ⟨⟨_,Heap.get?_push_size _ rfl,rfl,rfl⟩,hat⟩ (by rw [← rel2.length];exact z2) fun h' tk acc' c' hk hD hacc=>?_
 have hlen:(kvs.map (·.2)).length=acc'.toList.length:=by
  have h1:=hacc.1
  have h2:=rel2.length
  simp only [List.length_map,Array.length_toList]
  omega
 have hv:Vals (kvs.map (·.2)) acc'.toList:=vals_ix hlen fun j x u h1 h2=>by
  obtain ⟨k,e1⟩:=hacc.2 j u (by rw [← Array.getElem?_toList];exact h2)
  rw [List.getElem?_map] at h1
  cases zz:kvs[j]? with
  | none=>rw [zz] at h1;cases h1
  | some p=>
   rw [zz] at h1
   simp only [Option.map_some,Option.some.injEq] at h1
   have:=kv_get rel2 zz e1
   rw [← h1]
   exact this
 have hz:(kvs.map (·.2)).length<=sizeLine:=by rw [List.length_map];exact z2
 exact ⟨.ref _,_,I2.laid (t':=tk) hk (Nat.le_refl _) (show ObjOk X.prog X.w _ h' _ (.lst _) from ⟨hz,acc'.toList,c',hv,by simpa using hD⟩),rfl,q _ (I2.hok.fresh (Nat.le_refl _))⟩
where
 kv_get:∀ {kvs:List (Key×V)} {vs:List (Key×Value)} {j:Nat} {p:Key×V} {k:Key} {u:Value},KV kvs vs->kvs[j]?=some p->vs[j]?=some (k,u)->RelV p.2 u:=by
  intro kvs vs j p k u r
  unfold KV at r
  induction r generalizing j with
  | nil=>intro h;cases h
  | cons h t ih=>
   intro h1 h2
   cases j with
   | zero=>
    simp only [List.getElem?_cons_zero,Option.some.injEq] at h1 h2
    subst h1 h2
    exact h.2
   | succ j=>exact ih (by simpa using h1) (by simpa using h2)
def listV (d:D):M D:=fun c=>match cellD d c with
 | some (_,kvs)=>some (.ok (.lst (kvs.map (·.2))) c)
 | none=>none
theorem de_listV {p2:Pos} (hcalm:X.calm=true) (hm:X.mg "list"=none) (ho:DE X E o to) (hg:Gl X "list":=by rfl)
  (hbase:attributeBase o "values" X.env (eval o X.env)=eval o X.env:=by rfl) (hline:(apos.endLine == cpos.line)=true:=by rfl)
  (hst:starEach [.Call (.Attribute o "values" apos) [] [] cpos] X.env=(false,eval (.Call (.Attribute o "values" apos) [] [] cpos) X.env)::starEach [] X.env:=by rfl):
  DE X E (.Call (.Name "list" p2) [.Call (.Attribute o "values" apos) [] [] cpos] [] pos) (d1 listV to):=by
 refine ⟨PE.imp (pe_listV hcalm hm ho.h hg hbase hline hst) fun σ H Q h=>?_⟩
 obtain ⟨O,l,c,hl,hc,p⟩:=h
 refine liftE_bd hl hc p fun x v H1 O1 c1 e1 hl1 hc1 rv p1=>?_
 unfold listV at p1
 cases z:cellD x c1 with
 | none=>rw [z] at p1;exact p1.elim
 | some q=>
  obtain ⟨j,kvs⟩:=q
  rw [z] at p1
  obtain ⟨a,us,ea,hO,ha,kr,nd,hk⟩:=cellD_ok hc1 rv z
  exact ⟨a,us,ea,ha,fun q n=>PostD.new p1 hc1 n (hc1.lstNew n kr.2)⟩
def sAug (i:Nat) (f:Int->Int->Int) (te:ED):SD:=fun l=>match l[i]? with
 | some (some (.int n))=>(te l).bd fun d=>match d with
  | .int m=>M.ret (.nx (l.set i (some (.int (f n m)))))
  | _=>M.stuck
 | _=>M.stuck
theorem ds_aug {i:Nat} {x:Str} {op:Operator} {f:Int->Int->Int} (ho:PIp X op (ipI f)) (hN:X.N.Nodup) (he:DE X E e te) (hi:X.N[i]?=some x:=by rfl) (hx:Loc X.env.scope x:=by first | exact Or.inl rfl | exact Or.inr rfl)
  (hf:X.fn x=true\/X.env.scope.names.lookup x=some .local:=by first | exact .inl rfl | exact .inr rfl):DS X E (.AugAssign (.Name x pos') op e pos) (sAug i f te):=by
 refine ⟨PS.imp (ps_aug hN hi hx he.h ho hf) fun Dn σ H h=>?_⟩
 obtain ⟨O,l,c,hl,hc,p⟩:=h
 unfold sAug at p
 cases z:l[i]? with
 | none=>rw [z] at p;exact p.elim
 | some od=>
  cases od with
  | none=>rw [z] at p;exact p.elim
  | some d=>
   obtain ⟨v,h1,h2⟩:=hl.at_ i d z
   cases h2 with
   | int n=>
    rw [z] at p
    refine ⟨_,h1,liftE_bd hl hc p fun y u H1 O1 c1 e1 hl1 hc1 ru p1=>?_⟩
    cases ru with
    | int m=>exact ⟨n,m,rfl,rfl,Post.ret p1 hc1 _ (hl1.set i (.int _))⟩
    | _=>exact p1.elim
   | _=>rw [z] at p;exact p.elim
end
open Classical in
noncomputable def gF (tb:SD) (N:List Str) (P:List D->List Cell->D->List Cell->Prop):FD:=fun ds c=>if h:∃ q:D×List Cell,P ds c q.1 q.2/\Fin c (tb (startD N ds) c) (some (.ok q.1 q.2)) then some (.ok (Classical.choose h).1 (Classical.choose h).2) else none
theorem run_F {tb:SD} {N:List Str} {P:List D->List Cell->D->List Cell->Prop} {n:Nat}:∀ ds c r,ds.length=n->gF tb N P ds c=some r->∃ d c1,r=.ok d c1/\Fin c (tb (startD N ds) c) (some (.ok d c1)):=by
 intro ds c r hl e
 unfold gF at e
 split at e
 ·rename_i h
  cases e
  exact ⟨_,_,rfl,(Classical.choose_spec h).2⟩
 ·cases e
theorem call_F {tb:SD} {N:List Str} {P:List D->List Cell->D->List Cell->Prop} {n:Nat} {ds:List D} {c:List Cell} (hl:ds.length=n) (h:∃ d c',P ds c d c'/\Fin c (tb (startD N ds) c) (some (.ok d c'))):∃ d c',P ds c d c'/\gN n (gF tb N P) ds c=some (.ok d c'):=by
 have h':∃ q:D×List Cell,P ds c q.1 q.2/\Fin c (tb (startD N ds) c) (some (.ok q.1 q.2)):=let ⟨d,c',h1,h2⟩:=h;⟨(d,c'),h1,h2⟩
 refine ⟨(Classical.choose h').1,(Classical.choose h').2,(Classical.choose_spec h').1,?_⟩
 unfold gN gF
 rw [if_pos hl,dif_pos h']
open PyProof.Rows hiding St
theorem while_inv2 {p:TD} {sb:SD} (I:Nat->L->List Cell->Prop) (J:L->List Cell->Prop)
  (step:∀ m l c,I m l c->(p l c=some (.ok false c)/\J l c)\/(p l c=some (.ok true c)/\∃ l2 c2 m2,(sb l c=some (.ok (.nx l2) c2)\/sb l c=some (.ok (.ct l2) c2))/\I m2 l2 c2/\m2 < m)):
  ∀ (fuel:Nat) (m:Nat) (l:L) (c:List Cell),I m l c->m < fuel->∃ l' c',whileN p sb fuel l c=some (.ok (.nx l') c')/\J l' c'
 | 0,_,_,_,_,h=>absurd h (Nat.not_lt_zero _)
 | fuel+1,m,l,c,h,hm=>by
  rcases step m l c h with ⟨h1,h2⟩ | ⟨h1,l2,c2,m2,h2,h3,h4⟩
  ·refine ⟨l,c,?_,h2⟩
   simp only [whileN]
   rw [bd_ok h1]
   rfl
  ·obtain ⟨l',c',h5,h6⟩:=while_inv2 I J step fuel m2 l2 c2 h3 (by omega)
   refine ⟨l',c',?_,h6⟩
   simp only [whileN]
   rw [bd_ok h1]
   rcases h2 with h2 | h2
   ·simp only [if_true];rw [bd_ok h2];exact h5
   ·simp only [if_true];rw [bd_ok h2];exact h5
abbrev stepD (n:Int) (p q:List Nat) (r:Int):D:=.tup [.int n,.str p,.str q,.int r]
def IsStep (rows:List D) (n:Int) (p q:List Nat) (r:Int):Prop:=stepD n p q r∈rows\/stepD n q p (0 - r)∈rows
inductive Walk (rows:List D) (other:List Nat):List Nat->List (List Nat)->List D->Prop where
 | nil {gone:List (List Nat)} (h:other∉gone):Walk rows other other gone []
 | cons {n r:Int} {p q:List Nat} {gone:List (List Nat)} {xs:List D} (s:IsStep rows n p q r) (h:p∉gone) (t:Walk rows other q (gone++[p]) xs):Walk rows other p gone (stepD n p q r::xs)
def turnD:D->D
 | .tup [.int n,.str p,.str q,.int r]=>.tup [.int n,.str q,.str p,.int (0 - r)]
 | d=>d
def both:List D->List D
 | []=>[]
 | x::xs=>x::turnD x::both xs
theorem both_len:∀ xs:List D,(both xs).length=2 * xs.length
 | []=>rfl
 | x::xs=>by simp [both,both_len xs];omega
theorem both_app:∀ xs ys:List D,both (xs++ys)=both xs++both ys
 | [],_=>rfl
 | x::xs,ys=>by simp [both,both_app xs ys]
theorem both_step {n r:Int} {p q:List Nat}:∀ {rows:List D},rows.all okRow=true->stepD n p q r∈both rows->IsStep rows n p q r
 | [],_,h=>by cases h
 | x::xs,ho,h=>by
  simp only [List.all_cons,Bool.and_eq_true] at ho
  simp only [both,List.mem_cons] at h
  rcases h with h | h | h
  ·exact .inl (by rw [h];exact List.mem_cons_self)
  ·obtain ⟨n',p',q',r',rfl⟩:=okRow_is ho.1
   simp only [turnD,D.tup.injEq,List.cons.injEq,D.int.injEq,D.str.injEq,and_true] at h
   obtain ⟨rfl,rfl,rfl,rfl⟩:=h
   refine .inr ?_
   have e:(0:Int) - (0 - r')=r':=by omega
   rw [e]
   exact List.mem_cons_self
  ·rcases both_step ho.2 h with h | h
   ·exact .inl (List.mem_cons_of_mem _ h)
   ·exact .inr (List.mem_cons_of_mem _ h)
theorem step_both {n r:Int} {p q:List Nat}:∀ {rows:List D},stepD n p q r∈rows->stepD n p q r∈both rows/\stepD n q p (0 - r)∈both rows
 | [],h=>by cases h
 | x::xs,h=>by
  rcases List.mem_cons.mp h with h | h
  ·subst h
   exact ⟨List.mem_cons_self,List.mem_cons_of_mem _ List.mem_cons_self⟩
  ·have ih:=step_both h
   exact ⟨List.mem_cons_of_mem _ (List.mem_cons_of_mem _ ih.1),List.mem_cons_of_mem _ (List.mem_cons_of_mem _ ih.2)⟩
theorem IsStep.edge {rows:List D} {n r:Int} {p q:List Nat} (h:IsStep rows n p q r):Edge rows p q\/Edge rows q p:=by
 rcases h with h | h
 ·exact .inl ⟨_,_,h⟩
 ·exact .inr ⟨_,_,h⟩
theorem IsStep.ends {rows:List D} {n r:Int} {p q:List Nat} (h:IsStep rows n p q r):p∈ends rows/\q∈ends rows:=by
 rcases h with h | h
 ·exact mem_ends h
 ·exact (mem_ends h).symm
theorem IsStep.reach {rows:List D} {n r:Int} {one p q:List Nat} (h:IsStep rows n p q r) (g:Reach rows one p):Reach rows one q:=by
 rcases h.edge with e | e
 ·exact g.fwd e
 ·exact g.bwd e
def frm (p:List Nat):D->Bool
 | .tup [.int _,.str p',.str _,.int _]=>decide (p'=p)
 | _=>false
theorem frm_is {p:List Nat} {d:D} (h:frm p d=true):∃ n q r,d=stepD n p q r:=by
 unfold frm at h
 split at h
 ·rw [decide_eq_true_eq] at h
  subst h
  exact ⟨_,_,_,rfl⟩
 ·cases h
theorem frm_step {p p' q:List Nat} {n r:Int}:frm p (stepD n p' q r)=decide (p'=p):=rfl
def Grown (c cs:List Cell):Prop:=∃ ex,cs=c++ex
theorem Grown.refl (c:List Cell):Grown c c:=⟨[],by simp⟩
theorem Grown.push {c cs:List Cell} (h:Grown c cs) (x:Cell):Grown c (cs++[x]):=by
 obtain ⟨ex,rfl⟩:=h
 exact ⟨ex++[x],by simp⟩
theorem Grown.set {c cs:List Cell} (h:Grown c cs) {j:Nat} (x:Cell) (hj:c.length<=j):Grown c (cs.set j x):=by
 obtain ⟨ex,rfl⟩:=h
 exact ⟨ex.set (j - c.length) x,by rw [List.set_append_right _ _ hj]⟩
theorem Grown.len {c cs:List Cell} (h:Grown c cs):c.length<=cs.length:=by
 obtain ⟨ex,rfl⟩:=h
 simp
theorem Grown.kept {c cs:List Cell} (h:Grown c cs):Kept c cs:=by
 obtain ⟨ex,rfl⟩:=h
 exact Kept.app c ex
theorem Grown.take {c cs:List Cell} (h:Grown c cs):cs.take c.length=c:=by
 obtain ⟨ex,rfl⟩:=h
 simp
theorem Grown.trans {a b c:List Cell} (h:Grown a b) (g:Grown b c):Grown a c:=by
 obtain ⟨e1,rfl⟩:=h
 obtain ⟨e2,rfl⟩:=g
 exact ⟨e1++e2,by simp⟩
structure Lv (c:List Cell) (S:List D) (i:Nat) (cs:List Cell):Prop where
 grown:Grown c cs
 hi:c.length<=i
 at_:∃ kvs,cs[i]?=some (.dct kvs)/\kvs.length<=S.length/\(∀ p d,valD kvs (.inr p)=some d->∃ j,d=.hnd j/\c.length<=j/\cs[j]?=some (.lst (S.filter (frm p))))/\
  (∀ p1 p2 j,valD kvs (.inr p1)=some (.hnd j)->valD kvs (.inr p2)=some (.hnd j)->p1=p2)/\(∀ p,valD kvs (.inr p)=none->S.filter (frm p)=[])
theorem putDK_len (kvs:List (DK×D)) (k:DK) (v:D):(putDK kvs k v).length<=kvs.length+1:=by
 unfold putDK
 split <;> simp
theorem putDK_new {kvs:List (DK×D)} {k:DK} (v:D) (h:valD kvs k=none):putDK kvs k v=kvs++[(k,v)]:=by
 unfold putDK
 rw [h]
 rfl
theorem Lv.there {c:List Cell} {S:List D} {i:Nat} {cs:List Cell} {n r:Int} {p q:List Nat} {kvs:List (DK×D)} {j:Nat} (h:Lv c S i cs) (hk:cs[i]?=some (.dct kvs)) (hv:valD kvs (.inr p)=some (.hnd j)):
  c.length<=j/\cs[j]?=some (.lst (S.filter (frm p)))/\Lv c (S++[stepD n p q r]) i ((cs++[Cell.lst []]).set j (Cell.lst (S.filter (frm p)++[stepD n p q r]))):=by
 obtain ⟨kvs',hk',hl,h1,h2,h3⟩:=h.at_
 rw [hk] at hk';cases hk'
 obtain ⟨j',e,hj,hc⟩:=h1 p _ hv
 cases e
 refine ⟨hj,hc,(h.grown.push _).set _ hj,h.hi,kvs,?_,by simp;omega,fun p' d hd=>?_,h2,fun p' hn=>?_⟩
 ·have ne:j≠i:=fun e=>by rw [e,hk] at hc;cases hc
  rw [List.getElem?_set_ne ne,List.getElem?_append_left (List.getElem?_eq_some_iff.mp hk).1]
  exact hk
 ·obtain ⟨j',rfl,hj',hc'⟩:=h1 p' d hd
  refine ⟨j',rfl,hj',?_⟩
  by_cases e:j=j'
  ·subst e
   have ep:=h2 p p' j hv hd
   subst ep
   rw [List.getElem?_set_self (by rw [List.length_append];have:=(List.getElem?_eq_some_iff.mp hc).1;omega),List.filter_append]
   simp [frm_step]
  ·have np:¬ p=p':=fun z=>e (by subst z;rw [hv] at hd;cases hd;rfl)
   rw [List.getElem?_set_ne e,List.getElem?_append_left (List.getElem?_eq_some_iff.mp hc').1,hc',List.filter_append]
   simp [frm_step,np]
 ·have np:¬ p=p':=fun z=>by subst z;rw [hv] at hn;cases hn
  rw [List.filter_append,h3 p' hn]
  simp [frm_step,np]
theorem Lv.new {c:List Cell} {S:List D} {i:Nat} {cs:List Cell} {n r:Int} {p q:List Nat} {kvs:List (DK×D)} (h:Lv c S i cs) (hk:cs[i]?=some (.dct kvs)) (hv:valD kvs (.inr p)=none):
  Lv c (S++[stepD n p q r]) i (((cs++[Cell.lst []]).set i (Cell.dct (putDK kvs (.inr p) (.hnd cs.length)))).set cs.length (Cell.lst [stepD n p q r])):=by
 obtain ⟨kvs',hk',hl,h1,h2,h3⟩:=h.at_
 rw [hk] at hk';cases hk'
 have hi:=(List.getElem?_eq_some_iff.mp hk).1
 have hlen:=h.grown.len
 have old:∀ p' j',valD kvs (.inr p')=some (.hnd j')->j' < cs.length/\j'≠i:=fun p' j' e=>by
  obtain ⟨j2,e2,_,hc⟩:=h1 p' _ e
  cases e2
  exact ⟨(List.getElem?_eq_some_iff.mp hc).1,fun z=>by rw [z,hk] at hc;cases hc⟩
 refine ⟨((h.grown.push _).set _ h.hi).set _ hlen,h.hi,putDK kvs (.inr p) (.hnd cs.length),?_,?_,fun p' d hd=>?_,fun p1 p2 j a b=>?_,fun p' hn=>?_⟩
 ·rw [List.getElem?_set_ne (by omega),List.getElem?_set_self (by simp;omega)]
 ·have:=putDK_len kvs (.inr p) (.hnd cs.length)
  simp only [List.length_append,List.length_singleton]
  omega
 ·rw [valD_put] at hd
  by_cases e:(Sum.inr p':DK)=.inr p
  ·rw [if_pos e] at hd
   cases hd
   cases e
   refine ⟨_,rfl,hlen,?_⟩
   rw [List.getElem?_set_self (by simp),List.filter_append,h3 p hv]
   simp [frm_step]
  ·rw [if_neg e] at hd
   obtain ⟨j',rfl,hj',hc'⟩:=h1 p' d hd
   obtain ⟨o1,o2⟩:=old p' j' hd
   refine ⟨j',rfl,hj',?_⟩
   have np:¬ p=p':=fun z=>e (by rw [z])
   rw [List.getElem?_set_ne (by omega),List.getElem?_set_ne (fun z=>o2 z.symm),List.getElem?_append_left o1,hc',List.filter_append]
   simp [frm_step,np]
 ·rw [valD_put] at a b
  by_cases e1:(Sum.inr p1:DK)=.inr p
  ·by_cases e2:(Sum.inr p2:DK)=.inr p
   ·cases e1;cases e2;rfl
   ·rw [if_pos e1] at a
    rw [if_neg e2] at b
    cases a
    have:=(old p2 _ b).1
    omega
  ·rw [if_neg e1] at a
   by_cases e2:(Sum.inr p2:DK)=.inr p
   ·rw [if_pos e2] at b
    cases b
    have:=(old p1 _ a).1
    omega
   ·rw [if_neg e2] at b
    exact h2 p1 p2 j a b
 ·rw [valD_put] at hn
  by_cases e:(Sum.inr p':DK)=.inr p
  ·rw [if_pos e] at hn;cases hn
  ·rw [if_neg e] at hn
   have np:¬ p=p':=fun z=>e (by rw [z])
   rw [List.filter_append,h3 p' hn]
   simp [frm_step,np]
structure Lst (rows:List D) (one:List Nat) (pegs:List (List Nat)) (kvs:List (DK×D)):Prop where
 keys:kvs.map (·.1)=pegs.map Sum.inr
 nodup:pegs.Nodup
 first:pegs[0]?=some one
 val0:valD kvs (.inr one)=some .non
 val:∀ (k:Nat) p,pegs[k]?=some p->0 < k->∃ n q r,∃ j:Nat,j < k/\pegs[j]?=some q/\valD kvs (.inr p)=some (stepD n q p r)/\IsStep rows n q p r
 vals:∀ d∈kvs.map (·.2),d=.non\/okRow d=true
 room:pegs.length+unseen rows pegs<=2 * rows.length+1
theorem Lst.has {rows:List D} {one:List Nat} {pegs:List (List Nat)} {kvs:List (DK×D)} (h:Lst rows one pegs kvs) (p:List Nat):(valD kvs (.inr p)).isSome=decide (p∈pegs):=by
 have:(valD kvs (.inr p)).isSome=true↔p∈pegs:=by
  rw [valD_key,h.keys,List.mem_map]
  exact ⟨fun ⟨a,b,e⟩=>by cases e;exact b,fun b=>⟨p,b,rfl⟩⟩
 cases z:(valD kvs (.inr p)).isSome with
 | true=>simp [this.mp z]
 | false=>
  have:p∉pegs:=fun m=>by rw [this.mpr m] at z;cases z
  simp [this]
theorem Lst.start (rows:List D) (one:List Nat):Lst rows one [one] [(.inr one,.non)] where
 keys:=rfl
 nodup:=by simp
 first:=rfl
 val0:=by simp [valD_cons]
 val:=fun k p h hk=>by
  have:=(List.getElem?_eq_some_iff.mp h).1
  simp at this
  omega
 vals:=fun d hd=>by simp at hd;exact .inl hd
 room:=by
  have:=unseen_le rows [one]
  simp only [List.length_singleton]
  omega
theorem Lst.add {rows:List D} {one:List Nat} {pegs:List (List Nat)} {kvs:List (DK×D)} {n r:Int} {p q:List Nat} {k:Nat} (h:Lst rows one pegs kvs) (hp:pegs[k]?=some p) (hs:IsStep rows n p q r) (hq:q∉pegs):
  Lst rows one (pegs++[q]) (kvs++[(.inr q,stepD n p q r)]):=by
 have hk:=(List.getElem?_eq_some_iff.mp hp).1
 have vn:valD kvs (.inr q)=none:=by
  have:=h.has q
  rw [decide_eq_false hq] at this
  cases z:valD kvs (.inr q) with
  | none=>rfl
  | some d=>rw [z] at this;cases this
 have look:∀ x,valD (kvs++[(Sum.inr q,stepD n p q r)]) (.inr x)=if x=q then some (stepD n p q r) else valD kvs (.inr x):=fun x=>by
  rw [← putDK_new _ vn,valD_put]
  by_cases e:x=q
  ·subst e;simp
  ·have e':¬ (Sum.inr x:DK)=.inr q:=fun z=>e (by cases z;rfl)
   rw [if_neg e',if_neg e]
 have m1:one∈pegs:=List.mem_of_getElem? h.first
 exact {
  keys:=by rw [List.map_append,List.map_append,h.keys];rfl
  nodup:=by
   rw [List.nodup_append]
   refine ⟨h.nodup,by simp,fun a ha b hb=>?_⟩
   simp only [List.mem_singleton] at hb
   subst hb
   exact fun z=>hq (z ▸ ha)
  first:=by rw [List.getElem?_append_left (by omega)];exact h.first
  val0:=by rw [look,if_neg (fun z:one=q=>hq (z ▸ m1))];exact h.val0
  val:=fun k' p' hp' hk'=>by
   by_cases e:k' < pegs.length
   ·rw [List.getElem?_append_left e] at hp'
    obtain ⟨n',q',r',j,hj,hq',hv,hs'⟩:=h.val k' p' hp' hk'
    refine ⟨n',q',r',j,hj,by rw [List.getElem?_append_left (by omega)];exact hq',?_,hs'⟩
    rw [look,if_neg (fun z:p'=q=>hq (z ▸ List.mem_of_getElem? hp'))]
    exact hv
   ·rw [List.getElem?_append_right (by omega)] at hp'
    have e0:k' - pegs.length=0:=by
     have:=(List.getElem?_eq_some_iff.mp hp').1
     simp at this
     omega
    rw [e0] at hp'
    simp at hp'
    subst hp'
    exact ⟨n,p,r,k,by omega,by rw [List.getElem?_append_left hk];exact hp,by rw [look,if_pos rfl],hs⟩
  vals:=fun d hd=>by
   rw [List.map_append] at hd
   rcases List.mem_append.mp hd with hd | hd
   ·exact h.vals d hd
   ·simp at hd;subst hd;exact .inr rfl
  room:=by
   have:=unseen_lt (hs.ends.2) hq
   have:=h.room
   rw [List.length_append,List.length_singleton]
   omega }
theorem Lst.reach {rows:List D} {one:List Nat} {pegs:List (List Nat)} {kvs:List (DK×D)} (h:Lst rows one pegs kvs):∀ (k:Nat) p,pegs[k]?=some p->Reach rows one p:=by
 intro k
 induction k using Nat.strongRecOn with
 | ind k ih=>
  intro p hp
  by_cases h0:k=0
  ·subst h0;rw [h.first] at hp;cases hp;exact .refl
  ·obtain ⟨n,q,r,j,hj,hq,hv,hs⟩:=h.val k p hp (by omega)
   exact hs.reach (ih j hj q hq)
theorem Lst.sub {rows:List D} {one:List Nat} {pegs:List (List Nat)} {kvs:List (DK×D)} (h:Lst rows one pegs kvs):∀ p∈pegs,p=one\/p∈ends rows:=fun p hp=>by
 obtain ⟨k,hk,e⟩:=List.mem_iff_getElem.mp hp
 have hp':pegs[k]?=some p:=by rw [List.getElem?_eq_getElem hk,e]
 by_cases h0:k=0
 ·subst h0;rw [h.first] at hp';cases hp';exact .inl rfl
 ·obtain ⟨n,q,r,j,hj,hq,hv,hs⟩:=h.val k p hp' (by omega)
  exact .inr hs.ends.2
def Closed (rows:List D) (pegs:List (List Nat)) (m:Nat):Prop:=∀ (k:Nat) p,k < m->pegs[k]?=some p->∀ n q r,stepD n p q r∈both rows->q∈pegs
theorem Lst.all {rows:List D} {one:List Nat} {pegs:List (List Nat)} {kvs:List (DK×D)} (h:Lst rows one pegs kvs) (hc:Closed rows pegs pegs.length) (x:List Nat):x∈pegs↔Reach rows one x:=by
 refine ⟨fun hx=>?_,fun hx=>?_⟩
 ·obtain ⟨k,hk,e⟩:=List.mem_iff_getElem.mp hx
  exact h.reach k x (by rw [List.getElem?_eq_getElem hk,e])
 ·refine shut_all (List.mem_of_getElem? h.first) (fun p q ⟨n,r,e⟩=>⟨fun hp=>?_,fun hp=>?_⟩) hx
  ·obtain ⟨k,hk,e'⟩:=List.mem_iff_getElem.mp hp
   exact hc k p hk (by rw [List.getElem?_eq_getElem hk,e']) n q r (step_both e).1
  ·obtain ⟨k,hk,e'⟩:=List.mem_iff_getElem.mp hp
   exact hc k q hk (by rw [List.getElem?_eq_getElem hk,e']) n p (0 - r) (step_both e).2
theorem Lst.bel {rows:List D} {one:List Nat} {pegs:List (List Nat)} {kvs:List (DK×D)} (h:Lst rows one pegs kvs) (k:Nat):D.bels k (kvs.map (·.2))=true:=bels_mem fun d hd=>by
 rcases h.vals d hd with e | e
 ·subst e;rfl
 ·obtain ⟨n,p,q,r,rfl⟩:=okRow_is e
  simp [D.bel,D.bels]
end DL
namespace DL
open PySem PySem.Spec L2
theorem comp_mapC {chk:List Cell->Prop} {te:ED} {rest:L} {f:D->D} (c:List Cell) (hk:chk c):∀ (xs acc:List D) (o:Option D),(∀ x∈xs,te (some x::rest) c=some (.ok (f x) c))->acc.length+xs.length<=1000000->
  compC chk (gdName 0) pTrue te xs acc (o::rest) c=some (.ok (.lst (acc++xs.map f)) c)
 | [],acc,o,_,_=>by simp [compC,hk]
 | x::xs,acc,o,h,hl=>by
  have ih:=comp_mapC c hk xs (acc++[f x]) (some x) (fun y hy=>h y (List.mem_cons_of_mem _ hy)) (by simp at hl ⊢;omega)
  simp only [compC,gdName,List.set_cons_zero,pTrue,noX_ret,ret_bd,if_true]
  rw [if_pos ⟨hk,by simp at hl;omega⟩]
  unfold M.bd noX
  rw [h x List.mem_cons_self]
  simp only
  rw [ih]
  simp
end DL
namespace DL
open PySem PySem.Spec L2
theorem nodup_at {α:Type} {xs:List α} (n:xs.Nodup) {a b:Nat} (ha:a < xs.length) (hb:b < xs.length) (e:xs[a]=xs[b]):a=b:=by
 have pw:=List.pairwise_iff_getElem.mp n
 rcases Nat.lt_trichotomy a b with h | h | h
 ·exact absurd e (pw a b ha hb h)
 ·exact h
 ·exact absurd e.symm (pw b a hb ha h)
section
variable {f:D->D->M D} {h:D->M D} {k:D->List D->M D} {ta tb to te ti:ED} {t:AD} {l:L} {c c1 c2 c3:List Cell} {x y z:D} {xs:List D} {i n:Nat} {g:FD} {dds:List D} {ty:Ty} {r:Option (Out D)}
theorem d2_ok (h1:ta l c=some (.ok x c1)) (h2:tb l c1=some (.ok y c2)):d2 f ta tb l c=f x y c2:=by unfold d2;rw [bd_ok h1,bd_ok h2]
theorem d1_ok (h1:ta l c=some (.ok x c1)):d1 h ta l c=h x c1:=by unfold d1;rw [bd_ok h1]
theorem mM_ok (h1:to l c=some (.ok x c1)) (ht:tyM x c1=some ty) (h2:t l c1=some (.ok xs c2)):mM ty k to t l c=k x xs c2:=by unfold mM;rw [bd_ok h1,if_pos ht,bd_ok h2]
theorem aCons_ok (h1:ta l c=some (.ok x c1)) (h2:t l c1=some (.ok xs c2)):aCons ta t l c=some (.ok (x::xs) c2):=by unfold aCons;rw [bd_ok h1,bd_ok h2];rfl
theorem aNil_ok:aNil l c=some (.ok [] c):=rfl
theorem dCall_ok (h1:t l c=some (.ok xs c1)):dCall n g dds t l c=gN n g (xs++dds) c1:=by unfold dCall;rw [bd_ok h1]
theorem set_ok (h1:te l c=some (.ok x c1)):sSet i te l c=some (.ok (.nx (l.set i (some x))) c1):=by unfold sSet;rw [bd_ok h1];rfl
theorem expr_ok (h1:te l c=some (.ok x c1)):sExpr te l c=some (.ok (.nx l) c1):=by unfold sExpr;rw [bd_ok h1];rfl
theorem ret_ok (h1:te l c=some (.ok x c1)):sRet te l c=some (.ok (.ret x) c1):=by unfold sRet;rw [bd_ok h1];rfl
theorem expr_exc {e:Exc} (h1:te l c=some (.exc e c1)):sExpr te l c=some (.exc e c1):=by unfold sExpr;rw [bd_exc h1]
theorem seq_exc {a b:SD} {e:Exc} (h:a l c=some (.exc e c1)):sSeq a b l c=some (.exc e c1):=by unfold sSeq;rw [bd_exc h]
theorem if_t {p:TD} {a b:SD} (h:p l c=some (.ok true c1)):sIf p a b l c=a l c1:=by unfold sIf;rw [bd_ok h];rfl
theorem if_f {p:TD} {a b:SD} (h:p l c=some (.ok false c1)):sIf p a b l c=b l c1:=by unfold sIf;rw [bd_ok h];rfl
theorem for_ok {S:Src} {ti:ID} {g:GD} {body:SD} (h:ti l c=some (.ok S c1)):sForI ti g body l c=forC S.chk g body S.xs l c1:=by unfold sForI;rw [bd_ok h]
theorem iVal_ok {te:ED} {r:Option (Out Src)} (h:te l c=some (.ok x c1)) (h2:srcOf x c1=r):iVal te l c=r:=by unfold iVal;rw [bd_ok h];exact h2
theorem tup_ok (h:t l c=some (.ok xs c1)) (hl:xs.length<=1000:=by decide):dTup t l c=some (.ok (.tup xs) c1):=by unfold dTup;rw [bd_ok h,if_pos hl];rfl
end
open PyProof.Rows hiding St
section
variable {X:Cx} {pins:List (Addr×Obj)} {σ:St} {H:Hp} {s:Shared} {h':Heap} {xs:List Addr} {t':Nat}
structure FrX (X:Cx) (pins:List (Addr×Obj)) (H:Hp) (b:Addr):Prop where
 un:H b=none
 new:X.s₀.heap.get? b=none
 loc:b≠X.env.locals
 cel:∀ x c,X.env.cells.lookup x=some c->c≠b
 pin:∀ p∈X.pn++pins,p.1≠b
theorem frX_of {H':Hp} {b:Addr} (hx:X.ex=[]) (I:Inv X pins σ H s) (n:s.heap.get? b=none) (u:H' b=none):FrX X pins H' b where
 un:=u
 new:=by
  cases z:X.s₀.heap.get? b with
  | none=>rfl
  | some o=>
   obtain ⟨o',e⟩:=I.base.there b o z (by rw [hx];simp)
   rw [n] at e;cases e
 loc:=fun e=>by
  obtain ⟨m,⟨o,_,_,ho,_⟩,_⟩:=I.loc
  rw [← e,n] at ho;cases ho
 cel:=fun x c e z=>by
  obtain ⟨v,o,ho,_⟩:=I.cell x c e
  rw [z,n] at ho;cases ho
 pin:=fun p hp z=>by
  have:=(I.pin p hp).1
  rw [z,n] at this;cases this
theorem inv_chg (I:Inv X pins σ H s) (g:Chg xs (frs X.stack) s.heap h') (n:∀ b∈xs,FrX X pins H b):Inv X pins σ H { s with heap:=h',toks:=t' }:=by
 have nx:∀ b o,X.s₀.heap.get? b=some o->b∉xs:=fun b o e z=>by rw [(n b z).new] at e;cases e
 have nL:∀ b o,X.s₀.heap.get? b=some o->b≠X.env.locals:=fun b o e=>Nat.ne_of_lt (Nat.lt_of_lt_of_le (Heap.lt_size e) I.ok.above)
 have nf:∀ b,b≠X.env.locals->b∉X.fs->b∉frs X.stack:=fun b h1 h2 z=>(List.mem_cons.mp (I.stkSub b z)).elim h1 h2
 have cellK:∀ x c,X.env.cells.lookup x=some c->∀ v,s.heap.IsCell c v->h'.IsCell c v:=fun x c e v ⟨o,ho,hd⟩=>by
  obtain ⟨sl,q⟩:=g.slot c o ho fun z=>(n c z).cel x c e rfl
  exact ⟨_,q,hd⟩
 refine ⟨I.ok,I.os,I.bare,⟨fun b o e m hb hx=>?_,fun b o e m hb hx=>?_,I.base.free,fun b o e hx=>?_,I.base.tups,I.base.frzs,I.base.tbls⟩,?_,fun x c e=>?_,I.free,I.freeC,fun p hp=>?_,hok_chg I.hok g (fun b hb=>(n b hb).un) I.stkFree,I.len⟩
 ·exact g.keep b o (I.base.keep b o e m hb hx) (nx b o e) (nf b (nL b o e) hb)
 ·obtain ⟨sl,e1⟩:=I.base.slot b o e m hb hx
  obtain ⟨sl2,e2⟩:=g.slot b _ e1 (nx b o e)
  exact ⟨sl2,e2⟩
 ·obtain ⟨o1,e1⟩:=I.base.there b o e hx
  exact g.there b o1 e1
 ·obtain ⟨m,⟨o,es,ep,ho,r⟩,hl⟩:=I.loc
  obtain ⟨sl,hL⟩:=g.slot _ o ho fun z=>(n _ z).loc rfl
  refine ⟨m,⟨_,es,ep,hL,r⟩,fun i x v e1 e2 e3=>?_⟩
  obtain ⟨u,r,l⟩:=hl i x v e1 e2 e3
  refine ⟨u,r,?_⟩
  rcases l with l | ⟨k,c,e,z⟩
  ·exact .inl l
  ·exact .inr ⟨k,c,e,cellK x c e _ z⟩
 ·obtain ⟨v,z⟩:=I.cell x c e
  exact ⟨v,cellK x c e v z⟩
 ·obtain ⟨e,m,ne,nfs,d⟩:=I.pin p hp
  exact ⟨g.keep p.1 p.2 e (fun z=>(n _ z).pin p hp rfl) (nf _ ne nfs),m,ne,nfs,d⟩
def XC (X:Cx) (pins:List (Addr×Obj)) (σ:St) (E:XK) (e:Value) (s':Shared):Prop:=∃ (ea T:Addr) (cls:Value) (dx:Option Addr) (H':Hp),e=.ref ea/\Inv X pins σ H' s'/\Exo ea cls dx (some T) .none s'.heap/\FrX X pins H' ea/\FrX X pins H' T/\E cls dx H'
theorem xc_call {E:XK} {e:Value} {s':Shared} (hx:X.ex=[]) (I:Inv X pins σ H s) (h:CXD X.prog X.w X.stack H s E e s'):XC X pins σ E e s':=by
 obtain ⟨ea,T,cls,dx,H',rfl,os,bare,un,hok,ex,h1,h2,h3,h4,q⟩:=h
 exact ⟨ea,T,cls,dx,H',rfl,I.call' os un hok bare (fun b z=>absurd z (by simp)),ex,frX_of hx I h3 h1,frX_of hx I h4 h2,q⟩
end
def PEx (X:Cx) (E:XK) (e:Expr) (t:TE):Prop:=
 ∀ (pins:List (Addr×Obj)) (s:Shared) (σ:St) (H:Hp) (Q:VK),Inv X pins σ H s->t σ H Q->wpAny (model X.prog X.w) X.A (eval e X.env) (EP X pins σ Q) (XC X pins σ E) s
def PSx (X:Cx) (E:XK) (st:Stmt) (t:TS):Prop:=
 ∀ (pins:List (Addr×Obj)) (s:Shared) (σ:St) (H:Hp) (D:Ends),Inv X pins σ H s->t D σ H->wpAny (model X.prog X.w) X.A (exec st X.env) (SP X pins D) (XC X pins σ E) s
def PSsx (X:Cx) (E:XK) (st:List Stmt) (t:TS):Prop:=
 ∀ (pins:List (Addr×Obj)) (s:Shared) (σ:St) (H:Hp) (D:Ends),Inv X pins σ H s->t D σ H->wpAny (model X.prog X.w) X.A (execs st X.env) (SP X pins D) (XC X pins σ E) s
structure DEx (X:Cx) (e:Expr) (t:ED):Prop where
 h:∀ E,PEx X E e (liftE X.K E t)
structure DSx (X:Cx) (st:Stmt) (t:SD):Prop where
 h:∀ E,PSx X E st (liftS X.K E t)
structure DSsx (X:Cx) (st:List Stmt) (t:SD):Prop where
 h:∀ E,PSsx X E st (liftS X.K E t)
section
variable {X:Cx} {E:XK} {a b c e o:Expr} {es:List Expr} {ta to:ED} {t:AD} {pos apos p:Pos} {CX:CXT} {k n:Nat} {f C:Addr} {fd:FuncData} {ps:List Str} {g:FD} {dvs:List V} {dds:List D} {ds:List Value} {x m:Str}
theorem run_fnx {sp:Sp} {pins:List (Addr×Obj)} {σ:St} {H:Hp} {s:Shared} {Q:VK} {us:List Value} {vs:List V} (F:FnOk X.prog X.w X.K X.mg X.base (CXD X.prog X.w) k f fd ps sp) (hr:Room k X.A) (hb:Binds X.K fd ps ds) (hd:Vals dvs ds) (hex:X.ex=[])
  (I:Inv X pins σ H s) (r:Vals vs us) (h:sp (vs++dvs) H Q E):wpAny (model X.prog X.w) X.A (call (.ref f) us) (EP X pins σ Q) (XC X pins σ E) s:=by
 have both_:=r.append hd
 have long:(us++ds).length=ps.length:=both_.length.symm.trans (F.len _ _ _ _ h)
 refine wpAny_call (codeAny_mono (F.run X.A X.stack s H ⟨us,[]⟩ (us++ds) (vs++dvs) Q E hr I.env0 (hb s us I.kIn long) both_ h) fun out s' fin=>?_)
 match out,fin with
 | .error _,fin=>exact xc_call hex I fin
 | .ok (.ret _),fin=>exact I.after fin
def dMethX (C:Addr) (m:Str) (n:Nat) (g:FD) (dds:List D) (to:ED) (t:AD):ED:=fun l=>(noX (to l)).bd fun o c=>match cellI C o c with
 | some (_,fs)=>if fs.lookup m=none then ((noX (t l)).bd fun xs=>gN n g (o::(xs++dds))) c else none
 | none=>none
theorem dex_meth {pl:Sem Bool} (C:Addr) (hno:∀ e s,X.xe e s->False) (hex:X.ex=[]) (ho:DE X E0 o to) (hC:Cls X.K C) (hm:Meth X.K C m f) (F:FnOk X.prog X.w X.K X.mg X.base (CXD X.prog X.w) k f fd ps (spD X.K n g)) (hr:Room k X.A) (hb:Binds X.K fd ps ds) (hd:Vals dvs ds) (rd:∀ H O,Reps X.K H O dvs dds) (ha:DA X E0 (e::es) t)
  (hst:starEach (e::es) X.env=(false,eval e X.env)::starEach es X.env:=by rfl) (hpl:(backTo pos (starEach es X.env)).any (·.1)=false:=by rfl)
  (ht:eval (.Call (.Attribute o m apos) (e::es) [] pos) X.env=(do
   let ov ← eval o X.env
   standAt apos.atName
   let (f,first) ← holding [ov] (getMethod ov m pl)
   callWith pos f first (backTo pos (starEach (e::es) X.env)) (backToKw pos (keywordEach [] X.env))):=by rfl):
  DEx X (.Call (.Attribute o m apos) (e::es) [] pos) (dMethX C m n g dds to t):=by
 refine ⟨fun E pins s σ H Q I h=>?_⟩
 obtain ⟨O,l,c,hl,hc,p⟩:=h
 have p0:=noX_post p.bd
 have h0:liftE X.K E0 to σ H (fun v H1=>∃ d O1 c1,Ext H O H1 O1/\Locs X.K H1 O1 l σ/\Cells X.K H1 O1 c1/\Rep X.K H1 O1 v d/\PostD X.K E H1 O1 Q (match cellI C d c1 with
   | some (_,fs)=>if fs.lookup m=none then ((noX (t l)).bd fun xs=>gN n g (d::(xs++dds))) c1 else none
   | none=>none)):=⟨O,l,c,hl,hc,p0.imp fun d H1 O1 c1 e1 hc1 q v rv=>⟨d,O1,c1,e1,hl.mono e1,hc1,rv,q⟩⟩
 refine methodCall_KW (pl:=pl) (wpAny_mono (ho.h pins s σ H _ I h0) (fun u s1 ⟨v,H1,I1,rx,d,O1,c1,e1,hl1,hc1,rv,p1⟩=>?_) fun _ _ z=>(hno _ _ z).elim) ht
 cases z:cellI C d c1 with
 | none=>rw [z] at p1;exact p1.elim
 | some q=>
  obtain ⟨k',fs⟩:=q
  rw [z] at p1
  simp only at p1
  obtain ⟨a,dx,us,rfl,_,hO,hH,hf,hk⟩:=cellI_ok hc1 rv z
  obtain rfl:u=Value.ref a:=rx
  by_cases hn:fs.lookup m=none
  ·rw [if_pos hn] at p1
   have p2:=noX_post p1.bd
   have h1:liftA X.K E0 t σ H1 (fun vs H2=>spD X.K n g (.ref a::(vs++dvs)) H2 Q E):=⟨O1,l,c1,hl1,hc1,p2.imp fun xs H2 O2 c2 e2 hc2 q vs rvs=>gN_post (.cons (rv.mono e2) (rvs.append (rd _ _))) hc2 q⟩
   refine getmeth_ok I1 hH hC hm (hf.lookup_none hn) ?_
   refine callWith_K (first:=[.ref a]) (h₀:=X.base) I.ok.mod.kin hm.kp (wpAny_mono (ha.h pos pins s1 σ H1 _ I1 h1) (fun us s2 ⟨vs,H2,I2,r,q2⟩=>⟨I2.kIn,?_⟩) fun _ _ z=>(hno _ _ z).elim) hst hpl
   exact run_fnx (us:=.ref a::us) (vs:=.ref a::vs) F hr hb hd hex I2 (.cons rfl r) q2
  ·rw [if_neg hn] at p1;exact p1.elim
def dCallX (n:Nat) (g:FD) (dds:List D) (t:AD):ED:=fun l=>(noX (t l)).bd fun xs=>gN n g (xs++dds)
theorem dex_call (hno:∀ e s,X.xe e s->False) (hex:X.ex=[]) (F:FnOk X.prog X.w X.K X.mg X.base (CXD X.prog X.w) k f fd ps (spD X.K n g)) (hr:Room k X.A) (hm:X.mg x=some (.ref f)) (hk:keepIn X.K (.ref f)=true) (hb:Binds X.K fd ps ds) (hd:Vals dvs ds) (rd:∀ H O,Reps X.K H O dvs dds)
  (ha:DA X E0 (e::es) t) (hg:Gl X x:=by rfl) (hdb:(x == ("__debug__":Str))=false:=by decide) (he:starEach (e::es) X.env=(false,eval e X.env)::starEach es X.env:=by rfl) (hpl:(backTo pos (starEach es X.env)).any (·.1)=false:=by rfl):
  DEx X (.Call (.Name x p) (e::es) [] pos) (dCallX n g dds t):=by
 refine ⟨fun E pins s σ H Q I h=>?_⟩
 obtain ⟨O,l,c,hl,hc,q⟩:=h
 have p0:=noX_post q.bd
 have h1:liftA X.K E0 t σ H (fun vs H2=>spD X.K n g (vs++dvs) H2 Q E):=⟨O,l,c,hl,hc,p0.imp fun xs H2 O2 c2 e2 hc2 q vs rvs=>gN_post (rvs.append (rd _ _)) hc2 q⟩
 refine wpAny_Call_Name_kw (ld_glob I hg hm ?_ hdb)
 refine callWith_K (h₀:=X.base) I.ok.mod.kin hk (wpAny_mono (ha.h pos pins s σ H _ I h1) (fun us s1 ⟨vs,H1,I1,r,q⟩=>⟨I1.kIn,?_⟩) fun _ _ z=>(hno _ _ z).elim) he hpl
 exact run_fnx F hr hb hd hex I1 r q
theorem dsx_expr (he:DEx X e ta) (hs:swapsWith e none pos.line X.env=pure false:=by rfl):DSx X (.Expr e pos) (sExpr ta):=by
 refine ⟨fun E pins s σ H D I h=>?_⟩
 obtain ⟨O,l,c,hl,hc,p⟩:=h
 have h1:liftE X.K E ta σ H (fun _ H1=>D.nx σ H1):=liftE_bd hl hc p fun d v H1 O1 c1 e1 hl1 hc1 rv p1=>Post.ret p1 hc1 σ hl1
 exact wpAny_Expr_any (thn (he.h E pins s σ H _ I h1) fun v s1 ⟨x,H1,I1,r1,q1⟩=>⟨σ,H1,I1,q1⟩) I.quiet hs
theorem dssx_one {st:Stmt} {t:SD} (h1:DSx X st t):DSsx X [st] t:=by
 refine ⟨fun E pins s σ H D I h=>wpAny_execs_cons (thn (h1.h E pins s σ H D I h) fun f s1 q=>?_)⟩
 cases f with
 | next=>exact wpAny_execs_nil q
 | ret v=>exact q
 | brk=>exact q
 | cont=>exact q
end
def inH (X:Cx) (ea:Addr):Cx:={ X with A:=X.A.mark (some (.ref ea)),calm:=false,xe:=fun _ _=>False }
section
variable {X:Cx} {pins:List (Addr×Obj)} {σ:St} {H:Hp} {s:Shared} {ea:Addr}
theorem inv_in (I:Inv X pins σ H s) (ea:Addr):Inv (inH X ea) pins σ H s:=
 ⟨⟨I.ok.mod,I.ok.kind,I.ok.glob,I.ok.blt,I.ok.above,I.ok.inj,I.ok.has,I.ok.cab,(fun z=>by cases z),I.ok.frames,I.ok.stk,I.ok.exf,I.ok.bs,I.ok.bsz,I.ok.noex,I.ok.exfs,I.ok.funs,I.ok.frf⟩,I.os,I.bare,I.base,I.loc,I.cell,I.free,I.freeC,I.pin,I.hok,I.len⟩
theorem inv_out (ok:X.Ok) (I:Inv (inH X ea) pins σ H s):Inv X pins σ H s:=⟨ok,I.os,I.bare,I.base,I.loc,I.cell,I.free,I.freeC,I.pin,I.hok,I.len⟩
end
abbrev HD:=Exc->SD
structure DH (X:Cx) (E:XK) (hs:List ExceptHandler) (t:HD):Prop where
 h:∀ (pins:List (Addr×Obj)) (s:Shared) (σ:St) (H:Hp) (O:Ow) (l:L) (c:List Cell) (x:Exc) (ea T:Addr) (cls:Value) (dx:Option Addr) (D:Ends),Inv X pins σ H s->Locs X.K H O l σ->Cells X.K H O c->XRep X.K H O cls dx x->Exo ea cls dx (some T) .none s.heap->
  FrX X pins H ea->FrX X pins H T->Post X.K E H O (FlOk X.K D) (t x l c)->wpAny (model X.prog X.w) X.A (handleBy (.ref ea) X.env hs) (SP X pins D) X.xe s
def hNil:HD:=fun _ _=>M.stuck
theorem dh_nil {X:Cx} {E:XK}:DH X E [] hNil:=⟨fun _ _ _ _ _ _ _ _ _ _ _ _ _ _ _ _ _ _ _ _ p=>p.elim⟩
def hBare (K:Frag) (B:Addr) (ts:SD) (rest:HD):HD:=fun x l c=>match exmOne K x.cls (.ref B) with
 | some true=>ts l c
 | some false=>rest x l c
 | none=>none
section
variable {X:Cx} {E:XK} {B:Addr} {x nm:Str} {np pos:Pos} {b₀:Stmt} {suite:List Stmt} {ts:SD} {rest:List ExceptHandler} {tr:HD}
theorem looks_cls {M:Model} {h:Heap} {ea:Addr} {oe:Obj} (he:h.get? ea=some oe):Looks M h (typeOf (.ref ea)) oe.cls:=(Looks.ld he).andThen .now
theorem clause {pins:List (Addr×Obj)} {s:Shared} {σ:St} {H:Hp} {ea:Addr} {oe:Obj} {b:Bool} {name:Option Str} {D:Ends} (I:Inv X pins σ H s) (he:s.heap.get? ea=some oe) (hb:exmOne X.K oe.cls (.ref B)=some b) (hg:Gl X x) (hm:X.mg x=some (.ref B)) (hdb:(x == ("__debug__":Str))=false)
  (yes:b=true->codeAny (model X.prog X.w) (X.A.mark (some (.ref ea))) (.handlers (.ref ea) [.ExceptHandler none name (b₀::suite) pos] X.env) (fun r s₂=>match r with
     | .ok f=>(match name with
      | none=>SP X pins D f s₂
      | some n=>wpAny (model X.prog X.w) X.A (do bindName X.env n .none;unbindBehindTheSuite X.env n pos) (fun _ s₃=>SP X pins D f s₃) X.xe s₂)
     | .error x=>cameBackBy (model X.prog X.w) X.A X.env X.xe x s₂) s)
  (no:b=false->wpAny (model X.prog X.w) X.A (handleBy (.ref ea) X.env rest) (SP X pins D) X.xe s):
  wpAny (model X.prog X.w) X.A (handleBy (.ref ea) X.env (.ExceptHandler (some (.Name x np)) name (b₀::suite) pos::rest)) (SP X pins D) X.xe s:=by
 refine wpAny_handleBy_cons (codeAny_handlers_test ?_) (by intro q;cases q)
 have I':=inv_in I ea
 have hg':Gl (inH X ea) x:=hg
 refine ld_glob (X:=inH X ea) I' hg' hm ?_ hdb
 refine (PySem.W.exm_one (M:=model X.prog X.w) I.kIn (looks_cls he) hb).here ?_
 cases b with
 | true=>exact yes rfl
 | false=>exact no rfl
theorem dh_bare (hs:∀ ea,DSs (inH X ea) E0 (b₀::suite) ts) (hm:X.mg x=some (.ref B)) (hr:DH X E0 rest tr) (hg:Gl X x:=by rfl) (hdb:(x == ("__debug__":Str))=false:=by decide):
  DH X E0 (.ExceptHandler (some (.Name x np)) none (b₀::suite) pos::rest) (hBare X.K B ts tr):=by
 refine ⟨fun pins s σ H O l c ex ea T cls dx D I hl hc xr exo f1 f2 p=>?_⟩
 obtain ⟨⟨oe,ws,he,hcls,hdict,hdat,h1⟩,en⟩:=id exo
 have e0:oe.cls=ex.cls:=hcls.trans xr.1
 unfold hBare at p
 cases z:exmOne X.K ex.cls (.ref B) with
 | none=>rw [z] at p;exact p.elim
 | some b=>
  rw [z] at p
  refine clause I he (by rw [e0];exact z) hg hm hdb (fun hb=>?_) fun hb=>?_
  ·subst hb
   refine codeAny_handlers_suite (flight_step exo fun h' y1 y2=>?_)
   have I2:Inv X pins σ H { s with heap:=h' }:=inv_chg (t':=s.toks) I (y2.mono (ys:=[T]) (gs:=frs X.stack) (fun _ z=>z) (fun _ z=>absurd z (by simp))) fun b hb=>by
    have e:b=T:=by simpa using hb
    rw [e];exact f2
   refine wpAny_mono ((hs ea).h pins _ σ H D (inv_in I2 ea) ⟨O,l,c,hl,hc,p⟩) (fun fl s2 q=>?_) fun _ _ z=>z.elim
   cases fl with
   | next=>obtain ⟨σ',H',J,q⟩:=q;exact ⟨σ',H',inv_out I.ok J,q⟩
   | brk=>obtain ⟨σ',H',J,q⟩:=q;exact ⟨σ',H',inv_out I.ok J,q⟩
   | cont=>obtain ⟨σ',H',J,q⟩:=q;exact ⟨σ',H',inv_out I.ok J,q⟩
   | ret u=>obtain ⟨v,σ',H',J,r,q⟩:=q;exact ⟨v,σ',H',inv_out I.ok J,r,q⟩
  ·subst hb
   exact hr.h pins s σ H O l c ex ea T cls dx D I hl hc xr exo f1 f2 p
def sTry (tb:SD) (th:HD):SD:=fun l c=>match tb l c with
 | some (.ok f c')=>some (.ok f c')
 | some (.exc x c')=>th x l c'
 | none=>none
theorem ds_try {body:List Stmt} {h₀:ExceptHandler} {hs:List ExceptHandler} {tb:SD} {th:HD} (hex:X.ex=[]) (hb:DSsx X body tb) (hh:DH X E0 (h₀::hs) th) (hst:X.stack=X.env::X.outer:=by rfl) (hfr:X.env.frame=some X.env.locals:=by rfl):
  DS X E0 (.Try body (h₀::hs) [] [] pos) (sTry tb th):=by
 refine ⟨fun pins s σ H D I h=>?_⟩
 obtain ⟨O,l,c,hl,hc,p⟩:=h
 let Ec:XK:=fun cls dx H'=>∃ x c' O',tb l c=some (.exc x c')/\Ext H O H' O'/\Cells X.K H' O' c'/\XRep X.K H' O' cls dx x
 have pb:Post X.K Ec H O (FlOk X.K D) (tb l c):=by
  unfold sTry at p
  cases z:tb l c with
  | none=>rw [z] at p;exact p.elim
  | some o=>
   rw [z] at p
   cases o with
   | ok f c'=>exact p
   | exc x c'=>exact fun H' O' cls dx e1 e2 e3=>⟨x,c',O',z,e1,e2,e3⟩
 refine wpAny_Try_except (wpAny_mono (hb.h Ec pins s σ H D I ⟨O,l,c,hl,hc,pb⟩) (fun f s1 q=>?_) fun e s1 q=>?_)
 ·cases f with
  | next=>exact wpAny_execs_nil q
  | ret v=>exact q
  | brk=>exact q
  | cont=>exact q
 ·obtain ⟨ea,T,cls,dx,H',rfl,I1,exo,f1,f2,ex,c',O',z,e1,hc1,xr⟩:=q
  have stk:X.A.frames=some (X.env::X.outer):=by rw [← hst];exact I1.ok.frames
  have fun_:s1.heap.FunFrames X.base (X.env::X.outer):=by rw [← hst];exact I1.stack
  refine note_step stk fun_ hfr exo fun h1 T1 x1 x2 x3=>?_
  have n1:H' T1=none:=by
   cases zz:H' T1 with
   | none=>rfl
   | some o=>
    obtain ⟨ob,e⟩:=ok_there (I1.hok T1 o zz)
    rw [x3] at e;cases e
  have f3:FrX X pins H' T1:=frX_of hex I1 x3 n1
  have I2:Inv X pins σ H' { s1 with heap:=h1 }:=inv_chg (t':=s1.toks) I1 (x2.mono (ys:=exoAt ea (some T)) (gs:=frs X.stack) (fun _ z=>z) (fun b z=>by rw [hst];exact z)) fun b hb=>by
   rcases List.mem_cons.mp hb with e | hb
   ·rw [e];exact f1
   ·have e:b=T:=by simpa using hb
    rw [e];exact f2
  refine flight_step (s:={ s1 with heap:=h1 }) x1 fun h2 y1 y2=>?_
  have I3:Inv X pins σ H' { s1 with heap:=h2 }:=inv_chg (s:={ s1 with heap:=h1 }) (t':=s1.toks) I2 (y2.mono (ys:=[T1]) (gs:=frs X.stack) (fun _ z=>z) (fun _ z=>absurd z (by simp))) fun b hb=>by
   have e:b=T1:=by simpa using hb
   rw [e];exact f3
  unfold sTry at p
  rw [z] at p
  exact hh.h pins _ σ H' O' l c' ex ea T1 cls dx D I3 (hl.mono e1) hc1 xr y1 f1 f3 (Post.mono e1 p)
end
open PyProof.Rows hiding St
section
variable {prog:Program} {w:World} {A:Around} {E:Value->Shared->Prop} {h:Heap} {g:Array GenState} {d:Drawn} {t:Nat} {os:OsState} {K:Frag} {x C:Addr} {ox:Obj} {od:Option Obj} {name:Str}
structure ExcA (K:Frag) (C:Addr):Prop where
 ga:findIn K (.ref C) "__getattribute__"=some (some (.builtin "BaseException.__getattribute__"))
 gh:findIn K (.ref C) "__getattr__"=some none
 sb:subIn K (.ref C) (.type "BaseException")=some true
structure ExcC (K:Frag) (C:Addr):Prop extends ExcA K C where
 cls:(PySem.W.clsIn K C).isSome=true
 ca:findIn K (.ref C) "__class__"=some (some (.builtin "object.__class__"))
 cg:specialIn K (.builtin "object.__class__") "__get__"=some (some (.builtin "getset_descriptor.__get__"))
 ct:takesIn K (.builtin "object.__class__")=some true
 mo:mroIn K C (.type "object")=some true
end
section
variable {X:Cx} {E:XK} {a:Expr} {ta:ED} {pos:Pos}
open Classical in
end
section
variable {X:Cx} {E:XK}
def sStuck:SD:=fun _=>M.stuck
theorem ds_never {st:Stmt}:DS X E st sStuck:=⟨fun _ _ _ _ _ _ h=>by
 obtain ⟨O,l,c,_,_,p⟩:=h
 exact p.elim⟩
end
section
variable {X:Cx} {E:XK} {o e:Expr} {to te:ED} {pos tpos:Pos} {fl:Str}
def augF (C:Addr) (fl:Str) (f:Int->Int->Int) (to te:ED):SD:=fun l=>(to l).bd fun o c=>match cellI C o c with
 | some (_,fs)=>match fs.lookup fl with
  | some (.int n)=>((te l).bd fun d c2=>match d,cellI C o c2 with
   | .int m,some (k,fs2)=>if fs2.length < 1000 then some (.ok (.nx l) (c2.set k (.ins C (putD fl (.int (f n m)) fs2)))) else none
   | _,_=>none) c
  | _=>none
 | none=>none
theorem ds_augF (C:Addr) {op:Operator} {f:Int->Int->Int} (hop:InOp X op (fun x y H Q=>∃ i j,x=.int i/\y=.int j/\Q (.int (f i j)) H)) (hC:Cls X.K C) (hN:NoAttr X.K C fl) (ho:DE X E o to) (he:DE X E e te):DS X E (.AugAssign (.Attribute o fl tpos) op e pos) (augF C fl f to te):=by
 refine ⟨PS.imp (ps_fldaug ho.h he.h hop) fun Dn σ H h=>?_⟩
 obtain ⟨O,l,c,hl,hc,p⟩:=h
 refine liftE_bd hl hc p fun x v H1 O1 c1 e1 hl1 hc1 rv p1=>?_
 cases z:cellI C x c1 with
 | none=>rw [z] at p1;exact p1.elim
 | some q=>
  obtain ⟨k,fs⟩:=q
  rw [z] at p1
  simp only at p1
  obtain ⟨a,dx,us,rfl,_,hO,ha,hf,hk⟩:=cellI_ok hc1 rv z
  cases z2:fs.lookup fl with
  | none=>rw [z2] at p1;exact p1.elim
  | some dv=>
   rw [z2] at p1
   obtain ⟨vv,h1,h2⟩:=hf.lookup z2
   cases h2 with
   | int n=>
    simp only at p1
    refine ⟨a,C,dx,us,_,rfl,ha,hC,hN,h1,?_⟩
    refine liftE_bd hl1 hc1 p1 fun y u H2 O2 c2 e2 hl2 hc2 ru p2=>?_
    cases ru with
    | int m=>
     cases z3:cellI C x c2 with
     | none=>rw [z3] at p2;exact p2.elim
     | some q3=>
      obtain ⟨k3,fs3⟩:=q3
      rw [z3] at p2
      simp only at p2
      obtain ⟨a3,dx3,us3,ea3,_,hO3,ha3,hf3,hk3⟩:=cellI_ok hc2 (rv.mono e2) z3
      cases ea3
      by_cases hz:fs3.length < 1000
      ·rw [if_pos hz] at p2
       obtain ⟨ex,cx⟩:=hc2.setC (o:=.ins C dx3 (putF fl (.int (f n m)) us3)) (x:=.ins C (putD fl (.int (f n m)) fs3)) hO3 (fun ex=>⟨a,dx3,_,hO3,upd_same,by
        have:=FReps.put (fl:=fl) (Rep.int (K:=X.K) (H:=H2) (O:=O2) (f n m)) hf3
        exact ⟨this.1,this.2.mono ex⟩⟩)
       exact ⟨n,m,rfl,rfl,dx3,us3,ha3,by rw [hf3.length];exact hz,p2 _ O2 ex cx σ (hl2.mono ex)⟩
      ·rw [if_neg hz] at p2;exact p2.elim
    | _=>exact p2.elim
   | _=>exact p1.elim
theorem in_addI:InOp X .Add (fun x y H Q=>∃ i j,x=.int i/\y=.int j/\Q (.int (i+j)) H):=in_add
end
section
variable {X:Cx} {pos px py:Pos} {k:Nat}
end
open PyProof.Rows hiding St
structure FunG (K:Frag) (x qual:Str) (st:Stmt) (f:Addr) (fd:FuncData):Prop where
 ex:∃ (oc:Value) (od:Option Addr) (dV kV doc pm:Value) (an:Option Addr) (cdv ct:Value) (osl:Array (Option Value)),
  fd=fnOf x qual (defArgs st) (defBody st) (defScope st) dV kV doc pm an cdv ct/\K.lookup f=some ⟨oc,od,.func fd,osl⟩/\codeIn K cdv qual=true
 kp:keepIn K (.ref f)=true
section
variable {P:Program} {w:World} {K:Frag} {mg:Str->Option Value} {base:Heap}
theorem funG_mk {x qual:Str} {st:Stmt} {f:Addr} {oc:Value} {od an:Option Addr} {osl:Array (Option Value)} {dV kV doc pm cdv ct:Value} (l:K.lookup f=some ⟨oc,od,.func (fnOf x qual (defArgs st) (defBody st) (defScope st) dV kV doc pm an cdv ct),osl⟩)
  (c:codeIn K cdv qual=true) (k:keepIn K (.ref f)=true):FunG K x qual st f (fnOf x qual (defArgs st) (defBody st) (defScope st) dV kV doc pm an cdv ct):=⟨⟨oc,od,dV,kV,doc,pm,an,cdv,ct,osl,rfl,l,c⟩,k⟩
theorem okG0 {x qual:Str} {st:Stmt} {f:Addr} {fd:FuncData} {N ps:List Str} {k n:Nat} {g:FD} {tb:SD} (F:FunG K x qual st f fd) (S:FnScope N ps (defScope st)) (hn:ps.length=n)
  (hb:∀ (cdv:Value) (A:Around) (outer:List Env) (s:Shared) (H:Hp) (E:XK),Room k (A.deeper (envOfC qual (defScope st) s.heap.objs.size f cdv))->DSs (cxOf CX0 P w K mg base N qual (defScope st) f cdv A outer s H E).nox E0 (defBody st) tb)
  (hr:∀ ds c r,ds.length=n->g ds c=some r->∃ d c1,r=.ok d c1/\Fin c (tb (startD N ds) c) (some (.ok d c1))):
  FnOk P w K mg base CX0 (k+1) f fd ps (spD K n g):=by
 obtain ⟨oc,od,dV,kV,doc,pm,an,cdv,ct,osl,rfl,lk,hcd⟩:=F.ex
 refine fn_of lk hcd S (fun vs H Q E h=>by rw [hn];exact h.1) fun A outer s H vs Q E hroom h=>?_
 obtain ⟨hl,O,ds,c,r,hc,p⟩:=h
 refine ⟨_,((hb cdv A outer s H E hroom).h).nox,?_⟩
 have hl2:ds.length=n:=by rw [← r.length];exact hl
 cases z:g ds c with
 | none=>rw [z] at p;exact p.elim
 | some o=>
  refine ⟨O,startD N ds,c,Locs.start N r,hc,?_⟩
  obtain ⟨d,c1,e,hf⟩:=hr ds c o hl2 z
  rw [z,e] at p
  exact fin_post (E:=E0) hc hf p
end
section
variable {X:Cx} {E:XK} {o:Expr} {to:ED} {pos apos cpos:Pos}
def listVC (d:D):M D:=fun c=>match cellD d c with
 | some (_,kvs)=>some (.ok (.hnd c.length) (c++[.lst (kvs.map (·.2))]))
 | none=>none
theorem de_listVC {p2:Pos} (hcalm:X.calm=true) (hm:X.mg "list"=none) (ho:DE X E o to) (hg:Gl X "list":=by rfl)
  (hbase:attributeBase o "values" X.env (eval o X.env)=eval o X.env:=by rfl) (hline:(apos.endLine == cpos.line)=true:=by rfl)
  (hst:starEach [.Call (.Attribute o "values" apos) [] [] cpos] X.env=(false,eval (.Call (.Attribute o "values" apos) [] [] cpos) X.env)::starEach [] X.env:=by rfl):
  DE X E (.Call (.Name "list" p2) [.Call (.Attribute o "values" apos) [] [] cpos] [] pos) (d1 listVC to):=by
 refine ⟨PE.imp (pe_listV hcalm hm ho.h hg hbase hline hst) fun σ H Q h=>?_⟩
 obtain ⟨O,l,c,hl,hc,p⟩:=h
 refine liftE_bd hl hc p fun x v H1 O1 c1 e1 hl1 hc1 rv p1=>?_
 unfold listVC at p1
 cases z:cellD x c1 with
 | none=>rw [z] at p1;exact p1.elim
 | some q=>
  obtain ⟨j,kvs⟩:=q
  rw [z] at p1
  obtain ⟨a,us,ea,hO,ha,kr,nd,hk⟩:=cellD_ok hc1 rv z
  refine ⟨a,us,ea,ha,fun q n=>?_⟩
  obtain ⟨h1,h2,h3⟩:=hc1.pushLst n kr.2
  exact p1 _ _ h1 h2 _ h3
end
end DL
namespace DL
open PySem PySem.Spec L2
section
variable {to te:ED} {t:AD} {l:L} {c c1 c2 c3:List Cell} {o x:D} {xs:List D} {n k i:Nat} {g:FD} {dds:List D} {C:Addr} {m:Str} {fs:List (Str×D)} {e:Exc}
theorem meth_ok (h1:to l c=some (.ok o c1)) (hc:cellI C o c1=some (k,fs)) (hn:fs.lookup m=none) (h2:t l c1=some (.ok xs c2)):dMeth C m n g dds to t l c=gN n g (o::(xs++dds)) c2:=by
 unfold dMeth
 rw [bd_ok h1]
 simp only [hc,hn,if_true]
 rw [bd_ok h2]
theorem noX_ok {α:Type} {q:M α} {y:α} (h:q c=some (.ok y c1)):noX q c=some (.ok y c1):=by unfold noX;rw [h]
theorem methX_ok (h1:to l c=some (.ok o c1)) (hc:cellI C o c1=some (k,fs)) (hn:fs.lookup m=none) (h2:t l c1=some (.ok xs c2)):dMethX C m n g dds to t l c=gN n g (o::(xs++dds)) c2:=by
 unfold dMethX
 rw [bd_ok (noX_ok h1)]
 simp only [hc,hn,if_true]
 rw [bd_ok (noX_ok h2)]
theorem try_exc {tb:SD} {th:HD} (h:tb l c=some (.exc e c1)):sTry tb th l c=th e l c1:=by unfold sTry;rw [h]
theorem bare_yes {K:Frag} {B:Addr} {ts:SD} {rest:HD} (h:exmOne K e.cls (.ref B)=some true):hBare K B ts rest e l c=ts l c:=by
 unfold hBare
 simp only [h]
theorem make_ok (h:gN n g (.hnd c.length::xs) (c++[.ins C []])=some (.ok .non c1)):mkM C n g xs c=some (.ok (.hnd c.length) c1):=by
 unfold mkM
 rw [bd_ok h]
 rfl
theorem raise_ok {t:AD} (h:t l c=some (.ok xs c1)) (hl:xs.length<=1000):sRaise C t l c=some (.exc ⟨.ref C,[]⟩ c1):=by
 unfold sRaise
 rw [bd_ok h]
 simp only [hl,if_true]
theorem cellI_at {b:Nat} (h:c[b]?=some (.ins C fs)):cellI C (.hnd b) c=some (b,fs):=by
 unfold cellI
 simp only [h,if_true]
end
end DL
namespace DL
open PySem PySem.Spec L2
open Classical in
noncomputable def gC (tb:SD) (N:List Str):FD:=fun ds c=>match tb (startD N ds) c with
 | some (.ok (.ret d) c')=>if D.bel c.length d=true/\Kept c c' then some (.ok d (c'.take c.length)) else none
 | some (.ok (.nx _) c')=>if Kept c c' then some (.ok .non (c'.take c.length)) else none
 | _=>none
noncomputable def gW (tb:SD) (N:List Str):FD:=fun ds c=>match tb (startD N ds) c with
 | some (.ok (.ret d) c')=>some (.ok d c')
 | some (.ok (.nx _) c')=>some (.ok .non c')
 | _=>none
section
variable {tb:SD} {N:List Str} {n:Nat} {ds:List D} {c c' c2:List Cell} {d:D} {l:L} {x:Exc}
theorem run_C:∀ ds c r,ds.length=n->gC tb N ds c=some r->∃ d c1,r=.ok d c1/\Fin c (tb (startD N ds) c) (some (.ok d c1)):=by
 intro ds c r hl e
 unfold gC at e
 split at e
 ·rename_i z
  split at e
  ·rename_i h
   cases e
   exact ⟨_,_,rfl,by rw [z];exact .val h.1 h.2⟩
  ·cases e
 ·rename_i z
  split at e
  ·rename_i h
   cases e
   exact ⟨_,_,rfl,by rw [z];exact .non h⟩
  ·cases e
 ·cases e
theorem run_W:∀ ds c r,ds.length=n->gW tb N ds c=some r->∃ d c1,r=.ok d c1/\Fin c (tb (startD N ds) c) (some (.ok d c1)):=by
 intro ds c r hl e
 unfold gW at e
 split at e
 ·rename_i z
  cases e
  exact ⟨_,_,rfl,by rw [z];exact .whole⟩
 ·rename_i z
  cases e
  exact ⟨_,_,rfl,by rw [z];exact .wholeN⟩
 ·cases e
theorem call_C (hl:ds.length=n) (h:tb (startD N ds) c=some (.ok (.ret d) c')) (hb:D.bel c.length d=true) (hk:Kept c c') (e:c'.take c.length=c2):gN n (gC tb N) ds c=some (.ok d c2):=by
 unfold gN gC
 rw [if_pos hl,h]
 simp only
 rw [if_pos ⟨hb,hk⟩,e]
theorem call_W (hl:ds.length=n) (h:tb (startD N ds) c=some (.ok (.ret d) c')):gN n (gW tb N) ds c=some (.ok d c'):=by
 unfold gN gW
 rw [if_pos hl,h]
theorem call_WN (hl:ds.length=n) (h:tb (startD N ds) c=some (.ok (.nx l) c')):gN n (gW tb N) ds c=some (.ok .non c'):=by
 unfold gN gW
 rw [if_pos hl,h]
end
abbrev Ev (te:ED) (l:L) (c:List Cell) (x:D):Prop:=te l c=some (.ok x c)
abbrev EvA (t:AD) (l:L) (c:List Cell) (xs:List D):Prop:=t l c=some (.ok xs c)
abbrev EvT (t:TD) (l:L) (c:List Cell) (b:Bool):Prop:=t l c=some (.ok b c)
section
variable {f:D->D->M D} {h:D->M D} {ta tb te:ED} {t:AD} {l:L} {c:List Cell} {x y z:D} {xs:List D} {n:Nat} {g:FD} {dds:List D} {p q:TD} {b:Bool}
theorem ev2 (h1:Ev ta l c x) (h2:Ev tb l c y) (h3:f x y c=some (.ok z c)):Ev (d2 f ta tb) l c z:=(d2_ok h1 h2).trans h3
theorem ev1 (h1:Ev ta l c x) (h3:h x c=some (.ok z c)):Ev (d1 h ta) l c z:=(d1_ok h1).trans h3
theorem evc (h1:EvA t l c xs) (h3:gN n g (xs++dds) c=some (.ok z c)):Ev (dCall n g dds t) l c z:=(dCall_ok h1).trans h3
theorem eva (h1:Ev ta l c x) (h2:EvA t l c xs):EvA (aCons ta t) l c (x::xs):=aCons_ok h1 h2
theorem evn:EvA aNil l c []:=rfl
theorem evt (h1:EvA t l c xs) (hl:xs.length<=1000:=by simp):Ev (dTup t) l c (.tup xs):=tup_ok h1 hl
theorem evl (h1:EvA t l c xs) (hl:xs.length<=1000:=by simp):Ev (dLst t) l c (.lst xs):=by
 show dLst t l c=_
 unfold dLst
 rw [bd_ok h1]
 first
  | rfl
  | (simp only [if_pos hl];rfl)
theorem et_of (h1:Ev te l c (.bl b)):EvT (tOf te) l c b:=by
 show tOf te l c=_
 unfold tOf
 rw [bd_ok h1]
 rfl
theorem et_tru (h1:Ev te l c (.bl b)):EvT (dTru te) l c b:=by
 show dTru te l c=_
 unfold dTru
 rw [bd_ok h1]
 rfl
theorem et_not (h1:EvT p l c b):EvT (dNotT p) l c (!b):=by
 show dNotT p l c=_
 unfold dNotT
 rw [bd_ok h1]
 rfl
theorem et_orf (h1:EvT p l c false) (h2:EvT q l c b):EvT (dOrT p q) l c b:=by
 show dOrT p q l c=_
 unfold dOrT
 rw [bd_ok h1]
 exact h2
theorem et_andt (h1:EvT p l c true) (h2:EvT q l c b):EvT (dAndT p q) l c b:=by
 show dAndT p q l c=_
 unfold dAndT
 rw [bd_ok h1]
 exact h2
theorem et_andf (h1:EvT p l c false):EvT (dAndT p q) l c false:=by
 show dAndT p q l c=_
 unfold dAndT
 rw [bd_ok h1]
 rfl
theorem i2_ok {ok:Int->Int->Prop} {f:Int->Int->D} [inst:∀ i j,Decidable (ok i j)] {i j:Int} {c:List Cell} (h:ok i j):i2 ok f (.int i) (.int j) c=some (.ok (f i j) c):=by
 unfold i2
 simp only [if_pos h]
 rfl
end
theorem take_app (c ex:List Cell):(c++ex).take c.length=c:=List.take_left
end DL
namespace DL
open PySem PySem.Spec PySem.Calls L2
open PyProof.Rows hiding St
section
variable {prog:Program} {w:World} {A:Around} {K:Frag} {C fI:Addr} {R:Result->Shared->Prop} {h:Heap} {g:Array GenState} {d:Drawn} {t:Nat} {os:OsState}
end
section
variable {X:Cx} {E:XK} {x:Str} {C P fI:Addr} {np cpos apos pos:Pos} {e:Expr} {es:List Expr} {t:TA}
end
end DL
namespace DL
open PySem PySem.Spec PySem.Calls L2
open PyProof.Rows hiding St
open PySem.Builtin PySem.Builtin.ObjectAttr
section
variable {prog:Program} {w:World} {A:Around} {E:Value->Shared->Prop} {K:Frag} {C x:Addr} {R:Result->Shared->Prop} {s:Shared} {ox:Obj} {od:Option Obj} {name:Str} {tk:Tok} {v:Value}
end
section
variable {X:Cx} {pins:List (Addr×Obj)} {σ:St} {H:Hp} {s:Shared}
variable {o value:Expr} {f:Str} {pos pos':Pos} {ta tv:TE} {C:Addr}
end
end DL
namespace DL
open PySem PySem.Spec PySem.Calls L2
open PyProof.Rows hiding St
section
variable {X:Cx} {pins:List (Addr×Obj)} {σ:St} {H:Hp} {s:Shared} {E:XK}
end
section
variable {X:Cx} {CX:CXT} {k:Nat} {f C:Addr} {fd:FuncData} {ps:List Str} {sp:Sp} {E E':XK} {x:Str} {np cpos pos:Pos} {e:Expr} {es:List Expr} {t:TA} {pins:List (Addr×Obj)} {σ:St} {H:Hp} {s:Shared}
end
end DL
namespace DL
open PySem PySem.Spec PySem.Calls L2
open PyProof.Rows hiding St
section
variable {P:Program} {w:World} {K:Frag} {mg:Str->Option Value} {base:Heap}
end
end DL
namespace DL
open PySem PySem.Spec PySem.Calls L2 Builtin.Str
open PyProof.Rows hiding St
section
variable {X:Cx} {E:XK} {a b e o:Expr} {ta tb te to:ED} {pos apos cpos:Pos}
def rStarts:V->List V->Hp->VK->Prop:=fun v vs H Q=>∃ x y,v=.str x/\vs=[.str y]/\Q (.bl (Txt.startswith x y)) H
theorem mt_starts:MtR X "str.startswith" rStarts:=by
 intro pins s σ H x xs v us Q I rx rs h
 obtain ⟨z,y,rfl,rfl,q⟩:=h
 obtain ⟨t,rfl⟩:=rx
 obtain ⟨u,rfl,t',rfl⟩:=vals1 rs
 exact SC.startswith ⟨.bl _,H,I,rfl,q⟩
theorem valsT {ys:List Str}:∀ {its:List Value},Vals (ys.map V.str) its->∃ l:List (Str×Tok),its=strValues l/\l.map (fun p=>p.1)=ys:=by
 induction ys with
 | nil=>intro its h;cases h;exact ⟨[],rfl,rfl⟩
 | cons y ys ih=>
  intro its h
  cases h with
  | cons h1 h2=>
   obtain ⟨t,rfl⟩:=h1
   obtain ⟨l,rfl,e⟩:=ih h2
   exact ⟨(y,t)::l,rfl,by rw [List.map_cons,e]⟩
theorem strsV:∀ l:List (Str×Tok),Vals ((l.map fun p=>p.1).map V.str) (strValues l)
 | []=>.nil
 | p::l=>.cons ⟨p.2,rfl⟩ (strsV l)
def rJoin (K:Frag):V->List V->Hp->VK->Prop:=fun v vs H Q=>∃ x p ys,v=.str x/\vs=[.ref p]/\SqL K H p (ys.map V.str)/\JoinOk x ys=true/\Q (.str (Txt.join x ys)) H
theorem mt_join:MtR X "str.join" (rJoin X.K):=by
 intro pins s σ H x xs v us Q I rx rs h
 obtain ⟨z,p,ys,rfl,rfl,hq,ok,q⟩:=h
 obtain ⟨t,rfl⟩:=rx
 obtain ⟨u,rfl,r1⟩:=vals1 rs
 cases r1
 obtain ⟨its,r',pl,hz⟩:=I.list hq
 obtain ⟨l,rfl,e⟩:=valsT r'
 exact SC.join pl.isList e ok fun t' k=>⟨.str _,H,I.tok _,⟨_,rfl⟩,q⟩
def rSplit:V->List V->Hp->VK->Prop:=fun v vs H Q=>∃ x y,v=.str x/\vs=[.str y]/\(y.length == 0)=false/\x.length<=sizeLine/\(Txt.split x y).length<=sizeLine/\∀ l,H l=none->Q (.ref l) (upd H l (.lst ((Txt.split x y).map V.str)))
theorem mt_split:MtR X "str.split" rSplit:=by
 intro pins s σ H x xs v us Q I rx rs h
 obtain ⟨x,y,rfl,rfl,hy,hx,hz,q⟩:=h
 obtain ⟨t,rfl⟩:=rx
 obtain ⟨u,rfl,t',rfl⟩:=vals1 rs
 have fin:∀ (l:List (Str×Tok)) (k:Nat),l.map (fun p=>p.1)=Txt.split x y->EP X pins σ Q (.ref s.heap.objs.size) { s with heap:=s.heap.push { cls:=.type "list",data:=.seq (strValues l).toArray },toks:=k }:=by
  intro l k e
  refine ⟨.ref s.heap.objs.size,_,I.lnew (ys:=(Txt.split x y).map V.str) ?_ (by rw [List.length_map];exact hz),rfl,q _ I.fresh⟩
  rw [← e];exact strsV l
 cases h1:(decide (x.length < y.length) || decide (Builtin.Str.strKind x < Builtin.Str.strKind y))
 ·cases hf:(occurrences x y 0 x.length (x.length+1)).isEmpty
  ·have e0:Txt.split x y=partsBetween x (occurrences x y 0 x.length (x.length+1)) y.length:=(if_neg (ne_true_of_eq_false h1)).trans (if_neg (ne_true_of_eq_false hf))
   refine call_meets F.slot_str_split (typeIs_str _ _ _) F.entry_str_split (F.args_str_split_2 _ _) (meets_str_split_sep x y t t' h1 hy hf hx (by rw [← e0];exact hz)) ?_
   show wants _ _ _ { s with toks:=_,heap:=s.heap.push { cls:=.type "list",data:=.seq (strsFrom s.toks (partsBetween x (occurrences x y 0 x.length (x.length+1)) y.length)).toArray } }
   rw [strsFrom_eq]
   exact fin _ _ ((numbered_texts _ _).trans e0.symm)
  ·exact call_meets F.slot_str_split (typeIs_str _ _ _) F.entry_str_split (F.args_str_split_2 _ _) (meets_str_split_not_found x y t t' h1 hy hf) (fin [(x,t)] s.toks ((if_neg (ne_true_of_eq_false h1)).trans (if_pos hf)).symm)
 ·exact call_meets F.slot_str_split (typeIs_str _ _ _) F.entry_str_split (F.args_str_split_2 _ _) (meets_str_split_cannot_occur x y t t' h1) (fin [(x,t)] s.toks (if_pos h1).symm)
theorem call_int_text:CallR X (.type "int") (fun xs H Q=>∃ x n,xs=[.str x]/\PySem.intText? x=some n/\x.length<=640/\Q (.int n) H):=by
 intro pins s σ H xs us Q I r h
 obtain ⟨x,n,rfl,hn,hl,q⟩:=h
 obtain ⟨u,rfl,t,rfl⟩:=vals1 r
 exact PySem.W.KIN.call_text hn hl ⟨.int n,H,I.tok _,⟨_,rfl⟩,q⟩
end
end DL
namespace DL
open PySem PySem.Spec PySem.Calls L2 Builtin.Str
open PyProof.Rows hiding St
abbrev tx (x:List Nat):Str:=⟨x.toArray⟩
theorem tx_cps (s:Str):tx s.cps.toList=s:=by cases s;rfl
def strsD:List D->Option (List (List Nat))
 | []=>some []
 | .str x::r=>(strsD r).map (x::·)
 | _::_=>none
theorem strsD_map:∀ zs:List (List Nat),strsD (zs.map D.str)=some zs
 | []=>rfl
 | z::zs=>by rw [List.map_cons,strsD,strsD_map zs];rfl
theorem strsD_ok {K:Frag} {H:Hp} {O:Ow}:∀ {ys:List D} {vs:List V} {zs:List (List Nat)},Reps K H O vs ys->strsD ys=some zs->vs=(zs.map tx).map V.str
 | [],vs,zs,r,h=>by
  cases r;cases h;rfl
 | y::ys,vs,zs,r,h=>by
  cases r with
  | cons r1 r2=>
   cases r1 with
   | str x=>
    simp only [strsD,Option.map_eq_some_iff] at h
    obtain ⟨w,h1,rfl⟩:=h
    rw [strsD_ok r2 h1];rfl
   | _=>cases h
theorem rep_s {K:Frag} {H:Hp} {O:Ow} (s:Str):Rep K H O (.str s) (.str s.cps.toList):=by
 obtain ⟨⟨l⟩⟩:=s
 exact .str l
theorem repsS {K:Frag} {H:Hp} {O:Ow}:∀ ss:List Str,Reps K H O (ss.map V.str) (ss.map fun s=>D.str s.cps.toList)
 | []=>.nil
 | s::ss=>.cons (rep_s s) (repsS ss)
def startsM (o:D) (xs:List D):M D:=match o,xs with
 | .str x,[.str y]=>M.ret (.bl (Txt.startswith (tx x) (tx y)))
 | _,_=>M.stuck
def joinM (o:D) (xs:List D):M D:=fun c=>match o,xs with
 | .str x,[d]=>match seqL d c with
  | some ys=>match strsD ys with
   | some zs=>if JoinOk (tx x) (zs.map tx)=true then some (.ok (.str (Txt.join (tx x) (zs.map tx)).cps.toList) c) else none
   | none=>none
  | none=>none
 | _,_=>none
def splitM (o:D) (xs:List D):M D:=match o,xs with
 | .str x,[.str y]=>if y≠[]/\x.length<=1000000/\(Txt.split (tx x) (tx y)).length<=1000000 then M.ret (.lst ((Txt.split (tx x) (tx y)).map fun s=>D.str s.cps.toList)) else M.stuck
 | _,_=>M.stuck
def intM:D->M D
 | .str x=>match PySem.intText? (tx x) with
  | some n=>if x.length<=640 then M.ret (.int n) else M.stuck
  | none=>M.stuck
 | .bl b=>M.ret (.int (if b then 1 else 0))
 | .int i=>M.ret (.int i)
 | _=>M.stuck
section
variable {X:Cx} {E:XK} {a b e o:Expr} {ta tb te to:ED} {pos apos cpos:Pos}
theorem mt_startsD:MtD X E rStarts startsM:=by
 intro H O c o xs v vs Q hc ro rx p
 cases ro with
 | str x=>
  cases rx with
  | nil=>exact p.elim
  | cons r1 r2=>
   cases r2 with
   | cons _ _=>cases r1 <;> exact p.elim
   | nil=>
    cases r1 with
    | str y=>exact ⟨_,_,rfl,rfl,Post.ret p hc _ (.bl _)⟩
    | _=>exact p.elim
 | _=>exact p.elim
theorem mt_joinD:MtD X E (rJoin X.K) joinM:=by
 intro H O c o xs v vs Q hc ro rx p
 unfold joinM at p
 cases ro with
 | str x=>
  cases rx with
  | nil=>exact p.elim
  | cons r1 r2=>
   cases r2 with
   | cons _ _=>exact p.elim
   | nil=>
    rename_i v1 d1
    have p:PostD X.K E H O Q (match seqL d1 c with
     | some ys=>match strsD ys with
      | some zs=>if JoinOk (tx x) (zs.map tx)=true then some (.ok (.str (Txt.join (tx x) (zs.map tx)).cps.toList) c) else none
      | none=>none
     | none=>none):=p
    cases z:seqL d1 c with
    | none=>rw [z] at p;exact p.elim
    | some ys=>
     rw [z] at p
     obtain ⟨a,us,e1,ha,ru⟩:=seqL_ok hc r1 z
     have p:PostD X.K E H O Q (match strsD ys with
      | some zs=>if JoinOk (tx x) (zs.map tx)=true then some (.ok (.str (Txt.join (tx x) (zs.map tx)).cps.toList) c) else none
      | none=>none):=p
     cases z2:strsD ys with
     | none=>rw [z2] at p;exact p.elim
     | some zs=>
      rw [z2] at p
      have p:PostD X.K E H O Q (if JoinOk (tx x) (zs.map tx)=true then some (.ok (.str (Txt.join (tx x) (zs.map tx)).cps.toList) c) else none):=p
      by_cases ok:JoinOk (tx x) (zs.map tx)=true
      ·rw [if_pos ok] at p
       have e2:=strsD_ok ru z2
       refine ⟨tx x,a,zs.map tx,rfl,by rw [e1],by rw [← e2];exact SqL.of ha,ok,PostD.ok p hc (rep_s _)⟩
      ·rw [if_neg ok] at p;exact p.elim
 | _=>exact p.elim
theorem mt_splitD:MtD X E rSplit splitM:=by
 intro H O c o xs v vs Q hc ro rx p
 cases ro with
 | str x=>
  cases rx with
  | nil=>exact p.elim
  | cons r1 r2=>
   cases r2 with
   | cons _ _=>cases r1 <;> exact p.elim
   | nil=>
    cases r1 with
    | str y=>
     have p:PostD X.K E H O Q ((if y≠[]/\x.length<=1000000/\(Txt.split (tx x) (tx y)).length<=1000000 then M.ret (.lst ((Txt.split (tx x) (tx y)).map fun s=>D.str s.cps.toList)) else M.stuck) c):=p
     by_cases z:y≠[]/\x.length<=1000000/\(Txt.split (tx x) (tx y)).length<=1000000
     ·rw [if_pos z] at p
      obtain ⟨z1,z2,z3⟩:=z
      refine ⟨tx x,tx y,rfl,rfl,?_,?_,Nat.le_trans z3 sl_1e6,fun q n=>PostD.new p hc n (hc.lstNew n (repsS _))⟩
      ·show (y.toArray.size == 0)=false
       rw [List.size_toArray]
       cases y with
       | nil=>exact absurd rfl z1
       | cons a l=>rfl
      ·show x.toArray.size<=sizeLine
       rw [List.size_toArray];exact Nat.le_trans z2 sl_1e6
     ·rw [if_neg z] at p;exact p.elim
    | _=>exact p.elim
 | _=>exact p.elim
theorem de_starts (ho:DE X E o to) (ha:DE X E e te) (hbase:attributeBase o "startswith" X.env (eval o X.env)=eval o X.env:=by rfl)
  (hfew:((backTo cpos (starEach [e] X.env)).all (fun x=>!x.1) && (backToKw cpos (keywordEach [] X.env)).all (fun x=>x.1.isSome) && decide ([e].length+([]:List Keyword).length+(if ([]:List Keyword).isEmpty then 0 else 1) < 30))=true:=by rfl)
  (hline:(apos.endLine == cpos.line)=true:=by rfl) (hs:starEach [e] X.env=[(false,eval e X.env)]:=by rfl):
  DE X E (.Call (.Attribute o "startswith" apos) [e] [] cpos) (mM .str startsM to (aCons te aNil)):=
 de_mt .str (.inr (.inr rfl)) F.plainAttrs_str F.slot_str_startswith F.type_str_startswith mt_starts mt_startsD ho (da_cons ha da_nil hs) hbase hfew hline hs rfl
theorem de_join (ho:DE X E o to) (ha:DE X E e te) (hbase:attributeBase o "join" X.env (eval o X.env)=eval o X.env:=by rfl)
  (hfew:((backTo cpos (starEach [e] X.env)).all (fun x=>!x.1) && (backToKw cpos (keywordEach [] X.env)).all (fun x=>x.1.isSome) && decide ([e].length+([]:List Keyword).length+(if ([]:List Keyword).isEmpty then 0 else 1) < 30))=true:=by rfl)
  (hline:(apos.endLine == cpos.line)=true:=by rfl) (hs:starEach [e] X.env=[(false,eval e X.env)]:=by rfl):
  DE X E (.Call (.Attribute o "join" apos) [e] [] cpos) (mM .str joinM to (aCons te aNil)):=
 de_mt .str (.inr (.inr rfl)) F.plainAttrs_str F.slot_str_join F.type_str_join mt_join mt_joinD ho (da_cons ha da_nil hs) hbase hfew hline hs rfl
theorem de_split (ho:DE X E o to) (ha:DE X E e te) (hbase:attributeBase o "split" X.env (eval o X.env)=eval o X.env:=by rfl)
  (hfew:((backTo cpos (starEach [e] X.env)).all (fun x=>!x.1) && (backToKw cpos (keywordEach [] X.env)).all (fun x=>x.1.isSome) && decide ([e].length+([]:List Keyword).length+(if ([]:List Keyword).isEmpty then 0 else 1) < 30))=true:=by rfl)
  (hline:(apos.endLine == cpos.line)=true:=by rfl) (hs:starEach [e] X.env=[(false,eval e X.env)]:=by rfl):
  DE X E (.Call (.Attribute o "split" apos) [e] [] cpos) (mM .str splitM to (aCons te aNil)):=
 de_mt .str (.inr (.inr rfl)) F.plainAttrs_str F.slot_str_split F.type_str_split mt_split mt_splitD ho (da_cons ha da_nil hs) hbase hfew hline hs rfl
theorem de_intT {p2:Pos} (hm:X.mg "int"=none) (ha:DE X E a ta) (hg:Gl X "int":=by rfl) (hst:starEach [a] X.env=[(false,eval a X.env)]:=by rfl):DE X E (.Call (.Name "int" p2) [a] [] pos) (d1 intM ta):=
 de_t1 (T:="int") (CallR.or call_int_text call_int1) (fun H O c d v Q hc r p=>by
  cases r with
  | str x=>
   have p:PostD X.K E H O Q ((match PySem.intText? (tx x) with
    | some n=>if x.length<=640 then (M.ret (D.int n):M D) else M.stuck
    | none=>M.stuck) c):=p
   cases z:PySem.intText? (tx x) with
   | none=>rw [z] at p;exact p.elim
   | some n=>
    rw [z] at p
    have p:PostD X.K E H O Q ((if x.length<=640 then (M.ret (D.int n):M D) else M.stuck) c):=p
    by_cases z2:x.length<=640
    ·rw [if_pos z2] at p
     exact .inl ⟨tx x,n,rfl,z,by show x.toArray.size<=640;rw [List.size_toArray];exact z2,Post.ret p hc _ (.int _)⟩
    ·rw [if_neg z2] at p;exact p.elim
  | int i=>exact .inr (.inl ⟨i,rfl,Post.ret p hc _ (.int _)⟩)
  | bl b=>exact .inr (.inr ⟨b,rfl,Post.ret p hc _ (.int _)⟩)
  | _=>exact p.elim) hm ha (hg:=hg) (hst:=hst)
end
end DL
namespace DL
open PySem PySem.Spec PySem.Calls L2
open PyProof.Rows hiding St
section
variable {X:Cx} {E:XK} {x:Str} {C fA:Addr} {np cpos pos:Pos} {e:Expr} {t:AD} {k:Nat} {fd:FuncData} {ps:List Str} {fl:Str}
end
end DL
namespace DL
open PySem PySem.Spec PySem.Calls L2
open PyProof.Rows hiding St
section
variable {X:Cx} {E:XK} {o e:Expr} {to:ED} {ta:TE} {pos:Pos} {f:Str}
end
theorem passOwn {CX:CXT} {P:Program} {w:World} {K:Frag} {mg:Str->Option Value} {base:Heap} {N:List Str} {qual:Str} {scope:Scope} {fa:Addr} {cd:Value} {A:Around} {outer:List Env} {s:Shared} {H:Hp} {E:XK}:
  PassesOwn (model (cxOf CX P w K mg base N qual scope fa cd A outer s H E).prog (cxOf CX P w K mg base N qual scope fa cd A outer s H E).w) (cxOf CX P w K mg base N qual scope fa cd A outer s H E).A (cxOf CX P w K mg base N qual scope fa cd A outer s H E).env (cxOf CX P w K mg base N qual scope fa cd A outer s H E).xe:=
 PassesOwn.leaving
end DL
namespace DL
open PySem PySem.Spec PySem.Calls L2 Builtin
open PyProof.Rows hiding St
end DL
namespace DL
open PySem PySem.Spec PySem.Calls L2
open PyProof.Rows hiding St
section
variable {X:Cx} {E:XK} {e o:Expr} {te to:ED} {pos apos cpos:Pos}
end
end DL
namespace DL
open PySem PySem.Spec PySem.Calls L2
open PyProof.Rows hiding St
inductive Fin2 (c:List Cell):Option (Out Fl)->Option (Out D)->Prop where
 | old {a:Option (Out Fl)} {b:Option (Out D)} (h:Fin c a b):Fin2 c a b
 | wholeX {x:Exc} {c':List Cell}:Fin2 c (some (.exc x c')) (some (.exc x c'))
noncomputable def gWX (tb:SD) (N:List Str):FD:=fun ds c=>match tb (startD N ds) c with
 | some (.exc x c')=>some (.exc x c')
 | _=>gW tb N ds c
section
variable {tb:SD} {N:List Str} {n:Nat} {ds:List D} {c c':List Cell} {d:D} {x:Exc}
theorem run_WX:∀ ds c r,ds.length=n->gWX tb N ds c=some r->Fin2 c (tb (startD N ds) c) (some r):=by
 intro ds c r hl e
 unfold gWX at e
 split at e
 ·rename_i z
  cases e
  rw [z];exact .wholeX
 ·obtain ⟨d,c1,rfl,h⟩:=run_W (n:=n) ds c r hl e
  exact .old h
theorem call_WX (hl:ds.length=n) (h:tb (startD N ds) c=some (.ok (.ret d) c')):gN n (gWX tb N) ds c=some (.ok d c'):=by
 unfold gN gWX gW
 rw [if_pos hl,h]
theorem call_WXx (hl:ds.length=n) (h:tb (startD N ds) c=some (.exc x c')):gN n (gWX tb N) ds c=some (.exc x c'):=by
 unfold gN gWX
 rw [if_pos hl,h]
end
section
variable {P:Program} {w:World} {K:Frag} {mg:Str->Option Value} {base:Heap}
theorem okGX2 {x qual:Str} {st:Stmt} {f:Addr} {fd:FuncData} {N ps:List Str} {k n:Nat} {g:FD} {tb:SD} (F:FunG K x qual st f fd) (S:FnScope N ps (defScope st)) (hn:ps.length=n)
  (hb:∀ (cdv:Value) (A:Around) (outer:List Env) (s:Shared) (H:Hp) (E:XK),Room k (A.deeper (envOfC qual (defScope st) s.heap.objs.size f cdv))->DSs (cxOf (CXD P w) P w K mg base N qual (defScope st) f cdv A outer s H E) E (defBody st) tb)
  (hr:∀ ds c r,ds.length=n->g ds c=some r->Fin2 c (tb (startD N ds) c) (some r)):
  FnOk P w K mg base (CXD P w) (k+1) f fd ps (spD K n g):=by
 obtain ⟨oc,od,dV,kV,doc,pm,an,cdv,ct,osl,rfl,lk,hcd⟩:=F.ex
 refine fn_of lk hcd S (fun vs H Q E h=>by rw [hn];exact h.1) fun A outer s H vs Q E hroom h=>?_
 obtain ⟨hl,O,ds,c,r,hc,p⟩:=h
 refine ⟨_,(hb cdv A outer s H E hroom).h,?_⟩
 have hl2:ds.length=n:=by rw [← r.length];exact hl
 cases z:g ds c with
 | none=>rw [z] at p;exact p.elim
 | some o=>
  refine ⟨O,startD N ds,c,Locs.start N r,hc,?_⟩
  have hf:=hr ds c o hl2 z
  rw [z] at p
  generalize tb (startD N ds) c=a at hf ⊢
  cases hf with
  | old h=>exact fin_post hc h p
  | wholeX=>exact p
end
end DL
namespace DL
open PySem PySem.Spec PySem.Calls L2
open PyProof.Rows hiding St
section
variable {X:Cx} {pins:List (Addr×Obj)} {σ:St} {H:Hp} {s:Shared} {a:Addr} {u u':HO}
end
section
variable {X:Cx} {E:XK} {tg:Expr}
end
end DL
namespace DL
open PySem PySem.Spec PySem.Calls L2
open PyProof.Rows hiding St
section
variable {X:Cx} {E:XK}
theorem hu1 {n:Nat} (h:n+64 < cLine):n+1 < cLine:=by omega
end
end DL
set_option maxHeartbeats 4000000
namespace DL
open PySem PySem.Spec PySem.Calls L2
open PyProof.Rows hiding St
abbrev IsTrip (h:Heap) (T:Addr) (a b c:Value):Prop:=h.get? T=some { cls:=.type "tuple",data:=.seq #[a,b,c] }
structure Ap3 (z TI TO i1 i2 i3:Addr):Prop where
 zTI:z≠TI
 zTO:z≠TO
 z1:z≠i1
 z2:z≠i2
 z3:z≠i3
 TITO:TI≠TO
 TI1:TI≠i1
 TI2:TI≠i2
 TI3:TI≠i3
 TO1:TO≠i1
 TO2:TO≠i2
 TO3:TO≠i3
 i12:i1≠i2
 i13:i1≠i3
 i23:i2≠i3
section
variable {prog:Program} {w:World} {A:Around} {E:Value->Shared->Prop} {s:Shared}
theorem upd_trip {T:Addr} {a b c x:Value} {k:Nat} {Q:Unit->Shared->Prop} (hT:IsTrip s.heap T a b c)
  (h:∀ h',h'.get? T=some { cls:=.type "tuple",data:=.seq ((#[a,b,c]:Array Value).setIfInBounds k x) }->Heap.SameBut T s.heap h'->Q () { s with heap:=h' }):
  wpAny (model prog w) A (updateSeq T (·.setIfInBounds k x)) Q E s:=by
 refine wpAny_updateSeq hT rfl (h _ ?_ (Heap.SameBut.update ..))
 rw [Heap.get?_update_self _ hT rfl]
 simp [Obj.mapSeq]
theorem zip3_item {z TI TO i1 i2 i3 l1 l2 l3:Addr} {k1 k2 k3:Nat} {xs ys zs:Array Value} {x y t a b c:Value} {Q:Value->Shared->Prop} (D:Ap3 z TI TO i1 i2 i3)
  (n1:l1≠z/\l1≠TO/\l1≠i1/\l1≠i2/\l1≠i3) (n2:l2≠z/\l2≠TO/\l2≠i1/\l2≠i2/\l2≠i3) (n3:l3≠z/\l3≠TO/\l3≠i1/\l3≠i2/\l3≠i3)
  (hz:IsZip s.heap z TI TO .none) (hTI:IsTrip s.heap TI (.ref i1) (.ref i2) (.ref i3)) (hTO:IsTrip s.heap TO a b c)
  (h1:s.heap.IsListIter i1 l1 k1) (h2:s.heap.IsListIter i2 l2 k2) (h3:s.heap.IsListIter i3 l3 k3) (hl1:s.heap.IsList l1 xs) (hl2:s.heap.IsList l2 ys) (hl3:s.heap.IsList l3 zs) (hx:xs[k1]?=some x) (hy:ys[k2]?=some y) (ht:zs[k3]?=some t)
  (hQ:∀ h',IsZip h' z TI TO (rawInt s.heap.objs.size)->IsTrip h' TO x y t->h'.IsListIter i1 l1 (k1+1)->h'.IsListIter i2 l2 (k2+1)->h'.IsListIter i3 l3 (k3+1)->IsTrip h' s.heap.objs.size x y t->h'.objs.size=s.heap.objs.size+1->
   (∀ c o,c≠z->c≠TO->c≠i1->c≠i2->c≠i3->s.heap.get? c=some o->h'.get? c=some o)->Q (.ref s.heap.objs.size) { s with heap:=h' }):
  wpAny (model prog w) A (Builtin.«zip.__next__» ⟨[.ref z],[]⟩) (fun fin s'=>∃ v,fin=.done (.ret v)/\Q v s') E s:=by
 show wpAny _ _ (field (.ref z) 2 >>= _) _ _ _
 refine wpAny_bind (wpAny_field hz rfl (x:=.bool false) rfl ?_)
 show wpAny _ _ (field (.ref z) 3 >>= _) _ _ _
 refine wpAny_bind (wpAny_field hz rfl (x:=.ref TI) rfl ?_)
 refine wpAny_bind (wpAny_seqItems hTI rfl ?_)
 show wpAny _ _ (Builtin.SmallTypes.ownedTupleIsFree (.ref z) >>= _) _ _ _
 refine wpAny_bind ?_
 unfold Builtin.SmallTypes.ownedTupleIsFree
 refine wpAny_bind (wpAny_field hz rfl (x:=.none) rfl (wpAny_pure ?_))
 simp only [if_true]
 refine wpAny_bind (wpAny_rule ?_)
 refine wpAny_bind (wpAny_field hz rfl (x:=.ref TO) rfl ?_)
 refine wpAny_bind (wpAny_setField_rec hz (by simp) fun g1 hz₁ hs₁=>?_)
 replace hz₁:IsZip g1 z TI TO .ellipsis:=hz₁
 refine wpAny_bind ?_
 simp only [List.zipIdx_cons,List.zipIdx_nil,List.forIn_cons,List.forIn_nil]
 refine wpAny_bind (wpAny_bind (wpAny_onRaise ?_))
 show wpAny _ _ (Builtin.SmallTypes.nextOf (.ref i1) >>= _) _ _ _
 refine wpAny_bind (wpAny_nextOf_list_item (h1.extBut hs₁.extBut D.z1.symm) (hl1.extBut hs₁.extBut n1.1) hx fun g2 h1₂ hs₂=>wpAny_pure ?_)
 have hTO₂:IsTrip g2 TO a b c:=hs₂.extBut _ _ D.TO1 (hs₁.extBut _ _ D.zTO.symm hTO)
 refine wpAny_bind (wpAny_seqItems hTO₂ rfl ?_)
 refine wpAny_bind (upd_trip hTO₂ fun g3 hTO₃ hs₃=>?_)
 replace hTO₃:IsTrip g3 TO x b c:=hTO₃
 refine wpAny_bind (wpAny_letGo (wpAny_pure ?_))
 refine wpAny_bind (wpAny_bind (wpAny_onRaise ?_))
 show wpAny _ _ (Builtin.SmallTypes.nextOf (.ref i2) >>= _) _ _ _
 refine wpAny_bind (wpAny_nextOf_list_item (((h2.extBut hs₁.extBut D.z2.symm).extBut hs₂.extBut D.i12.symm).extBut hs₃.extBut D.TO2.symm)
  (((hl2.extBut hs₁.extBut n2.1).extBut hs₂.extBut n2.2.2.1).extBut hs₃.extBut n2.2.1) hy fun g4 h2₄ hs₄=>wpAny_pure ?_)
 have hTO₄:IsTrip g4 TO x b c:=hs₄.extBut _ _ D.TO2 hTO₃
 refine wpAny_bind (wpAny_seqItems hTO₄ rfl ?_)
 refine wpAny_bind (upd_trip hTO₄ fun g5 hTO₅ hs₅=>?_)
 replace hTO₅:IsTrip g5 TO x y c:=hTO₅
 refine wpAny_bind (wpAny_letGo (wpAny_pure ?_))
 refine wpAny_bind (wpAny_bind (wpAny_onRaise ?_))
 show wpAny _ _ (Builtin.SmallTypes.nextOf (.ref i3) >>= _) _ _ _
 refine wpAny_bind (wpAny_nextOf_list_item (((((h3.extBut hs₁.extBut D.z3.symm).extBut hs₂.extBut D.i13.symm).extBut hs₃.extBut D.TO3.symm).extBut hs₄.extBut D.i23.symm).extBut hs₅.extBut D.TO3.symm)
  (((((hl3.extBut hs₁.extBut n3.1).extBut hs₂.extBut n3.2.2.1).extBut hs₃.extBut n3.2.1).extBut hs₄.extBut n3.2.2.2.1).extBut hs₅.extBut n3.2.1) ht fun g6 h3₆ hs₆=>wpAny_pure ?_)
 have hTO₆:IsTrip g6 TO x y c:=hs₆.extBut _ _ D.TO3 hTO₅
 refine wpAny_bind (wpAny_seqItems hTO₆ rfl ?_)
 refine wpAny_bind (upd_trip hTO₆ fun g7 hTO₇ hs₇=>?_)
 replace hTO₇:IsTrip g7 TO x y t:=hTO₇
 refine wpAny_bind (wpAny_letGo (wpAny_pure (wpAny_pure ?_)))
 refine wpAny_bind (wpAny_seqItems hTO₇ rfl ?_)
 refine wpAny_bind (wpAny_newTuple ?_)
 have hsz:g7.objs.size=s.heap.objs.size:=by rw [hs₇.1,hs₆.1,hs₅.1,hs₄.1,hs₃.1,hs₂.1,hs₁.1]
 have hk₇:∀ c o,c≠TO->c≠i1->c≠i2->c≠i3->g1.get? c=some o->g7.get? c=some o:=fun c o c2 c3 c4 c5 e=>
  hs₇.extBut _ _ c2 (hs₆.extBut _ _ c5 (hs₅.extBut _ _ c2 (hs₄.extBut _ _ c4 (hs₃.extBut _ _ c2 (hs₂.extBut _ _ c3 e)))))
 have hz₇:IsZip g7 z TI TO .ellipsis:=hk₇ _ _ D.zTO D.z1 D.z2 D.z3 hz₁
 have h1₇:g7.IsListIter i1 l1 (k1+1):=((((h1₂.extBut hs₃.extBut D.TO1.symm).extBut hs₄.extBut D.i12).extBut hs₅.extBut D.TO1.symm).extBut hs₆.extBut D.i13).extBut hs₇.extBut D.TO1.symm
 have h2₇:g7.IsListIter i2 l2 (k2+1):=((h2₄.extBut hs₅.extBut D.TO2.symm).extBut hs₆.extBut D.i23).extBut hs₇.extBut D.TO2.symm
 have h3₇:g7.IsListIter i3 l3 (k3+1):=h3₆.extBut hs₇.extBut D.TO3.symm
 have hzlt:z < g7.objs.size:=Heap.lt_size hz₇
 show wpAny _ _ (Builtin.SmallTypes.ownedTupleHandOut (.ref z) (.ref g7.objs.size) >>= _) _ _ _
 refine wpAny_bind ?_
 unfold Builtin.SmallTypes.ownedTupleHandOut
 have hz₈:IsZip (g7.push { cls:=.type "tuple",data:=.seq #[x,y,t] }) z TI TO .ellipsis:=Heap.get?_push_of_some _ hz₇
 refine wpAny_bind (wpAny_setField_rec hz₈ (by simp) fun g8 hz₉ hs₈=>?_)
 replace hz₉:IsZip g8 z TI TO (rawInt g7.objs.size):=hz₉
 refine wpAny_setField_rec hz₉ (by simp) fun g9 hz₁₀ hs₉=>?_
 replace hz₁₀:IsZip g9 z TI TO (rawInt g7.objs.size):=hz₁₀
 have up:∀ c o,c≠z->g7.get? c=some o->g9.get? c=some o:=fun c o c1 e=>hs₉.extBut _ _ c1 (hs₈.extBut _ _ c1 (Heap.get?_push_of_some _ e))
 have hT₉:IsTrip g9 g7.objs.size x y t:=hs₉.extBut _ _ (Nat.ne_of_gt hzlt) (hs₈.extBut _ _ (Nat.ne_of_gt hzlt) (Heap.get?_push_size _ rfl))
 have hz9:g9.objs.size=g7.objs.size+1:=by rw [hs₉.1,hs₈.1,Heap.size_push]
 rw [hsz] at hz₁₀ hT₉ hz9
 refine wpAny_pure ⟨_,rfl,?_⟩
 show Q (.ref g7.objs.size) _
 rw [hsz]
 exact hQ g9 hz₁₀ (up _ _ D.zTO.symm hTO₇) (h1₇.at fun o e=>up _ o D.z1.symm e) (h2₇.at fun o e=>up _ o D.z2.symm e) (h3₇.at fun o e=>up _ o D.z3.symm e) hT₉ hz9 fun c o c1 c2 c3 c4 c5 e=>up c o c1 (hk₇ c o c2 c3 c4 c5 (hs₁.extBut _ _ c1 e))
theorem zip3_end {z TI TO i1 i2 i3 l1:Addr} {k1:Nat} {xs:Array Value} {Q:PySem.Fin->Shared->Prop} (hh:A.handled=none) (D:Ap3 z TI TO i1 i2 i3) (n1:l1≠z)
  (hz:IsZip s.heap z TI TO .none) (hTI:IsTrip s.heap TI (.ref i1) (.ref i2) (.ref i3)) (h1:s.heap.IsListIter i1 l1 k1) (hl1:s.heap.IsList l1 xs) (hx:xs[k1]?=none)
  (hE:∀ h' e,(∀ c o,c≠z->c≠i1->s.heap.get? c=some o->h'.get? c=some o)->(∃ o,h'.get? e=some o/\o.cls=.type "StopIteration")->E (.ref e) { s with heap:=h' }):
  wpAny (model prog w) A (Builtin.«zip.__next__» ⟨[.ref z],[]⟩) Q E s:=by
 show wpAny _ _ (field (.ref z) 2 >>= _) _ _ _
 refine wpAny_bind (wpAny_field hz rfl (x:=.bool false) rfl ?_)
 show wpAny _ _ (field (.ref z) 3 >>= _) _ _ _
 refine wpAny_bind (wpAny_field hz rfl (x:=.ref TI) rfl ?_)
 refine wpAny_bind (wpAny_seqItems hTI rfl ?_)
 show wpAny _ _ (Builtin.SmallTypes.ownedTupleIsFree (.ref z) >>= _) _ _ _
 refine wpAny_bind ?_
 unfold Builtin.SmallTypes.ownedTupleIsFree
 refine wpAny_bind (wpAny_field hz rfl (x:=.none) rfl (wpAny_pure ?_))
 simp only [if_true]
 refine wpAny_bind (wpAny_rule ?_)
 refine wpAny_bind (wpAny_field hz rfl (x:=.ref TO) rfl ?_)
 refine wpAny_bind (wpAny_setField_rec hz (by simp) fun h₁ hz₁ hs₁=>?_)
 replace hz₁:IsZip h₁ z TI TO .ellipsis:=hz₁
 refine wpAny_bind ?_
 simp only [List.zipIdx_cons,List.zipIdx_nil,List.forIn_cons,List.forIn_nil]
 refine wpAny_bind (wpAny_bind (wpAny_onRaise ?_))
 show wpAny _ _ (Builtin.SmallTypes.nextOf (.ref i1) >>= _) _ _ _
 refine wpAny_bind (wpAny_nextOf_list_end hh (h1.extBut hs₁.extBut D.z1.symm) (hl1.extBut hs₁.extBut n1) hx fun h₂ e hs₂ he=>?_)
 obtain ⟨oe,hoe,hce⟩:=he
 have hz₂:IsZip h₂ z TI TO .ellipsis:=hs₂ _ _ D.z1 hz₁
 have hez:e≠z:=fun x=>by subst x;rw [hz₂] at hoe;cases hoe;simp at hce
 refine wpAny_setField_rec hz₂ (by simp) fun h₃ _ hs₃=>hE h₃ e (fun c o c1 c3 x=>hs₃.extBut _ _ c1 (hs₂ _ _ c3 (hs₁.extBut _ _ c1 x))) ⟨oe,hs₃.extBut _ _ hez hoe,hce⟩
theorem typeCall_zip_3 (a b c:Value):checkTypeCall "zip" ⟨[a,b,c],[]⟩=pure ():=by kernel_rfl
theorem newCall_zip_3 (a b c:Value):checkBuiltinCall "zip.__new__" ⟨[.type "zip",a,b,c],[]⟩=pure ():=by kernel_rfl
theorem args_object_init_4 (a b c d:Value):argsOk "object.__init__" ⟨[a,b,c,d],[]⟩:=by
 unfold argsOk;rw [PySem.signature?_of (id:="object.__init__") (n:=['_','_','t','i','n','i','_','_']) (o:=['t','c','e','j','b','o']) (by kernel_rfl) F.owner_object];kernel_rfl
abbrev li (l:Addr):Obj:={ cls:=.type "list_iterator",data:=.fields #[.ref l,.int 0 0] }
abbrev zh3 (h:Heap) (l1 l2 l3:Addr):Heap:=((h.push (li l1)).push (li l2)).push (li l3)
abbrev zh4 (h:Heap) (l1 l2 l3:Addr):Heap:=(zh3 h l1 l2 l3).push { cls:=.type "tuple",data:=.seq #[.ref h.objs.size,.ref (h.push (li l1)).objs.size,.ref ((h.push (li l1)).push (li l2)).objs.size] }
abbrev zh5 (h:Heap) (l1 l2 l3:Addr):Heap:=(zh4 h l1 l2 l3).push { cls:=.type "tuple",data:=.seq #[.none,.none,.none] }
abbrev zh6 (h:Heap) (l1 l2 l3:Addr):Heap:=(zh5 h l1 l2 l3).push { cls:=.type "zip",data:=.fields #[.none,.bool false,.bool false,.ref (zh3 h l1 l2 l3).objs.size,.ref (zh4 h l1 l2 l3).objs.size] }
theorem meets_zip_3 (l1 l2 l3:Addr) (xs ys zs:Array Value):
  Meets (Builtin.«zip.__new__» ⟨[.type "zip",.ref l1,.ref l2,.ref l3],[]⟩) (fun _ R s=>s.heap.IsList l1 xs/\s.heap.IsList l2 ys/\s.heap.IsList l3 zs/\
   R (.ok (.ret (.ref (zh5 s.heap l1 l2 l3).objs.size))) { s with heap:=zh6 s.heap l1 l2 l3 }):=
 .of_wp fun prog w A R s h=>by
  obtain ⟨hp,g,d,tk,os⟩:=s;obtain ⟨hl1,hl2,hl3,h⟩:=h
  have hsub:=sub_zip
  have hL1:Heap.IsList (Shared.heap ⟨hp,g,d,tk,os⟩) l1 xs:=hl1
  have hL2:Heap.IsList (Shared.heap ⟨hp.push { cls:=.type "list_iterator",data:=.fields #[.ref l1,.int 0 0] },g,d,tk,os⟩) l2 ys:=Heap.IsList.push hl2 _
  have hL3:Heap.IsList (Shared.heap ⟨(hp.push { cls:=.type "list_iterator",data:=.fields #[.ref l1,.int 0 0] }).push { cls:=.type "list_iterator",data:=.fields #[.ref l2,.int 0 0] },g,d,tk,os⟩) l3 zs:=Heap.IsList.push (Heap.IsList.push hl3 _) _
  wp_walk using wpAny_pyIter_list hL1,wpAny_pyIter_list hL2,wpAny_pyIter_list hL3
  exact ⟨_,rfl,h⟩
theorem call_zip_3 {l1 l2 l3:Addr} {xs ys zs:Array Value} {Q:Value->Shared->Prop} (hl1:s.heap.IsList l1 xs) (hl2:s.heap.IsList l2 ys) (hl3:s.heap.IsList l3 zs)
  (h:∀ h' n,n=s.heap.objs.size->IsZip h' (n+5) (n+3) (n+4) .none->IsTrip h' (n+3) (.ref n) (.ref (n+1)) (.ref (n+2))->
   IsTrip h' (n+4) .none .none .none->h'.IsListIter n l1 0->h'.IsListIter (n+1) l2 0->h'.IsListIter (n+2) l3 0->
   (∀ c o,s.heap.get? c=some o->h'.get? c=some o)->Q (.ref (n+5)) { s with heap:=h' }):
  wpAny (model prog w) A (call (.type "zip") [.ref l1,.ref l2,.ref l3]) Q E s:=by
 refine callType_new F.called_zip (by decide) (typeCall_zip_3 _ _ _) (newCall_zip_3 _ _ _) (fun obj=>args_object_init_4 obj _ _ _) F.entry_zip_new
  (meets_zip_3 l1 l2 l3 xs ys zs) ⟨hl1,hl2,hl3,?_⟩
 obtain ⟨n,hn⟩:∃ n,n=s.heap.objs.size:=⟨_,rfl⟩
 have z1:(s.heap.push (li l1)).objs.size=n+1:=by rw [Heap.size_push,hn]
 have z2:((s.heap.push (li l1)).push (li l2)).objs.size=n+2:=by rw [Heap.size_push,z1]
 have z3:(zh3 s.heap l1 l2 l3).objs.size=n+3:=by rw [Heap.size_push,z2]
 have z4:(zh4 s.heap l1 l2 l3).objs.size=n+4:=by rw [Heap.size_push,z3]
 have z5:(zh5 s.heap l1 l2 l3).objs.size=n+5:=by rw [Heap.size_push,z4]
 have g6:(zh6 s.heap l1 l2 l3).get? (zh5 s.heap l1 l2 l3).objs.size=some _:=Heap.get?_push_size _ rfl
 have g5:(zh6 s.heap l1 l2 l3).get? (zh4 s.heap l1 l2 l3).objs.size=some _:=Heap.get?_push_of_some _ (Heap.get?_push_size _ rfl)
 have g4:(zh6 s.heap l1 l2 l3).get? (zh3 s.heap l1 l2 l3).objs.size=some _:=Heap.get?_push_of_some _ (Heap.get?_push_of_some _ (Heap.get?_push_size _ rfl))
 have g3:(zh6 s.heap l1 l2 l3).get? ((s.heap.push (li l1)).push (li l2)).objs.size=some _:=Heap.get?_push_of_some _ (Heap.get?_push_of_some _ (Heap.get?_push_of_some _ (Heap.get?_push_size _ rfl)))
 have g2:(zh6 s.heap l1 l2 l3).get? (s.heap.push (li l1)).objs.size=some _:=Heap.get?_push_of_some _ (Heap.get?_push_of_some _ (Heap.get?_push_of_some _ (Heap.get?_push_of_some _ (Heap.get?_push_size _ rfl))))
 have g1:(zh6 s.heap l1 l2 l3).get? s.heap.objs.size=some _:=Heap.get?_push_of_some _ (Heap.get?_push_of_some _ (Heap.get?_push_of_some _ (Heap.get?_push_of_some _ (Heap.get?_push_of_some _ (Heap.get?_push_size _ rfl)))))
 show _/\_
 rw [z3,z4,z5] at g6
 rw [z1,z2,z3,← hn] at g4
 rw [z4] at g5
 rw [z2] at g3
 rw [z1] at g2
 rw [← hn] at g1
 rw [z5]
 exact ⟨⟨_,g6,rfl⟩,h _ n hn g6 g4 g5 ⟨_,g1,rfl,rfl⟩ ⟨_,g2,rfl,rfl⟩ ⟨_,g3,rfl,rfl⟩ fun c o x=>
  Heap.get?_push_of_some _ (Heap.get?_push_of_some _ (Heap.get?_push_of_some _ (Heap.get?_push_of_some _ (Heap.get?_push_of_some _ (Heap.get?_push_of_some _ x)))))⟩
end
end DL
namespace DL
open PySem PySem.Spec PySem.Calls L2
open PyProof.Rows hiding St
section
variable {X:Cx} {pins:List (Addr×Obj)} {σ:St} {H H':Hp} {s:Shared} {fp:List Addr} {h':Heap}
theorem Inv.turnedL (I:Inv X pins σ H s) (hf:∀ b∈fp,FpOk X pins H b) (k:∀ b o,b∉fp->s.heap.get? b=some o->h'.get? b=some o)
  (fr:∀ b o,s.heap.get? b=some o->H b=none->H' b=none) (tu:∀ b xs,H b=some (.tup xs)->H' b=some (.tup xs)) (fz:∀ b o u,H b=some (.frz o u)->H' b=some (.frz o u)) (tb:∀ b ps,H b=some (.tbl ps)->∃ more,H' b=some (.tbl (ps++more)))
  (hok:HOk X.prog X.w H' h'):Inv X pins σ H' { s with heap:=h' }:=by
 refine I.step (g':=s.gens) (d':=s.drawn) (t':=s.toks) (ch:=fp) (fun b hb=>?_) (fun b o _ _ hc e _=>k b o hc e) (fun b o _ _ hc e _=>⟨o.slots,k b o hc e⟩) (fun b o _ e n=>fr b o e n) (fun b o hc e=>⟨o,k b o hc e⟩) tu fz tb (fun m hm=>?_) hok I.bare
 ·obtain ⟨f0,f1,f2,f3,f4,f5⟩:=hf b hb
  exact ⟨f3,f1,f4,f5⟩
 ·obtain ⟨o,es,ep,ho,r⟩:=hm
  exact ⟨o,es,ep,k _ o (fun z=>(hf _ z).2.1 rfl) ho,r⟩
theorem Inv.turned0 (I:Inv X pins σ H s) (hf:∀ b∈fp,FpOk X pins H b) (k:∀ b o,b∉fp->s.heap.get? b=some o->h'.get? b=some o):Inv X pins σ H { s with heap:=h' }:=by
 refine Inv.turnedL I hf k (fun _ _ _ n=>n) (fun _ _ e=>e) (fun _ _ _ e=>e) (fun b ps e=>⟨#[],by rw [e];simp⟩) (fun b u e=>(I.hok b u e).stay (fun c v hc q=>k c v (fun z=>?_) q) (fun _ q=>q) fun _ _ q=>q)
 have n:=(hf c z).1
 rcases hc with rfl | hc
 ·rw [e] at n;cases n
 ·rw [hc] at n;cases n
theorem Inv.turnedT {T:Addr} {vs:List V} (I:Inv X pins σ H s) (hf:∀ b∈fp,FpOk X pins H b) (k:∀ b o,b∉fp->s.heap.get? b=some o->h'.get? b=some o) (hT:s.heap.objs.size<=T) (new:ObjOk X.prog X.w (upd H T (.tup vs)) h' T (.tup vs)):Inv X pins σ (upd H T (.tup vs)) { s with heap:=h' }:=by
 have hn:H T=none:=I.hok.fresh hT
 have ne:∀ b u,H b=some u->b≠T:=fun b u e z=>by rw [z,hn] at e;cases e
 refine Inv.turnedL I hf k (fun b o e n=>?_) (fun b xs e=>by rw [upd_ne (ne b _ e)];exact e) (fun b o u e=>by rw [upd_ne (ne b _ e)];exact e) (fun b ps e=>⟨#[],by rw [upd_ne (ne b _ e),e];simp⟩) fun b u e=>?_
 ·rw [upd_ne (Nat.ne_of_lt (Nat.lt_of_lt_of_le (Heap.lt_size e) hT))];exact n
 ·by_cases z:b=T
  ·subst z
   rw [upd_same] at e
   cases e
   exact new
  ·rw [upd_ne z] at e
   refine (I.hok b u e).stay (fun c v hc q=>k c v (fun z=>?_) q) (fun c q=>by rw [upd_ne (ne c _ q)];exact q) fun c xs q=>by rw [upd_ne (ne c _ q)];exact q
   have n:=(hf c z).1
   rcases hc with rfl | hc
   ·rw [e] at n;cases n
   ·rw [hc] at n;cases n
end
theorem list_apart {h:Heap} {l b:Addr} {its:Array Value} {o:Obj} (hl:h.IsList l its) (e:h.get? b=some o) (hc:o.cls≠.type "list"):l≠b:=fun z=>by
 subst z
 obtain ⟨o',e',c',_⟩:=hl
 rw [e] at e';cases e'
 exact hc c'
def Itz (K:Frag) (l1 l2 l3:Addr):It:=
 ⟨fun i H=>∃ xs ys zs x y z,SqL K H l1 xs/\SqL K H l2 ys/\SqL K H l3 zs/\xs[i]?=some x/\ys[i]?=some y/\zs[i]?=some z,
  fun i H v H'=>∃ T x y z,v=.ref T/\H T=none/\H'=upd H T (.tup [x,y,z])/\(∀ xs,SqL K H l1 xs->xs[i]?=some x)/\(∀ xs,SqL K H l2 xs->xs[i]?=some y)/\(∀ xs,SqL K H l3 xs->xs[i]?=some z),
  fun i H=>∃ xs,SqL K H l1 xs/\xs.length<=i⟩
abbrev ZipAt (h:Heap) (z TI TO i1 i2 i3 l1 l2 l3:Addr) (i:Nat):Prop:=IsZip h z TI TO .none/\IsTrip h TI (.ref i1) (.ref i2) (.ref i3)/\(∃ a b c,IsTrip h TO a b c)/\h.IsListIter i1 l1 i/\h.IsListIter i2 l2 i/\h.IsListIter i3 l3 i
section
variable {prog:Program} {w:World} {A:Around} {E:Value->Shared->Prop} {s:Shared}
theorem next_zip3 {z TI TO i1 i2 i3 l1 l2 l3:Addr} {k1 k2 k3:Nat} {xs ys zs:Array Value} {x y t a b c:Value} {Q:Option Value->Shared->Prop} (D:Ap3 z TI TO i1 i2 i3)
  (n1:l1≠z/\l1≠TO/\l1≠i1/\l1≠i2/\l1≠i3) (n2:l2≠z/\l2≠TO/\l2≠i1/\l2≠i2/\l2≠i3) (n3:l3≠z/\l3≠TO/\l3≠i1/\l3≠i2/\l3≠i3)
  (hz:IsZip s.heap z TI TO .none) (hTI:IsTrip s.heap TI (.ref i1) (.ref i2) (.ref i3)) (hTO:IsTrip s.heap TO a b c)
  (h1:s.heap.IsListIter i1 l1 k1) (h2:s.heap.IsListIter i2 l2 k2) (h3:s.heap.IsListIter i3 l3 k3) (hl1:s.heap.IsList l1 xs) (hl2:s.heap.IsList l2 ys) (hl3:s.heap.IsList l3 zs) (hx:xs[k1]?=some x) (hy:ys[k2]?=some y) (ht:zs[k3]?=some t)
  (hQ:∀ h',IsZip h' z TI TO (rawInt s.heap.objs.size)->IsTrip h' TO x y t->h'.IsListIter i1 l1 (k1+1)->h'.IsListIter i2 l2 (k2+1)->h'.IsListIter i3 l3 (k3+1)->IsTrip h' s.heap.objs.size x y t->h'.objs.size=s.heap.objs.size+1->
   (∀ c o,c≠z->c≠TO->c≠i1->c≠i2->c≠i3->s.heap.get? c=some o->h'.get? c=some o)->Q (some (.ref s.heap.objs.size)) { s with heap:=h' }):
  wpAny (model prog w) A (pyNext (.ref z)) Q E s:=by
 have hT:s.TypeIs (.ref z) "zip":=⟨_,hz,rfl⟩
 unfold pyNext
 exact wpAny_bind (wpAny_attempt (wpAny_callSpecial?_slot (name:=Str.ofString "__next__") hT F.slot_zip_next
  (wpAny_call_entry F.slot_zip_next hT F.entry_zip_next
   (zip3_item D n1 n2 n3 hz hTI hTO h1 h2 h3 hl1 hl2 hl3 hx hy ht fun h' a1 a2 a3 a4 a5 a6 a7 a8=>wpAny_pure (hQ h' a1 a2 a3 a4 a5 a6 a7 a8)) (F.args_zip_next_1 _))))
theorem last_zip3 {z TI TO i1 i2 i3 l1:Addr} {k1:Nat} {xs:Array Value} {Q:Option Value->Shared->Prop} (hh:A.handled=none) (D:Ap3 z TI TO i1 i2 i3) (n1:l1≠z)
  (hz:IsZip s.heap z TI TO .none) (hTI:IsTrip s.heap TI (.ref i1) (.ref i2) (.ref i3)) (h1:s.heap.IsListIter i1 l1 k1) (hl1:s.heap.IsList l1 xs) (hx:xs[k1]?=none)
  (hQ:∀ h',(∀ c o,c≠z->c≠i1->s.heap.get? c=some o->h'.get? c=some o)->Q none { s with heap:=h' }):wpAny (model prog w) A (pyNext (.ref z)) Q E s:=by
 have hT:s.TypeIs (.ref z) "zip":=⟨_,hz,rfl⟩
 unfold pyNext
 refine wpAny_bind (wpAny_attempt (wpAny_callSpecial?_slot (name:=Str.ofString "__next__") hT F.slot_zip_next
  (wpAny_call_entry F.slot_zip_next hT F.entry_zip_next (zip3_end hh D n1 hz hTI h1 hl1 hx fun h' e hk he=>?_) (F.args_zip_next_1 _))))
 obtain ⟨o,ho,hc⟩:=he
 refine wpAny_bind (wpAny_isInstance (T:="StopIteration") (b:=true) ⟨o,ho,hc⟩ isSubtype_stop ?_)
 exact wpAny_pure (hQ _ hk)
end
theorem turn_zip3 {P:Program} {w:World} {K:Frag} {es:List Expr} {kk:Nat} {pz:Pos} {z TI TO i1 i2 i3:Addr} (l1 l2 l3:Addr) (D:Ap3 z TI TO i1 i2 i3):Turn P w K (.Tuple es kk pz) (Itz K l1 l2 l3) [z,TI,TO,i1,i2,i3] z (fun i h=>ZipAt h z TI TO i1 i2 i3 l1 l2 l3 i) where
 mem:=by simp
 obj:=fun i h st b hb=>by
  obtain ⟨hz,hTI,⟨x,y,t,hTO⟩,h1,h2,h3⟩:=st
  have it:∀ {a l:Addr} {j:Nat},h.IsListIter a l j->∃ o,h.get? a=some o/\∀ v,o.data≠.cell v:=fun {a l j} st=>by
   obtain ⟨o,e,c,d⟩:=st
   exact ⟨o,e,fun v z=>by rw [d] at z;cases z⟩
  simp only [List.mem_cons,List.not_mem_nil,or_false] at hb
  rcases hb with rfl | rfl | rfl | rfl | rfl | rfl
  ·exact ⟨_,hz,fun v z=>by cases z⟩
  ·exact ⟨_,hTI,fun v z=>by cases z⟩
  ·exact ⟨_,hTO,fun v z=>by cases z⟩
  ·exact it h1
  ·exact it h2
  ·exact it h3
 keep:=fun i h h' st k=>by
  obtain ⟨hz,hTI,⟨x,y,t,hTO⟩,h1,h2,h3⟩:=st
  exact ⟨k z (by simp) _ hz,k TI (by simp) _ hTI,⟨x,y,t,k TO (by simp) _ hTO⟩,h1.at fun o e=>k i1 (by simp) o e,h2.at fun o e=>k i2 (by simp) o e,h3.at fun o e=>k i3 (by simp) o e⟩
 item:=by
  intro X hP hw hK hc i pins s σ H E I hf st hg
  subst hP hw hK
  obtain ⟨xs,ys,zs,x,y,t,q1,q2,q3,e1,e2,e3⟩:=hg
  obtain ⟨hz,hTI,⟨a,b,c,hTO⟩,h1,h2,h3⟩:=st
  obtain ⟨o1,oe1,oc1,od1⟩:=id h1
  obtain ⟨o2,oe2,oc2,od2⟩:=id h2
  obtain ⟨o3,oe3,oc3,od3⟩:=id h3
  have ap:∀ {l:Addr} {its:Array Value},s.heap.IsList l its->l≠z/\l≠TO/\l≠i1/\l≠i2/\l≠i3:=fun {l its} hl=>⟨list_apart hl hz (by simp),list_apart hl hTO (by simp),list_apart hl oe1 (by rw [oc1];simp),list_apart hl oe2 (by rw [oc2];simp),list_apart hl oe3 (by rw [oc3];simp)⟩
  obtain ⟨its1,rv1,p1,_⟩:=I.list q1
  obtain ⟨u1,hu1,ru1⟩:=rv1.get e1
  obtain ⟨its2,rv2,p2,_⟩:=I.list q2
  obtain ⟨u2,hu2,ru2⟩:=rv2.get e2
  obtain ⟨its3,rv3,p3,_⟩:=I.list q3
  obtain ⟨u3,hu3,ru3⟩:=rv3.get e3
  refine next_zip3 D (ap p1.isList) (ap p2.isList) (ap p3.isList) hz hTI hTO h1 h2 h3 p1.isList p2.isList p3.isList (x:=u1) (y:=u2) (t:=u3) (by simpa using hu1) (by simpa using hu2) (by simpa using hu3) fun h' a1 a2 a3 a4 a5 a6 a7 hk=>?_
  refine ⟨_,rfl,wpAny_letOwnedTupleGo_zip a1 fun h2' hz' hs'=>?_⟩
  have Tz:s.heap.objs.size≠z:=Nat.ne_of_gt (Heap.lt_size hz)
  have up:∀ b o,b∉[z,TI,TO,i1,i2,i3]->s.heap.get? b=some o->h2'.get? b=some o:=fun b o hb e=>by
   simp only [List.mem_cons,List.not_mem_nil,or_false,not_or] at hb
   exact hs'.extBut _ _ hb.1 (hk b o hb.1 hb.2.2.1 hb.2.2.2.1 hb.2.2.2.2.1 hb.2.2.2.2.2 e)
  have hn:H s.heap.objs.size=none:=I.hok.fresh (Nat.le_refl _)
  have I2:Inv X pins σ (upd H s.heap.objs.size (.tup [x,y,t])) { s with heap:=h2' }:=Inv.turnedT (s:=s) (h':=h2') I hf up (Nat.le_refl _) ⟨by show 3<=sizeLine;decide,[u1,u2,u3],.cons ru1 (.cons ru2 (.cons ru3 .nil)),⟨_,hs'.extBut _ _ Tz a6,rfl,_,rfl⟩⟩
  refine ⟨.ref s.heap.objs.size,upd H s.heap.objs.size (.tup [x,y,t]),I2,rfl,
   ⟨_,x,y,t,rfl,hn,rfl,fun ys hy=>by rw [I.list_inj hy q1];exact e1,fun ys hy=>by rw [I.list_inj hy q2];exact e2,fun ys hy=>by rw [I.list_inj hy q3];exact e3⟩,
   ⟨hz',hs'.extBut _ _ D.zTI.symm (hk _ _ D.zTI.symm D.TITO D.TI1 D.TI2 D.TI3 hTI),⟨_,_,_,hs'.extBut _ _ D.zTO.symm a2⟩,a3.at fun o e=>hs'.extBut _ _ D.z1.symm e,a4.at fun o e=>hs'.extBut _ _ D.z2.symm e,a5.at fun o e=>hs'.extBut _ _ D.z3.symm e⟩,fun b hb=>?_⟩
  rw [upd_ne (fun zz=>?_)]
  ·exact (hf b hb).1
  ·subst zz
   have lt:∀ {o},s.heap.get? s.heap.objs.size=some o->False:=fun e=>Nat.lt_irrefl _ (Heap.lt_size e)
   simp only [List.mem_cons,List.not_mem_nil,or_false] at hb
   rcases hb with e | e | e | e | e | e
   ·rw [← e] at hz;exact lt hz
   ·rw [← e] at hTI;exact lt hTI
   ·rw [← e] at hTO;exact lt hTO
   ·rw [← e] at oe1;exact lt oe1
   ·rw [← e] at oe2;exact lt oe2
   ·rw [← e] at oe3;exact lt oe3
 done:=by
  intro X hP hw hK hc i pins s σ H E I hf st hg
  subst hP hw hK
  obtain ⟨xs,q1,hx⟩:=hg
  obtain ⟨hz,hTI,⟨a,b,c,hTO⟩,h1,h2,h3⟩:=st
  obtain ⟨its1,rv1,p1,_⟩:=I.list q1
  have hl:=rv1.length
  refine last_zip3 (I.ok.hd hc) D (list_apart p1.isList hz (by simp)) hz hTI h1 p1.isList (by simp;omega) fun h' hk=>⟨rfl,Inv.turned0 I hf fun b o hb e=>?_⟩
  simp only [List.mem_cons,List.not_mem_nil,or_false,not_or] at hb
  exact hk b o hb.1 hb.2.2.2.1 e
 self:=fun _ _ _ _ _ st h=>wpAny_pyIter_zip st.1 h
theorem boot_zip:bootBuiltins "zip"=some (.type "zip"):=by decide +kernel
section
variable {X:Cx} {E:XK} {a b c:Expr} {ta tb tc:ED} {pos:Pos}
theorem pi_zip3 {es:List Expr} {kk:Nat} {pz p:Pos} {t:TA} (hg:Gl X "zip") (hm:X.mg "zip"=none) (ha:PA X [a,b,c] t) (hs:starEach [a,b,c] X.env=(false,eval a X.env)::starEach [b,c] X.env:=by rfl) (hpl:(backTo pos (starEach [b,c] X.env)).any (·.1)=false:=by rfl):
  PI X (.Tuple es kk pz) (.Call (.Name "zip" p) [a,b,c] [] pos) (fun σ H R=>t σ H fun vs H1=>∃ l1 l2 l3,vs=[.ref l1,.ref l2,.ref l3]/\(∃ xs,SqL X.K H1 l1 xs)/\(∃ xs,SqL X.K H1 l2 xs)/\(∃ xs,SqL X.K H1 l3 xs)/\R (Itz X.K l1 l2 l3) H1):=by
 intro pins s σ H R I h
 refine Call_ (ld_blt I hg hm boot_zip (PyProof.Rows.callWith_type1 (thn (ha pos pins s σ H _ I h) fun us s1 ⟨vs,H1,I1,r1,q1⟩=>?_) hs hpl))
 obtain ⟨l1,l2,l3,e,⟨xs,q1⟩,⟨ys,q2⟩,⟨zs,q3⟩,q⟩:=q1
 subst e
 cases r1 with
 | cons ra rr=>
  cases rr with
  | cons rb rr=>
   cases rr with
   | cons rc rr=>
    cases rr
    cases ra
    cases rb
    cases rc
    obtain ⟨its1,rv1,p1,_⟩:=I1.list q1
    obtain ⟨its2,rv2,p2,_⟩:=I1.list q2
    obtain ⟨its3,rv3,p3,_⟩:=I1.list q3
    refine call_zip_3 p1.isList p2.isList p3.isList fun h' n hn a1 a2 a3 a4 a5 a6 hk=>?_
    refine wpAny_pyIter_zip a1 ?_
    have add:∀ (a b:Nat),a≠b->(n+a:Nat)≠n+b:=fun a b h e=>h (Nat.add_left_cancel e)
    have D:Ap3 (n+5) (n+3) (n+4) n (n+1) (n+2):=⟨add 5 3 (by decide),add 5 4 (by decide),add 5 0 (by decide),add 5 1 (by decide),add 5 2 (by decide),add 3 4 (by decide),add 3 0 (by decide),add 3 1 (by decide),add 3 2 (by decide),add 4 0 (by decide),add 4 1 (by decide),add 4 2 (by decide),add 0 1 (by decide),add 0 2 (by decide),add 1 2 (by decide)⟩
    refine ⟨n+5,[n+5,n+3,n+4,n,n+1,n+2],_,_,H1,rfl,I1.kept (t':=s1.toks) fun b o e=>hk b o e,turn_zip3 l1 l2 l3 D,⟨a1,a2,⟨_,_,_,a3⟩,a4,a5,a6⟩,fun b hb=>?_,q⟩
    have lb:s1.heap.objs.size<=b:=by
     simp only [List.mem_cons,List.not_mem_nil,or_false] at hb
     rw [← hn]
     rcases hb with e | e | e | e | e | e <;> (rw [e];first | exact Nat.le_add_right _ _ | exact Nat.le_refl _)
    exact I1.fpOk lb (I1.hok.fresh lb)
structure SrcE (K:Frag) (J:It) (S:Src) (H1:Hp) (O1:Ow):Prop where
 go:∀ H O c i,Ext H1 O1 H O->Cells K H O c->S.chk c->i < S.xs.length->J.go i H
 stop:∀ H O c i,Ext H1 O1 H O->Cells K H O c->S.chk c->S.xs.length<=i->J.stop i H
 yld:∀ H O c i d x H',Ext H1 O1 H O->Cells K H O c->S.chk c->S.xs[i]?=some d->J.yld i H x H'->Ext H O H' O/\Cells K H' O c/\Rep K H' O x d
def liftIE (K:Frag) (E:XK) (t:ID):TI:=fun σ H R=>∃ O l c,Locs K H O l σ/\Cells K H O c/\Post K E H O (fun S H' O' _=>∀ J,SrcE K J S H' O'->R J H') (t l c)
structure DIE (X:Cx) (E:XK) (tg iter:Expr) (t:ID):Prop where
 h:PI X tg iter (liftIE X.K E t)
theorem ds_forE {tg iter:Expr} {body:List Stmt} {ti:ID} {g:GD} {sb:SD} (hp:PassesOwn (model X.prog X.w) X.A X.env X.xe) (hcalm:X.calm=true) (hi:DIE X E tg iter ti) (hg:DG X tg g) (hb:DSs X E body sb)
  (hs:∀ x,foldedSetIterable iter X.env x=pure x:=by intro _;rfl):DS X E (.For tg iter body [] pos) (sForI ti g sb):=by
 obtain ⟨gt,hg1,hg2⟩:=hg
 refine ⟨PS.imp (ps_for hp hcalm hi.h hg1 hb.h hs) fun Dn σ H h=>?_⟩
 obtain ⟨O,l,c,hl,hc,p⟩:=h
 refine ⟨O,l,c,hl,hc,p.bd.imp fun S H1 O1 c1 e1 hc1 p1 J ok=>?_⟩
 have chk:∀ {i:Nat} {H:Hp} {O:Ow} {l:L} {c:List Cell},Post X.K E H O (FlOk X.K Dn) (forC S.chk g sb (S.xs.drop i) l c)->S.chk c:=fun {i H O l c} p=>by
  cases zz:S.xs.drop i with
  | nil=>
   rw [zz] at p;unfold forC at p
   by_cases q:S.chk c
   ·exact q
   ·rw [if_neg q] at p;exact p.elim
  | cons y ys=>
   rw [zz] at p;unfold forC at p
   by_cases q:S.chk c
   ·exact q
   ·rw [if_neg q] at p;exact p.elim
 refine ⟨fun i m σ H=>m=S.xs.length - i/\i<=S.xs.length/\∃ O l c,Ext H1 O1 H O/\Locs X.K H O l σ/\Cells X.K H O c/\Post X.K E H O (FlOk X.K Dn) (forC S.chk g sb (S.xs.drop i) l c),
  ⟨S.xs.length,by simp,Nat.zero_le _,O1,l,c1,Ext.refl _ _,hl.mono e1,hc1,by simpa using p1⟩,?_⟩
 rintro i m σ2 H2 ⟨rfl,hi,O2,l2,c2,e2,hl2,hc2,p2⟩
 have z2:=chk p2
 by_cases hlt:i < S.xs.length
 ·obtain ⟨d,hd⟩:∃ d,S.xs[i]?=some d:=⟨S.xs[i],by simp [hlt]⟩
  rw [drop_cons hd] at p2
  unfold forC at p2
  rw [if_pos z2] at p2
  refine .inr ⟨ok.go H2 O2 c2 i e2 hc2 z2 hlt,fun σ' H'=>∃ O l c,Ext H1 O1 H' O/\Locs X.K H' O l σ'/\Cells X.K H' O c/\Post X.K E H' O (FlOk X.K Dn) (forC S.chk g sb (S.xs.drop (i+1)) l c),fun σ' H' q=>⟨S.xs.length - (i+1),by omega,rfl,hlt,q⟩,fun x' H' yl=>?_⟩
  obtain ⟨ee,hc3,rd⟩:=ok.yld H2 O2 c2 i d x' H' e2 hc2 z2 hd yl
  have e3:=e2.trans ee
  have hl3':=hl2.mono ee
  have p2:=p2.mono ee
  cases z3:g d l2 with
  | none=>rw [z3] at p2;exact p2.elim
  | some l3=>
   rw [z3] at p2
   have p2:=Post.bd p2
   refine hg2 _ O2 x' d l2 σ2 l3 rd hl3' z3 _ fun σ3 hl3=>⟨O2,l3,c2,hl3,hc3,p2.imp fun f H4 O4 c4 e4 hc4 p4=>?_⟩
   cases f with
   | nx l4=>exact fun σ4 q=>⟨O4,l4,c4,e3.trans e4,q,hc4,p4⟩
   | ct l4=>exact fun σ4 q=>⟨O4,l4,c4,e3.trans e4,q,hc4,p4⟩
   | bk l4=>exact Post.ret (E:=E) (P:=FlOk X.K Dn) (x:=Fl.nx l4) p4 hc4
   | ret d=>exact Post.ret (E:=E) (P:=FlOk X.K Dn) (x:=Fl.ret d) p4 hc4
 ·have ei:i=S.xs.length:=by omega
  subst ei
  rw [List.drop_length] at p2
  unfold forC at p2
  rw [if_pos z2] at p2
  exact .inl ⟨ok.stop H2 O2 c2 _ e2 hc2 z2 (Nat.le_refl _),p2 H2 O2 (Ext.refl _ _) hc2 σ2 hl2⟩
def zip3:List D->List D->List D->List D
 | x::xs,y::ys,z::zs=>.tup [x,y,z]::zip3 xs ys zs
 | _,_,_=>[]
theorem zip3_len:∀ {xs ys zs:List D},xs.length=ys.length->xs.length=zs.length->(zip3 xs ys zs).length=xs.length
 | [],_,_,_,_=>by simp [zip3]
 | x::xs,[],_,h,_=>by simp at h
 | x::xs,y::ys,[],_,h=>by simp at h
 | x::xs,y::ys,z::zs,h,h2=>by simp only [zip3,List.length_cons];rw [zip3_len (by simpa using h) (by simpa using h2)]
theorem zip3_at:∀ {xs ys zs:List D} {i:Nat} {d:D},(zip3 xs ys zs)[i]?=some d->∃ x y z,xs[i]?=some x/\ys[i]?=some y/\zs[i]?=some z/\d=.tup [x,y,z]
 | [],_,_,i,d,h=>by simp [zip3] at h
 | x::xs,[],_,i,d,h=>by simp [zip3] at h
 | x::xs,y::ys,[],i,d,h=>by simp [zip3] at h
 | x::xs,y::ys,z::zs,0,d,h=>by
  simp only [zip3,List.getElem?_cons_zero,Option.some.injEq] at h
  exact ⟨x,y,z,rfl,rfl,rfl,h.symm⟩
 | x::xs,y::ys,z::zs,i+1,d,h=>by
  simp only [zip3,List.getElem?_cons_succ] at h ⊢
  exact zip3_at h
def zipM:D->D->D->M Src
 | .lst xs,.lst ys,.lst zs=>if xs.length=ys.length/\xs.length=zs.length then M.ret ⟨zip3 xs ys zs,fun _=>True⟩ else M.stuck
 | _,_,_=>M.stuck
def iZip3 (ta tb tc:ED):ID:=fun l=>(ta l).bd fun x=>(tb l).bd fun y=>(tc l).bd fun z=>zipM x y z
theorem die_zip3 {es:List Expr} {kk:Nat} {pz p:Pos} (hm:X.mg "zip"=none) (ha:DE X E a ta) (hb:DE X E b tb) (hc:DE X E c tc) (hg:Gl X "zip":=by rfl) (hs:starEach [a,b,c] X.env=(false,eval a X.env)::starEach [b,c] X.env:=by rfl) (hs2:starEach [b,c] X.env=(false,eval b X.env)::starEach [c] X.env:=by rfl) (hs3:starEach [c] X.env=[(false,eval c X.env)]:=by rfl) (hpl:(backTo pos (starEach [b,c] X.env)).any (·.1)=false:=by rfl):
  DIE X E (.Tuple es kk pz) (.Call (.Name "zip" p) [a,b,c] [] pos) (iZip3 ta tb tc):=by
 refine ⟨PI.imp (pi_zip3 hg hm (pa_cons ha.h (pa_cons hb.h (pa_cons hc.h pa_nil hs3) hs2) hs) hs hpl) fun σ H R h=>?_⟩
 obtain ⟨O,l,c0,hl,hc0,p⟩:=h
 refine liftE_bd hl hc0 p fun x v H1 O1 c1 e1 hl1 hc1 rv p1=>?_
 refine liftE_bd hl1 hc1 p1 fun y u H2 O2 c2 e2 hl2 hc2 ru p2=>?_
 refine liftE_bd hl2 hc2 p2 fun z t H3 O3 c3 e3 hl3 hc3 rt p3=>?_
 have rv:=rv.mono (e2.trans e3)
 have ru:=ru.mono e3
 cases rv with
 | @lst a1 vs xs g1 n1 r1=>
  cases ru with
  | @lst a2 us ys g2 n2 r2=>
   cases rt with
   | @lst a3 ts zs g3 n3 r3=>
    simp only [zipM] at p3
    by_cases hlen:xs.length=ys.length/\xs.length=zs.length
    ·rw [if_pos hlen] at p3
     refine ⟨a1,a2,a3,rfl,⟨vs,SqL.of g1⟩,⟨us,SqL.of g2⟩,⟨ts,SqL.of g3⟩,Post.ret p3 hc3 _ ⟨fun H O c i e _ _ hi=>?_,fun H O c i e _ _ hi=>?_,fun H O c i d x H' e hc _ hd yl=>?_⟩⟩
     ·have q1:i < vs.length:=by rw [r1.length];rw [zip3_len hlen.1 hlen.2] at hi;exact hi
      have q2:i < us.length:=by rw [r2.length,← hlen.1,← r1.length];exact q1
      have q3:i < ts.length:=by rw [r3.length,← hlen.2,← r1.length];exact q1
      exact ⟨vs,us,ts,vs[i],us[i],ts[i],SqL.of (e.keep _ _ g1 n1),SqL.of (e.keep _ _ g2 n2),SqL.of (e.keep _ _ g3 n3),by simp,by simp,by simp⟩
     ·rw [zip3_len hlen.1 hlen.2,← r1.length] at hi
      exact ⟨vs,SqL.of (e.keep _ _ g1 n1),hi⟩
     ·obtain ⟨T,v1,v2,v3,rfl,hT,rfl,k1,k2,k3⟩:=yl
      obtain ⟨d1,d2,d3,w1,w2,w3,rfl⟩:=zip3_at hd
      have k1:=k1 vs (SqL.of (e.keep _ _ g1 n1))
      have k2:=k2 us (SqL.of (e.keep _ _ g2 n2))
      have k3:=k3 ts (SqL.of (e.keep _ _ g3 n3))
      obtain ⟨w,hw,rw1⟩:=r1.get w1
      rw [k1] at hw;cases hw
      obtain ⟨w,hw,rw2⟩:=r2.get w2
      rw [k2] at hw;cases hw
      obtain ⟨w,hw,rw3⟩:=r3.get w3
      rw [k3] at hw;cases hw
      exact ⟨Ext.updN hT,hc.updN hT,hc.tupNew hT (.cons (rw1.mono e) (.cons (rw2.mono e) (.cons (rw3.mono e) .nil)))⟩
    ·rw [if_neg hlen] at p3;exact p3.elim
   | _=>exact p3.elim
  | _=>exact p3.elim
 | _=>exact p3.elim
def gdTrip (i j m:Nat):GD:=fun d l=>match d with
 | .tup [x,y,z]=>some (((l.set i (some x)).set j (some y)).set m (some z))
 | _=>none
theorem dg_trip {i j m k:Nat} {x y z:Str} {px py pz:Pos} (hN:X.N.Nodup) (hc:X.calm=true) (hi:X.N[i]?=some x:=by rfl) (hj:X.N[j]?=some y:=by rfl) (hm:X.N[m]?=some z:=by rfl) (hx:Loc X.env.scope x:=by first | exact Or.inl rfl | exact Or.inr rfl) (hy:Loc X.env.scope y:=by first | exact Or.inl rfl | exact Or.inr rfl) (hz:Loc X.env.scope z:=by first | exact Or.inl rfl | exact Or.inr rfl)
  (fx:X.fn x=true\/X.env.scope.names.lookup x=some .local:=by first | exact .inl rfl | exact .inr rfl) (fy:X.fn y=true\/X.env.scope.names.lookup y=some .local:=by first | exact .inl rfl | exact .inr rfl) (fz:X.fn z=true\/X.env.scope.names.lookup z=some .local:=by first | exact .inl rfl | exact .inr rfl)
  (h1:(assignEach [.Name x px,.Name y py,.Name z pz] X.env).map (·.2)=assign (.Name x px) X.env::(assignEach [.Name y py,.Name z pz] X.env).map (·.2):=by rfl) (h2:(assignEach [.Name y py,.Name z pz] X.env).map (·.2)=assign (.Name y py) X.env::(assignEach [.Name z pz] X.env).map (·.2):=by rfl) (h2':(assignEach [.Name z pz] X.env).map (·.2)=assign (.Name z pz) X.env::(assignEach [] X.env).map (·.2):=by rfl)
  (h3:(assignEach [.Name x px,.Name y py,.Name z pz] X.env).length=3:=by rfl) (h4:(assignEach [.Name x px,.Name y py,.Name z pz] X.env).findIdx? (·.1)=none:=by rfl):DG X (.Tuple [.Name x px,.Name y py,.Name z pz] k pos) (gdTrip i j m):=by
 refine ⟨_,pg_tup hc (pgs_cons (pg_name hN hi hx fx) (pgs_cons (pg_name hN hj hy fy) (pgs_cons (pg_name hN hm hz fz) pgs_nil h2') h2) h1) h3 h4,fun H O v d l σ l' rv hl e Q hq=>?_⟩
 unfold gdTrip at e
 split at e
 ·cases e
  cases rv with
  | tup h n r=>
   cases r with
   | cons r1 t1=>
    cases t1 with
    | cons r2 t2=>
     cases t2 with
     | cons r3 t3=>
      cases t3
      exact ⟨_,_,rfl,SqT.of h,rfl,_,_,rfl,_,_,rfl,_,_,rfl,rfl,hq _ (((hl.set i r1).set j r2).set m r3)⟩
 ·cases e
end
end DL
namespace DL
open PySem PySem.Spec PySem.Calls L2
open PyProof.Rows hiding St
structure ClsI (K:Frag) (C:Addr):Prop where
 pg:plainGet K C "__class__"=true
 hd:hasDictIn K C=true
 ca:findIn K (.ref C) "__class__"=some (some (.builtin "object.__class__"))
 cg:specialIn K (.builtin "object.__class__") "__get__"=some (some (.builtin "getset_descriptor.__get__"))
 ct:takesIn K (.builtin "object.__class__")=some true
 mo:mroIn K C (.type "object")=some true
section
variable {X:Cx} {E:XK} {a:Expr} {ta:ED} {pos:Pos}
def isiC (C:Addr) (d:D):M D:=fun c=>match cellI C d c with
 | some _=>some (.ok (.bl true) c)
 | none=>none
theorem kit_self (K:Frag) (C:Addr):kitOne K (.ref C) (.ref C)=some true:=by
 unfold kitOne
 rw [if_pos (beq_self_eq_true _)]
theorem call_isC {C:Addr} (Z:ClsI X.K C):CallR X (.builtin "isinstance") (fun vs H Q=>∃ a dx us,vs=[.ref a,.ref C]/\H a=some (.ins C dx us)/\Q (.bl true) H):=by
 intro pins s σ H xs us Q I r h
 obtain ⟨a,dx,fs,rfl,ha,q⟩:=h
 obtain ⟨u,w,rfl,r1,r2⟩:=vals2 r
 cases r1
 cases r2
 obtain ⟨mA,ob,_⟩:=ins_get I.hok ha
 obtain ⟨od,ia,_⟩:=ob.look
 exact kia_one (kitx_own Z.pg Z.hd Z.ca Z.cg Z.ct Z.mo) I.kIn ia (kit_self X.K C) (fun z=>nomatch z) fun tk=>⟨.bl true,H,I.tok _,rfl,q⟩
theorem de_isiC (C:Addr) {x:Str} {p1 p2:Pos} (Z:ClsI X.K C) (hm:X.mg "isinstance"=none) (hmx:X.mg x=some (.ref C)) (ha:DE X E a ta) (hg:Gl X "isinstance":=by rfl) (hgx:Gl X x:=by rfl) (hdx:(x == ("__debug__":Str))=false:=by decide)
  (hst:starEach [a,.Name x p2] X.env=[(false,eval a X.env),(false,eval (.Name x p2) X.env)]:=by rfl) (hst2:starEach [.Name x p2] X.env=[(false,eval (.Name x p2) X.env)]:=by rfl):
  DE X E (.Call (.Name "isinstance" p1) [a,.Name x p2] [] pos) (d1 (isiC C) ta):=by
 have h2:PE X (.Name x p2) (tC (.ref C)):=pe_glob (v:=.ref C) hgx hmx rfl hdx
 refine ⟨PE.imp (pe_callB (id:="isinstance") (call_isC Z) hg hm rfl (pa_cons ha.h (pa_cons h2 pa_nil hst2) (by rw [hst,hst2])) (by decide) (by decide) (by rw [hst,hst2]) (by rw [hst2];rfl)) fun σ H Q h=>?_⟩
 obtain ⟨O,l,c,hl,hc,p⟩:=h
 refine liftE_bd hl hc p fun y v H1 O1 c1 e1 hl1 hc1 rv p1=>?_
 unfold isiC at p1
 cases z:cellI C y c1 with
 | none=>rw [z] at p1;exact p1.elim
 | some q=>
  obtain ⟨k,fs⟩:=q
  rw [z] at p1
  simp only at p1
  obtain ⟨b,dx,us,rfl,_,hO,hb,hf,hk⟩:=cellI_ok hc1 rv z
  exact ⟨b,dx,us,rfl,hb,PostD.ok p1 hc1 (.bl true)⟩
theorem dt_le_le {b d:Expr} {tb tc:ED} (ha:DE X E a ta) (hb:DE X E b tb) (hc:DE X E d tc) (hm:lastMarks [.LtE,.LtE] [b,d]=false:=by with_unfolding_all rfl):DT X E (.Compare a [.LtE,.LtE] [b,d] pos) (tOf (dChain leD leD ta tb tc)):=
 ⟨PT.imp (pt_chain (op_le.or ops_le) (op_le.or ops_le) ha.h hb.h hc.h hm) fun σ H Q h=>lift_chain op2_cmp op2_cmp (lift_tOf h)⟩
end
end DL
namespace DL
open PySem PySem.Spec PySem.Calls L2
open PyProof.Rows hiding St
def joinL (sep:List Nat):List (List Nat)->List Nat
 | []=>[]
 | [x]=>x
 | x::y::r=>x++sep++joinL sep (y::r)
theorem str_join (sep:List Nat):∀ zs:List (List Nat),(Str.join (tx sep) (zs.map tx)).cps.toList=joinL sep zs
 | []=>rfl
 | [x]=>rfl
 | x::y::r=>by
  have ih:=str_join sep (y::r)
  show (tx x++tx sep++Str.join (tx sep) ((y::r).map tx)).cps.toList=_
  rw [Str.cps_append,Str.cps_append,Array.toList_append,Array.toList_append,ih]
  rfl
theorem txt_join (sep:List Nat) (zs:List (List Nat)):(Txt.join (tx sep) (zs.map tx)).cps.toList=joinL sep zs:=by
 unfold Txt.join
 rw [StrLaws.glued_eq_join]
 exact str_join sep zs
theorem joinOk_small {sep:List Nat} {zs:List (List Nat)} (h1:zs.length<=100) (h2:∀ z∈zs,z.length<=1000) (h3:sep.length<=10):JoinOk (tx sep) (zs.map tx)=true:=by
 unfold JoinOk
 have l1:(zs.map tx).length=zs.length:=List.length_map ..
 have l2:(tx sep).length=sep.length:=by simp [Str.length]
 have:=StrLaws.joinFits (sep:=tx sep) (texts:=zs.map tx) (B:=1000) (fun y hy=>by
  obtain ⟨z,hz,rfl⟩:=List.mem_map.mp hy
  have:=h2 z hz
  simpa [Str.length] using this) (by
  rw [l1,l2]
  have a:zs.length * 1000<=100 * 1000:=Nat.mul_le_mul_right _ h1
  have b:zs.length * sep.length<=100 * 10:=Nat.mul_le_mul h1 h3
  omega)
 rw [this];rfl
theorem cut_uniq {c:Nat}:∀ {x y u v:List Nat},c∉x->c∉y->(u=[]\/∃ u',u=c::u')->(v=[]\/∃ v',v=c::v')->x++u=y++v->x=y/\u=v
 | [],[],u,v,_,_,_,_,e=>⟨rfl,by simpa using e⟩
 | [],b::y,u,v,_,hy,hu,_,e=>by
  rcases hu with rfl | ⟨u',rfl⟩
  ·simp at e
  ·simp only [List.nil_append,List.cons_append,List.cons.injEq] at e
   exact absurd (by rw [e.1];exact List.mem_cons_self) hy
 | a::x,[],u,v,hx,_,_,hv,e=>by
  rcases hv with rfl | ⟨v',rfl⟩
  ·simp at e
  ·simp only [List.nil_append,List.cons_append,List.cons.injEq] at e
   exact absurd (by rw [← e.1];exact List.mem_cons_self) hx
 | a::x,b::y,u,v,hx,hy,hu,hv,e=>by
  simp only [List.cons_append,List.cons.injEq] at e
  obtain ⟨e1,e2⟩:=cut_uniq (fun h=>hx (List.mem_cons_of_mem _ h)) (fun h=>hy (List.mem_cons_of_mem _ h)) hu hv e.2
  exact ⟨by rw [e.1,e1],e2⟩
theorem joinL_inj {c:Nat} {s:List Nat}:∀ {ps zs:List (List Nat)},ps≠[]->zs≠[]->(∀ z∈ps,c∉z)->(∀ z∈zs,c∉z)->joinL (c::s) ps=joinL (c::s) zs->ps=zs
 | [],_,h,_,_,_,_=>absurd rfl h
 | _::_,[],_,h,_,_,_=>absurd rfl h
 | x::r,y::r',_,_,hp,hz,e=>by
  have sh:∀ (x:List Nat) (r:List (List Nat)),∃ u,joinL (c::s) (x::r)=x++u/\(u=[]\/∃ u',u=c::u')/\(r=[]->u=[])/\(r≠[]->u=(c::s)++joinL (c::s) r):=fun x r=>by
   cases r with
   | nil=>exact ⟨[],by simp [joinL],.inl rfl,fun _=>rfl,fun h=>absurd rfl h⟩
   | cons a b=>exact ⟨(c::s)++joinL (c::s) (a::b),by simp [joinL],.inr ⟨_,rfl⟩,fun h=>by simp at h,fun _=>rfl⟩
  obtain ⟨u,e1,h1,n1,m1⟩:=sh x r
  obtain ⟨v,e2,h2,n2,m2⟩:=sh y r'
  rw [e1,e2] at e
  obtain ⟨exy,euv⟩:=cut_uniq (hp x List.mem_cons_self) (hz y List.mem_cons_self) h1 h2 e
  subst exy
  by_cases z:r=[]
  ·by_cases z':r'=[]
   ·rw [z,z']
   ·have:=m2 z'
    rw [← euv,n1 z] at this
    simp at this
  ·by_cases z':r'=[]
   ·have:=m1 z
    rw [euv,n2 z'] at this
    simp at this
   ·have w:=m1 z
    rw [euv,m2 z'] at w
    have:=joinL_inj z z' (fun a ha=>hp a (List.mem_cons_of_mem _ ha)) (fun a ha=>hz a (List.mem_cons_of_mem _ ha)) (List.append_cancel_left w).symm
    rw [this]
theorem joinL_at {c:Nat} {s:List Nat} (hs:c∉s):∀ {zs:List (List Nat)},(∀ z∈zs,c∉z)->∀ k,(joinL (c::s) zs)[k]?=some c->∃ v,(joinL (c::s) zs).drop k=(c::s)++v
 | [],_,k,h=>by simp [joinL] at h
 | [x],hf,k,h=>absurd (List.mem_of_getElem? h) (hf x List.mem_cons_self)
 | x::y::r,hf,k,h=>by
  have hx:=hf x List.mem_cons_self
  show ∃ v,(x++(c::s)++joinL (c::s) (y::r)).drop k=_
  have h:(x++(c::s)++joinL (c::s) (y::r))[k]?=some c:=h
  by_cases k1:k < x.length
  ·rw [List.append_assoc,List.getElem?_append_left k1] at h
   exact absurd (List.mem_of_getElem? h) hx
  ·by_cases k2:k=x.length
   ·subst k2
    rw [List.append_assoc,List.drop_left]
    exact ⟨_,rfl⟩
   ·by_cases k3:k < (x++(c::s)).length
    ·rw [List.getElem?_append_left k3,List.getElem?_append_right (by omega)] at h
     obtain ⟨j,hj⟩:∃ j,k - x.length=j+1:=⟨k - x.length - 1,by omega⟩
     rw [hj,List.getElem?_cons_succ] at h
     exact absurd (List.mem_of_getElem? h) hs
    ·rw [List.getElem?_append_right (by omega)] at h
     obtain ⟨v,e⟩:=joinL_at hs (fun z hz=>hf z (List.mem_cons_of_mem _ hz)) _ h
     refine ⟨v,?_⟩
     rw [List.drop_append,List.drop_eq_nil_of_le (by omega),List.nil_append]
     exact e
open StrLaws Builtin Builtin.Str in
theorem parts_free2 (x y:Str) (c:Nat) (hx:∀ k,x.cps.toList[k]?=some c->At x y x.length k):∀ (cuts:List Nat) (a f:Nat),ChainG x y x.length a cuts f->(∀ k,f<=k->¬ At x y x.length k)->∀ p∈partsFrom x y.length a cuts,c∉p.cps.toList:=by
 have one:∀ a b,b<=x.length->(∀ k,a<=k->k < b->¬ At x y x.length k)->c∉(strSub x a b).cps.toList:=fun a b hb hn hm=>by
  rw [strSub_toList] at hm
  obtain ⟨j,hj⟩:=List.getElem?_of_mem hm
  have hlt:j < b - a:=by
   have h1:j < ((x.cps.toList.drop a).take (b - a)).length:=(List.getElem?_eq_some_iff.mp hj).1
   simp at h1
   omega
  rw [List.getElem?_take_of_lt hlt,List.getElem?_drop] at hj
  exact hn (a+j) (by omega) (by omega) (hx (a+j) hj)
 intro cuts
 induction cuts with
 | nil=>
  intro a f h hn p hp
  have e:f=a:=h
  subst e
  rw [List.mem_singleton.mp hp]
  exact one f x.length (Nat.le_refl _) fun k h1 _=>hn k h1
 | cons d r ih=>
  intro a f h hn p hp
  rcases List.mem_cons.mp hp with rfl | hp'
  ·exact one a d (by have:=h.2.1.1;omega) h.2.2.1
  ·exact ih _ f h.2.2.2 hn p hp'
theorem kind_min (x y:Str) (hy:∀ c∈y.cps.toList,c < 128):¬ Builtin.Str.strKind x < Builtin.Str.strKind y:=by
 have k1:y.cps.all (· < 128)=true:=by
  rw [← Array.all_toList,List.all_eq_true]
  intro c hc
  exact decide_eq_true (hy c hc)
 have k2:y.cps.all (· < 256)=true:=by
  rw [← Array.all_toList,List.all_eq_true]
  intro c hc
  exact decide_eq_true (Nat.lt_trans (hy c hc) (by decide))
 intro h
 unfold Builtin.Str.strKind at h
 simp only [k1,k2,if_true] at h
 repeat' split at h
 all_goals omega
open StrLaws Builtin Builtin.Str in
theorem split_join {c:Nat} {s:List Nat} {zs:List (List Nat)} (hz:zs≠[]) (hf:∀ z∈zs,c∉z) (hs:c∉s) (hk:∀ x∈c::s,x < 128):Txt.split (tx (joinL (c::s) zs)) (tx (c::s))=zs.map tx:=by
 obtain ⟨x,ex⟩:∃ x,x=tx (joinL (c::s) zs):=⟨_,rfl⟩
 obtain ⟨y,ey⟩:∃ y,y=tx (c::s):=⟨_,rfl⟩
 have xl:x.cps.toList=joinL (c::s) zs:=by rw [ex]
 have yl:y.cps.toList=c::s:=by rw [ey]
 have ly:y.length=s.length+1:=by rw [ey];simp [Str.length]
 have lx:x.length=(joinL (c::s) zs).length:=by rw [ex];simp [Str.length]
 have hx:∀ k,x.cps.toList[k]?=some c->At x y x.length k:=fun k h=>by
  rw [xl] at h
  obtain ⟨v,e⟩:=joinL_at hs hf k h
  have l:=congrArg List.length e
  simp at l
  refine ⟨by omega,?_⟩
  rw [subAt_eq,xl,yl,e,ly]
  have:List.take (s.length+1) (c::s++v)=c::s:=by
   have:=List.take_left (l₁:=c::s) (l₂:=v)
   simpa using this
  rw [this]
  simp
 rw [← ex,← ey]
 have fr:(∀ p∈Txt.split x y,c∉p.cps.toList)/\Txt.split x y≠[]:=by
  obtain ⟨f,hG,hn⟩:=occ_tight x y (by omega)
  unfold Txt.split
  split
  ·rename_i hc
   refine ⟨fun p hp hm=>?_,by simp⟩
   rw [List.mem_singleton.mp hp] at hm
   obtain ⟨j,hj⟩:=List.getElem?_of_mem hm
   have hA:=hx j hj
   rw [Bool.or_eq_true,decide_eq_true_eq,decide_eq_true_eq] at hc
   rcases hc with h | h
   ·have:=hA.1;omega
   ·exact kind_min x y (by rw [yl];exact hk) h
  ·split
   ·rename_i he
    refine ⟨fun p hp=>?_,by simp⟩
    rw [List.mem_singleton.mp hp]
    have e0:occurrences x y 0 x.length (x.length+1)=[]:=List.isEmpty_iff.mp he
    rw [e0] at hG
    have:=parts_free2 x y c hx [] 0 f hG hn (strSub x 0 x.length) (List.mem_singleton.mpr rfl)
    rwa [sub_whole] at this
   ·rw [partsBetween_eq]
    refine ⟨parts_free2 x y c hx _ 0 f hG hn,?_⟩
    obtain ⟨p,r,e⟩:=partsFrom_ne x y.length 0 (occurrences x y 0 x.length (x.length+1))
    rw [e];simp
 have jj:=join_split x y
 have e1:Txt.split x y=((Txt.split x y).map fun p=>p.cps.toList).map tx:=by
  rw [List.map_map]
  exact (List.map_id'' (fun p=>tx_cps p) _).symm
 have e2:joinL (c::s) ((Txt.split x y).map fun p=>p.cps.toList)=joinL (c::s) zs:=by
  rw [← str_join,← e1,← ey,jj,xl]
 have e3:=joinL_inj (by simpa using fr.2) hz (fun z hz=>by
  obtain ⟨p,hp,rfl⟩:=List.mem_map.mp hz
  exact fr.1 p hp) hf e2
 rw [e1,e3]
abbrev dg (n:Nat):List Nat:=(Nat.toDigits 10 n).map Char.toNat
theorem intS_nat (n:Nat):intS (n:Int)=dg n:=by
 have:=PySem.W.KIN.signs_num n
 rw [ofString_intS] at this
 simpa using this
theorem intS_neg (n:Nat):intS (Int.negSucc n)=45::dg (n+1):=by
 show ("-"++Nat.repr (n+1)).toList.map Char.toNat=_
 rw [String.toList_append,List.map_append,Nat.toList_repr]
 rfl
theorem dg_all (n:Nat):∀ c∈dg n,48<=c/\c<=57:=fun c hc=>by
 obtain ⟨ch,hch,e⟩:=List.mem_map.mp hc
 have r:=digit_range (Nat.isDigit_of_mem_toDigits (by decide) (by decide) hch)
 rw [← e]
 exact r
theorem dg_len (n:Nat):1<=(dg n).length:=by rw [List.length_map];exact toDigits_len_ge 10 n
theorem dg_le {n:Nat} (h:n < 10 ^ 60):(dg n).length<=60:=by rw [List.length_map];exact digits10_le (by decide) h
theorem dg_head (n:Nat):n=0\/∃ c r,dg n=c::r/\c≠48:=by
 induction n using Nat.strongRecOn with
 | _ m ih=>
  by_cases h:m < 10
  ·unfold dg
   rw [Nat.toDigits_of_lt_base h]
   have:∀ m,m < 10->m=0\/(Nat.digitChar m).toNat≠48:=by decide
   rcases this m h with e | e
   ·exact .inl e
   ·exact .inr ⟨_,[],rfl,e⟩
  ·have hm:m % 10 < 10:=Nat.mod_lt m (by decide)
   have t:Nat.toDigits 10 (m / 10)++Nat.toDigits 10 (m % 10)=Nat.toDigits 10 (10 * (m / 10)+m % 10):=Nat.toDigits_append_toDigits (by decide) (by omega) hm
   rw [Nat.div_add_mod] at t
   rcases ih (m / 10) (by omega) with e | ⟨c,r,e,hc⟩
   ·omega
   ·refine .inr ⟨c,r++(Nat.toDigits 10 (m % 10)).map Char.toNat,?_,hc⟩
    unfold dg at e ⊢
    rw [← t,List.map_append,e]
    rfl
theorem intS_back {i:Int} (h1:-(10 ^ 60) < i) (h2:i < 10 ^ 60):PySem.intText? (tx (intS i))=some i:=by
 have tl:∀ z:List Nat,(tx z).length=z.length:=fun z=>by simp [Str.length]
 cases i with
 | ofNat n=>
  have hn:n < 10 ^ 60:=by
   have h2:(n:Int) < 10 ^ 60:=h2
   omega
  have e:intS (Int.ofNat n)=dg n:=intS_nat n
  rw [e]
  have l:=dg_le hn
  have k:=tl (dg n)
  have:=PySem.intText_digits (x:=tx (dg n)) (dg_all n) (fun z=>by have:=dg_len n;rw [show dg n=[] from z] at this;simp at this) (by omega)
  rw [this]
  show some ((PySem.NumText.digitsVal (dg n):Nat):Int)=some (n:Int)
  rw [PySem.W.KIN.val_back]
 | negSucc n=>
  have hn:n+1 < 10 ^ 60:=by omega
  rw [intS_neg]
  have l:=dg_le hn
  have k:=tl (45::dg (n+1))
  simp only [List.length_cons] at k
  have:=PySem.intText_neg (x:=tx (45::dg (n+1))) (cs:=dg (n+1)) rfl (dg_all _) (fun z=>by have:=dg_len (n+1);rw [z] at this;simp at this) (by omega)
  rw [this,PySem.W.KIN.val_back]
  rfl
end DL
set_option maxHeartbeats 4000000
namespace HD
open PySem PySem.W PyProof.Rows
abbrev ST:=Option (SharedT×Thread)
section
variable (st:(Code->Sem Fin)->Program->World->SharedT->Thread->Option (SharedT×Thread)) (den:Code->Sem Fin) (p:Program) (w:World) (m:Nat) (ann:Option Value)
noncomputable def one (x:ST):ST:=@Option.rec (SharedT×Thread) (fun _=>ST) none (fun y=>@Bool.rec (fun _=>ST) (@Bool.rec (fun _=>ST) none (st den p w y.1 y.2) (stepOk m ann y.2)) (some y) (through y.2)) x
noncomputable def go (k:Nat):ST->ST:=@Nat.rec (fun _=>ST->ST) (one st den p w m ann) (fun _ f x=>@Option.rec (SharedT×Thread) (fun _=>ST) none (fun y=>f (some y)) (f x)) k
noncomputable def it (n:Nat):ST->ST:=@Nat.rec (fun _=>ST->ST) (fun x=>x) (fun _ f x=>f (one st den p w m ann x)) n
theorem it_none:∀ n,it st den p w m ann n none=none
 | 0=>rfl
 | n+1=>it_none n
theorem it_add:∀ a b x,it st den p w m ann (a+b) x=it st den p w m ann b (it st den p w m ann a x)
 | 0,b,x=>by rw [Nat.zero_add];rfl
 | a+1,b,x=>by
  rw [Nat.add_right_comm]
  exact it_add a b _
theorem go_it:∀ k x,go st den p w m ann k x=it st den p w m ann (2 ^ k) x
 | 0,x=>rfl
 | k+1,x=>by
  have e:go st den p w m ann (k+1) x=@Option.rec (SharedT×Thread) (fun _=>ST) none (fun y=>go st den p w m ann k (some y)) (go st den p w m ann k x):=rfl
  rw [e,Nat.pow_succ,Nat.mul_two,it_add,← go_it k x]
  cases go st den p w m ann k x with
  | none=>exact (it_none st den p w m ann _).symm
  | some y=>exact go_it k (some y)
end
variable {p:Program} {w:World} {m:Nat} {ann:Option Value}
theorem it_fix {s:SharedT} {t:Thread} (h:through t=true):∀ n,it stepT (denote treeTable) p w m ann n (some (s,t))=some (s,t)
 | 0=>rfl
 | n+1=>by
  have e:one stepT (denote treeTable) p w m ann (some (s,t))=some (s,t):=by
   show @Bool.rec (fun _=>ST) _ _ (through t)=_
   rw [h]
  show it stepT (denote treeTable) p w m ann n (one stepT (denote treeTable) p w m ann (some (s,t)))=_
  rw [e];exact it_fix h n
theorem top_of:∀ (n:Nat) (s:SharedT) (t:Thread) (s':SharedT) (t':Thread),it stepT (denote treeTable) p w m ann n (some (s,t))=some (s',t')->through t'=true->topRun treeTable p w m ann (n+1) s.abs t=some s'.abs:=by
 intro n
 induction n with
 | zero=>
  intro s t s' t' h ht
  obtain ⟨rfl,rfl⟩:=Prod.mk.inj (Option.some.inj h)
  unfold topRun;rw [ht]
 | succ n ih=>
  intro s t s' t' h ht
  cases ht0:through t with
  | true=>
   rw [it_fix ht0] at h
   obtain ⟨rfl,rfl⟩:=Prod.mk.inj (Option.some.inj h)
   unfold topRun;rw [ht0]
  | false=>
   have e:one stepT (denote treeTable) p w m ann (some (s,t))=@Bool.rec (fun _=>ST) none (stepT (denote treeTable) p w s t) (stepOk m ann t):=by
    show @Bool.rec (fun _=>ST) _ _ (through t)=_
    rw [ht0]
   have h:it stepT (denote treeTable) p w m ann n (one stepT (denote treeTable) p w m ann (some (s,t)))=some (s',t'):=h
   rw [e] at h
   unfold topRun;rw [ht0]
   cases hk:stepOk m ann t with
   | false=>
    rw [hk] at h
    have h:it stepT (denote treeTable) p w m ann n none=some (s',t'):=h
    rw [it_none] at h;cases h
   | true=>
    rw [hk] at h
    have h:it stepT (denote treeTable) p w m ann n (stepT (denote treeTable) p w s t)=some (s',t'):=h
    cases hs:stepT (denote treeTable) p w s t with
    | none=>rw [hs,it_none] at h;cases h
    | some y=>
     obtain ⟨s2,t2⟩:=y
     rw [hs] at h
     have e2:=stepT_spec hs
     show (match step (denote treeTable) p w s.abs t with | .go s' t'=>topRun treeTable p w m ann (n+1) s' t' | .halt _ _=>none)=_
     rw [e2]
     exact ih s2 t2 s' t' h ht
noncomputable def mkT (l:List Obj):Nat->Nat->Nat->BT:=fun f=>@Nat.rec (fun _=>Nat->Nat->BT) (fun _ _=>BT.nil) (fun _ g a b=>@Option.rec Obj (fun _=>BT) BT.nil (fun o=>BT.node o (g (2 * a) (a+b)) (g (2 * a) (2 * a+b))) l[b]?) f
noncomputable def T0 (m:Nat) (w:World) (os:OsState):SharedT:=⟨mkT (boot_heap w.params).objs.toList 12 1 0,m,(boot_heap w.params).life,Array.mk [],boot_drawn,boot_toks,os⟩
noncomputable def fin {β:Type} (sn:Program->List Str->List Str->(Shared->Bool)->Bool->Shared->β) (p q:Program) (loose:List Str) (Xt:Shared->Bool) {α:Type} (Yf:Shared->α) (w:World) (y:SharedT×Thread):Option (β×α):=
 match through y.2 && (staticsOk (importedModules p.main.body) (boot_heap w.params) y.1.abs.heap && namesBound p y.1.abs.heap && gensDone y.1.abs && laidKept (boot_heap w.params) y.1.abs.heap) with
 | true=>some (sn q loose (importedModules p.main.body) Xt true y.1.abs,Yf y.1.abs)
 | false=>none
theorem left_of {p q:Program} {loose:List Str} {Xt:Shared->Bool} {α:Type} {Yf:Shared->α} {Ya:World->α} {N:Nat} (k m:Nat) (ann:Option Value) {st:(Code->Sem Fin)->Program->World->SharedT->Thread->Option (SharedT×Thread)} {den:Code->Sem Fin} {sn:Program->List Str->List Str->(Shared->Bool)->Bool->Shared->_}
  (hs:stepT=st) (hd:denote treeTable=den) (hn:openSeen=sn) (o:opening p=plainProg p.main.scope.names) (hN:Nat.ble 600 N=true) (hk:Nat.ble (2 ^ k+1) N=true) (f:∀ s,fenceModules? p s=some s)
  (z:∀ w os,(⟨boot_heap w.params,Array.mk [],boot_drawn,boot_toks,os⟩:Shared)=(T0 m w os).abs)
  (sz:∀ w:World,((boot_heap w.params).isNs mainGlobals,(boot_heap w.params).objs.size,(boot_heap w.params).nsMap mainGlobals "__annotations__")=(true,m,ann))
  (h:∀ w os,(go st den p w m ann k (some (T0 m w os,topStub p))).bind (fin sn p q loose Xt Yf w)=some (openGood q loose,Ya w)):LeftO p q loose Xt Yf Ya N:=fun w=>by
 subst hs hd hn
 obtain ⟨⟨hp,gs,d,kk,os⟩,e,e'⟩:=Option.map_eq_some_iff.mp (boot_open o hN f w)
 obtain ⟨rfl,rfl,rfl,rfl⟩:hp=boot_heap w.params/\gs=Array.mk []/\d=boot_drawn/\kk=boot_toks:=by simpa using e'
 obtain ⟨z1,z2,z3⟩:_/\_/\_:=by simpa only [Prod.mk.injEq] using sz w
 obtain ⟨⟨s,t⟩,h1,h2⟩:=Option.bind_eq_some_iff.mp (h w os)
 rw [go_it] at h1
 unfold fin at h2
 split at h2
 ·rename_i hb
  obtain ⟨hb1,hb2⟩:=Bool.and_eq_true_iff.mp hb
  have r:=topRun_mono (N - (2 ^ k+1)) _ _ _ _ (top_of _ _ _ _ _ h1 hb1)
  rw [show 2 ^ k+1+(N - (2 ^ k+1))=N by have:=Nat.le_of_ble_eq_true hk;omega,← z w os] at r
  have tt:topFrom treeTable p w N ⟨boot_heap w.params,Array.mk [],boot_drawn,boot_toks,os⟩=some s.abs:=by
   unfold topFrom
   dsimp only
   rw [z1,z2,z3,r]
   show (match staticsOk (importedModules p.main.body) (boot_heap w.params) s.abs.heap && namesBound p s.abs.heap && gensDone s.abs && laidKept (boot_heap w.params) s.abs.heap with | true=>_ | false=>_)=_
   rw [hb2]
  unfold openEnds
  rw [e]
  show (topFrom treeTable p w N _).map _=_
  rw [tt]
  exact h2
 ·cases h2
end HD
set_option maxHeartbeats 4000000
namespace K05
open PySem PySem.Spec L2 DL
open PyProof.Rows hiding St
abbrev RN (n:Nat) (g:FD) (tb:SD) (N:List Str):Prop:=∀ ds c r,ds.length=n->g ds c=some r->∃ d c1,r=.ok d c1/\Fin c (tb (startD N ds) c) (some (.ok d c1))
abbrev B0 (P:Program) (w:World) (K:Frag) (mg:Str->Option Value) (base:Heap) (k:Nat) (q:Str) (st:Stmt) (f:Addr) (N:List Str) (tb:SD):Prop:=∀ (cdv:Value) (A:Around) (outer:List Env) (s:Shared) (H:Hp) (E:XK),Room k (A.deeper (envOfC q (defScope st) s.heap.objs.size f cdv))->DSs (cxOf CX0 P w K mg base N q (defScope st) f cdv A outer s H E).nox E0 (defBody st) tb
abbrev BX (P:Program) (w:World) (K:Frag) (mg:Str->Option Value) (base:Heap) (k:Nat) (q:Str) (st:Stmt) (f:Addr) (N:List Str) (tb:SD):Prop:=∀ (cdv:Value) (A:Around) (outer:List Env) (s:Shared) (H:Hp) (E:XK),Room k (A.deeper (envOfC q (defScope st) s.heap.objs.size f cdv))->DSs (cxOf (CXD P w) P w K mg base N q (defScope st) f cdv A outer s H E) E (defBody st) tb
theorem scs {N P:List Str} {sc:Scope} (a:sc.kind=.function:=by rfl) (b:sc.isCoroutine=false:=by rfl) (c:sc.isGenerator=false:=by rfl) (d:N.Nodup:=by decide +kernel) (e:N.take P.length=P:=by rfl) (f:∀ x∈P,sc.names.lookup x=some .local\/sc.names.lookup x=some .cell:=by decide +kernel) (g:∀ y∈sc.names,y.2≠.free:=by decide +kernel):FnScope N P sc:=⟨a,b,c,d,e,f,g⟩
def top (i:Nat):Stmt:=PySem.Challenge.pw_pegrise_k05_written_and_read.main.body.getD i (.Pass ⟨0,0,0,0⟩)
abbrev s_is_peg:Stmt:=top 10
abbrev s_is_whole:Stmt:=top 11
abbrev s_is_rise:Stmt:=top 12
abbrev s_is_sighting:Stmt:=top 13
abbrev s_turned:Stmt:=top 14
abbrev s_total:Stmt:=top 16
abbrev s_way_along:Stmt:=top 17
abbrev s_last_steps:Stmt:=top 19
abbrev s_steps_by_peg:Stmt:=top 20
abbrev s_turned_row:Stmt:=top 21
abbrev s_Book_init:Stmt:=inClass (top 23) 0
abbrev s_Book_take:Stmt:=inClass (top 23) 1
abbrev s_Book_drop:Stmt:=inClass (top 23) 2
abbrev s_Book_kept:Stmt:=inClass (top 23) 8
abbrev s_Book_row_at:Stmt:=inClass (top 23) 9
abbrev s_shown:Stmt:=top 25
abbrev s_shown_row:Stmt:=top 26
abbrev s_read:Stmt:=top 27
abbrev s_read_sightings:Stmt:=top 28
abbrev s_read_sighting:Stmt:=top 29
abbrev s_is_written_rise:Stmt:=top 30
abbrev s_law_cell_at:Stmt:=top 32
abbrev s_law_mixed:Stmt:=top 33
abbrev s_law_word:Stmt:=top 34
abbrev s_law_pool:Stmt:=top 35
abbrev s_law_rise:Stmt:=top 36
abbrev s_law_second:Stmt:=top 37
abbrev s_law_sightings:Stmt:=top 38
abbrev s_law_text:Stmt:=top 39
abbrev s_law_whole:Stmt:=top 40
abbrev s_law_kept:Stmt:=top 41
abbrev s_law_shows:Stmt:=top 42
abbrev s_law_full:Stmt:=top 43
abbrev s_law_no_room:Stmt:=top 44
abbrev s_law_read:Stmt:=top 45
abbrev s_law:Stmt:=top 46
abbrev s_Book_kept_c:Stmt:=inClass (top 23) 8
abbrev s_Book_take_n:Stmt:=inClass (top 23) 1
abbrev s_read_n:Stmt:=top 27
structure Adr where
 f_is_peg:Addr
 d_is_peg:FuncData
 f_is_whole:Addr
 d_is_whole:FuncData
 f_is_rise:Addr
 d_is_rise:FuncData
 f_is_sighting:Addr
 d_is_sighting:FuncData
 f_turned:Addr
 d_turned:FuncData
 f_total:Addr
 d_total:FuncData
 f_way_along:Addr
 d_way_along:FuncData
 f_last_steps:Addr
 d_last_steps:FuncData
 f_steps_by_peg:Addr
 d_steps_by_peg:FuncData
 f_turned_row:Addr
 d_turned_row:FuncData
 f_Book_init:Addr
 d_Book_init:FuncData
 f_Book_take:Addr
 d_Book_take:FuncData
 f_Book_drop:Addr
 d_Book_drop:FuncData
 f_Book_kept:Addr
 d_Book_kept:FuncData
 f_Book_row_at:Addr
 d_Book_row_at:FuncData
 f_shown:Addr
 d_shown:FuncData
 f_shown_row:Addr
 d_shown_row:FuncData
 f_read:Addr
 d_read:FuncData
 f_read_sightings:Addr
 d_read_sightings:FuncData
 f_read_sighting:Addr
 d_read_sighting:FuncData
 f_is_written_rise:Addr
 d_is_written_rise:FuncData
 f_law_cell_at:Addr
 d_law_cell_at:FuncData
 f_law_mixed:Addr
 d_law_mixed:FuncData
 f_law_word:Addr
 d_law_word:FuncData
 f_law_pool:Addr
 d_law_pool:FuncData
 f_law_rise:Addr
 d_law_rise:FuncData
 f_law_second:Addr
 d_law_second:FuncData
 f_law_sightings:Addr
 d_law_sightings:FuncData
 f_law_text:Addr
 d_law_text:FuncData
 f_law_whole:Addr
 d_law_whole:FuncData
 f_law_kept:Addr
 d_law_kept:FuncData
 f_law_shows:Addr
 d_law_shows:FuncData
 f_law_full:Addr
 d_law_full:FuncData
 f_law_no_room:Addr
 d_law_no_room:FuncData
 f_law_read:Addr
 d_law_read:FuncData
 f_law:Addr
 d_law:FuncData
 k_Book_init:Tok
 k_read:Tok
 c_Book:Addr
 x_Full:Addr
structure Txt (K:Frag) (mg:Str->Option Value) (t:Adr):Prop where
 F_is_peg:FunG K "is_peg" "is_peg" s_is_peg t.f_is_peg t.d_is_peg
 m_is_peg:mg "is_peg"=some (.ref t.f_is_peg)
 bi_is_peg:Binds K t.d_is_peg (["thing"]:List Str) []
 F_is_whole:FunG K "is_whole" "is_whole" s_is_whole t.f_is_whole t.d_is_whole
 m_is_whole:mg "is_whole"=some (.ref t.f_is_whole)
 bi_is_whole:Binds K t.d_is_whole (["thing"]:List Str) []
 F_is_rise:FunG K "is_rise" "is_rise" s_is_rise t.f_is_rise t.d_is_rise
 m_is_rise:mg "is_rise"=some (.ref t.f_is_rise)
 bi_is_rise:Binds K t.d_is_rise (["thing"]:List Str) []
 F_is_sighting:FunG K "is_sighting" "is_sighting" s_is_sighting t.f_is_sighting t.d_is_sighting
 m_is_sighting:mg "is_sighting"=some (.ref t.f_is_sighting)
 bi_is_sighting:Binds K t.d_is_sighting (["thing"]:List Str) []
 F_turned:FunG K "turned" "turned" s_turned t.f_turned t.d_turned
 m_turned:mg "turned"=some (.ref t.f_turned)
 bi_turned:Binds K t.d_turned (["sighting"]:List Str) []
 F_total:FunG K "total" "total" s_total t.f_total t.d_total
 m_total:mg "total"=some (.ref t.f_total)
 bi_total:Binds K t.d_total (["steps"]:List Str) []
 F_way_along:FunG K "way_along" "way_along" s_way_along t.f_way_along t.d_way_along
 m_way_along:mg "way_along"=some (.ref t.f_way_along)
 bi_way_along:Binds K t.d_way_along (["rows","one","other"]:List Str) []
 F_last_steps:FunG K "last_steps" "last_steps" s_last_steps t.f_last_steps t.d_last_steps
 m_last_steps:mg "last_steps"=some (.ref t.f_last_steps)
 bi_last_steps:Binds K t.d_last_steps (["rows","one"]:List Str) []
 F_steps_by_peg:FunG K "steps_by_peg" "steps_by_peg" s_steps_by_peg t.f_steps_by_peg t.d_steps_by_peg
 m_steps_by_peg:mg "steps_by_peg"=some (.ref t.f_steps_by_peg)
 bi_steps_by_peg:Binds K t.d_steps_by_peg (["rows"]:List Str) []
 F_turned_row:FunG K "turned_row" "turned_row" s_turned_row t.f_turned_row t.d_turned_row
 m_turned_row:mg "turned_row"=some (.ref t.f_turned_row)
 bi_turned_row:Binds K t.d_turned_row (["row"]:List Str) []
 F_Book_init:FunG K "__init__" "Book.__init__" s_Book_init t.f_Book_init t.d_Book_init
 bi_Book_init:Binds K t.d_Book_init (["self","most"]:List Str) []
 bd_Book_init:Binds K t.d_Book_init (["self","most"]:List Str) [.int 200 t.k_Book_init]
 F_Book_take:FunG K "take" "Book.take" s_Book_take t.f_Book_take t.d_Book_take
 me_Book_take:Meth K t.c_Book "take" t.f_Book_take
 bi_Book_take:Binds K t.d_Book_take (["self","one","other","rise"]:List Str) []
 F_Book_drop:FunG K "drop" "Book.drop" s_Book_drop t.f_Book_drop t.d_Book_drop
 me_Book_drop:Meth K t.c_Book "drop" t.f_Book_drop
 bi_Book_drop:Binds K t.d_Book_drop (["self","number"]:List Str) []
 F_Book_kept:FunG K "kept" "Book.kept" s_Book_kept t.f_Book_kept t.d_Book_kept
 me_Book_kept:Meth K t.c_Book "kept" t.f_Book_kept
 bi_Book_kept:Binds K t.d_Book_kept (["self"]:List Str) []
 F_Book_row_at:FunG K "row_at" "Book.row_at" s_Book_row_at t.f_Book_row_at t.d_Book_row_at
 me_Book_row_at:Meth K t.c_Book "row_at" t.f_Book_row_at
 bi_Book_row_at:Binds K t.d_Book_row_at (["self","number"]:List Str) []
 F_shown:FunG K "shown" "shown" s_shown t.f_shown t.d_shown
 m_shown:mg "shown"=some (.ref t.f_shown)
 bi_shown:Binds K t.d_shown (["book"]:List Str) []
 F_shown_row:FunG K "shown_row" "shown_row" s_shown_row t.f_shown_row t.d_shown_row
 m_shown_row:mg "shown_row"=some (.ref t.f_shown_row)
 bi_shown_row:Binds K t.d_shown_row (["row"]:List Str) []
 F_read:FunG K "read" "read" s_read t.f_read t.d_read
 m_read:mg "read"=some (.ref t.f_read)
 bi_read:Binds K t.d_read (["text","most"]:List Str) []
 bd_read:Binds K t.d_read (["text","most"]:List Str) [.int 200 t.k_read]
 F_read_sightings:FunG K "read_sightings" "read_sightings" s_read_sightings t.f_read_sightings t.d_read_sightings
 m_read_sightings:mg "read_sightings"=some (.ref t.f_read_sightings)
 bi_read_sightings:Binds K t.d_read_sightings (["text"]:List Str) []
 F_read_sighting:FunG K "read_sighting" "read_sighting" s_read_sighting t.f_read_sighting t.d_read_sighting
 m_read_sighting:mg "read_sighting"=some (.ref t.f_read_sighting)
 bi_read_sighting:Binds K t.d_read_sighting (["written"]:List Str) []
 F_is_written_rise:FunG K "is_written_rise" "is_written_rise" s_is_written_rise t.f_is_written_rise t.d_is_written_rise
 m_is_written_rise:mg "is_written_rise"=some (.ref t.f_is_written_rise)
 bi_is_written_rise:Binds K t.d_is_written_rise (["word"]:List Str) []
 F_law_cell_at:FunG K "_law_cell_at" "_law_cell_at" s_law_cell_at t.f_law_cell_at t.d_law_cell_at
 m_law_cell_at:mg "_law_cell_at"=some (.ref t.f_law_cell_at)
 bi_law_cell_at:Binds K t.d_law_cell_at (["_law_script","_law_k"]:List Str) []
 F_law_mixed:FunG K "_law_mixed" "_law_mixed" s_law_mixed t.f_law_mixed t.d_law_mixed
 m_law_mixed:mg "_law_mixed"=some (.ref t.f_law_mixed)
 bi_law_mixed:Binds K t.d_law_mixed (["_law_cell"]:List Str) []
 F_law_word:FunG K "_law_word" "_law_word" s_law_word t.f_law_word t.d_law_word
 m_law_word:mg "_law_word"=some (.ref t.f_law_word)
 bi_law_word:Binds K t.d_law_word (["_law_number","_law_size"]:List Str) []
 F_law_pool:FunG K "_law_pool" "_law_pool" s_law_pool t.f_law_pool t.d_law_pool
 m_law_pool:mg "_law_pool"=some (.ref t.f_law_pool)
 bi_law_pool:Binds K t.d_law_pool (["_law_cell","_law_many"]:List Str) []
 F_law_rise:FunG K "_law_rise" "_law_rise" s_law_rise t.f_law_rise t.d_law_rise
 m_law_rise:mg "_law_rise"=some (.ref t.f_law_rise)
 bi_law_rise:Binds K t.d_law_rise (["_law_cell"]:List Str) []
 F_law_second:FunG K "_law_second" "_law_second" s_law_second t.f_law_second t.d_law_second
 m_law_second:mg "_law_second"=some (.ref t.f_law_second)
 bi_law_second:Binds K t.d_law_second (["_law_first","_law_one","_law_other","_law_rise_here"]:List Str) []
 F_law_sightings:FunG K "_law_sightings" "_law_sightings" s_law_sightings t.f_law_sightings t.d_law_sightings
 m_law_sightings:mg "_law_sightings"=some (.ref t.f_law_sightings)
 bi_law_sightings:Binds K t.d_law_sightings (["_law_script"]:List Str) []
 F_law_text:FunG K "_law_text" "_law_text" s_law_text t.f_law_text t.d_law_text
 m_law_text:mg "_law_text"=some (.ref t.f_law_text)
 bi_law_text:Binds K t.d_law_text (["_law_some"]:List Str) []
 F_law_whole:FunG K "_law_whole" "_law_whole" s_law_whole t.f_law_whole t.d_law_whole
 m_law_whole:mg "_law_whole"=some (.ref t.f_law_whole)
 bi_law_whole:Binds K t.d_law_whole (["_law_found"]:List Str) []
 F_law_kept:FunG K "_law_kept" "_law_kept" s_law_kept t.f_law_kept t.d_law_kept
 m_law_kept:mg "_law_kept"=some (.ref t.f_law_kept)
 bi_law_kept:Binds K t.d_law_kept (["_law_found","_law_numbers","_law_some"]:List Str) []
 F_law_shows:FunG K "_law_shows" "_law_shows" s_law_shows t.f_law_shows t.d_law_shows
 m_law_shows:mg "_law_shows"=some (.ref t.f_law_shows)
 bi_law_shows:Binds K t.d_law_shows (["_law_book","_law_some"]:List Str) []
 F_law_full:FunG K "_law_full" "_law_full" s_law_full t.f_law_full t.d_law_full
 m_law_full:mg "_law_full"=some (.ref t.f_law_full)
 bi_law_full:Binds K t.d_law_full (["_law_text_here","_law_most"]:List Str) []
 F_law_no_room:FunG K "_law_no_room" "_law_no_room" s_law_no_room t.f_law_no_room t.d_law_no_room
 m_law_no_room:mg "_law_no_room"=some (.ref t.f_law_no_room)
 bi_law_no_room:Binds K t.d_law_no_room (["_law_book","_law_one"]:List Str) []
 F_law_read:FunG K "_law_read" "_law_read" s_law_read t.f_law_read t.d_law_read
 m_law_read:mg "_law_read"=some (.ref t.f_law_read)
 bi_law_read:Binds K t.d_law_read (["_law_some","_law_wide"]:List Str) []
 F_law:FunG K "law" "law" s_law t.f_law t.d_law
 m_law:mg "law"=some (.ref t.f_law)
 bi_law:Binds K t.d_law (["_law_script"]:List Str) []
 cl_Book:Cls K t.c_Book
 mg_Book:mg "Book"=some (.ref t.c_Book)
 ci_Book:ClsI K t.c_Book
 mk_Book:Mk K t.c_Book t.f_Book_init
 na_Book_most:NoAttr K t.c_Book "most"
 na_Book_taken:NoAttr K t.c_Book "taken"
 na_Book_rows:NoAttr K t.c_Book "rows"
 mx_Full:mg "Full"=some (.ref t.x_Full)
 x_Full:ExcK K t.x_Full
 xc_Full:ExcC K t.x_Full
 em_Full_Full:exmOne K (.ref t.x_Full) (.ref t.x_Full)=some true
 b_abs:mg "abs"=none
 b_all:mg "all"=none
 b_bool:mg "bool"=none
 b_int:mg "int"=none
 b_isinstance:mg "isinstance"=none
 b_len:mg "len"=none
 b_list:mg "list"=none
 b_range:mg "range"=none
 b_str:mg "str"=none
 b_sum:mg "sum"=none
 b_tuple:mg "tuple"=none
 b_zip:mg "zip"=none
variable {P:Program} {w:World} {K:Frag} {mg:Str->Option Value} {base:Heap} {t:Adr}
def low (c:Nat):Bool:=decide (97<=c) && decide (c<=122)
def isPeg (s:List Nat):Bool:=decide (1<=s.length) && decide (s.length<=8) && s.all low
theorem lt1 (c d:Nat):ltL [c] [d]=decide (c < d):=by
 unfold ltL
 by_cases h:c < d
 ·simp [h,List.cons_lt_cons_iff]
 ·simp [h,List.cons_lt_cons_iff]
  try omega
def okD (d:D) (c:List Cell):Bool:=(tyM d c).isSome && match d with
 | .str s=>decide (s.length<=1000000)
 | _=>true
def pegD:D->Bool
 | .str s=>isPeg s
 | _=>false
abbrev N_is_peg:List Str:=["thing"]
theorem sc_is_peg:FnScope N_is_peg ["thing"] (defScope s_is_peg):=scs
noncomputable def t_is_peg:SD:=(sSeq (sIf (dNotT (dTru (d1 (isiM .str) (dv 0)))) (sRet (dc (.bl false))) sNil)
  (sRet (dAndV (dChain leD leD (dc (.int 1)) (d1 lenM (dv 0)) (dc (.int 8))) (d1 allM (dComp (iVal (dv 0)) [] (gdName 0) pTrue (dChain leD leD (dc (.str [97])) (dv 0) (dc (.str [122]))))))))
def f_is_peg:List D->List Cell->Option D
 | [d],c=>if okD d c=true then some (.bl (pegD d)) else none
 | _,_=>none
noncomputable abbrev g_is_peg:FD:=gV f_is_peg
theorem comp_low (s:List Nat) (c:List Cell) (h:s.length<=1000000):
  compC (fun _=>True) (gdName 0) pTrue (dChain leD leD (dc (.str [97])) (dv 0) (dc (.str [122]))) (s.map fun c=>D.str [c]) [] [none] c=some (.ok (.lst (s.map fun c=>D.bl (low c))) c):=by
 have:=comp_map (te:=dChain leD leD (dc (.str [97])) (dv 0) (dc (.str [122]))) (rest:=[]) (f:=fun x=>match x with | .str [c]=>D.bl (low c) | _=>.non) (s.map fun c=>D.str [c]) [] none c (fun x hx=>by
  obtain ⟨k,_,rfl⟩:=List.mem_map.mp hx
  simp only [dChain,dc,dv,ret_bd,List.getElem?_cons_zero,cmpD,lt1,low]
  by_cases z:k < 97
  ·simp [z,M.ret,Nat.not_le.mpr z]
  ·have z':97<=k:=by omega
   by_cases z2:122 < k
   ·have:¬ k<=122:=by omega
    simp [z,z',z2,this,M.ret]
   ·have:k<=122:=by omega
    simp [z,z',z2,this,M.ret]) (by simpa using h)
 rw [this]
 simp [Function.comp_def]
theorem r_is_peg:RN 1 g_is_peg t_is_peg N_is_peg:=by
 refine run_pure fun ds c d hl h=>?_
 match ds,hl with
 | [x],_=>
  simp only [f_is_peg] at h
  split at h
  ·rename_i ho
   cases h
   refine ⟨⟨[],?_⟩,rfl⟩
   unfold okD at ho
   simp only [Bool.and_eq_true] at ho
   cases x with
   | str s=>
    have hs:s.length<=1000000:=by simpa using ho.2
    by_cases h1:1<=s.length
    ·by_cases h8:s.length<=8
     ·have e1:((1:Int)<=(s.length:Int)):=by omega
      have e8:((s.length:Int)<=8):=by omega
      simp [t_is_peg,N_is_peg,startD,sSeq,sIf,sRet,sNil,dNotT,dTru,d1,dv,dc,isiM,tyM,Ty.sub,truD,lenM,cmpD,dAndV,dChain,iVal,srcOf,M.bd,M.ret,hs,e1,e8,dComp,l0,comp_low s c hs,allM,blsOf_map,pegD,isPeg,h1,h8,Function.comp_def]
     ·have e1:((1:Int)<=(s.length:Int)):=by omega
      have e8:¬ ((s.length:Int)<=8):=by omega
      simp [t_is_peg,N_is_peg,startD,sSeq,sIf,sRet,sNil,dNotT,dTru,d1,dv,dc,isiM,tyM,Ty.sub,truD,lenM,cmpD,dAndV,dChain,M.bd,M.ret,hs,e1,e8,pegD,isPeg,h1,h8]
    ·have e1:¬ ((1:Int)<=(s.length:Int)):=by omega
     simp [t_is_peg,N_is_peg,startD,sSeq,sIf,sRet,sNil,dNotT,dTru,d1,dv,dc,isiM,tyM,Ty.sub,truD,lenM,cmpD,dAndV,dChain,M.bd,M.ret,hs,e1,pegD,isPeg,h1]
   | hnd k=>
    have ho:=ho.1
    simp only [tyM] at ho
    cases z:c[k]? with
    | none=>rw [z] at ho;cases ho
    | some y=>
     cases y with
     | lst _=>simp [t_is_peg,N_is_peg,startD,sSeq,sIf,sRet,dNotT,dTru,d1,dv,dc,isiM,tyM,Ty.sub,truD,M.bd,M.ret,z,pegD]
     | dct _=>simp [t_is_peg,N_is_peg,startD,sSeq,sIf,sRet,dNotT,dTru,d1,dv,dc,isiM,tyM,Ty.sub,truD,M.bd,M.ret,z,pegD]
     | _=>rw [z] at ho;cases ho
   | scr ns=>cases ho.1
   | _=>simp [t_is_peg,N_is_peg,startD,sSeq,sIf,sRet,dNotT,dTru,d1,dv,dc,isiM,tyM,Ty.sub,truD,M.bd,M.ret,pegD]
  ·cases h
abbrev N_is_whole:List Str:=["thing"]
theorem sc_is_whole:FnScope N_is_whole ["thing"] (defScope s_is_whole):=scs
noncomputable def t_is_whole:SD:=(sRet (dAndV (d1 (isiM .int) (dv 0)) (dNotV (d1 (isiM .bl) (dv 0)))))
def wholeD:D->Bool
 | .int _=>true
 | _=>false
def f_is_whole:List D->List Cell->Option D
 | [d],c=>if (tyM d c).isSome=true then some (.bl (wholeD d)) else none
 | _,_=>none
noncomputable abbrev g_is_whole:FD:=gV f_is_whole
theorem r_is_whole:RN 1 g_is_whole t_is_whole N_is_whole:=by
 refine run_pure fun ds c d hl h=>?_
 match ds,hl with
 | [x],_=>
  simp only [f_is_whole] at h
  split at h
  ·rename_i ho
   cases h
   refine ⟨⟨[],?_⟩,rfl⟩
   cases x with
   | hnd k=>
    simp only [tyM] at ho
    cases z:c[k]? with
    | none=>rw [z] at ho;cases ho
    | some y=>
     cases y with
     | lst _=>simp [t_is_whole,N_is_whole,startD,sRet,d1,dv,isiM,tyM,Ty.sub,dAndV,M.bd,M.ret,z,wholeD]
     | dct _=>simp [t_is_whole,N_is_whole,startD,sRet,d1,dv,isiM,tyM,Ty.sub,dAndV,M.bd,M.ret,z,wholeD]
     | _=>rw [z] at ho;cases ho
   | scr ns=>cases ho
   | _=>simp [t_is_whole,N_is_whole,startD,sRet,d1,dv,isiM,tyM,Ty.sub,dAndV,dNotV,M.bd,M.ret,wholeD]
  ·cases h
abbrev N_is_rise:List Str:=["thing"]
theorem sc_is_rise:FnScope N_is_rise ["thing"] (defScope s_is_rise):=scs
noncomputable def t_is_rise:SD:=(sRet (dAndV (dCall 1 g_is_whole [] (aCons (dv 0) aNil)) (d2 ltD (d1 absM (dv 0)) (d2 powD (dc (.int 10)) (dc (.int 60))))))
def riseD:D->Bool
 | .int i=>decide (-(10 ^ 60) < i/\i < 10 ^ 60)
 | _=>false
def f_is_rise:List D->List Cell->Option D
 | [d],c=>if (tyM d c).isSome=true then some (.bl (riseD d)) else none
 | _,_=>none
noncomputable abbrev g_is_rise:FD:=gV f_is_rise
theorem pcall_whole (d:D) (c:List Cell) (h:(tyM d c).isSome=true):gN 1 g_is_whole [d] c=some (.ok (.bl (wholeD d)) c):=gN_gV rfl (by simp [f_is_whole,h])
theorem r_is_rise:RN 1 g_is_rise t_is_rise N_is_rise:=by
 refine run_pure fun ds c d hl h=>?_
 match ds,hl with
 | [x],_=>
  simp only [f_is_rise] at h
  split at h
  ·rename_i ho
   cases h
   refine ⟨⟨[],?_⟩,rfl⟩
   have hw:=pcall_whole x c ho
   cases x with
   | int i=>
    simp [t_is_rise,N_is_rise,startD,sRet,d1,d2,dv,dc,aNil,aCons,dCall,absM,i2,cmpD,dAndV,M.bd,M.ret,powOk,hw,wholeD,riseD]
    rw [Bool.eq_iff_iff]
    simp only [Bool.and_eq_true,decide_eq_true_eq]
    by_cases z:i < 0
    ·simp only [z,if_true];omega
    ·simp only [z,if_false];omega
   | _=>simp [t_is_rise,N_is_rise,startD,sRet,dv,aNil,aCons,dCall,dAndV,M.bd,M.ret,hw,wholeD,riseD]
  ·cases h
theorem pcall_peg (d:D) (c:List Cell) (h:okD d c=true):gN 1 g_is_peg [d] c=some (.ok (.bl (pegD d)) c):=gN_gV rfl (by simp [f_is_peg,h])
theorem pcall_rise (d:D) (c:List Cell) (h:(tyM d c).isSome=true):gN 1 g_is_rise [d] c=some (.ok (.bl (riseD d)) c):=gN_gV rfl (by simp [f_is_rise,h])
abbrev N_is_sighting:List Str:=["thing"]
theorem sc_is_sighting:FnScope N_is_sighting ["thing"] (defScope s_is_sighting):=scs
noncomputable def t_is_sighting:SD:=(sSeq (sIf (dOrT (dNotT (dTru (d1 (isiM .tup) (dv 0)))) (tOf (d2 (eqM true) (d1 lenM (dv 0)) (dc (.int 3))))) (sRet (dc (.bl false))) sNil)
  (sRet (dAndV (dCall 1 g_is_peg [] (aCons (d2 ixM (dv 0) (dc (.int 0))) aNil)) (dAndV (dCall 1 g_is_peg [] (aCons (d2 ixM (dv 0) (dc (.int 1))) aNil)) (dCall 1 g_is_rise [] (aCons (d2 ixM (dv 0) (dc (.int 2))) aNil))))))
def sightD:D->Bool
 | .tup [x,y,z]=>pegD x && pegD y && riseD z
 | _=>false
def okT (d:D) (c:List Cell):Bool:=(tyM d c).isSome && match d with
 | .tup [x,y,z]=>okD x c && okD y c && (tyM z c).isSome
 | _=>true
def f_is_sighting:List D->List Cell->Option D
 | [d],c=>if okT d c=true then some (.bl (sightD d)) else none
 | _,_=>none
noncomputable abbrev g_is_sighting:FD:=gV f_is_sighting
theorem r_is_sighting:RN 1 g_is_sighting t_is_sighting N_is_sighting:=by
 refine run_pure fun ds c d hl h=>?_
 match ds,hl with
 | [x],_=>
  simp only [f_is_sighting] at h
  split at h
  ·rename_i ho
   cases h
   refine ⟨⟨[],?_⟩,rfl⟩
   unfold okT at ho
   simp only [Bool.and_eq_true] at ho
   cases x with
   | hnd k=>
    have ho:=ho.1
    simp only [tyM] at ho
    cases z:c[k]? with
    | none=>rw [z] at ho;cases ho
    | some y=>
     cases y with
     | lst _=>simp [t_is_sighting,N_is_sighting,startD,sSeq,sIf,sRet,dNotT,dOrT,dTru,d1,dv,dc,isiM,tyM,Ty.sub,truD,M.bd,M.ret,z,sightD]
     | dct _=>simp [t_is_sighting,N_is_sighting,startD,sSeq,sIf,sRet,dNotT,dOrT,dTru,d1,dv,dc,isiM,tyM,Ty.sub,truD,M.bd,M.ret,z,sightD]
     | _=>rw [z] at ho;cases ho
   | scr ns=>cases ho.1
   | tup xs=>
    have hx:=ho.2
    match xs,hx with
    | [x,y,z],hx=>
     simp only [Bool.and_eq_true] at hx
     obtain ⟨⟨h1,h2⟩,h3⟩:=hx
     have c1:=pcall_peg x c h1
     have c2:=pcall_peg y c h2
     have c3:=pcall_rise z c h3
     cases p1:pegD x <;> cases p2:pegD y <;> simp [t_is_sighting,N_is_sighting,startD,sSeq,sIf,sRet,sNil,dNotT,dOrT,dTru,tOf,d1,d2,dv,dc,aNil,aCons,dCall,isiM,tyM,Ty.sub,truD,lenM,ixM,oM,eqM,viewD,dAndV,M.bd,M.ret,shal,eqD,atI,ixN,c1,c2,c3,p1,p2,sightD]
    | [],_=>simp [t_is_sighting,N_is_sighting,startD,sSeq,sIf,sRet,dNotT,dOrT,dTru,tOf,d1,d2,dv,dc,isiM,tyM,Ty.sub,truD,lenM,eqM,viewD,M.bd,M.ret,shal,eqD,sightD]
    | [_],_=>simp [t_is_sighting,N_is_sighting,startD,sSeq,sIf,sRet,dNotT,dOrT,dTru,tOf,d1,d2,dv,dc,isiM,tyM,Ty.sub,truD,lenM,eqM,viewD,M.bd,M.ret,shal,eqD,sightD]
    | [_,_],_=>simp [t_is_sighting,N_is_sighting,startD,sSeq,sIf,sRet,dNotT,dOrT,dTru,tOf,d1,d2,dv,dc,isiM,tyM,Ty.sub,truD,lenM,eqM,viewD,M.bd,M.ret,shal,eqD,sightD]
    | a::b::c'::d'::r,_=>
     have e:¬ ((r.length:Int)+1+1+1+1=3):=by omega
     simp [t_is_sighting,N_is_sighting,startD,sSeq,sIf,sRet,dNotT,dOrT,dTru,tOf,d1,d2,dv,dc,isiM,tyM,Ty.sub,truD,lenM,eqM,viewD,M.bd,M.ret,shal,eqD,sightD,e]
   | _=>simp [t_is_sighting,N_is_sighting,startD,sSeq,sIf,sRet,dNotT,dOrT,dTru,d1,dv,dc,isiM,tyM,Ty.sub,truD,M.bd,M.ret,sightD]
  ·cases h
def riseS:D->Int
 | .tup [_,_,_,.int r]=>r
 | _=>0
def sumS:List D->Int
 | []=>0
 | x::xs=>riseS x+sumS xs
abbrev N_total:List Str:=["steps"]
theorem sc_total:FnScope N_total ["steps"] (defScope s_total):=scs
noncomputable def t_total:SD:=(sRet (d1 sumM (dComp (iVal (dv 0)) [] (gdName 0) pTrue (d2 ixM (dv 0) (dc (.int 3))))))
def f_total:List D->List Cell->Option D
 | [d],c=>match seqL d c with
  | some xs=>if xs.all okRow=true/\xs.length<=1000 then some (.int (sumS xs)) else none
  | none=>none
 | _,_=>none
noncomputable abbrev g_total:FD:=gV f_total
theorem rises_sum:∀ {xs:List D},xs.all okRow=true->(xs.map fun x=>riseS x).sum=sumS xs
 | [],_=>rfl
 | x::xs,h=>by
  simp only [List.all_cons,Bool.and_eq_true] at h
  simp [sumS,rises_sum h.2]
theorem r_total:RN 1 g_total t_total N_total:=by
 refine run_pure fun ds c d hl h=>?_
 match ds,hl with
 | [x],_=>
  simp only [f_total] at h
  cases z:seqL x c with
  | none=>rw [z] at h;cases h
  | some xs=>
   rw [z] at h
   simp only at h
   split at h
   ·rename_i ho
    cases h
    refine ⟨⟨[],?_⟩,rfl⟩
    have key:∀ (chk:List Cell->Prop),chk c->compC chk (gdName 0) pTrue (d2 ixM (dv 0) (dc (.int 3))) xs [] [none] c=some (.ok (.lst (xs.map fun x=>D.int (riseS x))) c):=fun chk hk=>by
     rw [comp_mapC (f:=fun x=>D.int (riseS x)) c hk xs [] none (fun y hy=>by
      obtain ⟨n,p,q,r,rfl⟩:=okRow_is (List.all_eq_true.mp ho.1 y hy)
      have ix:atI [D.int n,D.str p,D.str q,D.int r] 3=some (D.int r):=rfl
      simp [d2,dv,dc,ixM,oM,M.bd,M.ret,ix,riseS]) (by simp;omega)]
     simp
    have hs:=intsOf_map (fun x:D=>riseS x) xs
    have hsum:=rises_sum ho.1
    cases x with
    | lst ys=>
     cases z
     have e:=key (fun _=>True) trivial
     simp [t_total,N_total,startD,sRet,d1,dv,sumM,iVal,srcOf,M.bd,M.ret,seqL,dComp,l0,e,hs,hsum]
    | hnd k=>
     have z2:c[k]?=some (.lst xs):=by
      simp only [seqL] at z
      split at z
      ·rename_i w;cases z;exact w
      ·cases z
     have e:=key (fun c'=>c'[k]?=some (.lst xs)) z2
     simp [t_total,N_total,startD,sRet,d1,dv,sumM,iVal,srcOf,M.bd,M.ret,seqL,dComp,l0,z2,e,hs,hsum]
    | _=>cases z
   ·cases h
theorem call_total (d:D) (xs:List D) (c:List Cell) (h:seqL d c=some xs) (ho:xs.all okRow=true) (hl:xs.length<=1000):gN 1 g_total [d] c=some (.ok (.int (sumS xs)) c):=gN_gV rfl (by simp only [f_total];rw [h];simp only;rw [if_pos ⟨ho,hl⟩])
abbrev N_turned:List Str:=["sighting"]
theorem sc_turned:FnScope N_turned ["sighting"] (defScope s_turned):=scs
noncomputable def t_turned:SD:=(sRet (dTup (aCons (d2 ixM (dv 0) (dc (.int 1))) (aCons (d2 ixM (dv 0) (dc (.int 0))) (aCons (d2 subD (dc (.int 0)) (d2 ixM (dv 0) (dc (.int 2)))) aNil)))))
def f_turned:List D->List Cell->Option D
 | [.tup [.str p,.str q,.int r]],_=>some (.tup [.str q,.str p,.int (0 - r)])
 | _,_=>none
noncomputable abbrev g_turned:FD:=gV f_turned
theorem r_turned:RN 1 g_turned t_turned N_turned:=by
 refine run_pure fun ds c d hl h=>?_
 unfold f_turned at h
 split at h
 ·rename_i p q r
  cases h
  refine ⟨⟨[],?_⟩,rfl⟩
  have ix0:atI [D.str p,D.str q,D.int r] 0=some (D.str p):=rfl
  have ix1:atI [D.str p,D.str q,D.int r] 1=some (D.str q):=rfl
  have ix2:atI [D.str p,D.str q,D.int r] 2=some (D.int r):=rfl
  simp [t_turned,N_turned,startD,sRet,d2,dv,dc,dTup,aNil,aCons,ixM,oM,i20,M.bd,M.ret,ix0,ix1,ix2]
 ·cases h
theorem call_turned (p q:List Nat) (r:Int) (c:List Cell):gN 1 g_turned [.tup [.str p,.str q,.int r]] c=some (.ok (.tup [.str q,.str p,.int (0 - r)]) c):=gN_gV rfl rfl
abbrev N_turned_row:List Str:=["row"]
theorem sc_turned_row:FnScope N_turned_row ["row"] (defScope s_turned_row):=scs
noncomputable def t_turned_row:SD:=(sRet (d2 addD (dTup (aCons (d2 ixM (dv 0) (dc (.int 0))) aNil)) (dCall 1 g_turned [] (aCons (dSl slS (dv 0) (oSome (dc (.int 1))) oNone) aNil))))
def f_turned_row:List D->List Cell->Option D
 | [.tup [.int n,.str p,.str q,.int r]],_=>some (.tup [.int n,.str q,.str p,.int (0 - r)])
 | _,_=>none
noncomputable abbrev g_turned_row:FD:=gV f_turned_row
theorem r_turned_row:RN 1 g_turned_row t_turned_row N_turned_row:=by
 refine run_pure fun ds c d hl h=>?_
 unfold f_turned_row at h
 split at h
 ·rename_i n p q r
  cases h
  refine ⟨⟨[],?_⟩,rfl⟩
  have ix0:atI [D.int n,D.str p,D.str q,D.int r] 0=some (D.int n):=rfl
  have sl:slS (.tup [D.int n,D.str p,D.str q,D.int r]) (some 1) none c=some (.ok (.tup [D.str p,D.str q,D.int r]) c):=by
   simp only [slS,slM]
   rw [if_neg (by simp [HT.sIx])]
   rfl
  have ct:=call_turned p q r c
  unfold t_turned_row
  have e1:dTup (aCons (d2 ixM (dv 0) (dc (.int 0))) aNil) (startD N_turned_row [.tup [.int n,.str p,.str q,.int r]]) c=some (.ok (.tup [.int n]) c):=by simp [N_turned_row,startD,d2,dv,dc,dTup,aNil,aCons,ixM,oM,M.bd,M.ret,ix0]
  have e0:dSl slS (dv 0) (oSome (dc (.int 1))) oNone (startD N_turned_row [.tup [.int n,.str p,.str q,.int r]]) c=some (.ok (.tup [D.str p,D.str q,D.int r]) c):=sl
  have e2:=(dCall_ok (n:=1) (g:=g_turned) (dds:=[]) (aCons_ok e0 aNil_ok)).trans ct
  have e3:d2 addD (dTup (aCons (d2 ixM (dv 0) (dc (.int 0))) aNil)) (dCall 1 g_turned [] (aCons (dSl slS (dv 0) (oSome (dc (.int 1))) oNone) aNil)) (startD N_turned_row [.tup [.int n,.str p,.str q,.int r]]) c=some (.ok (.tup [.int n,.str q,.str p,.int (0 - r)]) c):=(d2_ok e1 e2).trans rfl
  rw [ret_ok e3]
  simp
 ·cases h
theorem call_turned_row {x:D} (h:okRow x=true) (c:List Cell):gN 1 g_turned_row [x] c=some (.ok (turnD x) c):=by
 obtain ⟨n,p,q,r,rfl⟩:=okRow_is h
 exact gN_gV rfl rfl
abbrev N_steps_by_peg:List Str:=["rows","leaving","row","step"]
theorem sc_steps_by_peg:FnScope N_steps_by_peg ["rows"] (defScope s_steps_by_peg):=scs
noncomputable def t_steps_by_peg_b2:SD:=(sExpr (mM .lst appendM (mM .dct setdefM (dv 1) (aCons (d2 ixM (dv 3) (dc (.int 1))) (aCons (dLstC aNil) aNil))) (aCons (dv 3) aNil)))
noncomputable def t_steps_by_peg_b1:SD:=(sForI (iVal (dTup (aCons (dv 2) (aCons (dCall 1 g_turned_row [] (aCons (dv 2) aNil)) aNil)))) (gdName 3) t_steps_by_peg_b2)
noncomputable def t_steps_by_peg:SD:=(sSeq (sSet 1 dDict)
  (sSeq (sForI (iVal (dv 0)) (gdName 2) t_steps_by_peg_b1)
  (sRet (dv 1))))
def P_steps_by_peg (ds:List D) (c:List Cell) (d:D) (c':List Cell):Prop:=∃ rows i,ds=[.lst rows]/\d=.hnd i/\Lv c (both rows) i c'
noncomputable abbrev g_steps_by_peg:FD:=gF t_steps_by_peg N_steps_by_peg P_steps_by_peg
theorem r_steps_by_peg:RN 1 g_steps_by_peg t_steps_by_peg N_steps_by_peg:=run_F
theorem turn_steps {c:List Cell} {S:List D} {i:Nat} {cs:List Cell} (h:Lv c S i cs) (n:Int) (p q:List Nat) (r:Int) (hS:S.length < 10000) (o0 o2:Option D):
  ∃ cs',t_steps_by_peg_b2 [o0,some (.hnd i),o2,some (stepD n p q r)] cs=some (.ok (.nx [o0,some (.hnd i),o2,some (stepD n p q r)]) cs')/\Lv c (S++[stepD n p q r]) i cs':=by
 obtain ⟨kvs,hk,hl,h1,_,_⟩:=h.at_
 have hi:=(List.getElem?_eq_some_iff.mp hk).1
 have hk2:(cs++[Cell.lst []])[i]?=some (.dct kvs):=by rw [List.getElem?_append_left hi];exact hk
 have hl2:kvs.length < 1000000:=by omega
 have ix1:atI [D.int n,D.str p,D.str q,D.int r] 1=some (D.str p):=rfl
 have arg:(aCons (d2 ixM (dv 3) (dc (.int 1))) (aCons (dLstC aNil) aNil)) [o0,some (.hnd i),o2,some (stepD n p q r)] cs=some (.ok [.str p,.hnd cs.length] (cs++[.lst []])):=by simp [d2,dv,dc,aNil,aCons,ixM,oM,M.bd,M.ret,dLstC,ix1]
 cases z:valD kvs (.inr p) with
 | some d=>
  obtain ⟨j,rfl,hj,hc⟩:=h1 p d z
  obtain ⟨_,_,h3⟩:=h.there (n:=n) (r:=r) (q:=q) hk z
  have hjl:=(List.getElem?_eq_some_iff.mp hc).1
  have hc2:(cs++[Cell.lst []])[j]?=some (.lst (S.filter (frm p))):=by rw [List.getElem?_append_left hjl];exact hc
  have hf:(S.filter (frm p)).length < 1000000:=by have:=List.length_filter_le (frm p) S;omega
  refine ⟨_,?_,h3⟩
  have e1:mM .dct setdefM (dv 1) (aCons (d2 ixM (dv 3) (dc (.int 1))) (aCons (dLstC aNil) aNil)) [o0,some (.hnd i),o2,some (stepD n p q r)] cs=some (.ok (.hnd j) (cs++[.lst []])):=
   (mM_ok (x:=.hnd i) (c1:=cs) rfl (by simp [tyM,hk]) arg).trans (by simp [setdefM,cellD,hk2,keyD,hl2,z])
  exact expr_ok (x:=.non) ((mM_ok e1 (by simp [tyM,hc2]) (xs:=[stepD n p q r]) (c2:=cs++[.lst []]) rfl).trans (by simp [appendM,cellL,hc2,hf]))
 | none=>
  have h3:=h.new (n:=n) (r:=r) (q:=q) hk z
  refine ⟨_,?_,h3⟩
  have e1:mM .dct setdefM (dv 1) (aCons (d2 ixM (dv 3) (dc (.int 1))) (aCons (dLstC aNil) aNil)) [o0,some (.hnd i),o2,some (stepD n p q r)] cs=some (.ok (.hnd cs.length) ((cs++[Cell.lst []]).set i (Cell.dct (putDK kvs (.inr p) (.hnd cs.length))))):=
   (mM_ok (x:=.hnd i) (c1:=cs) rfl (by simp [tyM,hk]) arg).trans (by simp [setdefM,cellD,hk2,keyD,hl2,z])
  have hc2:((cs++[Cell.lst []]).set i (Cell.dct (putDK kvs (.inr p) (.hnd cs.length))))[cs.length]?=some (.lst []):=by
   rw [List.getElem?_set_ne (by omega)];simp
  exact expr_ok (x:=.non) ((mM_ok e1 (by simp only [tyM,hc2]) (xs:=[stepD n p q r]) (c2:=(cs++[Cell.lst []]).set i (Cell.dct (putDK kvs (.inr p) (.hnd cs.length)))) rfl).trans (by simp only [appendM,cellL,hc2];rfl))
theorem call_steps_by_peg (rows:List D) (c:List Cell) (hr:rows.all okRow=true) (hn:rows.length<=1000):∃ i c',Lv c (both rows) i c'/\gN 1 g_steps_by_peg [.lst rows] c=some (.ok (.hnd i) c'):=by
 have h:∃ d c',P_steps_by_peg [.lst rows] c d c'/\Fin c (t_steps_by_peg (startD N_steps_by_peg [.lst rows]) c) (some (.ok d c')):=by
  let st (o2 o3:Option D):L:=[some (.lst rows),some (.hnd c.length),o2,o3]
  obtain ⟨l',c',e,done,o2,o3,el,ed,hL⟩:=forC_inv (chk:=fun _=>True) (g:=gdName 2) (body:=t_steps_by_peg_b1) (fun xs l cs=>∃ (done:List D) (o2 o3:Option D),l=st o2 o3/\done++xs=rows/\Lv c (both done) c.length cs)
   (fun x xs l cs ⟨done,o2,o3,el,ed,hL⟩=>by
    subst el
    have hx:okRow x=true:=List.all_eq_true.mp hr x (by rw [← ed];simp)
    have hdl:done.length+(xs.length+1)=rows.length:=by rw [← ed];simp
    obtain ⟨n,p,q,r,rfl⟩:=okRow_is hx
    have b1:=both_len done
    obtain ⟨c1,e1,L1⟩:=turn_steps hL n p q r (by omega) (some (.lst rows)) (some (stepD n p q r))
    obtain ⟨c2,e2,L2⟩:=turn_steps L1 n q p (0 - r) (by simp;omega) (some (.lst rows)) (some (stepD n p q r))
    refine ⟨trivial,_,rfl,st (some (stepD n p q r)) (some (stepD n q p (0 - r))),c2,.inl ?_,done++[stepD n p q r],_,_,rfl,by simp [← ed],?_⟩
    ·have ct:=call_turned_row (x:=stepD n p q r) rfl cs
     unfold t_steps_by_peg_b1 sForI
     rw [bd_ok (x:=⟨[stepD n p q r,stepD n q p (0 - r)],fun _=>True⟩) (c':=cs) (by
      unfold iVal
      rw [bd_ok (x:=.tup [stepD n p q r,stepD n q p (0 - r)]) (c':=cs) (by
       unfold dTup
       rw [bd_ok (x:=[stepD n p q r,stepD n q p (0 - r)]) (c':=cs) (by
        unfold aCons
        rw [bd_ok (x:=stepD n p q r) (c':=cs) rfl]
        rw [bd_ok (x:=[stepD n q p (0 - r)]) (c':=cs) (by
         rw [bd_ok (x:=stepD n q p (0 - r)) (c':=cs) (by
          unfold dCall
          rw [bd_ok (x:=[stepD n p q r]) (c':=cs) rfl]
          exact ct)]
         rfl)]
        rfl)]
       rfl)]
      rfl)]
     simp only [forC,if_true,gdName,st,List.set_cons_succ,List.set_cons_zero]
     rw [bd_ok e1]
     simp only [forC,if_true,gdName,List.set_cons_succ,List.set_cons_zero]
     rw [bd_ok e2]
    ·rw [both_app]
     have:both done++[stepD n p q r]++[stepD n q p (0 - r)]=both done++both [stepD n p q r]:=by simp [both,turnD]
     rw [← this]
     exact L2)
   (fun _ _ _=>trivial) rows (st none none) (c++[.dct []]) ⟨[],none,none,rfl,rfl,(Grown.refl c).push _,Nat.le_refl _,⟨[],by simp,Nat.le_refl _,(fun p d h=>by cases h),(fun _ _ _ h=>by cases h),fun _ _=>rfl⟩⟩
  rw [List.append_nil] at ed
  subst ed el
  refine ⟨.hnd c.length,c',⟨done,c.length,rfl,rfl,hL⟩,?_⟩
  have s1:startD N_steps_by_peg [.lst done]=[some (.lst done),none,none,none]:=rfl
  rw [s1]
  unfold t_steps_by_peg
  rw [seq_ok (l':=st none none) (c':=c++[.dct []]) (by simp [st,sSet,M.bd,M.ret,dDict])]
  rw [seq_ok (l':=st o2 o3) (c':=c') (by
   unfold sForI
   rw [bd_ok (x:=⟨done,fun _=>True⟩) (c':=c++[.dct []]) (by simp [st,dv,iVal,srcOf,M.bd,M.ret])]
   exact e)]
  rw [show sRet (dv 1) (st o2 o3) c'=some (.ok (.ret (.hnd c.length)) c') from rfl]
  exact .whole
 obtain ⟨d,c',⟨rows',i,e1,rfl,e2⟩,e⟩:=call_F rfl h
 cases e1
 exact ⟨i,c',e2,e⟩
abbrev N_last_steps:List Str:=["rows","one","leaving","last","pegs","place","step"]
theorem sc_last_steps:FnScope N_last_steps ["rows","one"] (defScope s_last_steps):=scs
noncomputable def t_last_steps_b2:SD:=(sIf (tOf (d2 (dInM true) (d2 ixM (dv 6) (dc (.int 2))) (dv 3))) (sSeq (sDPutD (dv 3) (d2 ixM (dv 6) (dc (.int 2))) (dv 6))
  (sExpr (mM .lst appendM (dv 4) (aCons (d2 ixM (dv 6) (dc (.int 2))) aNil)))) sNil)
noncomputable def t_last_steps_b1:SD:=(sSeq (sForI (iVal (mM .dct getM (dv 2) (aCons (d2 ixM (dv 4) (dv 5)) (aCons (dLst aNil) aNil)))) (gdName 6) t_last_steps_b2)
  (sAug 5 (fun i j=>i+j) (dc (.int 1))))
noncomputable def t_last_steps:SD:=(sSeq (sSet 2 (dCall 1 g_steps_by_peg [] (aCons (dv 0) aNil)))
  (sSeq (sSet 3 (dDisp1 (dv 1) (dc .non)))
  (sSeq (sSet 4 (dLstC (aCons (dv 1) aNil)))
  (sSeq (sSet 5 (dc (.int 0)))
  (sSeq (fun l=>whileN (tOf (d2 ltD (dv 5) (d1 lenM (dv 4)))) t_last_steps_b1 fuel0 l)
  (sRet (dv 3)))))))
def P_last_steps (ds:List D) (c:List Cell) (d:D) (c':List Cell):Prop:=∃ rows one pegs kvs,ds=[.lst rows,.str one]/\d=.hnd c.length/\c'=c++[.dct kvs]/\Lst rows one pegs kvs/\Closed rows pegs pegs.length
noncomputable abbrev g_last_steps:FD:=gF t_last_steps N_last_steps P_last_steps
theorem r_last_steps:RN 2 g_last_steps t_last_steps N_last_steps:=run_F
abbrev lz (rows:List D) (one:List Nat) (i:Nat) (c1:List Cell) (place:Int) (o:Option D):L:=[some (.lst rows),some (.str one),some (.hnd i),some (.hnd c1.length),some (.hnd (c1.length+1)),some (.int place),o]
abbrev cz (c1:List Cell) (kvs:List (DK×D)) (pegs:List (List Nat)):List Cell:=c1++[.dct kvs,.lst (pegs.map .str)]
theorem cz_dct (c1:List Cell) (kvs:List (DK×D)) (pegs:List (List Nat)):(cz c1 kvs pegs)[c1.length]?=some (.dct kvs):=by simp
theorem turn_last (rows:List D) (one:List Nat) (i:Nat) (c1:List Cell) (place:Int) (kvs:List (DK×D)) (pegs:List (List Nat)) (hL:Lst rows one pegs kvs) (n:Int) (p q:List Nat) (r:Int) (hl:kvs.length < 10000) (hl2:pegs.length < 10000):
  t_last_steps_b2 (lz rows one i c1 place (some (stepD n p q r))) (cz c1 kvs pegs)=if q∈pegs then some (.ok (.nx (lz rows one i c1 place (some (stepD n p q r)))) (cz c1 kvs pegs)) else some (.ok (.nx (lz rows one i c1 place (some (stepD n p q r)))) (cz c1 (kvs++[(.inr q,stepD n p q r)]) (pegs++[q]))):=by
 have ix2:atI [D.int n,D.str p,D.str q,D.int r] 2=some (D.str q):=rfl
 have hk:=hL.has q
 have hd:=cz_dct c1 kvs pegs
 have t1:tOf (d2 (dInM true) (d2 ixM (dv 6) (dc (.int 2))) (dv 3)) (lz rows one i c1 place (some (stepD n p q r))) (cz c1 kvs pegs)=some (.ok (!decide (q∈pegs)) (cz c1 kvs pegs)):=by
  simp [tOf,d2,dv,dc,ixM,oM,M.bd,M.ret,ix2,dInM,cellD,keyD,hk]
 unfold t_last_steps_b2 sIf
 rw [bd_ok t1]
 by_cases hq:q∈pegs
 ·simp [hq,sNil,M.ret]
 ·have vn:valD kvs (.inr q)=none:=by
   rw [decide_eq_false hq] at hk
   cases z:valD kvs (.inr q) with
   | none=>rfl
   | some d=>rw [z] at hk;cases hk
  have hl3:kvs.length < 1000000:=by omega
  have hl4:pegs.length < 1000000:=by omega
  rw [if_neg hq]
  simp only [hq,decide_false,Bool.not_false,if_true]
  rw [seq_ok (l':=lz rows one i c1 place (some (stepD n p q r))) (c':=cz c1 (kvs++[(.inr q,stepD n p q r)]) pegs) (by
   simp [d2,dv,dc,ixM,oM,M.bd,M.ret,ix2,sDPutD,putM,cellD,keyD,hl3,putDK_new _ vn])]
  simp [sExpr,d2,dv,dc,aNil,aCons,tyM,ixM,oM,mM,appendM,cellL,M.bd,M.ret,ix2,hl4]
theorem call_last_steps (rows:List D) (one:List Nat) (c:List Cell) (hr:rows.all okRow=true) (hn:rows.length<=1000):∃ pegs kvs,Lst rows one pegs kvs/\Closed rows pegs pegs.length/\gN 2 g_last_steps [.lst rows,.str one] c=some (.ok (.hnd c.length) (c++[.dct kvs])):=by
 have h:∃ d c',P_last_steps [.lst rows,.str one] c d c'/\Fin c (t_last_steps (startD N_last_steps [.lst rows,.str one]) c) (some (.ok d c')):=by
  obtain ⟨i,c1,hv,e1⟩:=call_steps_by_peg rows c hr hn
  obtain ⟨kv,hk,hkl,hk1,hk2,hk3⟩:=hv.at_
  have hi:=(List.getElem?_eq_some_iff.mp hk).1
  obtain ⟨l',c',ew,place,pegs,kvs,o,el,ec,hL,hp,hC,hge⟩:=while_inv2 (p:=tOf (d2 ltD (dv 5) (d1 lenM (dv 4)))) (sb:=t_last_steps_b1)
   (fun m l cs=>∃ (place:Nat) (pegs:List (List Nat)) (kvs:List (DK×D)) (o:Option D),l=lz rows one i c1 place o/\cs=cz c1 kvs pegs/\Lst rows one pegs kvs/\place<=pegs.length/\Closed rows pegs place/\m=pegs.length+unseen rows pegs - place)
   (fun l cs=>∃ (place:Nat) (pegs:List (List Nat)) (kvs:List (DK×D)) (o:Option D),l=lz rows one i c1 place o/\cs=cz c1 kvs pegs/\Lst rows one pegs kvs/\place<=pegs.length/\Closed rows pegs place/\pegs.length<=place)
   (fun m l cs ⟨place,pegs,kvs,o,el,ec,hL,hp,hC,hm⟩=>by
    subst el ec
    have room:=hL.room
    have ht:tOf (d2 ltD (dv 5) (d1 lenM (dv 4))) (lz rows one i c1 place o) (cz c1 kvs pegs)=some (.ok (decide ((place:Int) < pegs.length)) (cz c1 kvs pegs)):=by simp [tOf,d1,d2,dv,lenM,cmpD,M.bd,M.ret]
    by_cases hlt:place < pegs.length
    ·refine .inr ⟨by rw [ht];simp;omega,?_⟩
     obtain ⟨p,hpp⟩:∃ p,pegs[place]?=some p:=⟨_,List.getElem?_eq_getElem hlt⟩
     obtain ⟨d,S,hS1,hS2,hS3⟩:∃ d S,(mM .dct getM (dv 2) (aCons (d2 ixM (dv 4) (dv 5)) (aCons (dLst aNil) aNil))) (lz rows one i c1 place o) (cz c1 kvs pegs)=some (.ok d (cz c1 kvs pegs))/\(∀ kvs' pegs',∃ chk,srcOf d (cz c1 kvs pegs)=some (.ok ⟨S,chk⟩ (cz c1 kvs pegs))/\(chk (cz c1 kvs' pegs')))/\S=(both rows).filter (frm p):=by
      have hk':(cz c1 kvs pegs)[i]?=some (.dct kv):=by rw [List.getElem?_append_left hi];exact hk
      have ixp:atI (pegs.map D.str) (place:Int)=some (.str p):=by
       rw [atI_in (by omega) (by simpa using hlt)]
       simp [hpp]
      have ar:(aCons (d2 ixM (dv 4) (dv 5)) (aCons (dLst aNil) aNil)) (lz rows one i c1 place o) (cz c1 kvs pegs)=some (.ok [.str p,.lst []] (cz c1 kvs pegs)):=by simp [d2,dv,dLst,aNil,aCons,ixM,oM,M.bd,M.ret,ixp]
      have e0:∀ d,(valD kv (.inr p)).getD (.lst [])=d->(mM .dct getM (dv 2) (aCons (d2 ixM (dv 4) (dv 5)) (aCons (dLst aNil) aNil))) (lz rows one i c1 place o) (cz c1 kvs pegs)=some (.ok d (cz c1 kvs pegs)):=fun d hd=>by
       unfold mM
       rw [bd_ok (x:=.hnd i) (c':=cz c1 kvs pegs) rfl,if_pos (by simp only [tyM,hk']),bd_ok ar]
       simp only [getM,cellD,hk',keyD]
       rw [hd]
      cases z:valD kv (.inr p) with
      | none=>
       refine ⟨.lst [],[],e0 _ (by rw [z];rfl),fun kvs' pegs'=>⟨fun _=>True,rfl,trivial⟩,(hk3 p z).symm⟩
      | some d=>
       obtain ⟨j,rfl,hj,hc⟩:=hk1 p d z
       have hjl:=(List.getElem?_eq_some_iff.mp hc).1
       have hc2:∀ kvs' pegs',(cz c1 kvs' pegs')[j]?=some (.lst ((both rows).filter (frm p))):=fun kvs' pegs'=>by rw [List.getElem?_append_left hjl];exact hc
       refine ⟨.hnd j,_,e0 _ (by rw [z];rfl),fun kvs' pegs'=>⟨fun c'=>c'[j]?=some (.lst ((both rows).filter (frm p))),by simp only [srcOf,hc2],hc2 kvs' pegs'⟩,rfl⟩
     subst hS3
     obtain ⟨chk,src,_⟩:=hS2 kvs pegs
     have hchk:∀ kvs' pegs',chk (cz c1 kvs' pegs'):=fun kvs' pegs'=>by
      obtain ⟨chk',src',h'⟩:=hS2 kvs' pegs'
      rw [src] at src'
      cases src'
      exact h'
     obtain ⟨l2,c2,e2,ps,kvs2,o2,el2,ec2,hL2,⟨ns,hps⟩,hun,hall⟩:=forC_inv (chk:=chk) (g:=gdName 6) (body:=t_last_steps_b2)
      (fun rs l cs=>∃ (ps:List (List Nat)) (kvs2:List (DK×D)) (o2:Option D),l=lz rows one i c1 place o2/\cs=cz c1 kvs2 ps/\Lst rows one ps kvs2/\(∃ ns,ps=pegs++ns)/\ps.length+unseen rows ps<=pegs.length+unseen rows pegs/\(∀ x∈(both rows).filter (frm p),x∈rs\/∀ n q r,x=stepD n p q r->q∈ps)/\∀ x∈rs,x∈(both rows).filter (frm p))
      (fun x rs l cs ⟨ps,kvs2,o2,el,ec,hL2,⟨ns,hps⟩,hun,hall,hsub⟩=>by
       subst el ec
       have hx:=hsub x (by simp)
       rw [List.mem_filter] at hx
       obtain ⟨n,q,r,rfl⟩:=frm_is hx.2
       have hs:=both_step hr hx.1
       have room2:=hL2.room
       have kl:kvs2.length=ps.length:=by
        have:=congrArg List.length hL2.keys
        simpa using this
       have e3:=turn_last rows one i c1 place kvs2 ps hL2 n p q r (by omega) (by omega)
       by_cases hq:q∈ps
       ·rw [if_pos hq] at e3
        refine ⟨hchk _ _,_,rfl,_,_,.inl e3,ps,kvs2,_,rfl,rfl,hL2,⟨ns,hps⟩,hun,fun y hy=>?_,fun y hy=>hsub y (by simp [hy])⟩
        rcases hall y hy with h | h
        ·rcases List.mem_cons.mp h with h | h
         ·subst h
          exact .inr fun n' q' r' e=>by cases e;exact hq
         ·exact .inl h
        ·exact .inr h
       ·rw [if_neg hq] at e3
        have hpp2:ps[place]?=some p:=by rw [hps,List.getElem?_append_left hlt];exact hpp
        have hu:=unseen_lt hs.ends.2 hq
        refine ⟨hchk _ _,_,rfl,_,_,.inl e3,ps++[q],_,_,rfl,rfl,hL2.add hpp2 hs hq,⟨ns++[q],by rw [hps];simp⟩,by rw [List.length_append,List.length_singleton];omega,fun y hy=>?_,fun y hy=>hsub y (by simp [hy])⟩
        rcases hall y hy with h | h
        ·rcases List.mem_cons.mp h with h | h
         ·subst h
          exact .inr fun n' q' r' e=>by cases e;simp
         ·exact .inl h
        ·exact .inr fun n' q' r' e=>by simp [h n' q' r' e])
      (fun l cs ⟨ps,kvs2,o2,el,ec,_⟩=>by subst ec;exact hchk _ _)
      ((both rows).filter (frm p)) (lz rows one i c1 place o) (cz c1 kvs pegs) ⟨pegs,kvs,o,rfl,rfl,hL,⟨[],by simp⟩,Nat.le_refl _,fun x hx=>.inl hx,fun x hx=>hx⟩
     subst el2 ec2
     have hge:pegs.length<=ps.length:=by rw [hps];simp
     have hdec:ps.length+unseen rows ps - (place+1) < m:=by omega
     refine ⟨lz rows one i c1 ((place:Int)+1) o2,cz c1 kvs2 ps,ps.length+unseen rows ps - (place+1),.inl ?_,⟨place+1,ps,kvs2,o2,by simp,rfl,hL2,by rw [hps];simp;omega,?_,rfl⟩,hdec⟩
     ·unfold t_last_steps_b1
      rw [seq_ok (l':=lz rows one i c1 place o2) (c':=cz c1 kvs2 ps) (by
       unfold sForI
       rw [bd_ok (x:=⟨(both rows).filter (frm p),chk⟩) (c':=cz c1 kvs pegs) (by
        unfold iVal
        rw [bd_ok hS1]
        exact src)]
       exact e2)]
      simp [sAug,dc,M.bd,M.ret]
     ·intro k p' hk' hp' n q r hs
      by_cases ek:k=place
      ·subst ek
       have:p'=p:=by
        rw [hps,List.getElem?_append_left hlt,hpp] at hp'
        cases hp';rfl
       subst this
       have hm:=hall.1 (stepD n p' q r) (by rw [List.mem_filter];exact ⟨hs,by simp [frm_step]⟩)
       rcases hm with h | h
       ·cases h
       ·exact h n q r rfl
      ·have hk2:k < place:=by omega
       rw [hps,List.getElem?_append_left (by omega)] at hp'
       rw [hps]
       exact List.mem_append_left _ (hC k p' hk2 hp' n q r hs)
    ·exact .inl ⟨by rw [ht];simp;omega,place,pegs,kvs,o,rfl,rfl,hL,hp,hC,by omega⟩)
   fuel0 _ (lz rows one i c1 0 none) (cz c1 [(.inr one,.non)] [one]) ⟨0,[one],_,none,rfl,rfl,Lst.start rows one,Nat.zero_le _,fun k p hk=>absurd hk (Nat.not_lt_zero _),rfl⟩ (by
    have:=unseen_le rows [one]
    show _ < 100000
    simp only [List.length_singleton]
    omega)
  subst el ec
  refine ⟨.hnd c.length,c++[.dct kvs],⟨rows,one,pegs,kvs,rfl,rfl,rfl,hL,fun k p hk=>hC k p (by omega)⟩,?_⟩
  have s1:startD N_last_steps [.lst rows,.str one]=[some (.lst rows),some (.str one),none,none,none,none,none]:=rfl
  rw [s1]
  unfold t_last_steps
  rw [seq_ok (l':=[some (.lst rows),some (.str one),some (.hnd i),none,none,none,none]) (c':=c1) (by simp [sSet,dv,aNil,aCons,dCall,M.bd,M.ret,e1])]
  rw [seq_ok (l':=[some (.lst rows),some (.str one),some (.hnd i),some (.hnd c1.length),none,none,none]) (c':=c1++[.dct [(.inr one,.non)]]) (by simp [sSet,dv,dc,M.bd,M.ret,dDisp1,keyD])]
  rw [seq_ok (l':=[some (.lst rows),some (.str one),some (.hnd i),some (.hnd c1.length),some (.hnd (c1.length+1)),none,none]) (c':=cz c1 [(.inr one,.non)] [one]) (by simp [sSet,dv,aNil,aCons,M.bd,M.ret,dLstC])]
  rw [seq_ok (l':=lz rows one i c1 0 none) (c':=cz c1 [(.inr one,.non)] [one]) (by simp [sSet,dc,M.bd,M.ret])]
  rw [seq_ok (l':=lz rows one i c1 place o) (c':=cz c1 kvs pegs) ew]
  rw [show sRet (dv 3) (lz rows one i c1 place o) (cz c1 kvs pegs)=some (.ok (.ret (.hnd c1.length)) (cz c1 kvs pegs)) from rfl]
  have g:Grown c (cz c1 kvs pegs):=hv.grown.trans ⟨_,rfl⟩
  have:=DL.Fin.cell (c:=c) (i:=c1.length) (x:=.dct kvs) (c':=cz c1 kvs pegs) hv.grown.len (cz_dct c1 kvs pegs) (hL.bel c.length) (fun z=>by cases z) g.kept
  rw [g.take] at this
  exact this
 obtain ⟨d,c',⟨rows',one',pegs,kvs,e1,rfl,rfl,e2,e3⟩,e⟩:=call_F rfl h
 cases e1
 exact ⟨pegs,kvs,e2,e3,e⟩
abbrev N_way_along:List Str:=["rows","one","other","last","steps","peg"]
theorem sc_way_along:FnScope N_way_along ["rows","one","other"] (defScope s_way_along):=scs
noncomputable def t_way_along_b1:SD:=(sSeq (sExpr (mM .lst appendM (dv 4) (aCons (d2 dGetM (dv 3) (dv 5)) aNil)))
  (sSet 5 (d2 ixM (d2 dGetM (dv 3) (dv 5)) (dc (.int 1)))))
noncomputable def t_way_along:SD:=(sSeq (sSet 3 (dCall 2 g_last_steps [] (aCons (dv 0) (aCons (dv 1) aNil))))
  (sSeq (sIf (tOf (d2 (dInM true) (dv 2) (dv 3))) (sRet (dc .non)) sNil)
  (sSeq (sSet 4 (dLstC aNil))
  (sSeq (sSet 5 (dv 2))
  (sSeq (fun l=>whileN (tOf (d2 (eqM true) (dv 5) (dv 1))) t_way_along_b1 fuel0 l)
  (sSeq (sExpr (mM .lst revL (dv 4) aNil))
  (sRet (dv 4))))))))
def P_way_along (ds:List D) (d:D):Prop:=∃ (rows:List D) (one other:List Nat),ds=[.lst rows,.str one,.str other]/\((d=.non/\¬ Reach rows one other)\/∃ steps,d=.lst steps/\Walk rows other one [] steps/\steps.length<=1000)
noncomputable abbrev g_way_along:FD:=gR t_way_along N_way_along P_way_along
theorem r_way_along:RN 3 g_way_along t_way_along N_way_along:=run_R
theorem call_way_along (rows:List D) (one other:List Nat) (c:List Cell) (hr:rows.all okRow=true) (hn:rows.length<=400):∃ d,((d=.non/\¬ Reach rows one other)\/∃ steps,d=.lst steps/\Walk rows other one [] steps/\steps.length<=1000)/\gN 3 g_way_along [.lst rows,.str one,.str other] c=some (.ok d c):=by
 have h:∃ d,P_way_along [.lst rows,.str one,.str other] d/\Runs t_way_along N_way_along [.lst rows,.str one,.str other] c d:=by
  obtain ⟨pegs,kvs,hL,hC,e1⟩:=call_last_steps rows one c hr (by omega)
  have s1:startD N_way_along [.lst rows,.str one,.str other]=[some (.lst rows),some (.str one),some (.str other),none,none,none]:=rfl
  have hk:=hL.has other
  have room:=hL.room
  have t1:(sIf (tOf (d2 (dInM true) (dv 2) (dv 3))) (sRet (dc .non)) sNil) [some (.lst rows),some (.str one),some (.str other),some (.hnd c.length),none,none] (c++[.dct kvs])=if other∈pegs then some (.ok (.nx [some (.lst rows),some (.str one),some (.str other),some (.hnd c.length),none,none]) (c++[.dct kvs])) else some (.ok (.ret .non) (c++[.dct kvs])):=by
   by_cases ho:other∈pegs <;> simp [sIf,sRet,sNil,tOf,d2,dv,dc,M.bd,M.ret,dInM,cellD,keyD,hk,ho]
  by_cases ho:other∈pegs
  ·rw [if_pos ho] at t1
   let st (p:List Nat):L:=[some (.lst rows),some (.str one),some (.str other),some (.hnd c.length),some (.hnd (c.length+1)),some (.str p)]
   obtain ⟨k0,hk0,ek0⟩:=List.mem_iff_getElem.mp ho
   have hk0':pegs[k0]?=some other:=by rw [List.getElem?_eq_getElem hk0,ek0]
   have uniq:∀ (a b:Nat) x,pegs[a]?=some x->pegs[b]?=some x->a=b:=fun a b x ha hb=>by
    obtain ⟨ha1,ha2⟩:=List.getElem?_eq_some_iff.mp ha
    obtain ⟨hb1,hb2⟩:=List.getElem?_eq_some_iff.mp hb
    exact nodup_at hL.nodup ha1 hb1 (ha2.trans hb2.symm)
   obtain ⟨l',c',ew,peg,acc,el,ec,hw,hal,hok,hone⟩:=while_inv2 (p:=tOf (d2 (eqM true) (dv 5) (dv 1))) (sb:=t_way_along_b1)
    (fun m l cs=>∃ (peg:List Nat) (acc:List D),l=st peg/\cs=c++[.dct kvs,.lst acc]/\pegs[m]?=some peg/\(∀ gone,(∀ g∈gone,∃ j:Nat,j < m/\pegs[j]?=some g)->Walk rows other peg gone acc.reverse)/\acc.length+m<=k0/\acc.all okRow=true)
    (fun l cs=>∃ (peg:List Nat) (acc:List D),l=st peg/\cs=c++[.dct kvs,.lst acc]/\Walk rows other peg [] acc.reverse/\acc.length<=k0/\acc.all okRow=true/\peg=one)
    (fun m l cs ⟨peg,acc,el,ec,hm,hw,hl,hok⟩=>by
     subst el ec
     by_cases e:peg=one
     ·subst e
      exact .inl ⟨by simp [st,tOf,d2,dv,eqM,viewD,M.bd,M.ret,shal,eqD],peg,acc,rfl,rfl,hw [] (fun g hg=>by cases hg),by omega,hok,rfl⟩
     ·have m0:0 < m:=Nat.pos_of_ne_zero fun z=>e (by rw [z,hL.first] at hm;cases hm;rfl)
      obtain ⟨n,q,r,j,hj,hq,hv,hs⟩:=hL.val m peg hm m0
      refine .inr ⟨by simp [st,tOf,d2,dv,eqM,viewD,M.bd,M.ret,shal,eqD,e],st q,c++[.dct kvs,.lst (acc++[stepD n q peg r])],j,.inl ?_,⟨q,_,rfl,rfl,hq,fun gone hg=>?_,by simp;omega,by rw [List.all_append,hok];rfl⟩,hj⟩
      ·have ix1:atI [D.int n,D.str q,D.str peg,D.int r] 1=some (D.str q):=rfl
       have hl2:acc.length < 1000000:=by omega
       unfold t_way_along_b1
       rw [seq_ok (l':=st peg) (c':=c++[.dct kvs,.lst (acc++[stepD n q peg r])]) (by simp [st,sExpr,d2,dv,aNil,aCons,tyM,mM,appendM,cellL,M.bd,M.ret,dGetM,cellD,keyD,hv,hl2])]
       simp [st,sSet,d2,dv,dc,ixM,oM,M.bd,M.ret,dGetM,cellD,keyD,hv,ix1]
      ·rw [List.reverse_append]
       refine .cons hs (fun hm'=>?_) (hw _ fun g hg'=>?_)
       ·obtain ⟨j',hj',e'⟩:=hg q hm'
        have:=uniq j' j q e' hq
        omega
       ·rcases List.mem_append.mp hg' with h' | h'
        ·obtain ⟨j',hj',e'⟩:=hg g h'
         exact ⟨j',by omega,e'⟩
        ·simp only [List.mem_singleton] at h'
         subst h'
         exact ⟨j,hj,hq⟩)
    fuel0 k0 (st other) (c++[.dct kvs,.lst []]) ⟨other,[],rfl,rfl,hk0',fun gone hg=>.nil fun hm'=>by
     obtain ⟨j',hj',e'⟩:=hg other hm'
     have:=uniq j' k0 other e' hk0'
     omega,by simp,rfl⟩ (by show k0 < 100000;omega)
   subst el ec hone
   refine ⟨.lst acc.reverse,⟨rows,peg,other,rfl,.inr ⟨_,rfl,hw,by rw [List.length_reverse];omega⟩⟩,.lst (c.length+1) [.dct kvs,.lst acc.reverse] ?_ (by omega) (by simp) (rows_bel _ (by rw [List.all_reverse];exact hok))⟩
   rw [s1]
   unfold t_way_along
   rw [seq_ok (l':=[some (.lst rows),some (.str peg),some (.str other),some (.hnd c.length),none,none]) (c':=c++[.dct kvs]) (by simp [sSet,dv,aNil,aCons,dCall,M.bd,M.ret,e1])]
   rw [seq_ok t1]
   rw [seq_ok (l':=[some (.lst rows),some (.str peg),some (.str other),some (.hnd c.length),some (.hnd (c.length+1)),none]) (c':=c++[.dct kvs,.lst []]) (by simp [sSet,aNil,M.bd,M.ret,dLstC])]
   rw [seq_ok (l':=st other) (c':=c++[.dct kvs,.lst []]) (by simp [st,sSet,dv,M.bd,M.ret])]
   rw [seq_ok (l':=st peg) (c':=c++[.dct kvs,.lst acc]) ew]
   rw [seq_ok (l':=st peg) (c':=c++[.dct kvs,.lst acc.reverse]) (by simp [st,sExpr,dv,aNil,tyM,mM,cellL,M.bd,M.ret,revL])]
   rfl
  ·rw [if_neg ho] at t1
   refine ⟨.non,⟨rows,one,other,rfl,.inl ⟨rfl,fun hr'=>ho ((hL.all hC other).mpr hr')⟩⟩,.val [.dct kvs] ?_ rfl⟩
   rw [s1]
   unfold t_way_along
   rw [seq_ok (l':=[some (.lst rows),some (.str one),some (.str other),some (.hnd c.length),none,none]) (c':=c++[.dct kvs]) (by simp [sSet,dv,aNil,aCons,dCall,M.bd,M.ret,e1])]
   rw [seq_ret t1]
 obtain ⟨d,⟨rows',one',other',e1,e2⟩,e⟩:=call_R rfl h
 cases e1
 exact ⟨d,e2,e⟩
def HR (hh:List Nat->Int) (rows:List D):Prop:=∀ x∈rows,∃ n p q,x=stepD n p q (hh q - hh p)
theorem HR.ok {hh:List Nat->Int} {rows:List D} (h:HR hh rows):rows.all okRow=true:=List.all_eq_true.mpr fun x hx=>by
 obtain ⟨n,p,q,rfl⟩:=h x hx
 rfl
theorem step_rise {hh:List Nat->Int} {rows:List D} (h:HR hh rows) {n r:Int} {p q:List Nat} (s:IsStep rows n p q r):r=hh q - hh p:=by
 rcases s with s | s
 ·obtain ⟨n',p',q',e⟩:=h _ s
  simp only [D.tup.injEq,List.cons.injEq,D.int.injEq,D.str.injEq,and_true] at e
  obtain ⟨_,rfl,rfl,e⟩:=e
  exact e
 ·obtain ⟨n',p',q',e⟩:=h _ s
  simp only [D.tup.injEq,List.cons.injEq,D.int.injEq,D.str.injEq,and_true] at e
  obtain ⟨_,rfl,rfl,e⟩:=e
  omega
theorem walk_rise {hh:List Nat->Int} {rows:List D} (h:HR hh rows) {other one:List Nat} {gone:List (List Nat)} {steps:List D} (w:Walk rows other one gone steps):steps.all okRow=true/\sumS steps=hh other - hh one:=by
 induction w with
 | nil _=>exact ⟨rfl,by simp [sumS]⟩
 | @cons n r p q gone xs s _ _ ih=>
  refine ⟨by rw [List.all_cons,ih.1];rfl,?_⟩
  have:=step_rise h s
  have e:sumS (stepD n p q r::xs)=r+sumS xs:=by simp [sumS,riseS]
  rw [e,ih.2]
  omega
theorem reach_trans {rows:List D} {a b x:List Nat} (h:Reach rows a b) (g:Reach rows b x):Reach rows a x:=by
 induction g with
 | refl=>exact h
 | fwd _ e ih=>exact ih.fwd e
 | bwd _ e ih=>exact ih.bwd e
theorem reach_symm {rows:List D} {a b:List Nat} (h:Reach rows a b):Reach rows b a:=by
 induction h with
 | refl=>exact .refl
 | fwd _ e ih=>exact reach_trans (.bwd .refl e) ih
 | bwd _ e ih=>exact reach_trans (.fwd .refl e) ih
open Classical in
theorem hr_new {hh:List Nat->Int} {rows:List D} (h:HR hh rows) {n r:Int} {p q:List Nat} (hn:¬ Reach rows p q):∃ kk,HR kk (rows++[stepD n p q r]):=by
 refine ⟨fun x=>if Reach rows q x then hh x+(hh p+r - hh q) else hh x,fun x hx=>?_⟩
 rcases List.mem_append.mp hx with hx | hx
 ·obtain ⟨m,u,v,rfl⟩:=h x hx
  have ee:Edge rows u v:=⟨m,_,hx⟩
  refine ⟨m,u,v,?_⟩
  have e:(Reach rows q u)↔Reach rows q v:=⟨fun g=>g.fwd ee,fun g=>g.bwd ee⟩
  by_cases z:Reach rows q u
  ·simp only [if_pos z,if_pos (e.mp z)]
   rw [show hh v+(hh p+r - hh q) - (hh u+(hh p+r - hh q))=hh v - hh u by omega]
  ·simp only [if_neg z,if_neg (fun g=>z (e.mpr g))]
 ·rw [List.mem_singleton.mp hx]
  refine ⟨n,p,q,?_⟩
  simp only [if_pos (Reach.refl (rows:=rows) (one:=q)),if_neg (fun g=>hn (reach_symm g))]
  rw [show hh q+(hh p+r - hh q) - hh p=r by omega]
theorem hr_app {hh:List Nat->Int} {rows:List D} (h:HR hh rows) {n r:Int} {p q:List Nat} (e:r=hh q - hh p):HR hh (rows++[stepD n p q r]):=fun x hx=>by
 rcases List.mem_append.mp hx with hx | hx
 ·exact h x hx
 ·rw [List.mem_singleton.mp hx];exact ⟨n,p,q,by rw [e]⟩
theorem comp_ok {ti:ID} {idx:List Nat} {g:GD} {p:TD} {te:ED} {l:L} {c c1:List Cell} {S:Src} (h:ti l c=some (.ok S c1)):dComp ti idx g p te l c=compC S.chk g p te S.xs [] (l0 idx l) c1:=by
 unfold dComp
 rw [bd_ok h]
def numR:D->Int
 | .tup (.int n::_)=>n
 | _=>0
def kvR (rows:List D):List (DK×D):=rows.map fun r=>(.inl (numR r),r)
theorem kvR_vals (rows:List D):(kvR rows).map (·.2)=rows:=by simp [kvR,Function.comp_def]
theorem kvR_inj {a b:List D} (h:kvR a=kvR b):a=b:=by
 have:=congrArg (List.map (·.2)) h
 rwa [kvR_vals,kvR_vals] at this
theorem kvR_len (rows:List D):(kvR rows).length=rows.length:=by simp [kvR]
theorem kvR_val (i:Int):∀ rows:List D,valD (kvR rows) (.inl i)=rows.find? fun r=>decide (numR r=i)
 | []=>rfl
 | r::rows=>by
  show valD ((.inl (numR r),r)::kvR rows) (.inl i)=_
  rw [valD_cons,List.find?_cons,kvR_val i rows]
  by_cases e:numR r=i
  ·simp [e]
  ·have e':¬ (Sum.inl (numR r):DK)=.inl i:=fun z=>e (by cases z;rfl)
   simp [e]
theorem kvR_drop (i:Int):∀ rows:List D,dropDK (kvR rows) (.inl i)=kvR (rows.filter fun r=>decide (numR r≠i))
 | []=>rfl
 | r::rows=>by
  have ih:=kvR_drop i rows
  unfold dropDK at ih ⊢
  show List.filter _ ((.inl (numR r),r)::kvR rows)=_
  by_cases e:numR r=i
  ·rw [List.filter_cons_of_neg (by simp [e]),List.filter_cons_of_neg (by simp [e]),ih]
  ·have e':¬ (Sum.inl (numR r):DK)=.inl i:=fun z=>e (by cases z;rfl)
   rw [List.filter_cons_of_pos (by simpa using e'),List.filter_cons_of_pos (by simpa using e),ih]
   rfl
theorem kvR_put {rows:List D} {row:D} {n:Int} (hn:numR row=n) (hk:∀ r∈rows,numR r≠n):putDK (kvR rows) (.inl n) row=kvR (rows++[row]):=by
 have hv:valD (kvR rows) (.inl n)=none:=by
  rw [kvR_val,List.find?_eq_none]
  intro r hr
  simpa using hk r hr
 rw [putDK_new _ hv]
 simp [kvR,hn]
abbrev bookF (m k:Int) (j:Nat):List (Str×D):=[("most",.int m),("taken",.int k),("rows",.hnd j)]
structure BookAt (t:Adr) (cs:List Cell) (b j:Nat) (m k:Int) (rows:List D):Prop where
 ob:cs[b]?=some (.ins t.c_Book (bookF m k j))
 dc:cs[j]?=some (.dct (kvR rows))
theorem BookAt.ne {cs:List Cell} {b j:Nat} {m k:Int} {rows:List D} (h:BookAt t cs b j m k rows):b≠j:=fun e=>by
 have h1:=h.ob
 rw [e,h.dc] at h1;cases h1
theorem BookAt.uniq {cs:List Cell} {b j j':Nat} {m k m' k':Int} {rows rows':List D} (h:BookAt t cs b j m k rows) (h':BookAt t cs b j' m' k' rows'):j=j'/\m=m'/\k=k'/\rows=rows':=by
 have e:=h.ob.symm.trans h'.ob
 simp only [Option.some.injEq,Cell.ins.injEq,List.cons.injEq,Prod.mk.injEq,D.int.injEq,D.hnd.injEq,true_and,and_true] at e
 obtain ⟨rfl,rfl,rfl⟩:=e
 have e2:=h.dc.symm.trans h'.dc
 simp only [Option.some.injEq,Cell.dct.injEq] at e2
 exact ⟨rfl,rfl,rfl,kvR_inj e2⟩
theorem BookAt.app {cs ex:List Cell} {b j:Nat} {m k:Int} {rows:List D} (h:BookAt t cs b j m k rows):BookAt t (cs++ex) b j m k rows:=
 ⟨by rw [List.getElem?_append_left (List.getElem?_eq_some_iff.mp h.ob).1];exact h.ob,by rw [List.getElem?_append_left (List.getElem?_eq_some_iff.mp h.dc).1];exact h.dc⟩
theorem BookAt.keep {cs cs':List Cell} {b j:Nat} {m k:Int} {rows:List D} (h:BookAt t cs b j m k rows) (hb:cs'[b]?=cs[b]?) (hj:cs'[j]?=cs[j]?):BookAt t cs' b j m k rows:=⟨by rw [hb];exact h.ob,by rw [hj];exact h.dc⟩
section
variable {cs:List Cell} {b j:Nat} {m k:Int} {rows:List D} {l:L}
theorem bk_most (h:BookAt t cs b j m k rows) (hl:l[0]?=some (some (.hnd b))):d1 (fldM t.c_Book "most") (dv 0) l cs=some (.ok (.int m) cs):=by
 refine (d1_ok (x:=.hnd b) (c1:=cs) (by unfold dv;rw [hl];rfl)).trans ?_
 unfold fldM
 rw [cellI_at h.ob]
 rfl
theorem bk_taken (h:BookAt t cs b j m k rows) (hl:l[0]?=some (some (.hnd b))):d1 (fldM t.c_Book "taken") (dv 0) l cs=some (.ok (.int k) cs):=by
 refine (d1_ok (x:=.hnd b) (c1:=cs) (by unfold dv;rw [hl];rfl)).trans ?_
 unfold fldM
 rw [cellI_at h.ob]
 rfl
theorem bk_rows (h:BookAt t cs b j m k rows) (hl:l[0]?=some (some (.hnd b))):d1 (fldM t.c_Book "rows") (dv 0) l cs=some (.ok (.hnd j) cs):=by
 refine (d1_ok (x:=.hnd b) (c1:=cs) (by unfold dv;rw [hl];rfl)).trans ?_
 unfold fldM
 rw [cellI_at h.ob]
 rfl
theorem bk_cell (h:BookAt t cs b j m k rows):cellD (.hnd j) cs=some (j,kvR rows):=by
 unfold cellD
 simp only [h.dc]
end
abbrev N_Book_kept:List Str:=["self"]
theorem sc_Book_kept:FnScope N_Book_kept ["self"] (defScope s_Book_kept):=scs
noncomputable def t_Book_kept (K:Frag) (t:Adr):SD:=(sRet (d1 listV (d1 (fldM t.c_Book "rows") (dv 0))))
def P_Book_kept (t:Adr) (ds:List D) (c:List Cell) (d:D) (c':List Cell):Prop:=c'=c/\∃ b j m k rows,ds=[.hnd b]/\BookAt t c b j m k rows/\d=.lst rows
noncomputable abbrev g_Book_kept (K:Frag) (t:Adr):FD:=gF (t_Book_kept K t) N_Book_kept (P_Book_kept t)
theorem r_Book_kept:RN 1 (g_Book_kept K t) (t_Book_kept K t) N_Book_kept:=run_F
theorem call_kept {c:List Cell} {b j:Nat} {m k:Int} {rows:List D} (h:BookAt t c b j m k rows) (hr:rows.all okRow=true):gN 1 (g_Book_kept K t) [.hnd b] c=some (.ok (.lst rows) c):=by
 have hx:∃ d c',P_Book_kept t [.hnd b] c d c'/\Fin c (t_Book_kept K t (startD N_Book_kept [.hnd b]) c) (some (.ok d c')):=by
  refine ⟨.lst rows,c,⟨rfl,b,j,m,k,rows,rfl,h,rfl⟩,?_⟩
  have e:t_Book_kept K t (startD N_Book_kept [.hnd b]) c=some (.ok (.ret (.lst rows)) c):=by
   unfold t_Book_kept
   exact ret_ok ((d1_ok (bk_rows h rfl)).trans (by unfold listV;rw [bk_cell h];simp only [kvR_vals]))
  rw [e]
  have:=DL.Fin.val (c:=c) (c':=c) (d:=.lst rows) (by show D.bels c.length rows=true;exact rows_bel _ hr) (Kept.refl c)
  rwa [List.take_length] at this
 obtain ⟨d,c',⟨rfl,b',j',m',k',rows',e1,h',rfl⟩,e⟩:=call_F rfl hx
 simp only [List.cons.injEq,D.hnd.injEq,and_true] at e1
 subst e1
 obtain ⟨_,_,_,rfl⟩:=h.uniq h'
 exact e
theorem pcall_sight (d:D) (c:List Cell) (h:okT d c=true):gN 1 g_is_sighting [d] c=some (.ok (.bl (sightD d)) c):=gN_gV rfl (by simp [f_is_sighting,h])
abbrev N_Book_row_at:List Str:=["self","number"]
theorem sc_Book_row_at:FnScope N_Book_row_at ["self","number"] (defScope s_Book_row_at):=scs
noncomputable def t_Book_row_at (K:Frag) (t:Adr):SD:=(sSeq (sIf (dOrT (dNotT (dTru (dCall 1 g_is_whole [] (aCons (dv 1) aNil)))) (tOf (d2 (dInM true) (dv 1) (d1 (fldM t.c_Book "rows") (dv 0))))) sStuck sNil)
  (sRet (d2 dGetM (d1 (fldM t.c_Book "rows") (dv 0)) (dv 1))))
noncomputable abbrev g_Book_row_at (K:Frag) (t:Adr):FD:=gW (t_Book_row_at K t) N_Book_row_at
theorem r_Book_row_at:RN 2 (g_Book_row_at K t) (t_Book_row_at K t) N_Book_row_at:=run_W
theorem call_row_at {c:List Cell} {b j:Nat} {m k i:Int} {rows:List D} {row:D} (h:BookAt t c b j m k rows) (zf:(rows.find? fun r=>decide (numR r=i))=some row):gN 2 (g_Book_row_at K t) [.hnd b,.int i] c=some (.ok row c):=by
 refine call_W rfl ?_
 have s1:startD N_Book_row_at [.hnd b,.int i]=[some (.hnd b),some (.int i)]:=rfl
 have w1:dTru (dCall 1 g_is_whole [] (aCons (dv 1) aNil)) [some (.hnd b),some (.int i)] c=some (.ok true c):=by
  unfold dTru
  rw [bd_ok ((dCall_ok (n:=1) (g:=g_is_whole) (dds:=[]) (aCons_ok (x:=.int i) (c1:=c) rfl aNil_ok)).trans (pcall_whole (.int i) c rfl))]
  rfl
 have orE:(dOrT (dNotT (dTru (dCall 1 g_is_whole [] (aCons (dv 1) aNil)))) (tOf (d2 (dInM true) (dv 1) (d1 (fldM t.c_Book "rows") (dv 0))))) [some (.hnd b),some (.int i)] c=some (.ok false c):=by
  unfold dOrT dNotT
  rw [bd_ok (x:=false) (c':=c) (by rw [bd_ok w1];rfl)]
  simp only [Bool.false_eq_true,if_false]
  unfold tOf
  rw [bd_ok (x:=.bl false) (c':=c) ((d2_ok (x:=.int i) (c1:=c) rfl (bk_rows h rfl)).trans (by unfold dInM;rw [bk_cell h];simp only [keyD,kvR_val,zf];rfl))]
  rfl
 rw [s1]
 unfold t_Book_row_at
 rw [seq_ok (l':=[some (.hnd b),some (.int i)]) (c':=c) ((if_f orE).trans rfl)]
 exact ret_ok ((d2_ok (bk_rows h rfl) (y:=.int i) (c2:=c) rfl).trans (by unfold dGetM;rw [bk_cell h];simp only [keyD,kvR_val,zf]))
abbrev N_Book_drop:List Str:=["self","number","row"]
theorem sc_Book_drop:FnScope N_Book_drop ["self","number"] (defScope s_Book_drop):=scs
noncomputable def t_Book_drop (K:Frag) (t:Adr):SD:=(sSeq (sSet 2 (dMeth t.c_Book "row_at" 2 (g_Book_row_at K t) [] (dv 0) (aCons (dv 1) aNil)))
  (sSeq (sExpr (mM .dct dPopM (d1 (fldM t.c_Book "rows") (dv 0)) (aCons (dv 1) aNil)))
  (sRet (dSl slS (dv 2) (oSome (dc (.int 1))) oNone))))
def dropC (c:List Cell) (j:Nat) (rows:List D) (i:Int):List Cell:=c.set j (.dct (kvR (rows.filter fun r=>decide (numR r≠i))))
noncomputable abbrev g_Book_drop (K:Frag) (t:Adr):FD:=gW (t_Book_drop K t) N_Book_drop
theorem r_Book_drop:RN 2 (g_Book_drop K t) (t_Book_drop K t) N_Book_drop:=run_W
theorem call_drop {c:List Cell} {b j:Nat} {m k i n s:Int} {p q:List Nat} {rows:List D} (h:BookAt t c b j m k rows) (zf:(rows.find? fun r=>decide (numR r=i))=some (stepD n p q s)):
  gN 2 (g_Book_drop K t) [.hnd b,.int i] c=some (.ok (.tup [.str p,.str q,.int s]) (dropC c j rows i)):=by
 refine call_W rfl ?_
 have s1:startD N_Book_drop [.hnd b,.int i]=[some (.hnd b),some (.int i),none]:=rfl
 have e1:dMeth t.c_Book "row_at" 2 (g_Book_row_at K t) [] (dv 0) (aCons (dv 1) aNil) [some (.hnd b),some (.int i),none] c=some (.ok (.tup [.int n,.str p,.str q,.int s]) c):=(meth_ok (o:=.hnd b) (c1:=c) rfl (cellI_at h.ob) rfl (aCons_ok (x:=.int i) (c1:=c) rfl aNil_ok)).trans (call_row_at h zf)
 rw [s1]
 unfold t_Book_drop
 rw [seq_ok (l':=[some (.hnd b),some (.int i),some (.tup [.int n,.str p,.str q,.int s])]) (c':=c) (set_ok e1)]
 rw [seq_ok (l':=[some (.hnd b),some (.int i),some (.tup [.int n,.str p,.str q,.int s])]) (c':=dropC c j rows i) (expr_ok (x:=.tup [.int n,.str p,.str q,.int s]) ((mM_ok (bk_rows h rfl) (by unfold tyM;simp only [h.dc]) (aCons_ok (x:=.int i) (c1:=c) rfl aNil_ok)).trans (by
  unfold dPopM
  rw [bk_cell h]
  simp only [keyD,kvR_val,zf,kvR_drop]
  rfl)))]
 refine ret_ok ?_
 show slS (.tup [.int n,.str p,.str q,.int s]) (some 1) none (dropC c j rows i)=_
 simp only [slS,slM]
 rw [if_neg (by simp [HT.sIx])]
 rfl
def takeC (t:Adr) (c:List Cell) (b j:Nat) (m k:Int) (rows:List D) (x y z:D):List Cell:=(c.set b (.ins t.c_Book (bookF m (k+1) j))).set j (.dct (kvR (rows++[.tup [.int (k+1),x,y,z]])))
theorem takeC_book {c:List Cell} {b j:Nat} {m k:Int} {rows:List D} {x y z:D} (h:BookAt t c b j m k rows):BookAt t (takeC t c b j m k rows x y z) b j m (k+1) (rows++[.tup [.int (k+1),x,y,z]]):=by
 have hb:=(List.getElem?_eq_some_iff.mp h.ob).1
 have hj:=(List.getElem?_eq_some_iff.mp h.dc).1
 refine ⟨?_,?_⟩
 ·unfold takeC
  rw [List.getElem?_set_ne h.ne.symm,List.getElem?_set_self hb]
 ·unfold takeC
  rw [List.getElem?_set_self (by rw [List.length_set];exact hj)]
abbrev N_Book_take:List Str:=["self","one","other","rise","steps"]
theorem sc_Book_take:FnScope N_Book_take ["self","one","other","rise"] (defScope s_Book_take):=scs
noncomputable def t_Book_take (K:Frag) (t:Adr):SD:=(sSeq (sIf (dNotT (dTru (dCall 1 g_is_sighting [] (aCons (dTup (aCons (dv 1) (aCons (dv 2) (aCons (dv 3) aNil)))) aNil)))) sStuck sNil)
  (sSeq (sIf (tOf (d2 geD (d1 lenM (d1 (fldM t.c_Book "rows") (dv 0))) (d1 (fldM t.c_Book "most") (dv 0)))) (sRaise t.x_Full (aCons (dc (.str [116,104,101,32,98,111,111,107,32,107,101,101,112,115,32,97,115,32,109,97,110,121,32,115,105,103,104,116,105,110,103,115,32,97,115,32,105,116,32,109,97,121])) aNil)) sNil)
  (sSeq (sSet 4 (dCall 3 g_way_along [] (aCons (dMeth t.c_Book "kept" 1 (g_Book_kept K t) [] (dv 0) aNil) (aCons (dv 1) (aCons (dv 2) aNil)))))
  (sSeq (sIf (dAndT (tOf (d1 (isNonM true) (dv 4))) (tOf (d2 (eqM true) (dCall 1 g_total [] (aCons (dv 4) aNil)) (dv 3)))) sStuck sNil)
  (sSeq (augF t.c_Book "taken" (fun i j=>i+j) (dv 0) (dc (.int 1)))
  (sSeq (sDPutD (d1 (fldM t.c_Book "rows") (dv 0)) (d1 (fldM t.c_Book "taken") (dv 0)) (dTup (aCons (d1 (fldM t.c_Book "taken") (dv 0)) (aCons (dv 1) (aCons (dv 2) (aCons (dv 3) aNil))))))
  (sRet (d1 (fldM t.c_Book "taken") (dv 0)))))))))
noncomputable abbrev g_Book_take (K:Frag) (t:Adr):FD:=gWX (t_Book_take K t) N_Book_take
theorem r_Book_take:∀ ds c r,ds.length=4->g_Book_take K t ds c=some r->Fin2 c (t_Book_take K t (startD N_Book_take ds) c) (some r):=run_WX
theorem call_take {c:List Cell} {b j:Nat} {m k:Int} {rows:List D} (h:BookAt t c b j m k rows) (hr:rows.all okRow=true) (hk:∀ r∈rows,numR r<=k) (hn:rows.length<=400) (p q:List Nat) (r:Int) (hs:sightD (.tup [.str p,.str q,.int r])=true) (hT:okT (.tup [.str p,.str q,.int r]) c=true)
  (hf:¬ m<=(rows.length:Int)) (hw:∀ steps,Walk rows q p [] steps->steps.all okRow=true/\sumS steps=r):
  gN 4 (g_Book_take K t) [.hnd b,.str p,.str q,.int r] c=some (.ok (.int (k+1)) (takeC t c b j m k rows (.str p) (.str q) (.int r))):=by
 let st (o:Option D):L:=[some (.hnd b),some (.str p),some (.str q),some (.int r),o]
 have s1:startD N_Book_take [.hnd b,.str p,.str q,.int r]=st none:=rfl
 have t1:dNotT (dTru (dCall 1 g_is_sighting [] (aCons (dTup (aCons (dv 1) (aCons (dv 2) (aCons (dv 3) aNil)))) aNil))) (st none) c=some (.ok false c):=by
  have e0:=(dCall_ok (n:=1) (g:=g_is_sighting) (dds:=[]) (aCons_ok (tup_ok (l:=st none) (c:=c) (aCons_ok (ta:=dv 1) (x:=.str p) (c1:=c) rfl (aCons_ok (ta:=dv 2) (x:=.str q) (c1:=c) rfl (aCons_ok (ta:=dv 3) (x:=.int r) (c1:=c) rfl aNil_ok))) (by show 3<=1000;omega)) aNil_ok)).trans (pcall_sight _ c hT)
  unfold dNotT dTru
  rw [bd_ok (x:=true) (c':=c) (by rw [bd_ok e0,hs];rfl)]
  rfl
 have t2:tOf (d2 geD (d1 lenM (d1 (fldM t.c_Book "rows") (dv 0))) (d1 (fldM t.c_Book "most") (dv 0))) (st none) c=some (.ok (decide (m<=(rows.length:Int))) c):=by
  unfold tOf
  rw [bd_ok (x:=.bl (decide (m<=(rows.length:Int)))) (c':=c) ((d2_ok (x:=.int rows.length) (c1:=c) ((d1_ok (bk_rows h rfl)).trans (by unfold lenM;simp only [h.dc,kvR_len])) (bk_most h rfl)).trans rfl)]
  rfl
 rw [decide_eq_false hf] at t2
 obtain ⟨d,hd,ew⟩:=call_way_along rows p q c hr hn
 have ek:=(meth_ok (m:="kept") (n:=1) (g:=g_Book_kept K t) (dds:=[]) (l:=st none) (t:=aNil) (to:=dv 0) (o:=.hnd b) (c1:=c) rfl (cellI_at h.ob) rfl aNil_ok).trans (call_kept (K:=K) h hr)
 have e3:=set_ok (i:=4) ((dCall_ok (aCons_ok ek (aCons_ok (ta:=dv 1) (x:=.str p) (c1:=c) rfl (aCons_ok (ta:=dv 2) (x:=.str q) (c1:=c) rfl aNil_ok)))).trans ew)
 have tot:∀ steps,d=.lst steps->Walk rows q p [] steps->steps.length<=1000->tOf (d2 (eqM true) (dCall 1 g_total [] (aCons (dv 4) aNil)) (dv 3)) (st (some d)) c=some (.ok (decide (sumS steps≠r)) c):=by
  intro steps e w hl
  subst e
  have et:=(dCall_ok (n:=1) (g:=g_total) (dds:=[]) (l:=st (some (.lst steps))) (c:=c) (aCons_ok (ta:=dv 4) (x:=.lst steps) (c1:=c) rfl aNil_ok)).trans (call_total (.lst steps) steps c rfl (hw steps w).1 hl)
  unfold tOf
  rw [bd_ok (x:=.bl (decide (sumS steps≠r))) (c':=c) ((d2_ok et (y:=.int r) (c2:=c) rfl).trans (by simp [eqM,viewD,shal,eqD];exact Bool.eq_iff_iff.mpr (by simp)))]
  rfl
 have done:dAndT (tOf (d1 (isNonM true) (dv 4))) (tOf (d2 (eqM true) (dCall 1 g_total [] (aCons (dv 4) aNil)) (dv 3))) (st (some d)) c=some (.ok false c)->gN 4 (g_Book_take K t) [.hnd b,.str p,.str q,.int r] c=some (.ok (.int (k+1)) (takeC t c b j m k rows (.str p) (.str q) (.int r))):=by
  intro t3
  refine call_WX rfl ?_
  rw [s1]
  unfold t_Book_take
  rw [seq_ok (l':=st none) (c':=c) ((if_f t1).trans rfl)]
  rw [seq_ok (l':=st none) (c':=c) ((if_f t2).trans rfl)]
  rw [seq_ok (l':=st (some d)) (c':=c) e3]
  rw [seq_ok (l':=st (some d)) (c':=c) ((if_f t3).trans rfl)]
  have hb:=(List.getElem?_eq_some_iff.mp h.ob).1
  have ea:augF t.c_Book "taken" (fun i j=>i+j) (dv 0) (dc (.int 1)) (st (some d)) c=some (.ok (.nx (st (some d))) (c.set b (.ins t.c_Book (bookF m (k+1) j)))):=by
   unfold augF
   rw [bd_ok (x:=.hnd b) (c':=c) rfl]
   rw [cellI_at h.ob]
   simp only
   rw [show (bookF m k j).lookup ("taken":Str)=some (.int k) from rfl]
   simp only
   rw [bd_ok (x:=.int 1) (c':=c) rfl]
   rw [cellI_at h.ob]
   rfl
  rw [seq_ok ea]
  have h2:BookAt t (c.set b (.ins t.c_Book (bookF m (k+1) j))) b j m (k+1) rows:=⟨List.getElem?_set_self hb,by rw [List.getElem?_set_ne h.ne];exact h.dc⟩
  have ep:sDPutD (d1 (fldM t.c_Book "rows") (dv 0)) (d1 (fldM t.c_Book "taken") (dv 0)) (dTup (aCons (d1 (fldM t.c_Book "taken") (dv 0)) (aCons (dv 1) (aCons (dv 2) (aCons (dv 3) aNil))))) (st (some d)) (c.set b (.ins t.c_Book (bookF m (k+1) j)))=some (.ok (.nx (st (some d))) (takeC t c b j m k rows (.str p) (.str q) (.int r))):=by
   unfold sDPutD
   rw [bd_ok (tup_ok (aCons_ok (bk_taken h2 (l:=st (some d)) rfl) (aCons_ok (ta:=dv 1) (x:=.str p) (c1:=c.set b (.ins t.c_Book (bookF m (k+1) j))) rfl (aCons_ok (ta:=dv 2) (x:=.str q) (c1:=c.set b (.ins t.c_Book (bookF m (k+1) j))) rfl (aCons_ok (ta:=dv 3) (x:=.int r) (c1:=c.set b (.ins t.c_Book (bookF m (k+1) j))) rfl aNil_ok)))) (by show 4<=1000;omega))]
   rw [bd_ok (bk_rows h2 rfl),bd_ok (bk_taken h2 rfl)]
   unfold putM
   rw [bk_cell h2]
   simp only [keyD]
   rw [if_pos (by rw [kvR_len];omega),kvR_put (n:=k+1) rfl (fun r' hr' e=>by have:=hk r' hr';omega)]
   rfl
  rw [seq_ok ep]
  exact ret_ok (bk_taken (takeC_book (x:=.str p) (y:=.str q) (z:=.int r) h) (l:=st (some d)) rfl)
 rcases hd with ⟨rfl,hnr⟩ | ⟨steps,rfl,w,hl⟩
 ·exact done rfl
 ·have tt:=tot steps rfl w hl
  have hsum:=(hw steps w).2
  refine done ?_
  unfold dAndT
  rw [bd_ok (x:=true) (c':=c) rfl]
  simp only [if_true]
  rw [tt];simp [hsum]
theorem call_take_full {c:List Cell} {b j:Nat} {m k:Int} {rows:List D} (h:BookAt t c b j m k rows) (p q:List Nat) (r:Int) (hs:sightD (.tup [.str p,.str q,.int r])=true) (hT:okT (.tup [.str p,.str q,.int r]) c=true) (hf:m<=(rows.length:Int)):
  gN 4 (g_Book_take K t) [.hnd b,.str p,.str q,.int r] c=some (.exc ⟨.ref t.x_Full,[]⟩ c):=by
 let st (o:Option D):L:=[some (.hnd b),some (.str p),some (.str q),some (.int r),o]
 have s1:startD N_Book_take [.hnd b,.str p,.str q,.int r]=st none:=rfl
 have t1:EvT (dNotT (dTru (dCall 1 g_is_sighting [] (aCons (dTup (aCons (dv 1) (aCons (dv 2) (aCons (dv 3) aNil)))) aNil)))) (st none) c false:=by
  have e:=et_tru (evc (eva (evt (eva (ta:=dv 1) (l:=st none) (c:=c) (x:=.str p) rfl (eva (ta:=dv 2) (x:=.str q) rfl (eva (ta:=dv 3) (x:=.int r) rfl evn)))) evn) (pcall_sight _ c hT))
  rw [hs] at e
  exact et_not e
 have t2:tOf (d2 geD (d1 lenM (d1 (fldM t.c_Book "rows") (dv 0))) (d1 (fldM t.c_Book "most") (dv 0))) (st none) c=some (.ok (decide (m<=(rows.length:Int))) c):=by
  unfold tOf
  rw [bd_ok (x:=.bl (decide (m<=(rows.length:Int)))) (c':=c) ((d2_ok (x:=.int rows.length) (c1:=c) ((d1_ok (bk_rows h rfl)).trans (by unfold lenM;simp only [h.dc,kvR_len])) (bk_most h rfl)).trans rfl)]
  rfl
 rw [decide_eq_true hf] at t2
 refine call_WXx rfl ?_
 rw [s1]
 unfold t_Book_take
 rw [seq_ok (l':=st none) (c':=c) ((if_f t1).trans rfl)]
 exact seq_exc ((if_t t2).trans (raise_ok (aCons_ok (c1:=c) rfl aNil_ok) (by show 1<=1000;omega)))
abbrev N_Book_take_n:List Str:=["self","one","other","rise","steps"]
theorem sc_Book_take_n:FnScope N_Book_take_n ["self","one","other","rise"] (defScope s_Book_take_n):=scs
noncomputable def t_Book_take_n (K:Frag) (t:Adr):SD:=(sSeq (sIf (dNotT (dTru (dCall 1 g_is_sighting [] (aCons (dTup (aCons (dv 1) (aCons (dv 2) (aCons (dv 3) aNil)))) aNil)))) sStuck sNil)
  (sSeq (sIf (tOf (d2 geD (d1 lenM (d1 (fldM t.c_Book "rows") (dv 0))) (d1 (fldM t.c_Book "most") (dv 0)))) sStuck sNil)
  (sSeq (sSet 4 (dCall 3 g_way_along [] (aCons (dMeth t.c_Book "kept" 1 (g_Book_kept K t) [] (dv 0) aNil) (aCons (dv 1) (aCons (dv 2) aNil)))))
  (sSeq (sIf (dAndT (tOf (d1 (isNonM true) (dv 4))) (tOf (d2 (eqM true) (dCall 1 g_total [] (aCons (dv 4) aNil)) (dv 3)))) sStuck sNil)
  (sSeq (augF t.c_Book "taken" (fun i j=>i+j) (dv 0) (dc (.int 1)))
  (sSeq (sDPutD (d1 (fldM t.c_Book "rows") (dv 0)) (d1 (fldM t.c_Book "taken") (dv 0)) (dTup (aCons (d1 (fldM t.c_Book "taken") (dv 0)) (aCons (dv 1) (aCons (dv 2) (aCons (dv 3) aNil))))))
  (sRet (d1 (fldM t.c_Book "taken") (dv 0)))))))))
noncomputable abbrev g_Book_take_n (K:Frag) (t:Adr):FD:=gW (t_Book_take_n K t) N_Book_take_n
theorem r_Book_take_n:RN 4 (g_Book_take_n K t) (t_Book_take_n K t) N_Book_take_n:=run_W
theorem call_take_n {c:List Cell} {b j:Nat} {m k:Int} {rows:List D} (h:BookAt t c b j m k rows) (hr:rows.all okRow=true) (hk:∀ r∈rows,numR r<=k) (hn:rows.length<=400) (p q:List Nat) (r:Int) (hs:sightD (.tup [.str p,.str q,.int r])=true) (hT:okT (.tup [.str p,.str q,.int r]) c=true)
  (hf:¬ m<=(rows.length:Int)) (hw:∀ steps,Walk rows q p [] steps->steps.all okRow=true/\sumS steps=r):
  gN 4 (g_Book_take_n K t) [.hnd b,.str p,.str q,.int r] c=some (.ok (.int (k+1)) (takeC t c b j m k rows (.str p) (.str q) (.int r))):=by
 let st (o:Option D):L:=[some (.hnd b),some (.str p),some (.str q),some (.int r),o]
 have s1:startD N_Book_take_n [.hnd b,.str p,.str q,.int r]=st none:=rfl
 have t1:dNotT (dTru (dCall 1 g_is_sighting [] (aCons (dTup (aCons (dv 1) (aCons (dv 2) (aCons (dv 3) aNil)))) aNil))) (st none) c=some (.ok false c):=by
  have e0:=(dCall_ok (n:=1) (g:=g_is_sighting) (dds:=[]) (aCons_ok (tup_ok (l:=st none) (c:=c) (aCons_ok (ta:=dv 1) (x:=.str p) (c1:=c) rfl (aCons_ok (ta:=dv 2) (x:=.str q) (c1:=c) rfl (aCons_ok (ta:=dv 3) (x:=.int r) (c1:=c) rfl aNil_ok))) (by show 3<=1000;omega)) aNil_ok)).trans (pcall_sight _ c hT)
  unfold dNotT dTru
  rw [bd_ok (x:=true) (c':=c) (by rw [bd_ok e0,hs];rfl)]
  rfl
 have t2:tOf (d2 geD (d1 lenM (d1 (fldM t.c_Book "rows") (dv 0))) (d1 (fldM t.c_Book "most") (dv 0))) (st none) c=some (.ok (decide (m<=(rows.length:Int))) c):=by
  unfold tOf
  rw [bd_ok (x:=.bl (decide (m<=(rows.length:Int)))) (c':=c) ((d2_ok (x:=.int rows.length) (c1:=c) ((d1_ok (bk_rows h rfl)).trans (by unfold lenM;simp only [h.dc,kvR_len])) (bk_most h rfl)).trans rfl)]
  rfl
 rw [decide_eq_false hf] at t2
 obtain ⟨d,hd,ew⟩:=call_way_along rows p q c hr hn
 have ek:=(meth_ok (m:="kept") (n:=1) (g:=g_Book_kept K t) (dds:=[]) (l:=st none) (t:=aNil) (to:=dv 0) (o:=.hnd b) (c1:=c) rfl (cellI_at h.ob) rfl aNil_ok).trans (call_kept (K:=K) h hr)
 have e3:=set_ok (i:=4) ((dCall_ok (aCons_ok ek (aCons_ok (ta:=dv 1) (x:=.str p) (c1:=c) rfl (aCons_ok (ta:=dv 2) (x:=.str q) (c1:=c) rfl aNil_ok)))).trans ew)
 have tot:∀ steps,d=.lst steps->Walk rows q p [] steps->steps.length<=1000->tOf (d2 (eqM true) (dCall 1 g_total [] (aCons (dv 4) aNil)) (dv 3)) (st (some d)) c=some (.ok (decide (sumS steps≠r)) c):=by
  intro steps e w hl
  subst e
  have et:=(dCall_ok (n:=1) (g:=g_total) (dds:=[]) (l:=st (some (.lst steps))) (c:=c) (aCons_ok (ta:=dv 4) (x:=.lst steps) (c1:=c) rfl aNil_ok)).trans (call_total (.lst steps) steps c rfl (hw steps w).1 hl)
  unfold tOf
  rw [bd_ok (x:=.bl (decide (sumS steps≠r))) (c':=c) ((d2_ok et (y:=.int r) (c2:=c) rfl).trans (by simp [eqM,viewD,shal,eqD];exact Bool.eq_iff_iff.mpr (by simp)))]
  rfl
 have done:dAndT (tOf (d1 (isNonM true) (dv 4))) (tOf (d2 (eqM true) (dCall 1 g_total [] (aCons (dv 4) aNil)) (dv 3))) (st (some d)) c=some (.ok false c)->gN 4 (g_Book_take_n K t) [.hnd b,.str p,.str q,.int r] c=some (.ok (.int (k+1)) (takeC t c b j m k rows (.str p) (.str q) (.int r))):=by
  intro t3
  refine call_W rfl ?_
  rw [s1]
  unfold t_Book_take_n
  rw [seq_ok (l':=st none) (c':=c) ((if_f t1).trans rfl)]
  rw [seq_ok (l':=st none) (c':=c) ((if_f t2).trans rfl)]
  rw [seq_ok (l':=st (some d)) (c':=c) e3]
  rw [seq_ok (l':=st (some d)) (c':=c) ((if_f t3).trans rfl)]
  have hb:=(List.getElem?_eq_some_iff.mp h.ob).1
  have ea:augF t.c_Book "taken" (fun i j=>i+j) (dv 0) (dc (.int 1)) (st (some d)) c=some (.ok (.nx (st (some d))) (c.set b (.ins t.c_Book (bookF m (k+1) j)))):=by
   unfold augF
   rw [bd_ok (x:=.hnd b) (c':=c) rfl]
   rw [cellI_at h.ob]
   simp only
   rw [show (bookF m k j).lookup ("taken":Str)=some (.int k) from rfl]
   simp only
   rw [bd_ok (x:=.int 1) (c':=c) rfl]
   rw [cellI_at h.ob]
   rfl
  rw [seq_ok ea]
  have h2:BookAt t (c.set b (.ins t.c_Book (bookF m (k+1) j))) b j m (k+1) rows:=⟨List.getElem?_set_self hb,by rw [List.getElem?_set_ne h.ne];exact h.dc⟩
  have ep:sDPutD (d1 (fldM t.c_Book "rows") (dv 0)) (d1 (fldM t.c_Book "taken") (dv 0)) (dTup (aCons (d1 (fldM t.c_Book "taken") (dv 0)) (aCons (dv 1) (aCons (dv 2) (aCons (dv 3) aNil))))) (st (some d)) (c.set b (.ins t.c_Book (bookF m (k+1) j)))=some (.ok (.nx (st (some d))) (takeC t c b j m k rows (.str p) (.str q) (.int r))):=by
   unfold sDPutD
   rw [bd_ok (tup_ok (aCons_ok (bk_taken h2 (l:=st (some d)) rfl) (aCons_ok (ta:=dv 1) (x:=.str p) (c1:=c.set b (.ins t.c_Book (bookF m (k+1) j))) rfl (aCons_ok (ta:=dv 2) (x:=.str q) (c1:=c.set b (.ins t.c_Book (bookF m (k+1) j))) rfl (aCons_ok (ta:=dv 3) (x:=.int r) (c1:=c.set b (.ins t.c_Book (bookF m (k+1) j))) rfl aNil_ok)))) (by show 4<=1000;omega))]
   rw [bd_ok (bk_rows h2 rfl),bd_ok (bk_taken h2 rfl)]
   unfold putM
   rw [bk_cell h2]
   simp only [keyD]
   rw [if_pos (by rw [kvR_len];omega),kvR_put (n:=k+1) rfl (fun r' hr' e=>by have:=hk r' hr';omega)]
   rfl
  rw [seq_ok ep]
  exact ret_ok (bk_taken (takeC_book (x:=.str p) (y:=.str q) (z:=.int r) h) (l:=st (some d)) rfl)
 rcases hd with ⟨rfl,hnr⟩ | ⟨steps,rfl,w,hl⟩
 ·exact done rfl
 ·have tt:=tot steps rfl w hl
  have hsum:=(hw steps w).2
  refine done ?_
  unfold dAndT
  rw [bd_ok (x:=true) (c':=c) rfl]
  simp only [if_true]
  rw [tt];simp [hsum]
abbrev N_Book_init:List Str:=["self","most"]
theorem sc_Book_init:FnScope N_Book_init ["self","most"] (defScope s_Book_init):=scs
noncomputable def t_Book_init (K:Frag) (t:Adr):SD:=(sSeq (sFldD t.c_Book "most" (dv 0) (dv 1))
  (sSeq (sFldD t.c_Book "taken" (dv 0) (dc (.int 0)))
  (sFldD t.c_Book "rows" (dv 0) dDict)))
noncomputable abbrev g_Book_init (K:Frag) (t:Adr):FD:=gW (t_Book_init K t) N_Book_init
theorem r_Book_init:RN 2 (g_Book_init K t) (t_Book_init K t) N_Book_init:=run_W
abbrev newB (t:Adr) (c:List Cell) (m:Int):List Cell:=c++[.ins t.c_Book (bookF m 0 (c.length+1)),.dct []]
theorem call_init (m:Int) (c:List Cell):gN 2 (g_Book_init K t) [.hnd c.length,.int m] (c++[.ins t.c_Book []])=some (.ok .non (newB t c m)):=by
 refine call_WN (l:=[some (.hnd c.length),some (.int m)]) rfl ?_
 have s1:startD N_Book_init [.hnd c.length,.int m]=[some (.hnd c.length),some (.int m)]:=rfl
 rw [s1]
 unfold t_Book_init
 have f1:∀ fs (fl:Str) (te:ED) (d:D) (ex:List Cell),te [some (.hnd c.length),some (.int m)] (c++[.ins t.c_Book fs])=some (.ok d (c++[.ins t.c_Book fs]++ex))->
   sFldD t.c_Book fl (dv 0) te [some (.hnd c.length),some (.int m)] (c++[.ins t.c_Book fs])=setF t.c_Book fl (.hnd c.length) d [some (.hnd c.length),some (.int m)] (c++[.ins t.c_Book fs]++ex):=fun fs fl te d ex h=>by
  unfold sFldD
  rw [bd_ok h,bd_ok (x:=.hnd c.length) (c':=c++[.ins t.c_Book fs]++ex) rfl]
 have f2:∀ (fs:List (Str×D)) (fl:Str) (d:D) (ex:List Cell) (fs':List (Str×D)),fs.length < 1000->putD fl d fs=fs'->setF t.c_Book fl (.hnd c.length) d [some (.hnd c.length),some (.int m)] (c++[.ins t.c_Book fs]++ex)=some (.ok (.nx [some (.hnd c.length),some (.int m)]) (c++[.ins t.c_Book fs']++ex)):=fun fs fl d ex fs' hlen e=>by
  unfold setF
  rw [cellI_at (fs:=fs) (by simp)]
  simp only
  rw [if_pos hlen,e]
  simp
 rw [seq_ok (((f1 [] "most" (dv 1) (.int m) [] (by rw [List.append_nil];rfl)).trans (f2 [] "most" (.int m) [] [("most",.int m)] (by decide) rfl)).trans (by rw [List.append_nil]))]
 rw [seq_ok (((f1 [("most",.int m)] "taken" (dc (.int 0)) (.int 0) [] (by rw [List.append_nil];rfl)).trans (f2 [("most",.int m)] "taken" (.int 0) [] [("most",.int m),("taken",.int 0)] (by show 1 < 1000;omega) rfl)).trans (by rw [List.append_nil]))]
 refine (f1 [("most",.int m),("taken",.int 0)] "rows" dDict (.hnd (c.length+1)) [.dct []] ?_).trans ((f2 [("most",.int m),("taken",.int 0)] "rows" (.hnd (c.length+1)) [.dct []] (bookF m 0 (c.length+1)) (by show 2 < 1000;omega) rfl).trans (by simp))
 simp [dDict]
theorem make_book (m:Int) (c:List Cell):mkM t.c_Book 2 (g_Book_init K t) [.int m] c=some (.ok (.hnd c.length) (newB t c m)):=make_ok (call_init m c)
abbrev N_Book_kept_c:List Str:=["self"]
theorem sc_Book_kept_c:FnScope N_Book_kept_c ["self"] (defScope s_Book_kept_c):=scs
noncomputable def t_Book_kept_c (K:Frag) (t:Adr):SD:=(sRet (d1 listVC (d1 (fldM t.c_Book "rows") (dv 0))))
noncomputable abbrev g_Book_kept_c (K:Frag) (t:Adr):FD:=gW (t_Book_kept_c K t) N_Book_kept_c
theorem r_Book_kept_c:RN 1 (g_Book_kept_c K t) (t_Book_kept_c K t) N_Book_kept_c:=run_W
theorem call_kept_c {c:List Cell} {b j:Nat} {m k:Int} {rows:List D} (h:BookAt t c b j m k rows):gN 1 (g_Book_kept_c K t) [.hnd b] c=some (.ok (.hnd c.length) (c++[.lst rows])):=by
 refine call_W rfl ?_
 unfold t_Book_kept_c
 exact ret_ok ((d1_ok (bk_rows h rfl)).trans (by unfold listVC;rw [bk_cell h];simp only [kvR_vals]))
def lets:List Nat:=[97,98,99,100,101,102,103,104,105,106,107,108,109,110,111,112,113,114,115,116,117,118,119,120,121,122]
theorem lets_at {i:Int} (h0:0<=i) (h1:i < 26):atI lets i=some (97+i.toNat):=by
 have e:lets=(List.range 26).map fun k=>97+k:=by decide
 rw [atI_in h0 (by rw [e];simpa using h1),e,List.getElem?_map,List.getElem?_range (by omega)]
 rfl
theorem atI_some {α:Type} {xs:List α} {i:Int} (h0:0<=i) (h1:i < xs.length):∃ x,x∈xs/\atI xs i=some x:=by
 rw [atI_in h0 h1]
 have:i.toNat < xs.length:=by omega
 exact ⟨xs[i.toNat],List.getElem_mem this,List.getElem?_eq_getElem this⟩
abbrev N_law_cell_at:List Str:=["_law_script","_law_k"]
theorem sc_law_cell_at:FnScope N_law_cell_at ["_law_script","_law_k"] (defScope s_law_cell_at):=scs
noncomputable def t_law_cell_at:SD:=(sSeq (sIf (tOf (d2 ltD (dv 1) (d1 lenM (dv 0)))) (sRet (d2 ixM (dv 0) (dv 1))) sNil)
  (sRet (dc (.int 0))))
def P_law_cell_at (_:List D) (d:D):Prop:=∃ n,d=.int n
noncomputable abbrev g_law_cell_at:FD:=gR t_law_cell_at N_law_cell_at P_law_cell_at
theorem r_law_cell_at:RN 2 g_law_cell_at t_law_cell_at N_law_cell_at:=run_R
theorem call_cell_at (ns:List Int) (k:Int) (c:List Cell) (hk:0<=k):∃ n,gN 2 g_law_cell_at [.scr ns,.int k] c=some (.ok (.int n) c):=by
 have h:∃ d,P_law_cell_at [.scr ns,.int k] d/\Runs t_law_cell_at N_law_cell_at [.scr ns,.int k] c d:=by
  by_cases z:k < ns.length
  ·obtain ⟨n,_,hn⟩:=atI_some hk z
   exact ⟨.int n,⟨n,rfl⟩,.same (by simp [t_law_cell_at,N_law_cell_at,startD,sSeq,sIf,sRet,tOf,d1,d2,dv,lenM,ixM,oM,cmpD,M.bd,M.ret,z,hn])⟩
  ·exact ⟨.int 0,⟨0,rfl⟩,.same (by simp [t_law_cell_at,N_law_cell_at,startD,sSeq,sIf,sRet,sNil,tOf,d1,d2,dv,dc,lenM,cmpD,M.bd,M.ret,z])⟩
 obtain ⟨d,⟨n,rfl⟩,e⟩:=call_R rfl h
 exact ⟨n,e⟩
abbrev N_law_mixed:List Str:=["_law_cell"]
theorem sc_law_mixed:FnScope N_law_mixed ["_law_cell"] (defScope s_law_mixed):=scs
noncomputable def t_law_mixed:SD:=(sRet (d2 modD (d2 mulD (d2 addD (d2 modD (dv 0) (dc (.int 1000003))) (dc (.int 1))) (dc (.int 48271))) (dc (.int 2147483647))))
def mix (n:Int):Int:=(n % 1000003+1) * 48271 % 2147483647
theorem mix_nn (n:Int):0<=mix n:=by unfold mix;omega
theorem mix_lt (n:Int):mix n < 2147483647:=by unfold mix;omega
def f_law_mixed:List D->List Cell->Option D
 | [.int n],_=>some (.int (mix n))
 | _,_=>none
noncomputable abbrev g_law_mixed:FD:=gV f_law_mixed
theorem r_law_mixed:RN 1 g_law_mixed t_law_mixed N_law_mixed:=by
 refine run_pure fun ds c d hl h=>?_
 unfold f_law_mixed at h
 split at h
 ·cases h
  exact ⟨⟨[],by simp [t_law_mixed,N_law_mixed,startD,sRet,d2,dv,dc,i2,addD,M.bd,M.ret,modOk,mulOk,mix]⟩,rfl⟩
 ·cases h
theorem call_mixed (n:Int) (c:List Cell):gN 1 g_law_mixed [.int n] c=some (.ok (.int (mix n)) c):=gN_gV rfl rfl
abbrev N_law_word:List Str:=["_law_number","_law_size","_law_letters","_law_word_here","_law_k"]
theorem sc_law_word:FnScope N_law_word ["_law_number","_law_size"] (defScope s_law_word):=scs
noncomputable def t_law_word_b1:SD:=(sSeq (sSet 0 (d2 modD (d2 mulD (dv 0) (d2 addD (dc (.int 48271)) (dv 4))) (dc (.int 1000003))))
  (sSet 3 (d2 addD (dv 3) (d2 ixM (dv 2) (d2 modD (dv 0) (dc (.int 26)))))))
noncomputable def t_law_word:SD:=(sSeq (sSet 2 (dc (.str [97,98,99,100,101,102,103,104,105,106,107,108,109,110,111,112,113,114,115,116,117,118,119,120,121,122])))
  (sSeq (sSet 3 (dc (.str [])))
  (sSeq (sSet 0 (d2 addD (d2 modD (dv 0) (dc (.int 1000002))) (dc (.int 1))))
  (sSeq (sForI (iR1 (dv 1)) (gdName 4) t_law_word_b1)
  (sRet (dv 3))))))
def P_law_word (ds:List D) (d:D):Prop:=∃ w n z,d=.str w/\ds=[n,.int z]/\w.length=z.toNat/\w.all low=true
noncomputable abbrev g_law_word:FD:=gR t_law_word N_law_word P_law_word
theorem r_law_word:RN 2 g_law_word t_law_word N_law_word:=run_R
theorem call_word (n z:Int) (c:List Cell) (h0:0<=z) (h1:z<=1000):∃ w,w.length=z.toNat/\w.all low=true/\gN 2 g_law_word [.int n,.int z] c=some (.ok (.str w) c):=by
 have h:∃ d,P_law_word [.int n,.int z] d/\Runs t_law_word N_law_word [.int n,.int z] c d:=by
  obtain ⟨l',c',e,hI⟩:=forR_inv (g:=gdName 4) (body:=t_law_word_b1) 0 z.toNat (fun k l c'=>c'=c/\∃ m w o,l=[some (.int m),some (.int z),some (.str lets),some (.str w),o]/\w.length=k/\w.all low=true)
   (fun k l c' hk ⟨ec,m,w,o,el,hw,ha⟩=>by
    subst ec el
    have g1:(-18446744073709551616:Int) < 48271+(k:Int):=by omega
    have g2:48271+(k:Int) < 18446744073709551616:=by omega
    have g3:=lets_at (i:=m * (48271+(k:Int)) % 1000003 % 26) (by omega) (by omega)
    have g4:w.length+1<=1000000:=by omega
    have g5:lets.length<=1000000:=by decide
    exact ⟨_,rfl,[some (.int (m * (48271+(k:Int)) % 1000003)),some (.int z),some (.str lets),some (.str (w++[97+(m * (48271+(k:Int)) % 1000003 % 26).toNat])),some (.int k)],c',
     .inl (by simp [t_law_word_b1,sSeq,sSet,d2,dv,dc,ixM,oM,i2,addD,M.bd,M.ret,modOk,mulOk,g1,g2,g3,g4,g5]),rfl,_,_,_,rfl,by simp [hw],by rw [List.all_append,ha];simp [low];omega⟩)
   (l:=[some (.int (n % 1000002+1)),some (.int z),some (.str lets),some (.str []),none]) (c:=c) ⟨rfl,_,_,_,rfl,rfl,rfl⟩
  obtain ⟨ec,m,w,o,el,hw,ha⟩:=hI
  subst ec el
  refine ⟨.str w,⟨w,_,_,rfl,rfl,hw,ha⟩,.same ?_⟩
  have g1:(-1000000:Int)<=z:=by omega
  have g2:z<=1000000:=by omega
  unfold lets at e
  simp [t_law_word,N_law_word,startD,sSeq,sRet,sSet,d2,dv,dc,i2,addD,iR1,sForI,M.bd,M.ret,modOk,g1,g2,e]
 obtain ⟨d,⟨w,m,y,rfl,e1,e2,e3⟩,e⟩:=call_R rfl h
 cases e1
 exact ⟨w,e2,e3,e⟩
abbrev N_law_pool:List Str:=["_law_cell","_law_many","_law_letters","_law_seed","_law_base","_law_size","_law_at","_law_pool_here","_law_k","_law_long","_law_sign"]
theorem sc_law_pool:FnScope N_law_pool ["_law_cell","_law_many"] (defScope s_law_pool):=scs
noncomputable def t_law_pool_b1:SD:=(sIf (tOf (d2 (eqM false) (d2 modD (dv 0) (dc (.int 3))) (dc (.int 0)))) (sSeq (sSet 9 (d2 addD (dc (.int 1)) (d2 modD (d2 addD (dv 3) (d2 mulD (dv 8) (dv 8))) (dc (.int 8)))))
  (sExpr (mM .lst appendM (dv 7) (aCons (dCall 2 g_law_word [] (aCons (d2 addD (dv 3) (d2 mulD (dc (.int 7919)) (dv 8))) (aCons (dv 9) aNil))) aNil)))) (sIf (tOf (d2 (eqM false) (d2 modD (dv 0) (dc (.int 3))) (dc (.int 1)))) (sSeq (sSet 10 (d2 ixM (dv 2) (d2 modD (d2 addD (d2 divD (dv 3) (dc (.int 64))) (dv 8)) (dc (.int 26)))))
  (sExpr (mM .lst appendM (dv 7) (aCons (d2 addD (d2 addD (dSl slS (dv 4) oNone (oSome (dv 6))) (dv 10)) (dSl slS (dv 4) (oSome (d2 addD (dv 6) (dc (.int 1)))) (oSome (dv 5)))) aNil)))) (sExpr (mM .lst appendM (dv 7) (aCons (dSl slS (dv 4) (oSome (d2 divD (dv 8) (dc (.int 8)))) (oSome (d2 addD (d2 addD (d2 divD (dv 8) (dc (.int 8))) (dc (.int 1))) (d2 modD (dv 8) (dc (.int 8)))))) aNil)))))
noncomputable def t_law_pool:SD:=(sSeq (sSet 2 (dc (.str [97,98,99,100,101,102,103,104,105,106,107,108,109,110,111,112,113,114,115,116,117,118,119,120,121,122])))
  (sSeq (sSet 3 (d2 modD (d2 divD (dv 0) (dc (.int 3))) (dc (.int 1000003))))
  (sSeq (sSet 4 (dCall 2 g_law_word [] (aCons (dv 3) (aCons (dc (.int 16)) aNil))))
  (sSeq (sSet 5 (d2 addD (dc (.int 1)) (d2 modD (dv 3) (dc (.int 8)))))
  (sSeq (sSet 6 (d2 modD (d2 divD (dv 3) (dc (.int 8))) (dv 5)))
  (sSeq (sSet 7 (dLstC aNil))
  (sSeq (sForI (iR1 (dv 1)) (gdName 8) t_law_pool_b1)
  (sRet (dv 7)))))))))
def P_law_pool (ds:List D) (d:D):Prop:=∃ (n z:Int) (ps:List (List Nat)),ds=[.int n,.int z]/\d=.lst (ps.map .str)/\ps.length=z.toNat/\∀ p∈ps,isPeg p=true
noncomputable abbrev g_law_pool:FD:=gR t_law_pool N_law_pool P_law_pool
theorem r_law_pool:RN 2 g_law_pool t_law_pool N_law_pool:=run_R
theorem strs_bel (n:Nat):∀ (ps:List (List Nat)),D.bels n (ps.map .str)=true
 | []=>rfl
 | _::ps=>by simp [D.bels,D.bel,strs_bel n ps]
theorem cut_len {α:Type} (xs:List α) (lo hi:Option Int):(DL.cutD xs lo hi).length<=xs.length:=by unfold DL.cutD;simp;omega
theorem sIx_at {n:Nat} {d:Nat} {i:Int} (h0:0<=i) (h1:i<=n):HT.sIx n d (some i)=i.toNat:=by
 simp only [HT.sIx]
 rw [if_neg (by omega)]
 omega
theorem cut_at {α:Type} (xs:List α) {a b:Int} (h0:0<=a) (h1:a<=b) (h2:b<=xs.length):(DL.cutD xs (some a) (some b)).length=(b - a).toNat:=by
 unfold DL.cutD
 rw [sIx_at h0 (by omega),sIx_at (by omega) h2,List.length_take,List.length_drop]
 omega
theorem cut_to {α:Type} (xs:List α) {b:Int} (h0:0<=b) (h2:b<=xs.length):(DL.cutD xs none (some b)).length=b.toNat:=by
 unfold DL.cutD
 rw [sIx_at h0 h2]
 simp only [HT.sIx]
 rw [List.length_take,List.length_drop]
 omega
theorem cut_low {w:List Nat} (lo hi:Option Int) (h:w.all low=true):(DL.cutD w lo hi).all low=true:=List.all_eq_true.mpr fun x hx=>List.all_eq_true.mp h x (List.mem_of_mem_drop (List.mem_of_mem_take hx))
theorem isPeg_of {w:List Nat} (h1:1<=w.length) (h8:w.length<=8) (h:w.all low=true):isPeg w=true:=by
 unfold isPeg
 rw [decide_eq_true h1,decide_eq_true h8,h]
 rfl
theorem turn_pool (n z s y t k:Int) (w:List Nat) (ps:List (List Nat)) (o9 o10:Option D) (c:List Cell) (hw:w.length=16) (ha:w.all low=true) (hy0:1<=y) (hy1:y<=8) (ht0:0<=t) (ht1:t < y) (hl2:ps.length < 1000000) (k0:0<=k) (hk:k < 24) (s0:0<=s):
  ∃ (q:List Nat) (p9 p10:Option D),isPeg q=true/\t_law_pool_b1 [some (.int n),some (.int z),some (.str lets),some (.int s),some (.str w),some (.int y),some (.int t),some (.hnd c.length),some (.int k),o9,o10] (c++[.lst (ps.map .str)])=some (.ok (.nx [some (.int n),some (.int z),some (.str lets),some (.int s),some (.str w),some (.int y),some (.int t),some (.hnd c.length),some (.int k),p9,p10]) (c++[.lst (ps.map .str++[.str q])])):=by
 have g5:lets.length<=1000000:=by decide
 have g6:w.length<=1000000:=by omega
 have k1:(-18446744073709551616:Int) < k:=by omega
 have k2:k < 18446744073709551616:=by omega
 by_cases z0:n % 3=0
 ·obtain ⟨w2,hw2,ha2,ew2⟩:=call_word (s+7919 * k) (1+(s+k * k) % 8) (c++[.lst (ps.map .str)]) (by omega) (by omega)
  exact ⟨w2,some (.int (1+(s+k * k) % 8)),o10,isPeg_of (by omega) (by omega) ha2,by simp [t_law_pool_b1,sSeq,sIf,sSet,sExpr,tOf,d2,dv,dc,aNil,aCons,dCall,tyM,i2,addD,eqM,viewD,mM,appendM,cellL,M.bd,M.ret,modOk,mulOk,shal,eqD,z0,k1,k2,ew2,hl2]⟩
 ·by_cases z1:n % 3=1
  ·have g3:=lets_at (i:=(s / 64+k) % 26) (by omega) (by omega)
   have q1:=cut_len w none (some t)
   have q2:=cut_len w (some (t+1)) (some y)
   refine ⟨DL.cutD w none (some t)++[97+((s / 64+k) % 26).toNat]++DL.cutD w (some (t+1)) (some y),o9,some (.str [97+((s / 64+k) % 26).toNat]),isPeg_of ?_ ?_ ?_,?_⟩
   ·have c1:=cut_to w (b:=t) ht0 (by omega)
    have c2:=cut_at w (a:=t+1) (b:=y) (by omega) (by omega) (by omega)
    simp only [List.length_append,List.length_singleton]
    omega
   ·have c1:=cut_to w (b:=t) ht0 (by omega)
    have c2:=cut_at w (a:=t+1) (b:=y) (by omega) (by omega) (by omega)
    simp only [List.length_append,List.length_singleton]
    omega
   ·rw [List.all_append,List.all_append,cut_low _ _ ha,cut_low _ _ ha]
    simp [low]
    omega
   have g7:(DL.cutD w none (some t)).length+1<=1000000:=by omega
   have g8:(DL.cutD w none (some t)).length+1+(DL.cutD w (some (t+1)) (some y)).length<=1000000:=by omega
   simp [t_law_pool_b1,sSeq,sIf,sSet,sExpr,tOf,d2,dv,dc,aNil,aCons,tyM,ixM,oM,i2,addD,eqM,viewD,dSl,slS,mM,appendM,cellL,oNone,oSome,M.bd,M.ret,divOk,modOk,shal,eqD,z0,z1,g3,g5,g6,g7,g8,hl2]
  ·have c1:=cut_at w (a:=k / 8) (b:=k / 8+1+k % 8) (by omega) (by omega) (by omega)
   exact ⟨DL.cutD w (some (k / 8)) (some (k / 8+1+k % 8)),o9,o10,isPeg_of (by omega) (by omega) (cut_low _ _ ha),by simp [t_law_pool_b1,sIf,sExpr,tOf,d2,dv,dc,aNil,aCons,tyM,i2,addD,eqM,viewD,dSl,slS,mM,appendM,cellL,oSome,M.bd,M.ret,divOk,modOk,shal,eqD,z0,z1,g6,hl2]⟩
theorem call_pool (n z:Int) (c:List Cell) (h0:1<=z) (h1:z<=24):∃ ps:List (List Nat),ps.length=z.toNat/\(∀ p∈ps,isPeg p=true)/\gN 2 g_law_pool [.int n,.int z] c=some (.ok (.lst (ps.map .str)) c):=by
 have h:∃ d,P_law_pool [.int n,.int z] d/\Runs t_law_pool N_law_pool [.int n,.int z] c d:=by
  obtain ⟨w,hw,ha,ew⟩:=call_word (n / 3 % 1000003) 16 c (by omega) (by omega)
  obtain ⟨s,hs⟩:∃ s,n / 3 % 1000003=s:=⟨_,rfl⟩
  rw [hs] at ew
  have s0:0<=s:=by omega
  obtain ⟨y,hy⟩:∃ y,1+s % 8=y:=⟨_,rfl⟩
  obtain ⟨t,ht⟩:∃ t,s / 8 % y=t:=⟨_,rfl⟩
  have y0:0 < y:=by omega
  have hw:w.length=16:=by rw [hw];decide
  have t0:0<=t:=by rw [← ht];exact Int.emod_nonneg _ (by omega)
  have t1:t < y:=by rw [← ht];exact Int.emod_lt_of_pos _ y0
  obtain ⟨l',c',e,hI⟩:=forR_inv (g:=gdName 8) (body:=t_law_pool_b1) 0 z.toNat (fun k l c'=>∃ ps:List (List Nat),c'=c++[.lst (ps.map .str)]/\ps.length=k/\(∀ p∈ps,isPeg p=true)/\∃ o8 o9 o10,l=[some (.int n),some (.int z),some (.str lets),some (.int s),some (.str w),some (.int y),some (.int t),some (.hnd c.length),o8,o9,o10])
   (fun k l c' hk ⟨ps,ec,hp,hq,o8,o9,o10,el⟩=>by
    subst ec el
    obtain ⟨q,p9,p10,hpq,e⟩:=turn_pool n z s y t (0+(k:Nat)) w ps o9 o10 c hw ha (by omega) (by omega) t0 t1 (by omega) (by omega) (by omega) s0
    exact ⟨_,rfl,_,_,.inl e,ps++[q],by simp,by simp [hp],(fun p hp'=>by
     rcases List.mem_append.mp hp' with h | h
     ·exact hq p h
     ·rw [List.mem_singleton.mp h];exact hpq),_,_,_,rfl⟩)
   (l:=[some (.int n),some (.int z),some (.str lets),some (.int s),some (.str w),some (.int y),some (.int t),some (.hnd c.length),none,none,none]) (c:=c++[.lst []]) ⟨[],rfl,rfl,(fun p hp=>by cases hp),_,_,_,rfl⟩
  obtain ⟨ps,ec,hp,hq,o8,o9,o10,el⟩:=hI
  subst ec el
  refine ⟨.lst (ps.map .str),⟨n,z,ps,rfl,rfl,hp,hq⟩,.lst c.length [.lst (ps.map .str)] ?_ (Nat.le_refl _) (by simp) (strs_bel _ _)⟩
  have g1:(-1000000:Int)<=z:=by omega
  have g2:z<=1000000:=by omega
  unfold lets at e
  simp [t_law_pool,N_law_pool,startD,sSeq,sRet,sSet,d2,dv,dc,aNil,aCons,dCall,i2,addD,iR1,sForI,M.bd,M.ret,divOk,modOk,dLstC,hs,ew,hy,y0,ht,g1,g2,e]
 obtain ⟨d,⟨n',z',ps,e1,rfl,e2,e3⟩,e⟩:=call_R rfl h
 cases e1
 exact ⟨ps,e2,e3,e⟩
abbrev N_law_whole:List Str:=["_law_found"]
theorem sc_law_whole:FnScope N_law_whole ["_law_found"] (defScope s_law_whole):=scs
noncomputable def t_law_whole:SD:=(sRet (dAndV (d1 (isiM .int) (dv 0)) (dNotV (d1 (isiM .bl) (dv 0)))))
def f_law_whole:List D->List Cell->Option D
 | [.int _],_=>some (.bl true)
 | _,_=>none
noncomputable abbrev g_law_whole:FD:=gV f_law_whole
theorem r_law_whole:RN 1 g_law_whole t_law_whole N_law_whole:=by
 refine run_pure fun ds c d hl h=>?_
 unfold f_law_whole at h
 split at h
 ·cases h
  exact ⟨⟨[],by simp [t_law_whole,N_law_whole,startD,sRet,d1,dv,isiM,tyM,Ty.sub,dAndV,dNotV,M.bd,M.ret]⟩,rfl⟩
 ·cases h
theorem call_whole (n:Int) (c:List Cell):gN 1 g_law_whole [.int n] c=some (.ok (.bl true) c):=gN_gV rfl rfl
section
variable {ta tb:ED} {l:L} {c:List Cell} {a b m:Int}
theorem evM (h:Ev ta l c (.int a)) (hm:0 < m):Ev (d2 modD ta (dc (.int m))) l c (.int (a % m)):=ev2 h (y:=.int m) rfl (i2_ok (show modOk a m from hm))
theorem evDv (h:Ev ta l c (.int a)) (hm:0 < m/\m < 10 ^ 200):Ev (d2 divD ta (dc (.int m))) l c (.int (a / m)):=ev2 h (y:=.int m) rfl (i2_ok (show divOk a m from hm))
theorem evAdd (h1:Ev ta l c (.int a)) (h2:Ev tb l c (.int b)):Ev (d2 addD ta tb) l c (.int (a+b)):=ev2 h1 h2 rfl
theorem evSub (h1:Ev ta l c (.int a)) (h2:Ev tb l c (.int b)):Ev (d2 subD ta tb) l c (.int (a - b)):=ev2 h1 h2 rfl
theorem evMul (h1:Ev ta l c (.int a)) (h2:Ev tb l c (.int b)) (ok:mulOk a b):Ev (d2 mulD ta tb) l c (.int (a * b)):=ev2 h1 h2 (i2_ok ok)
theorem evApp {x y:List Nat} (h1:Ev ta l c (.str x)) (h2:Ev tb l c (.str y)) (hl:x.length+y.length<=1000000):Ev (d2 addD ta tb) l c (.str (x++y)):=ev2 h1 h2 (by simp [addD,hl,M.ret])
end
theorem iR1_ok {ta:ED} {l:L} {c c1:List Cell} {z:Int} (h:ta l c=some (.ok (.int z) c1)) (g1:-1000000<=z) (g2:z<=1000000):iR1 ta l c=some (.ok ⟨rangeD 0 z.toNat,fun _=>True⟩ c1):=by
 unfold iR1
 rw [bd_ok h]
 simp only [if_pos (And.intro g1 g2)]
 rfl
theorem evCut {ta:ED} {lo hi:OD} {l:L} {c:List Cell} {x:List Nat} {a b:Option Int} (h:Ev ta l c (.str x)) (ha:lo l c=some (.ok a c)) (hb:hi l c=some (.ok b c)) (hx:x.length<=1000000):Ev (dSl slS ta lo hi) l c (.str (DL.cutD x a b)):=by
 show dSl slS ta lo hi l c=_
 unfold dSl
 rw [bd_ok h,bd_ok ha,bd_ok hb]
 simp [slS,hx,M.ret]
theorem evIx {ta tb:ED} {l:L} {c:List Cell} {ps:List (List Nat)} {i:Int} (h1:Ev ta l c (.lst (ps.map .str))) (h2:Ev tb l c (.int i)) (h0:0<=i) (hi:i < ps.length):∃ p∈ps,Ev (d2 ixM ta tb) l c (.str p):=by
 obtain ⟨x,hx,e⟩:=atI_some (xs:=ps.map D.str) h0 (by simpa using hi)
 obtain ⟨p,hp,rfl⟩:=List.mem_map.mp hx
 exact ⟨p,hp,ev2 h1 h2 (by simp only [ixM,e,oM,M.ret])⟩
theorem evEqI {ta tb:ED} {l:L} {c:List Cell} {a b:Int} (h1:Ev ta l c (.int a)) (h2:Ev tb l c (.int b)):EvT (tOf (d2 (eqM false) ta tb)) l c (decide (a=b)):=
 et_of (ev2 h1 h2 (by simp [eqM,viewD,shal,eqD];exact Bool.eq_iff_iff.mpr (by simp)))
section
variable {ta tb:ED} {l:L} {c:List Cell}
theorem evEqS {x y:List Nat} (h1:Ev ta l c (.str x)) (h2:Ev tb l c (.str y)):EvT (tOf (d2 (eqM false) ta tb)) l c (decide (x=y)):=
 et_of (ev2 h1 h2 (by simp [eqM,viewD,shal,eqD];exact Bool.eq_iff_iff.mpr (by simp)))
end
section
variable {ta tb:ED} {l:L} {c:List Cell} {b:Bool}
theorem evOrT (h:Ev ta l c (.bl true)):Ev (dOrV ta tb) l c (.bl true):=by
 show dOrV ta tb l c=_
 unfold dOrV
 rw [bd_ok h];rfl
theorem evOrF (h:Ev ta l c (.bl false)) (h2:Ev tb l c (.bl b)):Ev (dOrV ta tb) l c (.bl b):=by
 show dOrV ta tb l c=_
 unfold dOrV
 rw [bd_ok h];exact h2
theorem evAndT (h:Ev ta l c (.bl true)) (h2:Ev tb l c (.bl b)):Ev (dAndV ta tb) l c (.bl b):=by
 show dAndV ta tb l c=_
 unfold dAndV
 rw [bd_ok h];exact h2
end
theorem isPeg_len {p:List Nat} (h:isPeg p=true):1<=p.length/\p.length<=8:=by
 simp only [isPeg,Bool.and_eq_true,decide_eq_true_eq] at h
 exact h.1
theorem evAt {xs:List D} {ta tb:ED} {l:L} {c:List Cell} {i:Int} {x:D} (h1:Ev ta l c (.lst xs)) (h2:Ev tb l c (.int i)) (h:atI xs i=some x):Ev (d2 ixM ta tb) l c x:=ev2 h1 h2 (by simp only [ixM,h,oM,M.ret])
theorem sight_ok {p q:List Nat} {r:Int} (hp:isPeg p=true) (hq:isPeg q=true) (h1:-(10 ^ 60) < r) (h2:r < 10 ^ 60):sightD (.tup [.str p,.str q,.int r])=true:=by
 show (isPeg p && isPeg q && decide (-(10 ^ 60) < r/\r < 10 ^ 60))=true
 rw [hp,hq,decide_eq_true ⟨h1,h2⟩]
 rfl
theorem okT_sight {p q:List Nat} (r:Int) (c:List Cell) (hp:isPeg p=true) (hq:isPeg q=true):okT (.tup [.str p,.str q,.int r]) c=true:=by
 have lp:=isPeg_len hp
 have lq:=isPeg_len hq
 show (true && ((true && decide (p.length<=1000000)) && (true && decide (q.length<=1000000)) && true))=true
 rw [decide_eq_true (show p.length<=1000000 by omega),decide_eq_true (show q.length<=1000000 by omega)]
 rfl
theorem forC_cons {g:GD} {body:SD} {x:D} {xs:List D} {l l1 l2:L} {c c2:List Cell} (hg:g x l=some l1) (hb:body l1 c=some (.ok (.nx l2) c2)):forC (fun _=>True) g body (x::xs) l c=forC (fun _=>True) g body xs l2 c2:=by
 simp [forC,hg,M.bd,hb]
theorem forC_exc {g:GD} {body:SD} {x:D} {xs:List D} {l l1:L} {c c2:List Cell} {e:Exc} (hg:g x l=some l1) (hb:body l1 c=some (.exc e c2)):forC (fun _=>True) g body (x::xs) l c=some (.exc e c2):=by
 simp [forC,hg,M.bd,hb]
section
variable {ta tb tc:ED} {l:L} {c:List Cell}
theorem evChain {f g:D->D->M D} {x y w z:D} (h1:Ev ta l c x) (h2:Ev tb l c y) (h3:f x y c=some (.ok (.bl true) c)) (h4:Ev tc l c w) (h5:g y w c=some (.ok z c)):Ev (dChain f g ta tb tc) l c z:=by
 show dChain f g ta tb tc l c=_
 unfold dChain
 rw [bd_ok h1,bd_ok h2,bd_ok h3]
 simp only
 rw [bd_ok h4]
 exact h5
theorem evIfT {p:TD} {x:D} (h:EvT p l c true) (h1:Ev ta l c x):Ev (dIf p ta tb) l c x:=by
 show dIf p ta tb l c=_
 unfold dIf
 rw [bd_ok h]
 exact h1
theorem evIfF {p:TD} {x:D} (h:EvT p l c false) (h1:Ev tb l c x):Ev (dIf p ta tb) l c x:=by
 show dIf p ta tb l c=_
 unfold dIf
 rw [bd_ok h]
 exact h1
theorem evm {ty:Ty} {k:D->List D->M D} {t:AD} {x z:D} {xs:List D} (h1:Ev ta l c x) (ht:tyM x c=some ty) (h2:EvA t l c xs) (h3:k x xs c=some (.ok z c)):Ev (mM ty k ta t) l c z:=(mM_ok h1 ht h2).trans h3
theorem evSlL {lo hi:OD} {xs:List D} {a b:Option Int} (h:Ev ta l c (.lst xs)) (ha:lo l c=some (.ok a c)) (hb:hi l c=some (.ok b c)):Ev (dSl slS ta lo hi) l c (.lst (DL.cutD xs a b)):=by
 show dSl slS ta lo hi l c=_
 unfold dSl
 rw [bd_ok h,bd_ok ha,bd_ok hb]
 rfl
theorem evJoin {sep:List Nat} {zs:List (List Nat)} (h:Ev ta l c (.lst (zs.map .str))) (h1:zs.length<=100) (h2:∀ z∈zs,z.length<=1000) (h3:sep.length<=10):Ev (mM .str joinM (dc (.str sep)) (aCons ta aNil)) l c (.str (joinL sep zs)):=by
 refine evm (x:=.str sep) rfl rfl (eva h evn) ?_
 unfold joinM
 simp only [seqL,strsD_map]
 rw [if_pos (joinOk_small h1 h2 h3),txt_join]
theorem evSplit {k:Nat} {s:List Nat} {zs:List (List Nat)} (h:Ev ta l c (.str (joinL (k::s) zs))) (hz:zs≠[]) (hf:∀ z∈zs,k∉z) (hs:k∉s) (hk:∀ x∈k::s,x < 128) (h1:zs.length<=100) (h2:(joinL (k::s) zs).length<=1000000):Ev (mM .str splitM ta (aCons (dc (.str (k::s))) aNil)) l c (.lst (zs.map .str)):=by
 refine evm h rfl (eva (x:=.str (k::s)) rfl evn) ?_
 have e:=split_join hz hf hs hk
 unfold splitM
 simp only
 rw [e,if_pos ⟨by simp,h2,by rw [List.length_map];omega⟩,List.map_map]
 rfl
end
theorem callX_ok {n:Nat} {g:FD} {dds:List D} {t:AD} {l:L} {c c1:List Cell} {xs:List D} (h:t l c=some (.ok xs c1)):dCallX n g dds t l c=gN n g (xs++dds) c1:=by
 unfold dCallX
 rw [bd_ok (noX_ok h)]
abbrev Sgt:=List Nat×List Nat×Int
abbrev sgD (x:Sgt):D:=.tup [.str x.1,.str x.2.1,.int x.2.2]
abbrev pcT (x:Sgt):List Nat:=joinL [32] [x.1,x.2.1,intS x.2.2]
abbrev txT (xs:List Sgt):List Nat:=joinL [59,32] (xs.map pcT)
structure Sg (x:Sgt):Prop where
 p:isPeg x.1=true
 q:isPeg x.2.1=true
 lo:-(10 ^ 60) < x.2.2
 hi:x.2.2 < 10 ^ 60
theorem peg_mem {p:List Nat} (h:isPeg p=true):∀ c∈p,97<=c/\c<=122:=fun c hc=>by
 simp only [isPeg,Bool.and_eq_true] at h
 have:=List.all_eq_true.mp h.2 c hc
 simpa [low] using this
theorem intS_mem (i:Int):∀ c∈intS i,c=45\/(48<=c/\c<=57):=fun c hc=>by
 cases i with
 | ofNat n=>rw [show intS (Int.ofNat n)=dg n from intS_nat n] at hc;exact .inr (dg_all n c hc)
 | negSucc n=>
  rw [intS_neg] at hc
  rcases List.mem_cons.mp hc with e | hc
  ·exact .inl e
  ·exact .inr (dg_all _ c hc)
theorem intS_len {i:Int} (h1:-(10 ^ 60) < i) (h2:i < 10 ^ 60):1<=(intS i).length/\(intS i).length<=61:=by
 cases i with
 | ofNat n=>
  have hn:n < 10 ^ 60:=by
   have h2:(n:Int) < 10 ^ 60:=h2
   omega
  rw [show intS (Int.ofNat n)=dg n from intS_nat n]
  have a:=dg_le hn
  have b:=dg_len n
  omega
 | negSucc n=>
  have hn:n+1 < 10 ^ 60:=by omega
  rw [intS_neg]
  have a:=dg_le hn
  simp only [List.length_cons]
  omega
theorem pc_len {x:Sgt} (h:Sg x):1<=(pcT x).length/\(pcT x).length<=100:=by
 have a:=isPeg_len h.p
 have b:=isPeg_len h.q
 have d:=intS_len h.lo h.hi
 show 1<=(x.1++[32]++(x.2.1++[32]++intS x.2.2)).length/\(x.1++[32]++(x.2.1++[32]++intS x.2.2)).length<=100
 simp only [List.length_append,List.length_cons,List.length_nil]
 omega
theorem pc_free {x:Sgt} (h:Sg x):59∉pcT x:=by
 show 59∉x.1++[32]++(x.2.1++[32]++intS x.2.2)
 simp only [List.mem_append,List.mem_singleton,not_or]
 exact ⟨⟨fun z=>by have:=peg_mem h.p _ z;omega,by decide⟩,⟨fun z=>by have:=peg_mem h.q _ z;omega,by decide⟩,fun z=>by rcases intS_mem _ _ z with e | e <;> omega⟩
theorem words_free {x:Sgt} (h:Sg x):∀ z∈[x.1,x.2.1,intS x.2.2],32∉z:=fun z hz=>by
 simp only [List.mem_cons,List.not_mem_nil,or_false] at hz
 rcases hz with rfl | rfl | rfl
 ·exact fun z=>by have:=peg_mem h.p _ z;omega
 ·exact fun z=>by have:=peg_mem h.q _ z;omega
 ·exact fun z=>by rcases intS_mem _ _ z with e | e <;> omega
theorem tx_len:∀ {xs:List Sgt},(∀ x∈xs,Sg x)->(txT xs).length<=102 * xs.length
 | [],_=>Nat.le_refl _
 | [x],h=>by
  have:=(pc_len (h x List.mem_cons_self)).2
  show (pcT x).length<=_
  simp only [List.length_cons,List.length_nil]
  omega
 | x::y::r,h=>by
  have a:=(pc_len (h x List.mem_cons_self)).2
  have b:=tx_len (xs:=y::r) fun z hz=>h z (List.mem_cons_of_mem _ hz)
  show (pcT x++[59,32]++txT (y::r)).length<=_
  simp only [List.length_append,List.length_cons,List.length_nil] at b ⊢
  omega
theorem evStrI {ta:ED} {l:L} {c:List Cell} {i:Int} (h:Ev ta l c (.int i)) (h1:-(10 ^ 60) < i) (h2:i < 10 ^ 60):Ev (d1 strM ta) l c (.str (intS i)):=ev1 h (by
 unfold strM
 simp only
 obtain ⟨T,hT⟩:∃ T:Int,T=10 ^ 60:=⟨_,rfl⟩
 obtain ⟨U,hU⟩:∃ U:Int,U=10 ^ 200:=⟨_,rfl⟩
 have tu:T < U:=by rw [hT,hU];decide
 rw [← hT] at h1 h2
 rw [← hU,if_pos (by omega)]
 rfl)
abbrev N_is_written_rise:List Str:=["word","figures"]
theorem sc_is_written_rise:FnScope N_is_written_rise ["word"] (defScope s_is_written_rise):=scs
noncomputable def t_is_written_rise:SD:=(sSeq (sSet 1 (dIf (dTru (mM .str startsM (dv 0) (aCons (dc (.str [45])) aNil))) (dSl slS (dv 0) (oSome (dc (.int 1))) oNone) (dv 0)))
  (sSeq (sIf (dNotT (tOf (dChain leD leD (dc (.int 1)) (d1 lenM (dv 1)) (dc (.int 60))))) (sRet (dc (.bl false))) sNil)
  (sSeq (sIf (dNotT (dTru (d1 allM (dComp (iVal (dv 1)) [] (gdName 0) pTrue (dChain leD leD (dc (.str [48])) (dv 0) (dc (.str [57]))))))) (sRet (dc (.bl false))) sNil)
  (sRet (dOrV (d2 (eqM true) (d2 ixM (dv 1) (dc (.int 0))) (dc (.str [48]))) (d2 (eqM false) (dv 0) (dc (.str [48]))))))))
noncomputable abbrev g_is_written_rise:FD:=gC t_is_written_rise N_is_written_rise
theorem r_is_written_rise:RN 1 g_is_written_rise t_is_written_rise N_is_written_rise:=run_C
theorem starts_minus (a:Nat) (r:List Nat):Txt.startswith (tx (a::r)) (tx [45])=decide (a=45):=by
 unfold Txt.startswith
 rw [StrLaws.subAt_eq]
 simp [Str.length]
 exact Bool.eq_iff_iff.mpr (by simp)
theorem call_wr {i:Int} (h1:-(10 ^ 60) < i) (h2:i < 10 ^ 60) (c:List Cell):gN 1 g_is_written_rise [.str (intS i)] c=some (.ok (.bl true) c):=by
 obtain ⟨x,hx⟩:∃ x,x=intS i:=⟨_,rfl⟩
 have lx:=intS_len h1 h2
 rw [← hx] at lx ⊢
 let st (o:Option D):L:=[some (.str x),o]
 have s1:startD N_is_written_rise [.str x]=st none:=rfl
 have key:∃ (f:List Nat) (a:Nat) (r:List Nat),f=a::r/\f.length<=60/\(∀ ch∈f,48<=ch/\ch<=57)/\(a≠48\/x=[48])/\((∃ b r',x=b::r'/\b≠45/\f=x)\/x=45::f):=by
  cases i with
  | ofNat n=>
   have hn:n < 10 ^ 60:=by
    have h2:(n:Int) < 10 ^ 60:=h2
    omega
   have e:x=dg n:=hx.trans (intS_nat n)
   have l:=dg_le hn
   cases z:dg n with
   | nil=>have:=dg_len n;rw [z] at this;simp at this
   | cons a r=>
    have al:=dg_all n
    rw [z] at al l e
    have a0:=al a List.mem_cons_self
    refine ⟨a::r,a,r,rfl,l,al,?_,.inl ⟨a,r,e,by omega,e.symm⟩⟩
    rcases dg_head n with e0 | ⟨c',r',e0,hc⟩
    ·refine .inr (e.trans (z.symm.trans ?_))
     rw [e0];rfl
    ·rw [z] at e0
     cases e0
     exact .inl hc
  | negSucc n=>
   have hn:n+1 < 10 ^ 60:=by omega
   have l:=dg_le hn
   have al:=dg_all (n+1)
   rcases dg_head (n+1) with e0 | ⟨a,r,e0,hc⟩
   ·omega
   ·exact ⟨dg (n+1),a,r,e0,l,al,.inl hc,.inr (by rw [hx,intS_neg])⟩
 obtain ⟨f,a,r,hf,lf,al,hd,cs⟩:=key
 have l6:x.length<=1000000:=by omega
 have e1:Ev (dIf (dTru (mM .str startsM (dv 0) (aCons (dc (.str [45])) aNil))) (dSl slS (dv 0) (oSome (dc (.int 1))) oNone) (dv 0)) (st none) c (.str f):=by
  rcases cs with ⟨b,r',ex,hb,ef⟩ | ex
  ·refine evIfF (et_tru (evm (x:=.str x) rfl rfl (eva (x:=.str [45]) rfl evn) ?_)) (by rw [ef];rfl)
   show some (Out.ok (D.bl (Txt.startswith (tx x) (tx [45]))) c)=_
   rw [ex,starts_minus,decide_eq_false hb]
  ·refine evIfT (et_tru (evm (x:=.str x) rfl rfl (eva (x:=.str [45]) rfl evn) ?_)) ?_
   ·show some (Out.ok (D.bl (Txt.startswith (tx x) (tx [45]))) c)=_
    rw [ex,starts_minus,decide_eq_true rfl]
   ·have e:=evCut (ta:=dv 0) (lo:=oSome (dc (.int 1))) (hi:=oNone) (l:=st none) (c:=c) (x:=x) (a:=some 1) (b:=none) rfl rfl rfl l6
    have q:DL.cutD x (some 1) none=f:=by
     rw [ex]
     unfold DL.cutD
     have z1:HT.sIx (45::f).length 0 (some 1)=1:=by unfold HT.sIx;simp
     have z2:∀ n d,HT.sIx n d none=d:=fun _ _=>rfl
     rw [z1,z2]
     show List.take ((45::f).length - 1) f=f
     exact List.take_of_length_le (by simp)
    rwa [q] at e
 have f1:f.length<=1000000:=by omega
 have f0:1<=f.length:=by rw [hf];simp
 have e2:EvT (dNotT (tOf (dChain leD leD (dc (.int 1)) (d1 lenM (dv 1)) (dc (.int 60))))) (st (some (.str f))) c false:=by
  have g1:(1:Int)<=(f.length:Int):=by omega
  have g2:(f.length:Int)<=60:=by omega
  refine et_not (b:=true) (et_of (evChain (x:=.int 1) (y:=.int f.length) (w:=.int 60) rfl (ev1 (x:=.str f) rfl (by unfold lenM;simp only;rw [if_pos f1];rfl)) ?_ rfl ?_))
  ·show some (Out.ok (D.bl (decide ((1:Int)<=(f.length:Int)))) c)=_
   rw [decide_eq_true g1]
  ·show some (Out.ok (D.bl (decide ((f.length:Int)<=60))) c)=_
   rw [decide_eq_true g2]
 have e3:EvT (dNotT (dTru (d1 allM (dComp (iVal (dv 1)) [] (gdName 0) pTrue (dChain leD leD (dc (.str [48])) (dv 0) (dc (.str [57]))))))) (st (some (.str f))) c false:=by
  have cm:Ev (dComp (iVal (dv 1)) [] (gdName 0) pTrue (dChain leD leD (dc (.str [48])) (dv 0) (dc (.str [57])))) (st (some (.str f))) c (.lst (f.map fun _=>D.bl true)):=by
   show dComp _ _ _ _ _ _ _=_
   rw [comp_ok (S:=⟨f.map fun ch=>D.str [ch],fun _=>True⟩) (iVal_ok (x:=.str f) (c1:=c) rfl rfl)]
   rw [show l0 [] (st (some (.str f)))=[none] from rfl]
   rw [comp_mapC (f:=fun _=>D.bl true) c trivial (f.map fun ch=>D.str [ch]) [] none (fun y hy=>by
    obtain ⟨ch,hch,rfl⟩:=List.mem_map.mp hy
    have:=al ch hch
    refine evChain (x:=.str [48]) (y:=.str [ch]) (w:=.str [57]) rfl rfl ?_ rfl ?_
    ·show some (Out.ok (D.bl (!ltL [ch] [48])) c)=_
     rw [lt1,decide_eq_false (by omega)];rfl
    ·show some (Out.ok (D.bl (!ltL [57] [ch])) c)=_
     rw [lt1,decide_eq_false (by omega)];rfl) (by simp;omega)]
   simp
  refine et_not (b:=true) (et_tru (ev1 cm ?_))
  unfold allM
  simp only [blsOf_map]
  show some (Out.ok (D.bl ((f.map fun _=>true).all id)) c)=_
  rw [show (f.map fun _=>true).all id=true from List.all_eq_true.mpr fun y hy=>by
   obtain ⟨_,_,rfl⟩:=List.mem_map.mp hy
   rfl]
 refine call_C rfl (c':=c) ?_ rfl (Kept.refl c) List.take_length
 rw [s1]
 unfold t_is_written_rise
 rw [seq_ok (l':=st (some (.str f))) (c':=c) (set_ok (i:=1) e1)]
 rw [seq_ok (l':=st (some (.str f))) (c':=c) ((if_f e2).trans rfl),seq_ok (l':=st (some (.str f))) (c':=c) ((if_f e3).trans rfl)]
 have e4:Ev (d2 ixM (dv 1) (dc (.int 0))) (st (some (.str f))) c (.str [a]):=ev2 (x:=.str f) (y:=.int 0) rfl rfl (by
  subst hf
  unfold ixM
  simp only
  rw [if_pos f1]
  unfold atI ixN
  rw [if_pos (by decide),if_pos (by simp only [List.length_cons];omega)]
  rfl)
 refine ret_ok ?_
 by_cases z:a=48
 ·have hx:x=[48]:=by
   rcases hd with h | h
   ·exact absurd z h
   ·exact h
  exact evOrF (ev2 e4 (y:=.str [48]) rfl (by rw [z];simp [eqM,viewD,shal,eqD])) (ev2 (x:=.str x) (y:=.str [48]) rfl rfl (by rw [hx];simp [eqM,viewD,shal,eqD]))
 ·exact evOrT (ev2 e4 (y:=.str [48]) rfl (by simp [eqM,viewD,shal,eqD,z]))
abbrev N_read_sighting:List Str:=["written","words"]
theorem sc_read_sighting:FnScope N_read_sighting ["written"] (defScope s_read_sighting):=scs
noncomputable def t_read_sighting (K:Frag) (t:Adr):SD:=(sSeq (sSet 1 (mM .str splitM (dv 0) (aCons (dc (.str [32])) aNil)))
  (sSeq (sIf (dOrT (tOf (d2 (eqM true) (d1 lenM (dv 1)) (dc (.int 3)))) (dOrT (dNotT (dTru (dCall 1 g_is_peg [] (aCons (d2 ixM (dv 1) (dc (.int 0))) aNil)))) (dOrT (dNotT (dTru (dCall 1 g_is_peg [] (aCons (d2 ixM (dv 1) (dc (.int 1))) aNil)))) (dNotT (dTru (dCall 1 g_is_written_rise [] (aCons (d2 ixM (dv 1) (dc (.int 2))) aNil))))))) sStuck sNil)
  (sRet (dTup (aCons (d2 ixM (dv 1) (dc (.int 0))) (aCons (d2 ixM (dv 1) (dc (.int 1))) (aCons (d1 intM (d2 ixM (dv 1) (dc (.int 2)))) aNil)))))))
noncomputable abbrev g_read_sighting (K:Frag) (t:Adr):FD:=gC (t_read_sighting K t) N_read_sighting
theorem r_read_sighting:RN 1 (g_read_sighting K t) (t_read_sighting K t) N_read_sighting:=run_C
theorem call_rs {x:Sgt} (h:Sg x) (c:List Cell):gN 1 (g_read_sighting K t) [.str (pcT x)] c=some (.ok (sgD x) c):=by
 let ws:List (List Nat):=[x.1,x.2.1,intS x.2.2]
 let st (o:Option D):L:=[some (.str (pcT x)),o]
 have s1:startD N_read_sighting [.str (pcT x)]=st none:=rfl
 have lp:=(pc_len h).2
 have e1:Ev (mM .str splitM (dv 0) (aCons (dc (.str [32])) aNil)) (st none) c (.lst (ws.map .str)):=evSplit (zs:=ws) rfl (by simp [ws]) (words_free h) (by simp) (by decide) (by simp [ws]) (by show (pcT x).length<=_;omega)
 have l1:=isPeg_len h.p
 have l2:=isPeg_len h.q
 have ok:∀ {p:List Nat},p.length<=8->okD (.str p) c=true:=fun {p} hp=>by
  show (true && decide (p.length<=1000000))=true
  rw [decide_eq_true (by omega)];rfl
 have ix0:Ev (d2 ixM (dv 1) (dc (.int 0))) (st (some (.lst (ws.map .str)))) c (.str x.1):=ev2 (x:=.lst (ws.map .str)) (y:=.int 0) rfl rfl rfl
 have ix1:Ev (d2 ixM (dv 1) (dc (.int 1))) (st (some (.lst (ws.map .str)))) c (.str x.2.1):=ev2 (x:=.lst (ws.map .str)) (y:=.int 1) rfl rfl rfl
 have ix2:Ev (d2 ixM (dv 1) (dc (.int 2))) (st (some (.lst (ws.map .str)))) c (.str (intS x.2.2)):=ev2 (x:=.lst (ws.map .str)) (y:=.int 2) rfl rfl rfl
 have p1:=pcall_peg (.str x.1) c (ok l1.2)
 rw [show pegD (.str x.1)=true from h.p] at p1
 have p2:=pcall_peg (.str x.2.1) c (ok l2.2)
 rw [show pegD (.str x.2.1)=true from h.q] at p2
 have e2:EvT (dOrT (tOf (d2 (eqM true) (d1 lenM (dv 1)) (dc (.int 3)))) (dOrT (dNotT (dTru (dCall 1 g_is_peg [] (aCons (d2 ixM (dv 1) (dc (.int 0))) aNil)))) (dOrT (dNotT (dTru (dCall 1 g_is_peg [] (aCons (d2 ixM (dv 1) (dc (.int 1))) aNil)))) (dNotT (dTru (dCall 1 g_is_written_rise [] (aCons (d2 ixM (dv 1) (dc (.int 2))) aNil))))))) (st (some (.lst (ws.map .str)))) c false:=
  et_orf (et_of (ev2 (ev1 (x:=.lst (ws.map .str)) (z:=.int 3) rfl rfl) (y:=.int 3) rfl (by simp [eqM,viewD,shal,eqD]))) (et_orf (et_not (b:=true) (et_tru (evc (eva ix0 evn) p1))) (et_orf (et_not (b:=true) (et_tru (evc (eva ix1 evn) p2))) (et_not (b:=true) (et_tru (evc (eva ix2 evn) (call_wr h.lo h.hi c))))))
 refine call_C rfl (c':=c) ?_ rfl (Kept.refl c) List.take_length
 rw [s1]
 unfold t_read_sighting
 rw [seq_ok (l':=st (some (.lst (ws.map .str)))) (c':=c) (set_ok (i:=1) e1),seq_ok (l':=st (some (.lst (ws.map .str)))) (c':=c) ((if_f e2).trans rfl)]
 refine ret_ok (evt (eva ix0 (eva ix1 (eva (ev1 ix2 ?_) evn))))
 have li:=(intS_len h.lo h.hi).2
 unfold intM
 simp only [intS_back h.lo h.hi]
 rw [if_pos (by omega)]
 rfl
abbrev N_read_sightings:List Str:=["text"]
theorem sc_read_sightings:FnScope N_read_sightings ["text"] (defScope s_read_sightings):=scs
noncomputable def t_read_sightings (K:Frag) (t:Adr):SD:=(sSeq (sIf (tOf (d2 (eqM false) (dv 0) (dc (.str [])))) (sRet (dLst aNil)) sNil)
  (sRet (dComp (iVal (mM .str splitM (dv 0) (aCons (dc (.str [59,32])) aNil))) [] (gdName 0) pTrue (dCall 1 (g_read_sighting K t) [] (aCons (dv 0) aNil)))))
noncomputable abbrev g_read_sightings (K:Frag) (t:Adr):FD:=gC (t_read_sightings K t) N_read_sightings
theorem r_read_sightings:RN 1 (g_read_sightings K t) (t_read_sightings K t) N_read_sightings:=run_C
theorem sgs_bel (n:Nat) (xs:List Sgt):D.bels n (xs.map sgD)=true:=bels_mem fun x hx=>by
 obtain ⟨y,_,rfl⟩:=List.mem_map.mp hx
 rfl
theorem call_rss {xs:List Sgt} (h:∀ x∈xs,Sg x) (hl:xs.length<=100) (c:List Cell):gN 1 (g_read_sightings K t) [.str (txT xs)] c=some (.ok (.lst (xs.map sgD)) c):=by
 let st:L:=[some (.str (txT xs))]
 have s1:startD N_read_sightings [.str (txT xs)]=st:=rfl
 refine call_C rfl (c':=c) ?_ (sgs_bel _ xs) (Kept.refl c) List.take_length
 rw [s1]
 unfold t_read_sightings
 have t1:EvT (tOf (d2 (eqM false) (dv 0) (dc (.str [])))) st c (decide (txT xs=[])):=evEqS rfl rfl
 cases xs with
 | nil=>
  rw [decide_eq_true (show txT []=[] from rfl)] at t1
  exact seq_ret ((if_t t1).trans (ret_ok (evl evn)))
 | cons x r=>
  have lp:1<=(pcT x).length:=(pc_len (h x List.mem_cons_self)).1
  have ne:txT (x::r)≠[]:=fun z=>by
   have:=congrArg List.length z
   cases r with
   | nil=>
    have:(pcT x).length=0:=this
    omega
   | cons y r'=>
    have:(pcT x++[59,32]++txT (y::r')).length=0:=this
    simp only [List.length_append,List.length_cons,List.length_nil] at this
    omega
  rw [decide_eq_false ne] at t1
  rw [seq_ok (l':=st) (c':=c) ((if_f t1).trans rfl)]
  have lt:=tx_len h
  have e1:Ev (mM .str splitM (dv 0) (aCons (dc (.str [59,32])) aNil)) st c (.lst (((x::r).map pcT).map .str)):=evSplit (zs:=(x::r).map pcT) rfl (by simp) (fun z hz=>by
   obtain ⟨y,hy,rfl⟩:=List.mem_map.mp hz
   exact pc_free (h y hy)) (by decide) (by decide) (by simpa using hl) (by show (txT (x::r)).length<=_;omega)
  refine ret_ok ?_
  rw [comp_ok (S:=⟨((x::r).map pcT).map .str,fun _=>True⟩) (iVal_ok e1 rfl)]
  rw [show l0 [] st=[none] from rfl]
  have cm:∀ (ys:List Sgt),(∀ y∈ys,Sg y)->∀ (acc:List D) (o:Option D),acc.length+ys.length<=1000->compC (fun _=>True) (gdName 0) pTrue (dCall 1 (g_read_sighting K t) [] (aCons (dv 0) aNil)) ((ys.map pcT).map .str) acc [o] c=some (.ok (.lst (acc++ys.map sgD)) c):=fun ys=>by
   induction ys with
   | nil=>intro _ acc o _;simp [compC]
   | cons y ys ih=>
    intro hy acc o hl
    simp only [List.length_cons] at hl
    have e:=(dCall_ok (n:=1) (g:=g_read_sighting K t) (dds:=[]) (l:=[some (.str (pcT y))]) (c:=c) (eva (ta:=dv 0) (x:=.str (pcT y)) rfl evn)).trans (call_rs (hy y List.mem_cons_self) c)
    have:=ih (fun z hz=>hy z (List.mem_cons_of_mem _ hz)) (acc++[sgD y]) (some (.str (pcT y))) (by simp;omega)
    simp only [List.map_cons,compC,gdName,List.set_cons_zero]
    rw [if_pos ⟨trivial,by omega⟩]
    unfold M.bd noX
    show (match pTrue [some (.str (pcT y))] c with | _=>_)=_
    simp only [pTrue,M.ret,if_true]
    rw [e]
    simp only
    rw [this]
    simp
  rw [cm (x::r) h [] none (by simp at hl ⊢;omega)]
  rfl
abbrev N_shown_row:List Str:=["row"]
theorem sc_shown_row:FnScope N_shown_row ["row"] (defScope s_shown_row):=scs
noncomputable def t_shown_row:SD:=(sRet (mM .str joinM (dc (.str [32])) (aCons (dLst (aCons (d2 ixM (dv 0) (dc (.int 1))) (aCons (d2 ixM (dv 0) (dc (.int 2))) (aCons (d1 strM (d2 ixM (dv 0) (dc (.int 3)))) aNil)))) aNil)))
noncomputable abbrev g_shown_row:FD:=gC t_shown_row N_shown_row
theorem r_shown_row:RN 1 g_shown_row t_shown_row N_shown_row:=run_C
abbrev rwD (y:Int×Sgt):D:=stepD y.1 y.2.1 y.2.2.1 y.2.2.2
theorem call_shown_row {y:Int×Sgt} (h:Sg y.2) (c:List Cell):gN 1 g_shown_row [rwD y] c=some (.ok (.str (pcT y.2)) c):=by
 let st:L:=[some (rwD y)]
 have s1:startD N_shown_row [rwD y]=st:=rfl
 refine call_C rfl (c':=c) ?_ rfl (Kept.refl c) List.take_length
 rw [s1]
 unfold t_shown_row
 have l1:=isPeg_len h.p
 have l2:=isPeg_len h.q
 have li:=(intS_len h.lo h.hi).2
 exact ret_ok (evJoin (zs:=[y.2.1,y.2.2.1,intS y.2.2.2]) (evl (eva (ev2 (x:=rwD y) (y:=.int 1) (z:=.str y.2.1) rfl rfl rfl) (eva (ev2 (x:=rwD y) (y:=.int 2) (z:=.str y.2.2.1) rfl rfl rfl) (eva (evStrI (ev2 (x:=rwD y) (y:=.int 3) (z:=.int y.2.2.2) rfl rfl rfl) h.lo h.hi) evn)))) (by simp) (fun z hz=>by
  simp only [List.mem_cons,List.not_mem_nil,or_false] at hz
  rcases hz with rfl | rfl | rfl <;> omega) (by simp))
abbrev N_law_text:List Str:=["_law_some"]
theorem sc_law_text:FnScope N_law_text ["_law_some"] (defScope s_law_text):=scs
noncomputable def t_law_text:SD:=(sRet (mM .str joinM (dc (.str [59,32])) (aCons (dComp (iVal (dv 0)) [] (gdName 0) pTrue (d2 addD (d2 addD (d2 addD (d2 addD (d2 ixM (dv 0) (dc (.int 0))) (dc (.str [32]))) (d2 ixM (dv 0) (dc (.int 1)))) (dc (.str [32]))) (d1 strM (d2 ixM (dv 0) (dc (.int 2)))))) aNil)))
noncomputable abbrev g_law_text:FD:=gC t_law_text N_law_text
theorem r_law_text:RN 1 g_law_text t_law_text N_law_text:=run_C
def pcD:D->D
 | .tup [.str p,.str q,.int r]=>.str (pcT (p,q,r))
 | _=>.non
theorem pcs_len {xs:List Sgt} (h:∀ x∈xs,Sg x):∀ z∈xs.map pcT,z.length<=1000:=fun z hz=>by
 obtain ⟨y,hy,rfl⟩:=List.mem_map.mp hz
 have:=(pc_len (h y hy)).2
 omega
theorem call_text {xs:List Sgt} (h:∀ x∈xs,Sg x) (hl:xs.length<=100) (c:List Cell):gN 1 g_law_text [.lst (xs.map sgD)] c=some (.ok (.str (txT xs)) c):=by
 let st:L:=[some (.lst (xs.map sgD))]
 have s1:startD N_law_text [.lst (xs.map sgD)]=st:=rfl
 refine call_C rfl (c':=c) ?_ rfl (Kept.refl c) List.take_length
 rw [s1]
 unfold t_law_text
 refine ret_ok (evJoin (zs:=xs.map pcT) ?_ (by simpa using hl) (pcs_len h) (by simp))
 show dComp _ _ _ _ _ _ _=_
 rw [comp_ok (S:=⟨xs.map sgD,fun _=>True⟩) (iVal_ok (x:=.lst (xs.map sgD)) (c1:=c) rfl rfl)]
 rw [show l0 [] st=[none] from rfl]
 rw [comp_mapC (f:=pcD) c trivial (xs.map sgD) [] none (fun y hy=>by
  obtain ⟨x,hx,rfl⟩:=List.mem_map.mp hy
  have hs:=h x hx
  have l1:=isPeg_len hs.p
  have l2:=isPeg_len hs.q
  have li:=(intS_len hs.lo hs.hi).2
  have e:=evApp (evApp (evApp (evApp (ev2 (f:=ixM) (ta:=dv 0) (tb:=dc (.int 0)) (l:=[some (sgD x)]) (c:=c) (x:=sgD x) (y:=.int 0) (z:=.str x.1) rfl rfl rfl) (tb:=dc (.str [32])) (y:=[32]) rfl (by simp;omega)) (ev2 (f:=ixM) (ta:=dv 0) (tb:=dc (.int 1)) (x:=sgD x) (y:=.int 1) (z:=.str x.2.1) rfl rfl rfl) (by simp;omega)) (tb:=dc (.str [32])) (y:=[32]) rfl (by simp;omega)) (evStrI (ev2 (f:=ixM) (ta:=dv 0) (tb:=dc (.int 2)) (x:=sgD x) (y:=.int 2) (z:=.int x.2.2) rfl rfl rfl) hs.lo hs.hi) (by simp;omega)
  refine e.trans ?_
  show some (Out.ok (D.str (x.1++[32]++x.2.1++[32]++intS x.2.2)) c)=some (.ok (.str (x.1++[32]++(x.2.1++[32]++intS x.2.2))) c)
  simp only [List.append_assoc]) (by simp;omega)]
 rw [List.nil_append,List.map_map,List.map_map]
 rfl
abbrev N_shown:List Str:=["book"]
theorem sc_shown:FnScope N_shown ["book"] (defScope s_shown):=scs
noncomputable def t_shown (K:Frag) (t:Adr):SD:=(sRet (mM .str joinM (dc (.str [59,32])) (aCons (dComp (iVal (dMeth t.c_Book "kept" 1 (g_Book_kept K t) [] (dv 0) aNil)) [] (gdName 0) pTrue (dCall 1 g_shown_row [] (aCons (dv 0) aNil))) aNil)))
noncomputable abbrev g_shown (K:Frag) (t:Adr):FD:=gC (t_shown K t) N_shown
theorem r_shown:RN 1 (g_shown K t) (t_shown K t) N_shown:=run_C
theorem rw_ok (ys:List (Int×Sgt)):(ys.map rwD).all okRow=true:=List.all_eq_true.mpr fun x hx=>by
 obtain ⟨y,_,rfl⟩:=List.mem_map.mp hx
 rfl
def pcR:D->D
 | .tup [_,.str p,.str q,.int r]=>.str (pcT (p,q,r))
 | _=>.non
theorem call_shown {c:List Cell} {b j:Nat} {m k:Int} {ys:List (Int×Sgt)} (h:BookAt t c b j m k (ys.map rwD)) (hs:∀ y∈ys,Sg y.2) (hl:ys.length<=100):gN 1 (g_shown K t) [.hnd b] c=some (.ok (.str (txT (ys.map (·.2)))) c):=by
 let st:L:=[some (.hnd b)]
 have s1:startD N_shown [.hnd b]=st:=rfl
 have ek:Ev (dMeth t.c_Book "kept" 1 (g_Book_kept K t) [] (dv 0) aNil) st c (.lst (ys.map rwD)):=(meth_ok (o:=.hnd b) (c1:=c) rfl (cellI_at h.ob) rfl aNil_ok).trans (call_kept (K:=K) h (rw_ok ys))
 refine call_C rfl (c':=c) ?_ rfl (Kept.refl c) List.take_length
 rw [s1]
 unfold t_shown
 refine ret_ok (evJoin (zs:=(ys.map (·.2)).map pcT) ?_ (by simpa using hl) (pcs_len fun x hx=>by
  obtain ⟨y,hy,rfl⟩:=List.mem_map.mp hx
  exact hs y hy) (by simp))
 show dComp _ _ _ _ _ _ _=_
 rw [comp_ok (S:=⟨ys.map rwD,fun _=>True⟩) (iVal_ok ek rfl)]
 rw [show l0 [] st=[none] from rfl]
 rw [comp_mapC (f:=pcR) c trivial (ys.map rwD) [] none (fun y hy=>by
  obtain ⟨x,hx,rfl⟩:=List.mem_map.mp hy
  exact evc (eva (x:=rwD x) rfl evn) (call_shown_row (hs x hx) c)) (by simp;omega)]
 rw [List.nil_append,List.map_map,List.map_map,List.map_map]
 rfl
abbrev N_law_shows:List Str:=["_law_book","_law_some","_law_found"]
theorem sc_law_shows:FnScope N_law_shows ["_law_book","_law_some"] (defScope s_law_shows):=scs
noncomputable def t_law_shows (K:Frag) (t:Adr):SD:=(sSeq (sSet 2 (dCall 1 (g_shown K t) [] (aCons (dv 0) aNil)))
  (sRet (dAndV (d1 (isiM .str) (dv 2)) (d2 (eqM false) (dv 2) (dCall 1 g_law_text [] (aCons (dv 1) aNil))))))
noncomputable abbrev g_law_shows (K:Frag) (t:Adr):FD:=gC (t_law_shows K t) N_law_shows
theorem r_law_shows:RN 2 (g_law_shows K t) (t_law_shows K t) N_law_shows:=run_C
theorem call_shows {c:List Cell} {b j:Nat} {m k:Int} {ys:List (Int×Sgt)} {xs:List Sgt} (h:BookAt t c b j m k (ys.map rwD)) (e:xs=ys.map (·.2)) (hs:∀ x∈xs,Sg x) (hl:ys.length<=100):gN 2 (g_law_shows K t) [.hnd b,.lst (xs.map sgD)] c=some (.ok (.bl true) c):=by
 let st (o:Option D):L:=[some (.hnd b),some (.lst (xs.map sgD)),o]
 have s1:startD N_law_shows [.hnd b,.lst (xs.map sgD)]=st none:=rfl
 have a:=call_shown (K:=K) h (fun y hy=>hs y.2 (by rw [e];exact List.mem_map.mpr ⟨y,hy,rfl⟩)) hl
 rw [← e] at a
 have b':=call_text hs (by rw [e];simpa using hl) c
 refine call_C rfl (c':=c) ?_ rfl (Kept.refl c) List.take_length
 rw [s1]
 unfold t_law_shows
 rw [seq_ok (l':=st (some (.str (txT xs)))) (c':=c) (set_ok (i:=2) (evc (eva (x:=.hnd b) rfl evn) a))]
 exact ret_ok (evAndT (ev1 (x:=.str (txT xs)) rfl rfl) (ev2 (x:=.str (txT xs)) rfl (evc (eva (x:=.lst (xs.map sgD)) rfl evn) b') (by simp [eqM,viewD,shal,eqD])))
def numY:Int->List Sgt->List (Int×Sgt)
 | _,[]=>[]
 | k,x::xs=>(k,x)::numY (k+1) xs
theorem numY_snd:∀ (k:Int) (xs:List Sgt),(numY k xs).map (·.2)=xs
 | _,[]=>rfl
 | k,x::xs=>by simp [numY,numY_snd (k+1) xs]
theorem numY_len (k:Int) (xs:List Sgt):(numY k xs).length=xs.length:=by
 have:=congrArg List.length (numY_snd k xs)
 simpa using this
theorem numY_app:∀ (k:Int) (xs:List Sgt) (x:Sgt),numY k (xs++[x])=numY k xs++[(k+xs.length,x)]
 | k,[],x=>by simp [numY]
 | k,y::ys,x=>by
  simp only [List.cons_append,numY,List.length_cons]
  rw [numY_app (k+1) ys x]
  have:k+1+(ys.length:Int)=k+((ys.length+1:Nat):Int):=by omega
  rw [this]
theorem numY_le:∀ (k:Int) (xs:List Sgt),∀ y∈numY k xs,k<=y.1/\y.1 < k+xs.length
 | _,[],y,h=>by cases h
 | k,x::xs,y,h=>by
  rcases List.mem_cons.mp h with rfl | h
  ·simp only [List.length_cons];omega
  ·have:=numY_le (k+1) xs y h
   simp only [List.length_cons];omega
abbrev Agree (hh:List Nat->Int) (xs:List Sgt):Prop:=∀ x∈xs,x.2.2=hh x.2.1 - hh x.1
theorem agree_hr {hh:List Nat->Int} {ys:List (Int×Sgt)} (h:Agree hh (ys.map (·.2))):HR hh (ys.map rwD):=fun x hx=>by
 obtain ⟨y,hy,rfl⟩:=List.mem_map.mp hx
 refine ⟨y.1,y.2.1,y.2.2.1,?_⟩
 rw [← h y.2 (List.mem_map.mpr ⟨y,hy,rfl⟩)]
abbrev bkC (t:Adr) (c:List Cell) (m k:Int) (ys:List (Int×Sgt)):List Cell:=c++[.ins t.c_Book (bookF m k (c.length+1)),.dct (kvR (ys.map rwD))]
theorem bkC_at (c:List Cell) (m k:Int) (ys:List (Int×Sgt)):BookAt t (bkC t c m k ys) c.length (c.length+1) m k (ys.map rwD):=⟨by simp,by simp⟩
theorem bkC_take (c:List Cell) (m k:Int) (ys:List (Int×Sgt)) (x:Sgt):takeC t (bkC t c m k ys) c.length (c.length+1) m k (ys.map rwD) (.str x.1) (.str x.2.1) (.int x.2.2)=bkC t c m (k+1) (ys++[(k+1,x)]):=by
 unfold takeC bkC
 simp [List.set_append]
theorem turn_ok {c:List Cell} {b j:Nat} {m k:Int} {ys:List (Int×Sgt)} {x:Sgt} {hh:List Nat->Int} (hs:Sg x) (ag:Agree hh (ys.map (·.2))) (ax:x.2.2=hh x.2.1 - hh x.1) (hk:∀ y∈ys,y.1<=k) (hl:ys.length<=100):
  (ys.map rwD).all okRow=true/\(∀ r∈ys.map rwD,numR r<=k)/\(ys.map rwD).length<=400/\sightD (sgD x)=true/\okT (sgD x) c=true/\∀ steps,Walk (ys.map rwD) x.2.1 x.1 [] steps->steps.all okRow=true/\sumS steps=x.2.2:=
 ⟨rw_ok ys,fun r hr=>by
  obtain ⟨y,hy,rfl⟩:=List.mem_map.mp hr
  exact hk y hy,by rw [List.length_map];omega,sight_ok hs.p hs.q hs.lo hs.hi,okT_sight _ c hs.p hs.q,fun steps w=>by
  rw [ax]
  exact walk_rise (agree_hr ag) w⟩
section
variable {c:List Cell} {b j:Nat} {m k:Int} {ys:List (Int×Sgt)} {x:Sgt} {hh:List Nat->Int}
theorem tk_ok (h:BookAt t c b j m k (ys.map rwD)) (hs:Sg x) (ag:Agree hh (ys.map (·.2))) (ax:x.2.2=hh x.2.1 - hh x.1) (hk:∀ y∈ys,y.1<=k) (hl:ys.length<=100) (hm:(ys.length:Int) < m):
  gN 4 (g_Book_take K t) [.hnd b,.str x.1,.str x.2.1,.int x.2.2] c=some (.ok (.int (k+1)) (takeC t c b j m k (ys.map rwD) (.str x.1) (.str x.2.1) (.int x.2.2))):=by
 obtain ⟨a1,a2,a3,a4,a5,a6⟩:=turn_ok (c:=c) (b:=b) (j:=j) (m:=m) hs ag ax hk hl
 exact call_take (K:=K) h a1 a2 a3 _ _ _ a4 a5 (by rw [List.length_map];omega) a6
theorem tk_ok_n (h:BookAt t c b j m k (ys.map rwD)) (hs:Sg x) (ag:Agree hh (ys.map (·.2))) (ax:x.2.2=hh x.2.1 - hh x.1) (hk:∀ y∈ys,y.1<=k) (hl:ys.length<=100) (hm:(ys.length:Int) < m):
  gN 4 (g_Book_take_n K t) [.hnd b,.str x.1,.str x.2.1,.int x.2.2] c=some (.ok (.int (k+1)) (takeC t c b j m k (ys.map rwD) (.str x.1) (.str x.2.1) (.int x.2.2))):=by
 obtain ⟨a1,a2,a3,a4,a5,a6⟩:=turn_ok (c:=c) (b:=b) (j:=j) (m:=m) hs ag ax hk hl
 exact call_take_n (K:=K) h a1 a2 a3 _ _ _ a4 a5 (by rw [List.length_map];omega) a6
theorem tk_full (h:BookAt t c b j m k (ys.map rwD)) (hs:Sg x) (hm:m<=(ys.length:Int)):gN 4 (g_Book_take K t) [.hnd b,.str x.1,.str x.2.1,.int x.2.2] c=some (.exc ⟨.ref t.x_Full,[]⟩ c):=
 call_take_full (K:=K) h _ _ _ (sight_ok hs.p hs.q hs.lo hs.hi) (okT_sight _ c hs.p hs.q) (by rw [List.length_map];exact hm)
end
abbrev N_read_n:List Str:=["text","most","sightings","book","sighting"]
theorem sc_read_n:FnScope N_read_n ["text","most"] (defScope s_read_n):=scs
noncomputable def t_read_n_b1 (K:Frag) (t:Adr):SD:=(sExpr (dMeth t.c_Book "take" 4 (g_Book_take_n K t) [] (dv 3) (aCons (d2 ixM (dv 4) (dc (.int 0))) (aCons (d2 ixM (dv 4) (dc (.int 1))) (aCons (d2 ixM (dv 4) (dc (.int 2))) aNil)))))
noncomputable def t_read_n (K:Frag) (t:Adr):SD:=(sSeq (sSet 2 (dCall 1 (g_read_sightings K t) [] (aCons (dv 0) aNil)))
  (sSeq (sSet 3 (dMake t.c_Book 2 (g_Book_init K t) [] (aCons (dv 1) aNil)))
  (sSeq (sForI (iVal (dv 2)) (gdName 4) (t_read_n_b1 K t))
  (sRet (dv 3)))))
noncomputable abbrev g_read_n (K:Frag) (t:Adr):FD:=gW (t_read_n K t) N_read_n
theorem r_read_n:RN 2 (g_read_n K t) (t_read_n K t) N_read_n:=run_W
abbrev stR (xs:List Sgt) (m:Int) (o2 o3 o4:Option D):L:=[some (.str (txT xs)),some (.int m),o2,o3,o4]
theorem call_read_n {xs:List Sgt} {hh:List Nat->Int} (hs:∀ x∈xs,Sg x) (ag:Agree hh xs) (hl:xs.length<=100) (m:Int) (hm:(xs.length:Int)<=m) (c:List Cell):
  gN 2 (g_read_n K t) [.str (txT xs),.int m] c=some (.ok (.hnd c.length) (bkC t c m xs.length (numY 1 xs))):=by
 have s1:startD N_read_n [.str (txT xs),.int m]=stR xs m none none none:=rfl
 let sg:=some (D.lst (xs.map sgD))
 obtain ⟨l',c',e,dn,rs,o4,e1,e2,e3,e4⟩:=forC_inv (chk:=fun _=>True) (g:=gdName 4) (body:=t_read_n_b1 K t)
  (fun zs l c'=>∃ (dn rs:List Sgt) (o4:Option D),xs=dn++rs/\zs=rs.map sgD/\c'=bkC t c m dn.length (numY 1 dn)/\l=stR xs m sg (some (.hnd c.length)) o4)
  (fun z zs l c' ⟨dn,rs,o4,e1,e2,e3,e4⟩=>by
   subst e3 e4
   cases rs with
   | nil=>cases e2
   | cons x rs=>
    simp only [List.map_cons,List.cons.injEq] at e2
    obtain ⟨rfl,rfl⟩:=e2
    have hx:x∈xs:=by rw [e1];simp
    have ld:dn.length < xs.length:=by rw [e1];simp
    have tk:=tk_ok_n (K:=K) (hh:=hh) (bkC_at (t:=t) c m dn.length (numY 1 dn)) (hs x hx) (fun y hy=>ag y (by rw [numY_snd] at hy;rw [e1];exact List.mem_append_left _ hy)) (ag x hx) (fun y hy=>by have:=numY_le 1 dn y hy;omega) (by rw [numY_len];omega) (by rw [numY_len];omega)
    rw [bkC_take] at tk
    have e5:numY 1 dn++[((dn.length:Int)+1,x)]=numY 1 (dn++[x]):=by
     rw [numY_app,show (1:Int)+dn.length=dn.length+1 by omega]
    rw [e5] at tk
    refine ⟨trivial,_,rfl,stR xs m sg (some (.hnd c.length)) (some (sgD x)),bkC t c m (dn++[x]).length (numY 1 (dn++[x])),.inl ?_,dn++[x],rs,_,by rw [e1];simp,rfl,rfl,rfl⟩
    have e6:(((dn++[x]).length:Nat):Int)=(dn.length:Int)+1:=by simp
    rw [e6]
    unfold t_read_n_b1
    have ix:∀ (i:Int) (d:D),ixM (sgD x) (.int i) (bkC t c m dn.length (numY 1 dn))=some (.ok d (bkC t c m dn.length (numY 1 dn)))->Ev (d2 ixM (dv 4) (dc (.int i))) (stR xs m sg (some (.hnd c.length)) (some (sgD x))) (bkC t c m dn.length (numY 1 dn)) d:=fun i d h=>ev2 (x:=sgD x) (y:=.int i) rfl rfl h
    exact expr_ok ((meth_ok (o:=.hnd c.length) (c1:=bkC t c m dn.length (numY 1 dn)) rfl (cellI_at (bkC_at (t:=t) c m dn.length (numY 1 dn)).ob) rfl (eva (ix 0 _ rfl) (eva (ix 1 _ rfl) (eva (ix 2 _ rfl) evn)))).trans tk))
  (fun _ _ _=>trivial) (xs.map sgD) (stR xs m sg (some (.hnd c.length)) none) (newB t c m) ⟨[],xs,none,rfl,rfl,rfl,rfl⟩
 subst e3 e4
 have e7:dn=xs:=by
  have:rs=[]:=List.map_eq_nil_iff.mp e2.symm
  rw [e1,this];simp
 subst e7
 refine call_W rfl ?_
 rw [s1]
 unfold t_read_n
 rw [seq_ok (l':=stR dn m sg none none) (c':=c) (set_ok (i:=2) (evc (eva (x:=.str (txT dn)) rfl evn) (call_rss (K:=K) (t:=t) hs hl c)))]
 rw [seq_ok (l':=stR dn m sg (some (.hnd c.length)) none) (c':=newB t c m) (set_ok (i:=3) (by
  unfold dMake
  rw [bd_ok (x:=[.int m]) (c':=c) (eva (x:=.int m) rfl evn)]
  exact make_book m c))]
 rw [seq_ok (l':=stR dn m sg (some (.hnd c.length)) o4) (c':=bkC t c m dn.length (numY 1 dn)) (by
  rw [for_ok (S:=⟨dn.map sgD,fun _=>True⟩) (c1:=newB t c m) rfl]
  exact e)]
 rfl
abbrev N_read:List Str:=["text","most","sightings","book","sighting"]
theorem sc_read:FnScope N_read ["text","most"] (defScope s_read):=scs
noncomputable def t_read_b1 (K:Frag) (t:Adr):SD:=(sExpr (dMeth t.c_Book "take" 4 (g_Book_take K t) [] (dv 3) (aCons (d2 ixM (dv 4) (dc (.int 0))) (aCons (d2 ixM (dv 4) (dc (.int 1))) (aCons (d2 ixM (dv 4) (dc (.int 2))) aNil)))))
noncomputable def t_read (K:Frag) (t:Adr):SD:=(sSeq (sSet 2 (dCall 1 (g_read_sightings K t) [] (aCons (dv 0) aNil)))
  (sSeq (sSet 3 (dMake t.c_Book 2 (g_Book_init K t) [] (aCons (dv 1) aNil)))
  (sSeq (sForI (iVal (dv 2)) (gdName 4) (t_read_b1 K t))
  (sRet (dv 3)))))
noncomputable abbrev g_read (K:Frag) (t:Adr):FD:=gWX (t_read K t) N_read
theorem r_read:∀ ds c r,ds.length=2->g_read K t ds c=some r->Fin2 c (t_read K t (startD N_read ds) c) (some r):=run_WX
theorem call_read_full {xs:List Sgt} {hh:List Nat->Int} (hs:∀ x∈xs,Sg x) (ag:Agree hh xs) (h0:0 < xs.length) (hl:xs.length<=2) (c:List Cell):
  ∃ ex,gN 2 (g_read K t) [.str (txT xs),.int ((xs.length:Int) - 1)] c=some (.exc ⟨.ref t.x_Full,[]⟩ (c++ex)):=by
 obtain ⟨m,hm⟩:∃ m:Int,m=(xs.length:Int) - 1:=⟨_,rfl⟩
 rw [← hm]
 have s1:startD N_read [.str (txT xs),.int m]=stR xs m none none none:=rfl
 let sg:=some (D.lst (xs.map sgD))
 have body:∀ (ys:List (Int×Sgt)) (k:Int) (x:Sgt) (r:Out D) (o:Option D),gN 4 (g_Book_take K t) [.hnd c.length,.str x.1,.str x.2.1,.int x.2.2] (bkC t c m k ys)=some r->dMeth t.c_Book "take" 4 (g_Book_take K t) [] (dv 3) (aCons (d2 ixM (dv 4) (dc (.int 0))) (aCons (d2 ixM (dv 4) (dc (.int 1))) (aCons (d2 ixM (dv 4) (dc (.int 2))) aNil))) (stR xs m sg (some (.hnd c.length)) (some (sgD x))) (bkC t c m k ys)=some r:=fun ys k x r o h=>by
  have ix:∀ (i:Int) (d:D),ixM (sgD x) (.int i) (bkC t c m k ys)=some (.ok d (bkC t c m k ys))->Ev (d2 ixM (dv 4) (dc (.int i))) (stR xs m sg (some (.hnd c.length)) (some (sgD x))) (bkC t c m k ys) d:=fun i d h=>ev2 (x:=sgD x) (y:=.int i) rfl rfl h
  exact (meth_ok (o:=.hnd c.length) (c1:=bkC t c m k ys) rfl (cellI_at (bkC_at (t:=t) c m k ys).ob) rfl (eva (ix 0 _ rfl) (eva (ix 1 _ rfl) (eva (ix 2 _ rfl) evn)))).trans h
 have loop:∃ ex,forC (fun _=>True) (gdName 4) (t_read_b1 K t) (xs.map sgD) (stR xs m sg (some (.hnd c.length)) none) (bkC t c m 0 [])=some (.exc ⟨.ref t.x_Full,[]⟩ (c++ex)):=by
  match xs,hs,ag,h0,hl,hm with
  | [x],hs,ag,_,_,hm=>
   refine ⟨[.ins t.c_Book (bookF m 0 (c.length+1)),.dct (kvR (([]:List (Int×Sgt)).map rwD))],forC_exc (l1:=stR [x] m sg (some (.hnd c.length)) (some (sgD x))) rfl ?_⟩
   unfold t_read_b1
   exact expr_exc (body [] 0 x _ none (tk_full (K:=K) (bkC_at (t:=t) c m 0 []) (hs x List.mem_cons_self) (by simp only [List.length_cons,List.length_nil] at hm ⊢;omega)))
  | [x,y],hs,ag,_,_,hm=>
   have m1:m=1:=by simp only [List.length_cons,List.length_nil] at hm;omega
   have tk:=tk_ok (K:=K) (hh:=hh) (bkC_at (t:=t) c m 0 []) (hs x List.mem_cons_self) (fun y hy=>by cases hy) (ag x List.mem_cons_self) (fun y hy=>by cases hy) (by simp) (by rw [m1];decide)
   rw [bkC_take] at tk
   refine ⟨[.ins t.c_Book (bookF m (0+1) (c.length+1)),.dct (kvR (([]++[((0:Int)+1,x)]:List (Int×Sgt)).map rwD))],(forC_cons (l1:=stR [x,y] m sg (some (.hnd c.length)) (some (sgD x))) (l2:=stR [x,y] m sg (some (.hnd c.length)) (some (sgD x))) (c2:=bkC t c m (0+1) ([]++[(0+1,x)])) rfl (by
    unfold t_read_b1
    exact expr_ok (body [] 0 x _ none tk))).trans (forC_exc (l1:=stR [x,y] m sg (some (.hnd c.length)) (some (sgD y))) rfl ?_)⟩
   unfold t_read_b1
   exact expr_exc (body _ _ y _ none (tk_full (K:=K) (bkC_at (t:=t) c m (0+1) ([]++[(0+1,x)])) (hs y (by simp)) (by rw [m1];simp)))
 obtain ⟨ex,e⟩:=loop
 refine ⟨ex,call_WXx rfl ?_⟩
 rw [s1]
 unfold t_read
 rw [seq_ok (l':=stR xs m sg none none) (c':=c) (set_ok (i:=2) (evc (eva (x:=.str (txT xs)) rfl evn) (call_rss (K:=K) (t:=t) hs (by omega) c)))]
 rw [seq_ok (l':=stR xs m sg (some (.hnd c.length)) none) (c':=bkC t c m 0 []) (set_ok (i:=3) (by
  unfold dMake
  rw [bd_ok (x:=[.int m]) (c':=c) (eva (x:=.int m) rfl evn)]
  exact make_book m c))]
 refine seq_exc ?_
 rw [for_ok (S:=⟨xs.map sgD,fun _=>True⟩) (c1:=bkC t c m 0 []) rfl]
 exact e
abbrev N_law_full:List Str:=["_law_text_here","_law_most"]
theorem sc_law_full:FnScope N_law_full ["_law_text_here","_law_most"] (defScope s_law_full):=scs
noncomputable def t_law_full (K:Frag) (t:Adr):SD:=(sSeq (sTry (sExpr (dCallX 2 (g_read K t) [] (aCons (dv 0) (aCons (dv 1) aNil)))) (hBare K t.x_Full (sRet (dc (.bl true))) hNil))
  (sRet (dc (.bl false))))
noncomputable abbrev g_law_full (K:Frag) (t:Adr):FD:=gC (t_law_full K t) N_law_full
theorem r_law_full:RN 2 (g_law_full K t) (t_law_full K t) N_law_full:=run_C
theorem call_full (T:Txt K mg t) {xs:List Sgt} {hh:List Nat->Int} (hs:∀ x∈xs,Sg x) (ag:Agree hh xs) (h0:0 < xs.length) (hl:xs.length<=2) (c:List Cell):gN 2 (g_law_full K t) [.str (txT xs),.int ((xs.length:Int) - 1)] c=some (.ok (.bl true) c):=by
 obtain ⟨ex,e⟩:=call_read_full (K:=K) (t:=t) hs ag h0 hl c
 let st:L:=[some (.str (txT xs)),some (.int ((xs.length:Int) - 1))]
 have s1:startD N_law_full [.str (txT xs),.int ((xs.length:Int) - 1)]=st:=rfl
 refine call_C rfl (c':=c++ex) ?_ rfl (Kept.app c ex) (take_app c ex)
 rw [s1]
 unfold t_law_full
 have e0:dCallX 2 (g_read K t) [] (aCons (dv 0) (aCons (dv 1) aNil)) st c=some (.exc ⟨.ref t.x_Full,[]⟩ (c++ex)):=(callX_ok (eva (x:=.str (txT xs)) rfl (eva (x:=.int ((xs.length:Int) - 1)) rfl evn))).trans e
 exact seq_ret ((try_exc (expr_exc e0)).trans ((bare_yes (e:=⟨.ref t.x_Full,[]⟩) T.em_Full_Full).trans rfl))
abbrev N_law_no_room:List Str:=["_law_book","_law_one"]
theorem sc_law_no_room:FnScope N_law_no_room ["_law_book","_law_one"] (defScope s_law_no_room):=scs
noncomputable def t_law_no_room (K:Frag) (t:Adr):SD:=(sSeq (sTry (sExpr (dMethX t.c_Book "take" 4 (g_Book_take K t) [] (dv 0) (aCons (d2 ixM (dv 1) (dc (.int 0))) (aCons (d2 ixM (dv 1) (dc (.int 1))) (aCons (d2 ixM (dv 1) (dc (.int 2))) aNil))))) (hBare K t.x_Full (sRet (dc (.bl true))) hNil))
  (sRet (dc (.bl false))))
noncomputable abbrev g_law_no_room (K:Frag) (t:Adr):FD:=gC (t_law_no_room K t) N_law_no_room
theorem r_law_no_room:RN 2 (g_law_no_room K t) (t_law_no_room K t) N_law_no_room:=run_C
theorem call_no_room (T:Txt K mg t) {c:List Cell} {b j:Nat} {m k:Int} {ys:List (Int×Sgt)} {x:Sgt} (h:BookAt t c b j m k (ys.map rwD)) (hs:Sg x) (hm:m<=(ys.length:Int)):gN 2 (g_law_no_room K t) [.hnd b,sgD x] c=some (.ok (.bl true) c):=by
 let st:L:=[some (.hnd b),some (sgD x)]
 have s1:startD N_law_no_room [.hnd b,sgD x]=st:=rfl
 have ix:∀ (i:Int) (d:D),ixM (sgD x) (.int i) c=some (.ok d c)->Ev (d2 ixM (dv 1) (dc (.int i))) st c d:=fun i d h=>ev2 (x:=sgD x) (y:=.int i) rfl rfl h
 refine call_C rfl (c':=c) ?_ rfl (Kept.refl c) List.take_length
 rw [s1]
 unfold t_law_no_room
 refine seq_ret ((try_exc (expr_exc ((methX_ok (o:=.hnd b) (c1:=c) rfl (cellI_at h.ob) rfl (eva (ix 0 _ rfl) (eva (ix 1 _ rfl) (eva (ix 2 _ rfl) evn)))).trans (tk_full (K:=K) h hs hm)))).trans ((bare_yes T.em_Full_Full).trans rfl))
abbrev N_law_kept:List Str:=["_law_found","_law_numbers","_law_some","_law_row","_law_number","_law_one"]
theorem sc_law_kept:FnScope N_law_kept ["_law_found","_law_numbers","_law_some"] (defScope s_law_kept):=scs
noncomputable def t_law_kept_b1:SD:=(sSeq (sIf (dOrT (dNotT (dTru (d1 (isiM .tup) (dv 3)))) (dOrT (tOf (d2 (eqM true) (d1 lenM (dv 3)) (dc (.int 4)))) (dOrT (dNotT (dTru (dCall 1 g_law_whole [] (aCons (d2 ixM (dv 3) (dc (.int 0))) aNil)))) (dNotT (dTru (dCall 1 g_law_whole [] (aCons (d2 ixM (dv 3) (dc (.int 3))) aNil))))))) (sRet (dc (.bl false))) sNil)
  (sIf (tOf (d2 (eqM true) (dv 3) (dTup (aCons (dv 4) (aCons (d2 ixM (dv 5) (dc (.int 0))) (aCons (d2 ixM (dv 5) (dc (.int 1))) (aCons (d2 ixM (dv 5) (dc (.int 2))) aNil))))))) (sRet (dc (.bl false))) sNil))
noncomputable def t_law_kept:SD:=(sSeq (sIf (dOrT (dNotT (dTru (d1 (isiM .lst) (dv 0)))) (tOf (d2 (eqM true) (d1 lenM (dv 0)) (d1 lenM (dv 2))))) (sRet (dc (.bl false))) sNil)
  (sSeq (sForI (iZip3 (dv 0) (dv 1) (dv 2)) (gdTrip 3 4 5) t_law_kept_b1)
  (sRet (dc (.bl true)))))
noncomputable abbrev g_law_kept:FD:=gC t_law_kept N_law_kept
theorem r_law_kept:RN 3 g_law_kept t_law_kept N_law_kept:=run_C
theorem zip3_ys:∀ ys:List (Int×Sgt),zip3 (ys.map rwD) (ys.map fun y=>D.int y.1) (ys.map fun y=>sgD y.2)=ys.map fun y=>D.tup [rwD y,.int y.1,sgD y.2]
 | []=>rfl
 | y::ys=>by
  simp only [List.map_cons,zip3]
  rw [zip3_ys ys]
theorem call_law_kept (ys:List (Int×Sgt)) (c:List Cell):gN 3 g_law_kept [.lst (ys.map rwD),.lst (ys.map fun y=>D.int y.1),.lst (ys.map fun y=>sgD y.2)] c=some (.ok (.bl true) c):=by
 let st (o3 o4 o5:Option D):L:=[some (.lst (ys.map rwD)),some (.lst (ys.map fun y=>D.int y.1)),some (.lst (ys.map fun y=>sgD y.2)),o3,o4,o5]
 have s1:startD N_law_kept [.lst (ys.map rwD),.lst (ys.map fun y=>D.int y.1),.lst (ys.map fun y=>sgD y.2)]=st none none none:=rfl
 have t1:EvT (dOrT (dNotT (dTru (d1 (isiM .lst) (dv 0)))) (tOf (d2 (eqM true) (d1 lenM (dv 0)) (d1 lenM (dv 2))))) (st none none none) c false:=
  et_orf (et_not (b:=true) (et_tru (ev1 (x:=.lst (ys.map rwD)) rfl rfl))) (et_of (ev2 (ev1 (x:=.lst (ys.map rwD)) (z:=.int (ys.map rwD).length) rfl rfl) (ev1 (x:=.lst (ys.map fun y=>sgD y.2)) (z:=.int (ys.map fun y=>sgD y.2).length) rfl rfl) (by simp [eqM,viewD,shal,eqD])))
 obtain ⟨l',c',e,o3,o4,o5,el,ec,_⟩:=forC_inv (chk:=fun _=>True) (g:=gdTrip 3 4 5) (body:=t_law_kept_b1) (fun zs l c'=>∃ o3 o4 o5,l=st o3 o4 o5/\c'=c/\∀ z∈zs,∃ y:Int×Sgt,z=D.tup [rwD y,.int y.1,sgD y.2])
  (fun z zs l c' ⟨o3,o4,o5,el,ec,hz⟩=>by
   subst el ec
   obtain ⟨y,rfl⟩:=hz z List.mem_cons_self
   refine ⟨trivial,st (some (rwD y)) (some (.int y.1)) (some (sgD y.2)),rfl,st (some (rwD y)) (some (.int y.1)) (some (sgD y.2)),c',.inl ?_,_,_,_,rfl,rfl,fun w hw=>hz w (List.mem_cons_of_mem _ hw)⟩
   unfold t_law_kept_b1
   have ix:∀ (i:Int) (d:D),ixM (rwD y) (.int i) c'=some (.ok d c')->Ev (d2 ixM (dv 3) (dc (.int i))) (st (some (rwD y)) (some (.int y.1)) (some (sgD y.2))) c' d:=fun i d h=>ev2 (x:=rwD y) (y:=.int i) rfl rfl h
   have iy:∀ (i:Int) (d:D),ixM (sgD y.2) (.int i) c'=some (.ok d c')->Ev (d2 ixM (dv 5) (dc (.int i))) (st (some (rwD y)) (some (.int y.1)) (some (sgD y.2))) c' d:=fun i d h=>ev2 (x:=sgD y.2) (y:=.int i) rfl rfl h
   have u1:EvT (dOrT (dNotT (dTru (d1 (isiM .tup) (dv 3)))) (dOrT (tOf (d2 (eqM true) (d1 lenM (dv 3)) (dc (.int 4)))) (dOrT (dNotT (dTru (dCall 1 g_law_whole [] (aCons (d2 ixM (dv 3) (dc (.int 0))) aNil)))) (dNotT (dTru (dCall 1 g_law_whole [] (aCons (d2 ixM (dv 3) (dc (.int 3))) aNil))))))) (st (some (rwD y)) (some (.int y.1)) (some (sgD y.2))) c' false:=
    et_orf (et_not (b:=true) (et_tru (ev1 (x:=rwD y) rfl rfl))) (et_orf (et_of (ev2 (ev1 (x:=rwD y) (z:=.int 4) rfl rfl) (y:=.int 4) rfl (by simp [eqM,viewD,shal,eqD]))) (et_orf (et_not (b:=true) (et_tru (evc (eva (ix 0 (.int y.1) rfl) evn) (call_whole y.1 c')))) (et_not (b:=true) (et_tru (evc (eva (ix 3 (.int y.2.2.2) rfl) evn) (call_whole y.2.2.2 c'))))))
   rw [seq_ok (l':=st (some (rwD y)) (some (.int y.1)) (some (sgD y.2))) (c':=c') ((if_f u1).trans rfl)]
   refine (if_f (et_of (b:=false) (ev2 (x:=rwD y) rfl (evt (eva (x:=.int y.1) rfl (eva (iy 0 (.str y.2.1) rfl) (eva (iy 1 (.str y.2.2.1) rfl) (eva (iy 2 (.int y.2.2.2) rfl) evn))))) (by simp [eqM,viewD,shal,eqD,eqDs])))).trans rfl)
  (fun _ _ _=>trivial) (ys.map fun y=>D.tup [rwD y,.int y.1,sgD y.2]) (st none none none) c ⟨none,none,none,rfl,rfl,fun z hz=>by
   obtain ⟨y,_,rfl⟩:=List.mem_map.mp hz
   exact ⟨y,rfl⟩⟩
 subst el ec
 refine call_C rfl (c':=c') ?_ rfl (Kept.refl c') List.take_length
 rw [s1]
 unfold t_law_kept
 rw [seq_ok (l':=st none none none) (c':=c') ((if_f t1).trans rfl)]
 rw [seq_ok (l':=st o3 o4 o5) (c':=c') (by
  rw [for_ok (S:=⟨ys.map fun y=>D.tup [rwD y,.int y.1,sgD y.2],fun _=>True⟩) (c1:=c') (by
   unfold iZip3
   rw [bd_ok (x:=.lst (ys.map rwD)) (c':=c') rfl,bd_ok (x:=.lst (ys.map fun y=>D.int y.1)) (c':=c') rfl,bd_ok (x:=.lst (ys.map fun y=>sgD y.2)) (c':=c') rfl]
   unfold zipM
   simp only
   rw [if_pos (by simp),zip3_ys]
   rfl)]
  exact e)]
 rfl
abbrev N_law_read:List Str:=["_law_some","_law_wide","_law_text_here","_law_numbers","_law_book","_law_again","_law_found"]
theorem sc_law_read:FnScope N_law_read ["_law_some","_law_wide"] (defScope s_law_read):=scs
noncomputable def t_law_read (K:Frag) (t:Adr):SD:=(sSeq (sSet 2 (dCall 1 g_law_text [] (aCons (dv 0) aNil)))
  (sSeq (sSet 3 (dComp (iR1 (d1 lenM (dv 0))) [] (gdName 0) pTrue (d2 addD (dc (.int 1)) (dv 0))))
  (sSeq (sSet 4 (dCall 2 (g_read_n K t) [] (aCons (dv 2) (aCons (d1 lenM (dv 0)) aNil))))
  (sSeq (sIf (dTru (dv 1)) (sSet 4 (dCall 2 (g_read_n K t) [.int 200] (aCons (dv 2) aNil))) sNil)
  (sSeq (sIf (dOrT (dNotT (dTru (d1 (isiC t.c_Book) (dv 4)))) (dNotT (dTru (dCall 3 g_law_kept [] (aCons (dMeth t.c_Book "kept" 1 (g_Book_kept K t) [] (dv 4) aNil) (aCons (dv 3) (aCons (dv 0) aNil))))))) (sRet (dc (.bl false))) sNil)
  (sSeq (sExpr (mM .lst clearM (dMeth t.c_Book "kept" 1 (g_Book_kept_c K t) [] (dv 4) aNil) aNil))
  (sSeq (sIf (dOrT (dNotT (dTru (dCall 3 g_law_kept [] (aCons (dMeth t.c_Book "kept" 1 (g_Book_kept K t) [] (dv 4) aNil) (aCons (dv 3) (aCons (dv 0) aNil)))))) (dNotT (dTru (dCall 2 (g_law_shows K t) [] (aCons (dv 4) (aCons (dv 0) aNil)))))) (sRet (dc (.bl false))) sNil)
  (sSeq (sIf (dAndT (tOf (d2 gtD (d1 lenM (dv 0)) (dc (.int 0)))) (dNotT (dTru (dCall 2 (g_law_full K t) [] (aCons (dv 2) (aCons (d2 subD (d1 lenM (dv 0)) (dc (.int 1))) aNil)))))) (sRet (dc (.bl false))) sNil)
  (sSeq (sSet 5 (dTup (aCons (dc (.str [112,101,103])) (aCons (dc (.str [112,101,103])) (aCons (dc (.int 0)) aNil)))))
  (sSeq (sIf (dNotT (dTru (dv 1))) (sRet (dCall 2 (g_law_no_room K t) [] (aCons (dv 4) (aCons (dv 5) aNil)))) sNil)
  (sSeq (sSet 6 (dMeth t.c_Book "take" 4 (g_Book_take_n K t) [] (dv 4) (aCons (d2 ixM (dv 5) (dc (.int 0))) (aCons (d2 ixM (dv 5) (dc (.int 1))) (aCons (d2 ixM (dv 5) (dc (.int 2))) aNil)))))
  (sRet (dAndV (dCall 1 g_law_whole [] (aCons (dv 6) aNil)) (dAndV (d2 (eqM false) (dv 6) (d2 addD (d1 lenM (dv 0)) (dc (.int 1)))) (dCall 2 (g_law_shows K t) [] (aCons (dv 4) (aCons (d2 addD (dv 0) (dLst (aCons (dv 5) aNil))) aNil)))))))))))))))))
noncomputable abbrev g_law_read (K:Frag) (t:Adr):FD:=gC (t_law_read K t) N_law_read
theorem r_law_read:RN 2 (g_law_read K t) (t_law_read K t) N_law_read:=run_C
abbrev pegS:Sgt:=([112,101,103],[112,101,103],0)
theorem sg_peg:Sg pegS:=⟨by decide,by decide,by decide,by decide⟩
theorem numY_ints:∀ (k:Int) (xs:List Sgt),(numY k xs).map (fun y=>D.int y.1)=rangeD k xs.length
 | k,[]=>rfl
 | k,x::xs=>by
  have ih:=numY_ints (k+1) xs
  unfold rangeD at ih ⊢
  simp only [numY,List.map_cons,List.length_cons,List.range_succ_eq_map,List.map_map]
  rw [ih]
  rw [List.cons.injEq]
  refine ⟨by simp,List.map_congr_left fun i _=>?_⟩
  show D.int (k+1+(i:Int))=D.int (k+((i+1:Nat):Int))
  rw [show k+1+(i:Int)=k+((i+1:Nat):Int) by omega]
theorem call_law_read (T:Txt K mg t) {xs:List Sgt} {hh:List Nat->Int} (hs:∀ x∈xs,Sg x) (ag:Agree hh xs) (hl:xs.length<=2) (wide:Bool) (c:List Cell):gN 2 (g_law_read K t) [.lst (xs.map sgD),.bl wide] c=some (.ok (.bl true) c):=by
 let n:Int:=xs.length
 let ys:=numY 1 xs
 let nums:=D.lst (ys.map fun y=>D.int y.1)
 let st (o2 o3 o4 o5 o6:Option D):L:=[some (.lst (xs.map sgD)),some (.bl wide),o2,o3,o4,o5,o6]
 have s1:startD N_law_read [.lst (xs.map sgD),.bl wide]=st none none none none none:=rfl
 let tx1:=some (D.str (txT xs))
 have es:xs=ys.map (·.2):=(numY_snd 1 xs).symm
 have ly:ys.length=xs.length:=numY_len 1 xs
 have sgs:ys.map (fun y=>sgD y.2)=xs.map sgD:=by
  conv=>rhs;rw [es]
  rw [List.map_map];rfl
 have ln:∀ (o2 o3 o4 o5 o6:Option D) (cc:List Cell),Ev (d1 lenM (dv 0)) (st o2 o3 o4 o5 o6) cc (.int n):=fun o2 o3 o4 o5 o6 cc=>ev1 (x:=.lst (xs.map sgD)) rfl (by unfold lenM;simp only [List.length_map];rfl)
 have e3:Ev (dComp (iR1 (d1 lenM (dv 0))) [] (gdName 0) pTrue (d2 addD (dc (.int 1)) (dv 0))) (st tx1 none none none none) c nums:=by
  show dComp _ _ _ _ _ _ _=_
  rw [comp_ok (S:=⟨rangeD 0 n.toNat,fun _=>True⟩) (iR1_ok (ln _ _ _ _ _ c) (by omega) (by omega))]
  rw [show l0 [] (st tx1 none none none none)=[none] from rfl]
  rw [comp_mapC (f:=fun d=>match d with | .int i=>.int (1+i) | _=>.non) c trivial (rangeD 0 n.toNat) [] none (fun y hy=>by
   obtain ⟨i,_,rfl⟩:=List.mem_map.mp hy
   exact evAdd (a:=1) (b:=0+(i:Nat)) rfl rfl) (by simp [rangeD];omega)]
  show some (Out.ok (D.lst ([]++(rangeD 0 n.toNat).map _)) c)=some (.ok (.lst ((numY 1 xs).map fun y=>D.int y.1)) c)
  rw [numY_ints,List.nil_append]
  unfold rangeD
  rw [List.map_map]
  have:n.toNat=xs.length:=by omega
  rw [this]
  congr 3
  refine List.map_congr_left fun i _=>?_
  show D.int (1+(0+(i:Int)))=D.int (1+(i:Int))
  rw [Int.zero_add]
 let ca:=bkC t c n n ys
 have r1:=call_read_n (K:=K) (t:=t) hs ag (by omega) n (Int.le_refl _) c
 obtain ⟨cb,b,j,m,hb,ex,eb,e5,hm⟩:∃ (cb:List Cell) (b j:Nat) (m:Int),BookAt t cb b j m n (ys.map rwD)/\∃ ex,cb=c++ex/\sIf (dTru (dv 1)) (sSet 4 (dCall 2 (g_read_n K t) [.int 200] (aCons (dv 2) aNil))) sNil (st tx1 (some nums) (some (.hnd c.length)) none none) ca=some (.ok (.nx (st tx1 (some nums) (some (.hnd b)) none none)) cb)/\((wide=true/\m=200/\cb=bkC t ca 200 n ys/\b=ca.length/\j=ca.length+1)\/(wide=false/\m=n)):=by
  cases wide with
  | true=>
   have r2:=call_read_n (K:=K) (t:=t) hs ag (by omega) 200 (by omega) ca
   refine ⟨bkC t ca 200 n ys,ca.length,ca.length+1,200,bkC_at (t:=t) ca 200 n ys,_,List.append_assoc _ _ _,?_,.inl ⟨rfl,rfl,rfl,rfl,rfl⟩⟩
   exact (if_t (et_tru (b:=true) rfl)).trans (set_ok (i:=4) ((dCall_ok (dds:=[.int 200]) (eva (x:=.str (txT xs)) rfl evn)).trans r2))
  | false=>exact ⟨ca,c.length,c.length+1,n,bkC_at (t:=t) c n n ys,_,rfl,(if_f (et_tru (b:=false) rfl)).trans rfl,.inr ⟨rfl,rfl⟩⟩
 let su (o5 o6:Option D):L:=st tx1 (some nums) (some (.hnd b)) o5 o6
 have kp:∀ {cc:List Cell} (h:BookAt t cc b j m n (ys.map rwD)) (o5 o6:Option D),Ev (dMeth t.c_Book "kept" 1 (g_Book_kept K t) [] (dv 4) aNil) (su o5 o6) cc (.lst (ys.map rwD)):=fun {cc} h o5 o6=>(meth_ok (o:=.hnd b) (c1:=cc) rfl (cellI_at h.ob) rfl aNil_ok).trans (call_kept (K:=K) h (rw_ok ys))
 have lk:∀ {cc:List Cell} (h:BookAt t cc b j m n (ys.map rwD)),Ev (dCall 3 g_law_kept [] (aCons (dMeth t.c_Book "kept" 1 (g_Book_kept K t) [] (dv 4) aNil) (aCons (dv 3) (aCons (dv 0) aNil)))) (su none none) cc (.bl true):=fun {cc} h=>by
  have:=call_law_kept ys cc
  rw [sgs] at this
  exact evc (eva (kp h none none) (eva (x:=nums) rfl (eva (x:=.lst (xs.map sgD)) rfl evn))) this
 have t1:EvT (dOrT (dNotT (dTru (d1 (isiC t.c_Book) (dv 4)))) (dNotT (dTru (dCall 3 g_law_kept [] (aCons (dMeth t.c_Book "kept" 1 (g_Book_kept K t) [] (dv 4) aNil) (aCons (dv 3) (aCons (dv 0) aNil))))))) (su none none) cb false:=
  et_orf (et_not (b:=true) (et_tru (ev1 (x:=.hnd b) rfl (by unfold isiC;rw [cellI_at hb.ob])))) (et_not (b:=true) (et_tru (lk hb)))
 let cc:=cb++[Cell.lst []]
 have hc:BookAt t cc b j m n (ys.map rwD):=hb.app
 have e6:sExpr (mM .lst clearM (dMeth t.c_Book "kept" 1 (g_Book_kept_c K t) [] (dv 4) aNil) aNil) (su none none) cb=some (.ok (.nx (su none none)) cc):=by
  refine expr_ok (x:=.non) ((mM_ok (x:=.hnd cb.length) (c1:=cb++[.lst (ys.map rwD)]) ((meth_ok (o:=.hnd b) (c1:=cb) rfl (cellI_at hb.ob) rfl aNil_ok).trans (call_kept_c (K:=K) hb)) (by unfold tyM;simp) aNil_ok).trans ?_)
  unfold clearM
  have:cellL (.hnd cb.length) (cb++[Cell.lst (ys.map rwD)])=some (cb.length,ys.map rwD):=by simp [cellL]
  rw [this]
  simp only
  rw [List.set_append_right _ _ (Nat.le_refl _)]
  simp [cc]
 have t2:EvT (dOrT (dNotT (dTru (dCall 3 g_law_kept [] (aCons (dMeth t.c_Book "kept" 1 (g_Book_kept K t) [] (dv 4) aNil) (aCons (dv 3) (aCons (dv 0) aNil)))))) (dNotT (dTru (dCall 2 (g_law_shows K t) [] (aCons (dv 4) (aCons (dv 0) aNil)))))) (su none none) cc false:=
  et_orf (et_not (b:=true) (et_tru (lk hc))) (et_not (b:=true) (et_tru (evc (eva (x:=.hnd b) rfl (eva (x:=.lst (xs.map sgD)) rfl evn)) (call_shows (K:=K) hc es hs (by omega)))))
 have t3:EvT (dAndT (tOf (d2 gtD (d1 lenM (dv 0)) (dc (.int 0)))) (dNotT (dTru (dCall 2 (g_law_full K t) [] (aCons (dv 2) (aCons (d2 subD (d1 lenM (dv 0)) (dc (.int 1))) aNil)))))) (su none none) cc false:=by
  have g:=et_of (b:=decide ((0:Int) < n)) (ev2 (f:=gtD) (tb:=dc (.int 0)) (ln tx1 (some nums) (some (.hnd b)) none none cc) (y:=.int 0) rfl rfl)
  by_cases z:(0:Int) < n
  ·rw [decide_eq_true z] at g
   exact et_andt g (et_not (b:=true) (et_tru (evc (eva (x:=.str (txT xs)) rfl (eva (evSub (ln _ _ _ _ _ cc) (b:=1) rfl) evn)) (call_full T hs ag (by omega) hl cc))))
  ·rw [decide_eq_false z] at g
   exact et_andf g
 have kc:∀ y,Kept c (c++y):=fun y=>Kept.app c y
 have e9:sSet 5 (dTup (aCons (dc (.str [112,101,103])) (aCons (dc (.str [112,101,103])) (aCons (dc (.int 0)) aNil)))) (su none none) cc=some (.ok (.nx (su (some (sgD pegS)) none)) cc):=set_ok (i:=5) (evt (eva (x:=.str [112,101,103]) rfl (eva (x:=.str [112,101,103]) rfl (eva (x:=.int 0) rfl evn))))
 have fin:∀ (R:Option (Out Fl)),sSeq (sIf (dNotT (dTru (dv 1))) (sRet (dCall 2 (g_law_no_room K t) [] (aCons (dv 4) (aCons (dv 5) aNil)))) sNil)
   (sSeq (sSet 6 (dMeth t.c_Book "take" 4 (g_Book_take_n K t) [] (dv 4) (aCons (d2 ixM (dv 5) (dc (.int 0))) (aCons (d2 ixM (dv 5) (dc (.int 1))) (aCons (d2 ixM (dv 5) (dc (.int 2))) aNil)))))
   (sRet (dAndV (dCall 1 g_law_whole [] (aCons (dv 6) aNil)) (dAndV (d2 (eqM false) (dv 6) (d2 addD (d1 lenM (dv 0)) (dc (.int 1)))) (dCall 2 (g_law_shows K t) [] (aCons (dv 4) (aCons (d2 addD (dv 0) (dLst (aCons (dv 5) aNil))) aNil))))))) (su (some (sgD pegS)) none) cc=R->t_law_read K t (startD N_law_read [.lst (xs.map sgD),.bl wide]) c=R:=fun R hR=>by
  rw [s1]
  unfold t_law_read
  rw [seq_ok (l':=st tx1 none none none none) (c':=c) (set_ok (i:=2) (evc (eva (x:=.lst (xs.map sgD)) rfl evn) (call_text hs (by omega) c)))]
  rw [seq_ok (l':=st tx1 (some nums) none none none) (c':=c) (set_ok (i:=3) e3)]
  rw [seq_ok (l':=st tx1 (some nums) (some (.hnd c.length)) none none) (c':=ca) (set_ok (i:=4) ((dCall_ok (dds:=[]) (eva (x:=.str (txT xs)) rfl (eva (ln _ _ _ _ _ c) evn))).trans r1))]
  rw [seq_ok e5,seq_ok (l':=su none none) (c':=cb) ((if_f t1).trans rfl),seq_ok e6,seq_ok (l':=su none none) (c':=cc) ((if_f t2).trans rfl),seq_ok (l':=su none none) (c':=cc) ((if_f t3).trans rfl),seq_ok e9]
  exact hR
 rcases hm with ⟨rfl,rfl,ecb,eb2,ej⟩ | ⟨rfl,rfl⟩
 ·subst ecb eb2 ej
  have ix:∀ (i:Int) (d:D),ixM (sgD pegS) (.int i) cc=some (.ok d cc)->Ev (d2 ixM (dv 5) (dc (.int i))) (su (some (sgD pegS)) none) cc d:=fun i d h=>ev2 (x:=sgD pegS) (y:=.int i) rfl rfl h
  have tk:=tk_ok_n (K:=K) (hh:=hh) (x:=pegS) hc sg_peg (by rw [← es];exact ag) (by simp) (fun y hy=>by have:=numY_le 1 xs y hy;omega) (by omega) (by omega)
  let cd:=takeC t cc ca.length (ca.length+1) 200 n (ys.map rwD) (.str pegS.1) (.str pegS.2.1) (.int pegS.2.2)
  have hd:BookAt t cd ca.length (ca.length+1) 200 (n+1) ((ys++[(n+1,pegS)]).map rwD):=by
   have:=takeC_book (x:=.str pegS.1) (y:=.str pegS.2.1) (z:=.int pegS.2.2) hc
   rw [List.map_append]
   exact this
  have ecd:∃ y,cd=c++y:=by
   refine ⟨cd.drop c.length,?_⟩
   have:cd.take c.length=c:=by
    show ((cc.set ca.length _).set (ca.length+1) _).take c.length=c
    have l1:c.length<=ca.length:=by simp [ca]
    rw [List.take_set_of_le (by omega),List.take_set_of_le (by omega)]
    show ((c++_)++_++_:List Cell).take c.length=c
    rw [List.append_assoc,List.append_assoc]
    exact take_app c _
   conv=>lhs;rw [← List.take_append_drop c.length cd,this]
  obtain ⟨yy,ey⟩:=ecd
  have e7:(xs++[pegS])=(ys++[(n+1,pegS)]).map (·.2):=by rw [List.map_append,← es];rfl
  have sh:=call_shows (K:=K) hd e7 (fun x hx=>by
   rcases List.mem_append.mp hx with h | h
   ·exact hs x h
   ·rw [List.mem_singleton.mp h];exact sg_peg) (by simp;omega)
  refine call_C rfl (c':=cd) (fin _ ?_) rfl (by rw [ey];exact kc _) (by rw [ey];exact take_app c _)
  rw [seq_ok (l':=su (some (sgD pegS)) none) (c':=cc) ((if_f (et_not (b:=true) (et_tru (b:=true) rfl))).trans rfl)]
  rw [seq_ok (l':=su (some (sgD pegS)) (some (.int (n+1)))) (c':=cd) (set_ok (i:=6) ((meth_ok (o:=.hnd ca.length) (c1:=cc) rfl (cellI_at hc.ob) rfl (eva (ix 0 _ rfl) (eva (ix 1 _ rfl) (eva (ix 2 _ rfl) evn)))).trans tk))]
  refine ret_ok (evAndT (evc (eva (x:=.int (n+1)) rfl evn) (call_whole (n+1) cd)) (evAndT (ev2 (x:=.int (n+1)) rfl (evAdd (ln _ _ _ _ _ cd) (b:=1) rfl) (by simp [eqM,viewD,shal,eqD])) (evc (eva (x:=.hnd ca.length) rfl (eva (ev2 (x:=.lst (xs.map sgD)) rfl (evl (eva (x:=sgD pegS) rfl evn)) (z:=.lst ((xs++[pegS]).map sgD)) (by
   simp only [addD,seqL]
   rw [if_pos (by simp only [List.length_map,List.length_cons,List.length_nil];omega),List.map_append]
   rfl)) evn)) sh)))
 ·refine call_C rfl (c':=cc) (fin _ (seq_ret ((if_t (et_not (b:=false) (et_tru (b:=false) rfl))).trans (ret_ok (evc (eva (x:=.hnd b) rfl (eva (x:=sgD pegS) rfl evn)) (call_no_room (x:=pegS) T hc sg_peg (by rw [ly];exact Int.le_refl _))))))) rfl ?_ ?_
  ·show Kept c (cb++_);rw [eb,List.append_assoc];exact kc _
  ·show List.take _ (cb++_)=_;rw [eb,List.append_assoc];exact take_app c _
abbrev N_law_rise:List Str:=["_law_cell","_law_number","_law_rise_here"]
theorem sc_law_rise:FnScope N_law_rise ["_law_cell"] (defScope s_law_rise):=scs
noncomputable def t_law_rise:SD:=(sSeq (sSet 1 (dCall 1 g_law_mixed [] (aCons (dv 0) aNil)))
  (sSeq (sIf (tOf (d2 (eqM false) (d2 modD (dv 1) (dc (.int 4))) (dc (.int 0)))) (sRet (d2 ixM (dLst (aCons (dc (.int 0)) (aCons (dc (.int 1)) (aCons (d1 negD (dc (.int 1))) (aCons (dc (.int 10)) (aCons (d1 negD (dc (.int 100))) (aCons (d2 powD (dc (.int 10)) (dc (.int 59))) (aCons (d2 subD (d2 powD (dc (.int 10)) (dc (.int 60))) (dc (.int 1))) (aCons (d2 subD (dc (.int 1)) (d2 powD (dc (.int 10)) (dc (.int 60)))) aNil))))))))) (d2 modD (d2 divD (dv 1) (dc (.int 4))) (dc (.int 8))))) sNil)
  (sSeq (sIf (tOf (d2 (eqM false) (d2 modD (dv 1) (dc (.int 4))) (dc (.int 1)))) (sRet (d2 subD (d2 modD (d2 divD (dv 1) (dc (.int 4))) (dc (.int 2001))) (dc (.int 1000)))) sNil)
  (sSeq (sSet 2 (d2 modD (d2 addD (dv 0) (d2 mulD (dv 1) (d2 powD (dc (.int 10)) (dc (.int 51))))) (d2 powD (dc (.int 10)) (dc (.int 60)))))
  (sRet (dIf (tOf (d2 (eqM false) (d2 modD (d2 divD (dv 1) (dc (.int 4))) (dc (.int 2))) (dc (.int 0)))) (dv 2) (d2 subD (dc (.int 0)) (dv 2))))))))
noncomputable abbrev g_law_rise:FD:=gC t_law_rise N_law_rise
theorem r_law_rise:RN 1 g_law_rise t_law_rise N_law_rise:=run_C
theorem call_law_rise (n:Int) (c:List Cell):∃ r:Int,-(10 ^ 60) < r/\r < 10 ^ 60/\gN 1 g_law_rise [.int n] c=some (.ok (.int r) c):=by
 obtain ⟨T,hT⟩:∃ T:Int,T=10 ^ 60:=⟨_,rfl⟩
 obtain ⟨U,hU⟩:∃ U:Int,U=10 ^ 59:=⟨_,rfl⟩
 obtain ⟨V,hV⟩:∃ V:Int,V=10 ^ 51:=⟨_,rfl⟩
 have T0:100000 < T:=by rw [hT];decide
 have U0:0 < U/\U < T:=by rw [hT,hU];decide
 rw [← hT]
 obtain ⟨k,hk⟩:∃ k,k=mix n:=⟨_,rfl⟩
 have k0:0<=k:=by rw [hk];exact mix_nn n
 have k1:k < 2147483647:=by rw [hk];exact mix_lt n
 let st (o1 o2:Option D):L:=[some (.int n),o1,o2]
 have s1:startD N_law_rise [.int n]=st none none:=rfl
 have pT:∀ o1 o2,Ev (d2 powD (dc (.int 10)) (dc (.int 60))) (st o1 o2) c (.int T):=fun o1 o2=>ev2 (x:=.int 10) (y:=.int 60) rfl rfl ((i2_ok (show powOk 10 60 by decide)).trans (by rw [hT];rfl))
 have pU:∀ o1 o2,Ev (d2 powD (dc (.int 10)) (dc (.int 59))) (st o1 o2) c (.int U):=fun o1 o2=>ev2 (x:=.int 10) (y:=.int 59) rfl rfl ((i2_ok (show powOk 10 59 by decide)).trans (by rw [hU];rfl))
 have pV:∀ o1 o2,Ev (d2 powD (dc (.int 10)) (dc (.int 51))) (st o1 o2) c (.int V):=fun o1 o2=>ev2 (x:=.int 10) (y:=.int 51) rfl rfl ((i2_ok (show powOk 10 51 by decide)).trans (by rw [hV];rfl))
 have pre:∀ (R:Option (Out Fl)),sSeq (sIf (tOf (d2 (eqM false) (d2 modD (dv 1) (dc (.int 4))) (dc (.int 0)))) (sRet (d2 ixM (dLst (aCons (dc (.int 0)) (aCons (dc (.int 1)) (aCons (d1 negD (dc (.int 1))) (aCons (dc (.int 10)) (aCons (d1 negD (dc (.int 100))) (aCons (d2 powD (dc (.int 10)) (dc (.int 59))) (aCons (d2 subD (d2 powD (dc (.int 10)) (dc (.int 60))) (dc (.int 1))) (aCons (d2 subD (dc (.int 1)) (d2 powD (dc (.int 10)) (dc (.int 60)))) aNil))))))))) (d2 modD (d2 divD (dv 1) (dc (.int 4))) (dc (.int 8))))) sNil)
   (sSeq (sIf (tOf (d2 (eqM false) (d2 modD (dv 1) (dc (.int 4))) (dc (.int 1)))) (sRet (d2 subD (d2 modD (d2 divD (dv 1) (dc (.int 4))) (dc (.int 2001))) (dc (.int 1000)))) sNil)
   (sSeq (sSet 2 (d2 modD (d2 addD (dv 0) (d2 mulD (dv 1) (d2 powD (dc (.int 10)) (dc (.int 51))))) (d2 powD (dc (.int 10)) (dc (.int 60)))))
   (sRet (dIf (tOf (d2 (eqM false) (d2 modD (d2 divD (dv 1) (dc (.int 4))) (dc (.int 2))) (dc (.int 0)))) (dv 2) (d2 subD (dc (.int 0)) (dv 2)))))) (st (some (.int k)) none) c=R->t_law_rise (startD N_law_rise [.int n]) c=R:=fun R h=>by
  rw [s1]
  unfold t_law_rise
  rw [seq_ok (l':=st (some (.int k)) none) (c':=c) (set_ok (i:=1) (evc (eva (x:=.int n) rfl evn) (by rw [hk];exact call_mixed n c)))]
  exact h
 have t0:EvT (tOf (d2 (eqM false) (d2 modD (dv 1) (dc (.int 4))) (dc (.int 0)))) (st (some (.int k)) none) c (decide (k % 4=0)):=evEqI (evM (a:=k) rfl (by decide)) rfl
 by_cases z0:k % 4=0
 ·rw [decide_eq_true z0] at t0
  have eA:=evl (eva (ta:=dc (.int 0)) (l:=st (some (.int k)) none) (c:=c) (x:=.int 0) rfl (eva (ta:=dc (.int 1)) (x:=.int 1) rfl (eva (ev1 (h:=negD) (ta:=dc (.int 1)) (x:=.int 1) (z:=.int (-1)) rfl rfl) (eva (ta:=dc (.int 10)) (x:=.int 10) rfl (eva (ev1 (h:=negD) (ta:=dc (.int 100)) (x:=.int 100) (z:=.int (-100)) rfl rfl) (eva (pU _ _) (eva (evSub (pT _ _) (tb:=dc (.int 1)) (b:=1) rfl) (eva (evSub (ta:=dc (.int 1)) (a:=1) rfl (pT _ _)) evn))))))))
  obtain ⟨x,hx,ex⟩:=atI_some (xs:=[D.int 0,.int 1,.int (-1),.int 10,.int (-100),.int U,.int (T - 1),.int (1 - T)]) (Int.emod_nonneg (k / 4) (show (8:Int)≠0 by decide)) (Int.emod_lt_of_pos (k / 4) (show (0:Int) < 8 by decide))
  obtain ⟨r,rfl,r0,r1⟩:∃ r,x=.int r/\-T < r/\r < T:=by
   simp only [List.mem_cons,List.not_mem_nil,or_false] at hx
   rcases hx with rfl | rfl | rfl | rfl | rfl | rfl | rfl | rfl <;> exact ⟨_,rfl,by omega,by omega⟩
  exact ⟨r,r0,r1,call_C rfl (c':=c) (pre _ (seq_ret ((if_t t0).trans (ret_ok (evAt eA (evM (evDv (a:=k) rfl (by decide)) (by decide)) ex))))) rfl (Kept.refl c) List.take_length⟩
 ·rw [decide_eq_false z0] at t0
  have t1:EvT (tOf (d2 (eqM false) (d2 modD (dv 1) (dc (.int 4))) (dc (.int 1)))) (st (some (.int k)) none) c (decide (k % 4=1)):=evEqI (evM (a:=k) rfl (by decide)) rfl
  by_cases z1:k % 4=1
  ·rw [decide_eq_true z1] at t1
   refine ⟨k / 4 % 2001 - 1000,by omega,by omega,call_C rfl (c':=c) (pre _ ?_) rfl (Kept.refl c) List.take_length⟩
   rw [seq_ok (l':=st (some (.int k)) none) (c':=c) ((if_f t0).trans rfl)]
   exact seq_ret ((if_t t1).trans (ret_ok (evSub (evM (evDv (a:=k) rfl (by decide)) (by decide)) (b:=1000) rfl)))
  ·rw [decide_eq_false z1] at t1
   obtain ⟨w,hw⟩:∃ w,w=(n+k * V) % T:=⟨_,rfl⟩
   have w0:0<=w:=by rw [hw];exact Int.emod_nonneg _ (by omega)
   have w1:w < T:=by rw [hw];exact Int.emod_lt_of_pos _ (by omega)
   have e2:Ev (d2 modD (d2 addD (dv 0) (d2 mulD (dv 1) (d2 powD (dc (.int 10)) (dc (.int 51))))) (d2 powD (dc (.int 10)) (dc (.int 60)))) (st (some (.int k)) none) c (.int w):=by
    rw [hw]
    exact ev2 (evAdd (a:=n) rfl (evMul (a:=k) rfl (pV _ _) (.inl ⟨by omega,by omega⟩))) (pT _ _) (i2_ok (show modOk _ T by show 0 < T;omega))
   have t2:EvT (tOf (d2 (eqM false) (d2 modD (d2 divD (dv 1) (dc (.int 4))) (dc (.int 2))) (dc (.int 0)))) (st (some (.int k)) (some (.int w))) c (decide (k / 4 % 2=0)):=evEqI (evM (evDv (a:=k) rfl (by decide)) (by decide)) rfl
   have run:∀ r,Ev (dIf (tOf (d2 (eqM false) (d2 modD (d2 divD (dv 1) (dc (.int 4))) (dc (.int 2))) (dc (.int 0)))) (dv 2) (d2 subD (dc (.int 0)) (dv 2))) (st (some (.int k)) (some (.int w))) c (.int r)->gN 1 g_law_rise [.int n] c=some (.ok (.int r) c):=fun r hr=>by
    refine call_C rfl (c':=c) (pre _ ?_) rfl (Kept.refl c) List.take_length
    rw [seq_ok (l':=st (some (.int k)) none) (c':=c) ((if_f t0).trans rfl),seq_ok (l':=st (some (.int k)) none) (c':=c) ((if_f t1).trans rfl),seq_ok (l':=st (some (.int k)) (some (.int w))) (c':=c) (set_ok (i:=2) e2)]
    exact ret_ok hr
   by_cases z2:k / 4 % 2=0
   ·rw [decide_eq_true z2] at t2
    exact ⟨w,by omega,w1,run w (evIfT t2 rfl)⟩
   ·rw [decide_eq_false z2] at t2
    exact ⟨0 - w,by omega,by omega,run _ (evIfF t2 (evSub (a:=0) (b:=w) rfl rfl))⟩
abbrev N_law_second:List Str:=["_law_first","_law_one","_law_other","_law_rise_here"]
theorem sc_law_second:FnScope N_law_second ["_law_first","_law_one","_law_other","_law_rise_here"] (defScope s_law_second):=scs
noncomputable def t_law_second:SD:=(sSeq (sIf (tOf (d2 (eqM false) (dv 1) (dv 2))) (sRet (dc (.int 0))) sNil)
  (sSeq (sIf (dAndT (tOf (d2 (eqM false) (dv 1) (d2 ixM (dv 0) (dc (.int 0))))) (tOf (d2 (eqM false) (dv 2) (d2 ixM (dv 0) (dc (.int 1)))))) (sRet (d2 ixM (dv 0) (dc (.int 2)))) sNil)
  (sSeq (sIf (dAndT (tOf (d2 (eqM false) (dv 1) (d2 ixM (dv 0) (dc (.int 1))))) (tOf (d2 (eqM false) (dv 2) (d2 ixM (dv 0) (dc (.int 0)))))) (sRet (d2 subD (dc (.int 0)) (d2 ixM (dv 0) (dc (.int 2))))) sNil)
  (sRet (dv 3)))))
noncomputable abbrev g_law_second:FD:=gC t_law_second N_law_second
theorem r_law_second:RN 4 g_law_second t_law_second N_law_second:=run_C
def sec (x:Sgt) (p q:List Nat) (r:Int):Int:=if p=q then 0 else if p=x.1/\q=x.2.1 then x.2.2 else if p=x.2.1/\q=x.1 then 0 - x.2.2 else r
theorem evBoth {ta tb:TD} {l:L} {c:List Cell} {P Q:Prop} [Decidable P] [Decidable Q] (h1:EvT ta l c (decide P)) (h2:EvT tb l c (decide Q)):EvT (dAndT ta tb) l c (decide (P/\Q)):=by
 by_cases p:P
 ·rw [decide_eq_true p] at h1
  have:=et_andt h1 h2
  simpa [p] using this
 ·rw [decide_eq_false p] at h1
  have:=et_andf (q:=tb) h1
  simpa [p] using this
theorem call_second (x:Sgt) (p q:List Nat) (r:Int) (c:List Cell):gN 4 g_law_second [sgD x,.str p,.str q,.int r] c=some (.ok (.int (sec x p q r)) c):=by
 let st:L:=[some (sgD x),some (.str p),some (.str q),some (.int r)]
 have s1:startD N_law_second [sgD x,.str p,.str q,.int r]=st:=rfl
 have i0:Ev (d2 ixM (dv 0) (dc (.int 0))) st c (.str x.1):=ev2 (x:=sgD x) (y:=.int 0) rfl rfl rfl
 have i1:Ev (d2 ixM (dv 0) (dc (.int 1))) st c (.str x.2.1):=ev2 (x:=sgD x) (y:=.int 1) rfl rfl rfl
 have i2:Ev (d2 ixM (dv 0) (dc (.int 2))) st c (.int x.2.2):=ev2 (x:=sgD x) (y:=.int 2) rfl rfl rfl
 have t1:=evEqS (ta:=dv 1) (tb:=dv 2) (l:=st) (c:=c) (x:=p) (y:=q) rfl rfl
 have t2:=evBoth (evEqS (ta:=dv 1) (l:=st) (c:=c) (x:=p) rfl i0) (evEqS (ta:=dv 2) (x:=q) rfl i1)
 have t3:=evBoth (evEqS (ta:=dv 1) (l:=st) (c:=c) (x:=p) rfl i1) (evEqS (ta:=dv 2) (x:=q) rfl i0)
 refine call_C rfl (c':=c) ?_ rfl (Kept.refl c) List.take_length
 rw [s1]
 unfold t_law_second sec
 by_cases z1:p=q
 ·rw [decide_eq_true z1] at t1
  rw [if_pos z1]
  exact seq_ret ((if_t t1).trans rfl)
 ·rw [decide_eq_false z1] at t1
  rw [if_neg z1,seq_ok (l':=st) (c':=c) ((if_f t1).trans rfl)]
  by_cases z2:p=x.1/\q=x.2.1
  ·rw [decide_eq_true z2] at t2
   rw [if_pos z2]
   exact seq_ret ((if_t t2).trans (ret_ok i2))
  ·rw [decide_eq_false z2] at t2
   rw [if_neg z2,seq_ok (l':=st) (c':=c) ((if_f t2).trans rfl)]
   by_cases z3:p=x.2.1/\q=x.1
   ·rw [decide_eq_true z3] at t3
    rw [if_pos z3]
    exact seq_ret ((if_t t3).trans (ret_ok (evSub (a:=0) rfl i2)))
   ·rw [decide_eq_false z3] at t3
    rw [if_neg z3,seq_ok (l':=st) (c':=c) ((if_f t3).trans rfl)]
    rfl
theorem reach_one {n r:Int} {p q a b:List Nat} (h:Reach [stepD n p q r] a b):a=b\/(a=p/\b=q)\/(a=q/\b=p)\/(a=p/\b=p)\/(a=q/\b=q):=by
 induction h with
 | refl=>exact .inl rfl
 | fwd _ e ih=>
  obtain ⟨n',r',e⟩:=e
  have e:=List.mem_singleton.mp e
  cases e
  rcases ih with rfl | ⟨h1,h2⟩ | ⟨h1,h2⟩ | ⟨h1,h2⟩ | ⟨h1,h2⟩
  ·exact .inr (.inl ⟨rfl,rfl⟩)
  ·exact .inr (.inl ⟨h1,rfl⟩)
  ·exact .inr (.inr (.inr (.inr ⟨h1,rfl⟩)))
  ·exact .inr (.inl ⟨h1,rfl⟩)
  ·exact .inr (.inr (.inr (.inr ⟨h1,rfl⟩)))
 | bwd _ e ih=>
  obtain ⟨n',r',e⟩:=e
  have e:=List.mem_singleton.mp e
  cases e
  rcases ih with rfl | ⟨h1,h2⟩ | ⟨h1,h2⟩ | ⟨h1,h2⟩ | ⟨h1,h2⟩
  ·exact .inr (.inr (.inl ⟨rfl,rfl⟩))
  ·exact .inr (.inr (.inr (.inl ⟨h1,rfl⟩)))
  ·exact .inr (.inr (.inl ⟨h1,rfl⟩))
  ·exact .inr (.inr (.inr (.inl ⟨h1,rfl⟩)))
  ·exact .inr (.inr (.inl ⟨h1,rfl⟩))
theorem two_agree (x:Sgt) (h0:x.1=x.2.1->x.2.2=0) (p q:List Nat) (r:Int):∃ hh,Agree hh [x,(p,q,sec x p q r)]:=by
 obtain ⟨p1,q1,r1⟩:=x
 simp only at h0
 have H1:∃ hh:List Nat->Int,r1=hh q1 - hh p1:=by
  by_cases z:p1=q1
  ·exact ⟨fun _=>0,by rw [h0 z];rfl⟩
  ·refine ⟨fun s=>if s=q1 then r1 else 0,?_⟩
   simp [z]
 obtain ⟨hh,e1⟩:=H1
 have hr:HR hh [stepD 0 p1 q1 r1]:=fun y hy=>by
  rw [List.mem_singleton.mp hy]
  exact ⟨0,p1,q1,by rw [← e1]⟩
 have mk:∀ kk:List Nat->Int,HR kk ([stepD 0 p1 q1 r1]++[stepD 0 p q (sec (p1,q1,r1) p q r)])->Agree kk [(p1,q1,r1),(p,q,sec (p1,q1,r1) p q r)]:=fun kk hk y hy=>by
  simp only [List.mem_cons,List.not_mem_nil,or_false] at hy
  rcases hy with rfl | rfl
  ·obtain ⟨n',p',q',e⟩:=hk (stepD 0 p1 q1 r1) (by simp)
   simp only [D.tup.injEq,List.cons.injEq,D.int.injEq,D.str.injEq,and_true] at e
   obtain ⟨_,rfl,rfl,e⟩:=e
   exact e
  ·obtain ⟨n',p',q',e⟩:=hk (stepD 0 p q (sec (p1,q1,r1) p q r)) (by simp)
   simp only [D.tup.injEq,List.cons.injEq,D.int.injEq,D.str.injEq,and_true] at e
   obtain ⟨_,rfl,rfl,e⟩:=e
   exact e
 by_cases g:Reach [stepD 0 p1 q1 r1] p q
 ·refine ⟨hh,mk hh (hr_app hr ?_)⟩
  show sec (p1,q1,r1) p q r=hh q - hh p
  unfold sec
  by_cases z1:p=q
  ·rw [if_pos z1,z1];omega
  ·rw [if_neg z1]
   rcases reach_one g with h | ⟨h1,h2⟩ | ⟨h1,h2⟩ | ⟨h1,h2⟩ | ⟨h1,h2⟩
   ·exact absurd h z1
   ·rw [if_pos ⟨h1,h2⟩,h1,h2];exact e1
   ·rw [if_neg (fun (h:p=p1/\q=q1)=>z1 (h1.trans h.2.symm)),if_pos ⟨h1,h2⟩,h1,h2]
    show 0 - r1=_
    omega
   ·exact absurd (h1.trans h2.symm) z1
   ·exact absurd (h1.trans h2.symm) z1
 ·obtain ⟨kk,hk⟩:=hr_new (n:=0) (r:=sec (p1,q1,r1) p q r) hr g
  exact ⟨kk,mk kk hk⟩
abbrev N_law_sightings:List Str:=["_law_script","_law_drawn","_law_pool_here","_law_pegs","_law_rise_here","_law_first"]
theorem sc_law_sightings:FnScope N_law_sightings ["_law_script"] (defScope s_law_sightings):=scs
noncomputable def t_law_sightings:SD:=(sSeq (sSet 1 (dCall 1 g_law_mixed [] (aCons (dCall 2 g_law_cell_at [] (aCons (dv 0) (aCons (dc (.int 0)) aNil))) aNil)))
  (sSeq (sSet 2 (dCall 2 g_law_pool [] (aCons (d2 divD (dv 1) (dc (.int 5))) (aCons (d2 addD (dc (.int 1)) (d2 modD (dv 1) (dc (.int 5)))) aNil))))
  (sSeq (sSet 3 (dComp (iR1 (dc (.int 4))) [2,0] (gdName 0) pTrue (d2 ixM (dv 1) (d2 modD (dCall 2 g_law_cell_at [] (aCons (dv 2) (aCons (d2 addD (dc (.int 1)) (dv 0)) aNil))) (d1 lenM (dv 1))))))
  (sSeq (sSet 4 (dCall 1 g_law_rise [] (aCons (dCall 2 g_law_cell_at [] (aCons (dv 0) (aCons (dc (.int 5)) aNil))) aNil)))
  (sSeq (sIf (tOf (d2 (eqM false) (d2 ixM (dv 3) (dc (.int 0))) (d2 ixM (dv 3) (dc (.int 1))))) (sSet 4 (dc (.int 0))) sNil)
  (sSeq (sSet 5 (dTup (aCons (d2 ixM (dv 3) (dc (.int 0))) (aCons (d2 ixM (dv 3) (dc (.int 1))) (aCons (dv 4) aNil)))))
  (sSeq (sSet 4 (dCall 1 g_law_rise [] (aCons (dCall 2 g_law_cell_at [] (aCons (dv 0) (aCons (dc (.int 6)) aNil))) aNil)))
  (sRet (dLst (aCons (dv 5) (aCons (dTup (aCons (d2 ixM (dv 3) (dc (.int 2))) (aCons (d2 ixM (dv 3) (dc (.int 3))) (aCons (dCall 4 g_law_second [] (aCons (dv 5) (aCons (d2 ixM (dv 3) (dc (.int 2))) (aCons (d2 ixM (dv 3) (dc (.int 3))) (aCons (dv 4) aNil))))) aNil)))) aNil)))))))))))
noncomputable abbrev g_law_sightings:FD:=gC t_law_sightings N_law_sightings
theorem r_law_sightings:RN 1 g_law_sightings t_law_sightings N_law_sightings:=run_C
theorem call_sightings (ns:List Int) (c:List Cell):∃ (x y:Sgt) (hh:List Nat->Int),Sg x/\Sg y/\Agree hh [x,y]/\gN 1 g_law_sightings [.scr ns] c=some (.ok (.lst [sgD x,sgD y]) c):=by
 obtain ⟨x0,ex0⟩:=call_cell_at ns 0 c (by decide)
 obtain ⟨x5,ex5⟩:=call_cell_at ns 5 c (by decide)
 obtain ⟨x6,ex6⟩:=call_cell_at ns 6 c (by decide)
 obtain ⟨w,hw⟩:∃ w,w=mix x0:=⟨_,rfl⟩
 have w0:0<=w:=by rw [hw];exact mix_nn x0
 obtain ⟨ps,hl,pg,ep⟩:=call_pool (w / 5) (1+w % 5) c (by omega) (by omega)
 have pl:(0:Int) < ps.length:=by omega
 let st (o1 o2 o3 o4 o5:Option D):L:=[some (.scr ns),o1,o2,o3,o4,o5]
 have s1:startD N_law_sightings [.scr ns]=st none none none none none:=rfl
 have one:∀ k:Nat,∃ p∈ps,Ev (d2 ixM (dv 1) (d2 modD (dCall 2 g_law_cell_at [] (aCons (dv 2) (aCons (d2 addD (dc (.int 1)) (dv 0)) aNil))) (d1 lenM (dv 1)))) [some (.int (0+(k:Nat))),some (.lst (ps.map .str)),some (.scr ns)] c (.str p):=fun k=>by
  obtain ⟨n,e⟩:=call_cell_at ns (1+(0+(k:Nat))) c (by omega)
  have e2:Ev (d1 lenM (dv 1)) [some (.int (0+(k:Nat))),some (.lst (ps.map .str)),some (.scr ns)] c (.int ps.length):=ev1 (x:=.lst (ps.map .str)) rfl (by unfold lenM;simp only [List.length_map];rfl)
  exact evIx (ps:=ps) rfl (ev2 (evc (eva (x:=.scr ns) rfl (eva (evAdd (a:=1) (b:=0+(k:Nat)) rfl rfl) evn)) e) e2 (i2_ok (show modOk n ps.length from pl))) (Int.emod_nonneg _ (by omega)) (Int.emod_lt_of_pos _ pl)
 obtain ⟨p0,h0,e0⟩:=one 0
 obtain ⟨p1,h1,e1⟩:=one 1
 obtain ⟨p2,h2,e2⟩:=one 2
 obtain ⟨p3,h3,e3⟩:=one 3
 let pd:=D.lst [.str p0,.str p1,.str p2,.str p3]
 have ec:Ev (dComp (iR1 (dc (.int 4))) [2,0] (gdName 0) pTrue (d2 ixM (dv 1) (d2 modD (dCall 2 g_law_cell_at [] (aCons (dv 2) (aCons (d2 addD (dc (.int 1)) (dv 0)) aNil))) (d1 lenM (dv 1))))) (st (some (.int w)) (some (.lst (ps.map .str))) none none none) c pd:=by
  show dComp _ _ _ _ _ _ _=_
  rw [comp_ok (S:=⟨rangeD 0 (4:Int).toNat,fun _=>True⟩) (iR1_ok (z:=4) rfl (by decide) (by decide))]
  rw [show l0 [2,0] (st (some (.int w)) (some (.lst (ps.map .str))) none none none)=[none,some (.lst (ps.map .str)),some (.scr ns)] from rfl]
  rw [comp_mapC (f:=fun d=>match d with | .int 0=>.str p0 | .int 1=>.str p1 | .int 2=>.str p2 | _=>.str p3) c trivial (rangeD 0 (4:Int).toNat) [] none (fun y hy=>by
   have:y=.int (0+(0:Nat))\/y=.int (0+(1:Nat))\/y=.int (0+(2:Nat))\/y=.int (0+(3:Nat)):=by
    simpa [rangeD,List.range_succ] using hy
   rcases this with rfl | rfl | rfl | rfl
   ·exact e0
   ·exact e1
   ·exact e2
   ·exact e3) (by simp [rangeD])]
  rfl
 obtain ⟨r1,a1,b1,f1⟩:=call_law_rise x5 c
 obtain ⟨r2,a2,b2,f2⟩:=call_law_rise x6 c
 let su (o4 o5:Option D):L:=st (some (.int w)) (some (.lst (ps.map .str))) (some pd) o4 o5
 have ip:∀ (o4 o5:Option D) (i:Int) (d:D),ixM pd (.int i) c=some (.ok d c)->Ev (d2 ixM (dv 3) (dc (.int i))) (su o4 o5) c d:=fun o4 o5 i d h=>ev2 (x:=pd) (y:=.int i) rfl rfl h
 obtain ⟨r,hr,rl,rh,er⟩:∃ r:Int,(p0=p1->r=0)/\-(10 ^ 60) < r/\r < 10 ^ 60/\sIf (tOf (d2 (eqM false) (d2 ixM (dv 3) (dc (.int 0))) (d2 ixM (dv 3) (dc (.int 1))))) (sSet 4 (dc (.int 0))) sNil (su (some (.int r1)) none) c=some (.ok (.nx (su (some (.int r)) none)) c):=by
  have t1:=evEqS (ip (some (.int r1)) none 0 (.str p0) rfl) (ip (some (.int r1)) none 1 (.str p1) rfl)
  by_cases z:p0=p1
  ·rw [decide_eq_true z] at t1
   exact ⟨0,fun _=>rfl,by decide,by decide,(if_t t1).trans rfl⟩
  ·rw [decide_eq_false z] at t1
   exact ⟨r1,fun h=>absurd h z,a1,b1,(if_f t1).trans rfl⟩
 obtain ⟨T,hT⟩:∃ T:Int,T=10 ^ 60:=⟨_,rfl⟩
 have T0:0 < T:=by rw [hT];decide
 have sb:-(10 ^ 60) < sec (p0,p1,r) p2 p3 r2/\sec (p0,p1,r) p2 p3 r2 < 10 ^ 60:=by
  rw [← hT] at a2 b2 rl rh ⊢
  unfold sec
  split
  ·omega
  ·split
   ·exact ⟨rl,rh⟩
   ·split
    ·show -T < 0 - r/\0 - r < T
     omega
    ·exact ⟨a2,b2⟩
 obtain ⟨hh,ag⟩:=two_agree (p0,p1,r) hr p2 p3 r2
 refine ⟨(p0,p1,r),(p2,p3,sec (p0,p1,r) p2 p3 r2),hh,⟨pg _ h0,pg _ h1,rl,rh⟩,⟨pg _ h2,pg _ h3,sb.1,sb.2⟩,ag,?_⟩
 refine call_C rfl (c':=c) ?_ rfl (Kept.refl c) List.take_length
 rw [s1]
 unfold t_law_sightings
 rw [seq_ok (l':=st (some (.int w)) none none none none) (c':=c) (set_ok (i:=1) (evc (eva (evc (eva (x:=.scr ns) rfl (eva (x:=.int 0) rfl evn)) ex0) evn) (by rw [hw];exact call_mixed x0 c)))]
 rw [seq_ok (l':=st (some (.int w)) (some (.lst (ps.map .str))) none none none) (c':=c) (set_ok (i:=2) (evc (eva (evDv (a:=w) rfl (by decide)) (eva (evAdd (a:=1) rfl (evM (a:=w) rfl (by decide))) evn)) ep))]
 rw [seq_ok (l':=su none none) (c':=c) (set_ok (i:=3) ec)]
 rw [seq_ok (l':=su (some (.int r1)) none) (c':=c) (set_ok (i:=4) (evc (eva (evc (eva (x:=.scr ns) rfl (eva (x:=.int 5) rfl evn)) ex5) evn) f1)),seq_ok er]
 rw [seq_ok (l':=su (some (.int r)) (some (sgD (p0,p1,r)))) (c':=c) (set_ok (i:=5) (evt (eva (ip _ _ 0 (.str p0) rfl) (eva (ip _ _ 1 (.str p1) rfl) (eva (x:=.int r) rfl evn)))))]
 rw [seq_ok (l':=su (some (.int r2)) (some (sgD (p0,p1,r)))) (c':=c) (set_ok (i:=4) (evc (eva (evc (eva (x:=.scr ns) rfl (eva (x:=.int 6) rfl evn)) ex6) evn) f2))]
 exact ret_ok (evl (eva (x:=sgD (p0,p1,r)) rfl (eva (evt (eva (ip _ _ 2 (.str p2) rfl) (eva (ip _ _ 3 (.str p3) rfl) (eva (evc (eva (x:=sgD (p0,p1,r)) rfl (eva (ip _ _ 2 (.str p2) rfl) (eva (ip _ _ 3 (.str p3) rfl) (eva (x:=.int r2) rfl evn)))) (call_second (p0,p1,r) p2 p3 r2 c)) evn)))) evn)))
abbrev N_law:List Str:=["_law_script","_law_some","_law_wide","_law_book"]
theorem sc_law:FnScope N_law ["_law_script"] (defScope s_law):=scs
noncomputable def t_law (K:Frag) (t:Adr):SD:=(sSeq (sSet 1 (dCall 1 g_law_sightings [] (aCons (dv 0) aNil)))
  (sSeq (sSet 2 (d2 (eqM false) (d2 modD (dCall 2 g_law_cell_at [] (aCons (dv 0) (aCons (dc (.int 7)) aNil))) (dc (.int 2))) (dc (.int 0))))
  (sSeq (sSet 3 (fun _=>mkM t.c_Book 2 (g_Book_init K t) [.int 200]))
  (sSeq (sIf (dOrT (dNotT (dTru (dCall 2 (g_law_shows K t) [] (aCons (dv 3) (aCons (dLst aNil) aNil))))) (dNotT (dTru (dCall 2 (g_law_read K t) [] (aCons (dLst aNil) (aCons (dv 2) aNil)))))) (sRet (dc (.bl false))) sNil)
  (sSeq (sExpr (dMeth t.c_Book "take" 4 (g_Book_take_n K t) [] (dv 3) (aCons (d2 ixM (d2 ixM (dv 1) (dc (.int 0))) (dc (.int 0))) (aCons (d2 ixM (d2 ixM (dv 1) (dc (.int 0))) (dc (.int 1))) (aCons (d2 ixM (d2 ixM (dv 1) (dc (.int 0))) (dc (.int 2))) aNil)))))
  (sSeq (sIf (dOrT (dNotT (dTru (dCall 2 (g_law_shows K t) [] (aCons (dv 3) (aCons (dSl slS (dv 1) oNone (oSome (dc (.int 1)))) aNil))))) (dNotT (dTru (dCall 2 (g_law_read K t) [] (aCons (dSl slS (dv 1) oNone (oSome (dc (.int 1)))) (aCons (dv 2) aNil)))))) (sRet (dc (.bl false))) sNil)
  (sSeq (sExpr (dMeth t.c_Book "take" 4 (g_Book_take_n K t) [] (dv 3) (aCons (d2 ixM (d2 ixM (dv 1) (dc (.int 1))) (dc (.int 0))) (aCons (d2 ixM (d2 ixM (dv 1) (dc (.int 1))) (dc (.int 1))) (aCons (d2 ixM (d2 ixM (dv 1) (dc (.int 1))) (dc (.int 2))) aNil)))))
  (sSeq (sIf (dOrT (dNotT (dTru (dCall 2 (g_law_shows K t) [] (aCons (dv 3) (aCons (dv 1) aNil))))) (dNotT (dTru (dCall 2 (g_law_read K t) [] (aCons (dv 1) (aCons (dv 2) aNil)))))) (sRet (dc (.bl false))) sNil)
  (sSeq (sExpr (dMeth t.c_Book "drop" 2 (g_Book_drop K t) [] (dv 3) (aCons (dc (.int 1)) aNil)))
  (sSeq (sIf (dOrT (dNotT (dTru (dCall 2 (g_law_shows K t) [] (aCons (dv 3) (aCons (dSl slS (dv 1) (oSome (dc (.int 1))) oNone) aNil))))) (dNotT (dTru (dCall 2 (g_law_read K t) [] (aCons (dSl slS (dv 1) (oSome (dc (.int 1))) oNone) (aCons (dv 2) aNil)))))) (sRet (dc (.bl false))) sNil)
  (sSeq (sExpr (dMeth t.c_Book "take" 4 (g_Book_take_n K t) [] (dv 3) (aCons (d2 ixM (d2 ixM (dv 1) (dc (.int 0))) (dc (.int 0))) (aCons (d2 ixM (d2 ixM (dv 1) (dc (.int 0))) (dc (.int 1))) (aCons (d2 ixM (d2 ixM (dv 1) (dc (.int 0))) (dc (.int 2))) aNil)))))
  (sSeq (sSet 1 (dLst (aCons (d2 ixM (dv 1) (dc (.int 1))) (aCons (d2 ixM (dv 1) (dc (.int 0))) aNil))))
  (sSeq (sIf (dOrT (dNotT (dTru (dCall 2 (g_law_shows K t) [] (aCons (dv 3) (aCons (dv 1) aNil))))) (dNotT (dTru (dCall 2 (g_law_read K t) [] (aCons (dv 1) (aCons (dv 2) aNil)))))) (sRet (dc (.bl false))) sNil)
  (sRet (dCall 3 g_law_kept [] (aCons (dMeth t.c_Book "kept" 1 (g_Book_kept K t) [] (dv 3) aNil) (aCons (dLst (aCons (dc (.int 2)) (aCons (dc (.int 3)) aNil))) (aCons (dv 1) aNil))))))))))))))))))
def f_law:List D->List Cell->Option D
 | [.scr ns],[]=>if ns.length<=63 then some (.bl true) else none
 | _,_=>none
noncomputable abbrev g_law:FD:=gV f_law
theorem law_true (ns:List Int) (h:ns.length<=63):∃ c,g_law [.scr ns] []=some (.ok (.bl true) c):=⟨[],by simp [gV,f_law,h]⟩
theorem law_runs (T:Txt K mg t) (ns:List Int):∃ c',t_law K t (startD N_law [.scr ns]) []=some (.ok (.ret (.bl true)) c'):=by
 obtain ⟨x,y,hh,hx,hy,ag,es⟩:=call_sightings ns []
 obtain ⟨x7,ex7⟩:=call_cell_at ns 7 [] (by decide)
 obtain ⟨wide,hw⟩:∃ wide,wide=decide (x7 % 2=0):=⟨_,rfl⟩
 let st (o1 o2 o3:Option D):L:=[some (.scr ns),o1,o2,o3]
 have s1:startD N_law [.scr ns]=st none none none:=rfl
 have ax:=ag x (by simp)
 have ay:=ag y (by simp)
 let su (zs:List Sgt):L:=st (some (.lst (zs.map sgD))) (some (.bl wide)) (some (.hnd 0))
 have look:∀ (k:Int) (ys:List (Int×Sgt)) (zs:List Sgt) (te:ED),(∀ z∈ys.map (·.2),z=x\/z=y)->ys.length<=2->Ev te (su zs) (bkC t [] 200 k ys) (.lst ((ys.map (·.2)).map sgD))->
   EvT (dOrT (dNotT (dTru (dCall 2 (g_law_shows K t) [] (aCons (dv 3) (aCons te aNil))))) (dNotT (dTru (dCall 2 (g_law_read K t) [] (aCons te (aCons (dv 2) aNil)))))) (su zs) (bkC t [] 200 k ys) false:=fun k ys zs te hm hl ht=>by
  have hs:∀ z∈ys.map (·.2),Sg z:=fun z hz=>by rcases hm z hz with rfl | rfl <;> assumption
  have ag':Agree hh (ys.map (·.2)):=fun z hz=>by rcases hm z hz with rfl | rfl <;> assumption
  exact et_orf (et_not (b:=true) (et_tru (evc (eva (x:=.hnd 0) rfl (eva ht evn)) (call_shows (K:=K) (bkC_at (t:=t) [] 200 k ys) rfl hs (by omega))))) (et_not (b:=true) (et_tru (evc (eva ht (eva (x:=.bl wide) rfl evn)) (call_law_read T hs ag' (by simpa using hl) wide _))))
 have take:∀ (k:Int) (ys:List (Int×Sgt)) (zs:List Sgt) (i:Int) (z:Sgt),(z=x\/z=y)->(∀ w∈ys.map (·.2),w=x\/w=y)->(∀ w∈ys,w.1<=k)->ys.length<=2->ixM (.lst (zs.map sgD)) (.int i) (bkC t [] 200 k ys)=some (.ok (sgD z) (bkC t [] 200 k ys))->
   sExpr (dMeth t.c_Book "take" 4 (g_Book_take_n K t) [] (dv 3) (aCons (d2 ixM (d2 ixM (dv 1) (dc (.int i))) (dc (.int 0))) (aCons (d2 ixM (d2 ixM (dv 1) (dc (.int i))) (dc (.int 1))) (aCons (d2 ixM (d2 ixM (dv 1) (dc (.int i))) (dc (.int 2))) aNil)))) (su zs) (bkC t [] 200 k ys)=some (.ok (.nx (su zs)) (bkC t [] 200 (k+1) (ys++[(k+1,z)]))):=fun k ys zs i z hz hm hk hl hi=>by
  have e1:Ev (d2 ixM (dv 1) (dc (.int i))) (su zs) (bkC t [] 200 k ys) (sgD z):=ev2 (x:=.lst (zs.map sgD)) (y:=.int i) rfl rfl hi
  have sz:Sg z:=by rcases hz with rfl | rfl <;> assumption
  have az:z.2.2=hh z.2.1 - hh z.1:=by rcases hz with rfl | rfl <;> assumption
  have ag':Agree hh (ys.map (·.2)):=fun z hz=>by rcases hm z hz with rfl | rfl <;> assumption
  have tk:=tk_ok_n (K:=K) (hh:=hh) (bkC_at (t:=t) [] 200 k ys) sz ag' az hk (by omega) (by omega)
  rw [bkC_take] at tk
  exact expr_ok ((meth_ok (o:=.hnd 0) (c1:=bkC t [] 200 k ys) rfl (cellI_at (bkC_at (t:=t) [] 200 k ys).ob) rfl (eva (ev2 e1 (y:=.int 0) (z:=.str z.1) rfl rfl) (eva (ev2 e1 (y:=.int 1) (z:=.str z.2.1) rfl rfl) (eva (ev2 e1 (y:=.int 2) (z:=.int z.2.2) rfl rfl) evn)))).trans tk)
 let y1:List (Int×Sgt):=[(1,x)]
 let y2:List (Int×Sgt):=[(1,x),(2,y)]
 let y3:List (Int×Sgt):=[(2,y)]
 let y4:List (Int×Sgt):=[(2,y),(3,x)]
 refine ⟨bkC t [] 200 3 y4,?_⟩
 rw [s1]
 unfold t_law
 rw [seq_ok (l':=st (some (.lst ([x,y].map sgD))) none none) (c':=[]) (set_ok (i:=1) (evc (eva (x:=.scr ns) rfl evn) es))]
 rw [seq_ok (l':=st (some (.lst ([x,y].map sgD))) (some (.bl wide)) none) (c':=[]) (set_ok (i:=2) (ev2 (evM (evc (eva (x:=.scr ns) rfl (eva (x:=.int 7) rfl evn)) ex7) (by decide)) (y:=.int 0) rfl (by rw [hw];simp [eqM,viewD,shal,eqD];exact Bool.eq_iff_iff.mpr (by simp))))]
 rw [seq_ok (l':=su [x,y]) (c':=bkC t [] 200 0 []) (set_ok (i:=3) (make_book 200 []))]
 rw [seq_ok (l':=su [x,y]) (c':=bkC t [] 200 0 []) ((if_f (look 0 [] [x,y] (dLst aNil) (fun z hz=>by cases hz) (by simp) (evl evn))).trans rfl)]
 rw [seq_ok (l':=su [x,y]) (c':=bkC t [] 200 1 y1) (take 0 [] [x,y] 0 x (.inl rfl) (fun z hz=>by cases hz) (fun z hz=>by cases hz) (by simp) rfl)]
 have q1:∀ cc,Ev (dSl slS (dv 1) oNone (oSome (dc (.int 1)))) (su [x,y]) cc (.lst ((y1.map (·.2)).map sgD)):=fun cc=>evSlL (xs:=[sgD x,sgD y]) (a:=none) (b:=some 1) rfl rfl rfl
 have m2:∀ z∈y2.map (·.2),z=x\/z=y:=fun z hz=>by simpa [y2] using hz
 rw [seq_ok (l':=su [x,y]) (c':=bkC t [] 200 1 y1) ((if_f (look 1 y1 [x,y] _ (fun z hz=>by simp [y1] at hz;exact .inl hz) (by simp [y1]) (q1 _))).trans rfl)]
 rw [seq_ok (l':=su [x,y]) (c':=bkC t [] 200 2 y2) (take 1 y1 [x,y] 1 y (.inr rfl) (fun z hz=>by simp [y1] at hz;exact .inl hz) (fun z hz=>by simp [y1] at hz;rw [hz];exact Int.le_refl _) (by simp [y1]) rfl)]
 rw [seq_ok (l':=su [x,y]) (c':=bkC t [] 200 2 y2) ((if_f (look 2 y2 [x,y] _ m2 (by simp [y2]) rfl)).trans rfl)]
 have dr:sExpr (dMeth t.c_Book "drop" 2 (g_Book_drop K t) [] (dv 3) (aCons (dc (.int 1)) aNil)) (su [x,y]) (bkC t [] 200 2 y2)=some (.ok (.nx (su [x,y])) (bkC t [] 200 2 y3)):=by
  refine expr_ok (x:=.tup [.str x.1,.str x.2.1,.int x.2.2]) (((meth_ok (o:=.hnd 0) (c1:=bkC t [] 200 2 y2) rfl (cellI_at (bkC_at (t:=t) [] 200 2 y2).ob) rfl (eva (x:=.int 1) rfl evn)).trans (call_drop (K:=K) (n:=1) (p:=x.1) (q:=x.2.1) (s:=x.2.2) (bkC_at (t:=t) [] 200 2 y2) rfl)).trans ?_)
  rfl
 rw [seq_ok dr]
 have q3:∀ cc,Ev (dSl slS (dv 1) (oSome (dc (.int 1))) oNone) (su [x,y]) cc (.lst ((y3.map (·.2)).map sgD)):=fun cc=>evSlL (xs:=[sgD x,sgD y]) (a:=some 1) (b:=none) rfl rfl rfl
 rw [seq_ok (l':=su [x,y]) (c':=bkC t [] 200 2 y3) ((if_f (look 2 y3 [x,y] _ (fun z hz=>by simp [y3] at hz;exact .inr hz) (by simp [y3]) (q3 _))).trans rfl)]
 rw [seq_ok (l':=su [x,y]) (c':=bkC t [] 200 3 y4) (take 2 y3 [x,y] 0 x (.inl rfl) (fun z hz=>by simp [y3] at hz;exact .inr hz) (fun z hz=>by simp [y3] at hz;rw [hz];exact Int.le_refl _) (by simp [y3]) rfl)]
 rw [seq_ok (l':=su [y,x]) (c':=bkC t [] 200 3 y4) (set_ok (i:=1) (evl (eva (ev2 (x:=.lst [sgD x,sgD y]) (y:=.int 1) (z:=sgD y) rfl rfl rfl) (eva (ev2 (x:=.lst [sgD x,sgD y]) (y:=.int 0) (z:=sgD x) rfl rfl rfl) evn))))]
 rw [seq_ok (l':=su [y,x]) (c':=bkC t [] 200 3 y4) ((if_f (look 3 y4 [y,x] _ (fun z hz=>by simp [y4] at hz;exact hz.symm) (by simp [y4]) rfl)).trans rfl)]
 exact ret_ok (evc (eva ((meth_ok (o:=.hnd 0) (c1:=bkC t [] 200 3 y4) rfl (cellI_at (bkC_at (t:=t) [] 200 3 y4).ob) rfl aNil_ok).trans (call_kept (K:=K) (bkC_at (t:=t) [] 200 3 y4) (rw_ok y4))) (eva (x:=.lst [.int 2,.int 3]) (evl (eva (x:=.int 2) rfl (eva (x:=.int 3) rfl evn))) (eva (x:=.lst [sgD y,sgD x]) rfl evn))) (call_law_kept y4 _))
theorem r_law (T:Txt K mg t):RN 1 (g_law) (t_law K t) N_law:=by
 intro ds c r hl h
 unfold g_law gV at h
 cases z:f_law ds c with
 | none=>rw [z] at h;cases h
 | some d=>
  rw [z] at h
  cases h
  unfold f_law at z
  split at z
  ·rename_i ns
   split at z
   ·cases z
    obtain ⟨c',e⟩:=law_runs T ns
    refine ⟨_,_,rfl,?_⟩
    rw [e]
    exact DL.Fin.val (c:=[]) (c':=c') rfl ⟨Nat.zero_le _,fun _ _ h _=>absurd h (Nat.not_lt_zero _)⟩
   ·cases z
  ·cases z
theorem b_is_peg (T:Txt K mg t):B0 P w K mg base 0 "is_peg" s_is_peg t.f_is_peg N_is_peg t_is_peg:=fun cdv A outer s H E hr=>have hu:=hr.units
 (dss_cons (ds_if (dt_not (dt_val (de_isi .str T.b_isinstance T.b_str (de_var 0)))) (dss_one (ds_ret de_bl)) dss_nil)
   (dss_one (ds_ret (de_and (de_le_le de_int (de_len T.b_len (de_var 0)) de_int) (de_one (de_all rfl T.b_all (de_comp [] (CompScope.of rfl (by show compOk (defScope s_is_peg).names _=true;decide +kernel)) rfl (di_val (de_var 0)) (by show freeIn N_is_peg _ _=true;decide +kernel) (fun _ _ _ _ _=>dg_name (i:=0) (by show (compN _ N_is_peg _).Nodup;decide +kernel)) (fun _ _ _ _ _=>dif_nil) (fun _ _ _ _ _=>(de_le_le (de_str [97]) (de_var 0) (de_str [122]))) fs_Name)))))))
theorem ok_is_peg (T:Txt K mg t):FnOk P w K mg base CX0 1 t.f_is_peg t.d_is_peg ["thing"] (spD K 1 g_is_peg):=
 okG0 T.F_is_peg sc_is_peg rfl (b_is_peg T) r_is_peg
theorem b_is_whole (T:Txt K mg t):B0 P w K mg base 0 "is_whole" s_is_whole t.f_is_whole N_is_whole t_is_whole:=fun cdv A outer s H E hr=>have hu:=hr.units
 (dss_one (ds_ret (de_and (de_isi .int T.b_isinstance T.b_int (de_var 0)) (de_one (de_not (de_isi .bl T.b_isinstance T.b_bool (de_var 0)))))))
theorem ok_is_whole (T:Txt K mg t):FnOk P w K mg base CX0 1 t.f_is_whole t.d_is_whole ["thing"] (spD K 1 g_is_whole):=
 okG0 T.F_is_whole sc_is_whole rfl (b_is_whole T) r_is_whole
theorem b_turned (T:Txt K mg t):B0 P w K mg base 0 "turned" s_turned t.f_turned N_turned t_turned:=fun cdv A outer s H E hr=>have hu:=hr.units
 (dss_one (ds_ret (de_tup (da_cons (de_ix (de_var 0) de_int) (da_cons (de_ix (de_var 0) de_int) (da_cons (de_sub de_int (de_ix (de_var 0) de_int)) da_nil))))))
theorem ok_turned (T:Txt K mg t):FnOk P w K mg base CX0 1 t.f_turned t.d_turned ["sighting"] (spD K 1 g_turned):=
 okG0 T.F_turned sc_turned rfl (b_turned T) r_turned
theorem b_total (T:Txt K mg t):B0 P w K mg base 0 "total" s_total t.f_total N_total t_total:=fun cdv A outer s H E hr=>have hu:=hr.units
 (dss_one (ds_ret (de_sum rfl T.b_sum (de_comp [] (CompScope.of rfl (by show compOk (defScope s_total).names _=true;decide +kernel)) rfl (di_val (de_var 0)) (by show freeIn N_total _ _=true;decide +kernel) (fun _ _ _ _ _=>dg_name (i:=0) (by show (compN _ N_total _).Nodup;decide +kernel)) (fun _ _ _ _ _=>dif_nil) (fun _ _ _ _ _=>(de_ix (de_var 0) de_int)) fs_Name))))
theorem ok_total (T:Txt K mg t):FnOk P w K mg base CX0 1 t.f_total t.d_total ["steps"] (spD K 1 g_total):=
 okG0 T.F_total sc_total rfl (b_total T) r_total
theorem b_Book_init (T:Txt K mg t):B0 P w K mg base 0 "Book.__init__" s_Book_init t.f_Book_init N_Book_init (t_Book_init K t):=fun cdv A outer s H E hr=>have hu:=hr.units
 (dss_cons (ds_fld t.c_Book T.cl_Book T.na_Book_most (de_var 0) (de_var 1))
   (dss_cons (ds_fld t.c_Book T.cl_Book T.na_Book_taken (de_var 0) de_int)
   (dss_one (ds_fld t.c_Book T.cl_Book T.na_Book_rows (de_var 0) de_dict))))
theorem ok_Book_init (T:Txt K mg t):FnOk P w K mg base CX0 1 t.f_Book_init t.d_Book_init ["self","most"] (spD K 2 (g_Book_init K t)):=
 okG0 T.F_Book_init sc_Book_init rfl (b_Book_init T) r_Book_init
theorem b_Book_kept (T:Txt K mg t):B0 P w K mg base 0 "Book.kept" s_Book_kept t.f_Book_kept N_Book_kept (t_Book_kept K t):=fun cdv A outer s H E hr=>have hu:=hr.units
 (dss_one (ds_ret (de_listV rfl T.b_list (de_fld t.c_Book T.cl_Book T.na_Book_rows (de_var 0)))))
theorem ok_Book_kept (T:Txt K mg t):FnOk P w K mg base CX0 1 t.f_Book_kept t.d_Book_kept ["self"] (spD K 1 (g_Book_kept K t)):=
 okG0 T.F_Book_kept sc_Book_kept rfl (b_Book_kept T) r_Book_kept
theorem b_shown_row (T:Txt K mg t):B0 P w K mg base 0 "shown_row" s_shown_row t.f_shown_row N_shown_row t_shown_row:=fun cdv A outer s H E hr=>have hu:=hr.units
 (dss_one (ds_ret (de_join (de_str [32]) (de_lst (da_cons (de_ix (de_var 0) de_int) (da_cons (de_ix (de_var 0) de_int) (da_cons (de_strOf T.b_str (de_ix (de_var 0) de_int)) da_nil)))))))
theorem ok_shown_row (T:Txt K mg t):FnOk P w K mg base CX0 1 t.f_shown_row t.d_shown_row ["row"] (spD K 1 g_shown_row):=
 okG0 T.F_shown_row sc_shown_row rfl (b_shown_row T) r_shown_row
theorem b_is_written_rise (T:Txt K mg t):B0 P w K mg base 0 "is_written_rise" s_is_written_rise t.f_is_written_rise N_is_written_rise t_is_written_rise:=fun cdv A outer s H E hr=>have hu:=hr.units
 (dss_cons (ds_set (i:=1) sc_is_written_rise.nd (de_if (dt_val (de_starts (de_var 0) (de_str [45]))) (de_slS (de_var 0) (do_some de_int) do_none) (de_var 0)))
   (dss_cons (ds_if (dt_not (dt_le_le de_int (de_len T.b_len (de_var 1)) de_int)) (dss_one (ds_ret de_bl)) dss_nil)
   (dss_cons (ds_if (dt_not (dt_val (de_all rfl T.b_all (de_comp [] (CompScope.of rfl (by show compOk (defScope s_is_written_rise).names _=true;decide +kernel)) rfl (di_val (de_var 1)) (by show freeIn N_is_written_rise _ _=true;decide +kernel) (fun _ _ _ _ _=>dg_name (i:=0) (by show (compN _ N_is_written_rise _).Nodup;decide +kernel)) (fun _ _ _ _ _=>dif_nil) (fun _ _ _ _ _=>(de_le_le (de_str [48]) (de_var 0) (de_str [57]))) fs_Name)))) (dss_one (ds_ret de_bl)) dss_nil)
   (dss_one (ds_ret (de_or (de_ne hu (de_ix (de_var 1) de_int) (de_str [48])) (de_one (de_eq hu (de_var 0) (de_str [48])))))))))
theorem ok_is_written_rise (T:Txt K mg t):FnOk P w K mg base CX0 1 t.f_is_written_rise t.d_is_written_rise ["word"] (spD K 1 g_is_written_rise):=
 okG0 T.F_is_written_rise sc_is_written_rise rfl (b_is_written_rise T) r_is_written_rise
theorem b_law_cell_at (T:Txt K mg t):B0 P w K mg base 0 "_law_cell_at" s_law_cell_at t.f_law_cell_at N_law_cell_at t_law_cell_at:=fun cdv A outer s H E hr=>have hu:=hr.units
 (dss_cons (ds_if (dt_lt (de_var 1) (de_len T.b_len (de_var 0))) (dss_one (ds_ret (de_ix (de_var 0) (de_var 1)))) dss_nil)
   (dss_one (ds_ret de_int)))
theorem ok_law_cell_at (T:Txt K mg t):FnOk P w K mg base CX0 1 t.f_law_cell_at t.d_law_cell_at ["_law_script","_law_k"] (spD K 2 g_law_cell_at):=
 okG0 T.F_law_cell_at sc_law_cell_at rfl (b_law_cell_at T) r_law_cell_at
theorem b_law_mixed (T:Txt K mg t):B0 P w K mg base 0 "_law_mixed" s_law_mixed t.f_law_mixed N_law_mixed t_law_mixed:=fun cdv A outer s H E hr=>have hu:=hr.units
 (dss_one (ds_ret (de_mod (de_mul (de_add (de_mod (de_var 0) de_int) de_int) de_int) de_int)))
theorem ok_law_mixed (T:Txt K mg t):FnOk P w K mg base CX0 1 t.f_law_mixed t.d_law_mixed ["_law_cell"] (spD K 1 g_law_mixed):=
 okG0 T.F_law_mixed sc_law_mixed rfl (b_law_mixed T) r_law_mixed
theorem b_law_word (T:Txt K mg t):B0 P w K mg base 0 "_law_word" s_law_word t.f_law_word N_law_word t_law_word:=fun cdv A outer s H E hr=>have hu:=hr.units
 (dss_cons (ds_set (i:=2) sc_law_word.nd (de_str [97,98,99,100,101,102,103,104,105,106,107,108,109,110,111,112,113,114,115,116,117,118,119,120,121,122]))
   (dss_cons (ds_set (i:=3) sc_law_word.nd (de_str []))
   (dss_cons (ds_set (i:=0) sc_law_word.nd (de_add (de_mod (de_var 0) de_int) de_int))
   (dss_cons (ds_forI PassesOwn.never rfl (di_range1 T.b_range (de_var 1)) (dg_name (i:=4) sc_law_word.nd)
   (dss_cons (ds_set (i:=0) sc_law_word.nd (de_mod (de_mul (de_var 0) (de_add de_int (de_var 4))) de_int))
   (dss_one (ds_set (i:=3) sc_law_word.nd (de_add (de_var 3) (de_ix (de_var 2) (de_mod (de_var 0) de_int)))))) fs_Call)
   (dss_one (ds_ret (de_var 3)))))))
theorem ok_law_word (T:Txt K mg t):FnOk P w K mg base CX0 1 t.f_law_word t.d_law_word ["_law_number","_law_size"] (spD K 2 g_law_word):=
 okG0 T.F_law_word sc_law_word rfl (b_law_word T) r_law_word
theorem b_law_second (T:Txt K mg t):B0 P w K mg base 0 "_law_second" s_law_second t.f_law_second N_law_second t_law_second:=fun cdv A outer s H E hr=>have hu:=hr.units
 (dss_cons (ds_if (dt_eq hu (de_var 1) (de_var 2)) (dss_one (ds_ret de_int)) dss_nil)
   (dss_cons (ds_if (dt_w (dw_and (dt_eq hu (de_var 1) (de_ix (de_var 0) de_int)) (dw_and1 (dt_eq hu (de_var 2) (de_ix (de_var 0) de_int))))) (dss_one (ds_ret (de_ix (de_var 0) de_int))) dss_nil)
   (dss_cons (ds_if (dt_w (dw_and (dt_eq hu (de_var 1) (de_ix (de_var 0) de_int)) (dw_and1 (dt_eq hu (de_var 2) (de_ix (de_var 0) de_int))))) (dss_one (ds_ret (de_sub de_int (de_ix (de_var 0) de_int)))) dss_nil)
   (dss_one (ds_ret (de_var 3))))))
theorem ok_law_second (T:Txt K mg t):FnOk P w K mg base CX0 1 t.f_law_second t.d_law_second ["_law_first","_law_one","_law_other","_law_rise_here"] (spD K 4 g_law_second):=
 okG0 T.F_law_second sc_law_second rfl (b_law_second T) r_law_second
theorem b_law_text (T:Txt K mg t):B0 P w K mg base 0 "_law_text" s_law_text t.f_law_text N_law_text t_law_text:=fun cdv A outer s H E hr=>have hu:=hr.units
 (dss_one (ds_ret (de_join (de_str [59,32]) (de_comp [] (CompScope.of rfl (by show compOk (defScope s_law_text).names _=true;decide +kernel)) rfl (di_val (de_var 0)) (by show freeIn N_law_text _ _=true;decide +kernel) (fun _ _ _ _ _=>dg_name (i:=0) (by show (compN _ N_law_text _).Nodup;decide +kernel)) (fun _ _ _ _ _=>dif_nil) (fun _ _ _ _ _=>(de_add (de_add (de_add (de_add (de_ix (de_var 0) de_int) (de_str [32])) (de_ix (de_var 0) de_int)) (de_str [32])) (de_strOf T.b_str (de_ix (de_var 0) de_int)))) fs_Name))))
theorem ok_law_text (T:Txt K mg t):FnOk P w K mg base CX0 1 t.f_law_text t.d_law_text ["_law_some"] (spD K 1 g_law_text):=
 okG0 T.F_law_text sc_law_text rfl (b_law_text T) r_law_text
theorem b_law_whole (T:Txt K mg t):B0 P w K mg base 0 "_law_whole" s_law_whole t.f_law_whole N_law_whole t_law_whole:=fun cdv A outer s H E hr=>have hu:=hr.units
 (dss_one (ds_ret (de_and (de_isi .int T.b_isinstance T.b_int (de_var 0)) (de_one (de_not (de_isi .bl T.b_isinstance T.b_bool (de_var 0)))))))
theorem ok_law_whole (T:Txt K mg t):FnOk P w K mg base CX0 1 t.f_law_whole t.d_law_whole ["_law_found"] (spD K 1 g_law_whole):=
 okG0 T.F_law_whole sc_law_whole rfl (b_law_whole T) r_law_whole
theorem b_Book_kept_c (T:Txt K mg t):B0 P w K mg base 0 "Book.kept" s_Book_kept_c t.f_Book_kept N_Book_kept_c (t_Book_kept_c K t):=fun cdv A outer s H E hr=>have hu:=hr.units
 (dss_one (ds_ret (de_listVC rfl T.b_list (de_fld t.c_Book T.cl_Book T.na_Book_rows (de_var 0)))))
theorem ok_Book_kept_c (T:Txt K mg t):FnOk P w K mg base CX0 1 t.f_Book_kept t.d_Book_kept ["self"] (spD K 1 (g_Book_kept_c K t)):=
 okG0 T.F_Book_kept sc_Book_kept_c rfl (b_Book_kept_c T) r_Book_kept_c
theorem b_is_rise (T:Txt K mg t):B0 P w K mg base 1 "is_rise" s_is_rise t.f_is_rise N_is_rise t_is_rise:=fun cdv A outer s H E hr=>have hu:=hr.units
 (dss_one (ds_ret (de_and (de_call (ok_is_whole T) (hr.mono (by decide)) T.m_is_whole T.F_is_whole.kp T.bi_is_whole .nil (fun _ _=>.nil) pass0E (da_cons (de_var 0) da_nil)) (de_one (de_lt (de_abs T.b_abs (de_var 0)) (de_pow de_int de_int))))))
theorem ok_is_rise (T:Txt K mg t):FnOk P w K mg base CX0 2 t.f_is_rise t.d_is_rise ["thing"] (spD K 1 g_is_rise):=
 okG0 T.F_is_rise sc_is_rise rfl (b_is_rise T) r_is_rise
theorem b_turned_row (T:Txt K mg t):B0 P w K mg base 1 "turned_row" s_turned_row t.f_turned_row N_turned_row t_turned_row:=fun cdv A outer s H E hr=>have hu:=hr.units
 (dss_one (ds_ret (de_add (de_tup (da_cons (de_ix (de_var 0) de_int) da_nil)) (de_call (ok_turned T) (hr.mono (by decide)) T.m_turned T.F_turned.kp T.bi_turned .nil (fun _ _=>.nil) pass0E (da_cons (de_slS (de_var 0) (do_some de_int) do_none) da_nil)))))
theorem ok_turned_row (T:Txt K mg t):FnOk P w K mg base CX0 2 t.f_turned_row t.d_turned_row ["row"] (spD K 1 g_turned_row):=
 okG0 T.F_turned_row sc_turned_row rfl (b_turned_row T) r_turned_row
theorem b_Book_row_at (T:Txt K mg t):B0 P w K mg base 1 "Book.row_at" s_Book_row_at t.f_Book_row_at N_Book_row_at (t_Book_row_at K t):=fun cdv A outer s H E hr=>have hu:=hr.units
 (dss_cons (ds_if (dt_w (dw_or (dt_not (dt_val (de_call (ok_is_whole T) (hr.mono (by decide)) T.m_is_whole T.F_is_whole.kp T.bi_is_whole .nil (fun _ _=>.nil) pass0E (da_cons (de_var 1) da_nil)))) (dw_or1 (dt_dnin hu (de_var 1) (de_fld t.c_Book T.cl_Book T.na_Book_rows (de_var 0)))))) (dss_one ds_never) dss_nil)
   (dss_one (ds_ret (de_dget hu (de_fld t.c_Book T.cl_Book T.na_Book_rows (de_var 0)) (de_var 1)))))
theorem ok_Book_row_at (T:Txt K mg t):FnOk P w K mg base CX0 2 t.f_Book_row_at t.d_Book_row_at ["self","number"] (spD K 2 (g_Book_row_at K t)):=
 okG0 T.F_Book_row_at sc_Book_row_at rfl (b_Book_row_at T) r_Book_row_at
theorem b_shown (T:Txt K mg t):B0 P w K mg base 1 "shown" s_shown t.f_shown N_shown (t_shown K t):=fun cdv A outer s H E hr=>have hu:=hr.units
 (dss_one (ds_ret (de_join (de_str [59,32]) (de_comp [] (CompScope.of rfl (by show compOk (defScope s_shown).names _=true;decide +kernel)) rfl (di_val (de_meth0 t.c_Book (de_var 0) T.cl_Book T.me_Book_kept (ok_Book_kept T) (hr.mono (by decide)) T.bi_Book_kept .nil (fun _ _=>.nil) pass0E)) (by show freeIn N_shown _ _=true;decide +kernel) (fun _ _ _ _ _=>dg_name (i:=0) (by show (compN _ N_shown _).Nodup;decide +kernel)) (fun _ _ _ _ _=>dif_nil) (fun _ _ _ _ _=>(de_call (ok_shown_row T) (hr.mono (by decide)) T.m_shown_row T.F_shown_row.kp T.bi_shown_row .nil (fun _ _=>.nil) pass0E (da_cons (de_var 0) da_nil))) fs_Call))))
theorem ok_shown (T:Txt K mg t):FnOk P w K mg base CX0 2 t.f_shown t.d_shown ["book"] (spD K 1 (g_shown K t)):=
 okG0 T.F_shown sc_shown rfl (b_shown T) r_shown
theorem b_read_sighting (T:Txt K mg t):B0 P w K mg base 1 "read_sighting" s_read_sighting t.f_read_sighting N_read_sighting (t_read_sighting K t):=fun cdv A outer s H E hr=>have hu:=hr.units
 (dss_cons (ds_set (i:=1) sc_read_sighting.nd (de_split (de_var 0) (de_str [32])))
   (dss_cons (ds_if (dt_w (dw_or (dt_ne hu (de_len T.b_len (de_var 1)) de_int) (dw_or (dt_not (dt_val (de_call (ok_is_peg T) (hr.mono (by decide)) T.m_is_peg T.F_is_peg.kp T.bi_is_peg .nil (fun _ _=>.nil) pass0E (da_cons (de_ix (de_var 1) de_int) da_nil)))) (dw_or (dt_not (dt_val (de_call (ok_is_peg T) (hr.mono (by decide)) T.m_is_peg T.F_is_peg.kp T.bi_is_peg .nil (fun _ _=>.nil) pass0E (da_cons (de_ix (de_var 1) de_int) da_nil)))) (dw_or1 (dt_not (dt_val (de_call (ok_is_written_rise T) (hr.mono (by decide)) T.m_is_written_rise T.F_is_written_rise.kp T.bi_is_written_rise .nil (fun _ _=>.nil) pass0E (da_cons (de_ix (de_var 1) de_int) da_nil))))))))) (dss_one ds_never) dss_nil)
   (dss_one (ds_ret (de_tup (da_cons (de_ix (de_var 1) de_int) (da_cons (de_ix (de_var 1) de_int) (da_cons (de_intT T.b_int (de_ix (de_var 1) de_int)) da_nil))))))))
theorem ok_read_sighting (T:Txt K mg t):FnOk P w K mg base CX0 2 t.f_read_sighting t.d_read_sighting ["written"] (spD K 1 (g_read_sighting K t)):=
 okG0 T.F_read_sighting sc_read_sighting rfl (b_read_sighting T) r_read_sighting
theorem b_law_pool (T:Txt K mg t):B0 P w K mg base 1 "_law_pool" s_law_pool t.f_law_pool N_law_pool t_law_pool:=fun cdv A outer s H E hr=>have hu:=hr.units
 (dss_cons (ds_set (i:=2) sc_law_pool.nd (de_str [97,98,99,100,101,102,103,104,105,106,107,108,109,110,111,112,113,114,115,116,117,118,119,120,121,122]))
   (dss_cons (ds_set (i:=3) sc_law_pool.nd (de_mod (de_div (de_var 0) de_int) de_int))
   (dss_cons (ds_set (i:=4) sc_law_pool.nd (de_call (ok_law_word T) (hr.mono (by decide)) T.m_law_word T.F_law_word.kp T.bi_law_word .nil (fun _ _=>.nil) pass0E (da_cons (de_var 3) (da_cons de_int da_nil))))
   (dss_cons (ds_set (i:=5) sc_law_pool.nd (de_add de_int (de_mod (de_var 3) de_int)))
   (dss_cons (ds_set (i:=6) sc_law_pool.nd (de_mod (de_div (de_var 3) de_int) (de_var 5)))
   (dss_cons (ds_set (i:=7) sc_law_pool.nd (de_lstC da_nil))
   (dss_cons (ds_forI PassesOwn.never rfl (di_range1 T.b_range (de_var 1)) (dg_name (i:=8) sc_law_pool.nd)
   (dss_one (ds_if (dt_eq hu (de_mod (de_var 0) de_int) de_int) (dss_cons (ds_set (i:=9) sc_law_pool.nd (de_add de_int (de_mod (de_add (de_var 3) (de_mul (de_var 8) (de_var 8))) de_int)))
   (dss_one (ds_expr (de_append (de_var 7) (de_call (ok_law_word T) (hr.mono (by decide)) T.m_law_word T.F_law_word.kp T.bi_law_word .nil (fun _ _=>.nil) pass0E (da_cons (de_add (de_var 3) (de_mul de_int (de_var 8))) (da_cons (de_var 9) da_nil))))))) (dss_one (ds_if (dt_eq hu (de_mod (de_var 0) de_int) de_int) (dss_cons (ds_set (i:=10) sc_law_pool.nd (de_ix (de_var 2) (de_mod (de_add (de_div (de_var 3) de_int) (de_var 8)) de_int)))
   (dss_one (ds_expr (de_append (de_var 7) (de_add (de_add (de_slS (de_var 4) do_none (do_some (de_var 6))) (de_var 10)) (de_slS (de_var 4) (do_some (de_add (de_var 6) de_int)) (do_some (de_var 5)))))))) (dss_one (ds_expr (de_append (de_var 7) (de_slS (de_var 4) (do_some (de_div (de_var 8) de_int)) (do_some (de_add (de_add (de_div (de_var 8) de_int) de_int) (de_mod (de_var 8) de_int))))))))))) fs_Call)
   (dss_one (ds_ret (de_var 7))))))))))
theorem ok_law_pool (T:Txt K mg t):FnOk P w K mg base CX0 2 t.f_law_pool t.d_law_pool ["_law_cell","_law_many"] (spD K 2 g_law_pool):=
 okG0 T.F_law_pool sc_law_pool rfl (b_law_pool T) r_law_pool
theorem b_law_rise (T:Txt K mg t):B0 P w K mg base 1 "_law_rise" s_law_rise t.f_law_rise N_law_rise t_law_rise:=fun cdv A outer s H E hr=>have hu:=hr.units
 (dss_cons (ds_set (i:=1) sc_law_rise.nd (de_call (ok_law_mixed T) (hr.mono (by decide)) T.m_law_mixed T.F_law_mixed.kp T.bi_law_mixed .nil (fun _ _=>.nil) pass0E (da_cons (de_var 0) da_nil)))
   (dss_cons (ds_if (dt_eq hu (de_mod (de_var 1) de_int) de_int) (dss_one (ds_ret (de_ix (de_lst (da_cons de_int (da_cons de_int (da_cons (de_neg de_int) (da_cons de_int (da_cons (de_neg de_int) (da_cons (de_pow de_int de_int) (da_cons (de_sub (de_pow de_int de_int) de_int) (da_cons (de_sub de_int (de_pow de_int de_int)) da_nil))))))))) (de_mod (de_div (de_var 1) de_int) de_int)))) dss_nil)
   (dss_cons (ds_if (dt_eq hu (de_mod (de_var 1) de_int) de_int) (dss_one (ds_ret (de_sub (de_mod (de_div (de_var 1) de_int) de_int) de_int))) dss_nil)
   (dss_cons (ds_set (i:=2) sc_law_rise.nd (de_mod (de_add (de_var 0) (de_mul (de_var 1) (de_pow de_int de_int))) (de_pow de_int de_int)))
   (dss_one (ds_ret (de_if (dt_eq hu (de_mod (de_div (de_var 1) de_int) de_int) de_int) (de_var 2) (de_sub de_int (de_var 2)))))))))
theorem ok_law_rise (T:Txt K mg t):FnOk P w K mg base CX0 2 t.f_law_rise t.d_law_rise ["_law_cell"] (spD K 1 g_law_rise):=
 okG0 T.F_law_rise sc_law_rise rfl (b_law_rise T) r_law_rise
theorem b_law_kept (T:Txt K mg t):B0 P w K mg base 1 "_law_kept" s_law_kept t.f_law_kept N_law_kept t_law_kept:=fun cdv A outer s H E hr=>have hu:=hr.units
 (dss_cons (ds_if (dt_w (dw_or (dt_not (dt_val (de_isi .lst T.b_isinstance T.b_list (de_var 0)))) (dw_or1 (dt_ne hu (de_len T.b_len (de_var 0)) (de_len T.b_len (de_var 2)))))) (dss_one (ds_ret de_bl)) dss_nil)
   (dss_cons (ds_forE PassesOwn.never rfl (die_zip3 T.b_zip (de_var 0) (de_var 1) (de_var 2)) (dg_trip (i:=3) (j:=4) (m:=5) sc_law_kept.nd rfl)
   (dss_cons (ds_if (dt_w (dw_or (dt_not (dt_val (de_isi .tup T.b_isinstance T.b_tuple (de_var 3)))) (dw_or (dt_ne hu (de_len T.b_len (de_var 3)) de_int) (dw_or (dt_not (dt_val (de_call (ok_law_whole T) (hr.mono (by decide)) T.m_law_whole T.F_law_whole.kp T.bi_law_whole .nil (fun _ _=>.nil) pass0E (da_cons (de_ix (de_var 3) de_int) da_nil)))) (dw_or1 (dt_not (dt_val (de_call (ok_law_whole T) (hr.mono (by decide)) T.m_law_whole T.F_law_whole.kp T.bi_law_whole .nil (fun _ _=>.nil) pass0E (da_cons (de_ix (de_var 3) de_int) da_nil))))))))) (dss_one (ds_ret de_bl)) dss_nil)
   (dss_one (ds_if (dt_ne hu (de_var 3) (de_tup (da_cons (de_var 4) (da_cons (de_ix (de_var 5) de_int) (da_cons (de_ix (de_var 5) de_int) (da_cons (de_ix (de_var 5) de_int) da_nil)))))) (dss_one (ds_ret de_bl)) dss_nil))) fs_Call)
   (dss_one (ds_ret de_bl))))
theorem ok_law_kept (T:Txt K mg t):FnOk P w K mg base CX0 2 t.f_law_kept t.d_law_kept ["_law_found","_law_numbers","_law_some"] (spD K 3 g_law_kept):=
 okG0 T.F_law_kept sc_law_kept rfl (b_law_kept T) r_law_kept
theorem b_is_sighting (T:Txt K mg t):B0 P w K mg base 2 "is_sighting" s_is_sighting t.f_is_sighting N_is_sighting t_is_sighting:=fun cdv A outer s H E hr=>have hu:=hr.units
 (dss_cons (ds_if (dt_w (dw_or (dt_not (dt_val (de_isi .tup T.b_isinstance T.b_tuple (de_var 0)))) (dw_or1 (dt_ne hu (de_len T.b_len (de_var 0)) de_int)))) (dss_one (ds_ret de_bl)) dss_nil)
   (dss_one (ds_ret (de_and (de_call (ok_is_peg T) (hr.mono (by decide)) T.m_is_peg T.F_is_peg.kp T.bi_is_peg .nil (fun _ _=>.nil) pass0E (da_cons (de_ix (de_var 0) de_int) da_nil)) (de_and (de_call (ok_is_peg T) (hr.mono (by decide)) T.m_is_peg T.F_is_peg.kp T.bi_is_peg .nil (fun _ _=>.nil) pass0E (da_cons (de_ix (de_var 0) de_int) da_nil)) (de_one (de_call (ok_is_rise T) (hr.mono (by decide)) T.m_is_rise T.F_is_rise.kp T.bi_is_rise .nil (fun _ _=>.nil) pass0E (da_cons (de_ix (de_var 0) de_int) da_nil))))))))
theorem ok_is_sighting (T:Txt K mg t):FnOk P w K mg base CX0 3 t.f_is_sighting t.d_is_sighting ["thing"] (spD K 1 g_is_sighting):=
 okG0 T.F_is_sighting sc_is_sighting rfl (b_is_sighting T) r_is_sighting
theorem b_steps_by_peg (T:Txt K mg t):B0 P w K mg base 2 "steps_by_peg" s_steps_by_peg t.f_steps_by_peg N_steps_by_peg t_steps_by_peg:=fun cdv A outer s H E hr=>have hu:=hr.units
 (dss_cons (ds_set (i:=1) sc_steps_by_peg.nd de_dict)
   (dss_cons (ds_forI PassesOwn.never rfl (di_val (de_var 0)) (dg_name (i:=2) sc_steps_by_peg.nd)
   (dss_one (ds_forI PassesOwn.never rfl (di_val (de_tup (da_cons (de_var 2) (da_cons (de_call (ok_turned_row T) (hr.mono (by decide)) T.m_turned_row T.F_turned_row.kp T.bi_turned_row .nil (fun _ _=>.nil) pass0E (da_cons (de_var 2) da_nil)) da_nil)))) (dg_name (i:=3) sc_steps_by_peg.nd)
   (dss_one (ds_expr (de_append (de_setd (de_var 1) (de_ix (de_var 3) de_int) (de_lstC da_nil)) (de_var 3)))) fs_Tuple)) fs_Name)
   (dss_one (ds_ret (de_var 1)))))
theorem ok_steps_by_peg (T:Txt K mg t):FnOk P w K mg base CX0 3 t.f_steps_by_peg t.d_steps_by_peg ["rows"] (spD K 1 g_steps_by_peg):=
 okG0 T.F_steps_by_peg sc_steps_by_peg rfl (b_steps_by_peg T) r_steps_by_peg
theorem b_Book_drop (T:Txt K mg t):B0 P w K mg base 2 "Book.drop" s_Book_drop t.f_Book_drop N_Book_drop (t_Book_drop K t):=fun cdv A outer s H E hr=>have hu:=hr.units
 (dss_cons (ds_set (i:=2) sc_Book_drop.nd (de_meth t.c_Book (de_var 0) T.cl_Book T.me_Book_row_at (ok_Book_row_at T) (hr.mono (by decide)) T.bi_Book_row_at .nil (fun _ _=>.nil) pass0E (da_cons (de_var 1) da_nil)))
   (dss_cons (ds_expr (de_dpop (de_fld t.c_Book T.cl_Book T.na_Book_rows (de_var 0)) (de_var 1)))
   (dss_one (ds_ret (de_slS (de_var 2) (do_some de_int) do_none)))))
theorem ok_Book_drop (T:Txt K mg t):FnOk P w K mg base CX0 3 t.f_Book_drop t.d_Book_drop ["self","number"] (spD K 2 (g_Book_drop K t)):=
 okG0 T.F_Book_drop sc_Book_drop rfl (b_Book_drop T) r_Book_drop
theorem b_read_sightings (T:Txt K mg t):B0 P w K mg base 2 "read_sightings" s_read_sightings t.f_read_sightings N_read_sightings (t_read_sightings K t):=fun cdv A outer s H E hr=>have hu:=hr.units
 (dss_cons (ds_if (dt_eq hu (de_var 0) (de_str [])) (dss_one (ds_ret (de_lst da_nil))) dss_nil)
   (dss_one (ds_ret (de_comp [] (CompScope.of rfl (by show compOk (defScope s_read_sightings).names _=true;decide +kernel)) rfl (di_val (de_split (de_var 0) (de_str [59,32]))) (by show freeIn N_read_sightings _ _=true;decide +kernel) (fun _ _ _ _ _=>dg_name (i:=0) (by show (compN _ N_read_sightings _).Nodup;decide +kernel)) (fun _ _ _ _ _=>dif_nil) (fun _ _ _ _ _=>(de_call (ok_read_sighting T) (hr.mono (by decide)) T.m_read_sighting T.F_read_sighting.kp T.bi_read_sighting .nil (fun _ _=>.nil) pass0E (da_cons (de_var 0) da_nil))) fs_Call))))
theorem ok_read_sightings (T:Txt K mg t):FnOk P w K mg base CX0 3 t.f_read_sightings t.d_read_sightings ["text"] (spD K 1 (g_read_sightings K t)):=
 okG0 T.F_read_sightings sc_read_sightings rfl (b_read_sightings T) r_read_sightings
theorem b_law_sightings (T:Txt K mg t):B0 P w K mg base 2 "_law_sightings" s_law_sightings t.f_law_sightings N_law_sightings t_law_sightings:=fun cdv A outer s H E hr=>have hu:=hr.units
 (dss_cons (ds_set (i:=1) sc_law_sightings.nd (de_call (ok_law_mixed T) (hr.mono (by decide)) T.m_law_mixed T.F_law_mixed.kp T.bi_law_mixed .nil (fun _ _=>.nil) pass0E (da_cons (de_call (ok_law_cell_at T) (hr.mono (by decide)) T.m_law_cell_at T.F_law_cell_at.kp T.bi_law_cell_at .nil (fun _ _=>.nil) pass0E (da_cons (de_var 0) (da_cons de_int da_nil))) da_nil)))
   (dss_cons (ds_set (i:=2) sc_law_sightings.nd (de_call (ok_law_pool T) (hr.mono (by decide)) T.m_law_pool T.F_law_pool.kp T.bi_law_pool .nil (fun _ _=>.nil) pass0E (da_cons (de_div (de_var 1) de_int) (da_cons (de_add de_int (de_mod (de_var 1) de_int)) da_nil))))
   (dss_cons (ds_setComp (i:=3) [2,0] sc_law_sightings.nd (CompScope.of rfl (by show compOk (defScope s_law_sightings).names _=true;decide +kernel)) rfl (di_range1 T.b_range de_int) (by show freeIn N_law_sightings _ _=true;decide +kernel) (fun _ _ _ _ _=>dg_name (i:=0) (by show (compN _ N_law_sightings _).Nodup;decide +kernel)) (fun _ _ _ _ _=>dif_nil) (fun _ _ _ _ _=>(de_ix (de_var 1) (de_mod (de_call (ok_law_cell_at T) (hr.mono (by decide)) T.m_law_cell_at T.F_law_cell_at.kp T.bi_law_cell_at .nil (fun _ _=>.nil) pass0E (da_cons (de_var 2) (da_cons (de_add de_int (de_var 0)) da_nil))) (de_len T.b_len (de_var 1))))) fs_Call)
   (dss_cons (ds_set (i:=4) sc_law_sightings.nd (de_call (ok_law_rise T) (hr.mono (by decide)) T.m_law_rise T.F_law_rise.kp T.bi_law_rise .nil (fun _ _=>.nil) pass0E (da_cons (de_call (ok_law_cell_at T) (hr.mono (by decide)) T.m_law_cell_at T.F_law_cell_at.kp T.bi_law_cell_at .nil (fun _ _=>.nil) pass0E (da_cons (de_var 0) (da_cons de_int da_nil))) da_nil)))
   (dss_cons (ds_if (dt_eq hu (de_ix (de_var 3) de_int) (de_ix (de_var 3) de_int)) (dss_one (ds_set (i:=4) sc_law_sightings.nd de_int)) dss_nil)
   (dss_cons (ds_set (i:=5) sc_law_sightings.nd (de_tup (da_cons (de_ix (de_var 3) de_int) (da_cons (de_ix (de_var 3) de_int) (da_cons (de_var 4) da_nil)))))
   (dss_cons (ds_set (i:=4) sc_law_sightings.nd (de_call (ok_law_rise T) (hr.mono (by decide)) T.m_law_rise T.F_law_rise.kp T.bi_law_rise .nil (fun _ _=>.nil) pass0E (da_cons (de_call (ok_law_cell_at T) (hr.mono (by decide)) T.m_law_cell_at T.F_law_cell_at.kp T.bi_law_cell_at .nil (fun _ _=>.nil) pass0E (da_cons (de_var 0) (da_cons de_int da_nil))) da_nil)))
   (dss_one (ds_ret (de_lst (da_cons (de_var 5) (da_cons (de_tup (da_cons (de_ix (de_var 3) de_int) (da_cons (de_ix (de_var 3) de_int) (da_cons (de_call (ok_law_second T) (hr.mono (by decide)) T.m_law_second T.F_law_second.kp T.bi_law_second .nil (fun _ _=>.nil) pass0E (da_cons (de_var 5) (da_cons (de_ix (de_var 3) de_int) (da_cons (de_ix (de_var 3) de_int) (da_cons (de_var 4) da_nil))))) da_nil)))) da_nil))))))))))))
theorem ok_law_sightings (T:Txt K mg t):FnOk P w K mg base CX0 3 t.f_law_sightings t.d_law_sightings ["_law_script"] (spD K 1 g_law_sightings):=
 okG0 T.F_law_sightings sc_law_sightings rfl (b_law_sightings T) r_law_sightings
theorem b_law_shows (T:Txt K mg t):B0 P w K mg base 2 "_law_shows" s_law_shows t.f_law_shows N_law_shows (t_law_shows K t):=fun cdv A outer s H E hr=>have hu:=hr.units
 (dss_cons (ds_set (i:=2) sc_law_shows.nd (de_call (ok_shown T) (hr.mono (by decide)) T.m_shown T.F_shown.kp T.bi_shown .nil (fun _ _=>.nil) pass0E (da_cons (de_var 0) da_nil)))
   (dss_one (ds_ret (de_and (de_isi .str T.b_isinstance T.b_str (de_var 2)) (de_one (de_eq hu (de_var 2) (de_call (ok_law_text T) (hr.mono (by decide)) T.m_law_text T.F_law_text.kp T.bi_law_text .nil (fun _ _=>.nil) pass0E (da_cons (de_var 1) da_nil))))))))
theorem ok_law_shows (T:Txt K mg t):FnOk P w K mg base CX0 3 t.f_law_shows t.d_law_shows ["_law_book","_law_some"] (spD K 2 (g_law_shows K t)):=
 okG0 T.F_law_shows sc_law_shows rfl (b_law_shows T) r_law_shows
theorem b_last_steps (T:Txt K mg t):B0 P w K mg base 3 "last_steps" s_last_steps t.f_last_steps N_last_steps t_last_steps:=fun cdv A outer s H E hr=>have hu:=hr.units
 (dss_cons (ds_set (i:=2) sc_last_steps.nd (de_call (ok_steps_by_peg T) (hr.mono (by decide)) T.m_steps_by_peg T.F_steps_by_peg.kp T.bi_steps_by_peg .nil (fun _ _=>.nil) pass0E (da_cons (de_var 0) da_nil)))
   (dss_cons (ds_set (i:=3) sc_last_steps.nd (de_disp1 (de_var 1) de_non))
   (dss_cons (ds_set (i:=4) sc_last_steps.nd (de_lstC (da_cons (de_var 1) da_nil)))
   (dss_cons (ds_set (i:=5) sc_last_steps.nd de_int)
   (dss_cons (ds_while (fun _=>fuel0) PassesOwn.never (dt_lt (de_var 5) (de_len T.b_len (de_var 4)))
   (dss_cons (ds_forI PassesOwn.never rfl (di_val (de_get2 hu (de_var 2) (de_ix (de_var 4) (de_var 5)) (de_lst da_nil))) (dg_name (i:=6) sc_last_steps.nd)
   (dss_one (ds_if (dt_dnin hu (de_ix (de_var 6) de_int) (de_var 3)) (dss_cons (ds_dput hu (de_var 6) (de_var 3) (de_ix (de_var 6) de_int))
   (dss_one (ds_expr (de_append (de_var 4) (de_ix (de_var 6) de_int))))) dss_nil)) fs_Call)
   (dss_one (ds_aug (i:=5) ip_add sc_last_steps.nd de_int))))
   (dss_one (ds_ret (de_var 3))))))))
theorem ok_last_steps (T:Txt K mg t):FnOk P w K mg base CX0 4 t.f_last_steps t.d_last_steps ["rows","one"] (spD K 2 g_last_steps):=
 okG0 T.F_last_steps sc_last_steps rfl (b_last_steps T) r_last_steps
theorem b_way_along (T:Txt K mg t):B0 P w K mg base 4 "way_along" s_way_along t.f_way_along N_way_along t_way_along:=fun cdv A outer s H E hr=>have hu:=hr.units
 (dss_cons (ds_set (i:=3) sc_way_along.nd (de_call (ok_last_steps T) (hr.mono (by decide)) T.m_last_steps T.F_last_steps.kp T.bi_last_steps .nil (fun _ _=>.nil) pass0E (da_cons (de_var 0) (da_cons (de_var 1) da_nil))))
   (dss_cons (ds_if (dt_dnin hu (de_var 2) (de_var 3)) (dss_one (ds_ret de_non)) dss_nil)
   (dss_cons (ds_set (i:=4) sc_way_along.nd (de_lstC da_nil))
   (dss_cons (ds_set (i:=5) sc_way_along.nd (de_var 2))
   (dss_cons (ds_while (fun _=>fuel0) PassesOwn.never (dt_ne hu (de_var 5) (de_var 1))
   (dss_cons (ds_expr (de_append (de_var 4) (de_dget hu (de_var 3) (de_var 5))))
   (dss_one (ds_set (i:=5) sc_way_along.nd (de_ix (de_dget hu (de_var 3) (de_var 5)) de_int)))))
   (dss_cons (ds_expr (de_revm (de_var 4)))
   (dss_one (ds_ret (de_var 4)))))))))
theorem ok_way_along (T:Txt K mg t):FnOk P w K mg base CX0 5 t.f_way_along t.d_way_along ["rows","one","other"] (spD K 3 g_way_along):=
 okG0 T.F_way_along sc_way_along rfl (b_way_along T) r_way_along
theorem b_Book_take (T:Txt K mg t):BX P w K mg base 5 "Book.take" s_Book_take t.f_Book_take N_Book_take (t_Book_take K t):=fun cdv A outer s H E hr=>have hu:=hr.units
 (dss_cons (ds_if (dt_not (dt_val (de_call (ok_is_sighting T) (hr.mono (by decide)) T.m_is_sighting T.F_is_sighting.kp T.bi_is_sighting .nil (fun _ _=>.nil) pass0E (da_cons (de_tup (da_cons (de_var 1) (da_cons (de_var 2) (da_cons (de_var 3) da_nil)))) da_nil)))) (dss_one ds_never) dss_nil)
   (dss_cons (ds_if (dt_ge (de_len T.b_len (de_fld t.c_Book T.cl_Book T.na_Book_rows (de_var 0))) (de_fld t.c_Book T.cl_Book T.na_Book_most (de_var 0))) (dss_one (ds_raise rfl rfl leavesX T.x_Full T.mx_Full (da_cons (de_str [116,104,101,32,98,111,111,107,32,107,101,101,112,115,32,97,115,32,109,97,110,121,32,115,105,103,104,116,105,110,103,115,32,97,115,32,105,116,32,109,97,121]) da_nil))) dss_nil)
   (dss_cons (ds_set (i:=4) sc_Book_take.nd (de_call (ok_way_along T) (hr.mono (by decide)) T.m_way_along T.F_way_along.kp T.bi_way_along .nil (fun _ _=>.nil) pass0E (da_cons (de_meth0 t.c_Book (de_var 0) T.cl_Book T.me_Book_kept (ok_Book_kept T) (hr.mono (by decide)) T.bi_Book_kept .nil (fun _ _=>.nil) pass0E) (da_cons (de_var 1) (da_cons (de_var 2) da_nil)))))
   (dss_cons (ds_if (dt_w (dw_and (dt_notN (de_var 4)) (dw_and1 (dt_ne hu (de_call (ok_total T) (hr.mono (by decide)) T.m_total T.F_total.kp T.bi_total .nil (fun _ _=>.nil) pass0E (da_cons (de_var 4) da_nil)) (de_var 3))))) (dss_one ds_never) dss_nil)
   (dss_cons (ds_augF t.c_Book in_addI T.cl_Book T.na_Book_taken (de_var 0) de_int)
   (dss_cons (ds_dput hu (de_tup (da_cons (de_fld t.c_Book T.cl_Book T.na_Book_taken (de_var 0)) (da_cons (de_var 1) (da_cons (de_var 2) (da_cons (de_var 3) da_nil))))) (de_fld t.c_Book T.cl_Book T.na_Book_rows (de_var 0)) (de_fld t.c_Book T.cl_Book T.na_Book_taken (de_var 0)))
   (dss_one (ds_ret (de_fld t.c_Book T.cl_Book T.na_Book_taken (de_var 0))))))))))
theorem ok_Book_take (T:Txt K mg t):FnOk P w K mg base (CXD P w) 6 t.f_Book_take t.d_Book_take ["self","one","other","rise"] (spD K 4 (g_Book_take K t)):=
 okGX2 T.F_Book_take sc_Book_take rfl (b_Book_take T) r_Book_take
theorem b_Book_take_n (T:Txt K mg t):B0 P w K mg base 5 "Book.take" s_Book_take_n t.f_Book_take N_Book_take_n (t_Book_take_n K t):=fun cdv A outer s H E hr=>have hu:=hr.units
 (dss_cons (ds_if (dt_not (dt_val (de_call (ok_is_sighting T) (hr.mono (by decide)) T.m_is_sighting T.F_is_sighting.kp T.bi_is_sighting .nil (fun _ _=>.nil) pass0E (da_cons (de_tup (da_cons (de_var 1) (da_cons (de_var 2) (da_cons (de_var 3) da_nil)))) da_nil)))) (dss_one ds_never) dss_nil)
   (dss_cons (ds_if (dt_ge (de_len T.b_len (de_fld t.c_Book T.cl_Book T.na_Book_rows (de_var 0))) (de_fld t.c_Book T.cl_Book T.na_Book_most (de_var 0))) (dss_one ds_never) dss_nil)
   (dss_cons (ds_set (i:=4) sc_Book_take_n.nd (de_call (ok_way_along T) (hr.mono (by decide)) T.m_way_along T.F_way_along.kp T.bi_way_along .nil (fun _ _=>.nil) pass0E (da_cons (de_meth0 t.c_Book (de_var 0) T.cl_Book T.me_Book_kept (ok_Book_kept T) (hr.mono (by decide)) T.bi_Book_kept .nil (fun _ _=>.nil) pass0E) (da_cons (de_var 1) (da_cons (de_var 2) da_nil)))))
   (dss_cons (ds_if (dt_w (dw_and (dt_notN (de_var 4)) (dw_and1 (dt_ne hu (de_call (ok_total T) (hr.mono (by decide)) T.m_total T.F_total.kp T.bi_total .nil (fun _ _=>.nil) pass0E (da_cons (de_var 4) da_nil)) (de_var 3))))) (dss_one ds_never) dss_nil)
   (dss_cons (ds_augF t.c_Book in_addI T.cl_Book T.na_Book_taken (de_var 0) de_int)
   (dss_cons (ds_dput hu (de_tup (da_cons (de_fld t.c_Book T.cl_Book T.na_Book_taken (de_var 0)) (da_cons (de_var 1) (da_cons (de_var 2) (da_cons (de_var 3) da_nil))))) (de_fld t.c_Book T.cl_Book T.na_Book_rows (de_var 0)) (de_fld t.c_Book T.cl_Book T.na_Book_taken (de_var 0)))
   (dss_one (ds_ret (de_fld t.c_Book T.cl_Book T.na_Book_taken (de_var 0))))))))))
theorem ok_Book_take_n (T:Txt K mg t):FnOk P w K mg base CX0 6 t.f_Book_take t.d_Book_take ["self","one","other","rise"] (spD K 4 (g_Book_take_n K t)):=
 okG0 T.F_Book_take sc_Book_take_n rfl (b_Book_take_n T) r_Book_take_n
theorem b_read (T:Txt K mg t):BX P w K mg base 6 "read" s_read t.f_read N_read (t_read K t):=fun cdv A outer s H E hr=>have hu:=hr.units
 (dss_cons (ds_set (i:=2) sc_read.nd (de_call (ok_read_sightings T) (hr.mono (by decide)) T.m_read_sightings T.F_read_sightings.kp T.bi_read_sightings .nil (fun _ _=>.nil) pass0E (da_cons (de_var 0) da_nil)))
   (dss_cons (ds_set (i:=3) sc_read.nd (de_make t.c_Book T.mk_Book (ok_Book_init T) (hr.mono (by decide)) T.mg_Book T.bi_Book_init .nil (fun _ _=>.nil) pass0E (da_cons (de_var 1) da_nil)))
   (dss_cons (ds_forI passOwn rfl (di_val (de_var 2)) (dg_name (i:=4) sc_read.nd)
   (dss_one (ds_expr (de_meth t.c_Book (de_var 3) T.cl_Book T.me_Book_take (ok_Book_take T) (hr.mono (by decide)) T.bi_Book_take .nil (fun _ _=>.nil) passesX (da_cons (de_ix (de_var 4) de_int) (da_cons (de_ix (de_var 4) de_int) (da_cons (de_ix (de_var 4) de_int) da_nil)))))) fs_Name)
   (dss_one (ds_ret (de_var 3))))))
theorem ok_read (T:Txt K mg t):FnOk P w K mg base (CXD P w) 7 t.f_read t.d_read ["text","most"] (spD K 2 (g_read K t)):=
 okGX2 T.F_read sc_read rfl (b_read T) r_read
theorem b_law_no_room (T:Txt K mg t):B0 P w K mg base 6 "_law_no_room" s_law_no_room t.f_law_no_room N_law_no_room (t_law_no_room K t):=fun cdv A outer s H E hr=>have hu:=hr.units
 (dss_cons (ds_try rfl (dssx_one (dsx_expr (dex_meth t.c_Book (fun _ _ h=>h) rfl (de_var 0) T.cl_Book T.me_Book_take (ok_Book_take T) (hr.mono (by decide)) T.bi_Book_take .nil (fun _ _=>.nil) (da_cons (de_ix (de_var 1) de_int) (da_cons (de_ix (de_var 1) de_int) (da_cons (de_ix (de_var 1) de_int) da_nil)))))) (dh_bare (fun _=>(dss_one (ds_ret de_bl))) T.mx_Full dh_nil))
   (dss_one (ds_ret de_bl)))
theorem ok_law_no_room (T:Txt K mg t):FnOk P w K mg base CX0 7 t.f_law_no_room t.d_law_no_room ["_law_book","_law_one"] (spD K 2 (g_law_no_room K t)):=
 okG0 T.F_law_no_room sc_law_no_room rfl (b_law_no_room T) r_law_no_room
theorem b_read_n (T:Txt K mg t):B0 P w K mg base 6 "read" s_read_n t.f_read N_read_n (t_read_n K t):=fun cdv A outer s H E hr=>have hu:=hr.units
 (dss_cons (ds_set (i:=2) sc_read_n.nd (de_call (ok_read_sightings T) (hr.mono (by decide)) T.m_read_sightings T.F_read_sightings.kp T.bi_read_sightings .nil (fun _ _=>.nil) pass0E (da_cons (de_var 0) da_nil)))
   (dss_cons (ds_set (i:=3) sc_read_n.nd (de_make t.c_Book T.mk_Book (ok_Book_init T) (hr.mono (by decide)) T.mg_Book T.bi_Book_init .nil (fun _ _=>.nil) pass0E (da_cons (de_var 1) da_nil)))
   (dss_cons (ds_forI PassesOwn.never rfl (di_val (de_var 2)) (dg_name (i:=4) sc_read_n.nd)
   (dss_one (ds_expr (de_meth t.c_Book (de_var 3) T.cl_Book T.me_Book_take (ok_Book_take_n T) (hr.mono (by decide)) T.bi_Book_take .nil (fun _ _=>.nil) pass0E (da_cons (de_ix (de_var 4) de_int) (da_cons (de_ix (de_var 4) de_int) (da_cons (de_ix (de_var 4) de_int) da_nil)))))) fs_Name)
   (dss_one (ds_ret (de_var 3))))))
theorem ok_read_n (T:Txt K mg t):FnOk P w K mg base CX0 7 t.f_read t.d_read ["text","most"] (spD K 2 (g_read_n K t)):=
 okG0 T.F_read sc_read_n rfl (b_read_n T) r_read_n
theorem b_law_full (T:Txt K mg t):B0 P w K mg base 7 "_law_full" s_law_full t.f_law_full N_law_full (t_law_full K t):=fun cdv A outer s H E hr=>have hu:=hr.units
 (dss_cons (ds_try rfl (dssx_one (dsx_expr (dex_call (fun _ _ h=>h) rfl (ok_read T) (hr.mono (by decide)) T.m_read T.F_read.kp T.bi_read .nil (fun _ _=>.nil) (da_cons (de_var 0) (da_cons (de_var 1) da_nil))))) (dh_bare (fun _=>(dss_one (ds_ret de_bl))) T.mx_Full dh_nil))
   (dss_one (ds_ret de_bl)))
theorem ok_law_full (T:Txt K mg t):FnOk P w K mg base CX0 8 t.f_law_full t.d_law_full ["_law_text_here","_law_most"] (spD K 2 (g_law_full K t)):=
 okG0 T.F_law_full sc_law_full rfl (b_law_full T) r_law_full
theorem b_law_read (T:Txt K mg t):B0 P w K mg base 8 "_law_read" s_law_read t.f_law_read N_law_read (t_law_read K t):=fun cdv A outer s H E hr=>have hu:=hr.units
 (dss_cons (ds_set (i:=2) sc_law_read.nd (de_call (ok_law_text T) (hr.mono (by decide)) T.m_law_text T.F_law_text.kp T.bi_law_text .nil (fun _ _=>.nil) pass0E (da_cons (de_var 0) da_nil)))
   (dss_cons (ds_setComp (i:=3) [] sc_law_read.nd (CompScope.of rfl (by show compOk (defScope s_law_read).names _=true;decide +kernel)) rfl (di_range1 T.b_range (de_len T.b_len (de_var 0))) (by show freeIn N_law_read _ _=true;decide +kernel) (fun _ _ _ _ _=>dg_name (i:=0) (by show (compN _ N_law_read _).Nodup;decide +kernel)) (fun _ _ _ _ _=>dif_nil) (fun _ _ _ _ _=>(de_add de_int (de_var 0))) fs_Call)
   (dss_cons (ds_set (i:=4) sc_law_read.nd (de_call (ok_read_n T) (hr.mono (by decide)) T.m_read T.F_read.kp T.bi_read .nil (fun _ _=>.nil) pass0E (da_cons (de_var 2) (da_cons (de_len T.b_len (de_var 0)) da_nil))))
   (dss_cons (ds_if (dt_val (de_var 1)) (dss_one (ds_set (i:=4) sc_law_read.nd (de_call (ok_read_n T) (hr.mono (by decide)) T.m_read T.F_read.kp T.bd_read (show Vals [V.int 200] [Value.int 200 t.k_read] from .cons ⟨_,rfl⟩ .nil) (fun _ _=>.cons (.int 200) .nil) pass0E (da_cons (de_var 2) da_nil)))) dss_nil)
   (dss_cons (ds_if (dt_w (dw_or (dt_not (dt_val (de_isiC t.c_Book T.ci_Book T.b_isinstance T.mg_Book (de_var 4)))) (dw_or1 (dt_not (dt_val (de_call (ok_law_kept T) (hr.mono (by decide)) T.m_law_kept T.F_law_kept.kp T.bi_law_kept .nil (fun _ _=>.nil) pass0E (da_cons (de_meth0 t.c_Book (de_var 4) T.cl_Book T.me_Book_kept (ok_Book_kept T) (hr.mono (by decide)) T.bi_Book_kept .nil (fun _ _=>.nil) pass0E) (da_cons (de_var 3) (da_cons (de_var 0) da_nil))))))))) (dss_one (ds_ret de_bl)) dss_nil)
   (dss_cons (ds_expr (de_clear (de_meth0 t.c_Book (de_var 4) T.cl_Book T.me_Book_kept (ok_Book_kept_c T) (hr.mono (by decide)) T.bi_Book_kept .nil (fun _ _=>.nil) pass0E)))
   (dss_cons (ds_if (dt_w (dw_or (dt_not (dt_val (de_call (ok_law_kept T) (hr.mono (by decide)) T.m_law_kept T.F_law_kept.kp T.bi_law_kept .nil (fun _ _=>.nil) pass0E (da_cons (de_meth0 t.c_Book (de_var 4) T.cl_Book T.me_Book_kept (ok_Book_kept T) (hr.mono (by decide)) T.bi_Book_kept .nil (fun _ _=>.nil) pass0E) (da_cons (de_var 3) (da_cons (de_var 0) da_nil)))))) (dw_or1 (dt_not (dt_val (de_call (ok_law_shows T) (hr.mono (by decide)) T.m_law_shows T.F_law_shows.kp T.bi_law_shows .nil (fun _ _=>.nil) pass0E (da_cons (de_var 4) (da_cons (de_var 0) da_nil)))))))) (dss_one (ds_ret de_bl)) dss_nil)
   (dss_cons (ds_if (dt_w (dw_and (dt_gt (de_len T.b_len (de_var 0)) de_int) (dw_and1 (dt_not (dt_val (de_call (ok_law_full T) (hr.mono (by decide)) T.m_law_full T.F_law_full.kp T.bi_law_full .nil (fun _ _=>.nil) pass0E (da_cons (de_var 2) (da_cons (de_sub (de_len T.b_len (de_var 0)) de_int) da_nil)))))))) (dss_one (ds_ret de_bl)) dss_nil)
   (dss_cons (ds_set (i:=5) sc_law_read.nd (de_tup (da_cons (de_str [112,101,103]) (da_cons (de_str [112,101,103]) (da_cons de_int da_nil)))))
   (dss_cons (ds_if (dt_not (dt_val (de_var 1))) (dss_one (ds_ret (de_call (ok_law_no_room T) (hr.mono (by decide)) T.m_law_no_room T.F_law_no_room.kp T.bi_law_no_room .nil (fun _ _=>.nil) pass0E (da_cons (de_var 4) (da_cons (de_var 5) da_nil))))) dss_nil)
   (dss_cons (ds_set (i:=6) sc_law_read.nd (de_meth t.c_Book (de_var 4) T.cl_Book T.me_Book_take (ok_Book_take_n T) (hr.mono (by decide)) T.bi_Book_take .nil (fun _ _=>.nil) pass0E (da_cons (de_ix (de_var 5) de_int) (da_cons (de_ix (de_var 5) de_int) (da_cons (de_ix (de_var 5) de_int) da_nil)))))
   (dss_one (ds_ret (de_and (de_call (ok_law_whole T) (hr.mono (by decide)) T.m_law_whole T.F_law_whole.kp T.bi_law_whole .nil (fun _ _=>.nil) pass0E (da_cons (de_var 6) da_nil)) (de_and (de_eq hu (de_var 6) (de_add (de_len T.b_len (de_var 0)) de_int)) (de_one (de_call (ok_law_shows T) (hr.mono (by decide)) T.m_law_shows T.F_law_shows.kp T.bi_law_shows .nil (fun _ _=>.nil) pass0E (da_cons (de_var 4) (da_cons (de_add (de_var 0) (de_lst (da_cons (de_var 5) da_nil))) da_nil)))))))))))))))))))
theorem ok_law_read (T:Txt K mg t):FnOk P w K mg base CX0 9 t.f_law_read t.d_law_read ["_law_some","_law_wide"] (spD K 2 (g_law_read K t)):=
 okG0 T.F_law_read sc_law_read rfl (b_law_read T) r_law_read
theorem b_law (T:Txt K mg t):B0 P w K mg base 9 "law" s_law t.f_law N_law (t_law K t):=fun cdv A outer s H E hr=>have hu:=hr.units
 (dss_cons (ds_set (i:=1) sc_law.nd (de_call (ok_law_sightings T) (hr.mono (by decide)) T.m_law_sightings T.F_law_sightings.kp T.bi_law_sightings .nil (fun _ _=>.nil) pass0E (da_cons (de_var 0) da_nil)))
   (dss_cons (ds_set (i:=2) sc_law.nd (de_eq hu (de_mod (de_call (ok_law_cell_at T) (hr.mono (by decide)) T.m_law_cell_at T.F_law_cell_at.kp T.bi_law_cell_at .nil (fun _ _=>.nil) pass0E (da_cons (de_var 0) (da_cons de_int da_nil))) de_int) de_int))
   (dss_cons (ds_set (i:=3) sc_law.nd (de_make0 t.c_Book T.mk_Book (ok_Book_init T) (hr.mono (by decide)) T.mg_Book T.bd_Book_init (show Vals [V.int 200] [Value.int 200 t.k_Book_init] from .cons ⟨_,rfl⟩ .nil) (fun _ _=>.cons (.int 200) .nil) pass0E))
   (dss_cons (ds_if (dt_w (dw_or (dt_not (dt_val (de_call (ok_law_shows T) (hr.mono (by decide)) T.m_law_shows T.F_law_shows.kp T.bi_law_shows .nil (fun _ _=>.nil) pass0E (da_cons (de_var 3) (da_cons (de_lst da_nil) da_nil))))) (dw_or1 (dt_not (dt_val (de_call (ok_law_read T) (hr.mono (by decide)) T.m_law_read T.F_law_read.kp T.bi_law_read .nil (fun _ _=>.nil) pass0E (da_cons (de_lst da_nil) (da_cons (de_var 2) da_nil)))))))) (dss_one (ds_ret de_bl)) dss_nil)
   (dss_cons (ds_expr (de_meth t.c_Book (de_var 3) T.cl_Book T.me_Book_take (ok_Book_take_n T) (hr.mono (by decide)) T.bi_Book_take .nil (fun _ _=>.nil) pass0E (da_cons (de_ix (de_ix (de_var 1) de_int) de_int) (da_cons (de_ix (de_ix (de_var 1) de_int) de_int) (da_cons (de_ix (de_ix (de_var 1) de_int) de_int) da_nil)))))
   (dss_cons (ds_if (dt_w (dw_or (dt_not (dt_val (de_call (ok_law_shows T) (hr.mono (by decide)) T.m_law_shows T.F_law_shows.kp T.bi_law_shows .nil (fun _ _=>.nil) pass0E (da_cons (de_var 3) (da_cons (de_slS (de_var 1) do_none (do_some de_int)) da_nil))))) (dw_or1 (dt_not (dt_val (de_call (ok_law_read T) (hr.mono (by decide)) T.m_law_read T.F_law_read.kp T.bi_law_read .nil (fun _ _=>.nil) pass0E (da_cons (de_slS (de_var 1) do_none (do_some de_int)) (da_cons (de_var 2) da_nil)))))))) (dss_one (ds_ret de_bl)) dss_nil)
   (dss_cons (ds_expr (de_meth t.c_Book (de_var 3) T.cl_Book T.me_Book_take (ok_Book_take_n T) (hr.mono (by decide)) T.bi_Book_take .nil (fun _ _=>.nil) pass0E (da_cons (de_ix (de_ix (de_var 1) de_int) de_int) (da_cons (de_ix (de_ix (de_var 1) de_int) de_int) (da_cons (de_ix (de_ix (de_var 1) de_int) de_int) da_nil)))))
   (dss_cons (ds_if (dt_w (dw_or (dt_not (dt_val (de_call (ok_law_shows T) (hr.mono (by decide)) T.m_law_shows T.F_law_shows.kp T.bi_law_shows .nil (fun _ _=>.nil) pass0E (da_cons (de_var 3) (da_cons (de_var 1) da_nil))))) (dw_or1 (dt_not (dt_val (de_call (ok_law_read T) (hr.mono (by decide)) T.m_law_read T.F_law_read.kp T.bi_law_read .nil (fun _ _=>.nil) pass0E (da_cons (de_var 1) (da_cons (de_var 2) da_nil)))))))) (dss_one (ds_ret de_bl)) dss_nil)
   (dss_cons (ds_expr (de_meth t.c_Book (de_var 3) T.cl_Book T.me_Book_drop (ok_Book_drop T) (hr.mono (by decide)) T.bi_Book_drop .nil (fun _ _=>.nil) pass0E (da_cons de_int da_nil)))
   (dss_cons (ds_if (dt_w (dw_or (dt_not (dt_val (de_call (ok_law_shows T) (hr.mono (by decide)) T.m_law_shows T.F_law_shows.kp T.bi_law_shows .nil (fun _ _=>.nil) pass0E (da_cons (de_var 3) (da_cons (de_slS (de_var 1) (do_some de_int) do_none) da_nil))))) (dw_or1 (dt_not (dt_val (de_call (ok_law_read T) (hr.mono (by decide)) T.m_law_read T.F_law_read.kp T.bi_law_read .nil (fun _ _=>.nil) pass0E (da_cons (de_slS (de_var 1) (do_some de_int) do_none) (da_cons (de_var 2) da_nil)))))))) (dss_one (ds_ret de_bl)) dss_nil)
   (dss_cons (ds_expr (de_meth t.c_Book (de_var 3) T.cl_Book T.me_Book_take (ok_Book_take_n T) (hr.mono (by decide)) T.bi_Book_take .nil (fun _ _=>.nil) pass0E (da_cons (de_ix (de_ix (de_var 1) de_int) de_int) (da_cons (de_ix (de_ix (de_var 1) de_int) de_int) (da_cons (de_ix (de_ix (de_var 1) de_int) de_int) da_nil)))))
   (dss_cons (ds_set (i:=1) sc_law.nd (de_lst (da_cons (de_ix (de_var 1) de_int) (da_cons (de_ix (de_var 1) de_int) da_nil))))
   (dss_cons (ds_if (dt_w (dw_or (dt_not (dt_val (de_call (ok_law_shows T) (hr.mono (by decide)) T.m_law_shows T.F_law_shows.kp T.bi_law_shows .nil (fun _ _=>.nil) pass0E (da_cons (de_var 3) (da_cons (de_var 1) da_nil))))) (dw_or1 (dt_not (dt_val (de_call (ok_law_read T) (hr.mono (by decide)) T.m_law_read T.F_law_read.kp T.bi_law_read .nil (fun _ _=>.nil) pass0E (da_cons (de_var 1) (da_cons (de_var 2) da_nil)))))))) (dss_one (ds_ret de_bl)) dss_nil)
   (dss_one (ds_ret (de_call (ok_law_kept T) (hr.mono (by decide)) T.m_law_kept T.F_law_kept.kp T.bi_law_kept .nil (fun _ _=>.nil) pass0E (da_cons (de_meth0 t.c_Book (de_var 3) T.cl_Book T.me_Book_kept (ok_Book_kept T) (hr.mono (by decide)) T.bi_Book_kept .nil (fun _ _=>.nil) pass0E) (da_cons (de_lst (da_cons de_int (da_cons de_int da_nil))) (da_cons (de_var 1) da_nil)))))))))))))))))))
theorem ok_law (T:Txt K mg t):FnOk P w K mg base CX0 10 t.f_law t.d_law ["_law_script"] (spD K 1 g_law):=
 okG0 T.F_law sc_law rfl (b_law T) (r_law T)
theorem all_mk {l:PySem.W.OpenLaw} {w:World} {K:Frag} {h:Heap} {mg:Str->Option Value} {fa f0 f1 f2 f3 f4 f5 f6 f7 f8 f9 f10 f11 f12 f13 f14 f15 f16 f17 f18 f19 f20 f21 f22 f23 f24 f25 f26 f27 f28 f29 f30 f31 f32 f33 f34 f35 c_Book x_Full:Addr} (X:K.In h) (G:h.Ns mainGlobals mg) (hfa:mg "law"=some (.ref fa))
  (ac_Book:nsIn K mainGlobals "Book"=some (some (.ref c_Book)))
  (ax_Full:nsIn K mainGlobals "Full"=some (some (.ref x_Full)))
  (a0:nsIn K mainGlobals "is_peg"=some (some (.ref f0)))
  (l0:K.lookup f0=some ⟨oc0,od0,.func (fnOf "is_peg" "is_peg" (defArgs s_is_peg) (defBody s_is_peg) (defScope s_is_peg) .none kV0 dc0 pm0 an0 cd0 ct0),sl0⟩)
  (c0:codeIn K cd0 "is_peg"=true)
  (k0:keepIn K (.ref f0)=true)
  (a1:nsIn K mainGlobals "is_whole"=some (some (.ref f1)))
  (l1:K.lookup f1=some ⟨oc1,od1,.func (fnOf "is_whole" "is_whole" (defArgs s_is_whole) (defBody s_is_whole) (defScope s_is_whole) .none kV1 dc1 pm1 an1 cd1 ct1),sl1⟩)
  (c1:codeIn K cd1 "is_whole"=true)
  (k1:keepIn K (.ref f1)=true)
  (a2:nsIn K mainGlobals "is_rise"=some (some (.ref f2)))
  (l2:K.lookup f2=some ⟨oc2,od2,.func (fnOf "is_rise" "is_rise" (defArgs s_is_rise) (defBody s_is_rise) (defScope s_is_rise) .none kV2 dc2 pm2 an2 cd2 ct2),sl2⟩)
  (c2:codeIn K cd2 "is_rise"=true)
  (k2:keepIn K (.ref f2)=true)
  (a3:nsIn K mainGlobals "is_sighting"=some (some (.ref f3)))
  (l3:K.lookup f3=some ⟨oc3,od3,.func (fnOf "is_sighting" "is_sighting" (defArgs s_is_sighting) (defBody s_is_sighting) (defScope s_is_sighting) .none kV3 dc3 pm3 an3 cd3 ct3),sl3⟩)
  (c3:codeIn K cd3 "is_sighting"=true)
  (k3:keepIn K (.ref f3)=true)
  (a4:nsIn K mainGlobals "turned"=some (some (.ref f4)))
  (l4:K.lookup f4=some ⟨oc4,od4,.func (fnOf "turned" "turned" (defArgs s_turned) (defBody s_turned) (defScope s_turned) .none kV4 dc4 pm4 an4 cd4 ct4),sl4⟩)
  (c4:codeIn K cd4 "turned"=true)
  (k4:keepIn K (.ref f4)=true)
  (a5:nsIn K mainGlobals "total"=some (some (.ref f5)))
  (l5:K.lookup f5=some ⟨oc5,od5,.func (fnOf "total" "total" (defArgs s_total) (defBody s_total) (defScope s_total) .none kV5 dc5 pm5 an5 cd5 ct5),sl5⟩)
  (c5:codeIn K cd5 "total"=true)
  (k5:keepIn K (.ref f5)=true)
  (a6:nsIn K mainGlobals "way_along"=some (some (.ref f6)))
  (l6:K.lookup f6=some ⟨oc6,od6,.func (fnOf "way_along" "way_along" (defArgs s_way_along) (defBody s_way_along) (defScope s_way_along) .none kV6 dc6 pm6 an6 cd6 ct6),sl6⟩)
  (c6:codeIn K cd6 "way_along"=true)
  (k6:keepIn K (.ref f6)=true)
  (a7:nsIn K mainGlobals "last_steps"=some (some (.ref f7)))
  (l7:K.lookup f7=some ⟨oc7,od7,.func (fnOf "last_steps" "last_steps" (defArgs s_last_steps) (defBody s_last_steps) (defScope s_last_steps) .none kV7 dc7 pm7 an7 cd7 ct7),sl7⟩)
  (c7:codeIn K cd7 "last_steps"=true)
  (k7:keepIn K (.ref f7)=true)
  (a8:nsIn K mainGlobals "steps_by_peg"=some (some (.ref f8)))
  (l8:K.lookup f8=some ⟨oc8,od8,.func (fnOf "steps_by_peg" "steps_by_peg" (defArgs s_steps_by_peg) (defBody s_steps_by_peg) (defScope s_steps_by_peg) .none kV8 dc8 pm8 an8 cd8 ct8),sl8⟩)
  (c8:codeIn K cd8 "steps_by_peg"=true)
  (k8:keepIn K (.ref f8)=true)
  (a9:nsIn K mainGlobals "turned_row"=some (some (.ref f9)))
  (l9:K.lookup f9=some ⟨oc9,od9,.func (fnOf "turned_row" "turned_row" (defArgs s_turned_row) (defBody s_turned_row) (defScope s_turned_row) .none kV9 dc9 pm9 an9 cd9 ct9),sl9⟩)
  (c9:codeIn K cd9 "turned_row"=true)
  (k9:keepIn K (.ref f9)=true)
  (a10:findIn K (.ref c_Book) "__init__"=some (some (.ref f10)))
  (i10:isFn K (.ref f10)=true)
  (l10:K.lookup f10=some ⟨oc10,od10,.func (fnOf "__init__" "Book.__init__" (defArgs s_Book_init) (defBody s_Book_init) (defScope s_Book_init) (.ref e10) kV10 dc10 pm10 an10 cd10 ct10),sl10⟩)
  (c10:codeIn K cd10 "Book.__init__"=true)
  (k10:keepIn K (.ref f10)=true)
  (q10:K.lookup e10=some ⟨eo10,ed10,.seq #[.int 200 et10] en10,es10⟩)
  (a11:findIn K (.ref c_Book) "take"=some (some (.ref f11)))
  (i11:isFn K (.ref f11)=true)
  (l11:K.lookup f11=some ⟨oc11,od11,.func (fnOf "take" "Book.take" (defArgs s_Book_take) (defBody s_Book_take) (defScope s_Book_take) .none kV11 dc11 pm11 an11 cd11 ct11),sl11⟩)
  (c11:codeIn K cd11 "Book.take"=true)
  (k11:keepIn K (.ref f11)=true)
  (a12:findIn K (.ref c_Book) "drop"=some (some (.ref f12)))
  (i12:isFn K (.ref f12)=true)
  (l12:K.lookup f12=some ⟨oc12,od12,.func (fnOf "drop" "Book.drop" (defArgs s_Book_drop) (defBody s_Book_drop) (defScope s_Book_drop) .none kV12 dc12 pm12 an12 cd12 ct12),sl12⟩)
  (c12:codeIn K cd12 "Book.drop"=true)
  (k12:keepIn K (.ref f12)=true)
  (a13:findIn K (.ref c_Book) "kept"=some (some (.ref f13)))
  (i13:isFn K (.ref f13)=true)
  (l13:K.lookup f13=some ⟨oc13,od13,.func (fnOf "kept" "Book.kept" (defArgs s_Book_kept) (defBody s_Book_kept) (defScope s_Book_kept) .none kV13 dc13 pm13 an13 cd13 ct13),sl13⟩)
  (c13:codeIn K cd13 "Book.kept"=true)
  (k13:keepIn K (.ref f13)=true)
  (a14:findIn K (.ref c_Book) "row_at"=some (some (.ref f14)))
  (i14:isFn K (.ref f14)=true)
  (l14:K.lookup f14=some ⟨oc14,od14,.func (fnOf "row_at" "Book.row_at" (defArgs s_Book_row_at) (defBody s_Book_row_at) (defScope s_Book_row_at) .none kV14 dc14 pm14 an14 cd14 ct14),sl14⟩)
  (c14:codeIn K cd14 "Book.row_at"=true)
  (k14:keepIn K (.ref f14)=true)
  (a15:nsIn K mainGlobals "shown"=some (some (.ref f15)))
  (l15:K.lookup f15=some ⟨oc15,od15,.func (fnOf "shown" "shown" (defArgs s_shown) (defBody s_shown) (defScope s_shown) .none kV15 dc15 pm15 an15 cd15 ct15),sl15⟩)
  (c15:codeIn K cd15 "shown"=true)
  (k15:keepIn K (.ref f15)=true)
  (a16:nsIn K mainGlobals "shown_row"=some (some (.ref f16)))
  (l16:K.lookup f16=some ⟨oc16,od16,.func (fnOf "shown_row" "shown_row" (defArgs s_shown_row) (defBody s_shown_row) (defScope s_shown_row) .none kV16 dc16 pm16 an16 cd16 ct16),sl16⟩)
  (c16:codeIn K cd16 "shown_row"=true)
  (k16:keepIn K (.ref f16)=true)
  (a17:nsIn K mainGlobals "read"=some (some (.ref f17)))
  (l17:K.lookup f17=some ⟨oc17,od17,.func (fnOf "read" "read" (defArgs s_read) (defBody s_read) (defScope s_read) (.ref e17) kV17 dc17 pm17 an17 cd17 ct17),sl17⟩)
  (c17:codeIn K cd17 "read"=true)
  (k17:keepIn K (.ref f17)=true)
  (q17:K.lookup e17=some ⟨eo17,ed17,.seq #[.int 200 et17] en17,es17⟩)
  (a18:nsIn K mainGlobals "read_sightings"=some (some (.ref f18)))
  (l18:K.lookup f18=some ⟨oc18,od18,.func (fnOf "read_sightings" "read_sightings" (defArgs s_read_sightings) (defBody s_read_sightings) (defScope s_read_sightings) .none kV18 dc18 pm18 an18 cd18 ct18),sl18⟩)
  (c18:codeIn K cd18 "read_sightings"=true)
  (k18:keepIn K (.ref f18)=true)
  (a19:nsIn K mainGlobals "read_sighting"=some (some (.ref f19)))
  (l19:K.lookup f19=some ⟨oc19,od19,.func (fnOf "read_sighting" "read_sighting" (defArgs s_read_sighting) (defBody s_read_sighting) (defScope s_read_sighting) .none kV19 dc19 pm19 an19 cd19 ct19),sl19⟩)
  (c19:codeIn K cd19 "read_sighting"=true)
  (k19:keepIn K (.ref f19)=true)
  (a20:nsIn K mainGlobals "is_written_rise"=some (some (.ref f20)))
  (l20:K.lookup f20=some ⟨oc20,od20,.func (fnOf "is_written_rise" "is_written_rise" (defArgs s_is_written_rise) (defBody s_is_written_rise) (defScope s_is_written_rise) .none kV20 dc20 pm20 an20 cd20 ct20),sl20⟩)
  (c20:codeIn K cd20 "is_written_rise"=true)
  (k20:keepIn K (.ref f20)=true)
  (a21:nsIn K mainGlobals "_law_cell_at"=some (some (.ref f21)))
  (l21:K.lookup f21=some ⟨oc21,od21,.func (fnOf "_law_cell_at" "_law_cell_at" (defArgs s_law_cell_at) (defBody s_law_cell_at) (defScope s_law_cell_at) .none kV21 dc21 pm21 an21 cd21 ct21),sl21⟩)
  (c21:codeIn K cd21 "_law_cell_at"=true)
  (k21:keepIn K (.ref f21)=true)
  (a22:nsIn K mainGlobals "_law_mixed"=some (some (.ref f22)))
  (l22:K.lookup f22=some ⟨oc22,od22,.func (fnOf "_law_mixed" "_law_mixed" (defArgs s_law_mixed) (defBody s_law_mixed) (defScope s_law_mixed) .none kV22 dc22 pm22 an22 cd22 ct22),sl22⟩)
  (c22:codeIn K cd22 "_law_mixed"=true)
  (k22:keepIn K (.ref f22)=true)
  (a23:nsIn K mainGlobals "_law_word"=some (some (.ref f23)))
  (l23:K.lookup f23=some ⟨oc23,od23,.func (fnOf "_law_word" "_law_word" (defArgs s_law_word) (defBody s_law_word) (defScope s_law_word) .none kV23 dc23 pm23 an23 cd23 ct23),sl23⟩)
  (c23:codeIn K cd23 "_law_word"=true)
  (k23:keepIn K (.ref f23)=true)
  (a24:nsIn K mainGlobals "_law_pool"=some (some (.ref f24)))
  (l24:K.lookup f24=some ⟨oc24,od24,.func (fnOf "_law_pool" "_law_pool" (defArgs s_law_pool) (defBody s_law_pool) (defScope s_law_pool) .none kV24 dc24 pm24 an24 cd24 ct24),sl24⟩)
  (c24:codeIn K cd24 "_law_pool"=true)
  (k24:keepIn K (.ref f24)=true)
  (a25:nsIn K mainGlobals "_law_rise"=some (some (.ref f25)))
  (l25:K.lookup f25=some ⟨oc25,od25,.func (fnOf "_law_rise" "_law_rise" (defArgs s_law_rise) (defBody s_law_rise) (defScope s_law_rise) .none kV25 dc25 pm25 an25 cd25 ct25),sl25⟩)
  (c25:codeIn K cd25 "_law_rise"=true)
  (k25:keepIn K (.ref f25)=true)
  (a26:nsIn K mainGlobals "_law_second"=some (some (.ref f26)))
  (l26:K.lookup f26=some ⟨oc26,od26,.func (fnOf "_law_second" "_law_second" (defArgs s_law_second) (defBody s_law_second) (defScope s_law_second) .none kV26 dc26 pm26 an26 cd26 ct26),sl26⟩)
  (c26:codeIn K cd26 "_law_second"=true)
  (k26:keepIn K (.ref f26)=true)
  (a27:nsIn K mainGlobals "_law_sightings"=some (some (.ref f27)))
  (l27:K.lookup f27=some ⟨oc27,od27,.func (fnOf "_law_sightings" "_law_sightings" (defArgs s_law_sightings) (defBody s_law_sightings) (defScope s_law_sightings) .none kV27 dc27 pm27 an27 cd27 ct27),sl27⟩)
  (c27:codeIn K cd27 "_law_sightings"=true)
  (k27:keepIn K (.ref f27)=true)
  (a28:nsIn K mainGlobals "_law_text"=some (some (.ref f28)))
  (l28:K.lookup f28=some ⟨oc28,od28,.func (fnOf "_law_text" "_law_text" (defArgs s_law_text) (defBody s_law_text) (defScope s_law_text) .none kV28 dc28 pm28 an28 cd28 ct28),sl28⟩)
  (c28:codeIn K cd28 "_law_text"=true)
  (k28:keepIn K (.ref f28)=true)
  (a29:nsIn K mainGlobals "_law_whole"=some (some (.ref f29)))
  (l29:K.lookup f29=some ⟨oc29,od29,.func (fnOf "_law_whole" "_law_whole" (defArgs s_law_whole) (defBody s_law_whole) (defScope s_law_whole) .none kV29 dc29 pm29 an29 cd29 ct29),sl29⟩)
  (c29:codeIn K cd29 "_law_whole"=true)
  (k29:keepIn K (.ref f29)=true)
  (a30:nsIn K mainGlobals "_law_kept"=some (some (.ref f30)))
  (l30:K.lookup f30=some ⟨oc30,od30,.func (fnOf "_law_kept" "_law_kept" (defArgs s_law_kept) (defBody s_law_kept) (defScope s_law_kept) .none kV30 dc30 pm30 an30 cd30 ct30),sl30⟩)
  (c30:codeIn K cd30 "_law_kept"=true)
  (k30:keepIn K (.ref f30)=true)
  (a31:nsIn K mainGlobals "_law_shows"=some (some (.ref f31)))
  (l31:K.lookup f31=some ⟨oc31,od31,.func (fnOf "_law_shows" "_law_shows" (defArgs s_law_shows) (defBody s_law_shows) (defScope s_law_shows) .none kV31 dc31 pm31 an31 cd31 ct31),sl31⟩)
  (c31:codeIn K cd31 "_law_shows"=true)
  (k31:keepIn K (.ref f31)=true)
  (a32:nsIn K mainGlobals "_law_full"=some (some (.ref f32)))
  (l32:K.lookup f32=some ⟨oc32,od32,.func (fnOf "_law_full" "_law_full" (defArgs s_law_full) (defBody s_law_full) (defScope s_law_full) .none kV32 dc32 pm32 an32 cd32 ct32),sl32⟩)
  (c32:codeIn K cd32 "_law_full"=true)
  (k32:keepIn K (.ref f32)=true)
  (a33:nsIn K mainGlobals "_law_no_room"=some (some (.ref f33)))
  (l33:K.lookup f33=some ⟨oc33,od33,.func (fnOf "_law_no_room" "_law_no_room" (defArgs s_law_no_room) (defBody s_law_no_room) (defScope s_law_no_room) .none kV33 dc33 pm33 an33 cd33 ct33),sl33⟩)
  (c33:codeIn K cd33 "_law_no_room"=true)
  (k33:keepIn K (.ref f33)=true)
  (a34:nsIn K mainGlobals "_law_read"=some (some (.ref f34)))
  (l34:K.lookup f34=some ⟨oc34,od34,.func (fnOf "_law_read" "_law_read" (defArgs s_law_read) (defBody s_law_read) (defScope s_law_read) .none kV34 dc34 pm34 an34 cd34 ct34),sl34⟩)
  (c34:codeIn K cd34 "_law_read"=true)
  (k34:keepIn K (.ref f34)=true)
  (a35:nsIn K mainGlobals "law"=some (some (.ref f35)))
  (l35:K.lookup f35=some ⟨oc35,od35,.func (fnOf "law" "law" (defArgs s_law) (defBody s_law) (defScope s_law) .none kV35 dc35 pm35 an35 cd35 ct35),sl35⟩)
  (c35:codeIn K cd35 "law"=true)
  (k35:keepIn K (.ref f35)=true)
  (pg_Book:plainGet K c_Book Str.empty=true)
  (hd_Book:hasDictIn K c_Book=true)
  (po_Book:plainOver K c_Book=true)
  (sa_Book:findIn K (.ref c_Book) "__setattr__"=some (some (.builtin "object.__setattr__")))
  (mk_Book:makesIn K c_Book=true)
  (kc_Book:keepIn K (.ref c_Book)=true)
  (pgc_Book:plainGet K c_Book "__class__"=true)
  (fcl_Book:findIn K (.ref c_Book) "__class__"=some (some (.builtin "object.__class__")))
  (mrc_Book:mroIn K c_Book (.type "object")=some true)
  (xcgc:specialIn K (.builtin "object.__class__") "__get__"=some (some (.builtin "getset_descriptor.__get__")))
  (xctc:takesIn K (.builtin "object.__class__")=some true)
  (na_Book_most:findIn K (.ref c_Book) "most"=some none)
  (na_Book_taken:findIn K (.ref c_Book) "taken"=some none)
  (na_Book_rows:findIn K (.ref c_Book) "rows"=some none)
  (xcg:specialIn K (.builtin "object.__class__") "__get__"=some (some (.builtin "getset_descriptor.__get__")))
  (xct:takesIn K (.builtin "object.__class__")=some true)
  (xk_Full:excIn K x_Full bmV "ValueError.__new__"=true)
  (xga_Full:findIn K (.ref x_Full) "__getattribute__"=some (some (.builtin "BaseException.__getattribute__")))
  (xgh_Full:findIn K (.ref x_Full) "__getattr__"=some none)
  (xsb_Full:subIn K (.ref x_Full) (.type "BaseException")=some true)
  (xcs_Full:PySem.W.isClsIn K x_Full=true)
  (xca_Full:findIn K (.ref x_Full) "__class__"=some (some (.builtin "object.__class__")))
  (xmo_Full:mroIn K x_Full (.type "object")=some true)
  (em_Full_Full:exmOne K (.ref x_Full) (.ref x_Full)=some true)
  (z_abs:nsIn K mainGlobals "abs"=some none)
  (z_all:nsIn K mainGlobals "all"=some none)
  (z_bool:nsIn K mainGlobals "bool"=some none)
  (z_int:nsIn K mainGlobals "int"=some none)
  (z_isinstance:nsIn K mainGlobals "isinstance"=some none)
  (z_len:nsIn K mainGlobals "len"=some none)
  (z_list:nsIn K mainGlobals "list"=some none)
  (z_range:nsIn K mainGlobals "range"=some none)
  (z_str:nsIn K mainGlobals "str"=some none)
  (z_sum:nsIn K mainGlobals "sum"=some none)
  (z_tuple:nsIn K mainGlobals "tuple"=some none)
  (z_zip:nsIn K mainGlobals "zip"=some none)
  : ∃ fd:FuncData,(∀ (s:Shared) (v:Value),BindsTo s fd ⟨[v],[]⟩ [("_law_script",v)])/\∀ base:Heap,K.In base->base.Ns mainGlobals mg->FnOk l.prog w K mg base CX0 10 fa fd ["_law_script"] (spD K 1 g_law):=by
 have e:=hfa.symm.trans (mg_of X G a35)
 cases e
 have F0:=funG_mk (st:=s_is_peg) l0 c0 k0
 have F1:=funG_mk (st:=s_is_whole) l1 c1 k1
 have F2:=funG_mk (st:=s_is_rise) l2 c2 k2
 have F3:=funG_mk (st:=s_is_sighting) l3 c3 k3
 have F4:=funG_mk (st:=s_turned) l4 c4 k4
 have F5:=funG_mk (st:=s_total) l5 c5 k5
 have F6:=funG_mk (st:=s_way_along) l6 c6 k6
 have F7:=funG_mk (st:=s_last_steps) l7 c7 k7
 have F8:=funG_mk (st:=s_steps_by_peg) l8 c8 k8
 have F9:=funG_mk (st:=s_turned_row) l9 c9 k9
 have F10:=funG_mk (st:=s_Book_init) l10 c10 k10
 have F11:=funG_mk (st:=s_Book_take) l11 c11 k11
 have F12:=funG_mk (st:=s_Book_drop) l12 c12 k12
 have F13:=funG_mk (st:=s_Book_kept) l13 c13 k13
 have F14:=funG_mk (st:=s_Book_row_at) l14 c14 k14
 have F15:=funG_mk (st:=s_shown) l15 c15 k15
 have F16:=funG_mk (st:=s_shown_row) l16 c16 k16
 have F17:=funG_mk (st:=s_read) l17 c17 k17
 have F18:=funG_mk (st:=s_read_sightings) l18 c18 k18
 have F19:=funG_mk (st:=s_read_sighting) l19 c19 k19
 have F20:=funG_mk (st:=s_is_written_rise) l20 c20 k20
 have F21:=funG_mk (st:=s_law_cell_at) l21 c21 k21
 have F22:=funG_mk (st:=s_law_mixed) l22 c22 k22
 have F23:=funG_mk (st:=s_law_word) l23 c23 k23
 have F24:=funG_mk (st:=s_law_pool) l24 c24 k24
 have F25:=funG_mk (st:=s_law_rise) l25 c25 k25
 have F26:=funG_mk (st:=s_law_second) l26 c26 k26
 have F27:=funG_mk (st:=s_law_sightings) l27 c27 k27
 have F28:=funG_mk (st:=s_law_text) l28 c28 k28
 have F29:=funG_mk (st:=s_law_whole) l29 c29 k29
 have F30:=funG_mk (st:=s_law_kept) l30 c30 k30
 have F31:=funG_mk (st:=s_law_shows) l31 c31 k31
 have F32:=funG_mk (st:=s_law_full) l32 c32 k32
 have F33:=funG_mk (st:=s_law_no_room) l33 c33 k33
 have F34:=funG_mk (st:=s_law_read) l34 c34 k34
 have F35:=funG_mk (st:=s_law) l35 c35 k35
 have T:Txt K mg ⟨f0,_,f1,_,f2,_,f3,_,f4,_,f5,_,f6,_,f7,_,f8,_,f9,_,f10,_,f11,_,f12,_,f13,_,f14,_,f15,_,f16,_,f17,_,f18,_,f19,_,f20,_,f21,_,f22,_,f23,_,f24,_,f25,_,f26,_,f27,_,f28,_,f29,_,f30,_,f31,_,f32,_,f33,_,f34,_,fa,_,et10,et17,c_Book,x_Full⟩:=⟨F0,
  mg_of X G a0,
  (.all fun us hl=>match us,hl with | [_],_=>rfl),
  F1,
  mg_of X G a1,
  (.all fun us hl=>match us,hl with | [_],_=>rfl),
  F2,
  mg_of X G a2,
  (.all fun us hl=>match us,hl with | [_],_=>rfl),
  F3,
  mg_of X G a3,
  (.all fun us hl=>match us,hl with | [_],_=>rfl),
  F4,
  mg_of X G a4,
  (.all fun us hl=>match us,hl with | [_],_=>rfl),
  F5,
  mg_of X G a5,
  (.all fun us hl=>match us,hl with | [_],_=>rfl),
  F6,
  mg_of X G a6,
  (.all fun us hl=>match us,hl with | [_,_,_],_=>rfl),
  F7,
  mg_of X G a7,
  (.all fun us hl=>match us,hl with | [_,_],_=>rfl),
  F8,
  mg_of X G a8,
  (.all fun us hl=>match us,hl with | [_],_=>rfl),
  F9,
  mg_of X G a9,
  (.all fun us hl=>match us,hl with | [_],_=>rfl),
  F10,
  (fun s us X hl=>match us,(show us.length=2 by simpa using hl) with | [_,_],_=>BindsTo.of_defaults rfl (X _ _ q10) rfl rfl rfl),
  (fun s us X hl=>match us,(show us.length=1 by simpa using hl) with | [_],_=>BindsTo.of_defaults rfl (X _ _ q10) rfl rfl rfl),
  F11,
  ⟨a11,i11,k11⟩,
  (.all fun us hl=>match us,hl with | [_,_,_,_],_=>rfl),
  F12,
  ⟨a12,i12,k12⟩,
  (.all fun us hl=>match us,hl with | [_,_],_=>rfl),
  F13,
  ⟨a13,i13,k13⟩,
  (.all fun us hl=>match us,hl with | [_],_=>rfl),
  F14,
  ⟨a14,i14,k14⟩,
  (.all fun us hl=>match us,hl with | [_,_],_=>rfl),
  F15,
  mg_of X G a15,
  (.all fun us hl=>match us,hl with | [_],_=>rfl),
  F16,
  mg_of X G a16,
  (.all fun us hl=>match us,hl with | [_],_=>rfl),
  F17,
  mg_of X G a17,
  (fun s us X hl=>match us,(show us.length=2 by simpa using hl) with | [_,_],_=>BindsTo.of_defaults rfl (X _ _ q17) rfl rfl rfl),
  (fun s us X hl=>match us,(show us.length=1 by simpa using hl) with | [_],_=>BindsTo.of_defaults rfl (X _ _ q17) rfl rfl rfl),
  F18,
  mg_of X G a18,
  (.all fun us hl=>match us,hl with | [_],_=>rfl),
  F19,
  mg_of X G a19,
  (.all fun us hl=>match us,hl with | [_],_=>rfl),
  F20,
  mg_of X G a20,
  (.all fun us hl=>match us,hl with | [_],_=>rfl),
  F21,
  mg_of X G a21,
  (.all fun us hl=>match us,hl with | [_,_],_=>rfl),
  F22,
  mg_of X G a22,
  (.all fun us hl=>match us,hl with | [_],_=>rfl),
  F23,
  mg_of X G a23,
  (.all fun us hl=>match us,hl with | [_,_],_=>rfl),
  F24,
  mg_of X G a24,
  (.all fun us hl=>match us,hl with | [_,_],_=>rfl),
  F25,
  mg_of X G a25,
  (.all fun us hl=>match us,hl with | [_],_=>rfl),
  F26,
  mg_of X G a26,
  (.all fun us hl=>match us,hl with | [_,_,_,_],_=>rfl),
  F27,
  mg_of X G a27,
  (.all fun us hl=>match us,hl with | [_],_=>rfl),
  F28,
  mg_of X G a28,
  (.all fun us hl=>match us,hl with | [_],_=>rfl),
  F29,
  mg_of X G a29,
  (.all fun us hl=>match us,hl with | [_],_=>rfl),
  F30,
  mg_of X G a30,
  (.all fun us hl=>match us,hl with | [_,_,_],_=>rfl),
  F31,
  mg_of X G a31,
  (.all fun us hl=>match us,hl with | [_,_],_=>rfl),
  F32,
  mg_of X G a32,
  (.all fun us hl=>match us,hl with | [_,_],_=>rfl),
  F33,
  mg_of X G a33,
  (.all fun us hl=>match us,hl with | [_,_],_=>rfl),
  F34,
  mg_of X G a34,
  (.all fun us hl=>match us,hl with | [_,_],_=>rfl),
  F35,
  mg_of X G a35,
  (.all fun us hl=>match us,hl with | [_],_=>rfl),
  ⟨pg_Book,hd_Book,po_Book,sa_Book⟩,
  mg_of X G ac_Book,
  ⟨pgc_Book,hd_Book,fcl_Book,xcgc,xctc,mrc_Book⟩,
  ⟨mk_Book,a10,i10,kc_Book⟩,
  na_Book_most,
  na_Book_taken,
  na_Book_rows,
  mg_of X G ax_Full,
  xk_Full,
  ⟨⟨xga_Full,xgh_Full,xsb_Full⟩,xcs_Full,xca_Full,xcg,xct,xmo_Full⟩,
  em_Full_Full,
  mg_none_of X G z_abs,
  mg_none_of X G z_all,
  mg_none_of X G z_bool,
  mg_none_of X G z_int,
  mg_none_of X G z_isinstance,
  mg_none_of X G z_len,
  mg_none_of X G z_list,
  mg_none_of X G z_range,
  mg_none_of X G z_str,
  mg_none_of X G z_sum,
  mg_none_of X G z_tuple,
  mg_none_of X G z_zip⟩
 exact ⟨_,fun s v=>.of_eq rfl,fun base _ _=>ok_law T⟩
theorem walk {l:PySem.W.OpenLaw} {q:Program} {loose:List Str} {XP:(Str->Option Value)->Heap->Prop} {YP:World->Heap->Prop} {d:DefRec} {K:Params->Frag} (hn:l.most=some 63) (hdf:d.params.defaults=[])
  (hY:∀ (w:World) (h:Heap),YP w h->(K w.params).In h)
  (F:∀ (w:World) (mg:Str->Option Value) (fa:Addr) (h:Heap),(K w.params).In h->h.Ns mainGlobals mg->mg d.name=some (.ref fa)->
   ∃ fd:FuncData,(∀ (s:Shared) (u:Value),BindsTo s fd ⟨[u],[]⟩ [("_law_script",u)])/\∀ base:Heap,(K w.params).In base->base.Ns mainGlobals mg->FnOk l.prog w (K w.params) mg base CX0 10 fa fd ["_law_script"] (spD (K w.params) 1 g_law)):
  PySem.W.WalkO q loose XP YP l.row.toRowW d [] (fun f vs=>PySem.call f vs):=
 walkD hn hdf ⟨rfl,by decide,by decide⟩ hY F law_true
end K05
namespace HD
open PySem PySem.W PyProof.Rows
noncomputable def qv:Program:=view PySem.Challenge.pw_pegrise_k05_written_and_read [46]
noncomputable def lo:List Str:=(PySem.Challenge.pw_pegrise_k05_written_and_read.main.scope.names.map fun x=>x.1).filter fun x=>x != ("law":Str)
theorem said:PySem.Challenge.rw_pegrise_k05_written_and_read.wellSaid=true:=by kernel_rfl
theorem opp:opening PySem.Challenge.pw_pegrise_k05_written_and_read=plainProg PySem.Challenge.pw_pegrise_k05_written_and_read.main.scope.names:=by kernel_rfl
theorem fnn:∀ s,fenceModules? PySem.Challenge.pw_pegrise_k05_written_and_read s=some s:=by intro s;kernel_rfl
theorem zz:∀ (w:World) os,(⟨boot_heap w.params,Array.mk [],boot_drawn,boot_toks,os⟩:Shared)=(T0 11 w os).abs:=by intro w os;kernel_rfl
theorem szz:∀ w:World,((boot_heap w.params).isNs mainGlobals,(boot_heap w.params).objs.size,(boot_heap w.params).nsMap mainGlobals "__annotations__")=(true,11,some (.ref 6)):=by intro w;kernel_rfl
end HD
open PySem PySem.W PyProof.Rows
local macro_rules
 | `(tactic| o_head $H:term)=>`(tactic| (
  refine holds_open (r:=OpenLaw.row PySem.Challenge.rw_pegrise_k05_written_and_read) (q:=HD.qv) (loose:=HD.lo)
   (Xt:=fun s=>xlAt HD.qv [] s && recOk (RowW.records (OpenRow.toRowW (OpenLaw.row PySem.Challenge.rw_pegrise_k05_written_and_read))) s)
   (XP:=XL HD.qv []) (Yf:=Hook.obs $H) (Ya:=Hook.val $H) (YP:=Hook.says $H) (N:=9000)
   (HD.left_of 13 11 (some (.ref 6)) PySem.W.Fast.te10156331382660048174 (congrFun PySem.W.Fast.te11892475500146522536 treeTable)
    PySem.W.Fast.te4187177175401517315 HD.opp rfl (by decide +kernel) HD.fnn HD.zz HD.szz (fun w os=>by kernel_rfl))
   (Hook.of $H) (Hook.keeps $H) (fun s e=>xl_of s (Bool.and_eq_true_iff.mp e).1) XL.keeps
   (by rfl) (by rfl) (by rfl) (fun s e=>recFacts_of (Bool.and_eq_true_iff.mp e).2)
   (by rfl) (by assumption) (by decide +kernel) ⟨rfl,rfl,rfl,rfl,rfl,by decide +kernel⟩ ?hw ?hc))
set_option maxRecDepth 100000 in
set_option maxHeartbeats 0 in
theorem PySem.Challenge.cw_pegrise_k05_written_and_read_holds : PySem.Challenge.rw_pegrise_k05_written_and_read.Holds := by
 w_on
 refine holds_law HD.said fun said=>?_
 k_head
 ·w_witness2
 k_fill
 refine K05.walk (l:=PySem.Challenge.rw_pegrise_k05_written_and_read) rfl rfl (fun w h Y=>PySem.W.kIn_of Y) ?F
 case F=>
  intro w mg fa h KX G hmg
  refine' K05.all_mk KX G hmg ?_ ?_ ?_ ?_ ?_ ?_ ?_ ?_ ?_ ?_ ?_ ?_ ?_ ?_ ?_ ?_ ?_ ?_ ?_ ?_ ?_ ?_ ?_ ?_ ?_ ?_ ?_ ?_ ?_ ?_ ?_ ?_ ?_ ?_ ?_ ?_ ?_ ?_ ?_ ?_ ?_ ?_ ?_ ?_ ?_ ?_ ?_ ?_ ?_ ?_ ?_ ?_ ?_ ?_ ?_ ?_ ?_ ?_ ?_ ?_ ?_ ?_ ?_ ?_ ?_ ?_ ?_ ?_ ?_ ?_ ?_ ?_ ?_ ?_ ?_ ?_ ?_ ?_ ?_ ?_ ?_ ?_ ?_ ?_ ?_ ?_ ?_ ?_ ?_ ?_ ?_ ?_ ?_ ?_ ?_ ?_ ?_ ?_ ?_ ?_ ?_ ?_ ?_ ?_ ?_ ?_ ?_ ?_ ?_ ?_ ?_ ?_ ?_ ?_ ?_ ?_ ?_ ?_ ?_ ?_ ?_ ?_ ?_ ?_ ?_ ?_ ?_ ?_ ?_ ?_ ?_ ?_ ?_ ?_ ?_ ?_ ?_ ?_ ?_ ?_ ?_ ?_ ?_ ?_ ?_ ?_ ?_ ?_ ?_ ?_ ?_ ?_ ?_ ?_ ?_ ?_ ?_ ?_ ?_ ?_ ?_ ?_ ?_ ?_ ?_ ?_ ?_ ?_ ?_ ?_ ?_ ?_ ?_ ?_ ?_ ?_ ?_ ?_ ?_ ?_ ?_ ?_ ?_ ?_ ?_ ?_ ?_ ?_ ?_
  all_goals try first | k_is | kit_is | kts_exm | k_exc
