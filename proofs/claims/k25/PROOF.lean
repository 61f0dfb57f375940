import PyProof.Rows.All
import Wide.All
import OpenK.AllK
import Wide.FinOn
import Lean
import PyProof.EqAt
import PyProof.EqKinds
import PyProof.TupleCall
import PySem.Challenge.RW_forestread_k25_whole_rows_of_the_wood
set_option Elab.async false
set_option linter.all false
set_option maxRecDepth 100000
abbrev YLD:=@List.length_map
abbrev YLE:=@List.length_append
abbrev YLF:=@List.getElem?_eq_getElem
abbrev YLG:=@Nat.le_refl
abbrev YLH:=@List.mem_of_getElem?
abbrev YLI:=@List.getElem?_map
abbrev YLJ:=@Bool.and_eq_true
abbrev YLK:=@List.map_append
abbrev YLL:=@List.size_toArray
abbrev YLM:=@List.length_cons
abbrev YLN:=@Nat.zero_le
abbrev YLO:=@List.mem_append_right
abbrev YLP:=@List.mem_cons_self
abbrev YLQ:=@List.append_assoc
abbrev YLR:=@List.mem_cons_of_mem
abbrev YLS:=@List.map_cons
abbrev YLT:=@Bool.false_ne_true
abbrev YLU:=@List.mem_append_left
abbrev YLV:=@List.getElem?_append_right
abbrev YLW:=@List.append_nil
abbrev YLX:=@Nat.lt_of_lt_of_le
abbrev YLY:=@Nat.ne_of_lt
abbrev YLZ:=@List.getElem?_append_left
abbrev YLa:=@List.length_reverse
abbrev YLb:=@Nat.le_trans
abbrev YLc:=@Array.length_toList
abbrev YLd:=@List.length_drop
abbrev YLe:=@Bool.eq_iff_iff
abbrev YLf:=@List.take_add_one
abbrev YLg:=@List.reverse_cons
namespace L2
open PySem PySem.Spec PyProof.Rows
abbrev Key:=Sum Int Str
def YEN:Key→Value→Bool
 |.inl k,v=>Value.isInt k v
 |.inr x,v=>Value.isStrOf x v
def keyH (w:World):Key→Int
 |.inl k=>hashInt k
 |.inr x=>hashStr w x
theorem Zc:∀{k:Key}{v:Value},YEN k v=true→(∃i t,k=Sum.inl i∧v=Value.int i t)∨(∃x t,k=Sum.inr x∧v=Value.str x t)
 |.inl i,v,h=>by
  obtain⟨t,e⟩:=Value.isInt_shape (k:=i) (v:=v) h;exact .inl ⟨i,t,rfl,e⟩
 |.inr x,v,h=>by
  obtain⟨t,e⟩:=Value.isStrOf_shape (x:=x) (v:=v) h;exact .inr ⟨x,t,rfl,e⟩
theorem YIw (i:Int) (t:Tok):YEN (.inl i) (.int i t)=true:=by simp[YEN,Value.isInt]
theorem YIx (x:Str) (t:Tok):YEN (.inr x) (.str x t)=true:=by simp[YEN,Value.isStrOf]
theorem key_ll (a b:Int):decide ((Sum.inl a:Key)=Sum.inl b)=(a == b):=by
 by_cases e:a=b
 ·subst e;simp
 ·have h:¬(Sum.inl a:Key)=Sum.inl b:=fun q=>e (Sum.inl.inj q)
  rw[decide_eq_false h];exact(beq_eq_false_iff_ne.mpr e).symm
theorem key_rr (a b:Str):decide ((Sum.inr a:Key)=Sum.inr b)=decide (a=b):=by
 by_cases e:a=b
 ·subst e;simp
 ·have h:¬(Sum.inr a:Key)=Sum.inr b:=fun q=>e (Sum.inr.inj q)
  rw[decide_eq_false h,decide_eq_false e]
theorem key_lr (a:Int) (b:Str):decide ((Sum.inl a:Key)=Sum.inr b)=false:=decide_eq_false nofun
theorem key_rl (a:Str) (b:Int):decide ((Sum.inr a:Key)=Sum.inl b)=false:=decide_eq_false nofun
def Yn (prog:Program) (w:World):PySem.KeyKind prog w Key where
 is:=YEN
 hash:=keyH w
 inj:=fun v a b ha hb=>by
  rcases Zc ha with ⟨i,t,rfl,rfl⟩ |⟨x,t,rfl,rfl⟩
  ·rcases Zc hb with ⟨j,u,rfl,e⟩ |⟨y,u,rfl,e⟩
   ·injection e with e1 _;rw[e1]
   ·exact nomatch e
  ·rcases Zc hb with ⟨j,u,rfl,e⟩ |⟨y,u,rfl,e⟩
   ·exact nomatch e
   ·injection e with e1 _;rw[e1]
 byValue:=fun k v h=>by
  rcases Zc h with ⟨i,t,rfl,rfl⟩ |⟨x,t,rfl,rfl⟩ <;> rfl
 pyHash:=fun hv h=>by
  rcases Zc hv with ⟨i,t,rfl,rfl⟩ |⟨x,t,rfl,rfl⟩
  ·exact wpAny_pyHash_int h
  ·exact wpAny_pyHash_str h
 eqBool:=fun hu hv h=>by
  rcases Zc hu with ⟨i,t,rfl,rfl⟩ |⟨x,t,rfl,rfl⟩
  ·rcases Zc hv with ⟨j,u,rfl,rfl⟩ |⟨y,u,rfl,rfl⟩
   ·rw[key_ll]at h;exact wpAny_eqBool_int h
   ·rw[key_lr]at h;exact SeqAt.EqAt.int_str i t y u _ _ _ _ h
  ·rcases Zc hv with ⟨j,u,rfl,rfl⟩ |⟨y,u,rfl,rfl⟩
   ·rw[key_rl]at h;exact SeqAt.EqAt.str_int x t j u _ _ _ _ h
   ·rw[key_rr]at h;exact wpAny_eqBool_str h
 «strs»:=fun k x t v h=>by
  rcases Zc h with ⟨i,u,rfl,e⟩ |⟨y,u,rfl,e⟩
  ·exact nomatch e
  ·injection e with e1 _
   subst e1;cases v <;> rfl
theorem YFf (prog:Program) (w:World) (i:Int) (t:Tok):(Yn prog w).is (.inl i) (.int i t)=true:=YIw i t
theorem YFg (prog:Program) (w:World) (x:Str) (t:Tok):(Yn prog w).is (.inr x) (.str x t)=true:=YIx x t
end L2
namespace L2
open PySem PySem.Spec PyProof.Rows
inductive V where
 |non |bl (b:Bool) |int (i:Int) |str (x:Str) |byt (b:Array UInt8) |flt (b:UInt64) |ref (a:Addr) |ty (n:String)
 deriving DecidableEq
def Yx:V→Value→Prop
 |.non,u=>u=Value.none
 |.bl b,u=>u=Value.bool b
 |.int i,u=>∃t,u=Value.int i t
 |.str x,u=>∃t,u=Value.str x t
 |.byt b,u=>∃t,u=Value.bytes b t
 |.flt b,u=>∃t,u=Value.float b t
 |.ref a,u=>u=Value.ref a
 |.ty n,u=>u=Value.type n
abbrev Yq:List V→List Value→Prop:=Paired Yx
theorem Yq.length {xs:List V}{us:List Value} (r:Yq xs us):xs.length=us.length:=Paired.length r
theorem Yq.get:∀{xs:List V}{us:List Value}{i:Nat}{x:V},Yq xs us→xs[i]?=some x→∃u,us[i]?=some u∧Yx x u
 |_,_,_,_,.nil,e=>by simp at e
 |_,_,0,_,.cons r _,e=>by simp at e;subst e;exact⟨_,rfl,r⟩
 |_,_,i + 1,x,.cons _ t,e=>by
  obtain⟨u,h1,h2⟩:=Yq.get (i:=i) (x:=x) t (by simpa using e);exact⟨u,by simpa using h1,h2⟩
theorem Yq.append:∀{xs ys:List V}{us ws:List Value},Yq xs us→Yq ys ws→Yq (xs ++ ys) (us ++ ws)
 |_,_,_,_,.nil,s=>s
 |_,_,_,_,.cons r t,s=>.cons r (Yq.append t s)
theorem Yq.take:∀{xs:List V}{us:List Value} (n:Nat),Yq xs us→Yq (xs.take n) (us.take n)
 |_,_,0,_=>.nil
 |_,_,_ + 1,.nil=>.nil
 |_,_,n + 1,.cons r t=>.cons r (Yq.take n t)
theorem Yq.drop:∀{xs:List V}{us:List Value} (n:Nat),Yq xs us→Yq (xs.drop n) (us.drop n)
 |_,_,0,r=>r
 |_,_,_ + 1,.nil=>.nil
 |_,_,n + 1,.cons _ t=>Yq.drop n t
theorem Yq.none_of:∀{xs:List V}{us:List Value}{i:Nat},Yq xs us→xs[i]?=none→us[i]?=none:=fun{xs us i} r e=>by
 have h1:=r.length;have h2:xs.length≤i:=List.getElem?_eq_none_iff.mp e;exact List.getElem?_eq_none_iff.mpr (by omega)
def YAV:Option V→Option Value→Prop
 |some v,some u=>Yx v u
 |none,none=>True
 |_,_=>False
def KV {κ:Type}:List (κ×V)→List (κ×Value)→Prop:=Paired fun(p:κ×V) (q:κ×Value)=>p.1=q.1∧Yx p.2 q.2
def kV:Key→V
 |.inl i=>.int i
 |.inr x=>.str x
inductive HO where
 |lst (xs:List V)
 |tup (xs:List V)
 |dK (kvs:List (Key×V)) |dT (kvs:List (List Key×V))
 |set (S:Int→Bool) (n:Nat)
 |ins (C dx:Addr) (fs:List (Str×V))
 |own (x:Addr)
 |xd (fs:List (Str×V))
 |met (f x:Addr)
 |rng (lo hi:Int)
 |frz (o:Obj) (u:HO)
 |tbl (ps:Array Value)
 |ext (φ:Heap→Prop)
abbrev Hp:=Addr→Option HO
def upd (H:Hp) (a:Addr) (o:HO):Hp:=fun b=>if b=a then some o else H b
theorem YB {H:Hp}{a:Addr}{o:HO}:upd H a o a=some o:=by unfold upd;rw[if_pos rfl]
theorem YE {H:Hp}{a b:Addr}{o:HO} (h:b≠a):upd H a o b=H b:=by unfold upd;rw[if_neg h]
theorem YC1 {H:Hp}{a:Addr}{o u:HO}:upd (upd H a o) a u=upd H a u:=by
 funext b;unfold upd;split <;> rfl
theorem Yr {H:Hp}{a b:Addr}{o u:HO} (h:H a=some o) (h':H b=some u) (d:o≠u):a≠b:=by
 intro e;subst e;rw[h]at h';exact d (Option.some.inj h')
theorem Ya {H:Hp}{a b:Addr}{o:HO} (h:H a=some o) (h':H b=none):a≠b:=by
 intro e;subst e;rw[h]at h';cases h'
section
variable (P:Program) (w:World)
def Y8 (H:Hp) (h:Heap) (a:Addr):HO→Prop
 |.lst xs=>xs.length≤sizeLine∧∃(its:List Value) (n:Nat),Yq xs its∧h.get? a=some { cls:=.type "list",data:=.seq its.toArray n }
 |.tup xs=>xs.length≤sizeLine∧∃its:List Value,Yq xs its∧IsTup h a its.toArray
 |.dK kvs=>kvs.length≤sizeLine∧(a == sysModules)=false∧∃vs,KV kvs vs∧h.DictOf (Yn P w) a vs
 |.dT kvs=>kvs.length≤sizeLine∧(a == sysModules)=false∧∃xs:List (List Key×Addr×Value),
   Paired (fun(p:List Key×V) (q:List Key×Addr×Value)=>p.1=q.1∧H q.2.1=some (.tup (p.1.map kV))∧Yx p.2 q.2.2) kvs xs∧
   ∃o es ep,h.get? a=some o∧o.ExactDict∧o.data=.dict es ep∧es.toList=xs.map (entryOfKey (tupleKind (Yn P w)))∧(xs.map (·.1)).Nodup
 |.set S n=>h.SetOf (intKind P w) a S n
 |.ins C dx fs=>H dx=some (.own a)∧fs.length≤1000∧dx≠a∧h.get? a=some (PySem.W.instObj C dx)∧
   ∃mA,h.Ns1 dx mA∧(∀f,YAV (fs.lookup f) (mA f))∧PySem.Within mA (fs.map (·.1))
 |.own _=>∃o,h.get? a=some o
 |.xd fs=>∃mA,h.Ns1 a mA∧∀f,YAV (fs.lookup f) (mA f)
 |.rng lo hi=>∃t u v,h.get? a=some { cls:=.type "range",data:=.fields #[.int lo t,.int hi u,.int 1 v] }
 |.frz o u=>h.get? a=some o∧Y8 H h a u
 |.tbl ps=>h.get? a=some { cls:=.none,data:=.fields ps }
 |.met f x=>h.get? a=some (PySem.W.methodObj (.ref f) (.ref x))
 |.ext φ=>φ h∧(∃o,h.get? a=some o)∧∀h1 h2:Heap,φ h1→(∀o,h1.get? a=some o→h2.get? a=some o)→φ h2
def HOk (H:Hp) (h:Heap):Prop:=∀a o,H a=some o→Y8 P w H h a o
end
section
variable {P:Program}{w:World}{H H':Hp}{h h':Heap}{a:Addr}{o:HO}
theorem Y8.lt (x:Y8 P w H h a o):a < h.objs.size:=by
 cases o with
 |lst xs=>obtain⟨_,_,_,_,e⟩:=x;exact Heap.lt_size e
 |tup xs=>obtain⟨_,_,_,p⟩:=x;exact p.lt
 |dK kvs=>obtain⟨_,_,_,_,o,_,_,e,_⟩:=x;exact Heap.lt_size e
 |dT kvs=>obtain⟨_,_,_,_,o,_,_,e,_⟩:=x;exact Heap.lt_size e
 |set S n=>obtain⟨o,_,_,_,e,_⟩:=x;exact Heap.lt_size e
 |ins C dx fs=>obtain⟨_,_,_,e,_⟩:=x;exact Heap.lt_size e
 |own y=>obtain⟨_,e⟩:=x;exact Heap.lt_size e
 |xd fs=>obtain⟨_,⟨_,_,_,e,_⟩,_⟩:=x;exact Heap.lt_size e
 |rng lo hi=>obtain⟨_,_,_,e⟩:=x;exact Heap.lt_size e
 |frz ob u=>obtain⟨e,_⟩:=x;exact Heap.lt_size e
 |tbl ps=>exact Heap.lt_size (show h.get? a=some _ from x)
 |met f y=>exact Heap.lt_size (show h.get? a=some _ from x)
 |ext φ=>obtain⟨_,⟨_,e⟩,_⟩:=x;exact Heap.lt_size e
theorem Paired.mapP {α β:Type}{F G:α→β→Prop}:∀{l₁:List α}{l₂:List β},Paired F l₁ l₂→(∀a b,F a b→G a b)→Paired G l₁ l₂
 |_,_,.nil,_=>.nil
 |_,_,.cons r t,f=>.cons (f _ _ r) (Paired.mapP t f)
theorem Y8.stay (x:Y8 P w H h a o) (k:∀b u,(b=a∨H b=some (.own a))→h.get? b=some u→h'.get? b=some u)
  (ho:∀b,H b=some (.own a)→H' b=some (.own a)) (ht:∀b xs,H b=some (.tup xs)→H' b=some (.tup xs)):Y8 P w H' h' a o:=by
 induction o with
 |lst xs=>obtain⟨z,its,n,r,e⟩:=x;exact⟨z,its,n,r,k _ _ (.inl rfl) e⟩
 |tup xs=>obtain⟨z,its,r,ob,e,c⟩:=x;exact⟨z,its,r,ob,k _ _ (.inl rfl) e,c⟩
 |dK kvs=>obtain⟨z,y,vs,r,ob,es,ep,e,c⟩:=x;exact⟨z,y,vs,r,ob,es,ep,k _ _ (.inl rfl) e,c⟩
 |dT kvs=>
  obtain⟨z,y,xs,r,ob,es,ep,e,c⟩:=x;exact⟨z,y,xs,Paired.mapP r fun p q z=>⟨z.1,ht _ _ z.2.1,z.2.2⟩,ob,es,ep,k _ _ (.inl rfl) e,c⟩
 |set S n=>obtain⟨ob,es,ep,t,e,c⟩:=x;exact⟨ob,es,ep,t,k _ _ (.inl rfl) e,c⟩
 |ins C dx fs=>
  obtain⟨d,z,ne,e,mA,⟨od,es,ep,e2,c⟩,r⟩:=x;exact⟨ho _ d,z,ne,k _ _ (.inl rfl) e,mA,⟨od,es,ep,k _ _ (.inr d) e2,c⟩,r⟩
 |own y=>obtain⟨ob,e⟩:=x;exact⟨ob,k _ _ (.inl rfl) e⟩
 |xd fs=>obtain⟨mA,⟨od,es,ep,e,c⟩,r⟩:=x;exact⟨mA,⟨od,es,ep,k _ _ (.inl rfl) e,c⟩,r⟩
 |rng lo hi=>obtain⟨t,u,v,e⟩:=x;exact⟨t,u,v,k _ _ (.inl rfl) e⟩
 |frz ob u ih=>obtain⟨e,q⟩:=x;exact⟨k _ _ (.inl rfl) e,ih q⟩
 |tbl ps=>
  have e:h.get? a=some { cls:=.none,data:=.fields ps }:=x;show h'.get? a=some { cls:=.none,data:=.fields ps };exact k a _ (.inl rfl) e
 |met f y=>
  have e:h.get? a=some (PySem.W.methodObj (.ref f) (.ref y)):=x;show h'.get? a=some (PySem.W.methodObj (.ref f) (.ref y));exact k a _ (.inl rfl) e
 |ext φ=>obtain⟨p,⟨o,e⟩,st⟩:=x;exact⟨st _ _ p fun o q=>k _ _ (.inl rfl) q,⟨o,k _ _ (.inl rfl) e⟩,st⟩
theorem HOk.lt (x:HOk P w H h) (e:H a=some o):a < h.objs.size:=(x a o e).lt
theorem HOk.fresh (x:HOk P w H h) (e:h.objs.size≤a):H a=none:=by
 cases q:H a with
 |none=>rfl
 |some u=>exact absurd (YLX (x.lt q) e) (Nat.lt_irrefl _)
theorem HOk.kept (x:HOk P w H h) (k:∀b u,h.get? b=some u→h'.get? b=some u):HOk P w H h':=fun a o e=>
 (x a o e).stay (fun b u _ q=>k b u q) (fun _ q=>q) fun _ _ q=>q
theorem HOk.laid (x:HOk P w H h) (k:∀b u,h.get? b=some u→h'.get? b=some u) (hp:h.objs.size≤a) (new:Y8 P w (upd H a o) h' a o):HOk P w (upd H a o) h':=fun b u e=>by
 have hn:=x.fresh hp
 by_cases hb:b=a
 ·subst hb;rw[YB]at e;cases e;exact new
 ·rw[YE hb]at e;exact(x b u e).stay (fun c v _ q=>k c v q) (fun c q=>by rw[YE (Ya q hn)];exact q) fun c xs q=>by rw[YE (Ya q hn)];exact q
end
def Rd (H:Hp) (a:Addr) (u:HO):Prop:=H a=some u∨∃o,H a=some (.frz o u)
theorem Rd.ok {P:Program}{w:World}{H:Hp}{h:Heap}{a:Addr}{u:HO} (r:Rd H a u) (x:HOk P w H h):Y8 P w H h a u:=by
 rcases r with r |⟨o,r⟩
 ·exact x a u r
 ·obtain⟨_,q⟩:=x a _ r;exact q
def Mut:Option HO→Prop
 |some (.lst _)=>True
 |some (.dK _)=>True
 |some (.dT _)=>True
 |some (.set _ _)=>True
 |some (.ins _ _ _)=>True
 |some (.ext _)=>True
 |_=>False
section
variable {P:Program}{w:World}{H:Hp}{h h':Heap}{x e:Addr}{o':HO}
theorem HOk.write (ok:HOk P w H h) (mu:Mut (H x)) (he:e=x∨H e=some (.own x)) (k:∀b u,b≠e→h.get? b=some u→h'.get? b=some u) (heo:∃u,h'.get? e=some u)
  (new:Y8 P w (upd H x o') h' x o'):HOk P w (upd H x o') h':=fun b u q=>by
 have nown:∀c y,H c=some (.own y)→c≠x:=fun c y r z=>by subst z;rw[r]at mu;exact mu
 have ntup:∀c xs,H c=some (.tup xs)→c≠x:=fun c xs r z=>by subst z;rw[r]at mu;exact mu
 by_cases hb:b=x
 ·subst hb;rw[YB]at q;cases q;exact new
 ·rw[YE hb]at q
  by_cases hbe:b=e
  ·have q':H b=some (.own x):=by
    rcases he with z |z
    ·exact absurd (hbe.trans z) hb
    ·rw[hbe];exact z
   rw[q]at q';cases q';obtain⟨v,hv⟩:=heo;exact⟨v,by rw[hbe];exact hv⟩
  ·refine(ok b u q).stay (fun c v hc r=>k c v ?_ r) (fun c r=>by rw[YE (nown c b r)];exact r) fun c xs r=>by rw[YE (ntup c xs r)];exact r
   rcases hc with rfl |hc
   ·exact hbe
   ·rintro rfl;rcases he with z |z
    ·exact nown c b hc z
    ·rw[hc]at z;cases z;exact hb rfl
end
structure Un (fs ex:List Addr) (H H':Hp) (h h':Heap):Prop where
 keep:∀b o,h.get? b=some o→H b=none→b∉fs→b∉ex→h'.get? b=some o
 slot:∀b o,h.get? b=some o→H b=none→b∈fs→b∉ex→∃sl,h'.get? b=some { o with slots:=sl }
 free:∀b o,h.get? b=some o→H b=none→b∉ex→H' b=none
 there:∀b o,h.get? b=some o→b∉ex→∃o',h'.get? b=some o'
 tups:∀b xs,H b=some (.tup xs)→H' b=some (.tup xs)
 frzs:∀b o u,H b=some (.frz o u)→H' b=some (.frz o u)
 tbls:∀b ps,H b=some (.tbl ps)→∃more,H' b=some (.tbl (ps ++ more))
section
variable {fs fs' ex ex':List Addr}{H H1 H2:Hp}{h h1 h2 h':Heap}{a x e:Addr}{o:HO}
theorem Un.any (u:Un fs ex H H1 h h1) {b:Addr}{ob:Obj} (q:h.get? b=some ob) (n:H b=none) (hx:b∉ex):∃sl,h1.get? b=some { ob with slots:=sl }:=by
 by_cases hb:b∈fs
 ·exact u.slot b ob q n hb hx
 ·exact⟨ob.slots,u.keep b ob q n hb hx⟩
theorem Un.trans (a:Un fs ex H H1 h h1) (b:Un fs ex H1 H2 h1 h2):Un fs ex H H2 h h2 where
 keep:=fun c ob q n hc hx=>b.keep c ob (a.keep c ob q n hc hx) (a.free c ob q n hx) hc hx
 slot:=fun c ob q n hc hx=>by
  obtain⟨sl,e1⟩:=a.slot c ob q n hc hx;obtain⟨sl',e2⟩:=b.slot c _ e1 (a.free c ob q n hx) hc hx;exact⟨sl',e2⟩
 free:=fun c ob q n hx=>by
  obtain⟨o',e1⟩:=a.there c ob q hx;exact b.free c o' e1 (a.free c ob q n hx) hx
 there:=fun c ob q hx=>by
  obtain⟨o',e1⟩:=a.there c ob q hx;exact b.there c o' e1 hx
 tups:=fun c xs q=>b.tups c xs (a.tups c xs q)
 frzs:=fun c ob xs q=>b.frzs c ob xs (a.frzs c ob xs q)
 tbls:=fun c ps q=>by
  obtain⟨m1,e1⟩:=a.tbls c ps q;obtain⟨m2,e2⟩:=b.tbls c _ e1;exact⟨m1 ++ m2,by rw[e2,Array.append_assoc]⟩
theorem Un.kept (k:∀b u,h.get? b=some u→h'.get? b=some u):Un fs ex H H h h':=
 ⟨fun b ob q _ _ _=>k b ob q,fun b ob q _ _ _=>⟨ob.slots,k b ob q⟩,fun _ _ _ n _=>n,fun b ob q _=>⟨ob,k b ob q⟩,fun _ _ q=>q,fun _ _ _ q=>q,fun _ ps q=>⟨#[],by rw[q];simp⟩⟩
theorem Un.refl:Un fs ex H H h h:=Un.kept fun _ _ q=>q
theorem Un.laid (k:∀b u,h.get? b=some u→h'.get? b=some u) (hp:h.objs.size≤a) (hn:H a=none):Un fs ex H (upd H a o) h h' where
 keep:=fun b u q _ _ _=>k b u q
 slot:=fun b u q _ _ _=>⟨u.slots,k b u q⟩
 free:=fun b u q n _=>by rw[YE (YLY (YLX (Heap.lt_size q) hp))];exact n
 there:=fun b u q _=>⟨u,k b u q⟩
 tups:=fun b xs q=>by rw[YE (Ya q hn)];exact q
 frzs:=fun b u xs q=>by rw[YE (Ya q hn)];exact q
 tbls:=fun b ps q=>⟨#[],by rw[YE (Ya q hn),q];simp⟩
theorem Un.write (mu:Mut (H x)) (he:e=x∨H e=some (.own x)) (k:∀b u,b≠e→h.get? b=some u→h'.get? b=some u) (heo:∃u,h'.get? e=some u):Un fs ex H (upd H x o) h h':=by
 have hx:∀b,H b=none→b≠x:=fun b n z=>by subst z;rw[n]at mu;exact mu
 have hb:∀b,H b=none→b≠e:=fun b n z=>by
  subst z;rcases he with r |r
  ·exact hx b n r
  ·rw[n]at r;cases r
 have hm:∀b u,H b=some u→¬Mut (some u)→b≠x:=fun b u q nm z=>by subst z;rw[q]at mu;exact nm mu
 refine⟨fun b u q n _ _=>k b u (hb b n) q,fun b u q n _ _=>⟨u.slots,k b u (hb b n) q⟩,fun b u q n _=>by rw[YE (hx b n)];exact n,fun b u q _=>?_,
  fun b xs q=>by rw[YE (hm b _ q fun z=>z)];exact q,fun b u xs q=>by rw[YE (hm b _ q fun z=>z)];exact q,fun b ps q=>⟨#[],by rw[YE (hm b _ q fun z=>z),q];simp⟩⟩
 by_cases hbe:b=e
 ·subst hbe;exact heo
 ·exact⟨u,k b u hbe q⟩
end
def trk (h:Heap) (H:Hp):List Addr:=(List.range h.objs.size).filter fun a=>(H a).isSome
def YE3 (h:Heap) (H:Hp):Heap:=PySem.W.hideAll h (trk h H)
theorem YIy (h:Heap) (H:Hp):(YE3 h H).objs.size=h.objs.size:=PySem.W.hideAll_size _ _
theorem YJe {h:Heap}{H:Hp}{b:Addr}{o:Obj} (e:h.get? b=some o) (n:H b=none):(YE3 h H).get? b=some o:=
 PySem.W.hideAll_get _ e fun hm=>by
  have q:(H b).isSome=true:=(List.mem_filter.mp hm).2;rw[n]at q;simp at q
theorem of_hidT {h:Heap}{H:Hp}{b:Addr}{o:Obj} (e:(YE3 h H).get? b=some o):h.get? b=some o∧H b=none:=by
 have e':h.get? b=some o:=PySem.W.of_hideAll (trk h H) e;refine⟨e',?_⟩;cases q:H b with
 |none=>rfl
 |some x=>
  have hm:b∈trk h H:=List.mem_filter.mpr ⟨List.mem_range.mpr (Heap.lt_size e'),by simp[q]⟩;have z:(YE3 h H).get? b=none:=PySem.W.hideAll_none (trk h H) hm;rw[z]at e;cases e
def allNews (g h:Heap) (L:Addr):List (Addr×Obj):=(List.range h.objs.size).filterMap fun a=>if a=L∨(g.get? a).isSome=true then none else (h.get? a).map fun o=>(a,o)
def rest (g h:Heap) (L d:Addr):List (Addr×Obj):=(allNews g h L).filter fun p=>decide (p.1≠d)
end L2
namespace L2
open PySem PySem.Spec PyProof.Rows
structure Mod (K:W.Frag) (mg:Str→Option Value) (base:Heap):Prop where
 kin:K.In base
 glob:base.Ns mainGlobals mg
 blt:∃mb,base.Ns builtinsNs mb∧∀x:Str,x≠"__name__"→mb x=bootBuiltins x
 nolimit:base.NoLimit
structure Cx where
 prog:Program
 w:World
 K:W.Frag
 mg:Str→Option Value
 base:Heap
 A:Around
 N:List Str
 s₀:Shared
 H₀:Hp
 env:Env
 outer:List Env
 stack:List Env
 ex:List Addr
 fn:Str→Bool
 calm:Bool
 pn:List (Addr×Obj)
 xe:Value→Shared→Prop
def frs (l:List Env):List Addr:=l.filterMap (·.frame)
abbrev Cx.fs (X:Cx):List Addr:=frs X.outer
def Vis (sc:Scope) (x:Str):Prop:=sc.names.lookup x=some .local∨sc.names.lookup x=some .cell∨sc.names.lookup x=some .free
def Loc (sc:Scope) (x:Str):Prop:=sc.names.lookup x=some .local∨sc.names.lookup x=some .cell
def Look (env:Env) (h:Heap) (m:Str→Option Value) (x:Str) (u:Value):Prop:=
 (env.kindOf x=some .local∧m x=some u)∨((env.kindOf x=some .cell∨env.kindOf x=some .free)∧∃c,env.cells.lookup x=some c∧h.IsCell c (some u))
structure Cx.Ok (X:Cx):Prop where
 mod:Mod X.K X.mg X.base
 kind:X.env.scope.kind=.function
 glob:X.env.globals=mainGlobals
 blt:X.env.builtins=builtinsNs
 above:X.s₀.heap.objs.size≤X.env.locals
 inj:∀x y c,X.env.cells.lookup x=some c→X.env.cells.lookup y=some c→x=y
 has:∀x,(X.env.kindOf x=some .cell∨X.env.kindOf x=some .free)→∃c,X.env.cells.lookup x=some c
 cab:∀x c,X.fn x=true→X.env.cells.lookup x=some c→X.s₀.heap.objs.size≤c
 hd:X.calm=true→X.A.handled=none
 frames:X.A.frames=some X.stack
 stk:X.stack=X.outer∨(X.stack=X.env :: X.outer∧X.env.frame=some X.env.locals)
 exf:∀b∈X.ex,b≠X.env.locals∧∀x c,X.env.cells.lookup x=some c→c≠b
 bs:∀b o,X.base.get? b=some o→X.s₀.heap.get? b=some o∧X.H₀ b=none
 bsz:X.base.objs.size≤X.s₀.heap.objs.size
 noex:∀b o,X.base.get? b=some o→b∉X.ex
 exfs:∀b∈X.ex,b∉X.fs
 funs:X.s₀.heap.FunFrames X.base X.outer
 frf:∀b∈X.fs,X.H₀ b=none
structure Inv (X:Cx) (pins:List (Addr×Obj)) (σ:List (Option V)) (H:Hp) (s:Shared):Prop where
 ok:X.Ok
 os:s.os=X.s₀.os
 bare:AllBare s.gens
 base:Un X.fs X.ex X.H₀ H X.s₀.heap s.heap
 loc:∃m,s.heap.Ns X.env.locals m∧∀(i:Nat) (x:Str) (v:V),X.N[i]?=some x→σ[i]?=some (some v)→Vis X.env.scope x→∃u,Yx v u∧Look X.env s.heap m x u
 cell:∀x c,X.env.cells.lookup x=some c→∃v,s.heap.IsCell c v
 free:H X.env.locals=none
 freeC:∀x c,X.env.cells.lookup x=some c→H c=none
 pin:∀p∈X.pn ++ pins,s.heap.get? p.1=some p.2∧H p.1=none∧p.1≠X.env.locals∧p.1∉X.fs∧∀v,p.2.data≠.cell v
 hok:HOk X.prog X.w H s.heap
 len:σ.length=X.N.length
section
variable {X:Cx}{pins:List (Addr×Obj)}{σ:List (Option V)}{H H':Hp}{s:Shared}{h':Heap}
theorem Cx.Ok.nofr (ok:X.Ok) {b:Addr}{o:Obj} (e:X.base.get? b=some o):b∉X.fs:=fun hb=>by
 have:=(ok.funs.mem hb).1;rw[e]at this;cases this
theorem Inv.bs (I:Inv X pins σ H s):∀b o,X.base.get? b=some o→s.heap.get? b=some o∧H b=none:=fun b o e=>
 ⟨I.base.keep b o (I.ok.bs b o e).1 (I.ok.bs b o e).2 (I.ok.nofr e) (I.ok.noex b o e),I.base.free b o (I.ok.bs b o e).1 (I.ok.bs b o e).2 (I.ok.noex b o e)⟩
theorem Inv.bk (I:Inv X pins σ H s):∀b o,X.base.get? b=some o→s.heap.get? b=some o:=fun b o e=>(I.bs b o e).1
theorem Inv.mod (I:Inv X pins σ H s):Mod X.K X.mg X.base:=I.ok.mod
theorem Inv.kIn (I:Inv X pins σ H s):X.K.In s.heap:=I.ok.mod.kin.keeps I.bk
theorem Inv.lt (I:Inv X pins σ H s):X.env.locals < s.heap.objs.size:=let ⟨_,hn,_⟩:=I.loc;hn.lt
theorem Inv.sz (I:Inv X pins σ H s):X.s₀.heap.objs.size≤s.heap.objs.size:=YLb I.ok.above (Nat.le_of_lt I.lt)
theorem Inv.nofs (I:Inv X pins σ H s) {a:Addr} (h:s.heap.objs.size≤a):a∉X.fs:=fun hb=>by
 obtain⟨_,o,ho,_⟩:=I.ok.funs.mem hb;exact absurd (YLX (Heap.lt_size ho) (YLb I.sz h)) (Nat.lt_irrefl _)
theorem Inv.cne (I:Inv X pins σ H s):∀x c,X.env.cells.lookup x=some c→c≠X.env.locals:=fun x c e z=>by
 obtain⟨v,o,ho,hd⟩:=I.cell x c e;obtain⟨m,⟨o',es,ep,ho',hd',_⟩,_⟩:=I.loc;rw[z,ho']at ho;cases ho;rw[hd']at hd;cases hd
theorem Inv.funs (I:Inv X pins σ H s):s.heap.FunFrames X.base X.outer:=by
 have all:∀(l:List Env),(∀b∈frs l,b∈X.fs)→X.s₀.heap.FunFrames X.base l→s.heap.FunFrames X.base l:=by
  intro l
  induction l with
  |nil=>intro _ _;trivial
  |cons env r ih=>
   intro hs hl;obtain⟨hk,⟨L,o,hf,hn,ho,hd⟩,hr⟩:=hl;have hL:L∈X.fs:=hs L (by unfold frs;rw[List.filterMap_cons,hf];exact YLP);obtain⟨sl,e⟩:=I.base.slot L o ho (I.ok.frf L hL) hL fun z=>I.ok.exfs L z hL
   exact⟨hk,⟨L,_,hf,hn,e,hd⟩,ih (fun b hb=>hs b (by unfold frs;rw[List.filterMap_cons,hf];exact YLR _ hb)) hr⟩
 exact all X.outer (fun _ hb=>hb) I.ok.funs
theorem Inv.stack (I:Inv X pins σ H s):s.heap.FunFrames X.base X.stack:=by
 rcases I.ok.stk with e |⟨e,hf⟩
 ·rw[e];exact I.funs
 ·rw[e];obtain⟨m,hn,_⟩:=I.loc;refine .cons (by rw[I.ok.kind];decide) hf hn ?_ I.funs;exact Heap.get?_none_of_le (YLb I.ok.bsz I.ok.above)
theorem Inv.stkSub (I:Inv X pins σ H s):∀b∈frs X.stack,b∈X.env.locals :: X.fs:=fun b hb=>by
 rcases I.ok.stk with e |⟨e,hf⟩
 ·rw[e]at hb;exact YLR _ hb
 ·rw[e]at hb;unfold frs at hb;rw[List.filterMap_cons,hf]at hb;exact hb
theorem Inv.stkFree (I:Inv X pins σ H s):∀b∈frs X.stack,H b=none:=fun b hb=>by
 rcases List.mem_cons.mp (I.stkSub b hb) with e |hb
 ·rw[e];exact I.free
 ·obtain⟨_,o,ho,_⟩:=I.ok.funs.mem hb;exact I.base.free b o ho (I.ok.frf b hb) fun z=>I.ok.exfs b z hb
theorem Inv.step {g':Array GenState}{t':Nat}{d':Drawn}{ch:List Addr} (I:Inv X pins σ H s)
  (hch:∀b∈ch,(b∈X.ex∨X.s₀.heap.objs.size≤b)∧b≠X.env.locals∧(∀x c,X.env.cells.lookup x=some c→c≠b)∧∀p∈X.pn ++ pins,p.1≠b)
  (keep:∀b o,b≠X.env.locals→b∉X.fs→b∉ch→s.heap.get? b=some o→H b=none→h'.get? b=some o)
  (slot:∀b o,b≠X.env.locals→b∈X.fs→b∉ch→s.heap.get? b=some o→H b=none→∃sl,h'.get? b=some { o with slots:=sl }) (free:∀b o,b∉ch→s.heap.get? b=some o→H b=none→H' b=none)
  (there:∀b o,b∉ch→s.heap.get? b=some o→∃o',h'.get? b=some o')
  (tups:∀b xs,H b=some (.tup xs)→H' b=some (.tup xs)) (frzs:∀b o u,H b=some (.frz o u)→H' b=some (.frz o u)) (tbls:∀b ps,H b=some (.tbl ps)→∃more,H' b=some (.tbl (ps ++ more)))
  (ns:∀m,s.heap.Ns X.env.locals m→h'.Ns X.env.locals m) (hok:HOk X.prog X.w H' h') (hg:AllBare g'):
  Inv X pins σ H' { s with heap:=h',gens:=g',drawn:=d',toks:=t' }:=by
 have neL:∀b o,X.s₀.heap.get? b=some o→b≠X.env.locals:=fun b o e=>YLY (YLX (Heap.lt_size e) I.ok.above)
 have neC:∀b o,X.s₀.heap.get? b=some o→b∉X.ex→b∉ch:=fun b o e hx hb=>by
  rcases(hch b hb).1 with z |z
  ·exact hx z
  ·exact absurd (YLX (Heap.lt_size e) z) (Nat.lt_irrefl _)
 have cellK:∀x c,X.env.cells.lookup x=some c→∀v,s.heap.IsCell c v→h'.IsCell c v:=fun x c e v ⟨o,ho,hd⟩=>by
  have nch:c∉ch:=fun z=>(hch c z).2.2.1 x c e rfl
  by_cases hc:c∈X.fs
  ·obtain⟨sl,q⟩:=slot c o (I.cne x c e) hc nch ho (I.freeC x c e);exact⟨_,q,hd⟩
  ·exact⟨o,keep c o (I.cne x c e) hc nch ho (I.freeC x c e),hd⟩
 refine⟨I.ok,I.os,hg,⟨fun b o e n hb hx=>?_,fun b o e n hb hx=>?_,fun b o e n hx=>?_,fun b o e hx=>?_,fun b xs e=>tups b xs (I.base.tups b xs e),fun b o xs e=>frzs b o xs (I.base.frzs b o xs e),fun b ps e=>?_⟩,?_,fun x c e=>?_,?_,fun x c e=>?_,fun p hp=>?_,hok,I.len⟩
 ·exact keep b o (neL b o e) hb (neC b o e hx) (I.base.keep b o e n hb hx) (I.base.free b o e n hx)
 ·obtain⟨sl,e1⟩:=I.base.slot b o e n hb hx;obtain⟨sl',e2⟩:=slot b _ (neL b o e) hb (neC b o e hx) e1 (I.base.free b o e n hx);exact⟨sl',e2⟩
 ·obtain⟨o',e1⟩:=I.base.there b o e hx;exact free b o' (neC b o e hx) e1 (I.base.free b o e n hx)
 ·obtain⟨o',e1⟩:=I.base.there b o e hx;exact there b o' (neC b o e hx) e1
 ·obtain⟨m1,e1⟩:=I.base.tbls b ps e;obtain⟨m2,e2⟩:=tbls b _ e1;exact⟨m1 ++ m2,by rw[e2,Array.append_assoc]⟩
 ·obtain⟨m,hn,hl⟩:=I.loc;refine⟨m,ns m hn,fun i x v e1 e2 e3=>?_⟩;obtain⟨u,r,l⟩:=hl i x v e1 e2 e3;refine⟨u,r,?_⟩;rcases l with l |⟨k,c,e,z⟩
  ·exact .inl l
  ·exact .inr ⟨k,c,e,cellK x c e _ z⟩
 ·obtain⟨v,z⟩:=I.cell x c e;exact⟨v,cellK x c e v z⟩
 ·obtain⟨m,⟨o,_,_,ho,_⟩,_⟩:=I.loc;exact free _ o (fun z=>(hch _ z).2.1 rfl) ho I.free
 ·obtain⟨v,o,ho,hd⟩:=I.cell x c e;exact free c o (fun z=>(hch c z).2.2.1 x c e rfl) ho (I.freeC x c e)
 ·obtain⟨e,n,ne,nf,d⟩:=I.pin p hp;have nch:p.1∉ch:=fun z=>(hch p.1 z).2.2.2 p hp rfl
  exact⟨keep p.1 p.2 ne nf nch e n,free p.1 p.2 nch e n,ne,nf,d⟩
theorem Inv.un {t':Nat} (I:Inv X pins σ H s) (u:Un X.fs [] H H' s.heap h') (hok:HOk X.prog X.w H' h'):Inv X pins σ H' { s with heap:=h',toks:=t' }:=by
 obtain⟨m,⟨o,es,ep,ho,r⟩,_⟩:=id I.loc;obtain⟨sl,hL⟩:=u.any ho I.free (by simp);exact I.step (g':=s.gens) (d':=s.drawn) (ch:=[]) (fun _ z=>nomatch z) (fun b o _ hb _ e n=>u.keep b o e n hb (by simp)) (fun b o _ hb _ e n=>u.slot b o e n hb (by simp)) (fun b o _ e n=>u.free b o e n (by simp)) (fun b o _ e=>u.there b o e (by simp)) u.tups u.frzs u.tbls (fun m' hm=>by
  obtain⟨o',es',ep',ho',r'⟩:=hm;rw[ho]at ho';cases ho';exact⟨_,es',ep',hL,r'⟩) hok I.bare
theorem Inv.call {g':Array GenState}{t':Nat}{d':Drawn}{ch:List Addr} (I:Inv X pins σ H s) (u:Un (frs X.stack) ch H H' s.heap h') (hok:HOk X.prog X.w H' h') (hg:AllBare g')
  (hch:∀b∈ch,(b∈X.ex∨X.s₀.heap.objs.size≤b)∧b≠X.env.locals∧(∀x c,X.env.cells.lookup x=some c→c≠b)∧∀p∈X.pn ++ pins,p.1≠b):
  Inv X pins σ H' { s with heap:=h',gens:=g',drawn:=d',toks:=t' }:=by
 obtain⟨m,⟨o,es,ep,ho,r⟩,_⟩:=id I.loc;obtain⟨sl,hL⟩:=u.any ho I.free fun z=>(hch _ z).2.1 rfl
 exact I.step (ch:=ch) hch (fun b o hL hb hc e n=>u.keep b o e n (fun z=>(List.mem_cons.mp (I.stkSub b z)).elim hL hb) hc) (fun b o _ _ hc e n=>u.any e n hc) (fun b o hc e n=>u.free b o e n hc) (fun b o hc e=>u.there b o e hc) u.tups u.frzs u.tbls (fun m' hm=>by
  obtain⟨o',es',ep',ho',r'⟩:=hm;rw[ho]at ho';cases ho';exact⟨_,es',ep',hL,r'⟩) hok hg
theorem Inv.turned {t':Nat}{it:Addr} (I:Inv X pins σ H s) (k:∀b o,b≠it→s.heap.get? b=some o→h'.get? b=some o) (hn:H it=none) (hL:it≠X.env.locals)
  (h1:it∈X.ex∨X.s₀.heap.objs.size≤it) (h2:∀x c,X.env.cells.lookup x=some c→c≠it) (h3:∀p∈X.pn ++ pins,p.1≠it):Inv X pins σ H { s with heap:=h',toks:=t' }:=by
 have nit:∀b u,H b=some u→b≠it:=fun b u e z=>by rw[z,hn]at e;cases e
 refine I.step (g':=s.gens) (d':=s.drawn) (ch:=[it]) (fun b hb=>?_) (fun b o _ _ hc e _=>k b o (fun z=>hc (by simp[z])) e) (fun b o _ _ hc e _=>⟨o.slots,k b o (fun z=>hc (by simp[z])) e⟩) (fun _ _ _ _ n=>n)
  (fun b o hc e=>⟨o,k b o (fun z=>hc (by simp[z])) e⟩) (fun _ _ e=>e) (fun _ _ _ e=>e) (fun b ps e=>⟨#[],by rw[e];simp⟩) (fun m hm=>?_) (fun b u e=>?_) I.bare
 ·have e:b=it:=by simpa using hb
  subst e;exact⟨h1,hL,h2,h3⟩
 ·obtain⟨o,es,ep,ho,r⟩:=hm;exact⟨o,es,ep,k _ o (Ne.symm hL) ho,r⟩
 ·refine(I.hok b u e).stay (fun c v hc q=>k c v ?_ q) (fun _ q=>q) fun _ _ q=>q
  rcases hc with z |z
  ·rw[z];exact nit b u e
  ·exact nit c _ z
theorem Inv.tok (I:Inv X pins σ H s) (t:Nat):Inv X pins σ H { s with toks:=t }:=I.un (h':=s.heap) (t':=t) Un.refl I.hok
theorem Inv.kept {t':Nat} (I:Inv X pins σ H s) (k:∀b u,s.heap.get? b=some u→h'.get? b=some u):Inv X pins σ H { s with heap:=h',toks:=t' }:=I.un (Un.kept k) (I.hok.kept k)
theorem Inv.laid {a:Addr}{o:HO}{t':Nat} (I:Inv X pins σ H s) (k:∀b u,s.heap.get? b=some u→h'.get? b=some u) (hp:s.heap.objs.size≤a) (new:Y8 X.prog X.w (upd H a o) h' a o):
  Inv X pins σ (upd H a o) { s with heap:=h',toks:=t' }:=I.un (Un.laid k hp (I.hok.fresh hp)) (I.hok.laid k hp new)
theorem Inv.write {x e:Addr}{o:HO}{t':Nat} (I:Inv X pins σ H s) (mu:Mut (H x)) (he:e=x∨H e=some (.own x)) (k:∀b u,b≠e→s.heap.get? b=some u→h'.get? b=some u) (heo:∃u,h'.get? e=some u)
  (new:Y8 X.prog X.w (upd H x o) h' x o):Inv X pins σ (upd H x o) { s with heap:=h',toks:=t' }:=I.un (Un.write mu he k heo) (I.hok.write mu he k heo new)
theorem Inv.pins_of {pins':List (Addr×Obj)} (I:Inv X pins σ H s) (h:∀p∈pins',s.heap.get? p.1=some p.2∧H p.1=none∧p.1≠X.env.locals∧p.1∉X.fs∧∀v,p.2.data≠.cell v):Inv X pins' σ H s:=
 ⟨I.ok,I.os,I.bare,I.base,I.loc,I.cell,I.free,I.freeC,fun p hp=>(List.mem_append.mp hp).elim (fun z=>I.pin p (YLU _ z)) (h p),I.hok,I.len⟩
theorem YFh {N:List Str} (hN:N.Nodup) {i j:Nat}{x:Str} (a:N[i]?=some x) (b:N[j]?=some x):i=j:=by
 obtain⟨h1,e1⟩:=List.getElem?_eq_some_iff.mp a;obtain⟨h2,e2⟩:=List.getElem?_eq_some_iff.mp b;exact(List.getElem_inj hN).mp (e1.trans e2.symm)
theorem YIz {M:Model}{A:Around}{E:Value→Shared→Prop}{i:Nat}{x:Str}{v:V}{u:Value}{Q:Unit→Shared→Prop} (I:Inv X pins σ H s) (hN:X.N.Nodup) (hi:X.N[i]?=some x) (hx:Loc X.env.scope x) (r:Yx v u)
  (h:∀s',Inv X pins (σ.set i (some v)) H s'→(∃a,Heap.SameBut a s.heap s'.heap∧(a=X.env.locals∨X.env.cells.lookup x=some a))→Q () s') (hf:X.fn x=true∨X.env.scope.names.lookup x=some .local:=by first |exact .inl rfl |exact .inr rfl |assumption):wpAny M A (storeName X.env x u) Q E s:=by
 obtain⟨m,hn,hl⟩:=id I.loc;have hcls:(X.env.scope.kind == .class || (X.env.scope.kind == .module && X.env.locals != X.env.globals))=false:=by rw[I.ok.kind];rfl
 have hiσ:i < σ.length:=by rw[I.len];exact(List.getElem?_eq_some_iff.mp hi).1
 have cne:=I.cne;have tracked:∀{a:Addr}{h':Heap},(∃o,s.heap.get? a=some o∧H a=none)→Heap.SameBut a s.heap h'→HOk X.prog X.w H h':=fun{a h'} ha hs b ob e=>by
  obtain⟨_,_,hfree⟩:=ha;refine(I.hok b ob e).stay (fun c w' hc q=>(hs.2 c ?_).trans q) (fun _ q=>q) fun _ _ q=>q
  rintro rfl;rcases hc with rfl |hc
  ·rw[hfree]at e;cases e
  ·rw[hfree]at hc;cases hc
 rcases hx with hk |hk
 ·refine wpAny_storeName_local hk hn (fun h' hn' hs=>?_) hcls;obtain⟨oL,_,_,hoL,_⟩:=id hn;refine h _ ⟨I.ok,I.os,I.bare,⟨fun b o e n hb hx=>?_,fun b o e n hb hx=>?_,I.base.free,fun b o e hx=>?_,I.base.tups,I.base.frzs,I.base.tbls⟩,⟨_,hn',fun j y v' e1 e2 e3=>?_⟩,fun y c e=>?_,I.free,I.freeC,fun p hp=>?_,tracked ⟨oL,hoL,I.free⟩ hs,by simpa using I.len⟩ ⟨_,hs,.inl rfl⟩
  ·exact(hs.2 b (YLY (YLX (Heap.lt_size e) I.ok.above))).trans (I.base.keep b o e n hb hx)
  ·obtain⟨sl,e1⟩:=I.base.slot b o e n hb hx;exact⟨sl,(hs.2 b (YLY (YLX (Heap.lt_size e) I.ok.above))).trans e1⟩
  ·obtain⟨o',e1⟩:=I.base.there b o e hx;exact⟨o',(hs.2 b (YLY (YLX (Heap.lt_size e) I.ok.above))).trans e1⟩
  ·by_cases hj:j=i
   ·subst hj;rw[hi]at e1;cases e1;rw[List.getElem?_set_self hiσ]at e2;cases e2;exact⟨u,r,.inl ⟨hk,by simp⟩⟩
   ·rw[List.getElem?_set_ne (Ne.symm hj)]at e2;obtain⟨u',r',q⟩:=hl j y v' e1 e2 e3;refine⟨u',r',?_⟩;rcases q with ⟨k,e⟩ |⟨k,c,e,z⟩
    ·refine .inl ⟨k,?_⟩;have:y≠x:=fun e=>hj (YFh hN e1 (e ▸ hi))
     simp[this,e]
    ·exact .inr ⟨k,c,e,z.sameBut hs (cne y c e)⟩
  ·obtain⟨w',z⟩:=I.cell y c e;exact⟨w',z.sameBut hs (cne y c e)⟩
  ·obtain⟨e,n,ne,nf,d⟩:=I.pin p hp;exact⟨(hs.2 p.1 ne).trans e,n,ne,nf,d⟩
 ·have hfn:X.fn x=true:=by
   rcases hf with z |z
   ·exact z
   ·rw[z]at hk;cases hk
  obtain⟨c,hc⟩:=I.ok.has x (.inl hk);obtain⟨w',z⟩:=I.cell x c hc;refine wpAny_storeName_cell I.ok.kind hk hc z (fun h' hc' hs=>?_);obtain⟨oc,hoc,u0⟩:=id z;refine h { s with heap:=h' } ⟨I.ok,I.os,I.bare,⟨fun b o e n hb hx=>?_,fun b o e n hb hx=>?_,I.base.free,fun b o e hx=>?_,I.base.tups,I.base.frzs,I.base.tbls⟩,⟨m,hn.sameBut hs (Ne.symm (cne x c hc)),fun j y v' e1 e2 e3=>?_⟩,fun y c' e=>?_,I.free,I.freeC,fun p hp=>?_,tracked ⟨oc,hoc,I.freeC x c hc⟩ hs,by simpa using I.len⟩ ⟨c,hs,.inr hc⟩
  ·exact(hs.2 b (YLY (YLX (Heap.lt_size e) (I.ok.cab x c hfn hc)))).trans (I.base.keep b o e n hb hx)
  ·obtain⟨sl,e1⟩:=I.base.slot b o e n hb hx;exact⟨sl,(hs.2 b (YLY (YLX (Heap.lt_size e) (I.ok.cab x c hfn hc)))).trans e1⟩
  ·obtain⟨o',e1⟩:=I.base.there b o e hx;exact⟨o',(hs.2 b (YLY (YLX (Heap.lt_size e) (I.ok.cab x c hfn hc)))).trans e1⟩
  ·by_cases hj:j=i
   ·subst hj;rw[hi]at e1;cases e1;rw[List.getElem?_set_self hiσ]at e2;cases e2;exact⟨u,r,.inr ⟨.inl hk,c,hc,hc'⟩⟩
   ·rw[List.getElem?_set_ne (Ne.symm hj)]at e2;obtain⟨u',r',q⟩:=hl j y v' e1 e2 e3;refine⟨u',r',?_⟩;rcases q with q |⟨k,c',e,z'⟩
    ·exact .inl q
    ·refine .inr ⟨k,c',e,z'.sameBut hs ?_⟩;rintro rfl;exact hj (YFh hN e1 (I.ok.inj _ _ _ e hc ▸ hi))
  ·by_cases hcc:c'=c
   ·subst hcc;exact⟨_,hc'⟩
   ·obtain⟨w2,z2⟩:=I.cell y c' e;exact⟨w2,z2.sameBut hs hcc⟩
  ·obtain⟨e,n,ne,nf,d⟩:=I.pin p hp;refine⟨(hs.2 p.1 ?_).trans e,n,ne,nf,d⟩;intro q;rw[q,hoc]at e;have q':oc=p.2:=Option.some.inj e;exact d w' (by rw[←q'];exact u0)
theorem YDE {M:Model}{A:Around}{E:Value→Shared→Prop}{i:Nat}{x:Str}{v:V}{u:Value}{Q:Unit→Shared→Prop} (I:Inv X pins σ H s) (hN:X.N.Nodup) (hi:X.N[i]?=some x) (hx:Loc X.env.scope x) (r:Yx v u)
  (h:∀s',Inv X pins (σ.set i (some v)) H s'→Q () s') (hf:X.fn x=true∨X.env.scope.names.lookup x=some .local:=by first |exact .inl rfl |exact .inr rfl |assumption):wpAny M A (storeName X.env x u) Q E s:=
 YIz I hN hi hx r (fun s' I' _=>h s' I') hf
theorem Inv.call' {s':Shared}{ch:List Addr} (I:Inv X pins σ H s) (ho:s'.os=s.os) (u:Un (frs X.stack) ch H H' s.heap s'.heap) (hok:HOk X.prog X.w H' s'.heap) (hg:AllBare s'.gens)
  (hch:∀b∈ch,(b∈X.ex∨X.s₀.heap.objs.size≤b)∧b≠X.env.locals∧(∀x c,X.env.cells.lookup x=some c→c≠b)∧∀p∈X.pn ++ pins,p.1≠b):Inv X pins σ H' s':=by
 obtain⟨h',g',d',t',o'⟩:=s';have e:o'=s.os:=ho;subst e;exact I.call (g':=g') (t':=t') (d':=d') u hok hg hch
end
abbrev XK:=Value→Option Addr→Hp→Prop
abbrev St:=List (Option V)
abbrev VK:=V→Hp→Prop
abbrev TE:=St→Hp→VK→Prop
abbrev TT:=St→Hp→(Bool→Hp→Prop)→Prop
abbrev TA:=St→Hp→(List V→Hp→Prop)→Prop
structure YAY where
 nx:St→Hp→Prop
 rt:VK
 bk:St→Hp→Prop:=fun _ _=>False
 ct:St→Hp→Prop:=fun _ _=>False
abbrev TS:=YAY→St→Hp→Prop
def EP (X:Cx) (pins:List (Addr×Obj)) (σ:St) (Q:VK) (u:Value) (s':Shared):Prop:=∃v H',Inv X pins σ H' s'∧Yx v u∧Q v H'
def TP (X:Cx) (pins:List (Addr×Obj)) (σ:St) (Q:Bool→Hp→Prop) (b:Bool) (s':Shared):Prop:=∃H',Inv X pins σ H' s'∧Q b H'
def AP (X:Cx) (pins:List (Addr×Obj)) (σ:St) (Q:List V→Hp→Prop) (us:List Value) (s':Shared):Prop:=∃vs H',Inv X pins σ H' s'∧Yq vs us∧Q vs H'
def SP (X:Cx) (pins:List (Addr×Obj)) (D:YAY) (f:Flow) (s':Shared):Prop:=
 match f with
 |.next=>∃σ' H',Inv X pins σ' H' s'∧D.nx σ' H'
 |.brk=>∃σ' H',Inv X pins σ' H' s'∧D.bk σ' H'
 |.cont=>∃σ' H',Inv X pins σ' H' s'∧D.ct σ' H'
 |.ret u=>∃v σ' H',Inv X pins σ' H' s'∧Yx v u∧D.rt v H'
def PE (X:Cx) (e:Expr) (t:TE):Prop:=
 ∀(pins:List (Addr×Obj)) (s:Shared) (σ:St) (H:Hp) (Q:VK),Inv X pins σ H s→t σ H Q→wpAny (model X.prog X.w) X.A (eval e X.env) (EP X pins σ Q) X.xe s
def PT (X:Cx) (e:Expr) (t:TT):Prop:=
 ∀(pins:List (Addr×Obj)) (s:Shared) (σ:St) (H:Hp) (Q:Bool→Hp→Prop),Inv X pins σ H s→t σ H Q→wpAny (model X.prog X.w) X.A (isTrue e X.env (eval e X.env)) (TP X pins σ Q) X.xe s
def PW (X:Cx) (e:Expr) (t:TT):Prop:=
 ∀(whole:Sem Value) (pins:List (Addr×Obj)) (s:Shared) (σ:St) (H:Hp) (Q:Bool→Hp→Prop),Inv X pins σ H s→t σ H Q→wpAny (model X.prog X.w) X.A (isTrue e X.env whole) (TP X pins σ Q) X.xe s
theorem PW.pt {X:Cx}{e:Expr}{t:TT} (h:PW X e t):PT X e t:=h _
def PA (X:Cx) (es:List Expr) (t:TA):Prop:=
 ∀(pos:Pos) (pins:List (Addr×Obj)) (s:Shared) (σ:St) (H:Hp) (Q:List V→Hp→Prop),Inv X pins σ H s→t σ H Q→wpAny (model X.prog X.w) X.A (spliced (backTo pos (starEach es X.env))) (AP X pins σ Q) X.xe s
def PS (X:Cx) (st:Stmt) (t:TS):Prop:=
 ∀(pins:List (Addr×Obj)) (s:Shared) (σ:St) (H:Hp) (D:YAY),Inv X pins σ H s→t D σ H→wpAny (model X.prog X.w) X.A (exec st X.env) (SP X pins D) X.xe s
def PSs (X:Cx) (st:List Stmt) (t:TS):Prop:=
 ∀(pins:List (Addr×Obj)) (s:Shared) (σ:St) (H:Hp) (D:YAY),Inv X pins σ H s→t D σ H→wpAny (model X.prog X.w) X.A (execs st X.env) (SP X pins D) X.xe s
theorem thn {α:Type}{t:Sem α}{Q Q':α→Shared→Prop}{M:Model}{A:Around}{E:Value→Shared→Prop}{s:Shared} (h:wpAny M A t Q E s) (hQ:∀a s,Q a s→Q' a s):wpAny M A t Q' E s:=wpAny_mono h hQ fun _ _ x=>x
end L2
namespace L2
open PySem PySem.Spec PyProof.Rows
section
variable {X:Cx}
inductive tVar_ (i:Nat) (σ:St) (H:Hp) (Q:VK):Prop where
 |mk (v:_) (h0_:σ[i]?=some (some v)) (h1_:Q v H):tVar_ i σ H Q
def tVar (i:Nat):TE:=fun σ H Q=>tVar_ i σ H Q
def tC (v:V):TE:=fun _ H Q=>Q v H
theorem pe_var {i:Nat}{x:Str}{pos:Pos} (hN:X.N[i]?=some x) (hv:Vis X.env.scope x) (hd:(x == ("__debug__":Str))=false:=by decide) (hcd:(x == ("__classdict__":Str))=false:=by decide):PE X (.Name x pos) (tVar i):=by
 intro pins s σ H Q I h;obtain⟨v,e,h⟩:=h;obtain⟨m,hn,hl⟩:=I.loc;obtain⟨u,r,l⟩:=hl i x v hN e hv;have fin:EP X pins σ Q u s:=⟨v,H,I,r,h⟩;rcases l with ⟨hk,hm⟩ |⟨hk,c,hc,hcell⟩
 ·exact wpAny_Name (wpAny_loadName_local I.ok.kind hk hn hm fin) hd
 ·rcases hk with hk |hk
  ·exact wpAny_Name (wpAny_loadName_cell I.ok.kind hk hc hcell fin) hd
  ·exact wpAny_Name (wpAny_loadName_free I.ok.kind hk hc hcell fin hcd) hd
theorem YD {i j pos}:PE X (.Constant (.int i) j pos) (tC (.int i)):=fun _ _ _ H _ I h=>wpAny_Constant_int ⟨.int i,H,I.tok _,⟨_,rfl⟩,h⟩
theorem Xc {b j pos}:PE X (.Constant (.bool b) j pos) (tC (.bl b)):=fun _ _ _ H _ I h=>Constant_bool ⟨.bl b,H,I,rfl,h⟩
theorem YBL {j pos}:PE X (.Constant .none j pos) (tC .non):=fun _ _ _ H _ I h=>Constant_none ⟨.non,H,I,rfl,h⟩
theorem Zj {x j pos}:PE X (.Constant (.str x) j pos) (tC (.str x)):=fun _ _ _ H _ I h=>Calls.Constant_str ⟨.str x,H,I.tok _,⟨_,rfl⟩,h⟩
def Gl (X:Cx) (x:Str):Prop:=X.env.kindOf x=some .globalImplicit
theorem YC2 {E:Value→Shared→Prop}{pins:List (Addr×Obj)}{s:Shared}{σ:St}{H:Hp}{x:Str}{u:Value}{pos:Pos}{Q:Value→Shared→Prop} (I:Inv X pins σ H s) (hg:Gl X x) (hm:X.mg x=some u) (h:Q u s)
  (hd:(x == ("__debug__":Str))=false:=by decide):wpAny (model X.prog X.w) X.A (eval (.Name x pos) X.env) Q E s:=
 Calls.Name_function_global I.ok.kind hg (Calls.loadGlobal_global (by rw[I.ok.glob];exact I.mod.glob.keeps I.bk) hm h) hd
theorem XE {E:Value→Shared→Prop}{pins:List (Addr×Obj)}{s:Shared}{σ:St}{H:Hp}{x:Str}{u:Value}{pos:Pos}{Q:Value→Shared→Prop} (I:Inv X pins σ H s) (hg:Gl X x) (hm:X.mg x=none) (hv:bootBuiltins x=some u) (h:Q u s)
  (hn:x≠"__name__":=by decide) (hd:(x == ("__debug__":Str))=false:=by decide):wpAny (model X.prog X.w) X.A (eval (.Name x pos) X.env) Q E s:=by
 obtain⟨mb,h1,h2⟩:=I.mod.blt;exact Calls.Name_function_global I.ok.kind hg (Calls.loadGlobal_builtin (by rw[I.ok.glob];exact I.mod.glob.keeps I.bk) hm (by rw[I.ok.blt];exact h1.keeps I.bk) ((h2 x hn).trans hv) h) hd
theorem X9 {x:Str}{v:V}{u:Value}{pos:Pos} (hg:Gl X x) (hm:X.mg x=some u) (r:Yx v u) (hd:(x == ("__debug__":Str))=false:=by decide):PE X (.Name x pos) (tC v):=
 fun _ _ _ H _ I h=>YC2 I hg hm ⟨v,H,I,r,h⟩ hd
theorem Xd {x:Str}{v:V}{u:Value}{pos:Pos} (hg:Gl X x) (hm:X.mg x=none) (hv:bootBuiltins x=some u) (r:Yx v u) (hn:x≠"__name__":=by decide) (hd:(x == ("__debug__":Str))=false:=by decide):PE X (.Name x pos) (tC v):=
 fun _ _ _ H _ I h=>XE I hg hm hv ⟨v,H,I,r,h⟩ hn hd
variable {a b:Expr}{ta tb:TE}{pos:Pos}
def PC (X:Cx) (op:CmpOp) (a b:Expr) (t:TE):Prop:=
 ∀(pins:List (Addr×Obj)) (s:Shared) (σ:St) (H:Hp) (Q:VK),Inv X pins σ H s→t σ H Q→
  wpAny (model X.prog X.w) X.A (eval a X.env) (fun v s₁=>wpAny (model X.prog X.w) X.A (eval b X.env) (fun u s₂=>wpAny (model X.prog X.w) X.A (compareOp op v u) (EP X pins σ Q) X.xe s₂) X.xe s₁) X.xe s
inductive tB_ (Q:Bool→Hp→Prop) (x:V) (H1:Hp):Prop where
 |mk (c:_) (h0_:x=.bl c) (h1_:Q c H1):tB_ Q x H1
def tB (t:TE):TT:=fun σ H Q=>t σ H fun x H1=>tB_ Q x H1
theorem Xn {op:CmpOp}{t:TE} (h:PC X op a b t) (h1:behindInMarks op b=false:=by first |exact nobehind _ (by decide) (by decide) |rfl):PT X (.Compare a [op] [b] pos) (tB t):=by
 intro pins s σ H Q I hw;refine wpAny_isTrue_Compare1 (thn (h pins s σ H _ I hw) fun v s1 h1=>thn h1 fun u s2 h2=>thn h2 fun c s3 ⟨x,H1,I1,r1,q1⟩=>?_) h1;obtain⟨d,rfl,q⟩:=q1;cases r1;exact wpAny_truthy_bool ⟨H1,I1,q⟩
theorem Xo {e:Expr}{t:TE} (h:PE X e t) (he:∀whole,isTrue e X.env whole=(do let v ←whole;standAt e.pos;holding [v] (truthy v)):=by intro _;rfl):PT X e (tB t):=by
 intro pins s σ H Q I hw;refine isTrue_plain (thn (h pins s σ H _ I hw) fun v s1 ⟨x,H1,I1,r1,q1⟩=>?_) (he _);obtain⟨d,rfl,q⟩:=q1;cases r1;exact wpAny_truthy_bool ⟨H1,I1,q⟩
variable {tA tB':TT}{rest:List Expr}
def tAnd (t u:TT):TT:=fun σ H Q=>t σ H fun c H1=>if c=true then u σ H1 Q else Q false H1
def tOr (t u:TT):TT:=fun σ H Q=>t σ H fun c H1=>if c=true then Q true H1 else u σ H1 Q
def tNot (t:TT):TT:=fun σ H Q=>t σ H fun c H1=>Q (!c) H1
theorem YC3 (ha:PT X a tA):PW X (.BoolOp .And [a] pos) tA:=by
 intro wh pins s σ H Q I h;refine isTrue_and (thn (ha pins s σ H Q I h) fun c s1 e=>?_);cases c with
 |true=>exact isTrue_and_nil e
 |false=>exact e
theorem YG0 (ha:PT X a tA):PW X (.BoolOp .Or [a] pos) tA:=by
 intro wh pins s σ H Q I h;refine isTrue_or (thn (ha pins s σ H Q I h) fun c s1 e=>?_);cases c with
 |false=>exact isTrue_or_nil e
 |true=>exact e
theorem YB7 (ha:PT X a tA) (hb:PW X (.BoolOp .And (b :: rest) pos) tB'):PW X (.BoolOp .And (a :: b :: rest) pos) (tAnd tA tB'):=by
 intro wh pins s σ H Q I h;refine isTrue_and (thn (ha pins s σ H _ I h) fun c s1 ⟨H1,I1,q1⟩=>?_);cases c with
 |true=>exact hb wh pins s1 σ H1 Q I1 q1
 |false=>exact⟨H1,I1,q1⟩
theorem YHs (ha:PT X a tA) (hb:PW X (.BoolOp .Or (b :: rest) pos) tB'):PW X (.BoolOp .Or (a :: b :: rest) pos) (tOr tA tB'):=by
 intro wh pins s σ H Q I h;refine isTrue_or (thn (ha pins s σ H _ I h) fun c s1 ⟨H1,I1,q1⟩=>?_);cases c with
 |true=>exact⟨H1,I1,q1⟩
 |false=>exact hb wh pins s1 σ H1 Q I1 q1
theorem XF (ha:PT X a tA):PT X (.UnaryOp .Not a pos) (tNot tA):=by
 intro pins s σ H Q I h;exact isTrue_not (ha pins s σ H (fun c H1=>Q (!c) H1) I h)
def tAndV (ta tb:TE):TE:=fun σ H Q=>ta σ H fun x H1=>∃c,x=.bl c∧if c=true then tb σ H1 Q else Q (.bl false) H1
def tOrV (ta tb:TE):TE:=fun σ H Q=>ta σ H fun x H1=>∃c,x=.bl c∧if c=true then Q (.bl true) H1 else tb σ H1 Q
def tNotV (ta:TE):TE:=fun σ H Q=>ta σ H fun x H1=>∃c,x=.bl c∧Q (.bl (!c)) H1
theorem Xp {op}{t:TE} (h:PE X a t):PE X (.BoolOp op [a] pos) t:=fun pins s σ H Q I hw=>BoolOp_one (h pins s σ H Q I hw)
theorem Jy (ha:PE X a ta) (hb:PE X (.BoolOp .And (b :: rest) pos) tb):PE X (.BoolOp .And (a :: b :: rest) pos) (tAndV ta tb):=by
 intro pins s σ H Q I h;refine BoolOp_and (thn (ha pins s σ H _ I h) fun v s1 ⟨x,H1,I1,r1,q1⟩=>?_);obtain⟨c,rfl,q1⟩:=q1;cases r1;refine wpAny_truthy_bool ?_;cases c with
 |true=>exact hb pins s1 σ H1 Q I1 q1
 |false=>exact⟨.bl false,H1,I1,rfl,q1⟩
theorem pe_or (ha:PE X a ta) (hb:PE X (.BoolOp .Or (b :: rest) pos) tb):PE X (.BoolOp .Or (a :: b :: rest) pos) (tOrV ta tb):=by
 intro pins s σ H Q I h;refine BoolOp_or (thn (ha pins s σ H _ I h) fun v s1 ⟨x,H1,I1,r1,q1⟩=>?_);obtain⟨c,rfl,q1⟩:=q1;cases r1;refine wpAny_truthy_bool ?_;cases c with
 |false=>exact hb pins s1 σ H1 Q I1 q1
 |true=>exact⟨.bl true,H1,I1,rfl,q1⟩
theorem pe_not (ha:PE X a ta):PE X (.UnaryOp .Not a pos) (tNotV ta):=by
 intro pins s σ H Q I h;refine UnaryOp_ (thn (ha pins s σ H _ I h) fun v s1 ⟨x,H1,I1,r1,q1⟩=>?_);obtain⟨c,rfl,q1⟩:=q1;cases r1;exact not_of (wpAny_truthy_bool ⟨.bl (!c),H1,I1,rfl,q1⟩)
def tIf (t:TT) (ta tb:TE):TE:=fun σ H Q=>t σ H fun c H1=>if c=true then ta σ H1 Q else tb σ H1 Q
theorem YJf {c:Expr} (hc:PT X c tA) (ha:PE X a ta) (hb:PE X b tb):PE X (.IfExp c a b pos) (tIf tA ta tb):=by
 intro pins s σ H Q I h;refine wpAny_IfExp (thn (hc pins s σ H _ I h) fun d s1 ⟨H1,I1,q1⟩=>?_);cases d with
 |true=>exact ha pins s1 σ H1 Q I1 q1
 |false=>exact hb pins s1 σ H1 Q I1 q1
end
end L2
namespace L2
open PySem PySem.Spec PyProof.Rows
def SqL (K:W.Frag) (H:Hp) (a:Addr) (xs:List V):Prop:=
 Rd H a (.lst xs)∨
  ∃(o:Obj) (its:Array Value) (n:Nat),K.lookup a=some o∧o.cls=.type "list"∧o.dict=none∧o.data=.seq its n∧its.size≤sizeLine∧Yq xs its.toList
def SqT (K:W.Frag) (H:Hp) (a:Addr) (xs:List V):Prop:=
 Rd H a (.tup xs)∨
  ∃(o:Obj) (its:Array Value) (n:Nat),K.lookup a=some o∧o.cls=.type "tuple"∧o.data=.seq its n∧its.size≤sizeLine∧Yq xs its.toList
def absV:Value→Option V
 |.none=>some .non
 |.bool b=>some (.bl b)
 |.int i _=>some (.int i)
 |.str x _=>some (.str x)
 |.bytes b _=>some (.byt b)
 |.float b _=>some (.flt b)
 |.ref a=>some (.ref a)
 |.type n=>some (.ty n)
 |_=>none
theorem Yx.abs {x:V}{u:Value} (r:Yx x u):absV u=some x:=by
 cases x with
 |non=>cases r;rfl
 |bl _=>cases r;rfl
 |int _=>obtain⟨t,rfl⟩:=r;rfl
 |str _=>obtain⟨t,rfl⟩:=r;rfl
 |byt _=>obtain⟨t,rfl⟩:=r;rfl
 |flt _=>obtain⟨t,rfl⟩:=r;rfl
 |ref _=>cases r;rfl
 |ty _=>cases r;rfl
theorem Yx.inj {x y:V}{u:Value} (r:Yx x u) (q:Yx y u):x=y:=Option.some.inj (r.abs.symm.trans q.abs)
theorem Yq.inj:∀{xs ys:List V}{us:List Value},Yq xs us→Yq ys us→xs=ys
 |_,_,_,.nil,.nil=>rfl
 |_,_,_,.cons r t,.cons r' t'=>by rw[r.inj r',Yq.inj t t']
section
variable {X:Cx}{pins:List (Addr×Obj)}{σ:St}{H:Hp}{s:Shared}{a:Addr}{xs ys:List V}
theorem SqL.of {K:W.Frag} (h:H a=some (.lst xs)):SqL K H a xs:=.inl (.inl h)
theorem SqT.of {K:W.Frag} (h:H a=some (.tup xs)):SqT K H a xs:=.inl (.inl h)
theorem Inv.list (I:Inv X pins σ H s) (h:SqL X.K H a xs):∃its:List Value,Yq xs its∧PlainL s.heap a its.toArray∧xs.length≤sizeLine:=by
 rcases h with h |⟨o,its,n,hk,hc,hd,hs,hz,r⟩
 ·obtain⟨z,its,n,r,e⟩:=h.ok I.hok;exact⟨its,r,⟨_,n,e,rfl,rfl,rfl⟩,z⟩
 ·refine⟨its.toList,r,⟨o,n,I.kIn a o hk,hc,hd,by simpa using hs⟩,?_⟩;have e:=r.length;simp only[YLc]at e;omega
theorem Inv.tuple (I:Inv X pins σ H s) (h:SqT X.K H a xs):∃its:List Value,Yq xs its∧IsTup s.heap a its.toArray∧xs.length≤sizeLine:=by
 rcases h with h |⟨o,its,n,hk,hc,hs,hz,r⟩
 ·obtain⟨z,its,r,p⟩:=h.ok I.hok;exact⟨its,r,p,z⟩
 ·refine⟨its.toList,r,⟨o,I.kIn a o hk,hc,n,by simpa using hs⟩,?_⟩;have e:=r.length;simp only[YLc]at e;omega
theorem Inv.list_inj (I:Inv X pins σ H s) (h:SqL X.K H a xs) (h':SqL X.K H a ys):xs=ys:=by
 obtain⟨its,r,⟨o,n,e,_,_,d⟩,_⟩:=I.list h;obtain⟨its',r',⟨o',n',e',_,_,d'⟩,_⟩:=I.list h';rw[e]at e';cases e';rw[d]at d'
 injection d' with d1 _
 have:its=its':=by simpa using congrArg Array.toList d1
 subst this;exact r.inj r'
theorem Inv.tuple_inj (I:Inv X pins σ H s) (h:SqT X.K H a xs) (h':SqT X.K H a ys):xs=ys:=by
 obtain⟨its,r,⟨o,e,_,n,d⟩,_⟩:=I.tuple h;obtain⟨its',r',⟨o',e',_,n',d'⟩,_⟩:=I.tuple h';rw[e]at e';cases e';rw[d]at d'
 injection d' with d1 _
 have:its=its':=by simpa using congrArg Array.toList d1
 subst this;exact r.inj r'
end
abbrev Cx.wish (X:Cx) (E:Value→Shared→Prop):Cx:={ X with xe:=E }
abbrev Cx.nox (X:Cx):Cx:=X.wish fun _ _=>False
theorem Cx.Ok.wish {X:Cx} (ok:X.Ok) (E:Value→Shared→Prop):(X.wish E).Ok:=
 ⟨ok.mod,ok.kind,ok.glob,ok.blt,ok.above,ok.inj,ok.has,ok.cab,ok.hd,ok.frames,ok.stk,ok.exf,ok.bs,ok.bsz,ok.noex,ok.exfs,ok.funs,ok.frf⟩
theorem Cx.Ok.unwish {X:Cx}{E:Value→Shared→Prop} (ok:(X.wish E).Ok):X.Ok:=
 ⟨ok.mod,ok.kind,ok.glob,ok.blt,ok.above,ok.inj,ok.has,ok.cab,ok.hd,ok.frames,ok.stk,ok.exf,ok.bs,ok.bsz,ok.noex,ok.exfs,ok.funs,ok.frf⟩
section
variable {X:Cx}{pins:List (Addr×Obj)}{σ:St}{H:Hp}{s:Shared}{E:Value→Shared→Prop}
theorem Inv.wish (I:Inv X pins σ H s) (E:Value→Shared→Prop):Inv (X.wish E) pins σ H s:=⟨I.ok.wish E,I.os,I.bare,I.base,I.loc,I.cell,I.free,I.freeC,I.pin,I.hok,I.len⟩
theorem Inv.unwish (I:Inv (X.wish E) pins σ H s):Inv X pins σ H s:=⟨I.ok.unwish,I.os,I.bare,I.base,I.loc,I.cell,I.free,I.freeC,I.pin,I.hok,I.len⟩
theorem SP.unwish {D:YAY}{f:Flow}{s':Shared} (h:SP (X.wish E) pins D f s'):SP X pins D f s':=by
 cases f with
 |next=>obtain⟨σ',H',I,q⟩:=h;exact⟨σ',H',I.unwish,q⟩
 |brk=>obtain⟨σ',H',I,q⟩:=h;exact⟨σ',H',I.unwish,q⟩
 |cont=>obtain⟨σ',H',I,q⟩:=h;exact⟨σ',H',I.unwish,q⟩
 |ret u=>obtain⟨v,σ',H',I,r,q⟩:=h;exact⟨v,σ',H',I.unwish,r,q⟩
theorem PSs.nox {st:List Stmt}{t:TS} (h:PSs X.nox st t):PSs X st t:=fun pins s σ H D I hw=>
 wpAny_mono (h pins s σ H D (I.wish _) hw) (fun _ _ q=>q.unwish) fun _ _ z=>False.elim z
end
section
variable {X:Cx}{st:Stmt}{rest:List Stmt}{t u:TS}{e:Expr}{te:TE}{pos:Pos}
def tNext:TS:=fun D σ H=>D.nx σ H
def YD2 (t u:TS):TS:=fun D σ H=>t { D with nx:=u D } σ H
theorem Yc:PSs X [] tNext:=fun _ _ σ H _ I h=>wpAny_execs_nil ⟨σ,H,I,h⟩
theorem YF (h1:PS X st t) (h2:PSs X rest u):PSs X (st :: rest) (YD2 t u):=by
 intro pins s σ H D I h;refine wpAny_execs_cons (thn (h1 pins s σ H { D with nx:=u D } I h) fun f s1 q=>?_);cases f with
 |next=>
  obtain⟨σ',H',I',q⟩:=q;exact h2 pins s1 σ' H' D I' q
 |ret v=>exact q
 |brk=>exact q
 |cont=>exact q
theorem YG (h1:PS X st t):PSs X [st] t:=by
 intro pins s σ H D I h;refine wpAny_execs_cons (thn (h1 pins s σ H D I h) fun f s1 q=>?_);cases f with
 |next=>exact wpAny_execs_nil q
 |ret v=>exact q
 |brk=>exact q
 |cont=>exact q
theorem Inv.quiet {pins:List (Addr×Obj)}{σ:St}{H:Hp}{s:Shared} (I:Inv X pins σ H s):interactive X.env=false:=by simp[interactive,I.ok.kind]
def tDrop (te:TE):TS:=fun D σ H=>te σ H fun _ H1=>D.nx σ H1
theorem Yk (he:PE X e te) (hs:swapsWith e none pos.line X.env=pure false:=by rfl):PS X (.Expr e pos) (tDrop te):=by
 intro pins s σ H D I h;exact wpAny_Expr_any (thn (he pins s σ H _ I h) fun v s1 ⟨x,H1,I1,r1,q1⟩=>⟨σ,H1,I1,q1⟩) I.quiet hs
def tRet (te:TE):TS:=fun D σ H=>te σ H D.rt
theorem YX (he:PE X e te):PS X (.Return (some e) pos) (tRet te):=by
 intro pins s σ H D I h;exact wpAny_Return_some (thn (he pins s σ H _ I h) fun v s1 ⟨x,H1,I1,r1,q1⟩=>⟨x,σ,H1,I1,r1,q1⟩)
def tRetN:TS:=fun D _ H=>D.rt .non H
theorem YHt:PS X (.Return none pos) tRetN:=fun _ _ σ H _ I h=>wpAny_Return_none ⟨.non,σ,H,I,rfl,h⟩
def tIfS (c:TT) (t u:TS):TS:=fun D σ H=>c σ H fun b H1=>if b=true then t D σ H1 else u D σ H1
theorem Y3 {c:Expr}{a b:List Stmt}{tc:TT} (hc:PT X c tc) (ha:PSs X a t) (hb:PSs X b u):PS X (.If c a b pos) (tIfS tc t u):=by
 intro pins s σ H D I h;refine wpAny_If (thn (hc pins s σ H _ I h) fun d s1 ⟨H1,I1,q1⟩=>?_);cases d with
 |true=>exact ha pins s1 σ H1 D I1 q1
 |false=>exact hb pins s1 σ H1 D I1 q1
end
abbrev TG:=V→St→Hp→(St→Hp→Prop)→Prop
abbrev TGs:=List V→St→Hp→(St→Hp→Prop)→Prop
def PG (X:Cx) (target:Expr) (t:TG):Prop:=
 ∀(pins:List (Addr×Obj)) (s:Shared) (σ:St) (H:Hp) (v:V) (u:Value) (Q:St→Hp→Prop),Inv X pins σ H s→Yx v u→t v σ H Q→
  wpAny (model X.prog X.w) X.A (assign target X.env u) (fun _ s'=>∃σ' H',Inv X pins σ' H' s'∧Q σ' H') X.xe s
def PGs (X:Cx) (ts:List Expr) (t:TGs):Prop:=
 ∀(pins:List (Addr×Obj)) (s:Shared) (σ:St) (H:Hp) (vs:List V) (us:List Value) (Q:St→Hp→Prop),Inv X pins σ H s→Yq vs us→t vs σ H Q→
  wpAny (model X.prog X.w) X.A (assignInOrder ((assignEach ts X.env).map (·.2)) us) (fun _ s'=>∃σ' H',Inv X pins σ' H' s'∧Q σ' H') X.xe s
section
variable {X:Cx}{pos:Pos}
def ZH (i:Nat):TG:=fun v σ H Q=>Q (σ.set i (some v)) H
theorem Yd {i:Nat}{x:Str} (hN:X.N.Nodup) (hi:X.N[i]?=some x) (hx:Loc X.env.scope x) (hf:X.fn x=true∨X.env.scope.names.lookup x=some .local:=by first |exact .inl rfl |exact .inr rfl |assumption):PG X (.Name x pos) (ZH i):=by
 intro pins s σ H v u Q I r h;exact wpAny_assign_Name (YDE I hN hi hx r (fun s' I'=>⟨_,H,I',h⟩) hf)
inductive gNil_ (vs:List V) (σ:St) (H:Hp) (Q:St→Hp→Prop):Prop where
 |mk (h0_:vs=[]) (h1_:Q σ H):gNil_ vs σ H Q
def gNil:TGs:=fun vs σ H Q=>gNil_ vs σ H Q
inductive YJg (t:TG) (u:TGs) (vs:List V) (σ:St) (H:Hp) (Q:St→Hp→Prop):Prop where
 |mk (v:_) (r:_) (h0_:vs=v :: r) (h1_:t v σ H fun σ' H'=>u r σ' H' Q):YJg t u vs σ H Q
def gCons (t:TG) (u:TGs):TGs:=fun vs σ H Q=>YJg t u vs σ H Q
theorem YE4:PGs X [] gNil:=by
 intro pins s σ H vs us Q I r h;obtain⟨e,h⟩:=h;subst e;cases r;exact assignInOrder_nil ⟨σ,H,I,h⟩
theorem XG {e:Expr}{es:List Expr}{t:TG}{u:TGs} (h1:PG X e t) (h2:PGs X es u)
  (hs:(assignEach (e :: es) X.env).map (·.2)=assign e X.env :: (assignEach es X.env).map (·.2):=by rfl):PGs X (e :: es) (gCons t u):=by
 intro pins s σ H vs us Q I r h;obtain⟨v,vr,e1,h⟩:=h;subst e1;cases r with
 |cons r rr=>
  rw[hs];refine assignInOrder_cons (thn (h1 pins s σ H _ _ _ I r h) fun _ s1 ⟨σ1,H1,I1,q1⟩=>?_);exact h2 pins s1 σ1 H1 _ _ Q I1 rr q1
inductive gTup_ (K:W.Frag) (n:Nat) (t:TGs) (v:V) (σ:St) (H:Hp) (Q:St→Hp→Prop):Prop where
 |mk (a:_) (xs:_) (h0_:v=.ref a) (h1_:SqT K H a xs) (h2_:xs.length=n) (h3_:t xs σ H Q):gTup_ K n t v σ H Q
def gTup (K:W.Frag) (n:Nat) (t:TGs):TG:=fun v σ H Q=>gTup_ K n t v σ H Q
theorem pg_tup {es:List Expr}{k:Nat}{t:TGs}{n:Nat} (hc:X.calm=true) (h:PGs X es t)
  (hn:(assignEach es X.env).length=n:=by rfl) (hst:(assignEach es X.env).findIdx? (·.1)=none:=by rfl):PG X (.Tuple es k pos) (gTup X.K n t):=by
 intro pins s σ H v u Q I r hw;obtain⟨a,xs,e1,hq,hl,hw⟩:=hw;subst e1;cases r;obtain⟨its,rv,ht,hz⟩:=I.tuple hq;refine assign_Tuple_tuple (I.ok.hd hc) ht (by simp[hn,←hl,rv.length]) hst fun h' hx=>?_
 have I1:Inv X pins σ H { s with heap:=h' }:=I.kept (t':=s.toks) fun b o e=>hx b o (YLY (Heap.lt_size e)) e
 exact h pins _ σ H xs _ Q I1 (by simpa using rv) hw
def tAsg (te:TE) (g:TG):TS:=fun D σ H=>te σ H fun x H1=>g x σ H1 D.nx
theorem YK {i:Nat}{x:Str}{e:Expr}{te:TE}{pos':Pos} (hN:X.N.Nodup) (hi:X.N[i]?=some x) (hx:Loc X.env.scope x) (he:PE X e te) (hs:swapsWith e (some (.Name x pos')) pos.line X.env=pure false:=by rfl) (hf:X.fn x=true∨X.env.scope.names.lookup x=some .local:=by first |exact .inl rfl |exact .inr rfl |assumption):
  PS X (.Assign [.Name x pos'] e pos) (tAsg te (ZH i)):=by
 intro pins s σ H D I h;refine wpAny_Assign_Name (thn (he pins s σ H _ I h) fun v s1 ⟨y,H1,I1,r1,q1⟩=>?_) hs;exact YDE I1 hN hi hx r1 (fun s2 I2=>⟨_,H1,I2,q1⟩) hf
end
section
variable {X:Cx}{pos:Pos}
def tWhile (c:TT) (tb:TS):TS:=fun D σ H=>∃W:Nat→St→Hp→Prop,(∃m,W m σ H)∧∀m σ H,W m σ H→
 c σ H fun b H1=>if b=true then ∃N:St→Hp→Prop,(∀σ' H',N σ' H'→∃m',m' < m∧W m' σ' H')∧tb { D with nx:=N,ct:=N,bk:=D.nx } σ H1 else D.nx σ H1
theorem Xz {c:Expr}{body:List Stmt}{tc:TT}{tb:TS} (hp:PassesOwn (model X.prog X.w) X.A X.env X.xe) (hc:PT X c tc) (hb:PSs X body tb):PS X (.While c body [] pos) (tWhile tc tb):=by
 intro pins s σ H D I h;obtain⟨W,⟨m0,w0⟩,turn⟩:=h;refine wpAny_While (codeAny_whileLoop (fun n s'=>∃σ' H',Inv X pins σ' H' s'∧W n σ' H') ?_ m0 ⟨σ,H,I,w0⟩);rintro n s1 ⟨σ1,H1,I1,w1⟩;refine wpAny_passesOwn hp (thn (hc pins s1 σ1 H1 _ I1 (turn n σ1 H1 w1)) fun b s2 ⟨H2,I2,q2⟩=>?_);cases b with
 |true=>
  obtain⟨N,hN,q2⟩:=q2;rw[if_pos rfl];refine wpAny_passesOwn hp (thn (hb pins s2 σ1 H2 _ I2 q2) fun f s3 q3=>?_);cases f with
  |next=>
   obtain⟨σ3,H3,I3,n3⟩:=q3;obtain⟨m',hm,w3⟩:=hN σ3 H3 n3;exact⟨m',hm,σ3,H3,I3,w3⟩
  |cont=>
   obtain⟨σ3,H3,I3,n3⟩:=q3;obtain⟨m',hm,w3⟩:=hN σ3 H3 n3;exact⟨m',hm,σ3,H3,I3,w3⟩
  |brk=>exact q3
  |ret v=>exact q3
 |false=>
  rw[if_neg YLT];exact wpAny_execs_nil ⟨σ1,H2,I2,q2⟩
end
structure It where
 go:Nat→Hp→Prop
 yld:Nat→Hp→V→Hp→Prop
 stop:Nat→Hp→Prop
def YA9 (X:Cx) (pins:List (Addr×Obj)) (H:Hp) (b:Addr):Prop:=
 H b=none∧b≠X.env.locals∧b∉X.fs∧(b∈X.ex∨X.s₀.heap.objs.size≤b)∧(∀x c,X.env.cells.lookup x=some c→c≠b)∧∀p∈X.pn ++ pins,p.1≠b
theorem Inv.fpOk {X:Cx}{pins:List (Addr×Obj)}{σ:St}{H H':Hp}{s:Shared}{b:Addr} (I:Inv X pins σ H s) (hb:s.heap.objs.size≤b) (hn:H' b=none):YA9 X pins H' b:=by
 refine⟨hn,Nat.ne_of_gt (YLX I.lt hb),I.nofs hb,.inr (YLb I.sz hb),fun x c e z=>?_,fun p hp z=>?_⟩
 ·obtain⟨v,q⟩:=I.cell x c e;exact absurd (YLX q.lt (by rw[z];exact hb)) (Nat.lt_irrefl _)
 ·exact absurd (YLX (Heap.lt_size (I.pin p hp).1) (by rw[z];exact hb)) (Nat.lt_irrefl _)
structure YDF (P:Program) (w:World) (K:W.Frag) (tg:Expr) (J:It) (fp:List Addr) (it:Addr) (tn:Nat→Heap→Prop):Prop where
 mem:it∈fp
 obj:∀i h,tn i h→∀b∈fp,∃o,h.get? b=some o∧∀v,o.data≠.cell v
 keep:∀i h h',tn i h→(∀b∈fp,∀o,h.get? b=some o→h'.get? b=some o)→tn i h'
 item:∀(X:Cx),X.prog=P→X.w=w→X.K=K→X.calm=true→∀(i:Nat) (pins:List (Addr×Obj)) (s:Shared) (σ:St) (H:Hp) (E:Value→Shared→Prop),Inv X pins σ H s→(∀b∈fp,YA9 X pins H b)→tn i s.heap→J.go i H→
  wpAny (model P w) X.A (pyNext (.ref it)) (fun r s1=>∃u,r=some u∧
   wpAny (model P w) X.A (letOwnedTupleGo tg (.ref it) u) (fun _ s2=>∃x H',Inv X pins σ H' s2∧Yx x u∧J.yld i H x H'∧tn (i + 1) s2.heap∧∀b∈fp,H' b=none) E s1) E s
 done:∀(X:Cx),X.prog=P→X.w=w→X.K=K→X.calm=true→∀(i:Nat) (pins:List (Addr×Obj)) (s:Shared) (σ:St) (H:Hp) (E:Value→Shared→Prop),Inv X pins σ H s→(∀b∈fp,YA9 X pins H b)→tn i s.heap→J.stop i H→
  wpAny (model P w) X.A (pyNext (.ref it)) (fun r s1=>r=none∧Inv X pins σ H s1) E s
 self:∀(A:Around) (i:Nat) (s:Shared) (Q:Value→Shared→Prop) (E:Value→Shared→Prop),tn i s.heap→Q (.ref it) s→wpAny (model P w) A (pyIter (.ref it)) Q E s
abbrev TI:=St→Hp→(It→Hp→Prop)→Prop
def PIE (X:Cx) (pins:List (Addr×Obj)) (σ:St) (tg:Expr) (R:It→Hp→Prop) (itv:Value) (s2:Shared):Prop:=
 ∃(it:Addr) (fp:List Addr) (tn:Nat→Heap→Prop) (J:It) (H':Hp),itv=.ref it∧Inv X pins σ H' s2∧YDF X.prog X.w X.K tg J fp it tn∧tn 0 s2.heap∧(∀b∈fp,YA9 X pins H' b)∧R J H'
def PI (X:Cx) (tg iter:Expr) (wi:TI):Prop:=
 ∀(pins:List (Addr×Obj)) (s:Shared) (σ:St) (H:Hp) (R:It→Hp→Prop),Inv X pins σ H s→wi σ H R→
  wpAny (model X.prog X.w) X.A (eval iter X.env) (fun v s1=>wpAny (model X.prog X.w) X.A (pyIter v) (PIE X pins σ tg R) X.xe s1) X.xe s
theorem YEO {M:Model}{A:Around}{E:Value→Shared→Prop}{s:Shared}{tg:Expr}{it:Addr}{u:Value}{o:Obj}{n:String}{vs:Array Value}{Q:Unit→Shared→Prop} (ho:s.heap.get? it=some o) (hc:o.cls=.type n) (hd:o.data=.fields vs)
  (hn:["enumerate","zip","dict_itemiterator","dict_reverseitemiterator","odict_iterator","itertools.zip_longest","itertools.pairwise"].contains n=false) (hQ:Q () s):wpAny M A (letOwnedTupleGo tg (.ref it) u) Q E s:=by
 unfold letOwnedTupleGo;cases tg <;> first
  |exact wpAny_pure hQ
  |(cases u <;> first
    |exact wpAny_pure hQ
    |(refine wpAny_bind (wpAny_load ho ?_)
      rw[hc,hd];show wpAny M A (if (["enumerate","zip","dict_itemiterator","dict_reverseitemiterator","odict_iterator","itertools.zip_longest","itertools.pairwise"].contains n && vs[0]? == some (rawInt _))=true then _ else _) Q E s;rw[if_neg (by intro h;rw[hn,Bool.false_and]at h;cases h)];exact wpAny_pure hQ))
def Itl (K:W.Frag) (a:Addr):It:=
 ⟨fun i H=>∃xs x,SqL K H a xs∧xs[i]?=some x,fun i H x H'=>H'=H∧∀xs,SqL K H a xs→xs[i]?=some x,fun i H=>∃xs,SqL K H a xs∧xs.length≤i⟩
def Itt (K:W.Frag) (a:Addr):It:=
 ⟨fun i H=>∃xs x,SqT K H a xs∧xs[i]?=some x,fun i H x H'=>H'=H∧∀xs,SqT K H a xs→xs[i]?=some x,fun i H=>∃xs,SqT K H a xs∧xs.length≤i⟩
def Itr (lo:Int) (n:Nat):It:=⟨fun i _=>i < n,fun i H x H'=>H'=H∧x=.int (lo + i),fun i _=>n≤i⟩
theorem YI0 {P:Program}{w:World}{K:W.Frag}{tg:Expr} (a it:Addr):YDF P w K tg (Itl K a) [it] it (fun i h=>h.IsListIter it a i) where
 mem:=by simp
 obj:=fun i h st b hb=>by
  have e:b=it:=by simpa using hb
  subst e;obtain⟨o,e,c,d⟩:=st;exact⟨o,e,fun v z=>by rw[d]at z;cases z⟩
 keep:=fun i h h' st k=>st.at fun o e=>k it (by simp) o e
 item:=by
  intro X hP hw hK hc i pins s σ H E I hf st hg;subst hP hw hK;obtain⟨xs,x,hq,hx⟩:=hg;obtain⟨its,rv,p,hz⟩:=I.list hq;obtain⟨u,hu,ru⟩:=rv.get hx;obtain⟨f0,f1,f2,f3,f4,f5⟩:=hf it (by simp);refine wpAny_pyNext_list_item st p.isList (x:=u) (by simpa using hu) fun h' st' sb=>?_
  have I1:Inv X pins σ H { s with heap:=h' }:=I.turned (t':=s.toks) (fun b o hb e=>(sb.2 b hb).trans e) f0 f1 f3 f4 f5;obtain⟨o,e,c,d⟩:=id st';exact⟨u,rfl,YEO (s:={ s with heap:=h' }) e c d (by decide) ⟨x,H,I1,ru,⟨rfl,fun ys hy=>by rw[I.list_inj hy hq];exact hx⟩,st',fun b hb=>(hf b hb).1⟩⟩
 done:=by
  intro X hP hw hK hc i pins s σ H E I hf st hg;subst hP hw hK;obtain⟨xs,hq,hx⟩:=hg;obtain⟨its,rv,p,hz⟩:=I.list hq;obtain⟨f0,f1,f2,f3,f4,f5⟩:=hf it (by simp);have hl:=rv.length;exact wpAny_pyNext_list_end (I.ok.hd hc) st p.isList (by simp;omega) fun h' eb=>⟨rfl,I.turned (t':=s.toks) (fun b o hb e=>eb b o hb e) f0 f1 f3 f4 f5⟩
 self:=fun _ _ _ _ _ st h=>wpAny_pyIter_listiter st h
theorem YG1 {P:Program}{w:World}{K:W.Frag}{tg:Expr} (a it:Addr):YDF P w K tg (Itt K a) [it] it (fun i h=>h.IsTupleIter it a i) where
 mem:=by simp
 obj:=fun i h st b hb=>by
  have e:b=it:=by simpa using hb
  subst e;obtain⟨o,e,c,d⟩:=st;exact⟨o,e,fun v z=>by rw[d]at z;cases z⟩
 keep:=fun i h h' st k=>st.at fun o e=>k it (by simp) o e
 item:=by
  intro X hP hw hK hc i pins s σ H E I hf st hg;subst hP hw hK;obtain⟨xs,x,hq,hx⟩:=hg;obtain⟨its,rv,p,hz⟩:=I.tuple hq;obtain⟨u,hu,ru⟩:=rv.get hx;obtain⟨f0,f1,f2,f3,f4,f5⟩:=hf it (by simp);refine wpAny_pyNext_tuple_item st (show s.heap.IsTuple a its.toArray from p) (x:=u) (by simpa using hu) fun h' st' sb=>?_
  have I1:Inv X pins σ H { s with heap:=h' }:=I.turned (t':=s.toks) (fun b o hb e=>(sb.2 b hb).trans e) f0 f1 f3 f4 f5;obtain⟨o,e,c,d⟩:=id st';exact⟨u,rfl,YEO (s:={ s with heap:=h' }) e c d (by decide) ⟨x,H,I1,ru,⟨rfl,fun ys hy=>by rw[I.tuple_inj hy hq];exact hx⟩,st',fun b hb=>(hf b hb).1⟩⟩
 done:=by
  intro X hP hw hK hc i pins s σ H E I hf st hg;subst hP hw hK;obtain⟨xs,hq,hx⟩:=hg;obtain⟨its,rv,p,hz⟩:=I.tuple hq;obtain⟨f0,f1,f2,f3,f4,f5⟩:=hf it (by simp);have hl:=rv.length;exact wpAny_pyNext_tuple_end (I.ok.hd hc) st (show s.heap.IsTuple a its.toArray from p) (by simp;omega) fun h' eb=>⟨rfl,I.turned (t':=s.toks) (fun b o hb e=>eb b o hb e) f0 f1 f3 f4 f5⟩
 self:=fun _ _ _ _ _ st h=>wpAny_pyIter_tupleiter st h
theorem YG2 {P:Program}{w:World}{K:W.Frag}{tg:Expr} (it:Addr) (lo:Int) (n:Nat):YDF P w K tg (Itr lo n) [it] it (fun i h=>IsRangeIter h it (lo + (i:Nat) * 1) ((n:Int) - (i:Nat)) 1) where
 mem:=by simp
 obj:=fun i h st b hb=>by
  have e:b=it:=by simpa using hb
  subst e;exact⟨_,st,fun v z=>by
   have z':Data.fields _=Data.cell v:=z;cases z'⟩
 keep:=fun i h h' st k=>k it (by simp) _ st
 item:=by
  intro X hP hw hK hc i pins s σ H E I hf st hg;subst hP hw hK;obtain⟨f0,f1,f2,f3,f4,f5⟩:=hf it (by simp);have W:=Walks.range (prog:=X.prog) (w:=X.w) (I.ok.hd hc) it lo 1 n;refine W.item i s _ _ hg st fun v h' tk hv st' kk=>?_
  obtain⟨t,rfl⟩:=hv;have I1:Inv X pins σ H { s with heap:=h',toks:=tk }:=I.turned (fun b o hb e=>kk b o (by simpa using hb) e) f0 f1 f3 f4 f5;refine⟨_,rfl,YEO (s:={ s with heap:=h',toks:=tk }) (n:="range_iterator") st' rfl rfl (by decide) ⟨.int (lo + i),H,I1,⟨t,?_⟩,⟨rfl,rfl⟩,st',fun b hb=>(hf b hb).1⟩⟩;rw[Int.mul_one]
 done:=by
  intro X hP hw hK hc i pins s σ H E I hf st hg;subst hP hw hK;obtain⟨f0,f1,f2,f3,f4,f5⟩:=hf it (by simp);exact wpAny_pyNext_range_end (I.ok.hd hc) st (by have:n≤i:=hg;omega) fun h' eb=>⟨rfl,I.turned (t':=s.toks) (fun b o hb e=>eb b o hb e) f0 f1 f3 f4 f5⟩
 self:=fun _ _ _ _ _ st h=>wpAny_pyIter_rangeiter st h
end L2
namespace L2
open PySem PySem.Spec PyProof.Rows
section
variable {X:Cx}{tg:Expr}
inductive YJh (K:W.Frag) (R:It→Hp→Prop) (x:V) (H1:Hp):Prop where
 |mk (a:_) (h0_:x=.ref a) (h1_:(∃xs,SqL K H1 a xs)) (h2_:R (Itl K a) H1):YJh K R x H1
def iList (K:W.Frag) (tl:TE):TI:=fun σ H R=>tl σ H fun x H1=>YJh K R x H1
inductive iTup_ (K:W.Frag) (R:It→Hp→Prop) (x:V) (H1:Hp):Prop where
 |mk (a:_) (h0_:x=.ref a) (h1_:(∃xs,SqT K H1 a xs)) (h2_:R (Itt K a) H1):iTup_ K R x H1
def iTup (K:W.Frag) (tl:TE):TI:=fun σ H R=>tl σ H fun x H1=>iTup_ K R x H1
theorem pi_list {l:Expr}{tl:TE} (hl:PE X l tl):PI X tg l (iList X.K tl):=by
 intro pins s σ H R I h;refine thn (hl pins s σ H _ I h) fun v s1 ⟨x,H1,I1,r1,q1⟩=>?_
 obtain⟨a,e,⟨xs,hq⟩,q⟩:=q1;subst e;cases r1;obtain⟨its,rv,p,hz⟩:=I1.list hq;refine wpAny_pyIter_list p.isList ?_;refine⟨s1.heap.objs.size,[s1.heap.objs.size],_,_,H1,rfl,I1.kept (t':=s1.toks) fun b o e=>Heap.get?_push_of_some _ e,YI0 a _,⟨_,Heap.get?_push_size _ rfl,rfl,rfl⟩,fun b hb=>?_,q⟩;have e:b=s1.heap.objs.size:=by simpa using hb
 subst e;exact I1.fpOk (YLG _) (I1.hok.fresh (YLG _))
theorem pi_tup {l:Expr}{tl:TE} (hl:PE X l tl):PI X tg l (iTup X.K tl):=by
 intro pins s σ H R I h;refine thn (hl pins s σ H _ I h) fun v s1 ⟨x,H1,I1,r1,q1⟩=>?_
 obtain⟨a,e,⟨xs,hq⟩,q⟩:=q1;subst e;cases r1;obtain⟨its,rv,p,hz⟩:=I1.tuple hq;refine wpAny_pyIter_tuple (show s1.heap.IsTuple a its.toArray from p) ?_;refine⟨s1.heap.objs.size,[s1.heap.objs.size],_,_,H1,rfl,I1.kept (t':=s1.toks) fun b o e=>Heap.get?_push_of_some _ e,YG1 a _,⟨_,Heap.get?_push_size _ rfl,rfl,rfl⟩,fun b hb=>?_,q⟩;have e:b=s1.heap.objs.size:=by simpa using hb
 subst e;exact I1.fpOk (YLG _) (I1.hok.fresh (YLG _))
theorem YJi {pins:List (Addr×Obj)}{σ:St}{H:Hp}{s:Shared}{R:It→Hp→Prop}{E:Value→Shared→Prop}{lo hi:Int}{t u v:Tok}{tk:Nat} (I:Inv X pins σ H s) (h1:-(2 ^ 62)≤lo) (h2:lo < 2 ^ 62) (h3:-(2 ^ 62)≤hi) (h4:hi < 2 ^ 62)
  (q:R (Itr lo (hi - lo).toNat) H):wpAny (model X.prog X.w) X.A (pyIter (.ref s.heap.objs.size)) (PIE X pins σ tg R) E { s with heap:=s.heap.push { cls:=.type "range",data:=.fields #[.int lo t,.int hi u,.int 1 v] },toks:=tk }:=by
 refine wpAny_pyIter_range (IsRange.new ..) (small_one h1 h2 h3 h4) ?_;have I1:Inv X pins σ H { s with heap:=s.heap.push { cls:=.type "range",data:=.fields #[.int lo t,.int hi u,.int 1 v] },toks:=tk }:=I.kept fun b o e=>Heap.get?_push_of_some _ e
 refine⟨(s.heap.push { cls:=.type "range",data:=.fields #[.int lo t,.int hi u,.int 1 v] }).objs.size,[(s.heap.push { cls:=.type "range",data:=.fields #[.int lo t,.int hi u,.int 1 v] }).objs.size],_,_,H,rfl,
  I1.kept (t':=tk) fun b o e=>Heap.get?_push_of_some _ e,YG2 _ lo (hi - lo).toNat,?_,fun b hb=>?_,q⟩
 ·have e1:lo + ((0:Nat):Int) * 1=lo:=by simp
  have e2:(((hi - lo).toNat:Nat):Int) - ((0:Nat):Int)=Builtin.Range.rangeSize lo hi 1:=by rw[rangeSize_one];split <;> omega
  show IsRangeIter _ _ (lo + ((0:Nat):Int) * 1) ((((hi - lo).toNat:Nat):Int) - ((0:Nat):Int)) 1;rw[e1,e2];exact Heap.get?_push_size _ rfl
 ·have e:b=(s.heap.push { cls:=.type "range",data:=.fields #[.int lo t,.int hi u,.int 1 v] }).objs.size:=by simpa using hb
  subst e;exact I1.fpOk (YLG _) (I1.hok.fresh (YLG _))
inductive YJj (R:It→Hp→Prop) (vs:List V) (H1:Hp):Prop where
 |mk (j:Int) (h0_:vs=[.int j]) (h1_:-(2 ^ 62)≤j) (h2_:j < 2 ^ 62) (h3_:R (Itr 0 j.toNat) H1):YJj R vs H1
def iRng1 (ta:TA):TI:=fun σ H R=>ta σ H fun vs H1=>YJj R vs H1
theorem Zo {a:Expr}{ta:TA}{p pos:Pos} (hg:Gl X "range") (hm:X.mg "range"=none) (ha:PA X [a] ta) (hs:starEach [a] X.env=[(false,eval a X.env)]:=by rfl):PI X tg (.Call (.Name "range" p) [a] [] pos) (iRng1 ta):=by
 intro pins s σ H R I h;refine Call_ (XE I hg hm boot_range (PyProof.Rows.callWith_type1 (thn (ha pos pins s σ H _ I h) fun us s1 ⟨vs,H1,I1,r1,q1⟩=>?_) hs rfl));obtain⟨j,e,q1,q2,q⟩:=q1;subst e;cases r1 with
 |cons r rr=>
  cases rr;obtain⟨t,rfl⟩:=r;exact call_range_1 (YJi I1 (by omega) (by omega) q1 q2 (by simpa using q))
def tFor (wi:TI) (g:TG) (tb:TS):TS:=fun D σ H=>wi σ H fun J H1=>∃W:Nat→Nat→St→Hp→Prop,(∃m,W 0 m σ H1)∧∀i m σ H,W i m σ H→
 (J.stop i H∧D.nx σ H)∨(J.go i H∧∃N:St→Hp→Prop,(∀σ' H',N σ' H'→∃m',m' < m∧W (i + 1) m' σ' H')∧∀x H',J.yld i H x H'→g x σ H' fun σ2 H2=>tb { D with nx:=N,ct:=N,bk:=D.nx } σ2 H2)
def YB8 (fp:List Addr) (h:Heap):List (Addr×Obj):=fp.filterMap fun b=>(h.get? b).map fun o=>(b,o)
theorem JJ {fp:List Addr}{h:Heap}{b:Addr}{o:Obj} (hb:b∈fp) (e:h.get? b=some o):(b,o)∈YB8 fp h:=List.mem_filterMap.mpr ⟨b,hb,by rw[e];rfl⟩
theorem YI1 {fp:List Addr}{h:Heap}{p:Addr×Obj} (hp:p∈YB8 fp h):p.1∈fp∧h.get? p.1=some p.2:=by
 obtain⟨b,hb,e⟩:=List.mem_filterMap.mp hp;cases q:h.get? b with
 |none=>rw[q]at e;cases e
 |some o=>
  rw[q]at e;have e':(b,o)=p:=Option.some.inj e;subst e';exact⟨hb,q⟩
theorem Inv.pinned {pins:List (Addr×Obj)}{σ:St}{H:Hp}{s:Shared}{fp:List Addr} (I:Inv X pins σ H s) (hf:∀b∈fp,YA9 X pins H b) (ho:∀b∈fp,∃o,s.heap.get? b=some o∧∀v,o.data≠.cell v):Inv X (pins ++ YB8 fp s.heap) σ H s:=
 I.pins_of fun p hp=>(List.mem_append.mp hp).elim (fun z=>I.pin p (YLO _ z)) fun z=>by
  obtain⟨hb,e⟩:=YI1 z;obtain⟨f0,f1,f2,_⟩:=hf p.1 hb;obtain⟨o,e',d⟩:=ho p.1 hb;rw[e]at e';cases e';exact⟨e,f0,f1,f2,d⟩
theorem Inv.unpinned {pins pl:List (Addr×Obj)}{σ:St}{H:Hp}{s:Shared} (I:Inv X (pins ++ pl) σ H s):Inv X pins σ H s:=I.pins_of fun p hp=>I.pin p (YLO _ (YLU _ hp))
theorem ZQ {iter:Expr}{body:List Stmt}{wi:TI}{g:TG}{tb:TS}{pos:Pos} (hp:PassesOwn (model X.prog X.w) X.A X.env X.xe) (hc:X.calm=true) (hi:PI X tg iter wi) (hg:PG X tg g) (hb:PSs X body tb)
  (hs:∀x,foldedSetIterable iter X.env x=pure x:=by intro _;rfl):PS X (.For tg iter body [] pos) (tFor wi g tb):=by
 intro pins s σ H D I h;refine wpAny_For (thn (hi pins s σ H _ I h) fun v s1 h1=>thn h1 fun itv s2 h2=>?_) hs;obtain⟨it,fp,tn,J,H2,e,I2,T,st2,f2,W,⟨m0,w0⟩,turn⟩:=h2;subst e;have stat:∀{H':Hp},(∀b∈fp,H' b=none)→∀b∈fp,YA9 X pins H' b:=fun hn b hb=>⟨hn b hb,(f2 b hb).2⟩
 refine codeAny_forLoop_any (fun n s'=>∃i σ' H',Inv X pins σ' H' s'∧tn i s'.heap∧(∀b∈fp,H' b=none)∧W i n σ' H') ?_ m0 ⟨0,σ,H2,I2,st2,fun b hb=>(f2 b hb).1,w0⟩;rintro n s3 ⟨i,σ3,H3,I3,st3,fr3,w3⟩;rcases turn i n σ3 H3 w3 with ⟨stop,qn⟩ |⟨go,N,hN,step⟩
 ·refine wpAny_passesOwn hp (thn (T.done X rfl rfl rfl hc i pins s3 σ3 H3 X.xe I3 (stat fr3) st3 stop) fun r s4 ⟨hr,I4⟩=>?_);subst hr;exact wpAny_execs_nil ⟨σ3,H3,I4,qn⟩
 ·refine wpAny_passesOwn hp (thn (T.item X rfl rfl rfl hc i pins s3 σ3 H3 X.xe I3 (stat fr3) st3 go) fun r s4 ⟨u,hr,h4⟩=>?_);subst hr;refine wpAny_passesOwn hp (thn h4 fun _ s5 ⟨x,H5,I5,r5,y5,st5,fr5⟩=>?_);have I5':=I5.pinned (stat fr5) (T.obj _ _ st5);refine wpAny_passesOwn hp (thn (hg _ s5 σ3 H5 x u _ I5' r5 (step x H5 y5)) fun _ s6 ⟨σ6,H6,I6,q6⟩=>?_);refine wpAny_passesOwn hp (thn (hb _ s6 σ6 H6 _ I6 q6) fun f s7 q7=>?_);have again:∀{σ7:St}{H7:Hp},Inv X (pins ++ YB8 fp s5.heap) σ7 H7 s7→N σ7 H7→∃m,m < n∧∃i σ' H',Inv X pins σ' H' s7∧tn i s7.heap∧(∀b∈fp,H' b=none)∧W i m σ' H':=fun{σ7 H7} I7 n7=>by
   obtain⟨m',hm,w7⟩:=hN σ7 H7 n7;refine⟨m',hm,i + 1,σ7,H7,I7.unpinned,T.keep _ _ _ st5 fun b hb o e=>(I7.pin (b,o) (YLO _ (YLO _ (JJ hb e)))).1,fun b hb=>?_,w7⟩;obtain⟨o,e,d⟩:=T.obj _ _ st5 b hb;exact(I7.pin (b,o) (YLO _ (YLO _ (JJ hb e)))).2.1
  cases f with
  |next=>obtain⟨σ7,H7,I7,n7⟩:=q7;exact again I7 n7
  |cont=>obtain⟨σ7,H7,I7,n7⟩:=q7;exact again I7 n7
  |brk=>obtain⟨σ7,H7,I7,q7⟩:=q7;exact⟨σ7,H7,I7.unpinned,q7⟩
  |ret v=>obtain⟨x7,σ7,H7,I7,r7,q7⟩:=q7;exact⟨x7,σ7,H7,I7.unpinned,r7,q7⟩
end
theorem XH {K:W.Frag}{a:Addr}{xs:List V}{g:TG}{tb:TS}{D:YAY}{σ:St}{H:Hp} (Pv:Nat→St→Hp→Prop) (h0:Pv 0 σ H) (hl:∀i σ H,i≤xs.length→Pv i σ H→SqL K H a xs)
  (hs:∀i x σ H,xs[i]?=some x→Pv i σ H→g x σ H fun σ2 H2=>tb { D with nx:=Pv (i + 1),ct:=Pv (i + 1),bk:=D.nx } σ2 H2) (hd:∀σ H,Pv xs.length σ H→D.nx σ H):
  ∃W:Nat→Nat→St→Hp→Prop,(∃m,W 0 m σ H)∧∀i m σ H,W i m σ H→
   ((Itl K a).stop i H∧D.nx σ H)∨((Itl K a).go i H∧∃N:St→Hp→Prop,(∀σ' H',N σ' H'→∃m',m' < m∧W (i + 1) m' σ' H')∧∀x H',(Itl K a).yld i H x H'→g x σ H' fun σ2 H2=>tb { D with nx:=N,ct:=N,bk:=D.nx } σ2 H2):=by
 refine⟨fun i m σ H=>m=xs.length - i∧i≤xs.length∧Pv i σ H,⟨xs.length,by simp,YLN _,h0⟩,?_⟩;rintro i m σ H ⟨rfl,hi,p⟩;have q:=hl i σ H hi p
 by_cases hlt:i < xs.length
 ·refine .inr ⟨⟨xs,xs[i],q,by simp[hlt]⟩,Pv (i + 1),fun σ' H' p'=>⟨xs.length - (i + 1),by omega,rfl,hlt,p'⟩,fun x H' y=>?_⟩;obtain⟨e,y⟩:=y;subst e;exact hs i x σ _ (y xs q) p
 ·have e:i=xs.length:=by omega
  subst e;exact .inl ⟨⟨xs,q,YLG _⟩,hd σ H p⟩
theorem YE5 {K:W.Frag}{a:Addr}{xs:List V}{g:TG}{tb:TS}{D:YAY}{σ:St}{H:Hp} (Pv:Nat→St→Hp→Prop) (h0:Pv 0 σ H) (hl:∀i σ H,i≤xs.length→Pv i σ H→SqT K H a xs)
  (hs:∀i x σ H,xs[i]?=some x→Pv i σ H→g x σ H fun σ2 H2=>tb { D with nx:=Pv (i + 1),ct:=Pv (i + 1),bk:=D.nx } σ2 H2) (hd:∀σ H,Pv xs.length σ H→D.nx σ H):
  ∃W:Nat→Nat→St→Hp→Prop,(∃m,W 0 m σ H)∧∀i m σ H,W i m σ H→
   ((Itt K a).stop i H∧D.nx σ H)∨((Itt K a).go i H∧∃N:St→Hp→Prop,(∀σ' H',N σ' H'→∃m',m' < m∧W (i + 1) m' σ' H')∧∀x H',(Itt K a).yld i H x H'→g x σ H' fun σ2 H2=>tb { D with nx:=N,ct:=N,bk:=D.nx } σ2 H2):=by
 refine⟨fun i m σ H=>m=xs.length - i∧i≤xs.length∧Pv i σ H,⟨xs.length,by simp,YLN _,h0⟩,?_⟩;rintro i m σ H ⟨rfl,hi,p⟩;have q:=hl i σ H hi p
 by_cases hlt:i < xs.length
 ·refine .inr ⟨⟨xs,xs[i],q,by simp[hlt]⟩,Pv (i + 1),fun σ' H' p'=>⟨xs.length - (i + 1),by omega,rfl,hlt,p'⟩,fun x H' y=>?_⟩;obtain⟨e,y⟩:=y;subst e;exact hs i x σ _ (y xs q) p
 ·have e:i=xs.length:=by omega
  subst e;exact .inl ⟨⟨xs,q,YLG _⟩,hd σ H p⟩
theorem JA {lo:Int}{n:Nat}{g:TG}{tb:TS}{D:YAY}{σ:St}{H:Hp} (Pv:Nat→St→Hp→Prop) (h0:Pv 0 σ H)
  (hs:∀i σ H,i < n→Pv i σ H→g (.int (lo + i)) σ H fun σ2 H2=>tb { D with nx:=Pv (i + 1),ct:=Pv (i + 1),bk:=D.nx } σ2 H2) (hd:∀σ H,Pv n σ H→D.nx σ H):
  ∃W:Nat→Nat→St→Hp→Prop,(∃m,W 0 m σ H)∧∀i m σ H,W i m σ H→
   ((Itr lo n).stop i H∧D.nx σ H)∨((Itr lo n).go i H∧∃N:St→Hp→Prop,(∀σ' H',N σ' H'→∃m',m' < m∧W (i + 1) m' σ' H')∧∀x H',(Itr lo n).yld i H x H'→g x σ H' fun σ2 H2=>tb { D with nx:=N,ct:=N,bk:=D.nx } σ2 H2):=by
 refine⟨fun i m σ H=>m=n - i∧i≤n∧Pv i σ H,⟨n,by simp,YLN _,h0⟩,?_⟩;rintro i m σ H ⟨rfl,hi,p⟩
 by_cases hlt:i < n
 ·refine .inr ⟨hlt,Pv (i + 1),fun σ' H' p'=>⟨n - (i + 1),by omega,rfl,hlt,p'⟩,fun x H' y=>?_⟩;obtain⟨e,y⟩:=y;subst e y;exact hs i σ _ hlt p
 ·have e:i=n:=by omega
  subst e;exact .inl ⟨YLG _,hd σ H p⟩
end L2
namespace L2
open PySem PySem.Spec PyProof.Rows
abbrev R2:=V→V→Hp→VK→Prop
def OpR (X:Cx) (f:Value→Value→Sem Value) (r:R2):Prop:=
 ∀(pins:List (Addr×Obj)) (s:Shared) (σ:St) (H:Hp) (x y:V) (v u:Value) (Q:VK),Inv X pins σ H s→Yx x v→Yx y u→r x y H Q→
  wpAny (model X.prog X.w) X.A (f v u) (EP X pins σ Q) X.xe s
def UnR (X:Cx) (f:Value→Sem Value) (r:V→Hp→VK→Prop):Prop:=
 ∀(pins:List (Addr×Obj)) (s:Shared) (σ:St) (H:Hp) (x:V) (v:Value) (Q:VK),Inv X pins σ H s→Yx x v→r x H Q→
  wpAny (model X.prog X.w) X.A (f v) (EP X pins σ Q) X.xe s
def Jb (X:Cx) (f:Value) (r:List V→Hp→VK→Prop):Prop:=
 ∀(pins:List (Addr×Obj)) (s:Shared) (σ:St) (H:Hp) (xs:List V) (us:List Value) (Q:VK),Inv X pins σ H s→Yq xs us→r xs H Q→
  wpAny (model X.prog X.w) X.A (call f us) (EP X pins σ Q) X.xe s
def TruR (X:Cx) (r:V→Hp→(Bool→Hp→Prop)→Prop):Prop:=
 ∀(pins:List (Addr×Obj)) (s:Shared) (σ:St) (H:Hp) (x:V) (v:Value) (Q:Bool→Hp→Prop),Inv X pins σ H s→Yx x v→r x H Q→
  wpAny (model X.prog X.w) X.A (truthy v) (TP X pins σ Q) X.xe s
def tOp (r:R2) (ta tb:TE):TE:=fun σ H Q=>ta σ H fun x H1=>tb σ H1 fun y H2=>r x y H2 Q
def tUn (r:V→Hp→VK→Prop) (ta:TE):TE:=fun σ H Q=>ta σ H fun x H1=>r x H1 Q
inductive rI_ (C:Int→Int→Prop) (g:Int→Int→V) (x:V) (y:V) (H:Hp) (Q:VK):Prop where
 |mk (i:_) (j:_) (h0_:x=.int i) (h1_:y=.int j) (h2_:C i j) (h3_:Q (g i j) H):rI_ C g x y H Q
def rI (C:Int→Int→Prop) (g:Int→Int→V):R2:=fun x y H Q=>rI_ C g x y H Q
inductive rI0_ (g:Int→Int→V) (x:V) (y:V) (H:Hp) (Q:VK):Prop where
 |mk (i:_) (j:_) (h0_:x=.int i) (h1_:y=.int j) (h2_:Q (g i j) H):rI0_ g x y H Q
def rI0 (g:Int→Int→V):R2:=fun x y H Q=>rI0_ g x y H Q
inductive rU_ (g:Int→V) (x:V) (H:Hp) (Q:VK):Prop where
 |mk (i:_) (h0_:x=.int i) (h1_:Q (g i) H):rU_ g x H Q
def rU (g:Int→V):V→Hp→VK→Prop:=fun x H Q=>rU_ g x H Q
section
variable {X:Cx}{a b c:Expr}{ta tb tc:TE}{pos:Pos}
theorem binT (ha:PE X a ta) (hb:PE X b tb) {pins:List (Addr×Obj)}{s:Shared}{σ:St}{H:Hp}{R:V→V→Hp→Prop} (I:Inv X pins σ H s)
  (h:ta σ H fun x H1=>tb σ H1 fun y H2=>R x y H2) {Q:Value→Shared→Prop}{f:Value→Value→Sem Value}
  (hf:∀v u s2 x y H2,Inv X pins σ H2 s2→Yx x v→Yx y u→R x y H2→wpAny (model X.prog X.w) X.A (f v u) Q X.xe s2):
  wpAny (model X.prog X.w) X.A (eval a X.env) (fun v s₁=>wpAny (model X.prog X.w) X.A (eval b X.env) (fun u s₂=>wpAny (model X.prog X.w) X.A (f v u) Q X.xe s₂) X.xe s₁) X.xe s:=by
 refine thn (ha pins s σ H _ I h) fun v s1 ⟨x,H1,I1,r1,q1⟩=>?_
 refine thn (hb pins s1 σ H1 _ I1 q1) fun u s2 ⟨y,H2,I2,r2,q2⟩=>?_
 exact hf v u s2 x y H2 I2 r1 r2 q2
theorem YN {op:Operator}{r:R2} (ho:OpR X (binaryOp op) r) (ha:PE X a ta) (hb:PE X b tb):PE X (.BinOp a op b pos) (tOp r ta tb):=by
 intro pins s σ H Q I h;exact wpAny_BinOp (binT ha hb I h fun v u s2 x y H2 I2 rx ry q=>ho pins s2 σ H2 x y v u Q I2 rx ry q)
theorem pe_un {op:UnaryOp}{r:V→Hp→VK→Prop} (ho:UnR X (unaryOp op) r) (ha:PE X a ta):PE X (.UnaryOp op a pos) (tUn r ta):=by
 intro pins s σ H Q I h;exact UnaryOp_ (thn (ha pins s σ H _ I h) fun v s1 ⟨x,H1,I1,r1,q1⟩=>ho pins s1 σ H1 x v Q I1 r1 q1)
theorem opI {f:Value→Value→Sem Value}{C:Int→Int→Prop}{g:Int→Int→Int}
  (rule:∀(i j:Int) (t u:Tok) (s:Shared) (Q:Value→Shared→Prop) (E:Value→Shared→Prop),C i j→Q (.int (g i j) s.toks) { s with toks:=s.toks + 1 }→wpAny (model X.prog X.w) X.A (f (.int i t) (.int j u)) Q E s):
  OpR X f (rI C fun i j=>.int (g i j)):=by
 intro pins s σ H x y v u Q I rx ry h;obtain⟨i,j,rfl,rfl,hc,q⟩:=h;obtain⟨t,rfl⟩:=rx;obtain⟨t',rfl⟩:=ry;exact rule i j t t' s _ _ hc ⟨.int (g i j),H,I.tok _,⟨_,rfl⟩,q⟩
theorem opI0 {f:Value→Value→Sem Value}{g:Int→Int→Int}
  (rule:∀(i j:Int) (t u:Tok) (s:Shared) (Q:Value→Shared→Prop) (E:Value→Shared→Prop),Q (.int (g i j) s.toks) { s with toks:=s.toks + 1 }→wpAny (model X.prog X.w) X.A (f (.int i t) (.int j u)) Q E s):
  OpR X f (rI0 fun i j=>.int (g i j)):=by
 intro pins s σ H x y v u Q I rx ry h;obtain⟨i,j,rfl,rfl,q⟩:=h;obtain⟨t,rfl⟩:=rx;obtain⟨t',rfl⟩:=ry;exact rule i j t t' s _ _ ⟨.int (g i j),H,I.tok _,⟨_,rfl⟩,q⟩
theorem opB0 {f:Value→Value→Sem Value}{g:Int→Int→Bool}
  (rule:∀(i j:Int) (t u:Tok) (s:Shared) (Q:Value→Shared→Prop) (E:Value→Shared→Prop),Q (.bool (g i j)) s→wpAny (model X.prog X.w) X.A (f (.int i t) (.int j u)) Q E s):
  OpR X f (rI0 fun i j=>.bl (g i j)):=by
 intro pins s σ H x y v u Q I rx ry h;obtain⟨i,j,rfl,rfl,q⟩:=h;obtain⟨t,rfl⟩:=rx;obtain⟨t',rfl⟩:=ry;exact rule i j t t' s _ _ ⟨.bl (g i j),H,I,rfl,q⟩
def CDiv (i j:Int):Prop:=0 < j∧j < 1073741824
def CPow (i j:Int):Prop:=0≤j∧j≤1000000∧i.natAbs < 2 ^ 64
def CMul (i j:Int):Prop:=(-(2 ^ 64) < i∧i < 2 ^ 64)∨(-(2 ^ 64) < j∧j < 2 ^ 64)
theorem CMul.ok {i j:Int} (h:CMul i j):IntMulOk i j:=by
 rcases h with ⟨h1,h2⟩ |⟨h1,h2⟩
 ·exact .of_left (intBits_le_64 h1 h2)
 ·exact .of_right (intBits_le_64 h1 h2)
theorem Yp:OpR X (binaryOp .Add) (rI0 fun i j=>.int (i + j)):=opI0 fun _ _ _ _ _ _ _ q=>add_int q
theorem YE6:OpR X (binaryOp .Sub) (rI0 fun i j=>.int (i - j)):=opI0 fun _ _ _ _ _ _ _ q=>sub_int q
theorem YAZ:OpR X (binaryOp .Mult) (rI CMul fun i j=>.int (i * j)):=opI fun _ _ _ _ _ _ _ hc q=>mul_int q hc.ok
theorem Zm:OpR X (binaryOp .FloorDiv) (rI CDiv fun i j=>.int (i / j)):=opI fun i j _ _ _ _ _ hc q=>by
 have h1:(0:Int) < j:=hc.1;have h2:j < 1073741824:=hc.2;exact floordiv_int (by omega) (by rw[Int.fdiv_eq_ediv_of_nonneg i (by omega)];exact q) (.inl (PyProof.noPylong_small (by omega)))
theorem ZK:OpR X (binaryOp .Mod) (rI (fun _ j=>0 < j) fun i j=>.int (i % j)):=opI fun i j _ _ _ _ _ hc q=>by
 have h1:(0:Int) < j:=hc;exact mod_int' (by omega) (by rw[Int.fmod_eq_emod_of_nonneg i (by omega)];exact q)
theorem YJk:OpR X (binaryOp .Pow) (rI CPow fun i j=>.int (i ^ j.toNat)):=opI fun _ _ _ _ _ _ _ hc q=>pow_int_small hc.1 hc.2.1 hc.2.2 q
theorem unI {f:Value→Sem Value}{g:Int→Int}
  (rule:∀(i:Int) (t:Tok) (s:Shared) (Q:Value→Shared→Prop) (E:Value→Shared→Prop),Q (.int (g i) s.toks) { s with toks:=s.toks + 1 }→wpAny (model X.prog X.w) X.A (f (.int i t)) Q E s):
  UnR X f (rU fun i=>.int (g i)):=by
 intro pins s σ H x v Q I rx h;obtain⟨i,rfl,q⟩:=h;obtain⟨t,rfl⟩:=rx;exact rule i t s _ _ ⟨.int (g i),H,I.tok _,⟨_,rfl⟩,q⟩
theorem YG3:UnR X (unaryOp .USub) (rU fun i=>.int (-i)):=unI fun _ _ _ _ _ q=>neg_int q
end
def scal:V→V→Bool
 |.non,.non=>true |.non,.int _=>true |.int _,.non=>true |.non,.bl _=>true |.bl _,.non=>true |.non,.str _=>true |.str _,.non=>true
 |.int _,.int _=>true |.bl _,.bl _=>true |.str _,.str _=>true |.byt _,.byt _=>true
 |.int _,.str _=>true |.str _,.int _=>true |.bl _,.str _=>true |.str _,.bl _=>true
 |_,_=>false
inductive rEq_ (x:V) (y:V) (H:Hp) (Q:VK):Prop where
 |mk (h0_:scal x y=true) (h1_:Q (.bl (decide (x=y))) H):rEq_ x y H Q
def rEq:R2:=fun x y H Q=>rEq_ x y H Q
inductive rNe_ (x:V) (y:V) (H:Hp) (Q:VK):Prop where
 |mk (h0_:scal x y=true) (h1_:Q (.bl (!decide (x=y))) H):rNe_ x y H Q
def rNe:R2:=fun x y H Q=>rNe_ x y H Q
theorem YHu {i j:Int}:decide (V.int i=V.int j)=(i == j):=by
 rw[YLe];simp
theorem YJl {i j:Bool}:decide (V.bl i=V.bl j)=(i == j):=by
 rw[YLe];simp
theorem YHv {i j:Str}:decide (V.str i=V.str j)=(i == j):=by
 rw[YLe];simp
theorem YHw {i j:Array UInt8}:decide (V.byt i=V.byt j)=(i.toList == j.toList):=by
 rw[YLe];cases i;cases j;simp
section
variable {X:Cx}{a b c:Expr}{ta tb tc:TE}{pos:Pos}
theorem Y5 {pins:List (Addr×Obj)}{σ:St}{H:Hp}{s:Shared}{Q:VK}{k k':Bool} (I:Inv X pins σ H s) (q:Q (.bl k) H) (e:k=k'):EP X pins σ Q (.bool k') s:=by
 subst e;exact⟨.bl k,H,I,rfl,q⟩
theorem Jq:OpR X (compareOp .Eq) rEq:=by
 intro pins s σ H x y v u Q I rx ry h;obtain⟨hs,q⟩:=h;cases x with
 |non=>
  cases rx;cases y with
  |non=>cases ry;exact PySem.EqNone.eq_none_none (Y5 I q (by simp))
  |bl j=>cases ry;exact PySem.EqNone.eq_none_bool (Y5 I q (by simp))
  |int j=>obtain⟨t',rfl⟩:=ry;exact PySem.EqNone.eq_none_int (Y5 I q (by simp))
  |str j=>obtain⟨t',rfl⟩:=ry;exact PySem.EqNone.eq_none_str (Y5 I q (by simp))
  |_=>exact absurd (show false=true from hs) YLT
 |bl i=>
  cases rx;cases y with
  |non=>cases ry;exact PySem.EqNone.eq_bool_none (Y5 I q (by simp))
  |bl j=>cases ry;exact eq_bool (Y5 I q YJl)
  |str j=>obtain⟨t',rfl⟩:=ry;exact PySem.EqMixed.eq_bool_str (Y5 I q (by simp))
  |_=>exact absurd (show false=true from hs) YLT
 |int i=>
  obtain⟨t,rfl⟩:=rx;cases y with
  |non=>cases ry;exact PySem.EqNone.eq_int_none (Y5 I q (by simp))
  |int j=>obtain⟨t',rfl⟩:=ry;exact eq_int (Y5 I q YHu)
  |str j=>obtain⟨t',rfl⟩:=ry;exact PySem.EqMixed.eq_int_str (Y5 I q (by simp))
  |_=>exact absurd (show false=true from hs) YLT
 |str i=>
  obtain⟨t,rfl⟩:=rx;cases y with
  |non=>cases ry;exact PySem.EqNone.eq_str_none (Y5 I q (by simp))
  |bl j=>cases ry;exact PySem.EqMixed.eq_str_bool (Y5 I q (by simp))
  |int j=>obtain⟨t',rfl⟩:=ry;exact PySem.EqMixed.eq_str_int (Y5 I q (by simp))
  |str j=>obtain⟨t',rfl⟩:=ry;exact eq_str (Y5 I q YHv)
  |_=>exact absurd (show false=true from hs) YLT
 |byt i=>
  obtain⟨t,rfl⟩:=rx;cases y with
  |byt j=>obtain⟨t',rfl⟩:=ry;exact PySem.W.eq_bytes (Y5 I q YHw)
  |_=>exact absurd (show false=true from hs) YLT
 |_=>cases y <;> exact absurd (show false=true from hs) YLT
theorem YCa:OpR X (compareOp .NotEq) rNe:=by
 intro pins s σ H x y v u Q I rx ry h;obtain⟨hs,q⟩:=h;cases x with
 |non=>
  cases rx;cases y with
  |non=>cases ry;exact PySem.EqNone.ne_none_none (Y5 I q (by simp))
  |bl j=>cases ry;exact PySem.EqNone.ne_none_bool (Y5 I q (by simp))
  |int j=>obtain⟨t',rfl⟩:=ry;exact PySem.EqNone.ne_none_int (Y5 I q (by simp))
  |str j=>obtain⟨t',rfl⟩:=ry;exact PySem.EqNone.ne_none_str (Y5 I q (by simp))
  |_=>exact absurd (show false=true from hs) YLT
 |bl i=>
  cases rx;cases y with
  |non=>cases ry;exact PySem.EqNone.ne_bool_none (Y5 I q (by simp))
  |bl j=>cases ry;exact ne_bool (Y5 I q (congrArg not YJl))
  |str j=>obtain⟨t',rfl⟩:=ry;exact PySem.EqMixed.ne_bool_str (Y5 I q (by simp))
  |_=>exact absurd (show false=true from hs) YLT
 |int i=>
  obtain⟨t,rfl⟩:=rx;cases y with
  |non=>cases ry;exact PySem.EqNone.ne_int_none (Y5 I q (by simp))
  |int j=>obtain⟨t',rfl⟩:=ry;exact ne_int (Y5 I q (congrArg not YHu))
  |str j=>obtain⟨t',rfl⟩:=ry;exact PySem.EqMixed.ne_int_str (Y5 I q (by simp))
  |_=>exact absurd (show false=true from hs) YLT
 |str i=>
  obtain⟨t,rfl⟩:=rx;cases y with
  |non=>cases ry;exact PySem.EqNone.ne_str_none (Y5 I q (by simp))
  |bl j=>cases ry;exact PySem.EqMixed.ne_str_bool (Y5 I q (by simp))
  |int j=>obtain⟨t',rfl⟩:=ry;exact PySem.EqMixed.ne_str_int (Y5 I q (by simp))
  |str j=>obtain⟨t',rfl⟩:=ry;exact ne_str (Y5 I q (congrArg not YHv))
  |_=>exact absurd (show false=true from hs) YLT
 |byt i=>
  obtain⟨t,rfl⟩:=rx;cases y with
  |byt j=>obtain⟨t',rfl⟩:=ry;exact PySem.W.ne_bytes (Y5 I q (congrArg not YHw))
  |_=>exact absurd (show false=true from hs) YLT
 |_=>cases y <;> exact absurd (show false=true from hs) YLT
theorem YBg:OpR X (compareOp .Lt) (rI0 fun i j=>.bl (decide (i < j))):=opB0 fun _ _ _ _ _ _ _ q=>lt_int q
theorem YAa:OpR X (compareOp .LtE) (rI0 fun i j=>.bl (decide (i≤j))):=opB0 fun _ _ _ _ _ _ _ q=>le_int q
theorem op_ge:OpR X (compareOp .GtE) (rI0 fun i j=>.bl (decide (j≤i))):=opB0 fun _ _ _ _ _ _ _ q=>ge_int q
theorem op_isN:OpR X (compareOp .Is) (fun x y H Q=>y=.non∧Q (.bl (decide (x=.non))) H):=by
 intro pins s σ H x y v u Q I rx ry h;obtain⟨rfl,q⟩:=h;cases ry;refine is_none_gen (Y5 I q ?_);cases x <;> first
  |(cases rx;rfl)
  |(obtain⟨t,rfl⟩:=rx;rfl)
theorem op_notN:OpR X (compareOp .IsNot) (fun x y H Q=>y=.non∧Q (.bl (!decide (x=.non))) H):=by
 intro pins s σ H x y v u Q I rx ry h;obtain⟨rfl,q⟩:=h;cases ry;refine isnot_none_gen (Y5 I q ?_);cases x <;> first
  |(cases rx;rfl)
  |(obtain⟨t,rfl⟩:=rx;rfl)
theorem Yf (b:Expr) {op:CmpOp} (h:op≠.In:=by decide) (h2:op≠.NotIn:=by decide):behindInMarks op b=false:=by
 have e1:(op == CmpOp.In)=false:=by cases op <;> first |rfl |exact absurd rfl h
 have e2:(op == CmpOp.NotIn)=false:=by cases op <;> first |rfl |exact absurd rfl h2
 cases b <;> simp[behindInMarks,e1,e2]
theorem JH {op:CmpOp}{r:R2} (ho:OpR X (compareOp op) r) (ha:PE X a ta) (hb:PE X b tb) (hm:behindInMarks op b=false):PE X (.Compare a [op] [b] pos) (tOp r ta tb):=by
 intro pins s σ H Q I h;exact wpAny_Compare1 (binT ha hb I h fun v u s2 x y H2 I2 rx ry q=>ho pins s2 σ H2 x y v u Q I2 rx ry q) hm
def tTest (t:TE):TT:=fun σ H Q=>t σ H fun x H'=>∃k,x=.bl k∧Q k H'
theorem Ye {op:CmpOp}{r:R2} (ho:OpR X (compareOp op) r) (ha:PE X a ta) (hb:PE X b tb) (hm:behindInMarks op b=false):PT X (.Compare a [op] [b] pos) (tTest (tOp r ta tb)):=by
 intro pins s σ H Q I h;refine wpAny_isTrue_Compare1 (thn (ha pins s σ H _ I h) fun v s1 ⟨x,H1,I1,r1,q1⟩=>thn (hb pins s1 σ H1 _ I1 q1) fun u s2 ⟨y,H2,I2,r2,q2⟩=>
  thn (ho pins s2 σ H2 x y v u _ I2 r1 r2 q2) fun c s3 ⟨z,H3,I3,r3,k,e,q3⟩=>?_) hm
 subst e;cases r3;exact wpAny_truthy_bool ⟨H3,I3,q3⟩
def YJm (r r':R2) (ta tb tc:TE):TE:=fun σ H Q=>ta σ H fun x H1=>tb σ H1 fun y H2=>r x y H2 fun z H3=>∃k,z=.bl k∧
 (if k=true then tc σ H3 fun w' H4=>r' y w' H4 Q else Q (.bl false) H3)
theorem YBh {op op':CmpOp}{r r':R2} (ho:OpR X (compareOp op) r) (ho':OpR X (compareOp op') r') (ha:PE X a ta) (hb:PE X b tb) (hc:PE X c tc)
  (hm:lastMarks [op,op'] [b,c]=false:=by with_unfolding_all rfl):PE X (.Compare a [op,op'] [b,c] pos) (YJm r r' ta tb tc):=by
 intro pins s σ H Q I h;refine Compare_chain (thn (ha pins s σ H _ I h) fun v s1 ⟨x,H1,I1,r1,q1⟩=>chain_link (thn (hb pins s1 σ H1 _ I1 q1) fun u s2 ⟨y,H2,I2,r2,q2⟩=>
  thn (ho pins s2 σ H2 x y v u _ I2 r1 r2 q2) fun d s3 ⟨z,H3,I3,r3,k,e,q3⟩=>?_)) hm
 subst e;cases r3;refine wpAny_truthy_bool ?_;cases k with
 |false=>exact ite_ff ⟨.bl false,H3,I3,rfl,q3⟩
 |true=>exact ite_tt (chain_last (thn (hc pins s3 σ H3 _ I3 q3) fun w' s4 ⟨z',H4,I4,r4,q4⟩=>ho' pins s4 σ H4 y z' u w' Q I4 r2 r4 q4))
theorem YJn {op op':CmpOp}{r r':R2} (ho:OpR X (compareOp op) r) (ho':OpR X (compareOp op') r') (ha:PE X a ta) (hb:PE X b tb) (hc:PE X c tc)
  (hm:lastMarks [op,op'] [b,c]=false:=by with_unfolding_all rfl):PT X (.Compare a [op,op'] [b,c] pos) (tTest (YJm r r' ta tb tc)):=by
 intro pins s σ H Q I h;refine isTrue_chain (thn (ha pins s σ H _ I h) fun v s1 ⟨x,H1,I1,r1,q1⟩=>test_link (thn (hb pins s1 σ H1 _ I1 q1) fun u s2 ⟨y,H2,I2,r2,q2⟩=>
  thn (ho pins s2 σ H2 x y v u _ I2 r1 r2 q2) fun d s3 ⟨z,H3,I3,r3,k,e,q3⟩=>?_)) hm
 subst e;cases r3;refine wpAny_truthy_bool ?_;cases k with
 |false=>
  obtain⟨k',e',q'⟩:=q3;cases e';exact ite_ff ⟨H3,I3,q'⟩
 |true=>
  refine ite_tt (test_last (thn (hc pins s3 σ H3 _ I3 q3) fun w' s4 ⟨z',H4,I4,r4,q4⟩=>thn (ho' pins s4 σ H4 y z' u w' _ I4 r2 r4 q4) fun d' s5 ⟨z2,H5,I5,r5,k2,e2,q5⟩=>?_));subst e2;cases r5;exact wpAny_truthy_bool ⟨H5,I5,q5⟩
def TruV (K:W.Frag) (x:V) (H:Hp) (k:Bool):Prop:=
 match x with
 |.non=>k=false
 |.bl b=>k=b
 |.int i=>k=(i != 0)
 |.str y=>y.length≤sizeLine∧k=((y.length:Int) != 0)
 |.byt y=>y.size≤sizeLine∧k=((y.size:Int) != 0)
 |.ref p=>(∃xs,SqL K H p xs∧k=!xs.isEmpty)∨(∃xs,SqT K H p xs∧k=!xs.isEmpty)∨∃kvs,H p=some (.dK kvs)∧k=!kvs.isEmpty
 |_=>False
theorem YG4 {κ:Type}{kvs:List (κ×V)}{vs:List (κ×Value)} (r:KV kvs vs):(!vs.isEmpty)=!kvs.isEmpty:=by
 cases r <;> rfl
theorem YDG {xs:List V}{its:List Value} (r:Yq xs its):(!its.toArray.isEmpty)=!xs.isEmpty:=by
 cases r <;> simp
theorem YAA:(sizeLine:Nat) < 2 ^ 63:=by rw[sizeLine_eq];decide
theorem tru_ok:TruR X (fun x H Q=>∃k,TruV X.K x H k∧Q k H):=by
 intro pins s σ H x v Q I rx h;obtain⟨k,e,q⟩:=h;have hl:=YAA;have hs:sizeLine=16777216:=sizeLine_eq;cases x with
 |non=>
  cases rx;have e':k=false:=e;subst e';exact truthy_none ⟨H,I,q⟩
 |bl b=>
  cases rx;have e':k=b:=e;subst e';exact wpAny_truthy_bool ⟨H,I,q⟩
 |int i=>
  obtain⟨t,rfl⟩:=rx;have e':k=(i != 0):=e;subst e';exact PySem.P.truthy_int ⟨H,I,q⟩
 |str y=>
  obtain⟨t,rfl⟩:=rx;obtain⟨hy,e'⟩:y.length≤sizeLine∧k=((y.length:Int) != 0):=e;subst e';exact PySem.P.truthy_str (by omega) ⟨H,I.tok _,q⟩
 |byt y=>
  obtain⟨t,rfl⟩:=rx;obtain⟨hy,e'⟩:y.size≤sizeLine∧k=((y.size:Int) != 0):=e;subst e';exact PySem.W.truthy_bytes (by omega) ⟨H,I.tok _,q⟩
 |ref p=>
  cases rx;have e':(∃xs,SqL X.K H p xs∧k=!xs.isEmpty)∨(∃xs,SqT X.K H p xs∧k=!xs.isEmpty)∨∃kvs,H p=some (.dK kvs)∧k=!kvs.isEmpty:=e;rcases e' with ⟨xs,hx,e'⟩ |⟨xs,hx,e'⟩ |⟨kvs,hx,e'⟩
  ·subst e';obtain⟨its,r,pl,hz⟩:=I.list hx;have hlen:=r.length;exact wpAny_truthy_list pl.isList (by simp only[YLL];omega) ⟨H,I.tok _,by rw[YDG r];exact q⟩
  ·subst e';obtain⟨its,r,pl,hz⟩:=I.tuple hx;have hlen:=r.length;exact truthy_tuple pl (by simp only[YLL];omega) ⟨H,I.tok _,by rw[YDG r];exact q⟩
  ·subst e';obtain⟨hz,hS,vs,r,m⟩:kvs.length≤sizeLine∧(p == sysModules)=false∧∃vs,KV kvs vs∧s.heap.DictOf (Yn X.prog X.w) p vs:=I.hok p _ hx;have hlen:kvs.length=vs.length:=Paired.length r;exact wpAny_truthy_dict hS m (by omega) ⟨H,I.tok _,by rw[YG4 r];exact q⟩
 |_=>exact(show False from e).elim
theorem YJo (ha:PE X a ta) (he:∀whole,isTrue a X.env whole=(do let v ←whole;standAt a.pos;holding [v] (truthy v))):
  PT X a (fun σ H Q=>ta σ H fun x H'=>∃k,TruV X.K x H' k∧Q k H'):=by
 intro pins s σ H Q I h;exact isTrue_plain (thn (ha pins s σ H _ I h) fun v s1 ⟨x,H1,I1,r1,q1⟩=>tru_ok pins s1 σ H1 x v Q I1 r1 q1) (he _)
theorem JK:OpR X (binaryOp .Add) (fun x y H Q=>∃i j,x=.str i∧y=.str j∧i.length + j.length≤sizeLine∧Q (.str (i ++ j)) H):=by
 intro pins s σ H x y v u Q I rx ry h;obtain⟨i,j,rfl,rfl,hz,q⟩:=h;obtain⟨t,rfl⟩:=rx;obtain⟨t',rfl⟩:=ry;exact add_str (fun t' tk=>⟨.str (i ++ j),H,I.tok _,⟨_,rfl⟩,q⟩) hz
theorem Jc {x:V}{us:List Value} (r:Yq [x] us):∃u,us=[u]∧Yx x u:=by
 cases r with
 |cons r1 r2=>cases r2;exact⟨_,rfl,r1⟩
theorem vals2 {x y:V}{us:List Value} (r:Yq [x,y] us):∃u w',us=[u,w']∧Yx x u∧Yx y w':=by
 cases r with
 |cons r1 r2=>
  cases r2 with
  |cons r3 r4=>cases r4;exact⟨_,_,rfl,r1,r3⟩
theorem YAw:Jb X (.type "int") (fun xs H Q=>(∃i,xs=[.int i]∧Q (.int i) H)∨∃k,xs=[.bl k]∧Q (.int (if k then 1 else 0)) H):=by
 intro pins s σ H xs us Q I r h;rcases h with ⟨i,rfl,q⟩ |⟨k,rfl,q⟩
 ·obtain⟨u,rfl,t,rfl⟩:=Jc r;exact call_int_int ⟨.int i,H,I,⟨_,rfl⟩,q⟩
 ·obtain⟨u,rfl,r1⟩:=Jc r;cases r1;exact call_int_bool ⟨.int (if k then 1 else 0),H,I.tok _,⟨_,rfl⟩,q⟩
theorem YJp:Jb X (.builtin "ord") (fun xs H Q=>∃x,xs=[.str x]∧x.length=1∧Q (.int (x.cps.getD 0 0:Nat)) H):=by
 intro pins s σ H xs us Q I r h;obtain⟨x,rfl,hz,q⟩:=h;obtain⟨u,rfl,t,rfl⟩:=Jc r;exact ord_of_one hz ⟨.int _,H,I.tok _,⟨_,rfl⟩,q⟩
end
end L2
namespace L2
open PySem PySem.Spec PyProof.Rows
structure ObjM (h:Heap) (x dx C:Addr) (mA:Str→Option Value):Prop where
 obj:h.get? x=some (PySem.W.instObj C dx)
 ns:h.Ns1 dx mA
 ne:dx≠x
theorem YI2 {h:Heap}{dx:Addr}{mA:Str→Option Value} (n:h.Ns1 dx mA):∃od,h.get? dx=some od∧∀name,PySem.W.lookIn name od=some (mA name):=by
 obtain⟨o,es,ep,ho,hd,hk,_,hm⟩:=n;refine⟨o,ho,fun name=>?_⟩;have e:=hm name;unfold nsFind findBy at e;rw[←Array.find?_toList]at e;unfold PySem.W.lookIn;rw[hd];dsimp only;split
 ·rename_i y q
  rw[q]at e;exact congrArg some e
 ·rename_i q
  rw[q]at e;have a:es.toList.any (·.refKey)=false:=by
   rw[List.any_eq_false];intro y hy;obtain⟨z,t,hkey⟩:=hk y (Array.mem_toList_iff.mp hy);simp[DictEntry.refKey,hkey]
  have a':¬es.toList.any (·.refKey)=true:=by rw[a];exact YLT
  rw[if_neg a'];exact congrArg some e
theorem ObjM.look {h:Heap}{x dx C:Addr}{mA:Str→Option Value} (I:ObjM h x dx C mA):∃od,PySem.W.InstAt h x (PySem.W.instObj C dx) C (some od)∧∀name,PySem.W.lookIn name od=some (mA name):=
 let ⟨od,ho,hl⟩:=YI2 I.ns
 ⟨od,⟨I.obj,rfl,rfl,ho⟩,hl⟩
section
variable {prog:Program}{w:World}{A:Around}{E:Value→Shared→Prop}{s:Shared}{K:W.Frag}{x dx C f:Addr}{mA:Str→Option Value}{name:Str}{v:Value}
theorem get_map {expr:Bool}{Q:Value→Shared→Prop} (X:K.In s.heap) (I:ObjM s.heap x dx C mA) (hg:PySem.W.plainGet K C name=true) (hh:PySem.W.hasDictIn K C=true)
  (ha:PySem.W.findIn K (.ref C) name=some none) (hv:mA name=some v) (hv':PySem.W.handedIn v=true) (h:Q v { s with toks:=s.toks + 1 }):
  wpAny (model prog w) A (getAttr (.ref x) name expr) Q E s:=by
 obtain⟨od,J,hl⟩:=I.look;exact PySem.W.get_value X J (PySem.W.plainGet_of hg).1 (PySem.W.findObj_own hh ha rfl (by rw[hl,hv])) hv' h
theorem YJq {pl:Sem Bool}{Q:Value×List Value→Shared→Prop} (X:K.In s.heap) (I:ObjM s.heap x dx C mA) (hg:PySem.W.plainGet K C name=true)
  (hf:PySem.W.findIn K (.ref C) name=some (some (.ref f))) (ht:PySem.W.isFn K (.ref f)=true) (hv:mA name=none) (h:Q (.ref f,[.ref x]) s):
  wpAny (model prog w) A (getMethod (.ref x) name pl) Q E s:=by
 obtain⟨od,J,hl⟩:=I.look;exact PySem.W.method_fn X J (PySem.W.plainGet_of hg).1 (PySem.W.plainGet_of hg).2 hf (beq_iff_eq.mp ht) (by show(PySem.W.lookIn name od).map (·.isSome)=some false;rw[hl,hv];rfl) h
theorem set_map {ns:List Str}{Q:Unit→Shared→Prop} (X:K.In s.heap) (I:ObjM s.heap x dx C mA)
  (hs:PySem.W.findIn K (.ref C) "__setattr__"=some (some (.builtin "object.__setattr__"))) (hp:PySem.W.plainOver K C=true) (ht:PySem.W.takerIn K C name=some none) (hh:PySem.W.hasDictIn K C=true)
  (hw:PySem.Within mA ns) (hsz:ns.length≤sizeLine)
  (h:∀h',ObjM h' x dx C (fun y=>if y=name then some v else mA y)→Heap.SameBut dx s.heap h'→Q () { s with heap:=h',toks:=s.toks + 2 }):
  wpAny (model prog w) A (setAttr (.ref x) name v) Q E s:=by
 obtain⟨od,J,hl⟩:=I.look;refine PySem.W.set_plain X J hs (PySem.W.osa_open (s:={ s with toks:=s.toks + 1 }) (r:=none) X J hp ht fun b=>?_);obtain⟨cd,hc,hd'⟩:=PySem.W.any_some hh;have hx:s.heap.get? x=some ⟨.ref C,some dx,.plain,#[]⟩:=I.obj;refine wpAny_bind (wpAny_pure (wpAny_bind (wpAny_bind (wpAny_loadPart hx (wpAny_bind (PySem.W.Looks.here (s:={ s with toks:=s.toks + 1 }) (PySem.W.looks_clsIn X hc) ?_))))));rw[hd'];refine wpAny_pure (a:=some dx) (wpAny_bind (wpAny_pure (wpAny_bind ?_)));refine wpAny_nsSet1 (s:={ s with toks:=s.toks + 1 }) I.ns fun h' hn2 hs2=>?_
 obtain⟨oD,esD,epD,hoD,hdD,hcD⟩:=hn2.count (PySem.Within.cons name v hw);refine wpAny_bind (wpAny_lookBehind hoD (by rw[hdD];exact pastItsLine_dict (YLb hcD (by rw[YLM];omega))) ?_);exact wpAny_pure (h _ ⟨(hs2.2 _ (Ne.symm I.ne)).trans I.obj,hn2,I.ne⟩ hs2)
theorem YJr {R:Result→Shared→Prop}{vs:List Value}{kw:List (Str×Value)} (X:K.In s.heap) (hm:PySem.W.makesIn K C=true)
  (hi:PySem.W.findIn K (.ref C) "__init__"=some (some (.ref f))) (hf:PySem.W.typeIn K (.ref f)=some (.type "function"))
  (h:codeAny (model prog w) (A.under (.builtin "type.__call__" ⟨.ref C :: vs,kw⟩)) (.call (.ref f) ⟨.ref (s.heap.objs.size + 1) :: vs,kw⟩) (PySem.W.InitBack (s.heap.objs.size + 1) R)
   { s with heap:=(s.heap.push PySem.W.emptyDict).push (PySem.W.instObj C s.heap.objs.size) }):
  codeAny (model prog w) A (.call (.ref C) ⟨vs,kw⟩) R s:=by
 obtain⟨hh,g,d,t,os⟩:=s;exact PySem.W.make_core (PySem.W.makes_of X hm) (PySem.W.looks_findIn X hi) (fun self=>PySem.W.bind_fn X self hf) (.inl rfl) h
end
def ZA (f:Str) (v:V):List (Str×V)→List (Str×V)
 |[]=>[(f,v)]
 |(g,x) :: r=>if g=f then (g,v) :: r else (g,x) :: ZA f v r
theorem YCb (f g:Str) (v:V):∀fs:List (Str×V),(ZA f v fs).lookup g=if g=f then some v else fs.lookup g
 |[]=>by
  show List.lookup g [(f,v)]=_
  by_cases h:g=f
  ·have hb:(g == f)=true:=beq_iff_eq.mpr h;simp only[List.lookup,hb,if_pos h]
  ·have hb:(g == f)=false:=beq_eq_false_iff_ne.mpr h;simp only[List.lookup,hb,if_neg h]
 |(k,x) :: r=>by
  have ih:=YCb f g v r;rw[show ZA f v ((k,x) :: r)=(if k=f then (k,v) :: r else (k,x) :: ZA f v r) from rfl]
  by_cases hk:k=f
  ·rw[if_pos hk]
   by_cases h:g=k
   ·have hb:(g == k)=true:=beq_iff_eq.mpr h;simp only[List.lookup,hb,if_pos (h.trans hk)]
   ·have hb:(g == k)=false:=beq_eq_false_iff_ne.mpr h;simp only[List.lookup,hb,if_neg (fun e:g=f=>h (e.trans hk.symm))]
  ·rw[if_neg hk]
   by_cases h:g=k
   ·have hb:(g == k)=true:=beq_iff_eq.mpr h;simp only[List.lookup,hb,if_neg (fun e:g=f=>hk (h.symm.trans e))]
   ·have hb:(g == k)=false:=beq_eq_false_iff_ne.mpr h;simp only[List.lookup,hb];exact ih
theorem YB9 (f:Str) (v:V):∀fs:List (Str×V),f∈(ZA f v fs).map (·.1)∧∀g,g∈fs.map (·.1)→g∈(ZA f v fs).map (·.1)
 |[]=>⟨by simp[ZA],fun g h=>by simp at h⟩
 |(k,x) :: r=>by
  obtain⟨i1,i2⟩:=YB9 f v r;rw[show ZA f v ((k,x) :: r)=(if k=f then (k,v) :: r else (k,x) :: ZA f v r) from rfl]
  by_cases hk:k=f
  ·rw[if_pos hk];subst hk;exact⟨by simp,fun g h=>by simpa using h⟩
  ·rw[if_neg hk];refine⟨?_,fun g h=>?_⟩
   ·rw[YLS];exact YLR _ i1
   ·rw[YLS]at h ⊢;rcases List.mem_cons.mp h with e |e
    ·exact List.mem_cons.mpr (.inl e)
    ·exact YLR _ (i2 g e)
theorem YCc (f:Str) (v:V):∀fs:List (Str×V),(ZA f v fs).length≤fs.length + 1
 |[]=>by simp[ZA]
 |(k,x) :: r=>by
  have ih:=YCc f v r;rw[show ZA f v ((k,x) :: r)=(if k=f then (k,v) :: r else (k,x) :: ZA f v r) from rfl]
  by_cases hk:k=f
  ·rw[if_pos hk,YLM,YLM];omega
  ·rw[if_neg hk,YLM,YLM];omega
theorem YAV.some_of {v:V}{o:Option Value} (r:YAV (some v) o):∃u,o=some u∧Yx v u:=by
 cases o with
 |none=>exact(show False from r).elim
 |some u=>exact⟨u,rfl,r⟩
theorem YAV.none_of {o:Option Value} (r:YAV none o):o=none:=by
 cases o with
 |none=>rfl
 |some u=>exact(show False from r).elim
theorem YI3 {v:V}{u:Value} (r:Yx v u):PySem.W.handedIn u=true:=by
 cases v with
 |non=>cases (show u=Value.none from r);rfl
 |bl b=>cases (show u=Value.bool b from r);rfl
 |int i=>obtain⟨t,e⟩:=(show ∃t,u=Value.int i t from r);cases e;rfl
 |str x=>obtain⟨t,e⟩:=(show ∃t,u=Value.str x t from r);cases e;rfl
 |byt b=>obtain⟨t,e⟩:=(show ∃t,u=Value.bytes b t from r);cases e;rfl
 |flt b=>obtain⟨t,e⟩:=(show ∃t,u=Value.float b t from r);cases e;rfl
 |ref a=>cases (show u=Value.ref a from r);rfl
 |ty n=>cases (show u=Value.type n from r);rfl
section
variable {P:Program}{w:World}{H H':Hp}{h h':Heap}{a C dx:Addr}{fs fs':List (Str×V)}
theorem YC4 (hok:HOk P w H h) (e:H a=some (.ins C dx fs)):∃mA,ObjM h a dx C mA∧(∀f,YAV (fs.lookup f) (mA f))∧PySem.Within mA (fs.map (·.1))∧fs.length≤1000∧H dx=some (.own a):=by
 obtain⟨d,z,ne,ob,mA,n,r,q⟩:=(show Y8 P w H h a (.ins C dx fs) from hok a _ e);exact⟨mA,⟨ob,n,ne⟩,r,q,z,d⟩
end
structure Cls (K:W.Frag) (C:Addr):Prop where
 pg:PySem.W.plainGet K C Str.empty=true
 hd:PySem.W.hasDictIn K C=true
 po:PySem.W.plainOver K C=true
 sa:PySem.W.findIn K (.ref C) "__setattr__"=some (some (.builtin "object.__setattr__"))
theorem Cls.get {K:W.Frag}{C:Addr} (c:Cls K C) (f:Str):PySem.W.plainGet K C f=true:=c.pg
def Zp (K:W.Frag) (C:Addr) (f:Str):Prop:=PySem.W.findIn K (.ref C) f=some none
theorem Zp.taker {K:W.Frag}{C:Addr}{f:Str} (n:Zp K C f):PySem.W.takerIn K C f=some none:=by
 unfold PySem.W.takerIn;rw[show PySem.W.findIn K (.ref C) f=some none from n];rfl
structure Con (K:W.Frag) (C:Addr) (f:Str) (v:V) (u:Value):Prop where
 at_:PySem.W.findIn K (.ref C) f=some (some u)
 rel:Yx v u
 get:PySem.W.specialIn K u "__get__"=some none
 cp:PySem.W.copiedNames.contains f=false
structure Meth (K:W.Frag) (C:Addr) (m:Str) (f:Addr):Prop where
 at_:PySem.W.findIn K (.ref C) m=some (some (.ref f))
 fn:PySem.W.isFn K (.ref f)=true
 kp:PySem.W.keepIn K (.ref f)=true
section
variable {X:Cx}{pins:List (Addr×Obj)}{σ:St}{H:Hp}{s:Shared}{a C dx:Addr}{fs:List (Str×V)}{f:Str}{v:V}{A:Around}{E:Value→Shared→Prop}
theorem YDH {b:Bool}{Q:Value→Shared→Prop} (I:Inv X pins σ H s) (e:H a=some (.ins C dx fs)) (c:Cls X.K C) (n:Zp X.K C f) (l:fs.lookup f=some v)
  (h:∀u s',Inv X pins σ H s'→Yx v u→Q u s'):wpAny (model X.prog X.w) A (getAttr (.ref a) f b) Q E s:=by
 obtain⟨mA,O,r,_,_,_⟩:=YC4 I.hok e;obtain⟨u,hu,ru⟩:=YAV.some_of (v:=v) (o:=mA f) (by rw[←l];exact r f);exact get_map I.kIn O (c.get f) c.hd n hu (YI3 ru) (h u _ (I.tok _) ru)
theorem YDI {m:Str}{g:Addr}{pl:Sem Bool}{Q:Value×List Value→Shared→Prop} (I:Inv X pins σ H s) (e:H a=some (.ins C dx fs)) (c:Cls X.K C) (k:Meth X.K C m g) (l:fs.lookup m=none)
  (h:Q (.ref g,[.ref a]) s):wpAny (model X.prog X.w) A (getMethod (.ref a) m pl) Q E s:=by
 obtain⟨mA,O,r,_,_,_⟩:=YC4 I.hok e;have hn:mA m=none:=YAV.none_of (by rw[←l];exact r m);exact YJq I.kIn O (c.get m) k.at_ k.fn hn h
theorem YDJ {y:V}{u:Value}{Q:Unit→Shared→Prop} (I:Inv X pins σ H s) (e:H a=some (.ins C dx fs)) (c:Cls X.K C) (n:Zp X.K C f) (hl:fs.length < 1000) (ry:Yx y u)
  (h:∀s',Inv X pins σ (upd H a (.ins C dx (ZA f y fs))) s'→Q () s'):wpAny (model X.prog X.w) A (setAttr (.ref a) f u) Q E s:=by
 obtain⟨mA,O,r,wi,_,ho⟩:=YC4 I.hok e;have hz:(fs.map (·.1)).length≤sizeLine:=by rw[YLD,sizeLine_eq];omega
 refine set_map I.kIn O c.sa c.po n.taker c.hd wi hz fun h' O' sb=>h _ ?_
 have hd:∃o,h'.get? dx=some o:=let ⟨o,_,_,e',_⟩:=O'.ns;⟨o,e'⟩
 refine I.write (x:=a) (e:=dx) (by rw[e];exact True.intro) (.inr ho) (fun b q hb z=>(sb.2 b hb).trans z) hd ?_;refine⟨by rw[YE O.ne];exact ho,?_,O.ne,O'.obj,_,O'.ns,fun g=>?_,fun g hg=>?_⟩
 ·have:=YCc f y fs;omega
 ·show YAV ((ZA f y fs).lookup g) (if g=f then some u else mA g);rw[YCb]
  by_cases q:g=f
  ·rw[if_pos q,if_pos q];exact ry
  ·rw[if_neg q,if_neg q];exact r g
 ·by_cases q:g=f
  ·rw[q];exact(YB9 f y fs).1
  ·refine(YB9 f y fs).2 g (wi g fun z=>hg ?_);show(if g=f then some u else mA g)=none;rw[if_neg q];exact z
theorem Inv.made (I:Inv X pins σ H s):Inv X pins σ (upd (upd H s.heap.objs.size (.own (s.heap.objs.size + 1))) (s.heap.objs.size + 1) (.ins C s.heap.objs.size []))
  { s with heap:=(s.heap.push PySem.W.emptyDict).push (PySem.W.instObj C s.heap.objs.size) }:=by
 have e1:(s.heap.push PySem.W.emptyDict).get? s.heap.objs.size=some PySem.W.emptyDict:=Heap.get?_push_size s.heap rfl;have e2:((s.heap.push PySem.W.emptyDict).push (PySem.W.instObj C s.heap.objs.size)).get? (s.heap.objs.size + 1)=some (PySem.W.instObj C s.heap.objs.size):=by
  have:=Heap.get?_push_size (s.heap.push PySem.W.emptyDict) (o:=PySem.W.instObj C s.heap.objs.size) rfl
  rwa [Heap.size_push]at this
 have e3:(s.heap.push PySem.W.emptyDict).Ns s.heap.objs.size (fun _=>none):=⟨PySem.W.emptyDict,#[],_,e1,rfl,(fun e he=>absurd he (by simp)),fun _=>rfl⟩;have I1:=I.laid (a:=s.heap.objs.size) (o:=.own (s.heap.objs.size + 1)) (h':=s.heap.push PySem.W.emptyDict) (t':=s.toks) (fun b u q=>Heap.get?_push_of_some _ q) (YLG _) ⟨_,e1⟩;refine I1.laid (a:=s.heap.objs.size + 1) (o:=.ins C s.heap.objs.size []) (t':=s.toks) (fun b u q=>Heap.get?_push_of_some _ q) (Nat.le_of_eq (Heap.size_push _ _)) ?_;have ne:s.heap.objs.size≠s.heap.objs.size + 1:=YLY (Nat.lt_succ_self _);refine⟨by rw[YE ne,YB],YLN _,ne,e2,fun _=>none,(Heap.Ns1.of_empty e3).at fun o q=>Heap.get?_push_of_some _ q,fun _=>True.intro,fun y hy=>absurd rfl hy⟩
theorem attr_of {prog:Program}{w:World}{env:Env}{e:Expr}{f:Str}{pos:Pos}{s:Shared}{Q:Value→Shared→Prop} (hb:attributeBase e f env (eval e env)=eval e env)
  (h:wpAny (model prog w) A (eval e env) (fun o s₁=>wpAny (model prog w) A (getAttr o f true) Q E s₁) E s):wpAny (model prog w) A (eval (.Attribute e f pos) env) Q E s:=
 Attribute_any_ h (by rw[arm_eval_Attribute,hb])
end
inductive tFld_ (K:W.Frag) (f:Str) (Q:VK) (x:V) (H1:Hp):Prop where
 |mk (a:_) (C:_) (dx:_) (fs:_) (v:_) (h0_:x=.ref a) (h1_:H1 a=some (.ins C dx fs)) (h2_:Cls K C) (h3_:Zp K C f) (h4_:fs.lookup f=some v) (h5_:Q v H1):tFld_ K f Q x H1
def tFld (K:W.Frag) (ta:TE) (f:Str):TE:=fun σ H Q=>ta σ H fun x H1=>tFld_ K f Q x H1
inductive sFld_ (K:W.Frag) (f:Str) (D:YAY) (σ:St) (y:V) (x:V) (H2:Hp):Prop where
 |mk (a:_) (C:_) (dx:_) (fs:_) (h0_:x=.ref a) (h1_:H2 a=some (.ins C dx fs)) (h2_:Cls K C) (h3_:Zp K C f) (h4_:fs.length < 1000) (h5_:D.nx σ (upd H2 a (.ins C dx (ZA f y fs)))):sFld_ K f D σ y x H2
def sFld (K:W.Frag) (ta tv:TE) (f:Str):TS:=fun D σ H=>tv σ H fun y H1=>ta σ H1 fun x H2=>sFld_ K f D σ y x H2
def InOp (X:Cx) (op:Operator) (rd:V→V→Hp→VK→Prop):Prop:=
 ∀(pins:List (Addr×Obj)) (s:Shared) (σ:St) (H:Hp) (x y:V) (u v:Value) (Q:VK),Inv X pins σ H s→Yx x u→Yx y v→rd x y H Q→wpAny (model X.prog X.w) X.A (inplaceOp op u v) (EP X pins σ Q) X.xe s
def YHx (K:W.Frag) (ta tv:TE) (rd:V→V→Hp→VK→Prop) (f:Str):TS:=fun D σ H=>ta σ H fun x H1=>∃a C dx fs v,x=.ref a∧H1 a=some (.ins C dx fs)∧Cls K C∧Zp K C f∧fs.lookup f=some v∧
 tv σ H1 fun y H2=>rd v y H2 fun z H3=>∃dx' fs',H3 a=some (.ins C dx' fs')∧fs'.length < 1000∧D.nx σ (upd H3 a (.ins C dx' (ZA f z fs')))
section
variable {X:Cx}{o e value:Expr}{f:Str}{pos pos' tpos:Pos}{ta tv:TE}
theorem pe_fld (he:PE X e ta) (hb:attributeBase e f X.env (eval e X.env)=eval e X.env):PE X (.Attribute e f pos) (tFld X.K ta f):=by
 intro pins s σ H Q I h;refine attr_of hb (thn (he pins s σ H _ I h) fun u s1 ⟨x,H1,I1,rx,a,C,dx,fs,v,ex,ea,c,n,l,q⟩=>?_);subst ex;obtain rfl:u=Value.ref a:=rx;exact YDH I1 ea c n l fun u' s2 I2 ru=>⟨v,H1,I2,ru,q⟩
theorem ps_fld (ha:PE X o ta) (hv:PE X value tv) (hs:swapsWith value (some (.Attribute o f pos')) pos.line X.env=pure false):PS X (.Assign [.Attribute o f pos'] value pos) (sFld X.K ta tv f):=by
 intro pins s σ H D I h;refine plainObj_wpAny_Assign_Attribute (thn (hv pins s σ H _ I h) fun u s1 ⟨y,H1,I1,ry,q⟩=>thn (ha pins s1 σ H1 _ I1 q) fun ov s2 ⟨x,H2,I2,rx,a,C,dx,fs,ex,ea,c,n,l,q2⟩=>?_) hs;subst ex;obtain rfl:ov=Value.ref a:=rx;exact YDJ I2 ea c n l ry fun s3 I3=>⟨σ,_,I3,q2⟩
theorem YI4 {op:Operator}{rd:V→V→Hp→VK→Prop} (ha:PE X o ta) (hv:PE X value tv) (hop:InOp X op rd):PS X (.AugAssign (.Attribute o f tpos) op value pos) (YHx X.K ta tv rd f):=by
 intro pins s σ H D I h;refine wpAny_AugAssign_AttributeAny (thn (ha pins s σ H _ I h) fun ov s1 ⟨x,H1,I1,rx,a,C,dx,fs,v,ex,ea,c,n,l,q⟩=>?_);subst ex;obtain rfl:ov=Value.ref a:=rx;refine YDH I1 ea c n l fun u s2 I2 ru=>thn (hv pins s2 σ H1 _ I2 q) fun w3 s3 ⟨y,H2,I3,ry,q3⟩=>thn (hop pins s3 σ H2 v y u w3 _ I3 ru ry q3) fun w4 s4 ⟨z,H3,I4,rz,dx',fs',ea',l',q4⟩=>?_
 exact YDJ I4 ea' c n l' rz fun s5 I5=>⟨σ,_,I5,q4⟩
def rAdd:V→V→Hp→VK→Prop:=fun x y H Q=>∃i j,x=.int i∧y=.int j∧Q (.int (i + j)) H
theorem in_add:InOp X .Add rAdd:=by
 rintro pins s σ H x y u v Q I rx ry ⟨i,j,rfl,rfl,q⟩;obtain⟨t,rfl⟩:=(show ∃t,u=Value.int i t from rx);obtain⟨t',rfl⟩:=(show ∃t',v=Value.int j t' from ry);exact PyProof.Rows.iadd_int ⟨.int (i + j),H,I.tok _,⟨_,rfl⟩,q⟩
end
section
variable {X:Cx}{pins:List (Addr×Obj)}{σ:St}{H:Hp}{s:Shared}{A:Around}{E:Value→Shared→Prop}{Q:Value→Shared→Prop}{c:Value}{b:Bool}
inductive YBM (K:W.Frag) (H:Hp):V→Value→Prop where
 |non:YBM K H .non (.type "NoneType")
 |bl (x:Bool):YBM K H (.bl x) (.type "bool")
 |int (i:Int):YBM K H (.int i) (.type "int")
 |str (x:Str):YBM K H (.str x) (.type "str")
 |flt (x:UInt64):YBM K H (.flt x) (.type "float")
 |lst {a:Addr}{xs:List V} (e:H a=some (.lst xs)):YBM K H (.ref a) (.type "list")
 |frz {a:Addr}{o:Obj}{xs:List V} (e:H a=some (.frz o (.lst xs))):YBM K H (.ref a) (.type "list")
 |tup {a:Addr}{xs:List V} (e:H a=some (.tup xs)):YBM K H (.ref a) (.type "tuple")
 |dK {a:Addr}{kvs:List (Key×V)} (e:H a=some (.dK kvs)):YBM K H (.ref a) (.type "dict")
 |dT {a:Addr}{kvs:List (List Key×V)} (e:H a=some (.dT kvs)):YBM K H (.ref a) (.type "dict")
 |ins {a C dx:Addr}{fs:List (Str×V)} (e:H a=some (.ins C dx fs)) (cl:Cls K C) (ha:PySem.W.findIn K (.ref C) "__class__"=some (some (.builtin "object.__class__")))
   (hn:PySem.W.specialIn K (.builtin "object.__class__") "__get__"=some (some (.builtin "getset_descriptor.__get__"))) (htk:PySem.W.takesIn K (.builtin "object.__class__")=some true)
   (hm:PySem.W.mroIn K C (.type "object")=some true):YBM K H (.ref a) (.ref C)
theorem YI5 {x:V}{u t:Value} (I:Inv X pins σ H s) (rx:Yx x u) (ty:YBM X.K H x t) (e:PySem.W.kitOne X.K t c=some b) (h:∀tk,Q (.bool b) { s with toks:=tk }):
  wpAny (model X.prog X.w) A (call (.builtin "isinstance") [u,c]) Q E s:=by
 cases ty with
 |non=>cases (show u=Value.none from rx);exact PySem.W.kia_one PySem.W.kitx_none I.kIn True.intro e nofun h
 |bl y=>cases (show u=Value.bool y from rx);exact PySem.W.kia_one PySem.W.kitx_bool I.kIn True.intro e nofun h
 |int i=>obtain⟨t,q⟩:=(show ∃t,u=Value.int i t from rx);cases q;exact PySem.W.kia_one PySem.W.kitx_int I.kIn True.intro e nofun h
 |str y=>obtain⟨t,q⟩:=(show ∃t,u=Value.str y t from rx);cases q;exact PySem.W.kia_one PySem.W.kitx_str I.kIn True.intro e nofun h
 |flt y=>obtain⟨t,q⟩:=(show ∃t,u=Value.float y t from rx);cases q;exact PySem.W.kia_one PySem.W.kitx_float I.kIn True.intro e nofun h
 |@lst a xs ea=>
  cases (show u=Value.ref a from rx);obtain⟨_,_,n,_,h1⟩:=(show Y8 X.prog X.w H s.heap a (.lst xs) from I.hok a _ ea);exact PySem.W.kia_one PySem.W.kitx_list I.kIn ⟨_,h1,rfl⟩ e nofun h
 |@frz a ob xs ea=>
  cases (show u=Value.ref a from rx);obtain⟨_,_,_,n,_,h1⟩:=(show Y8 X.prog X.w H s.heap a (.frz ob (.lst xs)) from I.hok a _ ea);exact PySem.W.kia_one PySem.W.kitx_list I.kIn ⟨_,h1,rfl⟩ e nofun h
 |@tup a xs ea=>
  cases (show u=Value.ref a from rx);obtain⟨_,_,_,p⟩:=(show Y8 X.prog X.w H s.heap a (.tup xs) from I.hok a _ ea);obtain⟨o,h1,h2,_⟩:=p;exact PySem.W.kia_one PySem.W.kitx_tuple I.kIn ⟨o,h1,h2⟩ e nofun h
 |@dK a kvs ea=>
  cases (show u=Value.ref a from rx);obtain⟨_,_,vs,_,p⟩:=(show Y8 X.prog X.w H s.heap a (.dK kvs) from I.hok a _ ea);obtain⟨o,es,ep,h1,h2,_⟩:=p;exact PySem.W.kia_one PySem.W.kitx_dict I.kIn ⟨o,h1,h2.1⟩ e nofun h
 |@dT a kvs ea=>
  cases (show u=Value.ref a from rx);obtain⟨_,_,xs,_,o,es,ep,h1,h2,_⟩:=(show Y8 X.prog X.w H s.heap a (.dT kvs) from I.hok a _ ea);exact PySem.W.kia_one PySem.W.kitx_dict I.kIn ⟨o,h1,h2.1⟩ e nofun h
 |@ins a C dx fs ea cl ha hn htk hm=>
  cases (show u=Value.ref a from rx);obtain⟨mA,O,_⟩:=YC4 I.hok ea;obtain⟨od,J,_⟩:=O.look;exact PySem.W.kia_one (PySem.W.kitx_own (cl.get _) cl.hd ha hn htk hm) I.kIn J e nofun h
end
end L2
namespace L2
open PySem PySem.Spec PyProof.Rows
structure Jr (k:Nat) (A:Around):Prop where
 hd:A.handled=none
 dp:A.depth + 3 * k + 5 < recursionLimit
 un:A.units + 16 * k + 200 < cLine
theorem Jr.mono {j k:Nat}{A:Around} (r:Jr k A) (h:j≤k):Jr j A:=⟨r.hd,by have:=r.dp;omega,by have:=r.un;omega⟩
theorem Jr.deeper {k:Nat}{A:Around} (r:Jr (k + 1) A) (env:Env):Jr k (A.deeper env):=
 ⟨r.hd,by have:=r.dp;show A.depth + 1 + 3 * k + 5 < _;omega,by have:=r.un;show A.units + 3 + 16 * k + 200 < _;omega⟩
theorem YG5 {A:Around}{C:Addr}{us:List Value}{kw:List (Str×Value)}:(A.under (.builtin "type.__call__" ⟨.ref C :: us,kw⟩)).depth=A.depth + 1:=by
 first |rfl |simp[Around.under,Code.weight,Code.isCreation,Code.isGuard,Code.isCaller,Code.frames,Code.isFrame,guardIds]
theorem YG6 {A:Around}{C:Addr}{us:List Value}{kw:List (Str×Value)}:(A.under (.builtin "type.__call__" ⟨.ref C :: us,kw⟩)).units=A.units + 1:=by
 first |rfl |simp[Around.under,Code.cUnits,Code.frames,Code.isFrame]
theorem Jr.make {k:Nat}{A:Around} (r:Jr (k + 1) A) (C:Addr) (us:List Value) (kw:List (Str×Value)):Jr k (A.under (.builtin "type.__call__" ⟨.ref C :: us,kw⟩)):=
 ⟨r.hd,by have:=r.dp;rw[YG5];omega,by have:=r.un;rw[YG6];omega⟩
theorem Jr.depth {k:Nat}{A:Around} (r:Jr k A):A.depth < recursionLimit:=by have:=r.dp;omega
theorem Jr.units {k:Nat}{A:Around} (r:Jr k A):A.units + 64 < cLine:=by have:=r.un;omega
def tNil:TA:=fun _ H Q=>Q [] H
def YHy (ta:TE) (tr:TA):TA:=fun σ H Q=>ta σ H fun x H1=>tr σ H1 fun xs H2=>Q (x :: xs) H2
section
variable {X:Cx}{e:Expr}{es:List Expr}{te:TE}{t:TA}{pos:Pos}
theorem YC:PA X [] tNil:=fun _ _ _ _ H Q I h=>Calls.spliced_nil ⟨[],H,I,.nil,h⟩
theorem YA (ha:PE X e te) (hr:PA X es t) (hs:starEach (e :: es) X.env=(false,eval e X.env) :: starEach es X.env:=by rfl):PA X (e :: es) (YHy te t):=by
 intro pos pins s σ H Q I h;rw[hs];show wpAny _ _ (spliced ((false,eval e X.env) :: backTo pos (starEach es X.env))) _ _ s;refine Calls.spliced_cons (thn (ha pins s σ H _ I h) fun u s1 ⟨x,H1,I1,r1,q1⟩=>?_);exact thn (hr pos pins s1 σ H1 _ I1 q1) fun us s2 ⟨xs,H2,I2,r2,q2⟩=>⟨x :: xs,H2,I2,.cons r1 r2,q2⟩
inductive tTup_ (Q:VK) (xs:List V) (H1:Hp):Prop where
 |mk (h0_:xs.length≤sizeLine) (h1_:∀p,H1 p=none→Q (.ref p) (upd H1 p (.tup xs))):tTup_ Q xs H1
def tTup (t:TA):TE:=fun σ H Q=>t σ H fun xs H1=>tTup_ Q xs H1
inductive tLst_ (Q:VK) (xs:List V) (H1:Hp):Prop where
 |mk (h0_:xs.length≤sizeLine) (h1_:∀p,H1 p=none→Q (.ref p) (upd H1 p (.lst xs))):tLst_ Q xs H1
def tLst (t:TA):TE:=fun σ H Q=>t σ H fun xs H1=>tLst_ Q xs H1
theorem Yy {x1} (h:PA X es t):PE X (.Tuple es x1 pos) (tTup t):=by
 intro pins s σ H Q I hq;refine wpAny_Tuple_spliced (thn (h pos pins s σ H _ I hq) fun us s1 ⟨xs,H1,I1,r,z,q⟩=>⟨by rw[←r.length];exact z,?_⟩);have hf:H1 s1.heap.objs.size=none:=I1.hok.fresh (YLG _);refine⟨.ref s1.heap.objs.size,upd H1 s1.heap.objs.size (.tup xs),I1.laid (t':=s1.toks) (fun b u e=>Heap.get?_push_of_some _ e) (YLG _) ?_,rfl,q _ hf⟩;exact⟨z,us,r,⟨_,Heap.get?_push_size _ rfl,rfl,_,rfl⟩⟩
theorem Y0 (h:PA X es t):PE X (.List es pos) (tLst t):=by
 intro pins s σ H Q I hq;refine wpAny_List_spliced (thn (h pos pins s σ H _ I hq) fun us s1 ⟨xs,H1,I1,r,z,q⟩=>⟨by rw[←r.length];exact z,?_⟩);have hf:H1 s1.heap.objs.size=none:=I1.hok.fresh (YLG _);refine⟨.ref s1.heap.objs.size,upd H1 s1.heap.objs.size (.lst xs),I1.laid (t':=s1.toks) (fun b u e=>Heap.get?_push_of_some _ e) (YLG _) ?_,rfl,q _ hf⟩;exact⟨z,us,0,r,Heap.get?_push_size _ rfl⟩
end
abbrev Sp:=List V→Hp→VK→XK→Prop
abbrev CXT:=List Env→Hp→Shared→XK→Value→Shared→Prop
structure Env0 (P:Program) (w:World) (K:W.Frag) (mg:Str→Option Value) (base:Heap) (A:Around) (outer:List Env) (s:Shared) (H:Hp):Prop where
 frames:A.frames=some outer
 mod:Mod K mg base
 bs:∀b o,base.get? b=some o→s.heap.get? b=some o∧H b=none
 bsz:base.objs.size≤s.heap.objs.size
 funs:s.heap.FunFrames base outer
 frf:∀b∈frs outer,H b=none
 hok:HOk P w H s.heap
 bare:AllBare s.gens
def CE (outer:List Env) (P:Program) (w:World) (H:Hp) (s:Shared) (Q:VK) (u:Value) (s':Shared):Prop:=
 ∃v H',s'.os=s.os∧AllBare s'.gens∧Un (frs outer) [] H H' s.heap s'.heap∧HOk P w H' s'.heap∧Yx v u∧Q v H'
def CR (CX:CXT) (outer:List Env) (P:Program) (w:World) (H:Hp) (s:Shared) (Q:VK) (E:XK) (r:Result) (s':Shared):Prop:=
 match r with
 |.ok (.ret u)=>CE outer P w H s Q u s'
 |.ok _=>False
 |.error e=>CX outer H s E e s'
structure Y6 (P:Program) (w:World) (K:W.Frag) (mg:Str→Option Value) (base:Heap) (CX:CXT) (k:Nat) (f:Addr) (fd:FuncData) (ps:List Str) (sp:Sp):Prop where
 len:∀vs H Q E,sp vs H Q E→vs.length=ps.length
 run:∀(A:Around) (outer:List Env) (s:Shared) (H:Hp) (args:Args) (us:List Value) (vs:List V) (Q:VK) (E:XK),Jr k A→Env0 P w K mg base A outer s H→BindsTo s fd args (ps.zip us)→Yq vs us→sp vs H Q E→
  codeAny (model P w) A (.call (.ref f) args) (CR CX outer P w H s Q E) s
theorem Env0.make {P:Program}{w:World}{K:W.Frag}{mg:Str→Option Value}{base:Heap}{A:Around}{outer:List Env}{s:Shared}{H:Hp} (e:Env0 P w K mg base A outer s H) (C:Addr) (us:List Value) (kw:List (Str×Value)):
  Env0 P w K mg base (A.under (.builtin "type.__call__" ⟨.ref C :: us,kw⟩)) outer s H:=⟨by first |exact e.frames |(simpa [Around.under,Code.envs,Code.isFrame,pushEnvs] using e.frames),e.mod,e.bs,e.bsz,e.funs,e.frf,e.hok,e.bare⟩
section
variable {X:Cx}{pins:List (Addr×Obj)}{σ:St}{H:Hp}{s s':Shared}
theorem Inv.env0 (I:Inv X pins σ H s):Env0 X.prog X.w X.K X.mg X.base X.A X.stack s H:=
 ⟨I.ok.frames,I.ok.mod,I.bs,YLb I.ok.bsz I.sz,I.stack,I.stkFree,I.hok,I.bare⟩
theorem Inv.after {Q:VK}{u:Value} (I:Inv X pins σ H s) (h:CE X.stack X.prog X.w H s Q u s'):EP X pins σ Q u s':=by
 obtain⟨v,H',os,bare,un,hok,r,q⟩:=h;obtain⟨hh,g,d,t,os'⟩:=s';obtain rfl:os'=s.os:=os;exact⟨v,H',I.call (h':=hh) (g':=g) (d':=d) (t':=t) (ch:=[]) un hok bare (fun b z=>absurd z (by simp)),r,q⟩
end
def tCall (sp:Sp) (dvs:List V) (E:XK) (t:TA):TE:=fun σ H Q=>t σ H fun vs H1=>sp (vs ++ dvs) H1 Q E
inductive YJs (C:Addr) (m:Str) (sp:Sp) (dvs:List V) (E:XK) (t:TA) (σ:St) (Q:VK) (x:V) (H1:Hp):Prop where
 |mk (a:_) (dx:_) (fs:_) (h0_:x=.ref a) (h1_:H1 a=some (.ins C dx fs)) (h2_:fs.lookup m=none) (h3_:t σ H1 fun vs H2=>sp (x :: (vs ++ dvs)) H2 Q E):YJs C m sp dvs E t σ Q x H1
def tMeth (C:Addr) (m:Str) (sp:Sp) (dvs:List V) (E:XK) (ta:TE) (t:TA):TE:=fun σ H Q=>ta σ H fun x H1=>YJs C m sp dvs E t σ Q x H1
def tMake (C:Addr) (sp:Sp) (dvs:List V) (E:XK) (t:TA):TE:=fun σ H Q=>t σ H fun vs H1=>∀x dx,H1 x=none→H1 dx=none→dx≠x→
 sp (.ref x :: (vs ++ dvs)) (upd (upd H1 dx (.own x)) x (.ins C dx [])) (fun v H2=>v=.non∧Q (.ref x) H2) E
def YAS (K:W.Frag) (fd:FuncData) (ps:List Str) (ds:List Value):Prop:=
 ∀(s:Shared) (us:List Value),K.In s.heap→(us ++ ds).length=ps.length→BindsTo s fd ⟨us,[]⟩ (ps.zip (us ++ ds))
theorem YAS.all {K:W.Frag}{fd:FuncData}{ps:List Str} (h:∀us:List Value,us.length=ps.length→bindArgs fd ⟨us,[]⟩=pure (ps.zip us)):YAS K fd ps []:=fun s us _ hl=>by
 rw[YLW]at hl ⊢;exact .of_eq (h us hl)
def YAB (CX:CXT) (X:Cx) (E:XK):Prop:=∀(pins:List (Addr×Obj)) (σ:St) (H:Hp) (s:Shared) (e:Value) (s':Shared),Inv X pins σ H s→CX X.stack H s E e s'→X.xe e s'
section
variable {X:Cx}{CX:CXT}{k:Nat}{f C:Addr}{fd:FuncData}{ps:List Str}{sp:Sp}{dvs:List V}{ds:List Value}{E:XK}{x m:Str}{p pos apos:Pos}{e o:Expr}{es:List Expr}{ta:TE}{t:TA}
theorem YG7 {pins:List (Addr×Obj)}{σ:St}{H:Hp}{s:Shared}{Q:VK}{us:List Value}{vs:List V} (F:Y6 X.prog X.w X.K X.mg X.base CX k f fd ps sp) (hr:Jr k X.A) (hb:YAS X.K fd ps ds) (hd:Yq dvs ds) (hx:YAB CX X E)
  (I:Inv X pins σ H s) (r:Yq vs us) (h:sp (vs ++ dvs) H Q E):wpAny (model X.prog X.w) X.A (call (.ref f) us) (EP X pins σ Q) X.xe s:=by
 have r2:Yq (vs ++ dvs) (us ++ ds):=r.append hd;have hl:(us ++ ds).length=ps.length:=by rw[←r2.length];exact F.len _ _ _ _ h
 refine wpAny_call (codeAny_mono (F.run X.A X.stack s H ⟨us,[]⟩ (us ++ ds) (vs ++ dvs) Q E hr I.env0 (hb s us I.kIn hl) r2 h) fun r s' hq=>?_);cases r with
 |error e=>exact hx pins σ H s e s' I hq
 |ok fl=>
  cases fl with
  |ret u=>exact I.after hq
  |next=>exact False.elim hq
  |brk=>exact False.elim hq
  |cont=>exact False.elim hq
theorem YY (F:Y6 X.prog X.w X.K X.mg X.base CX k f fd ps sp) (hr:Jr k X.A) (hg:Gl X x) (hm:X.mg x=some (.ref f)) (hk:PySem.W.keepIn X.K (.ref f)=true) (hb:YAS X.K fd ps ds) (hd:Yq dvs ds) (hx:YAB CX X E)
  (ha:PA X (e :: es) t) (hdb:(x == ("__debug__":Str))=false:=by decide) (he:starEach (e :: es) X.env=(false,eval e X.env) :: starEach es X.env:=by rfl) (hpl:(backTo pos (starEach es X.env)).any (·.1)=false:=by rfl):
  PE X (.Call (.Name x p) (e :: es) [] pos) (tCall sp dvs E t):=by
 intro pins s σ H Q I h;refine wpAny_Call_Name_kw (YC2 I hg hm ?_ hdb);refine PySem.W.callWith_K (h₀:=X.base) I.ok.mod.kin hk (thn (ha pos pins s σ H _ I h) fun us s1 ⟨vs,H1,I1,r,q⟩=>⟨I1.kIn,?_⟩) he hpl;exact YG7 F hr hb hd hx I1 r q
theorem ZZ {pl:Sem Bool} (he:PE X o ta) (c:Cls X.K C) (hm:Meth X.K C m f) (F:Y6 X.prog X.w X.K X.mg X.base CX k f fd ps sp) (hr:Jr k X.A) (hb:YAS X.K fd ps ds) (hd:Yq dvs ds) (hx:YAB CX X E) (ha:PA X (e :: es) t)
  (hst:starEach (e :: es) X.env=(false,eval e X.env) :: starEach es X.env:=by rfl) (hpl:(backTo pos (starEach es X.env)).any (·.1)=false:=by rfl)
  (ht:eval (.Call (.Attribute o m apos) (e :: es) [] pos) X.env=(do
   let ov ←eval o X.env
   standAt apos.atName
   let (f,first) ←holding [ov] (getMethod ov m pl)
   callWith pos f first (backTo pos (starEach (e :: es) X.env)) (backToKw pos (keywordEach [] X.env))):=by rfl):
  PE X (.Call (.Attribute o m apos) (e :: es) [] pos) (tMeth C m sp dvs E ta t):=by
 intro pins s σ H Q I h;refine PySem.W.methodCall_KW (pl:=pl) (thn (he pins s σ H _ I h) fun u s1 ⟨x,H1,I1,rx,a,dx,fs,ex,ea,l,q⟩=>?_) ht;subst ex;obtain rfl:u=Value.ref a:=rx;refine YDI I1 ea c hm l ?_;refine PySem.W.callWith_K (first:=[.ref a]) (h₀:=X.base) I.ok.mod.kin hm.kp (thn (ha pos pins s1 σ H1 _ I1 q) fun us s2 ⟨vs,H2,I2,r,q2⟩=>⟨I2.kIn,?_⟩) hst hpl;exact YG7 (us:=.ref a :: us) (vs:=.ref a :: vs) F hr hb hd hx I2 (.cons rfl r) q2
theorem YBi {pl:Sem Bool} (he:PE X o ta) (c:Cls X.K C) (hm:Meth X.K C m f) (F:Y6 X.prog X.w X.K X.mg X.base CX k f fd ps sp) (hr:Jr k X.A) (hb:YAS X.K fd ps ds) (hd:Yq dvs ds) (hx:YAB CX X E)
  (ht:eval (.Call (.Attribute o m apos) [] [] pos) X.env=(do
   let ov ←eval o X.env
   standAt apos.atName
   let (f,first) ←holding [ov] (getMethod ov m pl)
   callWith pos f first (backTo pos (starEach [] X.env)) (backToKw pos (keywordEach [] X.env))):=by rfl):
  PE X (.Call (.Attribute o m apos) [] [] pos) (tMeth C m sp dvs E ta tNil):=by
 intro pins s σ H Q I h;refine PySem.W.methodCall_KW (pl:=pl) (thn (he pins s σ H _ I h) fun u s1 ⟨x,H1,I1,rx,a,dx,fs,ex,ea,l,q⟩=>?_) ht;subst ex;obtain rfl:u=Value.ref a:=rx;refine YDI I1 ea c hm l ?_;exact PySem.W.callWith_K0 (first:=[.ref a]) I1.kIn hm.kp (YG7 (us:=[.ref a]) (vs:=[.ref a]) F hr hb hd hx I1 (.cons rfl .nil) q)
structure Mk (K:W.Frag) (C f:Addr):Prop where
 makes:PySem.W.makesIn K C=true
 init:PySem.W.findIn K (.ref C) "__init__"=some (some (.ref f))
 fn:PySem.W.isFn K (.ref f)=true
 kp:PySem.W.keepIn K (.ref C)=true
theorem YJt {pins:List (Addr×Obj)}{σ:St}{H:Hp}{s:Shared}{Q:VK}{us:List Value}{vs:List V} (M:Mk X.K C f) (F:Y6 X.prog X.w X.K X.mg X.base CX k f fd ps sp) (hr:Jr (k + 1) X.A) (hb:YAS X.K fd ps ds) (hd:Yq dvs ds)
  (hx:YAB CX X E) (I:Inv X pins σ H s) (r:Yq vs us)
  (h:∀x dx,H x=none→H dx=none→dx≠x→sp (.ref x :: (vs ++ dvs)) (upd (upd H dx (.own x)) x (.ins C dx [])) (fun v H2=>v=.non∧Q (.ref x) H2) E):
  wpAny (model X.prog X.w) X.A (call (.ref C) us) (EP X pins σ Q) X.xe s:=by
 have hq:=h (s.heap.objs.size + 1) s.heap.objs.size (I.hok.fresh (Nat.le_succ _)) (I.hok.fresh (YLG _)) (YLY (Nat.lt_succ_self _));have I2:=Inv.made (C:=C) I;have r2:Yq (V.ref (s.heap.objs.size + 1) :: (vs ++ dvs)) (Value.ref (s.heap.objs.size + 1) :: (us ++ ds)):=.cons rfl (r.append hd);have hl:(Value.ref (s.heap.objs.size + 1) :: us ++ ds).length=ps.length:=by
  have e:=r2.length;rw[F.len _ _ _ _ hq]at e;exact e.symm
 refine wpAny_call (YJr (f:=f) I.kIn M.makes M.init (beq_iff_eq.mp M.fn) (codeAny_mono (F.run _ X.stack _ _ ⟨Value.ref (s.heap.objs.size + 1) :: us,[]⟩ (Value.ref (s.heap.objs.size + 1) :: (us ++ ds)) _ _ E (hr.make C us [])
  (I2.env0.make C us []) (hb _ (Value.ref (s.heap.objs.size + 1) :: us) I2.kIn hl) r2 hq) fun r s' hq'=>?_))
 cases r with
 |error e=>exact hx pins σ _ _ e s' I2 hq'
 |ok fl=>
  cases fl with
  |ret u=>
   obtain⟨v,H',I3,rv,ev,q3⟩:=I2.after hq';subst ev;exact⟨rv,⟨V.ref (s.heap.objs.size + 1),H',I3,rfl,q3⟩⟩
  |next=>exact False.elim hq'
  |brk=>exact False.elim hq'
  |cont=>exact False.elim hq'
theorem YHz (M:Mk X.K C f) (F:Y6 X.prog X.w X.K X.mg X.base CX k f fd ps sp) (hr:Jr (k + 1) X.A) (hg:Gl X x) (hm:X.mg x=some (.ref C)) (hb:YAS X.K fd ps ds) (hd:Yq dvs ds) (hx:YAB CX X E)
  (ha:PA X (e :: es) t) (hdb:(x == ("__debug__":Str))=false:=by decide) (he:starEach (e :: es) X.env=(false,eval e X.env) :: starEach es X.env:=by rfl) (hpl:(backTo pos (starEach es X.env)).any (·.1)=false:=by rfl):
  PE X (.Call (.Name x p) (e :: es) [] pos) (tMake C sp dvs E t):=by
 intro pins s σ H Q I h;refine wpAny_Call_Name_kw (YC2 I hg hm ?_ hdb);refine PySem.W.callWith_K (h₀:=X.base) I.ok.mod.kin M.kp (thn (ha pos pins s σ H _ I h) fun us s1 ⟨vs,H1,I1,r,q⟩=>⟨I1.kIn,?_⟩) he hpl;exact YJt M F hr hb hd hx I1 r q
end
def PK (X:Cx) (kws:List Keyword) (t:TA):Prop:=
 ∀(pos:Pos) (pins:List (Addr×Obj)) (s:Shared) (σ:St) (H:Hp) (Q:List V→Hp→Prop),Inv X pins σ H s→t σ H Q→wpAny (model X.prog X.w) X.A (evalAll ((backToKw pos (keywordEach kws X.env)).map (·.2))) (AP X pins σ Q) X.xe s
section
variable {X:Cx}{CX:CXT}{k:Nat}{f C:Addr}{fd:FuncData}{ps ks:List Str}{sp:Sp}{E:XK}{x m:Str}{p pos apos kpos:Pos}{e o:Expr}{es:List Expr}{kws:List Keyword}{te ta:TE}{t tk:TA}{nm:Option Str}
theorem pk_nil:PK X [] tNil:=fun _ _ _ _ H Q I h=>wpAny_evalAll_nil ⟨[],H,I,.nil,h⟩
theorem pk_cons (ha:PE X e te) (hr:PK X kws t):PK X (⟨nm,e,kpos⟩ :: kws) (YHy te t):=by
 intro pos pins s σ H Q I h;show wpAny _ _ (evalAll ((do let v ←eval e X.env;standAt pos;pure v) :: (backToKw pos (keywordEach kws X.env)).map (·.2))) _ _ s;refine wpAny_evalAll_cons (wpAny_bind (thn (ha pins s σ H _ I h) fun u s1 ⟨x,H1,I1,r1,q1⟩=>wpAny_bind (wpAny_standAt (wpAny_pure ?_))));exact thn (hr pos pins s1 σ H1 _ I1 q1) fun us s2 ⟨xs,H2,I2,r2,q2⟩=>⟨x :: xs,H2,I2,.cons r1 r2,q2⟩
structure KBinds (K:W.Frag) (fd:FuncData) (ps ks:List Str) (g:List Value→List Value→List Value) (gV:List V→List V→List V):Prop where
 to:∀(s:Shared) (us ws:List Value),K.In s.heap→(g us ws).length=ps.length→BindsTo s fd ⟨us,ks.zip ws⟩ (ps.zip (g us ws))
 rel:∀{vs:List V}{us:List Value}{zs:List V}{ws:List Value},Yq vs us→Yq zs ws→Yq (gV vs zs) (g us ws)
variable {g:List Value→List Value→List Value}{gV:List V→List V→List V}
end
structure YV (N P:List Str) (sc:Scope):Prop where
 kind:sc.kind=.function
 co:sc.isCoroutine=false
 gen:sc.isGenerator=false
 nd:N.Nodup
 pre:N.take P.length=P
 par:∀x∈P,sc.names.lookup x=some .local∨sc.names.lookup x=some .cell
 nofree:∀y∈sc.names,y.2≠.free
theorem YEP {kindOf:Str→Option NameKind}{x:Str}:∀{binds:List (Str×Value)}{m:Str→Option Value},(∀v,(x,v)∉binds)→bindL kindOf binds m x=m x
 |[],_,_=>rfl
 |(n,v) :: r,m,h=>by
  unfold bindL;rw[YEP fun w hw=>h w (YLR _ hw)];split
  ·have:x≠n:=by rintro rfl;exact h v YLP
   simp[this]
  ·rfl
theorem YEQ {kindOf:Str→Option NameKind}{x:Str}:∀{binds:List (Str×Value)}{m:Str→Option Value},(∀v,(x,v)∉binds)→bindC kindOf binds m x=m x
 |[],_,_=>rfl
 |(n,v) :: r,m,h=>by
  unfold bindC;rw[YEQ fun w hw=>h w (YLR _ hw)];split
  ·rfl
  ·have:x≠n:=by rintro rfl;exact h v YLP
   simp[this]
theorem YER {kindOf:Str→Option NameKind}{x:Str}{v:Value}:∀{P:List Str}{vs:List Value}{i:Nat}{m:Str→Option Value},P.Nodup→P[i]?=some x→vs[i]?=some v→kindOf x=some .local→
  bindL kindOf (P.zip vs) m x=some v
 |[],_,_,_,_,h,_,_=>by simp at h
 |_ :: _,[],_,_,_,_,h,_=>by simp at h
 |p :: P,w :: vs,0,m,nd,h1,h2,hk=>by
  simp at h1 h2;subst h1;subst h2;show bindL kindOf ((p,w) :: P.zip vs) m p=_;unfold bindL;rw[YEP fun v hv=>(List.nodup_cons.mp nd).1 (List.of_mem_zip hv).1,if_pos hk];simp
 |p :: P,w :: vs,i + 1,m,nd,h1,h2,hk=>by
  show bindL kindOf ((p,w) :: P.zip vs) m x=_;unfold bindL;exact YER (i:=i) (List.nodup_cons.mp nd).2 (by simpa using h1) (by simpa using h2) hk
theorem YES {kindOf:Str→Option NameKind}{x:Str}{v:Value}:∀{P:List Str}{vs:List Value}{i:Nat}{m:Str→Option Value},P.Nodup→P[i]?=some x→vs[i]?=some v→kindOf x≠some .local→
  bindC kindOf (P.zip vs) m x=some v
 |[],_,_,_,_,h,_,_=>by simp at h
 |_ :: _,[],_,_,_,_,h,_=>by simp at h
 |p :: P,w :: vs,0,m,nd,h1,h2,hk=>by
  simp at h1 h2;subst h1;subst h2;show bindC kindOf ((p,w) :: P.zip vs) m p=_;unfold bindC;rw[YEQ fun v hv=>(List.nodup_cons.mp nd).1 (List.of_mem_zip hv).1,if_neg hk];simp
 |p :: P,w :: vs,i + 1,m,nd,h1,h2,hk=>by
  show bindC kindOf ((p,w) :: P.zip vs) m x=_;unfold bindC;exact YES (i:=i) (List.nodup_cons.mp nd).2 (by simpa using h1) (by simpa using h2) hk
def YBj (N:List Str) (vs:List V):St:=vs.map some ++ List.replicate (N.length - vs.length) none
def YCA (CX:CXT) (P:Program) (w:World) (K:W.Frag) (mg:Str→Option Value) (base:Heap) (N:List Str) (qual:Str) (scope:Scope) (f:Addr) (cd:Value) (A:Around) (outer:List Env) (s:Shared) (H:Hp) (E:XK):Cx where
 prog:=P
 w:=w
 K:=K
 mg:=mg
 base:=base
 A:=A.deeper (envOfC qual scope s.heap.objs.size f cd)
 N:=N
 s₀:=s
 H₀:=H
 env:=envOfC qual scope s.heap.objs.size f cd
 outer:=outer
 stack:=envOfC qual scope s.heap.objs.size f cd :: outer
 ex:=[]
 calm:=true
 fn:=fun _=>true
 pn:=[]
 xe:=fun e s'=>wpAny (model P w) (A.deeper (envOfC qual scope s.heap.objs.size f cd)) (leaving (envOfC qual scope s.heap.objs.size f cd) e) (fun _ s''=>CX outer H s E e s'') (fun e' s''=>CX outer H s E e' s'') s'
theorem X0 {sc:Scope}{n:Nat}{x:Str} (h:sc.names.lookup x=some .cell):∃c,(cellsFrom n sc.names []).lookup x=some c:=by
 have q:=PySem.W.cellsFrom_some sc.names n [] (.inl h);exact Option.isSome_iff_exists.mp q
theorem YI6 {CX:CXT}{P:Program}{w:World}{K:W.Frag}{mg:Str→Option Value}{base:Heap}{N ps:List Str}{qual:Str}{scope:Scope}{f:Addr}{cd:Value}{A:Around}{outer:List Env}{s s1:Shared}{H:Hp}{E:XK}{us:List Value}{vs:List V}
  (S:YV N ps scope) (hd:A.handled=none) (e0:Env0 P w K mg base A outer s H) (hl:vs.length=ps.length) (r:Yq vs us)
  (x:InCallC s s.heap.objs.size (bindL (envOfC qual scope s.heap.objs.size f cd).kindOf (ps.zip us) fun _=>none) (cellsFrom (s.heap.objs.size + 1) scope.names []) (bindC (envOfC qual scope s.heap.objs.size f cd).kindOf (ps.zip us) fun _=>none) s1):
  Inv (YCA CX P w K mg base N qual scope f cd A outer s H E) [] (YBj N vs) H s1:=by
 have hpl:ps.length≤N.length:=by have:=congrArg List.length S.pre;rw[List.length_take]at this;omega
 obtain⟨h1,tk,rfl,hk⟩:=x.done;have noA:∀b:Addr,b∉(YCA CX P w K mg base N qual scope f cd A outer s H E).ex:=fun b z=>absurd (show b∈([]:List Addr) from z) (by simp)
 refine⟨⟨e0.mod,S.kind,rfl,rfl,YLG _,fun y z c h1 h2=>?_,fun y hy=>?_,fun y c _ h=>?_,fun _=>hd,Around.frames_deeper e0.frames,.inr ⟨rfl,rfl⟩,fun b z=>absurd z (noA b),e0.bs,e0.bsz,fun b _ _=>noA b,fun b z=>absurd z (noA b),e0.funs,e0.frf⟩,
  rfl,e0.bare,Un.kept hk,⟨_,x.toInCall.ns,fun i y v h1 h2 h3=>?_⟩,fun y c h=>⟨_,x.cell y c h⟩,e0.hok.fresh (YLG _),fun y c h=>?_,fun p hp=>absurd (show p∈([]:List (Addr×Obj)) from hp) (by simp),e0.hok.kept hk,?_⟩
 ·exact name_of_addr x.apart (PySem.mem_of_lookup h1) (PySem.mem_of_lookup h2)
 ·have hy:scope.names.lookup y=some .cell∨scope.names.lookup y=some .free:=hy;rcases hy with hy |hy
  ·exact X0 hy
  ·exact absurd rfl (S.nofree _ (PySem.mem_of_lookup hy))
 ·exact Nat.le_of_lt (x.above y c (PySem.mem_of_lookup h))
 ·have hi:i < vs.length:=by
   unfold YBj at h2
   by_cases hi:i < vs.length
   ·exact hi
   ·rw[YLV (by simpa using hi)]at h2;rw[List.getElem?_replicate]at h2;split at h2 <;> cases h2
  have ha:vs[i]?=some v:=by
   unfold YBj at h2;rw[YLZ (by simpa using hi),YLI]at h2;cases e:vs[i]? with
   |none=>rw[e]at h2;cases h2
   |some a=>rw[e]at h2;cases h2;rfl
  obtain⟨u,hu,rv⟩:=r.get ha;have hp:ps[i]?=some y:=by
   rw[←S.pre,List.getElem?_take_of_lt (by omega)];exact h1
  have ndP:ps.Nodup:=by rw[←S.pre];exact S.nd.sublist (List.take_sublist _ _)
  refine⟨u,rv,?_⟩;rcases S.par y (YLH hp) with k |k
  ·exact .inl ⟨k,YER ndP hp hu k⟩
  ·obtain⟨c,e⟩:=X0 (n:=s.heap.objs.size + 1) k;refine .inr ⟨.inl k,c,e,?_⟩;have q:=x.cell y c e;rw[YES ndP hp hu (by show scope.names.lookup y≠_;rw[k];decide)]at q;exact q
 ·exact e0.hok.fresh (Nat.le_of_lt (x.above y c (PySem.mem_of_lookup h)))
 ·unfold YBj;show _=N.length;rw[YLE,YLD,List.length_replicate];omega
theorem fn_of {CX:CXT}{P:Program}{w:World}{K:W.Frag}{mg:Str→Option Value}{base:Heap}{k:Nat}{f:Addr}{name qual:Str}{params:Arguments}{body:List Stmt}{scope:Scope}{dV kV doc pm cdv ct oc:Value}{an od:Option Addr}
  {osl:Array (Option Value)}{N ps:List Str}{sp:Sp} (lk:K.lookup f=some ⟨oc,od,.func (PySem.W.fnOf name qual params body scope dV kV doc pm an cdv ct),osl⟩) (hcd:PySem.W.codeIn K cdv qual=true) (S:YV N ps scope)
  (len:∀vs H Q E,sp vs H Q E→vs.length=ps.length)
  (hbody:∀(A:Around) (outer:List Env) (s:Shared) (H:Hp) (vs:List V) (Q:VK) (E:XK),Jr k (A.deeper (envOfC qual scope s.heap.objs.size f cdv))→sp vs H Q E→
   ∃t,PSs (YCA CX P w K mg base N qual scope f cdv A outer s H E) body t∧t { nx:=fun _ H'=>Q .non H',rt:=Q } (YBj N vs) H):
  Y6 P w K mg base CX (k + 1) f (PySem.W.fnOf name qual params body scope dV kV doc pm an cdv ct) ps sp:=by
 refine⟨len,fun A outer s H args us vs Q E hr e0 hb r hsp=>?_⟩;have hl:=len _ _ _ _ hsp;have KX:K.In s.heap:=e0.mod.kin.keeps fun b o e=>(e0.bs b o e).1
 have lim:s.heap.NoLimit:=e0.mod.nolimit.keeps fun b o e=>(e0.bs b o e).1
 have hkind:∀y∈ps.zip us,scope.names.lookup y.1=some .local∨(scope.names.lookup y.1=some .cell∧((cellsFrom (s.heap.objs.size + 1) scope.names []).lookup y.1).isSome=true):=fun⟨n,v⟩ hy=>by
  rcases S.par n (List.of_mem_zip hy).1 with q |q
  ·exact .inl q
  ·exact .inr ⟨q,PySem.W.cellsFrom_some _ _ _ (.inl q)⟩
 refine codeAny_call_function hr.depth (KX _ _ lk) rfl S.co S.gen rfl (PySem.W.codeRec_of KX hcd) (hb _ _ _ _ ?_);refine wpAny_newFunctionEnv_cells S.kind hkind fun env he s1 x=>?_
 subst he;refine⟨lim.keeps x.toInCall.keep,codeAny_func ?_⟩;obtain⟨t,ht,hq⟩:=hbody A outer s H vs Q E (hr.deeper _) hsp;have I:Inv (YCA CX P w K mg base N qual scope f cdv A outer s H E) [] (YBj N vs) H s1:=YI6 S hr.hd e0 hl r x;refine wpAny_mono (ht [] s1 (YBj N vs) H _ I hq) (fun fl s' hs=>?_) fun e s' hs=>hs
 have fin:∀{σ':St}{H':Hp}{v:V}{u:Value},Inv (YCA CX P w K mg base N qual scope f cdv A outer s H E) [] σ' H' s'→Yx v u→Q v H'→CE outer P w H s Q u s':=
  fun{σ' H' v u} J rv q=>⟨v,H',J.os,J.bare,J.base,J.hok,rv,q⟩
 cases fl with
 |ret u=>
  obtain⟨v,σ',H',J,rv,q⟩:=hs;exact fin J rv q
 |next=>
  obtain⟨σ',H',J,q⟩:=hs;exact fin (v:=V.non) (u:=Value.none) J rfl q
 |brk=>
  obtain⟨_,_,_,q⟩:=hs;exact False.elim q
 |cont=>
  obtain⟨_,_,_,q⟩:=hs;exact False.elim q
end L2
namespace L2
open PySem PySem.Spec PyProof.Rows
section
variable {X:Cx}{x:Str}{p pos:Pos}{e:Expr}{es:List Expr}{t:TA}{id T:String}{r:List V→Hp→VK→Prop}
def tCB (r:List V→Hp→VK→Prop) (t:TA):TE:=fun σ H Q=>t σ H fun vs H1=>r vs H1 Q
theorem YR (hc:Jb X (.builtin id) r) (hg:Gl X x) (hm:X.mg x=none) (hv:bootBuiltins x=some (.builtin id)) (ha:PA X (e :: es) t) (hn:x≠"__name__":=by decide) (hdb:(x == ("__debug__":Str))=false:=by decide)
  (he:starEach (e :: es) X.env=(false,eval e X.env) :: starEach es X.env:=by rfl) (hpl:(backTo pos (starEach es X.env)).any (·.1)=false:=by rfl):PE X (.Call (.Name x p) (e :: es) [] pos) (tCB r t):=by
 intro pins s σ H Q I h;refine wpAny_Call_Name_kw (XE I hg hm hv ?_ hn hdb);exact PyProof.Rows.callWith_builtin1 (thn (ha pos pins s σ H _ I h) fun us s1 ⟨vs,H1,I1,r1,q1⟩=>hc pins s1 σ H1 vs us Q I1 r1 q1) he hpl
theorem Z2 (hc:Jb X (.type T) r) (hg:Gl X x) (hm:X.mg x=none) (hv:bootBuiltins x=some (.type T)) (ha:PA X (e :: es) t) (hn:x≠"__name__":=by decide) (hdb:(x == ("__debug__":Str))=false:=by decide)
  (he:starEach (e :: es) X.env=(false,eval e X.env) :: starEach es X.env:=by rfl) (hpl:(backTo pos (starEach es X.env)).any (·.1)=false:=by rfl):PE X (.Call (.Name x p) (e :: es) [] pos) (tCB r t):=by
 intro pins s σ H Q I h;refine wpAny_Call_Name_kw (XE I hg hm hv ?_ hn hdb);exact PyProof.Rows.callWith_type1 (thn (ha pos pins s σ H _ I h) fun us s1 ⟨vs,H1,I1,r1,q1⟩=>hc pins s1 σ H1 vs us Q I1 r1 q1) he hpl
end
end L2
namespace HT
open PySem PyProof.Rows
section
open PySem.SeqAt
open PySem.AutoSeq1 (wpAny_loadPart')
open PySem.MeetsSeq PySem.MeetsSeq2 PySem.MeetsSeq3
end
section
variable {prog:Program}{w:World}{A:Around}{E:Value→Shared→Prop}{s:Shared}
def sIx (n d:Nat):Option Int→Nat
 |none=>d
 |some v=>if v < 0 then (v + (n:Int)).toNat else min v.toNat n
theorem sIx_nat (n d k:Nat):sIx n d (some (k:Int))=min k n:=by
 show(if (k:Int) < 0 then ((k:Int) + (n:Int)).toNat else min (k:Int).toNat n)=min k n;rw[if_neg (by omega),Int.toNat_natCast]
end
end HT
namespace L2
open PySem PySem.Spec PyProof.Rows
abbrev TO:=St→Hp→(Option Int→Hp→Prop)→Prop
def PO (X:Cx) (e:Option Expr) (t:TO):Prop:=
 ∀(pins:List (Addr×Obj)) (s:Shared) (σ:St) (H:Hp) (Q:Option Int→Hp→Prop),Inv X pins σ H s→t σ H Q→
  wpAny (model X.prog X.w) X.A (evalPart e X.env) (fun u s'=>∃o H',Inv X pins σ H' s'∧IsPart u o∧Q o H') X.xe s
def tNoPart:TO:=fun _ H Q=>Q none H
inductive YJu (Q:Option Int→Hp→Prop) (x:V) (H1:Hp):Prop where
 |mk (i:_) (h0_:x=.int i) (h1_:Q (some i) H1):YJu Q x H1
def tPart (t:TE):TO:=fun σ H Q=>t σ H fun x H1=>YJu Q x H1
theorem YG8 {ns:List Int}:∀{us:List Value},Yq (ns.map V.int) us→IntsAre us ns:=by
 induction ns with
 |nil=>intro us r;rw[List.map_nil]at r;cases r;exact .nil
 |cons n ns ih=>
  intro us r;rw[YLS]at r;cases r with
  |cons r1 r2=>
   obtain⟨t,e⟩:=r1;subst e;exact .cons n t (ih r2)
section
variable {X:Cx}{e:Expr}{te:TE}{lo hi:Option Expr}{tl th:TO}{pos p2:Pos}
theorem YBk:PO X none tNoPart:=by
 intro pins s σ H Q I h;rw[evalPart_none];exact wpAny_pure ⟨none,H,I,.none,h⟩
theorem J5 (h:PE X e te):PO X (some e) (tPart te):=by
 intro pins s σ H Q I hw;rw[evalPart_some];refine thn (h pins s σ H _ I hw) fun u s1 ⟨x,H1,I1,r1,q1⟩=>?_
 obtain⟨i,rfl,q⟩:=q1;obtain⟨t,rfl⟩:=r1;exact⟨some i,H1,I1,.int i t,q⟩
def SlR (X:Cx) (r:V→Option Int→Option Int→Hp→VK→Prop):Prop:=
 ∀(pins:List (Addr×Obj)) (s:Shared) (σ:St) (H:Hp) (x:V) (v vl vu:Value) (lo hi:Option Int) (sl:Addr) (Q:VK),Inv X pins σ H s→Yx x v→s.heap.IsSliceOf sl vl vu .none→IsPart vl lo→IsPart vu hi→r x lo hi H Q→
  ∃T id,typeLookup (.type T) "__getitem__"=pure (some (.builtin id))∧s.TypeIs v T∧wpAny (model X.prog X.w) X.A (getItem v (.ref sl)) (EP X pins σ Q) X.xe s
def tSl (r:V→Option Int→Option Int→Hp→VK→Prop) (te:TE) (tl th:TO):TE:=fun σ H Q=>te σ H fun x H1=>tl σ H1 fun l H2=>th σ H2 fun u H3=>r x l u H3 Q
theorem XI {r:V→Option Int→Option Int→Hp→VK→Prop} (hr:SlR X r) (he:PE X e te) (hl:PO X lo tl) (hu:PO X hi th):PE X (.Subscript e (.Slice lo hi none p2) pos) (tSl r te tl th):=by
 intro pins s σ H Q I h;refine Subscript_ (thn (he pins s σ H _ I h) fun v s1 ⟨x,H1,I1,r1,q1⟩=>?_);refine wpAny_Slice (thn (hl pins s1 σ H1 _ I1 q1) fun vl s2 ⟨l,H2,I2,pl,q2⟩=>thn (hu pins s2 σ H2 _ I2 q2) fun vu s3 ⟨u,H3,I3,pu,q3⟩=>?_);rw[evalPart_none];refine wpAny_pure ?_;have I4:Inv X pins σ H3 { s3 with heap:=s3.heap.push { cls:=.type "slice",data:=.fields #[vl,vu,.none] } }:=I3.kept (t':=s3.toks) fun b ob q=>Heap.get?_push_of_some _ q
 obtain⟨T,id,hT,ht,hg⟩:=hr pins { s3 with heap:=s3.heap.push { cls:=.type "slice",data:=.fields #[vl,vu,.none] } } σ H3 x v vl vu l u s3.heap.objs.size Q I4 r1 (Heap.IsSliceOf.new ..) pl pu q3;show wpAny (model X.prog X.w) X.A (subscriptTail e (.Slice lo hi none p2) v (.ref s3.heap.objs.size)) (EP X pins σ Q) X.xe { s3 with heap:=s3.heap.push { cls:=.type "slice",data:=.fields #[vl,vu,.none] } };exact tail_any (ops:=[.ref s3.heap.objs.size,v]) ht hT hg (by with_unfolding_all rfl)
def YCB (xs:List V) (lo hi:Option Int):List V:=(xs.drop (HT.sIx xs.length 0 lo)).take (HT.sIx xs.length xs.length hi - HT.sIx xs.length 0 lo)
theorem YFi (xs:List V) (lo hi:Option Int):(YCB xs lo hi).length≤xs.length:=by
 unfold YCB;rw[List.length_take,YLd];omega
end
end L2
namespace L2
open PySem PySem.Spec PyProof.Rows
def ixN (n:Nat) (i:Int):Option Nat:=if 0≤i then (if i < n then some i.toNat else none) else if -(n:Int)≤i then some (i + n).toNat else none
def atI {α:Type} (xs:List α) (i:Int):Option α:=(ixN xs.length i).bind fun j=>xs[j]?
theorem ixN_seq {n:Nat}{i:Int}{j:Nat} (h:ixN n i=some j):seqIndex? i n=some j∧j < n∧-(n:Int)≤i∧i < n:=by
 unfold ixN at h
 by_cases h0:0≤i
 ·rw[if_pos h0]at h
  by_cases h1:i < n
  ·rw[if_pos h1]at h;have e:i.toNat=j:=Option.some.inj h;exact⟨by rw[seqIndex_of h0 h1,e],by omega,by omega,h1⟩
  ·rw[if_neg h1]at h;cases h
 ·rw[if_neg h0]at h
  by_cases h1:-(n:Int)≤i
  ·rw[if_pos h1]at h;have e:(i + n).toNat=j:=Option.some.inj h;exact⟨by rw[seqIndex_neg (by omega) h1,e],by omega,h1,by omega⟩
  ·rw[if_neg h1]at h;cases h
theorem YE7 {α:Type}{xs:List α}{i:Int}{v:α} (h:atI xs i=some v):∃j,seqIndex? i xs.length=some j∧xs[j]?=some v∧j < xs.length∧-(xs.length:Int)≤i∧i < xs.length:=by
 unfold atI at h;cases e:ixN xs.length i with
 |none=>rw[e]at h;cases h
 |some j=>
  rw[e]at h;obtain⟨h1,h2,h3,h4⟩:=ixN_seq e;exact⟨j,h1,h,h2,h3,h4⟩
theorem ZT {α:Type}{xs:List α}{j:Nat}{v:α} (h:xs[j]?=some v):atI xs (j:Int)=some v:=by
 have hj:j < xs.length:=(List.getElem?_eq_some_iff.mp h).1;have e:ixN xs.length (j:Int)=some j:=by
  unfold ixN;rw[if_pos (by omega),if_pos (by omega)];simp
 unfold atI;rw[e];exact h
theorem YFj {α:Type} (xs:List α) (v:α):atI (xs ++ [v]) (-1)=some v:=by
 have hl:(xs ++ [v]).length=xs.length + 1:=by simp
 have e:ixN (xs ++ [v]).length (-1)=some xs.length:=by
  unfold ixN;rw[hl,if_neg (by decide),if_pos (by omega)];congr 1;omega
 unfold atI;rw[e];show(xs ++ [v])[xs.length]?=some v;simp
def PlainIx (b:Expr):Prop:=∀o i,subscripted b false o i=operate [o,i] (getItem o i)
def IxR (X:Cx) (r:R2):Prop:=
 ∀(value slice:Expr) (pins:List (Addr×Obj)) (s:Shared) (σ:St) (H:Hp) (x y:V) (v u:Value) (Q:VK),Inv X pins σ H s→Yx x v→Yx y u→r x y H Q→
  subscripted slice false v u=operate [v,u] (getItem v u)→wpAny (model X.prog X.w) X.A (subscriptTail value slice v u) (EP X pins σ Q) X.xe s
def MtR (X:Cx) (id:String) (r:V→List V→Hp→VK→Prop):Prop:=
 ∀(pins:List (Addr×Obj)) (s:Shared) (σ:St) (H:Hp) (x:V) (xs:List V) (v:Value) (us:List Value) (Q:VK),Inv X pins σ H s→Yx x v→Yq xs us→r x xs H Q→
  wpAny (model X.prog X.w) X.A (call (.builtin id) (v :: us)) (EP X pins σ Q) X.xe s
section
variable {X:Cx}{a b:Expr}{ta tb:TE}{pos:Pos}
theorem YM {r:R2} (hr:IxR X r) (ha:PE X a ta) (hb:PE X b tb) (hs:PlainIx b):PE X (.Subscript a b pos) (tOp r ta tb):=by
 intro pins s σ H Q I h;exact Subscript_ (binT ha hb I h fun v u s2 x y H2 I2 rx ry q=>hr a b pins s2 σ H2 x y v u Q I2 rx ry q (hs _ _))
inductive rIxL_ (K:W.Frag) (x:V) (y:V) (H:Hp) (Q:VK):Prop where
 |mk (p:_) (xs:_) (i:_) (v:_) (h0_:x=.ref p) (h1_:y=.int i) (h2_:SqL K H p xs) (h3_:atI xs i=some v) (h4_:Q v H):rIxL_ K x y H Q
def rIxL (K:W.Frag):R2:=fun x y H Q=>rIxL_ K x y H Q
inductive rIxT_ (K:W.Frag) (x:V) (y:V) (H:Hp) (Q:VK):Prop where
 |mk (p:_) (xs:_) (i:_) (v:_) (h0_:x=.ref p) (h1_:y=.int i) (h2_:SqT K H p xs) (h3_:atI xs i=some v) (h4_:Q v H):rIxT_ K x y H Q
def rIxT (K:W.Frag):R2:=fun x y H Q=>rIxT_ K x y H Q
inductive rIxS_ (x:V) (y:V) (H:Hp) (Q:VK):Prop where
 |mk (z:_) (i:_) (c:_) (h0_:x=.str z) (h1_:y=.int i) (h2_:z.length≤sizeLine) (h3_:atI z.cps.toList i=some c) (h4_:Q (.str ⟨#[c]⟩) H):rIxS_ x y H Q
def rIxS:R2:=fun x y H Q=>rIxS_ x y H Q
theorem ix_list:IxR X (rIxL X.K):=by
 intro value slice pins s σ H x y v u Q I rx ry h hs;obtain⟨p,xs,i,z,rfl,rfl,hq,he,q⟩:=h;cases rx;obtain⟨t,rfl⟩:=ry;obtain⟨its,r,pl,hz⟩:=I.list hq;obtain⟨j,h1,h2,h3,h4,h5⟩:=YE7 he;obtain⟨w,ew,rw'⟩:=r.get h2;have hl:=r.length;have hn:=YAA;have fin:EP X pins σ Q w s:=⟨z,H,I,rw',q⟩
 by_cases h0:0≤i
 ·have hj:i.toNat=j:=by
   rw[seqIndex_of h0 h5]at h1;exact Option.some.inj h1
  exact item_listR pl.isList h0 (by omega) (by rw[hj];simpa using ew) fin hs
 ·have hj:(i + (its.toArray.size:Int)).toNat=j:=by
   rw[seqIndex_neg (by omega) h4]at h1;rw[YLL,←hl];exact Option.some.inj h1
  exact subscriptTail_builtinR (x:=w) pl.isList.typeIs slot_list_getitem.lookup
   (wpAny_getItem_list_neg (Q:=fun r s'=>r=w∧EP X pins σ Q r s') pl.isList (by omega) (by rw[YLL] <;> omega) (by omega) (by rw[hj];simpa using ew) ⟨rfl,fin⟩) hs
theorem ix_tup:IxR X (rIxT X.K):=by
 intro value slice pins s σ H x y v u Q I rx ry h hs;obtain⟨p,xs,i,z,rfl,rfl,hq,he,q⟩:=h;cases rx;obtain⟨t,rfl⟩:=ry;obtain⟨its,r,pl,hz⟩:=I.tuple hq;obtain⟨j,h1,h2,h3,h4,h5⟩:=YE7 he;obtain⟨w,ew,rw'⟩:=r.get h2;have hl:=r.length;have hn:=YAA;have fin:EP X pins σ Q w s:=⟨z,H,I,rw',q⟩;exact subscriptTail_builtinR (x:=w) pl.typeIs slot_tuple_getitem.lookup
  (getItem_tuple (j:=j) (Q:=fun r s'=>r=w∧EP X pins σ Q r s') pl (by omega) (by omega) (by rw[YLL,←hl];exact h1) (by simpa using ew) ⟨rfl,fin⟩) hs
theorem Z5:IxR X rIxS:=by
 intro value slice pins s σ H x y v u Q I rx ry h hs;obtain⟨z,i,c,rfl,rfl,hz,he,q⟩:=h;obtain⟨t,rfl⟩:=rx;obtain⟨t',rfl⟩:=ry;obtain⟨j,h1,h2,h3,h4,h5⟩:=YE7 he;have hl:z.cps.toList.length=z.length:=by simp[Str.length]
 rw[hl]at h1 h4 h5;have hn:=YAA;exact tail_any (typeIs_str s z t) slot_str_getitem.lookup (getItem_str (c:=c) (by
  have e1:decide (i < -(2 ^ 63:Int))=false:=decide_eq_false (by omega);have e2:decide (i≥2 ^ 63)=false:=decide_eq_false (by omega);rw[e1,e2,Bool.or_false]) (by rw[h1];simpa using h2) ⟨.str ⟨#[c]⟩,H,I.tok _,⟨_,rfl⟩,q⟩) hs
theorem YE8 (lo hi:Option Int) (n:Nat):(sliceBounds lo hi none n).1=((HT.sIx n 0 lo:Nat):Int)∧(sliceBounds lo hi none n).2.1=((HT.sIx n n hi:Nat):Int)∧(sliceBounds lo hi none n).2.2=1:=by
 refine⟨?_,?_,rfl⟩
 ·cases lo with
  |none=>simp[sliceBounds,HT.sIx]
  |some i=>
   simp only[sliceBounds,HT.sIx,Option.getD_none,show(1:Int) > 0 by decide,if_true]
   by_cases h:i < 0
   ·simp only[h,if_true] <;> omega
   ·simp only[h,if_false] <;> omega
 ·cases hi with
  |none=>simp[sliceBounds,HT.sIx]
  |some i=>
   simp only[sliceBounds,HT.sIx,Option.getD_none,show(1:Int) > 0 by decide,if_true]
   by_cases h:i < 0
   ·simp only[h,if_true] <;> omega
   ·simp only[h,if_false] <;> omega
theorem YD3 (its:List Value) (lo hi:Option Int):slicePick its.toArray lo hi none=((its.drop (HT.sIx its.length 0 lo)).take (HT.sIx its.length its.length hi - HT.sIx its.length 0 lo)).toArray:=by
 obtain⟨h1,h2,h3⟩:=YE8 lo hi its.toArray.size;unfold slicePick;rw[h1,h2,h3];simp only[sliceRange_one,pick_run,YLL] <;> rfl
inductive rSlL_ (K:W.Frag) (x:V) (lo:Option Int) (hi:Option Int) (H:Hp) (Q:VK):Prop where
 |mk (a:_) (xs:_) (h0_:x=.ref a) (h1_:SqL K H a xs) (h2_:∀p,H p=none→Q (.ref p) (upd H p (.lst (YCB xs lo hi)))):rSlL_ K x lo hi H Q
def rSlL (K:W.Frag):V→Option Int→Option Int→Hp→VK→Prop:=fun x lo hi H Q=>rSlL_ K x lo hi H Q
theorem sl_list:SlR X (rSlL X.K):=by
 intro pins s σ H x v vl vu lo hi sl Q I rx hs pl pu h;obtain⟨a,xs,rfl,hx,q⟩:=h;cases rx;obtain⟨its,r,ht,hz⟩:=I.list hx;have hlen:=r.length;refine⟨"list",_,slot_list_getitem.lookup,ht.isList.typeIs,?_⟩;refine wpAny_getItem_list_slice ht.isList hs pl pu .none (by simp) ?_ (by rw[YLL] <;> omega);rw[YD3,←hlen];refine⟨.ref s.heap.objs.size,_,I.laid (t':=s.toks) (o:=.lst (YCB xs lo hi)) (fun b ob q=>Heap.get?_push_of_some _ q) (YLG _) ?_,rfl,q _ (I.hok.fresh (YLG _))⟩;exact⟨YLb (YFi xs lo hi) hz,_,0,(r.drop (HT.sIx xs.length 0 lo)).take (HT.sIx xs.length xs.length hi - HT.sIx xs.length 0 lo),Heap.get?_push_size _ rfl⟩
theorem YE9:Jb X (.builtin "len") (fun xs H Q=>∃p ys,xs=[.ref p]∧(SqL X.K H p ys∨SqT X.K H p ys)∧Q (.int ys.length) H):=by
 intro pins s σ H xs us Q I r h;obtain⟨p,ys,rfl,hq,q⟩:=h;obtain⟨u,rfl,rx⟩:=Jc r;cases rx;have hn:=YAA;rcases hq with hq |hq
 ·obtain⟨its,r',pl,hz⟩:=I.list hq;have hlen:=r'.length;exact Calls.call_len_list pl.isList (by simp only[YLL] <;> omega) ⟨.int ys.length,H,I.tok _,⟨s.toks + 1,by rw[YLL,hlen]⟩,q⟩
 ·obtain⟨its,r',pl,hz⟩:=I.tuple hq;have hlen:=r'.length;exact len_tuple pl (by simp only[YLL] <;> omega) ⟨.int ys.length,H,I.tok _,⟨s.toks + 1,by rw[YLL,hlen]⟩,q⟩
theorem Zw:Jb X (.builtin "len") (fun xs H Q=>∃z,xs=[.str z]∧z.length≤sizeLine∧Q (.int z.length) H):=by
 intro pins s σ H xs us Q I r h;obtain⟨z,rfl,hz,q⟩:=h;obtain⟨u,rfl,t,rfl⟩:=Jc r;have hn:=YAA;exact len_str (by omega) ⟨.int z.length,H,I.tok _,⟨_,rfl⟩,q⟩
theorem YFA:Jb X (.type "list") (fun xs H Q=>∃p ys,xs=[.ref p]∧(SqL X.K H p ys∨SqT X.K H p ys)∧∀l,H l=none→Q (.ref l) (upd H l (.lst ys))):=by
 intro pins s σ H xs us Q I r h;obtain⟨p,ys,rfl,hq,q⟩:=h;obtain⟨u,rfl,rx⟩:=Jc r;cases rx;have fin:∀(its:List Value),Yq ys its→ys.length≤sizeLine→∀(h':Heap) (c':Nat),(∀b o',s.heap.get? b=some o'→h'.get? b=some o')→
   h'.get? s.heap.objs.size=some { cls:=.type "list",dict:=none,data:=.seq its.toArray c',slots:=#[] }→EP X pins σ Q (.ref s.heap.objs.size) { s with heap:=h' }:=fun its r' hz h' c' kp e=>
  ⟨.ref s.heap.objs.size,_,I.laid (t':=s.toks) kp (YLG _) (show Y8 X.prog X.w _ h' _ (.lst ys) from⟨hz,its,c',r',e⟩),rfl,q _ (I.hok.fresh (YLG _))⟩
 rcases hq with hq |hq
 ·obtain⟨its,r',pl,hz⟩:=I.list hq;have hlen:=r'.length;obtain⟨o,ho,hc,n,hd⟩:=pl.isList;exact call_list_seq p (.inl rfl) ho hc hd (fun h' c' kp e=>fin its r' hz h' c' kp e) (by simp only[YLL] <;> omega)
 ·obtain⟨its,r',pl,hz⟩:=I.tuple hq;have hlen:=r'.length;obtain⟨o,ho,hc,n,hd⟩:=pl;exact call_list_seq p (.inr rfl) ho hc hd (fun h' c' kp e=>fin its r' hz h' c' kp e) (by simp only[YLL] <;> omega)
theorem YD4:Jb X (.type "tuple") (fun xs H Q=>∃p ys,xs=[.ref p]∧((SqL X.K H p ys∧∀l,H l=none→Q (.ref l) (upd H l (.tup ys)))∨(SqT X.K H p ys∧Q (.ref p) H))):=by
 intro pins s σ H xs us Q I r h;obtain⟨p,ys,rfl,h⟩:=h;obtain⟨u,rfl,rx⟩:=Jc r;cases rx;rcases h with ⟨hq,q⟩ |⟨hq,q⟩
 ·obtain⟨its,r',pl,hz⟩:=I.list hq;have hlen:=r'.length;refine call_tuple_list pl.isList (fun h' kp=>?_) (by simp only[YLL] <;> omega);have I1:Inv X pins σ H { s with heap:=h' }:=I.kept (t':=s.toks) kp;have I2:Inv X pins σ (upd H h'.objs.size (.tup ys)) { s with heap:=h'.push { cls:=.type "tuple",data:=.seq its.toArray } }:=
   I1.laid (t':=s.toks) (fun b o e=>Heap.get?_push_of_some _ e) (YLG _) (show Y8 X.prog X.w _ _ _ (.tup ys) from⟨hz,its,r',IsTup.new _ _⟩)
  exact⟨.ref h'.objs.size,_,I2,rfl,q _ (I1.hok.fresh (YLG _))⟩
 ·obtain⟨its,r',pl,hz⟩:=I.tuple hq;exact call_tuple_same pl ⟨.ref p,H,I,rfl,q⟩
def tyV (K:W.Frag) (T:String) (x:V) (H:Hp):Prop:=match x with
 |.str _=>T="str"
 |.int _=>T="int"
 |.ref p=>(T="list"∧∃xs,SqL K H p xs)∨(T="tuple"∧∃o,K.lookup p=some o∧o.cls=.type "tuple"∧o.dict=none)∨
   (T="dict"∧((∃kvs,H p=some (.dK kvs))∨∃kvs,H p=some (.dT kvs)))∨(T="set"∧∃S n,H p=some (.set S n))
 |_=>False
theorem YJv {pins:List (Addr×Obj)}{σ:St}{H:Hp}{s:Shared}{T:String}{x:V}{v:Value} (I:Inv X pins σ H s) (r:Yx x v) (ty:tyV X.K T x H):
  s.TypeIs v T∧∀a,v=.ref a→∃ob,s.heap.get? a=some ob∧ob.dict=none:=by
 cases x with
 |str z=>
  obtain⟨t,rfl⟩:=r;cases (show T="str" from ty);exact⟨typeIs_str s z t,fun _ e=>nomatch e⟩
 |int i=>
  obtain⟨t,rfl⟩:=r;cases (show T="int" from ty);exact⟨typeIs_int s i t,fun _ e=>nomatch e⟩
 |ref p=>
  cases r;rcases ty with ⟨rfl,xs,hq⟩ |⟨rfl,o,hk,hc,hd⟩ |⟨rfl,hk⟩ |⟨rfl,S,n,hk⟩
  ·obtain⟨its,_,pl,_⟩:=I.list hq;refine⟨pl.isList.typeIs,fun a e=>?_⟩;cases e;obtain⟨o,n,e,c,hd,_⟩:=pl;exact⟨o,e,hd⟩
  ·refine⟨⟨o,I.kIn p o hk,hc⟩,fun a e=>?_⟩;cases e;exact⟨o,I.kIn _ o hk,hd⟩
  ·have z:∃o,s.heap.get? p=some o∧o.ExactDict:=by
    rcases hk with ⟨kvs,hk⟩ |⟨kvs,hk⟩
    ·obtain⟨_,_,_,_,o,_,_,e,ex,_⟩:=I.hok p _ hk;exact⟨o,e,ex⟩
    ·obtain⟨_,_,_,_,o,_,_,e,ex,_⟩:=I.hok p _ hk;exact⟨o,e,ex⟩
   obtain⟨o,e,ex⟩:=z;refine⟨⟨o,e,ex.1⟩,fun a e2=>?_⟩;cases e2;exact⟨o,e,ex.2.1⟩
  ·obtain⟨o,_,_,_,e,ex,_⟩:=I.hok p _ hk;refine⟨⟨o,e,ex.1⟩,fun a e2=>?_⟩;cases e2;exact⟨o,e,ex.2.1⟩
 |_=>exact False.elim ty
inductive tBM0_ (K:W.Frag) (T:String) (r:V→List V→Hp→VK→Prop) (Q:VK) (x:V) (H1:Hp):Prop where
 |mk (h0_:tyV K T x H1) (h1_:r x [] H1 Q):tBM0_ K T r Q x H1
def tBM0 (K:W.Frag) (T:String) (r:V→List V→Hp→VK→Prop) (to:TE):TE:=fun σ H Q=>to σ H fun x H1=>tBM0_ K T r Q x H1
inductive tBM_ (K:W.Frag) (T:String) (r:V→List V→Hp→VK→Prop) (t:TA) (σ:St) (Q:VK) (x:V) (H1:Hp):Prop where
 |mk (h0_:tyV K T x H1) (h1_:t σ H1 fun xs H2=>r x xs H2 Q):tBM_ K T r t σ Q x H1
def tBM (K:W.Frag) (T:String) (r:V→List V→Hp→VK→Prop) (to:TE) (t:TA):TE:=fun σ H Q=>to σ H fun x H1=>tBM_ K T r t σ Q x H1
variable {o e:Expr}{es:List Expr}{to:TE}{t:TA}{name:Str}{apos cpos:Pos}{T id:String}{r:V→List V→Hp→VK→Prop}
theorem pe_bm0 (pa:PlainAttrs T) (slot:Slot T name id) (hty:typeOf (.builtin id)=pure (.type "method_descriptor")) (hm:MtR X id r) (ho:PE X o to)
  (hbase:attributeBase o name X.env (eval o X.env)=eval o X.env:=by rfl) (hline:(apos.endLine == cpos.line)=true:=by rfl):PE X (.Call (.Attribute o name apos) [] [] cpos) (tBM0 X.K T r to):=by
 intro pins s σ H Q I h;refine wpAny_Call_method0_late hbase hline (thn (ho pins s σ H _ I h) fun v s1 ⟨x,H1,I1,r1,ty,q1⟩=>?_);obtain⟨h1,h2⟩:=YJv I1 r1 ty;exact⟨T,id,pa,slot,hty,h1,h2,Calls.callWith_builtin rfl (PySem.evalArgs_none (hm pins s1 σ H1 x [] v [] Q I1 r1 .nil q1))⟩
theorem pe_bm (pa:PlainAttrs T) (slot:Slot T name id) (hty:typeOf (.builtin id)=pure (.type "method_descriptor")) (hm:MtR X id r) (ho:PE X o to) (ha:PA X (e :: es) t)
  (hbase:attributeBase o name X.env (eval o X.env)=eval o X.env:=by rfl)
  (hfew:((backTo cpos (starEach (e :: es) X.env)).all (fun x=>!x.1) && (backToKw cpos (keywordEach [] X.env)).all (fun x=>x.1.isSome)
   && decide ((e :: es).length + ([]:List Keyword).length + (if ([]:List Keyword).isEmpty then 0 else 1) < 30))=true:=by rfl)
  (hline:(apos.endLine == cpos.line)=true:=by rfl) (hs:starEach (e :: es) X.env=(false,eval e X.env) :: starEach es X.env:=by rfl) (hplain:(backTo cpos (starEach es X.env)).any (·.1)=false:=by rfl):
  PE X (.Call (.Attribute o name apos) (e :: es) [] cpos) (tBM X.K T r to t):=by
 intro pins s σ H Q I h;refine wpAny_Call_method_late hbase hfew hline rfl (thn (ho pins s σ H _ I h) fun v s1 ⟨x,H1,I1,r1,ty,q1⟩=>?_);obtain⟨h1,h2⟩:=YJv I1 r1 ty;refine⟨T,id,pa,slot,hty,h1,h2,?_⟩;have hA:=ha cpos pins s1 σ H1 _ I1 q1;rw[hs]at hA ⊢;refine Calls.callWith_builtin (by show(false || (backTo cpos (starEach es X.env)).any (·.1))=false;rw[hplain] <;> rfl) (Calls.evalArgs_plain ?_);exact thn hA fun us s2 ⟨vs,H2,I2,r2,q2⟩=>hm pins s2 σ H2 x vs v us Q I2 r1 r2 q2
end
end L2
namespace L2
open PySem PySem.Spec PyProof.Rows
def MtM (X:Cx) (id:String) (r:V→List V→Hp→VK→Prop):Prop:=
 ∀(pins:List (Addr×Obj)) (s:Shared) (σ:St) (H:Hp) (x:V) (xs:List V) (v:Value) (us:List Value) (Q:VK),Inv X pins σ H s→Yx x v→Yq xs us→r x xs H Q→
  wpAny (model X.prog X.w) X.A (call (.builtin id) (v :: us)) (EP X pins σ Q) X.xe s
theorem Yq.one:∀{x:V}{us:List Value},Yq [x] us→∃u,us=[u]∧Yx x u
 |_,_,.cons r .nil=>⟨_,rfl,r⟩
theorem Yq.zero:∀{us:List Value},Yq [] us→us=[]
 |_,.nil=>rfl
theorem Yq.dropLast {xs:List V}{us:List Value} (h:Yq xs us):Yq xs.dropLast us.dropLast:=by
 induction h with
 |nil=>exact .nil
 |cons r t ih=>
  cases t with
  |nil=>exact .nil
  |cons q t'=>exact .cons r ih
theorem Yq.reverse {xs:List V}{us:List Value} (h:Yq xs us):Yq xs.reverse us.reverse:=by
 induction h with
 |nil=>exact .nil
 |cons r t ih=>rw[YLg,YLg];exact Yq.append ih (.cons r .nil)
theorem YG9 {α:Type} (l:List α):l.eraseIdx (l.length - 1)=l.dropLast:=by
 induction l with
 |nil=>rfl
 |cons a r ih=>
  cases r with
  |nil=>rfl
  |cons b r=>
   have e:(a :: b :: r).length - 1=((b :: r).length - 1) + 1:=by
    have h1:(a :: b :: r).length=r.length + 2:=rfl;have h2:(b :: r).length=r.length + 1:=rfl;omega
   rw[e,List.eraseIdx_cons_succ,ih]
   all_goals rfl
section
variable {X:Cx}{pins:List (Addr×Obj)}{σ:St}{H:Hp}{s:Shared}{l b:Addr}{xs ys zs:List V}
theorem Inv.lset {its its':List Value}{n:Nat}{f:Array Value→Array Value}{t':Nat} (I:Inv X pins σ H s) (hH:H l=some (.lst xs))
  (e:s.heap.get? l=some { cls:=.type "list",data:=.seq its.toArray n }) (hf:f its.toArray=its'.toArray) (hv:Yq ys its') (hz:ys.length≤sizeLine):
  Inv X pins σ (upd H l (.lst ys)) { s with heap:=s.heap.update l (Obj.mapSeq f),toks:=t' }:=by
 have q:=PySem.IsL.update e f;rw[hf]at q;refine I.write (x:=l) (e:=l) (by rw[hH];exact trivial) (.inl rfl) (fun b' u hb hu=>(Heap.get?_update_other s.heap (Obj.mapSeq f) (Ne.symm hb)).trans hu) ⟨_,q⟩ ?_;exact⟨hz,its',_,hv,q⟩
theorem Inv.lnew {its:List Value}{t':Nat} (I:Inv X pins σ H s) (hv:Yq ys its) (hz:ys.length≤sizeLine):
  Inv X pins σ (upd H s.heap.objs.size (.lst ys)) { s with heap:=s.heap.push { cls:=.type "list",data:=.seq its.toArray },toks:=t' }:=
 I.laid (fun _ _ q=>Heap.get?_push_of_some _ q) (YLG _) ⟨hz,its,0,hv,Heap.get?_push_size _ rfl⟩
theorem Inv.fresh (I:Inv X pins σ H s):H s.heap.objs.size=none:=I.hok.fresh (YLG _)
theorem Inv.lstM (I:Inv X pins σ H s) (hH:H l=some (.lst xs)):xs.length≤sizeLine∧∃(its:List Value) (n:Nat),Yq xs its∧xs.length=its.length∧s.heap.get? l=some { cls:=.type "list",data:=.seq its.toArray n }:=by
 obtain⟨z,its,n,r,e⟩:=I.hok l _ hH;exact⟨z,its,n,r,r.length,e⟩
theorem YJw {n:Nat} (h:n≤sizeLine):Builtin.List.listTooLong n=false:=by
 unfold Builtin.List.listTooLong;exact decide_eq_false (by omega)
end
section
variable {X:Cx}
inductive YFk (x:V) (vs:List V) (H:Hp) (Q:VK):Prop where
 |mk (l:_) (xs:_) (y:_) (h0_:x=.ref l) (h1_:vs=[y]) (h2_:H l=some (.lst xs)) (h3_:xs.length < sizeLine) (h4_:Q .non (upd H l (.lst (xs ++ [y])))):YFk x vs H Q
def rAppend:V→List V→Hp→VK→Prop:=fun x vs H Q=>YFk x vs H Q
theorem Yl:MtM X "list.append" rAppend:=by
 intro pins s σ H x vs v us Q I rx rv h;obtain⟨l,xs,y,rfl,rfl,hH,hz,q⟩:=h;cases rx;obtain⟨u,rfl,ru⟩:=rv.one;obtain⟨z,its,n,r,hl,e⟩:=I.lstM hH;refine call_meets F.slot_list_append ⟨_,e,rfl⟩ F.entry_list_append (F.args_list_append_2 _ _) (PySem.list_append l its.toArray n u (by rw[YLL];omega)) ⟨e,?_⟩;refine⟨.non,_,I.lset (its':=its ++ [u]) hH e (by simp) (r.append (.cons ru .nil)) ?_,rfl,q⟩;rw[YLE,List.length_singleton];omega
inductive YFl (x:V) (vs:List V) (H:Hp) (Q:VK):Prop where
 |mk (l:_) (b:_) (xs:_) (zs:_) (h0_:x=.ref l) (h1_:vs=[.ref b]) (h2_:H l=some (.lst xs)) (h3_:H b=some (.lst zs)) (h4_:xs.length + zs.length≤sizeLine) (h5_:Q .non (upd H l (.lst (xs ++ zs)))):YFl x vs H Q
def rExtend:V→List V→Hp→VK→Prop:=fun x vs H Q=>YFl x vs H Q
theorem YI7:MtM X "list.extend" rExtend:=by
 intro pins s σ H x vs v us Q I rx rv h;obtain⟨l,b,xs,zs,rfl,rfl,hH,hB,hz,q⟩:=h;cases rx;obtain⟨u,rfl,ru⟩:=rv.one;cases ru;obtain⟨z,its,n,r,hl,e⟩:=I.lstM hH;obtain⟨z2,its2,n2,r2,hl2,e2⟩:=I.lstM hB;have hsz:its.toArray.size + its2.toArray.size≤sizeLine:=by rw[YLL,YLL];omega
 have ux:¬(!its.toArray.isEmpty && Builtin.List.listTooLong (its.toArray.size + its2.toArray.size))=true:=by
  rw[YJw hsz,Bool.and_false];exact YLT
 refine call_meets F.slot_list_extend ⟨_,e,rfl⟩ F.entry_list_extend (F.args_list_extend_2 _ _)
  (AutoSeq1.list_extend_list_list_0 l its.toArray n b its2.toArray n2 ux (by rw[YLL];omega) (by omega)) ⟨e,e2,?_⟩
 refine⟨.non,_,I.lset (its':=its ++ its2) hH e (by simp) (r.append r2) ?_,rfl,q⟩;rw[YLE];omega
inductive rPop_ (x:V) (vs:List V) (H:Hp) (Q:VK):Prop where
 |mk (l:_) (xs:_) (y:_) (h0_:x=.ref l) (h1_:vs=[]) (h2_:H l=some (.lst xs)) (h3_:xs[xs.length - 1]?=some y) (h4_:Q y (upd H l (.lst xs.dropLast))):rPop_ x vs H Q
def rPop:V→List V→Hp→VK→Prop:=fun x vs H Q=>rPop_ x vs H Q
theorem YCC:MtM X "list.pop" rPop:=by
 intro pins s σ H x vs v us Q I rx rv h;obtain⟨l,xs,y,rfl,rfl,hH,hy,q⟩:=h;cases rx;have hus:=rv.zero;subst hus;obtain⟨z,its,n,r,hl,e⟩:=I.lstM hH;obtain⟨u,hu,ru⟩:=r.get hy;have hy':its.toArray[its.toArray.size - 1]?=some u:=by
  show its.toArray[its.length - 1]?=some u;rw[←Array.getElem?_toList,←hl];exact hu
 refine call_meets F.slot_list_pop ⟨_,e,rfl⟩ F.entry_list_pop (F.args_list_pop_1 _) (MeetsSeq.list_pop_last l its.toArray n u hy' (by rw[YLL];omega)) ⟨e,?_⟩;refine⟨y,_,I.lset (its':=its.dropLast) hH e ?_ r.dropLast ?_,ru,q⟩
 ·show its.toArray.eraseIdxIfInBounds (its.toArray.size - 1)=its.dropLast.toArray;rw[YLL,List.eraseIdxIfInBounds_toArray,YG9]
 ·rw[List.length_dropLast];omega
inductive YET (x:V) (vs:List V) (H:Hp) (Q:VK):Prop where
 |mk (l:_) (xs:_) (h0_:x=.ref l) (h1_:vs=[]) (h2_:H l=some (.lst xs)) (h3_:Q .non (upd H l (.lst xs.reverse))):YET x vs H Q
def YJx:V→List V→Hp→VK→Prop:=fun x vs H Q=>YET x vs H Q
theorem YDK:MtM X "list.reverse" YJx:=by
 intro pins s σ H x vs v us Q I rx rv h;obtain⟨l,xs,rfl,rfl,hH,q⟩:=h;cases rx;have hus:=rv.zero;subst hus;obtain⟨z,its,n,r,hl,e⟩:=I.lstM hH;refine call_meets F.slot_list_reverse ⟨_,e,rfl⟩ F.entry_list_reverse (F.args_list_reverse_1 _) (AutoSeq1.list_reverse_list_0 l its.toArray n (by rw[YLL];omega)) ⟨e,?_⟩;refine⟨.non,_,I.lset (its':=its.reverse) hH e (by simp) r.reverse ?_,rfl,q⟩;rw[YLa];omega
inductive rCat_ (x:V) (y:V) (H:Hp) (Q:VK):Prop where
 |mk (l:_) (b:_) (xs:_) (zs:_) (h0_:x=.ref l) (h1_:y=.ref b) (h2_:H l=some (.lst xs)) (h3_:H b=some (.lst zs)) (h4_:xs.length + zs.length≤sizeLine) (h5_:∀p,H p=none→Q (.ref p) (upd H p (.lst (xs ++ zs)))):rCat_ x y H Q
def rCat:R2:=fun x y H Q=>rCat_ x y H Q
theorem YFB:OpR X (binaryOp .Add) rCat:=by
 intro pins s σ H x y v u Q I rx ry h;obtain⟨l,b,xs,zs,rfl,rfl,hH,hB,hz,q⟩:=h;cases rx;cases ry;obtain⟨z,its,n,r,hl,e⟩:=I.lstM hH;obtain⟨z2,its2,n2,r2,hl2,e2⟩:=I.lstM hB;refine PySem.P.add_list e e2 ?_ (by rw[YLL,YLL];omega);have ea:its.toArray ++ its2.toArray=(its ++ its2).toArray:=by simp
 rw[ea];exact⟨.ref _,_,I.lnew (t':=s.toks) (r.append r2) (by rw[YLE];omega),rfl,q _ I.fresh⟩
end
section
variable {prog:Program}{w:World}{A:Around}{E:Value→Shared→Prop}{s:Shared}
set_option maxRecDepth 100000 in
end
section
variable {X:Cx}
end
end L2
namespace L2
open PySem PySem.Spec PyProof.Rows
section
variable {κ:Type} [DecidableEq κ]
def Yw (kvs:List (κ×V)) (k:κ):Option V:=(kvs.find? fun kv=>decide (kv.1=k)).map (·.2)
def Y4 (kvs:List (κ×V)) (k:κ) (v:V):List (κ×V):=
 if (kvs.any fun kv=>decide (kv.1=k))=true then kvs.map (fun kv=>if kv.1=k then (kv.1,v) else kv) else kvs ++ [(k,v)]
def dropK (kvs:List (κ×V)) (k:κ):List (κ×V):=kvs.filter fun kv=>decide (kv.1≠k)
theorem ZY {p:κ×V}{r:List (κ×V)}{k:κ} (e:p.1=k):Yw (p :: r) k=some p.2:=by simp[Yw,List.find?_cons,e]
theorem Zd {p:κ×V}{r:List (κ×V)}{k:κ} (e:¬p.1=k):Yw (p :: r) k=Yw r k:=by simp[Yw,List.find?_cons,e]
theorem XJ (k:κ):∀kvs:List (κ×V),(kvs.any fun kv=>decide (kv.1=k))=(Yw kvs k).isSome
 |[]=>rfl
 |p :: r=>by
  rw[List.any_cons]
  by_cases e:p.1=k
  ·simp only[ZY e,decide_eq_true e,Bool.true_or,Option.isSome_some]
  ·rw[Zd e,decide_eq_false e,Bool.false_or];exact XJ k r
theorem YFm (k j:κ) (y:V):∀kvs:List (κ×V),Yw (kvs.map fun kv=>if kv.1=k then (kv.1,y) else kv) j=(Yw kvs j).map fun x=>if j=k then y else x
 |[]=>rfl
 |p :: r=>by
  have ih:=YFm k j y r;rw[YLS]
  by_cases h:p.1=k
  ·rw[if_pos h]
   by_cases e:p.1=j
   ·rw[ZY (p:=(p.1,y)) e,ZY e,Option.map_some,if_pos (e.symm.trans h)]
   ·rw[Zd (p:=(p.1,y)) e,Zd e,ih]
  ·rw[if_neg h]
   by_cases e:p.1=j
   ·rw[ZY (p:=p) e,ZY e,Option.map_some,if_neg (fun z=>h (e.trans z))]
   ·rw[Zd (p:=p) e,Zd e,ih]
theorem YEU (k j:κ) (y:V):∀kvs:List (κ×V),Yw kvs k=none→Yw (kvs ++ [(k,y)]) j=if j=k then some y else Yw kvs j
 |[],_=>by
  by_cases e:k=j
  ·rw[if_pos e.symm];exact ZY (p:=(k,y)) e
  ·rw[if_neg (fun z=>e z.symm)];exact Zd (p:=(k,y)) e
 |p :: r,hn=>by
  rw[List.cons_append];have hk:¬p.1=k:=fun z=>by rw[ZY z]at hn;cases hn
  rw[Zd hk]at hn;have ih:=YEU k j y r hn
  by_cases e:p.1=j
  ·rw[ZY e,ZY e,if_neg (fun z=>hk (e.trans z))]
  ·rw[Zd e,Zd e,ih]
theorem Z6 (kvs:List (κ×V)) (k j:κ) (y:V):Yw (Y4 kvs k y) j=if j=k then some y else Yw kvs j:=by
 unfold Y4
 by_cases a:(kvs.any fun kv=>decide (kv.1=k))=true
 ·rw[if_pos a,YFm];rw[XJ]at a
  by_cases e:j=k
  ·obtain⟨x,hx⟩:=Option.isSome_iff_exists.mp a;rw[if_pos e,e,hx,Option.map_some,if_pos rfl]
  ·rw[if_neg e];cases Yw kvs j with
   |none=>rfl
   |some x=>rw[Option.map_some,if_neg e]
 ·rw[if_neg a];refine YEU k j y kvs ?_;rw[XJ]at a;cases q:Yw kvs k with
  |none=>rfl
  |some x=>rw[q]at a;exact(a rfl).elim
theorem Zu (kvs:List (κ×V)) (k:κ) (v:V):(Y4 kvs k v).length≤kvs.length + 1:=by
 unfold Y4;split
 ·rw[YLD];omega
 ·rw[YLE,YLM,List.length_nil];omega
theorem YFn {kvs:List (κ×V)}{k:κ} (v:V) (h:Yw kvs k=none):Y4 kvs k v=kvs ++ [(k,v)]:=by
 unfold Y4;rw[XJ,h];exact if_neg (by decide)
theorem YAV.isSome_eq {o:Option V}{u:Option Value} (r:YAV o u):o.isSome=u.isSome:=by
 cases o with
 |none=>cases u with
  |none=>rfl
  |some _=>exact(show False from r).elim
 |some _=>cases u with
  |none=>exact(show False from r).elim
  |some _=>rfl
theorem YAV.getD {o:Option V}{u:Option Value}{d:V}{d':Value} (r:YAV o u) (rd:Yx d d'):Yx (o.getD d) (u.getD d'):=by
 cases o with
 |none=>cases u with
  |none=>exact rd
  |some _=>exact(show False from r).elim
 |some _=>cases u with
  |none=>exact(show False from r).elim
  |some _=>exact r
theorem KV.val {kvs:List (κ×V)}{vs:List (κ×Value)} (r:KV kvs vs) (k:κ):YAV (Yw kvs k) (valueAt vs k):=by
 unfold KV at r
 induction r with
 |nil=>exact True.intro
 |@cons p q ps qs h t ih=>
  obtain⟨h1,h2⟩:=h
  by_cases e:p.1=k
  ·have e':q.1=k:=h1.symm.trans e;have b:valueAt (q :: qs) k=some q.2:=by simp[valueAt,List.find?_cons,e']
   rw[ZY e,b];exact h2
  ·have e':¬q.1=k:=fun z=>e (h1.trans z)
   have b:valueAt (q :: qs) k=valueAt qs k:=by simp[valueAt,List.find?_cons,e']
   rw[Zd e,b];exact ih
theorem KV.any {kvs:List (κ×V)}{vs:List (κ×Value)} (r:KV kvs vs) (k:κ):(kvs.any fun kv=>decide (kv.1=k))=vs.any fun kv=>decide (kv.1=k):=by
 unfold KV at r
 induction r with
 |nil=>rfl
 |cons h t ih=>rw[List.any_cons,List.any_cons,ih,h.1]
theorem KV.repl {kvs:List (κ×V)}{vs:List (κ×Value)} (r:KV kvs vs) (k:κ) {y:V}{u:Value} (ry:Yx y u):
  KV (kvs.map fun kv=>if kv.1=k then (kv.1,y) else kv) (vs.map fun kv=>if kv.1=k then (kv.1,u) else kv):=by
 unfold KV at r ⊢
 induction r with
 |nil=>exact .nil
 |@cons p q ps qs h t ih=>
  rw[YLS,YLS];refine .cons ?_ ih;obtain⟨h1,h2⟩:=h
  by_cases e:p.1=k
  ·rw[if_pos e,if_pos (h1.symm.trans e)];exact⟨h1,ry⟩
  ·rw[if_neg e,if_neg (fun z=>e (h1.trans z))];exact⟨h1,h2⟩
theorem KV.put {kvs:List (κ×V)}{vs:List (κ×Value)} (r:KV kvs vs) (k:κ) {y:V}{u:Value} (ry:Yx y u):KV (Y4 kvs k y) (stored vs k u):=by
 unfold Y4 stored;rw[r.any k]
 by_cases e:(vs.any fun kv=>decide (kv.1=k))=true
 ·rw[if_pos e,if_pos e];exact r.repl k ry
 ·rw[if_neg e,if_neg e];exact Paired.snoc r ⟨rfl,ry⟩
theorem KV.length {kvs:List (κ×V)}{vs:List (κ×Value)} (r:KV kvs vs):kvs.length=vs.length:=Paired.length r
end
theorem YCd {P:Program}{w:World}{k:Key}{u:Value} (r:Yx (kV k) u):(Yn P w).is k u=true:=by
 cases k with
 |inl i=>obtain⟨t,e⟩:=(show ∃t,u=Value.int i t from r);subst e;exact YFf P w i t
 |inr x=>obtain⟨t,e⟩:=(show ∃t,u=Value.str x t from r);subst e;exact YFg P w x t
theorem YEV {P:Program}{w:World}:∀{ks:List Key}{us:List Value},Yq (ks.map kV) us→ItemsAre (Yn P w) ks us
 |[],_,r=>by rw[List.map_nil]at r;cases r;exact .nil
 |k :: ks,_,r=>by
  rw[YLS]at r;cases r with
  |cons h t=>exact .cons (YCd h) (YEV t)
abbrev KT (H:Hp):List (List Key×V)→List (List Key×Addr×Value)→Prop:=Paired fun p q=>p.1=q.1∧H q.2.1=some (.tup (p.1.map kV))∧Yx p.2 q.2.2
theorem KT.val {H:Hp}{kvs:List (List Key×V)}{xs:List (List Key×Addr×Value)} (r:KT H kvs xs) (k:List Key):YAV (Yw kvs k) ((atKey xs k).map (·.2)):=by
 induction r with
 |nil=>exact True.intro
 |@cons p q ps qs h t ih=>
  obtain⟨h1,_,h2⟩:=h
  by_cases e:p.1=k
  ·have e':q.1=k:=h1.symm.trans e;have b:atKey (q :: qs) k=some q.2:=by simp[atKey,List.find?_cons,e']
   rw[ZY e,b];exact h2
  ·have e':¬q.1=k:=fun z=>e (h1.trans z)
   have b:atKey (q :: qs) k=atKey qs k:=by simp[atKey,List.find?_cons,e']
   rw[Zd e,b];exact ih
theorem KT.repl {H:Hp}{kvs:List (List Key×V)}{xs:List (List Key×Addr×Value)} (r:KT H kvs xs) (k:List Key) {y:V}{u:Value} (ry:Yx y u):
  KT H (kvs.map fun kv=>if kv.1=k then (kv.1,y) else kv) (xs.map (putAt k u)):=by
 induction r with
 |nil=>exact .nil
 |@cons p q ps qs h t ih=>
  rw[YLS,YLS];refine .cons ?_ ih;obtain⟨h1,h2,h3⟩:=h;unfold putAt
  by_cases e:p.1=k
  ·rw[if_pos e,if_pos (h1.symm.trans e)];exact⟨h1,h2,ry⟩
  ·rw[if_neg e,if_neg (fun z=>e (h1.trans z))];exact⟨h1,h2,h3⟩
theorem KT.put {H:Hp}{kvs:List (List Key×V)}{xs:List (List Key×Addr×Value)} (r:KT H kvs xs) (k:List Key) {b:Addr}{y:V}{u:Value} (hb:H b=some (.tup (k.map kV))) (ry:Yx y u):
  KT H (Y4 kvs k y) (storedH xs k b u):=by
 have e:(kvs.any fun kv=>decide (kv.1=k))=(atKey xs k).isSome:=by
  rw[XJ,(r.val k).isSome_eq,Option.isSome_map]
 unfold Y4 storedH;rw[e]
 by_cases q:(atKey xs k).isSome=true
 ·rw[if_pos q,if_pos q];exact r.repl k ry
 ·rw[if_neg q,if_neg q];exact Paired.snoc r ⟨rfl,hb,ry⟩
theorem KT.keeps {H H':Hp}{kvs:List (List Key×V)}{xs:List (List Key×Addr×Value)} (r:KT H kvs xs) (ht:∀b ys,H b=some (.tup ys)→H' b=some (.tup ys)):KT H' kvs xs:=
 Paired.mapP r fun _ _ z=>⟨z.1,ht _ _ z.2.1,z.2.2⟩
section
variable {P:Program}{w:World}{H:Hp}{h:Heap}{a:Addr}
theorem rd_of {u:HO} (ok:HOk P w H h) (e:Rd H a u):Y8 P w H h a u:=e.ok ok
theorem YDL {kvs:List (Key×V)} (ok:HOk P w H h) (e:Rd H a (.dK kvs)):kvs.length≤sizeLine∧(a == sysModules)=false∧∃vs,KV kvs vs∧h.DictOf (Yn P w) a vs:=
 show Y8 P w H h a (.dK kvs) from rd_of ok e
theorem dk_of {kvs:List (Key×V)} (ok:HOk P w H h) (e:H a=some (.dK kvs)):kvs.length≤sizeLine∧(a == sysModules)=false∧∃vs,KV kvs vs∧h.DictOf (Yn P w) a vs:=YDL ok (.inl e)
theorem YBN {ks:List Key} (ok:HOk P w H h) (e:H a=some (.tup (ks.map kV))):(tupleKind (Yn P w)).is h ks a:=by
 obtain⟨_,its,r,o,h1,h2,n,h3⟩:=(show Y8 P w H h a (.tup (ks.map kV)) from ok a _ e);exact⟨o,its.toArray,n,h1,h2,h3,by simpa using YEV r⟩
theorem YDM {kvs:List (List Key×V)} (ok:HOk P w H h) (e:Rd H a (.dT kvs)):kvs.length≤sizeLine∧(a == sysModules)=false∧
  ∃xs,KT H kvs xs∧h.DictOfH (tupleKind (Yn P w)) a xs:=by
 obtain⟨z,y,xs,r,o,es,ep,h1,h2,h3,h4,h5⟩:=(show Y8 P w H h a (.dT kvs) from rd_of ok e);refine⟨z,y,xs,r,o,es,ep,h1,h2,h3,h4,fun x hx=>?_,h5⟩;have all:∀{l:List (List Key×V)}{m:List (List Key×Addr×Value)},KT H l m→∀x∈m,(tupleKind (Yn P w)).is h x.1 x.2.1:=by
  intro l m q
  induction q with
  |nil=>intro x hx;exact nomatch hx
  |@cons p q ps qs hq t ih=>
   intro x hx;rcases List.mem_cons.mp hx with e |hx
   ·subst e;exact YBN ok (by rw[←hq.1];exact hq.2.1)
   ·exact ih x hx
 exact all r x hx
theorem dt_of {kvs:List (List Key×V)} (ok:HOk P w H h) (e:H a=some (.dT kvs)):kvs.length≤sizeLine∧(a == sysModules)=false∧
  ∃xs,KT H kvs xs∧h.DictOfH (tupleKind (Yn P w)) a xs:=YDM ok (.inl e)
end
def Jz (H:Hp) (a:Addr) (y:V) (r:Option V):Prop:=
 (∃kvs k,Rd H a (.dK kvs)∧y=kV k∧r=Yw kvs k)∨∃kvs k b,Rd H a (.dT kvs)∧y=.ref b∧H b=some (.tup (k.map kV))∧r=Yw kvs k
def YCD (H:Hp) (a:Addr) (y v:V) (H':Hp):Prop:=
 (∃kvs k,H a=some (.dK kvs)∧y=kV k∧kvs.length < sizeLine∧H'=upd H a (.dK (Y4 kvs k v)))∨
 ∃kvs k b,H a=some (.dT kvs)∧y=.ref b∧H b=some (.tup (k.map kV))∧kvs.length < sizeLine∧H'=upd H a (.dT (Y4 kvs k v))
theorem Jz.k {H:Hp}{a:Addr}{kvs:List (Key×V)}{k:Key} (e:H a=some (.dK kvs)):Jz H a (kV k) (Yw kvs k):=.inl ⟨kvs,k,.inl e,rfl,rfl⟩
theorem Jz.t {H:Hp}{a b:Addr}{kvs:List (List Key×V)}{k:List Key} (e:H a=some (.dT kvs)) (eb:H b=some (.tup (k.map kV))):Jz H a (.ref b) (Yw kvs k):=.inr ⟨kvs,k,b,.inl e,rfl,eb,rfl⟩
theorem YCD.k {H:Hp}{a:Addr}{kvs:List (Key×V)}{k:Key}{v:V} (e:H a=some (.dK kvs)) (hl:kvs.length < sizeLine):YCD H a (kV k) v (upd H a (.dK (Y4 kvs k v))):=.inl ⟨kvs,k,e,rfl,hl,rfl⟩
theorem YCD.t {H:Hp}{a b:Addr}{kvs:List (List Key×V)}{k:List Key}{v:V} (e:H a=some (.dT kvs)) (eb:H b=some (.tup (k.map kV))) (hl:kvs.length < sizeLine):
  YCD H a (.ref b) v (upd H a (.dT (Y4 kvs k v))):=.inr ⟨kvs,k,b,e,rfl,eb,hl,rfl⟩
section
variable {X:Cx}{pins:List (Addr×Obj)}{σ:St}{H:Hp}{s:Shared}{a:Addr}{y v:V}{u r:Value}{o:Option V}{A:Around}{E:Value→Shared→Prop}
theorem Inv.big (I:Inv X pins σ H s):sysModules < s.heap.objs.size:=by
 have h:mainGlobals < s.heap.objs.size:=(I.mod.glob.keeps I.bk).lt;exact Nat.lt_trans (by decide) h
theorem YI8 {Q:Value→Shared→Prop} (hu:A.units + 1 < cLine) (I:Inv X pins σ H s) (g:Jz H a y (some v)) (ry:Yx y u) (h:∀w' s',Inv X pins σ H s'→Yx v w'→Q w' s'):
  wpAny (model X.prog X.w) A (getItem (.ref a) u) Q E s:=by
 rcases g with ⟨kvs,k,e,ey,l⟩ |⟨kvs,k,b,e,ey,eb,l⟩
 ·subst ey;obtain⟨z,hd,vs,rel,dd⟩:=YDL I.hok e;obtain⟨w',hw,rw'⟩:=YAV.some_of (v:=v) (o:=valueAt vs k) (by rw[l];exact rel.val k);exact wpAny_getItem_of (YCd ry) dd.mapOf hw (h w' _ (I.tok _) rw')
 ·subst ey;cases (show u=Value.ref b from ry);obtain⟨z,hd,xs,rel,dd⟩:=YDM I.hok e;obtain⟨w',hw,rw'⟩:=YAV.some_of (v:=v) (o:=(atKey xs k).map (·.2)) (by rw[l];exact rel.val k);obtain⟨p,hp,hp2⟩:=Option.map_eq_some_iff.mp hw;refine wpAny_getItem_heap (tupleKind_room_in1 hu) (YBN I.hok eb) dd hp ?_;rw[hp2];exact h w' _ (I.tok _) rw'
theorem d_in {Q:Value→Shared→Prop} (hu:A.units + 1 < cLine) (I:Inv X pins σ H s) (g:Jz H a y o) (ry:Yx y u) (h:∀s',Inv X pins σ H s'→Q (.bool o.isSome) s'):
  wpAny (model X.prog X.w) A (compareOp .In u (.ref a)) Q E s:=by
 rcases g with ⟨kvs,k,e,ey,l⟩ |⟨kvs,k,b,e,ey,eb,l⟩
 ·subst ey;obtain⟨z,hd,vs,rel,dd⟩:=YDL I.hok e;refine wpAny_in_of (YCd ry) hd dd.mapOf ?_;rw[←(rel.val k).isSome_eq,←l];exact h _ (I.tok _)
 ·subst ey;cases (show u=Value.ref b from ry);obtain⟨z,hd,xs,rel,dd⟩:=YDM I.hok e;refine wpAny_in_heap (tupleKind_room_in1 hu) (YBN I.hok eb) hd dd ?_;have q:=(rel.val k).isSome_eq;rw[Option.isSome_map]at q;rw[←q,←l];exact h _ (I.tok _)
theorem d_notIn {Q:Value→Shared→Prop} (hu:A.units + 1 < cLine) (I:Inv X pins σ H s) (g:Jz H a y o) (ry:Yx y u) (h:∀s',Inv X pins σ H s'→Q (.bool (!o.isSome)) s'):
  wpAny (model X.prog X.w) A (compareOp .NotIn u (.ref a)) Q E s:=by
 rcases g with ⟨kvs,k,e,ey,l⟩ |⟨kvs,k,b,e,ey,eb,l⟩
 ·subst ey;obtain⟨z,hd,vs,rel,dd⟩:=YDL I.hok e;refine wpAny_notIn_of (YCd ry) hd dd.mapOf ?_;rw[←(rel.val k).isSome_eq,←l];exact h _ (I.tok _)
 ·subst ey;cases (show u=Value.ref b from ry);obtain⟨z,hd,xs,rel,dd⟩:=YDM I.hok e;refine wpAny_notIn_heap (tupleKind_room_in1 hu) (YBN I.hok eb) hd dd ?_;have q:=(rel.val k).isSome_eq;rw[Option.isSome_map]at q;rw[←q,←l];exact h _ (I.tok _)
theorem YBl {h':Heap}{t':Nat}{ob:HO} (I:Inv X pins σ H s) (mu:Mut (H a)) (hs:Heap.SameBut a s.heap h') (he:∃q,h'.get? a=some q) (new:Y8 X.prog X.w (upd H a ob) h' a ob):
  Inv X pins σ (upd H a ob) { s with heap:=h',toks:=t' }:=
 I.write (x:=a) (e:=a) mu (.inl rfl) (fun b q hb z=>(hs.2 b hb).trans z) he new
theorem YHA {P:Program}{w:World}{H':Hp}{h':Heap}{kvs:List (Key×V)}{vs:List (Key×Value)} (z:kvs.length≤sizeLine) (hd:(a == sysModules)=false) (rel:KV kvs vs) (dd:h'.DictOf (Yn P w) a vs):
  Y8 P w H' h' a (.dK kvs):=⟨z,hd,vs,rel,dd⟩
theorem YI9 {H':Hp}{Q:Unit→Shared→Prop} (hu:A.units + 1 < cLine) (I:Inv X pins σ H s) (g:YCD H a y v H') (ry:Yx y u) (rv:Yx v r) (h:∀s',Inv X pins σ H' s'→Q () s'):
  wpAny (model X.prog X.w) A (setItem (.ref a) u r) Q E s:=by
 rcases g with ⟨kvs,k,e,ey,l,eH⟩ |⟨kvs,k,b,e,ey,eb,l,eH⟩
 ·subst ey eH;obtain⟨z,hd,vs,rel,dd⟩:=dk_of I.hok e;have hz:vs.length≤sizeLine:=by rw[←rel.length];exact z
  have hl:(Y4 kvs k v).length≤sizeLine:=by have:=Zu kvs k v;omega
  refine wpAny_setItem_pairs (hsz:=hz) (YCd ry) dd fun h' dd' hs=>h _ ?_
  have he:∃q,h'.get? a=some q:=let ⟨q,_,_,hq,_⟩:=dd';⟨q,hq⟩
  exact YBl I (by rw[e];exact True.intro) hs he (YHA hl hd (rel.put k rv) dd')
 ·subst ey eH;cases (show u=Value.ref b from ry);obtain⟨z,hd,xs,rel,dd⟩:=dt_of I.hok e;have hz:xs.length≤sizeLine:=by rw[←Paired.length rel];exact z
  have hl:(Y4 kvs k v).length≤sizeLine:=by have:=Zu kvs k v;omega
  refine wpAny_setItem_heap (hsz:=hz) (tupleKind_room_in1 hu) (YBN I.hok eb) dd fun h' dd' hs=>h _ ?_
  obtain⟨q,es,ep,hq,h2,h3,h4,_,h5⟩:=dd';refine YBl I (by rw[e];exact True.intro) hs ⟨q,hq⟩ ⟨hl,hd,_,(rel.put k eb rv).keeps fun c ys ec=>?_,q,es,ep,hq,h2,h3,h4,h5⟩;rw[YE (Yr ec e nofun)];exact ec
end
section
variable {X:Cx}{pins:List (Addr×Obj)}{σ:St}{H:Hp}{s:Shared}{a:Addr}{kvs:List (Key×V)}{k:Key}{u:Value}{A:Around}{E:Value→Shared→Prop}
end
def NoSl (i:Expr):Prop:=∀ov iv,subscripted i false ov iv=operate [ov,iv] (getItem ov iv)
theorem subD_of {prog:Program}{w:World}{A:Around}{E:Value→Shared→Prop}{s:Shared}{env:Env}{value slice:Expr}{pos:Pos}{T id:String}{Q:Value→Shared→Prop}
  (hl:typeLookup (.type T) "__getitem__"=pure (some (.builtin id))) (hs:NoSl slice)
  (h:wpAny (model prog w) A (eval value env) (fun o s₁=>wpAny (model prog w) A (eval slice env) (fun i s₂=>s₂.TypeIs o T∧wpAny (model prog w) A (getItem o i) Q E s₂) E s₁) E s):
  wpAny (model prog w) A (eval (.Subscript value slice pos) env) Q E s:=by
 refine Subscript_ (wpAny_mono h (fun o s₁ h₁=>wpAny_mono h₁ (fun i s₂ h₂=>?_) fun _ _ x=>x) fun _ _ x=>x);obtain⟨hT,h₂⟩:=h₂;unfold subscriptTail;refine wpAny_bind ?_;rw[getitemInPython_of_ne hT.not_modules];refine wpAny_bind (wpAny_specialOf hT hl ?_);have fin:wpAny (model prog w) A (subscripted slice false o i) (fun r s₃=>wpAny (model prog w) A (letTemporaryGo value o r >>= fun _=>pure r) Q E s₃) E s₂:=by
  rw[hs o i];exact wpAny_operating (wpAny_mono h₂ (fun r s₃ h₃=>wpAny_bind (wpAny_letTemporaryGo (wpAny_pure h₃))) fun _ _ x=>x)
 first
  |exact wpAny_pure (wpAny_bind fin)
  |exact wpAny_bind (wpAny_pure (wpAny_bind fin))
  |exact wpAny_bind fin
theorem YFo {X:Cx}{pins:List (Addr×Obj)}{σ:St}{H:Hp}{s:Shared}{a:Addr}{y:V}{o:Option V} (I:Inv X pins σ H s) (g:Jz H a y o):s.TypeIs (.ref a) "dict":=by
 rcases g with ⟨kvs,k,e,_,_⟩ |⟨kvs,k,b,e,_,_,_⟩
 ·obtain⟨_,_,vs,_,dd⟩:=YDL I.hok e;exact dd.typeIs
 ·obtain⟨_,_,xs,_,dd⟩:=YDM I.hok e;exact dd.typeIs
inductive YJy (Q:VK) (x:V) (y:V) (H2:Hp):Prop where
 |mk (a:_) (v:_) (h0_:x=.ref a) (h1_:Jz H2 a y (some v)) (h2_:Q v H2):YJy Q x y H2
def tDGet (td ty:TE):TE:=fun σ H Q=>td σ H fun x H1=>ty σ H1 fun y H2=>YJy Q x y H2
inductive tDIn_ (Q:VK) (y:V) (x:V) (H2:Hp):Prop where
 |mk (a:_) (o:_) (h0_:x=.ref a) (h1_:Jz H2 a y o) (h2_:Q (.bl o.isSome) H2):tDIn_ Q y x H2
def tDIn (ty td:TE):TE:=fun σ H Q=>ty σ H fun y H1=>td σ H1 fun x H2=>tDIn_ Q y x H2
inductive YFp (Q:VK) (y:V) (x:V) (H2:Hp):Prop where
 |mk (a:_) (o:_) (h0_:x=.ref a) (h1_:Jz H2 a y o) (h2_:Q (.bl (!o.isSome)) H2):YFp Q y x H2
def YH0 (ty td:TE):TE:=fun σ H Q=>ty σ H fun y H1=>td σ H1 fun x H2=>YFp Q y x H2
inductive YJz (D:YAY) (σ:St) (v:V) (x:V) (y:V) (H3:Hp):Prop where
 |mk (a:_) (H4:_) (h0_:x=.ref a) (h1_:YCD H3 a y v H4) (h2_:D.nx σ H4):YJz D σ v x y H3
def sDPut (td ty tv:TE):TS:=fun D σ H=>tv σ H fun v H1=>td σ H1 fun x H2=>ty σ H2 fun y H3=>YJz D σ v x y H3
section
variable {X:Cx}{o i e value:Expr}{pos pos' tpos:Pos}{td ty tv:TE}
theorem Xe (hu:X.A.units + 1 < cLine) (ho:PE X o td) (hi:PE X i ty) (hs:NoSl i):PE X (.Subscript o i pos) (tDGet td ty):=by
 intro pins s σ H Q I h;refine subD_of PySem.F.slot_dict_getitem.lookup hs (thn (ho pins s σ H _ I h) fun u s1 ⟨x,H1,I1,rx,q1⟩=>thn (hi pins s1 σ H1 _ I1 q1) fun iv s2 ⟨y,H2,I2,ry,a,v,ex,g,q2⟩=>?_);subst ex;obtain rfl:u=Value.ref a:=rx;exact⟨YFo I2 g,YI8 hu I2 g ry fun w' s3 I3 rw'=>⟨v,H2,I3,rw',q2⟩⟩
theorem YHB (hu:X.A.units + 1 < cLine) (hi:PE X i ty) (ho:PE X o td):PC X .In i o (tDIn ty td):=by
 intro pins s σ H Q I h;refine thn (hi pins s σ H _ I h) fun iv s1 ⟨y,H1,I1,ry,q1⟩=>thn (ho pins s1 σ H1 _ I1 q1) fun u s2 ⟨x,H2,I2,rx,a,ov,ex,g,q2⟩=>?_
 subst ex;obtain rfl:u=Value.ref a:=rx;exact d_in hu I2 g ry fun s3 I3=>⟨.bl ov.isSome,H2,I3,rfl,q2⟩
theorem Jd (hu:X.A.units + 1 < cLine) (hi:PE X i ty) (ho:PE X o td):PC X .NotIn i o (YH0 ty td):=by
 intro pins s σ H Q I h;refine thn (hi pins s σ H _ I h) fun iv s1 ⟨y,H1,I1,ry,q1⟩=>thn (ho pins s1 σ H1 _ I1 q1) fun u s2 ⟨x,H2,I2,rx,a,ov,ex,g,q2⟩=>?_
 subst ex;obtain rfl:u=Value.ref a:=rx;exact d_notIn hu I2 g ry fun s3 I3=>⟨.bl (!ov.isSome),H2,I3,rfl,q2⟩
theorem YAC (hu:X.A.units + 1 < cLine) (ho:PE X o td) (hi:PE X i ty) (hv:PE X value tv) (hs:swapsWith value (some (.Subscript o i pos')) pos.line X.env=pure false):
  PS X (.Assign [.Subscript o i pos'] value pos) (sDPut td ty tv):=by
 intro pins s σ H D I h;refine wpAny_Assign_Subscript (thn (hv pins s σ H _ I h) fun r s1 ⟨v,H1,I1,rv,q1⟩=>thn (ho pins s1 σ H1 _ I1 q1) fun u s2 ⟨x,H2,I2,rx,q2⟩=>thn (hi pins s2 σ H2 _ I2 q2) fun iv s3 ⟨y,H3,I3,ry,a,H4,ex,g,q3⟩=>?_) hs;subst ex;obtain rfl:u=Value.ref a:=rx;exact YI9 hu I3 g ry rv fun s4 I4=>⟨σ,H4,I4,q3⟩
end
theorem YFq {P:Program}{w:World}{H:Hp} (h:Heap) (hb:sysModules < h.objs.size):Y8 P w H (h.push { cls:=.type "dict",data:=.dict #[] }) h.objs.size (.dK []):=
 ⟨YLN _,beq_eq_false_iff_ne.mpr (Ne.symm (YLY hb)),[],.nil,Heap.DictOf.new h⟩
theorem YJ0 {P:Program}{w:World}{H:Hp} (h:Heap) (hb:sysModules < h.objs.size):Y8 P w H (h.push { cls:=.type "dict",data:=.dict #[] }) h.objs.size (.dT []):=
 ⟨YLN _,beq_eq_false_iff_ne.mpr (Ne.symm (YLY hb)),[],.nil,_,#[],0,Heap.get?_push_size _ rfl,⟨rfl,rfl,rfl⟩,rfl,rfl,List.nodup_nil⟩
def tDNewK:TE:=fun _ H Q=>∀p,H p=none→Q (.ref p) (upd H p (.dK []))
def tDNewT:TE:=fun _ H Q=>∀p,H p=none→Q (.ref p) (upd H p (.dT []))
section
variable {X:Cx}{pos:Pos}
theorem YFr:PE X (.Dict [] [] pos) tDNewK:=fun pins s σ H Q I h=>
 wpAny_Dict_empty ⟨.ref s.heap.objs.size,_,I.laid (a:=s.heap.objs.size) (o:=.dK []) (t':=s.toks) (fun _ _ q=>Heap.get?_push_of_some _ q) (YLG _) (YFq s.heap I.big),rfl,h _ (I.hok.fresh (YLG _))⟩
theorem YAb:PE X (.Dict [] [] pos) tDNewT:=fun pins s σ H Q I h=>
 wpAny_Dict_empty ⟨.ref s.heap.objs.size,_,I.laid (a:=s.heap.objs.size) (o:=.dT []) (t':=s.toks) (fun _ _ q=>Heap.get?_push_of_some _ q) (YLG _) (YJ0 s.heap I.big),rfl,h _ (I.hok.fresh (YLG _))⟩
end
def YHC:List (TE×TE)→St→Hp→(List (V×V)→Hp→Prop)→Prop
 |[],_,H,Q=>Q [] H
 |(tk,tv) :: r,σ,H,Q=>tk σ H fun x H1=>tv σ H1 fun y H2=>YHC r σ H2 fun ps H3=>Q ((x,y) :: ps) H3
abbrev VV:List (V×V)→List (Value×Value)→Prop:=Paired fun p q=>Yx p.1 q.1∧Yx p.2 q.2
def PPs (X:Cx) (pos:Pos) (keys:List (Option Expr)) (values:List Expr) (trs:List (TE×TE)):Prop:=
 ∀(pins:List (Addr×Obj)) (s:Shared) (σ:St) (H:Hp) (Q:List (V×V)→Hp→Prop),Inv X pins σ H s→YHC trs σ H Q→
  wpAny (model X.prog X.w) X.A (evalPairs (pairTrees keys values X.env pos)) (fun vs s'=>∃ps H',Inv X pins σ H' s'∧VV ps vs∧Q ps H') X.xe s
theorem pps_nil {X:Cx}{pos:Pos}:PPs X pos [] [] []:=fun pins s σ H Q I h=>pairTrees_nil_walk ⟨[],H,I,.nil,h⟩
theorem YJ1 {X:Cx}{pos:Pos}{k v:Expr}{ks:List (Option Expr)}{vs:List Expr}{tk tv:TE}{trs:List (TE×TE)} (hk:PE X k tk) (hv:PE X v tv) (hr:PPs X pos ks vs trs):
  PPs X pos (some k :: ks) (v :: vs) ((tk,tv) :: trs):=fun pins s σ H Q I h=>
 pairTrees_cons_walk (thn (hk pins s σ H _ I h) fun u s1 ⟨x,H1,I1,rx,q1⟩=>thn (hv pins s1 σ H1 _ I1 q1) fun w2 s2 ⟨y,H2,I2,ry,q2⟩=>
  thn (hr pins s2 σ H2 _ I2 q2) fun ws s3 ⟨ps,H3,I3,rel,q3⟩=>⟨(x,y) :: ps,H3,I3,.cons ⟨rx,ry⟩ rel,q3⟩)
def YAD (kvs more:List (Key×V)):List (Key×V):=more.foldl (fun acc kv=>Y4 acc kv.1 kv.2) kvs
theorem KV.merge:∀{more:List (Key×V)}{rs:List (Key×Value)}{kvs:List (Key×V)}{vs:List (Key×Value)},KV more rs→KV kvs vs→KV (YAD kvs more) (merged vs rs):=by
 intro more rs kvs vs r;unfold KV at r
 induction r generalizing kvs vs with
 |nil=>intro q;exact q
 |@cons p q ps qs h t ih=>
  intro r0;have e:KV (Y4 kvs p.1 p.2) (stored vs q.1 q.2):=by
   have:=r0.put p.1 h.2;rw[←h.1];exact this
  exact ih e
theorem YBF:∀(more kvs:List (Key×V)),(YAD kvs more).length≤kvs.length + more.length
 |[],kvs=>by show kvs.length≤kvs.length + 0;omega
 |p :: r,kvs=>by
  have h1:=YBF r (Y4 kvs p.1 p.2);have h2:=Zu kvs p.1 p.2;show(YAD (Y4 kvs p.1 p.2) r).length≤_;rw[YLM];omega
theorem YDN {P:Program}{w:World}:∀{kvs:List (Key×V)}{ws:List (Value×Value)},VV (kvs.map fun kv=>(kV kv.1,kv.2)) ws→∃rs,Carries (Yn P w) ws rs∧KV kvs rs
 |[],_,r=>by rw[List.map_nil]at r;cases r;exact⟨[],True.intro,.nil⟩
 |p :: kvs,_,r=>by
  rw[YLS]at r;cases r with
  |@cons a b as bs h t=>
   obtain⟨rs,c,q⟩:=YDN (P:=P) (w:=w) t;obtain⟨b1,b2⟩:=b;exact⟨(p.1,b2) :: rs,⟨YCd h.1,rfl,c⟩,.cons ⟨rfl,h.2⟩ q⟩
def tDisp (trs:List (TE×TE)):TE:=fun σ H Q=>∀p,H p=none→YHC trs σ (upd H p (.dK [])) fun ps H2=>H2 p=some (.dK [])∧∃kvs:List (Key×V),ps=kvs.map (fun kv=>(kV kv.1,kv.2))∧kvs.length≤15∧Q (.ref p) (upd H2 p (.dK (YAD [] kvs)))
theorem pe_disp {X:Cx}{pos:Pos}{keys:List (Option Expr)}{values:List Expr}{trs:List (TE×TE)} (h:PPs X pos keys values trs) (hall:keys.all (·.isSome)=true) (hl:keys.length=values.length) (h0:keys≠[])
  (h15:keys.length≤15):PE X (.Dict keys values pos) (tDisp trs):=by
 intro pins s σ H Q I q;have hn:=I.hok.fresh (YLG s.heap.objs.size);have I1:=I.laid (a:=s.heap.objs.size) (o:=.dK []) (h':=s.heap.push { cls:=.type "dict",data:=.dict #[] }) (t':=s.toks) (fun _ _ q=>Heap.get?_push_of_some _ q) (YLG _) (YFq s.heap I.big);refine wpAny_Dict_walk (knd:=Yn X.prog X.w) hall hl h0 h15 (thn (h pins _ σ _ _ I1 (q _ hn)) fun ws s2 ⟨ps,H2,I2,rel,e,kvs,ep,lk,q2⟩=>?_);subst ep;obtain⟨rs,c,rk⟩:=YDN (P:=X.prog) (w:=X.w) rel;obtain⟨z,hd,vs0,r0,dd⟩:=dk_of I2.hok e;cases r0;refine⟨rs,c,dd,fun h' dd' hs=>⟨.ref s.heap.objs.size,_,?_,rfl,q2⟩⟩;have hz:(YAD [] kvs).length≤sizeLine:=by
  have h1:=YBF kvs [];rw[List.length_nil]at h1;rw[sizeLine_eq];omega
 have he:∃q,h'.get? s.heap.objs.size=some q:=let ⟨q,_,_,hq,_⟩:=dd';⟨q,hq⟩
 exact YBl I2 (by rw[e];exact True.intro) hs he (YHA hz hd (rk.merge .nil) dd')
structure M1 (X:Cx) (o:Expr) (m:Str) (apos:Pos) (e:Expr) (cpos:Pos):Prop where
 base:attributeBase o m X.env (eval o X.env)=eval o X.env
 few:((backTo cpos (starEach [e] X.env)).all (fun x=>!x.1) && (backToKw cpos (keywordEach [] X.env)).all (fun x=>x.1.isSome)
  && decide (([e]:List Expr).length + ([]:List Keyword).length + (if ([]:List Keyword).isEmpty then 0 else 1) < 30))=true
 line:(apos.endLine == cpos.line)=true
 trees:backTo cpos (starEach [e] X.env)=[(false,eval e X.env)]
structure M2 (X:Cx) (o:Expr) (m:Str) (apos:Pos) (e f:Expr) (cpos:Pos):Prop where
 base:attributeBase o m X.env (eval o X.env)=eval o X.env
 few:((backTo cpos (starEach [e,f] X.env)).all (fun x=>!x.1) && (backToKw cpos (keywordEach [] X.env)).all (fun x=>x.1.isSome)
  && decide (([e,f]:List Expr).length + ([]:List Keyword).length + (if ([]:List Keyword).isEmpty then 0 else 1) < 30))=true
 line:(apos.endLine == cpos.line)=true
 trees:backTo cpos (starEach [e,f] X.env)=[(false,eval e X.env),(false,eval f X.env)]
def IsD (H:Hp) (a:Addr):Prop:=(∃kvs,Rd H a (.dK kvs))∨∃kvs,Rd H a (.dT kvs)
theorem YHD {X:Cx}{pins:List (Addr×Obj)}{σ:St}{H:Hp}{s:Shared}{a:Addr} (I:Inv X pins σ H s) (d:IsD H a):
  s.TypeIs (.ref a) "dict"∧(∀b,Value.ref a=.ref b→∃ob,s.heap.get? b=some ob∧ob.dict=none)∧(a == sysModules)=false:=by
 rcases d with ⟨kvs,e⟩ |⟨kvs,e⟩
 ·obtain⟨_,hd,vs,_,dd⟩:=YDL I.hok e;refine⟨dd.typeIs,fun b q=>?_,hd⟩;cases q;obtain⟨ob,_,_,h1,h2,_⟩:=dd;exact⟨ob,h1,h2.2.1⟩
 ·obtain⟨_,hd,xs,_,dd⟩:=YDM I.hok e;refine⟨dd.typeIs,fun b q=>?_,hd⟩;cases q;obtain⟨ob,_,_,h1,h2,_⟩:=dd;exact⟨ob,h1,h2.2.1⟩
section
variable {X:Cx}{pins:List (Addr×Obj)}{σ:St}{H:Hp}{s:Shared}{a:Addr}{y d:V}{u r:Value}{o:Option V}{A:Around}{E:Value→Shared→Prop}
theorem d_get2 {Q:Value→Shared→Prop} (hu:A.units + 1 < cLine) (I:Inv X pins σ H s) (g:Jz H a y o) (ry:Yx y u) (rd:Yx d r) (h:∀w' s',Inv X pins σ H s'→Yx (o.getD d) w'→Q w' s'):
  wpAny (model X.prog X.w) A (call (.builtin "dict.get") [.ref a,u,r]) Q E s:=by
 rcases g with ⟨kvs,k,e,ey,l⟩ |⟨kvs,k,b,e,ey,eb,l⟩
 ·subst ey;obtain⟨z,hd,vs,rel,dd⟩:=YDL I.hok e;refine call_meetsIn PySem.F.slot_dict_get dd.typeIs PySem.F.entry_dict_get (PySem.F.args_dict_get_3 _ _ _) (meets_dict_get_default (Yn X.prog X.w) a (YCd ry) hd r) ⟨_,dd.mapOf,h _ _ (I.tok _) ?_⟩;rw[l];exact(rel.val k).getD rd
 ·subst ey;cases (show u=Value.ref b from ry);obtain⟨z,hd,xs,rel,dd⟩:=YDM I.hok e;refine call_meetsIn PySem.F.slot_dict_get dd.typeIs PySem.F.entry_dict_get (PySem.F.args_dict_get_3 _ _ _) (meetsH_dict_get_default (tupleKind (Yn X.prog X.w)) a b hd r) ⟨tupleKind_room_in1 hu,k,xs,YBN I.hok eb,dd,h _ _ (I.tok _) ?_⟩;rw[l];exact(rel.val k).getD rd
end
def tDGet2 (td ty tx:TE):TE:=fun σ H Q=>td σ H fun x H1=>∃a,x=.ref a∧IsD H1 a∧ty σ H1 fun y H2=>tx σ H2 fun z H3=>∃o,Jz H3 a y o∧Q (o.getD z) H3
section
variable {X:Cx}{o e f:Expr}{apos cpos:Pos}{td ty tx:TE}
theorem YDO (hu:X.A.units + 1 < cLine) (ho:PE X o td) (he:PE X e ty) (hf:PE X f tx) (m:M2 X o "get" apos e f cpos):PE X (.Call (.Attribute o "get" apos) [e,f] [] cpos) (tDGet2 td ty tx):=by
 intro pins s σ H Q I h;refine wpAny_Call_method m.base m.few m.line PySem.F.plainAttrs_dict PySem.F.slot_dict_get PySem.F.type_dict_get (thn (ho pins s σ H _ I h) fun u s1 ⟨x,H1,I1,rx,a,ex,d,q1⟩=>?_);subst ex;obtain rfl:u=Value.ref a:=rx;obtain⟨t1,t2,_⟩:=YHD I1 d;refine⟨t1,t2,?_⟩;rw[m.trees];refine Calls.callWith_builtin rfl (Calls.evalArgs_plain (Calls.spliced_cons (thn (he pins s1 σ H1 _ I1 q1) fun iv s2 ⟨y,H2,I2,ry,q2⟩=>
  Calls.spliced_cons (thn (hf pins s2 σ H2 _ I2 q2) fun fv s3 ⟨z,H3,I3,rz,ov,g,q3⟩=>Calls.spliced_nil ?_))))
 exact d_get2 hu I3 g ry rz fun w' s4 I4 rw'=>⟨_,H3,I4,rw',q3⟩
end
section
variable {X:Cx}{pins:List (Addr×Obj)}{σ:St}{H:Hp}{s:Shared}{a:Addr}{kvs:List (Key×V)}{A:Around}{E:Value→Shared→Prop}
end
section
variable {X:Cx}{pins:List (Addr×Obj)}{σ:St}{H:Hp}{s:Shared}{a:Addr}{y:V}{u:Value}{A:Around}{E:Value→Shared→Prop}
end
end L2
namespace Att
open PySem PySem.W PySem.Calls PyProof.Rows
theorem YCp {P:Params}{h:Heap}:∀(ns:List Int) (vs:List Value),WellAll P h vs (ns.map WData.int)→IntsAre vs ns:=by
 intro ns
 induction ns with
 |nil=>
  intro vs w;rw[List.map_nil]at w;cases w;exact .nil
 |cons n ns ih=>
  intro vs w;rw[YLS]at w;cases w with
  |cons a b=>
   cases a;exact .cons _ _ (ih _ b)
theorem YJA {l:OpenLaw}{n:Nat} (hn:l.most=some n) {P:Params}{h:Heap}{args:List WData}{vals:List Value}
  (hpre:l.row.toRowW.claim.pre args=true) (hwl:WellAll P h vals args):
  ∃a vs ns,vals=[Value.ref a]∧args=[WData.list (ns.map WData.int)]∧h.get? a=some { cls:=.type "list",data:=.seq vs.toArray }∧IntsAre vs ns∧ns.length≤n:=by
 have hsh:WShape.hasAll [] args [.list .int]=true:=(pre_splitW hpre).1;have hc:l.pre.holds [] { args:=args }=true:=(pre_splitW hpre).2;obtain⟨d,r,rfl,h1,h2⟩:=hasAllW_cons hsh;obtain rfl:=hasAllW_nil h2;obtain⟨xs,rfl,h3⟩:=hasW_list h1;obtain⟨ns,rfl⟩:=items_int h3;have hlen:ns.length≤n:=by
  unfold OpenLaw.pre at hc;have h4:(WTm.not (.lt (.lit (.int (n:Int))) (.len (.arg 0)))).holds [] { args:=[.list (ns.map .int)] }=true:=by
   have h4:=(holds_andW hc).1;rw[hn]at h4;exact h4
  have h5:=condW_of h4 (w_not (w_lt w_lit (w_len_list (w_arg rfl))));rw[YLD]at h5;refine Nat.le_of_not_lt fun q=>?_
  have q':(n:Int) < ((ns.length:Nat):Int):=by omega
  first
   |(rw[decide_eq_true q']at h5;exact absurd h5 (by decide))
   |(simp at h5;omega)
 cases hwl with
 |cons w1 w2=>
  cases w2;cases w1 with
  |list ho hall=>exact⟨_,_,ns,rfl,rfl,ho,YCp ns _ hall,hlen⟩
theorem YJB (l:OpenLaw) (args:List WData):l.row.toRowW.claim.post args (.bool true) args=true:=
 postW_of (r:=l.row.toRowW) (X:=(true == true))
  (show WShape.has [] (.bool true) .bool=true by first |rfl |decide |simp[WShape.has,WShape.arms,WShape.armsAll])
  (show(WTm.eq .res (.lit (.bool true))).value [] { args:=args,res:=some (.bool true),after:=args }=some (.bool (true == true)) from w_eq_bool (w_res rfl) w_lit) rfl
theorem YFs {l:OpenLaw}{n:Nat}{q:Program}{loose:List Str}{XP:(Str→Option Value)→Heap→Prop}{YP:World→Heap→Prop}{d:DefRec}
  (hn:l.most=some n) (hdf:d.params.defaults=[])
  (call:∀(w:World) (s₀ s₁:Shared) (mg mb:Str→Option Value) (fa:Addr) (o:Obj) (pm cd doc:Value) (a:Addr) (vs:List Value) (ns:List Int),
   Ground q loose [] XP w s₀ mg mb s₁.heap→YP w s₁.heap→
   s₁.heap.get? fa=some o→o.data=.func (docDef d.name d.params d.body d.scope pm cd doc)→s₁.heap.CodeRec cd d.name→mg d.name=some (.ref fa)→
   s₁.heap.get? a=some { cls:=.type "list",data:=.seq vs.toArray }→IntsAre vs ns→ns.length≤n→s₁.gens=#[]→
   codeAny (model l.prog w) callerA (.call (.ref fa) ⟨[.ref a],[]⟩) (fun r s'=>r=.ok (.ret (.bool true))∧OldK s₁.heap s'.heap∧s'.os=s₁.os∧AllBare s'.gens) s₁):
  WalkO q loose XP YP l.row.toRowW d [] (fun f vs=>PySem.call f vs):=by
 intro w s₀ s₁ mg mb G Y fa o pm cd doc dV kV ho hd hcd hD hmg hg args vals as hpre hlay hrd hwl hlo;obtain rfl:dV=.none:=Dflts.none hD hdf;obtain rfl:kV=.none:=Dflts.noKw hD;obtain⟨a,vs,ns,rfl,rfl,hobj,hints,hlen⟩:=YJA hn hpre hwl;refine enter_call (codeAny_mono (call w s₀ s₁ mg mb fa o pm cd doc a vs ns G Y ho (fd_plain hd) hcd hmg hobj hints hlen hg) fun r s' hq=>?_);obtain⟨rfl,h2,h3,h4⟩:=hq;exact⟨.inl ⟨.bool true,.bool true,[],rfl,fun _=>rfl,.bool true,YJB l _,fun _=>⟨List.Pairwise.nil,fun _ hm=>(nomatch hm)⟩⟩,h2,h3,h4⟩
section
variable {prog:Program}{w:World}{A:Around}{E:Value→Shared→Prop}{s:Shared}{K:Frag}
end
end Att
namespace L2
open PySem PySem.Spec PyProof.Rows
theorem YCE:∀{vs:List Value}{ns:List Int},IntsAre vs ns→Yq (ns.map V.int) vs
 |_,_,.nil=>.nil
 |_,_,.cons n t h=>.cons ⟨t,rfl⟩ (YCE h)
def Only (H:Hp):Prop:=∀b,H b=none∨∃o xs,H b=some (.frz o (.lst xs))
theorem YJ2 {P:Program}{w:World}{K:W.Frag}{mg mb:Str→Option Value}{CX:CXT}{k:Nat}{fa a:Addr}{fd:FuncData}{x:Str}{sp:Sp}{s₁:Shared}{vs:List Value}{ns:List Int}
  (KX:K.In s₁.heap) (hns:s₁.heap.Ns mainGlobals mg) (hb:s₁.heap.Ns builtinsNs mb) (hbb:∀x:Str,x≠"__name__"→mb x=bootBuiltins x) (hlim:s₁.heap.NoLimit) (hg:s₁.gens=#[])
  (ha:s₁.heap.get? a=some { cls:=.type "list",data:=.seq vs.toArray }) (hi:IntsAre vs ns) (hl:ns.length≤sizeLine) (hr:Jr k callerA)
  (F:∀base:Heap,K.In base→base.Ns mainGlobals mg→Y6 P w K mg base CX k fa fd [x] sp) (hbind:∀(s:Shared) (u:Value),BindsTo s fd ⟨[u],[]⟩ [(x,u)])
  (hsp:∀H:Hp,Only H→SqL K H a (ns.map V.int)→sp [.ref a] H (fun v _=>v=.bl true) fun _ _ _=>False)
  (hCX:∀H e s',CX [] H s₁ (fun _ _ _=>False) e s'→False):
  codeAny (model P w) callerA (.call (.ref fa) ⟨[.ref a],[]⟩) (fun r s'=>r=.ok (.ret (.bool true))∧OldK s₁.heap s'.heap∧s'.os=s₁.os∧AllBare s'.gens) s₁:=by
 have rv:=YCE hi;have lenV:=hi.length;have core:∀H:Hp,Only H→SqL K H a (ns.map V.int)→HOk P w H s₁.heap→(∀b,H b≠none→b=a)→(H a≠none→K.lookup a=none)→
   codeAny (model P w) callerA (.call (.ref fa) ⟨[.ref a],[]⟩) (fun r s'=>r=.ok (.ret (.bool true))∧OldK s₁.heap s'.heap∧s'.os=s₁.os∧AllBare s'.gens) s₁:=by
  intro H hO hS hok hA hK;have base_of:∀{b:Addr}{o:Obj},s₁.heap.get? b=some o→H b=none→(YE3 s₁.heap H).get? b=some o:=fun e n=>YJe e n
  have noA:∀{b:Addr}{o:Obj}{es:Array DictEntry}{ep:Nat},s₁.heap.get? b=some o→o.data=.dict es ep→H b=none:=fun{b o es ep} e d=>by
   cases q:H b with
   |none=>rfl
   |some u=>
    have e':b=a:=hA b (by rw[q];simp);subst e';rw[ha]at e;cases e;have d':Data.seq vs.toArray _=Data.dict es ep:=d;cases d'
  have nsK:∀{b:Addr}{m:Str→Option Value},s₁.heap.Ns b m→(YE3 s₁.heap H).Ns b m:=fun{b m} ⟨o,es,ep,e,d,r⟩=>⟨o,es,ep,base_of e (noA e d),d,r⟩
  have hKb:K.In (YE3 s₁.heap H):=fun b o e=>base_of (KX b o e) (by
   cases q:H b with
   |none=>rfl
   |some u=>
    have e':b=a:=hA b (by rw[q];simp);subst e';rw[hK (by rw[q];simp)]at e;cases e)
  have hM:Mod K mg (YE3 s₁.heap H):=⟨hKb,nsK hns,⟨mb,nsK hb,hbb⟩,let ⟨mc,h1,h2⟩:=hlim;⟨mc,nsK h1,h2⟩⟩;have e0:Env0 P w K mg (YE3 s₁.heap H) callerA [] s₁ H:=⟨rfl,hM,fun b o e=>of_hidT e,Nat.le_of_eq (YIy _ _),trivial,fun b hb=>absurd (show b∈([]:List Addr) from hb) (by simp),hok,.of_eq hg⟩;refine codeAny_mono ((F _ hKb (nsK hns)).run callerA [] s₁ H ⟨[.ref a],[]⟩ [.ref a] [.ref a] _ _ hr e0 (hbind s₁ (.ref a)) (.cons rfl .nil) (hsp H hO hS)) fun r s' h=>?_
  cases r with
  |error e=>exact(hCX H e s' h).elim
  |ok fl=>
   cases fl with
   |next=>exact False.elim h
   |brk=>exact False.elim h
   |cont=>exact False.elim h
   |ret u=>
    obtain⟨v,H',os,bare,un,hok',r',q⟩:=h;have q':v=.bl true:=q;subst q';obtain rfl:u=Value.bool true:=r';refine⟨rfl,OldK.of_keep fun b o e=>?_,os,bare⟩;cases q:H b with
    |none=>exact un.keep b o e q (by intro z;exact absurd (show b∈([]:List Addr) from z) (by simp)) (by simp)
    |some u=>
     rcases hO b with z |⟨ob,xs,z⟩
     ·rw[q]at z;cases z
     ·have z2:=un.frzs b ob _ z;obtain⟨e1,_⟩:=hok b _ z;obtain⟨e2,_⟩:=hok' b _ z2;rw[e]at e1;cases e1;exact e2
 cases hk:K.lookup a with
 |some o=>
  have e:=KX a o hk;rw[ha]at e;cases e;refine core (fun _=>none) (fun _=>.inl rfl) (.inr ⟨_,vs.toArray,_,hk,rfl,rfl,rfl,by rw[YLL,lenV];exact hl,by simpa using rv⟩) (fun b u z=>by have z':(none:Option HO)=some u:=z;cases z') (fun b z=>absurd rfl z) fun z=>absurd rfl z
 |none=>
  refine core (fun b=>if b=a then some (.frz { cls:=.type "list",data:=.seq vs.toArray } (.lst (ns.map V.int))) else none) (fun b=>?_) (.inl (.inr ⟨{ cls:=.type "list",data:=.seq vs.toArray },if_pos rfl⟩)) (fun b u z=>?_) (fun b z=>?_) fun _=>hk
  ·by_cases hb:b=a
   ·exact .inr ⟨_,_,if_pos hb⟩
   ·exact .inl (if_neg hb)
  ·by_cases hb:b=a
   ·have z':=(if_pos hb).symm.trans z;cases z';subst hb;exact⟨ha,by rw[YLD];exact hl,vs,_,rv,ha⟩
   ·have z':=(if_neg hb).symm.trans z;cases z'
  ·by_cases hb:b=a
   ·exact hb
   ·exact absurd (if_neg hb) z
end L2
namespace L2
open PySem PySem.Spec PyProof.Rows
theorem walk_of {l:PySem.W.OpenLaw}{n k:Nat}{q:Program}{loose:List Str}{XP:(Str→Option Value)→Heap→Prop}{YP:World→Heap→Prop}{d:DefRec}{K:Params→W.Frag}{CX:World→CXT}{sp:World→Sp}{x:Str}
  (hn:l.most=some n) (hn2:n≤sizeLine) (hdf:d.params.defaults=[]) (hr:Jr k callerA)
  (hY:∀(w:World) (h:Heap),YP w h→(K w.params).In h)
  (F:∀(w:World) (mg:Str→Option Value) (fa:Addr) (h:Heap),(K w.params).In h→h.Ns mainGlobals mg→mg d.name=some (.ref fa)→
   ∃fd:FuncData,(∀(s:Shared) (u:Value),BindsTo s fd ⟨[u],[]⟩ [(x,u)])∧
    ∀base:Heap,(K w.params).In base→base.Ns mainGlobals mg→Y6 l.prog w (K w.params) mg base (CX w) k fa fd [x] (sp w))
  (hsp:∀(w:World) (H:Hp) (a:Addr) (ns:List Int),ns.length≤n→Only H→SqL (K w.params) H a (ns.map V.int)→sp w [.ref a] H (fun v _=>v=.bl true) fun _ _ _=>False)
  (hCX:∀(w:World) (H:Hp) (s:Shared) (e:Value) (s':Shared),CX w [] H s (fun _ _ _=>False) e s'→False):
  PySem.W.WalkO q loose XP YP l.row.toRowW d [] (fun f vs=>PySem.call f vs):=by
 refine Att.YFs hn hdf fun w s₀ s₁ mg mb fa o pm cd doc a vs ns G Y ho hd hcd hmg hobj hints hlen hg=>?_
 have KX:=hY w _ Y;obtain⟨fd,hb,hF⟩:=F w mg fa _ KX G.T.g hmg;exact YJ2 KX G.T.g G.T.b G.T.builtins G.T.nolimit hg hobj hints (YLb hlen hn2) hr hF hb (fun H hO hS=>hsp w H a ns hlen hO hS) fun H e s'=>hCX w H s₁ e s'
end L2
namespace L2
open PySem PySem.Spec PyProof.Rows
def Zx (s:Stmt) (j:Nat):Stmt:=match s with
 |.ClassDef _ _ _ body _ _ _ _ _ _ _=>body.getD j (.Pass ⟨0,0,0,0⟩)
 |_=>.Pass ⟨0,0,0,0⟩
def Jo (s:Stmt):Arguments:=match s with
 |.FunctionDef _ a _ _ _ _ _ _ _ _=>a
 |_=>{ posonlyargs:=[],args:=[],vararg:=none,kwonlyargs:=[],kw_defaults:=[],kwarg:=none,defaults:=[] }
def JB (s:Stmt):List Stmt:=match s with
 |.FunctionDef _ _ b _ _ _ _ _ _ _=>b
 |_=>[]
def YJ (s:Stmt):Scope:=match s with
 |.FunctionDef _ _ _ _ _ _ sc _ _ _=>sc
 |_=>{ kind:=.function,names:=[],isGenerator:=false,isCoroutine:=false }
abbrev CX0:CXT:=fun _ _ _ _ _ _=>False
abbrev E0:XK:=fun _ _ _=>False
theorem Yg {X:Cx}:YAB CX0 X E0:=fun _ _ _ _ _ _ _ h=>h.elim
structure Fun (K:W.Frag) (x qual:Str) (st:Stmt) (f:Addr) (fd:FuncData):Prop where
 ex:∃(oc:Value) (od:Option Addr) (kV doc pm:Value) (an:Option Addr) (cdv ct:Value) (osl:Array (Option Value)),
  fd=PySem.W.fnOf x qual (Jo st) (JB st) (YJ st) .none kV doc pm an cdv ct∧K.lookup f=some ⟨oc,od,.func fd,osl⟩∧PySem.W.codeIn K cdv qual=true
 kp:PySem.W.keepIn K (.ref f)=true
section
variable {P:Program}{w:World}{K:W.Frag}{mg:Str→Option Value}{base:Heap}
theorem Fun.ok {x qual:Str}{st:Stmt}{f:Addr}{fd:FuncData}{N ps:List Str}{k:Nat}{sp:Sp} (F:Fun K x qual st f fd) (S:YV N ps (YJ st)) (len:∀vs H Q E,sp vs H Q E→vs.length=ps.length)
  (hbody:∀(cdv:Value) (A:Around) (outer:List Env) (s:Shared) (H:Hp) (vs:List V) (Q:VK) (E:XK),Jr k (A.deeper (envOfC qual (YJ st) s.heap.objs.size f cdv))→sp vs H Q E→
   ∃t,PSs (YCA CX0 P w K mg base N qual (YJ st) f cdv A outer s H E).nox (JB st) t∧t { nx:=fun _ H'=>Q .non H',rt:=Q } (YBj N vs) H):Y6 P w K mg base CX0 (k + 1) f fd ps sp:=by
 obtain⟨oc,od,kV,doc,pm,an,cdv,ct,osl,rfl,lk,hcd⟩:=F.ex;refine fn_of lk hcd S len fun A outer s H vs Q E hr hsp=>?_
 obtain⟨t,h,q⟩:=hbody cdv A outer s H vs Q E hr hsp;exact⟨t,h.nox,q⟩
theorem Fun.binds {x qual:Str}{st:Stmt}{f:Addr}{fd:FuncData}{ps:List Str} (F:Fun K x qual st f fd)
  (h:∀(kV doc pm:Value) (an:Option Addr) (cdv ct:Value) (us:List Value),us.length=ps.length→bindArgs (PySem.W.fnOf x qual (Jo st) (JB st) (YJ st) .none kV doc pm an cdv ct) ⟨us,[]⟩=pure (ps.zip us)):YAS K fd ps []:=by
 obtain⟨oc,od,kV,doc,pm,an,cdv,ct,osl,rfl,lk,hcd⟩:=F.ex;exact .all (h kV doc pm an cdv ct)
theorem YJ3 {x qual:Str}{st:Stmt}{f:Addr}{oc:Value}{od an:Option Addr}{osl:Array (Option Value)}{kV doc pm cdv ct:Value} (l:K.lookup f=some ⟨oc,od,.func (PySem.W.fnOf x qual (Jo st) (JB st) (YJ st) .none kV doc pm an cdv ct),osl⟩)
  (c:PySem.W.codeIn K cdv qual=true) (k:PySem.W.keepIn K (.ref f)=true):Fun K x qual st f (PySem.W.fnOf x qual (Jo st) (JB st) (YJ st) .none kV doc pm an cdv ct):=⟨⟨oc,od,kV,doc,pm,an,cdv,ct,osl,rfl,l,c⟩,k⟩
end
theorem JP {A:Around}{k:Nat} (hr:Jr k A):A.units + 1 < cLine:=Nat.lt_of_le_of_lt (Nat.add_le_add_left (by decide:1≤64) _) hr.units
section
variable {X:Cx}
theorem pv (i:Nat) {x:Str}{pos:Pos} (hN:X.N[i]?=some x:=by rfl) (hv:Vis X.env.scope x:=by first |exact Or.inl rfl |exact Or.inr (Or.inl rfl) |exact Or.inr (Or.inr rfl)) (hd:(x == ("__debug__":Str))=false:=by decide)
  (hcd:(x == ("__classdict__":Str))=false:=by decide):PE X (.Name x pos) (tVar i):=pe_var hN hv hd hcd
end
theorem ZL {A B:Prop} (h:B):if false=true then A else B:=by
 rw[if_neg YLT];exact h
theorem Ze {A B:Prop} (h:A):if true=true then A else B:=by
 rw[if_pos rfl];exact h
theorem YBA {c A B:Prop} [Decidable c] (h1:c→A) (h2:¬c→B):if c then A else B:=by
 by_cases h:c
 ·rw[if_pos h];exact h1 h
 ·rw[if_neg h];exact h2 h
def YI (H H':Hp):Prop:=∀b o,H b=some o→H' b=some o
theorem YI.refl (H:Hp):YI H H:=fun _ _ h=>h
theorem YI.trans {H H1 H2:Hp} (a:YI H H1) (b:YI H1 H2):YI H H2:=fun c o h=>b c o (a c o h)
theorem YI.free {H H':Hp} (e:YI H H') {l:Addr} (h:H' l=Option.none):H l=Option.none:=by
 cases q:H l with
 |none=>rfl
 |some o=>
  rw[e l o q]at h;cases h
theorem YI.seq {K:W.Frag}{H H':Hp}{a:Addr}{xs:List V} (e:YI H H') (h:SqL K H a xs):SqL K H' a xs:=by
 rcases h with (h |⟨o,h⟩) |h
 ·exact .inl (.inl (e _ _ h))
 ·exact .inl (.inr ⟨o,e _ _ h⟩)
 ·exact .inr h
end L2
set_option maxHeartbeats 4000000
namespace L2
open PySem PySem.Spec PyProof.Rows
theorem Y8.at_ {P:Program}{w:World}{H:Hp}{h:Heap}{a:Addr}{o:HO} (x:Y8 P w H h a o):∃u,h.get? a=some u:=by
 cases o with
 |lst xs=>obtain⟨_,_,_,_,e⟩:=x;exact⟨_,e⟩
 |tup xs=>obtain⟨_,_,_,o,e,_⟩:=x;exact⟨_,e⟩
 |dK kvs=>obtain⟨_,_,_,_,o,_,_,e,_⟩:=x;exact⟨_,e⟩
 |dT kvs=>obtain⟨_,_,_,_,o,_,_,e,_⟩:=x;exact⟨_,e⟩
 |set S n=>obtain⟨o,_,_,_,e,_⟩:=x;exact⟨_,e⟩
 |ins C dx fs=>obtain⟨_,_,_,e,_⟩:=x;exact⟨_,e⟩
 |own y=>obtain⟨o,e⟩:=x;exact⟨_,e⟩
 |xd fs=>obtain⟨_,⟨o,_,_,e,_⟩,_⟩:=x;exact⟨_,e⟩
 |rng lo hi=>obtain⟨_,_,_,e⟩:=x;exact⟨_,e⟩
 |frz ob u=>obtain⟨e,_⟩:=x;exact⟨_,e⟩
 |tbl ps=>exact⟨_,(show h.get? a=some _ from x)⟩
 |met f y=>exact⟨_,(show h.get? a=some _ from x)⟩
 |ext φ=>obtain⟨_,e,_⟩:=x;exact e
structure Fly (P:Program) (w:World) (l:List Env) (H:Hp) (s:Shared) (e:Addr) (cls:Value) (H':Hp) (s':Shared):Prop where
 os:s'.os=s.os
 bare:AllBare s'.gens
 un:Un (frs l) [] H H' s.heap s'.heap
 hok:HOk P w H' s'.heap
 new:H' e=none
 fly:∃B a0,Heap.FlyingW B l e cls a0 s'.heap∧(∀b u,H' b=some u→∃o,B.get? b=some o)∧∀b o,s.heap.get? b=some o→b∉frs l→∃o',B.get? b=some o'
def CXo (P:Program) (w:World):CXT:=fun l H s E ev s'=>∃e cls H',ev=.ref e∧Fly P w l H s e cls H' s'∧E cls none H'
theorem YJ4 {fs:List Addr}{H H':Hp}{h h' h'' B:Heap} (un:Un fs [] H H' h h') (sB:B.StaysIn h') (sB':B.StaysIn h'') (up:h'.UpToSlots h'')
  (fr:∀b∈fs,∃o,h'.get? b=some o∧∀vs,o.data≠.fields vs) (old:∀b o,h.get? b=some o→b∉fs→∃o',B.get? b=some o'):Un fs [] H H' h h'' where
 keep:=fun b o q n hb hx=>by
  have e1:=un.keep b o q n hb hx;obtain⟨o',eB⟩:=old b o q hb;have e2:=sB b o' eB;rw[e1]at e2;cases e2;exact sB' b o eB
 slot:=fun b o q n hb hx=>by
  obtain⟨sl,e1⟩:=un.slot b o q n hb hx;obtain⟨o',e2,nf⟩:=fr b hb;rw[e1]at e2;cases e2;obtain⟨sl',e3⟩:=up b _ e1 nf;exact⟨sl',e3⟩
 free:=un.free
 there:=fun b o q hx=>by
  by_cases hb:b∈fs
  ·obtain⟨o',e2,nf⟩:=fr b hb;obtain⟨sl',e3⟩:=up b _ e2 nf;exact⟨_,e3⟩
  ·obtain⟨o',eB⟩:=old b o q hb;exact⟨o',sB' b o' eB⟩
 tups:=un.tups
 frzs:=un.frzs
 tbls:=un.tbls
theorem YH1 {P:Program}{w:World}{H:Hp}{h h' B:Heap} (ok:HOk P w H h) (sB:B.StaysIn h) (sB':B.StaysIn h') (tr:∀b u,H b=some u→∃o,B.get? b=some o):HOk P w H h':=fun a o ea=>
 (ok a o ea).stay (fun b u hb eb=>by
  have tb:∃v,H b=some v:=hb.elim (fun z=>⟨o,by rw[z];exact ea⟩) fun z=>⟨_,z⟩
  obtain⟨v,hv⟩:=tb;obtain⟨o',eB⟩:=tr b v hv;have e2:=sB b o' eB;rw[eb]at e2;cases e2;exact sB' b u eB) (fun _ z=>z) fun _ _ z=>z
theorem YJ5 {fs fs':List Addr}{L:Addr}{H H1 H2:Hp}{h h1 h2:Heap} (a:Un fs [] H H1 h h1) (b:Un fs' [] H1 H2 h1 h2) (sub:∀x∈fs',x=L∨x∈fs) (sup:∀x∈fs,x∈fs') (hL:h.objs.size≤L):Un fs [] H H2 h h2:=by
 have nL:∀c o,h.get? c=some o→c≠L:=fun c o q z=>absurd (Heap.lt_size q) (by rw[z];exact Nat.not_lt.mpr hL)
 have no:∀c o,h.get? c=some o→c∉fs→c∉fs':=fun c o q n z=>(sub c z).elim (nL c o q) n
 exact⟨fun c o q n hc hx=>b.keep c o (a.keep c o q n hc hx) (a.free c o q n hx) (no c o q hc) hx,
  fun c o q n hc hx=>by
   obtain⟨sl,e1⟩:=a.slot c o q n hc hx;obtain⟨sl',e2⟩:=b.slot c _ e1 (a.free c o q n hx) (sup c hc) hx;exact⟨sl',e2⟩,
  fun c o q n hx=>by
   obtain⟨o',e1⟩:=a.there c o q hx;exact b.free c o' e1 (a.free c o q n hx) hx,
  fun c o q hx=>by
   obtain⟨o',e1⟩:=a.there c o q hx;exact b.there c o' e1 hx,
  fun c xs q=>b.tups c xs (a.tups c xs q),fun c ob xs q=>b.frzs c ob xs (a.frzs c ob xs q),
  fun c ps q=>by
   obtain⟨m1,e1⟩:=a.tbls c ps q;obtain⟨m2,e2⟩:=b.tbls c _ e1;exact⟨m1 ++ m2,by rw[e2,Array.append_assoc]⟩⟩
structure Sink (X:Cx) (E:XK):Prop where
 made:∀(pins:List (Addr×Obj)) (σ:St) (H:Hp) (s:Shared) (e:Addr) (cls:Value) (args:List Value) (h':Heap),Inv X pins σ H s→Heap.MadeExcOf s.heap h' e cls args→E cls none H→X.xe (.ref e) { s with heap:=h' }
 on:YAB (CXo X.prog X.w) X E
theorem YJC {X:Cx}{pins:List (Addr×Obj)}{σ:St}{H:Hp}{s:Shared} (I:Inv X pins σ H s):
  (PySem.W.hideAll s.heap (frs X.stack)).StaysIn s.heap∧s.heap.FunFrames (PySem.W.hideAll s.heap (frs X.stack)) X.stack∧(∀b o,s.heap.get? b=some o→b∉frs X.stack→(PySem.W.hideAll s.heap (frs X.stack)).get? b=some o)∧
   ∀b u,H b=some u→∃o,(PySem.W.hideAll s.heap (frs X.stack)).get? b=some o:=by
 refine⟨fun b o q=>PySem.W.of_hideAll _ q,PySem.W.funFrames_hide I.stack fun env he b hb=>List.mem_filterMap.mpr ⟨env,he,hb⟩,fun b o q hb=>PySem.W.hideAll_get _ q hb,fun b u q=>?_⟩;obtain⟨o,ho⟩:=(I.hok b u q).at_;exact⟨o,PySem.W.hideAll_get _ ho fun z=>by rw[I.stkFree b z]at q;cases q⟩
theorem XL {P:Program}{w:World}{K:W.Frag}{mg:Str→Option Value}{base:Heap}{N:List Str}{qual:Str}{scope:Scope}{f:Addr}{cd:Value}{A:Around}{outer:List Env}{s:Shared}{H:Hp}{E:XK}:
  Sink (YCA (CXo P w) P w K mg base N qual scope f cd A outer s H E) E where
 made:=by
  intro pins σ H1 s1 e cls args h' I hx hE;obtain⟨sB,ff,inB,tr⟩:=YJC I;show wpAny _ _ (leaving _ (.ref e)) _ _ _;refine wpAny_leaves_madeW (base:=PySem.W.hideAll s1.heap (frs (YCA (CXo P w) P w K mg base N qual scope f cd A outer s H E).stack)) (h:=s1.heap) I.ok.frames rfl sB ff hx fun h'' t x1 x2 x3 x4=>?_
  have sB1:(PySem.W.hideAll s1.heap (frs (YCA (CXo P w) P w K mg base N qual scope f cd A outer s H E).stack)).StaysIn h':=fun b o q=>hx.keeps b o (sB b o q)
  have un1:Un (frs outer) [] H H1 s.heap s1.heap:=I.base;have old:∀b o,s.heap.get? b=some o→b∉frs outer→∃o',(PySem.W.hideAll s1.heap (frs (YCA (CXo P w) P w K mg base N qual scope f cd A outer s H E).stack)).get? b=some o':=fun b o q hb=>by
   obtain⟨o',e1⟩:=un1.there b o q (by simp);refine⟨o',inB b o' e1 fun z=>?_⟩;rcases List.mem_cons.mp (I.stkSub b z) with z |z
   ·exact absurd (Heap.lt_size q) (by rw[z];exact Nat.lt_irrefl _)
   ·exact hb z
  have fr:∀b∈frs outer,∃o,h'.get? b=some o∧∀vs,o.data≠.fields vs:=fun b hb=>by
   obtain⟨_,o,ho,nf⟩:=I.funs.mem hb;exact⟨o,hx.keeps b o ho,nf⟩
  refine⟨e,cls,H1,rfl,⟨I.os,I.bare,YJ4 (un1.trans (Un.kept hx.keeps)) sB1 x1.1 x4 fr old,YH1 (I.hok.kept hx.keeps) sB1 x1.1 tr,?_,_,_,x1,tr,old⟩,hE⟩;cases q:H1 e with
  |none=>rfl
  |some u=>
   obtain⟨o,ho⟩:=(I.hok e u q).at_;rw[hx.new]at ho;cases ho
 on:=by
  intro pins σ H1 s1 ev s' I hcx;obtain⟨e,cls,H',rfl,F,hE⟩:=hcx;obtain⟨B,a0,fl,tr,old⟩:=F.fly;show wpAny _ _ (leaving _ (.ref e)) _ _ _;refine wpAny_leaves_onW I.ok.frames rfl fl fun h'' x1 x4=>?_
  have un1:Un (frs outer) [] H H1 s.heap s1.heap:=I.base;have sub:∀x∈frs (YCA (CXo P w) P w K mg base N qual scope f cd A outer s H E).stack,x=s.heap.objs.size∨x∈frs outer:=fun x hx=>List.mem_cons.mp (I.stkSub x hx)
  have sup:∀x∈frs outer,x∈frs (YCA (CXo P w) P w K mg base N qual scope f cd A outer s H E).stack:=fun x hx=>YLR _ hx
  have un2:Un (frs outer) [] H H' s.heap s'.heap:=YJ5 un1 F.un sub sup (YLG _);have old':∀b o,s.heap.get? b=some o→b∉frs outer→∃o',B.get? b=some o':=fun b o q hb=>by
   obtain⟨o',e1⟩:=un1.there b o q (by simp);refine old b o' e1 fun z=>?_
   rcases sub b z with z |z
   ·exact absurd (Heap.lt_size q) (by rw[z];exact Nat.lt_irrefl _)
   ·exact hb z
  have fr:∀b∈frs outer,∃o,s'.heap.get? b=some o∧∀vs,o.data≠.fields vs:=fun b hb=>by
   obtain⟨_,o,ho,nf⟩:=fl.2.2.1.mem (sup b hb);exact⟨o,ho,nf⟩
  exact⟨e,cls,H',rfl,⟨F.os.trans I.os,F.bare,YJ4 un2 fl.1 x1.1 x4 fr old',YH1 F.hok fl.1 x1.1 tr,F.new,B,a0,x1,tr,old'⟩,hE⟩
abbrev bmV:List Value:=[.type "ValueError",.type "Exception",.type "BaseException",.type "object"]
abbrev newV:String:="ValueError.__new__"
def Exc (K:W.Frag) (C:Addr):Prop:=PySem.W.excIn K C bmV newV=true
theorem exc_obj {K:W.Frag}{h:Heap}{C:Addr}{bmB:List Value}{newId:String} (X:K.In h) (q:PySem.W.excIn K C bmB newId=true):
  ∃bm N nm qn bs hdct sn sub ab col dd k0 k1 k2 k3 k5 mN,h.get? C=some (excClassObj nm qn C N bs bm hdct sn sub ab col dd k0 k1 k2 k3 k5 newId)∧h.Ns N mN∧mN "__init__"=none∧OwnTail h bmB bm:=by
 unfold PySem.W.excIn at q;split at q
 ·rename_i dd cd sl ho
  split at q
  ·rename_i C' bm k0 k1 k2 k3 n k5 hm hs
   simp only[YLJ,beq_iff_eq,Bool.not_eq_true']at q;obtain⟨⟨⟨⟨⟨rfl,rfl⟩,hdel⟩,ht⟩,hok⟩,hni⟩:=q;obtain⟨nm,bs,mro,ns,qn,hd,sn,sub,ab,col,del⟩:=cd;dsimp only at hm hdel hok hni;subst hm hdel;have hsl:sl=#[k0,k1,k2,k3,some (.builtin n),k5]:=by
    obtain⟨l⟩:=sl;simp only at hs;rw[hs]
   subst hsl;exact⟨bm,ns,nm,qn,bs,hd,sn,sub,ab,col,dd,k0,k1,k2,k3,k5,_,X _ _ ho,.of_isNs (PySem.W.isNs_of_in X hok),PySem.W.nsMap_none_of_in X hok hni,PySem.W.tail_of_in X ht⟩
  ·cases q
 ·cases q
section
variable {X:Cx}{E:XK}{x:Str}{C:Addr}{e:Expr}{t:TA}{np cpos pos:Pos}
def tRaise (C:Addr) (E:XK) (t:TA):TS:=fun _ σ H=>t σ H fun vs H1=>vs.length≤sizeLine∧E (.ref C) none H1
theorem YFt (S:Sink X E) (hq:Exc X.K C) (hc:X.calm=true) (hg:Gl X x) (hm:X.mg x=some (.ref C)) (ha:PA X [e] t) (hd:(x == ("__debug__":Str))=false:=by decide)
  (he:starEach [e] X.env=(false,eval e X.env) :: starEach [] X.env:=by rfl) (hplain:(backTo cpos (starEach [] X.env)).any (·.1)=false:=by rfl):
  PS X (.Raise (some (.Call (.Name x np) [e] [] cpos)) none pos) (tRaise C E t):=by
 intro pins s σ H D I h;obtain⟨tl,N,nm,q,bs,hdct,sn,sub,ab,col,dd,k0,k1,k2,k3,k5,mN,hC,hN,hni,T⟩:=exc_obj I.mod.kin hq;refine wpAny_Raise_call_subT (C:=C) (nm:=nm) (q:=q) (N:=N) (bs:=bs) (bm:=tl) (hdct:=hdct) (sn:=sn) (sub:=sub) (ab:=ab) (col:=col) (dd:=dd) (k0:=k0) (k1:=k1) (k2:=k2) (k3:=k3) (k5:=k5)
  PySem.F.excBase_ValueError (mN:=mN) (T.hasType PySem.F.excBase_ValueError.hasBase) (I.ok.hd hc) (by rw[he];show(false || (backTo cpos (starEach [] X.env)).any (·.1))=false;rw[hplain];rfl) hni (YC2 I hg hm ⟨rfl,?_⟩ hd)
 have hA:=ha cpos pins s σ H _ I h;rw[he]at hA ⊢;refine Calls.evalArgs_plain (thn hA fun us s2 ⟨vs,H2,I2,r,hz,hE⟩=>⟨rfl,by rw[←r.length];exact hz,I2.bk _ _ hC,hN.keeps I2.bk,T.keeps I2.bk,fun h' e hm'=>?_⟩);exact S.made pins σ H2 s2 e _ _ h' I2 hm' hE
end
end L2
namespace L2
open PySem PySem.Spec PyProof.Rows
def XP (X:Cx) (pins:List (Addr×Obj)) (σ:St) (E:XK) (ev:Value) (s':Shared):Prop:=∃(e:Addr) (cls:Value) (H':Hp) (B:Heap) (a0:Value),ev=.ref e∧Inv X pins σ H' s'∧Heap.FlyingW B X.stack e cls a0 s'.heap∧H' e=none∧
 (∀b u,H' b=some u→∃o,B.get? b=some o)∧(∀b o,X.s₀.heap.get? b=some o→b∉frs X.stack→b∉X.ex→∃o',B.get? b=some o')∧(∀p∈X.pn ++ pins,∃o',B.get? p.1=some o')∧E cls none H'
section
variable {X:Cx}{pins:List (Addr×Obj)}{σ:St}{H:Hp}{s s':Shared}{E:XK}
end
section
variable {X:Cx}{k:Nat}{f:Addr}{fd:FuncData}{ps:List Str}{sp:Sp}{dvs:List V}{ds:List Value}{x:Str}{p pos:Pos}{e:Expr}{es:List Expr}{t:TA}
variable {te:St→Hp→VK→XK→Prop}
end
section
variable {X:Cx}{pins:List (Addr×Obj)}{σ:St}{H:Hp}{s:Shared}
end
end L2
namespace L2
open PySem PySem.Spec PyProof.Rows
def Its (x:Str):It:=⟨fun i _=>i < x.cps.size,fun i H v H'=>H'=H∧∃c,x.cps[i]?=some c∧v=.str ⟨#[c]⟩,fun i _=>i=x.cps.size⟩
abbrev YHE:List String:=["enumerate","zip","dict_itemiterator","dict_reverseitemiterator","odict_iterator","itertools.zip_longest","itertools.pairwise"]
theorem YFu {P:Program}{w:World}{K:W.Frag}{tg:Expr}{ty:String}{x:Str}{t:Tok} (it:Addr)
  (W:∀A:Around,A.handled=none→Walks P w A it [it] [it] x.cps.size (SignAt x) (fun i h=>h.IsStrIter it ty x t i))
  (hn:YHE.contains ty=false)
  (hself:∀(A:Around) (i:Nat) (s:Shared) (Q:Value→Shared→Prop) (E:Value→Shared→Prop),s.heap.IsStrIter it ty x t i→Q (.ref it) s→wpAny (model P w) A (pyIter (.ref it)) Q E s):
  YDF P w K tg (Its x) [it] it (fun i h=>h.IsStrIter it ty x t i) where
 mem:=by simp
 obj:=fun i h st b hb=>by
  have eb:b=it:=by simpa using hb
  subst eb;obtain⟨o,eo,_,d⟩:=st;exact⟨o,eo,fun v z=>by rw[d]at z;cases z⟩
 keep:=fun i h h' st k=>by
  obtain⟨o,eo,r⟩:=st;exact⟨o,k it (by simp) o eo,r⟩
 item:=by
  intro X hP hw hK hc i pins s σ H E I hf st hg;subst hP hw hK;obtain⟨f0,f1,f2,f3,f4,f5⟩:=hf it (by simp);refine(W X.A (I.ok.hd hc)).item i s _ _ hg st fun v h' tk hv st' kk=>?_
  obtain⟨c,u,hcx,rfl⟩:=hv;have I1:Inv X pins σ H { s with heap:=h',toks:=tk }:=I.turned (fun b o hb eo=>kk b o (by simpa using hb) eo) f0 f1 f3 f4 f5;obtain⟨o,eo,c',d⟩:=id st';exact⟨_,rfl,YEO (s:={ s with heap:=h',toks:=tk }) eo c' d hn ⟨.str ⟨#[c]⟩,H,I1,⟨u,rfl⟩,⟨rfl,c,hcx,rfl⟩,st',fun b hb=>(hf b hb).1⟩⟩
 done:=by
  intro X hP hw hK hc i pins s σ H E I hf st hg;subst hP hw hK;obtain⟨f0,f1,f2,f3,f4,f5⟩:=hf it (by simp);have ei:i=x.cps.size:=hg;subst ei;exact(W X.A (I.ok.hd hc)).done s _ _ st fun h' tk kk=>⟨rfl,I.turned (fun b o hb eo=>kk b o (by simpa using hb) eo) f0 f1 f3 f4 f5⟩
 self:=fun A i s Q E st h=>hself A i s Q E st h
section
variable {X:Cx}{tg:Expr}
def iStr (tl:TE):TI:=fun σ H R=>tl σ H fun v H1=>∃x,v=.str x∧R (Its x) H1
theorem YJ6 {l:Expr}{tl:TE} (hl:PE X l tl):PI X tg l (iStr tl):=by
 intro pins s σ H R I h;refine thn (hl pins s σ H _ I h) fun v s1 ⟨y,H1,I1,r1,q1⟩=>?_
 obtain⟨x,rfl,q⟩:=q1;obtain⟨t,rfl⟩:=r1;have fp:∀b∈[s1.heap.objs.size],YA9 X pins H1 b:=fun b hb=>by
  have eb:b=s1.heap.objs.size:=by simpa using hb
  subst eb;exact I1.fpOk (YLG _) (I1.hok.fresh (YLG _))
 cases ha:x.cps.all (· < 128)
 ·refine wpAny_pyIter_wide ha ?_;exact⟨s1.heap.objs.size,[s1.heap.objs.size],_,_,H1,rfl,I1.kept (t':=s1.toks) fun b o eo=>Heap.get?_push_of_some _ eo,
   YFu (ty:="str_iterator") (t:=t) _ (fun A hA=>Walks.strWide hA _ x t) (by decide) (fun _ _ _ _ _ st hq=>wpAny_pyIter_striter_wide st hq),⟨_,Heap.get?_push_size _ rfl,rfl,rfl⟩,fp,q⟩
 ·refine wpAny_pyIter_ascii ha ?_;exact⟨s1.heap.objs.size,[s1.heap.objs.size],_,_,H1,rfl,I1.kept (t':=s1.toks) fun b o eo=>Heap.get?_push_of_some _ eo,
   YFu (ty:="str_ascii_iterator") (t:=t) _ (fun A hA=>Walks.strAscii hA _ x t) (by decide) (fun _ _ _ _ _ st hq=>wpAny_pyIter_striter_ascii st hq),⟨_,Heap.get?_push_size _ rfl,rfl,rfl⟩,fp,q⟩
end
abbrev ZU (X:Cx) (N:List Str) (scope:Scope) (cl:List (Str×Addr)) (C:Addr) (s₀:Shared) (H₀:Hp) (ex:List Addr) (pn:List (Addr×Obj)):Cx:=
 { X with N:=N,s₀:=s₀,H₀:=H₀,env:=compEnvC scope cl C X.env,outer:=X.stack,stack:=X.stack,ex:=ex,fn:=fun _=>false,pn:=pn,xe:=fun _ _=>False }
def PTs (X:Cx) (ifs:List Expr) (t:TT):Prop:=
 ∀(pins:List (Addr×Obj)) (s:Shared) (σ:St) (H:Hp) (Q:Bool→Hp→Prop),Inv X pins σ H s→t σ H Q→
  wpAny (model X.prog X.w) X.A (forIn ifs true fun c r=>if r=true then do let ok ←isTrue c X.env (eval c X.env);pure (ForInStep.yield ok) else pure (ForInStep.yield r)) (TP X pins σ Q) X.xe s
def tYes:TT:=fun _ H Q=>Q true H
theorem Jp {X:Cx}:PTs X [] tYes:=fun _ _ _ H _ I h=>wpAny_tests_nil ⟨H,I,h⟩
theorem YH2 {X:Cx}{c:Expr}{t:TT} (h:PT X c t):PTs X [c] t:=fun pins s σ H Q I hw=>wpAny_tests_one (h pins s σ H Q I hw)
def YDP (ρ:List (Option Nat)) (σ:St):St:=ρ.map fun o=>o.bind fun j=>(σ[j]?).bind id
def YAc (J:It) (g:TG) (tc:TT) (te:TE) (Q:VK) (l:Addr) (τ:St) (H1:Hp):Prop:=
 ∃W:Nat→Nat→List V→St→Hp→Prop,(∃m,W 0 m [] τ (upd H1 l (.lst [])))∧∀i m ys τ H2,W i m ys τ H2→
  (J.stop i H2∧Q (.ref l) H2)∨(J.go i H2∧∀x H3,J.yld i H2 x H3→g x τ H3 fun τ4 H4=>tc τ4 H4 fun b H5=>
   if b=true then te τ4 H5 fun y H6=>H6 l=some (.lst ys)∧ys.length < sizeLine∧∃m',m' < m∧W (i + 1) m' (ys ++ [y]) τ4 (upd H6 l (.lst (ys ++ [y])))
   else ∃m',m' < m∧W (i + 1) m' ys τ4 H5)
def tComp (ρ:List (Option Nat)) (wi:TI) (g:TG) (tc:TT) (te:TE):TE:=fun σ H Q=>wi σ H fun J H1=>∀l,H1 l=none→YAc J g tc te Q l (YDP ρ σ) H1
theorem YEW {prog:Program}{w:World}{A:Around}{R:Result→Shared→Prop}{s:Shared}{elt target iter:Expr}{ifs:List Expr}{scope:Scope}{pos:Pos}{it acc:Value}{env:Env} (Iv:Nat→Shared→Prop)
  (turn:∀n s,Iv n s→wpAny (model prog w) A (pyNext it) (fun r s1=>match r with
   |none=>R (.ok .next) s1
   |some v=>wpAny (model prog w) A (letOwnedTupleGo target it v) (fun _ s1'=>wpAny (model prog w) A (assign target env v) (fun _ s2=>
     wpAny (model prog w) A (forIn ifs true fun c r=>if r=true then do let ok ←isTrue c env (eval c env);pure (ForInStep.yield ok) else pure (ForInStep.yield r)) (fun ok s3=>
      if ok=true then wpAny (model prog w) A (eval elt env) (fun x s4=>
       wpAny (model prog w) A (call (.builtin "list.append") [acc,x]) (fun _ s5=>∃m,m < n∧Iv m s5) (fun _ _=>False) s4) (fun _ _=>False) s3
      else ∃m,m < n∧Iv m s3) (fun _ _=>False) s2) (fun _ _=>False) s1') (fun _ _=>False) s1) (fun _ _=>False) s)
  (n:Nat) (h:Iv n s):codeAny (model prog w) A (.compLoop (.ListComp elt [⟨target,iter,ifs,0⟩] scope pos) 0 it acc env) R s:=by
 refine codeAny_loop rfl Iv (fun n s hI=>?_) n h;show wpAny _ A ((compTurn (.ListComp elt [⟨target,iter,ifs,0⟩] scope pos) 0 it acc env).onRaise (fun x=>do noteFrame x env;theTreesLotGoes x)) _ _ s;refine wpAny_noted ?_;rw[compTurn_list];have no:∀{P:Value→Shared→Prop} (e:Value) (s':Shared),False→P e s':=fun _ _ z=>z.elim
 refine wpAny_bind (wpAny_standAt (wpAny_bind (wpAny_mono (turn n s hI) (fun r s1 h1=>?_) no)));cases r with
 |none=>exact wpAny_pure h1
 |some v=>
  refine wpAny_bind (wpAny_mono h1 (fun _ s1' h1'=>?_) no);refine wpAny_bind (wpAny_mono h1' (fun _ s2 h2=>wpAny_bind (wpAny_mono h2 (fun ok s3 h3=>?_) no)) no);cases ok with
  |false=>exact wpAny_pure ⟨rfl,h3⟩
  |true=>exact wpAny_bind (wpAny_bind (wpAny_mono h3 (fun x s4 h4=>wpAny_bind (wpAny_mono h4 (fun _ s5 h5=>wpAny_pure (wpAny_pure ⟨rfl,h5⟩)) no)) no))
section
variable {X:Cx}{elt tg iter:Expr}{ifs:List Expr}{scope:Scope}{cl:List (Str×Addr)}{N:List Str}{ρ:List (Option Nat)}{pos:Pos}{wi:TI}{g:TG}{tc:TT}{te:TE}
structure Yz (X:Cx) (N:List Str) (ρ:List (Option Nat)) (scope:Scope) (cl:List (Str×Addr)):Prop where
 clos:closureFor scope X.env=pure cl
 nocell:∀y∈scope.names,y.2≠.cell
 kind:scope.kind=.function
 loc:∀y∈scope.names,y.2=.local→scope.names.lookup y.1=some .local
 sub:∀x c,cl.lookup x=some c→X.env.cells.lookup x=some c
 has:∀x,((relabel scope X.env).names.lookup x=some .cell∨(relabel scope X.env).names.lookup x=some .free)→∃c,cl.lookup x=some c
 len:ρ.length=N.length
 from_:∀(i j:Nat) (x:Str),N[i]?=some x→ρ[i]?=some (some j)→X.N[j]?=some x∧(X.env.kindOf x=some .cell∨X.env.kindOf x=some .free)∧((relabel scope X.env).names.lookup x=some .cell∨(relabel scope X.env).names.lookup x=some .free)
theorem YJ7 {ρ:List (Option Nat)}{σ:St}{i:Nat}{v:V} (h:(YDP ρ σ)[i]?=some (some v)):∃j,ρ[i]?=some (some j)∧σ[j]?=some (some v):=by
 unfold YDP at h;rw[YLI]at h;cases e:ρ[i]? with
 |none=>rw[e]at h;cases h
 |some o=>
  rw[e]at h;cases o with
  |none=>cases h
  |some j=>
   refine⟨j,rfl,?_⟩;simp only[Option.map_some,Option.bind_some,Option.some.injEq]at h;cases e2:σ[j]? with
   |none=>rw[e2]at h;cases h
   |some w=>
    rw[e2]at h;have h':w=some v:=h;rw[h']
theorem YFv {pins:List (Addr×Obj)}{σ:St}{H:Hp}{s s':Shared}{fp:List Addr}{h₁:Heap} (S:Yz X N ρ scope cl) (I:Inv X pins σ H s) (hf:∀b∈fp,YA9 X pins H b)
  (hlt:∀b∈fp,b < s.heap.objs.size) (hns:h₁.Ns s.heap.objs.size (fun _=>none)) (hsb:∀b o,s.heap.get? b=some o→h₁.get? b=some o) (es:s'={ s with heap:=h₁ }):
  Inv (ZU X N scope cl s.heap.objs.size s H fp (X.pn ++ pins)) [] (YDP ρ σ) H s':=by
 subst es;have notStk:∀b,b≠X.env.locals→b∉X.fs→b∉frs X.stack:=fun b h1 h2 hb=>by
  rcases List.mem_cons.mp (I.stkSub b hb) with z |z
  ·exact h1 z
  ·exact h2 z
 have hC:X.env.locals≠s.heap.objs.size:=YLY I.lt;refine⟨⟨I.ok.mod,S.kind,I.ok.glob,I.ok.blt,YLG _,fun x y c h1 h2=>I.ok.inj x y c (S.sub x c h1) (S.sub y c h2),fun x hx=>S.has x hx,fun x c hx _=>absurd (show false=true from hx) YLT,I.ok.hd,I.ok.frames,.inl rfl,
  fun b hb=>⟨YLY (hlt b hb),fun x c h1=>(hf b hb).2.2.2.2.1 x c (S.sub x c h1)⟩,I.bs,YLb I.ok.bsz I.sz,fun b o eo hb=>?_,fun b hb=>notStk b (hf b hb).2.1 (hf b hb).2.2.1,I.stack,I.stkFree⟩,
  rfl,I.bare,Un.kept hsb,⟨_,hns,fun i x v h1 h2 h3=>?_⟩,fun x c h1=>?_,I.hok.fresh (YLG _),fun x c h1=>I.freeC x c (S.sub x c h1),fun p hp=>?_,I.hok.kept hsb,?_⟩
 ·rcases(hf b hb).2.2.2.1 with z |z
  ·exact I.ok.noex b o eo z
  ·exact absurd (Heap.lt_size (I.ok.bs b o eo).1) (Nat.not_lt.mpr z)
 ·obtain⟨j,hj,hv⟩:=YJ7 h2;obtain⟨n1,n2,n3⟩:=S.from_ i j x h1 hj;obtain⟨m,hn,hl⟩:=I.loc;have vis:Vis X.env.scope x:=n2.elim (fun z=>.inr (.inl z)) fun z=>.inr (.inr z)
  obtain⟨u,ru,lk⟩:=hl j x v n1 hv vis;refine⟨u,ru,.inr ⟨n3,?_⟩⟩;rcases lk with ⟨hk,_⟩ |⟨_,c,hc,hcell⟩
  ·rcases n2 with z |z
   ·rw[z]at hk;cases hk
   ·rw[z]at hk;cases hk
  ·obtain⟨c',hc'⟩:=S.has x n3;have ec:=S.sub x c' hc';rw[hc]at ec;cases ec;obtain⟨o,ho,hd⟩:=hcell;exact⟨c,hc',o,hsb c o ho,hd⟩
 ·obtain⟨v,o,ho,hd⟩:=I.cell x c (S.sub x c h1);exact⟨v,o,hsb c o ho,hd⟩
 ·have hp':p∈X.pn ++ pins:=by simpa using hp
  obtain⟨p1,p2,p3,p4,p5⟩:=I.pin p hp';exact⟨hsb _ _ p1,p2,YLY (Heap.lt_size p1),notStk _ p3 p4,p5⟩
 ·show(YDP ρ σ).length=N.length;unfold YDP;rw[YLD];exact S.len
theorem J6 (hc:X.calm=true) (S:Yz X N ρ scope cl) (hi:PI X tg iter wi)
  (hg:∀C s₀ H₀ ex pn,PG (ZU X N scope cl C s₀ H₀ ex pn) tg g) (ht:∀C s₀ H₀ ex pn,PTs (ZU X N scope cl C s₀ H₀ ex pn) ifs tc) (he:∀C s₀ H₀ ex pn,PE (ZU X N scope cl C s₀ H₀ ex pn) elt te)
  (hs:∀x,foldedSetIterable iter X.env x=pure x:=by intro _;rfl):PE X (.ListComp elt [⟨tg,iter,ifs,0⟩] scope pos) (tComp ρ wi g tc te):=by
 intro pins s σ H Q I h;rw[eval_ListComp];refine wpAny_comprehension_free (use:=none) rfl hs S.clos S.kind S.loc (thn (hi pins s σ H _ I h) fun v s1 h1=>thn h1 fun itv s2 h2=>?_);obtain⟨it,fp,tn,J,H2,e,I2,T,st2,f2,q2⟩:=h2;subst e;obtain⟨W,⟨m0,w0⟩,turn⟩:=q2 _ (I2.hok.fresh (YLG _));refine wpAny_newObj_type (wpAny_newFunctionEnv S.nocell (by intro y hy;simp at hy) (fun h₁ hns₁ hsb₁=>?_) S.kind);dsimp only at hns₁ hsb₁ ⊢;have I3:Inv X pins σ (upd H2 s2.heap.objs.size (.lst [])) { s2 with heap:=s2.heap.push { cls:=.type "list",dict:=none,data:=.seq ([]:List Value).toArray } }:=
  I2.laid (t':=s2.toks) (fun b u eo=>Heap.get?_push_of_some _ eo) (YLG _) ⟨by simp,[],0,.nil,Heap.get?_push_size _ rfl⟩
 generalize hs3:({ s2 with heap:=s2.heap.push { cls:=.type "list",dict:=none,data:=.seq ([]:List Value).toArray } }:Shared)=s3 at I3;have es3:s2.heap.push { cls:=.type "list",dict:=none,data:=.seq ([]:List Value).toArray }=s3.heap:=by rw[←hs3]
 rw[es3]at hns₁ hsb₁ ⊢;have f3:∀b∈fp,YA9 X pins (upd H2 s2.heap.objs.size (.lst [])) b:=fun b hb=>by
  obtain⟨o,eo,_⟩:=T.obj _ _ st2 b hb;exact⟨by rw[YE (YLY (Heap.lt_size eo))];exact(f2 b hb).1,(f2 b hb).2⟩
 have lt3:∀b∈fp,b < s3.heap.objs.size:=fun b hb=>by
  obtain⟨o,eo,_⟩:=T.obj _ _ st2 b hb;rw[←es3,Heap.size_push];exact Nat.lt_succ_of_lt (Heap.lt_size eo)
 have old:∀b o,s3.heap.get? b=some o→h₁.get? b=some o:=fun b o eo=>hsb₁.extBut b o (YLY (Heap.lt_size eo)) (Heap.get?_push_of_some _ eo)
 have Ic:Inv (ZU X N scope cl s3.heap.objs.size s3 (upd H2 s2.heap.objs.size (.lst [])) fp (X.pn ++ pins)) [] (YDP ρ σ) (upd H2 s2.heap.objs.size (.lst [])) { s2 with heap:=h₁,toks:=s2.toks + ([]:List (Str×Value)).length }:=
  YFv S I3 f3 lt3 hns₁ old (by rw[←hs3] <;> rfl)
 have stat:∀{pl:List (Addr×Obj)}{H':Hp},pl=[]→(∀b∈fp,H' b=none)→∀b∈fp,YA9 (ZU X N scope cl s3.heap.objs.size s3 (upd H2 s2.heap.objs.size (.lst [])) fp (X.pn ++ pins)) pl H' b:=fun{pl H'} epl hn b hb=>by
  subst epl;refine⟨hn b hb,YLY (lt3 b hb),fun z=>?_,.inl hb,fun x c h1=>(f2 b hb).2.2.2.2.1 x c (S.sub x c h1),fun p hp=>(f2 b hb).2.2.2.2.2 p (by simpa using hp)⟩;rcases List.mem_cons.mp (I3.stkSub b z) with z |z
  ·exact(f2 b hb).2.1 z
  ·exact(f2 b hb).2.2.1 z
 have st4:tn 0 h₁:=T.keep _ _ _ st2 fun b hb o eo=>old b o (by rw[←es3];exact Heap.get?_push_of_some _ eo)
 have loop:codeAny (model X.prog X.w) X.A (.compLoop (.ListComp elt [⟨tg,iter,ifs,0⟩] scope pos) 0 (.ref it) (.ref s2.heap.objs.size) (compEnvC scope cl s3.heap.objs.size X.env))
   (compPost (model X.prog X.w) X.A X.xe none (EP X pins σ Q) (.ref s2.heap.objs.size) s3.heap.objs.size) { s2 with heap:=h₁,toks:=s2.toks + ([]:List (Str×Value)).length }:=by
  refine YEW (fun n s'=>∃i ys τ H',Inv (ZU X N scope cl s3.heap.objs.size s3 (upd H2 s2.heap.objs.size (.lst [])) fp (X.pn ++ pins)) [] τ H' s'∧tn i s'.heap∧(∀b∈fp,H' b=none)∧W i n ys τ H') ?_ m0
   ⟨0,[],_,_,Ic,st4,fun b hb=>(f3 b hb).1,w0⟩
  rintro n s4 ⟨i,ys,τ,H4,I4,st,fr4,w4⟩;rcases turn i n ys τ H4 w4 with ⟨stop,qn⟩ |⟨go,step⟩
  ·refine thn (T.done (ZU X N scope cl s3.heap.objs.size s3 (upd H2 s2.heap.objs.size (.lst [])) fp (X.pn ++ pins)) rfl rfl rfl hc i [] s4 τ H4 _ I4 (stat rfl fr4) st stop) fun r s5 ⟨hr,I5⟩=>?_
   subst hr;obtain⟨m5,hn5,_⟩:=I5.loc;refine⟨m5,hn5,fun h' hs'=>?_⟩;have ne:∀b,b < s3.heap.objs.size→b≠s3.heap.objs.size:=fun b hb=>YLY hb
   have get':∀b o,b≠s3.heap.objs.size→s5.heap.get? b=some o→h'.get? b=some o:=fun b o hb eo=>(hs'.2 b hb).trans eo
   have un:Un (frs X.stack) fp (upd H2 s2.heap.objs.size (.lst [])) H4 s3.heap h':=
    ⟨fun b o eo n1 n2 n3=>get' b o (ne b (Heap.lt_size eo)) (I5.base.keep b o eo n1 n2 n3),fun b o eo n1 n2 n3=>let ⟨sl,z⟩:=I5.base.slot b o eo n1 n2 n3;⟨sl,get' b _ (ne b (Heap.lt_size eo)) z⟩,
     I5.base.free,fun b o eo n1=>let ⟨o',z⟩:=I5.base.there b o eo n1;⟨o',get' b _ (ne b (Heap.lt_size eo)) z⟩,I5.base.tups,I5.base.frzs,I5.base.tbls⟩
   have hok:HOk X.prog X.w H4 h':=fun a o ea=>(I5.hok a o ea).stay (fun b u hb eo=>get' b u (fun z=>by
    have fr:H4 s3.heap.objs.size=none:=I5.free;rcases hb with rfl |hb
    ·rw[z,fr]at ea;cases ea
    ·rw[z,fr]at hb;cases hb) eo) (fun _ z=>z) fun _ _ z=>z
   have I6:Inv X pins σ H4 { s5 with heap:=h' }:=I3.call' (s':={ s5 with heap:=h' }) (ch:=fp) (show s5.os=s3.os from I5.os) un hok I5.bare fun b hb=>(f3 b hb).2.2.2
     |> fun z=>⟨(f3 b hb).2.2.2.1,(f3 b hb).2.1,(f3 b hb).2.2.2.2.1,(f3 b hb).2.2.2.2.2⟩
   exact⟨.ref s2.heap.objs.size,H4,I6,rfl,qn⟩
  ·refine thn (T.item (ZU X N scope cl s3.heap.objs.size s3 (upd H2 s2.heap.objs.size (.lst [])) fp (X.pn ++ pins)) rfl rfl rfl hc i [] s4 τ H4 _ I4 (stat rfl fr4) st go) fun r s5 ⟨u,hr,h5⟩=>?_
   subst hr;refine thn h5 fun _ s6 ⟨x,H6,I6,r6,y6,st6,fr6⟩=>?_
   have I6':=I6.pinned (stat rfl fr6) (T.obj _ _ st6);have again:∀{s9:Shared}{τ9:St}{H9:Hp}{zs:List V}{m':Nat},Inv (ZU X N scope cl s3.heap.objs.size s3 (upd H2 s2.heap.objs.size (.lst [])) fp (X.pn ++ pins)) ([] ++ YB8 fp s6.heap) τ9 H9 s9→m' < n→W (i + 1) m' zs τ9 H9→
     ∃m,m < n∧∃i ys τ H',Inv (ZU X N scope cl s3.heap.objs.size s3 (upd H2 s2.heap.objs.size (.lst [])) fp (X.pn ++ pins)) [] τ H' s9∧tn i s9.heap∧(∀b∈fp,H' b=none)∧W i m ys τ H':=fun{s9 τ9 H9 zs m'} I9 hm w9=>by
    refine⟨m',hm,i + 1,zs,τ9,H9,I9.unpinned,T.keep _ _ _ st6 fun b hb o eo=>(I9.pin (b,o) (YLO _ (YLO _ (JJ hb eo)))).1,fun b hb=>?_,w9⟩;obtain⟨o,eo,d⟩:=T.obj _ _ st6 b hb;exact(I9.pin (b,o) (YLO _ (YLO _ (JJ hb eo)))).2.1
   refine thn (hg _ _ _ _ _ _ s6 τ H6 x u _ I6' r6 (step x H6 y6)) fun _ s7 ⟨τ7,H7,I7,q7⟩=>?_
   refine thn (ht _ _ _ _ _ _ s7 τ7 H7 _ I7 q7) fun ok s8 ⟨H8,I8,q8⟩=>?_
   cases ok with
   |false=>
    rw[if_neg YLT]at q8 ⊢;obtain⟨m',hm,w9⟩:=q8;exact again I8 hm w9
   |true=>
    rw[if_pos rfl]at q8 ⊢;refine thn (he _ _ _ _ _ _ s8 τ7 H8 _ I8 q8) fun y s9 ⟨z,H9,I9,r9,hl9,hz9,m',hm,w9⟩=>?_
    refine thn (Yl _ s9 τ7 H9 (.ref s2.heap.objs.size) [z] (.ref s2.heap.objs.size) [y] (fun _ H'=>H'=upd H9 s2.heap.objs.size (.lst (ys ++ [z]))) I9 rfl (.cons r9 .nil) ⟨_,ys,z,rfl,rfl,hl9,hz9,rfl⟩) fun _ s10 ⟨_,H10,I10,_,e10⟩=>?_
    subst e10;exact again I10 hm w9
 exact codeAny_compStart_list loop (T.self _ 0 _ _ _ st4 loop)
end
end L2
namespace L2
open PySem PySem.Spec PyProof.Rows
theorem Yz.plain {X:Cx}{N:List Str}{ρ:List (Option Nat)}{scope:Scope} (hk:scope.kind=.function) (hn:∀y∈scope.names,y.2≠.cell∧y.2≠.free)
  (hl:∀y∈scope.names,y.2=.local→scope.names.lookup y.1=some .local) (hlen:ρ.length=N.length) (hρ:∀o∈ρ,o=none):Yz X N ρ scope []:=by
 have hre:(relabel scope X.env).names=scope.names:=by
  unfold relabel;refine map_eq_self fun y hy=>?_
  obtain⟨n,k⟩:=y;have hf:(k == NameKind.free)=false:=by
   have:=(hn _ hy).2;cases k <;> first |rfl |exact absurd rfl this
  show(if (k == NameKind.free && X.env.scope.kind == .function && X.env.kindOf n == some .cell)=true then (n,NameKind.cell) else (n,k))=(n,k);rw[hf];rfl
 refine⟨closureFor_none fun y hy=>(hn y hy).2,fun y hy=>(hn y hy).1,hk,hl,fun x c h=>(by cases h),fun x h=>?_,hlen,fun i j x _ h=>?_⟩
 ·rw[hre]at h;rcases h with h |h
  ·exact absurd rfl (hn _ (PySem.mem_of_lookup h)).1
  ·exact absurd rfl (hn _ (PySem.mem_of_lookup h)).2
 ·have:=hρ _ (YLH h);cases this
theorem YFw {x:Str}{te:TE}{Q:VK}{H:Hp}{l:Addr}{τ:St} (f:Nat→V) (hl:H l=none) (hτ:0 < τ.length) (hz:x.cps.size≤sizeLine)
  (ht:∀(τ':St) (c:Nat) (H':Hp) (R:VK),τ'[0]?=some (some (.str ⟨#[c]⟩))→c∈x.cps.toList→R (f c) H'→te τ' H' R) (hq:Q (.ref l) (upd H l (.lst (x.cps.toList.map f)))):
  YAc (Its x) (ZH 0) tYes te Q l τ H:=by
 refine⟨fun i m ys τ' H2=>m=x.cps.size - i∧i≤x.cps.size∧ys=(x.cps.toList.take i).map f∧0 < τ'.length∧H2=upd H l (.lst ys),⟨x.cps.size,by simp,YLN _,by simp,hτ,rfl⟩,?_⟩;rintro i m ys τ' H2 ⟨rfl,hi,rfl,hτ',rfl⟩
 by_cases hlt:i < x.cps.size
 ·refine .inr ⟨hlt,fun v H3 hy=>?_⟩;obtain⟨eH,c,hc,rfl⟩:=hy;subst eH;have hc':x.cps.toList[i]?=some c:=by simpa using hc
  show te _ _ _;refine ht _ c _ _ ?_ (YLH hc') ?_
  ·rw[List.getElem?_set_self hτ']
  ·have ht1:(x.cps.toList.take (i + 1)).map f=(x.cps.toList.take i).map f ++ [f c]:=by
    rw[YLf,hc',YLK];rfl
   refine⟨YB,?_,x.cps.size - (i + 1),by omega,rfl,hlt,ht1.symm,by rw[List.length_set];exact hτ',by rw[YC1]⟩;rw[YLD,List.length_take];have:x.cps.toList.length=x.cps.size:=by simp
   omega
 ·have ei:i=x.cps.size:=by omega
  subst ei;refine .inl ⟨rfl,?_⟩;have:x.cps.toList.take x.cps.size=x.cps.toList:=by
   apply List.take_of_length_le;simp
  rw[this];exact hq
end L2
namespace L2
open PySem PySem.Spec PyProof.Rows
def X1 (cs:List (Str×Addr)):List (Str×NameKind)→List (Str×Addr)→List (Str×Addr)
 |[],acc=>acc
 |y :: r,acc=>X1 cs r (if y.2 == .free then (y.1,(cs.lookup y.1).getD 0) :: acc else acc)
theorem YEX (cs:List (Str×Addr)):∀(names:List (Str×NameKind)) (acc:List (Str×Addr)),(∀p∈acc,p.2=(cs.lookup p.1).getD 0)→∀p∈X1 cs names acc,p.2=(cs.lookup p.1).getD 0
 |[],acc,h=>h
 |y :: r,acc,h=>by
  unfold X1;refine YEX cs r _ ?_;split
  ·intro p hp;rcases List.mem_cons.mp hp with rfl |hp
   ·rfl
   ·exact h p hp
  ·exact h
theorem YEY (cs:List (Str×Addr)):∀(names:List (Str×NameKind)) (acc:List (Str×Addr)),∀p∈X1 cs names acc,p∈acc∨∃y∈names,y.1=p.1∧y.2=.free
 |[],acc,p,hp=>.inl hp
 |y :: r,acc,p,hp=>by
  unfold X1 at hp;rcases YEY cs r _ p hp with h |⟨z,hz,h⟩
  ·split at h
   ·rename_i hy
    rcases List.mem_cons.mp h with rfl |h
    ·refine .inr ⟨y,YLP,rfl,?_⟩;cases hk:y.2 <;> rw[hk]at hy <;> first |rfl |cases hy
    ·exact .inl h
   ·exact .inl h
  ·exact .inr ⟨z,YLR _ hz,h⟩
theorem YEZ (cs:List (Str×Addr)):∀(names:List (Str×NameKind)) (acc:List (Str×Addr)),∀p∈acc,p∈X1 cs names acc
 |[],acc,p,hp=>hp
 |y :: r,acc,p,hp=>by
  unfold X1;refine YEZ cs r _ p ?_;split
  ·exact YLR _ hp
  ·exact hp
theorem YEa (cs:List (Str×Addr)):∀(names:List (Str×NameKind)) (acc:List (Str×Addr)),∀y∈names,y.2=.free→(y.1,(cs.lookup y.1).getD 0)∈X1 cs names acc
 |[],acc,y,hy,_=>absurd hy (by simp)
 |z :: r,acc,y,hy,hf=>by
  unfold X1;rcases List.mem_cons.mp hy with rfl |hy
  ·refine YEZ cs r _ _ ?_;rw[if_pos (by rw[hf];rfl)];exact YLP
  ·exact YEa cs r _ y hy hf
theorem YBG:∀{l:List (Str×Addr)}{x:Str}{c:Addr},(x,c)∈l→∃d,l.lookup x=some d
 |[],_,_,h=>absurd h (by simp)
 |(n,k) :: r,x,c,h=>by
  rw[List.lookup_cons];cases hx:x == n with
  |true=>exact⟨k,rfl⟩
  |false=>
   rcases List.mem_cons.mp h with e |h
   ·cases e;simp at hx
   ·exact YBG h
theorem YD5 {scope:Scope}{env:Env} (h:∀y∈scope.names,y.2=.free→∃c,env.cells.lookup y.1=some c):closureFor scope env=pure (X1 env.cells scope.names []):=by
 have go:∀(names:List (Str×NameKind)) (acc:List (Str×Addr)),(∀y∈names,y.2=.free→∃c,env.cells.lookup y.1=some c)→
   (forIn (m:=Sem) names acc (fun x r=>if (x.2 == NameKind.free)=true then do let c ←cellOf env x.1;pure (ForInStep.yield ((x.1,c) :: r)) else pure (ForInStep.yield r)))=pure (X1 env.cells names acc):=by
  intro names
  induction names with
  |nil=>intro acc _;rfl
  |cons y r ih=>
   intro acc hy;rw[List.forIn_cons];unfold X1
   by_cases hf:(y.2 == NameKind.free)=true
   ·have hf':y.2=.free:=by cases hk:y.2 <;> rw[hk]at hf <;> first |rfl |cases hf
    obtain⟨c,hc⟩:=hy y YLP hf';have e:cellOf env y.1=pure c:=by unfold cellOf;rw[hc]
    rw[if_pos hf,if_pos hf,e,pure_bind,pure_bind,hc];exact ih _ fun z hz=>hy z (YLR _ hz)
   ·rw[if_neg hf,if_neg hf,pure_bind];exact ih _ fun z hz=>hy z (YLR _ hz)
 have h2:=go scope.names [] h;simp only[closureFor];refine Eq.trans (congrArg (· >>= _) ?_) (by rw[pure_bind]);exact h2
theorem YBm (g:Str→NameKind→NameKind):∀(l:List (Str×NameKind)) (x:Str),(l.map fun y=>(y.1,g y.1 y.2)).lookup x=(l.lookup x).map (g x)
 |[],_=>rfl
 |(n,k) :: r,x=>by
  rw[YLS,List.lookup_cons,List.lookup_cons];cases hx:x == n with
  |true=>
   have e:x=n:=by simpa using hx
   subst e;rfl
  |false=>exact YBm g r x
theorem YAd (scope:Scope) (env:Env) (x:Str):(relabel scope env).names.lookup x=(scope.names.lookup x).map fun k=>if (k == NameKind.free && env.scope.kind == .function && env.kindOf x == some .cell)=true then .cell else k:=by
 rw[←YBm (fun n k=>if (k == NameKind.free && env.scope.kind == .function && env.kindOf n == some .cell)=true then .cell else k)];unfold relabel;congr 1;refine List.map_congr_left fun y _=>?_
 obtain⟨n,k⟩:=y;show(if (k == NameKind.free && env.scope.kind == .function && env.kindOf n == some .cell)=true then (n,NameKind.cell) else (n,k))=_;dsimp only;split <;> rfl
def YJ8 (N:List Str) (ρ:List (Option Nat)) (XN:List Str) (dn sn:List (Str×NameKind)):Bool:=
 (N.zip ρ).all fun p=>match p.2 with
  |none=>true
  |some j=>decide (XN[j]?=some p.1) && decide (dn.lookup p.1=some .cell) && decide (sn.lookup p.1=some .free)
theorem Yz.closes {X:Cx}{N:List Str}{ρ:List (Option Nat)}{scope:Scope} (XN:List Str) (dn:List (Str×NameKind)) (hXN:X.N=XN) (hdn:X.env.scope.names=dn) (hk:scope.kind=.function) (hX:X.env.scope.kind=.function) (hn:∀y∈scope.names,y.2≠.cell)
  (hfree:∀y∈scope.names,y.2=.free→dn.lookup y.1=some .cell) (hcell:∀x,X.env.scope.names.lookup x=some .cell→∃c,X.env.cells.lookup x=some c) (hl:∀y∈scope.names,y.2=.local→scope.names.lookup y.1=some .local) (hlen:ρ.length=N.length)
  (pJ:YJ8 N ρ XN dn scope.names=true):Yz X N ρ scope (X1 X.env.cells scope.names []):=by
 subst hXN hdn;have kd:∀x,X.env.kindOf x=X.env.scope.names.lookup x:=fun _=>rfl
 refine⟨YD5 fun y hy hf=>hcell _ (hfree y hy hf),hn,hk,hl,fun x c h=>?_,fun x h=>?_,hlen,fun i j x h1 h2=>?_⟩
 ·have hm:=PySem.mem_of_lookup h;have hv:=YEX X.env.cells scope.names [] (fun p hp=>absurd hp (by simp)) _ hm;rcases YEY X.env.cells scope.names [] _ hm with z |⟨y,hy,e1,e2⟩
  ·exact absurd z (by simp)
  ·obtain⟨d,hd⟩:=hcell _ (hfree y hy e2);have e1':y.1=x:=e1;rw[e1']at hd;have hv':c=(X.env.cells.lookup x).getD 0:=hv;rw[hd]at hv';rw[hd,hv'];rfl
 ·rw[YAd]at h;have hfr:scope.names.lookup x=some .free:=by
   cases e:scope.names.lookup x with
   |none=>rw[e]at h;rcases h with h |h <;> cases h
   |some k=>
    rw[e]at h;cases k with
    |free=>rfl
    |cell=>exact absurd rfl (hn _ (PySem.mem_of_lookup e))
    |_=>rcases h with h |h <;> cases h
  exact YBG (YEa X.env.cells scope.names [] _ (PySem.mem_of_lookup hfr) rfl)
 ·unfold YJ8 at pJ;rw[List.all_eq_true]at pJ;have hm:(x,some j)∈N.zip ρ:=by
   refine YLH (i:=i) ?_;rw[List.getElem?_zip_eq_some];exact⟨h1,h2⟩
  have h3:=pJ _ hm;simp only[YLJ,decide_eq_true_eq]at h3;obtain⟨⟨a1,a2⟩,a3⟩:=h3;refine⟨a1,.inl (by rw[kd];exact a2),.inl ?_⟩;rw[YAd,a3,kd,a2,hX];rfl
end L2
namespace L2
open PySem PySem.Spec PyProof.Rows
section
variable {X:Cx}
theorem vals_bl:∀{bs:List Bool}{us:List Value}{i:Nat}{v:Value},Yq (bs.map V.bl) us→us[i]?=some v→∃b,bs[i]?=some b∧v=.bool b:=by
 intro bs us i v r e;cases e2:(bs.map V.bl)[i]? with
 |none=>
  have:=r.none_of e2;rw[this]at e;cases e
 |some x=>
  obtain⟨u,hu,ru⟩:=r.get e2;rw[hu]at e;cases e;rw[YLI]at e2;cases e3:bs[i]? with
  |none=>rw[e3]at e2;cases e2
  |some b=>
   rw[e3]at e2;have e4:V.bl b=x:=Option.some.inj e2;subst e4;exact⟨b,rfl,ru⟩
theorem YD6 (bs:List Bool):((List.range bs.length).all fun i=>(bs[i]?).getD true)=bs.all id:=by
 rw[YLe,List.all_eq_true,List.all_eq_true];constructor
 ·intro h b hb;obtain⟨i,hi,rfl⟩:=List.mem_iff_getElem.mp hb;have:=h i (List.mem_range.mpr hi);rw[YLF hi]at this;exact this
 ·intro h i hi;have hi':=List.mem_range.mp hi;rw[YLF hi'];exact h _ (List.getElem_mem hi')
theorem YJ9 (hc:X.calm=true):Jb X (.builtin "all") (fun xs H Q=>∃(p:Addr) (bs:List Bool),xs=[.ref p]∧SqL X.K H p (bs.map V.bl)∧Q (.bl (bs.all id)) H):=by
 intro pins s σ H xs us Q I r h;obtain⟨p,bs,rfl,hq,q⟩:=h;obtain⟨u,rfl,rx⟩:=Jc r;cases rx;obtain⟨its,rv,pl,hz⟩:=I.list hq;have hl:=pl.isList;have hlt:p < s.heap.objs.size:=by obtain⟨_,e,_⟩:=hl;exact Heap.lt_size e
 have hlen:bs.length=its.length:=by have:=rv.length;rwa [YLD]at this
 refine call_all_walk (wpAny_pyIter_list hl ?_);refine⟨s.heap.objs.size,[s.heap.objs.size,p],[s.heap.objs.size],its.toArray.size,_,_,fun i=>(bs[i]?).getD true,rfl,Walks.list (A:=X.A.in1) (I.ok.hd hc) _ p (YLY hlt) its.toArray,
  ⟨⟨_,Heap.get?_push_size _ rfl,rfl,rfl⟩,hl.push _⟩,fun i v s' Q' E' hP hQ=>?_,fun h' tk hk=>?_⟩
 ·obtain⟨b,eb,rfl⟩:=vals_bl rv (i:=i) (v:=v) (by simpa using hP);simp only[eb,Option.getD_some]at hQ;exact wpAny_truthy_bool hQ
 ·have e:((List.range its.toArray.size).all fun i=>(bs[i]?).getD true)=bs.all id:=by
   rw[YLL,←hlen];exact YD6 bs
  rw[e];exact⟨.bl _,H,I.kept (t':=tk) fun b o eb=>hk b o (fun z=>by rw[List.mem_singleton.mp z]at eb;exact Nat.lt_irrefl _ (Heap.lt_size eb)) (Heap.get?_push_of_some _ eb),rfl,q⟩
theorem YKA:SlR X (fun x lo hi H Q=>∃z,x=.str z∧z.length≤sizeLine∧Q (.str (Txt.slice z lo hi)) H):=by
 intro pins s σ H x v vl vu lo hi sl Q I rx hs pl pu h;obtain⟨z,rfl,hz,q⟩:=h;obtain⟨t,rfl⟩:=rx;refine⟨"str",_,F.slot_str_getitem.lookup,typeIs_str _ _ _,?_⟩;have fin:∀(t':Tok) (k:Nat),EP X pins σ Q (.str (Txt.slice z lo hi) t') { s with toks:=k }:=fun t' k=>⟨.str _,H,I.tok _,⟨_,rfl⟩,q⟩
 obtain⟨o,ho,hc,hd⟩:=hs;cases pl with
 |none=>
  cases pu with
  |none=>exact wpAny_getItem_str_slice (l:=none) (u:=none) (st:=none) ⟨o,ho,hc,hd⟩ rfl (post_val_or_str ⟨YLb (Txt.slice_le z _ _) hz,fin⟩)
  |int j uj=>exact wpAny_getItem_str_slice (l:=none) (u:=some (j,uj)) (st:=none) ⟨o,ho,hc,hd⟩ rfl (post_val_or_str ⟨YLb (Txt.slice_le z _ _) hz,fin⟩)
 |int i ui=>
  cases pu with
  |none=>exact wpAny_getItem_str_slice (l:=some (i,ui)) (u:=none) (st:=none) ⟨o,ho,hc,hd⟩ rfl (post_val_or_str ⟨YLb (Txt.slice_le z _ _) hz,fin⟩)
  |int j uj=>exact wpAny_getItem_str_slice (l:=some (i,ui)) (u:=some (j,uj)) (st:=none) ⟨o,ho,hc,hd⟩ rfl (post_val_or_str ⟨YLb (Txt.slice_le z _ _) hz,fin⟩)
theorem YEb:OpR X (compareOp .LtE) (fun x y H Q=>∃i j,x=.str i∧y=.str j∧Q (.bl (!decide (j.cps.toList < i.cps.toList))) H):=by
 intro pins s σ H x y v u Q I rx ry h;obtain⟨i,j,rfl,rfl,q⟩:=h;obtain⟨t,rfl⟩:=rx;obtain⟨t',rfl⟩:=ry;exact PySem.P.le_str (Y5 I q rfl)
def clsV:V→Option Value
 |.ty n=>some (.type n)
 |.ref a=>some (.ref a)
 |_=>none
theorem YKB {c:V}{u w:Value} (h:clsV c=some u) (r:Yx c w):w=u:=by
 cases c with
 |ty n=>cases h;exact r
 |ref a=>cases h;exact r
 |_=>cases h
theorem YKC:Jb X (.builtin "isinstance") (fun xs H Q=>∃x c t u b,xs=[x,c]∧YBM X.K H x t∧clsV c=some u∧PySem.W.kitOne X.K t u=some b∧Q (.bl b) H):=by
 intro pins s σ H xs us Q I r h;obtain⟨x,c,t,u,b,rfl,ty,rc,e,q⟩:=h;obtain⟨v,w,rfl,rv,rw'⟩:=vals2 r;have eu:w=u:=YKB rc rw';subst eu;exact YI5 I rv ty e fun tk=>⟨.bl b,H,I.tok tk,rfl,q⟩
end
def ZB:HO→Bool
 |.dT _=>false
 |.frz _ (.dT _)=>true
 |.frz _ u=>ZB u
 |_=>true
theorem Y8.less {P:Program}{w:World}{H H':Hp}{h h':Heap}{a:Addr}{o:HO} (hp:ZB o=true) (x:Y8 P w H' h' a o) (y:Y8 P w H h a o):Y8 P w H h' a o:=by
 induction o with
 |dT kvs=>cases hp
 |ins C dx fs=>exact⟨y.1,x.2⟩
 |frz ob u ih=>
  cases u with
  |dT kvs=>
   obtain⟨z1,z2,xs,z3,o,es,ep,z4,z5⟩:=y.2;have e:o=ob:=by
    have:=y.1;rw[z4]at this;exact Option.some.inj this
   subst e;exact⟨x.1,z1,z2,xs,z3,o,es,ep,x.1,z5⟩
  |_=>exact⟨x.1,ih hp x.2 y.2⟩
 |lst xs=>exact x
 |tup xs=>exact x
 |dK kvs=>exact x
 |set S n=>exact x
 |own z=>exact x
 |xd fs=>exact x
 |rng lo hi=>exact x
 |tbl ps=>exact x
 |met f z=>exact x
 |ext φ=>exact x
section
variable {X:Cx}{pins:List (Addr×Obj)}{σ:St}{H H':Hp}{s s':Shared}
theorem Inv.less (hp:∀a o,H a=some o→ZB o=true) (I:Inv X pins σ H s) (I':Inv X pins σ H' s') (sm:YI H H'):Inv X pins σ H s':=
 ⟨I.ok,I'.os,I'.bare,⟨I'.base.keep,I'.base.slot,I.base.free,I'.base.there,I.base.tups,I.base.frzs,I.base.tbls⟩,I'.loc,I'.cell,I.free,I.freeC,fun p hpp=>⟨(I'.pin p hpp).1,(I.pin p hpp).2⟩,
  fun a o ea=>(I'.hok a o (sm a o ea)).less (hp a o ea) (I.hok a o ea),I.len⟩
def YU (H:Hp):Prop:=∀a o,H a=some o→ZB o=true
theorem YU.upd {H:Hp}{a:Addr}{o:HO} (h:YU H) (ho:ZB o=true):YU (upd H a o):=fun b u e=>by
 by_cases hb:b=a
 ·subst hb;rw[YB]at e;cases e;exact ho
 ·rw[YE hb]at e;exact h b u e
inductive YKD (t:TE) (σ:St) (H:Hp) (Q:VK):Prop where
 |mk (h0_:YU H) (h1_:t σ H fun v H'=>YI H H'∧Q v H):YKD t σ H Q
def tPure (t:TE):TE:=fun σ H Q=>YKD t σ H Q
theorem YC5 {e:Expr}{t:TE} (h:PE X e t):PE X e (tPure t):=by
 intro pins s σ H Q I ⟨hp,hw⟩;exact thn (h pins s σ H _ I hw) fun v s1 ⟨x,H1,I1,r1,sm,q⟩=>⟨x,H,I.less hp I1 sm,r1,q⟩
end
end L2
namespace L2
open PySem PySem.Spec PyProof.Rows
structure ExcAt (K:W.Frag) (C:Addr):Prop where
 ga:PySem.W.findIn K (.ref C) "__getattribute__"=some (some (.builtin "BaseException.__getattribute__"))
 gt:PySem.W.findIn K (.ref C) "__getattr__"=some none
 cl:PySem.W.findIn K (.ref C) "__class__"=some (some (.builtin "object.__class__"))
 mb:PySem.W.mroIn K C (.type "BaseException")=some true
 mo:PySem.W.mroIn K C (.type "object")=some true
 gs:PySem.W.specialIn K (.builtin "object.__class__") "__get__"=some (some (.builtin "getset_descriptor.__get__"))
 tk:PySem.W.takesIn K (.builtin "object.__class__")=some true
section
variable {prog:Program}{w:World}{A:Around}{E:Value→Shared→Prop}{s:Shared}{K:W.Frag}{e C:Addr}
end
section
variable {X:Cx}
end
end L2
namespace L2
open PySem PySem.Spec PyProof.Rows
section
variable {X:Cx} (K:W.Frag) (hK:X.K=K)
include hK
theorem YW:IxR X (rIxL K):=by subst hK;exact ix_list
theorem YS:IxR X (rIxT K):=by subst hK;exact ix_tup
theorem YAe:SlR X (rSlL K):=by subst hK;exact sl_list
theorem YQ:Jb X (.builtin "len") (fun xs H Q=>∃p ys,xs=[.ref p]∧(SqL K H p ys∨SqT K H p ys)∧Q (.int ys.length) H):=by subst hK;exact YE9
theorem Xq:Jb X (.type "list") (fun xs H Q=>∃p ys,xs=[.ref p]∧(SqL K H p ys∨SqT K H p ys)∧∀l,H l=none→Q (.ref l) (upd H l (.lst ys))):=by subst hK;exact YFA
theorem YDQ:Jb X (.type "tuple") (fun xs H Q=>∃p ys,xs=[.ref p]∧((SqL K H p ys∧∀l,H l=none→Q (.ref l) (upd H l (.tup ys)))∨(SqT K H p ys∧Q (.ref p) H))):=by subst hK;exact YD4
theorem YAx (hc:X.calm=true):Jb X (.builtin "all") (fun xs H Q=>∃(p:Addr) (bs:List Bool),xs=[.ref p]∧SqL K H p (bs.map V.bl)∧Q (.bl (bs.all id)) H):=by subst hK;exact YJ9 hc
theorem JQ:Jb X (.builtin "isinstance") (fun xs H Q=>∃x c t u b,xs=[x,c]∧YBM K H x t∧clsV c=some u∧PySem.W.kitOne K t u=some b∧Q (.bl b) H):=by subst hK;exact YKC
theorem JE {tg l:Expr}{tl:TE} (hl:PE X l tl):PI X tg l (iList K tl):=by subst hK;exact pi_list hl
theorem Xf {tg l:Expr}{tl:TE} (hl:PE X l tl):PI X tg l (iTup K tl):=by subst hK;exact pi_tup hl
theorem YAy {a:Expr}{ta:TE} (ha:PE X a ta) (he:∀whole,isTrue a X.env whole=(do let v ←whole;standAt a.pos;holding [v] (truthy v))):
  PT X a (fun σ H Q=>ta σ H fun x H'=>∃k,TruV K x H' k∧Q k H'):=by subst hK;exact YJo ha he
theorem YFC {es:List Expr}{k:Nat}{t:TGs}{n:Nat}{pos:Pos} (hc:X.calm=true) (h:PGs X es t)
  (hn:(assignEach es X.env).length=n:=by rfl) (hst:(assignEach es X.env).findIdx? (·.1)=none:=by rfl):PG X (.Tuple es k pos) (gTup K n t):=by subst hK;exact pg_tup hc h hn hst
variable {o e:Expr}{es:List Expr}{to:TE}{t:TA}{name:Str}{apos cpos:Pos}{T id:String}{r:V→List V→Hp→VK→Prop}
theorem Xg (pa:PlainAttrs T) (slot:Slot T name id) (hty:typeOf (.builtin id)=pure (.type "method_descriptor")) (hm:MtR X id r) (ho:PE X o to)
  (hbase:attributeBase o name X.env (eval o X.env)=eval o X.env:=by rfl) (hline:(apos.endLine == cpos.line)=true:=by rfl):PE X (.Call (.Attribute o name apos) [] [] cpos) (tBM0 K T r to):=by
 subst hK;exact pe_bm0 pa slot hty hm ho hbase hline
theorem ZV (pa:PlainAttrs T) (slot:Slot T name id) (hty:typeOf (.builtin id)=pure (.type "method_descriptor")) (hm:MtR X id r) (ho:PE X o to) (ha:PA X (e :: es) t)
  (hbase:attributeBase o name X.env (eval o X.env)=eval o X.env:=by rfl)
  (hfew:((backTo cpos (starEach (e :: es) X.env)).all (fun x=>!x.1) && (backToKw cpos (keywordEach [] X.env)).all (fun x=>x.1.isSome)
   && decide ((e :: es).length + ([]:List Keyword).length + (if ([]:List Keyword).isEmpty then 0 else 1) < 30))=true:=by rfl)
  (hline:(apos.endLine == cpos.line)=true:=by rfl) (hs:starEach (e :: es) X.env=(false,eval e X.env) :: starEach es X.env:=by rfl) (hplain:(backTo cpos (starEach es X.env)).any (·.1)=false:=by rfl):
  PE X (.Call (.Attribute o name apos) (e :: es) [] cpos) (tBM K T r to t):=by
 subst hK;exact pe_bm pa slot hty hm ho ha hbase hfew hline hs hplain
end
end L2
namespace L2
open PySem PySem.Spec PyProof.Rows
section
variable {P:Program}{w:World}{K:W.Frag}{mg:Str→Option Value}{base:Heap}
theorem Fun.okX {x qual:Str}{st:Stmt}{f:Addr}{fd:FuncData}{N ps:List Str}{k:Nat}{sp:Sp} (F:Fun K x qual st f fd) (S:YV N ps (YJ st)) (len:∀vs H Q E,sp vs H Q E→vs.length=ps.length)
  (hbody:∀(cdv:Value) (A:Around) (outer:List Env) (s:Shared) (H:Hp) (vs:List V) (Q:VK) (E:XK),Jr k (A.deeper (envOfC qual (YJ st) s.heap.objs.size f cdv))→sp vs H Q E→
   ∃t,PSs (YCA (CXo P w) P w K mg base N qual (YJ st) f cdv A outer s H E) (JB st) t∧t { nx:=fun _ H'=>Q .non H',rt:=Q } (YBj N vs) H):Y6 P w K mg base (CXo P w) (k + 1) f fd ps sp:=by
 obtain⟨oc,od,kV,doc,pm,an,cdv,ct,osl,rfl,lk,hcd⟩:=F.ex;exact fn_of lk hcd S len fun A outer s H vs Q E hr hsp=>hbody cdv A outer s H vs Q E hr hsp
end
structure Zq (P:Program) (w:World) (K:W.Frag) (mg:Str→Option Value) (CX:CXT) (k:Nat) (x:Str) (ps:List Str) (sp:Sp):Prop where
 ok:∃f fd,(∀base,Y6 P w K mg base CX k f fd ps sp)∧mg x=some (.ref f)∧PySem.W.keepIn K (.ref f)=true∧YAS K fd ps []
theorem passX {X:Cx}:YAB (CXo X.prog X.w) X E0:=fun _ _ _ _ _ _ _ ⟨_,_,_,_,_,h⟩=>h.elim
theorem YI.upd {H:Hp}{p:Addr}{o:HO} (h:H p=none):YI H (upd H p o):=fun b u e=>by rw[YE (Ya e h)];exact e
theorem YI.put {H H':Hp}{p:Addr}{o:HO} (s:YI H H') (h:H p=none):YI H (L2.upd H' p o):=fun b u e=>by rw[YE (Ya e h)];exact s b u e
def del (H:Hp) (l:Addr):Hp:=fun b=>if b=l then none else H b
theorem Zy {H:Hp}{l b:Addr} (h:b≠l):del H l b=H b:=if_neg h
theorem YBn {H:Hp}{l:Addr}:del H l l=none:=if_pos rfl
theorem YKE (H:Hp) (l:Addr):YI (del H l) H:=fun b o e=>by
 unfold del at e;split at e
 ·cases e
 ·exact e
theorem YI.del {H H':Hp} (s:YI H H') (l:Addr):YI (L2.del H l) (L2.del H' l):=fun b o e=>by
 unfold L2.del at e ⊢;split at e
 ·cases e
 ·rw[if_neg (by assumption)];exact s b o e
theorem YI.to_del {H H':Hp}{l:Addr} (s:YI H H') (h:H l=none):YI H (L2.del H' l):=fun b o e=>by
 rw[Zy (Ya e h)];exact s b o e
theorem YC6 {H:Hp}{l:Addr}{o:HO}:L2.del (L2.upd H l o) l=L2.del H l:=by
 funext b;unfold L2.del L2.upd;split <;> rfl
theorem comp_by {J:It}{g:TG}{tc:TT}{te:TE}{Q:VK}{l:Addr}{τ:St}{H1:Hp} (n:Nat) (W:Nat→List V→St→Hp→Prop) (h0:W 0 [] τ (upd H1 l (.lst [])))
  (hgo:∀i ys τ H (N:List V→St→Hp→Prop),i < n→W i ys τ H→(∀ys τ H,W (i + 1) ys τ H→N ys τ H)→J.go i H∧∀x H3,J.yld i H x H3→g x τ H3 fun τ4 H4=>tc τ4 H4 fun b H5=>
   if b=true then te τ4 H5 fun y H6=>H6 l=some (.lst ys)∧ys.length < sizeLine∧N (ys ++ [y]) τ4 (upd H6 l (.lst (ys ++ [y]))) else N ys τ4 H5)
  (hst:∀ys τ H,W n ys τ H→J.stop n H∧Q (.ref l) H):YAc J g tc te Q l τ H1:=by
 refine⟨fun i m ys τ H=>m=n - i∧i≤n∧W i ys τ H,⟨n,by simp,YLN _,h0⟩,?_⟩;rintro i m ys τ H ⟨rfl,hi,w⟩
 by_cases hlt:i < n
 ·exact .inr (hgo i ys τ H (fun ys τ H=>∃m',m' < n - i∧m'=n - (i + 1)∧i + 1≤n∧W (i + 1) ys τ H) hlt w fun ys τ H h=>⟨n - (i + 1),by omega,rfl,hlt,h⟩)
 ·have ei:i=n:=by omega
  subst ei;exact .inl (hst ys τ H w)
def YCF (J:It) (n:Nat) (H:Hp) (item:Nat→V→Prop):Prop:=∀i H',YI H H'→(i < n→J.go i H'∧∀x H3,J.yld i H' x H3→H3=H'∧item i x)∧J.stop n H'
theorem YBO {K:W.Frag}{a:Addr}{xs:List V}{H:Hp} (h:SqL K H a xs):YCF (Itl K a) xs.length H fun i x=>xs[i]?=some x:=fun i H' s=>by
 have h':=s.seq h;exact⟨fun hi=>⟨⟨xs,xs[i],h',by simp[hi]⟩,fun x H3 y=>⟨y.1,y.2 xs h'⟩⟩,⟨xs,h',YLG _⟩⟩
theorem YI.seqT {K:W.Frag}{H H':Hp}{a:Addr}{xs:List V} (e:YI H H') (h:SqT K H a xs):SqT K H' a xs:=by
 rcases h with (h |⟨o,h⟩) |h
 ·exact .inl (.inl (e _ _ h))
 ·exact .inl (.inr ⟨o,e _ _ h⟩)
 ·exact .inr h
theorem X2 {K:W.Frag}{a:Addr}{xs:List V}{H:Hp} (h:SqT K H a xs):YCF (Itt K a) xs.length H fun i x=>xs[i]?=some x:=fun i H' s=>by
 have h':=s.seqT h;exact⟨fun hi=>⟨⟨xs,xs[i],h',by simp[hi]⟩,fun x H3 y=>⟨y.1,y.2 xs h'⟩⟩,⟨xs,h',YLG _⟩⟩
theorem YCe {lo:Int}{n:Nat}{H:Hp}:YCF (Itr lo n) n H fun i x=>x=.int (lo + i):=fun i H' s=>
 ⟨fun hi=>⟨hi,fun x H3 y=>y⟩,YLG _⟩
theorem XM {J:It}{n:Nat}{item:Nat→V→Prop}{te:TE}{Q:VK}{H:Hp}{l:Addr}{τ:St} (j0:Nat) (Py:Nat→V→Hp→Prop) (hJ:YCF J n H item) (mono:∀k y H H',YI H H'→Py k y H→Py k y H') (hp:YU H)
  (hl:H l=none) (hτ:j0 < τ.length) (hz:n≤sizeLine) (keep:St→Prop) (hk0:keep τ) (hks:∀τ' v,keep τ'→keep (τ'.set j0 v))
  (ht:∀(τ':St) (k:Nat) (x:V) (H':Hp) (R:VK),keep τ'→τ'[j0]?=some (some x)→item k x→k < n→YI H H'→YU H'→H' l≠none→(∀y H6,YI H' H6→YU H6→Py k y (del H6 l)→R y H6)→te τ' H' R)
  (hq:∀ys H',ys.length=n→(∀k y,ys[k]?=some y→Py k y (del H' l))→YI H H'→YU H'→H' l=some (.lst ys)→Q (.ref l) H'):YAc J (ZH j0) tYes te Q l τ H:=by
 refine⟨fun i m ys τ' H2=>m=n - i∧i≤n∧ys.length=i∧(∀k y,ys[k]?=some y→Py k y (del H2 l))∧j0 < τ'.length∧keep τ'∧YI H H2∧YU H2∧H2 l=some (.lst ys),
  ⟨n,by simp,YLN _,rfl,fun k y e=>by simp at e,hτ,hk0,YI.upd hl,hp.upd rfl,YB⟩,?_⟩
 rintro i m ys τ' H2 ⟨rfl,hi,hy,hP,hτ',hk',hs,hpl,hll⟩;obtain⟨hgo,hst⟩:=hJ i H2 hs
 by_cases hlt:i < n
 ·obtain⟨h1,h2⟩:=hgo hlt;refine .inr ⟨h1,fun x H3 hyl=>?_⟩;obtain⟨eH,hit⟩:=h2 x H3 hyl;subst eH;show te _ _ _;refine ht _ i x _ _ (hks _ _ hk') ?_ hit hlt hs hpl (by rw[hll];intro z;cases z) fun y H6 s6 p6 py=>?_
  ·rw[List.getElem?_set_self hτ']
  ·have hl6:H6 l=some (.lst ys):=s6 _ _ hll;refine⟨hl6,by omega,n - (i + 1),by omega,rfl,hlt,by simp[hy],fun k z e=>?_,by rw[List.length_set];exact hτ',hks _ _ hk',(hs.trans s6).put hl,p6.upd rfl,YB⟩;rw[YC6]
   by_cases hkl:k < ys.length
   ·rw[YLZ hkl]at e;exact mono k z _ _ (s6.del l) (hP k z e)
   ·rw[YLV (by omega)]at e;have hk0:k - ys.length=0:=by
     cases hh:k - ys.length with
     |zero=>rfl
     |succ j=>rw[hh]at e;simp at e
    rw[hk0]at e;have e2:y=z:=by simpa using e
    have e3:k=i:=by omega
    subst e2 e3;exact py
 ·have ei:i=n:=by omega
  subst ei;exact .inl ⟨hst,hq ys H2 hy hP hs hpl hll⟩
end L2
namespace L2
open PySem PySem.Spec PyProof.Rows
inductive D where
 |non |bl (b:Bool) |int (i:Int) |str (x:Str) |lst (xs:List D) |tup (xs:List D) |oth
mutual
def eqD:D→D→Bool
 |.non,.non=>true
 |.bl a,.bl b=>a == b
 |.bl a,.int b=>(if a then (1:Int) else 0) == b
 |.int a,.bl b=>a == (if b then (1:Int) else 0)
 |.int a,.int b=>a == b
 |.str a,.str b=>a == b
 |.lst xs,.lst ys=>J0 xs ys
 |.tup xs,.tup ys=>J0 xs ys
 |_,_=>false
def J0:List D→List D→Bool
 |[],[]=>true
 |x :: xs,y :: ys=>eqD x y && J0 xs ys
 |_,_=>false
end
mutual
def D.dep:D→Nat
 |.lst xs=>YCG xs + 1
 |.tup xs=>YCG xs + 1
 |_=>0
def YCG:List D→Nat
 |[]=>0
 |x :: xs=>max x.dep (YCG xs)
end
mutual
def Den (H:Hp):V→D→Prop
 |v,.non=>v=.non
 |v,.bl b=>v=.bl b
 |v,.int i=>v=.int i
 |v,.str x=>v=.str x
 |v,.lst ds=>∃a xs,v=.ref a∧Rd H a (.lst xs)∧Yb H xs ds
 |v,.tup ds=>∃a xs,v=.ref a∧H a=some (.tup xs)∧Yb H xs ds
 |v,.oth=>∃a kvs,v=.ref a∧H a=some (.dK kvs)
def Yb (H:Hp):List V→List D→Prop
 |[],[]=>True
 |v :: vs,d :: ds=>Den H v d∧Yb H vs ds
 |_,_=>False
end
mutual
def D.ok:D→Bool
 |.lst xs=>okS xs
 |.tup xs=>okS xs
 |.oth=>false
 |_=>true
def okS:List D→Bool
 |[]=>true
 |x :: xs=>x.ok && okS xs
end
theorem YBo:∀{xs:List D}{d:D},okS xs=true→d∈xs→d.ok=true
 |x :: xs,d,h,hd=>by
  unfold okS at h;rw[YLJ]at h;rcases List.mem_cons.mp hd with rfl |hd
  ·exact h.1
  ·exact YBo h.2 hd
theorem YKF:∀{xs:List D},(∀d∈xs,d.ok=true)→okS xs=true
 |[],_=>by unfold okS;rfl
 |x :: xs,h=>by unfold okS;rw[h x YLP,YKF fun d hd=>h d (YLR _ hd)];rfl
theorem YFD:∀{xs:List D}{d:D},d∈xs→d.dep≤YCG xs
 |x :: xs,d,h=>by
  unfold YCG;rcases List.mem_cons.mp h with rfl |h
  ·exact Nat.le_max_left _ _
  ·exact YLb (YFD h) (Nat.le_max_right _ _)
mutual
theorem YBp:∀d:D,d.ok=true→eqD d d=true
 |.non,_=>by unfold eqD;rfl
 |.bl b,_=>by unfold eqD;exact beq_self_eq_true b
 |.int i,_=>by unfold eqD;exact beq_self_eq_true i
 |.str x,_=>by unfold eqD;exact beq_self_eq_true x
 |.lst xs,h=>by unfold eqD;unfold D.ok at h;exact YCH xs h
 |.tup xs,h=>by unfold eqD;unfold D.ok at h;exact YCH xs h
 |.oth,h=>by unfold D.ok at h;cases h
theorem YCH:∀ds:List D,okS ds=true→J0 ds ds=true
 |[],_=>by unfold J0;rfl
 |d :: ds,h=>by
  unfold okS at h;rw[YLJ]at h;unfold J0;rw[YBp d h.1,YCH ds h.2];rfl
end
theorem eqD_lst (xs ys:List D):eqD (.lst xs) (.lst ys)=J0 xs ys:=by unfold eqD;rfl
theorem YFE (xs ys:List D):eqD (.tup xs) (.tup ys)=J0 xs ys:=by unfold eqD;rfl
theorem YDR:∀{xs ys:List D},xs.length≠ys.length→J0 xs ys=false
 |[],[],h=>absurd rfl h
 |[],_ :: _,_=>by unfold J0;rfl
 |_ :: _,[],_=>by unfold J0;rfl
 |x :: xs,y :: ys,h=>by
  unfold J0;rw[YDR (xs:=xs) (ys:=ys) fun e=>h (by rw[YLM,YLM,e]),Bool.and_false]
theorem YDS:∀{xs ys:List D},xs.length=ys.length→J0 xs ys=(List.range xs.length).all fun j=>eqD (xs.getD j .non) (ys.getD j .non)
 |[],[],_=>by unfold J0;rfl
 |[],_ :: _,h=>by cases h
 |_ :: _,[],h=>by cases h
 |x :: xs,y :: ys,h=>by
  unfold J0;rw[YDS (xs:=xs) (ys:=ys) (Nat.succ.inj h),YLM,List.range_succ_eq_map,List.all_cons,List.all_map];rfl
section
variable {H H':Hp}
theorem Yb.len:∀{xs:List V}{ds:List D},Yb H xs ds→xs.length=ds.length
 |[],[],_=>rfl
 |[],_ :: _,h=>by unfold Yb at h;exact h.elim
 |_ :: _,[],h=>by unfold Yb at h;exact h.elim
 |v :: vs,d :: ds,h=>by
  unfold Yb at h;rw[YLM,YLM,Yb.len h.2]
theorem Yb.get:∀{xs:List V}{ds:List D}{i:Nat}{v:V},Yb H xs ds→xs[i]?=some v→∃d,ds[i]?=some d∧Den H v d
 |[],_,i,v,_,e=>by simp at e
 |_ :: _,[],_,_,h,_=>by unfold Yb at h;exact h.elim
 |x :: xs,d :: ds,0,v,h,e=>by
  unfold Yb at h;simp at e;subst e;exact⟨d,rfl,h.1⟩
 |x :: xs,d :: ds,i + 1,v,h,e=>by
  unfold Yb at h;exact Yb.get (i:=i) h.2 (by simpa using e)
theorem Yb.nil:Yb H [] []:=by unfold Yb;trivial
theorem Yb.cons {v:V}{vs:List V}{d:D}{ds:List D} (h:Den H v d) (hs:Yb H vs ds):Yb H (v :: vs) (d :: ds):=by unfold Yb;exact⟨h,hs⟩
theorem Yb.append:∀{xs ys:List V}{ds es:List D},Yb H xs ds→Yb H ys es→Yb H (xs ++ ys) (ds ++ es)
 |[],_,[],_,_,h=>h
 |[],_,_ :: _,_,h,_=>by unfold Yb at h;exact h.elim
 |_ :: _,_,[],_,h,_=>by unfold Yb at h;exact h.elim
 |x :: xs,ys,d :: ds,es,h,h2=>by
  unfold Yb at h;exact .cons h.1 (Yb.append h.2 h2)
theorem Den.lst {a:Addr}{xs:List V}{ds:List D} (h:Rd H a (.lst xs)) (hs:Yb H xs ds):Den H (.ref a) (.lst ds):=by unfold Den;exact⟨a,xs,rfl,h,hs⟩
theorem Den.tup {a:Addr}{xs:List V}{ds:List D} (h:H a=some (.tup xs)) (hs:Yb H xs ds):Den H (.ref a) (.tup ds):=by unfold Den;exact⟨a,xs,rfl,h,hs⟩
theorem Den.int (i:Int):Den H (.int i) (.int i):=by unfold Den;rfl
theorem Den.str (x:Str):Den H (.str x) (.str x):=by unfold Den;rfl
theorem Den.to_lst {v:V}{ds:List D} (h:Den H v (.lst ds)):∃a xs,v=.ref a∧Rd H a (.lst xs)∧Yb H xs ds:=by unfold Den at h;exact h
theorem Den.to_tup {v:V}{ds:List D} (h:Den H v (.tup ds)):∃a xs,v=.ref a∧H a=some (.tup xs)∧Yb H xs ds:=by unfold Den at h;exact h
theorem Den.to_int {v:V}{i:Int} (h:Den H v (.int i)):v=.int i:=by unfold Den at h;exact h
theorem Den.to_str {v:V}{i:Str} (h:Den H v (.str i)):v=.str i:=by unfold Den at h;exact h
theorem Yb.strs:∀(ns:List Str),Yb H (ns.map V.str) (ns.map D.str)
 |[]=>.nil
 |n :: ns=>.cons (.str n) (Yb.strs ns)
theorem YI.rd {a:Addr}{u:HO} (e:YI H H') (h:Rd H a u):Rd H' a u:=by
 rcases h with h |⟨o,h⟩
 ·exact .inl (e _ _ h)
 ·exact .inr ⟨o,e _ _ h⟩
theorem Rd.inj {a:Addr}{xs ys:List V} (h:Rd H a (.lst xs)) (h':Rd H a (.lst ys)):xs=ys:=by
 rcases h with h |⟨o,h⟩ <;> rcases h' with h' |⟨o',h'⟩ <;> rw[h]at h' <;> cases h' <;> rfl
mutual
theorem Den.same (e:YI H H'):∀{v:V}{d:D},Den H v d→Den H' v d
 |_,.non,h=>by unfold Den at h ⊢;exact h
 |_,.bl _,h=>by unfold Den at h ⊢;exact h
 |_,.int _,h=>by unfold Den at h ⊢;exact h
 |_,.str _,h=>by unfold Den at h ⊢;exact h
 |_,.lst ds,h=>by
  unfold Den at h ⊢;obtain⟨a,xs,e1,e2,e3⟩:=h;exact⟨a,xs,e1,e.rd e2,Yb.same e e3⟩
 |_,.tup ds,h=>by
  unfold Den at h ⊢;obtain⟨a,xs,e1,e2,e3⟩:=h;exact⟨a,xs,e1,e _ _ e2,Yb.same e e3⟩
 |_,.oth,h=>by
  unfold Den at h ⊢;obtain⟨a,kvs,e1,e2⟩:=h;exact⟨a,kvs,e1,e _ _ e2⟩
theorem Yb.same (e:YI H H'):∀{vs:List V}{ds:List D},Yb H vs ds→Yb H' vs ds
 |[],[],h=>.nil
 |[],_ :: _,h=>by unfold Yb at h;exact h.elim
 |_ :: _,[],h=>by unfold Yb at h;exact h.elim
 |v :: vs,d :: ds,h=>by
  unfold Yb at h;exact .cons (Den.same e h.1) (Yb.same e h.2)
end
end
section
variable {X:Cx}{pins:List (Addr×Obj)}{σ:St}{H:Hp}{s:Shared}
mutual
theorem Den.uniq:∀{v:V}{d d':D},Den H v d→Den H v d'→d=d'
 |v,.non,d',h,h'=>by
  unfold Den at h;subst h;cases d' with
  |non=>rfl
  |lst es=>unfold Den at h';obtain⟨_,_,z,_⟩:=h';cases z
  |tup es=>unfold Den at h';obtain⟨_,_,z,_⟩:=h';cases z
  |oth=>unfold Den at h';obtain⟨_,_,z,_⟩:=h';cases z
  |_=>unfold Den at h';cases h'
 |v,.bl b,d',h,h'=>by
  unfold Den at h;subst h;cases d' with
  |bl c=>unfold Den at h';cases h';rfl
  |lst es=>unfold Den at h';obtain⟨_,_,z,_⟩:=h';cases z
  |tup es=>unfold Den at h';obtain⟨_,_,z,_⟩:=h';cases z
  |oth=>unfold Den at h';obtain⟨_,_,z,_⟩:=h';cases z
  |_=>unfold Den at h';cases h'
 |v,.int b,d',h,h'=>by
  unfold Den at h;subst h;cases d' with
  |int c=>unfold Den at h';cases h';rfl
  |lst es=>unfold Den at h';obtain⟨_,_,z,_⟩:=h';cases z
  |tup es=>unfold Den at h';obtain⟨_,_,z,_⟩:=h';cases z
  |oth=>unfold Den at h';obtain⟨_,_,z,_⟩:=h';cases z
  |_=>unfold Den at h';cases h'
 |v,.str b,d',h,h'=>by
  unfold Den at h;subst h;cases d' with
  |str c=>unfold Den at h';cases h';rfl
  |lst es=>unfold Den at h';obtain⟨_,_,z,_⟩:=h';cases z
  |tup es=>unfold Den at h';obtain⟨_,_,z,_⟩:=h';cases z
  |oth=>unfold Den at h';obtain⟨_,_,z,_⟩:=h';cases z
  |_=>unfold Den at h';cases h'
 |v,.lst ds,d',h,h'=>by
  obtain⟨a,xs,rfl,e2,e3⟩:=h.to_lst;cases d' with
  |lst es=>
   obtain⟨b,ys,z,f2,f3⟩:=h'.to_lst;cases z;have:=e2.inj f2;subst this;rw[Yb.uniq e3 f3]
  |tup es=>
   obtain⟨b,ys,z,f2,f3⟩:=h'.to_tup;cases z;rcases e2 with e2 |⟨o,e2⟩ <;> rw[e2]at f2 <;> cases f2
  |oth=>
   unfold Den at h';obtain⟨b,ys,z,f2⟩:=h';cases z;rcases e2 with e2 |⟨o,e2⟩ <;> rw[e2]at f2 <;> cases f2
  |_=>unfold Den at h';cases h'
 |v,.tup ds,d',h,h'=>by
  obtain⟨a,xs,rfl,e2,e3⟩:=h.to_tup;cases d' with
  |tup es=>
   obtain⟨b,ys,z,f2,f3⟩:=h'.to_tup;cases z;rw[e2]at f2;cases f2;rw[Yb.uniq e3 f3]
  |lst es=>
   obtain⟨b,ys,z,f2,f3⟩:=h'.to_lst;cases z;rcases f2 with f2 |⟨o,f2⟩ <;> rw[e2]at f2 <;> cases f2
  |oth=>
   unfold Den at h';obtain⟨b,ys,z,f2⟩:=h';cases z;rw[e2]at f2;cases f2
  |_=>unfold Den at h';cases h'
 |v,.oth,d',h,h'=>by
  unfold Den at h;obtain⟨a,kvs,rfl,e2⟩:=h;cases d' with
  |oth=>rfl
  |lst es=>
   obtain⟨b,ys,z,f2,f3⟩:=h'.to_lst;cases z;rcases f2 with f2 |⟨o,f2⟩ <;> rw[e2]at f2 <;> cases f2
  |tup es=>
   obtain⟨b,ys,z,f2,f3⟩:=h'.to_tup;cases z;rw[e2]at f2;cases f2
  |_=>unfold Den at h';cases h'
theorem Yb.uniq:∀{vs:List V}{ds es:List D},Yb H vs ds→Yb H vs es→ds=es
 |[],[],[],_,_=>rfl
 |[],_ :: _,_,h,_=>by unfold Yb at h;exact h.elim
 |[],_,_ :: _,_,h=>by unfold Yb at h;exact h.elim
 |_ :: _,[],_,h,_=>by unfold Yb at h;exact h.elim
 |_ :: _,_,[],_,h=>by unfold Yb at h;exact h.elim
 |v :: vs,d :: ds,e :: es,h,h'=>by
  unfold Yb at h h';rw[Den.uniq h.1 h'.1,Yb.uniq h.2 h'.2]
end
def tyD:D→String
 |.non=>"NoneType"
 |.bl _=>"bool"
 |.int _=>"int"
 |.str _=>"str"
 |.lst _=>"list"
 |.tup _=>"tuple"
 |.oth=>"dict"
theorem Den.ty {K:W.Frag}:∀{v:V}{d:D},Den H v d→YBM K H v (.type (tyD d))
 |_,.non,h=>by unfold Den at h;subst h;exact .non
 |_,.bl b,h=>by unfold Den at h;subst h;exact .bl b
 |_,.int b,h=>by unfold Den at h;subst h;exact .int b
 |_,.str b,h=>by unfold Den at h;subst h;exact .str b
 |_,.lst ds,h=>by
  obtain⟨a,xs,rfl,e2 |⟨o,e2⟩,_⟩:=h.to_lst
  ·exact .lst e2
  ·exact .frz e2
 |_,.tup ds,h=>by
  obtain⟨a,xs,rfl,e2,_⟩:=h.to_tup;exact .tup e2
 |_,.oth,h=>by
  unfold Den at h;obtain⟨a,kvs,rfl,e2⟩:=h;exact .dK e2
theorem YH3 {ds:List D}{i:Nat}{d:D} (h:ds[i]?=some d):ds.getD i .non=d:=by
 rw[List.getD_eq_getElem?_getD,h];rfl
structure Cmp (A:Around) (s:Shared) (x y:Value) (b:Bool):Prop where
 eq:SeqAt.EqAt A s x y b
 rc:SeqAt.RcAt A s x y b
 ne:SeqAt.RcNeAt A s x y (!b)
theorem YH4 {A:Around}{xs ys:List V}{ds es:List D}{its its2:List Value} (h1:Yb H xs ds) (h2:Yb H ys es) (r1:Yq xs its) (r2:Yq ys its2)
  (ih:∀(d d':D) (v u:V) (x y:Value),d∈ds→d'∈es→Den H v d→Den H u d'→Yx v x→Yx u y→SeqAt.EqAt A s x y (eqD d d')):
  ∀j (q1:j < its.toArray.size) (q2:j < its2.toArray.size),SeqAt.EqAt A s its.toArray[j] its2.toArray[j] (eqD (ds.getD j .non) (es.getD j .non)):=by
 intro j q1 q2;have l1:=r1.length;have l2:=r2.length;have q1':j < xs.length:=by rw[l1];simpa using q1
 have q2':j < ys.length:=by rw[l2];simpa using q2
 obtain⟨d,hd,den⟩:=h1.get (i:=j) (YLF q1');obtain⟨d',hd',den'⟩:=h2.get (i:=j) (YLF q2');obtain⟨u,hu,ru⟩:=r1.get (YLF q1');obtain⟨u',hu',ru'⟩:=r2.get (YLF q2');rw[YH3 hd,YH3 hd'];have e1:its.toArray[j]=u:=by
  have:its.toArray[j]?=some u:=by simpa using hu
  rw[Array.getElem?_eq_getElem q1]at this;exact Option.some.inj this
 have e2:its2.toArray[j]=u':=by
  have:its2.toArray[j]?=some u':=by simpa using hu'
  rw[Array.getElem?_eq_getElem q2]at this;exact Option.some.inj this
 rw[e1,e2];exact ih d d' _ _ _ _ (YLH hd) (YLH hd') den den' ru ru'
theorem YAf {A:Around}{a b:Addr}{d d':D}{k:Bool} (hk:k=eqD d d') (hok:d.ok=true) (h1:Den H (.ref a) d) (h2:Den H (.ref b) d') (rc:SeqAt.RcAt A s (.ref a) (.ref b) k) (ne:SeqAt.RcNeAt A s (.ref a) (.ref b) (!k)):Cmp A s (.ref a) (.ref b) (eqD d d'):=by
 subst hk;refine⟨?_,rc,ne⟩
 by_cases hab:a=b
 ·subst hab;have:=h1.uniq h2;subst this;rw[YBp _ hok];exact .same _
 ·exact .of_refs hab rc
theorem cmp_D (I:Inv X pins σ H s):∀(n:Nat) (A:Around) (d d':D) (v u:V) (x y:Value),d.ok=true→d'.ok=true→d.dep≤n→A.units + n < cLine→Den H v d→Den H u d'→Yx v x→Yx u y→Cmp A s x y (eqD d d'):=by
 intro n
 induction n with
 |zero=>
  intro A d d' v u x y hok hok' hn hu h h' r r';have hu':A.units < cLine:=by omega
  cases d with
  |lst ds=>unfold D.dep at hn;omega
  |tup ds=>unfold D.dep at hn;omega
  |oth=>unfold D.ok at hok;cases hok
  |non=>
   unfold Den at h;subst h;cases r;cases d' with
   |non=>unfold Den at h';subst h';cases r';unfold eqD;exact⟨.same _,.none_none,.none_none⟩
   |bl b=>unfold Den at h';subst h';cases r';unfold eqD;exact⟨.none_bool _,.none_bool _,.none_bool _⟩
   |int b=>unfold Den at h';subst h';obtain⟨t,rfl⟩:=r';unfold eqD;exact⟨.none_int _ _,.none_int _ _,.none_int _ _⟩
   |str b=>unfold Den at h';subst h';obtain⟨t,rfl⟩:=r';unfold eqD;exact⟨.none_str _ _,.none_str _ _,.none_str _ _⟩
   |lst ds=>obtain⟨a,xs,rfl,e2,_⟩:=h'.to_lst;cases r';obtain⟨_,_,p,_⟩:=I.list (.inl e2);unfold eqD;exact⟨.none_list p.isList hu',.none_list p.isList hu',.none_list p.isList hu'⟩
   |tup ds=>obtain⟨a,xs,rfl,e2,_⟩:=h'.to_tup;cases r';obtain⟨_,_,p,_⟩:=I.tuple (.inl (.inl e2));unfold eqD;exact⟨.none_tuple p hu',.none_tuple p hu',.none_tuple p hu'⟩
   |oth=>unfold D.ok at hok';cases hok'
  |bl c=>
   unfold Den at h;subst h;cases r;cases d' with
   |non=>unfold Den at h';subst h';cases r';unfold eqD;exact⟨.bool_none _,.bool_none _,.bool_none _⟩
   |bl b=>unfold Den at h';subst h';cases r';unfold eqD;exact⟨.bool_bool _ _,.bool_bool _ _,.bool_bool _ _⟩
   |int b=>unfold Den at h';subst h';obtain⟨t,rfl⟩:=r';unfold eqD;exact⟨.bool_int _ _ _,.bool_int _ _ _,.bool_int _ _ _⟩
   |str b=>unfold Den at h';subst h';obtain⟨t,rfl⟩:=r';unfold eqD;exact⟨.bool_str _ _ _,.bool_str _ _ _,.bool_str _ _ _⟩
   |lst ds=>obtain⟨a,xs,rfl,e2,_⟩:=h'.to_lst;cases r';obtain⟨_,_,p,_⟩:=I.list (.inl e2);unfold eqD;exact⟨.bool_list _ p.isList hu',.bool_list _ p.isList hu',.bool_list _ p.isList hu'⟩
   |tup ds=>obtain⟨a,xs,rfl,e2,_⟩:=h'.to_tup;cases r';obtain⟨_,_,p,_⟩:=I.tuple (.inl (.inl e2));unfold eqD;exact⟨.bool_tuple _ p hu',.bool_tuple _ p hu',.bool_tuple _ p hu'⟩
   |oth=>unfold D.ok at hok';cases hok'
  |int c=>
   unfold Den at h;subst h;obtain⟨t,rfl⟩:=r;cases d' with
   |non=>unfold Den at h';subst h';cases r';unfold eqD;exact⟨.int_none _ _,.int_none _ _,.int_none _ _⟩
   |bl b=>unfold Den at h';subst h';cases r';unfold eqD;exact⟨.int_bool _ _ _,.int_bool _ _ _,.int_bool _ _ _⟩
   |int b=>unfold Den at h';subst h';obtain⟨t,rfl⟩:=r';unfold eqD;exact⟨.int_int _ _ _ _,.int_int _ _ _ _,.int_int _ _ _ _⟩
   |str b=>unfold Den at h';subst h';obtain⟨t,rfl⟩:=r';unfold eqD;exact⟨.int_str _ _ _ _,.int_str _ _ _ _,.int_str _ _ _ _⟩
   |lst ds=>obtain⟨a,xs,rfl,e2,_⟩:=h'.to_lst;cases r';obtain⟨_,_,p,_⟩:=I.list (.inl e2);unfold eqD;exact⟨.int_list _ _ p.isList hu',.int_list _ _ p.isList hu',.int_list _ _ p.isList hu'⟩
   |tup ds=>obtain⟨a,xs,rfl,e2,_⟩:=h'.to_tup;cases r';obtain⟨_,_,p,_⟩:=I.tuple (.inl (.inl e2));unfold eqD;exact⟨.int_tuple _ _ p hu',.int_tuple _ _ p hu',.int_tuple _ _ p hu'⟩
   |oth=>unfold D.ok at hok';cases hok'
  |str c=>
   unfold Den at h;subst h;obtain⟨t,rfl⟩:=r;cases d' with
   |non=>unfold Den at h';subst h';cases r';unfold eqD;exact⟨.str_none _ _,.str_none _ _,.str_none _ _⟩
   |bl b=>unfold Den at h';subst h';cases r';unfold eqD;exact⟨.str_bool _ _ _,.str_bool _ _ _,.str_bool _ _ _⟩
   |int b=>unfold Den at h';subst h';obtain⟨t,rfl⟩:=r';unfold eqD;exact⟨.str_int _ _ _ _,.str_int _ _ _ _,.str_int _ _ _ _⟩
   |str b=>unfold Den at h';subst h';obtain⟨t,rfl⟩:=r';unfold eqD;exact⟨.str_str _ _ _ _,.str_str _ _ _ _,.str_str _ _ _ _⟩
   |lst ds=>obtain⟨a,xs,rfl,e2,_⟩:=h'.to_lst;cases r';obtain⟨_,_,p,_⟩:=I.list (.inl e2);unfold eqD;exact⟨.str_list _ _ p.isList hu',.str_list _ _ p.isList hu',.str_list _ _ p.isList hu'⟩
   |tup ds=>obtain⟨a,xs,rfl,e2,_⟩:=h'.to_tup;cases r';obtain⟨_,_,p,_⟩:=I.tuple (.inl (.inl e2));unfold eqD;exact⟨.str_tuple _ _ p hu',.str_tuple _ _ p hu',.str_tuple _ _ p hu'⟩
   |oth=>unfold D.ok at hok';cases hok'
 |succ n ih=>
  intro A d d' v u x y hok hok' hn hu h h' r r';have hu':A.units < cLine:=by omega
  have hin:A.in1.units + n < cLine:=by show A.units + 1 + n < cLine;omega
  cases d with
  |lst ds=>
   have hn':∀d∈ds,d.dep≤n:=fun d hd=>by
    have h1:=YFD hd;unfold D.dep at hn;omega
   obtain⟨a,xs,rfl,e2,e3⟩:=h.to_lst;cases r;obtain⟨its,r1,p,_⟩:=I.list (.inl e2);cases d' with
   |oth=>unfold D.ok at hok';cases hok'
   |non=>unfold Den at h';subst h';cases r';unfold eqD;exact⟨.list_none p.isList hu',.list_none p.isList hu',.list_none p.isList hu'⟩
   |bl b=>unfold Den at h';subst h';cases r';unfold eqD;exact⟨.list_bool _ p.isList hu',.list_bool _ p.isList hu',.list_bool _ p.isList hu'⟩
   |int b=>unfold Den at h';subst h';obtain⟨t,rfl⟩:=r';unfold eqD;exact⟨.list_int _ _ p.isList hu',.list_int _ _ p.isList hu',.list_int _ _ p.isList hu'⟩
   |str b=>unfold Den at h';subst h';obtain⟨t,rfl⟩:=r';unfold eqD;exact⟨.list_str _ _ p.isList hu',.list_str _ _ p.isList hu',.list_str _ _ p.isList hu'⟩
   |tup es=>obtain⟨b,ys,rfl,f2,f3⟩:=h'.to_tup;cases r';obtain⟨_,_,p2,_⟩:=I.tuple (.inl (.inl f2));unfold eqD;exact⟨.list_tuple p.isList p2 hu',.list_tuple p.isList p2 hu',.list_tuple p.isList p2 hu'⟩
   |lst es=>
    have pK:=hok;have pL:=hok';unfold D.ok at pK pL;obtain⟨b,ys,rfl,f2,f3⟩:=h'.to_lst;cases r';obtain⟨its2,r2,p2,_⟩:=I.list (.inl f2);have n1:its.toArray.size=ds.length:=by rw[YLL,←r1.length,e3.len]
    have n2:its2.toArray.size=es.length:=by rw[YLL,←r2.length,f3.len]
    by_cases hl:ds.length=es.length
    ·have items:=YH4 (A:=A.in1) e3 f3 r1 r2 fun d d' v u x y hd hd' q1 q2 q3 q4=>(ih A.in1 d d' v u x y (YBo pK hd) (YBo pL hd') (hn' d hd) hin q1 q2 q3 q4).eq
     refine YAf (k:=(List.range its.toArray.size).all fun j=>eqD (ds.getD j .non) (es.getD j .non)) ?_ hok h h' (.lists p.isList p2.isList (by rw[n1,n2,hl]) hu' items) (.lists p.isList p2.isList (by rw[n1,n2,hl]) hu' items);rw[n1,←YDS hl,eqD_lst]
    ·refine YAf (k:=false) ?_ hok h h' (.lists_lengths p.isList p2.isList (by rw[n1,n2];simpa using hl) hu') (.lists_lengths p.isList p2.isList (by rw[n1,n2];simpa using hl) hu');unfold eqD;rw[YDR hl]
  |tup ds=>
   have hn':∀d∈ds,d.dep≤n:=fun d hd=>by
    have h1:=YFD hd;unfold D.dep at hn;omega
   obtain⟨a,xs,rfl,e2,e3⟩:=h.to_tup;cases r;obtain⟨its,r1,p,_⟩:=I.tuple (.inl (.inl e2));cases d' with
   |oth=>unfold D.ok at hok';cases hok'
   |non=>unfold Den at h';subst h';cases r';unfold eqD;exact⟨.tuple_none p hu',.tuple_none p hu',.tuple_none p hu'⟩
   |bl b=>unfold Den at h';subst h';cases r';unfold eqD;exact⟨.tuple_bool _ p hu',.tuple_bool _ p hu',.tuple_bool _ p hu'⟩
   |int b=>unfold Den at h';subst h';obtain⟨t,rfl⟩:=r';unfold eqD;exact⟨.tuple_int _ _ p hu',.tuple_int _ _ p hu',.tuple_int _ _ p hu'⟩
   |str b=>unfold Den at h';subst h';obtain⟨t,rfl⟩:=r';unfold eqD;exact⟨.tuple_str _ _ p hu',.tuple_str _ _ p hu',.tuple_str _ _ p hu'⟩
   |lst es=>obtain⟨b,ys,rfl,f2,f3⟩:=h'.to_lst;cases r';obtain⟨_,_,p2,_⟩:=I.list (.inl f2);unfold eqD;exact⟨.tuple_list p p2.isList hu',.tuple_list p p2.isList hu',.tuple_list p p2.isList hu'⟩
   |tup es=>
    have pK:=hok;have pL:=hok';unfold D.ok at pK pL;obtain⟨b,ys,rfl,f2,f3⟩:=h'.to_tup;cases r';obtain⟨its2,r2,p2,_⟩:=I.tuple (.inl (.inl f2));have n1:its.toArray.size=ds.length:=by rw[YLL,←r1.length,e3.len]
    have n2:its2.toArray.size=es.length:=by rw[YLL,←r2.length,f3.len]
    have items:=YH4 (A:=A.in1) e3 f3 r1 r2 fun d d' v u x y hd hd' q1 q2 q3 q4=>(ih A.in1 d d' v u x y (YBo pK hd) (YBo pL hd') (hn' d hd) hin q1 q2 q3 q4).eq
    refine YAf (k:=(List.range (min its.toArray.size its2.toArray.size)).all (fun j=>eqD (ds.getD j .non) (es.getD j .non)) && its.toArray.size == its2.toArray.size) ?_ hok h h' (.tuples p p2 hu' items) (.tuples p p2 hu' items);rw[n1,n2,YFE]
    by_cases hl:ds.length=es.length
    ·rw[YDS hl,←hl,Nat.min_self,beq_self_eq_true,Bool.and_true]
    ·rw[YDR hl,beq_eq_false_iff_ne.mpr hl,Bool.and_false]
  |oth=>unfold D.ok at hok;cases hok
  |non=>exact ih A .non d' v u x y hok hok' (by unfold D.dep;omega) (by omega) h h' r r'
  |bl b=>exact ih A (.bl b) d' v u x y hok hok' (by unfold D.dep;omega) (by omega) h h' r r'
  |int b=>exact ih A (.int b) d' v u x y hok hok' (by unfold D.dep;omega) (by omega) h h' r r'
  |str b=>exact ih A (.str b) d' v u x y hok hok' (by unfold D.dep;omega) (by omega) h h' r r'
theorem YAE (K:W.Frag) (hK:X.K=K) (hu:X.A.units + 64 < cLine):OpR X (compareOp .Eq) (fun x y H Q=>∃d d',Den H x d∧Den H y d'∧d.ok=true∧d'.ok=true∧d.dep≤64∧Q (.bl (eqD d d')) H):=by
 subst hK;intro pins s σ H x y v u Q I rx ry h;obtain⟨d,d',h1,h2,k1,k2,hd,q⟩:=h;exact(cmp_D I 64 X.A d d' x y v u k1 k2 hd hu h1 h2 rx ry).rc X.prog X.w _ _ ⟨.bl _,H,I,rfl,q⟩
theorem Je (K:W.Frag) (hK:X.K=K) (hu:X.A.units + 64 < cLine):OpR X (compareOp .NotEq) (fun x y H Q=>∃d d',Den H x d∧Den H y d'∧d.ok=true∧d'.ok=true∧d.dep≤64∧Q (.bl (!eqD d d')) H):=by
 subst hK;intro pins s σ H x y v u Q I rx ry h;obtain⟨d,d',h1,h2,k1,k2,hd,q⟩:=h;exact(cmp_D I 64 X.A d d' x y v u k1 k2 hd hu h1 h2 rx ry).ne X.prog X.w _ _ ⟨.bl _,H,I,rfl,q⟩
end
end L2
namespace L2
open PySem PySem.Spec PyProof.Rows
section
variable {X:Cx}{pins:List (Addr×Obj)}{σ:St}{H:Hp}{s:Shared}{h':Heap}
theorem Inv.turns {t':Nat}{ch:List Addr} (I:Inv X pins σ H s) (k:∀b o,b∉ch→s.heap.get? b=some o→h'.get? b=some o) (hf:∀b∈ch,YA9 X pins H b):Inv X pins σ H { s with heap:=h',toks:=t' }:=by
 have nit:∀b u,H b=some u→b∉ch:=fun b u e z=>by rw[(hf b z).1]at e;cases e
 refine I.step (g':=s.gens) (d':=s.drawn) (ch:=ch) (fun b hb=>⟨(hf b hb).2.2.2.1,(hf b hb).2.1,(hf b hb).2.2.2.2.1,(hf b hb).2.2.2.2.2⟩) (fun b o _ _ hc e _=>k b o hc e) (fun b o _ _ hc e _=>⟨o.slots,k b o hc e⟩) (fun _ _ _ _ n=>n)
  (fun b o hc e=>⟨o,k b o hc e⟩) (fun _ _ e=>e) (fun _ _ _ e=>e) (fun b ps e=>⟨#[],by rw[e];simp⟩) (fun m hm=>?_) (fun b u e=>?_) I.bare
 ·obtain⟨o,es,ep,ho,r⟩:=hm;exact⟨o,es,ep,k _ o (fun z=>(hf _ z).2.1 rfl) ho,r⟩
 ·refine(I.hok b u e).stay (fun c v hc q=>k c v ?_ q) (fun _ q=>q) fun _ _ q=>q
  rcases hc with z |z
  ·rw[z];exact nit b u e
  ·exact nit c _ z
theorem Inv.trackT {T:Addr}{xs:List V}{its:List Value} (I:Inv X pins σ H s) (new:H T=none) (ht:IsTup s.heap T its.toArray) (rv:Yq xs its) (hz:xs.length≤sizeLine) (hs:∀o,X.s₀.heap.get? T≠some o) (hp:∀p∈X.pn ++ pins,p.1≠T):
  Inv X pins σ (upd H T (.tup xs)) s:=by
 obtain⟨ot,hot,hct,nt,hdt⟩:=id ht;have hL:X.env.locals≠T:=fun z=>by
  obtain⟨m,⟨o,es,ep,ho,hd',_⟩,_⟩:=I.loc;rw[z,hot]at ho;cases ho;rw[hdt]at hd';cases hd'
 have hC:∀x c,X.env.cells.lookup x=some c→c≠T:=fun x c h1 z=>by
  obtain⟨v,o,ho,hd'⟩:=I.cell x c h1;rw[z,hot]at ho;cases ho;rw[hdt]at hd';cases hd'
 refine⟨I.ok,I.os,I.bare,?_,I.loc,I.cell,by rw[YE hL];exact I.free,fun x c h1=>by rw[YE (hC x c h1)];exact I.freeC x c h1,fun p hp'=>?_,fun a o ea=>?_,I.len⟩
 ·exact⟨I.base.keep,I.base.slot,fun b o q n hx=>by rw[YE (fun z=>hs o (by rw[←z];exact q))];exact I.base.free b o q n hx,I.base.there,
   fun b xs q=>by have z:=I.base.tups b xs q;rw[YE (Ya z new)];exact z,fun b ob u q=>by have z:=I.base.frzs b ob u q;rw[YE (Ya z new)];exact z,
   fun b ps q=>by obtain⟨mo,z⟩:=I.base.tbls b ps q;exact⟨mo,by rw[YE (Ya z new)];exact z⟩⟩
 ·obtain⟨p1,p2,p3⟩:=I.pin p hp';exact⟨p1,by rw[YE (hp p hp')];exact p2,p3⟩
 ·by_cases ha:a=T
  ·subst ha;rw[YB]at ea;cases ea;exact⟨hz,its,rv,ht⟩
  ·rw[YE ha]at ea;exact(I.hok a o ea).stay (fun _ _ _ q=>q) (fun b q=>by rw[YE (Ya q new)];exact q) fun b xs q=>by rw[YE (Ya q new)];exact q
end
def Ite (K:W.Frag) (a:Addr):It:=
 ⟨fun i H=>∃xs x,SqL K H a xs∧xs[i]?=some x,fun i H v H'=>∃T,H T=none∧v=.ref T∧∀xs,SqL K H a xs→∃x,xs[i]?=some x∧H'=upd H T (.tup [.int i,x]),fun i H=>∃xs,SqL K H a xs∧xs.length≤i⟩
theorem YJD {P:Program}{w:World}{K:W.Frag}{elts:List Expr}{k:Nat}{pos:Pos} (a e it:Addr):
  YDF P w K (.Tuple elts k pos) (Ite K a) [e,it] e (fun i h=>(∃old,IsEnum h e it (i:Nat) old)∧h.IsListIter it a i∧e≠it) where
 mem:=by simp
 obj:=fun i h st b hb=>by
  obtain⟨⟨old,he⟩,⟨o,eo,c,d⟩,_⟩:=st;rcases List.mem_cons.mp hb with rfl |hb
  ·exact⟨_,he,fun v z=>by cases z⟩
  ·have eb:b=it:=by simpa using hb
   subst eb;exact⟨o,eo,fun v z=>by rw[d]at z;cases z⟩
 keep:=fun i h h' st k=>by
  obtain⟨⟨old,he⟩,hit,hne⟩:=st;exact⟨⟨old,k e (by simp) _ he⟩,hit.at fun o x=>k it (by simp) o x,hne⟩
 item:=by
  intro X hP hw hK hc i pins s σ H E I hf st hg;subst hP hw hK;obtain⟨⟨old,he⟩,hit,hne⟩:=st;obtain⟨xs,x,hq,hx⟩:=hg;obtain⟨its,rv,p,hz⟩:=I.list hq;obtain⟨u,hu,ru⟩:=rv.get hx;refine wpAny_pyNext_enum_item he hit p.isList (x:=u) (by simpa using hu) hne fun h' ho hit' hT hsz hk=>?_
  refine⟨_,rfl,wpAny_letOwnedTupleGo_enum (s:={ s with heap:=h',toks:=s.toks + 1 }) ho fun h'' he' hs'=>?_⟩;have hlt:e < s.heap.objs.size:=Heap.lt_size he;have hTe:s.heap.objs.size≠e:=Nat.ne_of_gt hlt;have kk:∀b o,b∉[e,it]→s.heap.get? b=some o→h''.get? b=some o:=fun b o hb q=>by
   have h1:b≠e:=fun z=>hb (by simp[z])
   have h2:b≠it:=fun z=>hb (by simp[z])
   exact(hs'.2 b h1).trans (hk b o h1 h2 q)
  have I1:Inv X pins σ H { s with heap:=h'',toks:=s.toks + 1 }:=I.turns kk hf;have hT':h''.get? s.heap.objs.size=some { cls:=.type "tuple",data:=.seq #[.int i s.toks,u] }:=(hs'.2 _ hTe).trans hT;have hfr:H s.heap.objs.size=none:=I.hok.fresh (YLG _);have I2:=I1.trackT (T:=s.heap.objs.size) (xs:=[.int i,x]) (its:=[.int i s.toks,u]) hfr ⟨_,hT',rfl,_,rfl⟩ (.cons ⟨_,rfl⟩ (.cons ru .nil)) (by show 2≤sizeLine;rw[sizeLine_eq];decide)
   (fun o q=>absurd (Heap.lt_size q) (Nat.not_lt.mpr I.sz)) fun p hp z=>absurd (Heap.lt_size (I.pin p hp).1) (by rw[z];exact Nat.lt_irrefl _)
  refine⟨.ref s.heap.objs.size,_,I2,rfl,⟨_,hfr,rfl,fun ys hy=>⟨x,by rw[I.list_inj hy hq];exact hx,rfl⟩⟩,⟨⟨_,by simpa using he'⟩,hit'.at fun o q=>(hs'.2 it hne.symm).trans q,hne⟩,fun b hb=>?_⟩;obtain⟨o,eo,_⟩:∃o,s.heap.get? b=some o∧True:=by
   rcases List.mem_cons.mp hb with rfl |hb
   ·exact⟨_,he,trivial⟩
   ·have eb:b=it:=by simpa using hb
    subst eb;obtain⟨o,eo,_⟩:=hit;exact⟨o,eo,trivial⟩
  rw[YE (YLY (Heap.lt_size eo))];exact(hf b hb).1
 done:=by
  intro X hP hw hK hc i pins s σ H E I hf st hg;subst hP hw hK;obtain⟨⟨old,he⟩,hit,hne⟩:=st;obtain⟨xs,hq,hx⟩:=hg;obtain⟨its,rv,p,hz⟩:=I.list hq;have hl:=rv.length;exact wpAny_pyNext_enum_end (I.ok.hd hc) he hit p.isList (Array.getElem?_eq_none (by simp;omega)) fun h' eb=>⟨rfl,I.turns (t':=s.toks) (fun b o hb q=>eb b o (fun z=>hb (by simp[z])) q) hf⟩
 self:=fun _ _ _ _ _ st h=>by
  obtain⟨⟨old,he⟩,_⟩:=st;exact wpAny_pyIter_enum he h
section
variable {X:Cx}{elts:List Expr}{k:Nat}{tpos:Pos}
inductive YKG (K:W.Frag) (R:It→Hp→Prop) (vs:List V) (H1:Hp):Prop where
 |mk (a:_) (h0_:vs=[.ref a]) (h1_:(∃xs,Rd H1 a (.lst xs))) (h2_:R (Ite K a) H1):YKG K R vs H1
def iEnum (K:W.Frag) (ta:TA):TI:=fun σ H R=>ta σ H fun vs H1=>YKG K R vs H1
theorem pi_enum (K:W.Frag) (hK:X.K=K) {a:Expr}{ta:TA}{p pos:Pos} (hg:Gl X "enumerate") (hm:X.mg "enumerate"=none) (ha:PA X [a] ta) (hs:starEach [a] X.env=[(false,eval a X.env)]:=by rfl):
  PI X (.Tuple elts k tpos) (.Call (.Name "enumerate" p) [a] [] pos) (iEnum K ta):=by
 subst hK;intro pins s σ H R I h;refine Call_ (XE I hg hm PyProof.Rows.Boot.«enumerate» (PyProof.Rows.callWith_type1 (thn (ha pos pins s σ H _ I h) fun us s1 ⟨vs,H1,I1,r1,q1⟩=>?_) hs rfl));obtain⟨l,rfl,⟨xs,hq⟩,q⟩:=q1;obtain⟨u,rfl,ru⟩:=Jc r1;cases ru;obtain⟨hz,its,n,rv,hl⟩:=(show Y8 X.prog X.w H1 s1.heap l (.lst xs) from hq.ok I1.hok);refine call_enumerate_1 hl fun h' he hit hsz hk=>?_
 have I2:Inv X pins σ H1 { s1 with heap:=h' }:=I1.kept (t':=s1.toks) hk;refine wpAny_pyIter_enum he ?_;refine⟨s1.heap.objs.size + 1,[s1.heap.objs.size + 1,s1.heap.objs.size],_,_,H1,rfl,I2,YJD l _ _,⟨⟨_,by simpa using he⟩,hit,Nat.succ_ne_self _⟩,fun b hb=>?_,q⟩;rcases List.mem_cons.mp hb with rfl |hb
 ·exact I1.fpOk (Nat.le_succ _) (I1.hok.fresh (Nat.le_succ _))
 ·have eb:b=s1.heap.objs.size:=by simpa using hb
  subst eb;exact I1.fpOk (YLG _) (I1.hok.fresh (YLG _))
theorem YFF:∀{xs:List V}{us:List Value},xs.length=us.length→(∀(j:Nat) (x:V) (u:Value),xs[j]?=some x→us[j]?=some u→Yx x u)→Yq xs us
 |[],[],_,_=>.nil
 |[],_ :: _,h,_=>by cases h
 |_ :: _,[],h,_=>by cases h
 |x :: xs,u :: us,h,k=>.cons (k 0 x u rfl rfl) (YFF (Nat.succ.inj h) fun j y v h1 h2=>k (j + 1) y v (by simpa using h1) (by simpa using h2))
end
def YFG (J:It) (n:Nat) (H:Hp) (item:Nat→V→Hp→Prop):Prop:=∀i H',YI H H'→YU H'→(i < n→J.go i H'∧∀x H3,J.yld i H' x H3→YI H' H3∧YU H3∧item i x H3)∧J.stop n H'
theorem YCF.g {J:It}{n:Nat}{H:Hp}{item:Nat→V→Prop} (h:YCF J n H item):YFG J n H fun i x _=>item i x:=fun i H' s p=>
 ⟨fun hi=>⟨((h i H' s).1 hi).1,fun x H3 hy=>by obtain⟨e,it⟩:=((h i H' s).1 hi).2 x H3 hy;subst e;exact⟨YI.refl _,p,it⟩⟩,(h i H' s).2⟩
end L2
namespace L2
open PySem PySem.Spec PyProof.Rows
section
variable {X:Cx}{elt tg iter:Expr}{ifs:List Expr}{scope:Scope}{cl:List (Str×Addr)}{N:List Str}{ρ:List (Option Nat)}{pos:Pos}{wi:TI}{g:TG}{tc:TT}{te:TE}
theorem YJE (hc:X.calm=true) (S:Yz X N ρ scope cl)
  (hg:∀C s₀ H₀ ex pn,PG (ZU X N scope cl C s₀ H₀ ex pn) tg g) (ht:∀C s₀ H₀ ex pn,PTs (ZU X N scope cl C s₀ H₀ ex pn) ifs tc) (he:∀C s₀ H₀ ex pn,PE (ZU X N scope cl C s₀ H₀ ex pn) elt te)
  {pins:List (Addr×Obj)}{s2:Shared}{σ:St}{H2:Hp}{it:Addr}{fp:List Addr}{tn:Nat→Heap→Prop}{J:It}{Q:VK}{RR:Value→Addr→Result→Shared→Prop} (I2:Inv X pins σ H2 s2) (T:YDF X.prog X.w X.K tg J fp it tn) (st2:tn 0 s2.heap) (f2:∀b∈fp,YA9 X pins H2 b)
  (q2:∀l,H2 l=none→YAc J g tc te Q l (YDP ρ σ) H2)
  (fin:∀(l C:Addr) (s5:Shared) (H4:Hp) (m:Str→Option Value),Inv X pins σ H4 s5→YA9 X pins H4 C→s5.heap.Ns C m→Q (.ref l) H4→RR (.ref l) C (.ok .next) s5):
  wpAny (model X.prog X.w) X.A (newList []) (fun acc s3=>wpAny (model X.prog X.w) X.A (newFunctionEnv scope X.env.globals cl [] X.env.qual none .none (some X.env)) (fun cenv s4=>
   codeAny (model X.prog X.w) X.A (.compStart (.ListComp elt [⟨tg,iter,ifs,0⟩] scope pos) 0 (.ref it) acc { cenv with scope:=relabel scope X.env }) (RR acc cenv.locals) s4) X.xe s3) X.xe s2:=by
 obtain⟨W,⟨m0,w0⟩,turn⟩:=q2 _ (I2.hok.fresh (YLG _));refine wpAny_newObj_type (wpAny_newFunctionEnv S.nocell (by intro y hy;simp at hy) (fun h₁ hns₁ hsb₁=>?_) S.kind);dsimp only at hns₁ hsb₁ ⊢;have I3:Inv X pins σ (upd H2 s2.heap.objs.size (.lst [])) { s2 with heap:=s2.heap.push { cls:=.type "list",dict:=none,data:=.seq ([]:List Value).toArray } }:=
  I2.laid (t':=s2.toks) (fun b u eo=>Heap.get?_push_of_some _ eo) (YLG _) ⟨by simp,[],0,.nil,Heap.get?_push_size _ rfl⟩
 generalize hs3:({ s2 with heap:=s2.heap.push { cls:=.type "list",dict:=none,data:=.seq ([]:List Value).toArray } }:Shared)=s3 at I3;have es3:s2.heap.push { cls:=.type "list",dict:=none,data:=.seq ([]:List Value).toArray }=s3.heap:=by rw[←hs3]
 rw[es3]at hns₁ hsb₁ ⊢;have f3:∀b∈fp,YA9 X pins (upd H2 s2.heap.objs.size (.lst [])) b:=fun b hb=>by
  obtain⟨o,eo,_⟩:=T.obj _ _ st2 b hb;exact⟨by rw[YE (YLY (Heap.lt_size eo))];exact(f2 b hb).1,(f2 b hb).2⟩
 have lt3:∀b∈fp,b < s3.heap.objs.size:=fun b hb=>by
  obtain⟨o,eo,_⟩:=T.obj _ _ st2 b hb;rw[←es3,Heap.size_push];exact Nat.lt_succ_of_lt (Heap.lt_size eo)
 have old:∀b o,s3.heap.get? b=some o→h₁.get? b=some o:=fun b o eo=>hsb₁.extBut b o (YLY (Heap.lt_size eo)) (Heap.get?_push_of_some _ eo)
 have Ic:Inv (ZU X N scope cl s3.heap.objs.size s3 (upd H2 s2.heap.objs.size (.lst [])) fp (X.pn ++ pins)) [] (YDP ρ σ) (upd H2 s2.heap.objs.size (.lst [])) { s2 with heap:=h₁,toks:=s2.toks + ([]:List (Str×Value)).length }:=
  YFv S I3 f3 lt3 hns₁ old (by rw[←hs3] <;> rfl)
 have stat:∀{pl:List (Addr×Obj)}{H':Hp},pl=[]→(∀b∈fp,H' b=none)→∀b∈fp,YA9 (ZU X N scope cl s3.heap.objs.size s3 (upd H2 s2.heap.objs.size (.lst [])) fp (X.pn ++ pins)) pl H' b:=fun{pl H'} epl hn b hb=>by
  subst epl;refine⟨hn b hb,YLY (lt3 b hb),fun z=>?_,.inl hb,fun x c h1=>(f2 b hb).2.2.2.2.1 x c (S.sub x c h1),fun p hp=>(f2 b hb).2.2.2.2.2 p (by simpa using hp)⟩;rcases List.mem_cons.mp (I3.stkSub b z) with z |z
  ·exact(f2 b hb).2.1 z
  ·exact(f2 b hb).2.2.1 z
 have st4:tn 0 h₁:=T.keep _ _ _ st2 fun b hb o eo=>old b o (by rw[←es3];exact Heap.get?_push_of_some _ eo)
 have loop:codeAny (model X.prog X.w) X.A (.compLoop (.ListComp elt [⟨tg,iter,ifs,0⟩] scope pos) 0 (.ref it) (.ref s2.heap.objs.size) (compEnvC scope cl s3.heap.objs.size X.env))
   (RR (.ref s2.heap.objs.size) s3.heap.objs.size) { s2 with heap:=h₁,toks:=s2.toks + ([]:List (Str×Value)).length }:=by
  refine YEW (fun n s'=>∃i ys τ H',Inv (ZU X N scope cl s3.heap.objs.size s3 (upd H2 s2.heap.objs.size (.lst [])) fp (X.pn ++ pins)) [] τ H' s'∧tn i s'.heap∧(∀b∈fp,H' b=none)∧W i n ys τ H') ?_ m0
   ⟨0,[],_,_,Ic,st4,fun b hb=>(f3 b hb).1,w0⟩
  rintro n s4 ⟨i,ys,τ,H4,I4,st,fr4,w4⟩;rcases turn i n ys τ H4 w4 with ⟨stop,qn⟩ |⟨go,step⟩
  ·refine thn (T.done (ZU X N scope cl s3.heap.objs.size s3 (upd H2 s2.heap.objs.size (.lst [])) fp (X.pn ++ pins)) rfl rfl rfl hc i [] s4 τ H4 _ I4 (stat rfl fr4) st stop) fun r s5 ⟨hr,I5⟩=>?_
   subst hr;obtain⟨m5,hn5,_⟩:=I5.loc;have get':∀b o,s5.heap.get? b=some o→s5.heap.get? b=some o:=fun b o eo=>eo
   have un:Un (frs X.stack) fp (upd H2 s2.heap.objs.size (.lst [])) H4 s3.heap s5.heap:=
    ⟨fun b o eo n1 n2 n3=>I5.base.keep b o eo n1 n2 n3,fun b o eo n1 n2 n3=>I5.base.slot b o eo n1 n2 n3,I5.base.free,fun b o eo n1=>I5.base.there b o eo n1,I5.base.tups,I5.base.frzs,I5.base.tbls⟩
   have I6:Inv X pins σ H4 s5:=I3.call' (s':=s5) (ch:=fp) (show s5.os=s3.os from I5.os) un I5.hok I5.bare fun b hb=>⟨(f3 b hb).2.2.2.1,(f3 b hb).2.1,(f3 b hb).2.2.2.2.1,(f3 b hb).2.2.2.2.2⟩
   have fr:H4 s3.heap.objs.size=none:=I5.free;exact fin _ _ s5 H4 m5 I6 (I3.fpOk (YLG _) fr) hn5 qn
  ·refine thn (T.item (ZU X N scope cl s3.heap.objs.size s3 (upd H2 s2.heap.objs.size (.lst [])) fp (X.pn ++ pins)) rfl rfl rfl hc i [] s4 τ H4 _ I4 (stat rfl fr4) st go) fun r s5 ⟨u,hr,h5⟩=>?_
   subst hr;refine thn h5 fun _ s6 ⟨x,H6,I6,r6,y6,st6,fr6⟩=>?_
   have I6':=I6.pinned (stat rfl fr6) (T.obj _ _ st6);have again:∀{s9:Shared}{τ9:St}{H9:Hp}{zs:List V}{m':Nat},Inv (ZU X N scope cl s3.heap.objs.size s3 (upd H2 s2.heap.objs.size (.lst [])) fp (X.pn ++ pins)) ([] ++ YB8 fp s6.heap) τ9 H9 s9→m' < n→W (i + 1) m' zs τ9 H9→
     ∃m,m < n∧∃i ys τ H',Inv (ZU X N scope cl s3.heap.objs.size s3 (upd H2 s2.heap.objs.size (.lst [])) fp (X.pn ++ pins)) [] τ H' s9∧tn i s9.heap∧(∀b∈fp,H' b=none)∧W i m ys τ H':=fun{s9 τ9 H9 zs m'} I9 hm w9=>by
    refine⟨m',hm,i + 1,zs,τ9,H9,I9.unpinned,T.keep _ _ _ st6 fun b hb o eo=>(I9.pin (b,o) (YLO _ (YLO _ (JJ hb eo)))).1,fun b hb=>?_,w9⟩;obtain⟨o,eo,d⟩:=T.obj _ _ st6 b hb;exact(I9.pin (b,o) (YLO _ (YLO _ (JJ hb eo)))).2.1
   refine thn (hg _ _ _ _ _ _ s6 τ H6 x u _ I6' r6 (step x H6 y6)) fun _ s7 ⟨τ7,H7,I7,q7⟩=>?_
   refine thn (ht _ _ _ _ _ _ s7 τ7 H7 _ I7 q7) fun ok s8 ⟨H8,I8,q8⟩=>?_
   cases ok with
   |false=>
    rw[if_neg YLT]at q8 ⊢;obtain⟨m',hm,w9⟩:=q8;exact again I8 hm w9
   |true=>
    rw[if_pos rfl]at q8 ⊢;refine thn (he _ _ _ _ _ _ s8 τ7 H8 _ I8 q8) fun y s9 ⟨z,H9,I9,r9,hl9,hz9,m',hm,w9⟩=>?_
    refine thn (Yl _ s9 τ7 H9 (.ref s2.heap.objs.size) [z] (.ref s2.heap.objs.size) [y] (fun _ H'=>H'=upd H9 s2.heap.objs.size (.lst (ys ++ [z]))) I9 rfl (.cons r9 .nil) ⟨_,ys,z,rfl,rfl,hl9,hz9,rfl⟩) fun _ s10 ⟨_,H10,I10,_,e10⟩=>?_
    subst e10;exact again I10 hm w9
 exact codeAny_compStart_list loop (T.self _ 0 _ _ _ st4 loop)
def tSetC (i:Nat) (te:TE):TS:=fun D σ H=>te σ H fun v H1=>D.nx (σ.set i (some v)) H1
theorem YFH {i:Nat}{y:Str}{py spos:Pos} (hN:X.N.Nodup) (hi:X.N[i]?=some y) (hy:X.env.scope.names.lookup y=some .local) (hc:X.calm=true) (S:Yz X N ρ scope cl) (hI:PI X tg iter wi)
  (hg:∀C s₀ H₀ ex pn,PG (ZU X N scope cl C s₀ H₀ ex pn) tg g) (ht:∀C s₀ H₀ ex pn,PTs (ZU X N scope cl C s₀ H₀ ex pn) ifs tc) (he:∀C s₀ H₀ ex pn,PE (ZU X N scope cl C s₀ H₀ ex pn) elt te)
  (hsw:swapsWith (.ListComp elt [⟨tg,iter,ifs,0⟩] scope pos) (some (.Name y py)) spos.line X.env=pure true:=by rfl) (hs:∀x,foldedSetIterable iter X.env x=pure x:=by intro _;rfl):
  PS X (.Assign [.Name y py] (.ListComp elt [⟨tg,iter,ifs,0⟩] scope pos) spos) (tSetC i (tComp ρ wi g tc te)):=by
 intro pins s σ H D I h;rw[exec_Assign_Name_used _ _ _ _ hsw];refine wpAny_bind (wpAny_standAt (wpAny_bind ?_));show wpAny _ X.A (do let _ ←comprehension (.ListComp elt [⟨tg,iter,ifs,0⟩] scope pos) scope X.env _ (newList []) false (eval iter X.env) (some (assign (.Name y py) X.env))) _ _ s;refine wpAny_bind (wpAny_mono (wpAny_comprehension_free (use:=some (assign (.Name y py) X.env)) (Q:=fun _ s'=>SP X pins D .next s') rfl hs S.clos S.kind S.loc
  (thn (hI pins s σ H _ I h) fun v s1 h1=>thn h1 fun itv s2 h2=>?_)) (fun _ s' hq=>wpAny_pure (wpAny_pure hq)) fun _ _ e=>e)
 obtain⟨it,fp,tn,J,H2,e,I2,T,st2,f2,q2⟩:=h2;subst e;refine YJE (RR:=fun acc C=>compPost (model X.prog X.w) X.A X.xe (some (assign (.Name y py) X.env)) (fun _ s'=>SP X pins D .next s') acc C) hc S hg ht he I2 T st2 f2 q2 fun l C s5 H4 m I6 fC hn q=>?_
 obtain⟨oC,es,ep,hoC,hdC,hrest⟩:=id hn;have I7:=I6.pinned (fp:=[C]) (fun b hb=>by rw[List.mem_singleton.mp hb];exact fC) (fun b hb=>⟨oC,by rw[List.mem_singleton.mp hb];exact hoC,fun v z=>by rw[hdC]at z;cases z⟩);show wpAny _ X.A (assign (.Name y py) X.env (.ref l)) _ _ s5;refine wpAny_assign_Name (YDE I7 hN hi (.inl hy) (v:=.ref l) rfl (fun s6 I8=>?_) (.inr hy));have hpin:=(I8.pin (C,oC) (YLO _ (YLO _ (JJ (List.mem_singleton.mpr rfl) hoC))));refine⟨m,⟨oC,es,ep,hpin.1,hdC,hrest⟩,fun h' hs'=>?_⟩;have fC':∀b∈[C],YA9 X pins H4 b:=fun b hb=>by rw[List.mem_singleton.mp hb];exact fC
 exact⟨_,H4,I8.unpinned.turns (t':=s6.toks) (fun b o hb eo=>(hs'.2 b (fun z=>hb (List.mem_singleton.mpr z))).trans eo) fC',q⟩
end
end L2
namespace L2
open PySem PySem.Spec PyProof.Rows
theorem YFx {x:Str}{n:Int} (h1:x.length≤1000) (h2:-1000≤n) (h3:n≤1000):MulOk x n:=by
 refine⟨?_,fun hn _=>?_,fun hn _=>?_⟩
 ·rw[Bool.or_eq_false_iff];exact⟨decide_eq_false (by omega),decide_eq_false (by omega)⟩
 ·intro hgt;have hn':0 < n:=by omega
  have h4:=(Int.ediv_lt_iff_lt_mul hn').mp hgt;have h5:(x.length:Int) * n≤1000 * 1000:=Int.mul_le_mul (by omega) h3 (by omega) (by omega);omega
 ·show decide (x.length * n.toNat > sizeLine)=false;refine decide_eq_false ?_;have h5:x.length * n.toNat≤1000 * 1000:=Nat.mul_le_mul h1 (by omega);rw[sizeLine_eq];omega
theorem YHF {X:Cx}:OpR X (binaryOp .Mult) (fun x y H Q=>∃i n,x=.str i∧y=.int n∧i.length≤1000∧-1000≤n∧n≤1000∧Q (.str (Txt.mul i n)) H):=by
 intro pins s σ H x y v u Q I rx ry h;obtain⟨i,n,rfl,rfl,h1,h2,h3,q⟩:=h;obtain⟨t,rfl⟩:=rx;obtain⟨t',rfl⟩:=ry;exact SB.mul (YFx h1 h2 h3) fun t' k=>⟨.str _,H,I.tok _,⟨_,rfl⟩,q⟩
theorem Js {α:Type}{xs:List α}{i:Int} (h0:0≤i) (h1:i < xs.length):∃v,atI xs i=some v∧v∈xs:=by
 have hj:i.toNat < xs.length:=by omega
 have e:((i.toNat:Nat):Int)=i:=by omega
 refine⟨xs[i.toNat],?_,List.getElem_mem hj⟩;have h:=ZT (xs:=xs) (j:=i.toNat) (v:=xs[i.toNat]) (by simp[hj]);rw[e]at h;exact h
theorem slen (a b:Str):(a ++ b).length=a.length + b.length:=by
 show(a ++ b).cps.size=a.cps.size + b.cps.size;exact Array.size_append ..
theorem YFy (ns:List Int) (lo hi:Option Int):∃cs:List Int,YCB (ns.map V.int) lo hi=cs.map V.int∧cs.length≤ns.length:=by
 refine⟨(ns.drop (HT.sIx (ns.map V.int).length 0 lo)).take (HT.sIx (ns.map V.int).length (ns.map V.int).length hi - HT.sIx (ns.map V.int).length 0 lo),?_,?_⟩
 ·unfold YCB;rw[List.map_take,List.map_drop]
 ·rw[List.length_take,YLd];omega
theorem YAW {x:Int} (h1:0≤x) (h2:x≤1000):(-(2 ^ 62):Int)≤x∧x < 2 ^ 62:=⟨Int.le_trans (by decide) h1,Int.lt_of_le_of_lt h2 (by decide)⟩
theorem YHG {H:Hp} (h:Only H):YU H:=fun a o e=>by
 rcases h a with z |⟨ob,xs,z⟩
 ·rw[e]at z;cases z
 ·rw[e]at z;cases z;rfl
end L2
namespace L2
open PySem PySem.Spec PyProof.Rows
def YH5:Expr→Bool
 |.Starred _ _=>false
 |_=>true
theorem YJF {e:Expr}{es:List Expr}{env:Env} (h:YH5 e=true):starEach (e :: es) env=(false,eval e env) :: starEach es env:=by
 cases e <;> first |rfl |cases h
theorem Y9 {X:Cx}{e:Expr}{es:List Expr}{te:TE}{t:TA} (ha:PE X e te) (hr:PA X es t) (h:YH5 e=true:=by rfl):PA X (e :: es) (YHy te t):=YA ha hr (YJF h)
section
variable {X:Cx}
end
end L2
namespace FR
open PySem L2
structure QSs (X:Cx) (st:List Stmt) (t:TS):Prop where h:PSs X st t
structure QS (X:Cx) (st:Stmt) (t:TS):Prop where h:PS X st t
theorem YO {X:Cx}{st:Stmt}{rest:List Stmt}{t u:TS} (h1:QS X st t) (h2:QSs X rest u):QSs X (st :: rest) (YD2 t u):=⟨YF h1.h h2.h⟩
theorem JS {X:Cx}{st:Stmt}{t:TS} (h1:QS X st t):QSs X [st] t:=⟨YG h1.h⟩
structure QE (X:Cx) (e:Expr) (t:TE):Prop where h:PE X e t
structure QA (X:Cx) (es:List Expr) (t:TA):Prop where h:PA X es t
theorem YKH {X:Cx}:QA X [] tNil:=⟨YC⟩
theorem qe_int {X:Cx}{i j pos}:QE X (.Constant (.int i) j pos) (tC (.int i)):=⟨YD⟩
theorem qe_non {X:Cx}{j pos}:QE X (.Constant .none j pos) (tC .non):=⟨YBL⟩
theorem qe_tup {X:Cx}{es:List Expr}{t:TA}{x1 pos} (h:QA X es t):QE X (.Tuple es x1 pos) (tTup t):=⟨Yy h.h⟩
theorem qe_lst {X:Cx}{es:List Expr}{t:TA}{pos} (h:QA X es t):QE X (.List es pos) (tLst t):=⟨Y0 h.h⟩
theorem YFI {X:Cx}{i:Nat}{x:Str}{e:Expr}{te:TE}{pos pos':Pos} (hN:X.N.Nodup) (hi:X.N[i]?=some x) (hx:Loc X.env.scope x) (he:QE X e te) (hs:swapsWith e (some (.Name x pos')) pos.line X.env=pure false:=by rfl) (hf:X.fn x=true∨X.env.scope.names.lookup x=some .local:=by first |exact .inl rfl |exact .inr rfl |assumption):
  QS X (.Assign [.Name x pos'] e pos) (tAsg te (ZH i)):=⟨YK hN hi hx he.h hs hf⟩
theorem qex {X:Cx}{st:List Stmt}{q:TS→Prop} (h:∃t,QSs X st t∧q t):∃t,PSs X st t∧q t:=let ⟨t,a,b⟩:=h;⟨t,a.h,b⟩
end FR
namespace L2
open PySem PySem.Spec PyProof.Rows
structure Mk0 (K:W.Frag) (C:Addr):Prop where
 makes:PySem.W.makesIn K C=true
 init:PySem.W.findIn K (.ref C) "__init__"=some (some (.builtin "object.__init__"))
 kp:PySem.W.keepIn K (.ref C)=true
section
variable {X:Cx}{C:Addr}{x:Str}{p pos:Pos}
end
structure JT (P:Program) (w:World) (K:W.Frag) (mg:Str→Option Value) (CX:CXT) (k:Nat) (C:Addr) (m:Str) (ps:List Str) (sp:Sp):Prop where
 ok:∃f fd,(∀base,Y6 P w K mg base CX k f fd ps sp)∧Meth K C m f∧YAS K fd ps []
structure UsedI (P:Program) (w:World) (K:W.Frag) (mg:Str→Option Value) (CX:CXT) (k:Nat) (C:Addr) (ps:List Str) (sp:Sp):Prop where
 ok:∃f fd,(∀base,Y6 P w K mg base CX k f fd ps sp)∧Mk K C f∧YAS K fd ps []
theorem Yh (K:W.Frag) {X:Cx} (hK:X.K=K) {e:Expr}{f:Str}{pos:Pos}{ta:TE} (he:PE X e ta) (hb:attributeBase e f X.env (eval e X.env)=eval e X.env):PE X (.Attribute e f pos) (tFld K ta f):=by subst hK;exact pe_fld he hb
theorem Zf (K:W.Frag) {X:Cx} (hK:X.K=K) {o value:Expr}{f:Str}{pos pos':Pos}{ta tv:TE} (ha:PE X o ta) (hv:PE X value tv) (hs:swapsWith value (some (.Attribute o f pos')) pos.line X.env=pure false):PS X (.Assign [.Attribute o f pos'] value pos) (sFld K ta tv f):=by subst hK;exact ps_fld ha hv hs
end L2
namespace L2
open PySem PySem.Spec PyProof.Rows
section
variable {X:Cx}
theorem YBq:MtR X "str.startswith" (fun x vs H Q=>∃z y,x=.str z∧vs=[.str y]∧Q (.bl (Txt.startswith z y)) H):=by
 intro pins s σ H x xs v us Q I rx rs h;obtain⟨z,y,rfl,rfl,q⟩:=h;obtain⟨t,rfl⟩:=rx;obtain⟨u,rfl,t',rfl⟩:=rs.one;exact SC.startswith ⟨.bl _,H,I,rfl,q⟩
end
end L2
namespace L2
open PySem PySem.Spec PyProof.Rows
section
variable {X:Cx}
theorem YDT:∀{bs:List Int}{us:List Value}{i:Nat}{v:Value},Yq (bs.map V.int) us→us[i]?=some v→∃b t,bs[i]?=some b∧v=.int b t:=by
 intro bs us i v r e;cases e2:(bs.map V.int)[i]? with
 |none=>
  have:=r.none_of e2;rw[this]at e;cases e
 |some x=>
  obtain⟨u,hu,ru⟩:=r.get e2;rw[hu]at e;cases e;rw[YLI]at e2;cases e3:bs[i]? with
  |none=>rw[e3]at e2;cases e2
  |some b=>
   rw[e3]at e2;have e4:V.int b=x:=Option.some.inj e2;subst e4;obtain⟨t,ht⟩:=ru;exact⟨b,t,rfl,ht⟩
theorem YCf (ns:List Int):∀k,k≤ns.length→preSum (fun i=>(ns[i]?).getD 0) k=(ns.take k).sum
 |0,_=>by simp[preSum]
 |k + 1,h=>by
  have ih:=YCf ns k (by omega);have e:ns[k]?=some ns[k]:=YLF (by omega);show preSum (fun i=>(ns[i]?).getD 0) k + (ns[k]?).getD 0=_;rw[ih,YLf,e,List.sum_append];simp
theorem YFz (hc:X.calm=true):Jb X (.builtin "sum") (fun xs H Q=>∃(p:Addr) (ns:List Int),xs=[.ref p]∧SqL X.K H p (ns.map V.int)∧Q (.int ns.sum) H):=by
 intro pins s σ H xs us Q I r h;obtain⟨p,ns,rfl,hq,q⟩:=h;obtain⟨u,rfl,rx⟩:=Jc r;cases rx;obtain⟨its,rv,pl,hz⟩:=I.list hq;have hl:=pl.isList;have hlt:p < s.heap.objs.size:=by obtain⟨_,e,_⟩:=hl;exact Heap.lt_size e
 have hlen:ns.length=its.length:=by have:=rv.length;rwa [YLD]at this
 refine call_sum_walkG (wpAny_pyIter_list hl ?_);refine⟨s.heap.objs.size,[s.heap.objs.size,p],[s.heap.objs.size],its.toArray.size,_,_,fun i=>(ns[i]?).getD 0,rfl,Walks.list (A:=X.A.in1) (I.ok.hd hc) _ p (YLY hlt) its.toArray,
  ⟨⟨_,Heap.get?_push_size _ rfl,rfl,rfl⟩,hl.push _⟩,?_,fun i v hP=>?_,fun h' tk t' hk=>?_⟩
 ·intro b hb;simp only[List.mem_cons,List.not_mem_nil,or_false]at hb;show b < (s.heap.push _).objs.size;rw[Heap.size_push];rcases hb with rfl |rfl
  ·exact Nat.lt_succ_self _
  ·exact Nat.lt_succ_of_lt hlt
 ·obtain⟨b,t,eb,rfl⟩:=YDT rv (i:=i) (v:=v) (by simpa using hP);exact⟨t,by show Value.int b t=Value.int ((ns[i]?).getD 0) t;rw[eb];rfl⟩
 ·have e:preSum (fun i=>(ns[i]?).getD 0) its.toArray.size=ns.sum:=by
   rw[YLL,←hlen,YCf ns _ (YLG _),List.take_length]
  rw[e];exact⟨.int ns.sum,H,I.kept (t':=tk) fun b o eb=>hk b o (fun z=>by rw[List.mem_singleton.mp z]at eb;exact Nat.lt_irrefl _ (Heap.lt_size eb)) (Heap.get?_push_of_some _ eb),⟨t',rfl⟩,q⟩
end
end L2
namespace L2
open PySem PySem.Spec PyProof.Rows
section
open PySem.W
variable {K:W.Frag}{M:Model}
end
structure Lands (X:Cx) (pins:List (Addr×Obj)) (σ:St) (H:Hp) (e:Addr) (cls:Value) (s:Shared):Prop where
 I:Inv X pins σ H s
 new:H e=none
 fly:∃(B:Heap) (a0:Value),Heap.FlyingW B X.stack e cls a0 s.heap∧(∀b u,H b=some u→∃o,B.get? b=some o)∧(∀b o,X.s₀.heap.get? b=some o→b∉frs X.stack→b∉X.ex→∃o',B.get? b=some o')∧(∀p∈X.pn ++ pins,∃o',B.get? p.1=some o')
section
variable {X:Cx}
end
end L2
namespace L2
open PySem PySem.Spec PyProof.Rows
section
variable {X:Cx}
end
theorem YC7 {α:Type}{J:It}{item:Nat→V→Hp→Prop}{tc:TT}{te:TE}{Q:VK}{H:Hp}{l:Addr}{τ:St}{g:TG} (ds:List α) (f:α→Option V) (hJ:YFG J ds.length H item) (hp:YU H)
  (hl:H l=none) (hz:ds.length≤sizeLine) (keep:St→Prop) (hk0:keep τ)
  (ht:∀(τ':St) (k:Nat) (d:α) (x:V) (H':Hp) (Q1:St→VK) (Q2:St→Hp→Prop),keep τ'→ds[k]?=some d→item k x H'→YI H H'→YU H'→(∀y τ4 H6,keep τ4→YI H' H6→YU H6→f d=some y→Q1 τ4 y H6)→(∀τ4 H6,keep τ4→YI H' H6→YU H6→f d=none→Q2 τ4 H6)→
   g x τ' H' fun τ4 H4=>tc τ4 H4 fun b H5=>if b=true then te τ4 H5 (Q1 τ4) else Q2 τ4 H5)
  (hq:∀H',YI H H'→YU H'→H' l=some (.lst (ds.filterMap f))→Q (.ref l) H'):YAc J g tc te Q l τ H:=by
 refine comp_by ds.length (fun i ys τ' H2=>i≤ds.length∧ys=(ds.take i).filterMap f∧keep τ'∧YI H H2∧YU H2∧H2 l=some (.lst ys)) ⟨YLN _,rfl,hk0,YI.upd hl,hp.upd rfl,YB⟩ ?_ ?_
 ·rintro i ys τ' H2 N hlt ⟨hi,rfl,hk,hs,hp2,hll⟩ hN;obtain⟨hgo,_⟩:=hJ i _ hs hp2;obtain⟨h1,h2⟩:=hgo hlt;refine⟨h1,fun x H3 hy=>?_⟩;obtain⟨s3,p3,it⟩:=h2 x H3 hy;have e:ds[i]?=some ds[i]:=YLF hlt;have et:(ds.take (i + 1)).filterMap f=(ds.take i).filterMap f ++ (f ds[i]).toList:=by
   rw[YLf,e,List.filterMap_append];have:(some ds[i]).toList.filterMap f=(f ds[i]).toList:=by
    cases hf:f ds[i] with
    |none=>simp[hf]
    |some y=>simp[hf]
   rw[this]
  have hlen:((ds.take i).filterMap f).length≤i:=YLb (List.length_filterMap_le ..) (by rw[List.length_take];omega);refine ht τ' i ds[i] x H3 (fun τ4 y H6=>H6 l=some (.lst ((ds.take i).filterMap f))∧((ds.take i).filterMap f).length < sizeLine∧N ((ds.take i).filterMap f ++ [y]) τ4 (upd H6 l (.lst ((ds.take i).filterMap f ++ [y]))))
   (fun τ4 H5=>N ((ds.take i).filterMap f) τ4 H5) hk e it (hs.trans s3) p3 (fun y τ4 H6 k4 s6 p6 ef=>?_) fun τ4 H6 k4 s6 p6 ef=>?_
  ·rw[ef]at et;have hl6:H6 l=some (.lst ((ds.take i).filterMap f)):=s6 _ _ (s3 _ _ hll);exact⟨hl6,by omega,hN _ _ _ ⟨hlt,et.symm,k4,((hs.trans s3).trans s6).put hl,p6.upd rfl,YB⟩⟩
  ·rw[ef]at et;have et:(ds.take (i + 1)).filterMap f=(ds.take i).filterMap f:=by rw[et];exact YLW _
   exact hN _ _ _ ⟨hlt,et.symm,k4,(hs.trans s3).trans s6,p6,s6 _ _ (s3 _ _ hll)⟩
 ·rintro ys τ' H2 ⟨_,rfl,_,hs,hp2,hll⟩;rw[List.take_length]at hll;exact⟨(hJ ds.length _ hs hp2).2,hq _ hs hp2 hll⟩
end L2
namespace L2
open PySem PySem.Spec PyProof.Rows
section
variable {X:Cx}
end
end L2
namespace FR
open PySem L2
def good (c:Nat):Bool:=decide (32≤c) && decide (c≤126) && !decide (c=37)
def Zk (c:Nat):Bool:=decide (65≤c) && decide (c≤90)
def J7 (z:Str):Bool:=z.cps.size == 2 && z.cps[0]? == some 39 && good (z.cps.getD 1 0)
def isNameS (z:Str):Bool:=decide (1≤z.cps.size) && decide (z.cps.size≤8) && z.cps.toList.all Zk
def Zg (z:Str):Bool:=decide (z.cps.size≤60) && z.cps.toList.all good
def YBr:D→Bool
 |.str z=>J7 z
 |_=>false
def isNameD:D→Bool
 |.str z=>isNameS z
 |_=>false
def J8 (d:D):Bool:=YBr d || isNameD d
def Xh:D→Bool
 |.str z=>Zg z
 |_=>false
def YF0:D→Bool
 |.int _=>true
 |_=>false
def XO:D→Bool
 |.int i=>decide (0≤i) && decide (i≤10 ^ 60)
 |_=>false
def XB:D→Bool
 |.tup ds=>decide (ds.length≤6) && ds.all J8
 |_=>false
def JC:D→Bool
 |.tup [h,p,w]=>isNameD h && (XB p && XO w)
 |_=>false
def JI:D→Bool
 |.lst ds=>decide (ds.length≤60) && ds.all JC
 |_=>false
mutual
def _root_.L2.D.short:D→Bool
 |.str z=>decide (z.length≤1000)
 |.lst ds=>XQ ds
 |.tup ds=>XQ ds
 |_=>true
def XQ:List D→Bool
 |[]=>true
 |d :: ds=>d.short && XQ ds
end
theorem Jf:∀{xs:List D}{d:D},XQ xs=true→d∈xs→d.short=true
 |x :: xs,d,h,hd=>by
  unfold XQ at h;rw[YLJ]at h;rcases List.mem_cons.mp hd with rfl |hd
  ·exact h.1
  ·exact Jf h.2 hd
theorem YAz:∀{xs:List D},(∀d∈xs,d.short=true)→XQ xs=true
 |[],_=>by unfold XQ;rfl
 |x :: xs,h=>by unfold XQ;rw[h x YLP,YAz fun d hd=>h d (YLR _ hd)];rfl
theorem YEc {z:Str} (h:z.length≤1000):(D.str z).short=true:=by unfold D.short;exact decide_eq_true h
theorem YJG {z:Str} (h:(D.str z).short=true):z.length≤1000:=by unfold D.short at h;exact of_decide_eq_true h
theorem YH {n:Nat} (h:n≤1000):n≤sizeLine:=YLb h (by rw[sizeLine_eq];decide)
theorem YBP {z:Str} (h:(D.str z).short=true):z.length≤sizeLine:=YH (YJG h)
def isStrD:D→Bool |.str _=>true |_=>false
def isListD:D→Bool |.lst _=>true |_=>false
def isTupD:D→Bool |.tup _=>true |_=>false
def YH6:D→Bool |.bl _=>true |_=>false
def isIntD:D→Bool |.int _=>true |.bl _=>true |_=>false
section
variable {K:W.Frag}
theorem kit_int (d:D):PySem.W.kitOne K (.type (tyD d)) (.type "int")=some (isIntD d):=by cases d <;> kernel_rfl
theorem YKI (d:D):PySem.W.kitOne K (.type (tyD d)) (.type "bool")=some (YH6 d):=by cases d <;> kernel_rfl
theorem YFJ (d:D):PySem.W.kitOne K (.type (tyD d)) (.type "str")=some (isStrD d):=by cases d <;> kernel_rfl
theorem YKJ (d:D):PySem.W.kitOne K (.type (tyD d)) (.type "list")=some (isListD d):=by cases d <;> kernel_rfl
theorem YEd (d:D):PySem.W.kitOne K (.type (tyD d)) (.type "tuple")=some (isTupD d):=by cases d <;> kernel_rfl
end
theorem XR (z:Str):z.length=z.cps.size:=rfl
theorem le_A (c:Nat):(!decide (([c]:List Nat) < (("A":Str)).cps.toList))=decide (65≤c):=by
 have e:(("A":Str)).cps.toList=[65]:=by decide +kernel
 rw[e]
 by_cases h:65≤c
 ·rw[decide_eq_true h,decide_eq_false (by rw[List.cons_lt_cons_iff];simp;omega)];rfl
 ·rw[decide_eq_false h,decide_eq_true (by rw[List.cons_lt_cons_iff];left;omega)];rfl
theorem le_Z (c:Nat):(!decide ((("Z":Str)).cps.toList < ([c]:List Nat)))=decide (c≤90):=by
 have e:(("Z":Str)).cps.toList=[90]:=by decide +kernel
 rw[e]
 by_cases h:c≤90
 ·rw[decide_eq_true h,decide_eq_false (by rw[List.cons_lt_cons_iff];simp;omega)];rfl
 ·rw[decide_eq_false h,decide_eq_true (by rw[List.cons_lt_cons_iff];left;omega)];rfl
theorem YKK (g:Nat→Bool) (l:List Nat):l.map (fun c=>V.bl (g c))=(l.map g).map V.bl:=by rw[List.map_map];rfl
theorem YAF {α:Type} (g:α→Bool) (l:List α):(l.map g).all id=l.all g:=by rw[List.all_map];rfl
theorem YKL {ys:List V}{ds:List D}{g:D→Bool} (hl:ys.length=ds.length) (h:∀(k:Nat) (y:V),ys[k]?=some y→∃d,ds[k]?=some d∧y=.bl (g d)):ys=(ds.map g).map V.bl:=by
 refine List.ext_getElem? fun k=>?_
 by_cases hk:k < ys.length
 ·obtain⟨d,hd,hy⟩:=h k ys[k] (YLF hk);rw[YLF hk,YLI,YLI,hd,hy];rfl
 ·rw[List.getElem?_eq_none (by omega),List.getElem?_eq_none (by rw[YLD,YLD];omega)]
theorem Jt {te:TE}{σ:St}{H:Hp}{R:VK}{b g:Bool} (ht:b=true→∀R:VK,R (.bl g) H→te σ H R) (h:R (.bl (b && g)) H):if b=true then te σ H R else R (.bl false) H:=by
 cases b with
 |true=>exact ht rfl R h
 |false=>exact h
theorem or_read {te:TE}{σ:St}{H:Hp}{R:VK}{b g:Bool} (ht:b=false→∀R:VK,R (.bl g) H→te σ H R) (h:R (.bl (b || g)) H):if b=true then R (.bl true) H else te σ H R:=by
 cases b with
 |true=>exact h
 |false=>exact ht rfl R h
inductive spIs_ (g:D→Bool) (vs:List V) (H:Hp) (Q:VK):Prop where
 |mk (x:_) (d:_) (h0_:vs=[x]) (h1_:Den H x d) (h2_:d.short=true) (h3_:YU H) (h4_:Q (.bl (g d)) H):spIs_ g vs H Q
def YAG (g:D→Bool):Sp:=fun vs H Q E_=>spIs_ g vs H Q
inductive YEe (vs:List V) (H:Hp) (Q:VK):Prop where
 |mk (c:_) (h0_:vs=[.str ⟨#[c]⟩]) (h1_:Q (.bl (good c)) H):YEe vs H Q
def YDU:Sp:=fun vs H Q E_=>YEe vs H Q
inductive YDV (C:Addr) (vs:List V) (H:Hp) (Q:VK) (E:XK):Prop where
 |mk (x:_) (d:_) (h0_:vs=[x]) (h1_:Den H x d) (h2_:d.short=true) (h3_:YU H) (h4_:(JI d=true→∀(l:Addr) (xs:List V) (ds:List D),d=.lst ds→Yb H xs ds→H l=none→Q (.ref l) (upd H l (.lst xs)))) (h5_:(JI d=false→E (.ref C) none H)):YDV C vs H Q E
def YCI (C:Addr):Sp:=fun vs H Q E=>YDV C vs H Q E
theorem YDW {b:Bool} (h:(!b)=true):b=false:=by cases b <;> first |rfl |cases h
theorem YEf {b:Bool} (h:¬(!b)=true):b=true:=by cases b <;> first |rfl |exact absurd rfl h
inductive YCg (C:Addr) (vs:List V) (H:Hp) (Q:VK) (E:XK):Prop where
 |mk (x:_) (d:_) (h0_:vs=[x]) (h1_:Den H x d) (h2_:d.short=true) (h3_:YU H) (h4_:(∀z,d=.str z→Zg z=true→Q (.str z) H)) (h5_:(Xh d=false→E (.ref C) none H)):YCg C vs H Q E
def YBQ (C:Addr):Sp:=fun vs H Q E=>YCg C vs H Q E
abbrev ZW:=Str×List Str×Int
abbrev YT:=List ZW
def ZS (r:ZW):D:=.tup [.str r.1,.tup (r.2.1.map D.str),.int r.2.2]
def Xi (g:YT):D:=.lst (g.map ZS)
def Yo (z:Str):Bool:=J7 z || isNameS z
def Z7 (r:ZW):Bool:=isNameS r.1 && ((decide (r.2.1.length≤6) && r.2.1.all Yo) && (decide (0≤r.2.2) && decide (r.2.2≤10 ^ 60)))
def Yv (g:YT):Bool:=decide (g.length≤60) && g.all Z7
theorem YD7 (r:ZW):JC (ZS r)=Z7 r:=by
 obtain⟨h,ps,w⟩:=r;show(isNameD (.str h) && (XB (.tup (ps.map D.str)) && XO (.int w)))=_;show(isNameS h && ((decide ((ps.map D.str).length≤6) && (ps.map D.str).all J8) && (decide (0≤w) && decide (w≤10 ^ 60))))=_;rw[YLD,List.all_map];rfl
theorem YBH (g:YT):JI (Xi g)=Yv g:=by
 show(decide ((g.map ZS).length≤60) && (g.map ZS).all JC)=_;rw[YLD,List.all_map];unfold Yv;congr 1;congr 1;funext r;exact YD7 r
theorem YH7:∀{ds:List D},ds.all J8=true→∃ps:List Str,ds=ps.map D.str
 |[],_=>⟨[],rfl⟩
 |d :: ds,h=>by
  rw[List.all_cons,YLJ]at h;obtain⟨ps,rfl⟩:=YH7 h.2;cases d with
  |str z=>exact⟨z :: ps,rfl⟩
  |_=>cases h.1
theorem rule_of {d:D} (h:JC d=true):∃r:ZW,d=ZS r:=by
 unfold JC at h;split at h
 ·rename_i a b c
  rw[YLJ,YLJ]at h;obtain⟨h1,h2,h3⟩:=h;cases a with
  |str z=>
   cases b with
   |tup ds=>
    cases c with
    |int w=>
     unfold XB at h2;rw[YLJ]at h2;obtain⟨ps,rfl⟩:=YH7 h2.2;exact⟨(z,ps,w),rfl⟩
    |_=>cases h3
   |_=>cases h2
  |_=>cases h1
 ·cases h
theorem YH8 {d:D} (h:JI d=true):∃g:YT,d=Xi g∧Yv g=true:=by
 cases d with
 |lst ds=>
  have h0:=h;unfold JI at h;rw[YLJ]at h;have go:∀(ds:List D),ds.all JC=true→∃g:YT,ds=g.map ZS:=by
   intro ds
   induction ds with
   |nil=>exact fun _=>⟨[],rfl⟩
   |cons d ds ih=>
    intro hd;rw[List.all_cons,YLJ]at hd;obtain⟨g,rfl⟩:=ih hd.2;obtain⟨r,rfl⟩:=rule_of hd.1;exact⟨r :: g,rfl⟩
  obtain⟨g,rfl⟩:=go ds h.2;refine⟨g,rfl,?_⟩;rw[←YBH];exact h0
 |_=>cases h
theorem YKM {H:Hp}{v:V}{r:ZW} (h:Den H v (ZS r)):∃t p,v=.ref t∧H t=some (.tup [.str r.1,.ref p,.int r.2.2])∧H p=some (.tup (r.2.1.map V.str)):=by
 obtain⟨t,xs,rfl,ht,hds⟩:=h.to_tup
 match xs,hds with
 |[x0,x1,x2],hds=>
  obtain⟨_,e0,n0⟩:=hds.get (i:=0) (v:=x0) rfl;obtain⟨_,e1,n1⟩:=hds.get (i:=1) (v:=x1) rfl;obtain⟨_,e2,n2⟩:=hds.get (i:=2) (v:=x2) rfl;cases e0;cases e1;cases e2;have f0:=n0.to_str;have f2:=n2.to_int;obtain⟨p,ys,f1,hp,hys⟩:=n1.to_tup;subst f0 f1 f2;refine⟨t,p,rfl,ht,?_⟩;have:ys=r.2.1.map V.str:=by
   refine List.ext_getElem? fun i=>?_
   cases e:ys[i]? with
   |none=>
    have h1:=List.getElem?_eq_none_iff.mp e;have h2:=hys.len;rw[YLD]at h2;rw[List.getElem?_eq_none (by rw[YLD];omega)]
   |some y=>
    obtain⟨d,hd,dn⟩:=hys.get e;rw[YLI]at hd ⊢;cases e2:r.2.1[i]? with
    |none=>rw[e2]at hd;cases hd
    |some z=>
     rw[e2]at hd;cases hd;rw[dn.to_str];rfl
  rw[hp,this]
 |[],h=>exact absurd h.len (by simp)
 |[_],h=>exact absurd h.len (by simp)
 |[_,_],h=>exact absurd h.len (by simp)
 |_ :: _ :: _ :: _ :: _,h=>exact absurd h.len (by simp)
theorem YKN {H:Hp}{v:V}{g:YT} (h:Den H v (Xi g)):∃a xs,v=.ref a∧Rd H a (.lst xs)∧Yb H xs (g.map ZS):=h.to_lst
theorem YH9 {H:Hp}{xs:List V}{g:YT} (h:Yb H xs (g.map ZS)) {i:Nat}{v:V} (e:xs[i]?=some v):
  ∃r t p,g[i]?=some r∧v=.ref t∧H t=some (.tup [.str r.1,.ref p,.int r.2.2])∧H p=some (.tup (r.2.1.map V.str)):=by
 obtain⟨d,hd,dn⟩:=h.get e;rw[YLI]at hd;cases e2:g[i]? with
 |none=>rw[e2]at hd;cases hd
 |some r=>
  rw[e2]at hd;cases hd;obtain⟨t,p,e3,e4,e5⟩:=YKM dn;exact⟨r,t,p,rfl,e3,e4,e5⟩
def hstep (hs:List Str) (h:Str):List Str:=if h∈hs then hs else hs ++ [h]
def Zz (g:YT) (z:Str):List Nat:=(List.range g.length).filter fun k=>decide ((g[k]?.map (·.1))=some z)
theorem YDX:∀{xs:List D}{n:Nat},(∀d∈xs,d.dep≤n)→YCG xs≤n
 |[],n,_=>by unfold YCG;exact YLN _
 |x :: xs,n,h=>by
  unfold YCG;exact Nat.max_le.mpr ⟨h x YLP,YDX fun d hd=>h d (YLR _ hd)⟩
theorem ok_lst {xs:List D} (h:∀d∈xs,d.ok=true):(D.lst xs).ok=true:=by unfold D.ok;exact YKF h
theorem ok_str (z:Str):(D.str z).ok=true:=by unfold D.ok;rfl
theorem dep_lst {xs:List D}{n:Nat} (h:∀d∈xs,d.dep≤n):(D.lst xs).dep≤n + 1:=by unfold D.dep;exact Nat.succ_le_succ (YDX h)
theorem dep_str (z:Str):(D.str z).dep=0:=by unfold D.dep;rfl
theorem YC8 (zs:List Str):(D.lst (zs.map D.str)).ok=true:=ok_lst fun d hd=>by
 obtain⟨z,_,rfl⟩:=List.mem_map.mp hd;exact ok_str z
theorem YBs (zs:List Str):(D.lst (zs.map D.str)).dep≤64:=YLb (dep_lst (n:=0) fun d hd=>by
 obtain⟨z,_,rfl⟩:=List.mem_map.mp hd;rw[dep_str];exact YLG _) (by decide)
theorem YEg {z:Str} (h:isNameS z=true):z.length≤8:=by
 unfold isNameS at h;rw[YLJ,YLJ]at h;exact of_decide_eq_true h.1.2
theorem YF1 {z:Str} (h:Yo z=true):z.length≤8:=by
 unfold Yo at h;rw[Bool.or_eq_true]at h;rcases h with h |h
 ·unfold J7 at h;rw[YLJ,YLJ,beq_iff_eq]at h;show z.cps.size≤8;omega
 ·exact YEg h
theorem YHH {r:ZW} (h:Z7 r=true):(ZS r).short=true:=by
 unfold Z7 at h;simp only[YLJ]at h;obtain⟨h1,⟨h2,h3⟩,h4⟩:=h;unfold ZS D.short;refine YAz fun d hd=>?_
 simp only[List.mem_cons,List.not_mem_nil,or_false]at hd;rcases hd with rfl |rfl |rfl
 ·exact YEc (YLb (YEg h1) (by decide))
 ·unfold D.short;refine YAz fun d hd=>?_
  obtain⟨z,hz,rfl⟩:=List.mem_map.mp hd;exact YEc (YLb (YF1 (List.all_eq_true.mp h3 z hz)) (by decide))
 ·unfold D.short;rfl
theorem YDY {g:YT} (h:Yv g=true):(Xi g).short=true:=by
 unfold Yv at h;rw[YLJ]at h;unfold Xi D.short;refine YAz fun d hd=>?_
 obtain⟨r,hr,rfl⟩:=List.mem_map.mp hd;exact YHH (List.all_eq_true.mp h.2 r hr)
theorem YAH {g:YT} (h:Yv g=true):g.length≤60:=by
 unfold Yv at h;rw[YLJ]at h;exact of_decide_eq_true h.1
theorem YIA:∀{a b:List Str},a.map D.str=b.map D.str→a=b
 |[],[],_=>rfl
 |[],_ :: _,h=>by cases h
 |_ :: _,[],h=>by cases h
 |x :: a,y :: b,h=>by
  rw[YLS,YLS]at h
  injection h with h1 h2
  injection h1 with h3
  rw[h3,YIA h2]
theorem YJH {r r':ZW} (h:ZS r=ZS r'):r=r':=by
 obtain⟨a,b,c⟩:=r;obtain⟨a',b',c'⟩:=r';unfold ZS at h
 injection h with h
 injection h with h1 h2
 injection h2 with h2 h3
 injection h3 with h3 _
 injection h1 with h1
 injection h2 with h2
 injection h3 with h3
 have h1':a=a':=h1;have h3':c=c':=h3;have h2':b=b':=YIA h2;rw[h1',h2',h3']
theorem YEh {g g':YT} (h:Xi g=Xi g'):g=g':=by
 unfold Xi at h
 injection h with h
 induction g generalizing g' with
 |nil=>
  cases g' with
  |nil=>rfl
  |cons _ _=>cases h
 |cons r g ih=>
  cases g' with
  |nil=>cases h
  |cons r' g'=>
   rw[YLS,YLS]at h
   injection h with h1 h2
   rw[YJH h1,ih h2]
inductive YIB (K:W.Frag) (vs:List V) (H:Hp) (Q:VK):Prop where
 |mk (a:Addr) (ns:List Int) (k:Int) (h0_:vs=[.ref a,.int k]) (h1_:SqL K H a (ns.map V.int)) (h2_:0≤k) (h3_:∀v:Int,Q (.int v) H):YIB K vs H Q
def YHI (K:W.Frag):Sp:=fun vs H Q E_=>YIB K vs H Q
inductive YKO (K:W.Frag) (vs:List V) (H:Hp) (Q:VK):Prop where
 |mk (a:Addr) (ns:List Int) (h0_:vs=[.ref a]) (h1_:SqL K H a (ns.map V.int)) (h2_:ns.length≤63) (h3_:YU H) (h4_:∀H',Q (.bl true) H'):YKO K vs H Q
def YF2 (K:W.Frag):Sp:=fun vs H Q E_=>YKO K vs H Q
theorem YJI {K:W.Frag}{H:Hp}{a:Addr}{ns:List Int} (hl:ns.length≤63) (hO:Only H) (hS:SqL K H a (ns.map V.int)):YF2 K [.ref a] H (fun v _=>v=.bl true) fun _ _ _=>False:=
 ⟨a,ns,rfl,hS,hl,YHG hO,fun _=>rfl⟩
def YIC (l:List Nat):Bool:=decide (1≤l.length) && decide (l.length≤8) && l.all Zk
theorem YCh (z:Str):isNameS z=YIC z.cps.toList:=by
 unfold isNameS YIC;rw[YLc]
def BIG:Str:="ABCDEFGHIJKLMNOPQRSTUVWXYZ"
theorem YKP:BIG.cps.toList=(List.range 26).map (65 + ·):=by decide +kernel
theorem YFK:BIG.cps.toList.length=26:=by decide +kernel
theorem YDZ:BIG.length≤sizeLine:=YH (by decide +kernel)
theorem YBR {c:Nat} (h:c∈BIG.cps.toList):Zk c=true:=by
 rw[YKP]at h;obtain⟨k,hk,rfl⟩:=List.mem_map.mp h;have:=List.mem_range.mp hk;unfold Zk;rw[decide_eq_true (by omega),decide_eq_true (by omega)];rfl
theorem YAg (a b:Str):(a ++ b).cps.toList=a.cps.toList ++ b.cps.toList:=by
 show(a.cps ++ b.cps).toList=_;exact Array.toList_append
def strOf:Expr→Str
 |.Constant (.str x) _ _=>x
 |.BinOp _ _ b _=>strOf b
 |_=>⟨#[]⟩
def valOf:Stmt→Str
 |.Assign _ v _=>strOf v
 |.Return (some v) _=>strOf v
 |_=>⟨#[]⟩
def YFL (s:Stmt) (i:Nat):Str:=valOf ((JB s).getD i (.Pass ⟨0,0,0,0⟩))
def YCJ:List Nat:=(List.range 95).filterMap fun k=>if k=5 then none else some (32 + k)
theorem YHJ {c:Nat} (h:c∈YCJ):good c=true:=by
 obtain⟨k,hk,e⟩:=List.mem_filterMap.mp h;have:=List.mem_range.mp hk;unfold good;split at e
 ·cases e
 ·cases e;rw[decide_eq_true (by omega),decide_eq_true (by omega),decide_eq_false (by omega)];rfl
theorem YJJ:YCJ.length=94:=by decide +kernel
theorem q_one:(("'":Str)).length=1:=by decide +kernel
theorem q_list:(("'":Str)).cps.toList=[39]:=by decide +kernel
theorem YAh (c:Nat):(("'":Str) ++ ⟨#[c]⟩).cps=#[39,c]:=by
 apply Array.ext';rw[YAg,q_list];rfl
theorem YJK {c:Nat} (h:good c=true):J7 (("'":Str) ++ ⟨#[c]⟩)=true:=by
 unfold J7;rw[YAh];show(true && good c)=true;rw[h];rfl
theorem YJL {c:Nat} (h:good c=true):Yo (("'":Str) ++ ⟨#[c]⟩)=true:=by
 unfold Yo;rw[YJK h];rfl
theorem YCK {r:ZW} (h1:isNameS r.1=true) (h2:r.2.1.length≤6) (h3:∀z∈r.2.1,Yo z=true) (h4:0≤r.2.2) (h5:r.2.2≤10 ^ 60):Z7 r=true:=by
 unfold Z7;have a:r.2.1.all Yo=true:=List.all_eq_true.mpr h3;rw[h1,decide_eq_true h2,a,decide_eq_true h4,decide_eq_true h5];rfl
theorem YBS {ys:List V}{P:Str→Prop} (h:∀(k:Nat) (y:V),ys[k]?=some y→∃z,y=.str z∧P z):∃zs:List Str,ys=zs.map V.str∧∀z∈zs,P z:=by
 induction ys with
 |nil=>exact⟨[],rfl,by simp⟩
 |cons y ys ih=>
  obtain⟨zs,rfl,hz⟩:=ih fun k y e=>h (k + 1) y (by simpa using e)
  obtain⟨z,rfl,pz⟩:=h 0 y rfl;exact⟨z :: zs,rfl,fun x hx=>(List.mem_cons.mp hx).elim (fun e=>by rw[e];exact pz) (hz x)⟩
theorem YKQ {x:Str}{j:Int} (h0:0≤j) (h1:j≤x.length):(Txt.slice x none (some j)).cps.toList=x.cps.toList.take j.toNat:=by
 have h:=PyProof.Rows.slice_closes_to (x:=x) (j:=j) ⟨h0,by rw[YLc];exact h1⟩;have e:=eq_of_beq h;rw[e];show((x.cps.toList.drop (0:Int).toNat).take (j - 0).toNat)=_;rw[Int.sub_zero];rfl
theorem YHK {x:Str}{i:Int} (h0:0≤i) (h1:i≤x.length):(Txt.slice x (some i) none).cps.toList=x.cps.toList.drop i.toNat:=by
 have e:=PyProof.Rows.slice_from_eq (x:=x) (i:=i) (b:=x.length) h0 h1 rfl;rw[e];show((x.cps.toList.drop i.toNat).take ((x.length:Int) - i).toNat)=_;refine List.take_of_length_le ?_;rw[YLd,YLc];have:x.length=x.cps.size:=rfl;omega
abbrev Sz:=List (Str×Int)
def szD (s:Sz):List (Key×V):=s.map fun p=>(Sum.inr p.1,.int p.2)
def look (s:Sz) (z:Str):Option Int:=(s.find? fun p=>decide (p.1=z)).map (·.2)
def YF3:Sz→Str→Int→Sz
 |[],z,n=>[(z,n)]
 |p :: s,z,n=>if p.1=z then (z,n) :: s else p :: YF3 s z n
theorem XC (p:Str×Int) (s:Sz) (z:Str):look (p :: s) z=if p.1=z then some p.2 else look s z:=by
 unfold look;rw[List.find?_cons]
 by_cases h:p.1=z
 ·rw[decide_eq_true h,if_pos h];rfl
 ·rw[decide_eq_false h,if_neg h]
theorem YKR (s:Sz) (z y:Str) (n:Int):look (YF3 s z n) y=if y=z then some n else look s y:=by
 induction s with
 |nil=>
  show look [(z,n)] y=_;rw[XC]
  by_cases h:y=z
  ·rw[if_pos h,if_pos h.symm]
  ·rw[if_neg h,if_neg (fun e=>h e.symm)]
 |cons p s ih=>
  unfold YF3
  by_cases hp:p.1=z
  ·rw[if_pos hp,XC,XC]
   by_cases h:y=z
   ·rw[if_pos h,if_pos h.symm]
   ·rw[if_neg h,if_neg (fun e=>h e.symm),if_neg (fun e=>h (e.symm.trans hp))]
  ·rw[if_neg hp,XC,XC,ih]
   by_cases h:y=z
   ·rw[if_pos h,if_neg (fun e=>hp (e.trans h))];rw[if_pos h]
   ·rw[if_neg h];simp only[if_neg h]
theorem YF4 {s:Sz}{z:Str}{n:Int} (h:look s z=some n):(z,n)∈s:=by
 unfold look at h;cases e:s.find? fun p=>decide (p.1=z) with
 |none=>rw[e]at h;cases h
 |some p=>
  rw[e]at h;have h1:=List.find?_some e;have h2:p.1=z:=of_decide_eq_true h1;have h3:p.2=n:=Option.some.inj h;have:=List.mem_of_find?_eq_some e;rw[←h2,←h3];exact this
theorem YEi {s:Sz}{z:Str} (h:look s z=none):¬z∈s.map (·.1):=by
 intro m;obtain⟨p,hp,e⟩:=List.mem_map.mp m;unfold look at h;cases e2:s.find? fun p=>decide (p.1=z) with
 |some q=>rw[e2]at h;cases h
 |none=>
  have:=List.find?_eq_none.mp e2 p hp;exact this (decide_eq_true e)
theorem YBt (z:Str):∀s:Sz,Yw (szD s) (Sum.inr z)=(look s z).map V.int
 |[]=>rfl
 |p :: s=>by
  show Yw ((Sum.inr p.1,V.int p.2) :: szD s) (Sum.inr z)=_;rw[XC]
  by_cases e:p.1=z
  ·rw[ZY (by rw[e]),if_pos e];rfl
  ·rw[Zd (fun h=>e (Sum.inr.inj h)),YBt z s,if_neg e]
theorem put_szD {s:Sz} (nd:(s.map (·.1)).Nodup) (z:Str) (n:Int):Y4 (szD s) (Sum.inr z) (.int n)=szD (YF3 s z n):=by
 induction s with
 |nil=>rfl
 |cons p s ih=>
  rw[YLS,List.nodup_cons]at nd;unfold YF3
  by_cases e:p.1=z
  ·rw[if_pos e];have:Yw (szD (p :: s)) (Sum.inr z)=some (.int p.2):=by
    show Yw ((Sum.inr p.1,V.int p.2) :: szD s) (Sum.inr z)=_;rw[ZY (by rw[e])]
   unfold Y4;rw[XJ,this,if_pos (show(some (V.int p.snd)).isSome=true from rfl)];show((Sum.inr p.1,V.int p.2) :: szD s).map _=(Sum.inr z,V.int n) :: szD s;rw[YLS];congr 1
   ·show(if (Sum.inr p.1:Key)=Sum.inr z then _ else _)=_;rw[if_pos (by rw[e]),e]
   ·refine(List.map_congr_left fun q hq=>?_).trans (List.map_id _);obtain⟨r,hr,rfl⟩:=List.mem_map.mp hq;show(if (Sum.inr r.1:Key)=Sum.inr z then _ else _)=_;rw[if_neg]
    ·rfl
    ·intro h;exact nd.1 (by rw[e,←Sum.inr.inj h];exact List.mem_map.mpr ⟨r,hr,rfl⟩)
  ·rw[if_neg e];have ih:=ih nd.2;show Y4 ((Sum.inr p.1,V.int p.2) :: szD s) (Sum.inr z) (.int n)=(Sum.inr p.1,V.int p.2) :: szD (YF3 s z n);rw[←ih];unfold Y4;have e1:(((Sum.inr p.1,V.int p.2) :: szD s).any fun kv=>decide (kv.1=(Sum.inr z:Key)))=(szD s).any fun kv=>decide (kv.1=(Sum.inr z:Key)):=by
    rw[List.any_cons,decide_eq_false (fun h=>e (Sum.inr.inj h))];rfl
   rw[e1];split
   ·rw[YLS];congr 1;show(if (Sum.inr p.1:Key)=Sum.inr z then _ else _)=_;rw[if_neg (fun h=>e (Sum.inr.inj h))]
   ·rfl
def isQ (p:Str):Bool:=Txt.startswith p "'"
def sizeP (s:Sz) (q:Int) (p:Str):Option Int:=if isQ p=true then some q else look s p
def sizeG (s:Sz) (q:Int):List Str→Int→Option Int
 |[],acc=>some acc
 |p :: ps,acc=>match sizeP s q p with
  |none=>none
  |some m=>sizeG s q ps (acc + m)
def sizeR (s:Sz) (q:Int) (ps:List Str):Option Int:=sizeG s q ps 1
def LeS (s' s:Sz):Prop:=∀z v,look s z=some v→∃v',look s' z=some v'∧v'≤v
def bnd (q:Int) (n:Nat):Int:=(1 + 6 * q) * 7 ^ n
structure SzOk (g:YT) (q:Int) (s:Sz):Prop where
 nd:(s.map (·.1)).Nodup
 pos:∀z v,look s z=some v→1≤v
 bd:∀z v,look s z=some v→v≤bnd q s.length
 hd:∀z v,look s z=some v→∃r∈g,r.1=z∧∃m,sizeR s q r.2.1=some m∧m≤v
theorem YID {κ:Type}:∀{l:List κ}{k:κ},l.Nodup→¬k∈l→(l ++ [k]).Nodup
 |[],k,_,_=>by simp
 |a :: r,k,h,hk=>by
  obtain⟨h1,h2⟩:=List.nodup_cons.mp h;show(a :: (r ++ [k])).Nodup;refine List.nodup_cons.mpr ⟨fun m=>?_,YID h2 fun m=>hk (List.mem_cons.mpr (Or.inr m))⟩;rcases List.mem_append.mp m with q |q
  ·exact h1 q
  ·exact hk (List.mem_cons.mpr (Or.inl (List.mem_singleton.mp q).symm))
def mu (g:YT) (q:Int) (s:Sz):Nat:=(g.map fun r=>match look s r.1 with
 |none=>(bnd q 60).toNat + 1
 |some v=>v.toNat).sum
abbrev Wait:=Str ⊕ Nat
def numD (g:YT):D→Option ZW
 |.int i=>if 0≤i then g[i.toNat]? else none
 |_=>none
structure Rdg where
 sg:List Nat
 bg:List Nat
 st:List Nat
def sgn (p:Str):Nat:=p.cps.getD 1 0
def fin (g:YT):List Wait→Rdg→List D→Option Rdg
 |[],s,[]=>some s
 |[],_,_ :: _=>none
 |.inr k :: ws,s,ds=>fin g ws ⟨s.sg,s.bg,s.st.set k s.sg.length⟩ ds
 |.inl p :: ws,s,ds=>
  if isQ p=true then fin g ws ⟨s.sg ++ [sgn p],s.bg,s.st⟩ ds
  else match ds with
   |[]=>none
   |d :: ds'=>match numD g d with
    |none=>none
    |some r=>if r.1=p then fin g (r.2.1.map Sum.inl ++ (Sum.inr s.bg.length :: ws)) ⟨s.sg,s.bg ++ [s.sg.length],s.st ++ [s.sg.length]⟩ ds' else none
termination_by ws _ ds=>(ds.length,ws.length)
decreasing_by
 all_goals simp_wf
 all_goals first
  |(apply Prod.Lex.right;omega)
  |(apply Prod.Lex.left;omega)
end FR
namespace L2
open PySem PySem.Spec PyProof.Rows
section
variable {X:Cx}{pins:List (Addr×Obj)}{σ:St}{H:Hp}{s:Shared}{d:Addr}{o:Obj}{kvs:List (Key×V)}
end
section
variable {X:Cx}{elts:List Expr}{k:Nat}{tpos:Pos}
end
end L2
namespace FR
open PySem L2
def unQ (ps:List Str):List Str:=ps.filter fun p=>!isQ p
end FR
namespace L2
open PySem PySem.Spec PyProof.Rows
theorem YKS:mroOf (.type "reversed")=pure [.type "reversed",.type "object"]:=by rw[mroOf_type];kernel_rfl
theorem rv_newl:typeLookup (.type "reversed") "__new__"=pure (some (.builtin "reversed.__new__")):=by rw[typeLookup_type,builtinLookup_eq_fast];kernel_rfl
theorem rv_init:Slot "reversed" "__init__" "object.__init__":=.of (owner:="object") (n:="__init__") (by rw[typeLookup_type,builtinLookup_eq_fast];kernel_rfl) (by decide +kernel) (by decide +kernel) (by decide +kernel) (by first |exact .inl (by decide +kernel) |exact .inr (by decide +kernel)) (by rw[isSubtype_type];kernel_rfl)
theorem YA0:TypeCalled "reversed" "reversed.__new__" "object.__init__":=⟨by decide +kernel,by decide +kernel,⟨_,_,YKS⟩,madeBy_type YKS rv_newl (by decide +kernel),by decide +kernel,by rw[isSubtype_type];kernel_rfl,rv_init⟩
theorem YCi (a:Value):checkTypeCall "reversed" ⟨[a],[]⟩=pure ():=by kernel_rfl
theorem YDa (a:Value):checkBuiltinCall "reversed.__new__" ⟨[.type "reversed",a],[]⟩=pure ():=by kernel_rfl
theorem YF5:entryFor table "reversed.__new__"=some Builtin.«reversed.__new__»:=entryFor_of_tree (by kernel_rfl)
theorem YKT:typeLookup (.type "tuple") "__reversed__"=pure none:=by rw[typeLookup_type,builtinLookup_eq_fast];kernel_rfl
theorem YKU:typeLookup (.type "tuple") "__getitem__"=pure (some (.builtin "tuple.__getitem__")):=by rw[typeLookup_type,builtinLookup_eq_fast];kernel_rfl
theorem YKV:isSubtype (.type "tuple") (.type "dict")=pure false:=by rw[isSubtype_type];kernel_rfl
theorem rv_nsub:isSubtype (.type "list_reverseiterator") (.type "reversed")=pure false:=by rw[isSubtype_type];kernel_rfl
theorem YF6:Slot "list_reverseiterator" "__iter__" "list_reverseiterator.__iter__":=.of (owner:="list_reverseiterator") (n:="__iter__") (by rw[typeLookup_type,builtinLookup_eq_fast];kernel_rfl) (by decide +kernel) (by decide +kernel) (by decide +kernel) (by first |exact .inl (by decide +kernel) |exact .inr (by decide +kernel)) (by rw[isSubtype_type];kernel_rfl)
theorem YAi:Slot "list_reverseiterator" "__next__" "list_reverseiterator.__next__":=.of (owner:="list_reverseiterator") (n:="__next__") (by rw[typeLookup_type,builtinLookup_eq_fast];kernel_rfl) (by decide +kernel) (by decide +kernel) (by decide +kernel) (by first |exact .inl (by decide +kernel) |exact .inr (by decide +kernel)) (by rw[isSubtype_type];kernel_rfl)
theorem lr_entI:entryFor table "list_reverseiterator.__iter__"=some Builtin.«dict_keyiterator.__iter__»:=entryFor_alias (id':="dict_keyiterator.__iter__") (by kernel_rfl) rfl (by decide +kernel) (by kernel_rfl)
theorem YIE:entryFor table "list_reverseiterator.__next__"=some Builtin.«list_reverseiterator.__next__»:=entryFor_of_tree (by kernel_rfl)
theorem lr_argI (a:Value):argsOk "list_reverseiterator.__iter__" ⟨[a],[]⟩:=by unfold argsOk;kernel_rfl
theorem YIF (a:Value):argsOk "list_reverseiterator.__next__" ⟨[a],[]⟩:=by unfold argsOk;kernel_rfl
theorem YF7:Slot "reversed" "__iter__" "reversed.__iter__":=.of (owner:="reversed") (n:="__iter__") (by rw[typeLookup_type,builtinLookup_eq_fast];kernel_rfl) (by decide +kernel) (by decide +kernel) (by decide +kernel) (by first |exact .inl (by decide +kernel) |exact .inr (by decide +kernel)) (by rw[isSubtype_type];kernel_rfl)
theorem YAj:Slot "reversed" "__next__" "reversed.__next__":=.of (owner:="reversed") (n:="__next__") (by rw[typeLookup_type,builtinLookup_eq_fast];kernel_rfl) (by decide +kernel) (by decide +kernel) (by decide +kernel) (by first |exact .inl (by decide +kernel) |exact .inr (by decide +kernel)) (by rw[isSubtype_type];kernel_rfl)
theorem rv_entI:entryFor table "reversed.__iter__"=some Builtin.«dict_keyiterator.__iter__»:=entryFor_alias (id':="dict_keyiterator.__iter__") (by kernel_rfl) rfl (by decide +kernel) (by kernel_rfl)
theorem YIG:entryFor table "reversed.__next__"=some Builtin.«reversed.__next__»:=entryFor_of_tree (by kernel_rfl)
theorem rv_argI (a:Value):argsOk "reversed.__iter__" ⟨[a],[]⟩:=by unfold argsOk;kernel_rfl
theorem YIH (a:Value):argsOk "reversed.__next__" ⟨[a],[]⟩:=by unfold argsOk;kernel_rfl
end L2
namespace L2
open PySem PySem.Spec PyProof.Rows
theorem YDb (l:Addr) (items:Array Value) (n:Nat):
  Meets (Builtin.«reversed.__new__» ⟨[.type "reversed",.ref l],[]⟩) (fun A R s=>s.heap.get? l=some { cls:=.type "list",dict:=none,data:=.seq items n,slots:=#[] }∧
   R (.ok (.ret (.ref s.heap.objs.size))) { s with heap:=s.heap.push { cls:=.type "list_reverseiterator",data:=.fields #[.ref l,rawInt ((items.size:Int) - 1)] } }):=
 .of_wp fun prog w A R s h=>by
  obtain⟨hp,g,d,tk,os⟩:=s;obtain⟨hl,h⟩:=h;have hsub:=YA0.sub;have hT:Shared.TypeIs ⟨hp,g,d,tk,os⟩ (.ref l) "list":=⟨_,hl,rfl⟩;have wD:=F.slot_list_reversed.lookup;have hb:=F.slot_list_reversed.bind (.ref l)
  wp_walk
  have key:=AutoListH.list___reversed___list_0 l items n prog w A.in1 (fun(r:Result) (s':Shared)=>r=Except.ok (Flow.ret (Value.ref hp.objs.size))∧s'=⟨hp.push { cls:=.type "list_reverseiterator",data:=.fields #[.ref l,rawInt ((items.size:Int) - 1)] },g,d,tk,os⟩) ⟨hp,g,d,tk,os⟩ ⟨hl,rfl,rfl⟩;refine codeAny_mono (codeAny_call_builtin (R:=(fun(r:Result) (s':Shared)=>r=Except.ok (Flow.ret (Value.ref hp.objs.size))∧s'=⟨hp.push { cls:=.type "list_reverseiterator",data:=.fields #[.ref l,rawInt ((items.size:Int) - 1)] },g,d,tk,os⟩)) F.slot_list_reversed.plain F.entry_list_reversed (F.slot_list_reversed.check _ _ _ _ _ _ _ _ hT (F.args_list_reversed_1 _) key)) fun r s1 hr=>?_
  obtain⟨rfl,rfl⟩:=hr;exact wpAny_pure ⟨_,rfl,h⟩
theorem YCq (l:Addr) (items:Array Value) (o:Obj) (n:Nat) (hc:o.cls=.type "tuple") (hd:o.data=.seq items n) (hz:(items.size:Int) < 2 ^ 63):
  Meets (Builtin.«reversed.__new__» ⟨[.type "reversed",.ref l],[]⟩) (fun A R s=>s.heap.get? l=some o∧
   R (.ok (.ret (.ref s.heap.objs.size))) { s with heap:=s.heap.push { cls:=.type "reversed",data:=.fields #[.ref l,rawInt ((items.size:Int) - 1)] },toks:=s.toks + 1 + 1 }):=
 .of_wp fun prog w A R s h=>by
  obtain⟨hp,g,d,tk,os⟩:=s;obtain⟨hl,h⟩:=h;have hsub:=YA0.sub;have hT:Shared.TypeIs ⟨hp,g,d,tk,os⟩ (.ref l) "tuple":=⟨_,hl,hc⟩;have h1:=YKT;have h2:=YKU;have h3:=YKV;have ht:IsTup (Shared.heap ⟨hp,g,d,tk,os⟩) l items:=⟨o,hl,hc,n,hd⟩
  wp_walk using len_tuple ht hz
  exact⟨_,rfl,h⟩
section
variable {prog:Program}{w:World}{A:Around}{E:Value→Shared→Prop}{s:Shared}
theorem YD8 {T T2 newId initId:String}{Bn:Builtin}{args:List Value}{S:PySem.Spec}{Q:Value→Shared→Prop} (ft:TypeCalled T newId initId) (hn:isSubtype (.type T2) (.type T)=pure false)
  (hct:checkTypeCall T ⟨args,[]⟩=pure ()) (hcn:checkBuiltinCall newId ⟨.type T :: args,[]⟩=pure ()) (entryN:entryFor table newId=some Bn) (g:Meets (Bn ⟨.type T :: args,[]⟩) S)
  (h:S A.in1 (wants (fun obj s1=>s1.TypeIs obj T2∧Q obj s1) E) s):wpAny (model prog w) A (call (.type T) args) Q E s:=by
 obtain⟨_,_,m0⟩:=ft.mro;have m1:=ft.made;have m2:=ft.sub;have m3:=ft.notType;have m4:=ft.canCreate;refine wpAny_call (codeAny_of_tree (show wpAny _ _ (callAny (.type T) _) _ _ _ from wpAny_pure ⟨Code.quiet_builtin _ (by decide +kernel),codeAny_builtin F.entry_type_call ?_⟩));rw[Around.under_plain (weight_type_call_type T args []) (units_type_call_type T args [])];repeat any_goals first |assumption |wp_step
 refine codeAny_mono (codeAny_call_builtin ft.plain entryN (wpAny_of_eq hcn (g prog w A.in1 _ s h))) fun r s1 hr=>?_
 rcases r with e |fl
 ·exact hr
 ·cases fl with
  |ret obj=>
   obtain⟨hT,hq⟩:=hr
   repeat any_goals first |assumption |wp_step
  |_=>exact hr.elim
theorem YII {α:Type}{Q:α→Shared→Prop}{E':Value→Shared→Prop} (hh:A.handled=none) (h:∀e h',(∀b o,s.heap.get? b=some o→h'.get? b=some o)→Shared.TypeIs { s with heap:=h' } e "StopIteration"→E' e { s with heap:=h' }):
  wpAny (model prog w) A (Builtin.SmallTypes.stopIteration:Sem α) Q E' s:=by
 unfold Builtin.SmallTypes.stopIteration;refine wpAny_bind ?_;simp only[newExc,newTuple];refine wpAny_bind (wpAny_newObj_type (wpAny_bind (m:=firstArgMember _ _) (wpAny_of_eq (a:=Value.none) (by first |rfl |(simp only[firstArgMember];rfl)) (wpAny_newObj_type ?_ (by size_fits)))) (by size_fits));simp only[raiseNew];refine wpAny_bind (wpAny_handled ?_);rw[hh];refine wpAny_bind (wpAny_pure (wpAny_throw (h _ _ (fun b o e=>Heap.get?_push_of_some _ (Heap.get?_push_of_some _ e)) ?_)));exact⟨_,Heap.get?_push_size _ rfl,rfl⟩
def RevL (h:Heap) (it l:Addr) (i:Int):Prop:=∃o,h.get? it=some o∧o.cls=.type "list_reverseiterator"∧o.data=.fields #[.ref l,.int i 0]
def YDc (h:Heap) (it l:Addr) (i:Int):Prop:=∃o,h.get? it=some o∧o.cls=.type "reversed"∧o.data=.fields #[.ref l,.int i 0]
theorem YD9 {l:Addr}{items:Array Value}{n:Nat}{Q:Value→Shared→Prop} (hl:s.heap.get? l=some { cls:=.type "list",dict:=none,data:=.seq items n,slots:=#[] })
  (h:∀h',RevL h' s.heap.objs.size l ((items.size:Int) - 1)→(∀b o,s.heap.get? b=some o→h'.get? b=some o)→Q (.ref s.heap.objs.size) { s with heap:=h' }):wpAny (model prog w) A (call (.type "reversed") [.ref l]) Q E s:=by
 refine YD8 YA0 rv_nsub (YCi _) (YDa _) YF5 (YDb l items n) ⟨hl,?_⟩;exact⟨⟨_,Heap.get?_push_size _ rfl,rfl⟩,h _ ⟨_,Heap.get?_push_size _ rfl,rfl,rfl⟩ fun b o e=>Heap.get?_push_of_some _ e⟩
theorem YAk {l:Addr}{items:Array Value}{Q:Value→Shared→Prop} (hl:IsTup s.heap l items) (hz:(items.size:Int) < 2 ^ 63)
  (h:∀h',YDc h' s.heap.objs.size l ((items.size:Int) - 1)→(∀b o,s.heap.get? b=some o→h'.get? b=some o)→Q (.ref s.heap.objs.size) { s with heap:=h',toks:=s.toks + 1 + 1 }):wpAny (model prog w) A (call (.type "reversed") [.ref l]) Q E s:=by
 obtain⟨o,ho,hc,n,hd⟩:=hl;refine callType_new YA0 (by decide) (YCi _) (YDa _) (fun obj=>F.args_object_init_2 obj _) YF5 (YCq l items o n hc hd hz) ⟨ho,?_⟩;exact⟨⟨_,Heap.get?_push_size _ rfl,rfl⟩,h _ ⟨_,Heap.get?_push_size _ rfl,rfl,rfl⟩ fun b o e=>Heap.get?_push_of_some _ e⟩
theorem YEj {it l:Addr}{i:Int}{Q:Value→Shared→Prop} (hit:RevL s.heap it l i) (h:Q (.ref it) s):wpAny (model prog w) A (pyIter (.ref it)) Q E s:=by
 obtain⟨o,ho,hc,hd⟩:=hit;have hT:s.TypeIs (.ref it) "list_reverseiterator":=⟨o,ho,hc⟩;refine wpAny_pyIter_slot hT YF6 (wpAny_call_entry YF6 hT lr_entI ?_ (lr_argI _));show wpAny _ _ (ret (.ref it)) _ _ s;exact wpAny_pure ⟨_,rfl,"list_reverseiterator",_,hT,YAi.lookup,h⟩
theorem YA1 {it l:Addr}{i:Int}{Q:Value→Shared→Prop} (hit:YDc s.heap it l i) (h:Q (.ref it) s):wpAny (model prog w) A (pyIter (.ref it)) Q E s:=by
 obtain⟨o,ho,hc,hd⟩:=hit;have hT:s.TypeIs (.ref it) "reversed":=⟨o,ho,hc⟩;refine wpAny_pyIter_slot hT YF7 (wpAny_call_entry YF7 hT rv_entI ?_ (rv_argI _));show wpAny _ _ (ret (.ref it)) _ _ s;exact wpAny_pure ⟨_,rfl,"reversed",_,hT,YAj.lookup,h⟩
theorem YJM {it l:Addr}{i:Nat}{items:Array Value}{x:Value}{Q:Option Value→Shared→Prop} (hit:RevL s.heap it l i) (hl:s.heap.IsList l items) (hx:items[i]?=some x)
  (hQ:∀h',RevL h' it l ((i:Int) - 1)→Heap.SameBut it s.heap h'→Q (some x) { s with heap:=h' }):wpAny (model prog w) A (pyNext (.ref it)) Q E s:=by
 obtain⟨o,ho,hc,hd⟩:=id hit;obtain⟨ol,hol,_,nl,hdl⟩:=hl;have hT:s.TypeIs (.ref it) "list_reverseiterator":=⟨o,ho,hc⟩;unfold pyNext;refine wpAny_bind (wpAny_attempt (wpAny_callSpecial?_slot (name:=Str.ofString "__next__") hT YAi (wpAny_call_entry YAi hT YIE ?_ (YIF _))));unfold Builtin.«list_reverseiterator.__next__»;refine wpAny_bind (wpAny_pure (wpAny_bind (wpAny_field ho hd (x:=.int i 0) rfl ?_)));show wpAny _ _ (if ((i:Nat):Int) < 0 then _ else _) _ _ s;rw[if_neg (by omega)];refine wpAny_bind (wpAny_field ho hd (x:=.ref l) rfl (wpAny_bind (wpAny_seqItems hol hdl ?_)));simp only[hx,Int.toNat_natCast];exact wpAny_bind (wpAny_setField ho hd (by simp) (wpAny_pure ⟨_,rfl,wpAny_pure (hQ _ ⟨_,Heap.get?_update_self _ ho (Obj.isFreed_of_fields (Obj.data_mapFields hd _)),(Obj.cls_mapFields ..).trans hc,by rw[Obj.data_mapFields hd];simp[rawInt]⟩ (Heap.SameBut.update ..))⟩))
theorem YEk {it l:Addr}{i:Nat}{items:Array Value}{x:Value}{Q:Option Value→Shared→Prop} (hit:YDc s.heap it l i) (hl:IsTup s.heap l items) (hx:items[i]?=some x) (hz:(items.size:Int) < 2 ^ 63)
  (hQ:∀h',YDc h' it l ((i:Int) - 1)→Heap.SameBut it s.heap h'→Q (some x) { s with heap:=h',toks:=s.toks + 1 }):wpAny (model prog w) A (pyNext (.ref it)) Q E s:=by
 obtain⟨o,ho,hc,hd⟩:=id hit;have hT:s.TypeIs (.ref it) "reversed":=⟨o,ho,hc⟩;unfold pyNext;refine wpAny_bind (wpAny_attempt (wpAny_callSpecial?_slot (name:=Str.ofString "__next__") hT YAj (wpAny_call_entry YAj hT YIG ?_ (YIH _))));unfold Builtin.«reversed.__next__»;refine wpAny_bind (wpAny_pure (wpAny_bind (wpAny_field ho hd (x:=.ref l) rfl (wpAny_bind (wpAny_field ho hd (x:=.int i 0) rfl ?_)))));show wpAny _ _ (if ((i:Nat):Int) < 0 then _ else _) _ _ s;rw[if_neg (by omega)];refine wpAny_bind (wpAny_specialOf hl.typeIs YKU ?_);show wpAny _ _ (mkInt (i:Int) >>= _) _ _ s;refine wpAny_bind (wpAny_mkInt ?_);have hlt:i < items.size:=(Array.getElem?_eq_some_iff.mp hx).1;have hsi:seqIndex? (i:Int) items.size=some i:=by
  unfold seqIndex?;simp;omega
 refine wpAny_bind (wpAny_attempt (getItem_tuple (s:={ s with toks:=s.toks + 1 }) hl (by omega) (by omega) hsi hx ?_));refine wpAny_bind (wpAny_field (s:={ s with toks:=s.toks + 1 }) ho hd (x:=.int i 0) rfl ?_);exact wpAny_bind (wpAny_setField (s:={ s with toks:=s.toks + 1 }) ho hd (by simp) (wpAny_pure ⟨_,rfl,wpAny_pure (hQ _ ⟨_,Heap.get?_update_self _ ho (Obj.isFreed_of_fields (Obj.data_mapFields hd _)),(Obj.cls_mapFields ..).trans hc,by rw[Obj.data_mapFields hd];simp[rawInt]⟩ (Heap.SameBut.update ..))⟩))
theorem YKW {it l:Addr}{Q:Option Value→Shared→Prop} (hh:A.handled=none) (hit:RevL s.heap it l (-1)) (hQ:∀h',Heap.ExtBut it s.heap h'→Q none { s with heap:=h' }):wpAny (model prog w) A (pyNext (.ref it)) Q E s:=by
 obtain⟨o,ho,hc,hd⟩:=id hit;have hT:s.TypeIs (.ref it) "list_reverseiterator":=⟨o,ho,hc⟩;unfold pyNext;refine wpAny_bind (wpAny_attempt (wpAny_callSpecial?_slot (name:=Str.ofString "__next__") hT YAi (wpAny_call_entry YAi hT YIE ?_ (YIF _))));unfold Builtin.«list_reverseiterator.__next__»;refine wpAny_bind (wpAny_pure (wpAny_bind (wpAny_field ho hd (x:=.int (-1) 0) rfl ?_)));show wpAny _ _ (if (-1:Int) < 0 then _ else _) _ _ s;rw[if_pos (by decide)];refine wpAny_bind (wpAny_rule (wpAny_bind (YII (A:=A.in1) hh fun e h' k ty=>?_)));exact wpAny_bind (wpAny_isInstance (b:=true) ty isSubtype_stop (wpAny_pure (hQ h' fun b o _ q=>k b o q)))
theorem YF8 {it l:Addr}{Q:Option Value→Shared→Prop} (hh:A.handled=none) (hit:YDc s.heap it l (-1)) (hQ:∀h',Heap.ExtBut it s.heap h'→Q none { s with heap:=h' }):wpAny (model prog w) A (pyNext (.ref it)) Q E s:=by
 obtain⟨o,ho,hc,hd⟩:=id hit;have hT:s.TypeIs (.ref it) "reversed":=⟨o,ho,hc⟩;unfold pyNext;refine wpAny_bind (wpAny_attempt (wpAny_callSpecial?_slot (name:=Str.ofString "__next__") hT YAj (wpAny_call_entry YAj hT YIG ?_ (YIH _))));unfold Builtin.«reversed.__next__»;refine wpAny_bind (wpAny_pure (wpAny_bind (wpAny_field ho hd (x:=.ref l) rfl (wpAny_bind (wpAny_field ho hd (x:=.int (-1) 0) rfl ?_)))));show wpAny _ _ (if (-1:Int) < 0 then _ else _) _ _ s;rw[if_pos (by decide)];refine wpAny_bind (wpAny_rule (wpAny_bind (show wpAny _ _ (setField (.ref it) 1 (rawInt (-1)) >>= fun _=>setField (.ref it) 0 Value.none) _ _ s from wpAny_bind (wpAny_setField ho hd (by simp) ?_))));have ho2:=Heap.get?_update_self (h:=s.heap) (a:=it) (o:=o) (fun o=>o.mapFields fun vs=>vs.set! 1 (rawInt (-1))) ho (Obj.isFreed_of_fields (Obj.data_mapFields hd _));have hd2:(Obj.mapFields (fun vs=>vs.set! 1 (rawInt (-1))) o).data=.fields #[.ref l,rawInt (-1)]:=by rw[Obj.data_mapFields hd];simp
 have b1:Heap.SameBut it s.heap (s.heap.update it fun o=>Obj.mapFields (fun vs=>vs.set! 1 (rawInt (-1))) o):=Heap.SameBut.update ..;refine wpAny_setField (s:={ s with heap:=s.heap.update it fun o=>Obj.mapFields (fun vs=>vs.set! 1 (rawInt (-1))) o }) ho2 hd2 (by simp) (wpAny_bind (YII (A:=A.in1) hh fun e h' k ty=>?_));refine wpAny_bind (wpAny_isInstance (b:=true) ty isSubtype_stop (wpAny_pure (hQ h' fun b o hb q=>k b o ?_)));exact((Heap.SameBut.update ..).2 b hb).trans ((b1.2 b hb).trans q)
end
end L2
namespace L2
open PySem PySem.Spec PyProof.Rows
section
variable {prog:Program}{w:World}{A:Around}{E:Value→Shared→Prop}{s:Shared}
end
end L2
namespace L2
open PySem PySem.Spec PyProof.Rows
def Itrl (K:W.Frag) (a:Addr) (n:Nat):It:=
 ⟨fun i H=>∃xs,SqL K H a xs∧xs.length=n∧i < n,fun i H x H'=>H'=H∧∀xs,SqL K H a xs→xs[n - 1 - i]?=some x,fun i _=>i=n⟩
def Itrt (K:W.Frag) (a:Addr) (n:Nat):It:=
 ⟨fun i H=>∃xs,SqT K H a xs∧xs.length=n∧i < n,fun i H x H'=>H'=H∧∀xs,SqT K H a xs→xs[n - 1 - i]?=some x,fun i _=>i=n⟩
theorem YJN {P:Program}{w:World}{K:W.Frag}{tg:Expr} (a it:Addr) (n:Nat):YDF P w K tg (Itrl K a n) [it] it (fun i h=>RevL h it a ((n:Int) - 1 - i)) where
 mem:=by simp
 obj:=fun i h st b hb=>by
  have e:b=it:=by simpa using hb
  subst e;obtain⟨o,e,c,d⟩:=st;exact⟨o,e,fun v z=>by rw[d]at z;cases z⟩
 keep:=fun i h h' st k=>by
  obtain⟨o,e,r⟩:=st;exact⟨o,k it (by simp) o e,r⟩
 item:=by
  intro X hP hw hK hc i pins s σ H E I hf st hg;subst hP hw hK;obtain⟨xs,hq,hn,hi⟩:=hg;obtain⟨its,rv,p,hz⟩:=I.list hq;have hx:xs[n - 1 - i]?=some xs[n - 1 - i]:=YLF (by omega);obtain⟨u,hu,ru⟩:=rv.get hx;obtain⟨f0,f1,f2,f3,f4,f5⟩:=hf it (by simp);have e:(n:Int) - 1 - (i:Nat)=((n - 1 - i:Nat):Int):=by omega
  rw[e]at st;refine YJM st p.isList (x:=u) (by simpa using hu) fun h' st' sb=>?_
  have e2:((n - 1 - i:Nat):Int) - 1=(n:Int) - 1 - ((i + 1:Nat):Int):=by omega
  rw[e2]at st';have I1:Inv X pins σ H { s with heap:=h' }:=I.turned (t':=s.toks) (fun b o hb e=>(sb.2 b hb).trans e) f0 f1 f3 f4 f5;obtain⟨o,eo,c,d⟩:=id st';exact⟨u,rfl,YEO (s:={ s with heap:=h' }) eo c d (by decide) ⟨_,H,I1,ru,⟨rfl,fun ys hy=>by rw[I.list_inj hy hq];exact hx⟩,st',fun b hb=>(hf b hb).1⟩⟩
 done:=by
  intro X hP hw hK hc i pins s σ H E I hf st hg;subst hP hw hK hg;obtain⟨f0,f1,f2,f3,f4,f5⟩:=hf it (by simp);have e:((i:Nat):Int) - 1 - (i:Nat)=-1:=by omega
  rw[e]at st;exact YKW (I.ok.hd hc) st fun h' eb=>⟨rfl,I.turned (t':=s.toks) (fun b o hb e=>eb b o hb e) f0 f1 f3 f4 f5⟩
 self:=fun _ _ _ _ _ st h=>YEj st h
theorem YJO {P:Program}{w:World}{K:W.Frag}{tg:Expr} (a it:Addr) (n:Nat):YDF P w K tg (Itrt K a n) [it] it (fun i h=>YDc h it a ((n:Int) - 1 - i)) where
 mem:=by simp
 obj:=fun i h st b hb=>by
  have e:b=it:=by simpa using hb
  subst e;obtain⟨o,e,c,d⟩:=st;exact⟨o,e,fun v z=>by rw[d]at z;cases z⟩
 keep:=fun i h h' st k=>by
  obtain⟨o,e,r⟩:=st;exact⟨o,k it (by simp) o e,r⟩
 item:=by
  intro X hP hw hK hc i pins s σ H E I hf st hg;subst hP hw hK;obtain⟨xs,hq,hn,hi⟩:=hg;obtain⟨its,rv,p,hz⟩:=I.tuple hq;have hx:xs[n - 1 - i]?=some xs[n - 1 - i]:=YLF (by omega);obtain⟨u,hu,ru⟩:=rv.get hx;obtain⟨f0,f1,f2,f3,f4,f5⟩:=hf it (by simp);have e:(n:Int) - 1 - (i:Nat)=((n - 1 - i:Nat):Int):=by omega
  rw[e]at st;have hlen:=rv.length;have uy:=YAA;refine YEk st p (x:=u) (by simpa using hu) (by rw[YLL];omega) fun h' st' sb=>?_
  have e2:((n - 1 - i:Nat):Int) - 1=(n:Int) - 1 - ((i + 1:Nat):Int):=by omega
  rw[e2]at st';have I1:Inv X pins σ H { s with heap:=h',toks:=s.toks + 1 }:=I.turned (t':=s.toks + 1) (fun b o hb e=>(sb.2 b hb).trans e) f0 f1 f3 f4 f5;obtain⟨o,eo,c,d⟩:=id st';exact⟨u,rfl,YEO (s:={ s with heap:=h',toks:=s.toks + 1 }) eo c d (by decide) ⟨_,H,I1,ru,⟨rfl,fun ys hy=>by rw[I.tuple_inj hy hq];exact hx⟩,st',fun b hb=>(hf b hb).1⟩⟩
 done:=by
  intro X hP hw hK hc i pins s σ H E I hf st hg;subst hP hw hK hg;obtain⟨f0,f1,f2,f3,f4,f5⟩:=hf it (by simp);have e:((i:Nat):Int) - 1 - (i:Nat)=-1:=by omega
  rw[e]at st;exact YF8 (I.ok.hd hc) st fun h' eb=>⟨rfl,I.turned (t':=s.toks) (fun b o hb e=>eb b o hb e) f0 f1 f3 f4 f5⟩
 self:=fun _ _ _ _ _ st h=>YA1 st h
section
variable {X:Cx}{tg:Expr}
def iRevL (K:W.Frag) (ta:TA):TI:=fun σ H R=>ta σ H fun vs H1=>∃a xs,vs=[.ref a]∧Rd H1 a (.lst xs)∧R (Itrl K a xs.length) H1
def iRevT (K:W.Frag) (ta:TA):TI:=fun σ H R=>ta σ H fun vs H1=>∃a xs,vs=[.ref a]∧SqT K H1 a xs∧R (Itrt K a xs.length) H1
theorem pi_revL (K:W.Frag) (hK:X.K=K) {a:Expr}{ta:TA}{p pos:Pos} (hg:Gl X "reversed") (hm:X.mg "reversed"=none) (ha:PA X [a] ta) (hs:starEach [a] X.env=[(false,eval a X.env)]:=by rfl):
  PI X tg (.Call (.Name "reversed" p) [a] [] pos) (iRevL K ta):=by
 subst hK;intro pins s σ H R I h;refine Call_ (XE I hg hm PyProof.Rows.Boot.«reversed» (PyProof.Rows.callWith_type1 (thn (ha pos pins s σ H _ I h) fun us s1 ⟨vs,H1,I1,r1,q1⟩=>?_) hs rfl));obtain⟨l,xs,rfl,hq,q⟩:=q1;obtain⟨u,rfl,ru⟩:=Jc r1;cases ru;obtain⟨hz,its,n,rv,hl⟩:=(show Y8 X.prog X.w H1 s1.heap l (.lst xs) from hq.ok I1.hok);have hlen:xs.length=its.length:=rv.length;refine YD9 hl fun h' hit hk=>?_
 have I2:Inv X pins σ H1 { s1 with heap:=h' }:=I1.kept (t':=s1.toks) hk;refine YEj hit ?_;refine⟨s1.heap.objs.size,[s1.heap.objs.size],_,_,H1,rfl,I2,YJN l _ xs.length,by simpa [hlen] using hit,fun b hb=>?_,q⟩;have eb:b=s1.heap.objs.size:=by simpa using hb
 subst eb;exact I1.fpOk (YLG _) (I1.hok.fresh (YLG _))
theorem YIJ (K:W.Frag) (hK:X.K=K) {a:Expr}{ta:TA}{p pos:Pos} (hg:Gl X "reversed") (hm:X.mg "reversed"=none) (ha:PA X [a] ta) (hs:starEach [a] X.env=[(false,eval a X.env)]:=by rfl):
  PI X tg (.Call (.Name "reversed" p) [a] [] pos) (iRevT K ta):=by
 subst hK;intro pins s σ H R I h;refine Call_ (XE I hg hm PyProof.Rows.Boot.«reversed» (PyProof.Rows.callWith_type1 (thn (ha pos pins s σ H _ I h) fun us s1 ⟨vs,H1,I1,r1,q1⟩=>?_) hs rfl));obtain⟨l,xs,rfl,hq,q⟩:=q1;obtain⟨u,rfl,ru⟩:=Jc r1;cases ru;obtain⟨its,rv,pl,hz⟩:=I1.tuple hq;have hlen:xs.length=its.length:=rv.length;have uy:=YAA;refine YAk pl (by rw[YLL];omega) fun h' hit hk=>?_
 have I2:Inv X pins σ H1 { s1 with heap:=h',toks:=s1.toks + 1 + 1 }:=I1.kept (t':=s1.toks + 1 + 1) hk;refine YA1 hit ?_;refine⟨s1.heap.objs.size,[s1.heap.objs.size],_,_,H1,rfl,I2,YJO l _ xs.length,by simpa [hlen] using hit,fun b hb=>?_,q⟩;have eb:b=s1.heap.objs.size:=by simpa using hb
 subst eb;exact I1.fpOk (YLG _) (I1.hok.fresh (YLG _))
end
theorem YKX {xs:List V}{i:Nat}{x:V} (hi:i < xs.length) (h:xs[xs.length - 1 - i]?=some x):xs.reverse[i]?=some x:=by rw[List.getElem?_reverse hi];exact h
theorem YKY {K:W.Frag}{a:Addr}{xs:List V}{g:TG}{tb:TS}{D:YAY}{σ:St}{H:Hp} (Pv:Nat→St→Hp→Prop) (h0:Pv 0 σ H) (hl:∀i σ H,i≤xs.length→Pv i σ H→SqL K H a xs)
  (hs:∀i x σ H,xs.reverse[i]?=some x→Pv i σ H→g x σ H fun σ2 H2=>tb { D with nx:=Pv (i + 1),ct:=Pv (i + 1),bk:=D.nx } σ2 H2) (hd:∀σ H,Pv xs.length σ H→D.nx σ H):
  ∃W:Nat→Nat→St→Hp→Prop,(∃m,W 0 m σ H)∧∀i m σ H,W i m σ H→
   ((Itrl K a xs.length).stop i H∧D.nx σ H)∨((Itrl K a xs.length).go i H∧∃N:St→Hp→Prop,(∀σ' H',N σ' H'→∃m',m' < m∧W (i + 1) m' σ' H')∧∀x H',(Itrl K a xs.length).yld i H x H'→g x σ H' fun σ2 H2=>tb { D with nx:=N,ct:=N,bk:=D.nx } σ2 H2):=by
 refine⟨fun i m σ H=>m=xs.length - i∧i≤xs.length∧Pv i σ H,⟨xs.length,by simp,YLN _,h0⟩,?_⟩;rintro i m σ H ⟨rfl,hi,p⟩;have q:=hl i σ H hi p
 by_cases hlt:i < xs.length
 ·refine .inr ⟨⟨xs,q,rfl,hlt⟩,Pv (i + 1),fun σ' H' p'=>⟨xs.length - (i + 1),by omega,rfl,hlt,p'⟩,fun x H' y=>?_⟩;obtain⟨e,y⟩:=y;subst e;exact hs i x σ _ (YKX hlt (y xs q)) p
 ·have e:i=xs.length:=by omega
  subst e;exact .inl ⟨rfl,hd σ H p⟩
theorem YF9 {K:W.Frag}{a:Addr}{xs:List V}{g:TG}{tb:TS}{D:YAY}{σ:St}{H:Hp} (Pv:Nat→St→Hp→Prop) (h0:Pv 0 σ H) (hl:∀i σ H,i≤xs.length→Pv i σ H→SqT K H a xs)
  (hs:∀i x σ H,xs.reverse[i]?=some x→Pv i σ H→g x σ H fun σ2 H2=>tb { D with nx:=Pv (i + 1),ct:=Pv (i + 1),bk:=D.nx } σ2 H2) (hd:∀σ H,Pv xs.length σ H→D.nx σ H):
  ∃W:Nat→Nat→St→Hp→Prop,(∃m,W 0 m σ H)∧∀i m σ H,W i m σ H→
   ((Itrt K a xs.length).stop i H∧D.nx σ H)∨((Itrt K a xs.length).go i H∧∃N:St→Hp→Prop,(∀σ' H',N σ' H'→∃m',m' < m∧W (i + 1) m' σ' H')∧∀x H',(Itrt K a xs.length).yld i H x H'→g x σ H' fun σ2 H2=>tb { D with nx:=N,ct:=N,bk:=D.nx } σ2 H2):=by
 refine⟨fun i m σ H=>m=xs.length - i∧i≤xs.length∧Pv i σ H,⟨xs.length,by simp,YLN _,h0⟩,?_⟩;rintro i m σ H ⟨rfl,hi,p⟩;have q:=hl i σ H hi p
 by_cases hlt:i < xs.length
 ·refine .inr ⟨⟨xs,q,rfl,hlt⟩,Pv (i + 1),fun σ' H' p'=>⟨xs.length - (i + 1),by omega,rfl,hlt,p'⟩,fun x H' y=>?_⟩;obtain⟨e,y⟩:=y;subst e;exact hs i x σ _ (YKX hlt (y xs q)) p
 ·have e:i=xs.length:=by omega
  subst e;exact .inl ⟨rfl,hd σ H p⟩
end L2
namespace FR
open PySem L2
inductive RowsG (g:YT):List Str→List Nat→Prop
 |nil:RowsG g [] []
 |cons {ns:List Str}{k:Nat}{r:ZW}{row:List Nat}:g[k]?=some r→RowsG g (unQ r.2.1 ++ ns) row→RowsG g (r.1 :: ns) (k :: row)
structure EnOk (g:YT) (e:Sz):Prop where
 nd:(e.map (·.1)).Nodup
 ent:∀(i:Nat) (z:Str) (k:Int),e[i]?=some (z,k)→∃r,0≤k∧g[k.toNat]?=some r∧r.1=z∧∀p∈r.2.1,isQ p=false→p∈(e.take i).map (·.1)
def InK (e:Sz) (r:ZW):Prop:=∀p∈r.2.1,isQ p=false→p∈e.map (·.1)
theorem YEl {s:Sz}{z:Str} (h:z∈s.map (·.1)):∃v,look s z=some v:=by
 cases e:look s z with
 |some v=>exact⟨v,rfl⟩
 |none=>exact absurd h (YEi e)
def rank:Sz→Str→Nat
 |[],_=>0
 |p :: s,z=>if p.1=z then 0 else rank s z + 1
def wt (e:Sz) (z:Str):Nat:=7 ^ (rank e z + 1)
def YBu (g:YT) (e:Sz) (z:Str) (k:Nat):Bool:=match g[k]? with
 |none=>false
 |some r=>decide (r.1=z) && r.2.1.all fun p=>isQ p || (look e p).isSome
def YDd (g:YT) (e:Sz) (z:Str) (n:Nat):List Nat:=(List.range n).filter (YBu g e z)
theorem YJP {g:YT}{e:Sz}{z:Str}{n k:Nat} (h:k∈YDd g e z n):∃r,g[k]?=some r∧r.1=z∧InK e r:=by
 obtain⟨_,hb⟩:=List.mem_filter.mp h;unfold YBu at hb;cases hr:g[k]? with
 |none=>rw[hr]at hb;cases hb
 |some r=>
  rw[hr]at hb;have hb:(decide (r.1=z) && r.2.1.all fun p=>isQ p || (look e p).isSome)=true:=hb;rw[YLJ,decide_eq_true_eq]at hb;refine⟨r,rfl,hb.1,fun p hp hq=>?_⟩;have:=List.all_eq_true.mp hb.2 p hp;rw[hq,Bool.false_or]at this;obtain⟨v,hv⟩:=Option.isSome_iff_exists.mp this;exact List.mem_map.mpr ⟨_,YF4 hv,rfl⟩
theorem YKZ {g:YT}{e:Sz}{z:Str}{k:Nat}{r:ZW} (hr:g[k]?=some r) (hz:r.1=z) (hin:InK e r):k∈YDd g e z g.length:=by
 have hlt:=(List.getElem?_eq_some_iff.mp hr).1;refine List.mem_filter.mpr ⟨List.mem_range.mpr hlt,?_⟩;unfold YBu;rw[hr];show(decide (r.1=z) && r.2.1.all fun p=>isQ p || (look e p).isSome)=true;rw[decide_eq_true hz,Bool.true_and,List.all_eq_true];intro p hp;cases hq:isQ p with
 |true=>rfl
 |false=>
  obtain⟨v,hv⟩:=YEl (hin p hp hq);rw[hv];rfl
end FR
namespace L2
open PySem PySem.Spec PyProof.Rows
section
variable {prog:Program}{w:World}{A:Around}{E:Value→Shared→Prop}{s:Shared}
end
section
variable {X:Cx}{elts:List Expr}{k:Nat}{tpos:Pos}
end
theorem YKa {K:W.Frag}{a:Addr}{xs:List V}{g:TG}{tb:TS}{D:YAY}{σ:St}{H:Hp} (Pv:Nat→St→Hp→Prop) (h0:Pv 0 σ H) (hl:∀i σ H,i≤xs.length→Pv i σ H→SqL K H a xs)
  (hs:∀i x T σ H,xs[i]?=some x→H T=none→Pv i σ H→g (.ref T) σ (upd H T (.tup [.int (i:Nat),x])) fun σ2 H2=>tb { D with nx:=Pv (i + 1),ct:=Pv (i + 1),bk:=D.nx } σ2 H2) (hd:∀σ H,Pv xs.length σ H→D.nx σ H):
  ∃W:Nat→Nat→St→Hp→Prop,(∃m,W 0 m σ H)∧∀i m σ H,W i m σ H→
   ((Ite K a).stop i H∧D.nx σ H)∨((Ite K a).go i H∧∃N:St→Hp→Prop,(∀σ' H',N σ' H'→∃m',m' < m∧W (i + 1) m' σ' H')∧∀x H',(Ite K a).yld i H x H'→g x σ H' fun σ2 H2=>tb { D with nx:=N,ct:=N,bk:=D.nx } σ2 H2):=by
 refine⟨fun i m σ H=>m=xs.length - i∧i≤xs.length∧Pv i σ H,⟨xs.length,by simp,YLN _,h0⟩,?_⟩;rintro i m σ H ⟨rfl,hi,p⟩;have q:=hl i σ H hi p
 by_cases hlt:i < xs.length
 ·refine .inr ⟨⟨xs,xs[i],q,by simp[hlt]⟩,Pv (i + 1),fun σ' H' p'=>⟨xs.length - (i + 1),by omega,rfl,hlt,p'⟩,fun x H' y=>?_⟩;obtain⟨T,hT,rfl,k⟩:=y;obtain⟨x,hx,rfl⟩:=k xs q;exact hs i x T σ H hx hT p
 ·have e:i=xs.length:=by omega
  subst e;exact .inl ⟨⟨xs,q,YLG _⟩,hd σ H p⟩
end L2
namespace L2
open PySem PySem.Spec PyProof.Rows
theorem YKb:typeLookup (.type "reversed") "__len__"=pure none:=by rw[typeLookup_type,builtinLookup_eq_fast];kernel_rfl
theorem rv_hint:typeLookup (.type "reversed") "__length_hint__"=pure (some (.builtin "reversed.__length_hint__")):=by rw[typeLookup_type,builtinLookup_eq_fast];kernel_rfl
theorem YGA:Slot "reversed" "__length_hint__" "reversed.__length_hint__":=.of (owner:="reversed") (n:="__length_hint__") (by rw[typeLookup_type,builtinLookup_eq_fast];kernel_rfl) (by decide +kernel) (by decide +kernel) (by decide +kernel) (by first |exact .inl (by decide +kernel) |exact .inr (by decide +kernel)) (by rw[isSubtype_type];kernel_rfl)
theorem rv_entH:entryFor table "reversed.__length_hint__"=some Builtin.«reversed.__length_hint__»:=entryFor_of_tree (by kernel_rfl)
theorem rv_argH (a:Value):argsOk "reversed.__length_hint__" ⟨[a],[]⟩:=by unfold argsOk;kernel_rfl
section
variable {prog:Program}{w:World}{A:Around}{E:Value→Shared→Prop}{s:Shared}
theorem YHL (hh:A.handled=none) (it l:Addr) (hne:l≠it) (items:Array Value) (hz:(items.size:Int) < 2 ^ 63):
  Walks prog w A it [it,l] [it] items.size (fun i v=>items[items.size - 1 - i]?=some v) (fun i h=>YDc h it l ((items.size:Int) - 1 - i)∧IsTup h l items) where
 sub:=fun b hb=>by simp at hb;simp[hb]
 frame:=fun i h h' st hk=>by
  obtain⟨⟨o,a,b,c⟩,⟨o2,a2,b2⟩⟩:=st;exact⟨⟨o,hk it (by simp) o a,b,c⟩,⟨o2,hk l (by simp) o2 a2,b2⟩⟩
 item:=fun i s Q E hi st hQ=>by
  have e:((items.size:Int) - 1 - (i:Nat))=((items.size - 1 - i:Nat):Int):=by omega
  rw[e]at st;refine YEk st.1 st.2 (x:=items[items.size - 1 - i]) (by simp) hz fun h' hit' hs'=>?_
  obtain⟨o2,a2,b2⟩:=st.2;refine hQ _ h' (s.toks + 1) (by simp) ⟨?_,o2,(hs'.2 l hne).trans a2,b2⟩ fun b o hb q=>hs'.extBut b o (fun z=>hb (by simp[z])) q
  have e2:((items.size - 1 - i:Nat):Int) - 1=(items.size:Int) - 1 - ((i + 1:Nat):Int):=by omega
  rw[e2]at hit';exact hit'
 done:=fun s Q E st hQ=>by
  have e:((items.size:Int) - 1 - (items.size:Nat))=-1:=by omega
  rw[e]at st;exact YF8 hh st.1 fun h' he'=>hQ h' s.toks fun b o hb q=>he' b o (fun z=>hb (by simp[z])) q
 self:=fun _ _ _ _ st hQ=>YA1 st.1 hQ
theorem YHM {it l:Addr}{items:Array Value}{Q:Value→Shared→Prop} (hit:YDc s.heap it l ((items.size:Int) - 1)) (hl:IsTup s.heap l items) (hz:(items.size:Int) < 2 ^ 63)
  (h:∀t tk,Q (.int (items.size:Int) t) { s with toks:=tk }):wpAny (model prog w) A (call (.builtin "reversed.__length_hint__") [.ref it]) Q E s:=by
 obtain⟨o,ho,hc,hd⟩:=id hit;have hT:s.TypeIs (.ref it) "reversed":=⟨o,ho,hc⟩;refine wpAny_call_entry YGA hT rv_entH ?_ (rv_argH _);unfold Builtin.«reversed.__length_hint__»;refine wpAny_bind (wpAny_pure (wpAny_bind (wpAny_field ho hd (x:=.ref l) rfl ?_)));refine(show wpAny _ _ (if (Value.ref l == Value.none)=true then _ else _) _ _ s from ?_);rw[if_neg (show ¬(Value.ref l == Value.none)=true from YLT)];refine wpAny_bind (len_tuple hl hz ?_);refine wpAny_bind (wpAny_pure (wpAny_bind (wpAny_field (s:={ s with toks:=s.toks + 1 + 1 }) ho hd (x:=.int ((items.size:Int) - 1) 0) rfl ?_)));refine(show wpAny _ _ (if (items.size:Int) < (items.size:Int) - 1 + 1 then _ else _) _ _ _ from ?_);rw[if_neg (by omega)];have e:(items.size:Int) - 1 + 1=(items.size:Int):=by omega
 rw[e];exact wpAny_bind (wpAny_mkInt (wpAny_pure ⟨_,rfl,h _ _⟩))
theorem YJQ {it l:Addr}{items:Array Value}{Q:Bool→Shared→Prop} (hit:YDc s.heap it l ((items.size:Int) - 1)) (hl:IsTup s.heap l items) (hz:items.size≤sizeLine) (h:∀b tk,Q b { s with toks:=tk }):
  wpAny (model prog w) A (Builtin.List.listLengthHint (.ref it)) Q E s:=by
 obtain⟨o,ho,hc,hd⟩:=id hit;have hT:s.TypeIs (.ref it) "reversed":=⟨o,ho,hc⟩;unfold Builtin.List.listLengthHint;refine wpAny_bind (wpAny_specialOf hT YKb ?_);show wpAny _ _ (specialOf (Value.ref it) (Str.ofString "__length_hint__") >>= _) _ _ _;refine wpAny_bind (wpAny_specialOf hT rv_hint ?_);generalize hid:("reversed.__length_hint__":String)=id0
 wp_delta;rw[show splitId id0=some ("reversed","__length_hint__") from by subst hid;decide +kernel];subst hid
 refine wpAny_bind (wpAny_isInstance (T:="reversed") (b:=true) hT (by rw[isSubtype_type];kernel_rfl) ?_);rw[if_neg (by decide)];refine(show wpAny _ _ (if _ then _ else _) _ _ _ from ?_);rw[if_neg (by decide)];refine wpAny_bind (wpAny_rule (wpAny_bind (wpAny_of_eq (YGA.bind (.ref it)) ?_)));refine wpAny_bind (wpAny_attempt (YHM hit hl (by rw[sizeLine_eq]at hz;omega) fun t tk=>?_));have f1:Builtin.List.listFitsIndex (items.size:Int)=true:=by
  unfold Builtin.List.listFitsIndex;rw[sizeLine_eq]at hz;rw[YLJ,decide_eq_true_eq,decide_eq_true_eq];omega
 have f2:Builtin.List.listTooLong (items.size:Int).toNat=false:=by
  unfold Builtin.List.listTooLong;exact decide_eq_false (by rw[Int.toNat_natCast];omega)
 have f3:¬(items.size:Int) < 0:=by omega
 revert f1 f2 f3;generalize (items.size:Int)=n;intro f1 f2 f3;refine(show wpAny _ _ (asInt? (.int n t) >>= _) _ _ _ from wpAny_bind (wpAny_pure ?_));refine wpAny_ite_split (fun z=>absurd z (by rw[f1];decide)) fun _=>?_
 refine wpAny_ite_split (fun z=>absurd z f3) fun _=>?_
 refine wpAny_ite_split (fun z=>absurd z (by rw[f2];decide)) fun _=>?_
 exact wpAny_pure (h _ _)
theorem YDe {it l:Addr}{items:Array Value}{Q:Value→Shared→Prop} (hh:A.handled=none) (hit:YDc s.heap it l ((items.size:Int) - 1)) (hl:IsTup s.heap l items) (hne:l≠it) (hn:items.size≤sizeLine)
  (hQ:∀h' tk acc' c',(∀b o,b≠it→s.heap.get? b=some o→h'.get? b=some o)→h'.get? s.heap.objs.size=some { cls:=.type "list",dict:=none,data:=.seq acc' c',slots:=#[] }→
   ItemsOf (fun i v=>items[items.size - 1 - i]?=some v) acc' items.size→Q (.ref s.heap.objs.size) { s with heap:=h',toks:=tk }):wpAny (model prog w) A (call (.type "list") [.ref it]) Q E s:=by
 have itlt:it < s.heap.objs.size:=by obtain⟨o,ho,_⟩:=hit;exact Heap.lt_size ho
 have llt:l < s.heap.objs.size:=hl.lt;have u6:(items.size:Int) < 2 ^ 63:=by rw[sizeLine_eq]at hn;omega
 refine callType_codes (Q₁:=fun obj t=>obj=.ref s.heap.objs.size∧t={ s with heap:=s.heap.push { cls:=.type "list",data:=.seq #[] } }) F.called_list (F.typeCall_list_1 _) F.entry_list_init (code_list_new _ ⟨rfl,rfl⟩) fun obj t ht=>?_
 obtain⟨rfl,rfl⟩:=ht;have g0:(s.heap.push { cls:=.type "list",data:=.seq #[] }).get? s.heap.objs.size=some { cls:=.type "list",data:=.seq #[] }:=Heap.get?_push_size _ rfl;refine⟨⟨_,g0,rfl⟩,F.args_list_init_2 _ _,?_⟩;show wpAny _ _ (Builtin.List.listItems (.ref s.heap.objs.size) >>= fun old=>Builtin.List.listUpdate (.ref s.heap.objs.size) (fun _=>#[]) >>= fun _=>letGo old.toList.reverse >>= fun _=>Builtin.List.listExtendWith (.ref s.heap.objs.size) (.ref it) .none) _ _ _;refine wpAny_bind ?_;unfold Builtin.List.listItems;refine wpAny_bind (wpAny_seqItems g0 rfl (wpAny_pure ?_));refine wpAny_bind (show wpAny _ _ (updateSeq s.heap.objs.size (fun _=>#[])) _ _ _ from wpAny_updateSeq g0 rfl ?_);have g1:=Heap.get?_update_self (Obj.mapSeq (fun _=>(#[]:Array Value))) g0 rfl;have k1:∀b o,s.heap.get? b=some o→((s.heap.push { cls:=.type "list",data:=.seq #[] }).update s.heap.objs.size (Obj.mapSeq (fun _=>(#[]:Array Value)))).get? b=some o:=fun b o e=>
  (Heap.get?_update_other _ _ (Nat.ne_of_gt (Heap.lt_size e))).trans (Heap.get?_push_of_some _ e)
 have tup_at:∀{h1:Heap},(∀b o,s.heap.get? b=some o→h1.get? b=some o)→YDc h1 it l ((items.size:Int) - 1)∧IsTup h1 l items:=fun{h1} k=>by
  obtain⟨o,ho,r⟩:=hit;obtain⟨o2,ho2,r2⟩:=hl;exact⟨⟨o,k it o ho,r⟩,⟨o2,k l o2 ho2,r2⟩⟩
 refine wpAny_bind (wpAny_letGo ?_);revert g1 k1;generalize (s.heap.push { cls:=.type "list",data:=.seq #[] }).update s.heap.objs.size (Obj.mapSeq (fun _=>(#[]:Array Value)))=h1;intro g1 k1;obtain⟨hit1,hl1⟩:=tup_at k1;have hT:Shared.TypeIs { s with heap:=h1 } (.ref it) "reversed":=by obtain⟨o,ho,hc,_⟩:=hit1;exact⟨o,ho,hc⟩
 have W:=(YHL (prog:=prog) (w:=w) (A:=A.in1.in1) hh it l hne items u6).toS;have nf:s.heap.objs.size∉[it,l]:=by simp only[List.mem_cons,List.not_mem_nil,or_false,not_or];exact⟨Nat.ne_of_gt itlt,Nat.ne_of_gt llt⟩
 have key:∀(h2:Heap) (c1 tk:Nat),(∀b o,s.heap.get? b=some o→h2.get? b=some o)→h2.get? s.heap.objs.size=some { cls:=.type "list",data:=.seq #[] c1 }→
   codeAny (model prog w) A.in1 (.builtin "list.extend.loop" ⟨[.ref s.heap.objs.size,.ref it,.none],[]⟩) (wants (fun r s₂=>r=Value.none∧Q (Value.ref s.heap.objs.size) s₂) E) { s with heap:=h2,toks:=tk }:=by
  intro h2 c1 tk k2 g2;obtain⟨hit2,hl2⟩:=tup_at k2;refine codeAny_extend_loopS W hn _ nf _ items.size 0 _ _ _ rfl (YLN _) ⟨by simpa using hit2,hl2⟩ g2 (ItemsOf.nil _) fun s' acc' c' hm hS' hacc=>?_
  rw[Moved.eq_with hm];refine⟨rfl,hQ s'.heap s'.toks acc' c' (fun b o hb e=>hm.heap b o (fun hmem=>?_) (k2 b o e)) hS' hacc⟩;rcases List.mem_cons.mp hmem with z |hmem
  ·rw[z]at e;exact Nat.lt_irrefl _ (Heap.lt_size e)
  ·exact hb (List.mem_singleton.mp hmem)
 unfold Builtin.List.listExtendWith;refine wpAny_bind (wpAny_typeOf hT ?_);have ns:Builtin.List.listSameRef (.ref s.heap.objs.size) (.ref it)=false:=by simp[Builtin.List.listSameRef,Nat.ne_of_gt itlt]
 rw[if_neg (by rw[ns];decide)];refine wpAny_bind (YA1 hit1 (wpAny_bind (wpAny_holding (YJQ hit1 hl1 hn fun b tk=>?_))));refine wpAny_ite_split (fun _=>?_) (fun _=>wpAny_pure ⟨plainId_quiet F.plain_extend_loop _,key h1 _ _ k1 g1⟩);refine wpAny_bind (wpAny_rule (wpAny_bind ?_));refine(show wpAny _ _ (updateSeq s.heap.objs.size (·.push .none) >>= fun _=>updateSeq s.heap.objs.size (·.pop)) _ _ _ from ?_);refine wpAny_bind (wpAny_updateSeq g1 rfl ?_);have g2:=Heap.get?_update_self (Obj.mapSeq (·.push Value.none)) g1 rfl;refine wpAny_updateSeq (hz:=by seq_fits) g2 rfl ?_;have g3:=Heap.get?_update_self (Obj.mapSeq (·.pop)) g2 rfl;refine wpAny_pure ⟨plainId_quiet F.plain_extend_loop _,key _ _ _ (fun b o e=>?_) g3⟩;have nb:s.heap.objs.size≠b:=Nat.ne_of_gt (Heap.lt_size e);exact(Heap.get?_update_other _ _ nb).trans ((Heap.get?_update_other _ _ nb).trans (k1 b o e))
end
def YJR (K:W.Frag) (ta:TA):TE:=fun σ H Q=>ta σ H fun vs H1=>∃a xs,vs=[.ref a]∧SqT K H1 a xs∧∀l,H1 l=none→Q (.ref l) (upd H1 l (.lst xs.reverse))
theorem YFM (K:W.Frag) {X:Cx} (hK:X.K=K) {a:Expr}{ta:TA}{p p2 pos pos2:Pos} (hc:X.calm=true) (hg:Gl X "list") (hm:X.mg "list"=none) (hg2:Gl X "reversed") (hm2:X.mg "reversed"=none) (ha:PA X [a] ta)
  (hs:starEach [.Call (.Name "reversed" p2) [a] [] pos2] X.env=[(false,eval (.Call (.Name "reversed" p2) [a] [] pos2) X.env)]:=by rfl) (hs2:starEach [a] X.env=[(false,eval a X.env)]:=by rfl):
  PE X (.Call (.Name "list" p) [.Call (.Name "reversed" p2) [a] [] pos2] [] pos) (YJR K ta):=by
 subst hK;intro pins s σ H Q I h;refine wpAny_Call_Name_kw (XE I hg hm PyProof.Rows.Boot.«list» ?_);refine PyProof.Rows.callWith_type1 ?_ hs rfl;rw[hs];show wpAny _ _ (spliced ((false,eval (.Call (.Name "reversed" p2) [a] [] pos2) X.env) :: [])) _ _ s;refine Calls.spliced_cons (wpAny_Call_Name_kw (XE I hg2 hm2 PyProof.Rows.Boot.«reversed» (PyProof.Rows.callWith_type1 (thn (ha pos2 pins s σ H _ I h) fun us s1 ⟨vs,H1,I1,r1,q1⟩=>?_) hs2 rfl)));obtain⟨l,xs,rfl,hq,q⟩:=q1;obtain⟨u,rfl,ru⟩:=Jc r1;cases ru;obtain⟨its,rv,pl,hz⟩:=I1.tuple hq;have hlen:xs.length=its.length:=rv.length;have uy:=YAA;refine YAk pl (by rw[YLL];omega) fun h1 hit hk=>Calls.spliced_nil ?_
 have pl1:IsTup h1 l its.toArray:=by obtain⟨o,ho,r⟩:=pl;exact⟨o,hk l o ho,r⟩
 refine YDe (s:={ s1 with heap:=h1,toks:=s1.toks + 1 + 1 }) (items:=its.toArray) (I1.ok.hd hc) hit pl1 (YLY pl.lt) (by rw[YLL];omega) fun h' tk acc' c' hk' hS hit'=>?_
 have rv':Yq xs.reverse acc'.toList:=by
  refine YFF (by
   have e1:acc'.toList.length=its.length:=(Array.length_toList.trans hit'.1).trans (YLL ..);rw[YLa,hlen,e1]) fun j x u h1 h2=>?_
  have h3:=hit'.2 j u (by rw[←Array.getElem?_toList];exact h2);have hj:j < xs.length:=by
   have:=(List.getElem?_eq_some_iff.mp h1).1
   rwa [YLa]at this
  rw[List.getElem?_reverse hj]at h1;obtain⟨u',e1,r'⟩:=rv.get h1;rw[List.getElem?_toArray,YLL,←hlen]at h3;rw[h3]at e1;cases e1;exact r'
 have le:s1.heap.objs.size≤h1.objs.size:=by
  obtain⟨o,ho,_⟩:=hit;exact Nat.le_of_lt (Heap.lt_size ho)
 have kk:∀b u,s1.heap.get? b=some u→h'.get? b=some u:=fun b u e=>hk' b u (YLY (Heap.lt_size e)) (hk b u e)
 exact⟨.ref h1.objs.size,_,I1.laid (t':=tk) kk le (show Y8 X.prog X.w _ h' _ (.lst _) from⟨by rw[YLa];exact hz,acc'.toList,c',rv',by simpa using hS⟩),rfl,q _ (I1.hok.fresh le)⟩
end L2
namespace FR
open PySem L2
def nV (k:Nat):V:=.int (k:Int)
def chV (c:Nat):V:=.str ⟨#[c]⟩
theorem Y1 {r:ZW} (h:Z7 r=true):r.2.1.length≤6∧∀p∈r.2.1,Yo p=true:=by
 unfold Z7 at h;simp only[YLJ,decide_eq_true_eq]at h;exact⟨h.2.1.1,List.all_eq_true.mp h.2.1.2⟩
theorem Jg {r:ZW} (h:Z7 r=true):isNameS r.1=true:=by
 unfold Z7 at h;rw[YLJ]at h;exact h.1
theorem decS {x y:Str}:decide (V.str x=V.str y)=decide (x=y):=by
 by_cases h:x=y
 ·rw[decide_eq_true h,decide_eq_true (by rw[h])]
 ·rw[decide_eq_false h,decide_eq_false (fun e=>h (V.str.inj e))]
theorem Ju (z:Str):isQ z=decide (z.cps.toList[0]?=some 39):=by
 have e0:(("'":Str))=⟨#[39]⟩:=by decide +kernel
 unfold isQ;rw[e0,YLe,decide_eq_true_eq];have:=StrLaws.subAt_one z 39 0;unfold Txt.startswith;rw[YLJ,decide_eq_true_eq];exact this
theorem JL {p:Str} (h:Yo p=true):∃c,atI p.cps.toList 0=some c∧p.length≤8∧decide (V.str ⟨#[c]⟩=V.str "'")=isQ p:=by
 have h8:=YF1 h;have h1:0 < p.cps.toList.length:=by
  rw[YLc];unfold Yo at h;rw[Bool.or_eq_true]at h;rcases h with h |h
  ·unfold J7 at h;rw[YLJ,YLJ]at h;have:p.cps.size=2:=eq_of_beq h.1.1;omega
  ·unfold isNameS at h;rw[YLJ,YLJ]at h;have:1≤p.cps.size:=of_decide_eq_true h.1.1;omega
 have e:p.cps.toList[0]?=some p.cps.toList[0]:=YLF h1;refine⟨p.cps.toList[0],ZT (j:=0) e,h8,?_⟩;rw[Ju,e,decS];have e0:(("'":Str))=⟨#[39]⟩:=by decide +kernel
 rw[e0]
 by_cases hc:p.cps.toList[0]=39
 ·rw[decide_eq_true (by rw[hc]),decide_eq_true (by rw[hc])]
 ·rw[decide_eq_false (fun z=>hc (by injection z with z;simpa using z)),decide_eq_false (fun z=>hc (Option.some.inj z))]
theorem YCj {p:Str} (h:Yo p=true) (hq:isQ p=true):atI p.cps.toList 1=some (sgn p):=by
 unfold Yo at h;rw[Bool.or_eq_true]at h;rcases h with h |h
 ·unfold J7 at h;rw[YLJ,YLJ]at h;have h2:p.cps.size=2:=eq_of_beq h.1.1;have h1:1 < p.cps.toList.length:=by rw[YLc];omega
  have e:p.cps.toList[1]?=some p.cps.toList[1]:=YLF h1;have e2:sgn p=p.cps.toList[1]:=by
   unfold sgn;rw[Array.getD_eq_getD_getElem?,←Array.getElem?_toList,e];rfl
  rw[e2];exact ZT (j:=1) e
 ·rw[Ju]at hq;have hq:=of_decide_eq_true hq;unfold isNameS at h;rw[YLJ]at h;exact absurd (List.all_eq_true.mp h.2 39 (YLH hq)) (by decide)
theorem X3 {z:Str} (h:isNameS z=true):isQ z=false:=by
 rw[Ju];refine decide_eq_false fun e=>?_
 unfold isNameS at h;rw[YLJ]at h;exact absurd (List.all_eq_true.mp h.2 39 (YLH e)) (by decide)
theorem YBT {z:Str} (h:isNameS z=true):Yo z=true:=by
 unfold Yo;rw[h,Bool.or_true]
theorem ZC {g:YT}{r:ZW}{i:Nat} (hg:Yv g=true) (er:g[i]?=some r):Z7 r=true:=by
 unfold Yv at hg;rw[YLJ]at hg;exact List.all_eq_true.mp hg.2 r (YLH er)
theorem Zr {H:Hp}{xs:List V}{g:YT} (hds:Yb H xs (g.map ZS)) {k:Nat}{r:ZW} (er:g[k]?=some r):∃t p,atI xs (k:Int)=some (.ref t)∧H t=some (.tup [.str r.1,.ref p,.int r.2.2])∧H p=some (.tup (r.2.1.map V.str)):=by
 have hxl:xs.length=g.length:=by rw[hds.len,YLD]
 have hkx:k < xs.length:=by rw[hxl];exact(List.getElem?_eq_some_iff.mp er).1
 have hix:xs[k]?=some xs[k]:=YLF hkx;obtain⟨r',t,p,er',ey',ht,hpp⟩:=YH9 hds hix;rw[er]at er';cases er';exact⟨t,p,by rw[←ey'];exact ZT hix,ht,hpp⟩
structure RdEnv (H:Hp) (l ro:Addr) (xs ys:List V) (g:YT) (ds:List D):Prop where
 hl:H l=some (.lst xs)
 hds:Yb H xs (g.map ZS)
 hg:Yv g=true
 hro:Rd H ro (.lst ys)
 hys:Yb H ys ds
 hsh:∀d∈ds,d.short=true
 hlen:ds.length≤2000
def fldR (l ro a1 a2 a3:Addr):List (Str×V):=[("rules",.ref l),("row",.ref ro),("signs",.ref a1),("begins",.ref a2),("stops",.ref a3)]
structure RdSt (C:Addr) (H0 H:Hp) (x l ro a1 a2 a3:Addr) (rd:Rdg):Prop where
 sm:YI H0 H
 pl:YU H
 x_:∃dx,H0 x=some (.ins C dx (fldR l ro a1 a2 a3))
 n1:H0 a1=none
 n2:H0 a2=none
 n3:H0 a3=none
 d12:a1≠a2
 d13:a1≠a3
 d23:a2≠a3
 e1:H a1=some (.lst (rd.sg.map chV))
 e2:H a2=some (.lst (rd.bg.map nV))
 e3:H a3=some (.lst (rd.st.map nV))
def nextR (g:YT) (ds:List D) (n:Nat) (z:Str):Option (Nat×ZW):=match ds[n]? with
 |some (.int i)=>if 0≤i then (match g[i.toNat]? with
  |some r=>if r.1=z then some (i.toNat,r) else none
  |none=>none) else none
 |_=>none
theorem six {g:YT} (hg:Yv g=true):∀r∈g,r.2.1.length≤6:=fun r hr=>by
 unfold Yv at hg;rw[YLJ]at hg;exact(Y1 (List.all_eq_true.mp hg.2 r hr)).1
inductive JM (g:YT):List Str→List Nat→List Nat→Prop
 |nil:JM g [] [] []
 |sign {p:Str}{ws:List Str}{ks sg:List Nat}:isQ p=true→JM g ws ks sg→JM g (p :: ws) ks (sgn p :: sg)
 |name {r:ZW}{ws:List Str}{k:Nat}{ks sg:List Nat}:isQ r.1=false→g[k]?=some r→JM g (r.2.1 ++ ws) ks sg→JM g (r.1 :: ws) (k :: ks) sg
def strip:List Wait→List Str
 |[]=>[]
 |.inl p :: ws=>p :: strip ws
 |.inr _ :: ws=>strip ws
def intD (k:Nat):D:=.int (k:Int)
end FR
namespace L2
open PySem PySem.Spec PyProof.Rows
section
variable {X:Cx}{pins:List (Addr×Obj)}{σ:St}{H:Hp}{s:Shared}{a b:Addr}{kvs:List (List Key×V)}{k:List Key}{u r:Value}{v:V}{A:Around}{E:Value→Shared→Prop}
theorem YBv {prog:Program}{w:World}{d a:Addr}{xs:List (List Key×Addr×Value)}{k:List Key}{v:Value}{Q:Value→Shared→Prop} (hu:(tupleKind (Yn prog w)).room A) (hkey:(tupleKind (Yn prog w)).is s.heap k a) (hm:s.heap.DictOfH (tupleKind (Yn prog w)) d xs)
  (hT:∀p,atKey xs k=some p→Q p.2 { s with toks:=s.toks + (tupleKind (Yn prog w)).draws k })
  (hN:atKey xs k=none→∀h',h'.DictOfH (tupleKind (Yn prog w)) d (storedH xs k a v)→Heap.SameBut d s.heap h'→Q v { s with heap:=h',toks:=s.toks + (tupleKind (Yn prog w)).draws k })
  (hsz:xs.length≤sizeLine):wpAny (model prog w) A (dictSetDefault d (.ref a) v) Q E s:=by
 obtain⟨o,es,ep,ho,hc,hd,he,his,hn⟩:=hm;unfold dictSetDefault
 try with_reducible refine wpAny_holding ?_
 refine wpAny_bind ((tupleKind (Yn prog w)).pyHash hu hkey (wpAny_bind (wpAny_dictFind_heap (s:={ s with toks:=s.toks + (tupleKind (Yn prog w)).draws k }) hu hkey ho hd he his hn ?_ ?_)))
 ·intro hno;have hnot:k∉xs.map (·.1):=not_mem_keys_of_get hno;refine wpAny_bind (wpAny_rule (wpAny_bind (wpAny_updateDictKeys (hz:=by have e:=size_of_entries he;omega) (s:={ s with toks:=s.toks + (tupleKind (Yn prog w)).draws k }) ho hd (wpAny_pure (hN (atKey_none_of_get hno) _ ⟨_,_,ep + 1,Heap.get?_update_self _ ho (Obj.isFreed_of_dict (Obj.data_mapDictKeys hd _)),
   hc.mapDictKeys _,Obj.data_mapDictKeys hd _,?_,?_,?_⟩ (Heap.SameBut.update ..))))))
  ·rw[storedH_new (atKey_none_of_get hno)];simp[he,entryOfKey]
  ·rw[storedH_new (atKey_none_of_get hno)];intro x hx;rcases List.mem_append.mp hx with hx |hx
   ·exact(tupleKind (Yn prog w)).keeps (his x hx) ho hd (Heap.SameBut.update ..)
   ·cases List.mem_singleton.mp hx;exact(tupleKind (Yn prog w)).keeps hkey ho hd (Heap.SameBut.update ..)
  ·rw[storedH_new (atKey_none_of_get hno),YLK,List.nodup_append];refine⟨hn,by simp,fun x hx y hy e=>?_⟩;cases List.mem_singleton.mp hy;exact hnot (by rw[show k=x from e.symm];exact hx)
 ·intro j p hj;refine wpAny_bind (wpAny_dictEntries (s:={ s with toks:=s.toks + (tupleKind (Yn prog w)).draws k }) ho hd ?_);rw[entry_at he j,hj];exact wpAny_bind (wpAny_rule (wpAny_pure (hT _ (atKey_of_get hn hj))))
theorem YKc {Q:Value→Shared→Prop} (hu:A.units + 1 < cLine) (I:Inv X pins σ H s) (e:H a=some (.dT kvs)) (eb:H b=some (.tup (k.map kV))) (rv:Yx v r) (hl:kvs.length < sizeLine)
  (hT:∀w v' s',Yw kvs k=some v'→Inv X pins σ H s'→Yx v' w→Q w s') (hN:Yw kvs k=none→∀s',Inv X pins σ (upd H a (.dT (Y4 kvs k v))) s'→Q r s'):
  wpAny (model X.prog X.w) A (call (.builtin "dict.setdefault") [.ref a,.ref b,r]) Q E s:=by
 obtain⟨z,hd,xs,rel,dd⟩:=dt_of I.hok e;have hz:xs.length≤sizeLine:=by rw[←Paired.length rel];exact z
 have hl2:(Y4 kvs k v).length≤sizeLine:=by have:=Zu kvs k v;omega
 refine wpAny_call_entry PySem.F.slot_dict_setdefault dd.typeIs PySem.F.entry_dict_setdefault ?_ (PySem.F.args_dict_setdefault_3 _ _ _);unfold Builtin.«dict.setdefault»;refine wpAny_bind ?_;unfold Builtin.Dict.keyAndDefault;refine wpAny_bind (wpAny_notOrdered_dict dd.typeIs ?_);show wpAny _ _ (pure (a,Value.ref b,some r)) _ _ s;refine wpAny_pure ?_;show wpAny _ _ (if (a == sysModules)=true then _ else (dictSetDefault a (.ref b) r >>= _)) _ _ s;rw[if_neg (by rw[hd];exact YLT)];refine wpAny_bind (YBv (tupleKind_room_in1 hu) (YBN I.hok eb) dd (fun p hp=>wpAny_pure ⟨_,rfl,?_⟩) (fun hn h' dd' hs=>wpAny_pure ⟨_,rfl,?_⟩) hz)
 ·have rl:=rel.val k;rw[hp]at rl;cases hv:Yw kvs k with
  |none=>rw[hv]at rl;exact rl.elim
  |some v'=>rw[hv]at rl;exact hT _ v' _ hv (I.tok _) rl
 ·have rl:=rel.val k;rw[hn]at rl;cases hv:Yw kvs k with
  |some v'=>rw[hv]at rl;exact rl.elim
  |none=>
   obtain⟨q,es,ep,hq,h2,h3,h4,_,h5⟩:=dd';refine hN hv _ (YBl I (by rw[e];exact True.intro) hs ⟨q,hq⟩ ⟨hl2,hd,_,(rel.put k eb rv).keeps fun c ys ec=>?_,q,es,ep,hq,h2,h3,h4,h5⟩);rw[YE (Yr ec e nofun)];exact ec
end
def tDSetD (td ty tx:TE):TE:=fun σ H Q=>td σ H fun x H1=>∃a,x=.ref a∧IsD H1 a∧ty σ H1 fun y H2=>tx σ H2 fun z H3=>∃kvs k b,H3 a=some (.dT kvs)∧y=.ref b∧H3 b=some (.tup (k.map kV))∧kvs.length < sizeLine∧
 (∀v,Yw kvs k=some v→Q v H3)∧(Yw kvs k=none→Q z (upd H3 a (.dT (Y4 kvs k z))))
section
variable {X:Cx}{o e f:Expr}{apos cpos:Pos}{td ty tx:TE}
theorem YDf (hu:X.A.units + 1 < cLine) (ho:PE X o td) (he:PE X e ty) (hf:PE X f tx) (m:M2 X o "setdefault" apos e f cpos):PE X (.Call (.Attribute o "setdefault" apos) [e,f] [] cpos) (tDSetD td ty tx):=by
 intro pins s σ H Q I h;refine wpAny_Call_method m.base m.few m.line PySem.F.plainAttrs_dict PySem.F.slot_dict_setdefault PySem.F.type_dict_setdefault (thn (ho pins s σ H _ I h) fun u s1 ⟨x,H1,I1,rx,a,ex,d,q1⟩=>?_);subst ex;obtain rfl:u=Value.ref a:=rx;obtain⟨t1,t2,_⟩:=YHD I1 d;refine⟨t1,t2,?_⟩;rw[m.trees];refine Calls.callWith_builtin rfl (Calls.evalArgs_plain (Calls.spliced_cons (thn (he pins s1 σ H1 _ I1 q1) fun iv s2 ⟨y,H2,I2,ry,q2⟩=>
  Calls.spliced_cons (thn (hf pins s2 σ H2 _ I2 q2) fun fv s3 ⟨z,H3,I3,rz,kvs,k,b,e1,ey,e2,hl,hT,hN⟩=>Calls.spliced_nil ?_))))
 subst ey;cases (show iv=Value.ref b from ry);exact YKc hu I3 e1 e2 rz hl (fun w' v' s4 hv I4 rw'=>⟨_,H3,I4,rw',hT v' hv⟩) fun hn s4 I4=>⟨_,_,I4,rz,hN hn⟩
end
theorem YHN (K:W.Frag) {X:Cx} (hK:X.K=K) {o value:Expr}{f:Str}{tpos pos:Pos}{ta tv:TE}{op:Operator}{rd:V→V→Hp→VK→Prop} (ha:PE X o ta) (hv:PE X value tv) (hop:InOp X op rd):PS X (.AugAssign (.Attribute o f tpos) op value pos) (YHx K ta tv rd f):=by subst hK;exact YI4 ha hv hop
end L2
namespace FR
open PySem L2
inductive Nd where
 |part (p:Str) (i j:Nat)
 |beg (r d i j:Nat)
deriving DecidableEq
def Yu:Nd→List Key
 |.part p i j=>[.inr p,.inl (i:Int),.inl (j:Int)]
 |.beg r d i j=>[.inl (r:Int),.inl (d:Int),.inl (i:Int),.inl (j:Int)]
theorem JF {x y:Nd} (h:Yu x=Yu y):x=y:=by
 cases x <;> cases y <;> simp only[Yu,List.cons.injEq,Sum.inl.injEq,Sum.inr.injEq,Int.ofNat_inj,and_true,reduceCtorEq,and_false,false_and]at h
 ·obtain⟨h1,h2,h3⟩:=h;rw[h1,h2,h3]
 ·obtain⟨h1,h2,h3,h4⟩:=h;rw[h1,h2,h3,h4]
abbrev Hs:=List (Nd×Nat)
def hsD (hs:Hs):List (List Key×V):=hs.map fun q=>(Yu q.1,.int (q.2:Int))
def YL (hs:Hs) (x:Nd):Option Nat:=(hs.find? fun q=>decide (q.1=x)).map (·.2)
theorem YA2 (x:Nd):∀hs:Hs,Yw (hsD hs) (Yu x)=(YL hs x).map fun n:Nat=>V.int (n:Int)
 |[]=>rfl
 |q :: hs=>by
  have ih:=YA2 x hs;show Yw ((Yu q.1,V.int (q.2:Int)) :: hsD hs) (Yu x)=_
  by_cases e:q.1=x
  ·rw[ZY (by rw[e])];unfold YL;rw[List.find?_cons_of_pos (by exact decide_eq_true e)];rfl
  ·rw[Zd (fun z=>e (JF z)),ih];unfold YL;rw[List.find?_cons_of_neg (by simp[e])]
theorem ZO (hs:Hs) (x y:Nd) (n:Nat) (h:YL hs y=none):YL (hs ++ [(y,n)]) x=if x=y then some n else YL hs x:=by
 unfold YL at h ⊢;rw[List.find?_append]
 by_cases e:x=y
 ·subst e;have:hs.find? (fun q=>decide (q.1=x))=none:=by simpa using h
  rw[this,if_pos rfl];simp
 ·rw[if_neg e];have:[((y,n):Nd×Nat)].find? (fun q=>decide (q.1=x))=none:=by
   rw[List.find?_cons_of_neg (by rw[decide_eq_true_eq];exact fun z=>e z.symm)];rfl
  rw[this,Option.or_none]
theorem YKd {hs:Hs}{x:Nd} (n:Nat) (h:YL hs x=none):Y4 (hsD hs) (Yu x) (.int (n:Int))=hsD (hs ++ [(x,n)]):=by
 rw[YFn _ (by rw[YA2,h];rfl)];unfold hsD;rw[YLK];rfl
theorem X4 {hs:Hs}{x:Nd}{n:Nat} (h:YL hs x=some n):x∈hs.map (·.1):=by
 unfold YL at h;obtain⟨q,hq,rfl⟩:=Option.map_eq_some_iff.mp h;have:=List.find?_some hq;exact List.mem_map.mpr ⟨q,List.mem_of_find?_eq_some hq,of_decide_eq_true this⟩
theorem Jv {hs:Hs}{x:Nd} (h:x∈hs.map (·.1)):∃n,YL hs x=some n:=by
 cases e:YL hs x with
 |some n=>exact⟨n,rfl⟩
 |none=>
  unfold YL at e;rw[Option.map_eq_none_iff,List.find?_eq_none]at e;obtain⟨q,hq,rfl⟩:=List.mem_map.mp h;exact absurd (decide_eq_true rfl) (e q hq)
theorem Z8:∀{l m:List Nd},l.Nodup→(∀x∈l,x∈m)→l.length≤m.length
 |[],_,_,_=>YLN _
 |x :: l,m,h,hm=>by
  have hx:=hm x YLP;have hnd:=List.nodup_cons.mp h;have ih:=Z8 (l:=l) (m:=m.erase x) hnd.2 fun y hy=>(List.mem_erase_of_ne fun e=>hnd.1 (by rw[←e];exact hy)).mpr (hm y (YLR _ hy))
  rw[List.length_erase_of_mem hx]at ih;have:0 < m.length:=List.length_pos_of_mem hx;rw[YLM];omega
def ZD (g:YT) (r d:Nat):Option Str:=(g[r]?).bind fun ru=>ru.2.1[d]?
def XZ (c:Nat):Str:=("'":Str) ++ ⟨#[c]⟩
def allN (g:YT) (cs:List Nat):List Nd:=(List.range (cs.length + 1)).flatMap fun i=>(List.range (cs.length + 1)).flatMap fun j=>
 (g.map (·.1) ++ cs.map XZ).map (fun p=>Nd.part p i j) ++ (List.range g.length).flatMap fun r=>(List.range 7).map fun d=>Nd.beg r d i j
def Leg (g:YT) (cs:List Nat):Nd→Prop
 |.part p i j=>(p∈g.map (·.1)∨∃c,cs[i]?=some c∧p=XZ c∧j=i + 1)∧i≤j∧j≤cs.length
 |.beg r d i j=>(∃ru,g[r]?=some ru∧d≤ru.2.1.length)∧i≤j∧j≤cs.length
theorem YIK {g:YT}{cs:List Nat} (h6:∀ru∈g,ru.2.1.length≤6) {x:Nd} (h:Leg g cs x):x∈allN g cs:=by
 unfold allN;cases x with
 |part p i j=>
  obtain⟨hp,hij,hj⟩:=h;refine List.mem_flatMap.mpr ⟨i,List.mem_range.mpr (by omega),List.mem_flatMap.mpr ⟨j,List.mem_range.mpr (by omega),YLU _ (List.mem_map.mpr ⟨p,?_,rfl⟩)⟩⟩;rcases hp with hp |⟨c,hc,rfl,_⟩
  ·exact YLU _ hp
  ·exact YLO _ (List.mem_map.mpr ⟨c,YLH hc,rfl⟩)
 |beg r d i j=>
  obtain⟨⟨ru,er,hd⟩,hij,hj⟩:=h;have h1:=h6 ru (YLH er);have hr:=(List.getElem?_eq_some_iff.mp er).1;exact List.mem_flatMap.mpr ⟨i,List.mem_range.mpr (by omega),List.mem_flatMap.mpr ⟨j,List.mem_range.mpr (by omega),YLO _ (List.mem_flatMap.mpr ⟨r,List.mem_range.mpr hr,List.mem_map.mpr ⟨d,List.mem_range.mpr (by omega),rfl⟩⟩)⟩⟩
theorem YBw {α β:Type}{f:α→List β}{n:Nat}:∀{l:List α},(∀x∈l,(f x).length≤n)→(l.flatMap f).length≤l.length * n
 |[],_=>by simp
 |x :: l,h=>by
  have ih:=YBw (f:=f) (n:=n) (l:=l) fun y hy=>h y (YLR _ hy)
  have h1:=h x YLP;rw[List.flatMap_cons,YLE,YLM,Nat.succ_mul];omega
theorem YGB {g:YT}{cs:List Nat} (hg:g.length≤60) (hc:cs.length≤60):(allN g cs).length≤2100000:=by
 unfold allN;have h1:∀i j:Nat,((g.map (·.1) ++ cs.map XZ).map (fun p=>Nd.part p i j) ++ (List.range g.length).flatMap fun r=>(List.range 7).map fun d=>Nd.beg r d i j).length≤540:=fun i j=>by
  rw[YLE,YLD,YLE,YLD,YLD];have:=YBw (f:=fun r=>(List.range 7).map fun d=>Nd.beg r d i j) (n:=7) (l:=List.range g.length) (fun x _=>by rw[YLD,List.length_range];exact YLG _);rw[List.length_range]at this;omega
 have h2:∀i:Nat,((List.range (cs.length + 1)).flatMap fun j=>(g.map (·.1) ++ cs.map XZ).map (fun p=>Nd.part p i j) ++ (List.range g.length).flatMap fun r=>(List.range 7).map fun d=>Nd.beg r d i j).length≤32940:=fun i=>by
  have:=YBw (n:=540) (l:=List.range (cs.length + 1)) (fun j _=>h1 i j);rw[List.length_range]at this;omega
 have:=YBw (n:=32940) (l:=List.range (cs.length + 1)) (fun i _=>h2 i);rw[List.length_range]at this;omega
def Why (g:YT) (cs:List Nat) (hs:Hs):Nd→Nat→Prop
 |.part p i j,v=>(v=0∧∃c,cs[i]?=some c∧p=XZ c∧j=i + 1)∨∃r ru m,g[r]?=some ru∧ru.1=p∧YL hs (.beg r ru.2.1.length i j)=some m∧v=m + 1
 |.beg r d i j,v=>(d=0∧i=j∧v=0)∨∃d' k p a b,d=d' + 1∧ZD g r d'=some p∧YL hs (.beg r d' i k)=some a∧YL hs (.part p k j)=some b∧v=max a b
theorem Why.mono {g:YT}{cs:List Nat}{hs hs':Hs} (hm:∀x m,YL hs x=some m→YL hs' x=some m) {x:Nd}{v:Nat} (h:Why g cs hs x v):Why g cs hs' x v:=by
 cases x with
 |part p i j=>
  rcases h with h |⟨r,ru,m,e1,e2,e3,e4⟩
  ·exact .inl h
  ·exact .inr ⟨r,ru,m,e1,e2,hm _ _ e3,e4⟩
 |beg r d i j=>
  rcases h with h |⟨d',k,p,a,b,e1,e2,e3,e4,e5⟩
  ·exact .inl h
  ·exact .inr ⟨d',k,p,a,b,e1,e2,hm _ _ e3,hm _ _ e4,e5⟩
structure Cl (g:YT) (hs:Hs) (M:Nd→Prop):Prop where
 join:∀r d i k p j a b,M (.beg r d i k)→M (.part p k j)→ZD g r d=some p→YL hs (.beg r d i k)=some a→YL hs (.part p k j)=some b→∃v,YL hs (.beg r (d + 1) i j)=some v∧v≤max a b
 up:∀r ru i j a,g[r]?=some ru→M (.beg r ru.2.1.length i j)→YL hs (.beg r ru.2.1.length i j)=some a→∃v,YL hs (.part ru.1 i j)=some v∧v≤a + 1
structure GrM (g:YT) (cs:List Nat) (hs:Hs) (met fresh aa:List Nd) (h:Nat):Prop where
 nd:(hs.map (·.1)).Nodup
 pm:(hs.map (·.1)).Perm (met ++ (fresh ++ aa))
 vm:∀x∈met,∃v,YL hs x=some v∧v≤h
 vf:∀x∈fresh,YL hs x=some h
 vh:∀x∈aa,YL hs x=some (h + 1)∧∃p i j,x=.part p i j
 leg:∀x v,YL hs x=some v→Leg g cs x
 why:∀x v,YL hs x=some v→Why g cs hs x v
theorem Zs {hs:Hs}{y:Nd}{n:Nat} (h:YL hs y=none):∀x m,YL hs x=some m→YL (hs ++ [(y,n)]) x=some m:=fun x m e=>by
 rw[ZO _ _ _ _ h,if_neg (fun z=>by rw[z,h]at e;cases e)];exact e
theorem Cl.snoc {g:YT}{hs:Hs}{M:Nd→Prop}{y:Nd}{n:Nat} (c:Cl g hs M) (h:YL hs y=none) (hM:∀x,M x→∃v,YL hs x=some v):Cl g (hs ++ [(y,n)]) M:=by
 have old:=Zs (n:=n) h;have back:∀x a,M x→YL (hs ++ [(y,n)]) x=some a→YL hs x=some a:=fun x a hx e=>by
  obtain⟨v,hv⟩:=hM x hx;have:=old _ _ hv;rw[e]at this;cases this;exact hv
 refine⟨fun r d i k p j a b m1 m2 hp e1 e2=>?_,fun r ru i j a er m1 e1=>?_⟩
 ·obtain⟨v,hv,hle⟩:=c.join r d i k p j a b m1 m2 hp (back _ _ m1 e1) (back _ _ m2 e2);exact⟨v,old _ _ hv,hle⟩
 ·obtain⟨v,hv,hle⟩:=c.up r ru i j a er m1 (back _ _ m1 e1);exact⟨v,old _ _ hv,hle⟩
theorem YDg {g:YT}{cs:List Nat}{hs:Hs}{met fresh aa:List Nd}{h:Nat} (m:GrM g cs hs met fresh aa h) {x:Nd}{v:Nat} (e:YL hs x=some v):x∈met∨x∈fresh∨x∈aa:=by
 have:=m.pm.mem_iff.mp (X4 e);rw[List.mem_append,List.mem_append]at this;exact this
theorem GrM.stand {g:YT}{cs:List Nat}{hs:Hs}{met fresh aa:List Nd}{h:Nat} (m:GrM g cs hs met fresh aa h) {y:Nd} (hy:YL hs y=none) (hl:Leg g cs y) (hw:Why g cs hs y h):GrM g cs (hs ++ [(y,h)]) met (fresh ++ [y]) aa h:=by
 have old:=Zs (n:=h) hy;have ny:y∉hs.map (·.1):=fun z=>by obtain⟨v,hv⟩:=Jv z;rw[hy]at hv;cases hv
 refine⟨?_,?_,fun x hx=>?_,fun x hx=>?_,fun x hx=>?_,fun x v e=>?_,fun x v e=>?_⟩
 ·rw[YLK,List.nodup_append];refine⟨m.nd,by simp,fun a ha b hb e=>?_⟩;cases List.mem_singleton.mp hb;subst e;exact ny ha
 ·rw[YLK];refine(m.pm.append_right _).trans ?_;show(met ++ (fresh ++ aa) ++ [y]).Perm (met ++ (fresh ++ [y] ++ aa));rw[YLQ,YLQ,YLQ];exact(List.perm_append_comm.append_left fresh).append_left met
 ·obtain⟨v,hv,hle⟩:=m.vm x hx;exact⟨v,old _ _ hv,hle⟩
 ·rcases List.mem_append.mp hx with hx |hx
  ·exact old _ _ (m.vf x hx)
  ·cases List.mem_singleton.mp hx;rw[ZO _ _ _ _ hy,if_pos rfl]
 ·obtain⟨h1,h2⟩:=m.vh x hx;exact⟨old _ _ h1,h2⟩
 ·rw[ZO _ _ _ _ hy]at e;split at e
  ·rename_i z
   rw[z];exact hl
  ·exact m.leg x v e
 ·rw[ZO _ _ _ _ hy]at e;split at e
  ·rename_i z
   cases e;rw[z];exact hw.mono old
  ·exact(m.why x v e).mono old
theorem GrM.standUp {g:YT}{cs:List Nat}{hs:Hs}{met fresh aa:List Nd}{h:Nat} (m:GrM g cs hs met fresh aa h) {p:Str}{i j:Nat} (hy:YL hs (.part p i j)=none) (hl:Leg g cs (.part p i j)) (hw:Why g cs hs (.part p i j) (h + 1)):GrM g cs (hs ++ [(.part p i j,h + 1)]) met fresh (aa ++ [.part p i j]) h:=by
 have old:=Zs (n:=h + 1) hy;have ny:Nd.part p i j∉hs.map (·.1):=fun z=>by obtain⟨v,hv⟩:=Jv z;rw[hy]at hv;cases hv
 refine⟨?_,?_,fun x hx=>?_,fun x hx=>old _ _ (m.vf x hx),fun x hx=>?_,fun x v e=>?_,fun x v e=>?_⟩
 ·rw[YLK,List.nodup_append];refine⟨m.nd,by simp,fun a ha b hb e=>?_⟩;cases List.mem_singleton.mp hb;subst e;exact ny ha
 ·rw[YLK];refine(m.pm.append_right _).trans ?_;show(met ++ (fresh ++ aa) ++ [Nd.part p i j]).Perm (met ++ (fresh ++ (aa ++ [Nd.part p i j])));rw[YLQ,YLQ]
 ·obtain⟨v,hv,hle⟩:=m.vm x hx;exact⟨v,old _ _ hv,hle⟩
 ·rcases List.mem_append.mp hx with hx |hx
  ·obtain⟨h1,h2⟩:=m.vh x hx;exact⟨old _ _ h1,h2⟩
  ·cases List.mem_singleton.mp hx;exact⟨by rw[ZO _ _ _ _ hy,if_pos rfl],_,_,_,rfl⟩
 ·rw[ZO _ _ _ _ hy]at e;split at e
  ·rename_i z
   rw[z];exact hl
  ·exact m.leg x v e
 ·rw[ZO _ _ _ _ hy]at e;split at e
  ·rename_i z
   cases e;rw[z];exact hw.mono old
  ·exact(m.why x v e).mono old
theorem GrM.pop {g:YT}{cs:List Nat}{hs:Hs}{met fresh aa:List Nd}{h:Nat}{x:Nd} (m:GrM g cs hs met (fresh ++ [x]) aa h):GrM g cs hs (met ++ [x]) fresh aa h:=by
 refine⟨m.nd,m.pm.trans ?_,fun y hy=>?_,fun y hy=>m.vf y (YLU _ hy),m.vh,m.leg,m.why⟩
 ·rw[YLQ,YLQ];refine List.Perm.append_left met ?_;rw[←YLQ];exact(List.perm_append_comm (l₁:=fresh) (l₂:=[x])).append_right aa |>.trans (by rw[YLQ])
 ·rcases List.mem_append.mp hy with hy |hy
  ·exact m.vm y hy
  ·cases List.mem_singleton.mp hy;exact⟨h,m.vf x (YLO _ (List.mem_singleton.mpr rfl)),YLG _⟩
theorem GrM.next {g:YT}{cs:List Nat}{hs:Hs}{met aa:List Nd}{h:Nat} (m:GrM g cs hs met [] aa h):GrM g cs hs met aa [] (h + 1):=by
 refine⟨m.nd,?_,fun x hx=>?_,fun x hx=>(m.vh x hx).1,fun x hx=>?_,m.leg,m.why⟩
 ·have:=m.pm;rw[List.nil_append]at this;rw[YLW];exact this
 ·obtain⟨v,h1,h2⟩:=m.vm x hx;exact⟨v,h1,by omega⟩
 ·cases hx
theorem GrM.len {g:YT}{cs:List Nat}{hs:Hs}{met fresh aa:List Nd}{h:Nat} (m:GrM g cs hs met fresh aa h) (hg:Yv g=true) (hc:cs.length≤60):hs.length≤2100000∧met.length + fresh.length + aa.length=hs.length:=by
 have h1:∀x∈hs.map (·.1),x∈allN g cs:=fun x hx=>by
  obtain⟨v,hv⟩:=Jv hx;exact YIK (fun ru hr=>by
   obtain⟨k,hk⟩:=List.mem_iff_getElem?.mp hr;exact(Y1 (ZC hg hk)).1) (m.leg x v hv)
 have h2:=Z8 m.nd h1;have h3:=YGB (YAH hg) hc;rw[YLD]at h2;have h4:=m.pm.length_eq;rw[YLD,YLE,YLE]at h4;exact⟨by omega,by omega⟩
theorem GrM.begLe {g:YT}{cs:List Nat}{hs:Hs}{met fresh aa:List Nd}{h:Nat} (m:GrM g cs hs met fresh aa h) {r d i j v:Nat} (e:YL hs (.beg r d i j)=some v):v≤h:=by
 rcases YDg m e with hx |hx |hx
 ·obtain⟨v',e',hle⟩:=m.vm _ hx;rw[e]at e';cases e';exact hle
 ·have:=m.vf _ hx;rw[e]at this;cases this;exact YLG _
 ·obtain⟨_,p,i,j,z⟩:=m.vh _ hx;cases z
theorem GrM.anyLe {g:YT}{cs:List Nat}{hs:Hs}{met fresh aa:List Nd}{h:Nat} (m:GrM g cs hs met fresh aa h) {x:Nd}{v:Nat} (e:YL hs x=some v):v≤h + 1:=by
 rcases YDg m e with hx |hx |hx
 ·obtain⟨v',e',hle⟩:=m.vm _ hx;rw[e]at e';cases e';omega
 ·have:=m.vf _ hx;rw[e]at this;cases this;omega
 ·have:=(m.vh _ hx).1;rw[e]at this;cases this;exact YLG _
inductive Tag where
 |fr |hi |bg (p:Str) (k:Nat) |en (p:Str) (k:Nat)
def YCr (l a1:Addr) (h:Nat) (a2 a3 a4 a5:Addr):List (Str×V):=[("rules",.ref l),("heights",.ref a1),("height",nV h),("fresh",.ref a2),("higher",.ref a3),("begun",.ref a4),("ends",.ref a5)]
def ZM (H:Hp) (ts:List Addr) (ns:List Nd):Prop:=ts.length=ns.length∧∀(i:Nat) (t:Addr) (x:Nd),ts[i]?=some t→ns[i]?=some x→H t=some (.tup ((Yu x).map kV))
def Tri (H:Hp) (ts:List Addr) (l:List (Nat×Nat×Nat)):Prop:=ts.length=l.length∧∀(i:Nat) (t:Addr) (q:Nat×Nat×Nat),ts[i]?=some t→l[i]?=some q→H t=some (.tup [nV q.1,nV q.2.1,nV q.2.2])
def kPK (p:Str) (k:Nat):List Key:=[.inr p,.inl (k:Int)]
theorem YIL {p p':Str}{k k':Nat} (h:kPK p k=kPK p' k'):p=p'∧k=k':=by
 simp only[kPK,List.cons.injEq,Sum.inr.injEq,Sum.inl.injEq,Int.ofNat_inj,and_true]at h;exact h
theorem ZM.keep {H H':Hp}{ts:List Addr}{ns:List Nd} (h:ZM H ts ns) (k:∀t ys,H t=some (.tup ys)→H' t=some (.tup ys)):ZM H' ts ns:=⟨h.1,fun i t x e1 e2=>k _ _ (h.2 i t x e1 e2)⟩
theorem Tri.keep {H H':Hp}{ts:List Addr}{l:List (Nat×Nat×Nat)} (h:Tri H ts l) (k:∀t ys,H t=some (.tup ys)→H' t=some (.tup ys)):Tri H' ts l:=⟨h.1,fun i t x e1 e2=>k _ _ (h.2 i t x e1 e2)⟩
theorem ZM.snoc {H:Hp}{ts:List Addr}{ns:List Nd} (h:ZM H ts ns) {t:Addr}{x:Nd} (ht:H t=some (.tup ((Yu x).map kV))):ZM H (ts ++ [t]) (ns ++ [x]):=by
 refine⟨by rw[YLE,YLE,h.1];rfl,fun i t' x' e1 e2=>?_⟩
 by_cases hi:i < ts.length
 ·rw[YLZ hi]at e1;rw[YLZ (by rw[←h.1];exact hi)]at e2;exact h.2 i t' x' e1 e2
 ·rw[YLV (by omega)]at e1;rw[YLV (by rw[←h.1];omega),←h.1]at e2;have hz:i - ts.length=0:=by
   cases hh:i - ts.length with
   |zero=>rfl
   |succ j=>rw[hh]at e1;simp at e1
  rw[hz]at e1 e2;cases e1;cases e2;exact ht
theorem Tri.snoc {H:Hp}{ts:List Addr}{ns:List (Nat×Nat×Nat)} (h:Tri H ts ns) {t:Addr}{x:Nat×Nat×Nat} (ht:H t=some (.tup [nV x.1,nV x.2.1,nV x.2.2])):Tri H (ts ++ [t]) (ns ++ [x]):=by
 refine⟨by rw[YLE,YLE,h.1];rfl,fun i t' x' e1 e2=>?_⟩
 by_cases hi:i < ts.length
 ·rw[YLZ hi]at e1;rw[YLZ (by rw[←h.1];exact hi)]at e2;exact h.2 i t' x' e1 e2
 ·rw[YLV (by omega)]at e1;rw[YLV (by rw[←h.1];omega),←h.1]at e2;have hz:i - ts.length=0:=by
   cases hh:i - ts.length with
   |zero=>rfl
   |succ j=>rw[hh]at e1;simp at e1
  rw[hz]at e1 e2;cases e1;cases e2;exact ht
theorem ZM.pop {H:Hp}{ts:List Addr}{t:Addr}{ns:List Nd}{x:Nd} (h:ZM H (ts ++ [t]) (ns ++ [x])):ZM H ts ns∧H t=some (.tup ((Yu x).map kV)):=by
 have hl:ts.length=ns.length:=by
  have:=h.1;rw[YLE,YLE]at this
  simpa using this
 refine⟨⟨hl,fun i t' x' e1 e2=>h.2 i t' x' (by rw[YLZ (List.getElem?_eq_some_iff.mp e1).1];exact e1) (by rw[YLZ (List.getElem?_eq_some_iff.mp e2).1];exact e2)⟩,?_⟩;exact h.2 ts.length t x (by rw[YLV (YLG _),Nat.sub_self];rfl) (by rw[YLV (by rw[hl];exact YLG _),hl,Nat.sub_self];rfl)
abbrev BgT:=Str→Nat→List (Nat×Nat×Nat)
abbrev EnT:=Str→Nat→List Nat
def BgAt (H:Hp) (own:Addr→Option Tag) (kvs:List (List Key×V)) (B:BgT):Prop:=∀p k,(Yw kvs (kPK p k)=none∧B p k=[])∨∃a ts,Yw kvs (kPK p k)=some (.ref a)∧own a=some (.bg p k)∧H a=some (.lst (ts.map V.ref))∧Tri H ts (B p k)
def EnAt (H:Hp) (own:Addr→Option Tag) (kvs:List (List Key×V)) (E:EnT):Prop:=∀p k,(Yw kvs (kPK p k)=none∧E p k=[])∨∃a,Yw kvs (kPK p k)=some (.ref a)∧own a=some (.en p k)∧H a=some (.lst ((E p k).map nV))
structure GSt (C:Addr) (H0 H:Hp) (x l a1 a2 a3 a4 a5:Addr) (own:Addr→Option Tag) (hs:Hs) (fresh aa:List Nd) (h:Nat) (B:BgT) (E:EnT) (N:Nat):Prop where
 sm:YI H0 H
 x_:∃dx,H x=some (.ins C dx (YCr l a1 h a2 a3 a4 a5))
 h1:H a1=some (.dT (hsD hs))
 h2:∃ts,H a2=some (.lst (ts.map V.ref))∧ZM H ts fresh
 h3:∃ts,H a3=some (.lst (ts.map V.ref))∧ZM H ts aa
 h4:∃kvs,H a4=some (.dT kvs)∧kvs.length≤N∧BgAt H own kvs B
 h5:∃kvs,H a5=some (.dT kvs)∧kvs.length≤N∧EnAt H own kvs E
 hb:∀p k,(B p k).length≤N∧(E p k).length≤N
 o2:own a2=some .fr
 o3:own a3=some .hi
 on:∀a t,own a=some t→H0 a=none∧∃xs,H a=some (.lst xs)
 nx:H0 x=none
 n1:H0 a1=none
 n4:H0 a4=none
 n5:H0 a5=none
 d14:a1≠a4
 d15:a1≠a5
 d45:a4≠a5
 pl:∀b o,H b=some o→b=a1∨b=a4∨b=a5∨ZB o=true
theorem Yt {H:Hp}{c:Addr}{o:HO} (h:ZB o=true):∀b u,upd H c o b=some u→H b=some u∨ZB u=true:=fun b u e=>by
 by_cases hb:b=c
 ·subst hb;rw[YB]at e;cases e;exact .inr h
 ·rw[YE hb]at e;exact .inl e
section
variable {C:Addr}{H0 H H':Hp}{x l a1 a2 a3 a4 a5:Addr}{own:Addr→Option Tag}{hs:Hs}{fresh aa:List Nd}{h:Nat}{B:BgT}{E:EnT}{N:Nat}
theorem BgAt.keep {kvs:List (List Key×V)} (b:BgAt H own kvs B) (kl:∀a p k ys,own a=some (.bg p k)→H a=some (.lst ys)→H' a=some (.lst ys)) (kt:∀t ys,H t=some (.tup ys)→H' t=some (.tup ys)):BgAt H' own kvs B:=fun p k=>by
 rcases b p k with z |⟨a,ts,e1,e2,e3,e4⟩
 ·exact .inl z
 ·exact .inr ⟨a,ts,e1,e2,kl _ _ _ _ e2 e3,e4.keep kt⟩
theorem EnAt.keep {kvs:List (List Key×V)} (b:EnAt H own kvs E) (kl:∀a p k ys,own a=some (.en p k)→H a=some (.lst ys)→H' a=some (.lst ys)):EnAt H' own kvs E:=fun p k=>by
 rcases b p k with z |⟨a,e1,e2,e3⟩
 ·exact .inl z
 ·exact .inr ⟨a,e1,e2,kl _ _ _ _ e2 e3⟩
theorem GSt.same (g:GSt C H0 H x l a1 a2 a3 a4 a5 own hs fresh aa h B E N) (s:YI H H') (hp:∀b u,H' b=some u→H b=some u∨ZB u=true):GSt C H0 H' x l a1 a2 a3 a4 a5 own hs fresh aa h B E N:=by
 obtain⟨dx,hx⟩:=g.x_;obtain⟨t2,e2,n2⟩:=g.h2;obtain⟨t3,e3,n3⟩:=g.h3;obtain⟨k4,e4,l4,b4⟩:=g.h4;obtain⟨k5,e5,l5,b5⟩:=g.h5;exact⟨g.sm.trans s,⟨dx,s _ _ hx⟩,s _ _ g.h1,⟨t2,s _ _ e2,n2.keep fun _ _=>s _ _⟩,⟨t3,s _ _ e3,n3.keep fun _ _=>s _ _⟩,⟨k4,s _ _ e4,l4,b4.keep (fun _ _ _ _ _=>s _ _) fun _ _=>s _ _⟩,⟨k5,s _ _ e5,l5,b5.keep fun _ _ _ _ _=>s _ _⟩,g.hb,g.o2,g.o3,fun a t e=>let ⟨z1,xs,z2⟩:=g.on a t e;⟨z1,xs,s _ _ z2⟩,g.nx,g.n1,g.n4,g.n5,g.d14,g.d15,g.d45,fun b o e=>(hp b o e).elim (g.pl b o) fun z=>.inr (.inr (.inr z))⟩
theorem GSt.set1 (g:GSt C H0 H x l a1 a2 a3 a4 a5 own hs fresh aa h B E N) (hs':Hs):GSt C H0 (upd H a1 (.dT (hsD hs'))) x l a1 a2 a3 a4 a5 own hs' fresh aa h B E N:=by
 obtain⟨dx,hx⟩:=g.x_;obtain⟨t2,e2,n2⟩:=g.h2;obtain⟨t3,e3,n3⟩:=g.h3;obtain⟨k4,e4,l4,b4⟩:=g.h4;obtain⟨k5,e5,l5,b5⟩:=g.h5;have kt:∀t ys,H t=some (.tup ys)→upd H a1 (.dT (hsD hs')) t=some (.tup ys):=fun t ys e=>by rw[YE (Yr e g.h1 nofun)];exact e
 have kl:∀t ys,H t=some (.lst ys)→upd H a1 (.dT (hsD hs')) t=some (.lst ys):=fun t ys e=>by rw[YE (Yr e g.h1 nofun)];exact e
 exact⟨g.sm.put g.n1,⟨dx,by rw[YE (Yr hx g.h1 nofun)];exact hx⟩,YB,⟨t2,kl _ _ e2,n2.keep kt⟩,⟨t3,kl _ _ e3,n3.keep kt⟩,⟨k4,by rw[YE g.d14.symm];exact e4,l4,b4.keep (fun _ _ _ _ _=>kl _ _) kt⟩,⟨k5,by rw[YE g.d15.symm];exact e5,l5,b5.keep fun _ _ _ _ _=>kl _ _⟩,g.hb,g.o2,g.o3,fun a t e=>let ⟨z1,xs,z2⟩:=g.on a t e;⟨z1,xs,kl _ _ z2⟩,g.nx,g.n1,g.n4,g.n5,g.d14,g.d15,g.d45,fun b o e=>(by by_cases hb:b=a1;exact .inl hb;rw[YE hb]at e;exact g.pl b o e)⟩
theorem GSt.set2 (g:GSt C H0 H x l a1 a2 a3 a4 a5 own hs fresh aa h B E N) {ts:List Addr}{fr:List Nd} (hn:ZM H ts fr):GSt C H0 (upd H a2 (.lst (ts.map V.ref))) x l a1 a2 a3 a4 a5 own hs fr aa h B E N:=by
 obtain⟨dx,hx⟩:=g.x_;obtain⟨t2,e2,n2⟩:=g.h2;obtain⟨t3,e3,n3⟩:=g.h3;obtain⟨k4,e4,l4,b4⟩:=g.h4;obtain⟨k5,e5,l5,b5⟩:=g.h5;have kt:∀t ys,H t=some (.tup ys)→upd H a2 (.lst (ts.map V.ref)) t=some (.tup ys):=fun t ys e=>by rw[YE (Yr e e2 nofun)];exact e
 have kd:∀t ys,H t=some (.dT ys)→upd H a2 (.lst (ts.map V.ref)) t=some (.dT ys):=fun t ys e=>by rw[YE (Yr e e2 nofun)];exact e
 have ko:∀a t ys,own a=some t→t≠.fr→H a=some (.lst ys)→upd H a2 (.lst (ts.map V.ref)) a=some (.lst ys):=fun a t ys e1 e2 e3=>by rw[YE (fun z=>by rw[z,g.o2]at e1;cases e1;exact e2 rfl)];exact e3
 refine⟨g.sm.put (g.on _ _ g.o2).1,⟨dx,by rw[YE (Yr hx e2 nofun)];exact hx⟩,kd _ _ g.h1,⟨ts,YB,hn.keep kt⟩,⟨t3,ko _ _ _ g.o3 nofun e3,n3.keep kt⟩,⟨k4,kd _ _ e4,l4,b4.keep (fun _ _ _ _ z=>ko _ _ _ z nofun) kt⟩,⟨k5,kd _ _ e5,l5,b5.keep fun _ _ _ _ z=>ko _ _ _ z nofun⟩,g.hb,g.o2,g.o3,fun a t e=>?_,g.nx,g.n1,g.n4,g.n5,g.d14,g.d15,g.d45,fun b o e=>(Yt rfl b o e).elim (g.pl b o) fun z=>.inr (.inr (.inr z))⟩;obtain⟨z1,xs,z2⟩:=g.on a t e
 by_cases ha:a=a2
 ·subst ha;exact⟨z1,_,YB⟩
 ·exact⟨z1,xs,by rw[YE ha];exact z2⟩
theorem GSt.set3 (g:GSt C H0 H x l a1 a2 a3 a4 a5 own hs fresh aa h B E N) {ts:List Addr}{fr:List Nd} (hn:ZM H ts fr):GSt C H0 (upd H a3 (.lst (ts.map V.ref))) x l a1 a2 a3 a4 a5 own hs fresh fr h B E N:=by
 obtain⟨dx,hx⟩:=g.x_;obtain⟨t2,e2,n2⟩:=g.h2;obtain⟨t3,e3,n3⟩:=g.h3;obtain⟨k4,e4,l4,b4⟩:=g.h4;obtain⟨k5,e5,l5,b5⟩:=g.h5;have kt:∀t ys,H t=some (.tup ys)→upd H a3 (.lst (ts.map V.ref)) t=some (.tup ys):=fun t ys e=>by rw[YE (Yr e e3 nofun)];exact e
 have kd:∀t ys,H t=some (.dT ys)→upd H a3 (.lst (ts.map V.ref)) t=some (.dT ys):=fun t ys e=>by rw[YE (Yr e e3 nofun)];exact e
 have ko:∀a t ys,own a=some t→t≠.hi→H a=some (.lst ys)→upd H a3 (.lst (ts.map V.ref)) a=some (.lst ys):=fun a t ys e1 e2 e3=>by rw[YE (fun z=>by rw[z,g.o3]at e1;cases e1;exact e2 rfl)];exact e3
 refine⟨g.sm.put (g.on _ _ g.o3).1,⟨dx,by rw[YE (Yr hx e3 nofun)];exact hx⟩,kd _ _ g.h1,⟨t2,ko _ _ _ g.o2 nofun e2,n2.keep kt⟩,⟨ts,YB,hn.keep kt⟩,⟨k4,kd _ _ e4,l4,b4.keep (fun _ _ _ _ z=>ko _ _ _ z nofun) kt⟩,⟨k5,kd _ _ e5,l5,b5.keep fun _ _ _ _ z=>ko _ _ _ z nofun⟩,g.hb,g.o2,g.o3,fun a t e=>?_,g.nx,g.n1,g.n4,g.n5,g.d14,g.d15,g.d45,fun b o e=>(Yt rfl b o e).elim (g.pl b o) fun z=>.inr (.inr (.inr z))⟩;obtain⟨z1,xs,z2⟩:=g.on a t e
 by_cases ha:a=a3
 ·subst ha;exact⟨z1,_,YB⟩
 ·exact⟨z1,xs,by rw[YE ha];exact z2⟩
end
def addB (B:BgT) (p:Str) (k:Nat) (q:Nat×Nat×Nat):BgT:=fun p' k'=>if p'=p∧k'=k then B p' k' ++ [q] else B p' k'
def addE (E:EnT) (p:Str) (k:Nat) (j:Nat):EnT:=fun p' k'=>if p'=p∧k'=k then E p' k' ++ [j] else E p' k'
def Stays (a1 a2:Addr) (H H':Hp):Prop:=∀b o,b≠a1→b≠a2→H b=some o→H' b=some o
inductive YGC (C:Addr) (vs:List V) (H:Hp) (Q:VK):Prop where
 |mk (H0:Hp) (x l dx:Addr) (h0_:vs=[.ref x,.ref l]) (h1_:H x=some (.ins C dx [])) (h2_:H0 x=none) (h3_:YI H0 H) (h4_:YU H) (h5_:∀a1 a2 a3 a4 a5 own H',GSt C H0 H' x l a1 a2 a3 a4 a5 own [] [] [] 0 (fun _ _=>[]) (fun _ _=>[]) 0→Q .non H'):YGC C vs H Q
def YIM (C:Addr):Sp:=fun vs H Q E_=>YGC C vs H Q
inductive YGD (C:Addr) (vs:List V) (H:Hp) (Q:VK):Prop where
 |mk (H0:Hp) (x l a1 a2 a3 a4 a5 t:Addr) (own:Addr→Option Tag) (hs:Hs) (fresh aa:List Nd) (h:Nat) (B:BgT) (E:EnT) (N:Nat) (y:Nd) (h0_:vs=[.ref x,.ref t]) (h1_:GSt C H0 H x l a1 a2 a3 a4 a5 own hs fresh aa h B E N) (h2_:H t=some (.tup ((Yu y).map kV))) (h3_:YL hs y=none) (h4_:hs.length≤3000000) (h5_:fresh.length≤3000000) (h6_:∀H',GSt C H0 H' x l a1 a2 a3 a4 a5 own (hs ++ [(y,h)]) (fresh ++ [y]) aa h B E N→Stays a1 a2 H H'→Q .non H'):YGD C vs H Q
def YC9 (C:Addr):Sp:=fun vs H Q E_=>YGD C vs H Q
inductive YDh (C:Addr) (vs:List V) (H:Hp) (Q:VK):Prop where
 |mk (H0:Hp) (x l a1 a2 a3 a4 a5 t:Addr) (own:Addr→Option Tag) (hs:Hs) (fresh aa:List Nd) (h:Nat) (B:BgT) (E:EnT) (N:Nat) (y:Nd) (h0_:vs=[.ref x,.ref t]) (h1_:GSt C H0 H x l a1 a2 a3 a4 a5 own hs fresh aa h B E N) (h2_:H t=some (.tup ((Yu y).map kV))) (h3_:YL hs y=none) (h4_:hs.length≤3000000) (h5_:aa.length≤3000000) (h6_:∀H',GSt C H0 H' x l a1 a2 a3 a4 a5 own (hs ++ [(y,h + 1)]) fresh (aa ++ [y]) h B E N→Stays a1 a3 H H'→Q .non H'):YDh C vs H Q
def YEm (C:Addr):Sp:=fun vs H Q E_=>YDh C vs H Q
section
variable {C:Addr}{H0 H H':Hp}{x l a1 a2 a3 a4 a5:Addr}{own:Addr→Option Tag}{hs:Hs}{fresh aa:List Nd}{h:Nat}{B:BgT}{E:EnT}{N:Nat}
theorem GSt.fine (g:GSt C H0 H x l a1 a2 a3 a4 a5 own hs fresh aa h B E N) {a:Addr} (e:H a=none):own a=none:=by
 cases ho:own a with
 |none=>rfl
 |some t=>
  obtain⟨_,xs,z⟩:=g.on a t ho;rw[e]at z;cases z
theorem GSt.enSet (g:GSt C H0 H x l a1 a2 a3 a4 a5 own hs fresh aa h B E N) {p:Str}{k:Nat}{a:Addr} (ho:own a=some (.en p k)) {E':EnT} (e1:∀p' k',¬(p'=p∧k'=k)→E' p' k'=E p' k') {kvs:List (List Key×V)} (e5:H a5=some (.dT kvs)) (hv:Yw kvs (kPK p k)=some (.ref a)) (hl:∀p' k',(E' p' k').length≤N):GSt C H0 (upd H a (.lst ((E' p k).map nV))) x l a1 a2 a3 a4 a5 own hs fresh aa h B E' N:=by
 obtain⟨dx,hx⟩:=g.x_;obtain⟨t2,f2,n2⟩:=g.h2;obtain⟨t3,f3,n3⟩:=g.h3;obtain⟨k4,f4,l4,b4⟩:=g.h4;obtain⟨k5,f5,l5,b5⟩:=g.h5;rw[e5]at f5;cases f5;obtain⟨na,xs0,ha⟩:=g.on a _ ho;have kt:∀t ys,H t=some (.tup ys)→upd H a (.lst ((E' p k).map nV)) t=some (.tup ys):=fun t ys e=>by rw[YE (Yr e ha nofun)];exact e
 have kd:∀t ys,H t=some (.dT ys)→upd H a (.lst ((E' p k).map nV)) t=some (.dT ys):=fun t ys e=>by rw[YE (Yr e ha nofun)];exact e
 have ko:∀c t ys,own c=some t→t≠.en p k→H c=some (.lst ys)→upd H a (.lst ((E' p k).map nV)) c=some (.lst ys):=fun c t ys q1 q2 q3=>by rw[YE (fun z=>by rw[z,ho]at q1;cases q1;exact q2 rfl)];exact q3
 refine⟨g.sm.put na,⟨dx,by rw[YE (Yr hx ha nofun)];exact hx⟩,kd _ _ g.h1,⟨t2,ko _ _ _ g.o2 nofun f2,n2.keep kt⟩,⟨t3,ko _ _ _ g.o3 nofun f3,n3.keep kt⟩,⟨k4,kd _ _ f4,l4,b4.keep (fun _ _ _ _ z=>ko _ _ _ z nofun) kt⟩,⟨kvs,kd _ _ e5,l5,fun p' k'=>?_⟩,fun p' k'=>⟨(g.hb p' k').1,hl p' k'⟩,g.o2,g.o3,fun c t e=>?_,g.nx,g.n1,g.n4,g.n5,g.d14,g.d15,g.d45,fun b o e=>(Yt rfl b o e).elim (g.pl b o) fun z=>.inr (.inr (.inr z))⟩
 ·by_cases hpk:p'=p∧k'=k
  ·obtain⟨rfl,rfl⟩:=hpk;exact .inr ⟨a,hv,ho,YB⟩
  ·rw[e1 p' k' hpk];rcases b5 p' k' with z |⟨c,z1,z2,z3⟩
   ·exact .inl z
   ·exact .inr ⟨c,z1,z2,ko _ _ _ z2 (fun z=>hpk (by injection z with z4 z5;exact⟨z4,z5⟩)) z3⟩
 ·obtain⟨z1,xs,z2⟩:=g.on c t e
  by_cases hc:c=a
  ·subst hc;exact⟨z1,_,YB⟩
  ·exact⟨z1,xs,by rw[YE hc];exact z2⟩
theorem GSt.enNew (g:GSt C H0 H x l a1 a2 a3 a4 a5 own hs fresh aa h B E N) {p:Str}{k:Nat}{e:Addr} (he:H e=some (.lst [])) (h0:H0 e=none) (ho:own e=none) {kvs:List (List Key×V)} (e5:H a5=some (.dT kvs)) (hv:Yw kvs (kPK p k)=none):GSt C H0 (upd H a5 (.dT (Y4 kvs (kPK p k) (.ref e)))) x l a1 a2 a3 a4 a5 (fun c=>if c=e then some (.en p k) else own c) hs fresh aa h B E (N + 1):=by
 obtain⟨dx,hx⟩:=g.x_;obtain⟨t2,f2,n2⟩:=g.h2;obtain⟨t3,f3,n3⟩:=g.h3;obtain⟨k4,f4,l4,b4⟩:=g.h4;obtain⟨k5,f5,l5,b5⟩:=g.h5;rw[e5]at f5;cases f5;have kt:∀t ys,H t=some (.tup ys)→upd H a5 (.dT (Y4 kvs (kPK p k) (.ref e))) t=some (.tup ys):=fun t ys z=>by rw[YE (Yr z e5 nofun)];exact z
 have kl:∀t ys,H t=some (.lst ys)→upd H a5 (.dT (Y4 kvs (kPK p k) (.ref e))) t=some (.lst ys):=fun t ys z=>by rw[YE (Yr z e5 nofun)];exact z
 have no:∀c t,own c=some t→(if c=e then some (.en p k) else own c)=some t:=fun c t z=>by rw[if_neg (fun y=>by rw[y,ho]at z;cases z)];exact z
 refine⟨g.sm.put g.n5,⟨dx,by rw[YE (Yr hx e5 nofun)];exact hx⟩,by rw[YE g.d15];exact g.h1,⟨t2,kl _ _ f2,n2.keep kt⟩,⟨t3,kl _ _ f3,n3.keep kt⟩,⟨k4,by rw[YE g.d45];exact f4,by omega,fun p' k'=>?_⟩,⟨_,YB,by have:=Zu kvs (kPK p k) (.ref e);omega,fun p' k'=>?_⟩,fun p' k'=>⟨by have:=(g.hb p' k').1;omega,by have:=(g.hb p' k').2;omega⟩,no _ _ g.o2,no _ _ g.o3,fun c t z=>?_,g.nx,g.n1,g.n4,g.n5,g.d14,g.d15,g.d45,fun b o z=>(by by_cases hb:b=a5;exact .inr (.inr (.inl hb));rw[YE hb]at z;exact g.pl b o z)⟩
 ·rcases b4 p' k' with z |⟨c,ts,z1,z2,z3,z4⟩
  ·exact .inl z
  ·exact .inr ⟨c,ts,z1,no _ _ z2,kl _ _ z3,z4.keep kt⟩
 ·rw[Z6]
  by_cases hpk:p'=p∧k'=k
  ·obtain⟨rfl,rfl⟩:=hpk;rw[if_pos rfl];refine .inr ⟨e,rfl,if_pos rfl,?_⟩;rcases b5 p' k' with z |⟨c,z1,z2,z3⟩
   ·rw[z.2];exact kl _ _ he
   ·rw[hv]at z1;cases z1
  ·rw[if_neg (fun z=>hpk (YIL z))];rcases b5 p' k' with z |⟨c,z1,z2,z3⟩
   ·exact .inl z
   ·exact .inr ⟨c,z1,no _ _ z2,kl _ _ z3⟩
 ·by_cases hc:c=e
  ·subst hc;exact⟨h0,_,kl _ _ he⟩
  ·rw[if_neg hc]at z;obtain⟨z1,xs,z2⟩:=g.on c t z;exact⟨z1,xs,kl _ _ z2⟩
theorem GSt.bgSet (g:GSt C H0 H x l a1 a2 a3 a4 a5 own hs fresh aa h B E N) {p:Str}{k:Nat}{a:Addr} (ho:own a=some (.bg p k)) {B':BgT} (e1:∀p' k',¬(p'=p∧k'=k)→B' p' k'=B p' k') {ts:List Addr} (qR:Tri H ts (B' p k)) {kvs:List (List Key×V)} (e4:H a4=some (.dT kvs)) (hv:Yw kvs (kPK p k)=some (.ref a)) (hl:∀p' k',(B' p' k').length≤N):GSt C H0 (upd H a (.lst (ts.map V.ref))) x l a1 a2 a3 a4 a5 own hs fresh aa h B' E N:=by
 obtain⟨dx,hx⟩:=g.x_;obtain⟨t2,f2,n2⟩:=g.h2;obtain⟨t3,f3,n3⟩:=g.h3;obtain⟨k4,f4,l4,b4⟩:=g.h4;obtain⟨k5,f5,l5,b5⟩:=g.h5;rw[e4]at f4;cases f4;obtain⟨na,xs0,ha⟩:=g.on a _ ho;have kt:∀t ys,H t=some (.tup ys)→upd H a (.lst (ts.map V.ref)) t=some (.tup ys):=fun t ys e=>by rw[YE (Yr e ha nofun)];exact e
 have kd:∀t ys,H t=some (.dT ys)→upd H a (.lst (ts.map V.ref)) t=some (.dT ys):=fun t ys e=>by rw[YE (Yr e ha nofun)];exact e
 have ko:∀c t ys,own c=some t→t≠.bg p k→H c=some (.lst ys)→upd H a (.lst (ts.map V.ref)) c=some (.lst ys):=fun c t ys q1 q2 q3=>by rw[YE (fun z=>by rw[z,ho]at q1;cases q1;exact q2 rfl)];exact q3
 refine⟨g.sm.put na,⟨dx,by rw[YE (Yr hx ha nofun)];exact hx⟩,kd _ _ g.h1,⟨t2,ko _ _ _ g.o2 nofun f2,n2.keep kt⟩,⟨t3,ko _ _ _ g.o3 nofun f3,n3.keep kt⟩,⟨kvs,kd _ _ e4,l4,fun p' k'=>?_⟩,⟨k5,kd _ _ f5,l5,b5.keep fun _ _ _ _ z=>ko _ _ _ z nofun⟩,fun p' k'=>⟨hl p' k',(g.hb p' k').2⟩,g.o2,g.o3,fun c t e=>?_,g.nx,g.n1,g.n4,g.n5,g.d14,g.d15,g.d45,fun b o e=>(Yt rfl b o e).elim (g.pl b o) fun z=>.inr (.inr (.inr z))⟩
 ·by_cases hpk:p'=p∧k'=k
  ·obtain⟨rfl,rfl⟩:=hpk;exact .inr ⟨a,ts,hv,ho,YB,qR.keep kt⟩
  ·rw[e1 p' k' hpk];rcases b4 p' k' with z |⟨c,us,z1,z2,z3,z4⟩
   ·exact .inl z
   ·exact .inr ⟨c,us,z1,z2,ko _ _ _ z2 (fun z=>hpk (by injection z with z5 z6;exact⟨z5,z6⟩)) z3,z4.keep kt⟩
 ·obtain⟨z1,xs,z2⟩:=g.on c t e
  by_cases hc:c=a
  ·subst hc;exact⟨z1,_,YB⟩
  ·exact⟨z1,xs,by rw[YE hc];exact z2⟩
theorem GSt.bgNew (g:GSt C H0 H x l a1 a2 a3 a4 a5 own hs fresh aa h B E N) {p:Str}{k:Nat}{e:Addr} (he:H e=some (.lst [])) (h0:H0 e=none) (ho:own e=none) {kvs:List (List Key×V)} (e4:H a4=some (.dT kvs)) (hv:Yw kvs (kPK p k)=none):GSt C H0 (upd H a4 (.dT (Y4 kvs (kPK p k) (.ref e)))) x l a1 a2 a3 a4 a5 (fun c=>if c=e then some (.bg p k) else own c) hs fresh aa h B E (N + 1):=by
 obtain⟨dx,hx⟩:=g.x_;obtain⟨t2,f2,n2⟩:=g.h2;obtain⟨t3,f3,n3⟩:=g.h3;obtain⟨k4,f4,l4,b4⟩:=g.h4;obtain⟨k5,f5,l5,b5⟩:=g.h5;rw[e4]at f4;cases f4;have kt:∀t ys,H t=some (.tup ys)→upd H a4 (.dT (Y4 kvs (kPK p k) (.ref e))) t=some (.tup ys):=fun t ys z=>by rw[YE (Yr z e4 nofun)];exact z
 have kl:∀t ys,H t=some (.lst ys)→upd H a4 (.dT (Y4 kvs (kPK p k) (.ref e))) t=some (.lst ys):=fun t ys z=>by rw[YE (Yr z e4 nofun)];exact z
 have no:∀c t,own c=some t→(if c=e then some (.bg p k) else own c)=some t:=fun c t z=>by rw[if_neg (fun y=>by rw[y,ho]at z;cases z)];exact z
 refine⟨g.sm.put g.n4,⟨dx,by rw[YE (Yr hx e4 nofun)];exact hx⟩,by rw[YE g.d14];exact g.h1,⟨t2,kl _ _ f2,n2.keep kt⟩,⟨t3,kl _ _ f3,n3.keep kt⟩,⟨_,YB,by have:=Zu kvs (kPK p k) (.ref e);omega,fun p' k'=>?_⟩,⟨k5,by rw[YE g.d45.symm];exact f5,by omega,fun p' k'=>?_⟩,fun p' k'=>⟨by have:=(g.hb p' k').1;omega,by have:=(g.hb p' k').2;omega⟩,no _ _ g.o2,no _ _ g.o3,fun c t z=>?_,g.nx,g.n1,g.n4,g.n5,g.d14,g.d15,g.d45,fun b o z=>(by by_cases hb:b=a4;exact .inr (.inl hb);rw[YE hb]at z;exact g.pl b o z)⟩
 ·rw[Z6]
  by_cases hpk:p'=p∧k'=k
  ·obtain⟨rfl,rfl⟩:=hpk;rw[if_pos rfl];refine .inr ⟨e,[],rfl,if_pos rfl,kl _ _ he,?_⟩;rcases b4 p' k' with z |⟨c,us,z1,z2,z3,z4⟩
   ·rw[z.2];exact⟨rfl,fun i t q e1=>nomatch e1⟩
   ·rw[hv]at z1;cases z1
  ·rw[if_neg (fun z=>hpk (YIL z))];rcases b4 p' k' with z |⟨c,us,z1,z2,z3,z4⟩
   ·exact .inl z
   ·exact .inr ⟨c,us,z1,no _ _ z2,kl _ _ z3,z4.keep kt⟩
 ·rcases b5 p' k' with z |⟨c,z1,z2,z3⟩
  ·exact .inl z
  ·exact .inr ⟨c,z1,no _ _ z2,kl _ _ z3⟩
 ·by_cases hc:c=e
  ·subst hc;exact⟨h0,_,kl _ _ he⟩
  ·rw[if_neg hc]at z;obtain⟨z1,xs,z2⟩:=g.on c t z;exact⟨z1,xs,kl _ _ z2⟩
theorem GSt.more (g:GSt C H0 H x l a1 a2 a3 a4 a5 own hs fresh aa h B E N) {N':Nat} (hN:N≤N'):GSt C H0 H x l a1 a2 a3 a4 a5 own hs fresh aa h B E N':=by
 obtain⟨k4,f4,l4,b4⟩:=g.h4;obtain⟨k5,f5,l5,b5⟩:=g.h5;exact⟨g.sm,g.x_,g.h1,g.h2,g.h3,⟨k4,f4,by omega,b4⟩,⟨k5,f5,by omega,b5⟩,fun p k=>⟨by have:=(g.hb p k).1;omega,by have:=(g.hb p k).2;omega⟩,g.o2,g.o3,g.on,g.nx,g.n1,g.n4,g.n5,g.d14,g.d15,g.d45,g.pl⟩
end
structure Met (g:YT) (M:List Nd) (B:BgT) (E:EnT):Prop where
 bg:∀p k r d i,(r,d,i)∈B p k↔(Nd.beg r d i k∈M∧ZD g r d=some p)
 en:∀p k j,j∈E p k↔Nd.part p k j∈M
theorem Met.addE {g:YT}{M:List Nd}{B:BgT}{E:EnT} (m:Met g M B E) (p:Str) (k j:Nat):Met g (M ++ [.part p k j]) B (addE E p k j):=by
 refine⟨fun p' k' r d i=>?_,fun p' k' j'=>?_⟩
 ·rw[m.bg,List.mem_append];constructor
  ·exact fun z=>⟨.inl z.1,z.2⟩
  ·rintro⟨z |z,z2⟩
   ·exact⟨z,z2⟩
   ·cases List.mem_singleton.mp z
 ·unfold FR.addE;rw[List.mem_append];split
  ·rename_i hpk
   obtain⟨rfl,rfl⟩:=hpk;rw[List.mem_append,m.en];constructor
   ·rintro(z |z)
    ·exact .inl z
    ·cases List.mem_singleton.mp z;exact .inr (List.mem_singleton.mpr rfl)
   ·rintro(z |z)
    ·exact .inl z
    ·cases List.mem_singleton.mp z;exact .inr (List.mem_singleton.mpr rfl)
  ·rename_i hpk
   rw[m.en];constructor
   ·exact .inl
   ·rintro(z |z)
    ·exact z
    ·cases List.mem_singleton.mp z;exact(hpk ⟨rfl,rfl⟩).elim
theorem Met.addB {g:YT}{M:List Nd}{B:BgT}{E:EnT} (m:Met g M B E) {r d i k:Nat}{p:Str} (hp:ZD g r d=some p):Met g (M ++ [.beg r d i k]) (addB B p k (r,d,i)) E:=by
 refine⟨fun p' k' r' d' i'=>?_,fun p' k' j'=>?_⟩
 ·unfold FR.addB;rw[List.mem_append];split
  ·rename_i hpk
   obtain⟨rfl,rfl⟩:=hpk;rw[List.mem_append,m.bg];constructor
   ·rintro(z |z)
    ·exact⟨.inl z.1,z.2⟩
    ·cases List.mem_singleton.mp z;exact⟨.inr (List.mem_singleton.mpr rfl),hp⟩
   ·rintro⟨z |z,z2⟩
    ·exact .inl ⟨z,z2⟩
    ·cases List.mem_singleton.mp z;exact .inr (List.mem_singleton.mpr rfl)
  ·rename_i hpk
   rw[m.bg];constructor
   ·exact fun z=>⟨.inl z.1,z.2⟩
   ·rintro⟨z |z,z2⟩
    ·exact⟨z,z2⟩
    ·cases List.mem_singleton.mp z;rw[hp]at z2;cases z2;exact(hpk ⟨rfl,rfl⟩).elim
 ·rw[m.en,List.mem_append];constructor
  ·exact .inl
  ·rintro(z |z)
   ·exact z
   ·cases List.mem_singleton.mp z
theorem Met.addC {g:YT}{M:List Nd}{B:BgT}{E:EnT} (m:Met g M B E) {r d i k:Nat} (hp:ZD g r d=none):Met g (M ++ [.beg r d i k]) B E:=by
 refine⟨fun p' k' r' d' i'=>?_,fun p' k' j'=>?_⟩
 ·rw[m.bg,List.mem_append];constructor
  ·exact fun z=>⟨.inl z.1,z.2⟩
  ·rintro⟨z |z,z2⟩
   ·exact⟨z,z2⟩
   ·cases List.mem_singleton.mp z;rw[hp]at z2;cases z2
 ·rw[m.en,List.mem_append];constructor
  ·exact .inl
  ·rintro(z |z)
   ·exact z
   ·cases List.mem_singleton.mp z
structure GEnv (H0:Hp) (l:Addr) (xs:List V) (g:YT) (cs:List Nat):Prop where
 hl:H0 l=some (.lst xs)
 hds:Yb H0 xs (g.map ZS)
 hg:Yv g=true
 hc:cs.length≤60
structure YHO (C:Addr) (H0 H:Hp) (x l a1 a2 a3 a4 a5 t:Addr) (xs:List V) (g:YT) (cs:List Nat) (own:Addr→Option Tag) (hs:Hs) (met fresh aa:List Nd) (h:Nat) (B:BgT) (E:EnT) (N:Nat) (y:Nd):Prop where
 env:GEnv H0 l xs g cs
 st:GSt C H0 H x l a1 a2 a3 a4 a5 own hs fresh aa h B E N
 ht:H t=some (.tup ((Yu y).map kV))
 gr:GrM g cs hs (met ++ [y]) fresh aa h
 lk:YL hs y=some h
 cl:Cl g hs (·∈met)
 mt:Met g met B E
 hN:N≤met.length
def MeetK (C:Addr) (H0:Hp) (x l a1 a2 a3 a4 a5:Addr) (g:YT) (cs:List Nat) (hs:Hs) (met:List Nd) (h:Nat) (y:Nd) (Q:VK):Prop:=
 ∀H' own' hs' fresh' eF B' E' N',GSt C H0 H' x l a1 a2 a3 a4 a5 own' hs' fresh' eF h B' E' N'→GrM g cs hs' (met ++ [y]) fresh' eF h→Cl g hs' (·∈met ++ [y])→Met g (met ++ [y]) B' E'→N'≤met.length + 1→(∀z m,YL hs z=some m→YL hs' z=some m)→Q .non H'
inductive YGE (C:Addr) (vs:List V) (H:Hp) (Q:VK):Prop where
 |mk (H0:Hp) (x l a1 a2 a3 a4 a5 t:Addr) (xs:List V) (g:YT) (cs:List Nat) (own:Addr→Option Tag) (hs:Hs) (met fresh aa:List Nd) (h:Nat) (B:BgT) (E:EnT) (N:Nat) (p:Str) (k j:Nat) (h0_:vs=[.ref x,.ref t]) (h1_:YHO C H0 H x l a1 a2 a3 a4 a5 t xs g cs own hs met fresh aa h B E N (.part p k j)) (h2_:MeetK C H0 x l a1 a2 a3 a4 a5 g cs hs met h (.part p k j) Q):YGE C vs H Q
def YIN (C:Addr):Sp:=fun vs H Q E_=>YGE C vs H Q
inductive YGF (C:Addr) (vs:List V) (H:Hp) (Q:VK):Prop where
 |mk (H0:Hp) (x l a1 a2 a3 a4 a5 t:Addr) (xs:List V) (g:YT) (cs:List Nat) (own:Addr→Option Tag) (hs:Hs) (met fresh aa:List Nd) (h:Nat) (B:BgT) (E:EnT) (N:Nat) (r d i k:Nat) (p:Str) (h0_:vs=[.ref x,.ref t,.str p]) (h1_:ZD g r d=some p) (h2_:YHO C H0 H x l a1 a2 a3 a4 a5 t xs g cs own hs met fresh aa h B E N (.beg r d i k)) (h3_:MeetK C H0 x l a1 a2 a3 a4 a5 g cs hs met h (.beg r d i k) Q):YGF C vs H Q
def YIO (C:Addr):Sp:=fun vs H Q E_=>YGF C vs H Q
inductive YIP (C:Addr) (vs:List V) (H:Hp) (Q:VK):Prop where
 |mk (H0:Hp) (x l a1 a2 a3 a4 a5 t:Addr) (xs:List V) (g:YT) (cs:List Nat) (own:Addr→Option Tag) (hs:Hs) (met fresh aa:List Nd) (h:Nat) (B:BgT) (E:EnT) (N:Nat) (y:Nd) (h0_:vs=[.ref x,.ref t]) (h1_:YHO C H0 H x l a1 a2 a3 a4 a5 t xs g cs own hs met fresh aa h B E N y) (h2_:MeetK C H0 x l a1 a2 a3 a4 a5 g cs hs met h y Q):YIP C vs H Q
def YKe (C:Addr):Sp:=fun vs H Q E_=>YIP C vs H Q
theorem cl_part {g:YT}{cs:List Nat}{hs:Hs}{met met' fresh aa:List Nd}{h:Nat}{p:Str}{k j:Nat}{B:BgT}{E:EnT} (c:Cl g hs (·∈met)) (gr:GrM g cs hs met' fresh aa h) (lk:YL hs (.part p k j)=some h) (mt:Met g met B E) (hall:∀q∈B p k,∃v,YL hs (.beg q.1 (q.2.1 + 1) q.2.2 j)=some v):Cl g hs (·∈met ++ [.part p k j]):=by
 have nb:∀{r d i k'},Nd.beg r d i k'∈met ++ [.part p k j]→Nd.beg r d i k'∈met:=fun z=>by
  rcases List.mem_append.mp z with z |z
  ·exact z
  ·cases List.mem_singleton.mp z
 refine⟨fun r d i k' p' j' a b m1 m2 hp e1 e2=>?_,fun r ru i j' a er m1 e1=>c.up r ru i j' a er (nb m1) e1⟩;have m1':=nb m1;rcases List.mem_append.mp m2 with z |z
 ·exact c.join r d i k' p' j' a b m1' z hp e1 e2
 ·cases List.mem_singleton.mp z;obtain⟨v,hv⟩:=hall (r,d,i) ((mt.bg p k r d i).mpr ⟨m1',hp⟩);rw[lk]at e2;cases e2;exact⟨v,hv,YLb (gr.begLe hv) (Nat.le_max_right _ _)⟩
theorem cl_beg {g:YT}{cs:List Nat}{hs:Hs}{met met' fresh aa:List Nd}{h:Nat}{r d i k:Nat}{p:Str}{B:BgT}{E:EnT} (hp:ZD g r d=some p) (c:Cl g hs (·∈met)) (gr:GrM g cs hs met' fresh aa h) (lk:YL hs (.beg r d i k)=some h) (mt:Met g met B E) (hall:∀j∈E p k,∃v,YL hs (.beg r (d + 1) i j)=some v):Cl g hs (·∈met ++ [.beg r d i k]):=by
 have np:∀{p' k' j'},Nd.part p' k' j'∈met ++ [.beg r d i k]→Nd.part p' k' j'∈met:=fun z=>by
  rcases List.mem_append.mp z with z |z
  ·exact z
  ·cases List.mem_singleton.mp z
 refine⟨fun r' d' i' k' p' j' a b m1 m2 hp' e1 e2=>?_,fun r' ru i' j' a er m1 e1=>?_⟩
 ·have m2':=np m2;rcases List.mem_append.mp m1 with z |z
  ·exact c.join r' d' i' k' p' j' a b z m2' hp' e1 e2
  ·cases List.mem_singleton.mp z;rw[hp]at hp';cases hp';obtain⟨v,hv⟩:=hall j' ((mt.en p k j').mpr m2');rw[lk]at e1;cases e1;exact⟨v,hv,YLb (gr.begLe hv) (Nat.le_max_left _ _)⟩
 ·rcases List.mem_append.mp m1 with z |z
  ·exact c.up r' ru i' j' a er z e1
  ·cases List.mem_singleton.mp z;unfold ZD at hp;rw[er]at hp;have hp:ru.2.1[ru.2.1.length]?=some p:=hp;rw[List.getElem?_eq_none (YLG _)]at hp;cases hp
theorem YKf {g:YT}{cs:List Nat}{hs:Hs}{met met' fresh aa:List Nd}{h:Nat}{r i k:Nat}{ru:ZW} (er:g[r]?=some ru) (c:Cl g hs (·∈met)) (gr:GrM g cs hs met' fresh aa h) (lk:YL hs (.beg r ru.2.1.length i k)=some h) (hv:∃v,YL hs (.part ru.1 i k)=some v):Cl g hs (·∈met ++ [.beg r ru.2.1.length i k]):=by
 refine⟨fun r' d' i' k' p' j' a b m1 m2 hp' e1 e2=>?_,fun r' ru' i' j' a er' m1 e1=>?_⟩
 ·have m2':Nd.part p' k' j'∈met:=by
   rcases List.mem_append.mp m2 with z |z
   ·exact z
   ·cases List.mem_singleton.mp z
  rcases List.mem_append.mp m1 with z |z
  ·exact c.join r' d' i' k' p' j' a b z m2' hp' e1 e2
  ·cases List.mem_singleton.mp z;unfold ZD at hp';rw[er]at hp';have hp':ru.2.1[ru.2.1.length]?=some p':=hp';rw[List.getElem?_eq_none (YLG _)]at hp';cases hp'
 ·rcases List.mem_append.mp m1 with z |z
  ·exact c.up r' ru' i' j' a er' z e1
  ·have z:=List.mem_singleton.mp z
   injection z with z1 z2 z3 z4
   subst z1 z3 z4;rw[er]at er';cases er';obtain⟨v,hv⟩:=hv;rw[lk]at e1;cases e1;exact⟨v,hv,gr.anyLe hv⟩
section
variable {C:Addr}{H0 H H':Hp}{x l a1 a2 a3 a4 a5:Addr}{own:Addr→Option Tag}{hs:Hs}{fresh aa:List Nd}{h:Nat}{B:BgT}{E:EnT}{N:Nat}
theorem GSt.swap (g:GSt C H0 H x l a1 a2 a3 a4 a5 own hs fresh aa h B E N) {e dx:Addr} (he:H e=none) (kp:∀b o,b≠x→H b=some o→H' b=some o) (hx:H' x=some (.ins C dx (YCr l a1 (h + 1) a3 e a4 a5))) (he':H' e=some (.lst [])) (hpl:∀b u,H' b=some u→H b=some u∨ZB u=true):GSt C H0 H' x l a1 a3 e a4 a5 (fun c=>if c=a3 then some .fr else if c=e then some .hi else if c=a2 then none else own c) hs aa [] (h + 1) B E N:=by
 obtain⟨dx0,hx0⟩:=g.x_;obtain⟨t2,f2,n2⟩:=g.h2;obtain⟨t3,f3,n3⟩:=g.h3;obtain⟨k4,f4,l4,b4⟩:=g.h4;obtain⟨k5,f5,l5,b5⟩:=g.h5;have kt:∀t ys,H t=some (.tup ys)→H' t=some (.tup ys):=fun t ys z=>kp _ _ (Yr z hx0 nofun) z
 have kl:∀t ys,H t=some (.lst ys)→H' t=some (.lst ys):=fun t ys z=>kp _ _ (Yr z hx0 nofun) z
 have kd:∀t ys,H t=some (.dT ys)→H' t=some (.dT ys):=fun t ys z=>kp _ _ (Yr z hx0 nofun) z
 have oe:own e=none:=g.fine he;have no:∀c t,own c=some t→t≠.fr→t≠.hi→(if c=a3 then some Tag.fr else if c=e then some .hi else if c=a2 then none else own c)=some t:=fun c t z z1 z2=>by
  rw[if_neg (fun y=>by rw[y,g.o3]at z;cases z;exact z2 rfl),if_neg (fun y=>by rw[y,oe]at z;cases z),if_neg (fun y=>by rw[y,g.o2]at z;cases z;exact z1 rfl)];exact z
 have ne3:e≠a3:=fun z=>by rw[z,f3]at he;cases he
 refine⟨fun b o z=>?_,⟨dx,hx⟩,kd _ _ g.h1,⟨t3,kl _ _ f3,n3.keep kt⟩,⟨[],he',rfl,fun i t y z=>nomatch z⟩,⟨k4,kd _ _ f4,l4,fun p k=>?_⟩,⟨k5,kd _ _ f5,l5,fun p k=>?_⟩,g.hb,if_pos rfl,by rw[if_neg ne3,if_pos rfl],fun c t z=>?_,g.nx,g.n1,g.n4,g.n5,g.d14,g.d15,g.d45,fun b o z=>(hpl b o z).elim (g.pl b o) fun z=>.inr (.inr (.inr z))⟩
 ·exact kp _ _ (fun y=>by rw[y,g.nx]at z;cases z) (g.sm _ _ z)
 ·rcases b4 p k with z |⟨c,ts,z1,z2,z3,z4⟩
  ·exact .inl z
  ·exact .inr ⟨c,ts,z1,no _ _ z2 nofun nofun,kl _ _ z3,z4.keep kt⟩
 ·rcases b5 p k with z |⟨c,z1,z2,z3⟩
  ·exact .inl z
  ·exact .inr ⟨c,z1,no _ _ z2 nofun nofun,kl _ _ z3⟩
 ·by_cases h3:c=a3
  ·subst h3;exact⟨(g.on _ _ g.o3).1,_,kl _ _ f3⟩
  ·rw[if_neg h3]at z
   by_cases h4:c=e
   ·subst h4;exact⟨g.sm.free he,_,he'⟩
   ·rw[if_neg h4]at z
    by_cases h2:c=a2
    ·rw[if_pos h2]at z;cases z
    ·rw[if_neg h2]at z;obtain⟨z1,xs,z2⟩:=g.on c t z;exact⟨z1,xs,kl _ _ z2⟩
end
structure ZE (g:YT) (cs:List Nat) (hs:Hs):Prop where
 nd:(hs.map (·.1)).Nodup
 leg:∀x v,YL hs x=some v→Leg g cs x
 why:∀x v,YL hs x=some v→Why g cs hs x v
 cl:Cl g hs (fun x=>∃v,YL hs x=some v)
inductive YIQ (C:Addr) (vs:List V) (H:Hp) (Q:VK):Prop where
 |mk (H0:Hp) (x l a1 a2 a3 a4 a5:Addr) (xs:List V) (g:YT) (cs:List Nat) (own:Addr→Option Tag) (hs:Hs) (fresh:List Nd) (B:BgT) (E:EnT) (h0_:vs=[.ref x]) (h1_:GEnv H0 l xs g cs) (h2_:GSt C H0 H x l a1 a2 a3 a4 a5 own hs fresh [] 0 B E 0) (h3_:GrM g cs hs [] fresh [] 0) (h4_:Met g [] B E) (h5_:∀H' hs' a2' a3' own' h' B' E' N',GSt C H0 H' x l a1 a2' a3' a4 a5 own' hs' [] [] h' B' E' N'→ZE g cs hs'→(∀z m,YL hs z=some m→YL hs' z=some m)→Q .non H'):YIQ C vs H Q
def YKg (C:Addr):Sp:=fun vs H Q E_=>YIQ C vs H Q
theorem GrM.fin_ {g:YT}{cs:List Nat}{hs:Hs}{met:List Nd}{h:Nat} (m:GrM g cs hs met [] [] h) (c:Cl g hs (·∈met)):ZE g cs hs:=by
 have key:∀x,(∃v,YL hs x=some v)→x∈met:=fun x ⟨v,hv⟩=>by
  rcases YDg m hv with z |z |z
  ·exact z
  ·cases z
  ·cases z
 exact⟨m.nd,m.leg,m.why,fun r d i k p j a b m1 m2 hp e1 e2=>c.join r d i k p j a b (key _ m1) (key _ m2) hp e1 e2,fun r ru i j a er m1 e1=>c.up r ru i j a er (key _ m1) e1⟩
end FR
namespace L2
open PySem PySem.Spec PyProof.Rows
def IteS (z:Str):It:=
 ⟨fun i _=>i < z.cps.size,fun i H v H'=>∃T c,H T=none∧v=.ref T∧z.cps[i]?=some c∧H'=upd H T (.tup [.int i,.str ⟨#[c]⟩]),fun i _=>i=z.cps.size⟩
theorem YEn {prog:Program}{w:World}{A:Around} (hh:A.handled=none) (it:Addr) (x:Str) (t:Tok):
  Draws prog w A it [it] x.cps.size (fun i v=>∃c u,x.cps[i]?=some c∧v=.str ⟨#[c]⟩ u) (fun i h=>h.IsStrIter it (strIterType x) x t i):=by
 unfold strIterType;split
 ·exact Draws.strAscii hh it x t
 ·exact Draws.strWide hh it x t
theorem YHP {P:Program}{w:World}{K:W.Frag}{elts:List Expr}{k:Nat}{pos:Pos} (z:Str) (t:Tok) (e it:Addr):
  YDF P w K (.Tuple elts k pos) (IteS z) [e,it] e (fun i h=>(∃old,IsEnum h e it (i:Nat) old)∧h.IsStrIter it (strIterType z) z t i∧e≠it) where
 mem:=by simp
 obj:=fun i h st b hb=>by
  obtain⟨⟨old,he⟩,⟨o,eo,c,d⟩,_⟩:=st;rcases List.mem_cons.mp hb with rfl |hb
  ·exact⟨_,he,fun v z=>by cases z⟩
  ·have eb:b=it:=by simpa using hb
   subst eb;exact⟨o,eo,fun v z=>by rw[d]at z;cases z⟩
 keep:=fun i h h' st k=>by
  obtain⟨⟨old,he⟩,⟨o,eo,r⟩,hne⟩:=st;exact⟨⟨old,k e (by simp) _ he⟩,⟨o,k it (by simp) o eo,r⟩,hne⟩
 item:=by
  intro X hP hw hK hc i pins s σ H E I hf st hg;subst hP hw hK;obtain⟨⟨old,he⟩,hit,hne⟩:=st;have hlt:i < z.cps.size:=hg;have nef:e∉[it]:=by
   simp only[List.mem_cons,List.not_mem_nil,or_false];exact hne
  refine wpAny_pyNext_enum_itemD (YEn (prog:=X.prog) (w:=X.w) (A:=X.A.in1) (I.ok.hd hc) it z t) he hit hlt hne nef fun u' h' tk hPu ho hst hT hsz hk=>?_
  obtain⟨c,uu,hcz,rfl⟩:=hPu;refine⟨_,rfl,wpAny_letOwnedTupleGo_enum (s:={ s with heap:=h',toks:=tk + 1 }) ho fun h'' he' hs'=>?_⟩;have u9:e < s.heap.objs.size:=Heap.lt_size he;have hTe:s.heap.objs.size≠e:=Nat.ne_of_gt u9;have kk:∀b o,b∉[e,it]→s.heap.get? b=some o→h''.get? b=some o:=fun b o hb q=>by
   have h1:b≠e:=fun z=>hb (by simp[z])
   have h2:b≠it:=fun z=>hb (by simp[z])
   exact(hs'.2 b h1).trans (hk b o h1 h2 q)
  have I1:Inv X pins σ H { s with heap:=h'',toks:=tk + 1 }:=I.turns kk hf;have hT':h''.get? s.heap.objs.size=some { cls:=.type "tuple",data:=.seq #[.int i tk,.str ⟨#[c]⟩ uu] }:=(hs'.2 _ hTe).trans hT;have hfr:H s.heap.objs.size=none:=I.hok.fresh (YLG _);have I2:=I1.trackT (T:=s.heap.objs.size) (xs:=[.int i,.str ⟨#[c]⟩]) (its:=[.int i tk,.str ⟨#[c]⟩ uu]) hfr ⟨_,hT',rfl,_,rfl⟩ (.cons ⟨_,rfl⟩ (.cons ⟨_,rfl⟩ .nil)) (by show 2≤sizeLine;rw[sizeLine_eq];decide)
   (fun o q=>absurd (Heap.lt_size q) (Nat.not_lt.mpr I.sz)) fun p hp z=>absurd (Heap.lt_size (I.pin p hp).1) (by rw[z];exact Nat.lt_irrefl _)
  obtain⟨o3,e3,r3⟩:=hst;refine⟨.ref s.heap.objs.size,_,I2,rfl,⟨_,c,hfr,rfl,hcz,rfl⟩,⟨⟨_,by simpa using he'⟩,⟨o3,(hs'.2 it hne.symm).trans e3,r3⟩,hne⟩,fun b hb=>?_⟩;obtain⟨o,eo,_⟩:∃o,s.heap.get? b=some o∧True:=by
   rcases List.mem_cons.mp hb with rfl |hb
   ·exact⟨_,he,trivial⟩
   ·have eb:b=it:=by simpa using hb
    subst eb;obtain⟨o,eo,_⟩:=hit;exact⟨o,eo,trivial⟩
  rw[YE (YLY (Heap.lt_size eo))];exact(hf b hb).1
 done:=by
  intro X hP hw hK hc i pins s σ H E I hf st hg;subst hP hw hK;obtain⟨⟨old,he⟩,hit,hne⟩:=st;have ei:i=z.cps.size:=hg;subst ei;exact wpAny_pyNext_enum_endD (YEn (prog:=X.prog) (w:=X.w) (A:=X.A.in1) (I.ok.hd hc) it z t) he hit fun h' eb=>⟨rfl,I.turns (t':=s.toks) (fun b o hb q=>eb b o (fun z=>hb (by simp[z])) q) hf⟩
 self:=fun _ _ _ _ _ st h=>by
  obtain⟨⟨old,he⟩,_⟩:=st;exact wpAny_pyIter_enum he h
section
variable {X:Cx}{elts:List Expr}{k:Nat}{tpos:Pos}
def iEnumS (ta:TA):TI:=fun σ H R=>ta σ H fun vs H1=>∃z,vs=[.str z]∧R (IteS z) H1
theorem YKh {a:Expr}{ta:TA}{p pos:Pos} (hg:Gl X "enumerate") (hm:X.mg "enumerate"=none) (ha:PA X [a] ta) (hs:starEach [a] X.env=[(false,eval a X.env)]:=by rfl):
  PI X (.Tuple elts k tpos) (.Call (.Name "enumerate" p) [a] [] pos) (iEnumS ta):=by
 intro pins s σ H R I h;refine Call_ (XE I hg hm PyProof.Rows.Boot.«enumerate» (PyProof.Rows.callWith_type1 (thn (ha pos pins s σ H _ I h) fun us s1 ⟨vs,H1,I1,r1,q1⟩=>?_) hs rfl));obtain⟨z,rfl,q⟩:=q1;obtain⟨u,rfl,t,rfl⟩:=Jc r1;refine call_enumerate_str fun h' he hit hsz hk=>?_
 have I2:Inv X pins σ H1 { s1 with heap:=h' }:=I1.kept (t':=s1.toks) hk;refine wpAny_pyIter_enum he ?_;refine⟨s1.heap.objs.size + 1,[s1.heap.objs.size + 1,s1.heap.objs.size],_,_,H1,rfl,I2,YHP z t _ _,⟨⟨_,by simpa using he⟩,hit,Nat.succ_ne_self _⟩,fun b hb=>?_,q⟩;rcases List.mem_cons.mp hb with rfl |hb
 ·exact I1.fpOk (Nat.le_succ _) (I1.hok.fresh (Nat.le_succ _))
 ·have eb:b=s1.heap.objs.size:=by simpa using hb
  subst eb;exact I1.fpOk (YLG _) (I1.hok.fresh (YLG _))
end
theorem YJS {z:Str}{g:TG}{tb:TS}{D:YAY}{σ:St}{H:Hp} (Pv:Nat→St→Hp→Prop) (h0:Pv 0 σ H)
  (hs:∀i c T σ H,z.cps[i]?=some c→H T=none→Pv i σ H→g (.ref T) σ (upd H T (.tup [.int (i:Nat),.str ⟨#[c]⟩])) fun σ2 H2=>tb { D with nx:=Pv (i + 1),ct:=Pv (i + 1),bk:=D.nx } σ2 H2) (hd:∀σ H,Pv z.cps.size σ H→D.nx σ H):
  ∃W:Nat→Nat→St→Hp→Prop,(∃m,W 0 m σ H)∧∀i m σ H,W i m σ H→
   ((IteS z).stop i H∧D.nx σ H)∨((IteS z).go i H∧∃N:St→Hp→Prop,(∀σ' H',N σ' H'→∃m',m' < m∧W (i + 1) m' σ' H')∧∀x H',(IteS z).yld i H x H'→g x σ H' fun σ2 H2=>tb { D with nx:=N,ct:=N,bk:=D.nx } σ2 H2):=by
 refine⟨fun i m σ H=>m=z.cps.size - i∧i≤z.cps.size∧Pv i σ H,⟨z.cps.size,by simp,YLN _,h0⟩,?_⟩;rintro i m σ H ⟨rfl,hi,p⟩
 by_cases hlt:i < z.cps.size
 ·refine .inr ⟨hlt,Pv (i + 1),fun σ' H' p'=>⟨z.cps.size - (i + 1),by omega,rfl,hlt,p'⟩,fun x H' y=>?_⟩;obtain⟨T,c,hT,rfl,hc,rfl⟩:=y;exact hs i c T σ H hc hT p
 ·have ei:i=z.cps.size:=by omega
  subst ei;exact .inl ⟨rfl,hd σ H p⟩
end L2
namespace L2
open PySem PySem.Spec PyProof.Rows
section
variable {X:Cx}{pins:List (Addr×Obj)}{σ:St}{H:Hp}{s:Shared}{d:Addr}{kvs:List (List Key×V)}
theorem Inv.freezeT (I:Inv X pins σ H s) (hd:H d=some (.dT kvs)):∃o,Inv X pins σ (upd H d (.frz o (.dT kvs))) s:=by
 have nt:∀c xs,H c=some (.tup xs)→c≠d:=fun c xs r z=>by rw[z,hd]at r;cases r
 obtain⟨_,_,_,_,o,_,_,ho,_⟩:=(show Y8 X.prog X.w H s.heap d (.dT kvs) from I.hok d _ hd);refine⟨o,I.write (x:=d) (e:=d) (h':=s.heap) (t':=s.toks) (by rw[hd];trivial) (.inl rfl) (fun _ _ _ e=>e) ⟨o,ho⟩ ⟨ho,?_⟩⟩;exact(I.hok d _ hd).stay (fun _ _ _ e=>e) (fun b e=>by rw[YE (Yr e hd nofun)];exact e) fun b xs e=>by rw[YE (nt b xs e)];exact e
theorem Inv.dropT (I:Inv X pins σ H s) (hd:H d=some (.dT kvs)):Inv X pins σ (del H d) s:=by
 have nn:∀c,H c=none→del H d c=none:=fun c e=>by
  unfold del;split
  ·rfl
  ·exact e
 have nt:∀c xs,H c=some (.tup xs)→c≠d:=fun c xs r z=>by rw[z,hd]at r;cases r
 have no:∀c y,H c=some (.own y)→c≠d:=fun c xs r z=>by rw[z,hd]at r;cases r
 have nb:∀c y,H c=some (.tbl y)→c≠d:=fun c xs r z=>by rw[z,hd]at r;cases r
 have nf:∀c o y,H c=some (.frz o y)→c≠d:=fun c o xs r z=>by rw[z,hd]at r;cases r
 refine⟨I.ok,I.os,I.bare,⟨I.base.keep,I.base.slot,fun b o q n hx=>nn _ (I.base.free b o q n hx),I.base.there,fun b xs q=>?_,fun b ob u q=>?_,fun b ps q=>?_⟩,I.loc,I.cell,nn _ I.free,fun x c h1=>nn _ (I.freeC x c h1),fun p hp'=>?_,fun a u ea=>?_,I.len⟩
 ·have z:=I.base.tups b xs q;rw[Zy (nt _ _ z)];exact z
 ·have z:=I.base.frzs b ob u q;rw[Zy (nf _ _ _ z)];exact z
 ·obtain⟨mo,z⟩:=I.base.tbls b ps q;exact⟨mo,by rw[Zy (nb _ _ z)];exact z⟩
 ·obtain⟨p1,p2,p3⟩:=I.pin p hp';exact⟨p1,nn _ p2,p3⟩
 ·have ha:a≠d:=fun z=>by rw[z,YBn]at ea;cases ea
  rw[Zy ha]at ea;exact(I.hok a u ea).stay (fun _ _ _ e=>e) (fun b e=>by rw[Zy (no _ _ e)];exact e) fun b xs e=>by rw[Zy (nt b xs e)];exact e
end
section
variable {X:Cx}
def tKeep2 (t:TE):TE:=fun σ H Q=>t σ H fun v H1=>∃d c1 c2 kvs k1 k2,H1 d=some (.dT kvs)∧H1 c1=some (.dT k1)∧H1 c2=some (.dT k2)∧d≠c1∧d≠c2∧c1≠c2∧∀o,Q v (upd (del (del H1 c1) c2) d (.frz o (.dT kvs)))
theorem YKi {e:Expr}{t:TE} (h:PE X e t):PE X e (tKeep2 t):=by
 intro pins s σ H Q I hw;refine thn (h pins s σ H _ I hw) fun v s1 ⟨x,H1,I1,r1,d,c1,c2,kvs,k1,k2,e0,e1,e2,n1,n2,n3,q⟩=>?_
 have I2:=I1.dropT e1;have I3:=I2.dropT (d:=c2) (kvs:=k2) (by rw[Zy n3.symm];exact e2);obtain⟨o,I4⟩:=I3.freezeT (d:=d) (kvs:=kvs) (by rw[Zy n2,Zy n1];exact e0);exact⟨x,_,I4,r1,q o⟩
end
end L2
namespace L2
open PySem PySem.Spec PyProof.Rows
section
variable {prog:Program}{w:World}{A:Around}{E:Value→Shared→Prop}{s:Shared}
end
theorem KT.get {H:Hp}{kvs:List (List Key×V)}{xs:List (List Key×Addr×Value)} (r:KT H kvs xs):∀{i:Nat}{kv:List Key×V},kvs[i]?=some kv→∃b u,xs[i]?=some (kv.1,b,u)∧H b=some (.tup (kv.1.map kV))∧Yx kv.2 u:=by
 unfold KT at r
 induction r with
 |nil=>intro i kv e;cases e
 |@cons p q ps qs h t ih=>
  intro i kv e;cases i with
  |zero=>
   cases e;exact⟨q.2.1,q.2.2,by rw[h.1];rfl,h.2.1,h.2.2⟩
  |succ j=>exact ih (i:=j) e
section
variable {X:Cx}{elts:List Expr}{k:Nat}{tpos:Pos}
end
end L2
namespace L2
open PySem PySem.Spec PyProof.Rows
section
variable {X:Cx}
end
end L2
namespace L2
open PySem PySem.Spec PyProof.Rows
section
variable {X:Cx}{tg:Expr}
end
end L2
namespace L2
open PySem PySem.Spec PyProof.Rows
section
variable {prog:Program}{w:World}{A:Around}{E:Value→Shared→Prop}{s:Shared}
theorem YEo {it d:Addr}{i n ep:Nat}{od:Obj}{es:Array DictEntry}{en:DictEntry}{Q:Option Value→Shared→Prop} (hit:s.heap.IsKeyIter it d i n ep)
  (hod:s.heap.get? d=some od) (hdd:od.data=.dict es ep) (hsz:es.size=n) (hx:es[i]?=some en)
  (hQ:∀h',h'.IsKeyIter it d (i + 1) n ep→Heap.SameBut it s.heap h'→Q (some en.key) { s with heap:=h' }):wpAny (model prog w) A (pyNext (.ref it)) Q E s:=by
 subst hsz;obtain⟨o,ho,hc,hd⟩:=id hit;have hlt':i < es.size:=(Array.getElem?_eq_some_iff.mp hx).1;have een:es[i]=en:=(Array.getElem?_eq_some_iff.mp hx).2;unfold pyNext;refine wpAny_bind (wpAny_attempt (wpAny_callSpecial?_slot (name:=Str.ofString "__next__") hit.typeIs F.slot_dict_keyiterator_next (wpAny_call_entry F.slot_dict_keyiterator_next hit.typeIs F.entry_dict_keyiterator_next ?_ (F.args_dict_keyiterator_next_1 _))));refine wpAny_bind (wpAny_pure (wpAny_bind (wpAny_bind ?_)))
 first |refine wpAny_bind (wpAny_typeNameOfWhole_keyiter hit.typeIs (wpAny_pure (wpAny_bind (wpAny_fieldsOf ho hd ?_)))) |refine wpAny_bind (wpAny_typeNameOf_keyiter hit.typeIs (wpAny_pure (wpAny_bind (wpAny_fieldsOf ho hd ?_))))
 simp only[show Builtin.Dict_items.ownsTuple "dict_keyiterator"=false by decide,Bool.false_eq_true,if_false];show wpAny _ _ (if (Value.ref d == Value.none)=true then _ else _) _ _ s;rw[if_neg (show ¬((Value.ref d == Value.none)=true) from YLT)];refine wpAny_bind (wpAny_pure (wpAny_bind (wpAny_dictEntries hod hdd ?_)));rw[if_neg (by simp)];refine wpAny_bind (wpAny_pure (wpAny_bind (wpAny_dictEpoch hod hdd ?_)));rw[if_neg (by simp)];refine wpAny_pure ?_;simp only[show ¬((i:Int) < 0) from by omega,if_false,Int.toNat_natCast,Array.getElem?_eq_getElem hlt',een];refine wpAny_bind ?_
 first |refine wpAny_bind (wpAny_typeNameOfWhole_keyiter hit.typeIs (wpAny_pure (wpAny_bind (wpAny_isOneOf_keyiter hit.typeIs ?_)))) |refine wpAny_bind (wpAny_typeNameOf_keyiter hit.typeIs (wpAny_pure (wpAny_bind (wpAny_isOneOf_keyiter hit.typeIs ?_))))
 show wpAny _ _ (setField (.ref it) 1 (rawInt ((i:Int) + 1)) >>= _) _ _ s;refine wpAny_bind (wpAny_setField ho hd (by simp) ?_);have hit':(s.heap.update it (Obj.mapFields (·.setIfInBounds 1 (rawInt ((i:Int) + 1))))).IsKeyIter it d (i + 1) es.size ep:=⟨_,Heap.get?_update_self _ ho (Obj.isFreed_of_fields (Obj.data_mapFields hd _)),(Obj.cls_mapFields ..).trans hc,by rw[Obj.data_mapFields hd];simp[rawInt]⟩;refine wpAny_bind (wpAny_holding (wpAny_bind (wpAny_isOneOf_keyiter (s:={ s with heap:=s.heap.update it (Obj.mapFields (·.setIfInBounds 1 (rawInt ((i:Int) + 1)))) }) hit'.typeIs ?_)));show wpAny _ _ (pure en.key) _ _ _;exact wpAny_pure (wpAny_pure ⟨_,rfl,wpAny_pure (hQ _ hit' (Heap.SameBut.update ..))⟩)
theorem YGG {it d:Addr}{n ep:Nat}{od:Obj}{es:Array DictEntry}{Q:Option Value→Shared→Prop} (hh:A.handled=none) (hit:s.heap.IsKeyIter it d n n ep)
  (hod:s.heap.get? d=some od) (hdd:od.data=.dict es ep) (hsz:es.size=n) (hQ:∀h',Heap.ExtBut it s.heap h'→Q none { s with heap:=h' }):wpAny (model prog w) A (pyNext (.ref it)) Q E s:=by
 subst hsz;obtain⟨o,ho,hc,hd⟩:=id hit;unfold pyNext;refine wpAny_bind (wpAny_attempt (wpAny_callSpecial?_slot (name:=Str.ofString "__next__") hit.typeIs F.slot_dict_keyiterator_next (wpAny_call_entry F.slot_dict_keyiterator_next hit.typeIs F.entry_dict_keyiterator_next ?_ (F.args_dict_keyiterator_next_1 _))));refine wpAny_bind (wpAny_pure (wpAny_bind (wpAny_bind ?_)))
 first |refine wpAny_bind (wpAny_typeNameOfWhole_keyiter hit.typeIs (wpAny_pure (wpAny_bind (wpAny_fieldsOf ho hd ?_)))) |refine wpAny_bind (wpAny_typeNameOf_keyiter hit.typeIs (wpAny_pure (wpAny_bind (wpAny_fieldsOf ho hd ?_))))
 simp only[show Builtin.Dict_items.ownsTuple "dict_keyiterator"=false by decide,Bool.false_eq_true,if_false];show wpAny _ _ (if (Value.ref d == Value.none)=true then _ else _) _ _ s;rw[if_neg (show ¬((Value.ref d == Value.none)=true) from YLT)];refine wpAny_bind (wpAny_pure (wpAny_bind (wpAny_dictEntries hod hdd ?_)));rw[if_neg (by simp)];refine wpAny_bind (wpAny_pure (wpAny_bind (wpAny_dictEpoch hod hdd ?_)));rw[if_neg (by simp)];refine wpAny_pure ?_;simp only[show ¬((es.size:Int) < 0) from by omega,if_false,Int.toNat_natCast,Array.getElem?_eq_none (YLG es.size)];refine wpAny_bind ?_
 first |refine wpAny_bind (wpAny_typeNameOfWhole_keyiter hit.typeIs (wpAny_pure ?_)) |refine wpAny_bind (wpAny_typeNameOf_keyiter hit.typeIs (wpAny_pure ?_))
 show wpAny _ _ (setField (.ref it) 0 .none >>= _) _ _ s;refine wpAny_bind (wpAny_setField ho hd (by simp) ?_);show wpAny _ _ (newExc (.type "StopIteration") [] >>= _) _ _ _;refine wpAny_bind ?_;simp only[newExc,newTuple];refine wpAny_bind (wpAny_newObj_type ?_ (by size_fits));refine wpAny_bind (m:=firstArgMember _ _) (wpAny_of_eq (a:=Value.none) (by first |rfl |(simp only[firstArgMember];rfl)) ?_);refine wpAny_newObj_type ?_ (by size_fits);simp only[raiseNew];refine wpAny_bind (wpAny_handled ?_);rw[show A.in1.handled=none from hh];refine wpAny_bind (wpAny_pure (wpAny_throw ?_));refine wpAny_bind (wpAny_isInstance (T:="StopIteration") (b:=true) ⟨_,Heap.get?_push_size _ rfl,rfl⟩ isSubtype_stop ?_);exact wpAny_pure (hQ _ (((Heap.SameBut.update ..).extBut.push _).push _))
theorem YEp {d:Addr}{od:Obj}{es:Array DictEntry}{ep:Nat}{Q:Value→Shared→Prop} (hd:(d == sysModules)=false) (ho:s.heap.get? d=some od) (hc:od.cls=.type "dict") (hdat:od.data=.dict es ep)
  (hQ:Q (.ref s.heap.objs.size) { s with heap:=s.heap.push { cls:=.type "dict_keyiterator",data:=.fields #[.ref d,.int 0 0,.int es.size 0,.int ep 0] } }):wpAny (model prog w) A (pyIter (.ref d)) Q E s:=by
 have hT:s.TypeIs (.ref d) "dict":=⟨od,ho,hc⟩;refine wpAny_pyIter_slot hT F.slot_dict_iter (wpAny_call_entry F.slot_dict_iter hT F.entry_dict_iter ?_ (F.args_dict_iter_1 _));unfold Builtin.«dict.__iter__»;refine wpAny_bind ?_;unfold Builtin.Dict.dictSlotNone;refine wpAny_bind (wpAny_notOrdered_dict hT ?_);show wpAny _ _ (pure (Value.ref d)) _ _ s;refine wpAny_pure ?_;show wpAny _ _ (Builtin.Dict.showsAll d >>= _) _ _ s;unfold Builtin.Dict.showsAll;rw[if_neg (by rw[hd];exact YLT)];refine wpAny_bind (wpAny_pure (wpAny_bind (wpAny_dictEntries ho hdat (wpAny_bind (wpAny_dictEpoch ho hdat ?_)))));refine wpAny_bind (wpAny_newObj_type (wpAny_pure ⟨_,rfl,"dict_keyiterator",_,⟨_,Heap.get?_push_size _ rfl,rfl⟩,F.slot_dict_keyiterator_next.lookup,?_⟩))
 simpa [rawInt] using hQ
end
def ItKT (d:Addr) (o:Obj) (kvs:List (List Key×V)):It:=
 ⟨fun i H=>H d=some (.frz o (.dT kvs))∧i < kvs.length,fun i H v H'=>∃b kv,v=.ref b∧kvs[i]?=some kv∧H b=some (.tup (kv.1.map kV))∧H'=H,fun i H=>H d=some (.frz o (.dT kvs))∧i=kvs.length⟩
theorem YHQ {P:Program}{w:World}{K:W.Frag}{tg:Expr}{d it:Addr}{o:Obj}{kvs:List (List Key×V)}{es:Array DictEntry}{ep:Nat} (ho:o.data=.dict es ep):
  YDF P w K tg (ItKT d o kvs) [it] it (fun i h=>h.IsKeyIter it d i kvs.length ep) where
 mem:=by simp
 obj:=fun i h st b hb=>by
  have eb:b=it:=by simpa using hb
  subst eb;obtain⟨o,e,c,d⟩:=st;exact⟨o,e,fun v z=>by rw[d]at z;cases z⟩
 keep:=fun i h h' st k=>st.at fun o e=>k it (by simp) o e
 item:=by
  intro X hP hw hK hc i pins s σ H E I hf st hg;subst hP hw hK;obtain⟨hd,hi⟩:=hg;obtain⟨hod,hsz,lo,xs,rel,o2,es2,ep2,h1,h2,h3,h4,h5⟩:=(show Y8 X.prog X.w H s.heap d (.frz o (.dT kvs)) from I.hok d _ hd);rw[hod]at h1;cases h1;rw[ho]at h3;cases h3;have ekv:kvs[i]?=some kvs[i]:=by simp[hi]
  obtain⟨b,u,hx,hb,ru⟩:=KT.get rel ekv;have hlen:es.size=kvs.length:=by
   rw[←YLc,h4,YLD,Paired.length rel]
  have hen:es[i]?=some (entryOfKey (tupleKind (Yn X.prog X.w)) (kvs[i].1,b,u)):=by
   rw[←Array.getElem?_toList,h4,YLI,hx];rfl
  obtain⟨f0,f1,f2,f3,f4,f5⟩:=hf it (by simp);refine YEo st hod ho hlen hen fun h' st' sb=>?_
  have I1:Inv X pins σ H { s with heap:=h' }:=I.turned (t':=s.toks) (fun b o hb e=>(sb.2 b hb).trans e) f0 f1 f3 f4 f5;exact⟨.ref b,rfl,letGo_keyiter (s':={ s with heap:=h' }) st' ⟨.ref b,H,I1,rfl,⟨b,_,rfl,ekv,hb,rfl⟩,st',fun b hb=>(hf b hb).1⟩⟩
 done:=by
  intro X hP hw hK hc i pins s σ H E I hf st hg;subst hP hw hK;obtain⟨hd,hi⟩:=hg;obtain⟨hod,hsz,lo,xs,rel,o2,es2,ep2,h1,h2,h3,h4,h5⟩:=(show Y8 X.prog X.w H s.heap d (.frz o (.dT kvs)) from I.hok d _ hd);rw[hod]at h1;cases h1;rw[ho]at h3;cases h3;have hlen:es.size=kvs.length:=by
   rw[←YLc,h4,YLD,Paired.length rel]
  subst hi;exact YGG (I.ok.hd hc) st hod ho hlen fun h' eb=>⟨rfl,I.turns (t':=s.toks) (fun b o hb q=>eb b o (fun z=>hb (by simp[z])) q) hf⟩
 self:=fun _ _ _ _ _ st h=>wpAny_pyIter_keyiter st h
section
variable {X:Cx}{tg:Expr}
inductive YIR (R:It→Hp→Prop) (x:V) (H1:Hp):Prop where
 |mk (d:_) (o:_) (kvs:_) (h0_:x=.ref d) (h1_:H1 d=some (.frz o (.dT kvs))) (h2_:R (ItKT d o kvs) H1):YIR R x H1
def iDictT (to:TE):TI:=fun σ H R=>to σ H fun x H1=>YIR R x H1
theorem YKj {oe:Expr}{to:TE} (ho:PE X oe to):PI X tg oe (iDictT to):=by
 intro pins s σ H R I h;refine thn (ho pins s σ H _ I h) fun v s1 ⟨x,H1,I1,r1,d,o,kvs,ex,hd,q⟩=>?_
 subst ex;cases r1;obtain⟨hod,hsz,lo,xs,rel,o2,es,ep,h1,hex,hdat,h4,h5⟩:=(show Y8 X.prog X.w H1 s1.heap d (.frz o (.dT kvs)) from I1.hok d _ hd);rw[hod]at h1;cases h1;have hlen:es.size=kvs.length:=by
  rw[←YLc,h4,YLD,Paired.length rel]
 refine YEp lo hod hex.1 hdat ?_;have I2:=I1.kept (t':=s1.toks) (h':=s1.heap.push { cls:=.type "dict_keyiterator",data:=.fields #[.ref d,.int 0 0,.int es.size 0,.int ep 0] }) fun b u e=>Heap.get?_push_of_some _ e
 refine⟨_,[_],_,_,H1,rfl,I2,YHQ (o:=o) hdat,⟨_,Heap.get?_push_size _ rfl,rfl,by rw[←hlen];rfl⟩,fun b hb=>?_,q⟩;have eb:=List.mem_singleton.mp hb;rw[eb];exact I1.fpOk (YLG _) (I1.hok.fresh (YLG _))
end
theorem YJT {d:Addr}{o:Obj}{kvs:List (List Key×V)}{g:TG}{tb:TS}{D:YAY}{σ:St}{H:Hp} (Pv:Nat→St→Hp→Prop) (h0:Pv 0 σ H) (hl:∀i σ H,i≤kvs.length→Pv i σ H→H d=some (.frz o (.dT kvs)))
  (hs:∀i kv b σ H,kvs[i]?=some kv→H b=some (.tup (kv.1.map kV))→Pv i σ H→g (.ref b) σ H fun σ2 H2=>tb { D with nx:=Pv (i + 1),ct:=Pv (i + 1),bk:=D.nx } σ2 H2) (hd:∀σ H,Pv kvs.length σ H→D.nx σ H):
  ∃W:Nat→Nat→St→Hp→Prop,(∃m,W 0 m σ H)∧∀i m σ H,W i m σ H→
   ((ItKT d o kvs).stop i H∧D.nx σ H)∨((ItKT d o kvs).go i H∧∃N:St→Hp→Prop,(∀σ' H',N σ' H'→∃m',m' < m∧W (i + 1) m' σ' H')∧∀x H',(ItKT d o kvs).yld i H x H'→g x σ H' fun σ2 H2=>tb { D with nx:=N,ct:=N,bk:=D.nx } σ2 H2):=by
 refine⟨fun i m σ H=>m=kvs.length - i∧i≤kvs.length∧Pv i σ H,⟨kvs.length,by simp,YLN _,h0⟩,?_⟩;rintro i m σ H ⟨rfl,hi,p⟩;have q:=hl i σ H hi p
 by_cases hlt:i < kvs.length
 ·refine .inr ⟨⟨q,hlt⟩,Pv (i + 1),fun σ' H' p'=>⟨kvs.length - (i + 1),by omega,rfl,hlt,p'⟩,fun x H' y=>?_⟩;obtain⟨b,kv,rfl,hkv,hb,rfl⟩:=y;exact hs i kv b σ _ hkv hb p
 ·have ei:i=kvs.length:=by omega
  subst ei;exact .inl ⟨⟨q,rfl⟩,hd σ H p⟩
section
variable {prog:Program}{w:World}{d:Addr}{od:Obj}{es:Array DictEntry}{ep:Nat}
theorem YHR {A:Around} (hh:A.handled=none) (I:Addr) (hne:d≠I) (hdat:od.data=.dict es ep):
  Walks prog w A I [I,d] [I] es.size (fun i v=>∃en,es[i]?=some en∧v=en.key) (fun i h=>h.IsKeyIter I d i es.size ep∧h.get? d=some od) where
 sub:=fun b hb=>by simp at hb;simp[hb]
 frame:=fun _ _ _ st hk=>⟨st.1.at fun o e=>hk I (by simp) o e,hk d (by simp) _ st.2⟩
 item:=fun i s Q E hi st hQ=>by
  have hx:es[i]?=some es[i]:=by simp[hi]
  refine YEo st.1 st.2 hdat rfl hx fun h' hit' hs'=>?_
  exact hQ _ h' s.toks ⟨_,hx,rfl⟩ ⟨hit',(hs'.2 d hne).trans st.2⟩ fun b o hb e=>hs'.extBut b o (fun h=>hb (by simp[h])) e
 done:=fun s Q E st hQ=>YGG hh st.1 st.2 hdat rfl fun h' he'=>hQ h' s.toks fun b o hb e=>he' b o (fun h=>hb (by simp[h])) e
 self:=fun _ _ _ _ st hQ=>wpAny_pyIter_keyiter st.1 hQ
theorem kdl_raw (lo:(d == sysModules)=false) (hc:od.cls=.type "dict") (hdat:od.data=.dict es ep):PySem.W.KdlSrc prog w "dict" d d es.size (fun i v=>∃en,es[i]?=some en∧v=en.key) (fun h=>h.get? d=some od) where
 type:=fun _ hm=>⟨_,hm,hc⟩
 there:=fun _ hm=>⟨Heap.lt_size hm,Heap.lt_size hm⟩
 keep:=fun _ _ hm hk=>hk d (.inl rfl) _ hm
 notList:=by decide
 notTuple:=by decide
 hint:=fun _ _ _ _ hm hq=>PySem.W.kdl_hint_dict ⟨_,hm,hc⟩ hq
 iter:=fun _ _ hh hm=>⟨_,_,(fun _ _ hq=>YEp lo hm hc hdat hq),YHR hh _ (YLY (Heap.lt_size hm)) hdat,⟨⟨_,Heap.get?_push_size _ rfl,rfl,rfl⟩,Heap.get?_push_of_some _ hm⟩⟩
end
def YHS (H:Hp) (ts:List Addr) (kvs:List (List Key×V)):Prop:=ts.length=kvs.length∧∀(i:Nat) (t:Addr) (kv:List Key×V),ts[i]?=some t→kvs[i]?=some kv→H t=some (.tup (kv.1.map kV))
theorem YAT {X:Cx} (hc:X.calm=true):Jb X (.type "list") (fun xs H Q=>∃(p:Addr) (kvs:List (List Key×V)),xs=[.ref p]∧Rd H p (.dT kvs)∧∀l ts,H l=none→YHS H ts kvs→Q (.ref l) (upd H l (.lst (ts.map V.ref)))):=by
 intro pins s σ H xs us Q I r h;obtain⟨p,kvs,rfl,hq,q⟩:=h;obtain⟨u,rfl,rx⟩:=Jc r;cases rx;obtain⟨hsz,lo,xs,rel,od,es,ep,hod,hex,hdat,h4,h5⟩:=(show Y8 X.prog X.w H s.heap p (.dT kvs) from rd_of I.hok hq);have hlen:es.size=kvs.length:=by
  rw[←YLc,h4,YLD,Paired.length rel]
 refine PySem.W.kdl_call (kdl_raw lo hex.1 hdat) (I.ok.hd hc) hod (by rw[hlen];exact hsz) fun h' tk acc' c' hk hS hit=>?_
 have hxl:xs.length=kvs.length:=(Paired.length rel).symm;have hka:YHS H (xs.map fun x=>x.2.1) kvs:=by
  refine⟨by rw[YLD,hxl],fun i t kv e1 e2=>?_⟩;obtain⟨b,u,e3,e4,_⟩:=KT.get rel e2;rw[YLI,e3]at e1;cases e1;exact e4
 have rv:Yq ((xs.map fun x=>x.2.1).map V.ref) acc'.toList:=by
  refine YFF (by rw[YLD,YLD,hxl,←hlen];exact(Array.length_toList.trans hit.1).symm) fun j x u h1 h2=>?_
  obtain⟨en,hen,rfl⟩:=hit.2 j u (by rw[←Array.getElem?_toList];exact h2);rw[←Array.getElem?_toList,h4,YLI]at hen;rw[YLI,YLI]at h1;cases e2:xs[j]? with
  |none=>rw[e2]at h1;cases h1
  |some y=>
   rw[e2]at h1 hen;cases h1;cases hen;rfl
 exact⟨.ref s.heap.objs.size,_,I.laid (t':=tk) hk (YLG _) (show Y8 X.prog X.w _ h' _ (.lst _) from⟨by rw[YLD,YLD,hxl];exact hsz,acc'.toList,c',rv,by simpa using hS⟩),rfl,q _ _ (I.hok.fresh (YLG _)) hka⟩
def tKeep1 (t:TE):TE:=fun σ H Q=>t σ H fun v H1=>∃d kvs,H1 d=some (.dT kvs)∧∀o,Q v (upd H1 d (.frz o (.dT kvs)))
theorem YGH {X:Cx}{e:Expr}{t:TE} (h:PE X e t):PE X e (tKeep1 t):=by
 intro pins s σ H Q I hw;refine thn (h pins s σ H _ I hw) fun v s1 ⟨x,H1,I1,r1,d,kvs,e0,q⟩=>?_
 obtain⟨o,I4⟩:=I1.freezeT e0;exact⟨x,_,I4,r1,q o⟩
theorem YGI {X:Cx}:Jb X (.builtin "sorted") (fun xs H Q=>∃(p:Addr) (ns:List Int),xs=[.ref p]∧H p=some (.lst (ns.map V.int))∧ns.length < 64∧∀(l:Addr) (ns':List Int),H l=none→ns'.Perm ns→ns'.Pairwise (·≤·)→Q (.ref l) (upd H l (.lst (ns'.map V.int)))):=by
 intro pins s σ H xs us Q I r h;obtain⟨p,ns,rfl,hp,h64,q⟩:=h;obtain⟨u,rfl,rx⟩:=Jc r;cases rx;obtain⟨hz,its,n,rv,hl⟩:=(show Y8 X.prog X.w H s.heap p (.lst (ns.map V.int)) from I.hok p _ hp);have hll:its.length=ns.length:=by have:=rv.length;rw[YLD]at this;exact this.symm
 refine sorted_ints (vs:=its) ⟨_,hl,rfl,_,rfl⟩ (YG8 rv) (by rw[hll];exact h64) fun out ns' a1 a2 a3=>?_
 obtain⟨e,he⟩:=sortedAll_at s.heap its out;refine⟨.ref (s.heap.objs.size + 1),_,I.laid (a:=s.heap.objs.size + 1) (o:=.lst (ns'.map V.int)) (t':=s.toks) (fun b o hb=>sortedAll_old hb) (Nat.le_succ _) ⟨?_,out.toList,e,YCE a1,by simpa [seqObj] using he⟩,rfl,q _ ns' (I.hok.fresh (Nat.le_succ _)) a2 a3⟩;rw[YLD,a2.length_eq];rw[YLD]at hz;exact hz
def tDSetK (td ty tx:TE):TE:=fun σ H Q=>td σ H fun x H1=>∃a,x=.ref a∧IsD H1 a∧ty σ H1 fun y H2=>tx σ H2 fun z H3=>∃kvs k,H3 a=some (.dK kvs)∧y=kV k∧kvs.length < sizeLine∧
 (∀v,Yw kvs k=some v→Q v H3)∧(Yw kvs k=none→Q z (upd H3 a (.dK (Y4 kvs k z))))
section
variable {X:Cx}{o e f:Expr}{apos cpos:Pos}{td ty tx:TE}
theorem YJU (hu:X.A.units + 1 < cLine) (ho:PE X o td) (he:PE X e ty) (hf:PE X f tx) (m:M2 X o "setdefault" apos e f cpos):PE X (.Call (.Attribute o "setdefault" apos) [e,f] [] cpos) (tDSetK td ty tx):=by
 intro pins s σ H Q I h;refine wpAny_Call_method m.base m.few m.line PySem.F.plainAttrs_dict PySem.F.slot_dict_setdefault PySem.F.type_dict_setdefault (thn (ho pins s σ H _ I h) fun u s1 ⟨x,H1,I1,rx,a,ex,d,q1⟩=>?_);subst ex;obtain rfl:u=Value.ref a:=rx;obtain⟨t1,t2,_⟩:=YHD I1 d;refine⟨t1,t2,?_⟩;rw[m.trees];refine Calls.callWith_builtin rfl (Calls.evalArgs_plain (Calls.spliced_cons (thn (he pins s1 σ H1 _ I1 q1) fun iv s2 ⟨y,H2,I2,ry,q2⟩=>
  Calls.spliced_cons (thn (hf pins s2 σ H2 _ I2 q2) fun fv s3 ⟨z,H3,I3,rz,kvs,k,e1,ey,hl,hT,hN⟩=>Calls.spliced_nil ?_))))
 subst ey;obtain⟨zz,hd,vs,rel,dd⟩:=dk_of I3.hok e1;have hz:vs.length≤sizeLine:=by rw[←rel.length];exact zz
 refine call_meetsIn PySem.F.slot_dict_setdefault dd.typeIs PySem.F.entry_dict_setdefault (PySem.F.args_dict_setdefault_3 _ _ _) (kt_meets_setdefault (Yn X.prog X.w) a (YCd ry) hd fv) ⟨vs,dd,hz,fun w' hw=>?_,fun hn h' dd' hs=>?_⟩
 ·have rl:=rel.val k;rw[hw]at rl;cases hv:Yw kvs k with
  |none=>rw[hv]at rl;exact rl.elim
  |some v'=>rw[hv]at rl;exact⟨v',H3,I3.tok _,rl,hT v' hv⟩
 ·have rl:=rel.val k;rw[hn]at rl;cases hv:Yw kvs k with
  |some v'=>rw[hv]at rl;exact rl.elim
  |none=>
   have hl2:(Y4 kvs k z).length≤sizeLine:=by have:=Zu kvs k z;omega
   have he:∃q,h'.get? a=some q:=let ⟨q,_,_,hq,_⟩:=dd';⟨q,hq⟩
   exact⟨z,_,YBl I3 (by rw[e1];exact True.intro) hs he (YHA hl2 hd (rel.put k rz) dd'),rz,hN hv⟩
end
end L2
namespace FR
open PySem L2
def Ys (H H':Hp):Prop:=∀b u,H' b=some u→H b=some u∨ZB u=true
theorem Ys.refl (H:Hp):Ys H H:=fun _ _ e=>.inl e
theorem Ys.trans {H H1 H2:Hp} (a:Ys H H1) (b:Ys H1 H2):Ys H H2:=fun c u e=>(b c u e).elim (a c u) .inr
theorem Ys.upd {H:Hp}{c:Addr}{o:HO} (h:ZB o=true):Ys H (L2.upd H c o):=Yt h
theorem YU.new {H H':Hp} (h:YU H) (n:Ys H H'):YU H':=fun b u e=>(n b u e).elim (h b u) id
theorem Ys.of {H H':Hp} (h:YU H'):Ys H H':=fun b u e=>.inr (h b u e)
theorem YGJ {t u:TS}{D:YAY}{σ:St}{H:Hp} (M:St→Hp→Prop) (rest:∀σ' H',M σ' H'→u D σ' H') (h:(∀σ' H',M σ' H'→u D σ' H')→t { D with nx:=u D } σ H):YD2 t u D σ H:=h rest
def Jw (g:YT) (r d:Nat):Str:=(ZD g r d).getD ""
def YBB (g:YT) (r:Nat):Nat:=((g[r]?).map fun ru=>ru.2.1.length).getD 0
def J2 (F:Nd→Bool) (n r d i:Nat):List Nat:=(List.range (n + 1)).filter fun k=>F (.beg r d i k)
def Yi (g:YT) (n:Nat) (F:Nd→Bool):Nd→List (List Nd)
 |.part p i j=>if isQ p=true then [[]] else ((Zz g p).filter fun r=>F (.beg r (YBB g r) i j)).map fun r=>[.beg r (YBB g r) i j]
 |.beg r 0 i j=>[[]]
 |.beg r (d + 1) i j=>((J2 F n r d i).filter fun k=>F (.part (Jw g r d) k j)).map fun k=>[.beg r d i k,.part (Jw g r d) k j]
inductive YDi (g:YT) (n:Nat) (F:Nd→Bool) (t:Nd):Nd→Prop
 |top:YDi g n F t t
 |step {x:Nd}{w:List Nd}{y:Nd}:YDi g n F t x→w∈Yi g n F x→y∈w→YDi g n F t y
theorem YDj {g:YT}{n:Nat}{F:Nd→Bool}{x:Nd}{w:List Nd}{y:Nd} (hw:w∈Yi g n F x) (hy:y∈w):F y=true:=by
 cases x with
 |part p i j=>
  rw[Yi]at hw;split at hw
  ·cases List.mem_singleton.mp hw;cases hy
  ·obtain⟨r,hr,rfl⟩:=List.mem_map.mp hw;cases List.mem_singleton.mp hy;exact(List.mem_filter.mp hr).2
 |beg r d i j=>
  cases d with
  |zero=>
   rw[Yi]at hw;cases List.mem_singleton.mp hw;cases hy
  |succ d=>
   rw[Yi]at hw;obtain⟨k,hk,rfl⟩:=List.mem_map.mp hw;obtain⟨h1,h2⟩:=List.mem_filter.mp hk;unfold J2 at h1;have h3:=(List.mem_filter.mp h1).2;rcases List.mem_cons.mp hy with rfl |hy
   ·exact h3
   ·cases List.mem_singleton.mp hy;exact h2
structure JN (g:YT) (n:Nat) (F:Nd→Bool) (top:Option Nd) (nds:List Nd):Prop where
 nd:nds.Nodup
 sub:∀x∈nds,F x=true
 tp:∀t,top=some t→t∈nds
 no:top=none→nds=[]
 cl:∀x∈nds,∀w∈Yi g n F x,∀y∈w,y∈nds
 why:∀x∈nds,∃t,top=some t∧YDi g n F t x
def inB (nds:List Nd):Nd→Bool:=fun x=>decide (x∈nds)
theorem YEq {g:YT}{n:Nat}{F:Nd→Bool}{top:Option Nd}{nds:List Nd} (h:JN g n F top nds) {x:Nd} (hx:x∈nds):Yi g n (inB nds) x=Yi g n F x:=by
 have cl:=h.cl x hx;cases x with
 |part p i j=>
  simp only[Yi]at cl ⊢;split
  ·rfl
  ·rename_i hq
   rw[if_neg hq]at cl;congr 1;refine List.filter_congr fun r hr=>?_
   by_cases hf:F (.beg r (YBB g r) i j)=true
   ·rw[hf];exact decide_eq_true (cl _ (List.mem_map.mpr ⟨r,List.mem_filter.mpr ⟨hr,hf⟩,rfl⟩) _ YLP)
   ·rw[Bool.not_eq_true]at hf;rw[hf];exact decide_eq_false fun z=>by rw[h.sub _ z]at hf;cases hf
 |beg r d i j=>
  cases d with
  |zero=>rfl
  |succ d=>
   simp only[Yi]at cl ⊢;congr 1;unfold J2 at cl ⊢;rw[List.filter_filter,List.filter_filter];rw[List.filter_filter]at cl;refine List.filter_congr fun k hk=>?_
   by_cases hf:(F (.part (Jw g r d) k j) && F (.beg r d i k))=true
   ·rw[hf];have c:=cl _ (List.mem_map.mpr ⟨k,List.mem_filter.mpr ⟨hk,hf⟩,rfl⟩);rw[YLJ];exact⟨decide_eq_true (c _ (YLR _ YLP)),decide_eq_true (c _ YLP)⟩
   ·rw[Bool.not_eq_true]at hf;rw[hf];rw[Bool.and_eq_false_iff]at hf ⊢;rcases hf with hf |hf
    ·exact .inl (decide_eq_false fun z=>by rw[h.sub _ z]at hf;cases hf)
    ·exact .inr (decide_eq_false fun z=>by rw[h.sub _ z]at hf;cases hf)
def k3 (r d i:Nat):List Key:=[.inl (r:Int),.inl (d:Int),.inl (i:Int)]
theorem k3_inj {r d i r' d' i':Nat} (h:k3 r d i=k3 r' d' i'):r=r'∧d=d'∧i=i':=by
 simp only[k3,List.cons.injEq,Sum.inl.injEq,Int.ofNat_inj,and_true]at h;exact h
def JG (kvs:List (List Key×V)) (nds:List Nd):Prop:=kvs.map (·.1)=nds.map Yu
theorem YAl {κ:Type} [DecidableEq κ] {kvs:List (κ×V)}{k:κ}:(Yw kvs k).isSome=true↔k∈kvs.map (·.1):=by
 induction kvs with
 |nil=>exact⟨nofun,nofun⟩
 |cons q r ih=>
  obtain⟨a,b⟩:=q
  by_cases e:a=k
  ·rw[ZY e];exact⟨fun _=>by rw[←e];exact YLP,fun _=>rfl⟩
  ·rw[Zd e,ih];exact⟨YLR _,fun z=>(List.mem_cons.mp z).elim (fun z=>absurd z.symm e) id⟩
theorem JG.val {kvs:List (List Key×V)}{nds:List Nd} (h:JG kvs nds) (x:Nd):(Yw kvs (Yu x)).isSome=inB nds x:=by
 rw[YLe,YAl,h];unfold inB;rw[decide_eq_true_eq];exact⟨fun z=>by obtain⟨y,hy,e⟩:=List.mem_map.mp z;rw[←JF e];exact hy,fun z=>List.mem_map.mpr ⟨x,z,rfl⟩⟩
theorem JG.strange {kvs:List (List Key×V)}{nds:List Nd} (h:JG kvs nds) {k:List Key} (hk:∀x∈nds,k≠Yu x):(Yw kvs k).isSome=false:=by
 rw[Bool.eq_false_iff];intro z;have z:=YAl.mp z;rw[h]at z;obtain⟨y,hy,e⟩:=List.mem_map.mp z;exact hk y hy e.symm
theorem JG.hs (hs:Hs):JG (hsD hs) (hs.map (·.1)):=by
 unfold JG hsD;rw[List.map_map,List.map_map];rfl
theorem JG.len {kvs:List (List Key×V)}{nds:List Nd} (h:JG kvs nds):kvs.length=nds.length:=by
 have:=congrArg List.length h;rw[YLD,YLD]at this;exact this
theorem JG.put {kvs:List (List Key×V)}{nds:List Nd} (h:JG kvs nds) {x:Nd} (hx:x∉nds) (v:V):JG (Y4 kvs (Yu x) v) (nds ++ [x]):=by
 have hn:Yw kvs (Yu x)=none:=by
  have:=h.val x;unfold inB at this;rw[decide_eq_false hx]at this;cases e:Yw kvs (Yu x) with
  |none=>rfl
  |some v=>rw[e]at this;cases this
 rw[YFn _ hn];unfold JG at h ⊢;rw[YLK,YLK,h];rfl
def YAm (H:Hp) (a:Addr) (g:YT):Prop:=∃kvs,H a=some (.dK kvs)∧∀p:Str,(Zz g p=[]∧Yw kvs (.inr p)=none)∨∃c,Yw kvs (.inr p)=some (.ref c)∧H c=some (.lst ((Zz g p).map nV))
def YDA (H:Hp) (a:Addr) (nds:List Nd):Prop:=∃o kvs,H a=some (.frz o (.dT kvs))∧JG kvs nds
def YAn (H:Hp) (a:Addr) (n:Nat) (nds:List Nd):Prop:=∃o kvs,H a=some (.frz o (.dT kvs))∧∀r d i:Nat,(J2 (inB nds) n r d i=[]∧Yw kvs (k3 r d i)=none)∨∃c,Yw kvs (k3 r d i)=some (.ref c)∧H c=some (.lst ((J2 (inB nds) n r d i).map nV))
def YBx (H:Hp) (v:V) (top:Option Nd):Prop:=(top=none∧v=.non)∨∃x t,top=some x∧v=.ref t∧H t=some (.tup ((Yu x).map kV))
theorem YAm.same {H H':Hp}{a:Addr}{g:YT} (h:YAm H a g) (s:YI H H'):YAm H' a g:=by
 obtain⟨kvs,e,f⟩:=h;exact⟨kvs,s _ _ e,fun p=>(f p).imp id fun⟨c,e1,e2⟩=>⟨c,e1,s _ _ e2⟩⟩
theorem YDA.same {H H':Hp}{a:Addr}{nds:List Nd} (h:YDA H a nds) (s:YI H H'):YDA H' a nds:=by
 obtain⟨o,kvs,e,f⟩:=h;exact⟨o,kvs,s _ _ e,f⟩
theorem YAn.same {H H':Hp}{a:Addr}{n:Nat}{nds:List Nd} (h:YAn H a n nds) (s:YI H H'):YAn H' a n nds:=by
 obtain⟨o,kvs,e,f⟩:=h;exact⟨o,kvs,s _ _ e,fun r d i=>(f r d i).imp id fun⟨c,e1,e2⟩=>⟨c,e1,s _ _ e2⟩⟩
theorem YBx.same {H H':Hp}{v:V}{top:Option Nd} (h:YBx H v top) (s:YI H H'):YBx H' v top:=
 h.imp id fun⟨x,t,e1,e2,e3⟩=>⟨x,t,e1,e2,s _ _ e3⟩
structure YBC (C:Addr) (H:Hp) (x:Addr) (g:YT) (z:Str) (nds:List Nd) (top:Option Nd):Prop where
 ex:∃(dx l an af ae:Addr) (rv:V) (xs:List V),H x=some (.ins C dx [("rules",.ref l),("text",.str z),("numbers",.ref an),("root",rv),("found",.ref af),("ends",.ref ae)])∧H l=some (.lst xs)∧Yb H xs (g.map ZS)∧YAm H an g∧YBx H rv top∧YDA H af nds∧YAn H ae z.cps.size nds
 gr:Yv g=true
 tx:Zg z=true
 lg:∀x∈nds,Leg g z.cps.toList x
 be:∀r d i j,Nd.beg r (d + 1) i j∈nds→∃k,Nd.beg r d i k∈nds
theorem YBC.same {C:Addr}{H H':Hp}{x:Addr}{g:YT}{z:Str}{nds:List Nd}{top:Option Nd} (h:YBC C H x g z nds top) (s:YI H H'):YBC C H' x g z nds top:=by
 obtain⟨dx,l,an,af,ae,rv,xs,e1,e2,e3,e4,e5,e6,e7⟩:=h.ex;exact⟨⟨dx,l,an,af,ae,rv,xs,s _ _ e1,s _ _ e2,e3.same s,e4.same s,e5.same s,e6.same s,e7.same s⟩,h.gr,h.tx,h.lg,h.be⟩
def Jx (H:Hp) (bs:List Addr) (ws:List (List Nd)):Prop:=bs.length=ws.length∧∀(i:Nat) (b:Addr) (w:List Nd),bs[i]?=some b→ws[i]?=some w→∃ts:List Addr,H b=some (.tup (ts.map V.ref))∧ZM H ts w
def YDk (H:Hp) (a:Addr) (ws:List (List Nd)):Prop:=∃bs:List Addr,H a=some (.lst (bs.map V.ref))∧Jx H bs ws
theorem Jx.nil {H:Hp}:Jx H [] []:=⟨rfl,fun i b w e=>nomatch e⟩
theorem Jx.keep {H H':Hp}{bs:List Addr}{ws:List (List Nd)} (h:Jx H bs ws) (k:∀t ys,H t=some (.tup ys)→H' t=some (.tup ys)):Jx H' bs ws:=
 ⟨h.1,fun i b w e1 e2=>let ⟨ts,z1,z2⟩:=h.2 i b w e1 e2;⟨ts,k _ _ z1,z2.keep k⟩⟩
theorem Jx.snoc {H:Hp}{bs:List Addr}{ws:List (List Nd)} (h:Jx H bs ws) {b:Addr}{w:List Nd}{ts:List Addr} (hb:H b=some (.tup (ts.map V.ref))) (hw:ZM H ts w):Jx H (bs ++ [b]) (ws ++ [w]):=by
 refine⟨by rw[YLE,YLE,h.1];rfl,fun i b' w' e1 e2=>?_⟩
 by_cases hi:i < bs.length
 ·rw[YLZ hi]at e1;rw[YLZ (by rw[←h.1];exact hi)]at e2;exact h.2 i b' w' e1 e2
 ·rw[YLV (by omega)]at e1;rw[YLV (by rw[←h.1];omega),←h.1]at e2;have hz:i - bs.length=0:=by
   cases hh:i - bs.length with
   |zero=>rfl
   |succ j=>rw[hh]at e1;simp at e1
  rw[hz]at e1 e2;cases e1;cases e2;exact⟨ts,hb,hw⟩
def YGK (r d i:Nat):Nd→Option Nat
 |.beg r' d' i' k=>if r'=r∧d'=d∧i'=i then some k else none
 |.part _ _ _=>none
def Xr (l:List Nd) (r d i:Nat):List Nat:=l.filterMap (YGK r d i)
theorem YBy {r d i k:Nat}{x:Nd}:YGK r d i x=some k↔x=.beg r d i k:=by
 cases x with
 |part p a b=>exact⟨nofun,nofun⟩
 |beg r' d' i' k'=>
  simp only[YGK];split
  ·rename_i h
   obtain⟨rfl,rfl,rfl⟩:=h;exact⟨fun h=>by cases h;rfl,fun h=>by cases h;rfl⟩
  ·rename_i h
   exact⟨nofun,fun e=>by cases e;exact absurd ⟨rfl,rfl,rfl⟩ h⟩
theorem YBU {l:List Nd}{r d i k:Nat}:k∈Xr l r d i↔Nd.beg r d i k∈l:=by
 unfold Xr;rw[List.mem_filterMap];exact⟨fun⟨x,hx,e⟩=>by rw[←YBy.mp e];exact hx,fun h=>⟨_,h,YBy.mpr rfl⟩⟩
theorem YBz {l:List Nd} (h:l.Nodup) (r d i:Nat):(Xr l r d i).Nodup:=by
 unfold Xr
 induction l with
 |nil=>exact List.nodup_nil
 |cons x l ih=>
  have hn:=List.nodup_cons.mp h;rw[List.filterMap_cons];cases e:YGK r d i x with
  |none=>exact ih hn.2
  |some k=>
   refine List.nodup_cons.mpr ⟨fun hm=>?_,ih hn.2⟩;have:=(YBU (l:=l)).mp hm;rw[←YBy.mp e]at this;exact hn.1 this
theorem YIS:∀{l m:List Nat},l.Pairwise (· < ·)→m.Pairwise (· < ·)→(∀x,x∈l↔x∈m)→l=m
 |[],[],_,_,_=>rfl
 |[],y :: m,_,_,h=>absurd ((h y).mpr YLP) nofun
 |x :: l,[],_,_,h=>absurd ((h x).mp YLP) nofun
 |x :: l,y :: m,h1,h2,h=>by
  have p1:=List.pairwise_cons.mp h1;have p2:=List.pairwise_cons.mp h2;have e:x=y:=by
   rcases List.mem_cons.mp ((h x).mp YLP) with e |e
   ·exact e
   ·have:=p2.1 x e;rcases List.mem_cons.mp ((h y).mpr YLP) with e' |e'
    ·exact e'.symm
    ·have:=p1.1 y e';omega
  subst e;congr 1;refine YIS p1.2 p2.2 fun z=>⟨fun hz=>?_,fun hz=>?_⟩
  ·rcases List.mem_cons.mp ((h z).mp (YLR _ hz)) with e |e
   ·have:=p1.1 z hz;omega
   ·exact e
  ·rcases List.mem_cons.mp ((h z).mpr (YLR _ hz)) with e |e
   ·have:=p2.1 z hz;omega
   ·exact e
theorem rise_of {l:List Nat} (h:l.Pairwise (·≤·)) (hn:l.Nodup):l.Pairwise (· < ·):=by
 have:l.Pairwise fun a b=>a≤b∧a≠b:=List.pairwise_and_iff.mpr ⟨h,hn⟩
 exact this.imp fun⟨h1,h2⟩=>by omega
theorem YHT (n:Nat) (p:Nat→Bool):((List.range n).filter p).Pairwise (· < ·):=List.Pairwise.filter _ List.pairwise_lt_range
theorem YCk {nds:List Nd}{n r d i:Nat} (hb:∀k,Nd.beg r d i k∈nds→k≤n) (hn:nds.Nodup) {l:List Nat} (hp:l.Perm (Xr nds r d i)) (hs:l.Pairwise (·≤·)):l=J2 (inB nds) n r d i:=by
 refine YIS (rise_of hs (hp.nodup_iff.mpr (YBz hn r d i))) (YHT _ _) fun k=>?_
 rw[hp.mem_iff,YBU,J2,List.mem_filter,List.mem_range];unfold inB;rw[decide_eq_true_eq];exact⟨fun h=>⟨by have:=hb k h;omega,h⟩,fun h=>h.2⟩
structure LsD {κ τ:Type} [DecidableEq κ] (mk:List (κ×V)→HO) (ky:τ→κ) (H0 H:Hp) (d:Addr) (own:Addr→Option τ) (E:τ→List Nat) (N:Nat):Prop where
 sm:YI H0 H
 h:∃kvs,H d=some (mk kvs)∧kvs.length≤N∧(∀t,(Yw kvs (ky t)=none∧E t=[])∨∃a,Yw kvs (ky t)=some (.ref a)∧own a=some t∧H a=some (.lst ((E t).map nV)))∧∀k v,Yw kvs k=some v→∃t,k=ky t
 on:∀a t,own a=some t→H0 a=none∧∃xs,H a=some (.lst xs)
 nd:H0 d=none
 pl:∀b o,H b=some o→b=d∨ZB o=true
 le:∀t,(E t).length≤N
section
variable {κ τ:Type} [DecidableEq κ] [DecidableEq τ] {mk:List (κ×V)→HO}{ky:τ→κ}{H0 H H':Hp}{d:Addr}{own:Addr→Option τ}{E:τ→List Nat}{N:Nat}
theorem LsD.same (g:LsD mk ky H0 H d own E N) (s:YI H H') (hp:Ys H H'):LsD mk ky H0 H' d own E N:=by
 obtain⟨kvs,e1,e2,e3,e4⟩:=g.h;exact⟨g.sm.trans s,⟨kvs,s _ _ e1,e2,fun t=>(e3 t).imp id fun⟨a,z1,z2,z3⟩=>⟨a,z1,z2,s _ _ z3⟩,e4⟩,fun a t e=>let ⟨z1,xs,z2⟩:=g.on a t e;⟨z1,xs,s _ _ z2⟩,g.nd,fun b o e=>(hp b o e).elim (g.pl b o) .inr,g.le⟩
theorem LsD.more (g:LsD mk ky H0 H d own E N) (hm:∀kvs xs,mk kvs≠.lst xs) {t:τ}{a:Addr} (ha:own a=some t) (hv:∀kvs,H d=some (mk kvs)→Yw kvs (ky t)=some (.ref a)) (k:Nat):LsD mk ky H0 (upd H a (.lst ((E t).map nV ++ [nV k]))) d own (fun t'=>if t'=t then E t ++ [k] else E t') (N + 1):=by
 obtain⟨kvs,e1,e2,e3,e4⟩:=g.h;obtain⟨na,xs0,ha0⟩:=g.on a t ha;have hda:d≠a:=Yr e1 ha0 (hm _ _);refine⟨g.sm.put na,⟨kvs,by rw[YE hda];exact e1,by omega,fun t'=>?_,e4⟩,fun c t' e=>?_,g.nd,fun b o e=>(Yt rfl b o e).elim (g.pl b o) .inr,fun t'=>?_⟩
 ·by_cases ht:t'=t
  ·subst ht;rw[if_pos rfl];refine .inr ⟨a,hv kvs e1,ha,?_⟩;rw[YB,YLK];rfl
  ·rw[if_neg ht];refine(e3 t').imp id fun⟨c,z1,z2,z3⟩=>⟨c,z1,z2,?_⟩
   rw[YE (fun z=>by rw[z,ha]at z2;cases z2;exact ht rfl)];exact z3
 ·obtain⟨z1,xs,z2⟩:=g.on c t' e
  by_cases hc:c=a
  ·subst hc;exact⟨z1,_,YB⟩
  ·exact⟨z1,xs,by rw[YE hc];exact z2⟩
 ·by_cases ht:t'=t
  ·rw[if_pos ht,YLE];have:=g.le t;exact Nat.succ_le_succ this
  ·rw[if_neg ht];have:=g.le t';omega
theorem LsD.fresh (g:LsD mk ky H0 H d own E N) (hm:∀kvs xs,mk kvs≠.lst xs) (hj:∀a b,mk a=mk b→a=b) (hi:∀t t',ky t=ky t'→t=t') {t:τ}{e:Addr} (he:H e=some (.lst [])) (h0:H0 e=none) (ho:own e=none) {kvs:List (κ×V)} (hd:H d=some (mk kvs)) (hv:Yw kvs (ky t)=none):LsD mk ky H0 (upd H d (mk (Y4 kvs (ky t) (.ref e)))) d (fun c=>if c=e then some t else own c) E (N + 1):=by
 obtain⟨kvs',e1,e2,e3,e4⟩:=g.h;have ek:kvs=kvs':=hj _ _ (Option.some.inj (hd.symm.trans e1));subst ek;have hE:E t=[]:=by
  rcases e3 t with z |⟨a,z1,z2,z3⟩
  ·exact z.2
  ·rw[hv]at z1;cases z1
 have kl:∀c ys,H c=some (.lst ys)→upd H d (mk (Y4 kvs (ky t) (.ref e))) c=some (.lst ys):=fun c ys z=>by rw[YE (Yr z hd (fun q=>hm _ _ q.symm))];exact z
 refine⟨g.sm.put g.nd,⟨_,YB,by have:=Zu kvs (ky t) (.ref e);omega,fun t'=>?_,fun k v z=>?_⟩,fun c t' z=>?_,g.nd,fun b o z=>(by by_cases hb:b=d;exact .inl hb;rw[YE hb]at z;exact g.pl b o z),fun t'=>by have:=g.le t';omega⟩
 ·rw[Z6]
  by_cases ht:t'=t
  ·subst ht;rw[if_pos rfl,hE];exact .inr ⟨e,rfl,if_pos rfl,kl _ _ he⟩
  ·rw[if_neg (fun z=>ht (hi _ _ z))];exact(e3 t').imp id fun⟨c,z1,z2,z3⟩=>⟨c,z1,by rw[if_neg (fun y=>by rw[y,ho]at z2;cases z2)];exact z2,kl _ _ z3⟩
 ·rw[Z6]at z;split at z
  ·rename_i hk
   exact⟨t,hk⟩
  ·exact e4 k v z
 ·by_cases hc:c=e
  ·subst hc;exact⟨h0,_,kl _ _ he⟩
  ·rw[if_neg hc]at z;obtain⟨z1,xs,z2⟩:=g.on c t' z;exact⟨z1,xs,kl _ _ z2⟩
end
def Jh (g:YT) (m:Nat) (p:Str):List Nat:=(List.range m).filter fun k=>decide ((g[k]?.map (·.1))=some p)
theorem YCl {g:YT}{m:Nat}{ru:ZW} (h:g[m]?=some ru) (p:Str):Jh g (m + 1) p=if p=ru.1 then Jh g m ru.1 ++ [m] else Jh g m p:=by
 unfold Jh;rw[List.range_succ,List.filter_append,List.filter_cons,h]
 by_cases e:p=ru.1
 ·subst e;rw[if_pos rfl];congr 1;show(if decide (some ru.1=some ru.1)=true then _ else _)=_;rw[decide_eq_true rfl];rfl
 ·rw[if_neg e];have:decide (Option.map (fun x:ZW=>x.1) (some ru)=some p)=false:=decide_eq_false fun z=>e (Option.some.inj z).symm
  rw[this];simp
theorem YFN {κ:Type} [DecidableEq κ] {kvs:List (κ×V)}{k:κ}{u:V} (h:Yw kvs k=some u) (v:V):(Y4 kvs k v).map (·.1)=kvs.map (·.1):=by
 unfold Y4;have hs:(Yw kvs k).isSome=true:=by rw[h];rfl
 rw[if_pos (by rw[XJ];exact hs),List.map_map];refine List.map_congr_left fun x _=>?_
 show(if x.1=k then (x.1,v) else x).1=x.1;split <;> rfl
theorem YKk {L:List Nat}{ns:List Int} (hp:ns.Perm (L.map fun k:Nat=>(k:Int))) (hs:ns.Pairwise (·≤·)):∃L':List Nat,ns=L'.map (fun k:Nat=>(k:Int))∧L'.Perm L∧L'.Pairwise (·≤·):=by
 have hn:∀x∈ns,((x.toNat:Nat):Int)=x:=fun x hx=>by
  obtain⟨k,_,rfl⟩:=List.mem_map.mp (hp.mem_iff.mp hx);rfl
 refine⟨ns.map Int.toNat,?_,?_,?_⟩
 ·rw[List.map_map];exact(List.map_id ns).symm.trans (List.map_congr_left fun x hx=>(hn x hx).symm)
 ·have:=hp.map Int.toNat;rw[List.map_map]at this;have e:L.map (Int.toNat∘fun k:Nat=>(k:Int))=L:=(List.map_congr_left fun x _=>rfl).trans (List.map_id L);rw[e]at this;exact this
 ·exact List.pairwise_map.mpr (hs.imp fun h=>by omega)
theorem YKl {nds:List Nd}{n r d i:Nat} (hb:∀k,Nd.beg r d i k∈nds→k≤n) (hn:nds.Nodup):(Xr nds r d i).length≤n + 1:=by
 have h1:((Xr nds r d i).map fun k=>Nd.beg 0 0 0 k).Nodup:=List.pairwise_map.mpr ((YBz hn r d i).imp fun h e=>h (by cases e;rfl));have:=Z8 (m:=(List.range (n + 1)).map fun k=>Nd.beg 0 0 0 k) h1 fun x hx=>by
  obtain⟨k,hk,rfl⟩:=List.mem_map.mp hx;exact List.mem_map.mpr ⟨k,List.mem_range.mpr (Nat.lt_succ_of_le (hb k (YBU.mp hk))),rfl⟩
 rw[YLD,YLD,List.length_range]at this;exact this
def k3t (t:Nat×Nat×Nat):List Key:=k3 t.1 t.2.1 t.2.2
theorem YFO (t t':Nat×Nat×Nat) (h:k3t t=k3t t'):t=t':=by
 obtain⟨h1,h2,h3⟩:=k3_inj h;obtain⟨a,b,c⟩:=t;obtain⟨a',b',c'⟩:=t';cases h1;cases h2;cases h3;rfl
def Xj (l:List Nd) (t:Nat×Nat×Nat):List Nat:=Xr l t.1 t.2.1 t.2.2
theorem YHU {l:List Nd}{m:Nat}{p:Str}{i j:Nat} (h:l[m]?=some (.part p i j)):Xj (l.take (m + 1))=Xj (l.take m):=funext fun t=>by
 unfold Xj Xr;rw[YLf,h,List.filterMap_append];show _ ++ []=_;rw[YLW]
theorem YJV {l:List Nd}{m:Nat}{r d i k:Nat} (h:l[m]?=some (.beg r d i k)):(fun t'=>if t'=(r,d,i) then Xj (l.take m) (r,d,i) ++ [k] else Xj (l.take m) t')=Xj (l.take (m + 1)):=funext fun t=>by
 unfold Xj Xr;rw[YLf,h,List.filterMap_append];show _=_ ++ ((some (Nd.beg r d i k)).toList.filterMap (YGK t.1 t.2.1 t.2.2));show _=_ ++ ([Nd.beg r d i k].filterMap (YGK t.1 t.2.1 t.2.2));rw[List.filterMap_cons];obtain⟨a,b,c⟩:=t
 by_cases e:(a,b,c)=(r,d,i)
 ·cases e;rw[if_pos rfl,YBy.mpr rfl];rfl
 ·rw[if_neg e];have:YGK a b c (.beg r d i k)=none:=by
   simp only[YGK];exact if_neg fun z=>e (by obtain⟨z1,z2,z3⟩:=z;rw[z1,z2,z3])
  rw[this];exact(YLW _).symm
theorem YCm {g:YT}{p:Str}{r:Nat}:r∈Zz g p↔∃ru,g[r]?=some ru∧ru.1=p:=by
 unfold Zz;rw[List.mem_filter,List.mem_range,decide_eq_true_eq];constructor
 ·rintro⟨h1,h2⟩;obtain⟨ru,e1,e2⟩:=Option.map_eq_some_iff.mp h2;exact⟨ru,e1,e2⟩
 ·rintro⟨ru,e1,e2⟩;exact⟨(List.getElem?_eq_some_iff.mp e1).1,by rw[e1,←e2];rfl⟩
theorem YHV {g:YT}{p:Str} (h:p∈g.map (·.1)):Zz g p≠[]:=fun z=>by
 obtain⟨ru,hru,e⟩:=List.mem_map.mp h;obtain⟨r,hr⟩:=List.getElem?_of_mem hru;have:=YCm.mpr ⟨ru,hr,e⟩;rw[z]at this;cases this
theorem YJW (c:Nat):isQ (("'":Str) ++ ⟨#[c]⟩)=true:=by
 rw[Ju,YAh];rfl
theorem YKm {g:YT}{cs:List Nat}{p:Str}{i j:Nat} (h:Leg g cs (.part p i j)) (hq:isQ p=false):p∈g.map (·.1):=by
 rcases h.1 with h |⟨c,_,e,_⟩
 ·exact h
 ·rw[e]at hq;unfold XZ at hq;rw[YJW]at hq;cases hq
theorem lenR_of {g:YT}{r:Nat}{ru:ZW} (h:g[r]?=some ru):YBB g r=ru.2.1.length:=by unfold YBB;rw[h];rfl
theorem YEr {α:Type}{l:List α}{m:Nat}{a:α} (h:l[m]?=some a) (p:α→Bool) (f:α→List Nd):((l.take (m + 1)).filter p).map f=((l.take m).filter p).map f ++ (if p a=true then [f a] else []):=by
 rw[YLf,h,List.filter_append,YLK];congr 1;show([a].filter p).map f=_;rw[List.filter_cons];split <;> rfl
def YB0 (g:YT) (n:Nat) (nds:List Nd):Option Nd:=match g with
 |[]=>none
 |r :: _=>if inB nds (.part r.1 0 n)=true then some (.part r.1 0 n) else none
structure FSt (H0 H:Hp) (d wl:Addr) (nds wt:List Nd):Prop where
 sm:YI H0 H
 h:∃kvs,H d=some (.dT kvs)∧JG kvs nds
 w:∃ts,H wl=some (.lst (ts.map V.ref))∧ZM H ts wt
 nd:H0 d=none
 nw:H0 wl=none
 pl:∀b o,H b=some o→b=d∨ZB o=true
theorem FSt.same {H0 H H':Hp}{d wl:Addr}{nds wt:List Nd} (f:FSt H0 H d wl nds wt) (s:YI H H') (n:Ys H H'):FSt H0 H' d wl nds wt:=by
 obtain⟨kvs,e1,e2⟩:=f.h;obtain⟨ts,e3,e4⟩:=f.w;exact⟨f.sm.trans s,⟨kvs,s _ _ e1,e2⟩,⟨ts,s _ _ e3,e4.keep fun _ _=>s _ _⟩,f.nd,f.nw,fun b o e=>(n b o e).elim (f.pl b o) .inr⟩
theorem FSt.put {H0 H:Hp}{d wl:Addr}{nds wt:List Nd} (f:FSt H0 H d wl nds wt) {kvs:List (List Key×V)} (hd:H d=some (.dT kvs)) {y:Nd} (hy:y∉nds) (v:V):FSt H0 (upd H d (.dT (Y4 kvs (Yu y) v))) d wl (nds ++ [y]) wt:=by
 obtain⟨kvs',e1,e2⟩:=f.h;obtain⟨ts,e3,e4⟩:=f.w;rw[hd]at e1;cases e1;exact⟨f.sm.put f.nd,⟨_,YB,e2.put hy v⟩,⟨ts,by rw[YE (Yr e3 hd nofun)];exact e3,e4.keep fun t ys e=>by rw[YE (Yr e hd nofun)];exact e⟩,f.nd,f.nw,fun b o e=>(by by_cases hb:b=d;exact .inl hb;rw[YE hb]at e;exact f.pl b o e)⟩
theorem FSt.wait {H0 H:Hp}{d wl:Addr}{nds wt wt':List Nd} (f:FSt H0 H d wl nds wt) {ts':List Addr} (hn:ZM H ts' wt'):FSt H0 (upd H wl (.lst (ts'.map V.ref))) d wl nds wt':=by
 obtain⟨kvs,e1,e2⟩:=f.h;obtain⟨ts,e3,e4⟩:=f.w;exact⟨f.sm.put f.nw,⟨kvs,by rw[YE (Yr e1 e3 nofun)];exact e1,e2⟩,⟨ts',YB,hn.keep fun t ys e=>by rw[YE (Yr e e3 nofun)];exact e⟩,f.nd,f.nw,fun b o e=>(Yt rfl b o e).elim (f.pl b o) .inr⟩
structure YGL (g:YT) (n:Nat) (F:Nd→Bool) (top:Option Nd) (nds wt:List Nd):Prop where
 nd:nds.Nodup
 sub:∀x∈nds,F x=true
 tp:∀t,top=some t→t∈nds
 no:top=none→nds=[]
 wi:∀x∈wt,x∈nds
 cl:∀x∈nds,x∈wt∨∀w∈Yi g n F x,∀y∈w,y∈nds
 why:∀x∈nds,∃t,top=some t∧YDi g n F t x
 wn:wt.Nodup
theorem YGL.fin_ {g:YT}{n:Nat}{F:Nd→Bool}{top:Option Nd}{nds:List Nd} (h:YGL g n F top nds []):JN g n F top nds:=
 ⟨h.nd,h.sub,h.tp,h.no,fun x hx=>(h.cl x hx).elim nofun id,h.why⟩
structure WNew (g:YT) (n:Nat) (F:Nd→Bool) (top:Option Nd) (nds new:List Nd):Prop where
 nd:(nds ++ new).Nodup
 why:∀x∈new,F x=true∧∃t,top=some t∧YDi g n F t x
theorem WNew.snoc {g:YT}{n:Nat}{F:Nd→Bool}{top:Option Nd}{nds new:List Nd} (h:WNew g n F top nds new) {y:Nd} (hy:y∉nds ++ new) (hf:F y=true∧∃t,top=some t∧YDi g n F t y):WNew g n F top nds (new ++ [y]):=by
 refine⟨?_,fun x hx=>?_⟩
 ·rw[←YLQ];exact List.nodup_append.mpr ⟨h.nd,List.nodup_cons.mpr ⟨nofun,List.nodup_nil⟩,fun a ha b hb e=>hy (by rw[←List.mem_singleton.mp hb,←e];exact ha)⟩
 ·rcases List.mem_append.mp hx with hx |hx
  ·exact h.why x hx
  ·cases List.mem_singleton.mp hx;exact hf
theorem YGL.next {g:YT}{n:Nat}{F:Nd→Bool}{top:Option Nd}{nds wt new:List Nd}{u:Nd} (h:YGL g n F top nds (wt ++ [u])) (hn:WNew g n F top nds new) (hc:∀w∈Yi g n F u,∀y∈w,y∈nds ++ new):YGL g n F top (nds ++ new) (wt ++ new):=by
 refine⟨hn.nd,fun x hx=>?_,fun t ht=>YLU _ (h.tp t ht),fun ht=>?_,fun x hx=>?_,fun x hx=>?_,fun x hx=>?_,?_⟩
 ·exact(List.mem_append.mp hx).elim (h.sub x) fun z=>(hn.why x z).1
 ·have h0:=h.no ht;cases new with
  |nil=>rw[h0];rfl
  |cons a l=>
   obtain⟨_,t,e,_⟩:=hn.why a YLP;rw[ht]at e;cases e
 ·rcases List.mem_append.mp hx with hx |hx
  ·exact YLU _ (h.wi x (YLU _ hx))
  ·exact YLO _ hx
 ·rcases List.mem_append.mp hx with hx |hx
  ·rcases h.cl x hx with z |z
   ·rcases List.mem_append.mp z with z |z
    ·exact .inl (YLU _ z)
    ·cases List.mem_singleton.mp z;exact .inr hc
   ·exact .inr fun w hw y hy=>YLU _ (z w hw y hy)
  ·exact .inl (YLO _ hx)
 ·exact(List.mem_append.mp hx).elim (h.why x) fun z=>(hn.why x z).2
 ·have h1:=(List.nodup_append.mp h.wn).1;have h2:=List.nodup_append.mp hn.nd;exact List.nodup_append.mpr ⟨h1,h2.2.1,fun a ha b hb=>h2.2.2 a (h.wi a (YLU _ ha)) b hb⟩
def ZJ (H H':Hp):Prop:=∀b o,(∀C dx fs,o≠.ins C dx fs)→H b=some o→H' b=some o
theorem ZJ.of {H H':Hp} (s:YI H H'):ZJ H H':=fun b o _ e=>s b o e
theorem ZJ.trans {H H1 H2:Hp} (a:ZJ H H1) (b:ZJ H1 H2):ZJ H H2:=fun c o n e=>b c o n (a c o n e)
theorem ZJ.set {H:Hp}{x C dx:Addr}{fs:List (Str×V)}{o:HO} (h:H x=some (.ins C dx fs)):ZJ H (L2.upd H x o):=fun b u n e=>by
 rw[YE (fun z=>by rw[z,h]at e;cases e;exact n _ _ _ rfl)];exact e
theorem ZJ.lst {H H':Hp} (s:ZJ H H') {a:Addr}{xs:List V} (h:H a=some (.lst xs)):H' a=some (.lst xs):=s _ _ (fun _ _ _ y=>nomatch y) h
theorem ZJ.frz {H H':Hp} (s:ZJ H H') {a:Addr}{o:Obj}{u:HO} (h:H a=some (.frz o u)):H' a=some (.frz o u):=s _ _ (fun _ _ _ y=>nomatch y) h
mutual
theorem denI {H H':Hp} (e:ZJ H H'):∀{v:V}{d:D},Den H v d→Den H' v d
 |_,.non,h=>by unfold Den at h ⊢;exact h
 |_,.bl _,h=>by unfold Den at h ⊢;exact h
 |_,.int _,h=>by unfold Den at h ⊢;exact h
 |_,.str _,h=>by unfold Den at h ⊢;exact h
 |_,.lst ds,h=>by
  unfold Den at h ⊢;obtain⟨a,xs,e1,e2,e3⟩:=h;refine⟨a,xs,e1,?_,YBI e e3⟩;rcases e2 with z |⟨o,z⟩
  ·exact .inl (e _ _ (fun _ _ _ y=>nomatch y) z)
  ·exact .inr ⟨o,e _ _ (fun _ _ _ y=>nomatch y) z⟩
 |_,.tup ds,h=>by
  unfold Den at h ⊢;obtain⟨a,xs,e1,e2,e3⟩:=h;exact⟨a,xs,e1,e _ _ (fun _ _ _ y=>nomatch y) e2,YBI e e3⟩
 |_,.oth,h=>by
  unfold Den at h ⊢;obtain⟨a,kvs,e1,e2⟩:=h;exact⟨a,kvs,e1,e _ _ (fun _ _ _ y=>nomatch y) e2⟩
theorem YBI {H H':Hp} (e:ZJ H H'):∀{vs:List V}{ds:List D},Yb H vs ds→Yb H' vs ds
 |[],[],h=>h
 |[],_ :: _,h=>by unfold Yb at h;exact h.elim
 |_ :: _,[],h=>by unfold Yb at h;exact h.elim
 |v :: vs,d :: ds,h=>by
  unfold Yb at h ⊢;exact⟨denI e h.1,YBI e h.2⟩
end
theorem YAm.sameI {H H':Hp}{a:Addr}{g:YT} (h:YAm H a g) (s:ZJ H H'):YAm H' a g:=by
 obtain⟨kvs,e,f⟩:=h;exact⟨kvs,s _ _ (fun _ _ _ y=>nomatch y) e,fun p=>(f p).imp id fun⟨c,e1,e2⟩=>⟨c,e1,s _ _ (fun _ _ _ y=>nomatch y) e2⟩⟩
theorem YAn.sameI {H H':Hp}{a:Addr}{n:Nat}{nds:List Nd} (h:YAn H a n nds) (s:ZJ H H'):YAn H' a n nds:=by
 obtain⟨o,kvs,e,f⟩:=h;exact⟨o,kvs,s _ _ (fun _ _ _ y=>nomatch y) e,fun r d i=>(f r d i).imp id fun⟨c,e1,e2⟩=>⟨c,e1,s _ _ (fun _ _ _ y=>nomatch y) e2⟩⟩
theorem YBx.sameI {H H':Hp}{v:V}{top:Option Nd} (h:YBx H v top) (s:ZJ H H'):YBx H' v top:=
 h.imp id fun⟨x,t,e1,e2,e3⟩=>⟨x,t,e1,e2,s _ _ (fun _ _ _ y=>nomatch y) e3⟩
theorem YGM {g:YT}{cs:List Nat}{hs:Hs} (st:ZE g cs hs):∀r d i j,Nd.beg r (d + 1) i j∈hs.map (·.1)→∃k p,Nd.beg r d i k∈hs.map (·.1)∧Nd.part p k j∈hs.map (·.1)∧ZD g r d=some p:=fun r d i j h=>by
 obtain⟨v,hv⟩:=Jv h;rcases st.why _ _ hv with ⟨e,_⟩ |⟨d',k,p,a,b,e1,e2,e3,e4,_⟩
 ·cases e
 ·cases e1;exact⟨k,p,X4 e3,X4 e4,e2⟩
theorem YAo {g:YT}{cs:List Nat}{hs:Hs} (st:ZE g cs hs):∀x∈hs.map (·.1),Leg g cs x:=fun x h=>by
 obtain⟨v,hv⟩:=Jv h;exact st.leg _ _ hv
theorem wood_be {g:YT}{cs:List Nat}{hs:Hs}{top:Option Nd}{nds:List Nd} (st:ZE g cs hs) (wk:JN g cs.length (inB (hs.map (·.1))) top nds):∀r d i j,Nd.beg r (d + 1) i j∈nds→∃k,Nd.beg r d i k∈nds:=fun r d i j h=>by
 have h1:Nd.beg r (d + 1) i j∈hs.map (·.1):=of_decide_eq_true (wk.sub _ h);obtain⟨k,p,h2,h3,hp⟩:=YGM st r d i j h1;have hpd:Jw g r d=p:=by unfold Jw;rw[hp];rfl
 refine⟨k,wk.cl _ h [.beg r d i k,.part p k j] ?_ _ YLP⟩;rw[Yi];refine List.mem_map.mpr ⟨k,List.mem_filter.mpr ⟨List.mem_filter.mpr ⟨List.mem_range.mpr ?_,decide_eq_true h2⟩,?_⟩,by rw[hpd]⟩
 ·have:=(YAo st _ h2).2.2;omega
 ·rw[hpd];exact decide_eq_true h3
theorem YJX {g:YT}{cs:List Nat}{hs:Hs} (st:ZE g cs hs) (hg:Yv g=true) (hc:cs.length≤60):(hs.map (·.1)).length≤2100000:=
 YLb (Z8 st.nd fun x hx=>YIK (six hg) (YAo st x hx)) (YGB (YAH hg) hc)
end FR
namespace L2
open PySem PySem.Spec PyProof.Rows
end L2
namespace L2
open PySem PySem.Spec PyProof.Rows PySem.AutoSeq1
section
variable {X:Cx}
end
end L2
namespace L2
open PySem PySem.Spec PyProof.Rows
end L2
namespace L2
open PySem PySem.Spec PyProof.Rows
section
variable {X:Cx}{pins:List (Addr×Obj)}{σ:St}{H:Hp}{s:Shared}{d:Addr}{xs:List V}
end
end L2
namespace L2
open PySem PySem.Spec PyProof.Rows PySem.SeqAt
section
variable {X:Cx}
end
end L2
namespace L2
open PySem PySem.Spec PyProof.Rows PySem.SeqAt
section
variable {X:Cx}
theorem YIT {pins}{σ}{H:Hp}{s:Shared} (I:Inv X pins σ H s) (hu:X.A.units + 64 < cLine) {ts:List Addr}{ds:List D}{its:List Value}{t:Addr}{d:D} (rv:Yq (ts.map V.ref) its) (hds:Yb H (ts.map V.ref) ds) (hd:Den H (.ref t) d) (hok:∀d∈ds,d.ok=true∧d.dep≤8) (hdk:d.ok=true):
  ∃e:Value→Bool,(∀y∈its.toArray,EqAt X.A.in1 s y (Value.ref t) (e y))∧its.toArray.any e=ds.any fun y=>eqD y d:=by
 have hit:∀i (hi:i < its.length),∃a di,its[i]=Value.ref a∧ts[i]?=some a∧ds[i]?=some di∧Den H (V.ref a) di:=fun i hi=>by
  have hl:=rv.length;rw[YLD]at hl;have hi':i < ts.length:=by omega
  have e1:(ts.map V.ref)[i]?=some (V.ref ts[i]):=by rw[YLI,YLF hi'];rfl
  obtain⟨u,eu,ru⟩:=rv.get e1;obtain⟨di,ed,hdi⟩:=hds.get e1;cases ru;rw[YLF hi]at eu;exact⟨ts[i],di,Option.some.inj eu,YLF hi',ed,hdi⟩
 let e:Value→Bool:=fun y=>@decide (∃(i:Nat) (a:Addr) (di:D),y=Value.ref a∧ts[i]?=some a∧ds[i]?=some di∧eqD di d=true) (Classical.propDecidable _)
 have ee:∀(i:Nat) (a:Addr) (di:D),ts[i]?=some a→ds[i]?=some di→Den H (V.ref a) di→e (Value.ref a)=eqD di d:=fun i a di h2 h3 h4=>by
  rw[YLe];refine Iff.trans (@decide_eq_true_iff _ (Classical.propDecidable _)) ⟨?_,fun h=>⟨i,a,di,rfl,h2,h3,h⟩⟩;rintro⟨i',a',di',g1,g2,g3,g4⟩;cases g1;obtain⟨dk,ed,hdi⟩:=hds.get (show(ts.map V.ref)[i']?=some (V.ref a) by rw[YLI,g2];rfl);rw[g3]at ed;cases ed;rw[Den.uniq h4 hdi];exact g4
 refine⟨e,fun y hy=>?_,?_⟩
 ·have hy:y∈its:=by simpa using hy
  obtain⟨i,hi,rfl⟩:=List.getElem_of_mem hy;obtain⟨a,di,g1,g2,g3,g4⟩:=hit i hi;rw[g1,ee i a di g2 g3 g4];obtain⟨o1,o2⟩:=hok di (YLH g3);exact(cmp_D I 8 X.A.in1 di d (V.ref a) (V.ref t) _ _ o1 hdk o2 (by show X.A.units + 1 + 8 < cLine;omega) g4 hd rfl rfl).eq
 ·rw[show its.toArray.any e=its.any e by simp,YLe,List.any_eq_true,List.any_eq_true];constructor
  ·rintro⟨y,hy,hey⟩;obtain⟨i,hi,rfl⟩:=List.getElem_of_mem hy;obtain⟨a,di,g1,g2,g3,g4⟩:=hit i hi;rw[g1,ee i a di g2 g3 g4]at hey;exact⟨di,YLH g3,hey⟩
  ·rintro⟨di,hdi,he⟩;obtain⟨i,hi⟩:=List.getElem?_of_mem hdi;have hil:i < its.length:=by
    have h1:=(List.getElem?_eq_some_iff.mp hi).1;have h2:=hds.len;have h3:=rv.length;omega
   obtain⟨a,dj,g1,g2,g3,g4⟩:=hit i hil;rw[hi]at g3;cases g3;exact⟨its[i],List.getElem_mem hil,by rw[g1,ee i a di g2 hi g4];exact he⟩
def rInD (K:W.Frag) (neg:Bool):R2:=fun x y H Q=>∃(p t:Addr) (ts:List Addr) (ds:List D) (d:D),x=.ref t∧y=.ref p∧(SqL K H p (ts.map V.ref)∨SqT K H p (ts.map V.ref))∧Yb H (ts.map V.ref) ds∧Den H (.ref t) d∧(∀d∈ds,d.ok=true∧d.dep≤8)∧d.ok=true∧Q (.bl (if neg then !(ds.any fun y=>eqD y d) else ds.any fun y=>eqD y d)) H
theorem YHW (K:W.Frag) (hK:X.K=K) (hu:X.A.units + 64 < cLine):OpR X (compareOp .In) (rInD K false):=by
 subst hK;intro pins s σ H x y v u Q I rx ry h;obtain⟨p,t,ts,ds,d,rfl,rfl,hq,hds,hd,hok,hdk,q⟩:=h;cases rx;cases ry;rcases hq with hq |hq
 ·obtain⟨its,r,pl,hz⟩:=I.list hq;obtain⟨e,e1,e2⟩:=YIT I hu r hds hd hok hdk;exact SeqAt.in_listAt e pl.isList e1 ⟨.bl _,H,I,rfl,by rw[e2];exact q⟩
 ·obtain⟨its,r,pl,hz⟩:=I.tuple hq;obtain⟨e,e1,e2⟩:=YIT I hu r hds hd hok hdk;exact SeqAt.in_tupleAt e pl e1 ⟨.bl _,H,I,rfl,by rw[e2];exact q⟩
theorem YEA (K:W.Frag) (hK:X.K=K) (hu:X.A.units + 64 < cLine):OpR X (compareOp .NotIn) (rInD K true):=by
 subst hK;intro pins s σ H x y v u Q I rx ry h;obtain⟨p,t,ts,ds,d,rfl,rfl,hq,hds,hd,hok,hdk,q⟩:=h;cases rx;cases ry;rcases hq with hq |hq
 ·obtain⟨its,r,pl,hz⟩:=I.list hq;obtain⟨e,e1,e2⟩:=YIT I hu r hds hd hok hdk;exact SeqAt.notIn_listAt e pl.isList e1 ⟨.bl _,H,I,rfl,by rw[e2];exact q⟩
 ·obtain⟨its,r,pl,hz⟩:=I.tuple hq;obtain⟨e,e1,e2⟩:=YIT I hu r hds hd hok hdk;exact SeqAt.notIn_tupleAt e pl e1 ⟨.bl _,H,I,rfl,by rw[e2];exact q⟩
end
end L2
namespace L2
open PySem PySem.Spec PyProof.Rows
def Dn (K:W.Frag) (x:Str) (f:Addr):Prop:=PySem.W.nsIn K mainGlobals x=some (some (.ref f))
def Zn (K:W.Frag) (x:Str):Prop:=PySem.W.nsIn K mainGlobals x=some none
def On (K:W.Frag) (c:Addr) (x:Str):Prop:=PySem.W.findIn K (.ref c) x=some none
inductive An (K:W.Frag) (c:Addr) (x:Str) (f:Addr):Prop
 |mk:PySem.W.findIn K (.ref c) x=some (some (.ref f))→PySem.W.isFn K (.ref f)=true→An K c x f
inductive Ln (K:W.Frag) (x q:Str) (st:Stmt) (f:Addr):Prop
 |mk {oc:Value}{od an:Option Addr}{osl:Array (Option Value)}{kV doc pm cdv ct:Value}:K.lookup f=some ⟨oc,od,.func (PySem.W.fnOf x q (Jo st) (JB st) (YJ st) .none kV doc pm an cdv ct),osl⟩→PySem.W.codeIn K cdv q=true→PySem.W.keepIn K (.ref f)=true→Ln K x q st f
theorem Ln.ex {K:W.Frag}{x q:Str}{st:Stmt}{f:Addr}:Ln K x q st f→∃fd,Fun K x q st f fd
 |.mk l c k=>⟨_,YJ3 l c k⟩
section
variable (P:Program) (w:World) {K:W.Frag}{mg:Str→Option Value}{CX:CXT}{k:Nat}{x q:Str}{st:Stmt}{C f:Addr}{fd:FuncData}{ps:List Str}{sp:Sp}
theorem us (m:mg x=some (.ref f)) (F:Fun K x q st f fd) (o:∀base,Y6 P w K mg base CX k f fd ps sp) (b:∀(kV doc pm:Value) (an:Option Addr) (cdv ct:Value) (us:List Value),us.length=ps.length→bindArgs (PySem.W.fnOf x q (Jo st) (JB st) (YJ st) .none kV doc pm an cdv ct) ⟨us,[]⟩=pure (ps.zip us)):Zq P w K mg CX k x ps sp:=⟨⟨f,fd,o,m,F.kp,F.binds b⟩⟩
theorem usM (a:An K C x f) (F:Fun K x q st f fd) (o:∀base,Y6 P w K mg base CX k f fd ps sp) (b:∀(kV doc pm:Value) (an:Option Addr) (cdv ct:Value) (us:List Value),us.length=ps.length→bindArgs (PySem.W.fnOf x q (Jo st) (JB st) (YJ st) .none kV doc pm an cdv ct) ⟨us,[]⟩=pure (ps.zip us)):JT P w K mg CX k C x ps sp:=by
 cases a with
 |mk a j=>exact⟨⟨f,fd,o,⟨a,j,F.kp⟩,F.binds b⟩⟩
theorem usI (h1:PySem.W.makesIn K C=true) (h2:PySem.W.keepIn K (.ref C)=true) (a:An K C "__init__" f) (F:Fun K x q st f fd) (o:∀base,Y6 P w K mg base CX k f fd ps sp) (b:∀(kV doc pm:Value) (an:Option Addr) (cdv ct:Value) (us:List Value),us.length=ps.length→bindArgs (PySem.W.fnOf x q (Jo st) (JB st) (YJ st) .none kV doc pm an cdv ct) ⟨us,[]⟩=pure (ps.zip us)):UsedI P w K mg CX k C ps sp:=by
 cases a with
 |mk a j=>exact⟨⟨f,fd,o,⟨h1,a,j,h2⟩,F.binds b⟩⟩
end
end L2
namespace L2
open PySem PySem.Spec PyProof.Rows
section
variable {prog:Program}{w:World}{A:Around}{R:Result→Shared→Prop}{I S:Addr}{fp wr:List Addr}{n:Nat}{P:Nat→Value→Prop}{St:Nat→Heap→Prop}{bt:Nat→Nat→Bool}{kw:List (Str×Value)}
theorem YDB:(toString "max" ++ toString ".loop":String)="max.loop":=by decide
theorem mx_more (W:Walks prog w A.in1 I fp wr n P St) (hcm:CmpOf prog w A.in1 .Gt P bt) (nS:S∉fp):∀(m j:Nat),n=j + 1 + m→∀(s:Shared) (x:Value) (c:Nat),St (j + 1) s.heap→P (argBest bt j) x→
  s.heap.get? S=some ⟨.type "list",none,.seq #[x,x] c,#[]⟩→(∀y h' tk,P (argBest bt (n - 1)) y→(∀a o,a∉wr→a≠S→s.heap.get? a=some o→h'.get? a=some o)→R (.ok (.ret y)) { s with heap:=h',toks:=tk })→
  codeAny (model prog w) A (.builtin "max.loop" ⟨[.ref I,.none,.ref S],kw⟩) R s:=fun m=>by
 have nw:S∉wr:=fun z=>nS (W.sub _ z)
 induction m with
 |zero=>
  intro j en s x c st px gS fin;have en:j + 1=n:=by omega
  refine codeAny_builtin F.entry_max_loop ?_;rw[Around.under_plainId F.plain_max_loop];show wpAny _ _ (seqItems? (.ref S) >>= _) _ _ _;refine wpAny_bind (wpAny_seqItems gS rfl ?_);show wpAny _ _ (tryCatch (pyNext (.ref I)) _ >>= _) _ _ _;subst en;refine wpAny_bind (wpAny_tryCatch (W.done s _ _ st fun h1 t1 k1=>?_));show wpAny _ _ (updateSeq S (fun _=>#[]) >>= _) _ _ _;refine wpAny_bind (wpAny_updateSeq (k1 S _ nw gS) rfl (wpAny_bind (wpAny_letGo (wpAny_pure ?_))));exact fin x _ t1 px fun a o h1 h2 e=>(Heap.get?_update_other _ _ h2.symm).trans (k1 a o h1 e)
 |succ m ih=>
  intro j en s x c st px gS fin;have lt:j + 1 < n:=by omega
  have en2:n=j + 1 + 1 + m:=by omega
  refine codeAny_builtin F.entry_max_loop ?_;rw[Around.under_plainId F.plain_max_loop];show wpAny _ _ (seqItems? (.ref S) >>= _) _ _ _;refine wpAny_bind (wpAny_seqItems gS rfl ?_);show wpAny _ _ (tryCatch (pyNext (.ref I)) _ >>= _) _ _ _;refine wpAny_bind (wpAny_tryCatch (W.item (j + 1) s _ _ lt st fun y h1 t1 py st1 k1=>?_));have g1:=k1 S _ nw gS;show wpAny _ _ (tryCatch (holding [y,y] (richCompare .Gt y x >>= _)) _ >>= _) _ _ _;refine wpAny_bind (wpAny_tryCatch (wpAny_holding (wpAny_bind (hcm (j + 1) (argBest bt j) y x _ _ _ py px (wpAny_bind (wpAny_holding (wpAny_truthy_bool (wpAny_bind (wpAny_letGo (wpAny_pure ?_))))))))));have ab:argBest bt (j + 1)=if bt (j + 1) (argBest bt j)=true then j + 1 else argBest bt j:=rfl
  cases hb:bt (j + 1) (argBest bt j) with
  |true=>
   rw[hb,if_pos rfl]at ab;rw[if_pos rfl];refine wpAny_bind (wpAny_updateSeq g1 rfl (wpAny_bind (wpAny_letGo ?_)));rw[YDB];refine wpAny_pure ⟨plainId_quiet F.plain_max_loop _,ih (j + 1) en2 _ y _ (W.frame _ _ _ st1 fun a ha o e=>(Heap.get?_update_other _ _ fun z=>nS (by rw[z];exact ha)).trans e) (by rw[ab];exact py) (Heap.get?_update_self _ g1 rfl) fun v h2 t2 pv k2=>?_⟩;exact fin v h2 t2 pv fun a o n1 n2 e=>k2 a o n1 n2 ((Heap.get?_update_other _ _ n2.symm).trans (k1 a o n1 e))
  |false=>
   rw[hb,if_neg YLT]at ab;rw[if_neg YLT];refine wpAny_bind (wpAny_letGo ?_);rw[YDB];refine wpAny_pure ⟨plainId_quiet F.plain_max_loop _,ih (j + 1) en2 _ x c st1 (by rw[ab];exact px) g1 fun v h2 t2 pv k2=>?_⟩;exact fin v h2 t2 pv fun a o n1 n2 e=>k2 a o n1 n2 (k1 a o n1 e)
theorem YKn (W:Walks prog w A.in1 I fp wr n P St) (hcm:CmpOf prog w A.in1 .Gt P bt) (nS:S∉fp) {s:Shared}{c:Nat} (hn:0 < n) (st:St 0 s.heap) (gS:s.heap.get? S=some ⟨.type "list",none,.seq #[] c,#[]⟩)
  (fin:∀y h' tk,P (argBest bt (n - 1)) y→(∀a o,a∉wr→a≠S→s.heap.get? a=some o→h'.get? a=some o)→R (.ok (.ret y)) { s with heap:=h',toks:=tk }):
  codeAny (model prog w) A (.builtin "max.loop" ⟨[.ref I,.none,.ref S],kw⟩) R s:=by
 have nw:S∉wr:=fun z=>nS (W.sub _ z)
 refine codeAny_builtin F.entry_max_loop ?_;rw[Around.under_plainId F.plain_max_loop];show wpAny _ _ (seqItems? (.ref S) >>= _) _ _ _;refine wpAny_bind (wpAny_seqItems gS rfl ?_);show wpAny _ _ (tryCatch (pyNext (.ref I)) _ >>= _) _ _ _;refine wpAny_bind (wpAny_tryCatch (W.item 0 s _ _ hn st fun y h1 t1 py st1 k1=>?_));have g1:=k1 S _ nw gS;show wpAny _ _ (updateSeq S (fun _=>#[y,y]) >>= _) _ _ _;refine wpAny_bind (wpAny_updateSeq g1 rfl ?_);rw[YDB];refine wpAny_pure ⟨plainId_quiet F.plain_max_loop _,mx_more W hcm nS (n - 1) 0 (by omega) _ y _ (W.frame _ _ _ st1 fun a ha o e=>(Heap.get?_update_other _ _ fun z=>nS (by rw[z];exact ha)).trans e) py (Heap.get?_update_self _ g1 rfl) fun v h2 t2 pv k2=>?_⟩;exact fin v h2 t2 pv fun a o n1 n2 e=>k2 a o n1 n2 ((Heap.get?_update_other _ _ n2.symm).trans (k1 a o n1 e))
theorem mx_none (W:Walks prog w A.in1 I fp wr n P St) (nS:S∉fp) {s:Shared}{c:Nat}{k:Str}{d:Value} (hn:n=0) (st:St 0 s.heap) (gS:s.heap.get? S=some ⟨.type "list",none,.seq #[] c,#[]⟩)
  (fin:∀h' tk,(∀a o,a∉wr→s.heap.get? a=some o→h'.get? a=some o)→R (.ok (.ret d)) { s with heap:=h',toks:=tk }):
  codeAny (model prog w) A (.builtin "max.loop" ⟨[.ref I,.none,.ref S],[(k,d)]⟩) R s:=by
 refine codeAny_builtin F.entry_max_loop ?_;rw[Around.under_plainId F.plain_max_loop];show wpAny _ _ (seqItems? (.ref S) >>= _) _ _ _;refine wpAny_bind (wpAny_seqItems gS rfl ?_);show wpAny _ _ (tryCatch (pyNext (.ref I)) _ >>= _) _ _ _;subst hn;refine wpAny_bind (wpAny_tryCatch (W.done s _ _ st fun h1 t1 k1=>?_));exact wpAny_bind (wpAny_rule (wpAny_pure (fin h1 t1 k1)))
end
section
variable {prog:Program}{w:World}{A:Around}{E:Value→Shared→Prop}{s:Shared}{l:Addr}{items:Array Value}{bt:Nat→Nat→Bool}{d:Value}
theorem mx_call {Q:Value→Shared→Prop} (hh:A.handled=none) (hl:s.heap.IsList l items) (hcm:CmpOf prog w A.in1 .Gt (fun i v=>items[i]?=some v) bt)
  (h0:items.size=0→∀h' tk,(∀a o,s.heap.get? a=some o→h'.get? a=some o)→Q d { s with heap:=h',toks:=tk })
  (h1:0 < items.size→∀v h' tk,items[argBest bt (items.size - 1)]?=some v→(∀a o,s.heap.get? a=some o→h'.get? a=some o)→Q v { s with heap:=h',toks:=tk }):
  wpAny (model prog w) A (call (.builtin "max") [.ref l] [("default",d)]) Q E s:=by
 have hlt:l < s.heap.objs.size:=by obtain⟨_,e,_⟩:=hl;exact Heap.lt_size e
 refine wpAny_call (codeAny_call_builtin F.plain_max F.entry_max (wpAny_of_eq (show checkBuiltinCall "max" ⟨[.ref l],[("default",d)]⟩=pure () by kernel_rfl) ?_));show wpAny _ _ (Builtin.Builtins.bindParams "max" ["key","default"] 0 ⟨[],[("default",d)]⟩ >>= _) _ _ s;refine wpAny_bind (wpAny_of_eq (show _=pure [none,some d] from rfl) (wpAny_bind (wpAny_pure (wpAny_bind (wpAny_pyIter_list hl (wpAny_bind (wpAny_newObj_type ?_)))))));rw[YDB];have W:=Walks.list (prog:=prog) (w:=w) (A:=A.in1) hh s.heap.objs.size l (YLY hlt) items;have kp:∀(a:Addr) (o:Obj) (h':Heap) (x y:Obj),(∀a o,a∉[s.heap.objs.size]→((s.heap.push x).push y).get? a=some o→h'.get? a=some o)→s.heap.get? a=some o→h'.get? a=some o:=fun a o h' x y hk e=>
  hk a o (fun z=>by rw[List.mem_singleton.mp z]at e;exact Nat.lt_irrefl _ (Heap.lt_size e)) (Heap.get?_push_of_some _ (Heap.get?_push_of_some _ e))
 refine wpAny_pure ⟨plainId_quiet F.plain_max_loop _,?_⟩;have e1:∀x:Obj,(s.heap.push x).objs.size=s.heap.objs.size + 1:=fun x=>Heap.size_push _ _
 have nS:∀x:Obj,(s.heap.push x).objs.size∉[s.heap.objs.size,l]:=fun x z=>by
  rw[e1]at z;simp only[List.mem_cons,List.not_mem_nil,or_false]at z;rcases z with z |z
  ·exact Nat.succ_ne_self _ z
  ·rw[←z]at hlt;exact absurd hlt (Nat.not_lt.mpr (Nat.le_succ _))
 have st:∀y:Obj,((s.heap.push { cls:=.type "list_iterator",data:=.fields #[.ref l,.int 0 0] }).push y).IsListIter s.heap.objs.size l 0∧((s.heap.push { cls:=.type "list_iterator",data:=.fields #[.ref l,.int 0 0] }).push y).IsList l items:=
  fun y=>⟨⟨_,Heap.get?_push_of_some _ (Heap.get?_push_size _ rfl),rfl,rfl⟩,(hl.push _).push _⟩
 by_cases hz:items.size=0
 ·exact mx_none W (nS _) hz (st _) (Heap.get?_push_size _ rfl) fun h' tk hk=>h0 hz h' tk fun a o=>kp a o h' _ _ hk
 ·refine YKn W hcm (nS _) (Nat.pos_of_ne_zero hz) (st _) (Heap.get?_push_size _ rfl) fun v h' tk hv hk=>h1 (Nat.pos_of_ne_zero hz) v h' tk hv fun a o e=>?_
  have hlt':=Heap.lt_size e;refine hk a o (fun z=>?_) (fun z=>?_) (Heap.get?_push_of_some _ (Heap.get?_push_of_some _ e))
  ·rw[List.mem_singleton.mp z]at hlt';exact Nat.lt_irrefl _ hlt'
  ·have z:a=(s.heap.push { cls:=.type "list_iterator",data:=.fields #[.ref l,.int 0 0] }).objs.size:=z;rw[z,e1]at hlt';exact absurd hlt' (Nat.not_lt.mpr (Nat.le_succ _))
end
section
variable {X:Cx}{x:Str}{e:Expr}{kws:List Keyword}{p pos:Pos}{t tk:TA}
def tMaxD (K:W.Frag) (t tk:TA):TE:=fun σ H Q=>t σ H fun vs H1=>tk σ H1 fun zs H2=>∃(a:Addr) (ns:List Int) (y:V),vs=[.ref a]∧zs=[y]∧SqL K H2 a (ns.map V.int)∧(ns=[]→Q y H2)∧∀m,m∈ns→(∀b∈ns,b≤m)→Q (.int m) H2
theorem pe_maxD (K:W.Frag) (hK:X.K=K) (hc:X.calm=true) (hg:Gl X x) (hm:X.mg x=none) (hv:bootBuiltins x=some (.builtin "max")) (ha:PA X [e] t) (hd:PK X kws tk) (hn:x≠"__name__":=by decide) (hdb:(x == ("__debug__":Str))=false:=by decide)
  (he:starEach [e] X.env=[(false,eval e X.env)]:=by rfl) (hk:(backToKw pos (keywordEach kws X.env)).filterMap (·.1)=[("default":Str)]:=by rfl) (hal:(backToKw pos (keywordEach kws X.env)).all (·.1.isSome)=true:=by rfl) (han:(backToKw pos (keywordEach kws X.env)).any (·.1.isNone)=false:=by rfl):
  PE X (.Call (.Name x p) [e] kws pos) (tMaxD K t tk):=by
 subst hK;intro pins s σ H Q I h;refine wpAny_Call_Name_kw (XE I hg hm hv ?_ hn hdb);refine callWith_kw (rest:=[]) (thn (ha pos pins s σ H _ I h) fun us s1 ⟨vs,H1,I1,r1,q1⟩=>thn (hd pos pins s1 σ H1 _ I1 q1) fun ws s2 ⟨zs,H2,I2,r2,a,ns,y,e1,e2,hq,q0,qm⟩=>?_) (by rw[he];rfl) (by rw[he];rfl) hal han;subst e1 e2;obtain⟨u,rfl,ru⟩:=Jc r1;obtain⟨v,rfl,rv⟩:=Jc r2;cases ru;rw[hk];obtain⟨its,ri,pl,hz⟩:=I2.list hq;have hlen:ns.length=its.length:=by have:=ri.length;rwa [YLD]at this
 refine mx_call (bt:=fun i j=>decide ((ns[i]?).getD 0 > (ns[j]?).getD 0)) (I2.ok.hd hc) pl.isList (CmpOf.ints_gt (fun i=>(ns[i]?).getD 0) fun i v hP=>?_) (fun h0 h' tk hk=>?_) fun h0 v h' tk hv' hk=>?_
 ·obtain⟨b,t,eb,rfl⟩:=YDT ri (i:=i) (v:=v) (by simpa using hP);exact⟨t,by show Value.int b t=Value.int ((ns[i]?).getD 0) t;rw[eb];rfl⟩
 ·rw[YLL,←hlen]at h0;exact⟨y,H2,I2.kept (t':=tk) hk,rv,q0 (List.length_eq_zero_iff.mp h0)⟩
 ·obtain⟨b,t,eb,rfl⟩:=YDT ri (v:=v) (by simpa using hv');rw[YLL,←hlen]at h0;rw[←hlen]at eb;have eb:ns[argBest (fun i j=>decide ((ns[i]?).getD 0 > (ns[j]?).getD 0)) (ns.length - 1)]?=some b:=eb;obtain⟨g1,g2⟩:=argBest_gt (fun i=>(ns[i]?).getD 0) (ns.length - 1);refine⟨.int b,H2,I2.kept (t':=tk) hk,⟨t,rfl⟩,qm b (YLH eb) fun c hc=>?_⟩;obtain⟨i,hi⟩:=List.getElem?_of_mem hc;have hil:=(List.getElem?_eq_some_iff.mp hi).1;have:=g2 i (by omega);rw[hi,eb]at this;exact this
end
end L2
namespace FR
open PySem L2
def top (i:Nat):Stmt:=PySem.Challenge.pw_forestread_k25_whole_rows_of_the_wood.main.body.getD i (.Pass ⟨0,0,0,0⟩)
abbrev YBV:Stmt:=top 11
abbrev JU:Stmt:=top 12
abbrev YCL:Stmt:=top 13
abbrev YCM:Stmt:=top 14
abbrev YCN:Stmt:=top 15
abbrev YBW:Stmt:=top 21
abbrev YAp:Stmt:=top 22
abbrev YCO:Stmt:=top 23
abbrev YAI:Stmt:=top 24
abbrev YCP:Stmt:=top 25
structure Adr where
 Wood:Addr
 NoGrammar:Addr
 NoText:Addr
 Growth:Addr
 none_:Addr
structure Txt (K:W.Frag) (mg:Str→Option Value) (C:Adr):Prop where
 aL:mg "isinstance"=none
 lA:mg "int"=none
 sS:mg "bool"=none
 uz:mg "ord"=none
 pM:mg "str"=none
 aD:mg "len"=none
 m8:mg "all"=none
 jV:mg "tuple"=none
 eQ:mg "list"=none
 iJ:mg "enumerate"=none
 bA:mg "range"=none
 pN:mg "sorted"=none
 rY:mg "sum"=none
 cT:mg "reversed"=none
 uA:mg "max"=none
 cU:∃t,mg "FIRST_CODE"=some (.int 32 t)
 dH:∃t,mg "LAST_CODE"=some (.int 126 t)
 b8:∃t,mg "PERCENT_CODE"=some (.int 37 t)
 b_:∃t,mg "MOST_LETTERS"=some (.int 8 t)
 cV:∃t,mg "MOST_PARTS"=some (.int 6 t)
 cW:∃t,mg "MOST_RULES"=some (.int 60 t)
 cX:∃t,mg "MOST_SIGNS"=some (.int 60 t)
 sU:mg "Wood"=some (.ref C.Wood)
 lB:mg "NoGrammar"=some (.ref C.NoGrammar)
 pO:mg "NoText"=some (.ref C.NoText)
 pP:mg "Growth"=some (.ref C.Growth)
 lC:Exc K C.NoGrammar
 pQ:Exc K C.NoText
 aj:Cls K C.Growth
 ak:Cls K C.Wood
 dB:Zp K C.Growth "rules"
 au:Zp K C.Growth "heights"
 bf:Zp K C.Growth "height"
 aA:Zp K C.Growth "fresh"
 bh:Zp K C.Growth "higher"
 bW:Zp K C.Growth "begun"
 cg:Zp K C.Growth "ends"
 dC:Zp K C.Wood "numbers"
 aM:Zp K C.Wood "rules"
 aN:Zp K C.Wood "found"
 cY:Zp K C.Wood "ends"
 gq:Zp K C.Wood "text"
 bj:Zp K C.Wood "root"
theorem YEB:(["letter"]:List Str).Nodup:=by decide +kernel
theorem YGN:(["part"]:List Str).Nodup:=by decide +kernel
section
variable {P:Program}{w:World}{K:W.Frag}{mg:Str→Option Value}{base:Heap}{C:Adr}
theorem YGO:YV ["thing"] ["thing"] (YJ YBV):=⟨rfl,rfl,rfl,by decide +kernel,rfl,by decide +kernel,by decide +kernel⟩
theorem YGP {f:Addr}{fd:FuncData} (F:Fun K "is_whole" "is_whole" YBV f fd) (T:Txt K mg C):Y6 P w K mg base CX0 1 f fd ["thing"] (YAG YF0):=by
 refine F.ok YGO (fun vs H Q E h=>?_) (fun cdv A outer s H vs Q E hr h=>?_)
 ·obtain⟨x,d,rfl,_⟩:=h;rfl
 ·obtain⟨x,d,rfl,den,sh,hp,q⟩:=h;refine⟨_,(YG (YX (Jy (YR (JQ K rfl) (by rfl) T.aL PyProof.Rows.Boot.«isinstance» (YA (pv 0) (YA (Xd (v:=.ty "int") (by rfl) T.lA PyProof.Rows.Boot.«int» rfl) YC))) (Xp (pe_not (YR (JQ K rfl) (by rfl) T.aL PyProof.Rows.Boot.«isinstance» (YA (pv 0) (YA (Xd (v:=.ty "bool") (by rfl) T.sS PyProof.Rows.Boot.«bool» rfl) YC)))))))),?_⟩;refine⟨_,rfl,_,_,_,_,_,rfl,den.ty,rfl,kit_int d,_,rfl,?_⟩;refine Jt (g:=!YH6 d) (fun _ R hR=>⟨_,rfl,_,_,_,_,_,rfl,den.ty,rfl,YKI d,_,rfl,hR⟩) ?_;cases d <;> exact q
theorem XS:YV ["sign","code"] ["sign"] (YJ JU):=⟨rfl,rfl,rfl,by decide +kernel,rfl,by decide +kernel,by decide +kernel⟩
theorem YBX {f:Addr}{fd:FuncData} (F:Fun K "stands_in_texts" "stands_in_texts" JU f fd) (T:Txt K mg C):Y6 P w K mg base CX0 1 f fd ["sign"] (YDU):=by
 obtain⟨qU,cU⟩:=T.cU;obtain⟨rZ,dH⟩:=T.dH;obtain⟨pR,b8⟩:=T.b8;refine F.ok XS (fun vs H Q E h=>?_) (fun cdv A outer s H vs Q E hr h=>?_)
 ·obtain⟨c,rfl,_⟩:=h;rfl
 ·obtain⟨c,rfl,q⟩:=h;refine⟨_,(YF (YK (i:=1) XS.nd rfl (Or.inl rfl) (YR YJp (by rfl) T.uz PyProof.Rows.Boot.«ord» (YA (pv 0) YC)))
   (YG (YX (Jy (YBh YAa YAa (X9 (v:=.int 32) (by rfl) cU ⟨_,rfl⟩) (pv 1) (X9 (v:=.int 126) (by rfl) dH ⟨_,rfl⟩)) (Xp (JH YCa (pv 1) (X9 (v:=.int 37) (by rfl) b8 ⟨_,rfl⟩) (Yf _))))))),?_⟩
  refine⟨_,rfl,_,rfl,rfl,?_⟩;refine⟨_,rfl,_,_,rfl,rfl,_,rfl,?_⟩;have ec:(((⟨#[c]⟩:Str).cps.getD 0 0:Nat):Int)=(c:Int):=rfl;rw[ec];refine YBA (fun h1=>?_) fun h1=>?_
  ·refine⟨_,_,rfl,rfl,_,rfl,?_⟩;refine YBA (fun h2=>?_) fun h2=>?_
   ·refine⟨_,rfl,rfl,?_⟩;have e:(!decide (V.int (c:Int)=V.int 37))=good c:=by
     simp only[decide_eq_true_eq]at h1 h2;unfold good;have a1:32≤c:=by omega
     have a2:c≤126:=by omega
     rw[decide_eq_true a1,decide_eq_true a2]
     by_cases h3:c=37
     ·subst h3;rfl
     ·rw[decide_eq_false h3,decide_eq_false (fun z=>h3 (by have:=V.int.inj z;omega))];rfl
    rw[e];exact q
   ·have e:good c=false:=by
     simp only[decide_eq_true_eq]at h2;unfold good;rw[decide_eq_false (show ¬c≤126 by omega)];simp
    rw[e]at q;exact q
  ·refine⟨_,rfl,ZL ?_⟩;have e:good c=false:=by
    simp only[decide_eq_true_eq]at h1;unfold good;rw[decide_eq_false (show ¬32≤c by omega)];simp
   rw[e]at q;exact q
theorem first39 (z:Str):decide (V.str ⟨#[z.cps.getD 0 0]⟩=V.str "'")=decide (z.cps.getD 0 0=39):=by
 by_cases h:z.cps.getD 0 0=39
 ·rw[h];decide +kernel
 ·rw[decide_eq_false h,decide_eq_false];intro e;apply h;have e6:(({ cps:=#[z.cps.getD 0 0] }:Str)).cps.getD 0 0=(("'":Str)).cps.getD 0 0:=congrArg (fun s:Str=>s.cps.getD 0 0) (V.str.inj e);exact(show z.cps.getD 0 0=(({ cps:=#[z.cps.getD 0 0] }:Str)).cps.getD 0 0 from rfl).trans (e6.trans (by decide +kernel))
theorem YHX:YV ["thing"] ["thing"] (YJ YCL):=⟨rfl,rfl,rfl,by decide +kernel,rfl,by decide +kernel,by decide +kernel⟩
theorem YHY {f:Addr}{fd:FuncData} (F:Fun K "is_sign" "is_sign" YCL f fd) (T:Txt K mg C) (aF:Zq P w K mg CX0 1 "stands_in_texts" ["sign"] (YDU)):Y6 P w K mg base CX0 2 f fd ["thing"] (YAG YBr):=by
 obtain⟨gw,eU,bB,bC,bD,bF⟩:=aF.ok;refine F.ok YHX (fun vs H Q E h=>?_) (fun cdv A outer s H vs Q E hr h=>?_)
 ·obtain⟨x,d,rfl,_⟩:=h;rfl
 ·obtain⟨x,d,rfl,den,sh,hp,q⟩:=h;refine⟨_,(YG (YX (Jy (YR (JQ K rfl) (by rfl) T.aL PyProof.Rows.Boot.«isinstance» (YA (pv 0) (YA (Xd (v:=.ty "str") (by rfl) T.pM PyProof.Rows.Boot.«str» rfl) YC))) (Jy (JH Jq (YR Zw (by rfl) T.aD PyProof.Rows.Boot.«len» (YA (pv 0) YC)) YD (Yf _)) (Jy (JH Jq (YM Z5 (pv 0) YD (fun _ _=>rfl)) Zj (Yf _)) (Xp (YY (bB base) (hr.mono (by decide)) (by rfl) bC bD bF .nil Yg (YA (YM Z5 (pv 0) YD (fun _ _=>rfl)) YC)))))))),?_⟩;refine⟨_,rfl,_,_,_,_,_,rfl,den.ty,rfl,YFJ d,_,rfl,?_⟩;cases d with
  |str z=>
   have ex:=den.to_str;subst ex;have hz:=YBP sh;have ev:YBr (.str z)=(z.cps.size == 2 && z.cps[0]? == some 39 && good (z.cps.getD 1 0)):=rfl;refine Ze ?_;refine⟨_,rfl,z,rfl,hz,rfl,_,rfl,?_⟩;refine Jt (g:=decide (z.cps.getD 0 0=39) && good (z.cps.getD 1 0)) (fun h2 R hR=>?_) ?_
   ·have hs:z.cps.size=2:=by
     have e:=V.int.inj (of_decide_eq_true h2);rw[XR]at e;omega
    have g0:z.cps.toList[0]?=some (z.cps.getD 0 0):=by
     rw[Array.getElem?_toList];simp[hs]
    have g1:z.cps.toList[1]?=some (z.cps.getD 1 0):=by
     rw[Array.getElem?_toList];simp[hs]
    refine⟨_,rfl,z,0,_,rfl,rfl,hz,ZT (j:=0) g0,rfl,_,rfl,?_⟩;rw[first39];exact Jt (g:=good (z.cps.getD 1 0)) (fun _ R hR=>⟨_,rfl,z,1,_,rfl,rfl,hz,ZT (j:=1) g1,_,rfl,hR⟩) hR
   ·have e2:(decide (V.int (z.length:Int)=V.int 2) && (decide (z.cps.getD 0 0=39) && good (z.cps.getD 1 0)))=YBr (.str z):=by
     rw[ev,XR,Bool.and_assoc]
     by_cases h2:z.cps.size=2
     ·have g0:z.cps[0]?=some (z.cps.getD 0 0):=by simp[h2]
      have e4:(some (z.cps.getD 0 0) == some 39)=decide (z.cps.getD 0 0=39):=by
       rw[YLe];simp
      rw[g0,e4];congr 1;rw[h2];decide
     ·rw[decide_eq_false (fun e=>h2 (by have:=V.int.inj e;omega)),beq_eq_false_iff_ne.mpr h2];rfl
    rw[e2];exact q
  |_=>exact ZL q
theorem YHZ:YV ["thing"] ["thing"] (YJ YCM):=⟨rfl,rfl,rfl,by decide +kernel,rfl,by decide +kernel,by decide +kernel⟩
theorem YHa {f:Addr}{fd:FuncData} (F:Fun K "is_name" "is_name" YCM f fd) (T:Txt K mg C):Y6 P w K mg base CX0 1 f fd ["thing"] (YAG isNameD):=by
 obtain⟨pU,b_⟩:=T.b_;refine F.ok YHZ (fun vs H Q E h=>?_) (fun cdv A outer s H vs Q E hr h=>?_)
 ·obtain⟨x,d,rfl,_⟩:=h;rfl
 ·obtain⟨x,d,rfl,den,sh,hp,q⟩:=h;refine⟨_,(YF (Y3 (XF (Xo (YR (JQ K rfl) (by rfl) T.aL PyProof.Rows.Boot.«isinstance» (YA (pv 0) (YA (Xd (v:=.ty "str") (by rfl) T.pM PyProof.Rows.Boot.«str» rfl) YC))))) (YG (YX Xc)) Yc)
   (YG (YX (Jy (YBh YAa YAa YD (YR Zw (by rfl) T.aD PyProof.Rows.Boot.«len» (YA (pv 0) YC)) (X9 (v:=.int 8) (by rfl) b_ ⟨_,rfl⟩)) (Xp (YC5 (YR (YAx K rfl rfl) (by rfl) T.m8 PyProof.Rows.Boot.«all» (YA (J6 (N:=["letter"]) (ρ:=[none]) (cl:=[]) rfl (Yz.plain rfl (by decide +kernel) (by decide +kernel) rfl (by simp)) (YJ6 (pv 0)) (fun _ _ _ _ _=>(Yd (i:=0) YEB rfl (Or.inl rfl) (.inr rfl))) (fun _ _ _ _ _=>Jp) (fun _ _ _ _ _=>(YBh YEb YEb Zj (pv 0) Zj))) YC)))))))),?_⟩
  refine⟨_,rfl,_,_,_,_,_,rfl,den.ty,rfl,YFJ d,_,rfl,?_⟩;cases d with
  |str z=>
   have ex:=den.to_str;subst ex;have hz:=YBP sh;have ev:isNameD (.str z)=(decide (1≤z.cps.size) && decide (z.cps.size≤8) && z.cps.toList.all Zk):=rfl;refine ZL ?_;refine⟨_,rfl,z,rfl,hz,_,_,rfl,rfl,_,rfl,?_⟩;refine YBA (fun h1=>?_) fun h1=>?_
   ·refine⟨_,_,rfl,rfl,_,rfl,?_⟩;have h1':1≤z.cps.size:=by have:=of_decide_eq_true h1;rw[XR]at this;omega
    refine YBA (fun h2=>?_) fun h2=>?_
    ·have h2':z.cps.size≤8:=by have:=of_decide_eq_true h2;rw[XR]at this;omega
     refine⟨hp,_,rfl,z,rfl,fun l hl=>?_⟩;refine YFw (τ:=YDP [none] _) (fun c=>.bl (Zk c)) hl Nat.zero_lt_one hz (fun τ' c H' R hτ _ hR=>?_) ?_
     ·refine⟨_,hτ,_,_,rfl,rfl,_,rfl,?_⟩;rw[le_A];refine YBA (fun h3=>?_) fun h3=>?_
      ·refine⟨_,_,rfl,rfl,?_⟩;rw[le_Z];have e5:Zk c=decide (c≤90):=by unfold Zk;rw[h3];rfl
       rw[e5]at hR;exact hR
      ·have e5:Zk c=false:=by
        unfold Zk;cases hh:decide (65≤c) with
        |false=>rfl
        |true=>exact absurd hh h3
       rw[e5]at hR;exact hR
     ·refine⟨l,z.cps.toList.map Zk,rfl,.inl (.inl ?_),fun b o eb=>?_,?_⟩
      ·rw[YB,YKK]
      ·rw[YE (Ya eb hl)];exact eb
      ·rw[YAF];rw[ev,decide_eq_true h1',decide_eq_true h2']at q
       simpa using q
    ·have h2':¬z.cps.size≤8:=fun z'=>h2 (decide_eq_true (by rw[XR];omega))
     rw[ev,decide_eq_false h2']at q
     simpa using q
   ·have h1':¬1≤z.cps.size:=fun z'=>h1 (decide_eq_true (by rw[XR];omega))
    refine⟨_,rfl,ZL ?_⟩;rw[ev,decide_eq_false h1']at q
    simpa using q
  |_=>exact Ze q
theorem YHb:YV ["thing"] ["thing"] (YJ YCN):=⟨rfl,rfl,rfl,by decide +kernel,rfl,by decide +kernel,by decide +kernel⟩
theorem YHc {f:Addr}{fd:FuncData} (F:Fun K "is_part" "is_part" YCN f fd) (T:Txt K mg C) (g8:Zq P w K mg CX0 2 "is_sign" ["thing"] (YAG YBr)) (bZ:Zq P w K mg CX0 1 "is_name" ["thing"] (YAG isNameD)):Y6 P w K mg base CX0 3 f fd ["thing"] (YAG J8):=by
 obtain⟨ur,sV,nC,nD,nF,nG⟩:=g8.ok;obtain⟨nH,mq,g_,ie,ig,ik⟩:=bZ.ok;refine F.ok YHb (fun vs H Q E h=>?_) (fun cdv A outer s H vs Q E hr h=>?_)
 ·obtain⟨x,d,rfl,_⟩:=h;rfl
 ·obtain⟨x,d,rfl,den,sh,hp,q⟩:=h;refine⟨_,(YG (YX (pe_or (YY (nC base) (hr.mono (by decide)) (by rfl) nD nF nG .nil Yg (YA (pv 0) YC)) (Xp (YY (g_ base) (hr.mono (by decide)) (by rfl) ie ig ik .nil Yg (YA (pv 0) YC)))))),?_⟩;refine⟨_,rfl,x,d,rfl,den,sh,hp,_,rfl,?_⟩;exact or_read (g:=isNameD d) (fun _ R hR=>⟨_,rfl,x,d,rfl,den,sh,hp,hR⟩) q
theorem YGQ:YV ["thing"] ["thing"] (YJ YBW):=⟨rfl,rfl,rfl,by decide +kernel,rfl,by decide +kernel,by decide +kernel⟩
theorem YGR {f:Addr}{fd:FuncData} (F:Fun K "is_worth" "is_worth" YBW f fd) (T:Txt K mg C) (eV:Zq P w K mg CX0 1 "is_whole" ["thing"] (YAG YF0)):Y6 P w K mg base CX0 2 f fd ["thing"] (YAG XO):=by
 obtain⟨sW,sr,my,mz,mC,mD⟩:=eV.ok;refine F.ok YGQ (fun vs H Q E h=>?_) (fun cdv A outer s H vs Q E hr h=>?_)
 ·obtain⟨x,d,rfl,_⟩:=h;rfl
 ·obtain⟨x,d,rfl,den,sh,hp,q⟩:=h;refine⟨_,(YG (YX (Jy (YY (my base) (hr.mono (by decide)) (by rfl) mz mC mD .nil Yg (YA (pv 0) YC)) (Xp (YBh YAa YAa YD (pv 0) (YN YJk YD YD)))))),?_⟩;refine⟨_,rfl,x,d,rfl,den,sh,hp,_,rfl,?_⟩;cases d with
  |int i=>
   have ex:=den.to_int;subst ex;have ev:XO (.int i)=(decide (0≤i) && decide (i≤10 ^ 60)):=rfl;refine Ze ?_;refine⟨_,rfl,_,_,rfl,rfl,_,rfl,?_⟩;refine YBA (fun h1=>?_) fun h1=>?_
   ·refine⟨_,_,rfl,rfl,⟨by decide,by decide,by decide⟩,_,_,rfl,rfl,?_⟩;rw[ev,h1]at q;exact q
   ·have h1':decide (0≤i)=false:=by
     cases hh:decide (0≤i) with
     |false=>rfl
     |true=>exact absurd hh h1
    rw[ev,h1']at q;exact q
  |_=>exact ZL q
theorem YFP:YV ["thing"] ["thing"] (YJ YAp):=⟨rfl,rfl,rfl,by decide +kernel,rfl,by decide +kernel,by decide +kernel⟩
theorem YFQ {f:Addr}{fd:FuncData} (F:Fun K "are_parts" "are_parts" YAp f fd) (T:Txt K mg C) (il:Zq P w K mg CX0 3 "is_part" ["thing"] (YAG J8)):Y6 P w K mg base CX0 4 f fd ["thing"] (YAG XB):=by
 obtain⟨ut,sX,nJ,nM,nO,nP⟩:=il.ok;obtain⟨qW,cV⟩:=T.cV;refine F.ok YFP (fun vs H Q E h=>?_) (fun cdv A outer s H vs Q E hr h=>?_)
 ·obtain⟨x,d,rfl,_⟩:=h;rfl
 ·obtain⟨x,d,rfl,den,sh,hp,q⟩:=h;refine⟨_,(YF (Y3 (XF (Xo (YR (JQ K rfl) (by rfl) T.aL PyProof.Rows.Boot.«isinstance» (YA (pv 0) (YA (Xd (v:=.ty "tuple") (by rfl) T.jV PyProof.Rows.Boot.«tuple» rfl) YC))))) (YG (YX Xc)) Yc)
   (YG (YX (Jy (JH YAa (YR (YQ K rfl) (by rfl) T.aD PyProof.Rows.Boot.«len» (YA (pv 0) YC)) (X9 (v:=.int 6) (by rfl) cV ⟨_,rfl⟩) (Yf _)) (Xp (YC5 (YR (YAx K rfl rfl) (by rfl) T.m8 PyProof.Rows.Boot.«all» (YA (J6 (N:=["part"]) (ρ:=[none]) (cl:=[]) rfl (Yz.plain rfl (by decide +kernel) (by decide +kernel) rfl (by simp)) (Xf K rfl (pv 0)) (fun _ _ _ _ _=>(Yd (i:=0) YGN rfl (Or.inl rfl) (.inr rfl))) (fun _ _ _ _ _=>Jp) (fun _ _ _ _ _=>(YY (nJ base) (hr.mono (by decide)) (by rfl) nM nO nP .nil Yg (YA (pv 0) YC)))) YC)))))))),?_⟩
  refine⟨_,rfl,_,_,_,_,_,rfl,den.ty,rfl,YEd d,_,rfl,?_⟩;cases d with
  |tup ds=>
   obtain⟨a,xs,rfl,ha,hds⟩:=den.to_tup;have hl:xs.length=ds.length:=hds.len;refine ZL ?_;refine⟨_,rfl,a,xs,rfl,.inr (SqT.of ha),_,_,rfl,rfl,_,rfl,?_⟩;have shS:XQ ds=true:=by unfold D.short at sh;exact sh
   have e1:decide ((xs.length:Int)≤6)=decide (ds.length≤6):=by rw[hl];congr 1;exact propext ⟨fun h=>by omega,fun h=>by omega⟩
   rw[e1];refine Jt (g:=ds.all J8) (fun h1 R hR=>?_) q;have h1':ds.length≤6:=of_decide_eq_true h1;refine⟨hp,_,rfl,a,rfl,⟨xs,SqT.of ha⟩,fun l hln=>?_⟩;refine XM (n:=xs.length) 0 (fun k y _=>∃d,ds[k]?=some d∧y=.bl (J8 d)) (X2 (SqT.of ha)) (fun _ _ _ _ _ h=>h) hp hln Nat.zero_lt_one (YH (by omega)) (fun τ'=>0 < τ'.length) Nat.zero_lt_one (fun τ' v h=>by rw[List.length_set];exact h) ?_ ?_
   ·intro τ' k y H' R _ hτ hit hk hs hp' qX hR;obtain⟨d,hd,dn⟩:=hds.get hit;exact⟨_,hτ,y,d,rfl,dn.same hs,Jf shS (YLH hd),hp',hR _ _ (YI.refl _) hp' ⟨d,hd,rfl⟩⟩
   ·intro ys H' hy hP hs hp' hl';have e2:ys=(ds.map J8).map V.bl:=YKL (by rw[hy,hl]) hP;refine⟨l,ds.map J8,rfl,.inl (.inl (by rw[hl',e2])),hs,?_⟩;rw[YAF];exact hR
  |_=>exact Ze q
theorem YHd:YV ["thing"] ["thing"] (YJ YCO):=⟨rfl,rfl,rfl,by decide +kernel,rfl,by decide +kernel,by decide +kernel⟩
theorem YHe {f:Addr}{fd:FuncData} (F:Fun K "is_rule" "is_rule" YCO f fd) (T:Txt K mg C) (bZ:Zq P w K mg CX0 1 "is_name" ["thing"] (YAG isNameD)) (dI:Zq P w K mg CX0 4 "are_parts" ["thing"] (YAG XB)) (eX:Zq P w K mg CX0 2 "is_worth" ["thing"] (YAG XO)):Y6 P w K mg base CX0 5 f fd ["thing"] (YAG JC):=by
 obtain⟨nH,mq,g_,ie,ig,ik⟩:=bZ.ok;obtain⟨su,qY,lD,lE,lF,lG⟩:=dI.ok;obtain⟨sY,sy,mF,mG,mH,mJ⟩:=eX.ok;refine F.ok YHd (fun vs H Q E h=>?_) (fun cdv A outer s H vs Q E hr h=>?_)
 ·obtain⟨x,d,rfl,_⟩:=h;rfl
 ·obtain⟨x,d,rfl,den,sh,hp,q⟩:=h;refine⟨_,(YF (Y3 (PW.pt (YHs (XF (Xo (YR (JQ K rfl) (by rfl) T.aL PyProof.Rows.Boot.«isinstance» (YA (pv 0) (YA (Xd (v:=.ty "tuple") (by rfl) T.jV PyProof.Rows.Boot.«tuple» rfl) YC))))) (YG0 (Ye YCa (YR (YQ K rfl) (by rfl) T.aD PyProof.Rows.Boot.«len» (YA (pv 0) YC)) YD (Yf _))))) (YG (YX Xc)) Yc)
   (YG (YX (Jy (YY (g_ base) (hr.mono (by decide)) (by rfl) ie ig ik .nil Yg (YA (YM (YS K rfl) (pv 0) YD (fun _ _=>rfl)) YC)) (Jy (YY (lD base) (hr.mono (by decide)) (by rfl) lE lF lG .nil Yg (YA (YM (YS K rfl) (pv 0) YD (fun _ _=>rfl)) YC)) (Xp (YY (mF base) (hr.mono (by decide)) (by rfl) mG mH mJ .nil Yg (YA (YM (YS K rfl) (pv 0) YD (fun _ _=>rfl)) YC)))))))),?_⟩
  refine⟨_,rfl,_,_,_,_,_,rfl,den.ty,rfl,YEd d,_,rfl,?_⟩;cases d with
  |tup ds=>
   obtain⟨a,xs,rfl,ha,hds⟩:=den.to_tup;have hl:xs.length=ds.length:=hds.len;refine ZL ?_;refine⟨_,rfl,a,xs,rfl,.inr (SqT.of ha),rfl,_,rfl,?_⟩;have shS:XQ ds=true:=by unfold D.short at sh;exact sh
   by_cases h3:ds.length=3
   ·match ds,h3,xs,hl,hds,ha,q,shS with
    |[d0,d1,d2],_,[x0,x1,x2],_,hds,ha,q,shS=>
     have n0:=(hds.get (i:=0) (v:=x0) rfl);have n1:=(hds.get (i:=1) (v:=x1) rfl);have n2:=(hds.get (i:=2) (v:=x2) rfl);obtain⟨_,e0,n0⟩:=n0;obtain⟨_,e1,n1⟩:=n1;obtain⟨_,e2,n2⟩:=n2;cases e0;cases e1;cases e2;have sq:SqT K H a [x0,x1,x2]:=SqT.of ha;refine ZL ?_;refine⟨_,rfl,a,_,0,x0,rfl,rfl,sq,rfl,x0,d0,rfl,n0,Jf shS (by simp),hp,_,rfl,?_⟩;refine Jt (g:=XB d1 && XO d2) (fun _ R hR=>?_) q;refine⟨_,rfl,a,_,1,x1,rfl,rfl,sq,rfl,x1,d1,rfl,n1,Jf shS (by simp),hp,_,rfl,?_⟩;exact Jt (g:=XO d2) (fun _ R hR=>⟨_,rfl,a,_,2,x2,rfl,rfl,sq,rfl,x2,d2,rfl,n2,Jf shS (by simp),hp,hR⟩) hR
   ·have e1:(!decide (V.int (xs.length:Int)=V.int 3))=true:=by
     rw[decide_eq_false]
     ·rfl
     ·intro e;have:=V.int.inj e;omega
    rw[e1];refine Ze ?_;have e2:JC (.tup ds)=false:=by
     match ds,h3 with
     |[],_=>rfl
     |[_],_=>rfl
     |[_,_],_=>rfl
     |[_,_,_],h=>exact absurd rfl h
     |_ :: _ :: _ :: _ :: _,_=>rfl
    rw[e2]at q;exact q
  |_=>exact Ze q
end
theorem YGS:(["rule"]:List Str).Nodup:=by decide +kernel
section
variable {P:Program}{w:World}{K:W.Frag}{mg:Str→Option Value}{base:Heap}{C:Adr}
theorem YEC:YV ["thing"] ["thing"] (YJ YAI):=⟨rfl,rfl,rfl,by decide +kernel,rfl,by decide +kernel,by decide +kernel⟩
theorem YED {f:Addr}{fd:FuncData} (F:Fun K "is_grammar" "is_grammar" YAI f fd) (T:Txt K mg C) (ir:Zq P w K mg CX0 5 "is_rule" ["thing"] (YAG JC)):Y6 P w K mg base CX0 6 f fd ["thing"] (YAG JI):=by
 obtain⟨uv,sZ,nQ,nR,nT,nU⟩:=ir.ok;obtain⟨qZ,cW⟩:=T.cW;refine F.ok YEC (fun vs H Q E h=>?_) (fun cdv A outer s H vs Q E hr h=>?_)
 ·obtain⟨x,d,rfl,_⟩:=h;rfl
 ·obtain⟨x,d,rfl,den,sh,hp,q⟩:=h;refine⟨_,(YF (Y3 (XF (Xo (YR (JQ K rfl) (by rfl) T.aL PyProof.Rows.Boot.«isinstance» (YA (pv 0) (YA (Xd (v:=.ty "list") (by rfl) T.eQ PyProof.Rows.Boot.«list» rfl) YC))))) (YG (YX Xc)) Yc)
   (YG (YX (Jy (JH YAa (YR (YQ K rfl) (by rfl) T.aD PyProof.Rows.Boot.«len» (YA (pv 0) YC)) (X9 (v:=.int 60) (by rfl) cW ⟨_,rfl⟩) (Yf _)) (Xp (YC5 (YR (YAx K rfl rfl) (by rfl) T.m8 PyProof.Rows.Boot.«all» (YA (J6 (N:=["rule"]) (ρ:=[none]) (cl:=[]) rfl (Yz.plain rfl (by decide +kernel) (by decide +kernel) rfl (by simp)) (JE K rfl (pv 0)) (fun _ _ _ _ _=>(Yd (i:=0) YGS rfl (Or.inl rfl) (.inr rfl))) (fun _ _ _ _ _=>Jp) (fun _ _ _ _ _=>(YY (nQ base) (hr.mono (by decide)) (by rfl) nR nT nU .nil Yg (YA (pv 0) YC)))) YC)))))))),?_⟩
  refine⟨_,rfl,_,_,_,_,_,rfl,den.ty,rfl,YKJ d,_,rfl,?_⟩;cases d with
  |lst ds=>
   obtain⟨a,xs,rfl,ha,hds⟩:=den.to_lst;have hl:xs.length=ds.length:=hds.len;have sq:SqL K H a xs:=.inl ha;refine ZL ?_;refine⟨_,rfl,a,xs,rfl,.inl sq,_,_,rfl,rfl,_,rfl,?_⟩;have shS:XQ ds=true:=by unfold D.short at sh;exact sh
   have e1:decide ((xs.length:Int)≤60)=decide (ds.length≤60):=by rw[hl];congr 1;exact propext ⟨fun h=>by omega,fun h=>by omega⟩
   rw[e1];refine Jt (g:=ds.all JC) (fun h1 R hR=>?_) q;have h1':ds.length≤60:=of_decide_eq_true h1;refine⟨hp,_,rfl,a,rfl,⟨xs,sq⟩,fun l hln=>?_⟩;refine XM (n:=xs.length) 0 (fun k y _=>∃d,ds[k]?=some d∧y=.bl (JC d)) (YBO sq) (fun _ _ _ _ _ h=>h) hp hln Nat.zero_lt_one (YH (by omega)) (fun τ'=>0 < τ'.length) Nat.zero_lt_one (fun τ' v h=>by rw[List.length_set];exact h) ?_ ?_
   ·intro τ' k y H' R _ hτ hit hk hs hp' qX hR;obtain⟨d,hd,dn⟩:=hds.get hit;exact⟨_,hτ,y,d,rfl,dn.same hs,Jf shS (YLH hd),hp',hR _ _ (YI.refl _) hp' ⟨d,hd,rfl⟩⟩
   ·intro ys H' hy hP hs hp' hl';have e2:ys=(ds.map JC).map V.bl:=YKL (by rw[hy,hl]) hP;refine⟨l,ds.map JC,rfl,.inl (.inl (by rw[hl',e2])),hs,?_⟩;rw[YAF];exact hR
  |_=>exact Ze q
theorem YHf:YV ["thing"] ["thing"] (YJ YCP):=⟨rfl,rfl,rfl,by decide +kernel,rfl,by decide +kernel,by decide +kernel⟩
theorem YHg {f:Addr}{fd:FuncData} (F:Fun K "checked" "checked" YCP f fd) (T:Txt K mg C) (cZ:Zq P w K mg CX0 6 "is_grammar" ["thing"] (YAG JI)):Y6 P w K mg base (CXo P w) 7 f fd ["thing"] (YCI C.NoGrammar):=by
 obtain⟨q9,qH,jW,jX,jY,jZ⟩:=cZ.ok;refine F.okX YHf (fun vs H Q E h=>?_) (fun cdv A outer s H vs Q E hr h=>?_)
 ·obtain⟨x,d,rfl,_⟩:=h;rfl
 ·obtain⟨x,d,rfl,den,sh,hp,q1,q2⟩:=h;refine⟨_,(YF (Y3 (XF (Xo (YY (jW base) (hr.mono (by decide)) (by rfl) jX jY jZ .nil Yg (YA (pv 0) YC)))) (YG (YFt XL T.lC rfl (by rfl) T.lB (YA Zj YC))) Yc)
   (YG (YX (Z2 (Xq K rfl) (by rfl) T.eQ PyProof.Rows.Boot.«list» (YA (pv 0) YC))))),?_⟩
  refine⟨_,rfl,x,d,rfl,den,sh,hp,_,rfl,?_⟩;refine YBA (fun hi=>?_) fun hi=>?_
  ·exact⟨YH (by decide),q2 (YDW hi)⟩
  ·have e:=YEf hi;obtain⟨g,rfl,hg⟩:=YH8 e;obtain⟨a,xs,rfl,ha,hds⟩:=YKN den;exact⟨_,rfl,a,xs,rfl,.inl (.inl ha),fun l hl=>q1 e l xs _ rfl hds hl⟩
end
abbrev YCQ:Stmt:=top 16
abbrev XT:Stmt:=top 17
theorem YGT:(["sign"]:List Str).Nodup:=by decide +kernel
section
variable {P:Program}{w:World}{K:W.Frag}{mg:Str→Option Value}{base:Heap}{C:Adr}
theorem YHh:YV ["thing"] ["thing"] (YJ YCQ):=⟨rfl,rfl,rfl,by decide +kernel,rfl,by decide +kernel,by decide +kernel⟩
theorem YHi {f:Addr}{fd:FuncData} (F:Fun K "is_text" "is_text" YCQ f fd) (T:Txt K mg C) (aF:Zq P w K mg CX0 1 "stands_in_texts" ["sign"] (YDU)):Y6 P w K mg base CX0 2 f fd ["thing"] (YAG Xh):=by
 obtain⟨gw,eU,bB,bC,bD,bF⟩:=aF.ok;obtain⟨q_,cX⟩:=T.cX;refine F.ok YHh (fun vs H Q E h=>?_) (fun cdv A outer s H vs Q E hr h=>?_)
 ·obtain⟨x,d,rfl,_⟩:=h;rfl
 ·obtain⟨x,d,rfl,den,sh,hp,q⟩:=h;refine⟨_,(YF (Y3 (XF (Xo (YR (JQ K rfl) (by rfl) T.aL PyProof.Rows.Boot.«isinstance» (YA (pv 0) (YA (Xd (v:=.ty "str") (by rfl) T.pM PyProof.Rows.Boot.«str» rfl) YC))))) (YG (YX Xc)) Yc)
   (YG (YX (Jy (JH YAa (YR Zw (by rfl) T.aD PyProof.Rows.Boot.«len» (YA (pv 0) YC)) (X9 (v:=.int 60) (by rfl) cX ⟨_,rfl⟩) (Yf _)) (Xp (YC5 (YR (YAx K rfl rfl) (by rfl) T.m8 PyProof.Rows.Boot.«all» (YA (J6 (N:=["sign"]) (ρ:=[none]) (cl:=[]) rfl (Yz.plain rfl (by decide +kernel) (by decide +kernel) rfl (by simp)) (YJ6 (pv 0)) (fun _ _ _ _ _=>(Yd (i:=0) YGT rfl (Or.inl rfl) (.inr rfl))) (fun _ _ _ _ _=>Jp) (fun _ _ _ _ _=>(YY (bB base) (hr.mono (by decide)) (by rfl) bC bD bF .nil Yg (YA (pv 0) YC)))) YC)))))))),?_⟩
  refine⟨_,rfl,_,_,_,_,_,rfl,den.ty,rfl,YFJ d,_,rfl,?_⟩;cases d with
  |str z=>
   have ex:=den.to_str;subst ex;have hz:=YBP sh;have ev:Xh (.str z)=(decide (z.cps.size≤60) && z.cps.toList.all good):=rfl;refine ZL ?_;refine⟨_,rfl,z,rfl,hz,_,_,rfl,rfl,_,rfl,?_⟩;have e1:decide ((z.length:Int)≤60)=decide (z.cps.size≤60):=by
    rw[XR];congr 1;exact propext ⟨fun h=>by omega,fun h=>by omega⟩
   rw[e1];refine Jt (g:=z.cps.toList.all good) (fun h1 R hR=>?_) (by rw[ev]at q;exact q);refine⟨hp,_,rfl,z,rfl,fun l hl=>?_⟩;refine YFw (τ:=YDP [none] _) (fun c=>.bl (good c)) hl Nat.zero_lt_one hz (fun τ' c H' R hτ _ hR=>?_) ?_
   ·exact⟨_,hτ,c,rfl,hR⟩
   ·refine⟨l,z.cps.toList.map good,rfl,.inl (.inl ?_),fun b o eb=>?_,?_⟩
    ·rw[YB,YKK]
    ·rw[YE (Ya eb hl)];exact eb
    ·rw[YAF];exact hR
  |_=>exact Ze q
theorem YCs:YV ["thing"] ["thing"] (YJ XT):=⟨rfl,rfl,rfl,by decide +kernel,rfl,by decide +kernel,by decide +kernel⟩
theorem YCt {f:Addr}{fd:FuncData} (F:Fun K "checked_text" "checked_text" XT f fd) (T:Txt K mg C) (iu:Zq P w K mg CX0 2 "is_text" ["thing"] (YAG Xh)):Y6 P w K mg base (CXo P w) 3 f fd ["thing"] (YBQ C.NoText):=by
 obtain⟨uw,tD,nW,nY,nZ,n8⟩:=iu.ok;refine F.okX YCs (fun vs H Q E h=>?_) (fun cdv A outer s H vs Q E hr h=>?_)
 ·obtain⟨x,d,rfl,_⟩:=h;rfl
 ·obtain⟨x,d,rfl,den,sh,hp,q1,q2⟩:=h;refine⟨_,(YF (Y3 (XF (Xo (YY (nW base) (hr.mono (by decide)) (by rfl) nY nZ n8 .nil Yg (YA (pv 0) YC)))) (YG (YFt XL T.pQ rfl (by rfl) T.pO (YA Zj YC))) Yc)
   (YG (YX (pv 0)))),?_⟩
  refine⟨_,rfl,x,d,rfl,den,sh,hp,_,rfl,?_⟩;refine YBA (fun hi=>?_) fun hi=>?_
  ·exact⟨YH (by decide),q2 (YDW hi)⟩
  ·have e:=YEf hi;cases d with
   |str z=>
    have ex:=den.to_str;subst ex;exact⟨_,rfl,q1 z rfl e⟩
   |_=>cases e
end
abbrev JV:Stmt:=Zx (top 27) 0
abbrev XU:Stmt:=Zx (top 27) 1
abbrev Z4:Stmt:=Zx (top 27) 2
abbrev JO:Stmt:=Zx (top 27) 3
abbrev Zt:Stmt:=Zx (top 27) 4
abbrev Xs:Stmt:=Zx (top 27) 5
abbrev Xt:Stmt:=Zx (top 27) 6
abbrev YBY:Stmt:=top 28
section
variable {P:Program}{w:World}{K:W.Frag}{mg:Str→Option Value}{base:Heap}{C:Adr}
theorem YCu:YV ["self","node"] ["self","node"] (YJ XU):=⟨rfl,rfl,rfl,by decide +kernel,rfl,by decide +kernel,by decide +kernel⟩
theorem YCv {f:Addr}{fd:FuncData} (F:Fun K "stand" "Growth.stand" XU f fd) (T:Txt K mg C):Y6 P w K mg base CX0 1 f fd ["self","node"] (YC9 C.Growth):=by
 refine F.ok YCu (fun vs H Q E h=>?_) (fun cdv A outer s H vs Q E hr h=>?_)
 ·obtain⟨H0,x,l,a1,a2,a3,a4,a5,t,own,hs,fresh,aa,h,B,E,N,y,rfl,_⟩:=h;rfl
 ·obtain⟨H0,x,l,a1,a2,a3,a4,a5,t,own,hs,fresh,aa,hh,B,E,N,y,rfl,g,ht,hy,hl1,hl2,q⟩:=h;have hu:=JP hr;refine⟨_,(YF (YAC hu (Yh K rfl (pv 0) rfl) (pv 1) (Yh K rfl (pv 0) rfl) rfl)
   (YG (Yk (ZV K rfl PySem.F.plainAttrs_list PySem.F.slot_list_append PySem.F.type_list_append Yl (Yh K rfl (pv 0) rfl) (YA (pv 1) YC))))),?_⟩
  obtain⟨dx,hx⟩:=g.x_;refine⟨_,rfl,x,C.Growth,dx,_,_,rfl,hx,T.aj,T.bf,rfl,_,rfl,x,C.Growth,dx,_,_,rfl,hx,T.aj,T.au,rfl,_,rfl,a1,_,rfl,YCD.t g.h1 ht (by unfold hsD;rw[YLD,sizeLine_eq];omega),?_⟩;have ep:Y4 (hsD hs) (Yu y) (nV hh)=hsD (hs ++ [(y,hh)]):=YKd hh hy;rw[ep];have g1:=g.set1 (hs ++ [(y,hh)]);have st1:∀b o,b≠a1→H b=some o→upd H a1 (.dT (hsD (hs ++ [(y,hh)]))) b=some o:=fun b o hb e=>by rw[YE hb];exact e
  revert g1 st1;generalize upd H a1 (.dT (hsD (hs ++ [(y,hh)])))=H1;intro g1 st1;obtain⟨dx,hx⟩:=g1.x_;obtain⟨ts,e2,n2⟩:=g1.h2;have ht1:=st1 _ _ (Yr ht g.h1 nofun) ht;refine⟨_,rfl,x,C.Growth,dx,_,_,rfl,hx,T.aj,T.aA,rfl,.inl ⟨rfl,_,SqL.of e2⟩,_,rfl,a2,_,_,rfl,rfl,e2,(by rw[YLD,n2.1,sizeLine_eq];omega),?_⟩;have e3:ts.map V.ref ++ [V.ref t]=(ts ++ [t]).map V.ref:=by rw[YLK];rfl
  rw[e3];exact q _ (g1.set2 (n2.snoc ht1)) fun b o h1 h2 e=>by rw[YE h2];exact st1 b o h1 e
theorem YAJ:YV ["self","node"] ["self","node"] (YJ Z4):=⟨rfl,rfl,rfl,by decide +kernel,rfl,by decide +kernel,by decide +kernel⟩
theorem YAK {f:Addr}{fd:FuncData} (F:Fun K "stand_higher" "Growth.stand_higher" Z4 f fd) (T:Txt K mg C):Y6 P w K mg base CX0 1 f fd ["self","node"] (YEm C.Growth):=by
 refine F.ok YAJ (fun vs H Q E h=>?_) (fun cdv A outer s H vs Q E hr h=>?_)
 ·obtain⟨H0,x,l,a1,a2,a3,a4,a5,t,own,hs,fresh,aa,h,B,E,N,y,rfl,_⟩:=h;rfl
 ·obtain⟨H0,x,l,a1,a2,a3,a4,a5,t,own,hs,fresh,aa,hh,B,E,N,y,rfl,g,ht,hy,hl1,hl2,q⟩:=h;have hu:=JP hr;refine⟨_,(YF (YAC hu (Yh K rfl (pv 0) rfl) (pv 1) (YN Yp (Yh K rfl (pv 0) rfl) YD) rfl)
   (YG (Yk (ZV K rfl PySem.F.plainAttrs_list PySem.F.slot_list_append PySem.F.type_list_append Yl (Yh K rfl (pv 0) rfl) (YA (pv 1) YC))))),?_⟩
  obtain⟨dx,hx⟩:=g.x_;refine⟨_,rfl,x,C.Growth,dx,_,_,rfl,hx,T.aj,T.bf,rfl,_,_,rfl,rfl,_,rfl,x,C.Growth,dx,_,_,rfl,hx,T.aj,T.au,rfl,_,rfl,a1,_,rfl,YCD.t g.h1 ht (by unfold hsD;rw[YLD,sizeLine_eq];omega),?_⟩;have ep:Y4 (hsD hs) (Yu y) ((fun i j:Int=>V.int (i + j)) (hh:Int) 1)=hsD (hs ++ [(y,hh + 1)]):=YKd (hh + 1) hy;rw[ep];have g1:=g.set1 (hs ++ [(y,hh + 1)]);have st1:∀b o,b≠a1→H b=some o→upd H a1 (.dT (hsD (hs ++ [(y,hh + 1)]))) b=some o:=fun b o hb e=>by rw[YE hb];exact e
  revert g1 st1;generalize upd H a1 (.dT (hsD (hs ++ [(y,hh + 1)])))=H1;intro g1 st1;obtain⟨dx,hx⟩:=g1.x_;obtain⟨ts,e2,n2⟩:=g1.h3;have ht1:=st1 _ _ (Yr ht g.h1 nofun) ht;refine⟨_,rfl,x,C.Growth,dx,_,_,rfl,hx,T.aj,T.bh,rfl,.inl ⟨rfl,_,SqL.of e2⟩,_,rfl,a3,_,_,rfl,rfl,e2,(by rw[YLD,n2.1,sizeLine_eq];omega),?_⟩;have e3:ts.map V.ref ++ [V.ref t]=(ts ++ [t]).map V.ref:=by rw[YLK];rfl
  rw[e3];exact q _ (g1.set3 (n2.snoc ht1)) fun b o h1 h2 e=>by rw[YE h2];exact st1 b o h1 e
theorem YBZ:YV ["self","rules"] ["self","rules"] (YJ JV):=⟨rfl,rfl,rfl,by decide +kernel,rfl,by decide +kernel,by decide +kernel⟩
theorem YBa {f:Addr}{fd:FuncData} (F:Fun K "__init__" "Growth.__init__" JV f fd) (T:Txt K mg C):Y6 P w K mg base CX0 1 f fd ["self","rules"] (YIM C.Growth):=by
 refine F.ok YBZ (fun vs H Q E h=>?_) (fun cdv A outer s H vs Q E hr h=>?_)
 ·obtain⟨H0,x,l,dx,rfl,_⟩:=h;rfl
 ·obtain⟨H0,x,l,dx,rfl,hx,hx0,s0,hp,q⟩:=h;refine qex ?_;refine⟨_,(YO ⟨(Zf K rfl (pv 0) (pv 1) rfl)⟩
   (YO ⟨(Zf K rfl (pv 0) YAb rfl)⟩
   (YO ⟨(Zf K rfl (pv 0) YD rfl)⟩
   (YO ⟨(Zf K rfl (pv 0) (Y0 YC) rfl)⟩
   (YO ⟨(Zf K rfl (pv 0) (Y0 YC) rfl)⟩
   (YO ⟨(Zf K rfl (pv 0) YAb rfl)⟩
   (JS ⟨(Zf K rfl (pv 0) YAb rfl)⟩))))))),?_⟩
  have st0:YI H0 H:=s0;have pl:∀b o,H b=some o→ZB o=true:=hp;refine⟨_,rfl,_,rfl,x,C.Growth,dx,_,rfl,hx,T.aj,T.dB,(show 0 < 1000 by decide),?_⟩;have ef:ZA "rules" (.ref l) ([]:List (Str×V))=([("rules",.ref l)]:List (Str×V)):=rfl;rw[ef];have st1:YI H0 (upd H x (.ins C.Growth dx ([("rules",.ref l)]:List (Str×V)))):=st0.put hx0;have pl1:∀b o,upd H x (.ins C.Growth dx ([("rules",.ref l)]:List (Str×V))) b=some o→ZB o=true:=fun b o e=>(Yt rfl b o e).elim (pl b o) fun z=>z
  have hx1:upd H x (.ins C.Growth dx ([("rules",.ref l)]:List (Str×V))) x=some (.ins C.Growth dx ([("rules",.ref l)]:List (Str×V))):=YB;clear st0 hx pl;revert st1 pl1 hx1;generalize upd H x (.ins C.Growth dx ([("rules",.ref l)]:List (Str×V)))=G0b;intro st0 pl hx;refine fun a1 ha1=>?_
  have nxa1:a1≠x:=fun e=>by rw[e,hx]at ha1;cases ha1
  have za1:H0 a1=none:=st0.free ha1;have st1:YI H0 (upd G0b a1 (.dT [])):=st0.trans (YI.upd ha1);have pl1:∀b o,upd G0b a1 (.dT []) b=some o→b=a1∨ZB o=true:=fun b o e=>by
   by_cases hb:b=a1
   ·exact(.inl hb)
   ·rw[YE hb]at e;have z:=pl b o e;exact .inr z
  have hx1:upd G0b a1 (.dT []) x=some (.ins C.Growth dx ([("rules",.ref l)]:List (Str×V))):=by rw[YE nxa1.symm];exact hx
  have va1:upd G0b a1 (.dT []) a1=some (.dT []):=YB;clear st0 hx pl ha1;revert st1 pl1 hx1 va1;generalize upd G0b a1 (.dT [])=G1a;intro st0 pl hx wa1;refine⟨_,rfl,x,C.Growth,dx,_,rfl,hx,T.aj,T.au,(show 1 < 1000 by decide),?_⟩;have ef:ZA "heights" (.ref a1) ([("rules",.ref l)]:List (Str×V))=([("rules",.ref l),("heights",.ref a1)]:List (Str×V)):=rfl;rw[ef];have st1:YI H0 (upd G1a x (.ins C.Growth dx ([("rules",.ref l),("heights",.ref a1)]:List (Str×V)))):=st0.put hx0;have pl1:∀b o,upd G1a x (.ins C.Growth dx ([("rules",.ref l),("heights",.ref a1)]:List (Str×V))) b=some o→b=a1∨ZB o=true:=fun b o e=>(Yt rfl b o e).elim (pl b o) fun z=>.inr (z)
  have hx1:upd G1a x (.ins C.Growth dx ([("rules",.ref l),("heights",.ref a1)]:List (Str×V))) x=some (.ins C.Growth dx ([("rules",.ref l),("heights",.ref a1)]:List (Str×V))):=YB;have va1:upd G1a x (.ins C.Growth dx ([("rules",.ref l),("heights",.ref a1)]:List (Str×V))) a1=some (.dT []):=by rw[YE nxa1];exact wa1
  clear st0 hx pl wa1;revert st1 pl1 hx1 va1;generalize upd G1a x (.ins C.Growth dx ([("rules",.ref l),("heights",.ref a1)]:List (Str×V)))=G1b;intro st0 pl hx wa1;refine⟨_,rfl,x,C.Growth,dx,_,rfl,hx,T.aj,T.bf,(show 2 < 1000 by decide),?_⟩;have ef:ZA "height" (.int 0) ([("rules",.ref l),("heights",.ref a1)]:List (Str×V))=([("rules",.ref l),("heights",.ref a1),("height",nV 0)]:List (Str×V)):=rfl;rw[ef];have st1:YI H0 (upd G1b x (.ins C.Growth dx ([("rules",.ref l),("heights",.ref a1),("height",nV 0)]:List (Str×V)))):=st0.put hx0;have pl1:∀b o,upd G1b x (.ins C.Growth dx ([("rules",.ref l),("heights",.ref a1),("height",nV 0)]:List (Str×V))) b=some o→b=a1∨ZB o=true:=fun b o e=>(Yt rfl b o e).elim (pl b o) fun z=>.inr (z)
  have hx1:upd G1b x (.ins C.Growth dx ([("rules",.ref l),("heights",.ref a1),("height",nV 0)]:List (Str×V))) x=some (.ins C.Growth dx ([("rules",.ref l),("heights",.ref a1),("height",nV 0)]:List (Str×V))):=YB;have va1:upd G1b x (.ins C.Growth dx ([("rules",.ref l),("heights",.ref a1),("height",nV 0)]:List (Str×V))) a1=some (.dT []):=by rw[YE nxa1];exact wa1
  clear st0 hx pl wa1;revert st1 pl1 hx1 va1;generalize upd G1b x (.ins C.Growth dx ([("rules",.ref l),("heights",.ref a1),("height",nV 0)]:List (Str×V)))=G2b;intro st0 pl hx wa1;refine⟨YLN _,fun a2 ha2=>?_⟩;have nxa2:a2≠x:=fun e=>by rw[e,hx]at ha2;cases ha2
  have za2:H0 a2=none:=st0.free ha2;have na1a2:a1≠a2:=fun e=>by rw[←e,wa1]at ha2;cases ha2
  have st1:YI H0 (upd G2b a2 (.lst [])):=st0.trans (YI.upd ha2);have pl1:∀b o,upd G2b a2 (.lst []) b=some o→b=a1∨ZB o=true:=fun b o e=>(Yt rfl b o e).elim (pl b o) fun z=>.inr (z)
  have hx1:upd G2b a2 (.lst []) x=some (.ins C.Growth dx ([("rules",.ref l),("heights",.ref a1),("height",nV 0)]:List (Str×V))):=by rw[YE nxa2.symm];exact hx
  have va1:upd G2b a2 (.lst []) a1=some (.dT []):=by rw[YE na1a2];exact wa1
  have va2:upd G2b a2 (.lst []) a2=some (.lst []):=YB;clear st0 hx pl wa1 ha2;revert st1 pl1 hx1 va1 va2;generalize upd G2b a2 (.lst [])=G3a;intro st0 pl hx wa1 wa2;refine⟨_,rfl,x,C.Growth,dx,_,rfl,hx,T.aj,T.aA,(show 3 < 1000 by decide),?_⟩;have ef:ZA "fresh" (.ref a2) ([("rules",.ref l),("heights",.ref a1),("height",nV 0)]:List (Str×V))=([("rules",.ref l),("heights",.ref a1),("height",nV 0),("fresh",.ref a2)]:List (Str×V)):=rfl;rw[ef];have st1:YI H0 (upd G3a x (.ins C.Growth dx ([("rules",.ref l),("heights",.ref a1),("height",nV 0),("fresh",.ref a2)]:List (Str×V)))):=st0.put hx0;have pl1:∀b o,upd G3a x (.ins C.Growth dx ([("rules",.ref l),("heights",.ref a1),("height",nV 0),("fresh",.ref a2)]:List (Str×V))) b=some o→b=a1∨ZB o=true:=fun b o e=>(Yt rfl b o e).elim (pl b o) fun z=>.inr (z)
  have hx1:upd G3a x (.ins C.Growth dx ([("rules",.ref l),("heights",.ref a1),("height",nV 0),("fresh",.ref a2)]:List (Str×V))) x=some (.ins C.Growth dx ([("rules",.ref l),("heights",.ref a1),("height",nV 0),("fresh",.ref a2)]:List (Str×V))):=YB;have va1:upd G3a x (.ins C.Growth dx ([("rules",.ref l),("heights",.ref a1),("height",nV 0),("fresh",.ref a2)]:List (Str×V))) a1=some (.dT []):=by rw[YE nxa1];exact wa1
  have va2:upd G3a x (.ins C.Growth dx ([("rules",.ref l),("heights",.ref a1),("height",nV 0),("fresh",.ref a2)]:List (Str×V))) a2=some (.lst []):=by rw[YE nxa2];exact wa2
  clear st0 hx pl wa1 wa2;revert st1 pl1 hx1 va1 va2;generalize upd G3a x (.ins C.Growth dx ([("rules",.ref l),("heights",.ref a1),("height",nV 0),("fresh",.ref a2)]:List (Str×V)))=G3b;intro st0 pl hx wa1 wa2;refine⟨YLN _,fun a3 ha3=>?_⟩;have nxa3:a3≠x:=fun e=>by rw[e,hx]at ha3;cases ha3
  have za3:H0 a3=none:=st0.free ha3;have na1a3:a1≠a3:=fun e=>by rw[←e,wa1]at ha3;cases ha3
  have na2a3:a2≠a3:=fun e=>by rw[←e,wa2]at ha3;cases ha3
  have st1:YI H0 (upd G3b a3 (.lst [])):=st0.trans (YI.upd ha3);have pl1:∀b o,upd G3b a3 (.lst []) b=some o→b=a1∨ZB o=true:=fun b o e=>(Yt rfl b o e).elim (pl b o) fun z=>.inr (z)
  have hx1:upd G3b a3 (.lst []) x=some (.ins C.Growth dx ([("rules",.ref l),("heights",.ref a1),("height",nV 0),("fresh",.ref a2)]:List (Str×V))):=by rw[YE nxa3.symm];exact hx
  have va1:upd G3b a3 (.lst []) a1=some (.dT []):=by rw[YE na1a3];exact wa1
  have va2:upd G3b a3 (.lst []) a2=some (.lst []):=by rw[YE na2a3];exact wa2
  have va3:upd G3b a3 (.lst []) a3=some (.lst []):=YB;clear st0 hx pl wa1 wa2 ha3;revert st1 pl1 hx1 va1 va2 va3;generalize upd G3b a3 (.lst [])=G4a;intro st0 pl hx wa1 wa2 wa3;refine⟨_,rfl,x,C.Growth,dx,_,rfl,hx,T.aj,T.bh,(show 4 < 1000 by decide),?_⟩;have ef:ZA "higher" (.ref a3) ([("rules",.ref l),("heights",.ref a1),("height",nV 0),("fresh",.ref a2)]:List (Str×V))=([("rules",.ref l),("heights",.ref a1),("height",nV 0),("fresh",.ref a2),("higher",.ref a3)]:List (Str×V)):=rfl;rw[ef];have st1:YI H0 (upd G4a x (.ins C.Growth dx ([("rules",.ref l),("heights",.ref a1),("height",nV 0),("fresh",.ref a2),("higher",.ref a3)]:List (Str×V)))):=st0.put hx0;have pl1:∀b o,upd G4a x (.ins C.Growth dx ([("rules",.ref l),("heights",.ref a1),("height",nV 0),("fresh",.ref a2),("higher",.ref a3)]:List (Str×V))) b=some o→b=a1∨ZB o=true:=fun b o e=>(Yt rfl b o e).elim (pl b o) fun z=>.inr (z)
  have hx1:upd G4a x (.ins C.Growth dx ([("rules",.ref l),("heights",.ref a1),("height",nV 0),("fresh",.ref a2),("higher",.ref a3)]:List (Str×V))) x=some (.ins C.Growth dx ([("rules",.ref l),("heights",.ref a1),("height",nV 0),("fresh",.ref a2),("higher",.ref a3)]:List (Str×V))):=YB;have va1:upd G4a x (.ins C.Growth dx ([("rules",.ref l),("heights",.ref a1),("height",nV 0),("fresh",.ref a2),("higher",.ref a3)]:List (Str×V))) a1=some (.dT []):=by rw[YE nxa1];exact wa1
  have va2:upd G4a x (.ins C.Growth dx ([("rules",.ref l),("heights",.ref a1),("height",nV 0),("fresh",.ref a2),("higher",.ref a3)]:List (Str×V))) a2=some (.lst []):=by rw[YE nxa2];exact wa2
  have va3:upd G4a x (.ins C.Growth dx ([("rules",.ref l),("heights",.ref a1),("height",nV 0),("fresh",.ref a2),("higher",.ref a3)]:List (Str×V))) a3=some (.lst []):=by rw[YE nxa3];exact wa3
  clear st0 hx pl wa1 wa2 wa3;revert st1 pl1 hx1 va1 va2 va3;generalize upd G4a x (.ins C.Growth dx ([("rules",.ref l),("heights",.ref a1),("height",nV 0),("fresh",.ref a2),("higher",.ref a3)]:List (Str×V)))=G4b;intro st0 pl hx wa1 wa2 wa3;refine fun a4 ha4=>?_
  have nxa4:a4≠x:=fun e=>by rw[e,hx]at ha4;cases ha4
  have za4:H0 a4=none:=st0.free ha4;have na1a4:a1≠a4:=fun e=>by rw[←e,wa1]at ha4;cases ha4
  have na2a4:a2≠a4:=fun e=>by rw[←e,wa2]at ha4;cases ha4
  have na3a4:a3≠a4:=fun e=>by rw[←e,wa3]at ha4;cases ha4
  have st1:YI H0 (upd G4b a4 (.dT [])):=st0.trans (YI.upd ha4);have pl1:∀b o,upd G4b a4 (.dT []) b=some o→b=a1∨b=a4∨ZB o=true:=fun b o e=>by
   by_cases hb:b=a4
   ·exact .inr ((.inl hb))
   ·rw[YE hb]at e;have z:=pl b o e;rcases z with z |z
    ·exact(.inl z)
    ·exact .inr ((.inr z))
  have hx1:upd G4b a4 (.dT []) x=some (.ins C.Growth dx ([("rules",.ref l),("heights",.ref a1),("height",nV 0),("fresh",.ref a2),("higher",.ref a3)]:List (Str×V))):=by rw[YE nxa4.symm];exact hx
  have va1:upd G4b a4 (.dT []) a1=some (.dT []):=by rw[YE na1a4];exact wa1
  have va2:upd G4b a4 (.dT []) a2=some (.lst []):=by rw[YE na2a4];exact wa2
  have va3:upd G4b a4 (.dT []) a3=some (.lst []):=by rw[YE na3a4];exact wa3
  have va4:upd G4b a4 (.dT []) a4=some (.dT []):=YB;clear st0 hx pl wa1 wa2 wa3 ha4;revert st1 pl1 hx1 va1 va2 va3 va4;generalize upd G4b a4 (.dT [])=G5a;intro st0 pl hx wa1 wa2 wa3 wa4;refine⟨_,rfl,x,C.Growth,dx,_,rfl,hx,T.aj,T.bW,(show 5 < 1000 by decide),?_⟩;have ef:ZA "begun" (.ref a4) ([("rules",.ref l),("heights",.ref a1),("height",nV 0),("fresh",.ref a2),("higher",.ref a3)]:List (Str×V))=([("rules",.ref l),("heights",.ref a1),("height",nV 0),("fresh",.ref a2),("higher",.ref a3),("begun",.ref a4)]:List (Str×V)):=rfl;rw[ef];have st1:YI H0 (upd G5a x (.ins C.Growth dx ([("rules",.ref l),("heights",.ref a1),("height",nV 0),("fresh",.ref a2),("higher",.ref a3),("begun",.ref a4)]:List (Str×V)))):=st0.put hx0;have pl1:∀b o,upd G5a x (.ins C.Growth dx ([("rules",.ref l),("heights",.ref a1),("height",nV 0),("fresh",.ref a2),("higher",.ref a3),("begun",.ref a4)]:List (Str×V))) b=some o→b=a1∨b=a4∨ZB o=true:=fun b o e=>(Yt rfl b o e).elim (pl b o) fun z=>.inr (.inr (z))
  have hx1:upd G5a x (.ins C.Growth dx ([("rules",.ref l),("heights",.ref a1),("height",nV 0),("fresh",.ref a2),("higher",.ref a3),("begun",.ref a4)]:List (Str×V))) x=some (.ins C.Growth dx ([("rules",.ref l),("heights",.ref a1),("height",nV 0),("fresh",.ref a2),("higher",.ref a3),("begun",.ref a4)]:List (Str×V))):=YB;have va1:upd G5a x (.ins C.Growth dx ([("rules",.ref l),("heights",.ref a1),("height",nV 0),("fresh",.ref a2),("higher",.ref a3),("begun",.ref a4)]:List (Str×V))) a1=some (.dT []):=by rw[YE nxa1];exact wa1
  have va2:upd G5a x (.ins C.Growth dx ([("rules",.ref l),("heights",.ref a1),("height",nV 0),("fresh",.ref a2),("higher",.ref a3),("begun",.ref a4)]:List (Str×V))) a2=some (.lst []):=by rw[YE nxa2];exact wa2
  have va3:upd G5a x (.ins C.Growth dx ([("rules",.ref l),("heights",.ref a1),("height",nV 0),("fresh",.ref a2),("higher",.ref a3),("begun",.ref a4)]:List (Str×V))) a3=some (.lst []):=by rw[YE nxa3];exact wa3
  have va4:upd G5a x (.ins C.Growth dx ([("rules",.ref l),("heights",.ref a1),("height",nV 0),("fresh",.ref a2),("higher",.ref a3),("begun",.ref a4)]:List (Str×V))) a4=some (.dT []):=by rw[YE nxa4];exact wa4
  clear st0 hx pl wa1 wa2 wa3 wa4;revert st1 pl1 hx1 va1 va2 va3 va4;generalize upd G5a x (.ins C.Growth dx ([("rules",.ref l),("heights",.ref a1),("height",nV 0),("fresh",.ref a2),("higher",.ref a3),("begun",.ref a4)]:List (Str×V)))=G5b;intro st0 pl hx wa1 wa2 wa3 wa4;refine fun a5 ha5=>?_
  have nxa5:a5≠x:=fun e=>by rw[e,hx]at ha5;cases ha5
  have za5:H0 a5=none:=st0.free ha5;have na1a5:a1≠a5:=fun e=>by rw[←e,wa1]at ha5;cases ha5
  have na2a5:a2≠a5:=fun e=>by rw[←e,wa2]at ha5;cases ha5
  have na3a5:a3≠a5:=fun e=>by rw[←e,wa3]at ha5;cases ha5
  have na4a5:a4≠a5:=fun e=>by rw[←e,wa4]at ha5;cases ha5
  have st1:YI H0 (upd G5b a5 (.dT [])):=st0.trans (YI.upd ha5);have pl1:∀b o,upd G5b a5 (.dT []) b=some o→b=a1∨b=a4∨b=a5∨ZB o=true:=fun b o e=>by
   by_cases hb:b=a5
   ·exact .inr (.inr ((.inl hb)))
   ·rw[YE hb]at e;have z:=pl b o e;rcases z with z |z |z
    ·exact(.inl z)
    ·exact .inr ((.inl z))
    ·exact .inr (.inr ((.inr z)))
  have hx1:upd G5b a5 (.dT []) x=some (.ins C.Growth dx ([("rules",.ref l),("heights",.ref a1),("height",nV 0),("fresh",.ref a2),("higher",.ref a3),("begun",.ref a4)]:List (Str×V))):=by rw[YE nxa5.symm];exact hx
  have va1:upd G5b a5 (.dT []) a1=some (.dT []):=by rw[YE na1a5];exact wa1
  have va2:upd G5b a5 (.dT []) a2=some (.lst []):=by rw[YE na2a5];exact wa2
  have va3:upd G5b a5 (.dT []) a3=some (.lst []):=by rw[YE na3a5];exact wa3
  have va4:upd G5b a5 (.dT []) a4=some (.dT []):=by rw[YE na4a5];exact wa4
  have va5:upd G5b a5 (.dT []) a5=some (.dT []):=YB;clear st0 hx pl wa1 wa2 wa3 wa4 ha5;revert st1 pl1 hx1 va1 va2 va3 va4 va5;generalize upd G5b a5 (.dT [])=G6a;intro st0 pl hx wa1 wa2 wa3 wa4 wa5;refine⟨_,rfl,x,C.Growth,dx,_,rfl,hx,T.aj,T.cg,(show 6 < 1000 by decide),?_⟩;have ef:ZA "ends" (.ref a5) ([("rules",.ref l),("heights",.ref a1),("height",nV 0),("fresh",.ref a2),("higher",.ref a3),("begun",.ref a4)]:List (Str×V))=([("rules",.ref l),("heights",.ref a1),("height",nV 0),("fresh",.ref a2),("higher",.ref a3),("begun",.ref a4),("ends",.ref a5)]:List (Str×V)):=rfl;rw[ef];have kp:∀b o,b≠x→G6a b=some o→upd G6a x (.ins C.Growth dx ([("rules",.ref l),("heights",.ref a1),("height",nV 0),("fresh",.ref a2),("higher",.ref a3),("begun",.ref a4),("ends",.ref a5)]:List (Str×V))) b=some o:=fun b o hb e=>by rw[YE hb];exact e
  refine q a1 a2 a3 a4 a5 (fun b=>if b=a2 then some .fr else if b=a3 then some .hi else none) _ ⟨st0.put hx0,⟨dx,YB⟩,kp _ _ nxa1 wa1,⟨[],kp _ _ nxa2 wa2,rfl,fun i t y e=>nomatch e⟩,⟨[],kp _ _ nxa3 wa3,rfl,fun i t y e=>nomatch e⟩,⟨[],kp _ _ nxa4 wa4,YLG _,fun p k=>.inl ⟨rfl,rfl⟩⟩,⟨[],kp _ _ nxa5 wa5,YLG _,fun p k=>.inl ⟨rfl,rfl⟩⟩,fun p k=>⟨YLG _,YLG _⟩,if_pos rfl,(by rw[if_neg na2a3.symm,if_pos rfl]),fun a t e=>?_,hx0,za1,za4,za5,na1a4,na1a5,na4a5,fun b o e=>(Yt rfl b o e).elim (pl b o) fun z=>.inr (.inr (.inr z))⟩
  by_cases h2:a=a2
  ·subst h2;exact⟨za2,_,kp _ _ nxa2 wa2⟩
  ·rw[if_neg h2]at e
   by_cases h3:a=a3
   ·subst h3;exact⟨za3,_,kp _ _ nxa3 wa3⟩
   ·rw[if_neg h3]at e;cases e
end
theorem X5 {t u:TS}{D:YAY}{σ:St}{H:Hp} (M:St→Hp→Prop) (rest:∀σ' H',M σ' H'→u D σ' H') (h:(∀σ' H',M σ' H'→u D σ' H')→t { D with nx:=u D } σ H):YD2 t u D σ H:=h rest
theorem YEs (E:EnT) (p:Str) (k j:Nat):addE E p k j p k=E p k ++ [j]:=if_pos ⟨rfl,rfl⟩
theorem YGU {E:EnT}{N:Nat} (h:∀p k,(E p k).length≤N) (p:Str) (k j:Nat):∀p' k',(addE E p k j p' k').length≤N + 1:=fun p' k'=>by
 unfold addE;have:=h p' k';split
 ·rw[YLE];show _ + 1≤_;omega
 ·omega
theorem YEt (B:BgT) (p:Str) (k:Nat) (q:Nat×Nat×Nat):addB B p k q p k=B p k ++ [q]:=if_pos ⟨rfl,rfl⟩
theorem YGV {B:BgT}{N:Nat} (h:∀p k,(B p k).length≤N) (p:Str) (k:Nat) (q:Nat×Nat×Nat):∀p' k',(addB B p k q p' k').length≤N + 1:=fun p' k'=>by
 unfold addB;have:=h p' k';split
 ·rw[YLE];show _ + 1≤_;omega
 ·omega
section
variable {P:Program}{w:World}{K:W.Frag}{mg:Str→Option Value}{base:Heap}{C:Adr}
theorem Y7:YV ["self","node","key","end","number","done","begin","longer"] ["self","node"] (YJ JO):=⟨rfl,rfl,rfl,by decide +kernel,rfl,by decide +kernel,by decide +kernel⟩
theorem YBD {f:Addr}{fd:FuncData} (F:Fun K "meet_part" "Growth.meet_part" JO f fd) (T:Txt K mg C) (az:JT P w K mg CX0 1 C.Growth "stand" ["self","node"] (YC9 C.Growth)):Y6 P w K mg base CX0 2 f fd ["self","node"] (YIN C.Growth):=by
 obtain⟨dJ,dD,aP,aK,aQ⟩:=az.ok;refine F.ok Y7 (fun vs H Q E h=>?_) (fun cdv A outer s H vs Q E hr h=>?_)
 ·obtain⟨H0,x,l,a1,a2,a3,a4,a5,t,xs,g,cs,own,hs,met,fresh,aa,h,B,En,N,p,k,j,rfl,_⟩:=h;rfl
 ·obtain⟨H0,x,l,a1,a2,a3,a4,a5,t,xs,g,cs,own,hs,met,fresh,aa,hh,B,En,N,p,k,j,rfl,mi,q⟩:=h;have hu:=JP hr;refine qex ?_;refine⟨_,(YO ⟨(YK (i:=2) Y7.nd rfl (Or.inl rfl) (Yy (YA (YM (YS K rfl) (pv 1) YD (fun _ _=>rfl)) (YA (YM (YS K rfl) (pv 1) YD (fun _ _=>rfl)) YC))))⟩
   (YO ⟨(YK (i:=3) Y7.nd rfl (Or.inl rfl) (YM (YS K rfl) (pv 1) YD (fun _ _=>rfl)))⟩
   (YO ⟨(Yk (ZV K rfl PySem.F.plainAttrs_list PySem.F.slot_list_append PySem.F.type_list_append Yl (YDf hu (Yh K rfl (pv 0) rfl) (pv 2) (Y0 YC) ⟨rfl,rfl,rfl,rfl⟩) (YA (pv 3) YC)))⟩
   (JS ⟨(ZQ PassesOwn.never rfl (JE K rfl (YDO hu (Yh K rfl (pv 0) rfl) (pv 2) (Y0 YC) ⟨rfl,rfl,rfl,rfl⟩)) (YFC K rfl (n:=3) rfl (XG (Yd (i:=4) Y7.nd rfl (Or.inl rfl)) (XG (Yd (i:=5) Y7.nd rfl (Or.inl rfl)) (XG (Yd (i:=6) Y7.nd rfl (Or.inl rfl)) YE4)))) (YF (YK (i:=7) Y7.nd rfl (Or.inl rfl) (Yy (Y9 (pv 4) (Y9 (YN Yp (pv 5) YD) (Y9 (pv 6) (Y9 (pv 3) YC))))))
   (YG (Y3 (Xn (Jd hu (pv 7) (Yh K rfl (pv 0) rfl))) (YG (Yk (ZZ (pv 0) T.aj aK (aP base) (hr.mono (by decide)) aQ .nil Yg (YA (pv 7) YC)))) Yc))))⟩)))),?_⟩
  have ht:H t=some (.tup [.str p,nV k,nV j]):=mi.ht;obtain⟨hlen,hml⟩:=mi.gr.len mi.env.hg mi.env.hc;have hmet:met.length≤2100000:=by rw[YLE]at hml;omega
  have hNN:=mi.hN;refine⟨_,rfl,t,_,0,_,rfl,rfl,SqT.of ht,rfl,_,rfl,t,_,1,_,rfl,rfl,SqT.of ht,rfl,YH (by show 2≤1000;decide),fun b hb=>?_⟩;have s1:=YI.upd (o:=.tup [.str p,nV k]) hb;have g1:=mi.st.same s1 (Yt rfl);have hb1:upd H b (.tup [.str p,nV k]) b=some (.tup ((kPK p k).map kV)):=YB;have ht1:=s1 _ _ ht;revert s1 g1 hb1 ht1;generalize upd H b (.tup [.str p,nV k])=H1;intro s1 g1 hb1 ht1;refine⟨_,rfl,t,_,2,_,rfl,rfl,SqT.of ht1,rfl,?_⟩;dsimp only[ZH];refine X5 (t:=tDrop _) (fun σ' H'=>σ'=[some (.ref x),some (.ref t),some (.ref b),some (nV j),none,none,none,none]∧∃own',GSt C.Growth H0 H' x l a1 a2 a3 a4 a5 own' hs fresh aa hh B (addE En p k j) (N + 1)∧H' b=some (.tup ((kPK p k).map kV))) ?_ fun rest=>?_
  ·rintro σ' H2 ⟨rfl,own',g2,hb2⟩;obtain⟨dx,hx⟩:=g2.x_;obtain⟨k4,e4,l4,b4⟩:=g2.h4;refine⟨_,rfl,x,C.Growth,dx,_,_,rfl,hx,T.aj,T.bW,rfl,a4,rfl,.inr ⟨_,.inl e4⟩,_,rfl,YLN _,fun e he=>?_⟩;have s3:=YI.upd (o:=.lst []) he;refine⟨_,Jz.t (s3 _ _ e4) (s3 _ _ hb2),?_⟩;have g3:=g2.same s3 (Yt rfl);obtain⟨la,ts,ela,hla,qR,n1,n2⟩:∃la ts,(Yw k4 (kPK p k)).getD (.ref e)=.ref la∧upd H2 e (.lst []) la=some (.lst (ts.map V.ref))∧Tri (upd H2 e (.lst [])) ts (B p k)∧la≠a1∧la≠a2:=by
    obtain⟨t2,f2,_⟩:=g2.h2;rcases b4 p k with z |⟨a,ts,z1,z2,z3,z4⟩
    ·refine⟨e,[],by rw[z.1];rfl,YB,by rw[z.2];exact⟨rfl,fun i t q e1=>nomatch e1⟩,fun z=>?_,fun z=>?_⟩
     ·rw[z,g2.h1]at he;cases he
     ·rw[z,f2]at he;cases he
    ·refine⟨a,ts,by rw[z1];rfl,s3 _ _ z3,z4.keep fun _ _=>s3 _ _,Yr z3 g2.h1 nofun,fun z=>?_⟩;rw[z,g2.o2]at z2;cases z2
   rw[ela];have c0:=mi.cl;have gr0:=mi.gr;have lk0:=mi.lk;have ts_len:ts.length=(B p k).length:=qR.1;refine⟨la,rfl,⟨_,SqL.of hla⟩,XH (K:=K) (a:=la) (xs:=ts.map V.ref) (fun i σ H4=>∃hs' fresh' v4 v5 v6 v7,σ=[some (.ref x),some (.ref t),some (.ref b),some (nV j),v4,v5,v6,v7]∧GSt C.Growth H0 H4 x l a1 a2 a3 a4 a5 own' hs' fresh' aa hh B (addE En p k j) (N + 1)∧GrM g cs hs' (met ++ [.part p k j]) fresh' aa hh∧Cl g hs' (·∈met)∧YL hs' (.part p k j)=some hh∧(∀q∈(B p k).take i,∃v,YL hs' (.beg q.1 (q.2.1 + 1) q.2.2 j)=some v)∧H4 la=some (.lst (ts.map V.ref))∧Tri H4 ts (B p k)∧∀z m,YL hs z=some m→YL hs' z=some m) ⟨hs,fresh,none,none,none,none,rfl,g3,gr0,c0,lk0,fun q hq=>absurd hq (by simp),hla,qR,fun _ _ z=>z⟩ ?_ ?_ ?_⟩
   ·rintro i σ H4 _ ⟨hs',fresh',v4,v5,v6,v7,rfl,_,_,_,_,_,j9,_⟩;exact SqL.of j9
   ·rintro i y σ H4 hi ⟨hs',fresh',v4,v5,v6,v7,rfl,g4,gr4,c4,lk4,hall,j9,tri4,gA⟩;rw[YLI]at hi;cases eu:ts[i]? with
    |none=>rw[eu]at hi;cases hi
    |some u=>
     rw[eu]at hi;cases hi;have hil:i < (B p k).length:=by rw[←ts_len];exact(List.getElem?_eq_some_iff.mp eu).1
     obtain⟨⟨r,d,i0⟩,eq⟩:∃q,(B p k)[i]?=some q:=⟨_,YLF hil⟩;have hu4:H4 u=some (.tup [nV r,nV d,nV i0]):=tri4.2 i u _ eu eq;obtain⟨hm,hpt⟩:=(mi.mt.bg p k r d i0).mp (YLH eq);have etk:(B p k).take (i + 1)=(B p k).take i ++ [(r,d,i0)]:=by rw[YLf,eq];rfl
     refine⟨u,_,rfl,SqT.of hu4,rfl,_,_,rfl,_,_,rfl,_,_,rfl,rfl,?_⟩;refine⟨_,rfl,_,rfl,_,_,rfl,rfl,_,rfl,_,rfl,YH (by show 4≤1000;decide),fun tn htn=>?_⟩;have s5:=YI.upd (o:=.tup [nV r,.int ((d:Int) + 1),nV i0,nV j]) htn;have hn:upd H4 tn (.tup [nV r,.int ((d:Int) + 1),nV i0,nV j]) tn=some (.tup ((Yu (.beg r (d + 1) i0 j)).map kV)):=YB;have g5:=g4.same s5 (Yt rfl);have j_:=s5 _ _ j9;have tri5:Tri (upd H4 tn (.tup [nV r,.int ((d:Int) + 1),nV i0,nV j])) ts (B p k):=tri4.keep fun _ _=>s5 _ _
     dsimp only[ZH];revert g5 hn j_ tri5;generalize upd H4 tn (.tup [nV r,.int ((d:Int) + 1),nV i0,nV j])=H5;intro hn g5 j_ tri5;obtain⟨dx5,hx5⟩:=g5.x_;refine⟨_,rfl,_,rfl,x,C.Growth,dx5,_,_,rfl,hx5,T.aj,T.au,rfl,a1,_,rfl,Jz.t g5.h1 hn,_,rfl,?_⟩;rw[YA2,Option.isSome_map];have hall2:∀hs2:Hs,(∀y m,YL hs' y=some m→YL hs2 y=some m)→(∃v,YL hs2 (.beg r (d + 1) i0 j)=some v)→∀q∈(B p k).take (i + 1),∃v,YL hs2 (.beg q.1 (q.2.1 + 1) q.2.2 j)=some v:=fun hs2 hm2 hv2 q hq=>by
      rw[etk]at hq;rcases List.mem_append.mp hq with hq |hq
      ·obtain⟨v,hv⟩:=hall q hq;exact⟨v,hm2 _ _ hv⟩
      ·cases List.mem_singleton.mp hq;exact hv2
     obtain⟨uB,u_⟩:=gr4.len mi.env.hg mi.env.hc;cases hlk:YL hs' (.beg r (d + 1) i0 j) with
     |some v=>
      refine ZL ?_;exact⟨hs',fresh',_,_,_,_,rfl,g5,gr4,c4,lk4,hall2 hs' (fun _ _ z=>z) ⟨v,hlk⟩,j_,tri5,gA⟩
     |none=>
      refine Ze ⟨_,rfl,x,dx5,_,rfl,hx5,rfl,_,rfl,H0,x,l,a1,a2,a3,a4,a5,tn,own',hs',fresh',aa,hh,B,addE En p k j,N + 1,.beg r (d + 1) i0 j,rfl,g5,hn,hlk,by omega,by omega,fun H6 g6 st6=>?_⟩;obtain⟨va,hva,tE⟩:=gr4.vm _ (YLU _ hm);have lg:=gr4.leg _ _ hva;have lgy:=gr4.leg _ _ lk4;obtain⟨⟨ru,er,hdl⟩,hik,hkn⟩:=lg;have tG:d < ru.2.1.length:=by
       unfold ZD at hpt;rw[er]at hpt;have hpt:ru.2.1[d]?=some p:=hpt;exact(List.getElem?_eq_some_iff.mp hpt).1
      have gr6:=gr4.stand hlk (show Leg g cs (.beg r (d + 1) i0 j) from⟨⟨ru,er,tG⟩,YLb hik lgy.2.1,lgy.2.2⟩) (.inr ⟨d,k,p,va,hh,rfl,hpt,hva,lk4,(Nat.max_eq_right tE).symm⟩);obtain⟨t2,f2,_⟩:=g5.h2;refine⟨_,_,_,_,_,_,rfl,g6,gr6,c4.snoc hlk (fun y hy=>?_),Zs hlk _ _ lk4,hall2 _ (Zs hlk) ⟨hh,by rw[ZO _ _ _ _ hlk,if_pos rfl]⟩,st6 _ _ n1 n2 j_,tri5.keep fun c ys hc=>st6 _ _ (Yr hc g5.h1 nofun) (Yr hc f2 nofun) hc,fun z m e=>Zs hlk _ _ (gA z m e)⟩;obtain⟨v,hv,_⟩:=gr4.vm y (YLU _ hy);exact⟨v,hv⟩
   ·rintro σ H4 ⟨hs',fresh',v4,v5,v6,v7,rfl,g4,gr4,c4,lk4,hall,j9,tri4,gA⟩;rw[YLD,ts_len,List.take_length]at hall;exact q _ _ _ _ _ _ _ _ g4 gr4 (cl_part c4 gr4 lk4 mi.mt hall) (mi.mt.addE p k j) (by omega) gA
  ·obtain⟨dx,hx⟩:=g1.x_;obtain⟨k5,e5,l5,b5⟩:=g1.h5;refine⟨_,rfl,x,C.Growth,dx,_,_,rfl,hx,T.aj,T.cg,rfl,a5,rfl,.inr ⟨_,.inl e5⟩,_,rfl,YLN _,fun e he=>?_⟩;have s2:=YI.upd (o:=.lst []) he;have hEl:∀p k,(En p k).length≤N:=fun p k=>(g1.hb p k).2
   refine⟨k5,kPK p k,b,s2 _ _ e5,rfl,s2 _ _ hb1,(by rw[sizeLine_eq];omega),fun v hv=>?_,fun hn=>?_⟩
   ·rcases b5 p k with z |⟨a,z1,z2,z3⟩
    ·rw[z.1]at hv;cases hv
    ·rw[z1]at hv;cases hv;have nb:b≠a:=Yr hb1 z3 nofun;refine⟨.inl ⟨rfl,_,SqL.of (s2 _ _ z3)⟩,_,rfl,a,_,_,rfl,rfl,s2 _ _ z3,(by rw[YLD,sizeLine_eq];have:=hEl p k;omega),?_⟩;have e6:(En p k).map nV ++ [nV j]=(addE En p k j p k).map nV:=by rw[YEs,YLK];rfl
     rw[e6];exact rest _ _ ⟨rfl,own,((g1.same s2 (Yt rfl)).more (Nat.le_succ N)).enSet z2 (fun p' k' h=>if_neg h) (s2 _ _ e5) z1 (YGU hEl p k j),by rw[YE nb];exact s2 _ _ hb1⟩
   ·have o0:=g1.fine he;have ne:e≠a5:=fun z=>by rw[z,e5]at he;cases he
    have nb:b≠e:=fun z=>by rw[←z,hb1]at he;cases he
    have nb5:b≠a5:=Yr hb1 e5 nofun;have g2:=(g1.same s2 (Yt rfl)).enNew (p:=p) (k:=k) YB (g1.sm.free he) o0 (s2 _ _ e5) hn;have hE0:En p k=[]:=by
     rcases b5 p k with z |⟨a,z1,z2,z3⟩
     ·exact z.2
     ·rw[hn]at z1;cases z1
    have he3:upd (upd H1 e (.lst [])) a5 (.dT (Y4 k5 (kPK p k) (.ref e))) e=some (.lst []):=by rw[YE ne];exact YB
    refine⟨.inl ⟨rfl,_,SqL.of he3⟩,_,rfl,e,_,_,rfl,rfl,he3,(by rw[sizeLine_eq];decide),?_⟩;have e6:([]:List V) ++ [nV j]=(addE En p k j p k).map nV:=by rw[YEs,hE0];rfl
    rw[e6];exact rest _ _ ⟨rfl,_,g2.enSet (if_pos rfl) (fun p' k' h=>if_neg h) YB (by rw[Z6,if_pos rfl]) (YGU hEl p k j),by rw[YE nb,YE nb5];exact s2 _ _ hb1⟩
end
section
variable {P:Program}{w:World}{K:W.Frag}{mg:Str→Option Value}{base:Heap}{C:Adr}
theorem Yj:YV ["self","node","part","number","done","begin","key","end","longer"] ["self","node","part"] (YJ Zt):=⟨rfl,rfl,rfl,by decide +kernel,rfl,by decide +kernel,by decide +kernel⟩
theorem Xu {f:Addr}{fd:FuncData} (F:Fun K "meet_beginning" "Growth.meet_beginning" Zt f fd) (T:Txt K mg C) (az:JT P w K mg CX0 1 C.Growth "stand" ["self","node"] (YC9 C.Growth)):Y6 P w K mg base CX0 2 f fd ["self","node","part"] (YIO C.Growth):=by
 obtain⟨dJ,dD,aP,aK,aQ⟩:=az.ok;refine F.ok Yj (fun vs H Q E h=>?_) (fun cdv A outer s H vs Q E hr h=>?_)
 ·obtain⟨H0,x,l,a1,a2,a3,a4,a5,t,xs,g,cs,own,hs,met,fresh,aa,h,B,En,N,r,d,i,k,p,rfl,_⟩:=h;rfl
 ·obtain⟨H0,x,l,a1,a2,a3,a4,a5,t,xs,g,cs,own,hs,met,fresh,aa,hh,B,En,N,r,d,i0,k,p,rfl,hpt,mi,q⟩:=h;have hu:=JP hr;refine qex ?_;refine⟨_,(YO ⟨(YK (i:=3) Yj.nd rfl (Or.inl rfl) (YM (YS K rfl) (pv 1) YD (fun _ _=>rfl)))⟩
   (YO ⟨(YK (i:=4) Yj.nd rfl (Or.inl rfl) (YM (YS K rfl) (pv 1) YD (fun _ _=>rfl)))⟩
   (YO ⟨(YK (i:=5) Yj.nd rfl (Or.inl rfl) (YM (YS K rfl) (pv 1) YD (fun _ _=>rfl)))⟩
   (YO ⟨(YK (i:=6) Yj.nd rfl (Or.inl rfl) (Yy (YA (pv 2) (YA (YM (YS K rfl) (pv 1) YD (fun _ _=>rfl)) YC))))⟩
   (YO ⟨(Yk (ZV K rfl PySem.F.plainAttrs_list PySem.F.slot_list_append PySem.F.type_list_append Yl (YDf hu (Yh K rfl (pv 0) rfl) (pv 6) (Y0 YC) ⟨rfl,rfl,rfl,rfl⟩) (YA (Yy (YA (pv 3) (YA (pv 4) (YA (pv 5) YC)))) YC)))⟩
   (JS ⟨(ZQ PassesOwn.never rfl (JE K rfl (YDO hu (Yh K rfl (pv 0) rfl) (pv 6) (Y0 YC) ⟨rfl,rfl,rfl,rfl⟩)) (Yd (i:=7) Yj.nd rfl (Or.inl rfl)) (YF (YK (i:=8) Yj.nd rfl (Or.inl rfl) (Yy (Y9 (pv 3) (Y9 (YN Yp (pv 4) YD) (Y9 (pv 5) (Y9 (pv 7) YC))))))
   (YG (Y3 (Xn (Jd hu (pv 8) (Yh K rfl (pv 0) rfl))) (YG (Yk (ZZ (pv 0) T.aj aK (aP base) (hr.mono (by decide)) aQ .nil Yg (YA (pv 8) YC)))) Yc))))⟩)))))),?_⟩
  have ht:H t=some (.tup [nV r,nV d,nV i0,nV k]):=mi.ht;obtain⟨hlen,hml⟩:=mi.gr.len mi.env.hg mi.env.hc;have hmet:met.length≤2100000:=by rw[YLE]at hml;omega
  have hNN:=mi.hN;refine⟨_,rfl,t,_,0,_,rfl,rfl,SqT.of ht,rfl,?_⟩;refine⟨_,rfl,t,_,1,_,rfl,rfl,SqT.of ht,rfl,?_⟩;refine⟨_,rfl,t,_,2,_,rfl,rfl,SqT.of ht,rfl,?_⟩;refine⟨_,rfl,_,rfl,t,_,3,_,rfl,rfl,SqT.of ht,rfl,YH (by show 2≤1000;decide),fun b hb=>?_⟩;have s1:=YI.upd (o:=.tup [.str p,nV k]) hb;have g1:=mi.st.same s1 (Yt rfl);have hb1:upd H b (.tup [.str p,nV k]) b=some (.tup ((kPK p k).map kV)):=YB;dsimp only[ZH];revert s1 g1 hb1;generalize upd H b (.tup [.str p,nV k])=H1;intro s1 g1 hb1;refine X5 (t:=tDrop _) (fun σ' H'=>σ'=[some (.ref x),some (.ref t),some (.str p),some (nV r),some (nV d),some (nV i0),some (.ref b),none,none]∧∃own',GSt C.Growth H0 H' x l a1 a2 a3 a4 a5 own' hs fresh aa hh (addB B p k (r,d,i0)) En (N + 1)∧H' b=some (.tup ((kPK p k).map kV))) ?_ fun rest=>?_
  ·rintro σ' H2 ⟨rfl,own',g2,hb2⟩;obtain⟨dx,hx⟩:=g2.x_;obtain⟨k5,e5,l5,b5⟩:=g2.h5;refine⟨_,rfl,x,C.Growth,dx,_,_,rfl,hx,T.aj,T.cg,rfl,a5,rfl,.inr ⟨_,.inl e5⟩,_,rfl,YLN _,fun e he=>?_⟩;have s3:=YI.upd (o:=.lst []) he;refine⟨_,Jz.t (s3 _ _ e5) (s3 _ _ hb2),?_⟩;have g3:=g2.same s3 (Yt rfl);obtain⟨la,ela,hla,n1,n2⟩:∃la,(Yw k5 (kPK p k)).getD (.ref e)=.ref la∧upd H2 e (.lst []) la=some (.lst ((En p k).map nV))∧la≠a1∧la≠a2:=by
    obtain⟨t2,f2,_⟩:=g2.h2;rcases b5 p k with z |⟨a,z1,z2,z3⟩
    ·refine⟨e,by rw[z.1];rfl,by rw[z.2];exact YB,fun z=>?_,fun z=>?_⟩
     ·rw[z,g2.h1]at he;cases he
     ·rw[z,f2]at he;cases he
    ·refine⟨a,by rw[z1];rfl,s3 _ _ z3,Yr z3 g2.h1 nofun,fun z=>?_⟩;rw[z,g2.o2]at z2;cases z2
   rw[ela];have c0:=mi.cl;have gr0:=mi.gr;have lk0:=mi.lk;refine⟨la,rfl,⟨_,SqL.of hla⟩,XH (K:=K) (a:=la) (xs:=(En p k).map nV) (fun i σ H4=>∃hs' fresh' v7 v8,σ=[some (.ref x),some (.ref t),some (.str p),some (nV r),some (nV d),some (nV i0),some (.ref b),v7,v8]∧GSt C.Growth H0 H4 x l a1 a2 a3 a4 a5 own' hs' fresh' aa hh (addB B p k (r,d,i0)) En (N + 1)∧GrM g cs hs' (met ++ [.beg r d i0 k]) fresh' aa hh∧Cl g hs' (·∈met)∧YL hs' (.beg r d i0 k)=some hh∧(∀j∈(En p k).take i,∃v,YL hs' (.beg r (d + 1) i0 j)=some v)∧H4 la=some (.lst ((En p k).map nV))∧∀z m,YL hs z=some m→YL hs' z=some m) ⟨hs,fresh,none,none,rfl,g3,gr0,c0,lk0,fun q hq=>absurd hq (by simp),hla,fun _ _ z=>z⟩ ?_ ?_ ?_⟩
   ·rintro i σ H4 _ ⟨hs',fresh',v7,v8,rfl,_,_,_,_,_,j9,_⟩;exact SqL.of j9
   ·rintro i y σ H4 hi ⟨hs',fresh',v7,v8,rfl,g4,gr4,c4,lk4,hall,j9,gA⟩;rw[YLI]at hi;cases ej:(En p k)[i]? with
    |none=>rw[ej]at hi;cases hi
    |some j=>
     rw[ej]at hi;cases hi;have hm:=(mi.mt.en p k j).mp (YLH ej);have etk:(En p k).take (i + 1)=(En p k).take i ++ [j]:=by rw[YLf,ej];rfl
     refine⟨_,rfl,_,rfl,_,_,rfl,rfl,_,rfl,_,rfl,YH (by show 4≤1000;decide),fun tn htn=>?_⟩;have s5:=YI.upd (o:=.tup [nV r,.int ((d:Int) + 1),nV i0,nV j]) htn;have hn:upd H4 tn (.tup [nV r,.int ((d:Int) + 1),nV i0,nV j]) tn=some (.tup ((Yu (.beg r (d + 1) i0 j)).map kV)):=YB;have g5:=g4.same s5 (Yt rfl);have j_:=s5 _ _ j9;dsimp only[ZH];revert g5 hn j_;generalize upd H4 tn (.tup [nV r,.int ((d:Int) + 1),nV i0,nV j])=H5;intro hn g5 j_;obtain⟨dx5,hx5⟩:=g5.x_;refine⟨_,rfl,_,rfl,x,C.Growth,dx5,_,_,rfl,hx5,T.aj,T.au,rfl,a1,_,rfl,Jz.t g5.h1 hn,_,rfl,?_⟩;rw[YA2,Option.isSome_map];have hall2:∀hs2:Hs,(∀y m,YL hs' y=some m→YL hs2 y=some m)→(∃v,YL hs2 (.beg r (d + 1) i0 j)=some v)→∀j'∈(En p k).take (i + 1),∃v,YL hs2 (.beg r (d + 1) i0 j')=some v:=fun hs2 hm2 hv2 j' hq=>by
      rw[etk]at hq;rcases List.mem_append.mp hq with hq |hq
      ·obtain⟨v,hv⟩:=hall j' hq;exact⟨v,hm2 _ _ hv⟩
      ·cases List.mem_singleton.mp hq;exact hv2
     obtain⟨uB,u_⟩:=gr4.len mi.env.hg mi.env.hc;cases hlk:YL hs' (.beg r (d + 1) i0 j) with
     |some v=>
      refine ZL ?_;exact⟨hs',fresh',_,_,rfl,g5,gr4,c4,lk4,hall2 hs' (fun _ _ z=>z) ⟨v,hlk⟩,j_,gA⟩
     |none=>
      refine Ze ⟨_,rfl,x,dx5,_,rfl,hx5,rfl,_,rfl,H0,x,l,a1,a2,a3,a4,a5,tn,own',hs',fresh',aa,hh,addB B p k (r,d,i0),En,N + 1,.beg r (d + 1) i0 j,rfl,g5,hn,hlk,by omega,by omega,fun H6 g6 st6=>?_⟩;obtain⟨va,hva,tE⟩:=gr4.vm _ (YLU _ hm);have lg:=gr4.leg _ _ lk4;have lgy:=gr4.leg _ _ hva;obtain⟨⟨ru,er,hdl⟩,hik,hkn⟩:=lg;have tG:d < ru.2.1.length:=by
       unfold ZD at hpt;rw[er]at hpt;have hpt:ru.2.1[d]?=some p:=hpt;exact(List.getElem?_eq_some_iff.mp hpt).1
      have gr6:=gr4.stand hlk (show Leg g cs (.beg r (d + 1) i0 j) from⟨⟨ru,er,tG⟩,YLb hik lgy.2.1,lgy.2.2⟩) (.inr ⟨d,k,p,hh,va,rfl,hpt,lk4,hva,(Nat.max_eq_left tE).symm⟩);refine⟨_,_,_,_,rfl,g6,gr6,c4.snoc hlk (fun y hy=>?_),Zs hlk _ _ lk4,hall2 _ (Zs hlk) ⟨hh,by rw[ZO _ _ _ _ hlk,if_pos rfl]⟩,st6 _ _ n1 n2 j_,fun z m e=>Zs hlk _ _ (gA z m e)⟩;obtain⟨v,hv,_⟩:=gr4.vm y (YLU _ hy);exact⟨v,hv⟩
   ·rintro σ H4 ⟨hs',fresh',v7,v8,rfl,g4,gr4,c4,lk4,hall,j9,gA⟩;rw[YLD,List.take_length]at hall;exact q _ _ _ _ _ _ _ _ g4 gr4 (cl_beg hpt c4 gr4 lk4 mi.mt hall) (mi.mt.addB hpt) (by omega) gA
  ·obtain⟨dx,hx⟩:=g1.x_;obtain⟨k4,e4,l4,b4⟩:=g1.h4;refine⟨_,rfl,x,C.Growth,dx,_,_,rfl,hx,T.aj,T.bW,rfl,a4,rfl,.inr ⟨_,.inl e4⟩,_,rfl,YLN _,fun e he=>?_⟩;have s2:=YI.upd (o:=.lst []) he;have hBl:∀p k,(B p k).length≤N:=fun p k=>(g1.hb p k).1
   refine⟨k4,kPK p k,b,s2 _ _ e4,rfl,s2 _ _ hb1,(by rw[sizeLine_eq];omega),fun v hv=>?_,fun hn=>?_⟩
   ·rcases b4 p k with z |⟨a,ts,z1,z2,z3,z4⟩
    ·rw[z.1]at hv;cases hv
    ·rw[z1]at hv;cases hv;have nb:b≠a:=Yr hb1 z3 nofun;refine⟨.inl ⟨rfl,_,SqL.of (s2 _ _ z3)⟩,_,rfl,_,rfl,_,rfl,YH (by show 3≤1000;decide),fun tt htt=>?_⟩;have s3:=YI.upd (o:=.tup [nV r,nV d,nV i0]) htt;have s23:=s2.trans s3;refine⟨a,_,_,rfl,rfl,s23 _ _ z3,(by rw[YLD,z4.1,sizeLine_eq];have:=hBl p k;omega),?_⟩;have e6:ts.map V.ref ++ [V.ref tt]=(ts ++ [tt]).map V.ref:=by rw[YLK];rfl
     rw[e6];refine rest _ _ ⟨rfl,own,(((g1.same s2 (Yt rfl)).same s3 (Yt rfl)).more (Nat.le_succ N)).bgSet z2 (B':=addB B p k (r,d,i0)) (fun p' k' h=>if_neg h) ?_ (s23 _ _ e4) z1 (YGV hBl p k (r,d,i0)),by rw[YE nb];exact s23 _ _ hb1⟩;rw[YEt];exact(z4.keep fun _ _=>s23 _ _).snoc YB
   ·have o0:=g1.fine he;have ne:e≠a4:=fun z=>by rw[z,e4]at he;cases he
    have nb:b≠e:=fun z=>by rw[←z,hb1]at he;cases he
    have nb4:b≠a4:=Yr hb1 e4 nofun;have g2:=(g1.same s2 (Yt rfl)).bgNew (p:=p) (k:=k) YB (g1.sm.free he) o0 (s2 _ _ e4) hn;have hB0:B p k=[]:=by
     rcases b4 p k with z |⟨a,ts,z1,z2,z3,z4⟩
     ·exact z.2
     ·rw[hn]at z1;cases z1
    have he3:upd (upd H1 e (.lst [])) a4 (.dT (Y4 k4 (kPK p k) (.ref e))) e=some (.lst []):=by rw[YE ne];exact YB
    have hb3:upd (upd H1 e (.lst [])) a4 (.dT (Y4 k4 (kPK p k) (.ref e))) b=some (.tup ((kPK p k).map kV)):=by rw[YE nb4];exact s2 _ _ hb1
    have e43:upd (upd H1 e (.lst [])) a4 (.dT (Y4 k4 (kPK p k) (.ref e))) a4=some (.dT (Y4 k4 (kPK p k) (.ref e))):=YB;revert g2 he3 hb3 e43;generalize upd (upd H1 e (.lst [])) a4 (.dT (Y4 k4 (kPK p k) (.ref e)))=H3;intro g2 he3 hb3 e43;refine⟨.inl ⟨rfl,_,SqL.of he3⟩,_,rfl,_,rfl,_,rfl,YH (by show 3≤1000;decide),fun tt htt=>?_⟩;have s3:=YI.upd (o:=.tup [nV r,nV d,nV i0]) htt;refine⟨e,_,_,rfl,rfl,s3 _ _ he3,(by rw[sizeLine_eq];decide),?_⟩;have e6:([]:List V) ++ [V.ref tt]=([tt]:List Addr).map V.ref:=rfl;rw[e6];refine rest _ _ ⟨rfl,_,(g2.same s3 (Yt rfl)).bgSet (if_pos rfl) (B':=addB B p k (r,d,i0)) (fun p' k' h=>if_neg h) ?_ (s3 _ _ e43) (by rw[Z6,if_pos rfl]) (YGV hBl p k (r,d,i0)),by rw[YE nb];exact s3 _ _ hb3⟩;rw[YEt,hB0];exact Tri.snoc (ts:=[]) (ns:=[]) ⟨rfl,fun i t q e1=>nomatch e1⟩ YB
end
theorem YA3 {α:Type} (l:List α):l=[]∨∃a b,l=a ++ [b]:=by
 cases h:l.reverse with
 |nil=>exact .inl (List.reverse_eq_nil_iff.mp h)
 |cons b a=>
  refine .inr ⟨a.reverse,b,?_⟩;have:=congrArg List.reverse h;rw[List.reverse_reverse,YLg]at this;exact this
section
variable {P:Program}{w:World}{K:W.Frag}{mg:Str→Option Value}{base:Heap}{C:Adr}
theorem XV:YV ["self","node","rule","name"] ["self","node"] (YJ Xs):=⟨rfl,rfl,rfl,by decide +kernel,rfl,by decide +kernel,by decide +kernel⟩
theorem YDl {f:Addr}{fd:FuncData} (F:Fun K "meet" "Growth.meet" Xs f fd) (T:Txt K mg C) (bx:JT P w K mg CX0 2 C.Growth "meet_part" ["self","node"] (YIN C.Growth)) (aR:JT P w K mg CX0 2 C.Growth "meet_beginning" ["self","node","part"] (YIO C.Growth)) (a_:JT P w K mg CX0 1 C.Growth "stand_higher" ["self","node"] (YEm C.Growth)):Y6 P w K mg base CX0 3 f fd ["self","node"] (YKe C.Growth):=by
 obtain⟨mK,l_,eY,eG,eZ⟩:=bx.ok;obtain⟨jT,jy,cQ,cH,cR⟩:=aR.ok;obtain⟨lu,kh,dF,dh,dG⟩:=a_.ok;refine F.ok XV (fun vs H Q E h=>?_) (fun cdv A outer s H vs Q E hr h=>?_)
 ·obtain⟨H0,x,l,a1,a2,a3,a4,a5,t,xs,g,cs,own,hs,met,fresh,aa,h,B,En,N,y,rfl,_⟩:=h;rfl
 ·obtain⟨H0,x,l,a1,a2,a3,a4,a5,t,xs,g,cs,own,hs,met,fresh,aa,hh,B,En,N,y,rfl,mi,q⟩:=h;have hu:=JP hr;refine qex ?_;refine⟨_,(YO ⟨(Y3 (Ye Jq (YR (YQ K rfl) (by rfl) T.aD PyProof.Rows.Boot.«len» (YA (pv 1) YC)) YD (Yf _)) (YF (Yk (ZZ (pv 0) T.aj eG (eY base) (hr.mono (by decide)) eZ .nil Yg (YA (pv 1) YC)))
   (YG YHt)) Yc)⟩
   (YO ⟨(YK (i:=2) XV.nd rfl (Or.inl rfl) (YM (YW K rfl) (Yh K rfl (pv 0) rfl) (YM (YS K rfl) (pv 1) YD (fun _ _=>rfl)) (fun _ _=>rfl)))⟩
   (YO ⟨(Y3 (Ye YBg (YM (YS K rfl) (pv 1) YD (fun _ _=>rfl)) (YR (YQ K rfl) (by rfl) T.aD PyProof.Rows.Boot.«len» (YA (YM (YS K rfl) (pv 2) YD (fun _ _=>rfl)) YC)) (Yf _)) (YF (Yk (ZZ (pv 0) T.aj cH (cQ base) (hr.mono (by decide)) cR .nil Yg (YA (pv 1) (YA (YM (YS K rfl) (YM (YS K rfl) (pv 2) YD (fun _ _=>rfl)) (YM (YS K rfl) (pv 1) YD (fun _ _=>rfl)) (fun _ _=>rfl)) YC))))
   (YG YHt)) Yc)⟩
   (YO ⟨(YK (i:=3) XV.nd rfl (Or.inl rfl) (Yy (YA (YM (YS K rfl) (pv 2) YD (fun _ _=>rfl)) (YA (YM (YS K rfl) (pv 1) YD (fun _ _=>rfl)) (YA (YM (YS K rfl) (pv 1) YD (fun _ _=>rfl)) YC)))))⟩
   (JS ⟨(Y3 (Xn (Jd hu (pv 3) (Yh K rfl (pv 0) rfl))) (YG (Yk (ZZ (pv 0) T.aj dh (dF base) (hr.mono (by decide)) dG .nil Yg (YA (pv 3) YC)))) Yc)⟩))))),?_⟩
  obtain⟨dx,hx⟩:=mi.st.x_;have hNN:=mi.hN;obtain⟨hlen,hml⟩:=mi.gr.len mi.env.hg mi.env.hc;cases y with
  |part p k j=>
   have ht:H t=some (.tup [.str p,nV k,nV j]):=mi.ht;refine⟨_,rfl,t,_,rfl,.inr (SqT.of ht),rfl,_,rfl,Ze ?_⟩;exact⟨_,rfl,x,dx,_,rfl,hx,rfl,_,rfl,H0,x,l,a1,a2,a3,a4,a5,t,xs,g,cs,own,hs,met,fresh,aa,hh,B,En,N,p,k,j,rfl,mi,fun H' own' hs' fresh' eF B' E' N' e1 e2 e3 e4 e5 e6=>q H' own' hs' fresh' eF B' E' N' e1 e2 e3 e4 e5 e6⟩
  |beg r d i k=>
   have ht:H t=some (.tup [nV r,nV d,nV i,nV k]):=mi.ht;have lg:=mi.gr.leg _ _ mi.lk;obtain⟨⟨ru,er,hdl⟩,hik,hkn⟩:=lg;have hl:=mi.st.sm _ _ mi.env.hl;obtain⟨tr,pr,hat,htr,hpr⟩:=Zr (mi.env.hds.same mi.st.sm) er;refine⟨_,rfl,t,_,rfl,.inr (SqT.of ht),rfl,_,rfl,ZL ?_⟩;refine⟨_,rfl,x,C.Growth,dx,_,_,rfl,hx,T.aj,T.dB,rfl,_,rfl,t,_,0,_,rfl,rfl,SqT.of ht,rfl,l,_,_,_,rfl,rfl,SqL.of hl,hat,?_⟩;refine⟨_,rfl,t,_,1,_,rfl,rfl,SqT.of ht,rfl,_,rfl,tr,_,1,_,rfl,rfl,SqT.of htr,rfl,pr,_,rfl,.inr (SqT.of hpr),_,_,rfl,rfl,_,rfl,YBA (fun hlt=>?_) fun hlt=>?_⟩
   ·have hlt':(d:Int) < ((ru.2.1.map V.str).length:Int):=of_decide_eq_true hlt;rw[YLD]at hlt';have hd:d < ru.2.1.length:=by omega
    have ep:ru.2.1[d]?=some ru.2.1[d]:=YLF hd;have hpa:ZD g r d=some ru.2.1[d]:=by
     unfold ZD;rw[er];exact ep
    have vg:atI (ru.2.1.map V.str) (d:Int)=some (.str ru.2.1[d]):=ZT (by rw[YLI,ep];rfl);exact⟨_,rfl,x,dx,_,rfl,hx,rfl,_,rfl,_,rfl,tr,_,1,_,rfl,rfl,SqT.of htr,rfl,_,rfl,t,_,1,_,rfl,rfl,SqT.of ht,rfl,pr,_,_,_,rfl,rfl,SqT.of hpr,vg,H0,x,l,a1,a2,a3,a4,a5,t,xs,g,cs,own,hs,met,fresh,aa,hh,B,En,N,r,d,i,k,_,rfl,hpa,mi,fun H' own' hs' fresh' eF B' E' N' e1 e2 e3 e4 e5 e6=>q H' own' hs' fresh' eF B' E' N' e1 e2 e3 e4 e5 e6⟩
   ·have hlt':¬(d:Int) < ((ru.2.1.map V.str).length:Int):=fun z=>hlt (decide_eq_true z)
    rw[YLD]at hlt';have ed:d=ru.2.1.length:=by omega
    subst ed;have hpa:ZD g r ru.2.1.length=none:=by
     unfold ZD;rw[er];exact List.getElem?_eq_none (YLG _)
    refine⟨_,rfl,tr,_,0,_,rfl,rfl,SqT.of htr,rfl,_,rfl,t,_,2,_,rfl,rfl,SqT.of ht,rfl,_,rfl,t,_,3,_,rfl,rfl,SqT.of ht,rfl,YH (by show 3≤1000;decide),fun nm hnm=>?_⟩;have s1:=YI.upd (o:=.tup [.str ru.1,nV i,nV k]) hnm;have hn:upd H nm (.tup [.str ru.1,nV i,nV k]) nm=some (.tup ((Yu (.part ru.1 i k)).map kV)):=YB;have g1:=mi.st.same s1 (Yt rfl);dsimp only[ZH];revert g1 hn;generalize upd H nm (.tup [.str ru.1,nV i,nV k])=H1;intro hn g1;obtain⟨dx1,hx1⟩:=g1.x_;refine⟨_,rfl,_,rfl,x,C.Growth,dx1,_,_,rfl,hx1,T.aj,T.au,rfl,a1,_,rfl,Jz.t g1.h1 hn,_,rfl,?_⟩;rw[YA2,Option.isSome_map];cases hlk:YL hs (.part ru.1 i k) with
    |some v=>
     refine ZL ?_;exact q _ _ _ _ _ _ _ _ g1 mi.gr (YKf er mi.cl mi.gr mi.lk ⟨v,hlk⟩) (mi.mt.addC hpa) (by omega) (fun _ _ z=>z)
    |none=>
     refine Ze ⟨_,rfl,x,dx1,_,rfl,hx1,rfl,_,rfl,H0,x,l,a1,a2,a3,a4,a5,nm,own,hs,fresh,aa,hh,B,En,N,.part ru.1 i k,rfl,g1,hn,hlk,by omega,by omega,fun H2 g2 st2=>?_⟩;have gr2:=mi.gr.standUp hlk ⟨.inl (List.mem_map.mpr ⟨ru,YLH er,rfl⟩),hik,hkn⟩ (.inr ⟨r,ru,hh,er,rfl,mi.lk,rfl⟩);have c2:=mi.cl.snoc (n:=hh + 1) hlk (fun y hy=>by
      obtain⟨v,hv,_⟩:=mi.gr.vm y (YLU _ hy);exact⟨v,hv⟩)
     exact q _ _ _ _ _ _ _ _ g2 gr2 (YKf er c2 gr2 (Zs hlk _ _ mi.lk) ⟨hh + 1,by rw[ZO _ _ _ _ hlk,if_pos rfl]⟩) (mi.mt.addC hpa) (by omega) (Zs hlk)
theorem YDm:YV ["self"] ["self"] (YJ Xt):=⟨rfl,rfl,rfl,by decide +kernel,rfl,by decide +kernel,by decide +kernel⟩
theorem YDn {f:Addr}{fd:FuncData} (F:Fun K "grow" "Growth.grow" Xt f fd) (T:Txt K mg C) (cI:JT P w K mg CX0 3 C.Growth "meet" ["self","node"] (YKe C.Growth)):Y6 P w K mg base CX0 4 f fd ["self"] (YKg C.Growth):=by
 obtain⟨qI,pW,jz,i_,jA⟩:=cI.ok;refine F.ok YDm (fun vs H Q E h=>?_) (fun cdv A outer s H vs Q E hr h=>?_)
 ·obtain⟨H0,x,l,a1,a2,a3,a4,a5,xs,g,cs,own,hs,fresh,B,En,rfl,_⟩:=h;rfl
 ·obtain⟨H0,x,l,a1,a2,a3,a4,a5,xs,g,cs,own,hs,fresh,B,En,rfl,env,g0,gr0,mt0,q⟩:=h;refine⟨_,(YG (Xz PassesOwn.never (YAy K rfl (Yh K rfl (pv 0) rfl) (fun _=>rfl)) (YF (Xz PassesOwn.never (YAy K rfl (Yh K rfl (pv 0) rfl) (fun _=>rfl)) (YG (Yk (ZZ (pv 0) T.aj i_ (jz base) (hr.mono (by decide)) jA .nil Yg (YA (Xg K rfl PySem.F.plainAttrs_list PySem.F.slot_list_pop PySem.F.type_list_pop YCC (Yh K rfl (pv 0) rfl)) YC)))))
   (YF (Zf K rfl (pv 0) (Yh K rfl (pv 0) rfl) rfl)
   (YF (Zf K rfl (pv 0) (Y0 YC) rfl)
   (YG (YHN K rfl (pv 0) YD in_add))))))),?_⟩
  refine⟨fun μ σ H2=>∃a2' a3' own' hs' met fresh' h' B' E' N',σ=[some (.ref x)]∧GSt C.Growth H0 H2 x l a1 a2' a3' a4 a5 own' hs' fresh' [] h' B' E' N'∧GrM g cs hs' met fresh' [] h'∧Cl g hs' (·∈met)∧Met g met B' E'∧N'≤met.length∧(∀z m,YL hs z=some m→YL hs' z=some m)∧μ=3000000 - met.length,⟨_,a2,a3,own,hs,[],fresh,0,B,En,0,rfl,g0,gr0,⟨fun r d i k p j a b m1=>(nomatch m1),fun r ru i j a er m1=>(nomatch m1)⟩,mt0,YLG _,fun _ _ z=>z,rfl⟩,?_⟩;rintro μ σ H2 ⟨a2',a3',own',hs',met,fresh',h',B',E',N',rfl,g2,gr2,c2,mt2,hN2,mono2,rfl⟩;obtain⟨dx2,hx2⟩:=g2.x_;obtain⟨ts2,f2,n2⟩:=g2.h2;rcases YA3 fresh' with rfl |⟨fr1,y1,rfl⟩
  ·have ts0:ts2=[]:=List.eq_nil_of_length_eq_zero n2.1;subst ts0;refine⟨_,rfl,x,C.Growth,dx2,_,_,rfl,hx2,T.aj,T.aA,rfl,false,.inl ⟨_,SqL.of f2,rfl⟩,ZL ?_⟩;exact q _ _ _ _ _ _ _ _ _ g2 (gr2.fin_ c2) mono2
  ·have pX:(!(ts2.map V.ref).isEmpty)=true:=by
    have:=n2.1;rw[YLE]at this;cases ts2 with
    |nil=>simp at this
    |cons a b=>rfl
   refine⟨_,rfl,x,C.Growth,dx2,_,_,rfl,hx2,T.aj,T.aA,rfl,true,.inl ⟨_,SqL.of f2,pX.symm⟩,Ze ?_⟩;refine⟨fun σ' H'=>∃m',m' < 3000000 - met.length∧∃a2' a3' own' hs' met fresh' h' B' E' N',σ'=[some (.ref x)]∧GSt C.Growth H0 H' x l a1 a2' a3' a4 a5 own' hs' fresh' [] h' B' E' N'∧GrM g cs hs' met fresh' [] h'∧Cl g hs' (·∈met)∧Met g met B' E'∧N'≤met.length∧(∀z m,YL hs z=some m→YL hs' z=some m)∧m'=3000000 - met.length,fun _ _ z=>z,?_⟩;refine⟨fun ν σ H3=>∃own2 hs2 met2 fresh2 cG B2 E2 N2,σ=[some (.ref x)]∧GSt C.Growth H0 H3 x l a1 a2' a3' a4 a5 own2 hs2 fresh2 cG h' B2 E2 N2∧GrM g cs hs2 met2 fresh2 cG h'∧Cl g hs2 (·∈met2)∧Met g met2 B2 E2∧N2≤met2.length∧(∀z m,YL hs z=some m→YL hs2 z=some m)∧(met.length < met2.length∨(fresh2≠[]∧met.length≤met2.length))∧ν=3000000 - met2.length,⟨_,own',hs',met,_,[],B',E',N',rfl,g2,gr2,c2,mt2,hN2,mono2,.inr ⟨by simp,YLG _⟩,rfl⟩,?_⟩;rintro ν σ H3 ⟨own2,hs2,met2,fresh2,cG,B2,E2,N2,rfl,g3,gr3,c3,mt3,hN3,mono3,uC,rfl⟩;obtain⟨dx3,hx3⟩:=g3.x_;obtain⟨ts3,f3,n3⟩:=g3.h2;obtain⟨hl3,hs3⟩:=gr3.len env.hg env.hc;rcases YA3 fresh2 with rfl |⟨fr2,y2,rfl⟩
   ·have ts0:ts3=[]:=List.eq_nil_of_length_eq_zero n3.1;subst ts0;have hlt:met.length < met2.length:=uC.elim (fun z=>z) fun z=>(z.1 rfl).elim
    refine⟨_,rfl,x,C.Growth,dx3,_,_,rfl,hx3,T.aj,T.aA,rfl,false,.inl ⟨_,SqL.of f3,rfl⟩,ZL ?_⟩;refine⟨_,rfl,x,C.Growth,dx3,_,_,rfl,hx3,T.aj,T.bh,rfl,_,rfl,x,C.Growth,dx3,_,rfl,hx3,T.aj,T.aA,(show 7 < 1000 by decide),?_⟩;have ef1:ZA "fresh" (.ref a3') (YCr l a1 h' a2' a3' a4 a5)=YCr l a1 h' a3' a3' a4 a5:=rfl;rw[ef1];refine⟨YLN _,fun e he=>?_⟩;have nxe:x≠e:=fun z=>by rw[←z,YB]at he;cases he
    have he0:H3 e=none:=by rw[YE nxe.symm]at he;exact he
    refine⟨_,rfl,x,C.Growth,dx3,YCr l a1 h' a3' a3' a4 a5,rfl,(by rw[YE nxe];exact YB),T.aj,T.bh,(show 7 < 1000 by decide),?_⟩;have ef2:ZA "higher" (.ref e) (YCr l a1 h' a3' a3' a4 a5)=YCr l a1 h' a3' e a4 a5:=rfl;rw[ef2];refine⟨_,rfl,x,C.Growth,dx3,_,_,rfl,YB,T.aj,T.bf,rfl,_,_,rfl,rfl,dx3,_,YB,(show 7 < 1000 by decide),?_⟩;have ef3:ZA "height" (.int ((h':Int) + 1)) (YCr l a1 h' a3' e a4 a5)=YCr l a1 (h' + 1) a3' e a4 a5:=rfl;rw[ef3];have g4:=g3.swap (H':=upd (upd (upd (upd H3 x (.ins C.Growth dx3 (YCr l a1 h' a3' a3' a4 a5))) e (.lst [])) x (.ins C.Growth dx3 (YCr l a1 h' a3' e a4 a5))) x (.ins C.Growth dx3 (YCr l a1 (h' + 1) a3' e a4 a5))) he0 (fun b o hb z=>?_) YB (by rw[YE nxe.symm,YE nxe.symm];exact YB) (fun b u z=>(Yt rfl b u z).elim (fun z=>(Yt rfl b u z).elim (fun z=>(Yt rfl b u z).elim (Yt rfl b u) .inr) .inr) .inr)
    ·exact⟨3000000 - met2.length,by omega,a3',e,_,hs2,met2,cG,h' + 1,B2,E2,N2,rfl,g4,gr3.next,c3,mt3,hN3,mono3,rfl⟩
    ·have hbe:b≠e:=fun y=>by rw[y,he0]at z;cases z
     rw[YE hb,YE hb,YE hbe,YE hb];exact z
   ·have hlen3:ts3.length=fr2.length + 1:=by have:=n3.1;rw[YLE]at this;exact this
    obtain⟨ts4,t4,rfl⟩:∃ts4 t4,ts3=ts4 ++ [t4]:=by
     rcases YA3 ts3 with rfl |z
     ·simp at hlen3
     ·exact z
    have tH:(!((ts4 ++ [t4]).map V.ref).isEmpty)=true:=by
     cases ts4 <;> rfl
    refine⟨_,rfl,x,C.Growth,dx3,_,_,rfl,hx3,T.aj,T.aA,rfl,true,.inl ⟨_,SqL.of f3,tH.symm⟩,Ze ?_⟩;refine⟨fun σ' H'=>∃m',m' < 3000000 - met2.length∧∃own2 hs2 met2 fresh2 cG B2 E2 N2,σ'=[some (.ref x)]∧GSt C.Growth H0 H' x l a1 a2' a3' a4 a5 own2 hs2 fresh2 cG h' B2 E2 N2∧GrM g cs hs2 met2 fresh2 cG h'∧Cl g hs2 (·∈met2)∧Met g met2 B2 E2∧N2≤met2.length∧(∀z m,YL hs z=some m→YL hs2 z=some m)∧(met.length < met2.length∨(fresh2≠[]∧met.length≤met2.length))∧m'=3000000 - met2.length,fun _ _ z=>z,?_⟩;obtain⟨n4,ht4⟩:=n3.pop;have f4:H3 a2'=some (.lst (ts4.map V.ref ++ [.ref t4])):=by rw[f3,YLK];rfl
    have g4:=g3.set2 n4;have ht5:upd H3 a2' (.lst (ts4.map V.ref)) t4=some (.tup ((Yu y2).map kV)):=by rw[YE (Yr ht4 f3 nofun)];exact ht4
    obtain⟨dx4,hx4⟩:=g4.x_;refine⟨_,rfl,x,dx3,_,rfl,hx3,rfl,_,rfl,x,C.Growth,dx3,_,_,rfl,hx3,T.aj,T.aA,rfl,.inl ⟨rfl,_,SqL.of f3⟩,a2',_,.ref t4,rfl,rfl,f4,(by simp),?_⟩;rw[List.dropLast_concat];refine⟨H0,x,l,a1,a2',a3',a4,a5,t4,xs,g,cs,own2,hs2,met2,fr2,cG,h',B2,E2,N2,y2,rfl,⟨env,g4,ht5,gr3.pop,gr3.vf y2 (YLO _ (List.mem_singleton.mpr rfl)),c3,mt3,hN3⟩,fun H5 own5 hs5 fresh5 rm B5 E5 N5 g5 gr5 c5 mt5 hN5 mono5=>?_⟩;have hml:(met2 ++ [y2]).length=met2.length + 1:=by rw[YLE];rfl
    refine⟨3000000 - (met2 ++ [y2]).length,by omega,own5,hs5,met2 ++ [y2],fresh5,rm,B5,E5,N5,rfl,g5,gr5,c5,mt5,by omega,fun z m e=>mono5 z m (mono3 z m e),.inl (by rcases uC with z |z <;> omega),rfl⟩
end
structure Ji (g:YT) (cs:List Nat) (hs:Hs):Prop where
 sg:∀i c,cs[i]?=some c→YL hs (.part (XZ c) i (i + 1))=some 0
 bg:∀r i,r < g.length→i≤cs.length→YL hs (.beg r 0 i i)=some 0
inductive YCn (CG:Addr) (CT:Addr) (vs:List V) (H:Hp) (Q:VK) (E:XK):Prop where
 |mk (x y:V) (dg d:D) (h0_:vs=[x,y]) (h1_:Den H x dg) (h2_:dg.short=true) (h3_:Den H y d) (h4_:d.short=true) (h5_:YU H) (h6_:(∀g z,dg=Xi g→Yv g=true→d=.str z→Zg z=true→∀a o hs H',ZE g z.cps.toList hs→Ji g z.cps.toList hs→H a=none→H' a=some (.frz o (.dT (hsD hs)))→YI H H'→YU H'→Q (.ref a) H')) (h7_:(JI dg=false→∀H',YI H H'→YU H'→E (.ref CG) none H')) (h8_:(JI dg=true→Xh d=false→∀H',YI H H'→YU H'→E (.ref CT) none H')):YCn CG CT vs H Q E
def YBb (CG CT:Addr):Sp:=fun vs H Q E=>YCn CG CT vs H Q E
section
variable {P:Program}{w:World}{K:W.Frag}{mg:Str→Option Value}{base:Heap}{C:Adr}
theorem Zv:YV ["grammar","text","rules","signs","growth","place","sign","number"] ["grammar","text"] (YJ YBY):=⟨rfl,rfl,rfl,by decide +kernel,rfl,by decide +kernel,by decide +kernel⟩
theorem YGW {f:Addr}{fd:FuncData} (F:Fun K "standing" "standing" YBY f fd) (T:Txt K mg C) (b7:Zq P w K mg (CXo P w) 7 "checked" ["thing"] (YCI C.NoGrammar)) (aU:Zq P w K mg (CXo P w) 3 "checked_text" ["thing"] (YBQ C.NoText)) (bG:UsedI P w K mg CX0 1 C.Growth ["self","rules"] (YIM C.Growth)) (az:JT P w K mg CX0 1 C.Growth "stand" ["self","node"] (YC9 C.Growth)) (cJ:JT P w K mg CX0 4 C.Growth "grow" ["self"] (YKg C.Growth)):Y6 P w K mg base (CXo P w) 8 f fd ["grammar","text"] (YBb C.NoGrammar C.NoText):=by
 obtain⟨n_,mL,iw,iy,iz,iB⟩:=b7.ok;obtain⟨jb,iT,cj,cu,cz,cA⟩:=aU.ok;obtain⟨m9,mO,gB,gC,gD⟩:=bG.ok;obtain⟨dJ,dD,aP,aK,aQ⟩:=az.ok;obtain⟨qJ,pY,jB,jc,jC⟩:=cJ.ok;refine F.okX Zv (fun vs H Q E h=>?_) (fun cdv A outer s H vs Q E hr h=>?_)
 ·obtain⟨x,y,dg,d,rfl,_⟩:=h;rfl
 ·obtain⟨x,y,dg,d,rfl,denG,shG,den,sh,hp,q,qG,qT⟩:=h;refine qex ?_;refine⟨_,(YO ⟨(YK (i:=2) Zv.nd rfl (Or.inl rfl) (YY (iw base) (hr.mono (by decide)) (by rfl) iy iz iB .nil XL.on (YA (pv 0) YC)))⟩
   (YO ⟨(YK (i:=3) Zv.nd rfl (Or.inl rfl) (YY (cj base) (hr.mono (by decide)) (by rfl) cu cz cA .nil XL.on (YA (pv 1) YC)))⟩
   (YO ⟨(YK (i:=4) Zv.nd rfl (Or.inl rfl) (YHz gC (gB base) (hr.mono (by decide)) (by rfl) T.pP gD .nil Yg (YA (pv 2) YC)))⟩
   (YO ⟨(ZQ PassesOwn.leaving rfl (YKh rfl T.iJ (YA (pv 3) YC)) (YFC K rfl (n:=2) rfl (XG (Yd (i:=5) Zv.nd rfl (Or.inl rfl)) (XG (Yd (i:=6) Zv.nd rfl (Or.inl rfl)) YE4))) (YG (Yk (ZZ (pv 4) T.aj aK (aP base) (hr.mono (by decide)) aQ .nil Yg (YA (Yy (YA (YN JK Zj (pv 6)) (YA (pv 5) (YA (YN Yp (pv 5) YD) YC)))) YC)))))⟩
   (YO ⟨(ZQ PassesOwn.leaving rfl (Zo rfl T.bA (YA (YR (YQ K rfl) (by rfl) T.aD PyProof.Rows.Boot.«len» (YA (pv 2) YC)) YC)) (Yd (i:=7) Zv.nd rfl (Or.inl rfl)) (YG (ZQ PassesOwn.leaving rfl (Zo rfl T.bA (YA (YN Yp (YR Zw (by rfl) T.aD PyProof.Rows.Boot.«len» (YA (pv 3) YC)) YD) YC)) (Yd (i:=5) Zv.nd rfl (Or.inl rfl)) (YG (Yk (ZZ (pv 4) T.aj aK (aP base) (hr.mono (by decide)) aQ .nil Yg (YA (Yy (Y9 (pv 7) (Y9 YD (Y9 (pv 5) (Y9 (pv 5) YC))))) YC)))))))⟩
   (YO ⟨(Yk (YBi (pv 4) T.aj jc (jB base) (hr.mono (by decide)) jC .nil Yg))⟩
   (JS ⟨(YX (YKi (Yh K rfl (pv 4) rfl)))⟩))))))),?_⟩
  refine⟨_,rfl,x,dg,rfl,denG,shG,hp,fun eg l xs ds ed hds hl=>?_,fun e=>qG e H (YI.refl H) hp⟩;obtain⟨g,rfl,hg⟩:=YH8 eg;cases ed;have s1:=YI.upd (o:=.lst xs) hl;have p1:YU (upd H l (.lst xs)):=hp.upd rfl;have hl1:upd H l (.lst xs) l=some (.lst xs):=YB;have rn:=hds.same s1;have den1:=den.same s1;revert s1 p1 hl1 rn den1;generalize upd H l (.lst xs)=H1;intro s1 p1 hl1 rn den1;refine⟨_,rfl,y,d,rfl,den1,sh,p1,fun z ez hz=>?_,fun e=>qT eg e H1 s1 p1⟩;subst ez;obtain⟨cs,ecs⟩:∃cs,z.cps.toList=cs:=⟨_,rfl⟩;have hzt:=hz;unfold Zg at hzt;rw[YLJ,decide_eq_true_eq]at hzt;have hcl:cs.length=z.cps.size:=by rw[←ecs,YLc]
  have tK:cs.length≤60:=by rw[hcl];exact hzt.1
  have env:GEnv H1 l xs g cs:=⟨hl1,rn,hg,tK⟩;have hxl:xs.length=g.length:=by rw[rn.len,YLD]
  have g60:=YAH hg;refine⟨_,rfl,fun gx dx hx hdx hnx=>⟨H1,gx,l,dx,rfl,YB,hx,(YI.upd hdx).put hx,(p1.upd rfl).upd rfl,fun a1 a2 a3 a4 a5 own G0 gst0=>⟨rfl,?_⟩⟩⟩;dsimp only[ZH];refine⟨_,rfl,z,rfl,YJS (z:=z) (fun i σ H2=>∃hs fresh v5 v6,σ=[some x,some y,some (.ref l),some (.str z),some (.ref gx),v5,v6,none]∧GSt C.Growth H1 H2 gx l a1 a2 a3 a4 a5 own hs fresh [] 0 (fun _ _=>[]) (fun _ _=>[]) 0∧GrM g cs hs [] fresh [] 0∧(∀i' c,i' < i→cs[i']?=some c→YL hs (.part (XZ c) i' (i' + 1))=some 0)∧∀n v,YL hs n=some v→∃p i' j',n=.part p i' j'∧i' < i) ⟨[],[],none,none,rfl,gst0,⟨List.nodup_nil,List.Perm.refl _,fun n hn=>(nomatch hn),fun n hn=>(nomatch hn),fun n hn=>(nomatch hn),fun n v e=>(nomatch e),fun n v e=>(nomatch e)⟩,fun i' c hi=>(nomatch hi),fun n v e=>(nomatch e)⟩ ?_ ?_⟩
  ·rintro i c T0 σ H2 hi hT0 ⟨hs,fresh,v5,v6,rfl,g2,gr2,hb2,hn2⟩;have hic:cs[i]?=some c:=by rw[←ecs,Array.getElem?_toList];exact hi
   have hil:i < cs.length:=(List.getElem?_eq_some_iff.mp hic).1;have sT:=YI.upd (o:=.tup [.int (i:Nat),.str ⟨#[c]⟩]) hT0;have g3:=g2.same sT (Yt rfl);obtain⟨dx3,hx3⟩:=g3.x_;obtain⟨hlen,hml⟩:=gr2.len hg tK;refine⟨T0,_,rfl,SqT.of YB,rfl,_,_,rfl,_,_,rfl,rfl,?_⟩;refine⟨_,rfl,gx,dx3,_,rfl,hx3,rfl,_,rfl,_,_,rfl,rfl,YH (by rw[q_one];show 1 + 1≤1000;decide),_,rfl,_,rfl,_,_,rfl,rfl,YH (by show 3≤1000;decide),fun tn htn=>?_⟩;have sN:=YI.upd (o:=.tup [.str (XZ c),.int (i:Nat),.int ((i:Int) + 1)]) htn;have hlk:YL hs (.part (XZ c) i (i + 1))=none:=by
    cases e:YL hs (.part (XZ c) i (i + 1)) with
    |none=>rfl
    |some v=>
     obtain⟨p,i',j',z1,z2⟩:=hn2 _ _ e
     injection z1 with z3 z4 z5
     omega
   refine⟨H1,gx,l,a1,a2,a3,a4,a5,tn,own,hs,fresh,[],0,fun _ _=>[],fun _ _=>[],0,.part (XZ c) i (i + 1),rfl,g3.same sN (Yt rfl),YB,hlk,by omega,by omega,fun H5 g5 _=>?_⟩;have gr5:=gr2.stand hlk (show Leg g cs (.part (XZ c) i (i + 1)) from⟨.inr ⟨c,hic,rfl,rfl⟩,Nat.le_succ _,hil⟩) (.inl ⟨rfl,c,hic,rfl,rfl⟩);refine⟨_,_,_,_,rfl,g5,gr5,fun i' c' hi' hc'=>?_,fun n v e=>?_⟩
   ·by_cases hii:i'=i
    ·subst hii;rw[hic]at hc';cases hc';rw[ZO _ _ _ _ hlk,if_pos rfl]
    ·exact Zs hlk _ _ (hb2 i' c' (by omega) hc')
   ·rw[ZO _ _ _ _ hlk]at e;split at e
    ·rename_i zz
     exact⟨_,_,_,zz,Nat.lt_succ_self _⟩
    ·obtain⟨p,i',j',z1,z2⟩:=hn2 _ _ e;exact⟨p,i',j',z1,by omega⟩
  ·rintro σ H2 ⟨hs,fresh,v5,v6,rfl,g2,gr2,hb2,hn2⟩;have hsg:∀i c,cs[i]?=some c→YL hs (.part (XZ c) i (i + 1))=some 0:=fun i c e=>hb2 i c (by rw[←hcl];exact(List.getElem?_eq_some_iff.mp e).1) e
   have hl2:=g2.sm _ _ hl1;refine⟨_,rfl,l,_,rfl,.inl (SqL.of hl2),_,rfl,(YAW (by omega) (by omega)).1,(YAW (by omega) (by omega)).2,?_⟩;refine JA (lo:=0) (n:=((xs.length:Int)).toNat) (fun r σ H3=>∃hs3 fresh3 v5 v7,σ=[some x,some y,some (.ref l),some (.str z),some (.ref gx),v5,v6,v7]∧GSt C.Growth H1 H3 gx l a1 a2 a3 a4 a5 own hs3 fresh3 [] 0 (fun _ _=>[]) (fun _ _=>[]) 0∧GrM g cs hs3 [] fresh3 [] 0∧(∀n v,YL hs n=some v→YL hs3 n=some v)∧(∀r' i,r' < r→i≤cs.length→YL hs3 (.beg r' 0 i i)=some 0)∧∀n v,YL hs3 n=some v→(∃p i' j',n=.part p i' j')∨∃r' i',n=.beg r' 0 i' i'∧r' < r) ⟨hs,fresh,v5,none,rfl,g2,gr2,fun _ _ e=>e,fun r' i hr=>(nomatch hr),fun n v e=>.inl (let ⟨p,i',j',z1,_⟩:=hn2 n v e;⟨p,i',j',z1⟩)⟩ ?_ ?_
   ·rintro r σ H3 hr ⟨hs3,fresh3,v5,v7,rfl,g3,gr3,mono3,hb3,hn3⟩;have hrg:r < g.length:=by omega
    have zl:z.length≤sizeLine:=YH (by have:z.length=z.cps.size:=rfl;omega);have zlc:(z.length:Int)=(cs.length:Int):=by rw[hcl];rfl
    refine⟨_,rfl,z,rfl,zl,_,_,rfl,rfl,_,rfl,(YAW (by omega) (by omega)).1,(YAW (by omega) (by omega)).2,?_⟩;refine JA (lo:=0) (n:=((z.length:Int) + 1).toNat) (fun i σ H4=>∃hs4 fresh4 v5,σ=[some x,some y,some (.ref l),some (.str z),some (.ref gx),v5,v6,some (.int (0 + (r:Int)))]∧GSt C.Growth H1 H4 gx l a1 a2 a3 a4 a5 own hs4 fresh4 [] 0 (fun _ _=>[]) (fun _ _=>[]) 0∧GrM g cs hs4 [] fresh4 [] 0∧(∀n v,YL hs n=some v→YL hs4 n=some v)∧(∀r' i',r' < r∨(r'=r∧i' < i)→i'≤cs.length→YL hs4 (.beg r' 0 i' i')=some 0)∧∀n v,YL hs4 n=some v→(∃p i' j',n=.part p i' j')∨∃r' i',n=.beg r' 0 i' i'∧(r' < r∨(r'=r∧i' < i))) ⟨hs3,fresh3,v5,rfl,g3,gr3,mono3,fun r' i' h1 h2=>hb3 r' i' (by omega) h2,fun n v e=>(hn3 n v e).elim .inl fun⟨r',i',z1,z2⟩=>.inr ⟨r',i',z1,.inl z2⟩⟩ ?_ ?_
    ·rintro i σ H4 hi ⟨hs4,fresh4,v5,rfl,g4,gr4,mono4,hb4,hn4⟩;have hic:i≤cs.length:=by omega
     obtain⟨dx4,hx4⟩:=g4.x_;obtain⟨hlen,hml⟩:=gr4.len hg tK;refine⟨_,rfl,gx,dx4,_,rfl,hx4,rfl,_,rfl,_,rfl,_,rfl,YH (by show 4≤1000;decide),fun tn htn=>?_⟩;have en:HO.tup [.int (0 + (r:Int)),.int 0,.int (0 + (i:Int)),.int (0 + (i:Int))]=.tup ((Yu (.beg r 0 i i)).map kV):=by
      rw[Int.zero_add,Int.zero_add];rfl
     have sN:=YI.upd (o:=.tup [.int (0 + (r:Int)),.int 0,.int (0 + (i:Int)),.int (0 + (i:Int))]) htn;have hlk:YL hs4 (.beg r 0 i i)=none:=by
      cases e:YL hs4 (.beg r 0 i i) with
      |none=>rfl
      |some v=>
       rcases hn4 _ _ e with ⟨p,i',j',z1⟩ |⟨r',i',z1,z2⟩
       ·cases z1
       ·injection z1 with z3 z4 z5 z6
        omega
     refine⟨H1,gx,l,a1,a2,a3,a4,a5,tn,own,hs4,fresh4,[],0,fun _ _=>[],fun _ _=>[],0,.beg r 0 i i,rfl,g4.same sN (Yt rfl),(by rw[←en];exact YB),hlk,by omega,by omega,fun H5 g5 _=>?_⟩;obtain⟨ru,er⟩:∃ru,g[r]?=some ru:=⟨_,YLF hrg⟩;have gr5:=gr4.stand hlk (show Leg g cs (.beg r 0 i i) from⟨⟨ru,er,YLN _⟩,YLG _,hic⟩) (.inl ⟨rfl,rfl,rfl⟩);refine⟨_,_,_,rfl,g5,gr5,fun n v e=>Zs hlk _ _ (mono4 n v e),fun r' i' h1 h2=>?_,fun n v e=>?_⟩
     ·rw[ZO _ _ _ _ hlk];split
      ·rfl
      ·rename_i zz
       refine hb4 r' i' ?_ h2;rcases h1 with h1 |⟨h1,h3⟩
       ·exact .inl h1
       ·refine .inr ⟨h1,?_⟩
        by_cases hii:i'=i
        ·exact(zz (by rw[h1,hii])).elim
        ·omega
     ·rw[ZO _ _ _ _ hlk]at e;split at e
      ·rename_i zz
       exact .inr ⟨r,i,zz,.inr ⟨rfl,Nat.lt_succ_self _⟩⟩
      ·rcases hn4 _ _ e with z1 |⟨r',i',z1,z2⟩
       ·exact .inl z1
       ·exact .inr ⟨r',i',z1,by omega⟩
    ·rintro σ H4 ⟨hs4,fresh4,v5,rfl,g4,gr4,mono4,hb4,hn4⟩;refine⟨hs4,fresh4,_,_,rfl,g4,gr4,mono4,fun r' i' h1 h2=>hb4 r' i' ?_ h2,fun n v e=>?_⟩
     ·by_cases hrr:r'=r
      ·exact .inr ⟨hrr,by omega⟩
      ·exact .inl (by omega)
     ·rcases hn4 _ _ e with z1 |⟨r',i',z1,z2⟩
      ·exact .inl z1
      ·exact .inr ⟨r',i',z1,by omega⟩
   ·rintro σ H3 ⟨hs3,fresh3,v5,v7,rfl,g3,gr3,mono3,hb3,hn3⟩;obtain⟨dx3,hx3⟩:=g3.x_;refine⟨_,rfl,gx,dx3,_,rfl,hx3,rfl,H1,gx,l,a1,a2,a3,a4,a5,xs,g,cs,own,hs3,fresh3,fun _ _=>[],fun _ _=>[],rfl,env,g3,gr3,⟨fun p k r d i=>⟨fun hh=>(nomatch hh),fun hh=>(nomatch hh.1)⟩,fun p k j=>⟨fun hh=>(nomatch hh),fun hh=>(nomatch hh)⟩⟩,fun H6 hs6 a2' a3' own6 h6 B6 E6 N6 g6 st6 mono6=>?_⟩;obtain⟨dx6,hx6⟩:=g6.x_;obtain⟨k4,f4,_,_⟩:=g6.h4;obtain⟨k5,f5,_,_⟩:=g6.h5;refine⟨_,rfl,gx,C.Growth,dx6,_,_,rfl,hx6,T.aj,T.au,rfl,a1,a4,a5,_,_,_,g6.h1,f4,f5,g6.d14,g6.d15,g6.d45,fun o=>?_⟩;have bs:Ji g cs hs6:=⟨fun i c e=>mono6 _ _ (mono3 _ _ (hsg i c e)),fun r i hr hi=>mono6 _ _ (hb3 r i (by omega) hi)⟩;rw[←ecs]at bs st6;refine q g z rfl hg rfl hz a1 o hs6 _ st6 bs (s1.free g6.n1) YB ?_ ?_
    ·exact s1.trans (((g6.sm.to_del g6.n4).to_del g6.n5).put g6.n1)
    ·intro b ob eb
     by_cases hb:b=a1
     ·subst hb;rw[YB]at eb;cases eb;rfl
     ·rw[YE hb]at eb;have h5:b≠a5:=fun zz=>by rw[zz,YBn]at eb;cases eb
      rw[Zy h5]at eb;have h4:b≠a4:=fun zz=>by rw[zz,YBn]at eb;cases eb
      rw[Zy h4]at eb;rcases g6.pl b ob eb with zz |zz |zz |zz
      ·exact(hb zz).elim
      ·exact(h4 zz).elim
      ·exact(h5 zz).elim
      ·exact zz
end
abbrev JW:Stmt:=top 30
abbrev Z9:Stmt:=top 31
abbrev J1:Stmt:=Zx (top 32) 0
abbrev Jj:Stmt:=Zx (top 32) 1
abbrev Jk:Stmt:=Zx (top 32) 2
abbrev YBc:Stmt:=Zx (top 32) 5
abbrev YAL:Stmt:=Zx (top 32) 6
abbrev YAq:Stmt:=Zx (top 32) 7
abbrev JD:Stmt:=Zx (top 32) 8
abbrev Zl:Stmt:=Zx (top 32) 9
inductive YIU (vs:List V) (H:Hp) (Q:VK):Prop where
 |mk (l:Addr) (xs:List V) (g:YT) (h0_:vs=[.ref l]) (h1_:H l=some (.lst xs)) (h2_:Yb H xs (g.map ZS)) (h3_:Yv g=true) (h4_:YU H) (h5_:∀a H',YAm H' a g→YI H H'→YU H'→Q (.ref a) H'):YIU vs H Q
def YKo:Sp:=fun vs H Q E_=>YIU vs H Q
inductive YGX (vs:List V) (H:Hp) (Q:VK):Prop where
 |mk (f:Addr) (o:Obj) (kvs:List (List Key×V)) (nds:List Nd) (n:Nat) (h0_:vs=[.ref f]) (h1_:H f=some (.frz o (.dT kvs))) (h2_:JG kvs nds) (h3_:nds.Nodup) (h4_:nds.length≤2100000) (h5_:n≤60) (h6_:(∀r d i k,Nd.beg r d i k∈nds→k≤n)) (h7_:YU H) (h8_:∀a H',YAn H' a n nds→YI H H'→YU H'→Q (.ref a) H'):YGX vs H Q
def YIV:Sp:=fun vs H Q E_=>YGX vs H Q
section
variable {P:Program}{w:World}{K:W.Frag}{mg:Str→Option Value}{base:Heap}{C:Adr}
theorem Z0:YV ["rules","numbers","number","rule"] ["rules"] (YJ JW):=⟨rfl,rfl,rfl,by decide +kernel,rfl,by decide +kernel,by decide +kernel⟩
theorem YBd {f:Addr}{fd:FuncData} (F:Fun K "numbers_by_head" "numbers_by_head" JW f fd) (T:Txt K mg C):Y6 P w K mg base CX0 1 f fd ["rules"] (YKo):=by
 refine F.ok Z0 (fun vs H Q E h=>?_) (fun cdv A outer s H vs Q E hr h=>?_)
 ·obtain⟨l,xs,g,rfl,_⟩:=h;rfl
 ·obtain⟨l,xs,g,rfl,hl,hds,hg,hp,q⟩:=h;have hu:=JP hr;refine⟨_,(YF (YK (i:=1) Z0.nd rfl (Or.inl rfl) YFr)
   (YF (ZQ PassesOwn.never rfl (pi_enum K rfl rfl T.iJ (YA (pv 0) YC)) (YFC K rfl (n:=2) rfl (XG (Yd (i:=2) Z0.nd rfl (Or.inl rfl)) (XG (Yd (i:=3) Z0.nd rfl (Or.inl rfl)) YE4))) (YG (Yk (ZV K rfl PySem.F.plainAttrs_list PySem.F.slot_list_append PySem.F.type_list_append Yl (YJU hu (pv 1) (YM (YS K rfl) (pv 3) YD (fun _ _=>rfl)) (Y0 YC) ⟨rfl,rfl,rfl,rfl⟩) (YA (pv 2) YC)))))
   (YG (YX (pv 1))))),?_⟩
  have uD:=YAH hg;have hxl:xs.length=g.length:=by rw[hds.len,YLD]
  refine fun d hd=>?_
  have s0:=YI.upd (o:=.dK []) hd;refine⟨_,rfl,l,rfl,⟨xs,.inl (s0 _ _ hl)⟩,YKa (K:=K) (a:=l) (xs:=xs) (fun i σ H2=>∃(own:Addr→Option Str) (v2 v3:Option V) (N:Nat),σ=[some (.ref l),some (.ref d),v2,v3]∧LsD HO.dK (Sum.inr:Str→Key) H H2 d own (Jh g i) N∧N≤2 * i)
   ⟨fun _=>none,none,none,0,rfl,⟨s0,⟨[],YB,YLG _,fun t=>.inl ⟨rfl,rfl⟩,fun k v e=>nomatch e⟩,(fun a t e=>nomatch e),hd,fun b o e=>(by by_cases hb:b=d;exact .inl hb;rw[YE hb]at e;exact .inr (hp b o e)),fun t=>YLG _⟩,YLG _⟩
   (fun i σ H2 _ ⟨own,v2,v3,N,_,g2,_⟩=>SqL.of (g2.sm _ _ hl)) ?_ ?_⟩
  ·rintro i x T0 σ H2 hi hT0 ⟨own,v2,v3,N,rfl,g2,hN⟩;have hil:i < xs.length:=(List.getElem?_eq_some_iff.mp hi).1;have er:g[i]?=some g[i]:=YLF (by omega);generalize g[i]=ru at er;obtain⟨tt,pp,ax,htt,hpp⟩:=Zr hds er;have ex:x=.ref tt:=by
    have:=ZT (xs:=xs) (j:=i) hi;rw[this]at ax;exact Option.some.inj ax
   subst ex;have sT:=YI.upd (o:=.tup [.int (i:Nat),.ref tt]) hT0;have g3:=g2.same sT (Ys.upd rfl);refine⟨T0,_,rfl,SqT.of YB,rfl,_,_,rfl,_,_,rfl,rfl,?_⟩;revert g3;generalize upd H2 T0 (.tup [.int (i:Nat),.ref tt])=H3;intro g3;obtain⟨kvs,e1,e2,e3,e4⟩:=g3.h;refine⟨_,rfl,d,rfl,.inl ⟨kvs,.inl e1⟩,_,rfl,tt,_,0,_,rfl,rfl,SqT.of (g3.sm _ _ htt),rfl,YH (YLN _),fun e he=>?_⟩;have g4:=g3.same (YI.upd (o:=.lst []) he) (Ys.upd rfl);have hde:d≠e:=Ya e1 he;refine⟨kvs,Sum.inr ru.1,by rw[YE hde];exact e1,rfl,by rw[sizeLine_eq];omega,fun v hv=>?_,fun hv=>?_⟩
   ·rcases e3 ru.1 with z |⟨a,z1,z2,z3⟩
    ·rw[z.1]at hv;cases hv
    ·rw[z1]at hv;cases hv;have hae:a≠e:=Ya z3 he;refine⟨.inl ⟨rfl,_,SqL.of (by rw[YE hae];exact z3)⟩,_,rfl,a,_,_,rfl,rfl,by rw[YE hae];exact z3,by rw[YLD,sizeLine_eq];have:=g3.le ru.1;omega,?_⟩;refine⟨own,_,_,N + 1,rfl,?_,by omega⟩;have:=g4.more (fun _ _ z=>nomatch z) z2 (fun kvs' z=>by rw[YE hde,e1]at z;cases z;exact z1) i;have ef:(fun t'=>if t'=ru.1 then Jh g i ru.1 ++ [i] else Jh g i t')=Jh g (i + 1):=funext fun p=>(YCl er p).symm
     rw[ef]at this;exact this
   ·have hne:(g3.sm.trans (YI.upd (o:=.lst []) he))=(g3.sm.trans (YI.upd (o:=.lst []) he)):=rfl;have h0:H e=none:=g3.sm.free he;have ho:own e=none:=by
     cases ho:own e with
     |none=>rfl
     |some t=>
      obtain⟨_,xs',z⟩:=g3.on e t ho;rw[he]at z;cases z
    have g5:=g4.fresh (fun _ _ z=>nomatch z) (fun _ _ z=>by cases z;rfl) (fun _ _ z=>by cases z;rfl) (t:=ru.1) YB h0 ho (by rw[YE hde];exact e1) hv;have he5:upd (upd H3 e (.lst [])) d (.dK (Y4 kvs (Sum.inr ru.1) (.ref e))) e=some (.lst []):=by rw[YE hde.symm];exact YB
    have hE:Jh g i ru.1=[]:=by
     rcases e3 ru.1 with z |⟨a,z1,z2,z3⟩
     ·exact z.2
     ·rw[hv]at z1;cases z1
    refine⟨.inl ⟨rfl,_,SqL.of he5⟩,_,rfl,e,_,_,rfl,rfl,he5,by rw[sizeLine_eq];decide,?_⟩;have g6:=g5.more (fun _ _ z=>nomatch z) (t:=ru.1) (a:=e) (if_pos rfl) (fun kvs' z=>by rw[YB]at z;cases z;rw[Z6,if_pos rfl]) i;have ef:(fun t'=>if t'=ru.1 then Jh g i ru.1 ++ [i] else Jh g i t')=Jh g (i + 1):=funext fun p=>(YCl er p).symm
    rw[ef,hE]at g6;exact⟨_,_,_,N + 1 + 1,rfl,g6,by omega⟩
  ·rintro σ H2 ⟨own,v2,v3,N,rfl,g2,hN⟩;obtain⟨kvs,e1,e2,e3,e4⟩:=g2.h;have er:Jh g xs.length=Zz g:=by rw[hxl];rfl
   rw[er]at e3;refine⟨_,rfl,q d H2 ⟨kvs,e1,fun p=>(e3 p).imp (fun z=>⟨z.2,z.1⟩) fun⟨a,z1,_,z3⟩=>⟨a,z1,z3⟩⟩ g2.sm fun b o e=>?_⟩;rcases g2.pl b o e with rfl |h
   ·rw[e1]at e;cases e;rfl
   ·exact h
theorem Za:YV ["nodes","ends","node","key"] ["nodes"] (YJ Z9):=⟨rfl,rfl,rfl,by decide +kernel,rfl,by decide +kernel,by decide +kernel⟩
theorem YAX {f:Addr}{fd:FuncData} (F:Fun K "ends_of_beginnings" "ends_of_beginnings" Z9 f fd) (T:Txt K mg C):Y6 P w K mg base CX0 1 f fd ["nodes"] (YIV):=by
 refine F.ok Za (fun vs H Q E h=>?_) (fun cdv A outer s H vs Q E hr h=>?_)
 ·obtain⟨f,o,kvs,nds,n,rfl,_⟩:=h;rfl
 ·obtain⟨f,o,kvs,nds,n,rfl,hf,hk,hnd,hl2,hn,hb,hp,q⟩:=h;have hu:=JP hr;refine⟨_,(YF (YK (i:=1) Za.nd rfl (Or.inl rfl) YAb)
   (YF (ZQ PassesOwn.never rfl (YKj (pv 0)) (Yd (i:=2) Za.nd rfl (Or.inl rfl)) (YG (Y3 (Ye Jq (YR (YQ K rfl) (by rfl) T.aD PyProof.Rows.Boot.«len» (YA (pv 2) YC)) YD (Yf _)) (YG (Yk (ZV K rfl PySem.F.plainAttrs_list PySem.F.slot_list_append PySem.F.type_list_append Yl (YDf hu (pv 1) (Yy (YA (YM (YS K rfl) (pv 2) YD (fun _ _=>rfl)) (YA (YM (YS K rfl) (pv 2) YD (fun _ _=>rfl)) (YA (YM (YS K rfl) (pv 2) YD (fun _ _=>rfl)) YC)))) (Y0 YC) ⟨rfl,rfl,rfl,rfl⟩) (YA (YM (YS K rfl) (pv 2) YD (fun _ _=>rfl)) YC)))) Yc)))
   (YF (ZQ PassesOwn.never rfl (JE K rfl (Z2 (YAT rfl) (by rfl) T.eQ PyProof.Rows.Boot.«list» (YA (pv 1) YC))) (Yd (i:=3) Za.nd rfl (Or.inl rfl)) (YG (YAC hu (pv 1) (pv 3) (YR YGI (by rfl) T.pN PyProof.Rows.Boot.«sorted» (YA (Xe hu (pv 1) (pv 3) (fun _ _=>rfl)) YC)) rfl)))
   (YG (YX (YGH (pv 1))))))),?_⟩
  refine fun d hd=>?_
  have s0:=YI.upd (o:=.dT []) hd;have hkl:=hk.len;refine⟨_,rfl,f,o,kvs,rfl,s0 _ _ hf,YJT (d:=f) (o:=o) (kvs:=kvs) (fun i σ H2=>∃(own:Addr→Option (Nat×Nat×Nat)) (v2:Option V) (N:Nat),σ=[some (.ref f),some (.ref d),v2,none]∧LsD HO.dT k3t H H2 d own (Xj (nds.take i)) N∧N≤2 * i)
   ⟨fun _=>none,none,0,rfl,⟨s0,⟨[],YB,YLG _,fun t=>.inl ⟨rfl,rfl⟩,fun k v e=>nomatch e⟩,(fun a t e=>nomatch e),hd,fun b o e=>(by by_cases hb:b=d;exact .inl hb;rw[YE hb]at e;exact .inr (hp b o e)),fun t=>YLG _⟩,YLG _⟩
   (fun i σ H2 _ ⟨own,v2,N,_,g2,_⟩=>g2.sm _ _ hf) ?_ ?_⟩
  ·rintro i kv b σ H2 hi hb2 ⟨own,v2,N,rfl,g2,hN⟩;have hil:i < kvs.length:=(List.getElem?_eq_some_iff.mp hi).1;obtain⟨x,ex⟩:∃x,nds[i]?=some x:=⟨_,YLF (by omega)⟩;have ekv:kv.1=Yu x:=by
    have:=congrArg (fun l=>l[i]?) hk;simp only[YLI,hi,ex]at this;exact Option.some.inj this
   rw[ekv]at hb2;dsimp only[ZH];cases x with
   |part p a c=>
    have mQ:H2 b=some (.tup [.str p,nV a,nV c]):=hb2;refine⟨_,rfl,b,_,rfl,.inr (SqT.of mQ),rfl,_,rfl,?_⟩;rw[show decide (V.int (([.str p,nV a,nV c]:List V).length:Nat)=V.int 4)=false from decide_eq_false (fun h=>by injection h with h;have h:(3:Int)=4:=h;omega)];refine ZL ⟨own,_,N,rfl,?_,by omega⟩;rw[YHU ex];exact g2
   |beg r dd ii k=>
    have mQ:H2 b=some (.tup [nV r,nV dd,nV ii,nV k]):=hb2;refine⟨_,rfl,b,_,rfl,.inr (SqT.of mQ),rfl,_,rfl,?_⟩;rw[show decide (V.int (([nV r,nV dd,nV ii,nV k]:List V).length:Nat)=V.int 4)=true from decide_eq_true rfl];obtain⟨kv2,e1,e2,e3,e4⟩:=g2.h;refine Ze ⟨_,rfl,d,rfl,.inr ⟨kv2,.inl e1⟩,_,rfl,b,_,0,_,rfl,rfl,SqT.of mQ,rfl,_,rfl,b,_,1,_,rfl,rfl,SqT.of mQ,rfl,_,rfl,b,_,2,_,rfl,rfl,SqT.of mQ,rfl,YH (by show 3≤1000;decide),fun tk htk=>?_⟩;refine⟨YH (YLN _),fun e he=>?_⟩;have g3:=g2.same (YI.upd (o:=.tup [nV r,nV dd,nV ii]) htk) (Ys.upd rfl);have ht3:upd H2 tk (.tup [nV r,nV dd,nV ii]) tk=some (.tup ((k3t (r,dd,ii)).map kV)):=YB;have hb3:upd H2 tk (.tup [nV r,nV dd,nV ii]) b=some (.tup [nV r,nV dd,nV ii,nV k]):=YI.upd htk _ _ mQ;have e13:upd H2 tk (.tup [nV r,nV dd,nV ii]) d=some (.dT kv2):=YI.upd htk _ _ e1;have e33:∀t,(Yw kv2 (k3t t)=none∧Xj (nds.take i) t=[])∨∃a,Yw kv2 (k3t t)=some (.ref a)∧own a=some t∧upd H2 tk (.tup [nV r,nV dd,nV ii]) a=some (.lst ((Xj (nds.take i) t).map nV)):=fun t=>(e3 t).imp id fun⟨a,z1,z2,z3⟩=>⟨a,z1,z2,YI.upd htk _ _ z3⟩
    revert g3 ht3 hb3 he e13 e33;generalize upd H2 tk (.tup [nV r,nV dd,nV ii])=H3;intro he g3 ht3 hb3 e13 e33;have g4:=g3.same (YI.upd (o:=.lst []) he) (Ys.upd rfl);have hde:d≠e:=Ya e13 he;have ef:=YJV ex;refine⟨kv2,k3t (r,dd,ii),tk,by rw[YE hde];exact e13,rfl,YI.upd he _ _ ht3,by rw[sizeLine_eq];omega,fun v hv=>?_,fun hv=>?_⟩
    ·rcases e33 (r,dd,ii) with z |⟨a,z1,z2,z3⟩
     ·rw[z.1]at hv;cases hv
     ·rw[z1]at hv;cases hv;have hae:a≠e:=Ya z3 he;refine⟨.inl ⟨rfl,_,SqL.of (by rw[YE hae];exact z3)⟩,_,rfl,b,_,3,_,rfl,rfl,SqT.of (YI.upd he _ _ hb3),rfl,a,_,_,rfl,rfl,by rw[YE hae];exact z3,by rw[YLD,sizeLine_eq];have:=g3.le (r,dd,ii);omega,?_⟩;refine⟨own,_,N + 1,rfl,?_,by omega⟩;have:=g4.more (fun _ _ z=>nomatch z) z2 (fun kvs' z=>by rw[YE hde,e13]at z;cases z;exact z1) k;rw[ef]at this;exact this
    ·have h0:H e=none:=g3.sm.free he;have ho:own e=none:=by
      cases ho:own e with
      |none=>rfl
      |some t=>
       obtain⟨_,xs',z⟩:=g3.on e t ho;rw[he]at z;cases z
     have g5:=g4.fresh (fun _ _ z=>nomatch z) (fun _ _ z=>by cases z;rfl) YFO (t:=(r,dd,ii)) YB h0 ho (by rw[YE hde];exact e13) hv;have he5:upd (upd H3 e (.lst [])) d (.dT (Y4 kv2 (k3t (r,dd,ii)) (.ref e))) e=some (.lst []):=by rw[YE hde.symm];exact YB
     have hb5:upd (upd H3 e (.lst [])) d (.dT (Y4 kv2 (k3t (r,dd,ii)) (.ref e))) b=some (.tup [nV r,nV dd,nV ii,nV k]):=by rw[YE (Yr hb3 e13 nofun)];exact YI.upd he _ _ hb3
     have hE:Xj (nds.take i) (r,dd,ii)=[]:=by
      rcases e33 (r,dd,ii) with z |⟨a,z1,z2,z3⟩
      ·exact z.2
      ·rw[hv]at z1;cases z1
     refine⟨.inl ⟨rfl,_,SqL.of he5⟩,_,rfl,b,_,3,_,rfl,rfl,SqT.of hb5,rfl,e,_,_,rfl,rfl,he5,by rw[sizeLine_eq];decide,?_⟩;have g6:=g5.more (fun _ _ z=>nomatch z) (t:=(r,dd,ii)) (a:=e) (if_pos rfl) (fun kvs' z=>by rw[YB]at z;cases z;rw[Z6,if_pos rfl]) k;rw[ef,hE]at g6;exact⟨_,_,N + 1 + 1,rfl,g6,by omega⟩
  ·rintro σ H2 ⟨own,v2,N,rfl,g2,hN⟩;rw[hkl,List.take_length]at g2;obtain⟨kvE,e1,e2,e3,e4⟩:=g2.h;refine⟨_,rfl,d,kvE,rfl,.inl e1,fun lk ts hlk hts=>?_⟩;have slk:=YI.upd (o:=.lst (ts.map V.ref)) hlk;have hdl:d≠lk:=Ya e1 hlk;refine⟨lk,rfl,⟨_,SqL.of YB⟩,XH (K:=K) (a:=lk) (xs:=ts.map V.ref) (fun m σ H3=>∃(kv2:List (List Key×V)) (v3:Option V),σ=[some (.ref f),some (.ref d),v2,v3]∧H3 d=some (.dT kv2)∧kv2.map (·.1)=kvE.map (·.1)∧YI H H3∧H3 lk=some (.lst (ts.map V.ref))∧YHS H3 ts kvE∧(∀b o,H3 b=some o→b=d∨ZB o=true)∧
     ∀t,∃L:List Nat,L.Perm (Xj nds t)∧(k3t t∈(kvE.map (·.1)).take m→L.Pairwise (·≤·))∧((Yw kv2 (k3t t)=none∧L=[])∨∃a,Yw kv2 (k3t t)=some (.ref a)∧H3 a=some (.lst (L.map nV))))
    ⟨kvE,none,rfl,slk _ _ e1,rfl,g2.sm.trans slk,YB,⟨hts.1,fun i t kv z1 z2=>slk _ _ (hts.2 i t kv z1 z2)⟩,fun b o e=>(Yt rfl b o e).elim (g2.pl b o) .inr,fun t=>⟨Xj nds t,List.Perm.refl _,nofun,(e3 t).imp id fun⟨a,z1,_,z3⟩=>⟨a,z1,slk _ _ z3⟩⟩⟩
    (fun m σ H3 _ ⟨kv2,v3,_,_,_,_,z,_⟩=>SqL.of z) ?_ ?_⟩
   ·rintro m v σ H3 hm ⟨kv2,v3,rfl,f1,f2,f3,f4,f5,f6,f7⟩;rw[YLI]at hm;obtain⟨tk,htk,rfl⟩:=Option.map_eq_some_iff.mp hm;have hml:m < kvE.length:=by rw[←f5.1];exact(List.getElem?_eq_some_iff.mp htk).1
    obtain⟨kv,ekv⟩:∃kv,kvE[m]?=some kv:=⟨_,YLF hml⟩;have htp:=f5.2 m tk kv htk ekv;have hmem:kv.1∈kvE.map (·.1):=List.mem_map.mpr ⟨kv,YLH ekv,rfl⟩;have hsome:=YAl.mpr hmem;obtain⟨u,hu'⟩:=Option.isSome_iff_exists.mp hsome;obtain⟨t,et⟩:=e4 _ _ hu';rw[et]at htp hmem;obtain⟨L,p1,p2,p3⟩:=f7 t;have hs2:(Yw kv2 (k3t t)).isSome=true:=YAl.mpr (by rw[f2];exact hmem);obtain⟨a,z1,z2⟩:∃a,Yw kv2 (k3t t)=some (.ref a)∧H3 a=some (.lst (L.map nV)):=by
     rcases p3 with z |z
     ·rw[z.1]at hs2;cases hs2
     ·exact z
    have hLl:L.length≤61:=by
     have:=YKl (n:=n) (r:=t.1) (d:=t.2.1) (i:=t.2.2) (fun k hk'=>hb _ _ _ _ hk') hnd;have h2:=p1.length_eq;unfold Xj at h2;omega
    have eLn:L.map nV=(L.map fun k:Nat=>(k:Int)).map V.int:=by rw[List.map_map];rfl
    dsimp only[ZH];refine⟨_,rfl,_,rfl,d,_,rfl,.inr ⟨kv2,k3t t,tk,.inl f1,rfl,htp,z1.symm⟩,a,L.map fun k:Nat=>(k:Int),rfl,by rw[←eLn];exact z2,by rw[YLD];omega,fun pl ns' hpl hperm uE=>?_⟩;obtain⟨L',rfl,q1,q2⟩:=YKk hperm uE;have spl:=YI.upd (o:=.lst ((L'.map fun k:Nat=>(k:Int)).map V.int)) hpl;have hdp:d≠pl:=Ya f1 hpl;refine⟨_,rfl,_,rfl,d,_,rfl,.inr ⟨kv2,k3t t,tk,spl _ _ f1,rfl,spl _ _ htp,?_,rfl⟩,?_⟩
    ·have:kv2.length=kvE.length:=by
      have:=congrArg List.length f2;rw[YLD,YLD]at this;exact this
     rw[sizeLine_eq];omega
    ·have hd0:H d=none:=g2.nd;have kt:∀c ys,H3 c=some (.tup ys)→upd (upd H3 pl (.lst ((L'.map fun k:Nat=>(k:Int)).map V.int))) d (.dT (Y4 kv2 (k3t t) (.ref pl))) c=some (.tup ys):=fun c ys z=>by rw[YE (Yr z f1 nofun)];exact spl _ _ z
     have kl:∀c ys,H3 c=some (.lst ys)→upd (upd H3 pl (.lst ((L'.map fun k:Nat=>(k:Int)).map V.int))) d (.dT (Y4 kv2 (k3t t) (.ref pl))) c=some (.lst ys):=fun c ys z=>by rw[YE (Yr z f1 nofun)];exact spl _ _ z
     refine⟨_,_,rfl,YB,(YFN z1 _).trans f2,(f3.trans spl).put hd0,kl _ _ f4,⟨f5.1,fun i' t' kv' y1 y2=>kt _ _ (f5.2 i' t' kv' y1 y2)⟩,fun b' o' e=>?_,fun t'=>?_⟩
     ·by_cases hb':b'=d
      ·exact .inl hb'
      ·rw[YE hb']at e;exact(Yt rfl b' o' e).elim (f6 b' o') .inr
     ·by_cases htt:t'=t
      ·subst htt;refine⟨L',q1.trans p1,fun _=>q2,.inr ⟨pl,by rw[Z6,if_pos rfl],?_⟩⟩;rw[YE hdp.symm,YB,List.map_map];rfl
      ·obtain⟨M,m1,m2,m3⟩:=f7 t';refine⟨M,m1,fun hin=>m2 ?_,?_⟩
       ·rw[YLf,YLI,ekv]at hin;rcases List.mem_append.mp hin with z |z
        ·exact z
        ·have:k3t t'=kv.1:=List.mem_singleton.mp z;rw[et]at this;exact absurd (YFO _ _ this) htt
       ·rw[Z6,if_neg (fun z=>htt (YFO _ _ z))];exact m3.imp id fun⟨c,y1,y2⟩=>⟨c,y1,kl _ _ y2⟩
   ·rintro σ H3 ⟨kv2,v3,rfl,f1,f2,f3,f4,f5,f6,f7⟩;refine⟨_,rfl,d,kv2,f1,fun ob=>?_⟩;have hd0:H d=none:=g2.nd;have kl:∀c ys,H3 c=some (.lst ys)→upd H3 d (.frz ob (.dT kv2)) c=some (.lst ys):=fun c ys z=>by rw[YE (Yr z f1 nofun)];exact z
    refine q d _ ⟨ob,kv2,YB,fun r dd ii=>?_⟩ (f3.put hd0) fun b' o' e=>?_
    ·obtain⟨L,p1,p2,p3⟩:=f7 (r,dd,ii);have hbb:∀k,Nd.beg r dd ii k∈nds→k≤n:=fun k=>hb r dd ii k
     rcases p3 with ⟨z1,rfl⟩ |⟨a,z1,z2⟩
     ·exact .inl ⟨(YCk hbb hnd p1 List.Pairwise.nil).symm,z1⟩
     ·have hin:k3t (r,dd,ii)∈(kvE.map (·.1)).take (ts.map V.ref).length:=by
       rw[List.take_of_length_le (by rw[YLD,YLD,hts.1];exact YLG _),←f2];exact YAl.mp (by rw[z1];rfl)
      rw[←YCk hbb hnd p1 (p2 hin)];exact .inr ⟨a,z1,kl _ _ z2⟩
    ·by_cases hb':b'=d
     ·subst hb';rw[YB]at e;cases e;rfl
     ·rw[YE hb']at e;exact(f6 b' o' e).elim (fun z=>absurd z hb') id
end
inductive YGY (C:Addr) (vs:List V) (H:Hp) (Q:VK):Prop where
 |mk (x t:Addr) (g:YT) (z:Str) (nds:List Nd) (top:Option Nd) (p:Str) (i j:Nat) (h0_:vs=[.ref x,.ref t]) (h1_:YBC C H x g z nds top) (h2_:H t=some (.tup ((Yu (.part p i j)).map kV))) (h3_:isQ p=false) (h4_:Nd.part p i j∈nds) (h5_:∀a H',YDk H' a (Yi g z.cps.size (inB nds) (.part p i j))→H a=none→YI H H'→Ys H H'→Q (.ref a) H'):YGY C vs H Q
def YIW (C:Addr):Sp:=fun vs H Q E_=>YGY C vs H Q
inductive YGZ (C:Addr) (vs:List V) (H:Hp) (Q:VK):Prop where
 |mk (x t:Addr) (g:YT) (z:Str) (nds:List Nd) (top:Option Nd) (r d i j:Nat) (h0_:vs=[.ref x,.ref t]) (h1_:YBC C H x g z nds top) (h2_:H t=some (.tup ((Yu (.beg r d i j)).map kV))) (h3_:Nd.beg r d i j∈nds) (h4_:∀a H',YDk H' a (Yi g z.cps.size (inB nds) (.beg r d i j))→H a=none→YI H H'→Ys H H'→Q (.ref a) H'):YGZ C vs H Q
def YIX (C:Addr):Sp:=fun vs H Q E_=>YGZ C vs H Q
inductive YIY (C:Addr) (vs:List V) (H:Hp) (Q:VK):Prop where
 |mk (x t:Addr) (g:YT) (z:Str) (nds:List Nd) (top:Option Nd) (k:List Key) (h0_:vs=[.ref x,.ref t]) (h1_:YBC C H x g z nds top) (h2_:H t=some (.tup (k.map kV))) (h3_:(∀nd,k=Yu nd→nd∈nds→∀a H',YDk H' a (Yi g z.cps.size (inB nds) nd)→H a=none→YI H H'→Ys H H'→Q (.ref a) H')) (h4_:((∀nd∈nds,k≠Yu nd)→∀a H',YDk H' a []→H a=none→YI H H'→Ys H H'→Q (.ref a) H')):YIY C vs H Q
def YDo (C:Addr):Sp:=fun vs H Q E_=>YIY C vs H Q
section
variable {P:Program}{w:World}{K:W.Frag}{mg:Str→Option Value}{base:Heap}{C:Adr}
theorem Zh:YV ["self","node","found","number","whole"] ["self","node"] (YJ JD):=⟨rfl,rfl,rfl,by decide +kernel,rfl,by decide +kernel,by decide +kernel⟩
theorem YAr {f:Addr}{fd:FuncData} (F:Fun K "ways_of_name" "Wood.ways_of_name" JD f fd) (T:Txt K mg C):Y6 P w K mg base CX0 1 f fd ["self","node"] (YIW C.Wood):=by
 refine F.ok Zh (fun vs H Q E h=>?_) (fun cdv A outer s H vs Q E hr h=>?_)
 ·obtain⟨x,t,g,z,nds,top,p,i,j,rfl,_⟩:=h;rfl
 ·obtain⟨x,t,g,z,nds,top,p,i,j,rfl,wd,ht,hq,hin,q⟩:=h;have hu:=JP hr;refine⟨_,(YF (YK (i:=2) Zh.nd rfl (Or.inl rfl) (Y0 YC))
   (YF (ZQ PassesOwn.never rfl (JE K rfl (Xe hu (Yh K rfl (pv 0) rfl) (YM (YS K rfl) (pv 1) YD (fun _ _=>rfl)) (fun _ _=>rfl))) (Yd (i:=3) Zh.nd rfl (Or.inl rfl)) (YF (YK (i:=4) Zh.nd rfl (Or.inl rfl) (Yy (Y9 (pv 3) (Y9 (YR (YQ K rfl) (by rfl) T.aD PyProof.Rows.Boot.«len» (YA (YM (YS K rfl) (YM (YW K rfl) (Yh K rfl (pv 0) rfl) (pv 3) (fun _ _=>rfl)) YD (fun _ _=>rfl)) YC)) (Y9 (YM (YS K rfl) (pv 1) YD (fun _ _=>rfl)) (Y9 (YM (YS K rfl) (pv 1) YD (fun _ _=>rfl)) YC))))))
   (YG (Y3 (Xn (YHB hu (pv 4) (Yh K rfl (pv 0) rfl))) (YG (Yk (ZV K rfl PySem.F.plainAttrs_list PySem.F.slot_list_append PySem.F.type_list_append Yl (pv 2) (YA (Yy (YA (pv 4) YC)) YC)))) Yc))))
   (YG (YX (pv 2))))),?_⟩
  obtain⟨dx,l,an,af,ae,rv,xs,hx,hl,hds,⟨kvN,hn1,hn2⟩,htop,⟨obF,kvF,hf1,hf2⟩,hen⟩:=wd.ex;have ht:H t=some (.tup [.str p,nV i,nV j]):=ht;obtain⟨c,e1,e2⟩:∃c,Yw kvN (.inr p)=some (.ref c)∧H c=some (.lst ((Zz g p).map nV)):=by
   rcases hn2 p with ⟨e,_⟩ |h
   ·exact absurd e (YHV (YKm (wd.lg _ hin) hq))
   ·exact h
  have hrl:(Zz g p).length≤60:=by
   have h1:(Zz g p).length≤(List.range g.length).length:=List.length_filter_le _ _;rw[List.length_range]at h1;have:=YAH wd.gr;omega
  refine⟨YH (YLN _),fun fl hfl=>?_⟩;have s0:=YI.upd (o:=.lst []) hfl;refine⟨_,rfl,x,C.Wood,dx,_,_,rfl,s0 _ _ hx,T.ak,T.dC,rfl,_,rfl,t,_,0,_,rfl,rfl,SqT.of (s0 _ _ ht),rfl,an,.ref c,rfl,.inl ⟨kvN,.inr p,.inl (s0 _ _ hn1),rfl,e1.symm⟩,c,rfl,⟨_,SqL.of (s0 _ _ e2)⟩,?_⟩;refine XH (K:=K) (a:=c) (xs:=(Zz g p).map nV) (fun m σ H2=>∃(bs:List Addr) (v3 v4:Option V),σ=[some (.ref x),some (.ref t),some (.ref fl),v3,v4]∧H2 fl=some (.lst (bs.map V.ref))∧Jx H2 bs ((((Zz g p).take m).filter fun r=>inB nds (.beg r (YBB g r) i j)).map fun r=>[.beg r (YBB g r) i j])∧bs.length≤m∧YI H H2∧Ys H H2)
   ⟨[],none,none,rfl,YB,.nil,YLG _,s0,Ys.upd rfl⟩ (fun m σ H2 _ ⟨bs,v3,v4,_,_,_,_,s2,_⟩=>SqL.of (s2 _ _ e2)) ?_ ?_
  ·rintro m v σ H2 hm ⟨bs,v3,v4,rfl,iC,wl,hbl,s2,n2⟩;have hml:m < (Zz g p).length:=by
    have:=(List.getElem?_eq_some_iff.mp hm).1;rw[YLD]at this;exact this
   rw[YLI]at hm;obtain⟨r,hr',rfl⟩:=Option.map_eq_some_iff.mp hm;obtain⟨ru,er,_⟩:=YCm.mp (YLH hr');obtain⟨tt,pp,ax,htt,hpp⟩:=Zr hds er;have elr:=lenR_of er;dsimp only[ZH];refine⟨_,rfl,_,rfl,x,C.Wood,dx,_,_,rfl,s2 _ _ hx,T.ak,T.aM,rfl,_,rfl,l,_,_,_,rfl,rfl,SqL.of (s2 _ _ hl),ax,tt,_,1,_,rfl,rfl,SqT.of (s2 _ _ htt),rfl,pp,_,rfl,.inr (SqT.of (s2 _ _ hpp)),_,rfl,t,_,1,_,rfl,rfl,SqT.of (s2 _ _ ht),rfl,_,rfl,t,_,2,_,rfl,rfl,SqT.of (s2 _ _ ht),rfl,YH (by show 4≤1000;decide),fun tw htw=>?_⟩;have eo:HO.tup [nV r,V.int (((ru.2.1.map V.str).length:Nat):Int),nV i,nV j]=.tup ((Yu (.beg r (YBB g r) i j)).map kV):=by rw[YLD,←elr];rfl
   have z1:YI H2 (upd H2 tw (.tup [nV r,V.int (((ru.2.1.map V.str).length:Nat):Int),nV i,nV j])):=YI.upd htw;have n1:Ys H2 (upd H2 tw (.tup [nV r,V.int (((ru.2.1.map V.str).length:Nat):Int),nV i,nV j])):=Ys.upd rfl;have hw:upd H2 tw (.tup [nV r,V.int (((ru.2.1.map V.str).length:Nat):Int),nV i,nV j]) tw=some (.tup ((Yu (.beg r (YBB g r) i j)).map kV)):=by rw[←eo];exact YB
   revert z1 n1 hw;generalize upd H2 tw (.tup [nV r,V.int (((ru.2.1.map V.str).length:Nat):Int),nV i,nV j])=H3;intro z1 n1 hw;have s3:=s2.trans z1;refine⟨_,rfl,_,rfl,x,C.Wood,dx,_,_,rfl,s3 _ _ hx,T.ak,T.aN,rfl,af,_,rfl,.inr ⟨kvF,_,tw,.inr ⟨obF,s3 _ _ hf1⟩,rfl,hw,rfl⟩,_,rfl,?_⟩;rw[hf2.val];have wt:=YEr hr' (fun r=>inB nds (.beg r (YBB g r) i j)) fun r=>[.beg r (YBB g r) i j]
   cases hb:inB nds (.beg r (YBB g r) i j) with
   |false=>
    refine ZL ⟨bs,_,_,rfl,z1 _ _ iC,?_,by omega,s3,n2.trans n1⟩;rw[wt,hb,if_neg YLT,YLW];exact wl.keep fun _ _=>z1 _ _
   |true=>
    refine Ze ⟨_,rfl,.inl ⟨rfl,_,SqL.of (z1 _ _ iC)⟩,_,rfl,YH (by show 1≤1000;decide),fun t1 ht1=>?_⟩;have z2:=YI.upd (o:=.tup [.ref tw]) ht1;refine⟨fl,_,_,rfl,rfl,z2 _ _ (z1 _ _ iC),by rw[YLD,sizeLine_eq];omega,?_⟩;have kt:∀a ys,upd H3 t1 (.tup [.ref tw]) a=some (.tup ys)→upd (upd H3 t1 (.tup [.ref tw])) fl (.lst (bs.map V.ref ++ [.ref t1])) a=some (.tup ys):=fun a ys e=>by rw[YE (Yr e (z2 _ _ (z1 _ _ iC)) nofun)];exact e
    refine⟨bs ++ [t1],_,_,rfl,by rw[YB,YLK];rfl,?_,by rw[YLE];exact Nat.succ_le_succ hbl,(s3.trans z2).put hfl,(n2.trans n1).trans ((Ys.upd rfl).trans (Ys.upd rfl))⟩;rw[wt,hb,if_pos rfl];exact((wl.keep fun _ _ e=>z2 _ _ (z1 _ _ e)).snoc (ts:=[tw]) YB (ZM.snoc (ts:=[]) (ns:=[]) ⟨rfl,fun i t x e=>nomatch e⟩ (z2 _ _ hw))).keep kt
  ·rintro σ H2 ⟨bs,v3,v4,rfl,iC,wl,hbl,s2,n2⟩;refine⟨_,rfl,q fl H2 ⟨bs,iC,?_⟩ hfl s2 n2⟩;rw[YLD,List.take_length]at wl;rw[Yi,hq,if_neg YLT];exact wl
theorem YZ:YV ["self","node","number","shorter","begin","end","part","found","middle","last"] ["self","node"] (YJ Zl):=⟨rfl,rfl,rfl,by decide +kernel,rfl,by decide +kernel,by decide +kernel⟩
theorem Xa {f:Addr}{fd:FuncData} (F:Fun K "ways_of_beginning" "Wood.ways_of_beginning" Zl f fd) (T:Txt K mg C):Y6 P w K mg base CX0 1 f fd ["self","node"] (YIX C.Wood):=by
 refine F.ok YZ (fun vs H Q E h=>?_) (fun cdv A outer s H vs Q E hr h=>?_)
 ·obtain⟨x,t,g,z,nds,top,r,d,i,j,rfl,_⟩:=h;rfl
 ·obtain⟨x,t,g,z,nds,top,r,d,i,j,rfl,wd,ht,hin,q⟩:=h;have hu:=JP hr;refine⟨_,(YF (YK (i:=2) YZ.nd rfl (Or.inl rfl) (YM (YS K rfl) (pv 1) YD (fun _ _=>rfl)))
   (YF (YK (i:=3) YZ.nd rfl (Or.inl rfl) (YN YE6 (YM (YS K rfl) (pv 1) YD (fun _ _=>rfl)) YD))
   (YF (YK (i:=4) YZ.nd rfl (Or.inl rfl) (YM (YS K rfl) (pv 1) YD (fun _ _=>rfl)))
   (YF (YK (i:=5) YZ.nd rfl (Or.inl rfl) (YM (YS K rfl) (pv 1) YD (fun _ _=>rfl)))
   (YF (Y3 (Ye YBg (pv 3) YD (Yf _)) (YG (YX (Y0 (YA (Yy YC) YC)))) Yc)
   (YF (YK (i:=6) YZ.nd rfl (Or.inl rfl) (YM (YS K rfl) (YM (YS K rfl) (YM (YW K rfl) (Yh K rfl (pv 0) rfl) (pv 2) (fun _ _=>rfl)) YD (fun _ _=>rfl)) (pv 3) (fun _ _=>rfl)))
   (YF (YK (i:=7) YZ.nd rfl (Or.inl rfl) (Y0 YC))
   (YF (ZQ PassesOwn.never rfl (JE K rfl (Xe hu (Yh K rfl (pv 0) rfl) (Yy (YA (pv 2) (YA (pv 3) (YA (pv 4) YC)))) (fun _ _=>rfl))) (Yd (i:=8) YZ.nd rfl (Or.inl rfl)) (YF (YK (i:=9) YZ.nd rfl (Or.inl rfl) (Yy (YA (pv 6) (YA (pv 8) (YA (pv 5) YC)))))
   (YG (Y3 (Xn (YHB hu (pv 9) (Yh K rfl (pv 0) rfl))) (YG (Yk (ZV K rfl PySem.F.plainAttrs_list PySem.F.slot_list_append PySem.F.type_list_append Yl (pv 7) (YA (Yy (YA (Yy (Y9 (pv 2) (Y9 (pv 3) (Y9 (pv 4) (Y9 (pv 8) YC))))) (YA (pv 9) YC))) YC)))) Yc))))
   (YG (YX (pv 7))))))))))),?_⟩
  obtain⟨dx,l,an,af,ae,rv,xs,hx,hl,hds,hnum,htop,⟨obF,kvF,hf1,hf2⟩,⟨obE,kvE,he1,he2⟩⟩:=wd.ex;have ht:H t=some (.tup [nV r,nV d,nV i,nV j]):=ht;have sq:=SqT.of (K:=K) ht;refine⟨_,rfl,t,_,0,_,rfl,rfl,sq,rfl,_,rfl,t,_,1,_,rfl,rfl,sq,rfl,_,_,rfl,rfl,_,rfl,t,_,2,_,rfl,rfl,sq,rfl,_,rfl,t,_,3,_,rfl,rfl,sq,rfl,_,rfl,_,_,rfl,rfl,_,rfl,?_⟩;cases d with
  |zero=>
   rw[decide_eq_true (show((0:Nat):Int) - 1 < 0 by decide)];refine Ze ⟨YH (YLN _),fun t0 ht0=>⟨YH (by show 1≤1000;decide),fun fl hfl=>?_⟩⟩;have z1:=YI.upd (o:=.tup []) ht0;have z2:=YI.upd (o:=.lst [.ref t0]) hfl;refine q fl _ ⟨[t0],YB,?_⟩ (z1.free hfl) (z1.trans z2) ((Ys.upd rfl).trans (Ys.upd rfl));rw[Yi];exact Jx.nil.snoc (ts:=[]) (z2 _ _ YB) ⟨rfl,fun i t x e=>nomatch e⟩
  |succ d=>
   have ed:((d + 1:Nat):Int) - 1=(d:Int):=by omega
   rw[decide_eq_false (show ¬((d + 1:Nat):Int) - 1 < 0 by omega)];obtain⟨⟨ru,er,hdl⟩,hij,hjc⟩:=wd.lg _ hin;obtain⟨tt,pp,ax,htt,hpp⟩:=Zr hds er;have hdl:d < ru.2.1.length:=hdl;have ep:ru.2.1[d]?=some ru.2.1[d]:=YLF hdl;generalize ru.2.1[d]=p at ep;have hpd:Jw g r d=p:=by unfold Jw ZD;rw[er];show(ru.2.1[d]?).getD ""=p;rw[ep];rfl
   have apd:atI (ru.2.1.map V.str) (((d + 1:Nat):Int) - 1)=some (.str p):=by rw[ed];exact ZT (j:=d) (by rw[YLI,ep];rfl)
   refine ZL ⟨_,rfl,x,C.Wood,dx,_,_,rfl,hx,T.ak,T.aM,rfl,_,rfl,l,_,_,_,rfl,rfl,SqL.of hl,ax,tt,_,1,_,rfl,rfl,SqT.of htt,rfl,_,rfl,pp,_,_,_,rfl,rfl,SqT.of hpp,apd,?_⟩;refine⟨YH (YLN _),fun fl hfl=>?_⟩;have s0:=YI.upd (o:=.lst []) hfl;obtain⟨c,e1,e2⟩:∃c,Yw kvE (k3 r d i)=some (.ref c)∧H c=some (.lst ((J2 (inB nds) z.cps.size r d i).map nV)):=by
    rcases he2 r d i with ⟨e,_⟩ |h
    ·obtain⟨k,hk⟩:=wd.be r d i j hin;have lk:=wd.lg _ hk;have:k∈J2 (inB nds) z.cps.size r d i:=List.mem_filter.mpr ⟨List.mem_range.mpr (by have:=lk.2.2;rw[YLc]at this;omega),decide_eq_true hk⟩;rw[e]at this;cases this
    ·exact h
   have hel:(J2 (inB nds) z.cps.size r d i).length≤61:=by
    have h1:(J2 (inB nds) z.cps.size r d i).length≤(List.range (z.cps.size + 1)).length:=List.length_filter_le _ _;rw[List.length_range]at h1;have:=wd.tx;unfold Zg at this;rw[YLJ,decide_eq_true_eq]at this;omega
   refine⟨_,rfl,x,C.Wood,dx,_,_,rfl,s0 _ _ hx,T.ak,T.cY,rfl,_,rfl,_,rfl,_,rfl,YH (by show 3≤1000;decide),fun tk htk=>?_⟩;have sk:=YI.upd (o:=.tup [nV r,V.int (((d + 1:Nat):Int) - 1),nV i]) htk;have nk:Ys H (upd (upd H fl (.lst [])) tk (.tup [nV r,V.int (((d + 1:Nat):Int) - 1),nV i])):=(Ys.upd rfl).trans (Ys.upd rfl);have hk1:upd (upd H fl (.lst [])) tk (.tup [nV r,V.int (((d + 1:Nat):Int) - 1),nV i]) tk=some (.tup ((k3 r d i).map kV)):=by rw[YB,ed];rfl
   have tL:upd (upd H fl (.lst [])) tk (.tup [nV r,V.int (((d + 1:Nat):Int) - 1),nV i]) fl=some (.lst []):=sk _ _ YB;have s1:=s0.trans sk;revert s1 nk hk1 tL;generalize upd (upd H fl (.lst [])) tk (.tup [nV r,V.int (((d + 1:Nat):Int) - 1),nV i])=H1;intro nk hk1 tL s1;refine⟨ae,.ref c,rfl,.inr ⟨kvE,_,tk,.inr ⟨obE,s1 _ _ he1⟩,rfl,hk1,e1.symm⟩,c,rfl,⟨_,SqL.of (s1 _ _ e2)⟩,?_⟩;refine XH (K:=K) (a:=c) (xs:=(J2 (inB nds) z.cps.size r d i).map nV) (fun m σ H2=>∃(bs:List Addr) (v8 v9:Option V),σ=[some (.ref x),some (.ref t),some (nV r),some (V.int (((d + 1:Nat):Int) - 1)),some (nV i),some (nV j),some (.str p),some (.ref fl),v8,v9]∧H2 fl=some (.lst (bs.map V.ref))∧Jx H2 bs ((((J2 (inB nds) z.cps.size r d i).take m).filter fun k=>inB nds (.part (Jw g r d) k j)).map fun k=>[.beg r d i k,.part (Jw g r d) k j])∧bs.length≤m∧YI H H2∧Ys H H2)
    ⟨[],none,none,rfl,tL,.nil,YLG _,s1,nk⟩ (fun m σ H2 _ ⟨bs,v8,v9,_,_,_,_,s2,_⟩=>SqL.of (s2 _ _ e2)) ?_ ?_
   ·rintro m v σ H2 hm ⟨bs,v8,v9,rfl,iC,wl,hbl,s2,n2⟩;have hml:m < (J2 (inB nds) z.cps.size r d i).length:=by
     have:=(List.getElem?_eq_some_iff.mp hm).1;rw[YLD]at this;exact this
    rw[YLI]at hm;obtain⟨k,hk',rfl⟩:=Option.map_eq_some_iff.mp hm;dsimp only[ZH];refine⟨_,rfl,_,rfl,_,rfl,YH (by show 3≤1000;decide),fun tw htw=>?_⟩;have z1:YI H2 (upd H2 tw (.tup [.str p,nV k,nV j])):=YI.upd htw;have n1:Ys H2 (upd H2 tw (.tup [.str p,nV k,nV j])):=Ys.upd rfl;have hw:upd H2 tw (.tup [.str p,nV k,nV j]) tw=some (.tup ((Yu (.part (Jw g r d) k j)).map kV)):=by rw[hpd];exact YB
    revert z1 n1 hw;generalize upd H2 tw (.tup [.str p,nV k,nV j])=H3;intro z1 n1 hw;have s3:=s2.trans z1;refine⟨_,rfl,_,rfl,x,C.Wood,dx,_,_,rfl,s3 _ _ hx,T.ak,T.aN,rfl,af,_,rfl,.inr ⟨kvF,_,tw,.inr ⟨obF,s3 _ _ hf1⟩,rfl,hw,rfl⟩,_,rfl,?_⟩;rw[hf2.val];have wt:=YEr hk' (fun k=>inB nds (.part (Jw g r d) k j)) fun k=>[.beg r d i k,.part (Jw g r d) k j]
    cases hb:inB nds (.part (Jw g r d) k j) with
    |false=>
     refine ZL ⟨bs,_,_,rfl,z1 _ _ iC,?_,by omega,s3,n2.trans n1⟩;rw[wt,hb,if_neg YLT,YLW];exact wl.keep fun _ _=>z1 _ _
    |true=>
     refine Ze ⟨_,rfl,.inl ⟨rfl,_,SqL.of (z1 _ _ iC)⟩,_,rfl,_,rfl,_,rfl,_,rfl,YH (by show 4≤1000;decide),fun t1 ht1=>⟨_,rfl,YH (by show 2≤1000;decide),fun t2 ht2=>?_⟩⟩;have z2:=YI.upd (o:=.tup [nV r,V.int (((d + 1:Nat):Int) - 1),nV i,nV k]) ht1;have z3:=YI.upd (o:=.tup [.ref t1,.ref tw]) ht2;have h1:upd H3 t1 (.tup [nV r,V.int (((d + 1:Nat):Int) - 1),nV i,nV k]) t1=some (.tup ((Yu (.beg r d i k)).map kV)):=by rw[YB,ed];rfl
     have z4:=z1.trans (z2.trans z3);refine⟨fl,_,_,rfl,rfl,z4 _ _ iC,by rw[YLD,sizeLine_eq];omega,?_⟩;have nn:Ys H3 (upd (upd H3 t1 (.tup [nV r,V.int (((d + 1:Nat):Int) - 1),nV i,nV k])) t2 (.tup [.ref t1,.ref tw])):=(Ys.upd rfl).trans (Ys.upd rfl);have hw4:=z3 _ _ (z2 _ _ hw);have h14:=z3 _ _ h1;have h24:upd (upd H3 t1 (.tup [nV r,V.int (((d + 1:Nat):Int) - 1),nV i,nV k])) t2 (.tup [.ref t1,.ref tw]) t2=some (.tup [.ref t1,.ref tw]):=YB;revert z4 nn hw4 h14 h24;generalize upd (upd H3 t1 (.tup [nV r,V.int (((d + 1:Nat):Int) - 1),nV i,nV k])) t2 (.tup [.ref t1,.ref tw])=H4;intro z4 nn hw4 h14 h24;have kt:∀a ys,H4 a=some (.tup ys)→upd H4 fl (.lst (bs.map V.ref ++ [.ref t2])) a=some (.tup ys):=fun a ys e=>by rw[YE (Yr e (z4 _ _ iC) nofun)];exact e
     refine⟨bs ++ [t2],_,_,rfl,by rw[YB,YLK];rfl,?_,by rw[YLE];exact Nat.succ_le_succ hbl,(s2.trans z4).put hfl,(n2.trans n1).trans (nn.trans (Ys.upd rfl))⟩;rw[wt,hb,if_pos rfl];have nd0:ZM H4 [] []:=⟨rfl,fun i t x e=>nomatch e⟩;exact((wl.keep fun _ _ e=>z4 _ _ e).snoc (ts:=[t1,tw]) h24 ((nd0.snoc h14).snoc hw4)).keep kt
   ·rintro σ H2 ⟨bs,v8,v9,rfl,iC,wl,hbl,s2,n2⟩;refine⟨_,rfl,q fl H2 ⟨bs,iC,?_⟩ hfl s2 n2⟩;rw[YLD,List.take_length]at wl;rw[Yi];exact wl
theorem YFR:YV ["self","node"] ["self","node"] (YJ YAq):=⟨rfl,rfl,rfl,by decide +kernel,rfl,by decide +kernel,by decide +kernel⟩
theorem YFS {f:Addr}{fd:FuncData} (F:Fun K "ways" "Wood.ways" YAq f fd) (T:Txt K mg C) (aO:JT P w K mg CX0 1 C.Wood "ways_of_beginning" ["self","node"] (YIX C.Wood)) (bw:JT P w K mg CX0 1 C.Wood "ways_of_name" ["self","node"] (YIW C.Wood)):Y6 P w K mg base CX0 2 f fd ["self","node"] (YDo C.Wood):=by
 obtain⟨jD,jx,cL,cF,cM⟩:=aO.ok;obtain⟨mj,lH,eN,dM,eO⟩:=bw.ok;refine F.ok YFR (fun vs H Q E h=>?_) (fun cdv A outer s H vs Q E hr h=>?_)
 ·obtain⟨x,t,g,z,nds,top,k,rfl,_⟩:=h;rfl
 ·obtain⟨x,t,g,z,nds,top,k,rfl,wd,ht,q,q0⟩:=h;have hu:=JP hr;refine⟨_,(YF (Y3 (Xn (Jd hu (pv 1) (Yh K rfl (pv 0) rfl))) (YG (YX (Y0 YC))) Yc)
   (YF (Y3 (Ye Jq (YR (YQ K rfl) (by rfl) T.aD PyProof.Rows.Boot.«len» (YA (pv 1) YC)) YD (Yf _)) (YG (YX (ZZ (pv 0) T.ak cF (cL base) (hr.mono (by decide)) cM .nil Yg (YA (pv 1) YC)))) Yc)
   (YF (Y3 (Xo (ZV K rfl PySem.F.plainAttrs_str PySem.F.slot_str_startswith PySem.F.type_str_startswith YBq (YM (YS K rfl) (pv 1) YD (fun _ _=>rfl)) (YA Zj YC))) (YG (YX (Y0 (YA (Yy YC) YC)))) Yc)
   (YG (YX (ZZ (pv 0) T.ak dM (eN base) (hr.mono (by decide)) eO .nil Yg (YA (pv 1) YC))))))),?_⟩
  obtain⟨dx,l,an,af,ae,rv,xs,hx,hl,hds,hnum,htop,⟨obF,kvF,hf1,hf2⟩,hen⟩:=wd.ex;refine⟨_,rfl,_,rfl,x,C.Wood,dx,_,_,rfl,hx,T.ak,T.aN,rfl,af,_,rfl,.inr ⟨kvF,_,t,.inr ⟨obF,hf1⟩,rfl,ht,rfl⟩,_,rfl,?_⟩
  by_cases hk:∃nd∈nds,k=Yu nd
  case neg=>
   have hk':∀nd∈nds,k≠Yu nd:=fun nd h1 h2=>hk ⟨nd,h1,h2⟩
   rw[hf2.strange hk'];exact Ze ⟨YH (YLN _),fun fl hfl=>q0 hk' fl _ ⟨[],YB,.nil⟩ hfl (YI.upd hfl) (Ys.upd rfl)⟩
  case pos=>
   obtain⟨nd,hin,rfl⟩:=hk;rw[hf2.val,show inB nds nd=true from decide_eq_true hin];refine ZL ?_;cases nd with
   |beg r d i j=>
    have ht':H t=some (.tup [nV r,nV d,nV i,nV j]):=ht;refine⟨_,rfl,t,_,rfl,.inr (SqT.of ht'),rfl,_,rfl,?_⟩;rw[show decide (V.int (([nV r,nV d,nV i,nV j]:List V).length:Nat)=V.int 4)=true from decide_eq_true rfl];exact Ze ⟨_,rfl,x,dx,_,rfl,hx,rfl,_,rfl,x,t,g,z,nds,top,r,d,i,j,rfl,wd,ht,hin,fun a H' h1 h2 h3 h4=>q _ rfl hin a H' h1 h2 h3 h4⟩
   |part p i j=>
    have ht':H t=some (.tup [.str p,nV i,nV j]):=ht;refine⟨_,rfl,t,_,rfl,.inr (SqT.of ht'),rfl,_,rfl,?_⟩;rw[show decide (V.int (([.str p,nV i,nV j]:List V).length:Nat)=V.int 4)=false from decide_eq_false (fun h=>by injection h with h;have h:(3:Int)=4:=h;omega)];refine ZL ⟨_,rfl,t,_,0,_,rfl,rfl,SqT.of ht',rfl,rfl,p,"'",rfl,rfl,_,rfl,?_⟩;show if isQ p=true then _ else _
    cases hq:isQ p with
    |true=>
     refine Ze ⟨YH (YLN _),fun t0 ht0=>⟨YH (by show 1≤1000;decide),fun fl hfl=>?_⟩⟩;have z1:=YI.upd (o:=.tup []) ht0;have z2:=YI.upd (o:=.lst [.ref t0]) hfl;refine q _ rfl hin fl _ ⟨[t0],YB,?_⟩ (z1.free hfl) (z1.trans z2) ((Ys.upd rfl).trans (Ys.upd rfl));rw[Yi,if_pos hq];exact Jx.nil.snoc (ts:=[]) (z2 _ _ YB) ⟨rfl,fun i t x e=>nomatch e⟩
    |false=>exact ZL ⟨_,rfl,x,dx,_,rfl,hx,rfl,_,rfl,x,t,g,z,nds,top,p,i,j,rfl,wd,ht,hq,hin,fun a H' h1 h2 h3 h4=>q _ rfl hin a H' h1 h2 h3 h4⟩
end
inductive YIZ (C:Addr) (vs:List V) (H:Hp) (Q:VK):Prop where
 |mk (x f dx l an:Addr) (z:Str) (xs:List V) (g:YT) (o:Obj) (kvs:List (List Key×V)) (nds:List Nd) (h0_:vs=[.ref x,.ref f]) (h1_:H x=some (.ins C dx [("rules",.ref l),("text",.str z),("numbers",.ref an)])) (h2_:H l=some (.lst xs)) (h3_:Yb H xs (g.map ZS)) (h4_:Zg z=true) (h5_:H f=some (.frz o (.dT kvs))) (h6_:JG kvs nds) (h7_:∀v H',YBx H' v (YB0 g z.cps.size nds)→YI H H'→Ys H H'→Q v H'):YIZ C vs H Q
def YKp (C:Addr):Sp:=fun vs H Q E_=>YIZ C vs H Q
inductive YIa (C:Addr) (vs:List V) (H:Hp) (Q:VK):Prop where
 |mk (x:Addr) (g:YT) (z:Str) (nds:List Nd) (top:Option Nd) (h0_:vs=[.ref x]) (h1_:YBC C H x g z nds top) (h2_:(∀t,top=some t→t∈nds)) (h3_:nds.Nodup) (h4_:nds.length≤2100000) (h5_:YU H) (h6_:∀a o kvs nds' H',H' a=some (.frz o (.dT kvs))→JG kvs nds'→JN g z.cps.size (inB nds) top nds'→nds'.length≤nds.length→YI H H'→YU H'→Q (.ref a) H'):YIa C vs H Q
def YKq (C:Addr):Sp:=fun vs H Q E_=>YIa C vs H Q
inductive YKr (C:Addr) (vs:List V) (H:Hp) (Q:VK):Prop where
 |mk (x:Addr) (g:YT) (z:Str) (nds:List Nd) (top:Option Nd) (h0_:vs=[.ref x]) (h1_:YBC C H x g z nds top) (h2_:∀v,YBx H v top→Q v H):YKr C vs H Q
def spTop (C:Addr):Sp:=fun vs H Q E_=>YKr C vs H Q
inductive YEu (C:Addr) (vs:List V) (H:Hp) (Q:VK):Prop where
 |mk (x:Addr) (g:YT) (z:Str) (nds:List Nd) (top:Option Nd) (h0_:vs=[.ref x]) (h1_:YBC C H x g z nds top) (h2_:∀a ts H',H a=none→H' a=some (.lst (ts.map V.ref))→ZM H' ts nds→YI H H'→Ys H H'→Q (.ref a) H'):YEu C vs H Q
def YKs (C:Addr):Sp:=fun vs H Q E_=>YEu C vs H Q
inductive YIb (C:Addr) (CG:Addr) (CT:Addr) (vs:List V) (H:Hp) (Q:VK) (E:XK):Prop where
 |mk (H0:Hp) (x dx:Addr) (gv tv:V) (dg d:D) (h0_:vs=[.ref x,gv,tv]) (h1_:H x=some (.ins C dx [])) (h2_:H0 x=none) (h3_:YI H0 H) (h4_:YU H) (h5_:Den H0 gv dg) (h6_:dg.short=true) (h7_:Den H0 tv d) (h8_:d.short=true) (h9_:(∀g z,dg=Xi g→Yv g=true→d=.str z→Zg z=true→∀hs nds H',ZE g z.cps.toList hs→Ji g z.cps.toList hs→JN g z.cps.size (inB (hs.map (·.1))) (YB0 g z.cps.size (hs.map (·.1))) nds→YBC C H' x g z nds (YB0 g z.cps.size (hs.map (·.1)))→YI H0 H'→YU H'→Q .non H')) (rA:(JI dg=false→∀H',YI H0 H'→YU H'→E (.ref CG) none H')) (tM:(JI dg=true→Xh d=false→∀H',YI H0 H'→YU H'→E (.ref CT) none H')):YIb C CG CT vs H Q E
def YKt (C CG CT:Addr):Sp:=fun vs H Q E=>YIb C CG CT vs H Q E
section
variable {P:Program}{w:World}{K:W.Frag}{mg:Str→Option Value}{base:Heap}{C:Adr}
theorem YGa:YV ["self"] ["self"] (YJ YBc):=⟨rfl,rfl,rfl,by decide +kernel,rfl,by decide +kernel,by decide +kernel⟩
theorem YGb {f:Addr}{fd:FuncData} (F:Fun K "top" "Wood.top" YBc f fd) (T:Txt K mg C):Y6 P w K mg base CX0 1 f fd ["self"] (spTop C.Wood):=by
 refine F.ok YGa (fun vs H Q E h=>?_) (fun cdv A outer s H vs Q E hr h=>?_)
 ·obtain⟨x,g,z,nds,top,rfl,_⟩:=h;rfl
 ·obtain⟨x,g,z,nds,top,rfl,wd,q⟩:=h;refine⟨_,(YG (YX (Yh K rfl (pv 0) rfl))),?_⟩;obtain⟨dx,l,an,af,ae,rv,xs,hx,hl,hds,hnum,htop,hfd,hen⟩:=wd.ex;exact⟨_,rfl,x,C.Wood,dx,_,_,rfl,hx,T.ak,T.bj,rfl,q _ htop⟩
theorem YEE:YV ["self"] ["self"] (YJ YAL):=⟨rfl,rfl,rfl,by decide +kernel,rfl,by decide +kernel,by decide +kernel⟩
theorem YEF {f:Addr}{fd:FuncData} (F:Fun K "nodes" "Wood.nodes" YAL f fd) (T:Txt K mg C):Y6 P w K mg base CX0 1 f fd ["self"] (YKs C.Wood):=by
 refine F.ok YEE (fun vs H Q E h=>?_) (fun cdv A outer s H vs Q E hr h=>?_)
 ·obtain⟨x,g,z,nds,top,rfl,_⟩:=h;rfl
 ·obtain⟨x,g,z,nds,top,rfl,wd,q⟩:=h;refine⟨_,(YG (YX (Z2 (YAT rfl) (by rfl) T.eQ PyProof.Rows.Boot.«list» (YA (Yh K rfl (pv 0) rfl) YC)))),?_⟩;obtain⟨dx,l,an,af,ae,rv,xs,hx,hl,hds,hnum,htop,⟨obF,kvF,hf1,hf2⟩,hen⟩:=wd.ex;refine⟨_,rfl,x,C.Wood,dx,_,_,rfl,hx,T.ak,T.aN,rfl,af,kvF,rfl,.inr ⟨obF,hf1⟩,fun a ts ha hts=>?_⟩;have s0:=YI.upd (o:=.lst (ts.map V.ref)) ha;refine q a ts _ ha YB ⟨by rw[hts.1,hf2.len],fun i t y e1 e2=>?_⟩ s0 (Ys.upd rfl);obtain⟨kv,ekv⟩:∃kv,kvF[i]?=some kv:=⟨_,YLF (by rw[←hts.1];exact(List.getElem?_eq_some_iff.mp e1).1)⟩;have:=congrArg (fun l=>l[i]?) hf2;simp only[YLI,ekv,e2]at this;have e3:kv.1=Yu y:=Option.some.inj this;rw[←e3];exact s0 _ _ (hts.2 i t kv e1 ekv)
theorem Xk:YV ["self","heights","node"] ["self","heights"] (YJ Jj):=⟨rfl,rfl,rfl,by decide +kernel,rfl,by decide +kernel,by decide +kernel⟩
theorem YB1 {f:Addr}{fd:FuncData} (F:Fun K "find_root" "Wood.find_root" Jj f fd) (T:Txt K mg C):Y6 P w K mg base CX0 1 f fd ["self","heights"] (YKp C.Wood):=by
 refine F.ok Xk (fun vs H Q E h=>?_) (fun cdv A outer s H vs Q E hr h=>?_)
 ·obtain⟨x,f,dx,l,an,z,xs,g,o,kvs,nds,rfl,_⟩:=h;rfl
 ·obtain⟨x,f,dx,l,an,z,xs,g,o,kvs,nds,rfl,hx,hl,hds,hz,hf,hk,q⟩:=h;have hu:=JP hr;refine⟨_,(YF (Y3 (XF (YAy K rfl (Yh K rfl (pv 0) rfl) (fun _=>rfl))) (YG (YX YBL)) Yc)
   (YF (YK (i:=2) Xk.nd rfl (Or.inl rfl) (Yy (YA (YM (YS K rfl) (YM (YW K rfl) (Yh K rfl (pv 0) rfl) YD (fun _ _=>rfl)) YD (fun _ _=>rfl)) (YA YD (YA (YR Zw (by rfl) T.aD PyProof.Rows.Boot.«len» (YA (Yh K rfl (pv 0) rfl) YC)) YC)))))
   (YG (YX (YJf (Xn (YHB hu (pv 2) (pv 1))) (pv 2) YBL))))),?_⟩
  have hxl:xs.length=g.length:=by rw[hds.len,YLD]
  have htx:=hz;unfold Zg at htx;rw[YLJ,decide_eq_true_eq]at htx;cases g with
  |nil=>
   have:xs=[]:=List.length_eq_zero_iff.mp hxl;subst this;exact⟨_,rfl,x,C.Wood,dx,_,_,rfl,hx,T.ak,T.aM,rfl,false,.inl ⟨_,SqL.of hl,rfl⟩,Ze (q _ H (.inl ⟨rfl,rfl⟩) (YI.refl _) (Ys.refl _))⟩
  |cons r0 rest=>
   have hne:(!xs.isEmpty)=true:=by cases xs with |nil=>cases hxl |cons a b=>rfl
   obtain⟨tt,pp,ax,htt,hpp⟩:=Zr hds (k:=0) (r:=r0) rfl;refine⟨_,rfl,x,C.Wood,dx,_,_,rfl,hx,T.ak,T.aM,rfl,true,.inl ⟨_,SqL.of hl,hne.symm⟩,ZL ?_⟩;refine⟨_,rfl,x,C.Wood,dx,_,_,rfl,hx,T.ak,T.aM,rfl,l,_,_,_,rfl,rfl,SqL.of hl,ax,tt,_,0,_,rfl,rfl,SqT.of htt,rfl,_,rfl,x,C.Wood,dx,_,_,rfl,hx,T.ak,T.gq,rfl,z,rfl,YH (by have:z.length=z.cps.size:=rfl;omega),YH (by show 3≤1000;decide),fun tn htn=>?_⟩;have s0:=YI.upd (o:=.tup [.str r0.1,.int 0,.int (z.length:Int)]) htn;have hn:upd H tn (.tup [.str r0.1,.int 0,.int (z.length:Int)]) tn=some (.tup ((Yu (.part r0.1 0 z.cps.size)).map kV)):=YB;refine⟨_,rfl,_,rfl,f,_,rfl,.inr ⟨kvs,_,tn,.inr ⟨o,s0 _ _ hf⟩,rfl,hn,rfl⟩,_,rfl,?_⟩;rw[hk.val];cases hb:inB nds (.part r0.1 0 z.cps.size) with
   |false=>exact ZL (q _ _ (.inl ⟨if_neg (by rw[hb];exact YLT),rfl⟩) s0 (Ys.upd rfl))
   |true=>exact Ze ⟨_,rfl,q _ _ (.inr ⟨_,tn,if_pos hb,rfl,hn⟩) s0 (Ys.upd rfl)⟩
theorem ZP:YV ["self","found","waiting","upper","way","node"] ["self"] (YJ Jk):=⟨rfl,rfl,rfl,by decide +kernel,rfl,by decide +kernel,by decide +kernel⟩
theorem YB2 {f:Addr}{fd:FuncData} (F:Fun K "walk_down" "Wood.walk_down" Jk f fd) (T:Txt K mg C) (aB:JT P w K mg CX0 2 C.Wood "ways" ["self","node"] (YDo C.Wood)):Y6 P w K mg base CX0 3 f fd ["self"] (YKq C.Wood):=by
 obtain⟨dN,dm,aG,aC,aH⟩:=aB.ok;refine F.ok ZP (fun vs H Q E h=>?_) (fun cdv A outer s H vs Q E hr h=>?_)
 ·obtain⟨x,g,z,nds,top,rfl,_⟩:=h;rfl
 ·obtain⟨x,g,z,nds,top,rfl,wd,htn,hnd,hnl,hp,q⟩:=h;have hu:=JP hr;refine⟨_,(YF (YK (i:=1) ZP.nd rfl (Or.inl rfl) YAb)
   (YF (YK (i:=2) ZP.nd rfl (Or.inl rfl) (Y0 YC))
   (YF (Y3 (Ye op_notN (Yh K rfl (pv 0) rfl) YBL (Yf _)) (YF (YAC hu (pv 1) (Yh K rfl (pv 0) rfl) Xc rfl)
   (YG (Yk (ZV K rfl PySem.F.plainAttrs_list PySem.F.slot_list_append PySem.F.type_list_append Yl (pv 2) (YA (Yh K rfl (pv 0) rfl) YC))))) Yc)
   (YF (Xz PassesOwn.never (YAy K rfl (pv 2) (fun _=>rfl)) (YF (YK (i:=3) ZP.nd rfl (Or.inl rfl) (Xg K rfl PySem.F.plainAttrs_list PySem.F.slot_list_pop PySem.F.type_list_pop YCC (pv 2)))
   (YG (ZQ PassesOwn.never rfl (JE K rfl (ZZ (pv 0) T.ak aC (aG base) (hr.mono (by decide)) aH .nil Yg (YA (pv 3) YC))) (Yd (i:=4) ZP.nd rfl (Or.inl rfl)) (YG (ZQ PassesOwn.never rfl (Xf K rfl (pv 4)) (Yd (i:=5) ZP.nd rfl (Or.inl rfl)) (YG (Y3 (Xn (Jd hu (pv 5) (pv 1))) (YF (YAC hu (pv 1) (pv 5) Xc rfl)
   (YG (Yk (ZV K rfl PySem.F.plainAttrs_list PySem.F.slot_list_append PySem.F.type_list_append Yl (pv 2) (YA (pv 5) YC))))) Yc))))))))
   (YG (YX (YGH (pv 1)))))))),?_⟩
  obtain⟨dx,l,an,af,ae,rv,xs,hx,hl,hds,hnum,htop,hfd,hen⟩:=wd.ex;refine fun d hd=>⟨YH (YLN _),fun wl hwl=>?_⟩
  have s0:YI H (upd (upd H d (.dT [])) wl (.lst [])):=(YI.upd hd).trans (YI.upd hwl);have hdw:d≠wl:=Ya YB hwl;have hw0:H wl=none:=by rw[←hwl,YE hdw.symm]
  have f0:FSt H (upd (upd H d (.dT [])) wl (.lst [])) d wl [] []:=⟨s0,⟨[],by rw[YE hdw];exact YB,rfl⟩,⟨[],YB,rfl,fun i t x e=>nomatch e⟩,hd,hw0,fun b o e=>(Yt rfl b o e).elim (fun e=>(by by_cases hb:b=d;exact .inl hb;rw[YE hb]at e;exact .inr (hp b o e))) .inr⟩;revert f0;generalize upd (upd H d (.dT [])) wl (.lst [])=H1;intro f0;have hx1:=f0.sm _ _ hx;dsimp only[ZH];refine YGJ (fun σ' H'=>∃nds' wt v3,σ'=[some (.ref x),some (.ref d),some (.ref wl),v3,none,none]∧FSt H H' d wl nds' wt∧YGL g z.cps.size (inB nds) top nds' wt) ?_ fun rest=>?_
  case refine_2=>
   obtain⟨kvs0,hd1,hk1⟩:=f0.h;rcases htop with ⟨ht,rfl⟩ |⟨nt,tt,ht,rfl,htt⟩
   ·refine⟨_,rfl,x,C.Wood,dx,_,_,rfl,hx1,T.ak,T.bj,rfl,rfl,_,rfl,?_⟩;rw[show(!decide (V.non=V.non))=false from congrArg Bool.not (decide_eq_true rfl)];refine ZL (rest _ _ ⟨[],[],none,rfl,f0,List.nodup_nil,(fun x hx=>nomatch hx),(fun t e=>?_),fun _=>rfl,(fun x hx=>nomatch hx),(fun x hx=>nomatch hx),(fun x hx=>nomatch hx),List.nodup_nil⟩);rw[ht]at e;cases e
   ·refine⟨_,rfl,x,C.Wood,dx,_,_,rfl,hx1,T.ak,T.bj,rfl,rfl,_,rfl,?_⟩;rw[show(!decide (V.ref tt=V.non))=true from congrArg Bool.not (decide_eq_false (fun h=>by cases h))];have hn0:kvs0=[]:=by
     have:=hk1.len;exact List.length_eq_zero_iff.mp this
    subst hn0;refine Ze ⟨_,rfl,_,rfl,x,C.Wood,dx,_,_,rfl,hx1,T.ak,T.bj,rfl,d,_,rfl,YCD.t hd1 (f0.sm _ _ htt) (by rw[sizeLine_eq];decide),?_⟩;have f1:=f0.put hd1 (y:=nt) nofun (.bl true);revert f1;generalize upd H1 d (.dT (Y4 [] (Yu nt) (.bl true)))=H2;intro f1;obtain⟨ts1,hw1,hn1⟩:=f1.w;have hts:ts1=[]:=List.length_eq_zero_iff.mp hn1.1;subst hts;refine⟨_,rfl,.inl ⟨rfl,_,SqL.of hw1⟩,_,rfl,x,C.Wood,dx,_,_,rfl,f1.sm _ _ hx,T.ak,T.bj,rfl,wl,_,_,rfl,rfl,hw1,by rw[sizeLine_eq];decide,?_⟩;have f2:=f1.wait (ts':=[tt]) (wt':=[nt]) (ZM.snoc (ts:=[]) (ns:=[]) ⟨rfl,fun i t x e=>nomatch e⟩ (f1.sm _ _ htt));refine rest _ _ ⟨[] ++ [nt],[nt],none,rfl,f2,List.nodup_cons.mpr ⟨nofun,List.nodup_nil⟩,fun y hy=>?_,fun t e=>?_,fun e=>?_,fun y hy=>hy,fun y hy=>.inl hy,fun y hy=>?_,List.nodup_cons.mpr ⟨nofun,List.nodup_nil⟩⟩
    ·cases List.mem_singleton.mp hy;exact decide_eq_true (htn _ ht)
    ·rw[ht]at e;cases e;exact List.mem_singleton.mpr rfl
    ·rw[ht]at e;cases e
    ·cases List.mem_singleton.mp hy;exact⟨_,ht,.top⟩
  case refine_1=>
   rintro σ1 H2 ⟨nds1,wt1,v3,rfl,f1,w1⟩;refine⟨fun m σ H3=>∃nds' wt v3 v4 v5,σ=[some (.ref x),some (.ref d),some (.ref wl),v3,v4,v5]∧FSt H H3 d wl nds' wt∧YGL g z.cps.size (inB nds) top nds' wt∧m=2 * (nds.length - nds'.length) + wt.length,⟨_,nds1,wt1,v3,none,none,rfl,f1,w1,rfl⟩,?_⟩;rintro m σ H3 ⟨nds',wt,v3,v4,v5,rfl,f3,w3,rfl⟩;obtain⟨ts3,hw3,hn3⟩:=f3.w;have hle:nds'.length≤nds.length:=Z8 w3.nd fun y hy=>of_decide_eq_true (w3.sub y hy)
   rcases YA3 wt with rfl |⟨wt',u,rfl⟩
   ·have hts:ts3=[]:=List.length_eq_zero_iff.mp hn3.1;subst hts;refine⟨_,rfl,false,.inl ⟨_,SqL.of hw3,rfl⟩,ZL ?_⟩;obtain⟨kvs3,hd3,hk3⟩:=f3.h;refine⟨_,rfl,d,kvs3,hd3,fun o=>q d o kvs3 nds' _ YB hk3 w3.fin_ hle (f3.sm.put f3.nd) fun b u e=>?_⟩
    by_cases hb:b=d
    ·subst hb;rw[YB]at e;cases e;rfl
    ·rw[YE hb]at e;exact(f3.pl b u e).elim (fun z=>absurd z hb) id
   ·obtain⟨ts4,tu,rfl⟩:∃ts4 t4,ts3=ts4 ++ [t4]:=by
     rcases YA3 ts3 with rfl |h
     ·have:=hn3.1;rw[YLE]at this;simp at this
     ·exact h
    obtain⟨hn4,htu⟩:=hn3.pop;have pX:(!((ts4 ++ [tu]).map V.ref).isEmpty)=true:=by cases ts4 <;> rfl
    have hw4:H3 wl=some (.lst (ts4.map V.ref ++ [.ref tu])):=by rw[hw3,YLK];rfl
    refine⟨_,rfl,true,.inl ⟨_,SqL.of hw3,pX.symm⟩,Ze ⟨fun σ' H'=>∃m',m' < 2 * (nds.length - nds'.length) + (wt' ++ [u]).length∧∃nds' wt v3 v4 v5,σ'=[some (.ref x),some (.ref d),some (.ref wl),v3,v4,v5]∧FSt H H' d wl nds' wt∧YGL g z.cps.size (inB nds) top nds' wt∧m'=2 * (nds.length - nds'.length) + wt.length,fun _ _ z=>z,?_⟩⟩;refine⟨_,rfl,.inl ⟨rfl,_,SqL.of hw3⟩,wl,_,.ref tu,rfl,rfl,hw4,(by simp),?_⟩;rw[List.dropLast_concat];have f4:=f3.wait hn4;have tO:upd H3 wl (.lst (ts4.map V.ref)) tu=some (.tup ((Yu u).map kV)):=by rw[YE (Yr htu hw3 nofun)];exact htu
    revert f4 tO;generalize upd H3 wl (.lst (ts4.map V.ref))=H4;intro f4 tO;have hu3:u∈nds':=w3.wi u (YLO _ (List.mem_singleton.mpr rfl));have hun:u∈nds:=of_decide_eq_true (w3.sub u hu3);refine⟨_,rfl,x,dx,_,rfl,f4.sm _ _ hx,rfl,_,rfl,x,tu,g,z,nds,top,Yu u,rfl,wd.same f4.sm,tO,fun nd e hin a H5 h1 h2 h3 h4=>?_,fun hno=>absurd rfl (hno u hun)⟩;cases JF e;obtain⟨bs,hb5,wl5⟩:=h1;have f5:=f4.same h3 h4;obtain⟨_,hwz,_⟩:=f4.w;have haw:a≠wl:=(Ya hwz h2).symm;obtain⟨_,hdz,_⟩:=f4.h;have had:a≠d:=(Ya hdz h2).symm;refine⟨a,rfl,⟨_,SqL.of hb5⟩,XH (K:=K) (a:=a) (xs:=bs.map V.ref) (fun i σ H6=>∃new v4 v5,σ=[some (.ref x),some (.ref d),some (.ref wl),some (.ref tu),v4,v5]∧FSt H H6 d wl (nds' ++ new) (wt' ++ new)∧H6 a=some (.lst (bs.map V.ref))∧Jx H6 bs (Yi g z.cps.size (inB nds) u)∧WNew g z.cps.size (inB nds) top nds' new∧∀i' w,i' < i→(Yi g z.cps.size (inB nds) u)[i']?=some w→∀y∈w,y∈nds' ++ new)
     ⟨[],v4,v5,rfl,by rw[YLW,YLW];exact f5,hb5,wl5,⟨by rw[YLW];exact w3.nd,(fun y hy=>nomatch hy)⟩,(fun i' w hi=>nomatch hi)⟩ (fun i σ H6 _ ⟨new,v4,v5,_,_,h,_⟩=>SqL.of h) ?_ ?_⟩
    ·rintro i v σ H6 hi ⟨new,v4,v5,rfl,f6,ha6,wl6,wn6,hc6⟩;rw[YLI]at hi;obtain⟨b,hbi,rfl⟩:=Option.map_eq_some_iff.mp hi;obtain⟨w,hwi⟩:∃w,(Yi g z.cps.size (inB nds) u)[i]?=some w:=⟨_,YLF (by rw[←wl6.1];exact(List.getElem?_eq_some_iff.mp hbi).1)⟩;have hwm:=YLH hwi;obtain⟨ts,hb6,hn6⟩:=wl6.2 i b w hbi hwi;dsimp only[ZH];refine⟨_,rfl,b,rfl,⟨_,SqT.of hb6⟩,YE5 (K:=K) (a:=b) (xs:=ts.map V.ref) (fun j σ H7=>∃new v5,σ=[some (.ref x),some (.ref d),some (.ref wl),some (.ref tu),some (.ref b),v5]∧FSt H H7 d wl (nds' ++ new) (wt' ++ new)∧H7 a=some (.lst (bs.map V.ref))∧Jx H7 bs (Yi g z.cps.size (inB nds) u)∧H7 b=some (.tup (ts.map V.ref))∧ZM H7 ts w∧WNew g z.cps.size (inB nds) top nds' new∧(∀i' w,i' < i→(Yi g z.cps.size (inB nds) u)[i']?=some w→∀y∈w,y∈nds' ++ new)∧∀j' y,j' < j→w[j']?=some y→y∈nds' ++ new)
      ⟨new,v5,rfl,f6,ha6,wl6,hb6,hn6,wn6,hc6,(fun j' y hj=>nomatch hj)⟩ (fun j σ H7 _ ⟨new,v5,_,_,_,_,h,_⟩=>SqT.of h) ?_ ?_⟩
     ·rintro j v σ H7 hj ⟨new,v5,rfl,f7,ha7,wl7,hb7,hn7,wn7,hc7,hj7⟩;rw[YLI]at hj;obtain⟨tn,htn,rfl⟩:=Option.map_eq_some_iff.mp hj;obtain⟨y,hy⟩:∃y,w[j]?=some y:=⟨_,YLF (by rw[←hn7.1];exact(List.getElem?_eq_some_iff.mp htn).1)⟩;have hty:=hn7.2 j tn y htn hy;obtain⟨kv7,hd7,hk7⟩:=f7.h;have hym:=YLH hy;dsimp only[ZH];refine⟨_,rfl,_,rfl,d,_,rfl,Jz.t hd7 hty,_,rfl,?_⟩;rw[hk7.val];have upto:∀{new':List Nd},(∀c∈nds' ++ new,c∈nds' ++ new')→y∈nds' ++ new'→∀j' y',j' < j + 1→w[j']?=some y'→y'∈nds' ++ new':=fun hm hin j' y' hlt e=>by
       by_cases hjj:j'=j
       ·subst hjj;rw[hy]at e;cases e;exact hin
       ·exact hm _ (hj7 j' y' (by omega) e)
      by_cases pZ:y∈nds' ++ new
      ·rw[show inB (nds' ++ new) y=true from decide_eq_true pZ];exact ZL ⟨new,_,rfl,f7,ha7,wl7,hb7,hn7,wn7,hc7,upto (fun c h=>h) pZ⟩
      ·rw[show inB (nds' ++ new) y=false from decide_eq_false pZ];have hfy:inB nds y=true:=YDj hwm hym;have vo:(nds' ++ new).length≤nds.length:=Z8 wn7.nd fun c hc=>of_decide_eq_true ((List.mem_append.mp hc).elim (w3.sub c) fun z=>(wn7.why c z).1)
       refine Ze ⟨_,rfl,_,rfl,d,_,rfl,YCD.t hd7 hty (by rw[sizeLine_eq,hk7.len];omega),?_⟩;have f8:=f7.put hd7 pZ (.bl true);have kt:∀c ys,H7 c=some (.tup ys)→upd H7 d (.dT (Y4 kv7 (Yu y) (.bl true))) c=some (.tup ys):=fun c ys e=>by rw[YE (Yr e hd7 nofun)];exact e
       have ha8:upd H7 d (.dT (Y4 kv7 (Yu y) (.bl true))) a=some (.lst (bs.map V.ref)):=by rw[YE had];exact ha7
       revert f8 kt ha8;generalize upd H7 d (.dT (Y4 kv7 (Yu y) (.bl true)))=H8;intro f8 kt ha8;obtain⟨ts8,hw8,hn8⟩:=f8.w;have wF:wt'.length≤nds'.length:=Z8 (List.nodup_append.mp w3.wn).1 fun c hc=>w3.wi c (YLU _ hc)
       refine⟨_,rfl,.inl ⟨rfl,_,SqL.of hw8⟩,_,rfl,wl,_,_,rfl,rfl,hw8,?_,?_⟩
       ·rw[YLD,hn8.1,YLE,sizeLine_eq];rw[YLE]at vo;omega
       ·have f9:=f8.wait (hn8.snoc (kt _ _ hty));have e9:(ts8 ++ [tn]).map V.ref=ts8.map V.ref ++ [V.ref tn]:=by rw[YLK];rfl
        rw[e9]at f9;have kt2:∀c ys,H8 c=some (.tup ys)→upd H8 wl (.lst (ts8.map V.ref ++ [.ref tn])) c=some (.tup ys):=fun c ys e=>by rw[YE (Yr e hw8 nofun)];exact e
        obtain⟨tp,htp,hrp⟩:=w3.why u hu3;refine⟨new ++ [y],_,rfl,by rw[←YLQ,←YLQ];exact f9,by rw[YE haw];exact ha8,wl7.keep fun c ys e=>kt2 _ _ (kt _ _ e),kt2 _ _ (kt _ _ hb7),hn7.keep fun c ys e=>kt2 _ _ (kt _ _ e),wn7.snoc pZ ⟨hfy,tp,htp,.step hrp hwm hym⟩,fun i' w' hlt e y' hy'=>?_,upto (fun c hc=>?_) ?_⟩
        ·have:=hc7 i' w' hlt e y' hy';rw[←YLQ];exact YLU _ this
        ·rw[←YLQ];exact YLU _ hc
        ·rw[←YLQ];exact YLO _ (List.mem_singleton.mpr rfl)
     ·rintro σ H7 ⟨new,v5,rfl,f7,ha7,wl7,hb7,hn7,wn7,hc7,hj7⟩;refine⟨new,_,_,rfl,f7,ha7,wl7,wn7,fun i' w' hlt e y hy=>?_⟩
      by_cases hii:i'=i
      ·subst hii;rw[hwi]at e;cases e;obtain⟨j',hj'⟩:=List.getElem?_of_mem hy;exact hj7 j' y (by rw[YLD,hn7.1];exact(List.getElem?_eq_some_iff.mp hj').1) hj'
      ·exact hc7 i' w' (by omega) e y hy
    ·rintro σ H6 ⟨new,v4,v5,rfl,f6,ha6,wl6,wn6,hc6⟩;have vp:(nds' ++ new).length≤nds.length:=Z8 wn6.nd fun c hc=>of_decide_eq_true ((List.mem_append.mp hc).elim (w3.sub c) fun z=>(wn6.why c z).1)
     refine⟨2 * (nds.length - (nds' ++ new).length) + (wt' ++ new).length,?_,nds' ++ new,wt' ++ new,_,_,_,rfl,f6,w3.next wn6 fun w hw y hy=>?_,rfl⟩
     ·rw[YLE,YLE,YLE];rw[YLE]at vp;show _ < 2 * (nds.length - nds'.length) + (wt'.length + 1);omega
     ·obtain⟨i',hi'⟩:=List.getElem?_of_mem hw;exact hc6 i' w (by rw[YLD,wl6.1];exact(List.getElem?_eq_some_iff.mp hi').1) hi' y hy
theorem X6:YV ["self","grammar","text","heights"] ["self","grammar","text"] (YJ J1):=⟨rfl,rfl,rfl,by decide +kernel,rfl,by decide +kernel,by decide +kernel⟩
theorem YCR {f:Addr}{fd:FuncData} (F:Fun K "__init__" "Wood.__init__" J1 f fd) (T:Txt K mg C) (bM:Zq P w K mg (CXo P w) 8 "standing" ["grammar","text"] (YBb C.NoGrammar C.NoText)) (b7:Zq P w K mg (CXo P w) 7 "checked" ["thing"] (YCI C.NoGrammar)) (aU:Zq P w K mg (CXo P w) 3 "checked_text" ["thing"] (YBQ C.NoText)) (bH:Zq P w K mg CX0 1 "numbers_by_head" ["rules"] (YKo)) (bc:Zq P w K mg CX0 1 "ends_of_beginnings" ["nodes"] (YIV)) (bN:JT P w K mg CX0 1 C.Wood "find_root" ["self","heights"] (YKp C.Wood)) (bO:JT P w K mg CX0 3 C.Wood "walk_down" ["self"] (YKq C.Wood)):Y6 P w K mg base (CXo P w) 9 f fd ["self","grammar","text"] (YKt C.Wood C.NoGrammar C.NoText):=by
 obtain⟨mR,lJ,e_,gb,gf,gh⟩:=bM.ok;obtain⟨n_,mL,iw,iy,iz,iB⟩:=b7.ok;obtain⟨jb,iT,cj,cu,cz,cA⟩:=aU.ok;obtain⟨m_,mU,gF,gG,gH,gJ⟩:=bH.ok;obtain⟨lK,lz,bR,bT,bU,bV⟩:=bc.ok;obtain⟨ph,ni,iD,gK,iG⟩:=bN.ok;obtain⟨pq,nj,iH,gM,iI⟩:=bO.ok;refine F.okX X6 (fun vs H Q E h=>?_) (fun cdv A outer s H vs Q E hr h=>?_)
 ·obtain⟨H0,x,dx,gv,tv,dg,d,rfl,_⟩:=h;rfl
 ·obtain⟨H0,x,dx,gv,tv,dg,d,rfl,hx,hx0,s0,hp,denG,shG,denT,shT,q,qG,qT⟩:=h;refine qex ?_;refine⟨_,(YO ⟨(YK (i:=3) X6.nd rfl (Or.inl rfl) (YY (e_ base) (hr.mono (by decide)) (by rfl) gb gf gh .nil XL.on (YA (pv 1) (YA (pv 2) YC))))⟩
   (YO ⟨(Zf K rfl (pv 0) (YY (iw base) (hr.mono (by decide)) (by rfl) iy iz iB .nil XL.on (YA (pv 1) YC)) rfl)⟩
   (YO ⟨(Zf K rfl (pv 0) (YY (cj base) (hr.mono (by decide)) (by rfl) cu cz cA .nil XL.on (YA (pv 2) YC)) rfl)⟩
   (YO ⟨(Zf K rfl (pv 0) (YY (gF base) (hr.mono (by decide)) (by rfl) gG gH gJ .nil Yg (YA (Yh K rfl (pv 0) rfl) YC)) rfl)⟩
   (YO ⟨(Zf K rfl (pv 0) (ZZ (pv 0) T.ak gK (iD base) (hr.mono (by decide)) iG .nil Yg (YA (pv 3) YC)) rfl)⟩
   (YO ⟨(Zf K rfl (pv 0) (pv 3) rfl)⟩
   (YO ⟨(Zf K rfl (pv 0) (YY (bR base) (hr.mono (by decide)) (by rfl) bT bU bV .nil Yg (YA (pv 3) YC)) rfl)⟩
   (YO ⟨(Zf K rfl (pv 0) (YBi (pv 0) T.ak gM (iH base) (hr.mono (by decide)) iI .nil Yg) rfl)⟩
   (JS ⟨(Zf K rfl (pv 0) (YY (bR base) (hr.mono (by decide)) (by rfl) bT bU bV .nil Yg (YA (Yh K rfl (pv 0) rfl) YC)) rfl)⟩))))))))),?_⟩
  refine⟨_,rfl,_,rfl,gv,tv,dg,d,rfl,denG.same s0,shG,denT.same s0,shT,hp,fun g z eg hg ez hz a o hs H1 st bs ha hfa s1 p1=>?_,fun e H' s' p'=>qG e H' (s0.trans s') p',fun e1 e2 H' s' p'=>qT e1 e2 H' (s0.trans s') p'⟩;have qq:=q g z eg hg ez hz hs;subst eg ez;have t1:=s0.trans s1;have hx1:=s1 _ _ hx;have htx:=hz;unfold Zg at htx;rw[YLJ,decide_eq_true_eq]at htx;have hcl:z.cps.toList.length=z.cps.size:=YLc;dsimp only[ZH];refine⟨_,rfl,gv,Xi g,rfl,denG.same t1,shG,p1,fun _ l xs ds ed hds hl=>?_,fun e=>qG e H1 t1 p1⟩;cases ed;have nxl:x≠l:=Ya hx1 hl;have s2:=YI.upd (o:=.lst xs) hl;refine⟨_,rfl,x,C.Wood,dx,_,rfl,s2 _ _ hx1,T.ak,T.aM,(show 0 < 1000 by decide),?_⟩;have i2:ZJ H1 (upd (upd H1 l (.lst xs)) x (.ins C.Wood dx (ZA "rules" (.ref l) []))):=(ZJ.of s2).trans (ZJ.set (s2 _ _ hx1));have t2:YI H0 (upd (upd H1 l (.lst xs)) x (.ins C.Wood dx (ZA "rules" (.ref l) []))):=(t1.trans s2).put hx0;have p2:YU (upd (upd H1 l (.lst xs)) x (.ins C.Wood dx (ZA "rules" (.ref l) []))):=(p1.upd rfl).upd rfl;have hx2:upd (upd H1 l (.lst xs)) x (.ins C.Wood dx (ZA "rules" (.ref l) [])) x=some (.ins C.Wood dx [("rules",.ref l)]):=YB;have hl2:upd (upd H1 l (.lst xs)) x (.ins C.Wood dx (ZA "rules" (.ref l) [])) l=some (.lst xs):=by rw[YE nxl.symm];exact YB
  have hd2:=YBI i2 hds;have hf2:upd (upd H1 l (.lst xs)) x (.ins C.Wood dx (ZA "rules" (.ref l) [])) a=some (.frz o (.dT (hsD hs))):=i2.frz hfa;revert t2 p2 hx2 hl2 hd2 hf2;generalize upd (upd H1 l (.lst xs)) x (.ins C.Wood dx (ZA "rules" (.ref l) []))=H2;intro t2 p2 hx2 hl2 hd2 hf2;refine⟨_,rfl,tv,.str z,rfl,denT.same t2,shT,p2,fun z' ez' _=>?_,fun e=>?_⟩
  case refine_2=>
   have:Xh (.str z)=Zg z:=rfl;rw[this,hz]at e;cases e
  cases ez';refine⟨_,rfl,x,C.Wood,dx,_,rfl,hx2,T.ak,T.gq,(show 1 < 1000 by decide),?_⟩;have i3:ZJ H2 (upd H2 x (.ins C.Wood dx (ZA "text" (.str z) [("rules",.ref l)]))):=ZJ.set hx2;have t3:YI H0 (upd H2 x (.ins C.Wood dx (ZA "text" (.str z) [("rules",.ref l)]))):=t2.put hx0;have p3:YU (upd H2 x (.ins C.Wood dx (ZA "text" (.str z) [("rules",.ref l)]))):=p2.upd rfl;have hx3:upd H2 x (.ins C.Wood dx (ZA "text" (.str z) [("rules",.ref l)])) x=some (.ins C.Wood dx [("rules",.ref l),("text",.str z)]):=YB;have hl3:=i3.lst hl2;have hd3:=YBI i3 hd2;have hf3:=i3.frz hf2;revert t3 p3 hx3 hl3 hd3 hf3;generalize upd H2 x (.ins C.Wood dx (ZA "text" (.str z) [("rules",.ref l)]))=H3;intro t3 p3 hx3 hl3 hd3 hf3;refine⟨_,rfl,x,C.Wood,dx,_,_,rfl,hx3,T.ak,T.aM,rfl,l,xs,g,rfl,hl3,hd3,hg,p3,fun an H4' hnum s4 p4'=>?_⟩;refine⟨_,rfl,x,C.Wood,dx,_,rfl,s4 _ _ hx3,T.ak,T.dC,(show 2 < 1000 by decide),?_⟩;have i4:ZJ H4' (upd H4' x (.ins C.Wood dx (ZA "numbers" (.ref an) [("rules",.ref l),("text",.str z)]))):=ZJ.set (s4 _ _ hx3);have j4:=(ZJ.of s4).trans i4;have t4:YI H0 (upd H4' x (.ins C.Wood dx (ZA "numbers" (.ref an) [("rules",.ref l),("text",.str z)]))):=(t3.trans s4).put hx0;have p4:YU (upd H4' x (.ins C.Wood dx (ZA "numbers" (.ref an) [("rules",.ref l),("text",.str z)]))):=p4'.upd rfl;have hx4:upd H4' x (.ins C.Wood dx (ZA "numbers" (.ref an) [("rules",.ref l),("text",.str z)])) x=some (.ins C.Wood dx [("rules",.ref l),("text",.str z),("numbers",.ref an)]):=YB;have hl4:=j4.lst hl3;have hd4:=YBI j4 hd3;have hf4:=j4.frz hf3;have hn4:=hnum.sameI i4;revert t4 p4 hx4 hl4 hd4 hf4 hn4;generalize upd H4' x (.ins C.Wood dx (ZA "numbers" (.ref an) [("rules",.ref l),("text",.str z)]))=H4;intro t4 p4 hx4 hl4 hd4 hf4 hn4;refine⟨_,rfl,x,dx,_,rfl,hx4,rfl,_,rfl,x,a,dx,l,an,z,xs,g,o,hsD hs,hs.map (·.1),rfl,hx4,hl4,hd4,hz,hf4,JG.hs hs,fun rv H5' htop s5 n5=>?_⟩;have p5':=YU.new p4 n5;refine⟨_,rfl,x,C.Wood,dx,_,rfl,s5 _ _ hx4,T.ak,T.bj,(show 3 < 1000 by decide),?_⟩;refine⟨_,rfl,_,rfl,x,C.Wood,dx,[("rules",.ref l),("text",.str z),("numbers",.ref an),("root",rv)],rfl,YB,T.ak,T.aN,(show 4 < 1000 by decide),?_⟩;rw[YC1];have i5:ZJ H5' (upd H5' x (.ins C.Wood dx (ZA "found" (.ref a) [("rules",.ref l),("text",.str z),("numbers",.ref an),("root",rv)]))):=ZJ.set (s5 _ _ hx4);have j5:=(ZJ.of s5).trans i5;have t5:YI H0 (upd H5' x (.ins C.Wood dx (ZA "found" (.ref a) [("rules",.ref l),("text",.str z),("numbers",.ref an),("root",rv)]))):=(t4.trans s5).put hx0;have p5:YU (upd H5' x (.ins C.Wood dx (ZA "found" (.ref a) [("rules",.ref l),("text",.str z),("numbers",.ref an),("root",rv)]))):=p5'.upd rfl;have hx5:upd H5' x (.ins C.Wood dx (ZA "found" (.ref a) [("rules",.ref l),("text",.str z),("numbers",.ref an),("root",rv)])) x=some (.ins C.Wood dx [("rules",.ref l),("text",.str z),("numbers",.ref an),("root",rv),("found",.ref a)]):=YB;have hl5:=j5.lst hl4;have hd5:=YBI j5 hd4;have hf5:=j5.frz hf4;have hn5:=hn4.sameI j5;have tQ:=htop.sameI i5;revert t5 p5 hx5 hl5 hd5 hf5 hn5 tQ;generalize upd H5' x (.ins C.Wood dx (ZA "found" (.ref a) [("rules",.ref l),("text",.str z),("numbers",.ref an),("root",rv)]))=H5;intro t5 p5 hx5 hl5 hd5 hf5 hn5 tQ;have hlen:=YJX st hg (by rw[hcl];exact htx.1);have hbn:∀r d i k,Nd.beg r d i k∈hs.map (·.1)→k≤z.cps.size:=fun r d i k h=>by
   have:=(YAo st _ h).2.2;rw[hcl]at this;exact this
  refine⟨_,rfl,a,o,hsD hs,hs.map (·.1),z.cps.size,rfl,hf5,JG.hs hs,st.nd,hlen,htx.1,hbn,p5,fun ae H6' hen s6 p6'=>?_⟩;refine⟨_,rfl,x,C.Wood,dx,_,rfl,s6 _ _ hx5,T.ak,T.cY,(show 5 < 1000 by decide),?_⟩;have i6:ZJ H6' (upd H6' x (.ins C.Wood dx (ZA "ends" (.ref ae) [("rules",.ref l),("text",.str z),("numbers",.ref an),("root",rv),("found",.ref a)]))):=ZJ.set (s6 _ _ hx5);have j6:=(ZJ.of s6).trans i6;have t6:YI H0 (upd H6' x (.ins C.Wood dx (ZA "ends" (.ref ae) [("rules",.ref l),("text",.str z),("numbers",.ref an),("root",rv),("found",.ref a)]))):=(t5.trans s6).put hx0;have p6:YU (upd H6' x (.ins C.Wood dx (ZA "ends" (.ref ae) [("rules",.ref l),("text",.str z),("numbers",.ref an),("root",rv),("found",.ref a)]))):=p6'.upd rfl;have hx6:upd H6' x (.ins C.Wood dx (ZA "ends" (.ref ae) [("rules",.ref l),("text",.str z),("numbers",.ref an),("root",rv),("found",.ref a)])) x=some (.ins C.Wood dx [("rules",.ref l),("text",.str z),("numbers",.ref an),("root",rv),("found",.ref a),("ends",.ref ae)]):=YB;have hl6:=j6.lst hl5;have hd6:=YBI j6 hd5;have hf6:=j6.frz hf5;have hn6:=hn5.sameI j6;have rB:=tQ.sameI j6;have tR:=hen.sameI i6;revert t6 p6 hx6 hl6 hd6 hf6 hn6 rB tR;generalize upd H6' x (.ins C.Wood dx (ZA "ends" (.ref ae) [("rules",.ref l),("text",.str z),("numbers",.ref an),("root",rv),("found",.ref a)]))=H6;intro t6 p6 hx6 hl6 hd6 hf6 hn6 rB tR;have wd6:YBC C.Wood H6 x g z (hs.map (·.1)) (YB0 g z.cps.size (hs.map (·.1))):=⟨⟨dx,l,an,a,ae,rv,xs,hx6,hl6,hd6,hn6,rB,⟨o,_,hf6,JG.hs hs⟩,tR⟩,hg,hz,YAo st,fun r d i j h=>let ⟨k,_,h1,_⟩:=YGM st r d i j h;⟨k,h1⟩⟩;have htn:∀t,YB0 g z.cps.size (hs.map (·.1))=some t→t∈hs.map (·.1):=fun t e=>by
   unfold YB0 at e;split at e
   ·cases e
   ·split at e
    ·rename_i h
     cases e;exact of_decide_eq_true h
    ·cases e
  refine⟨_,rfl,x,dx,_,rfl,hx6,rfl,x,g,z,hs.map (·.1),_,rfl,wd6,htn,st.nd,hlen,p6,fun af of_ kvF nds H7' hf7 hk7 wk vq s7 p7'=>?_⟩;refine⟨_,rfl,x,C.Wood,dx,_,rfl,s7 _ _ hx6,T.ak,T.aN,(show 6 < 1000 by decide),?_⟩;have i7:ZJ H7' (upd H7' x (.ins C.Wood dx (ZA "found" (.ref af) [("rules",.ref l),("text",.str z),("numbers",.ref an),("root",rv),("found",.ref a),("ends",.ref ae)]))):=ZJ.set (s7 _ _ hx6);have j7:=(ZJ.of s7).trans i7;have t7:YI H0 (upd H7' x (.ins C.Wood dx (ZA "found" (.ref af) [("rules",.ref l),("text",.str z),("numbers",.ref an),("root",rv),("found",.ref a),("ends",.ref ae)]))):=(t6.trans s7).put hx0;have p7:YU (upd H7' x (.ins C.Wood dx (ZA "found" (.ref af) [("rules",.ref l),("text",.str z),("numbers",.ref an),("root",rv),("found",.ref a),("ends",.ref ae)]))):=p7'.upd rfl;have hx7:upd H7' x (.ins C.Wood dx (ZA "found" (.ref af) [("rules",.ref l),("text",.str z),("numbers",.ref an),("root",rv),("found",.ref a),("ends",.ref ae)])) x=some (.ins C.Wood dx [("rules",.ref l),("text",.str z),("numbers",.ref an),("root",rv),("found",.ref af),("ends",.ref ae)]):=YB;have hl7:=j7.lst hl6;have hd7:=YBI j7 hd6;have hf8:=i7.frz hf7;have hn7:=hn6.sameI j7;have tU:=rB.sameI j7;revert t7 p7 hx7 hl7 hd7 hf8 hn7 tU;generalize upd H7' x (.ins C.Wood dx (ZA "found" (.ref af) [("rules",.ref l),("text",.str z),("numbers",.ref an),("root",rv),("found",.ref a),("ends",.ref ae)]))=H7;intro t7 p7 hx7 hl7 hd7 hf8 hn7 tU;have sub7:∀y∈nds,y∈hs.map (·.1):=fun y hy=>of_decide_eq_true (wk.sub y hy)
  refine⟨_,rfl,x,C.Wood,dx,_,_,rfl,hx7,T.ak,T.aN,rfl,af,of_,kvF,nds,z.cps.size,rfl,hf8,hk7,wk.nd,YLb vq hlen,htx.1,fun r d i k h=>hbn r d i k (sub7 _ h),p7,fun ae2 H8' vy s8 p8'=>?_⟩;refine⟨_,rfl,x,C.Wood,dx,_,rfl,s8 _ _ hx7,T.ak,T.cY,(show 6 < 1000 by decide),?_⟩;have i8:ZJ H8' (upd H8' x (.ins C.Wood dx (ZA "ends" (.ref ae2) [("rules",.ref l),("text",.str z),("numbers",.ref an),("root",rv),("found",.ref af),("ends",.ref ae)]))):=ZJ.set (s8 _ _ hx7);have j8:=(ZJ.of s8).trans i8;refine qq nds _ st bs wk ⟨⟨dx,l,an,af,ae2,rv,xs,YB,j8.lst hl7,YBI j8 hd7,hn7.sameI j8,tU.sameI j8,⟨of_,kvF,j8.frz hf8,hk7⟩,vy.sameI i8⟩,hg,hz,fun y hy=>YAo st y (sub7 y hy),fun r d i j h=>?_⟩ ((t7.trans s8).put hx0) (p8'.upd rfl);exact wood_be st (by rw[hcl];exact wk) r d i j h
end
def YCo:Nd→Nat→Nat
 |.part _ _ _,v=>100 * v
 |.beg _ d _ _,v=>100 * v + d + 1
theorem YDp {g:YT}{cs:List Nat}{hs hs2:Hs} (hg:Yv g=true) (st:ZE g cs hs) (st2:ZE g cs hs2) (b2:Ji g cs hs2):∀(n:Nat) (x:Nd) (v:Nat),YCo x v≤n→YL hs x=some v→∃v',YL hs2 x=some v':=by
 intro n
 induction n with
 |zero=>
  intro x v hm hv;cases x with
  |part p i j=>
   have h0:v=0:=by simp only[YCo]at hm;omega
   rcases st.why _ _ hv with ⟨_,c,hc,rfl,rfl⟩ |⟨r,ru,m,_,_,_,e⟩
   ·exact⟨0,b2.sg i c hc⟩
   ·omega
  |beg r d i j=>simp only[YCo]at hm;omega
 |succ n ih=>
  intro x v hm hv;cases x with
  |part p i j=>
   simp only[YCo]at hm;rcases st.why _ _ hv with ⟨_,c,hc,rfl,rfl⟩ |⟨r,ru,m,e1,e2,e3,e4⟩
   ·exact⟨0,b2.sg i c hc⟩
   ·have h6:=six hg ru (YLH e1);obtain⟨v1,hv1⟩:=ih (.beg r ru.2.1.length i j) m (by simp only[YCo];omega) e3;obtain⟨v2,hv2,_⟩:=st2.cl.up r ru i j v1 e1 ⟨_,hv1⟩ hv1;rw[e2]at hv2;exact⟨v2,hv2⟩
  |beg r d i j=>
   simp only[YCo]at hm;rcases st.why _ _ hv with ⟨rfl,rfl,_⟩ |⟨d',k,p,a,b,rfl,e1,e2,e3,e4⟩
   ·have lg:=st.leg _ _ hv;obtain⟨⟨ru,er,_⟩,_,hj⟩:=lg;exact⟨0,b2.bg r i (List.getElem?_eq_some_iff.mp er).1 hj⟩
   ·have h1:a≤v:=by omega
    have h2:b≤v:=by omega
    obtain⟨v1,hv1⟩:=ih (.beg r d' i k) a (by simp only[YCo];omega) e2;obtain⟨v2,hv2⟩:=ih (.part p k j) b (by simp only[YCo];omega) e3;obtain⟨v3,hv3,_⟩:=st2.cl.join r d' i k p j v1 v2 ⟨_,hv1⟩ ⟨_,hv2⟩ e1 hv1 hv2;exact⟨v3,hv3⟩
theorem YHj {g:YT}{cs:List Nat}{hs hs2:Hs} (hg:Yv g=true) (st:ZE g cs hs) (b1:Ji g cs hs) (st2:ZE g cs hs2) (b2:Ji g cs hs2):inB (hs.map (·.1))=inB (hs2.map (·.1)):=funext fun x=>by
 unfold inB;congr 1;refine propext ⟨fun h=>?_,fun h=>?_⟩
 ·obtain⟨v,hv⟩:=Jv h;obtain⟨v',hv'⟩:=YDp hg st st2 b2 _ x v (YLG _) hv;exact X4 hv'
 ·obtain⟨v,hv⟩:=Jv h;obtain⟨v',hv'⟩:=YDp hg st2 st b1 _ x v (YLG _) hv;exact X4 hv'
def kD:Key→D
 |.inl i=>.int i
 |.inr s=>.str s
def ndD (x:Nd):D:=.tup ((Yu x).map kD)
def X7 (ws:List (List Nd)):D:=.lst (ws.map fun w=>.tup (w.map ndD))
theorem YCS {H:Hp}:∀ks:List Key,Yb H (ks.map kV) (ks.map kD)
 |[]=>.nil
 |.inl i :: ks=>.cons (.int _) (YCS ks)
 |.inr s :: ks=>.cons (.str _) (YCS ks)
theorem YCT {H:Hp}{t:Addr}{x:Nd} (h:H t=some (.tup ((Yu x).map kV))):Den H (.ref t) (ndD x):=.tup h (YCS _)
theorem YDq {H:Hp}:∀{ns:List Nd}{ts:List Addr},ZM H ts ns→Yb H (ts.map V.ref) (ns.map ndD)
 |[],[],_=>.nil
 |[],_ :: _,h=>by cases h.1
 |_ :: _,[],h=>by cases h.1
 |n :: ns,t :: ts,h=>.cons (YCT (h.2 0 t n rfl rfl)) (YDq ⟨Nat.succ.inj h.1,fun i t' x e1 e2=>h.2 (i + 1) t' x e1 e2⟩)
theorem YA4 {H:Hp}:∀{ws:List (List Nd)}{bs:List Addr},Jx H bs ws→Yb H (bs.map V.ref) (ws.map fun w=>.tup (w.map ndD))
 |[],[],_=>.nil
 |[],_ :: _,h=>by cases h.1
 |_ :: _,[],h=>by cases h.1
 |w :: ws,b :: bs,h=>by
  obtain⟨ts,e1,e2⟩:=h.2 0 b w rfl rfl;exact .cons (.tup e1 (YDq e2)) (YA4 ⟨Nat.succ.inj h.1,fun i b' w' e1 e2=>h.2 (i + 1) b' w' e1 e2⟩)
theorem YDr {H:Hp}{a:Addr}{ws:List (List Nd)} (h:YDk H a ws):Den H (.ref a) (X7 ws):=by
 obtain⟨bs,e,f⟩:=h;exact .lst (.inl e) (YA4 f)
theorem YA5:∀ks:List Key,okS (ks.map kD)=true∧YCG (ks.map kD)=0
 |[]=>⟨rfl,rfl⟩
 |.inl i :: ks=>⟨by rw[YLS];unfold okS;rw[(YA5 ks).1];rfl,by rw[YLS];unfold YCG;rw[(YA5 ks).2];rfl⟩
 |.inr s :: ks=>⟨by rw[YLS];unfold okS;rw[(YA5 ks).1];rfl,by rw[YLS];unfold YCG;rw[(YA5 ks).2];rfl⟩
theorem YB3 (x:Nd):(ndD x).ok=true∧(ndD x).dep=1:=⟨by unfold ndD D.ok;exact(YA5 _).1,by unfold ndD D.dep;rw[(YA5 _).2]⟩
theorem YDs {α:Type}{f:α→D}{m:Nat}:∀{l:List α},(∀a∈l,(f a).ok=true∧(f a).dep≤m)→okS (l.map f)=true∧YCG (l.map f)≤m
 |[],_=>⟨rfl,YLN _⟩
 |a :: l,h=>by
  obtain⟨h1,h2⟩:=h a YLP;obtain⟨h3,h4⟩:=YDs (l:=l) fun b hb=>h b (YLR _ hb)
  refine⟨?_,?_⟩
  ·rw[YLS];unfold okS;rw[h1,h3];rfl
  ·rw[YLS];unfold YCG;exact Nat.max_le.mpr ⟨h2,h4⟩
theorem YIc (ws:List (List Nd)):(X7 ws).ok=true∧(X7 ws).dep≤64:=by
 have hw:∀w:List Nd,(D.tup (w.map ndD)).ok=true∧(D.tup (w.map ndD)).dep≤2:=fun w=>by
  obtain⟨h1,h2⟩:=YDs (f:=ndD) (m:=1) (l:=w) fun x _=>⟨(YB3 x).1,Nat.le_of_eq (YB3 x).2⟩
  exact⟨by unfold D.ok;exact h1,by unfold D.dep;omega⟩
 obtain⟨h1,h2⟩:=YDs (f:=fun w:List Nd=>D.tup (w.map ndD)) (m:=2) (l:=ws) fun w _=>hw w
 exact⟨by unfold X7 D.ok;exact h1,by unfold X7 D.dep;omega⟩
theorem ndsApp {H:Hp}{ts us:List Addr}{ns ms:List Nd} (h:ZM H ts ns) (h2:ZM H us ms):ZM H (ts ++ us) (ns ++ ms):=by
 refine⟨by rw[YLE,YLE,h.1,h2.1],fun i t x e1 e2=>?_⟩
 by_cases hi:i < ts.length
 ·rw[YLZ hi]at e1;rw[YLZ (by rw[←h.1];exact hi)]at e2;exact h.2 i t x e1 e2
 ·rw[YLV (by omega)]at e1;rw[YLV (by rw[←h.1];omega),←h.1]at e2;exact h2.2 _ t x e1 e2
theorem YKu (ns:List Nd):(D.lst (ns.map ndD)).ok=true∧(D.lst (ns.map ndD)).dep≤64:=by
 obtain⟨h1,h2⟩:=YDs (f:=ndD) (m:=1) (l:=ns) fun x _=>⟨(YB3 x).1,Nat.le_of_eq (YB3 x).2⟩
 exact⟨by unfold D.ok;exact h1,by unfold D.dep;omega⟩
structure RInv (g:YT) (n:Nat) (F:Nd→Bool) (top:Option Nd) (nds rs wt:List Nd):Prop where
 nd:rs.Nodup
 sub:∀x∈rs,x∈nds
 wi:∀x∈wt,x∈nds
 tp:∀t,top=some t→t∈rs∨t∈wt
 cl:∀x∈rs,∀w∈Yi g n F x,∀y∈w,y∈rs∨y∈wt
 le:wt.length≤1 + 122 * rs.length
abbrev XW:Stmt:=top 34
abbrev YAM:Stmt:=top 35
abbrev Z1:Stmt:=top 36
abbrev JX:Stmt:=top 37
abbrev YAN:Stmt:=top 38
abbrev YAO:Stmt:=top 39
abbrev YB4:Stmt:=top 51
theorem Jl:(["_law_k","_law_big","_law_odd"]:List Str).Nodup:=by decide +kernel
theorem Zb:(["_law_k","_law_at","_law_base","_law_big","_law_odd"]:List Str).Nodup:=by decide +kernel
inductive YGc (K:W.Frag) (vs:List V) (H:Hp) (Q:VK):Prop where
 |mk (a:Addr) (ns:List Int) (k:Int) (h0_:vs=[.ref a,.int k]) (h1_:SqL K H a (ns.map V.int)) (h2_:0≤k) (h3_:k≤1000) (h4_:∀v:Int,0≤v→v < 2147483647→Q (.int v) H):YGc K vs H Q
def YFT (K:W.Frag):Sp:=fun vs H Q E_=>YGc K vs H Q
inductive YGd (vs:List V) (H:Hp) (Q:VK):Prop where
 |mk (c:Int) (h0_:vs=[.int c]) (h1_:YU H) (h2_:∀l (a b d:Nat) H',good a=true→good b=true→good d=true→YI H H'→YU H'→H l=none→H' l=some (.lst [.str ⟨#[a]⟩,.str ⟨#[b]⟩,.str ⟨#[d]⟩])→Q (.ref l) H'):YGd vs H Q
def YId:Sp:=fun vs H Q E_=>YGd vs H Q
inductive YGe (vs:List V) (H:Hp) (Q:VK):Prop where
 |mk (c:Int) (h0_:vs=[.int c]) (h1_:0≤c) (h2_:c < 2147483648) (h3_:YU H) (h4_:∀l (ns:List Str) H',ns.length=4→(∀z∈ns,isNameS z=true)→YI H H'→YU H'→H l=none→H' l=some (.lst (ns.map V.str))→Q (.ref l) H'):YGe vs H Q
def YIe:Sp:=fun vs H Q E_=>YGe vs H Q
inductive YEv (vs:List V) (H:Hp) (Q:VK):Prop where
 |mk (c:Int) (h0_:vs=[.int c]) (h1_:∀z:Int,0≤z→z≤10 ^ 60→Q (.int z) H):YEv vs H Q
def YGf:Sp:=fun vs H Q E_=>YEv vs H Q
inductive YGg (vs:List V) (H:Hp) (Q:VK):Prop where
 |mk (c:Int) (m:Addr) (zs:List Str) (n:Int) (h0_:vs=[.int c,.ref m,.int n]) (h1_:H m=some (.lst (zs.map V.str))) (h2_:1≤zs.length) (h3_:zs.length≤100) (h4_:0≤n) (h5_:n≤6) (h6_:YU H) (h7_:∀t (ps:List Str) H',(ps.length:Int)≤n→(∀p∈ps,p∈zs)→YI H H'→YU H'→H t=none→H' t=some (.tup (ps.map V.str))→Q (.ref t) H'):YGg vs H Q
def YIf:Sp:=fun vs H Q E_=>YGg vs H Q
def SOME:Str:=YFL Z1 0 ++ YFL Z1 1
theorem YEw:SOME.cps.toList=YCJ:=by decide +kernel
theorem YCU:SOME.length≤sizeLine:=YH (by decide +kernel)
theorem YA6 {z:Str} (h:isNameS z=true):Yo z=true:=by
 unfold Yo;rw[h,Bool.or_true]
theorem YKv {z:Str}{c:Nat}{j:Int} (hz:z.length≤7) (hl:z.cps.toList.all Zk=true) (hc:Zk c=true) (h0:0≤j) (h1:j≤z.length):
  isNameS (Txt.slice z none (some j) ++ ⟨#[c]⟩ ++ Txt.slice z (some j) none)=true:=by
 rw[YCh,YAg,YAg,YKQ h0 h1,YHK h0 h1];have hzl:z.cps.toList.length=z.length:=YLc;unfold YIC;have e1:((z.cps.toList.take j.toNat ++ [c] ++ z.cps.toList.drop j.toNat).length)=z.length + 1:=by
  rw[YLE,YLE,List.length_take,YLd,hzl];show min j.toNat z.length + 1 + (z.length - j.toNat)=_;omega
 show(decide (1≤(z.cps.toList.take j.toNat ++ [c] ++ z.cps.toList.drop j.toNat).length) && decide ((z.cps.toList.take j.toNat ++ [c] ++ z.cps.toList.drop j.toNat).length≤8) && (z.cps.toList.take j.toNat ++ [c] ++ z.cps.toList.drop j.toNat).all Zk)=true;rw[e1,decide_eq_true (by omega),decide_eq_true (by omega)];rw[List.all_eq_true]at hl;rw[List.all_append,List.all_append];have a1:(z.cps.toList.take j.toNat).all Zk=true:=List.all_eq_true.mpr fun x hx=>hl x (List.mem_of_mem_take hx)
 have a2:(z.cps.toList.drop j.toNat).all Zk=true:=List.all_eq_true.mpr fun x hx=>hl x (List.mem_of_mem_drop hx)
 rw[a1,a2];show(true && (true && [c].all Zk && true))=true;rw[List.all_cons,hc];rfl
theorem YKw {c:Nat}{n:Int} (hc:Zk c=true) (h0:1≤n) (h1:n≤8):isNameS (Txt.mul ⟨#[c]⟩ n)=true:=by
 rw[YCh,PyProof.Rows.mul_one_list];unfold YIC;rw[List.length_replicate,decide_eq_true (by omega),decide_eq_true (by omega)];show(List.replicate n.toNat c).all Zk=true;rw[List.all_eq_true];intro x hx;rw[(List.mem_replicate.mp hx).2];exact hc
section
variable {P:Program}{w:World}{K:W.Frag}{mg:Str→Option Value}{base:Heap}{C:Adr}
theorem YCw:YV ["_law_script","_law_k"] ["_law_script","_law_k"] (YJ XW):=⟨rfl,rfl,rfl,by decide +kernel,rfl,by decide +kernel,by decide +kernel⟩
theorem YCx {f:Addr}{fd:FuncData} (F:Fun K "_law_cell_at" "_law_cell_at" XW f fd) (T:Txt K mg C):Y6 P w K mg base CX0 1 f fd ["_law_script","_law_k"] (YHI K):=by
 refine F.ok YCw (fun vs H Q E h=>?_) (fun cdv A outer s H vs Q E hr h=>?_)
 ·obtain⟨a,ns,k,rfl,_⟩:=h;rfl
 ·obtain⟨a,ns,k,rfl,hS,h0,q⟩:=h;refine⟨_,(YF (Y3 (Ye YBg (pv 1) (YR (YQ K rfl) (by rfl) T.aD PyProof.Rows.Boot.«len» (YA (pv 0) YC)) (Yf _)) (YG (YX (YM (YW K rfl) (pv 0) (pv 1) (fun _ _=>rfl)))) Yc)
   (YG (YX YD))),?_⟩
  refine⟨_,rfl,_,rfl,a,_,rfl,.inl hS,_,_,rfl,rfl,_,rfl,?_⟩;refine YBA (fun h1=>?_) fun h1=>?_
  ·have h1':=of_decide_eq_true h1;obtain⟨v,hv,hm⟩:=Js h0 h1';obtain⟨n,_,rfl⟩:=List.mem_map.mp hm;exact⟨_,rfl,_,rfl,a,_,k,_,rfl,rfl,hS,hv,q n⟩
  ·exact q 0
theorem YBJ:YV ["_law_script","_law_k","_law_cell"] ["_law_script","_law_k"] (YJ YAM):=⟨rfl,rfl,rfl,by decide +kernel,rfl,by decide +kernel,by decide +kernel⟩
theorem YEG {f:Addr}{fd:FuncData} (F:Fun K "_law_mixed" "_law_mixed" YAM f fd) (T:Txt K mg C) (aV:Zq P w K mg CX0 1 "_law_cell_at" ["_law_script","_law_k"] (YHI K)):Y6 P w K mg base CX0 2 f fd ["_law_script","_law_k"] (YFT K):=by
 obtain⟨jd,iU,bI,bJ,bK,bL⟩:=aV.ok;refine F.ok YBJ (fun vs H Q E h=>?_) (fun cdv A outer s H vs Q E hr h=>?_)
 ·obtain⟨a,ns,k,rfl,_⟩:=h;rfl
 ·obtain⟨a,ns,k,rfl,hS,k0,k1,q⟩:=h;refine⟨_,(YF (YK (i:=2) YBJ.nd rfl (Or.inl rfl) (YN ZK (YY (bI base) (hr.mono (by decide)) (by rfl) bJ bK bL .nil Yg (YA (pv 0) (YA (pv 1) YC))) YD))
   (YG (YX (YN ZK (YN YAZ (YN Yp (YN Yp (YN Yp (YN YAZ (pv 2) (pv 2)) (pv 2)) (YN YAZ (YN YAZ YD (pv 1)) (pv 1))) YD) YD) YD)))),?_⟩
  refine⟨_,rfl,_,rfl,a,ns,k,rfl,hS,k0,fun v=>⟨_,_,rfl,rfl,(by show(0:Int) < 2147483629;decide),?_⟩⟩;have c0:0≤v % 2147483629:=by omega
  have c1:v % 2147483629 < 2147483629:=by omega
  refine⟨_,rfl,_,rfl,_,_,rfl,rfl,.inl ⟨by omega,by omega⟩,_,rfl,_,_,rfl,rfl,_,rfl,_,_,rfl,rfl,.inl ⟨by decide,by decide⟩,_,rfl,_,_,rfl,rfl,.inr ⟨by omega,by omega⟩,_,_,rfl,rfl,_,_,rfl,rfl,_,_,rfl,rfl,.inr ⟨by decide,by decide⟩,_,_,rfl,rfl,(by show(0:Int) < 2147483647;decide),q _ ?_ ?_⟩
  ·exact Int.emod_nonneg _ (by decide)
  ·exact Int.emod_lt_of_pos _ (by decide)
theorem Xv:YV ["_law_cell","_law_some"] ["_law_cell"] (YJ Z1):=⟨rfl,rfl,rfl,by decide +kernel,rfl,by decide +kernel,by decide +kernel⟩
theorem YEH {f:Addr}{fd:FuncData} (F:Fun K "_law_signs" "_law_signs" Z1 f fd) (T:Txt K mg C):Y6 P w K mg base CX0 1 f fd ["_law_cell"] (YId):=by
 refine F.ok Xv (fun vs H Q E h=>?_) (fun cdv A outer s H vs Q E hr h=>?_)
 ·obtain⟨c,rfl,_⟩:=h;rfl
 ·obtain⟨c,rfl,hp,q⟩:=h;refine⟨_,(YF (YK (i:=1) Xv.nd rfl (Or.inl rfl) Zj)
   (YF (YK (i:=1) Xv.nd rfl (Or.inl rfl) (YN JK (pv 1) Zj))
   (YG (YX (Y0 (YA (YM Z5 (pv 1) (YN ZK (pv 0) YD) (fun _ _=>rfl)) (YA (YM Z5 (pv 1) (YN ZK (YN Yp (YN Yp (pv 0) YD) (YN ZK (YN Zm (pv 0) YD) YD)) YD) (fun _ _=>rfl)) (YA (YM Z5 (pv 1) (YN ZK (YN Yp (YN Yp (pv 0) YD) (YN ZK (YN Zm (pv 0) YD) YD)) YD) (fun _ _=>rfl)) YC)))))))),?_⟩
  refine⟨_,rfl,YFL Z1 0,YFL Z1 1,rfl,rfl,by decide +kernel,?_⟩;have at_:∀i:Int,∃k,atI SOME.cps.toList (i % 94)=some k∧good k=true:=fun i=>by
   obtain⟨k,hk,hm⟩:=Js (xs:=SOME.cps.toList) (i:=i % 94) (by omega) (by rw[YEw,YJJ];omega);rw[YEw]at hm;exact⟨k,hk,YHJ hm⟩
  obtain⟨k1,e1,g1⟩:=at_ c;obtain⟨k2,e2,g2⟩:=at_ (c + 1 + c / 94 % 46);obtain⟨k3,e3,g3⟩:=at_ (c + 47 + c / 4324 % 46);refine⟨_,rfl,_,rfl,_,_,rfl,rfl,(by show(0:Int) < 94;decide),SOME,_,k1,rfl,rfl,YCU,e1,?_⟩;refine⟨_,rfl,_,rfl,_,_,rfl,rfl,_,rfl,_,_,rfl,rfl,⟨by decide,by decide⟩,_,_,rfl,rfl,(by show(0:Int) < 46;decide),_,_,rfl,rfl,_,_,rfl,rfl,(by show(0:Int) < 94;decide),SOME,_,k2,rfl,rfl,YCU,e2,?_⟩;refine⟨_,rfl,_,rfl,_,_,rfl,rfl,_,rfl,_,_,rfl,rfl,⟨by decide,by decide⟩,_,_,rfl,rfl,(by show(0:Int) < 46;decide),_,_,rfl,rfl,_,_,rfl,rfl,(by show(0:Int) < 94;decide),SOME,_,k3,rfl,rfl,YCU,e3,?_⟩;exact⟨YH (by show 3≤1000;decide),fun l hl=>q l k1 k2 k3 _ g1 g2 g3 (YI.upd hl) (hp.upd rfl) hl YB⟩
theorem ZX:YV ["_law_cell","_law_big","_law_odd","_law_k","_law_base","_law_at"] ["_law_cell"] (YJ JX):=⟨rfl,rfl,rfl,by decide +kernel,rfl,by decide +kernel,by decide +kernel⟩
theorem YEI {f:Addr}{fd:FuncData} (F:Fun K "_law_names" "_law_names" JX f fd) (T:Txt K mg C):Y6 P w K mg base CX0 1 f fd ["_law_cell"] (YIe):=by
 refine F.ok ZX (fun vs H Q E h=>?_) (fun cdv A outer s H vs Q E hr h=>?_)
 ·obtain⟨c,rfl,_⟩:=h;rfl
 ·obtain⟨c,rfl,c0,c1,hp,q⟩:=h;refine⟨_,(YF (YK (i:=1) ZX.nd rfl (Or.inr rfl) Zj)
   (YF (YK (i:=2) ZX.nd rfl (Or.inr rfl) (YN ZK (pv 0) YD))
   (YF (YK (i:=0) ZX.nd rfl (Or.inl rfl) (YN Zm (pv 0) YD))
   (YF (Y3 (Ye Jq (YN ZK (pv 0) YD) YD (Yf _)) (YG (YX (J6 (N:=["_law_k","_law_big","_law_odd"]) (ρ:=[none,some 1,some 2]) rfl (Yz.closes ["_law_cell","_law_big","_law_odd","_law_k","_law_base","_law_at"] (YJ JX).names rfl rfl rfl rfl (by decide +kernel) (by decide +kernel) (fun x h=>X0 h) (by decide +kernel) rfl (by decide +kernel)) (Zo rfl T.bA (YA YD YC)) (fun _ _ _ _ _=>(Yd (i:=0) Jl rfl (Or.inl rfl) (.inr rfl))) (fun _ _ _ _ _=>Jp) (fun _ _ _ _ _=>(YN YHF (YM Z5 (pv 1) (pv 2) (fun _ _=>rfl)) (YN YE6 (YN Yp (YN YAZ YD (pv 0)) YD) (YN Zm (pv 0) YD))))))) Yc)
   (YF (YK (i:=4) ZX.nd rfl (Or.inr rfl) Zj)
   (YF (ZQ PassesOwn.never rfl (Zo rfl T.bA (YA (YN ZK (YN Zm (pv 0) YD) YD) YC)) (Yd (i:=3) ZX.nd rfl (Or.inl rfl)) (YG (YK (i:=4) ZX.nd rfl (Or.inr rfl) (YN JK (pv 4) (YM Z5 (pv 1) (YN ZK (YN Zm (YN YAZ (pv 0) (YN Yp (pv 3) YD)) YD) YD) (fun _ _=>rfl))))))
   (YF (YK (i:=5) ZX.nd rfl (Or.inr rfl) (YN ZK (YN Zm (pv 0) YD) (YN Yp (YR Zw (by rfl) T.aD PyProof.Rows.Boot.«len» (YA (pv 4) YC)) YD)))
   (YG (YX (J6 (N:=["_law_k","_law_at","_law_base","_law_big","_law_odd"]) (ρ:=[none,some 5,some 4,some 1,some 2]) rfl (Yz.closes ["_law_cell","_law_big","_law_odd","_law_k","_law_base","_law_at"] (YJ JX).names rfl rfl rfl rfl (by decide +kernel) (by decide +kernel) (fun x h=>X0 h) (by decide +kernel) rfl (by decide +kernel)) (Zo rfl T.bA (YA YD YC)) (fun _ _ _ _ _=>(Yd (i:=0) Zb rfl (Or.inl rfl) (.inr rfl))) (fun _ _ _ _ _=>Jp) (fun _ _ _ _ _=>(YN JK (YN JK (XI YKA (pv 2) YBk (J5 (pv 1))) (YM Z5 (pv 3) (YN Yp (pv 4) (pv 0)) (fun _ _=>rfl))) (XI YKA (pv 2) (J5 (pv 1)) YBk))))))))))))),?_⟩
  refine⟨_,rfl,_,_,rfl,rfl,(by show(0:Int) < 23;decide),?_⟩;refine⟨_,rfl,_,_,rfl,rfl,⟨by decide,by decide⟩,?_⟩;refine⟨_,rfl,_,_,rfl,rfl,(by show(0:Int) < 4;decide),rfl,_,rfl,YBA (fun h0=>?_) fun h0=>?_⟩
  ·refine⟨4,rfl,by decide,by decide,fun l hl=>?_⟩;refine XM (n:=4) 0 (fun k y _=>∃z,y=.str z∧isNameS z=true) YCe (fun _ _ _ _ _ h=>h) hp hl (by show 0 < 3;decide) (YH (by decide)) (fun τ'=>∃v,τ'=[v,some (.str BIG),some (.int (c % 23))]) ⟨_,rfl⟩ ?_ ?_ ?_
   ·rintro τ' v ⟨w,rfl⟩;exact⟨v,rfl⟩
   ·rintro τ' k x H' R ⟨w,rfl⟩ hτ hit hk hs hp' qX hR;have ew:w=some x:=by simpa using hτ
    subst ew hit;obtain⟨c2,hc2,hm⟩:=Js (xs:=BIG.cps.toList) (i:=c % 23) (by omega) (by rw[YFK];omega);refine⟨_,rfl,_,rfl,BIG,_,c2,rfl,rfl,YDZ,hc2,_,rfl,_,_,rfl,rfl,.inl ⟨by decide,by decide⟩,_,_,rfl,rfl,_,rfl,_,_,rfl,rfl,⟨by decide,by decide⟩,_,_,rfl,rfl,_,_,rfl,rfl,(by show 1≤1000;decide),?_,?_,hR _ _ (YI.refl _) hp' ⟨_,rfl,YKw (YBR hm) ?_ ?_⟩⟩ <;> omega
   ·intro ys H' hy hP hs hp' hl';obtain⟨zs,rfl,hz⟩:=YBS hP;exact q l zs H' (by rw[YLD]at hy;exact hy) hz hs hp' hl hl'
  ·refine⟨_,rfl,_,_,rfl,rfl,⟨by decide,by decide⟩,_,_,rfl,rfl,(by show(0:Int) < 8;decide),_,rfl,(YAW (by omega) (by omega)).1,(YAW (by omega) (by omega)).2,?_⟩;refine JA (lo:=0) (n:=(c / 23 / 4 % 8).toNat) (fun i σ H2=>H2=H∧∃(z:Str) (v:Option V),σ=[some (.int (c / 23)),some (.str BIG),some (.int (c % 23)),v,some (.str z),none]∧z.length=i∧z.cps.toList.all Zk=true) ⟨rfl,_,none,rfl,(by decide +kernel),(by decide +kernel)⟩ ?_ ?_
   ·rintro i σ H2 hi ⟨rfl,z,v,rfl,hz,hzl⟩;have hi8:i < 8:=by omega
    obtain⟨c2,hc2,hm⟩:=Js (xs:=BIG.cps.toList) (i:=c / 23 * (0 + (i:Int) + 3) / 7 % 26) (by omega) (by rw[YFK];omega);refine⟨_,rfl,_,rfl,_,rfl,_,rfl,_,_,rfl,rfl,_,_,rfl,rfl,.inl ⟨by omega,by omega⟩,_,_,rfl,rfl,⟨by decide,by decide⟩,_,_,rfl,rfl,(by show(0:Int) < 26;decide),BIG,_,c2,rfl,rfl,YDZ,hc2,z,_,rfl,rfl,YH (by show z.length + 1≤1000;omega),?_⟩;refine⟨rfl,z ++ ⟨#[c2]⟩,_,rfl,by rw[slen,hz];rfl,?_⟩;rw[YAg,List.all_append,hzl];show(true && [c2].all Zk)=true;rw[List.all_cons,YBR hm];rfl
   ·rintro σ H2 ⟨rfl,z,v,rfl,hz,hzl⟩;have hz7:z.length≤7:=by omega
    refine⟨_,rfl,_,_,rfl,rfl,⟨by decide,by decide⟩,_,rfl,z,rfl,YH (by omega),_,_,rfl,rfl,_,_,rfl,rfl,(by show(0:Int) < (z.length:Int) + 1;omega),?_⟩;have a0:0≤c / 23 / 32 % ((z.length:Int) + 1):=Int.emod_nonneg _ (by omega);have a1:c / 23 / 32 % ((z.length:Int) + 1) < (z.length:Int) + 1:=Int.emod_lt_of_pos _ (by omega);obtain⟨at_,hat⟩:∃a,a=c / 23 / 32 % ((z.length:Int) + 1):=⟨_,rfl⟩;rw[←hat]at a0 a1;refine⟨4,rfl,by decide,by decide,fun l hl=>?_⟩;refine XM (n:=4) 0 (fun k y _=>∃z,y=.str z∧isNameS z=true) YCe (fun _ _ _ _ _ h=>h) hp hl (by show 0 < 5;decide) (YH (by decide)) (fun τ'=>∃v,τ'=[v,some (.int at_),some (.str z),some (.str BIG),some (.int (c % 23))]) ⟨none,by rw[hat];rfl⟩ ?_ ?_ ?_
    ·rintro τ' v ⟨w,rfl⟩;exact⟨v,rfl⟩
    ·rintro τ' k x H' R ⟨w,rfl⟩ hτ hit hk hs hp' qX hR;have ew:w=some x:=by simpa using hτ
     subst ew hit;obtain⟨c2,hc2,hm⟩:=Js (xs:=BIG.cps.toList) (i:=c % 23 + (0 + (k:Int))) (by omega) (by rw[YFK];omega);have q1:=Txt.slice_le z none (some at_);have q2:=Txt.slice_le z (some at_) none;refine⟨_,rfl,_,rfl,_,rfl,z,rfl,YH (by omega),_,rfl,_,rfl,_,rfl,_,_,rfl,rfl,BIG,_,c2,rfl,rfl,YDZ,hc2,_,_,rfl,rfl,YH (by show _ + 1≤1000;omega),_,rfl,_,rfl,_,rfl,z,rfl,YH (by omega),_,_,rfl,rfl,YH (by rw[slen];show _ + 1 + _≤1000;omega),hR _ _ (YI.refl _) hp' ⟨_,rfl,YKv hz7 hzl (YBR hm) a0 (by omega)⟩⟩
    ·intro ys H' hy hP hs hp' hl';obtain⟨zs,rfl,hz⟩:=YBS hP;exact q l zs H' (by rw[YLD]at hy;exact hy) hz hs hp' hl hl'
theorem YEJ:YV ["_law_cell"] ["_law_cell"] (YJ YAN):=⟨rfl,rfl,rfl,by decide +kernel,rfl,by decide +kernel,by decide +kernel⟩
theorem YEK {f:Addr}{fd:FuncData} (F:Fun K "_law_worth" "_law_worth" YAN f fd) (T:Txt K mg C):Y6 P w K mg base CX0 1 f fd ["_law_cell"] (YGf):=by
 refine F.ok YEJ (fun vs H Q E h=>?_) (fun cdv A outer s H vs Q E hr h=>?_)
 ·obtain⟨c,rfl,_⟩:=h;rfl
 ·obtain⟨c,rfl,q⟩:=h;refine⟨_,(YF (Y3 (Ye Jq (YN ZK (pv 0) YD) YD (Yf _)) (YG (YX (YN ZK (YN Zm (pv 0) YD) (YN Yp (YN YJk YD YD) YD)))) Yc)
   (YG (YX (YN ZK (YN Zm (pv 0) YD) YD)))),?_⟩
  have big:(1000:Int)≤10 ^ 60:=by decide
  refine⟨_,rfl,_,_,rfl,rfl,(by show(0:Int) < 3;decide),rfl,_,rfl,YBA (fun _=>?_) fun _=>?_⟩
  ·refine⟨_,rfl,_,_,rfl,rfl,⟨by decide,by decide⟩,_,_,rfl,rfl,⟨by decide,by decide,by decide⟩,_,_,rfl,rfl,_,_,rfl,rfl,(by show(0:Int) < 10 ^ (60:Int).toNat + 1;decide),q _ ?_ ?_⟩
   ·exact Int.emod_nonneg _ (by decide)
   ·exact Int.le_of_lt_add_one (Int.emod_lt_of_pos _ (by decide))
  ·refine⟨_,rfl,_,_,rfl,rfl,⟨by decide,by decide⟩,_,_,rfl,rfl,(by show(0:Int) < 4;decide),q _ ?_ ?_⟩
   ·show 0≤c / 3 % 4;omega
   ·show c / 3 % 4≤10 ^ 60;omega
theorem Z3:YV ["_law_cell","_law_menu","_law_most","_law_size","_law_parts_here","_law_k"] ["_law_cell","_law_menu","_law_most"] (YJ YAO):=⟨rfl,rfl,rfl,by decide +kernel,rfl,by decide +kernel,by decide +kernel⟩
theorem YEL {f:Addr}{fd:FuncData} (F:Fun K "_law_parts" "_law_parts" YAO f fd) (T:Txt K mg C):Y6 P w K mg base CX0 1 f fd ["_law_cell","_law_menu","_law_most"] (YIf):=by
 refine F.ok Z3 (fun vs H Q E h=>?_) (fun cdv A outer s H vs Q E hr h=>?_)
 ·obtain⟨c,m,zs,n,rfl,_⟩:=h;rfl
 ·obtain⟨c,m,zs,n,rfl,hm,z1,z2,n0,n6,hp,q⟩:=h;refine⟨_,(YF (YK (i:=3) Z3.nd rfl (Or.inl rfl) (YN ZK (pv 0) (YN Yp (pv 2) YD)))
   (YF (YK (i:=0) Z3.nd rfl (Or.inl rfl) (YN Zm (pv 0) (YN Yp (pv 2) YD)))
   (YF (YK (i:=4) Z3.nd rfl (Or.inl rfl) (Y0 YC))
   (YF (ZQ PassesOwn.never rfl (Zo rfl T.bA (YA (pv 3) YC)) (Yd (i:=5) Z3.nd rfl (Or.inl rfl)) (YF (Yk (ZV K rfl PySem.F.plainAttrs_list PySem.F.slot_list_append PySem.F.type_list_append Yl (pv 4) (YA (YM (YW K rfl) (pv 1) (YN ZK (pv 0) (YR (YQ K rfl) (by rfl) T.aD PyProof.Rows.Boot.«len» (YA (pv 1) YC))) (fun _ _=>rfl)) YC)))
   (YG (YK (i:=0) Z3.nd rfl (Or.inl rfl) (YN Zm (pv 0) (YR (YQ K rfl) (by rfl) T.aD PyProof.Rows.Boot.«len» (YA (pv 1) YC)))))))
   (YG (YX (Z2 (YDQ K rfl) (by rfl) T.jV PyProof.Rows.Boot.«tuple» (YA (pv 4) YC)))))))),?_⟩
  refine⟨_,rfl,_,rfl,_,_,rfl,rfl,_,_,rfl,rfl,(by show(0:Int) < n + 1;omega),?_⟩;refine⟨_,rfl,_,rfl,_,_,rfl,rfl,_,_,rfl,rfl,⟨by omega,by omega⟩,?_⟩;have s0:0≤c % (n + 1):=Int.emod_nonneg _ (by omega);have s1:c % (n + 1) < n + 1:=Int.emod_lt_of_pos _ (by omega);obtain⟨sz,hsz⟩:∃sz,sz=c % (n + 1):=⟨_,rfl⟩;rw[←hsz]at s0 s1;refine⟨YLN _,fun l hl=>?_⟩;refine⟨_,rfl,sz,by rw[hsz],(YAW (by omega) (by omega)).1,(YAW (by omega) (by omega)).2,?_⟩;have nml:m≠l:=Ya hm hl;refine JA (lo:=0) (n:=sz.toNat) (fun i σ H2=>∃(ps:List Str) (x:Int) (v:Option V),H2=upd H l (.lst (ps.map V.str))∧ps.length=i∧(∀p∈ps,p∈zs)∧σ=[some (.int x),some (.ref m),some (.int n),some (.int sz),some (.ref l),v]) ⟨[],_,none,rfl,rfl,by simp,by rw[hsz];rfl⟩ ?_ ?_
  ·rintro i σ H2 hi ⟨ps,x,v,rfl,hpl,hpm,rfl⟩;have hm2:upd H l (.lst (ps.map V.str)) m=some (.lst (zs.map V.str)):=by rw[YE nml];exact hm
   have hzl:((zs.map V.str).length:Int)=(zs.length:Int):=by rw[YLD]
   obtain⟨y,hy,hmem⟩:=Js (xs:=zs.map V.str) (i:=x % ((zs.map V.str).length:Int)) (Int.emod_nonneg _ (by omega)) (Int.emod_lt_of_pos _ (by omega));obtain⟨z,hz,rfl⟩:=List.mem_map.mp hmem;refine⟨_,rfl,.inl ⟨rfl,_,SqL.of YB⟩,_,rfl,_,rfl,_,rfl,m,_,rfl,.inl (SqL.of hm2),_,_,rfl,rfl,(by omega),m,_,_,_,rfl,rfl,SqL.of hm2,hy,l,_,.str z,rfl,rfl,YB,?_,?_⟩
   ·rw[YLD];exact YLX (show _ < 1000 by omega) (YH (YLG _))
   ·refine⟨_,rfl,_,rfl,m,zs.map V.str,rfl,.inl (SqL.of ?_),_,_,rfl,rfl,⟨by show(0:Int) < ((zs.map V.str).length:Int);omega,by show((zs.map V.str).length:Int) < 1073741824;omega⟩,ps ++ [z],_,_,?_,by rw[YLE,hpl];rfl,?_,rfl⟩
    ·rw[YC1,YE nml];exact hm
    ·rw[YC1,YLK];rfl
    ·intro p hp;rcases List.mem_append.mp hp with h |h
     ·exact hpm p h
     ·rw[List.mem_singleton.mp h];exact hz
  ·rintro σ H2 ⟨ps,x,v,rfl,hpl,hpm,rfl⟩;refine⟨_,rfl,l,_,rfl,.inl ⟨SqL.of YB,fun t ht=>?_⟩⟩;have s2:=YI.upd (o:=.lst (ps.map V.str)) hl;exact q t ps _ (by omega) hpm (s2.trans (YI.upd ht)) ((hp.upd rfl).upd rfl) (s2.free ht) YB
end
abbrev XX:Stmt:=top 40
abbrev Xw:Stmt:=top 41
abbrev YAs:Stmt:=top 42
abbrev Xl:Stmt:=top 43
abbrev YBe:Stmt:=top 44
abbrev YAt:Stmt:=top 45
abbrev YAu:Stmt:=top 46
theorem YCV:(["_law_sign"]:List Str).Nodup:=by decide +kernel
theorem YGh (ss:List Str) (lo hi:Option Int):∃zs:List Str,YCB (ss.map V.str) lo hi=zs.map V.str∧(∀z∈zs,z∈ss)∧zs.length≤ss.length:=by
 refine⟨(ss.drop (HT.sIx (ss.map V.str).length 0 lo)).take (HT.sIx (ss.map V.str).length (ss.map V.str).length hi - HT.sIx (ss.map V.str).length 0 lo),?_,fun z hz=>List.mem_of_mem_drop (List.mem_of_mem_take hz),?_⟩
 ·unfold YCB;rw[List.map_take,List.map_drop]
 ·rw[List.length_take,YLd];omega
theorem YEx {H:Hp}:∀{xs:List V}{ds:List D},Yb H xs ds→Yb H xs.reverse ds.reverse
 |[],[],_=>.nil
 |[],_ :: _,h=>by unfold Yb at h;exact h.elim
 |_ :: _,[],h=>by unfold Yb at h;exact h.elim
 |x :: xs,d :: ds,h=>by
  unfold Yb at h;rw[YLg,YLg];exact(YEx h.2).append (.cons h.1 .nil)
theorem YGi (c:Nat):isQ (("'":Str) ++ ⟨#[c]⟩)=true:=by
 rw[Ju,YAh];rfl
theorem YJY (xs:List V) (n:Nat) (h:n≤xs.length):YCB xs none (some (n:Int))=xs.take n:=by
 unfold YCB;have e2:HT.sIx xs.length xs.length (some (n:Int))=min n xs.length:=HT.sIx_nat _ _ n;rw[e2,Nat.min_eq_left h];rfl
theorem YDC (bs:List Str):eqD (.lst (bs.map D.str)) (.lst [])=decide (bs=[]):=by
 cases bs with
 |nil=>rfl
 |cons b bs=>rfl
theorem YGj {s:Sz}{z:Str}{n:Int} (h:¬z∈s.map (·.1)):YF3 s z n=s ++ [(z,n)]:=by
 induction s with
 |nil=>rfl
 |cons p s ih=>
  rw[YLS,List.mem_cons,not_or]at h;unfold YF3;rw[if_neg (fun e=>h.1 e.symm),ih h.2];rfl
def YHk (g:YT):Prop:=g≠[]∧(∀r∈g,∃r'∈g,r'.1=r.1∧(∀p∈r'.2.1,isQ p=true)∧r'.2.1.length≤2)∧∃nm:List Str,nm.length=4∧(∀r∈g,r.1∈nm∧∀p∈r.2.1,isQ p=false→p∈nm)∧g.length≤50
inductive YIg (K:W.Frag) (vs:List V) (H:Hp) (Q:VK):Prop where
 |mk (a:Addr) (ns:List Int) (h0_:vs=[.ref a]) (h1_:SqL K H a (ns.map V.int)) (h2_:ns.length≤63) (h3_:YU H) (h4_:∀l xs g H',Yv g=true→YHk g→YI H H'→YU H'→H l=none→H' l=some (.lst xs)→Yb H' xs (g.map ZS)→Q (.ref l) H'):YIg K vs H Q
def YKx (K:W.Frag):Sp:=fun vs H Q E_=>YIg K vs H Q
structure ShOk (g:YT) (e:Sz):Prop where
 nd:(e.map (·.1)).Nodup
 at_:∀z v,look e z=some v→∃(k:Nat) (r:ZW),v=(k:Int)∧g[k]?=some r∧r.1=z∧(∀p∈r.2.1,isQ p=true)∧r.2.1.length≤2
inductive YEy (vs:List V) (H:Hp) (Q:VK):Prop where
 |mk (l:Addr) (xs:List V) (g:YT) (h0_:vs=[.ref l]) (h1_:H l=some (.lst xs)) (h2_:Yb H xs (g.map ZS)) (h3_:Yv g=true) (h4_:YU H) (h5_:∀d e H',ShOk g e→(∀r∈g,(∀p∈r.2.1,isQ p=true)→r.2.1.length≤2→r.1∈e.map (·.1))→YI H H'→YU H'→H d=none→H' d=some (.dK (szD e))→Q (.ref d) H'):YEy vs H Q
def YGk:Sp:=fun vs H Q E_=>YEy vs H Q
def ZI (ps:List Str):Nat:=(ps.map fun p=>if isQ p=true then 1 else 2).sum
inductive YIh (vs:List V) (H:Hp) (Q:VK):Prop where
 |mk (p:Addr) (ps:List Str) (h0_:vs=[.ref p]) (h1_:(H p=some (.lst (ps.map V.str))∨H p=some (.tup (ps.map V.str)))) (h2_:(∀x∈ps,Yo x=true)) (h3_:ps.length≤1000) (h4_:YU H) (h5_:∀H',YI H H'→YU H'→Q (.int (ZI ps:Nat)) H'):YIh vs H Q
def YHl:Sp:=fun vs H Q E_=>YIh vs H Q
theorem YDt:∀ps:List Str,(ps.map fun p=>if isQ p=true then (1:Int) else 2).sum=(ZI ps:Int)
 |[]=>rfl
 |p :: ps=>by
  unfold ZI;rw[YLS,YLS,List.sum_cons,List.sum_cons,YDt ps];unfold ZI;split <;> omega
theorem YEz {J:It}{H:Hp}{lb:Addr}{ps:List Str}{v:Option V}{Q:VK} (hJ:YFG J ps.length H fun i x _=>(ps.map V.str)[i]?=some x) (hps:∀x∈ps,Yo x=true) (h6:ps.length≤1000) (pl:YU H) (hlb:H lb=none)
  (hq:∀H',YI H H'→YU H'→H' lb=some (.lst ((ps.map fun p=>if isQ p=true then (1:Int) else 2).map V.int))→Q (.ref lb) H'):
  YAc J (ZH 0) tYes (tOp (rI0 fun i j=>.int (i + j)) (tC (.int 1)) (tCB (fun xs H Q=>(∃i,xs=[V.int i]∧Q (V.int i) H)∨∃k,xs=[V.bl k]∧Q (V.int (if k=true then 1 else 0)) H) (YHy (tOp rNe (tOp rIxS (tVar 0) (tC (.int 0))) (tC (.str "'"))) tNil))) Q lb [v] H:=by
 refine YC7 ps (fun x=>some (.int (if isQ x=true then 1 else 2))) hJ pl hlb (YH h6) (fun τ'=>∃v,τ'=[v]) ⟨_,rfl⟩ ?_ ?_
 ·rintro τ' k x y H' Q1 Q2 ⟨v,rfl⟩ hx hit hs hp' hQ1 hQ2;rw[YLI,hx]at hit;cases hit;obtain⟨c,hc,hlen,hdec⟩:=JL (hps x (YLH hx));refine⟨_,rfl,x,0,c,rfl,rfl,YH (by omega),hc,rfl,.inr ⟨_,rfl,_,_,rfl,rfl,?_⟩⟩;rw[hdec];refine hQ1 _ _ _ ⟨_,rfl⟩ (YI.refl _) hp' ?_;cases isQ x <;> rfl
 ·intro H3 s3 p3 h3;refine hq H3 s3 p3 ?_;rw[h3,List.map_map,←List.filterMap_eq_map];rfl
theorem YIi {H5 H:Hp}{l:Addr}{xs:List V}{g:YT} (h:H l=some (.lst xs)) (hds:Yb (del H l) xs (g.map ZS)) (s:YI H5 H) (hl:H5 l=none) (p:YU H) {t1 t2:Addr} (r:ZW) (h1:H t1=none) (h2:upd H t1 (.tup (r.2.1.map V.str)) t2=none):
  ∃Ha,upd (upd (upd H t1 (.tup (r.2.1.map V.str))) t2 (.tup [.str r.1,.ref t1,.int r.2.2])) l (.lst (xs ++ [.ref t2]))=Ha∧Ha l=some (.lst (xs ++ [.ref t2]))∧Yb (del Ha l) (xs ++ [.ref t2]) ((g ++ [r]).map ZS)∧YI H5 Ha∧YU Ha:=by
 have u1:=YI.upd (o:=.tup (r.2.1.map V.str)) h1;have u2:=YI.upd (o:=.tup [.str r.1,.ref t1,.int r.2.2]) h2;have nt1:t1≠l:=fun z=>by rw[z,h]at h1;cases h1
 have nt2:t2≠l:=fun z=>by rw[z,u1 _ _ h]at h2;cases h2
 refine⟨_,rfl,YB,?_,(s.trans (u1.trans u2)).put hl,((p.upd rfl).upd rfl).upd rfl⟩;rw[YC6,YLK];refine(hds.same ((u1.trans u2).del l)).append (.cons ?_ .nil);refine .tup (show del _ l t2=some _ from ?_) (.cons (.str _) (.cons (.tup (show del _ l t1=some _ from ?_) (Yb.strs r.2.1)) (.cons (.int _) .nil)))
 ·rw[Zy nt2];exact YB
 ·rw[Zy nt1];exact u2 _ _ YB
section
variable {P:Program}{w:World}{K:W.Frag}{mg:Str→Option Value}{base:Heap}{C:Adr}
theorem Ym:YV ["_law_script","_law_names_here","_law_signs_here","_law_way","_law_heads","_law_menu","_law_rules","_law_k","_law_cell","_law_parts_here"] ["_law_script"] (YJ XX):=⟨rfl,rfl,rfl,by decide +kernel,rfl,by decide +kernel,by decide +kernel⟩
theorem YCy {f:Addr}{fd:FuncData} (F:Fun K "_law_grammar" "_law_grammar" XX f fd) (T:Txt K mg C) (dq:Zq P w K mg CX0 1 "_law_names" ["_law_cell"] (YIe)) (bu:Zq P w K mg CX0 2 "_law_mixed" ["_law_script","_law_k"] (YFT K)) (du:Zq P w K mg CX0 1 "_law_parts" ["_law_cell","_law_menu","_law_most"] (YIf)) (dw:Zq P w K mg CX0 1 "_law_signs" ["_law_cell"] (YId)) (dz:Zq P w K mg CX0 1 "_law_worth" ["_law_cell"] (YGf)) (aV:Zq P w K mg CX0 1 "_law_cell_at" ["_law_script","_law_k"] (YHI K)):Y6 P w K mg base CX0 3 f fd ["_law_script"] (YKx K):=by
 obtain⟨rC,qK,kj,km,kE,kI⟩:=dq.ok;obtain⟨kJ,jE,aW,aX,aY,aZ⟩:=bu.ok;obtain⟨rD,qL,gO,gP,gQ,gR⟩:=du.ok;obtain⟨rE,qM,kO,kW,kY,kZ⟩:=dw.ok;obtain⟨rF,qN,gU,gW,gY,gZ⟩:=dz.ok;obtain⟨jd,iU,bI,bJ,bK,bL⟩:=aV.ok;refine F.ok Ym (fun vs H Q E h=>?_) (fun cdv A outer s H vs Q E hr h=>?_)
 ·obtain⟨a,ns,rfl,_⟩:=h;rfl
 ·obtain⟨a,ns,rfl,hS,hn,hp,q⟩:=h;refine⟨_,(YF (YK (i:=1) Ym.nd rfl (Or.inl rfl) (YY (kj base) (hr.mono (by decide)) (by rfl) km kE kI .nil Yg (YA (YY (aW base) (hr.mono (by decide)) (by rfl) aX aY aZ .nil Yg (YA (pv 0) (YA YD YC))) YC)))
   (YF (YFH (N:=["_law_sign"]) (ρ:=[none]) (cl:=[]) (i:=2) Ym.nd rfl rfl rfl (Yz.plain rfl (by decide +kernel) (by decide +kernel) rfl (by simp)) (JE K rfl (YY (kO base) (hr.mono (by decide)) (by rfl) kW kY kZ .nil Yg (YA (YY (aW base) (hr.mono (by decide)) (by rfl) aX aY aZ .nil Yg (YA (pv 0) (YA YD YC))) YC))) (fun _ _ _ _ _=>(Yd (i:=0) YCV rfl (Or.inl rfl) (.inr rfl))) (fun _ _ _ _ _=>Jp) (fun _ _ _ _ _=>(YN JK Zj (pv 0))))
   (YF (YK (i:=3) Ym.nd rfl (Or.inl rfl) (YY (aW base) (hr.mono (by decide)) (by rfl) aX aY aZ .nil Yg (YA (pv 0) (YA YD YC))))
   (YF (YK (i:=4) Ym.nd rfl (Or.inl rfl) (XI (YAe K rfl) (pv 1) YBk (J5 (YN Yp YD (YN ZK (pv 3) YD)))))
   (YF (YK (i:=5) Ym.nd rfl (Or.inl rfl) (YN YFB (YN YFB (YN YFB (YN YFB (pv 4) (XI (YAe K rfl) (pv 2) YBk (J5 YD))) (pv 4)) (pv 2)) (XI (YAe K rfl) (pv 1) (J5 YD) YBk)))
   (YF (YK (i:=6) Ym.nd rfl (Or.inl rfl) (Y0 YC))
   (YF (ZQ PassesOwn.never rfl (Zo rfl T.bA (YA (YR (YQ K rfl) (by rfl) T.aD PyProof.Rows.Boot.«len» (YA (pv 4) YC)) YC)) (Yd (i:=7) Ym.nd rfl (Or.inl rfl)) (YF (YK (i:=8) Ym.nd rfl (Or.inl rfl) (YY (aW base) (hr.mono (by decide)) (by rfl) aX aY aZ .nil Yg (YA (pv 0) (YA (YN Yp YD (pv 7)) YC))))
   (YG (Yk (ZV K rfl PySem.F.plainAttrs_list PySem.F.slot_list_append PySem.F.type_list_append Yl (pv 6) (YA (Yy (YA (YM (YW K rfl) (pv 4) (pv 7) (fun _ _=>rfl)) (YA (YY (gO base) (hr.mono (by decide)) (by rfl) gP gQ gR .nil Yg (YA (pv 8) (YA (pv 2) (YA YD YC)))) (YA (YY (gU base) (hr.mono (by decide)) (by rfl) gW gY gZ .nil Yg (YA (YY (bI base) (hr.mono (by decide)) (by rfl) bJ bK bL .nil Yg (YA (pv 0) (YA (YN Yp YD (pv 7)) YC))) YC)) YC)))) YC))))))
   (YF (ZQ PassesOwn.never rfl (Zo rfl T.bA (YA (YN Yp YD (YN ZK (YN Zm (pv 3) YD) YD)) YC)) (Yd (i:=7) Ym.nd rfl (Or.inl rfl)) (YF (YK (i:=8) Ym.nd rfl (Or.inl rfl) (YY (aW base) (hr.mono (by decide)) (by rfl) aX aY aZ .nil Yg (YA (pv 0) (YA (YN Yp YD (pv 7)) YC))))
   (YF (YK (i:=9) Ym.nd rfl (Or.inl rfl) (YY (gO base) (hr.mono (by decide)) (by rfl) gP gQ gR .nil Yg (YA (YN Zm (pv 8) YD) (YA (pv 5) (YA (YN Yp YD (YN YAZ YD (Z2 YAw (by rfl) T.lA PyProof.Rows.Boot.«int» (YA (JH Jq (YN ZK (YN Zm (pv 3) YD) YD) (pv 7) (Yf _)) YC)))) YC)))))
   (YG (Yk (ZV K rfl PySem.F.plainAttrs_list PySem.F.slot_list_append PySem.F.type_list_append Yl (pv 6) (YA (Yy (YA (YM (YW K rfl) (pv 4) (YN ZK (YN ZK (pv 8) YD) (YR (YQ K rfl) (by rfl) T.aD PyProof.Rows.Boot.«len» (YA (pv 4) YC))) (fun _ _=>rfl)) (YA (pv 9) (YA (YY (gU base) (hr.mono (by decide)) (by rfl) gW gY gZ .nil Yg (YA (YY (bI base) (hr.mono (by decide)) (by rfl) bJ bK bL .nil Yg (YA (pv 0) (YA (YN Yp YD (pv 7)) YC))) YC)) YC)))) YC)))))))
   (YF (Y3 (Ye Jq (YN ZK (YN Zm (pv 3) YD) YD) YD (Yf _)) (YF (Yk (ZV K rfl PySem.F.plainAttrs_list PySem.F.slot_list_append PySem.F.type_list_append Yl (pv 6) (YA (Yy (YA (YM (YW K rfl) (pv 4) YD (fun _ _=>rfl)) (YA (Yy (YA (YM (YW K rfl) (pv 4) (pe_un YG3 YD) (fun _ _=>rfl)) YC)) (YA YD YC)))) YC)))
   (YG (Yk (ZV K rfl PySem.F.plainAttrs_list PySem.F.slot_list_append PySem.F.type_list_append Yl (pv 6) (YA (Yy (YA (YM (YW K rfl) (pv 4) (pe_un YG3 YD) (fun _ _=>rfl)) (YA (Yy (YA (YM (YW K rfl) (pv 4) YD (fun _ _=>rfl)) YC)) (YA YD YC)))) YC))))) Yc)
   (YF (Y3 (Ye Jq (YN ZK (YN Zm (pv 3) YD) YD) YD (Yf _)) (YG (Yk (Xg K rfl PySem.F.plainAttrs_list PySem.F.slot_list_reverse PySem.F.type_list_reverse YDK (pv 6)))) Yc)
   (YG (YX (pv 6))))))))))))),?_⟩
  refine⟨_,rfl,a,ns,0,rfl,hS,by decide,by decide,fun v0 a0 b0=>⟨_,rfl,a0,by omega,hp,fun ln nm H1 n4 nN s1 p1 hln h1=>?_⟩⟩;refine⟨_,rfl,a,ns,1,rfl,s1.seq hS,by decide,by decide,fun v1 _ _=>⟨_,rfl,p1,fun lg c1 c2 c3 H2 g1 g2 g3 s2 p2 hlg h2=>⟨lg,rfl,⟨_,SqL.of h2⟩,fun ls hls=>?_⟩⟩⟩;refine XM (n:=3) 0 (fun k y _=>∃z,y=.str z∧(Yo z=true∧isQ z=true)) (YBO (SqL.of (K:=K) h2)) (fun _ _ _ _ _ h=>h) p2 hls Nat.zero_lt_one (YH (by decide)) (fun τ'=>0 < τ'.length) Nat.zero_lt_one (fun τ' v h=>by rw[List.length_set];exact h) ?_ ?_
  ·intro τ' k y H' R _ hτ hit hk hs hp' qX hR;obtain⟨c,hc,rfl⟩:∃c:Nat,good c=true∧y=.str ⟨#[c]⟩:=by
    have hm:=YLH hit;simp only[List.mem_cons,List.not_mem_nil,or_false]at hm;rcases hm with rfl |rfl |rfl
    ·exact⟨c1,g1,rfl⟩
    ·exact⟨c2,g2,rfl⟩
    ·exact⟨c3,g3,rfl⟩
   exact⟨_,hτ,"'",_,rfl,rfl,YH (by show 1 + 1≤1000;decide),hR _ _ (YI.refl _) hp' ⟨_,rfl,YJL hc,YGi c⟩⟩
  intro ys H3 hy hP s3 p3 h3;obtain⟨sg,rfl,hsg⟩:=YBS hP;have sg3:sg.length=3:=by rw[YLD]at hy;exact hy
  have s13:=s2.trans s3;have h13:=s13 _ _ h1;have s03:=s1.trans s13;refine⟨_,rfl,a,ns,2,rfl,s03.seq hS,by decide,by decide,fun way wa wb=>?_⟩;obtain⟨hn',hhn,hn1,hn3⟩:∃n:Nat,1 + way % 3=(n:Int)∧1≤n∧n≤3:=⟨(1 + way % 3).toNat,by omega,by omega,by omega⟩;refine⟨_,rfl,_,rfl,_,_,rfl,rfl,(show(0:Int) < 3 by decide),_,_,rfl,rfl,_,rfl,ln,_,rfl,SqL.of h13,fun lh hlh=>?_⟩;have eh:YCB (nm.map V.str) none (some (1 + way % 3))=(nm.take hn').map V.str:=by rw[hhn,YJY _ _ (by rw[YLD];omega),List.map_take]
  rw[eh];obtain⟨hs,ehs⟩:∃hs,nm.take hn'=hs:=⟨_,rfl⟩;have hsl:hs.length=hn':=by rw[←ehs,List.length_take];omega
  have hsn:∀z∈hs,z∈nm:=fun z hz=>by rw[←ehs]at hz;exact List.mem_of_mem_take hz
  rw[ehs];have s4:=YI.upd (o:=.lst (hs.map V.str)) hlh;have h4:upd H3 lh (.lst (hs.map V.str)) lh=some (.lst (hs.map V.str)):=YB;have p4:YU (upd H3 lh (.lst (hs.map V.str))):=p3.upd rfl;revert s4 h4 p4;generalize upd H3 lh (.lst (hs.map V.str))=H4;intro s4 h4 p4;have hS4:=(s03.trans s4).seq hS;have vz:=s4 _ _ h13;have tV:=s4 _ _ h3;refine⟨_,rfl,_,rfl,2,rfl,ls,_,rfl,SqL.of tV,fun q1 hq1=>?_⟩;obtain⟨z1,ez1,hz1,lz1⟩:=YGh sg none (some 2);rw[ez1];have t1:=YI.upd (o:=.lst (z1.map V.str)) hq1;refine⟨lh,q1,_,_,rfl,rfl,t1 _ _ h4,YB,YH (by rw[YLD,YLD];omega),fun q2 hq2=>?_⟩;rw[←YLK];have t2:=t1.trans (YI.upd (o:=.lst ((hs ++ z1).map V.str)) hq2);refine⟨_,rfl,q2,lh,_,_,rfl,rfl,YB,t2 _ _ h4,YH (by simp only[YLD,YLE];omega),fun q3 hq3=>?_⟩;rw[←YLK];have t3:=t2.trans (YI.upd (o:=.lst ((hs ++ z1 ++ hs).map V.str)) hq3);refine⟨_,rfl,q3,ls,_,_,rfl,rfl,YB,t3 _ _ tV,YH (by simp only[YLD,YLE];omega),fun q4 hq4=>?_⟩;rw[←YLK];have t4:=t3.trans (YI.upd (o:=.lst ((hs ++ z1 ++ hs ++ sg).map V.str)) hq4);have w4:∀{Hx:Hp},upd Hx q4 (.lst ((hs ++ z1 ++ hs ++ sg).map V.str)) q4=some (.lst ((hs ++ z1 ++ hs ++ sg).map V.str)):=YB;refine⟨_,rfl,3,rfl,ln,_,rfl,SqL.of (t4 _ _ vz),fun q5 hq5=>?_⟩;obtain⟨z5,ez5,hz5,lz5⟩:=YGh nm (some 3) none;rw[ez5];have u5:=YI.upd (o:=.lst (z5.map V.str)) hq5;have t5:=t4.trans u5;refine⟨q4,q5,_,_,rfl,rfl,u5 _ _ w4,YB,YH (by simp only[YLD,YLE];omega),fun lm hlm=>?_⟩;rw[←YLK];obtain⟨menu,hmn⟩:∃M,hs ++ z1 ++ hs ++ sg ++ z5=M:=⟨_,rfl⟩;have hm0:∀p∈menu,Yo p=true∧(isQ p=false→p∈nm):=fun p hp=>by
   rw[←hmn]at hp;rcases List.mem_append.mp hp with hp |hp
   ·rcases List.mem_append.mp hp with hp |hp
    ·rcases List.mem_append.mp hp with hp |hp
     ·rcases List.mem_append.mp hp with hp |hp
      ·exact⟨YA6 (nN p (hsn p hp)),fun _=>hsn p hp⟩
      ·have:=hsg p (hz1 p hp);exact⟨this.1,fun h=>by rw[this.2]at h;cases h⟩
     ·exact⟨YA6 (nN p (hsn p hp)),fun _=>hsn p hp⟩
    ·have:=hsg p hp;exact⟨this.1,fun h=>by rw[this.2]at h;cases h⟩
   ·exact⟨YA6 (nN p (hz5 p hp)),fun _=>hz5 p hp⟩
  have hml:1≤menu.length∧menu.length≤100:=by
   rw[←hmn];simp only[YLE];omega
  rw[hmn];have s5:=t5.trans (YI.upd (o:=.lst (menu.map V.str)) hlm);have m5:∀{Hx:Hp},upd Hx lm (.lst (menu.map V.str)) lm=some (.lst (menu.map V.str)):=YB;obtain⟨H5,e5⟩:∃H5,upd (upd (upd (upd (upd (upd H4 q1 (.lst (z1.map V.str))) q2 (.lst ((hs ++ z1).map V.str))) q3 (.lst ((hs ++ z1 ++ hs).map V.str))) q4 (.lst ((hs ++ z1 ++ hs ++ sg).map V.str))) q5 (.lst (z5.map V.str))) lm (.lst (menu.map V.str))=H5:=⟨_,rfl⟩;have p5:YU H5:=by rw[←e5];exact(((((p4.upd rfl).upd rfl).upd rfl).upd rfl).upd rfl).upd rfl
  rw[e5]at s5;have hm5:H5 lm=some (.lst (menu.map V.str)):=by rw[←e5];exact m5
  rw[e5];have hS5:=s5.seq hS4;have vA:=s5 _ _ tV;have p_:=s5 _ _ h4;have s05:=(s03.trans s4).trans s5;clear t1 t2 t3 t4 u5 t5 m5 w4 e5 hlm hq5 hq4 hq3 hq2 hq1;refine⟨YLN _,fun l hl=>?_⟩;have sl:=YI.upd (o:=.lst []) hl;refine⟨_,rfl,lh,_,rfl,.inl (SqL.of (sl _ _ p_)),(hs.length:Int),by rw[YLD],(YAW (by omega) (by omega)).1,(YAW (by omega) (by omega)).2,?_⟩;refine JA (lo:=0) (n:=((hs.length:Nat):Int).toNat) (fun i σ H6=>∃(g:YT) (xs:List V) (v7 v8:Option V),σ=[some (.ref a),some (.ref ln),some (.ref ls),some (.int way),some (.ref lh),some (.ref lm),some (.ref l),v7,v8,none]∧H6 l=some (.lst xs)∧Yb (del H6 l) xs (g.map ZS)∧g.length=i∧g.all Z7=true∧YI H5 H6∧YU H6∧
    ∀(j:Nat) r,g[j]?=some r→hs[j]?=some r.1∧(∀p∈r.2.1,isQ p=true)∧r.2.1.length≤2)
   ⟨[],[],none,none,rfl,YB,.nil,rfl,rfl,sl,p5.upd rfl,(fun j r hr=>nomatch hr)⟩ ?_ ?_
  ·rintro i σ H6 hi ⟨g,xs,v7,v8,rfl,h6,hds,hgl,hgo,s6,p6,hfc⟩;have hxl:xs.length=i:=by rw[hds.len,YLD,hgl]
   have hih:i < hs.length:=by omega
   refine⟨_,rfl,_,rfl,_,_,rfl,rfl,a,ns,_,rfl,s6.seq hS5,by omega,by omega,fun v a1 b1=>?_⟩;have hy1:atI (hs.map V.str) (0 + (i:Int))=some (.str hs[i]):=by rw[Int.zero_add];exact ZT (by rw[YLI,YLF hih];rfl)
   refine⟨_,rfl,.inl ⟨rfl,_,SqL.of h6⟩,_,rfl,_,rfl,lh,_,_,_,rfl,rfl,SqL.of (s6 _ _ p_),hy1,?_⟩;refine⟨_,rfl,_,rfl,_,ls,sg,2,rfl,s6 _ _ vA,by omega,by omega,by decide,by decide,p6,fun t ps H7 hps hpm s7 p7 ht0 ht=>?_⟩;refine⟨_,rfl,_,rfl,_,_,rfl,rfl,a,ns,_,rfl,(s6.trans s7).seq hS5,by omega,fun v2=>⟨_,rfl,fun wz w0 w1=>⟨YH (by show 3≤1000;decide),fun tt htt=>?_⟩⟩⟩;have t8:=YI.upd (o:=.tup [.str hs[i],.ref t,.int wz]) htt;have ntl:tt≠l:=fun z=>by
    have:=s7 _ _ h6;rw[z,this]at htt;cases htt
   have ntt:t≠l:=fun z=>by
    rw[z,h6]at ht0;cases ht0
   refine⟨l,xs,_,rfl,rfl,(s7.trans t8) _ _ h6,YLX (show xs.length < 1000 by omega) (YH (YLG _)),?_⟩;refine⟨g ++ [(hs[i],ps,wz)],xs ++ [.ref tt],_,_,rfl,YB,?_,by rw[YLE,hgl];rfl,?_,((s6.trans s7).trans t8).put hl,(p7.upd rfl).upd rfl,fun j r hr=>?_⟩
   ·rw[YC6,YLK];refine(hds.same ((s7.trans t8).del l)).append (.cons ?_ .nil);refine .tup (show del _ l tt=some _ from ?_) (.cons (.str _) (.cons (.tup (show del _ l t=some _ from ?_) (Yb.strs ps)) (.cons (.int _) .nil)))
    ·rw[Zy ntl];exact YB
    ·rw[Zy ntt];exact t8 _ _ ht
   ·rw[List.all_append,hgo];show(true && [((hs[i],ps,wz):ZW)].all Z7)=true;rw[List.all_cons,YCK (r:=(hs[i],ps,wz)) (nN _ (hsn _ (List.getElem_mem hih))) (by show ps.length≤6;omega) (fun p hp=>(hsg p (hpm p hp)).1) w0 w1];rfl
   ·by_cases hj:j < g.length
    ·rw[YLZ hj]at hr;exact hfc j r hr
    ·rw[YLV (by omega)]at hr;have hj0:j=i:=by
      have:=(List.getElem?_eq_some_iff.mp hr).1;simp only[YLM,List.length_nil]at this;omega
     subst hj0;rw[hgl,Nat.sub_self]at hr;cases hr;exact⟨YLF hih,fun p hp=>(hsg p (hpm p hp)).2,by show ps.length≤2;omega⟩
  ·rintro σ H6 ⟨g,xs,v7,v8,rfl,h6,hds,hgl,hgo,s6,p6,hfc⟩;have hgl:g.length=hs.length:=by omega
   have hshort:∀z∈hs,∃r∈g,r.1=z∧(∀p∈r.2.1,isQ p=true)∧r.2.1.length≤2:=fun z hz=>by
    obtain⟨j,hj,ez⟩:=List.mem_iff_getElem.mp hz;have hjg:j < g.length:=by omega
    obtain⟨e1,e2,e3⟩:=hfc j g[j] (YLF hjg);refine⟨g[j],List.getElem_mem hjg,?_,e2,e3⟩;rw[YLF hj,ez]at e1;exact(Option.some.inj e1).symm
   have hgen:∀r∈g,r.1∈hs∧∀p∈r.2.1,isQ p=false→p∈nm:=fun r hr=>by
    obtain⟨j,hj,ez⟩:=List.mem_iff_getElem.mp hr;obtain⟨e1,e2,e3⟩:=hfc j r (by rw[YLF hj,ez]);exact⟨YLH e1,fun p hp h=>by rw[e2 p hp]at h;cases h⟩
   obtain⟨N,hN,N0,N1⟩:∃N:Int,1 + way / 3 % 4=N∧0≤N∧N≤4:=⟨_,rfl,by omega,by omega⟩;refine⟨_,rfl,_,_,rfl,rfl,⟨by decide,by decide⟩,_,_,rfl,rfl,(show(0:Int) < 4 by decide),_,_,rfl,rfl,N,by rw[←hN],(YAW (by omega) (by omega)).1,(YAW (by omega) (by omega)).2,?_⟩;refine JA (lo:=0) (n:=N.toNat) (fun i σ H7=>∃(g':YT) (xs':List V) (v7 v8 v9:Option V),σ=[some (.ref a),some (.ref ln),some (.ref ls),some (.int way),some (.ref lh),some (.ref lm),some (.ref l),v7,v8,v9]∧H7 l=some (.lst xs')∧Yb (del H7 l) xs' (g'.map ZS)∧g'.length=hs.length + i∧g'.all Z7=true∧YI H5 H7∧YU H7∧
     (∀r∈g,r∈g')∧∀r∈g',r.1∈hs∧∀p∈r.2.1,isQ p=false→p∈nm)
    ⟨g,xs,_,_,_,rfl,h6,hds,hgl,hgo,s6,p6,(fun r hr=>hr),hgen⟩ ?_ ?_
   ·rintro i σ H7 hi ⟨g',xs',v7,v8,v9,rfl,h7,qb,qd,tX,s7,p7,hsub,je⟩;have hxl:xs'.length=hs.length + i:=by rw[qb.len,YLD,qd]
    refine⟨_,rfl,_,rfl,_,_,rfl,rfl,a,ns,_,rfl,s7.seq hS5,by omega,by omega,fun v a1 b1=>?_⟩;obtain⟨mo,emo,mo0,mo1⟩:∃mo:Int,3 + 3 * (if decide (V.int (way / 24 % 5)=V.int (0 + (i:Int)))=true then 1 else 0)=mo∧0≤mo∧mo≤6:=⟨_,rfl,by split <;> decide,by split <;> decide⟩;refine⟨_,rfl,_,_,rfl,rfl,⟨by decide,by decide⟩,_,rfl,_,rfl,_,_,rfl,rfl,⟨by decide,by decide⟩,_,_,rfl,rfl,(show(0:Int) < 5 by decide),_,rfl,rfl,.inr ⟨_,rfl,_,_,rfl,rfl,.inl ⟨by decide,by decide⟩,_,_,rfl,rfl,v / 3,lm,menu,mo,by rw[←emo];rfl,s7 _ _ hm5,hml.1,hml.2,mo0,mo1,p7,fun t ps H8 hps hpm s8 p8 ht0 ht=>?_⟩⟩;obtain⟨y,hy1,hm1⟩:=Js (xs:=hs.map V.str) (i:=v % 3 % ((hs.map V.str).length:Nat)) (Int.emod_nonneg _ (by rw[YLD];omega)) (Int.emod_lt_of_pos _ (by rw[YLD];omega));obtain⟨hd,hhd,rfl⟩:=List.mem_map.mp hm1;have sq8:SqL K H8 lh (hs.map V.str):=SqL.of ((s7.trans s8) _ _ p_);refine⟨_,rfl,.inl ⟨rfl,_,SqL.of (s8 _ _ h7)⟩,_,rfl,_,rfl,_,_,rfl,rfl,(show(0:Int) < 3 by decide),_,rfl,lh,_,rfl,.inl sq8,_,_,rfl,rfl,(by rw[YLD];show(0:Int) < _;omega),lh,_,_,_,rfl,rfl,sq8,hy1,?_⟩;refine⟨_,rfl,_,rfl,_,rfl,_,_,rfl,rfl,a,ns,_,rfl,(s7.trans s8).seq hS5,by omega,fun v2=>⟨_,rfl,fun wz w0 w1=>⟨YH (by show 3≤1000;decide),fun tt htt=>?_⟩⟩⟩;have t8:=YI.upd (o:=.tup [.str hd,.ref t,.int wz]) htt;have ntl:tt≠l:=fun z=>by
     have:=s8 _ _ h7;rw[z,this]at htt;cases htt
    have ntt:t≠l:=fun z=>by
     rw[z,h7]at ht0;cases ht0
    refine⟨l,xs',_,rfl,rfl,(s8.trans t8) _ _ h7,YLX (show xs'.length < 1000 by omega) (YH (YLG _)),?_⟩;refine⟨g' ++ [(hd,ps,wz)],xs' ++ [.ref tt],_,_,_,rfl,YB,?_,by rw[YLE,qd];rfl,?_,((s7.trans s8).trans t8).put hl,(p8.upd rfl).upd rfl,fun r hr=>YLU _ (hsub r hr),fun r hr=>?_⟩
    ·rw[YC6,YLK];refine(qb.same ((s8.trans t8).del l)).append (.cons ?_ .nil);refine .tup (show del _ l tt=some _ from ?_) (.cons (.str _) (.cons (.tup (show del _ l t=some _ from ?_) (Yb.strs ps)) (.cons (.int _) .nil)))
     ·rw[Zy ntl];exact YB
     ·rw[Zy ntt];exact t8 _ _ ht
    ·rw[List.all_append,tX];show(true && [((hd,ps,wz):ZW)].all Z7)=true;rw[List.all_cons,YCK (r:=(hd,ps,wz)) (nN _ (hsn _ hhd)) (by show ps.length≤6;omega) (fun p hp=>(hm0 p (hpm p hp)).1) w0 w1];rfl
    ·rcases List.mem_append.mp hr with hr |hr
     ·exact je r hr
     ·rw[List.mem_singleton.mp hr];exact⟨hhd,fun p hp h=>(hm0 p (hpm p hp)).2 h⟩
   ·rintro σ H7 ⟨g0,xs0,v7,v8,v9,rfl,h70,tY,vB,uF,s70,p70,sE,sG⟩;dsimp only;refine X5 (t:=tIfS _ _ _) (fun σ' H7=>∃(g':YT) (xs':List V),σ'=[some (.ref a),some (.ref ln),some (.ref ls),some (.int way),some (.ref lh),some (.ref lm),some (.ref l),v7,v8,v9]∧H7 l=some (.lst xs')∧Yb (del H7 l) xs' (g'.map ZS)∧(hs.length≤g'.length∧g'.length≤9)∧g'.all Z7=true∧YI H5 H7∧YU H7∧(∀r∈g,r∈g')∧∀r∈g',r.1∈hs∧∀p∈r.2.1,isQ p=false→p∈nm) ?_ fun restK=>?_
    ·rintro σ' H7 ⟨g',xs',rfl,h7,qb,qd,tX,s7,p7,hsub,je⟩;have hok:Yv g'=true:=by
      unfold Yv;rw[tX,Bool.and_true];exact decide_eq_true (by omega)
     have hgk:YHk g':=⟨fun h=>by rw[h]at qd;simp only[List.length_nil]at qd;omega,fun r hr=>by
      obtain⟨r',hr',q⟩:=hshort r.1 (je r hr).1;exact⟨r',hsub r' hr',q⟩,nm,n4,fun r hr=>⟨hsn _ (je r hr).1,(je r hr).2⟩,by omega⟩
     refine⟨_,rfl,_,_,rfl,rfl,⟨by decide,by decide⟩,_,_,rfl,rfl,(show(0:Int) < 2 by decide),rfl,_,rfl,?_⟩;refine YBA (fun _=>?_) fun _=>?_
     ·refine⟨_,rfl,.inl ⟨rfl,_,SqL.of h7⟩,l,xs',rfl,rfl,h7,?_⟩;refine⟨_,rfl,q l xs'.reverse g'.reverse _ ?_ ⟨fun h=>hgk.1 (List.reverse_eq_nil_iff.mp h),fun r hr=>?_,nm,n4,fun r hr=>⟨hsn _ (je r (List.mem_reverse.mp hr)).1,(je r (List.mem_reverse.mp hr)).2⟩,by rw[YLa];omega⟩ ((s05.trans s7).put (s05.free hl)) (p7.upd rfl) (s05.free hl) YB ?_⟩
      ·unfold Yv at hok ⊢;rw[YLJ]at hok;rw[YLa,List.all_reverse,hok.1,hok.2];rfl
      ·obtain⟨r',hr',q⟩:=hgk.2.1 r (List.mem_reverse.mp hr);exact⟨r',List.mem_reverse.mpr hr',q⟩
      ·rw[List.map_reverse];refine YEx (Yb.same ?_ qb);intro b o e
       by_cases hb:b=l
       ·rw[hb,YBn]at e;cases e
       ·rw[Zy hb]at e;rw[YE hb];exact e
     ·exact⟨_,rfl,q l xs' g' H7 hok hgk (s05.trans s7) p7 (s05.free hl) h7 (qb.same (YKE _ _))⟩
    ·refine⟨_,rfl,_,_,rfl,rfl,⟨by decide,by decide⟩,_,_,rfl,rfl,(show(0:Int) < 3 by decide),rfl,_,rfl,YBA (fun _=>?_) fun _=>?_⟩
     ·have hne:0 < hs.length:=by omega
      have e0:hs[0]?=some hs[0]:=YLF hne;obtain⟨hf,ehf⟩:∃hf,hs[0]=hf:=⟨_,rfl⟩;rw[ehf]at e0;have hfm:hf∈hs:=YLH e0;obtain⟨hs0,hz,ehz⟩:∃hs0 hz,hs=hs0 ++ [hz]:=by
       rcases YA3 hs with z |z
       ·rw[z]at hne;cases hne
       ·exact z
      have hzm:hz∈hs:=by rw[ehz];simp
      have a0:atI (hs.map V.str) 0=some (.str hf):=ZT (j:=0) (by rw[YLI,e0];rfl);have am:atI (hs.map V.str) (-1)=some (.str hz):=by rw[ehz,YLK];exact YFj _ _
      have okR:∀x y:Str,x∈hs→y∈hs→∀w:Int,0≤w→w≤1→Z7 (x,[y],w)=true:=fun x y hx hy w w0 w1=>YCK (r:=(x,[y],w)) (nN _ (hsn _ hx)) (by show 1≤6;decide) (fun p hp=>by cases List.mem_singleton.mp hp;exact YA6 (nN _ (hsn _ hy))) w0 (by show w≤10 ^ 60;exact Int.le_trans w1 (by decide))
      have wG:xs0.length≤7:=by rw[tY.len,YLD,vB];omega
      have sqh:=SqL.of (K:=K) (s70 _ _ p_);refine⟨_,rfl,.inl ⟨rfl,_,SqL.of h70⟩,_,rfl,lh,_,0,_,rfl,rfl,sqh,a0,_,rfl,1,rfl,lh,_,_,_,rfl,rfl,sqh,am,YH (by show 1≤1000;decide),fun t1 ht1=>⟨YH (by show 3≤1000;decide),fun t2 ht2=>?_⟩⟩;refine⟨l,xs0,_,rfl,rfl,((YI.upd ht1).trans (YI.upd ht2)) _ _ h70,YLX (show xs0.length < 1000 by omega) (YH (YLG _)),?_⟩;obtain⟨Ha,eHa,ha,vC,sa,pa⟩:=YIi h70 tY s70 hl p70 (hf,[hz],0) ht1 ht2;have eHa:upd (upd (upd H7 t1 (.tup [.str hz])) t2 (.tup [.str hf,.ref t1,.int 0])) l (.lst (xs0 ++ [.ref t2]))=Ha:=eHa;dsimp only;rw[eHa];have sqa:=SqL.of (K:=K) (sa _ _ p_);refine⟨_,rfl,.inl ⟨rfl,_,SqL.of ha⟩,_,rfl,1,rfl,lh,_,_,_,rfl,rfl,sqa,am,_,rfl,lh,_,0,_,rfl,rfl,sqa,a0,YH (by show 1≤1000;decide),fun t3 ht3=>⟨YH (by show 3≤1000;decide),fun t4 ht4=>?_⟩⟩;refine⟨l,_,_,rfl,rfl,((YI.upd ht3).trans (YI.upd ht4)) _ _ ha,YLX (show(xs0 ++ [V.ref t2]).length < 1000 by rw[YLE];show _ + 1 < 1000;omega) (YH (YLG _)),?_⟩;obtain⟨Hb,eHb,hb,vD,sb,pb⟩:=YIi ha vC sa hl pa (hz,[hf],1) ht3 ht4;have eHb:upd (upd (upd Ha t3 (.tup [.str hf])) t4 (.tup [.str hz,.ref t3,.int 1])) l (.lst (xs0 ++ [.ref t2] ++ [.ref t4]))=Hb:=eHb;dsimp only;rw[eHb];refine restK _ _ ⟨g0 ++ [(hf,[hz],0)] ++ [(hz,[hf],1)],_,rfl,hb,vD,⟨by simp only[YLE,YLM,List.length_nil];omega,by simp only[YLE,YLM,List.length_nil];omega⟩,?_,sb,pb,fun r hr=>YLU _ (YLU _ (sE r hr)),fun r hr=>?_⟩
      ·rw[List.all_append,List.all_append,uF,List.all_cons,List.all_cons,okR hf hz hfm hzm 0 (by decide) (by decide),okR hz hf hzm hfm 1 (by decide) (by decide)];rfl
      ·rcases List.mem_append.mp hr with hr |hr
       ·rcases List.mem_append.mp hr with hr |hr
        ·exact sG r hr
        ·cases List.mem_singleton.mp hr;exact⟨hfm,fun p hp _=>by cases List.mem_singleton.mp hp;exact hsn _ hzm⟩
       ·cases List.mem_singleton.mp hr;exact⟨hzm,fun p hp _=>by cases List.mem_singleton.mp hp;exact hsn _ hfm⟩
     ·exact restK _ _ ⟨g0,xs0,rfl,h70,tY,⟨by omega,by omega⟩,uF,s70,p70,sE,sG⟩
end
section
variable {P:Program}{w:World}{K:W.Frag}{mg:Str→Option Value}{base:Heap}{C:Adr}
end
theorem Jm:(["_law_part"]:List Str).Nodup:=by decide +kernel
theorem JR:(["_law_part","_law_shorts_here"]:List Str).Nodup:=by decide +kernel
def YCW (e:Sz) (ps:List Str):List Str:=ps.filter fun x=>!isQ x && (look e x).isNone
theorem YGl {K:W.Frag}{H:Hp}{p d lb:Addr}{ps:List Str}{e:Sz}{v:Option V}{Q:VK} (hp2:H p=some (.tup (ps.map V.str))) (hps:∀x∈ps,Yo x=true) (h6:ps.length≤6) (hd:H d=some (.dK (szD e))) (pl:YU H) (hlb:H lb=none)
  (hq:∀H',YI H H'→YU H'→H' lb=some (.lst ((YCW e ps).map V.str))→Q (.ref lb) H'):
  YAc (Itt K p) (ZH 0) (tAnd (tTest (tOp rNe (tOp rIxS (tVar 0) (tC (.int 0))) (tC (.str "'")))) (tB (YH0 (tVar 0) (tVar 1)))) (tVar 0) Q lb [v,some (.ref d)] H:=by
 have hJ:=(X2 (SqT.of (K:=K) hp2)).g;rw[YLD]at hJ;refine YC7 ps (fun x=>if isQ x=true then none else if (look e x).isSome=true then none else some (.str x)) hJ pl hlb (YH (YLb h6 (by decide))) (fun τ'=>∃v,τ'=[v,some (.ref d)]) ⟨_,rfl⟩ ?_ ?_
 ·rintro τ' k x y H' Q1 Q2 ⟨v,rfl⟩ hx hit hs hp' hQ1 hQ2;rw[YLI,hx]at hit;cases hit;obtain⟨c,hc,hlen,hdec⟩:=JL (hps x (YLH hx));refine⟨_,rfl,x,0,c,rfl,rfl,YH (by omega),hc,rfl,_,rfl,?_⟩;rw[hdec]
  by_cases hq:isQ x=true
  ·rw[hq];exact hQ2 _ _ ⟨_,rfl⟩ (YI.refl _) hp' (by rw[if_pos hq])
  ·have hq':isQ x=false:=Bool.eq_false_iff.mpr hq;rw[hq'];have ev:(Yw (szD e) (Sum.inr x)).isSome=(look e x).isSome:=by rw[YBt,Option.isSome_map]
   refine⟨_,rfl,_,rfl,d,_,rfl,Jz.k (k:=Sum.inr x) (hs _ _ hd),_,rfl,?_⟩;rw[ev];cases hlk:look e x with
   |some v=>exact hQ2 _ _ ⟨_,rfl⟩ (YI.refl _) hp' (by rw[if_neg hq,hlk];rfl)
   |none=>exact⟨_,rfl,hQ1 _ _ _ ⟨_,rfl⟩ (YI.refl _) hp' (by rw[if_neg hq,hlk];rfl)⟩
 ·intro H3 s3 p3 h3;refine hq H3 s3 p3 ?_;rw[h3];unfold YCW;rw[←List.filterMap_eq_map,List.filterMap_filter];refine congrArg (fun f=>some (HO.lst (List.filterMap f ps))) (funext fun x=>?_);cases isQ x <;> cases look e x <;> rfl
theorem YJZ {g:YT}{e:Sz}{z:Str}{i:Nat}{r:ZW} (hr:g[i]?=some r):YBu g e z i=(decide (r.1=z) && decide (YCW e r.2.1=[])):=by
 unfold YBu;rw[hr];show(decide (r.1=z) && _)=_;congr 1;rw[YLe,decide_eq_true_eq,List.all_eq_true];unfold YCW;rw[List.filter_eq_nil_iff];constructor
 ·intro h p hp;have:=h p hp;cases hq:isQ p <;> cases hl:look e p <;> simp[hq,hl]at this ⊢
 ·intro h p hp;have:=h p hp;cases hq:isQ p <;> cases hl:look e p <;> simp[hq,hl]at this ⊢
theorem YHm (g:YT) (e:Sz) (z:Str) (i:Nat):YDd g e z (i + 1)=YDd g e z i ++ (if YBu g e z i=true then [i] else []):=by
 unfold YDd;rw[List.range_succ,List.filter_append];congr 1
 by_cases hb:YBu g e z i=true
 ·rw[if_pos hb,List.filter_cons,if_pos hb];rfl
 ·rw[if_neg hb,List.filter_cons,if_neg hb];rfl
theorem YKy {g:YT}{ks sg:List Nat} (h:JM g [] ks sg):ks=[]∧sg=[]:=by
 cases h;exact⟨rfl,rfl⟩
theorem YJa {g:YT}{p:Str}{ws:List Str}{ks sg:List Nat} (hq:isQ p=true) (h:JM g (p :: ws) ks sg):∃sg',sg=sgn p :: sg'∧JM g ws ks sg':=by
 generalize hz:p :: ws=zs at h;cases h with
 |nil=>cases hz
 |sign hq' h=>cases hz;exact⟨_,rfl,h⟩
 |name hq' er h=>cases hz;rw[hq]at hq';cases hq'
theorem YJb {g:YT}{p:Str}{ws:List Str}{ks sg:List Nat} (hq:isQ p=false) (h:JM g (p :: ws) ks sg):∃k ks' r,ks=k :: ks'∧g[k]?=some r∧r.1=p∧JM g (r.2.1 ++ ws) ks' sg:=by
 generalize hz:p :: ws=zs at h;cases h with
 |nil=>cases hz
 |sign hq' h=>cases hz;rw[hq]at hq';cases hq'
 |@name r ws' k ks' sg hq' er h=>cases hz;exact⟨k,ks',r,rfl,er,rfl,h⟩
theorem YKz (s:List Nat) (c:Nat):(⟨s.toArray⟩:Str) ++ ⟨#[c]⟩=⟨(s ++ [c]).toArray⟩:=by
 have h:=YAg ⟨s.toArray⟩ ⟨#[c]⟩;cases hj:(⟨s.toArray⟩:Str) ++ ⟨#[c]⟩;congr 1;apply Array.toList_inj.mp;rw[hj]at h;rw[h]
theorem XD (a b:List Str):ZI (a ++ b)=ZI a + ZI b:=by
 unfold ZI;rw[YLK,List.sum_append]
theorem YE0 (a:List Str):ZI a.reverse=ZI a:=by
 unfold ZI;rw[List.map_reverse,List.sum_reverse]
theorem YAP {p:Str} (h:isQ p=true):ZI [p]=1:=by
 unfold ZI;rw[YLS,if_pos h];rfl
theorem YAQ {p:Str} (h:isQ p=false):ZI [p]=2:=by
 unfold ZI;rw[YLS,if_neg (by rw[h];decide)];rfl
theorem YHn:∀a:List Str,(unQ a).length≤ZI a
 |[]=>YLG _
 |p :: a=>by
  have ih:=YHn a;have e:ZI (p :: a)=ZI [p] + ZI a:=XD [p] a;unfold unQ at ih ⊢;rw[e,List.filter_cons];cases hq:isQ p with
  |true=>rw[YAP hq];simp only[Bool.not_true,Bool.false_eq_true,if_false];omega
  |false=>rw[YAQ hq];simp only[Bool.not_false,if_true,YLM];omega
theorem YDu:∀a:List Str,a.length≤ZI a
 |[]=>YLG _
 |p :: a=>by
  have ih:=YDu a;have e:ZI (p :: a)=ZI [p] + ZI a:=XD [p] a;rw[e,YLM];cases hq:isQ p with
  |true=>rw[YAP hq];omega
  |false=>rw[YAQ hq];omega
theorem YDv:∀{a:List Str},(∀p∈a,isQ p=true)→ZI a=a.length∧unQ a=[]
 |[],_=>⟨rfl,rfl⟩
 |p :: a,h=>by
  obtain⟨i1,i2⟩:=YDv (a:=a) fun q hq=>h q (YLR _ hq)
  have hp:=h p (YLP ..);have e:ZI (p :: a)=ZI [p] + ZI a:=XD [p] a;refine⟨by rw[e,YAP hp,i1,YLM];omega,?_⟩;unfold unQ at i2 ⊢;rw[List.filter_cons,hp];exact i2
theorem YGm (a b:List Str):unQ (a ++ b)=unQ a ++ unQ b:=by
 unfold unQ;rw[List.filter_append]
theorem YGn {p:Str} (h:isQ p=false):(unQ [p]).length=1:=by
 unfold unQ;rw[List.filter_cons,h];rfl
theorem unQ_rev (a:List Str):(unQ a.reverse).length=(unQ a).length:=by
 unfold unQ;rw[List.filter_reverse,YLa]
theorem YK0 {H:Hp}{d:Addr}{s:Sz}{z:Str}{v:Int} (hd:H d=some (.dK (szD s))) (h:look s z=some v):Jz H d (.str z) (some (.int v)):=by
 have:=Jz.k (k:=Sum.inr z) hd;rw[YBt,h]at this;exact this
def fitB (g:YT) (m:Int) (k:Nat):Bool:=match g[k]? with
 |some r=>decide (((ZI r.2.1:Nat):Int)≤m)
 |none=>false
theorem YFU {g:YT}{m:Int}{k:Nat}{r:ZW} (h:g[k]?=some r):fitB g m k=decide (((ZI r.2.1:Nat):Int)≤m):=by
 unfold fitB;rw[h]
def YBK (g:YT) (e:Sz) (z:Str) (m:Int) (n:Nat):List Nat:=(YDd g e z n).filter (fitB g m)
theorem YAR (g:YT) (e:Sz) (z:Str) (m:Int) (i:Nat):YBK g e z m (i + 1)=YBK g e z m i ++ (if YBu g e z i=true∧fitB g m i=true then [i] else []):=by
 unfold YBK;rw[YHm,List.filter_append];congr 1;cases h1:YBu g e z i <;> cases h2:fitB g m i <;> simp[h2]
theorem YJc (g:YT) (e:Sz) (z:Str) (m:Int) (i:Nat):(YBK g e z m i).length≤i:=by
 unfold YBK YDd;refine YLb (List.length_filter_le _ _) (YLb (List.length_filter_le _ _) ?_);rw[List.length_range];exact YLG _
inductive YGo (vs:List V) (H:Hp) (Q:VK):Prop where
 |mk (l d:Addr) (xs:List V) (g:YT) (e:Sz) (z:Str) (m:Int) (h0_:vs=[.ref l,.ref d,.str z,.int m]) (h1_:H l=some (.lst xs)) (h2_:Yb H xs (g.map ZS)) (h3_:Yv g=true) (h4_:H d=some (.dK (szD e))) (h5_:YU H) (h6_:∀o H',YI H H'→YU H'→H o=none→H' o=some (.lst ((YBK g e z m g.length).map nV))→Q (.ref o) H'):YGo vs H Q
def YIj:Sp:=fun vs H Q E_=>YGo vs H Q
inductive YIk (K:W.Frag) (vs:List V) (H:Hp) (Q:VK):Prop where
 |mk (l c:Addr) (xs:List V) (g:YT) (ns:List Int) (R:Nat) (h0_:vs=[.ref l,.ref c,.int (R:Int)]) (h1_:2≤R) (h2_:R≤60) (h3_:H l=some (.lst xs)) (h4_:Yb H xs (g.map ZS)) (h5_:Yv g=true) (h6_:YHk g) (h7_:SqL K H c (ns.map V.int)) (h8_:ns.length≤63) (h9_:YU H) (rA:∀o r0 rest (ks sg:List Nat) H',g=r0 :: rest→JM g [r0.1] ks sg→sg.length≤R→ks.length≤200→YI H H'→YU H'→H o=none→H' o=some (.lst (ks.map nV))→Q (.ref o) H'):YIk K vs H Q
def YK1 (K:W.Frag):Sp:=fun vs H Q E_=>YIk K vs H Q
inductive YIl (vs:List V) (H:Hp) (Q:VK):Prop where
 |mk (l o:Addr) (xs:List V) (r0:ZW) (rest:List ZW) (ks sg:List Nat) (h0_:vs=[.ref l,.ref o]) (h1_:H l=some (.lst xs)) (h2_:Yb H xs ((r0 :: rest).map ZS)) (h3_:Yv (r0 :: rest)=true) (h4_:H o=some (.lst (ks.map nV))) (h5_:JM (r0 :: rest) [r0.1] ks sg) (h6_:ks.length≤2000000) (h7_:YU H) (h8_:∀H',YI H H'→YU H'→Q (.str ⟨sg.toArray⟩) H'):YIl vs H Q
def YK2:Sp:=fun vs H Q E_=>YIl vs H Q
section
variable {P:Program}{w:World}{K:W.Frag}{mg:Str→Option Value}{base:Heap}{C:Adr}
theorem JY:YV ["_law_grammar_here","_law_shorts_here","_law_k","_law_names_here"] ["_law_grammar_here"] (YJ Xw):=⟨rfl,rfl,rfl,by decide +kernel,rfl,by decide +kernel,by decide +kernel⟩
theorem YDw {f:Addr}{fd:FuncData} (F:Fun K "_law_shorts" "_law_shorts" Xw f fd) (T:Txt K mg C):Y6 P w K mg base CX0 1 f fd ["_law_grammar_here"] (YGk):=by
 refine F.ok JY (fun vs H Q E h=>?_) (fun cdv A outer s H vs Q E hr h=>?_)
 ·obtain⟨l,xs,g,rfl,_⟩:=h;rfl
 ·obtain⟨l,xs,g,rfl,hl,hds,hg,hp,q⟩:=h;have hu:=JP hr;have hU:=hr.units;refine⟨_,(YF (YK (i:=1) JY.nd rfl (Or.inl rfl) YFr)
   (YF (ZQ PassesOwn.never rfl (Zo rfl T.bA (YA (YR (YQ K rfl) (by rfl) T.aD PyProof.Rows.Boot.«len» (YA (pv 0) YC)) YC)) (Yd (i:=2) JY.nd rfl (Or.inl rfl)) (YF (YFH (N:=["_law_part"]) (ρ:=[none]) (cl:=[]) (i:=3) JY.nd rfl rfl rfl (Yz.plain rfl (by decide +kernel) (by decide +kernel) rfl (by simp)) (Xf K rfl (YM (YS K rfl) (YM (YW K rfl) (pv 0) (pv 2) (fun _ _=>rfl)) YD (fun _ _=>rfl))) (fun _ _ _ _ _=>(Yd (i:=0) Jm rfl (Or.inl rfl) (.inr rfl))) (fun _ _ _ _ _=>(YH2 (Ye YCa (YM Z5 (pv 0) YD (fun _ _=>rfl)) Zj (Yf _)))) (fun _ _ _ _ _=>(pv 0)))
   (YG (Y3 (PW.pt (YB7 (Ye (YAE K rfl hU) (pv 3) (Y0 YC) (Yf _)) (YB7 (Ye YBg (YR (YQ K rfl) (by rfl) T.aD PyProof.Rows.Boot.«len» (YA (YM (YS K rfl) (YM (YW K rfl) (pv 0) (pv 2) (fun _ _=>rfl)) YD (fun _ _=>rfl)) YC)) YD (Yf _)) (YC3 (Xn (Jd hu (YM (YS K rfl) (YM (YW K rfl) (pv 0) (pv 2) (fun _ _=>rfl)) YD (fun _ _=>rfl)) (pv 1))))))) (YG (YAC hu (pv 1) (YM (YS K rfl) (YM (YW K rfl) (pv 0) (pv 2) (fun _ _=>rfl)) YD (fun _ _=>rfl)) (pv 2) rfl)) Yc))))
   (YG (YX (pv 1))))),?_⟩
  have uD:=YAH hg;have hxl:xs.length=g.length:=by rw[hds.len,YLD]
  intro d hd;have s1:=YI.upd (o:=.dK []) hd;refine⟨_,rfl,l,_,rfl,.inl (SqL.of (s1 _ _ hl)),(xs.length:Int),rfl,(YAW (by omega) (by omega)).1,(YAW (by omega) (by omega)).2,?_⟩;refine JA (lo:=0) (n:=((xs.length:Nat):Int).toNat) (fun k σ H4=>∃(e:Sz) (v2 v3:Option V),σ=[some (.ref l),some (.ref d),v2,v3]∧H4 d=some (.dK (szD e))∧ShOk g e∧e.length≤k∧(∀j,j < k→∀r,g[j]?=some r→(∀p∈r.2.1,isQ p=true)→r.2.1.length≤2→r.1∈e.map (·.1))∧YI H H4∧YU H4)
   ⟨[],none,none,rfl,YB,⟨List.nodup_nil,fun z v e=>by cases e⟩,YLN _,fun j hj=>absurd hj (Nat.not_lt_zero _),s1,hp.upd rfl⟩ ?_ ?_
  ·rintro k σ H4 hk ⟨e,v2,v3,rfl,hd4,he,hel,hrs,s4,p4⟩;have hkl:k < g.length:=by omega
   obtain⟨r,er⟩:∃r,g[k]?=some r:=⟨_,YLF hkl⟩;obtain⟨t,pp,ax,ht,hpp⟩:=Zr (hds.same s4) er;have ax:atI xs (0 + (k:Int))=some (.ref t):=by rw[Int.zero_add];exact ax
   have hok:=Y1 (ZC hg er);refine⟨_,rfl,_,rfl,l,_,_,_,rfl,rfl,SqL.of (s4 _ _ hl),ax,t,_,1,_,rfl,rfl,SqT.of ht,rfl,pp,rfl,⟨_,SqT.of hpp⟩,fun lb hlb=>?_⟩;have hJ:=(X2 (SqT.of (K:=K) hpp)).g;rw[YLD]at hJ;refine YC7 r.2.1 (fun x=>if isQ x=true then none else some (.str x)) hJ p4 hlb (YH (by omega)) (fun τ'=>∃v,τ'=[v]) ⟨_,rfl⟩ ?_ ?_
   ·rintro τ' k x y H' Q1 Q2 ⟨v,rfl⟩ hx hit hs hp' hQ1 hQ2;rw[YLI,hx]at hit;cases hit;obtain⟨c,hc,hlen,hdec⟩:=JL (hok.2 x (YLH hx));refine⟨_,rfl,x,0,c,rfl,rfl,YH (by omega),hc,rfl,_,rfl,?_⟩;rw[hdec]
    by_cases hq:isQ x=true
    ·rw[hq];exact hQ2 _ _ ⟨_,rfl⟩ (YI.refl _) hp' (by rw[if_pos hq])
    ·rw[Bool.eq_false_iff.mpr hq];exact⟨_,rfl,hQ1 _ _ _ ⟨_,rfl⟩ (YI.refl _) hp' (by rw[if_neg hq])⟩
   intro H5 s5 p5 h5;have eu:r.2.1.filterMap (fun x=>if isQ x=true then none else some (V.str x))=(unQ r.2.1).map V.str:=by
    unfold unQ;rw[←List.filterMap_eq_map,List.filterMap_filter];refine congrArg (fun f=>List.filterMap f r.2.1) (funext fun x=>?_);cases isQ x <;> rfl
   rw[eu]at h5;refine⟨_,rfl,YLN _,fun le hle=>?_⟩;have s6:=YI.upd (o:=.lst []) hle;refine⟨_,_,.lst (.inl (s6 _ _ h5)) (Yb.strs _),.lst (.inl YB) .nil,YC8 _,rfl,YBs _,_,rfl,?_⟩;rw[YDC];have s46:=s5.trans s6;have p6:YU (upd H5 le (.lst [])):=p5.upd rfl;revert s46 p6;generalize upd H5 le (.lst [])=H6;intro s46 p6;have s06:=s4.trans s46;have sql:SqL K H6 l xs:=SqL.of (s06 _ _ hl);have sqt:=SqT.of (K:=K) (s46 _ _ ht);have skip:((∀p∈r.2.1,isQ p=true)→r.2.1.length≤2→r.1∈e.map (·.1))→∀j,j < k + 1→∀r,g[j]?=some r→(∀p∈r.2.1,isQ p=true)→r.2.1.length≤2→r.1∈e.map (·.1):=fun h j hj r' er' a b=>by
    by_cases hjk:j=k
    ·subst hjk;rw[er]at er';cases er';exact h a b
    ·exact hrs j (by omega) r' er' a b
   by_cases hb:unQ r.2.1=[]
   case neg=>
    rw[decide_eq_false hb];refine ZL ⟨e,_,_,rfl,s46 _ _ hd4,he,by omega,skip fun a _=>absurd ?_ hb,s06,p6⟩;unfold unQ;rw[List.filter_eq_nil_iff];intro p hp;rw[a p hp];decide
   rw[decide_eq_true hb];have hall:∀p∈r.2.1,isQ p=true:=fun p hp=>by
    unfold unQ at hb;rw[List.filter_eq_nil_iff]at hb;have:=hb p hp;cases hq:isQ p with
    |true=>rfl
    |false=>rw[hq]at this;exact absurd rfl this
   refine Ze ⟨_,rfl,_,rfl,l,_,_,_,rfl,rfl,sql,ax,t,_,1,_,rfl,rfl,sqt,rfl,pp,_,rfl,.inr (SqT.of (s46 _ _ hpp)),_,_,rfl,rfl,_,rfl,?_⟩;rw[YLD]
   by_cases h3:r.2.1.length < 3
   case neg=>
    rw[decide_eq_false (by omega)];exact ZL ⟨e,_,_,rfl,s46 _ _ hd4,he,by omega,skip fun _ b=>by omega,s06,p6⟩
   rw[decide_eq_true (by omega)];refine Ze ⟨_,rfl,_,rfl,l,_,_,_,rfl,rfl,sql,ax,t,_,0,_,rfl,rfl,sqt,rfl,_,rfl,d,_,rfl,Jz.k (k:=Sum.inr r.1) (s46 _ _ hd4),_,rfl,?_⟩;rw[YBt,Option.isSome_map];cases hlk:look e r.1 with
   |some v=>exact⟨e,_,_,rfl,s46 _ _ hd4,he,by omega,skip fun _ _=>List.mem_map.mpr ⟨_,YF4 hlk,rfl⟩,s06,p6⟩
   |none=>
    have hnew:=YEi hlk;have len:(szD e).length < sizeLine:=by
     unfold szD;rw[YLD];exact YLX (show _ < 1000 by omega) (YH (YLG _))
    have put:YCD H6 d (.str r.1) (.int (0 + (k:Int))) (upd H6 d (.dK (szD (e ++ [(r.1,(k:Int))])))):=by
     have:=YCD.k (k:=Sum.inr r.1) (v:=.int (0 + (k:Int))) (s46 _ _ hd4) len;rw[put_szD he.nd,YGj hnew,Int.zero_add]at this;rw[Int.zero_add];exact this
    have elk:∀z v,look (e ++ [(r.1,(k:Int))]) z=some v→look e z=some v∨(z=r.1∧v=(k:Int)):=fun z v h=>by
     have:=YKR e r.1 z (k:Int);rw[YGj hnew,h]at this;split at this
     ·rename_i hz
      cases this;exact .inr ⟨hz,rfl⟩
     ·exact .inl this.symm
    refine⟨_,rfl,_,rfl,_,rfl,_,rfl,l,_,_,_,rfl,rfl,sql,ax,t,_,0,_,rfl,rfl,sqt,rfl,d,_,rfl,put,e ++ [(r.1,(k:Int))],_,_,rfl,YB,⟨?_,fun z v h=>?_⟩,by rw[YLE];exact Nat.succ_le_succ hel,fun j hj r' er' a b=>?_,s06.put hd,p6.upd rfl⟩
    ·rw[YLK];exact YID he.nd hnew
    ·rcases elk z v h with h |⟨rfl,rfl⟩
     ·exact he.at_ z v h
     ·exact⟨k,r,rfl,er,rfl,hall,by omega⟩
    ·rw[YLK]
     by_cases hjk:j=k
     ·subst hjk;rw[er]at er';cases er';exact YLO _ (List.mem_singleton.mpr rfl)
     ·exact YLU _ (hrs j (by omega) r' er' a b)
  ·rintro σ H4 ⟨e,v2,v3,rfl,hd4,he,hel,hrs,s4,p4⟩;refine⟨_,rfl,q d e H4 he (fun r hr' a b=>?_) s4 p4 hd hd4⟩;obtain⟨j,hj,e1⟩:=List.mem_iff_getElem.mp hr';exact hrs j (by omega) r (by rw[YLF hj,e1]) a b
theorem YFV:YV ["_law_parts_here"] ["_law_parts_here"] (YJ YAs):=⟨rfl,rfl,rfl,by decide +kernel,rfl,by decide +kernel,by decide +kernel⟩
theorem YFW {f:Addr}{fd:FuncData} (F:Fun K "_law_need" "_law_need" YAs f fd) (T:Txt K mg C):Y6 P w K mg base CX0 1 f fd ["_law_parts_here"] (YHl):=by
 refine F.ok YFV (fun vs H Q E h=>?_) (fun cdv A outer s H vs Q E hr h=>?_)
 ·obtain⟨p,ps,rfl,_⟩:=h;rfl
 ·obtain⟨p,ps,rfl,hpp,hps,hpl,hp,q⟩:=h;rcases hpp with hpp |hpp
  ·refine⟨_,(YG (YX (YR (YFz rfl) (by rfl) T.rY PyProof.Rows.Boot.«sum» (YA (J6 (N:=["_law_part"]) (ρ:=[none]) (cl:=[]) rfl (Yz.plain rfl (by decide +kernel) (by decide +kernel) rfl (by simp)) (JE K rfl (pv 0)) (fun _ _ _ _ _=>(Yd (i:=0) Jm rfl (Or.inl rfl) (.inr rfl))) (fun _ _ _ _ _=>Jp) (fun _ _ _ _ _=>(YN Yp YD (Z2 YAw (by rfl) T.lA PyProof.Rows.Boot.«int» (YA (JH YCa (YM Z5 (pv 0) YD (fun _ _=>rfl)) Zj (Yf _)) YC))))) YC)))),?_⟩;refine⟨_,rfl,p,rfl,⟨_,SqL.of hpp⟩,fun lb hlb=>?_⟩;have hJ:=(YBO (SqL.of (K:=K) hpp)).g;rw[YLD]at hJ;refine YEz hJ hps hpl hp hlb fun H5 s5 p5 h5=>⟨lb,_,rfl,SqL.of h5,?_⟩
   rw[YDt];exact q H5 s5 p5
  ·refine⟨_,(YG (YX (YR (YFz rfl) (by rfl) T.rY PyProof.Rows.Boot.«sum» (YA (J6 (N:=["_law_part"]) (ρ:=[none]) (cl:=[]) rfl (Yz.plain rfl (by decide +kernel) (by decide +kernel) rfl (by simp)) (Xf K rfl (pv 0)) (fun _ _ _ _ _=>(Yd (i:=0) Jm rfl (Or.inl rfl) (.inr rfl))) (fun _ _ _ _ _=>Jp) (fun _ _ _ _ _=>(YN Yp YD (Z2 YAw (by rfl) T.lA PyProof.Rows.Boot.«int» (YA (JH YCa (YM Z5 (pv 0) YD (fun _ _=>rfl)) Zj (Yf _)) YC))))) YC)))),?_⟩;refine⟨_,rfl,p,rfl,⟨_,SqT.of hpp⟩,fun lb hlb=>?_⟩;have hJ:=(X2 (SqT.of (K:=K) hpp)).g;rw[YLD]at hJ;refine YEz hJ hps hpl hp hlb fun H5 s5 p5 h5=>⟨lb,_,rfl,SqL.of h5,?_⟩
   rw[YDt];exact q H5 s5 p5
theorem J9:YV ["_law_grammar_here","_law_shorts_here","_law_name","_law_most","_law_some","_law_k","_law_barren"] ["_law_grammar_here","_law_shorts_here","_law_name","_law_most"] (YJ Xl):=⟨rfl,rfl,rfl,by decide +kernel,rfl,by decide +kernel,by decide +kernel⟩
theorem YFX {f:Addr}{fd:FuncData} (F:Fun K "_law_open" "_law_open" Xl f fd) (T:Txt K mg C) (bz:Zq P w K mg CX0 1 "_law_need" ["_law_parts_here"] (YHl)):Y6 P w K mg base CX0 2 f fd ["_law_grammar_here","_law_shorts_here","_law_name","_law_most"] (YIj):=by
 obtain⟨lL,k_,dO,dR,dU,dW⟩:=bz.ok;refine F.ok J9 (fun vs H Q E h=>?_) (fun cdv A outer s H vs Q E hr h=>?_)
 ·obtain⟨l,d,xs,g,e,z,m,rfl,_⟩:=h;rfl
 ·obtain⟨l,d,xs,g,e,z,m,rfl,hl,hds,hg,hd,hp,q⟩:=h;have hu:=JP hr;have hU:=hr.units;refine⟨_,(YF (YK (i:=4) J9.nd rfl (Or.inl rfl) (Y0 YC))
   (YF (ZQ PassesOwn.never rfl (Zo rfl T.bA (YA (YR (YQ K rfl) (by rfl) T.aD PyProof.Rows.Boot.«len» (YA (pv 0) YC)) YC)) (Yd (i:=5) J9.nd rfl (Or.inl rfl)) (YF (YFH (N:=["_law_part","_law_shorts_here"]) (ρ:=[none,some 1]) (i:=6) J9.nd rfl rfl rfl (Yz.closes ["_law_grammar_here","_law_shorts_here","_law_name","_law_most","_law_some","_law_k","_law_barren"] (YJ Xl).names rfl rfl rfl rfl (by decide +kernel) (by decide +kernel) (fun x h=>X0 h) (by decide +kernel) rfl (by decide +kernel)) (Xf K rfl (YM (YS K rfl) (YM (YW K rfl) (pv 0) (pv 5) (fun _ _=>rfl)) YD (fun _ _=>rfl))) (fun _ _ _ _ _=>(Yd (i:=0) JR rfl (Or.inl rfl) (.inr rfl))) (fun _ _ _ _ _=>(YH2 (PW.pt (YB7 (Ye YCa (YM Z5 (pv 0) YD (fun _ _=>rfl)) Zj (Yf _)) (YC3 (Xn (Jd hu (pv 0) (pv 1)))))))) (fun _ _ _ _ _=>(pv 0)))
   (YG (Y3 (PW.pt (YB7 (Ye Jq (YM (YS K rfl) (YM (YW K rfl) (pv 0) (pv 5) (fun _ _=>rfl)) YD (fun _ _=>rfl)) (pv 2) (Yf _)) (YB7 (Ye (YAE K rfl hU) (pv 6) (Y0 YC) (Yf _)) (YC3 (Ye YAa (YY (dO base) (hr.mono (by decide)) (by rfl) dR dU dW .nil Yg (YA (YM (YS K rfl) (YM (YW K rfl) (pv 0) (pv 5) (fun _ _=>rfl)) YD (fun _ _=>rfl)) YC)) (pv 3) (Yf _)))))) (YG (Yk (ZV K rfl PySem.F.plainAttrs_list PySem.F.slot_list_append PySem.F.type_list_append Yl (pv 4) (YA (pv 5) YC)))) Yc))))
   (YG (YX (pv 4))))),?_⟩
  have uD:=YAH hg;have hxl:xs.length=g.length:=by rw[hds.len,YLD]
  refine⟨YLN _,fun lo hlo=>?_⟩;have s1:=YI.upd (o:=.lst []) hlo;refine⟨_,rfl,l,_,rfl,.inl (SqL.of (s1 _ _ hl)),(xs.length:Int),rfl,(YAW (by omega) (by omega)).1,(YAW (by omega) (by omega)).2,?_⟩;refine JA (lo:=0) (n:=((xs.length:Nat):Int).toNat) (fun k σ H4=>∃(v4 v5:Option V),σ=[some (.ref l),some (.ref d),some (.str z),some (.int m),some (.ref lo),v4,v5]∧H4 lo=some (.lst ((YBK g e z m k).map nV))∧YI H H4∧YU H4)
   ⟨none,none,rfl,YB,s1,hp.upd rfl⟩ ?_ ?_
  ·rintro k σ H4 hk ⟨v4,v5,rfl,h4,s4,p4⟩;have hkl:k < xs.length:=by omega
   have hi:xs[k]?=some xs[k]:=YLF hkl;obtain⟨r,tt,p,er,ey,ht1,hpp⟩:=YH9 hds hi;have ax:atI xs (0 + (k:Int))=some (.ref tt):=by rw[Int.zero_add,←ey];exact ZT hi
   have hok:=ZC hg er;have ht4:=s4 _ _ ht1;have hp4:=s4 _ _ hpp;have oi:=YJZ (e:=e) (z:=z) er;refine⟨_,rfl,_,rfl,l,_,_,_,rfl,rfl,SqL.of (s4 _ _ hl),ax,tt,_,1,_,rfl,rfl,SqT.of ht4,rfl,p,rfl,⟨_,SqT.of hp4⟩,fun lb hlb=>?_⟩;refine YGl hp4 (Y1 hok).2 (Y1 hok).1 (s4 _ _ hd) p4 hlb fun H5 s5 p5 h5=>?_
   refine⟨_,rfl,_,rfl,l,_,_,_,rfl,rfl,SqL.of ((s4.trans s5) _ _ hl),ax,tt,_,0,_,rfl,rfl,SqT.of (s5 _ _ ht4),rfl,_,rfl,rfl,_,rfl,?_⟩;rw[decS]
   by_cases hz:¬r.1=z
   ·rw[decide_eq_false hz];rw[decide_eq_false hz,Bool.false_and]at oi;refine⟨_,_,rfl,?_,s4.trans s5,p5⟩;rw[YAR,oi,if_neg (fun h=>absurd h.1 (by decide)),YLW];exact s5 _ _ h4
   have hz:r.1=z:=Decidable.not_not.mp hz;rw[decide_eq_true hz];rw[decide_eq_true hz,Bool.true_and]at oi;refine Ze ⟨_,rfl,YLN _,fun le hle=>?_⟩;have s6:=YI.upd (o:=.lst []) hle;refine⟨_,_,.lst (.inl (s6 _ _ h5)) (Yb.strs _),.lst (.inl YB) .nil,YC8 _,rfl,YBs _,_,rfl,?_⟩;rw[YDC];have s46:=s5.trans s6
   by_cases hb:¬YCW e r.2.1=[]
   ·rw[decide_eq_false hb];rw[decide_eq_false hb]at oi;refine⟨_,_,rfl,?_,s4.trans s46,p5.upd rfl⟩;rw[YAR,oi,if_neg (fun h=>absurd h.1 (by decide)),YLW];exact s46 _ _ h4
   ·have hb:YCW e r.2.1=[]:=Decidable.not_not.mp hb;rw[decide_eq_true hb];rw[decide_eq_true hb]at oi;have hlen:=YJc g e z m k;refine Ze ⟨_,rfl,_,rfl,l,_,_,_,rfl,rfl,SqL.of ((s4.trans s46) _ _ hl),ax,tt,_,1,_,rfl,rfl,SqT.of (s46 _ _ ht4),rfl,p,r.2.1,rfl,.inr (s46 _ _ hp4),(Y1 hok).2,YLb (Y1 hok).1 (by decide),p5.upd rfl,fun H7 s7 p7=>⟨_,rfl,_,_,rfl,rfl,_,rfl,?_⟩⟩;have s47:=s46.trans s7;have ef:=YFU (m:=m) er;rw[←ef];cases hf:fitB g m k with
    |false=>
     refine ZL ⟨_,_,rfl,?_,s4.trans s47,p7⟩;rw[YAR,hf,if_neg (fun h=>absurd h.2 (by decide)),YLW];exact s47 _ _ h4
    |true=>
     refine Ze ⟨_,rfl,.inl ⟨rfl,_,SqL.of (s47 _ _ h4)⟩,_,rfl,lo,_,_,rfl,rfl,s47 _ _ h4,?_,_,_,rfl,?_,(s4.trans s47).put hlo,p7.upd rfl⟩
     ·rw[YLD];exact YLX (show _ < 1000 by omega) (YH (YLG _))
     ·rw[YAR,oi,hf,if_pos ⟨rfl,rfl⟩,YLK];show upd _ lo _ lo=some (.lst (_ ++ [V.int (k:Int)]));rw[YB,Int.zero_add]
  ·rintro σ H4 ⟨v4,v5,rfl,h4,s4,p4⟩;refine⟨_,rfl,q lo H4 s4 p4 hlo ?_⟩;rw[h4];have:((xs.length:Nat):Int).toNat=g.length:=by omega
   rw[this]
theorem ZN:YV ["_law_grammar_here","_law_cells","_law_room","_law_shorts_here","_law_waiting","_law_row_here","_law_held","_law_part","_law_number","_law_some","_law_beneath"] ["_law_grammar_here","_law_cells","_law_room"] (YJ YBe):=⟨rfl,rfl,rfl,by decide +kernel,rfl,by decide +kernel,by decide +kernel⟩
theorem YGp {f:Addr}{fd:FuncData} (F:Fun K "_law_row" "_law_row" YBe f fd) (T:Txt K mg C) (cN:Zq P w K mg CX0 1 "_law_shorts" ["_law_grammar_here"] (YGk)) (dX:Zq P w K mg CX0 2 "_law_open" ["_law_grammar_here","_law_shorts_here","_law_name","_law_most"] (YIj)) (bz:Zq P w K mg CX0 1 "_law_need" ["_law_parts_here"] (YHl)):Y6 P w K mg base CX0 3 f fd ["_law_grammar_here","_law_cells","_law_room"] (YK1 K):=by
 obtain⟨qO,qe,jF,jG,jH,jJ⟩:=cN.ok;obtain⟨sH,rG,lM,lN,lO,lQ⟩:=dX.ok;obtain⟨lL,k_,dO,dR,dU,dW⟩:=bz.ok;refine F.ok ZN (fun vs H Q E h=>?_) (fun cdv A outer s H vs Q E hr h=>?_)
 ·obtain⟨l,c,xs,g,ns,R,rfl,_⟩:=h;rfl
 ·obtain⟨l,c,xs,g,ns,R,rfl,hR2,hR,hl,hds,hg,hgk,hS,hns,hp,q⟩:=h;have hu:=JP hr;have hU:=hr.units;refine⟨_,(YF (YK (i:=3) ZN.nd rfl (Or.inl rfl) (YY (jF base) (hr.mono (by decide)) (by rfl) jG jH jJ .nil Yg (YA (pv 0) YC)))
   (YF (YK (i:=4) ZN.nd rfl (Or.inl rfl) (Y0 (YA (YM (YS K rfl) (YM (YW K rfl) (pv 0) YD (fun _ _=>rfl)) YD (fun _ _=>rfl)) YC)))
   (YF (YK (i:=5) ZN.nd rfl (Or.inl rfl) (Y0 YC))
   (YF (YK (i:=6) ZN.nd rfl (Or.inl rfl) YD)
   (YF (Xz PassesOwn.never (Ye (Je K rfl hU) (pv 4) (Y0 YC) (Yf _)) (YF (YK (i:=7) ZN.nd rfl (Or.inl rfl) (Xg K rfl PySem.F.plainAttrs_list PySem.F.slot_list_pop PySem.F.type_list_pop YCC (pv 4)))
   (YG (Y3 (Ye Jq (YM Z5 (pv 7) YD (fun _ _=>rfl)) Zj (Yf _)) (YG (YK (i:=6) ZN.nd rfl (Or.inl rfl) (YN Yp (pv 6) YD))) (YF (YK (i:=8) ZN.nd rfl (Or.inl rfl) (Xe hu (pv 3) (pv 7) (fun _ _=>rfl)))
   (YF (Y3 (Ye YBg (YR (YQ K rfl) (by rfl) T.aD PyProof.Rows.Boot.«len» (YA (pv 5) YC)) (YR (YQ K rfl) (by rfl) T.aD PyProof.Rows.Boot.«len» (YA (pv 1) YC)) (Yf _)) (YF (YK (i:=9) ZN.nd rfl (Or.inl rfl) (YY (lM base) (hr.mono (by decide)) (by rfl) lN lO lQ .nil Yg (Y9 (pv 0) (Y9 (pv 3) (Y9 (pv 7) (Y9 (YN YE6 (YN YE6 (pv 2) (pv 6)) (YY (dO base) (hr.mono (by decide)) (by rfl) dR dU dW .nil Yg (YA (pv 4) YC))) YC))))))
   (YG (YK (i:=8) ZN.nd rfl (Or.inl rfl) (YM (YW K rfl) (pv 9) (YN ZK (YM (YW K rfl) (pv 1) (YR (YQ K rfl) (by rfl) T.aD PyProof.Rows.Boot.«len» (YA (pv 5) YC)) (fun _ _=>rfl)) (YR (YQ K rfl) (by rfl) T.aD PyProof.Rows.Boot.«len» (YA (pv 9) YC))) (fun _ _=>rfl))))) Yc)
   (YF (Yk (ZV K rfl PySem.F.plainAttrs_list PySem.F.slot_list_append PySem.F.type_list_append Yl (pv 5) (YA (pv 8) YC)))
   (YG (ZQ PassesOwn.never rfl (YIJ K rfl rfl T.cT (YA (YM (YS K rfl) (YM (YW K rfl) (pv 0) (pv 8) (fun _ _=>rfl)) YD (fun _ _=>rfl)) YC)) (Yd (i:=10) ZN.nd rfl (Or.inl rfl)) (YG (Yk (ZV K rfl PySem.F.plainAttrs_list PySem.F.slot_list_append PySem.F.type_list_append Yl (pv 4) (YA (pv 10) YC)))))))))))))
   (YG (YX (pv 5)))))))),?_⟩
  obtain⟨vG,vH,nm,n4,wH,_⟩:=hgk;obtain⟨r0,rest,eg⟩:∃r0 rest,g=r0 :: rest:=by
   cases g with
   |nil=>exact absurd rfl vG
   |cons a b=>exact⟨a,b,rfl⟩
  have er0:g[0]?=some r0:=by rw[eg];rfl
  have hxl:xs.length=g.length:=by rw[hds.len,YLD]
  refine⟨_,rfl,l,xs,g,rfl,hl,hds,hg,hp,fun d e H1 he uG s1 p1 hd0 hd=>?_⟩;have hkeys:∀r∈g,r.1∈e.map (·.1):=fun r hr'=>by
   obtain⟨r',hr2,e1,e2,e3⟩:=vH r hr';rw[←e1];exact uG r' hr2 e2 e3
  obtain⟨t0,p0,ax0,ht0,_⟩:=Zr (hds.same s1) er0;refine⟨_,rfl,l,_,0,_,rfl,rfl,SqL.of (s1 _ _ hl),ax0,t0,_,0,_,rfl,rfl,SqT.of ht0,rfl,YH (by show 1≤1000;decide),fun lw hlw=>?_⟩;refine⟨YLN _,fun lr hlr=>?_⟩;have lR:H lw=none:=s1.free hlw;have s2:=YI.upd (o:=.lst [V.str r0.1]) hlw;have rH:H lr=none:=s1.free (s2.free hlr);have nrw:lr≠lw:=fun z=>by rw[z,YB]at hlr;cases hlr
  have s3:=YI.upd (o:=.lst []) hlr;have hw4:upd (upd H1 lw (.lst [V.str r0.1])) lr (.lst []) lw=some (.lst ([r0.1].map V.str)):=s3 _ _ YB;have hr4:upd (upd H1 lw (.lst [V.str r0.1])) lr (.lst []) lr=some (.lst (([]:List Nat).map nV)):=YB;have p4:YU (upd (upd H1 lw (.lst [V.str r0.1])) lr (.lst [])):=(p1.upd rfl).upd rfl;have s4:=s2.trans s3;have hd4:=s4 _ _ hd;have s04:=s1.trans s4;revert hw4 hr4 p4 s4 hd4 s04;generalize upd (upd H1 lw (.lst [V.str r0.1])) lr (.lst [])=H4;intro hw4 hr4 p4 s4 hd4 s04;have dlw:d≠lw:=fun z=>by rw[z]at hd;rw[hd]at hlw;cases hlw
  have dlr:d≠lr:=fun z=>by rw[←z,s2 _ _ hd]at hlr;cases hlr
  have mV:=Jg (ZC hg er0);refine⟨fun μ σ H5=>∃(ks:List Nat) (zs:List Str) (sg:List Nat) (v7 v8 v9 v10:Option V),σ=[some (.ref l),some (.ref c),some (.int (R:Int)),some (.ref d),some (.ref lw),some (.ref lr),some (.int (sg.length:Int)),v7,v8,v9,v10]∧H5 lw=some (.lst (zs.map V.str))∧H5 lr=some (.lst (ks.map nV))∧H5 d=some (.dK (szD e))∧(∀z∈zs,Yo z=true∧(isQ z=false→z∈e.map (·.1)))∧
    (∀ks' sg',JM g zs.reverse ks' sg'→JM g [r0.1] (ks ++ ks') (sg ++ sg'))∧sg.length + ZI zs≤R∧(unQ zs).length + ks.length≤ns.length + 60∧μ=(ns.length - ks.length) * 200 + (ZI zs + (unQ zs).length)∧YI H H5∧YU H5,
   ⟨_,[],[r0.1],[],none,none,none,none,rfl,hw4,hr4,hd4,fun z hz=>?_,fun ks' sg' h=>h,?_,?_,rfl,s04,p4⟩,?_⟩
  ·rw[List.mem_singleton.mp hz];exact⟨YBT mV,fun _=>hkeys r0 (YLH er0)⟩
  ·rw[YAQ (X3 mV)];exact(show 0 + 2≤R by omega)
  ·rw[YGn (X3 mV)];show 1 + 0≤_;omega
  rintro μ σ H5 ⟨ks,zs,sg,v7,v8,v9,v10,rfl,hw5,hr5,hd5,hzs,hrow,qg,uH,hμ,s5,p5⟩;refine⟨_,rfl,YLN _,fun le hle=>?_⟩;have s6:=YI.upd (o:=.lst []) hle;refine⟨_,_,.lst (.inl (s6 _ _ hw5)) (Yb.strs zs),.lst (.inl YB) .nil,YC8 _,rfl,YBs _,_,rfl,?_⟩;rw[YDC];have hw6:=s6 _ _ hw5;have hr6:=s6 _ _ hr5;have hd6:=s6 _ _ hd5;have s06:=s5.trans s6;have p6:YU (upd H5 le (.lst [])):=p5.upd rfl;revert hw6 hr6 hd6 s06 p6;generalize upd H5 le (.lst [])=H6;intro hw6 hr6 hd6 s06 p6;rcases List.eq_nil_or_concat zs with hz |⟨zs',z,hz⟩
  ·subst hz;rw[decide_eq_true rfl];refine ZL ⟨_,rfl,q lr r0 rest ks sg H6 eg ?_ (by omega) (by omega) s06 p6 rH hr6⟩;have:=hrow [] [] .nil;rw[YLW,YLW]at this;exact this
  rw[List.concat_eq_append]at hz;subst hz;rw[decide_eq_false (by simp)];refine Ze ⟨_,fun _ _ h=>h,?_⟩;have elast:((zs' ++ [z]).map V.str)[((zs' ++ [z]).map V.str).length - 1]?=some (.str z):=by
   rw[YLK,YLE];show(_ ++ [V.str z])[_ + 1 - 1]?=_;rw[Nat.add_sub_cancel,YLV (YLG _),Nat.sub_self];rfl
  have edrop:((zs' ++ [z]).map V.str).dropLast=zs'.map V.str:=by rw[YLK];exact List.dropLast_concat
  refine⟨_,rfl,.inl ⟨rfl,_,SqL.of hw6⟩,lw,_,_,rfl,rfl,hw6,elast,?_⟩;rw[edrop];have s07:YI H (upd H6 lw (.lst (zs'.map V.str))):=s06.put lR;have w7:upd H6 lw (.lst (zs'.map V.str)) lw=some (.lst (zs'.map V.str)):=YB;have r7:upd H6 lw (.lst (zs'.map V.str)) lr=some (.lst (ks.map nV)):=by rw[YE nrw];exact hr6
  have d7:upd H6 lw (.lst (zs'.map V.str)) d=some (.dK (szD e)):=by rw[YE dlw];exact hd6
  have p7:YU (upd H6 lw (.lst (zs'.map V.str))):=p6.upd rfl;revert s07 w7 r7 d7 p7;generalize upd H6 lw (.lst (zs'.map V.str))=H7;intro s07 w7 r7 d7 p7;obtain⟨hzp,hzk⟩:=hzs z (YLO _ (List.mem_singleton.mpr rfl));have pA:∀x∈zs',Yo x=true∧(isQ x=false→x∈e.map (·.1)):=fun x hx=>hzs x (YLU _ hx)
  rw[XD]at qg hμ;rw[YGm,YLE]at uH hμ;rw[List.reverse_append]at hrow;have hrow:∀ks' sg',JM g (z :: zs'.reverse) ks' sg'→JM g [r0.1] (ks ++ ks') (sg ++ sg'):=hrow;obtain⟨ch,hc,hlz,hdec⟩:=JL hzp;refine⟨_,rfl,z,0,ch,rfl,rfl,YH (by omega),hc,rfl,_,rfl,?_⟩;rw[hdec]
  by_cases hq:isQ z=true
  ·rw[hq];rw[YAP hq]at qg hμ;have ei:(sg.length:Int) + 1=((sg ++ [sgn z]).length:Int):=by rw[YLE];rfl
   refine⟨_,rfl,_,_,rfl,rfl,?_⟩;refine⟨_,?_,ks,zs',sg ++ [sgn z],_,_,_,_,by rw[←ei];rfl,w7,r7,d7,pA,fun ks' sg' h=>?_,by rw[YLE];show sg.length + 1 + _≤_;omega,by omega,rfl,s07,p7⟩
   ·rw[hμ];omega
   ·have:=hrow ks' (sgn z :: sg') (.sign hq h);rw[YLQ];exact this
  ·have hq':isQ z=false:=Bool.eq_false_iff.mpr hq;rw[hq'];rw[YAQ hq']at qg hμ;rw[YGn hq']at uH hμ;obtain⟨k0,hk0⟩:=YEl (hzk hq');obtain⟨kk,rs,rfl,ers,ezs,hall,h2⟩:=he.at_ z k0 hk0;refine⟨_,rfl,_,rfl,d,.int (kk:Int),rfl,YK0 d7 hk0,?_⟩;have hns':=YDv hall;dsimp only[ZH];refine X5 (t:=tIfS _ _ _) (fun σ' H'=>∃(k:Nat) (r:ZW) (v9:Option V),σ'=[some (.ref l),some (.ref c),some (.int (R:Int)),some (.ref d),some (.ref lw),some (.ref lr),some (.int (sg.length:Int)),some (.str z),some (.int (k:Int)),v9,v10]∧g[k]?=some r∧r.1=z∧(∀p∈r.2.1,isQ p=false→p∈e.map (·.1))∧sg.length + ZI zs' + ZI r.2.1≤R∧(ks.length < ns.length∨(ZI r.2.1≤2∧unQ r.2.1=[]))∧YI H7 H'∧YU H') ?_ fun rest'=>?_
   ·rintro σ H8 ⟨k,r,v9,rfl,er,erz,hpk,hrn,hor,s8,p8⟩;have hok:=Y1 (ZC hg er);obtain⟨t,pp,ax,ht,hpp⟩:=Zr ((hds.same s07).same s8) er;refine⟨_,rfl,.inl ⟨rfl,_,SqL.of (s8 _ _ r7)⟩,_,rfl,lr,_,_,rfl,rfl,s8 _ _ r7,by rw[YLD,sizeLine_eq];omega,?_⟩;have er9:ks.map nV ++ [V.int (k:Int)]=(ks ++ [k]).map nV:=by rw[YLK];rfl
    rw[er9];have s9:YI H (upd H8 lr (.lst ((ks ++ [k]).map nV))):=(s07.trans s8).put rH;have w9:upd H8 lr (.lst ((ks ++ [k]).map nV)) lw=some (.lst (zs'.map V.str)):=by rw[YE nrw.symm];exact s8 _ _ w7
    have r9:upd H8 lr (.lst ((ks ++ [k]).map nV)) lr=some (.lst ((ks ++ [k]).map nV)):=YB;have d9:upd H8 lr (.lst ((ks ++ [k]).map nV)) d=some (.dK (szD e)):=by rw[YE dlr];exact s8 _ _ d7
    have p9:YU (upd H8 lr (.lst ((ks ++ [k]).map nV))):=p8.upd rfl;have ht9:upd H8 lr (.lst ((ks ++ [k]).map nV)) t=some (.tup [.str r.1,.ref pp,.int r.2.2]):=by
     rw[YE (fun z=>by rw[z,s8 _ _ r7]at ht;cases ht)];exact ht
    have hp9:upd H8 lr (.lst ((ks ++ [k]).map nV)) pp=some (.tup (r.2.1.map V.str)):=by
     rw[YE (fun z=>by rw[z,s8 _ _ r7]at hpp;cases hpp)];exact hpp
    revert s9 w9 r9 d9 p9 ht9 hp9;generalize upd H8 lr (.lst ((ks ++ [k]).map nV))=H9;intro s9 w9 r9 d9 p9 ht9 hp9;refine⟨_,rfl,_,rfl,l,_,_,_,rfl,rfl,SqL.of (s9 _ _ hl),ax,t,_,1,_,rfl,rfl,SqT.of ht9,rfl,pp,_,rfl,SqT.of hp9,?_⟩;have h6:=hok.1;have wI:=YDu zs';have npw:pp≠lw:=fun z=>by rw[z,w9]at hp9;cases hp9
    refine YF9 (K:=K) (a:=pp) (xs:=r.2.1.map V.str) (fun i σ H6=>∃v10,σ=[some (.ref l),some (.ref c),some (.int (R:Int)),some (.ref d),some (.ref lw),some (.ref lr),some (.int (sg.length:Int)),some (.str z),some (.int (k:Int)),v9,v10]∧H6 lw=some (.lst ((zs' ++ r.2.1.reverse.take i).map V.str))∧H6 lr=some (.lst ((ks ++ [k]).map nV))∧H6 d=some (.dK (szD e))∧H6 pp=some (.tup (r.2.1.map V.str))∧YI H H6∧YU H6)
     ⟨v10,rfl,by rw[List.take_zero,YLW];exact w9,r9,d9,hp9,s9,p9⟩ ?_ ?_ ?_
    ·rintro i σ Hx _ ⟨_,rfl,_,_,_,hpx,_,_⟩;exact SqT.of hpx
    ·rintro i y σ Hx hi ⟨v10,rfl,wx,rx,dx,hpx,sx,px⟩;rw[←List.map_reverse,YLI]at hi;cases ex:r.2.1.reverse[i]? with
     |none=>rw[ex]at hi;cases hi
     |some x=>
      rw[ex]at hi;cases hi;have et:r.2.1.reverse.take (i + 1)=r.2.1.reverse.take i ++ [x]:=by rw[YLf,ex];rfl
      refine⟨_,rfl,.inl ⟨rfl,_,SqL.of wx⟩,_,rfl,lw,_,_,rfl,rfl,wx,by rw[YLD,YLE,List.length_take,YLa,sizeLine_eq];omega,_,rfl,?_,by rw[YE nrw];exact rx,by rw[YE dlw];exact dx,by rw[YE npw];exact hpx,sx.put lR,px.upd rfl⟩;rw[YB,et,←YLQ,YLK (l₂:=[x])];rfl
    ·rintro σ Hx ⟨v10,rfl,wx,rx,dx,hpx,sx,px⟩;have eall:r.2.1.reverse.take (r.2.1.map V.str).length=r.2.1.reverse:=by rw[YLD,←YLa (as:=r.2.1),List.take_length]
     rw[eall]at wx;have hun:=YHn (zs' ++ r.2.1.reverse);have wJ:=YHn r.2.1;rw[XD,YE0]at hun;have eu:(unQ (zs' ++ r.2.1.reverse)).length=(unQ zs').length + (unQ r.2.1).length:=by rw[YGm,YLE,unQ_rev]
     have en2:ZI (zs' ++ r.2.1.reverse)=ZI zs' + ZI r.2.1:=by rw[XD,YE0]
     have ekl:(ks ++ [k]).length=ks.length + 1:=by rw[YLE];rfl
     refine⟨_,?_,ks ++ [k],zs' ++ r.2.1.reverse,sg,_,_,_,_,rfl,wx,rx,dx,fun x hx=>?_,fun ks' sg' h=>?_,by omega,?_,rfl,sx,px⟩
     ·rw[hμ,en2,eu,ekl];rcases hor with hor |⟨ho1,ho2⟩
      ·have:(ns.length - ks.length) * 200=(ns.length - (ks.length + 1)) * 200 + 200:=by omega
       omega
      ·rw[ho2];show _ + (_ + ((unQ zs').length + 0)) < _;omega
     ·rcases List.mem_append.mp hx with hx |hx
      ·exact pA x hx
      ·exact⟨hok.2 x (List.mem_reverse.mp hx),hpk x (List.mem_reverse.mp hx)⟩
     ·rw[List.reverse_append,List.reverse_reverse]at h;have:=hrow (k :: ks') sg' (by rw[←erz];exact .name (by rw[erz];exact hq') er h);rw[YLQ];exact this
     ·rw[eu,ekl];rcases hor with hor |⟨ho1,ho2⟩
      ·omega
      ·rw[ho2];show(unQ zs').length + 0 + _≤_;omega
   ·refine⟨_,rfl,lr,_,rfl,.inl (SqL.of r7),_,rfl,c,_,rfl,.inl (s07.seq hS),_,_,rfl,rfl,_,rfl,?_⟩;rw[YLD,YLD]
    by_cases hcl:ks.length < ns.length
    case neg=>
     rw[decide_eq_false (by omega)];refine ZL (rest' _ _ ⟨kk,rs,_,rfl,ers,ezs,(fun p hp h=>by rw[hall p hp]at h;cases h),by rw[hns'.1];omega,.inr ⟨by rw[hns'.1];exact h2,hns'.2⟩,YI.refl _,p7⟩)
    rw[decide_eq_true (by omega)];refine Ze ⟨_,rfl,_,rfl,_,rfl,_,rfl,_,rfl,_,_,rfl,rfl,_,rfl,lw,zs',rfl,.inl w7,fun x hx=>(pA x hx).1,?_,p7,fun H8 s8 p8=>⟨_,_,rfl,rfl,?_⟩⟩
    ·have:=YDu zs';omega
    have s08:=s07.trans s8;refine⟨l,d,xs,g,e,z,_,rfl,s08 _ _ hl,hds.same s08,hg,s8 _ _ d7,p8,fun lo H9 s9 p9 ho0 ho=>?_⟩;have s09:=s08.trans s9;obtain⟨M,eM⟩:∃M,YBK g e z ((R:Int) - (sg.length:Int) - (ZI zs':Nat)) g.length=M:=⟨_,rfl⟩;rw[eM]at ho;have vI:kk∈M:=by
     rw[←eM];unfold YBK;rw[List.mem_filter];refine⟨YKZ ers ezs (fun p hp h=>by rw[hall p hp]at h;cases h),?_⟩;rw[YFU ers,hns'.1];exact decide_eq_true (by omega)
    have hMl:0 < M.length:=List.length_pos_of_mem vI;have sqM:SqL K H9 lo (M.map nV):=SqL.of ho;have sqr:SqL K H9 lr (ks.map nV):=SqL.of ((s8.trans s9) _ _ r7);have ac:atI (ns.map V.int) ((ks.map nV).length:Nat)=some (.int ns[ks.length]):=by
     rw[YLD];exact ZT (by rw[YLI,YLF hcl];rfl)
    obtain⟨y,hy,hym⟩:=Js (xs:=M.map nV) (i:=ns[ks.length] % ((M.map nV).length:Nat)) (Int.emod_nonneg _ (by rw[YLD];omega)) (Int.emod_lt_of_pos _ (by rw[YLD];omega));obtain⟨k,hkM,rfl⟩:=List.mem_map.mp hym;rw[←eM]at hkM;unfold YBK at hkM;rw[List.mem_filter]at hkM;obtain⟨r,er,erz,hin⟩:=YJP hkM.1;have hf:=hkM.2;rw[YFU er]at hf;have hf:=of_decide_eq_true hf;refine⟨_,rfl,_,rfl,_,rfl,lr,_,rfl,.inl sqr,c,_,_,_,rfl,rfl,s09.seq hS,ac,_,rfl,lo,_,rfl,.inl sqM,_,_,rfl,rfl,(by rw[YLD];show(0:Int) < _;omega),lo,_,_,_,rfl,rfl,sqM,hy,?_⟩;exact rest' _ _ ⟨k,r,_,rfl,er,erz,hin,by omega,.inl hcl,s8.trans s9,p9⟩
theorem Zi:YV ["_law_grammar_here","_law_row_here","_law_waiting","_law_signs_here","_law_at","_law_part","_law_beneath"] ["_law_grammar_here","_law_row_here"] (YJ YAt):=⟨rfl,rfl,rfl,by decide +kernel,rfl,by decide +kernel,by decide +kernel⟩
theorem YFY {f:Addr}{fd:FuncData} (F:Fun K "_law_read" "_law_read" YAt f fd) (T:Txt K mg C):Y6 P w K mg base CX0 1 f fd ["_law_grammar_here","_law_row_here"] (YK2):=by
 refine F.ok Zi (fun vs H Q E h=>?_) (fun cdv A outer s H vs Q E hr h=>?_)
 ·obtain⟨l,o,xs,r0,rest,ks,sg,rfl,_⟩:=h;rfl
 ·obtain⟨l,o,xs,r0,rest,ks,sg,rfl,hl,hds,hg,ho,hrow,hkl,hp,q⟩:=h;have hU:=hr.units;refine⟨_,(YF (YK (i:=2) Zi.nd rfl (Or.inl rfl) (Y0 (YA (YM (YS K rfl) (YM (YW K rfl) (pv 0) YD (fun _ _=>rfl)) YD (fun _ _=>rfl)) YC)))
   (YF (YK (i:=3) Zi.nd rfl (Or.inl rfl) Zj)
   (YF (YK (i:=4) Zi.nd rfl (Or.inl rfl) YD)
   (YF (Xz PassesOwn.never (Ye (Je K rfl hU) (pv 2) (Y0 YC) (Yf _)) (YF (YK (i:=5) Zi.nd rfl (Or.inl rfl) (Xg K rfl PySem.F.plainAttrs_list PySem.F.slot_list_pop PySem.F.type_list_pop YCC (pv 2)))
   (YG (Y3 (Ye Jq (YM Z5 (pv 5) YD (fun _ _=>rfl)) Zj (Yf _)) (YG (YK (i:=3) Zi.nd rfl (Or.inl rfl) (YN JK (pv 3) (YM Z5 (pv 5) YD (fun _ _=>rfl))))) (YF (Y3 (PW.pt (YHs (Ye op_ge (pv 4) (YR (YQ K rfl) (by rfl) T.aD PyProof.Rows.Boot.«len» (YA (pv 1) YC)) (Yf _)) (YHs (XF (YJn YAa YBg YD (YM (YW K rfl) (pv 1) (pv 4) (fun _ _=>rfl)) (YR (YQ K rfl) (by rfl) T.aD PyProof.Rows.Boot.«len» (YA (pv 0) YC)))) (YG0 (Ye YCa (YM (YS K rfl) (YM (YW K rfl) (pv 0) (YM (YW K rfl) (pv 1) (pv 4) (fun _ _=>rfl)) (fun _ _=>rfl)) YD (fun _ _=>rfl)) (pv 5) (Yf _)))))) (YG (YX YBL)) Yc)
   (YF (ZQ PassesOwn.never rfl (YIJ K rfl rfl T.cT (YA (YM (YS K rfl) (YM (YW K rfl) (pv 0) (YM (YW K rfl) (pv 1) (pv 4) (fun _ _=>rfl)) (fun _ _=>rfl)) YD (fun _ _=>rfl)) YC)) (Yd (i:=6) Zi.nd rfl (Or.inl rfl)) (YG (Yk (ZV K rfl PySem.F.plainAttrs_list PySem.F.slot_list_append PySem.F.type_list_append Yl (pv 2) (YA (pv 6) YC)))))
   (YG (YK (i:=4) Zi.nd rfl (Or.inl rfl) (YN Yp (pv 4) YD)))))))))
   (YF (Y3 (Ye YBg (pv 4) (YR (YQ K rfl) (by rfl) T.aD PyProof.Rows.Boot.«len» (YA (pv 1) YC)) (Yf _)) (YG (YX YBL)) Yc)
   (YG (YX (pv 3)))))))),?_⟩
  have hxl:xs.length=(r0 :: rest).length:=by rw[hds.len,YLD]
  have s1:YI H H:=YI.refl _;have p1:YU H:=hp;have tZ:Yo r0.1=true:=YBT (Jg (ZC hg (i:=0) rfl));have hg0:(r0 :: rest)[0]?=some r0:=rfl;obtain⟨g,eg⟩:∃g,r0 :: rest=g:=⟨_,rfl⟩;rw[eg]at hds hg hrow hxl hg0;obtain⟨t0,p0,ax0,ht0,_⟩:=Zr hds hg0;refine⟨_,rfl,l,_,0,_,rfl,rfl,SqL.of (s1 _ _ hl),ax0,t0,_,0,_,rfl,rfl,SqT.of (s1 _ _ ht0),rfl,YH (by show 1≤1000;decide),fun lw hlw=>?_⟩;have lR:H lw=none:=s1.free hlw;have s2:=s1.trans (YI.upd (o:=.lst [.str r0.1]) hlw);have w2:upd H lw (.lst [.str r0.1]) lw=some (.lst ([r0.1].map V.str)):=YB;have p2:YU (upd H lw (.lst [.str r0.1])):=p1.upd rfl;revert s2 w2 p2;generalize upd H lw (.lst [.str r0.1])=H2;intro s2 w2 p2;have e0:(("":Str))=⟨([]:List Nat).toArray⟩:=by decide +kernel
  rw[e0];refine⟨fun μ σ H3=>∃(zs:List Str) (s1 s2:List Nat) (at_:Nat) (v5 v6:Option V),σ=[some (.ref l),some (.ref o),some (.ref lw),some (.str ⟨s1.toArray⟩),some (.int (at_:Int)),v5,v6]∧H3 lw=some (.lst (zs.map V.str))∧(∀x∈zs,Yo x=true)∧JM g zs.reverse (ks.drop at_) s2∧s1 ++ s2=sg∧at_≤ks.length∧s1.length + zs.length≤1 + 6 * at_∧μ=7 * (ks.length - at_) + zs.length∧YI H H3∧YU H3,
   ⟨_,[r0.1],[],sg,0,none,none,rfl,w2,fun x hx=>by rw[List.mem_singleton.mp hx];exact tZ,hrow,rfl,YLN _,(show 0 + 1≤1 by decide),rfl,s2,p2⟩,?_⟩
  rintro μ σ H3 ⟨zs,c1,c2,at_,v5,v6,rfl,w3,hz3,jU,hcc,hat,hlen3,hμ,s3,p3⟩;refine⟨_,rfl,YLN _,fun le2 t_=>?_⟩;have s4:=YI.upd (o:=.lst []) t_;refine⟨_,_,.lst (.inl (s4 _ _ w3)) (Yb.strs zs),.lst (.inl YB) .nil,YC8 _,rfl,YBs _,_,rfl,?_⟩;rw[YDC];have w4:=s4 _ _ w3;have s04:=s3.trans s4;have p4:YU (upd H3 le2 (.lst [])):=p3.upd rfl;revert w4 s04 p4;generalize upd H3 le2 (.lst [])=H4;intro w4 s04 p4;rcases List.eq_nil_or_concat zs with hz |⟨zs',z,hz⟩
  ·subst hz;rw[decide_eq_true rfl];refine ZL ?_;obtain⟨h1,h2⟩:=YKy jU;have hend:ks.length≤at_:=List.drop_eq_nil_iff.mp h1;refine⟨_,rfl,_,rfl,o,_,rfl,.inl (SqL.of (s04 _ _ ho)),_,_,rfl,rfl,_,rfl,?_⟩;rw[decide_eq_false (by rw[YLD];omega)];rw[h2,YLW]at hcc;rw[hcc];exact ZL ⟨_,rfl,q H4 s04 p4⟩
  rw[List.concat_eq_append]at hz;subst hz;rw[decide_eq_false (by simp)];refine Ze ⟨_,fun _ _ h=>h,?_⟩;have elast:((zs' ++ [z]).map V.str)[((zs' ++ [z]).map V.str).length - 1]?=some (.str z):=by
   rw[YLK,YLE];show(_ ++ [V.str z])[_ + 1 - 1]?=_;rw[Nat.add_sub_cancel,YLV (YLG _),Nat.sub_self];rfl
  have edrop:((zs' ++ [z]).map V.str).dropLast=zs'.map V.str:=by rw[YLK];exact List.dropLast_concat
  refine⟨_,rfl,.inl ⟨rfl,_,SqL.of w4⟩,lw,_,_,rfl,rfl,w4,elast,?_⟩;rw[edrop];have s05:YI H (upd H4 lw (.lst (zs'.map V.str))):=s04.put lR;have w5:upd H4 lw (.lst (zs'.map V.str)) lw=some (.lst (zs'.map V.str)):=YB;have p5:YU (upd H4 lw (.lst (zs'.map V.str))):=p4.upd rfl;revert s05 w5 p5;generalize upd H4 lw (.lst (zs'.map V.str))=H5;intro s05 w5 p5;have hzp:=hz3 z (YLO _ (List.mem_singleton.mpr rfl));have pA:∀x∈zs',Yo x=true:=fun x hx=>hz3 x (YLU _ hx)
  rw[YLE]at hlen3 hμ;have hlen3:c1.length + (zs'.length + 1)≤1 + 6 * at_:=hlen3;have hμ:μ=7 * (ks.length - at_) + (zs'.length + 1):=hμ;rw[List.reverse_append]at jU;have jU:JM g (z :: zs'.reverse) (ks.drop at_) c2:=jU;obtain⟨c,hc,hlz,hdec⟩:=JL hzp;refine⟨_,rfl,z,0,c,rfl,rfl,YH (by omega),hc,rfl,_,rfl,?_⟩;rw[hdec]
  by_cases hq:isQ z=true
  ·rw[hq];obtain⟨c2',e2,uI⟩:=YJa hq jU;have el1:(⟨c1.toArray⟩:Str).length=c1.length:=rfl;refine⟨_,rfl,_,rfl,z,1,sgn z,rfl,rfl,YH (by omega),YCj hzp hq,⟨c1.toArray⟩,_,rfl,rfl,by rw[sizeLine_eq,el1];show c1.length + 1≤_;omega,?_⟩;rw[YKz];refine⟨_,?_,zs',c1 ++ [sgn z],c2',at_,_,_,rfl,w5,pA,uI,by rw[←hcc,e2,YLQ];rfl,hat,by rw[YLE];show c1.length + 1 + _≤_;omega,rfl,s05,p5⟩;rw[hμ];omega
  ·have hq':isQ z=false:=Bool.eq_false_iff.mpr hq;rw[hq'];obtain⟨k,row',r,e1,er,hrz,uJ⟩:=YJb hq' jU;have uK:at_ < ks.length:=by
    have:=congrArg List.length e1;rw[YLd,YLM]at this;omega
   have ek:ks[at_]?=some k∧row'=ks.drop (at_ + 1):=by
    rw[List.drop_eq_getElem_cons uK]at e1;cases e1;exact⟨YLF uK,rfl⟩
   have ao:atI (ks.map nV) (at_:Int)=some (.int (k:Int)):=by
    refine ZT (j:=at_) ?_;rw[YLI,ek.1];rfl
   have hok:=ZC hg er;have hkx:k < xs.length:=by rw[hxl];exact(List.getElem?_eq_some_iff.mp er).1
   obtain⟨tt,pp,ax,ht1,hpp⟩:=Zr hds er;have sqo:SqL K H5 o (ks.map nV):=SqL.of (s05 _ _ ho);have sql:SqL K H5 l xs:=SqL.of (s05 _ _ hl);refine⟨_,rfl,_,rfl,o,_,rfl,.inl sqo,_,_,rfl,rfl,_,rfl,?_⟩;rw[decide_eq_false (by rw[YLD];omega)];refine ZL ⟨_,rfl,_,rfl,o,_,_,_,rfl,rfl,sqo,ao,_,_,rfl,rfl,_,rfl,?_⟩;rw[decide_eq_true (by omega)];refine Ze ⟨_,rfl,l,_,rfl,.inl sql,_,_,rfl,rfl,_,rfl,?_⟩;rw[decide_eq_true (by omega)];refine ZL ⟨_,rfl,_,rfl,_,rfl,o,_,_,_,rfl,rfl,sqo,ao,l,_,_,_,rfl,rfl,sql,ax,tt,_,0,_,rfl,rfl,SqT.of (s05 _ _ ht1),rfl,_,rfl,rfl,_,rfl,?_⟩;rw[decS,decide_eq_true hrz];refine ZL ?_;refine⟨_,rfl,_,rfl,_,rfl,o,_,_,_,rfl,rfl,sqo,ao,l,_,_,_,rfl,rfl,sql,ax,tt,_,1,_,rfl,rfl,SqT.of (s05 _ _ ht1),rfl,pp,_,rfl,SqT.of (s05 _ _ hpp),?_⟩;have hr6:=(Y1 hok).1;refine YF9 (K:=K) (a:=pp) (xs:=r.2.1.map V.str) (fun i σ H6=>∃v6,σ=[some (.ref l),some (.ref o),some (.ref lw),some (.str ⟨c1.toArray⟩),some (.int (at_:Int)),some (.str z),v6]∧H6 lw=some (.lst ((zs' ++ r.2.1.reverse.take i).map V.str))∧YI H H6∧YU H6)
    ⟨v6,rfl,by rw[List.take_zero,YLW];exact w5,s05,p5⟩ ?_ ?_ ?_
   ·rintro i σ H6 _ ⟨_,rfl,_,s6,_⟩;exact SqT.of (s6 _ _ hpp)
   ·rintro i y σ H6 hi ⟨v6,rfl,w6,s6,p6⟩;rw[←List.map_reverse,YLI]at hi;cases ex:r.2.1.reverse[i]? with
    |none=>rw[ex]at hi;cases hi
    |some x=>
     rw[ex]at hi;cases hi;have et:r.2.1.reverse.take (i + 1)=r.2.1.reverse.take i ++ [x]:=by rw[YLf,ex];rfl
     refine⟨_,rfl,.inl ⟨rfl,_,SqL.of w6⟩,_,rfl,lw,_,_,rfl,rfl,w6,by rw[YLD,YLE,List.length_take,YLa,sizeLine_eq];omega,_,rfl,?_,s6.put lR,p6.upd rfl⟩;rw[YB,et,←YLQ,YLK (l₂:=[x])];rfl
   ·rintro σ H6 ⟨v6,rfl,w6,s6,p6⟩;have eall:r.2.1.reverse.take (r.2.1.map V.str).length=r.2.1.reverse:=by rw[YLD,←YLa (as:=r.2.1),List.take_length]
    rw[eall]at w6;refine⟨_,rfl,_,_,rfl,rfl,?_⟩;have ei:(at_:Int) + 1=((at_ + 1:Nat):Int):=by omega
    refine⟨_,?_,zs' ++ r.2.1.reverse,c1,c2,at_ + 1,_,_,by rw[←ei];rfl,w6,fun x hx=>?_,?_,hcc,by omega,?_,rfl,s6,p6⟩
    ·rw[hμ,YLE,YLa];omega
    ·rcases List.mem_append.mp hx with hx |hx
     ·exact pA x hx
     ·exact(Y1 hok).2 x (List.mem_reverse.mp hx)
    ·rw[List.reverse_append,List.reverse_reverse,←ek.2];exact uJ
    ·rw[YLE,YLa];omega
end
theorem YK3 {p:Str} (h:Yo p=true) (hq:isQ p=true):good (sgn p)=true:=by
 unfold Yo at h;rw[Bool.or_eq_true]at h;rcases h with h |h
 ·unfold J7 at h;rw[YLJ]at h;exact h.2
 ·rw[Ju]at hq;have hq:=of_decide_eq_true hq;unfold isNameS at h;rw[YLJ]at h;exact absurd (List.all_eq_true.mp h.2 39 (YLH hq)) (by decide)
theorem JM.good {g:YT} (hg:Yv g=true) {ws:List Str}{ks sg:List Nat} (h:JM g ws ks sg):(∀p∈ws,Yo p=true)→sg.all FR.good=true:=by
 induction h with
 |nil=>intro _;rfl
 |sign hq _ ih=>
  intro hw;rw[List.all_cons,YK3 (hw _ (YLP ..)) hq,ih fun p hp=>hw p (YLR _ hp)];rfl
 |name _ hk _ ih=>
  intro hw;refine ih fun p hp=>?_
  rcases List.mem_append.mp hp with hp |hp
  ·exact(Y1 (ZC hg hk)).2 p hp
  ·exact hw p (YLR _ hp)
theorem YK4 {g:YT} (hg:Yv g=true) {r0:ZW}{rest:YT} (eg:g=r0 :: rest) {ks sg:List Nat} (h:JM g [r0.1] ks sg) (hl:sg.length≤60):Zg ⟨sg.toArray⟩=true:=by
 unfold Zg;rw[YLJ];refine⟨decide_eq_true (by show sg.toArray.size≤60;rw[YLL];omega),?_⟩;exact h.good hg fun p hp=>by
  cases List.mem_singleton.mp hp;exact YBT (Jg (ZC hg (i:=0) (by rw[eg];rfl)))
theorem YHo {z:Str} (h:Zg z=true):(D.str z).short=true:=by
 unfold Zg at h;rw[YLJ,decide_eq_true_eq]at h;unfold D.short;exact decide_eq_true (by show z.cps.size≤1000;omega)
inductive For (g:YT):List Str→List Nat→List Nat→Nat→Prop
 |nil:For g [] [] [] 0
 |sign {p:Str}{ps:List Str}{ks sg:List Nat}{h:Nat}:isQ p=true→For g ps ks sg h→For g (p :: ps) ks (sgn p :: sg) h
 |name {r:ZW}{p:Str}{ps:List Str}{k:Nat}{k1 k2 s1 s2:List Nat}{h1 h2:Nat}:r.1=p→isQ p=false→g[k]?=some r→For g r.2.1 k1 s1 h1→For g ps k2 s2 h2→For g (p :: ps) (k :: (k1 ++ k2)) (s1 ++ s2) (max (h1 + 1) h2)
theorem For.split {g:YT}{y:List Str}:∀{x:List Str}{ks sg:List Nat}{h:Nat},For g (x ++ y) ks sg h→∃k1 k2 s1 s2 h1 h2,ks=k1 ++ k2∧sg=s1 ++ s2∧For g x k1 s1 h1∧For g y k2 s2 h2
 |[],ks,sg,h,f=>⟨[],ks,[],sg,0,h,rfl,rfl,.nil,f⟩
 |p :: x,ks,sg,h,f=>by
  have f:For g (p :: (x ++ y)) ks sg h:=f;cases f with
  |sign hq f1=>
   obtain⟨k1,k2,s1,s2,h1,h2,rfl,rfl,a,b⟩:=f1.split;exact⟨k1,k2,_,s2,h1,h2,rfl,rfl,.sign hq a,b⟩
  |name e hq hk f1 f2=>
   obtain⟨k1,k2,s1,s2,h1,h2,rfl,rfl,a,b⟩:=f2.split;exact⟨_,k2,_,s2,_,h2,by rw[List.cons_append,YLQ],(YLQ ..).symm,.name e hq hk f1 a,b⟩
theorem JM.tree {g:YT}{ws:List Str}{ks sg:List Nat} (h:JM g ws ks sg):∃m,For g ws ks sg m:=by
 induction h with
 |nil=>exact⟨0,.nil⟩
 |sign hq _ ih=>
  obtain⟨m,f⟩:=ih;exact⟨m,.sign hq f⟩
 |name hq hk _ ih=>
  obtain⟨m,f⟩:=ih;obtain⟨k1,k2,s1,s2,h1,h2,rfl,rfl,a,b⟩:=f.split;exact⟨_,.name rfl hq hk a b⟩
theorem X8 {α:Type}{xs ps:List α}{p:α}{d:Nat} (h:xs.drop d=p :: ps):xs.drop (d + 1)=ps:=by
 rw[←List.drop_drop,h];rfl
abbrev T3:=Nat×Nat×Nat
def J3:List Str→T3→List T3→Option (T3×List T3)
 |[],a,w=>some (a,w)
 |p :: ps,a,w=>if isQ p=true then J3 ps (a.1 + 1,a.2.1,a.2.2) w else match w with
  |[]=>none
  |b :: w'=>J3 ps (a.1 + b.1,max a.2.1 b.2.1,a.2.2 + b.2.2) w'
def upT (a:T3):T3:=(a.1,a.2.1 + 1,a.2.2)
inductive Xb (g:YT):List Nat→List T3→List T3→Prop
 |nil:Xb g [] [] []
 |cons {k:Nat}{ks:List Nat}{w t w':List T3}{r:ZW}{e:T3}:Xb g ks w t→g[k]?=some r→J3 r.2.1 (0,0,1) w=some (e,w')→Xb g (k :: ks) (upT e :: w') (upT e :: t)
theorem Xb.det {g:YT}{ks:List Nat}{w t:List T3} (h:Xb g ks w t):∀{w2 t2:List T3},Xb g ks w2 t2→w=w2∧t=t2:=by
 induction h with
 |nil=>
  intro w2 t2 h2;cases h2;exact⟨rfl,rfl⟩
 |cons _ hk hs ih=>
  intro w2 t2 h2;cases h2 with
  |cons h3 hk2 hs2=>
   obtain⟨rfl,rfl⟩:=ih h3;rw[hk]at hk2;cases hk2;rw[hs]at hs2;cases hs2;exact⟨rfl,rfl⟩
theorem Xb.drop {g:YT}{ks:List Nat}{w t:List T3} (h:Xb g ks w t):∀c,c≤ks.length→∃w',Xb g (ks.drop c) w' (t.drop c):=by
 induction h with
 |nil=>
  intro c hc;have:c=0:=Nat.le_zero.mp hc;subst this;exact⟨_,.nil⟩
 |cons h1 hk hs ih=>
  intro c hc;cases c with
  |zero=>exact⟨_,.cons h1 hk hs⟩
  |succ c=>exact ih c (Nat.le_of_succ_le_succ hc)
theorem Xb.len {g:YT}{ks:List Nat}{w t:List T3} (h:Xb g ks w t):t.length=ks.length:=by
 induction h with
 |nil=>rfl
 |cons _ _ _ ih=>rw[YLM,YLM,ih]
theorem For.rowT {g:YT}{ps:List Str}{k1 s1:List Nat}{h:Nat} (f:For g ps k1 s1 h):∀{k2:List Nat}{w t:List T3},Xb g k2 w t→∃ts tt,Xb g (k1 ++ k2) (ts ++ w) (tt ++ t)∧∀(a:T3) (w':List T3),J3 ps a (ts ++ w')=some ((a.1 + s1.length,max a.2.1 h,a.2.2 + k1.length),w'):=by
 induction f with
 |nil=>
  intro k2 w t hr;refine⟨[],[],hr,fun a w'=>?_⟩;unfold J3;simp
 |sign hq _ ih=>
  intro k2 w t hr;obtain⟨ts,tt,h1,h2⟩:=ih hr;refine⟨ts,tt,h1,fun a w'=>?_⟩;unfold J3;rw[if_pos hq,h2];simp only[YLM,Option.some.injEq,Prod.mk.injEq,and_true];omega
 |name e hq hk _ _ ih1 ih2=>
  intro k2 w t hr;obtain⟨ts2,tt2,a1,a2⟩:=ih2 hr;obtain⟨ts1,tt1,b1,b2⟩:=ih1 a1;have c1:=Xb.cons b1 hk (b2 _ _)
  rename_i r0 p0 ps0 k0 kk1 kk2 ss1 ss2 hh1 hh2 _ _
  refine⟨upT (0 + ss1.length,max 0 hh1,1 + kk1.length) :: ts2,upT (0 + ss1.length,max 0 hh1,1 + kk1.length) :: (tt1 ++ tt2),?_,fun a w'=>?_⟩
  ·rw[List.cons_append,List.cons_append,List.cons_append,YLQ,YLQ];exact c1
  ·rw[List.cons_append];unfold J3;rw[if_neg (by rw[hq];decide)];show J3 _ (_,_,_) _=_;rw[a2];simp only[upT,YLM,YLE,Option.some.injEq,Prod.mk.injEq,and_true];omega
theorem Xb.at_ {g:YT}{ks:List Nat}{w t:List T3} (h:Xb g ks w t) {c kk:Nat}{k1 rest s1:List Nat}{h1:Nat}{r:ZW} (hc:ks.drop c=kk :: (k1 ++ rest)) (hk:g[kk]?=some r) (f:For g r.2.1 k1 s1 h1):t[c]?=some (s1.length,h1 + 1,1 + k1.length):=by
 have hcl:c≤ks.length:=by
  have:=congrArg List.length hc;rw[YLd,YLM]at this;omega
 obtain⟨w',hd⟩:=h.drop c hcl;rw[hc]at hd;generalize ht:t.drop c=td at hd;cases hd with
 |cons hX hk2 hs=>
  rw[hk]at hk2;cases hk2;obtain⟨w3,h3⟩:=hX.drop k1.length (by rw[YLE];omega);rw[List.drop_left]at h3;obtain⟨ts,tt,b1,b2⟩:=f.rowT h3;obtain⟨rfl,_⟩:=hX.det b1;rw[b2]at hs;cases hs;have:t[c]?=(t.drop c)[0]?:=by rw[List.getElem?_drop];rfl
  rw[this,ht];show some (upT _)=_;unfold upT;simp
def J4 (cs:List Nat) (b:Nat) (s:List Nat):Prop:=b≤cs.length∧∃rest,cs.drop b=s ++ rest
theorem J4.app {cs:List Nat}{b:Nat}{s1 s2:List Nat} (h:J4 cs b (s1 ++ s2)):J4 cs b s1∧J4 cs (b + s1.length) s2:=by
 obtain⟨hb,rest,e⟩:=h;have hl:=congrArg List.length e;rw[YLd,YLE,YLE]at hl;refine⟨⟨hb,s2 ++ rest,by rw[e,YLQ]⟩,by omega,rest,?_⟩;rw[←List.drop_drop,e,YLQ,List.drop_left]
theorem J4.head {cs:List Nat}{b c:Nat}{s:List Nat} (h:J4 cs b (c :: s)):cs[b]?=some c∧J4 cs (b + 1) s:=by
 refine⟨?_,(J4.app (s1:=[c]) h).2⟩;obtain⟨hb,rest,e⟩:=h;have:cs[b]?=(cs.drop b)[0]?:=by rw[List.getElem?_drop];rfl
 rw[this,e];rfl
theorem YFZ {p:Str} (h:Yo p=true) (hq:isQ p=true):p=XZ (sgn p):=by
 have h1:=YCj h hq;unfold Yo at h;rw[Bool.or_eq_true]at h;rcases h with h |h
 ·unfold J7 at h;rw[YLJ,YLJ]at h;have h2:p.cps.size=2:=eq_of_beq h.1.1;rw[Ju]at hq;have hq:=of_decide_eq_true hq;have e:p.cps.toList=[39,sgn p]:=by
   have l2:p.cps.toList.length=2:=by rw[YLc];exact h2
   have e1:p.cps.toList[1]?=some (sgn p):=by
    have g1:p.cps.toList[1]?=some p.cps.toList[1]:=YLF (by omega);have:=ZT (j:=1) g1;have h1':atI p.cps.toList ((1:Nat):Int)=some (sgn p):=h1;rw[h1']at this;rw[g1,←this]
   match hp:p.cps.toList,l2 with
   |[a,b],_=>
    rw[hp]at hq e1;cases hq;cases e1;rfl
  have e3:(XZ (sgn p)).cps.toList=[39,sgn p]:=by
   unfold XZ;rw[YAh]
  cases p with
  |mk cps=>
   generalize XZ _=q at e3 ⊢;cases q with
   |mk cq=>
    congr 1;apply Array.toList_inj.mp;rw[e3];exact e
 ·rw[Ju]at hq;have hq:=of_decide_eq_true hq;unfold isNameS at h;rw[YLJ]at h;exact absurd (List.all_eq_true.mp h.2 39 (YLH hq)) (by decide)
section
variable {g:YT}{cs:List Nat}{hs:Hs} (hg:Yv g=true) (st:ZE g cs hs) (hb:Ji g cs hs)
include hg st hb
theorem YFa {kk d b e a:Nat}{p:Str} (hp:ZD g kk d=some p) (hpp:Yo p=true) (hq:isQ p=true) (hc:cs[e]?=some (sgn p)) (hl:YL hs (.beg kk d b e)=some a):∃v,YL hs (.beg kk (d + 1) b (e + 1))=some v∧v≤a:=by
 have h0:=hb.sg e _ hc;rw[←YFZ hpp hq]at h0;obtain⟨v,h1,h2⟩:=st.cl.join kk d b e p (e + 1) a 0 ⟨_,hl⟩ ⟨_,h0⟩ hp hl h0;exact⟨v,h1,by omega⟩
theorem YGq {ps:List Str}{ks sg:List Nat}{h:Nat} (f:For g ps ks sg h):∀{kk d b e a:Nat}{r:ZW},g[kk]?=some r→r.2.1.drop d=ps→d≤r.2.1.length→J4 cs e sg→YL hs (.beg kk d b e)=some a→∃v,YL hs (.beg kk r.2.1.length b (e + sg.length))=some v∧v≤max a h:=by
 induction f with
 |nil=>
  intro kk d b e a r hk hd hdl hpre hl;have:d=r.2.1.length:=by
   have:=List.drop_eq_nil_iff.mp hd;omega
  subst this;exact⟨a,hl,by omega⟩
 |sign hq _ ih=>
  rename_i p ps ks sg h f
  intro kk d b e a r hk hd hdl hpre hl;have mW:d < r.2.1.length:=by
   have:=congrArg List.length hd;rw[YLd,YLM]at this;omega
  have hp:r.2.1[d]?=some p:=by
   have:r.2.1[d]?=(r.2.1.drop d)[0]?:=by rw[List.getElem?_drop];rfl
   rw[this,hd];rfl
  obtain⟨hc,jf⟩:=hpre.head;obtain⟨v,h1,h2⟩:=YFa hg st hb (by unfold ZD;rw[hk];exact hp) ((Y1 (ZC hg hk)).2 p (YLH hp)) hq hc hl;obtain⟨v2,h3,h4⟩:=ih hk (X8 hd) mW jf h1;refine⟨v2,?_,by omega⟩;rw[YLM,show e + (sg.length + 1)=e + 1 + sg.length by omega];exact h3
 |name e0 hq hk0 _ _ ih1 ih2=>
  rename_i r0 p ps k0 k1 k2 s1 s2 h1 h2 f1 f2
  intro kk d b e a r hk hd hdl hpre hl;have mW:d < r.2.1.length:=by
   have:=congrArg List.length hd;rw[YLd,YLM]at this;omega
  have hp:r.2.1[d]?=some p:=by
   have:r.2.1[d]?=(r.2.1.drop d)[0]?:=by rw[List.getElem?_drop];rfl
   rw[this,hd];rfl
  obtain⟨nq,jf⟩:=hpre.app;obtain⟨v,c1,c2⟩:=ih1 hk0 (d:=0) rfl (YLN _) nq (hb.bg k0 e (List.getElem?_eq_some_iff.mp hk0).1 nq.1);obtain⟨v1,c3,c4⟩:=st.cl.up k0 r0 e (e + s1.length) v hk0 ⟨_,c1⟩ c1;rw[e0]at c3;obtain⟨v2,c5,c6⟩:=st.cl.join kk d b e p (e + s1.length) a v1 ⟨_,hl⟩ ⟨_,c3⟩ (by unfold ZD;rw[hk];exact hp) hl c3;obtain⟨v3,c7,c8⟩:=ih2 hk (X8 hd) mW jf c5;refine⟨v3,?_,by omega⟩;rw[YLE,←Nat.add_assoc];exact c7
theorem YFb {k0 e:Nat}{r0:ZW}{k1 s1:List Nat}{h1:Nat} (hk0:g[k0]?=some r0) (f:For g r0.2.1 k1 s1 h1) (hpre:J4 cs e s1):∃v,YL hs (.part r0.1 e (e + s1.length))=some v∧v≤h1 + 1:=by
 obtain⟨v,c1,c2⟩:=YGq hg st hb f hk0 (d:=0) rfl (YLN _) hpre (hb.bg k0 e (List.getElem?_eq_some_iff.mp hk0).1 hpre.1);obtain⟨v1,c3,c4⟩:=st.cl.up k0 r0 e (e + s1.length) v hk0 ⟨_,c1⟩ c1;exact⟨v1,c3,by omega⟩
end
inductive Chain (g:YT) (ks cs:List Nat) (D:Nat→Option Nat):Nat→Prop
 |done {k:Nat}:k=ks.length→Chain g ks cs D k
 |node {k kk b:Nat}{r:ZW}{k1 rest s1:List Nat}{h1:Nat}:D k=some b→ks.drop k=kk :: (k1 ++ rest)→g[kk]?=some r→isQ r.1=false→For g r.2.1 k1 s1 h1→J4 cs b s1→Chain g ks cs D (k + 1 + k1.length)→Chain g ks cs D k
def DOk (kvs:List (Key×V)) (D:Nat→Option Nat):Prop:=∀j:Nat,Yw kvs (.inl (j:Int))=(D j).map nV
def YGr (D:Nat→Option Nat) (k b:Nat):Nat→Option Nat:=fun j=>if j=k then some b else D j
theorem DOk.put {kvs:List (Key×V)}{D:Nat→Option Nat} (h:DOk kvs D) (k b:Nat):DOk (Y4 kvs (.inl (k:Int)) (nV b)) (YGr D k b):=by
 intro j;rw[Z6];unfold YGr
 by_cases e:j=k
 ·rw[if_pos e,if_pos (by rw[e])];rfl
 ·rw[if_neg e,if_neg (fun z=>e (by cases z;rfl)),h]
theorem putK_le (kvs:List (Key×V)) (k:Key) (v:V):(Y4 kvs k v).length≤kvs.length + 1:=by
 unfold Y4;split
 ·rw[YLD];omega
 ·rw[YLE];exact YLG _
theorem YGs:∀ks ls:List Key,J0 (ks.map kD) (ls.map kD)=decide (ks=ls)
 |[],[]=>by unfold J0;rfl
 |[],_ :: _=>by rw[YLS];unfold J0;exact(decide_eq_false nofun).symm
 |_ :: _,[]=>by rw[YLS];unfold J0;exact(decide_eq_false nofun).symm
 |k :: ks,l :: ls=>by
  rw[YLS,YLS];unfold J0;rw[YGs ks ls];have e:eqD (kD k) (kD l)=decide (k=l):=by
   rw[YLe,decide_eq_true_eq];cases k with
   |inl i=>cases l with
    |inl j=>unfold kD eqD;rw[beq_iff_eq];exact⟨fun h=>by rw[h],fun h=>by cases h;rfl⟩
    |inr j=>unfold kD eqD;exact⟨nofun,nofun⟩
   |inr i=>cases l with
    |inl j=>unfold kD eqD;exact⟨nofun,nofun⟩
    |inr j=>unfold kD eqD;rw[beq_iff_eq];exact⟨fun h=>by rw[h],fun h=>by cases h;rfl⟩
  rw[e,YLe,YLJ,decide_eq_true_eq,decide_eq_true_eq,decide_eq_true_eq,List.cons.injEq]
theorem YK5 (x y:Nd):eqD (ndD x) (ndD y)=decide (x=y):=by
 unfold ndD;rw[YFE,YGs,YLe,decide_eq_true_eq,decide_eq_true_eq];exact⟨JF,fun e=>by rw[e]⟩
theorem YIm:∀ks ls:List Nd,J0 (ks.map ndD) (ls.map ndD)=decide (ks=ls)
 |[],[]=>by unfold J0;rfl
 |[],_ :: _=>by rw[YLS];unfold J0;exact(decide_eq_false nofun).symm
 |_ :: _,[]=>by rw[YLS];unfold J0;exact(decide_eq_false nofun).symm
 |k :: ks,l :: ls=>by
  rw[YLS,YLS];unfold J0;rw[YIm ks ls,YK5,YLe,YLJ,decide_eq_true_eq,decide_eq_true_eq,decide_eq_true_eq,List.cons.injEq]
def YCX (w:List Nd):D:=.tup (w.map ndD)
theorem YHp (w:List Nd):(YCX w).ok=true∧(YCX w).dep≤8:=by
 obtain⟨h1,h2⟩:=YDs (f:=ndD) (m:=1) (l:=w) fun x _=>⟨(YB3 x).1,Nat.le_of_eq (YB3 x).2⟩
 exact⟨by unfold YCX D.ok;exact h1,by unfold YCX D.dep;omega⟩
theorem YGt {ws:List (List Nd)}{w:List Nd} (h:w∈ws):((ws.map YCX).any fun y=>eqD y (YCX w))=true:=by
 rw[List.any_eq_true];refine⟨YCX w,List.mem_map.mpr ⟨w,h,rfl⟩,?_⟩;unfold YCX;rw[YFE,YIm,decide_eq_true rfl]
theorem YK6 (ws:List (List Nd)):∀d∈ws.map YCX,d.ok=true∧d.dep≤8:=fun d hd=>by
 obtain⟨w,_,rfl⟩:=List.mem_map.mp hd;exact YHp w
theorem YB5 {hs:Hs}{x:Nd}{v:Nat} (h:YL hs x=some v):inB (hs.map (·.1)) x=true:=by
 unfold YL at h;obtain⟨q,hq,_⟩:=Option.map_eq_some_iff.mp h;have h1:=List.find?_some hq;have h2:=List.mem_of_find?_eq_some hq;exact decide_eq_true (List.mem_map.mpr ⟨q,h2,of_decide_eq_true h1⟩)
section
variable {g:YT}{cs:List Nat}{hs:Hs}{top:Option Nd}{nds:List Nd} (hg:Yv g=true) (st:ZE g cs hs) (hb:Ji g cs hs) (wk:JN g cs.length (inB (hs.map (·.1))) top nds)
include wk
theorem YFc {kk b e v:Nat}{r:ZW} (hk:g[kk]?=some r) (hq:isQ r.1=false) (hv:YL hs (.beg kk r.2.1.length b e)=some v) (hx:Nd.part r.1 b e∈nds):[Nd.beg kk r.2.1.length b e]∈Yi g cs.length (inB nds) (.part r.1 b e)∧Nd.beg kk r.2.1.length b e∈nds:=by
 have hl:YBB g kk=r.2.1.length:=by unfold YBB;rw[hk];rfl
 have hw:[Nd.beg kk r.2.1.length b e]∈Yi g cs.length (inB (hs.map (·.1))) (.part r.1 b e):=by
  rw[Yi,if_neg (by rw[hq];decide)];refine List.mem_map.mpr ⟨kk,List.mem_filter.mpr ⟨?_,by rw[hl];exact YB5 hv⟩,by rw[hl]⟩;unfold Zz;exact List.mem_filter.mpr ⟨List.mem_range.mpr (List.getElem?_eq_some_iff.mp hk).1,decide_eq_true (by rw[hk];rfl)⟩
 exact⟨by rw[YEq wk hx];exact hw,wk.cl _ hx _ hw _ YLP⟩
theorem YBf {kk d b e e' a v:Nat}{p:Str} (hp:ZD g kk d=some p) (he:e≤cs.length) (h1:YL hs (.beg kk d b e)=some a) (h2:YL hs (.part p e e')=some v) (hx:Nd.beg kk (d + 1) b e'∈nds):[Nd.beg kk d b e,.part p e e']∈Yi g cs.length (inB nds) (.beg kk (d + 1) b e')∧Nd.beg kk d b e∈nds∧Nd.part p e e'∈nds:=by
 have hpd:Jw g kk d=p:=by unfold Jw;rw[hp];rfl
 have hw:[Nd.beg kk d b e,.part p e e']∈Yi g cs.length (inB (hs.map (·.1))) (.beg kk (d + 1) b e'):=by
  rw[Yi];refine List.mem_map.mpr ⟨e,List.mem_filter.mpr ⟨?_,by rw[hpd];exact YB5 h2⟩,by rw[hpd]⟩;unfold J2;exact List.mem_filter.mpr ⟨List.mem_range.mpr (by omega),YB5 h1⟩
 exact⟨by rw[YEq wk hx];exact hw,wk.cl _ hx _ hw _ YLP,wk.cl _ hx _ hw _ (YLR _ YLP)⟩
include hg st hb
theorem YB6 {ps:List Str}{ks sg:List Nat}{h:Nat} (f:For g ps ks sg h):∀{kk d b e a:Nat}{r:ZW},g[kk]?=some r→r.2.1.drop d=ps→d≤r.2.1.length→J4 cs e sg→YL hs (.beg kk d b e)=some a→Nd.beg kk r.2.1.length b (e + sg.length)∈nds→Nd.beg kk d b e∈nds:=by
 induction f with
 |nil=>
  intro kk d b e a r hk hd hdl hpre hl hx;have:d=r.2.1.length:=by
   have:=List.drop_eq_nil_iff.mp hd;omega
  subst this;exact hx
 |sign hq _ ih=>
  rename_i p ps ks sg h f
  intro kk d b e a r hk hd hdl hpre hl hx;have mW:d < r.2.1.length:=by
   have:=congrArg List.length hd;rw[YLd,YLM]at this;omega
  have hp:r.2.1[d]?=some p:=by
   have:r.2.1[d]?=(r.2.1.drop d)[0]?:=by rw[List.getElem?_drop];rfl
   rw[this,hd];rfl
  have hpa:ZD g kk d=some p:=by unfold ZD;rw[hk];exact hp
  have hpp:=(Y1 (ZC hg hk)).2 p (YLH hp);obtain⟨hc,jf⟩:=hpre.head;obtain⟨v,h1,h2⟩:=YFa hg st hb hpa hpp hq hc hl;have h0:=hb.sg e _ hc;rw[←YFZ hpp hq]at h0;rw[YLM,show e + (sg.length + 1)=e + 1 + sg.length by omega]at hx;exact(YBf wk hpa hpre.1 hl h0 (ih hk (X8 hd) mW jf h1 hx)).2.1
 |name e0 hq hk0 f1 f2 ih1 ih2=>
  rename_i r0 p ps k0 k1 k2 s1 s2 h1 h2
  intro kk d b e a r hk hd hdl hpre hl hx;have mW:d < r.2.1.length:=by
   have:=congrArg List.length hd;rw[YLd,YLM]at this;omega
  have hp:r.2.1[d]?=some p:=by
   have:r.2.1[d]?=(r.2.1.drop d)[0]?:=by rw[List.getElem?_drop];rfl
   rw[this,hd];rfl
  have hpa:ZD g kk d=some p:=by unfold ZD;rw[hk];exact hp
  obtain⟨nq,jf⟩:=hpre.app;obtain⟨v1,c3,_⟩:=YFb hg st hb hk0 f1 nq;rw[e0]at c3;obtain⟨v2,c5,c6⟩:=st.cl.join kk d b e p (e + s1.length) a v1 ⟨_,hl⟩ ⟨_,c3⟩ hpa hl c3;rw[YLE,←Nat.add_assoc]at hx;exact(YBf wk hpa hpre.1 hl c3 (ih2 hk (X8 hd) mW jf c5 hx)).2.1
end
inductive ChW (g:YT) (ks cs:List Nat) (nds:List Nd) (D:Nat→Option Nat):Nat→Prop
 |done {k:Nat}:k=ks.length→ChW g ks cs nds D k
 |node {k kk b:Nat}{r:ZW}{k1 rest s1:List Nat}{h1:Nat}:D k=some b→ks.drop k=kk :: (k1 ++ rest)→g[kk]?=some r→isQ r.1=false→For g r.2.1 k1 s1 h1→J4 cs b s1→Nd.part r.1 b (b + s1.length)∈nds→ChW g ks cs nds D (k + 1 + k1.length)→ChW g ks cs nds D k
theorem ChW.congr {g:YT}{ks cs:List Nat}{nds:List Nd}{D D':Nat→Option Nat}{k:Nat} (h:ChW g ks cs nds D k):(∀j,k≤j→D' j=D j)→ChW g ks cs nds D' k:=by
 induction h with
 |done e=>exact fun _=>.done e
 |node a1 a2 a3 a4 a5 a6 a7 _ ih=>exact fun hD=>.node (by rw[hD _ (YLG _)];exact a1) a2 a3 a4 a5 a6 a7 (ih fun j hj=>hD j (by omega))
structure SP (H H':Hp):Prop where
 s:YI H H'
 n:Ys H H'
instance coeSP {H H':Hp}:Coe (SP H H') (YI H H'):=⟨SP.s⟩
instance funSP {H H':Hp}:CoeFun (SP H H') (fun _=>∀b o,H b=some o→H' b=some o):=⟨SP.s⟩
theorem SP.refl (H:Hp):SP H H:=⟨YI.refl H,Ys.refl H⟩
theorem SP.trans {H H1 H2:Hp} (a:SP H H1) (b:SP H1 H2):SP H H2:=⟨a.s.trans b.s,a.n.trans b.n⟩
theorem SP.upd {H:Hp}{p:Addr}{o:HO} (h:H p=none) (hp:ZB o=true:=by rfl):SP H (L2.upd H p o):=⟨YI.upd h,Ys.upd hp⟩
theorem SP.put {H H':Hp}{p:Addr}{o:HO} (a:SP H H') (h:H p=none) (hp:ZB o=true:=by rfl):SP H (L2.upd H' p o):=⟨a.s.put h,a.n.trans (Ys.upd hp)⟩
theorem SP.free {H H':Hp} (a:SP H H') {l:Addr} (h:H' l=none):H l=none:=a.s.free h
theorem SP.seq {K:W.Frag}{H H':Hp}{a:Addr}{xs:List V} (e:SP H H') (h:SqL K H a xs):SqL K H' a xs:=e.s.seq h
theorem SP.plain {H H':Hp} (e:SP H H') (h:YU H):YU H':=YU.new h e.n
theorem For.app_ {g:YT}{x y:List Str}{k1 k2 s1 s2:List Nat}{h1 h2:Nat} (f:For g x k1 s1 h1) (f2:For g y k2 s2 h2):∃h,For g (x ++ y) (k1 ++ k2) (s1 ++ s2) h:=by
 induction f with
 |nil=>exact⟨_,f2⟩
 |sign hq _ ih=>
  obtain⟨h,i⟩:=ih;exact⟨_,.sign hq i⟩
 |name e hq hk a _ _ ih=>
  obtain⟨h,i⟩:=ih;have:=For.name e hq hk a i;rw[←YLQ,←YLQ]at this;exact⟨_,this⟩
theorem For.row_ {g:YT}{ps:List Str}{ks sg:List Nat}{h:Nat} (f:For g ps ks sg h):∀{qs:List Str}{k2 s2:List Nat},JM g qs k2 s2→JM g (ps ++ qs) (ks ++ k2) (sg ++ s2):=by
 induction f with
 |nil=>exact fun h=>h
 |sign hq _ ih=>exact fun h=>.sign hq (ih h)
 |@name r p ps k ka kb sa sb ha hb e hq hk _ _ ih1 ih2=>
  intro qs k2 s2 h;have:=JM.name (by rw[e];exact hq) hk (ih1 (ih2 h));rw[e]at this;rw[YLQ,List.cons_append,List.cons_append,YLQ];exact this
def YDx (cs:List Nat) (i j:Nat):List Nat:=(cs.drop i).take (j - i)
theorem seg_app {cs:List Nat}{i e j:Nat} (h1:i≤e) (h2:e≤j):YDx cs i e ++ YDx cs e j=YDx cs i j:=by
 unfold YDx;have h3:j - i=(e - i) + (j - e):=by omega
 rw[h3,List.take_add,List.drop_drop,show i + (e - i)=e by omega]
inductive SemN (g:YT) (cs:List Nat):Nd→List Nat→Prop
 |part {p:Str}{i j:Nat}{ks:List Nat}{h:Nat}:For g [p] ks (YDx cs i j) h→SemN g cs (.part p i j) ks
 |beg {k d i j:Nat}{r:ZW}{ks:List Nat}{h:Nat}:g[k]?=some r→For g (r.2.1.take d) ks (YDx cs i j) h→SemN g cs (.beg k d i j) (k :: ks)
inductive YEM (g:YT) (cs:List Nat):List Nd→List Nat→Prop
 |nil:YEM g cs [] []
 |cons {x:Nd}{xs:List Nd}{k1 k2:List Nat}:SemN g cs x k1→YEM g cs xs k2→YEM g cs (x :: xs) (k1 ++ k2)
def ownN:Nd→List Nat
 |.part _ _ _=>[]
 |.beg k 0 _ _=>[k]
 |.beg _ (_ + 1) _ _=>[]
inductive WyN (g:YT) (cs:List Nat) (hs:Hs) (nds:List Nd):Nd→List Nd→Prop
 |sign {p:Str}{i c:Nat}:isQ p=true→cs[i]?=some c→p=XZ c→WyN g cs hs nds (.part p i (i + 1)) []
 |name {i j k:Nat}{r:ZW}:isQ r.1=false→g[k]?=some r→i≤j→Nd.beg k r.2.1.length i j∈nds→WyN g cs hs nds (.part r.1 i j) [.beg k r.2.1.length i j]
 |none {k i:Nat}{r:ZW}:g[k]?=some r→WyN g cs hs nds (.beg k 0 i i) []
 |join {k d i e j:Nat}{r:ZW}{p:Str}:g[k]?=some r→r.2.1[d]?=some p→i≤e→e≤j→Nd.beg k d i e∈nds→Nd.part p e j∈nds→WyN g cs hs nds (.beg k (d + 1) i j) [.beg k d i e,.part p e j]
theorem YDy (c:Nat):isQ (XZ c)=true:=YGi c
theorem YK7 (c:Nat):sgn (XZ c)=c:=by
 unfold sgn XZ;rw[YAh];rfl
section
variable {g:YT}{cs:List Nat}{hs:Hs}{top:Option Nd}{nds:List Nd} (hg:Yv g=true) (st:ZE g cs hs) (wk:JN g cs.length (inB (hs.map (·.1))) top nds)
include wk
theorem Xm {x:Nd} (hx:x∈nds):∃v,YL hs x=some v:=Jv (of_decide_eq_true (wk.sub x hx))
include hg st
theorem YHq {x:Nd}{w:List Nd} (hx:x∈nds) (hw:w∈Yi g cs.length (inB nds) x):WyN g cs hs nds x w:=by
 obtain⟨v,hv⟩:=Xm wk hx;have hlg:=st.leg x v hv;have hwy:=st.why x v hv;cases x with
 |part p i j=>
  rw[Yi]at hw;split at hw
  ·rename_i hq
   cases List.mem_singleton.mp hw;rcases hwy with ⟨_,c,e1,e2,e3⟩ |⟨r,ru,m,e1,e2,_⟩
   ·subst e3;exact .sign hq e1 e2
   ·have:=X3 (Jg (ZC hg e1));rw[e2,hq]at this;cases this
  ·rename_i hq
   obtain⟨k,hk,rfl⟩:=List.mem_map.mp hw;obtain⟨h1,h2⟩:=List.mem_filter.mp hk;unfold Zz at h1;obtain⟨h3,h4⟩:=List.mem_filter.mp h1;have hkl:=List.mem_range.mp h3;have e:=YLF hkl;have h4:=of_decide_eq_true h4;rw[e]at h4;have e4:g[k].1=p:=Option.some.inj h4;have hl:YBB g k=g[k].2.1.length:=by unfold YBB;rw[e];rfl
   rw[hl]at h2 ⊢;subst e4;exact .name (Bool.eq_false_iff.mpr hq) e hlg.2.1 (of_decide_eq_true h2)
 |beg k d i j=>
  cases d with
  |zero=>
   rw[Yi]at hw;cases List.mem_singleton.mp hw;obtain⟨⟨r,er,_⟩,_⟩:=hlg;rcases hwy with ⟨_,e,_⟩ |⟨d',_,_,_,_,e,_⟩
   ·subst e;exact .none er
   ·cases e
  |succ d=>
   rw[Yi]at hw;obtain⟨e,he,rfl⟩:=List.mem_map.mp hw;obtain⟨h1,h2⟩:=List.mem_filter.mp he;unfold J2 at h1;have h3:=of_decide_eq_true (List.mem_filter.mp h1).2;have h2:=of_decide_eq_true h2;obtain⟨⟨r,er,hd⟩,_,_⟩:=hlg;have ep:r.2.1[d]?=some r.2.1[d]:=YLF (by omega);have epd:Jw g k d=r.2.1[d]:=by unfold Jw ZD;rw[er];show(r.2.1[d]?).getD ""=_;rw[ep];rfl
   rw[epd]at h2 ⊢;obtain⟨_,h5⟩:=Xm wk h3;obtain⟨_,h6⟩:=Xm wk h2;exact .join er ep (st.leg _ _ h5).2.1 (st.leg _ _ h6).2.1 h3 h2
omit st wk in
theorem YJd {x:Nd}{w xs:List Nd}{ks:List Nat} (hw:WyN g cs hs nds x w) (h:YEM g cs (w ++ xs) ks):YEM g cs (x :: xs) (ownN x ++ ks):=by
 cases hw with
 |@sign p i c hq hc e=>
  subst e;refine .cons (.part (h:=0) ?_) h;have hs1:YDx cs i (i + 1)=[c]:=by
   unfold YDx;rw[show i + 1 - i=1 by omega,List.drop_eq_getElem_cons (List.getElem?_eq_some_iff.mp hc).1];rw[YLF (List.getElem?_eq_some_iff.mp hc).1]at hc;rw[Option.some.inj hc];rfl
  rw[hs1];have:=For.sign (g:=g) hq .nil;rw[YK7]at this;exact this
 |@name i j k r hq hk hij _=>
  cases h with
  |cons h1 h2=>
   cases h1 with
   |beg er f=>
    rw[hk]at er;cases er;rw[List.take_length]at f;have:=For.name (g:=g) rfl hq hk f .nil;rw[YLW,YLW]at this;have z:=YEM.cons (SemN.part this) h2;exact z
 |@none k i r er=>
  have:SemN g cs (.beg k 0 i i) [k]:=.beg er (h:=0) (by
   rw[List.take_zero];unfold YDx;rw[Nat.sub_self,List.take_zero];exact .nil)
  exact .cons this h
 |@join k d i e j r p hk ep h1 h2 _ _=>
  cases h with
  |cons b1 b2=>
   cases b2 with
   |cons c1 c2=>
    cases b1 with
    |beg er f=>
     cases c1 with
     |part f2=>
      rw[hk]at er;cases er;obtain⟨h,f3⟩:=f.app_ f2;rw[seg_app h1 h2]at f3;have et:r.2.1.take (d + 1)=r.2.1.take d ++ [p]:=by rw[YLf,ep];rfl
      rw[←et]at f3;have:=YEM.cons (SemN.beg hk f3) c2;rw[List.cons_append,YLQ]at this;exact this
end
theorem YK8 {g:YT}{cs ks:List Nat}{p:Str} (h:YEM g cs [.part p 0 cs.length] ks):JM g [p] ks cs:=by
 cases h with
 |cons a b=>
  cases b;cases a with
  |part f=>
   have e:YDx cs 0 cs.length=cs:=by unfold YDx;rw[Nat.sub_zero,List.drop_zero,List.take_length]
   rw[e]at f;have:=f.row_ (.nil);rw[YLW,YLW,YLW]at this;rw[YLW];exact this
def hN (hs:Hs) (x:Nd):Nat:=(YL hs x).getD 0
def mxN (hs:Hs):List Nd→Nat
 |[]=>0
 |x :: xs=>max (hN hs x) (mxN hs xs)
theorem YDz {hs:Hs}{y:Nd}:∀{w:List Nd},y∈w→hN hs y≤mxN hs w
 |[],h=>nomatch h
 |x :: w,h=>by
  unfold mxN;rcases List.mem_cons.mp h with e |h
  ·rw[e];omega
  ·have:=YDz (hs:=hs) h;omega
theorem mx_le {hs:Hs}{m:Nat}:∀{w:List Nd},(∀y∈w,hN hs y≤m)→mxN hs w≤m
 |[],_=>YLN _
 |x :: w,h=>by
  unfold mxN;have:=mx_le fun y hy=>h y (YLR _ hy)
  have:=h x YLP;omega
def rkN (nm:List Str) (hs:Hs) (i j v:Nat):Nat:=nm.countP fun A=>match YL hs (.part A i j) with
 |some u=>decide (u < v)
 |none=>false
theorem YK9 {α:Type}{p q:α→Bool}{a:α} (h:∀x,p x=true→q x=true) (hp:p a=false) (hq:q a=true):∀{l:List α},a∈l→l.countP p < l.countP q
 |[],hm=>nomatch hm
 |x :: l,hm=>by
  have hle:l.countP p≤l.countP q:=List.countP_mono_left fun x _=>h x
  rw[List.countP_cons,List.countP_cons];rcases List.mem_cons.mp hm with e |hm
  ·subst e;rw[if_neg (by rw[hp];decide),if_pos hq];omega
  ·have:=YK9 h hp hq hm
   by_cases hx:p x=true
   ·rw[if_pos hx,if_pos (h x hx)];omega
   ·rw[if_neg hx];omega
theorem YLA {hs:Hs}{i j v v':Nat} (h:v≤v') (A:Str):(match YL hs (.part A i j) with |some u=>decide (u < v) |none=>false)=true→(match YL hs (.part A i j) with |some u=>decide (u < v') |none=>false)=true:=by
 cases YL hs (.part A i j) with
 |none=>exact fun z=>z
 |some u=>exact fun z=>decide_eq_true (YLX (of_decide_eq_true z) h)
theorem YIn {nm:List Str}{hs:Hs}{i j v v':Nat} (h:v≤v'):rkN nm hs i j v≤rkN nm hs i j v':=List.countP_mono_left fun A _=>YLA h A
theorem rk_lt {nm:List Str}{hs:Hs}{i j v v' u:Nat}{A:Str} (hA:A∈nm) (e:YL hs (.part A i j)=some u) (h1:v≤u) (h2:u < v'):rkN nm hs i j v < rkN nm hs i j v':=
 YK9 (fun B=>YLA (by omega) B) (by rw[e];exact decide_eq_false (by omega)) (by rw[e];exact decide_eq_true h2) hA
theorem YIo {nm:List Str}{hs:Hs}{i j v:Nat}:rkN nm hs i j v≤nm.length:=List.countP_le_length
theorem rk_own {nm:List Str}{hs:Hs}{i j v:Nat}{A:Str} (hA:A∈nm) (e:YL hs (.part A i j)=some v):rkN nm hs i j v < nm.length:=
 YLX (rk_lt hA e (YLG _) (Nat.lt_succ_self _)) (YIo (v:=v + 1))
def tW:Nat→Nat
 |0=>0
 |c + 1=>3 + 6 * tW c
theorem YAv:∀{a b:Nat},a≤b→tW a≤tW b
 |0,_,_=>YLN _
 |a + 1,0,h=>nomatch h
 |a + 1,b + 1,h=>by
  have:=YAv (a:=a) (b:=b) (by omega);unfold tW;omega
def YAU (m c:Nat):Nat:=if m=0 then 2 + 6 * tW c else 4663 + (9400 * c + 76000 * (m - 1) + 5000)
def YBE (d m c:Nat):Nat:=if m=0 then 1 + d * tW c else 777 * d + (9400 * c + 76000 * (m - 1) + 5000)
theorem w_name {d m c c':Nat} (hd:d≤6) (h:c'≤c):1 + YBE d m c'≤YAU m c:=by
 have h1:=Nat.mul_le_mul hd (YAv h);unfold YBE YAU;split <;> omega
theorem w_name2 {d m c c':Nat} (hd:d≤6) (h:c'≤4):1 + YBE d m c'≤YAU m c + 40000:=by
 have h1:=Nat.mul_le_mul hd (YAv h);have h2:tW 4=777:=rfl;unfold YBE YAU;split <;> omega
theorem w_join {d m1 m2 c c1 c2:Nat} (hd:d + 1≤6) (h:c1≤4) (h2:c2≤3) (ha:m2=0→c1≤c) (hb:m1=0→c2 + 1≤c):1 + (YBE d m1 c1 + YAU m2 c2)≤YBE (d + 1) (m1 + m2) c:=by
 have t4:tW 4=777:=rfl;have t3:tW 3=129:=rfl;have k1:=YAv h;have k2:=YAv h2;have k3:d * tW c1≤5 * 777:=Nat.mul_le_mul (by omega) (by omega);unfold YBE YAU
 by_cases e1:m1=0
 ·have k4:=YAv (hb e1);have k5:tW (c2 + 1)=3 + 6 * tW c2:=rfl
  by_cases e2:m2=0
  ·have k6:=Nat.mul_le_mul (YLG d) (YAv (ha e2));rw[if_pos e1,if_pos e2,if_pos (by omega),Nat.add_mul d 1];omega
  ·have:=hb e1;rw[if_pos e1,if_neg e2,if_neg (by omega)];omega
 ·by_cases e2:m2=0
  ·have:=ha e2;rw[if_neg e1,if_pos e2,if_neg (by omega)];omega
  ·rw[if_neg e1,if_neg e2,if_neg (by omega)];omega
theorem w_join2 {d m1 m2 c c1 c2:Nat} (hd:d + 1≤6) (h:c1≤4) (h2:c2≤3):1 + (YBE d m1 c1 + YAU m2 c2)≤YBE (d + 1) (m1 + m2) c + 40000:=by
 have t4:tW 4=777:=rfl;have t3:tW 3=129:=rfl;have k1:=YAv h;have k2:=YAv h2;have k3:d * tW c1≤5 * 777:=Nat.mul_le_mul (by omega) (by omega);unfold YBE YAU
 by_cases e1:m1=0
 ·by_cases e2:m2=0
  ·rw[if_pos e1,if_pos e2,if_pos (by omega)];omega
  ·rw[if_pos e1,if_neg e2,if_neg (by omega)];omega
 ·by_cases e2:m2=0
  ·rw[if_neg e1,if_pos e2,if_neg (by omega)];omega
  ·rw[if_neg e1,if_neg e2,if_neg (by omega)];omega
theorem w_sign {d m1 c c1:Nat} (hd:d + 1≤6) (h:c1≤4) (ha:m1=0∨c1≤4):1 + (YBE d m1 c1 + 1)≤YBE (d + 1) (m1 + 1) c:=by
 have t4:tW 4=777:=rfl;have k1:=YAv h;have k3:d * tW c1≤5 * 777:=Nat.mul_le_mul (by omega) (by omega);unfold YBE
 by_cases e1:m1=0
 ·rw[if_pos e1,if_neg (by omega)];omega
 ·rw[if_neg e1,if_neg (by omega)];omega
def muN (nm:List Str) (hs:Hs):Nd→Nat
 |.part p i j=>if isQ p=true then 1 else YAU (j - i) (rkN nm hs i j (hN hs (.part p i j)))
 |.beg r d i j=>YBE d (j - i) (rkN nm hs i j (hN hs (.beg r d i j) + 1))
theorem YA7 (nm:List Str) (hs:Hs) (p:Str) (i j:Nat):muN nm hs (.part p i j)=if isQ p=true then 1 else YAU (j - i) (rkN nm hs i j (hN hs (.part p i j))):=rfl
theorem YCY (nm:List Str) (hs:Hs) (r d i j:Nat):muN nm hs (.beg r d i j)=YBE d (j - i) (rkN nm hs i j (hN hs (.beg r d i j) + 1)):=rfl
def muS (nm:List Str) (hs:Hs) (w:List Nd):Nat:=(w.map (muN nm hs)).sum
theorem YHr (nm:List Str) (hs:Hs) (x:Nd):1≤muN nm hs x:=by
 cases x with
 |part p i j=>
  rw[YA7];split
  ·exact YLG _
  ·unfold YAU;split <;> omega
 |beg r d i j=>
  rw[YCY];unfold YBE;split <;> omega
theorem mu_top {nm:List Str}{hs:Hs}{p:Str}{n:Nat} (hn:n≤8) (h4:nm.length≤4):muN nm hs (.part p 0 n)≤580000:=by
 rw[YA7];split
 ·decide
 ·have:=YIo (nm:=nm) (hs:=hs) (i:=0) (j:=n) (v:=hN hs (.part p 0 n));have h1:rkN nm hs 0 n (hN hs (.part p 0 n))≤4:=by omega
  have h2:=YAv h1;have h3:tW 4=777:=rfl;unfold YAU;split <;> omega
theorem YFd (nm:List Str) (hs:Hs):∀w:List Nd,w.length≤muS nm hs w
 |[]=>YLN _
 |x :: w=>by
  have:=YFd nm hs w;have:=YHr nm hs x;unfold muS at *;rw[YLS,List.sum_cons,YLM];omega
theorem YDD (nm:List Str) (hs:Hs) (v w:List Nd):muS nm hs (v ++ w)=muS nm hs v + muS nm hs w:=by
 unfold muS;rw[YLK,List.sum_append]
section
variable {g:YT}{cs:List Nat}{hs:Hs}{top:Option Nd}{nds:List Nd}{nm:List Str} (hg:Yv g=true) (st:ZE g cs hs) (wk:JN g cs.length (inB (hs.map (·.1))) top nds) (hnm:∀r∈g,r.1∈nm) (h4:nm.length≤4)
include hg st wk hnm h4
omit hnm h4 in
theorem low_is {x:Nd}{w:List Nd} (hx:x∈nds) (hl:∀w'∈Yi g cs.length (inB nds) x,mxN hs w≤mxN hs w'):(∀p i j,x=.part p i j→isQ p=false→mxN hs w + 1≤hN hs x)∧(∀k d i j,x=.beg k d i j→mxN hs w≤hN hs x):=by
 obtain⟨v,hv⟩:=Xm wk hx;have hlg:=st.leg x v hv;have hwy:=st.why x v hv;have hh:hN hs x=v:=by unfold hN;rw[hv];rfl
 constructor
 ·rintro p i j rfl hq;rcases hwy with ⟨_,c,_,e2,_⟩ |⟨r,ru,m,e1,e2,e3,e4⟩
  ·rw[e2,YDy]at hq;cases hq
  ·subst e2;obtain⟨hw,_⟩:=YFc wk e1 hq e3 hx;have:=hl _ hw;have e5:hN hs (.beg r ru.2.1.length i j)=m:=by unfold hN;rw[e3];rfl
   have e6:mxN hs [.beg r ru.2.1.length i j]=m:=by unfold mxN mxN;rw[e5];omega
   omega
 ·rintro k d i j rfl;rcases hwy with ⟨rfl,_,_⟩ |⟨d',e,p,a,b,rfl,e2,e3,e4,e5⟩
  ·have:=hl [] (by rw[Yi];exact List.mem_singleton.mpr rfl);have e0:mxN hs []=0:=rfl;omega
  ·obtain⟨hw,_⟩:=YBf wk e2 (st.leg _ _ e3).2.2 e3 e4 hx;have:=hl _ hw;have e6:hN hs (.beg k d' i e)=a:=by unfold hN;rw[e3];rfl
   have e7:hN hs (.part p e j)=b:=by unfold hN;rw[e4];rfl
   have e8:mxN hs [.beg k d' i e,.part p e j]=max a b:=by unfold mxN mxN mxN;rw[e6,e7];omega
   omega
omit hnm h4 in
theorem YIp {x:Nd} (hx:x∈nds):Yi g cs.length (inB nds) x≠[]:=by
 obtain⟨v,hv⟩:=Xm wk hx;have hwy:=st.why x v hv;intro h0;cases x with
 |part p i j=>
  by_cases hq:isQ p=true
  ·rw[Yi,if_pos hq]at h0;cases h0
  ·rcases hwy with ⟨_,c,_,e2,_⟩ |⟨r,ru,m,e1,e2,e3,e4⟩
   ·rw[e2,YDy]at hq;exact hq rfl
   ·subst e2;obtain⟨hw,_⟩:=YFc wk e1 (Bool.eq_false_iff.mpr hq) e3 hx;rw[h0]at hw;cases hw
 |beg k d i j=>
  rcases hwy with ⟨rfl,_,_⟩ |⟨d',e,p,a,b,rfl,e2,e3,e4,e5⟩
  ·rw[Yi]at h0;cases h0
  ·obtain⟨hw,_⟩:=YBf wk e2 (st.leg _ _ e3).2.2 e3 e4 hx;rw[h0]at hw;cases hw
theorem YLB {x:Nd}{w:List Nd} (hx:x∈nds) (hw:w∈Yi g cs.length (inB nds) x):1 + muS nm hs w≤muN nm hs x + 40000∧((∀w'∈Yi g cs.length (inB nds) x,mxN hs w≤mxN hs w')→1 + muS nm hs w≤muN nm hs x):=by
 have hlow:=fun h=>low_is hg st wk hx (w:=w) h
 have hwy:=YHq hg st wk hx hw;obtain⟨vx,hvx⟩:=Xm wk hx;cases hwy with
 |@sign p i c hq hc e=>
  rw[YA7,if_pos hq];exact⟨by show 1 + 0≤_;omega,fun _=>by show 1 + 0≤_;omega⟩
 |@name i j k r hq hk hij hin=>
  have h6:=(Y1 (ZC hg hk)).1;have em:muS nm hs [.beg k r.2.1.length i j]=muN nm hs (.beg k r.2.1.length i j):=by unfold muS;rw[YLS,List.sum_cons];rfl
  rw[em];have hr:=YIo (nm:=nm) (hs:=hs) (i:=i) (j:=j) (v:=hN hs (.beg k r.2.1.length i j) + 1);rw[YA7,YCY,if_neg (by rw[hq];decide)];refine⟨w_name2 h6 (by omega),fun hl=>w_name h6 (YIn ?_)⟩;have:=(hlow hl).1 _ _ _ rfl hq;have h7:=YDz (hs:=hs) (y:=.beg k r.2.1.length i j) (w:=[.beg k r.2.1.length i j]) YLP;omega
 |@none k i r er=>
  have:=YHr nm hs (.beg k 0 i i);exact⟨by show 1 + 0≤_;omega,fun _=>by show 1 + 0≤_;omega⟩
 |@join k d i e j r p hk ep h1 h2 i1 i2=>
  have h6:=(Y1 (ZC hg hk)).1;have hd:=(List.getElem?_eq_some_iff.mp ep).1;have em:muS nm hs [.beg k d i e,.part p e j]=muN nm hs (.beg k d i e) + muN nm hs (.part p e j):=by unfold muS;rw[YLS,YLS,List.sum_cons,List.sum_cons];rfl
  rw[em];obtain⟨v2,hv2⟩:=Xm wk i2;have hh2:hN hs (.part p e j)=v2:=by unfold hN;rw[hv2];rfl
  have hw2:=st.why _ _ hv2;have c1:=YIo (nm:=nm) (hs:=hs) (i:=i) (j:=e) (v:=hN hs (.beg k d i e) + 1);have ej:j - i=(e - i) + (j - e):=by omega
  by_cases hq:isQ p=true
  ·have hje:j=e + 1:=by
    rcases hw2 with ⟨_,c,_,_,e3⟩ |⟨r2,ru,m,a1,a2,_⟩
    ·exact e3
    ·have:=X3 (Jg (ZC hg a1));rw[a2,hq]at this;cases this
   rw[YA7,YCY,YCY,if_pos hq,ej,show j - e=1 by omega];have:=w_sign (d:=d) (m1:=e - i) (c:=rkN nm hs i j (hN hs (.beg k (d + 1) i j) + 1)) (by omega) (show rkN nm hs i e (hN hs (.beg k d i e) + 1)≤4 by omega) (.inr (by omega));exact⟨by omega,fun _=>this⟩
  ·have hpn:p∈nm:=by
    rcases hw2 with ⟨_,c,_,b2,_⟩ |⟨r2,ru,m,a1,a2,_⟩
    ·rw[b2,YDy]at hq;exact absurd rfl hq
    ·rw[←a2];exact hnm ru (YLH a1)
   have c2:=rk_own (hs:=hs) (i:=e) (j:=j) hpn hv2;rw[←hh2]at c2;rw[YA7,YCY,YCY,if_neg hq,ej];refine⟨w_join2 (by omega) (by omega) (by omega),fun hl=>w_join (by omega) (by omega) (by omega) (fun e0=>?_) fun e0=>?_⟩
   ·have ee:e=j:=by omega
    subst ee;have:=(hlow hl).2 _ _ _ _ rfl;have h7:=YDz (hs:=hs) (y:=.beg k d i e) (w:=[.beg k d i e,.part p e e]) YLP;exact YIn (by omega)
   ·have ee:e=i:=by omega
    subst ee;have:=(hlow hl).2 _ _ _ _ rfl;have h7:=YDz (hs:=hs) (y:=.part p e j) (w:=[.beg k d e e,.part p e j]) (YLR _ YLP);exact rk_lt hpn hv2 (by omega) (by omega)
end
def t3V (x:T3):List V:=[nV x.1,nV x.2.2]
inductive XA (H:Hp):List Addr→List T3→Prop
 |nil:XA H [] []
 |cons {a:Addr}{x:T3}{as:List Addr}{xs:List T3}:H a=some (.tup (t3V x))→XA H as xs→XA H (a :: as) (x :: xs)
theorem XA.same {H H':Hp} (s:YI H H') {as:List Addr}{xs:List T3} (h:XA H as xs):XA H' as xs:=by
 induction h with
 |nil=>exact .nil
 |cons e _ ih=>exact .cons (s _ _ e) ih
theorem XA.put {H:Hp}{l:Addr}{ys:List V}{ob:HO} (hl:H l=some (.lst ys)) {as:List Addr}{xs:List T3} (h:XA H as xs):XA (upd H l ob) as xs:=by
 induction h with
 |nil=>exact .nil
 |cons e _ ih=>exact .cons (by rw[YE (fun z=>by rw[z,hl]at e;cases e)];exact e) ih
theorem XA.len {H:Hp}{as:List Addr}{xs:List T3} (h:XA H as xs):as.length=xs.length:=by
 induction h with
 |nil=>rfl
 |cons _ _ ih=>rw[YLM,YLM,ih]
theorem XA.at_ {H:Hp}{as:List Addr}{xs:List T3} (h:XA H as xs):∀{i:Nat}{x:T3},xs[i]?=some x→∃a,as[i]?=some a∧H a=some (.tup (t3V x)):=by
 induction h with
 |nil=>intro i x e;cases e
 |cons e _ ih=>
  intro i x e2;cases i with
  |zero=>cases e2;exact⟨_,rfl,e⟩
  |succ i=>exact ih e2
theorem YA8:∀{ps:List Str}{a:T3}{w:List T3}{e:T3}{w':List T3},J3 ps a w=some (e,w')→w'.length≤w.length
 |[],a,w,e,w',h=>by
  unfold J3 at h;cases h;exact YLG _
 |p :: ps,a,w,e,w',h=>by
  unfold J3 at h;split at h
  ·exact YA8 h
  ·cases w with
   |nil=>cases h
   |cons b w2=>exact Nat.le_succ_of_le (YA8 h)
theorem Xb.wlen {g:YT}{ks:List Nat}{w t:List T3} (h:Xb g ks w t):w.length≤ks.length:=by
 induction h with
 |nil=>exact YLG _
 |cons _ _ hs ih=>
  have:=YA8 hs;rw[YLM,YLM];omega
inductive YIq (vs:List V) (H:Hp) (Q:VK):Prop where
 |mk (l o:Addr) (xs:List V) (g:YT) (ks:List Nat) (w t:List T3) (h0_:vs=[.ref l,.ref o]) (h1_:H l=some (.lst xs)) (h2_:Yb H xs (g.map ZS)) (h3_:Yv g=true) (h4_:H o=some (.lst (ks.map nV))) (h5_:Xb g ks w t) (h6_:ks.length≤200) (h7_:∀a as H',SP H H'→H' a=some (.lst (as.map V.ref))→XA H' as t→Q (.ref a) H'):YIq vs H Q
def YLC:Sp:=fun vs H Q E_=>YIq vs H Q
section
variable {P:Program}{w:World}{K:W.Frag}{mg:Str→Option Value}{base:Heap}{C:Adr}
theorem ZF:YV ["_law_rules","_law_row_here","_law_tree_here","_law_waiting","_law_number","_law_size","_law_many","_law_part","_law_below"] ["_law_rules","_law_row_here"] (YJ YAu):=⟨rfl,rfl,rfl,by decide +kernel,rfl,by decide +kernel,by decide +kernel⟩
theorem YFe {f:Addr}{fd:FuncData} (F:Fun K "_law_tree" "_law_tree" YAu f fd) (T:Txt K mg C):Y6 P w K mg base CX0 1 f fd ["_law_rules","_law_row_here"] (YLC):=by
 refine F.ok ZF (fun vs H Q E h=>?_) (fun cdv A outer s H vs Q E hr h=>?_)
 ·obtain⟨l,o,xs,g,ks,w,t,rfl,_⟩:=h;rfl
 ·obtain⟨l,o,xs,g,ks,w,t,rfl,hl,hds,hg,ho,hrt,hkl,q⟩:=h;have hU:=hr.units;refine⟨_,(YF (YK (i:=2) ZF.nd rfl (Or.inl rfl) (Y0 YC))
   (YF (YK (i:=3) ZF.nd rfl (Or.inl rfl) (Y0 YC))
   (YF (ZQ PassesOwn.never rfl (pi_revL K rfl rfl T.cT (YA (pv 1) YC)) (Yd (i:=4) ZF.nd rfl (Or.inl rfl)) (YF (YK (i:=5) ZF.nd rfl (Or.inl rfl) YD)
   (YF (YK (i:=6) ZF.nd rfl (Or.inl rfl) YD)
   (YF (ZQ PassesOwn.never rfl (Xf K rfl (YM (YS K rfl) (YM (YW K rfl) (pv 0) (pv 4) (fun _ _=>rfl)) YD (fun _ _=>rfl))) (Yd (i:=7) ZF.nd rfl (Or.inl rfl)) (YG (Y3 (Ye Jq (YM Z5 (pv 7) YD (fun _ _=>rfl)) Zj (Yf _)) (YG (YK (i:=5) ZF.nd rfl (Or.inl rfl) (YN Yp (pv 5) YD))) (YF (YK (i:=8) ZF.nd rfl (Or.inl rfl) (Xg K rfl PySem.F.plainAttrs_list PySem.F.slot_list_pop PySem.F.type_list_pop YCC (pv 3)))
   (YF (YK (i:=5) ZF.nd rfl (Or.inl rfl) (YN Yp (pv 5) (YM (YS K rfl) (pv 8) YD (fun _ _=>rfl))))
   (YG (YK (i:=6) ZF.nd rfl (Or.inl rfl) (YN Yp (pv 6) (YM (YS K rfl) (pv 8) YD (fun _ _=>rfl))))))))))
   (YF (Yk (ZV K rfl PySem.F.plainAttrs_list PySem.F.slot_list_append PySem.F.type_list_append Yl (pv 3) (YA (Yy (YA (pv 5) (YA (pv 6) YC))) YC)))
   (YG (Yk (ZV K rfl PySem.F.plainAttrs_list PySem.F.slot_list_append PySem.F.type_list_append Yl (pv 2) (YA (YM (YW K rfl) (pv 3) (pe_un YG3 YD) (fun _ _=>rfl)) YC)))))))))
   (YF (Yk (Xg K rfl PySem.F.plainAttrs_list PySem.F.slot_list_reverse PySem.F.type_list_reverse YDK (pv 2)))
   (YG (YX (pv 2))))))),?_⟩
  refine⟨YLN _,fun lt hlt=>⟨YLN _,fun lw hlw=>?_⟩⟩;have s1:=SP.upd (o:=.lst []) hlt;have s2:=SP.upd (o:=.lst []) hlw;have n1:lw≠lt:=fun z=>by rw[z,YB]at hlw;cases hlw
  have lR:H lw=none:=s1.free hlw;have t3:upd (upd H lt (.lst [])) lw (.lst []) lt=some (.lst ([].map V.ref)):=s2 _ _ YB;have w3:upd (upd H lt (.lst [])) lw (.lst []) lw=some (.lst ([].map V.ref)):=YB;have s03:=s1.trans s2;revert t3 w3 s03;generalize upd (upd H lt (.lst [])) lw (.lst [])=H3;intro t3 w3 s03;refine⟨_,rfl,o,_,rfl,.inl (s03 _ _ ho),?_⟩;refine YKY (K:=K) (a:=o) (xs:=ks.map nV) (fun i σ H4=>∃(wa ta:List Addr) (w t:List T3) (v4 v5 v6 v7 v8:Option V),σ=[some (.ref l),some (.ref o),some (.ref lt),some (.ref lw),v4,v5,v6,v7,v8]∧H4 lt=some (.lst (ta.reverse.map V.ref))∧H4 lw=some (.lst (wa.reverse.map V.ref))∧XA H4 ta t∧XA H4 wa w∧Xb g (ks.drop (ks.length - i)) w t∧SP H H4)
   ⟨[],[],[],[],none,none,none,none,none,rfl,t3,w3,.nil,.nil,by rw[Nat.sub_zero,List.drop_length];exact .nil,s03⟩ ?_ ?_ ?_
  ·rintro i σ H4 _ ⟨_,_,_,_,_,_,_,_,_,rfl,_,_,_,_,_,s4⟩;exact SqL.of (s4 _ _ ho)
  ·rintro i x σ H4 hi ⟨wa,ta,w4,tt4,v4,v5,v6,v7,v8,rfl,ht4,hw4,hta,hwa,rJ,s4⟩;rw[←List.map_reverse,YLI]at hi;cases ex:ks.reverse[i]? with
   |none=>rw[ex]at hi;cases hi
   |some k=>
    rw[ex]at hi;cases hi;have hil:i < ks.length:=by
     have:=(List.getElem?_eq_some_iff.mp ex).1
     rwa [YLa]at this
    rw[List.getElem?_reverse hil]at ex;have edr:ks.drop (ks.length - (i + 1))=k :: ks.drop (ks.length - i):=by
     have h1:ks.length - (i + 1) < ks.length:=by omega
     rw[List.drop_eq_getElem_cons h1];have h2:ks[ks.length - (i + 1)]?=some k:=by rw[←ex];congr 1;omega
     rw[YLF h1]at h2;cases h2;congr 2;omega
    obtain⟨w5,rK⟩:=hrt.drop (ks.length - (i + 1)) (by omega);rw[edr]at rK;generalize htd:t.drop (ks.length - (i + 1))=td at rK;have uL:=rK;cases rK with
    |cons hX er hstep=>
     rename_i w2 t2 w' r e
     obtain⟨rfl,rfl⟩:=hX.det rJ;have hwl:=hX.wlen;have htl:=hX.len;rw[YLd]at hwl htl;have hok:=Y1 (ZC hg er);obtain⟨tr,pp,ax,htr,hpp⟩:=Zr hds er;refine⟨_,rfl,_,rfl,l,_,_,_,rfl,rfl,SqL.of (s4 _ _ hl),ax,tr,_,1,_,rfl,rfl,SqT.of (s4 _ _ htr),rfl,pp,rfl,⟨_,SqT.of (s4 _ _ hpp)⟩,?_⟩;refine YE5 (K:=K) (a:=pp) (xs:=r.2.1.map V.str) (fun j σ H5=>∃(a:T3) (wj:List T3) (waj:List Addr) (v8 v9:Option V),σ=[some (.ref l),some (.ref o),some (.ref lt),some (.ref lw),some (nV k),some (nV a.1),some (nV a.2.2),v8,v9]∧H5 lt=some (.lst (ta.reverse.map V.ref))∧H5 lw=some (.lst (waj.reverse.map V.ref))∧XA H5 ta t2∧XA H5 waj wj∧J3 (r.2.1.drop j) a wj=some (e,w')∧SP H H5)
      ⟨(0,0,1),w2,wa,_,_,rfl,ht4,hw4,hta,hwa,hstep,s4⟩ ?_ ?_ ?_
     ·rintro j σ H5 _ ⟨_,_,_,_,_,rfl,_,_,_,_,_,s5⟩;exact SqT.of (s5 _ _ hpp)
     ·rintro j y σ H5 hj ⟨a,wj,waj,v8,v9,rfl,ht5,hw5,qi,qj,gj,s5⟩;rw[YLI]at hj;cases ey:r.2.1[j]? with
      |none=>rw[ey]at hj;cases hj
      |some p=>
       rw[ey]at hj;cases hj;have hjl:=(List.getElem?_eq_some_iff.mp ey).1;have edp:r.2.1.drop j=p :: r.2.1.drop (j + 1):=by
        rw[List.drop_eq_getElem_cons hjl];rw[YLF hjl]at ey;cases ey;rfl
       rw[edp]at gj;unfold J3 at gj;have hpart:=hok.2 p (YLH ey);obtain⟨ch,hc,hlz,hdec⟩:=JL hpart;refine⟨_,rfl,p,0,ch,rfl,rfl,YH (by omega),hc,rfl,_,rfl,?_⟩;rw[hdec]
       by_cases hq:isQ p=true
       ·rw[hq];rw[if_pos hq]at gj;exact⟨_,rfl,_,_,rfl,rfl,(a.1 + 1,a.2.1,a.2.2),wj,waj,_,_,rfl,ht5,hw5,qi,qj,gj,s5⟩
       ·rw[if_neg hq]at gj;rw[Bool.eq_false_iff.mpr hq];cases qj with
        |nil=>cases gj
        |cons hba vJ=>
         rename_i ba b waj' wj'
         have gj:J3 (r.2.1.drop (j + 1)) (a.1 + b.1,max a.2.1 b.2.1,a.2.2 + b.2.2) wj'=some (e,w'):=gj;have elast:((ba :: waj').reverse.map V.ref)[((ba :: waj').reverse.map V.ref).length - 1]?=some (.ref ba):=by
          rw[YLg,YLK,YLE];show(_ ++ [V.ref ba])[_ + 1 - 1]?=_;rw[Nat.add_sub_cancel,YLV (YLG _),Nat.sub_self];rfl
         have edrop:((ba :: waj').reverse.map V.ref).dropLast=waj'.reverse.map V.ref:=by rw[YLg,YLK];exact List.dropLast_concat
         refine⟨_,rfl,.inl ⟨rfl,_,SqL.of hw5⟩,lw,_,_,rfl,rfl,hw5,elast,?_⟩;rw[edrop];have s6:SP H (upd H5 lw (.lst (waj'.reverse.map V.ref))):=s5.put lR;have hw6:upd H5 lw (.lst (waj'.reverse.map V.ref)) lw=some (.lst (waj'.reverse.map V.ref)):=YB;have ht6:upd H5 lw (.lst (waj'.reverse.map V.ref)) lt=some (.lst (ta.reverse.map V.ref)):=by rw[YE n1.symm];exact ht5
         have uc:XA (upd H5 lw (.lst (waj'.reverse.map V.ref))) ta t2:=qi.put hw5;have ud:XA (upd H5 lw (.lst (waj'.reverse.map V.ref))) (ba :: waj') (b :: wj'):=(XA.cons hba vJ).put hw5;revert s6 hw6 ht6 uc ud;generalize upd H5 lw (.lst (waj'.reverse.map V.ref))=H6;intro s6 hw6 ht6 uc ud;cases ud with
         |cons vK vL=>
          have sqb:=SqT.of (K:=K) vK;refine⟨_,rfl,_,rfl,ba,_,0,_,rfl,rfl,sqb,rfl,_,_,rfl,rfl,?_⟩;refine⟨_,rfl,_,rfl,ba,_,1,_,rfl,rfl,sqb,rfl,_,_,rfl,rfl,?_⟩;exact⟨(a.1 + b.1,max a.2.1 b.2.1,a.2.2 + b.2.2),wj',waj',_,_,rfl,ht6,hw6,uc,vL,gj,s6⟩
     ·rintro σ H5 ⟨a,wj,waj,v8,v9,rfl,ht5,hw5,qi,qj,gj,s5⟩;have gj:J3 (r.2.1.drop (r.2.1.map V.str).length) a wj=some (e,w'):=gj;rw[YLD,List.drop_length]at gj;unfold J3 at gj;cases gj;have wK:=qj.len;have wC:=YA8 hstep;have wL:=qi.len;refine⟨_,rfl,.inl ⟨rfl,_,SqL.of hw5⟩,_,rfl,_,rfl,YH (by show 2≤1000;decide),fun tz htz=>?_⟩;have sz:=SP.upd (o:=.tup (t3V (upT e))) htz;have nzl:tz≠lw:=fun z=>by rw[z,hw5]at htz;cases htz
      have nzt:tz≠lt:=fun z=>by rw[z,ht5]at htz;cases htz
      refine⟨lw,_,_,rfl,rfl,sz _ _ hw5,by rw[YLD,YLa,sizeLine_eq];omega,?_⟩;have hw6:upd (upd H5 tz (.tup (t3V (upT e)))) lw (.lst (waj.reverse.map V.ref ++ [.ref tz])) lw=some (.lst (waj.reverse.map V.ref ++ [.ref tz])):=YB;have ht6:upd (upd H5 tz (.tup (t3V (upT e)))) lw (.lst (waj.reverse.map V.ref ++ [.ref tz])) lt=some (.lst (ta.reverse.map V.ref)):=by rw[YE n1.symm];exact sz _ _ ht5
      have s6:SP H (upd (upd H5 tz (.tup (t3V (upT e)))) lw (.lst (waj.reverse.map V.ref ++ [.ref tz]))):=(s5.trans sz).put lR;have hz6:upd (upd H5 tz (.tup (t3V (upT e)))) lw (.lst (waj.reverse.map V.ref ++ [.ref tz])) tz=some (.tup (t3V (upT e))):=by rw[YE nzl];exact YB
      have ta6:XA (upd (upd H5 tz (.tup (t3V (upT e)))) lw (.lst (waj.reverse.map V.ref ++ [.ref tz]))) ta t2:=(qi.same sz).put (sz _ _ hw5);have wa6:XA (upd (upd H5 tz (.tup (t3V (upT e)))) lw (.lst (waj.reverse.map V.ref ++ [.ref tz]))) waj w':=(qj.same sz).put (sz _ _ hw5);revert hw6 ht6 s6 hz6 ta6 wa6;generalize hH6:upd (upd H5 tz (.tup (t3V (upT e)))) lw (.lst (waj.reverse.map V.ref ++ [.ref tz]))=H6;intro hw6 ht6 s6 hz6 ta6 wa6;have vM:upd (upd H5 tz (.tup [V.int (e.1:Int),V.int (e.2.2:Int)])) lw (.lst (waj.reverse.map V.ref ++ [.ref tz]))=H6:=hH6;show YD2 _ _ _ _ (upd (upd H5 tz (.tup [V.int (e.1:Int),V.int (e.2.2:Int)])) lw (.lst (waj.reverse.map V.ref ++ [.ref tz])));rw[vM];refine⟨_,rfl,.inl ⟨rfl,_,SqL.of ht6⟩,_,rfl,1,rfl,lw,_,_,_,rfl,rfl,SqL.of hw6,YFj _ _,lt,_,_,rfl,rfl,ht6,by rw[YLD,YLa,sizeLine_eq];omega,?_⟩;refine⟨tz :: waj,tz :: ta,_,_,_,_,_,_,_,rfl,?_,?_,.cons ?_ (ta6.put ht6),.cons ?_ (wa6.put ht6),by rw[edr];exact uL,s6.put hlt⟩
      ·rw[YB,YLg,YLK];rfl
      ·rw[YE n1,hw6,YLg,YLK];rfl
      ·rw[YE nzt];exact hz6
      ·rw[YE nzt];exact hz6
  ·rintro σ H4 ⟨wa,ta,w4,tt4,v4,v5,v6,v7,v8,rfl,ht4,hw4,hta,hwa,rJ,s4⟩;rw[YLD,Nat.sub_self,List.drop_zero]at rJ;obtain⟨_,rfl⟩:=hrt.det rJ;refine⟨_,rfl,.inl ⟨rfl,_,SqL.of ht4⟩,lt,_,rfl,rfl,ht4,?_⟩;rw[←List.map_reverse,List.reverse_reverse];exact⟨_,rfl,q lt ta _ (s4.put hlt) YB (hta.put ht4)⟩
end
abbrev JZ:Stmt:=top 47
abbrev XY:Stmt:=top 48
abbrev Xx:Stmt:=top 49
abbrev Xy:Stmt:=top 50
inductive YE1 (CW:Addr) (vs:List V) (H:Hp) (Q:VK):Prop where
 |mk (G:Hp) (wd l o t bg:Addr) (xs:List V) (g:YT) (z:Str) (ks:List Nat) (hs:Hs) (nds:List Nd) (top:Option Nd) (as:List Addr) (w tr:List T3) (D:Nat→Option Nat) (kvs:List (Key×V)) (k:Nat) (h0_:vs=[.ref wd,.ref l,.ref o,.ref t,.ref bg,nV k]) (h1_:YBC CW G wd g z nds top) (h2_:G l=some (.lst xs)) (h3_:Yb G xs (g.map ZS)) (h4_:ZE g z.cps.toList hs) (h5_:Ji g z.cps.toList hs) (h6_:JN g z.cps.toList.length (inB (hs.map (·.1))) top nds) (h7_:G o=some (.lst (ks.map nV))) (h8_:ks.length≤200) (h9_:G t=some (.lst (as.map V.ref))) (rA:XA G as tr) (tM:Xb g ks w tr) (vN:G bg=none) (wM:SP G H) (wN:H bg=some (.dK kvs)) (wO:DOk kvs D) (wQ:kvs.length≤1 + 6 * k) (wR:ChW g ks z.cps.toList nds D k) (wU:k < ks.length) (wV:∀H' kvs' D',SP G H'→H' bg=some (.dK kvs')→DOk kvs' D'→kvs'.length≤1 + 6 * (k + 1)→ChW g ks z.cps.toList nds D' (k + 1)→Q (.bl true) H'):YE1 CW vs H Q
def YGu (CW:Addr):Sp:=fun vs H Q E_=>YE1 CW vs H Q
section
variable {P:Program}{w:World}{K:W.Frag}{mg:Str→Option Value}{base:Heap}{C:Adr}
theorem Y2:YV ["_law_wood","_law_rules","_law_row_here","_law_tree_here","_law_begins","_law_k","_law_node","_law_child","_law_part","_law_begin","_law_end","_law_way"] ["_law_wood","_law_rules","_law_row_here","_law_tree_here","_law_begins","_law_k"] (YJ XY):=⟨rfl,rfl,rfl,by decide +kernel,rfl,by decide +kernel,by decide +kernel⟩
theorem YCz {f:Addr}{fd:FuncData} (F:Fun K "_law_rule_in" "_law_rule_in" XY f fd) (T:Txt K mg C) (aB:JT P w K mg CX0 2 C.Wood "ways" ["self","node"] (YDo C.Wood)):Y6 P w K mg base CX0 3 f fd ["_law_wood","_law_rules","_law_row_here","_law_tree_here","_law_begins","_law_k"] (YGu C.Wood):=by
 obtain⟨dN,dm,aG,aC,aH⟩:=aB.ok;refine F.ok Y2 (fun vs H Q E h=>?_) (fun cdv A outer s H vs Q E hr h=>?_)
 ·obtain⟨G,wd,l,o,t,bg,xs,g,z,ks,hs,nds,top,as,w,tr,D,kvs,k,rfl,_⟩:=h;rfl
 ·obtain⟨G,wd,l,o,t,bg,xs,g,z,ks,hs,nds,top,as,w,tr,D,kvs,k,rfl,wa,hl,hds,st,hb,wk,ho,hkl,hta,has,hrt,hbg,s0,hD,hDo,hDl,hch,hk,q⟩:=h;have hu:=JP hr;have hU:=hr.units;have hg:=wa.gr;refine qex ?_;refine⟨_,(YO ⟨(YK (i:=6) Y2.nd rfl (Or.inl rfl) (Yy (Y9 (YM (YW K rfl) (pv 2) (pv 5) (fun _ _=>rfl)) (Y9 YD (Y9 (Xe hu (pv 4) (pv 5) (fun _ _=>rfl)) (Y9 (Xe hu (pv 4) (pv 5) (fun _ _=>rfl)) YC))))))⟩
   (YO ⟨(Y3 (Ye (Je K rfl hU) (ZZ (pv 0) T.ak aC (aG base) (hr.mono (by decide)) aH .nil Yg (YA (pv 6) YC)) (Y0 (YA (Yy YC) YC)) (Yf _)) (YG (YX Xc)) Yc)⟩
   (YO ⟨(YK (i:=7) Y2.nd rfl (Or.inl rfl) (YN Yp (pv 5) YD))⟩
   (YO ⟨(ZQ PassesOwn.never rfl (Xf K rfl (YM (YS K rfl) (YM (YW K rfl) (pv 1) (YM (YW K rfl) (pv 2) (pv 5) (fun _ _=>rfl)) (fun _ _=>rfl)) YD (fun _ _=>rfl))) (Yd (i:=8) Y2.nd rfl (Or.inl rfl)) (YF (YK (i:=9) Y2.nd rfl (Or.inl rfl) (YM (YS K rfl) (pv 6) YD (fun _ _=>rfl)))
   (YF (YK (i:=10) Y2.nd rfl (Or.inl rfl) (YN Yp (pv 9) YD))
   (YF (Y3 (Ye YCa (YM Z5 (pv 8) YD (fun _ _=>rfl)) Zj (Yf _)) (YF (YAC hu (pv 4) (pv 7) (pv 9) rfl)
   (YF (YK (i:=10) Y2.nd rfl (Or.inl rfl) (YN Yp (pv 9) (YM (YS K rfl) (YM (YW K rfl) (pv 3) (pv 7) (fun _ _=>rfl)) YD (fun _ _=>rfl))))
   (YG (YK (i:=7) Y2.nd rfl (Or.inl rfl) (YN Yp (pv 7) (YM (YS K rfl) (YM (YW K rfl) (pv 3) (pv 7) (fun _ _=>rfl)) YD (fun _ _=>rfl))))))) (YG (Y3 (Ye (Je K rfl hU) (ZZ (pv 0) T.ak aC (aG base) (hr.mono (by decide)) aH .nil Yg (YA (Yy (YA (pv 8) (YA (pv 9) (YA (pv 10) YC)))) YC)) (Y0 (YA (Yy YC) YC)) (Yf _)) (YG (YX Xc)) Yc)))
   (YF (YK (i:=11) Y2.nd rfl (Or.inl rfl) (Yy (YA (pv 6) (YA (Yy (YA (pv 8) (YA (pv 9) (YA (pv 10) YC)))) YC))))
   (YF (YK (i:=6) Y2.nd rfl (Or.inl rfl) (Yy (Y9 (YM (YW K rfl) (pv 2) (pv 5) (fun _ _=>rfl)) (Y9 (YN Yp (YM (YS K rfl) (pv 6) YD (fun _ _=>rfl)) YD) (Y9 (Xe hu (pv 4) (pv 5) (fun _ _=>rfl)) (Y9 (pv 10) YC))))))
   (YG (Y3 (Ye (YEA K rfl hU) (pv 11) (ZZ (pv 0) T.ak aC (aG base) (hr.mono (by decide)) aH .nil Yg (YA (pv 6) YC)) (by with_unfolding_all rfl)) (YG (YX Xc)) Yc))))))))⟩
   (JS ⟨(YX (JH (YHW K rfl hU) (Yy (YA (pv 6) YC)) (ZZ (pv 0) T.ak aC (aG base) (hr.mono (by decide)) aH .nil Yg (YA (Yy (YA (YM (YS K rfl) (YM (YW K rfl) (pv 1) (YM (YW K rfl) (pv 2) (pv 5) (fun _ _=>rfl)) (fun _ _=>rfl)) YD (fun _ _=>rfl)) (YA (Xe hu (pv 4) (pv 5) (fun _ _=>rfl)) (YA (YM (YS K rfl) (pv 6) YD (fun _ _=>rfl)) YC)))) YC)) (by with_unfolding_all rfl)))⟩))))),?_⟩
  have one_ok:(X7 [[]]).ok=true:=by decide
  have one_dep:(X7 [[]]).dep≤64:=by decide
  cases hch with
  |done e=>exact absurd e (YLY hk)
  |node hDk hdr er hnq f0 hpre hnd vO=>
   rename_i kk b r k1 rest s1 h1
   have ek:ks[k]?=some kk:=by
    have:ks[k]?=(ks.drop k)[0]?:=by rw[List.getElem?_drop];rfl
    rw[this,hdr];rfl
   have ao:atI (ks.map nV) (k:Int)=some (nV kk):=ZT (j:=k) (by rw[YLI,ek];rfl);have hok:=Y1 (ZC hg er);obtain⟨tt,pp,ax,htt,hpp⟩:=Zr hds er;have dgk:∀{H2:Hp}{kv2:List (Key×V)}{D2:Nat→Option Nat},H2 bg=some (.dK kv2)→DOk kv2 D2→D2 k=some b→Jz H2 bg (nV k) (some (nV b)):=fun{H2 kv2 D2} e1 e2 e3=>by
    have:=Jz.k (k:=.inl (k:Int)) e1;rw[e2 k,e3]at this;exact this
   have l0:YL hs (.beg kk 0 b b)=some 0:=hb.bg kk b (List.getElem?_eq_some_iff.mp er).1 hpre.1;obtain⟨vl,hvl,_⟩:=YGq hg st hb f0 er (d:=0) rfl (YLN _) hpre l0;obtain⟨hfw,nu⟩:=YFc wk er hnq hvl hnd;have hb0:Nd.beg kk 0 b b∈nds:=YB6 hg st hb wk f0 er (d:=0) rfl (YLN _) hpre l0 nu;obtain⟨dx,lw,anw,afw,aew,rvw,xsw,hx0,_⟩:=wa.ex;refine⟨_,rfl,_,rfl,o,_,_,_,rfl,rfl,SqL.of (s0 _ _ ho),ao,_,rfl,_,rfl,bg,nV b,rfl,dgk hD hDo hDk,_,rfl,_,rfl,bg,nV b,rfl,dgk hD hDo hDk,YH (by show 4≤1000;decide),fun n1 hn1=>?_⟩;have z1:SP H (upd H n1 (.tup ((Yu (.beg kk 0 b b)).map kV))):=SP.upd hn1;have hnn:upd H n1 (.tup ((Yu (.beg kk 0 b b)).map kV)) n1=some (.tup ((Yu (.beg kk 0 b b)).map kV)):=YB;show YD2 _ _ _ [some (.ref wd),some (.ref l),some (.ref o),some (.ref t),some (.ref bg),some (nV k),some (.ref n1),none,none,none,none,none] (upd H n1 (.tup ((Yu (.beg kk 0 b b)).map kV)));revert z1 hnn;generalize upd H n1 (.tup ((Yu (.beg kk 0 b b)).map kV))=H1;intro z1 hnn;have s1':=s0.trans z1;refine⟨_,rfl,wd,dx,_,rfl,s1' _ _ hx0,rfl,_,rfl,wd,n1,g,z,nds,top,Yu (.beg kk 0 b b),rfl,wa.same s1',hnn,fun nd e ql a H2 g1 g2 g3 g4=>?_,fun hno=>absurd rfl (hno _ hb0)⟩;cases JF e;refine⟨YLN _,fun et het=>⟨YH (by show 1≤1000;decide),fun el hel=>?_⟩⟩;have zt:=(SP.upd (o:=.tup []) het).trans (SP.upd (o:=.lst [.ref et]) hel);have z3:=(SP.mk g3 g4).trans zt;refine⟨X7 [[]],X7 [[]],(YDr (by rw[Yi]at g1;exact g1)).same zt,.lst (.inl YB) (.cons (.tup ((SP.upd (o:=.lst [.ref et]) hel).s et _ YB) .nil) .nil),one_ok,one_ok,one_dep,_,rfl,?_⟩;rw[YBp _ one_ok];have s2:=s1'.trans z3;have hn2:=z3 _ _ hnn;have hD2:=z3 _ _ (z1 _ _ hD);revert s2 hn2 hD2;generalize upd (upd H2 et (.tup [])) el (.lst [.ref et])=H3;intro s2 hn2 hD2;clear zt z3 g1 g2 g3 g4;refine ZL ⟨_,rfl,_,_,rfl,rfl,?_⟩;dsimp only[ZH];refine⟨_,rfl,_,rfl,_,rfl,o,_,_,_,rfl,rfl,SqL.of (s2 _ _ ho),ao,l,_,_,_,rfl,rfl,SqL.of (s2 _ _ hl),ax,tt,_,1,_,rfl,rfl,SqT.of (s2 _ _ htt),rfl,pp,rfl,⟨_,SqT.of (s2 _ _ hpp)⟩,?_⟩;obtain⟨Inv,qp⟩:∃Inv:Nat→St→Hp→Prop,Inv=fun d σ H3=>∃(e c a:Nat) (D3:Nat→Option Nat) (kv3:List (Key×V)) (k3 s3:List Nat) (h3:Nat) (nd:Addr) (v8 v9 v10 v11:Option V),σ=[some (.ref wd),some (.ref l),some (.ref o),some (.ref t),some (.ref bg),some (nV k),some (.ref nd),some (nV c),v8,v9,v10,v11]∧For g (r.2.1.drop d) k3 s3 h3∧ks.drop c=k3 ++ rest∧c + k3.length=k + 1 + k1.length∧J4 z.cps.toList e s3∧e + s3.length=b + s1.length∧YL hs (.beg kk d b e)=some a∧SP G H3∧H3 bg=some (.dK kv3)∧DOk kv3 D3∧kv3.length≤1 + 6 * k + d∧(∀j,c≤j→D3 j=D j)∧D3 k=some b∧k < c∧H3 nd=some (.tup ((Yu (.beg kk d b e)).map kV))∧(∀D',(∀j,j < c→D' j=D3 j)→ChW g ks z.cps.toList nds D' c→ChW g ks z.cps.toList nds D' (k + 1)):=⟨_,rfl⟩
   refine YE5 (K:=K) (a:=pp) (xs:=r.2.1.map V.str) Inv ?_ ?_ ?_ ?_
   ·rw[qp];exact⟨b,k + 1,0,D,kvs,k1,s1,h1,n1,none,none,none,none,rfl,f0,X8 hdr,rfl,hpre,rfl,l0,s2,hD2,hDo,hDl,fun _ _=>rfl,hDk,Nat.lt_succ_self _,hn2,fun _ _ h=>h⟩
   ·intro d σ H3 _ hi;rw[qp]at hi;obtain⟨e,c,a,D3,kv3,k3,s3,h3,nd,v8,v9,v10,v11,rfl,hf3,rM,hc3,jg,he3,hl3,sG3,hi⟩:=hi;exact SqT.of (sG3 _ _ hpp)
   ·intro d y σ H3 hd hi;rw[qp]at hi;obtain⟨e,c,a,D3,kv3,k3,s3,h3,nd,v8,v9,v10,v11,rfl,hf3,rM,hc3,jg,he3,hl3,sG3,hD3,qt,uM,rN,rO,uN,lq,hcont⟩:=hi;rw[YLI]at hd;obtain⟨p,ep,rfl⟩:=Option.map_eq_some_iff.mp hd;have hdl:=(List.getElem?_eq_some_iff.mp ep).1;have edp:r.2.1.drop d=p :: r.2.1.drop (d + 1):=by
     rw[List.drop_eq_getElem_cons hdl];rw[YLF hdl]at ep;cases ep;rfl
    rw[edp]at hf3;have hpart:=hok.2 p (YLH ep);obtain⟨ch,vP,hlz,hdec⟩:=JL hpart;have hpa:ZD g kk d=some p:=by unfold ZD;rw[er];exact ep
    dsimp only[ZH];refine⟨_,rfl,nd,_,3,_,rfl,rfl,SqT.of lq,rfl,?_⟩;refine⟨_,rfl,_,_,rfl,rfl,?_⟩;dsimp only[ZH];refine YGJ (fun σ' H'=>∃(e' c' v1 v:Nat) (D4:Nat→Option Nat) (kv4:List (Key×V)) (k4 s4:List Nat) (h4:Nat),σ'=[some (.ref wd),some (.ref l),some (.ref o),some (.ref t),some (.ref bg),some (nV k),some (.ref nd),some (nV c'),some (.str p),some (nV e),some (nV e'),v11]∧For g (r.2.1.drop (d + 1)) k4 s4 h4∧ks.drop c'=k4 ++ rest∧c' + k4.length=k + 1 + k1.length∧J4 z.cps.toList e' s4∧e' + s4.length=b + s1.length∧YL hs (.part p e e')=some v1∧YL hs (.beg kk (d + 1) b e')=some v∧SP G H'∧H' bg=some (.dK kv4)∧DOk kv4 D4∧kv4.length≤1 + 6 * k + (d + 1)∧(∀j,c'≤j→D4 j=D j)∧D4 k=some b∧k < c'∧H' nd=some (.tup ((Yu (.beg kk d b e)).map kV))∧(∀D',(∀j,j < c'→D' j=D4 j)→ChW g ks z.cps.toList nds D' c'→ChW g ks z.cps.toList nds D' (k + 1))) ?_ fun rest'=>?_
    case refine_2=>
     refine⟨_,rfl,p,0,ch,rfl,rfl,YH (by omega),vP,rfl,_,rfl,?_⟩;rw[hdec];cases hf3 with
     |sign hq hf4=>
      rename_i s4
      rw[hq];obtain⟨hc,lU⟩:=jg.head;obtain⟨v,hv1,hv2⟩:=YFa hg st hb hpa hpart hq hc hl3;have h0:=hb.sg e _ hc;rw[←YFZ hpart hq]at h0;rw[YLM]at he3;have hx1:Nd.beg kk (d + 1) b (e + 1)∈nds:=YB6 hg st hb wk hf4 (d:=d + 1) er rfl hdl lU hv1 (by rw[show e + 1 + s4.length=b + s1.length by omega];exact nu);have hpn:=(YBf wk hpa jg.1 hl3 h0 hx1).2.2;refine ZL ⟨_,rfl,wd,dx,_,rfl,sG3 _ _ hx0,rfl,_,rfl,_,rfl,_,rfl,YH (by show 3≤1000;decide),fun pn qu=>?_⟩;have z4:SP H3 (upd H3 pn (.tup ((Yu (.part p e (e + 1))).map kV))):=SP.upd qu;refine⟨wd,pn,g,z,nds,top,Yu (.part p e (e + 1)),rfl,(wa.same sG3.s).same z4.s,YB,fun nd' e' ql a' H4 g1 g2 g3 g4=>?_,fun hno=>absurd rfl (hno _ hpn)⟩;cases JF e';refine⟨YLN _,fun et het=>⟨YH (by show 1≤1000;decide),fun el hel=>?_⟩⟩;have zt:=(SP.upd (o:=.tup []) het).trans (SP.upd (o:=.lst [.ref et]) hel);have z5:=z4.trans ((SP.mk g3 g4).trans zt);refine⟨X7 [[]],X7 [[]],(YDr (by rw[Yi,if_pos hq]at g1;exact g1)).same zt,.lst (.inl YB) (.cons (.tup ((SP.upd (o:=.lst [.ref et]) hel).s et _ YB) .nil) .nil),one_ok,one_ok,one_dep,_,rfl,?_⟩;rw[YBp _ one_ok];exact ZL (rest' _ _ ⟨e + 1,c,0,v,D3,kv3,k3,s4,h3,rfl,hf4,rM,hc3,lU,by omega,h0,hv1,sG3.trans z5,z5 _ _ hD3,qt,by omega,rN,rO,uN,z5 _ _ lq,hcont⟩)
     |name e0 hq hk0 f1 f2=>
      rename_i r0 k0 ka kb sa sb ha hb'
      rw[hq];obtain⟨uO,uP⟩:=jg.app;have nA:ks.drop c=k0 :: (ka ++ (kb ++ rest)):=by rw[rM,List.cons_append,YLQ]
      have hcl:c < ks.length:=by
       have:=congrArg List.length nA;rw[YLd,YLM]at this;omega
      obtain⟨a2,ea2,ga2⟩:=has.at_ (hrt.at_ nA hk0 f1);have at2:atI (as.map V.ref) (c:Int)=some (.ref a2):=ZT (j:=c) (by rw[YLI,ea2];rfl);obtain⟨v1,hv1,_⟩:=YFb hg st hb hk0 f1 uO;rw[e0]at hv1;obtain⟨v,hv3,_⟩:=st.cl.join kk d b e p (e + sa.length) a v1 ⟨_,hl3⟩ ⟨_,hv1⟩ hpa hl3 hv1;rw[YLE]at he3;have hx1:Nd.beg kk (d + 1) b (e + sa.length)∈nds:=YB6 hg st hb wk f2 (d:=d + 1) er rfl hdl uP hv3 (by rw[Nat.add_assoc,he3];exact nu);have hpn:=(YBf wk hpa jg.1 hl3 hv1 hx1).2.2;refine Ze ⟨_,rfl,_,rfl,_,rfl,bg,_,rfl,YCD.k (k:=.inl (c:Int)) hD3 (by rw[sizeLine_eq];omega),?_⟩;have sG4:SP G (upd H3 bg (.dK (Y4 kv3 (.inl (c:Int)) (nV e)))):=sG3.put hbg;have hD4:upd H3 bg (.dK (Y4 kv3 (.inl (c:Int)) (nV e))) bg=some (.dK (Y4 kv3 (.inl (c:Int)) (nV e))):=YB;have iV:upd H3 bg (.dK (Y4 kv3 (.inl (c:Int)) (nV e))) nd=some (.tup ((Yu (.beg kk d b e)).map kV)):=by rw[YE (fun z=>by rw[z,hD3]at lq;cases lq)];exact lq
      show YD2 _ _ _ [some (.ref wd),some (.ref l),some (.ref o),some (.ref t),some (.ref bg),some (nV k),some (.ref nd),some (nV c),some (.str p),some (nV e),some (.int ((e:Int) + 1)),v11] (upd H3 bg (.dK (Y4 kv3 (.inl (c:Int)) (nV e))));revert sG4 hD4 iV;generalize upd H3 bg (.dK (Y4 kv3 (.inl (c:Int)) (nV e)))=H4;intro sG4 hD4 iV;have sqt:=SqL.of (K:=K) (sG4 _ _ hta);have sqa:=SqT.of (K:=K) (sG4 _ _ ga2);refine⟨_,rfl,_,rfl,_,rfl,t,_,_,_,rfl,rfl,sqt,at2,a2,_,0,_,rfl,rfl,sqa,rfl,_,_,rfl,rfl,?_⟩;refine⟨_,rfl,_,rfl,_,rfl,t,_,_,_,rfl,rfl,sqt,at2,a2,_,1,_,rfl,rfl,sqa,rfl,_,_,rfl,rfl,?_⟩;have hdc:ks.drop (c + (1 + ka.length))=kb ++ rest:=by
       rw[←List.drop_drop,nA,Nat.add_comm,List.drop_succ_cons,List.drop_left]
      have vQ:=putK_le kv3 (.inl (c:Int)) (nV e);rw[YLM,YLE]at hc3;refine rest' _ _ ⟨e + sa.length,c + (1 + ka.length),v1,v,YGr D3 c e,_,kb,sb,hb',rfl,f2,hdc,by omega,uP,by omega,hv1,hv3,sG4,hD4,qt.put c e,by omega,fun j hj=>?_,?_,by omega,iV,fun D' hD' vR=>?_⟩
      ·unfold YGr;rw[if_neg (by omega)];exact rN j (by omega)
      ·unfold YGr;rw[if_neg (by omega)];exact rO
      ·have hDc:=hD' c (by omega);unfold YGr at hDc;rw[if_pos rfl]at hDc;refine hcont D' (fun j hj=>?_) (.node (b:=e) (k1:=ka) hDc nA hk0 (by rw[e0];exact hq) f1 uO (by rw[e0];exact hpn) (by rw[Nat.add_assoc];exact vR));have:=hD' j (by omega);unfold YGr at this;rw[if_neg (by omega)]at this;exact this
    case refine_1=>
     rintro σ' H4 ⟨e',c',v1,v,D4,kv4,k4,s4,h4,rfl,hf4,vU,hc4,lU,he4,hv1,hv,sG4,hD4,uQ,vQ,vV,uR,vW,iV,ue⟩;have hx1:Nd.beg kk (d + 1) b e'∈nds:=YB6 hg st hb wk hf4 (d:=d + 1) er rfl hdl lU hv (by rw[he4];exact nu);obtain⟨vX,hdn,hpn⟩:=YBf wk hpa jg.1 hl3 hv1 hx1;refine⟨_,rfl,_,rfl,_,rfl,_,rfl,YH (by show 3≤1000;decide),fun pn qu=>⟨YH (by show 2≤1000;decide),fun wy hwy=>?_⟩⟩;have z5:SP H4 (upd H4 pn (.tup ((Yu (.part p e e')).map kV))):=SP.upd qu;have z6:=SP.upd (o:=.tup [.ref nd,.ref pn]) hwy;have z56:=z5.trans z6;have uf:upd (upd H4 pn (.tup ((Yu (.part p e e')).map kV))) wy (.tup [.ref nd,.ref pn]) pn=some (.tup ((Yu (.part p e e')).map kV)):=z6 _ _ YB;have ug:upd (upd H4 pn (.tup ((Yu (.part p e e')).map kV))) wy (.tup [.ref nd,.ref pn]) wy=some (.tup [.ref nd,.ref pn]):=YB;show YD2 _ _ _ [some (.ref wd),some (.ref l),some (.ref o),some (.ref t),some (.ref bg),some (nV k),some (.ref nd),some (nV c'),some (.str p),some (nV e),some (nV e'),some (.ref wy)] (upd (upd H4 pn (.tup ((Yu (.part p e e')).map kV))) wy (.tup [.ref nd,.ref pn]));have z56:SP H4 (upd (upd H4 pn (.tup ((Yu (.part p e e')).map kV))) wy (.tup [.ref nd,.ref pn])):=z56;revert z56 uf ug;clear z5 z6;generalize upd (upd H4 pn (.tup ((Yu (.part p e e')).map kV))) wy (.tup [.ref nd,.ref pn])=H5;intro uf ug z56;have s5:=sG4.trans z56;refine⟨_,rfl,_,rfl,o,_,_,_,rfl,rfl,SqL.of (s5 _ _ ho),ao,_,rfl,nd,_,1,_,rfl,rfl,SqT.of (z56 _ _ iV),rfl,_,_,rfl,rfl,_,rfl,_,rfl,bg,nV b,rfl,dgk (z56 _ _ hD4) uQ uR,_,rfl,YH (by show 4≤1000;decide),fun n2 hn2=>?_⟩;have z7:SP H5 (upd H5 n2 (.tup [nV kk,.int ((d:Int) + 1),nV b,nV e'])):=SP.upd hn2;have rP:upd H5 n2 (.tup [nV kk,.int ((d:Int) + 1),nV b,nV e']) n2=some (.tup ((Yu (.beg kk (d + 1) b e')).map kV)):=YB;dsimp only[ZH];revert z7 rP;generalize upd H5 n2 (.tup [nV kk,.int ((d:Int) + 1),nV b,nV e'])=H6;intro z7 rP;have s6:=s5.trans z7;refine⟨_,rfl,_,rfl,wd,dx,_,rfl,s6 _ _ hx0,rfl,_,rfl,wd,n2,g,z,nds,top,Yu (.beg kk (d + 1) b e'),rfl,wa.same s6,rP,fun nd' e1 ql a' H7 g1 g2 g3 g4=>?_,fun hno=>absurd rfl (hno _ hx1)⟩;cases JF e1;obtain⟨bs,hb1,wl1⟩:=g1;have z8:=(z56.trans z7).trans ⟨g3,g4⟩;refine⟨a',wy,bs,(Yi g z.cps.size (inB nds) (.beg kk (d + 1) b e')).map YCX,YCX [.beg kk d b e,.part p e e'],rfl,rfl,.inl (SqL.of hb1),YA4 wl1,.tup (g3 _ _ (z7 _ _ ug)) (.cons (YCT (z8 _ _ iV)) (.cons (YCT (g3 _ _ (z7 _ _ uf))) .nil)),YK6 _,(YHp _).1,_,rfl,?_⟩;have uT:[Nd.beg kk d b e,.part p e e']∈Yi g z.cps.size (inB nds) (.beg kk (d + 1) b e'):=vX;rw[YGt uT];refine ZL ?_;show Inv (d + 1) _ _;rw[qp];exact⟨e',c',v,D4,kv4,k4,s4,h4,n2,_,_,_,_,rfl,hf4,vU,hc4,lU,he4,hv,s6.trans ⟨g3,g4⟩,z8 _ _ hD4,uQ,by omega,vV,uR,vW,g3 _ _ rP,ue⟩
   ·intro σ H3 hi;rw[qp]at hi;obtain⟨e,c,a,D3,kv3,k3,s3,h3,nd,v8,v9,v10,v11,rfl,hf3,rM,hc3,jg,he3,hl3,sG3,hD3,qt,uM,rN,rO,uN,lq,hcont⟩:=hi;rw[YLD]at hf3 uM lq hl3;rw[List.drop_length]at hf3;cases hf3;have ec:c=k + 1 + k1.length:=hc3;have h6:=hok.1;have ee:e=b + s1.length:=he3;refine⟨_,rfl,YH (by show 1≤1000;decide),fun w1 hw1=>?_⟩;have z1':=SP.upd (o:=.tup [.ref nd]) hw1;have vY:upd H3 w1 (.tup [.ref nd]) w1=some (.tup [.ref nd]):=YB;have s4:=sG3.trans z1';refine⟨_,rfl,wd,dx,_,rfl,s4 _ _ hx0,rfl,_,rfl,_,rfl,_,rfl,o,_,_,_,rfl,rfl,SqL.of (s4 _ _ ho),ao,l,_,_,_,rfl,rfl,SqL.of (s4 _ _ hl),ax,tt,_,0,_,rfl,rfl,SqT.of (s4 _ _ htt),rfl,_,rfl,_,rfl,bg,nV b,rfl,dgk (z1' _ _ hD3) qt rO,_,rfl,nd,_,3,_,rfl,rfl,SqT.of (z1' _ _ lq),rfl,YH (by show 3≤1000;decide),fun pn qu=>?_⟩;have z2':SP (upd H3 w1 (.tup [.ref nd])) (upd (upd H3 w1 (.tup [.ref nd])) pn (.tup ((Yu (.part r.1 b e)).map kV))):=SP.upd qu;refine⟨wd,pn,g,z,nds,top,Yu (.part r.1 b e),rfl,wa.same (s4.trans z2').s,YB,fun nd' e1 ql a' H7 g1 g2 g3 g4=>?_,fun hno=>absurd rfl (hno _ (by rw[ee];exact hnd))⟩;cases JF e1;obtain⟨bs,hb1,wl1⟩:=g1;have z8:=z2'.trans ⟨g3,g4⟩;have vZ:[Nd.beg kk r.2.1.length b e]∈Yi g z.cps.size (inB nds) (.part r.1 b e):=by rw[ee];exact hfw
    refine⟨a',w1,bs,(Yi g z.cps.size (inB nds) (.part r.1 b e)).map YCX,YCX [.beg kk r.2.1.length b e],rfl,rfl,.inl (SqL.of hb1),YA4 wl1,.tup (z8 _ _ vY) (.cons (YCT (z8 _ _ (z1' _ _ lq))) .nil),YK6 _,(YHp _).1,?_⟩;rw[YGt vZ];exact q _ kv3 D3 (s4.trans z8) (z8 _ _ (z1' _ _ hD3)) qt (by omega) (hcont D3 (fun _ _=>rfl) (by rw[ec];exact vO.congr fun j hj=>rN j (by omega)))
end
theorem Jn:(["_law_beneath","_law_high"]:List Str).Nodup:=by decide +kernel
theorem For.one {g:YT}{p:Str}{ks cs:List Nat}{m:Nat} (hq:isQ p=false) (f:For g [p] ks cs m):∃r k k1 h1,r.1=p∧g[k]?=some r∧For g r.2.1 k1 cs h1∧ks=k :: k1:=by
 cases f with
 |sign hq' _=>rw[hq]at hq';cases hq'
 |name e hq2 hk f1 f2=>
  cases f2;exact⟨_,_,_,_,e,hk,by rw[YLW];exact f1,by rw[YLW]⟩
theorem YGv {g:YT}{r0:ZW}{rest:YT}{ks cs:List Nat}{hs:Hs}{nds:List Nd} (eg:r0 :: rest=g) (hg:Yv g=true) (st:ZE g cs hs) (hb:Ji g cs hs) (wk:JN g cs.length (inB (hs.map (·.1))) (YB0 g cs.length (hs.map (·.1))) nds) (hq:isQ r0.1=false) (h:JM g [r0.1] ks cs):(∃w t,Xb g ks w t)∧ChW g ks cs nds (YGr (fun _=>none) 0 0) 0∧YB0 g cs.length (hs.map (·.1))=some (.part r0.1 0 cs.length):=by
 obtain⟨m,f⟩:=h.tree;obtain⟨ts,tt,h1,_⟩:=f.rowT .nil;rw[YLW]at h1;refine⟨⟨_,_,h1⟩,?_⟩;obtain⟨r,k,k1,h1,e,hk,f1,rfl⟩:=f.one hq;have hpre:J4 cs 0 cs:=⟨YLN _,[],by rw[YLW];rfl⟩;obtain⟨v,hv,_⟩:=YFb hg st hb hk f1 hpre;have htop:YB0 g cs.length (hs.map (·.1))=some (.part r0.1 0 cs.length):=by
  rw[Nat.zero_add,e]at hv;unfold YB0;rw[←eg];show(if inB (hs.map (·.1)) (.part r0.1 0 cs.length)=true then some (Nd.part r0.1 0 cs.length) else none)=_;rw[if_pos (YB5 hv)]
 refine⟨.node (rest:=[]) rfl (by rw[YLW];rfl) hk (by rw[e];exact hq) f1 hpre (by rw[Nat.zero_add,e];exact wk.tp _ htop) (.done ?_),htop⟩;rw[YLM];omega
inductive YGw (CW:Addr) (vs:List V) (H:Hp) (Q:VK):Prop where
 |mk (wd l o:Addr) (xs:List V) (r0:ZW) (rest g:YT) (z:Str) (ks:List Nat) (hs:Hs) (nds:List Nd) (h0_:vs=[.ref wd,.ref l,.ref o,nV z.cps.toList.length]) (h1_:r0 :: rest=g) (h2_:YBC CW H wd g z nds (YB0 g z.cps.toList.length (hs.map (·.1)))) (h3_:H l=some (.lst xs)) (h4_:Yb H xs (g.map ZS)) (h5_:ZE g z.cps.toList hs) (h6_:Ji g z.cps.toList hs) (h7_:JN g z.cps.toList.length (inB (hs.map (·.1))) (YB0 g z.cps.toList.length (hs.map (·.1))) nds) (h8_:H o=some (.lst (ks.map nV))) (h9_:ks.length≤200) (rA:JM g [r0.1] ks z.cps.toList) (tM:∀H',SP H H'→Q (.bl true) H'):YGw CW vs H Q
def YIr (CW:Addr):Sp:=fun vs H Q E_=>YGw CW vs H Q
inductive YE2 (CW:Addr) (vs:List V) (H:Hp) (Q:VK):Prop where
 |mk (wd ha t:Addr) (g:YT) (z:Str) (hs:Hs) (nds:List Nd) (top:Option Nd) (ob:Obj) (x:Nd) (h0_:vs=[.ref wd,.ref ha,.ref t]) (h1_:YBC CW H wd g z nds top) (h2_:H ha=some (.frz ob (.dT (hsD hs)))) (h3_:H t=some (.tup ((Yu x).map kV))) (h4_:x∈nds) (h5_:ZE g z.cps.toList hs) (h6_:JN g z.cps.toList.length (inB (hs.map (·.1))) top nds) (h7_:YU H) (h8_:∀b ts w H',SP H H'→H' b=some (.tup (ts.map V.ref))→ZM H' ts w→w∈Yi g z.cps.toList.length (inB nds) x→(∀w'∈Yi g z.cps.toList.length (inB nds) x,mxN hs w≤mxN hs w')→Q (.ref b) H'):YE2 CW vs H Q
def YGx (CW:Addr):Sp:=fun vs H Q E_=>YE2 CW vs H Q
section
variable {P:Program}{w:World}{K:W.Frag}{mg:Str→Option Value}{base:Heap}{C:Adr}
theorem Ja:YV ["_law_wood","_law_rules","_law_row_here","_law_size","_law_tree_here","_law_begins","_law_k"] ["_law_wood","_law_rules","_law_row_here","_law_size"] (YJ Xx):=⟨rfl,rfl,rfl,by decide +kernel,rfl,by decide +kernel,by decide +kernel⟩
theorem YD0 {f:Addr}{fd:FuncData} (F:Fun K "_law_row_in" "_law_row_in" Xx f fd) (T:Txt K mg C) (dY:Zq P w K mg CX0 1 "_law_tree" ["_law_rules","_law_row_here"] (YLC)) (cB:Zq P w K mg CX0 3 "_law_rule_in" ["_law_wood","_law_rules","_law_row_here","_law_tree_here","_law_begins","_law_k"] (YGu C.Wood)) (bQ:JT P w K mg CX0 1 C.Wood "top" ["self"] (spTop C.Wood)):Y6 P w K mg base CX0 4 f fd ["_law_wood","_law_rules","_law_row_here","_law_size"] (YIr C.Wood):=by
 obtain⟨sI,rQ,lV,lW,lX,lY⟩:=dY.ok;obtain⟨qw,pF,jh,ji,jj,jk⟩:=cB.ok;obtain⟨mX,lZ,gk,dZ,gm⟩:=bQ.ok;refine F.ok Ja (fun vs H Q E h=>?_) (fun cdv A outer s H vs Q E hr h=>?_)
 ·obtain⟨wd,l,o,xs,r0,rest,g,z,ks,hs,nds,rfl,_⟩:=h;rfl
 ·obtain⟨wd,l,o,xs,r0,rest,g,z,ks,hs,nds,rfl,eg,wa,hl,hds,st,hb,wk,ho,hkl,hrow,q⟩:=h;have hu:=JP hr;have hU:=hr.units;have hg:=wa.gr;have hg0:g[0]?=some r0:=by rw[←eg];rfl
  have hq0:isQ r0.1=false:=X3 (Jg (ZC hg hg0));obtain⟨⟨w0,tr,hrt⟩,hch,htop⟩:=YGv eg hg st hb wk hq0 hrow;refine qex ?_;refine⟨_,(YO ⟨(YK (i:=4) Ja.nd rfl (Or.inl rfl) (YY (lV base) (hr.mono (by decide)) (by rfl) lW lX lY .nil Yg (YA (pv 1) (YA (pv 2) YC))))⟩
   (YO ⟨(YK (i:=5) Ja.nd rfl (Or.inl rfl) (pe_disp (YJ1 YD YD pps_nil) rfl rfl nofun (by simp)))⟩
   (YO ⟨(Y3 (Ye (Je K rfl hU) (YBi (pv 0) T.ak dZ (gk base) (hr.mono (by decide)) gm .nil Yg) (Yy (YA (YM (YS K rfl) (YM (YW K rfl) (pv 1) YD (fun _ _=>rfl)) YD (fun _ _=>rfl)) (YA YD (YA (pv 3) YC)))) (Yf _)) (YG (YX Xc)) Yc)⟩
   (YO ⟨(ZQ PassesOwn.never rfl (Zo rfl T.bA (YA (YR (YQ K rfl) (by rfl) T.aD PyProof.Rows.Boot.«len» (YA (pv 2) YC)) YC)) (Yd (i:=6) Ja.nd rfl (Or.inl rfl)) (YG (Y3 (XF (Xo (YY (jh base) (hr.mono (by decide)) (by rfl) ji jj jk .nil Yg (Y9 (pv 0) (Y9 (pv 1) (Y9 (pv 2) (Y9 (pv 4) (Y9 (pv 5) (Y9 (pv 6) YC))))))))) (YG (YX Xc)) Yc)))⟩
   (JS ⟨(YX Xc)⟩))))),?_⟩
  refine⟨_,rfl,_,rfl,l,o,xs,g,ks,w0,tr,rfl,hl,hds,hg,ho,hrt,hkl,fun ta as G s1 hta has=>?_⟩;dsimp only[ZH];intro bg hbg;refine⟨YB,[(.inl 0,.int 0)],rfl,by decide,?_⟩;have eb:∀kv,upd (upd G bg (.dK [])) bg kv=upd G bg kv:=fun kv=>by funext z;unfold upd;split <;> rfl
  rw[eb];have hD:upd G bg (.dK (YAD [] [(.inl 0,.int 0)])) bg=some (.dK (Y4 [] (.inl 0) (nV 0))):=YB;have s2:SP G (upd G bg (.dK (YAD [] [(.inl 0,.int 0)]))):=SP.upd hbg;show YD2 _ _ _ [some (.ref wd),some (.ref l),some (.ref o),some (nV z.cps.toList.length),some (.ref ta),some (.ref bg),none] (upd G bg (.dK (YAD [] [(.inl 0,.int 0)])));revert hD s2;generalize upd G bg (.dK (YAD [] [(.inl 0,.int 0)]))=H2;intro hD s2;have s12:=s1.trans s2;have wa2:=wa.same s12.s;obtain⟨dx,lw,anw,afw,aew,rvw,xsw,hx0,_⟩:=wa2.ex;obtain⟨tt,pp,ax,htt,hpp⟩:=Zr hds hg0;refine⟨_,rfl,wd,dx,_,rfl,hx0,rfl,wd,g,z,nds,_,rfl,wa2,fun v hv=>?_⟩;rw[htop]at hv;rcases hv with ⟨h0,_⟩ |⟨x,t,hx,rfl,ht⟩
  ·cases h0
  cases hx;refine⟨_,rfl,l,_,0,_,rfl,rfl,SqL.of (s12 _ _ hl),ax,tt,_,0,_,rfl,rfl,SqT.of (s12 _ _ htt),rfl,_,rfl,YH (by show 3≤1000;decide),fun n1 hn1=>?_⟩;have z1:SP H2 (upd H2 n1 (.tup ((Yu (.part r0.1 0 z.cps.toList.length)).map kV))):=SP.upd hn1;refine⟨ndD (.part r0.1 0 z.cps.toList.length),ndD (.part r0.1 0 z.cps.toList.length),YCT (z1 _ _ ht),YCT YB,(YB3 _).1,(YB3 _).1,by rw[(YB3 _).2];decide,_,rfl,?_⟩;rw[YK5,decide_eq_true rfl];refine ZL ?_;have sz:=s12.trans z1;have s2z:=s2.trans z1;refine⟨_,rfl,o,_,rfl,.inl (SqL.of (sz _ _ ho)),(ks.length:Int),by rw[YLD],(YAW (by omega) (by omega)).1,(YAW (by omega) (by omega)).2,?_⟩;refine JA (lo:=0) (n:=((ks.length:Nat):Int).toNat) (fun k σ H9=>∃(kv:List (Key×V)) (D:Nat→Option Nat) (v8:Option V),σ=[some (.ref wd),some (.ref l),some (.ref o),some (nV z.cps.toList.length),some (.ref ta),some (.ref bg),v8]∧SP G H9∧H9 bg=some (.dK kv)∧DOk kv D∧kv.length≤1 + 6 * k∧ChW g ks z.cps.toList nds D k)
   ⟨_,_,none,rfl,s2z,z1 _ _ hD,DOk.put (fun _=>rfl) 0 0,by decide,hch⟩ ?_ ?_
  ·rintro k σ H9 hk ⟨kv,D,v8,rfl,s9,hD9,hDo,hkv,v_⟩;have ek:(0:Int) + (k:Int)=(k:Int):=Int.zero_add _;dsimp only[ZH];rw[ek];refine⟨_,rfl,_,rfl,_,rfl,_,rfl,_,rfl,_,rfl,G,wd,l,o,ta,bg,xs,g,z,ks,hs,nds,_,as,w0,tr,D,kv,k,rfl,wa.same s1.s,s1 _ _ hl,hds.same s1.s,st,hb,wk,s1 _ _ ho,hkl,hta,has,hrt,hbg,s9,hD9,hDo,hkv,v_,by omega,fun H10 kv' D' s10 wg uU uV uW=>⟨_,rfl,ZL ⟨kv',D',_,rfl,s10,wg,uU,uV,uW⟩⟩⟩
  ·rintro σ H9 ⟨kv,D,v8,rfl,s9,_⟩;exact q _ (s1.trans s9)
theorem ZR:YV ["_law_wood","_law_high","_law_node","_law_low","_law_found","_law_way","_law_top"] ["_law_wood","_law_high","_law_node"] (YJ JZ):=⟨rfl,rfl,rfl,by decide +kernel,rfl,by decide +kernel,by decide +kernel⟩
theorem YC0 {f:Addr}{fd:FuncData} (F:Fun K "_law_low_way" "_law_low_way" JZ f fd) (T:Txt K mg C) (aB:JT P w K mg CX0 2 C.Wood "ways" ["self","node"] (YDo C.Wood)):Y6 P w K mg base CX0 3 f fd ["_law_wood","_law_high","_law_node"] (YGx C.Wood):=by
 obtain⟨dN,dm,aG,aC,aH⟩:=aB.ok;refine F.ok ZR (fun vs H Q E h=>?_) (fun cdv A outer s H vs Q E hr h=>?_)
 ·obtain⟨wd,ha,t,g,z,hs,nds,top,ob,x,rfl,_⟩:=h;rfl
 ·obtain⟨wd,ha,t,g,z,hs,nds,top,ob,x,rfl,wa,hha,ht,hx,st,wk,p0,q⟩:=h;have hu:=JP hr;have hU:=hr.units;have hg:=wa.gr;refine qex ?_;refine⟨_,(YO (YFI (i:=3) ZR.nd rfl (Or.inl rfl) qe_non)
   (YO (YFI (i:=4) ZR.nd rfl (Or.inl rfl) (qe_tup YKH))
   (YO ⟨(ZQ PassesOwn.never rfl (JE K rfl (ZZ (pv 0) T.ak aC (aG base) (hr.mono (by decide)) aH .nil Yg (YA (pv 2) YC))) (Yd (i:=5) ZR.nd rfl (Or.inl rfl)) (YF (YK (i:=6) ZR.nd rfl (Or.inl rfl) (pe_maxD K rfl rfl (by rfl) T.uA PyProof.Rows.Boot.«max» (YA (J6 (N:=["_law_beneath","_law_high"]) (ρ:=[none,some 1]) rfl (Yz.closes ["_law_wood","_law_high","_law_node","_law_low","_law_found","_law_way","_law_top"] (YJ JZ).names rfl rfl rfl rfl (by decide +kernel) (by decide +kernel) (fun x h=>X0 h) (by decide +kernel) rfl (by decide +kernel)) (Xf K rfl (pv 5)) (fun _ _ _ _ _=>(Yd (i:=0) Jn rfl (Or.inl rfl) (.inr rfl))) (fun _ _ _ _ _=>Jp) (fun _ _ _ _ _=>(YDO hu (pv 1) (pv 0) YD ⟨rfl,rfl,rfl,rfl⟩))) YC) (pk_cons YD pk_nil)))
   (YG (Y3 (PW.pt (YHs (Ye op_isN (pv 3) YBL (Yf _)) (YG0 (Ye YBg (pv 6) (pv 3) (Yf _))))) (YF (YK (i:=3) ZR.nd rfl (Or.inl rfl) (pv 6))
   (YG (YK (i:=4) ZR.nd rfl (Or.inl rfl) (pv 5)))) Yc))))⟩
   (JS ⟨(YX (pv 4))⟩)))),?_⟩
  refine⟨YLN _,fun et het=>?_⟩;have z0:SP H (upd H et (.tup [])):=SP.upd het;dsimp only[ZH];show YD2 _ _ _ [some (.ref wd),some (.ref ha),some (.ref t),some .non,some (.ref et),none,none] (upd H et (.tup []));revert z0;generalize upd H et (.tup [])=H1;intro z0;have wa1:=wa.same z0.s;obtain⟨dx,lw,anw,afw,aew,rvw,xsw,hx0,_⟩:=wa1.ex;refine⟨_,rfl,wd,dx,_,rfl,hx0,rfl,_,rfl,wd,t,g,z,nds,top,Yu x,rfl,wa1,z0 _ _ ht,fun nd e ql a H2 g1 g2 g3 g4=>?_,fun hno=>absurd rfl (hno _ hx)⟩;cases JF e;obtain⟨bs,hb1,wl1⟩:=g1;have z2:=z0.trans ⟨g3,g4⟩;have ht2:=z2 _ _ ht;have hne:=YIp hg st wk hx;obtain⟨ws,ews⟩:∃ws,Yi g z.cps.size (inB nds) x=ws:=⟨_,rfl⟩;have ews2:Yi g z.cps.toList.length (inB nds) x=ws:=ews;rw[ews]at wl1;rw[ews2]at q hne;have hbl:=wl1.1;refine⟨a,rfl,⟨_,SqL.of hb1⟩,?_⟩;refine XH (K:=K) (a:=a) (xs:=bs.map V.ref) (fun i σ H3=>∃(vl vf v5 v6:Option V),σ=[some (.ref wd),some (.ref ha),some (.ref t),vl,vf,v5,v6]∧SP H2 H3∧((i=0∧vl=some .non)∨∃(j:Nat) (b:Addr) (w:List Nd),bs[j]?=some b∧ws[j]?=some w∧vl=some (nV (mxN hs w))∧vf=some (.ref b)∧∀i' w',i' < i→ws[i']?=some w'→mxN hs w≤mxN hs w'))
   ⟨_,_,_,_,rfl,SP.refl _,.inl ⟨rfl,rfl⟩⟩ ?_ ?_ ?_
  ·rintro i σ H3 _ ⟨vl,vf,v5,v6,rfl,s3,_⟩;exact SqL.of (s3 _ _ hb1)
  ·rintro i y σ H3 hi ⟨vl,vf,v5,v6,rfl,s3,hst⟩;rw[YLI]at hi;obtain⟨b,eb,rfl⟩:=Option.map_eq_some_iff.mp hi;have hil:=(List.getElem?_eq_some_iff.mp eb).1;obtain⟨w,ew⟩:∃w,ws[i]?=some w:=⟨_,YLF (by omega)⟩;obtain⟨ts,hb,hts⟩:=wl1.2 i b w eb ew;have hw2:w.length≤2:=by
    cases YHq hg st wk hx (by rw[ews2];exact YLH ew) <;> simp
   have hJ:YFG (Itt K b) w.length H3 (fun i x _=>(ts.map V.ref)[i]?=some x):=by
    have:=(X2 (K:=K) (SqT.of (s3 _ _ hb))).g;rw[YLD,hts.1]at this;exact this
   have s03:=z2.trans s3;dsimp only[ZH];refine⟨_,rfl,b,rfl,⟨_,SqT.of (s3 _ _ hb)⟩,fun lb hlb=>?_⟩;refine YC7 w (fun y=>some (nV (hN hs y))) hJ (s03.plain p0) hlb (YH (by omega)) (fun τ'=>∃v,τ'=[v,some (.ref ha)]) ⟨_,rfl⟩ ?_ ?_
   ·rintro τ' k d x' H4 Q1 Q2 ⟨v,rfl⟩ hd hit s4 p4 hQ1 hQ2;rw[YLI]at hit;obtain⟨td,etd,rfl⟩:=Option.map_eq_some_iff.mp hit;have htd:=s4 _ _ (s3 _ _ (hts.2 k td d etd hd));have hdn:d∈nds:=by
     refine of_decide_eq_true (YDj (F:=inB nds) (n:=z.cps.toList.length) (g:=g) (x:=x) (w:=w) ?_ (YLH hd));rw[ews2];exact YLH ew
    obtain⟨vd,hvd⟩:=Xm wk hdn;have ehd:hN hs d=vd:=by unfold hN;rw[hvd];rfl
    have uX:=s4 _ _ (s03 _ _ hha);exact⟨_,rfl,ha,rfl,.inr ⟨_,.inr ⟨ob,uX⟩⟩,_,rfl,some (nV vd),.inr ⟨hsD hs,Yu d,td,.inr ⟨ob,uX⟩,rfl,htd,by rw[YA2,hvd];rfl⟩,hQ1 _ _ _ ⟨_,rfl⟩ (YI.refl _) p4 (by rw[ehd];rfl)⟩
   intro H4 s4 p4 h4;have e4:(w.filterMap fun y=>some (nV (hN hs y)))=(w.map fun y=>(hN hs y:Int)).map V.int:=by
    rw[List.map_map,←List.filterMap_eq_map];rfl
   rw[e4]at h4;have sp4:SP H3 H4:=⟨s4,Ys.of p4⟩;have s24:=s3.trans sp4;refine⟨lb,_,.int 0,rfl,rfl,SqL.of h4,fun e=>?_,fun m hm hle=>?_⟩
   ·cases List.map_eq_nil_iff.mp e;have em:(0:Int)=((mxN hs []:Nat):Int):=rfl;rw[em];dsimp only[ZH];rcases hst with ⟨h0,rfl⟩ |⟨j,b',w',eb',ew',rfl,rfl,hlo⟩
    ·refine⟨_,rfl,rfl,_,rfl,?_⟩;rw[decide_eq_true (show V.non=V.non from rfl)];refine Ze (Ze ⟨_,rfl,_,rfl,_,_,_,_,rfl,s24,.inr ⟨i,b,[],eb,ew,rfl,rfl,fun i' w2 hi' e'=>?_⟩⟩);have:i'=i:=by omega
     subst this;rw[ew]at e';cases e';exact YLG _
    ·refine⟨_,rfl,rfl,_,rfl,?_⟩;rw[decide_eq_false (show ¬nV (mxN hs w')=V.non from fun h=>by cases h)];refine ZL ⟨_,rfl,_,rfl,_,_,rfl,rfl,_,rfl,?_⟩;refine YBA (fun hlt=>?_) fun hlt=>?_
     ·have hlt:=of_decide_eq_true hlt;refine⟨_,rfl,_,rfl,_,_,_,_,rfl,s24,.inr ⟨i,b,[],eb,ew,rfl,rfl,fun i' w2 hi' e'=>?_⟩⟩
      by_cases hii:i'=i
      ·subst hii;rw[ew]at e';cases e';exact YLG _
      ·have:=hlo i' w2 (by omega) e';omega
     ·have hlt:=Int.not_lt.mp fun z=>hlt (decide_eq_true z)
      refine⟨_,_,_,_,rfl,s24,.inr ⟨j,b',w',eb',ew',rfl,rfl,fun i' w2 hi' e'=>?_⟩⟩
      by_cases hii:i'=i
      ·subst hii;rw[ew]at e';cases e';omega
      ·exact hlo i' w2 (by omega) e'
   ·obtain⟨y,hy,ey⟩:=List.mem_map.mp hm;have em:m=((mxN hs w:Nat):Int):=by
     have h1:mxN hs w≤hN hs y:=mx_le fun y' hy'=>by
      have:=hle _ (List.mem_map.mpr ⟨y',hy',rfl⟩);omega
     have h2:=YDz (hs:=hs) hy;omega
    rw[em];dsimp only[ZH];rcases hst with ⟨h0,rfl⟩ |⟨j,b',w',eb',ew',rfl,rfl,hlo⟩
    ·refine⟨_,rfl,rfl,_,rfl,?_⟩;rw[decide_eq_true (show V.non=V.non from rfl)];refine Ze (Ze ⟨_,rfl,_,rfl,_,_,_,_,rfl,s24,.inr ⟨i,b,w,eb,ew,rfl,rfl,fun i' w2 hi' e'=>?_⟩⟩);have:i'=i:=by omega
     subst this;rw[ew]at e';cases e';exact YLG _
    ·refine⟨_,rfl,rfl,_,rfl,?_⟩;rw[decide_eq_false (show ¬nV (mxN hs w')=V.non from fun h=>by cases h)];refine ZL ⟨_,rfl,_,rfl,_,_,rfl,rfl,_,rfl,?_⟩;refine YBA (fun hlt=>?_) fun hlt=>?_
     ·have hlt:=of_decide_eq_true hlt;refine⟨_,rfl,_,rfl,_,_,_,_,rfl,s24,.inr ⟨i,b,w,eb,ew,rfl,rfl,fun i' w2 hi' e'=>?_⟩⟩
      by_cases hii:i'=i
      ·subst hii;rw[ew]at e';cases e';exact YLG _
      ·have:=hlo i' w2 (by omega) e';omega
     ·have hlt:=Int.not_lt.mp fun z=>hlt (decide_eq_true z)
      refine⟨_,_,_,_,rfl,s24,.inr ⟨j,b',w',eb',ew',rfl,rfl,fun i' w2 hi' e'=>?_⟩⟩
      by_cases hii:i'=i
      ·subst hii;rw[ew]at e';cases e';omega
      ·exact hlo i' w2 (by omega) e'
  ·rintro σ H3 ⟨vl,vf,v5,v6,rfl,s3,hst⟩;rcases hst with ⟨h0,_⟩ |⟨j,b,w,eb,ew,rfl,rfl,hlo⟩
   ·rw[YLD]at h0;exact absurd (List.length_eq_zero_iff.mp (by omega)) hne
   ·obtain⟨ts,hb,hts⟩:=wl1.2 j b w eb ew;refine⟨_,rfl,q b ts w H3 (z2.trans s3) (s3 _ _ hb) (hts.keep fun c ys e=>s3 _ _ e) (YLH ew) fun w' hw'=>?_⟩;obtain⟨i',hi'⟩:=List.getElem?_of_mem hw';have:=(List.getElem?_eq_some_iff.mp hi').1;exact hlo i' w' (by rw[YLD];omega) hi'
end
theorem YIs (nm:List Str) (hs:Hs) (w:List Nd):muS nm hs w.reverse=muS nm hs w:=by
 induction w with
 |nil=>rfl
 |cons x w ih=>
  rw[YLg,YDD,ih];unfold muS;rw[YLS,YLS,List.sum_cons,List.sum_cons];show _ + (_ + 0)=_;omega
theorem YIt (nm:List Str) (hs:Hs) (x:Nd):muS nm hs [x]=muN nm hs x:=by
 unfold muS;rw[YLS,List.sum_cons];rfl
theorem YIu {H:Hp}:∀{w:List Nd}{ts:List Addr},ZM H ts w→ZM H ts.reverse w.reverse
 |[],[],h=>h
 |[],_ :: _,h=>nomatch h.1
 |_ :: _,[],h=>nomatch h.1
 |x :: w,t :: ts,h=>by
  rw[YLg,YLg];exact(YIu ⟨Nat.succ.inj h.1,fun i a b e1 e2=>h.2 (i + 1) a b e1 e2⟩).snoc (h.2 0 t x rfl rfl)
theorem YGy {α:Type} (f:α→D) (bs:List α):eqD (.lst (bs.map f)) (.lst [])=decide (bs=[]):=by
 cases bs with
 |nil=>rfl
 |cons b bs=>rfl
theorem own_len (x:Nd):(ownN x).length≤1:=by
 cases x with
 |part p i j=>exact YLN _
 |beg k d i j=>cases d <;> (unfold ownN;simp)
inductive YGz (CW:Addr) (vs:List V) (H:Hp) (Q:VK):Prop where
 |mk (wd ha ca:Addr) (r0:ZW) (g:YT) (z:Str) (hs:Hs) (nds:List Nd) (top:Option Nd) (ob:Obj) (ns:List Int) (nm:List Str) (h0_:vs=[.ref wd,.ref ha,.ref ca]) (h1_:YBC CW H wd g z nds top) (h2_:top=some (.part r0.1 0 z.cps.toList.length)) (h3_:H ha=some (.frz ob (.dT (hsD hs)))) (h4_:ZE g z.cps.toList hs) (h5_:JN g z.cps.toList.length (inB (hs.map (·.1))) top nds) (h6_:H ca=some (.lst (ns.map V.int))) (h7_:ns.length≤30) (h8_:z.cps.toList.length≤8) (h9_:nm.length≤4) (rA:(∀r∈g,r.1∈nm)) (tM:YU H) (vN:∀o ks H',SP H H'→H' o=some (.lst (ks.map nV))→ks.length≤1780000→JM g [r0.1] ks z.cps.toList→Q (.ref o) H'):YGz CW vs H Q
def YIv (CW:Addr):Sp:=fun vs H Q E_=>YGz CW vs H Q
section
variable {P:Program}{w:World}{K:W.Frag}{mg:Str→Option Value}{base:Heap}{C:Adr}
theorem ZG:YV ["_law_wood","_law_high","_law_cells","_law_waiting","_law_row_here","_law_used","_law_node","_law_ways","_law_way"] ["_law_wood","_law_high","_law_cells"] (YJ Xy):=⟨rfl,rfl,rfl,by decide +kernel,rfl,by decide +kernel,by decide +kernel⟩
theorem YD1 {f:Addr}{fd:FuncData} (F:Fun K "_law_row_of" "_law_row_of" Xy f fd) (T:Txt K mg C) (cC:Zq P w K mg CX0 3 "_law_low_way" ["_law_wood","_law_high","_law_node"] (YGx C.Wood)) (bQ:JT P w K mg CX0 1 C.Wood "top" ["self"] (spTop C.Wood)) (aB:JT P w K mg CX0 2 C.Wood "ways" ["self","node"] (YDo C.Wood)):Y6 P w K mg base CX0 4 f fd ["_law_wood","_law_high","_law_cells"] (YIv C.Wood):=by
 obtain⟨qx,pG,jl,jm,jn,jo⟩:=cC.ok;obtain⟨mX,lZ,gk,dZ,gm⟩:=bQ.ok;obtain⟨dN,dm,aG,aC,aH⟩:=aB.ok;refine F.ok ZG (fun vs H Q E h=>?_) (fun cdv A outer s H vs Q E hr h=>?_)
 ·obtain⟨wd,ha,ca,r0,g,z,hs,nds,top,ob,ns,nm,rfl,_⟩:=h;rfl
 ·obtain⟨wd,ha,ca,r0,g,z,hs,nds,top,ob,ns,nm,rfl,wa,rfl,hha,st,wk,hca,wW,hz8,h4,hnm,p0,q⟩:=h;have hu:=JP hr;have hU:=hr.units;have hg:=wa.gr;refine qex ?_;refine⟨_,(YO ⟨(YK (i:=3) ZG.nd rfl (Or.inl rfl) (Y0 (YA (YBi (pv 0) T.ak dZ (gk base) (hr.mono (by decide)) gm .nil Yg) YC)))⟩
   (YO (YFI (i:=4) ZG.nd rfl (Or.inl rfl) (qe_lst YKH))
   (YO (YFI (i:=5) ZG.nd rfl (Or.inl rfl) qe_int)
   (YO ⟨(Xz PassesOwn.never (Ye (Je K rfl hU) (pv 3) (Y0 YC) (Yf _)) (YF (YK (i:=6) ZG.nd rfl (Or.inl rfl) (Xg K rfl PySem.F.plainAttrs_list PySem.F.slot_list_pop PySem.F.type_list_pop YCC (pv 3)))
   (YF (Y3 (PW.pt (YB7 (Ye Jq (YR (YQ K rfl) (by rfl) T.aD PyProof.Rows.Boot.«len» (YA (pv 6) YC)) YD (Yf _)) (YC3 (Ye (YAE K rfl hU) (YM (YS K rfl) (pv 6) YD (fun _ _=>rfl)) YD (Yf _))))) (YG (Yk (ZV K rfl PySem.F.plainAttrs_list PySem.F.slot_list_append PySem.F.type_list_append Yl (pv 4) (YA (YM (YS K rfl) (pv 6) YD (fun _ _=>rfl)) YC)))) Yc)
   (YF (YK (i:=7) ZG.nd rfl (Or.inl rfl) (ZZ (pv 0) T.ak aC (aG base) (hr.mono (by decide)) aH .nil Yg (YA (pv 6) YC)))
   (YF (Y3 (Ye (YAE K rfl hU) (pv 7) (Y0 YC) (Yf _)) (YG (YX (Y0 YC))) Yc)
   (YF (Y3 (Ye YBg (pv 5) (YR (YQ K rfl) (by rfl) T.aD PyProof.Rows.Boot.«len» (YA (pv 2) YC)) (Yf _)) (YF (YK (i:=8) ZG.nd rfl (Or.inl rfl) (YM (YW K rfl) (pv 7) (YN ZK (YM (YW K rfl) (pv 2) (pv 5) (fun _ _=>rfl)) (YR (YQ K rfl) (by rfl) T.aD PyProof.Rows.Boot.«len» (YA (pv 7) YC))) (fun _ _=>rfl)))
   (YG (YK (i:=5) ZG.nd rfl (Or.inl rfl) (YN Yp (pv 5) YD)))) (YG (YK (i:=8) ZG.nd rfl (Or.inl rfl) (YY (jl base) (hr.mono (by decide)) (by rfl) jm jn jo .nil Yg (YA (pv 0) (YA (pv 1) (YA (pv 6) YC)))))))
   (YG (Yk (ZV K rfl PySem.F.plainAttrs_list PySem.F.slot_list_extend PySem.F.type_list_extend YI7 (pv 3) (YA (YFM K rfl rfl rfl T.eQ rfl T.cT (YA (pv 8) YC)) YC))))))))))⟩
   (JS ⟨(YX (pv 4))⟩))))),?_⟩
  obtain⟨dx,lw0,anw,afw,aew,rvw,xsw,hx0,_⟩:=wa.ex;have hxt:Nd.part r0.1 0 z.cps.toList.length∈nds:=wk.tp _ rfl;refine⟨_,rfl,wd,dx,_,rfl,hx0,rfl,wd,g,z,nds,_,rfl,wa,fun v hv=>?_⟩;rcases hv with ⟨h0,_⟩ |⟨x0,t0,hx,rfl,ht0⟩
  ·cases h0
  cases hx;refine⟨YH (by show 1≤1000;decide),fun lw hlw=>⟨YLN _,fun lr hlr=>?_⟩⟩;have s1:SP H (upd H lw (.lst [.ref t0])):=SP.upd hlw;have s2:SP (upd H lw (.lst [.ref t0])) (upd (upd H lw (.lst [.ref t0])) lr (.lst [])):=SP.upd hlr;have n1:lr≠lw:=fun e=>by rw[e,YB]at hlr;cases hlr
  have rH:H lr=none:=s1.free hlr;have w2:upd (upd H lw (.lst [.ref t0])) lr (.lst []) lw=some (.lst ([t0].map V.ref)):=s2 _ _ YB;have r2:upd (upd H lw (.lst [.ref t0])) lr (.lst []) lr=some (.lst (([]:List Nat).map nV)):=YB;have s02:=s1.trans s2;revert w2 r2 s02;generalize upd (upd H lw (.lst [.ref t0])) lr (.lst [])=H2;intro w2 r2 s02;obtain⟨cs,ecs⟩:∃cs,z.cps.toList=cs:=⟨_,rfl⟩;have hmt:=mu_top (nm:=nm) (hs:=hs) (p:=r0.1) hz8 h4;refine⟨fun μ σ H3=>∃(ts:List Addr) (ws:List Nd) (ro:List Nat) (us:Nat) (v6 v7 v8:Option V),σ=[some (.ref wd),some (.ref ha),some (.ref ca),some (.ref lw),some (.ref lr),some (nV us),v6,v7,v8]∧H3 lw=some (.lst (ts.map V.ref))∧ZM H3 ts ws∧(∀x∈ws,x∈nds)∧H3 lr=some (.lst (ro.map nV))∧(∀ks',YEM g z.cps.toList ws.reverse ks'→YEM g z.cps.toList [.part r0.1 0 z.cps.toList.length] (ro ++ ks'))∧us≤ns.length∧ro.length + (muS nm hs ws + 40000 * (ns.length - us))≤1780000∧μ=muS nm hs ws + 40000 * (ns.length - us)∧SP H H3,
   ⟨_,[t0],[.part r0.1 0 z.cps.toList.length],[],0,none,none,none,rfl,w2,ZM.snoc (ts:=[]) (ns:=[]) ⟨rfl,fun i t x e=>nomatch e⟩ (s02 _ _ ht0),fun x hx=>by rw[List.mem_singleton.mp hx];exact hxt,r2,fun ks' h=>h,YLN _,by rw[YIt];show 0 + _≤_;omega,rfl,s02⟩,?_⟩
  rintro μ σ H3 ⟨ts,ws,ro,us,v6,v7,v8,rfl,w3,hnd,hin,r3,hcont,hus,hlen,hμ,s3⟩;refine⟨_,rfl,YLN _,fun le2 t_=>?_⟩;have s4:SP H3 (upd H3 le2 (.lst [])):=SP.upd t_;refine⟨_,_,.lst (.inl (s4 _ _ w3)) (YDq (hnd.keep fun c ys e=>s4 _ _ e)),.lst (.inl YB) .nil,(YKu _).1,rfl,(YKu _).2,_,rfl,?_⟩;rw[YGy];have w4:=s4 _ _ w3;have r4:=s4 _ _ r3;have iV:ZM (upd H3 le2 (.lst [])) ts ws:=hnd.keep fun c ys e=>s4 _ _ e
  have s04:=s3.trans s4;revert w4 r4 iV s04;generalize upd H3 le2 (.lst [])=H4;intro w4 r4 iV s04;clear hnd w3 r3 s3 s4;rcases List.eq_nil_or_concat ws with rfl |⟨ws',x,hws⟩
  ·rw[decide_eq_true rfl];have:=hcont [] .nil;rw[YLW]at this;exact ZL ⟨_,rfl,q lr ro H4 s04 r4 (by omega) (YK8 this)⟩
  rw[List.concat_eq_append]at hws;subst hws;rcases List.eq_nil_or_concat ts with rfl |⟨ts',t,hts⟩
  ·have:=iV.1;rw[YLE]at this;exact absurd this (by simp)
  rw[List.concat_eq_append]at hts;subst hts;rw[decide_eq_false (by simp)];refine Ze ⟨_,fun _ _ h=>h,?_⟩;have elast:((ts' ++ [t]).map V.ref)[((ts' ++ [t]).map V.ref).length - 1]?=some (.ref t):=by
   rw[YLK,YLE];show(_ ++ [V.ref t])[_ + 1 - 1]?=_;rw[Nat.add_sub_cancel,YLV (YLG _),Nat.sub_self];rfl
  have edrop:((ts' ++ [t]).map V.ref).dropLast=ts'.map V.ref:=by rw[YLK];exact List.dropLast_concat
  refine⟨_,rfl,.inl ⟨rfl,_,SqL.of w4⟩,lw,_,_,rfl,rfl,w4,elast,?_⟩;rw[edrop];have kt:∀c ys,H4 c=some (.tup ys)→upd H4 lw (.lst (ts'.map V.ref)) c=some (.tup ys):=fun c ys e=>by rw[YE (fun z=>by rw[z,w4]at e;cases e)];exact e
  have s05:SP H (upd H4 lw (.lst (ts'.map V.ref))):=s04.put hlw;have w5:upd H4 lw (.lst (ts'.map V.ref)) lw=some (.lst (ts'.map V.ref)):=YB;have r5:upd H4 lw (.lst (ts'.map V.ref)) lr=some (.lst (ro.map nV)):=by rw[YE n1];exact r4
  have rR:ZM (upd H4 lw (.lst (ts'.map V.ref))) (ts' ++ [t]) (ws' ++ [x]):=iV.keep kt;revert s05 w5 r5 rR;generalize upd H4 lw (.lst (ts'.map V.ref))=H5;intro s05 w5 r5 rR;clear kt iV r4 w4 s04;obtain⟨uh,ht5⟩:=rR.pop;clear rR;have hxn:=hin x (YLO _ YLP);have hmx:=YHr nm hs x;rw[YDD,YIt]at hlen hμ;rw[List.reverse_append]at hcont;dsimp only[ZH];refine X5 (t:=tIfS _ _ _) (fun σ' H6=>σ'=[some (.ref wd),some (.ref ha),some (.ref ca),some (.ref lw),some (.ref lr),some (nV us),some (.ref t),v7,v8]∧H6 lw=some (.lst (ts'.map V.ref))∧ZM H6 ts' ws'∧H6 t=some (.tup ((Yu x).map kV))∧H6 lr=some (.lst ((ro ++ ownN x).map nV))∧SP H H6) ?_ fun rest'=>?_
  case refine_2=>
   cases x with
   |part p i j=>
    have qy:H5 t=some (.tup [.str p,nV i,nV j]):=ht5;refine⟨_,rfl,t,_,rfl,.inr (SqT.of qy),rfl,_,rfl,ZL (ZL ?_)⟩;exact rest' _ _ ⟨rfl,w5,uh,ht5,by show H5 lr=some (.lst ((ro ++ []).map nV));rw[YLW];exact r5,s05⟩
   |beg k d i j=>
    have qy:H5 t=some (.tup [nV k,nV d,nV i,nV j]):=ht5;refine⟨_,rfl,t,_,rfl,.inr (SqT.of qy),rfl,_,rfl,Ze ?_⟩;refine⟨_,rfl,t,_,1,_,rfl,rfl,SqT.of qy,rfl,.int (d:Int),.int 0,.int _,.int _,rfl,rfl,by show 0≤64;decide,_,rfl,?_⟩;cases d with
    |zero=>
     refine Ze ?_;have ksz:(ro.map nV).length < sizeLine:=by rw[YLD,sizeLine_eq];omega
     refine⟨_,rfl,.inl ⟨rfl,_,SqL.of r5⟩,_,rfl,t,_,0,_,rfl,rfl,SqT.of qy,rfl,lr,_,_,rfl,rfl,r5,ksz,?_⟩;have kt:∀c ys,H5 c=some (.tup ys)→upd H5 lr (.lst (ro.map nV ++ [nV k])) c=some (.tup ys):=fun c ys e=>by rw[YE (fun z=>by rw[z,r5]at e;cases e)];exact e
     exact rest' _ _ ⟨rfl,by rw[YE n1.symm];exact w5,uh.keep kt,kt _ _ ht5,by rw[YLK];exact YB,s05.put rH⟩
    |succ d=>
     have e0:eqD (.int ((d + 1:Nat):Int)) (.int 0)=false:=by
      unfold eqD;exact beq_eq_false_iff_ne.mpr (by omega)
     rw[e0];refine ZL ?_;exact rest' _ _ ⟨rfl,w5,uh,ht5,by show H5 lr=some (.lst ((ro ++ []).map nV));rw[YLW];exact r5,s05⟩
  case refine_1=>
   rintro σ' H6 ⟨rfl,w6,uY,ht6,r6,s06⟩;refine⟨_,rfl,wd,dx,_,rfl,s06 _ _ hx0,rfl,_,rfl,wd,t,g,z,nds,_,Yu x,rfl,wa.same s06.s,ht6,fun nd e ql a H7 g1 g2 g3 g4=>?_,fun hno=>absurd rfl (hno _ hxn)⟩;cases JF e;have hne:Yi g z.cps.size (inB nds) x≠[]:=YIp hg st wk hxn;have z7:SP H6 H7:=⟨g3,g4⟩;dsimp only[ZH];refine⟨_,rfl,YLN _,fun le hle=>?_⟩;have z8:SP H7 (upd H7 le (.lst [])):=SP.upd hle;refine⟨X7 _,.lst [],(YDr g1).same z8.s,.lst (.inl YB) .nil,(YIc _).1,rfl,(YIc _).2,_,rfl,?_⟩;rw[show eqD (X7 (Yi g z.cps.size (inB nds) x)) (.lst [])=decide (Yi g z.cps.size (inB nds) x=[]) from YGy _ _,decide_eq_false hne];refine ZL ?_;obtain⟨bs,hb1,wl1⟩:=g1;obtain⟨vws,ews⟩:∃ws,Yi g z.cps.size (inB nds) x=ws:=⟨_,rfl⟩;have ews2:Yi g z.cps.toList.length (inB nds) x=vws:=ews;rw[ews]at wl1 hne;have hb8:=z8 _ _ hb1;have wl8:Jx (upd H7 le (.lst [])) bs vws:=wl1.keep fun c ys e=>z8 _ _ e
   have s68:=z7.trans z8;revert hb8 wl8 s68;generalize upd H7 le (.lst [])=H8;intro hb8 wl8 s68;clear z7 z8 hb1 wl1 g2 g3 g4;have s08:=s06.trans s68;unfold tNext;dsimp only;refine X5 (t:=tIfS _ _ _) (fun σ' H9=>∃(us':Nat) (b:Addr) (tw:List Addr) (w:List Nd),σ'=[some (.ref wd),some (.ref ha),some (.ref ca),some (.ref lw),some (.ref lr),some (nV us'),some (.ref t),some (.ref a),some (.ref b)]∧H9 b=some (.tup (tw.map V.ref))∧ZM H9 tw w∧w∈vws∧us'≤ns.length∧1 + muS nm hs w + 40000 * (ns.length - us')≤muN nm hs x + 40000 * (ns.length - us)∧SP H8 H9) ?_ fun rest2=>?_
   case refine_2=>
    have hc8:=s08 _ _ hca;refine⟨_,rfl,_,rfl,ca,_,rfl,.inl (SqL.of hc8),_,_,rfl,rfl,_,rfl,?_⟩;rw[YLD]
    by_cases hlt:us < ns.length
    ·rw[decide_eq_true (show(us:Int) < (ns.length:Int) by omega)];refine Ze ?_;have hbl:=wl8.1;have hvl:0 < vws.length:=List.length_pos_iff.mpr hne;have ac:atI (ns.map V.int) (us:Int)=some (.int ns[us]):=ZT (by rw[YLI,YLF hlt];rfl);have sqb:SqL K H8 a (bs.map V.ref):=SqL.of hb8;obtain⟨m,em,hm⟩:∃m:Nat,ns[us] % ((bs.map V.ref).length:Nat)=(m:Int)∧m < bs.length:=by
      have h1:=Int.emod_nonneg ns[us] (b:=((bs.map V.ref).length:Nat)) (by rw[YLD];omega);have h2:=Int.emod_lt_of_pos ns[us] (b:=((bs.map V.ref).length:Nat)) (by rw[YLD];omega);rw[YLD]at h1 h2 ⊢;exact⟨(ns[us] % (bs.length:Nat)).toNat,by omega,by omega⟩
     have eb:bs[m]?=some bs[m]:=YLF hm;have ew:vws[m]?=some (vws[m]'(by omega)):=YLF (by omega);obtain⟨tw,htw,hnw⟩:=wl8.2 m _ _ eb ew;have hwm:=YLH ew;have am:atI (bs.map V.ref) (ns[us] % ((bs.map V.ref).length:Nat))=some (.ref bs[m]):=by rw[em];exact ZT (by rw[YLI,eb];rfl)
     refine⟨_,rfl,_,rfl,_,rfl,ca,_,_,_,rfl,rfl,SqL.of hc8,ac,_,rfl,a,_,rfl,.inl sqb,_,_,rfl,rfl,by rw[YLD];show(0:Int) < _;omega,a,_,_,_,rfl,rfl,sqb,am,?_⟩;refine⟨_,rfl,_,_,rfl,rfl,?_⟩;have hmw:=(YLB hg st wk hnm h4 hxn (by rw[ews2];exact hwm)).1;exact rest2 _ _ ⟨us + 1,bs[m],tw,_,rfl,htw,hnw,hwm,by omega,by omega,SP.refl _⟩
    ·rw[decide_eq_false (show ¬(us:Int) < (ns.length:Int) by omega)];refine ZL ?_;refine⟨_,rfl,_,rfl,_,rfl,wd,ha,t,g,z,hs,nds,_,ob,x,rfl,wa.same s08.s,s08 _ _ hha,s68 _ _ ht6,hxn,st,wk,s08.plain p0,fun b tw w H9 s9 hb9 hn9 hw9 hl9=>?_⟩;have hmw:=(YLB hg st wk hnm h4 hxn hw9).2 hl9;rw[ews2]at hw9;exact rest2 _ _ ⟨us,b,tw,w,rfl,hb9,hn9,hw9,hus,by omega,s9⟩
   case refine_1=>
    rintro σ' H9 ⟨us',b,tw,w,rfl,hb9,hn9,hw9,wu,hm9,s9⟩;have hwy:=YHq hg st wk hxn (by rw[ews2];exact hw9);have s69:=s68.trans s9;have w9:=s69 _ _ w6;refine⟨_,rfl,.inl ⟨rfl,_,SqL.of w9⟩,_,rfl,b,_,rfl,SqT.of hb9,fun lv hlv=>?_⟩;have zv:SP H9 (upd H9 lv (.lst (tw.map V.ref).reverse)):=SP.upd hlv;have l1:=YFd nm hs ws';have l2:=YFd nm hs w;have l3:=uY.1;have l4:=hn9.1;have l5:=own_len x;refine⟨lw,lv,_,_,rfl,rfl,zv _ _ w9,YB,by rw[YLa,YLD,YLD,sizeLine_eq];omega,?_⟩;have s6v:=s69.trans zv;have kt:∀c ys,upd H9 lv (.lst (tw.map V.ref).reverse) c=some (.tup ys)→upd (upd H9 lv (.lst (tw.map V.ref).reverse)) lw (.lst (ts'.map V.ref ++ (tw.map V.ref).reverse)) c=some (.tup ys):=fun c ys e=>by rw[YE (fun z=>by rw[z,zv _ _ w9]at e;cases e)];exact e
    refine⟨_,?_,ts' ++ tw.reverse,ws' ++ w.reverse,ro ++ ownN x,us',_,_,_,rfl,by rw[YLK,List.map_reverse];exact YB,(ndsApp (uY.keep fun c ys e=>s6v _ _ e) ((YIu hn9).keep fun c ys e=>zv _ _ e)).keep kt,fun y hy=>?_,by rw[YE n1];exact s6v _ _ r6,fun ks' h=>?_,wu,?_,rfl,(s06.trans s6v).put hlw⟩
    ·rw[hμ,YDD,YIs];omega
    ·rcases List.mem_append.mp hy with hy |hy
     ·exact hin y (YLU _ hy)
     ·refine of_decide_eq_true (YDj (F:=inB nds) (n:=z.cps.toList.length) (g:=g) (x:=x) (w:=w) ?_ (List.mem_reverse.mp hy));rw[ews2];exact hw9
    ·rw[List.reverse_append,List.reverse_reverse]at h;have:=hcont _ (YJd hg hwy h);rw[YLQ];exact this
    ·rw[YDD,YIs,YLE];omega
end
theorem cut_30 (ns:List Int):∃cs:List Int,YCB (ns.map V.int) (some 11) (some 41)=cs.map V.int∧cs.length≤30:=by
 obtain⟨cs,e,_⟩:=YFy ns (some 11) (some 41);refine⟨cs,e,?_⟩;have h:=congrArg List.length e;unfold YCB at h;have e1:HT.sIx (ns.map V.int).length 0 (some 11)=min 11 (ns.map V.int).length:=HT.sIx_nat _ _ 11;have e2:HT.sIx (ns.map V.int).length (ns.map V.int).length (some 41)=min 41 (ns.map V.int).length:=HT.sIx_nat _ _ 41;rw[e1,e2,List.length_take,YLd,YLD,YLD]at h;omega
section
variable {P:Program}{w:World}{K:W.Frag}{mg:Str→Option Value}{base:Heap}{C:Adr}
theorem YCZ:YV ["_law_script","_law_rules","_law_row_here","_law_text","_law_wood","_law_found"] ["_law_script"] (YJ YB4):=⟨rfl,rfl,rfl,by decide +kernel,rfl,by decide +kernel,by decide +kernel⟩
theorem ok_law {f:Addr}{fd:FuncData} (F:Fun K "law" "law" YB4 f fd) (T:Txt K mg C) (cD:Zq P w K mg CX0 3 "_law_grammar" ["_law_script"] (YKx K)) (gn:Zq P w K mg CX0 3 "_law_row" ["_law_grammar_here","_law_cells","_law_room"] (YK1 K)) (d_:Zq P w K mg CX0 1 "_law_read" ["_law_grammar_here","_law_row_here"] (YK2)) (cO:Zq P w K mg CX0 4 "_law_row_of" ["_law_wood","_law_high","_law_cells"] (YIv C.Wood)) (cP:Zq P w K mg CX0 4 "_law_row_in" ["_law_wood","_law_rules","_law_row_here","_law_size"] (YIr C.Wood)) (bM:Zq P w K mg (CXo P w) 8 "standing" ["grammar","text"] (YBb C.NoGrammar C.NoText)) (bu:Zq P w K mg CX0 2 "_law_mixed" ["_law_script","_law_k"] (YFT K)) (bY:UsedI P w K mg (CXo P w) 9 C.Wood ["self","grammar","text"] (YKt C.Wood C.NoGrammar C.NoText)):Y6 P w K mg base CX0 12 f fd ["_law_script"] (YF2 K):=by
 obtain⟨qz,pH,jq,jr,jt,ju⟩:=cD.ok;obtain⟨ul,sJ,mY,mZ,m6,m7⟩:=gn.ok;obtain⟨sO,rT,iK,iM,iQ,iR⟩:=d_.ok;obtain⟨qP,qC,jK,jL,jM,jN⟩:=cO.ok;obtain⟨qQ,qD,jO,jP,jQ,jR⟩:=cP.ok;obtain⟨mR,lJ,e_,gb,gf,gh⟩:=bM.ok;obtain⟨kJ,jE,aW,aX,aY,aZ⟩:=bu.ok;obtain⟨pI,pB,iW,iY,iZ⟩:=bY.ok;refine F.ok YCZ (fun vs H Q E h=>?_) (fun cdv A outer s H vs Q E hr h=>?_)
 ·obtain⟨a,ns,rfl,_⟩:=h;rfl
 ·obtain⟨a,ns,rfl,hS,hn,hp,q⟩:=h;have hu:=JP hr;have hU:=hr.units;refine qex ?_;refine⟨_,(YO ⟨(YK (i:=1) YCZ.nd rfl (Or.inl rfl) (YY (jq base) (hr.mono (by decide)) (by rfl) jr jt ju .nil Yg (YA (pv 0) YC)))⟩
   (YO ⟨(YK (i:=2) YCZ.nd rfl (Or.inl rfl) (YY (mY base) (hr.mono (by decide)) (by rfl) mZ m6 m7 .nil Yg (YA (pv 1) (YA (XI (YAe K rfl) (pv 0) (J5 YD) (J5 YD)) (YA (YN Yp YD (YN YAZ YD (Z2 YAw (by rfl) T.lA PyProof.Rows.Boot.«int» (YA (JH Jq (YN ZK (YY (aW base) (hr.mono (by decide)) (by rfl) aX aY aZ .nil Yg (YA (pv 0) (YA YD YC))) YD) YD (Yf _)) YC)))) YC)))))⟩
   (YO ⟨(YK (i:=3) YCZ.nd rfl (Or.inl rfl) (YY (iK base) (hr.mono (by decide)) (by rfl) iM iQ iR .nil Yg (YA (pv 1) (YA (pv 2) YC))))⟩
   (YO ⟨(YK (i:=4) YCZ.nd rfl (Or.inl rfl) (YHz iY (iW base) (hr.mono (by decide)) (by rfl) T.sU iZ .nil passX (YA (Z2 (Xq K rfl) (by rfl) T.eQ PyProof.Rows.Boot.«list» (YA (pv 1) YC)) (YA (pv 3) YC))))⟩
   (YO ⟨(Y3 (XF (Xo (YY (jO base) (hr.mono (by decide)) (by rfl) jP jQ jR .nil Yg (Y9 (pv 4) (Y9 (pv 1) (Y9 (pv 2) (Y9 (YR Zw (by rfl) T.aD PyProof.Rows.Boot.«len» (YA (pv 3) YC)) YC))))))) (YG (YX Xc)) Yc)⟩
   (YO ⟨(YK (i:=5) YCZ.nd rfl (Or.inl rfl) (YY (jK base) (hr.mono (by decide)) (by rfl) jL jM jN .nil Yg (YA (pv 4) (YA (YY (e_ base) (hr.mono (by decide)) (by rfl) gb gf gh .nil passX (YA (Z2 (Xq K rfl) (by rfl) T.eQ PyProof.Rows.Boot.«list» (YA (pv 1) YC)) (YA (pv 3) YC))) (YA (XI (YAe K rfl) (pv 0) (J5 YD) (J5 YD)) YC)))))⟩
   (JS ⟨(YX (JH Jq (YY (iK base) (hr.mono (by decide)) (by rfl) iM iQ iR .nil Yg (YA (pv 1) (YA (pv 5) YC))) (pv 3) (Yf _)))⟩))))))),?_⟩
  refine⟨_,rfl,a,ns,rfl,hS,hn,hp,fun l xs g H1 hg hgk s1 p1 hl0 hl hds=>?_⟩;dsimp only[ZH];obtain⟨cs0,ecs,hcs⟩:=YFy ns (some 11) (some 74);refine⟨_,rfl,_,rfl,11,rfl,74,rfl,a,_,rfl,s1.seq hS,fun c hc=>?_⟩;rw[ecs];have sc:SP H1 (upd H1 c (.lst (cs0.map V.int))):=SP.upd hc;refine⟨_,rfl,a,ns,10,rfl,(s1.trans sc.s).seq hS,by decide,by decide,fun way wa wb=>⟨_,_,rfl,rfl,(show(0:Int) < 8 by decide),rfl,.inr ⟨_,rfl,_,_,rfl,rfl,.inl ⟨by decide,by decide⟩,_,_,rfl,rfl,?_⟩⟩⟩;obtain⟨R,eR,R2,R8⟩:∃R:Nat,5 + 3 * (if decide (V.int (way % 8)=V.int 3)=true then (1:Int) else 0)=(R:Int)∧2≤R∧R≤8:=by
   split
   ·exact⟨8,rfl,by decide,by decide⟩
   ·exact⟨5,rfl,by decide,by decide⟩
  refine⟨l,c,xs,g,cs0,R,by rw[←eR];rfl,R2,by omega,sc _ _ hl,hds.same sc.s,hg,hgk,SqL.of YB,by omega,p1.upd rfl,fun o r0 rest ks sg H2 eg hrow hsg hks s2 p2 ho0 ho=>?_⟩;dsimp only[ZH];have s12:=sc.s.trans s2;have hl2:=s12 _ _ hl;have uZ:=hds.same s12;have hS2:=(s1.trans s12).seq hS;clear hds hl ho0 s12 sc s2 p1;have hg0:isQ r0.1=false:=X3 (Jg (ZC hg (i:=0) (by rw[eg];rfl)));have htx:Zg ⟨sg.toArray⟩=true:=YK4 hg eg hrow (by omega);have noG:JI (Xi g)=false→False:=fun e=>by rw[YBH,hg]at e;cases e
  have noT:Xh (.str ⟨sg.toArray⟩)=false→False:=fun e=>by have e:Zg ⟨sg.toArray⟩=false:=e;rw[htx]at e;cases e
  have dsh:=YHo htx;refine⟨_,rfl,_,rfl,l,o,xs,r0,rest,ks,sg,rfl,hl2,by rw[←eg];exact uZ,by rw[←eg];exact hg,ho,by rw[←eg];exact hrow,by omega,p2,fun H3 s3 p3=>?_⟩;dsimp only[ZH];have hl3:=s3 _ _ hl2;have ww:=uZ.same s3;have ho3:=s3 _ _ ho;have hS3:=s3.seq hS2;refine⟨_,rfl,l,xs,rfl,.inl (SqL.of hl3),fun l2 hl2'=>?_⟩;have s4:SP H3 (upd H3 l2 (.lst xs)):=SP.upd hl2';have um:upd H3 l2 (.lst xs) l2=some (.lst xs):=YB;have hl4:=s4 _ _ hl3;have pD:=ww.same s4.s;have ho4:=s4 _ _ ho3;have hS4:=s4.seq hS3;have p4:=s4.plain p3;revert um hl4 pD ho4 hS4 p4;generalize upd H3 l2 (.lst xs)=H4;intro um hl4 pD ho4 hS4 p4;refine⟨_,rfl,?_⟩;refine fun wx dx hwx hdx hne=>⟨H4,wx,dx,.ref l2,.str ⟨sg.toArray⟩,Xi g,.str ⟨sg.toArray⟩,rfl,YB,hwx,(YI.upd hdx).put hwx,(p4.upd rfl).upd rfl,.lst (.inl um) pD,YDY hg,.str _,dsh,fun g' z' eg' hg' ez hz' hs nds H7 st bo wk wd s7 p7=>?_,fun e=>(noG e).elim,fun _ e=>(noT e).elim⟩
  cases YEh eg';cases ez;have st:ZE g sg hs:=st;have bo:Ji g sg hs:=bo;have wk:JN g sg.length (inB (hs.map (·.1))) (YB0 g sg.length (hs.map (·.1))) nds:=wk;have wd:YBC C.Wood H7 wx g ⟨sg.toArray⟩ nds (YB0 g sg.length (hs.map (·.1))):=wd;obtain⟨_,_,htop⟩:=YGv eg.symm hg st bo wk hg0 hrow;obtain⟨_,_,nm,wX,hnm,_⟩:=hgk;refine⟨rfl,?_⟩;dsimp only[ZH];refine⟨_,rfl,_,rfl,_,rfl,_,rfl,⟨sg.toArray⟩,rfl,YH (by show sg.length≤1000;omega),wx,l,o,xs,r0,rest,g,⟨sg.toArray⟩,ks,hs,nds,rfl,eg.symm,wd,s7 _ _ hl4,pD.same s7,st,bo,wk,s7 _ _ ho4,hks,hrow,fun H8 s8=>⟨_,rfl,ZL ?_⟩⟩;have s78:=s7.trans s8.s;have p8:=s8.plain p7;refine⟨_,rfl,_,rfl,l,xs,rfl,.inl (SqL.of (s78 _ _ hl4)),fun l3 wA=>?_⟩;have z3:SP H8 (upd H8 l3 (.lst xs)):=SP.upd wA;have uo:upd H8 l3 (.lst xs) l3=some (.lst xs):=YB;have s83:=s78.trans z3.s;have z83:=s8.trans z3;have p83:=z3.plain p8;revert uo s83 z83 p83;generalize upd H8 l3 (.lst xs)=HA;intro uo s83 z83 p83;refine⟨_,rfl,.ref l3,.str ⟨sg.toArray⟩,Xi g,.str ⟨sg.toArray⟩,rfl,.lst (.inl uo) (pD.same s83),YDY hg,.str _,dsh,p83,fun g' z eg' hg' ez hz fa ob hs2 H9 st2 bo2 wY hfa s9 p9=>?_,fun e=>(noG e).elim,fun _ e=>(noT e).elim⟩;cases YEh eg';cases ez;have st2:ZE g sg hs2:=st2;have bo2:Ji g sg hs2:=bo2;have s89:=s83.trans s9;obtain⟨cs1,ecs1,wB⟩:=cut_30 ns;refine⟨_,rfl,11,rfl,41,rfl,a,_,rfl,s89.seq hS4,fun c2 hc2=>?_⟩;rw[ecs1];have zc:SP H9 (upd H9 c2 (.lst (cs1.map V.int))):=SP.upd hc2;have wk2:JN g sg.length (inB (hs2.map (·.1))) (some (.part r0.1 0 sg.length)) nds:=by
   rw[←YHj hg st bo st2 bo2,←htop];exact wk
  rw[htop]at wd;refine⟨wx,fa,c2,r0,g,⟨sg.toArray⟩,hs2,nds,_,ob,cs1,nm,rfl,wd.same (z83.s.trans (s9.trans zc.s)),rfl,zc _ _ hfa,st2,wk2,YB,wB,(show sg.length≤8 by omega),by omega,fun r hr=>(hnm r hr).1,zc.plain p9,fun o2 ks2 HB sB hoB hlB hrB=>?_⟩;have sAll:=s89.trans (zc.s.trans sB.s);have hrB:JM g [r0.1] ks2 sg:=hrB;refine⟨_,rfl,_,rfl,l,o2,xs,r0,rest,ks2,sg,rfl,sAll _ _ hl4,by rw[←eg];exact pD.same sAll,by rw[←eg];exact hg,hoB,by rw[←eg];exact hrB,by omega,sB.plain (zc.plain p9),fun HC sC pC=>⟨_,rfl,?_⟩⟩;refine⟨rfl,?_⟩;rw[decS,decide_eq_true rfl];exact q _
end
theorem all_mk {l:PySem.W.OpenLaw}{w:World}{K:W.Frag}{h:Heap}{mg:Str→Option Value}{fa aJ eE jw aq f0 f1 f2 f3 f4 f5 f6 f7 f8 f9 f10 f11 f12 f13 f14 f15 f16 f17 f18 f19 f20 f21 f22 f23 f24 f25 f26 f27 f28 f29 f30 f31 f32 f33 f34 f35 f36 f37 f38 f39 f40 f41 f42 f43 f44 f45 f46 f47:Addr} (X:K.In h) (G:h.Ns mainGlobals mg) (hfa:mg "law"=some (.ref fa))
  {od an:Option Addr}{sl:Array (Option Value)}{oc kV dc pm cd ct:Value}{tFIRST_CODE tLAST_CODE tPERCENT_CODE tMOST_LETTERS tMOST_PARTS tMOST_RULES tMOST_SIGNS:Tok}
  (nWood:PySem.W.nsIn K mainGlobals "Wood"=some (some (.ref aJ)))
  (nNoGrammar:PySem.W.nsIn K mainGlobals "NoGrammar"=some (some (.ref eE)))
  (nNoText:PySem.W.nsIn K mainGlobals "NoText"=some (some (.ref jw)))
  (nGrowth:PySem.W.nsIn K mainGlobals "Growth"=some (some (.ref aq)))
  (d0:Dn K "is_whole" f0)
  (l0:Ln K "is_whole" "is_whole" YBV f0)
  (d1:Dn K "stands_in_texts" f1)
  (l1:Ln K "stands_in_texts" "stands_in_texts" JU f1)
  (d2:Dn K "is_sign" f2)
  (l2:Ln K "is_sign" "is_sign" YCL f2)
  (d3:Dn K "is_name" f3)
  (l3:Ln K "is_name" "is_name" YCM f3)
  (d4:Dn K "is_part" f4)
  (l4:Ln K "is_part" "is_part" YCN f4)
  (d5:Dn K "is_worth" f5)
  (l5:Ln K "is_worth" "is_worth" YBW f5)
  (d6:Dn K "are_parts" f6)
  (l6:Ln K "are_parts" "are_parts" YAp f6)
  (d7:Dn K "is_rule" f7)
  (l7:Ln K "is_rule" "is_rule" YCO f7)
  (d8:Dn K "is_grammar" f8)
  (l8:Ln K "is_grammar" "is_grammar" YAI f8)
  (d9:Dn K "checked" f9)
  (l9:Ln K "checked" "checked" YCP f9)
  (d10:An K aq "__init__" f10)
  (l10:Ln K "__init__" "Growth.__init__" JV f10)
  (d11:An K aq "stand" f11)
  (l11:Ln K "stand" "Growth.stand" XU f11)
  (d12:An K aq "stand_higher" f12)
  (l12:Ln K "stand_higher" "Growth.stand_higher" Z4 f12)
  (d13:An K aq "meet_part" f13)
  (l13:Ln K "meet_part" "Growth.meet_part" JO f13)
  (d14:An K aq "meet_beginning" f14)
  (l14:Ln K "meet_beginning" "Growth.meet_beginning" Zt f14)
  (d15:An K aq "meet" f15)
  (l15:Ln K "meet" "Growth.meet" Xs f15)
  (d16:An K aq "grow" f16)
  (l16:Ln K "grow" "Growth.grow" Xt f16)
  (d17:Dn K "is_text" f17)
  (l17:Ln K "is_text" "is_text" YCQ f17)
  (d18:Dn K "checked_text" f18)
  (l18:Ln K "checked_text" "checked_text" XT f18)
  (d19:Dn K "standing" f19)
  (l19:Ln K "standing" "standing" YBY f19)
  (d20:Dn K "numbers_by_head" f20)
  (l20:Ln K "numbers_by_head" "numbers_by_head" JW f20)
  (d21:Dn K "ends_of_beginnings" f21)
  (l21:Ln K "ends_of_beginnings" "ends_of_beginnings" Z9 f21)
  (d22:An K aJ "ways_of_name" f22)
  (l22:Ln K "ways_of_name" "Wood.ways_of_name" JD f22)
  (d23:An K aJ "ways_of_beginning" f23)
  (l23:Ln K "ways_of_beginning" "Wood.ways_of_beginning" Zl f23)
  (d24:An K aJ "ways" f24)
  (l24:Ln K "ways" "Wood.ways" YAq f24)
  (d25:An K aJ "find_root" f25)
  (l25:Ln K "find_root" "Wood.find_root" Jj f25)
  (d26:An K aJ "walk_down" f26)
  (l26:Ln K "walk_down" "Wood.walk_down" Jk f26)
  (d27:An K aJ "top" f27)
  (l27:Ln K "top" "Wood.top" YBc f27)
  (d28:An K aJ "nodes" f28)
  (l28:Ln K "nodes" "Wood.nodes" YAL f28)
  (d29:An K aJ "__init__" f29)
  (l29:Ln K "__init__" "Wood.__init__" J1 f29)
  (d30:Dn K "_law_cell_at" f30)
  (l30:Ln K "_law_cell_at" "_law_cell_at" XW f30)
  (d31:Dn K "_law_mixed" f31)
  (l31:Ln K "_law_mixed" "_law_mixed" YAM f31)
  (d32:Dn K "_law_signs" f32)
  (l32:Ln K "_law_signs" "_law_signs" Z1 f32)
  (d33:Dn K "_law_names" f33)
  (l33:Ln K "_law_names" "_law_names" JX f33)
  (d34:Dn K "_law_worth" f34)
  (l34:Ln K "_law_worth" "_law_worth" YAN f34)
  (d35:Dn K "_law_parts" f35)
  (l35:Ln K "_law_parts" "_law_parts" YAO f35)
  (d36:Dn K "_law_grammar" f36)
  (l36:Ln K "_law_grammar" "_law_grammar" XX f36)
  (d37:Dn K "_law_shorts" f37)
  (l37:Ln K "_law_shorts" "_law_shorts" Xw f37)
  (d38:Dn K "_law_need" f38)
  (l38:Ln K "_law_need" "_law_need" YAs f38)
  (d39:Dn K "_law_open" f39)
  (l39:Ln K "_law_open" "_law_open" Xl f39)
  (d40:Dn K "_law_row" f40)
  (l40:Ln K "_law_row" "_law_row" YBe f40)
  (d41:Dn K "_law_read" f41)
  (l41:Ln K "_law_read" "_law_read" YAt f41)
  (d42:Dn K "_law_tree" f42)
  (l42:Ln K "_law_tree" "_law_tree" YAu f42)
  (d43:Dn K "_law_low_way" f43)
  (l43:Ln K "_law_low_way" "_law_low_way" JZ f43)
  (d44:Dn K "_law_rule_in" f44)
  (l44:Ln K "_law_rule_in" "_law_rule_in" XY f44)
  (d45:Dn K "_law_row_in" f45)
  (l45:Ln K "_law_row_in" "_law_row_in" Xx f45)
  (d46:Dn K "_law_row_of" f46)
  (l46:Ln K "_law_row_of" "_law_row_of" Xy f46)
  (d47:PySem.W.nsIn K mainGlobals "law"=some (some (.ref f47)))
  (l47:K.lookup f47=some ⟨oc,od,.func (PySem.W.fnOf "law" "law" (Jo YB4) (JB YB4) (YJ YB4) .none kV dc pm an cd ct),sl⟩)
  (c47:PySem.W.codeIn K cd "law"=true)
  (k47:PySem.W.keepIn K (.ref f47)=true)
  (iFIRST_CODE:PySem.W.nsIn K mainGlobals "FIRST_CODE"=some (some (.int 32 tFIRST_CODE)))
  (iLAST_CODE:PySem.W.nsIn K mainGlobals "LAST_CODE"=some (some (.int 126 tLAST_CODE)))
  (iPERCENT_CODE:PySem.W.nsIn K mainGlobals "PERCENT_CODE"=some (some (.int 37 tPERCENT_CODE)))
  (iMOST_LETTERS:PySem.W.nsIn K mainGlobals "MOST_LETTERS"=some (some (.int 8 tMOST_LETTERS)))
  (iMOST_PARTS:PySem.W.nsIn K mainGlobals "MOST_PARTS"=some (some (.int 6 tMOST_PARTS)))
  (iMOST_RULES:PySem.W.nsIn K mainGlobals "MOST_RULES"=some (some (.int 60 tMOST_RULES)))
  (iMOST_SIGNS:PySem.W.nsIn K mainGlobals "MOST_SIGNS"=some (some (.int 60 tMOST_SIGNS)))
  (zisinstance:Zn K "isinstance")
  (zint:Zn K "int")
  (zbool:Zn K "bool")
  (zord:Zn K "ord")
  (zstr:Zn K "str")
  (zlen:Zn K "len")
  (zall:Zn K "all")
  (ztuple:Zn K "tuple")
  (zlist:Zn K "list")
  (zenumerate:Zn K "enumerate")
  (zrange:Zn K "range")
  (zsorted:Zn K "sorted")
  (zsum:Zn K "sum")
  (zreversed:Zn K "reversed")
  (zmax:Zn K "max")
  (xNoGrammar:PySem.W.excIn K eE [.type "ValueError",.type "Exception",.type "BaseException",.type "object"] "ValueError.__new__"=true)
  (xNoText:PySem.W.excIn K jw [.type "ValueError",.type "Exception",.type "BaseException",.type "object"] "ValueError.__new__"=true)
  (pgGrowth:PySem.W.plainGet K aq Str.empty=true)
  (qF:PySem.W.hasDictIn K aq=true)
  (poGrowth:PySem.W.plainOver K aq=true)
  (saGrowth:PySem.W.findIn K (.ref aq) "__setattr__"=some (some (.builtin "object.__setattr__")))
  (pgWood:PySem.W.plainGet K aJ Str.empty=true)
  (uq:PySem.W.hasDictIn K aJ=true)
  (poWood:PySem.W.plainOver K aJ=true)
  (saWood:PySem.W.findIn K (.ref aJ) "__setattr__"=some (some (.builtin "object.__setattr__")))
  (naGrowth_rules:On K aq "rules")
  (naGrowth_heights:On K aq "heights")
  (naGrowth_height:On K aq "height")
  (naGrowth_fresh:On K aq "fresh")
  (naGrowth_higher:On K aq "higher")
  (naGrowth_begun:On K aq "begun")
  (naGrowth_ends:On K aq "ends")
  (naWood_numbers:On K aJ "numbers")
  (naWood_rules:On K aJ "rules")
  (naWood_found:On K aJ "found")
  (naWood_ends:On K aJ "ends")
  (naWood_text:On K aJ "text")
  (naWood_root:On K aJ "root")
  (mkGrowth:PySem.W.makesIn K aq=true)
  (kcGrowth:PySem.W.keepIn K (.ref aq)=true)
  (mkWood:PySem.W.makesIn K aJ=true)
  (kcWood:PySem.W.keepIn K (.ref aJ)=true):
  ∃fd:FuncData,(∀(s:Shared) (v:Value),BindsTo s fd ⟨[v],[]⟩ [("_law_script",v)])∧∀base:Heap,K.In base→base.Ns mainGlobals mg→Y6 l.prog w K mg base CX0 12 fa fd ["_law_script"] (YF2 K):=by
 have e:=hfa.symm.trans (PySem.W.mg_of X G d47);cases e;have m:=fun{x:Str}{v:Value} (h:PySem.W.nsIn K mainGlobals x=some (some v))=>PySem.W.mg_of X G h
 have n:=fun{x:Str}{f:Addr} (h:Dn K x f)=>(PySem.W.mg_of X G h:mg x=some (.ref f))
 have z:=fun{x:Str} (h:Zn K x)=>PySem.W.mg_none_of X G h
 have T:Txt K mg ⟨aJ,eE,jw,aq,0⟩:=⟨z zisinstance,z zint,z zbool,z zord,z zstr,z zlen,z zall,z ztuple,z zlist,z zenumerate,z zrange,z zsorted,z zsum,z zreversed,z zmax,⟨_,m iFIRST_CODE⟩,⟨_,m iLAST_CODE⟩,⟨_,m iPERCENT_CODE⟩,⟨_,m iMOST_LETTERS⟩,⟨_,m iMOST_PARTS⟩,⟨_,m iMOST_RULES⟩,⟨_,m iMOST_SIGNS⟩,m nWood,m nNoGrammar,m nNoText,m nGrowth,xNoGrammar,xNoText,⟨pgGrowth,qF,poGrowth,saGrowth⟩,⟨pgWood,uq,poWood,saWood⟩,naGrowth_rules,naGrowth_heights,naGrowth_height,naGrowth_fresh,naGrowth_higher,naGrowth_begun,naGrowth_ends,naWood_numbers,naWood_rules,naWood_found,naWood_ends,naWood_text,naWood_root⟩;have F47:=YJ3 (st:=YB4) l47 c47 k47;obtain⟨_,F0⟩:=l0.ex;have eV:=us l.prog w (n d0) F0 (fun _=>YGP F0 T) fun _ _ _ _ _ _ u h=>match u,h with |[_],_=>rfl
 obtain⟨_,F1⟩:=l1.ex;have aF:=us l.prog w (n d1) F1 (fun _=>YBX F1 T) fun _ _ _ _ _ _ u h=>match u,h with |[_],_=>rfl
 obtain⟨_,F2⟩:=l2.ex;have g8:=us l.prog w (n d2) F2 (fun _=>YHY F2 T aF) fun _ _ _ _ _ _ u h=>match u,h with |[_],_=>rfl
 obtain⟨_,F3⟩:=l3.ex;have bZ:=us l.prog w (n d3) F3 (fun _=>YHa F3 T) fun _ _ _ _ _ _ u h=>match u,h with |[_],_=>rfl
 obtain⟨_,F4⟩:=l4.ex;have il:=us l.prog w (n d4) F4 (fun _=>YHc F4 T g8 bZ) fun _ _ _ _ _ _ u h=>match u,h with |[_],_=>rfl
 obtain⟨_,F5⟩:=l5.ex;have eX:=us l.prog w (n d5) F5 (fun _=>YGR F5 T eV) fun _ _ _ _ _ _ u h=>match u,h with |[_],_=>rfl
 obtain⟨_,F6⟩:=l6.ex;have dI:=us l.prog w (n d6) F6 (fun _=>YFQ F6 T il) fun _ _ _ _ _ _ u h=>match u,h with |[_],_=>rfl
 obtain⟨_,F7⟩:=l7.ex;have ir:=us l.prog w (n d7) F7 (fun _=>YHe F7 T bZ dI eX) fun _ _ _ _ _ _ u h=>match u,h with |[_],_=>rfl
 obtain⟨_,F8⟩:=l8.ex;have cZ:=us l.prog w (n d8) F8 (fun _=>YED F8 T ir) fun _ _ _ _ _ _ u h=>match u,h with |[_],_=>rfl
 obtain⟨_,F9⟩:=l9.ex;have b7:=us l.prog w (n d9) F9 (fun _=>YHg F9 T cZ) fun _ _ _ _ _ _ u h=>match u,h with |[_],_=>rfl
 obtain⟨_,F10⟩:=l10.ex;have bG:=usI l.prog w mkGrowth kcGrowth d10 F10 (fun _=>YBa F10 T) fun _ _ _ _ _ _ u h=>match u,h with |[_,_],_=>rfl
 obtain⟨_,F11⟩:=l11.ex;have az:=usM l.prog w d11 F11 (fun _=>YCv F11 T) fun _ _ _ _ _ _ u h=>match u,h with |[_,_],_=>rfl
 obtain⟨_,F12⟩:=l12.ex;have a_:=usM l.prog w d12 F12 (fun _=>YAK F12 T) fun _ _ _ _ _ _ u h=>match u,h with |[_,_],_=>rfl
 obtain⟨_,F13⟩:=l13.ex;have bx:=usM l.prog w d13 F13 (fun _=>YBD F13 T az) fun _ _ _ _ _ _ u h=>match u,h with |[_,_],_=>rfl
 obtain⟨_,F14⟩:=l14.ex;have aR:=usM l.prog w d14 F14 (fun _=>Xu F14 T az) fun _ _ _ _ _ _ u h=>match u,h with |[_,_,_],_=>rfl
 obtain⟨_,F15⟩:=l15.ex;have cI:=usM l.prog w d15 F15 (fun _=>YDl F15 T bx aR a_) fun _ _ _ _ _ _ u h=>match u,h with |[_,_],_=>rfl
 obtain⟨_,F16⟩:=l16.ex;have cJ:=usM l.prog w d16 F16 (fun _=>YDn F16 T cI) fun _ _ _ _ _ _ u h=>match u,h with |[_],_=>rfl
 obtain⟨_,F17⟩:=l17.ex;have iu:=us l.prog w (n d17) F17 (fun _=>YHi F17 T aF) fun _ _ _ _ _ _ u h=>match u,h with |[_],_=>rfl
 obtain⟨_,F18⟩:=l18.ex;have aU:=us l.prog w (n d18) F18 (fun _=>YCt F18 T iu) fun _ _ _ _ _ _ u h=>match u,h with |[_],_=>rfl
 obtain⟨_,F19⟩:=l19.ex;have bM:=us l.prog w (n d19) F19 (fun _=>YGW F19 T b7 aU bG az cJ) fun _ _ _ _ _ _ u h=>match u,h with |[_,_],_=>rfl
 obtain⟨_,F20⟩:=l20.ex;have bH:=us l.prog w (n d20) F20 (fun _=>YBd F20 T) fun _ _ _ _ _ _ u h=>match u,h with |[_],_=>rfl
 obtain⟨_,F21⟩:=l21.ex;have bc:=us l.prog w (n d21) F21 (fun _=>YAX F21 T) fun _ _ _ _ _ _ u h=>match u,h with |[_],_=>rfl
 obtain⟨_,F22⟩:=l22.ex;have bw:=usM l.prog w d22 F22 (fun _=>YAr F22 T) fun _ _ _ _ _ _ u h=>match u,h with |[_,_],_=>rfl
 obtain⟨_,F23⟩:=l23.ex;have aO:=usM l.prog w d23 F23 (fun _=>Xa F23 T) fun _ _ _ _ _ _ u h=>match u,h with |[_,_],_=>rfl
 obtain⟨_,F24⟩:=l24.ex;have aB:=usM l.prog w d24 F24 (fun _=>YFS F24 T aO bw) fun _ _ _ _ _ _ u h=>match u,h with |[_,_],_=>rfl
 obtain⟨_,F25⟩:=l25.ex;have bN:=usM l.prog w d25 F25 (fun _=>YB1 F25 T) fun _ _ _ _ _ _ u h=>match u,h with |[_,_],_=>rfl
 obtain⟨_,F26⟩:=l26.ex;have bO:=usM l.prog w d26 F26 (fun _=>YB2 F26 T aB) fun _ _ _ _ _ _ u h=>match u,h with |[_],_=>rfl
 obtain⟨_,F27⟩:=l27.ex;have bQ:=usM l.prog w d27 F27 (fun _=>YGb F27 T) fun _ _ _ _ _ _ u h=>match u,h with |[_],_=>rfl
 obtain⟨_,F28⟩:=l28.ex;have rW:=usM l.prog w d28 F28 (fun _=>YEF F28 T) fun _ _ _ _ _ _ u h=>match u,h with |[_],_=>rfl
 obtain⟨_,F29⟩:=l29.ex;have bY:=usI l.prog w mkWood kcWood d29 F29 (fun _=>YCR F29 T bM b7 aU bH bc bN bO) fun _ _ _ _ _ _ u h=>match u,h with |[_,_,_],_=>rfl
 obtain⟨_,F30⟩:=l30.ex;have aV:=us l.prog w (n d30) F30 (fun _=>YCx F30 T) fun _ _ _ _ _ _ u h=>match u,h with |[_,_],_=>rfl
 obtain⟨_,F31⟩:=l31.ex;have bu:=us l.prog w (n d31) F31 (fun _=>YEG F31 T aV) fun _ _ _ _ _ _ u h=>match u,h with |[_,_],_=>rfl
 obtain⟨_,F32⟩:=l32.ex;have dw:=us l.prog w (n d32) F32 (fun _=>YEH F32 T) fun _ _ _ _ _ _ u h=>match u,h with |[_],_=>rfl
 obtain⟨_,F33⟩:=l33.ex;have dq:=us l.prog w (n d33) F33 (fun _=>YEI F33 T) fun _ _ _ _ _ _ u h=>match u,h with |[_],_=>rfl
 obtain⟨_,F34⟩:=l34.ex;have dz:=us l.prog w (n d34) F34 (fun _=>YEK F34 T) fun _ _ _ _ _ _ u h=>match u,h with |[_],_=>rfl
 obtain⟨_,F35⟩:=l35.ex;have du:=us l.prog w (n d35) F35 (fun _=>YEL F35 T) fun _ _ _ _ _ _ u h=>match u,h with |[_,_,_],_=>rfl
 obtain⟨_,F36⟩:=l36.ex;have cD:=us l.prog w (n d36) F36 (fun _=>YCy F36 T dq bu du dw dz aV) fun _ _ _ _ _ _ u h=>match u,h with |[_],_=>rfl
 obtain⟨_,F37⟩:=l37.ex;have cN:=us l.prog w (n d37) F37 (fun _=>YDw F37 T) fun _ _ _ _ _ _ u h=>match u,h with |[_],_=>rfl
 obtain⟨_,F38⟩:=l38.ex;have bz:=us l.prog w (n d38) F38 (fun _=>YFW F38 T) fun _ _ _ _ _ _ u h=>match u,h with |[_],_=>rfl
 obtain⟨_,F39⟩:=l39.ex;have dX:=us l.prog w (n d39) F39 (fun _=>YFX F39 T bz) fun _ _ _ _ _ _ u h=>match u,h with |[_,_,_,_],_=>rfl
 obtain⟨_,F40⟩:=l40.ex;have gn:=us l.prog w (n d40) F40 (fun _=>YGp F40 T cN dX bz) fun _ _ _ _ _ _ u h=>match u,h with |[_,_,_],_=>rfl
 obtain⟨_,F41⟩:=l41.ex;have d_:=us l.prog w (n d41) F41 (fun _=>YFY F41 T) fun _ _ _ _ _ _ u h=>match u,h with |[_,_],_=>rfl
 obtain⟨_,F42⟩:=l42.ex;have dY:=us l.prog w (n d42) F42 (fun _=>YFe F42 T) fun _ _ _ _ _ _ u h=>match u,h with |[_,_],_=>rfl
 obtain⟨_,F43⟩:=l43.ex;have cC:=us l.prog w (n d43) F43 (fun _=>YC0 F43 T aB) fun _ _ _ _ _ _ u h=>match u,h with |[_,_,_],_=>rfl
 obtain⟨_,F44⟩:=l44.ex;have cB:=us l.prog w (n d44) F44 (fun _=>YCz F44 T aB) fun _ _ _ _ _ _ u h=>match u,h with |[_,_,_,_,_,_],_=>rfl
 obtain⟨_,F45⟩:=l45.ex;have cP:=us l.prog w (n d45) F45 (fun _=>YD0 F45 T dY cB bQ) fun _ _ _ _ _ _ u h=>match u,h with |[_,_,_,_],_=>rfl
 obtain⟨_,F46⟩:=l46.ex;have cO:=us l.prog w (n d46) F46 (fun _=>YD1 F46 T cC bQ aB) fun _ _ _ _ _ _ u h=>match u,h with |[_,_,_],_=>rfl
 exact⟨PySem.W.fnOf "law" "law" (Jo YB4) (JB YB4) (YJ YB4) .none kV dc pm an cd ct,fun s v=>.of_eq rfl,fun base _ _=>ok_law F47 T cD gn d_ cO cP bM bu bY⟩
theorem walk {l:PySem.W.OpenLaw}{q:Program}{loose:List Str}{XP:(Str→Option Value)→Heap→Prop}{YP:World→Heap→Prop}{d:DefRec}{K:Params→W.Frag} (hn:l.most=some 63) (hdf:d.params.defaults=[])
  (hY:∀(w:World) (h:Heap),YP w h→(K w.params).In h)
  (F:∀(w:World) (mg:Str→Option Value) (fa:Addr) (h:Heap),(K w.params).In h→h.Ns mainGlobals mg→mg d.name=some (.ref fa)→
   ∃fd:FuncData,(∀(s:Shared) (u:Value),BindsTo s fd ⟨[u],[]⟩ [("_law_script",u)])∧∀base:Heap,(K w.params).In base→base.Ns mainGlobals mg→Y6 l.prog w (K w.params) mg base CX0 12 fa fd ["_law_script"] (YF2 (K w.params))):
  PySem.W.WalkO q loose XP YP l.row.toRowW d [] (fun f vs=>PySem.call f vs):=
 L2.walk_of (n:=63) (k:=12) (x:="_law_script") (CX:=fun _=>CX0) (sp:=fun w=>YF2 (K w.params)) hn (by decide) hdf ⟨rfl,by decide,by decide⟩ hY F (fun _ _ a ns hl hO hS=>YJI hl hO hS) fun _ _ _ _ _ z=>z
end FR
open PySem PySem.W PyProof.Rows
def PySem.W.Fast.tw4501788782565638526 : Nat := 0
def PySem.W.Fast.tw4776999133568616442 : Nat := 0
def PySem.W.Fast.tw9265916311637205612 : Nat := 0
def PySem.W.Fast.tw17824482602289775627 : Nat := 0
def PySem.W.Fast.tw764277193718344671 : Nat := 0
def PySem.W.Fast.tw12393184073981097521 : Nat := 0
def PySem.W.Fast.tw16907562821109369195 : Nat := 0
def PySem.W.Fast.tw14150298819415081165 : Nat := 0
def PySem.W.Fast.tw13091384635372266437 : Nat := 0
def PySem.W.Fast.tw518854160199922047 : Nat := 0
def PySem.W.Fast.tw18415413167269724265 : Nat := 0
def PySem.W.Fast.tw5572319787606712739 : Nat := 0
def PySem.W.Fast.tw362202527508002818 : Nat := 0
def PySem.W.Fast.tw2065130547283308958 : Nat := 0
def PySem.W.Fast.tw5287392219715613261 : Nat := 0
def PySem.W.Fast.tw14527894511532604009 : Nat := 0
def PySem.W.Fast.tw13113366717029705013 : Nat := 0
def PySem.W.Fast.tw724229625093548472 : Nat := 0
def PySem.W.Fast.tw6842433754007155061 : Nat := 0
def PySem.W.Fast.tw13238796563647472734 : Nat := 0
def PySem.W.Fast.tw11180412494368933214 : Nat := 0
def PySem.W.Fast.tw12785889565766388125 : Nat := 0
def PySem.W.Fast.tw3849586212736514319 : Nat := 0
def PySem.W.Fast.tw14450598681561620816 : Nat := 0
def PySem.W.Fast.tw10321677236335464046 : Nat := 0
def PySem.W.Fast.tw4551073473334815107 : Nat := 0
def PySem.W.Fast.tw100888056739938935 : Nat := 0
def PySem.W.Fast.tw16460897220195901462 : Nat := 0
def PySem.W.Fast.tw11804457189949303221 : Nat := 0
def PySem.W.Fast.tw14454262938362183033 : Nat := 0
def PySem.W.Fast.tw6286536980982028030 : Nat := 0
def PySem.W.Fast.tw10809809621210144511 : Nat := 0
def PySem.W.Fast.tw3783655046458750825 : Nat := 0
def PySem.W.Fast.tw14325835155472457307 : Nat := 0
def PySem.W.Fast.tw3761317953512378321 : Nat := 0
def PySem.W.Fast.tw6167016121185795242 : Nat := 0
def PySem.W.Fast.tw7653169484230301308 : Nat := 0
def PySem.W.Fast.tw17589179830982847269 : Nat := 0
def PySem.W.Fast.tw17284007239751677530 : Nat := 0
def PySem.W.Fast.tw6076775420305044930 : Nat := 0
def PySem.W.Fast.tw2103436399830885404 : Nat := 0
def PySem.W.Fast.tw7788915344062341271 : Nat := 0
def PySem.W.Fast.tw472497668513076711 : Nat := 0
def PySem.W.Fast.tw16612882929470443005 : Nat := 0
def PySem.W.Fast.tw237151647901069302 : Nat := 0
def PySem.W.Fast.tw17413181056841567139 : Nat := 0
def PySem.W.Fast.tw14081801824038016020 : Nat := 0
def PySem.W.Fast.tw15044782051100843484 : Nat := 0
def PySem.W.Fast.tw6249195004649441960 : Nat := 0
def PySem.W.Fast.tw8184628879564763032 : Nat := 0
def PySem.W.Fast.tw12240631332969385619 : Nat := 0
def PySem.W.Fast.tw18014976643784356214 : Nat := 0
def PySem.W.Fast.tw12190067617248359584 : Nat := 0
def PySem.W.Fast.tw3364424581543421475 : Nat := 0
def PySem.W.Fast.tw10276714926664318521 : Nat := 0
def PySem.W.Fast.tw18134883090381948589 : Nat := 0
def PySem.W.Fast.tw18205544248996656910 : Nat := 0
def PySem.W.Fast.tw2320658869462723947 : Nat := 0
def PySem.W.Fast.tw4010704311217560730 : Nat := 0
def PySem.W.Fast.tw4968434456481420420 : Nat := 0
def PySem.W.Fast.tw992793248449473329 : Nat := 0
def PySem.W.Fast.tw14396698408591472495 : Nat := 0
def PySem.W.Fast.tw13444009470082255463 : Nat := 0
def PySem.W.Fast.tw10771551143120085482 : Nat := 0
def PySem.W.Fast.tw10711466766129462485 : Nat := 0
def PySem.W.Fast.tw2748848306488507310 : Nat := 0
def PySem.W.Fast.tw5478597576566463034 : Nat := 0
def PySem.W.Fast.tw2806088359403349161 : Nat := 0
def PySem.W.Fast.tw4724930206696430251 : Nat := 0
def PySem.W.Fast.tw4047101349293837859 : Nat := 0
def PySem.W.Fast.tw2214355832488648686 : Nat := 0
def PySem.W.Fast.tw12040006174901529197 : Nat := 0
def PySem.W.Fast.tw15155766521423171596 : Nat := 0
def PySem.W.Fast.tw15431840259221058532 : Nat := 0
def PySem.W.Fast.tw634129457717268807 : Nat := 0
def PySem.W.Fast.tw5666289931080781287 : Nat := 0
def PySem.W.Fast.tw16878959858479549847 : Nat := 0
def PySem.W.Fast.tw7006319955978401472 : Nat := 0
def PySem.W.Fast.tw2494512388449332552 : Nat := 0
def PySem.W.Fast.tw7770489408567211915 : Nat := 0
def PySem.W.Fast.tw4665096420807081277 : Nat := 0
def PySem.W.Fast.tw5637443746928572323 : Nat := 0
def PySem.W.Fast.tw2997274719622866970 : Nat := 0
def PySem.W.Fast.tw472744960004351898 : Nat := 0
def PySem.W.Fast.tw4758709917184681724 : Nat := 0
def PySem.W.Fast.tw3213140725738909087 : Nat := 0
def PySem.W.Fast.tw7033328638375525668 : Nat := 0
def PySem.W.Fast.tw10345184432416950415 : Nat := 0
def PySem.W.Fast.tw9932010249906368049 : Nat := 0
def PySem.W.Fast.tw7835133189358032344 : Nat := 0
def PySem.W.Fast.tw16351424029363866955 : Nat := 0
def PySem.W.Fast.tw14224127090155612506 : Nat := 0
def PySem.W.Fast.tw8644321198824317100 : Nat := 0
def PySem.W.Fast.tw11310518938404576015 : Nat := 0
def PySem.W.Fast.tw11255296010503820111 : Nat := 0
def PySem.W.Fast.tw6520966487272337790 : Nat := 0
def PySem.W.Fast.tw2651584266090221443 : Nat := 0
def PySem.W.Fast.tw1818198458951627713 : Nat := 0
def PySem.W.Fast.tw16526617745950179123 : Nat := 0
def PySem.W.Fast.tw3342679645727182563 : Nat := 0
def PySem.W.Fast.tw5192615960810147375 : Nat := 0
def PySem.W.Fast.tw6311056440145583066 : Nat := 0
def PySem.W.Fast.tw8073804385987475687 : Nat := 0
def PySem.W.Fast.tw11158547572681917854 : Nat := 0
def PySem.W.Fast.tw11941161024847390082 : Nat := 0
def PySem.W.Fast.tw13360509498528120791 : Nat := 0
def PySem.W.Fast.tw12432733203913532300 : Nat := 0
def PySem.W.Fast.tw4497038949815638120 : Nat := 0
def PySem.W.Fast.tw15889916877394704673 : Nat := 0
def PySem.W.Fast.tw1521274876059444886 : Nat := 0
def PySem.W.Fast.tw1701507773691972484 : Nat := 0
def PySem.W.Fast.tw17153228280049293159 : Nat := 0
def PySem.W.Fast.tw11892425815178495135 : Nat := 0
def PySem.W.Fast.tw1194549813065953152 : Nat := 0
def PySem.W.Fast.tw8296950758882338868 : Nat := 0
def PySem.W.Fast.tw17273198311499547590 : Nat := 0
def PySem.W.Fast.tw6823554399583301843 : Nat := 0
def PySem.W.Fast.tw15381140276330266809 : Nat := 0
def PySem.W.Fast.tw17876519313154233670 : Nat := 0
def PySem.W.Fast.tw8563979191541667768 : Nat := 0
def PySem.W.Fast.tw8880349073706270066 : Nat := 0
def PySem.W.Fast.tw12465750689862714647 : Nat := 0
def PySem.W.Fast.tw9053249315687287273 : Nat := 0
def PySem.W.Fast.tw7750431737414768566 : Nat := 0
def PySem.W.Fast.tw3351556023712959928 : Nat := 0
def PySem.W.Fast.tw6871554377445965711 : Nat := 0
def PySem.W.Fast.tw13565491367849830419 : Nat := 0
def PySem.W.Fast.tw2922491717067483881 : Nat := 0
def PySem.W.Fast.tw12315946879345055534 : Nat := 0
def PySem.W.Fast.tw6244922726117588042 : Nat := 0
def PySem.W.Fast.tw6756393211262875290 : Nat := 0
def PySem.W.Fast.tw7438612984788153034 : Nat := 0
def PySem.W.Fast.tw12169356669627797647 : Nat := 0
def PySem.W.Fast.tw15099493359173193471 : Nat := 0
def PySem.W.Fast.tw14437696526432753852 : Nat := 0
set_option maxRecDepth 100000 in
set_option maxHeartbeats 0 in
theorem PySem.Challenge.cw_forestread_k25_whole_rows_of_the_wood_holds : PySem.Challenge.rw_forestread_k25_whole_rows_of_the_wood.Holds := by
 w_on;o_law;k_head;(case hw=>w_witness2)
 k_fill
 refine FR.walk (l:=PySem.Challenge.rw_forestread_k25_whole_rows_of_the_wood) rfl rfl (fun w h Y=>PySem.W.kIn_of Y) ?F
 case F=>
  intro w mg fa h KX G hmg;refine' FR.all_mk KX G hmg ..
  any_goals first |k_is |(delta L2.Dn;k_is) |(delta L2.Zn;k_is) |(delta L2.On;k_is) |(refine' L2.An.mk ?_ ?_;any_goals k_is) |(refine' L2.Ln.mk ?_ ?_ ?_;any_goals k_is) |k_exc |kts_exm |kit_is
