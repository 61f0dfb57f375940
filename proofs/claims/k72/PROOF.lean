import PyProof.Rows.All
import Wide.All
import OpenK.AllK
import Wide.FinOn
import Lean
import PyProof.EqAt
import PyProof.EqKinds
import PyProof.TupleCall
import PySem.Challenge.RW_forestread_k72_tolls
set_option Elab.async false
set_option linter.all false
set_option maxRecDepth 100000
abbrev YJL:=@List.length_map
abbrev YJM:=@List.getElem?_eq_some_iff
abbrev YJN:=@PySem.wpAny_bind
abbrev YJO:=@PySem.Heap.get?_push_of_some
abbrev YJP:=@Nat.le_refl
abbrev YJQ:=@List.getElem?_map
abbrev YJR:=@List.getElem?_eq_getElem
abbrev YJS:=@List.mem_of_getElem?
abbrev YJT:=@PyProof.Rows.Boot.«len»
abbrev YJU:=@decide_eq_true
abbrev YJV:=@decide_eq_false
abbrev YJW:=@List.mem_singleton
abbrev YJX:=@PySem.Heap.lt_size
abbrev YJY:=@Nat.lt_of_lt_of_le
abbrev YJZ:=@Bool.false_ne_true
abbrev YJa:=@List.size_toArray
abbrev YJb:=@PySem.wpAny_pure
abbrev YJc:=@PySem.Heap.get?_push_size
abbrev YJd:=@List.length_append
abbrev YJe:=@Bool.and_eq_true
abbrev YJf:=@List.mem_cons_of_mem
abbrev YJg:=@List.mem_cons
abbrev YJh:=@List.mem_map
abbrev YJi:=@List.mem_append_right
abbrev YJj:=@List.length_range
abbrev YJk:=@Option.some.inj
abbrev YJl:=@PyProof.Rows.Boot.«isinstance»
abbrev YJm:=@of_decide_eq_true
abbrev YJn:=@List.length_cons
abbrev YJo:=@List.map_append
abbrev YJp:=@List.mem_cons_self
abbrev YJq:=@Nat.ne_of_lt
abbrev YJr:=@Nat.lt_or_ge
abbrev YJs:=@List.mem_append
abbrev YJt:=@Nat.le_trans
abbrev YJu:=@Option.map_eq_some_iff
abbrev YJv:=@Option.isSome_iff_exists
abbrev YJw:=@Nat.zero_le
abbrev YJx:=@PySem.F.plainAttrs_list
abbrev YJy:=@List.getElem?_eq_none
abbrev YJz:=@PySem.F.type_list_append
abbrev YJ0:=@PySem.F.slot_list_append
abbrev YJ1:=@List.map_cons
abbrev YJ2:=@List.getElem?_append_right
abbrev YJ3:=@List.getElem?_range
abbrev YJ4:=@Array.length_toList
abbrev YJ5:=@List.getElem?_append_left
abbrev YJ6:=@List.all_eq_true
abbrev YJ7:=@Int.emod_nonneg
abbrev YJ8:=@List.not_mem_nil
abbrev YJ9:=@Int.emod_lt_of_pos
abbrev YKA:=@PySem.Heap.get?_update_other
abbrev YKB:=@Nat.lt_irrefl
abbrev YKC:=@PyProof.Rows.Boot.«min»
abbrev YKD:=@List.mem_append_left
abbrev YKE:=@decide_eq_true_eq
abbrev YKF:=@List.take_add_one
abbrev YKG:=@List.mem_range
abbrev YKH:=@List.getElem?_of_mem
abbrev YKI:=@Int.le_refl
abbrev YKJ:=@PyProof.Rows.Boot.«tuple»
abbrev YKK:=@List.map_congr_left
abbrev YKL:=@Int.le_trans
abbrev YKM:=@List.take_of_length_le
abbrev YKN:=@Int.mul_nonneg
abbrev YKO:=@List.length_take
abbrev YKP:=@Int.zero_add
abbrev YKQ:=@Array.getElem?_toList
abbrev YKR:=@Nat.zero_lt_one
abbrev YKS:=@List.nodup_cons
abbrev YKT:=@List.length_drop
abbrev YKU:=@PyProof.Rows.Boot.«list»
abbrev YKV:=@congrArg
abbrev YKW:=@PyProof.Rows.Boot.«all»
abbrev YKX:=@PySem.Heap.size_push
abbrev YKY:=@Bool.false_or
abbrev YKZ:=@Array.getElem?_eq_getElem
abbrev YKa:=@List.length_nil
abbrev YKb:=@PySem.Heap.get?_update_self
abbrev YKc:=@Nat.le_succ
abbrev YKd:=@List.filter_cons
abbrev YKe:=@Nat.add_sub_cancel_left
abbrev YKf:=@List.length_set
abbrev YKg:=@List.length_reverse
abbrev YKh:=@Bool.eq_iff_iff
abbrev YKi:=@List.getElem?_set_self
abbrev YKj:=@List.take_length
abbrev YKk:=@List.map_map
abbrev YKl:=@List.all_cons
abbrev YKm:=@Int.mul_ediv_add_emod
abbrev YKn:=@PyProof.Rows.Boot.«int»
abbrev YKo:=@List.take_zero
abbrev YKp:=@List.mem_of_find?_eq_some
abbrev YKq:=@List.mem_iff_getElem
abbrev YKr:=@List.find?_cons
abbrev YKs:=@List.ext_getElem?
abbrev YKt:=@Int.ne_of_gt
abbrev YKu:=@Int.mul_le_mul_of_nonneg_right
abbrev YKv:=@Int.le_of_lt
abbrev YKw:=@List.replicate_succ
abbrev YKx:=@List.any_eq_true
abbrev YKy:=@Int.mul_le_mul_of_nonneg_left
abbrev YKz:=@Array.getElem?_eq_none
abbrev YK0:=@Nat.lt_of_le_of_lt
abbrev YK1:=@Bool.false_eq_true
abbrev YK2:=@PySem.F.type_str_startswith
abbrev YK3:=@PySem.F.slot_str_startswith
abbrev YK4:=@Option.map_some
abbrev YK5:=@Nat.not_lt_zero
abbrev YK6:=@Nat.le_of_lt
abbrev YK7:=@List.mem_filter
abbrev YK8:=@List.cons_lt_cons_iff
abbrev YK9:=@Nat.not_lt
abbrev YLA:=@PyProof.Rows.Boot.«str»
abbrev YLB:=@List.getElem?_eq_none_iff
abbrev YLC:=@List.drop_eq_getElem_cons
abbrev YLD:=@Nat.lt_succ_self
abbrev YLE:=@Nat.le_add_right
abbrev YLF:=@List.getElem_mem
abbrev YLG:=@List.filterMap_cons
namespace L2
open PySem PySem.Spec PyProof.Rows
abbrev Key:=Sum Int Str
def YB6:Key→Value→Bool
 |.inl k,v=>Value.isInt k v
 |.inr x,v=>Value.isStrOf x v
def keyH (w:World):Key→Int
 |.inl k=>hashInt k
 |.inr x=>hashStr w x
theorem ZA:∀{k:Key}{v:Value},YB6 k v=true→(∃i t,k=Sum.inl i∧v=Value.int i t)∨(∃x t,k=Sum.inr x∧v=Value.str x t)
 |.inl i,v,h=>by
  obtain⟨t,e⟩:=Value.isInt_shape (k:=i) (v:=v) h;exact .inl ⟨i,t,rfl,e⟩
 |.inr x,v,h=>by
  obtain⟨t,e⟩:=Value.isStrOf_shape (x:=x) (v:=v) h;exact .inr ⟨x,t,rfl,e⟩
theorem YHH (i:Int) (t:Tok):YB6 (.inl i) (.int i t)=true:=by simp[YB6,Value.isInt]
theorem YHI (x:Str) (t:Tok):YB6 (.inr x) (.str x t)=true:=by simp[YB6,Value.isStrOf]
theorem key_ll (a b:Int):decide ((Sum.inl a:Key)=Sum.inl b)=(a == b):=by
 by_cases e:a=b
 ·subst e;simp
 ·have h:¬(Sum.inl a:Key)=Sum.inl b:=fun q=>e (Sum.inl.inj q)
  rw[YJV h];exact(beq_eq_false_iff_ne.mpr e).symm
theorem key_rr (a b:Str):decide ((Sum.inr a:Key)=Sum.inr b)=decide (a=b):=by
 by_cases e:a=b
 ·subst e;simp
 ·have h:¬(Sum.inr a:Key)=Sum.inr b:=fun q=>e (Sum.inr.inj q)
  rw[YJV h,YJV e]
theorem key_lr (a:Int) (b:Str):decide ((Sum.inl a:Key)=Sum.inr b)=false:=YJV nofun
theorem key_rl (a:Str) (b:Int):decide ((Sum.inr a:Key)=Sum.inl b)=false:=YJV nofun
def Y5 (prog:Program) (w:World):PySem.KeyKind prog w Key where
 is:=YB6
 hash:=keyH w
 inj:=fun v a b ha hb=>by
  rcases ZA ha with ⟨i,t,rfl,rfl⟩ |⟨x,t,rfl,rfl⟩
  ·rcases ZA hb with ⟨j,u,rfl,e⟩ |⟨y,u,rfl,e⟩
   ·injection e with e1 _;rw[e1]
   ·exact nomatch e
  ·rcases ZA hb with ⟨j,u,rfl,e⟩ |⟨y,u,rfl,e⟩
   ·exact nomatch e
   ·injection e with e1 _;rw[e1]
 byValue:=fun k v h=>by
  rcases ZA h with ⟨i,t,rfl,rfl⟩ |⟨x,t,rfl,rfl⟩ <;> rfl
 pyHash:=fun hv h=>by
  rcases ZA hv with ⟨i,t,rfl,rfl⟩ |⟨x,t,rfl,rfl⟩
  ·exact wpAny_pyHash_int h
  ·exact wpAny_pyHash_str h
 eqBool:=fun hu hv h=>by
  rcases ZA hu with ⟨i,t,rfl,rfl⟩ |⟨x,t,rfl,rfl⟩
  ·rcases ZA hv with ⟨j,u,rfl,rfl⟩ |⟨y,u,rfl,rfl⟩
   ·rw[key_ll]at h;exact wpAny_eqBool_int h
   ·rw[key_lr]at h;exact SeqAt.EqAt.int_str i t y u _ _ _ _ h
  ·rcases ZA hv with ⟨j,u,rfl,rfl⟩ |⟨y,u,rfl,rfl⟩
   ·rw[key_rl]at h;exact SeqAt.EqAt.str_int x t j u _ _ _ _ h
   ·rw[key_rr]at h;exact wpAny_eqBool_str h
 «strs»:=fun k x t v h=>by
  rcases ZA h with ⟨i,u,rfl,e⟩ |⟨y,u,rfl,e⟩
  ·exact nomatch e
  ·injection e with e1 _
   subst e1;cases v <;> rfl
theorem YEY (prog:Program) (w:World) (i:Int) (t:Tok):(Y5 prog w).is (.inl i) (.int i t)=true:=YHH i t
theorem YEZ (prog:Program) (w:World) (x:Str) (t:Tok):(Y5 prog w).is (.inr x) (.str x t)=true:=YHI x t
end L2
namespace L2
open PySem PySem.Spec PyProof.Rows
inductive V where
 |non |bl (b:Bool) |int (i:Int) |str (x:Str) |byt (b:Array UInt8) |flt (b:UInt64) |ref (a:Addr) |ty (n:String)
 deriving DecidableEq
def Yk:V→Value→Prop
 |.non,u=>u=Value.none
 |.bl b,u=>u=Value.bool b
 |.int i,u=>∃t,u=Value.int i t
 |.str x,u=>∃t,u=Value.str x t
 |.byt b,u=>∃t,u=Value.bytes b t
 |.flt b,u=>∃t,u=Value.float b t
 |.ref a,u=>u=Value.ref a
 |.ty n,u=>u=Value.type n
abbrev Ye:List V→List Value→Prop:=Paired Yk
theorem Ye.length {xs:List V}{us:List Value} (r:Ye xs us):xs.length=us.length:=Paired.length r
theorem Ye.get:∀{xs:List V}{us:List Value}{i:Nat}{x:V},Ye xs us→xs[i]?=some x→∃u,us[i]?=some u∧Yk x u
 |_,_,_,_,.nil,e=>by simp at e
 |_,_,0,_,.cons r _,e=>by simp at e;subst e;exact⟨_,rfl,r⟩
 |_,_,i + 1,x,.cons _ t,e=>by
  obtain⟨u,h1,h2⟩:=Ye.get (i:=i) (x:=x) t (by simpa using e);exact⟨u,by simpa using h1,h2⟩
theorem Ye.set {x:V}{u:Value} (r:Yk x u):∀{xs:List V}{us:List Value} (i:Nat),Ye xs us→Ye (xs.set i x) (us.set i u)
 |_,_,_,.nil=>.nil
 |_,_,0,.cons _ t=>.cons r t
 |_,_,i + 1,.cons q t=>.cons q (Ye.set r i t)
theorem Ye.append:∀{xs ys:List V}{us ws:List Value},Ye xs us→Ye ys ws→Ye (xs ++ ys) (us ++ ws)
 |_,_,_,_,.nil,s=>s
 |_,_,_,_,.cons r t,s=>.cons r (Ye.append t s)
theorem Ye.take:∀{xs:List V}{us:List Value} (n:Nat),Ye xs us→Ye (xs.take n) (us.take n)
 |_,_,0,_=>.nil
 |_,_,_ + 1,.nil=>.nil
 |_,_,n + 1,.cons r t=>.cons r (Ye.take n t)
theorem Ye.drop:∀{xs:List V}{us:List Value} (n:Nat),Ye xs us→Ye (xs.drop n) (us.drop n)
 |_,_,0,r=>r
 |_,_,_ + 1,.nil=>.nil
 |_,_,n + 1,.cons _ t=>Ye.drop n t
theorem Ye.none_of:∀{xs:List V}{us:List Value}{i:Nat},Ye xs us→xs[i]?=none→us[i]?=none:=fun{xs us i} r e=>by
 have h1:=r.length;have h2:xs.length≤i:=YLB.mp e;exact YLB.mpr (by omega)
def X2:Option V→Option Value→Prop
 |some v,some u=>Yk v u
 |none,none=>True
 |_,_=>False
def KV {κ:Type}:List (κ×V)→List (κ×Value)→Prop:=Paired fun(p:κ×V) (q:κ×Value)=>p.1=q.1∧Yk p.2 q.2
def kV:Key→V
 |.inl i=>.int i
 |.inr x=>.str x
inductive HO where
 |lst (xs:List V)
 |tup (xs:List V)
 |dK (kvs:List (Key×V)) |dT (kvs:List (List Key×V))
 |set (S:Int→Bool) (n:Nat)
 |ins (C dx:Addr) (fs:List (Str×V))
 |own (x:Addr)
 |xd (fs:List (Str×V))
 |met (f x:Addr)
 |rng (lo hi:Int)
 |frz (o:Obj) (u:HO)
 |tbl (ps:Array Value)
 |ext (φ:Heap→Prop)
abbrev Hp:=Addr→Option HO
def upd (H:Hp) (a:Addr) (o:HO):Hp:=fun b=>if b=a then some o else H b
theorem YD {H:Hp}{a:Addr}{o:HO}:upd H a o a=some o:=by unfold upd;rw[if_pos rfl]
theorem YH {H:Hp}{a b:Addr}{o:HO} (h:b≠a):upd H a o b=H b:=by unfold upd;rw[if_neg h]
theorem YBz {H:Hp}{a:Addr}{o u:HO}:upd (upd H a o) a u=upd H a u:=by
 funext b;unfold upd;split <;> rfl
theorem YC8 {H:Hp}{a b:Addr}{o u:HO} (h:H a=some o) (h':H b=some u) (d:o≠u):a≠b:=by
 intro e;subst e;rw[h]at h';exact d (YJk h')
theorem YR {H:Hp}{a b:Addr}{o:HO} (h:H a=some o) (h':H b=none):a≠b:=by
 intro e;subst e;rw[h]at h';cases h'
section
variable (P:Program) (w:World)
def Yj (H:Hp) (h:Heap) (a:Addr):HO→Prop
 |.lst xs=>xs.length≤sizeLine∧∃(its:List Value) (n:Nat),Ye xs its∧h.get? a=some { cls:=.type "list",data:=.seq its.toArray n }
 |.tup xs=>xs.length≤sizeLine∧∃its:List Value,Ye xs its∧IsTup h a its.toArray
 |.dK kvs=>kvs.length≤sizeLine∧(a == sysModules)=false∧∃vs,KV kvs vs∧h.DictOf (Y5 P w) a vs
 |.dT kvs=>kvs.length≤sizeLine∧(a == sysModules)=false∧∃xs:List (List Key×Addr×Value),
   Paired (fun(p:List Key×V) (q:List Key×Addr×Value)=>p.1=q.1∧H q.2.1=some (.tup (p.1.map kV))∧Yk p.2 q.2.2) kvs xs∧
   ∃o es ep,h.get? a=some o∧o.ExactDict∧o.data=.dict es ep∧es.toList=xs.map (entryOfKey (tupleKind (Y5 P w)))∧(xs.map (·.1)).Nodup
 |.set S n=>h.SetOf (intKind P w) a S n
 |.ins C dx fs=>H dx=some (.own a)∧fs.length≤1000∧dx≠a∧h.get? a=some (PySem.W.instObj C dx)∧
   ∃mA,h.Ns1 dx mA∧(∀f,X2 (fs.lookup f) (mA f))∧PySem.Within mA (fs.map (·.1))
 |.own _=>∃o,h.get? a=some o
 |.xd fs=>∃mA,h.Ns1 a mA∧∀f,X2 (fs.lookup f) (mA f)
 |.rng lo hi=>∃t u v,h.get? a=some { cls:=.type "range",data:=.fields #[.int lo t,.int hi u,.int 1 v] }
 |.frz o u=>h.get? a=some o∧Yj H h a u
 |.tbl ps=>h.get? a=some { cls:=.none,data:=.fields ps }
 |.met f x=>h.get? a=some (PySem.W.methodObj (.ref f) (.ref x))
 |.ext φ=>φ h∧(∃o,h.get? a=some o)∧∀h1 h2:Heap,φ h1→(∀o,h1.get? a=some o→h2.get? a=some o)→φ h2
def HOk (H:Hp) (h:Heap):Prop:=∀a o,H a=some o→Yj P w H h a o
end
section
variable {P:Program}{w:World}{H H':Hp}{h h':Heap}{a:Addr}{o:HO}
theorem Yj.lt (x:Yj P w H h a o):a < h.objs.size:=by
 cases o with
 |lst xs=>obtain⟨_,_,_,_,e⟩:=x;exact YJX e
 |tup xs=>obtain⟨_,_,_,p⟩:=x;exact p.lt
 |dK kvs=>obtain⟨_,_,_,_,o,_,_,e,_⟩:=x;exact YJX e
 |dT kvs=>obtain⟨_,_,_,_,o,_,_,e,_⟩:=x;exact YJX e
 |set S n=>obtain⟨o,_,_,_,e,_⟩:=x;exact YJX e
 |ins C dx fs=>obtain⟨_,_,_,e,_⟩:=x;exact YJX e
 |own y=>obtain⟨_,e⟩:=x;exact YJX e
 |xd fs=>obtain⟨_,⟨_,_,_,e,_⟩,_⟩:=x;exact YJX e
 |rng lo hi=>obtain⟨_,_,_,e⟩:=x;exact YJX e
 |frz ob u=>obtain⟨e,_⟩:=x;exact YJX e
 |tbl ps=>exact YJX (show h.get? a=some _ from x)
 |met f y=>exact YJX (show h.get? a=some _ from x)
 |ext φ=>obtain⟨_,⟨_,e⟩,_⟩:=x;exact YJX e
theorem Paired.mapP {α β:Type}{F G:α→β→Prop}:∀{l₁:List α}{l₂:List β},Paired F l₁ l₂→(∀a b,F a b→G a b)→Paired G l₁ l₂
 |_,_,.nil,_=>.nil
 |_,_,.cons r t,f=>.cons (f _ _ r) (Paired.mapP t f)
theorem Yj.stay (x:Yj P w H h a o) (k:∀b u,(b=a∨H b=some (.own a))→h.get? b=some u→h'.get? b=some u)
  (ho:∀b,H b=some (.own a)→H' b=some (.own a)) (ht:∀b xs,H b=some (.tup xs)→H' b=some (.tup xs)):Yj P w H' h' a o:=by
 induction o with
 |lst xs=>obtain⟨z,its,n,r,e⟩:=x;exact⟨z,its,n,r,k _ _ (.inl rfl) e⟩
 |tup xs=>obtain⟨z,its,r,ob,e,c⟩:=x;exact⟨z,its,r,ob,k _ _ (.inl rfl) e,c⟩
 |dK kvs=>obtain⟨z,y,vs,r,ob,es,ep,e,c⟩:=x;exact⟨z,y,vs,r,ob,es,ep,k _ _ (.inl rfl) e,c⟩
 |dT kvs=>
  obtain⟨z,y,xs,r,ob,es,ep,e,c⟩:=x;exact⟨z,y,xs,Paired.mapP r fun p q z=>⟨z.1,ht _ _ z.2.1,z.2.2⟩,ob,es,ep,k _ _ (.inl rfl) e,c⟩
 |set S n=>obtain⟨ob,es,ep,t,e,c⟩:=x;exact⟨ob,es,ep,t,k _ _ (.inl rfl) e,c⟩
 |ins C dx fs=>
  obtain⟨d,z,ne,e,mA,⟨od,es,ep,e2,c⟩,r⟩:=x;exact⟨ho _ d,z,ne,k _ _ (.inl rfl) e,mA,⟨od,es,ep,k _ _ (.inr d) e2,c⟩,r⟩
 |own y=>obtain⟨ob,e⟩:=x;exact⟨ob,k _ _ (.inl rfl) e⟩
 |xd fs=>obtain⟨mA,⟨od,es,ep,e,c⟩,r⟩:=x;exact⟨mA,⟨od,es,ep,k _ _ (.inl rfl) e,c⟩,r⟩
 |rng lo hi=>obtain⟨t,u,v,e⟩:=x;exact⟨t,u,v,k _ _ (.inl rfl) e⟩
 |frz ob u ih=>obtain⟨e,q⟩:=x;exact⟨k _ _ (.inl rfl) e,ih q⟩
 |tbl ps=>
  have e:h.get? a=some { cls:=.none,data:=.fields ps }:=x;show h'.get? a=some { cls:=.none,data:=.fields ps };exact k a _ (.inl rfl) e
 |met f y=>
  have e:h.get? a=some (PySem.W.methodObj (.ref f) (.ref y)):=x;show h'.get? a=some (PySem.W.methodObj (.ref f) (.ref y));exact k a _ (.inl rfl) e
 |ext φ=>obtain⟨p,⟨o,e⟩,st⟩:=x;exact⟨st _ _ p fun o q=>k _ _ (.inl rfl) q,⟨o,k _ _ (.inl rfl) e⟩,st⟩
theorem HOk.lt (x:HOk P w H h) (e:H a=some o):a < h.objs.size:=(x a o e).lt
theorem HOk.fresh (x:HOk P w H h) (e:h.objs.size≤a):H a=none:=by
 cases q:H a with
 |none=>rfl
 |some u=>exact absurd (YJY (x.lt q) e) (YKB _)
theorem HOk.kept (x:HOk P w H h) (k:∀b u,h.get? b=some u→h'.get? b=some u):HOk P w H h':=fun a o e=>
 (x a o e).stay (fun b u _ q=>k b u q) (fun _ q=>q) fun _ _ q=>q
theorem HOk.laid (x:HOk P w H h) (k:∀b u,h.get? b=some u→h'.get? b=some u) (hp:h.objs.size≤a) (new:Yj P w (upd H a o) h' a o):HOk P w (upd H a o) h':=fun b u e=>by
 have hn:=x.fresh hp
 by_cases hb:b=a
 ·subst hb;rw[YD]at e;cases e;exact new
 ·rw[YH hb]at e;exact(x b u e).stay (fun c v _ q=>k c v q) (fun c q=>by rw[YH (YR q hn)];exact q) fun c xs q=>by rw[YH (YR q hn)];exact q
end
def Rd (H:Hp) (a:Addr) (u:HO):Prop:=H a=some u∨∃o,H a=some (.frz o u)
theorem Rd.ok {P:Program}{w:World}{H:Hp}{h:Heap}{a:Addr}{u:HO} (r:Rd H a u) (x:HOk P w H h):Yj P w H h a u:=by
 rcases r with r |⟨o,r⟩
 ·exact x a u r
 ·obtain⟨_,q⟩:=x a _ r;exact q
def Mut:Option HO→Prop
 |some (.lst _)=>True
 |some (.dK _)=>True
 |some (.dT _)=>True
 |some (.set _ _)=>True
 |some (.ins _ _ _)=>True
 |some (.ext _)=>True
 |_=>False
section
variable {P:Program}{w:World}{H:Hp}{h h':Heap}{x e:Addr}{o':HO}
theorem HOk.write (ok:HOk P w H h) (mu:Mut (H x)) (he:e=x∨H e=some (.own x)) (k:∀b u,b≠e→h.get? b=some u→h'.get? b=some u) (heo:∃u,h'.get? e=some u)
  (new:Yj P w (upd H x o') h' x o'):HOk P w (upd H x o') h':=fun b u q=>by
 have nown:∀c y,H c=some (.own y)→c≠x:=fun c y r z=>by subst z;rw[r]at mu;exact mu
 have ntup:∀c xs,H c=some (.tup xs)→c≠x:=fun c xs r z=>by subst z;rw[r]at mu;exact mu
 by_cases hb:b=x
 ·subst hb;rw[YD]at q;cases q;exact new
 ·rw[YH hb]at q
  by_cases hbe:b=e
  ·have q':H b=some (.own x):=by
    rcases he with z |z
    ·exact absurd (hbe.trans z) hb
    ·rw[hbe];exact z
   rw[q]at q';cases q';obtain⟨v,hv⟩:=heo;exact⟨v,by rw[hbe];exact hv⟩
  ·refine(ok b u q).stay (fun c v hc r=>k c v ?_ r) (fun c r=>by rw[YH (nown c b r)];exact r) fun c xs r=>by rw[YH (ntup c xs r)];exact r
   rcases hc with rfl |hc
   ·exact hbe
   ·rintro rfl;rcases he with z |z
    ·exact nown c b hc z
    ·rw[hc]at z;cases z;exact hb rfl
end
structure Un (fs ex:List Addr) (H H':Hp) (h h':Heap):Prop where
 keep:∀b o,h.get? b=some o→H b=none→b∉fs→b∉ex→h'.get? b=some o
 slot:∀b o,h.get? b=some o→H b=none→b∈fs→b∉ex→∃sl,h'.get? b=some { o with slots:=sl }
 free:∀b o,h.get? b=some o→H b=none→b∉ex→H' b=none
 there:∀b o,h.get? b=some o→b∉ex→∃o',h'.get? b=some o'
 tups:∀b xs,H b=some (.tup xs)→H' b=some (.tup xs)
 frzs:∀b o u,H b=some (.frz o u)→H' b=some (.frz o u)
 tbls:∀b ps,H b=some (.tbl ps)→∃more,H' b=some (.tbl (ps ++ more))
section
variable {fs fs' ex ex':List Addr}{H H1 H2:Hp}{h h1 h2 h':Heap}{a x e:Addr}{o:HO}
theorem Un.any (u:Un fs ex H H1 h h1) {b:Addr}{ob:Obj} (q:h.get? b=some ob) (n:H b=none) (hx:b∉ex):∃sl,h1.get? b=some { ob with slots:=sl }:=by
 by_cases hb:b∈fs
 ·exact u.slot b ob q n hb hx
 ·exact⟨ob.slots,u.keep b ob q n hb hx⟩
theorem Un.trans (a:Un fs ex H H1 h h1) (b:Un fs ex H1 H2 h1 h2):Un fs ex H H2 h h2 where
 keep:=fun c ob q n hc hx=>b.keep c ob (a.keep c ob q n hc hx) (a.free c ob q n hx) hc hx
 slot:=fun c ob q n hc hx=>by
  obtain⟨sl,e1⟩:=a.slot c ob q n hc hx;obtain⟨sl',e2⟩:=b.slot c _ e1 (a.free c ob q n hx) hc hx;exact⟨sl',e2⟩
 free:=fun c ob q n hx=>by
  obtain⟨o',e1⟩:=a.there c ob q hx;exact b.free c o' e1 (a.free c ob q n hx) hx
 there:=fun c ob q hx=>by
  obtain⟨o',e1⟩:=a.there c ob q hx;exact b.there c o' e1 hx
 tups:=fun c xs q=>b.tups c xs (a.tups c xs q)
 frzs:=fun c ob xs q=>b.frzs c ob xs (a.frzs c ob xs q)
 tbls:=fun c ps q=>by
  obtain⟨m1,e1⟩:=a.tbls c ps q;obtain⟨m2,e2⟩:=b.tbls c _ e1;exact⟨m1 ++ m2,by rw[e2,Array.append_assoc]⟩
theorem Un.kept (k:∀b u,h.get? b=some u→h'.get? b=some u):Un fs ex H H h h':=
 ⟨fun b ob q _ _ _=>k b ob q,fun b ob q _ _ _=>⟨ob.slots,k b ob q⟩,fun _ _ _ n _=>n,fun b ob q _=>⟨ob,k b ob q⟩,fun _ _ q=>q,fun _ _ _ q=>q,fun _ ps q=>⟨#[],by rw[q];simp⟩⟩
theorem Un.refl:Un fs ex H H h h:=Un.kept fun _ _ q=>q
theorem Un.laid (k:∀b u,h.get? b=some u→h'.get? b=some u) (hp:h.objs.size≤a) (hn:H a=none):Un fs ex H (upd H a o) h h' where
 keep:=fun b u q _ _ _=>k b u q
 slot:=fun b u q _ _ _=>⟨u.slots,k b u q⟩
 free:=fun b u q n _=>by rw[YH (YJq (YJY (YJX q) hp))];exact n
 there:=fun b u q _=>⟨u,k b u q⟩
 tups:=fun b xs q=>by rw[YH (YR q hn)];exact q
 frzs:=fun b u xs q=>by rw[YH (YR q hn)];exact q
 tbls:=fun b ps q=>⟨#[],by rw[YH (YR q hn),q];simp⟩
theorem Un.write (mu:Mut (H x)) (he:e=x∨H e=some (.own x)) (k:∀b u,b≠e→h.get? b=some u→h'.get? b=some u) (heo:∃u,h'.get? e=some u):Un fs ex H (upd H x o) h h':=by
 have hx:∀b,H b=none→b≠x:=fun b n z=>by subst z;rw[n]at mu;exact mu
 have hb:∀b,H b=none→b≠e:=fun b n z=>by
  subst z;rcases he with r |r
  ·exact hx b n r
  ·rw[n]at r;cases r
 have hm:∀b u,H b=some u→¬Mut (some u)→b≠x:=fun b u q nm z=>by subst z;rw[q]at mu;exact nm mu
 refine⟨fun b u q n _ _=>k b u (hb b n) q,fun b u q n _ _=>⟨u.slots,k b u (hb b n) q⟩,fun b u q n _=>by rw[YH (hx b n)];exact n,fun b u q _=>?_,
  fun b xs q=>by rw[YH (hm b _ q fun z=>z)];exact q,fun b u xs q=>by rw[YH (hm b _ q fun z=>z)];exact q,fun b ps q=>⟨#[],by rw[YH (hm b _ q fun z=>z),q];simp⟩⟩
 by_cases hbe:b=e
 ·subst hbe;exact heo
 ·exact⟨u,k b u hbe q⟩
end
def trk (h:Heap) (H:Hp):List Addr:=(List.range h.objs.size).filter fun a=>(H a).isSome
def YDy (h:Heap) (H:Hp):Heap:=PySem.W.hideAll h (trk h H)
theorem YHJ (h:Heap) (H:Hp):(YDy h H).objs.size=h.objs.size:=PySem.W.hideAll_size _ _
theorem YH1 {h:Heap}{H:Hp}{b:Addr}{o:Obj} (e:h.get? b=some o) (n:H b=none):(YDy h H).get? b=some o:=
 PySem.W.hideAll_get _ e fun hm=>by
  have q:(H b).isSome=true:=(YK7.mp hm).2;rw[n]at q;simp at q
theorem of_hidT {h:Heap}{H:Hp}{b:Addr}{o:Obj} (e:(YDy h H).get? b=some o):h.get? b=some o∧H b=none:=by
 have e':h.get? b=some o:=PySem.W.of_hideAll (trk h H) e;refine⟨e',?_⟩;cases q:H b with
 |none=>rfl
 |some x=>
  have hm:b∈trk h H:=YK7.mpr ⟨YKG.mpr (YJX e'),by simp[q]⟩;have z:(YDy h H).get? b=none:=PySem.W.hideAll_none (trk h H) hm;rw[z]at e;cases e
def allNews (g h:Heap) (L:Addr):List (Addr×Obj):=(List.range h.objs.size).filterMap fun a=>if a=L∨(g.get? a).isSome=true then none else (h.get? a).map fun o=>(a,o)
def rest (g h:Heap) (L d:Addr):List (Addr×Obj):=(allNews g h L).filter fun p=>decide (p.1≠d)
end L2
namespace L2
open PySem PySem.Spec PyProof.Rows
structure Mod (K:W.Frag) (mg:Str→Option Value) (base:Heap):Prop where
 kin:K.In base
 glob:base.Ns mainGlobals mg
 blt:∃mb,base.Ns builtinsNs mb∧∀x:Str,x≠"__name__"→mb x=bootBuiltins x
 nolimit:base.NoLimit
structure Cx where
 prog:Program
 w:World
 K:W.Frag
 mg:Str→Option Value
 base:Heap
 A:Around
 N:List Str
 s₀:Shared
 H₀:Hp
 env:Env
 outer:List Env
 stack:List Env
 ex:List Addr
 fn:Str→Bool
 calm:Bool
 pn:List (Addr×Obj)
 xe:Value→Shared→Prop
def frs (l:List Env):List Addr:=l.filterMap (·.frame)
abbrev Cx.fs (X:Cx):List Addr:=frs X.outer
def Vis (sc:Scope) (x:Str):Prop:=sc.names.lookup x=some .local∨sc.names.lookup x=some .cell∨sc.names.lookup x=some .free
def Loc (sc:Scope) (x:Str):Prop:=sc.names.lookup x=some .local∨sc.names.lookup x=some .cell
def Look (env:Env) (h:Heap) (m:Str→Option Value) (x:Str) (u:Value):Prop:=
 (env.kindOf x=some .local∧m x=some u)∨((env.kindOf x=some .cell∨env.kindOf x=some .free)∧∃c,env.cells.lookup x=some c∧h.IsCell c (some u))
structure Cx.Ok (X:Cx):Prop where
 mod:Mod X.K X.mg X.base
 kind:X.env.scope.kind=.function
 glob:X.env.globals=mainGlobals
 blt:X.env.builtins=builtinsNs
 above:X.s₀.heap.objs.size≤X.env.locals
 inj:∀x y c,X.env.cells.lookup x=some c→X.env.cells.lookup y=some c→x=y
 has:∀x,(X.env.kindOf x=some .cell∨X.env.kindOf x=some .free)→∃c,X.env.cells.lookup x=some c
 cab:∀x c,X.fn x=true→X.env.cells.lookup x=some c→X.s₀.heap.objs.size≤c
 hd:X.calm=true→X.A.handled=none
 frames:X.A.frames=some X.stack
 stk:X.stack=X.outer∨(X.stack=X.env :: X.outer∧X.env.frame=some X.env.locals)
 exf:∀b∈X.ex,b≠X.env.locals∧∀x c,X.env.cells.lookup x=some c→c≠b
 bs:∀b o,X.base.get? b=some o→X.s₀.heap.get? b=some o∧X.H₀ b=none
 bsz:X.base.objs.size≤X.s₀.heap.objs.size
 noex:∀b o,X.base.get? b=some o→b∉X.ex
 exfs:∀b∈X.ex,b∉X.fs
 funs:X.s₀.heap.FunFrames X.base X.outer
 frf:∀b∈X.fs,X.H₀ b=none
structure Inv (X:Cx) (pins:List (Addr×Obj)) (σ:List (Option V)) (H:Hp) (s:Shared):Prop where
 ok:X.Ok
 os:s.os=X.s₀.os
 bare:AllBare s.gens
 base:Un X.fs X.ex X.H₀ H X.s₀.heap s.heap
 loc:∃m,s.heap.Ns X.env.locals m∧∀(i:Nat) (x:Str) (v:V),X.N[i]?=some x→σ[i]?=some (some v)→Vis X.env.scope x→∃u,Yk v u∧Look X.env s.heap m x u
 cell:∀x c,X.env.cells.lookup x=some c→∃v,s.heap.IsCell c v
 free:H X.env.locals=none
 freeC:∀x c,X.env.cells.lookup x=some c→H c=none
 pin:∀p∈X.pn ++ pins,s.heap.get? p.1=some p.2∧H p.1=none∧p.1≠X.env.locals∧p.1∉X.fs∧∀v,p.2.data≠.cell v
 hok:HOk X.prog X.w H s.heap
 len:σ.length=X.N.length
section
variable {X:Cx}{pins:List (Addr×Obj)}{σ:List (Option V)}{H H':Hp}{s:Shared}{h':Heap}
theorem Cx.Ok.nofr (ok:X.Ok) {b:Addr}{o:Obj} (e:X.base.get? b=some o):b∉X.fs:=fun hb=>by
 have:=(ok.funs.mem hb).1;rw[e]at this;cases this
theorem Inv.bs (I:Inv X pins σ H s):∀b o,X.base.get? b=some o→s.heap.get? b=some o∧H b=none:=fun b o e=>
 ⟨I.base.keep b o (I.ok.bs b o e).1 (I.ok.bs b o e).2 (I.ok.nofr e) (I.ok.noex b o e),I.base.free b o (I.ok.bs b o e).1 (I.ok.bs b o e).2 (I.ok.noex b o e)⟩
theorem Inv.bk (I:Inv X pins σ H s):∀b o,X.base.get? b=some o→s.heap.get? b=some o:=fun b o e=>(I.bs b o e).1
theorem Inv.mod (I:Inv X pins σ H s):Mod X.K X.mg X.base:=I.ok.mod
theorem Inv.kIn (I:Inv X pins σ H s):X.K.In s.heap:=I.ok.mod.kin.keeps I.bk
theorem Inv.lt (I:Inv X pins σ H s):X.env.locals < s.heap.objs.size:=let ⟨_,hn,_⟩:=I.loc;hn.lt
theorem Inv.sz (I:Inv X pins σ H s):X.s₀.heap.objs.size≤s.heap.objs.size:=YJt I.ok.above (YK6 I.lt)
theorem Inv.nofs (I:Inv X pins σ H s) {a:Addr} (h:s.heap.objs.size≤a):a∉X.fs:=fun hb=>by
 obtain⟨_,o,ho,_⟩:=I.ok.funs.mem hb;exact absurd (YJY (YJX ho) (YJt I.sz h)) (YKB _)
theorem Inv.cne (I:Inv X pins σ H s):∀x c,X.env.cells.lookup x=some c→c≠X.env.locals:=fun x c e z=>by
 obtain⟨v,o,ho,hd⟩:=I.cell x c e;obtain⟨m,⟨o',es,ep,ho',hd',_⟩,_⟩:=I.loc;rw[z,ho']at ho;cases ho;rw[hd']at hd;cases hd
theorem Inv.funs (I:Inv X pins σ H s):s.heap.FunFrames X.base X.outer:=by
 have all:∀(l:List Env),(∀b∈frs l,b∈X.fs)→X.s₀.heap.FunFrames X.base l→s.heap.FunFrames X.base l:=by
  intro l
  induction l with
  |nil=>intro _ _;trivial
  |cons env r ih=>
   intro hs hl;obtain⟨hk,⟨L,o,hf,hn,ho,hd⟩,hr⟩:=hl;have hL:L∈X.fs:=hs L (by unfold frs;rw[YLG,hf];exact YJp);obtain⟨sl,e⟩:=I.base.slot L o ho (I.ok.frf L hL) hL fun z=>I.ok.exfs L z hL
   exact⟨hk,⟨L,_,hf,hn,e,hd⟩,ih (fun b hb=>hs b (by unfold frs;rw[YLG,hf];exact YJf _ hb)) hr⟩
 exact all X.outer (fun _ hb=>hb) I.ok.funs
theorem Inv.stack (I:Inv X pins σ H s):s.heap.FunFrames X.base X.stack:=by
 rcases I.ok.stk with e |⟨e,hf⟩
 ·rw[e];exact I.funs
 ·rw[e];obtain⟨m,hn,_⟩:=I.loc;refine .cons (by rw[I.ok.kind];decide) hf hn ?_ I.funs;exact Heap.get?_none_of_le (YJt I.ok.bsz I.ok.above)
theorem Inv.stkSub (I:Inv X pins σ H s):∀b∈frs X.stack,b∈X.env.locals :: X.fs:=fun b hb=>by
 rcases I.ok.stk with e |⟨e,hf⟩
 ·rw[e]at hb;exact YJf _ hb
 ·rw[e]at hb;unfold frs at hb;rw[YLG,hf]at hb;exact hb
theorem Inv.stkFree (I:Inv X pins σ H s):∀b∈frs X.stack,H b=none:=fun b hb=>by
 rcases YJg.mp (I.stkSub b hb) with e |hb
 ·rw[e];exact I.free
 ·obtain⟨_,o,ho,_⟩:=I.ok.funs.mem hb;exact I.base.free b o ho (I.ok.frf b hb) fun z=>I.ok.exfs b z hb
theorem Inv.step {g':Array GenState}{t':Nat}{d':Drawn}{ch:List Addr} (I:Inv X pins σ H s)
  (hch:∀b∈ch,(b∈X.ex∨X.s₀.heap.objs.size≤b)∧b≠X.env.locals∧(∀x c,X.env.cells.lookup x=some c→c≠b)∧∀p∈X.pn ++ pins,p.1≠b)
  (keep:∀b o,b≠X.env.locals→b∉X.fs→b∉ch→s.heap.get? b=some o→H b=none→h'.get? b=some o)
  (slot:∀b o,b≠X.env.locals→b∈X.fs→b∉ch→s.heap.get? b=some o→H b=none→∃sl,h'.get? b=some { o with slots:=sl }) (free:∀b o,b∉ch→s.heap.get? b=some o→H b=none→H' b=none)
  (there:∀b o,b∉ch→s.heap.get? b=some o→∃o',h'.get? b=some o')
  (tups:∀b xs,H b=some (.tup xs)→H' b=some (.tup xs)) (frzs:∀b o u,H b=some (.frz o u)→H' b=some (.frz o u)) (tbls:∀b ps,H b=some (.tbl ps)→∃more,H' b=some (.tbl (ps ++ more)))
  (ns:∀m,s.heap.Ns X.env.locals m→h'.Ns X.env.locals m) (hok:HOk X.prog X.w H' h') (hg:AllBare g'):
  Inv X pins σ H' { s with heap:=h',gens:=g',drawn:=d',toks:=t' }:=by
 have neL:∀b o,X.s₀.heap.get? b=some o→b≠X.env.locals:=fun b o e=>YJq (YJY (YJX e) I.ok.above)
 have neC:∀b o,X.s₀.heap.get? b=some o→b∉X.ex→b∉ch:=fun b o e hx hb=>by
  rcases(hch b hb).1 with z |z
  ·exact hx z
  ·exact absurd (YJY (YJX e) z) (YKB _)
 have cellK:∀x c,X.env.cells.lookup x=some c→∀v,s.heap.IsCell c v→h'.IsCell c v:=fun x c e v ⟨o,ho,hd⟩=>by
  have nch:c∉ch:=fun z=>(hch c z).2.2.1 x c e rfl
  by_cases hc:c∈X.fs
  ·obtain⟨sl,q⟩:=slot c o (I.cne x c e) hc nch ho (I.freeC x c e);exact⟨_,q,hd⟩
  ·exact⟨o,keep c o (I.cne x c e) hc nch ho (I.freeC x c e),hd⟩
 refine⟨I.ok,I.os,hg,⟨fun b o e n hb hx=>?_,fun b o e n hb hx=>?_,fun b o e n hx=>?_,fun b o e hx=>?_,fun b xs e=>tups b xs (I.base.tups b xs e),fun b o xs e=>frzs b o xs (I.base.frzs b o xs e),fun b ps e=>?_⟩,?_,fun x c e=>?_,?_,fun x c e=>?_,fun p hp=>?_,hok,I.len⟩
 ·exact keep b o (neL b o e) hb (neC b o e hx) (I.base.keep b o e n hb hx) (I.base.free b o e n hx)
 ·obtain⟨sl,e1⟩:=I.base.slot b o e n hb hx;obtain⟨sl',e2⟩:=slot b _ (neL b o e) hb (neC b o e hx) e1 (I.base.free b o e n hx);exact⟨sl',e2⟩
 ·obtain⟨o',e1⟩:=I.base.there b o e hx;exact free b o' (neC b o e hx) e1 (I.base.free b o e n hx)
 ·obtain⟨o',e1⟩:=I.base.there b o e hx;exact there b o' (neC b o e hx) e1
 ·obtain⟨m1,e1⟩:=I.base.tbls b ps e;obtain⟨m2,e2⟩:=tbls b _ e1;exact⟨m1 ++ m2,by rw[e2,Array.append_assoc]⟩
 ·obtain⟨m,hn,hl⟩:=I.loc;refine⟨m,ns m hn,fun i x v e1 e2 e3=>?_⟩;obtain⟨u,r,l⟩:=hl i x v e1 e2 e3;refine⟨u,r,?_⟩;rcases l with l |⟨k,c,e,z⟩
  ·exact .inl l
  ·exact .inr ⟨k,c,e,cellK x c e _ z⟩
 ·obtain⟨v,z⟩:=I.cell x c e;exact⟨v,cellK x c e v z⟩
 ·obtain⟨m,⟨o,_,_,ho,_⟩,_⟩:=I.loc;exact free _ o (fun z=>(hch _ z).2.1 rfl) ho I.free
 ·obtain⟨v,o,ho,hd⟩:=I.cell x c e;exact free c o (fun z=>(hch c z).2.2.1 x c e rfl) ho (I.freeC x c e)
 ·obtain⟨e,n,ne,nf,d⟩:=I.pin p hp;have nch:p.1∉ch:=fun z=>(hch p.1 z).2.2.2 p hp rfl
  exact⟨keep p.1 p.2 ne nf nch e n,free p.1 p.2 nch e n,ne,nf,d⟩
theorem Inv.un {t':Nat} (I:Inv X pins σ H s) (u:Un X.fs [] H H' s.heap h') (hok:HOk X.prog X.w H' h'):Inv X pins σ H' { s with heap:=h',toks:=t' }:=by
 obtain⟨m,⟨o,es,ep,ho,r⟩,_⟩:=id I.loc;obtain⟨sl,hL⟩:=u.any ho I.free (by simp);exact I.step (g':=s.gens) (d':=s.drawn) (ch:=[]) (fun _ z=>nomatch z) (fun b o _ hb _ e n=>u.keep b o e n hb (by simp)) (fun b o _ hb _ e n=>u.slot b o e n hb (by simp)) (fun b o _ e n=>u.free b o e n (by simp)) (fun b o _ e=>u.there b o e (by simp)) u.tups u.frzs u.tbls (fun m' hm=>by
  obtain⟨o',es',ep',ho',r'⟩:=hm;rw[ho]at ho';cases ho';exact⟨_,es',ep',hL,r'⟩) hok I.bare
theorem Inv.call {g':Array GenState}{t':Nat}{d':Drawn}{ch:List Addr} (I:Inv X pins σ H s) (u:Un (frs X.stack) ch H H' s.heap h') (hok:HOk X.prog X.w H' h') (hg:AllBare g')
  (hch:∀b∈ch,(b∈X.ex∨X.s₀.heap.objs.size≤b)∧b≠X.env.locals∧(∀x c,X.env.cells.lookup x=some c→c≠b)∧∀p∈X.pn ++ pins,p.1≠b):
  Inv X pins σ H' { s with heap:=h',gens:=g',drawn:=d',toks:=t' }:=by
 obtain⟨m,⟨o,es,ep,ho,r⟩,_⟩:=id I.loc;obtain⟨sl,hL⟩:=u.any ho I.free fun z=>(hch _ z).2.1 rfl
 exact I.step (ch:=ch) hch (fun b o hL hb hc e n=>u.keep b o e n (fun z=>(YJg.mp (I.stkSub b z)).elim hL hb) hc) (fun b o _ _ hc e n=>u.any e n hc) (fun b o hc e n=>u.free b o e n hc) (fun b o hc e=>u.there b o e hc) u.tups u.frzs u.tbls (fun m' hm=>by
  obtain⟨o',es',ep',ho',r'⟩:=hm;rw[ho]at ho';cases ho';exact⟨_,es',ep',hL,r'⟩) hok hg
theorem Inv.turned {t':Nat}{it:Addr} (I:Inv X pins σ H s) (k:∀b o,b≠it→s.heap.get? b=some o→h'.get? b=some o) (hn:H it=none) (hL:it≠X.env.locals)
  (h1:it∈X.ex∨X.s₀.heap.objs.size≤it) (h2:∀x c,X.env.cells.lookup x=some c→c≠it) (h3:∀p∈X.pn ++ pins,p.1≠it):Inv X pins σ H { s with heap:=h',toks:=t' }:=by
 have nit:∀b u,H b=some u→b≠it:=fun b u e z=>by rw[z,hn]at e;cases e
 refine I.step (g':=s.gens) (d':=s.drawn) (ch:=[it]) (fun b hb=>?_) (fun b o _ _ hc e _=>k b o (fun z=>hc (by simp[z])) e) (fun b o _ _ hc e _=>⟨o.slots,k b o (fun z=>hc (by simp[z])) e⟩) (fun _ _ _ _ n=>n)
  (fun b o hc e=>⟨o,k b o (fun z=>hc (by simp[z])) e⟩) (fun _ _ e=>e) (fun _ _ _ e=>e) (fun b ps e=>⟨#[],by rw[e];simp⟩) (fun m hm=>?_) (fun b u e=>?_) I.bare
 ·have e:b=it:=by simpa using hb
  subst e;exact⟨h1,hL,h2,h3⟩
 ·obtain⟨o,es,ep,ho,r⟩:=hm;exact⟨o,es,ep,k _ o (Ne.symm hL) ho,r⟩
 ·refine(I.hok b u e).stay (fun c v hc q=>k c v ?_ q) (fun _ q=>q) fun _ _ q=>q
  rcases hc with z |z
  ·rw[z];exact nit b u e
  ·exact nit c _ z
theorem Inv.tok (I:Inv X pins σ H s) (t:Nat):Inv X pins σ H { s with toks:=t }:=I.un (h':=s.heap) (t':=t) Un.refl I.hok
theorem Inv.kept {t':Nat} (I:Inv X pins σ H s) (k:∀b u,s.heap.get? b=some u→h'.get? b=some u):Inv X pins σ H { s with heap:=h',toks:=t' }:=I.un (Un.kept k) (I.hok.kept k)
theorem Inv.laid {a:Addr}{o:HO}{t':Nat} (I:Inv X pins σ H s) (k:∀b u,s.heap.get? b=some u→h'.get? b=some u) (hp:s.heap.objs.size≤a) (new:Yj X.prog X.w (upd H a o) h' a o):
  Inv X pins σ (upd H a o) { s with heap:=h',toks:=t' }:=I.un (Un.laid k hp (I.hok.fresh hp)) (I.hok.laid k hp new)
theorem Inv.write {x e:Addr}{o:HO}{t':Nat} (I:Inv X pins σ H s) (mu:Mut (H x)) (he:e=x∨H e=some (.own x)) (k:∀b u,b≠e→s.heap.get? b=some u→h'.get? b=some u) (heo:∃u,h'.get? e=some u)
  (new:Yj X.prog X.w (upd H x o) h' x o):Inv X pins σ (upd H x o) { s with heap:=h',toks:=t' }:=I.un (Un.write mu he k heo) (I.hok.write mu he k heo new)
theorem Inv.pins_of {pins':List (Addr×Obj)} (I:Inv X pins σ H s) (h:∀p∈pins',s.heap.get? p.1=some p.2∧H p.1=none∧p.1≠X.env.locals∧p.1∉X.fs∧∀v,p.2.data≠.cell v):Inv X pins' σ H s:=
 ⟨I.ok,I.os,I.bare,I.base,I.loc,I.cell,I.free,I.freeC,fun p hp=>(YJs.mp hp).elim (fun z=>I.pin p (YKD _ z)) (h p),I.hok,I.len⟩
theorem YEa {N:List Str} (hN:N.Nodup) {i j:Nat}{x:Str} (a:N[i]?=some x) (b:N[j]?=some x):i=j:=by
 obtain⟨h1,e1⟩:=YJM.mp a;obtain⟨h2,e2⟩:=YJM.mp b;exact(List.getElem_inj hN).mp (e1.trans e2.symm)
theorem YHK {M:Model}{A:Around}{E:Value→Shared→Prop}{i:Nat}{x:Str}{v:V}{u:Value}{Q:Unit→Shared→Prop} (I:Inv X pins σ H s) (hN:X.N.Nodup) (hi:X.N[i]?=some x) (hx:Loc X.env.scope x) (r:Yk v u)
  (h:∀s',Inv X pins (σ.set i (some v)) H s'→(∃a,Heap.SameBut a s.heap s'.heap∧(a=X.env.locals∨X.env.cells.lookup x=some a))→Q () s') (hf:X.fn x=true∨X.env.scope.names.lookup x=some .local:=by first |exact .inl rfl |exact .inr rfl |assumption):wpAny M A (storeName X.env x u) Q E s:=by
 obtain⟨m,hn,hl⟩:=id I.loc;have hcls:(X.env.scope.kind == .class || (X.env.scope.kind == .module && X.env.locals != X.env.globals))=false:=by rw[I.ok.kind];rfl
 have hiσ:i < σ.length:=by rw[I.len];exact(YJM.mp hi).1
 have cne:=I.cne;have tracked:∀{a:Addr}{h':Heap},(∃o,s.heap.get? a=some o∧H a=none)→Heap.SameBut a s.heap h'→HOk X.prog X.w H h':=fun{a h'} ha hs b ob e=>by
  obtain⟨_,_,hfree⟩:=ha;refine(I.hok b ob e).stay (fun c w' hc q=>(hs.2 c ?_).trans q) (fun _ q=>q) fun _ _ q=>q
  rintro rfl;rcases hc with rfl |hc
  ·rw[hfree]at e;cases e
  ·rw[hfree]at hc;cases hc
 rcases hx with hk |hk
 ·refine wpAny_storeName_local hk hn (fun h' hn' hs=>?_) hcls;obtain⟨oL,_,_,hoL,_⟩:=id hn;refine h _ ⟨I.ok,I.os,I.bare,⟨fun b o e n hb hx=>?_,fun b o e n hb hx=>?_,I.base.free,fun b o e hx=>?_,I.base.tups,I.base.frzs,I.base.tbls⟩,⟨_,hn',fun j y v' e1 e2 e3=>?_⟩,fun y c e=>?_,I.free,I.freeC,fun p hp=>?_,tracked ⟨oL,hoL,I.free⟩ hs,by simpa using I.len⟩ ⟨_,hs,.inl rfl⟩
  ·exact(hs.2 b (YJq (YJY (YJX e) I.ok.above))).trans (I.base.keep b o e n hb hx)
  ·obtain⟨sl,e1⟩:=I.base.slot b o e n hb hx;exact⟨sl,(hs.2 b (YJq (YJY (YJX e) I.ok.above))).trans e1⟩
  ·obtain⟨o',e1⟩:=I.base.there b o e hx;exact⟨o',(hs.2 b (YJq (YJY (YJX e) I.ok.above))).trans e1⟩
  ·by_cases hj:j=i
   ·subst hj;rw[hi]at e1;cases e1;rw[YKi hiσ]at e2;cases e2;exact⟨u,r,.inl ⟨hk,by simp⟩⟩
   ·rw[List.getElem?_set_ne (Ne.symm hj)]at e2;obtain⟨u',r',q⟩:=hl j y v' e1 e2 e3;refine⟨u',r',?_⟩;rcases q with ⟨k,e⟩ |⟨k,c,e,z⟩
    ·refine .inl ⟨k,?_⟩;have:y≠x:=fun e=>hj (YEa hN e1 (e ▸ hi))
     simp[this,e]
    ·exact .inr ⟨k,c,e,z.sameBut hs (cne y c e)⟩
  ·obtain⟨w',z⟩:=I.cell y c e;exact⟨w',z.sameBut hs (cne y c e)⟩
  ·obtain⟨e,n,ne,nf,d⟩:=I.pin p hp;exact⟨(hs.2 p.1 ne).trans e,n,ne,nf,d⟩
 ·have hfn:X.fn x=true:=by
   rcases hf with z |z
   ·exact z
   ·rw[z]at hk;cases hk
  obtain⟨c,hc⟩:=I.ok.has x (.inl hk);obtain⟨w',z⟩:=I.cell x c hc;refine wpAny_storeName_cell I.ok.kind hk hc z (fun h' hc' hs=>?_);obtain⟨oc,hoc,hocd⟩:=id z;refine h { s with heap:=h' } ⟨I.ok,I.os,I.bare,⟨fun b o e n hb hx=>?_,fun b o e n hb hx=>?_,I.base.free,fun b o e hx=>?_,I.base.tups,I.base.frzs,I.base.tbls⟩,⟨m,hn.sameBut hs (Ne.symm (cne x c hc)),fun j y v' e1 e2 e3=>?_⟩,fun y c' e=>?_,I.free,I.freeC,fun p hp=>?_,tracked ⟨oc,hoc,I.freeC x c hc⟩ hs,by simpa using I.len⟩ ⟨c,hs,.inr hc⟩
  ·exact(hs.2 b (YJq (YJY (YJX e) (I.ok.cab x c hfn hc)))).trans (I.base.keep b o e n hb hx)
  ·obtain⟨sl,e1⟩:=I.base.slot b o e n hb hx;exact⟨sl,(hs.2 b (YJq (YJY (YJX e) (I.ok.cab x c hfn hc)))).trans e1⟩
  ·obtain⟨o',e1⟩:=I.base.there b o e hx;exact⟨o',(hs.2 b (YJq (YJY (YJX e) (I.ok.cab x c hfn hc)))).trans e1⟩
  ·by_cases hj:j=i
   ·subst hj;rw[hi]at e1;cases e1;rw[YKi hiσ]at e2;cases e2;exact⟨u,r,.inr ⟨.inl hk,c,hc,hc'⟩⟩
   ·rw[List.getElem?_set_ne (Ne.symm hj)]at e2;obtain⟨u',r',q⟩:=hl j y v' e1 e2 e3;refine⟨u',r',?_⟩;rcases q with q |⟨k,c',e,z'⟩
    ·exact .inl q
    ·refine .inr ⟨k,c',e,z'.sameBut hs ?_⟩;rintro rfl;exact hj (YEa hN e1 (I.ok.inj _ _ _ e hc ▸ hi))
  ·by_cases hcc:c'=c
   ·subst hcc;exact⟨_,hc'⟩
   ·obtain⟨w2,z2⟩:=I.cell y c' e;exact⟨w2,z2.sameBut hs hcc⟩
  ·obtain⟨e,n,ne,nf,d⟩:=I.pin p hp;refine⟨(hs.2 p.1 ?_).trans e,n,ne,nf,d⟩;intro q;rw[q,hoc]at e;have q':oc=p.2:=YJk e;exact d w' (by rw[←q'];exact hocd)
theorem YA2 {M:Model}{A:Around}{E:Value→Shared→Prop}{i:Nat}{x:Str}{v:V}{u:Value}{Q:Unit→Shared→Prop} (I:Inv X pins σ H s) (hN:X.N.Nodup) (hi:X.N[i]?=some x) (hx:Loc X.env.scope x) (r:Yk v u)
  (h:∀s',Inv X pins (σ.set i (some v)) H s'→Q () s') (hf:X.fn x=true∨X.env.scope.names.lookup x=some .local:=by first |exact .inl rfl |exact .inr rfl |assumption):wpAny M A (storeName X.env x u) Q E s:=
 YHK I hN hi hx r (fun s' I' _=>h s' I') hf
theorem Inv.call' {s':Shared}{ch:List Addr} (I:Inv X pins σ H s) (ho:s'.os=s.os) (u:Un (frs X.stack) ch H H' s.heap s'.heap) (hok:HOk X.prog X.w H' s'.heap) (hg:AllBare s'.gens)
  (hch:∀b∈ch,(b∈X.ex∨X.s₀.heap.objs.size≤b)∧b≠X.env.locals∧(∀x c,X.env.cells.lookup x=some c→c≠b)∧∀p∈X.pn ++ pins,p.1≠b):Inv X pins σ H' s':=by
 obtain⟨h',g',d',t',o'⟩:=s';have e:o'=s.os:=ho;subst e;exact I.call (g':=g') (t':=t') (d':=d') u hok hg hch
end
abbrev XK:=Value→Option Addr→Hp→Prop
abbrev St:=List (Option V)
abbrev VK:=V→Hp→Prop
abbrev TE:=St→Hp→VK→Prop
abbrev TT:=St→Hp→(Bool→Hp→Prop)→Prop
abbrev TA:=St→Hp→(List V→Hp→Prop)→Prop
structure YAf where
 nx:St→Hp→Prop
 rt:VK
 bk:St→Hp→Prop:=fun _ _=>False
 ct:St→Hp→Prop:=fun _ _=>False
abbrev TS:=YAf→St→Hp→Prop
def EP (X:Cx) (pins:List (Addr×Obj)) (σ:St) (Q:VK) (u:Value) (s':Shared):Prop:=∃v H',Inv X pins σ H' s'∧Yk v u∧Q v H'
def TP (X:Cx) (pins:List (Addr×Obj)) (σ:St) (Q:Bool→Hp→Prop) (b:Bool) (s':Shared):Prop:=∃H',Inv X pins σ H' s'∧Q b H'
def AP (X:Cx) (pins:List (Addr×Obj)) (σ:St) (Q:List V→Hp→Prop) (us:List Value) (s':Shared):Prop:=∃vs H',Inv X pins σ H' s'∧Ye vs us∧Q vs H'
def SP (X:Cx) (pins:List (Addr×Obj)) (D:YAf) (f:Flow) (s':Shared):Prop:=
 match f with
 |.next=>∃σ' H',Inv X pins σ' H' s'∧D.nx σ' H'
 |.brk=>∃σ' H',Inv X pins σ' H' s'∧D.bk σ' H'
 |.cont=>∃σ' H',Inv X pins σ' H' s'∧D.ct σ' H'
 |.ret u=>∃v σ' H',Inv X pins σ' H' s'∧Yk v u∧D.rt v H'
def PE (X:Cx) (e:Expr) (t:TE):Prop:=
 ∀(pins:List (Addr×Obj)) (s:Shared) (σ:St) (H:Hp) (Q:VK),Inv X pins σ H s→t σ H Q→wpAny (model X.prog X.w) X.A (eval e X.env) (EP X pins σ Q) X.xe s
def PT (X:Cx) (e:Expr) (t:TT):Prop:=
 ∀(pins:List (Addr×Obj)) (s:Shared) (σ:St) (H:Hp) (Q:Bool→Hp→Prop),Inv X pins σ H s→t σ H Q→wpAny (model X.prog X.w) X.A (isTrue e X.env (eval e X.env)) (TP X pins σ Q) X.xe s
def PW (X:Cx) (e:Expr) (t:TT):Prop:=
 ∀(whole:Sem Value) (pins:List (Addr×Obj)) (s:Shared) (σ:St) (H:Hp) (Q:Bool→Hp→Prop),Inv X pins σ H s→t σ H Q→wpAny (model X.prog X.w) X.A (isTrue e X.env whole) (TP X pins σ Q) X.xe s
theorem PW.pt {X:Cx}{e:Expr}{t:TT} (h:PW X e t):PT X e t:=h _
def PA (X:Cx) (es:List Expr) (t:TA):Prop:=
 ∀(pos:Pos) (pins:List (Addr×Obj)) (s:Shared) (σ:St) (H:Hp) (Q:List V→Hp→Prop),Inv X pins σ H s→t σ H Q→wpAny (model X.prog X.w) X.A (spliced (backTo pos (starEach es X.env))) (AP X pins σ Q) X.xe s
def PS (X:Cx) (st:Stmt) (t:TS):Prop:=
 ∀(pins:List (Addr×Obj)) (s:Shared) (σ:St) (H:Hp) (D:YAf),Inv X pins σ H s→t D σ H→wpAny (model X.prog X.w) X.A (exec st X.env) (SP X pins D) X.xe s
def PSs (X:Cx) (st:List Stmt) (t:TS):Prop:=
 ∀(pins:List (Addr×Obj)) (s:Shared) (σ:St) (H:Hp) (D:YAf),Inv X pins σ H s→t D σ H→wpAny (model X.prog X.w) X.A (execs st X.env) (SP X pins D) X.xe s
theorem thn {α:Type}{t:Sem α}{Q Q':α→Shared→Prop}{M:Model}{A:Around}{E:Value→Shared→Prop}{s:Shared} (h:wpAny M A t Q E s) (hQ:∀a s,Q a s→Q' a s):wpAny M A t Q' E s:=wpAny_mono h hQ fun _ _ x=>x
end L2
namespace L2
open PySem PySem.Spec PyProof.Rows
section
variable {X:Cx}
inductive tVar_ (i:Nat) (σ:St) (H:Hp) (Q:VK):Prop where
 |mk (v:_) (h0_:σ[i]?=some (some v)) (h1_:Q v H):tVar_ i σ H Q
def tVar (i:Nat):TE:=fun σ H Q=>tVar_ i σ H Q
def tC (v:V):TE:=fun _ H Q=>Q v H
theorem pe_var {i:Nat}{x:Str}{pos:Pos} (hN:X.N[i]?=some x) (hv:Vis X.env.scope x) (hd:(x == ("__debug__":Str))=false:=by decide) (hcd:(x == ("__classdict__":Str))=false:=by decide):PE X (.Name x pos) (tVar i):=by
 intro pins s σ H Q I h;obtain⟨v,e,h⟩:=h;obtain⟨m,hn,hl⟩:=I.loc;obtain⟨u,r,l⟩:=hl i x v hN e hv;have fin:EP X pins σ Q u s:=⟨v,H,I,r,h⟩;rcases l with ⟨hk,hm⟩ |⟨hk,c,hc,hcell⟩
 ·exact wpAny_Name (wpAny_loadName_local I.ok.kind hk hn hm fin) hd
 ·rcases hk with hk |hk
  ·exact wpAny_Name (wpAny_loadName_cell I.ok.kind hk hc hcell fin) hd
  ·exact wpAny_Name (wpAny_loadName_free I.ok.kind hk hc hcell fin hcd) hd
theorem YC {i j pos}:PE X (.Constant (.int i) j pos) (tC (.int i)):=fun _ _ _ H _ I h=>wpAny_Constant_int ⟨.int i,H,I.tok _,⟨_,rfl⟩,h⟩
theorem Ja {b j pos}:PE X (.Constant (.bool b) j pos) (tC (.bl b)):=fun _ _ _ H _ I h=>Constant_bool ⟨.bl b,H,I,rfl,h⟩
theorem X6 {j pos}:PE X (.Constant .none j pos) (tC .non):=fun _ _ _ H _ I h=>Constant_none ⟨.non,H,I,rfl,h⟩
theorem Zk {x j pos}:PE X (.Constant (.str x) j pos) (tC (.str x)):=fun _ _ _ H _ I h=>Calls.Constant_str ⟨.str x,H,I.tok _,⟨_,rfl⟩,h⟩
def Gl (X:Cx) (x:Str):Prop:=X.env.kindOf x=some .globalImplicit
theorem YB0 {E:Value→Shared→Prop}{pins:List (Addr×Obj)}{s:Shared}{σ:St}{H:Hp}{x:Str}{u:Value}{pos:Pos}{Q:Value→Shared→Prop} (I:Inv X pins σ H s) (hg:Gl X x) (hm:X.mg x=some u) (h:Q u s)
  (hd:(x == ("__debug__":Str))=false:=by decide):wpAny (model X.prog X.w) X.A (eval (.Name x pos) X.env) Q E s:=
 Calls.Name_function_global I.ok.kind hg (Calls.loadGlobal_global (by rw[I.ok.glob];exact I.mod.glob.keeps I.bk) hm h) hd
theorem JK {E:Value→Shared→Prop}{pins:List (Addr×Obj)}{s:Shared}{σ:St}{H:Hp}{x:Str}{u:Value}{pos:Pos}{Q:Value→Shared→Prop} (I:Inv X pins σ H s) (hg:Gl X x) (hm:X.mg x=none) (hv:bootBuiltins x=some u) (h:Q u s)
  (hn:x≠"__name__":=by decide) (hd:(x == ("__debug__":Str))=false:=by decide):wpAny (model X.prog X.w) X.A (eval (.Name x pos) X.env) Q E s:=by
 obtain⟨mb,h1,h2⟩:=I.mod.blt;exact Calls.Name_function_global I.ok.kind hg (Calls.loadGlobal_builtin (by rw[I.ok.glob];exact I.mod.glob.keeps I.bk) hm (by rw[I.ok.blt];exact h1.keeps I.bk) ((h2 x hn).trans hv) h) hd
theorem Xh {x:Str}{v:V}{u:Value}{pos:Pos} (hg:Gl X x) (hm:X.mg x=some u) (r:Yk v u) (hd:(x == ("__debug__":Str))=false:=by decide):PE X (.Name x pos) (tC v):=
 fun _ _ _ H _ I h=>YB0 I hg hm ⟨v,H,I,r,h⟩ hd
theorem Zr {x:Str}{v:V}{u:Value}{pos:Pos} (hg:Gl X x) (hm:X.mg x=none) (hv:bootBuiltins x=some u) (r:Yk v u) (hn:x≠"__name__":=by decide) (hd:(x == ("__debug__":Str))=false:=by decide):PE X (.Name x pos) (tC v):=
 fun _ _ _ H _ I h=>JK I hg hm hv ⟨v,H,I,r,h⟩ hn hd
variable {a b:Expr}{ta tb:TE}{pos:Pos}
def PC (X:Cx) (op:CmpOp) (a b:Expr) (t:TE):Prop:=
 ∀(pins:List (Addr×Obj)) (s:Shared) (σ:St) (H:Hp) (Q:VK),Inv X pins σ H s→t σ H Q→
  wpAny (model X.prog X.w) X.A (eval a X.env) (fun v s₁=>wpAny (model X.prog X.w) X.A (eval b X.env) (fun u s₂=>wpAny (model X.prog X.w) X.A (compareOp op v u) (EP X pins σ Q) X.xe s₂) X.xe s₁) X.xe s
inductive tB_ (Q:Bool→Hp→Prop) (x:V) (H1:Hp):Prop where
 |mk (c:_) (h0_:x=.bl c) (h1_:Q c H1):tB_ Q x H1
def tB (t:TE):TT:=fun σ H Q=>t σ H fun x H1=>tB_ Q x H1
theorem YBL {op:CmpOp}{t:TE} (h:PC X op a b t) (h1:behindInMarks op b=false:=by first |exact nobehind _ (by decide) (by decide) |rfl):PT X (.Compare a [op] [b] pos) (tB t):=by
 intro pins s σ H Q I hw;refine wpAny_isTrue_Compare1 (thn (h pins s σ H _ I hw) fun v s1 h1=>thn h1 fun u s2 h2=>thn h2 fun c s3 ⟨x,H1,I1,r1,q1⟩=>?_) h1;obtain⟨d,rfl,q⟩:=q1;cases r1;exact wpAny_truthy_bool ⟨H1,I1,q⟩
theorem Zi {e:Expr}{t:TE} (h:PE X e t) (he:∀whole,isTrue e X.env whole=(do let v ←whole;standAt e.pos;holding [v] (truthy v)):=by intro _;rfl):PT X e (tB t):=by
 intro pins s σ H Q I hw;refine isTrue_plain (thn (h pins s σ H _ I hw) fun v s1 ⟨x,H1,I1,r1,q1⟩=>?_) (he _);obtain⟨d,rfl,q⟩:=q1;cases r1;exact wpAny_truthy_bool ⟨H1,I1,q⟩
variable {tA tB':TT}{rest:List Expr}
def tAnd (t u:TT):TT:=fun σ H Q=>t σ H fun c H1=>if c=true then u σ H1 Q else Q false H1
def tOr (t u:TT):TT:=fun σ H Q=>t σ H fun c H1=>if c=true then Q true H1 else u σ H1 Q
def tNot (t:TT):TT:=fun σ H Q=>t σ H fun c H1=>Q (!c) H1
theorem YB1 (ha:PT X a tA):PW X (.BoolOp .And [a] pos) tA:=by
 intro wh pins s σ H Q I h;refine isTrue_and (thn (ha pins s σ H Q I h) fun c s1 e=>?_);cases c with
 |true=>exact isTrue_and_nil e
 |false=>exact e
theorem YB7 (ha:PT X a tA):PW X (.BoolOp .Or [a] pos) tA:=by
 intro wh pins s σ H Q I h;refine isTrue_or (thn (ha pins s σ H Q I h) fun c s1 e=>?_);cases c with
 |false=>exact isTrue_or_nil e
 |true=>exact e
theorem YDz (ha:PT X a tA) (hb:PW X (.BoolOp .And (b :: rest) pos) tB'):PW X (.BoolOp .And (a :: b :: rest) pos) (tAnd tA tB'):=by
 intro wh pins s σ H Q I h;refine isTrue_and (thn (ha pins s σ H _ I h) fun c s1 ⟨H1,I1,q1⟩=>?_);cases c with
 |true=>exact hb wh pins s1 σ H1 Q I1 q1
 |false=>exact⟨H1,I1,q1⟩
theorem YC9 (ha:PT X a tA) (hb:PW X (.BoolOp .Or (b :: rest) pos) tB'):PW X (.BoolOp .Or (a :: b :: rest) pos) (tOr tA tB'):=by
 intro wh pins s σ H Q I h;refine isTrue_or (thn (ha pins s σ H _ I h) fun c s1 ⟨H1,I1,q1⟩=>?_);cases c with
 |true=>exact⟨H1,I1,q1⟩
 |false=>exact hb wh pins s1 σ H1 Q I1 q1
theorem JL (ha:PT X a tA):PT X (.UnaryOp .Not a pos) (tNot tA):=by
 intro pins s σ H Q I h;exact isTrue_not (ha pins s σ H (fun c H1=>Q (!c) H1) I h)
def tAndV (ta tb:TE):TE:=fun σ H Q=>ta σ H fun x H1=>∃c,x=.bl c∧if c=true then tb σ H1 Q else Q (.bl false) H1
def tOrV (ta tb:TE):TE:=fun σ H Q=>ta σ H fun x H1=>∃c,x=.bl c∧if c=true then Q (.bl true) H1 else tb σ H1 Q
def tNotV (ta:TE):TE:=fun σ H Q=>ta σ H fun x H1=>∃c,x=.bl c∧Q (.bl (!c)) H1
theorem JM {op}{t:TE} (h:PE X a t):PE X (.BoolOp op [a] pos) t:=fun pins s σ H Q I hw=>BoolOp_one (h pins s σ H Q I hw)
theorem Zv (ha:PE X a ta) (hb:PE X (.BoolOp .And (b :: rest) pos) tb):PE X (.BoolOp .And (a :: b :: rest) pos) (tAndV ta tb):=by
 intro pins s σ H Q I h;refine BoolOp_and (thn (ha pins s σ H _ I h) fun v s1 ⟨x,H1,I1,r1,q1⟩=>?_);obtain⟨c,rfl,q1⟩:=q1;cases r1;refine wpAny_truthy_bool ?_;cases c with
 |true=>exact hb pins s1 σ H1 Q I1 q1
 |false=>exact⟨.bl false,H1,I1,rfl,q1⟩
theorem pe_or (ha:PE X a ta) (hb:PE X (.BoolOp .Or (b :: rest) pos) tb):PE X (.BoolOp .Or (a :: b :: rest) pos) (tOrV ta tb):=by
 intro pins s σ H Q I h;refine BoolOp_or (thn (ha pins s σ H _ I h) fun v s1 ⟨x,H1,I1,r1,q1⟩=>?_);obtain⟨c,rfl,q1⟩:=q1;cases r1;refine wpAny_truthy_bool ?_;cases c with
 |false=>exact hb pins s1 σ H1 Q I1 q1
 |true=>exact⟨.bl true,H1,I1,rfl,q1⟩
theorem YH2 (ha:PE X a ta):PE X (.UnaryOp .Not a pos) (tNotV ta):=by
 intro pins s σ H Q I h;refine UnaryOp_ (thn (ha pins s σ H _ I h) fun v s1 ⟨x,H1,I1,r1,q1⟩=>?_);obtain⟨c,rfl,q1⟩:=q1;cases r1;exact not_of (wpAny_truthy_bool ⟨.bl (!c),H1,I1,rfl,q1⟩)
def tIf (t:TT) (ta tb:TE):TE:=fun σ H Q=>t σ H fun c H1=>if c=true then ta σ H1 Q else tb σ H1 Q
theorem YEb {c:Expr} (hc:PT X c tA) (ha:PE X a ta) (hb:PE X b tb):PE X (.IfExp c a b pos) (tIf tA ta tb):=by
 intro pins s σ H Q I h;refine wpAny_IfExp (thn (hc pins s σ H _ I h) fun d s1 ⟨H1,I1,q1⟩=>?_);cases d with
 |true=>exact ha pins s1 σ H1 Q I1 q1
 |false=>exact hb pins s1 σ H1 Q I1 q1
end
end L2
namespace L2
open PySem PySem.Spec PyProof.Rows
def SqL (K:W.Frag) (H:Hp) (a:Addr) (xs:List V):Prop:=
 Rd H a (.lst xs)∨
  ∃(o:Obj) (its:Array Value) (n:Nat),K.lookup a=some o∧o.cls=.type "list"∧o.dict=none∧o.data=.seq its n∧its.size≤sizeLine∧Ye xs its.toList
def SqT (K:W.Frag) (H:Hp) (a:Addr) (xs:List V):Prop:=
 Rd H a (.tup xs)∨
  ∃(o:Obj) (its:Array Value) (n:Nat),K.lookup a=some o∧o.cls=.type "tuple"∧o.data=.seq its n∧its.size≤sizeLine∧Ye xs its.toList
def absV:Value→Option V
 |.none=>some .non
 |.bool b=>some (.bl b)
 |.int i _=>some (.int i)
 |.str x _=>some (.str x)
 |.bytes b _=>some (.byt b)
 |.float b _=>some (.flt b)
 |.ref a=>some (.ref a)
 |.type n=>some (.ty n)
 |_=>none
theorem Yk.abs {x:V}{u:Value} (r:Yk x u):absV u=some x:=by
 cases x with
 |non=>cases r;rfl
 |bl _=>cases r;rfl
 |int _=>obtain⟨t,rfl⟩:=r;rfl
 |str _=>obtain⟨t,rfl⟩:=r;rfl
 |byt _=>obtain⟨t,rfl⟩:=r;rfl
 |flt _=>obtain⟨t,rfl⟩:=r;rfl
 |ref _=>cases r;rfl
 |ty _=>cases r;rfl
theorem Yk.inj {x y:V}{u:Value} (r:Yk x u) (q:Yk y u):x=y:=YJk (r.abs.symm.trans q.abs)
theorem Ye.inj:∀{xs ys:List V}{us:List Value},Ye xs us→Ye ys us→xs=ys
 |_,_,_,.nil,.nil=>rfl
 |_,_,_,.cons r t,.cons r' t'=>by rw[r.inj r',Ye.inj t t']
section
variable {X:Cx}{pins:List (Addr×Obj)}{σ:St}{H:Hp}{s:Shared}{a:Addr}{xs ys:List V}
theorem SqL.of {K:W.Frag} (h:H a=some (.lst xs)):SqL K H a xs:=.inl (.inl h)
theorem SqT.of {K:W.Frag} (h:H a=some (.tup xs)):SqT K H a xs:=.inl (.inl h)
theorem Inv.list (I:Inv X pins σ H s) (h:SqL X.K H a xs):∃its:List Value,Ye xs its∧PlainL s.heap a its.toArray∧xs.length≤sizeLine:=by
 rcases h with h |⟨o,its,n,hk,hc,hd,hs,hz,r⟩
 ·obtain⟨z,its,n,r,e⟩:=h.ok I.hok;exact⟨its,r,⟨_,n,e,rfl,rfl,rfl⟩,z⟩
 ·refine⟨its.toList,r,⟨o,n,I.kIn a o hk,hc,hd,by simpa using hs⟩,?_⟩;have e:=r.length;simp only[YJ4]at e;omega
theorem Inv.tuple (I:Inv X pins σ H s) (h:SqT X.K H a xs):∃its:List Value,Ye xs its∧IsTup s.heap a its.toArray∧xs.length≤sizeLine:=by
 rcases h with h |⟨o,its,n,hk,hc,hs,hz,r⟩
 ·obtain⟨z,its,r,p⟩:=h.ok I.hok;exact⟨its,r,p,z⟩
 ·refine⟨its.toList,r,⟨o,I.kIn a o hk,hc,n,by simpa using hs⟩,?_⟩;have e:=r.length;simp only[YJ4]at e;omega
theorem Inv.list_inj (I:Inv X pins σ H s) (h:SqL X.K H a xs) (h':SqL X.K H a ys):xs=ys:=by
 obtain⟨its,r,⟨o,n,e,_,_,d⟩,_⟩:=I.list h;obtain⟨its',r',⟨o',n',e',_,_,d'⟩,_⟩:=I.list h';rw[e]at e';cases e';rw[d]at d'
 injection d' with d1 _
 have:its=its':=by simpa using YKV Array.toList d1
 subst this;exact r.inj r'
theorem Inv.tuple_inj (I:Inv X pins σ H s) (h:SqT X.K H a xs) (h':SqT X.K H a ys):xs=ys:=by
 obtain⟨its,r,⟨o,e,_,n,d⟩,_⟩:=I.tuple h;obtain⟨its',r',⟨o',e',_,n',d'⟩,_⟩:=I.tuple h';rw[e]at e';cases e';rw[d]at d'
 injection d' with d1 _
 have:its=its':=by simpa using YKV Array.toList d1
 subst this;exact r.inj r'
end
abbrev Cx.wish (X:Cx) (E:Value→Shared→Prop):Cx:={ X with xe:=E }
abbrev Cx.nox (X:Cx):Cx:=X.wish fun _ _=>False
theorem Cx.Ok.wish {X:Cx} (ok:X.Ok) (E:Value→Shared→Prop):(X.wish E).Ok:=
 ⟨ok.mod,ok.kind,ok.glob,ok.blt,ok.above,ok.inj,ok.has,ok.cab,ok.hd,ok.frames,ok.stk,ok.exf,ok.bs,ok.bsz,ok.noex,ok.exfs,ok.funs,ok.frf⟩
theorem Cx.Ok.unwish {X:Cx}{E:Value→Shared→Prop} (ok:(X.wish E).Ok):X.Ok:=
 ⟨ok.mod,ok.kind,ok.glob,ok.blt,ok.above,ok.inj,ok.has,ok.cab,ok.hd,ok.frames,ok.stk,ok.exf,ok.bs,ok.bsz,ok.noex,ok.exfs,ok.funs,ok.frf⟩
section
variable {X:Cx}{pins:List (Addr×Obj)}{σ:St}{H:Hp}{s:Shared}{E:Value→Shared→Prop}
theorem Inv.wish (I:Inv X pins σ H s) (E:Value→Shared→Prop):Inv (X.wish E) pins σ H s:=⟨I.ok.wish E,I.os,I.bare,I.base,I.loc,I.cell,I.free,I.freeC,I.pin,I.hok,I.len⟩
theorem Inv.unwish (I:Inv (X.wish E) pins σ H s):Inv X pins σ H s:=⟨I.ok.unwish,I.os,I.bare,I.base,I.loc,I.cell,I.free,I.freeC,I.pin,I.hok,I.len⟩
theorem SP.unwish {D:YAf}{f:Flow}{s':Shared} (h:SP (X.wish E) pins D f s'):SP X pins D f s':=by
 cases f with
 |next=>obtain⟨σ',H',I,q⟩:=h;exact⟨σ',H',I.unwish,q⟩
 |brk=>obtain⟨σ',H',I,q⟩:=h;exact⟨σ',H',I.unwish,q⟩
 |cont=>obtain⟨σ',H',I,q⟩:=h;exact⟨σ',H',I.unwish,q⟩
 |ret u=>obtain⟨v,σ',H',I,r,q⟩:=h;exact⟨v,σ',H',I.unwish,r,q⟩
theorem PSs.nox {st:List Stmt}{t:TS} (h:PSs X.nox st t):PSs X st t:=fun pins s σ H D I hw=>
 wpAny_mono (h pins s σ H D (I.wish _) hw) (fun _ _ q=>q.unwish) fun _ _ z=>False.elim z
end
section
variable {X:Cx}{st:Stmt}{rest:List Stmt}{t u:TS}{e:Expr}{te:TE}{pos:Pos}
def tNext:TS:=fun D σ H=>D.nx σ H
def tSeq (t u:TS):TS:=fun D σ H=>t { D with nx:=u D } σ H
theorem Yg:PSs X [] tNext:=fun _ _ σ H _ I h=>wpAny_execs_nil ⟨σ,H,I,h⟩
theorem YE (h1:PS X st t) (h2:PSs X rest u):PSs X (st :: rest) (tSeq t u):=by
 intro pins s σ H D I h;refine wpAny_execs_cons (thn (h1 pins s σ H { D with nx:=u D } I h) fun f s1 q=>?_);cases f with
 |next=>
  obtain⟨σ',H',I',q⟩:=q;exact h2 pins s1 σ' H' D I' q
 |ret v=>exact q
 |brk=>exact q
 |cont=>exact q
theorem YF (h1:PS X st t):PSs X [st] t:=by
 intro pins s σ H D I h;refine wpAny_execs_cons (thn (h1 pins s σ H D I h) fun f s1 q=>?_);cases f with
 |next=>exact wpAny_execs_nil q
 |ret v=>exact q
 |brk=>exact q
 |cont=>exact q
def tBreak:TS:=fun D σ H=>D.bk σ H
theorem YH3:PS X (.Break pos) tBreak:=fun _ _ σ H _ I h=>wpAny_Break ⟨σ,H,I,h⟩
theorem Inv.quiet {pins:List (Addr×Obj)}{σ:St}{H:Hp}{s:Shared} (I:Inv X pins σ H s):interactive X.env=false:=by simp[interactive,I.ok.kind]
def tDrop (te:TE):TS:=fun D σ H=>te σ H fun _ H1=>D.nx σ H1
theorem ZV (he:PE X e te) (hs:swapsWith e none pos.line X.env=pure false:=by rfl):PS X (.Expr e pos) (tDrop te):=by
 intro pins s σ H D I h;exact wpAny_Expr_any (thn (he pins s σ H _ I h) fun v s1 ⟨x,H1,I1,r1,q1⟩=>⟨σ,H1,I1,q1⟩) I.quiet hs
def tRet (te:TE):TS:=fun D σ H=>te σ H D.rt
theorem YX (he:PE X e te):PS X (.Return (some e) pos) (tRet te):=by
 intro pins s σ H D I h;exact wpAny_Return_some (thn (he pins s σ H _ I h) fun v s1 ⟨x,H1,I1,r1,q1⟩=>⟨x,σ,H1,I1,r1,q1⟩)
def tIfS (c:TT) (t u:TS):TS:=fun D σ H=>c σ H fun b H1=>if b=true then t D σ H1 else u D σ H1
theorem ZB {c:Expr}{a b:List Stmt}{tc:TT} (hc:PT X c tc) (ha:PSs X a t) (hb:PSs X b u):PS X (.If c a b pos) (tIfS tc t u):=by
 intro pins s σ H D I h;refine wpAny_If (thn (hc pins s σ H _ I h) fun d s1 ⟨H1,I1,q1⟩=>?_);cases d with
 |true=>exact ha pins s1 σ H1 D I1 q1
 |false=>exact hb pins s1 σ H1 D I1 q1
end
abbrev TG:=V→St→Hp→(St→Hp→Prop)→Prop
abbrev TGs:=List V→St→Hp→(St→Hp→Prop)→Prop
def PG (X:Cx) (target:Expr) (t:TG):Prop:=
 ∀(pins:List (Addr×Obj)) (s:Shared) (σ:St) (H:Hp) (v:V) (u:Value) (Q:St→Hp→Prop),Inv X pins σ H s→Yk v u→t v σ H Q→
  wpAny (model X.prog X.w) X.A (assign target X.env u) (fun _ s'=>∃σ' H',Inv X pins σ' H' s'∧Q σ' H') X.xe s
def PGs (X:Cx) (ts:List Expr) (t:TGs):Prop:=
 ∀(pins:List (Addr×Obj)) (s:Shared) (σ:St) (H:Hp) (vs:List V) (us:List Value) (Q:St→Hp→Prop),Inv X pins σ H s→Ye vs us→t vs σ H Q→
  wpAny (model X.prog X.w) X.A (assignInOrder ((assignEach ts X.env).map (·.2)) us) (fun _ s'=>∃σ' H',Inv X pins σ' H' s'∧Q σ' H') X.xe s
abbrev TSet:=V→V→V→Hp→(Hp→Prop)→Prop
def PSet (X:Cx) (t:TSet):Prop:=
 ∀(pins:List (Addr×Obj)) (s:Shared) (σ:St) (H:Hp) (o i v:V) (ov iv u:Value) (Q:Hp→Prop),Inv X pins σ H s→Yk o ov→Yk i iv→Yk v u→t o i v H Q→
  wpAny (model X.prog X.w) X.A (setItem ov iv u) (fun _ s'=>∃H',Inv X pins σ H' s'∧Q H') X.xe s
abbrev TIp:=V→V→Hp→VK→Prop
def PIp (X:Cx) (op:Operator) (t:TIp):Prop:=
 ∀(pins:List (Addr×Obj)) (s:Shared) (σ:St) (H:Hp) (x y:V) (v u:Value) (Q:VK),Inv X pins σ H s→Yk x v→Yk y u→t x y H Q→
  wpAny (model X.prog X.w) X.A (inplaceOp op v u) (EP X pins σ Q) X.xe s
section
variable {X:Cx}{pos:Pos}
def YDA (i:Nat):TG:=fun v σ H Q=>Q (σ.set i (some v)) H
theorem YN {i:Nat}{x:Str} (hN:X.N.Nodup) (hi:X.N[i]?=some x) (hx:Loc X.env.scope x) (hf:X.fn x=true∨X.env.scope.names.lookup x=some .local:=by first |exact .inl rfl |exact .inr rfl |assumption):PG X (.Name x pos) (YDA i):=by
 intro pins s σ H v u Q I r h;exact wpAny_assign_Name (YA2 I hN hi hx r (fun s' I'=>⟨_,H,I',h⟩) hf)
inductive gNil_ (vs:List V) (σ:St) (H:Hp) (Q:St→Hp→Prop):Prop where
 |mk (h0_:vs=[]) (h1_:Q σ H):gNil_ vs σ H Q
def gNil:TGs:=fun vs σ H Q=>gNil_ vs σ H Q
inductive YH4 (t:TG) (u:TGs) (vs:List V) (σ:St) (H:Hp) (Q:St→Hp→Prop):Prop where
 |mk (v:_) (r:_) (h0_:vs=v :: r) (h1_:t v σ H fun σ' H'=>u r σ' H' Q):YH4 t u vs σ H Q
def gCons (t:TG) (u:TGs):TGs:=fun vs σ H Q=>YH4 t u vs σ H Q
theorem Jp:PGs X [] gNil:=by
 intro pins s σ H vs us Q I r h;obtain⟨e,h⟩:=h;subst e;cases r;exact assignInOrder_nil ⟨σ,H,I,h⟩
theorem Yx {e:Expr}{es:List Expr}{t:TG}{u:TGs} (h1:PG X e t) (h2:PGs X es u)
  (hs:(assignEach (e :: es) X.env).map (·.2)=assign e X.env :: (assignEach es X.env).map (·.2):=by rfl):PGs X (e :: es) (gCons t u):=by
 intro pins s σ H vs us Q I r h;obtain⟨v,vr,e1,h⟩:=h;subst e1;cases r with
 |cons r rr=>
  rw[hs];refine assignInOrder_cons (thn (h1 pins s σ H _ _ _ I r h) fun _ s1 ⟨σ1,H1,I1,q1⟩=>?_);exact h2 pins s1 σ1 H1 _ _ Q I1 rr q1
inductive gTup_ (K:W.Frag) (n:Nat) (t:TGs) (v:V) (σ:St) (H:Hp) (Q:St→Hp→Prop):Prop where
 |mk (a:_) (xs:_) (h0_:v=.ref a) (h1_:SqT K H a xs) (h2_:xs.length=n) (h3_:t xs σ H Q):gTup_ K n t v σ H Q
def gTup (K:W.Frag) (n:Nat) (t:TGs):TG:=fun v σ H Q=>gTup_ K n t v σ H Q
theorem pg_tup {es:List Expr}{k:Nat}{t:TGs}{n:Nat} (hc:X.calm=true) (h:PGs X es t)
  (hn:(assignEach es X.env).length=n:=by rfl) (hst:(assignEach es X.env).findIdx? (·.1)=none:=by rfl):PG X (.Tuple es k pos) (gTup X.K n t):=by
 intro pins s σ H v u Q I r hw;obtain⟨a,xs,e1,hq,hl,hw⟩:=hw;subst e1;cases r;obtain⟨its,rv,ht,hz⟩:=I.tuple hq;refine assign_Tuple_tuple (I.ok.hd hc) ht (by simp[hn,←hl,rv.length]) hst fun h' hx=>?_
 have I1:Inv X pins σ H { s with heap:=h' }:=I.kept (t':=s.toks) fun b o e=>hx b o (YJq (YJX e)) e
 exact h pins _ σ H xs _ Q I1 (by simpa using rv) hw
def gSub (to ti:TE) (t:TSet):TG:=fun v σ H Q=>to σ H fun o H1=>ti σ H1 fun i H2=>t o i v H2 fun H3=>Q σ H3
theorem YH5 {o i:Expr}{to ti:TE}{t:TSet} (ho:PE X o to) (hi:PE X i ti) (hs:PSet X t)
  (ha:∀v,assign (.Subscript o i pos) X.env v=(do
   let ov ←holding [v] (eval o X.env)
   let iv ←holding [v,ov] (eval i X.env)
   standAt pos
   holding [v,ov,iv] (setItem ov iv v)
   release [v,ov,iv] []):=by intro _;rfl):PG X (.Subscript o i pos) (gSub to ti t):=by
 intro pins s σ H v u Q I r h;rw[ha];refine YJN (wpAny_holding (thn (ho pins s σ H _ I h) fun ov s1 ⟨x,H1,I1,r1,q1⟩=>?_));refine YJN (wpAny_holding (thn (hi pins s1 σ H1 _ I1 q1) fun iv s2 ⟨y,H2,I2,r2,q2⟩=>?_));refine YJN (wpAny_standAt (YJN (wpAny_holding (thn (hs pins s2 σ H2 x y v ov iv u _ I2 r1 r2 r q2) fun _ s3 ⟨H3,I3,q3⟩=>?_))));exact wpAny_release ⟨σ,H3,I3,q3⟩
def tAsg (te:TE) (g:TG):TS:=fun D σ H=>te σ H fun x H1=>g x σ H1 D.nx
theorem YFr {tg e:Expr}{te:TE}{g:TG} (he:PE X e te) (hg:PG X tg g) (hs:swapsWithSole [tg] e pos.line X.env=pure false:=by rfl) (hw:swappedStores [tg] e X.env=pure none:=by rfl)
  (h1:(assignEach [tg] X.env).map (·.2)=[assign tg X.env]:=by rfl):PS X (.Assign [tg] e pos) (tAsg te g):=by
 intro pins s σ H D I h;refine wpAny_Assign_stores (thn (he pins s σ H _ I h) fun v s1 ⟨x,H1,I1,r1,q1⟩=>?_) hs hw;rw[h1];exact thn (hg pins s1 σ H1 x v _ I1 r1 q1) fun _ s2 q=>q
theorem YM {i:Nat}{x:Str}{e:Expr}{te:TE}{pos':Pos} (hN:X.N.Nodup) (hi:X.N[i]?=some x) (hx:Loc X.env.scope x) (he:PE X e te) (hs:swapsWith e (some (.Name x pos')) pos.line X.env=pure false:=by rfl) (hf:X.fn x=true∨X.env.scope.names.lookup x=some .local:=by first |exact .inl rfl |exact .inr rfl |assumption):
  PS X (.Assign [.Name x pos'] e pos) (tAsg te (YDA i)):=by
 intro pins s σ H D I h;refine wpAny_Assign_Name (thn (he pins s σ H _ I h) fun v s1 ⟨y,H1,I1,r1,q1⟩=>?_) hs;exact YA2 I1 hN hi hx r1 (fun s2 I2=>⟨_,H1,I2,q1⟩) hf
def tAug (i:Nat) (te:TE) (ti:TIp):TS:=fun D σ H=>∃x,σ[i]?=some (some x)∧te σ H fun y H1=>ti x y H1 fun z H2=>D.nx (σ.set i (some z)) H2
theorem YH6 {i:Nat}{x:Str}{e:Expr}{te:TE}{op:Operator}{ti:TIp}{pos':Pos} (hN:X.N.Nodup) (hi:X.N[i]?=some x) (hx:Loc X.env.scope x) (he:PE X e te) (ho:PIp X op ti) (hf:X.fn x=true∨X.env.scope.names.lookup x=some .local:=by first |exact .inl rfl |exact .inr rfl |assumption):
  PS X (.AugAssign (.Name x pos') op e pos) (tAug i te ti):=by
 intro pins s σ H D I h;obtain⟨v,e1,h⟩:=h;obtain⟨m,hn,hl⟩:=I.loc;have vis:Vis X.env.scope x:=by rcases hx with k |k;exact .inl k;exact .inr (.inl k)
 obtain⟨u,r,l⟩:=hl i x v hi e1 vis;refine wpAny_AugAssign_Name ?_;have go:wpAny (model X.prog X.w) X.A (eval e X.env) (fun w s₂=>wpAny (model X.prog X.w) X.A (inplaceOp op u w) (fun r s₃=>wpAny (model X.prog X.w) X.A (storeName X.env x r) (fun _=>SP X pins D .next) X.xe s₃) X.xe s₂) X.xe s:=by
  refine thn (he pins s σ H _ I h) fun w s1 ⟨y,H1,I1,r1,q1⟩=>?_
  refine thn (ho pins s1 σ H1 v y u w _ I1 r r1 q1) fun z s2 ⟨zv,H2,I2,r2,q2⟩=>?_
  exact YA2 I2 hN hi hx r2 (fun s3 I3=>⟨_,H2,I3,q2⟩) hf
 rcases l with ⟨hk,hm⟩ |⟨hk,c,hc,hcell⟩
 ·exact wpAny_loadName_local I.ok.kind hk hn hm go
 ·rcases hk with hk |hk
  ·exact wpAny_loadName_cell I.ok.kind hk hc hcell go
  ·rcases hx with k |k
   ·have:X.env.scope.names.lookup x=some .free:=hk;rw[k]at this;cases this
   ·have:X.env.scope.names.lookup x=some .free:=hk;rw[k]at this;cases this
def ipI (f:Int→Int→Int):TIp:=fun x y H Q=>∃i j,x=.int i∧y=.int j∧Q (.int (f i j)) H
theorem YH7:PIp X .Add (ipI fun i j=>i + j):=by
 intro pins s σ H x y v u Q I r1 r2 h;obtain⟨i,j,e1,e2,q⟩:=h;subst e1;subst e2;obtain⟨t,rfl⟩:=r1;obtain⟨t',rfl⟩:=r2;exact iadd_int ⟨.int _,H,I.tok _,⟨_,rfl⟩,q⟩
end
section
variable {X:Cx}{pos:Pos}
def YH8 (c:TT) (tb:TS):TS:=fun D σ H=>∃W:Nat→St→Hp→Prop,(∃m,W m σ H)∧∀m σ H,W m σ H→
 c σ H fun b H1=>if b=true then ∃N:St→Hp→Prop,(∀σ' H',N σ' H'→∃m',m' < m∧W m' σ' H')∧tb { D with nx:=N,ct:=N,bk:=D.nx } σ H1 else D.nx σ H1
theorem YEc {c:Expr}{body:List Stmt}{tc:TT}{tb:TS} (hp:PassesOwn (model X.prog X.w) X.A X.env X.xe) (hc:PT X c tc) (hb:PSs X body tb):PS X (.While c body [] pos) (YH8 tc tb):=by
 intro pins s σ H D I h;obtain⟨W,⟨m0,w0⟩,turn⟩:=h;refine wpAny_While (codeAny_whileLoop (fun n s'=>∃σ' H',Inv X pins σ' H' s'∧W n σ' H') ?_ m0 ⟨σ,H,I,w0⟩);rintro n s1 ⟨σ1,H1,I1,w1⟩;refine wpAny_passesOwn hp (thn (hc pins s1 σ1 H1 _ I1 (turn n σ1 H1 w1)) fun b s2 ⟨H2,I2,q2⟩=>?_);cases b with
 |true=>
  obtain⟨N,hN,q2⟩:=q2;rw[if_pos rfl];refine wpAny_passesOwn hp (thn (hb pins s2 σ1 H2 _ I2 q2) fun f s3 q3=>?_);cases f with
  |next=>
   obtain⟨σ3,H3,I3,n3⟩:=q3;obtain⟨m',hm,w3⟩:=hN σ3 H3 n3;exact⟨m',hm,σ3,H3,I3,w3⟩
  |cont=>
   obtain⟨σ3,H3,I3,n3⟩:=q3;obtain⟨m',hm,w3⟩:=hN σ3 H3 n3;exact⟨m',hm,σ3,H3,I3,w3⟩
  |brk=>exact q3
  |ret v=>exact q3
 |false=>
  rw[if_neg YJZ];exact wpAny_execs_nil ⟨σ1,H2,I2,q2⟩
end
structure It where
 go:Nat→Hp→Prop
 yld:Nat→Hp→V→Hp→Prop
 stop:Nat→Hp→Prop
def X7 (X:Cx) (pins:List (Addr×Obj)) (H:Hp) (b:Addr):Prop:=
 H b=none∧b≠X.env.locals∧b∉X.fs∧(b∈X.ex∨X.s₀.heap.objs.size≤b)∧(∀x c,X.env.cells.lookup x=some c→c≠b)∧∀p∈X.pn ++ pins,p.1≠b
theorem Inv.fpOk {X:Cx}{pins:List (Addr×Obj)}{σ:St}{H H':Hp}{s:Shared}{b:Addr} (I:Inv X pins σ H s) (hb:s.heap.objs.size≤b) (hn:H' b=none):X7 X pins H' b:=by
 refine⟨hn,Nat.ne_of_gt (YJY I.lt hb),I.nofs hb,.inr (YJt I.sz hb),fun x c e z=>?_,fun p hp z=>?_⟩
 ·obtain⟨v,q⟩:=I.cell x c e;exact absurd (YJY q.lt (by rw[z];exact hb)) (YKB _)
 ·exact absurd (YJY (YJX (I.pin p hp).1) (by rw[z];exact hb)) (YKB _)
structure YCm (P:Program) (w:World) (K:W.Frag) (tg:Expr) (J:It) (fp:List Addr) (it:Addr) (tn:Nat→Heap→Prop):Prop where
 mem:it∈fp
 obj:∀i h,tn i h→∀b∈fp,∃o,h.get? b=some o∧∀v,o.data≠.cell v
 keep:∀i h h',tn i h→(∀b∈fp,∀o,h.get? b=some o→h'.get? b=some o)→tn i h'
 item:∀(X:Cx),X.prog=P→X.w=w→X.K=K→X.calm=true→∀(i:Nat) (pins:List (Addr×Obj)) (s:Shared) (σ:St) (H:Hp) (E:Value→Shared→Prop),Inv X pins σ H s→(∀b∈fp,X7 X pins H b)→tn i s.heap→J.go i H→
  wpAny (model P w) X.A (pyNext (.ref it)) (fun r s1=>∃u,r=some u∧
   wpAny (model P w) X.A (letOwnedTupleGo tg (.ref it) u) (fun _ s2=>∃x H',Inv X pins σ H' s2∧Yk x u∧J.yld i H x H'∧tn (i + 1) s2.heap∧∀b∈fp,H' b=none) E s1) E s
 done:∀(X:Cx),X.prog=P→X.w=w→X.K=K→X.calm=true→∀(i:Nat) (pins:List (Addr×Obj)) (s:Shared) (σ:St) (H:Hp) (E:Value→Shared→Prop),Inv X pins σ H s→(∀b∈fp,X7 X pins H b)→tn i s.heap→J.stop i H→
  wpAny (model P w) X.A (pyNext (.ref it)) (fun r s1=>r=none∧Inv X pins σ H s1) E s
 self:∀(A:Around) (i:Nat) (s:Shared) (Q:Value→Shared→Prop) (E:Value→Shared→Prop),tn i s.heap→Q (.ref it) s→wpAny (model P w) A (pyIter (.ref it)) Q E s
abbrev TI:=St→Hp→(It→Hp→Prop)→Prop
def PIE (X:Cx) (pins:List (Addr×Obj)) (σ:St) (tg:Expr) (R:It→Hp→Prop) (itv:Value) (s2:Shared):Prop:=
 ∃(it:Addr) (fp:List Addr) (tn:Nat→Heap→Prop) (J:It) (H':Hp),itv=.ref it∧Inv X pins σ H' s2∧YCm X.prog X.w X.K tg J fp it tn∧tn 0 s2.heap∧(∀b∈fp,X7 X pins H' b)∧R J H'
def PI (X:Cx) (tg iter:Expr) (wi:TI):Prop:=
 ∀(pins:List (Addr×Obj)) (s:Shared) (σ:St) (H:Hp) (R:It→Hp→Prop),Inv X pins σ H s→wi σ H R→
  wpAny (model X.prog X.w) X.A (eval iter X.env) (fun v s1=>wpAny (model X.prog X.w) X.A (pyIter v) (PIE X pins σ tg R) X.xe s1) X.xe s
theorem YGd {M:Model}{A:Around}{E:Value→Shared→Prop}{s:Shared}{tg:Expr}{it:Addr}{u:Value}{o:Obj}{n:String}{vs:Array Value}{Q:Unit→Shared→Prop} (ho:s.heap.get? it=some o) (hc:o.cls=.type n) (hd:o.data=.fields vs)
  (hn:["enumerate","zip","dict_itemiterator","dict_reverseitemiterator","odict_iterator","itertools.zip_longest","itertools.pairwise"].contains n=false) (hQ:Q () s):wpAny M A (letOwnedTupleGo tg (.ref it) u) Q E s:=by
 unfold letOwnedTupleGo;cases tg <;> first
  |exact YJb hQ
  |(cases u <;> first
    |exact YJb hQ
    |(refine YJN (wpAny_load ho ?_)
      rw[hc,hd];show wpAny M A (if (["enumerate","zip","dict_itemiterator","dict_reverseitemiterator","odict_iterator","itertools.zip_longest","itertools.pairwise"].contains n && vs[0]? == some (rawInt _))=true then _ else _) Q E s;rw[if_neg (by intro h;rw[hn,Bool.false_and]at h;cases h)];exact YJb hQ))
def Itl (K:W.Frag) (a:Addr):It:=
 ⟨fun i H=>∃xs x,SqL K H a xs∧xs[i]?=some x,fun i H x H'=>H'=H∧∀xs,SqL K H a xs→xs[i]?=some x,fun i H=>∃xs,SqL K H a xs∧xs.length≤i⟩
def Itt (K:W.Frag) (a:Addr):It:=
 ⟨fun i H=>∃xs x,SqT K H a xs∧xs[i]?=some x,fun i H x H'=>H'=H∧∀xs,SqT K H a xs→xs[i]?=some x,fun i H=>∃xs,SqT K H a xs∧xs.length≤i⟩
def Itr (lo:Int) (n:Nat):It:=⟨fun i _=>i < n,fun i H x H'=>H'=H∧x=.int (lo + i),fun i _=>n≤i⟩
theorem YHL {P:Program}{w:World}{K:W.Frag}{tg:Expr} (a it:Addr):YCm P w K tg (Itl K a) [it] it (fun i h=>h.IsListIter it a i) where
 mem:=by simp
 obj:=fun i h st b hb=>by
  have e:b=it:=by simpa using hb
  subst e;obtain⟨o,e,c,d⟩:=st;exact⟨o,e,fun v z=>by rw[d]at z;cases z⟩
 keep:=fun i h h' st k=>st.at fun o e=>k it (by simp) o e
 item:=by
  intro X hP hw hK hc i pins s σ H E I hf st hg;subst hP hw hK;obtain⟨xs,x,hq,hx⟩:=hg;obtain⟨its,rv,p,hz⟩:=I.list hq;obtain⟨u,hu,ru⟩:=rv.get hx;obtain⟨f0,f1,f2,f3,f4,f5⟩:=hf it (by simp);refine wpAny_pyNext_list_item st p.isList (x:=u) (by simpa using hu) fun h' st' sb=>?_
  have I1:Inv X pins σ H { s with heap:=h' }:=I.turned (t':=s.toks) (fun b o hb e=>(sb.2 b hb).trans e) f0 f1 f3 f4 f5;obtain⟨o,e,c,d⟩:=id st';exact⟨u,rfl,YGd (s:={ s with heap:=h' }) e c d (by decide) ⟨x,H,I1,ru,⟨rfl,fun ys hy=>by rw[I.list_inj hy hq];exact hx⟩,st',fun b hb=>(hf b hb).1⟩⟩
 done:=by
  intro X hP hw hK hc i pins s σ H E I hf st hg;subst hP hw hK;obtain⟨xs,hq,hx⟩:=hg;obtain⟨its,rv,p,hz⟩:=I.list hq;obtain⟨f0,f1,f2,f3,f4,f5⟩:=hf it (by simp);have hl:=rv.length;exact wpAny_pyNext_list_end (I.ok.hd hc) st p.isList (by simp;omega) fun h' eb=>⟨rfl,I.turned (t':=s.toks) (fun b o hb e=>eb b o hb e) f0 f1 f3 f4 f5⟩
 self:=fun _ _ _ _ _ st h=>wpAny_pyIter_listiter st h
theorem YFs {P:Program}{w:World}{K:W.Frag}{tg:Expr} (a it:Addr):YCm P w K tg (Itt K a) [it] it (fun i h=>h.IsTupleIter it a i) where
 mem:=by simp
 obj:=fun i h st b hb=>by
  have e:b=it:=by simpa using hb
  subst e;obtain⟨o,e,c,d⟩:=st;exact⟨o,e,fun v z=>by rw[d]at z;cases z⟩
 keep:=fun i h h' st k=>st.at fun o e=>k it (by simp) o e
 item:=by
  intro X hP hw hK hc i pins s σ H E I hf st hg;subst hP hw hK;obtain⟨xs,x,hq,hx⟩:=hg;obtain⟨its,rv,p,hz⟩:=I.tuple hq;obtain⟨u,hu,ru⟩:=rv.get hx;obtain⟨f0,f1,f2,f3,f4,f5⟩:=hf it (by simp);refine wpAny_pyNext_tuple_item st (show s.heap.IsTuple a its.toArray from p) (x:=u) (by simpa using hu) fun h' st' sb=>?_
  have I1:Inv X pins σ H { s with heap:=h' }:=I.turned (t':=s.toks) (fun b o hb e=>(sb.2 b hb).trans e) f0 f1 f3 f4 f5;obtain⟨o,e,c,d⟩:=id st';exact⟨u,rfl,YGd (s:={ s with heap:=h' }) e c d (by decide) ⟨x,H,I1,ru,⟨rfl,fun ys hy=>by rw[I.tuple_inj hy hq];exact hx⟩,st',fun b hb=>(hf b hb).1⟩⟩
 done:=by
  intro X hP hw hK hc i pins s σ H E I hf st hg;subst hP hw hK;obtain⟨xs,hq,hx⟩:=hg;obtain⟨its,rv,p,hz⟩:=I.tuple hq;obtain⟨f0,f1,f2,f3,f4,f5⟩:=hf it (by simp);have hl:=rv.length;exact wpAny_pyNext_tuple_end (I.ok.hd hc) st (show s.heap.IsTuple a its.toArray from p) (by simp;omega) fun h' eb=>⟨rfl,I.turned (t':=s.toks) (fun b o hb e=>eb b o hb e) f0 f1 f3 f4 f5⟩
 self:=fun _ _ _ _ _ st h=>wpAny_pyIter_tupleiter st h
theorem YFt {P:Program}{w:World}{K:W.Frag}{tg:Expr} (it:Addr) (lo:Int) (n:Nat):YCm P w K tg (Itr lo n) [it] it (fun i h=>IsRangeIter h it (lo + (i:Nat) * 1) ((n:Int) - (i:Nat)) 1) where
 mem:=by simp
 obj:=fun i h st b hb=>by
  have e:b=it:=by simpa using hb
  subst e;exact⟨_,st,fun v z=>by
   have z':Data.fields _=Data.cell v:=z;cases z'⟩
 keep:=fun i h h' st k=>k it (by simp) _ st
 item:=by
  intro X hP hw hK hc i pins s σ H E I hf st hg;subst hP hw hK;obtain⟨f0,f1,f2,f3,f4,f5⟩:=hf it (by simp);have W:=Walks.range (prog:=X.prog) (w:=X.w) (I.ok.hd hc) it lo 1 n;refine W.item i s _ _ hg st fun v h' tk hv st' kk=>?_
  obtain⟨t,rfl⟩:=hv;have I1:Inv X pins σ H { s with heap:=h',toks:=tk }:=I.turned (fun b o hb e=>kk b o (by simpa using hb) e) f0 f1 f3 f4 f5;refine⟨_,rfl,YGd (s:={ s with heap:=h',toks:=tk }) (n:="range_iterator") st' rfl rfl (by decide) ⟨.int (lo + i),H,I1,⟨t,?_⟩,⟨rfl,rfl⟩,st',fun b hb=>(hf b hb).1⟩⟩;rw[Int.mul_one]
 done:=by
  intro X hP hw hK hc i pins s σ H E I hf st hg;subst hP hw hK;obtain⟨f0,f1,f2,f3,f4,f5⟩:=hf it (by simp);exact wpAny_pyNext_range_end (I.ok.hd hc) st (by have:n≤i:=hg;omega) fun h' eb=>⟨rfl,I.turned (t':=s.toks) (fun b o hb e=>eb b o hb e) f0 f1 f3 f4 f5⟩
 self:=fun _ _ _ _ _ st h=>wpAny_pyIter_rangeiter st h
end L2
namespace L2
open PySem PySem.Spec PyProof.Rows
section
variable {X:Cx}{tg:Expr}
inductive YH9 (K:W.Frag) (R:It→Hp→Prop) (x:V) (H1:Hp):Prop where
 |mk (a:_) (h0_:x=.ref a) (h1_:(∃xs,SqL K H1 a xs)) (h2_:R (Itl K a) H1):YH9 K R x H1
def iList (K:W.Frag) (tl:TE):TI:=fun σ H R=>tl σ H fun x H1=>YH9 K R x H1
inductive iTup_ (K:W.Frag) (R:It→Hp→Prop) (x:V) (H1:Hp):Prop where
 |mk (a:_) (h0_:x=.ref a) (h1_:(∃xs,SqT K H1 a xs)) (h2_:R (Itt K a) H1):iTup_ K R x H1
def iTup (K:W.Frag) (tl:TE):TI:=fun σ H R=>tl σ H fun x H1=>iTup_ K R x H1
theorem pi_list {l:Expr}{tl:TE} (hl:PE X l tl):PI X tg l (iList X.K tl):=by
 intro pins s σ H R I h;refine thn (hl pins s σ H _ I h) fun v s1 ⟨x,H1,I1,r1,q1⟩=>?_
 obtain⟨a,e,⟨xs,hq⟩,q⟩:=q1;subst e;cases r1;obtain⟨its,rv,p,hz⟩:=I1.list hq;refine wpAny_pyIter_list p.isList ?_;refine⟨s1.heap.objs.size,[s1.heap.objs.size],_,_,H1,rfl,I1.kept (t':=s1.toks) fun b o e=>YJO _ e,YHL a _,⟨_,YJc _ rfl,rfl,rfl⟩,fun b hb=>?_,q⟩;have e:b=s1.heap.objs.size:=by simpa using hb
 subst e;exact I1.fpOk (YJP _) (I1.hok.fresh (YJP _))
theorem pi_tup {l:Expr}{tl:TE} (hl:PE X l tl):PI X tg l (iTup X.K tl):=by
 intro pins s σ H R I h;refine thn (hl pins s σ H _ I h) fun v s1 ⟨x,H1,I1,r1,q1⟩=>?_
 obtain⟨a,e,⟨xs,hq⟩,q⟩:=q1;subst e;cases r1;obtain⟨its,rv,p,hz⟩:=I1.tuple hq;refine wpAny_pyIter_tuple (show s1.heap.IsTuple a its.toArray from p) ?_;refine⟨s1.heap.objs.size,[s1.heap.objs.size],_,_,H1,rfl,I1.kept (t':=s1.toks) fun b o e=>YJO _ e,YFs a _,⟨_,YJc _ rfl,rfl,rfl⟩,fun b hb=>?_,q⟩;have e:b=s1.heap.objs.size:=by simpa using hb
 subst e;exact I1.fpOk (YJP _) (I1.hok.fresh (YJP _))
theorem YEd {pins:List (Addr×Obj)}{σ:St}{H:Hp}{s:Shared}{R:It→Hp→Prop}{E:Value→Shared→Prop}{lo hi:Int}{t u v:Tok}{tk:Nat} (I:Inv X pins σ H s) (h1:-(2 ^ 62)≤lo) (h2:lo < 2 ^ 62) (h3:-(2 ^ 62)≤hi) (h4:hi < 2 ^ 62)
  (q:R (Itr lo (hi - lo).toNat) H):wpAny (model X.prog X.w) X.A (pyIter (.ref s.heap.objs.size)) (PIE X pins σ tg R) E { s with heap:=s.heap.push { cls:=.type "range",data:=.fields #[.int lo t,.int hi u,.int 1 v] },toks:=tk }:=by
 refine wpAny_pyIter_range (IsRange.new ..) (small_one h1 h2 h3 h4) ?_;have I1:Inv X pins σ H { s with heap:=s.heap.push { cls:=.type "range",data:=.fields #[.int lo t,.int hi u,.int 1 v] },toks:=tk }:=I.kept fun b o e=>YJO _ e
 refine⟨(s.heap.push { cls:=.type "range",data:=.fields #[.int lo t,.int hi u,.int 1 v] }).objs.size,[(s.heap.push { cls:=.type "range",data:=.fields #[.int lo t,.int hi u,.int 1 v] }).objs.size],_,_,H,rfl,
  I1.kept (t':=tk) fun b o e=>YJO _ e,YFt _ lo (hi - lo).toNat,?_,fun b hb=>?_,q⟩
 ·have e1:lo + ((0:Nat):Int) * 1=lo:=by simp
  have e2:(((hi - lo).toNat:Nat):Int) - ((0:Nat):Int)=Builtin.Range.rangeSize lo hi 1:=by rw[rangeSize_one];split <;> omega
  show IsRangeIter _ _ (lo + ((0:Nat):Int) * 1) ((((hi - lo).toNat:Nat):Int) - ((0:Nat):Int)) 1;rw[e1,e2];exact YJc _ rfl
 ·have e:b=(s.heap.push { cls:=.type "range",data:=.fields #[.int lo t,.int hi u,.int 1 v] }).objs.size:=by simpa using hb
  subst e;exact I1.fpOk (YJP _) (I1.hok.fresh (YJP _))
inductive YIA (R:It→Hp→Prop) (vs:List V) (H1:Hp):Prop where
 |mk (j:Int) (h0_:vs=[.int j]) (h1_:-(2 ^ 62)≤j) (h2_:j < 2 ^ 62) (h3_:R (Itr 0 j.toNat) H1):YIA R vs H1
def iRng1 (ta:TA):TI:=fun σ H R=>ta σ H fun vs H1=>YIA R vs H1
inductive YIB (R:It→Hp→Prop) (vs:List V) (H1:Hp):Prop where
 |mk (i:Int) (j:Int) (h0_:vs=[.int i,.int j]) (h1_:(-(2 ^ 62)≤i∧i < 2 ^ 62∧-(2 ^ 62)≤j∧j < 2 ^ 62)) (h2_:R (Itr i (j - i).toNat) H1):YIB R vs H1
def iRng2 (ta:TA):TI:=fun σ H R=>ta σ H fun vs H1=>YIB R vs H1
theorem Yt {a:Expr}{ta:TA}{p pos:Pos} (hg:Gl X "range") (hm:X.mg "range"=none) (ha:PA X [a] ta) (hs:starEach [a] X.env=[(false,eval a X.env)]:=by rfl):PI X tg (.Call (.Name "range" p) [a] [] pos) (iRng1 ta):=by
 intro pins s σ H R I h;refine Call_ (JK I hg hm boot_range (PyProof.Rows.callWith_type1 (thn (ha pos pins s σ H _ I h) fun us s1 ⟨vs,H1,I1,r1,q1⟩=>?_) hs rfl));obtain⟨j,e,q1,q2,q⟩:=q1;subst e;cases r1 with
 |cons r rr=>
  cases rr;obtain⟨t,rfl⟩:=r;exact call_range_1 (YEd I1 (by omega) (by omega) q1 q2 (by simpa using q))
theorem XS {a b:Expr}{ta:TA}{p pos:Pos} (hg:Gl X "range") (hm:X.mg "range"=none) (ha:PA X [a,b] ta) (hs:starEach [a,b] X.env=[(false,eval a X.env),(false,eval b X.env)]:=by rfl) (hs2:starEach [b] X.env=[(false,eval b X.env)]:=by rfl):
  PI X tg (.Call (.Name "range" p) [a,b] [] pos) (iRng2 ta):=by
 intro pins s σ H R I h;refine Call_ (JK I hg hm boot_range (PyProof.Rows.callWith_type1 (thn (ha pos pins s σ H _ I h) fun us s1 ⟨vs,H1,I1,r1,q1⟩=>?_) (by rw[hs,hs2]) (by rw[hs2];rfl)));obtain⟨i,j,e,⟨q1,q2,q3,q4⟩,q⟩:=q1;subst e;cases r1 with
 |cons r rr=>
  cases rr with
  |cons r' rr=>
   cases rr;obtain⟨t,rfl⟩:=r;obtain⟨t',rfl⟩:=r';exact call_range_2 (YEd I1 q1 q2 q3 q4 q)
def tFor (wi:TI) (g:TG) (tb:TS):TS:=fun D σ H=>wi σ H fun J H1=>∃W:Nat→Nat→St→Hp→Prop,(∃m,W 0 m σ H1)∧∀i m σ H,W i m σ H→
 (J.stop i H∧D.nx σ H)∨(J.go i H∧∃N:St→Hp→Prop,(∀σ' H',N σ' H'→∃m',m' < m∧W (i + 1) m' σ' H')∧∀x H',J.yld i H x H'→g x σ H' fun σ2 H2=>tb { D with nx:=N,ct:=N,bk:=D.nx } σ2 H2)
def YBM (fp:List Addr) (h:Heap):List (Addr×Obj):=fp.filterMap fun b=>(h.get? b).map fun o=>(b,o)
theorem Z1 {fp:List Addr}{h:Heap}{b:Addr}{o:Obj} (hb:b∈fp) (e:h.get? b=some o):(b,o)∈YBM fp h:=List.mem_filterMap.mpr ⟨b,hb,by rw[e];rfl⟩
theorem YHM {fp:List Addr}{h:Heap}{p:Addr×Obj} (hp:p∈YBM fp h):p.1∈fp∧h.get? p.1=some p.2:=by
 obtain⟨b,hb,e⟩:=List.mem_filterMap.mp hp;cases q:h.get? b with
 |none=>rw[q]at e;cases e
 |some o=>
  rw[q]at e;have e':(b,o)=p:=YJk e;subst e';exact⟨hb,q⟩
theorem Inv.pinned {pins:List (Addr×Obj)}{σ:St}{H:Hp}{s:Shared}{fp:List Addr} (I:Inv X pins σ H s) (hf:∀b∈fp,X7 X pins H b) (ho:∀b∈fp,∃o,s.heap.get? b=some o∧∀v,o.data≠.cell v):Inv X (pins ++ YBM fp s.heap) σ H s:=
 I.pins_of fun p hp=>(YJs.mp hp).elim (fun z=>I.pin p (YJi _ z)) fun z=>by
  obtain⟨hb,e⟩:=YHM z;obtain⟨f0,f1,f2,_⟩:=hf p.1 hb;obtain⟨o,e',d⟩:=ho p.1 hb;rw[e]at e';cases e';exact⟨e,f0,f1,f2,d⟩
theorem Inv.unpinned {pins pl:List (Addr×Obj)}{σ:St}{H:Hp}{s:Shared} (I:Inv X (pins ++ pl) σ H s):Inv X pins σ H s:=I.pins_of fun p hp=>I.pin p (YJi _ (YKD _ hp))
theorem Yi {iter:Expr}{body:List Stmt}{wi:TI}{g:TG}{tb:TS}{pos:Pos} (hp:PassesOwn (model X.prog X.w) X.A X.env X.xe) (hc:X.calm=true) (hi:PI X tg iter wi) (hg:PG X tg g) (hb:PSs X body tb)
  (hs:∀x,foldedSetIterable iter X.env x=pure x:=by intro _;rfl):PS X (.For tg iter body [] pos) (tFor wi g tb):=by
 intro pins s σ H D I h;refine wpAny_For (thn (hi pins s σ H _ I h) fun v s1 h1=>thn h1 fun itv s2 h2=>?_) hs;obtain⟨it,fp,tn,J,H2,e,I2,T,st2,f2,W,⟨m0,w0⟩,turn⟩:=h2;subst e;have stat:∀{H':Hp},(∀b∈fp,H' b=none)→∀b∈fp,X7 X pins H' b:=fun hn b hb=>⟨hn b hb,(f2 b hb).2⟩
 refine codeAny_forLoop_any (fun n s'=>∃i σ' H',Inv X pins σ' H' s'∧tn i s'.heap∧(∀b∈fp,H' b=none)∧W i n σ' H') ?_ m0 ⟨0,σ,H2,I2,st2,fun b hb=>(f2 b hb).1,w0⟩;rintro n s3 ⟨i,σ3,H3,I3,st3,fr3,w3⟩;rcases turn i n σ3 H3 w3 with ⟨stop,qn⟩ |⟨go,N,hN,step⟩
 ·refine wpAny_passesOwn hp (thn (T.done X rfl rfl rfl hc i pins s3 σ3 H3 X.xe I3 (stat fr3) st3 stop) fun r s4 ⟨hr,I4⟩=>?_);subst hr;exact wpAny_execs_nil ⟨σ3,H3,I4,qn⟩
 ·refine wpAny_passesOwn hp (thn (T.item X rfl rfl rfl hc i pins s3 σ3 H3 X.xe I3 (stat fr3) st3 go) fun r s4 ⟨u,hr,h4⟩=>?_);subst hr;refine wpAny_passesOwn hp (thn h4 ?_);rintro _ s5 ⟨x,H5,I5,r5,y5,st5,fr5⟩;have I5':=I5.pinned (stat fr5) (T.obj _ _ st5);refine wpAny_passesOwn hp (thn (hg _ s5 σ3 H5 x u _ I5' r5 (step x H5 y5)) fun _ s6 ⟨σ6,H6,I6,q6⟩=>?_);refine wpAny_passesOwn hp (thn (hb _ s6 σ6 H6 _ I6 q6) fun f s7 q7=>?_);have again:∀{σ7:St}{H7:Hp},Inv X (pins ++ YBM fp s5.heap) σ7 H7 s7→N σ7 H7→∃m,m < n∧∃i σ' H',Inv X pins σ' H' s7∧tn i s7.heap∧(∀b∈fp,H' b=none)∧W i m σ' H':=fun{σ7 H7} I7 n7=>by
   obtain⟨m',hm,w7⟩:=hN σ7 H7 n7;refine⟨m',hm,i + 1,σ7,H7,I7.unpinned,T.keep _ _ _ st5 fun b hb o e=>(I7.pin (b,o) (YJi _ (YJi _ (Z1 hb e)))).1,fun b hb=>?_,w7⟩;obtain⟨o,e,d⟩:=T.obj _ _ st5 b hb;exact(I7.pin (b,o) (YJi _ (YJi _ (Z1 hb e)))).2.1
  cases f with
  |next=>obtain⟨σ7,H7,I7,n7⟩:=q7;exact again I7 n7
  |cont=>obtain⟨σ7,H7,I7,n7⟩:=q7;exact again I7 n7
  |brk=>obtain⟨σ7,H7,I7,q7⟩:=q7;exact⟨σ7,H7,I7.unpinned,q7⟩
  |ret v=>obtain⟨x7,σ7,H7,I7,r7,q7⟩:=q7;exact⟨x7,σ7,H7,I7.unpinned,r7,q7⟩
end
theorem XT {K:W.Frag}{a:Addr}{xs:List V}{g:TG}{tb:TS}{D:YAf}{σ:St}{H:Hp} (Pv:Nat→St→Hp→Prop) (h0:Pv 0 σ H) (hl:∀i σ H,i≤xs.length→Pv i σ H→SqL K H a xs)
  (hs:∀i x σ H,xs[i]?=some x→Pv i σ H→g x σ H fun σ2 H2=>tb { D with nx:=Pv (i + 1),ct:=Pv (i + 1),bk:=D.nx } σ2 H2) (hd:∀σ H,Pv xs.length σ H→D.nx σ H):
  ∃W:Nat→Nat→St→Hp→Prop,(∃m,W 0 m σ H)∧∀i m σ H,W i m σ H→
   ((Itl K a).stop i H∧D.nx σ H)∨((Itl K a).go i H∧∃N:St→Hp→Prop,(∀σ' H',N σ' H'→∃m',m' < m∧W (i + 1) m' σ' H')∧∀x H',(Itl K a).yld i H x H'→g x σ H' fun σ2 H2=>tb { D with nx:=N,ct:=N,bk:=D.nx } σ2 H2):=by
 refine⟨fun i m σ H=>m=xs.length - i∧i≤xs.length∧Pv i σ H,⟨xs.length,by simp,YJw _,h0⟩,?_⟩;rintro i m σ H ⟨rfl,hi,p⟩;have q:=hl i σ H hi p
 by_cases hlt:i < xs.length
 ·refine .inr ⟨⟨xs,xs[i],q,by simp[hlt]⟩,Pv (i + 1),fun σ' H' p'=>⟨xs.length - (i + 1),by omega,rfl,hlt,p'⟩,fun x H' y=>?_⟩;obtain⟨e,y⟩:=y;subst e;exact hs i x σ _ (y xs q) p
 ·have e:i=xs.length:=by omega
  subst e;exact .inl ⟨⟨xs,q,YJP _⟩,hd σ H p⟩
theorem YD0 {K:W.Frag}{a:Addr}{xs:List V}{g:TG}{tb:TS}{D:YAf}{σ:St}{H:Hp} (Pv:Nat→St→Hp→Prop) (h0:Pv 0 σ H) (hl:∀i σ H,i≤xs.length→Pv i σ H→SqT K H a xs)
  (hs:∀i x σ H,xs[i]?=some x→Pv i σ H→g x σ H fun σ2 H2=>tb { D with nx:=Pv (i + 1),ct:=Pv (i + 1),bk:=D.nx } σ2 H2) (hd:∀σ H,Pv xs.length σ H→D.nx σ H):
  ∃W:Nat→Nat→St→Hp→Prop,(∃m,W 0 m σ H)∧∀i m σ H,W i m σ H→
   ((Itt K a).stop i H∧D.nx σ H)∨((Itt K a).go i H∧∃N:St→Hp→Prop,(∀σ' H',N σ' H'→∃m',m' < m∧W (i + 1) m' σ' H')∧∀x H',(Itt K a).yld i H x H'→g x σ H' fun σ2 H2=>tb { D with nx:=N,ct:=N,bk:=D.nx } σ2 H2):=by
 refine⟨fun i m σ H=>m=xs.length - i∧i≤xs.length∧Pv i σ H,⟨xs.length,by simp,YJw _,h0⟩,?_⟩;rintro i m σ H ⟨rfl,hi,p⟩;have q:=hl i σ H hi p
 by_cases hlt:i < xs.length
 ·refine .inr ⟨⟨xs,xs[i],q,by simp[hlt]⟩,Pv (i + 1),fun σ' H' p'=>⟨xs.length - (i + 1),by omega,rfl,hlt,p'⟩,fun x H' y=>?_⟩;obtain⟨e,y⟩:=y;subst e;exact hs i x σ _ (y xs q) p
 ·have e:i=xs.length:=by omega
  subst e;exact .inl ⟨⟨xs,q,YJP _⟩,hd σ H p⟩
theorem Y0 {lo:Int}{n:Nat}{g:TG}{tb:TS}{D:YAf}{σ:St}{H:Hp} (Pv:Nat→St→Hp→Prop) (h0:Pv 0 σ H)
  (hs:∀i σ H,i < n→Pv i σ H→g (.int (lo + i)) σ H fun σ2 H2=>tb { D with nx:=Pv (i + 1),ct:=Pv (i + 1),bk:=D.nx } σ2 H2) (hd:∀σ H,Pv n σ H→D.nx σ H):
  ∃W:Nat→Nat→St→Hp→Prop,(∃m,W 0 m σ H)∧∀i m σ H,W i m σ H→
   ((Itr lo n).stop i H∧D.nx σ H)∨((Itr lo n).go i H∧∃N:St→Hp→Prop,(∀σ' H',N σ' H'→∃m',m' < m∧W (i + 1) m' σ' H')∧∀x H',(Itr lo n).yld i H x H'→g x σ H' fun σ2 H2=>tb { D with nx:=N,ct:=N,bk:=D.nx } σ2 H2):=by
 refine⟨fun i m σ H=>m=n - i∧i≤n∧Pv i σ H,⟨n,by simp,YJw _,h0⟩,?_⟩;rintro i m σ H ⟨rfl,hi,p⟩
 by_cases hlt:i < n
 ·refine .inr ⟨hlt,Pv (i + 1),fun σ' H' p'=>⟨n - (i + 1),by omega,rfl,hlt,p'⟩,fun x H' y=>?_⟩;obtain⟨e,y⟩:=y;subst e y;exact hs i σ _ hlt p
 ·have e:i=n:=by omega
  subst e;exact .inl ⟨YJP _,hd σ H p⟩
theorem YIC {c:TT}{tb:TS}{D:YAf}{σ:St}{H:Hp} (Pv:St→Hp→Prop) (μ:St→Hp→Nat) (h0:Pv σ H)
  (hs:∀σ H,Pv σ H→c σ H fun b H1=>if b=true then tb { D with nx:=fun σ' H'=>Pv σ' H'∧μ σ' H' < μ σ H,ct:=fun σ' H'=>Pv σ' H'∧μ σ' H' < μ σ H,bk:=D.nx } σ H1 else D.nx σ H1)
  (mono:∀σ H Q Q',(∀b H1,Q b H1→Q' b H1)→c σ H Q→c σ H Q'):YH8 c tb D σ H:=by
 refine⟨fun m σ H=>m=μ σ H∧Pv σ H,⟨_,rfl,h0⟩,?_⟩;rintro m σ H ⟨rfl,p⟩;refine mono σ H _ _ (fun b H1 q=>?_) (hs σ H p);cases b with
 |true=>exact⟨_,fun σ' H' ⟨p',l⟩=>⟨_,l,rfl,p'⟩,q⟩
 |false=>exact q
end L2
namespace L2
open PySem PySem.Spec PyProof.Rows
abbrev R2:=V→V→Hp→VK→Prop
def OpR (X:Cx) (f:Value→Value→Sem Value) (r:R2):Prop:=
 ∀(pins:List (Addr×Obj)) (s:Shared) (σ:St) (H:Hp) (x y:V) (v u:Value) (Q:VK),Inv X pins σ H s→Yk x v→Yk y u→r x y H Q→
  wpAny (model X.prog X.w) X.A (f v u) (EP X pins σ Q) X.xe s
def UnR (X:Cx) (f:Value→Sem Value) (r:V→Hp→VK→Prop):Prop:=
 ∀(pins:List (Addr×Obj)) (s:Shared) (σ:St) (H:Hp) (x:V) (v:Value) (Q:VK),Inv X pins σ H s→Yk x v→r x H Q→
  wpAny (model X.prog X.w) X.A (f v) (EP X pins σ Q) X.xe s
def Zl (X:Cx) (f:Value) (r:List V→Hp→VK→Prop):Prop:=
 ∀(pins:List (Addr×Obj)) (s:Shared) (σ:St) (H:Hp) (xs:List V) (us:List Value) (Q:VK),Inv X pins σ H s→Ye xs us→r xs H Q→
  wpAny (model X.prog X.w) X.A (call f us) (EP X pins σ Q) X.xe s
def tOp (r:R2) (ta tb:TE):TE:=fun σ H Q=>ta σ H fun x H1=>tb σ H1 fun y H2=>r x y H2 Q
def tUn (r:V→Hp→VK→Prop) (ta:TE):TE:=fun σ H Q=>ta σ H fun x H1=>r x H1 Q
inductive rI_ (C:Int→Int→Prop) (g:Int→Int→V) (x:V) (y:V) (H:Hp) (Q:VK):Prop where
 |mk (i:_) (j:_) (h0_:x=.int i) (h1_:y=.int j) (h2_:C i j) (h3_:Q (g i j) H):rI_ C g x y H Q
def rI (C:Int→Int→Prop) (g:Int→Int→V):R2:=fun x y H Q=>rI_ C g x y H Q
inductive rI0_ (g:Int→Int→V) (x:V) (y:V) (H:Hp) (Q:VK):Prop where
 |mk (i:_) (j:_) (h0_:x=.int i) (h1_:y=.int j) (h2_:Q (g i j) H):rI0_ g x y H Q
def rI0 (g:Int→Int→V):R2:=fun x y H Q=>rI0_ g x y H Q
inductive rU_ (g:Int→V) (x:V) (H:Hp) (Q:VK):Prop where
 |mk (i:_) (h0_:x=.int i) (h1_:Q (g i) H):rU_ g x H Q
def rU (g:Int→V):V→Hp→VK→Prop:=fun x H Q=>rU_ g x H Q
section
variable {X:Cx}{a b c:Expr}{ta tb tc:TE}{pos:Pos}
theorem binT (ha:PE X a ta) (hb:PE X b tb) {pins:List (Addr×Obj)}{s:Shared}{σ:St}{H:Hp}{R:V→V→Hp→Prop} (I:Inv X pins σ H s)
  (h:ta σ H fun x H1=>tb σ H1 fun y H2=>R x y H2) {Q:Value→Shared→Prop}{f:Value→Value→Sem Value}
  (hf:∀v u s2 x y H2,Inv X pins σ H2 s2→Yk x v→Yk y u→R x y H2→wpAny (model X.prog X.w) X.A (f v u) Q X.xe s2):
  wpAny (model X.prog X.w) X.A (eval a X.env) (fun v s₁=>wpAny (model X.prog X.w) X.A (eval b X.env) (fun u s₂=>wpAny (model X.prog X.w) X.A (f v u) Q X.xe s₂) X.xe s₁) X.xe s:=by
 refine thn (ha pins s σ H _ I h) fun v s1 ⟨x,H1,I1,r1,q1⟩=>?_
 refine thn (hb pins s1 σ H1 _ I1 q1) fun u s2 ⟨y,H2,I2,r2,q2⟩=>?_
 exact hf v u s2 x y H2 I2 r1 r2 q2
theorem YI {op:Operator}{r:R2} (ho:OpR X (binaryOp op) r) (ha:PE X a ta) (hb:PE X b tb):PE X (.BinOp a op b pos) (tOp r ta tb):=by
 intro pins s σ H Q I h;exact wpAny_BinOp (binT ha hb I h fun v u s2 x y H2 I2 rx ry q=>ho pins s2 σ H2 x y v u Q I2 rx ry q)
theorem pe_un {op:UnaryOp}{r:V→Hp→VK→Prop} (ho:UnR X (unaryOp op) r) (ha:PE X a ta):PE X (.UnaryOp op a pos) (tUn r ta):=by
 intro pins s σ H Q I h;exact UnaryOp_ (thn (ha pins s σ H _ I h) fun v s1 ⟨x,H1,I1,r1,q1⟩=>ho pins s1 σ H1 x v Q I1 r1 q1)
theorem opI {f:Value→Value→Sem Value}{C:Int→Int→Prop}{g:Int→Int→Int}
  (rule:∀(i j:Int) (t u:Tok) (s:Shared) (Q:Value→Shared→Prop) (E:Value→Shared→Prop),C i j→Q (.int (g i j) s.toks) { s with toks:=s.toks + 1 }→wpAny (model X.prog X.w) X.A (f (.int i t) (.int j u)) Q E s):
  OpR X f (rI C fun i j=>.int (g i j)):=by
 intro pins s σ H x y v u Q I rx ry h;obtain⟨i,j,rfl,rfl,hc,q⟩:=h;obtain⟨t,rfl⟩:=rx;obtain⟨t',rfl⟩:=ry;exact rule i j t t' s _ _ hc ⟨.int (g i j),H,I.tok _,⟨_,rfl⟩,q⟩
theorem opI0 {f:Value→Value→Sem Value}{g:Int→Int→Int}
  (rule:∀(i j:Int) (t u:Tok) (s:Shared) (Q:Value→Shared→Prop) (E:Value→Shared→Prop),Q (.int (g i j) s.toks) { s with toks:=s.toks + 1 }→wpAny (model X.prog X.w) X.A (f (.int i t) (.int j u)) Q E s):
  OpR X f (rI0 fun i j=>.int (g i j)):=by
 intro pins s σ H x y v u Q I rx ry h;obtain⟨i,j,rfl,rfl,q⟩:=h;obtain⟨t,rfl⟩:=rx;obtain⟨t',rfl⟩:=ry;exact rule i j t t' s _ _ ⟨.int (g i j),H,I.tok _,⟨_,rfl⟩,q⟩
theorem opB0 {f:Value→Value→Sem Value}{g:Int→Int→Bool}
  (rule:∀(i j:Int) (t u:Tok) (s:Shared) (Q:Value→Shared→Prop) (E:Value→Shared→Prop),Q (.bool (g i j)) s→wpAny (model X.prog X.w) X.A (f (.int i t) (.int j u)) Q E s):
  OpR X f (rI0 fun i j=>.bl (g i j)):=by
 intro pins s σ H x y v u Q I rx ry h;obtain⟨i,j,rfl,rfl,q⟩:=h;obtain⟨t,rfl⟩:=rx;obtain⟨t',rfl⟩:=ry;exact rule i j t t' s _ _ ⟨.bl (g i j),H,I,rfl,q⟩
def CDiv (i j:Int):Prop:=0 < j∧j < 1073741824
def CPow (i j:Int):Prop:=0≤j∧j≤1000000∧i.natAbs < 2 ^ 64
def CMul (i j:Int):Prop:=(-(2 ^ 64) < i∧i < 2 ^ 64)∨(-(2 ^ 64) < j∧j < 2 ^ 64)
theorem CMul.ok {i j:Int} (h:CMul i j):IntMulOk i j:=by
 rcases h with ⟨h1,h2⟩ |⟨h1,h2⟩
 ·exact .of_left (intBits_le_64 h1 h2)
 ·exact .of_right (intBits_le_64 h1 h2)
theorem Yb:OpR X (binaryOp .Add) (rI0 fun i j=>.int (i + j)):=opI0 fun _ _ _ _ _ _ _ q=>add_int q
theorem Z2:OpR X (binaryOp .Sub) (rI0 fun i j=>.int (i - j)):=opI0 fun _ _ _ _ _ _ _ q=>sub_int q
theorem Ji:OpR X (binaryOp .Mult) (rI CMul fun i j=>.int (i * j)):=opI fun _ _ _ _ _ _ _ hc q=>mul_int q hc.ok
theorem Y6:OpR X (binaryOp .FloorDiv) (rI CDiv fun i j=>.int (i / j)):=opI fun i j _ _ _ _ _ hc q=>by
 have h1:(0:Int) < j:=hc.1;have h2:j < 1073741824:=hc.2;exact floordiv_int (by omega) (by rw[Int.fdiv_eq_ediv_of_nonneg i (by omega)];exact q) (.inl (PyProof.noPylong_small (by omega)))
theorem Ym:OpR X (binaryOp .Mod) (rI (fun _ j=>0 < j) fun i j=>.int (i % j)):=opI fun i j _ _ _ _ _ hc q=>by
 have h1:(0:Int) < j:=hc;exact mod_int' (by omega) (by rw[Int.fmod_eq_emod_of_nonneg i (by omega)];exact q)
theorem X8:OpR X (binaryOp .Pow) (rI CPow fun i j=>.int (i ^ j.toNat)):=opI fun _ _ _ _ _ _ _ hc q=>pow_int_small hc.1 hc.2.1 hc.2.2 q
theorem unI {f:Value→Sem Value}{g:Int→Int}
  (rule:∀(i:Int) (t:Tok) (s:Shared) (Q:Value→Shared→Prop) (E:Value→Shared→Prop),Q (.int (g i) s.toks) { s with toks:=s.toks + 1 }→wpAny (model X.prog X.w) X.A (f (.int i t)) Q E s):
  UnR X f (rU fun i=>.int (g i)):=by
 intro pins s σ H x v Q I rx h;obtain⟨i,rfl,q⟩:=h;obtain⟨t,rfl⟩:=rx;exact rule i t s _ _ ⟨.int (g i),H,I.tok _,⟨_,rfl⟩,q⟩
theorem YFu:UnR X (unaryOp .USub) (rU fun i=>.int (-i)):=unI fun _ _ _ _ _ q=>neg_int q
end
def scal:V→V→Bool
 |.non,.non=>true |.non,.int _=>true |.int _,.non=>true |.non,.bl _=>true |.bl _,.non=>true |.non,.str _=>true |.str _,.non=>true
 |.int _,.int _=>true |.bl _,.bl _=>true |.str _,.str _=>true |.byt _,.byt _=>true
 |.int _,.str _=>true |.str _,.int _=>true |.bl _,.str _=>true |.str _,.bl _=>true
 |_,_=>false
inductive rEq_ (x:V) (y:V) (H:Hp) (Q:VK):Prop where
 |mk (h0_:scal x y=true) (h1_:Q (.bl (decide (x=y))) H):rEq_ x y H Q
def rEq:R2:=fun x y H Q=>rEq_ x y H Q
inductive rNe_ (x:V) (y:V) (H:Hp) (Q:VK):Prop where
 |mk (h0_:scal x y=true) (h1_:Q (.bl (!decide (x=y))) H):rNe_ x y H Q
def rNe:R2:=fun x y H Q=>rNe_ x y H Q
theorem YGe {i j:Int}:decide (V.int i=V.int j)=(i == j):=by
 rw[YKh];simp
theorem YID {i j:Bool}:decide (V.bl i=V.bl j)=(i == j):=by
 rw[YKh];simp
theorem YGf {i j:Str}:decide (V.str i=V.str j)=(i == j):=by
 rw[YKh];simp
theorem YGg {i j:Array UInt8}:decide (V.byt i=V.byt j)=(i.toList == j.toList):=by
 rw[YKh];cases i;cases j;simp
section
variable {X:Cx}{a b c:Expr}{ta tb tc:TE}{pos:Pos}
theorem Yl {pins:List (Addr×Obj)}{σ:St}{H:Hp}{s:Shared}{Q:VK}{k k':Bool} (I:Inv X pins σ H s) (q:Q (.bl k) H) (e:k=k'):EP X pins σ Q (.bool k') s:=by
 subst e;exact⟨.bl k,H,I,rfl,q⟩
theorem X9:OpR X (compareOp .Eq) rEq:=by
 intro pins s σ H x y v u Q I rx ry h;obtain⟨hs,q⟩:=h;cases x with
 |non=>
  cases rx;cases y with
  |non=>cases ry;exact PySem.EqNone.eq_none_none (Yl I q (by simp))
  |bl j=>cases ry;exact PySem.EqNone.eq_none_bool (Yl I q (by simp))
  |int j=>obtain⟨t',rfl⟩:=ry;exact PySem.EqNone.eq_none_int (Yl I q (by simp))
  |str j=>obtain⟨t',rfl⟩:=ry;exact PySem.EqNone.eq_none_str (Yl I q (by simp))
  |_=>exact absurd (show false=true from hs) YJZ
 |bl i=>
  cases rx;cases y with
  |non=>cases ry;exact PySem.EqNone.eq_bool_none (Yl I q (by simp))
  |bl j=>cases ry;exact eq_bool (Yl I q YID)
  |str j=>obtain⟨t',rfl⟩:=ry;exact PySem.EqMixed.eq_bool_str (Yl I q (by simp))
  |_=>exact absurd (show false=true from hs) YJZ
 |int i=>
  obtain⟨t,rfl⟩:=rx;cases y with
  |non=>cases ry;exact PySem.EqNone.eq_int_none (Yl I q (by simp))
  |int j=>obtain⟨t',rfl⟩:=ry;exact eq_int (Yl I q YGe)
  |str j=>obtain⟨t',rfl⟩:=ry;exact PySem.EqMixed.eq_int_str (Yl I q (by simp))
  |_=>exact absurd (show false=true from hs) YJZ
 |str i=>
  obtain⟨t,rfl⟩:=rx;cases y with
  |non=>cases ry;exact PySem.EqNone.eq_str_none (Yl I q (by simp))
  |bl j=>cases ry;exact PySem.EqMixed.eq_str_bool (Yl I q (by simp))
  |int j=>obtain⟨t',rfl⟩:=ry;exact PySem.EqMixed.eq_str_int (Yl I q (by simp))
  |str j=>obtain⟨t',rfl⟩:=ry;exact eq_str (Yl I q YGf)
  |_=>exact absurd (show false=true from hs) YJZ
 |byt i=>
  obtain⟨t,rfl⟩:=rx;cases y with
  |byt j=>obtain⟨t',rfl⟩:=ry;exact PySem.W.eq_bytes (Yl I q YGg)
  |_=>exact absurd (show false=true from hs) YJZ
 |_=>cases y <;> exact absurd (show false=true from hs) YJZ
theorem YEe:OpR X (compareOp .NotEq) rNe:=by
 intro pins s σ H x y v u Q I rx ry h;obtain⟨hs,q⟩:=h;cases x with
 |non=>
  cases rx;cases y with
  |non=>cases ry;exact PySem.EqNone.ne_none_none (Yl I q (by simp))
  |bl j=>cases ry;exact PySem.EqNone.ne_none_bool (Yl I q (by simp))
  |int j=>obtain⟨t',rfl⟩:=ry;exact PySem.EqNone.ne_none_int (Yl I q (by simp))
  |str j=>obtain⟨t',rfl⟩:=ry;exact PySem.EqNone.ne_none_str (Yl I q (by simp))
  |_=>exact absurd (show false=true from hs) YJZ
 |bl i=>
  cases rx;cases y with
  |non=>cases ry;exact PySem.EqNone.ne_bool_none (Yl I q (by simp))
  |bl j=>cases ry;exact ne_bool (Yl I q (YKV not YID))
  |str j=>obtain⟨t',rfl⟩:=ry;exact PySem.EqMixed.ne_bool_str (Yl I q (by simp))
  |_=>exact absurd (show false=true from hs) YJZ
 |int i=>
  obtain⟨t,rfl⟩:=rx;cases y with
  |non=>cases ry;exact PySem.EqNone.ne_int_none (Yl I q (by simp))
  |int j=>obtain⟨t',rfl⟩:=ry;exact ne_int (Yl I q (YKV not YGe))
  |str j=>obtain⟨t',rfl⟩:=ry;exact PySem.EqMixed.ne_int_str (Yl I q (by simp))
  |_=>exact absurd (show false=true from hs) YJZ
 |str i=>
  obtain⟨t,rfl⟩:=rx;cases y with
  |non=>cases ry;exact PySem.EqNone.ne_str_none (Yl I q (by simp))
  |bl j=>cases ry;exact PySem.EqMixed.ne_str_bool (Yl I q (by simp))
  |int j=>obtain⟨t',rfl⟩:=ry;exact PySem.EqMixed.ne_str_int (Yl I q (by simp))
  |str j=>obtain⟨t',rfl⟩:=ry;exact ne_str (Yl I q (YKV not YGf))
  |_=>exact absurd (show false=true from hs) YJZ
 |byt i=>
  obtain⟨t,rfl⟩:=rx;cases y with
  |byt j=>obtain⟨t',rfl⟩:=ry;exact PySem.W.ne_bytes (Yl I q (YKV not YGg))
  |_=>exact absurd (show false=true from hs) YJZ
 |_=>cases y <;> exact absurd (show false=true from hs) YJZ
theorem op_lt:OpR X (compareOp .Lt) (rI0 fun i j=>.bl (decide (i < j))):=opB0 fun _ _ _ _ _ _ _ q=>lt_int q
theorem Xy:OpR X (compareOp .LtE) (rI0 fun i j=>.bl (decide (i≤j))):=opB0 fun _ _ _ _ _ _ _ q=>le_int q
theorem op_ge:OpR X (compareOp .GtE) (rI0 fun i j=>.bl (decide (j≤i))):=opB0 fun _ _ _ _ _ _ _ q=>ge_int q
theorem YHN:OpR X (compareOp .In) (fun x y H Q=>∃i j,x=.str i∧y=.str j∧Q (.bl (!(Builtin.Str.occurrences j i 0 j.length 1).isEmpty)) H):=by
 intro pins s σ H x y v u Q I rx ry h;obtain⟨i,j,rfl,rfl,q⟩:=h;obtain⟨t,rfl⟩:=rx;obtain⟨t',rfl⟩:=ry;exact in_str (Yl I q rfl)
theorem op_isN:OpR X (compareOp .Is) (fun x y H Q=>y=.non∧Q (.bl (decide (x=.non))) H):=by
 intro pins s σ H x y v u Q I rx ry h;obtain⟨rfl,q⟩:=h;cases ry;refine is_none_gen (Yl I q ?_);cases x <;> first
  |(cases rx;rfl)
  |(obtain⟨t,rfl⟩:=rx;rfl)
theorem YD1:OpR X (compareOp .IsNot) (fun x y H Q=>y=.non∧Q (.bl (!decide (x=.non))) H):=by
 intro pins s σ H x y v u Q I rx ry h;obtain⟨rfl,q⟩:=h;cases ry;refine isnot_none_gen (Yl I q ?_);cases x <;> first
  |(cases rx;rfl)
  |(obtain⟨t,rfl⟩:=rx;rfl)
theorem YD2:OpR X (compareOp .NotIn) (fun x y H Q=>∃i j,x=.str i∧y=.str j∧Q (.bl (!(!(Builtin.Str.occurrences j i 0 j.length 1).isEmpty))) H):=by
 intro pins s σ H x y v u Q I rx ry h;obtain⟨i,j,rfl,rfl,q⟩:=h;obtain⟨t,rfl⟩:=rx;obtain⟨t',rfl⟩:=ry;exact notIn_str (Yl I q rfl)
theorem Yv (b:Expr) {op:CmpOp} (h:op≠.In:=by decide) (h2:op≠.NotIn:=by decide):behindInMarks op b=false:=by
 have e1:(op == CmpOp.In)=false:=by cases op <;> first |rfl |exact absurd rfl h
 have e2:(op == CmpOp.NotIn)=false:=by cases op <;> first |rfl |exact absurd rfl h2
 cases b <;> simp[behindInMarks,e1,e2]
theorem JW {op:CmpOp}{r:R2} (ho:OpR X (compareOp op) r) (ha:PE X a ta) (hb:PE X b tb) (hm:behindInMarks op b=false):PE X (.Compare a [op] [b] pos) (tOp r ta tb):=by
 intro pins s σ H Q I h;exact wpAny_Compare1 (binT ha hb I h fun v u s2 x y H2 I2 rx ry q=>ho pins s2 σ H2 x y v u Q I2 rx ry q) hm
def tTest (t:TE):TT:=fun σ H Q=>t σ H fun x H'=>∃k,x=.bl k∧Q k H'
theorem Y1 {op:CmpOp}{r:R2} (ho:OpR X (compareOp op) r) (ha:PE X a ta) (hb:PE X b tb) (hm:behindInMarks op b=false):PT X (.Compare a [op] [b] pos) (tTest (tOp r ta tb)):=by
 intro pins s σ H Q I h;refine wpAny_isTrue_Compare1 (thn (ha pins s σ H _ I h) fun v s1 ⟨x,H1,I1,r1,q1⟩=>thn (hb pins s1 σ H1 _ I1 q1) fun u s2 ⟨y,H2,I2,r2,q2⟩=>
  thn (ho pins s2 σ H2 x y v u _ I2 r1 r2 q2) fun c s3 ⟨z,H3,I3,r3,k,e,q3⟩=>?_) hm
 subst e;cases r3;exact wpAny_truthy_bool ⟨H3,I3,q3⟩
def tChain (r r':R2) (ta tb tc:TE):TE:=fun σ H Q=>ta σ H fun x H1=>tb σ H1 fun y H2=>r x y H2 fun z H3=>∃k,z=.bl k∧
 (if k=true then tc σ H3 fun w' H4=>r' y w' H4 Q else Q (.bl false) H3)
theorem YAA {op op':CmpOp}{r r':R2} (ho:OpR X (compareOp op) r) (ho':OpR X (compareOp op') r') (ha:PE X a ta) (hb:PE X b tb) (hc:PE X c tc)
  (hm:lastMarks [op,op'] [b,c]=false:=by with_unfolding_all rfl):PE X (.Compare a [op,op'] [b,c] pos) (tChain r r' ta tb tc):=by
 intro pins s σ H Q I h;refine Compare_chain (thn (ha pins s σ H _ I h) fun v s1 ⟨x,H1,I1,r1,q1⟩=>chain_link (thn (hb pins s1 σ H1 _ I1 q1) fun u s2 ⟨y,H2,I2,r2,q2⟩=>
  thn (ho pins s2 σ H2 x y v u _ I2 r1 r2 q2) fun d s3 ⟨z,H3,I3,r3,k,e,q3⟩=>?_)) hm
 subst e;cases r3;refine wpAny_truthy_bool ?_;cases k with
 |false=>exact ite_ff ⟨.bl false,H3,I3,rfl,q3⟩
 |true=>exact ite_tt (chain_last (thn (hc pins s3 σ H3 _ I3 q3) fun w' s4 ⟨z',H4,I4,r4,q4⟩=>ho' pins s4 σ H4 y z' u w' Q I4 r2 r4 q4))
theorem YBN:(sizeLine:Nat) < 2 ^ 63:=by rw[sizeLine_eq];decide
theorem JN:OpR X (binaryOp .Add) (fun x y H Q=>∃i j,x=.str i∧y=.str j∧i.length + j.length≤sizeLine∧Q (.str (i ++ j)) H):=by
 intro pins s σ H x y v u Q I rx ry h;obtain⟨i,j,rfl,rfl,hz,q⟩:=h;obtain⟨t,rfl⟩:=rx;obtain⟨t',rfl⟩:=ry;exact add_str (fun t' tk=>⟨.str (i ++ j),H,I.tok _,⟨_,rfl⟩,q⟩) hz
theorem JJ {x:V}{us:List Value} (r:Ye [x] us):∃u,us=[u]∧Yk x u:=by
 cases r with
 |cons r1 r2=>cases r2;exact⟨_,rfl,r1⟩
theorem YB8 {x y:V}{us:List Value} (r:Ye [x,y] us):∃u w',us=[u,w']∧Yk x u∧Yk y w':=by
 cases r with
 |cons r1 r2=>
  cases r2 with
  |cons r3 r4=>cases r4;exact⟨_,_,rfl,r1,r3⟩
theorem YAV (hc:X.calm=true):Zl X (.builtin "min") (fun xs H Q=>∃i j,xs=[.int i,.int j]∧Q (.int (if j < i then j else i)) H):=by
 intro pins s σ H xs us Q I r h;obtain⟨i,j,rfl,q⟩:=h;obtain⟨u,w',rfl,⟨t,rfl⟩,⟨t',rfl⟩⟩:=YB8 r;refine min_two_ints (I.ok.hd hc) fun h' tk k=>⟨_,H,I.kept k,?_,q⟩
 by_cases hj:j < i
 ·rw[if_pos hj,if_pos hj];exact⟨_,rfl⟩
 ·rw[if_neg hj,if_neg hj];exact⟨_,rfl⟩
theorem YDB:Zl X (.type "int") (fun xs H Q=>(∃i,xs=[.int i]∧Q (.int i) H)∨∃k,xs=[.bl k]∧Q (.int (if k then 1 else 0)) H):=by
 intro pins s σ H xs us Q I r h;rcases h with ⟨i,rfl,q⟩ |⟨k,rfl,q⟩
 ·obtain⟨u,rfl,t,rfl⟩:=JJ r;exact call_int_int ⟨.int i,H,I,⟨_,rfl⟩,q⟩
 ·obtain⟨u,rfl,r1⟩:=JJ r;cases r1;exact call_int_bool ⟨.int (if k then 1 else 0),H,I.tok _,⟨_,rfl⟩,q⟩
theorem YIE:Zl X (.builtin "ord") (fun xs H Q=>∃x,xs=[.str x]∧x.length=1∧Q (.int (x.cps.getD 0 0:Nat)) H):=by
 intro pins s σ H xs us Q I r h;obtain⟨x,rfl,hz,q⟩:=h;obtain⟨u,rfl,t,rfl⟩:=JJ r;exact ord_of_one hz ⟨.int _,H,I.tok _,⟨_,rfl⟩,q⟩
end
end L2
namespace L2
open PySem PySem.Spec PyProof.Rows
structure ObjM (h:Heap) (x dx C:Addr) (mA:Str→Option Value):Prop where
 obj:h.get? x=some (PySem.W.instObj C dx)
 ns:h.Ns1 dx mA
 ne:dx≠x
theorem YHO {h:Heap}{dx:Addr}{mA:Str→Option Value} (n:h.Ns1 dx mA):∃od,h.get? dx=some od∧∀name,PySem.W.lookIn name od=some (mA name):=by
 obtain⟨o,es,ep,ho,hd,hk,_,hm⟩:=n;refine⟨o,ho,fun name=>?_⟩;have e:=hm name;unfold nsFind findBy at e;rw[←Array.find?_toList]at e;unfold PySem.W.lookIn;rw[hd];dsimp only;split
 ·rename_i y q
  rw[q]at e;exact YKV some e
 ·rename_i q
  rw[q]at e;have a:es.toList.any (·.refKey)=false:=by
   rw[List.any_eq_false];intro y hy;obtain⟨z,t,hkey⟩:=hk y (Array.mem_toList_iff.mp hy);simp[DictEntry.refKey,hkey]
  have a':¬es.toList.any (·.refKey)=true:=by rw[a];exact YJZ
  rw[if_neg a'];exact YKV some e
theorem ObjM.look {h:Heap}{x dx C:Addr}{mA:Str→Option Value} (I:ObjM h x dx C mA):∃od,PySem.W.InstAt h x (PySem.W.instObj C dx) C (some od)∧∀name,PySem.W.lookIn name od=some (mA name):=
 let ⟨od,ho,hl⟩:=YHO I.ns
 ⟨od,⟨I.obj,rfl,rfl,ho⟩,hl⟩
section
variable {prog:Program}{w:World}{A:Around}{E:Value→Shared→Prop}{s:Shared}{K:W.Frag}{x dx C f:Addr}{mA:Str→Option Value}{name:Str}{v:Value}
theorem get_map {expr:Bool}{Q:Value→Shared→Prop} (X:K.In s.heap) (I:ObjM s.heap x dx C mA) (hg:PySem.W.plainGet K C name=true) (hh:PySem.W.hasDictIn K C=true)
  (ha:PySem.W.findIn K (.ref C) name=some none) (hv:mA name=some v) (hv':PySem.W.handedIn v=true) (h:Q v { s with toks:=s.toks + 1 }):
  wpAny (model prog w) A (getAttr (.ref x) name expr) Q E s:=by
 obtain⟨od,J,hl⟩:=I.look;exact PySem.W.get_value X J (PySem.W.plainGet_of hg).1 (PySem.W.findObj_own hh ha rfl (by rw[hl,hv])) hv' h
theorem YIF {pl:Sem Bool}{Q:Value×List Value→Shared→Prop} (X:K.In s.heap) (I:ObjM s.heap x dx C mA) (hg:PySem.W.plainGet K C name=true)
  (hf:PySem.W.findIn K (.ref C) name=some (some (.ref f))) (ht:PySem.W.isFn K (.ref f)=true) (hv:mA name=none) (h:Q (.ref f,[.ref x]) s):
  wpAny (model prog w) A (getMethod (.ref x) name pl) Q E s:=by
 obtain⟨od,J,hl⟩:=I.look;exact PySem.W.method_fn X J (PySem.W.plainGet_of hg).1 (PySem.W.plainGet_of hg).2 hf (beq_iff_eq.mp ht) (by show(PySem.W.lookIn name od).map (·.isSome)=some false;rw[hl,hv];rfl) h
theorem set_map {ns:List Str}{Q:Unit→Shared→Prop} (X:K.In s.heap) (I:ObjM s.heap x dx C mA)
  (hs:PySem.W.findIn K (.ref C) "__setattr__"=some (some (.builtin "object.__setattr__"))) (hp:PySem.W.plainOver K C=true) (ht:PySem.W.takerIn K C name=some none) (hh:PySem.W.hasDictIn K C=true)
  (hw:PySem.Within mA ns) (hsz:ns.length≤sizeLine)
  (h:∀h',ObjM h' x dx C (fun y=>if y=name then some v else mA y)→Heap.SameBut dx s.heap h'→Q () { s with heap:=h',toks:=s.toks + 2 }):
  wpAny (model prog w) A (setAttr (.ref x) name v) Q E s:=by
 obtain⟨od,J,hl⟩:=I.look;refine PySem.W.set_plain X J hs (PySem.W.osa_open (s:={ s with toks:=s.toks + 1 }) (r:=none) X J hp ht fun b=>?_);obtain⟨cd,hc,hd'⟩:=PySem.W.any_some hh;have hx:s.heap.get? x=some ⟨.ref C,some dx,.plain,#[]⟩:=I.obj;refine YJN (YJb (YJN (YJN (wpAny_loadPart hx (YJN (PySem.W.Looks.here (s:={ s with toks:=s.toks + 1 }) (PySem.W.looks_clsIn X hc) ?_))))));rw[hd'];refine YJb (a:=some dx) (YJN (YJb (YJN ?_)));refine wpAny_nsSet1 (s:={ s with toks:=s.toks + 1 }) I.ns fun h' hn2 hs2=>?_
 obtain⟨oD,esD,epD,hoD,hdD,hcD⟩:=hn2.count (PySem.Within.cons name v hw);refine YJN (wpAny_lookBehind hoD (by rw[hdD];exact pastItsLine_dict (YJt hcD (by rw[YJn];omega))) ?_);exact YJb (h _ ⟨(hs2.2 _ (Ne.symm I.ne)).trans I.obj,hn2,I.ne⟩ hs2)
theorem YIG {R:Result→Shared→Prop}{vs:List Value}{kw:List (Str×Value)} (X:K.In s.heap) (hm:PySem.W.makesIn K C=true)
  (hi:PySem.W.findIn K (.ref C) "__init__"=some (some (.ref f))) (hf:PySem.W.typeIn K (.ref f)=some (.type "function"))
  (h:codeAny (model prog w) (A.under (.builtin "type.__call__" ⟨.ref C :: vs,kw⟩)) (.call (.ref f) ⟨.ref (s.heap.objs.size + 1) :: vs,kw⟩) (PySem.W.InitBack (s.heap.objs.size + 1) R)
   { s with heap:=(s.heap.push PySem.W.emptyDict).push (PySem.W.instObj C s.heap.objs.size) }):
  codeAny (model prog w) A (.call (.ref C) ⟨vs,kw⟩) R s:=by
 obtain⟨hh,g,d,t,os⟩:=s;exact PySem.W.make_core (PySem.W.makes_of X hm) (PySem.W.looks_findIn X hi) (fun self=>PySem.W.bind_fn X self hf) (.inl rfl) h
end
def XU (f:Str) (v:V):List (Str×V)→List (Str×V)
 |[]=>[(f,v)]
 |(g,x) :: r=>if g=f then (g,v) :: r else (g,x) :: XU f v r
theorem YBi (f g:Str) (v:V):∀fs:List (Str×V),(XU f v fs).lookup g=if g=f then some v else fs.lookup g
 |[]=>by
  show List.lookup g [(f,v)]=_
  by_cases h:g=f
  ·have hb:(g == f)=true:=beq_iff_eq.mpr h;simp only[List.lookup,hb,if_pos h]
  ·have hb:(g == f)=false:=beq_eq_false_iff_ne.mpr h;simp only[List.lookup,hb,if_neg h]
 |(k,x) :: r=>by
  have ih:=YBi f g v r;rw[show XU f v ((k,x) :: r)=(if k=f then (k,v) :: r else (k,x) :: XU f v r) from rfl]
  by_cases hk:k=f
  ·rw[if_pos hk]
   by_cases h:g=k
   ·have hb:(g == k)=true:=beq_iff_eq.mpr h;simp only[List.lookup,hb,if_pos (h.trans hk)]
   ·have hb:(g == k)=false:=beq_eq_false_iff_ne.mpr h;simp only[List.lookup,hb,if_neg (fun e:g=f=>h (e.trans hk.symm))]
  ·rw[if_neg hk]
   by_cases h:g=k
   ·have hb:(g == k)=true:=beq_iff_eq.mpr h;simp only[List.lookup,hb,if_neg (fun e:g=f=>hk (h.symm.trans e))]
   ·have hb:(g == k)=false:=beq_eq_false_iff_ne.mpr h;simp only[List.lookup,hb];exact ih
theorem YBO (f:Str) (v:V):∀fs:List (Str×V),f∈(XU f v fs).map (·.1)∧∀g,g∈fs.map (·.1)→g∈(XU f v fs).map (·.1)
 |[]=>⟨by simp[XU],fun g h=>by simp at h⟩
 |(k,x) :: r=>by
  obtain⟨i1,i2⟩:=YBO f v r;rw[show XU f v ((k,x) :: r)=(if k=f then (k,v) :: r else (k,x) :: XU f v r) from rfl]
  by_cases hk:k=f
  ·rw[if_pos hk];subst hk;exact⟨by simp,fun g h=>by simpa using h⟩
  ·rw[if_neg hk];refine⟨?_,fun g h=>?_⟩
   ·rw[YJ1];exact YJf _ i1
   ·rw[YJ1]at h ⊢;rcases YJg.mp h with e |e
    ·exact YJg.mpr (.inl e)
    ·exact YJf _ (i2 g e)
theorem YBj (f:Str) (v:V):∀fs:List (Str×V),(XU f v fs).length≤fs.length + 1
 |[]=>by simp[XU]
 |(k,x) :: r=>by
  have ih:=YBj f v r;rw[show XU f v ((k,x) :: r)=(if k=f then (k,v) :: r else (k,x) :: XU f v r) from rfl]
  by_cases hk:k=f
  ·rw[if_pos hk,YJn,YJn];omega
  ·rw[if_neg hk,YJn,YJn];omega
theorem X2.some_of {v:V}{o:Option Value} (r:X2 (some v) o):∃u,o=some u∧Yk v u:=by
 cases o with
 |none=>exact(show False from r).elim
 |some u=>exact⟨u,rfl,r⟩
theorem X2.none_of {o:Option Value} (r:X2 none o):o=none:=by
 cases o with
 |none=>rfl
 |some u=>exact(show False from r).elim
theorem YHP {v:V}{u:Value} (r:Yk v u):PySem.W.handedIn u=true:=by
 cases v with
 |non=>cases (show u=Value.none from r);rfl
 |bl b=>cases (show u=Value.bool b from r);rfl
 |int i=>obtain⟨t,e⟩:=(show ∃t,u=Value.int i t from r);cases e;rfl
 |str x=>obtain⟨t,e⟩:=(show ∃t,u=Value.str x t from r);cases e;rfl
 |byt b=>obtain⟨t,e⟩:=(show ∃t,u=Value.bytes b t from r);cases e;rfl
 |flt b=>obtain⟨t,e⟩:=(show ∃t,u=Value.float b t from r);cases e;rfl
 |ref a=>cases (show u=Value.ref a from r);rfl
 |ty n=>cases (show u=Value.type n from r);rfl
section
variable {P:Program}{w:World}{H H':Hp}{h h':Heap}{a C dx:Addr}{fs fs':List (Str×V)}
theorem YB2 (hok:HOk P w H h) (e:H a=some (.ins C dx fs)):∃mA,ObjM h a dx C mA∧(∀f,X2 (fs.lookup f) (mA f))∧PySem.Within mA (fs.map (·.1))∧fs.length≤1000∧H dx=some (.own a):=by
 obtain⟨d,z,ne,ob,mA,n,r,q⟩:=(show Yj P w H h a (.ins C dx fs) from hok a _ e);exact⟨mA,⟨ob,n,ne⟩,r,q,z,d⟩
end
structure Cls (K:W.Frag) (C:Addr):Prop where
 pg:PySem.W.plainGet K C Str.empty=true
 hd:PySem.W.hasDictIn K C=true
 po:PySem.W.plainOver K C=true
 sa:PySem.W.findIn K (.ref C) "__setattr__"=some (some (.builtin "object.__setattr__"))
theorem Cls.get {K:W.Frag}{C:Addr} (c:Cls K C) (f:Str):PySem.W.plainGet K C f=true:=c.pg
def Z7 (K:W.Frag) (C:Addr) (f:Str):Prop:=PySem.W.findIn K (.ref C) f=some none
theorem Z7.taker {K:W.Frag}{C:Addr}{f:Str} (n:Z7 K C f):PySem.W.takerIn K C f=some none:=by
 unfold PySem.W.takerIn;rw[show PySem.W.findIn K (.ref C) f=some none from n];rfl
structure Meth (K:W.Frag) (C:Addr) (m:Str) (f:Addr):Prop where
 at_:PySem.W.findIn K (.ref C) m=some (some (.ref f))
 fn:PySem.W.isFn K (.ref f)=true
 kp:PySem.W.keepIn K (.ref f)=true
section
variable {X:Cx}{pins:List (Addr×Obj)}{σ:St}{H:Hp}{s:Shared}{a C dx:Addr}{fs:List (Str×V)}{f:Str}{v:V}{A:Around}{E:Value→Shared→Prop}
theorem YFv {b:Bool}{Q:Value→Shared→Prop} (I:Inv X pins σ H s) (e:H a=some (.ins C dx fs)) (c:Cls X.K C) (n:Z7 X.K C f) (l:fs.lookup f=some v)
  (h:∀u s',Inv X pins σ H s'→Yk v u→Q u s'):wpAny (model X.prog X.w) A (getAttr (.ref a) f b) Q E s:=by
 obtain⟨mA,O,r,_,_,_⟩:=YB2 I.hok e;obtain⟨u,hu,ru⟩:=X2.some_of (v:=v) (o:=mA f) (by rw[←l];exact r f);exact get_map I.kIn O (c.get f) c.hd n hu (YHP ru) (h u _ (I.tok _) ru)
theorem YB9 {m:Str}{g:Addr}{pl:Sem Bool}{Q:Value×List Value→Shared→Prop} (I:Inv X pins σ H s) (e:H a=some (.ins C dx fs)) (c:Cls X.K C) (k:Meth X.K C m g) (l:fs.lookup m=none)
  (h:Q (.ref g,[.ref a]) s):wpAny (model X.prog X.w) A (getMethod (.ref a) m pl) Q E s:=by
 obtain⟨mA,O,r,_,_,_⟩:=YB2 I.hok e;have hn:mA m=none:=X2.none_of (by rw[←l];exact r m);exact YIF I.kIn O (c.get m) k.at_ k.fn hn h
theorem YFw {y:V}{u:Value}{Q:Unit→Shared→Prop} (I:Inv X pins σ H s) (e:H a=some (.ins C dx fs)) (c:Cls X.K C) (n:Z7 X.K C f) (hl:fs.length < 1000) (ry:Yk y u)
  (h:∀s',Inv X pins σ (upd H a (.ins C dx (XU f y fs))) s'→Q () s'):wpAny (model X.prog X.w) A (setAttr (.ref a) f u) Q E s:=by
 obtain⟨mA,O,r,wi,_,ho⟩:=YB2 I.hok e;have hz:(fs.map (·.1)).length≤sizeLine:=by rw[YJL,sizeLine_eq];omega
 refine set_map I.kIn O c.sa c.po n.taker c.hd wi hz fun h' O' sb=>h _ ?_
 have hd:∃o,h'.get? dx=some o:=let ⟨o,_,_,e',_⟩:=O'.ns;⟨o,e'⟩
 refine I.write (x:=a) (e:=dx) (by rw[e];exact True.intro) (.inr ho) (fun b q hb z=>(sb.2 b hb).trans z) hd ?_;refine⟨by rw[YH O.ne];exact ho,?_,O.ne,O'.obj,_,O'.ns,fun g=>?_,fun g hg=>?_⟩
 ·have:=YBj f y fs;omega
 ·show X2 ((XU f y fs).lookup g) (if g=f then some u else mA g);rw[YBi]
  by_cases q:g=f
  ·rw[if_pos q,if_pos q];exact ry
  ·rw[if_neg q,if_neg q];exact r g
 ·by_cases q:g=f
  ·rw[q];exact(YBO f y fs).1
  ·refine(YBO f y fs).2 g (wi g fun z=>hg ?_);show(if g=f then some u else mA g)=none;rw[if_neg q];exact z
theorem Inv.made (I:Inv X pins σ H s):Inv X pins σ (upd (upd H s.heap.objs.size (.own (s.heap.objs.size + 1))) (s.heap.objs.size + 1) (.ins C s.heap.objs.size []))
  { s with heap:=(s.heap.push PySem.W.emptyDict).push (PySem.W.instObj C s.heap.objs.size) }:=by
 have e1:(s.heap.push PySem.W.emptyDict).get? s.heap.objs.size=some PySem.W.emptyDict:=YJc s.heap rfl;have e2:((s.heap.push PySem.W.emptyDict).push (PySem.W.instObj C s.heap.objs.size)).get? (s.heap.objs.size + 1)=some (PySem.W.instObj C s.heap.objs.size):=by
  have:=YJc (s.heap.push PySem.W.emptyDict) (o:=PySem.W.instObj C s.heap.objs.size) rfl
  rwa [YKX]at this
 have e3:(s.heap.push PySem.W.emptyDict).Ns s.heap.objs.size (fun _=>none):=⟨PySem.W.emptyDict,#[],_,e1,rfl,(fun e he=>absurd he (by simp)),fun _=>rfl⟩;have I1:=I.laid (a:=s.heap.objs.size) (o:=.own (s.heap.objs.size + 1)) (h':=s.heap.push PySem.W.emptyDict) (t':=s.toks) (fun b u q=>YJO _ q) (YJP _) ⟨_,e1⟩;refine I1.laid (a:=s.heap.objs.size + 1) (o:=.ins C s.heap.objs.size []) (t':=s.toks) (fun b u q=>YJO _ q) (Nat.le_of_eq (YKX _ _)) ?_;have ne:s.heap.objs.size≠s.heap.objs.size + 1:=YJq (YLD _);refine⟨by rw[YH ne,YD],YJw _,ne,e2,fun _=>none,(Heap.Ns1.of_empty e3).at fun o q=>YJO _ q,fun _=>True.intro,fun y hy=>absurd rfl hy⟩
theorem attr_of {prog:Program}{w:World}{env:Env}{e:Expr}{f:Str}{pos:Pos}{s:Shared}{Q:Value→Shared→Prop} (hb:attributeBase e f env (eval e env)=eval e env)
  (h:wpAny (model prog w) A (eval e env) (fun o s₁=>wpAny (model prog w) A (getAttr o f true) Q E s₁) E s):wpAny (model prog w) A (eval (.Attribute e f pos) env) Q E s:=
 Attribute_any_ h (by rw[arm_eval_Attribute,hb])
end
inductive tFld_ (K:W.Frag) (f:Str) (Q:VK) (x:V) (H1:Hp):Prop where
 |mk (a:_) (C:_) (dx:_) (fs:_) (v:_) (h0_:x=.ref a) (h1_:H1 a=some (.ins C dx fs)) (h2_:Cls K C) (h3_:Z7 K C f) (h4_:fs.lookup f=some v) (h5_:Q v H1):tFld_ K f Q x H1
def tFld (K:W.Frag) (ta:TE) (f:Str):TE:=fun σ H Q=>ta σ H fun x H1=>tFld_ K f Q x H1
inductive sFld_ (K:W.Frag) (f:Str) (D:YAf) (σ:St) (y:V) (x:V) (H2:Hp):Prop where
 |mk (a:_) (C:_) (dx:_) (fs:_) (h0_:x=.ref a) (h1_:H2 a=some (.ins C dx fs)) (h2_:Cls K C) (h3_:Z7 K C f) (h4_:fs.length < 1000) (h5_:D.nx σ (upd H2 a (.ins C dx (XU f y fs)))):sFld_ K f D σ y x H2
def sFld (K:W.Frag) (ta tv:TE) (f:Str):TS:=fun D σ H=>tv σ H fun y H1=>ta σ H1 fun x H2=>sFld_ K f D σ y x H2
section
variable {X:Cx}{o e value:Expr}{f:Str}{pos pos' tpos:Pos}{ta tv:TE}
theorem pe_fld (he:PE X e ta) (hb:attributeBase e f X.env (eval e X.env)=eval e X.env):PE X (.Attribute e f pos) (tFld X.K ta f):=by
 intro pins s σ H Q I h;refine attr_of hb (thn (he pins s σ H _ I h) ?_);rintro u s1 ⟨x,H1,I1,rx,a,C,dx,fs,v,ex,ea,c,n,l,q⟩;subst ex;obtain rfl:u=Value.ref a:=rx;exact YFv I1 ea c n l fun u' s2 I2 ru=>⟨v,H1,I2,ru,q⟩
theorem ps_fld (ha:PE X o ta) (hv:PE X value tv) (hs:swapsWith value (some (.Attribute o f pos')) pos.line X.env=pure false):PS X (.Assign [.Attribute o f pos'] value pos) (sFld X.K ta tv f):=by
 intro pins s σ H D I h;refine plainObj_wpAny_Assign_Attribute (thn (hv pins s σ H _ I h) fun u s1 ⟨y,H1,I1,ry,q⟩=>thn (ha pins s1 σ H1 _ I1 q) fun ov s2 ⟨x,H2,I2,rx,a,C,dx,fs,ex,ea,c,n,l,q2⟩=>?_) hs;subst ex;obtain rfl:ov=Value.ref a:=rx;exact YFw I2 ea c n l ry fun s3 I3=>⟨σ,_,I3,q2⟩
end
section
variable {X:Cx}{pins:List (Addr×Obj)}{σ:St}{H:Hp}{s:Shared}{A:Around}{E:Value→Shared→Prop}{Q:Value→Shared→Prop}{c:Value}{b:Bool}
inductive YAg (K:W.Frag) (H:Hp):V→Value→Prop where
 |non:YAg K H .non (.type "NoneType")
 |bl (x:Bool):YAg K H (.bl x) (.type "bool")
 |int (i:Int):YAg K H (.int i) (.type "int")
 |str (x:Str):YAg K H (.str x) (.type "str")
 |flt (x:UInt64):YAg K H (.flt x) (.type "float")
 |lst {a:Addr}{xs:List V} (e:H a=some (.lst xs)):YAg K H (.ref a) (.type "list")
 |frz {a:Addr}{o:Obj}{xs:List V} (e:H a=some (.frz o (.lst xs))):YAg K H (.ref a) (.type "list")
 |tup {a:Addr}{xs:List V} (e:H a=some (.tup xs)):YAg K H (.ref a) (.type "tuple")
 |dK {a:Addr}{kvs:List (Key×V)} (e:H a=some (.dK kvs)):YAg K H (.ref a) (.type "dict")
 |dT {a:Addr}{kvs:List (List Key×V)} (e:H a=some (.dT kvs)):YAg K H (.ref a) (.type "dict")
 |ins {a C dx:Addr}{fs:List (Str×V)} (e:H a=some (.ins C dx fs)) (cl:Cls K C) (ha:PySem.W.findIn K (.ref C) "__class__"=some (some (.builtin "object.__class__")))
   (hn:PySem.W.specialIn K (.builtin "object.__class__") "__get__"=some (some (.builtin "getset_descriptor.__get__"))) (htk:PySem.W.takesIn K (.builtin "object.__class__")=some true)
   (hm:PySem.W.mroIn K C (.type "object")=some true):YAg K H (.ref a) (.ref C)
theorem YHQ {x:V}{u t:Value} (I:Inv X pins σ H s) (rx:Yk x u) (ty:YAg X.K H x t) (e:PySem.W.kitOne X.K t c=some b) (h:∀tk,Q (.bool b) { s with toks:=tk }):
  wpAny (model X.prog X.w) A (call (.builtin "isinstance") [u,c]) Q E s:=by
 cases ty with
 |non=>cases (show u=Value.none from rx);exact PySem.W.kia_one PySem.W.kitx_none I.kIn True.intro e nofun h
 |bl y=>cases (show u=Value.bool y from rx);exact PySem.W.kia_one PySem.W.kitx_bool I.kIn True.intro e nofun h
 |int i=>obtain⟨t,q⟩:=(show ∃t,u=Value.int i t from rx);cases q;exact PySem.W.kia_one PySem.W.kitx_int I.kIn True.intro e nofun h
 |str y=>obtain⟨t,q⟩:=(show ∃t,u=Value.str y t from rx);cases q;exact PySem.W.kia_one PySem.W.kitx_str I.kIn True.intro e nofun h
 |flt y=>obtain⟨t,q⟩:=(show ∃t,u=Value.float y t from rx);cases q;exact PySem.W.kia_one PySem.W.kitx_float I.kIn True.intro e nofun h
 |@lst a xs ea=>
  cases (show u=Value.ref a from rx);obtain⟨_,_,n,_,h1⟩:=(show Yj X.prog X.w H s.heap a (.lst xs) from I.hok a _ ea);exact PySem.W.kia_one PySem.W.kitx_list I.kIn ⟨_,h1,rfl⟩ e nofun h
 |@frz a ob xs ea=>
  cases (show u=Value.ref a from rx);obtain⟨_,_,_,n,_,h1⟩:=(show Yj X.prog X.w H s.heap a (.frz ob (.lst xs)) from I.hok a _ ea);exact PySem.W.kia_one PySem.W.kitx_list I.kIn ⟨_,h1,rfl⟩ e nofun h
 |@tup a xs ea=>
  cases (show u=Value.ref a from rx);obtain⟨_,_,_,p⟩:=(show Yj X.prog X.w H s.heap a (.tup xs) from I.hok a _ ea);obtain⟨o,h1,h2,_⟩:=p;exact PySem.W.kia_one PySem.W.kitx_tuple I.kIn ⟨o,h1,h2⟩ e nofun h
 |@dK a kvs ea=>
  cases (show u=Value.ref a from rx);obtain⟨_,_,vs,_,p⟩:=(show Yj X.prog X.w H s.heap a (.dK kvs) from I.hok a _ ea);obtain⟨o,es,ep,h1,h2,_⟩:=p;exact PySem.W.kia_one PySem.W.kitx_dict I.kIn ⟨o,h1,h2.1⟩ e nofun h
 |@dT a kvs ea=>
  cases (show u=Value.ref a from rx);obtain⟨_,_,xs,_,o,es,ep,h1,h2,_⟩:=(show Yj X.prog X.w H s.heap a (.dT kvs) from I.hok a _ ea);exact PySem.W.kia_one PySem.W.kitx_dict I.kIn ⟨o,h1,h2.1⟩ e nofun h
 |@ins a C dx fs ea cl ha hn htk hm=>
  cases (show u=Value.ref a from rx);obtain⟨mA,O,_⟩:=YB2 I.hok ea;obtain⟨od,J,_⟩:=O.look;exact PySem.W.kia_one (PySem.W.kitx_own (cl.get _) cl.hd ha hn htk hm) I.kIn J e nofun h
end
end L2
namespace L2
open PySem PySem.Spec PyProof.Rows
structure Jb (k:Nat) (A:Around):Prop where
 hd:A.handled=none
 dp:A.depth + 3 * k + 5 < recursionLimit
 un:A.units + 16 * k + 200 < cLine
theorem Jb.mono {j k:Nat}{A:Around} (r:Jb k A) (h:j≤k):Jb j A:=⟨r.hd,by have:=r.dp;omega,by have:=r.un;omega⟩
theorem Jb.deeper {k:Nat}{A:Around} (r:Jb (k + 1) A) (env:Env):Jb k (A.deeper env):=
 ⟨r.hd,by have:=r.dp;show A.depth + 1 + 3 * k + 5 < _;omega,by have:=r.un;show A.units + 3 + 16 * k + 200 < _;omega⟩
theorem YFx {A:Around}{C:Addr}{us:List Value}{kw:List (Str×Value)}:(A.under (.builtin "type.__call__" ⟨.ref C :: us,kw⟩)).depth=A.depth + 1:=by
 first |rfl |simp[Around.under,Code.weight,Code.isCreation,Code.isGuard,Code.isCaller,Code.frames,Code.isFrame,guardIds]
theorem YFy {A:Around}{C:Addr}{us:List Value}{kw:List (Str×Value)}:(A.under (.builtin "type.__call__" ⟨.ref C :: us,kw⟩)).units=A.units + 1:=by
 first |rfl |simp[Around.under,Code.cUnits,Code.frames,Code.isFrame]
theorem Jb.make {k:Nat}{A:Around} (r:Jb (k + 1) A) (C:Addr) (us:List Value) (kw:List (Str×Value)):Jb k (A.under (.builtin "type.__call__" ⟨.ref C :: us,kw⟩)):=
 ⟨r.hd,by have:=r.dp;rw[YFx];omega,by have:=r.un;rw[YFy];omega⟩
theorem Jb.depth {k:Nat}{A:Around} (r:Jb k A):A.depth < recursionLimit:=by have:=r.dp;omega
theorem Jb.units {k:Nat}{A:Around} (r:Jb k A):A.units + 64 < cLine:=by have:=r.un;omega
def tNil:TA:=fun _ H Q=>Q [] H
def tCons (ta:TE) (tr:TA):TA:=fun σ H Q=>ta σ H fun x H1=>tr σ H1 fun xs H2=>Q (x :: xs) H2
section
variable {X:Cx}{e:Expr}{es:List Expr}{te:TE}{t:TA}{pos:Pos}
theorem YB:PA X [] tNil:=fun _ _ _ _ H Q I h=>Calls.spliced_nil ⟨[],H,I,.nil,h⟩
theorem YA (ha:PE X e te) (hr:PA X es t) (hs:starEach (e :: es) X.env=(false,eval e X.env) :: starEach es X.env:=by rfl):PA X (e :: es) (tCons te t):=by
 intro pos pins s σ H Q I h;rw[hs];show wpAny _ _ (spliced ((false,eval e X.env) :: backTo pos (starEach es X.env))) _ _ s;refine Calls.spliced_cons (thn (ha pins s σ H _ I h) fun u s1 ⟨x,H1,I1,r1,q1⟩=>?_);exact thn (hr pos pins s1 σ H1 _ I1 q1) fun us s2 ⟨xs,H2,I2,r2,q2⟩=>⟨x :: xs,H2,I2,.cons r1 r2,q2⟩
inductive tTup_ (Q:VK) (xs:List V) (H1:Hp):Prop where
 |mk (h0_:xs.length≤sizeLine) (h1_:∀p,H1 p=none→Q (.ref p) (upd H1 p (.tup xs))):tTup_ Q xs H1
def tTup (t:TA):TE:=fun σ H Q=>t σ H fun xs H1=>tTup_ Q xs H1
inductive tLst_ (Q:VK) (xs:List V) (H1:Hp):Prop where
 |mk (h0_:xs.length≤sizeLine) (h1_:∀p,H1 p=none→Q (.ref p) (upd H1 p (.lst xs))):tLst_ Q xs H1
def tLst (t:TA):TE:=fun σ H Q=>t σ H fun xs H1=>tLst_ Q xs H1
theorem ZW {x1} (h:PA X es t):PE X (.Tuple es x1 pos) (tTup t):=by
 intro pins s σ H Q I hq;refine wpAny_Tuple_spliced (thn (h pos pins s σ H _ I hq) fun us s1 ⟨xs,H1,I1,r,z,q⟩=>⟨by rw[←r.length];exact z,?_⟩);have hf:H1 s1.heap.objs.size=none:=I1.hok.fresh (YJP _);refine⟨.ref s1.heap.objs.size,upd H1 s1.heap.objs.size (.tup xs),I1.laid (t':=s1.toks) (fun b u e=>YJO _ e) (YJP _) ?_,rfl,q _ hf⟩;exact⟨z,us,r,⟨_,YJc _ rfl,rfl,_,rfl⟩⟩
theorem Z8 (h:PA X es t):PE X (.List es pos) (tLst t):=by
 intro pins s σ H Q I hq;refine wpAny_List_spliced (thn (h pos pins s σ H _ I hq) fun us s1 ⟨xs,H1,I1,r,z,q⟩=>⟨by rw[←r.length];exact z,?_⟩);have hf:H1 s1.heap.objs.size=none:=I1.hok.fresh (YJP _);refine⟨.ref s1.heap.objs.size,upd H1 s1.heap.objs.size (.lst xs),I1.laid (t':=s1.toks) (fun b u e=>YJO _ e) (YJP _) ?_,rfl,q _ hf⟩;exact⟨z,us,0,r,YJc _ rfl⟩
end
abbrev Sp:=List V→Hp→VK→XK→Prop
abbrev CXT:=List Env→Hp→Shared→XK→Value→Shared→Prop
structure Env0 (P:Program) (w:World) (K:W.Frag) (mg:Str→Option Value) (base:Heap) (A:Around) (outer:List Env) (s:Shared) (H:Hp):Prop where
 frames:A.frames=some outer
 mod:Mod K mg base
 bs:∀b o,base.get? b=some o→s.heap.get? b=some o∧H b=none
 bsz:base.objs.size≤s.heap.objs.size
 funs:s.heap.FunFrames base outer
 frf:∀b∈frs outer,H b=none
 hok:HOk P w H s.heap
 bare:AllBare s.gens
def CE (outer:List Env) (P:Program) (w:World) (H:Hp) (s:Shared) (Q:VK) (u:Value) (s':Shared):Prop:=
 ∃v H',s'.os=s.os∧AllBare s'.gens∧Un (frs outer) [] H H' s.heap s'.heap∧HOk P w H' s'.heap∧Yk v u∧Q v H'
def CR (CX:CXT) (outer:List Env) (P:Program) (w:World) (H:Hp) (s:Shared) (Q:VK) (E:XK) (r:Result) (s':Shared):Prop:=
 match r with
 |.ok (.ret u)=>CE outer P w H s Q u s'
 |.ok _=>False
 |.error e=>CX outer H s E e s'
structure Yr (P:Program) (w:World) (K:W.Frag) (mg:Str→Option Value) (base:Heap) (CX:CXT) (k:Nat) (f:Addr) (fd:FuncData) (ps:List Str) (sp:Sp):Prop where
 len:∀vs H Q E,sp vs H Q E→vs.length=ps.length
 run:∀(A:Around) (outer:List Env) (s:Shared) (H:Hp) (args:Args) (us:List Value) (vs:List V) (Q:VK) (E:XK),Jb k A→Env0 P w K mg base A outer s H→BindsTo s fd args (ps.zip us)→Ye vs us→sp vs H Q E→
  codeAny (model P w) A (.call (.ref f) args) (CR CX outer P w H s Q E) s
theorem Env0.make {P:Program}{w:World}{K:W.Frag}{mg:Str→Option Value}{base:Heap}{A:Around}{outer:List Env}{s:Shared}{H:Hp} (e:Env0 P w K mg base A outer s H) (C:Addr) (us:List Value) (kw:List (Str×Value)):
  Env0 P w K mg base (A.under (.builtin "type.__call__" ⟨.ref C :: us,kw⟩)) outer s H:=⟨by first |exact e.frames |(simpa [Around.under,Code.envs,Code.isFrame,pushEnvs] using e.frames),e.mod,e.bs,e.bsz,e.funs,e.frf,e.hok,e.bare⟩
section
variable {X:Cx}{pins:List (Addr×Obj)}{σ:St}{H:Hp}{s s':Shared}
theorem Inv.env0 (I:Inv X pins σ H s):Env0 X.prog X.w X.K X.mg X.base X.A X.stack s H:=
 ⟨I.ok.frames,I.ok.mod,I.bs,YJt I.ok.bsz I.sz,I.stack,I.stkFree,I.hok,I.bare⟩
theorem Inv.after {Q:VK}{u:Value} (I:Inv X pins σ H s) (h:CE X.stack X.prog X.w H s Q u s'):EP X pins σ Q u s':=by
 obtain⟨v,H',os,bare,un,hok,r,q⟩:=h;obtain⟨hh,g,d,t,os'⟩:=s';obtain rfl:os'=s.os:=os;exact⟨v,H',I.call (h':=hh) (g':=g) (d':=d) (t':=t) (ch:=[]) un hok bare (fun b z=>absurd z (by simp)),r,q⟩
end
def tCall (sp:Sp) (dvs:List V) (E:XK) (t:TA):TE:=fun σ H Q=>t σ H fun vs H1=>sp (vs ++ dvs) H1 Q E
inductive YIH (C:Addr) (m:Str) (sp:Sp) (dvs:List V) (E:XK) (t:TA) (σ:St) (Q:VK) (x:V) (H1:Hp):Prop where
 |mk (a:_) (dx:_) (fs:_) (h0_:x=.ref a) (h1_:H1 a=some (.ins C dx fs)) (h2_:fs.lookup m=none) (h3_:t σ H1 fun vs H2=>sp (x :: (vs ++ dvs)) H2 Q E):YIH C m sp dvs E t σ Q x H1
def tMeth (C:Addr) (m:Str) (sp:Sp) (dvs:List V) (E:XK) (ta:TE) (t:TA):TE:=fun σ H Q=>ta σ H fun x H1=>YIH C m sp dvs E t σ Q x H1
def tMake (C:Addr) (sp:Sp) (dvs:List V) (E:XK) (t:TA):TE:=fun σ H Q=>t σ H fun vs H1=>∀x dx,H1 x=none→H1 dx=none→dx≠x→
 sp (.ref x :: (vs ++ dvs)) (upd (upd H1 dx (.own x)) x (.ins C dx [])) (fun v H2=>v=.non∧Q (.ref x) H2) E
def Xz (K:W.Frag) (fd:FuncData) (ps:List Str) (ds:List Value):Prop:=
 ∀(s:Shared) (us:List Value),K.In s.heap→(us ++ ds).length=ps.length→BindsTo s fd ⟨us,[]⟩ (ps.zip (us ++ ds))
theorem Xz.all {K:W.Frag}{fd:FuncData}{ps:List Str} (h:∀us:List Value,us.length=ps.length→bindArgs fd ⟨us,[]⟩=pure (ps.zip us)):Xz K fd ps []:=fun s us _ hl=>by
 rw[List.append_nil]at hl ⊢;exact .of_eq (h us hl)
def Xi (CX:CXT) (X:Cx) (E:XK):Prop:=∀(pins:List (Addr×Obj)) (σ:St) (H:Hp) (s:Shared) (e:Value) (s':Shared),Inv X pins σ H s→CX X.stack H s E e s'→X.xe e s'
section
variable {X:Cx}{CX:CXT}{k:Nat}{f C:Addr}{fd:FuncData}{ps:List Str}{sp:Sp}{dvs:List V}{ds:List Value}{E:XK}{x m:Str}{p pos apos:Pos}{e o:Expr}{es:List Expr}{ta:TE}{t:TA}
theorem YFz {pins:List (Addr×Obj)}{σ:St}{H:Hp}{s:Shared}{Q:VK}{us:List Value}{vs:List V} (F:Yr X.prog X.w X.K X.mg X.base CX k f fd ps sp) (hr:Jb k X.A) (hb:Xz X.K fd ps ds) (hd:Ye dvs ds) (hx:Xi CX X E)
  (I:Inv X pins σ H s) (r:Ye vs us) (h:sp (vs ++ dvs) H Q E):wpAny (model X.prog X.w) X.A (call (.ref f) us) (EP X pins σ Q) X.xe s:=by
 have r2:Ye (vs ++ dvs) (us ++ ds):=r.append hd;have hl:(us ++ ds).length=ps.length:=by rw[←r2.length];exact F.len _ _ _ _ h
 refine wpAny_call (codeAny_mono (F.run X.A X.stack s H ⟨us,[]⟩ (us ++ ds) (vs ++ dvs) Q E hr I.env0 (hb s us I.kIn hl) r2 h) fun r s' hq=>?_);cases r with
 |error e=>exact hx pins σ H s e s' I hq
 |ok fl=>
  cases fl with
  |ret u=>exact I.after hq
  |next=>exact False.elim hq
  |brk=>exact False.elim hq
  |cont=>exact False.elim hq
theorem YU (F:Yr X.prog X.w X.K X.mg X.base CX k f fd ps sp) (hr:Jb k X.A) (hg:Gl X x) (hm:X.mg x=some (.ref f)) (hk:PySem.W.keepIn X.K (.ref f)=true) (hb:Xz X.K fd ps ds) (hd:Ye dvs ds) (hx:Xi CX X E)
  (ha:PA X (e :: es) t) (hdb:(x == ("__debug__":Str))=false:=by decide) (he:starEach (e :: es) X.env=(false,eval e X.env) :: starEach es X.env:=by rfl) (hpl:(backTo pos (starEach es X.env)).any (·.1)=false:=by rfl):
  PE X (.Call (.Name x p) (e :: es) [] pos) (tCall sp dvs E t):=by
 intro pins s σ H Q I h;refine wpAny_Call_Name_kw (YB0 I hg hm ?_ hdb);refine PySem.W.callWith_K (h₀:=X.base) I.ok.mod.kin hk (thn (ha pos pins s σ H _ I h) fun us s1 ⟨vs,H1,I1,r,q⟩=>⟨I1.kIn,?_⟩) he hpl;exact YFz F hr hb hd hx I1 r q
theorem Xj {pl:Sem Bool} (he:PE X o ta) (c:Cls X.K C) (hm:Meth X.K C m f) (F:Yr X.prog X.w X.K X.mg X.base CX k f fd ps sp) (hr:Jb k X.A) (hb:Xz X.K fd ps ds) (hd:Ye dvs ds) (hx:Xi CX X E) (ha:PA X (e :: es) t)
  (hst:starEach (e :: es) X.env=(false,eval e X.env) :: starEach es X.env:=by rfl) (hpl:(backTo pos (starEach es X.env)).any (·.1)=false:=by rfl)
  (ht:eval (.Call (.Attribute o m apos) (e :: es) [] pos) X.env=(do
   let ov ←eval o X.env
   standAt apos.atName
   let (f,first) ←holding [ov] (getMethod ov m pl)
   callWith pos f first (backTo pos (starEach (e :: es) X.env)) (backToKw pos (keywordEach [] X.env))):=by rfl):
  PE X (.Call (.Attribute o m apos) (e :: es) [] pos) (tMeth C m sp dvs E ta t):=by
 intro pins s σ H Q I h;refine PySem.W.methodCall_KW (pl:=pl) (thn (he pins s σ H _ I h) fun u s1 ⟨x,H1,I1,rx,a,dx,fs,ex,ea,l,q⟩=>?_) ht;subst ex;obtain rfl:u=Value.ref a:=rx;refine YB9 I1 ea c hm l ?_;refine PySem.W.callWith_K (first:=[.ref a]) (h₀:=X.base) I.ok.mod.kin hm.kp (thn (ha pos pins s1 σ H1 _ I1 q) fun us s2 ⟨vs,H2,I2,r,q2⟩=>⟨I2.kIn,?_⟩) hst hpl;exact YFz (us:=.ref a :: us) (vs:=.ref a :: vs) F hr hb hd hx I2 (.cons rfl r) q2
theorem YCA {pl:Sem Bool} (he:PE X o ta) (c:Cls X.K C) (hm:Meth X.K C m f) (F:Yr X.prog X.w X.K X.mg X.base CX k f fd ps sp) (hr:Jb k X.A) (hb:Xz X.K fd ps ds) (hd:Ye dvs ds) (hx:Xi CX X E)
  (ht:eval (.Call (.Attribute o m apos) [] [] pos) X.env=(do
   let ov ←eval o X.env
   standAt apos.atName
   let (f,first) ←holding [ov] (getMethod ov m pl)
   callWith pos f first (backTo pos (starEach [] X.env)) (backToKw pos (keywordEach [] X.env))):=by rfl):
  PE X (.Call (.Attribute o m apos) [] [] pos) (tMeth C m sp dvs E ta tNil):=by
 intro pins s σ H Q I h;refine PySem.W.methodCall_KW (pl:=pl) (thn (he pins s σ H _ I h) fun u s1 ⟨x,H1,I1,rx,a,dx,fs,ex,ea,l,q⟩=>?_) ht;subst ex;obtain rfl:u=Value.ref a:=rx;refine YB9 I1 ea c hm l ?_;exact PySem.W.callWith_K0 (first:=[.ref a]) I1.kIn hm.kp (YFz (us:=[.ref a]) (vs:=[.ref a]) F hr hb hd hx I1 (.cons rfl .nil) q)
structure Mk (K:W.Frag) (C f:Addr):Prop where
 makes:PySem.W.makesIn K C=true
 init:PySem.W.findIn K (.ref C) "__init__"=some (some (.ref f))
 fn:PySem.W.isFn K (.ref f)=true
 kp:PySem.W.keepIn K (.ref C)=true
theorem YII {pins:List (Addr×Obj)}{σ:St}{H:Hp}{s:Shared}{Q:VK}{us:List Value}{vs:List V} (M:Mk X.K C f) (F:Yr X.prog X.w X.K X.mg X.base CX k f fd ps sp) (hr:Jb (k + 1) X.A) (hb:Xz X.K fd ps ds) (hd:Ye dvs ds)
  (hx:Xi CX X E) (I:Inv X pins σ H s) (r:Ye vs us)
  (h:∀x dx,H x=none→H dx=none→dx≠x→sp (.ref x :: (vs ++ dvs)) (upd (upd H dx (.own x)) x (.ins C dx [])) (fun v H2=>v=.non∧Q (.ref x) H2) E):
  wpAny (model X.prog X.w) X.A (call (.ref C) us) (EP X pins σ Q) X.xe s:=by
 have hq:=h (s.heap.objs.size + 1) s.heap.objs.size (I.hok.fresh (YKc _)) (I.hok.fresh (YJP _)) (YJq (YLD _));have I2:=Inv.made (C:=C) I;have r2:Ye (V.ref (s.heap.objs.size + 1) :: (vs ++ dvs)) (Value.ref (s.heap.objs.size + 1) :: (us ++ ds)):=.cons rfl (r.append hd);have hl:(Value.ref (s.heap.objs.size + 1) :: us ++ ds).length=ps.length:=by
  have e:=r2.length;rw[F.len _ _ _ _ hq]at e;exact e.symm
 refine wpAny_call (YIG (f:=f) I.kIn M.makes M.init (beq_iff_eq.mp M.fn) (codeAny_mono (F.run _ X.stack _ _ ⟨Value.ref (s.heap.objs.size + 1) :: us,[]⟩ (Value.ref (s.heap.objs.size + 1) :: (us ++ ds)) _ _ E (hr.make C us [])
  (I2.env0.make C us []) (hb _ (Value.ref (s.heap.objs.size + 1) :: us) I2.kIn hl) r2 hq) fun r s' hq'=>?_))
 cases r with
 |error e=>exact hx pins σ _ _ e s' I2 hq'
 |ok fl=>
  cases fl with
  |ret u=>
   obtain⟨v,H',I3,rv,ev,q3⟩:=I2.after hq';subst ev;exact⟨rv,⟨V.ref (s.heap.objs.size + 1),H',I3,rfl,q3⟩⟩
  |next=>exact False.elim hq'
  |brk=>exact False.elim hq'
  |cont=>exact False.elim hq'
theorem pe_make (M:Mk X.K C f) (F:Yr X.prog X.w X.K X.mg X.base CX k f fd ps sp) (hr:Jb (k + 1) X.A) (hg:Gl X x) (hm:X.mg x=some (.ref C)) (hb:Xz X.K fd ps ds) (hd:Ye dvs ds) (hx:Xi CX X E)
  (ha:PA X (e :: es) t) (hdb:(x == ("__debug__":Str))=false:=by decide) (he:starEach (e :: es) X.env=(false,eval e X.env) :: starEach es X.env:=by rfl) (hpl:(backTo pos (starEach es X.env)).any (·.1)=false:=by rfl):
  PE X (.Call (.Name x p) (e :: es) [] pos) (tMake C sp dvs E t):=by
 intro pins s σ H Q I h;refine wpAny_Call_Name_kw (YB0 I hg hm ?_ hdb);refine PySem.W.callWith_K (h₀:=X.base) I.ok.mod.kin M.kp (thn (ha pos pins s σ H _ I h) fun us s1 ⟨vs,H1,I1,r,q⟩=>⟨I1.kIn,?_⟩) he hpl;exact YII M F hr hb hd hx I1 r q
end
def PK (X:Cx) (kws:List Keyword) (t:TA):Prop:=
 ∀(pos:Pos) (pins:List (Addr×Obj)) (s:Shared) (σ:St) (H:Hp) (Q:List V→Hp→Prop),Inv X pins σ H s→t σ H Q→wpAny (model X.prog X.w) X.A (evalAll ((backToKw pos (keywordEach kws X.env)).map (·.2))) (AP X pins σ Q) X.xe s
section
variable {X:Cx}{CX:CXT}{k:Nat}{f C:Addr}{fd:FuncData}{ps ks:List Str}{sp:Sp}{E:XK}{x m:Str}{p pos apos kpos:Pos}{e o:Expr}{es:List Expr}{kws:List Keyword}{te ta:TE}{t tk:TA}{nm:Option Str}
theorem YIJ:PK X [] tNil:=fun _ _ _ _ H Q I h=>wpAny_evalAll_nil ⟨[],H,I,.nil,h⟩
theorem YGh (ha:PE X e te) (hr:PK X kws t):PK X (⟨nm,e,kpos⟩ :: kws) (tCons te t):=by
 intro pos pins s σ H Q I h;show wpAny _ _ (evalAll ((do let v ←eval e X.env;standAt pos;pure v) :: (backToKw pos (keywordEach kws X.env)).map (·.2))) _ _ s;refine wpAny_evalAll_cons (YJN (thn (ha pins s σ H _ I h) fun u s1 ⟨x,H1,I1,r1,q1⟩=>YJN (wpAny_standAt (YJb ?_))));exact thn (hr pos pins s1 σ H1 _ I1 q1) fun us s2 ⟨xs,H2,I2,r2,q2⟩=>⟨x :: xs,H2,I2,.cons r1 r2,q2⟩
variable {g:List Value→List Value→List Value}{gV:List V→List V→List V}
end
structure YV (N P:List Str) (sc:Scope):Prop where
 kind:sc.kind=.function
 co:sc.isCoroutine=false
 gen:sc.isGenerator=false
 nd:N.Nodup
 pre:N.take P.length=P
 par:∀x∈P,sc.names.lookup x=some .local∨sc.names.lookup x=some .cell
 nofree:∀y∈sc.names,y.2≠.free
theorem YDC {kindOf:Str→Option NameKind}{x:Str}:∀{binds:List (Str×Value)}{m:Str→Option Value},(∀v,(x,v)∉binds)→bindL kindOf binds m x=m x
 |[],_,_=>rfl
 |(n,v) :: r,m,h=>by
  unfold bindL;rw[YDC fun w hw=>h w (YJf _ hw)];split
  ·have:x≠n:=by rintro rfl;exact h v YJp
   simp[this]
  ·rfl
theorem YDD {kindOf:Str→Option NameKind}{x:Str}:∀{binds:List (Str×Value)}{m:Str→Option Value},(∀v,(x,v)∉binds)→bindC kindOf binds m x=m x
 |[],_,_=>rfl
 |(n,v) :: r,m,h=>by
  unfold bindC;rw[YDD fun w hw=>h w (YJf _ hw)];split
  ·rfl
  ·have:x≠n:=by rintro rfl;exact h v YJp
   simp[this]
theorem YDE {kindOf:Str→Option NameKind}{x:Str}{v:Value}:∀{P:List Str}{vs:List Value}{i:Nat}{m:Str→Option Value},P.Nodup→P[i]?=some x→vs[i]?=some v→kindOf x=some .local→
  bindL kindOf (P.zip vs) m x=some v
 |[],_,_,_,_,h,_,_=>by simp at h
 |_ :: _,[],_,_,_,_,h,_=>by simp at h
 |p :: P,w :: vs,0,m,nd,h1,h2,hk=>by
  simp at h1 h2;subst h1;subst h2;show bindL kindOf ((p,w) :: P.zip vs) m p=_;unfold bindL;rw[YDC fun v hv=>(YKS.mp nd).1 (List.of_mem_zip hv).1,if_pos hk];simp
 |p :: P,w :: vs,i + 1,m,nd,h1,h2,hk=>by
  show bindL kindOf ((p,w) :: P.zip vs) m x=_;unfold bindL;exact YDE (i:=i) (YKS.mp nd).2 (by simpa using h1) (by simpa using h2) hk
theorem YDF {kindOf:Str→Option NameKind}{x:Str}{v:Value}:∀{P:List Str}{vs:List Value}{i:Nat}{m:Str→Option Value},P.Nodup→P[i]?=some x→vs[i]?=some v→kindOf x≠some .local→
  bindC kindOf (P.zip vs) m x=some v
 |[],_,_,_,_,h,_,_=>by simp at h
 |_ :: _,[],_,_,_,_,h,_=>by simp at h
 |p :: P,w :: vs,0,m,nd,h1,h2,hk=>by
  simp at h1 h2;subst h1;subst h2;show bindC kindOf ((p,w) :: P.zip vs) m p=_;unfold bindC;rw[YDD fun v hv=>(YKS.mp nd).1 (List.of_mem_zip hv).1,if_neg hk];simp
 |p :: P,w :: vs,i + 1,m,nd,h1,h2,hk=>by
  show bindC kindOf ((p,w) :: P.zip vs) m x=_;unfold bindC;exact YDF (i:=i) (YKS.mp nd).2 (by simpa using h1) (by simpa using h2) hk
def start (N:List Str) (vs:List V):St:=vs.map some ++ List.replicate (N.length - vs.length) none
def YBP (CX:CXT) (P:Program) (w:World) (K:W.Frag) (mg:Str→Option Value) (base:Heap) (N:List Str) (qual:Str) (scope:Scope) (f:Addr) (cd:Value) (A:Around) (outer:List Env) (s:Shared) (H:Hp) (E:XK):Cx where
 prog:=P
 w:=w
 K:=K
 mg:=mg
 base:=base
 A:=A.deeper (envOfC qual scope s.heap.objs.size f cd)
 N:=N
 s₀:=s
 H₀:=H
 env:=envOfC qual scope s.heap.objs.size f cd
 outer:=outer
 stack:=envOfC qual scope s.heap.objs.size f cd :: outer
 ex:=[]
 calm:=true
 fn:=fun _=>true
 pn:=[]
 xe:=fun e s'=>wpAny (model P w) (A.deeper (envOfC qual scope s.heap.objs.size f cd)) (leaving (envOfC qual scope s.heap.objs.size f cd) e) (fun _ s''=>CX outer H s E e s'') (fun e' s''=>CX outer H s E e' s'') s'
theorem Jv {sc:Scope}{n:Nat}{x:Str} (h:sc.names.lookup x=some .cell):∃c,(cellsFrom n sc.names []).lookup x=some c:=by
 have q:=PySem.W.cellsFrom_some sc.names n [] (.inl h);exact YJv.mp q
theorem YHR {CX:CXT}{P:Program}{w:World}{K:W.Frag}{mg:Str→Option Value}{base:Heap}{N ps:List Str}{qual:Str}{scope:Scope}{f:Addr}{cd:Value}{A:Around}{outer:List Env}{s s1:Shared}{H:Hp}{E:XK}{us:List Value}{vs:List V}
  (S:YV N ps scope) (hd:A.handled=none) (e0:Env0 P w K mg base A outer s H) (hl:vs.length=ps.length) (r:Ye vs us)
  (x:InCallC s s.heap.objs.size (bindL (envOfC qual scope s.heap.objs.size f cd).kindOf (ps.zip us) fun _=>none) (cellsFrom (s.heap.objs.size + 1) scope.names []) (bindC (envOfC qual scope s.heap.objs.size f cd).kindOf (ps.zip us) fun _=>none) s1):
  Inv (YBP CX P w K mg base N qual scope f cd A outer s H E) [] (start N vs) H s1:=by
 have hpl:ps.length≤N.length:=by have:=YKV List.length S.pre;rw[YKO]at this;omega
 obtain⟨h1,tk,rfl,hk⟩:=x.done;have noA:∀b:Addr,b∉(YBP CX P w K mg base N qual scope f cd A outer s H E).ex:=fun b z=>absurd (show b∈([]:List Addr) from z) (by simp)
 refine⟨⟨e0.mod,S.kind,rfl,rfl,YJP _,fun y z c h1 h2=>?_,fun y hy=>?_,fun y c _ h=>?_,fun _=>hd,Around.frames_deeper e0.frames,.inr ⟨rfl,rfl⟩,fun b z=>absurd z (noA b),e0.bs,e0.bsz,fun b _ _=>noA b,fun b z=>absurd z (noA b),e0.funs,e0.frf⟩,
  rfl,e0.bare,Un.kept hk,⟨_,x.toInCall.ns,fun i y v h1 h2 h3=>?_⟩,fun y c h=>⟨_,x.cell y c h⟩,e0.hok.fresh (YJP _),fun y c h=>?_,fun p hp=>absurd (show p∈([]:List (Addr×Obj)) from hp) (by simp),e0.hok.kept hk,?_⟩
 ·exact name_of_addr x.apart (PySem.mem_of_lookup h1) (PySem.mem_of_lookup h2)
 ·have hy:scope.names.lookup y=some .cell∨scope.names.lookup y=some .free:=hy;rcases hy with hy |hy
  ·exact Jv hy
  ·exact absurd rfl (S.nofree _ (PySem.mem_of_lookup hy))
 ·exact YK6 (x.above y c (PySem.mem_of_lookup h))
 ·have hi:i < vs.length:=by
   unfold start at h2
   by_cases hi:i < vs.length
   ·exact hi
   ·rw[YJ2 (by simpa using hi)]at h2;rw[List.getElem?_replicate]at h2;split at h2 <;> cases h2
  have ha:vs[i]?=some v:=by
   unfold start at h2;rw[YJ5 (by simpa using hi),YJQ]at h2;cases e:vs[i]? with
   |none=>rw[e]at h2;cases h2
   |some a=>rw[e]at h2;cases h2;rfl
  obtain⟨u,hu,rv⟩:=r.get ha;have hp:ps[i]?=some y:=by
   rw[←S.pre,List.getElem?_take_of_lt (by omega)];exact h1
  have ndP:ps.Nodup:=by rw[←S.pre];exact S.nd.sublist (List.take_sublist _ _)
  refine⟨u,rv,?_⟩;rcases S.par y (YJS hp) with k |k
  ·exact .inl ⟨k,YDE ndP hp hu k⟩
  ·obtain⟨c,e⟩:=Jv (n:=s.heap.objs.size + 1) k;refine .inr ⟨.inl k,c,e,?_⟩;have q:=x.cell y c e;rw[YDF ndP hp hu (by show scope.names.lookup y≠_;rw[k];decide)]at q;exact q
 ·exact e0.hok.fresh (YK6 (x.above y c (PySem.mem_of_lookup h)))
 ·unfold start;show _=N.length;rw[YJd,YJL,List.length_replicate];omega
theorem fn_of {CX:CXT}{P:Program}{w:World}{K:W.Frag}{mg:Str→Option Value}{base:Heap}{k:Nat}{f:Addr}{name qual:Str}{params:Arguments}{body:List Stmt}{scope:Scope}{dV kV doc pm cdv ct oc:Value}{an od:Option Addr}
  {osl:Array (Option Value)}{N ps:List Str}{sp:Sp} (lk:K.lookup f=some ⟨oc,od,.func (PySem.W.fnOf name qual params body scope dV kV doc pm an cdv ct),osl⟩) (hcd:PySem.W.codeIn K cdv qual=true) (S:YV N ps scope)
  (len:∀vs H Q E,sp vs H Q E→vs.length=ps.length)
  (hbody:∀(A:Around) (outer:List Env) (s:Shared) (H:Hp) (vs:List V) (Q:VK) (E:XK),Jb k (A.deeper (envOfC qual scope s.heap.objs.size f cdv))→sp vs H Q E→
   ∃t,PSs (YBP CX P w K mg base N qual scope f cdv A outer s H E) body t∧t { nx:=fun _ H'=>Q .non H',rt:=Q } (start N vs) H):
  Yr P w K mg base CX (k + 1) f (PySem.W.fnOf name qual params body scope dV kV doc pm an cdv ct) ps sp:=by
 refine⟨len,fun A outer s H args us vs Q E hr e0 hb r hsp=>?_⟩;have hl:=len _ _ _ _ hsp;have KX:K.In s.heap:=e0.mod.kin.keeps fun b o e=>(e0.bs b o e).1
 have lim:s.heap.NoLimit:=e0.mod.nolimit.keeps fun b o e=>(e0.bs b o e).1
 have hkind:∀y∈ps.zip us,scope.names.lookup y.1=some .local∨(scope.names.lookup y.1=some .cell∧((cellsFrom (s.heap.objs.size + 1) scope.names []).lookup y.1).isSome=true):=fun⟨n,v⟩ hy=>by
  rcases S.par n (List.of_mem_zip hy).1 with q |q
  ·exact .inl q
  ·exact .inr ⟨q,PySem.W.cellsFrom_some _ _ _ (.inl q)⟩
 refine codeAny_call_function hr.depth (KX _ _ lk) rfl S.co S.gen rfl (PySem.W.codeRec_of KX hcd) (hb _ _ _ _ ?_);refine wpAny_newFunctionEnv_cells S.kind hkind fun env he s1 x=>?_
 subst he;refine⟨lim.keeps x.toInCall.keep,codeAny_func ?_⟩;obtain⟨t,ht,hq⟩:=hbody A outer s H vs Q E (hr.deeper _) hsp;have I:Inv (YBP CX P w K mg base N qual scope f cdv A outer s H E) [] (start N vs) H s1:=YHR S hr.hd e0 hl r x;refine wpAny_mono (ht [] s1 (start N vs) H _ I hq) (fun fl s' hs=>?_) fun e s' hs=>hs
 have fin:∀{σ':St}{H':Hp}{v:V}{u:Value},Inv (YBP CX P w K mg base N qual scope f cdv A outer s H E) [] σ' H' s'→Yk v u→Q v H'→CE outer P w H s Q u s':=
  fun{σ' H' v u} J rv q=>⟨v,H',J.os,J.bare,J.base,J.hok,rv,q⟩
 cases fl with
 |ret u=>
  obtain⟨v,σ',H',J,rv,q⟩:=hs;exact fin J rv q
 |next=>
  obtain⟨σ',H',J,q⟩:=hs;exact fin (v:=V.non) (u:=Value.none) J rfl q
 |brk=>
  obtain⟨_,_,_,q⟩:=hs;exact False.elim q
 |cont=>
  obtain⟨_,_,_,q⟩:=hs;exact False.elim q
end L2
namespace L2
open PySem PySem.Spec PyProof.Rows
section
variable {X:Cx}{x:Str}{p pos:Pos}{e:Expr}{es:List Expr}{t:TA}{id T:String}{r:List V→Hp→VK→Prop}
def tCB (r:List V→Hp→VK→Prop) (t:TA):TE:=fun σ H Q=>t σ H fun vs H1=>r vs H1 Q
theorem YK (hc:Zl X (.builtin id) r) (hg:Gl X x) (hm:X.mg x=none) (hv:bootBuiltins x=some (.builtin id)) (ha:PA X (e :: es) t) (hn:x≠"__name__":=by decide) (hdb:(x == ("__debug__":Str))=false:=by decide)
  (he:starEach (e :: es) X.env=(false,eval e X.env) :: starEach es X.env:=by rfl) (hpl:(backTo pos (starEach es X.env)).any (·.1)=false:=by rfl):PE X (.Call (.Name x p) (e :: es) [] pos) (tCB r t):=by
 intro pins s σ H Q I h;refine wpAny_Call_Name_kw (JK I hg hm hv ?_ hn hdb);exact PyProof.Rows.callWith_builtin1 (thn (ha pos pins s σ H _ I h) fun us s1 ⟨vs,H1,I1,r1,q1⟩=>hc pins s1 σ H1 vs us Q I1 r1 q1) he hpl
theorem Jt (hc:Zl X (.type T) r) (hg:Gl X x) (hm:X.mg x=none) (hv:bootBuiltins x=some (.type T)) (ha:PA X (e :: es) t) (hn:x≠"__name__":=by decide) (hdb:(x == ("__debug__":Str))=false:=by decide)
  (he:starEach (e :: es) X.env=(false,eval e X.env) :: starEach es X.env:=by rfl) (hpl:(backTo pos (starEach es X.env)).any (·.1)=false:=by rfl):PE X (.Call (.Name x p) (e :: es) [] pos) (tCB r t):=by
 intro pins s σ H Q I h;refine wpAny_Call_Name_kw (JK I hg hm hv ?_ hn hdb);exact PyProof.Rows.callWith_type1 (thn (ha pos pins s σ H _ I h) fun us s1 ⟨vs,H1,I1,r1,q1⟩=>hc pins s1 σ H1 vs us Q I1 r1 q1) he hpl
end
end L2
namespace HT
open PySem PyProof.Rows
def lexLt:List Int→List Int→Bool
 |[],[]=>false
 |[],_ :: _=>true
 |_ :: _,[]=>false
 |x :: xs,y :: ys=>if x=y then lexLt xs ys else decide (x < y)
theorem lexLt_cons (x y:Int) (xs ys:List Int):lexLt (x :: xs) (y :: ys)=if x=y then lexLt xs ys else decide (x < y):=rfl
theorem lexLt_nil_nil:lexLt [] []=false:=rfl
theorem YCB (y:Int) (ys:List Int):lexLt [] (y :: ys)=true:=rfl
theorem YCC (x:Int) (xs:List Int):lexLt (x :: xs) []=false:=rfl
theorem YIK (A:Around) (s:Shared) (a:Int) (t:Tok) (c:Int) (u:Tok):∃e,SeqAt.EqAt A s (.int a t) (.int c u) e∧(e=true↔a=c):=
 ⟨(a == c),SeqAt.EqAt.int_int a t c u,by simp⟩
theorem YIL (A:Around) (s:Shared) (a:Int) (t:Tok) (c:Int) (u:Tok) (prog:Program) (w:World) (E:Value→Shared→Prop) (Q:Value→Shared→Prop) (h:Q (.bool (decide (a < c))) s):
  wpAny (model prog w) A (richCompare .Lt (.int a t) (.int c u)) Q E s:=
 (PyProof.Rows.lt_int h:wpAny (model prog w) A (compareOp .Lt (.int a t) (.int c u)) Q E s)
section
open PySem.SeqAt
open PySem.AutoSeq1 (wpAny_loadPart')
open PySem.MeetsSeq PySem.MeetsSeq2 PySem.MeetsSeq3
theorem YCn (l b:Addr) (items items2:Array Value) (n n2:Nat) (dd dd2:Option Addr) (sl sl2:Array (Option Value)) (ns ms:List Int) (hi:IntsAre items.toList ns) (hj:IntsAre items2.toList ms):
  Meets (Builtin.«tuple.__lt__» ⟨[.ref l,.ref b],[]⟩)
   (fun _ R s=>s.heap.get? l=some { cls:=.type "tuple",dict:=dd,data:=.seq items n,slots:=sl }∧s.heap.get? b=some { cls:=.type "tuple",dict:=dd2,data:=.seq items2 n2,slots:=sl2 }∧
    R (.ok (.ret (.bool (lexLt ns ms)))) s):=
 .of_wp fun prog w A R s h=>by
  obtain⟨hp,g,d,tk,os⟩:=s;obtain⟨hl,hb,h⟩:=h;have f2:=AutoSeq1.sub_tuple_tuple;have z1:items.size=ns.length:=by rw[←hi.length];simp
  have z2:items2.size=ms.length:=by rw[←hj.length];simp
  wp_walk using wpAny_loadPart' hl,wpAny_loadPart' hb,wpAny_forIn_list _ (fun rest b s'=>b.1=none∧s'=⟨hp,g,d,tk,os⟩∧∃(vs ws:List Value) (ns' ms':List Int),rest=vs.zip ws∧
   IntsAre vs ns'∧IntsAre ws ms'∧ns'.length + items2.size=ms'.length + items.size∧R (.ok (.ret (.bool (lexLt ns' ms')))) ⟨hp,g,d,tk,os⟩) _
  case turn=>
   rintro⟨y,x⟩ rest b s' ⟨hb',rfl,vs,ws,ns',ms',hz,hvi,hwi,hlen,hR⟩;cases hvi with
   |nil=>rw[List.zip_nil_left]at hz;cases hz
   |cons a t hvi'=>
    cases hwi with
    |nil=>rw[List.zip_nil_right]at hz;cases hz
    |cons c u hwi'=>
     rw[List.zip_cons_cons]at hz
     injection hz with hyx hrest
     injection hyx with hy hx
     subst hy hx;rw[lexLt_cons]at hR;simp only[YJn]at hlen;obtain⟨e,he,hiff⟩:=YIK A.in1 ⟨hp,g,d,tk,os⟩ a t c u;refine YJN (he prog w _ _ ?_);cases e with
     |true=>
      rw[if_pos (hiff.mp rfl)]at hR
      wp_walk
      exact⟨rfl,rfl,_,_,_,_,hrest,hvi',hwi',by omega,hR⟩
     |false=>
      rw[if_neg (fun q=>absurd (hiff.mpr q) YJZ)]at hR;have hri:=YIL A.in1 ⟨hp,g,d,tk,os⟩ a t c u prog w
      wp_walk using hri
      exact⟨_,rfl,by simpa using hR⟩
  case fin=>
   rintro⟨b1,b2⟩ s' ⟨hb',rfl,vs,ws,ns',ms',hz,hvi,hwi,hlen,hR⟩;simp only at hb';subst hb';have hv:lexLt ns' ms'=decide (items.size < items2.size):=by
    cases hvi with
    |nil=>
     cases hwi with
     |nil=>
      simp only[YKa]at hlen;rw[lexLt_nil_nil];exact(YJV (by omega)).symm
     |cons c u hw=>
      simp only[YKa,YJn]at hlen;rw[YCB];exact(YJU (by omega)).symm
    |cons a t hv=>
     cases hwi with
     |nil=>
      simp only[YKa,YJn]at hlen;rw[YCC];exact(YJV (by omega)).symm
     |cons c u hw=>
      rw[List.zip_cons_cons]at hz;cases hz
   rw[hv]at hR
   wp_walk
   exact⟨_,rfl,by simpa [Builtin.Tuple.tupleCompareSizes] using hR⟩
  case h=>
   exact⟨rfl,rfl,items.toList,items2.toList,ns,ms,rfl,hi,hj,by omega,h⟩
end
section
variable {prog:Program}{w:World}{A:Around}{E:Value→Shared→Prop}{s:Shared}
theorem lt_tupInts {l b:Addr}{items items2:Array Value}{ns ms:List Int}{Q:Value→Shared→Prop} (hl:IsTup s.heap l items) (hb:IsTup s.heap b items2) (hi:IntsAre items.toList ns) (hj:IntsAre items2.toList ms)
  (hu:A.units < cLine) (h:Q (.bool (lexLt ns ms)) s):wpAny (model prog w) A (compareOp .Lt (.ref l) (.ref b)) Q E s:=by
 obtain⟨⟨cls,dd,data,sl⟩,ho,hc,n,hd⟩:=id hl;obtain⟨⟨cls2,dd2,data2,sl2⟩,ho2,hc2,n2,hd2⟩:=id hb;simp only at hc hd hc2 hd2;subst hc hd hc2 hd2;exact richCompare_meets_room (op:=.Lt) ⟨_,ho,rfl⟩ ⟨_,ho2,rfl⟩ PySem.F.slot_tuple_lt PySem.F.entry_tuple_lt (PySem.F.args_tuple_lt_2 _ _) (YCn l b items items2 n n2 dd dd2 sl sl2 ns ms hi hj)
  ⟨ho,ho2,show Value.bool (lexLt ns ms)≠Value.notImplemented∧Q (.bool (lexLt ns ms)) s from⟨nofun,h⟩⟩ hu
theorem cat_tup {t b:Addr}{vs ws:List Value}{Q:Value→Shared→Prop} (ht:IsTup s.heap t vs.toArray) (hb:IsTup s.heap b ws.toArray) (hv:vs≠[])
  (h1:ws=[]→Q (.ref t) s) (h2:ws≠[]→Q (.ref s.heap.objs.size) { s with heap:=s.heap.push { cls:=.type "tuple",data:=.seq (vs ++ ws).toArray } })
  (hsz:vs.length + ws.length≤sizeLine):wpAny (model prog w) A (binaryOp .Add (.ref t) (.ref b)) Q E s:=by
 obtain⟨⟨cls,dd,data,sl⟩,ho,hc,n,hd⟩:=id ht;obtain⟨⟨cls2,dd2,data2,sl2⟩,ho2,hc2,n2,hd2⟩:=id hb;simp only at hc hd hc2 hd2;subst hc hd hc2 hd2;have e:vs.toArray ++ ws.toArray=(vs ++ ws).toArray:=by simp
 by_cases hw:ws=[]
 ·exact concat_meets ⟨_,ho,rfl⟩ ⟨_,ho2,rfl⟩ noFill_tuple_add seq_tuple_add PySem.F.slot_tuple_add PySem.F.entry_tuple_add (PySem.F.args_tuple_add_2 _ _)
   (tuple_addW1 t b vs.toArray ws.toArray n n2 dd dd2 sl sl2 (by simpa using hv) (by simp[hw])) ⟨ho,ho2,h1 hw⟩
 ·refine concat_meets ⟨_,ho,rfl⟩ ⟨_,ho2,rfl⟩ noFill_tuple_add seq_tuple_add PySem.F.slot_tuple_add PySem.F.entry_tuple_add (PySem.F.args_tuple_add_2 _ _)
   (tuple_addW2 t b vs.toArray ws.toArray n n2 dd dd2 sl sl2 (by simpa using hv) (by simpa using hw) (by rw[YJa,YJa];exact hsz)) ⟨ho,ho2,?_⟩
  rw[e];exact h2 hw
def sIx (n d:Nat):Option Int→Nat
 |none=>d
 |some v=>if v < 0 then (v + (n:Int)).toNat else min v.toNat n
theorem sIx_nat (n d k:Nat):sIx n d (some (k:Int))=min k n:=by
 show(if (k:Int) < 0 then ((k:Int) + (n:Int)).toNat else min (k:Int).toNat n)=min k n;rw[if_neg (by omega),Int.toNat_natCast]
end
end HT
namespace L2
open PySem PySem.Spec PyProof.Rows
abbrev TO:=St→Hp→(Option Int→Hp→Prop)→Prop
def PO (X:Cx) (e:Option Expr) (t:TO):Prop:=
 ∀(pins:List (Addr×Obj)) (s:Shared) (σ:St) (H:Hp) (Q:Option Int→Hp→Prop),Inv X pins σ H s→t σ H Q→
  wpAny (model X.prog X.w) X.A (evalPart e X.env) (fun u s'=>∃o H',Inv X pins σ H' s'∧IsPart u o∧Q o H') X.xe s
def tNoPart:TO:=fun _ H Q=>Q none H
inductive YIM (Q:Option Int→Hp→Prop) (x:V) (H1:Hp):Prop where
 |mk (i:_) (h0_:x=.int i) (h1_:Q (some i) H1):YIM Q x H1
def tPart (t:TE):TO:=fun σ H Q=>t σ H fun x H1=>YIM Q x H1
section
variable {X:Cx}{e:Expr}{te:TE}{lo hi:Option Expr}{tl th:TO}{pos p2:Pos}
theorem XG:PO X none tNoPart:=by
 intro pins s σ H Q I h;rw[evalPart_none];exact YJb ⟨none,H,I,.none,h⟩
theorem ZP (h:PE X e te):PO X (some e) (tPart te):=by
 intro pins s σ H Q I hw;rw[evalPart_some];refine thn (h pins s σ H _ I hw) fun u s1 ⟨x,H1,I1,r1,q1⟩=>?_
 obtain⟨i,rfl,q⟩:=q1;obtain⟨t,rfl⟩:=r1;exact⟨some i,H1,I1,.int i t,q⟩
def SlR (X:Cx) (r:V→Option Int→Option Int→Hp→VK→Prop):Prop:=
 ∀(pins:List (Addr×Obj)) (s:Shared) (σ:St) (H:Hp) (x:V) (v vl vu:Value) (lo hi:Option Int) (sl:Addr) (Q:VK),Inv X pins σ H s→Yk x v→s.heap.IsSliceOf sl vl vu .none→IsPart vl lo→IsPart vu hi→r x lo hi H Q→
  ∃T id,typeLookup (.type T) "__getitem__"=pure (some (.builtin id))∧s.TypeIs v T∧wpAny (model X.prog X.w) X.A (getItem v (.ref sl)) (EP X pins σ Q) X.xe s
def tSl (r:V→Option Int→Option Int→Hp→VK→Prop) (te:TE) (tl th:TO):TE:=fun σ H Q=>te σ H fun x H1=>tl σ H1 fun l H2=>th σ H2 fun u H3=>r x l u H3 Q
theorem Zd {r:V→Option Int→Option Int→Hp→VK→Prop} (hr:SlR X r) (he:PE X e te) (hl:PO X lo tl) (hu:PO X hi th):PE X (.Subscript e (.Slice lo hi none p2) pos) (tSl r te tl th):=by
 intro pins s σ H Q I h;refine Subscript_ (thn (he pins s σ H _ I h) fun v s1 ⟨x,H1,I1,r1,q1⟩=>?_);refine wpAny_Slice (thn (hl pins s1 σ H1 _ I1 q1) fun vl s2 ⟨l,H2,I2,pl,q2⟩=>thn (hu pins s2 σ H2 _ I2 q2) fun vu s3 ⟨u,H3,I3,pu,q3⟩=>?_);rw[evalPart_none];refine YJb ?_;have I4:Inv X pins σ H3 { s3 with heap:=s3.heap.push { cls:=.type "slice",data:=.fields #[vl,vu,.none] } }:=I3.kept (t':=s3.toks) fun b ob q=>YJO _ q
 obtain⟨T,id,hT,ht,hg⟩:=hr pins { s3 with heap:=s3.heap.push { cls:=.type "slice",data:=.fields #[vl,vu,.none] } } σ H3 x v vl vu l u s3.heap.objs.size Q I4 r1 (Heap.IsSliceOf.new ..) pl pu q3;show wpAny (model X.prog X.w) X.A (subscriptTail e (.Slice lo hi none p2) v (.ref s3.heap.objs.size)) (EP X pins σ Q) X.xe { s3 with heap:=s3.heap.push { cls:=.type "slice",data:=.fields #[vl,vu,.none] } };exact tail_any (ops:=[.ref s3.heap.objs.size,v]) ht hT hg (by with_unfolding_all rfl)
def X3 (xs:List V) (lo hi:Option Int):List V:=(xs.drop (HT.sIx xs.length 0 lo)).take (HT.sIx xs.length xs.length hi - HT.sIx xs.length 0 lo)
theorem YEf (xs:List V) (lo hi:Option Int):(X3 xs lo hi).length≤xs.length:=by
 unfold X3;rw[YKO,YKT];omega
def rCatT (K:W.Frag):R2:=fun x y H Q=>∃a b xs ys,x=.ref a∧y=.ref b∧SqT K H a xs∧SqT K H b ys∧xs≠[]∧xs.length + ys.length≤sizeLine∧
 (ys=[]→Q (.ref a) H)∧(ys≠[]→∀p,H p=none→Q (.ref p) (upd H p (.tup (xs ++ ys))))
theorem Ye.nil_iff {xs:List V}{us:List Value} (r:Ye xs us):us=[]↔xs=[]:=by
 cases r with
 |nil=>simp
 |cons _ _=>simp
theorem op_catT:OpR X (binaryOp .Add) (rCatT X.K):=by
 intro pins s σ H x y v u Q I rx ry h;obtain⟨a,b,xs,ys,rfl,rfl,ha,hb,hx,hz,q1,q2⟩:=h;cases rx;cases ry;obtain⟨its,r1,p1,_⟩:=I.tuple ha;obtain⟨its2,r2,p2,_⟩:=I.tuple hb;refine HT.cat_tup p1 p2 (fun z=>hx (r1.nil_iff.mp z)) (fun z=>⟨.ref a,H,I,rfl,q1 (r2.nil_iff.mp z)⟩) (fun z=>?_) (by rw[←r1.length,←r2.length];exact hz);refine⟨.ref s.heap.objs.size,_,I.laid (t':=s.toks) (o:=.tup (xs ++ ys)) (fun b ob q=>YJO _ q) (YJP _) ?_,rfl,q2 (fun w=>z (r2.nil_iff.mpr w)) _ (I.hok.fresh (YJP _))⟩;exact⟨by rw[YJd];exact hz,_,r1.append r2,IsTup.new _ _⟩
end
end L2
namespace L2
open PySem PySem.Spec PyProof.Rows
def ixN (n:Nat) (i:Int):Option Nat:=if 0≤i then (if i < n then some i.toNat else none) else if -(n:Int)≤i then some (i + n).toNat else none
def atI {α:Type} (xs:List α) (i:Int):Option α:=(ixN xs.length i).bind fun j=>xs[j]?
theorem YGi {n:Nat}{i:Int}{j:Nat} (h:ixN n i=some j):seqIndex? i n=some j∧j < n∧-(n:Int)≤i∧i < n:=by
 unfold ixN at h
 by_cases h0:0≤i
 ·rw[if_pos h0]at h
  by_cases h1:i < n
  ·rw[if_pos h1]at h;have e:i.toNat=j:=YJk h;exact⟨by rw[seqIndex_of h0 h1,e],by omega,by omega,h1⟩
  ·rw[if_neg h1]at h;cases h
 ·rw[if_neg h0]at h
  by_cases h1:-(n:Int)≤i
  ·rw[if_pos h1]at h;have e:(i + n).toNat=j:=YJk h;exact⟨by rw[seqIndex_neg (by omega) h1,e],by omega,h1,by omega⟩
  ·rw[if_neg h1]at h;cases h
theorem YD3 {α:Type}{xs:List α}{i:Int}{v:α} (h:atI xs i=some v):∃j,seqIndex? i xs.length=some j∧xs[j]?=some v∧j < xs.length∧-(xs.length:Int)≤i∧i < xs.length:=by
 unfold atI at h;cases e:ixN xs.length i with
 |none=>rw[e]at h;cases h
 |some j=>
  rw[e]at h;obtain⟨h1,h2,h3,h4⟩:=YGi e;exact⟨j,h1,h,h2,h3,h4⟩
theorem Yy {α:Type}{xs:List α}{j:Nat}{v:α} (h:xs[j]?=some v):atI xs (j:Int)=some v:=by
 have hj:j < xs.length:=(YJM.mp h).1;have e:ixN xs.length (j:Int)=some j:=by
  unfold ixN;rw[if_pos (by omega),if_pos (by omega)];simp
 unfold atI;rw[e];exact h
theorem YIN {α:Type} (xs:List α) (v:α):atI (xs ++ [v]) (-1)=some v:=by
 have hl:(xs ++ [v]).length=xs.length + 1:=by simp
 have e:ixN (xs ++ [v]).length (-1)=some xs.length:=by
  unfold ixN;rw[hl,if_neg (by decide),if_pos (by omega)];congr 1;omega
 unfold atI;rw[e];show(xs ++ [v])[xs.length]?=some v;simp
def PlainIx (b:Expr):Prop:=∀o i,subscripted b false o i=operate [o,i] (getItem o i)
def IxR (X:Cx) (r:R2):Prop:=
 ∀(value slice:Expr) (pins:List (Addr×Obj)) (s:Shared) (σ:St) (H:Hp) (x y:V) (v u:Value) (Q:VK),Inv X pins σ H s→Yk x v→Yk y u→r x y H Q→
  subscripted slice false v u=operate [v,u] (getItem v u)→wpAny (model X.prog X.w) X.A (subscriptTail value slice v u) (EP X pins σ Q) X.xe s
def MtR (X:Cx) (id:String) (r:V→List V→Hp→VK→Prop):Prop:=
 ∀(pins:List (Addr×Obj)) (s:Shared) (σ:St) (H:Hp) (x:V) (xs:List V) (v:Value) (us:List Value) (Q:VK),Inv X pins σ H s→Yk x v→Ye xs us→r x xs H Q→
  wpAny (model X.prog X.w) X.A (call (.builtin id) (v :: us)) (EP X pins σ Q) X.xe s
section
variable {X:Cx}{a b:Expr}{ta tb:TE}{pos:Pos}
theorem YQ {r:R2} (hr:IxR X r) (ha:PE X a ta) (hb:PE X b tb) (hs:PlainIx b):PE X (.Subscript a b pos) (tOp r ta tb):=by
 intro pins s σ H Q I h;exact Subscript_ (binT ha hb I h fun v u s2 x y H2 I2 rx ry q=>hr a b pins s2 σ H2 x y v u Q I2 rx ry q (hs _ _))
inductive rIxL_ (K:W.Frag) (x:V) (y:V) (H:Hp) (Q:VK):Prop where
 |mk (p:_) (xs:_) (i:_) (v:_) (h0_:x=.ref p) (h1_:y=.int i) (h2_:SqL K H p xs) (h3_:atI xs i=some v) (h4_:Q v H):rIxL_ K x y H Q
def rIxL (K:W.Frag):R2:=fun x y H Q=>rIxL_ K x y H Q
inductive rIxT_ (K:W.Frag) (x:V) (y:V) (H:Hp) (Q:VK):Prop where
 |mk (p:_) (xs:_) (i:_) (v:_) (h0_:x=.ref p) (h1_:y=.int i) (h2_:SqT K H p xs) (h3_:atI xs i=some v) (h4_:Q v H):rIxT_ K x y H Q
def rIxT (K:W.Frag):R2:=fun x y H Q=>rIxT_ K x y H Q
inductive rIxS_ (x:V) (y:V) (H:Hp) (Q:VK):Prop where
 |mk (z:_) (i:_) (c:_) (h0_:x=.str z) (h1_:y=.int i) (h2_:z.length≤sizeLine) (h3_:atI z.cps.toList i=some c) (h4_:Q (.str ⟨#[c]⟩) H):rIxS_ x y H Q
def rIxS:R2:=fun x y H Q=>rIxS_ x y H Q
theorem ix_list:IxR X (rIxL X.K):=by
 intro value slice pins s σ H x y v u Q I rx ry h hs;obtain⟨p,xs,i,z,rfl,rfl,hq,he,q⟩:=h;cases rx;obtain⟨t,rfl⟩:=ry;obtain⟨its,r,pl,hz⟩:=I.list hq;obtain⟨j,h1,h2,h3,h4,h5⟩:=YD3 he;obtain⟨w,ew,rw'⟩:=r.get h2;have hl:=r.length;have hn:=YBN;have fin:EP X pins σ Q w s:=⟨z,H,I,rw',q⟩
 by_cases h0:0≤i
 ·have hj:i.toNat=j:=by
   rw[seqIndex_of h0 h5]at h1;exact YJk h1
  exact item_listR pl.isList h0 (by omega) (by rw[hj];simpa using ew) fin hs
 ·have hj:(i + (its.toArray.size:Int)).toNat=j:=by
   rw[seqIndex_neg (by omega) h4]at h1;rw[YJa,←hl];exact YJk h1
  exact subscriptTail_builtinR (x:=w) pl.isList.typeIs slot_list_getitem.lookup
   (wpAny_getItem_list_neg (Q:=fun r s'=>r=w∧EP X pins σ Q r s') pl.isList (by omega) (by rw[YJa] <;> omega) (by omega) (by rw[hj];simpa using ew) ⟨rfl,fin⟩) hs
theorem ix_tup:IxR X (rIxT X.K):=by
 intro value slice pins s σ H x y v u Q I rx ry h hs;obtain⟨p,xs,i,z,rfl,rfl,hq,he,q⟩:=h;cases rx;obtain⟨t,rfl⟩:=ry;obtain⟨its,r,pl,hz⟩:=I.tuple hq;obtain⟨j,h1,h2,h3,h4,h5⟩:=YD3 he;obtain⟨w,ew,rw'⟩:=r.get h2;have hl:=r.length;have hn:=YBN;have fin:EP X pins σ Q w s:=⟨z,H,I,rw',q⟩;exact subscriptTail_builtinR (x:=w) pl.typeIs slot_tuple_getitem.lookup
  (getItem_tuple (j:=j) (Q:=fun r s'=>r=w∧EP X pins σ Q r s') pl (by omega) (by omega) (by rw[YJa,←hl];exact h1) (by simpa using ew) ⟨rfl,fin⟩) hs
theorem Jj:IxR X rIxS:=by
 intro value slice pins s σ H x y v u Q I rx ry h hs;obtain⟨z,i,c,rfl,rfl,hz,he,q⟩:=h;obtain⟨t,rfl⟩:=rx;obtain⟨t',rfl⟩:=ry;obtain⟨j,h1,h2,h3,h4,h5⟩:=YD3 he;have hl:z.cps.toList.length=z.length:=by simp[Str.length]
 rw[hl]at h1 h4 h5;have hn:=YBN;exact tail_any (typeIs_str s z t) slot_str_getitem.lookup (getItem_str (c:=c) (by
  have e1:decide (i < -(2 ^ 63:Int))=false:=YJV (by omega);have e2:decide (i≥2 ^ 63)=false:=YJV (by omega);rw[e1,e2,Bool.or_false]) (by rw[h1];simpa using h2) ⟨.str ⟨#[c]⟩,H,I.tok _,⟨_,rfl⟩,q⟩) hs
theorem YF0 (its:List Value) (n j:Nat) (u:Value):Obj.mapSeq (·.setIfInBounds j u) { cls:=.type "list",data:=.seq its.toArray n }={ cls:=.type "list",data:=.seq (its.set j u).toArray n }:=by
 simp[Obj.mapSeq]
theorem Inv.lst {pins:List (Addr×Obj)}{σ:St}{H:Hp}{s:Shared}{p:Addr}{xs:List V} (I:Inv X pins σ H s) (h:H p=some (.lst xs)):
  ∃(its:List Value) (n:Nat),Ye xs its∧s.heap.get? p=some { cls:=.type "list",data:=.seq its.toArray n }∧xs.length≤sizeLine:=by
 obtain⟨z,its,n,r,e⟩:=I.hok p _ h;exact⟨its,n,r,e,z⟩
theorem Inv.lstUpd {pins:List (Addr×Obj)}{σ:St}{H:Hp}{s:Shared}{p:Addr}{xs ys:List V}{its its':List Value}{n n':Nat}{f:Obj→Obj} (I:Inv X pins σ H s) (h:H p=some (.lst xs))
  (ho:s.heap.get? p=some { cls:=.type "list",data:=.seq its.toArray n }) (hf:f { cls:=.type "list",data:=.seq its.toArray n }={ cls:=.type "list",data:=.seq its'.toArray n' }) (r:Ye ys its') (hz:ys.length≤sizeLine) (t:Nat):
  Inv X pins σ (upd H p (.lst ys)) { s with heap:=s.heap.update p f,toks:=t }:=by
 have e:(s.heap.update p f).get? p=some { cls:=.type "list",data:=.seq its'.toArray n' }:=by
  rw[YKb f ho (by rw[hf] <;> rfl),hf]
 refine I.write (x:=p) (e:=p) (by rw[h];trivial) (.inl rfl) (fun b u hb q=>(YKA _ _ (Ne.symm hb)).trans q) ⟨_,e⟩ ?_;exact⟨hz,its',n',r,e⟩
def rSetL:V→V→V→Hp→(Hp→Prop)→Prop:=fun o i v H Q=>∃p xs k j,o=.ref p∧i=.int k∧H p=some (.lst xs)∧ixN xs.length k=some j∧Q (upd H p (.lst (xs.set j v)))
theorem YEg:PSet X rSetL:=by
 intro pins s σ H o i v ov iv u Q I ro ri rv h;obtain⟨p,xs,k,j,rfl,rfl,hp,hj,q⟩:=h;cases ro;obtain⟨t,rfl⟩:=ri;obtain⟨its,n,r,ho,hz⟩:=I.lst hp;obtain⟨h1,h2,h3,h4⟩:=YGi hj;have hl:=r.length;have hn:=YBN;have I':Inv X pins σ (upd H p (.lst (xs.set j v))) { s with heap:=s.heap.update p (Obj.mapSeq (·.setIfInBounds j u)) }:=
  I.lstUpd hp ho (YF0 its n j u) (r.set rv j) (by rw[YKf];exact hz) s.toks
 by_cases h0:0≤k
 ·have hk:k.toNat=j:=by
   rw[seqIndex_of h0 h4]at h1;exact YJk h1
  exact PySem.W.ki_setAt ho h0 (by omega) (by rw[YJa,←hl];exact h4) (by rw[hk];exact⟨_,I',q⟩)
 ·have hk:(k + (its.toArray.size:Int)).toNat=j:=by
   rw[seqIndex_neg (by omega) h3]at h1;rw[YJa,←hl];exact YJk h1
  exact PySem.W.ki_setBack ho (by omega) (by rw[YJa,←hl];exact h3) (by omega) (by rw[hk];exact⟨_,I',q⟩)
theorem YD4 (lo hi:Option Int) (n:Nat):(sliceBounds lo hi none n).1=((HT.sIx n 0 lo:Nat):Int)∧(sliceBounds lo hi none n).2.1=((HT.sIx n n hi:Nat):Int)∧(sliceBounds lo hi none n).2.2=1:=by
 refine⟨?_,?_,rfl⟩
 ·cases lo with
  |none=>simp[sliceBounds,HT.sIx]
  |some i=>
   simp only[sliceBounds,HT.sIx,Option.getD_none,show(1:Int) > 0 by decide,if_true]
   by_cases h:i < 0
   ·simp only[h,if_true] <;> omega
   ·simp only[h,if_false] <;> omega
 ·cases hi with
  |none=>simp[sliceBounds,HT.sIx]
  |some i=>
   simp only[sliceBounds,HT.sIx,Option.getD_none,show(1:Int) > 0 by decide,if_true]
   by_cases h:i < 0
   ·simp only[h,if_true] <;> omega
   ·simp only[h,if_false] <;> omega
theorem YCo (its:List Value) (lo hi:Option Int):slicePick its.toArray lo hi none=((its.drop (HT.sIx its.length 0 lo)).take (HT.sIx its.length its.length hi - HT.sIx its.length 0 lo)).toArray:=by
 obtain⟨h1,h2,h3⟩:=YD4 lo hi its.toArray.size;unfold slicePick;rw[h1,h2,h3];simp only[sliceRange_one,pick_run,YJa] <;> rfl
inductive rSlL_ (K:W.Frag) (x:V) (lo:Option Int) (hi:Option Int) (H:Hp) (Q:VK):Prop where
 |mk (a:_) (xs:_) (h0_:x=.ref a) (h1_:SqL K H a xs) (h2_:∀p,H p=none→Q (.ref p) (upd H p (.lst (X3 xs lo hi)))):rSlL_ K x lo hi H Q
def rSlL (K:W.Frag):V→Option Int→Option Int→Hp→VK→Prop:=fun x lo hi H Q=>rSlL_ K x lo hi H Q
theorem sl_list:SlR X (rSlL X.K):=by
 intro pins s σ H x v vl vu lo hi sl Q I rx hs pl pu h;obtain⟨a,xs,rfl,hx,q⟩:=h;cases rx;obtain⟨its,r,ht,hz⟩:=I.list hx;have hlen:=r.length;refine⟨"list",_,slot_list_getitem.lookup,ht.isList.typeIs,?_⟩;refine wpAny_getItem_list_slice ht.isList hs pl pu .none (by simp) ?_ (by rw[YJa] <;> omega);rw[YCo,←hlen];refine⟨.ref s.heap.objs.size,_,I.laid (t':=s.toks) (o:=.lst (X3 xs lo hi)) (fun b ob q=>YJO _ q) (YJP _) ?_,rfl,q _ (I.hok.fresh (YJP _))⟩;exact⟨YJt (YEf xs lo hi) hz,_,0,(r.drop (HT.sIx xs.length 0 lo)).take (HT.sIx xs.length xs.length hi - HT.sIx xs.length 0 lo),YJc _ rfl⟩
theorem YD5:Zl X (.builtin "len") (fun xs H Q=>∃p ys,xs=[.ref p]∧(SqL X.K H p ys∨SqT X.K H p ys)∧Q (.int ys.length) H):=by
 intro pins s σ H xs us Q I r h;obtain⟨p,ys,rfl,hq,q⟩:=h;obtain⟨u,rfl,rx⟩:=JJ r;cases rx;have hn:=YBN;rcases hq with hq |hq
 ·obtain⟨its,r',pl,hz⟩:=I.list hq;have hlen:=r'.length;exact Calls.call_len_list pl.isList (by simp only[YJa] <;> omega) ⟨.int ys.length,H,I.tok _,⟨s.toks + 1,by rw[YJa,hlen]⟩,q⟩
 ·obtain⟨its,r',pl,hz⟩:=I.tuple hq;have hlen:=r'.length;exact len_tuple pl (by simp only[YJa] <;> omega) ⟨.int ys.length,H,I.tok _,⟨s.toks + 1,by rw[YJa,hlen]⟩,q⟩
theorem Yq:Zl X (.builtin "len") (fun xs H Q=>∃z,xs=[.str z]∧z.length≤sizeLine∧Q (.int z.length) H):=by
 intro pins s σ H xs us Q I r h;obtain⟨z,rfl,hz,q⟩:=h;obtain⟨u,rfl,t,rfl⟩:=JJ r;have hn:=YBN;exact len_str (by omega) ⟨.int z.length,H,I.tok _,⟨_,rfl⟩,q⟩
theorem YD6:Zl X (.type "list") (fun xs H Q=>∃p ys,xs=[.ref p]∧(SqL X.K H p ys∨SqT X.K H p ys)∧∀l,H l=none→Q (.ref l) (upd H l (.lst ys))):=by
 intro pins s σ H xs us Q I r h;obtain⟨p,ys,rfl,hq,q⟩:=h;obtain⟨u,rfl,rx⟩:=JJ r;cases rx;have fin:∀(its:List Value),Ye ys its→ys.length≤sizeLine→∀(h':Heap) (c':Nat),(∀b o',s.heap.get? b=some o'→h'.get? b=some o')→
   h'.get? s.heap.objs.size=some { cls:=.type "list",dict:=none,data:=.seq its.toArray c',slots:=#[] }→EP X pins σ Q (.ref s.heap.objs.size) { s with heap:=h' }:=fun its r' hz h' c' kp e=>
  ⟨.ref s.heap.objs.size,_,I.laid (t':=s.toks) kp (YJP _) (show Yj X.prog X.w _ h' _ (.lst ys) from⟨hz,its,c',r',e⟩),rfl,q _ (I.hok.fresh (YJP _))⟩
 rcases hq with hq |hq
 ·obtain⟨its,r',pl,hz⟩:=I.list hq;have hlen:=r'.length;obtain⟨o,ho,hc,n,hd⟩:=pl.isList;exact call_list_seq p (.inl rfl) ho hc hd (fun h' c' kp e=>fin its r' hz h' c' kp e) (by simp only[YJa] <;> omega)
 ·obtain⟨its,r',pl,hz⟩:=I.tuple hq;have hlen:=r'.length;obtain⟨o,ho,hc,n,hd⟩:=pl;exact call_list_seq p (.inr rfl) ho hc hd (fun h' c' kp e=>fin its r' hz h' c' kp e) (by simp only[YJa] <;> omega)
theorem YCp:Zl X (.type "tuple") (fun xs H Q=>∃p ys,xs=[.ref p]∧((SqL X.K H p ys∧∀l,H l=none→Q (.ref l) (upd H l (.tup ys)))∨(SqT X.K H p ys∧Q (.ref p) H))):=by
 intro pins s σ H xs us Q I r h;obtain⟨p,ys,rfl,h⟩:=h;obtain⟨u,rfl,rx⟩:=JJ r;cases rx;rcases h with ⟨hq,q⟩ |⟨hq,q⟩
 ·obtain⟨its,r',pl,hz⟩:=I.list hq;have hlen:=r'.length;refine call_tuple_list pl.isList (fun h' kp=>?_) (by simp only[YJa] <;> omega);have I1:Inv X pins σ H { s with heap:=h' }:=I.kept (t':=s.toks) kp;have I2:Inv X pins σ (upd H h'.objs.size (.tup ys)) { s with heap:=h'.push { cls:=.type "tuple",data:=.seq its.toArray } }:=
   I1.laid (t':=s.toks) (fun b o e=>YJO _ e) (YJP _) (show Yj X.prog X.w _ _ _ (.tup ys) from⟨hz,its,r',IsTup.new _ _⟩)
  exact⟨.ref h'.objs.size,_,I2,rfl,q _ (I1.hok.fresh (YJP _))⟩
 ·obtain⟨its,r',pl,hz⟩:=I.tuple hq;exact call_tuple_same pl ⟨.ref p,H,I,rfl,q⟩
def tyV (K:W.Frag) (T:String) (x:V) (H:Hp):Prop:=match x with
 |.str _=>T="str"
 |.int _=>T="int"
 |.ref p=>(T="list"∧∃xs,SqL K H p xs)∨(T="tuple"∧∃o,K.lookup p=some o∧o.cls=.type "tuple"∧o.dict=none)∨
   (T="dict"∧((∃kvs,H p=some (.dK kvs))∨∃kvs,H p=some (.dT kvs)))∨(T="set"∧∃S n,H p=some (.set S n))
 |_=>False
theorem YIO {pins:List (Addr×Obj)}{σ:St}{H:Hp}{s:Shared}{T:String}{x:V}{v:Value} (I:Inv X pins σ H s) (r:Yk x v) (ty:tyV X.K T x H):
  s.TypeIs v T∧∀a,v=.ref a→∃ob,s.heap.get? a=some ob∧ob.dict=none:=by
 cases x with
 |str z=>
  obtain⟨t,rfl⟩:=r;cases (show T="str" from ty);exact⟨typeIs_str s z t,fun _ e=>nomatch e⟩
 |int i=>
  obtain⟨t,rfl⟩:=r;cases (show T="int" from ty);exact⟨typeIs_int s i t,fun _ e=>nomatch e⟩
 |ref p=>
  cases r;rcases ty with ⟨rfl,xs,hq⟩ |⟨rfl,o,hk,hc,hd⟩ |⟨rfl,hk⟩ |⟨rfl,S,n,hk⟩
  ·obtain⟨its,_,pl,_⟩:=I.list hq;refine⟨pl.isList.typeIs,fun a e=>?_⟩;cases e;obtain⟨o,n,e,c,hd,_⟩:=pl;exact⟨o,e,hd⟩
  ·refine⟨⟨o,I.kIn p o hk,hc⟩,fun a e=>?_⟩;cases e;exact⟨o,I.kIn _ o hk,hd⟩
  ·have z:∃o,s.heap.get? p=some o∧o.ExactDict:=by
    rcases hk with ⟨kvs,hk⟩ |⟨kvs,hk⟩
    ·obtain⟨_,_,_,_,o,_,_,e,ex,_⟩:=I.hok p _ hk;exact⟨o,e,ex⟩
    ·obtain⟨_,_,_,_,o,_,_,e,ex,_⟩:=I.hok p _ hk;exact⟨o,e,ex⟩
   obtain⟨o,e,ex⟩:=z;refine⟨⟨o,e,ex.1⟩,fun a e2=>?_⟩;cases e2;exact⟨o,e,ex.2.1⟩
  ·obtain⟨o,_,_,_,e,ex,_⟩:=I.hok p _ hk;refine⟨⟨o,e,ex.1⟩,fun a e2=>?_⟩;cases e2;exact⟨o,e,ex.2.1⟩
 |_=>exact False.elim ty
inductive tBM0_ (K:W.Frag) (T:String) (r:V→List V→Hp→VK→Prop) (Q:VK) (x:V) (H1:Hp):Prop where
 |mk (h0_:tyV K T x H1) (h1_:r x [] H1 Q):tBM0_ K T r Q x H1
def tBM0 (K:W.Frag) (T:String) (r:V→List V→Hp→VK→Prop) (to:TE):TE:=fun σ H Q=>to σ H fun x H1=>tBM0_ K T r Q x H1
inductive tBM_ (K:W.Frag) (T:String) (r:V→List V→Hp→VK→Prop) (t:TA) (σ:St) (Q:VK) (x:V) (H1:Hp):Prop where
 |mk (h0_:tyV K T x H1) (h1_:t σ H1 fun xs H2=>r x xs H2 Q):tBM_ K T r t σ Q x H1
def tBM (K:W.Frag) (T:String) (r:V→List V→Hp→VK→Prop) (to:TE) (t:TA):TE:=fun σ H Q=>to σ H fun x H1=>tBM_ K T r t σ Q x H1
variable {o e:Expr}{es:List Expr}{to:TE}{t:TA}{name:Str}{apos cpos:Pos}{T id:String}{r:V→List V→Hp→VK→Prop}
theorem pe_bm0 (pa:PlainAttrs T) (slot:Slot T name id) (hty:typeOf (.builtin id)=pure (.type "method_descriptor")) (hm:MtR X id r) (ho:PE X o to)
  (hbase:attributeBase o name X.env (eval o X.env)=eval o X.env:=by rfl) (hline:(apos.endLine == cpos.line)=true:=by rfl):PE X (.Call (.Attribute o name apos) [] [] cpos) (tBM0 X.K T r to):=by
 intro pins s σ H Q I h;refine wpAny_Call_method0_late hbase hline (thn (ho pins s σ H _ I h) fun v s1 ⟨x,H1,I1,r1,ty,q1⟩=>?_);obtain⟨h1,h2⟩:=YIO I1 r1 ty;exact⟨T,id,pa,slot,hty,h1,h2,Calls.callWith_builtin rfl (PySem.evalArgs_none (hm pins s1 σ H1 x [] v [] Q I1 r1 .nil q1))⟩
theorem pe_bm (pa:PlainAttrs T) (slot:Slot T name id) (hty:typeOf (.builtin id)=pure (.type "method_descriptor")) (hm:MtR X id r) (ho:PE X o to) (ha:PA X (e :: es) t)
  (hbase:attributeBase o name X.env (eval o X.env)=eval o X.env:=by rfl)
  (hfew:((backTo cpos (starEach (e :: es) X.env)).all (fun x=>!x.1) && (backToKw cpos (keywordEach [] X.env)).all (fun x=>x.1.isSome)
   && decide ((e :: es).length + ([]:List Keyword).length + (if ([]:List Keyword).isEmpty then 0 else 1) < 30))=true:=by rfl)
  (hline:(apos.endLine == cpos.line)=true:=by rfl) (hs:starEach (e :: es) X.env=(false,eval e X.env) :: starEach es X.env:=by rfl) (hplain:(backTo cpos (starEach es X.env)).any (·.1)=false:=by rfl):
  PE X (.Call (.Attribute o name apos) (e :: es) [] cpos) (tBM X.K T r to t):=by
 intro pins s σ H Q I h;refine wpAny_Call_method_late hbase hfew hline rfl (thn (ho pins s σ H _ I h) fun v s1 ⟨x,H1,I1,r1,ty,q1⟩=>?_);obtain⟨h1,h2⟩:=YIO I1 r1 ty;refine⟨T,id,pa,slot,hty,h1,h2,?_⟩;have hA:=ha cpos pins s1 σ H1 _ I1 q1;rw[hs]at hA ⊢;refine Calls.callWith_builtin (by show(false || (backTo cpos (starEach es X.env)).any (·.1))=false;rw[hplain] <;> rfl) (Calls.evalArgs_plain ?_);exact thn hA fun us s2 ⟨vs,H2,I2,r2,q2⟩=>hm pins s2 σ H2 x vs v us Q I2 r1 r2 q2
end
end L2
namespace L2
open PySem PySem.Spec PyProof.Rows
def MtM (X:Cx) (id:String) (r:V→List V→Hp→VK→Prop):Prop:=
 ∀(pins:List (Addr×Obj)) (s:Shared) (σ:St) (H:Hp) (x:V) (xs:List V) (v:Value) (us:List Value) (Q:VK),Inv X pins σ H s→Yk x v→Ye xs us→r x xs H Q→
  wpAny (model X.prog X.w) X.A (call (.builtin id) (v :: us)) (EP X pins σ Q) X.xe s
theorem Ye.one:∀{x:V}{us:List Value},Ye [x] us→∃u,us=[u]∧Yk x u
 |_,_,.cons r .nil=>⟨_,rfl,r⟩
theorem Ye.zero:∀{us:List Value},Ye [] us→us=[]
 |_,.nil=>rfl
theorem Ye.reverse {xs:List V}{us:List Value} (h:Ye xs us):Ye xs.reverse us.reverse:=by
 induction h with
 |nil=>exact .nil
 |cons r t ih=>rw[List.reverse_cons,List.reverse_cons];exact Ye.append ih (.cons r .nil)
theorem Ye.rep {xs:List V}{us:List Value} (h:Ye xs us):∀k:Nat,Ye (List.replicate k xs).flatten (List.replicate k us).flatten
 |0=>.nil
 |k + 1=>by
  rw[YKw,YKw,List.flatten_cons,List.flatten_cons];exact Ye.append h (Ye.rep h k)
theorem YDG (its:List Value):∀(k:Nat) (acc:List Value),
  List.foldl (fun x1 x2=>x1 ++ x2) acc.toArray (List.replicate k its.toArray)=(acc ++ (List.replicate k its).flatten).toArray
 |0,acc=>by simp
 |k + 1,acc=>by
  have e:acc.toArray ++ its.toArray=(acc ++ its).toArray:=by simp
  have e2:(acc ++ its) ++ (List.replicate k its).flatten=acc ++ (List.replicate (k + 1) its).flatten:=by
   rw[YKw,List.flatten_cons,List.append_assoc]
  rw[←e2,←YDG its k (acc ++ its),←e,YKw,List.foldl_cons]
section
variable {X:Cx}{pins:List (Addr×Obj)}{σ:St}{H:Hp}{s:Shared}{l b:Addr}{xs ys zs:List V}
theorem Inv.lset {its its':List Value}{n:Nat}{f:Array Value→Array Value}{t':Nat} (I:Inv X pins σ H s) (hH:H l=some (.lst xs))
  (e:s.heap.get? l=some { cls:=.type "list",data:=.seq its.toArray n }) (hf:f its.toArray=its'.toArray) (hv:Ye ys its') (hz:ys.length≤sizeLine):
  Inv X pins σ (upd H l (.lst ys)) { s with heap:=s.heap.update l (Obj.mapSeq f),toks:=t' }:=by
 have q:=PySem.IsL.update e f;rw[hf]at q;refine I.write (x:=l) (e:=l) (by rw[hH];exact trivial) (.inl rfl) (fun b' u hb hu=>(YKA s.heap (Obj.mapSeq f) (Ne.symm hb)).trans hu) ⟨_,q⟩ ?_;exact⟨hz,its',_,hv,q⟩
theorem Inv.lnew {its:List Value}{t':Nat} (I:Inv X pins σ H s) (hv:Ye ys its) (hz:ys.length≤sizeLine):
  Inv X pins σ (upd H s.heap.objs.size (.lst ys)) { s with heap:=s.heap.push { cls:=.type "list",data:=.seq its.toArray },toks:=t' }:=
 I.laid (fun _ _ q=>YJO _ q) (YJP _) ⟨hz,its,0,hv,YJc _ rfl⟩
theorem Inv.fresh (I:Inv X pins σ H s):H s.heap.objs.size=none:=I.hok.fresh (YJP _)
theorem Inv.lstM (I:Inv X pins σ H s) (hH:H l=some (.lst xs)):xs.length≤sizeLine∧∃(its:List Value) (n:Nat),Ye xs its∧xs.length=its.length∧s.heap.get? l=some { cls:=.type "list",data:=.seq its.toArray n }:=by
 obtain⟨z,its,n,r,e⟩:=I.hok l _ hH;exact⟨z,its,n,r,r.length,e⟩
theorem YIP {n:Nat} (h:n≤sizeLine):Builtin.List.listTooLong n=false:=by
 unfold Builtin.List.listTooLong;exact YJV (by omega)
end
section
variable {X:Cx}
inductive YEh (x:V) (vs:List V) (H:Hp) (Q:VK):Prop where
 |mk (l:_) (xs:_) (y:_) (h0_:x=.ref l) (h1_:vs=[y]) (h2_:H l=some (.lst xs)) (h3_:xs.length < sizeLine) (h4_:Q .non (upd H l (.lst (xs ++ [y])))):YEh x vs H Q
def YD7:V→List V→Hp→VK→Prop:=fun x vs H Q=>YEh x vs H Q
theorem ZD:MtM X "list.append" YD7:=by
 intro pins s σ H x vs v us Q I rx rv h;obtain⟨l,xs,y,rfl,rfl,hH,hz,q⟩:=h;cases rx;obtain⟨u,rfl,ru⟩:=rv.one;obtain⟨z,its,n,r,hl,e⟩:=I.lstM hH;refine call_meets F.slot_list_append ⟨_,e,rfl⟩ F.entry_list_append (F.args_list_append_2 _ _) (PySem.list_append l its.toArray n u (by rw[YJa];omega)) ⟨e,?_⟩;refine⟨.non,_,I.lset (its':=its ++ [u]) hH e (by simp) (r.append (.cons ru .nil)) ?_,rfl,q⟩;rw[YJd,List.length_singleton];omega
inductive YDH (x:V) (vs:List V) (H:Hp) (Q:VK):Prop where
 |mk (l:_) (xs:_) (h0_:x=.ref l) (h1_:vs=[]) (h2_:H l=some (.lst xs)) (h3_:Q .non (upd H l (.lst xs.reverse))):YDH x vs H Q
def YIQ:V→List V→Hp→VK→Prop:=fun x vs H Q=>YDH x vs H Q
theorem YF1:MtM X "list.reverse" YIQ:=by
 intro pins s σ H x vs v us Q I rx rv h;obtain⟨l,xs,rfl,rfl,hH,q⟩:=h;cases rx;have hus:=rv.zero;subst hus;obtain⟨z,its,n,r,hl,e⟩:=I.lstM hH;refine call_meets F.slot_list_reverse ⟨_,e,rfl⟩ F.entry_list_reverse (F.args_list_reverse_1 _) (AutoSeq1.list_reverse_list_0 l its.toArray n (by rw[YJa];omega)) ⟨e,?_⟩;refine⟨.non,_,I.lset (its':=its.reverse) hH e (by simp) r.reverse ?_,rfl,q⟩;rw[YKg];omega
inductive rCat_ (x:V) (y:V) (H:Hp) (Q:VK):Prop where
 |mk (l:_) (b:_) (xs:_) (zs:_) (h0_:x=.ref l) (h1_:y=.ref b) (h2_:H l=some (.lst xs)) (h3_:H b=some (.lst zs)) (h4_:xs.length + zs.length≤sizeLine) (h5_:∀p,H p=none→Q (.ref p) (upd H p (.lst (xs ++ zs)))):rCat_ x y H Q
def rCat:R2:=fun x y H Q=>rCat_ x y H Q
theorem YCD:OpR X (binaryOp .Add) rCat:=by
 intro pins s σ H x y v u Q I rx ry h;obtain⟨l,b,xs,zs,rfl,rfl,hH,hB,hz,q⟩:=h;cases rx;cases ry;obtain⟨z,its,n,r,hl,e⟩:=I.lstM hH;obtain⟨z2,its2,n2,r2,hl2,e2⟩:=I.lstM hB;refine PySem.P.add_list e e2 ?_ (by rw[YJa,YJa];omega);have ea:its.toArray ++ its2.toArray=(its ++ its2).toArray:=by simp
 rw[ea];exact⟨.ref _,_,I.lnew (t':=s.toks) (r.append r2) (by rw[YJd];omega),rfl,q _ I.fresh⟩
def rRep:R2:=fun x y H Q=>∃l k xs,x=.ref l∧y=.int k∧H l=some (.lst xs)∧-(2 ^ 63)≤k∧k < 2 ^ 63∧xs.length * k.toNat≤sizeLine∧
 ∀p,H p=none→Q (.ref p) (upd H p (.lst (List.replicate k.toNat xs).flatten))
theorem len_rep {α:Type} (xs:List α) (k:Nat):(List.replicate k xs).flatten.length=k * xs.length:=by
 induction k with
 |zero=>simp
 |succ k ih=>rw[YKw,List.flatten_cons,YJd,ih,Nat.succ_mul,Nat.add_comm]
theorem op_rep:OpR X (binaryOp .Mult) rRep:=by
 intro pins s σ H x y v u Q I rx ry h;obtain⟨l,k,xs,rfl,rfl,hH,h1,h2,hz,q⟩:=h;cases rx;obtain⟨t,rfl⟩:=ry;obtain⟨z,its,n,r,hl,e⟩:=I.lstM hH;have hlen:its.toArray.size * k.toNat≤sizeLine:=by rw[YJa,←hl];exact hz
 have hcap:¬its.toArray.size * k.toNat > (2 ^ 63 - 1) / 8:=by
  have:(sizeLine:Nat)≤(2 ^ 63 - 1) / 8:=by decide
  omega
 have hfit:¬(!Builtin.List.listFitsIndex k)=true:=by
  rw[fitsIndex_both h1 h2];exact YJZ
 have hlong:¬Builtin.List.listTooLong (its.toArray.size * k.toNat)=true:=by
  rw[YIP hlen];exact YJZ
 have hnew:List.foldl (fun x1 x2=>x1 ++ x2) #[] (List.replicate (if its.toArray.isEmpty=true then 0 else k.toNat) its.toArray)=(List.replicate k.toNat its).flatten.toArray:=by
  have f0:∀m:Nat,List.foldl (fun x1 x2=>x1 ++ x2) #[] (List.replicate m its.toArray)=(List.replicate m its).flatten.toArray:=fun m=>by
   have:=YDG its m [];rw[List.nil_append]at this;exact this
  rw[f0];cases its with
  |nil=>simp
  |cons a r'=>rw[if_neg (by simp)]
 refine wpAny_binaryOp_repeat_ref (T:="list") (U:="int") (by decide) ⟨_,e,rfl⟩ (fun s'=>typeIs_int s' k t) noFill_list_mul F.fills_int_mul F.slot_int_rmul repeat_list F.slot_int_index.lookup
  (call_meets F.slot_int_rmul (typeIs_int s k t) F.entry_int_rmul (F.args_int_rmul_2 _ _) (int___rmul___int_list k t l its.toArray n)
   ⟨e,rfl,⟨_,e,rfl⟩,call_meets F.slot_list_mul ⟨_,e,rfl⟩ F.entry_list_mul (F.args_list_mul_2 _ _) (AutoListH.list___mul___list_int_3 l its.toArray n k t hfit hcap hlong) ⟨e,?_⟩⟩)
 rw[hnew];exact⟨.ref _,_,I.lnew (t':=s.toks) (r.rep k.toNat) (by rw[len_rep,Nat.mul_comm];exact hz),rfl,q _ I.fresh⟩
end
section
variable {prog:Program}{w:World}{A:Around}{E:Value→Shared→Prop}{s:Shared}
set_option maxRecDepth 100000 in
end
section
variable {X:Cx}
end
end L2
namespace L2
open PySem PySem.Spec PyProof.Rows
section
variable {κ:Type} [DecidableEq κ]
def Yw (kvs:List (κ×V)) (k:κ):Option V:=(kvs.find? fun kv=>decide (kv.1=k)).map (·.2)
def Ys (kvs:List (κ×V)) (k:κ) (v:V):List (κ×V):=
 if (kvs.any fun kv=>decide (kv.1=k))=true then kvs.map (fun kv=>if kv.1=k then (kv.1,v) else kv) else kvs ++ [(k,v)]
theorem ZS {p:κ×V}{r:List (κ×V)}{k:κ} (e:p.1=k):Yw (p :: r) k=some p.2:=by simp[Yw,YKr,e]
theorem Ze {p:κ×V}{r:List (κ×V)}{k:κ} (e:¬p.1=k):Yw (p :: r) k=Yw r k:=by simp[Yw,YKr,e]
theorem Zm (k:κ):∀kvs:List (κ×V),(kvs.any fun kv=>decide (kv.1=k))=(Yw kvs k).isSome
 |[]=>rfl
 |p :: r=>by
  rw[List.any_cons]
  by_cases e:p.1=k
  ·simp only[ZS e,YJU e,Bool.true_or,Option.isSome_some]
  ·rw[Ze e,YJV e,YKY];exact Zm k r
theorem YEi (k j:κ) (y:V):∀kvs:List (κ×V),Yw (kvs.map fun kv=>if kv.1=k then (kv.1,y) else kv) j=(Yw kvs j).map fun x=>if j=k then y else x
 |[]=>rfl
 |p :: r=>by
  have ih:=YEi k j y r;rw[YJ1]
  by_cases h:p.1=k
  ·rw[if_pos h]
   by_cases e:p.1=j
   ·rw[ZS (p:=(p.1,y)) e,ZS e,YK4,if_pos (e.symm.trans h)]
   ·rw[Ze (p:=(p.1,y)) e,Ze e,ih]
  ·rw[if_neg h]
   by_cases e:p.1=j
   ·rw[ZS (p:=p) e,ZS e,YK4,if_neg (fun z=>h (e.trans z))]
   ·rw[Ze (p:=p) e,Ze e,ih]
theorem YDI (k j:κ) (y:V):∀kvs:List (κ×V),Yw kvs k=none→Yw (kvs ++ [(k,y)]) j=if j=k then some y else Yw kvs j
 |[],_=>by
  by_cases e:k=j
  ·rw[if_pos e.symm];exact ZS (p:=(k,y)) e
  ·rw[if_neg (fun z=>e z.symm)];exact Ze (p:=(k,y)) e
 |p :: r,hn=>by
  rw[List.cons_append];have hk:¬p.1=k:=fun z=>by rw[ZS z]at hn;cases hn
  rw[Ze hk]at hn;have ih:=YDI k j y r hn
  by_cases e:p.1=j
  ·rw[ZS e,ZS e,if_neg (fun z=>hk (e.trans z))]
  ·rw[Ze e,Ze e,ih]
theorem Jc (kvs:List (κ×V)) (k j:κ) (y:V):Yw (Ys kvs k y) j=if j=k then some y else Yw kvs j:=by
 unfold Ys
 by_cases a:(kvs.any fun kv=>decide (kv.1=k))=true
 ·rw[if_pos a,YEi];rw[Zm]at a
  by_cases e:j=k
  ·obtain⟨x,hx⟩:=YJv.mp a;rw[if_pos e,e,hx,YK4,if_pos rfl]
  ·rw[if_neg e];cases Yw kvs j with
   |none=>rfl
   |some x=>rw[YK4,if_neg e]
 ·rw[if_neg a];refine YDI k j y kvs ?_;rw[Zm]at a;cases q:Yw kvs k with
  |none=>rfl
  |some x=>rw[q]at a;exact(a rfl).elim
theorem YAB (kvs:List (κ×V)) (k:κ) (v:V):(Ys kvs k v).length≤kvs.length + 1:=by
 unfold Ys;split
 ·rw[YJL];omega
 ·rw[YJd,YJn,YKa];omega
theorem YAC {kvs:List (κ×V)}{k:κ} (v:V) (h:Yw kvs k=none):Ys kvs k v=kvs ++ [(k,v)]:=by
 unfold Ys;rw[Zm,h];exact if_neg (by decide)
theorem X2.isSome_eq {o:Option V}{u:Option Value} (r:X2 o u):o.isSome=u.isSome:=by
 cases o with
 |none=>cases u with
  |none=>rfl
  |some _=>exact(show False from r).elim
 |some _=>cases u with
  |none=>exact(show False from r).elim
  |some _=>rfl
theorem X2.getD {o:Option V}{u:Option Value}{d:V}{d':Value} (r:X2 o u) (rd:Yk d d'):Yk (o.getD d) (u.getD d'):=by
 cases o with
 |none=>cases u with
  |none=>exact rd
  |some _=>exact(show False from r).elim
 |some _=>cases u with
  |none=>exact(show False from r).elim
  |some _=>exact r
theorem KV.val {kvs:List (κ×V)}{vs:List (κ×Value)} (r:KV kvs vs) (k:κ):X2 (Yw kvs k) (valueAt vs k):=by
 unfold KV at r
 induction r with
 |nil=>exact True.intro
 |@cons p q ps qs h t ih=>
  obtain⟨h1,h2⟩:=h
  by_cases e:p.1=k
  ·have e':q.1=k:=h1.symm.trans e;have b:valueAt (q :: qs) k=some q.2:=by simp[valueAt,YKr,e']
   rw[ZS e,b];exact h2
  ·have e':¬q.1=k:=fun z=>e (h1.trans z)
   have b:valueAt (q :: qs) k=valueAt qs k:=by simp[valueAt,YKr,e']
   rw[Ze e,b];exact ih
theorem KV.any {kvs:List (κ×V)}{vs:List (κ×Value)} (r:KV kvs vs) (k:κ):(kvs.any fun kv=>decide (kv.1=k))=vs.any fun kv=>decide (kv.1=k):=by
 unfold KV at r
 induction r with
 |nil=>rfl
 |cons h t ih=>rw[List.any_cons,List.any_cons,ih,h.1]
theorem KV.repl {kvs:List (κ×V)}{vs:List (κ×Value)} (r:KV kvs vs) (k:κ) {y:V}{u:Value} (ry:Yk y u):
  KV (kvs.map fun kv=>if kv.1=k then (kv.1,y) else kv) (vs.map fun kv=>if kv.1=k then (kv.1,u) else kv):=by
 unfold KV at r ⊢
 induction r with
 |nil=>exact .nil
 |@cons p q ps qs h t ih=>
  rw[YJ1,YJ1];refine .cons ?_ ih;obtain⟨h1,h2⟩:=h
  by_cases e:p.1=k
  ·rw[if_pos e,if_pos (h1.symm.trans e)];exact⟨h1,ry⟩
  ·rw[if_neg e,if_neg (fun z=>e (h1.trans z))];exact⟨h1,h2⟩
theorem KV.put {kvs:List (κ×V)}{vs:List (κ×Value)} (r:KV kvs vs) (k:κ) {y:V}{u:Value} (ry:Yk y u):KV (Ys kvs k y) (stored vs k u):=by
 unfold Ys stored;rw[r.any k]
 by_cases e:(vs.any fun kv=>decide (kv.1=k))=true
 ·rw[if_pos e,if_pos e];exact r.repl k ry
 ·rw[if_neg e,if_neg e];exact Paired.snoc r ⟨rfl,ry⟩
theorem KV.length {kvs:List (κ×V)}{vs:List (κ×Value)} (r:KV kvs vs):kvs.length=vs.length:=Paired.length r
end
theorem YCE {P:Program}{w:World}{k:Key}{u:Value} (r:Yk (kV k) u):(Y5 P w).is k u=true:=by
 cases k with
 |inl i=>obtain⟨t,e⟩:=(show ∃t,u=Value.int i t from r);subst e;exact YEY P w i t
 |inr x=>obtain⟨t,e⟩:=(show ∃t,u=Value.str x t from r);subst e;exact YEZ P w x t
theorem YDJ {P:Program}{w:World}:∀{ks:List Key}{us:List Value},Ye (ks.map kV) us→ItemsAre (Y5 P w) ks us
 |[],_,r=>by rw[List.map_nil]at r;cases r;exact .nil
 |k :: ks,_,r=>by
  rw[YJ1]at r;cases r with
  |cons h t=>exact .cons (YCE h) (YDJ t)
abbrev KT (H:Hp):List (List Key×V)→List (List Key×Addr×Value)→Prop:=Paired fun p q=>p.1=q.1∧H q.2.1=some (.tup (p.1.map kV))∧Yk p.2 q.2.2
theorem KT.val {H:Hp}{kvs:List (List Key×V)}{xs:List (List Key×Addr×Value)} (r:KT H kvs xs) (k:List Key):X2 (Yw kvs k) ((atKey xs k).map (·.2)):=by
 induction r with
 |nil=>exact True.intro
 |@cons p q ps qs h t ih=>
  obtain⟨h1,_,h2⟩:=h
  by_cases e:p.1=k
  ·have e':q.1=k:=h1.symm.trans e;have b:atKey (q :: qs) k=some q.2:=by simp[atKey,YKr,e']
   rw[ZS e,b];exact h2
  ·have e':¬q.1=k:=fun z=>e (h1.trans z)
   have b:atKey (q :: qs) k=atKey qs k:=by simp[atKey,YKr,e']
   rw[Ze e,b];exact ih
theorem KT.repl {H:Hp}{kvs:List (List Key×V)}{xs:List (List Key×Addr×Value)} (r:KT H kvs xs) (k:List Key) {y:V}{u:Value} (ry:Yk y u):
  KT H (kvs.map fun kv=>if kv.1=k then (kv.1,y) else kv) (xs.map (putAt k u)):=by
 induction r with
 |nil=>exact .nil
 |@cons p q ps qs h t ih=>
  rw[YJ1,YJ1];refine .cons ?_ ih;obtain⟨h1,h2,h3⟩:=h;unfold putAt
  by_cases e:p.1=k
  ·rw[if_pos e,if_pos (h1.symm.trans e)];exact⟨h1,h2,ry⟩
  ·rw[if_neg e,if_neg (fun z=>e (h1.trans z))];exact⟨h1,h2,h3⟩
theorem KT.put {H:Hp}{kvs:List (List Key×V)}{xs:List (List Key×Addr×Value)} (r:KT H kvs xs) (k:List Key) {b:Addr}{y:V}{u:Value} (hb:H b=some (.tup (k.map kV))) (ry:Yk y u):
  KT H (Ys kvs k y) (storedH xs k b u):=by
 have e:(kvs.any fun kv=>decide (kv.1=k))=(atKey xs k).isSome:=by
  rw[Zm,(r.val k).isSome_eq,Option.isSome_map]
 unfold Ys storedH;rw[e]
 by_cases q:(atKey xs k).isSome=true
 ·rw[if_pos q,if_pos q];exact r.repl k ry
 ·rw[if_neg q,if_neg q];exact Paired.snoc r ⟨rfl,hb,ry⟩
theorem KT.keeps {H H':Hp}{kvs:List (List Key×V)}{xs:List (List Key×Addr×Value)} (r:KT H kvs xs) (ht:∀b ys,H b=some (.tup ys)→H' b=some (.tup ys)):KT H' kvs xs:=
 Paired.mapP r fun _ _ z=>⟨z.1,ht _ _ z.2.1,z.2.2⟩
section
variable {P:Program}{w:World}{H:Hp}{h:Heap}{a:Addr}
theorem rd_of {u:HO} (ok:HOk P w H h) (e:Rd H a u):Yj P w H h a u:=e.ok ok
theorem YCF {kvs:List (Key×V)} (ok:HOk P w H h) (e:Rd H a (.dK kvs)):kvs.length≤sizeLine∧(a == sysModules)=false∧∃vs,KV kvs vs∧h.DictOf (Y5 P w) a vs:=
 show Yj P w H h a (.dK kvs) from rd_of ok e
theorem dk_of {kvs:List (Key×V)} (ok:HOk P w H h) (e:H a=some (.dK kvs)):kvs.length≤sizeLine∧(a == sysModules)=false∧∃vs,KV kvs vs∧h.DictOf (Y5 P w) a vs:=YCF ok (.inl e)
theorem YBQ {ks:List Key} (ok:HOk P w H h) (e:H a=some (.tup (ks.map kV))):(tupleKind (Y5 P w)).is h ks a:=by
 obtain⟨_,its,r,o,h1,h2,n,h3⟩:=(show Yj P w H h a (.tup (ks.map kV)) from ok a _ e);exact⟨o,its.toArray,n,h1,h2,h3,by simpa using YDJ r⟩
theorem YCG {kvs:List (List Key×V)} (ok:HOk P w H h) (e:Rd H a (.dT kvs)):kvs.length≤sizeLine∧(a == sysModules)=false∧
  ∃xs,KT H kvs xs∧h.DictOfH (tupleKind (Y5 P w)) a xs:=by
 obtain⟨z,y,xs,r,o,es,ep,h1,h2,h3,h4,h5⟩:=(show Yj P w H h a (.dT kvs) from rd_of ok e);refine⟨z,y,xs,r,o,es,ep,h1,h2,h3,h4,fun x hx=>?_,h5⟩;have all:∀{l:List (List Key×V)}{m:List (List Key×Addr×Value)},KT H l m→∀x∈m,(tupleKind (Y5 P w)).is h x.1 x.2.1:=by
  intro l m q
  induction q with
  |nil=>intro x hx;exact nomatch hx
  |@cons p q ps qs hq t ih=>
   intro x hx;rcases YJg.mp hx with e |hx
   ·subst e;exact YBQ ok (by rw[←hq.1];exact hq.2.1)
   ·exact ih x hx
 exact all r x hx
theorem dt_of {kvs:List (List Key×V)} (ok:HOk P w H h) (e:H a=some (.dT kvs)):kvs.length≤sizeLine∧(a == sysModules)=false∧
  ∃xs,KT H kvs xs∧h.DictOfH (tupleKind (Y5 P w)) a xs:=YCG ok (.inl e)
end
def Jw (H:Hp) (a:Addr) (y:V) (r:Option V):Prop:=
 (∃kvs k,Rd H a (.dK kvs)∧y=kV k∧r=Yw kvs k)∨∃kvs k b,Rd H a (.dT kvs)∧y=.ref b∧H b=some (.tup (k.map kV))∧r=Yw kvs k
def YBR (H:Hp) (a:Addr) (y v:V) (H':Hp):Prop:=
 (∃kvs k,H a=some (.dK kvs)∧y=kV k∧kvs.length < sizeLine∧H'=upd H a (.dK (Ys kvs k v)))∨
 ∃kvs k b,H a=some (.dT kvs)∧y=.ref b∧H b=some (.tup (k.map kV))∧kvs.length < sizeLine∧H'=upd H a (.dT (Ys kvs k v))
theorem Jw.k {H:Hp}{a:Addr}{kvs:List (Key×V)}{k:Key} (e:H a=some (.dK kvs)):Jw H a (kV k) (Yw kvs k):=.inl ⟨kvs,k,.inl e,rfl,rfl⟩
theorem YBR.k {H:Hp}{a:Addr}{kvs:List (Key×V)}{k:Key}{v:V} (e:H a=some (.dK kvs)) (hl:kvs.length < sizeLine):YBR H a (kV k) v (upd H a (.dK (Ys kvs k v))):=.inl ⟨kvs,k,e,rfl,hl,rfl⟩
theorem YBR.t {H:Hp}{a b:Addr}{kvs:List (List Key×V)}{k:List Key}{v:V} (e:H a=some (.dT kvs)) (eb:H b=some (.tup (k.map kV))) (hl:kvs.length < sizeLine):
  YBR H a (.ref b) v (upd H a (.dT (Ys kvs k v))):=.inr ⟨kvs,k,b,e,rfl,eb,hl,rfl⟩
section
variable {X:Cx}{pins:List (Addr×Obj)}{σ:St}{H:Hp}{s:Shared}{a:Addr}{y v:V}{u r:Value}{o:Option V}{A:Around}{E:Value→Shared→Prop}
theorem Inv.big (I:Inv X pins σ H s):sysModules < s.heap.objs.size:=by
 have h:mainGlobals < s.heap.objs.size:=(I.mod.glob.keeps I.bk).lt;exact Nat.lt_trans (by decide) h
theorem YHS {Q:Value→Shared→Prop} (hu:A.units + 1 < cLine) (I:Inv X pins σ H s) (g:Jw H a y (some v)) (ry:Yk y u) (h:∀w' s',Inv X pins σ H s'→Yk v w'→Q w' s'):
  wpAny (model X.prog X.w) A (getItem (.ref a) u) Q E s:=by
 rcases g with ⟨kvs,k,e,ey,l⟩ |⟨kvs,k,b,e,ey,eb,l⟩
 ·subst ey;obtain⟨z,hd,vs,rel,dd⟩:=YCF I.hok e;obtain⟨w',hw,rw'⟩:=X2.some_of (v:=v) (o:=valueAt vs k) (by rw[l];exact rel.val k);exact wpAny_getItem_of (YCE ry) dd.mapOf hw (h w' _ (I.tok _) rw')
 ·subst ey;cases (show u=Value.ref b from ry);obtain⟨z,hd,xs,rel,dd⟩:=YCG I.hok e;obtain⟨w',hw,rw'⟩:=X2.some_of (v:=v) (o:=(atKey xs k).map (·.2)) (by rw[l];exact rel.val k);obtain⟨p,hp,hp2⟩:=YJu.mp hw;refine wpAny_getItem_heap (tupleKind_room_in1 hu) (YBQ I.hok eb) dd hp ?_;rw[hp2];exact h w' _ (I.tok _) rw'
theorem d_in {Q:Value→Shared→Prop} (hu:A.units + 1 < cLine) (I:Inv X pins σ H s) (g:Jw H a y o) (ry:Yk y u) (h:∀s',Inv X pins σ H s'→Q (.bool o.isSome) s'):
  wpAny (model X.prog X.w) A (compareOp .In u (.ref a)) Q E s:=by
 rcases g with ⟨kvs,k,e,ey,l⟩ |⟨kvs,k,b,e,ey,eb,l⟩
 ·subst ey;obtain⟨z,hd,vs,rel,dd⟩:=YCF I.hok e;refine wpAny_in_of (YCE ry) hd dd.mapOf ?_;rw[←(rel.val k).isSome_eq,←l];exact h _ (I.tok _)
 ·subst ey;cases (show u=Value.ref b from ry);obtain⟨z,hd,xs,rel,dd⟩:=YCG I.hok e;refine wpAny_in_heap (tupleKind_room_in1 hu) (YBQ I.hok eb) hd dd ?_;have q:=(rel.val k).isSome_eq;rw[Option.isSome_map]at q;rw[←q,←l];exact h _ (I.tok _)
theorem d_notIn {Q:Value→Shared→Prop} (hu:A.units + 1 < cLine) (I:Inv X pins σ H s) (g:Jw H a y o) (ry:Yk y u) (h:∀s',Inv X pins σ H s'→Q (.bool (!o.isSome)) s'):
  wpAny (model X.prog X.w) A (compareOp .NotIn u (.ref a)) Q E s:=by
 rcases g with ⟨kvs,k,e,ey,l⟩ |⟨kvs,k,b,e,ey,eb,l⟩
 ·subst ey;obtain⟨z,hd,vs,rel,dd⟩:=YCF I.hok e;refine wpAny_notIn_of (YCE ry) hd dd.mapOf ?_;rw[←(rel.val k).isSome_eq,←l];exact h _ (I.tok _)
 ·subst ey;cases (show u=Value.ref b from ry);obtain⟨z,hd,xs,rel,dd⟩:=YCG I.hok e;refine wpAny_notIn_heap (tupleKind_room_in1 hu) (YBQ I.hok eb) hd dd ?_;have q:=(rel.val k).isSome_eq;rw[Option.isSome_map]at q;rw[←q,←l];exact h _ (I.tok _)
theorem YD8 {h':Heap}{t':Nat}{ob:HO} (I:Inv X pins σ H s) (mu:Mut (H a)) (hs:Heap.SameBut a s.heap h') (he:∃q,h'.get? a=some q) (new:Yj X.prog X.w (upd H a ob) h' a ob):
  Inv X pins σ (upd H a ob) { s with heap:=h',toks:=t' }:=
 I.write (x:=a) (e:=a) mu (.inl rfl) (fun b q hb z=>(hs.2 b hb).trans z) he new
theorem YIR {P:Program}{w:World}{H':Hp}{h':Heap}{kvs:List (Key×V)}{vs:List (Key×Value)} (z:kvs.length≤sizeLine) (hd:(a == sysModules)=false) (rel:KV kvs vs) (dd:h'.DictOf (Y5 P w) a vs):
  Yj P w H' h' a (.dK kvs):=⟨z,hd,vs,rel,dd⟩
theorem YHT {H':Hp}{Q:Unit→Shared→Prop} (hu:A.units + 1 < cLine) (I:Inv X pins σ H s) (g:YBR H a y v H') (ry:Yk y u) (rv:Yk v r) (h:∀s',Inv X pins σ H' s'→Q () s'):
  wpAny (model X.prog X.w) A (setItem (.ref a) u r) Q E s:=by
 rcases g with ⟨kvs,k,e,ey,l,eH⟩ |⟨kvs,k,b,e,ey,eb,l,eH⟩
 ·subst ey eH;obtain⟨z,hd,vs,rel,dd⟩:=dk_of I.hok e;have hz:vs.length≤sizeLine:=by rw[←rel.length];exact z
  have hl:(Ys kvs k v).length≤sizeLine:=by have:=YAB kvs k v;omega
  refine wpAny_setItem_pairs (hsz:=hz) (YCE ry) dd fun h' dd' hs=>h _ ?_
  have he:∃q,h'.get? a=some q:=let ⟨q,_,_,hq,_⟩:=dd';⟨q,hq⟩
  exact YD8 I (by rw[e];exact True.intro) hs he (YIR hl hd (rel.put k rv) dd')
 ·subst ey eH;cases (show u=Value.ref b from ry);obtain⟨z,hd,xs,rel,dd⟩:=dt_of I.hok e;have hz:xs.length≤sizeLine:=by rw[←Paired.length rel];exact z
  have hl:(Ys kvs k v).length≤sizeLine:=by have:=YAB kvs k v;omega
  refine wpAny_setItem_heap (hsz:=hz) (tupleKind_room_in1 hu) (YBQ I.hok eb) dd fun h' dd' hs=>h _ ?_
  obtain⟨q,es,ep,hq,h2,h3,h4,_,h5⟩:=dd';refine YD8 I (by rw[e];exact True.intro) hs ⟨q,hq⟩ ⟨hl,hd,_,(rel.put k eb rv).keeps fun c ys ec=>?_,q,es,ep,hq,h2,h3,h4,h5⟩;rw[YH (YC8 ec e nofun)];exact ec
end
section
variable {X:Cx}{pins:List (Addr×Obj)}{σ:St}{H:Hp}{s:Shared}{a:Addr}{kvs:List (Key×V)}{k:Key}{u:Value}{A:Around}{E:Value→Shared→Prop}
end
def NoSl (i:Expr):Prop:=∀ov iv,subscripted i false ov iv=operate [ov,iv] (getItem ov iv)
theorem subD_of {prog:Program}{w:World}{A:Around}{E:Value→Shared→Prop}{s:Shared}{env:Env}{value slice:Expr}{pos:Pos}{T id:String}{Q:Value→Shared→Prop}
  (hl:typeLookup (.type T) "__getitem__"=pure (some (.builtin id))) (hs:NoSl slice)
  (h:wpAny (model prog w) A (eval value env) (fun o s₁=>wpAny (model prog w) A (eval slice env) (fun i s₂=>s₂.TypeIs o T∧wpAny (model prog w) A (getItem o i) Q E s₂) E s₁) E s):
  wpAny (model prog w) A (eval (.Subscript value slice pos) env) Q E s:=by
 refine Subscript_ (wpAny_mono h (fun o s₁ h₁=>wpAny_mono h₁ (fun i s₂ h₂=>?_) fun _ _ x=>x) fun _ _ x=>x);obtain⟨hT,h₂⟩:=h₂;unfold subscriptTail;refine YJN ?_;rw[getitemInPython_of_ne hT.not_modules];refine YJN (wpAny_specialOf hT hl ?_);have fin:wpAny (model prog w) A (subscripted slice false o i) (fun r s₃=>wpAny (model prog w) A (letTemporaryGo value o r >>= fun _=>pure r) Q E s₃) E s₂:=by
  rw[hs o i];exact wpAny_operating (wpAny_mono h₂ (fun r s₃ h₃=>YJN (wpAny_letTemporaryGo (YJb h₃))) fun _ _ x=>x)
 first
  |exact YJb (YJN fin)
  |exact YJN (YJb (YJN fin))
  |exact YJN fin
theorem YEj {X:Cx}{pins:List (Addr×Obj)}{σ:St}{H:Hp}{s:Shared}{a:Addr}{y:V}{o:Option V} (I:Inv X pins σ H s) (g:Jw H a y o):s.TypeIs (.ref a) "dict":=by
 rcases g with ⟨kvs,k,e,_,_⟩ |⟨kvs,k,b,e,_,_,_⟩
 ·obtain⟨_,_,vs,_,dd⟩:=YCF I.hok e;exact dd.typeIs
 ·obtain⟨_,_,xs,_,dd⟩:=YCG I.hok e;exact dd.typeIs
inductive YIS (Q:VK) (x:V) (y:V) (H2:Hp):Prop where
 |mk (a:_) (v:_) (h0_:x=.ref a) (h1_:Jw H2 a y (some v)) (h2_:Q v H2):YIS Q x y H2
def tDGet (td ty:TE):TE:=fun σ H Q=>td σ H fun x H1=>ty σ H1 fun y H2=>YIS Q x y H2
inductive tDIn_ (Q:VK) (y:V) (x:V) (H2:Hp):Prop where
 |mk (a:_) (o:_) (h0_:x=.ref a) (h1_:Jw H2 a y o) (h2_:Q (.bl o.isSome) H2):tDIn_ Q y x H2
def tDIn (ty td:TE):TE:=fun σ H Q=>ty σ H fun y H1=>td σ H1 fun x H2=>tDIn_ Q y x H2
inductive YEk (Q:VK) (y:V) (x:V) (H2:Hp):Prop where
 |mk (a:_) (o:_) (h0_:x=.ref a) (h1_:Jw H2 a y o) (h2_:Q (.bl (!o.isSome)) H2):YEk Q y x H2
def tDNotIn (ty td:TE):TE:=fun σ H Q=>ty σ H fun y H1=>td σ H1 fun x H2=>YEk Q y x H2
inductive YIT (D:YAf) (σ:St) (v:V) (x:V) (y:V) (H3:Hp):Prop where
 |mk (a:_) (H4:_) (h0_:x=.ref a) (h1_:YBR H3 a y v H4) (h2_:D.nx σ H4):YIT D σ v x y H3
def sDPut (td ty tv:TE):TS:=fun D σ H=>tv σ H fun v H1=>td σ H1 fun x H2=>ty σ H2 fun y H3=>YIT D σ v x y H3
section
variable {X:Cx}{o i e value:Expr}{pos pos' tpos:Pos}{td ty tv:TE}
theorem ZK (hu:X.A.units + 1 < cLine) (ho:PE X o td) (hi:PE X i ty) (hs:NoSl i):PE X (.Subscript o i pos) (tDGet td ty):=by
 intro pins s σ H Q I h;refine subD_of PySem.F.slot_dict_getitem.lookup hs (thn (ho pins s σ H _ I h) fun u s1 ⟨x,H1,I1,rx,q1⟩=>thn (hi pins s1 σ H1 _ I1 q1) ?_);rintro iv s2 ⟨y,H2,I2,ry,a,v,ex,g,q2⟩;subst ex;obtain rfl:u=Value.ref a:=rx;exact⟨YEj I2 g,YHS hu I2 g ry fun w' s3 I3 rw'=>⟨v,H2,I3,rw',q2⟩⟩
theorem YF2 (hu:X.A.units + 1 < cLine) (hi:PE X i ty) (ho:PE X o td):PC X .In i o (tDIn ty td):=by
 intro pins s σ H Q I h;refine thn (hi pins s σ H _ I h) fun iv s1 ⟨y,H1,I1,ry,q1⟩=>thn (ho pins s1 σ H1 _ I1 q1) ?_
 rintro u s2 ⟨x,H2,I2,rx,a,ov,ex,g,q2⟩;subst ex;obtain rfl:u=Value.ref a:=rx;exact d_in hu I2 g ry fun s3 I3=>⟨.bl ov.isSome,H2,I3,rfl,q2⟩
theorem YBS (hu:X.A.units + 1 < cLine) (hi:PE X i ty) (ho:PE X o td):PC X .NotIn i o (tDNotIn ty td):=by
 intro pins s σ H Q I h;refine thn (hi pins s σ H _ I h) fun iv s1 ⟨y,H1,I1,ry,q1⟩=>thn (ho pins s1 σ H1 _ I1 q1) ?_
 rintro u s2 ⟨x,H2,I2,rx,a,ov,ex,g,q2⟩;subst ex;obtain rfl:u=Value.ref a:=rx;exact d_notIn hu I2 g ry fun s3 I3=>⟨.bl (!ov.isSome),H2,I3,rfl,q2⟩
theorem JX (hu:X.A.units + 1 < cLine) (ho:PE X o td) (hi:PE X i ty) (hv:PE X value tv) (hs:swapsWith value (some (.Subscript o i pos')) pos.line X.env=pure false):
  PS X (.Assign [.Subscript o i pos'] value pos) (sDPut td ty tv):=by
 intro pins s σ H D I h;refine wpAny_Assign_Subscript (thn (hv pins s σ H _ I h) fun r s1 ⟨v,H1,I1,rv,q1⟩=>thn (ho pins s1 σ H1 _ I1 q1) fun u s2 ⟨x,H2,I2,rx,q2⟩=>thn (hi pins s2 σ H2 _ I2 q2) fun iv s3 ⟨y,H3,I3,ry,a,H4,ex,g,q3⟩=>?_) hs;subst ex;obtain rfl:u=Value.ref a:=rx;exact YHT hu I3 g ry rv fun s4 I4=>⟨σ,H4,I4,q3⟩
end
theorem YIU {P:Program}{w:World}{H:Hp} (h:Heap) (hb:sysModules < h.objs.size):Yj P w H (h.push { cls:=.type "dict",data:=.dict #[] }) h.objs.size (.dK []):=
 ⟨YJw _,beq_eq_false_iff_ne.mpr (Ne.symm (YJq hb)),[],.nil,Heap.DictOf.new h⟩
theorem YIV {P:Program}{w:World}{H:Hp} (h:Heap) (hb:sysModules < h.objs.size):Yj P w H (h.push { cls:=.type "dict",data:=.dict #[] }) h.objs.size (.dT []):=
 ⟨YJw _,beq_eq_false_iff_ne.mpr (Ne.symm (YJq hb)),[],.nil,_,#[],0,YJc _ rfl,⟨rfl,rfl,rfl⟩,rfl,rfl,List.nodup_nil⟩
def tDNewK:TE:=fun _ H Q=>∀p,H p=none→Q (.ref p) (upd H p (.dK []))
def tDNewT:TE:=fun _ H Q=>∀p,H p=none→Q (.ref p) (upd H p (.dT []))
section
variable {X:Cx}{pos:Pos}
theorem YA3:PE X (.Dict [] [] pos) tDNewK:=fun pins s σ H Q I h=>
 wpAny_Dict_empty ⟨.ref s.heap.objs.size,_,I.laid (a:=s.heap.objs.size) (o:=.dK []) (t':=s.toks) (fun _ _ q=>YJO _ q) (YJP _) (YIU s.heap I.big),rfl,h _ (I.hok.fresh (YJP _))⟩
theorem YEl:PE X (.Dict [] [] pos) tDNewT:=fun pins s σ H Q I h=>
 wpAny_Dict_empty ⟨.ref s.heap.objs.size,_,I.laid (a:=s.heap.objs.size) (o:=.dT []) (t':=s.toks) (fun _ _ q=>YJO _ q) (YJP _) (YIV s.heap I.big),rfl,h _ (I.hok.fresh (YJP _))⟩
end
structure M1 (X:Cx) (o:Expr) (m:Str) (apos:Pos) (e:Expr) (cpos:Pos):Prop where
 base:attributeBase o m X.env (eval o X.env)=eval o X.env
 few:((backTo cpos (starEach [e] X.env)).all (fun x=>!x.1) && (backToKw cpos (keywordEach [] X.env)).all (fun x=>x.1.isSome)
  && decide (([e]:List Expr).length + ([]:List Keyword).length + (if ([]:List Keyword).isEmpty then 0 else 1) < 30))=true
 line:(apos.endLine == cpos.line)=true
 trees:backTo cpos (starEach [e] X.env)=[(false,eval e X.env)]
structure M2 (X:Cx) (o:Expr) (m:Str) (apos:Pos) (e f:Expr) (cpos:Pos):Prop where
 base:attributeBase o m X.env (eval o X.env)=eval o X.env
 few:((backTo cpos (starEach [e,f] X.env)).all (fun x=>!x.1) && (backToKw cpos (keywordEach [] X.env)).all (fun x=>x.1.isSome)
  && decide (([e,f]:List Expr).length + ([]:List Keyword).length + (if ([]:List Keyword).isEmpty then 0 else 1) < 30))=true
 line:(apos.endLine == cpos.line)=true
 trees:backTo cpos (starEach [e,f] X.env)=[(false,eval e X.env),(false,eval f X.env)]
def IsD (H:Hp) (a:Addr):Prop:=(∃kvs,Rd H a (.dK kvs))∨∃kvs,Rd H a (.dT kvs)
theorem YIW {X:Cx}{pins:List (Addr×Obj)}{σ:St}{H:Hp}{s:Shared}{a:Addr} (I:Inv X pins σ H s) (d:IsD H a):
  s.TypeIs (.ref a) "dict"∧(∀b,Value.ref a=.ref b→∃ob,s.heap.get? b=some ob∧ob.dict=none)∧(a == sysModules)=false:=by
 rcases d with ⟨kvs,e⟩ |⟨kvs,e⟩
 ·obtain⟨_,hd,vs,_,dd⟩:=YCF I.hok e;refine⟨dd.typeIs,fun b q=>?_,hd⟩;cases q;obtain⟨ob,_,_,h1,h2,_⟩:=dd;exact⟨ob,h1,h2.2.1⟩
 ·obtain⟨_,hd,xs,_,dd⟩:=YCG I.hok e;refine⟨dd.typeIs,fun b q=>?_,hd⟩;cases q;obtain⟨ob,_,_,h1,h2,_⟩:=dd;exact⟨ob,h1,h2.2.1⟩
section
variable {X:Cx}{pins:List (Addr×Obj)}{σ:St}{H:Hp}{s:Shared}{a:Addr}{y d:V}{u r:Value}{o:Option V}{A:Around}{E:Value→Shared→Prop}
theorem d_get1 {Q:Value→Shared→Prop} (hu:A.units + 1 < cLine) (I:Inv X pins σ H s) (g:Jw H a y o) (ry:Yk y u) (h:∀w' s',Inv X pins σ H s'→Yk (o.getD .non) w'→Q w' s'):
  wpAny (model X.prog X.w) A (call (.builtin "dict.get") [.ref a,u]) Q E s:=by
 rcases g with ⟨kvs,k,e,ey,l⟩ |⟨kvs,k,b,e,ey,eb,l⟩
 ·subst ey;obtain⟨z,hd,vs,rel,dd⟩:=YCF I.hok e;refine call_meetsIn PySem.F.slot_dict_get dd.typeIs PySem.F.entry_dict_get (PySem.F.args_dict_get_2 _ _) (meets_dict_get (Y5 X.prog X.w) a (YCE ry) hd) ⟨_,dd.mapOf,h _ _ (I.tok _) ?_⟩;rw[l];exact(rel.val k).getD rfl
 ·subst ey;cases (show u=Value.ref b from ry);obtain⟨z,hd,xs,rel,dd⟩:=YCG I.hok e;refine call_meetsIn PySem.F.slot_dict_get dd.typeIs PySem.F.entry_dict_get (PySem.F.args_dict_get_2 _ _) (meetsH_dict_get (tupleKind (Y5 X.prog X.w)) a b hd) ⟨tupleKind_room_in1 hu,k,xs,YBQ I.hok eb,dd,h _ _ (I.tok _) ?_⟩;rw[l];exact(rel.val k).getD rfl
end
def tDGet1 (td ty:TE):TE:=fun σ H Q=>td σ H fun x H1=>∃a,x=.ref a∧IsD H1 a∧ty σ H1 fun y H2=>∃o,Jw H2 a y o∧Q (o.getD .non) H2
section
variable {X:Cx}{o e f:Expr}{apos cpos:Pos}{td ty tx:TE}
theorem YEm (hu:X.A.units + 1 < cLine) (ho:PE X o td) (he:PE X e ty) (m:M1 X o "get" apos e cpos):PE X (.Call (.Attribute o "get" apos) [e] [] cpos) (tDGet1 td ty):=by
 intro pins s σ H Q I h;refine wpAny_Call_method m.base m.few m.line PySem.F.plainAttrs_dict PySem.F.slot_dict_get PySem.F.type_dict_get (thn (ho pins s σ H _ I h) ?_);rintro u s1 ⟨x,H1,I1,rx,a,ex,d,q1⟩;subst ex;obtain rfl:u=Value.ref a:=rx;obtain⟨t1,t2,_⟩:=YIW I1 d;refine⟨t1,t2,?_⟩;rw[m.trees];refine Calls.callWith_builtin rfl (Calls.evalArgs_plain (Calls.spliced_cons (thn (he pins s1 σ H1 _ I1 q1) ?_)));rintro iv s2 ⟨y,H2,I2,ry,ov,g,q2⟩;refine Calls.spliced_nil ?_;exact d_get1 hu I2 g ry fun w' s3 I3 rw'=>⟨_,H2,I3,rw',q2⟩
end
section
variable {X:Cx}{pins:List (Addr×Obj)}{σ:St}{H:Hp}{s:Shared}{a:Addr}{kvs:List (Key×V)}{A:Around}{E:Value→Shared→Prop}
end
section
variable {X:Cx}{pins:List (Addr×Obj)}{σ:St}{H:Hp}{s:Shared}{a:Addr}{y:V}{u:Value}{A:Around}{E:Value→Shared→Prop}
end
end L2
namespace Att
open PySem PySem.W PySem.Calls PyProof.Rows
theorem YBo {P:Params}{h:Heap}:∀(ns:List Int) (vs:List Value),WellAll P h vs (ns.map WData.int)→IntsAre vs ns:=by
 intro ns
 induction ns with
 |nil=>
  intro vs w;rw[List.map_nil]at w;cases w;exact .nil
 |cons n ns ih=>
  intro vs w;rw[YJ1]at w;cases w with
  |cons a b=>
   cases a;exact .cons _ _ (ih _ b)
theorem YHU {l:OpenLaw}{n:Nat} (hn:l.most=some n) {P:Params}{h:Heap}{args:List WData}{vals:List Value}
  (hpre:l.row.toRowW.claim.pre args=true) (hwl:WellAll P h vals args):
  ∃a vs ns,vals=[Value.ref a]∧args=[WData.list (ns.map WData.int)]∧h.get? a=some { cls:=.type "list",data:=.seq vs.toArray }∧IntsAre vs ns∧ns.length≤n:=by
 have hsh:WShape.hasAll [] args [.list .int]=true:=(pre_splitW hpre).1;have hc:l.pre.holds [] { args:=args }=true:=(pre_splitW hpre).2;obtain⟨d,r,rfl,h1,h2⟩:=hasAllW_cons hsh;obtain rfl:=hasAllW_nil h2;obtain⟨xs,rfl,h3⟩:=hasW_list h1;obtain⟨ns,rfl⟩:=items_int h3;have hlen:ns.length≤n:=by
  unfold OpenLaw.pre at hc;have h4:(WTm.not (.lt (.lit (.int (n:Int))) (.len (.arg 0)))).holds [] { args:=[.list (ns.map .int)] }=true:=by
   have h4:=(holds_andW hc).1;rw[hn]at h4;exact h4
  have h5:=condW_of h4 (w_not (w_lt w_lit (w_len_list (w_arg rfl))));rw[YJL]at h5;refine Nat.le_of_not_lt fun q=>?_
  have q':(n:Int) < ((ns.length:Nat):Int):=by omega
  first
   |(rw[YJU q']at h5;exact absurd h5 (by decide))
   |(simp at h5;omega)
 cases hwl with
 |cons w1 w2=>
  cases w2;cases w1 with
  |list ho hall=>exact⟨_,_,ns,rfl,rfl,ho,YBo ns _ hall,hlen⟩
theorem YHV (l:OpenLaw) (args:List WData):l.row.toRowW.claim.post args (.bool true) args=true:=
 postW_of (r:=l.row.toRowW) (X:=(true == true))
  (show WShape.has [] (.bool true) .bool=true by first |rfl |decide |simp[WShape.has,WShape.arms,WShape.armsAll])
  (show(WTm.eq .res (.lit (.bool true))).value [] { args:=args,res:=some (.bool true),after:=args }=some (.bool (true == true)) from w_eq_bool (w_res rfl) w_lit) rfl
theorem YEn {l:OpenLaw}{n:Nat}{q:Program}{loose:List Str}{XP:(Str→Option Value)→Heap→Prop}{YP:World→Heap→Prop}{d:DefRec}
  (hn:l.most=some n) (hdf:d.params.defaults=[])
  (call:∀(w:World) (s₀ s₁:Shared) (mg mb:Str→Option Value) (fa:Addr) (o:Obj) (pm cd doc:Value) (a:Addr) (vs:List Value) (ns:List Int),
   Ground q loose [] XP w s₀ mg mb s₁.heap→YP w s₁.heap→
   s₁.heap.get? fa=some o→o.data=.func (docDef d.name d.params d.body d.scope pm cd doc)→s₁.heap.CodeRec cd d.name→mg d.name=some (.ref fa)→
   s₁.heap.get? a=some { cls:=.type "list",data:=.seq vs.toArray }→IntsAre vs ns→ns.length≤n→s₁.gens=#[]→
   codeAny (model l.prog w) callerA (.call (.ref fa) ⟨[.ref a],[]⟩) (fun r s'=>r=.ok (.ret (.bool true))∧OldK s₁.heap s'.heap∧s'.os=s₁.os∧AllBare s'.gens) s₁):
  WalkO q loose XP YP l.row.toRowW d [] (fun f vs=>PySem.call f vs):=by
 intro w s₀ s₁ mg mb G Y fa o pm cd doc dV kV ho hd hcd hD hmg hg args vals as hpre hlay hrd hwl hlo;obtain rfl:dV=.none:=Dflts.none hD hdf;obtain rfl:kV=.none:=Dflts.noKw hD;obtain⟨a,vs,ns,rfl,rfl,hobj,hints,hlen⟩:=YHU hn hpre hwl;refine enter_call (codeAny_mono (call w s₀ s₁ mg mb fa o pm cd doc a vs ns G Y ho (fd_plain hd) hcd hmg hobj hints hlen hg) fun r s' hq=>?_);obtain⟨rfl,h2,h3,h4⟩:=hq;exact⟨.inl ⟨.bool true,.bool true,[],rfl,fun _=>rfl,.bool true,YHV l _,fun _=>⟨List.Pairwise.nil,fun _ hm=>(nomatch hm)⟩⟩,h2,h3,h4⟩
section
variable {prog:Program}{w:World}{A:Around}{E:Value→Shared→Prop}{s:Shared}{K:Frag}
end
end Att
namespace L2
open PySem PySem.Spec PyProof.Rows
theorem YDK:∀{vs:List Value}{ns:List Int},IntsAre vs ns→Ye (ns.map V.int) vs
 |_,_,.nil=>.nil
 |_,_,.cons n t h=>.cons ⟨t,rfl⟩ (YDK h)
def Only (H:Hp):Prop:=∀b,H b=none∨∃o xs,H b=some (.frz o (.lst xs))
theorem YIX {P:Program}{w:World}{K:W.Frag}{mg mb:Str→Option Value}{CX:CXT}{k:Nat}{fa a:Addr}{fd:FuncData}{x:Str}{sp:Sp}{s₁:Shared}{vs:List Value}{ns:List Int}
  (KX:K.In s₁.heap) (hns:s₁.heap.Ns mainGlobals mg) (hb:s₁.heap.Ns builtinsNs mb) (hbb:∀x:Str,x≠"__name__"→mb x=bootBuiltins x) (hlim:s₁.heap.NoLimit) (hg:s₁.gens=#[])
  (ha:s₁.heap.get? a=some { cls:=.type "list",data:=.seq vs.toArray }) (hi:IntsAre vs ns) (hl:ns.length≤sizeLine) (hr:Jb k callerA)
  (F:∀base:Heap,K.In base→base.Ns mainGlobals mg→Yr P w K mg base CX k fa fd [x] sp) (hbind:∀(s:Shared) (u:Value),BindsTo s fd ⟨[u],[]⟩ [(x,u)])
  (hsp:∀H:Hp,Only H→SqL K H a (ns.map V.int)→sp [.ref a] H (fun v _=>v=.bl true) fun _ _ _=>False)
  (hCX:∀H e s',CX [] H s₁ (fun _ _ _=>False) e s'→False):
  codeAny (model P w) callerA (.call (.ref fa) ⟨[.ref a],[]⟩) (fun r s'=>r=.ok (.ret (.bool true))∧OldK s₁.heap s'.heap∧s'.os=s₁.os∧AllBare s'.gens) s₁:=by
 have rv:=YDK hi;have lenV:=hi.length;have core:∀H:Hp,Only H→SqL K H a (ns.map V.int)→HOk P w H s₁.heap→(∀b,H b≠none→b=a)→(H a≠none→K.lookup a=none)→
   codeAny (model P w) callerA (.call (.ref fa) ⟨[.ref a],[]⟩) (fun r s'=>r=.ok (.ret (.bool true))∧OldK s₁.heap s'.heap∧s'.os=s₁.os∧AllBare s'.gens) s₁:=by
  intro H hO hS hok hA hK;have base_of:∀{b:Addr}{o:Obj},s₁.heap.get? b=some o→H b=none→(YDy s₁.heap H).get? b=some o:=fun e n=>YH1 e n
  have noA:∀{b:Addr}{o:Obj}{es:Array DictEntry}{ep:Nat},s₁.heap.get? b=some o→o.data=.dict es ep→H b=none:=fun{b o es ep} e d=>by
   cases q:H b with
   |none=>rfl
   |some u=>
    have e':b=a:=hA b (by rw[q];simp);subst e';rw[ha]at e;cases e;have d':Data.seq vs.toArray _=Data.dict es ep:=d;cases d'
  have nsK:∀{b:Addr}{m:Str→Option Value},s₁.heap.Ns b m→(YDy s₁.heap H).Ns b m:=fun{b m} ⟨o,es,ep,e,d,r⟩=>⟨o,es,ep,base_of e (noA e d),d,r⟩
  have hKb:K.In (YDy s₁.heap H):=fun b o e=>base_of (KX b o e) (by
   cases q:H b with
   |none=>rfl
   |some u=>
    have e':b=a:=hA b (by rw[q];simp);subst e';rw[hK (by rw[q];simp)]at e;cases e)
  have hM:Mod K mg (YDy s₁.heap H):=⟨hKb,nsK hns,⟨mb,nsK hb,hbb⟩,let ⟨mc,h1,h2⟩:=hlim;⟨mc,nsK h1,h2⟩⟩;have e0:Env0 P w K mg (YDy s₁.heap H) callerA [] s₁ H:=⟨rfl,hM,fun b o e=>of_hidT e,Nat.le_of_eq (YHJ _ _),trivial,fun b hb=>absurd (show b∈([]:List Addr) from hb) (by simp),hok,.of_eq hg⟩;refine codeAny_mono ((F _ hKb (nsK hns)).run callerA [] s₁ H ⟨[.ref a],[]⟩ [.ref a] [.ref a] _ _ hr e0 (hbind s₁ (.ref a)) (.cons rfl .nil) (hsp H hO hS)) fun r s' h=>?_
  cases r with
  |error e=>exact(hCX H e s' h).elim
  |ok fl=>
   cases fl with
   |next=>exact False.elim h
   |brk=>exact False.elim h
   |cont=>exact False.elim h
   |ret u=>
    obtain⟨v,H',os,bare,un,hok',r',q⟩:=h;have q':v=.bl true:=q;subst q';obtain rfl:u=Value.bool true:=r';refine⟨rfl,OldK.of_keep fun b o e=>?_,os,bare⟩;cases q:H b with
    |none=>exact un.keep b o e q (by intro z;exact absurd (show b∈([]:List Addr) from z) (by simp)) (by simp)
    |some u=>
     rcases hO b with z |⟨ob,xs,z⟩
     ·rw[q]at z;cases z
     ·have z2:=un.frzs b ob _ z;obtain⟨e1,_⟩:=hok b _ z;obtain⟨e2,_⟩:=hok' b _ z2;rw[e]at e1;cases e1;exact e2
 cases hk:K.lookup a with
 |some o=>
  have e:=KX a o hk;rw[ha]at e;cases e;refine core (fun _=>none) (fun _=>.inl rfl) (.inr ⟨_,vs.toArray,_,hk,rfl,rfl,rfl,by rw[YJa,lenV];exact hl,by simpa using rv⟩) (fun b u z=>by have z':(none:Option HO)=some u:=z;cases z') (fun b z=>absurd rfl z) fun z=>absurd rfl z
 |none=>
  refine core (fun b=>if b=a then some (.frz { cls:=.type "list",data:=.seq vs.toArray } (.lst (ns.map V.int))) else none) (fun b=>?_) (.inl (.inr ⟨{ cls:=.type "list",data:=.seq vs.toArray },if_pos rfl⟩)) (fun b u z=>?_) (fun b z=>?_) fun _=>hk
  ·by_cases hb:b=a
   ·exact .inr ⟨_,_,if_pos hb⟩
   ·exact .inl (if_neg hb)
  ·by_cases hb:b=a
   ·have z':=(if_pos hb).symm.trans z;cases z';subst hb;exact⟨ha,by rw[YJL];exact hl,vs,_,rv,ha⟩
   ·have z':=(if_neg hb).symm.trans z;cases z'
  ·by_cases hb:b=a
   ·exact hb
   ·exact absurd (if_neg hb) z
end L2
namespace L2
open PySem PySem.Spec PyProof.Rows
theorem walk_of {l:PySem.W.OpenLaw}{n k:Nat}{q:Program}{loose:List Str}{XP:(Str→Option Value)→Heap→Prop}{YP:World→Heap→Prop}{d:DefRec}{K:Params→W.Frag}{CX:World→CXT}{sp:World→Sp}{x:Str}
  (hn:l.most=some n) (hn2:n≤sizeLine) (hdf:d.params.defaults=[]) (hr:Jb k callerA)
  (hY:∀(w:World) (h:Heap),YP w h→(K w.params).In h)
  (F:∀(w:World) (mg:Str→Option Value) (fa:Addr) (h:Heap),(K w.params).In h→h.Ns mainGlobals mg→mg d.name=some (.ref fa)→
   ∃fd:FuncData,(∀(s:Shared) (u:Value),BindsTo s fd ⟨[u],[]⟩ [(x,u)])∧
    ∀base:Heap,(K w.params).In base→base.Ns mainGlobals mg→Yr l.prog w (K w.params) mg base (CX w) k fa fd [x] (sp w))
  (hsp:∀(w:World) (H:Hp) (a:Addr) (ns:List Int),ns.length≤n→Only H→SqL (K w.params) H a (ns.map V.int)→sp w [.ref a] H (fun v _=>v=.bl true) fun _ _ _=>False)
  (hCX:∀(w:World) (H:Hp) (s:Shared) (e:Value) (s':Shared),CX w [] H s (fun _ _ _=>False) e s'→False):
  PySem.W.WalkO q loose XP YP l.row.toRowW d [] (fun f vs=>PySem.call f vs):=by
 refine Att.YEn hn hdf fun w s₀ s₁ mg mb fa o pm cd doc a vs ns G Y ho hd hcd hmg hobj hints hlen hg=>?_
 have KX:=hY w _ Y;obtain⟨fd,hb,hF⟩:=F w mg fa _ KX G.T.g hmg;exact YIX KX G.T.g G.T.b G.T.builtins G.T.nolimit hg hobj hints (YJt hlen hn2) hr hF hb (fun H hO hS=>hsp w H a ns hlen hO hS) fun H e s'=>hCX w H s₁ e s'
end L2
namespace L2
open PySem PySem.Spec PyProof.Rows
def Z9 (s:Stmt) (j:Nat):Stmt:=match s with
 |.ClassDef _ _ _ body _ _ _ _ _ _ _=>body.getD j (.Pass ⟨0,0,0,0⟩)
 |_=>.Pass ⟨0,0,0,0⟩
def JY (s:Stmt):Arguments:=match s with
 |.FunctionDef _ a _ _ _ _ _ _ _ _=>a
 |_=>{ posonlyargs:=[],args:=[],vararg:=none,kwonlyargs:=[],kw_defaults:=[],kwarg:=none,defaults:=[] }
def Zs (s:Stmt):List Stmt:=match s with
 |.FunctionDef _ _ b _ _ _ _ _ _ _=>b
 |_=>[]
def YJ (s:Stmt):Scope:=match s with
 |.FunctionDef _ _ _ _ _ _ sc _ _ _=>sc
 |_=>{ kind:=.function,names:=[],isGenerator:=false,isCoroutine:=false }
abbrev CX0:CXT:=fun _ _ _ _ _ _=>False
abbrev E0:XK:=fun _ _ _=>False
theorem Yf {X:Cx}:Xi CX0 X E0:=fun _ _ _ _ _ _ _ h=>h.elim
structure Fun (K:W.Frag) (x qual:Str) (st:Stmt) (f:Addr) (fd:FuncData):Prop where
 ex:∃(oc:Value) (od:Option Addr) (kV doc pm:Value) (an:Option Addr) (cdv ct:Value) (osl:Array (Option Value)),
  fd=PySem.W.fnOf x qual (JY st) (Zs st) (YJ st) .none kV doc pm an cdv ct∧K.lookup f=some ⟨oc,od,.func fd,osl⟩∧PySem.W.codeIn K cdv qual=true
 kp:PySem.W.keepIn K (.ref f)=true
section
variable {P:Program}{w:World}{K:W.Frag}{mg:Str→Option Value}{base:Heap}
theorem Fun.ok {x qual:Str}{st:Stmt}{f:Addr}{fd:FuncData}{N ps:List Str}{k:Nat}{sp:Sp} (F:Fun K x qual st f fd) (S:YV N ps (YJ st)) (len:∀vs H Q E,sp vs H Q E→vs.length=ps.length)
  (hbody:∀(cdv:Value) (A:Around) (outer:List Env) (s:Shared) (H:Hp) (vs:List V) (Q:VK) (E:XK),Jb k (A.deeper (envOfC qual (YJ st) s.heap.objs.size f cdv))→sp vs H Q E→
   ∃t,PSs (YBP CX0 P w K mg base N qual (YJ st) f cdv A outer s H E).nox (Zs st) t∧t { nx:=fun _ H'=>Q .non H',rt:=Q } (start N vs) H):Yr P w K mg base CX0 (k + 1) f fd ps sp:=by
 obtain⟨oc,od,kV,doc,pm,an,cdv,ct,osl,rfl,lk,hcd⟩:=F.ex;refine fn_of lk hcd S len fun A outer s H vs Q E hr hsp=>?_
 obtain⟨t,h,q⟩:=hbody cdv A outer s H vs Q E hr hsp;exact⟨t,h.nox,q⟩
theorem Fun.binds {x qual:Str}{st:Stmt}{f:Addr}{fd:FuncData}{ps:List Str} (F:Fun K x qual st f fd)
  (h:∀(kV doc pm:Value) (an:Option Addr) (cdv ct:Value) (us:List Value),us.length=ps.length→bindArgs (PySem.W.fnOf x qual (JY st) (Zs st) (YJ st) .none kV doc pm an cdv ct) ⟨us,[]⟩=pure (ps.zip us)):Xz K fd ps []:=by
 obtain⟨oc,od,kV,doc,pm,an,cdv,ct,osl,rfl,lk,hcd⟩:=F.ex;exact .all (h kV doc pm an cdv ct)
theorem YIY {x qual:Str}{st:Stmt}{f:Addr}{oc:Value}{od an:Option Addr}{osl:Array (Option Value)}{kV doc pm cdv ct:Value} (l:K.lookup f=some ⟨oc,od,.func (PySem.W.fnOf x qual (JY st) (Zs st) (YJ st) .none kV doc pm an cdv ct),osl⟩)
  (c:PySem.W.codeIn K cdv qual=true) (k:PySem.W.keepIn K (.ref f)=true):Fun K x qual st f (PySem.W.fnOf x qual (JY st) (Zs st) (YJ st) .none kV doc pm an cdv ct):=⟨⟨oc,od,kV,doc,pm,an,cdv,ct,osl,rfl,l,c⟩,k⟩
end
theorem Jd {A:Around}{k:Nat} (hr:Jb k A):A.units + 1 < cLine:=YK0 (Nat.add_le_add_left (by decide:1≤64) _) hr.units
section
variable {X:Cx}
theorem pv (i:Nat) {x:Str}{pos:Pos} (hN:X.N[i]?=some x:=by rfl) (hv:Vis X.env.scope x:=by first |exact Or.inl rfl |exact Or.inr (Or.inl rfl) |exact Or.inr (Or.inr rfl)) (hd:(x == ("__debug__":Str))=false:=by decide)
  (hcd:(x == ("__classdict__":Str))=false:=by decide):PE X (.Name x pos) (tVar i):=pe_var hN hv hd hcd
end
theorem ZU {A B:Prop} (h:B):if false=true then A else B:=by
 rw[if_neg YJZ];exact h
theorem Zo {A B:Prop} (h:A):if true=true then A else B:=by
 rw[if_pos rfl];exact h
theorem Jx {c A B:Prop} [Decidable c] (h1:c→A) (h2:¬c→B):if c then A else B:=by
 by_cases h:c
 ·rw[if_pos h];exact h1 h
 ·rw[if_neg h];exact h2 h
def YL (H H':Hp):Prop:=∀b o,H b=some o→H' b=some o
theorem YL.refl (H:Hp):YL H H:=fun _ _ h=>h
theorem YL.trans {H H1 H2:Hp} (a:YL H H1) (b:YL H1 H2):YL H H2:=fun c o h=>b c o (a c o h)
theorem YL.free {H H':Hp} (e:YL H H') {l:Addr} (h:H' l=Option.none):H l=Option.none:=by
 cases q:H l with
 |none=>rfl
 |some o=>
  rw[e l o q]at h;cases h
theorem YL.seq {K:W.Frag}{H H':Hp}{a:Addr}{xs:List V} (e:YL H H') (h:SqL K H a xs):SqL K H' a xs:=by
 rcases h with (h |⟨o,h⟩) |h
 ·exact .inl (.inl (e _ _ h))
 ·exact .inl (.inr ⟨o,e _ _ h⟩)
 ·exact .inr h
end L2
set_option maxHeartbeats 4000000
namespace L2
open PySem PySem.Spec PyProof.Rows
theorem Yj.at_ {P:Program}{w:World}{H:Hp}{h:Heap}{a:Addr}{o:HO} (x:Yj P w H h a o):∃u,h.get? a=some u:=by
 cases o with
 |lst xs=>obtain⟨_,_,_,_,e⟩:=x;exact⟨_,e⟩
 |tup xs=>obtain⟨_,_,_,o,e,_⟩:=x;exact⟨_,e⟩
 |dK kvs=>obtain⟨_,_,_,_,o,_,_,e,_⟩:=x;exact⟨_,e⟩
 |dT kvs=>obtain⟨_,_,_,_,o,_,_,e,_⟩:=x;exact⟨_,e⟩
 |set S n=>obtain⟨o,_,_,_,e,_⟩:=x;exact⟨_,e⟩
 |ins C dx fs=>obtain⟨_,_,_,e,_⟩:=x;exact⟨_,e⟩
 |own y=>obtain⟨o,e⟩:=x;exact⟨_,e⟩
 |xd fs=>obtain⟨_,⟨o,_,_,e,_⟩,_⟩:=x;exact⟨_,e⟩
 |rng lo hi=>obtain⟨_,_,_,e⟩:=x;exact⟨_,e⟩
 |frz ob u=>obtain⟨e,_⟩:=x;exact⟨_,e⟩
 |tbl ps=>exact⟨_,(show h.get? a=some _ from x)⟩
 |met f y=>exact⟨_,(show h.get? a=some _ from x)⟩
 |ext φ=>obtain⟨_,e,_⟩:=x;exact e
structure Fly (P:Program) (w:World) (l:List Env) (H:Hp) (s:Shared) (e:Addr) (cls:Value) (H':Hp) (s':Shared):Prop where
 os:s'.os=s.os
 bare:AllBare s'.gens
 un:Un (frs l) [] H H' s.heap s'.heap
 hok:HOk P w H' s'.heap
 new:H' e=none
 fly:∃B a0,Heap.FlyingW B l e cls a0 s'.heap∧(∀b u,H' b=some u→∃o,B.get? b=some o)∧∀b o,s.heap.get? b=some o→b∉frs l→∃o',B.get? b=some o'
def CXo (P:Program) (w:World):CXT:=fun l H s E ev s'=>∃e cls H',ev=.ref e∧Fly P w l H s e cls H' s'∧E cls none H'
theorem YIZ {fs:List Addr}{H H':Hp}{h h' h'' B:Heap} (un:Un fs [] H H' h h') (sB:B.StaysIn h') (sB':B.StaysIn h'') (up:h'.UpToSlots h'')
  (fr:∀b∈fs,∃o,h'.get? b=some o∧∀vs,o.data≠.fields vs) (old:∀b o,h.get? b=some o→b∉fs→∃o',B.get? b=some o'):Un fs [] H H' h h'' where
 keep:=fun b o q n hb hx=>by
  have e1:=un.keep b o q n hb hx;obtain⟨o',eB⟩:=old b o q hb;have e2:=sB b o' eB;rw[e1]at e2;cases e2;exact sB' b o eB
 slot:=fun b o q n hb hx=>by
  obtain⟨sl,e1⟩:=un.slot b o q n hb hx;obtain⟨o',e2,nf⟩:=fr b hb;rw[e1]at e2;cases e2;obtain⟨sl',e3⟩:=up b _ e1 nf;exact⟨sl',e3⟩
 free:=un.free
 there:=fun b o q hx=>by
  by_cases hb:b∈fs
  ·obtain⟨o',e2,nf⟩:=fr b hb;obtain⟨sl',e3⟩:=up b _ e2 nf;exact⟨_,e3⟩
  ·obtain⟨o',eB⟩:=old b o q hb;exact⟨o',sB' b o' eB⟩
 tups:=un.tups
 frzs:=un.frzs
 tbls:=un.tbls
theorem YGj {P:Program}{w:World}{H:Hp}{h h' B:Heap} (ok:HOk P w H h) (sB:B.StaysIn h) (sB':B.StaysIn h') (tr:∀b u,H b=some u→∃o,B.get? b=some o):HOk P w H h':=fun a o ea=>
 (ok a o ea).stay (fun b u hb eb=>by
  have tb:∃v,H b=some v:=hb.elim (fun z=>⟨o,by rw[z];exact ea⟩) fun z=>⟨_,z⟩
  obtain⟨v,hv⟩:=tb;obtain⟨o',eB⟩:=tr b v hv;have e2:=sB b o' eB;rw[eb]at e2;cases e2;exact sB' b u eB) (fun _ z=>z) fun _ _ z=>z
theorem YIa {fs fs':List Addr}{L:Addr}{H H1 H2:Hp}{h h1 h2:Heap} (a:Un fs [] H H1 h h1) (b:Un fs' [] H1 H2 h1 h2) (sub:∀x∈fs',x=L∨x∈fs) (sup:∀x∈fs,x∈fs') (hL:h.objs.size≤L):Un fs [] H H2 h h2:=by
 have nL:∀c o,h.get? c=some o→c≠L:=fun c o q z=>absurd (YJX q) (by rw[z];exact YK9.mpr hL)
 have no:∀c o,h.get? c=some o→c∉fs→c∉fs':=fun c o q n z=>(sub c z).elim (nL c o q) n
 exact⟨fun c o q n hc hx=>b.keep c o (a.keep c o q n hc hx) (a.free c o q n hx) (no c o q hc) hx,
  fun c o q n hc hx=>by
   obtain⟨sl,e1⟩:=a.slot c o q n hc hx;obtain⟨sl',e2⟩:=b.slot c _ e1 (a.free c o q n hx) (sup c hc) hx;exact⟨sl',e2⟩,
  fun c o q n hx=>by
   obtain⟨o',e1⟩:=a.there c o q hx;exact b.free c o' e1 (a.free c o q n hx) hx,
  fun c o q hx=>by
   obtain⟨o',e1⟩:=a.there c o q hx;exact b.there c o' e1 hx,
  fun c xs q=>b.tups c xs (a.tups c xs q),fun c ob xs q=>b.frzs c ob xs (a.frzs c ob xs q),
  fun c ps q=>by
   obtain⟨m1,e1⟩:=a.tbls c ps q;obtain⟨m2,e2⟩:=b.tbls c _ e1;exact⟨m1 ++ m2,by rw[e2,Array.append_assoc]⟩⟩
structure Sink (X:Cx) (E:XK):Prop where
 made:∀(pins:List (Addr×Obj)) (σ:St) (H:Hp) (s:Shared) (e:Addr) (cls:Value) (args:List Value) (h':Heap),Inv X pins σ H s→Heap.MadeExcOf s.heap h' e cls args→E cls none H→X.xe (.ref e) { s with heap:=h' }
 on:Xi (CXo X.prog X.w) X E
theorem YHW {X:Cx}{pins:List (Addr×Obj)}{σ:St}{H:Hp}{s:Shared} (I:Inv X pins σ H s):
  (PySem.W.hideAll s.heap (frs X.stack)).StaysIn s.heap∧s.heap.FunFrames (PySem.W.hideAll s.heap (frs X.stack)) X.stack∧(∀b o,s.heap.get? b=some o→b∉frs X.stack→(PySem.W.hideAll s.heap (frs X.stack)).get? b=some o)∧
   ∀b u,H b=some u→∃o,(PySem.W.hideAll s.heap (frs X.stack)).get? b=some o:=by
 refine⟨fun b o q=>PySem.W.of_hideAll _ q,PySem.W.funFrames_hide I.stack fun env he b hb=>List.mem_filterMap.mpr ⟨env,he,hb⟩,fun b o q hb=>PySem.W.hideAll_get _ q hb,fun b u q=>?_⟩;obtain⟨o,ho⟩:=(I.hok b u q).at_;exact⟨o,PySem.W.hideAll_get _ ho fun z=>by rw[I.stkFree b z]at q;cases q⟩
theorem XV {P:Program}{w:World}{K:W.Frag}{mg:Str→Option Value}{base:Heap}{N:List Str}{qual:Str}{scope:Scope}{f:Addr}{cd:Value}{A:Around}{outer:List Env}{s:Shared}{H:Hp}{E:XK}:
  Sink (YBP (CXo P w) P w K mg base N qual scope f cd A outer s H E) E where
 made:=by
  intro pins σ H1 s1 e cls args h' I hx hE;obtain⟨sB,ff,inB,tr⟩:=YHW I;show wpAny _ _ (leaving _ (.ref e)) _ _ _;refine wpAny_leaves_madeW (base:=PySem.W.hideAll s1.heap (frs (YBP (CXo P w) P w K mg base N qual scope f cd A outer s H E).stack)) (h:=s1.heap) I.ok.frames rfl sB ff hx fun h'' t x1 x2 x3 x4=>?_
  have sB1:(PySem.W.hideAll s1.heap (frs (YBP (CXo P w) P w K mg base N qual scope f cd A outer s H E).stack)).StaysIn h':=fun b o q=>hx.keeps b o (sB b o q)
  have un1:Un (frs outer) [] H H1 s.heap s1.heap:=I.base;have old:∀b o,s.heap.get? b=some o→b∉frs outer→∃o',(PySem.W.hideAll s1.heap (frs (YBP (CXo P w) P w K mg base N qual scope f cd A outer s H E).stack)).get? b=some o':=fun b o q hb=>by
   obtain⟨o',e1⟩:=un1.there b o q (by simp);refine⟨o',inB b o' e1 fun z=>?_⟩;rcases YJg.mp (I.stkSub b z) with z |z
   ·exact absurd (YJX q) (by rw[z];exact YKB _)
   ·exact hb z
  have fr:∀b∈frs outer,∃o,h'.get? b=some o∧∀vs,o.data≠.fields vs:=fun b hb=>by
   obtain⟨_,o,ho,nf⟩:=I.funs.mem hb;exact⟨o,hx.keeps b o ho,nf⟩
  refine⟨e,cls,H1,rfl,⟨I.os,I.bare,YIZ (un1.trans (Un.kept hx.keeps)) sB1 x1.1 x4 fr old,YGj (I.hok.kept hx.keeps) sB1 x1.1 tr,?_,_,_,x1,tr,old⟩,hE⟩;cases q:H1 e with
  |none=>rfl
  |some u=>
   obtain⟨o,ho⟩:=(I.hok e u q).at_;rw[hx.new]at ho;cases ho
 on:=by
  intro pins σ H1 s1 ev s' I hcx;obtain⟨e,cls,H',rfl,F,hE⟩:=hcx;obtain⟨B,a0,fl,tr,old⟩:=F.fly;show wpAny _ _ (leaving _ (.ref e)) _ _ _;refine wpAny_leaves_onW I.ok.frames rfl fl fun h'' x1 x4=>?_
  have un1:Un (frs outer) [] H H1 s.heap s1.heap:=I.base;have sub:∀x∈frs (YBP (CXo P w) P w K mg base N qual scope f cd A outer s H E).stack,x=s.heap.objs.size∨x∈frs outer:=fun x hx=>YJg.mp (I.stkSub x hx)
  have sup:∀x∈frs outer,x∈frs (YBP (CXo P w) P w K mg base N qual scope f cd A outer s H E).stack:=fun x hx=>YJf _ hx
  have un2:Un (frs outer) [] H H' s.heap s'.heap:=YIa un1 F.un sub sup (YJP _);have old':∀b o,s.heap.get? b=some o→b∉frs outer→∃o',B.get? b=some o':=fun b o q hb=>by
   obtain⟨o',e1⟩:=un1.there b o q (by simp);refine old b o' e1 fun z=>?_
   rcases sub b z with z |z
   ·exact absurd (YJX q) (by rw[z];exact YKB _)
   ·exact hb z
  have fr:∀b∈frs outer,∃o,s'.heap.get? b=some o∧∀vs,o.data≠.fields vs:=fun b hb=>by
   obtain⟨_,o,ho,nf⟩:=fl.2.2.1.mem (sup b hb);exact⟨o,ho,nf⟩
  exact⟨e,cls,H',rfl,⟨F.os.trans I.os,F.bare,YIZ un2 fl.1 x1.1 x4 fr old',YGj F.hok fl.1 x1.1 tr,F.new,B,a0,x1,tr,old'⟩,hE⟩
abbrev bmV:List Value:=[.type "ValueError",.type "Exception",.type "BaseException",.type "object"]
abbrev newV:String:="ValueError.__new__"
def Exc (K:W.Frag) (C:Addr):Prop:=PySem.W.excIn K C bmV newV=true
theorem exc_obj {K:W.Frag}{h:Heap}{C:Addr}{bmB:List Value}{newId:String} (X:K.In h) (q:PySem.W.excIn K C bmB newId=true):
  ∃bm N nm qn bs hdct sn sub ab col dd k0 k1 k2 k3 k5 mN,h.get? C=some (excClassObj nm qn C N bs bm hdct sn sub ab col dd k0 k1 k2 k3 k5 newId)∧h.Ns N mN∧mN "__init__"=none∧OwnTail h bmB bm:=by
 unfold PySem.W.excIn at q;split at q
 ·rename_i dd cd sl ho
  split at q
  ·rename_i C' bm k0 k1 k2 k3 n k5 hm hs
   simp only[YJe,beq_iff_eq,Bool.not_eq_true']at q;obtain⟨⟨⟨⟨⟨rfl,rfl⟩,hdel⟩,ht⟩,hok⟩,hni⟩:=q;obtain⟨nm,bs,mro,ns,qn,hd,sn,sub,ab,col,del⟩:=cd;dsimp only at hm hdel hok hni;subst hm hdel;have hsl:sl=#[k0,k1,k2,k3,some (.builtin n),k5]:=by
    obtain⟨l⟩:=sl;simp only at hs;rw[hs]
   subst hsl;exact⟨bm,ns,nm,qn,bs,hd,sn,sub,ab,col,dd,k0,k1,k2,k3,k5,_,X _ _ ho,.of_isNs (PySem.W.isNs_of_in X hok),PySem.W.nsMap_none_of_in X hok hni,PySem.W.tail_of_in X ht⟩
  ·cases q
 ·cases q
section
variable {X:Cx}{E:XK}{x:Str}{C:Addr}{e:Expr}{t:TA}{np cpos pos:Pos}
def tRaise (C:Addr) (E:XK) (t:TA):TS:=fun _ σ H=>t σ H fun vs H1=>vs.length≤sizeLine∧E (.ref C) none H1
theorem YCH (S:Sink X E) (hq:Exc X.K C) (hc:X.calm=true) (hg:Gl X x) (hm:X.mg x=some (.ref C)) (ha:PA X [e] t) (hd:(x == ("__debug__":Str))=false:=by decide)
  (he:starEach [e] X.env=(false,eval e X.env) :: starEach [] X.env:=by rfl) (hplain:(backTo cpos (starEach [] X.env)).any (·.1)=false:=by rfl):
  PS X (.Raise (some (.Call (.Name x np) [e] [] cpos)) none pos) (tRaise C E t):=by
 intro pins s σ H D I h;obtain⟨tl,N,nm,q,bs,hdct,sn,sub,ab,col,dd,k0,k1,k2,k3,k5,mN,hC,hN,hni,T⟩:=exc_obj I.mod.kin hq;refine wpAny_Raise_call_subT (C:=C) (nm:=nm) (q:=q) (N:=N) (bs:=bs) (bm:=tl) (hdct:=hdct) (sn:=sn) (sub:=sub) (ab:=ab) (col:=col) (dd:=dd) (k0:=k0) (k1:=k1) (k2:=k2) (k3:=k3) (k5:=k5)
  PySem.F.excBase_ValueError (mN:=mN) (T.hasType PySem.F.excBase_ValueError.hasBase) (I.ok.hd hc) (by rw[he];show(false || (backTo cpos (starEach [] X.env)).any (·.1))=false;rw[hplain];rfl) hni (YB0 I hg hm ⟨rfl,?_⟩ hd)
 have hA:=ha cpos pins s σ H _ I h;rw[he]at hA ⊢;refine Calls.evalArgs_plain (thn hA fun us s2 ⟨vs,H2,I2,r,hz,hE⟩=>⟨rfl,by rw[←r.length];exact hz,I2.bk _ _ hC,hN.keeps I2.bk,T.keeps I2.bk,fun h' e hm'=>?_⟩);exact S.made pins σ H2 s2 e _ _ h' I2 hm' hE
end
end L2
namespace L2
open PySem PySem.Spec PyProof.Rows
def XP (X:Cx) (pins:List (Addr×Obj)) (σ:St) (E:XK) (ev:Value) (s':Shared):Prop:=∃(e:Addr) (cls:Value) (H':Hp) (B:Heap) (a0:Value),ev=.ref e∧Inv X pins σ H' s'∧Heap.FlyingW B X.stack e cls a0 s'.heap∧H' e=none∧
 (∀b u,H' b=some u→∃o,B.get? b=some o)∧(∀b o,X.s₀.heap.get? b=some o→b∉frs X.stack→b∉X.ex→∃o',B.get? b=some o')∧(∀p∈X.pn ++ pins,∃o',B.get? p.1=some o')∧E cls none H'
section
variable {X:Cx}{pins:List (Addr×Obj)}{σ:St}{H:Hp}{s s':Shared}{E:XK}
end
section
variable {X:Cx}{k:Nat}{f:Addr}{fd:FuncData}{ps:List Str}{sp:Sp}{dvs:List V}{ds:List Value}{x:Str}{p pos:Pos}{e:Expr}{es:List Expr}{t:TA}
variable {te:St→Hp→VK→XK→Prop}
end
section
variable {X:Cx}{pins:List (Addr×Obj)}{σ:St}{H:Hp}{s:Shared}
end
end L2
namespace L2
open PySem PySem.Spec PyProof.Rows
def Its (x:Str):It:=⟨fun i _=>i < x.cps.size,fun i H v H'=>H'=H∧∃c,x.cps[i]?=some c∧v=.str ⟨#[c]⟩,fun i _=>i=x.cps.size⟩
abbrev YF3:List String:=["enumerate","zip","dict_itemiterator","dict_reverseitemiterator","odict_iterator","itertools.zip_longest","itertools.pairwise"]
theorem YEo {P:Program}{w:World}{K:W.Frag}{tg:Expr}{ty:String}{x:Str}{t:Tok} (it:Addr)
  (W:∀A:Around,A.handled=none→Walks P w A it [it] [it] x.cps.size (SignAt x) (fun i h=>h.IsStrIter it ty x t i))
  (hn:YF3.contains ty=false)
  (hself:∀(A:Around) (i:Nat) (s:Shared) (Q:Value→Shared→Prop) (E:Value→Shared→Prop),s.heap.IsStrIter it ty x t i→Q (.ref it) s→wpAny (model P w) A (pyIter (.ref it)) Q E s):
  YCm P w K tg (Its x) [it] it (fun i h=>h.IsStrIter it ty x t i) where
 mem:=by simp
 obj:=fun i h st b hb=>by
  have eb:b=it:=by simpa using hb
  subst eb;obtain⟨o,eo,_,d⟩:=st;exact⟨o,eo,fun v z=>by rw[d]at z;cases z⟩
 keep:=fun i h h' st k=>by
  obtain⟨o,eo,r⟩:=st;exact⟨o,k it (by simp) o eo,r⟩
 item:=by
  intro X hP hw hK hc i pins s σ H E I hf st hg;subst hP hw hK;obtain⟨f0,f1,f2,f3,f4,f5⟩:=hf it (by simp);refine(W X.A (I.ok.hd hc)).item i s _ _ hg st fun v h' tk hv st' kk=>?_
  obtain⟨c,u,hcx,rfl⟩:=hv;have I1:Inv X pins σ H { s with heap:=h',toks:=tk }:=I.turned (fun b o hb eo=>kk b o (by simpa using hb) eo) f0 f1 f3 f4 f5;obtain⟨o,eo,c',d⟩:=id st';exact⟨_,rfl,YGd (s:={ s with heap:=h',toks:=tk }) eo c' d hn ⟨.str ⟨#[c]⟩,H,I1,⟨u,rfl⟩,⟨rfl,c,hcx,rfl⟩,st',fun b hb=>(hf b hb).1⟩⟩
 done:=by
  intro X hP hw hK hc i pins s σ H E I hf st hg;subst hP hw hK;obtain⟨f0,f1,f2,f3,f4,f5⟩:=hf it (by simp);have ei:i=x.cps.size:=hg;subst ei;exact(W X.A (I.ok.hd hc)).done s _ _ st fun h' tk kk=>⟨rfl,I.turned (fun b o hb eo=>kk b o (by simpa using hb) eo) f0 f1 f3 f4 f5⟩
 self:=fun A i s Q E st h=>hself A i s Q E st h
section
variable {X:Cx}{tg:Expr}
def iStr (tl:TE):TI:=fun σ H R=>tl σ H fun v H1=>∃x,v=.str x∧R (Its x) H1
theorem YIb {l:Expr}{tl:TE} (hl:PE X l tl):PI X tg l (iStr tl):=by
 intro pins s σ H R I h;refine thn (hl pins s σ H _ I h) fun v s1 ⟨y,H1,I1,r1,q1⟩=>?_
 obtain⟨x,rfl,q⟩:=q1;obtain⟨t,rfl⟩:=r1;have fp:∀b∈[s1.heap.objs.size],X7 X pins H1 b:=fun b hb=>by
  have eb:b=s1.heap.objs.size:=by simpa using hb
  subst eb;exact I1.fpOk (YJP _) (I1.hok.fresh (YJP _))
 cases ha:x.cps.all (· < 128)
 ·refine wpAny_pyIter_wide ha ?_;exact⟨s1.heap.objs.size,[s1.heap.objs.size],_,_,H1,rfl,I1.kept (t':=s1.toks) fun b o eo=>YJO _ eo,
   YEo (ty:="str_iterator") (t:=t) _ (fun A hA=>Walks.strWide hA _ x t) (by decide) (fun _ _ _ _ _ st hq=>wpAny_pyIter_striter_wide st hq),⟨_,YJc _ rfl,rfl,rfl⟩,fp,q⟩
 ·refine wpAny_pyIter_ascii ha ?_;exact⟨s1.heap.objs.size,[s1.heap.objs.size],_,_,H1,rfl,I1.kept (t':=s1.toks) fun b o eo=>YJO _ eo,
   YEo (ty:="str_ascii_iterator") (t:=t) _ (fun A hA=>Walks.strAscii hA _ x t) (by decide) (fun _ _ _ _ _ st hq=>wpAny_pyIter_striter_ascii st hq),⟨_,YJc _ rfl,rfl,rfl⟩,fp,q⟩
end
abbrev Y8 (X:Cx) (N:List Str) (scope:Scope) (cl:List (Str×Addr)) (C:Addr) (s₀:Shared) (H₀:Hp) (ex:List Addr) (pn:List (Addr×Obj)):Cx:=
 { X with N:=N,s₀:=s₀,H₀:=H₀,env:=compEnvC scope cl C X.env,outer:=X.stack,stack:=X.stack,ex:=ex,fn:=fun _=>false,pn:=pn,xe:=fun _ _=>False }
def PTs (X:Cx) (ifs:List Expr) (t:TT):Prop:=
 ∀(pins:List (Addr×Obj)) (s:Shared) (σ:St) (H:Hp) (Q:Bool→Hp→Prop),Inv X pins σ H s→t σ H Q→
  wpAny (model X.prog X.w) X.A (forIn ifs true fun c r=>if r=true then do let ok ←isTrue c X.env (eval c X.env);pure (ForInStep.yield ok) else pure (ForInStep.yield r)) (TP X pins σ Q) X.xe s
def tYes:TT:=fun _ H Q=>Q true H
theorem Zj {X:Cx}:PTs X [] tYes:=fun _ _ _ H _ I h=>wpAny_tests_nil ⟨H,I,h⟩
def YCI (ρ:List (Option Nat)) (σ:St):St:=ρ.map fun o=>o.bind fun j=>(σ[j]?).bind id
def YAn (J:It) (g:TG) (tc:TT) (te:TE) (Q:VK) (l:Addr) (τ:St) (H1:Hp):Prop:=
 ∃W:Nat→Nat→List V→St→Hp→Prop,(∃m,W 0 m [] τ (upd H1 l (.lst [])))∧∀i m ys τ H2,W i m ys τ H2→
  (J.stop i H2∧Q (.ref l) H2)∨(J.go i H2∧∀x H3,J.yld i H2 x H3→g x τ H3 fun τ4 H4=>tc τ4 H4 fun b H5=>
   if b=true then te τ4 H5 fun y H6=>H6 l=some (.lst ys)∧ys.length < sizeLine∧∃m',m' < m∧W (i + 1) m' (ys ++ [y]) τ4 (upd H6 l (.lst (ys ++ [y])))
   else ∃m',m' < m∧W (i + 1) m' ys τ4 H5)
def tComp (ρ:List (Option Nat)) (wi:TI) (g:TG) (tc:TT) (te:TE):TE:=fun σ H Q=>wi σ H fun J H1=>∀l,H1 l=none→YAn J g tc te Q l (YCI ρ σ) H1
theorem YDL {prog:Program}{w:World}{A:Around}{R:Result→Shared→Prop}{s:Shared}{elt target iter:Expr}{ifs:List Expr}{scope:Scope}{pos:Pos}{it acc:Value}{env:Env} (Iv:Nat→Shared→Prop)
  (turn:∀n s,Iv n s→wpAny (model prog w) A (pyNext it) (fun r s1=>match r with
   |none=>R (.ok .next) s1
   |some v=>wpAny (model prog w) A (letOwnedTupleGo target it v) (fun _ s1'=>wpAny (model prog w) A (assign target env v) (fun _ s2=>
     wpAny (model prog w) A (forIn ifs true fun c r=>if r=true then do let ok ←isTrue c env (eval c env);pure (ForInStep.yield ok) else pure (ForInStep.yield r)) (fun ok s3=>
      if ok=true then wpAny (model prog w) A (eval elt env) (fun x s4=>
       wpAny (model prog w) A (call (.builtin "list.append") [acc,x]) (fun _ s5=>∃m,m < n∧Iv m s5) (fun _ _=>False) s4) (fun _ _=>False) s3
      else ∃m,m < n∧Iv m s3) (fun _ _=>False) s2) (fun _ _=>False) s1') (fun _ _=>False) s1) (fun _ _=>False) s)
  (n:Nat) (h:Iv n s):codeAny (model prog w) A (.compLoop (.ListComp elt [⟨target,iter,ifs,0⟩] scope pos) 0 it acc env) R s:=by
 refine codeAny_loop rfl Iv (fun n s hI=>?_) n h;show wpAny _ A ((compTurn (.ListComp elt [⟨target,iter,ifs,0⟩] scope pos) 0 it acc env).onRaise (fun x=>do noteFrame x env;theTreesLotGoes x)) _ _ s;refine wpAny_noted ?_;rw[compTurn_list];have no:∀{P:Value→Shared→Prop} (e:Value) (s':Shared),False→P e s':=fun _ _ z=>z.elim
 refine YJN (wpAny_standAt (YJN (wpAny_mono (turn n s hI) (fun r s1 h1=>?_) no)));cases r with
 |none=>exact YJb h1
 |some v=>
  refine YJN (wpAny_mono h1 (fun _ s1' h1'=>?_) no);refine YJN (wpAny_mono h1' (fun _ s2 h2=>YJN (wpAny_mono h2 (fun ok s3 h3=>?_) no)) no);cases ok with
  |false=>exact YJb ⟨rfl,h3⟩
  |true=>exact YJN (YJN (wpAny_mono h3 (fun x s4 h4=>YJN (wpAny_mono h4 (fun _ s5 h5=>YJb (YJb ⟨rfl,h5⟩)) no)) no))
section
variable {X:Cx}{elt tg iter:Expr}{ifs:List Expr}{scope:Scope}{cl:List (Str×Addr)}{N:List Str}{ρ:List (Option Nat)}{pos:Pos}{wi:TI}{g:TG}{tc:TT}{te:TE}
structure Yh (X:Cx) (N:List Str) (ρ:List (Option Nat)) (scope:Scope) (cl:List (Str×Addr)):Prop where
 clos:closureFor scope X.env=pure cl
 nocell:∀y∈scope.names,y.2≠.cell
 kind:scope.kind=.function
 loc:∀y∈scope.names,y.2=.local→scope.names.lookup y.1=some .local
 sub:∀x c,cl.lookup x=some c→X.env.cells.lookup x=some c
 has:∀x,((relabel scope X.env).names.lookup x=some .cell∨(relabel scope X.env).names.lookup x=some .free)→∃c,cl.lookup x=some c
 len:ρ.length=N.length
 from_:∀(i j:Nat) (x:Str),N[i]?=some x→ρ[i]?=some (some j)→X.N[j]?=some x∧(X.env.kindOf x=some .cell∨X.env.kindOf x=some .free)∧((relabel scope X.env).names.lookup x=some .cell∨(relabel scope X.env).names.lookup x=some .free)
theorem YIc {ρ:List (Option Nat)}{σ:St}{i:Nat}{v:V} (h:(YCI ρ σ)[i]?=some (some v)):∃j,ρ[i]?=some (some j)∧σ[j]?=some (some v):=by
 unfold YCI at h;rw[YJQ]at h;cases e:ρ[i]? with
 |none=>rw[e]at h;cases h
 |some o=>
  rw[e]at h;cases o with
  |none=>cases h
  |some j=>
   refine⟨j,rfl,?_⟩;simp only[YK4,Option.bind_some,Option.some.injEq]at h;cases e2:σ[j]? with
   |none=>rw[e2]at h;cases h
   |some w=>
    rw[e2]at h;have h':w=some v:=h;rw[h']
theorem YEp {pins:List (Addr×Obj)}{σ:St}{H:Hp}{s s':Shared}{fp:List Addr}{h₁:Heap} (S:Yh X N ρ scope cl) (I:Inv X pins σ H s) (hf:∀b∈fp,X7 X pins H b)
  (hlt:∀b∈fp,b < s.heap.objs.size) (hns:h₁.Ns s.heap.objs.size (fun _=>none)) (hsb:∀b o,s.heap.get? b=some o→h₁.get? b=some o) (es:s'={ s with heap:=h₁ }):
  Inv (Y8 X N scope cl s.heap.objs.size s H fp (X.pn ++ pins)) [] (YCI ρ σ) H s':=by
 subst es;have notStk:∀b,b≠X.env.locals→b∉X.fs→b∉frs X.stack:=fun b h1 h2 hb=>by
  rcases YJg.mp (I.stkSub b hb) with z |z
  ·exact h1 z
  ·exact h2 z
 have hC:X.env.locals≠s.heap.objs.size:=YJq I.lt;refine⟨⟨I.ok.mod,S.kind,I.ok.glob,I.ok.blt,YJP _,fun x y c h1 h2=>I.ok.inj x y c (S.sub x c h1) (S.sub y c h2),fun x hx=>S.has x hx,fun x c hx _=>absurd (show false=true from hx) YJZ,I.ok.hd,I.ok.frames,.inl rfl,
  fun b hb=>⟨YJq (hlt b hb),fun x c h1=>(hf b hb).2.2.2.2.1 x c (S.sub x c h1)⟩,I.bs,YJt I.ok.bsz I.sz,fun b o eo hb=>?_,fun b hb=>notStk b (hf b hb).2.1 (hf b hb).2.2.1,I.stack,I.stkFree⟩,
  rfl,I.bare,Un.kept hsb,⟨_,hns,fun i x v h1 h2 h3=>?_⟩,fun x c h1=>?_,I.hok.fresh (YJP _),fun x c h1=>I.freeC x c (S.sub x c h1),fun p hp=>?_,I.hok.kept hsb,?_⟩
 ·rcases(hf b hb).2.2.2.1 with z |z
  ·exact I.ok.noex b o eo z
  ·exact absurd (YJX (I.ok.bs b o eo).1) (YK9.mpr z)
 ·obtain⟨j,hj,hv⟩:=YIc h2;obtain⟨n1,n2,n3⟩:=S.from_ i j x h1 hj;obtain⟨m,hn,hl⟩:=I.loc;have vis:Vis X.env.scope x:=n2.elim (fun z=>.inr (.inl z)) fun z=>.inr (.inr z)
  obtain⟨u,ru,lk⟩:=hl j x v n1 hv vis;refine⟨u,ru,.inr ⟨n3,?_⟩⟩;rcases lk with ⟨hk,_⟩ |⟨_,c,hc,hcell⟩
  ·rcases n2 with z |z
   ·rw[z]at hk;cases hk
   ·rw[z]at hk;cases hk
  ·obtain⟨c',hc'⟩:=S.has x n3;have ec:=S.sub x c' hc';rw[hc]at ec;cases ec;obtain⟨o,ho,hd⟩:=hcell;exact⟨c,hc',o,hsb c o ho,hd⟩
 ·obtain⟨v,o,ho,hd⟩:=I.cell x c (S.sub x c h1);exact⟨v,o,hsb c o ho,hd⟩
 ·have hp':p∈X.pn ++ pins:=by simpa using hp
  obtain⟨p1,p2,p3,p4,p5⟩:=I.pin p hp';exact⟨hsb _ _ p1,p2,YJq (YJX p1),notStk _ p3 p4,p5⟩
 ·show(YCI ρ σ).length=N.length;unfold YCI;rw[YJL];exact S.len
theorem Z0 (hc:X.calm=true) (S:Yh X N ρ scope cl) (hi:PI X tg iter wi)
  (hg:∀C s₀ H₀ ex pn,PG (Y8 X N scope cl C s₀ H₀ ex pn) tg g) (ht:∀C s₀ H₀ ex pn,PTs (Y8 X N scope cl C s₀ H₀ ex pn) ifs tc) (he:∀C s₀ H₀ ex pn,PE (Y8 X N scope cl C s₀ H₀ ex pn) elt te)
  (hs:∀x,foldedSetIterable iter X.env x=pure x:=by intro _;rfl):PE X (.ListComp elt [⟨tg,iter,ifs,0⟩] scope pos) (tComp ρ wi g tc te):=by
 intro pins s σ H Q I h;rw[eval_ListComp];refine wpAny_comprehension_free (use:=none) rfl hs S.clos S.kind S.loc (thn (hi pins s σ H _ I h) fun v s1 h1=>thn h1 fun itv s2 h2=>?_);obtain⟨it,fp,tn,J,H2,e,I2,T,st2,f2,q2⟩:=h2;subst e;obtain⟨W,⟨m0,w0⟩,turn⟩:=q2 _ (I2.hok.fresh (YJP _));refine wpAny_newObj_type (wpAny_newFunctionEnv S.nocell (by intro y hy;simp at hy) (fun h₁ hns₁ hsb₁=>?_) S.kind);dsimp only at hns₁ hsb₁ ⊢;have I3:Inv X pins σ (upd H2 s2.heap.objs.size (.lst [])) { s2 with heap:=s2.heap.push { cls:=.type "list",dict:=none,data:=.seq ([]:List Value).toArray } }:=
  I2.laid (t':=s2.toks) (fun b u eo=>YJO _ eo) (YJP _) ⟨by simp,[],0,.nil,YJc _ rfl⟩
 generalize hs3:({ s2 with heap:=s2.heap.push { cls:=.type "list",dict:=none,data:=.seq ([]:List Value).toArray } }:Shared)=s3 at I3;have es3:s2.heap.push { cls:=.type "list",dict:=none,data:=.seq ([]:List Value).toArray }=s3.heap:=by rw[←hs3]
 rw[es3]at hns₁ hsb₁ ⊢;have f3:∀b∈fp,X7 X pins (upd H2 s2.heap.objs.size (.lst [])) b:=fun b hb=>by
  obtain⟨o,eo,_⟩:=T.obj _ _ st2 b hb;exact⟨by rw[YH (YJq (YJX eo))];exact(f2 b hb).1,(f2 b hb).2⟩
 have lt3:∀b∈fp,b < s3.heap.objs.size:=fun b hb=>by
  obtain⟨o,eo,_⟩:=T.obj _ _ st2 b hb;rw[←es3,YKX];exact Nat.lt_succ_of_lt (YJX eo)
 have old:∀b o,s3.heap.get? b=some o→h₁.get? b=some o:=fun b o eo=>hsb₁.extBut b o (YJq (YJX eo)) (YJO _ eo)
 have Ic:Inv (Y8 X N scope cl s3.heap.objs.size s3 (upd H2 s2.heap.objs.size (.lst [])) fp (X.pn ++ pins)) [] (YCI ρ σ) (upd H2 s2.heap.objs.size (.lst [])) { s2 with heap:=h₁,toks:=s2.toks + ([]:List (Str×Value)).length }:=
  YEp S I3 f3 lt3 hns₁ old (by rw[←hs3] <;> rfl)
 have stat:∀{pl:List (Addr×Obj)}{H':Hp},pl=[]→(∀b∈fp,H' b=none)→∀b∈fp,X7 (Y8 X N scope cl s3.heap.objs.size s3 (upd H2 s2.heap.objs.size (.lst [])) fp (X.pn ++ pins)) pl H' b:=fun{pl H'} epl hn b hb=>by
  subst epl;refine⟨hn b hb,YJq (lt3 b hb),fun z=>?_,.inl hb,fun x c h1=>(f2 b hb).2.2.2.2.1 x c (S.sub x c h1),fun p hp=>(f2 b hb).2.2.2.2.2 p (by simpa using hp)⟩;rcases YJg.mp (I3.stkSub b z) with z |z
  ·exact(f2 b hb).2.1 z
  ·exact(f2 b hb).2.2.1 z
 have st4:tn 0 h₁:=T.keep _ _ _ st2 fun b hb o eo=>old b o (by rw[←es3];exact YJO _ eo)
 have loop:codeAny (model X.prog X.w) X.A (.compLoop (.ListComp elt [⟨tg,iter,ifs,0⟩] scope pos) 0 (.ref it) (.ref s2.heap.objs.size) (compEnvC scope cl s3.heap.objs.size X.env))
   (compPost (model X.prog X.w) X.A X.xe none (EP X pins σ Q) (.ref s2.heap.objs.size) s3.heap.objs.size) { s2 with heap:=h₁,toks:=s2.toks + ([]:List (Str×Value)).length }:=by
  refine YDL (fun n s'=>∃i ys τ H',Inv (Y8 X N scope cl s3.heap.objs.size s3 (upd H2 s2.heap.objs.size (.lst [])) fp (X.pn ++ pins)) [] τ H' s'∧tn i s'.heap∧(∀b∈fp,H' b=none)∧W i n ys τ H') ?_ m0
   ⟨0,[],_,_,Ic,st4,fun b hb=>(f3 b hb).1,w0⟩
  rintro n s4 ⟨i,ys,τ,H4,I4,st,fr4,w4⟩;rcases turn i n ys τ H4 w4 with ⟨stop,qn⟩ |⟨go,step⟩
  ·refine thn (T.done (Y8 X N scope cl s3.heap.objs.size s3 (upd H2 s2.heap.objs.size (.lst [])) fp (X.pn ++ pins)) rfl rfl rfl hc i [] s4 τ H4 _ I4 (stat rfl fr4) st stop) fun r s5 ⟨hr,I5⟩=>?_
   subst hr;obtain⟨m5,hn5,_⟩:=I5.loc;refine⟨m5,hn5,fun h' hs'=>?_⟩;have ne:∀b,b < s3.heap.objs.size→b≠s3.heap.objs.size:=fun b hb=>YJq hb
   have get':∀b o,b≠s3.heap.objs.size→s5.heap.get? b=some o→h'.get? b=some o:=fun b o hb eo=>(hs'.2 b hb).trans eo
   have un:Un (frs X.stack) fp (upd H2 s2.heap.objs.size (.lst [])) H4 s3.heap h':=
    ⟨fun b o eo n1 n2 n3=>get' b o (ne b (YJX eo)) (I5.base.keep b o eo n1 n2 n3),fun b o eo n1 n2 n3=>let ⟨sl,z⟩:=I5.base.slot b o eo n1 n2 n3;⟨sl,get' b _ (ne b (YJX eo)) z⟩,
     I5.base.free,fun b o eo n1=>let ⟨o',z⟩:=I5.base.there b o eo n1;⟨o',get' b _ (ne b (YJX eo)) z⟩,I5.base.tups,I5.base.frzs,I5.base.tbls⟩
   have hok:HOk X.prog X.w H4 h':=fun a o ea=>(I5.hok a o ea).stay (fun b u hb eo=>get' b u (fun z=>by
    have fr:H4 s3.heap.objs.size=none:=I5.free;rcases hb with rfl |hb
    ·rw[z,fr]at ea;cases ea
    ·rw[z,fr]at hb;cases hb) eo) (fun _ z=>z) fun _ _ z=>z
   have I6:Inv X pins σ H4 { s5 with heap:=h' }:=I3.call' (s':={ s5 with heap:=h' }) (ch:=fp) (show s5.os=s3.os from I5.os) un hok I5.bare fun b hb=>(f3 b hb).2.2.2
     |> fun z=>⟨(f3 b hb).2.2.2.1,(f3 b hb).2.1,(f3 b hb).2.2.2.2.1,(f3 b hb).2.2.2.2.2⟩
   exact⟨.ref s2.heap.objs.size,H4,I6,rfl,qn⟩
  ·refine thn (T.item (Y8 X N scope cl s3.heap.objs.size s3 (upd H2 s2.heap.objs.size (.lst [])) fp (X.pn ++ pins)) rfl rfl rfl hc i [] s4 τ H4 _ I4 (stat rfl fr4) st go) fun r s5 ⟨u,hr,h5⟩=>?_
   subst hr;refine thn h5 ?_;rintro _ s6 ⟨x,H6,I6,r6,y6,st6,fr6⟩;have I6':=I6.pinned (stat rfl fr6) (T.obj _ _ st6);have again:∀{s9:Shared}{τ9:St}{H9:Hp}{zs:List V}{m':Nat},Inv (Y8 X N scope cl s3.heap.objs.size s3 (upd H2 s2.heap.objs.size (.lst [])) fp (X.pn ++ pins)) ([] ++ YBM fp s6.heap) τ9 H9 s9→m' < n→W (i + 1) m' zs τ9 H9→
     ∃m,m < n∧∃i ys τ H',Inv (Y8 X N scope cl s3.heap.objs.size s3 (upd H2 s2.heap.objs.size (.lst [])) fp (X.pn ++ pins)) [] τ H' s9∧tn i s9.heap∧(∀b∈fp,H' b=none)∧W i m ys τ H':=fun{s9 τ9 H9 zs m'} I9 hm w9=>by
    refine⟨m',hm,i + 1,zs,τ9,H9,I9.unpinned,T.keep _ _ _ st6 fun b hb o eo=>(I9.pin (b,o) (YJi _ (YJi _ (Z1 hb eo)))).1,fun b hb=>?_,w9⟩;obtain⟨o,eo,d⟩:=T.obj _ _ st6 b hb;exact(I9.pin (b,o) (YJi _ (YJi _ (Z1 hb eo)))).2.1
   refine thn (hg _ _ _ _ _ _ s6 τ H6 x u _ I6' r6 (step x H6 y6)) fun _ s7 ⟨τ7,H7,I7,q7⟩=>?_
   refine thn (ht _ _ _ _ _ _ s7 τ7 H7 _ I7 q7) fun ok s8 ⟨H8,I8,q8⟩=>?_
   cases ok with
   |false=>
    rw[if_neg YJZ]at q8 ⊢;obtain⟨m',hm,w9⟩:=q8;exact again I8 hm w9
   |true=>
    rw[if_pos rfl]at q8 ⊢;refine thn (he _ _ _ _ _ _ s8 τ7 H8 _ I8 q8) ?_;rintro y s9 ⟨z,H9,I9,r9,hl9,hz9,m',hm,w9⟩;refine thn (ZD _ s9 τ7 H9 (.ref s2.heap.objs.size) [z] (.ref s2.heap.objs.size) [y] (fun _ H'=>H'=upd H9 s2.heap.objs.size (.lst (ys ++ [z]))) I9 rfl (.cons r9 .nil) ⟨_,ys,z,rfl,rfl,hl9,hz9,rfl⟩) fun _ s10 ⟨_,H10,I10,_,e10⟩=>?_
    subst e10;exact again I10 hm w9
 exact codeAny_compStart_list loop (T.self _ 0 _ _ _ st4 loop)
end
end L2
namespace L2
open PySem PySem.Spec PyProof.Rows
theorem Yh.plain {X:Cx}{N:List Str}{ρ:List (Option Nat)}{scope:Scope} (hk:scope.kind=.function) (hn:∀y∈scope.names,y.2≠.cell∧y.2≠.free)
  (hl:∀y∈scope.names,y.2=.local→scope.names.lookup y.1=some .local) (hlen:ρ.length=N.length) (hρ:∀o∈ρ,o=none):Yh X N ρ scope []:=by
 have hre:(relabel scope X.env).names=scope.names:=by
  unfold relabel;refine map_eq_self fun y hy=>?_
  obtain⟨n,k⟩:=y;have hf:(k == NameKind.free)=false:=by
   have:=(hn _ hy).2;cases k <;> first |rfl |exact absurd rfl this
  show(if (k == NameKind.free && X.env.scope.kind == .function && X.env.kindOf n == some .cell)=true then (n,NameKind.cell) else (n,k))=(n,k);rw[hf];rfl
 refine⟨closureFor_none fun y hy=>(hn y hy).2,fun y hy=>(hn y hy).1,hk,hl,fun x c h=>(by cases h),fun x h=>?_,hlen,fun i j x _ h=>?_⟩
 ·rw[hre]at h;rcases h with h |h
  ·exact absurd rfl (hn _ (PySem.mem_of_lookup h)).1
  ·exact absurd rfl (hn _ (PySem.mem_of_lookup h)).2
 ·have:=hρ _ (YJS h);cases this
theorem YEq {x:Str}{te:TE}{Q:VK}{H:Hp}{l:Addr}{τ:St} (f:Nat→V) (hl:H l=none) (hτ:0 < τ.length) (hz:x.cps.size≤sizeLine)
  (ht:∀(τ':St) (c:Nat) (H':Hp) (R:VK),τ'[0]?=some (some (.str ⟨#[c]⟩))→c∈x.cps.toList→R (f c) H'→te τ' H' R) (hq:Q (.ref l) (upd H l (.lst (x.cps.toList.map f)))):
  YAn (Its x) (YDA 0) tYes te Q l τ H:=by
 refine⟨fun i m ys τ' H2=>m=x.cps.size - i∧i≤x.cps.size∧ys=(x.cps.toList.take i).map f∧0 < τ'.length∧H2=upd H l (.lst ys),⟨x.cps.size,by simp,YJw _,by simp,hτ,rfl⟩,?_⟩;rintro i m ys τ' H2 ⟨rfl,hi,rfl,hτ',rfl⟩
 by_cases hlt:i < x.cps.size
 ·refine .inr ⟨hlt,fun v H3 hy=>?_⟩;obtain⟨eH,c,hc,rfl⟩:=hy;subst eH;have hc':x.cps.toList[i]?=some c:=by simpa using hc
  show te _ _ _;refine ht _ c _ _ ?_ (YJS hc') ?_
  ·rw[YKi hτ']
  ·have ht1:(x.cps.toList.take (i + 1)).map f=(x.cps.toList.take i).map f ++ [f c]:=by
    rw[YKF,hc',YJo];rfl
   refine⟨YD,?_,x.cps.size - (i + 1),by lia,rfl,hlt,ht1.symm,by rw[YKf];exact hτ',by rw[YBz]⟩;rw[YJL,YKO];have:x.cps.toList.length=x.cps.size:=by simp
   lia
 ·have ei:i=x.cps.size:=by lia
  subst ei;refine .inl ⟨rfl,?_⟩;have:x.cps.toList.take x.cps.size=x.cps.toList:=by
   apply YKM;simp
  rw[this];exact hq
end L2
namespace L2
open PySem PySem.Spec PyProof.Rows
def XW (cs:List (Str×Addr)):List (Str×NameKind)→List (Str×Addr)→List (Str×Addr)
 |[],acc=>acc
 |y :: r,acc=>XW cs r (if y.2 == .free then (y.1,(cs.lookup y.1).getD 0) :: acc else acc)
theorem YDM (cs:List (Str×Addr)):∀(names:List (Str×NameKind)) (acc:List (Str×Addr)),(∀p∈acc,p.2=(cs.lookup p.1).getD 0)→∀p∈XW cs names acc,p.2=(cs.lookup p.1).getD 0
 |[],acc,h=>h
 |y :: r,acc,h=>by
  unfold XW;refine YDM cs r _ ?_;split
  ·intro p hp;rcases YJg.mp hp with rfl |hp
   ·rfl
   ·exact h p hp
  ·exact h
theorem YDN (cs:List (Str×Addr)):∀(names:List (Str×NameKind)) (acc:List (Str×Addr)),∀p∈XW cs names acc,p∈acc∨∃y∈names,y.1=p.1∧y.2=.free
 |[],acc,p,hp=>.inl hp
 |y :: r,acc,p,hp=>by
  unfold XW at hp;rcases YDN cs r _ p hp with h |⟨z,hz,h⟩
  ·split at h
   ·rename_i hy
    rcases YJg.mp h with rfl |h
    ·refine .inr ⟨y,YJp,rfl,?_⟩;cases hk:y.2 <;> rw[hk]at hy <;> first |rfl |cases hy
    ·exact .inl h
   ·exact .inl h
  ·exact .inr ⟨z,YJf _ hz,h⟩
theorem YDO (cs:List (Str×Addr)):∀(names:List (Str×NameKind)) (acc:List (Str×Addr)),∀p∈acc,p∈XW cs names acc
 |[],acc,p,hp=>hp
 |y :: r,acc,p,hp=>by
  unfold XW;refine YDO cs r _ p ?_;split
  ·exact YJf _ hp
  ·exact hp
theorem YDP (cs:List (Str×Addr)):∀(names:List (Str×NameKind)) (acc:List (Str×Addr)),∀y∈names,y.2=.free→(y.1,(cs.lookup y.1).getD 0)∈XW cs names acc
 |[],acc,y,hy,_=>absurd hy (by simp)
 |z :: r,acc,y,hy,hf=>by
  unfold XW;rcases YJg.mp hy with rfl |hy
  ·refine YDO cs r _ _ ?_;rw[if_pos (by rw[hf];rfl)];exact YJp
  ·exact YDP cs r _ y hy hf
theorem YAj:∀{l:List (Str×Addr)}{x:Str}{c:Addr},(x,c)∈l→∃d,l.lookup x=some d
 |[],_,_,h=>absurd h (by simp)
 |(n,k) :: r,x,c,h=>by
  rw[List.lookup_cons];cases hx:x == n with
  |true=>exact⟨k,rfl⟩
  |false=>
   rcases YJg.mp h with e |h
   ·cases e;simp at hx
   ·exact YAj h
theorem YCq {scope:Scope}{env:Env} (h:∀y∈scope.names,y.2=.free→∃c,env.cells.lookup y.1=some c):closureFor scope env=pure (XW env.cells scope.names []):=by
 have go:∀(names:List (Str×NameKind)) (acc:List (Str×Addr)),(∀y∈names,y.2=.free→∃c,env.cells.lookup y.1=some c)→
   (forIn (m:=Sem) names acc (fun x r=>if (x.2 == NameKind.free)=true then do let c ←cellOf env x.1;pure (ForInStep.yield ((x.1,c) :: r)) else pure (ForInStep.yield r)))=pure (XW env.cells names acc):=by
  intro names
  induction names with
  |nil=>intro acc _;rfl
  |cons y r ih=>
   intro acc hy;rw[List.forIn_cons];unfold XW
   by_cases hf:(y.2 == NameKind.free)=true
   ·have hf':y.2=.free:=by cases hk:y.2 <;> rw[hk]at hf <;> first |rfl |cases hf
    obtain⟨c,hc⟩:=hy y YJp hf';have e:cellOf env y.1=pure c:=by unfold cellOf;rw[hc]
    rw[if_pos hf,if_pos hf,e,pure_bind,pure_bind,hc];exact ih _ fun z hz=>hy z (YJf _ hz)
   ·rw[if_neg hf,if_neg hf,pure_bind];exact ih _ fun z hz=>hy z (YJf _ hz)
 have h2:=go scope.names [] h;simp only[closureFor];refine Eq.trans (YKV (· >>= _) ?_) (by rw[pure_bind]);exact h2
theorem YA4 (g:Str→NameKind→NameKind):∀(l:List (Str×NameKind)) (x:Str),(l.map fun y=>(y.1,g y.1 y.2)).lookup x=(l.lookup x).map (g x)
 |[],_=>rfl
 |(n,k) :: r,x=>by
  rw[YJ1,List.lookup_cons,List.lookup_cons];cases hx:x == n with
  |true=>
   have e:x=n:=by simpa using hx
   subst e;rfl
  |false=>exact YA4 g r x
theorem YAD (scope:Scope) (env:Env) (x:Str):(relabel scope env).names.lookup x=(scope.names.lookup x).map fun k=>if (k == NameKind.free && env.scope.kind == .function && env.kindOf x == some .cell)=true then .cell else k:=by
 rw[←YA4 (fun n k=>if (k == NameKind.free && env.scope.kind == .function && env.kindOf n == some .cell)=true then .cell else k)];unfold relabel;congr 1;refine YKK fun y _=>?_
 obtain⟨n,k⟩:=y;show(if (k == NameKind.free && env.scope.kind == .function && env.kindOf n == some .cell)=true then (n,NameKind.cell) else (n,k))=_;dsimp only;split <;> rfl
def YId (N:List Str) (ρ:List (Option Nat)) (XN:List Str) (dn sn:List (Str×NameKind)):Bool:=
 (N.zip ρ).all fun p=>match p.2 with
  |none=>true
  |some j=>decide (XN[j]?=some p.1) && decide (dn.lookup p.1=some .cell) && decide (sn.lookup p.1=some .free)
theorem Yh.closes {X:Cx}{N:List Str}{ρ:List (Option Nat)}{scope:Scope} (XN:List Str) (dn:List (Str×NameKind)) (hXN:X.N=XN) (hdn:X.env.scope.names=dn) (hk:scope.kind=.function) (hX:X.env.scope.kind=.function) (hn:∀y∈scope.names,y.2≠.cell)
  (hfree:∀y∈scope.names,y.2=.free→dn.lookup y.1=some .cell) (hcell:∀x,X.env.scope.names.lookup x=some .cell→∃c,X.env.cells.lookup x=some c) (hl:∀y∈scope.names,y.2=.local→scope.names.lookup y.1=some .local) (hlen:ρ.length=N.length)
  (hfrom:YId N ρ XN dn scope.names=true):Yh X N ρ scope (XW X.env.cells scope.names []):=by
 subst hXN hdn;have kd:∀x,X.env.kindOf x=X.env.scope.names.lookup x:=fun _=>rfl
 refine⟨YCq fun y hy hf=>hcell _ (hfree y hy hf),hn,hk,hl,fun x c h=>?_,fun x h=>?_,hlen,fun i j x h1 h2=>?_⟩
 ·have hm:=PySem.mem_of_lookup h;have hv:=YDM X.env.cells scope.names [] (fun p hp=>absurd hp (by simp)) _ hm;rcases YDN X.env.cells scope.names [] _ hm with z |⟨y,hy,e1,e2⟩
  ·exact absurd z (by simp)
  ·obtain⟨d,hd⟩:=hcell _ (hfree y hy e2);have e1':y.1=x:=e1;rw[e1']at hd;have hv':c=(X.env.cells.lookup x).getD 0:=hv;rw[hd]at hv';rw[hd,hv'];rfl
 ·rw[YAD]at h;have hfr:scope.names.lookup x=some .free:=by
   cases e:scope.names.lookup x with
   |none=>rw[e]at h;rcases h with h |h <;> cases h
   |some k=>
    rw[e]at h;cases k with
    |free=>rfl
    |cell=>exact absurd rfl (hn _ (PySem.mem_of_lookup e))
    |_=>rcases h with h |h <;> cases h
  exact YAj (YDP X.env.cells scope.names [] _ (PySem.mem_of_lookup hfr) rfl)
 ·unfold YId at hfrom;rw[YJ6]at hfrom;have hm:(x,some j)∈N.zip ρ:=by
   refine YJS (i:=i) ?_;rw[List.getElem?_zip_eq_some];exact⟨h1,h2⟩
  have h3:=hfrom _ hm;simp only[YJe,YKE]at h3;obtain⟨⟨a1,a2⟩,a3⟩:=h3;refine⟨a1,.inl (by rw[kd];exact a2),.inl ?_⟩;rw[YAD,a3,kd,a2,hX];rfl
end L2
namespace L2
open PySem PySem.Spec PyProof.Rows
section
variable {X:Cx}
theorem vals_bl:∀{bs:List Bool}{us:List Value}{i:Nat}{v:Value},Ye (bs.map V.bl) us→us[i]?=some v→∃b,bs[i]?=some b∧v=.bool b:=by
 intro bs us i v r e;cases e2:(bs.map V.bl)[i]? with
 |none=>
  have:=r.none_of e2;rw[this]at e;cases e
 |some x=>
  obtain⟨u,hu,ru⟩:=r.get e2;rw[hu]at e;cases e;rw[YJQ]at e2;cases e3:bs[i]? with
  |none=>rw[e3]at e2;cases e2
  |some b=>
   rw[e3]at e2;have e4:V.bl b=x:=YJk e2;subst e4;exact⟨b,rfl,ru⟩
theorem YCr (bs:List Bool):((List.range bs.length).all fun i=>(bs[i]?).getD true)=bs.all id:=by
 rw[YKh,YJ6,YJ6];constructor
 ·intro h b hb;obtain⟨i,hi,rfl⟩:=YKq.mp hb;have:=h i (YKG.mpr hi);rw[YJR hi]at this;exact this
 ·intro h i hi;have hi':=YKG.mp hi;rw[YJR hi'];exact h _ (YLF hi')
theorem YIe (hc:X.calm=true):Zl X (.builtin "all") (fun xs H Q=>∃(p:Addr) (bs:List Bool),xs=[.ref p]∧SqL X.K H p (bs.map V.bl)∧Q (.bl (bs.all id)) H):=by
 intro pins s σ H xs us Q I r h;obtain⟨p,bs,rfl,hq,q⟩:=h;obtain⟨u,rfl,rx⟩:=JJ r;cases rx;obtain⟨its,rv,pl,hz⟩:=I.list hq;have hl:=pl.isList;have hlt:p < s.heap.objs.size:=by obtain⟨_,e,_⟩:=hl;exact YJX e
 have hlen:bs.length=its.length:=by have:=rv.length;rwa [YJL]at this
 refine call_all_walk (wpAny_pyIter_list hl ?_);refine⟨s.heap.objs.size,[s.heap.objs.size,p],[s.heap.objs.size],its.toArray.size,_,_,fun i=>(bs[i]?).getD true,rfl,Walks.list (A:=X.A.in1) (I.ok.hd hc) _ p (YJq hlt) its.toArray,
  ⟨⟨_,YJc _ rfl,rfl,rfl⟩,hl.push _⟩,fun i v s' Q' E' hP hQ=>?_,fun h' tk hk=>?_⟩
 ·obtain⟨b,eb,rfl⟩:=vals_bl rv (i:=i) (v:=v) (by simpa using hP);simp only[eb,Option.getD_some]at hQ;exact wpAny_truthy_bool hQ
 ·have e:((List.range its.toArray.size).all fun i=>(bs[i]?).getD true)=bs.all id:=by
   rw[YJa,←hlen];exact YCr bs
  rw[e];exact⟨.bl _,H,I.kept (t':=tk) fun b o eb=>hk b o (fun z=>by rw[YJW.mp z]at eb;exact YKB _ (YJX eb)) (YJO _ eb),rfl,q⟩
theorem YD9:SlR X (fun x lo hi H Q=>∃z,x=.str z∧z.length≤sizeLine∧Q (.str (Txt.slice z lo hi)) H):=by
 intro pins s σ H x v vl vu lo hi sl Q I rx hs pl pu h;obtain⟨z,rfl,hz,q⟩:=h;obtain⟨t,rfl⟩:=rx;refine⟨"str",_,F.slot_str_getitem.lookup,typeIs_str _ _ _,?_⟩;have fin:∀(t':Tok) (k:Nat),EP X pins σ Q (.str (Txt.slice z lo hi) t') { s with toks:=k }:=fun t' k=>⟨.str _,H,I.tok _,⟨_,rfl⟩,q⟩
 obtain⟨o,ho,hc,hd⟩:=hs;cases pl with
 |none=>
  cases pu with
  |none=>exact wpAny_getItem_str_slice (l:=none) (u:=none) (st:=none) ⟨o,ho,hc,hd⟩ rfl (post_val_or_str ⟨YJt (Txt.slice_le z _ _) hz,fin⟩)
  |int j uj=>exact wpAny_getItem_str_slice (l:=none) (u:=some (j,uj)) (st:=none) ⟨o,ho,hc,hd⟩ rfl (post_val_or_str ⟨YJt (Txt.slice_le z _ _) hz,fin⟩)
 |int i ui=>
  cases pu with
  |none=>exact wpAny_getItem_str_slice (l:=some (i,ui)) (u:=none) (st:=none) ⟨o,ho,hc,hd⟩ rfl (post_val_or_str ⟨YJt (Txt.slice_le z _ _) hz,fin⟩)
  |int j uj=>exact wpAny_getItem_str_slice (l:=some (i,ui)) (u:=some (j,uj)) (st:=none) ⟨o,ho,hc,hd⟩ rfl (post_val_or_str ⟨YJt (Txt.slice_le z _ _) hz,fin⟩)
theorem YDQ:OpR X (compareOp .LtE) (fun x y H Q=>∃i j,x=.str i∧y=.str j∧Q (.bl (!decide (j.cps.toList < i.cps.toList))) H):=by
 intro pins s σ H x y v u Q I rx ry h;obtain⟨i,j,rfl,rfl,q⟩:=h;obtain⟨t,rfl⟩:=rx;obtain⟨t',rfl⟩:=ry;exact PySem.P.le_str (Yl I q rfl)
def clsV:V→Option Value
 |.ty n=>some (.type n)
 |.ref a=>some (.ref a)
 |_=>none
theorem YEr {c:V}{u w:Value} (h:clsV c=some u) (r:Yk c w):w=u:=by
 cases c with
 |ty n=>cases h;exact r
 |ref a=>cases h;exact r
 |_=>cases h
theorem YEs:Zl X (.builtin "isinstance") (fun xs H Q=>∃x c t u b,xs=[x,c]∧YAg X.K H x t∧clsV c=some u∧PySem.W.kitOne X.K t u=some b∧Q (.bl b) H):=by
 intro pins s σ H xs us Q I r h;obtain⟨x,c,t,u,b,rfl,ty,rc,e,q⟩:=h;obtain⟨v,w,rfl,rv,rw'⟩:=YB8 r;have eu:w=u:=YEr rc rw';subst eu;exact YHQ I rv ty e fun tk=>⟨.bl b,H,I.tok tk,rfl,q⟩
end
def YAo:HO→Bool
 |.dT _=>false
 |.frz _ (.dT _)=>true
 |.frz _ u=>YAo u
 |_=>true
theorem Yj.less {P:Program}{w:World}{H H':Hp}{h h':Heap}{a:Addr}{o:HO} (hp:YAo o=true) (x:Yj P w H' h' a o) (y:Yj P w H h a o):Yj P w H h' a o:=by
 induction o with
 |dT kvs=>cases hp
 |ins C dx fs=>exact⟨y.1,x.2⟩
 |frz ob u ih=>
  cases u with
  |dT kvs=>
   obtain⟨z1,z2,xs,z3,o,es,ep,z4,z5⟩:=y.2;have e:o=ob:=by
    have:=y.1;rw[z4]at this;exact YJk this
   subst e;exact⟨x.1,z1,z2,xs,z3,o,es,ep,x.1,z5⟩
  |_=>exact⟨x.1,ih hp x.2 y.2⟩
 |lst xs=>exact x
 |tup xs=>exact x
 |dK kvs=>exact x
 |set S n=>exact x
 |own z=>exact x
 |xd fs=>exact x
 |rng lo hi=>exact x
 |tbl ps=>exact x
 |met f z=>exact x
 |ext φ=>exact x
section
variable {X:Cx}{pins:List (Addr×Obj)}{σ:St}{H H':Hp}{s s':Shared}
theorem Inv.less (hp:∀a o,H a=some o→YAo o=true) (I:Inv X pins σ H s) (I':Inv X pins σ H' s') (sm:YL H H'):Inv X pins σ H s':=
 ⟨I.ok,I'.os,I'.bare,⟨I'.base.keep,I'.base.slot,I.base.free,I'.base.there,I.base.tups,I.base.frzs,I.base.tbls⟩,I'.loc,I'.cell,I.free,I.freeC,fun p hpp=>⟨(I'.pin p hpp).1,(I.pin p hpp).2⟩,
  fun a o ea=>(I'.hok a o (sm a o ea)).less (hp a o ea) (I.hok a o ea),I.len⟩
def YS (H:Hp):Prop:=∀a o,H a=some o→YAo o=true
theorem YS.upd {H:Hp}{a:Addr}{o:HO} (h:YS H) (ho:YAo o=true):YS (upd H a o):=fun b u e=>by
 by_cases hb:b=a
 ·subst hb;rw[YD]at e;cases e;exact ho
 ·rw[YH hb]at e;exact h b u e
inductive YIf (t:TE) (σ:St) (H:Hp) (Q:VK):Prop where
 |mk (h0_:YS H) (h1_:t σ H fun v H'=>YL H H'∧Q v H):YIf t σ H Q
def tPure (t:TE):TE:=fun σ H Q=>YIf t σ H Q
theorem YA5 {e:Expr}{t:TE} (h:PE X e t):PE X e (tPure t):=by
 intro pins s σ H Q I ⟨hp,hw⟩;exact thn (h pins s σ H _ I hw) fun v s1 ⟨x,H1,I1,r1,sm,q⟩=>⟨x,H,I.less hp I1 sm,r1,q⟩
end
end L2
namespace L2
open PySem PySem.Spec PyProof.Rows
section
variable {prog:Program}{w:World}{A:Around}{E:Value→Shared→Prop}{s:Shared}{K:W.Frag}{e C:Addr}
end
section
variable {X:Cx}
end
end L2
namespace L2
open PySem PySem.Spec PyProof.Rows
section
variable {X:Cx} (K:W.Frag) (hK:X.K=K)
include hK
theorem YY:IxR X (rIxL K):=by subst hK;exact ix_list
theorem Ya:IxR X (rIxT K):=by subst hK;exact ix_tup
theorem Je:SlR X (rSlL K):=by subst hK;exact sl_list
theorem YT:Zl X (.builtin "len") (fun xs H Q=>∃p ys,xs=[.ref p]∧(SqL K H p ys∨SqT K H p ys)∧Q (.int ys.length) H):=by subst hK;exact YD5
theorem YAk:Zl X (.type "list") (fun xs H Q=>∃p ys,xs=[.ref p]∧(SqL K H p ys∨SqT K H p ys)∧∀l,H l=none→Q (.ref l) (upd H l (.lst ys))):=by subst hK;exact YD6
theorem YAE:Zl X (.type "tuple") (fun xs H Q=>∃p ys,xs=[.ref p]∧((SqL K H p ys∧∀l,H l=none→Q (.ref l) (upd H l (.tup ys)))∨(SqT K H p ys∧Q (.ref p) H))):=by subst hK;exact YCp
theorem XX (hc:X.calm=true):Zl X (.builtin "all") (fun xs H Q=>∃(p:Addr) (bs:List Bool),xs=[.ref p]∧SqL K H p (bs.map V.bl)∧Q (.bl (bs.all id)) H):=by subst hK;exact YIe hc
theorem ZJ:Zl X (.builtin "isinstance") (fun xs H Q=>∃x c t u b,xs=[x,c]∧YAg K H x t∧clsV c=some u∧PySem.W.kitOne K t u=some b∧Q (.bl b) H):=by subst hK;exact YEs
theorem JA {tg l:Expr}{tl:TE} (hl:PE X l tl):PI X tg l (iList K tl):=by subst hK;exact pi_list hl
theorem YA6 {tg l:Expr}{tl:TE} (hl:PE X l tl):PI X tg l (iTup K tl):=by subst hK;exact pi_tup hl
theorem Jq {es:List Expr}{k:Nat}{t:TGs}{n:Nat}{pos:Pos} (hc:X.calm=true) (h:PGs X es t)
  (hn:(assignEach es X.env).length=n:=by rfl) (hst:(assignEach es X.env).findIdx? (·.1)=none:=by rfl):PG X (.Tuple es k pos) (gTup K n t):=by subst hK;exact pg_tup hc h hn hst
variable {o e:Expr}{es:List Expr}{to:TE}{t:TA}{name:Str}{apos cpos:Pos}{T id:String}{r:V→List V→Hp→VK→Prop}
theorem pe_bm0K (pa:PlainAttrs T) (slot:Slot T name id) (hty:typeOf (.builtin id)=pure (.type "method_descriptor")) (hm:MtR X id r) (ho:PE X o to)
  (hbase:attributeBase o name X.env (eval o X.env)=eval o X.env:=by rfl) (hline:(apos.endLine == cpos.line)=true:=by rfl):PE X (.Call (.Attribute o name apos) [] [] cpos) (tBM0 K T r to):=by
 subst hK;exact pe_bm0 pa slot hty hm ho hbase hline
theorem JB (pa:PlainAttrs T) (slot:Slot T name id) (hty:typeOf (.builtin id)=pure (.type "method_descriptor")) (hm:MtR X id r) (ho:PE X o to) (ha:PA X (e :: es) t)
  (hbase:attributeBase o name X.env (eval o X.env)=eval o X.env:=by rfl)
  (hfew:((backTo cpos (starEach (e :: es) X.env)).all (fun x=>!x.1) && (backToKw cpos (keywordEach [] X.env)).all (fun x=>x.1.isSome)
   && decide ((e :: es).length + ([]:List Keyword).length + (if ([]:List Keyword).isEmpty then 0 else 1) < 30))=true:=by rfl)
  (hline:(apos.endLine == cpos.line)=true:=by rfl) (hs:starEach (e :: es) X.env=(false,eval e X.env) :: starEach es X.env:=by rfl) (hplain:(backTo cpos (starEach es X.env)).any (·.1)=false:=by rfl):
  PE X (.Call (.Attribute o name apos) (e :: es) [] cpos) (tBM K T r to t):=by
 subst hK;exact pe_bm pa slot hty hm ho ha hbase hfew hline hs hplain
end
end L2
namespace L2
open PySem PySem.Spec PyProof.Rows
section
variable {P:Program}{w:World}{K:W.Frag}{mg:Str→Option Value}{base:Heap}
theorem Fun.okX {x qual:Str}{st:Stmt}{f:Addr}{fd:FuncData}{N ps:List Str}{k:Nat}{sp:Sp} (F:Fun K x qual st f fd) (S:YV N ps (YJ st)) (len:∀vs H Q E,sp vs H Q E→vs.length=ps.length)
  (hbody:∀(cdv:Value) (A:Around) (outer:List Env) (s:Shared) (H:Hp) (vs:List V) (Q:VK) (E:XK),Jb k (A.deeper (envOfC qual (YJ st) s.heap.objs.size f cdv))→sp vs H Q E→
   ∃t,PSs (YBP (CXo P w) P w K mg base N qual (YJ st) f cdv A outer s H E) (Zs st) t∧t { nx:=fun _ H'=>Q .non H',rt:=Q } (start N vs) H):Yr P w K mg base (CXo P w) (k + 1) f fd ps sp:=by
 obtain⟨oc,od,kV,doc,pm,an,cdv,ct,osl,rfl,lk,hcd⟩:=F.ex;exact fn_of lk hcd S len fun A outer s H vs Q E hr hsp=>hbody cdv A outer s H vs Q E hr hsp
end
structure ZO (P:Program) (w:World) (K:W.Frag) (mg:Str→Option Value) (CX:CXT) (k:Nat) (x:Str) (ps:List Str) (sp:Sp):Prop where
 ok:∃f fd,(∀base,Yr P w K mg base CX k f fd ps sp)∧mg x=some (.ref f)∧PySem.W.keepIn K (.ref f)=true∧Xz K fd ps []
theorem passX {X:Cx}:Xi (CXo X.prog X.w) X E0:=fun _ _ _ _ _ _ _ ⟨_,_,_,_,_,h⟩=>h.elim
theorem YL.upd {H:Hp}{p:Addr}{o:HO} (h:H p=none):YL H (upd H p o):=fun b u e=>by rw[YH (YR e h)];exact e
theorem YL.put {H H':Hp}{p:Addr}{o:HO} (s:YL H H') (h:H p=none):YL H (L2.upd H' p o):=fun b u e=>by rw[YH (YR e h)];exact s b u e
def del (H:Hp) (l:Addr):Hp:=fun b=>if b=l then none else H b
theorem YAF {H:Hp}{l b:Addr} (h:b≠l):del H l b=H b:=if_neg h
theorem YCJ {H:Hp}{l:Addr}:del H l l=none:=if_pos rfl
theorem Zy (H:Hp) (l:Addr):YL (del H l) H:=fun b o e=>by
 unfold del at e;split at e
 ·cases e
 ·exact e
theorem YL.del {H H':Hp} (s:YL H H') (l:Addr):YL (L2.del H l) (L2.del H' l):=fun b o e=>by
 unfold L2.del at e ⊢;split at e
 ·cases e
 ·rw[if_neg (by assumption)];exact s b o e
theorem Xk {H:Hp}{l:Addr}{o:HO}:L2.del (L2.upd H l o) l=L2.del H l:=by
 funext b;unfold L2.del L2.upd;split <;> rfl
theorem YGk {J:It}{g:TG}{tc:TT}{te:TE}{Q:VK}{l:Addr}{τ:St}{H1:Hp} (n:Nat) (W:Nat→List V→St→Hp→Prop) (h0:W 0 [] τ (upd H1 l (.lst [])))
  (hgo:∀i ys τ H (N:List V→St→Hp→Prop),i < n→W i ys τ H→(∀ys τ H,W (i + 1) ys τ H→N ys τ H)→J.go i H∧∀x H3,J.yld i H x H3→g x τ H3 fun τ4 H4=>tc τ4 H4 fun b H5=>
   if b=true then te τ4 H5 fun y H6=>H6 l=some (.lst ys)∧ys.length < sizeLine∧N (ys ++ [y]) τ4 (upd H6 l (.lst (ys ++ [y]))) else N ys τ4 H5)
  (hst:∀ys τ H,W n ys τ H→J.stop n H∧Q (.ref l) H):YAn J g tc te Q l τ H1:=by
 refine⟨fun i m ys τ H=>m=n - i∧i≤n∧W i ys τ H,⟨n,by simp,YJw _,h0⟩,?_⟩;rintro i m ys τ H ⟨rfl,hi,w⟩
 by_cases hlt:i < n
 ·exact .inr (hgo i ys τ H (fun ys τ H=>∃m',m' < n - i∧m'=n - (i + 1)∧i + 1≤n∧W (i + 1) ys τ H) hlt w fun ys τ H h=>⟨n - (i + 1),by lia,rfl,hlt,h⟩)
 ·have ei:i=n:=by lia
  subst ei;exact .inl (hst ys τ H w)
def YAp (J:It) (n:Nat) (H:Hp) (item:Nat→V→Prop):Prop:=∀i H',YL H H'→(i < n→J.go i H'∧∀x H3,J.yld i H' x H3→H3=H'∧item i x)∧J.stop n H'
theorem YAq {K:W.Frag}{a:Addr}{xs:List V}{H:Hp} (h:SqL K H a xs):YAp (Itl K a) xs.length H fun i x=>xs[i]?=some x:=fun i H' s=>by
 have h':=s.seq h;exact⟨fun hi=>⟨⟨xs,xs[i],h',by simp[hi]⟩,fun x H3 y=>⟨y.1,y.2 xs h'⟩⟩,⟨xs,h',YJP _⟩⟩
theorem YL.seqT {K:W.Frag}{H H':Hp}{a:Addr}{xs:List V} (e:YL H H') (h:SqT K H a xs):SqT K H' a xs:=by
 rcases h with (h |⟨o,h⟩) |h
 ·exact .inl (.inl (e _ _ h))
 ·exact .inl (.inr ⟨o,e _ _ h⟩)
 ·exact .inr h
theorem YDR {K:W.Frag}{a:Addr}{xs:List V}{H:Hp} (h:SqT K H a xs):YAp (Itt K a) xs.length H fun i x=>xs[i]?=some x:=fun i H' s=>by
 have h':=s.seqT h;exact⟨fun hi=>⟨⟨xs,xs[i],h',by simp[hi]⟩,fun x H3 y=>⟨y.1,y.2 xs h'⟩⟩,⟨xs,h',YJP _⟩⟩
theorem Z6 {lo:Int}{n:Nat}{H:Hp}:YAp (Itr lo n) n H fun i x=>x=.int (lo + i):=fun i H' s=>
 ⟨fun hi=>⟨hi,fun x H3 y=>y⟩,YJP _⟩
theorem ZX {J:It}{n:Nat}{item:Nat→V→Prop}{te:TE}{Q:VK}{H:Hp}{l:Addr}{τ:St} (j0:Nat) (Py:Nat→V→Hp→Prop) (hJ:YAp J n H item) (mono:∀k y H H',YL H H'→Py k y H→Py k y H') (hp:YS H)
  (hl:H l=none) (hτ:j0 < τ.length) (hz:n≤sizeLine) (keep:St→Prop) (hk0:keep τ) (hks:∀τ' v,keep τ'→keep (τ'.set j0 v))
  (ht:∀(τ':St) (k:Nat) (x:V) (H':Hp) (R:VK),keep τ'→τ'[j0]?=some (some x)→item k x→k < n→YL H H'→YS H'→H' l≠none→(∀y H6,YL H' H6→YS H6→Py k y (del H6 l)→R y H6)→te τ' H' R)
  (hq:∀ys H',ys.length=n→(∀k y,ys[k]?=some y→Py k y (del H' l))→YL H H'→YS H'→H' l=some (.lst ys)→Q (.ref l) H'):YAn J (YDA j0) tYes te Q l τ H:=by
 refine⟨fun i m ys τ' H2=>m=n - i∧i≤n∧ys.length=i∧(∀k y,ys[k]?=some y→Py k y (del H2 l))∧j0 < τ'.length∧keep τ'∧YL H H2∧YS H2∧H2 l=some (.lst ys),
  ⟨n,by simp,YJw _,rfl,fun k y e=>by simp at e,hτ,hk0,YL.upd hl,hp.upd rfl,YD⟩,?_⟩
 rintro i m ys τ' H2 ⟨rfl,hi,hy,hP,hτ',hk',hs,hpl,hll⟩;obtain⟨hgo,hst⟩:=hJ i H2 hs
 by_cases hlt:i < n
 ·obtain⟨h1,h2⟩:=hgo hlt;refine .inr ⟨h1,fun x H3 hyl=>?_⟩;obtain⟨eH,hit⟩:=h2 x H3 hyl;subst eH;show te _ _ _;refine ht _ i x _ _ (hks _ _ hk') ?_ hit hlt hs hpl (by rw[hll];intro z;cases z) fun y H6 s6 p6 py=>?_
  ·rw[YKi hτ']
  ·have hl6:H6 l=some (.lst ys):=s6 _ _ hll;refine⟨hl6,by lia,n - (i + 1),by lia,rfl,hlt,by simp[hy],fun k z e=>?_,by rw[YKf];exact hτ',hks _ _ hk',(hs.trans s6).put hl,p6.upd rfl,YD⟩;rw[Xk]
   by_cases hkl:k < ys.length
   ·rw[YJ5 hkl]at e;exact mono k z _ _ (s6.del l) (hP k z e)
   ·rw[YJ2 (by lia)]at e;have hk0:k - ys.length=0:=by
     cases hh:k - ys.length with
     |zero=>rfl
     |succ j=>rw[hh]at e;simp at e
    rw[hk0]at e;have e2:y=z:=by simpa using e
    have e3:k=i:=by lia
    subst e2 e3;exact py
 ·have ei:i=n:=by lia
  subst ei;exact .inl ⟨hst,hq ys H2 hy hP hs hpl hll⟩
end L2
namespace L2
open PySem PySem.Spec PyProof.Rows
inductive D where
 |non |bl (b:Bool) |int (i:Int) |str (x:Str) |lst (xs:List D) |tup (xs:List D) |oth
mutual
def eqD:D→D→Bool
 |.non,.non=>true
 |.bl a,.bl b=>a == b
 |.bl a,.int b=>(if a then (1:Int) else 0) == b
 |.int a,.bl b=>a == (if b then (1:Int) else 0)
 |.int a,.int b=>a == b
 |.str a,.str b=>a == b
 |.lst xs,.lst ys=>YAr xs ys
 |.tup xs,.tup ys=>YAr xs ys
 |_,_=>false
def YAr:List D→List D→Bool
 |[],[]=>true
 |x :: xs,y :: ys=>eqD x y && YAr xs ys
 |_,_=>false
end
mutual
def D.dep:D→Nat
 |.lst xs=>depS xs + 1
 |.tup xs=>depS xs + 1
 |_=>0
def depS:List D→Nat
 |[]=>0
 |x :: xs=>max x.dep (depS xs)
end
mutual
def Den (H:Hp):V→D→Prop
 |v,.non=>v=.non
 |v,.bl b=>v=.bl b
 |v,.int i=>v=.int i
 |v,.str x=>v=.str x
 |v,.lst ds=>∃a xs,v=.ref a∧Rd H a (.lst xs)∧Yd H xs ds
 |v,.tup ds=>∃a xs,v=.ref a∧H a=some (.tup xs)∧Yd H xs ds
 |v,.oth=>∃a kvs,v=.ref a∧H a=some (.dK kvs)
def Yd (H:Hp):List V→List D→Prop
 |[],[]=>True
 |v :: vs,d :: ds=>Den H v d∧Yd H vs ds
 |_,_=>False
end
mutual
def D.ok:D→Bool
 |.lst xs=>okS xs
 |.tup xs=>okS xs
 |.oth=>false
 |_=>true
def okS:List D→Bool
 |[]=>true
 |x :: xs=>x.ok && okS xs
end
theorem YA7:∀{xs:List D}{d:D},okS xs=true→d∈xs→d.ok=true
 |x :: xs,d,h,hd=>by
  unfold okS at h;rw[YJe]at h;rcases YJg.mp hd with rfl |hd
  ·exact h.1
  ·exact YA7 h.2 hd
theorem YEA:∀{xs:List D}{d:D},d∈xs→d.dep≤depS xs
 |x :: xs,d,h=>by
  unfold depS;rcases YJg.mp h with rfl |h
  ·exact Nat.le_max_left _ _
  ·exact YJt (YEA h) (Nat.le_max_right _ _)
mutual
theorem YCK:∀d:D,d.ok=true→eqD d d=true
 |.non,_=>by unfold eqD;rfl
 |.bl b,_=>by unfold eqD;exact beq_self_eq_true b
 |.int i,_=>by unfold eqD;exact beq_self_eq_true i
 |.str x,_=>by unfold eqD;exact beq_self_eq_true x
 |.lst xs,h=>by unfold eqD;unfold D.ok at h;exact YBT xs h
 |.tup xs,h=>by unfold eqD;unfold D.ok at h;exact YBT xs h
 |.oth,h=>by unfold D.ok at h;cases h
theorem YBT:∀ds:List D,okS ds=true→YAr ds ds=true
 |[],_=>by unfold YAr;rfl
 |d :: ds,h=>by
  unfold okS at h;rw[YJe]at h;unfold YAr;rw[YCK d h.1,YBT ds h.2];rfl
end
theorem eqD_lst (xs ys:List D):eqD (.lst xs) (.lst ys)=YAr xs ys:=by unfold eqD;rfl
theorem eqD_tup (xs ys:List D):eqD (.tup xs) (.tup ys)=YAr xs ys:=by unfold eqD;rfl
theorem YCL:∀{xs ys:List D},xs.length≠ys.length→YAr xs ys=false
 |[],[],h=>absurd rfl h
 |[],_ :: _,_=>by unfold YAr;rfl
 |_ :: _,[],_=>by unfold YAr;rfl
 |x :: xs,y :: ys,h=>by
  unfold YAr;rw[YCL (xs:=xs) (ys:=ys) fun e=>h (by rw[YJn,YJn,e]),Bool.and_false]
theorem YCM:∀{xs ys:List D},xs.length=ys.length→YAr xs ys=(List.range xs.length).all fun j=>eqD (xs.getD j .non) (ys.getD j .non)
 |[],[],_=>by unfold YAr;rfl
 |[],_ :: _,h=>by cases h
 |_ :: _,[],h=>by cases h
 |x :: xs,y :: ys,h=>by
  unfold YAr;rw[YCM (xs:=xs) (ys:=ys) (Nat.succ.inj h),YJn,List.range_succ_eq_map,YKl,List.all_map];rfl
section
variable {H H':Hp}
theorem Yd.len:∀{xs:List V}{ds:List D},Yd H xs ds→xs.length=ds.length
 |[],[],_=>rfl
 |[],_ :: _,h=>by unfold Yd at h;exact h.elim
 |_ :: _,[],h=>by unfold Yd at h;exact h.elim
 |v :: vs,d :: ds,h=>by
  unfold Yd at h;rw[YJn,YJn,Yd.len h.2]
theorem Yd.get:∀{xs:List V}{ds:List D}{i:Nat}{v:V},Yd H xs ds→xs[i]?=some v→∃d,ds[i]?=some d∧Den H v d
 |[],_,i,v,_,e=>by simp at e
 |_ :: _,[],_,_,h,_=>by unfold Yd at h;exact h.elim
 |x :: xs,d :: ds,0,v,h,e=>by
  unfold Yd at h;simp at e;subst e;exact⟨d,rfl,h.1⟩
 |x :: xs,d :: ds,i + 1,v,h,e=>by
  unfold Yd at h;exact Yd.get (i:=i) h.2 (by simpa using e)
theorem Yd.nil:Yd H [] []:=by unfold Yd;trivial
theorem Yd.cons {v:V}{vs:List V}{d:D}{ds:List D} (h:Den H v d) (hs:Yd H vs ds):Yd H (v :: vs) (d :: ds):=by unfold Yd;exact⟨h,hs⟩
theorem Yd.append:∀{xs ys:List V}{ds es:List D},Yd H xs ds→Yd H ys es→Yd H (xs ++ ys) (ds ++ es)
 |[],_,[],_,_,h=>h
 |[],_,_ :: _,_,h,_=>by unfold Yd at h;exact h.elim
 |_ :: _,_,[],_,h,_=>by unfold Yd at h;exact h.elim
 |x :: xs,ys,d :: ds,es,h,h2=>by
  unfold Yd at h;exact .cons h.1 (Yd.append h.2 h2)
theorem Yd.of_all:∀{xs:List V}{ds:List D},xs.length=ds.length→(∀(i:Nat) (v:V) (d:D),xs[i]?=some v→ds[i]?=some d→Den H v d)→Yd H xs ds
 |[],[],_,_=>.nil
 |[],_ :: _,h,_=>by cases h
 |_ :: _,[],h,_=>by cases h
 |x :: xs,d :: ds,h,k=>.cons (k 0 x d rfl rfl) (Yd.of_all (Nat.succ.inj h) fun i v e h1 h2=>k (i + 1) v e (by simpa using h1) (by simpa using h2))
theorem Yd.drop {xs:List V}{ds:List D} (h:Yd H xs ds) (n:Nat):Yd H (xs.drop n) (ds.drop n):=by
 have hl:=h.len;refine .of_all (by rw[YKT,YKT,hl]) fun i v d h1 h2=>?_
 rw[List.getElem?_drop]at h1 h2;obtain⟨e,he,hd⟩:=h.get h1;rw[h2]at he;cases he;exact hd
theorem Den.lst {a:Addr}{xs:List V}{ds:List D} (h:Rd H a (.lst xs)) (hs:Yd H xs ds):Den H (.ref a) (.lst ds):=by unfold Den;exact⟨a,xs,rfl,h,hs⟩
theorem Den.tup {a:Addr}{xs:List V}{ds:List D} (h:H a=some (.tup xs)) (hs:Yd H xs ds):Den H (.ref a) (.tup ds):=by unfold Den;exact⟨a,xs,rfl,h,hs⟩
theorem Den.int (i:Int):Den H (.int i) (.int i):=by unfold Den;rfl
theorem Den.str (x:Str):Den H (.str x) (.str x):=by unfold Den;rfl
theorem Den.non:Den H .non .non:=by unfold Den;rfl
theorem Den.to_lst {v:V}{ds:List D} (h:Den H v (.lst ds)):∃a xs,v=.ref a∧Rd H a (.lst xs)∧Yd H xs ds:=by unfold Den at h;exact h
theorem Den.to_tup {v:V}{ds:List D} (h:Den H v (.tup ds)):∃a xs,v=.ref a∧H a=some (.tup xs)∧Yd H xs ds:=by unfold Den at h;exact h
theorem Den.to_int {v:V}{i:Int} (h:Den H v (.int i)):v=.int i:=by unfold Den at h;exact h
theorem Den.to_str {v:V}{i:Str} (h:Den H v (.str i)):v=.str i:=by unfold Den at h;exact h
theorem Yd.strs:∀(ns:List Str),Yd H (ns.map V.str) (ns.map D.str)
 |[]=>.nil
 |n :: ns=>.cons (.str n) (Yd.strs ns)
theorem YL.rd {a:Addr}{u:HO} (e:YL H H') (h:Rd H a u):Rd H' a u:=by
 rcases h with h |⟨o,h⟩
 ·exact .inl (e _ _ h)
 ·exact .inr ⟨o,e _ _ h⟩
theorem Rd.inj {a:Addr}{xs ys:List V} (h:Rd H a (.lst xs)) (h':Rd H a (.lst ys)):xs=ys:=by
 rcases h with h |⟨o,h⟩ <;> rcases h' with h' |⟨o',h'⟩ <;> rw[h]at h' <;> cases h' <;> rfl
mutual
theorem Den.same (e:YL H H'):∀{v:V}{d:D},Den H v d→Den H' v d
 |_,.non,h=>by unfold Den at h ⊢;exact h
 |_,.bl _,h=>by unfold Den at h ⊢;exact h
 |_,.int _,h=>by unfold Den at h ⊢;exact h
 |_,.str _,h=>by unfold Den at h ⊢;exact h
 |_,.lst ds,h=>by
  unfold Den at h ⊢;obtain⟨a,xs,e1,e2,e3⟩:=h;exact⟨a,xs,e1,e.rd e2,Yd.same e e3⟩
 |_,.tup ds,h=>by
  unfold Den at h ⊢;obtain⟨a,xs,e1,e2,e3⟩:=h;exact⟨a,xs,e1,e _ _ e2,Yd.same e e3⟩
 |_,.oth,h=>by
  unfold Den at h ⊢;obtain⟨a,kvs,e1,e2⟩:=h;exact⟨a,kvs,e1,e _ _ e2⟩
theorem Yd.same (e:YL H H'):∀{vs:List V}{ds:List D},Yd H vs ds→Yd H' vs ds
 |[],[],h=>.nil
 |[],_ :: _,h=>by unfold Yd at h;exact h.elim
 |_ :: _,[],h=>by unfold Yd at h;exact h.elim
 |v :: vs,d :: ds,h=>by
  unfold Yd at h;exact .cons (Den.same e h.1) (Yd.same e h.2)
end
end
section
variable {X:Cx}{pins:List (Addr×Obj)}{σ:St}{H:Hp}{s:Shared}
mutual
theorem Den.uniq:∀{v:V}{d d':D},Den H v d→Den H v d'→d=d'
 |v,.non,d',h,h'=>by
  unfold Den at h;subst h;cases d' with
  |non=>rfl
  |lst es=>unfold Den at h';obtain⟨_,_,z,_⟩:=h';cases z
  |tup es=>unfold Den at h';obtain⟨_,_,z,_⟩:=h';cases z
  |oth=>unfold Den at h';obtain⟨_,_,z,_⟩:=h';cases z
  |_=>unfold Den at h';cases h'
 |v,.bl b,d',h,h'=>by
  unfold Den at h;subst h;cases d' with
  |bl c=>unfold Den at h';cases h';rfl
  |lst es=>unfold Den at h';obtain⟨_,_,z,_⟩:=h';cases z
  |tup es=>unfold Den at h';obtain⟨_,_,z,_⟩:=h';cases z
  |oth=>unfold Den at h';obtain⟨_,_,z,_⟩:=h';cases z
  |_=>unfold Den at h';cases h'
 |v,.int b,d',h,h'=>by
  unfold Den at h;subst h;cases d' with
  |int c=>unfold Den at h';cases h';rfl
  |lst es=>unfold Den at h';obtain⟨_,_,z,_⟩:=h';cases z
  |tup es=>unfold Den at h';obtain⟨_,_,z,_⟩:=h';cases z
  |oth=>unfold Den at h';obtain⟨_,_,z,_⟩:=h';cases z
  |_=>unfold Den at h';cases h'
 |v,.str b,d',h,h'=>by
  unfold Den at h;subst h;cases d' with
  |str c=>unfold Den at h';cases h';rfl
  |lst es=>unfold Den at h';obtain⟨_,_,z,_⟩:=h';cases z
  |tup es=>unfold Den at h';obtain⟨_,_,z,_⟩:=h';cases z
  |oth=>unfold Den at h';obtain⟨_,_,z,_⟩:=h';cases z
  |_=>unfold Den at h';cases h'
 |v,.lst ds,d',h,h'=>by
  obtain⟨a,xs,rfl,e2,e3⟩:=h.to_lst;cases d' with
  |lst es=>
   obtain⟨b,ys,z,f2,f3⟩:=h'.to_lst;cases z;have:=e2.inj f2;subst this;rw[Yd.uniq e3 f3]
  |tup es=>
   obtain⟨b,ys,z,f2,f3⟩:=h'.to_tup;cases z;rcases e2 with e2 |⟨o,e2⟩ <;> rw[e2]at f2 <;> cases f2
  |oth=>
   unfold Den at h';obtain⟨b,ys,z,f2⟩:=h';cases z;rcases e2 with e2 |⟨o,e2⟩ <;> rw[e2]at f2 <;> cases f2
  |_=>unfold Den at h';cases h'
 |v,.tup ds,d',h,h'=>by
  obtain⟨a,xs,rfl,e2,e3⟩:=h.to_tup;cases d' with
  |tup es=>
   obtain⟨b,ys,z,f2,f3⟩:=h'.to_tup;cases z;rw[e2]at f2;cases f2;rw[Yd.uniq e3 f3]
  |lst es=>
   obtain⟨b,ys,z,f2,f3⟩:=h'.to_lst;cases z;rcases f2 with f2 |⟨o,f2⟩ <;> rw[e2]at f2 <;> cases f2
  |oth=>
   unfold Den at h';obtain⟨b,ys,z,f2⟩:=h';cases z;rw[e2]at f2;cases f2
  |_=>unfold Den at h';cases h'
 |v,.oth,d',h,h'=>by
  unfold Den at h;obtain⟨a,kvs,rfl,e2⟩:=h;cases d' with
  |oth=>rfl
  |lst es=>
   obtain⟨b,ys,z,f2,f3⟩:=h'.to_lst;cases z;rcases f2 with f2 |⟨o,f2⟩ <;> rw[e2]at f2 <;> cases f2
  |tup es=>
   obtain⟨b,ys,z,f2,f3⟩:=h'.to_tup;cases z;rw[e2]at f2;cases f2
  |_=>unfold Den at h';cases h'
theorem Yd.uniq:∀{vs:List V}{ds es:List D},Yd H vs ds→Yd H vs es→ds=es
 |[],[],[],_,_=>rfl
 |[],_ :: _,_,h,_=>by unfold Yd at h;exact h.elim
 |[],_,_ :: _,_,h=>by unfold Yd at h;exact h.elim
 |_ :: _,[],_,h,_=>by unfold Yd at h;exact h.elim
 |_ :: _,_,[],_,h=>by unfold Yd at h;exact h.elim
 |v :: vs,d :: ds,e :: es,h,h'=>by
  unfold Yd at h h';rw[Den.uniq h.1 h'.1,Yd.uniq h.2 h'.2]
end
def tyD:D→String
 |.non=>"NoneType"
 |.bl _=>"bool"
 |.int _=>"int"
 |.str _=>"str"
 |.lst _=>"list"
 |.tup _=>"tuple"
 |.oth=>"dict"
theorem Den.ty {K:W.Frag}:∀{v:V}{d:D},Den H v d→YAg K H v (.type (tyD d))
 |_,.non,h=>by unfold Den at h;subst h;exact .non
 |_,.bl b,h=>by unfold Den at h;subst h;exact .bl b
 |_,.int b,h=>by unfold Den at h;subst h;exact .int b
 |_,.str b,h=>by unfold Den at h;subst h;exact .str b
 |_,.lst ds,h=>by
  obtain⟨a,xs,rfl,e2 |⟨o,e2⟩,_⟩:=h.to_lst
  ·exact .lst e2
  ·exact .frz e2
 |_,.tup ds,h=>by
  obtain⟨a,xs,rfl,e2,_⟩:=h.to_tup;exact .tup e2
 |_,.oth,h=>by
  unfold Den at h;obtain⟨a,kvs,rfl,e2⟩:=h;exact .dK e2
theorem YGl {ds:List D}{i:Nat}{d:D} (h:ds[i]?=some d):ds.getD i .non=d:=by
 rw[List.getD_eq_getElem?_getD,h];rfl
structure Cmp (A:Around) (s:Shared) (x y:Value) (b:Bool):Prop where
 eq:SeqAt.EqAt A s x y b
 rc:SeqAt.RcAt A s x y b
 ne:SeqAt.RcNeAt A s x y (!b)
theorem YGm {A:Around}{xs ys:List V}{ds es:List D}{its its2:List Value} (h1:Yd H xs ds) (h2:Yd H ys es) (r1:Ye xs its) (r2:Ye ys its2)
  (ih:∀(d d':D) (v u:V) (x y:Value),d∈ds→d'∈es→Den H v d→Den H u d'→Yk v x→Yk u y→SeqAt.EqAt A s x y (eqD d d')):
  ∀j (q1:j < its.toArray.size) (q2:j < its2.toArray.size),SeqAt.EqAt A s its.toArray[j] its2.toArray[j] (eqD (ds.getD j .non) (es.getD j .non)):=by
 intro j q1 q2;have l1:=r1.length;have l2:=r2.length;have q1':j < xs.length:=by rw[l1];simpa using q1
 have q2':j < ys.length:=by rw[l2];simpa using q2
 obtain⟨d,hd,den⟩:=h1.get (i:=j) (YJR q1');obtain⟨d',hd',den'⟩:=h2.get (i:=j) (YJR q2');obtain⟨u,hu,ru⟩:=r1.get (YJR q1');obtain⟨u',hu',ru'⟩:=r2.get (YJR q2');rw[YGl hd,YGl hd'];have e1:its.toArray[j]=u:=by
  have:its.toArray[j]?=some u:=by simpa using hu
  rw[YKZ q1]at this;exact YJk this
 have e2:its2.toArray[j]=u':=by
  have:its2.toArray[j]?=some u':=by simpa using hu'
  rw[YKZ q2]at this;exact YJk this
 rw[e1,e2];exact ih d d' _ _ _ _ (YJS hd) (YJS hd') den den' ru ru'
theorem YAG {A:Around}{a b:Addr}{d d':D}{k:Bool} (hk:k=eqD d d') (hok:d.ok=true) (h1:Den H (.ref a) d) (h2:Den H (.ref b) d') (rc:SeqAt.RcAt A s (.ref a) (.ref b) k) (ne:SeqAt.RcNeAt A s (.ref a) (.ref b) (!k)):Cmp A s (.ref a) (.ref b) (eqD d d'):=by
 subst hk;refine⟨?_,rc,ne⟩
 by_cases hab:a=b
 ·subst hab;have:=h1.uniq h2;subst this;rw[YCK _ hok];exact .same _
 ·exact .of_refs hab rc
theorem cmp_D (I:Inv X pins σ H s):∀(n:Nat) (A:Around) (d d':D) (v u:V) (x y:Value),d.ok=true→d'.ok=true→d.dep≤n→A.units + n < cLine→Den H v d→Den H u d'→Yk v x→Yk u y→Cmp A s x y (eqD d d'):=by
 intro n
 induction n with
 |zero=>
  intro A d d' v u x y hok hok' hn hu h h' r r';have hu':A.units < cLine:=by lia
  cases d with
  |lst ds=>unfold D.dep at hn;lia
  |tup ds=>unfold D.dep at hn;lia
  |oth=>unfold D.ok at hok;cases hok
  |non=>
   unfold Den at h;subst h;cases r;cases d' with
   |non=>unfold Den at h';subst h';cases r';unfold eqD;exact⟨.same _,.none_none,.none_none⟩
   |bl b=>unfold Den at h';subst h';cases r';unfold eqD;exact⟨.none_bool _,.none_bool _,.none_bool _⟩
   |int b=>unfold Den at h';subst h';obtain⟨t,rfl⟩:=r';unfold eqD;exact⟨.none_int _ _,.none_int _ _,.none_int _ _⟩
   |str b=>unfold Den at h';subst h';obtain⟨t,rfl⟩:=r';unfold eqD;exact⟨.none_str _ _,.none_str _ _,.none_str _ _⟩
   |lst ds=>obtain⟨a,xs,rfl,e2,_⟩:=h'.to_lst;cases r';obtain⟨_,_,p,_⟩:=I.list (.inl e2);unfold eqD;exact⟨.none_list p.isList hu',.none_list p.isList hu',.none_list p.isList hu'⟩
   |tup ds=>obtain⟨a,xs,rfl,e2,_⟩:=h'.to_tup;cases r';obtain⟨_,_,p,_⟩:=I.tuple (.inl (.inl e2));unfold eqD;exact⟨.none_tuple p hu',.none_tuple p hu',.none_tuple p hu'⟩
   |oth=>unfold D.ok at hok';cases hok'
  |bl c=>
   unfold Den at h;subst h;cases r;cases d' with
   |non=>unfold Den at h';subst h';cases r';unfold eqD;exact⟨.bool_none _,.bool_none _,.bool_none _⟩
   |bl b=>unfold Den at h';subst h';cases r';unfold eqD;exact⟨.bool_bool _ _,.bool_bool _ _,.bool_bool _ _⟩
   |int b=>unfold Den at h';subst h';obtain⟨t,rfl⟩:=r';unfold eqD;exact⟨.bool_int _ _ _,.bool_int _ _ _,.bool_int _ _ _⟩
   |str b=>unfold Den at h';subst h';obtain⟨t,rfl⟩:=r';unfold eqD;exact⟨.bool_str _ _ _,.bool_str _ _ _,.bool_str _ _ _⟩
   |lst ds=>obtain⟨a,xs,rfl,e2,_⟩:=h'.to_lst;cases r';obtain⟨_,_,p,_⟩:=I.list (.inl e2);unfold eqD;exact⟨.bool_list _ p.isList hu',.bool_list _ p.isList hu',.bool_list _ p.isList hu'⟩
   |tup ds=>obtain⟨a,xs,rfl,e2,_⟩:=h'.to_tup;cases r';obtain⟨_,_,p,_⟩:=I.tuple (.inl (.inl e2));unfold eqD;exact⟨.bool_tuple _ p hu',.bool_tuple _ p hu',.bool_tuple _ p hu'⟩
   |oth=>unfold D.ok at hok';cases hok'
  |int c=>
   unfold Den at h;subst h;obtain⟨t,rfl⟩:=r;cases d' with
   |non=>unfold Den at h';subst h';cases r';unfold eqD;exact⟨.int_none _ _,.int_none _ _,.int_none _ _⟩
   |bl b=>unfold Den at h';subst h';cases r';unfold eqD;exact⟨.int_bool _ _ _,.int_bool _ _ _,.int_bool _ _ _⟩
   |int b=>unfold Den at h';subst h';obtain⟨t,rfl⟩:=r';unfold eqD;exact⟨.int_int _ _ _ _,.int_int _ _ _ _,.int_int _ _ _ _⟩
   |str b=>unfold Den at h';subst h';obtain⟨t,rfl⟩:=r';unfold eqD;exact⟨.int_str _ _ _ _,.int_str _ _ _ _,.int_str _ _ _ _⟩
   |lst ds=>obtain⟨a,xs,rfl,e2,_⟩:=h'.to_lst;cases r';obtain⟨_,_,p,_⟩:=I.list (.inl e2);unfold eqD;exact⟨.int_list _ _ p.isList hu',.int_list _ _ p.isList hu',.int_list _ _ p.isList hu'⟩
   |tup ds=>obtain⟨a,xs,rfl,e2,_⟩:=h'.to_tup;cases r';obtain⟨_,_,p,_⟩:=I.tuple (.inl (.inl e2));unfold eqD;exact⟨.int_tuple _ _ p hu',.int_tuple _ _ p hu',.int_tuple _ _ p hu'⟩
   |oth=>unfold D.ok at hok';cases hok'
  |str c=>
   unfold Den at h;subst h;obtain⟨t,rfl⟩:=r;cases d' with
   |non=>unfold Den at h';subst h';cases r';unfold eqD;exact⟨.str_none _ _,.str_none _ _,.str_none _ _⟩
   |bl b=>unfold Den at h';subst h';cases r';unfold eqD;exact⟨.str_bool _ _ _,.str_bool _ _ _,.str_bool _ _ _⟩
   |int b=>unfold Den at h';subst h';obtain⟨t,rfl⟩:=r';unfold eqD;exact⟨.str_int _ _ _ _,.str_int _ _ _ _,.str_int _ _ _ _⟩
   |str b=>unfold Den at h';subst h';obtain⟨t,rfl⟩:=r';unfold eqD;exact⟨.str_str _ _ _ _,.str_str _ _ _ _,.str_str _ _ _ _⟩
   |lst ds=>obtain⟨a,xs,rfl,e2,_⟩:=h'.to_lst;cases r';obtain⟨_,_,p,_⟩:=I.list (.inl e2);unfold eqD;exact⟨.str_list _ _ p.isList hu',.str_list _ _ p.isList hu',.str_list _ _ p.isList hu'⟩
   |tup ds=>obtain⟨a,xs,rfl,e2,_⟩:=h'.to_tup;cases r';obtain⟨_,_,p,_⟩:=I.tuple (.inl (.inl e2));unfold eqD;exact⟨.str_tuple _ _ p hu',.str_tuple _ _ p hu',.str_tuple _ _ p hu'⟩
   |oth=>unfold D.ok at hok';cases hok'
 |succ n ih=>
  intro A d d' v u x y hok hok' hn hu h h' r r';have hu':A.units < cLine:=by lia
  have hin:A.in1.units + n < cLine:=by show A.units + 1 + n < cLine;lia
  cases d with
  |lst ds=>
   have hn':∀d∈ds,d.dep≤n:=fun d hd=>by
    have h1:=YEA hd;unfold D.dep at hn
    lia
   obtain⟨a,xs,rfl,e2,e3⟩:=h.to_lst;cases r;obtain⟨its,r1,p,_⟩:=I.list (.inl e2);cases d' with
   |oth=>unfold D.ok at hok';cases hok'
   |non=>unfold Den at h';subst h';cases r';unfold eqD;exact⟨.list_none p.isList hu',.list_none p.isList hu',.list_none p.isList hu'⟩
   |bl b=>unfold Den at h';subst h';cases r';unfold eqD;exact⟨.list_bool _ p.isList hu',.list_bool _ p.isList hu',.list_bool _ p.isList hu'⟩
   |int b=>unfold Den at h';subst h';obtain⟨t,rfl⟩:=r';unfold eqD;exact⟨.list_int _ _ p.isList hu',.list_int _ _ p.isList hu',.list_int _ _ p.isList hu'⟩
   |str b=>unfold Den at h';subst h';obtain⟨t,rfl⟩:=r';unfold eqD;exact⟨.list_str _ _ p.isList hu',.list_str _ _ p.isList hu',.list_str _ _ p.isList hu'⟩
   |tup es=>obtain⟨b,ys,rfl,f2,f3⟩:=h'.to_tup;cases r';obtain⟨_,_,p2,_⟩:=I.tuple (.inl (.inl f2));unfold eqD;exact⟨.list_tuple p.isList p2 hu',.list_tuple p.isList p2 hu',.list_tuple p.isList p2 hu'⟩
   |lst es=>
    have hok1:=hok;have hok2:=hok';unfold D.ok at hok1 hok2;obtain⟨b,ys,rfl,f2,f3⟩:=h'.to_lst;cases r';obtain⟨its2,r2,p2,_⟩:=I.list (.inl f2);have n1:its.toArray.size=ds.length:=by rw[YJa,←r1.length,e3.len]
    have n2:its2.toArray.size=es.length:=by rw[YJa,←r2.length,f3.len]
    by_cases hl:ds.length=es.length
    ·have items:=YGm (A:=A.in1) e3 f3 r1 r2 fun d d' v u x y hd hd' q1 q2 q3 q4=>(ih A.in1 d d' v u x y (YA7 hok1 hd) (YA7 hok2 hd') (hn' d hd) hin q1 q2 q3 q4).eq
     refine YAG (k:=(List.range its.toArray.size).all fun j=>eqD (ds.getD j .non) (es.getD j .non)) ?_ hok h h' (.lists p.isList p2.isList (by rw[n1,n2,hl]) hu' items) (.lists p.isList p2.isList (by rw[n1,n2,hl]) hu' items);rw[n1,←YCM hl,eqD_lst]
    ·refine YAG (k:=false) ?_ hok h h' (.lists_lengths p.isList p2.isList (by rw[n1,n2];simpa using hl) hu') (.lists_lengths p.isList p2.isList (by rw[n1,n2];simpa using hl) hu');unfold eqD;rw[YCL hl]
  |tup ds=>
   have hn':∀d∈ds,d.dep≤n:=fun d hd=>by
    have h1:=YEA hd;unfold D.dep at hn
    lia
   obtain⟨a,xs,rfl,e2,e3⟩:=h.to_tup;cases r;obtain⟨its,r1,p,_⟩:=I.tuple (.inl (.inl e2));cases d' with
   |oth=>unfold D.ok at hok';cases hok'
   |non=>unfold Den at h';subst h';cases r';unfold eqD;exact⟨.tuple_none p hu',.tuple_none p hu',.tuple_none p hu'⟩
   |bl b=>unfold Den at h';subst h';cases r';unfold eqD;exact⟨.tuple_bool _ p hu',.tuple_bool _ p hu',.tuple_bool _ p hu'⟩
   |int b=>unfold Den at h';subst h';obtain⟨t,rfl⟩:=r';unfold eqD;exact⟨.tuple_int _ _ p hu',.tuple_int _ _ p hu',.tuple_int _ _ p hu'⟩
   |str b=>unfold Den at h';subst h';obtain⟨t,rfl⟩:=r';unfold eqD;exact⟨.tuple_str _ _ p hu',.tuple_str _ _ p hu',.tuple_str _ _ p hu'⟩
   |lst es=>obtain⟨b,ys,rfl,f2,f3⟩:=h'.to_lst;cases r';obtain⟨_,_,p2,_⟩:=I.list (.inl f2);unfold eqD;exact⟨.tuple_list p p2.isList hu',.tuple_list p p2.isList hu',.tuple_list p p2.isList hu'⟩
   |tup es=>
    have hok1:=hok;have hok2:=hok';unfold D.ok at hok1 hok2;obtain⟨b,ys,rfl,f2,f3⟩:=h'.to_tup;cases r';obtain⟨its2,r2,p2,_⟩:=I.tuple (.inl (.inl f2));have n1:its.toArray.size=ds.length:=by rw[YJa,←r1.length,e3.len]
    have n2:its2.toArray.size=es.length:=by rw[YJa,←r2.length,f3.len]
    have items:=YGm (A:=A.in1) e3 f3 r1 r2 fun d d' v u x y hd hd' q1 q2 q3 q4=>(ih A.in1 d d' v u x y (YA7 hok1 hd) (YA7 hok2 hd') (hn' d hd) hin q1 q2 q3 q4).eq
    refine YAG (k:=(List.range (min its.toArray.size its2.toArray.size)).all (fun j=>eqD (ds.getD j .non) (es.getD j .non)) && its.toArray.size == its2.toArray.size) ?_ hok h h' (.tuples p p2 hu' items) (.tuples p p2 hu' items);rw[n1,n2,eqD_tup]
    by_cases hl:ds.length=es.length
    ·rw[YCM hl,←hl,Nat.min_self,beq_self_eq_true,Bool.and_true]
    ·rw[YCL hl,beq_eq_false_iff_ne.mpr hl,Bool.and_false]
  |oth=>unfold D.ok at hok;cases hok
  |non=>exact ih A .non d' v u x y hok hok' (by unfold D.dep;lia) (by lia) h h' r r'
  |bl b=>exact ih A (.bl b) d' v u x y hok hok' (by unfold D.dep;lia) (by lia) h h' r r'
  |int b=>exact ih A (.int b) d' v u x y hok hok' (by unfold D.dep;lia) (by lia) h h' r r'
  |str b=>exact ih A (.str b) d' v u x y hok hok' (by unfold D.dep;lia) (by lia) h h' r r'
theorem YF4 (K:W.Frag) (hK:X.K=K) (hu:X.A.units + 64 < cLine):OpR X (compareOp .NotEq) (fun x y H Q=>∃d d',Den H x d∧Den H y d'∧d.ok=true∧d'.ok=true∧d.dep≤64∧Q (.bl (!eqD d d')) H):=by
 subst hK;intro pins s σ H x y v u Q I rx ry h;obtain⟨d,d',h1,h2,k1,k2,hd,q⟩:=h;exact(cmp_D I 64 X.A d d' x y v u k1 k2 hd hu h1 h2 rx ry).ne X.prog X.w _ _ ⟨.bl _,H,I,rfl,q⟩
end
end L2
namespace L2
open PySem PySem.Spec PyProof.Rows
section
variable {X:Cx}{pins:List (Addr×Obj)}{σ:St}{H:Hp}{s:Shared}{h':Heap}
theorem Inv.turns {t':Nat}{ch:List Addr} (I:Inv X pins σ H s) (k:∀b o,b∉ch→s.heap.get? b=some o→h'.get? b=some o) (hf:∀b∈ch,X7 X pins H b):Inv X pins σ H { s with heap:=h',toks:=t' }:=by
 have nit:∀b u,H b=some u→b∉ch:=fun b u e z=>by rw[(hf b z).1]at e;cases e
 refine I.step (g':=s.gens) (d':=s.drawn) (ch:=ch) (fun b hb=>⟨(hf b hb).2.2.2.1,(hf b hb).2.1,(hf b hb).2.2.2.2.1,(hf b hb).2.2.2.2.2⟩) (fun b o _ _ hc e _=>k b o hc e) (fun b o _ _ hc e _=>⟨o.slots,k b o hc e⟩) (fun _ _ _ _ n=>n)
  (fun b o hc e=>⟨o,k b o hc e⟩) (fun _ _ e=>e) (fun _ _ _ e=>e) (fun b ps e=>⟨#[],by rw[e];simp⟩) (fun m hm=>?_) (fun b u e=>?_) I.bare
 ·obtain⟨o,es,ep,ho,r⟩:=hm;exact⟨o,es,ep,k _ o (fun z=>(hf _ z).2.1 rfl) ho,r⟩
 ·refine(I.hok b u e).stay (fun c v hc q=>k c v ?_ q) (fun _ q=>q) fun _ _ q=>q
  rcases hc with z |z
  ·rw[z];exact nit b u e
  ·exact nit c _ z
theorem Inv.trackT {T:Addr}{xs:List V}{its:List Value} (I:Inv X pins σ H s) (new:H T=none) (ht:IsTup s.heap T its.toArray) (rv:Ye xs its) (hz:xs.length≤sizeLine) (hs:∀o,X.s₀.heap.get? T≠some o) (hp:∀p∈X.pn ++ pins,p.1≠T):
  Inv X pins σ (upd H T (.tup xs)) s:=by
 obtain⟨ot,hot,hct,nt,hdt⟩:=id ht;have hL:X.env.locals≠T:=fun z=>by
  obtain⟨m,⟨o,es,ep,ho,hd',_⟩,_⟩:=I.loc;rw[z,hot]at ho;cases ho;rw[hdt]at hd';cases hd'
 have hC:∀x c,X.env.cells.lookup x=some c→c≠T:=fun x c h1 z=>by
  obtain⟨v,o,ho,hd'⟩:=I.cell x c h1;rw[z,hot]at ho;cases ho;rw[hdt]at hd';cases hd'
 refine⟨I.ok,I.os,I.bare,?_,I.loc,I.cell,by rw[YH hL];exact I.free,fun x c h1=>by rw[YH (hC x c h1)];exact I.freeC x c h1,fun p hp'=>?_,fun a o ea=>?_,I.len⟩
 ·exact⟨I.base.keep,I.base.slot,fun b o q n hx=>by rw[YH (fun z=>hs o (by rw[←z];exact q))];exact I.base.free b o q n hx,I.base.there,
   fun b xs q=>by have z:=I.base.tups b xs q;rw[YH (YR z new)];exact z,fun b ob u q=>by have z:=I.base.frzs b ob u q;rw[YH (YR z new)];exact z,
   fun b ps q=>by obtain⟨mo,z⟩:=I.base.tbls b ps q;exact⟨mo,by rw[YH (YR z new)];exact z⟩⟩
 ·obtain⟨p1,p2,p3⟩:=I.pin p hp';exact⟨p1,by rw[YH (hp p hp')];exact p2,p3⟩
 ·by_cases ha:a=T
  ·subst ha;rw[YD]at ea;cases ea;exact⟨hz,its,rv,ht⟩
  ·rw[YH ha]at ea;exact(I.hok a o ea).stay (fun _ _ _ q=>q) (fun b q=>by rw[YH (YR q new)];exact q) fun b xs q=>by rw[YH (YR q new)];exact q
end
def Ite (K:W.Frag) (a:Addr):It:=
 ⟨fun i H=>∃xs x,SqL K H a xs∧xs[i]?=some x,fun i H v H'=>∃T,H T=none∧v=.ref T∧∀xs,SqL K H a xs→∃x,xs[i]?=some x∧H'=upd H T (.tup [.int i,x]),fun i H=>∃xs,SqL K H a xs∧xs.length≤i⟩
theorem YHX {P:Program}{w:World}{K:W.Frag}{elts:List Expr}{k:Nat}{pos:Pos} (a e it:Addr):
  YCm P w K (.Tuple elts k pos) (Ite K a) [e,it] e (fun i h=>(∃old,IsEnum h e it (i:Nat) old)∧h.IsListIter it a i∧e≠it) where
 mem:=by simp
 obj:=fun i h st b hb=>by
  obtain⟨⟨old,he⟩,⟨o,eo,c,d⟩,_⟩:=st;rcases YJg.mp hb with rfl |hb
  ·exact⟨_,he,fun v z=>by cases z⟩
  ·have eb:b=it:=by simpa using hb
   subst eb;exact⟨o,eo,fun v z=>by rw[d]at z;cases z⟩
 keep:=fun i h h' st k=>by
  obtain⟨⟨old,he⟩,hit,hne⟩:=st;exact⟨⟨old,k e (by simp) _ he⟩,hit.at fun o x=>k it (by simp) o x,hne⟩
 item:=by
  intro X hP hw hK hc i pins s σ H E I hf st hg;subst hP hw hK;obtain⟨⟨old,he⟩,hit,hne⟩:=st;obtain⟨xs,x,hq,hx⟩:=hg;obtain⟨its,rv,p,hz⟩:=I.list hq;obtain⟨u,hu,ru⟩:=rv.get hx;refine wpAny_pyNext_enum_item he hit p.isList (x:=u) (by simpa using hu) hne fun h' ho hit' hT hsz hk=>?_
  refine⟨_,rfl,wpAny_letOwnedTupleGo_enum (s:={ s with heap:=h',toks:=s.toks + 1 }) ho fun h'' he' hs'=>?_⟩;have hlt:e < s.heap.objs.size:=YJX he;have hTe:s.heap.objs.size≠e:=Nat.ne_of_gt hlt;have kk:∀b o,b∉[e,it]→s.heap.get? b=some o→h''.get? b=some o:=fun b o hb q=>by
   have h1:b≠e:=fun z=>hb (by simp[z])
   have h2:b≠it:=fun z=>hb (by simp[z])
   exact(hs'.2 b h1).trans (hk b o h1 h2 q)
  have I1:Inv X pins σ H { s with heap:=h'',toks:=s.toks + 1 }:=I.turns kk hf;have hT':h''.get? s.heap.objs.size=some { cls:=.type "tuple",data:=.seq #[.int i s.toks,u] }:=(hs'.2 _ hTe).trans hT;have hfr:H s.heap.objs.size=none:=I.hok.fresh (YJP _);have I2:=I1.trackT (T:=s.heap.objs.size) (xs:=[.int i,x]) (its:=[.int i s.toks,u]) hfr ⟨_,hT',rfl,_,rfl⟩ (.cons ⟨_,rfl⟩ (.cons ru .nil)) (by show 2≤sizeLine;rw[sizeLine_eq];decide)
   (fun o q=>absurd (YJX q) (YK9.mpr I.sz)) fun p hp z=>absurd (YJX (I.pin p hp).1) (by rw[z];exact YKB _)
  refine⟨.ref s.heap.objs.size,_,I2,rfl,⟨_,hfr,rfl,fun ys hy=>⟨x,by rw[I.list_inj hy hq];exact hx,rfl⟩⟩,⟨⟨_,by simpa using he'⟩,hit'.at fun o q=>(hs'.2 it hne.symm).trans q,hne⟩,fun b hb=>?_⟩;obtain⟨o,eo,_⟩:∃o,s.heap.get? b=some o∧True:=by
   rcases YJg.mp hb with rfl |hb
   ·exact⟨_,he,trivial⟩
   ·have eb:b=it:=by simpa using hb
    subst eb;obtain⟨o,eo,_⟩:=hit;exact⟨o,eo,trivial⟩
  rw[YH (YJq (YJX eo))];exact(hf b hb).1
 done:=by
  intro X hP hw hK hc i pins s σ H E I hf st hg;subst hP hw hK;obtain⟨⟨old,he⟩,hit,hne⟩:=st;obtain⟨xs,hq,hx⟩:=hg;obtain⟨its,rv,p,hz⟩:=I.list hq;have hl:=rv.length;exact wpAny_pyNext_enum_end (I.ok.hd hc) he hit p.isList (YKz (by simp;lia)) fun h' eb=>⟨rfl,I.turns (t':=s.toks) (fun b o hb q=>eb b o (fun z=>hb (by simp[z])) q) hf⟩
 self:=fun _ _ _ _ _ st h=>by
  obtain⟨⟨old,he⟩,_⟩:=st;exact wpAny_pyIter_enum he h
section
variable {X:Cx}{elts:List Expr}{k:Nat}{tpos:Pos}
inductive YIg (K:W.Frag) (R:It→Hp→Prop) (vs:List V) (H1:Hp):Prop where
 |mk (a:_) (h0_:vs=[.ref a]) (h1_:(∃xs,Rd H1 a (.lst xs))) (h2_:R (Ite K a) H1):YIg K R vs H1
def iEnum (K:W.Frag) (ta:TA):TI:=fun σ H R=>ta σ H fun vs H1=>YIg K R vs H1
theorem Xl (K:W.Frag) (hK:X.K=K) {a:Expr}{ta:TA}{p pos:Pos} (hg:Gl X "enumerate") (hm:X.mg "enumerate"=none) (ha:PA X [a] ta) (hs:starEach [a] X.env=[(false,eval a X.env)]:=by rfl):
  PI X (.Tuple elts k tpos) (.Call (.Name "enumerate" p) [a] [] pos) (iEnum K ta):=by
 subst hK;intro pins s σ H R I h;refine Call_ (JK I hg hm PyProof.Rows.Boot.«enumerate» (PyProof.Rows.callWith_type1 (thn (ha pos pins s σ H _ I h) fun us s1 ⟨vs,H1,I1,r1,q1⟩=>?_) hs rfl));obtain⟨l,rfl,⟨xs,hq⟩,q⟩:=q1;obtain⟨u,rfl,ru⟩:=JJ r1;cases ru;obtain⟨hz,its,n,rv,hl⟩:=(show Yj X.prog X.w H1 s1.heap l (.lst xs) from hq.ok I1.hok);refine call_enumerate_1 hl fun h' he hit hsz hk=>?_
 have I2:Inv X pins σ H1 { s1 with heap:=h' }:=I1.kept (t':=s1.toks) hk;refine wpAny_pyIter_enum he ?_;refine⟨s1.heap.objs.size + 1,[s1.heap.objs.size + 1,s1.heap.objs.size],_,_,H1,rfl,I2,YHX l _ _,⟨⟨_,by simpa using he⟩,hit,Nat.succ_ne_self _⟩,fun b hb=>?_,q⟩;rcases YJg.mp hb with rfl |hb
 ·exact I1.fpOk (YKc _) (I1.hok.fresh (YKc _))
 ·have eb:b=s1.heap.objs.size:=by simpa using hb
  subst eb;exact I1.fpOk (YJP _) (I1.hok.fresh (YJP _))
theorem YEB:∀{xs:List V}{us:List Value},xs.length=us.length→(∀(j:Nat) (x:V) (u:Value),xs[j]?=some x→us[j]?=some u→Yk x u)→Ye xs us
 |[],[],_,_=>.nil
 |[],_ :: _,h,_=>by cases h
 |_ :: _,[],h,_=>by cases h
 |x :: xs,u :: us,h,k=>.cons (k 0 x u rfl rfl) (YEB (Nat.succ.inj h) fun j y v h1 h2=>k (j + 1) y v (by simpa using h1) (by simpa using h2))
theorem YIh {k:Key}{v:Value} (h:YB6 k v=true):Yk (kV k) v:=by
 rcases ZA h with ⟨i,t,rfl,rfl⟩ |⟨x,t,rfl,rfl⟩
 ·exact⟨t,rfl⟩
 ·exact⟨t,rfl⟩
end
def YF5 (J:It) (n:Nat) (H:Hp) (item:Nat→V→Hp→Prop):Prop:=∀i H',YL H H'→YS H'→(i < n→J.go i H'∧∀x H3,J.yld i H' x H3→YL H' H3∧YS H3∧item i x H3)∧J.stop n H'
theorem YAp.g {J:It}{n:Nat}{H:Hp}{item:Nat→V→Prop} (h:YAp J n H item):YF5 J n H fun i x _=>item i x:=fun i H' s p=>
 ⟨fun hi=>⟨((h i H' s).1 hi).1,fun x H3 hy=>by obtain⟨e,it⟩:=((h i H' s).1 hi).2 x H3 hy;subst e;exact⟨YL.refl _,p,it⟩⟩,(h i H' s).2⟩
end L2
namespace L2
open PySem PySem.Spec PyProof.Rows
section
variable {X:Cx}{elt tg iter:Expr}{ifs:List Expr}{scope:Scope}{cl:List (Str×Addr)}{N:List Str}{ρ:List (Option Nat)}{pos:Pos}{wi:TI}{g:TG}{tc:TT}{te:TE}
theorem YHY (hc:X.calm=true) (S:Yh X N ρ scope cl)
  (hg:∀C s₀ H₀ ex pn,PG (Y8 X N scope cl C s₀ H₀ ex pn) tg g) (ht:∀C s₀ H₀ ex pn,PTs (Y8 X N scope cl C s₀ H₀ ex pn) ifs tc) (he:∀C s₀ H₀ ex pn,PE (Y8 X N scope cl C s₀ H₀ ex pn) elt te)
  {pins:List (Addr×Obj)}{s2:Shared}{σ:St}{H2:Hp}{it:Addr}{fp:List Addr}{tn:Nat→Heap→Prop}{J:It}{Q:VK}{RR:Value→Addr→Result→Shared→Prop} (I2:Inv X pins σ H2 s2) (T:YCm X.prog X.w X.K tg J fp it tn) (st2:tn 0 s2.heap) (f2:∀b∈fp,X7 X pins H2 b)
  (q2:∀l,H2 l=none→YAn J g tc te Q l (YCI ρ σ) H2)
  (fin:∀(l C:Addr) (s5:Shared) (H4:Hp) (m:Str→Option Value),Inv X pins σ H4 s5→X7 X pins H4 C→s5.heap.Ns C m→Q (.ref l) H4→RR (.ref l) C (.ok .next) s5):
  wpAny (model X.prog X.w) X.A (newList []) (fun acc s3=>wpAny (model X.prog X.w) X.A (newFunctionEnv scope X.env.globals cl [] X.env.qual none .none (some X.env)) (fun cenv s4=>
   codeAny (model X.prog X.w) X.A (.compStart (.ListComp elt [⟨tg,iter,ifs,0⟩] scope pos) 0 (.ref it) acc { cenv with scope:=relabel scope X.env }) (RR acc cenv.locals) s4) X.xe s3) X.xe s2:=by
 obtain⟨W,⟨m0,w0⟩,turn⟩:=q2 _ (I2.hok.fresh (YJP _));refine wpAny_newObj_type (wpAny_newFunctionEnv S.nocell (by intro y hy;simp at hy) (fun h₁ hns₁ hsb₁=>?_) S.kind);dsimp only at hns₁ hsb₁ ⊢;have I3:Inv X pins σ (upd H2 s2.heap.objs.size (.lst [])) { s2 with heap:=s2.heap.push { cls:=.type "list",dict:=none,data:=.seq ([]:List Value).toArray } }:=
  I2.laid (t':=s2.toks) (fun b u eo=>YJO _ eo) (YJP _) ⟨by simp,[],0,.nil,YJc _ rfl⟩
 generalize hs3:({ s2 with heap:=s2.heap.push { cls:=.type "list",dict:=none,data:=.seq ([]:List Value).toArray } }:Shared)=s3 at I3;have es3:s2.heap.push { cls:=.type "list",dict:=none,data:=.seq ([]:List Value).toArray }=s3.heap:=by rw[←hs3]
 rw[es3]at hns₁ hsb₁ ⊢;have f3:∀b∈fp,X7 X pins (upd H2 s2.heap.objs.size (.lst [])) b:=fun b hb=>by
  obtain⟨o,eo,_⟩:=T.obj _ _ st2 b hb;exact⟨by rw[YH (YJq (YJX eo))];exact(f2 b hb).1,(f2 b hb).2⟩
 have lt3:∀b∈fp,b < s3.heap.objs.size:=fun b hb=>by
  obtain⟨o,eo,_⟩:=T.obj _ _ st2 b hb;rw[←es3,YKX];exact Nat.lt_succ_of_lt (YJX eo)
 have old:∀b o,s3.heap.get? b=some o→h₁.get? b=some o:=fun b o eo=>hsb₁.extBut b o (YJq (YJX eo)) (YJO _ eo)
 have Ic:Inv (Y8 X N scope cl s3.heap.objs.size s3 (upd H2 s2.heap.objs.size (.lst [])) fp (X.pn ++ pins)) [] (YCI ρ σ) (upd H2 s2.heap.objs.size (.lst [])) { s2 with heap:=h₁,toks:=s2.toks + ([]:List (Str×Value)).length }:=
  YEp S I3 f3 lt3 hns₁ old (by rw[←hs3] <;> rfl)
 have stat:∀{pl:List (Addr×Obj)}{H':Hp},pl=[]→(∀b∈fp,H' b=none)→∀b∈fp,X7 (Y8 X N scope cl s3.heap.objs.size s3 (upd H2 s2.heap.objs.size (.lst [])) fp (X.pn ++ pins)) pl H' b:=fun{pl H'} epl hn b hb=>by
  subst epl;refine⟨hn b hb,YJq (lt3 b hb),fun z=>?_,.inl hb,fun x c h1=>(f2 b hb).2.2.2.2.1 x c (S.sub x c h1),fun p hp=>(f2 b hb).2.2.2.2.2 p (by simpa using hp)⟩;rcases YJg.mp (I3.stkSub b z) with z |z
  ·exact(f2 b hb).2.1 z
  ·exact(f2 b hb).2.2.1 z
 have st4:tn 0 h₁:=T.keep _ _ _ st2 fun b hb o eo=>old b o (by rw[←es3];exact YJO _ eo)
 have loop:codeAny (model X.prog X.w) X.A (.compLoop (.ListComp elt [⟨tg,iter,ifs,0⟩] scope pos) 0 (.ref it) (.ref s2.heap.objs.size) (compEnvC scope cl s3.heap.objs.size X.env))
   (RR (.ref s2.heap.objs.size) s3.heap.objs.size) { s2 with heap:=h₁,toks:=s2.toks + ([]:List (Str×Value)).length }:=by
  refine YDL (fun n s'=>∃i ys τ H',Inv (Y8 X N scope cl s3.heap.objs.size s3 (upd H2 s2.heap.objs.size (.lst [])) fp (X.pn ++ pins)) [] τ H' s'∧tn i s'.heap∧(∀b∈fp,H' b=none)∧W i n ys τ H') ?_ m0
   ⟨0,[],_,_,Ic,st4,fun b hb=>(f3 b hb).1,w0⟩
  rintro n s4 ⟨i,ys,τ,H4,I4,st,fr4,w4⟩;rcases turn i n ys τ H4 w4 with ⟨stop,qn⟩ |⟨go,step⟩
  ·refine thn (T.done (Y8 X N scope cl s3.heap.objs.size s3 (upd H2 s2.heap.objs.size (.lst [])) fp (X.pn ++ pins)) rfl rfl rfl hc i [] s4 τ H4 _ I4 (stat rfl fr4) st stop) fun r s5 ⟨hr,I5⟩=>?_
   subst hr;obtain⟨m5,hn5,_⟩:=I5.loc;have get':∀b o,s5.heap.get? b=some o→s5.heap.get? b=some o:=fun b o eo=>eo
   have un:Un (frs X.stack) fp (upd H2 s2.heap.objs.size (.lst [])) H4 s3.heap s5.heap:=
    ⟨fun b o eo n1 n2 n3=>I5.base.keep b o eo n1 n2 n3,fun b o eo n1 n2 n3=>I5.base.slot b o eo n1 n2 n3,I5.base.free,fun b o eo n1=>I5.base.there b o eo n1,I5.base.tups,I5.base.frzs,I5.base.tbls⟩
   have I6:Inv X pins σ H4 s5:=I3.call' (s':=s5) (ch:=fp) (show s5.os=s3.os from I5.os) un I5.hok I5.bare fun b hb=>⟨(f3 b hb).2.2.2.1,(f3 b hb).2.1,(f3 b hb).2.2.2.2.1,(f3 b hb).2.2.2.2.2⟩
   have fr:H4 s3.heap.objs.size=none:=I5.free;exact fin _ _ s5 H4 m5 I6 (I3.fpOk (YJP _) fr) hn5 qn
  ·refine thn (T.item (Y8 X N scope cl s3.heap.objs.size s3 (upd H2 s2.heap.objs.size (.lst [])) fp (X.pn ++ pins)) rfl rfl rfl hc i [] s4 τ H4 _ I4 (stat rfl fr4) st go) fun r s5 ⟨u,hr,h5⟩=>?_
   subst hr;refine thn h5 ?_;rintro _ s6 ⟨x,H6,I6,r6,y6,st6,fr6⟩;have I6':=I6.pinned (stat rfl fr6) (T.obj _ _ st6);have again:∀{s9:Shared}{τ9:St}{H9:Hp}{zs:List V}{m':Nat},Inv (Y8 X N scope cl s3.heap.objs.size s3 (upd H2 s2.heap.objs.size (.lst [])) fp (X.pn ++ pins)) ([] ++ YBM fp s6.heap) τ9 H9 s9→m' < n→W (i + 1) m' zs τ9 H9→
     ∃m,m < n∧∃i ys τ H',Inv (Y8 X N scope cl s3.heap.objs.size s3 (upd H2 s2.heap.objs.size (.lst [])) fp (X.pn ++ pins)) [] τ H' s9∧tn i s9.heap∧(∀b∈fp,H' b=none)∧W i m ys τ H':=fun{s9 τ9 H9 zs m'} I9 hm w9=>by
    refine⟨m',hm,i + 1,zs,τ9,H9,I9.unpinned,T.keep _ _ _ st6 fun b hb o eo=>(I9.pin (b,o) (YJi _ (YJi _ (Z1 hb eo)))).1,fun b hb=>?_,w9⟩;obtain⟨o,eo,d⟩:=T.obj _ _ st6 b hb;exact(I9.pin (b,o) (YJi _ (YJi _ (Z1 hb eo)))).2.1
   refine thn (hg _ _ _ _ _ _ s6 τ H6 x u _ I6' r6 (step x H6 y6)) fun _ s7 ⟨τ7,H7,I7,q7⟩=>?_
   refine thn (ht _ _ _ _ _ _ s7 τ7 H7 _ I7 q7) fun ok s8 ⟨H8,I8,q8⟩=>?_
   cases ok with
   |false=>
    rw[if_neg YJZ]at q8 ⊢;obtain⟨m',hm,w9⟩:=q8;exact again I8 hm w9
   |true=>
    rw[if_pos rfl]at q8 ⊢;refine thn (he _ _ _ _ _ _ s8 τ7 H8 _ I8 q8) ?_;rintro y s9 ⟨z,H9,I9,r9,hl9,hz9,m',hm,w9⟩;refine thn (ZD _ s9 τ7 H9 (.ref s2.heap.objs.size) [z] (.ref s2.heap.objs.size) [y] (fun _ H'=>H'=upd H9 s2.heap.objs.size (.lst (ys ++ [z]))) I9 rfl (.cons r9 .nil) ⟨_,ys,z,rfl,rfl,hl9,hz9,rfl⟩) fun _ s10 ⟨_,H10,I10,_,e10⟩=>?_
    subst e10;exact again I10 hm w9
 exact codeAny_compStart_list loop (T.self _ 0 _ _ _ st4 loop)
def tSetC (i:Nat) (te:TE):TS:=fun D σ H=>te σ H fun v H1=>D.nx (σ.set i (some v)) H1
theorem YGn {i:Nat}{y:Str}{py spos:Pos} (hN:X.N.Nodup) (hi:X.N[i]?=some y) (hy:X.env.scope.names.lookup y=some .local) (hc:X.calm=true) (S:Yh X N ρ scope cl) (hI:PI X tg iter wi)
  (hg:∀C s₀ H₀ ex pn,PG (Y8 X N scope cl C s₀ H₀ ex pn) tg g) (ht:∀C s₀ H₀ ex pn,PTs (Y8 X N scope cl C s₀ H₀ ex pn) ifs tc) (he:∀C s₀ H₀ ex pn,PE (Y8 X N scope cl C s₀ H₀ ex pn) elt te)
  (hsw:swapsWith (.ListComp elt [⟨tg,iter,ifs,0⟩] scope pos) (some (.Name y py)) spos.line X.env=pure true:=by rfl) (hs:∀x,foldedSetIterable iter X.env x=pure x:=by intro _;rfl):
  PS X (.Assign [.Name y py] (.ListComp elt [⟨tg,iter,ifs,0⟩] scope pos) spos) (tSetC i (tComp ρ wi g tc te)):=by
 intro pins s σ H D I h;rw[exec_Assign_Name_used _ _ _ _ hsw];refine YJN (wpAny_standAt (YJN ?_));show wpAny _ X.A (do let _ ←comprehension (.ListComp elt [⟨tg,iter,ifs,0⟩] scope pos) scope X.env _ (newList []) false (eval iter X.env) (some (assign (.Name y py) X.env))) _ _ s;refine YJN (wpAny_mono (wpAny_comprehension_free (use:=some (assign (.Name y py) X.env)) (Q:=fun _ s'=>SP X pins D .next s') rfl hs S.clos S.kind S.loc
  (thn (hI pins s σ H _ I h) fun v s1 h1=>thn h1 fun itv s2 h2=>?_)) (fun _ s' hq=>YJb (YJb hq)) fun _ _ e=>e)
 obtain⟨it,fp,tn,J,H2,e,I2,T,st2,f2,q2⟩:=h2;subst e;refine YHY (RR:=fun acc C=>compPost (model X.prog X.w) X.A X.xe (some (assign (.Name y py) X.env)) (fun _ s'=>SP X pins D .next s') acc C) hc S hg ht he I2 T st2 f2 q2 fun l C s5 H4 m I6 fC hn q=>?_
 obtain⟨oC,es,ep,hoC,hdC,hrest⟩:=id hn;have I7:=I6.pinned (fp:=[C]) (fun b hb=>by rw[YJW.mp hb];exact fC) (fun b hb=>⟨oC,by rw[YJW.mp hb];exact hoC,fun v z=>by rw[hdC]at z;cases z⟩);show wpAny _ X.A (assign (.Name y py) X.env (.ref l)) _ _ s5;refine wpAny_assign_Name (YA2 I7 hN hi (.inl hy) (v:=.ref l) rfl (fun s6 I8=>?_) (.inr hy));have hpin:=(I8.pin (C,oC) (YJi _ (YJi _ (Z1 (YJW.mpr rfl) hoC))));refine⟨m,⟨oC,es,ep,hpin.1,hdC,hrest⟩,fun h' hs'=>?_⟩;have fC':∀b∈[C],X7 X pins H4 b:=fun b hb=>by rw[YJW.mp hb];exact fC
 exact⟨_,H4,I8.unpinned.turns (t':=s6.toks) (fun b o hb eo=>(hs'.2 b (fun z=>hb (YJW.mpr z))).trans eo) fC',q⟩
end
end L2
namespace L2
open PySem PySem.Spec PyProof.Rows
theorem YEt {x:Str}{n:Int} (h1:x.length≤1000) (h2:-1000≤n) (h3:n≤1000):MulOk x n:=by
 refine⟨?_,fun hn _=>?_,fun hn _=>?_⟩
 ·rw[Bool.or_eq_false_iff];exact⟨YJV (by lia),YJV (by lia)⟩
 ·intro hgt;have hn':0 < n:=by lia
  have h4:=(Int.ediv_lt_iff_lt_mul hn').mp hgt;have h5:(x.length:Int) * n≤1000 * 1000:=Int.mul_le_mul (by lia) h3 (by lia) (by lia)
  lia
 ·show decide (x.length * n.toNat > sizeLine)=false;refine YJV ?_;have h5:x.length * n.toNat≤1000 * 1000:=Nat.mul_le_mul h1 (by lia);rw[sizeLine_eq]
  lia
theorem YF6 {X:Cx}:OpR X (binaryOp .Mult) (fun x y H Q=>∃i n,x=.str i∧y=.int n∧i.length≤1000∧-1000≤n∧n≤1000∧Q (.str (Txt.mul i n)) H):=by
 intro pins s σ H x y v u Q I rx ry h;obtain⟨i,n,rfl,rfl,h1,h2,h3,q⟩:=h;obtain⟨t,rfl⟩:=rx;obtain⟨t',rfl⟩:=ry;exact SB.mul (YEt h1 h2 h3) fun t' k=>⟨.str _,H,I.tok _,⟨_,rfl⟩,q⟩
theorem Zz {α:Type}{xs:List α}{i:Int} (h0:0≤i) (h1:i < xs.length):∃v,atI xs i=some v∧v∈xs:=by
 have hj:i.toNat < xs.length:=by lia
 have e:((i.toNat:Nat):Int)=i:=by lia
 refine⟨xs[i.toNat],?_,YLF hj⟩;have h:=Yy (xs:=xs) (j:=i.toNat) (v:=xs[i.toNat]) (by simp[hj]);rw[e]at h;exact h
theorem slen (a b:Str):(a ++ b).length=a.length + b.length:=by
 show(a ++ b).cps.size=a.cps.size + b.cps.size;exact Array.size_append ..
theorem in62 {x:Int} (h1:0≤x) (h2:x≤1000):(-(2 ^ 62):Int)≤x∧x < 2 ^ 62:=⟨YKL (by decide) h1,Int.lt_of_le_of_lt h2 (by decide)⟩
theorem YF7 {H:Hp} (h:Only H):YS H:=fun a o e=>by
 rcases h a with z |⟨ob,xs,z⟩
 ·rw[e]at z;cases z
 ·rw[e]at z;cases z;rfl
end L2
namespace L2
open PySem PySem.Spec PyProof.Rows
def YGo:Expr→Bool
 |.Starred _ _=>false
 |_=>true
theorem YHZ {e:Expr}{es:List Expr}{env:Env} (h:YGo e=true):starEach (e :: es) env=(false,eval e env) :: starEach es env:=by
 cases e <;> first |rfl |cases h
theorem ZI {X:Cx}{e:Expr}{es:List Expr}{te:TE}{t:TA} (ha:PE X e te) (hr:PA X es t) (h:YGo e=true:=by rfl):PA X (e :: es) (tCons te t):=YA ha hr (YHZ h)
section
variable {X:Cx}
theorem HT.cat_tup0 {prog:Program}{w:World}{A:Around}{E:Value→Shared→Prop}{s:Shared}{t b:Addr}{ws:List Value}{Q:Value→Shared→Prop} (ht:IsTup s.heap t #[]) (hb:IsTup s.heap b ws.toArray) (h1:Q (.ref b) s):wpAny (model prog w) A (binaryOp .Add (.ref t) (.ref b)) Q E s:=by
 obtain⟨⟨cls,dd,data,sl⟩,ho,hc,n,hd⟩:=id ht;obtain⟨⟨cls2,dd2,data2,sl2⟩,ho2,hc2,n2,hd2⟩:=id hb;simp only at hc hd hc2 hd2;subst hc hd hc2 hd2;exact concat_meets ⟨_,ho,rfl⟩ ⟨_,ho2,rfl⟩ noFill_tuple_add seq_tuple_add PySem.F.slot_tuple_add PySem.F.entry_tuple_add (PySem.F.args_tuple_add_2 _ _)
   (tuple_addW0 t b #[] ws.toArray n n2 dd dd2 sl sl2 rfl) ⟨ho,ho2,h1⟩
def rCatA:R2:=fun x y H Q=>∃a b xs ys,x=.ref a∧y=.ref b∧H a=some (.tup xs)∧H b=some (.tup ys)∧xs.length + ys.length≤sizeLine∧∀p H',YL H H'→(YS H→YS H')→(H'=H∨H p=none)→H' p=some (.tup (xs ++ ys))→Q (.ref p) H'
theorem YAW:OpR X (binaryOp .Add) rCatA:=by
 intro pins s σ H x y v u Q I rx ry h;obtain⟨a,b,xs,ys,rfl,rfl,ha,hb,hz,q⟩:=h
 by_cases hx:xs=[]
 ·subst hx;cases rx;cases ry;obtain⟨its,r1,p1,_⟩:=I.tuple (SqT.of ha);obtain⟨its2,r2,p2,_⟩:=I.tuple (SqT.of hb);cases r1;exact HT.cat_tup0 p1 p2 ⟨.ref b,H,I,rfl,q b H (YL.refl _) id (.inl rfl) hb⟩
 ·exact op_catT pins s σ H (.ref a) (.ref b) v u Q I rx ry ⟨a,b,xs,ys,rfl,rfl,SqT.of ha,SqT.of hb,hx,hz,fun e=>q a H (YL.refl _) id (.inl rfl) (by rw[e,List.append_nil];exact ha),fun _ p hp=>q p _ (YL.upd hp) (fun z=>z.upd rfl) (.inr hp) YD⟩
end
end L2
namespace FR
open PySem L2
structure QSs (X:Cx) (st:List Stmt) (t:TS):Prop where h:PSs X st t
structure QS (X:Cx) (st:Stmt) (t:TS):Prop where h:PS X st t
theorem Y4 {X:Cx}{st:Stmt}{rest:List Stmt}{t u:TS} (h1:QS X st t) (h2:QSs X rest u):QSs X (st :: rest) (tSeq t u):=⟨YE h1.h h2.h⟩
theorem YEC {X:Cx}{st:Stmt}{t:TS} (h1:QS X st t):QSs X [st] t:=⟨YF h1.h⟩
theorem qex {X:Cx}{st:List Stmt}{q:TS→Prop} (h:∃t,QSs X st t∧q t):∃t,PSs X st t∧q t:=let ⟨t,a,b⟩:=h;⟨t,a.h,b⟩
end FR
namespace L2
open PySem PySem.Spec PyProof.Rows
section
variable {X:Cx}{C:Addr}{x:Str}{p pos:Pos}
end
structure YAH (P:Program) (w:World) (K:W.Frag) (mg:Str→Option Value) (CX:CXT) (k:Nat) (C:Addr) (m:Str) (ps:List Str) (sp:Sp):Prop where
 ok:∃f fd,(∀base,Yr P w K mg base CX k f fd ps sp)∧Meth K C m f∧Xz K fd ps []
structure UsedI (P:Program) (w:World) (K:W.Frag) (mg:Str→Option Value) (CX:CXT) (k:Nat) (C:Addr) (ps:List Str) (sp:Sp):Prop where
 ok:∃f fd,(∀base,Yr P w K mg base CX k f fd ps sp)∧Mk K C f∧Xz K fd ps []
def CMulB (i j:Int):Prop:=i.natAbs < 2 ^ 4000∧j.natAbs < 2 ^ 4000
theorem YDS {i:Int} (h:i.natAbs < 2 ^ 4000):Builtin.Int.intBits i≤4000:=by
 unfold Builtin.Int.intBits
 by_cases h0:i=0
 ·subst h0;decide
 ·have:=(Nat.log2_lt (by lia)).mpr h;split
  ·lia
  ·lia
theorem Xm {X:Cx}:OpR X (binaryOp .Mult) (rI CMulB fun i j=>.int (i * j)):=opI fun _ _ _ _ _ _ _ hc q=>mul_int q (PyProof.Rows.mulOk_of_bits (YDS hc.1) (YDS hc.2) (by decide))
theorem Yc (K:W.Frag) {X:Cx} (hK:X.K=K) {e:Expr}{f:Str}{pos:Pos}{ta:TE} (he:PE X e ta) (hb:attributeBase e f X.env (eval e X.env)=eval e X.env):PE X (.Attribute e f pos) (tFld K ta f):=by subst hK;exact pe_fld he hb
theorem XH (K:W.Frag) {X:Cx} (hK:X.K=K) {o value:Expr}{f:Str}{pos pos':Pos}{ta tv:TE} (ha:PE X o ta) (hv:PE X value tv) (hs:swapsWith value (some (.Attribute o f pos')) pos.line X.env=pure false):PS X (.Assign [.Attribute o f pos'] value pos) (sFld K ta tv f):=by subst hK;exact ps_fld ha hv hs
end L2
namespace L2
open PySem PySem.Spec PyProof.Rows
section
variable {X:Cx}{tg:Expr}
end
end L2
namespace L2
open PySem PySem.Spec PyProof.Rows
section
variable {X:Cx}
theorem JC:MtR X "str.startswith" (fun x vs H Q=>∃z y,x=.str z∧vs=[.str y]∧Q (.bl (Txt.startswith z y)) H):=by
 intro pins s σ H x xs v us Q I rx rs h;obtain⟨z,y,rfl,rfl,q⟩:=h;obtain⟨t,rfl⟩:=rx;obtain⟨u,rfl,t',rfl⟩:=rs.one;exact SC.startswith ⟨.bl _,H,I,rfl,q⟩
end
end L2
namespace L2
open PySem PySem.Spec PyProof.Rows
section
variable {X:Cx}
theorem YA8:∀{bs:List Int}{us:List Value}{i:Nat}{v:Value},Ye (bs.map V.int) us→us[i]?=some v→∃b t,bs[i]?=some b∧v=.int b t:=by
 intro bs us i v r e;cases e2:(bs.map V.int)[i]? with
 |none=>
  have:=r.none_of e2;rw[this]at e;cases e
 |some x=>
  obtain⟨u,hu,ru⟩:=r.get e2;rw[hu]at e;cases e;rw[YJQ]at e2;cases e3:bs[i]? with
  |none=>rw[e3]at e2;cases e2
  |some b=>
   rw[e3]at e2;have e4:V.int b=x:=YJk e2;subst e4;obtain⟨t,ht⟩:=ru;exact⟨b,t,rfl,ht⟩
end
end L2
namespace L2
open PySem PySem.Spec PyProof.Rows
section
open PySem.W
variable {K:W.Frag}{M:Model}
end
section
variable {X:Cx}
end
end L2
namespace L2
open PySem PySem.Spec PyProof.Rows
section
variable {X:Cx}
end
theorem comp_fm {α:Type}{J:It}{item:Nat→V→Hp→Prop}{tc:TT}{te:TE}{Q:VK}{H:Hp}{l:Addr}{τ:St}{g:TG} (ds:List α) (f:α→Option V) (hJ:YF5 J ds.length H item) (hp:YS H)
  (hl:H l=none) (hz:ds.length≤sizeLine) (keep:St→Prop) (hk0:keep τ)
  (ht:∀(τ':St) (k:Nat) (d:α) (x:V) (H':Hp) (Q1:St→VK) (Q2:St→Hp→Prop),keep τ'→ds[k]?=some d→item k x H'→YL H H'→YS H'→(∀y τ4 H6,keep τ4→YL H' H6→YS H6→f d=some y→Q1 τ4 y H6)→(∀τ4 H6,keep τ4→YL H' H6→YS H6→f d=none→Q2 τ4 H6)→
   g x τ' H' fun τ4 H4=>tc τ4 H4 fun b H5=>if b=true then te τ4 H5 (Q1 τ4) else Q2 τ4 H5)
  (hq:∀H',YL H H'→YS H'→H' l=some (.lst (ds.filterMap f))→Q (.ref l) H'):YAn J g tc te Q l τ H:=by
 refine YGk ds.length (fun i ys τ' H2=>i≤ds.length∧ys=(ds.take i).filterMap f∧keep τ'∧YL H H2∧YS H2∧H2 l=some (.lst ys)) ⟨YJw _,rfl,hk0,YL.upd hl,hp.upd rfl,YD⟩ ?_ ?_
 ·rintro i ys τ' H2 N hlt ⟨hi,rfl,hk,hs,hp2,hll⟩ hN;obtain⟨hgo,_⟩:=hJ i _ hs hp2;obtain⟨h1,h2⟩:=hgo hlt;refine⟨h1,fun x H3 hy=>?_⟩;obtain⟨s3,p3,it⟩:=h2 x H3 hy;have e:ds[i]?=some ds[i]:=YJR hlt;have et:(ds.take (i + 1)).filterMap f=(ds.take i).filterMap f ++ (f ds[i]).toList:=by
   rw[YKF,e,List.filterMap_append];have:(some ds[i]).toList.filterMap f=(f ds[i]).toList:=by
    cases hf:f ds[i] with
    |none=>simp[hf]
    |some y=>simp[hf]
   rw[this]
  have hlen:((ds.take i).filterMap f).length≤i:=YJt (List.length_filterMap_le ..) (by rw[YKO];lia);refine ht τ' i ds[i] x H3 (fun τ4 y H6=>H6 l=some (.lst ((ds.take i).filterMap f))∧((ds.take i).filterMap f).length < sizeLine∧N ((ds.take i).filterMap f ++ [y]) τ4 (upd H6 l (.lst ((ds.take i).filterMap f ++ [y]))))
   (fun τ4 H5=>N ((ds.take i).filterMap f) τ4 H5) hk e it (hs.trans s3) p3 (fun y τ4 H6 k4 s6 p6 ef=>?_) fun τ4 H6 k4 s6 p6 ef=>?_
  ·rw[ef]at et;have hl6:H6 l=some (.lst ((ds.take i).filterMap f)):=s6 _ _ (s3 _ _ hll);exact⟨hl6,by lia,hN _ _ _ ⟨hlt,et.symm,k4,((hs.trans s3).trans s6).put hl,p6.upd rfl,YD⟩⟩
  ·rw[ef]at et;have et:(ds.take (i + 1)).filterMap f=(ds.take i).filterMap f:=by rw[et];exact List.append_nil _
   exact hN _ _ _ ⟨hlt,et.symm,k4,(hs.trans s3).trans s6,p6,s6 _ _ (s3 _ _ hll)⟩
 ·rintro ys τ' H2 ⟨_,rfl,_,hs,hp2,hll⟩;rw[YKj]at hll;exact⟨(hJ ds.length _ hs hp2).2,hq _ hs hp2 hll⟩
end L2
namespace L2
open PySem PySem.Spec PyProof.Rows
section
variable {X:Cx}
end
end L2
namespace FR
open PySem L2
def Z3 (c:Nat):Bool:=decide (32≤c) && decide (c≤126) && !decide (c=37)
def ZM (c:Nat):Bool:=decide (65≤c) && decide (c≤90)
def XI (z:Str):Bool:=z.cps.size == 2 && z.cps[0]? == some 39 && Z3 (z.cps.getD 1 0)
def isNameS (z:Str):Bool:=decide (1≤z.cps.size) && decide (z.cps.size≤8) && z.cps.toList.all ZM
def Xn (z:Str):Bool:=decide (z.cps.size≤60) && z.cps.toList.all Z3
def YA9:D→Bool
 |.str z=>XI z
 |_=>false
def isNameD:D→Bool
 |.str z=>isNameS z
 |_=>false
def Jr (d:D):Bool:=YA9 d || isNameD d
def YBA:D→Bool
 |.str z=>Xn z
 |_=>false
def YCN:D→Bool
 |.int _=>true
 |_=>false
def Yu:D→Bool
 |.int i=>decide (0≤i) && decide (i≤10 ^ 60)
 |_=>false
def Ju:D→Bool
 |.tup ds=>decide (ds.length≤6) && ds.all Jr
 |_=>false
def Zt:D→Bool
 |.tup [h,p,w]=>isNameD h && (Ju p && Yu w)
 |_=>false
def XJ:D→Bool
 |.lst ds=>decide (ds.length≤60) && ds.all Zt
 |_=>false
mutual
def _root_.L2.D.short:D→Bool
 |.str z=>decide (z.length≤1000)
 |.lst ds=>Jk ds
 |.tup ds=>Jk ds
 |_=>true
def Jk:List D→Bool
 |[]=>true
 |d :: ds=>d.short && Jk ds
end
theorem Z4:∀{xs:List D}{d:D},Jk xs=true→d∈xs→d.short=true
 |x :: xs,d,h,hd=>by
  unfold Jk at h;rw[YJe]at h;rcases YJg.mp hd with rfl |hd
  ·exact h.1
  ·exact Z4 h.2 hd
theorem XY:∀{xs:List D},(∀d∈xs,d.short=true)→Jk xs=true
 |[],_=>by unfold Jk;rfl
 |x :: xs,h=>by unfold Jk;rw[h x YJp,XY fun d hd=>h d (YJf _ hd)];rfl
theorem YBU {z:Str} (h:z.length≤1000):(D.str z).short=true:=by unfold D.short;exact YJU h
theorem YHa {z:Str} (h:(D.str z).short=true):z.length≤1000:=by unfold D.short at h;exact YJm h
theorem YG {n:Nat} (h:n≤1000):n≤sizeLine:=YJt h (by rw[sizeLine_eq];decide)
theorem YAs {z:Str} (h:(D.str z).short=true):z.length≤sizeLine:=YG (YHa h)
def isStrD:D→Bool |.str _=>true |_=>false
def isListD:D→Bool |.lst _=>true |_=>false
def isTupD:D→Bool |.tup _=>true |_=>false
def YGp:D→Bool |.bl _=>true |_=>false
def isIntD:D→Bool |.int _=>true |.bl _=>true |_=>false
section
variable {K:W.Frag}
theorem YGq (d:D):PySem.W.kitOne K (.type (tyD d)) (.type "int")=some (isIntD d):=by cases d <;> kernel_rfl
theorem YEu (d:D):PySem.W.kitOne K (.type (tyD d)) (.type "bool")=some (YGp d):=by cases d <;> kernel_rfl
theorem YED (d:D):PySem.W.kitOne K (.type (tyD d)) (.type "str")=some (isStrD d):=by cases d <;> kernel_rfl
theorem YIi (d:D):PySem.W.kitOne K (.type (tyD d)) (.type "list")=some (isListD d):=by cases d <;> kernel_rfl
theorem YAX (d:D):PySem.W.kitOne K (.type (tyD d)) (.type "tuple")=some (isTupD d):=by cases d <;> kernel_rfl
end
theorem Jy (z:Str):z.length=z.cps.size:=rfl
theorem le_A (c:Nat):(!decide (([c]:List Nat) < (("A":Str)).cps.toList))=decide (65≤c):=by
 have e:(("A":Str)).cps.toList=[65]:=by decide +kernel
 rw[e]
 by_cases h:65≤c
 ·rw[YJU h,YJV (by rw[YK8];simp;lia)];rfl
 ·rw[YJV h,YJU (by rw[YK8];left;lia)];rfl
theorem le_Z (c:Nat):(!decide ((("Z":Str)).cps.toList < ([c]:List Nat)))=decide (c≤90):=by
 have e:(("Z":Str)).cps.toList=[90]:=by decide +kernel
 rw[e]
 by_cases h:c≤90
 ·rw[YJU h,YJV (by rw[YK8];simp;lia)];rfl
 ·rw[YJV h,YJU (by rw[YK8];left;lia)];rfl
theorem YIj (g:Nat→Bool) (l:List Nat):l.map (fun c=>V.bl (g c))=(l.map g).map V.bl:=by rw[YKk];rfl
theorem Jz {α:Type} (g:α→Bool) (l:List α):(l.map g).all id=l.all g:=by rw[List.all_map];rfl
theorem YF8 {ys:List V}{ds:List D}{g:D→Bool} (hl:ys.length=ds.length) (h:∀(k:Nat) (y:V),ys[k]?=some y→∃d,ds[k]?=some d∧y=.bl (g d)):ys=(ds.map g).map V.bl:=by
 refine YKs fun k=>?_
 by_cases hk:k < ys.length
 ·obtain⟨d,hd,hy⟩:=h k ys[k] (YJR hk);rw[YJR hk,YJQ,YJQ,hd,hy];rfl
 ·rw[YJy (by lia),YJy (by rw[YJL,YJL];lia)]
theorem Jf {te:TE}{σ:St}{H:Hp}{R:VK}{b g:Bool} (ht:b=true→∀R:VK,R (.bl g) H→te σ H R) (h:R (.bl (b && g)) H):if b=true then te σ H R else R (.bl false) H:=by
 cases b with
 |true=>exact ht rfl R h
 |false=>exact h
theorem or_read {te:TE}{σ:St}{H:Hp}{R:VK}{b g:Bool} (ht:b=false→∀R:VK,R (.bl g) H→te σ H R) (h:R (.bl (b || g)) H):if b=true then R (.bl true) H else te σ H R:=by
 cases b with
 |true=>exact h
 |false=>exact ht rfl R h
inductive spIs_ (g:D→Bool) (vs:List V) (H:Hp) (Q:VK):Prop where
 |mk (x:_) (d:_) (h0_:vs=[x]) (h1_:Den H x d) (h2_:d.short=true) (h3_:YS H) (h4_:Q (.bl (g d)) H):spIs_ g vs H Q
def XD (g:D→Bool):Sp:=fun vs H Q E_=>spIs_ g vs H Q
inductive YDT (vs:List V) (H:Hp) (Q:VK):Prop where
 |mk (c:_) (h0_:vs=[.str ⟨#[c]⟩]) (h1_:Q (.bl (Z3 c)) H):YDT vs H Q
def YCO:Sp:=fun vs H Q E_=>YDT vs H Q
inductive YCP (C:Addr) (vs:List V) (H:Hp) (Q:VK) (E:XK):Prop where
 |mk (x:_) (d:_) (h0_:vs=[x]) (h1_:Den H x d) (h2_:d.short=true) (h3_:YS H) (h4_:(XJ d=true→∀(l:Addr) (xs:List V) (ds:List D),d=.lst ds→Yd H xs ds→H l=none→Q (.ref l) (upd H l (.lst xs)))) (h5_:(XJ d=false→E (.ref C) none H)):YCP C vs H Q E
def YDU (C:Addr):Sp:=fun vs H Q E=>YCP C vs H Q E
theorem YCQ {b:Bool} (h:(!b)=true):b=false:=by cases b <;> first |rfl |cases h
theorem YDV {b:Bool} (h:¬(!b)=true):b=true:=by cases b <;> first |rfl |exact absurd rfl h
inductive YBk (C:Addr) (vs:List V) (H:Hp) (Q:VK) (E:XK):Prop where
 |mk (x:_) (d:_) (h0_:vs=[x]) (h1_:Den H x d) (h2_:d.short=true) (h3_:YS H) (h4_:(∀z,d=.str z→Xn z=true→Q (.str z) H)) (h5_:(YBA d=false→E (.ref C) none H)):YBk C vs H Q E
def YCR (C:Addr):Sp:=fun vs H Q E=>YBk C vs H Q E
abbrev Y2:=Str×List Str×Int
abbrev ZF:=List Y2
def Zf (r:Y2):D:=.tup [.str r.1,.tup (r.2.1.map D.str),.int r.2.2]
def YBB (g:ZF):D:=.lst (g.map Zf)
def Y7 (z:Str):Bool:=XI z || isNameS z
def J0 (r:Y2):Bool:=isNameS r.1 && ((decide (r.2.1.length≤6) && r.2.1.all Y7) && (decide (0≤r.2.2) && decide (r.2.2≤10 ^ 60)))
def ZT (g:ZF):Bool:=decide (g.length≤60) && g.all J0
theorem YCs (r:Y2):Zt (Zf r)=J0 r:=by
 obtain⟨h,ps,w⟩:=r;show(isNameD (.str h) && (Ju (.tup (ps.map D.str)) && Yu (.int w)))=_;show(isNameS h && ((decide ((ps.map D.str).length≤6) && (ps.map D.str).all Jr) && (decide (0≤w) && decide (w≤10 ^ 60))))=_;rw[YJL,List.all_map];rfl
theorem YAl (g:ZF):XJ (YBB g)=ZT g:=by
 show(decide ((g.map Zf).length≤60) && (g.map Zf).all Zt)=_;rw[YJL,List.all_map];unfold ZT;congr 1;congr 1;funext r;exact YCs r
theorem YGr:∀{ds:List D},ds.all Jr=true→∃ps:List Str,ds=ps.map D.str
 |[],_=>⟨[],rfl⟩
 |d :: ds,h=>by
  rw[YKl,YJe]at h;obtain⟨ps,rfl⟩:=YGr h.2;cases d with
  |str z=>exact⟨z :: ps,rfl⟩
  |_=>cases h.1
theorem rule_of {d:D} (h:Zt d=true):∃r:Y2,d=Zf r:=by
 unfold Zt at h;split at h
 ·rename_i a b c
  rw[YJe,YJe]at h;obtain⟨h1,h2,h3⟩:=h;cases a with
  |str z=>
   cases b with
   |tup ds=>
    cases c with
    |int w=>
     unfold Ju at h2;rw[YJe]at h2;obtain⟨ps,rfl⟩:=YGr h2.2;exact⟨(z,ps,w),rfl⟩
    |_=>cases h3
   |_=>cases h2
  |_=>cases h1
 ·cases h
theorem gram_of {d:D} (h:XJ d=true):∃g:ZF,d=YBB g∧ZT g=true:=by
 cases d with
 |lst ds=>
  have h0:=h;unfold XJ at h;rw[YJe]at h;have go:∀(ds:List D),ds.all Zt=true→∃g:ZF,ds=g.map Zf:=by
   intro ds
   induction ds with
   |nil=>exact fun _=>⟨[],rfl⟩
   |cons d ds ih=>
    intro hd;rw[YKl,YJe]at hd;obtain⟨g,rfl⟩:=ih hd.2;obtain⟨r,rfl⟩:=rule_of hd.1;exact⟨r :: g,rfl⟩
  obtain⟨g,rfl⟩:=go ds h.2;refine⟨g,rfl,?_⟩;rw[←YAl];exact h0
 |_=>cases h
theorem YIk {H:Hp}{v:V}{r:Y2} (h:Den H v (Zf r)):∃t p,v=.ref t∧H t=some (.tup [.str r.1,.ref p,.int r.2.2])∧H p=some (.tup (r.2.1.map V.str)):=by
 obtain⟨t,xs,rfl,ht,hds⟩:=h.to_tup
 match xs,hds with
 |[x0,x1,x2],hds=>
  obtain⟨_,e0,n0⟩:=hds.get (i:=0) (v:=x0) rfl;obtain⟨_,e1,n1⟩:=hds.get (i:=1) (v:=x1) rfl;obtain⟨_,e2,n2⟩:=hds.get (i:=2) (v:=x2) rfl;cases e0;cases e1;cases e2;have f0:=n0.to_str;have f2:=n2.to_int;obtain⟨p,ys,f1,hp,hys⟩:=n1.to_tup;subst f0 f1 f2;refine⟨t,p,rfl,ht,?_⟩;have:ys=r.2.1.map V.str:=by
   refine YKs fun i=>?_
   cases e:ys[i]? with
   |none=>
    have h1:=YLB.mp e;have h2:=hys.len;rw[YJL]at h2;rw[YJy (by rw[YJL];lia)]
   |some y=>
    obtain⟨d,hd,dn⟩:=hys.get e;rw[YJQ]at hd ⊢;cases e2:r.2.1[i]? with
    |none=>rw[e2]at hd;cases hd
    |some z=>
     rw[e2]at hd;cases hd;rw[dn.to_str];rfl
  rw[hp,this]
 |[],h=>exact absurd h.len (by simp)
 |[_],h=>exact absurd h.len (by simp)
 |[_,_],h=>exact absurd h.len (by simp)
 |_ :: _ :: _ :: _ :: _,h=>exact absurd h.len (by simp)
theorem YIl {H:Hp}{v:V}{g:ZF} (h:Den H v (YBB g)):∃a xs,v=.ref a∧Rd H a (.lst xs)∧Yd H xs (g.map Zf):=h.to_lst
theorem Xo {H:Hp}{xs:List V}{g:ZF} (h:Yd H xs (g.map Zf)) {i:Nat}{v:V} (e:xs[i]?=some v):
  ∃r t p,g[i]?=some r∧v=.ref t∧H t=some (.tup [.str r.1,.ref p,.int r.2.2])∧H p=some (.tup (r.2.1.map V.str)):=by
 obtain⟨d,hd,dn⟩:=h.get e;rw[YJQ]at hd;cases e2:g[i]? with
 |none=>rw[e2]at hd;cases hd
 |some r=>
  rw[e2]at hd;cases hd;obtain⟨t,p,e3,e4,e5⟩:=YIk dn;exact⟨r,t,p,rfl,e3,e4,e5⟩
theorem YDW {z:Str} (h:isNameS z=true):z.length≤8:=by
 unfold isNameS at h;rw[YJe,YJe]at h;exact YJm h.1.2
theorem YEv {z:Str} (h:Y7 z=true):z.length≤8:=by
 unfold Y7 at h;rw[Bool.or_eq_true]at h;rcases h with h |h
 ·unfold XI at h;rw[YJe,YJe,beq_iff_eq]at h;show z.cps.size≤8
  lia
 ·exact YDW h
theorem YF9 {r:Y2} (h:J0 r=true):(Zf r).short=true:=by
 unfold J0 at h;simp only[YJe]at h;obtain⟨h1,⟨h2,h3⟩,h4⟩:=h;unfold Zf D.short;refine XY fun d hd=>?_
 simp only[YJg,YJ8,or_false]at hd;rcases hd with rfl |rfl |rfl
 ·exact YBU (YJt (YDW h1) (by decide))
 ·unfold D.short;refine XY fun d hd=>?_
  obtain⟨z,hz,rfl⟩:=YJh.mp hd;exact YBU (YJt (YEv (YJ6.mp h3 z hz)) (by decide))
 ·unfold D.short;rfl
theorem YGA {g:ZF} (h:ZT g=true):(YBB g).short=true:=by
 unfold ZT at h;rw[YJe]at h;unfold YBB D.short;refine XY fun d hd=>?_
 obtain⟨r,hr,rfl⟩:=YJh.mp hd;exact YF9 (YJ6.mp h.2 r hr)
theorem YAY {g:ZF} (h:ZT g=true):g.length≤60:=by
 unfold ZT at h;rw[YJe]at h;exact YJm h.1
def oV:Option Int→V
 |none=>.non
 |some i=>.int i
inductive YGs (K:W.Frag) (vs:List V) (H:Hp) (Q:VK):Prop where
 |mk (a:Addr) (ns:List Int) (k:Int) (h0_:vs=[.ref a,.int k]) (h1_:SqL K H a (ns.map V.int)) (h2_:0≤k) (h3_:∀v:Int,Q (.int v) H):YGs K vs H Q
def YEE (K:W.Frag):Sp:=fun vs H Q E_=>YGs K vs H Q
inductive YIm (K:W.Frag) (vs:List V) (H:Hp) (Q:VK):Prop where
 |mk (a:Addr) (ns:List Int) (h0_:vs=[.ref a]) (h1_:SqL K H a (ns.map V.int)) (h2_:ns.length≤63) (h3_:YS H) (h4_:∀H',Q (.bl true) H'):YIm K vs H Q
def YEw (K:W.Frag):Sp:=fun vs H Q E_=>YIm K vs H Q
theorem YHb {K:W.Frag}{H:Hp}{a:Addr}{ns:List Int} (hl:ns.length≤63) (hO:Only H) (hS:SqL K H a (ns.map V.int)):YEw K [.ref a] H (fun v _=>v=.bl true) fun _ _ _=>False:=
 ⟨a,ns,rfl,hS,hl,YF7 hO,fun _=>rfl⟩
def YGt (l:List Nat):Bool:=decide (1≤l.length) && decide (l.length≤8) && l.all ZM
theorem YBl (z:Str):isNameS z=YGt z.cps.toList:=by
 unfold isNameS YGt;rw[YJ4]
def BIG:Str:="ABCDEFGHIJKLMNOPQRSTUVWXYZ"
theorem YIn:BIG.cps.toList=(List.range 26).map (65 + ·):=by decide +kernel
theorem YEF:BIG.cps.toList.length=26:=by decide +kernel
theorem YCS:BIG.length≤sizeLine:=YG (by decide +kernel)
theorem YAt {c:Nat} (h:c∈BIG.cps.toList):ZM c=true:=by
 rw[YIn]at h;obtain⟨k,hk,rfl⟩:=YJh.mp h;have:=YKG.mp hk;unfold ZM;rw[YJU (by lia),YJU (by lia)];rfl
theorem YAI (a b:Str):(a ++ b).cps.toList=a.cps.toList ++ b.cps.toList:=by
 show(a.cps ++ b.cps).toList=_;exact Array.toList_append
def strOf:Expr→Str
 |.Constant (.str x) _ _=>x
 |.BinOp _ _ b _=>strOf b
 |_=>⟨#[]⟩
def valOf:Stmt→Str
 |.Assign _ v _=>strOf v
 |.Return (some v) _=>strOf v
 |_=>⟨#[]⟩
def YEG (s:Stmt) (i:Nat):Str:=valOf ((Zs s).getD i (.Pass ⟨0,0,0,0⟩))
def YBV:List Nat:=(List.range 95).filterMap fun k=>if k=5 then none else some (32 + k)
theorem YGB {c:Nat} (h:c∈YBV):Z3 c=true:=by
 obtain⟨k,hk,e⟩:=List.mem_filterMap.mp h;have:=YKG.mp hk;unfold Z3;split at e
 ·cases e
 ·cases e;rw[YJU (by lia),YJU (by lia),YJV (by lia)];rfl
theorem YHc:YBV.length=94:=by decide +kernel
theorem q_list:(("'":Str)).cps.toList=[39]:=by decide +kernel
theorem YEx (c:Nat):(("'":Str) ++ ⟨#[c]⟩).cps=#[39,c]:=by
 apply Array.ext';rw[YAI,q_list];rfl
theorem YHd {c:Nat} (h:Z3 c=true):XI (("'":Str) ++ ⟨#[c]⟩)=true:=by
 unfold XI;rw[YEx];show(true && Z3 c)=true;rw[h];rfl
theorem YHe {c:Nat} (h:Z3 c=true):Y7 (("'":Str) ++ ⟨#[c]⟩)=true:=by
 unfold Y7;rw[YHd h];rfl
theorem YHf {r:Y2} (h1:isNameS r.1=true) (h2:r.2.1.length≤6) (h3:∀z∈r.2.1,Y7 z=true) (h4:0≤r.2.2) (h5:r.2.2≤10 ^ 60):J0 r=true:=by
 unfold J0;have a:r.2.1.all Y7=true:=YJ6.mpr h3;rw[h1,YJU h2,a,YJU h4,YJU h5];rfl
theorem YAu {ys:List V}{P:Str→Prop} (h:∀(k:Nat) (y:V),ys[k]?=some y→∃z,y=.str z∧P z):∃zs:List Str,ys=zs.map V.str∧∀z∈zs,P z:=by
 induction ys with
 |nil=>exact⟨[],rfl,by simp⟩
 |cons y ys ih=>
  obtain⟨zs,rfl,hz⟩:=ih fun k y e=>h (k + 1) y (by simpa using e)
  obtain⟨z,rfl,pz⟩:=h 0 y rfl;exact⟨z :: zs,rfl,fun x hx=>(YJg.mp hx).elim (fun e=>by rw[e];exact pz) (hz x)⟩
theorem YIo {x:Str}{j:Int} (h0:0≤j) (h1:j≤x.length):(Txt.slice x none (some j)).cps.toList=x.cps.toList.take j.toNat:=by
 have h:=PyProof.Rows.slice_closes_to (x:=x) (j:=j) ⟨h0,by rw[YJ4];exact h1⟩;have e:=eq_of_beq h;rw[e];show((x.cps.toList.drop (0:Int).toNat).take (j - 0).toNat)=_;rw[Int.sub_zero];rfl
theorem YGC {x:Str}{i:Int} (h0:0≤i) (h1:i≤x.length):(Txt.slice x (some i) none).cps.toList=x.cps.toList.drop i.toNat:=by
 have e:=PyProof.Rows.slice_from_eq (x:=x) (i:=i) (b:=x.length) h0 h1 rfl;rw[e];show((x.cps.toList.drop i.toNat).take ((x.length:Int) - i).toNat)=_;refine YKM ?_;rw[YKT,YJ4];have:x.length=x.cps.size:=rfl
 lia
abbrev Sz:=List (Str×Int)
def szD (s:Sz):List (Key×V):=s.map fun p=>(Sum.inr p.1,.int p.2)
def look (s:Sz) (z:Str):Option Int:=(s.find? fun p=>decide (p.1=z)).map (·.2)
def XZ:Sz→Str→Int→Sz
 |[],z,n=>[(z,n)]
 |p :: s,z,n=>if p.1=z then (z,n) :: s else p :: XZ s z n
theorem JO (p:Str×Int) (s:Sz) (z:Str):look (p :: s) z=if p.1=z then some p.2 else look s z:=by
 unfold look;rw[YKr]
 by_cases h:p.1=z
 ·rw[YJU h,if_pos h];rfl
 ·rw[YJV h,if_neg h]
theorem Xa (s:Sz) (z y:Str) (n:Int):look (XZ s z n) y=if y=z then some n else look s y:=by
 induction s with
 |nil=>
  show look [(z,n)] y=_;rw[JO]
  by_cases h:y=z
  ·rw[if_pos h,if_pos h.symm]
  ·rw[if_neg h,if_neg (fun e=>h e.symm)]
 |cons p s ih=>
  unfold XZ
  by_cases hp:p.1=z
  ·rw[if_pos hp,JO,JO]
   by_cases h:y=z
   ·rw[if_pos h,if_pos h.symm]
   ·rw[if_neg h,if_neg (fun e=>h e.symm),if_neg (fun e=>h (e.symm.trans hp))]
  ·rw[if_neg hp,JO,JO,ih]
   by_cases h:y=z
   ·rw[if_pos h,if_neg (fun e=>hp (e.trans h))];rw[if_pos h]
   ·rw[if_neg h];simp only[if_neg h]
theorem Xb {s:Sz}{z:Str}{n:Int} (h:look s z=some n):(z,n)∈s:=by
 unfold look at h;cases e:s.find? fun p=>decide (p.1=z) with
 |none=>rw[e]at h;cases h
 |some p=>
  rw[e]at h;have h1:=List.find?_some e;have h2:p.1=z:=YJm h1;have h3:p.2=n:=YJk h;have:=YKp e;rw[←h2,←h3];exact this
theorem YHg {s:Sz}{z:Str} (h:look s z=none):¬z∈s.map (·.1):=by
 intro m;obtain⟨p,hp,e⟩:=YJh.mp m;unfold look at h;cases e2:s.find? fun p=>decide (p.1=z) with
 |some q=>rw[e2]at h;cases h
 |none=>
  have:=List.find?_eq_none.mp e2 p hp;exact this (YJU e)
theorem XL {s:Sz} (nd:(s.map (·.1)).Nodup) {z:Str}{n:Int} (h:(z,n)∈s):look s z=some n:=by
 induction s with
 |nil=>cases h
 |cons p s ih=>
  rw[YJ1,YKS]at nd;rw[JO];rcases YJg.mp h with e |h
  ·rw[←e,if_pos rfl]
  ·rw[if_neg,ih nd.2 h];intro e;exact nd.1 (e ▸ YJh.mpr ⟨_,h,rfl⟩)
theorem YEy (s:Sz) (z:Str) (n:Int):(XZ s z n).map (·.1)=if z∈s.map (·.1) then s.map (·.1) else s.map (·.1) ++ [z]:=by
 induction s with
 |nil=>rfl
 |cons p s ih=>
  unfold XZ
  by_cases h:p.1=z
  ·rw[if_pos h,if_pos (by rw[YJ1,h];exact YJp ..),YJ1,YJ1,h]
  ·rw[if_neg h,YJ1,ih,YJ1]
   by_cases m:z∈s.map (·.1)
   ·rw[if_pos m,if_pos (YJf _ m)]
   ·rw[if_neg m,if_neg (fun e=>(YJg.mp e).elim (fun e=>h e.symm) m)];rfl
theorem Xc (z:Str):∀s:Sz,Yw (szD s) (Sum.inr z)=(look s z).map V.int
 |[]=>rfl
 |p :: s=>by
  show Yw ((Sum.inr p.1,V.int p.2) :: szD s) (Sum.inr z)=_;rw[JO]
  by_cases e:p.1=z
  ·rw[ZS (by rw[e]),if_pos e];rfl
  ·rw[Ze (fun h=>e (Sum.inr.inj h)),Xc z s,if_neg e]
theorem put_szD {s:Sz} (nd:(s.map (·.1)).Nodup) (z:Str) (n:Int):Ys (szD s) (Sum.inr z) (.int n)=szD (XZ s z n):=by
 induction s with
 |nil=>rfl
 |cons p s ih=>
  rw[YJ1,YKS]at nd;unfold XZ
  by_cases e:p.1=z
  ·rw[if_pos e];have:Yw (szD (p :: s)) (Sum.inr z)=some (.int p.2):=by
    show Yw ((Sum.inr p.1,V.int p.2) :: szD s) (Sum.inr z)=_;rw[ZS (by rw[e])]
   unfold Ys;rw[Zm,this,if_pos (show(some (V.int p.snd)).isSome=true from rfl)];show((Sum.inr p.1,V.int p.2) :: szD s).map _=(Sum.inr z,V.int n) :: szD s;rw[YJ1];congr 1
   ·show(if (Sum.inr p.1:Key)=Sum.inr z then _ else _)=_;rw[if_pos (by rw[e]),e]
   ·refine(YKK fun q hq=>?_).trans (List.map_id _);obtain⟨r,hr,rfl⟩:=YJh.mp hq;show(if (Sum.inr r.1:Key)=Sum.inr z then _ else _)=_;rw[if_neg]
    ·rfl
    ·intro h;exact nd.1 (by rw[e,←Sum.inr.inj h];exact YJh.mpr ⟨r,hr,rfl⟩)
  ·rw[if_neg e];have ih:=ih nd.2;show Ys ((Sum.inr p.1,V.int p.2) :: szD s) (Sum.inr z) (.int n)=(Sum.inr p.1,V.int p.2) :: szD (XZ s z n);rw[←ih];unfold Ys;have e1:(((Sum.inr p.1,V.int p.2) :: szD s).any fun kv=>decide (kv.1=(Sum.inr z:Key)))=(szD s).any fun kv=>decide (kv.1=(Sum.inr z:Key)):=by
    rw[List.any_cons,YJV (fun h=>e (Sum.inr.inj h))];rfl
   rw[e1];split
   ·rw[YJ1];congr 1;show(if (Sum.inr p.1:Key)=Sum.inr z then _ else _)=_;rw[if_neg (fun h=>e (Sum.inr.inj h))]
   ·rfl
def isQ (p:Str):Bool:=Txt.startswith p "'"
def Jo (s:Sz) (q:Int) (p:Str):Option Int:=if isQ p=true then some q else look s p
def Zu (s:Sz) (q:Int):List Str→Int→Option Int
 |[],acc=>some acc
 |p :: ps,acc=>match Jo s q p with
  |none=>none
  |some m=>Zu s q ps (acc + m)
def X0 (s:Sz) (q:Int) (ps:List Str):Option Int:=Zu s q ps 1
def LeS (s' s:Sz):Prop:=∀z v,look s z=some v→∃v',look s' z=some v'∧v'≤v
theorem Xp {s s':Sz}{q:Int} (h:LeS s' s):∀{ps:List Str}{a a' k:Int},a'≤a→Zu s q ps a=some k→∃k',Zu s' q ps a'=some k'∧k'≤k
 |[],a,a',k,ha,e=>by
  unfold Zu at e ⊢;cases e;exact⟨_,rfl,ha⟩
 |p :: ps,a,a',k,ha,e=>by
  unfold Zu at e ⊢;unfold Jo at e ⊢
  by_cases hq:isQ p=true
  ·rw[if_pos hq]at e ⊢;exact Xp h (by lia) e
  ·rw[if_neg hq]at e ⊢;cases e1:look s p with
   |none=>rw[e1]at e;cases e
   |some v=>
    rw[e1]at e;obtain⟨v',e2,hv⟩:=h p v e1;rw[e2];exact Xp h (show a' + v'≤a + v by lia) e
theorem YEz {s:Sz}{q B:Int} (hq:q≤B) (hs:∀z v,look s z=some v→v≤B):∀{ps:List Str}{a k:Int},Zu s q ps a=some k→k≤a + ps.length * B
 |[],a,k,e=>by
  unfold Zu at e;cases e;simp
 |p :: ps,a,k,e=>by
  unfold Zu at e;cases e1:Jo s q p with
  |none=>rw[e1]at e;cases e
  |some m=>
   rw[e1]at e;have hm:m≤B:=by
    unfold Jo at e1;split at e1
    ·cases e1;exact hq
    ·exact hs p m e1
   have:=YEz hq hs e;rw[YJn,show(((ps.length + 1:Nat):Int)) * B=ps.length * B + B by rw[Int.natCast_add];show((ps.length:Int) + 1) * B=_;rw[Int.add_mul,Int.one_mul]]
   lia
theorem YE0 {s:Sz}{q:Int} (hq:0≤q) (hs:∀z v,look s z=some v→0≤v):∀{ps:List Str}{a k:Int},Zu s q ps a=some k→a≤k
 |[],a,k,e=>by
  unfold Zu at e;cases e;exact YKI _
 |p :: ps,a,k,e=>by
  unfold Zu at e;cases e1:Jo s q p with
  |none=>rw[e1]at e;cases e
  |some m=>
   rw[e1]at e;have hm:0≤m:=by
    unfold Jo at e1;split at e1
    ·cases e1;exact hq
    ·exact hs p m e1
   have:=YE0 hq hs e
   lia
def bnd (q:Int) (n:Nat):Int:=(1 + 6 * q) * 7 ^ n
theorem YGu {q:Int} (hq:0≤q) (n:Nat):1 + 6 * q≤bnd q n:=by
 unfold bnd;have h1:(1:Int)≤7 ^ n:=Int.pow_pos (by decide:(0:Int) < 7);have:=YKy h1 (show 0≤1 + 6 * q by lia);rw[Int.mul_one]at this;exact this
theorem YE1 (q:Int) (n:Nat):bnd q (n + 1)=7 * bnd q n:=by
 unfold bnd;rw[Int.pow_succ,←Int.mul_assoc,Int.mul_comm]
theorem YE2 {q:Int} (hq:0≤q) {m n:Nat} (h:m≤n):bnd q m≤bnd q n:=by
 induction h with
 |refl=>exact YKI _
 |step _ ih=>
  rename_i k _
  rw[YE1];have h2:=YGu hq k
  lia
structure YAJ (g:ZF) (q:Int) (s:Sz):Prop where
 nd:(s.map (·.1)).Nodup
 pos:∀z v,look s z=some v→1≤v
 bd:∀z v,look s z=some v→v≤bnd q s.length
 hd:∀z v,look s z=some v→∃r∈g,r.1=z∧∃m,X0 s q r.2.1=some m∧m≤v
def Fix (g:ZF) (q:Int) (s:Sz):Prop:=∀r∈g,∀m,X0 s q r.2.1=some m→∃v,look s r.1=some v∧v≤m
theorem YAZ {κ:Type}:∀{l:List κ}{k:κ},l.Nodup→¬k∈l→(l ++ [k]).Nodup
 |[],k,_,_=>by simp
 |a :: r,k,h,hk=>by
  obtain⟨h1,h2⟩:=YKS.mp h;show(a :: (r ++ [k])).Nodup;refine YKS.mpr ⟨fun m=>?_,YAZ h2 fun m=>hk (YJg.mpr (Or.inr m))⟩;rcases YJs.mp m with q |q
  ·exact h1 q
  ·exact hk (YJg.mpr (Or.inl (YJW.mp q).symm))
theorem YDX {xs ys:List Str} (h:xs.Nodup) (hs:∀x∈xs,x∈ys):xs.length≤ys.length:=by
 induction xs generalizing ys with
 |nil=>exact YJw _
 |cons x xs ih=>
  rw[YKS]at h;have hx:=hs x (YJp ..);have:=ih (ys:=ys.erase x) h.2 fun y hy=>by
   have hne:y≠x:=fun e=>h.1 (e ▸ hy)
   exact(List.mem_erase_of_ne hne).mpr (hs y (YJf _ hy))
  rw[List.length_erase_of_mem hx]at this;have hpos:=List.length_pos_of_mem hx;rw[YJn]
  lia
theorem YAJ.len {g:ZF}{q:Int}{s:Sz} (h:YAJ g q s):s.length≤g.length:=by
 have:=YDX (ys:=g.map (·.1)) h.nd fun x hx=>by
  obtain⟨p,hp,rfl⟩:=YJh.mp hx;obtain⟨r,hr,e,_⟩:=h.hd p.1 p.2 (XL h.nd hp);rw[←e];exact YJh.mpr ⟨r,hr,rfl⟩
 rwa [YJL,YJL]at this
def mu (g:ZF) (q:Int) (s:Sz):Nat:=(g.map fun r=>match look s r.1 with
 |none=>(bnd q 60).toNat + 1
 |some v=>v.toNat).sum
theorem YGD {α:Type}{f f':α→Nat}:∀{l:List α},(∀x∈l,f' x≤f x)→(∃x∈l,f' x < f x)→(l.map f').sum < (l.map f).sum
 |[],_,⟨_,h,_⟩=>by cases h
 |a :: l,h,⟨x,hx,hlt⟩=>by
  rw[YJ1,YJ1,List.sum_cons,List.sum_cons];have ha:=h a (YJp ..);have hle:∀(l:List α),(∀x∈l,f' x≤f x)→(l.map f').sum≤(l.map f).sum:=by
   intro l
   induction l with
   |nil=>intro _;exact YJP _
   |cons b l ih=>
    intro h;rw[YJ1,YJ1,List.sum_cons,List.sum_cons];have h1:=h b (YJp ..);have h2:=ih fun x hx=>h x (YJf _ hx)
    lia
  rcases YJg.mp hx with rfl |hx
  ·have:=hle l fun x hx=>h x (YJf _ hx)
   lia
  ·have:=YGD (fun x hx=>h x (YJf _ hx)) ⟨x,hx,hlt⟩
   lia
theorem YGv (s:Sz) (z:Str) (n:Int):(XZ s z n).length=if z∈s.map (·.1) then s.length else s.length + 1:=by
 have:=YKV List.length (YEy s z n);rw[YJL]at this;rw[this];split
 ·rw[YJL]
 ·rw[YJd,YJL];rfl
theorem YAJ.step {g:ZF}{q:Int}{s:Sz} (hg:ZT g=true) (hq:0≤q) (h:YAJ g q s) {r:Y2} (hr:r∈g) {m:Int} (hm:X0 s q r.2.1=some m) (hv:∀v,look s r.1=some v→m < v):
  YAJ g q (XZ s r.1 m)∧mu g q (XZ s r.1 m) < mu g q s:=by
 have hg60:g.length≤60:=by
  unfold ZT at hg;rw[YJe]at hg;exact YJm hg.1
 have hr6:r.2.1.length≤6:=by
  unfold ZT at hg;rw[YJe]at hg;have:=YJ6.mp hg.2 r hr;unfold J0 at this;simp only[YJe,YKE]at this;exact this.2.1.1
 have hB:=YGu hq s.length;have hm1:1≤m:=YE0 hq (fun z v e=>YKL (by decide) (h.pos z v e)) hm;have hmB:m≤7 * bnd q s.length:=by
  have h1:=YEz (show q≤bnd q s.length by lia) h.bd hm;have h2:(r.2.1.length:Int) * bnd q s.length≤6 * bnd q s.length:=YKu (by lia) (by lia)
  lia
 have le:LeS (XZ s r.1 m) s:=fun z v e=>by
  rw[Xa]
  by_cases hz:z=r.1
  ·rw[if_pos hz];have:=hv v (hz ▸ e);exact⟨m,rfl,by lia⟩
  ·rw[if_neg hz];exact⟨v,e,YKI _⟩
 have nd':((XZ s r.1 m).map (·.1)).Nodup:=by
  rw[YEy];split
  ·exact h.nd
  ·rename_i hn
   exact YAZ h.nd hn
 have bd':m≤bnd q (XZ s r.1 m).length:=by
  rw[YGv];split
  ·rename_i hmem
   obtain⟨p,hp,e⟩:=YJh.mp hmem;have:=XL h.nd (z:=p.1) (n:=p.2) hp;rw[e]at this;have h1:=hv _ this;have h2:=h.bd _ _ this
   lia
  ·rw[YE1];exact hmB
 have lenle:s.length≤(XZ s r.1 m).length:=by
  rw[YGv];split <;> lia
 have ok':YAJ g q (XZ s r.1 m):=by
  refine⟨nd',fun z v e=>?_,fun z v e=>?_,fun z v e=>?_⟩
  ·rw[Xa]at e;split at e
   ·cases e;exact hm1
   ·exact h.pos z v e
  ·rw[Xa]at e;split at e
   ·cases e;exact bd'
   ·exact YKL (h.bd z v e) (YE2 hq lenle)
  ·rw[Xa]at e;split at e
   ·rename_i hz
    cases e;obtain⟨k',e1,e2⟩:=Xp le (YKI 1) hm;exact⟨r,hr,hz.symm,k',e1,e2⟩
   ·obtain⟨r',hr',e1,k,e2,e3⟩:=h.hd z v e;obtain⟨k',e4,e5⟩:=Xp le (YKI 1) e2;exact⟨r',hr',e1,k',e4,by lia⟩
 refine⟨ok',?_⟩;have hB60:bnd q (XZ s r.1 m).length≤bnd q 60:=YE2 hq (YJt ok'.len hg60);have hmB60:m≤bnd q 60:=YKL bd' hB60;unfold mu;refine YGD (fun x hx=>?_) ⟨r,hr,?_⟩
 ·rw[Xa]
  by_cases hz:x.1=r.1
  ·rw[if_pos hz,hz];cases e:look s r.1 with
   |none=>show m.toNat≤(bnd q 60).toNat + 1;lia
   |some v=>
    have:=hv v e;show m.toNat≤v.toNat
    lia
  ·rw[if_neg hz];exact YJP _
 ·rw[Xa,if_pos rfl];cases e:look s r.1 with
  |none=>show m.toNat < (bnd q 60).toNat + 1;lia
  |some v=>
   have:=hv v e;show m.toNat < v.toNat
   lia
theorem YAJ.nil (g:ZF) (q:Int):YAJ g q [] where
 nd:=List.nodup_nil
 pos:=fun z v e=>by cases e
 bd:=fun z v e=>by cases e
 hd:=fun z v e=>by cases e
abbrev Wait:=Str ⊕ Nat
def numD (g:ZF):D→Option Y2
 |.int i=>if 0≤i then g[i.toNat]? else none
 |_=>none
structure Rdg where
 sg:List Nat
 bg:List Nat
 st:List Nat
def sgn (p:Str):Nat:=p.cps.getD 1 0
def fin (g:ZF):List Wait→Rdg→List D→Option Rdg
 |[],s,[]=>some s
 |[],_,_ :: _=>none
 |.inr k :: ws,s,ds=>fin g ws ⟨s.sg,s.bg,s.st.set k s.sg.length⟩ ds
 |.inl p :: ws,s,ds=>
  if isQ p=true then fin g ws ⟨s.sg ++ [sgn p],s.bg,s.st⟩ ds
  else match ds with
   |[]=>none
   |d :: ds'=>match numD g d with
    |none=>none
    |some r=>if r.1=p then fin g (r.2.1.map Sum.inl ++ (Sum.inr s.bg.length :: ws)) ⟨s.sg,s.bg ++ [s.sg.length],s.st ++ [s.sg.length]⟩ ds' else none
termination_by ws _ ds=>(ds.length,ws.length)
decreasing_by
 all_goals simp_wf
 all_goals first
  |(apply Prod.Lex.right;lia)
  |(apply Prod.Lex.left;lia)
end FR
namespace L2
open PySem PySem.Spec PyProof.Rows
section
variable {X:Cx}
variable {e:Expr}{es es0:List Expr}{t0 t:TA}{name:Str}{apos cpos pos0:Pos}{k0:Nat}{id:String}{r:V→List V→Hp→VK→Prop}
end
end L2
namespace L2
open PySem PySem.Spec PyProof.Rows
section
open PySem.W
variable {K:W.Frag}{M:Model}
end
section
variable {X:Cx}
end
end L2
namespace L2
open PySem PySem.Spec PyProof.Rows
section
variable {X:Cx}{pins:List (Addr×Obj)}{σ:St}{H:Hp}{s:Shared}{d:Addr}{o:Obj}{kvs:List (Key×V)}
theorem Inv.freeze (I:Inv X pins σ H s) (hd:H d=some (.dK kvs)) (ho:s.heap.get? d=some o):Inv X pins σ (upd H d (.frz o (.dK kvs))) s:=by
 have nt:∀c xs,H c=some (.tup xs)→c≠d:=fun c xs r z=>by rw[z,hd]at r;cases r
 refine I.write (x:=d) (e:=d) (h':=s.heap) (t':=s.toks) (by rw[hd];trivial) (.inl rfl) (fun _ _ _ e=>e) ⟨o,ho⟩ ⟨ho,?_⟩;exact(I.hok d _ hd).stay (fun _ _ _ e=>e) (fun b e=>by rw[YH (YC8 e hd nofun)];exact e) fun b xs e=>by rw[YH (nt b xs e)];exact e
end
theorem KV.get {kvs:List (Key×V)}{vs:List (Key×Value)} (r:KV kvs vs):∀{i:Nat}{kv:Key×V},kvs[i]?=some kv→∃u,vs[i]?=some (kv.1,u)∧Yk kv.2 u:=by
 unfold KV at r
 induction r with
 |nil=>intro i kv e;cases e
 |@cons p q ps qs h t ih=>
  intro i kv e;cases i with
  |zero=>
   cases e;exact⟨q.2,by rw[h.1];rfl,h.2⟩
  |succ j=>exact ih (i:=j) e
section
variable {X:Cx}{elts:List Expr}{k:Nat}{tpos:Pos}
end
end L2
namespace FR
open PySem L2
end FR
namespace L2
open PySem PySem.Spec PyProof.Rows
theorem YIp:mroOf (.type "reversed")=pure [.type "reversed",.type "object"]:=by rw[mroOf_type];kernel_rfl
theorem rv_newl:typeLookup (.type "reversed") "__new__"=pure (some (.builtin "reversed.__new__")):=by rw[typeLookup_type,builtinLookup_eq_fast];kernel_rfl
theorem rv_init:Slot "reversed" "__init__" "object.__init__":=.of (owner:="object") (n:="__init__") (by rw[typeLookup_type,builtinLookup_eq_fast];kernel_rfl) (by decide +kernel) (by decide +kernel) (by decide +kernel) (by first |exact .inl (by decide +kernel) |exact .inr (by decide +kernel)) (by rw[isSubtype_type];kernel_rfl)
theorem YDY:TypeCalled "reversed" "reversed.__new__" "object.__init__":=⟨by decide +kernel,by decide +kernel,⟨_,_,YIp⟩,madeBy_type YIp rv_newl (by decide +kernel),by decide +kernel,by rw[isSubtype_type];kernel_rfl,rv_init⟩
theorem YE3 (a:Value):checkTypeCall "reversed" ⟨[a],[]⟩=pure ():=by kernel_rfl
theorem YGE (a:Value):checkBuiltinCall "reversed.__new__" ⟨[.type "reversed",a],[]⟩=pure ():=by kernel_rfl
theorem YIq:entryFor table "reversed.__new__"=some Builtin.«reversed.__new__»:=entryFor_of_tree (by kernel_rfl)
theorem rv_nsub:isSubtype (.type "list_reverseiterator") (.type "reversed")=pure false:=by rw[isSubtype_type];kernel_rfl
theorem YE4:Slot "list_reverseiterator" "__iter__" "list_reverseiterator.__iter__":=.of (owner:="list_reverseiterator") (n:="__iter__") (by rw[typeLookup_type,builtinLookup_eq_fast];kernel_rfl) (by decide +kernel) (by decide +kernel) (by decide +kernel) (by first |exact .inl (by decide +kernel) |exact .inr (by decide +kernel)) (by rw[isSubtype_type];kernel_rfl)
theorem YAK:Slot "list_reverseiterator" "__next__" "list_reverseiterator.__next__":=.of (owner:="list_reverseiterator") (n:="__next__") (by rw[typeLookup_type,builtinLookup_eq_fast];kernel_rfl) (by decide +kernel) (by decide +kernel) (by decide +kernel) (by first |exact .inl (by decide +kernel) |exact .inr (by decide +kernel)) (by rw[isSubtype_type];kernel_rfl)
theorem lr_entI:entryFor table "list_reverseiterator.__iter__"=some Builtin.«dict_keyiterator.__iter__»:=entryFor_alias (id':="dict_keyiterator.__iter__") (by kernel_rfl) rfl (by decide +kernel) (by kernel_rfl)
theorem YGw:entryFor table "list_reverseiterator.__next__"=some Builtin.«list_reverseiterator.__next__»:=entryFor_of_tree (by kernel_rfl)
theorem lr_argI (a:Value):argsOk "list_reverseiterator.__iter__" ⟨[a],[]⟩:=by unfold argsOk;kernel_rfl
theorem YGx (a:Value):argsOk "list_reverseiterator.__next__" ⟨[a],[]⟩:=by unfold argsOk;kernel_rfl
end L2
namespace L2
open PySem PySem.Spec PyProof.Rows
theorem YCT (l:Addr) (items:Array Value) (n:Nat):
  Meets (Builtin.«reversed.__new__» ⟨[.type "reversed",.ref l],[]⟩) (fun A R s=>s.heap.get? l=some { cls:=.type "list",dict:=none,data:=.seq items n,slots:=#[] }∧
   R (.ok (.ret (.ref s.heap.objs.size))) { s with heap:=s.heap.push { cls:=.type "list_reverseiterator",data:=.fields #[.ref l,rawInt ((items.size:Int) - 1)] } }):=
 .of_wp fun prog w A R s h=>by
  obtain⟨hp,g,d,tk,os⟩:=s;obtain⟨hl,h⟩:=h;have hsub:=YDY.sub;have hT:Shared.TypeIs ⟨hp,g,d,tk,os⟩ (.ref l) "list":=⟨_,hl,rfl⟩;have hrev:=F.slot_list_reversed.lookup;have hb:=F.slot_list_reversed.bind (.ref l)
  wp_walk
  have key:=AutoListH.list___reversed___list_0 l items n prog w A.in1 (fun(r:Result) (s':Shared)=>r=Except.ok (Flow.ret (Value.ref hp.objs.size))∧s'=⟨hp.push { cls:=.type "list_reverseiterator",data:=.fields #[.ref l,rawInt ((items.size:Int) - 1)] },g,d,tk,os⟩) ⟨hp,g,d,tk,os⟩ ⟨hl,rfl,rfl⟩;refine codeAny_mono (codeAny_call_builtin (R:=(fun(r:Result) (s':Shared)=>r=Except.ok (Flow.ret (Value.ref hp.objs.size))∧s'=⟨hp.push { cls:=.type "list_reverseiterator",data:=.fields #[.ref l,rawInt ((items.size:Int) - 1)] },g,d,tk,os⟩)) F.slot_list_reversed.plain F.entry_list_reversed (F.slot_list_reversed.check _ _ _ _ _ _ _ _ hT (F.args_list_reversed_1 _) key)) fun r s1 hr=>?_
  obtain⟨rfl,rfl⟩:=hr;exact YJb ⟨_,rfl,h⟩
section
variable {prog:Program}{w:World}{A:Around}{E:Value→Shared→Prop}{s:Shared}
theorem YCt {T T2 newId initId:String}{Bn:Builtin}{args:List Value}{S:PySem.Spec}{Q:Value→Shared→Prop} (ft:TypeCalled T newId initId) (hn:isSubtype (.type T2) (.type T)=pure false)
  (hct:checkTypeCall T ⟨args,[]⟩=pure ()) (hcn:checkBuiltinCall newId ⟨.type T :: args,[]⟩=pure ()) (entryN:entryFor table newId=some Bn) (g:Meets (Bn ⟨.type T :: args,[]⟩) S)
  (h:S A.in1 (wants (fun obj s1=>s1.TypeIs obj T2∧Q obj s1) E) s):wpAny (model prog w) A (call (.type T) args) Q E s:=by
 obtain⟨_,_,m0⟩:=ft.mro;have m1:=ft.made;have m2:=ft.sub;have m3:=ft.notType;have m4:=ft.canCreate;refine wpAny_call (codeAny_of_tree (show wpAny _ _ (callAny (.type T) _) _ _ _ from YJb ⟨Code.quiet_builtin _ (by decide +kernel),codeAny_builtin F.entry_type_call ?_⟩));rw[Around.under_plain (weight_type_call_type T args []) (units_type_call_type T args [])];repeat any_goals first |assumption |wp_step
 refine codeAny_mono (codeAny_call_builtin ft.plain entryN (wpAny_of_eq hcn (g prog w A.in1 _ s h))) fun r s1 hr=>?_
 rcases r with e |fl
 ·exact hr
 ·cases fl with
  |ret obj=>
   obtain⟨hT,hq⟩:=hr
   repeat any_goals first |assumption |wp_step
  |_=>exact hr.elim
theorem stop_it {α:Type}{Q:α→Shared→Prop}{E':Value→Shared→Prop} (hh:A.handled=none) (h:∀e h',(∀b o,s.heap.get? b=some o→h'.get? b=some o)→Shared.TypeIs { s with heap:=h' } e "StopIteration"→E' e { s with heap:=h' }):
  wpAny (model prog w) A (Builtin.SmallTypes.stopIteration:Sem α) Q E' s:=by
 unfold Builtin.SmallTypes.stopIteration;refine YJN ?_;simp only[newExc,newTuple];refine YJN (wpAny_newObj_type (YJN (m:=firstArgMember _ _) (wpAny_of_eq (a:=Value.none) (by first |rfl |(simp only[firstArgMember];rfl)) (wpAny_newObj_type ?_ (by size_fits)))) (by size_fits));simp only[raiseNew];refine YJN (wpAny_handled ?_);rw[hh];refine YJN (YJb (wpAny_throw (h _ _ (fun b o e=>YJO _ (YJO _ e)) ?_)));exact⟨_,YJc _ rfl,rfl⟩
def YEH (h:Heap) (it l:Addr) (i:Int):Prop:=∃o,h.get? it=some o∧o.cls=.type "list_reverseiterator"∧o.data=.fields #[.ref l,.int i 0]
theorem YCu {l:Addr}{items:Array Value}{n:Nat}{Q:Value→Shared→Prop} (hl:s.heap.get? l=some { cls:=.type "list",dict:=none,data:=.seq items n,slots:=#[] })
  (h:∀h',YEH h' s.heap.objs.size l ((items.size:Int) - 1)→(∀b o,s.heap.get? b=some o→h'.get? b=some o)→Q (.ref s.heap.objs.size) { s with heap:=h' }):wpAny (model prog w) A (call (.type "reversed") [.ref l]) Q E s:=by
 refine YCt YDY rv_nsub (YE3 _) (YGE _) YIq (YCT l items n) ⟨hl,?_⟩;exact⟨⟨_,YJc _ rfl,rfl⟩,h _ ⟨_,YJc _ rfl,rfl,rfl⟩ fun b o e=>YJO _ e⟩
theorem YDZ {it l:Addr}{i:Int}{Q:Value→Shared→Prop} (hit:YEH s.heap it l i) (h:Q (.ref it) s):wpAny (model prog w) A (pyIter (.ref it)) Q E s:=by
 obtain⟨o,ho,hc,hd⟩:=hit;have hT:s.TypeIs (.ref it) "list_reverseiterator":=⟨o,ho,hc⟩;refine wpAny_pyIter_slot hT YE4 (wpAny_call_entry YE4 hT lr_entI ?_ (lr_argI _));show wpAny _ _ (ret (.ref it)) _ _ s;exact YJb ⟨_,rfl,"list_reverseiterator",_,hT,YAK.lookup,h⟩
theorem YHh {it l:Addr}{i:Nat}{items:Array Value}{x:Value}{Q:Option Value→Shared→Prop} (hit:YEH s.heap it l i) (hl:s.heap.IsList l items) (hx:items[i]?=some x)
  (hQ:∀h',YEH h' it l ((i:Int) - 1)→Heap.SameBut it s.heap h'→Q (some x) { s with heap:=h' }):wpAny (model prog w) A (pyNext (.ref it)) Q E s:=by
 obtain⟨o,ho,hc,hd⟩:=id hit;obtain⟨ol,hol,_,nl,hdl⟩:=hl;have hT:s.TypeIs (.ref it) "list_reverseiterator":=⟨o,ho,hc⟩;unfold pyNext;refine YJN (wpAny_attempt (wpAny_callSpecial?_slot (name:=Str.ofString "__next__") hT YAK (wpAny_call_entry YAK hT YGw ?_ (YGx _))));unfold Builtin.«list_reverseiterator.__next__»;refine YJN (YJb (YJN (wpAny_field ho hd (x:=.int i 0) rfl ?_)));show wpAny _ _ (if ((i:Nat):Int) < 0 then _ else _) _ _ s;rw[if_neg (by lia)];refine YJN (wpAny_field ho hd (x:=.ref l) rfl (YJN (wpAny_seqItems hol hdl ?_)));simp only[hx,Int.toNat_natCast];exact YJN (wpAny_setField ho hd (by simp) (YJb ⟨_,rfl,YJb (hQ _ ⟨_,YKb _ ho (Obj.isFreed_of_fields (Obj.data_mapFields hd _)),(Obj.cls_mapFields ..).trans hc,by rw[Obj.data_mapFields hd];simp[rawInt]⟩ (Heap.SameBut.update ..))⟩))
theorem YIr {it l:Addr}{Q:Option Value→Shared→Prop} (hh:A.handled=none) (hit:YEH s.heap it l (-1)) (hQ:∀h',Heap.ExtBut it s.heap h'→Q none { s with heap:=h' }):wpAny (model prog w) A (pyNext (.ref it)) Q E s:=by
 obtain⟨o,ho,hc,hd⟩:=id hit;have hT:s.TypeIs (.ref it) "list_reverseiterator":=⟨o,ho,hc⟩;unfold pyNext;refine YJN (wpAny_attempt (wpAny_callSpecial?_slot (name:=Str.ofString "__next__") hT YAK (wpAny_call_entry YAK hT YGw ?_ (YGx _))));unfold Builtin.«list_reverseiterator.__next__»;refine YJN (YJb (YJN (wpAny_field ho hd (x:=.int (-1) 0) rfl ?_)));show wpAny _ _ (if (-1:Int) < 0 then _ else _) _ _ s;rw[if_pos (by decide)];refine YJN (wpAny_rule (YJN (stop_it (A:=A.in1) hh fun e h' k ty=>?_)));exact YJN (wpAny_isInstance (b:=true) ty isSubtype_stop (YJb (hQ h' fun b o _ q=>k b o q)))
end
end L2
namespace L2
open PySem PySem.Spec PyProof.Rows
theorem YIs:typeLookup (.type "list_reverseiterator") "__len__"=pure none:=by rw[typeLookup_type,builtinLookup_eq_fast];kernel_rfl
theorem lr_hint:typeLookup (.type "list_reverseiterator") "__length_hint__"=pure (some (.builtin "list_reverseiterator.__length_hint__")):=by rw[typeLookup_type,builtinLookup_eq_fast];kernel_rfl
section
variable {prog:Program}{w:World}{A:Around}{E:Value→Shared→Prop}{s:Shared}
theorem YGF (hh:A.handled=none) (it l:Addr) (hne:l≠it) (items:Array Value):
  Walks prog w A it [it,l] [it] items.size (fun i v=>items[items.size - 1 - i]?=some v) (fun i h=>YEH h it l ((items.size:Int) - 1 - i)∧h.IsList l items) where
 sub:=fun b hb=>by simp at hb;simp[hb]
 frame:=fun i h h' st hk=>by
  obtain⟨⟨o,a,b,c⟩,q⟩:=st;exact⟨⟨o,hk it (by simp) o a,b,c⟩,q.at fun o e=>hk l (by simp) o e⟩
 item:=fun i s Q E hi st hQ=>by
  have e:((items.size:Int) - 1 - (i:Nat))=((items.size - 1 - i:Nat):Int):=by lia
  rw[e]at st;refine YHh st.1 st.2 (x:=items[items.size - 1 - i]) (by simp) fun h' hit' hs'=>?_
  refine hQ _ h' s.toks (by simp) ⟨?_,st.2.extBut hs'.extBut hne⟩ fun b o hb q=>hs'.extBut b o (fun z=>hb (by simp[z])) q
  have e2:((items.size - 1 - i:Nat):Int) - 1=(items.size:Int) - 1 - ((i + 1:Nat):Int):=by lia
  rw[e2]at hit';exact hit'
 done:=fun s Q E st hQ=>by
  have e:((items.size:Int) - 1 - (items.size:Nat))=-1:=by lia
  rw[e]at st;exact YIr hh st.1 fun h' he'=>hQ h' s.toks fun b o hb q=>he' b o (fun z=>hb (by simp[z])) q
 self:=fun _ _ _ _ st hQ=>YDZ st.1 hQ
theorem YHi {it l:Addr}{i:Int}{Q:Bool→Shared→Prop} (hit:YEH s.heap it l i) (h:Q false s):wpAny (model prog w) A (Builtin.List.listLengthHint (.ref it)) Q E s:=by
 obtain⟨o,ho,hc,hd⟩:=hit;have hT:s.TypeIs (.ref it) "list_reverseiterator":=⟨o,ho,hc⟩;unfold Builtin.List.listLengthHint;refine YJN (wpAny_specialOf hT YIs ?_);show wpAny _ _ (specialOf (Value.ref it) (Str.ofString "__length_hint__") >>= _) _ _ _;refine YJN (wpAny_specialOf hT lr_hint ?_);generalize hid:("list_reverseiterator.__length_hint__":String)=id0
 wp_delta;rw[show splitId id0=some ("list_reverseiterator","__length_hint__") from by subst hid;decide +kernel];subst hid
 refine YJN (wpAny_isInstance (T:="list_reverseiterator") (b:=true) hT (by rw[isSubtype_type];kernel_rfl) ?_);exact YJb h
theorem YCU {it l:Addr}{items:Array Value}{Q:Value→Shared→Prop} (hh:A.handled=none) (hit:YEH s.heap it l ((items.size:Int) - 1)) (hl:s.heap.IsList l items) (hne:l≠it) (hn:items.size≤sizeLine)
  (hQ:∀h' tk acc' c',(∀b o,b≠it→s.heap.get? b=some o→h'.get? b=some o)→h'.get? s.heap.objs.size=some { cls:=.type "list",dict:=none,data:=.seq acc' c',slots:=#[] }→
   ItemsOf (fun i v=>items[items.size - 1 - i]?=some v) acc' items.size→Q (.ref s.heap.objs.size) { s with heap:=h',toks:=tk }):wpAny (model prog w) A (call (.type "list") [.ref it]) Q E s:=by
 have itlt:it < s.heap.objs.size:=by obtain⟨o,ho,_⟩:=hit;exact YJX ho
 have llt:l < s.heap.objs.size:=by obtain⟨o,ho,_⟩:=hl;exact YJX ho
 refine callType_codes (Q₁:=fun obj t=>obj=.ref s.heap.objs.size∧t={ s with heap:=s.heap.push { cls:=.type "list",data:=.seq #[] } }) F.called_list (F.typeCall_list_1 _) F.entry_list_init (code_list_new _ ⟨rfl,rfl⟩) fun obj t ht=>?_
 obtain⟨rfl,rfl⟩:=ht;have g0:(s.heap.push { cls:=.type "list",data:=.seq #[] }).get? s.heap.objs.size=some { cls:=.type "list",data:=.seq #[] }:=YJc _ rfl;refine⟨⟨_,g0,rfl⟩,F.args_list_init_2 _ _,?_⟩;show wpAny _ _ (Builtin.List.listItems (.ref s.heap.objs.size) >>= fun old=>Builtin.List.listUpdate (.ref s.heap.objs.size) (fun _=>#[]) >>= fun _=>letGo old.toList.reverse >>= fun _=>Builtin.List.listExtendWith (.ref s.heap.objs.size) (.ref it) .none) _ _ _;refine YJN ?_;unfold Builtin.List.listItems;refine YJN (wpAny_seqItems g0 rfl (YJb ?_));refine YJN (show wpAny _ _ (updateSeq s.heap.objs.size (fun _=>#[])) _ _ _ from wpAny_updateSeq g0 rfl ?_);have g1:=YKb (Obj.mapSeq (fun _=>(#[]:Array Value))) g0 rfl;have k1:∀b o,s.heap.get? b=some o→((s.heap.push { cls:=.type "list",data:=.seq #[] }).update s.heap.objs.size (Obj.mapSeq (fun _=>(#[]:Array Value)))).get? b=some o:=fun b o e=>
  (YKA _ _ (Nat.ne_of_gt (YJX e))).trans (YJO _ e)
 have hit1:YEH ((s.heap.push { cls:=.type "list",data:=.seq #[] }).update s.heap.objs.size (Obj.mapSeq (fun _=>(#[]:Array Value)))) it l ((items.size:Int) - 1):=by
  obtain⟨o,ho,r⟩:=hit;exact⟨o,k1 it o ho,r⟩
 have hl1:Heap.IsList ((s.heap.push { cls:=.type "list",data:=.seq #[] }).update s.heap.objs.size (Obj.mapSeq (fun _=>(#[]:Array Value)))) l items:=hl.at fun o e=>k1 l o e
 refine YJN (wpAny_letGo ?_);revert g1 k1 hit1 hl1;generalize (s.heap.push { cls:=.type "list",data:=.seq #[] }).update s.heap.objs.size (Obj.mapSeq (fun _=>(#[]:Array Value)))=h1;intro g1 k1 hit1 hl1;have hT:Shared.TypeIs { s with heap:=h1 } (.ref it) "list_reverseiterator":=by obtain⟨o,ho,hc,_⟩:=hit1;exact⟨o,ho,hc⟩
 unfold Builtin.List.listExtendWith;refine YJN (wpAny_typeOf hT ?_);have ns:Builtin.List.listSameRef (.ref s.heap.objs.size) (.ref it)=false:=by simp[Builtin.List.listSameRef,Nat.ne_of_gt itlt]
 rw[if_neg (by rw[ns];decide)];refine YJN (YDZ hit1 (YJN (wpAny_holding (YHi hit1 ?_))));refine(show wpAny _ _ (if _ then _ else _) _ _ _ from ?_);rw[if_neg (by decide)];have W:=(YGF (prog:=prog) (w:=w) (A:=A.in1.in1) hh it l hne items).toS;have nf:s.heap.objs.size∉[it,l]:=by simp only[YJg,YJ8,or_false,not_or];exact⟨Nat.ne_of_gt itlt,Nat.ne_of_gt llt⟩
 refine YJb ⟨plainId_quiet F.plain_extend_loop _,codeAny_extend_loopS W hn _ nf _ items.size 0 _ _ _ rfl (YJw _) ⟨by simpa using hit1,hl1⟩ g1 (ItemsOf.nil _) fun s' acc' c' hm hS' hacc=>?_⟩;rw[Moved.eq_with hm];refine⟨rfl,hQ s'.heap s'.toks acc' c' (fun b o hb e=>hm.heap b o (fun hmem=>?_) (k1 b o e)) hS' hacc⟩;rcases YJg.mp hmem with z |hmem
 ·rw[z]at e;exact YKB _ (YJX e)
 ·exact hb (YJW.mp hmem)
end
end L2
namespace L2
open PySem PySem.Spec PyProof.Rows
section
variable {X:Cx}{tg:Expr}
end
def YIt (ta:TA):TE:=fun σ H Q=>ta σ H fun vs H1=>∃a xs,vs=[.ref a]∧Rd H1 a (.lst xs)∧∀l,H1 l=none→Q (.ref l) (upd H1 l (.lst xs.reverse))
theorem YE5 {X:Cx}{a:Expr}{ta:TA}{p p2 pos pos2:Pos} (hc:X.calm=true) (hg:Gl X "list") (hm:X.mg "list"=none) (hg2:Gl X "reversed") (hm2:X.mg "reversed"=none) (ha:PA X [a] ta)
  (hs:starEach [.Call (.Name "reversed" p2) [a] [] pos2] X.env=[(false,eval (.Call (.Name "reversed" p2) [a] [] pos2) X.env)]:=by rfl) (hs2:starEach [a] X.env=[(false,eval a X.env)]:=by rfl):
  PE X (.Call (.Name "list" p) [.Call (.Name "reversed" p2) [a] [] pos2] [] pos) (YIt ta):=by
 intro pins s σ H Q I h;refine wpAny_Call_Name_kw (JK I hg hm YKU ?_);refine PyProof.Rows.callWith_type1 ?_ hs rfl;rw[hs];show wpAny _ _ (spliced ((false,eval (.Call (.Name "reversed" p2) [a] [] pos2) X.env) :: [])) _ _ s;refine Calls.spliced_cons (wpAny_Call_Name_kw (JK I hg2 hm2 PyProof.Rows.Boot.«reversed» (PyProof.Rows.callWith_type1 (thn (ha pos2 pins s σ H _ I h) fun us s1 ⟨vs,H1,I1,r1,q1⟩=>?_) hs2 rfl)));obtain⟨l,xs,rfl,hq,q⟩:=q1;obtain⟨u,rfl,ru⟩:=JJ r1;cases ru;obtain⟨hz,its,n,rv,hl⟩:=(show Yj X.prog X.w H1 s1.heap l (.lst xs) from hq.ok I1.hok);have hlen:xs.length=its.length:=rv.length;refine YCu hl fun h1 hit hk=>Calls.spliced_nil ?_
 refine YCU (s:={ s1 with heap:=h1 }) (items:=its.toArray) (I1.ok.hd hc) hit ⟨_,hk _ _ hl,rfl,n,rfl⟩ (YJq (YJX hl)) (by rw[YJa];lia) fun h' tk acc' c' hk' hS hit'=>?_
 have rv':Ye xs.reverse acc'.toList:=by
  refine YEB (by
   have e1:acc'.toList.length=its.length:=(Array.length_toList.trans hit'.1).trans (YJa ..);rw[YKg,hlen,e1]) fun j x u h1 h2=>?_
  have h3:=hit'.2 j u (by rw[←YKQ];exact h2);have hj:j < xs.length:=by
   have:=(YJM.mp h1).1
   rwa [YKg]at this
  rw[List.getElem?_reverse hj]at h1;obtain⟨u',e1,r'⟩:=rv.get h1;rw[List.getElem?_toArray,YJa,←hlen]at h3;rw[h3]at e1;cases e1;exact r'
 have le:s1.heap.objs.size≤h1.objs.size:=by
  obtain⟨o,ho,_⟩:=hit;exact YK6 (YJX ho)
 have kk:∀b u,s1.heap.get? b=some u→h'.get? b=some u:=fun b u e=>hk' b u (YJq (YJX e)) (hk b u e)
 exact⟨.ref h1.objs.size,_,I1.laid (t':=tk) kk le (show Yj X.prog X.w _ h' _ (.lst _) from⟨by rw[YKg];exact hz,acc'.toList,c',rv',by simpa using hS⟩),rfl,q _ (I1.hok.fresh le)⟩
end L2
namespace L2
open PySem PySem.Spec PyProof.Rows
section
variable {prog:Program}{w:World}{A:Around}{E:Value→Shared→Prop}{s:Shared}
end
section
variable {X:Cx}{elts:List Expr}{k:Nat}{tpos:Pos}
end
theorem J1 {K:W.Frag}{a:Addr}{xs:List V}{g:TG}{tb:TS}{D:YAf}{σ:St}{H:Hp} (Pv:Nat→St→Hp→Prop) (h0:Pv 0 σ H) (hl:∀i σ H,i≤xs.length→Pv i σ H→SqL K H a xs)
  (hs:∀i x T σ H,xs[i]?=some x→H T=none→Pv i σ H→g (.ref T) σ (upd H T (.tup [.int (i:Nat),x])) fun σ2 H2=>tb { D with nx:=Pv (i + 1),ct:=Pv (i + 1),bk:=D.nx } σ2 H2) (hd:∀σ H,Pv xs.length σ H→D.nx σ H):
  ∃W:Nat→Nat→St→Hp→Prop,(∃m,W 0 m σ H)∧∀i m σ H,W i m σ H→
   ((Ite K a).stop i H∧D.nx σ H)∨((Ite K a).go i H∧∃N:St→Hp→Prop,(∀σ' H',N σ' H'→∃m',m' < m∧W (i + 1) m' σ' H')∧∀x H',(Ite K a).yld i H x H'→g x σ H' fun σ2 H2=>tb { D with nx:=N,ct:=N,bk:=D.nx } σ2 H2):=by
 refine⟨fun i m σ H=>m=xs.length - i∧i≤xs.length∧Pv i σ H,⟨xs.length,by simp,YJw _,h0⟩,?_⟩;rintro i m σ H ⟨rfl,hi,p⟩;have q:=hl i σ H hi p
 by_cases hlt:i < xs.length
 ·refine .inr ⟨⟨xs,xs[i],q,by simp[hlt]⟩,Pv (i + 1),fun σ' H' p'=>⟨xs.length - (i + 1),by lia,rfl,hlt,p'⟩,fun x H' y=>?_⟩;obtain⟨T,hT,rfl,k⟩:=y;obtain⟨x,hx,rfl⟩:=k xs q;exact hs i x T σ H hx hT p
 ·have e:i=xs.length:=by lia
  subst e;exact .inl ⟨⟨xs,q,YJP _⟩,hd σ H p⟩
end L2
namespace FR
open PySem L2
theorem decS {x y:Str}:decide (V.str x=V.str y)=decide (x=y):=by
 by_cases h:x=y
 ·rw[YJU h,YJU (by rw[h])]
 ·rw[YJV h,YJV (fun e=>h (V.str.inj e))]
theorem YIu (z:Str):isQ z=decide (z.cps.toList[0]?=some 39):=by
 have e0:(("'":Str))=⟨#[39]⟩:=by decide +kernel
 unfold isQ;rw[e0,YKh,YKE];have:=StrLaws.subAt_one z 39 0;unfold Txt.startswith;rw[YJe,YKE];exact this
theorem YGG {p:Str} (h:Y7 p=true):∃c,atI p.cps.toList 0=some c∧p.length≤8∧decide (V.str ⟨#[c]⟩=V.str "'")=isQ p:=by
 have h8:=YEv h;have h1:0 < p.cps.toList.length:=by
  rw[YJ4];unfold Y7 at h;rw[Bool.or_eq_true]at h;rcases h with h |h
  ·unfold XI at h;rw[YJe,YJe]at h;have:p.cps.size=2:=eq_of_beq h.1.1
   lia
  ·unfold isNameS at h;rw[YJe,YJe]at h;have:1≤p.cps.size:=YJm h.1.1
   lia
 have e:p.cps.toList[0]?=some p.cps.toList[0]:=YJR h1;refine⟨p.cps.toList[0],Yy (j:=0) e,h8,?_⟩;rw[YIu,e,decS];have e0:(("'":Str))=⟨#[39]⟩:=by decide +kernel
 rw[e0]
 by_cases hc:p.cps.toList[0]=39
 ·rw[YJU (by rw[hc]),YJU (by rw[hc])]
 ·rw[YJV (fun z=>hc (by injection z with z;simpa using z)),YJV (fun z=>hc (YJk z))]
end FR
namespace L2
open PySem PySem.Spec PyProof.Rows
section
variable {X:Cx}{pins:List (Addr×Obj)}{σ:St}{H:Hp}{s:Shared}{a b:Addr}{kvs:List (List Key×V)}{k:List Key}{u r:Value}{v:V}{A:Around}{E:Value→Shared→Prop}
end
section
variable {X:Cx}{o e f:Expr}{apos cpos:Pos}{td ty tx:TE}
end
end L2
namespace FR
open PySem L2
inductive Nd where
 |part (p:Str) (i j:Nat)
 |beg (r d i j:Nat)
deriving DecidableEq
def ZE:Nd→List Key
 |.part p i j=>[.inr p,.inl (i:Int),.inl (j:Int)]
 |.beg r d i j=>[.inl (r:Int),.inl (d:Int),.inl (i:Int),.inl (j:Int)]
theorem YCV {x y:Nd} (h:ZE x=ZE y):x=y:=by
 cases x <;> cases y <;> simp only[ZE,List.cons.injEq,Sum.inl.injEq,Sum.inr.injEq,Int.ofNat_inj,and_true,reduceCtorEq,and_false,false_and]at h
 ·obtain⟨h1,h2,h3⟩:=h;rw[h1,h2,h3]
 ·obtain⟨h1,h2,h3,h4⟩:=h;rw[h1,h2,h3,h4]
end FR
namespace L2
open PySem PySem.Spec PyProof.Rows
section
variable {X:Cx}{elts:List Expr}{k:Nat}{tpos:Pos}
end
end L2
namespace L2
open PySem PySem.Spec PyProof.Rows
section
variable {X:Cx}{pins:List (Addr×Obj)}{σ:St}{H:Hp}{s:Shared}{d:Addr}{kvs:List (List Key×V)}
theorem Inv.freezeT (I:Inv X pins σ H s) (hd:H d=some (.dT kvs)):∃o,Inv X pins σ (upd H d (.frz o (.dT kvs))) s:=by
 have nt:∀c xs,H c=some (.tup xs)→c≠d:=fun c xs r z=>by rw[z,hd]at r;cases r
 obtain⟨_,_,_,_,o,_,_,ho,_⟩:=(show Yj X.prog X.w H s.heap d (.dT kvs) from I.hok d _ hd);refine⟨o,I.write (x:=d) (e:=d) (h':=s.heap) (t':=s.toks) (by rw[hd];trivial) (.inl rfl) (fun _ _ _ e=>e) ⟨o,ho⟩ ⟨ho,?_⟩⟩;exact(I.hok d _ hd).stay (fun _ _ _ e=>e) (fun b e=>by rw[YH (YC8 e hd nofun)];exact e) fun b xs e=>by rw[YH (nt b xs e)];exact e
end
section
variable {X:Cx}
end
end L2
namespace L2
open PySem PySem.Spec PyProof.Rows
section
variable {prog:Program}{w:World}{A:Around}{E:Value→Shared→Prop}{s:Shared}
end
theorem KT.get {H:Hp}{kvs:List (List Key×V)}{xs:List (List Key×Addr×Value)} (r:KT H kvs xs):∀{i:Nat}{kv:List Key×V},kvs[i]?=some kv→∃b u,xs[i]?=some (kv.1,b,u)∧H b=some (.tup (kv.1.map kV))∧Yk kv.2 u:=by
 unfold KT at r
 induction r with
 |nil=>intro i kv e;cases e
 |@cons p q ps qs h t ih=>
  intro i kv e;cases i with
  |zero=>
   cases e;exact⟨q.2.1,q.2.2,by rw[h.1];rfl,h.2.1,h.2.2⟩
  |succ j=>exact ih (i:=j) e
section
variable {X:Cx}{elts:List Expr}{k:Nat}{tpos:Pos}
end
end L2
namespace L2
open PySem PySem.Spec PyProof.Rows
section
variable {X:Cx}
theorem YHj (K:W.Frag) (hK:X.K=K):Zl X (.builtin "isinstance") (fun xs H Q=>(∃x c t u b,xs=[x,c]∧YAg K H x t∧clsV c=some u∧PySem.W.kitOne K t u=some b∧Q (.bl b) H)∨
  ∃a o kvs c u b,xs=[.ref a,c]∧H a=some (.frz o (.dT kvs))∧clsV c=some u∧PySem.W.kitOne K (.type "dict") u=some b∧Q (.bl b) H):=by
 subst hK;intro pins s σ H xs us Q I r h;rcases h with h |⟨a,o,kvs,c,u,b,rfl,ha,rc,e,q⟩
 ·exact YEs pins s σ H xs us Q I r h
 ·obtain⟨v,w,rfl,rv,rw'⟩:=YB8 r;cases rv;have eu:w=u:=YEr rc rw';subst eu;obtain⟨h0,_,_,xs,_,o2,es,ep,h1,h2,_⟩:=(show Yj X.prog X.w H s.heap a (.frz o (.dT kvs)) from I.hok a _ ha);exact PySem.W.kia_one PySem.W.kitx_dict I.kIn ⟨o2,h1,h2.1⟩ e nofun fun tk=>⟨.bl b,H,I.tok tk,rfl,q⟩
end
end L2
namespace L2
open PySem PySem.Spec PyProof.Rows
def ItK (d:Addr) (o:Obj) (kvs:List (Key×V)):It:=
 ⟨fun i H=>H d=some (.frz o (.dK kvs))∧i < kvs.length,fun i H v H'=>∃kv,kvs[i]?=some kv∧v=kV kv.1∧H'=H,fun i H=>H d=some (.frz o (.dK kvs))∧i=kvs.length⟩
theorem YDa {P:Program}{w:World}{K:W.Frag}{tg:Expr}{d it:Addr}{o:Obj}{kvs:List (Key×V)}{es:Array DictEntry}{ep:Nat} (ho:o.data=.dict es ep):
  YCm P w K tg (ItK d o kvs) [it] it (fun i h=>h.IsKeyIter it d i kvs.length ep) where
 mem:=by simp
 obj:=fun i h st b hb=>by
  have eb:b=it:=by simpa using hb
  subst eb;obtain⟨o,e,c,d⟩:=st;exact⟨o,e,fun v z=>by rw[d]at z;cases z⟩
 keep:=fun i h h' st k=>st.at fun o e=>k it (by simp) o e
 item:=by
  intro X hP hw hK hc i pins s σ H E I hf st hg;subst hP hw hK;obtain⟨hd,hi⟩:=hg;obtain⟨hod,hsz,lo,vs,rel,hD⟩:=(show Yj X.prog X.w H s.heap d (.frz o (.dK kvs)) from I.hok d _ hd);obtain⟨o2,es2,ep2,h1,h2,h3,h4⟩:=hD;rw[hod]at h1;cases h1;rw[ho]at h3;cases h3;have hat:s.heap.DictAt (Y5 X.prog X.w) d vs ep:=⟨o,es,hod,h2,ho,h4⟩;have ekv:kvs[i]?=some kvs[i]:=by simp[hi]
  obtain⟨u,hu,ru⟩:=rel.get ekv;have hlen:kvs.length=vs.length:=rel.length;rw[hlen]at st;obtain⟨f0,f1,f2,f3,f4,f5⟩:=hf it (by simp);refine wpAny_pyNext_dict_item st hat hu fun key h' hkey st' sb=>?_
  have I1:Inv X pins σ H { s with heap:=h' }:=I.turned (t':=s.toks) (fun b o hb e=>(sb.2 b hb).trans e) f0 f1 f3 f4 f5;refine⟨key,rfl,letGo_keyiter (s':={ s with heap:=h' }) st' ⟨kV kvs[i].1,H,I1,YIh hkey,⟨_,ekv,rfl,rfl⟩,by rw[hlen];exact st',fun b hb=>(hf b hb).1⟩⟩
 done:=by
  intro X hP hw hK hc i pins s σ H E I hf st hg;subst hP hw hK;obtain⟨hd,hi⟩:=hg;obtain⟨hod,hsz,lo,vs,rel,hD⟩:=(show Yj X.prog X.w H s.heap d (.frz o (.dK kvs)) from I.hok d _ hd);obtain⟨o2,es2,ep2,h1,h2,h3,h4⟩:=hD;rw[hod]at h1;cases h1;rw[ho]at h3;cases h3;have hat:s.heap.DictAt (Y5 X.prog X.w) d vs ep:=⟨o,es,hod,h2,ho,h4⟩;have hlen:kvs.length=vs.length:=rel.length;rw[hlen]at st;exact wpAny_pyNext_dict_end (I.ok.hd hc) st hat (YJy (by lia)) fun h' eb=>⟨rfl,I.turns (t':=s.toks) (fun b o hb q=>eb b o (fun z=>hb (by simp[z])) q) hf⟩
 self:=fun _ _ _ _ _ st h=>wpAny_pyIter_keyiter st h
section
variable {X:Cx}{tg:Expr}
def iDict (to:TE):TI:=fun σ H R=>to σ H fun x H1=>∃d kvs,x=.ref d∧H1 d=some (.dK kvs)∧∀o,R (ItK d o kvs) (upd H1 d (.frz o (.dK kvs)))
theorem YEI {oe:Expr}{to:TE} (ho:PE X oe to):PI X tg oe (iDict to):=by
 intro pins s σ H R I h;refine thn (ho pins s σ H _ I h) fun v s1 ⟨x,H1,I1,r1,q1⟩=>?_
 obtain⟨d,kvs,ex,hd,q⟩:=q1;subst ex;cases r1;obtain⟨hsz,lo,vs,rel,hD⟩:=dk_of I1.hok hd;obtain⟨ep,hat⟩:=hD.dictAt;obtain⟨od,es,hod,hex,hdat,hrest⟩:=id hat;refine wpAny_pyIter_dict lo hat ?_;have k1:∀b u,s1.heap.get? b=some u→(s1.heap.push { cls:=.type "dict_keyiterator",data:=.fields #[.ref d,.int 0 0,.int vs.length 0,.int ep 0] }).get? b=some u:=fun b u e=>YJO _ e
 have I2:=I1.kept (t':=s1.toks) k1;have I4:=I2.freeze hd (o:=od) (k1 _ _ hod);have hlen:kvs.length=vs.length:=rel.length;refine⟨_,[_],_,_,_,rfl,I4,YDa (o:=od) hdat,⟨_,YJc _ rfl,rfl,by rw[hlen];rfl⟩,fun b hb=>?_,q od⟩;have eb:=YJW.mp hb;rw[eb];refine I1.fpOk (YJP _) ?_;have hn:=I1.hok.fresh (YJP _);rw[YH (fun z=>by rw[z,hd]at hn;cases hn)];exact hn
end
end L2
namespace L2
open PySem PySem.Spec PyProof.Rows
section
variable {prog:Program}{w:World}{A:Around}{E:Value→Shared→Prop}{s:Shared}
theorem YHk {it d:Addr}{i n ep:Nat}{od:Obj}{es:Array DictEntry}{en:DictEntry}{Q:Option Value→Shared→Prop} (hit:s.heap.IsKeyIter it d i n ep)
  (hod:s.heap.get? d=some od) (hdd:od.data=.dict es ep) (hsz:es.size=n) (hx:es[i]?=some en)
  (hQ:∀h',h'.IsKeyIter it d (i + 1) n ep→Heap.SameBut it s.heap h'→Q (some en.key) { s with heap:=h' }):wpAny (model prog w) A (pyNext (.ref it)) Q E s:=by
 subst hsz;obtain⟨o,ho,hc,hd⟩:=id hit;have hlt':i < es.size:=(Array.getElem?_eq_some_iff.mp hx).1;have een:es[i]=en:=(Array.getElem?_eq_some_iff.mp hx).2;unfold pyNext;refine YJN (wpAny_attempt (wpAny_callSpecial?_slot (name:=Str.ofString "__next__") hit.typeIs F.slot_dict_keyiterator_next (wpAny_call_entry F.slot_dict_keyiterator_next hit.typeIs F.entry_dict_keyiterator_next ?_ (F.args_dict_keyiterator_next_1 _))));refine YJN (YJb (YJN (YJN ?_)))
 first |refine YJN (wpAny_typeNameOfWhole_keyiter hit.typeIs (YJb (YJN (wpAny_fieldsOf ho hd ?_)))) |refine YJN (wpAny_typeNameOf_keyiter hit.typeIs (YJb (YJN (wpAny_fieldsOf ho hd ?_))))
 simp only[show Builtin.Dict_items.ownsTuple "dict_keyiterator"=false by decide,YK1,if_false];show wpAny _ _ (if (Value.ref d == Value.none)=true then _ else _) _ _ s;rw[if_neg (show ¬((Value.ref d == Value.none)=true) from YJZ)];refine YJN (YJb (YJN (wpAny_dictEntries hod hdd ?_)));rw[if_neg (by simp)];refine YJN (YJb (YJN (wpAny_dictEpoch hod hdd ?_)));rw[if_neg (by simp)];refine YJb ?_;simp only[show ¬((i:Int) < 0) from by lia,if_false,Int.toNat_natCast,YKZ hlt',een];refine YJN ?_
 first |refine YJN (wpAny_typeNameOfWhole_keyiter hit.typeIs (YJb (YJN (wpAny_isOneOf_keyiter hit.typeIs ?_)))) |refine YJN (wpAny_typeNameOf_keyiter hit.typeIs (YJb (YJN (wpAny_isOneOf_keyiter hit.typeIs ?_))))
 show wpAny _ _ (setField (.ref it) 1 (rawInt ((i:Int) + 1)) >>= _) _ _ s;refine YJN (wpAny_setField ho hd (by simp) ?_);have hit':(s.heap.update it (Obj.mapFields (·.setIfInBounds 1 (rawInt ((i:Int) + 1))))).IsKeyIter it d (i + 1) es.size ep:=⟨_,YKb _ ho (Obj.isFreed_of_fields (Obj.data_mapFields hd _)),(Obj.cls_mapFields ..).trans hc,by rw[Obj.data_mapFields hd];simp[rawInt]⟩;refine YJN (wpAny_holding (YJN (wpAny_isOneOf_keyiter (s:={ s with heap:=s.heap.update it (Obj.mapFields (·.setIfInBounds 1 (rawInt ((i:Int) + 1)))) }) hit'.typeIs ?_)));show wpAny _ _ (pure en.key) _ _ _;exact YJb (YJb ⟨_,rfl,YJb (hQ _ hit' (Heap.SameBut.update ..))⟩)
theorem YIv {it d:Addr}{n ep:Nat}{od:Obj}{es:Array DictEntry}{Q:Option Value→Shared→Prop} (hh:A.handled=none) (hit:s.heap.IsKeyIter it d n n ep)
  (hod:s.heap.get? d=some od) (hdd:od.data=.dict es ep) (hsz:es.size=n) (hQ:∀h',Heap.ExtBut it s.heap h'→Q none { s with heap:=h' }):wpAny (model prog w) A (pyNext (.ref it)) Q E s:=by
 subst hsz;obtain⟨o,ho,hc,hd⟩:=id hit;unfold pyNext;refine YJN (wpAny_attempt (wpAny_callSpecial?_slot (name:=Str.ofString "__next__") hit.typeIs F.slot_dict_keyiterator_next (wpAny_call_entry F.slot_dict_keyiterator_next hit.typeIs F.entry_dict_keyiterator_next ?_ (F.args_dict_keyiterator_next_1 _))));refine YJN (YJb (YJN (YJN ?_)))
 first |refine YJN (wpAny_typeNameOfWhole_keyiter hit.typeIs (YJb (YJN (wpAny_fieldsOf ho hd ?_)))) |refine YJN (wpAny_typeNameOf_keyiter hit.typeIs (YJb (YJN (wpAny_fieldsOf ho hd ?_))))
 simp only[show Builtin.Dict_items.ownsTuple "dict_keyiterator"=false by decide,YK1,if_false];show wpAny _ _ (if (Value.ref d == Value.none)=true then _ else _) _ _ s;rw[if_neg (show ¬((Value.ref d == Value.none)=true) from YJZ)];refine YJN (YJb (YJN (wpAny_dictEntries hod hdd ?_)));rw[if_neg (by simp)];refine YJN (YJb (YJN (wpAny_dictEpoch hod hdd ?_)));rw[if_neg (by simp)];refine YJb ?_;simp only[show ¬((es.size:Int) < 0) from by lia,if_false,Int.toNat_natCast,YKz (YJP es.size)];refine YJN ?_
 first |refine YJN (wpAny_typeNameOfWhole_keyiter hit.typeIs (YJb ?_)) |refine YJN (wpAny_typeNameOf_keyiter hit.typeIs (YJb ?_))
 show wpAny _ _ (setField (.ref it) 0 .none >>= _) _ _ s;refine YJN (wpAny_setField ho hd (by simp) ?_);show wpAny _ _ (newExc (.type "StopIteration") [] >>= _) _ _ _;refine YJN ?_;simp only[newExc,newTuple];refine YJN (wpAny_newObj_type ?_ (by size_fits));refine YJN (m:=firstArgMember _ _) (wpAny_of_eq (a:=Value.none) (by first |rfl |(simp only[firstArgMember];rfl)) ?_);refine wpAny_newObj_type ?_ (by size_fits);simp only[raiseNew];refine YJN (wpAny_handled ?_);rw[show A.in1.handled=none from hh];refine YJN (YJb (wpAny_throw ?_));refine YJN (wpAny_isInstance (T:="StopIteration") (b:=true) ⟨_,YJc _ rfl,rfl⟩ isSubtype_stop ?_);exact YJb (hQ _ (((Heap.SameBut.update ..).extBut.push _).push _))
theorem YHl {d:Addr}{od:Obj}{es:Array DictEntry}{ep:Nat}{Q:Value→Shared→Prop} (hd:(d == sysModules)=false) (ho:s.heap.get? d=some od) (hc:od.cls=.type "dict") (hdat:od.data=.dict es ep)
  (hQ:Q (.ref s.heap.objs.size) { s with heap:=s.heap.push { cls:=.type "dict_keyiterator",data:=.fields #[.ref d,.int 0 0,.int es.size 0,.int ep 0] } }):wpAny (model prog w) A (pyIter (.ref d)) Q E s:=by
 have hT:s.TypeIs (.ref d) "dict":=⟨od,ho,hc⟩;refine wpAny_pyIter_slot hT F.slot_dict_iter (wpAny_call_entry F.slot_dict_iter hT F.entry_dict_iter ?_ (F.args_dict_iter_1 _));unfold Builtin.«dict.__iter__»;refine YJN ?_;unfold Builtin.Dict.dictSlotNone;refine YJN (wpAny_notOrdered_dict hT ?_);show wpAny _ _ (pure (Value.ref d)) _ _ s;refine YJb ?_;show wpAny _ _ (Builtin.Dict.showsAll d >>= _) _ _ s;unfold Builtin.Dict.showsAll;rw[if_neg (by rw[hd];exact YJZ)];refine YJN (YJb (YJN (wpAny_dictEntries ho hdat (YJN (wpAny_dictEpoch ho hdat ?_)))));refine YJN (wpAny_newObj_type (YJb ⟨_,rfl,"dict_keyiterator",_,⟨_,YJc _ rfl,rfl⟩,F.slot_dict_keyiterator_next.lookup,?_⟩))
 simpa [rawInt] using hQ
end
def ItKT (d:Addr) (o:Obj) (kvs:List (List Key×V)):It:=
 ⟨fun i H=>H d=some (.frz o (.dT kvs))∧i < kvs.length,fun i H v H'=>∃b kv,v=.ref b∧kvs[i]?=some kv∧H b=some (.tup (kv.1.map kV))∧H'=H,fun i H=>H d=some (.frz o (.dT kvs))∧i=kvs.length⟩
theorem YGH {P:Program}{w:World}{K:W.Frag}{tg:Expr}{d it:Addr}{o:Obj}{kvs:List (List Key×V)}{es:Array DictEntry}{ep:Nat} (ho:o.data=.dict es ep):
  YCm P w K tg (ItKT d o kvs) [it] it (fun i h=>h.IsKeyIter it d i kvs.length ep) where
 mem:=by simp
 obj:=fun i h st b hb=>by
  have eb:b=it:=by simpa using hb
  subst eb;obtain⟨o,e,c,d⟩:=st;exact⟨o,e,fun v z=>by rw[d]at z;cases z⟩
 keep:=fun i h h' st k=>st.at fun o e=>k it (by simp) o e
 item:=by
  intro X hP hw hK hc i pins s σ H E I hf st hg;subst hP hw hK;obtain⟨hd,hi⟩:=hg;obtain⟨hod,hsz,lo,xs,rel,o2,es2,ep2,h1,h2,h3,h4,h5⟩:=(show Yj X.prog X.w H s.heap d (.frz o (.dT kvs)) from I.hok d _ hd);rw[hod]at h1;cases h1;rw[ho]at h3;cases h3;have ekv:kvs[i]?=some kvs[i]:=by simp[hi]
  obtain⟨b,u,hx,hb,ru⟩:=KT.get rel ekv;have hlen:es.size=kvs.length:=by
   rw[←YJ4,h4,YJL,Paired.length rel]
  have hen:es[i]?=some (entryOfKey (tupleKind (Y5 X.prog X.w)) (kvs[i].1,b,u)):=by
   rw[←YKQ,h4,YJQ,hx];rfl
  obtain⟨f0,f1,f2,f3,f4,f5⟩:=hf it (by simp);refine YHk st hod ho hlen hen fun h' st' sb=>?_
  have I1:Inv X pins σ H { s with heap:=h' }:=I.turned (t':=s.toks) (fun b o hb e=>(sb.2 b hb).trans e) f0 f1 f3 f4 f5;exact⟨.ref b,rfl,letGo_keyiter (s':={ s with heap:=h' }) st' ⟨.ref b,H,I1,rfl,⟨b,_,rfl,ekv,hb,rfl⟩,st',fun b hb=>(hf b hb).1⟩⟩
 done:=by
  intro X hP hw hK hc i pins s σ H E I hf st hg;subst hP hw hK;obtain⟨hd,hi⟩:=hg;obtain⟨hod,hsz,lo,xs,rel,o2,es2,ep2,h1,h2,h3,h4,h5⟩:=(show Yj X.prog X.w H s.heap d (.frz o (.dT kvs)) from I.hok d _ hd);rw[hod]at h1;cases h1;rw[ho]at h3;cases h3;have hlen:es.size=kvs.length:=by
   rw[←YJ4,h4,YJL,Paired.length rel]
  subst hi;exact YIv (I.ok.hd hc) st hod ho hlen fun h' eb=>⟨rfl,I.turns (t':=s.toks) (fun b o hb q=>eb b o (fun z=>hb (by simp[z])) q) hf⟩
 self:=fun _ _ _ _ _ st h=>wpAny_pyIter_keyiter st h
section
variable {X:Cx}{tg:Expr}
inductive YGy (R:It→Hp→Prop) (x:V) (H1:Hp):Prop where
 |mk (d:_) (o:_) (kvs:_) (h0_:x=.ref d) (h1_:H1 d=some (.frz o (.dT kvs))) (h2_:R (ItKT d o kvs) H1):YGy R x H1
def iDictT (to:TE):TI:=fun σ H R=>to σ H fun x H1=>YGy R x H1
theorem YE6 {oe:Expr}{to:TE} (ho:PE X oe to):PI X tg oe (iDictT to):=by
 intro pins s σ H R I h;refine thn (ho pins s σ H _ I h) ?_;rintro v s1 ⟨x,H1,I1,r1,d,o,kvs,ex,hd,q⟩;subst ex;cases r1;obtain⟨hod,hsz,lo,xs,rel,o2,es,ep,h1,hex,hdat,h4,h5⟩:=(show Yj X.prog X.w H1 s1.heap d (.frz o (.dT kvs)) from I1.hok d _ hd);rw[hod]at h1;cases h1;have hlen:es.size=kvs.length:=by
  rw[←YJ4,h4,YJL,Paired.length rel]
 refine YHl lo hod hex.1 hdat ?_;have I2:=I1.kept (t':=s1.toks) (h':=s1.heap.push { cls:=.type "dict_keyiterator",data:=.fields #[.ref d,.int 0 0,.int es.size 0,.int ep 0] }) fun b u e=>YJO _ e
 refine⟨_,[_],_,_,H1,rfl,I2,YGH (o:=o) hdat,⟨_,YJc _ rfl,rfl,by rw[←hlen];rfl⟩,fun b hb=>?_,q⟩;have eb:=YJW.mp hb;rw[eb];exact I1.fpOk (YJP _) (I1.hok.fresh (YJP _))
end
theorem YDb {d:Addr}{o:Obj}{kvs:List (List Key×V)}{g:TG}{tb:TS}{D:YAf}{σ:St}{H:Hp} (Pv:Nat→St→Hp→Prop) (h0:Pv 0 σ H) (hl:∀i σ H,i≤kvs.length→Pv i σ H→H d=some (.frz o (.dT kvs)))
  (hs:∀i kv b σ H,kvs[i]?=some kv→H b=some (.tup (kv.1.map kV))→Pv i σ H→g (.ref b) σ H fun σ2 H2=>tb { D with nx:=Pv (i + 1),ct:=Pv (i + 1),bk:=D.nx } σ2 H2) (hd:∀σ H,Pv kvs.length σ H→D.nx σ H):
  ∃W:Nat→Nat→St→Hp→Prop,(∃m,W 0 m σ H)∧∀i m σ H,W i m σ H→
   ((ItKT d o kvs).stop i H∧D.nx σ H)∨((ItKT d o kvs).go i H∧∃N:St→Hp→Prop,(∀σ' H',N σ' H'→∃m',m' < m∧W (i + 1) m' σ' H')∧∀x H',(ItKT d o kvs).yld i H x H'→g x σ H' fun σ2 H2=>tb { D with nx:=N,ct:=N,bk:=D.nx } σ2 H2):=by
 refine⟨fun i m σ H=>m=kvs.length - i∧i≤kvs.length∧Pv i σ H,⟨kvs.length,by simp,YJw _,h0⟩,?_⟩;rintro i m σ H ⟨rfl,hi,p⟩;have q:=hl i σ H hi p
 by_cases hlt:i < kvs.length
 ·refine .inr ⟨⟨q,hlt⟩,Pv (i + 1),fun σ' H' p'=>⟨kvs.length - (i + 1),by lia,rfl,hlt,p'⟩,fun x H' y=>?_⟩;obtain⟨b,kv,rfl,hkv,hb,rfl⟩:=y;exact hs i kv b σ _ hkv hb p
 ·have ei:i=kvs.length:=by lia
  subst ei;exact .inl ⟨⟨q,rfl⟩,hd σ H p⟩
section
variable {prog:Program}{w:World}{d:Addr}{od:Obj}{es:Array DictEntry}{ep:Nat}
end
def tKeep1 (t:TE):TE:=fun σ H Q=>t σ H fun v H1=>∃d kvs,H1 d=some (.dT kvs)∧∀o,Q v (upd H1 d (.frz o (.dT kvs)))
theorem YE7 {X:Cx}{e:Expr}{t:TE} (h:PE X e t):PE X e (tKeep1 t):=by
 intro pins s σ H Q I hw;refine thn (h pins s σ H _ I hw) ?_;rintro v s1 ⟨x,H1,I1,r1,d,kvs,e0,q⟩;obtain⟨o,I4⟩:=I1.freezeT e0;exact⟨x,_,I4,r1,q o⟩
def tDSetK (td ty tx:TE):TE:=fun σ H Q=>td σ H fun x H1=>∃a,x=.ref a∧IsD H1 a∧ty σ H1 fun y H2=>tx σ H2 fun z H3=>∃kvs k,H3 a=some (.dK kvs)∧y=kV k∧kvs.length < sizeLine∧
 (∀v,Yw kvs k=some v→Q v H3)∧(Yw kvs k=none→Q z (upd H3 a (.dK (Ys kvs k z))))
section
variable {X:Cx}{o e f:Expr}{apos cpos:Pos}{td ty tx:TE}
theorem YHm (hu:X.A.units + 1 < cLine) (ho:PE X o td) (he:PE X e ty) (hf:PE X f tx) (m:M2 X o "setdefault" apos e f cpos):PE X (.Call (.Attribute o "setdefault" apos) [e,f] [] cpos) (tDSetK td ty tx):=by
 intro pins s σ H Q I h;refine wpAny_Call_method m.base m.few m.line PySem.F.plainAttrs_dict PySem.F.slot_dict_setdefault PySem.F.type_dict_setdefault (thn (ho pins s σ H _ I h) ?_);rintro u s1 ⟨x,H1,I1,rx,a,ex,d,q1⟩;subst ex;obtain rfl:u=Value.ref a:=rx;obtain⟨t1,t2,_⟩:=YIW I1 d;refine⟨t1,t2,?_⟩;rw[m.trees];refine Calls.callWith_builtin rfl (Calls.evalArgs_plain (Calls.spliced_cons (thn (he pins s1 σ H1 _ I1 q1) fun iv s2 ⟨y,H2,I2,ry,q2⟩=>
  Calls.spliced_cons (thn (hf pins s2 σ H2 _ I2 q2) ?_))))
 rintro fv s3 ⟨z,H3,I3,rz,kvs,k,e1,ey,hl,hT,hN⟩;refine Calls.spliced_nil ?_;subst ey;obtain⟨zz,hd,vs,rel,dd⟩:=dk_of I3.hok e1;have hz:vs.length≤sizeLine:=by rw[←rel.length];exact zz
 refine call_meetsIn PySem.F.slot_dict_setdefault dd.typeIs PySem.F.entry_dict_setdefault (PySem.F.args_dict_setdefault_3 _ _ _) (kt_meets_setdefault (Y5 X.prog X.w) a (YCE ry) hd fv) ⟨vs,dd,hz,fun w' hw=>?_,fun hn h' dd' hs=>?_⟩
 ·have rl:=rel.val k;rw[hw]at rl;cases hv:Yw kvs k with
  |none=>rw[hv]at rl;exact rl.elim
  |some v'=>rw[hv]at rl;exact⟨v',H3,I3.tok _,rl,hT v' hv⟩
 ·have rl:=rel.val k;rw[hn]at rl;cases hv:Yw kvs k with
  |some v'=>rw[hv]at rl;exact rl.elim
  |none=>
   have hl2:(Ys kvs k z).length≤sizeLine:=by have:=YAB kvs k z;lia
   have he:∃q,h'.get? a=some q:=let ⟨q,_,_,hq,_⟩:=dd';⟨q,hq⟩
   exact⟨z,_,YD8 I3 (by rw[e1];exact True.intro) hs he (YIR hl2 hd (rel.put k rz) dd'),rz,hN hv⟩
end
end L2
namespace L2
open PySem PySem.Spec PyProof.Rows
end L2
namespace L2
open PySem PySem.Spec PyProof.Rows PySem.AutoSeq1
section
variable {X:Cx}
end
end L2
namespace L2
open PySem PySem.Spec PyProof.Rows
theorem YGI {prog:Program}{w:World} (d:Addr) (hd:(d == sysModules)=false):
  MeetsIn prog w (Builtin.«dict.__len__» ⟨[.ref d],[]⟩) (fun _ R s=>∃od es ep,s.heap.get? d=some od∧od.data=.dict es ep∧R (.ok (.ret (.int es.size s.toks))) { s with toks:=s.toks + 1 }):=
 .of_wp fun A R s ⟨od,es,ep,ho,hdat,h⟩=>by
  show wpAny _ _ (dictSize d >>= _) _ _ s;unfold dictSize;refine YJN (YJN (wpAny_dictEntries ho hdat (YJb ?_)));show wpAny _ _ (Builtin.Dict.pendingCount d >>= _) _ _ s;exact YJN (wpAny_pendingCount_other hd (wpAny_ret_mkInt (by rw[Nat.add_zero];exact h)))
theorem len_raw {prog:Program}{w:World}{A:Around}{E:Value→Shared→Prop}{s:Shared}{d:Addr}{od:Obj}{es:Array DictEntry}{ep:Nat}{Q:Value→Shared→Prop} (hd:(d == sysModules)=false) (ho:s.heap.get? d=some od) (hc:od.cls=.type "dict") (hdat:od.data=.dict es ep) (hfit:(es.size:Int) < 2 ^ 63)
  (h:Q (.int es.size (s.toks + 1)) { s with toks:=s.toks + 1 + 1 }):wpAny (model prog w) A (call (.builtin "len") [.ref d]) Q E s:=by
 have hT:s.TypeIs (.ref d) "dict":=⟨od,ho,hc⟩;refine Calls.call_function_entry kind_len plain_len entry_len (args_len1 _) ?_;unfold Builtin.«len»;refine YJN (m:=oneArg "len" _) (YJb (YJN (m:=callSpecial? (.ref d) (Str.ofString "__len__")) (wpAny_callSpecial?_slot (name:=Str.ofString "__len__") hT F.slot_dict_len
  (call_meetsIn F.slot_dict_len hT F.entry_dict_len (F.args_dict_len_1 _) (YGI d hd) ⟨od,es,ep,ho,hdat,?_⟩))))
 refine YJN (wpAny_holding (YJb (YJN (wpAny_letGo ?_))));show wpAny _ _ (if ((es.size:Nat):Int) < 0 then _ else _) _ _ _;rw[if_neg (by lia)];show wpAny _ _ (if ((es.size:Nat):Int)≥2 ^ 63 then _ else _) _ _ _;rw[if_neg (by lia)];exact YJN (wpAny_mkInt (YJb ⟨_,rfl,h⟩))
theorem YHn {X:Cx}:Zl X (.builtin "len") (fun xs H Q=>∃(a:Addr) (kvs:List (List Key×V)),xs=[.ref a]∧Rd H a (.dT kvs)∧Q (.int kvs.length) H):=by
 intro pins s σ H xs us Q I r h;obtain⟨a,kvs,rfl,ha,q⟩:=h;obtain⟨u,rfl,rx⟩:=JJ r;cases rx;obtain⟨hsz,lo,xs,rel,od,es,ep,hod,hex,hdat,h4,h5⟩:=(show Yj X.prog X.w H s.heap a (.dT kvs) from rd_of I.hok ha);have hlen:es.size=kvs.length:=by
  rw[←YJ4,h4,YJL,Paired.length rel]
 refine len_raw lo hod hex.1 hdat (by rw[hlen];rw[sizeLine_eq]at hsz;lia) ⟨.int kvs.length,H,I.tok _,⟨_,by rw[hlen]⟩,q⟩
end L2
namespace L2
open PySem PySem.Spec PyProof.Rows
section
variable {X:Cx}{pins:List (Addr×Obj)}{σ:St}{H:Hp}{s:Shared}{d:Addr}{xs:List V}
end
end L2
namespace L2
open PySem PySem.Spec PyProof.Rows PySem.SeqAt
section
variable {X:Cx}
end
end L2
namespace L2
open PySem PySem.Spec PyProof.Rows PySem.SeqAt
section
variable {X:Cx}
end
end L2
namespace L2
open PySem PySem.Spec PyProof.Rows
def Dn (K:W.Frag) (x:Str) (f:Addr):Prop:=PySem.W.nsIn K mainGlobals x=some (some (.ref f))
def Zn (K:W.Frag) (x:Str):Prop:=PySem.W.nsIn K mainGlobals x=some none
def On (K:W.Frag) (c:Addr) (x:Str):Prop:=PySem.W.findIn K (.ref c) x=some none
inductive An (K:W.Frag) (c:Addr) (x:Str) (f:Addr):Prop
 |mk:PySem.W.findIn K (.ref c) x=some (some (.ref f))→PySem.W.isFn K (.ref f)=true→An K c x f
inductive Ln (K:W.Frag) (x q:Str) (st:Stmt) (f:Addr):Prop
 |mk {oc:Value}{od an:Option Addr}{osl:Array (Option Value)}{kV doc pm cdv ct:Value}:K.lookup f=some ⟨oc,od,.func (PySem.W.fnOf x q (JY st) (Zs st) (YJ st) .none kV doc pm an cdv ct),osl⟩→PySem.W.codeIn K cdv q=true→PySem.W.keepIn K (.ref f)=true→Ln K x q st f
theorem Ln.ex {K:W.Frag}{x q:Str}{st:Stmt}{f:Addr}:Ln K x q st f→∃fd,Fun K x q st f fd
 |.mk l c k=>⟨_,YIY l c k⟩
def Pn:Nat→(List Value→Prop)→Prop
 |0,P=>P []
 |n + 1,P=>∀a,Pn n fun us=>P (a :: us)
theorem bn:∀(n:Nat) {P:List Value→Prop},Pn n P→∀us:List Value,us.length=n→P us
 |0,_,h,[],_=>h
 |0,_,_,_ :: _,e=>by cases e
 |_ + 1,_,_,[],e=>by cases e
 |n + 1,_,h,a :: us,e=>bn n (h a) us (Nat.succ.inj e)
section
variable (P:Program) (w:World) {K:W.Frag}{mg:Str→Option Value}{CX:CXT}{k:Nat}{x q:Str}{st:Stmt}{C f:Addr}{fd:FuncData}{ps:List Str}{sp:Sp}
theorem us (m:mg x=some (.ref f)) (F:Fun K x q st f fd) (o:∀base,Yr P w K mg base CX k f fd ps sp) (b:∀(kV doc pm:Value) (an:Option Addr) (cdv ct:Value) (us:List Value),us.length=ps.length→bindArgs (PySem.W.fnOf x q (JY st) (Zs st) (YJ st) .none kV doc pm an cdv ct) ⟨us,[]⟩=pure (ps.zip us)):ZO P w K mg CX k x ps sp:=⟨⟨f,fd,o,m,F.kp,F.binds b⟩⟩
theorem usM (a:An K C x f) (F:Fun K x q st f fd) (o:∀base,Yr P w K mg base CX k f fd ps sp) (b:∀(kV doc pm:Value) (an:Option Addr) (cdv ct:Value) (us:List Value),us.length=ps.length→bindArgs (PySem.W.fnOf x q (JY st) (Zs st) (YJ st) .none kV doc pm an cdv ct) ⟨us,[]⟩=pure (ps.zip us)):YAH P w K mg CX k C x ps sp:=by
 cases a with
 |mk a j=>exact⟨⟨f,fd,o,⟨a,j,F.kp⟩,F.binds b⟩⟩
theorem usI (h1:PySem.W.makesIn K C=true) (h2:PySem.W.keepIn K (.ref C)=true) (a:An K C "__init__" f) (F:Fun K x q st f fd) (o:∀base,Yr P w K mg base CX k f fd ps sp) (b:∀(kV doc pm:Value) (an:Option Addr) (cdv ct:Value) (us:List Value),us.length=ps.length→bindArgs (PySem.W.fnOf x q (JY st) (Zs st) (YJ st) .none kV doc pm an cdv ct) ⟨us,[]⟩=pure (ps.zip us)):UsedI P w K mg CX k C ps sp:=by
 cases a with
 |mk a j=>exact⟨⟨f,fd,o,⟨h1,a,j,h2⟩,F.binds b⟩⟩
end
end L2
namespace L2
open PySem PySem.Spec PyProof.Rows
section
variable {prog:Program}{w:World}{A:Around}{R:Result→Shared→Prop}{I S:Addr}{fp wr:List Addr}{n:Nat}{P:Nat→Value→Prop}{St:Nat→Heap→Prop}{bt:Nat→Nat→Bool}{kw:List (Str×Value)}
end
section
variable {prog:Program}{w:World}{A:Around}{E:Value→Shared→Prop}{s:Shared}{l:Addr}{items:Array Value}{bt:Nat→Nat→Bool}{d:Value}
end
section
variable {X:Cx}{x:Str}{e:Expr}{kws:List Keyword}{p pos:Pos}{t tk:TA}
end
end L2
namespace L2
open PySem PySem.Spec PyProof.Rows PySem.SeqAt
def ltP (a b:Int×Int):Bool:=decide (a.1 < b.1∨(a.1=b.1∧a.2 < b.2))
theorem YGJ (a b:Int×Int):HT.lexLt [a.1,a.2] [b.1,b.2]=ltP a b:=by
 unfold ltP;rw[HT.lexLt_cons,HT.lexLt_cons,HT.lexLt_nil_nil]
 by_cases h:a.1=b.1
 ·rw[if_pos h]
  by_cases h2:a.2=b.2
  ·rw[if_pos h2];exact(YJV (by omega)).symm
  ·rw[if_neg h2];exact decide_eq_decide.mpr (by omega)
 ·rw[if_neg h];exact decide_eq_decide.mpr (by omega)
def YCW (prog:Program) (w:World) (A:Around) (kp:Addr→Obj→Prop) (P:Nat→Value→Prop) (bt:Nat→Nat→Bool):Prop:=
 ∀i j vi vj (s:Shared) (Q:Value→Shared→Prop) (E:Value→Shared→Prop),(∀a o,kp a o→s.heap.get? a=some o)→P i vi→P j vj→Q (.bool (bt i j)) s→wpAny (model prog w) A (richCompare .Lt vi vj) Q E s
section
variable {prog:Program}{w:World}{A:Around}{R:Result→Shared→Prop}{I S:Addr}{fp wr:List Addr}{n:Nat}{P:Nat→Value→Prop}{St:Nat→Heap→Prop}{bt:Nat→Nat→Bool}{kw:List (Str×Value)}{kp:Addr→Obj→Prop}
theorem YAa:(toString "min" ++ toString ".loop":String)="min.loop":=by decide
theorem mn_more (W:Walks prog w A.in1 I fp wr n P St) (hcm:YCW prog w A.in1 kp P bt) (nS:S∉fp) (nk:∀a o,kp a o→a∉wr∧a≠S):∀(m j:Nat),n=j + 1 + m→∀(s:Shared) (x:Value) (c:Nat),(∀a o,kp a o→s.heap.get? a=some o)→St (j + 1) s.heap→P (argBest bt j) x→
  s.heap.get? S=some ⟨.type "list",none,.seq #[x,x] c,#[]⟩→(∀y h' tk,P (argBest bt (n - 1)) y→(∀a o,a∉wr→a≠S→s.heap.get? a=some o→h'.get? a=some o)→R (.ok (.ret y)) { s with heap:=h',toks:=tk })→
  codeAny (model prog w) A (.builtin "min.loop" ⟨[.ref I,.none,.ref S],kw⟩) R s:=fun m=>by
 have nw:S∉wr:=fun z=>nS (W.sub _ z)
 induction m with
 |zero=>
  intro j en s x c sk st px gS fin;have en:j + 1=n:=by omega
  refine codeAny_builtin F.entry_min_loop ?_;rw[Around.under_plainId F.plain_min_loop];show wpAny _ _ (seqItems? (.ref S) >>= _) _ _ _;refine YJN (wpAny_seqItems gS rfl ?_);show wpAny _ _ (tryCatch (pyNext (.ref I)) _ >>= _) _ _ _;subst en;refine YJN (wpAny_tryCatch (W.done s _ _ st fun h1 t1 k1=>?_));show wpAny _ _ (updateSeq S (fun _=>#[]) >>= _) _ _ _;refine YJN (wpAny_updateSeq (k1 S _ nw gS) rfl (YJN (wpAny_letGo (YJb ?_))));exact fin x _ t1 px fun a o h1 h2 e=>(YKA _ _ h2.symm).trans (k1 a o h1 e)
 |succ m ih=>
  intro j en s x c sk st px gS fin;have lt:j + 1 < n:=by omega
  have en2:n=j + 1 + 1 + m:=by omega
  refine codeAny_builtin F.entry_min_loop ?_;rw[Around.under_plainId F.plain_min_loop];show wpAny _ _ (seqItems? (.ref S) >>= _) _ _ _;refine YJN (wpAny_seqItems gS rfl ?_);show wpAny _ _ (tryCatch (pyNext (.ref I)) _ >>= _) _ _ _;refine YJN (wpAny_tryCatch (W.item (j + 1) s _ _ lt st fun y h1 t1 py st1 k1=>?_));have g1:=k1 S _ nw gS;have sk1:∀a o,kp a o→h1.get? a=some o:=fun a o h=>k1 a o (nk a o h).1 (sk a o h)
  show wpAny _ _ (tryCatch (holding [y,y] (richCompare .Lt y x >>= _)) _ >>= _) _ _ _;refine YJN (wpAny_tryCatch (wpAny_holding (YJN (hcm (j + 1) (argBest bt j) y x _ _ _ sk1 py px (YJN (wpAny_holding (wpAny_truthy_bool (YJN (wpAny_letGo (YJb ?_))))))))));have ab:argBest bt (j + 1)=if bt (j + 1) (argBest bt j)=true then j + 1 else argBest bt j:=rfl
  cases hb:bt (j + 1) (argBest bt j) with
  |true=>
   rw[hb,if_pos rfl]at ab;rw[if_pos rfl];refine YJN (wpAny_updateSeq g1 rfl (YJN (wpAny_letGo ?_)));rw[YAa];refine YJb ⟨plainId_quiet F.plain_min_loop _,ih (j + 1) en2 _ y _ (fun a o h=>(YKA _ _ (nk a o h).2.symm).trans (sk1 a o h)) (W.frame _ _ _ st1 fun a ha o e=>(YKA _ _ fun z=>nS (by rw[z];exact ha)).trans e) (by rw[ab];exact py) (YKb _ g1 rfl) fun v h2 t2 pv k2=>?_⟩;exact fin v h2 t2 pv fun a o n1 n2 e=>k2 a o n1 n2 ((YKA _ _ n2.symm).trans (k1 a o n1 e))
  |false=>
   rw[hb,if_neg YJZ]at ab;rw[if_neg YJZ];refine YJN (wpAny_letGo ?_);rw[YAa];refine YJb ⟨plainId_quiet F.plain_min_loop _,ih (j + 1) en2 _ x c sk1 st1 (by rw[ab];exact px) g1 fun v h2 t2 pv k2=>?_⟩;exact fin v h2 t2 pv fun a o n1 n2 e=>k2 a o n1 n2 (k1 a o n1 e)
theorem YCX (W:Walks prog w A.in1 I fp wr n P St) (hcm:YCW prog w A.in1 kp P bt) (nS:S∉fp) (nk:∀a o,kp a o→a∉wr∧a≠S) {s:Shared}{c:Nat} (sk:∀a o,kp a o→s.heap.get? a=some o) (hn:0 < n) (st:St 0 s.heap) (gS:s.heap.get? S=some ⟨.type "list",none,.seq #[] c,#[]⟩)
  (fin:∀y h' tk,P (argBest bt (n - 1)) y→(∀a o,a∉wr→a≠S→s.heap.get? a=some o→h'.get? a=some o)→R (.ok (.ret y)) { s with heap:=h',toks:=tk }):
  codeAny (model prog w) A (.builtin "min.loop" ⟨[.ref I,.none,.ref S],kw⟩) R s:=by
 have nw:S∉wr:=fun z=>nS (W.sub _ z)
 refine codeAny_builtin F.entry_min_loop ?_;rw[Around.under_plainId F.plain_min_loop];show wpAny _ _ (seqItems? (.ref S) >>= _) _ _ _;refine YJN (wpAny_seqItems gS rfl ?_);show wpAny _ _ (tryCatch (pyNext (.ref I)) _ >>= _) _ _ _;refine YJN (wpAny_tryCatch (W.item 0 s _ _ hn st fun y h1 t1 py st1 k1=>?_));have g1:=k1 S _ nw gS;show wpAny _ _ (updateSeq S (fun _=>#[y,y]) >>= _) _ _ _;refine YJN (wpAny_updateSeq g1 rfl ?_);rw[YAa];refine YJb ⟨plainId_quiet F.plain_min_loop _,mn_more W hcm nS nk (n - 1) 0 (by omega) _ y _ (fun a o h=>(YKA _ _ (nk a o h).2.symm).trans (k1 a o (nk a o h).1 (sk a o h))) (W.frame _ _ _ st1 fun a ha o e=>(YKA _ _ fun z=>nS (by rw[z];exact ha)).trans e) py (YKb _ g1 rfl) fun v h2 t2 pv k2=>?_⟩;exact fin v h2 t2 pv fun a o n1 n2 e=>k2 a o n1 n2 ((YKA _ _ n2.symm).trans (k1 a o n1 e))
theorem mn_none (W:Walks prog w A.in1 I fp wr n P St) (nS:S∉fp) {s:Shared}{c:Nat}{k:Str}{d:Value} (hn:n=0) (st:St 0 s.heap) (gS:s.heap.get? S=some ⟨.type "list",none,.seq #[] c,#[]⟩)
  (fin:∀h' tk,(∀a o,a∉wr→s.heap.get? a=some o→h'.get? a=some o)→R (.ok (.ret d)) { s with heap:=h',toks:=tk }):
  codeAny (model prog w) A (.builtin "min.loop" ⟨[.ref I,.none,.ref S],[(k,d)]⟩) R s:=by
 refine codeAny_builtin F.entry_min_loop ?_;rw[Around.under_plainId F.plain_min_loop];show wpAny _ _ (seqItems? (.ref S) >>= _) _ _ _;refine YJN (wpAny_seqItems gS rfl ?_);show wpAny _ _ (tryCatch (pyNext (.ref I)) _ >>= _) _ _ _;subst hn;refine YJN (wpAny_tryCatch (W.done s _ _ st fun h1 t1 k1=>?_));exact YJN (wpAny_rule (YJb (fin h1 t1 k1)))
end
section
variable {prog:Program}{w:World}{A:Around}{E:Value→Shared→Prop}{s:Shared}{l:Addr}{items:Array Value}{bt:Nat→Nat→Bool}{d:Value}{kp:Addr→Obj→Prop}
theorem YGz {Q:Value→Shared→Prop} (hh:A.handled=none) (hl:s.heap.IsList l items) (hcm:YCW prog w A.in1 kp (fun i v=>items[i]?=some v) bt) (sk:∀a o,kp a o→s.heap.get? a=some o)
  (h0:items.size=0→∀h' tk,(∀a o,s.heap.get? a=some o→h'.get? a=some o)→Q d { s with heap:=h',toks:=tk })
  (h1:0 < items.size→∀v h' tk,items[argBest bt (items.size - 1)]?=some v→(∀a o,s.heap.get? a=some o→h'.get? a=some o)→Q v { s with heap:=h',toks:=tk }):
  wpAny (model prog w) A (call (.builtin "min") [.ref l] [("default",d)]) Q E s:=by
 have hlt:l < s.heap.objs.size:=by obtain⟨_,e,_⟩:=hl;exact YJX e
 refine wpAny_call (codeAny_call_builtin F.plain_min F.entry_min (wpAny_of_eq (show checkBuiltinCall "min" ⟨[.ref l],[("default",d)]⟩=pure () by kernel_rfl) ?_));show wpAny _ _ (Builtin.Builtins.bindParams "min" ["key","default"] 0 ⟨[],[("default",d)]⟩ >>= _) _ _ s;refine YJN (wpAny_of_eq (show _=pure [none,some d] from rfl) (YJN (YJb (YJN (wpAny_pyIter_list hl (YJN (wpAny_newObj_type ?_)))))));rw[YAa];have W:=Walks.list (prog:=prog) (w:=w) (A:=A.in1) hh s.heap.objs.size l (YJq hlt) items;have kp':∀(a:Addr) (o:Obj) (h':Heap) (x y:Obj),(∀a o,a∉[s.heap.objs.size]→((s.heap.push x).push y).get? a=some o→h'.get? a=some o)→s.heap.get? a=some o→h'.get? a=some o:=fun a o h' x y hk e=>
  hk a o (fun z=>by rw[YJW.mp z]at e;exact YKB _ (YJX e)) (YJO _ (YJO _ e))
 refine YJb ⟨plainId_quiet F.plain_min_loop _,?_⟩;have e1:∀x:Obj,(s.heap.push x).objs.size=s.heap.objs.size + 1:=fun x=>YKX _ _
 have nS:∀x:Obj,(s.heap.push x).objs.size∉[s.heap.objs.size,l]:=fun x z=>by
  rw[e1]at z;simp only[YJg,YJ8,or_false]at z;rcases z with z |z
  ·exact Nat.succ_ne_self _ z
  ·rw[←z]at hlt;exact absurd hlt (YK9.mpr (YKc _))
 have st:∀y:Obj,((s.heap.push { cls:=.type "list_iterator",data:=.fields #[.ref l,.int 0 0] }).push y).IsListIter s.heap.objs.size l 0∧((s.heap.push { cls:=.type "list_iterator",data:=.fields #[.ref l,.int 0 0] }).push y).IsList l items:=
  fun y=>⟨⟨_,YJO _ (YJc _ rfl),rfl,rfl⟩,(hl.push _).push _⟩
 have far:∀{a:Addr}{o:Obj},s.heap.get? a=some o→∀x:Obj,a∉[s.heap.objs.size]∧a≠(s.heap.push x).objs.size:=fun{a o} e x=>by
  have hlt':=YJX e;refine⟨fun z=>?_,fun z=>?_⟩
  ·rw[YJW.mp z]at hlt';exact YKB _ hlt'
  ·rw[z,e1]at hlt';exact absurd hlt' (YK9.mpr (YKc _))
 by_cases hz:items.size=0
 ·exact mn_none W (nS _) hz (st _) (YJc _ rfl) fun h' tk hk=>h0 hz h' tk fun a o=>kp' a o h' _ _ hk
 ·refine YCX W hcm (nS _) (fun a o h=>far (sk a o h) _) (fun a o h=>YJO _ (YJO _ (sk a o h))) (Nat.pos_of_ne_zero hz) (st _) (YJc _ rfl) fun v h' tk hv hk=>h1 (Nat.pos_of_ne_zero hz) v h' tk hv fun a o e=>?_
  exact hk a o (far e ⟨.none,none,.seq #[] 0,#[]⟩).1 (far e _).2 (YJO _ (YJO _ e))
theorem YIw {Q:Value→Shared→Prop} (hh:A.handled=none) (hl:s.heap.IsList l items) (hcm:YCW prog w A.in1 kp (fun i v=>items[i]?=some v) bt) (sk:∀a o,kp a o→s.heap.get? a=some o) (hz:0 < items.size)
  (h1:∀v h' tk,items[argBest bt (items.size - 1)]?=some v→(∀a o,s.heap.get? a=some o→h'.get? a=some o)→Q v { s with heap:=h',toks:=tk }):
  wpAny (model prog w) A (call (.builtin "min") [.ref l] []) Q E s:=by
 have hlt:l < s.heap.objs.size:=by obtain⟨_,e,_⟩:=hl;exact YJX e
 refine wpAny_call (codeAny_call_builtin F.plain_min F.entry_min (wpAny_of_eq (show checkBuiltinCall "min" ⟨[.ref l],[]⟩=pure () by kernel_rfl) ?_));show wpAny _ _ (Builtin.Builtins.bindParams "min" ["key","default"] 0 ⟨[],[]⟩ >>= _) _ _ s;refine YJN (wpAny_of_eq (show _=pure [none,none] from rfl) (YJN (YJb (YJN (wpAny_pyIter_list hl (YJN (wpAny_newObj_type ?_)))))));rw[YAa];have W:=Walks.list (prog:=prog) (w:=w) (A:=A.in1) hh s.heap.objs.size l (YJq hlt) items;refine YJb ⟨plainId_quiet F.plain_min_loop _,?_⟩;have e1:∀x:Obj,(s.heap.push x).objs.size=s.heap.objs.size + 1:=fun x=>YKX _ _
 have far:∀{a:Addr}{o:Obj},s.heap.get? a=some o→∀x:Obj,a∉[s.heap.objs.size]∧a≠(s.heap.push x).objs.size:=fun{a o} e x=>by
  have hlt':=YJX e;refine⟨fun z=>?_,fun z=>?_⟩
  ·rw[YJW.mp z]at hlt';exact YKB _ hlt'
  ·rw[z,e1]at hlt';exact absurd hlt' (YK9.mpr (YKc _))
 have nS:∀x:Obj,(s.heap.push x).objs.size∉[s.heap.objs.size,l]:=fun x z=>by
  rw[e1]at z;simp only[YJg,YJ8,or_false]at z;rcases z with z |z
  ·exact Nat.succ_ne_self _ z
  ·rw[←z]at hlt;exact absurd hlt (YK9.mpr (YKc _))
 refine YCX W hcm (nS _) (fun a o h=>far (sk a o h) _) (fun a o h=>YJO _ (YJO _ (sk a o h))) hz ⟨⟨_,YJO _ (YJc _ rfl),rfl,rfl⟩,(hl.push _).push _⟩ (YJc _ rfl) fun v h' tk hv hk=>h1 v h' tk hv fun a o e=>?_
 exact hk a o (far e ⟨.none,none,.seq #[] 0,#[]⟩).1 (far e _).2 (YJO _ (YJO _ e))
theorem YIx {Q:Value→Shared→Prop} (hh:A.handled=none) (hl:s.heap.IsTuple l items) (hcm:YCW prog w A.in1 (fun _ _=>False) (fun i v=>items[i]?=some v) bt) (hz:0 < items.size)
  (h1:∀v h' tk,items[argBest bt (items.size - 1)]?=some v→(∀a o,s.heap.get? a=some o→h'.get? a=some o)→Q v { s with heap:=h',toks:=tk }):
  wpAny (model prog w) A (call (.builtin "min") [.ref l] []) Q E s:=by
 have hlt:l < s.heap.objs.size:=by obtain⟨_,e,_⟩:=hl;exact YJX e
 refine wpAny_call (codeAny_call_builtin F.plain_min F.entry_min (wpAny_of_eq (show checkBuiltinCall "min" ⟨[.ref l],[]⟩=pure () by kernel_rfl) ?_));show wpAny _ _ (Builtin.Builtins.bindParams "min" ["key","default"] 0 ⟨[],[]⟩ >>= _) _ _ s;refine YJN (wpAny_of_eq (show _=pure [none,none] from rfl) (YJN (YJb (YJN (wpAny_pyIter_tuple hl (YJN (wpAny_newObj_type ?_)))))));rw[YAa];have W:=Walks.tuple (prog:=prog) (w:=w) (A:=A.in1) hh s.heap.objs.size l (YJq hlt) items;refine YJb ⟨plainId_quiet F.plain_min_loop _,?_⟩;have e1:∀x:Obj,(s.heap.push x).objs.size=s.heap.objs.size + 1:=fun x=>YKX _ _
 have nS:∀x:Obj,(s.heap.push x).objs.size∉[s.heap.objs.size,l]:=fun x z=>by
  rw[e1]at z;simp only[YJg,YJ8,or_false]at z;rcases z with z |z
  ·exact Nat.succ_ne_self _ z
  ·rw[←z]at hlt;exact absurd hlt (YK9.mpr (YKc _))
 refine YCX W hcm (nS _) (fun _ _ h=>h.elim) (fun _ _ h=>h.elim) hz ⟨⟨_,YJO _ (YJc _ rfl),rfl,rfl⟩,(hl.push _).push _⟩ (YJc _ rfl) fun v h' tk hv hk=>h1 v h' tk hv fun a o e=>?_
 have hlt':=YJX e;refine hk a o (fun z=>?_) (fun z=>?_) (YJO _ (YJO _ e))
 ·rw[YJW.mp z]at hlt';exact YKB _ hlt'
 ·rw[z,e1]at hlt';exact absurd hlt' (YK9.mpr (YKc _))
end
end L2
namespace L2
open PySem PySem.Spec PyProof.Rows PySem.SeqAt
section
variable {X:Cx}{x:Str}{e:Expr}{kws:List Keyword}{p pos:Pos}{t tk:TA}
theorem YE8 {prog:Program}{w:World}{A:Around}{P:Nat→Value→Prop} (val:Nat→Int) (hval:∀i v,P i v→∃t,v=.int (val i) t):
  YCW prog w A (fun _ _=>False) P (fun i j=>decide (val i < val j)):=fun i j vi vj s Q E _ hi hj h=>CmpOf.ints_lt val hval i j vi vj s Q E hi hj h
def tMinD (K:W.Frag) (t tk:TA):TE:=fun σ H Q=>t σ H fun vs H1=>tk σ H1 fun zs H2=>∃(a:Addr) (ns:List Int) (y:V),vs=[.ref a]∧zs=[y]∧SqL K H2 a (ns.map V.int)∧(ns=[]→Q y H2)∧∀m,m∈ns→(∀b∈ns,m≤b)→Q (.int m) H2
theorem pe_minD (K:W.Frag) (hK:X.K=K) (hc:X.calm=true) (hg:Gl X x) (hm:X.mg x=none) (hv:bootBuiltins x=some (.builtin "min")) (ha:PA X [e] t) (hd:PK X kws tk) (hn:x≠"__name__":=by decide) (hdb:(x == ("__debug__":Str))=false:=by decide)
  (he:starEach [e] X.env=[(false,eval e X.env)]:=by rfl) (hk:(backToKw pos (keywordEach kws X.env)).filterMap (·.1)=[("default":Str)]:=by rfl) (hal:(backToKw pos (keywordEach kws X.env)).all (·.1.isSome)=true:=by rfl) (han:(backToKw pos (keywordEach kws X.env)).any (·.1.isNone)=false:=by rfl):
  PE X (.Call (.Name x p) [e] kws pos) (tMinD K t tk):=by
 subst hK;intro pins s σ H Q I h;refine wpAny_Call_Name_kw (JK I hg hm hv ?_ hn hdb);refine callWith_kw (rest:=[]) (thn (ha pos pins s σ H _ I h) fun us s1 ⟨vs,H1,I1,r1,q1⟩=>thn (hd pos pins s1 σ H1 _ I1 q1) fun ws s2 ⟨zs,H2,I2,r2,a,ns,y,e1,e2,hq,q0,qm⟩=>?_) (by rw[he];rfl) (by rw[he];rfl) hal han;subst e1 e2;obtain⟨u,rfl,ru⟩:=JJ r1;obtain⟨v,rfl,rv⟩:=JJ r2;cases ru;rw[hk];obtain⟨its,ri,pl,hz⟩:=I2.list hq;have hlen:ns.length=its.length:=by have:=ri.length;rwa [YJL]at this
 refine YGz (bt:=fun i j=>decide ((ns[i]?).getD 0 < (ns[j]?).getD 0)) (I2.ok.hd hc) pl.isList (YE8 (fun i=>(ns[i]?).getD 0) fun i v hP=>?_) (fun _ _ z=>z.elim) (fun h0 h' tk hk=>?_) fun h0 v h' tk hv' hk=>?_
 ·obtain⟨b,t,eb,rfl⟩:=YA8 ri (i:=i) (v:=v) (by simpa using hP);exact⟨t,by show Value.int b t=Value.int ((ns[i]?).getD 0) t;rw[eb];rfl⟩
 ·rw[YJa,←hlen]at h0;exact⟨y,H2,I2.kept (t':=tk) hk,rv,q0 (List.length_eq_zero_iff.mp h0)⟩
 ·obtain⟨b,t,eb,rfl⟩:=YA8 ri (v:=v) (by simpa using hv');rw[YJa,←hlen]at h0;rw[←hlen]at eb;have eb:ns[argBest (fun i j=>decide ((ns[i]?).getD 0 < (ns[j]?).getD 0)) (ns.length - 1)]?=some b:=eb;obtain⟨g1,g2⟩:=argBest_lt (fun i=>(ns[i]?).getD 0) (ns.length - 1);refine⟨.int b,H2,I2.kept (t':=tk) hk,⟨t,rfl⟩,qm b (YJS eb) fun c hc=>?_⟩;obtain⟨i,hi⟩:=YKH hc;have hil:=(YJM.mp hi).1;have:=g2 i (by omega);rw[hi,eb]at this;exact this
def PrAt (K:W.Frag) (H:Hp) (ts:List Addr) (ps:List (Int×Int)):Prop:=ts.length=ps.length∧∀(i:Nat) (t:Addr) (p:Int×Int),ts[i]?=some t→ps[i]?=some p→SqT K H t [.int p.1,.int p.2]
theorem YE9 (num:Nat→Int×Int):∀k,argBest (fun i j=>ltP (num i) (num j)) k≤k∧∀j,j≤k→ltP (num j) (num (argBest (fun i j=>ltP (num i) (num j)) k))=false
 |0=>⟨YJP _,fun j hj=>by
   have:j=0:=by omega
   subst this;show decide _=false;exact YJV (show ¬((num 0).1 < (num 0).1∨((num 0).1=(num 0).1∧(num 0).2 < (num 0).2)) by omega)⟩
 |k + 1=>by
  obtain⟨h1,h2⟩:=YE9 num k;simp only[argBest]
  by_cases hc:ltP (num (k + 1)) (num (argBest (fun i j=>ltP (num i) (num j)) k))=true
  ·rw[if_pos hc];refine⟨YJP _,fun j hj=>?_⟩;refine YJV fun h=>?_
   have hc:=YJm hc;rcases YJr j (k + 1) with hlt |hge
   ·have:=of_decide_eq_false (h2 j (by omega));omega
   ·have:j=k + 1:=by omega
    subst this;omega
  ·rw[if_neg hc];refine⟨Nat.le_succ_of_le h1,fun j hj=>?_⟩;rcases YJr j (k + 1) with hlt |hge
   ·exact h2 j (by omega)
   ·have:j=k + 1:=by omega
    subst this;exact Bool.eq_false_iff.mpr hc
theorem YDc {A:Around}{pins:List (Addr×Obj)}{s:Shared}{σ:List (Option V)}{H:Hp}{ts:List Addr}{ps:List (Int×Int)} (I:Inv X pins σ H s) (hp:PrAt X.K H ts ps) (hu:A.units < cLine):
  YCW X.prog X.w A (fun a o=>s.heap.get? a=some o) (fun i v=>∃t,ts[i]?=some t∧v=.ref t) (fun i j=>ltP ((ps[i]?).getD (0,0)) ((ps[j]?).getD (0,0))):=by
 rintro i j vi vj s' Q E hk ⟨t1,e1,rfl⟩ ⟨t2,e2,rfl⟩ h;have l1:=(YJM.mp e1).1;have l2:=(YJM.mp e2).1;rw[hp.1]at l1 l2;have p1:=YJR l1;have p2:=YJR l2;dsimp only at h;rw[p1,p2]at h;obtain⟨its1,r1,it1,_⟩:=I.tuple (hp.2 i t1 _ e1 p1);obtain⟨its2,r2,it2,_⟩:=I.tuple (hp.2 j t2 _ e2 p2);obtain⟨u,v,rfl,⟨t,rfl⟩,⟨t',rfl⟩⟩:=YB8 r1;obtain⟨u',v',rfl,⟨t3,rfl⟩,⟨t4,rfl⟩⟩:=YB8 r2;refine HT.lt_tupInts (it1.keeps hk) (it2.keeps hk) (.cons _ _ (.cons _ _ .nil)) (.cons _ _ (.cons _ _ .nil)) hu ?_;rw[YGJ];exact h
theorem Xd {us:List Value}:∀{i:Nat}{v:Value}{ts:List Addr},Ye (ts.map V.ref) us→us[i]?=some v→∃t,ts[i]?=some t∧v=.ref t:=by
 induction us with
 |nil=>intro i v ts _ h;cases h
 |cons u us ih=>
  intro i v ts r h;cases ts with
  |nil=>cases r
  |cons t ts=>
   cases r with
   |cons r1 r2=>
    cases i with
    |zero=>cases h;exact⟨t,rfl,r1⟩
    |succ i=>exact ih (ts:=ts) r2 h
def tMinPD (K:W.Frag) (t tk:TA):TE:=fun σ H Q=>t σ H fun vs H1=>tk σ H1 fun zs H2=>∃(a:Addr) (ts:List Addr) (ps:List (Int×Int)) (y:V),vs=[.ref a]∧zs=[y]∧SqL K H2 a (ts.map V.ref)∧PrAt K H2 ts ps∧(ts=[]→Q y H2)∧∀(i:Nat) (t:Addr) (p:Int×Int),ts[i]?=some t→ps[i]?=some p→(∀b∈ps,ltP b p=false)→Q (.ref t) H2
theorem YIy {ts:List Addr}{ps:List (Int×Int)} (hl:ts.length=ps.length) {i:Nat}{t:Addr} (hi:i=argBest (fun i j=>ltP ((ps[i]?).getD (0,0)) ((ps[j]?).getD (0,0))) (ts.length - 1)) (h:ts[i]?=some t):∃p,ps[i]?=some p∧∀b∈ps,ltP b p=false:=by
 have hlt:=(YJM.mp h).1;rw[hl]at hlt;obtain⟨g1,g2⟩:=YE9 (fun i=>(ps[i]?).getD (0,0)) (ts.length - 1);refine⟨_,YJR hlt,fun c hc=>?_⟩;obtain⟨j,hj⟩:=YKH hc;have hjl:=(YJM.mp hj).1;have:=g2 j (by omega);rw[←hi,hj,YJR hlt]at this;exact this
theorem YIz (K:W.Frag) (hK:X.K=K) (hu:X.A.units + 1 < cLine) (hc:X.calm=true) (hg:Gl X x) (hm:X.mg x=none) (hv:bootBuiltins x=some (.builtin "min")) (ha:PA X [e] t) (hd:PK X kws tk) (hn:x≠"__name__":=by decide) (hdb:(x == ("__debug__":Str))=false:=by decide)
  (he:starEach [e] X.env=[(false,eval e X.env)]:=by rfl) (hk:(backToKw pos (keywordEach kws X.env)).filterMap (·.1)=[("default":Str)]:=by rfl) (hal:(backToKw pos (keywordEach kws X.env)).all (·.1.isSome)=true:=by rfl) (han:(backToKw pos (keywordEach kws X.env)).any (·.1.isNone)=false:=by rfl):
  PE X (.Call (.Name x p) [e] kws pos) (tMinPD K t tk):=by
 subst hK;intro pins s σ H Q I h;refine wpAny_Call_Name_kw (JK I hg hm hv ?_ hn hdb);refine callWith_kw (rest:=[]) (thn (ha pos pins s σ H _ I h) fun us s1 ⟨vs,H1,I1,r1,q1⟩=>thn (hd pos pins s1 σ H1 _ I1 q1) fun ws s2 ⟨zs,H2,I2,r2,a,ts,ps,y,e1,e2,hq,hp,q0,qm⟩=>?_) (by rw[he];rfl) (by rw[he];rfl) hal han;subst e1 e2;obtain⟨u,rfl,ru⟩:=JJ r1;obtain⟨v,rfl,rv⟩:=JJ r2;cases ru;rw[hk];obtain⟨its,ri,pl,hz⟩:=I2.list hq;have hlen:ts.length=its.length:=by have:=ri.length;rwa [YJL]at this
 refine YGz (I2.ok.hd hc) pl.isList (fun i j vi vj s' Q E hk hi hj=>YDc I2 hp hu i j vi vj s' Q E hk (Xd ri (by simpa using hi)) (Xd ri (by simpa using hj))) (fun _ _ h=>h) (fun h0 h' tk hk=>?_) fun h0 v h' tk hv' hk=>?_
 ·rw[YJa,←hlen]at h0;exact⟨y,H2,I2.kept (t':=tk) hk,rv,q0 (List.length_eq_zero_iff.mp h0)⟩
 ·obtain⟨t,et,rfl⟩:=Xd ri (v:=v) (by simpa using hv');obtain⟨p,ep,hp⟩:=YIy hp.1 (by rw[←hlen]) et;exact⟨.ref t,H2,I2.kept (t':=tk) hk,rfl,qm _ t p et ep hp⟩
theorem YHo (hu:X.A.units + 1 < cLine) (hc:X.calm=true):Zl X (.builtin "min") (fun xs H Q=>∃(a:Addr) (ts:List Addr) (ps:List (Int×Int)),xs=[.ref a]∧SqL X.K H a (ts.map V.ref)∧PrAt X.K H ts ps∧ts≠[]∧∀(i:Nat) (t:Addr) (p:Int×Int),ts[i]?=some t→ps[i]?=some p→(∀b∈ps,ltP b p=false)→Q (.ref t) H):=by
 intro pins s σ H xs us Q I r h;obtain⟨a,ts,ps,rfl,hq,hp,hne,qm⟩:=h;obtain⟨u,rfl,rx⟩:=JJ r;cases rx;obtain⟨its,ri,pl,hz⟩:=I.list hq;have hlen:ts.length=its.length:=by have:=ri.length;rwa [YJL]at this
 refine YIw (I.ok.hd hc) pl.isList (fun i j vi vj s' Q E hk hi hj=>YDc I hp hu i j vi vj s' Q E hk (Xd ri (by simpa using hi)) (Xd ri (by simpa using hj))) (fun _ _ h=>h) (by rw[YJa,←hlen];exact List.length_pos_iff.mpr hne) fun v h' tk hv' hk=>?_
 obtain⟨t,et,rfl⟩:=Xd ri (v:=v) (by simpa using hv');obtain⟨p,ep,hp⟩:=YIy hp.1 (by rw[←hlen]) et;exact⟨.ref t,H,I.kept (t':=tk) hk,rfl,qm _ t p et ep hp⟩
theorem YHp (hc:X.calm=true):Zl X (.builtin "min") (fun xs H Q=>∃(a:Addr) (ns:List Int),xs=[.ref a]∧SqT X.K H a (ns.map V.int)∧ns≠[]∧∀m,m∈ns→(∀b∈ns,m≤b)→Q (.int m) H):=by
 intro pins s σ H xs us Q I r h;obtain⟨a,ns,rfl,hq,hne,qm⟩:=h;obtain⟨u,rfl,rx⟩:=JJ r;cases rx;obtain⟨its,ri,pl,hz⟩:=I.tuple hq;have hlen:ns.length=its.length:=by have:=ri.length;rwa [YJL]at this
 have h0:0 < ns.length:=List.length_pos_iff.mpr hne;refine YIx (I.ok.hd hc) pl (YE8 (fun i=>(ns[i]?).getD 0) fun i v hP=>?_) (by rw[YJa,←hlen];exact h0) fun v h' tk hv' hk=>?_
 ·obtain⟨b,t,eb,rfl⟩:=YA8 ri (i:=i) (v:=v) (by simpa using hP);exact⟨t,by show Value.int b t=Value.int ((ns[i]?).getD 0) t;rw[eb];rfl⟩
 ·obtain⟨b,t,eb,rfl⟩:=YA8 ri (v:=v) (by simpa using hv');rw[←hlen]at eb;have eb:ns[argBest (fun i j=>decide ((ns[i]?).getD 0 < (ns[j]?).getD 0)) (ns.length - 1)]?=some b:=eb;obtain⟨g1,g2⟩:=argBest_lt (fun i=>(ns[i]?).getD 0) (ns.length - 1);refine⟨.int b,H,I.kept (t':=tk) hk,⟨t,rfl⟩,qm b (YJS eb) fun c hc=>?_⟩;obtain⟨i,hi⟩:=YKH hc;have hil:=(YJM.mp hi).1;have:=g2 i (by omega);rw[hi,eb]at this;exact this
end
section
variable {X:Cx} (K:W.Frag) (hK:X.K=K)
include hK
theorem YGK (hu:X.A.units + 1 < cLine) (hc:X.calm=true):Zl X (.builtin "min") (fun xs H Q=>∃(a:Addr) (ts:List Addr) (ps:List (Int×Int)),xs=[.ref a]∧SqL K H a (ts.map V.ref)∧PrAt K H ts ps∧ts≠[]∧∀(i:Nat) (t:Addr) (p:Int×Int),ts[i]?=some t→ps[i]?=some p→(∀b∈ps,ltP b p=false)→Q (.ref t) H):=by subst hK;exact YHo hu hc
theorem YGL (hc:X.calm=true):Zl X (.builtin "min") (fun xs H Q=>∃(a:Addr) (ns:List Int),xs=[.ref a]∧SqT K H a (ns.map V.int)∧ns≠[]∧∀m,m∈ns→(∀b∈ns,m≤b)→Q (.int m) H):=by subst hK;exact YHp hc
end
end L2
namespace L2
open PySem PySem.Spec PyProof.Rows
def Itz (K:W.Frag) (a b:Addr):It:=
 ⟨fun i H=>∃xs ys x y,SqL K H a xs∧SqL K H b ys∧xs[i]?=some x∧ys[i]?=some y,fun i H v H'=>∃T,H T=none∧v=.ref T∧∀xs ys,SqL K H a xs→SqL K H b ys→∃x y,xs[i]?=some x∧ys[i]?=some y∧H'=upd H T (.tup [x,y]),
  fun i H=>∃xs ys,SqL K H a xs∧SqL K H b ys∧(xs.length≤i∨ys.length≤i)⟩
theorem YI0 {P:Program}{w:World}{K:W.Frag}{elts:List Expr}{k:Nat}{pos:Pos} (a b z TI TO i1 i2:Addr) (D:ZipApart z TI TO i1 i2 a b):
  YCm P w K (.Tuple elts k pos) (Itz K a b) [z,TI,TO,i1,i2] z (fun i h=>IsZip h z TI TO .none∧IsPair h TI (.ref i1) (.ref i2)∧(∃a b,IsPair h TO a b)∧h.IsListIter i1 a i∧h.IsListIter i2 b i) where
 mem:=by simp
 obj:=fun i h st c hc=>by
  obtain⟨hz,hTI,⟨_,_,hTO⟩,⟨o1,e1,c1,d1⟩,⟨o2,e2,c2,d2⟩⟩:=st;simp only[YJg,YJ8,or_false]at hc;rcases hc with rfl |rfl |rfl |rfl |rfl
  ·exact⟨_,hz,fun v z=>by cases z⟩
  ·exact⟨_,hTI,fun v z=>by cases z⟩
  ·exact⟨_,hTO,fun v z=>by cases z⟩
  ·exact⟨o1,e1,fun v z=>by rw[d1]at z;cases z⟩
  ·exact⟨o2,e2,fun v z=>by rw[d2]at z;cases z⟩
 keep:=fun i h h' st k=>by
  obtain⟨hz,hTI,⟨x,y,hTO⟩,h1,h2⟩:=st;exact⟨k z (by simp) _ hz,k TI (by simp) _ hTI,⟨x,y,k TO (by simp) _ hTO⟩,h1.at fun o x=>k i1 (by simp) o x,h2.at fun o x=>k i2 (by simp) o x⟩
 item:=by
  intro X hP hw hK hc i pins s σ H E I hf st hg;subst hP hw hK;obtain⟨hz,hTI,⟨_,_,hTO⟩,h1,h2⟩:=st;obtain⟨xs,ys,x,y,hq,hq',hx,hy⟩:=hg;obtain⟨its,rv,p,_⟩:=I.list hq;obtain⟨its',rv',p',_⟩:=I.list hq';obtain⟨u,hu,ru⟩:=rv.get hx;obtain⟨u',hu',ru'⟩:=rv'.get hy;refine wpAny_pyNext_zip_item D hz hTI hTO h1 h2 p.isList p'.isList (x:=u) (y:=u') (by simpa using hu) (by simpa using hu') fun h' hz' hTO' h1' h2' hT hsz hk=>?_
  refine⟨_,rfl,wpAny_letOwnedTupleGo_zip (s:={ s with heap:=h' }) hz' fun h'' hz'' hs'=>?_⟩;have kk:∀c o,c∉[z,TI,TO,i1,i2]→s.heap.get? c=some o→h''.get? c=some o:=fun c o hb q=>by
   simp only[YJg,YJ8,or_false,not_or]at hb;exact(hs'.2 c hb.1).trans (hk c o hb.1 hb.2.2.1 hb.2.2.2.1 hb.2.2.2.2 q)
  have I1:Inv X pins σ H { s with heap:=h'' }:=I.turns (t':=s.toks) kk hf;have hlt:z < s.heap.objs.size:=YJX hz;have hTz:s.heap.objs.size≠z:=Nat.ne_of_gt hlt;have hT':h''.get? s.heap.objs.size=some { cls:=.type "tuple",data:=.seq #[u,u'] }:=(hs'.2 _ hTz).trans hT;have hfr:H s.heap.objs.size=none:=I.hok.fresh (YJP _);have I2:=I1.trackT (T:=s.heap.objs.size) (xs:=[x,y]) (its:=[u,u']) hfr ⟨_,hT',rfl,_,rfl⟩ (.cons ru (.cons ru' .nil)) (by show 2≤sizeLine;rw[sizeLine_eq];decide)
   (fun o q=>absurd (YJX q) (YK9.mpr I.sz)) fun p hp z=>absurd (YJX (I.pin p hp).1) (by rw[z];exact YKB _)
  refine⟨.ref s.heap.objs.size,_,I2,rfl,⟨_,hfr,rfl,fun xs2 ys2 hy1 hy2=>⟨x,y,by rw[I.list_inj hy1 hq];exact hx,by rw[I.list_inj hy2 hq'];exact hy,rfl⟩⟩,⟨hz'',(hs'.2 TI D.TIz).trans (hk TI _ D.TIz D.TITO D.TIi1 D.TIi2 hTI),⟨_,_,(hs'.2 TO D.TOz).trans hTO'⟩,h1'.at fun o q=>(hs'.2 i1 D.i1z).trans q,h2'.at fun o q=>(hs'.2 i2 D.i2z).trans q⟩,fun c hc=>?_⟩;obtain⟨o,eo⟩:∃o,s.heap.get? c=some o:=by
   simp only[YJg,YJ8,or_false]at hc;rcases hc with rfl |rfl |rfl |rfl |rfl
   ·exact⟨_,hz⟩
   ·exact⟨_,hTI⟩
   ·exact⟨_,hTO⟩
   ·obtain⟨o,eo,_⟩:=h1;exact⟨o,eo⟩
   ·obtain⟨o,eo,_⟩:=h2;exact⟨o,eo⟩
  rw[YH (YJq (YJX eo))];exact(hf c hc).1
 done:=by
  intro X hP hw hK hc i pins s σ H E I hf st hg;subst hP hw hK;obtain⟨hz,hTI,⟨_,_,hTO⟩,h1,h2⟩:=st;obtain⟨xs,ys,hq,hq',hx⟩:=hg;obtain⟨its,rv,p,_⟩:=I.list hq;obtain⟨its',rv',p',_⟩:=I.list hq';have hl:=rv.length;have hl':=rv'.length;exact wpAny_pyNext_zip_end (I.ok.hd hc) D hz hTI hTO h1 h2 p.isList p'.isList (hx.imp (fun h=>YKz (by simp;omega)) fun h=>YKz (by simp;omega)) fun h' eb=>⟨rfl,I.turns (t':=s.toks) (fun c o hb q=>by
   simp only[YJg,YJ8,or_false,not_or]at hb;exact eb c o hb.1 hb.2.2.1 hb.2.2.2.1 hb.2.2.2.2 q) hf⟩
 self:=fun _ _ _ _ _ st h=>by
  obtain⟨hz,_⟩:=st;exact wpAny_pyIter_zip hz h
theorem YFA (n l l':Nat) (h:l < n) (h':l' < n):ZipApart (n + 4) (n + 2) (n + 3) n (n + 1) l l':=by
 have ne:∀{a b:Addr},@Ne Nat a b→a≠b:=fun h=>h
 constructor <;> exact ne (by omega)
section
variable {X:Cx}{elts:List Expr}{k:Nat}{tpos:Pos}
def iZip2 (K:W.Frag) (ta:TA):TI:=fun σ H R=>ta σ H fun vs H1=>∃a b xs ys,vs=[.ref a,.ref b]∧SqL K H1 a xs∧SqL K H1 b ys∧R (Itz K a b) H1
theorem pi_zip2 (K:W.Frag) (hK:X.K=K) {a b:Expr}{ta:TA}{p pos:Pos} (hg:Gl X "zip") (hm:X.mg "zip"=none) (ha:PA X [a,b] ta) (hs:starEach [a,b] X.env=(false,eval a X.env) :: starEach [b] X.env:=by rfl) (hpl:(backTo pos (starEach [b] X.env)).any (·.1)=false:=by rfl):
  PI X (.Tuple elts k tpos) (.Call (.Name "zip" p) [a,b] [] pos) (iZip2 K ta):=by
 subst hK;intro pins s σ H R I h;refine Call_ (JK I hg hm PyProof.Rows.Boot.«zip» (PyProof.Rows.callWith_type1 (thn (ha pos pins s σ H _ I h) fun us s1 ⟨vs,H1,I1,r1,q1⟩=>?_) hs hpl));obtain⟨l,l',xs,ys,rfl,hq,hq',q⟩:=q1;obtain⟨u,u',rfl,ru,ru'⟩:=YB8 r1;cases ru;cases ru';obtain⟨its,rv,p,_⟩:=I1.list hq;obtain⟨its',rv',p',_⟩:=I1.list hq';refine call_zip_2 p.isList p'.isList fun h' hz hTI hTO h1 h2 hsz hk=>?_
 have I2:Inv X pins σ H1 { s1 with heap:=h' }:=I1.kept (t':=s1.toks) hk;refine wpAny_pyIter_zip hz ?_;have lt:l < s1.heap.objs.size:=by obtain⟨_,e,_⟩:=p.isList;exact YJX e
 have lt':l' < s1.heap.objs.size:=by obtain⟨_,e,_⟩:=p'.isList;exact YJX e
 have D:=YFA s1.heap.objs.size l l' lt lt';have fo:∀j,X7 X pins H1 (s1.heap.objs.size + j):=fun j=>I1.fpOk (YLE _ _) (I1.hok.fresh (YLE _ _))
 refine⟨s1.heap.objs.size + 4,[s1.heap.objs.size + 4,s1.heap.objs.size + 2,s1.heap.objs.size + 3,s1.heap.objs.size,s1.heap.objs.size + 1],_,_,H1,rfl,I2,YI0 l l' _ _ _ _ _ D,⟨hz,hTI,⟨_,_,hTO⟩,h1,h2⟩,fun b hb=>?_,q⟩;simp only[YJg,YJ8,or_false]at hb;rcases hb with rfl |rfl |rfl |rfl |rfl
 ·exact fo 4
 ·exact fo 2
 ·exact fo 3
 ·exact fo 0
 ·exact fo 1
theorem YBC:Zl X (.builtin "divmod") (fun xs H Q=>∃i j:Int,xs=[.int i,.int j]∧0 < j∧j.natAbs.log2 < 9000∧∀t,H t=none→Q (.ref t) (upd H t (.tup [.int (i / j),.int (i % j)]))):=by
 intro pins s σ H xs us Q I r h;obtain⟨i,j,rfl,hj,hl,q⟩:=h;obtain⟨u,v,rfl,⟨t,rfl⟩,⟨t',rfl⟩⟩:=YB8 r;refine divmod_int (by omega) ?_ (.inl (PyProof.noPylong_of_log2 hl));rw[Int.fdiv_eq_ediv_of_nonneg _ (YKv hj),Int.fmod_eq_emod_of_nonneg _ (YKv hj)];have I2:Inv X pins σ (upd H s.heap.objs.size (.tup [.int (i / j),.int (i % j)])) { s with toks:=s.toks + 1 + 1,heap:=s.heap.push { cls:=.type "tuple",data:=.seq #[.int (i / j) s.toks,.int (i % j) (s.toks + 1)] } }:=
  I.laid (t':=s.toks + 1 + 1) (fun b o e=>YJO _ e) (YJP _) (show Yj X.prog X.w _ _ _ (.tup _) from⟨by show 2≤sizeLine;rw[sizeLine_eq];decide,[.int (i / j) s.toks,.int (i % j) (s.toks + 1)],.cons ⟨_,rfl⟩ (.cons ⟨_,rfl⟩ .nil),IsTup.new _ _⟩)
 exact⟨.ref s.heap.objs.size,_,I2,rfl,q _ (I.hok.fresh (YJP _))⟩
end
end L2
namespace L2
open PySem PySem.Spec PyProof.Rows
def YI1 (ta:TA):TE:=fun σ H Q=>ta σ H fun vs H1=>∃n:Nat,vs=[.int n]∧n≤2 ^ 20∧∀l,H1 l=none→Q (.ref l) (upd H1 l (.lst ((List.range n).map fun i:Nat=>V.int (i:Int))))
theorem YFB {X:Cx}{a:Expr}{ta:TA}{p p2 pos pos2:Pos} (hc:X.calm=true) (hg:Gl X "list") (hm:X.mg "list"=none) (hg2:Gl X "range") (hm2:X.mg "range"=none) (ha:PA X [a] ta)
  (hs:starEach [.Call (.Name "range" p2) [a] [] pos2] X.env=[(false,eval (.Call (.Name "range" p2) [a] [] pos2) X.env)]:=by rfl) (hs2:starEach [a] X.env=[(false,eval a X.env)]:=by rfl):
  PE X (.Call (.Name "list" p) [.Call (.Name "range" p2) [a] [] pos2] [] pos) (YI1 ta):=by
 intro pins s σ H Q I h;refine wpAny_Call_Name_kw (JK I hg hm YKU ?_);refine PyProof.Rows.callWith_type1 ?_ hs rfl;rw[hs];show wpAny _ _ (spliced ((false,eval (.Call (.Name "range" p2) [a] [] pos2) X.env) :: [])) _ _ s;refine Calls.spliced_cons (wpAny_Call_Name_kw (JK I hg2 hm2 boot_range (PyProof.Rows.callWith_type1 (thn (ha pos2 pins s σ H _ I h) fun us s1 ⟨vs,H1,I1,r1,q1⟩=>?_) hs2 rfl)));obtain⟨n,rfl,hn,q⟩:=q1;obtain⟨u,rfl,t,rfl⟩:=JJ r1;refine call_range_1 (Calls.spliced_nil ?_);have e2:Builtin.Range.rangeSize 0 (n:Int) 1=n:=by rw[rangeSize_one];split <;> omega
 have p20:(2:Nat) ^ 20=1048576:=by decide
 have p62:(2:Int) ^ 62=4611686018427387904:=by decide
 refine call_list_range (n:=n) (I1.ok.hd hc) (IsRange.new ..) (small_one (a:=0) (b:=n) (by decide) (by decide) (by omega) (by omega)) e2 (YJt hn (by decide)) fun h' tk acc' c' hk hS hacc=>?_
 have rv':Ye ((List.range n).map fun i:Nat=>V.int (i:Int)) acc'.toList:=by
  refine YEB (by rw[YJL,YJj,YJ4,hacc.1]) fun j x u h1 h2=>?_
  obtain⟨t',rfl⟩:=hacc.2 j u (by rw[←YKQ];exact h2);rw[YJQ]at h1;have hj:j < n:=by
   have:=(YJM.mp h2).1
   rwa [YJ4,hacc.1]at this
  rw[YJ3 hj]at h1;cases h1;exact⟨t',by simp⟩
 have kk:∀b u,s1.heap.get? b=some u→h'.get? b=some u:=fun b u e=>hk b u (YJO _ e)
 have le:s1.heap.objs.size≤(s1.heap.push { cls:=.type "range",data:=.fields #[.int 0 s1.toks,.int (n:Int) t,.int 1 (s1.toks + 1)] }).objs.size:=by rw[YKX];exact YKc _
 exact⟨.ref _,_,I1.laid (t':=tk) kk (by rw[YKX];exact YKc _) (show Yj X.prog X.w _ h' _ (.lst _) from⟨by rw[YJL,YJj,sizeLine_eq];omega,acc'.toList,c',rv',by simpa using hS⟩),rfl,q _ (I1.hok.fresh (by rw[YKX];exact YKc _))⟩
def iDictF (to:TE):TI:=fun σ H R=>to σ H fun x H1=>∃d o kvs,x=.ref d∧H1 d=some (.frz o (.dK kvs))∧R (ItK d o kvs) H1
theorem YI2 {X:Cx}{tg oe:Expr}{to:TE} (ho:PE X oe to):PI X tg oe (iDictF to):=by
 intro pins s σ H R I h;refine thn (ho pins s σ H _ I h) fun v s1 ⟨x,H1,I1,r1,q1⟩=>?_
 obtain⟨d,od,kvs,ex,hd,q⟩:=q1;subst ex;cases r1;obtain⟨hod,hsz,lo,vs,rel,hD⟩:=(show Yj X.prog X.w H1 s1.heap d (.frz od (.dK kvs)) from I1.hok d _ hd);obtain⟨o2,es2,ep2,h1,h2,h3,h4⟩:=hD;rw[hod]at h1;cases h1;have hat:s1.heap.DictAt (Y5 X.prog X.w) d vs ep2:=⟨od,es2,hod,h2,h3,h4⟩;refine wpAny_pyIter_dict lo hat ?_;have k1:∀b u,s1.heap.get? b=some u→(s1.heap.push { cls:=.type "dict_keyiterator",data:=.fields #[.ref d,.int 0 0,.int vs.length 0,.int ep2 0] }).get? b=some u:=fun b u e=>YJO _ e
 have I2:=I1.kept (t':=s1.toks) k1;have hlen:kvs.length=vs.length:=rel.length;refine⟨_,[_],_,_,_,rfl,I2,YDa (o:=od) h3,⟨_,YJc _ rfl,rfl,by rw[hlen];rfl⟩,fun b hb=>?_,q⟩;have eb:=YJW.mp hb;rw[eb];exact I1.fpOk (YJP _) (I1.hok.fresh (YJP _))
theorem YAb {d:Addr}{o:Obj}{kvs:List (Key×V)}{g:TG}{tb:TS}{D:YAf}{σ:St}{H:Hp} (Pv:Nat→St→Hp→Prop) (h0:Pv 0 σ H) (hl:∀i σ H,i≤kvs.length→Pv i σ H→H d=some (.frz o (.dK kvs)))
  (hs:∀i kv σ H,kvs[i]?=some kv→Pv i σ H→g (kV kv.1) σ H fun σ2 H2=>tb { D with nx:=Pv (i + 1),ct:=Pv (i + 1),bk:=D.nx } σ2 H2) (hd:∀σ H,Pv kvs.length σ H→D.nx σ H):
  ∃W:Nat→Nat→St→Hp→Prop,(∃m,W 0 m σ H)∧∀i m σ H,W i m σ H→
   ((ItK d o kvs).stop i H∧D.nx σ H)∨((ItK d o kvs).go i H∧∃N:St→Hp→Prop,(∀σ' H',N σ' H'→∃m',m' < m∧W (i + 1) m' σ' H')∧∀x H',(ItK d o kvs).yld i H x H'→g x σ H' fun σ2 H2=>tb { D with nx:=N,ct:=N,bk:=D.nx } σ2 H2):=by
 refine⟨fun i m σ H=>m=kvs.length - i∧i≤kvs.length∧Pv i σ H,⟨kvs.length,by simp,YJw _,h0⟩,?_⟩;rintro i m σ H ⟨rfl,hi,p⟩;have q:=hl i σ H hi p
 by_cases hlt:i < kvs.length
 ·refine .inr ⟨⟨q,hlt⟩,Pv (i + 1),fun σ' H' p'=>⟨kvs.length - (i + 1),by omega,rfl,hlt,p'⟩,fun x H' y=>?_⟩;obtain⟨kv,hkv,rfl,rfl⟩:=y;exact hs i kv σ _ hkv p
 ·have ei:i=kvs.length:=by omega
  subst ei;exact .inl ⟨⟨q,rfl⟩,hd σ H p⟩
end L2
namespace FR
open PySem L2
def okP (s:Sz) (p:Str):Bool:=isQ p || (look s p).isSome
def rch (s:Sz):List Str→Nat
 |[]=>0
 |p :: ps=>if okP s p=true then rch s ps + 1 else 0
theorem J2 (s:Sz):∀ps:List Str,rch s ps≤ps.length
 |[]=>YJP _
 |p :: ps=>by
  show(if okP s p=true then rch s ps + 1 else 0)≤ps.length + 1;have:=J2 s ps;split <;> omega
theorem J3 {s:Sz}:∀{ps:List Str}{j:Nat},j < rch s ps→∃p,ps[j]?=some p∧okP s p=true
 |[],j,h=>absurd h (YK5 _)
 |p :: ps,j,h=>by
  have h:j < if okP s p=true then rch s ps + 1 else 0:=h
  by_cases hp:okP s p=true
  ·rw[if_pos hp]at h;cases j with
   |zero=>exact⟨p,rfl,hp⟩
   |succ j=>exact J3 (ps:=ps) (by omega)
  ·rw[if_neg hp]at h;omega
theorem YCY {s:Sz}:∀{ps:List Str},rch s ps < ps.length→∃p,ps[rch s ps]?=some p∧okP s p=false
 |[],h=>absurd h (YK5 _)
 |p :: ps,h=>by
  by_cases hp:okP s p=true
  ·have e:rch s (p :: ps)=rch s ps + 1:=if_pos hp;rw[e]at h ⊢;exact YCY (ps:=ps) (by simpa using h)
  ·have e:rch s (p :: ps)=0:=if_neg hp;rw[e];exact⟨p,rfl,Bool.eq_false_iff.mpr hp⟩
theorem YCZ {s:Sz}{ps:List Str} (h:∀p∈ps,okP s p=true):rch s ps=ps.length:=by
 rcases YJr (rch s ps) ps.length with hlt |hge
 ·obtain⟨p,e,hp⟩:=YCY hlt;rw[h p (YJS e)]at hp;cases hp
 ·exact Nat.le_antisymm (J2 s ps) hge
abbrev OvF:=Str→Nat→Nat→Int
abbrev FiF:=Nat→Nat→Nat→Nat→Int
def EqF (g:ZF) (s:Sz) (cut:Int) (O:OvF) (F:FiF) (b m:Nat):Prop:=∀(r:Nat) (ρ:Y2),g[r]?=some ρ→F r 0 b m=m * cut + 1∧∀(d:Nat) (p:Str),d < rch s ρ.2.1→ρ.2.1[d]?=some p→
 (∀k,k≤m→F r (d + 1) b m≤F r d b k + O p (b + k) (b + m))∧∃k,k≤m∧F r (d + 1) b m=F r d b k + O p (b + k) (b + m)
def EqO (g:ZF) (s:Sz) (O:OvF) (F:FiF) (b m:Nat):Prop:=∀(h:Str) (v:Int),look s h=some v→
 (∀(r:Nat) (ρ:Y2),g[r]?=some ρ→ρ.1=h→rch s ρ.2.1=ρ.2.1.length→O h b (b + m)≤F r ρ.2.1.length b m)∧
 ∃(r:Nat) (ρ:Y2),g[r]?=some ρ∧ρ.1=h∧rch s ρ.2.1=ρ.2.1.length∧O h b (b + m)=F r ρ.2.1.length b m
theorem YGM {M:Int} (hM:0 < M) (x y:Int):(x + y) % M≤x % M + y % M:=by
 have e:(x + y) % M=(x % M + y % M) % M:=by rw[Int.add_emod]
 rw[e];have h2:=YJ7 x (YKt hM);have h3:=YJ7 y (YKt hM);rcases Int.lt_or_le (x % M + y % M) M with h |h
 ·rw[Int.emod_eq_of_lt (by omega) h];exact YKI _
 ·exact YKL (YKv (YJ9 _ hM)) h
section
variable {g:ZF}{s:Sz}{cut M:Int}{O:OvF}{F:FiF}{n:Nat}
structure Xe (g:ZF) (s:Sz) (cut M:Int) (O:OvF) (F:FiF) (n:Nat):Prop where
 cut0:0≤cut
 cutM:cut % M=0
 one:1 < M
 pos:∀p b e,0≤O p b e
 sg:∀p b e,isQ p=true→O p b e % M=0
 f:∀b m,b + m≤n→EqF g s cut O F b m
 o:∀b m,b + m≤n→EqO g s O F b m
theorem Xe.f1 (T:Xe g s cut M O F n) {r:Nat}{ρ:Y2} (hr:g[r]?=some ρ):∀{d b m:Nat},d≤rch s ρ.2.1→b + m≤n→1≤F r d b m:=by
 intro d
 induction d with
 |zero=>
  intro b m _ hn;rw[(T.f b m hn r ρ hr).1];have:=YKN (Int.ofNat_nonneg m) T.cut0;omega
 |succ d ih=>
  intro b m hd hn;obtain⟨p,ep,_⟩:=J3 (s:=s) (ps:=ρ.2.1) (j:=d) (by omega);obtain⟨k,hk,e⟩:=((T.f b m hn r ρ hr).2 d p (by omega) ep).2;rw[e];have h1:=ih (b:=b) (m:=k) (by omega) (by omega);have h2:=T.pos p (b + k) (b + m);omega
theorem Xe.parts (T:Xe g s cut M O F n) {r:Nat}{ρ:Y2} (hr:g[r]?=some ρ) {V R:Int} (hR:0≤R) {b e:Nat} (he:e≤n)
  (hp:∀p∈ρ.2.1,okP s p=true→∀b' e',b≤b'→b'≤e'→e'≤e→O p b' e' < V→O p b' e' % M≤R):
  ∀{d m:Nat},d≤rch s ρ.2.1→b + m≤e→F r d b m≤V→F r d b m % M≤1 + d * R:=by
 have hM:0 < M:=Int.lt_trans (by decide) T.one;intro d
 induction d with
 |zero=>
  intro m _ hn _;rw[(T.f b m (by omega) r ρ hr).1,Int.add_emod,Int.mul_emod,T.cutM,Int.mul_zero,Int.zero_emod,YKP,Int.emod_emod,Int.emod_eq_of_lt (by decide) T.one];simp
 |succ d ih=>
  intro m hd hn hV;obtain⟨p,ep,hok⟩:=J3 (s:=s) (ps:=ρ.2.1) (j:=d) (by omega);obtain⟨k,hk,e1⟩:=((T.f b m (by omega) r ρ hr).2 d p (by omega) ep).2;rw[e1]at hV ⊢;have h1:=T.f1 hr (d:=d) (b:=b) (m:=k) (by omega) (by omega);have h2:=T.pos p (b + k) (b + m);have h3:=ih (m:=k) (by omega) (by omega) (by omega);have h4:=hp p (YJS ep) hok (b + k) (b + m) (by omega) (by omega) hn (by omega);have h5:=YGM hM (F r d b k) (O p (b + k) (b + m));have e2:((d + 1:Nat):Int) * R=d * R + R:=by push_cast;rw[Int.add_mul,Int.one_mul]
  rw[e2];omega
def YFC (s:Sz) (O:OvF) (b e:Nat) (h:Str):Nat:=((s.map (·.1)).filter fun z=>decide (O z b e < O h b e)).length
theorem YDd {α:Type}{p q:α→Bool}:∀{l:List α},(∀x∈l,p x=true→q x=true)→(l.filter p).length≤(l.filter q).length
 |[],_=>YJP _
 |c :: l,h=>by
  have:=YDd fun x hx=>h x (YJf c hx)
  have hc:=h c (YJp ..);rw[YKd,YKd];cases ep:p c with
  |true=>rw[if_pos rfl,if_pos (hc ep)];simpa using this
  |false=>
   rw[if_neg YJZ];split
   ·rw[YJn];omega
   ·exact this
theorem YDe {α:Type}{p q:α→Bool}:∀{l:List α},(∀x∈l,p x=true→q x=true)→(∃x∈l,p x=false∧q x=true)→(l.filter p).length < (l.filter q).length:=by
 intro l
 induction l with
 |nil=>rintro _ ⟨x,hx,_⟩;cases hx
 |cons a l ih=>
  intro h1 h2;have hle:(l.filter p).length≤(l.filter q).length:=by
   exact YDd fun x hx=>h1 x (YJf _ hx)
  rw[YKd,YKd];rcases h2 with ⟨x,hx,e1,e2⟩
  rcases YJg.mp hx with rfl |hx
  ·rw[e1,e2,if_neg YJZ,if_pos rfl,YJn];omega
  ·have:=ih (fun x hx=>h1 x (YJf _ hx)) ⟨x,hx,e1,e2⟩;have ha:=h1 a (YJp ..);cases ep:p a with
   |true=>rw[if_pos rfl,if_pos (ha ep)];simpa using this
   |false=>
    rw[if_neg YJZ];split
    ·rw[YJn];omega
    ·exact this
theorem YG0 {h:Str}{v:Int} (hh:look s h=some v) (b e:Nat):YFC s O b e h < s.length:=by
 have hm:h∈s.map (·.1):=YJh.mpr ⟨_,Xb hh,rfl⟩;have:=YDe (p:=fun z=>decide (O z b e < O h b e)) (q:=fun _=>true) (l:=s.map (·.1)) (fun _ _ _=>rfl) ⟨h,hm,YJV (Int.lt_irrefl _),rfl⟩;rw[List.filter_eq_self.mpr (fun _ _=>rfl),YJL]at this;exact this
theorem YHq {p h:Str}{v:Int} (hp:look s p=some v) {b e:Nat} (hlt:O p b e < O h b e):YFC s O b e p < YFC s O b e h:=by
 refine YDe (fun x _ hx=>?_) ⟨p,YJh.mpr ⟨_,Xb hp,rfl⟩,YJV (Int.lt_irrefl _),YJU hlt⟩;have:=YJm hx;exact YJU (by omega)
theorem pow7 {l:Nat}:(1:Int)≤7 ^ l:=by
 have:(0:Int) < 7 ^ l:=Int.pow_pos (by decide);omega
theorem YAc {l l':Nat} (h:l≤l'):(7:Int) ^ l≤7 ^ l':=by
 induction l' with
 |zero=>
  have:l=0:=by omega
  rw[this];exact YKI _
 |succ k ih=>
  rcases YJr l (k + 1) with h' |h'
  ·have h1:=ih (by omega);have h2:(7:Int) ^ (k + 1)=7 ^ k * 7:=Int.pow_succ ..;have h3:=pow7 (l:=k);omega
  ·have:l=k + 1:=by omega
   rw[this];exact YKI _
theorem Xe.head (T:Xe g s cut M O F n) (h6:∀ρ∈g,ρ.2.1.length≤6):∀(l:Nat) {h:Str}{v:Int}{b m:Nat},look s h=some v→b + m≤n→m * s.length + YFC s O b (b + m) h=l→O h b (b + m) % M≤7 ^ (l + 1):=by
 intro l
 induction l using Nat.strongRecOn with
 |ind l ih=>
  intro h v b m hh hn hl;obtain⟨r,ρ,hr,eh,hf,e⟩:=(T.o b m hn h v hh).2;have hlen:=h6 ρ (YJS hr);have hR:=pow7 (l:=l);have key:=T.parts hr (V:=O h b (b + m)) (R:=7 ^ l) (by omega) (b:=b) (e:=b + m) hn (fun p _ hok b' e' h1 h2 h3 hlt=>?_) (d:=ρ.2.1.length) (m:=m) (by omega) (YJP _) (by rw[e];exact YKI _)
  ·rw[e];have h7:(7:Int) ^ (l + 1)=7 ^ l * 7:=Int.pow_succ ..;have:(ρ.2.1.length:Int) * 7 ^ l≤6 * 7 ^ l:=YKu (by omega) (by omega);omega
  ·cases hq:isQ p with
   |true=>rw[T.sg p b' e' hq];omega
   |false=>
    unfold okP at hok;rw[hq,YKY]at hok;obtain⟨u,hu⟩:=YJv.mp hok;obtain⟨m',rfl⟩:∃m',e'=b' + m':=⟨e' - b',by omega⟩;have hr1:=YG0 (O:=O) hu b' (b' + m');have lv:m' * s.length + YFC s O b' (b' + m') p < l:=by
     rcases YJr m' m with hm |hm
     ·have h4:(m' + 1) * s.length≤m * s.length:=Nat.mul_le_mul_right _ hm;rw[Nat.add_mul,Nat.one_mul]at h4;omega
     ·have e1:m'=m:=by omega
      have e2:b'=b:=by omega
      subst e1 e2;have:=YHq hu hlt;omega
    exact YKL (ih _ lv hu (by omega) rfl) (YAc (by omega))
theorem Xe.headB (T:Xe g s cut M O F n) (h6:∀ρ∈g,ρ.2.1.length≤6) {h:Str}{v:Int}{b m:Nat} (hh:look s h=some v) (hn:b + m≤n):O h b (b + m) % M≤7 ^ ((n + 1) * s.length):=by
 refine YKL (T.head h6 _ hh hn rfl) (YAc ?_);have h1:=YG0 (O:=O) hh b (b + m);have h2:m * s.length≤n * s.length:=Nat.mul_le_mul_right _ (by omega);rw[Nat.add_mul,Nat.one_mul];omega
theorem Xe.partB (T:Xe g s cut M O F n) (h6:∀ρ∈g,ρ.2.1.length≤6) {p:Str}{b e:Nat} (hp:okP s p=true) (hb:b≤e) (he:e≤n):O p b e % M≤7 ^ ((n + 1) * s.length):=by
 have:=pow7 (l:=(n + 1) * s.length);cases hq:isQ p with
 |true=>rw[T.sg p b e hq];omega
 |false=>
  unfold okP at hp;rw[hq,YKY]at hp;obtain⟨u,hu⟩:=YJv.mp hp;obtain⟨m,rfl⟩:∃m,e=b + m:=⟨e - b,by omega⟩;exact T.headB h6 hu he
theorem Xe.ruleB (T:Xe g s cut M O F n) (h6:∀ρ∈g,ρ.2.1.length≤6) {r:Nat}{ρ:Y2} (hr:g[r]?=some ρ) {d b m:Nat} (hd:d≤rch s ρ.2.1) (hn:b + m≤n):F r d b m % M≤7 ^ ((n + 1) * s.length + 1):=by
 have hR:=pow7 (l:=(n + 1) * s.length);have key:=T.parts hr (V:=F r d b m) (R:=7 ^ ((n + 1) * s.length)) (by omega) (b:=b) (e:=b + m) hn (fun p _ hok b' e' h1 h2 h3 _=>T.partB h6 hok h2 (by omega)) hd (YJP _) (YKI _);have hlen:=h6 ρ (YJS hr);have hd6:=YJt hd (J2 s ρ.2.1);have h7:(7:Int) ^ ((n + 1) * s.length + 1)=7 ^ ((n + 1) * s.length) * 7:=Int.pow_succ ..;have:(d:Int) * 7 ^ ((n + 1) * s.length)≤6 * 7 ^ ((n + 1) * s.length):=YKu (by omega) (by omega);omega
end
def YBD (x:Int):Option Int→Int
 |none=>x
 |some y=>if y < x then y else x
def prt (ps:List Str) (d:Nat):Str:=(ps[d]?).getD Str.empty
def Y3 (cut:Int) (O:OvF) (Fr:Nat→Nat→Int) (inn:Nat→Option Int) (ps:List Str) (b e:Nat):Nat→Int
 |0=>((e:Int) - b) * cut + 1
 |d + 1=>YBD (if b < e then (if Fr d 0 + O (prt ps d) b e < Y3 cut O Fr inn ps b e d + O (prt ps d) e e then Fr d 0 + O (prt ps d) b e else Y3 cut O Fr inn ps b e d + O (prt ps d) e e) else Y3 cut O Fr inn ps b e d + O (prt ps d) e e) (inn (d + 1))
theorem YEJ (x:Int) (o:Option Int):YBD x o≤x∧(∀y,o=some y→YBD x o≤y)∧(YBD x o=x∨o=some (YBD x o)):=by
 cases o with
 |none=>exact⟨YKI _,fun y h=>(nomatch h),.inl rfl⟩
 |some y=>
  show(if y < x then y else x)≤x∧_
  by_cases h:y < x
  ·have e:YBD x (some y)=y:=if_pos h;rw[if_pos h,e];exact⟨YKv h,fun z hz=>by cases hz;exact YKI _,.inr rfl⟩
  ·have e:YBD x (some y)=x:=if_neg h;rw[if_neg h,e];exact⟨YKI _,fun z hz=>by cases hz;omega,.inl rfl⟩
section
variable {s:Sz}{cut:Int}{O O':OvF}{Fr:Nat→Nat→Int}{inn:Nat→Option Int}{ps:List Str}{b e m:Nat}
theorem JP (d:Nat):Y3 cut O Fr inn ps b e (d + 1)=YBD (if b < e then (if Fr d 0 + O (prt ps d) b e < Y3 cut O Fr inn ps b e d + O (prt ps d) e e then Fr d 0 + O (prt ps d) b e else Y3 cut O Fr inn ps b e d + O (prt ps d) e e) else Y3 cut O Fr inn ps b e d + O (prt ps d) e e) (inn (d + 1)):=rfl
def YFD (s:Sz) (O:OvF) (Fr:Nat→Nat→Int) (inn:Nat→Option Int) (ps:List Str) (b m:Nat):Prop:=∀(d:Nat) (p:Str),d < rch s ps→ps[d]?=some p→
 (∀k,1≤k→k < m→∃v,inn (d + 1)=some v∧v≤Fr d k + O p (b + k) (b + m))∧∀v,inn (d + 1)=some v→∃k,1≤k∧k < m∧v=Fr d k + O p (b + k) (b + m)
theorem YI3 (hi:YFD s O Fr inn ps b m) {d:Nat}{p:Str} (hd:d < rch s ps) (hp:ps[d]?=some p):
  (∀k,k≤m→Y3 cut O Fr inn ps b (b + m) (d + 1)≤(if k < m then Fr d k else Y3 cut O Fr inn ps b (b + m) d) + O p (b + k) (b + m))∧
  ∃k,k≤m∧Y3 cut O Fr inn ps b (b + m) (d + 1)=(if k < m then Fr d k else Y3 cut O Fr inn ps b (b + m) d) + O p (b + k) (b + m):=by
 obtain⟨i1,i2⟩:=hi d p hd hp;have ep:prt ps d=p:=by unfold prt;rw[hp];rfl
 rw[JP,ep];obtain⟨L,eL⟩:∃L,Y3 cut O Fr inn ps b (b + m) d=L:=⟨_,rfl⟩;rw[eL];obtain⟨x,ex⟩:∃x,(if b < b + m then (if Fr d 0 + O p b (b + m) < L + O p (b + m) (b + m) then Fr d 0 + O p b (b + m) else L + O p (b + m) (b + m)) else L + O p (b + m) (b + m))=x:=⟨_,rfl⟩;rw[ex];have x1:x≤L + O p (b + m) (b + m):=by rw[←ex];split <;> (try split) <;> omega
 have x2:0 < m→x≤Fr d 0 + O p b (b + m):=fun h=>by rw[←ex,if_pos (by omega)];split <;> omega
 have x3:x=L + O p (b + m) (b + m)∨(0 < m∧x=Fr d 0 + O p b (b + m)):=by
  rw[←ex]
  by_cases h:b < b + m
  ·rw[if_pos h];split
   ·exact .inr ⟨by omega,rfl⟩
   ·exact .inl rfl
  ·rw[if_neg h];exact .inl rfl
 obtain⟨y1,y2,y3⟩:=YEJ x (inn (d + 1));refine⟨fun k hk=>?_,?_⟩
 ·by_cases hkm:k < m
  ·rw[if_pos hkm];rcases Nat.eq_zero_or_pos k with rfl |h0
   ·have:=x2 hkm;show _≤Fr d 0 + O p b (b + m);omega
   ·obtain⟨v,ev,hv⟩:=i1 k h0 hkm;exact YKL (y2 v ev) hv
  ·rw[if_neg hkm];have:k=m:=by omega
   subst this;omega
 ·rcases y3 with y3 |y3
  ·rw[y3];rcases x3 with x3 |⟨h0,x3⟩
   ·exact⟨m,YJP _,by rw[if_neg (YKB _)];exact x3⟩
   ·exact⟨0,YJw _,by rw[if_pos h0,Nat.add_zero];exact x3⟩
  ·obtain⟨k,h1,h2,e1⟩:=i2 _ y3;exact⟨k,by omega,by rw[if_pos h2];exact e1⟩
theorem YHr {x y:Int} (h:x≤y) (o:Option Int):YBD x o≤YBD y o:=by
 cases o with
 |none=>exact h
 |some z=>
  show(if z < x then z else x)≤if z < y then z else y
  split <;> split <;> omega
theorem YDf (h1:∀p∈ps,O' p b e≤O p b e) (h2:∀p∈ps,O' p e e≤O p e e):∀{d:Nat},d≤ps.length→Y3 cut O' Fr inn ps b e d≤Y3 cut O Fr inn ps b e d
 |0,_=>YKI _
 |d + 1,hd=>by
  have ih:=YDf h1 h2 (d:=d) (by omega);have hp:ps[d]?=some ps[d]:=YJR (by omega);have hm:prt ps d∈ps:=by unfold prt;rw[hp];exact YLF _
  have a1:=h1 _ hm;have a2:=h2 _ hm;rw[JP,JP];refine YHr ?_ _;split <;> (try split) <;> (try split) <;> omega
theorem YFE {R:Nat} (hc:0≤cut) (hbe:b≤e) (hO:∀p b e,0≤O p b e) (hF:∀d,d < R→b < e→1≤Fr d 0) (hi:∀d v,d < R→inn (d + 1)=some v→1≤v):∀{d:Nat},d≤R→1≤Y3 cut O Fr inn ps b e d
 |0,_=>by
  have:=YKN (show(0:Int)≤(e:Int) - b by omega) hc;show(1:Int)≤_ + 1;omega
 |d + 1,hd=>by
  have ih:=YFE hc hbe hO hF hi (d:=d) (by omega);have a1:=hO (prt ps d) b e;have a2:=hO (prt ps d) e e;have a3:=hF d (by omega);rw[JP];obtain⟨x,ex⟩:∃x,(if b < e then (if Fr d 0 + O (prt ps d) b e < Y3 cut O Fr inn ps b e d + O (prt ps d) e e then Fr d 0 + O (prt ps d) b e else Y3 cut O Fr inn ps b e d + O (prt ps d) e e) else Y3 cut O Fr inn ps b e d + O (prt ps d) e e)=x:=⟨_,rfl⟩;rw[ex];have x1:1≤x:=by
   rw[←ex]
   by_cases h:b < e
   ·have:=a3 h;rw[if_pos h];split <;> omega
   ·rw[if_neg h];omega
  rcases(YEJ x (inn (d + 1))).2.2 with h |h
  ·rw[h];exact x1
  ·exact hi d _ (by omega) h
theorem YHs {q:Int} (hq:∀p∈ps,isQ p=true→O p e e≤q) (hn:∀p∈ps,isQ p=false→∀v,look s p=some v→O p e e≤v) {k:Int} (hk:X0 s q ps=some k):
  Y3 cut O Fr inn ps b e ps.length≤((e:Int) - b) * cut + k:=by
 have step:∀d,d≤ps.length→∃a,Zu s q (ps.drop d) a=some k∧Y3 cut O Fr inn ps b e d≤((e:Int) - b) * cut + a:=by
  intro d
  induction d with
  |zero=>exact fun _=>⟨1,hk,YKI _⟩
  |succ d ih=>
   intro hd;obtain⟨a,h1,h2⟩:=ih (by omega);have hlt:d < ps.length:=by omega
   have hp:ps[d]?=some ps[d]:=YJR hlt;have ep:prt ps d=ps[d]:=by unfold prt;rw[hp];rfl
   have hm:ps[d]∈ps:=YLF hlt;rw[YLC hlt]at h1;unfold Zu at h1;have L:Y3 cut O Fr inn ps b e (d + 1)≤Y3 cut O Fr inn ps b e d + O ps[d] e e:=by
    rw[JP,ep];refine YKL (YEJ _ _).1 ?_;split <;> (try split) <;> omega
   cases hs:Jo s q ps[d] with
   |none=>rw[hs]at h1;cases h1
   |some x=>
    rw[hs]at h1;refine⟨a + x,h1,?_⟩;unfold Jo at hs;have hx:O ps[d] e e≤x:=by
     cases hq':isQ ps[d] with
     |true=>
      rw[hq',if_pos rfl]at hs;cases hs;exact hq _ hm hq'
     |false=>
      rw[hq',if_neg YJZ]at hs;exact hn _ hm hq' x hs
    omega
 obtain⟨a,h1,h2⟩:=step ps.length (YJP _);rw[List.drop_length]at h1;cases h1;exact h2
theorem YEK {q:Int}:∀{ps:List Str}{a k:Int},Zu s q ps a=some k→∀p∈ps,okP s p=true
 |[],_,_,_,p,hp=>nomatch hp
 |c :: ps,a,k,h,p,hp=>by
  unfold Zu at h;cases hs:Jo s q c with
  |none=>rw[hs]at h;cases h
  |some x=>
   rw[hs]at h;rcases YJg.mp hp with rfl |hp
   ·unfold Jo at hs;unfold okP;cases hq:isQ p with
    |true=>rfl
    |false=>
     rw[hq,if_neg YJZ]at hs;rw[hs];rfl
   ·exact YEK h p hp
theorem YB3 {q:Int}:∀{ps:List Str}{a:Int},(∀p∈ps,okP s p=true)→∃k,Zu s q ps a=some k
 |[],a,_=>⟨a,rfl⟩
 |c :: ps,a,h=>by
  have hc:=h c (YJp ..);have hs:∃x,Jo s q c=some x:=by
   unfold Jo;unfold okP at hc;cases hq:isQ c with
   |true=>exact⟨q,if_pos rfl⟩
   |false=>
    rw[hq,YKY]at hc;rw[if_neg YJZ];exact YJv.mp hc
  obtain⟨x,hx⟩:=hs;unfold Zu;rw[hx];exact YB3 fun p hp=>h p (YJf _ hp)
end
inductive XE where
 |top |ov (p:Str) (e:Nat) |fi (r d b:Nat)
structure Tol where
 C:Addr
 x:Addr
 dx:Addr
 l:Addr
 ab:Addr
 ao:Addr
 af:Addr
 xs:List V
 g:ZF
 t:Str
 n:Nat
 put:Int
 cut:Int
 swap:Int
 s:Sz
 R:Nat
def Tol.fld (T:Tol):List (Str×V):=[("rules",.ref T.l),("text",.str T.t),("put",.int T.put),("cut",.int T.cut),("swap",.int T.swap),("bare",.ref T.ab),("over",.ref T.ao),("first",.ref T.af)]
def ovR (O:OvF) (p:Str) (e:Nat):List Int:=(List.range (e + 1)).map fun b=>O p b e
def fiR (F:FiF) (r d b k:Nat):List Int:=(List.range k).map fun m=>F r d b m
def OvAt (H:Hp) (own:Addr→Option XE) (n:Nat) (O:OvF) (p:Str) (v:Option V):Prop:=∃(a:Addr) (bs:List Addr),v=some (.ref a)∧own a=none∧H a=some (.lst (bs.map V.ref))∧bs.length=n + 1∧
 ∀(e:Nat) (c:Addr),bs[e]?=some c→own c=some (.ov p e)∧H c=some (.lst ((ovR O p e).map V.int))
def YFF (H:Hp) (own:Addr→Option XE) (n:Nat) (F:FiF) (K:Nat→Nat→Nat→Nat) (r d:Nat) (u:Addr):Prop:=∃es:List Addr,own u=none∧H u=some (.lst (es.map V.ref))∧es.length=n + 1∧
 ∀(b:Nat) (c:Addr),es[b]?=some c→own c=some (.fi r d b)∧H c=some (.lst ((fiR F r d b (K r d b)).map V.int))
def FiAt (H:Hp) (own:Addr→Option XE) (n:Nat) (F:FiF) (K:Nat→Nat→Nat→Nat) (r R:Nat) (t:Addr):Prop:=∃ds:List Addr,own t=none∧H t=some (.lst (ds.map V.ref))∧ds.length=R + 1∧
 ∀(d:Nat) (u:Addr),ds[d]?=some u→YFF H own n F K r d u
structure TSt (T:Tol) (own:Addr→Option XE) (ps:List Str) (H0 H:Hp) (O:OvF) (F:FiF) (K:Nat→Nat→Nat→Nat):Prop where
 pl:YS H
 sm:YL H0 H
 hx:H T.x=some (.ins T.C T.dx T.fld)
 hl:H0 T.l=some (.lst T.xs)
 hds:Yd H0 T.xs (T.g.map Zf)
 hab:∃o,H T.ab=some (.frz o (.dK (szD T.s)))
 hao:∃kvs,H T.ao=some (.dK kvs)∧kvs.map (·.1)=ps.map Sum.inr∧∀p∈ps,OvAt H own T.n O p (Yw kvs (Sum.inr p))
 haf:∃ts:List Addr,own T.af=some .top∧H T.af=some (.lst (ts.map V.ref))∧ts.length=T.R∧∀(r:Nat) (t:Addr) (ρ:Y2),ts[r]?=some t→T.g[r]?=some ρ→FiAt H own T.n F K r (rch T.s ρ.2.1) t
 on:∀a u,own a=some u→H0 a=none∧∃xs:List V,H a=some (.lst xs)
 uq:∀a a' u,own a=some u→own a'=some u→a=a'
section
variable {T:Tol}{own:Addr→Option XE}{ps:List Str}{H0 H H':Hp}{O O':OvF}{F F':FiF}{K K':Nat→Nat→Nat→Nat}
theorem OvAt.keep {n:Nat}{p:Str}{v:Option V} (h:OvAt H own n O p v) (k:∀a o,H a=some o→H' a=some o):OvAt H' own n O p v:=by
 obtain⟨a,bs,h1,h2,h3,h4,h5⟩:=h;exact⟨a,bs,h1,h2,k _ _ h3,h4,fun e c hc=>⟨(h5 e c hc).1,k _ _ (h5 e c hc).2⟩⟩
theorem YFF.keep {n r d:Nat}{u:Addr} (h:YFF H own n F K r d u) (k:∀a o,H a=some o→H' a=some o):YFF H' own n F K r d u:=by
 obtain⟨es,h1,h2,h3,h4⟩:=h;exact⟨es,h1,k _ _ h2,h3,fun e c hc=>⟨(h4 e c hc).1,k _ _ (h4 e c hc).2⟩⟩
theorem FiAt.keep {n r R:Nat}{t:Addr} (h:FiAt H own n F K r R t) (k:∀a o,H a=some o→H' a=some o):FiAt H' own n F K r R t:=by
 obtain⟨ds,h1,h2,h3,h4⟩:=h;exact⟨ds,h1,k _ _ h2,h3,fun d u hu=>(h4 d u hu).keep k⟩
theorem TSt.same (S:TSt T own ps H0 H O F K) (s:YL H H') (p:YS H'):TSt T own ps H0 H' O F K:=by
 obtain⟨kvs,a1,a2,a3⟩:=S.hao;obtain⟨ts,b1,b2,b3,b4⟩:=S.haf;obtain⟨o,ho⟩:=S.hab;exact⟨p,S.sm.trans s,s _ _ S.hx,S.hl,S.hds,⟨o,s _ _ ho⟩,⟨kvs,s _ _ a1,a2,fun q hq=>(a3 q hq).keep s⟩,⟨ts,b1,s _ _ b2,b3,fun r t ρ h1 h2=>(b4 r t ρ h1 h2).keep s⟩,
  fun a u h=>⟨(S.on a u h).1,let ⟨ns,h2⟩:=(S.on a u h).2;⟨ns,s _ _ h2⟩⟩,S.uq⟩
theorem TSt.write (S:TSt T own ps H0 H O F K) {c:Addr}{u:XE} (hc:own c=some u) (hu:u≠.top) (ns:List Int)
  (h1:∀(p:Str) (e:Nat) (c':Addr),own c'=some (.ov p e)→H c'=some (.lst ((ovR O p e).map V.int))→upd H c (.lst (ns.map V.int)) c'=some (.lst ((ovR O' p e).map V.int)))
  (h2:∀(r d b:Nat) (c':Addr),own c'=some (.fi r d b)→H c'=some (.lst ((fiR F r d b (K r d b)).map V.int))→upd H c (.lst (ns.map V.int)) c'=some (.lst ((fiR F' r d b (K' r d b)).map V.int))):
  TSt T own ps H0 (upd H c (.lst (ns.map V.int))) O' F' K':=by
 obtain⟨kvs,a1,a2,a3⟩:=S.hao;obtain⟨ts,b1,b2,b3,b4⟩:=S.haf;obtain⟨o,ho⟩:=S.hab;obtain⟨hn,ns0,hl⟩:=S.on c u hc;have st:∀a w,own a=none→H a=some w→upd H c (.lst (ns.map V.int)) a=some w:=fun a w ha e=>by
  rw[YH (fun z=>by rw[z,hc]at ha;cases ha)];exact e
 have st2:∀a w,(∀xs,w≠.lst xs)→H a=some w→upd H c (.lst (ns.map V.int)) a=some w:=fun a w ha e=>by
  rw[YH (fun z=>by rw[z,hl]at e;exact ha _ (YJk e).symm)];exact e
 refine⟨S.pl.upd rfl,S.sm.put hn,st2 _ _ (fun _ z=>nomatch z) S.hx,S.hl,S.hds,⟨o,st2 _ _ (fun _ z=>nomatch z) ho⟩,⟨kvs,st2 _ _ (fun _ z=>nomatch z) a1,a2,fun p hp=>?_⟩,⟨ts,b1,by rw[YH (fun z=>by rw[z,hc]at b1;cases b1;exact hu rfl)];exact b2,b3,fun r t ρ e1 e2=>?_⟩,fun a w ha=>?_,S.uq⟩
 ·obtain⟨a,bs,g1,g2,g3,g4,g5⟩:=a3 p hp;exact⟨a,bs,g1,g2,st _ _ g2 g3,g4,fun e c' hc'=>⟨(g5 e c' hc').1,h1 p e c' (g5 e c' hc').1 (g5 e c' hc').2⟩⟩
 ·obtain⟨ds,g1,g2,g3,g4⟩:=b4 r t ρ e1 e2;refine⟨ds,g1,st _ _ g1 g2,g3,fun d u' hu=>?_⟩;obtain⟨es,k1,k2,k3,k4⟩:=g4 d u' hu;exact⟨es,k1,st _ _ k1 k2,k3,fun b c' hc'=>⟨(k4 b c' hc').1,h2 r d b c' (k4 b c' hc').1 (k4 b c' hc').2⟩⟩
 ·refine⟨(S.on a w ha).1,?_⟩
  by_cases hac:a=c
  ·subst hac;exact⟨_,YD⟩
  ·obtain⟨ns',e⟩:=(S.on a w ha).2;exact⟨ns',by rw[YH hac];exact e⟩
def upO (O:OvF) (p:Str) (b e:Nat) (v:Int):OvF:=fun p' b' e'=>if p'=p∧b'=b∧e'=e then v else O p' b' e'
theorem ovR_set (O:OvF) (p:Str) {b e:Nat} (hb:b≤e) (v:Int):(ovR O p e).set b v=ovR (upO O p b e v) p e:=by
 refine YKs fun i=>?_
 unfold ovR upO;rw[List.getElem?_set];rcases YJr i (e + 1) with hi |hi
 ·rw[YJQ,YJQ,YJ3 hi]
  by_cases h:b=i
  ·subst h;rw[if_pos rfl,if_pos (by rw[YJL,YJj];exact hi)];simp
  ·rw[if_neg h];simp only[YK4];rw[if_neg (fun z=>h z.2.1.symm)]
 ·rw[YJy (by rw[YJL,YJj];omega),YJy (by rw[YJL,YJj];omega),YJL,YJj];split
  ·rw[if_neg (by omega)]
  ·rfl
theorem TSt.setO (S:TSt T own ps H0 H O F K) {p:Str}{b e:Nat} (hb:b≤e) {c:Addr} (hc:own c=some (.ov p e)) (v:Int):
  TSt T own ps H0 (upd H c (.lst (((ovR O p e).set b v).map V.int))) (upO O p b e v) F K:=by
 rw[ovR_set O p hb v];refine S.write hc nofun _ (fun p' e' c' h1 h2=>?_) fun r d b' c' h1 h2=>?_
 ·by_cases h:c'=c
  ·subst h;rw[hc]at h1;cases h1;exact YD
  ·rw[YH h,h2];have hne:¬(p'=p∧e'=e):=fun z=>h (S.uq c' c _ h1 (by rw[z.1,z.2];exact hc))
   have:ovR (upO O p b e v) p' e'=ovR O p' e':=by
    unfold ovR upO;refine YKK fun b' _=>?_
    rw[if_neg (fun z=>hne ⟨z.1,z.2.2⟩)]
   rw[this]
 ·rw[YH (fun z=>by rw[z,hc]at h1;cases h1)];exact h2
def upF (F:FiF) (r d b m:Nat) (v:Int):FiF:=fun r' d' b' m'=>if r'=r∧d'=d∧b'=b∧m'=m then v else F r' d' b' m'
def upK (K:Nat→Nat→Nat→Nat) (r d b k:Nat):Nat→Nat→Nat→Nat:=fun r' d' b'=>if r'=r∧d'=d∧b'=b then k else K r' d' b'
theorem TSt.addF (S:TSt T own ps H0 H O F K) {r d b:Nat}{c:Addr} (hc:own c=some (.fi r d b)) (v:Int):
  TSt T own ps H0 (upd H c (.lst ((fiR F r d b (K r d b) ++ [v]).map V.int))) O (upF F r d b (K r d b) v) (upK K r d b (K r d b + 1)):=by
 refine S.write hc nofun _ (fun p' e' c' h1 h2=>?_) fun r' d' b' c' h1 h2=>?_
 ·rw[YH (fun z=>by rw[z,hc]at h1;cases h1)];exact h2
 ·by_cases h:c'=c
  ·subst h;rw[hc]at h1;cases h1;have ek:upK K r d b (K r d b + 1) r d b=K r d b + 1:=if_pos ⟨rfl,rfl,rfl⟩;rw[YD,ek];have:fiR (upF F r d b (K r d b) v) r d b (K r d b + 1)=fiR F r d b (K r d b) ++ [v]:=by
    unfold fiR;rw[List.range_succ,YJo];congr 1
    ·refine YKK fun m hm=>?_
     have:=YKG.mp hm;exact if_neg fun z=>by omega
    ·show[upF F r d b (K r d b) v r d b (K r d b)]=[v];rw[show upF F r d b (K r d b) v r d b (K r d b)=v from if_pos ⟨rfl,rfl,rfl,rfl⟩]
   rw[this]
  ·have hne:¬(r'=r∧d'=d∧b'=b):=fun z=>h (S.uq c' c _ h1 (by rw[z.1,z.2.1,z.2.2];exact hc))
   have ek:upK K r d b (K r d b + 1) r' d' b'=K r' d' b':=if_neg hne;have:fiR (upF F r d b (K r d b) v) r' d' b' (K r' d' b')=fiR F r' d' b' (K r' d' b'):=by
    unfold fiR;refine YKK fun m _=>?_
    exact if_neg fun z=>hne ⟨z.1,z.2.1,z.2.2.1⟩
   rw[YH h,h2,ek,this]
theorem TSt.ov (S:TSt T own ps H0 H O F K) {p:Str} (hp:p∈ps) {e:Nat} (he:e≤T.n):∃(a:Addr) (bs:List Addr) (c:Addr),Jw H T.ao (.str p) (some (.ref a))∧H a=some (.lst (bs.map V.ref))∧atI (bs.map V.ref) e=some (.ref c)∧own c=some (.ov p e)∧H c=some (.lst ((ovR O p e).map V.int)):=by
 obtain⟨kvs,a1,a2,a3⟩:=S.hao;obtain⟨a,bs,g1,g2,g3,g4,g5⟩:=a3 p hp;have hlt:e < bs.length:=by omega
 have ec:=YJR hlt;obtain⟨h1,h2⟩:=g5 e _ ec;refine⟨a,bs,bs[e],?_,g3,Yy (by rw[YJQ,ec];rfl),h1,h2⟩;rw[←g1];exact Jw.k (k:=Sum.inr p) a1
theorem TSt.fi (S:TSt T own ps H0 H O F K) {r:Nat}{ρ:Y2} (hr:T.g[r]?=some ρ) (hR:r < T.R):∃(ts:List Addr) (t:Addr) (ds:List Addr),H T.af=some (.lst (ts.map V.ref))∧atI (ts.map V.ref) r=some (.ref t)∧H t=some (.lst (ds.map V.ref))∧ds.length=rch T.s ρ.2.1 + 1∧
  ∀(d:Nat),d≤rch T.s ρ.2.1→∀b,b≤T.n→∃(u:Addr) (es:List Addr) (c:Addr),atI (ds.map V.ref) d=some (.ref u)∧H u=some (.lst (es.map V.ref))∧atI (es.map V.ref) b=some (.ref c)∧own c=some (.fi r d b)∧H c=some (.lst ((fiR F r d b (K r d b)).map V.int)):=by
 obtain⟨ts,b1,b2,b3,b4⟩:=S.haf;have hlt:r < ts.length:=by rw[b3];exact hR
 have et:=YJR hlt;obtain⟨ds,g1,g2,g3,g4⟩:=b4 r _ ρ et hr;refine⟨ts,ts[r],ds,b2,Yy (by rw[YJQ,et];rfl),g2,g3,fun d hd b hb=>?_⟩;have ed:=YJR (show d < ds.length by omega);obtain⟨es,k1,k2,k3,k4⟩:=g4 d _ ed;have eb:=YJR (show b < es.length by omega);exact⟨_,es,es[b],Yy (by rw[YJQ,ed];rfl),k2,Yy (by rw[YJQ,eb];rfl),(k4 b _ eb).1,(k4 b _ eb).2⟩
theorem YG1 (own:Addr→Option XE) (R:Addr→XE→Prop) (fn:∀a u u',R a u→R a u'→u=u'):∃own':Addr→Option XE,(∀a u,R a u→own' a=some u)∧∀a,(∀u,¬R a u)→own' a=own a:=by
 classical
 refine⟨fun a=>if h:∃u,R a u then some h.choose else own a,fun a u h=>?_,fun a h=>?_⟩
 ·have h':∃u,R a u:=⟨u,h⟩;show(if h:∃u,R a u then some h.choose else own a)=some u;rw[dif_pos h'];exact YKV some (fn a _ _ h'.choose_spec h)
 ·show(if h:∃u,R a u then some h.choose else own a)=own a;exact dif_neg fun⟨u,h'⟩=>h u h'
end
def top (i:Nat):Stmt:=PySem.Challenge.pw_forestread_k72_tolls.main.body.getD i (.Pass ⟨0,0,0,0⟩)
abbrev YAv:Stmt:=top 11
abbrev JD:Stmt:=top 12
abbrev YBW:Stmt:=top 13
abbrev YBX:Stmt:=top 14
abbrev YBY:Stmt:=top 15
abbrev YAw:Stmt:=top 24
abbrev YAL:Stmt:=top 25
abbrev YBZ:Stmt:=top 26
abbrev Xq:Stmt:=top 27
abbrev YBa:Stmt:=top 28
structure Adr where
 NoGrammar:Addr
 NoText:Addr
 NoCosts:Addr
 Toller:Addr
 none_:Addr
structure Txt (K:W.Frag) (mg:Str→Option Value) (C:Adr):Prop where
 z_isinstance:mg "isinstance"=none
 z_int:mg "int"=none
 z_bool:mg "bool"=none
 z_ord:mg "ord"=none
 z_str:mg "str"=none
 z_len:mg "len"=none
 z_all:mg "all"=none
 z_tuple:mg "tuple"=none
 z_list:mg "list"=none
 z_min:mg "min"=none
 z_range:mg "range"=none
 z_zip:mg "zip"=none
 z_enumerate:mg "enumerate"=none
 z_reversed:mg "reversed"=none
 z_divmod:mg "divmod"=none
 z_dict:mg "dict"=none
 g_FIRST_CODE:∃t,mg "FIRST_CODE"=some (.int 32 t)
 g_LAST_CODE:∃t,mg "LAST_CODE"=some (.int 126 t)
 g_PERCENT_CODE:∃t,mg "PERCENT_CODE"=some (.int 37 t)
 g_MOST_LETTERS:∃t,mg "MOST_LETTERS"=some (.int 8 t)
 g_MOST_PARTS:∃t,mg "MOST_PARTS"=some (.int 6 t)
 g_MOST_RULES:∃t,mg "MOST_RULES"=some (.int 60 t)
 g_MOST_SIGNS:∃t,mg "MOST_SIGNS"=some (.int 60 t)
 n_NoGrammar:mg "NoGrammar"=some (.ref C.NoGrammar)
 n_NoText:mg "NoText"=some (.ref C.NoText)
 n_NoCosts:mg "NoCosts"=some (.ref C.NoCosts)
 n_Toller:mg "Toller"=some (.ref C.Toller)
 x_NoGrammar:Exc K C.NoGrammar
 x_NoText:Exc K C.NoText
 x_NoCosts:Exc K C.NoCosts
 cl_Toller:Cls K C.Toller
 na_Toller_cut:Z7 K C.Toller "cut"
 na_Toller_put:Z7 K C.Toller "put"
 na_Toller_text:Z7 K C.Toller "text"
 na_Toller_swap:Z7 K C.Toller "swap"
 na_Toller_bare:Z7 K C.Toller "bare"
 na_Toller_over:Z7 K C.Toller "over"
 na_Toller_rules:Z7 K C.Toller "rules"
 na_Toller_first:Z7 K C.Toller "first"
theorem YCv:(["letter"]:List Str).Nodup:=by decide +kernel
theorem YFG:(["part"]:List Str).Nodup:=by decide +kernel
section
variable {P:Program}{w:World}{K:W.Frag}{mg:Str→Option Value}{base:Heap}{C:Adr}
theorem YFH:YV ["thing"] ["thing"] (YJ YAv):=⟨rfl,rfl,rfl,by decide +kernel,rfl,by decide +kernel,by decide +kernel⟩
theorem YFI {f:Addr}{fd:FuncData} (F:Fun K "is_whole" "is_whole" YAv f fd) (T:Txt K mg C):Yr P w K mg base CX0 1 f fd ["thing"] (XD YCN):=by
 refine F.ok YFH (fun vs H Q E h=>?_) (fun cdv A outer s H vs Q E hr h=>?_)
 ·cases h;subst_vars;rfl
 ·obtain⟨x,d,rfl,den,sh,hp,q⟩:=h;refine⟨_,(YF (YX (Zv (YK (ZJ K rfl) (by rfl) T.z_isinstance YJl (YA (pv 0) (YA (Zr (v:=.ty "int") (by rfl) T.z_int YKn rfl) YB))) (JM (YH2 (YK (ZJ K rfl) (by rfl) T.z_isinstance YJl (YA (pv 0) (YA (Zr (v:=.ty "bool") (by rfl) T.z_bool PyProof.Rows.Boot.«bool» rfl) YB)))))))),?_⟩;refine⟨_,rfl,_,_,_,_,_,rfl,den.ty,rfl,YGq d,_,rfl,?_⟩;refine Jf (g:=!YGp d) (fun _ R hR=>⟨_,rfl,_,_,_,_,_,rfl,den.ty,rfl,YEu d,_,rfl,hR⟩) ?_;cases d <;> exact q
theorem J4:YV ["sign","code"] ["sign"] (YJ JD):=⟨rfl,rfl,rfl,by decide +kernel,rfl,by decide +kernel,by decide +kernel⟩
theorem YAx {f:Addr}{fd:FuncData} (F:Fun K "stands_in_texts" "stands_in_texts" JD f fd) (T:Txt K mg C):Yr P w K mg base CX0 1 f fd ["sign"] (YCO):=by
 obtain⟨t_FIRST_CODE,g_FIRST_CODE⟩:=T.g_FIRST_CODE;obtain⟨t_LAST_CODE,g_LAST_CODE⟩:=T.g_LAST_CODE;obtain⟨t_PERCENT_CODE,g_PERCENT_CODE⟩:=T.g_PERCENT_CODE;refine F.ok J4 (fun vs H Q E h=>?_) (fun cdv A outer s H vs Q E hr h=>?_)
 ·cases h;subst_vars;rfl
 ·obtain⟨c,rfl,q⟩:=h;refine⟨_,(YE (YM (i:=1) J4.nd rfl (Or.inl rfl) (YK YIE (by rfl) T.z_ord PyProof.Rows.Boot.«ord» (YA (pv 0) YB)))
   (YF (YX (Zv (YAA Xy Xy (Xh (v:=.int 32) (by rfl) g_FIRST_CODE ⟨_,rfl⟩) (pv 1) (Xh (v:=.int 126) (by rfl) g_LAST_CODE ⟨_,rfl⟩)) (JM (JW YEe (pv 1) (Xh (v:=.int 37) (by rfl) g_PERCENT_CODE ⟨_,rfl⟩) (Yv _))))))),?_⟩
  refine⟨_,rfl,_,rfl,rfl,?_⟩;refine⟨_,rfl,_,_,rfl,rfl,_,rfl,?_⟩;have ec:(((⟨#[c]⟩:Str).cps.getD 0 0:Nat):Int)=(c:Int):=rfl;rw[ec];refine Jx (fun h1=>?_) fun h1=>?_
  ·refine⟨_,_,rfl,rfl,_,rfl,?_⟩;refine Jx (fun h2=>?_) fun h2=>?_
   ·refine⟨_,rfl,rfl,?_⟩;have e:(!decide (V.int (c:Int)=V.int 37))=Z3 c:=by
     simp only[YKE]at h1 h2;unfold Z3;have a1:32≤c:=by lia
     have a2:c≤126:=by lia
     rw[YJU a1,YJU a2]
     by_cases h3:c=37
     ·subst h3;rfl
     ·rw[YJV h3,YJV (fun z=>h3 (by have:=V.int.inj z;lia))];rfl
    rw[e];exact q
   ·have e:Z3 c=false:=by
     simp only[YKE]at h2;unfold Z3;rw[YJV (show ¬c≤126 by lia)];simp
    rw[e]at q;exact q
  ·refine⟨_,rfl,ZU ?_⟩;have e:Z3 c=false:=by
    simp only[YKE]at h1;unfold Z3;rw[YJV (show ¬32≤c by lia)];simp
   rw[e]at q;exact q
theorem first39 (z:Str):decide (V.str ⟨#[z.cps.getD 0 0]⟩=V.str "'")=decide (z.cps.getD 0 0=39):=by
 by_cases h:z.cps.getD 0 0=39
 ·rw[h];decide +kernel
 ·rw[YJV h,YJV];intro e;apply h;have e6:(({ cps:=#[z.cps.getD 0 0] }:Str)).cps.getD 0 0=(("'":Str)).cps.getD 0 0:=YKV (fun s:Str=>s.cps.getD 0 0) (V.str.inj e);exact(show z.cps.getD 0 0=(({ cps:=#[z.cps.getD 0 0] }:Str)).cps.getD 0 0 from rfl).trans (e6.trans (by decide +kernel))
theorem YGN:YV ["thing"] ["thing"] (YJ YBW):=⟨rfl,rfl,rfl,by decide +kernel,rfl,by decide +kernel,by decide +kernel⟩
theorem YGO {f:Addr}{fd:FuncData} (F:Fun K "is_sign" "is_sign" YBW f fd) (T:Txt K mg C) (U_stands_in_texts:ZO P w K mg CX0 1 "stands_in_texts" ["sign"] (YCO)):Yr P w K mg base CX0 2 f fd ["thing"] (XD YA9):=by
 obtain⟨f_stands_in_texts,fd_stands_in_texts,G_stands_in_texts,m_stands_in_texts,k_stands_in_texts,b_stands_in_texts⟩:=U_stands_in_texts.ok;refine F.ok YGN (fun vs H Q E h=>?_) (fun cdv A outer s H vs Q E hr h=>?_)
 ·cases h;subst_vars;rfl
 ·obtain⟨x,d,rfl,den,sh,hp,q⟩:=h;refine⟨_,(YF (YX (Zv (YK (ZJ K rfl) (by rfl) T.z_isinstance YJl (YA (pv 0) (YA (Zr (v:=.ty "str") (by rfl) T.z_str YLA rfl) YB))) (Zv (JW X9 (YK Yq (by rfl) T.z_len YJT (YA (pv 0) YB)) YC (Yv _)) (Zv (JW X9 (YQ Jj (pv 0) YC (fun _ _=>rfl)) Zk (Yv _)) (JM (YU (G_stands_in_texts base) (hr.mono (by decide)) (by rfl) m_stands_in_texts k_stands_in_texts b_stands_in_texts .nil Yf (YA (YQ Jj (pv 0) YC (fun _ _=>rfl)) YB)))))))),?_⟩;refine⟨_,rfl,_,_,_,_,_,rfl,den.ty,rfl,YED d,_,rfl,?_⟩;cases d with
  |str z=>
   have ex:=den.to_str;subst ex;have hz:=YAs sh;have ev:YA9 (.str z)=(z.cps.size == 2 && z.cps[0]? == some 39 && Z3 (z.cps.getD 1 0)):=rfl;refine Zo ?_;refine⟨_,rfl,z,rfl,hz,rfl,_,rfl,?_⟩;refine Jf (g:=decide (z.cps.getD 0 0=39) && Z3 (z.cps.getD 1 0)) (fun h2 R hR=>?_) ?_
   ·have hs:z.cps.size=2:=by
     have e:=V.int.inj (YJm h2);rw[Jy]at e
     lia
    have g0:z.cps.toList[0]?=some (z.cps.getD 0 0):=by
     rw[YKQ];simp[hs]
    have g1:z.cps.toList[1]?=some (z.cps.getD 1 0):=by
     rw[YKQ];simp[hs]
    refine⟨_,rfl,z,0,_,rfl,rfl,hz,Yy (j:=0) g0,rfl,_,rfl,?_⟩;rw[first39];exact Jf (g:=Z3 (z.cps.getD 1 0)) (fun _ R hR=>⟨_,rfl,z,1,_,rfl,rfl,hz,Yy (j:=1) g1,_,rfl,hR⟩) hR
   ·have e2:(decide (V.int (z.length:Int)=V.int 2) && (decide (z.cps.getD 0 0=39) && Z3 (z.cps.getD 1 0)))=YA9 (.str z):=by
     rw[ev,Jy,Bool.and_assoc]
     by_cases h2:z.cps.size=2
     ·have g0:z.cps[0]?=some (z.cps.getD 0 0):=by simp[h2]
      have e4:(some (z.cps.getD 0 0) == some 39)=decide (z.cps.getD 0 0=39):=by
       rw[YKh];simp
      rw[g0,e4];congr 1;rw[h2];decide
     ·rw[YJV (fun e=>h2 (by have:=V.int.inj e;lia)),beq_eq_false_iff_ne.mpr h2];rfl
    rw[e2];exact q
  |_=>exact ZU q
theorem YGP:YV ["thing"] ["thing"] (YJ YBX):=⟨rfl,rfl,rfl,by decide +kernel,rfl,by decide +kernel,by decide +kernel⟩
theorem YGQ {f:Addr}{fd:FuncData} (F:Fun K "is_name" "is_name" YBX f fd) (T:Txt K mg C):Yr P w K mg base CX0 1 f fd ["thing"] (XD isNameD):=by
 obtain⟨t_MOST_LETTERS,g_MOST_LETTERS⟩:=T.g_MOST_LETTERS;refine F.ok YGP (fun vs H Q E h=>?_) (fun cdv A outer s H vs Q E hr h=>?_)
 ·cases h;subst_vars;rfl
 ·obtain⟨x,d,rfl,den,sh,hp,q⟩:=h;refine⟨_,(YE (ZB (JL (Zi (YK (ZJ K rfl) (by rfl) T.z_isinstance YJl (YA (pv 0) (YA (Zr (v:=.ty "str") (by rfl) T.z_str YLA rfl) YB))))) (YF (YX Ja)) Yg)
   (YF (YX (Zv (YAA Xy Xy YC (YK Yq (by rfl) T.z_len YJT (YA (pv 0) YB)) (Xh (v:=.int 8) (by rfl) g_MOST_LETTERS ⟨_,rfl⟩)) (JM (YA5 (YK (XX K rfl rfl) (by rfl) T.z_all YKW (YA (Z0 (N:=["letter"]) (ρ:=[none]) (cl:=[]) rfl (Yh.plain rfl (by decide +kernel) (by decide +kernel) rfl (by simp)) (YIb (pv 0)) (fun _ _ _ _ _=>(YN (i:=0) YCv rfl (Or.inl rfl) (.inr rfl))) (fun _ _ _ _ _=>Zj) (fun _ _ _ _ _=>(YAA YDQ YDQ Zk (pv 0) Zk))) YB)))))))),?_⟩
  refine⟨_,rfl,_,_,_,_,_,rfl,den.ty,rfl,YED d,_,rfl,?_⟩;cases d with
  |str z=>
   have ex:=den.to_str;subst ex;have hz:=YAs sh;have ev:isNameD (.str z)=(decide (1≤z.cps.size) && decide (z.cps.size≤8) && z.cps.toList.all ZM):=rfl;refine ZU ?_;refine⟨_,rfl,z,rfl,hz,_,_,rfl,rfl,_,rfl,?_⟩;refine Jx (fun h1=>?_) fun h1=>?_
   ·refine⟨_,_,rfl,rfl,_,rfl,?_⟩;have h1':1≤z.cps.size:=by have:=YJm h1;rw[Jy]at this;lia
    refine Jx (fun h2=>?_) fun h2=>?_
    ·have h2':z.cps.size≤8:=by have:=YJm h2;rw[Jy]at this;lia
     refine⟨hp,_,rfl,z,rfl,fun l hl=>?_⟩;refine YEq (τ:=YCI [none] _) (fun c=>.bl (ZM c)) hl YKR hz (fun τ' c H' R hτ _ hR=>?_) ?_
     ·refine⟨_,hτ,_,_,rfl,rfl,_,rfl,?_⟩;rw[le_A];refine Jx (fun h3=>?_) fun h3=>?_
      ·refine⟨_,_,rfl,rfl,?_⟩;rw[le_Z];have e5:ZM c=decide (c≤90):=by unfold ZM;rw[h3];rfl
       rw[e5]at hR;exact hR
      ·have e5:ZM c=false:=by
        unfold ZM;cases hh:decide (65≤c) with
        |false=>rfl
        |true=>exact absurd hh h3
       rw[e5]at hR;exact hR
     ·refine⟨l,z.cps.toList.map ZM,rfl,.inl (.inl ?_),fun b o eb=>?_,?_⟩
      ·rw[YD,YIj]
      ·rw[YH (YR eb hl)];exact eb
      ·rw[Jz];rw[ev,YJU h1',YJU h2']at q
       simpa using q
    ·have h2':¬z.cps.size≤8:=fun z'=>h2 (YJU (by rw[Jy];lia))
     rw[ev,YJV h2']at q
     simpa using q
   ·have h1':¬1≤z.cps.size:=fun z'=>h1 (YJU (by rw[Jy];lia))
    refine⟨_,rfl,ZU ?_⟩;rw[ev,YJV h1']at q
    simpa using q
  |_=>exact Zo q
theorem YGR:YV ["thing"] ["thing"] (YJ YBY):=⟨rfl,rfl,rfl,by decide +kernel,rfl,by decide +kernel,by decide +kernel⟩
theorem YGS {f:Addr}{fd:FuncData} (F:Fun K "is_part" "is_part" YBY f fd) (T:Txt K mg C) (U_is_sign:ZO P w K mg CX0 2 "is_sign" ["thing"] (XD YA9)) (U_is_name:ZO P w K mg CX0 1 "is_name" ["thing"] (XD isNameD)):Yr P w K mg base CX0 3 f fd ["thing"] (XD Jr):=by
 obtain⟨f_is_sign,fd_is_sign,G_is_sign,m_is_sign,k_is_sign,b_is_sign⟩:=U_is_sign.ok;obtain⟨f_is_name,fd_is_name,G_is_name,m_is_name,k_is_name,b_is_name⟩:=U_is_name.ok;refine F.ok YGR (fun vs H Q E h=>?_) (fun cdv A outer s H vs Q E hr h=>?_)
 ·cases h;subst_vars;rfl
 ·obtain⟨x,d,rfl,den,sh,hp,q⟩:=h;refine⟨_,(YF (YX (pe_or (YU (G_is_sign base) (hr.mono (by decide)) (by rfl) m_is_sign k_is_sign b_is_sign .nil Yf (YA (pv 0) YB)) (JM (YU (G_is_name base) (hr.mono (by decide)) (by rfl) m_is_name k_is_name b_is_name .nil Yf (YA (pv 0) YB)))))),?_⟩;refine⟨_,rfl,x,d,rfl,den,sh,hp,_,rfl,?_⟩;exact or_read (g:=isNameD d) (fun _ R hR=>⟨_,rfl,x,d,rfl,den,sh,hp,hR⟩) q
theorem YFJ:YV ["thing"] ["thing"] (YJ YAw):=⟨rfl,rfl,rfl,by decide +kernel,rfl,by decide +kernel,by decide +kernel⟩
theorem YFK {f:Addr}{fd:FuncData} (F:Fun K "is_worth" "is_worth" YAw f fd) (T:Txt K mg C) (U_is_whole:ZO P w K mg CX0 1 "is_whole" ["thing"] (XD YCN)):Yr P w K mg base CX0 2 f fd ["thing"] (XD Yu):=by
 obtain⟨f_is_whole,fd_is_whole,G_is_whole,m_is_whole,k_is_whole,b_is_whole⟩:=U_is_whole.ok;refine F.ok YFJ (fun vs H Q E h=>?_) (fun cdv A outer s H vs Q E hr h=>?_)
 ·cases h;subst_vars;rfl
 ·obtain⟨x,d,rfl,den,sh,hp,q⟩:=h;refine⟨_,(YF (YX (Zv (YU (G_is_whole base) (hr.mono (by decide)) (by rfl) m_is_whole k_is_whole b_is_whole .nil Yf (YA (pv 0) YB)) (JM (YAA Xy Xy YC (pv 0) (YI X8 YC YC)))))),?_⟩;refine⟨_,rfl,x,d,rfl,den,sh,hp,_,rfl,?_⟩;cases d with
  |int i=>
   have ex:=den.to_int;subst ex;have ev:Yu (.int i)=(decide (0≤i) && decide (i≤10 ^ 60)):=rfl;refine Zo ?_;refine⟨_,rfl,_,_,rfl,rfl,_,rfl,?_⟩;refine Jx (fun h1=>?_) fun h1=>?_
   ·refine⟨_,_,rfl,rfl,⟨by decide,by decide,by decide⟩,_,_,rfl,rfl,?_⟩;rw[ev,h1]at q;exact q
   ·have h1':decide (0≤i)=false:=by
     cases hh:decide (0≤i) with
     |false=>rfl
     |true=>exact absurd hh h1
    rw[ev,h1']at q;exact q
  |_=>exact ZU q
theorem YEL:YV ["thing"] ["thing"] (YJ YAL):=⟨rfl,rfl,rfl,by decide +kernel,rfl,by decide +kernel,by decide +kernel⟩
theorem YEM {f:Addr}{fd:FuncData} (F:Fun K "are_parts" "are_parts" YAL f fd) (T:Txt K mg C) (U_is_part:ZO P w K mg CX0 3 "is_part" ["thing"] (XD Jr)):Yr P w K mg base CX0 4 f fd ["thing"] (XD Ju):=by
 obtain⟨f_is_part,fd_is_part,G_is_part,m_is_part,k_is_part,b_is_part⟩:=U_is_part.ok;obtain⟨t_MOST_PARTS,g_MOST_PARTS⟩:=T.g_MOST_PARTS;refine F.ok YEL (fun vs H Q E h=>?_) (fun cdv A outer s H vs Q E hr h=>?_)
 ·cases h;subst_vars;rfl
 ·obtain⟨x,d,rfl,den,sh,hp,q⟩:=h;refine⟨_,(YE (ZB (JL (Zi (YK (ZJ K rfl) (by rfl) T.z_isinstance YJl (YA (pv 0) (YA (Zr (v:=.ty "tuple") (by rfl) T.z_tuple YKJ rfl) YB))))) (YF (YX Ja)) Yg)
   (YF (YX (Zv (JW Xy (YK (YT K rfl) (by rfl) T.z_len YJT (YA (pv 0) YB)) (Xh (v:=.int 6) (by rfl) g_MOST_PARTS ⟨_,rfl⟩) (Yv _)) (JM (YA5 (YK (XX K rfl rfl) (by rfl) T.z_all YKW (YA (Z0 (N:=["part"]) (ρ:=[none]) (cl:=[]) rfl (Yh.plain rfl (by decide +kernel) (by decide +kernel) rfl (by simp)) (YA6 K rfl (pv 0)) (fun _ _ _ _ _=>(YN (i:=0) YFG rfl (Or.inl rfl) (.inr rfl))) (fun _ _ _ _ _=>Zj) (fun _ _ _ _ _=>(YU (G_is_part base) (hr.mono (by decide)) (by rfl) m_is_part k_is_part b_is_part .nil Yf (YA (pv 0) YB)))) YB)))))))),?_⟩
  refine⟨_,rfl,_,_,_,_,_,rfl,den.ty,rfl,YAX d,_,rfl,?_⟩;cases d with
  |tup ds=>
   obtain⟨a,xs,rfl,ha,hds⟩:=den.to_tup;have hl:xs.length=ds.length:=hds.len;refine ZU ?_;refine⟨_,rfl,a,xs,rfl,.inr (SqT.of ha),_,_,rfl,rfl,_,rfl,?_⟩;have shS:Jk ds=true:=by unfold D.short at sh;exact sh
   have e1:decide ((xs.length:Int)≤6)=decide (ds.length≤6):=by rw[hl];congr 1;exact propext ⟨fun h=>by lia,fun h=>by lia⟩
   rw[e1];refine Jf (g:=ds.all Jr) (fun h1 R hR=>?_) q;have h1':ds.length≤6:=YJm h1;refine⟨hp,_,rfl,a,rfl,⟨xs,SqT.of ha⟩,fun l hln=>?_⟩;refine ZX (n:=xs.length) 0 (fun k y _=>∃d,ds[k]?=some d∧y=.bl (Jr d)) (YDR (SqT.of ha)) (fun _ _ _ _ _ h=>h) hp hln YKR (YG (by lia)) (fun τ'=>0 < τ'.length) YKR (fun τ' v h=>by rw[YKf];exact h) ?_ ?_
   ·intro τ' k y H' R _ hτ hit hk hs hp' hlne hR;obtain⟨d,hd,dn⟩:=hds.get hit;exact⟨_,hτ,y,d,rfl,dn.same hs,Z4 shS (YJS hd),hp',hR _ _ (YL.refl _) hp' ⟨d,hd,rfl⟩⟩
   ·intro ys H' hy hP hs hp' hl';have e2:ys=(ds.map Jr).map V.bl:=YF8 (by rw[hy,hl]) hP;refine⟨l,ds.map Jr,rfl,.inl (.inl (by rw[hl',e2])),hs,?_⟩;rw[Jz];exact hR
  |_=>exact Zo q
theorem YGT:YV ["thing"] ["thing"] (YJ YBZ):=⟨rfl,rfl,rfl,by decide +kernel,rfl,by decide +kernel,by decide +kernel⟩
theorem YGU {f:Addr}{fd:FuncData} (F:Fun K "is_rule" "is_rule" YBZ f fd) (T:Txt K mg C) (U_is_name:ZO P w K mg CX0 1 "is_name" ["thing"] (XD isNameD)) (U_are_parts:ZO P w K mg CX0 4 "are_parts" ["thing"] (XD Ju)) (U_is_worth:ZO P w K mg CX0 2 "is_worth" ["thing"] (XD Yu)):Yr P w K mg base CX0 5 f fd ["thing"] (XD Zt):=by
 obtain⟨f_is_name,fd_is_name,G_is_name,m_is_name,k_is_name,b_is_name⟩:=U_is_name.ok;obtain⟨f_are_parts,fd_are_parts,G_are_parts,m_are_parts,k_are_parts,b_are_parts⟩:=U_are_parts.ok;obtain⟨f_is_worth,fd_is_worth,G_is_worth,m_is_worth,k_is_worth,b_is_worth⟩:=U_is_worth.ok;refine F.ok YGT (fun vs H Q E h=>?_) (fun cdv A outer s H vs Q E hr h=>?_)
 ·cases h;subst_vars;rfl
 ·obtain⟨x,d,rfl,den,sh,hp,q⟩:=h;refine⟨_,(YE (ZB (PW.pt (YC9 (JL (Zi (YK (ZJ K rfl) (by rfl) T.z_isinstance YJl (YA (pv 0) (YA (Zr (v:=.ty "tuple") (by rfl) T.z_tuple YKJ rfl) YB))))) (YB7 (Y1 YEe (YK (YT K rfl) (by rfl) T.z_len YJT (YA (pv 0) YB)) YC (Yv _))))) (YF (YX Ja)) Yg)
   (YF (YX (Zv (YU (G_is_name base) (hr.mono (by decide)) (by rfl) m_is_name k_is_name b_is_name .nil Yf (YA (YQ (Ya K rfl) (pv 0) YC (fun _ _=>rfl)) YB)) (Zv (YU (G_are_parts base) (hr.mono (by decide)) (by rfl) m_are_parts k_are_parts b_are_parts .nil Yf (YA (YQ (Ya K rfl) (pv 0) YC (fun _ _=>rfl)) YB)) (JM (YU (G_is_worth base) (hr.mono (by decide)) (by rfl) m_is_worth k_is_worth b_is_worth .nil Yf (YA (YQ (Ya K rfl) (pv 0) YC (fun _ _=>rfl)) YB)))))))),?_⟩
  refine⟨_,rfl,_,_,_,_,_,rfl,den.ty,rfl,YAX d,_,rfl,?_⟩;cases d with
  |tup ds=>
   obtain⟨a,xs,rfl,ha,hds⟩:=den.to_tup;have hl:xs.length=ds.length:=hds.len;refine ZU ?_;refine⟨_,rfl,a,xs,rfl,.inr (SqT.of ha),rfl,_,rfl,?_⟩;have shS:Jk ds=true:=by unfold D.short at sh;exact sh
   by_cases h3:ds.length=3
   ·match ds,h3,xs,hl,hds,ha,q,shS with
    |[d0,d1,d2],_,[x0,x1,x2],_,hds,ha,q,shS=>
     have n0:=(hds.get (i:=0) (v:=x0) rfl);have n1:=(hds.get (i:=1) (v:=x1) rfl);have n2:=(hds.get (i:=2) (v:=x2) rfl);obtain⟨_,e0,n0⟩:=n0;obtain⟨_,e1,n1⟩:=n1;obtain⟨_,e2,n2⟩:=n2;cases e0;cases e1;cases e2;have sq:SqT K H a [x0,x1,x2]:=SqT.of ha;refine ZU ?_;refine⟨_,rfl,a,_,0,x0,rfl,rfl,sq,rfl,x0,d0,rfl,n0,Z4 shS (by simp),hp,_,rfl,?_⟩;refine Jf (g:=Ju d1 && Yu d2) (fun _ R hR=>?_) q;refine⟨_,rfl,a,_,1,x1,rfl,rfl,sq,rfl,x1,d1,rfl,n1,Z4 shS (by simp),hp,_,rfl,?_⟩;exact Jf (g:=Yu d2) (fun _ R hR=>⟨_,rfl,a,_,2,x2,rfl,rfl,sq,rfl,x2,d2,rfl,n2,Z4 shS (by simp),hp,hR⟩) hR
   ·have e1:(!decide (V.int (xs.length:Int)=V.int 3))=true:=by
     rw[YJV]
     ·rfl
     ·intro e;have:=V.int.inj e
      lia
    rw[e1];refine Zo ?_;have e2:Zt (.tup ds)=false:=by
     match ds,h3 with
     |[],_=>rfl
     |[_],_=>rfl
     |[_,_],_=>rfl
     |[_,_,_],h=>exact absurd rfl h
     |_ :: _ :: _ :: _ :: _,_=>rfl
    rw[e2]at q;exact q
  |_=>exact Zo q
end
theorem YFL:(["rule"]:List Str).Nodup:=by decide +kernel
section
variable {P:Program}{w:World}{K:W.Frag}{mg:Str→Option Value}{base:Heap}{C:Adr}
theorem YCw:YV ["thing"] ["thing"] (YJ Xq):=⟨rfl,rfl,rfl,by decide +kernel,rfl,by decide +kernel,by decide +kernel⟩
theorem YCx {f:Addr}{fd:FuncData} (F:Fun K "is_grammar" "is_grammar" Xq f fd) (T:Txt K mg C) (U_is_rule:ZO P w K mg CX0 5 "is_rule" ["thing"] (XD Zt)):Yr P w K mg base CX0 6 f fd ["thing"] (XD XJ):=by
 obtain⟨f_is_rule,fd_is_rule,G_is_rule,m_is_rule,k_is_rule,b_is_rule⟩:=U_is_rule.ok;obtain⟨t_MOST_RULES,g_MOST_RULES⟩:=T.g_MOST_RULES;refine F.ok YCw (fun vs H Q E h=>?_) (fun cdv A outer s H vs Q E hr h=>?_)
 ·cases h;subst_vars;rfl
 ·obtain⟨x,d,rfl,den,sh,hp,q⟩:=h;refine⟨_,(YE (ZB (JL (Zi (YK (ZJ K rfl) (by rfl) T.z_isinstance YJl (YA (pv 0) (YA (Zr (v:=.ty "list") (by rfl) T.z_list YKU rfl) YB))))) (YF (YX Ja)) Yg)
   (YF (YX (Zv (JW Xy (YK (YT K rfl) (by rfl) T.z_len YJT (YA (pv 0) YB)) (Xh (v:=.int 60) (by rfl) g_MOST_RULES ⟨_,rfl⟩) (Yv _)) (JM (YA5 (YK (XX K rfl rfl) (by rfl) T.z_all YKW (YA (Z0 (N:=["rule"]) (ρ:=[none]) (cl:=[]) rfl (Yh.plain rfl (by decide +kernel) (by decide +kernel) rfl (by simp)) (JA K rfl (pv 0)) (fun _ _ _ _ _=>(YN (i:=0) YFL rfl (Or.inl rfl) (.inr rfl))) (fun _ _ _ _ _=>Zj) (fun _ _ _ _ _=>(YU (G_is_rule base) (hr.mono (by decide)) (by rfl) m_is_rule k_is_rule b_is_rule .nil Yf (YA (pv 0) YB)))) YB)))))))),?_⟩
  refine⟨_,rfl,_,_,_,_,_,rfl,den.ty,rfl,YIi d,_,rfl,?_⟩;cases d with
  |lst ds=>
   obtain⟨a,xs,rfl,ha,hds⟩:=den.to_lst;have hl:xs.length=ds.length:=hds.len;have sq:SqL K H a xs:=.inl ha;refine ZU ?_;refine⟨_,rfl,a,xs,rfl,.inl sq,_,_,rfl,rfl,_,rfl,?_⟩;have shS:Jk ds=true:=by unfold D.short at sh;exact sh
   have e1:decide ((xs.length:Int)≤60)=decide (ds.length≤60):=by rw[hl];congr 1;exact propext ⟨fun h=>by omega,fun h=>by omega⟩
   rw[e1];refine Jf (g:=ds.all Zt) (fun h1 R hR=>?_) q;have h1':ds.length≤60:=YJm h1;refine⟨hp,_,rfl,a,rfl,⟨xs,sq⟩,fun l hln=>?_⟩;refine ZX (n:=xs.length) 0 (fun k y _=>∃d,ds[k]?=some d∧y=.bl (Zt d)) (YAq sq) (fun _ _ _ _ _ h=>h) hp hln YKR (YG (by omega)) (fun τ'=>0 < τ'.length) YKR (fun τ' v h=>by rw[YKf];exact h) ?_ ?_
   ·intro τ' k y H' R _ hτ hit hk hs hp' hlne hR;obtain⟨d,hd,dn⟩:=hds.get hit;exact⟨_,hτ,y,d,rfl,dn.same hs,Z4 shS (YJS hd),hp',hR _ _ (YL.refl _) hp' ⟨d,hd,rfl⟩⟩
   ·intro ys H' hy hP hs hp' hl';have e2:ys=(ds.map Zt).map V.bl:=YF8 (by rw[hy,hl]) hP;refine⟨l,ds.map Zt,rfl,.inl (.inl (by rw[hl',e2])),hs,?_⟩;rw[Jz];exact hR
  |_=>exact Zo q
theorem YGV:YV ["thing"] ["thing"] (YJ YBa):=⟨rfl,rfl,rfl,by decide +kernel,rfl,by decide +kernel,by decide +kernel⟩
theorem YGW {f:Addr}{fd:FuncData} (F:Fun K "checked" "checked" YBa f fd) (T:Txt K mg C) (U_is_grammar:ZO P w K mg CX0 6 "is_grammar" ["thing"] (XD XJ)):Yr P w K mg base (CXo P w) 7 f fd ["thing"] (YDU C.NoGrammar):=by
 obtain⟨f_is_grammar,fd_is_grammar,G_is_grammar,m_is_grammar,k_is_grammar,b_is_grammar⟩:=U_is_grammar.ok;refine F.okX YGV (fun vs H Q E h=>?_) (fun cdv A outer s H vs Q E hr h=>?_)
 ·cases h;subst_vars;rfl
 ·obtain⟨x,d,rfl,den,sh,hp,q1,q2⟩:=h;refine⟨_,(YE (ZB (JL (Zi (YU (G_is_grammar base) (hr.mono (by decide)) (by rfl) m_is_grammar k_is_grammar b_is_grammar .nil Yf (YA (pv 0) YB)))) (YF (YCH XV T.x_NoGrammar rfl (by rfl) T.n_NoGrammar (YA Zk YB))) Yg)
   (YF (YX (Jt (YAk K rfl) (by rfl) T.z_list YKU (YA (pv 0) YB))))),?_⟩
  refine⟨_,rfl,x,d,rfl,den,sh,hp,_,rfl,?_⟩;refine Jx (fun hi=>?_) fun hi=>?_
  ·exact⟨YG (by decide),q2 (YCQ hi)⟩
  ·have e:=YDV hi;obtain⟨g,rfl,hg⟩:=gram_of e;obtain⟨a,xs,rfl,ha,hds⟩:=YIl den;exact⟨_,rfl,a,xs,rfl,.inl (.inl ha),fun l hl=>q1 e l xs _ rfl hds hl⟩
end
abbrev YBb:Stmt:=top 16
abbrev J5:Stmt:=top 17
theorem YFM:(["sign"]:List Str).Nodup:=by decide +kernel
section
variable {P:Program}{w:World}{K:W.Frag}{mg:Str→Option Value}{base:Heap}{C:Adr}
theorem YGX:YV ["thing"] ["thing"] (YJ YBb):=⟨rfl,rfl,rfl,by decide +kernel,rfl,by decide +kernel,by decide +kernel⟩
theorem YGY {f:Addr}{fd:FuncData} (F:Fun K "is_text" "is_text" YBb f fd) (T:Txt K mg C) (U_stands_in_texts:ZO P w K mg CX0 1 "stands_in_texts" ["sign"] (YCO)):Yr P w K mg base CX0 2 f fd ["thing"] (XD YBA):=by
 obtain⟨f_stands_in_texts,fd_stands_in_texts,G_stands_in_texts,m_stands_in_texts,k_stands_in_texts,b_stands_in_texts⟩:=U_stands_in_texts.ok;obtain⟨t_MOST_SIGNS,g_MOST_SIGNS⟩:=T.g_MOST_SIGNS;refine F.ok YGX (fun vs H Q E h=>?_) (fun cdv A outer s H vs Q E hr h=>?_)
 ·cases h;subst_vars;rfl
 ·obtain⟨x,d,rfl,den,sh,hp,q⟩:=h;refine⟨_,(YE (ZB (JL (Zi (YK (ZJ K rfl) (by rfl) T.z_isinstance YJl (YA (pv 0) (YA (Zr (v:=.ty "str") (by rfl) T.z_str YLA rfl) YB))))) (YF (YX Ja)) Yg)
   (YF (YX (Zv (JW Xy (YK Yq (by rfl) T.z_len YJT (YA (pv 0) YB)) (Xh (v:=.int 60) (by rfl) g_MOST_SIGNS ⟨_,rfl⟩) (Yv _)) (JM (YA5 (YK (XX K rfl rfl) (by rfl) T.z_all YKW (YA (Z0 (N:=["sign"]) (ρ:=[none]) (cl:=[]) rfl (Yh.plain rfl (by decide +kernel) (by decide +kernel) rfl (by simp)) (YIb (pv 0)) (fun _ _ _ _ _=>(YN (i:=0) YFM rfl (Or.inl rfl) (.inr rfl))) (fun _ _ _ _ _=>Zj) (fun _ _ _ _ _=>(YU (G_stands_in_texts base) (hr.mono (by decide)) (by rfl) m_stands_in_texts k_stands_in_texts b_stands_in_texts .nil Yf (YA (pv 0) YB)))) YB)))))))),?_⟩
  refine⟨_,rfl,_,_,_,_,_,rfl,den.ty,rfl,YED d,_,rfl,?_⟩;cases d with
  |str z=>
   have ex:=den.to_str;subst ex;have hz:=YAs sh;have ev:YBA (.str z)=(decide (z.cps.size≤60) && z.cps.toList.all Z3):=rfl;refine ZU ?_;refine⟨_,rfl,z,rfl,hz,_,_,rfl,rfl,_,rfl,?_⟩;have e1:decide ((z.length:Int)≤60)=decide (z.cps.size≤60):=by
    rw[Jy];congr 1;exact propext ⟨fun h=>by lia,fun h=>by lia⟩
   rw[e1];refine Jf (g:=z.cps.toList.all Z3) (fun h1 R hR=>?_) (by rw[ev]at q;exact q);refine⟨hp,_,rfl,z,rfl,fun l hl=>?_⟩;refine YEq (τ:=YCI [none] _) (fun c=>.bl (Z3 c)) hl YKR hz (fun τ' c H' R hτ _ hR=>?_) ?_
   ·exact⟨_,hτ,c,rfl,hR⟩
   ·refine⟨l,z.cps.toList.map Z3,rfl,.inl (.inl ?_),fun b o eb=>?_,?_⟩
    ·rw[YD,YIj]
    ·rw[YH (YR eb hl)];exact eb
    ·rw[Jz];exact hR
  |_=>exact Zo q
theorem YBp:YV ["thing"] ["thing"] (YJ J5):=⟨rfl,rfl,rfl,by decide +kernel,rfl,by decide +kernel,by decide +kernel⟩
theorem YBq {f:Addr}{fd:FuncData} (F:Fun K "checked_text" "checked_text" J5 f fd) (T:Txt K mg C) (U_is_text:ZO P w K mg CX0 2 "is_text" ["thing"] (XD YBA)):Yr P w K mg base (CXo P w) 3 f fd ["thing"] (YCR C.NoText):=by
 obtain⟨f_is_text,fd_is_text,G_is_text,m_is_text,k_is_text,b_is_text⟩:=U_is_text.ok;refine F.okX YBp (fun vs H Q E h=>?_) (fun cdv A outer s H vs Q E hr h=>?_)
 ·cases h;subst_vars;rfl
 ·obtain⟨x,d,rfl,den,sh,hp,q1,q2⟩:=h;refine⟨_,(YE (ZB (JL (Zi (YU (G_is_text base) (hr.mono (by decide)) (by rfl) m_is_text k_is_text b_is_text .nil Yf (YA (pv 0) YB)))) (YF (YCH XV T.x_NoText rfl (by rfl) T.n_NoText (YA Zk YB))) Yg)
   (YF (YX (pv 0)))),?_⟩
  refine⟨_,rfl,x,d,rfl,den,sh,hp,_,rfl,?_⟩;refine Jx (fun hi=>?_) fun hi=>?_
  ·exact⟨YG (by decide),q2 (YCQ hi)⟩
  ·have e:=YDV hi;cases d with
   |str z=>
    have ex:=den.to_str;subst ex;exact⟨_,rfl,q1 z rfl e⟩
   |_=>cases e
end
abbrev J6:Stmt:=top 30
abbrev J7:Stmt:=top 31
abbrev XO:Stmt:=top 32
def unsz (kvs:List (Key×V)):Sz:=kvs.filterMap fun kv=>match kv.1,kv.2 with
 |Sum.inr z,.int n=>some (z,n)
 |_,_=>none
theorem YCa:∀s:Sz,unsz (szD s)=s
 |[]=>rfl
 |p :: s=>by
  show unsz ((Sum.inr p.1,V.int p.2) :: szD s)=_;unfold unsz;rw[YLG];show p :: unsz (szD s)=_;rw[YCa s]
def YFN (H:Hp) (d:Addr):List (Key×V):=match H d with
 |some (.dK kvs)=>kvs
 |_=>[]
inductive YFO (vs:List V) (H:Hp) (Q:VK):Prop where
 |mk (d:_) (s:_) (p:_) (q:_) (h0_:vs=[.ref d,.str p,.int q]) (h1_:H d=some (.dK (szD s))) (h2_:Q (oV (Jo s q p)) H):YFO vs H Q
def YG2:Sp:=fun vs H Q E_=>YFO vs H Q
inductive YFP (vs:List V) (H:Hp) (Q:VK):Prop where
 |mk (d:_) (s:_) (t:_) (q:_) (z:_) (p:_) (ps:_) (w:_) (h0_:vs=[.ref d,.ref t,.int q]) (h1_:H d=some (.dK (szD s))) (h2_:H t=some (.tup [.str z,.ref p,.int w])) (h3_:H p=some (.tup (ps.map V.str))) (h4_:Q (oV (X0 s q ps)) H):YFP vs H Q
def YG3:Sp:=fun vs H Q E_=>YFP vs H Q
inductive YDg (vs:List V) (H:Hp) (Q:VK):Prop where
 |mk (l:_) (xs:_) (g:_) (q:_) (h0_:vs=[.ref l,.int q]) (h1_:H l=some (.lst xs)) (h2_:Yd H xs (g.map Zf)) (h3_:ZT g=true) (h4_:0≤q) (h5_:YS H) (h6_:∀d s H',YAJ g q s→Fix g q s→H d=none→H'=upd H d (.dK (szD s))→Q (.ref d) H'):YDg vs H Q
def YFQ:Sp:=fun vs H Q E_=>YDg vs H Q
theorem oV_get (o:Option Int):(o.map V.int).getD .non=oV o:=by cases o <;> rfl
section
variable {P:Program}{w:World}{K:W.Frag}{mg:Str→Option Value}{base:Heap}{C:Adr}
theorem YBr:YV ["sizes","part","sign_size"] ["sizes","part","sign_size"] (YJ J6):=⟨rfl,rfl,rfl,by decide +kernel,rfl,by decide +kernel,by decide +kernel⟩
theorem YBs {f:Addr}{fd:FuncData} (F:Fun K "size_of_part" "size_of_part" J6 f fd) (T:Txt K mg C):Yr P w K mg base CX0 1 f fd ["sizes","part","sign_size"] (YG2):=by
 refine F.ok YBr (fun vs H Q E h=>?_) (fun cdv A outer s H vs Q E hr h=>?_)
 ·cases h;subst_vars;rfl
 ·obtain⟨d,s,p,q,rfl,hd,k⟩:=h;have hu:=Jd hr;refine⟨_,(YF (YX (YEb (Zi (JB K rfl PySem.F.plainAttrs_str YK3 YK2 JC (pv 1) (YA Zk YB))) (pv 2) (YEm hu (pv 0) (pv 1) ⟨rfl,rfl,rfl,rfl⟩)))),?_⟩;refine⟨_,rfl,rfl,_,_,rfl,rfl,_,rfl,?_⟩;unfold Jo isQ at k;refine Jx (fun h1=>?_) fun h1=>?_
  ·rw[if_pos h1]at k;exact⟨_,rfl,k⟩
  ·rw[if_neg h1]at k;refine⟨_,rfl,d,rfl,.inl ⟨_,.inl hd⟩,_,rfl,_,Jw.k (k:=Sum.inr p) hd,?_⟩;rw[Xc,oV_get];exact k
theorem Zg:YV ["sizes","rule","sign_size","size","part","more"] ["sizes","rule","sign_size"] (YJ J7):=⟨rfl,rfl,rfl,by decide +kernel,rfl,by decide +kernel,by decide +kernel⟩
theorem YBt {f:Addr}{fd:FuncData} (F:Fun K "size_of_rule" "size_of_rule" J7 f fd) (T:Txt K mg C) (U_size_of_part:ZO P w K mg CX0 1 "size_of_part" ["sizes","part","sign_size"] (YG2)):Yr P w K mg base CX0 2 f fd ["sizes","rule","sign_size"] (YG3):=by
 obtain⟨f_size_of_part,fd_size_of_part,G_size_of_part,m_size_of_part,k_size_of_part,b_size_of_part⟩:=U_size_of_part.ok;refine F.ok Zg (fun vs H Q E h=>?_) (fun cdv A outer s H vs Q E hr h=>?_)
 ·cases h;subst_vars;rfl
 ·obtain⟨d,s,t,q,z,p,ps,w,rfl,hd,ht,hp,k⟩:=h;refine⟨_,(YE (YM (i:=3) Zg.nd rfl (Or.inl rfl) YC)
   (YE (Yi PassesOwn.never rfl (YA6 K rfl (YQ (Ya K rfl) (pv 1) YC (fun _ _=>rfl))) (YN (i:=4) Zg.nd rfl (Or.inl rfl)) (YE (YM (i:=5) Zg.nd rfl (Or.inl rfl) (YU (G_size_of_part base) (hr.mono (by decide)) (by rfl) m_size_of_part k_size_of_part b_size_of_part .nil Yf (YA (pv 0) (YA (pv 4) (YA (pv 2) YB)))))
   (YE (ZB (Y1 op_isN (pv 5) X6 (Yv _)) (YF (YX X6)) Yg)
   (YF (YH6 (i:=3) Zg.nd rfl (Or.inl rfl) (pv 5) YH7)))))
   (YF (YX (pv 3))))),?_⟩
  refine⟨_,rfl,t,_,1,_,rfl,rfl,SqT.of ht,rfl,p,rfl,⟨_,SqT.of hp⟩,YD0 (K:=K) (a:=p) (xs:=ps.map V.str) (fun i σ H2=>H2=H∧∃(acc:Int) (v v':Option V),σ=[some (.ref d),some (.ref t),some (.int q),some (.int acc),v,v']∧Zu s q ps 1=Zu s q (ps.drop i) acc) ⟨rfl,1,none,none,rfl,rfl⟩ ?_ ?_ ?_⟩
  ·rintro i σ H2 _ ⟨rfl,_⟩;exact SqT.of hp
  ·rintro i y σ H2 hi ⟨rfl,acc,v,v',rfl,hz⟩;rw[YJQ]at hi;cases e:ps[i]? with
   |none=>rw[e]at hi;cases hi
   |some x=>
    rw[e]at hi;cases hi;have ed:ps.drop i=x :: ps.drop (i + 1):=by
     obtain⟨hlt,hx⟩:=YJM.mp e;rw[YLC hlt,hx]
    rw[ed]at hz;have hz2:Zu s q ps 1=match Jo s q x with |none=>none |some m=>Zu s q (ps.drop (i + 1)) (acc + m):=hz
    refine⟨_,rfl,_,rfl,_,rfl,d,s,x,q,rfl,hd,?_⟩;refine⟨_,rfl,rfl,_,rfl,?_⟩;cases e2:Jo s q x with
    |none=>
     rw[e2]at hz2;have:X0 s q ps=none:=hz2;rw[this]at k;exact Zo k
    |some m=>
     rw[e2]at hz2;exact ZU ⟨_,rfl,_,rfl,_,_,rfl,rfl,rfl,_,_,_,rfl,hz2⟩
  ·rintro σ H2 ⟨rfl,acc,v,v',rfl,hz⟩;rw[YJL,List.drop_length]at hz;have:X0 s q ps=some acc:=hz;rw[this]at k;exact⟨_,rfl,k⟩
theorem ZG:YV ["rules","sign_size","sizes","shrinking","rule","size"] ["rules","sign_size"] (YJ XO):=⟨rfl,rfl,rfl,by decide +kernel,rfl,by decide +kernel,by decide +kernel⟩
theorem YCb {f:Addr}{fd:FuncData} (F:Fun K "least_sizes" "least_sizes" XO f fd) (T:Txt K mg C) (U_size_of_rule:ZO P w K mg CX0 2 "size_of_rule" ["sizes","rule","sign_size"] (YG3)):Yr P w K mg base CX0 3 f fd ["rules","sign_size"] (YFQ):=by
 obtain⟨f_size_of_rule,fd_size_of_rule,G_size_of_rule,m_size_of_rule,k_size_of_rule,b_size_of_rule⟩:=U_size_of_rule.ok;refine F.ok ZG (fun vs H Q E h=>?_) (fun cdv A outer s H vs Q E hr h=>?_)
 ·cases h;subst_vars;rfl
 ·obtain⟨l,xs,g,q,rfl,hl,hds,hg,hq,hp,k⟩:=h;have hu:=Jd hr;have hg60:=YAY hg;have hxl:xs.length=g.length:=by rw[hds.len,YJL]
  refine⟨_,(YE (YM (i:=2) ZG.nd rfl (Or.inl rfl) YA3)
   (YE (YM (i:=3) ZG.nd rfl (Or.inl rfl) Ja)
   (YE (YEc PassesOwn.never (Zi (pv 3)) (YE (YM (i:=3) ZG.nd rfl (Or.inl rfl) Ja)
   (YF (Yi PassesOwn.never rfl (JA K rfl (pv 0)) (YN (i:=4) ZG.nd rfl (Or.inl rfl)) (YE (YM (i:=5) ZG.nd rfl (Or.inl rfl) (YU (G_size_of_rule base) (hr.mono (by decide)) (by rfl) m_size_of_rule k_size_of_rule b_size_of_rule .nil Yf (YA (pv 2) (YA (pv 4) (YA (pv 1) YB)))))
   (YF (ZB (PW.pt (YDz (Y1 YD1 (pv 5) X6 (Yv _)) (YB1 (PW.pt (YC9 (YBL (YBS hu (YQ (Ya K rfl) (pv 4) YC (fun _ _=>rfl)) (pv 2))) (YB7 (Y1 op_lt (pv 5) (ZK hu (pv 2) (YQ (Ya K rfl) (pv 4) YC (fun _ _=>rfl)) (fun _ _=>rfl)) (Yv _)))))))) (YE (JX hu (pv 2) (YQ (Ya K rfl) (pv 4) YC (fun _ _=>rfl)) (pv 5) rfl)
   (YF (YM (i:=3) ZG.nd rfl (Or.inl rfl) Ja))) Yg)))))))
   (YF (YX (pv 2)))))),?_⟩
  intro d hd;have ndl:d≠l:=fun z=>by rw[z,hl]at hd;cases hd
  refine YIC (fun σ H2=>∃(s:Sz) (b:Bool) (v4 v5:Option V),H2=upd H d (.dK (szD s))∧YAJ g q s∧(b=false→Fix g q s)∧σ=[some (.ref l),some (.int q),some (.ref d),some (.bl b),v4,v5])
   (fun σ H2=>2 * mu g q (unsz (YFN H2 d)) + (if σ[3]?=some (some (.bl true)) then 1 else 0)) ⟨[],true,none,none,rfl,YAJ.nil g q,nofun,rfl⟩ ?_ ?_
  ·rintro σ H2 ⟨s,b,v4,v5,rfl,hok,hfix,rfl⟩;refine⟨_,rfl,b,rfl,?_⟩;cases b with
   |false=>
    refine ZU ?_;exact⟨_,rfl,k d s _ hok (hfix rfl) hd rfl⟩
   |true=>
    refine Zo ?_;have hl2:∀{o:HO},upd H d o l=some (.lst xs):=fun{o}=>by rw[YH ndl.symm];exact hl
    have ekv:∀s,YFN (upd H d (.dK (szD s))) d=szD s:=fun s=>by unfold YFN;rw[YD]
    refine⟨_,rfl,l,rfl,⟨_,SqL.of hl2⟩,XT (K:=K) (a:=l) (xs:=xs) (fun i σ H2=>∃(s':Sz) (b:Bool) (v4 v5:Option V),H2=upd H d (.dK (szD s'))∧YAJ g q s'∧(b=false→s'=s∧∀r∈g.take i,∀m,X0 s q r.2.1=some m→∃v,look s r.1=some v∧v≤m)∧(b=true→mu g q s' < mu g q s)∧σ=[some (.ref l),some (.int q),some (.ref d),some (.bl b),v4,v5])
     ⟨s,false,v4,v5,rfl,hok,(fun _=>⟨rfl,fun r hr=>by cases hr⟩),nofun,rfl⟩ ?_ ?_ ?_⟩
    ·rintro i σ H2 _ ⟨s',b,v4,v5,rfl,_⟩;exact SqL.of hl2
    ·rintro i y σ H2 hi ⟨s',b,v4,v5,rfl,hok',hb0,hb1,rfl⟩;obtain⟨r,t,p,er,rfl,ht,hpp⟩:=Xo hds hi;have nt:t≠d:=fun z=>by rw[z,hd]at ht;cases ht
     have np:p≠d:=fun z=>by rw[z,hd]at hpp;cases hpp
     have hrm:r∈g:=YJS er;have ht2:∀{o:HO},upd H d o t=some (.tup [.str r.1,.ref p,.int r.2.2]):=fun{o}=>by rw[YH nt];exact ht
     have hp2:∀{o:HO},upd H d o p=some (.tup (r.2.1.map V.str)):=fun{o}=>by rw[YH np];exact hpp
     have et:g.take (i + 1)=g.take i ++ [r]:=by rw[YKF,er];rfl
     refine⟨_,rfl,_,rfl,_,rfl,d,s',t,q,r.1,p,r.2.1,r.2.2,rfl,YD,ht2,hp2,?_⟩;refine⟨_,rfl,rfl,_,rfl,?_⟩;have stay:∀(o:Option Int),X0 s' q r.2.1=o→(∀m,o=some m→∃v,look s' r.1=some v∧v≤m)→∃(s'':Sz) (b':Bool) (w4 w5:Option V),upd H d (.dK (szD s'))=upd H d (.dK (szD s''))∧YAJ g q s''∧(b'=false→s''=s∧∀r∈g.take (i + 1),∀m,X0 s q r.2.1=some m→∃v,look s r.1=some v∧v≤m)∧(b'=true→mu g q s'' < mu g q s)∧[some (.ref l),some (.int q),some (.ref d),some (.bl b),some (.ref t),some (oV o)]=[some (.ref l),some (.int q),some (.ref d),some (.bl b'),w4,w5]:=fun o ho hv=>by
      refine⟨s',b,_,_,rfl,hok',fun e=>?_,hb1,rfl⟩;obtain⟨e1,e2⟩:=hb0 e;refine⟨e1,fun x hx m hm=>?_⟩;rw[et]at hx;rcases YJs.mp hx with hx |hx
      ·exact e2 x hx m hm
      ·have ex:=YJW.mp hx;subst ex;subst e1;exact hv m (ho.symm.trans hm)
     cases e2:X0 s' q r.2.1 with
     |none=>
      refine ZU (ZU ?_);exact stay none e2 fun m e=>nomatch e
     |some m=>
      refine Zo ?_;refine⟨_,rfl,t,_,0,_,rfl,rfl,SqT.of ht2,rfl,_,rfl,d,_,rfl,Jw.k (k:=Sum.inr r.1) YD,_,rfl,?_⟩;rw[Xc];have change:(∀v,look s' r.1=some v→m < v)→∃(s'':Sz) (b':Bool) (w4 w5:Option V),upd H d (.dK (szD (XZ s' r.1 m)))=upd H d (.dK (szD s''))∧YAJ g q s''∧(b'=false→s''=s∧∀r∈g.take (i + 1),∀m,X0 s q r.2.1=some m→∃v,look s r.1=some v∧v≤m)∧(b'=true→mu g q s'' < mu g q s)∧[some (.ref l),some (.int q),some (.ref d),some (.bl true),some (.ref t),some (oV (some m))]=[some (.ref l),some (.int q),some (.ref d),some (.bl b'),w4,w5]:=fun hlt=>by
       obtain⟨ok2,mu2⟩:=hok'.step hg hq hrm e2 hlt;refine⟨XZ s' r.1 m,true,_,_,rfl,ok2,nofun,fun _=>?_,rfl⟩;cases b with
       |true=>exact Nat.lt_trans mu2 (hb1 rfl)
       |false=>
        obtain⟨e1,_⟩:=hb0 rfl;subst e1;exact mu2
      have len:(szD s').length < sizeLine:=by
       unfold szD;rw[YJL];exact YJY (show _ < 1000 by have:=hok'.len;omega) (YG (YJP _))
      have put:YBR (upd H d (.dK (szD s'))) d (.str r.1) (.int m) (upd H d (.dK (szD (XZ s' r.1 m)))):=by
       have:=YBR.k (k:=Sum.inr r.1) (v:=.int m) (YD (H:=H) (a:=d) (o:=.dK (szD s'))) len;rw[put_szD hok'.nd,YBz]at this;exact this
      cases e3:look s' r.1 with
      |none=>
       refine Zo (Zo ?_);refine⟨_,rfl,_,rfl,_,rfl,t,_,0,_,rfl,rfl,SqT.of ht2,rfl,d,_,rfl,put,?_⟩;exact change fun v e=>by rw[e3]at e;cases e
      |some v=>
       refine ZU ?_;refine⟨_,rfl,_,rfl,_,rfl,t,_,0,_,rfl,rfl,SqT.of ht2,rfl,d,.int v,rfl,?_,_,_,rfl,rfl,_,rfl,?_⟩
       ·have:=Jw.k (k:=Sum.inr r.1) (YD (H:=H) (a:=d) (o:=.dK (szD s')));rw[Xc,e3]at this;exact this
       refine Jx (fun h1=>?_) fun h1=>?_
       ·refine⟨_,rfl,_,rfl,_,rfl,t,_,0,_,rfl,rfl,SqT.of ht2,rfl,d,_,rfl,put,?_⟩;exact change fun v' e=>by
         rw[e3]at e;cases e;exact YJm h1
       ·have h1':v≤m:=Int.not_lt.mp fun z=>h1 (YJU z)
        exact stay (some m) e2 fun m' e=>by
         cases e;exact⟨v,e3,h1'⟩
    ·rintro σ H2 ⟨s',b,v4',v5',rfl,hok',hb0,hb1,rfl⟩;refine⟨⟨s',b,_,_,rfl,hok',fun e=>?_,rfl⟩,?_⟩
     ·obtain⟨e1,e2⟩:=hb0 e;subst e1;intro r hr m hm;exact e2 r (by rw[YKM (by omega)];exact hr) m hm
     ·show 2 * mu g q (unsz (YFN (upd H d (.dK (szD s'))) d)) + _ < 2 * mu g q (unsz (YFN (upd H d (.dK (szD s))) d)) + _;rw[ekv,ekv,YCa,YCa];cases b with
      |true=>
       have:=hb1 rfl;show 2 * mu g q s' + 1 < 2 * mu g q s + 1;omega
      |false=>
       obtain⟨e1,_⟩:=hb0 rfl;subst e1;show 2 * mu g q s' + 0 < 2 * mu g q s' + 1;omega
  ·rintro σ H2 Q1 Q2 hQ ⟨x,e1,c,e2,h⟩;exact⟨x,e1,c,e2,hQ _ _ h⟩
end
abbrev YBc:Stmt:=top 19
abbrev Jl:Stmt:=top 20
theorem YFR:(["cost"]:List Str).Nodup:=by decide +kernel
def YBE:D→Bool
 |.tup ds=>decide (ds.length=3) && ds.all Yu
 |_=>false
inductive X1 (C:Addr) (vs:List V) (H:Hp) (Q:VK) (E:XK):Prop where
 |mk (x:_) (d:_) (h0_:vs=[x]) (h1_:Den H x d) (h2_:d.short=true) (h3_:YS H) (h4_:(YBE d=true→Q x H)) (h5_:(YBE d=false→E (.ref C) none H)):X1 C vs H Q E
def YAM (C:Addr):Sp:=fun vs H Q E=>X1 C vs H Q E
section
variable {P:Program}{w:World}{K:W.Frag}{mg:Str→Option Value}{base:Heap}{C:Adr}
theorem YGZ:YV ["thing"] ["thing"] (YJ YBc):=⟨rfl,rfl,rfl,by decide +kernel,rfl,by decide +kernel,by decide +kernel⟩
theorem YGa {f:Addr}{fd:FuncData} (F:Fun K "is_cost" "is_cost" YBc f fd) (T:Txt K mg C) (U_is_whole:ZO P w K mg CX0 1 "is_whole" ["thing"] (XD YCN)):Yr P w K mg base CX0 2 f fd ["thing"] (XD Yu):=by
 obtain⟨f_is_whole,fd_is_whole,G_is_whole,m_is_whole,k_is_whole,b_is_whole⟩:=U_is_whole.ok;refine F.ok YGZ (fun vs H Q E h=>?_) (fun cdv A outer s H vs Q E hr h=>?_)
 ·cases h;subst_vars;rfl
 ·obtain⟨x,d,rfl,den,sh,hp,q⟩:=h;refine⟨_,(YF (YX (Zv (YU (G_is_whole base) (hr.mono (by decide)) (by rfl) m_is_whole k_is_whole b_is_whole .nil Yf (YA (pv 0) YB)) (JM (YAA Xy Xy YC (pv 0) (YI X8 YC YC)))))),?_⟩;refine⟨_,rfl,x,d,rfl,den,sh,hp,_,rfl,?_⟩;cases d with
  |int i=>
   have ex:=den.to_int;subst ex;have ev:Yu (.int i)=(decide (0≤i) && decide (i≤10 ^ 60)):=rfl;refine Zo ?_;refine⟨_,rfl,_,_,rfl,rfl,_,rfl,?_⟩;refine Jx (fun h1=>?_) fun h1=>?_
   ·refine⟨_,_,rfl,rfl,⟨by decide,by decide,by decide⟩,_,_,rfl,rfl,?_⟩;rw[ev,h1]at q;exact q
   ·have h1':decide (0≤i)=false:=by
     cases hh:decide (0≤i) with
     |false=>rfl
     |true=>exact absurd hh h1
    rw[ev,h1']at q;exact q
  |_=>exact ZU q
theorem YBd:YV ["thing"] ["thing"] (YJ Jl):=⟨rfl,rfl,rfl,by decide +kernel,rfl,by decide +kernel,by decide +kernel⟩
theorem YBe {f:Addr}{fd:FuncData} (F:Fun K "checked_costs" "checked_costs" Jl f fd) (T:Txt K mg C) (U_is_cost:ZO P w K mg CX0 2 "is_cost" ["thing"] (XD Yu)):Yr P w K mg base (CXo P w) 3 f fd ["thing"] (YAM C.NoCosts):=by
 obtain⟨f_is_cost,fd_is_cost,G_is_cost,m_is_cost,k_is_cost,b_is_cost⟩:=U_is_cost.ok;refine F.okX YBd (fun vs H Q E h=>?_) (fun cdv A outer s H vs Q E hr h=>?_)
 ·cases h;subst_vars;rfl
 ·obtain⟨x,d,rfl,den,sh,hp,q1,q2⟩:=h;refine⟨_,(YE (ZB (PW.pt (YC9 (JL (Zi (YK (ZJ K rfl) (by rfl) T.z_isinstance YJl (YA (pv 0) (YA (Zr (v:=.ty "tuple") (by rfl) T.z_tuple YKJ rfl) YB))))) (YC9 (Y1 YEe (YK (YT K rfl) (by rfl) T.z_len YJT (YA (pv 0) YB)) YC (Yv _)) (YB7 (JL (Zi (YA5 (YK (XX K rfl rfl) (by rfl) T.z_all YKW (YA (Z0 (N:=["cost"]) (ρ:=[none]) (cl:=[]) rfl (Yh.plain rfl (by decide +kernel) (by decide +kernel) rfl (by simp)) (YA6 K rfl (pv 0)) (fun _ _ _ _ _=>(YN (i:=0) YFR rfl (Or.inl rfl) (.inr rfl))) (fun _ _ _ _ _=>Zj) (fun _ _ _ _ _=>(YU (G_is_cost base) (hr.mono (by decide)) (by rfl) m_is_cost k_is_cost b_is_cost .nil Yf (YA (pv 0) YB)))) YB))))))))) (YF (YCH XV T.x_NoCosts rfl (by rfl) T.n_NoCosts (YA Zk YB))) Yg)
   (YF (YX (pv 0)))),?_⟩
  refine⟨_,rfl,_,_,_,_,_,rfl,den.ty,rfl,YAX d,_,rfl,?_⟩;cases d with
  |tup ds=>
   obtain⟨a,xs,rfl,ha,hds⟩:=den.to_tup;have hl:xs.length=ds.length:=hds.len;have shS:Jk ds=true:=by unfold D.short at sh;exact sh
   refine ZU ?_;refine⟨_,rfl,a,xs,rfl,.inr (SqT.of ha),rfl,_,rfl,?_⟩
   by_cases h3:ds.length=3
   ·have e3:decide (V.int (xs.length:Int)=V.int 3)=true:=YJU (by rw[hl,h3];rfl);rw[e3];refine ZU ?_;refine⟨hp,_,rfl,a,rfl,⟨xs,SqT.of ha⟩,fun l hln=>?_⟩;refine ZX (n:=xs.length) 0 (fun k y _=>∃d,ds[k]?=some d∧y=.bl (Yu d)) (YDR (SqT.of ha)) (fun _ _ _ _ _ h=>h) hp hln YKR (YG (by omega)) (fun τ'=>0 < τ'.length) YKR (fun τ' v h=>by rw[YKf];exact h) ?_ ?_
    ·intro τ' k y H' R _ hτ hit hk hs hp' hlne hR;obtain⟨d,hd,dn⟩:=hds.get hit;exact⟨_,hτ,y,d,rfl,dn.same hs,Z4 shS (YJS hd),hp',hR _ _ (YL.refl _) hp' ⟨d,hd,rfl⟩⟩
    ·intro ys H' hy hP hs hp' hl';have e2:ys=(ds.map Yu).map V.bl:=YF8 (by rw[hy,hl]) hP;refine⟨l,ds.map Yu,rfl,.inl (.inl (by rw[hl',e2])),hs,_,rfl,?_⟩;rw[Jz];have ev:YBE (.tup ds)=ds.all Yu:=by
      show(decide (ds.length=3) && ds.all Yu)=_;rw[YJU h3];rfl
     rw[ev]at q1 q2;cases hall:ds.all Yu with
     |false=>exact Zo ⟨YG (by decide),q2 hall⟩
     |true=>exact ZU ⟨_,rfl,q1 hall⟩
   ·have e3:decide (V.int (xs.length:Int)=V.int 3)=false:=YJV (fun e=>h3 (by have:=V.int.inj e;omega));rw[e3];refine Zo (Zo ⟨YG (by decide),q2 ?_⟩);show(decide (ds.length=3) && ds.all Yu)=false;rw[YJV h3];rfl
  |_=>exact Zo (Zo ⟨YG (by decide),q2 rfl⟩)
end
abbrev JE:Stmt:=Z9 (top 34) 0
abbrev JQ:Stmt:=Z9 (top 34) 1
abbrev JF:Stmt:=Z9 (top 34) 2
abbrev Z5:Stmt:=Z9 (top 34) 3
abbrev ZQ:Stmt:=Z9 (top 34) 4
abbrev Zp:Stmt:=Z9 (top 34) 5
abbrev JR:Stmt:=Z9 (top 34) 6
abbrev Zw:Stmt:=Z9 (top 34) 7
abbrev ZY:Stmt:=Z9 (top 34) 8
abbrev JG:Stmt:=Z9 (top 34) 9
abbrev Zx:Stmt:=Z9 (top 34) 10
abbrev YEN:Stmt:=top 35
theorem J8:(["begin","end","self","sign"]:List Str).Nodup:=by decide +kernel
def Xr (p:Str):Str:=⟨#[(p.cps[1]?).getD 0]⟩
def YFS (c t:Str) (b e:Nat):Bool:=!(Builtin.Str.occurrences (Txt.slice t (some (b:Int)) (some (e:Int))) c 0 (Txt.slice t (some (b:Int)) (some (e:Int))).length 1).isEmpty
def sgT (t:Str) (put cut swap:Int) (p:Str) (b e:Nat):Int:=if e≤b then put else (if ((e:Int) - b - 1) * cut + (if YFS (Xr p) t b e=true then 0 else swap) < ((e:Int) - b) * cut + put then ((e:Int) - b - 1) * cut + (if YFS (Xr p) t b e=true then 0 else swap) else ((e:Int) - b) * cut + put)
inductive YBm (C:Addr) (vs:List V) (H:Hp) (Q:VK):Prop where
 |mk (T:Tol) (p:Str) (b e:Nat) (h0_:vs=[.ref T.x,.str p,.int b,.int e]) (h1_:H T.x=some (.ins C T.dx T.fld)) (h2_:b≤e) (h3_:e≤T.n) (h4_:T.n≤60) (h5_:T.t.length=T.n) (h6_:p.length=2) (h7_:T.cut.natAbs < 2 ^ 4000) (h8_:Q (.int (sgT T.t T.put T.cut T.swap p b e)) H):YBm C vs H Q
def YCc (C:Addr):Sp:=fun vs H Q E_=>YBm C vs H Q
def YAN (H H':Hp) (a:Addr) (rows:Nat→List Int) (N:Nat):Prop:=H a=none∧∃bs:List Addr,H' a=some (.lst (bs.map V.ref))∧bs.length=N∧∀(i:Nat) (c:Addr),bs[i]?=some c→H c=none∧c≠a∧H' c=some (.lst ((rows i).map V.int))∧∀j,bs[j]?=some c→j=i
theorem YFT {ys:List V}{n:Nat}{f:Nat→V} (hl:ys.length=n) (h:∀(k:Nat) (y:V),ys[k]?=some y→y=f k):ys=(List.range n).map f:=by
 apply YKs;intro i;rw[YJQ];rcases YJr i n with hi |hi
 ·rw[YJ3 hi];have:=YJR (show i < ys.length by omega);rw[this];exact YKV some (h i _ this)
 ·rw[YJy (by omega),YJy (by rw[YJj];exact hi)];rfl
theorem YAN.snoc {H H':Hp}{a:Addr}{rows:Nat→List Int}{N:Nat}{bs:List Addr}{c:Addr} (h1:H a=none) (h2:H' a=some (.lst (bs.map V.ref))) (h3:bs.length=N)
  (h4:∀(i:Nat) (c:Addr),bs[i]?=some c→H c=none∧c≠a∧H' c=some (.lst ((rows i).map V.int))∧∀j,bs[j]?=some c→j=i) (hc:H c=none) (hca:c≠a) (hc2:H' c=some (.lst ((rows N).map V.int))) (hnew:∀i:Nat,bs[i]?≠some c):
  YAN H (upd H' a (.lst ((bs ++ [c]).map V.ref))) a rows (N + 1):=by
 refine⟨h1,bs ++ [c],YD,by rw[YJd,h3];rfl,fun i c' hc'=>?_⟩;have at_:∀(j:Nat) (c'':Addr),(bs ++ [c])[j]?=some c''→(bs[j]?=some c''∧j < N)∨(j=N∧c''=c):=fun j c'' e=>by
  rcases YJr j bs.length with hj |hj
  ·rw[YJ5 hj]at e;exact .inl ⟨e,by omega⟩
  ·rw[YJ2 hj]at e;have:j - bs.length=0:=by
    have:=(YJM.mp e).1;simp only[YJn,YKa]at this;omega
   rw[this]at e;cases e;exact .inr ⟨by omega,rfl⟩
 rcases at_ i c' hc' with ⟨e1,e2⟩ |⟨rfl,rfl⟩
 ·obtain⟨g1,g2,g3,g4⟩:=h4 i c' e1;refine⟨g1,g2,by rw[YH g2];exact g3,fun j ej=>?_⟩;rcases at_ j c' ej with ⟨k1,k2⟩ |⟨_,k2⟩
  ·exact g4 j k1
  ·rw[k2]at e1;exact absurd e1 (hnew i)
 ·refine⟨hc,hca,by rw[YH hca];exact hc2,fun j ej=>?_⟩;rcases at_ j c' ej with ⟨k1,_⟩ |⟨k1,_⟩
  ·exact absurd k1 (hnew j)
  ·exact k1
inductive YCd (C:Addr) (vs:List V) (H:Hp) (Q:VK):Prop where
 |mk (T:Tol) (p:Str) (h0_:vs=[.ref T.x,.str p]) (h1_:H T.x=some (.ins C T.dx T.fld)) (h2_:T.n≤60) (h3_:T.t.length=T.n) (h4_:p.length=2) (h5_:T.cut.natAbs < 2 ^ 4000) (h6_:YS H) (h7_:∀a H',YL H H'→YS H'→YAN H H' a (ovR (sgT T.t T.put T.cut T.swap) p) (T.n + 1)→Q (.ref a) H'):YCd C vs H Q
def YDh (C:Addr):Sp:=fun vs H Q E_=>YCd C vs H Q
inductive YCe (C:Addr) (vs:List V) (H:Hp) (Q:VK):Prop where
 |mk (T:Tol) (t p:Addr) (r:Y2) (h0_:vs=[.ref T.x,.ref t]) (h1_:H T.x=some (.ins C T.dx T.fld)) (h2_:Rd H T.ab (.dK (szD T.s))) (h3_:H t=some (.tup [.str r.1,.ref p,.int r.2.2])) (h4_:H p=some (.tup (r.2.1.map V.str))) (h5_:Q (.int (rch T.s r.2.1)) H):YCe C vs H Q
def YDi (C:Addr):Sp:=fun vs H Q E_=>YCe C vs H Q
theorem YI4 {s:Sz}:∀{ps:List Str}{i:Nat}{p:Str},(∀p∈ps.take i,okP s p=true)→ps[i]?=some p→okP s p=false→rch s ps=i
 |[],i,p,_,e,_=>by cases e
 |c :: ps,0,p,_,e,hp=>by
  cases e;exact if_neg (by rw[hp];exact YJZ)
 |c :: ps,i + 1,p,h,e,hp=>by
  have hc:=h c (by simp);have e1:rch s (c :: ps)=rch s ps + 1:=if_pos hc;rw[e1,YI4 (fun x hx=>h x (by rw[List.take_succ_cons];exact YJf _ hx)) (by simpa using e) hp]
section
variable {P:Program}{w:World}{K:W.Frag}{mg:Str→Option Value}{base:Heap}{C:Adr}
theorem ZR:YV ["self","sign","begin","end","many","toll","change"] ["self","sign","begin","end"] (YJ Z5):=⟨rfl,rfl,rfl,by decide +kernel,rfl,by decide +kernel,by decide +kernel⟩
theorem YAh {f:Addr}{fd:FuncData} (F:Fun K "sign_toll" "Toller.sign_toll" Z5 f fd) (T:Txt K mg C):Yr P w K mg base CX0 1 f fd ["self","sign","begin","end"] (YCc C.Toller):=by
 refine F.ok ZR (fun vs H Q E h=>?_) (fun cdv A outer s H vs Q E hr h=>?_)
 ·cases h;subst_vars;rfl
 ·obtain⟨S,p,b,e,rfl,hx,hbe,hen,hn,htn,hp2,hc,q⟩:=h;have hu:=Jd hr;refine⟨_,(YE (YM (i:=4) ZR.nd rfl (Or.inl rfl) (YI Z2 (pv 3) (pv 2)))
   (YE (YM (i:=5) ZR.nd rfl (Or.inl rfl) (YI Yb (YI Xm (pv 4) (Yc K rfl (pv 0) rfl)) (Yc K rfl (pv 0) rfl)))
   (YE (ZB (Y1 X9 (pv 4) YC (Yv _)) (YF (YX (pv 5))) Yg)
   (YE (YM (i:=6) ZR.nd rfl (Or.inl rfl) (YEb (Y1 YHN (YQ Jj (pv 1) YC (fun _ _=>rfl)) (Zd YD9 (Yc K rfl (pv 0) rfl) (ZP (pv 2)) (ZP (pv 3))) (by with_unfolding_all rfl)) YC (Yc K rfl (pv 0) rfl)))
   (YF (YX (YK (YAV rfl) (by rfl) T.z_min YKC (YA (pv 5) (YA (YI Yb (YI Xm (YI Z2 (pv 4) YC) (Yc K rfl (pv 0) rfl)) (pv 6)) YB))))))))),?_⟩
  have hlt:∀i:Int,0≤i→i≤60→i.natAbs < 2 ^ 4000:=fun i h1 h2=>YK0 (show i.natAbs≤60 by omega) (YJY (by decide:60 < 2 ^ 6) (Nat.pow_le_pow_right (by decide) (by decide)))
  obtain⟨m,hm⟩:∃m:Int,(e:Int) - b=m:=⟨_,rfl⟩;refine⟨_,rfl,_,rfl,_,_,rfl,rfl,?_⟩;refine⟨_,rfl,_,rfl,S.x,C.Toller,S.dx,_,_,rfl,hx,T.cl_Toller,T.na_Toller_cut,rfl,_,_,rfl,rfl,⟨hlt _ (by omega) (by omega),hc⟩,_,rfl,S.x,C.Toller,S.dx,_,_,rfl,hx,T.cl_Toller,T.na_Toller_put,rfl,_,_,rfl,rfl,?_⟩;refine⟨_,rfl,rfl,_,rfl,?_⟩;unfold sgT at q;refine Jx (fun h1=>?_) fun h1=>?_
  ·have h1:((e:Int) - b)=0:=V.int.inj (YJm h1);rw[if_pos (by omega)]at q;refine⟨_,rfl,?_⟩;have e0:((e:Int) - b) * S.cut + S.put=S.put:=by rw[h1,Int.zero_mul,YKP]
   show Q (.int (((e:Int) - b) * S.cut + S.put)) H;rw[e0];exact q
  ·have h1':¬b=e:=fun z=>h1 (YJU (by rw[z];show V.int _=_;rw[Int.sub_self]))
   rw[if_neg (show ¬e≤b by omega)]at q;obtain⟨c,ec⟩:∃c,p.cps[1]?=some c:=⟨_,YKZ (show 1 < p.cps.size by have:p.cps.size=2:=hp2;omega)⟩;have es:Xr p=⟨#[c]⟩:=by unfold Xr;rw[ec];rfl
   have line:∀k:Nat,k≤60→k≤sizeLine:=fun k hk=>YJt hk (YG (by decide))
   refine⟨_,rfl,p,1,c,rfl,rfl,line _ (by omega),Yy (j:=1) (by rw[YKQ];exact ec),_,rfl,S.x,C.Toller,S.dx,_,_,rfl,hx,T.cl_Toller,T.na_Toller_text,rfl,_,rfl,_,rfl,_,rfl,_,rfl,_,rfl,line _ (by omega),_,_,rfl,rfl,_,rfl,?_⟩;have fin:∀ch:Int,(if YFS (Xr p) S.t b e=true then 0 else S.swap)=ch→Q (.int (if ((e:Int) - b - 1) * S.cut + ch < ((e:Int) - b) * S.cut + S.put then ((e:Int) - b - 1) * S.cut + ch else ((e:Int) - b) * S.cut + S.put)) H:=fun ch z=>by rw[z]at q;exact q
   rw[es]at fin;refine Jx (fun h2=>?_) fun h2=>?_
   ·refine⟨_,rfl,_,rfl,_,_,rfl,rfl,_,rfl,S.x,C.Toller,S.dx,_,_,rfl,hx,T.cl_Toller,T.na_Toller_cut,rfl,_,_,rfl,rfl,⟨hlt _ (by omega) (by omega),hc⟩,_,rfl,_,_,rfl,rfl,_,_,rfl,?_⟩;exact fin 0 (if_pos h2)
   ·refine⟨_,rfl,S.x,C.Toller,S.dx,_,_,rfl,hx,T.cl_Toller,T.na_Toller_swap,rfl,?_⟩;refine⟨_,rfl,_,rfl,_,_,rfl,rfl,_,rfl,S.x,C.Toller,S.dx,_,_,rfl,hx,T.cl_Toller,T.na_Toller_cut,rfl,_,_,rfl,rfl,⟨hlt _ (by omega) (by omega),hc⟩,_,rfl,_,_,rfl,rfl,_,_,rfl,?_⟩;exact fin S.swap (if_neg h2)
theorem Zq:YV ["self","sign","table","end"] ["self","sign"] (YJ ZQ):=⟨rfl,rfl,rfl,by decide +kernel,rfl,by decide +kernel,by decide +kernel⟩
theorem YAO {f:Addr}{fd:FuncData} (F:Fun K "sign_table" "Toller.sign_table" ZQ f fd) (T:Txt K mg C) (U_Toller_sign_toll:YAH P w K mg CX0 1 C.Toller "sign_toll" ["self","sign","begin","end"] (YCc C.Toller)):Yr P w K mg base CX0 2 f fd ["self","sign"] (YDh C.Toller):=by
 obtain⟨f_Toller_sign_toll,fd_Toller_sign_toll,G_Toller_sign_toll,me_Toller_sign_toll,b_Toller_sign_toll⟩:=U_Toller_sign_toll.ok;refine F.ok Zq (fun vs H Q E h=>?_) (fun cdv A outer s H vs Q E hr h=>?_)
 ·cases h;subst_vars;rfl
 ·obtain⟨S,p,rfl,hx,hn,htn,hp2,hcut,hp,q⟩:=h;have hu:=Jd hr;refine⟨_,(YE (YM (i:=2) Zq.nd rfl (Or.inl rfl) (Z8 YB))
   (YE (Yi PassesOwn.never rfl (Yt rfl T.z_range (YA (YI Yb (YK Yq (by rfl) T.z_len YJT (YA (Yc K rfl (pv 0) rfl) YB)) YC) YB)) (YN (i:=3) Zq.nd rfl (Or.inr rfl)) (YF (ZV (JB K rfl YJx YJ0 YJz ZD (pv 2) (YA (Z0 (N:=["begin","end","self","sign"]) (ρ:=[none,some 3,some 0,some 1]) rfl (Yh.closes ["self","sign","table","end"] (YJ ZQ).names rfl rfl rfl rfl (by decide +kernel) (by decide +kernel) (fun x h=>Jv h) (by decide +kernel) rfl (by decide +kernel)) (Yt rfl T.z_range (YA (YI Yb (pv 3) YC) YB)) (fun _ _ _ _ _=>(YN (i:=0) J8 rfl (Or.inl rfl) (.inr rfl))) (fun _ _ _ _ _=>Zj) (fun _ _ _ _ _=>(Xj (pv 2) T.cl_Toller me_Toller_sign_toll (G_Toller_sign_toll base) (hr.mono (by decide)) b_Toller_sign_toll .nil Yf (YA (pv 3) (YA (pv 0) (YA (pv 1) YB)))))) YB)))))
   (YF (YX (pv 2))))),?_⟩
  have line:∀k:Nat,k≤61→k≤sizeLine:=fun k hk=>YJt hk (YG (by decide))
  refine⟨YJw _,fun a ha=>?_⟩;have hxa:S.x≠a:=YR hx ha;have hx1:∀{o:HO},upd H a o S.x=some (.ins C.Toller S.dx S.fld):=fun{o}=>by rw[YH hxa];exact hx
  refine⟨_,rfl,S.x,C.Toller,S.dx,_,_,rfl,hx1,T.cl_Toller,T.na_Toller_text,rfl,_,rfl,line _ (by omega),_,_,rfl,rfl,((S.n + 1:Nat):Int),by rw[htn];rfl,by omega,by omega,?_⟩;refine Y0 (lo:=0) (n:=S.n + 1) (fun i σ H2=>∃(bs:List Addr) (v3:Option V),σ=[some (.ref S.x),some (.str p),some (.ref a),v3]∧YL H H2∧YS H2∧H2 a=some (.lst (bs.map V.ref))∧bs.length=i∧
    ∀(j:Nat) (c:Addr),bs[j]?=some c→H c=none∧c≠a∧H2 c=some (.lst ((ovR (sgT S.t S.put S.cut S.swap) p j).map V.int))∧∀j',bs[j']?=some c→j'=j)
   ⟨[],none,rfl,YL.upd ha,hp.upd rfl,YD,rfl,fun j c e=>by cases e⟩ ?_ ?_
  ·rintro i σ H2 hi ⟨bs,v3,rfl,s2,p2,h2,hl,hb⟩;refine⟨_,rfl,.inl ⟨rfl,_,SqL.of h2⟩,_,rfl,_,_,rfl,rfl,((i + 1:Nat):Int),by rw[YKP];rfl,by omega,by omega,fun c hc=>?_⟩;have hca:c≠a:=fun z=>by rw[z,h2]at hc;cases hc
   refine ZX (n:=i + 1) 0 (fun k y _=>y=.int (sgT S.t S.put S.cut S.swap p k i)) Z6 (fun _ _ _ _ _ h=>h) p2 hc (show 0 < 4 by decide) (line _ (by omega)) (fun τ'=>∃v,τ'=[v,some (.int (0 + (i:Int))),some (.ref S.x),some (.str p)]) ⟨_,rfl⟩ (fun τ' v ⟨_,e⟩=>⟨v,by rw[e];rfl⟩) ?_ ?_
   ·rintro τ' k y H' R ⟨v,rfl⟩ hτ rfl hk hs hp' hlne hR;cases hτ;have hx2:=hs _ _ (s2 _ _ hx);refine⟨_,rfl,S.x,S.dx,_,rfl,hx2,rfl,_,rfl,_,rfl,_,rfl,S,p,k,i,by rw[YKP,YKP];rfl,hx2,by omega,by omega,hn,htn,hp2,hcut,hR _ _ (YL.refl _) hp' rfl⟩
   ·intro ys H' hy hP hs hp' hl';have ey:ys=(ovR (sgT S.t S.put S.cut S.swap) p i).map V.int:=by
     unfold ovR;rw[YKk];exact YFT hy hP
    rw[ey]at hl';refine⟨a,_,_,rfl,rfl,hs _ _ h2,YJY (show(bs.map V.ref).length < 1000 by rw[YJL];omega) (YG (YJP _)),?_⟩;have e3:bs.map V.ref ++ [V.ref c]=(bs ++ [c]).map V.ref:=by rw[YJo];rfl
    rw[e3];obtain⟨t1,bs',t2,t3,t4⟩:=YAN.snoc (rows:=ovR (sgT S.t S.put S.cut S.swap) p) (N:=i) ha (hs _ _ h2) hl (fun j c hj=>⟨(hb j c hj).1,(hb j c hj).2.1,hs _ _ (hb j c hj).2.2.1,(hb j c hj).2.2.2⟩) (s2.free hc) hca hl' fun j hj=>by rw[(hb j c hj).2.2.1]at hc;cases hc
    exact⟨bs',_,rfl,(s2.trans hs).put ha,hp'.upd rfl,t2,t3,t4⟩
  ·rintro σ H2 ⟨bs,v3,rfl,s2,p2,h2,hl,hb⟩;exact⟨_,rfl,q a H2 s2 p2 ⟨ha,bs,h2,hl,hb⟩⟩
theorem ZZ:YV ["self","rule","reach","part"] ["self","rule"] (YJ JF):=⟨rfl,rfl,rfl,by decide +kernel,rfl,by decide +kernel,by decide +kernel⟩
theorem YAy {f:Addr}{fd:FuncData} (F:Fun K "reach_of" "Toller.reach_of" JF f fd) (T:Txt K mg C):Yr P w K mg base CX0 1 f fd ["self","rule"] (YDi C.Toller):=by
 refine F.ok ZZ (fun vs H Q E h=>?_) (fun cdv A outer s H vs Q E hr h=>?_)
 ·cases h;subst_vars;rfl
 ·obtain⟨S,t,p,r,rfl,hx,hab,ht,hp,q⟩:=h;have hu:=Jd hr;refine⟨_,(YE (YM (i:=2) ZZ.nd rfl (Or.inl rfl) YC)
   (YE (Yi PassesOwn.never rfl (YA6 K rfl (YQ (Ya K rfl) (pv 1) YC (fun _ _=>rfl))) (YN (i:=3) ZZ.nd rfl (Or.inl rfl)) (YE (ZB (PW.pt (YDz (JL (Zi (JB K rfl PySem.F.plainAttrs_str YK3 YK2 JC (pv 3) (YA Zk YB)))) (YB1 (YBL (YBS hu (pv 3) (Yc K rfl (pv 0) rfl)))))) (YF YH3) Yg)
   (YF (YH6 (i:=2) ZZ.nd rfl (Or.inl rfl) YC YH7))))
   (YF (YX (pv 2))))),?_⟩
  refine⟨_,rfl,t,_,1,_,rfl,rfl,SqT.of ht,rfl,p,rfl,⟨_,SqT.of hp⟩,YD0 (K:=K) (a:=p) (xs:=r.2.1.map V.str) (fun i σ H2=>H2=H∧(∀p∈r.2.1.take i,okP S.s p=true)∧∃v,σ=[some (.ref S.x),some (.ref t),some (.int i),v]) ⟨rfl,(fun x hx=>by rw[YKo]at hx;cases hx),none,rfl⟩ ?_ ?_ ?_⟩
  ·rintro i σ H2 _ ⟨rfl,_⟩;exact SqT.of hp
  ·rintro i y σ H2 hi ⟨rfl,hpre,v,rfl⟩;rw[YJQ]at hi;cases e:r.2.1[i]? with
   |none=>rw[e]at hi;cases hi
   |some c=>
    rw[e]at hi;cases hi;refine⟨_,rfl,rfl,_,_,rfl,rfl,_,rfl,?_⟩;have more:okP S.s c=true→∀p∈r.2.1.take (i + 1),okP S.s p=true:=fun hc x hx=>by
     rw[YKF,e]at hx;rcases YJs.mp hx with hx |hx
     ·exact hpre x hx
     ·rw[YJW.mp hx];exact hc
    cases hq:isQ c with
    |true=>
     have hq':Txt.startswith c "'"=true:=hq;rw[hq'];refine ZU (ZU ⟨_,rfl,_,_,rfl,rfl,?_⟩);exact⟨rfl,more (by unfold okP;rw[hq];rfl),_,rfl⟩
    |false=>
     have hq':Txt.startswith c "'"=false:=hq;rw[hq'];refine Zo ⟨_,rfl,_,rfl,S.x,C.Toller,S.dx,_,_,rfl,hx,T.cl_Toller,T.na_Toller_bare,rfl,S.ab,_,rfl,.inl ⟨_,Sum.inr c,hab,rfl,rfl⟩,_,rfl,?_⟩;rw[Xc];cases hlk:look S.s c with
     |none=>
      refine Zo ⟨_,rfl,?_⟩;have:=YI4 hpre e (by unfold okP;rw[hq,hlk];rfl);rw[this]at q;exact q
     |some v'=>
      refine ZU ⟨_,rfl,_,_,rfl,rfl,?_⟩;exact⟨rfl,more (by unfold okP;rw[hlk,hq];rfl),_,rfl⟩
  ·rintro σ H2 ⟨rfl,hpre,v,rfl⟩;refine⟨_,rfl,?_⟩;rw[YJL];rw[YJL,YKj]at hpre;rw[YCZ hpre]at q;exact q
end
theorem YGb:(["end"]:List Str).Nodup:=by decide +kernel
theorem YEO:(["begin"]:List Str).Nodup:=by decide +kernel
theorem YG4 (z:Str):isQ z=decide (z.cps.toList[0]?=some 39):=by
 have e0:(("'":Str))=⟨#[39]⟩:=by decide +kernel
 unfold isQ;rw[e0,YKh,YKE];have:=StrLaws.subAt_one z 39 0;unfold Txt.startswith;rw[YJe,YKE];exact this
theorem Xf {z:Str} (h:isNameS z=true):isQ z=false:=by
 rw[YG4];refine YJV fun e=>?_
 unfold isNameS at h;rw[YJe]at h;have:=YJ6.mp h.2 39 (YJS e);exact absurd this (by decide)
theorem YFU {z:Str} (h:Y7 z=true) (hq:isQ z=true):z.length=2:=by
 unfold Y7 at h;cases hs:XI z with
 |true=>
  unfold XI at hs;rw[YJe,YJe,beq_iff_eq]at hs;exact hs.1.1
 |false=>
  rw[hs,YKY]at h;rw[Xf h]at hq;cases hq
theorem JS {g:ZF} (h:ZT g=true) {r:Y2} (hr:r∈g):isNameS r.1=true∧r.2.1.length≤6∧∀p∈r.2.1,Y7 p=true:=by
 unfold ZT at h;rw[YJe]at h;have:=YJ6.mp h.2 r hr;unfold J0 at this;rw[YJe,YJe,YJe,YKE]at this;exact⟨this.1,this.2.1.1,fun p hp=>YJ6.mp this.2.1.2 p hp⟩
theorem YB4 {α:Type}{l:List α} (nd:l.Nodup) {i:Nat}{h:α} (e:l[i]?=some h):h∉l.take i:=fun hm=>by
 obtain⟨hi,e⟩:=YJM.mp e;rw[←List.take_append_drop i l,List.nodup_append]at nd;refine nd.2.2 h hm h ?_ rfl;rw[YLC hi,e];exact YJp ..
theorem YBF:∀{xs ys:List Addr},xs.map V.ref=ys.map V.ref→xs=ys
 |[],[],_=>rfl
 |[],_ :: _,h=>by cases h
 |_ :: _,[],h=>by cases h
 |x :: xs,y :: ys,h=>by
  injection h with h1 h2
  rw[V.ref.inj h1,YBF h2]
def ovO (T:Tol):OvF:=fun p b e=>if isQ p=true then sgT T.t T.put T.cut T.swap p b e else 0
def noF:FiF:=fun _ _ _ _=>0
def noK:Nat→Nat→Nat→Nat:=fun _ _ _=>0
section
variable {T:Tol}{own own':Addr→Option XE}{ps:List Str}{H0 H H':Hp}{O:OvF}{F:FiF}{K:Nat→Nat→Nat→Nat}
theorem TSt.lay (S:TSt T own ps H0 H O F K) (s:YL H H') (p:YS H') (h1:∀a,H a≠none→own' a=own a) (h2:∀a u,own' a=some u→own a=some u∨(H a=none∧∃xs:List V,H' a=some (.lst xs))) (h3:∀a a' u,own' a=some u→own' a'=some u→a=a'):
  TSt T own' ps H0 H' O F K:=by
 obtain⟨kvs,a1,a2,a3⟩:=S.hao;obtain⟨ts,b1,b2,b3,b4⟩:=S.haf;obtain⟨o,ho⟩:=S.hab;have old:∀a w,H a=some w→own' a=own a:=fun a w e=>h1 a (by rw[e];exact fun z=>nomatch z)
 refine⟨p,S.sm.trans s,s _ _ S.hx,S.hl,S.hds,⟨o,s _ _ ho⟩,⟨kvs,s _ _ a1,a2,fun q hq=>?_⟩,⟨ts,by rw[old _ _ b2];exact b1,s _ _ b2,b3,fun r t ρ e1 e2=>?_⟩,fun a u h=>?_,h3⟩
 ·obtain⟨a,bs,g1,g2,g3,g4,g5⟩:=a3 q hq;exact⟨a,bs,g1,by rw[old _ _ g3];exact g2,s _ _ g3,g4,fun e c hc=>⟨by rw[old _ _ (g5 e c hc).2];exact(g5 e c hc).1,s _ _ (g5 e c hc).2⟩⟩
 ·obtain⟨ds,g1,g2,g3,g4⟩:=b4 r t ρ e1 e2;refine⟨ds,by rw[old _ _ g2];exact g1,s _ _ g2,g3,fun d u hu=>?_⟩;obtain⟨es,k1,k2,k3,k4⟩:=g4 d u hu;exact⟨es,by rw[old _ _ k2];exact k1,s _ _ k2,k3,fun b c hc=>⟨by rw[old _ _ (k4 b c hc).2];exact(k4 b c hc).1,s _ _ (k4 b c hc).2⟩⟩
 ·rcases h2 a u h with h |⟨h,ns,e⟩
  ·obtain⟨h',ns,e⟩:=S.on a u h;exact⟨h',ns,s _ _ e⟩
  ·exact⟨S.sm.free h,ns,e⟩
theorem TSt.addOv (S:TSt T own ps H0 H O F K) {p:Str} (hp:p∉ps) {a:Addr} (h:OvAt H own T.n O p (some (.ref a))) {kvs:List (Key×V)} (hk:H T.ao=some (.dK kvs)) (hn:H0 T.ao=none):
  TSt T own (ps ++ [p]) H0 (upd H T.ao (.dK (Ys kvs (Sum.inr p) (.ref a)))) O F K:=by
 obtain⟨kvs',a1,a2,a3⟩:=S.hao;rw[hk]at a1;cases a1;obtain⟨ts,b1,b2,b3,b4⟩:=S.haf;obtain⟨o,ho⟩:=S.hab;have st:∀b w,(∀kvs,w≠.dK kvs)→H b=some w→upd H T.ao (.dK (Ys kvs (Sum.inr p) (.ref a))) b=some w:=fun b w hw e=>by
  rw[YH (fun z=>by rw[z,hk]at e;exact hw _ (YJk e).symm)];exact e
 have kp:∀{b:Addr}{xs:List V},H b=some (.lst xs)→upd H T.ao (.dK (Ys kvs (Sum.inr p) (.ref a))) b=some (.lst xs):=fun e=>st _ _ (fun _ z=>nomatch z) e
 have hnone:Yw kvs (Sum.inr p)=none:=by
  cases e:Yw kvs (Sum.inr p) with
  |none=>rfl
  |some y=>
   have:(Sum.inr p:Key)∈kvs.map (·.1):=by
    unfold Yw at e;obtain⟨kv,h1,h2⟩:=YJu.mp e;have:=List.find?_some h1;exact YJh.mpr ⟨kv,YKp h1,YJm this⟩
   rw[a2]at this;obtain⟨q,h1,h2⟩:=YJh.mp this;cases h2;exact absurd h1 hp
 have kO:∀{q:Str}{v:Option V},OvAt H own T.n O q v→OvAt (upd H T.ao (.dK (Ys kvs (Sum.inr p) (.ref a)))) own T.n O q v:=fun h=>by
  obtain⟨a',bs,g1,g2,g3,g4,g5⟩:=h;exact⟨a',bs,g1,g2,kp g3,g4,fun e c hc=>⟨(g5 e c hc).1,kp (g5 e c hc).2⟩⟩
 refine⟨S.pl.upd rfl,S.sm.put hn,st _ _ (fun _ z=>nomatch z) S.hx,S.hl,S.hds,⟨o,st _ _ (fun _ z=>nomatch z) ho⟩,⟨_,YD,?_,fun q hq=>?_⟩,⟨ts,b1,kp b2,b3,fun r t ρ e1 e2=>?_⟩,fun c u hc=>?_,S.uq⟩
 ·rw[L2.YAC _ hnone,YJo,YJo,a2];rfl
 ·rw[Jc]
  by_cases hqp:q=p
  ·rw[if_pos (by rw[hqp]),hqp];exact kO h
  ·rw[if_neg (fun z=>hqp (Sum.inr.inj z))];rcases YJs.mp hq with hq |hq
   ·exact kO (a3 q hq)
   ·exact absurd (YJW.mp hq) hqp
 ·obtain⟨ds,g1,g2,g3,g4⟩:=b4 r t ρ e1 e2;refine⟨ds,g1,kp g2,g3,fun d u hu=>?_⟩;obtain⟨es,k1,k2,k3,k4⟩:=g4 d u hu;exact⟨es,k1,kp k2,k3,fun b c hc=>⟨(k4 b c hc).1,kp (k4 b c hc).2⟩⟩
 ·obtain⟨h',ns,e⟩:=S.on c u hc;exact⟨h',ns,kp e⟩
theorem TSt.addFi (S:TSt T own ps H0 H O F K) {ρ:Y2} (hr:T.g[T.R]?=some ρ) {t:Addr} (h:FiAt H own T.n F K T.R (rch T.s ρ.2.1) t) {ts:List Addr} (hk:H T.af=some (.lst (ts.map V.ref))) (hn:H0 T.af=none):
  TSt { T with R:=T.R + 1 } own ps H0 (upd H T.af (.lst ((ts ++ [t]).map V.ref))) O F K:=by
 obtain⟨kvs,a1,a2,a3⟩:=S.hao;obtain⟨ts',b1,b2,b3,b4⟩:=S.haf;obtain⟨o,ho⟩:=S.hab;have ets:ts'=ts:=by
  rw[hk]at b2;have:=HO.lst.inj (YJk b2);exact(YBF this).symm
 subst ets;have st:∀b w,(∀xs,w≠.lst xs)→H b=some w→upd H T.af (.lst ((ts' ++ [t]).map V.ref)) b=some w:=fun b w hw e=>by
  rw[YH (fun z=>by rw[z,hk]at e;exact hw _ (YJk e).symm)];exact e
 have kp:∀{b:Addr}{w:HO},own b≠some .top→H b=some w→upd H T.af (.lst ((ts' ++ [t]).map V.ref)) b=some w:=fun hb e=>by
  rw[YH (fun z=>hb (by rw[z];exact b1))];exact e
 have n1:∀{b:Addr},own b=none→own b≠some .top:=fun h z=>by rw[h]at z;cases z
 have n2:∀{b:Addr}{p e},own b=some (.ov p e)→own b≠some .top:=fun h z=>by rw[h]at z;cases z
 have n3:∀{b:Addr}{r d c},own b=some (.fi r d c)→own b≠some .top:=fun h z=>by rw[h]at z;cases z
 have kF:∀{r R:Nat}{t':Addr},FiAt H own T.n F K r R t'→FiAt (upd H T.af (.lst ((ts' ++ [t]).map V.ref))) own T.n F K r R t':=fun h=>by
  obtain⟨ds,g1,g2,g3,g4⟩:=h;refine⟨ds,g1,kp (n1 g1) g2,g3,fun d u hu=>?_⟩;obtain⟨es,k1,k2,k3,k4⟩:=g4 d u hu;exact⟨es,k1,kp (n1 k1) k2,k3,fun b c hc=>⟨(k4 b c hc).1,kp (n3 (k4 b c hc).1) (k4 b c hc).2⟩⟩
 refine⟨S.pl.upd rfl,S.sm.put hn,st _ _ (fun _ z=>nomatch z) S.hx,S.hl,S.hds,⟨o,st _ _ (fun _ z=>nomatch z) ho⟩,⟨kvs,st _ _ (fun _ z=>nomatch z) a1,a2,fun q hq=>?_⟩,⟨_,b1,YD,by rw[YJd,b3];rfl,fun r t' ρ' e1 e2=>?_⟩,fun c u hc=>?_,S.uq⟩
 ·obtain⟨a',bs,g1,g2,g3,g4,g5⟩:=a3 q hq;exact⟨a',bs,g1,g2,kp (n1 g2) g3,g4,fun e c hc=>⟨(g5 e c hc).1,kp (n2 (g5 e c hc).1) (g5 e c hc).2⟩⟩
 ·rcases YJr r ts'.length with hlt |hge
  ·rw[YJ5 hlt]at e1;exact kF (b4 r t' ρ' e1 e2)
  ·rw[YJ2 hge]at e1;have:r - ts'.length=0:=by
    have:=(YJM.mp e1).1;simp only[YJn,YKa]at this;omega
   rw[this]at e1;cases e1;have er:r=T.R:=by omega
   subst er;have e2:T.g[T.R]?=some ρ':=e2;rw[hr]at e2;cases e2;exact kF h
 ·obtain⟨h',xs,e⟩:=S.on c u hc
  by_cases hca:c=T.af
  ·subst hca;exact⟨h',_,YD⟩
  ·exact⟨h',xs,by rw[YH hca];exact e⟩
end
theorem YFV {J:It}{n:Nat}{item:Nat→V→Prop}{te:TE}{Q:VK}{H:Hp}{l:Addr}{τ:St} (j0:Nat) (rows:Nat→List Int) (hJ:YAp J n H item) (hp:YS H)
  (hl:H l=none) (hτ:j0 < τ.length) (hz:n≤sizeLine) (keep:St→Prop) (hk0:keep τ) (hks:∀τ' v,keep τ'→keep (τ'.set j0 v))
  (ht:∀(τ':St) (k:Nat) (x:V) (H':Hp) (R:VK),keep τ'→τ'[j0]?=some (some x)→item k x→k < n→YL H H'→YS H'→(∀c H6,YL H' H6→YS H6→H' c=none→H6 c=some (.lst ((rows k).map V.int))→R (.ref c) H6)→te τ' H' R)
  (hq:∀H',YL H H'→YS H'→YAN H H' l rows n→Q (.ref l) H'):YAn J (YDA j0) tYes te Q l τ H:=by
 refine YGk n (fun i ys τ' H2=>i≤n∧∃bs:List Addr,ys=bs.map V.ref∧bs.length=i∧j0 < τ'.length∧keep τ'∧YL H H2∧YS H2∧H2 l=some (.lst (bs.map V.ref))∧∀(i:Nat) (c:Addr),bs[i]?=some c→H c=none∧c≠l∧H2 c=some (.lst ((rows i).map V.int))∧∀j,bs[j]?=some c→j=i)
  ⟨YJw _,[],rfl,rfl,hτ,hk0,YL.upd hl,hp.upd rfl,YD,fun i c e=>by cases e⟩ ?_ ?_
 ·rintro i ys τ' H2 N hlt ⟨hi,bs,rfl,hbl,hτ',hk',hs,hpl,hll,hb⟩ hN;obtain⟨hgo,_⟩:=hJ i _ hs;obtain⟨h1,h2⟩:=hgo hlt;refine⟨h1,fun x H3 hy=>?_⟩;obtain⟨e,it⟩:=h2 x H3 hy;subst e;show te _ _ _;refine ht _ i x _ _ (hks _ _ hk') ?_ it hlt hs hpl fun c H6 s6 p6 hc hc6=>?_
  ·rw[YKi hτ']
  ·have hl6:=s6 _ _ hll;have hcl:c≠l:=fun z=>by rw[z,hll]at hc;cases hc
   obtain⟨t1,bs',t2,t3,t4⟩:=YAN.snoc (rows:=rows) (N:=i) hl hl6 hbl (fun j c hj=>⟨(hb j c hj).1,(hb j c hj).2.1,s6 _ _ (hb j c hj).2.2.1,(hb j c hj).2.2.2⟩) (hs.free hc) hcl hc6 fun j hj=>by rw[(hb j c hj).2.2.1]at hc;cases hc
   have e3:bs.map V.ref ++ [V.ref c]=(bs ++ [c]).map V.ref:=by rw[YJo];rfl
   have ebs:bs'=bs ++ [c]:=by
    rw[YD]at t2;exact(YBF (HO.lst.inj (YJk t2))).symm
   subst ebs;rw[e3];refine⟨hl6,by rw[YJL];omega,hN _ _ _ ⟨by omega,bs ++ [c],rfl,t3,by rw[YKf];exact hτ',hks _ _ hk',(hs.trans s6).put hl,p6.upd rfl,YD,t4⟩⟩
 ·rintro ys τ' H2 ⟨hi,bs,rfl,hbl,hτ',hk',hs,hpl,hll,hb⟩;obtain⟨_,hst⟩:=hJ n _ hs;exact⟨hst,hq H2 hs hpl ⟨hl,bs,hll,hbl,hb⟩⟩
section
variable {T:Tol}{own own':Addr→Option XE}{ps:List Str}{H0 H H':Hp}{O:OvF}{F:FiF}{K:Nat→Nat→Nat→Nat}
theorem TSt.free_ (S:TSt T own ps H0 H O F K) {a:Addr} (h:H a=none):own a=none:=by
 cases e:own a with
 |none=>rfl
 |some u=>
  obtain⟨_,xs,e'⟩:=S.on a u e;rw[h]at e';cases e'
theorem TSt.newTab (S:TSt T own ps H0 H O F K) (s:YL H H') (pl:YS H') {a:Addr}{rows:Nat→List Int}{N:Nat} (tb:YAN H H' a rows N) (tg:Nat→XE) (inj:∀i j,tg i=tg j→i=j) (hnew:∀c i,own c≠some (tg i)):
  ∃own',TSt T own' ps H0 H' O F K∧own' a=none∧(∃bs:List Addr,H' a=some (.lst (bs.map V.ref))∧bs.length=N∧∀(i:Nat) (c:Addr),bs[i]?=some c→own' c=some (tg i)∧H' c=some (.lst ((rows i).map V.int)))∧
   (∀c w,own' c=some w→own c=some w∨∃i,w=tg i)∧∀c,H c≠none→own' c=own c:=by
 obtain⟨ha,bs,h1,h2,h3⟩:=tb;obtain⟨own',o1,o2⟩:=YG1 own (fun c u=>∃i:Nat,bs[i]?=some c∧u=tg i) fun c u u' ⟨i,e1,e2⟩ ⟨j,e3,e4⟩=>by
  rw[e2,e4,(h3 i c e1).2.2.2 j e3]
 have out:∀c,H c≠none→own' c=own c:=fun c hc=>o2 c fun u ⟨i,e1,_⟩=>hc (h3 i c e1).1
 have cs:∀c w,own' c=some w→own c=some w∨∃i:Nat,bs[i]?=some c∧w=tg i:=fun c w e=>by
  by_cases hc:∃i:Nat,bs[i]?=some c
  ·obtain⟨i,hi⟩:=hc;rw[o1 c _ ⟨i,hi,rfl⟩]at e;cases e;exact .inr ⟨i,hi,rfl⟩
  ·rw[o2 c fun u ⟨i,e1,_⟩=>hc ⟨i,e1⟩]at e;exact .inl e
 refine⟨own',S.lay s pl out (fun c w e=>?_) (fun c c' w e e'=>?_),?_,⟨bs,h1,h2,fun i c hc=>⟨o1 c _ ⟨i,hc,rfl⟩,(h3 i c hc).2.2.1⟩⟩,fun c w e=>(cs c w e).imp id fun⟨i,_,e⟩=>⟨i,e⟩,out⟩
 ·rcases cs c w e with e |⟨i,e1,_⟩
  ·exact .inl e
  ·exact .inr ⟨(h3 i c e1).1,_,(h3 i c e1).2.2.1⟩
 ·rcases cs c w e with e |⟨i,e1,e2⟩
  ·rcases cs c' w e' with e' |⟨j,e3,e4⟩
   ·exact S.uq c c' w e e'
   ·exact absurd (e4 ▸ e) (hnew c j)
  ·rcases cs c' w e' with e' |⟨j,e3,e4⟩
   ·exact absurd (e2 ▸ e') (hnew c' i)
   ·have:i=j:=inj i j (e2.symm.trans e4);subst this;rw[e1]at e3;cases e3;rfl
 ·rw[o2 a fun u ⟨i,e1,_⟩=>(h3 i a e1).2.1 rfl];exact S.free_ ha
theorem YAN.del {a t:Addr}{rows:Nat→List Int}{N:Nat} (h:YAN H H' a rows N) (ht:H t≠none):YAN (L2.del H t) (L2.del H' t) a rows N:=by
 obtain⟨ha,bs,h1,h2,h3⟩:=h;have ne:∀{c},H c=none→c≠t:=fun hc z=>ht (z ▸ hc)
 refine⟨by rw[YAF (ne ha)];exact ha,bs,by rw[YAF (ne ha)];exact h1,h2,fun i c hc=>?_⟩;obtain⟨g1,g2,g3,g4⟩:=h3 i c hc;exact⟨by rw[YAF (ne g1)];exact g1,g2,by rw[YAF (ne g1)];exact g3,g4⟩
theorem YFF.owns {n r d:Nat}{u:Addr} (h:YFF H own n F K r d u) (s:YL H H') (k:∀c,H c≠none→own' c=own c):YFF H' own' n F K r d u:=by
 obtain⟨es,h1,h2,h3,h4⟩:=h;have kk:∀{c o},H c=some o→own' c=own c:=fun e=>k _ (by rw[e];exact fun z=>nomatch z)
 exact⟨es,by rw[kk h2];exact h1,s _ _ h2,h3,fun e c hc=>⟨by rw[kk (h4 e c hc).2];exact(h4 e c hc).1,s _ _ (h4 e c hc).2⟩⟩
def TgOk (own:Addr→Option XE) (ps:List Str) (R D:Nat):Prop:=(∀c p e,own c=some (.ov p e)→p∈ps)∧∀c r d b,own c=some (.fi r d b)→r < R∨(r=R∧d < D)
end
theorem TSt.more {T:Tol}{own:Addr→Option XE}{ps:List Str}{H0 H H':Hp}{O:OvF}{F:FiF}{K:Nat→Nat→Nat→Nat}{R D:Nat} (S:TSt T own ps H0 H O F K) (tg:TgOk own ps R D) (s:YL H H') (pl:YS H') {a:Addr}{p:Str} (tb:YAN H H' a (ovR O p) (T.n + 1)) (hp:p∉ps)
  {kvs:List (Key×V)} (hk:H T.ao=some (.dK kvs)) (hn:H0 T.ao=none):∃own',TSt T own' (ps ++ [p]) H0 (upd H' T.ao (.dK (Ys kvs (Sum.inr p) (.ref a)))) O F K∧TgOk own' (ps ++ [p]) R D:=by
 obtain⟨own',S',h1,⟨bs,h2,h3,h4⟩,h5,h6⟩:=S.newTab s pl tb (fun e=>.ov p e) (fun i j e=>by cases e;rfl) fun c i e=>hp (tg.1 c p i e)
 refine⟨own',S'.addOv hp ⟨a,bs,rfl,h1,h2,h3,h4⟩ (s _ _ hk) hn,fun c q e hc=>?_,fun c r d b hc=>?_⟩
 ·rcases h5 c _ hc with h |⟨i,h⟩
  ·exact YKD _ (tg.1 c q e h)
  ·cases h;exact YJi _ (YJW.mpr rfl)
 ·rcases h5 c _ hc with h |⟨i,h⟩
  ·exact tg.2 c r d b h
  ·cases h
def YCf (g:ZF) (s:Sz) (ps:List Str):Prop:=ps.Nodup∧(∀p∈ps,okP s p=true)∧(∀h v,look s h=some v→h∈ps)∧(∀ρ∈g,∀p∈ρ.2.1,isQ p=true→p∈ps)∧∀p∈ps,isQ p=true→∃ρ∈g,p∈ρ.2.1
def PsI (g:ZF) (s:Sz) (ps qs:List Str):Prop:=ps.Nodup∧(∀p∈ps,okP s p=true)∧(∀h v,look s h=some v→h∈ps)∧(∀p∈qs,isQ p=true→p∈ps)∧∀p∈ps,isQ p=true→∃ρ∈g,p∈ρ.2.1
theorem PsI.more {g:ZF}{s:Sz}{ps qs:List Str} (h:PsI g s ps qs) {c:Str} (hc:isQ c=true→c∈ps):PsI g s ps (qs ++ [c]):=
 ⟨h.1,h.2.1,h.2.2.1,fun p hp hq=>by
  rcases YJs.mp hp with hp |hp
  ·exact h.2.2.2.1 p hp hq
  ·rw[YJW.mp hp]at hq ⊢;exact hc hq,h.2.2.2.2⟩
theorem PsI.new {g:ZF}{s:Sz}{ps qs:List Str} (h:PsI g s ps qs) {c:Str} (hc:c∉ps) (hq:isQ c=true) (hg:∃ρ∈g,c∈ρ.2.1):PsI g s (ps ++ [c]) (qs ++ [c]):=by
 have in1:∀p∈ps ++ [c],p∈ps∨p=c:=fun p hp=>(YJs.mp hp).imp id YJW.mp
 refine⟨YAZ h.1 hc,fun p hp=>?_,fun z v hz=>YKD _ (h.2.2.1 z v hz),fun p hp hp'=>?_,fun p hp hp'=>?_⟩
 ·rcases in1 p hp with hp |rfl
  ·exact h.2.1 p hp
  ·unfold okP;rw[hq];rfl
 ·rcases YJs.mp hp with hp |hp
  ·exact YKD _ (h.2.2.2.1 p hp hp')
  ·exact YJi _ hp
 ·rcases in1 p hp with hp |rfl
  ·exact h.2.2.2.2 p hp hp'
  ·exact hg
theorem YDj:∀{g:ZF},(∀r∈g,r.2.1.length≤6)→(g.flatMap (·.2.1)).length≤6 * g.length
 |[],_=>YJP _
 |r :: g,h=>by
  have h1:=h r (YJp ..);have h2:=YDj fun x hx=>h x (YJf _ hx)
  rw[List.flatMap_cons,YJd,YJn];omega
theorem PsI.len {g:ZF}{q:Int}{s:Sz}{ps qs:List Str} (h:PsI g s ps qs) (hg:ZT g=true) (hs:YAJ g q s):ps.length≤420:=by
 have:=YDX (ys:=s.map (·.1) ++ g.flatMap (·.2.1)) h.1 fun p hp=>by
  cases hq:isQ p with
  |true=>
   obtain⟨r,h1,h2⟩:=h.2.2.2.2 p hp hq;exact YJi _ (List.mem_flatMap.mpr ⟨r,h1,h2⟩)
  |false=>
   have:=h.2.1 p hp;unfold okP at this;rw[hq,YKY]at this;obtain⟨v,hv⟩:=YJv.mp this;exact YKD _ (YJh.mpr ⟨_,Xb hv,rfl⟩)
 have h1:=hs.len;have h2:=YDj (g:=g) fun r hr=>(JS hg hr).2.1
 have h3:=YAY hg;rw[YJd,YJL]at this;omega
theorem YFW {H:Hp}{t:Addr} (h:H t=none):L2.del H t=H:=by
 funext b
 by_cases hb:b=t
 ·rw[hb,YCJ,h]
 ·rw[YAF hb]
theorem YS.del {H:Hp} (h:YS H) (t:Addr):YS (L2.del H t):=fun a o e=>h a o (Zy H t a o e)
structure YBf (C:Addr) (T:Tol):Prop where
 c:T.C=C
 g:ZT T.g=true
 s:YAJ T.g T.put T.s
 fx:Fix T.g T.put T.s
 n:T.n≤60
 t:T.t.length=T.n
 r:T.R=T.g.length
 cut:T.cut.natAbs < 2 ^ 4000
 cut0:0≤T.cut
 put0:0≤T.put
 sw0:0≤T.swap
structure LPre (T:Tol) (H0 H:Hp):Prop where
 hx:H T.x=some (.ins T.C T.dx T.fld)
 sm:YL H0 H
 pl:YS H
 ab:H T.ab=some (.dK (szD T.s))
 ao:H T.ao=some (.dK [])
 ne:T.ab≠T.ao
 af:H T.af=some (.lst [])
 nx:H0 T.x=none
 nb:H0 T.ab=none
 no:H0 T.ao=none
 nf:H0 T.af=none
 l:H0 T.l=some (.lst T.xs)
 ds:Yd H0 T.xs (T.g.map Zf)
inductive YDk (C:Addr) (vs:List V) (H:Hp) (Q:VK):Prop where
 |mk (T:Tol) (H0:Hp) (h0_:vs=[.ref T.x]) (h1_:YBf C T) (h2_:LPre T H0 H) (h3_:∀own ps H',TSt T own ps H0 H' (ovO T) noF noK→YCf T.g T.s ps→Q .non H'):YDk C vs H Q
def YFX (C:Addr):Sp:=fun vs H Q E_=>YDk C vs H Q
section
variable {P:Program}{w:World}{K:W.Frag}{mg:Str→Option Value}{base:Heap}{C:Adr}
theorem Yn:YV ["self","places","head","rule","part","table","done"] ["self"] (YJ JQ):=⟨rfl,rfl,rfl,by decide +kernel,rfl,by decide +kernel,by decide +kernel⟩
theorem YBG {f:Addr}{fd:FuncData} (F:Fun K "lay_out" "Toller.lay_out" JQ f fd) (T:Txt K mg C) (U_Toller_sign_table:YAH P w K mg CX0 2 C.Toller "sign_table" ["self","sign"] (YDh C.Toller)) (U_Toller_reach_of:YAH P w K mg CX0 1 C.Toller "reach_of" ["self","rule"] (YDi C.Toller)):Yr P w K mg base CX0 3 f fd ["self"] (YFX C.Toller):=by
 obtain⟨f_Toller_sign_table,fd_Toller_sign_table,G_Toller_sign_table,me_Toller_sign_table,b_Toller_sign_table⟩:=U_Toller_sign_table.ok;obtain⟨f_Toller_reach_of,fd_Toller_reach_of,G_Toller_reach_of,me_Toller_reach_of,b_Toller_reach_of⟩:=U_Toller_reach_of.ok;refine F.ok Yn (fun vs H Q E h=>?_) (fun cdv A outer s H vs Q E hr h=>?_)
 ·cases h;subst_vars;rfl
 ·obtain⟨S,H0,rfl,pre,lp,q⟩:=h;have hu:=Jd hr;refine⟨_,(YE (YM (i:=1) Yn.nd rfl (Or.inl rfl) (YI Yb (YK Yq (by rfl) T.z_len YJT (YA (Yc K rfl (pv 0) rfl) YB)) YC))
   (YE (Yi PassesOwn.never rfl (YEI (Yc K rfl (pv 0) rfl)) (YN (i:=2) Yn.nd rfl (Or.inl rfl)) (YF (JX hu (Yc K rfl (pv 0) rfl) (pv 2) (Z0 (N:=["end"]) (ρ:=[none]) (cl:=[]) rfl (Yh.plain rfl (by decide +kernel) (by decide +kernel) rfl (by simp)) (Yt rfl T.z_range (YA (pv 1) YB)) (fun _ _ _ _ _=>(YN (i:=0) YGb rfl (Or.inl rfl) (.inr rfl))) (fun _ _ _ _ _=>Zj) (fun _ _ _ _ _=>(YI op_rep (Z8 (YA YC YB)) (YI Yb (pv 0) YC)))) rfl)))
   (YE (Yi PassesOwn.never rfl (JA K rfl (Yc K rfl (pv 0) rfl)) (YN (i:=3) Yn.nd rfl (Or.inl rfl)) (YF (Yi PassesOwn.never rfl (YA6 K rfl (YQ (Ya K rfl) (pv 3) YC (fun _ _=>rfl))) (YN (i:=4) Yn.nd rfl (Or.inl rfl)) (YF (ZB (PW.pt (YDz (Zi (JB K rfl PySem.F.plainAttrs_str YK3 YK2 JC (pv 4) (YA Zk YB))) (YB1 (YBL (YBS hu (pv 4) (Yc K rfl (pv 0) rfl)))))) (YF (JX hu (Yc K rfl (pv 0) rfl) (pv 4) (Xj (pv 0) T.cl_Toller me_Toller_sign_table (G_Toller_sign_table base) (hr.mono (by decide)) b_Toller_sign_table .nil Yf (YA (pv 4) YB)) rfl)) Yg)))))
   (YF (Yi PassesOwn.never rfl (JA K rfl (Yc K rfl (pv 0) rfl)) (YN (i:=3) Yn.nd rfl (Or.inl rfl)) (YE (YM (i:=5) Yn.nd rfl (Or.inl rfl) (Z8 YB))
   (YE (Yi PassesOwn.never rfl (Yt rfl T.z_range (YA (YI Yb (Xj (pv 0) T.cl_Toller me_Toller_reach_of (G_Toller_reach_of base) (hr.mono (by decide)) b_Toller_reach_of .nil Yf (YA (pv 3) YB)) YC) YB)) (YN (i:=6) Yn.nd rfl (Or.inl rfl)) (YF (ZV (JB K rfl YJx YJ0 YJz ZD (pv 5) (YA (Z0 (N:=["begin"]) (ρ:=[none]) (cl:=[]) rfl (Yh.plain rfl (by decide +kernel) (by decide +kernel) rfl (by simp)) (Yt rfl T.z_range (YA (pv 1) YB)) (fun _ _ _ _ _=>(YN (i:=0) YEO rfl (Or.inl rfl) (.inr rfl))) (fun _ _ _ _ _=>Zj) (fun _ _ _ _ _=>(Z8 YB))) YB)))))
   (YF (ZV (JB K rfl YJx YJ0 YJz ZD (Yc K rfl (pv 0) rfl) (YA (pv 5) YB))))))))))),?_⟩
  have line:∀k:Nat,k≤61→k≤sizeLine:=fun k hk=>YJt hk (YG (by decide))
  have hn:=pre.n;have htn:=pre.t;have hx:H S.x=some (.ins C.Toller S.dx S.fld):=by rw[←pre.c];exact lp.hx
  obtain⟨S0,eS0⟩:∃S0:Tol,{ S with R:=0 }=S0:=⟨_,rfl⟩;have hxT:∀{own ps H' O F K},TSt S0 own ps H0 H' O F K→H' S.x=some (.ins C.Toller S.dx S.fld):=fun h=>by rw[←pre.c];have:=h.hx;rw[←eS0]at this;exact this
  have eao:S0.ao=S.ao:=by rw[←eS0]
  have en:S0.n=S.n:=by rw[←eS0]
  refine⟨_,rfl,S.x,C.Toller,S.dx,_,_,rfl,hx,T.cl_Toller,T.na_Toller_text,rfl,_,rfl,line _ (by omega),_,_,rfl,rfl,?_⟩;have epl:((S.t.length:Int) + 1)=((S.n + 1:Nat):Int):=by rw[htn];rfl
  refine⟨_,rfl,S.x,C.Toller,S.dx,_,_,rfl,hx,T.cl_Toller,T.na_Toller_bare,rfl,S.ab,_,rfl,lp.ab,fun o=>?_⟩;have nameQ:∀h v,look S.s h=some v→isQ h=false:=fun h v hl=>by
   obtain⟨r,hr,e,_⟩:=pre.s.hd h v hl;rw[←e];exact Xf (JS pre.g hr).1
  refine YAb (Pv:=fun i σ H2=>H2 S.ab=some (.frz o (.dK (szD S.s)))∧∃own v2,σ=[some (.ref S.x),some (.int ((S.t.length:Int) + 1)),v2,none,none,none,none]∧TSt S0 own ((S.s.map (·.1)).take i) H0 H2 (ovO S) noF noK∧TgOk own ((S.s.map (·.1)).take i) 0 0) ?_ (fun i σ H2 _ h=>h.1) ?_ ?_
  ·have nb:∀{b w},(∀kvs,w≠.dK kvs)→H b=some w→upd H S.ab (.frz o (.dK (szD S.s))) b=some w:=fun hw e=>by
    rw[YH (fun z=>by rw[z,lp.ab]at e;exact hw _ (YJk e).symm)];exact e
   obtain⟨own,o1,o2⟩:=YG1 (fun _=>none) (fun c u=>c=S.af∧u=.top) fun c u u' h h'=>h.2.trans h'.2.symm
   have only:∀c u,own c=some u→c=S.af∧u=.top:=fun c u e=>by
    by_cases hc:c=S.af
    ·rw[o1 c .top ⟨hc,rfl⟩]at e;cases e;exact⟨hc,rfl⟩
    ·rw[o2 c fun u h=>hc h.1]at e;cases e
   refine⟨YD,own,none,rfl,?_,⟨(fun c p e h=>by cases (only c _ h).2),fun c r d b h=>by cases (only c _ h).2⟩⟩;rw[YKo,←eS0];refine⟨lp.pl.upd rfl,lp.sm.put lp.nb,nb (fun _ z=>nomatch z) lp.hx,lp.l,lp.ds,⟨o,YD⟩,⟨[],?_,rfl,fun p hp=>by cases hp⟩,⟨[],o1 _ _ ⟨rfl,rfl⟩,nb (fun _ z=>nomatch z) lp.af,rfl,fun r t ρ e=>by cases e⟩,fun c u h=>?_,fun c c' u h h'=>(only c u h).1.trans (only c' u h').1.symm⟩
   ·rw[YH lp.ne.symm];exact lp.ao
   ·rw[(only c u h).1];exact⟨lp.nf,_,nb (fun _ z=>nomatch z) lp.af⟩
  ·rintro i kv σ H2 hkv ⟨hab,own,v2,rfl,st,tg⟩;obtain⟨h,v,ehv,rfl⟩:∃h v,S.s[i]?=some (h,v)∧kv=(Sum.inr h,V.int v):=by
    unfold szD at hkv;rw[YJQ]at hkv;obtain⟨y,h1,h2⟩:=YJu.mp hkv;exact⟨y.1,y.2,h1,h2.symm⟩
   have hlk:look S.s h=some v:=XL pre.s.nd (YJS ehv);have hq:=nameQ h v hlk;obtain⟨kvs,k1,k2,k3⟩:=st.hao;rw[eao]at k1;refine⟨_,rfl,((S.n + 1:Nat):Int),by rw[epl],by omega,by omega,fun a ha=>?_⟩;refine YFV (n:=S.n + 1) 0 (ovR (ovO S) h) Z6 st.pl ha (show 0 < 1 by decide) (line _ (by omega)) (fun τ'=>∃v,τ'=[v]) ⟨_,rfl⟩ (fun τ' v ⟨_,e⟩=>⟨v,by rw[e];rfl⟩) ?_ ?_
   ·rintro τ' k y H' R ⟨v,rfl⟩ hτ rfl hk hs hp' hR;cases hτ;refine⟨line _ (by decide),fun c1 hc1=>⟨_,rfl,_,_,rfl,rfl,c1,((k + 1:Nat):Int),_,rfl,by rw[YKP];rfl,YD,by omega,by omega,?_,fun c hc=>hR c _ ((YL.upd hc1).trans (YL.upd hc)) ((hp'.upd rfl).upd rfl) ((YL.upd hc1).free hc) ?_⟩⟩
    ·show 1 * (k + 1)≤sizeLine;exact line _ (by omega)
    ·rw[YD];congr 2;have e0:∀b,ovO S h b k=0:=fun b=>if_neg (by rw[hq];exact YJZ)
     show(List.replicate (k + 1) [V.int 0]).flatten=((List.range (k + 1)).map fun b=>ovO S h b k).map V.int;rw[YKk,List.flatten_replicate_singleton];refine(YFT (by rw[List.length_replicate]) fun j y hj=>?_);have:=YJS hj;rw[List.mem_replicate]at this;rw[this.2];show _=V.int (ovO S h j k);rw[e0]
   ·intro H' s' p' tb;have hnd:h∉(S.s.map (·.1)).take i:=YB4 pre.s.nd (by rw[YJQ,ehv];rfl);obtain⟨own',st',tg'⟩:=st.more tg s' p' (by rw[en];exact tb) hnd (by rw[eao];exact k1) (by rw[eao];exact lp.no);have e2:(S.s.map (·.1)).take (i + 1)=(S.s.map (·.1)).take i ++ [h]:=by rw[YKF,YJQ,ehv];rfl
    rw[eao]at st';refine⟨_,rfl,S.x,C.Toller,S.dx,_,_,rfl,s' _ _ (hxT st),T.cl_Toller,T.na_Toller_over,rfl,_,rfl,S.ao,_,rfl,YBR.k (k:=Sum.inr h) (s' _ _ k1) ?_,?_,own',_,rfl,by rw[e2];exact st',by rw[e2];exact tg'⟩
    ·have:=YKV List.length k2;rw[YJL,YJL,YKO,YJL]at this;have:=pre.s.len;have:=YAY pre.g;exact YJY (show kvs.length < 1000 by omega) (YG (YJP _))
    ·rw[YH lp.ne];exact s' _ _ hab
  ·rintro σ H2 ⟨hab,own,v2,rfl,st,tg⟩;have etk:(S.s.map (·.1)).take (szD S.s).length=S.s.map (·.1):=YKM (by unfold szD;rw[YJL,YJL];exact YJP _);rw[etk]at st tg;have exs:S.xs.length=S.g.length:=by rw[lp.ds.len,YJL]
   have hg60:=YAY pre.g;have ruleAt:∀{own ps T' H2},TSt T' own ps H0 H2 (ovO S) noF noK→∀{i:Nat}{y:V},S.xs[i]?=some y→∃r t p,S.g[i]?=some r∧y=.ref t∧H2 t=some (.tup [.str r.1,.ref p,.int r.2.2])∧H2 p=some (.tup (r.2.1.map V.str)):=fun st i y hi=>by
    obtain⟨r,t,p,h1,h2,h3,h4⟩:=Xo lp.ds hi;exact⟨r,t,p,h1,h2,st.sm _ _ h3,st.sm _ _ h4⟩
   refine⟨_,rfl,S.x,C.Toller,S.dx,_,_,rfl,hxT st,T.cl_Toller,T.na_Toller_rules,rfl,S.l,rfl,⟨_,SqL.of (st.sm _ _ lp.l)⟩,XT (K:=K) (a:=S.l) (xs:=S.xs) (fun i σ H2=>∃own ps v2 v3 v4,σ=[some (.ref S.x),some (.int ((S.t.length:Int) + 1)),v2,v3,v4,none,none]∧TSt S0 own ps H0 H2 (ovO S) noF noK∧TgOk own ps 0 0∧PsI S.g S.s ps ((S.g.take i).flatMap (·.2.1)))
    ⟨own,_,_,_,_,rfl,st,tg,pre.s.nd,fun p hp=>?_,fun h v hl=>YJh.mpr ⟨_,Xb hl,rfl⟩,fun p hp=>by(rw[YKo]at hp;cases hp),fun p hp hq=>?_⟩ ?_ ?_ ?_⟩
   ·obtain⟨y,hy,rfl⟩:=YJh.mp hp;unfold okP;rw[XL pre.s.nd hy,nameQ _ _ (XL pre.s.nd hy)];rfl
   ·obtain⟨y,hy,rfl⟩:=YJh.mp hp;rw[nameQ _ _ (XL pre.s.nd hy)]at hq;cases hq
   ·rintro i σ H2 _ ⟨own,ps,v2,v3,v4,rfl,st,_⟩;exact SqL.of (st.sm _ _ lp.l)
   ·rintro i y σ H2 hi ⟨own,ps,v2,v3,v4,rfl,st,tg,psi⟩;obtain⟨r,t,p,er,rfl,ht,hp⟩:=ruleAt st hi;have hrm:=YJS er;refine⟨_,rfl,t,_,1,_,rfl,rfl,SqT.of ht,rfl,p,rfl,⟨_,SqT.of hp⟩,YD0 (K:=K) (a:=p) (xs:=r.2.1.map V.str) (fun j σ H2=>H2 p=some (.tup (r.2.1.map V.str))∧∃own ps v4,σ=[some (.ref S.x),some (.int ((S.t.length:Int) + 1)),v2,some (.ref t),v4,none,none]∧TSt S0 own ps H0 H2 (ovO S) noF noK∧TgOk own ps 0 0∧PsI S.g S.s ps ((S.g.take i).flatMap (·.2.1) ++ r.2.1.take j))
     ⟨hp,own,ps,_,rfl,st,tg,by rw[YKo,List.append_nil];exact psi⟩ ?_ ?_ ?_⟩
    ·rintro j σ H2 _ ⟨hp,_⟩;exact SqT.of hp
    ·rintro j y σ H2 hj ⟨hp,own,ps,v4,rfl,st,tg,psi⟩;rw[YJQ]at hj;obtain⟨c,ec,rfl⟩:=YJu.mp hj;have hcm:=YJS ec;have et:(S.g.take i).flatMap (·.2.1) ++ r.2.1.take (j + 1)=((S.g.take i).flatMap (·.2.1) ++ r.2.1.take j) ++ [c]:=by rw[YKF,ec,List.append_assoc];rfl
     refine⟨_,rfl,rfl,_,_,rfl,rfl,_,rfl,?_⟩;cases hq:isQ c with
     |false=>
      have hq':Txt.startswith c "'"=false:=hq;rw[hq'];exact ZU (ZU ⟨hp,own,ps,_,rfl,st,tg,by rw[et];exact psi.more fun z=>by rw[hq]at z;cases z⟩)
     |true=>
      have hq':Txt.startswith c "'"=true:=hq;rw[hq'];obtain⟨kvs,k1,k2,k3⟩:=st.hao;rw[eao]at k1;refine Zo ⟨_,rfl,_,rfl,S.x,C.Toller,S.dx,_,_,rfl,hxT st,T.cl_Toller,T.na_Toller_over,rfl,S.ao,_,rfl,Jw.k (k:=Sum.inr c) k1,_,rfl,?_⟩;cases hv:Yw kvs (Sum.inr c) with
      |some y=>
       have hm:(Sum.inr c:Key)∈kvs.map (·.1):=by
        unfold Yw at hv;obtain⟨kv,h1,h2⟩:=YJu.mp hv;have:=List.find?_some h1;exact YJh.mpr ⟨kv,YKp h1,YJm this⟩
       rw[k2]at hm;obtain⟨z,h1,h2⟩:=YJh.mp hm;cases h2;exact ZU ⟨hp,own,ps,_,rfl,st,tg,by rw[et];exact psi.more fun _=>h1⟩
      |none=>
       have hnc:c∉ps:=fun hm=>by
        obtain⟨a,bs,g1,_⟩:=k3 c hm;rw[hv]at g1;cases g1
       refine Zo ⟨_,rfl,S.x,S.dx,_,rfl,hxT st,rfl,_,rfl,S,c,rfl,hxT st,hn,htn,YFU ((JS pre.g hrm).2.2 c hcm) hq,pre.cut,st.pl,fun a H' s' p' tb=>?_⟩;have eO:ovR (sgT S.t S.put S.cut S.swap) c=ovR (ovO S) c:=by
        funext e;unfold ovR;refine YKK fun b _=>?_
        exact(if_pos hq).symm
       rw[eO]at tb;obtain⟨own',st',tg'⟩:=st.more tg s' p' (by rw[en];exact tb) hnc (by rw[eao];exact k1) (by rw[eao];exact lp.no);rw[eao]at st';have hpl:=psi.len pre.g pre.s;refine⟨_,rfl,S.x,C.Toller,S.dx,_,_,rfl,s' _ _ (hxT st),T.cl_Toller,T.na_Toller_over,rfl,_,rfl,S.ao,_,rfl,YBR.k (k:=Sum.inr c) (s' _ _ k1) ?_,?_,own',ps ++ [c],_,rfl,st',tg',by rw[et];exact psi.new hnc hq ⟨r,hrm,hcm⟩⟩
       ·have:=YKV List.length k2;rw[YJL,YJL]at this;exact YJY (show kvs.length < 1000 by omega) (YG (YJP _))
       ·rw[YH (YC8 (s' _ _ hp) (s' _ _ k1) nofun)];exact s' _ _ hp
    ·rintro σ H2 ⟨hp,own,ps,v4,rfl,st,tg,psi⟩;rw[YJL,YKj]at psi;have et:(S.g.take (i + 1)).flatMap (·.2.1)=(S.g.take i).flatMap (·.2.1) ++ r.2.1:=by rw[YKF,er,List.flatMap_append];simp
     exact⟨own,ps,_,_,_,rfl,st,tg,by rw[et];exact psi⟩
   ·rintro σ H2 ⟨own,ps,v2,v3,v4,rfl,st,tg,psi⟩;rw[exs,YKj]at psi;have hxi:∀{i own H' O F K},TSt { S with R:=i } own ps H0 H' O F K→H' S.x=some (.ins C.Toller S.dx S.fld):=fun h=>by rw[←pre.c];exact h.hx
    refine⟨_,rfl,S.x,C.Toller,S.dx,_,_,rfl,hxT st,T.cl_Toller,T.na_Toller_rules,rfl,S.l,rfl,⟨_,SqL.of (st.sm _ _ lp.l)⟩,XT (K:=K) (a:=S.l) (xs:=S.xs) (fun i σ H2=>∃own v3 v5 v6,σ=[some (.ref S.x),some (.int ((S.t.length:Int) + 1)),v2,v3,v4,v5,v6]∧TSt { S with R:=i } own ps H0 H2 (ovO S) noF noK∧TgOk own ps i 0)
     ⟨own,_,_,_,rfl,by rw[←eS0]at st;exact st,tg⟩ ?_ ?_ ?_⟩
    ·rintro i σ H2 _ ⟨own,v3,v5,v6,rfl,st,_⟩;exact SqL.of (st.sm _ _ lp.l)
    ·rintro i y σ H2 hi ⟨own,v3,v5,v6,rfl,st,tg⟩;obtain⟨r,t,p,er,rfl,ht,hp⟩:=ruleAt st hi;have hrm:=YJS er;have h6:=(JS pre.g hrm).2.1;have hr6:=J2 S.s r.2.1;refine⟨YJw _,fun a ha=>?_⟩;have ua:∀{b w},H2 b=some w→upd H2 a (.lst []) b=some w:=fun e=>by rw[YH (YR e ha)];exact e
     obtain⟨ob,hob⟩:=st.hab;refine⟨_,rfl,S.x,S.dx,_,rfl,ua (hxi st),rfl,_,rfl,S,t,p,r,rfl,ua (hxi st),.inr ⟨ob,ua hob⟩,ua ht,ua hp,_,_,rfl,rfl,((rch S.s r.2.1 + 1:Nat):Int),rfl,by omega,by omega,?_⟩;refine Y0 (lo:=0) (n:=rch S.s r.2.1 + 1) (fun d σ H3=>∃own ds v6,σ=[some (.ref S.x),some (.int ((S.t.length:Int) + 1)),v2,some (.ref t),v4,some (.ref a),v6]∧TSt { S with R:=i } own ps H0 (del H3 a) (ovO S) noF noK∧TgOk own ps i d∧YS H3∧H3 a=some (.lst (ds.map V.ref))∧ds.length=d∧∀(d':Nat) u,ds[d']?=some u→YFF (del H3 a) own S.n noF noK i d' u)
      ⟨own,[],_,rfl,by rw[Xk,YFW ha];exact st,tg,st.pl.upd rfl,YD,rfl,fun d' u e=>by cases e⟩ ?_ ?_
     ·rintro d σ H3 hd ⟨own,ds,v6,rfl,st,tg,p3,h3,hdl,hfd⟩;refine⟨_,rfl,.inl ⟨rfl,_,SqL.of h3⟩,_,rfl,((S.n + 1:Nat):Int),by rw[epl],by omega,by omega,fun u hu=>?_⟩;refine YFV (n:=S.n + 1) 0 (fun _=>[]) Z6 p3 hu (show 0 < 1 by decide) (line _ (by omega)) (fun _=>True) trivial (fun _ _ _=>trivial) ?_ ?_
      ·intro τ' k y H' R _ _ _ _ _ hp' hR;exact⟨YJw _,fun c hc=>hR c _ (YL.upd hc) (hp'.upd rfl) hc YD⟩
      ·intro H6 s6 p6 tb;have hu3:u≠a:=fun z=>by rw[z,h3]at hu;cases hu
       obtain⟨own',st',g1,⟨bs,g2,g3,g4⟩,g5,g6⟩:=st.newTab (s6.del a) (YS.del p6 a) (tb.del (by rw[h3];exact fun z=>nomatch z)) (fun b=>.fi i d b) (fun b b' e=>by cases e;rfl) fun c b e=>by
        rcases tg.2 c i d b e with h |⟨_,h⟩ <;> omega
       refine⟨a,_,_,rfl,rfl,s6 _ _ h3,YJY (show(ds.map V.ref).length < 1000 by rw[YJL];omega) (YG (YJP _)),?_⟩;have e3:ds.map V.ref ++ [V.ref u]=(ds ++ [u]).map V.ref:=by rw[YJo];rfl
       rw[e3];refine⟨own',ds ++ [u],_,rfl,by rw[Xk];exact st',⟨fun c q e h=>?_,fun c r' d' b h=>?_⟩,p6.upd rfl,YD,by rw[YJd,hdl];rfl,fun d' u' e=>?_⟩
       ·rcases g5 c _ h with h |⟨_,h⟩
        ·exact tg.1 c q e h
        ·cases h
       ·rcases g5 c _ h with h |⟨_,h⟩
        ·rcases tg.2 c r' d' b h with h |⟨h1,h2⟩
         ·exact .inl h
         ·exact .inr ⟨h1,by omega⟩
        ·cases h;exact .inr ⟨rfl,by omega⟩
       ·rw[Xk];rcases YJr d' ds.length with hlt |hge
        ·rw[YJ5 hlt]at e;exact(hfd d' u' e).owns (s6.del a) g6
        ·rw[YJ2 hge]at e;have:d' - ds.length=0:=by
          have:=(YJM.mp e).1;simp only[YJn,YKa]at this;omega
         rw[this]at e;cases e;have:d'=d:=by omega
         subst this;exact⟨bs,g1,g2,g3,g4⟩
     ·rintro σ H3 ⟨own,ds,v6,rfl,st,tg,p3,h3,hdl,hfd⟩;have hoa:=st.free_ (a:=a) YCJ;have st3:=st.same (Zy H3 a) p3;obtain⟨ts,b1,b2,b3,b4⟩:=st3.haf;have b2:H3 S.af=some (.lst (ts.map V.ref)):=b2;have b3:ts.length=i:=b3;have hi60:=(YJM.mp er).1;refine⟨_,rfl,S.x,C.Toller,S.dx,_,_,rfl,hxi st3,T.cl_Toller,T.na_Toller_first,rfl,.inl ⟨rfl,_,SqL.of b2⟩,_,rfl,S.af,_,_,rfl,rfl,b2,YJY (show(ts.map V.ref).length < 1000 by rw[YJL];omega) (YG (YJP _)),?_⟩;have e3:ts.map V.ref ++ [V.ref a]=(ts ++ [a]).map V.ref:=by rw[YJo];rfl
      rw[e3];refine⟨own,_,_,_,rfl,TSt.addFi (T:={ S with R:=i }) st3 er ⟨ds,hoa,h3,hdl,fun d' u e=>(hfd d' u e).keep (Zy H3 a)⟩ b2 lp.nf,tg.1,fun c r' d' b h=>?_⟩;rcases tg.2 c r' d' b h with h |⟨h1,h2⟩
      ·exact .inl (by omega)
      ·exact .inl (by omega)
    ·rintro σ H2 ⟨own,v3,v5,v6,rfl,st,tg⟩;rw[exs,←pre.r]at st;exact q own ps H2 st ⟨psi.1,psi.2.1,psi.2.2.1,fun r hr p hp=>psi.2.2.2.1 p (List.mem_flatMap.mpr ⟨r,hr,hp⟩),psi.2.2.2.2⟩
end
def M60:Int:=10 ^ 60
structure FS (H0:Hp) (C x dx:Addr) (fs:List (Str×V)) (H:Hp):Prop where
 hx:H x=some (.ins C dx fs)
 sm:YL H0 H
 pl:YS H
 n0:H0 x=none
theorem FS.set {H0:Hp}{C x dx:Addr}{fs:List (Str×V)}{H:Hp} (h:FS H0 C x dx fs H) (f:Str) (v:V):FS H0 C x dx (XU f v fs) (upd H x (.ins C dx (XU f v fs)))∧∀b o,(∀fs,o≠.ins C dx fs)→H b=some o→upd H x (.ins C dx (XU f v fs)) b=some o:=
 ⟨⟨YD,h.sm.put h.n0,h.pl.upd rfl,h.n0⟩,fun b o ho e=>by rw[YH (fun z=>by rw[z,h.hx]at e;exact ho _ (YJk e).symm)];exact e⟩
theorem FS.new {H0:Hp}{C x dx:Addr}{fs:List (Str×V)}{H:Hp} (h:FS H0 C x dx fs H) {a:Addr}{o:HO} (ha:H a=none) (ho:YAo o=true):FS H0 C x dx fs (upd H a o):=
 ⟨by rw[YH (YR h.hx ha)];exact h.hx,h.sm.trans (YL.upd ha),h.pl.upd ho,h.n0⟩
inductive YFY (C:Addr) (vs:List V) (H:Hp) (Q:VK):Prop where
 |mk (H0:Hp) (x dx l c:Addr) (t:Str) (xs:List V) (g:ZF) (a b d:Int) (h0_:vs=[.ref x,.ref l,.str t,.ref c]) (h1_:H x=some (.ins C dx [])) (h2_:H0 x=none) (h3_:YL H0 H) (h4_:YS H) (h5_:H0 l=some (.lst xs)) (h6_:Yd H0 xs (g.map Zf)) (h7_:ZT g=true) (h8_:t.length≤60) (h9_:H0 c=some (.tup [.int a,.int b,.int d])) (h10_:(0≤a∧a≤10 ^ 60)) (h11_:(0≤b∧b≤10 ^ 60)) (h12_:(0≤d∧d≤10 ^ 60)) (h13_:∀T own ps H',YBf C T→T.x=x→T.g=g→T.t=t→T.put=a * M60→T.cut=b * M60→T.swap=d * M60→H0 T.ao=none→TSt T own ps H0 H' (ovO T) noF noK→YCf g T.s ps→Q .non H'):YFY C vs H Q
def YG5 (C:Addr):Sp:=fun vs H Q E_=>YFY C vs H Q
section
variable {P:Program}{w:World}{K:W.Frag}{mg:Str→Option Value}{base:Heap}{C:Adr}
theorem YAz:YV ["self","rules","text","costs"] ["self","rules","text","costs"] (YJ JE):=⟨rfl,rfl,rfl,by decide +kernel,rfl,by decide +kernel,by decide +kernel⟩
theorem YA0 {f:Addr}{fd:FuncData} (F:Fun K "__init__" "Toller.__init__" JE f fd) (T:Txt K mg C) (U_least_sizes:ZO P w K mg CX0 3 "least_sizes" ["rules","sign_size"] (YFQ)) (U_Toller_lay_out:YAH P w K mg CX0 3 C.Toller "lay_out" ["self"] (YFX C.Toller)):Yr P w K mg base CX0 4 f fd ["self","rules","text","costs"] (YG5 C.Toller):=by
 obtain⟨f_least_sizes,fd_least_sizes,G_least_sizes,m_least_sizes,k_least_sizes,b_least_sizes⟩:=U_least_sizes.ok;obtain⟨f_Toller_lay_out,fd_Toller_lay_out,G_Toller_lay_out,me_Toller_lay_out,b_Toller_lay_out⟩:=U_Toller_lay_out.ok;refine F.ok YAz (fun vs H Q E h=>?_) (fun cdv A outer s H vs Q E hr h=>?_)
 ·cases h;subst_vars;rfl
 ·obtain⟨H0,x,dx,l,c,t,xs,g,a,b,d,rfl,hx,hx0,s0,hp,hl,hds,hg,ht,hc,ha,hb,hd,q⟩:=h;have hu:=Jd hr;refine qex ?_;refine⟨_,(Y4 ⟨(XH K rfl (pv 0) (pv 1) rfl)⟩
   (Y4 ⟨(XH K rfl (pv 0) (pv 2) rfl)⟩
   (Y4 ⟨(XH K rfl (pv 0) (YI Xm (YQ (Ya K rfl) (pv 3) YC (fun _ _=>rfl)) (YI X8 YC YC)) rfl)⟩
   (Y4 ⟨(XH K rfl (pv 0) (YI Xm (YQ (Ya K rfl) (pv 3) YC (fun _ _=>rfl)) (YI X8 YC YC)) rfl)⟩
   (Y4 ⟨(XH K rfl (pv 0) (YI Xm (YQ (Ya K rfl) (pv 3) YC (fun _ _=>rfl)) (YI X8 YC YC)) rfl)⟩
   (Y4 ⟨(XH K rfl (pv 0) (YU (G_least_sizes base) (hr.mono (by decide)) (by rfl) m_least_sizes k_least_sizes b_least_sizes .nil Yf (YA (pv 1) (YA (Yc K rfl (pv 0) rfl) YB))) rfl)⟩
   (Y4 ⟨(XH K rfl (pv 0) YA3 rfl)⟩
   (Y4 ⟨(XH K rfl (pv 0) (Z8 YB) rfl)⟩
   (YEC ⟨(ZV (YCA (pv 0) T.cl_Toller me_Toller_lay_out (G_Toller_lay_out base) (hr.mono (by decide)) b_Toller_lay_out .nil Yf))⟩))))))))),?_⟩
  have two:(10:Int) ^ 60≤2 ^ 200:=by decide
  have big:∀i:Int,0≤i→i≤2 ^ 400→i.natAbs < 2 ^ 4000:=fun i h1 h2=>by
   obtain⟨n,rfl⟩:=Int.eq_ofNat_of_zero_le h1;have h3:n≤2 ^ 400:=by exact_mod_cast h2
   exact YK0 h3 (Nat.pow_lt_pow_right (by decide) (by decide))
  have e24:(2:Int) ^ 200 * 2 ^ 200=2 ^ 400:=by decide
  have e2:(2:Int) ^ 200≤2 ^ 400:=by decide
  have mul:∀i:Int,0≤i∧i≤10 ^ 60→CMulB i (10 ^ (60:Int).toNat):=fun i h=>⟨big i h.1 (YKL h.2 (YKL two e2)),big _ (by decide) (YKL two e2)⟩
  have mul':∀i:Int,0≤i∧i≤10 ^ 60→(i * M60).natAbs < 2 ^ 4000:=fun i h=>big _ (YKN h.1 (by decide)) (by
   rw[←e24];exact Int.mul_le_mul (YKL h.2 two) two (by decide) (by decide))
  have pw:CPow 10 60:=⟨by decide,by decide,by decide⟩;have F0:FS H0 C.Toller x dx [] H:=⟨hx,s0,hp,hx0⟩;refine⟨_,rfl,_,rfl,x,C.Toller,dx,_,rfl,F0.hx,T.cl_Toller,T.na_Toller_rules,(by decide),?_⟩;have F1:=(F0.set "rules" (.ref l)).1;revert F1;generalize upd H x (.ins C.Toller dx (XU "rules" (.ref l) []))=H1;intro F1;refine⟨_,rfl,_,rfl,x,C.Toller,dx,_,rfl,F1.hx,T.cl_Toller,T.na_Toller_text,(show 1 < 1000 by decide),?_⟩;have F2:=(F1.set "text" (.str t)).1;revert F2;generalize upd H1 x (.ins C.Toller dx _)=H2;intro F2;refine⟨_,rfl,c,_,0,_,rfl,rfl,SqT.of (F2.sm _ _ hc),rfl,_,_,rfl,rfl,pw,_,_,rfl,rfl,mul a ha,_,rfl,x,C.Toller,dx,_,rfl,F2.hx,T.cl_Toller,T.na_Toller_put,(show 2 < 1000 by decide),?_⟩;have F3:=(F2.set "put" (.int (a * 10 ^ (60:Int).toNat))).1;revert F3;generalize upd H2 x (.ins C.Toller dx _)=H3;intro F3;refine⟨_,rfl,c,_,1,_,rfl,rfl,SqT.of (F3.sm _ _ hc),rfl,_,_,rfl,rfl,pw,_,_,rfl,rfl,mul b hb,_,rfl,x,C.Toller,dx,_,rfl,F3.hx,T.cl_Toller,T.na_Toller_cut,(show 3 < 1000 by decide),?_⟩;have F4:=(F3.set "cut" (.int (b * 10 ^ (60:Int).toNat))).1;revert F4;generalize upd H3 x (.ins C.Toller dx _)=H4;intro F4;refine⟨_,rfl,c,_,2,_,rfl,rfl,SqT.of (F4.sm _ _ hc),rfl,_,_,rfl,rfl,pw,_,_,rfl,rfl,mul d hd,_,rfl,x,C.Toller,dx,_,rfl,F4.hx,T.cl_Toller,T.na_Toller_swap,(show 4 < 1000 by decide),?_⟩;have F5:=(F4.set "swap" (.int (d * 10 ^ (60:Int).toNat))).1;revert F5;generalize upd H4 x (.ins C.Toller dx _)=H5;intro F5;have p60:(0:Int)≤10 ^ (60:Int).toNat:=by decide
  refine⟨_,rfl,_,rfl,x,C.Toller,dx,_,_,rfl,F5.hx,T.cl_Toller,T.na_Toller_put,rfl,l,xs,g,_,rfl,F5.sm _ _ hl,hds.same F5.sm,hg,YKN ha.1 p60,F5.pl,fun ab s H6 sz fx hab eH6=>?_⟩;have F6:=F5.new (o:=.dK (szD s)) hab rfl;rw[←eH6]at F6;have hab6:H6 ab=some (.dK (szD s)):=by rw[eH6];exact YD
  have hab0:=F5.sm.free hab;clear eH6;refine⟨_,rfl,x,C.Toller,dx,_,rfl,F6.hx,T.cl_Toller,T.na_Toller_bare,(show 5 < 1000 by decide),?_⟩;obtain⟨F7,k7⟩:=F6.set "bare" (.ref ab);have hab7:=k7 _ (.dK _) (fun _ z=>nomatch z) hab6;clear k7;revert F7 hab7;generalize upd H6 x (.ins C.Toller dx _)=H7;intro F7 hab7;refine fun ao hao=>?_
  have F8:=F7.new (o:=.dK []) hao rfl;have hab8:upd H7 ao (.dK []) ab=some (.dK (szD s)):=by rw[YH (YR hab7 hao)];exact hab7
  have hao8:upd H7 ao (.dK []) ao=some (.dK []):=YD;have nab:ab≠ao:=YR hab7 hao;have hao0:=F7.sm.free hao;clear hao;revert F8 hab8 hao8;generalize upd H7 ao (.dK [])=H8;intro F8 hab8 hao8;refine⟨_,rfl,x,C.Toller,dx,_,rfl,F8.hx,T.cl_Toller,T.na_Toller_over,(show 6 < 1000 by decide),?_⟩;obtain⟨F9,k9⟩:=F8.set "over" (.ref ao);have hab9:=k9 _ (.dK _) (fun _ z=>nomatch z) hab8;have hao9:=k9 _ (.dK _) (fun _ z=>nomatch z) hao8;clear k9;revert F9 hab9 hao9;generalize upd H8 x (.ins C.Toller dx _)=H9;intro F9 hab9 hao9;refine⟨YJw _,fun af haf=>?_⟩;have Fa:=F9.new (o:=.lst []) haf rfl;have haba:upd H9 af (.lst []) ab=some (.dK (szD s)):=by rw[YH (YR hab9 haf)];exact hab9
  have haoa:upd H9 af (.lst []) ao=some (.dK []):=by rw[YH (YR hao9 haf)];exact hao9
  have hafa:upd H9 af (.lst []) af=some (.lst []):=YD;have haf0:=F9.sm.free haf;clear haf;revert Fa haba haoa hafa;generalize upd H9 af (.lst [])=Ha;intro Fa haba haoa hafa;refine⟨_,rfl,x,C.Toller,dx,_,rfl,Fa.hx,T.cl_Toller,T.na_Toller_first,(show 7 < 1000 by decide),?_⟩;obtain⟨Fb,kb⟩:=Fa.set "first" (.ref af);have habb:=kb _ (.dK _) (fun _ z=>nomatch z) haba;have haob:=kb _ (.dK _) (fun _ z=>nomatch z) haoa;have hafb:=kb _ (.lst _) (fun _ z=>nomatch z) hafa;clear kb;revert Fb habb haob hafb;generalize upd Ha x (.ins C.Toller dx _)=Hb;intro Fb habb haob hafb;have pre:YBf C.Toller ⟨C.Toller,x,dx,l,ab,ao,af,xs,g,t,t.length,a * M60,b * M60,d * M60,s,g.length⟩:=
   ⟨rfl,hg,sz,fx,ht,rfl,rfl,(mul' b hb),YKN hb.1 p60,YKN ha.1 p60,YKN hd.1 p60⟩
  exact⟨_,rfl,x,dx,_,rfl,Fb.hx,rfl,⟨C.Toller,x,dx,l,ab,ao,af,xs,g,t,t.length,a * M60,b * M60,d * M60,s,g.length⟩,H0,rfl,pre,
   ⟨Fb.hx,Fb.sm,Fb.pl,habb,haob,nab,hafb,hx0,hab0,hao0,haf0,hl,hds⟩,fun own ps H' st po=>q _ own ps H' pre rfl rfl rfl rfl rfl rfl hao0 st po⟩
end
theorem Xg:(["one","other"]:List Str).Nodup:=by decide +kernel
theorem YHt {K:W.Frag}{a b:Addr}{xs ys:List V}{H:Hp} (h:SqL K H a xs) (h2:SqL K H b ys) (hl:xs.length=ys.length):YF5 (Itz K a b) xs.length H fun i v H3=>∃T x y,v=.ref T∧H3 T=some (.tup [x,y])∧xs[i]?=some x∧ys[i]?=some y:=fun i H' s p=>by
 have h':=s.seq h;have h2':=s.seq h2;refine⟨fun hi=>⟨⟨xs,ys,xs[i],ys[i],h',h2',by simp[hi],by simp[hl ▸ hi]⟩,fun x H3 y=>?_⟩,⟨xs,ys,h',h2',.inl (YJP _)⟩⟩;obtain⟨T,hT,rfl,k⟩:=y;obtain⟨x,y,hx,hy,rfl⟩:=k xs ys h' h2';exact⟨YL.upd hT,p.upd rfl,T,x,y,rfl,YD,hx,hy⟩
theorem YDl {f:Nat→V}{k i j:Nat} (hj:j≤k):X3 ((List.range k).map f) (some (i:Int)) (some (j:Int))=(List.range (j - i)).map fun x=>f (i + x):=by
 unfold X3;rw[HT.sIx_nat,HT.sIx_nat,YJL,YJj,Nat.min_eq_left hj];apply YKs;intro x;rw[List.getElem?_take,List.getElem?_drop,YJQ,YJQ];rcases YJr x (j - i) with h |h
 ·have e:min i k=i:=by omega
  rw[e,if_pos h,YJ3 (by omega),YJ3 h];rfl
 ·rw[if_neg (by omega),YJy (by rw[YJj];exact h)];rfl
theorem YCf.part {g:ZF}{s:Sz}{ps:List Str} (h:YCf g s ps) {ρ:Y2} (hr:ρ∈g) {p:Str} (hp:p∈ρ.2.1) (hok:okP s p=true):p∈ps:=by
 cases hq:isQ p with
 |true=>exact h.2.2.2.1 ρ hr p hp hq
 |false=>
  unfold okP at hok;rw[hq,YKY]at hok;obtain⟨v,hv⟩:=YJv.mp hok;exact h.2.2.1 p v hv
def XF (K:Nat) (inn:Nat→Option Int):List V:=(List.range (K + 1)).map fun d=>oV (inn d)
theorem YHu (i:Nat) (inn:Nat→Option Int) (o:Option Int):XF i inn ++ [oV o]=XF (i + 1) (fun d=>if d=i + 1 then o else inn d):=by
 unfold XF;rw[List.range_succ (n:=i + 1),YJo];congr 1
 ·refine YKK fun d hd=>?_
  have:=YKG.mp hd;show oV (inn d)=oV (if d=i + 1 then o else inn d);rw[if_neg (by omega)]
 ·show _=[oV (if i + 1=i + 1 then o else inn (i + 1))];rw[if_pos rfl]
inductive YFZ (C:Addr) (vs:List V) (H:Hp) (Q:VK):Prop where
 |mk (T:Tol) (own:Addr→Option XE) (ps:List Str) (H0:Hp) (O:OvF) (F:FiF) (K:Nat→Nat→Nat→Nat) (r b m:Nat) (ρ:Y2) (h0_:vs=[.ref T.x,.int r,.int b,.int ((b + m:Nat):Int)]) (h1_:YBf C T) (h2_:TSt T own ps H0 H O F K) (h3_:YCf T.g T.s ps) (h4_:T.g[r]?=some ρ) (h5_:b + m≤T.n) (h6_:(∀d,d≤rch T.s ρ.2.1→K r d b=m)) (h7_:∀a H' inn,YFD T.s O (fun d k=>F r d b k) inn ρ.2.1 b m→H a=none→YL H H'→YS H'→H' a=some (.lst (XF (rch T.s ρ.2.1) inn))→Q (.ref a) H'):YFZ C vs H Q
def YG6 (C:Addr):Sp:=fun vs H Q E_=>YFZ C vs H Q
theorem YEP {i:Nat}{v:V}{t u:TS}{D:YAf}{σ:St}{H:Hp} (M:St→Hp→Prop) (rest:∀σ' H',M σ' H'→u D σ' H') (h:(∀σ' H',M σ' H'→u D σ' H')→t { D with nx:=u D } (σ.set i (some v)) H):YDA i v σ H fun σ2 H2=>tSeq t u D σ2 H2:=h rest
def Jg (R:Nat) (L:Nat→Int):List V:=((List.range (R + 1)).map L).map V.int
theorem YHv (R:Nat) (L:Nat→Int):Jg (R + 1) L=Jg R L ++ [V.int (L (R + 1))]:=by
 unfold Jg;rw[List.range_succ (n:=R + 1),YJo,YJo];rfl
theorem YBg (R:Nat) (L:Nat→Int):atI (Jg R L) (-1)=some (.int (L R)):=by
 unfold Jg;rw[List.range_succ,YJo,YJo];exact YIN _ _
inductive YDm (C:Addr) (vs:List V) (H:Hp) (Q:VK):Prop where
 |mk (T:Tol) (own:Addr→Option XE) (ps:List Str) (H0:Hp) (O:OvF) (F:FiF) (K:Nat→Nat→Nat→Nat) (r b m:Nat) (ρ:Y2) (ai:Addr) (inn:Nat→Option Int) (h0_:vs=[.ref T.x,.int r,.int b,.int ((b + m:Nat):Int),.ref ai]) (h1_:YBf C T) (h2_:TSt T own ps H0 H O F K) (h3_:YCf T.g T.s ps) (h4_:T.g[r]?=some ρ) (h5_:b + m≤T.n) (h6_:(∀d,d≤rch T.s ρ.2.1→K r d b=m)) (h7_:H ai=some (.lst (XF (rch T.s ρ.2.1) inn))) (h8_:∀a H',H a=none→YL H H'→YS H'→H' a=some (.lst (Jg (rch T.s ρ.2.1) (Y3 T.cut O (fun d k=>F r d b k) inn ρ.2.1 b (b + m))))→Q (.ref a) H'):YDm C vs H Q
def YFa (C:Addr):Sp:=fun vs H Q E_=>YDm C vs H Q
inductive YFb (C:Addr) (vs:List V) (H:Hp) (Q:VK):Prop where
 |mk (T:Tol) (own:Addr→Option XE) (ps:List Str) (H0:Hp) (O:OvF) (F:FiF) (K:Nat→Nat→Nat→Nat) (r b e:Nat) (ρ:Y2) (a:Addr) (L:Nat→Int) (h0_:vs=[.ref T.x,.int r,.int b,.int e,.ref a]) (h1_:YBf C T) (h2_:TSt T own ps H0 H O F K) (h3_:YCf T.g T.s ps) (h4_:T.g[r]?=some ρ) (h5_:b≤e) (h6_:e≤T.n) (h7_:H a=some (.lst (Jg (rch T.s ρ.2.1) L))) (h8_:((rch T.s ρ.2.1 < ρ.2.1.length∨O ρ.1 b e≤L (rch T.s ρ.2.1))→Q (.bl false) H)) (h9_:(rch T.s ρ.2.1=ρ.2.1.length→L (rch T.s ρ.2.1) < O ρ.1 b e→∀H',TSt T own ps H0 H' (upO O ρ.1 b e (L (rch T.s ρ.2.1))) F K→(∀c o,own c=none→H c=some o→H' c=some o)→Q (.bl true) H')):YFb C vs H Q
def YG7 (C:Addr):Sp:=fun vs H Q E_=>YFb C vs H Q
section
variable {P:Program}{w:World}{K:W.Frag}{mg:Str→Option Value}{base:Heap}{C:Adr}
theorem Yp:YV ["self","number","begin","end","found","table","done","ahead","behind"] ["self","number","begin","end"] (YJ Zp):=⟨rfl,rfl,rfl,by decide +kernel,rfl,by decide +kernel,by decide +kernel⟩
theorem X4 {f:Addr}{fd:FuncData} (F:Fun K "inner_tolls" "Toller.inner_tolls" Zp f fd) (T:Txt K mg C):Yr P w K mg base CX0 1 f fd ["self","number","begin","end"] (YG6 C.Toller):=by
 refine F.ok Yp (fun vs H Q E h=>?_) (fun cdv A outer s H vs Q E hr h=>?_)
 ·cases h;subst_vars;rfl
 ·obtain⟨S,own,ps,H0,O,FF,KK,r,b,m,ρ,rfl,pre,st,pso,hr',hbm,hK,q⟩:=h;have hu:=Jd hr;refine⟨_,(YE (YM (i:=4) Yp.nd rfl (Or.inl rfl) (Z8 (YA X6 YB)))
   (YE (YM (i:=5) Yp.nd rfl (Or.inl rfl) (YQ (YY K rfl) (Yc K rfl (pv 0) rfl) (pv 1) (fun _ _=>rfl)))
   (YE (Yi PassesOwn.never rfl (XS rfl T.z_range (YA YC (YA (YK (YT K rfl) (by rfl) T.z_len YJT (YA (pv 5) YB)) YB))) (YN (i:=6) Yp.nd rfl (Or.inl rfl)) (YE (YM (i:=7) Yp.nd rfl (Or.inl rfl) (Zd (Je K rfl) (YQ (YY K rfl) (YQ (YY K rfl) (pv 5) (YI Z2 (pv 6) YC) (fun _ _=>rfl)) (pv 2) (fun _ _=>rfl)) (ZP YC) (ZP (YI Z2 (pv 3) (pv 2)))))
   (YE (YM (i:=8) Yp.nd rfl (Or.inl rfl) (Zd (Je K rfl) (YQ (YY K rfl) (ZK hu (Yc K rfl (pv 0) rfl) (YQ (Ya K rfl) (YQ (Ya K rfl) (YQ (YY K rfl) (Yc K rfl (pv 0) rfl) (pv 1) (fun _ _=>rfl)) YC (fun _ _=>rfl)) (YI Z2 (pv 6) YC) (fun _ _=>rfl)) (fun _ _=>rfl)) (pv 3) (fun _ _=>rfl)) (ZP (YI Yb (pv 2) YC)) (ZP (pv 3))))
   (YF (ZV (JB K rfl YJx YJ0 YJz ZD (pv 4) (YA (pe_minD K rfl rfl (by rfl) T.z_min YKC (YA (Z0 (N:=["one","other"]) (ρ:=[none,none]) (cl:=[]) rfl (Yh.plain rfl (by decide +kernel) (by decide +kernel) rfl (by simp)) (pi_zip2 K rfl rfl T.z_zip (YA (pv 7) (YA (pv 8) YB))) (fun _ _ _ _ _=>(Jq K rfl (n:=2) rfl (Yx (YN (i:=0) Xg rfl (Or.inl rfl) (.inr rfl)) (Yx (YN (i:=1) Xg rfl (Or.inl rfl) (.inr rfl)) Jp)))) (fun _ _ _ _ _=>Zj) (fun _ _ _ _ _=>(YI Yb (pv 0) (pv 1)))) YB) (YGh X6 YIJ)) YB)))))))
   (YF (YX (pv 4)))))),?_⟩
  have line:∀k:Nat,k≤61→k≤sizeLine:=fun k hk=>YJt hk (YG (by decide))
  have hn:=pre.n;have hrm:=YJS hr';have hrl:=(YJM.mp hr').1;have h6:=(JS pre.g hrm).2.1;have hr6:=J2 S.s ρ.2.1;have hx:H S.x=some (.ins C.Toller S.dx S.fld):=by rw[←pre.c];exact st.hx
  obtain⟨ts,t,ds,haf,at1,ht,hdl,hcell⟩:=st.fi hr' (by rw[pre.r];exact hrl);obtain⟨xv,exv⟩:∃xv,S.xs[r]?=some xv:=⟨_,YJR (by rw[st.hds.len,YJL];exact hrl)⟩;obtain⟨ρ',tt,pp,er,rfl,htt,hpp⟩:=Xo st.hds exv;rw[hr']at er;cases er;refine⟨line _ (by decide),fun a ha=>?_⟩;have s1:=YL.upd (o:=.lst [V.non]) ha;refine⟨_,rfl,S.x,C.Toller,S.dx,_,_,rfl,s1 _ _ hx,T.cl_Toller,T.na_Toller_first,rfl,_,rfl,S.af,_,_,_,rfl,rfl,SqL.of (s1 _ _ haf),at1,?_⟩;refine⟨_,rfl,t,_,rfl,.inl (SqL.of (s1 _ _ ht)),1,((rch S.s ρ.2.1 + 1:Nat):Int),by rw[YJL,hdl],⟨by decide,by decide,by omega,by omega⟩,?_⟩;refine Y0 (lo:=1) (n:=((rch S.s ρ.2.1 + 1:Nat) - 1:Int).toNat) (fun i σ H2=>∃inn v6 v7 v8,σ=[some (.ref S.x),some (.int r),some (.int b),some (.int ((b + m:Nat):Int)),some (.ref a),some (.ref t),v6,v7,v8]∧YL H H2∧YS H2∧H2 a=some (.lst (XF i inn))∧inn 0=none∧
    ∀(d:Nat) (p:Str),d < i→ρ.2.1[d]?=some p→(∀k,1≤k→k < m→∃v,inn (d + 1)=some v∧v≤FF r d b k + O p (b + k) (b + m))∧∀v,inn (d + 1)=some v→∃k,1≤k∧k < m∧v=FF r d b k + O p (b + k) (b + m))
   ⟨fun _=>none,none,none,none,rfl,s1,st.pl.upd rfl,YD,rfl,fun d p h=>absurd h (YK5 _)⟩ ?_ ?_
  ·rintro i σ H2 hi ⟨inn,v6,v7,v8,rfl,s2,p2,h2,hi0,hinn⟩;have hi:i < rch S.s ρ.2.1:=by omega
   obtain⟨p,ep,hokp⟩:=J3 hi;obtain⟨u,es,c,at2,hu2,at3,hc1,hc⟩:=hcell i (by omega) b (by omega);have hpm:=YJS ep;have hpps:=pso.part hrm hpm hokp;have ei:(1 + (i:Int)) - 1=(i:Int):=by omega
   refine⟨_,rfl,_,rfl,_,_,rfl,rfl,t,_,_,_,rfl,rfl,SqL.of (s2 _ _ ht),by rw[ei];exact at2,_,rfl,u,_,_,_,rfl,rfl,SqL.of (s2 _ _ hu2),at3,((1:Nat):Int),rfl,_,rfl,_,rfl,_,_,rfl,rfl,(m:Int),by rw[show((b + m:Nat):Int) - (b:Int)=(m:Int) by omega],c,_,rfl,SqL.of (s2 _ _ hc),fun c1 hc1'=>?_⟩;have e1:X3 ((fiR FF r i b (KK r i b)).map V.int) (some ((1:Nat):Int)) (some (m:Int))=((List.range (m - 1)).map fun x=>FF r i b (1 + x)).map V.int:=by
    unfold fiR;rw[hK i (by omega),YKk,YDl (YJP m),YKk];rfl
   rw[e1];have s3:=s2.trans (YL.upd (o:=.lst (((List.range (m - 1)).map fun x=>FF r i b (1 + x)).map V.int)) hc1');have p3:YS (upd H2 c1 (.lst (((List.range (m - 1)).map fun x=>FF r i b (1 + x)).map V.int))):=p2.upd rfl;have h3:upd H2 c1 (.lst (((List.range (m - 1)).map fun x=>FF r i b (1 + x)).map V.int)) a=some (.lst (XF i inn)):=by rw[YH (YR h2 hc1')];exact h2
   have hc13:upd H2 c1 (.lst (((List.range (m - 1)).map fun x=>FF r i b (1 + x)).map V.int)) c1=some (.lst (((List.range (m - 1)).map fun x=>FF r i b (1 + x)).map V.int)):=YD;revert s3 p3 h3 hc13;generalize upd H2 c1 (.lst (((List.range (m - 1)).map fun x=>FF r i b (1 + x)).map V.int))=H3;intro s3 p3 h3 hc13;have st3:=st.same s3 p3;obtain⟨a',bs,cc,dg,ha',at4,hcc1,hcc⟩:=st3.ov hpps hbm;refine⟨_,rfl,S.x,C.Toller,S.dx,_,_,rfl,s3 _ _ hx,T.cl_Toller,T.na_Toller_over,rfl,_,rfl,S.x,C.Toller,S.dx,_,_,rfl,s3 _ _ hx,T.cl_Toller,T.na_Toller_rules,rfl,_,rfl,S.l,_,_,_,rfl,rfl,SqL.of (st3.sm _ _ st.hl),Yy exv,tt,_,1,_,rfl,rfl,SqT.of (st3.sm _ _ htt),rfl,_,rfl,_,_,rfl,rfl,pp,_,_,_,rfl,rfl,SqT.of (st3.sm _ _ hpp),(by rw[ei];exact Yy (by rw[YJQ,ep];rfl)),S.ao,_,rfl,dg,_,rfl,a',_,_,_,rfl,rfl,SqL.of ha',at4,_,rfl,_,_,rfl,rfl,((b + 1:Nat):Int),rfl,_,rfl,_,rfl,cc,_,rfl,SqL.of hcc,fun c2 hc2=>?_⟩;have e2:X3 ((ovR O p (b + m)).map V.int) (some ((b + 1:Nat):Int)) (some ((b + m:Nat):Int))=((List.range (m - 1)).map fun x=>O p (b + 1 + x) (b + m)).map V.int:=by
    unfold ovR;rw[YKk,YDl (YKc _),YKk,show b + m - (b + 1)=m - 1 by omega];rfl
   rw[e2];have s4:=s3.trans (YL.upd (o:=.lst (((List.range (m - 1)).map fun x=>O p (b + 1 + x) (b + m)).map V.int)) hc2);have p4:YS (upd H3 c2 (.lst (((List.range (m - 1)).map fun x=>O p (b + 1 + x) (b + m)).map V.int))):=p3.upd rfl;have h4:upd H3 c2 (.lst (((List.range (m - 1)).map fun x=>O p (b + 1 + x) (b + m)).map V.int)) a=some (.lst (XF i inn)):=by rw[YH (YR h3 hc2)];exact h3
   have hc14:upd H3 c2 (.lst (((List.range (m - 1)).map fun x=>O p (b + 1 + x) (b + m)).map V.int)) c1=some (.lst (((List.range (m - 1)).map fun x=>FF r i b (1 + x)).map V.int)):=by rw[YH (YR hc13 hc2)];exact hc13
   have hc24:upd H3 c2 (.lst (((List.range (m - 1)).map fun x=>O p (b + 1 + x) (b + m)).map V.int)) c2=some (.lst (((List.range (m - 1)).map fun x=>O p (b + 1 + x) (b + m)).map V.int)):=YD;revert s4 p4 h4 hc14 hc24;generalize upd H3 c2 (.lst (((List.range (m - 1)).map fun x=>O p (b + 1 + x) (b + m)).map V.int))=H4;intro s4 p4 h4 hc14 hc24;have lx:(((List.range (m - 1)).map fun x=>FF r i b (1 + x)).map V.int).length=m - 1:=by rw[YJL,YJL,YJj]
   have ly:(((List.range (m - 1)).map fun x=>O p (b + 1 + x) (b + m)).map V.int).length=m - 1:=by rw[YJL,YJL,YJj]
   refine⟨_,rfl,.inl ⟨rfl,_,SqL.of h4⟩,_,rfl,_,rfl,c1,c2,_,_,rfl,SqL.of hc14,SqL.of hc24,fun l hl=>?_⟩;have gz:=YHt (SqL.of (K:=K) hc14) (SqL.of hc24) (by rw[lx,ly]);rw[lx]at gz;refine comp_fm (List.range (m - 1)) (fun j=>some (V.int (FF r i b (1 + j) + O p (b + 1 + j) (b + m)))) (by rw[YJj];exact gz) p4 hl (line _ (by rw[YJj];omega)) (fun τ'=>τ'.length=2) rfl ?_ ?_
   ·rintro τ' k d y H' Q1 Q2 hk hd ⟨T',x1,y1,rfl,hT,ex,ey⟩ hs hp' hQ1 hQ2;have hkd:d=k:=by
     have:=(YJM.mp hd).2;rw[List.getElem_range]at this;exact this.symm
    subst hkd;have hkm:d < m - 1:=by
     have:=(YJM.mp hd).1
     rwa [YJj]at this
    rw[YJQ,YJQ,YJ3 hkm]at ex ey;cases ex;cases ey;obtain⟨τa,τb,rfl⟩:∃τa τb,τ'=[τa,τb]:=by
     match τ',hk with
     |[x,y],_=>exact⟨x,y,rfl⟩
    refine⟨T',_,rfl,SqT.of hT,rfl,_,_,rfl,_,_,rfl,rfl,?_⟩;show tOp (rI0 _) (tVar 0) (tVar 1) _ _ _;exact⟨_,rfl,_,rfl,_,_,rfl,rfl,hQ1 _ _ _ rfl (YL.refl _) hp' rfl⟩
   ·intro H5 s5 p5 h5;have ef:(List.range (m - 1)).filterMap (fun j=>some (V.int (FF r i b (1 + j) + O p (b + 1 + j) (b + m))))=((List.range (m - 1)).map fun j=>FF r i b (1 + j) + O p (b + 1 + j) (b + m)).map V.int:=by
     rw[YKk,←List.filterMap_eq_map];rfl
    rw[ef]at h5;have fin:∀o:Option Int,(∀k,1≤k→k < m→∃v,o=some v∧v≤FF r i b k + O p (b + k) (b + m))→(∀v,o=some v→∃k,1≤k∧k < m∧v=FF r i b k + O p (b + k) (b + m))→
      YD7 (.ref a) [oV o] H5 fun _ H1=>∃inn v6 v7 v8,[some (V.ref S.x),some (.int r),some (.int b),some (.int ((b + m:Nat):Int)),some (.ref a),some (.ref t),some (.int (1 + (i:Int))),some (.ref c1),some (.ref c2)]=[some (V.ref S.x),some (.int r),some (.int b),some (.int ((b + m:Nat):Int)),some (.ref a),some (.ref t),v6,v7,v8]∧YL H H1∧YS H1∧H1 a=some (.lst (XF (i + 1) inn))∧inn 0=none∧
       ∀(d:Nat) (p:Str),d < i + 1→ρ.2.1[d]?=some p→(∀k,1≤k→k < m→∃v,inn (d + 1)=some v∧v≤FF r d b k + O p (b + k) (b + m))∧∀v,inn (d + 1)=some v→∃k,1≤k∧k < m∧v=FF r d b k + O p (b + k) (b + m):=fun o o1 o2=>by
     refine⟨a,_,_,rfl,rfl,s5 _ _ h4,YJY (show(XF i inn).length < 1000 by unfold XF;rw[YJL,YJj];omega) (YG (YJP _)),?_⟩;rw[YHu];refine⟨_,_,_,_,rfl,(s4.trans s5).put ha,p5.upd rfl,YD,by rw[if_neg (by omega)];exact hi0,fun d p' hd ep'=>?_⟩;rcases YJr d i with h |h
     ·rw[if_neg (by omega)];exact hinn d p' h ep'
     ·have:d=i:=by omega
      subst this;rw[ep]at ep';cases ep';rw[if_pos rfl];exact⟨o1,o2⟩
    refine⟨l,_,.non,rfl,rfl,SqL.of h5,fun hnil=>?_,fun v hv hmin=>?_⟩
    ·refine fin none (fun k h1 h2=>?_) fun v e=>nomatch e
     have:=YKV List.length hnil;rw[YJL,YJj]at this;simp only[YKa]at this;omega
    ·obtain⟨j,hj,rfl⟩:=YJh.mp hv;have hj:=YKG.mp hj;have e3:∀k,1≤k→FF r i b (1 + (k - 1)) + O p (b + 1 + (k - 1)) (b + m)=FF r i b k + O p (b + k) (b + m):=fun k hk=>by rw[show 1 + (k - 1)=k by omega,show b + 1 + (k - 1)=b + k by omega]
     refine fin (some _) (fun k h1 h2=>⟨_,rfl,?_⟩) fun v e=>?_
     ·rw[←e3 k h1];exact hmin _ (YJh.mpr ⟨k - 1,YKG.mpr (by omega),rfl⟩)
     ·cases e;exact⟨1 + j,by omega,by omega,by rw[show b + 1 + j=b + (1 + j) by omega]⟩
  ·rintro σ H2 ⟨inn,v6,v7,v8,rfl,s2,p2,h2,hi0,hinn⟩;have eR:((rch S.s ρ.2.1 + 1:Nat) - 1:Int).toNat=rch S.s ρ.2.1:=by omega
   rw[eR]at h2 hinn;exact⟨_,rfl,q a H2 inn (fun d p hd ep=>hinn d p hd ep) ha s2 p2 h2⟩
theorem Yo:YV ["self","number","begin","end","inner","table","line","done","part","toll"] ["self","number","begin","end","inner"] (YJ JR):=⟨rfl,rfl,rfl,by decide +kernel,rfl,by decide +kernel,by decide +kernel⟩
theorem YBH {f:Addr}{fd:FuncData} (F:Fun K "line_of" "Toller.line_of" JR f fd) (T:Txt K mg C):Yr P w K mg base CX0 1 f fd ["self","number","begin","end","inner"] (YFa C.Toller):=by
 refine F.ok Yo (fun vs H Q E h=>?_) (fun cdv A outer s H vs Q E hr h=>?_)
 ·cases h;subst_vars;rfl
 ·obtain⟨S,own,ps,H0,O,FF,KK,r,b,m,ρ,ai,inn,rfl,pre,st,pso,hr',hbm,hK,hai,q⟩:=h;have hu:=Jd hr;refine⟨_,(YE (YM (i:=5) Yo.nd rfl (Or.inl rfl) (YQ (YY K rfl) (Yc K rfl (pv 0) rfl) (pv 1) (fun _ _=>rfl)))
   (YE (YM (i:=6) Yo.nd rfl (Or.inl rfl) (Z8 (YA (YI Yb (YI Xm (YI Z2 (pv 3) (pv 2)) (Yc K rfl (pv 0) rfl)) YC) YB)))
   (YE (Yi PassesOwn.never rfl (XS rfl T.z_range (YA YC (YA (YK (YT K rfl) (by rfl) T.z_len YJT (YA (pv 5) YB)) YB))) (YN (i:=7) Yo.nd rfl (Or.inl rfl)) (YE (YM (i:=8) Yo.nd rfl (Or.inl rfl) (YQ (YY K rfl) (ZK hu (Yc K rfl (pv 0) rfl) (YQ (Ya K rfl) (YQ (Ya K rfl) (YQ (YY K rfl) (Yc K rfl (pv 0) rfl) (pv 1) (fun _ _=>rfl)) YC (fun _ _=>rfl)) (YI Z2 (pv 7) YC) (fun _ _=>rfl)) (fun _ _=>rfl)) (pv 3) (fun _ _=>rfl)))
   (YE (YM (i:=9) Yo.nd rfl (Or.inl rfl) (YI Yb (YQ (YY K rfl) (pv 6) (pe_un YFu YC) (fun _ _=>rfl)) (YQ (YY K rfl) (pv 8) (pv 3) (fun _ _=>rfl))))
   (YE (ZB (Y1 op_lt (pv 2) (pv 3) (Yv _)) (YF (YM (i:=9) Yo.nd rfl (Or.inl rfl) (YK (YAV rfl) (by rfl) T.z_min YKC (YA (pv 9) (YA (YI Yb (YQ (YY K rfl) (YQ (YY K rfl) (YQ (YY K rfl) (pv 5) (YI Z2 (pv 7) YC) (fun _ _=>rfl)) (pv 2) (fun _ _=>rfl)) YC (fun _ _=>rfl)) (YQ (YY K rfl) (pv 8) (pv 2) (fun _ _=>rfl))) YB))))) Yg)
   (YE (ZB (Y1 YD1 (YQ (YY K rfl) (pv 4) (pv 7) (fun _ _=>rfl)) X6 (Yv _)) (YF (YM (i:=9) Yo.nd rfl (Or.inl rfl) (YK (YAV rfl) (by rfl) T.z_min YKC (YA (pv 9) (YA (YQ (YY K rfl) (pv 4) (pv 7) (fun _ _=>rfl)) YB))))) Yg)
   (YF (ZV (JB K rfl YJx YJ0 YJz ZD (pv 6) (YA (pv 9) YB)))))))))
   (YF (YX (pv 6)))))),?_⟩
  have line:∀k:Nat,k≤61→k≤sizeLine:=fun k hk=>YJt hk (YG (by decide))
  have hn:=pre.n;have hrm:=YJS hr';have hrl:=(YJM.mp hr').1;have h6:=(JS pre.g hrm).2.1;have hr6:=J2 S.s ρ.2.1;have hx:H S.x=some (.ins C.Toller S.dx S.fld):=by rw[←pre.c];exact st.hx
  obtain⟨ts,t,ds,haf,at1,ht,hdl,hcell⟩:=st.fi hr' (by rw[pre.r];exact hrl);obtain⟨xv,exv⟩:∃xv,S.xs[r]?=some xv:=⟨_,YJR (by rw[st.hds.len,YJL];exact hrl)⟩;obtain⟨ρ',tt,pp,er,rfl,htt,hpp⟩:=Xo st.hds exv;rw[hr']at er;cases er;have hlt:∀i:Int,0≤i→i≤60→i.natAbs < 2 ^ 4000:=fun i h1 h2=>YK0 (show i.natAbs≤60 by omega) (YJY (by decide:60 < 2 ^ 6) (Nat.pow_le_pow_right (by decide) (by decide)))
  refine⟨_,rfl,S.x,C.Toller,S.dx,_,_,rfl,hx,T.cl_Toller,T.na_Toller_first,rfl,_,rfl,S.af,_,_,_,rfl,rfl,SqL.of haf,at1,?_⟩;refine⟨_,rfl,_,rfl,_,_,rfl,rfl,_,rfl,S.x,C.Toller,S.dx,_,_,rfl,hx,T.cl_Toller,T.na_Toller_cut,rfl,_,_,rfl,rfl,⟨hlt _ (by omega) (by omega),pre.cut⟩,_,_,rfl,rfl,line 1 (by decide),fun a ha=>?_⟩;obtain⟨L,eL⟩:∃L,Y3 S.cut O (fun d k=>FF r d b k) inn ρ.2.1 b (b + m)=L:=⟨_,rfl⟩;rw[eL]at q;have s1:=YL.upd (o:=.lst (Jg 0 L)) ha;have p1:YS (upd H a (.lst (Jg 0 L))):=st.pl.upd rfl;have e0:[V.int ((((b + m:Nat):Int) - (b:Int)) * S.cut + 1)]=Jg 0 L:=by rw[←eL];rfl
  rw[e0];have h1:upd H a (.lst (Jg 0 L)) a=some (.lst (Jg 0 L)):=YD;revert s1 p1 h1;generalize upd H a (.lst (Jg 0 L))=H1;intro s1 p1 h1;refine⟨_,rfl,t,_,rfl,.inl (SqL.of (s1 _ _ ht)),1,((rch S.s ρ.2.1 + 1:Nat):Int),by rw[YJL,hdl],⟨by decide,by decide,by omega,by omega⟩,?_⟩;refine Y0 (lo:=1) (n:=((rch S.s ρ.2.1 + 1:Nat) - 1:Int).toNat) (fun i σ H2=>∃v7 v8 v9,σ=[some (.ref S.x),some (.int r),some (.int b),some (.int ((b + m:Nat):Int)),some (.ref ai),some (.ref t),some (.ref a),v7,v8,v9]∧YL H H2∧YS H2∧H2 a=some (.lst (Jg i L)))
   ⟨none,none,none,rfl,s1,p1,h1⟩ ?_ ?_
  ·rintro i σ H2 hi ⟨v7,v8,v9,rfl,s2,p2,h2⟩;have hi:i < rch S.s ρ.2.1:=by omega
   obtain⟨p,ep,hokp⟩:=J3 hi;obtain⟨u,es,c,at2,hu2,at3,hc1,hc⟩:=hcell i (by omega) b (by omega);have hpm:=YJS ep;have hpps:=pso.part hrm hpm hokp;have ei:(1 + (i:Int)) - 1=(i:Int):=by omega
   have st2:=st.same s2 p2;obtain⟨a',bs,cc,dg,ha',at4,hcc1,hcc⟩:=st2.ov hpps hbm;have oat:∀k,k≤b + m→atI ((ovR O p (b + m)).map V.int) (k:Int)=some (.int (O p k (b + m))):=fun k hk=>Yy (by
    unfold ovR;rw[YJQ,YJQ,YJ3 (by omega)];rfl)
   have eLs:L (i + 1)=YBD (if b < b + m then (if FF r i b 0 + O p b (b + m) < L i + O p (b + m) (b + m) then FF r i b 0 + O p b (b + m) else L i + O p (b + m) (b + m)) else L i + O p (b + m) (b + m)) (inn (i + 1)):=by
    have epp:prt ρ.2.1 i=p:=by unfold prt;rw[ep];rfl
    rw[←eL,JP,epp]
   refine⟨_,rfl,S.x,C.Toller,S.dx,_,_,rfl,s2 _ _ hx,T.cl_Toller,T.na_Toller_over,rfl,_,rfl,S.x,C.Toller,S.dx,_,_,rfl,s2 _ _ hx,T.cl_Toller,T.na_Toller_rules,rfl,_,rfl,S.l,_,_,_,rfl,rfl,SqL.of (st2.sm _ _ st.hl),Yy exv,tt,_,1,_,rfl,rfl,SqT.of (st2.sm _ _ htt),rfl,_,rfl,_,_,rfl,rfl,pp,_,_,_,rfl,rfl,SqT.of (st2.sm _ _ hpp),(by rw[ei];exact Yy (by rw[YJQ,ep];rfl)),S.ao,_,rfl,dg,_,rfl,a',_,_,_,rfl,rfl,SqL.of ha',at4,?_⟩;refine⟨_,rfl,1,rfl,a,_,_,_,rfl,rfl,SqL.of h2,YBg i L,_,rfl,_,rfl,cc,_,_,_,rfl,rfl,SqL.of hcc,oat (b + m) (YJP _),_,_,rfl,rfl,?_⟩;have last:∀(x:Int) (v:Option V),x=(if b < b + m then (if FF r i b 0 + O p b (b + m) < L i + O p (b + m) (b + m) then FF r i b 0 + O p b (b + m) else L i + O p (b + m) (b + m)) else L i + O p (b + m) (b + m))→
     YD7 (.ref a) [V.int (YBD x (inn (i + 1)))] H2 fun _ H1=>∃v7 v8 v9,[some (V.ref S.x),some (.int r),some (.int b),some (.int ((b + m:Nat):Int)),some (.ref ai),some (.ref t),some (.ref a),some (.int (1 + (i:Int))),some (.ref cc),some (.int (YBD x (inn (i + 1))))]=[some (V.ref S.x),some (.int r),some (.int b),some (.int ((b + m:Nat):Int)),some (.ref ai),some (.ref t),some (.ref a),v7,v8,v9]∧YL H H1∧YS H1∧H1 a=some (.lst (Jg (i + 1) L)):=fun x v hx=>by
    refine⟨a,_,_,rfl,rfl,h2,YJY (show(Jg i L).length < 1000 by unfold Jg;rw[YJL,YJL,YJj];omega) (YG (YJP _)),?_⟩;have e:L (i + 1)=YBD x (inn (i + 1)):=by rw[eLs,hx]
    rw[←e,←YHv];exact⟨_,_,_,rfl,s2.put ha,p2.upd rfl,YD⟩
   have iat:atI (XF (rch S.s ρ.2.1) inn) (1 + (i:Int))=some (oV (inn (i + 1))):=by
    rw[show 1 + (i:Int)=((i + 1:Nat):Int) by omega];refine Yy ?_;unfold XF;rw[YJQ,YJ3 (by omega)];rfl
   with_reducible refine YEP (fun σ' H'=>H'=H2∧∃x,x=(if b < b + m then (if FF r i b 0 + O p b (b + m) < L i + O p (b + m) (b + m) then FF r i b 0 + O p b (b + m) else L i + O p (b + m) (b + m)) else L i + O p (b + m) (b + m))∧σ'=[some (.ref S.x),some (.int r),some (.int b),some (.int ((b + m:Nat):Int)),some (.ref ai),some (.ref t),some (.ref a),some (.int (1 + (i:Int))),some (.ref cc),some (.int x)]) ?_ fun restK=>?_
   ·rintro σ' H' ⟨rfl,x,hx',rfl⟩;refine⟨_,rfl,_,rfl,ai,_,_,_,rfl,rfl,SqL.of (s2 _ _ hai),iat,rfl,_,rfl,?_⟩;have last:=last x none hx';cases hin:inn (i + 1) with
    |none=>
     rw[hin]at last;refine ZU ?_;exact⟨_,rfl,.inl ⟨rfl,_,SqL.of h2⟩,_,rfl,last⟩
    |some y=>
     rw[hin]at last iat;refine Zo ?_;refine⟨_,rfl,_,rfl,_,rfl,ai,_,_,_,rfl,rfl,SqL.of (s2 _ _ hai),iat,_,_,rfl,?_⟩;exact⟨_,rfl,.inl ⟨rfl,_,SqL.of h2⟩,_,rfl,last⟩
   ·refine⟨_,rfl,_,rfl,_,_,rfl,rfl,_,rfl,?_⟩;refine Jx (fun hb=>?_) fun hb=>?_
    ·have hb:(b:Int) < ((b + m:Nat):Int):=YJm hb;have fat:atI ((fiR FF r i b (KK r i b)).map V.int) 0=some (.int (FF r i b 0)):=Yy (j:=0) (by
      unfold fiR;rw[hK i (by omega),YJQ,YJQ,YJ3 (by omega)];rfl)
     refine⟨_,rfl,_,rfl,_,rfl,_,_,rfl,rfl,t,_,_,_,rfl,rfl,SqL.of (s2 _ _ ht),by rw[ei];exact at2,_,rfl,u,_,_,_,rfl,rfl,SqL.of (s2 _ _ hu2),at3,c,_,0,_,rfl,rfl,SqL.of (s2 _ _ hc),fat,_,rfl,_,rfl,cc,_,_,_,rfl,rfl,SqL.of hcc,oat b (by omega),_,_,rfl,rfl,_,_,rfl,?_⟩;exact restK _ _ ⟨rfl,_,by rw[if_pos (show b < b + m by omega)],rfl⟩
    ·have hb:¬(b:Int) < ((b + m:Nat):Int):=fun z=>hb (YJU z)
     exact restK _ _ ⟨rfl,_,by rw[if_neg (show ¬b < b + m by omega)],rfl⟩
  ·rintro σ H2 ⟨v7,v8,v9,rfl,s2,p2,h2⟩;have eR:((rch S.s ρ.2.1 + 1:Nat) - 1:Int).toNat=rch S.s ρ.2.1:=by omega
   rw[eR]at h2;exact⟨_,rfl,q a H2 ha s2 p2 h2⟩
theorem Jh:YV ["self","number","begin","end","line","rule"] ["self","number","begin","end","line"] (YJ Zw):=⟨rfl,rfl,rfl,by decide +kernel,rfl,by decide +kernel,by decide +kernel⟩
theorem YAP {f:Addr}{fd:FuncData} (F:Fun K "lower_head" "Toller.lower_head" Zw f fd) (T:Txt K mg C):Yr P w K mg base CX0 1 f fd ["self","number","begin","end","line"] (YG7 C.Toller):=by
 refine F.ok Jh (fun vs H Q E h=>?_) (fun cdv A outer s H vs Q E hr h=>?_)
 ·cases h;subst_vars;rfl
 ·obtain⟨S,own,ps,H0,O,FF,KK,r,b,e,ρ,a,L,rfl,pre,st,pso,hr',hbe,hen,ha,q0,q1⟩:=h;have hu:=Jd hr;refine⟨_,(YE (YM (i:=5) Jh.nd rfl (Or.inl rfl) (YQ (YY K rfl) (Yc K rfl (pv 0) rfl) (pv 1) (fun _ _=>rfl)))
   (YE (ZB (PW.pt (YC9 (Y1 Xy (YK (YT K rfl) (by rfl) T.z_len YJT (YA (pv 4) YB)) (YK (YT K rfl) (by rfl) T.z_len YJT (YA (YQ (Ya K rfl) (pv 5) YC (fun _ _=>rfl)) YB)) (Yv _)) (YB7 (Y1 op_ge (YQ (YY K rfl) (pv 4) (pe_un YFu YC) (fun _ _=>rfl)) (YQ (YY K rfl) (YQ (YY K rfl) (ZK hu (Yc K rfl (pv 0) rfl) (YQ (Ya K rfl) (pv 5) YC (fun _ _=>rfl)) (fun _ _=>rfl)) (pv 3) (fun _ _=>rfl)) (pv 2) (fun _ _=>rfl)) (Yv _))))) (YF (YX Ja)) Yg)
   (YE (YFr (YQ (YY K rfl) (pv 4) (pe_un YFu YC) (fun _ _=>rfl)) (YH5 (YQ (YY K rfl) (ZK hu (Yc K rfl (pv 0) rfl) (YQ (Ya K rfl) (pv 5) YC (fun _ _=>rfl)) (fun _ _=>rfl)) (pv 3) (fun _ _=>rfl)) (pv 2) YEg))
   (YF (YX Ja))))),?_⟩
  have hrm:=YJS hr';have hrl:=(YJM.mp hr').1;have hr6:=J2 S.s ρ.2.1;have hx:H S.x=some (.ins C.Toller S.dx S.fld):=by rw[←pre.c];exact st.hx
  obtain⟨xv,exv⟩:∃xv,S.xs[r]?=some xv:=⟨_,YJR (by rw[st.hds.len,YJL];exact hrl)⟩;obtain⟨ρ',tt,pp,er,rfl,htt,hpp⟩:=Xo st.hds exv;rw[hr']at er;cases er;have htt:=st.sm _ _ htt;have hpp:=st.sm _ _ hpp;refine⟨_,rfl,S.x,C.Toller,S.dx,_,_,rfl,hx,T.cl_Toller,T.na_Toller_rules,rfl,_,rfl,S.l,_,_,_,rfl,rfl,SqL.of (st.sm _ _ st.hl),Yy exv,?_⟩;have ell:(Jg (rch S.s ρ.2.1) L).length=rch S.s ρ.2.1 + 1:=by unfold Jg;rw[YJL,YJL,YJj]
  refine⟨_,rfl,a,_,rfl,.inl (SqL.of ha),_,rfl,tt,_,1,_,rfl,rfl,SqT.of htt,rfl,pp,_,rfl,.inr (SqT.of hpp),_,_,rfl,rfl,_,rfl,?_⟩;rw[ell,YJL]
  by_cases hlt:rch S.s ρ.2.1 < ρ.2.1.length
  ·rw[YJU (show(((rch S.s ρ.2.1 + 1:Nat):Int)≤(ρ.2.1.length:Int)) by omega)];exact Zo (Zo (q0 (.inl hlt)))
  ·rw[YJV (show ¬(((rch S.s ρ.2.1 + 1:Nat):Int)≤(ρ.2.1.length:Int)) by omega)];have hfull:rch S.s ρ.2.1=ρ.2.1.length:=by omega
   have hh:∃v,look S.s ρ.1=some v:=by
    obtain⟨k,hk⟩:=YB3 (s:=S.s) (q:=S.put) (ps:=ρ.2.1) (a:=1) fun p hp=>by
     obtain⟨j,hj,ej⟩:=YKq.mp hp;obtain⟨p',e1,e2⟩:=J3 (s:=S.s) (ps:=ρ.2.1) (j:=j) (by omega);rw[YJR hj,ej]at e1;cases e1;exact e2
    obtain⟨v,hv,_⟩:=pre.fx ρ hrm k hk;exact⟨v,hv⟩
   obtain⟨v,hv⟩:=hh;have hps:=pso.2.2.1 _ v hv;obtain⟨a',bs,cc,dg,ha',at4,hcc1,hcc⟩:=st.ov hps hen;have oat:atI ((ovR O ρ.1 e).map V.int) (b:Int)=some (.int (O ρ.1 b e)):=Yy (by
    unfold ovR;rw[YJQ,YJQ,YJ3 (by omega)];rfl)
   refine ZU ⟨_,rfl,1,rfl,a,_,_,_,rfl,rfl,SqL.of ha,YBg _ L,_,rfl,S.x,C.Toller,S.dx,_,_,rfl,hx,T.cl_Toller,T.na_Toller_over,rfl,_,rfl,tt,_,0,_,rfl,rfl,SqT.of htt,rfl,S.ao,_,rfl,dg,_,rfl,a',_,_,_,rfl,rfl,SqL.of ha',at4,_,rfl,cc,_,_,_,rfl,rfl,SqL.of hcc,oat,_,_,rfl,rfl,_,rfl,?_⟩
   by_cases hge:O ρ.1 b e≤L (rch S.s ρ.2.1)
   ·rw[YJU hge];exact Zo (q0 (.inr hge))
   ·rw[YJV hge];refine ZU ?_;refine⟨_,rfl,1,rfl,a,_,_,_,rfl,rfl,SqL.of ha,YBg _ L,_,rfl,S.x,C.Toller,S.dx,_,_,rfl,hx,T.cl_Toller,T.na_Toller_over,rfl,_,rfl,tt,_,0,_,rfl,rfl,SqT.of htt,rfl,S.ao,_,rfl,dg,_,rfl,a',_,_,_,rfl,rfl,SqL.of ha',at4,_,rfl,cc,_,_,b,rfl,rfl,hcc,?_,?_⟩
    ·have hl:((ovR O ρ.1 e).map V.int).length=e + 1:=by unfold ovR;rw[YJL,YJL,YJj]
     rw[hl];unfold ixN;rw[if_pos (by omega)];simp;omega
    ·rw[←List.map_set];refine q1 hfull (by omega) _ (st.setO hbe hcc1 _) fun c o hc e'=>?_
     rw[YH (fun z=>by rw[z,hcc1]at hc;cases hc)];exact e'
end
structure Dn (T:Tol) (O:OvF) (F:FiF) (b m:Nat):Prop where
 f:EqF T.g T.s T.cut O F b m
 o:EqO T.g T.s O F b m
 le:∀h v,look T.s h=some v→O h b (b + m)≤v + m * T.cut
def DoneB (n m b:Nat) (b' m':Nat):Prop:=b' + m'≤n∧(m' < m∨(m'=m∧b' < b))
structure YBu (T:Tol) (O:OvF) (F:FiF) (m b:Nat):Prop where
 pos:∀p b e,0≤O p b e
 sg:∀p b e,isQ p=true→O p b e=sgT T.t T.put T.cut T.swap p b e
 dn:∀b' m',DoneB T.n m b b' m'→Dn T O F b' m'
def cnt (n m b b':Nat):Nat:=if b' + m≤n then (if b' < b then m + 1 else m) else n + 1 - b'
def KOk (T:Tol) (K:Nat→Nat→Nat→Nat) (m b:Nat):Prop:=∀(r:Nat) (ρ:Y2),T.g[r]?=some ρ→∀d,d≤rch T.s ρ.2.1→∀b',b'≤T.n→K r d b'=cnt T.n m b b'
section
variable {T:Tol}{O O1:OvF}{F F1:FiF}{b m:Nat}{inn:Nat→Nat→Option Int}{C:Addr}
structure YBv (T:Tol) (O O1:OvF) (F:FiF) (b m:Nat) (inn:Nat→Nat→Option Int):Prop where
 same:∀p b' e',¬((look T.s p).isSome=true∧b'=b∧e'=b + m)→O1 p b' e'=O p b' e'
 pos:∀p b e,0≤O1 p b e
 le:∀h v,look T.s h=some v→O1 h b (b + m)≤v + m * T.cut
 ex:∀h v,look T.s h=some v→∃(r:Nat) (ρ:Y2),T.g[r]?=some ρ∧ρ.1=h∧rch T.s ρ.2.1=ρ.2.1.length∧Y3 T.cut O1 (fun d k=>F r d b k) (inn r) ρ.2.1 b (b + m) ρ.2.1.length≤O1 h b (b + m)
def Xs (T:Tol) (O:OvF) (F:FiF) (b m:Nat) (inn:Nat→Nat→Option Int):Prop:=∀(r:Nat) (ρ:Y2),T.g[r]?=some ρ→YFD T.s O (fun d k=>F r d b k) (inn r) ρ.2.1 b m
theorem f_pos (hc:0≤T.cut) (pos:∀p b e,0≤O p b e) (h:∀k,k < m→EqF T.g T.s T.cut O F b k) {r:Nat}{ρ:Y2} (hr:T.g[r]?=some ρ):∀{d k:Nat},d≤rch T.s ρ.2.1→k < m→1≤F r d b k:=by
 intro d
 induction d with
 |zero=>
  intro k _ hk;rw[(h k hk r ρ hr).1];have:=YKN (Int.ofNat_nonneg k) hc;omega
 |succ d ih=>
  intro k hd hk;obtain⟨p,ep,_⟩:=J3 (s:=T.s) (ps:=ρ.2.1) (j:=d) (by omega);obtain⟨k',hk',e⟩:=((h k hk r ρ hr).2 d p (by omega) ep).2;have h1:=ih (k:=k') (by omega) (by omega);have h2:=pos p (b + k') (b + k);omega
def XQ (T:Tol) (O:OvF) (b m:Nat):OvF:=fun p b' e'=>if (look T.s p).isSome=true∧b'=b∧e'=b + m then (look T.s p).getD 0 + m * T.cut else O p b' e'
theorem YBv.start (pre:YBf C T) (I:YBu T O F m b) (hbm:b + m≤T.n) (hin:Xs T O F b m inn):YBv T O (XQ T O b m) F b m inn:=by
 have cm:(0:Int)≤m * T.cut:=YKN (Int.ofNat_nonneg m) pre.cut0;have at_:∀h v,look T.s h=some v→XQ T O b m h b (b + m)=v + m * T.cut:=fun h v hv=>by
  unfold XQ;rw[if_pos ⟨by rw[hv];rfl,rfl,rfl⟩,hv];rfl
 refine⟨fun p b' e' h=>if_neg h,fun p b' e'=>?_,fun h v hv=>by rw[at_ h v hv];exact YKI _,fun h v hv=>?_⟩
 ·unfold XQ;split
  ·next h=>
   obtain⟨v,hv⟩:=YJv.mp h.1;rw[hv];have:=pre.s.pos p v hv;show 0≤v + _;omega
  ·exact I.pos p b' e'
 ·obtain⟨ρ,hr,e1,k,hk,hkv⟩:=pre.s.hd h v hv;obtain⟨r,hrl,er⟩:=YKq.mp hr;have hr':T.g[r]?=some ρ:=by rw[YJR hrl,er]
  refine⟨r,ρ,hr',e1,YCZ (YEK hk),?_⟩;rw[at_ h v hv];have key:=YHs (s:=T.s) (cut:=T.cut) (O:=XQ T O b m) (Fr:=fun d k=>F r d b k) (inn:=inn r) (ps:=ρ.2.1) (b:=b) (e:=b + m) (q:=T.put) (fun p hp hq=>?_) (fun p hp hq v hv=>?_) hk
  ·have:(((b + m:Nat):Int) - b) * T.cut=m * T.cut:=by rw[show((b + m:Nat):Int) - b=m by omega]
   rw[this]at key;omega
  ·have hl:look T.s p=none:=by
    cases hl:look T.s p with
    |none=>rfl
    |some v'=>
     obtain⟨ρ',hr2,e2,_⟩:=pre.s.hd p v' hl;have:=Xf (JS pre.g hr2).1;rw[e2,hq]at this;cases this
   have:XQ T O b m p (b + m) (b + m)=O p (b + m) (b + m):=if_neg (by rw[hl];exact fun z=>nomatch z.1);rw[this,I.sg p _ _ hq];unfold sgT;rw[if_pos (YJP _)];exact YKI _
  ·rcases Nat.eq_zero_or_pos m with rfl |hm
   ·have:=at_ p v hv;rw[Nat.add_zero]at this ⊢;rw[this];have:((0:Nat):Int) * T.cut=0:=by simp
    omega
   ·have:XQ T O b m p (b + m) (b + m)=O p (b + m) (b + m):=if_neg fun z=>by omega
    rw[this];have:=(I.dn (b + m) 0 ⟨by omega,.inl hm⟩).le p v hv;have z0:((0:Nat):Int) * T.cut=0:=by simp
    rw[Nat.add_zero]at this;omega
theorem Xs.same (h:Xs T O F b m inn) (hs:∀p b' e',¬((look T.s p).isSome=true∧b'=b∧e'=b + m)→O1 p b' e'=O p b' e'):Xs T O1 F b m inn:=fun r ρ hr d p hd hp=>by
 obtain⟨h1,h2⟩:=h r ρ hr d p hd hp;have e:∀k,1≤k→O1 p (b + k) (b + m)=O p (b + k) (b + m):=fun k hk=>hs _ _ _ fun z=>by omega
 refine⟨fun k hk hkm=>?_,fun v hv=>?_⟩
 ·rw[e k hk];exact h1 k hk hkm
 ·obtain⟨k,hk,hkm,ev⟩:=h2 v hv;exact⟨k,hk,hkm,by rw[e k hk];exact ev⟩
theorem YBv.pos1 (pre:YBf C T) (I:YBu T O F m b) (hbm:b + m≤T.n) (hin:Xs T O F b m inn) (W:YBv T O O1 F b m inn) {r:Nat}{ρ:Y2} (hr:T.g[r]?=some ρ) {d:Nat} (hd:d≤rch T.s ρ.2.1):1≤Y3 T.cut O1 (fun d k=>F r d b k) (inn r) ρ.2.1 b (b + m) d:=by
 have hf:=fun{d k:Nat}=>f_pos pre.cut0 I.pos (fun k hk=>(I.dn b k ⟨by omega,.inl hk⟩).f) hr (d:=d) (k:=k)
 refine YFE pre.cut0 (YLE _ _) W.pos (fun d hd hlt=>hf (by omega) (by omega)) (fun d v hd hv=>?_) hd;obtain⟨p,ep,_⟩:=J3 hd;obtain⟨k,h1,h2,e⟩:=(hin r ρ hr d p hd ep).2 v hv;have h3:=hf (d:=d) (k:=k) (by omega) h2;have h4:=I.pos p (b + k) (b + m);rw[e];show 1≤F r d b k + _;omega
theorem YBv.lower (pre:YBf C T) (I:YBu T O F m b) (hbm:b + m≤T.n) (hin:Xs T O F b m inn) (W:YBv T O O1 F b m inn) {r:Nat}{ρ:Y2} (hr:T.g[r]?=some ρ) (hfull:rch T.s ρ.2.1=ρ.2.1.length) {v:Int} (hv:look T.s ρ.1=some v) {x:Int} (hx:x=Y3 T.cut O1 (fun d k=>F r d b k) (inn r) ρ.2.1 b (b + m) ρ.2.1.length) (hlt:x < O1 ρ.1 b (b + m)):
  YBv T O (upO O1 ρ.1 b (b + m) x) F b m inn:=by
 have at_:upO O1 ρ.1 b (b + m) x ρ.1 b (b + m)=x:=if_pos ⟨rfl,rfl,rfl⟩;have le_:∀p b' e',upO O1 ρ.1 b (b + m) x p b' e'≤O1 p b' e':=fun p b' e'=>by
  unfold upO;split
  ·next h=>rw[h.1,h.2.1,h.2.2];omega
  ·exact YKI _
 have ne_:∀p b' e',¬(p=ρ.1∧b'=b∧e'=b + m)→upO O1 ρ.1 b (b + m) x p b' e'=O1 p b' e':=fun p b' e' h=>if_neg h
 have x1:=W.pos1 pre I hbm hin hr (d:=ρ.2.1.length) (by omega);have mono:=fun(r:Nat) (ρ':Y2)=>YDf (cut:=T.cut) (O:=O1) (O':=upO O1 ρ.1 b (b + m) x) (Fr:=fun d k=>F r d b k) (inn:=inn r) (ps:=ρ'.2.1) (b:=b) (e:=b + m) (fun p _=>le_ p _ _) (fun p _=>le_ p _ _) (YJP _)
 refine⟨fun p b' e' h=>?_,fun p b' e'=>?_,fun h v' hv'=>YKL (le_ _ _ _) (W.le h v' hv'),fun h v' hv'=>?_⟩
 ·rw[ne_ _ _ _ fun z=>h ⟨by rw[z.1,hv];rfl,z.2⟩];exact W.same p b' e' h
 ·unfold upO;split
  ·omega
  ·exact W.pos p b' e'
 ·by_cases hh:h=ρ.1
  ·subst hh;refine⟨r,ρ,hr,rfl,hfull,?_⟩;rw[at_,hx];rw[←hx];exact hx ▸ mono r ρ
  ·obtain⟨r',ρ',h1,h2,h3,h4⟩:=W.ex h v' hv';refine⟨r',ρ',h1,h2,h3,?_⟩;rw[ne_ _ _ _ fun z=>hh z.1];exact YKL (mono r' ρ') h4
theorem YBv.fin (pre:YBf C T) (I:YBu T O F m b) (hbm:b + m≤T.n) (hin:Xs T O F b m inn) (W:YBv T O O1 F b m inn)
  (hex:∀(r:Nat) (ρ:Y2),T.g[r]?=some ρ→rch T.s ρ.2.1=ρ.2.1.length→O1 ρ.1 b (b + m)≤Y3 T.cut O1 (fun d k=>F r d b k) (inn r) ρ.2.1 b (b + m) ρ.2.1.length)
  (f1:∀r d b' k,¬(b'=b∧k=m)→F1 r d b' k=F r d b' k)
  (f2:∀(r:Nat) (ρ:Y2),T.g[r]?=some ρ→∀d,d≤rch T.s ρ.2.1→F1 r d b m=Y3 T.cut O1 (fun d k=>F r d b k) (inn r) ρ.2.1 b (b + m) d):YBu T O1 F1 m (b + 1):=by
 have nq:∀p,isQ p=true→look T.s p=none:=fun p hq=>by
  cases hl:look T.s p with
  |none=>rfl
  |some v'=>
   obtain⟨ρ',hr2,e2,_⟩:=pre.s.hd p v' hl;have:=Xf (JS pre.g hr2).1;rw[e2,hq]at this;cases this
 refine⟨W.pos,fun p b' e' hq=>?_,fun b' m' hd=>?_⟩
 ·rw[W.same p b' e' fun z=>by rw[nq p hq]at z;exact nomatch z.1];exact I.sg p b' e' hq
 ·by_cases hnew:b'=b∧m'=m
  ·obtain⟨rfl,rfl⟩:=hnew;refine⟨fun r ρ hr=>⟨?_,fun d p hd' hp=>?_⟩,fun h v hv=>⟨fun r ρ hr e1 hfull=>?_,?_⟩,W.le⟩
   ·rw[f2 r ρ hr 0 (YJw _)];show(((b' + m':Nat):Int) - b') * T.cut + 1=_;rw[show((b' + m':Nat):Int) - b'=m' by omega]
   ·have hi:=hin.same W.same r ρ hr;obtain⟨l1,l2⟩:=YI3 (cut:=T.cut) hi hd' hp;have ef:∀k,k≤m'→(if k < m' then F r d b' k else Y3 T.cut O1 (fun d k=>F r d b' k) (inn r) ρ.2.1 b' (b' + m') d)=F1 r d b' k:=fun k hk=>by
     by_cases h:k < m'
     ·rw[if_pos h,f1 r d b' k (by omega)]
     ·rw[if_neg h,show k=m' by omega,f2 r ρ hr d (by omega)]
    rw[f2 r ρ hr (d + 1) (by omega)];refine⟨fun k hk=>?_,?_⟩
    ·have:=l1 k hk
     rwa [ef k hk]at this
    ·obtain⟨k,hk,e⟩:=l2;rw[ef k hk]at e;exact⟨k,hk,e⟩
   ·rw[f2 r ρ hr _ (by omega),←e1];exact hex r ρ hr hfull
   ·obtain⟨r,ρ,h1,h2,h3,h4⟩:=W.ex h v hv;refine⟨r,ρ,h1,h2,h3,?_⟩;rw[f2 r ρ h1 _ (by omega)];have:=hex r ρ h1 h3;rw[h2]at this;omega
  ·have hold:DoneB T.n m b b' m':=⟨hd.1,by rcases hd.2 with h |h <;> omega⟩;have D:=I.dn b' m' hold;have eO:∀p k,k≤m'→O1 p (b' + k) (b' + m')=O p (b' + k) (b' + m'):=fun p k hk=>W.same _ _ _ fun z=>by
    rcases hold.2 with h |h <;> omega
   have eF:∀r d k,k≤m'→F1 r d b' k=F r d b' k:=fun r d k hk=>f1 r d b' k fun z=>by
    rcases hold.2 with h |h <;> omega
   have eO0:∀p,O1 p b' (b' + m')=O p b' (b' + m'):=fun p=>eO p 0 (YJw _)
   refine⟨fun r ρ hr=>⟨?_,fun d p hd' hp=>?_⟩,fun h v hv=>⟨fun r ρ hr e1 hfull=>?_,?_⟩,fun h v hv=>?_⟩
   ·rw[eF r 0 m' (YJP _)];exact(D.f r ρ hr).1
   ·obtain⟨l1,k0,hk0,e0⟩:=(D.f r ρ hr).2 d p hd' hp;refine⟨fun k hk=>?_,k0,hk0,?_⟩
    ·rw[eF r _ m' (YJP _),eF r d k hk,eO p k hk];exact l1 k hk
    ·rw[eF r _ m' (YJP _),eF r d k0 hk0,eO p k0 hk0];exact e0
   ·rw[eO0,eF r _ m' (YJP _)];exact(D.o h v hv).1 r ρ hr e1 hfull
   ·obtain⟨r,ρ,h1,h2,h3,h4⟩:=(D.o h v hv).2;exact⟨r,ρ,h1,h2,h3,by rw[eO0,eF r _ m' (YJP _)];exact h4⟩
   ·rw[eO0];exact D.le h v hv
end
theorem Jm:(["number","begin","end","self"]:List Str).Nodup:=by decide +kernel
inductive YFc (C:Addr) (vs:List V) (H:Hp) (Q:VK):Prop where
 |mk (T:Tol) (own:Addr→Option XE) (ps:List Str) (H0:Hp) (O:OvF) (F:FiF) (K:Nat→Nat→Nat→Nat) (b m:Nat) (h0_:vs=[.ref T.x,.int b,.int ((b + m:Nat):Int)]) (h1_:YBf C T) (h2_:TSt T own ps H0 H O F K) (h3_:YCf T.g T.s ps) (h4_:YBu T O F m b) (h5_:KOk T K m b) (h6_:b + m≤T.n) (h7_:∀O' F' K' H',TSt T own ps H0 H' O' F' K'→YBu T O' F' m (b + 1)→KOk T K' m (b + 1)→Q .non H'):YFc C vs H Q
def YG8 (C:Addr):Sp:=fun vs H Q E_=>YFc C vs H Q
def Xt (T:Tol) (O:OvF) (b m:Nat) (hs:List Str):OvF:=fun p b' e'=>if p∈hs∧b'=b∧e'=b + m then (look T.s p).getD 0 + m * T.cut else O p b' e'
theorem YFd (T:Tol) (O:OvF) (b m:Nat):Xt T O b m []=O:=by
 funext p b' e';exact if_neg fun z=>nomatch z.1
theorem YEQ (T:Tol) (O:OvF) (b m:Nat) (hs:List Str) {h:Str}{v:Int} (hv:look T.s h=some v):upO (Xt T O b m hs) h b (b + m) (v + m * T.cut)=Xt T O b m (hs ++ [h]):=by
 funext p b' e';unfold upO Xt
 by_cases hp:p=h∧b'=b∧e'=b + m
 ·rw[if_pos hp,if_pos ⟨YJi _ (YJW.mpr hp.1),hp.2⟩,hp.1,hv];rfl
 ·rw[if_neg hp]
  by_cases hq:p∈hs∧b'=b∧e'=b + m
  ·rw[if_pos hq,if_pos ⟨YKD _ hq.1,hq.2⟩]
  ·rw[if_neg hq,if_neg fun z=>?_];rcases YJs.mp z.1 with h1 |h1
   ·exact hq ⟨h1,z.2⟩
   ·exact hp ⟨YJW.mp h1,z.2⟩
theorem YFe (T:Tol) (O:OvF) (b m:Nat):Xt T O b m (T.s.map (·.1))=XQ T O b m:=by
 funext p b' e';unfold Xt XQ;have:p∈T.s.map (·.1)↔(look T.s p).isSome=true:=by
  constructor
  ·intro h;cases hl:look T.s p with
   |none=>exact absurd h (YHg hl)
   |some v=>rfl
  ·intro h;obtain⟨v,hv⟩:=YJv.mp h;exact YJh.mpr ⟨_,Xb hv,rfl⟩
 by_cases hq:p∈T.s.map (·.1)∧b'=b∧e'=b + m
 ·rw[if_pos hq,if_pos ⟨this.mp hq.1,hq.2⟩]
 ·rw[if_neg hq,if_neg fun z=>hq ⟨this.mpr z.1,z.2⟩]
theorem YHw {α:Type} [Inhabited α] {n:Nat}{P:Nat→α→Prop} (h:∀r,r < n→∃z,P r z):∃f:Nat→α,∀r,r < n→P r (f r):=by
 classical
 refine⟨fun r=>if hr:r < n then (h r hr).choose else default,fun r hr=>?_⟩;show P r (if hr:r < n then (h r hr).choose else default);rw[dif_pos hr];exact(h r hr).choose_spec
theorem ixN_nat {n k:Nat} (h:k < n):ixN n (k:Int)=some k:=by
 unfold ixN;rw[if_pos (by omega),if_pos (by omega)];simp
def nI (k:Nat):V:=.int (k:Int)
def YDn (T:Tol) (O:OvF) (b m:Nat):Nat:=((T.s.map (·.1)).map fun h=>(O h b (b + m)).toNat).sum
theorem YGc {T:Tol}{O:OvF}{b m:Nat}{h:Str}{v x:Int} (hv:look T.s h=some v) (h0:0≤x) (hx:x < O h b (b + m)):YDn T (upO O h b (b + m) x) b m < YDn T O b m:=by
 have at_:upO O h b (b + m) x h b (b + m)=x:=if_pos ⟨rfl,rfl,rfl⟩;refine YGD (fun z _=>?_) ⟨h,YJh.mpr ⟨_,Xb hv,rfl⟩,by rw[at_];omega⟩
 by_cases hz:z=h
 ·rw[hz,at_];omega
 ·have:upO O h b (b + m) x z b (b + m)=O z b (b + m):=if_neg fun w=>hz w.1
  rw[this];exact YJP _
def YER (kvs:List (Key×V)) (N:Nat):Prop:=(kvs.map (·.1)).Nodup∧∀k∈kvs.map (·.1),∃r:Nat,r < N∧k=Sum.inl (r:Int)
theorem YAQ {α:Type} [DecidableEq α]:∀{xs ys:List α},xs.Nodup→(∀x∈xs,x∈ys)→xs.length≤ys.length
 |[],_,_,_=>YJw _
 |x :: xs,ys,h,hs=>by
  rw[YKS]at h;have hx:=hs x (YJp ..);have:=YAQ (ys:=ys.erase x) h.2 fun y hy=>by
   have hne:y≠x:=fun e=>h.1 (e ▸ hy)
   exact(List.mem_erase_of_ne hne).mpr (hs y (YJf _ hy))
  rw[List.length_erase_of_mem hx]at this;have hpos:=List.length_pos_of_mem hx;rw[YJn];omega
theorem YER.len {kvs:List (Key×V)}{N:Nat} (h:YER kvs N):kvs.length≤N:=by
 have:=YAQ (ys:=(List.range N).map fun r:Nat=>(Sum.inl (r:Int):Key)) h.1 fun k hk=>by
  obtain⟨r,h1,h2⟩:=h.2 k hk;exact YJh.mpr ⟨r,YKG.mpr h1,h2.symm⟩
 rwa [YJL,YJL,YJj]at this
theorem YER.put {kvs:List (Key×V)}{N r:Nat} (h:YER kvs N) (hr:r < N) (v:V):YER (Ys kvs (Sum.inl (r:Int)) v) N:=by
 by_cases hm:(Sum.inl (r:Int):Key)∈kvs.map (·.1)
 ·have e:(Ys kvs (Sum.inl (r:Int)) v).map (·.1)=kvs.map (·.1):=by
   unfold Ys;obtain⟨q,hq,e⟩:=YJh.mp hm;rw[if_pos (YKx.mpr ⟨q,hq,YJU e⟩),YKk];refine YKK fun q _=>?_
   show(if q.1=Sum.inl (r:Int) then (q.1,v) else q).1=q.1;split <;> rfl
  unfold YER;rw[e];exact h
 ·have e:(Ys kvs (Sum.inl (r:Int)) v).map (·.1)=kvs.map (·.1) ++ [Sum.inl (r:Int)]:=by
   unfold Ys;rw[if_neg,YJo]
   ·rfl
   ·intro h;obtain⟨q,hq,e⟩:=YKx.mp h;exact hm (YJh.mpr ⟨q,hq,YJm e⟩)
  unfold YER;rw[e];refine⟨YAZ h.1 hm,fun k hk=>?_⟩;rcases YJs.mp hk with hk |hk
  ·exact h.2 k hk
  ·exact⟨r,hr,YJW.mp hk⟩
def LnOk (T:Tol) (own:Addr→Option XE) (O:OvF) (F:FiF) (b m:Nat) (inn:Nat→Nat→Option Int) (kvs:List (Key×V)) (H:Hp) (rs:List Nat):Prop:=∀r∈rs,∀ρ,T.g[r]?=some ρ→∃a,Yw kvs (Sum.inl (r:Int))=some (.ref a)∧own a=none∧H a=some (.lst (Jg (rch T.s ρ.2.1) (Y3 T.cut O (fun d k=>F r d b k) (inn r) ρ.2.1 b (b + m))))∧
 (rch T.s ρ.2.1=ρ.2.1.length→O ρ.1 b (b + m)≤Y3 T.cut O (fun d k=>F r d b k) (inn r) ρ.2.1 b (b + m) ρ.2.1.length)
theorem TSt.putD {T:Tol}{own:Addr→Option XE}{ps:List Str}{H0 H:Hp}{O:OvF}{F:FiF}{K:Nat→Nat→Nat→Nat} (S:TSt T own ps H0 H O F K) {d:Addr}{kvs kvs':List (Key×V)} (hd:H d=some (.dK kvs)) (ne:d≠T.ao) (h0:H0 d=none):TSt T own ps H0 (upd H d (.dK kvs')) O F K:=by
 obtain⟨kv,a1,a2,a3⟩:=S.hao;obtain⟨ts,b1,b2,b3,b4⟩:=S.haf;obtain⟨o,ho⟩:=S.hab;have st:∀{a w},(∀kvs,w≠.dK kvs)→H a=some w→upd H d (.dK kvs') a=some w:=fun hw e=>by
  rw[YH (fun z=>by rw[z,hd]at e;exact hw _ (YJk e).symm)];exact e
 have kp:∀{a:Addr}{xs:List V},H a=some (.lst xs)→upd H d (.dK kvs') a=some (.lst xs):=fun e=>st (fun _ z=>nomatch z) e
 refine⟨S.pl.upd rfl,S.sm.put h0,st (fun _ z=>nomatch z) S.hx,S.hl,S.hds,⟨o,st (fun _ z=>nomatch z) ho⟩,⟨kv,by rw[YH ne.symm];exact a1,a2,fun p hp=>?_⟩,⟨ts,b1,kp b2,b3,fun r t ρ e1 e2=>?_⟩,fun c u hc=>?_,S.uq⟩
 ·obtain⟨a,bs,g1,g2,g3,g4,g5⟩:=a3 p hp;exact⟨a,bs,g1,g2,kp g3,g4,fun e c hc=>⟨(g5 e c hc).1,kp (g5 e c hc).2⟩⟩
 ·obtain⟨ds,g1,g2,g3,g4⟩:=b4 r t ρ e1 e2;refine⟨ds,g1,kp g2,g3,fun d' u hu=>?_⟩;obtain⟨es,k1,k2,k3,k4⟩:=g4 d' u hu;exact⟨es,k1,kp k2,k3,fun b c hc=>⟨(k4 b c hc).1,kp (k4 b c hc).2⟩⟩
 ·obtain⟨h',xs,e⟩:=S.on c u hc;exact⟨h',xs,kp e⟩
section
variable {P:Program}{w:World}{K:W.Frag}{mg:Str→Option Value}{base:Heap}{C:Adr}
theorem YW:YV ["self","begin","end","head","number","inner","order","lines","falling","done","toll"] ["self","begin","end"] (YJ ZY):=⟨rfl,rfl,rfl,by decide +kernel,rfl,by decide +kernel,by decide +kernel⟩
theorem YAi {f:Addr}{fd:FuncData} (F:Fun K "take_span" "Toller.take_span" ZY f fd) (T:Txt K mg C) (U_Toller_inner_tolls:YAH P w K mg CX0 1 C.Toller "inner_tolls" ["self","number","begin","end"] (YG6 C.Toller)) (U_Toller_line_of:YAH P w K mg CX0 1 C.Toller "line_of" ["self","number","begin","end","inner"] (YFa C.Toller)) (U_Toller_lower_head:YAH P w K mg CX0 1 C.Toller "lower_head" ["self","number","begin","end","line"] (YG7 C.Toller)):Yr P w K mg base CX0 2 f fd ["self","begin","end"] (YG8 C.Toller):=by
 obtain⟨f_Toller_inner_tolls,fd_Toller_inner_tolls,G_Toller_inner_tolls,me_Toller_inner_tolls,b_Toller_inner_tolls⟩:=U_Toller_inner_tolls.ok;obtain⟨f_Toller_line_of,fd_Toller_line_of,G_Toller_line_of,me_Toller_line_of,b_Toller_line_of⟩:=U_Toller_line_of.ok;obtain⟨f_Toller_lower_head,fd_Toller_lower_head,G_Toller_lower_head,me_Toller_lower_head,b_Toller_lower_head⟩:=U_Toller_lower_head.ok;refine F.ok YW (fun vs H Q E h=>?_) (fun cdv A outer s H vs Q E hr h=>?_)
 ·cases h;subst_vars;rfl
 ·obtain⟨S,own,ps,H0,O,FF,KK,b,m,rfl,pre,st,pso,I,kok,hbm,q⟩:=h;have hu:=Jd hr;refine qex ?_;refine⟨_,(Y4 ⟨(Yi PassesOwn.never rfl (YI2 (Yc K rfl (pv 0) rfl)) (YN (i:=3) YW.nd rfl (Or.inl rfl)) (YF (YFr (YI Yb (ZK hu (Yc K rfl (pv 0) rfl) (pv 3) (fun _ _=>rfl)) (YI Xm (YI Z2 (pv 2) (pv 1)) (Yc K rfl (pv 0) rfl))) (YH5 (YQ (YY K rfl) (ZK hu (Yc K rfl (pv 0) rfl) (pv 3) (fun _ _=>rfl)) (pv 2) (fun _ _=>rfl)) (pv 1) YEg))))⟩
   (Y4 ⟨(YGn (N:=["number","begin","end","self"]) (ρ:=[none,some 1,some 2,some 0]) (i:=5) YW.nd rfl rfl rfl (Yh.closes ["self","begin","end","head","number","inner","order","lines","falling","done","toll"] (YJ ZY).names rfl rfl rfl rfl (by decide +kernel) (by decide +kernel) (fun x h=>Jv h) (by decide +kernel) rfl (by decide +kernel)) (Yt rfl T.z_range (YA (YK (YT K rfl) (by rfl) T.z_len YJT (YA (Yc K rfl (pv 0) rfl) YB)) YB)) (fun _ _ _ _ _=>(YN (i:=0) Jm rfl (Or.inl rfl) (.inr rfl))) (fun _ _ _ _ _=>Zj) (fun _ _ _ _ _=>(Xj (pv 3) T.cl_Toller me_Toller_inner_tolls (G_Toller_inner_tolls base) (hr.mono (by decide)) b_Toller_inner_tolls .nil Yf (YA (pv 0) (YA (pv 1) (YA (pv 2) YB))))))⟩
   (Y4 ⟨(YM (i:=6) YW.nd rfl (Or.inl rfl) (YFB rfl rfl T.z_list rfl T.z_range (YA (YK (YT K rfl) (by rfl) T.z_len YJT (YA (Yc K rfl (pv 0) rfl) YB)) YB)))⟩
   (Y4 ⟨(YM (i:=7) YW.nd rfl (Or.inl rfl) YA3)⟩
   (Y4 ⟨(YM (i:=8) YW.nd rfl (Or.inl rfl) Ja)⟩
   (Y4 ⟨(YEc PassesOwn.never (Zi (pv 8)) (YE (YM (i:=8) YW.nd rfl (Or.inl rfl) Ja)
   (YE (YM (i:=6) YW.nd rfl (Or.inl rfl) (YE5 rfl rfl T.z_list rfl T.z_reversed (YA (pv 6) YB)))
   (YF (Yi PassesOwn.never rfl (JA K rfl (pv 6)) (YN (i:=4) YW.nd rfl (Or.inl rfl)) (YE (JX hu (pv 7) (pv 4) (Xj (pv 0) T.cl_Toller me_Toller_line_of (G_Toller_line_of base) (hr.mono (by decide)) b_Toller_line_of .nil Yf (ZI (pv 4) (ZI (pv 1) (ZI (pv 2) (ZI (YQ (YY K rfl) (pv 5) (pv 4) (fun _ _=>rfl)) YB))))) rfl)
   (YF (ZB (Zi (Xj (pv 0) T.cl_Toller me_Toller_lower_head (G_Toller_lower_head base) (hr.mono (by decide)) b_Toller_lower_head .nil Yf (ZI (pv 4) (ZI (pv 1) (ZI (pv 2) (ZI (ZK hu (pv 7) (pv 4) (fun _ _=>rfl)) YB)))))) (YF (YM (i:=8) YW.nd rfl (Or.inl rfl) Ja)) Yg))))))))⟩
   (YEC ⟨(Yi PassesOwn.never rfl (JA K rfl (pv 6)) (YN (i:=4) YW.nd rfl (Or.inl rfl)) (YF (Yi PassesOwn.never rfl (Xl K rfl rfl T.z_enumerate (YA (ZK hu (pv 7) (pv 4) (fun _ _=>rfl)) YB)) (Jq K rfl (n:=2) rfl (Yx (YN (i:=9) YW.nd rfl (Or.inl rfl)) (Yx (YN (i:=10) YW.nd rfl (Or.inl rfl)) Jp))) (YF (ZV (JB K rfl YJx YJ0 YJz ZD (YQ (YY K rfl) (YQ (YY K rfl) (YQ (YY K rfl) (Yc K rfl (pv 0) rfl) (pv 4) (fun _ _=>rfl)) (pv 9) (fun _ _=>rfl)) (pv 1) (fun _ _=>rfl)) (YA (pv 10) YB)))))))⟩))))))),?_⟩
  have hn:=pre.n;have hlt:∀i:Int,0≤i→i≤60→i.natAbs < 2 ^ 4000:=fun i h1 h2=>YK0 (show i.natAbs≤60 by omega) (YJY (by decide:60 < 2 ^ 6) (Nat.pow_le_pow_right (by decide) (by decide)))
  have hxT:∀{H' O F K},TSt S own ps H0 H' O F K→H' S.x=some (.ins C.Toller S.dx S.fld):=fun h=>by rw[←pre.c];exact h.hx
  obtain⟨o,hab⟩:=st.hab;refine⟨_,rfl,S.x,C.Toller,S.dx,_,_,rfl,hxT st,T.cl_Toller,T.na_Toller_bare,rfl,S.ab,o,_,rfl,hab,?_⟩;refine YAb (Pv:=fun i σ H2=>H2 S.ab=some (.frz o (.dK (szD S.s)))∧∃v3,σ=[some (.ref S.x),some (.int b),some (.int ((b + m:Nat):Int)),v3,none,none,none,none,none,none,none]∧TSt S own ps H0 H2 (Xt S O b m ((S.s.map (·.1)).take i)) FF KK) ⟨hab,none,rfl,by rw[YKo,YFd];exact st⟩ (fun i σ H2 _ h=>h.1) ?_ ?_
  ·rintro i kv σ H2 hkv ⟨hab,v3,rfl,st⟩;obtain⟨h,v,ehv,rfl⟩:∃h v,S.s[i]?=some (h,v)∧kv=(Sum.inr h,V.int v):=by
    unfold szD at hkv;rw[YJQ]at hkv;obtain⟨y,h1,h2⟩:=YJu.mp hkv;exact⟨y.1,y.2,h1,h2.symm⟩
   have hlk:look S.s h=some v:=XL pre.s.nd (YJS ehv);have hps:=pso.2.2.1 h v hlk;obtain⟨a',bs,cc,dg,ha',at4,hcc1,hcc⟩:=st.ov hps hbm;have e2:(S.s.map (·.1)).take (i + 1)=(S.s.map (·.1)).take i ++ [h]:=by rw[YKF,YJQ,ehv];rfl
   have hvv:Yw (szD S.s) (Sum.inr h)=some (.int v):=by rw[Xc,hlk];rfl
   refine⟨_,rfl,S.x,C.Toller,S.dx,_,_,rfl,hxT st,T.cl_Toller,T.na_Toller_bare,rfl,_,rfl,S.ab,_,rfl,.inl ⟨_,Sum.inr h,.inr ⟨o,hab⟩,rfl,hvv.symm⟩,_,rfl,_,rfl,_,_,rfl,rfl,_,rfl,S.x,C.Toller,S.dx,_,_,rfl,hxT st,T.cl_Toller,T.na_Toller_cut,rfl,_,_,rfl,rfl,⟨hlt _ (by omega) (by omega),pre.cut⟩,_,_,rfl,rfl,_,rfl,S.x,C.Toller,S.dx,_,_,rfl,hxT st,T.cl_Toller,T.na_Toller_over,rfl,_,rfl,S.ao,_,rfl,dg,_,rfl,a',_,_,_,rfl,rfl,SqL.of ha',at4,_,rfl,cc,_,_,b,rfl,rfl,hcc,ixN_nat (by unfold ovR;rw[YJL,YJL,YJj];omega),?_,_,rfl,?_⟩
   ·rw[YH (YC8 hab hcc nofun)];exact hab
   ·rw[e2,←YEQ S O b m _ hlk];have:=st.setO (YLE b m) hcc1 (v + m * S.cut);rw[List.map_set]at this;rw[show((b + m:Nat):Int) - (b:Int)=(m:Int) by omega];exact this
  ·rintro σ H2 ⟨hab,v3,rfl,st⟩;have etk:(S.s.map (·.1)).take (szD S.s).length=S.s.map (·.1):=YKM (by unfold szD;rw[YJL,YJL];exact YJP _);rw[etk,YFe]at st;obtain⟨O1,eO1⟩:∃O1,XQ S O b m=O1:=⟨_,rfl⟩;rw[eO1]at st;have exs:S.xs.length=S.g.length:=by rw[st.hds.len,YJL]
   have hg60:=YAY pre.g;refine⟨_,rfl,S.x,C.Toller,S.dx,_,_,rfl,hxT st,T.cl_Toller,T.na_Toller_rules,rfl,S.l,_,rfl,.inl (SqL.of (st.sm _ _ st.hl)),((S.g.length:Nat):Int),by rw[exs],by omega,by omega,fun il hil=>?_⟩;have gAt:∀{r:Nat},r < S.g.length→∃ρ,S.g[r]?=some ρ:=fun h=>⟨_,YJR h⟩
   refine ZX (n:=S.g.length) 0 (fun k y H'=>∃ai inn,y=.ref ai∧H2 ai=none∧∀ρ,S.g[k]?=some ρ→H' ai=some (.lst (XF (rch S.s ρ.2.1) inn))∧YFD S.s O1 (fun d k'=>FF k d b k') inn ρ.2.1 b m) Z6
    (fun k y H' H'' s' ⟨ai,inn,e1,e2,e3⟩=>⟨ai,inn,e1,e2,fun ρ hρ=>⟨s' _ _ (e3 ρ hρ).1,(e3 ρ hρ).2⟩⟩) st.pl hil (show 0 < 4 by decide) (YJt hg60 (YG (by decide))) (fun τ'=>∃v,τ'=[v,some (.int b),some (.int ((b + m:Nat):Int)),some (.ref S.x)]) ⟨_,rfl⟩ (fun τ' v ⟨_,e⟩=>⟨v,by rw[e];rfl⟩) ?_ ?_
   ·rintro τ' k y H' R ⟨v,rfl⟩ hτ rfl hk hs hp' hlne hR;cases hτ;obtain⟨ρ,hρ⟩:=gAt hk;have st':=st.same hs hp';refine⟨_,rfl,S.x,S.dx,_,rfl,hxT st',rfl,_,rfl,_,rfl,_,rfl,S,own,ps,H0,O1,FF,KK,k,b,m,ρ,by rw[YKP];rfl,pre,st',pso,hρ,hbm,(fun d hd=>?_),fun ai H6 inn hin hai s6 p6 h6=>hR _ _ s6 p6 ⟨ai,inn,rfl,hs.free hai,fun ρ' hρ'=>?_⟩⟩
    ·rw[kok k ρ hρ d hd b (by omega)];unfold cnt;rw[if_pos hbm,if_neg (YKB _)]
    ·rw[hρ]at hρ';cases hρ';exact⟨by rw[YAF (fun z=>hlne (by rw[←z];exact hai))];exact h6,hin⟩
   ·intro ys H3 hy hP s3 p3 h3;have hall:∀r,r < S.g.length→∃z:Addr×(Nat→Option Int),ys[r]?=some (.ref z.1)∧H2 z.1=none∧∀ρ,S.g[r]?=some ρ→H3 z.1=some (.lst (XF (rch S.s ρ.2.1) z.2))∧YFD S.s O1 (fun d k'=>FF r d b k') z.2 ρ.2.1 b m:=fun r hr'=>by
     have ey:=YJR (show r < ys.length by omega);obtain⟨ai,inn,e1,e2,e3⟩:=hP r _ ey;refine⟨(ai,inn),by rw[ey,e1],e2,fun ρ hρ=>⟨Zy H3 il _ _ (e3 ρ hρ).1,(e3 ρ hρ).2⟩⟩
    obtain⟨fz,hfz⟩:=YHw hall;obtain⟨ai,hai⟩:∃ai:Nat→Addr,(fun r=>(fz r).1)=ai:=⟨_,rfl⟩;obtain⟨inn,hinn⟩:∃inn:Nat→Nat→Option Int,(fun r=>(fz r).2)=inn:=⟨_,rfl⟩;have a1:∀r,r < S.g.length→ys[r]?=some (.ref (ai r)):=fun r h=>by rw[←hai];exact(hfz r h).1
    have a2:∀r,r < S.g.length→own (ai r)=none:=fun r h=>by rw[←hai];exact st.free_ (hfz r h).2.1
    have a3:∀r ρ,S.g[r]?=some ρ→H3 (ai r)=some (.lst (XF (rch S.s ρ.2.1) (inn r))):=fun r ρ hρ=>by rw[←hai,←hinn];exact((hfz r (YJM.mp hρ).1).2.2 ρ hρ).1
    have a4:Xs S O1 FF b m inn:=fun r ρ hρ=>by rw[←hinn];exact((hfz r (YJM.mp hρ).1).2.2 ρ hρ).2
    have oil:=st.free_ hil;have hin:Xs S O FF b m inn:=a4.same fun p b' e' h=>by rw[←eO1];exact(if_neg h).symm
    have W0:=YBv.start pre I hbm hin;rw[eO1]at W0;have st3:=st.same s3 p3;clear hP hall hfz hai hinn a4 fz;refine⟨_,rfl,S.x,C.Toller,S.dx,_,_,rfl,hxT st3,T.cl_Toller,T.na_Toller_rules,rfl,S.l,_,rfl,.inl (SqL.of (st3.sm _ _ st.hl)),S.g.length,by rw[exs],YJt hg60 (by decide),fun ol hol=>?_⟩;refine fun ld hld=>?_
    have s5:YL H3 (upd (upd H3 ol (.lst ((List.range S.g.length).map fun i:Nat=>V.int (i:Int)))) ld (.dK [])):=(YL.upd hol).trans (YL.upd hld);have p5:YS (upd (upd H3 ol (.lst ((List.range S.g.length).map fun i:Nat=>V.int (i:Int)))) ld (.dK [])):=(p3.upd rfl).upd rfl;have hol5:upd (upd H3 ol (.lst ((List.range S.g.length).map fun i:Nat=>V.int (i:Int)))) ld (.dK []) ol=some (.lst ((List.range S.g.length).map nI)):=by rw[YH (YR YD hld),YD];rfl
    have hld5:upd (upd H3 ol (.lst ((List.range S.g.length).map fun i:Nat=>V.int (i:Int)))) ld (.dK []) ld=some (.dK []):=YD;have ool:=st3.free_ hol;have hld3:=(YL.upd hol).free hld;have old:=st3.free_ hld3;have nld:ld≠S.ao:=fun z=>by
     obtain⟨kv,e1,_⟩:=st3.hao;rw[z,e1]at hld3;cases hld3
    have ld0:=st3.sm.free hld3;clear hld hol hld3;revert s5 p5 hol5 hld5;generalize upd (upd H3 ol (.lst ((List.range S.g.length).map fun i:Nat=>V.int (i:Int)))) ld (.dK [])=H5;intro s5 p5 hol5 hld5;have kp5:H5 il=some (.lst ys)∧∀r ρ,S.g[r]?=some ρ→H5 (ai r)=some (.lst (XF (rch S.s ρ.2.1) (inn r))):=⟨s5 _ _ h3,fun r ρ hρ=>s5 _ _ (a3 r ρ hρ)⟩;have st5:=st3.same s5 p5;clear st st3 s3 p3 h3 a3 hab;refine⟨fun k σ H2=>∃(O1:OvF) (ol:Addr) (os:List Nat) (kvs:List (Key×V)) (fall:Bool) (v3 v4:Option V),σ=[some (.ref S.x),some (.int b),some (.int ((b + m:Nat):Int)),v3,v4,some (.ref il),some (.ref ol),some (.ref ld),some (.bl fall),none,none]∧k=2 * YDn S O1 b m + (if fall=true then 1 else 0)∧TSt S own ps H0 H2 O1 FF KK∧YBv S O O1 FF b m inn∧(H2 il=some (.lst ys)∧∀r ρ,S.g[r]?=some ρ→H2 (ai r)=some (.lst (XF (rch S.s ρ.2.1) (inn r))))∧
     (os.Nodup∧∀r,r∈os↔r < S.g.length)∧own ol=none∧H2 ol=some (.lst (os.map nI))∧H2 ld=some (.dK kvs)∧YER kvs S.g.length∧(fall=false→LnOk S own O1 FF b m inn kvs H2 os),⟨_,O1,ol,List.range S.g.length,[],true,_,_,rfl,rfl,st5,W0,kp5,⟨List.nodup_range,fun r=>YKG⟩,ool,hol5,hld5,⟨List.nodup_nil,fun k hk=>by cases hk⟩,fun z=>nomatch z⟩,?_⟩
    clear st5 W0 kp5 ool hol5 hld5 s5 p5 eO1 O1 v3;rintro k σ H2 ⟨O1,ol,os,kvs,fall,v3,v4,rfl,ek,st,W,kp,hos,ool,hol,hld,hkv,hln⟩;refine⟨_,rfl,fall,rfl,?_⟩;have hkeep:∀{H2 H3:Hp},(∀c o,own c=none→H2 c=some o→H3 c=some o)→(H2 il=some (.lst ys)∧∀r ρ,S.g[r]?=some ρ→H2 (ai r)=some (.lst (XF (rch S.s ρ.2.1) (inn r))))→(H3 il=some (.lst ys)∧∀r ρ,S.g[r]?=some ρ→H3 (ai r)=some (.lst (XF (rch S.s ρ.2.1) (inn r)))):=
     fun h1 h2=>⟨h1 _ _ oil h2.1,fun r ρ hρ=>h1 _ _ (a2 r (YJM.mp hρ).1) (h2.2 r ρ hρ)⟩
    have hK:∀r ρ,S.g[r]?=some ρ→∀d,d≤rch S.s ρ.2.1→KK r d b=m:=fun r ρ hρ d hd=>by
     rw[kok r ρ hρ d hd b (by omega)];unfold cnt;rw[if_pos hbm,if_neg (YKB _)]
    cases fall with
    |true=>
     refine Zo ?_;refine⟨_,fun _ _ h=>h,?_⟩;refine⟨_,rfl,ol,_,rfl,.inl hol,fun ol' hol'=>?_⟩;have s3:=YL.upd (o:=.lst (os.map nI).reverse) hol';have st3:=st.same s3 (st.pl.upd rfl);have ool':=st.free_ hol';have hol3:upd H2 ol' (.lst (os.map nI).reverse) ol'=some (.lst (os.reverse.map nI)):=by rw[YD,List.map_reverse]
     have kp3:=hkeep (fun c o _ e=>s3 c o e) kp;have hld3:=s3 _ _ hld;have hos':os.reverse.Nodup∧∀r,r∈os.reverse↔r < S.g.length:=⟨List.pairwise_reverse.mpr (hos.1.imp fun h=>Ne.symm h),fun r=>by rw[List.mem_reverse];exact hos.2 r⟩;revert st3 hol3 kp3 hld3;generalize upd H2 ol' (.lst (os.map nI).reverse)=H3;generalize os.reverse=os' at hos' ⊢;intro st3 hol3 kp3 hld3;clear s3 hol' hln ool hol kp st hos;refine⟨_,rfl,ol',rfl,⟨_,SqL.of hol3⟩,XT (K:=K) (a:=ol') (xs:=os'.map nI) (fun i σ H3=>∃(O2:OvF) (kvs:List (Key×V)) (fall:Bool) (v4:Option V),σ=[some (.ref S.x),some (.int b),some (.int ((b + m:Nat):Int)),v3,v4,some (.ref il),some (.ref ol'),some (.ref ld),some (.bl fall),none,none]∧TSt S own ps H0 H3 O2 FF KK∧YBv S O O2 FF b m inn∧(H3 il=some (.lst ys)∧∀r ρ,S.g[r]?=some ρ→H3 (ai r)=some (.lst (XF (rch S.s ρ.2.1) (inn r))))∧
      H3 ol'=some (.lst (os'.map nI))∧H3 ld=some (.dK kvs)∧YER kvs S.g.length∧(fall=false→O2=O1∧LnOk S own O2 FF b m inn kvs H3 (os'.take i))∧(fall=true→YDn S O2 b m < YDn S O1 b m))
      ⟨O1,kvs,false,v4,rfl,st3,W,kp3,hol3,hld3,hkv,(fun _=>⟨rfl,fun r hr=>by rw[YKo]at hr;cases hr⟩),fun z=>nomatch z⟩ ?_ ?_ ?_⟩
     ·rintro i σ H3 _ ⟨_,_,_,_,_,_,_,_,h,_⟩;exact SqL.of h
     ·rintro i y σ H3 hi ⟨O2,kvs,fall,v4,rfl,st,W,kp,hol,hld,hkv,hf0,hf1⟩;rw[YJQ]at hi;obtain⟨r,er,rfl⟩:=YJu.mp hi;have hrN:=(hos'.2 r).mp (YJS er);obtain⟨ρ,hρ⟩:=gAt hrN;refine⟨_,rfl,S.x,S.dx,_,rfl,hxT st,rfl,_,rfl,_,rfl,_,rfl,_,rfl,_,rfl,il,_,_,_,rfl,rfl,SqL.of kp.1,Yy (a1 r hrN),S,own,ps,H0,O2,FF,KK,r,b,m,ρ,ai r,inn r,rfl,pre,st,pso,hρ,hbm,hK r ρ hρ,kp.2 r ρ hρ,fun a H4 ha s4 p4 h4=>?_⟩;obtain⟨L,eL⟩:∃L,Y3 S.cut O2 (fun d k=>FF r d b k) (inn r) ρ.2.1 b (b + m)=L:=⟨_,rfl⟩;rw[eL]at h4;have oa:=st.free_ ha;have hld4:=s4 _ _ hld;refine⟨_,rfl,_,rfl,ld,_,rfl,YBR.k (k:=Sum.inl (r:Int)) hld4 (YJY (show kvs.length < 1000 by have:=hkv.len;omega) (YG (YJP _))),?_⟩;have st5:=(st.same s4 p4).putD (kvs':=Ys kvs (Sum.inl (r:Int)) (.ref a)) hld4 nld ld0;have k5:∀c o,(∀kv,o≠.dK kv)→H3 c=some o→upd H4 ld (.dK (Ys kvs (Sum.inl (r:Int)) (.ref a))) c=some o:=fun c o ho e=>by
       rw[YH (fun z=>by rw[z,hld]at e;exact ho _ (YJk e).symm)];exact s4 _ _ e
      have kp5:upd H4 ld (.dK (Ys kvs (Sum.inl (r:Int)) (.ref a))) il=some (.lst ys)∧∀r' ρ,S.g[r']?=some ρ→upd H4 ld (.dK (Ys kvs (Sum.inl (r:Int)) (.ref a))) (ai r')=some (.lst (XF (rch S.s ρ.2.1) (inn r'))):=⟨k5 _ _ (fun _ z=>nomatch z) kp.1,fun r' ρ' h'=>k5 _ (.lst _) (fun _ z=>nomatch z) (kp.2 r' ρ' h')⟩;have hol5:=k5 _ (.lst _) (fun _ z=>nomatch z) hol;have ha5:upd H4 ld (.dK (Ys kvs (Sum.inl (r:Int)) (.ref a))) a=some (.lst (Jg (rch S.s ρ.2.1) L)):=by rw[YH (YC8 h4 hld4 nofun)];exact h4
      have hld5:upd H4 ld (.dK (Ys kvs (Sum.inl (r:Int)) (.ref a))) ld=some (.dK (Ys kvs (Sum.inl (r:Int)) (.ref a))):=YD;have lines5:∀rs,LnOk S own O2 FF b m inn kvs H3 rs→r∉rs→(rch S.s ρ.2.1=ρ.2.1.length→O2 ρ.1 b (b + m)≤L ρ.2.1.length)→LnOk S own O2 FF b m inn (Ys kvs (Sum.inl (r:Int)) (.ref a)) (upd H4 ld (.dK (Ys kvs (Sum.inl (r:Int)) (.ref a)))) (rs ++ [r]):=fun rs hl hnr hle r' hr' ρ' hρ'=>by
       rcases YJs.mp hr' with hr' |hr'
       ·obtain⟨a'',e1,e2,e3,e4⟩:=hl r' hr' ρ' hρ';refine⟨a'',?_,e2,k5 _ _ (fun _ z=>nomatch z) e3,e4⟩;rw[Jc,if_neg fun z=>hnr ?_]
        ·exact e1
        ·have:=Sum.inl.inj z;have:r'=r:=by omega
         exact this ▸ hr'
       ·have:=YJW.mp hr';subst this;rw[hρ]at hρ';cases hρ';refine⟨a,by rw[Jc,if_pos rfl],oa,by rw[eL];exact ha5,by rw[eL];exact hle⟩
      revert st5 kp5 hol5 ha5 hld5 lines5;clear k5;generalize upd H4 ld (.dK (Ys kvs (Sum.inl (r:Int)) (.ref a)))=H5;intro st5 kp5 hol5 ha5 hld5 lines5;have hkv5:=hkv.put hrN (.ref a);have et:os'.take (i + 1)=os'.take i ++ [r]:=by rw[YKF,er];rfl
      have hnr:r∉os'.take i:=YB4 hos'.1 er;have dg5:Jw H5 ld (nI r) (some (.ref a)):=by
       have:=Jw.k (k:=Sum.inl (r:Int)) hld5;rw[Jc,if_pos rfl]at this;exact this
      refine⟨_,rfl,S.x,S.dx,_,rfl,hxT st5,rfl,_,rfl,_,rfl,_,rfl,_,rfl,_,rfl,ld,_,rfl,dg5,S,own,ps,H0,O2,FF,KK,r,b,b + m,ρ,a,L,rfl,pre,st5,pso,hρ,YLE _ _,hbm,ha5,fun hno=>?_,fun hfull hlt' H6 st6 k6=>?_⟩
      ·refine⟨false,rfl,ZU ?_⟩;refine⟨O2,_,fall,_,rfl,st5,W,kp5,hol5,hld5,hkv5,fun hf=>?_,hf1⟩;obtain⟨e1,e2⟩:=hf0 hf;refine⟨e1,?_⟩;rw[et];refine lines5 _ e2 hnr fun hfull=>?_
       rcases hno with h |h
       ·omega
       ·rw[hfull]at h;exact h
      ·refine⟨true,rfl,Zo ?_⟩;have hv:∃v,look S.s ρ.1=some v:=by
        obtain⟨k',hk'⟩:=YB3 (s:=S.s) (q:=S.put) (ps:=ρ.2.1) (a:=1) fun p hp=>by
         obtain⟨j,hj,ej⟩:=YKq.mp hp;obtain⟨p',e1,e2⟩:=J3 (s:=S.s) (ps:=ρ.2.1) (j:=j) (by omega);rw[YJR hj,ej]at e1;cases e1;exact e2
        obtain⟨v,hv,_⟩:=pre.fx ρ (YJS hρ) k' hk';exact⟨v,hv⟩
       obtain⟨v,hv⟩:=hv;rw[hfull]at hlt' st6;have x1:=W.pos1 pre I hbm hin hρ (d:=ρ.2.1.length) (by omega);rw[eL]at x1;refine⟨_,_,true,_,rfl,st6,W.lower pre I hbm hin hρ hfull hv (by rw[eL]) hlt',hkeep k6 kp5,k6 _ _ ool' hol5,k6 _ _ old hld5,hkv5,nofun,fun _=>?_⟩;have m1:=YGc (T:=S) hv (by omega) hlt';cases fall with
       |true=>exact Nat.lt_trans m1 (hf1 rfl)
       |false=>rw[←(hf0 rfl).1];exact m1
     ·rintro σ H3 ⟨O2,kvs,fall,v4,rfl,st,W,kp,hol,hld,hkv,hf0,hf1⟩;rw[YJL,YKj]at hf0;refine⟨2 * YDn S O2 b m + (if fall=true then 1 else 0),?_,O2,ol',os',kvs,fall,_,_,rfl,rfl,st,W,kp,hos',ool',hol,hld,hkv,fun hf=>(hf0 hf).2⟩;rw[ek,if_pos rfl];cases fall with
      |true=>
       have:=hf1 rfl;rw[if_pos rfl];omega
      |false=>
       rw[(hf0 rfl).1,if_neg YJZ];omega
    |false=>
     refine ZU ?_;have hln:=hln rfl;clear hkeep ek;refine⟨_,rfl,ol,rfl,⟨_,SqL.of hol⟩,XT (K:=K) (a:=ol) (xs:=os.map nI) (fun i σ H3=>∃(F':FiF) (K':Nat→Nat→Nat→Nat) (v4 v9 v10:Option V),σ=[some (.ref S.x),some (.int b),some (.int ((b + m:Nat):Int)),v3,v4,some (.ref il),some (.ref ol),some (.ref ld),some (.bl false),v9,v10]∧TSt S own ps H0 H3 O1 F' K'∧(∀c o,own c=none→H2 c=some o→H3 c=some o)∧
       (∀r d b' k,¬(b'=b∧k=m)→F' r d b' k=FF r d b' k)∧(∀r∈os.take i,∀ρ,S.g[r]?=some ρ→∀d,d≤rch S.s ρ.2.1→F' r d b m=Y3 S.cut O1 (fun d k=>FF r d b k) (inn r) ρ.2.1 b (b + m) d∧K' r d b=m + 1)∧(∀r,r∉os.take i→∀d,K' r d b=KK r d b)∧∀r d b',b'≠b→K' r d b'=KK r d b')
      ⟨FF,KK,_,_,_,rfl,st,(fun _ _ _ e=>e),(fun _ _ _ _ _=>rfl),(fun r hr=>by rw[YKo]at hr;cases hr),(fun _ _ _=>rfl),fun _ _ _ _=>rfl⟩ ?_ ?_ ?_⟩
     ·rintro i σ H3 _ ⟨F',K',v4,v9,v10,rfl,st3,k3,_⟩;exact SqL.of (k3 _ _ ool hol)
     ·rintro i y σ H3 hi ⟨F',K',v4,v9,v10,rfl,st3,k3,A1,A2,A3,A4⟩;rw[YJQ]at hi;obtain⟨r,er,rfl⟩:=YJu.mp hi;have hrm:=YJS er;have hrN:=(hos.2 r).mp hrm;obtain⟨ρ,hρ⟩:=gAt hrN;have hnr:r∉os.take i:=YB4 hos.1 er;have et:os.take (i + 1)=os.take i ++ [r]:=by rw[YKF,er];rfl
      have h6:=(JS pre.g (YJS hρ)).2.1;have hr6:=J2 S.s ρ.2.1;obtain⟨a,la1,la2,la3,la4⟩:=hln r hrm ρ hρ;obtain⟨L,eL⟩:∃L,Y3 S.cut O1 (fun d k=>FF r d b k) (inn r) ρ.2.1 b (b + m)=L:=⟨_,rfl⟩;rw[eL]at la3;have hld3:=k3 _ _ old hld;have dg3:Jw H3 ld (nI r) (some (.ref a)):=by
       have:=Jw.k (k:=Sum.inl (r:Int)) hld3;rw[la1]at this;exact this
      refine⟨_,rfl,_,rfl,ld,_,rfl,dg3,a,rfl,⟨_,.inl (k3 _ _ la2 la3)⟩,J1 (K:=K) (a:=a) (xs:=Jg (rch S.s ρ.2.1) L) (fun j σ H4=>∃(F'':FiF) (K'':Nat→Nat→Nat→Nat) (v9 v10:Option V),σ=[some (.ref S.x),some (.int b),some (.int ((b + m:Nat):Int)),v3,some (nI r),some (.ref il),some (.ref ol),some (.ref ld),some (.bl false),v9,v10]∧TSt S own ps H0 H4 O1 F'' K''∧(∀c o,own c=none→H2 c=some o→H4 c=some o)∧
        (∀r d b' k,¬(b'=b∧k=m)→F'' r d b' k=FF r d b' k)∧(∀r∈os.take i,∀ρ,S.g[r]?=some ρ→∀d,d≤rch S.s ρ.2.1→F'' r d b m=Y3 S.cut O1 (fun d k=>FF r d b k) (inn r) ρ.2.1 b (b + m) d∧K'' r d b=m + 1)∧(∀r',r'∉os.take i→r'≠r→∀d,K'' r' d b=KK r' d b)∧(∀r d b',b'≠b→K'' r d b'=KK r d b')∧
        (∀d,d < j→F'' r d b m=L d∧K'' r d b=m + 1)∧∀d,j≤d→K'' r d b=KK r d b)
       ⟨F',K',_,_,rfl,st3,k3,A1,A2,(fun r' h _=>A3 r' h),A4,(fun d h=>absurd h (YK5 _)),fun d _=>A3 r hnr d⟩ ?_ ?_ ?_⟩
      ·rintro j σ H4 _ ⟨F'',K'',v9,v10,rfl,st4,k4,_⟩;exact SqL.of (k4 _ _ la2 la3)
      ·rintro j y T' σ H4 hj hT' ⟨F'',K'',v9,v10,rfl,st4,k4,B1,B2,B3,B4,B5,B6⟩;have hjR:j≤rch S.s ρ.2.1:=by
        have:=(YJM.mp hj).1;unfold Jg at this;rw[YJL,YJL,YJj]at this;omega
       unfold Jg at hj;rw[YJQ,YJQ,YJ3 (by omega)]at hj;cases hj;have s5:=YL.upd (o:=.tup [.int (j:Nat),V.int (L j)]) hT';have st5:=st4.same s5 (st4.pl.upd rfl);have k5:∀c o,own c=none→H2 c=some o→upd H4 T' (.tup [.int (j:Nat),V.int (L j)]) c=some o:=fun c o h1 h2=>s5 _ _ (k4 c o h1 h2)
       refine⟨T',_,rfl,SqT.of YD,rfl,_,_,rfl,_,_,rfl,rfl,?_⟩;revert st5 k5;generalize upd H4 T' (.tup [.int (j:Nat),V.int (L j)])=H5;intro st5 k5;obtain⟨ts,t,ds,haf,at1,ht,hdl,hcell⟩:=st5.fi hρ (by rw[pre.r];exact hrN);obtain⟨u,es,c,at2,hu2,at3,hc1,hc⟩:=hcell j hjR b (by omega);have eK:K'' r j b=m:=by rw[B6 j (YJP _)];exact hK r ρ hρ j hjR
       refine⟨_,rfl,S.x,C.Toller,S.dx,_,_,rfl,hxT st5,T.cl_Toller,T.na_Toller_first,rfl,_,rfl,S.af,_,_,_,rfl,rfl,SqL.of haf,at1,_,rfl,t,_,_,_,rfl,rfl,SqL.of ht,at2,_,rfl,u,_,_,_,rfl,rfl,SqL.of hu2,at3,.inl ⟨rfl,_,SqL.of hc⟩,_,rfl,c,_,_,rfl,rfl,hc,YJY (show((fiR F'' r j b (K'' r j b)).map V.int).length < 1000 by unfold fiR;rw[YJL,YJL,YJj];omega) (YG (YJP _)),?_⟩;have st6:=st5.addF hc1 (L j);have e6:(fiR F'' r j b (K'' r j b)).map V.int ++ [V.int (L j)]=(fiR F'' r j b (K'' r j b) ++ [L j]).map V.int:=by rw[YJo];rfl
       show ∃F'' K'' v9 v10,_∧TSt S own ps H0 (upd H5 c (.lst ((fiR _ r j b _).map V.int ++ [V.int (L j)]))) O1 F'' K''∧_;rw[e6];rw[eK]at st6 ⊢;have fF:∀r' d' b' k',¬(r'=r∧d'=j∧b'=b∧k'=m)→upF F'' r j b m (L j) r' d' b' k'=F'' r' d' b' k':=fun r' d' b' k' h=>if_neg h
       have fK:∀r' d' b',¬(r'=r∧d'=j∧b'=b)→upK K'' r j b (m + 1) r' d' b'=K'' r' d' b':=fun r' d' b' h=>if_neg h
       refine⟨_,_,_,_,rfl,st6,fun c' o' h1 h2=>?_,fun r' d' b' k' h=>?_,fun r' hr' ρ' hρ' d' hd'=>?_,fun r' hr' hne d'=>?_,fun r' d' b' h=>?_,fun d' hd'=>?_,fun d' hd'=>?_⟩
       ·rw[YH (fun z=>by rw[z,hc1]at h1;cases h1)];exact k5 c' o' h1 h2
       ·rw[fF _ _ _ _ fun z=>h z.2.2];exact B1 r' d' b' k' h
       ·have hne:r'≠r:=fun z=>hnr (z ▸ hr')
        rw[fF _ _ _ _ fun z=>hne z.1,fK _ _ _ fun z=>hne z.1];exact B2 r' hr' ρ' hρ' d' hd'
       ·rw[fK _ _ _ fun z=>hne z.1];exact B3 r' hr' hne d'
       ·rw[fK _ _ _ fun z=>h z.2.2];exact B4 r' d' b' h
       ·by_cases hdj:d'=j
        ·subst hdj;exact⟨if_pos ⟨rfl,rfl,rfl,rfl⟩,if_pos ⟨rfl,rfl,rfl⟩⟩
        ·rw[fF _ _ _ _ fun z=>hdj z.2.1,fK _ _ _ fun z=>hdj z.2.1];exact B5 d' (by omega)
       ·rw[fK _ _ _ fun z=>by omega];exact B6 d' (by omega)
      ·rintro σ H4 ⟨F'',K'',v9,v10,rfl,st4,k4,B1,B2,B3,B4,B5,B6⟩;have ell:(Jg (rch S.s ρ.2.1) L).length=rch S.s ρ.2.1 + 1:=by unfold Jg;rw[YJL,YJL,YJj]
       rw[ell]at B5 B6;refine⟨F'',K'',_,_,_,rfl,st4,k4,B1,fun r' hr' ρ' hρ' d' hd'=>?_,fun r' hr' d'=>?_,B4⟩
       ·rw[et]at hr';rcases YJs.mp hr' with h |h
        ·exact B2 r' h ρ' hρ' d' hd'
        ·have:=YJW.mp h;subst this;rw[hρ]at hρ';cases hρ';rw[eL];exact B5 d' (by omega)
       ·rw[et]at hr';exact B3 r' (fun z=>hr' (YKD _ z)) (fun z=>hr' (YJi _ (YJW.mpr z))) d'
     ·rintro σ H3 ⟨F',K',v4,v9,v10,rfl,st3,k3,A1,A2,A3,A4⟩;rw[YJL,YKj]at A2 A3;have hin':=fun(r:Nat) (ρ:Y2) (hρ:S.g[r]?=some ρ)=>(hos.2 r).mpr (YJM.mp hρ).1
      refine q O1 F' K' H3 st3 (W.fin pre I hbm hin (fun r ρ hρ hfull=>?_) A1 fun r ρ hρ d hd=>(A2 r (hin' r ρ hρ) ρ hρ d hd).1) fun r ρ hρ d hd b' hb'=>?_
      ·obtain⟨a,_,_,_,la4⟩:=hln r (hin' r ρ hρ) ρ hρ;exact la4 hfull
      ·by_cases hbb:b'=b
       ·subst hbb;rw[(A2 r (hin' r ρ hρ) ρ hρ d hd).2];unfold cnt;rw[if_pos hbm,if_pos (YLD _)]
       ·rw[A4 r d b' hbb,kok r ρ hρ d hd b' hb'];unfold cnt;have:(b' < b)=(b' < b + 1):=propext ⟨fun h=>by omega,fun h=>by omega⟩;simp only[this]
end
theorem sgT_pos {t p:Str}{put cut swap:Int} (h1:0≤put) (h2:0≤cut) (h3:0≤swap) {b e:Nat}:0≤sgT t put cut swap p b e:=by
 unfold sgT;split
 ·exact h1
 ·next hne=>
  have a1:0≤((e:Int) - b - 1) * cut:=YKN (by omega) h2;have a2:0≤((e:Int) - b) * cut:=YKN (by omega) h2;have a3:(0:Int)≤(if YFS (Xr p) t b e=true then 0 else swap):=by split <;> omega
  split <;> omega
inductive YCg (C:Addr) (vs:List V) (H:Hp) (Q:VK):Prop where
 |mk (T:Tol) (own:Addr→Option XE) (ps:List Str) (H0:Hp) (h0_:vs=[.ref T.x]) (h1_:YBf C T) (h2_:TSt T own ps H0 H (ovO T) noF noK) (h3_:YCf T.g T.s ps) (h4_:∀O F K H',TSt T own ps H0 H' O F K→YBu T O F (T.n + 1) 0→KOk T K (T.n + 1) 0→Q .non H'):YCg C vs H Q
def YDo (C:Addr):Sp:=fun vs H Q E_=>YCg C vs H Q
section
variable {P:Program}{w:World}{K:W.Frag}{mg:Str→Option Value}{base:Heap}{C:Adr}
theorem Za:YV ["self","places","many","begin"] ["self"] (YJ JG):=⟨rfl,rfl,rfl,by decide +kernel,rfl,by decide +kernel,by decide +kernel⟩
theorem YA1 {f:Addr}{fd:FuncData} (F:Fun K "take_all" "Toller.take_all" JG f fd) (T:Txt K mg C) (U_Toller_take_span:YAH P w K mg CX0 2 C.Toller "take_span" ["self","begin","end"] (YG8 C.Toller)):Yr P w K mg base CX0 3 f fd ["self"] (YDo C.Toller):=by
 obtain⟨f_Toller_take_span,fd_Toller_take_span,G_Toller_take_span,me_Toller_take_span,b_Toller_take_span⟩:=U_Toller_take_span.ok;refine F.ok Za (fun vs H Q E h=>?_) (fun cdv A outer s H vs Q E hr h=>?_)
 ·cases h;subst_vars;rfl
 ·obtain⟨S,own,ps,H0,rfl,pre,st,pso,q⟩:=h;have hu:=Jd hr;refine⟨_,(YE (YM (i:=1) Za.nd rfl (Or.inl rfl) (YI Yb (YK Yq (by rfl) T.z_len YJT (YA (Yc K rfl (pv 0) rfl) YB)) YC))
   (YF (Yi PassesOwn.never rfl (Yt rfl T.z_range (YA (pv 1) YB)) (YN (i:=2) Za.nd rfl (Or.inl rfl)) (YF (Yi PassesOwn.never rfl (Yt rfl T.z_range (YA (YI Z2 (pv 1) (pv 2)) YB)) (YN (i:=3) Za.nd rfl (Or.inl rfl)) (YF (ZV (Xj (pv 0) T.cl_Toller me_Toller_take_span (G_Toller_take_span base) (hr.mono (by decide)) b_Toller_take_span .nil Yf (YA (pv 3) (YA (YI Yb (pv 3) (pv 2)) YB)))))))))),?_⟩
  have line:∀k:Nat,k≤61→k≤sizeLine:=fun k hk=>YJt hk (YG (by decide))
  have hn:=pre.n;have htn:=pre.t;have hxT:∀{H' O F K},TSt S own ps H0 H' O F K→H' S.x=some (.ins C.Toller S.dx S.fld):=fun h=>by rw[←pre.c];exact h.hx
  have I0:YBu S (ovO S) noF 0 0:=by
   refine⟨fun p b e=>?_,fun p b e hq=>if_pos hq,fun b' m' h=>?_⟩
   ·unfold ovO;split
    ·exact sgT_pos pre.put0 pre.cut0 pre.sw0
    ·exact YKI _
   ·rcases h.2 with h |h <;> omega
  have K0:KOk S noK 0 0:=fun r ρ hρ d hd b' hb'=>by
   unfold cnt;rw[if_pos (by omega),if_neg (YK5 _)];rfl
  refine⟨_,rfl,S.x,C.Toller,S.dx,_,_,rfl,hxT st,T.cl_Toller,T.na_Toller_text,rfl,_,rfl,line _ (by omega),_,_,rfl,rfl,?_⟩;have epl:((S.t.length:Int) + 1)=((S.n + 1:Nat):Int):=by rw[htn];rfl
  refine⟨_,rfl,((S.n + 1:Nat):Int),by rw[epl],by omega,by omega,?_⟩;refine Y0 (lo:=0) (n:=S.n + 1) (fun i σ H2=>∃O F K v2 v3,σ=[some (.ref S.x),some (.int ((S.t.length:Int) + 1)),v2,v3]∧TSt S own ps H0 H2 O F K∧YBu S O F i 0∧KOk S K i 0) ⟨_,_,_,none,none,rfl,st,I0,K0⟩ ?_ ?_
  ·rintro i σ H2 hi ⟨O,FF,KK,v2,v3,rfl,st,I,kok⟩;refine⟨_,rfl,_,rfl,_,_,rfl,rfl,((S.n + 1 - i:Nat):Int),by rw[epl,show((S.n + 1:Nat):Int) - (0 + (i:Int))=((S.n + 1 - i:Nat):Int) by omega],by omega,by omega,?_⟩;refine Y0 (lo:=0) (n:=S.n + 1 - i) (fun j σ H3=>∃O F K v3,σ=[some (.ref S.x),some (.int ((S.t.length:Int) + 1)),some (.int (0 + (i:Int))),v3]∧TSt S own ps H0 H3 O F K∧YBu S O F i j∧KOk S K i j) ⟨O,FF,KK,v3,rfl,st,I,kok⟩ ?_ ?_
   ·rintro j σ H3 hj ⟨O,FF,KK,v3,rfl,st,I,kok⟩;refine⟨_,rfl,S.x,S.dx,_,rfl,hxT st,rfl,_,rfl,_,rfl,_,rfl,_,_,rfl,rfl,S,own,ps,H0,O,FF,KK,j,i,?_,pre,st,pso,I,kok,by omega,fun O' F' K' H' st' I' k'=>⟨O',F',K',_,rfl,st',I',k'⟩⟩;rw[YKP,YKP];rfl
   ·rintro σ H3 ⟨O,FF,KK,v3,rfl,st,I,kok⟩;refine⟨O,FF,KK,_,_,rfl,st,⟨I.pos,I.sg,fun b' m' h=>I.dn b' m' ⟨h.1,?_⟩⟩,fun r ρ hρ d hd b' hb'=>?_⟩
    ·have:=h.1;rcases h.2 with h |h <;> omega
    ·rw[kok r ρ hρ d hd b' hb'];unfold cnt
     by_cases h1:b' + i≤S.n
     ·rw[if_pos h1,if_pos (by omega)]
      by_cases h2:b' + (i + 1)≤S.n
      ·rw[if_pos h2,if_neg (YK5 _)]
      ·rw[if_neg h2];omega
     ·rw[if_neg h1,if_neg (by omega)]
  ·rintro σ H2 ⟨O,FF,KK,v2,v3,rfl,st,I,kok⟩;exact q O FF KK H2 st I kok
end
def XR (O:OvF) (F:FiF):Nd→Int
 |.part p b e=>O p b e
 |.beg r d b e=>F r d b (e - b)
def FdT (H:Hp) (kvs:List (List Key×V)) (fs:List (Nd×Int)):Prop:=kvs.length=fs.length∧∀(i:Nat) (kv:List Key×V) (x:Nd×Int),kvs[i]?=some kv→fs[i]?=some x→∃t,kv=(ZE x.1,.ref t)∧H t=some (.tup [.int (x.2 / M60),.int (x.2 % M60)])
theorem FdT.keep {H H':Hp}{kvs:List (List Key×V)}{fs:List (Nd×Int)} (h:FdT H kvs fs) (k:∀t ys,H t=some (.tup ys)→H' t=some (.tup ys)):FdT H' kvs fs:=⟨h.1,fun i kv x e1 e2=>let ⟨t,h1,h2⟩:=h.2 i kv x e1 e2;⟨t,h1,k _ _ h2⟩⟩
theorem FdT.keys {H:Hp}{kvs:List (List Key×V)}{fs:List (Nd×Int)} (h:FdT H kvs fs):kvs.map (·.1)=fs.map fun x=>ZE x.1:=by
 apply YKs;intro i;rw[YJQ,YJQ];rcases YJr i kvs.length with hi |hi
 ·have e1:=YJR hi;have e2:=YJR (show i < fs.length by rw[←h.1];exact hi);obtain⟨t,h1,_⟩:=h.2 i _ _ e1 e2;rw[e1,e2,h1];rfl
 ·rw[YJy hi,YJy (by rw[←h.1];exact hi)];rfl
theorem FdT.val {H:Hp}{kvs:List (List Key×V)}{fs:List (Nd×Int)} (h:FdT H kvs fs) (nd:Nd):(Yw kvs (ZE nd)=none∧nd∉fs.map (·.1))∨∃t v,Yw kvs (ZE nd)=some (.ref t)∧(nd,v)∈fs∧H t=some (.tup [.int (v / M60),.int (v % M60)]):=by
 cases hv:Yw kvs (ZE nd) with
 |none=>
  refine .inl ⟨rfl,fun hm=>?_⟩;have:ZE nd∈kvs.map (·.1):=by
   rw[h.keys];obtain⟨x,h1,h2⟩:=YJh.mp hm;exact YJh.mpr ⟨x,h1,by rw[h2]⟩
  obtain⟨kv,h1,h2⟩:=YJh.mp this;have:=Zm (ZE nd) kvs;rw[hv,YKx.mpr ⟨kv,h1,YJU h2⟩]at this;cases this
 |some y=>
  unfold Yw at hv;obtain⟨kv,h1,h2⟩:=YJu.mp hv;have hk:=List.find?_some h1;have hk:=YJm hk;obtain⟨i,hi,ei⟩:=YKq.mp (YKp h1);have e1:kvs[i]?=some kv:=by rw[YJR hi,ei]
  obtain⟨x,e2⟩:∃x,fs[i]?=some x:=⟨_,YJR (by rw[←h.1];exact hi)⟩;obtain⟨t,g1,g2⟩:=h.2 i _ _ e1 e2;have:x.1=nd:=YCV (by rw[←hk,g1]);refine .inr ⟨t,x.2,by rw[←h2,g1],?_,g2⟩;rw[←this];exact YJS e2
theorem FdT.snoc {H:Hp}{kvs:List (List Key×V)}{fs:List (Nd×Int)} (h:FdT H kvs fs) {nd:Nd}{v:Int}{t:Addr} (ht:H t=some (.tup [.int (v / M60),.int (v % M60)])) (hn:nd∉fs.map (·.1)):FdT H (Ys kvs (ZE nd) (.ref t)) (fs ++ [(nd,v)]):=by
 have hv:Yw kvs (ZE nd)=none:=by
  rcases h.val nd with h1 |⟨t',v',_,h2,_⟩
  ·exact h1.1
  ·exact absurd (YJh.mpr ⟨_,h2,rfl⟩) hn
 rw[L2.YAC _ hv];refine⟨by rw[YJd,YJd,h.1];rfl,fun i kv x e1 e2=>?_⟩;rcases YJr i kvs.length with hi |hi
 ·rw[YJ5 hi]at e1;rw[YJ5 (by rw[←h.1];exact hi)]at e2;exact h.2 i kv x e1 e2
 ·rw[YJ2 hi]at e1;rw[YJ2 (by rw[←h.1];exact hi),←h.1]at e2;have hz:i - kvs.length=0:=by
   have:=(YJM.mp e1).1;simp only[YJn,YKa]at this;omega
  rw[hz]at e1 e2;cases e1;cases e2;exact⟨t,rfl,ht⟩
structure FdP (O:OvF) (F:FiF) (fs:List (Nd×Int)) (Pg:Nd→Prop):Prop where
 nd:(fs.map (·.1)).Nodup
 val:∀x∈fs,x.2=XR O F x.1
 mem:∀n,n∈fs.map (·.1)↔Pg n
theorem FdP.snoc {O:OvF}{F:FiF}{fs:List (Nd×Int)}{Pg Pg':Nd→Prop} (h:FdP O F fs Pg) {n:Nd} (hn:¬Pg n) (hp:∀n',Pg' n'↔Pg n'∨n'=n):FdP O F (fs ++ [(n,XR O F n)]) Pg':=by
 have hn':n∉fs.map (·.1):=fun z=>hn ((h.mem n).mp z)
 refine⟨by rw[YJo];exact YAZ h.nd hn',fun x hx=>?_,fun n'=>?_⟩
 ·rcases YJs.mp hx with hx |hx
  ·exact h.val x hx
  ·rw[YJW.mp hx]
 ·rw[YJo,YJs,h.mem,hp];exact or_congr Iff.rfl YJW
theorem FdP.iff {O:OvF}{F:FiF}{fs:List (Nd×Int)}{Pg Pg':Nd→Prop} (h:FdP O F fs Pg) (hp:∀n',Pg' n'↔Pg n'):FdP O F fs Pg':=⟨h.nd,h.val,fun n=>(h.mem n).trans (hp n).symm⟩
structure Tld (H:Hp) (ao d:Addr) (o:Obj) (kvA:List (Key×V)) (O:OvF) (F:FiF) (H2:Hp) (kvs:List (List Key×V)) (fs:List (Nd×Int)) (Pg:Nd→Prop):Prop where
 kp:∀c w,c≠ao→H c=some w→H2 c=some w
 pl:∀c w,c≠d→H2 c=some w→YAo w=true
 ha:H2 ao=some (.frz o (.dK kvA))
 hd:H2 d=some (.dT kvs)
 fd:FdT H2 kvs fs
 fp:FdP O F fs Pg
section
variable {H:Hp}{ao d:Addr}{o:Obj}{kvA:List (Key×V)}{O:OvF}{F:FiF}{H2:Hp}{kvs:List (List Key×V)}{fs:List (Nd×Int)}{Pg Pg':Nd→Prop}
theorem Tld.new (h:Tld H ao d o kvA O F H2 kvs fs Pg) {t:Addr}{ys:List V} (ht:H2 t=none):Tld H ao d o kvA O F (upd H2 t (.tup ys)) kvs fs Pg:=by
 have s:=YL.upd (o:=.tup ys) ht;refine⟨fun c w h1 h2=>s _ _ (h.kp c w h1 h2),fun c w h1 h2=>?_,s _ _ h.ha,s _ _ h.hd,h.fd.keep fun t ys e=>s _ _ e,h.fp⟩
 by_cases hc:c=t
 ·rw[hc,YD]at h2;cases h2;rfl
 ·rw[YH hc]at h2;exact h.pl c w h1 h2
theorem Tld.put (h:Tld H ao d o kvA O F H2 kvs fs Pg) {t:Addr}{n:Nd} (ht:H2 t=some (.tup [.int (XR O F n / M60),.int (XR O F n % M60)])) (hn:¬Pg n) (hp:∀n',Pg' n'↔Pg n'∨n'=n) (hd0:H d=none):Tld H ao d o kvA O F (upd H2 d (.dT (Ys kvs (ZE n) (.ref t)))) (Ys kvs (ZE n) (.ref t)) (fs ++ [(n,XR O F n)]) Pg':=by
 have st:∀{c w},(∀k,w≠.dT k)→H2 c=some w→upd H2 d (.dT (Ys kvs (ZE n) (.ref t))) c=some w:=fun hw e=>by
  rw[YH (fun z=>by rw[z,h.hd]at e;exact hw _ (YJk e).symm)];exact e
 refine⟨fun c w h1 h2=>?_,fun c w h1 h2=>?_,st (fun _ z=>nomatch z) h.ha,YD,?_,h.fp.snoc hn hp⟩
 ·rw[YH (fun z=>by rw[z,hd0]at h2;cases h2)];exact h.kp c w h1 h2
 ·rw[YH h1]at h2;exact h.pl c w h1 h2
 ·have f:=h.fd.snoc ht fun z=>hn ((h.fp.mem n).mp z)
  exact f.keep fun t ys e=>st (fun _ z=>nomatch z) e
theorem Tld.iff (h:Tld H ao d o kvA O F H2 kvs fs Pg) (hp:∀n',Pg' n'↔Pg n'):Tld H ao d o kvA O F H2 kvs fs Pg':=⟨h.kp,h.pl,h.ha,h.hd,h.fd,h.fp.iff hp⟩
end
def pg1 (n:Nat) (P:List Str):Nd→Prop
 |.part p b e=>p∈P∧b≤e∧e≤n
 |.beg _ _ _ _=>False
def pg3 (n:Nat) (P:List Str) (p:Str) (j k:Nat):Nd→Prop
 |.part p' b e=>(p'∈P∧b≤e∧e≤n)∨(p'=p∧b≤e∧(e < j∨(e=j∧b < k)))
 |.beg _ _ _ _=>False
def pg7 (T:Tol) (ps:List Str) (r d b k:Nat):Nd→Prop
 |.part p b e=>p∈ps∧b≤e∧e≤T.n
 |.beg r' d' b' e=>(∃ρ,T.g[r']?=some ρ∧d'≤rch T.s ρ.2.1)∧b'≤e∧e≤T.n∧(r' < r∨(r'=r∧(d' < d∨(d'=d∧(b' < b∨(b'=b∧e < b + k))))))
def X5 (T:Tol) (ps:List Str):Nd→Prop
 |.part p b e=>p∈ps∧b≤e∧e≤T.n
 |.beg r d b e=>(∃ρ,T.g[r]?=some ρ∧d≤rch T.s ρ.2.1)∧b≤e∧e≤T.n
inductive YG9 (C:Addr) (vs:List V) (H:Hp) (Q:VK):Prop where
 |mk (T:Tol) (own:Addr→Option XE) (ps:List Str) (H0:Hp) (O:OvF) (F:FiF) (K:Nat→Nat→Nat→Nat) (h0_:vs=[.ref T.x]) (h1_:YBf C T) (h2_:TSt T own ps H0 H O F K) (h3_:YCf T.g T.s ps) (h4_:KOk T K (T.n + 1) 0) (h5_:H0 T.ao=none) (h6_:∀d o kvs fs H',YL H0 H'→YS H'→H' d=some (.frz o (.dT kvs))→FdT H' kvs fs→FdP O F fs (X5 T ps)→Q (.ref d) H'):YG9 C vs H Q
def YI5 (C:Addr):Sp:=fun vs H Q E_=>YG9 C vs H Q
section
variable {P:Program}{w:World}{K:W.Frag}{mg:Str→Option Value}{base:Heap}{C:Adr}
theorem YO:YV ["self","found","part","end","line","begin","toll","number","table","done","lines","many"] ["self"] (YJ Zx):=⟨rfl,rfl,rfl,by decide +kernel,rfl,by decide +kernel,by decide +kernel⟩
theorem YAR {f:Addr}{fd:FuncData} (F:Fun K "told_tolls" "Toller.told_tolls" Zx f fd) (T:Txt K mg C):Yr P w K mg base CX0 1 f fd ["self"] (YI5 C.Toller):=by
 refine F.ok YO (fun vs H Q E h=>?_) (fun cdv A outer s H vs Q E hr h=>?_)
 ·cases h;subst_vars;rfl
 ·obtain⟨S,own,ps,H0,O,FF,KK,rfl,pre,st,pso,kok,hao0,q⟩:=h;have hu:=Jd hr;refine qex ?_;refine⟨_,(Y4 ⟨(YM (i:=1) YO.nd rfl (Or.inl rfl) YEl)⟩
   (Y4 ⟨(Yi PassesOwn.never rfl (YEI (Yc K rfl (pv 0) rfl)) (YN (i:=2) YO.nd rfl (Or.inl rfl)) (YF (Yi PassesOwn.never rfl (Xl K rfl rfl T.z_enumerate (YA (ZK hu (Yc K rfl (pv 0) rfl) (pv 2) (fun _ _=>rfl)) YB)) (Jq K rfl (n:=2) rfl (Yx (YN (i:=3) YO.nd rfl (Or.inl rfl)) (Yx (YN (i:=4) YO.nd rfl (Or.inl rfl)) Jp))) (YF (Yi PassesOwn.never rfl (Xl K rfl rfl T.z_enumerate (YA (pv 4) YB)) (Jq K rfl (n:=2) rfl (Yx (YN (i:=5) YO.nd rfl (Or.inl rfl)) (Yx (YN (i:=6) YO.nd rfl (Or.inl rfl)) Jp))) (YF (JX hu (pv 1) (ZW (YA (pv 2) (YA (pv 5) (YA (pv 3) YB)))) (YK YBC (by rfl) T.z_divmod PyProof.Rows.Boot.«divmod» (YA (pv 6) (YA (YI X8 YC YC) YB))) rfl)))))))⟩
   (Y4 ⟨(Yi PassesOwn.never rfl (Xl K rfl rfl T.z_enumerate (YA (Yc K rfl (pv 0) rfl) YB)) (Jq K rfl (n:=2) rfl (Yx (YN (i:=7) YO.nd rfl (Or.inl rfl)) (Yx (YN (i:=8) YO.nd rfl (Or.inl rfl)) Jp))) (YF (Yi PassesOwn.never rfl (Xl K rfl rfl T.z_enumerate (YA (pv 8) YB)) (Jq K rfl (n:=2) rfl (Yx (YN (i:=9) YO.nd rfl (Or.inl rfl)) (Yx (YN (i:=10) YO.nd rfl (Or.inl rfl)) Jp))) (YF (Yi PassesOwn.never rfl (Xl K rfl rfl T.z_enumerate (YA (pv 10) YB)) (Jq K rfl (n:=2) rfl (Yx (YN (i:=5) YO.nd rfl (Or.inl rfl)) (Yx (YN (i:=4) YO.nd rfl (Or.inl rfl)) Jp))) (YF (Yi PassesOwn.never rfl (Xl K rfl rfl T.z_enumerate (YA (pv 4) YB)) (Jq K rfl (n:=2) rfl (Yx (YN (i:=11) YO.nd rfl (Or.inl rfl)) (Yx (YN (i:=6) YO.nd rfl (Or.inl rfl)) Jp))) (YF (JX hu (pv 1) (ZW (ZI (pv 7) (ZI (pv 9) (ZI (pv 5) (ZI (YI Yb (pv 5) (pv 11)) YB))))) (YK YBC (by rfl) T.z_divmod PyProof.Rows.Boot.«divmod» (YA (pv 6) (YA (YI X8 YC YC) YB))) rfl)))))))))⟩
   (YEC ⟨(YX (YE7 (pv 1)))⟩)))),?_⟩
  have hn:=pre.n;have hps:=(show PsI S.g S.s ps [] from⟨pso.1,pso.2.1,pso.2.2.1,(fun p hp=>by cases hp),pso.2.2.2.2⟩).len pre.g pre.s;have hx:H S.x=some (.ins C.Toller S.dx S.fld):=by rw[←pre.c];exact st.hx
  obtain⟨kvA,hao,hks,hov⟩:=st.hao;have hkl:kvA.length=ps.length:=by have:=YKV List.length hks;rwa [YJL,YJL]at this
  have naoL:∀{c:Addr}{xs:List V},H c=some (.lst xs)→c≠S.ao:=fun e z=>by rw[z,hao]at e;cases e
  have naoX:S.x≠S.ao:=fun z=>by rw[z,hao]at hx;cases hx
  have line:∀k:Nat,k < 10000000→k < sizeLine:=fun k hk=>Nat.lt_trans hk (by rw[sizeLine_eq];decide)
  have pw:CPow 10 60:=⟨by decide,by decide,by decide⟩;have l60:((10:Int) ^ (60:Int).toNat).natAbs.log2 < 9000:=by decide +kernel
  refine fun d hd=>?_
  have hxd:∀{w},upd H d w S.x=some (.ins C.Toller S.dx S.fld):=fun{w}=>by rw[YH (YR hx hd)];exact hx
  refine⟨_,rfl,S.x,C.Toller,S.dx,_,_,rfl,hxd,T.cl_Toller,T.na_Toller_over,rfl,S.ao,kvA,rfl,by rw[YH (YR hao hd)];exact hao,fun o=>?_⟩;have T0:Tld H S.ao d o kvA O FF (upd (upd H d (.dT [])) S.ao (.frz o (.dK kvA))) [] [] (pg1 S.n (ps.take 0)):=by
   have nda:d≠S.ao:=(YR hao hd).symm;refine⟨fun c w h1 h2=>by rw[YH h1,YH (YR h2 hd)];exact h2,fun c w h1 h2=>?_,YD,by rw[YH nda,YD],⟨rfl,fun i kv x e=>by cases e⟩,⟨List.nodup_nil,(fun x hx=>by cases hx),fun n=>⟨(fun hx=>by cases hx),fun hx=>?_⟩⟩⟩
   ·by_cases hc:c=S.ao
    ·rw[hc,YD]at h2;cases h2;rfl
    ·rw[YH hc,YH h1]at h2;exact st.pl c w h2
   ·cases n with
    |part p b e=>rw[YKo]at hx;cases hx.1
    |beg=>cases hx
  have hxk:∀{H2 kvs fs Pg},Tld H S.ao d o kvA O FF H2 kvs fs Pg→H2 S.x=some (.ins C.Toller S.dx S.fld):=fun t=>t.kp _ _ naoX hx
  refine YAb (Pv:=fun i σ H2=>H2 S.ao=some (.frz o (.dK kvA))∧∃kvs fs v2 v3 v4 v5 v6,σ=[some (.ref S.x),some (.ref d),v2,v3,v4,v5,v6,none,none,none,none,none]∧Tld H S.ao d o kvA O FF H2 kvs fs (pg1 S.n (ps.take i))∧fs.length≤i * 3721) ⟨T0.ha,[],[],none,none,none,none,none,rfl,T0,YJP _⟩ (fun i σ H2 _ h=>h.1) ?_ ?_
  ·rintro i kv σ H2 hkv ⟨_,kvs,fs,v2,v3,v4,v5,v6,rfl,TT,hfl⟩;have hik:=(YJM.mp hkv).1;obtain⟨p,ep,ekv⟩:∃p,ps[i]?=some p∧kv.1=Sum.inr p:=by
    have e:=YKV (fun l=>l[i]?) hks;simp only[YJQ]at e;rw[hkv]at e;obtain⟨p,h1,h2⟩:=YJu.mp e.symm;exact⟨p,h1,h2.symm⟩
   have hpm:=YJS ep;have hnp:p∉ps.take i:=YB4 pso.1 ep;obtain⟨a,bs,g1,g2,g3,g4,g5⟩:=hov p hpm;have ga:=TT.kp _ _ (naoL g3) g3;rw[ekv];refine⟨_,rfl,S.x,C.Toller,S.dx,_,_,rfl,hxk TT,T.cl_Toller,T.na_Toller_over,rfl,_,rfl,S.ao,_,rfl,.inl ⟨_,Sum.inr p,.inr ⟨o,TT.ha⟩,rfl,g1.symm⟩,a,rfl,⟨_,.inl ga⟩,J1 (K:=K) (a:=a) (xs:=bs.map V.ref) (fun j σ H3=>∃kvs fs v3 v4 v5 v6,σ=[some (.ref S.x),some (.ref d),some (.str p),v3,v4,v5,v6,none,none,none,none,none]∧Tld H S.ao d o kvA O FF H3 kvs fs (pg3 S.n (ps.take i) p j 0)∧fs.length≤i * 3721 + j * 61)
    ⟨kvs,fs,_,_,_,_,rfl,TT.iff fun n'=>?_,by omega⟩ ?_ ?_ ?_⟩
   ·cases n' with
    |part p' b e=>exact⟨fun h=>h.elim id fun h=>by omega,.inl⟩
    |beg=>exact Iff.rfl
   ·rintro j σ H3 _ ⟨kvs,fs,v3,v4,v5,v6,rfl,TT,_⟩;exact SqL.of (TT.kp _ _ (naoL g3) g3)
   ·rintro j y T' σ H3 hj hT' ⟨kvs,fs,v3,v4,v5,v6,rfl,TT,hfl⟩;rw[YJQ]at hj;obtain⟨c,ec,rfl⟩:=YJu.mp hj;have hjn:j≤S.n:=by have:=(YJM.mp ec).1;omega
    obtain⟨hc1,hc⟩:=g5 j c ec;have T2:=TT.new (ys:=[.int (j:Nat),.ref c]) hT';have hcc:=T2.kp _ _ (naoL hc) hc;refine⟨T',_,rfl,SqT.of YD,rfl,_,_,rfl,_,_,rfl,rfl,?_⟩;refine⟨_,rfl,c,rfl,⟨_,.inl hcc⟩,J1 (K:=K) (a:=c) (xs:=(ovR O p j).map V.int) (fun k σ H4=>∃kvs fs v5 v6,σ=[some (.ref S.x),some (.ref d),some (.str p),some (.int (j:Nat)),some (.ref c),v5,v6,none,none,none,none,none]∧Tld H S.ao d o kvA O FF H4 kvs fs (pg3 S.n (ps.take i) p j k)∧fs.length≤i * 3721 + j * 61 + k)
     ⟨kvs,fs,_,_,rfl,T2,by omega⟩ ?_ ?_ ?_⟩
    ·rintro k σ H4 _ ⟨kvs,fs,v5,v6,rfl,TT,_⟩;exact SqL.of (TT.kp _ _ (naoL hc) hc)
    ·rintro k y T'' σ H4 hk hT'' ⟨kvs,fs,v5,v6,rfl,TT,hfl⟩;have hkj:k≤j:=by
      have:=(YJM.mp hk).1;unfold ovR at this;rw[YJL,YJL,YJj]at this;omega
     unfold ovR at hk;rw[YJQ,YJQ,YJ3 (by omega)]at hk;cases hk;have T3:=TT.new (ys:=[.int (k:Nat),V.int (O p k j)]) hT'';refine⟨T'',_,rfl,SqT.of YD,rfl,_,_,rfl,_,_,rfl,rfl,?_⟩;revert T3;generalize upd H4 T'' (.tup [.int (k:Nat),V.int (O p k j)])=H5;intro T3;refine⟨_,rfl,_,_,rfl,rfl,pw,_,_,rfl,by decide,l60,fun t ht=>?_⟩;have T4:=T3.new (ys:=[.int (O p k j / 10 ^ (60:Int).toNat),.int (O p k j % 10 ^ (60:Int).toNat)]) ht;have ht4:upd H5 t (.tup [.int (O p k j / 10 ^ (60:Int).toNat),.int (O p k j % 10 ^ (60:Int).toNat)]) t=some (.tup [.int (O p k j / M60),.int (O p k j % M60)]):=YD;revert T4 ht4;generalize upd H5 t (.tup [.int (O p k j / 10 ^ (60:Int).toNat),.int (O p k j % 10 ^ (60:Int).toNat)])=H6;intro T4 ht4;refine⟨_,rfl,_,rfl,_,rfl,_,rfl,YK6 (line 3 (by decide)),fun kt hkt=>?_⟩;have T5:=T4.new (ys:=[.str p,.int (k:Nat),.int (j:Nat)]) hkt;refine⟨d,_,rfl,YBR.t (k:=ZE (.part p k j)) T5.hd YD (line _ (by rw[T5.fd.1];omega)),?_⟩;have hnp3:¬pg3 S.n (ps.take i) p j k (.part p k j):=fun h=>by
      rcases h with h |h
      ·exact hnp h.1
      ·omega
     exact⟨_,_,_,_,rfl,T5.put (n:=.part p k j) ((YL.upd hkt) _ _ ht4) hnp3 (fun n'=>by
      cases n' with
      |part p' b e=>
       show((p'∈ps.take i∧b≤e∧e≤S.n)∨(p'=p∧b≤e∧(e < j∨(e=j∧b < k + 1))))↔(((p'∈ps.take i∧b≤e∧e≤S.n)∨(p'=p∧b≤e∧(e < j∨(e=j∧b < k))))∨Nd.part p' b e=.part p k j);rw[Nd.part.injEq];constructor
       ·rintro(h |⟨h1,h2,h3⟩)
        ·exact .inl (.inl h)
        ·by_cases hbk:e=j∧b=k
         ·exact .inr ⟨h1,hbk.2,hbk.1⟩
         ·exact .inl (.inr ⟨h1,h2,by omega⟩)
       ·rintro((h |⟨h1,h2,h3⟩) |⟨h1,h2,h3⟩)
        ·exact .inl h
        ·exact .inr ⟨h1,h2,by omega⟩
        ·exact .inr ⟨h1,by omega,by omega⟩
      |beg=>exact⟨(fun h=>by cases h),fun h=>h.elim (fun h=>by cases h) fun h=>by cases h⟩) hd,by rw[YJd];show _ + 1≤_;omega⟩
    ·rintro σ H4 ⟨kvs,fs,v5,v6,rfl,TT,hfl⟩;have ell:((ovR O p j).map V.int).length=j + 1:=by unfold ovR;rw[YJL,YJL,YJj]
     rw[ell]at TT hfl;refine⟨kvs,fs,_,_,_,_,rfl,TT.iff fun n'=>?_,by omega⟩;cases n' with
     |part p' b e=>exact or_congr Iff.rfl ⟨fun h=>⟨h.1,h.2.1,by omega⟩,fun h=>⟨h.1,h.2.1,by omega⟩⟩
     |beg=>exact Iff.rfl
   ·rintro σ H3 ⟨kvs,fs,v3,v4,v5,v6,rfl,TT,hfl⟩;rw[YJL,g4]at TT hfl;refine⟨TT.ha,kvs,fs,_,_,_,_,_,rfl,TT.iff fun n'=>?_,by omega⟩;have et:ps.take (i + 1)=ps.take i ++ [p]:=by rw[YKF,ep];rfl
    cases n' with
    |part p' b e=>
     show(p'∈ps.take (i + 1)∧b≤e∧e≤S.n)↔_;rw[et];constructor
     ·rintro⟨h1,h2,h3⟩;rcases YJs.mp h1 with h1 |h1
      ·exact .inl ⟨h1,h2,h3⟩
      ·exact .inr ⟨YJW.mp h1,h2,by omega⟩
     ·rintro(⟨h1,h2,h3⟩ |⟨h1,h2,h3⟩)
      ·exact⟨YKD _ h1,h2,h3⟩
      ·exact⟨YJi _ (YJW.mpr h1),h2,by omega⟩
    |beg=>exact Iff.rfl
  ·rintro σ H2 ⟨_,kvs,fs,v2,v3,v4,v5,v6,rfl,TT,hfl⟩;rw[hkl,YKj]at TT;rw[hkl]at hfl;obtain⟨ts,b1,b2,b3,b4⟩:=st.haf;rw[pre.r]at b3;have hg60:=YAY pre.g;have haf2:=TT.kp _ _ (naoL b2) b2;refine⟨_,rfl,S.x,C.Toller,S.dx,_,_,rfl,hxk TT,T.cl_Toller,T.na_Toller_first,rfl,S.af,rfl,⟨_,.inl haf2⟩,J1 (K:=K) (a:=S.af) (xs:=ts.map V.ref) (fun r σ H3=>∃kvs fs v4 v5 v6 v7 v8 v9 v10 v11,σ=[some (.ref S.x),some (.ref d),v2,v3,v4,v5,v6,v7,v8,v9,v10,v11]∧Tld H S.ao d o kvA O FF H3 kvs fs (pg7 S ps r 0 0 0)∧fs.length≤1562820 + r * 26047)
    ⟨kvs,fs,_,_,_,_,_,_,_,_,rfl,TT.iff fun n'=>?_,by omega⟩ ?_ ?_ ?_⟩
   ·cases n' with
    |part=>exact Iff.rfl
    |beg r' d' b' e=>exact⟨fun h=>by have:=h.2.2.2;omega,fun h=>by cases h⟩
   ·rintro r σ H3 _ ⟨kvs,fs,v4,v5,v6,v7,v8,v9,v10,v11,rfl,TT,_⟩;exact SqL.of (TT.kp _ _ (naoL b2) b2)
   ·rintro r y T1 σ H3 hr' hT1 ⟨kvs,fs,v4,v5,v6,v7,v8,v9,v10,v11,rfl,TT,hfl⟩;rw[YJQ]at hr';obtain⟨t,et,rfl⟩:=YJu.mp hr';have hrl:r < S.g.length:=by have:=(YJM.mp et).1;omega
    obtain⟨ρ,hρ⟩:∃ρ,S.g[r]?=some ρ:=⟨_,YJR hrl⟩;have h6:=(JS pre.g (YJS hρ)).2.1;have hr6:=J2 S.s ρ.2.1;obtain⟨ds,c1,c2,c3,c4⟩:=b4 r t ρ et hρ;have T2:=TT.new (ys:=[.int (r:Nat),.ref t]) hT1;have ht2:=T2.kp _ _ (naoL c2) c2;refine⟨T1,_,rfl,SqT.of YD,rfl,_,_,rfl,_,_,rfl,rfl,?_⟩;refine⟨_,rfl,t,rfl,⟨_,.inl ht2⟩,J1 (K:=K) (a:=t) (xs:=ds.map V.ref) (fun dd σ H4=>∃kvs fs v4 v5 v6 v9 v10 v11,σ=[some (.ref S.x),some (.ref d),v2,v3,v4,v5,v6,some (.int (r:Nat)),some (.ref t),v9,v10,v11]∧Tld H S.ao d o kvA O FF H4 kvs fs (pg7 S ps r dd 0 0)∧fs.length≤1562820 + r * 26047 + dd * 3721)
     ⟨kvs,fs,_,_,_,_,_,_,rfl,T2,by omega⟩ ?_ ?_ ?_⟩
    ·rintro dd σ H4 _ ⟨kvs,fs,v4,v5,v6,v9,v10,v11,rfl,TT,_⟩;exact SqL.of (TT.kp _ _ (naoL c2) c2)
    ·rintro dd y T3 σ H4 hd' hT3 ⟨kvs,fs,v4,v5,v6,v9,v10,v11,rfl,TT,hfl⟩;rw[YJQ]at hd';obtain⟨u,eu,rfl⟩:=YJu.mp hd';have hdR:dd≤rch S.s ρ.2.1:=by have:=(YJM.mp eu).1;omega
     obtain⟨es,k1,k2,k3,k4⟩:=c4 dd u eu;have T4:=TT.new (ys:=[.int (dd:Nat),.ref u]) hT3;have hu4:=T4.kp _ _ (naoL k2) k2;refine⟨T3,_,rfl,SqT.of YD,rfl,_,_,rfl,_,_,rfl,rfl,?_⟩;refine⟨_,rfl,u,rfl,⟨_,.inl hu4⟩,J1 (K:=K) (a:=u) (xs:=es.map V.ref) (fun b σ H5=>∃kvs fs v4 v5 v6 v11,σ=[some (.ref S.x),some (.ref d),v2,v3,v4,v5,v6,some (.int (r:Nat)),some (.ref t),some (.int (dd:Nat)),some (.ref u),v11]∧Tld H S.ao d o kvA O FF H5 kvs fs (pg7 S ps r dd b 0)∧fs.length≤1562820 + r * 26047 + dd * 3721 + b * 61)
      ⟨kvs,fs,_,_,_,_,rfl,T4,by omega⟩ ?_ ?_ ?_⟩
     ·rintro b σ H5 _ ⟨kvs,fs,v4,v5,v6,v11,rfl,TT,_⟩;exact SqL.of (TT.kp _ _ (naoL k2) k2)
     ·rintro b y T5 σ H5 hb' hT5 ⟨kvs,fs,v4,v5,v6,v11,rfl,TT,hfl⟩;rw[YJQ]at hb';obtain⟨c,ec,rfl⟩:=YJu.mp hb';have hbn:b≤S.n:=by have:=(YJM.mp ec).1;omega
      obtain⟨hc1,hc⟩:=k4 b c ec;have eK:KK r dd b=S.n + 1 - b:=by
       rw[kok r ρ hρ dd hdR b hbn];unfold cnt;rw[if_neg (by omega)]
      rw[eK]at hc;have T6:=TT.new (ys:=[.int (b:Nat),.ref c]) hT5;have hc6:=T6.kp _ _ (naoL hc) hc;have ell:((fiR FF r dd b (S.n + 1 - b)).map V.int).length=S.n + 1 - b:=by unfold fiR;rw[YJL,YJL,YJj]
      refine⟨T5,_,rfl,SqT.of YD,rfl,_,_,rfl,_,_,rfl,rfl,?_⟩;refine⟨_,rfl,c,rfl,⟨_,.inl hc6⟩,J1 (K:=K) (a:=c) (xs:=(fiR FF r dd b (S.n + 1 - b)).map V.int) (fun k σ H6=>∃kvs fs v6 v11,σ=[some (.ref S.x),some (.ref d),v2,v3,some (.ref c),some (.int (b:Nat)),v6,some (.int (r:Nat)),some (.ref t),some (.int (dd:Nat)),some (.ref u),v11]∧Tld H S.ao d o kvA O FF H6 kvs fs (pg7 S ps r dd b k)∧fs.length≤1562820 + r * 26047 + dd * 3721 + b * 61 + k)
       ⟨kvs,fs,_,_,rfl,T6,by omega⟩ ?_ ?_ ?_⟩
      ·rintro k σ H6 _ ⟨kvs,fs,v6,v11,rfl,TT,_⟩;exact SqL.of (TT.kp _ _ (naoL hc) hc)
      ·rintro k y T7 σ H6 hk hT7 ⟨kvs,fs,v6,v11,rfl,TT,hfl⟩;have hkn:k < S.n + 1 - b:=by
        have:=(YJM.mp hk).1
        rwa [ell]at this
       unfold fiR at hk;rw[YJQ,YJQ,YJ3 hkn]at hk;cases hk;have T8:=TT.new (ys:=[.int (k:Nat),V.int (FF r dd b k)]) hT7;refine⟨T7,_,rfl,SqT.of YD,rfl,_,_,rfl,_,_,rfl,rfl,?_⟩;revert T8;generalize upd H6 T7 (.tup [.int (k:Nat),V.int (FF r dd b k)])=H7;intro T8;refine⟨_,rfl,_,_,rfl,rfl,pw,_,_,rfl,by decide,l60,fun tv htv=>?_⟩;have T9:=T8.new (ys:=[.int (FF r dd b k / 10 ^ (60:Int).toNat),.int (FF r dd b k % 10 ^ (60:Int).toNat)]) htv;have eb:b + k - b=k:=by omega
       have ht9:upd H7 tv (.tup [.int (FF r dd b k / 10 ^ (60:Int).toNat),.int (FF r dd b k % 10 ^ (60:Int).toNat)]) tv=some (.tup [.int (FF r dd b (b + k - b) / M60),.int (FF r dd b (b + k - b) % M60)]):=by rw[eb];exact YD
       revert T9 ht9;generalize upd H7 tv (.tup [.int (FF r dd b k / 10 ^ (60:Int).toNat),.int (FF r dd b k % 10 ^ (60:Int).toNat)])=H8;intro T9 ht9;refine⟨_,rfl,_,rfl,_,rfl,_,rfl,_,rfl,_,rfl,_,_,rfl,rfl,YK6 (line 4 (by decide)),fun kt hkt=>?_⟩;have Ta:=T9.new (ys:=[.int (r:Nat),.int (dd:Nat),.int (b:Nat),.int ((b:Int) + (k:Int))]) hkt;refine⟨d,_,rfl,YBR.t (k:=ZE (.beg r dd b (b + k))) Ta.hd (by rw[YD];rfl) (line _ (by rw[Ta.fd.1];omega)),?_⟩;have hnp7:¬pg7 S ps r dd b k (.beg r dd b (b + k)):=fun h=>by have:=h.2.2.2;omega
       exact⟨_,_,_,_,rfl,Ta.put (n:=.beg r dd b (b + k)) ((YL.upd hkt) _ _ ht9) hnp7 (fun n'=>by
        cases n' with
        |part=>exact⟨.inl,fun h=>h.elim id fun h=>by cases h⟩
        |beg r' d' b' e=>
         show((∃ρ,S.g[r']?=some ρ∧d'≤rch S.s ρ.2.1)∧b'≤e∧e≤S.n∧(r' < r∨(r'=r∧(d' < dd∨(d'=dd∧(b' < b∨(b'=b∧e < b + (k + 1))))))))↔(((∃ρ,S.g[r']?=some ρ∧d'≤rch S.s ρ.2.1)∧b'≤e∧e≤S.n∧(r' < r∨(r'=r∧(d' < dd∨(d'=dd∧(b' < b∨(b'=b∧e < b + k)))))))∨Nd.beg r' d' b' e=.beg r dd b (b + k));rw[Nd.beg.injEq];constructor
         ·rintro⟨h1,h2,h3,h4⟩
          by_cases hx':r'=r∧d'=dd∧b'=b∧e=b + k
          ·exact .inr hx'
          ·exact .inl ⟨h1,h2,h3,by omega⟩
         ·rintro(⟨h1,h2,h3,h4⟩ |⟨h1,h2,h3,h4⟩)
          ·exact⟨h1,h2,h3,by omega⟩
          ·subst h1 h2 h3 h4;exact⟨⟨ρ,hρ,hdR⟩,by omega,by omega,by omega⟩) hd,by rw[YJd];show _ + 1≤_;omega⟩
      ·rintro σ H6 ⟨kvs,fs,v6,v11,rfl,TT,hfl⟩;rw[ell]at TT hfl;refine⟨kvs,fs,_,_,_,_,rfl,TT.iff fun n'=>?_,by omega⟩;cases n' with
       |part=>exact Iff.rfl
       |beg r' d' b' e=>exact⟨fun h=>⟨h.1,h.2.1,h.2.2.1,by have:=h.2.1;have:=h.2.2.1;have:=h.2.2.2;omega⟩,fun h=>⟨h.1,h.2.1,h.2.2.1,by have:=h.2.1;have:=h.2.2.1;have:=h.2.2.2;omega⟩⟩
     ·rintro σ H5 ⟨kvs,fs,v4,v5,v6,v11,rfl,TT,hfl⟩;rw[YJL,k3]at TT hfl;refine⟨kvs,fs,_,_,_,_,_,_,rfl,TT.iff fun n'=>?_,by omega⟩;cases n' with
      |part=>exact Iff.rfl
      |beg r' d' b' e=>exact and_congr Iff.rfl ⟨fun h=>⟨h.1,h.2.1,by omega⟩,fun h=>⟨h.1,h.2.1,by omega⟩⟩
    ·rintro σ H4 ⟨kvs,fs,v4,v5,v6,v9,v10,v11,rfl,TT,hfl⟩;rw[YJL,c3]at TT hfl;refine⟨kvs,fs,_,_,_,_,_,_,_,_,rfl,TT.iff fun n'=>?_,by omega⟩;cases n' with
     |part=>exact Iff.rfl
     |beg r' d' b' e=>
      refine⟨fun h=>⟨h.1,h.2.1,h.2.2.1,?_⟩,fun h=>⟨h.1,h.2.1,h.2.2.1,by have:=h.2.2.2;omega⟩⟩;obtain⟨ρ',h1,h2⟩:=h.1;have h3:=h.2.2.2
      by_cases hrr:r'=r
      ·subst hrr;rw[hρ]at h1;cases h1;omega
      ·omega
   ·rintro σ H3 ⟨kvs,fs,v4,v5,v6,v7,v8,v9,v10,v11,rfl,TT,hfl⟩;rw[YJL,b3]at TT;refine⟨_,rfl,d,kvs,TT.hd,fun o'=>?_⟩;have k0:∀c w,c≠d→H3 c=some w→upd H3 d (.frz o' (.dT kvs)) c=some w:=fun c w h1 h2=>by rw[YH h1];exact h2
    refine q d o' kvs fs _ (fun c w h=>?_) (fun c w h=>?_) YD (TT.fd.keep fun t ys e=>k0 _ _ (fun z=>by rw[z,TT.hd]at e;cases e) e) (TT.fp.iff fun n'=>?_)
    ·have hc:=st.sm _ _ h;exact k0 _ _ (YR hc hd) (TT.kp c w (YR h hao0) hc)
    ·by_cases hc:c=d
     ·rw[hc,YD]at h;cases h;rfl
     ·rw[YH hc]at h;exact TT.pl c w hc h
    ·cases n' with
     |part=>exact Iff.rfl
     |beg r' d' b' e=>
      refine⟨fun h=>⟨h.1,h.2.1,h.2.2,.inl ?_⟩,fun h=>⟨h.1,h.2.1,h.2.2.1⟩⟩;obtain⟨ρ',h1,_⟩:=h.1;exact(YJM.mp h1).1
end
structure J9 (g:ZF) (t:Str) (a b c:Int) (T:Tol) (ps:List Str) (O:OvF) (F:FiF) (fs:List (Nd×Int)):Prop where
 eg:T.g=g
 et:T.t=t
 en:T.n=t.length
 ep:T.put=a * M60
 ec:T.cut=b * M60
 es:T.swap=c * M60
 sz:YAJ T.g T.put T.s
 fx:Fix T.g T.put T.s
 po:YCf g T.s ps
 iv:YBu T O F (T.n + 1) 0
 fp:FdP O F fs (X5 T ps)
inductive YFf (vs:List V) (H:Hp) (Q:VK):Prop where
 |mk (x y:V) (ct:Addr) (g:ZF) (t:Str) (a b c:Int) (h0_:vs=[x,y,.ref ct]) (h1_:Den H x (YBB g)) (h2_:(YBB g).short=true) (h3_:ZT g=true) (h4_:y=.str t) (h5_:Xn t=true) (h6_:H ct=some (.tup [.int a,.int b,.int c])) (h7_:(0≤a∧a≤10 ^ 60)) (h8_:(0≤b∧b≤10 ^ 60)) (h9_:(0≤c∧c≤10 ^ 60)) (h10_:YS H) (h11_:∀d o kvs fs T ps O F H',YL H H'→YS H'→H' d=some (.frz o (.dT kvs))→FdT H' kvs fs→J9 g t a b c T ps O F fs→Q (.ref d) H'):YFf vs H Q
def YHA:Sp:=fun vs H Q E_=>YFf vs H Q
section
variable {P:Program}{w:World}{K:W.Frag}{mg:Str→Option Value}{base:Heap}{C:Adr}
theorem YFg:YV ["grammar","text","costs","toller"] ["grammar","text","costs"] (YJ YEN):=⟨rfl,rfl,rfl,by decide +kernel,rfl,by decide +kernel,by decide +kernel⟩
theorem YI6 {f:Addr}{fd:FuncData} (F:Fun K "tolls" "tolls" YEN f fd) (T:Txt K mg C) (U_checked:ZO P w K mg (CXo P w) 7 "checked" ["thing"] (YDU C.NoGrammar)) (U_checked_text:ZO P w K mg (CXo P w) 3 "checked_text" ["thing"] (YCR C.NoText)) (U_checked_costs:ZO P w K mg (CXo P w) 3 "checked_costs" ["thing"] (YAM C.NoCosts)) (U_Toller___init__:UsedI P w K mg CX0 4 C.Toller ["self","rules","text","costs"] (YG5 C.Toller)) (U_Toller_take_all:YAH P w K mg CX0 3 C.Toller "take_all" ["self"] (YDo C.Toller)) (U_Toller_told_tolls:YAH P w K mg CX0 1 C.Toller "told_tolls" ["self"] (YI5 C.Toller)):Yr P w K mg base (CXo P w) 9 f fd ["grammar","text","costs"] (YHA):=by
 obtain⟨f_checked,fd_checked,G_checked,m_checked,k_checked,b_checked⟩:=U_checked.ok;obtain⟨f_checked_text,fd_checked_text,G_checked_text,m_checked_text,k_checked_text,b_checked_text⟩:=U_checked_text.ok;obtain⟨f_checked_costs,fd_checked_costs,G_checked_costs,m_checked_costs,k_checked_costs,b_checked_costs⟩:=U_checked_costs.ok;obtain⟨f_Toller___init__,fd_Toller___init__,G_Toller___init__,M_Toller___init__,b_Toller___init__⟩:=U_Toller___init__.ok;obtain⟨f_Toller_take_all,fd_Toller_take_all,G_Toller_take_all,me_Toller_take_all,b_Toller_take_all⟩:=U_Toller_take_all.ok;obtain⟨f_Toller_told_tolls,fd_Toller_told_tolls,G_Toller_told_tolls,me_Toller_told_tolls,b_Toller_told_tolls⟩:=U_Toller_told_tolls.ok;refine F.okX YFg (fun vs H Q E h=>?_) (fun cdv A outer s H vs Q E hr h=>?_)
 ·cases h;subst_vars;rfl
 ·obtain⟨x,y,ct,g,t,a,b,c,rfl,den,sh,hg,rfl,ht,hct,ha,hb,hc,hp,q⟩:=h;have hu:=Jd hr;refine⟨_,(YE (YM (i:=3) YFg.nd rfl (Or.inl rfl) (pe_make M_Toller___init__ (G_Toller___init__ base) (hr.mono (by decide)) (by rfl) T.n_Toller b_Toller___init__ .nil Yf (YA (YU (G_checked base) (hr.mono (by decide)) (by rfl) m_checked k_checked b_checked .nil XV.on (YA (pv 0) YB)) (YA (YU (G_checked_text base) (hr.mono (by decide)) (by rfl) m_checked_text k_checked_text b_checked_text .nil XV.on (YA (pv 1) YB)) (YA (YU (G_checked_costs base) (hr.mono (by decide)) (by rfl) m_checked_costs k_checked_costs b_checked_costs .nil XV.on (YA (pv 2) YB)) YB)))))
   (YE (ZV (YCA (pv 3) T.cl_Toller me_Toller_take_all (G_Toller_take_all base) (hr.mono (by decide)) b_Toller_take_all .nil Yf))
   (YF (YX (YCA (pv 3) T.cl_Toller me_Toller_told_tolls (G_Toller_told_tolls base) (hr.mono (by decide)) b_Toller_told_tolls .nil Yf))))),?_⟩
  have hx0:XJ (YBB g)=true:=by rw[YAl];exact hg
  have hcd:Den H (.ref ct) (.tup [.int a,.int b,.int c]):=.tup hct (.cons (.int _) (.cons (.int _) (.cons (.int _) .nil)));have hcc:YBE (.tup [.int a,.int b,.int c])=true:=by
   show(decide (3=3) && [D.int a,.int b,.int c].all Yu)=true;have wk:∀i:Int,0≤i∧i≤10 ^ 60→Yu (.int i)=true:=fun i h=>by
    show(decide (0≤i) && decide (i≤10 ^ 60))=true;rw[YJU h.1,YJU h.2];rfl
   rw[YKl,YKl,YKl,wk a ha,wk b hb,wk c hc];rfl
  have htl:t.length≤60:=by
   unfold Xn at ht;rw[YJe,YKE]at ht;exact ht.1
  refine⟨_,rfl,x,YBB g,rfl,den,sh,hp,fun _ l xs ds eds hds hl=>?_,fun z=>by rw[hx0]at z;cases z⟩;have eds':ds=g.map Zf:=(D.lst.inj eds).symm;subst eds';have s1:=YL.upd (o:=.lst xs) hl;have p1:YS (upd H l (.lst xs)):=hp.upd rfl;have hl1:upd H l (.lst xs) l=some (.lst xs):=YD;revert s1 p1 hl1;generalize upd H l (.lst xs)=H1;intro s1 p1 hl1;refine⟨_,rfl,.str t,.str t,rfl,.str t,?_,p1,fun z ez _=>?_,fun z=>by rw[show YBA (.str t)=Xn t from rfl,ht]at z;cases z⟩
  ·exact YBU (by omega)
  ·cases ez;refine⟨_,rfl,.ref ct,_,rfl,hcd.same s1,?_,p1,fun _=>?_,fun z=>by rw[hcc]at z;cases z⟩
   ·unfold D.short;exact XY fun d hd=>by
     simp only[YJg,YJ8,or_false]at hd;rcases hd with rfl |rfl |rfl <;> (unfold D.short;rfl)
   ·refine fun xx dx hxx hdx hne=>?_
    have ex:upd (upd H1 dx (.own xx)) xx (.ins C.Toller dx []) xx=some (.ins C.Toller dx []):=YD;have s2:YL H1 (upd (upd H1 dx (.own xx)) xx (.ins C.Toller dx [])):=(YL.upd hdx).put hxx;have p2:YS (upd (upd H1 dx (.own xx)) xx (.ins C.Toller dx [])):=(p1.upd rfl).upd rfl;refine⟨H1,xx,dx,l,ct,t,xs,g,a,b,c,rfl,ex,hxx,s2,p2,hl1,hds.same s1,hg,htl,s1 _ _ hct,ha,hb,hc,fun T' own ps H' pre exx eg et ep ec es hao st po=>⟨rfl,?_⟩⟩;subst exx;have hx':H' T'.x=some (.ins C.Toller T'.dx T'.fld):=by rw[←pre.c];exact st.hx
    refine⟨_,rfl,T'.x,T'.dx,_,rfl,hx',rfl,T',own,ps,H1,rfl,pre,st,by rw[eg];exact po,fun O F K2 H2 st2 I2 k2=>?_⟩;have hx2:H2 T'.x=some (.ins C.Toller T'.dx T'.fld):=by rw[←pre.c];exact st2.hx
    refine⟨_,rfl,T'.x,T'.dx,_,rfl,hx2,rfl,T',own,ps,H1,O,F,K2,rfl,pre,st2,by rw[eg];exact po,k2,hao,fun d o kvs fs H3 s3 p3 hd fd fp=>?_⟩;exact q d o kvs fs T' ps O F H3 (s1.trans s3) p3 hd fd ⟨eg,et,by rw[←et];exact pre.t.symm,ep,ec,es,pre.s,pre.fx,po,I2,fp⟩
end
def pr (x:Int):Int×Int:=(x / M60,x % M60)
theorem Zb:(0:Int) < M60:=by decide +kernel
theorem YI7 {x y:Int} (h:x % M60 + y % M60 < M60):((pr x).1 + (pr y).1,(pr x).2 + (pr y).2)=pr (x + y):=by
 have hx:=YJ7 x (YKt Zb);have hy:=YJ7 y (YKt Zb);have ex:=YKm x M60;have ey:=YKm y M60;have h2:(x + y) % M60=x % M60 + y % M60:=by
  rw[Int.add_emod];exact Int.emod_eq_of_lt (by omega) h
 have h1:(x + y) / M60=x / M60 + y / M60:=by
  have e:=YKm (x + y) M60;rw[h2]at e;have:M60 * ((x + y) / M60)=M60 * (x / M60 + y / M60):=by rw[Int.mul_add];omega
  exact Int.eq_of_mul_eq_mul_left (YKt Zb) this
 unfold pr;rw[h1,h2]
theorem YI8 (x y:Int):ltP (pr x) (pr y)=decide (x < y):=by
 have hx:=YJ7 x (YKt Zb);have hy:=YJ7 y (YKt Zb);have hx2:=YJ9 x Zb;have hy2:=YJ9 y Zb;have ex:=YKm x M60;have ey:=YKm y M60;unfold ltP pr;refine decide_eq_decide.mpr ⟨fun h=>?_,fun h=>?_⟩
 ·rcases h with h |⟨h1,h2⟩
  ·have:M60 * (x / M60) + M60≤M60 * (y / M60):=by
    have:=YKy (show x / M60 + 1≤y / M60 from h) (YKv Zb);rw[Int.mul_add,Int.mul_one]at this;exact this
   omega
  ·dsimp only at h1 h2;rw[h1]at ex;omega
 ·rcases Int.lt_trichotomy (x / M60) (y / M60) with h1 |h1 |h1
  ·exact .inl h1
  ·refine .inr ⟨h1,?_⟩;rw[h1]at ex;dsimp only;omega
  ·exfalso
   have:M60 * (y / M60) + M60≤M60 * (x / M60):=by
    have:=YKy (show y / M60 + 1≤x / M60 from h1) (YKv Zb);rw[Int.mul_add,Int.mul_one]at this;exact this
   omega
theorem YI9 (x:Int):pr (x * M60)=(x,0):=by
 unfold pr;rw[Int.mul_ediv_cancel _ (YKt Zb),Int.mul_emod_left]
theorem pr_mul1 (x:Int):pr (x * M60 + 1)=(x,1):=by
 have h:=YI7 (x:=x * M60) (y:=1) (by rw[Int.mul_emod_left];decide +kernel);rw[←h,YI9];have e:pr 1=(0,1):=by decide +kernel
 rw[e,Int.add_zero,YKP]
theorem YJA (x y:Int):x * M60 < y * M60↔x < y:=⟨fun h=>Int.lt_of_mul_lt_mul_right h (YKv Zb),fun h=>Int.mul_lt_mul_of_pos_right h Zb⟩
theorem YHB (t:Str) (a b c:Int) (p:Str) (i j:Nat):sgT t (a * M60) (b * M60) (c * M60) p i j=sgT t a b c p i j * M60:=by
 unfold sgT
 by_cases h:j≤i
 ·rw[if_pos h,if_pos h]
 ·rw[if_neg h,if_neg h];have e1:((j:Int) - i) * (b * M60) + a * M60=(((j:Int) - i) * b + a) * M60:=by rw[Int.add_mul,Int.mul_assoc]
  have e2:((j:Int) - i - 1) * (b * M60) + (if YFS (Xr p) t i j=true then 0 else c * M60)=(((j:Int) - i - 1) * b + (if YFS (Xr p) t i j=true then 0 else c)) * M60:=by
   rw[Int.add_mul,Int.mul_assoc];split
   ·rw[Int.zero_mul]
   ·rfl
  rw[e1,e2]
  by_cases h2:((j:Int) - i - 1) * b + (if YFS (Xr p) t i j=true then 0 else c) < ((j:Int) - i) * b + a
  ·rw[if_pos ((YJA _ _).mpr h2),if_pos h2]
  ·rw[if_neg (fun z=>h2 ((YJA _ _).mp z)),if_neg h2]
section
variable {g:ZF}{t:Str}{a b c:Int}{T:Tol}{ps:List Str}{O:OvF}{F:FiF}{fs:List (Nd×Int)}
theorem J9.ok (W:J9 g t a b c T ps O F fs) (hb:0≤b):Xe g T.s T.cut M60 O F t.length where
 cut0:=by rw[W.ec];exact YKN hb (YKv Zb)
 cutM:=by rw[W.ec];exact Int.mul_emod_left ..
 one:=by decide +kernel
 pos:=W.iv.pos
 sg:=fun p i j h=>by rw[W.iv.sg p i j h,W.ep,W.ec,W.es,YHB];exact Int.mul_emod_left ..
 f:=fun i m h=>by rw[←W.eg];exact(W.iv.dn i m ⟨by rw[W.en];exact h,.inl (by rw[W.en];omega)⟩).f
 o:=fun i m h=>by rw[←W.eg];exact(W.iv.dn i m ⟨by rw[W.en];exact h,.inl (by rw[W.en];omega)⟩).o
theorem J9.part (W:J9 g t a b c T ps O F fs) {ρ:Y2} (hr:ρ∈g) {p:Str} (hp:p∈ρ.2.1):p∈ps↔okP T.s p=true:=by
 obtain⟨_,k,hd,hq,_⟩:=W.po;refine⟨k p,fun h=>?_⟩;unfold okP at h;rw[Bool.or_eq_true]at h;rcases h with h |h
 ·exact hq ρ hr p hp h
 ·obtain⟨v,hv⟩:=YJv.mp h;exact hd p v hv
theorem J9.head (W:J9 g t a b c T ps O F fs) {h:Str} (hq:isQ h=false):h∈ps↔∃ρ∈g,ρ.1=h∧rch T.s ρ.2.1=ρ.2.1.length:=by
 obtain⟨_,k,hd,_,_⟩:=W.po;constructor
 ·intro hp;have h1:=k h hp;unfold okP at h1;rw[hq,YKY]at h1;obtain⟨v,hv⟩:=YJv.mp h1;obtain⟨ρ,hr,e,m,hm,_⟩:=W.sz.hd h v hv;exact⟨ρ,by rw[←W.eg];exact hr,e,YCZ (YEK hm)⟩
 ·rintro⟨ρ,hr,rfl,hf⟩;have all:∀p∈ρ.2.1,okP T.s p=true:=fun p hp=>by
   obtain⟨j,hj⟩:=YKH hp;have hlt:j < ρ.2.1.length:=by
    rcases YJr j ρ.2.1.length with h |h
    ·exact h
    ·rw[YJy h]at hj;cases hj
   obtain⟨p',e1,e2⟩:=J3 (s:=T.s) (ps:=ρ.2.1) (j:=j) (by rw[hf];exact hlt);rw[hj]at e1;cases e1;exact e2
  obtain⟨m,hm⟩:=YB3 (q:=T.put) (a:=1) all;obtain⟨v,hv,_⟩:=W.fx ρ (by rw[W.eg];exact hr) m hm;exact hd _ v hv
theorem J9.small (W:J9 g t a b c T ps O F fs) {hs:List Str} (h3:hs.length≤3) (hh:∀ρ∈g,ρ.1∈hs):T.s.length≤3:=by
 have:(T.s.map (·.1)).length≤hs.length:=YAQ W.sz.nd fun z hz=>by
  obtain⟨x,hx,rfl⟩:=YJh.mp hz;obtain⟨ρ,hr,e,_⟩:=W.sz.hd x.1 x.2 (XL W.sz.nd hx);rw[←e];exact hh ρ (by rw[←W.eg];exact hr)
 rw[YJL]at this;omega
theorem J9.sum (W:J9 g t a b c T ps O F fs) (hb:0≤b) (h6:∀ρ∈g,ρ.2.1.length≤6) (ht:t.length≤4) (hs:T.s.length≤3) {r:Nat}{ρ:Y2} (hr:g[r]?=some ρ) {d i m k:Nat}{p:Str} (hd:d≤rch T.s ρ.2.1) (hp:okP T.s p=true) (hk:k≤m) (hm:i + m≤t.length):
  ((pr (F r d i k)).1 + (pr (O p (i + k) (i + m))).1,(pr (F r d i k)).2 + (pr (O p (i + k) (i + m))).2)=pr (F r d i k + O p (i + k) (i + m)):=by
 have X:=W.ok hb;have h1:=X.ruleB h6 hr hd (show i + k≤t.length by omega);have h2:=X.partB h6 hp (show i + k≤i + m by omega) hm;have e:(t.length + 1) * T.s.length≤15:=Nat.mul_le_mul (show t.length + 1≤5 by omega) hs;have h3:=YAc (l:=(t.length + 1) * T.s.length + 1) (l':=16) (by omega);have h4:=YAc (l:=(t.length + 1) * T.s.length) (l':=15) e;have h5:(7:Int) ^ 16 + 7 ^ 15 < M60:=by decide +kernel
 exact YI7 (by omega)
theorem J9.least (W:J9 g t a b c T ps O F fs) (hb:0≤b) {r:Nat}{ρ:Y2} (hr:g[r]?=some ρ) {d i m:Nat}{p:Str} (hd:d < rch T.s ρ.2.1) (hp:ρ.2.1[d]?=some p) (hm:i + m≤t.length) {x:Int}
  (hx:x∈(List.range (m + 1)).map fun k=>F r d i k + O p (i + k) (i + m)) (hl:∀y∈(List.range (m + 1)).map (fun k=>F r d i k + O p (i + k) (i + m)),ltP (pr y) (pr x)=false):x=F r (d + 1) i m:=by
 obtain⟨_,h⟩:=(W.ok hb).f i m hm r ρ hr;obtain⟨h1,k,hk,e⟩:=h d p hd hp;obtain⟨k',hk',rfl⟩:=YJh.mp hx;have h2:=h1 k' (by have:=YKG.mp hk';omega);have h3:=hl _ (YJh.mpr ⟨k,YKG.mpr (by omega),rfl⟩);rw[YI8]at h3;have h4:=of_decide_eq_false h3;omega
theorem J9.leastH (W:J9 g t a b c T ps O F fs) (hb:0≤b) {h:Str} (hq:isQ h=false) {i m:Nat} (hm:i + m≤t.length) {x:Int}{xs:List Int}
  (hxs:∀y,y∈xs↔∃(r:Nat) (ρ:Y2),g[r]?=some ρ∧ρ.1=h∧rch T.s ρ.2.1=ρ.2.1.length∧y=F r ρ.2.1.length i m) (hx:x∈xs) (hl:∀y∈xs,ltP (pr y) (pr x)=false):h∈ps∧x=O h i (i + m):=by
 obtain⟨r,ρ,hr,e1,e2,e3⟩:=(hxs x).mp hx;have hp:h∈ps:=(W.head hq).mpr ⟨ρ,YJS hr,e1,e2⟩;obtain⟨_,k,_⟩:=W.po;have h1:=k h hp;unfold okP at h1;rw[hq,YKY]at h1;obtain⟨v,hv⟩:=YJv.mp h1;obtain⟨h2,r',ρ',hr',e1',e2',e3'⟩:=(W.ok hb).o i m hm h v hv;have h3:=h2 r ρ hr e1 e2;have h4:=hl _ ((hxs _).mpr ⟨r',ρ',hr',e1',e2',rfl⟩);rw[YI8]at h4;have h5:=of_decide_eq_false h4;exact⟨hp,by omega⟩
def YCh (T:Tol) (ps:List Str) (O:OvF) (F:FiF) (H:Hp) (n:Nd) (v:V):Prop:=(v=.non∧¬X5 T ps n)∨∃t,v=.ref t∧X5 T ps n∧H t=some (.tup [.int (pr (XR O F n)).1,.int (pr (XR O F n)).2])
theorem YCh.same {H H':Hp}{n:Nd}{v:V} (h:YCh T ps O F H n v) (s:YL H H'):YCh T ps O F H' n v:=by
 rcases h with h |⟨t,h1,h2,h3⟩
 ·exact .inl h
 ·exact .inr ⟨t,h1,h2,s _ _ h3⟩
theorem J9.nonneg (W:J9 g t a b c T ps O F fs) (hb:0≤b) {n:Nd} (h:X5 T ps n):0≤XR O F n:=by
 cases n with
 |part p i j=>exact W.iv.pos p i j
 |beg r d i j=>
  obtain⟨⟨ρ,hr,hd⟩,h1,h2⟩:=h;rw[W.eg]at hr;have h3:=(W.ok hb).f1 hr hd (show i + (j - i)≤t.length by rw[W.en]at h2;omega);exact YKL (by decide) h3
theorem J9.get (W:J9 g t a b c T ps O F fs) {H:Hp}{kvs:List (List Key×V)} (fd:FdT H kvs fs) (n:Nd):(Yw kvs (ZE n)=none∧¬X5 T ps n)∨∃u,Yw kvs (ZE n)=some (.ref u)∧X5 T ps n∧H u=some (.tup [.int (pr (XR O F n)).1,.int (pr (XR O F n)).2]):=by
 rcases fd.val n with ⟨h1,h2⟩ |⟨u,v,h1,h2,h3⟩
 ·exact .inl ⟨h1,fun z=>h2 ((W.fp.mem n).mpr z)⟩
 ·have hv:=W.fp.val _ h2;dsimp only at hv;subst hv;exact .inr ⟨u,h1,(W.fp.mem n).mp (YJh.mpr ⟨_,h2,rfl⟩),h3⟩
end
theorem YHx {κ:Type} [DecidableEq κ] {kvs:List (κ×V)}{k:κ}{u:V} (h:Yw kvs k=some u) (v:V):(Ys kvs k v).map (·.1)=kvs.map (·.1):=by
 unfold Ys;have hs:(Yw kvs k).isSome=true:=by rw[h];rfl
 rw[if_pos (by rw[Zm];exact hs),YKk];refine YKK fun x _=>?_
 show(if x.1=k then (x.1,v) else x).1=x.1;split <;> rfl
theorem YHy {κ:Type} [DecidableEq κ] {kvs:List (κ×V)}{k:κ} (h:Yw kvs k=none) (v:V):(Ys kvs k v).map (·.1)=kvs.map (·.1) ++ [k]:=by
 rw[YAC v h,YJo];rfl
section
variable {g:ZF}{t:Str}{a b c:Int}{T:Tol}{ps:List Str}{O:OvF}{F:FiF}{fs:List (Nd×Int)}
def XM:Nd→Nat×Nat
 |.part _ i j=>(i,j)
 |.beg _ _ i j=>(i,j)
def ZN (H H':Hp):Prop:=∀t ys,H t=some (.tup ys)→H' t=some (.tup ys)
theorem ZN.of {H H':Hp} (s:YL H H'):ZN H H':=fun t ys e=>s _ _ e
theorem ZN.trans {H H' H2:Hp} (s:ZN H H') (s2:ZN H' H2):ZN H H2:=fun t ys e=>s2 _ _ (s _ _ e)
theorem ZN.upd {H:Hp}{d:Addr}{o o':HO} (hd:H d=some o) (hn:∀ys,o≠.tup ys):ZN H (L2.upd H d o'):=fun t ys e=>by
 rw[YH (fun z=>by rw[z,hd]at e;cases e;exact hn _ rfl)];exact e
theorem YCh.keep {H H':Hp}{n:Nd}{v:V} (h:YCh T ps O F H n v) (s:ZN H H'):YCh T ps O F H' n v:=by
 rcases h with h |⟨t,h1,h2,h3⟩
 ·exact .inl h
 ·exact .inr ⟨t,h1,h2,s _ _ h3⟩
structure Du (T:Tol) (ps:List Str) (O:OvF) (F:FiF) (sp:Nat×Nat) (H:Hp) (kvs:List (List Key×V)) (ks:List Nd):Prop where
 keys:kvs.map (·.1)=ks.map ZE
 nd:ks.Nodup
 val:∀n∈ks,∃v,Yw kvs (ZE n)=some v∧YCh T ps O F H n v
 span:∀n∈ks,XM n=sp
variable {sp:Nat×Nat}{H H':Hp}{kvs:List (List Key×V)}{ks:List Nd}
theorem Du.keep (h:Du T ps O F sp H kvs ks) (s:ZN H H'):Du T ps O F sp H' kvs ks:=⟨h.keys,h.nd,fun n hn=>let ⟨v,e,d⟩:=h.val n hn;⟨v,e,d.keep s⟩,h.span⟩
theorem Du.none (h:Du T ps O F sp H kvs ks) {n:Nd} (hn:n∉ks):Yw kvs (ZE n)=none:=by
 cases e:Yw kvs (ZE n) with
 |none=>rfl
 |some v=>
  exfalso
  have hm:ZE n∈kvs.map (·.1):=by
   have:=Zm (ZE n) kvs;rw[e]at this;obtain⟨kv,h1,h2⟩:=YKx.mp this;exact YJh.mpr ⟨kv,h1,YJm h2⟩
  rw[h.keys]at hm;obtain⟨n',h1,h2⟩:=YJh.mp hm;rw[YCV h2]at h1;exact hn h1
theorem Du.put (h:Du T ps O F sp H kvs ks) (s:ZN H H') {n:Nd}{v:V} (hv:YCh T ps O F H' n v) (hs:XM n=sp):
  ∃ks',Du T ps O F sp H' (Ys kvs (ZE n) v) ks'∧n∈ks'∧(∀x∈ks,x∈ks')∧ks'.length≤ks.length + 1:=by
 have vl:∀x∈ks,∃v',Yw (Ys kvs (ZE n) v) (ZE x)=some v'∧YCh T ps O F H' x v':=fun x hx=>by
  rw[Jc]
  by_cases e:ZE x=ZE n
  ·rw[if_pos e,YCV e];exact⟨v,rfl,hv⟩
  ·rw[if_neg e];obtain⟨v',e',d'⟩:=h.val x hx;exact⟨v',e',d'.keep s⟩
 by_cases hn:n∈ks
 ·obtain⟨v0,e0,_⟩:=h.val n hn;refine⟨ks,⟨?_,h.nd,vl,h.span⟩,hn,fun x hx=>hx,by omega⟩;rw[YHx e0 _];exact h.keys
 ·refine⟨ks ++ [n],⟨?_,YAZ h.nd hn,fun x hx=>?_,fun x hx=>?_⟩,YJi _ (YJW.mpr rfl),fun x hx=>YKD _ hx,by rw[YJd];exact YJP _⟩
  ·rw[YHy (h.none hn) _,YJo,h.keys];rfl
  ·rcases YJs.mp hx with hx |hx
   ·exact vl x hx
   ·rw[YJW.mp hx,Jc,if_pos rfl];exact⟨v,rfl,hv⟩
  ·rcases YJs.mp hx with hx |hx
   ·exact h.span x hx
   ·rw[YJW.mp hx];exact hs
theorem Du.len (h:Du T ps O F sp H kvs ks):kvs.length=ks.length:=by
 have:=YKV List.length h.keys;rw[YJL,YJL]at this;exact this
def Pg (g:ZF) (sp:Nat×Nat) (r:Nat) (ks:List Nd):Prop:=∀(r':Nat) (ρ:Y2),r' < r→g[r']?=some ρ→(∀d,d≤ρ.2.1.length→Nd.beg r' d sp.1 sp.2∈ks)∧∀p∈ρ.2.1,isQ p=true→Nd.part p sp.1 sp.2∈ks
def PgI (ρ:Y2) (sp:Nat×Nat) (r k:Nat) (ks:List Nd):Prop:=(∀d,d≤k→Nd.beg r d sp.1 sp.2∈ks)∧∀(j:Nat) (p:Str),j < k→ρ.2.1[j]?=some p→isQ p=true→Nd.part p sp.1 sp.2∈ks
structure HdI (g:ZF) (s:Sz) (F:FiF) (sp:Nat×Nat) (H0 H:Hp) (own:Addr→Option Str) (kvh:List (Key×V)) (r:Nat):Prop where
 str:∀kv∈kvh,∃h,kv.1=.inr h
 len:kvh.length≤r
 fr:∀al h,own al=some h→H0 al=none∧∃xs,H al=some (.lst xs)
 at_:∀h,(Yw kvh (.inr h)=none∧∀r' ρ,r' < r→g[r']?=some ρ→ρ.1=h→¬rch s ρ.2.1=ρ.2.1.length)∨
  ∃(al:Addr) (ts:List Addr) (xs:List Int),Yw kvh (.inr h)=some (.ref al)∧own al=some h∧H al=some (.lst (ts.map V.ref))∧ts≠[]∧ts.length=xs.length∧ts.length≤r∧
   (∀(j:Nat) (t:Addr) (x:Int),ts[j]?=some t→xs[j]?=some x→H t=some (.tup [.int (pr x).1,.int (pr x).2]))∧
   ∀y,y∈xs↔∃r' ρ,r' < r∧g[r']?=some ρ∧ρ.1=h∧rch s ρ.2.1=ρ.2.1.length∧y=F r' ρ.2.1.length sp.1 (sp.2 - sp.1)
variable {s:Sz}{H0:Hp}{own:Addr→Option Str}{kvh:List (Key×V)}{r:Nat}
theorem HdI.keep (h:HdI g s F sp H0 H own kvh r) (k:ZN H H') (k2:∀al z,own al=some z→H' al=H al):HdI g s F sp H0 H' own kvh r:=⟨h.str,h.len,fun al z e=>⟨(h.fr al z e).1,by rw[k2 al z e];exact(h.fr al z e).2⟩,fun z=>by
 rcases h.at_ z with h1 |⟨al,ts,xs,h1,h2,h3,h4,h5,h6,h7,h8⟩
 ·exact .inl h1
 ·exact .inr ⟨al,ts,xs,h1,h2,by rw[k2 al z h2];exact h3,h4,h5,h6,fun j t x e1 e2=>k _ _ (h7 j t x e1 e2),h8⟩⟩
theorem HdI.skip (h:HdI g s F sp H0 H own kvh r) {ρ:Y2} (hr:g[r]?=some ρ) (hn:¬rch s ρ.2.1=ρ.2.1.length):HdI g s F sp H0 H own kvh (r + 1):=⟨h.str,by have:=h.len;omega,h.fr,fun z=>by
 have lt:∀{r':Nat}{ρ':Y2},r' < r + 1→g[r']?=some ρ'→rch s ρ'.2.1=ρ'.2.1.length→r' < r:=fun{r' ρ'} h1 h2 h3=>by
  rcases YJr r' r with h |h
  ·exact h
  ·exfalso
   have e:r'=r:=by omega
   subst e;rw[hr]at h2;cases h2;exact hn h3
 rcases h.at_ z with ⟨h1,h2⟩ |⟨al,ts,xs,h1,h2,h3,h4,h5,h6,h7,h8⟩
 ·exact .inl ⟨h1,fun r' ρ' l e1 e2 e3=>h2 r' ρ' (lt l e1 e3) e1 e2 e3⟩
 ·exact .inr ⟨al,ts,xs,h1,h2,h3,h4,h5,by omega,h7,fun y=>(h8 y).trans ⟨fun⟨r',ρ',l,e⟩=>⟨r',ρ',by omega,e⟩,fun⟨r',ρ',l,e1,e2,e3,e4⟩=>⟨r',ρ',lt l e1 e3,e1,e2,e3,e4⟩⟩⟩⟩
theorem HdI.iff_ {xs:List Int}{z:Str} (h:∀y:Int,y∈xs↔∃r' ρ,r' < r∧g[r']?=some ρ∧ρ.1=z∧rch s ρ.2.1=ρ.2.1.length∧y=F r' ρ.2.1.length sp.1 (sp.2 - sp.1)) {ρ:Y2} (hr:g[r]?=some ρ) (hn:ρ.1≠z) (y:Int):y∈xs↔∃r' ρ,r' < r + 1∧g[r']?=some ρ∧ρ.1=z∧rch s ρ.2.1=ρ.2.1.length∧y=F r' ρ.2.1.length sp.1 (sp.2 - sp.1):=by
 refine(h y).trans ⟨fun⟨r',ρ',l,e⟩=>⟨r',ρ',by omega,e⟩,fun⟨r',ρ',l,e1,e2,e3⟩=>⟨r',ρ',?_,e1,e2,e3⟩⟩;rcases YJr r' r with h |h
 ·exact h
 ·exfalso
  have e:r'=r:=by omega
  subst e;rw[hr]at e1;cases e1;exact hn e2
theorem HdI.other (h:HdI g s F sp H0 H own kvh r) {ρ:Y2} (hr:g[r]?=some ρ) {z:Str} (hn:ρ.1≠z) (k:ZN H H') (k2:∀al,own al=some z→H' al=H al):
  (Yw kvh (.inr z)=none∧∀r' ρ,r' < r + 1→g[r']?=some ρ→ρ.1=z→¬rch s ρ.2.1=ρ.2.1.length)∨
  ∃(al:Addr) (ts:List Addr) (xs:List Int),Yw kvh (.inr z)=some (.ref al)∧own al=some z∧H' al=some (.lst (ts.map V.ref))∧ts≠[]∧ts.length=xs.length∧ts.length≤r + 1∧
   (∀(j:Nat) (t:Addr) (x:Int),ts[j]?=some t→xs[j]?=some x→H' t=some (.tup [.int (pr x).1,.int (pr x).2]))∧
   ∀y,y∈xs↔∃r' ρ,r' < r + 1∧g[r']?=some ρ∧ρ.1=z∧rch s ρ.2.1=ρ.2.1.length∧y=F r' ρ.2.1.length sp.1 (sp.2 - sp.1):=by
 rcases h.at_ z with ⟨h1,h2⟩ |⟨al,ts,xs,h1,h2,h3,h4,h5,h6,h7,h8⟩
 ·refine .inl ⟨h1,fun r' ρ' l e1 e2=>?_⟩;rcases YJr r' r with h |h
  ·exact h2 r' ρ' h e1 e2
  ·exfalso
   have e:r'=r:=by omega
   subst e;rw[hr]at e1;cases e1;exact hn e2
 ·exact .inr ⟨al,ts,xs,h1,h2,by rw[k2 al h2];exact h3,h4,h5,by omega,fun j t x e1 e2=>k _ _ (h7 j t x e1 e2),HdI.iff_ h8 hr hn⟩
theorem HdI.new (h:HdI g s F sp H0 H own kvh r) {ρ:Y2} (hr:g[r]?=some ρ) (hf:rch s ρ.2.1=ρ.2.1.length) (hv:Yw kvh (.inr ρ.1)=none) {al u:Addr} (hal0:H0 al=none) (hal:H al=none) (k:ZN H H') (k2:∀al' z,own al'=some z→H' al'=H al')
  (h1:H' al=some (.lst [.ref u])) (h2:H' u=some (.tup [.int (pr (F r ρ.2.1.length sp.1 (sp.2 - sp.1))).1,.int (pr (F r ρ.2.1.length sp.1 (sp.2 - sp.1))).2])):
  HdI g s F sp H0 H' (fun x=>if x=al then some ρ.1 else own x) (Ys kvh (.inr ρ.1) (.ref al)) (r + 1):=by
 have nal:∀al' z,own al'=some z→al'≠al:=fun al' z e zz=>by
  obtain⟨_,xs,ex⟩:=h.fr al' z e;rw[zz,hal]at ex;cases ex
 refine⟨fun kv hkv=>?_,?_,fun al' z e=>?_,fun z=>?_⟩
 ·rw[YAC _ hv]at hkv;rcases YJs.mp hkv with hkv |hkv
  ·exact h.str kv hkv
  ·rw[YJW.mp hkv];exact⟨ρ.1,rfl⟩
 ·rw[YAC _ hv,YJd];have:=h.len;exact Nat.succ_le_succ this
 ·change (if al'=al then some ρ.1 else own al')=some z at e
  by_cases c:al'=al
  ·rw[c];exact⟨hal0,_,h1⟩
  ·rw[if_neg c]at e;exact⟨(h.fr al' z e).1,by rw[k2 al' z e];exact(h.fr al' z e).2⟩
 ·by_cases c:ρ.1=z
  ·subst c;refine .inr ⟨al,[u],[F r ρ.2.1.length sp.1 (sp.2 - sp.1)],by rw[Jc,if_pos rfl],if_pos rfl,h1,nofun,rfl,by show 1≤r + 1;omega,fun j t x e1 e2=>?_,fun y=>?_⟩
   ·cases j with
    |zero=>cases e1;cases e2;exact h2
    |succ j=>cases e1
   ·rw[YJW];constructor
    ·rintro rfl;exact⟨r,ρ,YLD _,hr,rfl,hf,rfl⟩
    ·rintro⟨r',ρ',l,e1,e2,e3,e4⟩;rcases h.at_ ρ.1 with ⟨_,n⟩ |⟨al',_,_,w,_⟩
     ·rcases YJr r' r with hl |hl
      ·exact absurd e3 (n r' ρ' hl e1 e2)
      ·have e:r'=r:=by omega
       subst e;rw[hr]at e1;cases e1;exact e4
     ·rw[hv]at w;cases w
  ·have e:Yw (Ys kvh (.inr ρ.1) (.ref al)) (.inr z)=Yw kvh (.inr z):=by rw[Jc,if_neg (fun w=>c (Sum.inr.inj w).symm)]
   rw[e];rcases h.other hr c k fun al' e'=>k2 al' z e' with w |⟨al',ts,xs,w1,w2,w3⟩
   ·exact .inl w
   ·exact .inr ⟨al',ts,xs,w1,(if_neg (nal al' z w2)).trans w2,w3⟩
theorem HdI.more (h:HdI g s F sp H0 H own kvh r) {ρ:Y2} (hr:g[r]?=some ρ) (hf:rch s ρ.2.1=ρ.2.1.length) {al u:Addr}{ts:List Addr} (hv:Yw kvh (.inr ρ.1)=some (.ref al)) (hts:H al=some (.lst (ts.map V.ref))) (k:ZN H H') (k2:∀al' z,own al'=some z→al'≠al→H' al'=H al')
  (h1:H' al=some (.lst (ts.map V.ref ++ [.ref u]))) (h2:H' u=some (.tup [.int (pr (F r ρ.2.1.length sp.1 (sp.2 - sp.1))).1,.int (pr (F r ρ.2.1.length sp.1 (sp.2 - sp.1))).2])):
  HdI g s F sp H0 H' own kvh (r + 1):=by
 obtain⟨al',ts',xs,w1,w2,w3,w4,w5,w6,w7,w8⟩:∃(al:Addr) (ts:List Addr) (xs:List Int),_:=(h.at_ ρ.1).resolve_left fun z=>by rw[hv]at z;cases z.1
 rw[hv]at w1;cases w1;rw[hts]at w3;have ets:ts=ts':=YBF (HO.lst.inj (YJk w3));subst ets;refine⟨h.str,by have:=h.len;omega,fun al' z e=>?_,fun z=>?_⟩
 ·by_cases c:al'=al
  ·rw[c]at e ⊢;exact⟨(h.fr al z e).1,_,h1⟩
  ·exact⟨(h.fr al' z e).1,by rw[k2 al' z e c];exact(h.fr al' z e).2⟩
 ·by_cases c:ρ.1=z
  ·subst c;refine .inr ⟨al,ts ++ [u],xs ++ [F r ρ.2.1.length sp.1 (sp.2 - sp.1)],hv,w2,by rw[YJo];exact h1,(fun z=>by cases ts <;> cases z),by rw[YJd,YJd,w5];rfl,by rw[YJd];show ts.length + 1≤r + 1;omega,fun j t x e1 e2=>?_,fun y=>?_⟩
   ·rcases YJr j ts.length with hj |hj
    ·rw[YJ5 hj]at e1;rw[YJ5 (by omega)]at e2;exact k _ _ (w7 j t x e1 e2)
    ·rw[YJ2 hj]at e1;rw[YJ2 (by omega),←w5]at e2;cases hk:j - ts.length with
     |zero=>rw[hk]at e1 e2;cases e1;cases e2;exact h2
     |succ n=>rw[hk]at e1;cases e1
   ·rw[YJs,YJW,w8 y];constructor
    ·rintro(⟨r',ρ',l,e⟩ |rfl)
     ·exact⟨r',ρ',by omega,e⟩
     ·exact⟨r,ρ,YLD _,hr,rfl,hf,rfl⟩
    ·rintro⟨r',ρ',l,e1,e2,e3,e4⟩;rcases YJr r' r with hl |hl
     ·exact .inl ⟨r',ρ',hl,e1,e2,e3,e4⟩
     ·have e:r'=r:=by omega
      subst e;rw[hr]at e1;cases e1;exact .inr e4
  ·refine h.other hr c k fun al' e'=>k2 al' z e' fun zz=>c ?_
   rw[zz,w2]at e';exact YJk e'
structure DSt (g:ZF) (T:Tol) (ps:List Str) (O:OvF) (F:FiF) (sp:Nat×Nat) (H0 H:Hp) (dd hh:Addr) (own:Addr→Option Str) (kvs:List (List Key×V)) (ks:List Nd) (kvh:List (Key×V)) (r N:Nat):Prop where
 sm:YL H0 H
 hd:H dd=some (.dT kvs)
 hh:H hh=some (.dK kvh)
 du:Du T ps O F sp H kvs ks
 hi:HdI g T.s F sp H0 H own kvh r
 ln:ks.length≤N
variable {dd hh:Addr}{N:Nat}
theorem DSt.same (h:DSt g T ps O F sp H0 H dd hh own kvs ks kvh r N) (s:YL H H'):DSt g T ps O F sp H0 H' dd hh own kvs ks kvh r N:=
 ⟨h.sm.trans s,s _ _ h.hd,s _ _ h.hh,h.du.keep (ZN.of s),h.hi.keep (ZN.of s) fun al z e=>by
  obtain⟨_,xs,ex⟩:=h.hi.fr al z e;rw[ex];exact s _ _ ex,h.ln⟩
theorem DSt.put (h:DSt g T ps O F sp H0 H dd hh own kvs ks kvh r N) (hd0:H0 dd=none) {n:Nd}{v:V} (hv:YCh T ps O F H n v) (hs:XM n=sp):
  ∃ks',DSt g T ps O F sp H0 (upd H dd (.dT (Ys kvs (ZE n) v))) dd hh own (Ys kvs (ZE n) v) ks' kvh r (N + 1)∧n∈ks'∧∀x∈ks,x∈ks':=by
 have kt:ZN H (upd H dd (.dT (Ys kvs (ZE n) v))):=ZN.upd h.hd fun ys z=>nomatch z
 obtain⟨ks',d',h1,h2,h3⟩:=h.du.put kt (hv.keep kt) hs;refine⟨ks',⟨h.sm.put hd0,YD,?_,d',h.hi.keep kt fun al z e=>?_,by have:=h.ln;omega⟩,h1,h2⟩
 ·rw[YH (fun z=>by have:=h.hh;rw[z,h.hd]at this;cases this)];exact h.hh
 ·obtain⟨_,xs,ex⟩:=h.hi.fr al z e;exact YH fun z=>by rw[z,h.hd]at ex;cases ex
theorem DSt.skip (h:DSt g T ps O F sp H0 H dd hh own kvs ks kvh r N) {ρ:Y2} (hr:g[r]?=some ρ) (hn:¬rch T.s ρ.2.1=ρ.2.1.length):DSt g T ps O F sp H0 H dd hh own kvs ks kvh (r + 1) N:=⟨h.sm,h.hd,h.hh,h.du,h.hi.skip hr hn,h.ln⟩
theorem DSt.new (h:DSt g T ps O F sp H0 H dd hh own kvs ks kvh r N) (hh0:H0 hh=none) {ρ:Y2} (hr:g[r]?=some ρ) (hf:rch T.s ρ.2.1=ρ.2.1.length) (hv:Yw kvh (.inr ρ.1)=none) {al:Addr} (hal:H al=none) {H2:Hp}
  (s2:YL (upd (upd H al (.lst [])) hh (.dK (Ys kvh (.inr ρ.1) (.ref al)))) H2) {u:Addr} (h2:H2 u=some (.tup [.int (pr (F r ρ.2.1.length sp.1 (sp.2 - sp.1))).1,.int (pr (F r ρ.2.1.length sp.1 (sp.2 - sp.1))).2])):
  DSt g T ps O F sp H0 (upd H2 al (.lst [.ref u])) dd hh (fun x=>if x=al then some ρ.1 else own x) kvs ks (Ys kvh (.inr ρ.1) (.ref al)) (r + 1) N:=by
 have n1:al≠hh:=fun z=>by rw[z,h.hh]at hal;cases hal
 have n2:al≠dd:=fun z=>by rw[z,h.hd]at hal;cases hal
 have n3:dd≠hh:=fun z=>by have:=h.hh;rw[←z,h.hd]at this;cases this
 have hal0:H0 al=none:=by
  cases e:H0 al with
  |none=>rfl
  |some o=>rw[h.sm _ _ e]at hal;cases hal
 have hl2:H2 al=some (.lst []):=s2 _ _ (by rw[YH n1];exact YD);have kt:ZN H (upd H2 al (.lst [.ref u])):=fun t ys e=>by
  have e1:t≠al:=fun z=>by rw[z,hal]at e;cases e
  have e2:t≠hh:=fun z=>by rw[z,h.hh]at e;cases e
  rw[YH e1];exact s2 _ _ (by rw[YH e2,YH e1];exact e)
 have k2:∀al' z,own al'=some z→upd H2 al (.lst [.ref u]) al'=H al':=fun al' z e=>by
  obtain⟨_,xs,ex⟩:=h.hi.fr al' z e;have e1:al'≠al:=fun z=>by rw[z,hal]at ex;cases ex
  have e2:al'≠hh:=fun z=>by rw[z,h.hh]at ex;cases ex
  rw[YH e1,ex];exact s2 _ _ (by rw[YH e2,YH e1];exact ex)
 refine⟨fun x o e=>?_,?_,?_,h.du.keep kt,h.hi.new hr hf hv hal0 hal kt k2 YD ?_,h.ln⟩
 ·have e1:x≠al:=fun z=>by rw[z,hal0]at e;cases e
  have e2:x≠hh:=fun z=>by rw[z,hh0]at e;cases e
  rw[YH e1];exact s2 _ _ (by rw[YH e2,YH e1];exact h.sm _ _ e)
 ·rw[YH n2.symm];exact s2 _ _ (by rw[YH n3,YH n2.symm];exact h.hd)
 ·rw[YH n1.symm];exact s2 _ _ YD
 ·rw[YH (fun z=>by rw[z,hl2]at h2;cases h2)];exact h2
theorem DSt.more (h:DSt g T ps O F sp H0 H dd hh own kvs ks kvh r N) {ρ:Y2} (hr:g[r]?=some ρ) (hf:rch T.s ρ.2.1=ρ.2.1.length) {al:Addr}{xs:List V} (hv:Yw kvh (.inr ρ.1)=some (.ref al)) (hx:H al=some (.lst xs)) {u:Addr} (h2:H u=some (.tup [.int (pr (F r ρ.2.1.length sp.1 (sp.2 - sp.1))).1,.int (pr (F r ρ.2.1.length sp.1 (sp.2 - sp.1))).2])):
  DSt g T ps O F sp H0 (upd H al (.lst (xs ++ [.ref u]))) dd hh own kvs ks kvh (r + 1) N:=by
 obtain⟨al',ts',zs,w1,w2,w3,_⟩:∃(al:Addr) (ts:List Addr) (xs:List Int),_:=(h.hi.at_ ρ.1).resolve_left fun z=>by rw[hv]at z;cases z.1
 rw[hv]at w1;cases w1;rw[hx]at w3;cases w3;have kt:ZN H (upd H al (.lst (ts'.map V.ref ++ [.ref u]))):=ZN.upd hx fun ys z=>nomatch z
 refine⟨h.sm.put (h.hi.fr al _ w2).1,?_,?_,h.du.keep kt,h.hi.more hr hf hv hx kt (fun al' z e ne=>YH ne) YD (kt _ _ h2),h.ln⟩
 ·rw[YH (fun z=>by have:=h.hd;rw[z,hx]at this;cases this)];exact h.hd
 ·rw[YH (fun z=>by have:=h.hh;rw[z,hx]at this;cases this)];exact h.hh
end
abbrev XA:Stmt:=top 37
abbrev Xu:Stmt:=top 38
abbrev Zc:Stmt:=top 39
abbrev JH:Stmt:=top 40
abbrev Xv:Stmt:=top 41
abbrev Xw:Stmt:=top 42
abbrev XB:Stmt:=top 43
abbrev Js:Stmt:=top 44
abbrev Xx:Stmt:=top 45
abbrev YAS:Stmt:=top 46
abbrev YAT:Stmt:=top 47
abbrev Jn:Stmt:=top 48
abbrev JT:Stmt:=top 49
abbrev YAU:Stmt:=top 50
abbrev YBI:Stmt:=top 51
theorem JI:(["_law_k","_law_big","_law_odd"]:List Str).Nodup:=by decide +kernel
theorem ZH:(["_law_k","_law_at","_law_base","_law_big","_law_odd"]:List Str).Nodup:=by decide +kernel
inductive YFh (K:W.Frag) (vs:List V) (H:Hp) (Q:VK):Prop where
 |mk (a:Addr) (ns:List Int) (k:Int) (h0_:vs=[.ref a,.int k]) (h1_:SqL K H a (ns.map V.int)) (h2_:0≤k) (h3_:k≤1000) (h4_:∀v:Int,0≤v→v < 2147483647→Q (.int v) H):YFh K vs H Q
def YB5 (K:W.Frag):Sp:=fun vs H Q E_=>YFh K vs H Q
inductive YFi (vs:List V) (H:Hp) (Q:VK):Prop where
 |mk (c:Int) (h0_:vs=[.int c]) (h1_:YS H) (h2_:∀l (a b d e:Nat) H',Z3 a=true→Z3 b=true→Z3 d=true→Z3 e=true→YL H H'→YS H'→H l=none→H' l=some (.lst [.str ⟨#[a]⟩,.str ⟨#[b]⟩,.str ⟨#[d]⟩,.str ⟨#[e]⟩])→Q (.ref l) H'):YFi vs H Q
def YES:Sp:=fun vs H Q E_=>YFi vs H Q
inductive YFj (vs:List V) (H:Hp) (Q:VK):Prop where
 |mk (c:Int) (h0_:vs=[.int c]) (h1_:0≤c) (h2_:c < 2147483648) (h3_:YS H) (h4_:∀l (ns:List Str) H',ns.length=4→(∀z∈ns,isNameS z=true)→YL H H'→YS H'→H l=none→H' l=some (.lst (ns.map V.str))→Q (.ref l) H'):YFj vs H Q
def YHC:Sp:=fun vs H Q E_=>YFj vs H Q
inductive YDp (vs:List V) (H:Hp) (Q:VK):Prop where
 |mk (c:Int) (h0_:vs=[.int c]) (h1_:∀z:Int,0≤z→z≤10 ^ 60→Q (.int z) H):YDp vs H Q
def YCi:Sp:=fun vs H Q E_=>YDp vs H Q
inductive YFk (vs:List V) (H:Hp) (Q:VK):Prop where
 |mk (c:Int) (m:Addr) (zs:List Str) (n:Int) (h0_:vs=[.int c,.ref m,.int n]) (h1_:H m=some (.lst (zs.map V.str))) (h2_:1≤zs.length) (h3_:zs.length≤100) (h4_:0≤n) (h5_:n≤6) (h6_:YS H) (h7_:∀t (ps:List Str) H',(ps.length:Int)≤n→(∀p∈ps,p∈zs)→YL H H'→YS H'→H t=none→H' t=some (.tup (ps.map V.str))→Q (.ref t) H'):YFk vs H Q
def YHD:Sp:=fun vs H Q E_=>YFk vs H Q
def YFl:Str:=YEG Zc 0 ++ YEG Zc 1
theorem YDq:YFl.cps.toList=YBV:=by decide +kernel
theorem YAd:YFl.length≤sizeLine:=YG (by decide +kernel)
theorem YAe {z:Str} (h:isNameS z=true):Y7 z=true:=by
 unfold Y7;rw[h,Bool.or_true]
theorem YJB {z:Str}{c:Nat}{j:Int} (hz:z.length≤7) (hl:z.cps.toList.all ZM=true) (hc:ZM c=true) (h0:0≤j) (h1:j≤z.length):
  isNameS (Txt.slice z none (some j) ++ ⟨#[c]⟩ ++ Txt.slice z (some j) none)=true:=by
 rw[YBl,YAI,YAI,YIo h0 h1,YGC h0 h1];have hzl:z.cps.toList.length=z.length:=YJ4;unfold YGt;have e1:((z.cps.toList.take j.toNat ++ [c] ++ z.cps.toList.drop j.toNat).length)=z.length + 1:=by
  rw[YJd,YJd,YKO,YKT,hzl];show min j.toNat z.length + 1 + (z.length - j.toNat)=_
  lia
 show(decide (1≤(z.cps.toList.take j.toNat ++ [c] ++ z.cps.toList.drop j.toNat).length) && decide ((z.cps.toList.take j.toNat ++ [c] ++ z.cps.toList.drop j.toNat).length≤8) && (z.cps.toList.take j.toNat ++ [c] ++ z.cps.toList.drop j.toNat).all ZM)=true;rw[e1,YJU (by lia),YJU (by lia)];rw[YJ6]at hl;rw[List.all_append,List.all_append];have a1:(z.cps.toList.take j.toNat).all ZM=true:=YJ6.mpr fun x hx=>hl x (List.mem_of_mem_take hx)
 have a2:(z.cps.toList.drop j.toNat).all ZM=true:=YJ6.mpr fun x hx=>hl x (List.mem_of_mem_drop hx)
 rw[a1,a2];show(true && (true && [c].all ZM && true))=true;rw[YKl,hc];rfl
theorem YJC {c:Nat}{n:Int} (hc:ZM c=true) (h0:1≤n) (h1:n≤8):isNameS (Txt.mul ⟨#[c]⟩ n)=true:=by
 rw[YBl,PyProof.Rows.mul_one_list];unfold YGt;rw[List.length_replicate,YJU (by lia),YJU (by lia)];show(List.replicate n.toNat c).all ZM=true;rw[YJ6];intro x hx;rw[(List.mem_replicate.mp hx).2];exact hc
section
variable {P:Program}{w:World}{K:W.Frag}{mg:Str→Option Value}{base:Heap}{C:Adr}
theorem YBw:YV ["_law_script","_law_k"] ["_law_script","_law_k"] (YJ XA):=⟨rfl,rfl,rfl,by decide +kernel,rfl,by decide +kernel,by decide +kernel⟩
theorem YBx {f:Addr}{fd:FuncData} (F:Fun K "_law_cell_at" "_law_cell_at" XA f fd) (T:Txt K mg C):Yr P w K mg base CX0 1 f fd ["_law_script","_law_k"] (YEE K):=by
 refine F.ok YBw (fun vs H Q E h=>?_) (fun cdv A outer s H vs Q E hr h=>?_)
 ·cases h;subst_vars;rfl
 ·obtain⟨a,ns,k,rfl,hS,h0,q⟩:=h;refine⟨_,(YE (ZB (Y1 op_lt (pv 1) (YK (YT K rfl) (by rfl) T.z_len YJT (YA (pv 0) YB)) (Yv _)) (YF (YX (YQ (YY K rfl) (pv 0) (pv 1) (fun _ _=>rfl)))) Yg)
   (YF (YX YC))),?_⟩
  refine⟨_,rfl,_,rfl,a,_,rfl,.inl hS,_,_,rfl,rfl,_,rfl,?_⟩;refine Jx (fun h1=>?_) fun h1=>?_
  ·have h1':=YJm h1;obtain⟨v,hv,hm⟩:=Zz h0 h1';obtain⟨n,_,rfl⟩:=YJh.mp hm;exact⟨_,rfl,_,rfl,a,_,k,_,rfl,rfl,hS,hv,q n⟩
  ·exact q 0
theorem YAm:YV ["_law_script","_law_k","_law_cell"] ["_law_script","_law_k"] (YJ Xu):=⟨rfl,rfl,rfl,by decide +kernel,rfl,by decide +kernel,by decide +kernel⟩
theorem YCy {f:Addr}{fd:FuncData} (F:Fun K "_law_mixed" "_law_mixed" Xu f fd) (T:Txt K mg C) (U__law_cell_at:ZO P w K mg CX0 1 "_law_cell_at" ["_law_script","_law_k"] (YEE K)):Yr P w K mg base CX0 2 f fd ["_law_script","_law_k"] (YB5 K):=by
 obtain⟨f__law_cell_at,fd__law_cell_at,G__law_cell_at,m__law_cell_at,k__law_cell_at,b__law_cell_at⟩:=U__law_cell_at.ok;refine F.ok YAm (fun vs H Q E h=>?_) (fun cdv A outer s H vs Q E hr h=>?_)
 ·cases h;subst_vars;rfl
 ·obtain⟨a,ns,k,rfl,hS,k0,k1,q⟩:=h;refine⟨_,(YE (YM (i:=2) YAm.nd rfl (Or.inl rfl) (YI Ym (YU (G__law_cell_at base) (hr.mono (by decide)) (by rfl) m__law_cell_at k__law_cell_at b__law_cell_at .nil Yf (YA (pv 0) (YA (pv 1) YB))) YC))
   (YF (YX (YI Ym (YI Ji (YI Yb (YI Yb (YI Yb (YI Ji (pv 2) (pv 2)) (pv 2)) (YI Ji (YI Ji YC (pv 1)) (pv 1))) YC) YC) YC)))),?_⟩
  refine⟨_,rfl,_,rfl,a,ns,k,rfl,hS,k0,fun v=>⟨_,_,rfl,rfl,(by show(0:Int) < 2147483629;decide),?_⟩⟩;have c0:0≤v % 2147483629:=by lia
  have c1:v % 2147483629 < 2147483629:=by lia
  refine⟨_,rfl,_,rfl,_,_,rfl,rfl,.inl ⟨by lia,by lia⟩,_,rfl,_,_,rfl,rfl,_,rfl,_,_,rfl,rfl,.inl ⟨by decide,by decide⟩,_,rfl,_,_,rfl,rfl,.inr ⟨by lia,by lia⟩,_,_,rfl,rfl,_,_,rfl,rfl,_,_,rfl,rfl,.inr ⟨by decide,by decide⟩,_,_,rfl,rfl,(by show(0:Int) < 2147483647;decide),q _ ?_ ?_⟩
  ·exact YJ7 _ (by decide)
  ·exact YJ9 _ (by decide)
theorem JZ:YV ["_law_cell","_law_some","_law_near"] ["_law_cell"] (YJ Zc):=⟨rfl,rfl,rfl,by decide +kernel,rfl,by decide +kernel,by decide +kernel⟩
theorem YCz {f:Addr}{fd:FuncData} (F:Fun K "_law_signs" "_law_signs" Zc f fd) (T:Txt K mg C):Yr P w K mg base CX0 1 f fd ["_law_cell"] (YES):=by
 refine F.ok JZ (fun vs H Q E h=>?_) (fun cdv A outer s H vs Q E hr h=>?_)
 ·cases h;subst_vars;rfl
 ·obtain⟨c,rfl,hp,q⟩:=h;refine⟨_,(YE (YM (i:=1) JZ.nd rfl (Or.inl rfl) Zk)
   (YE (YM (i:=1) JZ.nd rfl (Or.inl rfl) (YI JN (pv 1) Zk))
   (YE (YM (i:=2) JZ.nd rfl (Or.inl rfl) (Z8 (YA (YQ Jj (pv 1) (YI Ym (pv 0) YC) (fun _ _=>rfl)) (YA (YQ Jj (pv 1) (YI Ym (YI Yb (YI Yb (pv 0) YC) (YI Ym (YI Y6 (pv 0) YC) YC)) YC) (fun _ _=>rfl)) YB))))
   (YF (YX (YI YCD (pv 2) (Z8 (YA (YQ Jj (pv 1) (YI Ym (YI Yb (YI Yb (pv 0) YC) (YI Ym (YI Y6 (pv 0) YC) YC)) YC) (fun _ _=>rfl)) (YA (YQ Jj (pv 1) (YI Ym (YI Yb (pv 0) YC) YC) (fun _ _=>rfl)) YB))))))))),?_⟩
  refine⟨_,rfl,YEG Zc 0,YEG Zc 1,rfl,rfl,by decide +kernel,?_⟩;have at_:∀i:Int,∃k,atI YFl.cps.toList (i % 94)=some k∧Z3 k=true:=fun i=>by
   obtain⟨k,hk,hm⟩:=Zz (xs:=YFl.cps.toList) (i:=i % 94) (by lia) (by rw[YDq,YHc];lia);rw[YDq]at hm;exact⟨k,hk,YGB hm⟩
  obtain⟨k1,e1,g1⟩:=at_ c;obtain⟨k2,e2,g2⟩:=at_ (c + 1 + c / 94 % 46);obtain⟨k3,e3,g3⟩:=at_ (c + 47 + c / 4324 % 46);obtain⟨k4,e4,g4⟩:=at_ (c + 93);refine⟨_,rfl,_,rfl,_,_,rfl,rfl,(by show(0:Int) < 94;decide),YFl,_,k1,rfl,rfl,YAd,e1,?_⟩;refine⟨_,rfl,_,rfl,_,_,rfl,rfl,_,rfl,_,_,rfl,rfl,⟨by decide,by decide⟩,_,_,rfl,rfl,(by show(0:Int) < 46;decide),_,_,rfl,rfl,_,_,rfl,rfl,(by show(0:Int) < 94;decide),YFl,_,k2,rfl,rfl,YAd,e2,?_⟩;refine⟨YG (by show 2≤1000;decide),fun l1 hl1=>?_⟩;refine⟨_,rfl,?_⟩;refine⟨_,rfl,_,rfl,_,_,rfl,rfl,_,rfl,_,_,rfl,rfl,⟨by decide,by decide⟩,_,_,rfl,rfl,(by show(0:Int) < 46;decide),_,_,rfl,rfl,_,_,rfl,rfl,(by show(0:Int) < 94;decide),YFl,_,k3,rfl,rfl,YAd,e3,?_⟩;refine⟨_,rfl,_,rfl,_,_,rfl,rfl,_,_,rfl,rfl,(by show(0:Int) < 94;decide),YFl,_,k4,rfl,rfl,YAd,e4,?_⟩;refine⟨YG (by show 2≤1000;decide),fun l2 hl2=>?_⟩;have s2:=(YL.upd (o:=.lst [.str ⟨#[k1]⟩,.str ⟨#[k2]⟩]) hl1).trans (YL.upd (o:=.lst [.str ⟨#[k3]⟩,.str ⟨#[k4]⟩]) hl2);refine⟨l1,l2,_,_,rfl,rfl,(YL.upd hl2) _ _ YD,YD,YG (by show 2 + 2≤1000;decide),fun l hl=>?_⟩;exact q l k1 k2 k3 k4 _ g1 g2 g3 g4 (s2.trans (YL.upd hl)) (((hp.upd rfl).upd rfl).upd rfl) (s2.free hl) YD
theorem ZC:YV ["_law_cell","_law_big","_law_odd","_law_k","_law_base","_law_at"] ["_law_cell"] (YJ JH):=⟨rfl,rfl,rfl,by decide +kernel,rfl,by decide +kernel,by decide +kernel⟩
theorem YC0 {f:Addr}{fd:FuncData} (F:Fun K "_law_names" "_law_names" JH f fd) (T:Txt K mg C):Yr P w K mg base CX0 1 f fd ["_law_cell"] (YHC):=by
 refine F.ok ZC (fun vs H Q E h=>?_) (fun cdv A outer s H vs Q E hr h=>?_)
 ·cases h;subst_vars;rfl
 ·obtain⟨c,rfl,c0,c1,hp,q⟩:=h;refine⟨_,(YE (YM (i:=1) ZC.nd rfl (Or.inr rfl) Zk)
   (YE (YM (i:=2) ZC.nd rfl (Or.inr rfl) (YI Ym (pv 0) YC))
   (YE (YM (i:=0) ZC.nd rfl (Or.inl rfl) (YI Y6 (pv 0) YC))
   (YE (ZB (Y1 X9 (YI Ym (pv 0) YC) YC (Yv _)) (YF (YX (Z0 (N:=["_law_k","_law_big","_law_odd"]) (ρ:=[none,some 1,some 2]) rfl (Yh.closes ["_law_cell","_law_big","_law_odd","_law_k","_law_base","_law_at"] (YJ JH).names rfl rfl rfl rfl (by decide +kernel) (by decide +kernel) (fun x h=>Jv h) (by decide +kernel) rfl (by decide +kernel)) (Yt rfl T.z_range (YA YC YB)) (fun _ _ _ _ _=>(YN (i:=0) JI rfl (Or.inl rfl) (.inr rfl))) (fun _ _ _ _ _=>Zj) (fun _ _ _ _ _=>(YI YF6 (YQ Jj (pv 1) (pv 2) (fun _ _=>rfl)) (YI Z2 (YI Yb (YI Ji YC (pv 0)) YC) (YI Y6 (pv 0) YC))))))) Yg)
   (YE (YM (i:=4) ZC.nd rfl (Or.inr rfl) Zk)
   (YE (Yi PassesOwn.never rfl (Yt rfl T.z_range (YA (YI Ym (YI Y6 (pv 0) YC) YC) YB)) (YN (i:=3) ZC.nd rfl (Or.inl rfl)) (YF (YM (i:=4) ZC.nd rfl (Or.inr rfl) (YI JN (pv 4) (YQ Jj (pv 1) (YI Ym (YI Y6 (YI Ji (pv 0) (YI Yb (pv 3) YC)) YC) YC) (fun _ _=>rfl))))))
   (YE (YM (i:=5) ZC.nd rfl (Or.inr rfl) (YI Ym (YI Y6 (pv 0) YC) (YI Yb (YK Yq (by rfl) T.z_len YJT (YA (pv 4) YB)) YC)))
   (YF (YX (Z0 (N:=["_law_k","_law_at","_law_base","_law_big","_law_odd"]) (ρ:=[none,some 5,some 4,some 1,some 2]) rfl (Yh.closes ["_law_cell","_law_big","_law_odd","_law_k","_law_base","_law_at"] (YJ JH).names rfl rfl rfl rfl (by decide +kernel) (by decide +kernel) (fun x h=>Jv h) (by decide +kernel) rfl (by decide +kernel)) (Yt rfl T.z_range (YA YC YB)) (fun _ _ _ _ _=>(YN (i:=0) ZH rfl (Or.inl rfl) (.inr rfl))) (fun _ _ _ _ _=>Zj) (fun _ _ _ _ _=>(YI JN (YI JN (Zd YD9 (pv 2) XG (ZP (pv 1))) (YQ Jj (pv 3) (YI Yb (pv 4) (pv 0)) (fun _ _=>rfl))) (Zd YD9 (pv 2) (ZP (pv 1)) XG))))))))))))),?_⟩
  refine⟨_,rfl,_,_,rfl,rfl,(by show(0:Int) < 23;decide),?_⟩;refine⟨_,rfl,_,_,rfl,rfl,⟨by decide,by decide⟩,?_⟩;refine⟨_,rfl,_,_,rfl,rfl,(by show(0:Int) < 4;decide),rfl,_,rfl,Jx (fun h0=>?_) fun h0=>?_⟩
  ·refine⟨4,rfl,by decide,by decide,fun l hl=>?_⟩;refine ZX (n:=4) 0 (fun k y _=>∃z,y=.str z∧isNameS z=true) Z6 (fun _ _ _ _ _ h=>h) hp hl (by show 0 < 3;decide) (YG (by decide)) (fun τ'=>∃v,τ'=[v,some (.str BIG),some (.int (c % 23))]) ⟨_,rfl⟩ ?_ ?_ ?_
   ·rintro τ' v ⟨w,rfl⟩;exact⟨v,rfl⟩
   ·rintro τ' k x H' R ⟨w,rfl⟩ hτ hit hk hs hp' hlne hR;have ew:w=some x:=by simpa using hτ
    subst ew hit;obtain⟨c2,hc2,hm⟩:=Zz (xs:=BIG.cps.toList) (i:=c % 23) (by lia) (by rw[YEF];lia);refine⟨_,rfl,_,rfl,BIG,_,c2,rfl,rfl,YCS,hc2,_,rfl,_,_,rfl,rfl,.inl ⟨by decide,by decide⟩,_,_,rfl,rfl,_,rfl,_,_,rfl,rfl,⟨by decide,by decide⟩,_,_,rfl,rfl,_,_,rfl,rfl,(by show 1≤1000;decide),?_,?_,hR _ _ (YL.refl _) hp' ⟨_,rfl,YJC (YAt hm) ?_ ?_⟩⟩ <;> lia
   ·intro ys H' hy hP hs hp' hl';obtain⟨zs,rfl,hz⟩:=YAu hP;exact q l zs H' (by rw[YJL]at hy;exact hy) hz hs hp' hl hl'
  ·refine⟨_,rfl,_,_,rfl,rfl,⟨by decide,by decide⟩,_,_,rfl,rfl,(by show(0:Int) < 8;decide),_,rfl,(in62 (by lia) (by lia)).1,(in62 (by lia) (by lia)).2,?_⟩;refine Y0 (lo:=0) (n:=(c / 23 / 4 % 8).toNat) (fun i σ H2=>H2=H∧∃(z:Str) (v:Option V),σ=[some (.int (c / 23)),some (.str BIG),some (.int (c % 23)),v,some (.str z),none]∧z.length=i∧z.cps.toList.all ZM=true) ⟨rfl,_,none,rfl,(by decide +kernel),(by decide +kernel)⟩ ?_ ?_
   ·rintro i σ H2 hi ⟨rfl,z,v,rfl,hz,hzl⟩;have hi8:i < 8:=by lia
    obtain⟨c2,hc2,hm⟩:=Zz (xs:=BIG.cps.toList) (i:=c / 23 * (0 + (i:Int) + 3) / 7 % 26) (by lia) (by rw[YEF];lia);refine⟨_,rfl,_,rfl,_,rfl,_,rfl,_,_,rfl,rfl,_,_,rfl,rfl,.inl ⟨by lia,by lia⟩,_,_,rfl,rfl,⟨by decide,by decide⟩,_,_,rfl,rfl,(by show(0:Int) < 26;decide),BIG,_,c2,rfl,rfl,YCS,hc2,z,_,rfl,rfl,YG (by show z.length + 1≤1000;lia),?_⟩;refine⟨rfl,z ++ ⟨#[c2]⟩,_,rfl,by rw[slen,hz];rfl,?_⟩;rw[YAI,List.all_append,hzl];show(true && [c2].all ZM)=true;rw[YKl,YAt hm];rfl
   ·rintro σ H2 ⟨rfl,z,v,rfl,hz,hzl⟩;have hz7:z.length≤7:=by lia
    refine⟨_,rfl,_,_,rfl,rfl,⟨by decide,by decide⟩,_,rfl,z,rfl,YG (by lia),_,_,rfl,rfl,_,_,rfl,rfl,(by show(0:Int) < (z.length:Int) + 1;lia),?_⟩;have a0:0≤c / 23 / 32 % ((z.length:Int) + 1):=YJ7 _ (by lia);have a1:c / 23 / 32 % ((z.length:Int) + 1) < (z.length:Int) + 1:=YJ9 _ (by lia);obtain⟨at_,hat⟩:∃a,a=c / 23 / 32 % ((z.length:Int) + 1):=⟨_,rfl⟩;rw[←hat]at a0 a1;refine⟨4,rfl,by decide,by decide,fun l hl=>?_⟩;refine ZX (n:=4) 0 (fun k y _=>∃z,y=.str z∧isNameS z=true) Z6 (fun _ _ _ _ _ h=>h) hp hl (by show 0 < 5;decide) (YG (by decide)) (fun τ'=>∃v,τ'=[v,some (.int at_),some (.str z),some (.str BIG),some (.int (c % 23))]) ⟨none,by rw[hat];rfl⟩ ?_ ?_ ?_
    ·rintro τ' v ⟨w,rfl⟩;exact⟨v,rfl⟩
    ·rintro τ' k x H' R ⟨w,rfl⟩ hτ hit hk hs hp' hlne hR;have ew:w=some x:=by simpa using hτ
     subst ew hit;obtain⟨c2,hc2,hm⟩:=Zz (xs:=BIG.cps.toList) (i:=c % 23 + (0 + (k:Int))) (by lia) (by rw[YEF];lia);have q1:=Txt.slice_le z none (some at_);have q2:=Txt.slice_le z (some at_) none;refine⟨_,rfl,_,rfl,_,rfl,z,rfl,YG (by lia),_,rfl,_,rfl,_,rfl,_,_,rfl,rfl,BIG,_,c2,rfl,rfl,YCS,hc2,_,_,rfl,rfl,YG (by show _ + 1≤1000;lia),_,rfl,_,rfl,_,rfl,z,rfl,YG (by lia),_,_,rfl,rfl,YG (by rw[slen];show _ + 1 + _≤1000;lia),hR _ _ (YL.refl _) hp' ⟨_,rfl,YJB hz7 hzl (YAt hm) a0 (by lia)⟩⟩
    ·intro ys H' hy hP hs hp' hl';obtain⟨zs,rfl,hz⟩:=YAu hP;exact q l zs H' (by rw[YJL]at hy;exact hy) hz hs hp' hl hl'
theorem YC1:YV ["_law_cell"] ["_law_cell"] (YJ Xv):=⟨rfl,rfl,rfl,by decide +kernel,rfl,by decide +kernel,by decide +kernel⟩
theorem YC2 {f:Addr}{fd:FuncData} (F:Fun K "_law_worth" "_law_worth" Xv f fd) (T:Txt K mg C):Yr P w K mg base CX0 1 f fd ["_law_cell"] (YCi):=by
 refine F.ok YC1 (fun vs H Q E h=>?_) (fun cdv A outer s H vs Q E hr h=>?_)
 ·cases h;subst_vars;rfl
 ·obtain⟨c,rfl,q⟩:=h;refine⟨_,(YE (ZB (Y1 X9 (YI Ym (pv 0) YC) YC (Yv _)) (YF (YX (YI Ym (YI Y6 (pv 0) YC) (YI Yb (YI X8 YC YC) YC)))) Yg)
   (YF (YX (YI Ym (YI Y6 (pv 0) YC) YC)))),?_⟩
  have big:(1000:Int)≤10 ^ 60:=by decide
  refine⟨_,rfl,_,_,rfl,rfl,(by show(0:Int) < 3;decide),rfl,_,rfl,Jx (fun _=>?_) fun _=>?_⟩
  ·refine⟨_,rfl,_,_,rfl,rfl,⟨by decide,by decide⟩,_,_,rfl,rfl,⟨by decide,by decide,by decide⟩,_,_,rfl,rfl,_,_,rfl,rfl,(by show(0:Int) < 10 ^ (60:Int).toNat + 1;decide),q _ ?_ ?_⟩
   ·exact YJ7 _ (by decide)
   ·exact Int.le_of_lt_add_one (YJ9 _ (by decide))
  ·refine⟨_,rfl,_,_,rfl,rfl,⟨by decide,by decide⟩,_,_,rfl,rfl,(by show(0:Int) < 4;decide),q _ ?_ ?_⟩
   ·show 0≤c / 3 % 4
    lia
   ·show c / 3 % 4≤10 ^ 60
    lia
theorem Zh:YV ["_law_cell","_law_menu","_law_most","_law_size","_law_parts_here","_law_k"] ["_law_cell","_law_menu","_law_most"] (YJ Xw):=⟨rfl,rfl,rfl,by decide +kernel,rfl,by decide +kernel,by decide +kernel⟩
theorem YC3 {f:Addr}{fd:FuncData} (F:Fun K "_law_parts" "_law_parts" Xw f fd) (T:Txt K mg C):Yr P w K mg base CX0 1 f fd ["_law_cell","_law_menu","_law_most"] (YHD):=by
 refine F.ok Zh (fun vs H Q E h=>?_) (fun cdv A outer s H vs Q E hr h=>?_)
 ·cases h;subst_vars;rfl
 ·obtain⟨c,m,zs,n,rfl,hm,z1,z2,n0,n6,hp,q⟩:=h;refine⟨_,(YE (YM (i:=3) Zh.nd rfl (Or.inl rfl) (YI Ym (pv 0) (YI Yb (pv 2) YC)))
   (YE (YM (i:=0) Zh.nd rfl (Or.inl rfl) (YI Y6 (pv 0) (YI Yb (pv 2) YC)))
   (YE (YM (i:=4) Zh.nd rfl (Or.inl rfl) (Z8 YB))
   (YE (Yi PassesOwn.never rfl (Yt rfl T.z_range (YA (pv 3) YB)) (YN (i:=5) Zh.nd rfl (Or.inl rfl)) (YE (ZV (JB K rfl YJx YJ0 YJz ZD (pv 4) (YA (YQ (YY K rfl) (pv 1) (YI Ym (pv 0) (YK (YT K rfl) (by rfl) T.z_len YJT (YA (pv 1) YB))) (fun _ _=>rfl)) YB)))
   (YF (YM (i:=0) Zh.nd rfl (Or.inl rfl) (YI Y6 (pv 0) (YK (YT K rfl) (by rfl) T.z_len YJT (YA (pv 1) YB)))))))
   (YF (YX (Jt (YAE K rfl) (by rfl) T.z_tuple YKJ (YA (pv 4) YB)))))))),?_⟩
  refine⟨_,rfl,_,rfl,_,_,rfl,rfl,_,_,rfl,rfl,(by show(0:Int) < n + 1;lia),?_⟩;refine⟨_,rfl,_,rfl,_,_,rfl,rfl,_,_,rfl,rfl,⟨by lia,by lia⟩,?_⟩;have s0:0≤c % (n + 1):=YJ7 _ (by lia);have s1:c % (n + 1) < n + 1:=YJ9 _ (by lia);obtain⟨sz,hsz⟩:∃sz,sz=c % (n + 1):=⟨_,rfl⟩;rw[←hsz]at s0 s1;refine⟨YJw _,fun l hl=>?_⟩;refine⟨_,rfl,sz,by rw[hsz],(in62 (by lia) (by lia)).1,(in62 (by lia) (by lia)).2,?_⟩;have nml:m≠l:=YR hm hl;refine Y0 (lo:=0) (n:=sz.toNat) (fun i σ H2=>∃(ps:List Str) (x:Int) (v:Option V),H2=upd H l (.lst (ps.map V.str))∧ps.length=i∧(∀p∈ps,p∈zs)∧σ=[some (.int x),some (.ref m),some (.int n),some (.int sz),some (.ref l),v]) ⟨[],_,none,rfl,rfl,by simp,by rw[hsz];rfl⟩ ?_ ?_
  ·rintro i σ H2 hi ⟨ps,x,v,rfl,hpl,hpm,rfl⟩;have hm2:upd H l (.lst (ps.map V.str)) m=some (.lst (zs.map V.str)):=by rw[YH nml];exact hm
   have hzl:((zs.map V.str).length:Int)=(zs.length:Int):=by rw[YJL]
   obtain⟨y,hy,hmem⟩:=Zz (xs:=zs.map V.str) (i:=x % ((zs.map V.str).length:Int)) (YJ7 _ (by lia)) (YJ9 _ (by lia));obtain⟨z,hz,rfl⟩:=YJh.mp hmem;refine⟨_,rfl,.inl ⟨rfl,_,SqL.of YD⟩,_,rfl,_,rfl,_,rfl,m,_,rfl,.inl (SqL.of hm2),_,_,rfl,rfl,(by lia),m,_,_,_,rfl,rfl,SqL.of hm2,hy,l,_,.str z,rfl,rfl,YD,?_,?_⟩
   ·rw[YJL];exact YJY (show _ < 1000 by lia) (YG (YJP _))
   ·refine⟨_,rfl,_,rfl,m,zs.map V.str,rfl,.inl (SqL.of ?_),_,_,rfl,rfl,⟨by show(0:Int) < ((zs.map V.str).length:Int);lia,by show((zs.map V.str).length:Int) < 1073741824;lia⟩,ps ++ [z],_,_,?_,by rw[YJd,hpl];rfl,?_,rfl⟩
    ·rw[YBz,YH nml];exact hm
    ·rw[YBz,YJo];rfl
    ·intro p hp;rcases YJs.mp hp with h |h
     ·exact hpm p h
     ·rw[YJW.mp h];exact hz
  ·rintro σ H2 ⟨ps,x,v,rfl,hpl,hpm,rfl⟩;refine⟨_,rfl,l,_,rfl,.inl ⟨SqL.of YD,fun t ht=>?_⟩⟩;have s2:=YL.upd (o:=.lst (ps.map V.str)) hl;exact q t ps _ (by lia) hpm (s2.trans (YL.upd ht)) ((hp.upd rfl).upd rfl) (s2.free ht) YD
end
theorem YBJ:(["_law_sign"]:List Str).Nodup:=by decide +kernel
theorem YDr {H:Hp}:∀{xs:List V}{ds:List D},Yd H xs ds→Yd H xs.reverse ds.reverse
 |[],[],_=>.nil
 |[],_ :: _,h=>by unfold Yd at h;exact h.elim
 |_ :: _,[],h=>by unfold Yd at h;exact h.elim
 |x :: xs,d :: ds,h=>by
  unfold Yd at h;rw[List.reverse_cons,List.reverse_cons];exact(YDr h.2).append (.cons h.1 .nil)
theorem YHz {r:Y2} (h:J0 r=true):∀p∈r.2.1,Y7 p=true:=by
 unfold J0 at h;simp only[YJe,YJ6]at h;exact h.2.1.2
def R72 (hs:List Str) (r:Y2):Prop:=J0 r=true∧r.2.1.length≤3∧r.1∈hs
inductive YHE (K:W.Frag) (vs:List V) (H:Hp) (Q:VK):Prop where
 |mk (a:Addr) (ns:List Int) (h0_:vs=[.ref a]) (h1_:SqL K H a (ns.map V.int)) (h2_:YS H) (h3_:∀(l:Addr) (xs:List V) (g:ZF) (hs:List Str) (H':Hp),g.length≤6→1≤g.length→hs.length≤3→(∀r∈g,R72 hs r)→YL H H'→YS H'→H l=none→H' l=some (.lst xs)→Yd (del H' l) xs (g.map Zf)→Q (.ref l) H'):YHE K vs H Q
def YJD (K:W.Frag):Sp:=fun vs H Q E_=>YHE K vs H Q
theorem YJE (c:Nat):isQ (("'":Str) ++ ⟨#[c]⟩)=true:=by
 rw[YG4];exact YJU (by rw[YEx];rfl)
theorem in62 {i:Int} (h0:-1000≤i) (h1:i≤1000):-(2 ^ 62)≤i∧i < 2 ^ 62:=⟨by omega,by omega⟩
theorem YFm (ss:List Str) (lo hi:Option Int):∃zs:List Str,X3 (ss.map V.str) lo hi=zs.map V.str∧(∀z∈zs,z∈ss)∧zs.length≤ss.length:=by
 unfold X3;refine⟨_,by rw[←List.map_drop,←List.map_take],fun z hz=>List.mem_of_mem_drop (List.mem_of_mem_take hz),?_⟩;rw[YKO,YKT];omega
theorem YH0 (xs:List V) (n:Nat) (h:n≤xs.length):X3 xs none (some (n:Int))=xs.take n:=by
 unfold X3;have e2:HT.sIx xs.length xs.length (some (n:Int))=min n xs.length:=HT.sIx_nat _ _ n;rw[e2,Nat.min_eq_left h];rfl
theorem YFn {H5 H H8:Hp}{l:Addr}{xs:List V}{g:ZF} (h:H l=some (.lst xs)) (hds:Yd (del H l) xs (g.map Zf)) (s:YL H5 H) (hl:H5 l=none) (s8:YL H H8) (p:YS H8) {t tt:Addr} (r:Y2) (nt1:t≠l) (ht:H8 t=some (.tup (r.2.1.map V.str))) (h2:H8 tt=none):
  (upd H8 tt (.tup [.str r.1,.ref t,.int r.2.2])) l=some (.lst xs)∧∃Ha,upd (upd H8 tt (.tup [.str r.1,.ref t,.int r.2.2])) l (.lst (xs ++ [.ref tt]))=Ha∧Ha l=some (.lst (xs ++ [.ref tt]))∧Yd (del Ha l) (xs ++ [.ref tt]) ((g ++ [r]).map Zf)∧YL H5 Ha∧YS Ha:=by
 have u2:=YL.upd (o:=.tup [.str r.1,.ref t,.int r.2.2]) h2;have nt2:tt≠l:=fun z=>by rw[z,s8 _ _ h]at h2;cases h2
 refine⟨u2 _ _ (s8 _ _ h),_,rfl,YD,?_,(s.trans (s8.trans u2)).put hl,(p.upd rfl).upd rfl⟩;rw[Xk,YJo];refine(hds.same ((s8.trans u2).del l)).append (.cons ?_ .nil);refine .tup (show del _ l tt=some _ from ?_) (.cons (.str _) (.cons (.tup (show del _ l t=some _ from ?_) (Yd.strs r.2.1)) (.cons (.int _) .nil)))
 ·rw[YAF nt2];exact YD
 ·rw[YAF nt1];exact u2 _ _ ht
theorem seq_rS {t u:TS}{D:YAf}{σ:St}{H:Hp} (M:St→Hp→Prop) (rest:∀σ' H',M σ' H'→u D σ' H') (h:(∀σ' H',M σ' H'→u D σ' H')→t { D with nx:=u D } σ H):tSeq t u D σ H:=h rest
section
variable {P:Program}{w:World}{K:W.Frag}{mg:Str→Option Value}{base:Heap}{C:Adr}
theorem YZ:YV ["_law_script","_law_names_here","_law_signs_here","_law_way","_law_heads","_law_menu","_law_rules","_law_k","_law_cell","_law_head","_law_parts_here"] ["_law_script"] (YJ XB):=⟨rfl,rfl,rfl,by decide +kernel,rfl,by decide +kernel,by decide +kernel⟩
theorem YBy {f:Addr}{fd:FuncData} (F:Fun K "_law_grammar" "_law_grammar" XB f fd) (T:Txt K mg C) (U__law_names:ZO P w K mg CX0 1 "_law_names" ["_law_cell"] (YHC)) (U__law_mixed:ZO P w K mg CX0 2 "_law_mixed" ["_law_script","_law_k"] (YB5 K)) (U__law_parts:ZO P w K mg CX0 1 "_law_parts" ["_law_cell","_law_menu","_law_most"] (YHD)) (U__law_signs:ZO P w K mg CX0 1 "_law_signs" ["_law_cell"] (YES)) (U__law_worth:ZO P w K mg CX0 1 "_law_worth" ["_law_cell"] (YCi)) (U__law_cell_at:ZO P w K mg CX0 1 "_law_cell_at" ["_law_script","_law_k"] (YEE K)):Yr P w K mg base CX0 3 f fd ["_law_script"] (YJD K):=by
 obtain⟨f__law_names,fd__law_names,G__law_names,m__law_names,k__law_names,b__law_names⟩:=U__law_names.ok;obtain⟨f__law_mixed,fd__law_mixed,G__law_mixed,m__law_mixed,k__law_mixed,b__law_mixed⟩:=U__law_mixed.ok;obtain⟨f__law_parts,fd__law_parts,G__law_parts,m__law_parts,k__law_parts,b__law_parts⟩:=U__law_parts.ok;obtain⟨f__law_signs,fd__law_signs,G__law_signs,m__law_signs,k__law_signs,b__law_signs⟩:=U__law_signs.ok;obtain⟨f__law_worth,fd__law_worth,G__law_worth,m__law_worth,k__law_worth,b__law_worth⟩:=U__law_worth.ok;obtain⟨f__law_cell_at,fd__law_cell_at,G__law_cell_at,m__law_cell_at,k__law_cell_at,b__law_cell_at⟩:=U__law_cell_at.ok;refine F.ok YZ (fun vs H Q E h=>?_) (fun cdv A outer s H vs Q E hr h=>?_)
 ·cases h;subst_vars;rfl
 ·obtain⟨a,ns,rfl,hS,hp,q⟩:=h;refine⟨_,(YE (YM (i:=1) YZ.nd rfl (Or.inl rfl) (YU (G__law_names base) (hr.mono (by decide)) (by rfl) m__law_names k__law_names b__law_names .nil Yf (YA (YU (G__law_mixed base) (hr.mono (by decide)) (by rfl) m__law_mixed k__law_mixed b__law_mixed .nil Yf (YA (pv 0) (YA YC YB))) YB)))
   (YE (YGn (N:=["_law_sign"]) (ρ:=[none]) (cl:=[]) (i:=2) YZ.nd rfl rfl rfl (Yh.plain rfl (by decide +kernel) (by decide +kernel) rfl (by simp)) (JA K rfl (Zd (Je K rfl) (YU (G__law_signs base) (hr.mono (by decide)) (by rfl) m__law_signs k__law_signs b__law_signs .nil Yf (YA (YU (G__law_mixed base) (hr.mono (by decide)) (by rfl) m__law_mixed k__law_mixed b__law_mixed .nil Yf (YA (pv 0) (YA YC YB))) YB)) XG (ZP YC))) (fun _ _ _ _ _=>(YN (i:=0) YBJ rfl (Or.inl rfl) (.inr rfl))) (fun _ _ _ _ _=>Zj) (fun _ _ _ _ _=>(YI JN Zk (pv 0))))
   (YE (YM (i:=3) YZ.nd rfl (Or.inl rfl) (YU (G__law_mixed base) (hr.mono (by decide)) (by rfl) m__law_mixed k__law_mixed b__law_mixed .nil Yf (YA (pv 0) (YA YC YB))))
   (YE (YM (i:=4) YZ.nd rfl (Or.inl rfl) (Zd (Je K rfl) (pv 1) XG (ZP (YI Yb YC (YI Ym (pv 3) YC)))))
   (YE (YM (i:=5) YZ.nd rfl (Or.inl rfl) (YI YCD (YI YCD (YI YCD (YI YCD (pv 4) (Zd (Je K rfl) (pv 2) XG (ZP YC))) (pv 4)) (pv 2)) (Zd (Je K rfl) (pv 1) (ZP YC) XG)))
   (YE (YM (i:=6) YZ.nd rfl (Or.inl rfl) (Z8 YB))
   (YE (Yi PassesOwn.never rfl (Yt rfl T.z_range (YA (YK (YT K rfl) (by rfl) T.z_len YJT (YA (pv 4) YB)) YB)) (YN (i:=7) YZ.nd rfl (Or.inl rfl)) (YE (YM (i:=8) YZ.nd rfl (Or.inl rfl) (YU (G__law_mixed base) (hr.mono (by decide)) (by rfl) m__law_mixed k__law_mixed b__law_mixed .nil Yf (YA (pv 0) (YA (YI Yb YC (pv 7)) YB))))
   (YF (ZV (JB K rfl YJx YJ0 YJz ZD (pv 6) (YA (ZW (YA (YQ (YY K rfl) (pv 4) (pv 7) (fun _ _=>rfl)) (YA (YU (G__law_parts base) (hr.mono (by decide)) (by rfl) m__law_parts k__law_parts b__law_parts .nil Yf (YA (pv 8) (YA (pv 2) (YA YC YB)))) (YA (YU (G__law_worth base) (hr.mono (by decide)) (by rfl) m__law_worth k__law_worth b__law_worth .nil Yf (YA (YU (G__law_cell_at base) (hr.mono (by decide)) (by rfl) m__law_cell_at k__law_cell_at b__law_cell_at .nil Yf (YA (pv 0) (YA (YI Yb YC (pv 7)) YB))) YB)) YB)))) YB))))))
   (YE (Yi PassesOwn.never rfl (Yt rfl T.z_range (YA (YI Yb YC (YI Ym (YI Y6 (pv 3) YC) YC)) YB)) (YN (i:=7) YZ.nd rfl (Or.inl rfl)) (YE (YM (i:=8) YZ.nd rfl (Or.inl rfl) (YU (G__law_mixed base) (hr.mono (by decide)) (by rfl) m__law_mixed k__law_mixed b__law_mixed .nil Yf (YA (pv 0) (YA (YI Yb YC (pv 7)) YB))))
   (YE (YM (i:=9) YZ.nd rfl (Or.inl rfl) (YQ (YY K rfl) (pv 4) (YI Ym (YI Ym (pv 8) YC) (YK (YT K rfl) (by rfl) T.z_len YJT (YA (pv 4) YB))) (fun _ _=>rfl)))
   (YE (YM (i:=10) YZ.nd rfl (Or.inl rfl) (YU (G__law_parts base) (hr.mono (by decide)) (by rfl) m__law_parts k__law_parts b__law_parts .nil Yf (YA (YI Y6 (pv 8) YC) (YA (pv 5) (YA YC YB)))))
   (YE (ZB (Y1 X9 (YI Ym (YI Y6 (pv 8) YC) YC) YC (Yv _)) (YF (YM (i:=10) YZ.nd rfl (Or.inl rfl) (ZW (YA (YQ (YY K rfl) (pv 4) (YI Ym (YI Y6 (pv 8) YC) (YK (YT K rfl) (by rfl) T.z_len YJT (YA (pv 4) YB))) (fun _ _=>rfl)) YB)))) Yg)
   (YE (ZB (Y1 X9 (YI Ym (YI Y6 (pv 8) YC) YC) YC (Yv _)) (YE (YM (i:=9) YZ.nd rfl (Or.inl rfl) (YQ (Ya K rfl) (YQ (YY K rfl) (pv 6) (YI Ym (YI Y6 (pv 8) YC) (YK (YT K rfl) (by rfl) T.z_len YJT (YA (pv 6) YB))) (fun _ _=>rfl)) YC (fun _ _=>rfl)))
   (YF (YM (i:=10) YZ.nd rfl (Or.inl rfl) (YQ (Ya K rfl) (YQ (YY K rfl) (pv 6) (YI Ym (YI Y6 (pv 8) YC) (YK (YT K rfl) (by rfl) T.z_len YJT (YA (pv 6) YB))) (fun _ _=>rfl)) YC (fun _ _=>rfl))))) Yg)
   (YF (ZV (JB K rfl YJx YJ0 YJz ZD (pv 6) (YA (ZW (YA (pv 9) (YA (pv 10) (YA (YU (G__law_worth base) (hr.mono (by decide)) (by rfl) m__law_worth k__law_worth b__law_worth .nil Yf (YA (YU (G__law_cell_at base) (hr.mono (by decide)) (by rfl) m__law_cell_at k__law_cell_at b__law_cell_at .nil Yf (YA (pv 0) (YA (YI Yb YC (pv 7)) YB))) YB)) YB)))) YB))))))))))
   (YE (ZB (Y1 X9 (YI Ym (YI Y6 (pv 3) YC) YC) YC (Yv _)) (YF (ZV (pe_bm0K K rfl YJx PySem.F.slot_list_reverse PySem.F.type_list_reverse YF1 (pv 6)))) Yg)
   (YF (YX (pv 6)))))))))))),?_⟩
  refine⟨_,rfl,a,ns,0,rfl,hS,by decide,by decide,fun v0 a0 b0=>⟨_,rfl,a0,by omega,hp,fun ln nm H1 n4 nN s1 p1 hln h1=>?_⟩⟩;refine⟨_,rfl,a,ns,1,rfl,s1.seq hS,by decide,by decide,fun v1 _ _=>⟨_,rfl,p1,fun lg c1 c2 c3 c4 H2 g1 g2 g3 g4 s2 p2 hlg h2=>?_⟩⟩;refine⟨3,rfl,lg,_,rfl,SqL.of h2,fun lg3 hlg3=>?_⟩;have e3:X3 [V.str ⟨#[c1]⟩,.str ⟨#[c2]⟩,.str ⟨#[c3]⟩,.str ⟨#[c4]⟩] none (some 3)=[.str ⟨#[c1]⟩,.str ⟨#[c2]⟩,.str ⟨#[c3]⟩]:=rfl;rw[e3];have s2':=s2.trans (YL.upd (o:=.lst [.str ⟨#[c1]⟩,.str ⟨#[c2]⟩,.str ⟨#[c3]⟩]) hlg3);have p2':YS (upd H2 lg3 (.lst [.str ⟨#[c1]⟩,.str ⟨#[c2]⟩,.str ⟨#[c3]⟩])):=p2.upd rfl;have h2':upd H2 lg3 (.lst [.str ⟨#[c1]⟩,.str ⟨#[c2]⟩,.str ⟨#[c3]⟩]) lg3=some (.lst [.str ⟨#[c1]⟩,.str ⟨#[c2]⟩,.str ⟨#[c3]⟩]):=YD;clear s2 p2 h2 hlg hlg3;revert s2' p2' h2';generalize upd H2 lg3 (.lst [.str ⟨#[c1]⟩,.str ⟨#[c2]⟩,.str ⟨#[c3]⟩])=H2;intro s2 p2 h2;refine⟨lg3,rfl,⟨_,SqL.of h2⟩,fun ls hls=>?_⟩;refine ZX (n:=3) 0 (fun k y _=>∃z,y=.str z∧(Y7 z=true∧isQ z=true)) (YAq (SqL.of (K:=K) h2)) (fun _ _ _ _ _ h=>h) p2 hls YKR (YG (by decide)) (fun τ'=>0 < τ'.length) YKR (fun τ' v h=>by rw[YKf];exact h) ?_ ?_
  ·intro τ' k y H' R _ hτ hit hk hs hp' hlne hR;obtain⟨c,hc,rfl⟩:∃c:Nat,Z3 c=true∧y=.str ⟨#[c]⟩:=by
    have hm:=YJS hit;simp only[YJg,YJ8,or_false]at hm;rcases hm with rfl |rfl |rfl
    ·exact⟨c1,g1,rfl⟩
    ·exact⟨c2,g2,rfl⟩
    ·exact⟨c3,g3,rfl⟩
   exact⟨_,hτ,"'",_,rfl,rfl,YG (by show 1 + 1≤1000;decide),hR _ _ (YL.refl _) hp' ⟨_,rfl,YHe hc,YJE c⟩⟩
  intro ys H3 hy hP s3 p3 h3;obtain⟨sg,rfl,hsg⟩:=YAu hP;have sg3:sg.length=3:=by rw[YJL]at hy;exact hy
  have s13:=s2.trans s3;have h13:=s13 _ _ h1;have s03:=s1.trans s13;refine⟨_,rfl,a,ns,2,rfl,s03.seq hS,by decide,by decide,fun way wa wb=>?_⟩;obtain⟨hn',hhn,hn1,hn3⟩:∃n:Nat,1 + way % 3=(n:Int)∧1≤n∧n≤3:=⟨(1 + way % 3).toNat,by omega,by omega,by omega⟩;refine⟨_,rfl,_,rfl,_,_,rfl,rfl,(show(0:Int) < 3 by decide),_,_,rfl,rfl,_,rfl,ln,_,rfl,SqL.of h13,fun lh hlh=>?_⟩;have eh:X3 (nm.map V.str) none (some (1 + way % 3))=(nm.take hn').map V.str:=by rw[hhn,YH0 _ _ (by rw[YJL];omega),List.map_take]
  rw[eh];obtain⟨hs,ehs⟩:∃hs,nm.take hn'=hs:=⟨_,rfl⟩;have hsl:hs.length=hn':=by rw[←ehs,YKO];omega
  have hsn:∀z∈hs,z∈nm:=fun z hz=>by rw[←ehs]at hz;exact List.mem_of_mem_take hz
  rw[ehs];have s4:=YL.upd (o:=.lst (hs.map V.str)) hlh;have h4:upd H3 lh (.lst (hs.map V.str)) lh=some (.lst (hs.map V.str)):=YD;have p4:YS (upd H3 lh (.lst (hs.map V.str))):=p3.upd rfl;revert s4 h4 p4;generalize upd H3 lh (.lst (hs.map V.str))=H4;intro s4 h4 p4;have hS4:=(s03.trans s4).seq hS;have hln4:=s4 _ _ h13;have hls4:=s4 _ _ h3;refine⟨_,rfl,_,rfl,2,rfl,ls,_,rfl,SqL.of hls4,fun q1 hq1=>?_⟩;obtain⟨z1,ez1,hz1,lz1⟩:=YFm sg none (some 2);rw[ez1];have t1:=YL.upd (o:=.lst (z1.map V.str)) hq1;refine⟨lh,q1,_,_,rfl,rfl,t1 _ _ h4,YD,YG (by rw[YJL,YJL];omega),fun q2 hq2=>?_⟩;rw[←YJo];have t2:=t1.trans (YL.upd (o:=.lst ((hs ++ z1).map V.str)) hq2);refine⟨_,rfl,q2,lh,_,_,rfl,rfl,YD,t2 _ _ h4,YG (by simp only[YJL,YJd];omega),fun q3 hq3=>?_⟩;rw[←YJo];have t3:=t2.trans (YL.upd (o:=.lst ((hs ++ z1 ++ hs).map V.str)) hq3);refine⟨_,rfl,q3,ls,_,_,rfl,rfl,YD,t3 _ _ hls4,YG (by simp only[YJL,YJd];omega),fun q4 hq4=>?_⟩;rw[←YJo];have t4:=t3.trans (YL.upd (o:=.lst ((hs ++ z1 ++ hs ++ sg).map V.str)) hq4);have w4:∀{Hx:Hp},upd Hx q4 (.lst ((hs ++ z1 ++ hs ++ sg).map V.str)) q4=some (.lst ((hs ++ z1 ++ hs ++ sg).map V.str)):=YD;refine⟨_,rfl,3,rfl,ln,_,rfl,SqL.of (t4 _ _ hln4),fun q5 hq5=>?_⟩;obtain⟨z5,ez5,hz5,lz5⟩:=YFm nm (some 3) none;rw[ez5];have u5:=YL.upd (o:=.lst (z5.map V.str)) hq5;have t5:=t4.trans u5;refine⟨q4,q5,_,_,rfl,rfl,u5 _ _ w4,YD,YG (by simp only[YJL,YJd];omega),fun lm hlm=>?_⟩;rw[←YJo];obtain⟨menu,hmn⟩:∃M,hs ++ z1 ++ hs ++ sg ++ z5=M:=⟨_,rfl⟩;have hm0:∀p∈menu,Y7 p=true:=fun p hp=>by
   rw[←hmn]at hp;simp only[YJs]at hp;rcases hp with (((hp |hp) |hp) |hp) |hp
   ·exact YAe (nN p (hsn p hp))
   ·exact(hsg p (hz1 p hp)).1
   ·exact YAe (nN p (hsn p hp))
   ·exact(hsg p hp).1
   ·exact YAe (nN p (hz5 p hp))
  have hml:1≤menu.length∧menu.length≤100:=by
   rw[←hmn];simp only[YJd];omega
  rw[hmn];have s5:=t5.trans (YL.upd (o:=.lst (menu.map V.str)) hlm);have m5:∀{Hx:Hp},upd Hx lm (.lst (menu.map V.str)) lm=some (.lst (menu.map V.str)):=YD;obtain⟨H5,e5⟩:∃H5,upd (upd (upd (upd (upd (upd H4 q1 (.lst (z1.map V.str))) q2 (.lst ((hs ++ z1).map V.str))) q3 (.lst ((hs ++ z1 ++ hs).map V.str))) q4 (.lst ((hs ++ z1 ++ hs ++ sg).map V.str))) q5 (.lst (z5.map V.str))) lm (.lst (menu.map V.str))=H5:=⟨_,rfl⟩;have p5:YS H5:=by rw[←e5];exact(((((p4.upd rfl).upd rfl).upd rfl).upd rfl).upd rfl).upd rfl
  rw[e5]at s5;have hm5:H5 lm=some (.lst (menu.map V.str)):=by rw[←e5];exact m5
  rw[e5];have hS5:=s5.seq hS4;have hls5:=s5 _ _ hls4;have hlh5:=s5 _ _ h4;have s05:=(s03.trans s4).trans s5;clear t1 t2 t3 t4 u5 t5 m5 w4 e5 hlm hq5 hq4 hq3 hq2 hq1;refine⟨YJw _,fun l hl=>?_⟩;have sl:=YL.upd (o:=.lst []) hl;have okR:∀(h:Str) (ps:List Str) (wz:Int),h∈hs→ps.length≤3→(∀p∈ps,Y7 p=true)→0≤wz→wz≤10 ^ 60→R72 hs (h,ps,wz):=fun h ps wz hh hl hp w0 w1=>⟨YHf (r:=(h,ps,wz)) (nN _ (hsn _ hh)) (by show ps.length≤6;omega) hp w0 w1,hl,hh⟩
  have more:∀{g:ZF}{r:Y2},(∀r∈g,R72 hs r)→R72 hs r→∀r'∈g ++ [r],R72 hs r':=fun h1 h2 r' hr'=>by
   rcases YJs.mp hr' with h |h
   ·exact h1 r' h
   ·rw[YJW.mp h];exact h2
  refine⟨_,rfl,lh,_,rfl,.inl (SqL.of (sl _ _ hlh5)),(hs.length:Int),by rw[YJL],(in62 (by omega) (by omega)).1,(in62 (by omega) (by omega)).2,?_⟩;refine Y0 (lo:=0) (n:=((hs.length:Nat):Int).toNat) (fun i σ H6=>∃(g:ZF) (xs:List V) (v7 v8:Option V),σ=[some (.ref a),some (.ref ln),some (.ref ls),some (.int way),some (.ref lh),some (.ref lm),some (.ref l),v7,v8,none,none]∧H6 l=some (.lst xs)∧Yd (del H6 l) xs (g.map Zf)∧g.length=i∧(∀r∈g,R72 hs r)∧YL H5 H6∧YS H6)
   ⟨[],[],none,none,rfl,YD,.nil,rfl,(fun r hr=>nomatch hr),sl,p5.upd rfl⟩ ?_ ?_
  ·rintro i σ H6 hi ⟨g,xs,v7,v8,rfl,h6,hds,hgl,hgo,s6,p6⟩;have hxl:xs.length=i:=by rw[hds.len,YJL,hgl]
   have hih:i < hs.length:=by omega
   refine⟨_,rfl,_,rfl,_,_,rfl,rfl,a,ns,_,rfl,s6.seq hS5,by omega,by omega,fun v a1 b1=>?_⟩;have hy1:atI (hs.map V.str) (0 + (i:Int))=some (.str hs[i]):=by rw[YKP];exact Yy (by rw[YJQ,YJR hih];rfl)
   refine⟨_,rfl,.inl ⟨rfl,_,SqL.of h6⟩,_,rfl,_,rfl,lh,_,_,_,rfl,rfl,SqL.of (s6 _ _ hlh5),hy1,?_⟩;refine⟨_,rfl,_,rfl,_,ls,sg,2,rfl,s6 _ _ hls5,by omega,by omega,by decide,by decide,p6,fun t ps H7 hps hpm s7 p7 ht0 ht=>?_⟩;refine⟨_,rfl,_,rfl,_,_,rfl,rfl,a,ns,_,rfl,(s6.trans s7).seq hS5,by omega,fun v2=>⟨_,rfl,fun wz w0 w1=>⟨YG (by show 3≤1000;decide),fun tt htt=>?_⟩⟩⟩;obtain⟨hl8,Ha,eHa,ha,hdsa,sa,pa⟩:=YFn h6 hds s6 hl s7 p7 (hs[i],ps,wz) (fun z=>by rw[z,h6]at ht0;cases ht0) ht htt;refine⟨l,xs,_,rfl,rfl,hl8,YJY (show xs.length < 1000 by omega) (YG (YJP _)),?_⟩;dsimp only at eHa;rw[eHa];exact⟨g ++ [(hs[i],ps,wz)],xs ++ [.ref tt],_,_,rfl,ha,hdsa,by rw[YJd,hgl];rfl,more hgo (okR _ _ _ (YLF hih) (by omega) (fun p hp=>(hsg p (hpm p hp)).1) w0 w1),sa,pa⟩
  ·rintro σ H6 ⟨g,xs,v7,v8,rfl,h6,hds,hgl,hgo,s6,p6⟩;have hgl:g.length=hs.length:=by omega
   obtain⟨N,hN,N0,N1⟩:∃N:Int,1 + way / 3 % 3=N∧0≤N∧N≤3:=⟨_,rfl,by omega,by omega⟩;refine⟨_,rfl,_,_,rfl,rfl,⟨by decide,by decide⟩,_,_,rfl,rfl,(show(0:Int) < 3 by decide),_,_,rfl,rfl,N,by rw[←hN],(in62 (by omega) (by omega)).1,(in62 (by omega) (by omega)).2,?_⟩;refine Y0 (lo:=0) (n:=N.toNat) (fun i σ H7=>∃(g':ZF) (xs':List V) (v7 v8 v9 v10:Option V),σ=[some (.ref a),some (.ref ln),some (.ref ls),some (.int way),some (.ref lh),some (.ref lm),some (.ref l),v7,v8,v9,v10]∧H7 l=some (.lst xs')∧Yd (del H7 l) xs' (g'.map Zf)∧g'.length=hs.length + i∧(∀r∈g',R72 hs r)∧YL H5 H7∧YS H7)
    ⟨g,xs,_,_,_,_,rfl,h6,hds,hgl,hgo,s6,p6⟩ ?_ ?_
   ·rintro i σ H7 hi ⟨g',xs',v7,v8,v9,v10,rfl,h7,hds',hgl',hgo',s7,p7⟩;have hxl:xs'.length=hs.length + i:=by rw[hds'.len,YJL,hgl']
    refine⟨_,rfl,_,rfl,_,_,rfl,rfl,a,ns,_,rfl,s7.seq hS5,by omega,by omega,fun v a1 b1=>?_⟩;obtain⟨y,hy1,hm1⟩:=Zz (xs:=hs.map V.str) (i:=v % 3 % ((hs.map V.str).length:Nat)) (YJ7 _ (by rw[YJL];omega)) (YJ9 _ (by rw[YJL];omega));obtain⟨hd,hhd,rfl⟩:=YJh.mp hm1;have sqh7:SqL K H7 lh (hs.map V.str):=SqL.of (s7 _ _ hlh5);refine⟨_,rfl,_,rfl,_,_,rfl,rfl,(show(0:Int) < 3 by decide),_,rfl,lh,_,rfl,.inl sqh7,_,_,rfl,rfl,(by rw[YJL];show(0:Int) < _;omega),lh,_,_,_,rfl,rfl,sqh7,hy1,?_⟩;refine⟨_,rfl,_,_,rfl,rfl,⟨by decide,by decide⟩,_,rfl,v / 3,lm,menu,3,rfl,s7 _ _ hm5,hml.1,hml.2,by decide,by decide,p7,fun t ps H8 hps hpm s8 p8 ht0 ht=>?_⟩
    with_reducible refine YEP (fun σ' H'=>∃(ps':List Str) (t':Addr),σ'=[some (.ref a),some (.ref ln),some (.ref ls),some (.int way),some (.ref lh),some (.ref lm),some (.ref l),some (.int (0 + (i:Int))),some (.int v),some (.str hd),some (.ref t')]∧t'≠l∧H' t'=some (.tup (ps'.map V.str))∧ps'.length≤3∧(∀p∈ps',Y7 p=true)∧YL H7 H'∧YS H') ?_ fun restK=>?_
    ·rintro σ' H' ⟨ps',t',rfl,nt,ht',hl',hp',s',p'⟩
     with_reducible refine seq_rS (fun σ'' H''=>∃(hd':Str) (ps'':List Str) (t'':Addr),σ''=[some (.ref a),some (.ref ln),some (.ref ls),some (.int way),some (.ref lh),some (.ref lm),some (.ref l),some (.int (0 + (i:Int))),some (.int v),some (.str hd'),some (.ref t'')]∧hd'∈hs∧t''≠l∧H'' t''=some (.tup (ps''.map V.str))∧ps''.length≤3∧(∀p∈ps'',Y7 p=true)∧YL H7 H''∧YS H'') ?_ fun restK2=>?_
     ·rintro σ'' H'' ⟨hd',ps'',t'',rfl,hh',nt',ht2,hl2,hp2,s2',p2'⟩;refine⟨_,rfl,.inl ⟨rfl,_,SqL.of (s2' _ _ h7)⟩,_,rfl,_,rfl,_,rfl,_,rfl,_,_,rfl,rfl,a,ns,_,rfl,(s7.trans s2').seq hS5,by omega,fun v2=>⟨_,rfl,fun wz w0 w1=>⟨YG (by show 3≤1000;decide),fun tt htt=>?_⟩⟩⟩;obtain⟨hl8,Ha,eHa,ha,hdsa,sa,pa⟩:=YFn h7 hds' s7 hl s2' p2' (hd',ps'',wz) nt' ht2 htt;refine⟨l,xs',_,rfl,rfl,hl8,YJY (show xs'.length < 1000 by omega) (YG (YJP _)),?_⟩;dsimp only at eHa;rw[eHa];exact⟨g' ++ [(hd',ps'',wz)],xs' ++ [.ref tt],_,_,_,_,rfl,ha,hdsa,by rw[YJd,hgl'];rfl,more hgo' (okR _ _ _ hh' hl2 hp2 w0 w1),sa,pa⟩
     ·refine⟨_,rfl,_,_,rfl,rfl,⟨by decide,by decide⟩,_,_,rfl,rfl,(show(0:Int) < 4 by decide),rfl,_,rfl,?_⟩;refine Jx (fun hb=>?_) fun hb=>?_
      ·obtain⟨x2,hx2,hm2⟩:=Zz (xs:=xs') (i:=v / 160000 % (xs'.length:Nat)) (YJ7 _ (by omega)) (YJ9 _ (by omega));obtain⟨k2,hk2⟩:=YKH hm2;obtain⟨ρ,t2,p2',er,rfl,ht2,hpp2⟩:=Xo hds' hk2;have ht2:=s' _ _ (Zy _ _ _ _ ht2);have np2:p2'≠l:=fun z=>by rw[z,YCJ]at hpp2;cases hpp2
       have hpp2:=s' _ _ (Zy _ _ _ _ hpp2);have hR:=hgo' ρ (YJS er);have sx':SqL K H' l xs':=SqL.of (s' _ _ h7);refine⟨_,rfl,_,rfl,_,_,rfl,rfl,⟨by decide,by decide⟩,_,rfl,l,_,rfl,.inl sx',_,_,rfl,rfl,(show(0:Int) < _ by omega),l,_,_,_,rfl,rfl,sx',hx2,t2,_,0,_,rfl,rfl,SqT.of ht2,rfl,?_⟩;refine⟨_,rfl,_,rfl,_,_,rfl,rfl,⟨by decide,by decide⟩,_,rfl,l,_,rfl,.inl sx',_,_,rfl,rfl,(show(0:Int) < _ by omega),l,_,_,_,rfl,rfl,sx',hx2,t2,_,1,_,rfl,rfl,SqT.of ht2,rfl,?_⟩;exact restK2 _ _ ⟨ρ.1,ρ.2.1,p2',rfl,hR.2.2,np2,hpp2,hR.2.1,(YHz hR.1),s',p'⟩
      ·exact restK2 _ _ ⟨hd,ps',t',rfl,hhd,nt,ht',hl',hp',s',p'⟩
    ·refine⟨_,rfl,_,_,rfl,rfl,⟨by decide,by decide⟩,_,_,rfl,rfl,(show(0:Int) < 4 by decide),rfl,_,rfl,?_⟩;refine Jx (fun hb=>?_) fun hb=>?_
     ·obtain⟨x2,hx2,hm2⟩:=Zz (xs:=hs.map V.str) (i:=v / 160000 % ((hs.map V.str).length:Nat)) (YJ7 _ (by rw[YJL];omega)) (YJ9 _ (by rw[YJL];omega));obtain⟨h2',hh2',rfl⟩:=YJh.mp hm2;have sqh8:SqL K H8 lh (hs.map V.str):=SqL.of (s8 _ _ (s7 _ _ hlh5));refine⟨_,rfl,_,rfl,_,_,rfl,rfl,⟨by decide,by decide⟩,_,rfl,lh,_,rfl,.inl sqh8,_,_,rfl,rfl,(by rw[YJL];show(0:Int) < _;omega),lh,_,_,_,rfl,rfl,sqh8,hx2,YG (by show 1≤1000;decide),fun tt htt=>?_⟩;exact restK _ _ ⟨[h2'],tt,rfl,(fun z=>by rw[z,s8 _ _ h7]at htt;cases htt),YD,(by show 1≤3;decide),(fun p hp=>by rw[YJW.mp hp];exact YAe (nN _ (hsn _ hh2'))),s8.trans (YL.upd htt),p8.upd rfl⟩
     ·exact restK _ _ ⟨ps,t,rfl,(fun z=>by rw[z,h7]at ht0;cases ht0),ht,(by omega),(fun p hp=>hm0 p (hpm p hp)),s8,p8⟩
   ·rintro σ H7 ⟨g0,xs0,v7,v8,v9,v10,rfl,h70,hds0,hgl0,hgo0,s70,p70⟩;have hl0:H l=none:=by
     cases e:H l with
     |none=>rfl
     |some o=>rw[s05 _ _ e]at hl;cases hl
    refine⟨_,rfl,_,_,rfl,rfl,⟨by decide,by decide⟩,_,_,rfl,rfl,(show(0:Int) < 2 by decide),rfl,_,rfl,?_⟩;refine Jx (fun hb=>?_) fun hb=>?_
    ·refine⟨_,rfl,.inl ⟨rfl,_,SqL.of h70⟩,l,xs0,rfl,rfl,h70,?_⟩;refine⟨_,rfl,q l xs0.reverse g0.reverse hs _ (by rw[YKg];omega) (by rw[YKg];omega) (by omega) (fun r hr=>hgo0 r (List.mem_reverse.mp hr)) ((s05.trans s70).put hl0) (p70.upd rfl) hl0 YD ?_⟩;rw[Xk,List.map_reverse];exact YDr hds0
    ·exact⟨_,rfl,q l xs0 g0 hs _ (by omega) (by omega) (by omega) hgo0 (s05.trans s70) p70 hl0 h70 hds0⟩
end
theorem XC:(["_law_k","_law_script"]:List Str).Nodup:=by decide +kernel
inductive YCj (K:W.Frag) (vs:List V) (H:Hp) (Q:VK):Prop where
 |mk (a:Addr) (ns:List Int) (h0_:vs=[.ref a]) (h1_:SqL K H a (ns.map V.int)) (h2_:YS H) (h3_:∀(t:Addr) (x y z:Int) (H':Hp),(0≤x∧x≤10 ^ 60)→(0≤y∧y≤10 ^ 60)→(0≤z∧z≤10 ^ 60)→YL H H'→YS H'→H' t=some (.tup [.int x,.int y,.int z])→Q (.ref t) H'):YCj K vs H Q
def YDs (K:W.Frag):Sp:=fun vs H Q E_=>YCj K vs H Q
inductive YFo (vs:List V) (H:Hp) (Q:VK):Prop where
 |mk (i:Int) (h0_:vs=[.int i]) (h1_:Q (.bl true) H):YFo vs H Q
def YHF:Sp:=fun vs H Q E_=>YFo vs H Q
inductive YDt (K:W.Frag) (vs:List V) (H:Hp) (Q:VK):Prop where
 |mk (a:Addr) (ns:List Int) (h0_:vs=[.ref a]) (h1_:SqL K H a (ns.map V.int)) (h2_:ns.length≤63) (h3_:YS H) (h4_:∀(z:Str) (H':Hp),Xn z=true→z.length≤4→YL H H'→YS H'→Q (.str z) H'):YDt K vs H Q
def YFp (K:W.Frag):Sp:=fun vs H Q E_=>YDt K vs H Q
inductive YDu (vs:List V) (H:Hp) (Q:VK):Prop where
 |mk (t:Addr) (x y:Int) (h0_:vs=[.ref t]) (h1_:H t=some (.tup [.int x,.int y])) (h2_:0≤x) (h3_:0≤y) (h4_:Q (.bl true) H):YDu vs H Q
def YFq:Sp:=fun vs H Q E_=>YDu vs H Q
section
variable {P:Program}{w:World}{K:W.Frag}{mg:Str→Option Value}{base:Heap}{C:Adr}
theorem YC4:YV ["_law_script"] ["_law_script"] (YJ Js):=⟨rfl,rfl,rfl,by decide +kernel,rfl,by decide +kernel,by decide +kernel⟩
theorem YC5 {f:Addr}{fd:FuncData} (F:Fun K "_law_costs" "_law_costs" Js f fd) (T:Txt K mg C) (U__law_worth:ZO P w K mg CX0 1 "_law_worth" ["_law_cell"] (YCi)) (U__law_cell_at:ZO P w K mg CX0 1 "_law_cell_at" ["_law_script","_law_k"] (YEE K)):Yr P w K mg base CX0 2 f fd ["_law_script"] (YDs K):=by
 obtain⟨f__law_worth,fd__law_worth,G__law_worth,m__law_worth,k__law_worth,b__law_worth⟩:=U__law_worth.ok;obtain⟨f__law_cell_at,fd__law_cell_at,G__law_cell_at,m__law_cell_at,k__law_cell_at,b__law_cell_at⟩:=U__law_cell_at.ok;refine F.ok YC4 (fun vs H Q E h=>?_) (fun cdv A outer s H vs Q E hr h=>?_)
 ·cases h;subst_vars;rfl
 ·obtain⟨a,ns,rfl,hS,hp,q⟩:=h;refine⟨_,(YF (YX (Jt (YAE K rfl) (by rfl) T.z_tuple YKJ (YA (Z0 (N:=["_law_k","_law_script"]) (ρ:=[none,some 0]) rfl (Yh.closes ["_law_script"] (YJ Js).names rfl rfl rfl rfl (by decide +kernel) (by decide +kernel) (fun x h=>Jv h) (by decide +kernel) rfl (by decide +kernel)) (JA K rfl (Z8 (YA YC (YA YC (YA YC YB))))) (fun _ _ _ _ _=>(YN (i:=0) XC rfl (Or.inl rfl) (.inr rfl))) (fun _ _ _ _ _=>Zj) (fun _ _ _ _ _=>(YU (G__law_worth base) (hr.mono (by decide)) (by rfl) m__law_worth k__law_worth b__law_worth .nil Yf (YA (YU (G__law_cell_at base) (hr.mono (by decide)) (by rfl) m__law_cell_at k__law_cell_at b__law_cell_at .nil Yf (YA (pv 1) (YA (pv 0) YB))) YB)))) YB)))),?_⟩;refine⟨YG (by show 3≤1000;decide),fun l0 hl0=>?_⟩;have s1:=YL.upd (o:=.lst [.int 0,.int 1,.int 9]) hl0;have p1:YS (upd H l0 (.lst [.int 0,.int 1,.int 9])):=hp.upd rfl;have h1:upd H l0 (.lst [.int 0,.int 1,.int 9]) l0=some (.lst [.int 0,.int 1,.int 9]):=YD;revert s1 p1 h1;generalize upd H l0 (.lst [.int 0,.int 1,.int 9])=H1;intro s1 p1 h1;refine⟨l0,rfl,⟨_,SqL.of h1⟩,fun l hl=>?_⟩;refine ZX (n:=3) 0 (fun k y _=>∃z:Int,y=.int z∧(0≤z∧z≤10 ^ 60)) (YAq (SqL.of (K:=K) h1)) (fun _ _ _ _ _ h=>h) p1 hl (show 0 < 2 by decide) (YG (by decide)) (fun τ'=>τ'[1]?=some (some (.ref a))) rfl (fun τ' v h=>by rw[List.getElem?_set_ne (by decide)];exact h) ?_ ?_
  ·intro τ' k y H' R hτ1 hτ hit hk hs hp' hlne hR;obtain⟨c,c0,rfl⟩:∃c:Int,0≤c∧y=.int c:=by
    have hm:=YJS hit;simp only[YJg,YJ8,or_false]at hm;rcases hm with rfl |rfl |rfl
    ·exact⟨0,by decide,rfl⟩
    ·exact⟨1,by decide,rfl⟩
    ·exact⟨9,by decide,rfl⟩
   exact⟨_,hτ1,_,hτ,a,ns,c,rfl,(s1.trans hs).seq hS,c0,fun v=>⟨v,rfl,fun z z0 z1=>hR _ _ (YL.refl _) hp' ⟨z,rfl,z0,z1⟩⟩⟩
  ·intro ys H2 hy hP s2 p2 h2;obtain⟨x,y,z,rfl⟩:∃x y z,ys=[x,y,z]:=by
    match ys,hy with
    |[x,y,z],_=>exact⟨x,y,z,rfl⟩
   obtain⟨x,rfl,hx⟩:=hP 0 x rfl;obtain⟨y,rfl,hy'⟩:=hP 1 y rfl;obtain⟨z,rfl,hz⟩:=hP 2 z rfl;refine⟨l,_,rfl,.inl ⟨SqL.of h2,fun t ht=>?_⟩⟩;exact q t x y z _ hx hy' hz ((s1.trans s2).trans (YL.upd ht)) (p2.upd rfl) YD
theorem YC6:YV ["_law_found"] ["_law_found"] (YJ Xx):=⟨rfl,rfl,rfl,by decide +kernel,rfl,by decide +kernel,by decide +kernel⟩
theorem YC7 {f:Addr}{fd:FuncData} (F:Fun K "_law_whole" "_law_whole" Xx f fd) (T:Txt K mg C):Yr P w K mg base CX0 1 f fd ["_law_found"] (YHF):=by
 refine F.ok YC6 (fun vs H Q E h=>?_) (fun cdv A outer s H vs Q E hr h=>?_)
 ·cases h;subst_vars;rfl
 ·obtain⟨i,rfl,q⟩:=h;refine⟨_,(YF (YX (Zv (YK (ZJ K rfl) (by rfl) T.z_isinstance YJl (YA (pv 0) (YA (Zr (v:=.ty "int") (by rfl) T.z_int YKn rfl) YB))) (JM (YH2 (YK (ZJ K rfl) (by rfl) T.z_isinstance YJl (YA (pv 0) (YA (Zr (v:=.ty "bool") (by rfl) T.z_bool PyProof.Rows.Boot.«bool» rfl) YB)))))))),?_⟩;exact⟨_,rfl,_,_,_,_,_,rfl,.int _,rfl,YGq (.int i),_,rfl,Zo ⟨_,rfl,_,_,_,_,_,rfl,.int _,rfl,YEu (.int i),_,rfl,q⟩⟩
theorem Y9:YV ["_law_script","_law_signs_here","_law_made","_law_folded","_law_cell","_law_k"] ["_law_script"] (YJ YAS):=⟨rfl,rfl,rfl,by decide +kernel,rfl,by decide +kernel,by decide +kernel⟩
theorem YET {f:Addr}{fd:FuncData} (F:Fun K "_law_text" "_law_text" YAS f fd) (T:Txt K mg C) (U__law_signs:ZO P w K mg CX0 1 "_law_signs" ["_law_cell"] (YES)) (U__law_mixed:ZO P w K mg CX0 2 "_law_mixed" ["_law_script","_law_k"] (YB5 K)):Yr P w K mg base CX0 3 f fd ["_law_script"] (YFp K):=by
 obtain⟨f__law_signs,fd__law_signs,G__law_signs,m__law_signs,k__law_signs,b__law_signs⟩:=U__law_signs.ok;obtain⟨f__law_mixed,fd__law_mixed,G__law_mixed,m__law_mixed,k__law_mixed,b__law_mixed⟩:=U__law_mixed.ok;refine F.ok Y9 (fun vs H Q E h=>?_) (fun cdv A outer s H vs Q E hr h=>?_)
 ·cases h;subst_vars;rfl
 ·obtain⟨a,ns,rfl,hS,hn,hp,q⟩:=h;refine⟨_,(YE (YM (i:=1) Y9.nd rfl (Or.inl rfl) (YU (G__law_signs base) (hr.mono (by decide)) (by rfl) m__law_signs k__law_signs b__law_signs .nil Yf (YA (YU (G__law_mixed base) (hr.mono (by decide)) (by rfl) m__law_mixed k__law_mixed b__law_mixed .nil Yf (YA (pv 0) (YA YC YB))) YB)))
   (YE (YM (i:=2) Y9.nd rfl (Or.inl rfl) Zk)
   (YE (YM (i:=3) Y9.nd rfl (Or.inl rfl) YC)
   (YE (Yi PassesOwn.never rfl (JA K rfl (Zd (Je K rfl) (pv 0) (ZP YC) XG)) (YN (i:=4) Y9.nd rfl (Or.inl rfl)) (YF (YM (i:=3) Y9.nd rfl (Or.inl rfl) (YI Ym (YI Yb (YI Yb (YI Ji (pv 3) YC) (pv 4)) YC) YC))))
   (YE (Yi PassesOwn.never rfl (Yt rfl T.z_range (YA (YI Ym (pv 3) YC) YB)) (YN (i:=5) Y9.nd rfl (Or.inl rfl)) (YE (YM (i:=2) Y9.nd rfl (Or.inl rfl) (YI JN (pv 2) (YQ (YY K rfl) (pv 1) (YI Ym (YI Y6 (pv 3) YC) YC) (fun _ _=>rfl))))
   (YF (YM (i:=3) Y9.nd rfl (Or.inl rfl) (YI Ym (YI Yb (YI Ji (pv 3) YC) YC) YC)))))
   (YF (YX (pv 2)))))))),?_⟩
  refine⟨_,rfl,a,ns,1,rfl,hS,by decide,by decide,fun v1 _ _=>⟨_,rfl,hp,fun lg c1 c2 c3 c4 H2 g1 g2 g3 g4 s2 p2 hlg h2=>?_⟩⟩;refine⟨_,rfl,12,rfl,a,_,rfl,s2.seq hS,fun lc hlc=>?_⟩;obtain⟨cs,hcs,lcs⟩:∃cs:List Int,X3 (ns.map V.int) (some 12) none=cs.map V.int∧cs.length≤63:=by
   unfold X3;refine⟨_,by rw[←List.map_drop,←List.map_take],?_⟩;rw[YKO,YKT];omega
  rw[hcs];have s3:=YL.upd (o:=.lst (cs.map V.int)) hlc;have h3:upd H2 lc (.lst (cs.map V.int)) lc=some (.lst (cs.map V.int)):=YD;have p3:YS (upd H2 lc (.lst (cs.map V.int))):=p2.upd rfl;have h23:=s3 _ _ h2;revert s3 h3 p3 h23;generalize upd H2 lc (.lst (cs.map V.int))=H3;intro s3 h3 p3 h23;refine⟨lc,rfl,⟨_,SqL.of h3⟩,?_⟩;refine XT (xs:=cs.map V.int) (fun i σ H'=>H'=H3∧∃(f:Int) (v4:Option V),0≤f∧f < 2147483629∧σ=[some (.ref a),some (.ref lg),some (.str ""),some (.int f),v4,none]) ⟨rfl,0,none,by decide,by decide,rfl⟩ (fun i σ H' _ z=>by rw[z.1];exact SqL.of h3) ?_ ?_
  ·rintro i x σ H' hx ⟨rfl,f,v4,f0,f1,rfl⟩;obtain⟨c,_,rfl⟩:=YJh.mp (YJS hx);exact⟨_,rfl,_,_,rfl,rfl,.inr ⟨by decide,by decide⟩,_,rfl,_,_,rfl,rfl,_,_,rfl,rfl,_,_,rfl,rfl,(show(0:Int) < 2147483629 by decide),rfl,_,_,YJ7 _ (by decide),YJ9 _ (by decide),rfl⟩
  ·rintro σ H' ⟨rfl,f,v4,f0,f1,rfl⟩;obtain⟨N,hN,N0,N1⟩:∃N:Int,f % 5=N∧0≤N∧N≤4:=⟨_,rfl,by omega,by omega⟩;refine⟨_,rfl,_,_,rfl,rfl,(show(0:Int) < 5 by decide),N,by rw[←hN],(in62 (by omega) (by omega)).1,(in62 (by omega) (by omega)).2,?_⟩;refine Y0 (lo:=0) (n:=N.toNat) (fun i σ H2'=>H2'=H'∧∃(f:Int) (z:Str) (v4 v5:Option V),0≤f∧f < 2147483629∧σ=[some (.ref a),some (.ref lg),some (.str z),some (.int f),v4,v5]∧z.length=i∧z.cps.toList.all Z3=true) ⟨rfl,f,_,v4,none,f0,f1,rfl,(by decide +kernel),(by decide +kernel)⟩ ?_ ?_
   ·rintro i σ H2' hi ⟨rfl,f,z,v4,v5,f0,f1,rfl,hz,hg⟩;obtain⟨y,hy,hm⟩:=Zz (xs:=[V.str ⟨#[c1]⟩,.str ⟨#[c2]⟩,.str ⟨#[c3]⟩,.str ⟨#[c4]⟩]) (i:=f / 5 % 4) (by omega) (by show _ < (4:Int);omega);obtain⟨c,hc,rfl⟩:∃c:Nat,Z3 c=true∧y=.str ⟨#[c]⟩:=by
     simp only[YJg,YJ8,or_false]at hm;rcases hm with rfl |rfl |rfl |rfl
     ·exact⟨c1,g1,rfl⟩
     ·exact⟨c2,g2,rfl⟩
     ·exact⟨c3,g3,rfl⟩
     ·exact⟨c4,g4,rfl⟩
    refine⟨_,rfl,_,rfl,_,rfl,_,_,rfl,rfl,⟨by decide,by decide⟩,_,_,rfl,rfl,(show(0:Int) < 4 by decide),lg,_,_,_,rfl,rfl,SqL.of h23,hy,z,_,rfl,rfl,YG (by show z.length + 1≤1000;omega),?_⟩;refine⟨_,rfl,_,_,rfl,rfl,.inr ⟨by decide,by decide⟩,_,_,rfl,rfl,_,_,rfl,rfl,(show(0:Int) < 2147483629 by decide),rfl,_,z ++ ⟨#[c]⟩,_,_,YJ7 _ (by decide),YJ9 _ (by decide),rfl,by rw[slen,hz];rfl,?_⟩;rw[YAI,List.all_append,hg];show(true && [c].all Z3)=true;rw[YKl,hc];rfl
   ·rintro σ H2' ⟨rfl,f,z,v4,v5,f0,f1,rfl,hz,hg⟩;have hz4:z.length≤4:=by omega
    refine⟨_,rfl,q z _ ?_ hz4 (s2.trans s3) p3⟩;unfold Xn;rw[hg,Bool.and_true];exact YJU (show z.length≤60 by omega)
theorem YEU:YV ["_law_found"] ["_law_found"] (YJ YAT):=⟨rfl,rfl,rfl,by decide +kernel,rfl,by decide +kernel,by decide +kernel⟩
theorem YEV {f:Addr}{fd:FuncData} (F:Fun K "_law_pair" "_law_pair" YAT f fd) (T:Txt K mg C) (U__law_whole:ZO P w K mg CX0 1 "_law_whole" ["_law_found"] (YHF)):Yr P w K mg base CX0 2 f fd ["_law_found"] (YFq):=by
 obtain⟨f__law_whole,fd__law_whole,G__law_whole,m__law_whole,k__law_whole,b__law_whole⟩:=U__law_whole.ok;refine F.ok YEU (fun vs H Q E h=>?_) (fun cdv A outer s H vs Q E hr h=>?_)
 ·cases h;subst_vars;rfl
 ·obtain⟨t,x,y,rfl,ht,hx,hy,q⟩:=h;refine⟨_,(YE (ZB (PW.pt (YC9 (JL (Zi (YK (ZJ K rfl) (by rfl) T.z_isinstance YJl (YA (pv 0) (YA (Zr (v:=.ty "tuple") (by rfl) T.z_tuple YKJ rfl) YB))))) (YB7 (Y1 YEe (YK (YT K rfl) (by rfl) T.z_len YJT (YA (pv 0) YB)) YC (Yv _))))) (YF (YX Ja)) Yg)
   (YF (YX (Zv (YU (G__law_whole base) (hr.mono (by decide)) (by rfl) m__law_whole k__law_whole b__law_whole .nil Yf (YA (YQ (Ya K rfl) (pv 0) YC (fun _ _=>rfl)) YB)) (Zv (YU (G__law_whole base) (hr.mono (by decide)) (by rfl) m__law_whole k__law_whole b__law_whole .nil Yf (YA (YQ (Ya K rfl) (pv 0) YC (fun _ _=>rfl)) YB)) (JM (JW op_ge (YK (YGL K rfl rfl) (by rfl) T.z_min YKC (YA (pv 0) YB)) YC (Yv _)))))))),?_⟩
  have sq:SqT K H t [.int x,.int y]:=SqT.of ht;refine⟨_,rfl,_,_,_,_,_,rfl,.tup ht,rfl,YAX (.tup []),_,rfl,?_⟩;refine ZU ⟨_,rfl,t,_,rfl,.inr sq,rfl,_,rfl,ZU ?_⟩;refine⟨_,rfl,t,_,0,_,rfl,rfl,sq,rfl,x,rfl,_,rfl,Zo ?_⟩;refine⟨_,rfl,t,_,1,_,rfl,rfl,sq,rfl,y,rfl,_,rfl,Zo ?_⟩;refine⟨_,rfl,t,[x,y],rfl,sq,nofun,fun m hm hb=>⟨_,_,rfl,rfl,?_⟩⟩;have:0≤m:=by
   simp only[YJg,YJ8,or_false]at hm;rcases hm with rfl |rfl <;> assumption
  rw[YJU this];exact q
end
inductive YCk (vs:List V) (H:Hp) (Q:VK):Prop where
 |mk (p t:Str) (i j:Nat) (ct:Addr) (a b c:Int) (h0_:vs=[.str (Xr p),.str (Txt.slice t (some (i:Int)) (some (j:Int))),.ref ct]) (h1_:i≤j) (h2_:j≤t.length) (h3_:t.length≤4) (h4_:p.length=2) (h5_:H ct=some (.tup [.int a,.int b,.int c])) (h6_:∀u,H u=none→Q (.ref u) (upd H u (.tup [.int (sgT t a b c p i j),.int 0]))):YCk vs H Q
def YDv:Sp:=fun vs H Q E_=>YCk vs H Q
inductive YBn (vs:List V) (H:Hp) (Q:VK):Prop where
 |mk (d sp:Addr) (o:Obj) (kvs:List (List Key×V)) (g:ZF) (t:Str) (a b c:Int) (T:Tol) (ps:List Str) (O:OvF) (F:FiF) (fs:List (Nd×Int)) (r D i m:Nat) (ρ:Y2) (p:Str) (h0_:vs=[.ref d,.int (r:Int),.int ((D:Int) + 1),.str p,.ref sp]) (h1_:H d=some (.frz o (.dT kvs))) (h2_:FdT H kvs fs) (h3_:J9 g t a b c T ps O F fs) (h4_:0≤b) (h5_:(∀ρ∈g,ρ.2.1.length≤6)) (h6_:t.length≤4) (h7_:T.s.length≤3) (h8_:H sp=some (.tup [.int (i:Int),.int ((i + m:Nat):Int)])) (h9_:i + m≤t.length) (h10_:g[r]?=some ρ) (h11_:r < 60) (h12_:ρ.2.1[D]?=some p) (h13_:∀v H',YL H H'→YCh T ps O F H' (.beg r (D + 1) i (i + m)) v→Q v H'):YBn vs H Q
def YCl:Sp:=fun vs H Q E_=>YBn vs H Q
theorem YDw {t:Str}{i j:Nat} (h:i≤j) (hj:j≤t.length):(Txt.slice t (some (i:Int)) (some (j:Int))).length=j - i:=by
 have hl:t.cps.toList.length=t.length:=YJ4;have e:=eq_of_beq (PyProof.Rows.slice_closes (x:=t) (i:=i) (j:=j) ⟨by omega,by omega,by omega⟩);rw[e];show((t.cps.toList.drop (i:Int).toNat).take ((j:Int) - i).toNat).toArray.size=_;rw[YJa,YKO,YKT];omega
theorem len0 {t:Str} (h:t.length=0):t="":=by
 obtain⟨c⟩:=t;have h:c.size=0:=h;have:c=#[]:=Array.eq_empty_of_size_eq_zero h;rw[this];decide +kernel
theorem J9.dget {g:ZF}{t:Str}{a b c:Int}{T:Tol}{ps:List Str}{O:OvF}{F:FiF}{fs:List (Nd×Int)} (W:J9 g t a b c T ps O F fs) {H:Hp}{d tk:Addr}{o:Obj}{kvs:List (List Key×V)} (hd:H d=some (.frz o (.dT kvs))) (fd:FdT H kvs fs) (n:Nd) (htk:H tk=some (.tup ((ZE n).map kV))):
  ∃x,Jw H d (.ref tk) x∧((x=none∧¬X5 T ps n)∨∃u,x=some (.ref u)∧X5 T ps n∧H u=some (.tup [.int (pr (XR O F n)).1,.int (pr (XR O F n)).2])):=
 ⟨_,.inr ⟨kvs,ZE n,tk,.inr ⟨o,hd⟩,rfl,htk,rfl⟩,W.get fd n⟩
section
variable {P:Program}{w:World}{K:W.Frag}{mg:Str→Option Value}{base:Heap}{C:Adr}
theorem JU:YV ["_law_sign","_law_there","_law_costs_here","_law_due"] ["_law_sign","_law_there","_law_costs_here"] (YJ Jn):=⟨rfl,rfl,rfl,by decide +kernel,rfl,by decide +kernel,by decide +kernel⟩
theorem YBh {f:Addr}{fd:FuncData} (F:Fun K "_law_sign_due" "_law_sign_due" Jn f fd) (T:Txt K mg C):Yr P w K mg base CX0 1 f fd ["_law_sign","_law_there","_law_costs_here"] (YDv):=by
 refine F.ok JU (fun vs H Q E h=>?_) (fun cdv A outer s H vs Q E hr h=>?_)
 ·cases h;subst_vars;rfl
 ·obtain⟨p,t,i,j,ct,a,b,c,rfl,hij,hj,ht,hp2,hct,q⟩:=h;refine⟨_,(YE (YM (i:=3) JU.nd rfl (Or.inl rfl) (YI Yb (YI Ji (YK Yq (by rfl) T.z_len YJT (YA (pv 1) YB)) (YQ (Ya K rfl) (pv 2) YC (fun _ _=>rfl))) (YQ (Ya K rfl) (pv 2) YC (fun _ _=>rfl))))
   (YE (ZB (Y1 YEe (pv 1) Zk (Yv _)) (YF (YM (i:=3) JU.nd rfl (Or.inl rfl) (YK (YAV rfl) (by rfl) T.z_min YKC (YA (pv 3) (YA (YI Yb (YI Ji (YI Z2 (YK Yq (by rfl) T.z_len YJT (YA (pv 1) YB)) YC) (YQ (Ya K rfl) (pv 2) YC (fun _ _=>rfl))) (YI Ji (YQ (Ya K rfl) (pv 2) YC (fun _ _=>rfl)) (Jt YDB (by rfl) T.z_int YKn (YA (JW YD2 (pv 0) (pv 1) (by with_unfolding_all rfl)) YB)))) YB))))) Yg)
   (YF (YX (ZW (YA (pv 3) (YA YC YB))))))),?_⟩
  have hc3:SqT K H ct [.int a,.int b,.int c]:=SqT.of hct;have hlen:=YDw hij hj;obtain⟨th,eth⟩:∃th,Txt.slice t (some (i:Int)) (some (j:Int))=th:=⟨_,rfl⟩;have hin:YFS (Xr p) t i j=!(Builtin.Str.occurrences th (Xr p) 0 th.length 1).isEmpty:=by rw[←eth];rfl
  rw[eth]at hlen ⊢;have hl4:th.length≤sizeLine:=YG (by omega);have i64:∀k:Int,-1≤k→k≤4→-(2 ^ 64) < k∧k < 2 ^ 64:=fun k h1 h2=>⟨by omega,by omega⟩
  refine⟨_,rfl,th,rfl,hl4,_,rfl,ct,_,1,_,rfl,rfl,hc3,rfl,_,_,rfl,rfl,.inl (i64 _ (by omega) (by omega)),_,rfl,ct,_,0,_,rfl,rfl,hc3,rfl,_,_,rfl,rfl,?_⟩;refine⟨_,rfl,rfl,_,rfl,Jx (fun h1=>?_) fun h1=>?_⟩
  ·have hlt:i < j:=by
    rcases YJr i j with h |h
    ·exact h
    ·exfalso
     rw[len0 (show th.length=0 by omega)]at h1;revert h1;decide +kernel
   refine⟨_,rfl,_,rfl,th,rfl,hl4,_,_,rfl,rfl,_,rfl,ct,_,1,_,rfl,rfl,hc3,rfl,_,_,rfl,rfl,.inl (i64 _ (by omega) (by omega)),_,rfl,ct,_,2,_,rfl,rfl,hc3,rfl,_,rfl,_,rfl,_,_,rfl,rfl,.inr ⟨_,rfl,_,_,rfl,rfl,.inr (i64 _ (by split <;> decide) (by split <;> decide)),_,_,rfl,rfl,_,_,rfl,?_⟩⟩;refine⟨_,rfl,YG (by show 2≤1000;decide),fun u hu'=>?_⟩;have hq:=q u hu';have e:(if ((th.length:Int) - 1) * b + c * (if (!!(Builtin.Str.occurrences th (Xr p) 0 th.length 1).isEmpty)=true then 1 else 0) < (th.length:Int) * b + a then ((th.length:Int) - 1) * b + c * (if (!!(Builtin.Str.occurrences th (Xr p) 0 th.length 1).isEmpty)=true then 1 else 0) else (th.length:Int) * b + a)=sgT t a b c p i j:=by
    unfold sgT;rw[if_neg (show ¬j≤i by omega),hlen,hin];have e1:((j - i:Nat):Int)=(j:Int) - i:=by omega
    have e2:c * (if (!!(Builtin.Str.occurrences th (Xr p) 0 th.length 1).isEmpty)=true then 1 else 0)=(if (!(Builtin.Str.occurrences th (Xr p) 0 th.length 1).isEmpty)=true then 0 else c):=by
     cases (Builtin.Str.occurrences th (Xr p) 0 th.length 1).isEmpty
     ·show c * 0=0;rw[Int.mul_zero]
     ·show c * 1=c;rw[Int.mul_one]
    rw[←hlen,e2,hlen,e1]
   rw[←e]at hq;exact hq
  ·have hle:j≤i:=by
    rcases YJr i j with h |h
    ·exfalso
     refine h1 ?_;have:¬V.str th=V.str "":=fun z=>by
      have:=V.str.inj z;rw[this]at hlen;have e0:("":Str).length=0:=by decide +kernel
      omega
     rw[YJV this];rfl
    ·exact h
   refine⟨_,rfl,YG (by show 2≤1000;decide),fun u hu'=>?_⟩;have hq:=q u hu';unfold sgT at hq;rw[if_pos hle]at hq;have e:(th.length:Int) * b + a=a:=by rw[show(th.length:Int)=0 by omega,Int.zero_mul,YKP]
   show Q (.ref u) (upd H u (.tup [.int ((th.length:Int) * b + a),.int 0]));rw[e];exact hq
theorem ZL:YV ["_law_found","_law_at","_law_d","_law_part","_law_span","_law_sums","_law_k","_law_left","_law_right"] ["_law_found","_law_at","_law_d","_law_part","_law_span"] (YJ JT):=⟨rfl,rfl,rfl,by decide +kernel,rfl,by decide +kernel,by decide +kernel⟩
theorem YBK {f:Addr}{fd:FuncData} (F:Fun K "_law_split_due" "_law_split_due" JT f fd) (T:Txt K mg C):Yr P w K mg base CX0 1 f fd ["_law_found","_law_at","_law_d","_law_part","_law_span"] (YCl):=by
 refine F.ok ZL (fun vs H Q E h=>?_) (fun cdv A outer s H vs Q E hr h=>?_)
 ·cases h;subst_vars;rfl
 ·obtain⟨d,sp,o,kvs,g,t,a,b,c,S,ps,O,FF,fs,r,D,i,m,ρ,p,rfl,hd,fdT,W,hb,h6,ht,hs,hsp,hm,hgr,hr60,hpp,q⟩:=h;have hu:=Jd hr;refine⟨_,(YE (YM (i:=5) ZL.nd rfl (Or.inl rfl) (Z8 YB))
   (YE (Yi PassesOwn.never rfl (XS rfl T.z_range (YA (YQ (Ya K rfl) (pv 4) YC (fun _ _=>rfl)) (YA (YI Yb (YQ (Ya K rfl) (pv 4) YC (fun _ _=>rfl)) YC) YB))) (YN (i:=6) ZL.nd rfl (Or.inl rfl)) (YF (ZB (PW.pt (YDz (YBL (YF2 hu (ZW (ZI (pv 1) (ZI (YI Z2 (pv 2) YC) (ZI (YQ (Ya K rfl) (pv 4) YC (fun _ _=>rfl)) (ZI (pv 6) YB))))) (pv 0))) (YB1 (YBL (YF2 hu (ZW (YA (pv 3) (YA (pv 6) (YA (YQ (Ya K rfl) (pv 4) YC (fun _ _=>rfl)) YB)))) (pv 0)))))) (YE (YM (i:=7) ZL.nd rfl (Or.inl rfl) (ZK hu (pv 0) (ZW (ZI (pv 1) (ZI (YI Z2 (pv 2) YC) (ZI (YQ (Ya K rfl) (pv 4) YC (fun _ _=>rfl)) (ZI (pv 6) YB))))) (fun _ _=>rfl)))
   (YE (YM (i:=8) ZL.nd rfl (Or.inl rfl) (ZK hu (pv 0) (ZW (YA (pv 3) (YA (pv 6) (YA (YQ (Ya K rfl) (pv 4) YC (fun _ _=>rfl)) YB)))) (fun _ _=>rfl)))
   (YF (ZV (JB K rfl YJx YJ0 YJz ZD (pv 5) (YA (ZW (YA (YI Yb (YQ (Ya K rfl) (pv 7) YC (fun _ _=>rfl)) (YQ (Ya K rfl) (pv 8) YC (fun _ _=>rfl))) (YA (YI Yb (YQ (Ya K rfl) (pv 7) YC (fun _ _=>rfl)) (YQ (Ya K rfl) (pv 8) YC (fun _ _=>rfl))) YB))) YB)))))) Yg)))
   (YF (YX (YIz K rfl hu rfl (by rfl) T.z_min YKC (YA (pv 5) YB) (YGh X6 YIJ)))))),?_⟩
  have hsq:∀{H':Hp},YL H H'→SqT K H' sp [.int (i:Int),.int ((i + m:Nat):Int)]:=fun s=>SqT.of (s _ _ hsp)
  refine⟨YJw _,fun l hl=>?_⟩;have sl:=YL.upd (o:=.lst []) hl;refine⟨_,rfl,sp,_,0,_,rfl,rfl,hsq sl,rfl,_,rfl,sp,_,1,_,rfl,rfl,hsq sl,rfl,_,_,rfl,rfl,_,_,rfl,⟨(in62 (by omega) (by omega)).1,(in62 (by omega) (by omega)).2,(in62 (by omega) (by omega)).1,(in62 (by omega) (by omega)).2⟩,?_⟩;have hn:(((i + m:Nat):Int) + 1 - (i:Int)).toNat=m + 1:=by omega
  have hD:D < ρ.2.1.length:=(YJM.mp hpp).1;have hpm:p∈ρ.2.1:=YJS hpp;have hgm:ρ∈g:=YJS hgr;have okp:D < rch S.s ρ.2.1→okP S.s p=true:=fun h=>by
   obtain⟨p',e1,e2⟩:=J3 h;rw[hpp]at e1;cases e1;exact e2
  have nok:D=rch S.s ρ.2.1→okP S.s p=false:=fun h=>by
   obtain⟨p',e1,e2⟩:=YCY (s:=S.s) (ps:=ρ.2.1) (by omega);rw[←h,hpp]at e1;cases e1;exact e2
  have allB:∀k,k≤m→(X5 S ps (.beg r D i (i + k))↔D≤rch S.s ρ.2.1):=fun k hk=>by
   show((∃ρ',S.g[r]?=some ρ'∧D≤rch S.s ρ'.2.1)∧i≤i + k∧i + k≤S.n)↔_;rw[W.eg,W.en,hgr];refine⟨fun⟨⟨ρ',e1,e2⟩,_⟩=>by cases e1;exact e2,fun z=>⟨⟨ρ,rfl,z⟩,by omega,by omega⟩⟩
  have allP:∀k,k≤m→(X5 S ps (.part p (i + k) (i + m))↔okP S.s p=true):=fun k hk=>by
   show(p∈ps∧i + k≤i + m∧i + m≤S.n)↔_;rw[W.en,←W.part hgm hpm];exact⟨fun z=>z.1,fun z=>⟨z,by omega,by omega⟩⟩
  refine Y0 (lo:=(i:Int)) (n:=(((i + m:Nat):Int) + 1 - (i:Int)).toNat) (fun k σ H'=>∃(ts:List Addr) (v6 v7 v8:Option V),σ=[some (.ref d),some (.int (r:Int)),some (.int ((D:Int) + 1)),some (.str p),some (.ref sp),some (.ref l),v6,v7,v8]∧H' l=some (.lst (ts.map V.ref))∧ts.length=(if D < rch S.s ρ.2.1 then k else 0)∧
   (∀(j:Nat) (t:Addr),ts[j]?=some t→H' t=some (.tup [.int (pr (FF r D i j + O p (i + j) (i + m))).1,.int (pr (FF r D i j + O p (i + j) (i + m))).2]))∧YL H H')
   ⟨[],none,none,none,rfl,YD,(by split <;> rfl),(fun j t e=>nomatch e),sl⟩ ?_ ?_
  ·rintro k σ H' hk ⟨ts,v6,v7,v8,rfl,hl',hts,htv,s'⟩;have hkm:k≤m:=by omega
   have eik:(i:Int) + (k:Int)=((i + k:Nat):Int):=by omega
   have eD:(D:Int) + 1 - 1=(D:Int):=by omega
   have hd':=s' _ _ hd;have fd':=fdT.keep fun t ys e=>s' _ _ e
   refine⟨_,rfl,_,rfl,_,_,rfl,rfl,_,rfl,sp,_,0,_,rfl,rfl,hsq s',rfl,_,rfl,YG (by show 4≤1000;decide),fun tk htk=>?_⟩;rw[eD,eik];have s1:=YL.upd (o:=.tup [.int (r:Int),.int (D:Int),.int (i:Int),.int ((i + k:Nat):Int)]) htk;have e1:upd H' tk (.tup [.int (r:Int),.int (D:Int),.int (i:Int),.int ((i + k:Nat):Int)]) tk=some (.tup ((ZE (.beg r D i (i + k))).map kV)):=YD;revert s1 e1;generalize upd H' tk (.tup [.int (r:Int),.int (D:Int),.int (i:Int),.int ((i + k:Nat):Int)])=H1;intro s1 e1;obtain⟨x1,g1,c1⟩:=W.dget (s1 _ _ hd') (fd'.keep fun t ys e=>s1 _ _ e) (.beg r D i (i + k)) e1;have none_:∀H2,YL H' H2→¬D < rch S.s ρ.2.1→∃(ts:List Addr) (v6' v7 v8:Option V),[some (.ref d),some (.int (r:Int)),some (.int ((D:Int) + 1)),some (.str p),some (.ref sp),some (.ref l),some (.int ((i + k:Nat):Int)),v7,v8]=[some (V.ref d),some (.int (r:Int)),some (.int ((D:Int) + 1)),some (.str p),some (.ref sp),some (.ref l),v6',v7,v8]∧H2 l=some (.lst (ts.map V.ref))∧ts.length=(if D < rch S.s ρ.2.1 then k + 1 else 0)∧
     (∀(j:Nat) (t:Addr),ts[j]?=some t→H2 t=some (.tup [.int (pr (FF r D i j + O p (i + j) (i + m))).1,.int (pr (FF r D i j + O p (i + j) (i + m))).2]))∧YL H H2:=fun H2 s2 nd=>by
    rw[if_neg nd]at hts;exact⟨ts,_,v7,v8,rfl,s2 _ _ hl',by rw[if_neg nd];exact hts,fun j t e=>s2 _ _ (htv j t e),s'.trans s2⟩
   refine⟨_,rfl,d,x1,rfl,g1,_,rfl,?_⟩;rcases c1 with ⟨rfl,n1⟩ |⟨u1,rfl,a1,hu1⟩
   ·refine ZU (ZU ?_);obtain⟨ts',w6,w7,w8,_,z⟩:=none_ H1 s1 fun z=>n1 ((allB k hkm).mpr (YK6 z))
    exact⟨ts',_,_,_,rfl,z⟩
   refine Zo ⟨_,rfl,_,rfl,_,rfl,sp,_,1,_,rfl,rfl,hsq (s'.trans s1),rfl,YG (by show 3≤1000;decide),fun tk2 htk2=>?_⟩;have s2:=s1.trans (YL.upd (o:=.tup [.str p,.int ((i + k:Nat):Int),.int ((i + m:Nat):Int)]) htk2);have s12:=YL.upd (o:=.tup [.str p,.int ((i + k:Nat):Int),.int ((i + m:Nat):Int)]) htk2;have e2:upd H1 tk2 (.tup [.str p,.int ((i + k:Nat):Int),.int ((i + m:Nat):Int)]) tk2=some (.tup ((ZE (.part p (i + k) (i + m))).map kV)):=YD;have hu1:=s12 _ _ hu1;revert s2 e2 hu1;clear s12;generalize upd H1 tk2 (.tup [.str p,.int ((i + k:Nat):Int),.int ((i + m:Nat):Int)])=H2;intro s2 e2 hu1;obtain⟨x2,g2,c2⟩:=W.dget (s2 _ _ hd') (fd'.keep fun t ys e=>s2 _ _ e) (.part p (i + k) (i + m)) e2;refine⟨_,rfl,d,x2,rfl,g2,_,rfl,?_⟩;rcases c2 with ⟨rfl,n2⟩ |⟨u2,rfl,a2,hu2⟩
   ·refine ZU ?_;obtain⟨ts',w6,w7,w8,_,z⟩:=none_ H2 s2 fun z=>n2 ((allP k hkm).mpr (okp z))
    exact⟨ts',_,_,_,rfl,z⟩
   have hok:D < rch S.s ρ.2.1:=by
    have h1:=(allB k hkm).mp a1;have h2:=(allP k hkm).mp a2;rcases YJr D (rch S.s ρ.2.1) with h |h
    ·exact h
    ·rw[nok (by omega)]at h2;cases h2
   refine Zo ⟨_,rfl,_,rfl,_,rfl,_,_,rfl,rfl,_,rfl,sp,_,0,_,rfl,rfl,hsq (s'.trans s2),rfl,_,rfl,YG (by show 4≤1000;decide),fun tk3 htk3=>?_⟩;rw[eD];have s13:=YL.upd (o:=.tup [.int (r:Int),.int (D:Int),.int (i:Int),.int ((i + k:Nat):Int)]) htk3;have e3:upd H2 tk3 (.tup [.int (r:Int),.int (D:Int),.int (i:Int),.int ((i + k:Nat):Int)]) tk3=some (.tup ((ZE (.beg r D i (i + k))).map kV)):=YD;have s3:=s2.trans s13;have hu1:=s13 _ _ hu1;have hu2:=s13 _ _ hu2;revert s3 e3 hu1 hu2;clear s13;generalize upd H2 tk3 (.tup [.int (r:Int),.int (D:Int),.int (i:Int),.int ((i + k:Nat):Int)])=H3;intro e3 s3 hu1 hu2;obtain⟨x3,g3,c3⟩:=W.dget (s3 _ _ hd') (fd'.keep fun t ys e=>s3 _ _ e) (.beg r D i (i + k)) e3;rcases c3 with ⟨rfl,n3⟩ |⟨u3,rfl,a3,hu3⟩
   ·exact absurd a1 n3
   refine⟨d,_,rfl,g3,?_⟩;refine⟨_,rfl,_,rfl,_,rfl,_,rfl,sp,_,1,_,rfl,rfl,hsq (s'.trans s3),rfl,YG (by show 3≤1000;decide),fun tk4 htk4=>?_⟩;have s14:=YL.upd (o:=.tup [.str p,.int ((i + k:Nat):Int),.int ((i + m:Nat):Int)]) htk4;have e4:upd H3 tk4 (.tup [.str p,.int ((i + k:Nat):Int),.int ((i + m:Nat):Int)]) tk4=some (.tup ((ZE (.part p (i + k) (i + m))).map kV)):=YD;have s4:=s3.trans s14;have hu3:=s14 _ _ hu3;revert s4 e4 hu3;clear s14;generalize upd H3 tk4 (.tup [.str p,.int ((i + k:Nat):Int),.int ((i + m:Nat):Int)])=H4;intro e4 s4 hu3;obtain⟨x4,g4,c4⟩:=W.dget (s4 _ _ hd') (fd'.keep fun t ys e=>s4 _ _ e) (.part p (i + k) (i + m)) e4;rcases c4 with ⟨rfl,n4⟩ |⟨u4,rfl,a4,hu4⟩
   ·exact absurd a2 n4
   refine⟨d,_,rfl,g4,?_⟩;have hl4:=s4 _ _ hl';refine⟨_,rfl,.inl ⟨rfl,_,SqL.of hl4⟩,_,rfl,u3,_,0,_,rfl,rfl,SqT.of hu3,rfl,_,rfl,u4,_,0,_,rfl,rfl,SqT.of hu4,rfl,_,_,rfl,rfl,_,rfl,u3,_,1,_,rfl,rfl,SqT.of hu3,rfl,_,rfl,u4,_,1,_,rfl,rfl,SqT.of hu4,rfl,_,_,rfl,rfl,YG (by show 2≤1000;decide),fun tt htt=>?_⟩;rw[if_pos hok]at hts;have es:=W.sum hb h6 ht hs hgr (YK6 hok) (okp hok) hkm hm;have es1:=YKV Prod.fst es;have es2:=YKV Prod.snd es;have ev:XR O FF (.beg r D i (i + k))=FF r D i k:=by show FF r D i (i + k - i)=_;rw[YKe]
   dsimp only at es1 es2;rw[ev];rw[show XR O FF (.part p (i + k) (i + m))=O p (i + k) (i + m) from rfl,es1,es2];have st:=YL.upd (o:=.tup [.int (pr (FF r D i k + O p (i + k) (i + m))).1,.int (pr (FF r D i k + O p (i + k) (i + m))).2]) htt;have s5:=s4.trans st;refine⟨l,_,_,rfl,rfl,st _ _ hl4,YJY (show(ts.map V.ref).length < 1000 by rw[YJL];omega) (YG (YJP _)),?_⟩;refine⟨ts ++ [tt],_,_,_,rfl,by rw[YJo];exact YD,by rw[if_pos hok,YJd,hts];rfl,fun j t' e=>?_,(s'.trans s5).put hl⟩;rcases YJr j ts.length with hj |hj
   ·rw[YJ5 hj]at e;have h:=s5 _ _ (htv j t' e);rw[YH (fun z=>by rw[z,st _ _ hl4]at h;cases h)];exact h
   ·have hjk:j=k:=by
     have:=(YJM.mp e).1;rw[YJd]at this;have:j < ts.length + 1:=this;omega
    subst hjk;rw[YJ2 hj,hts,Nat.sub_self]at e;cases e;rw[YH (fun z=>by rw[z,hl4]at htt;cases htt)];exact YD
  ·rintro σ H' ⟨ts,v6,v7,v8,rfl,hl',hts,htv,s'⟩;obtain⟨xs,exs⟩:∃xs,(List.range ts.length).map (fun k=>FF r D i k + O p (i + k) (i + m))=xs:=⟨_,rfl⟩;have xat:∀j y,xs[j]?=some y→j < ts.length∧y=FF r D i j + O p (i + j) (i + m):=fun j y e=>by
    rw[←exs,YJQ]at e;rcases YJr j ts.length with hj |hj
    ·rw[YJ3 hj]at e;exact⟨hj,(YJk e).symm⟩
    ·rw[YJy (by rw[YJj];exact hj)]at e;cases e
   have pat:∀j (y:Int×Int),(xs.map pr)[j]?=some y→j < ts.length∧y=pr (FF r D i j + O p (i + j) (i + m)):=fun j y e=>by
    rw[YJQ]at e;cases hx:xs[j]? with
    |none=>rw[hx]at e;cases e
    |some x=>
     rw[hx]at e;obtain⟨h1,rfl⟩:=xat j x hx;exact⟨h1,(YJk e).symm⟩
   have allD:X5 S ps (.beg r (D + 1) i (i + m))↔D < rch S.s ρ.2.1:=by
    show((∃ρ',S.g[r]?=some ρ'∧D + 1≤rch S.s ρ'.2.1)∧i≤i + m∧i + m≤S.n)↔_;rw[W.eg,W.en,hgr];refine⟨fun⟨⟨ρ',e1,e2⟩,_⟩=>by cases e1;exact e2,fun z=>⟨⟨ρ,rfl,z⟩,by omega,by omega⟩⟩
   refine⟨_,rfl,l,ts,xs.map pr,.non,rfl,rfl,SqL.of hl',⟨by rw[←exs,YJL,YJL,YJj],fun j t' y e1 e2=>?_⟩,fun h0=>?_,fun j t' y e1 e2 hmin=>?_⟩
   ·rw[(pat j y e2).2];exact SqT.of (htv j t' e1)
   ·refine q _ _ s' (.inl ⟨rfl,fun z=>?_⟩);rw[if_pos (allD.mp z),hn,h0]at hts;cases hts
   ·have hj:=(YJM.mp e1).1;have hok:D < rch S.s ρ.2.1:=by
     rcases YJr D (rch S.s ρ.2.1) with h |h
     ·exact h
     ·rw[if_neg (by omega)]at hts;omega
    rw[if_pos hok,hn]at hts;rw[hts]at exs;obtain⟨_,rfl⟩:=pat j y e2;have e:=W.least hb hgr hok hpp hm (x:=FF r D i j + O p (i + j) (i + m)) (YJh.mpr ⟨j,YKG.mpr (by omega),rfl⟩) fun z hz=>hmin _ (YJh.mpr ⟨z,by rw[←exs];exact hz,rfl⟩)
    refine q _ _ s' (.inr ⟨t',rfl,allD.mpr hok,?_⟩);have ev:XR O FF (.beg r (D + 1) i (i + m))=FF r D i j + O p (i + j) (i + m):=by rw[e];show FF r (D + 1) i (i + m - i)=_;rw[YKe]
    rw[ev];exact htv j t' e1
end
inductive YHG (vs:List V) (H:Hp) (Q:VK):Prop where
 |mk (lg d ct sp:Addr) (o:Obj) (xs:List V) (kvs:List (List Key×V)) (g:ZF) (t:Str) (a b c:Int) (T:Tol) (ps:List Str) (O:OvF) (F:FiF) (fs:List (Nd×Int)) (i m:Nat) (h0_:vs=[.ref lg,.ref d,.str t,.ref ct,.ref sp]) (h1_:H lg=some (.lst xs)) (h2_:Yd (del H lg) xs (g.map Zf)) (h3_:ZT g=true) (h4_:g.length≤6) (h5_:H d=some (.frz o (.dT kvs))) (h6_:FdT H kvs fs) (h7_:J9 g t a b c T ps O F fs) (h8_:0≤b) (h9_:t.length≤4) (h10_:T.s.length≤3) (h11_:H ct=some (.tup [.int a,.int b,.int c])) (h12_:H sp=some (.tup [.int (i:Int),.int ((i + m:Nat):Int)])) (h13_:i + m≤t.length) (h14_:∀dd o' kvD ks H',YL H H'→H' dd=some (.frz o' (.dT kvD))→Du T ps O F (i,i + m) H' kvD ks→(∀n,X5 T ps n→XM n=(i,i + m)→n∈ks)→Q (.ref dd) H'):YHG vs H Q
def YJF:Sp:=fun vs H Q E_=>YHG vs H Q
section
variable {P:Program}{w:World}{K:W.Frag}{mg:Str→Option Value}{base:Heap}{C:Adr}
theorem Yz:YV ["_law_grammar_here","_law_found","_law_signs_here","_law_costs_here","_law_span","_law_dues_here","_law_there","_law_heads","_law_at","_law_head","_law_parts_here","_law_worth_here","_law_d","_law_part"] ["_law_grammar_here","_law_found","_law_signs_here","_law_costs_here","_law_span"] (YJ YAU):=⟨rfl,rfl,rfl,by decide +kernel,rfl,by decide +kernel,by decide +kernel⟩
theorem YEW {f:Addr}{fd:FuncData} (F:Fun K "_law_dues" "_law_dues" YAU f fd) (T:Txt K mg C) (U__law_split_due:ZO P w K mg CX0 1 "_law_split_due" ["_law_found","_law_at","_law_d","_law_part","_law_span"] (YCl)) (U__law_sign_due:ZO P w K mg CX0 1 "_law_sign_due" ["_law_sign","_law_there","_law_costs_here"] (YDv)):Yr P w K mg base CX0 2 f fd ["_law_grammar_here","_law_found","_law_signs_here","_law_costs_here","_law_span"] (YJF):=by
 obtain⟨f__law_split_due,fd__law_split_due,G__law_split_due,m__law_split_due,k__law_split_due,b__law_split_due⟩:=U__law_split_due.ok;obtain⟨f__law_sign_due,fd__law_sign_due,G__law_sign_due,m__law_sign_due,k__law_sign_due,b__law_sign_due⟩:=U__law_sign_due.ok;refine F.ok Yz (fun vs H Q E h=>?_) (fun cdv A outer s H vs Q E hr h=>?_)
 ·cases h;subst_vars;rfl
 ·obtain⟨lg,d,ct,sp,o,xs,kvs,g,t,a,b,c,S,ps,O,FF,fs,i,m,rfl,hlg,hds,hg,hg6,hd,fd0,W,hb,ht4,hs3,hct,hsp,him,q⟩:=h;have hu:=Jd hr;refine⟨_,(YE (YM (i:=5) Yz.nd rfl (Or.inl rfl) YEl)
   (YE (YM (i:=6) Yz.nd rfl (Or.inl rfl) (Zd YD9 (pv 2) (ZP (YQ (Ya K rfl) (pv 4) YC (fun _ _=>rfl))) (ZP (YQ (Ya K rfl) (pv 4) YC (fun _ _=>rfl)))))
   (YE (YM (i:=7) Yz.nd rfl (Or.inl rfl) YA3)
   (YE (Yi PassesOwn.never rfl (Yt rfl T.z_range (YA (YK (YT K rfl) (by rfl) T.z_len YJT (YA (pv 0) YB)) YB)) (YN (i:=8) Yz.nd rfl (Or.inl rfl)) (YE (YFr (YQ (YY K rfl) (pv 0) (pv 8) (fun _ _=>rfl)) (Jq K rfl (n:=3) rfl (Yx (YN (i:=9) Yz.nd rfl (Or.inl rfl)) (Yx (YN (i:=10) Yz.nd rfl (Or.inl rfl)) (Yx (YN (i:=11) Yz.nd rfl (Or.inl rfl)) Jp)))))
   (YE (JX hu (pv 5) (YI YAW (ZW (YA (pv 8) (YA YC YB))) (pv 4)) (ZW (YA (YI Ji (YK Yq (by rfl) T.z_len YJT (YA (pv 6) YB)) (YQ (Ya K rfl) (pv 3) YC (fun _ _=>rfl))) (YA YC YB))) rfl)
   (YE (Yi PassesOwn.never rfl (XS rfl T.z_range (YA YC (YA (YI Yb (YK (YT K rfl) (by rfl) T.z_len YJT (YA (pv 10) YB)) YC) YB))) (YN (i:=12) Yz.nd rfl (Or.inl rfl)) (YE (YM (i:=13) Yz.nd rfl (Or.inl rfl) (YQ (Ya K rfl) (pv 10) (YI Z2 (pv 12) YC) (fun _ _=>rfl)))
   (YE (ZB (Y1 X9 (YQ Jj (pv 13) YC (fun _ _=>rfl)) Zk (Yv _)) (YF (JX hu (pv 5) (YI YAW (ZW (YA (pv 13) YB)) (pv 4)) (YU (G__law_sign_due base) (hr.mono (by decide)) (by rfl) m__law_sign_due k__law_sign_due b__law_sign_due .nil Yf (YA (YQ Jj (pv 13) YC (fun _ _=>rfl)) (YA (pv 6) (YA (pv 3) YB)))) rfl)) Yg)
   (YF (JX hu (pv 5) (YI YAW (ZW (YA (pv 8) (YA (pv 12) YB))) (pv 4)) (YU (G__law_split_due base) (hr.mono (by decide)) (by rfl) m__law_split_due k__law_split_due b__law_split_due .nil Yf (ZI (pv 1) (ZI (pv 8) (ZI (pv 12) (ZI (pv 13) (ZI (pv 4) YB)))))) rfl)))))
   (YF (ZB (YBL (YF2 hu (YI YAW (ZW (YA (pv 8) (YA (YK (YT K rfl) (by rfl) T.z_len YJT (YA (pv 10) YB)) YB))) (pv 4)) (pv 1))) (YF (ZV (JB K rfl YJx YJ0 YJz ZD (YHm hu (pv 7) (pv 9) (Z8 YB) ⟨rfl,rfl,rfl,rfl⟩) (YA (ZK hu (pv 1) (YI YAW (ZW (YA (pv 8) (YA (YK (YT K rfl) (by rfl) T.z_len YJT (YA (pv 10) YB)) YB))) (pv 4)) (fun _ _=>rfl)) YB)))) Yg))))))
   (YE (Yi PassesOwn.never rfl (YEI (pv 7)) (YN (i:=9) Yz.nd rfl (Or.inl rfl)) (YF (JX hu (pv 5) (YI YAW (ZW (YA (pv 9) YB)) (pv 4)) (YK (YGK K rfl hu rfl) (by rfl) T.z_min YKC (YA (ZK hu (pv 7) (pv 9) (fun _ _=>rfl)) YB)) rfl)))
   (YF (YX (YE7 (pv 5))))))))),?_⟩
  have h6:∀ρ∈g,ρ.2.1.length≤6:=fun ρ hρ=>(JS hg hρ).2.1
  have hxl:xs.length=g.length:=by rw[hds.len,YJL]
  have hsq:∀{H':Hp},YL H H'→SqT K H' sp [.int (i:Int),.int ((i + m:Nat):Int)]:=fun s=>SqT.of (s _ _ hsp)
  have hlen:=YDw (t:=t) (i:=i) (j:=i + m) (by omega) him;obtain⟨th,eth⟩:∃th,Txt.slice t (some (i:Int)) (some ((i + m:Nat):Int))=th:=⟨_,rfl⟩;rw[eth,YKe]at hlen;refine fun dd hdd=>?_
  have sd:=YL.upd (o:=.dT []) hdd;refine⟨_,rfl,_,rfl,sp,_,0,_,rfl,rfl,hsq sd,rfl,_,rfl,_,rfl,sp,_,1,_,rfl,rfl,hsq sd,rfl,_,rfl,t,rfl,YG (by omega),?_⟩;rw[eth];refine fun hh hhh=>?_
  have sh:=sd.trans (YL.upd (o:=.dK []) hhh);have hhh0:H hh=none:=by
   cases e:H hh with
   |none=>rfl
   |some o=>rw[sd _ _ e]at hhh;cases hhh
  have nd:dd≠hh:=fun z=>by rw[←z,YD]at hhh;cases hhh
  refine⟨_,rfl,lg,_,rfl,.inl (SqL.of (sh _ _ hlg)),(g.length:Int),by rw[hxl],(in62 (by omega) (by omega)).1,(in62 (by omega) (by omega)).2,?_⟩;refine Y0 (lo:=0) (n:=((g.length:Nat):Int).toNat) (fun r σ H'=>∃(own:Addr→Option Str) (kvD:List (List Key×V)) (ks:List Nd) (kvh:List (Key×V)) (v8 v9 v10 v11 v12 v13:Option V),σ=[some (.ref lg),some (.ref d),some (.str t),some (.ref ct),some (.ref sp),some (.ref dd),some (.str th),some (.ref hh),v8,v9,v10,v11,v12,v13]∧DSt g S ps O FF (i,i + m) H H' dd hh own kvD ks kvh r (13 * r)∧Pg g (i,i + m) r ks)
   ⟨fun _=>none,[],[],[],none,none,none,none,none,none,rfl,⟨sh,by rw[YH nd];exact YD,YD,⟨rfl,List.nodup_nil,(fun n hn=>nomatch hn),fun n hn=>nomatch hn⟩,⟨(fun kv h=>nomatch h),YJP _,(fun al h e=>nomatch e),fun h=>.inl ⟨rfl,fun r' ρ l=>nomatch l⟩⟩,YJP _⟩,fun r' ρ l=>nomatch l⟩ ?_ ?_
  ·rintro r σ H' hr' ⟨own,kvD,ks,kvh,v8,v9,v10,v11,v12,v13,rfl,D1,P1⟩;have hrg:r < g.length:=by omega
   obtain⟨ρ,hρ⟩:∃ρ,g[r]?=some ρ:=⟨_,YJR hrg⟩;have hρm:ρ∈g:=YJS hρ;obtain⟨x,hx⟩:∃x,xs[r]?=some x:=⟨_,YJR (by omega)⟩;obtain⟨ρ',tρ,pp,er,rfl,htρ,hpp⟩:=Xo hds hx;rw[hρ]at er;cases er;have htρ:=Zy _ _ _ _ htρ;have hpp:=Zy _ _ _ _ hpp;have hL:=h6 ρ hρm;have hprt:=(JS hg hρm).2.2;have i64:∀k:Int,-1≤k→k≤4→-(2 ^ 64) < k∧k < 2 ^ 64:=fun k h1 h2=>⟨by omega,by omega⟩
   rw[YKP];refine⟨_,rfl,_,rfl,lg,_,_,_,rfl,rfl,SqL.of (D1.sm _ _ hlg),Yy hx,tρ,_,rfl,SqT.of (D1.sm _ _ htρ),rfl,_,_,rfl,_,_,rfl,_,_,rfl,rfl,?_⟩;refine⟨_,rfl,th,rfl,YG (by omega),_,rfl,ct,_,1,_,rfl,rfl,SqT.of (D1.sm _ _ hct),rfl,_,_,rfl,rfl,.inl (i64 _ (by omega) (by omega)),YG (by show 2≤1000;decide),fun tv htv=>?_⟩;have s1:=YL.upd (o:=.tup [.int ((th.length:Int) * b),.int 1]) htv;have hv1:upd H' tv (.tup [.int ((th.length:Int) * b),.int 1]) tv=some (.tup [.int ((th.length:Int) * b),.int 1]):=YD;revert s1 hv1;generalize upd H' tv (.tup [.int ((th.length:Int) * b),.int 1])=H1;intro s1 hv1;refine⟨_,rfl,_,rfl,YG (by show 2≤1000;decide),fun tk htk=>?_⟩;have s2:=s1.trans (YL.upd (o:=.tup [.int (r:Int),.int 0]) htk);have s2':=YL.upd (o:=.tup [.int (r:Int),.int 0]) htk;refine⟨_,rfl,tk,sp,_,_,rfl,rfl,YD,s2 _ _ (D1.sm _ _ hsp),YG (by show 4≤1000;decide),fun p3 H3 s3 _ _ hp3=>?_⟩;have s03:=s2.trans s3;have D2:=D1.same s03;have hv3:=s3 _ _ (s2' _ _ hv1);have a0:∀e,e≤ρ.2.1.length→(X5 S ps (.beg r e i (i + m))↔e≤rch S.s ρ.2.1):=fun e he=>by
    show((∃ρ',S.g[r]?=some ρ'∧e≤rch S.s ρ'.2.1)∧i≤i + m∧i + m≤S.n)↔_;rw[W.eg,W.en,hρ];refine⟨fun⟨⟨ρ',e1,e2⟩,_⟩=>by cases e1;exact e2,fun z=>⟨⟨ρ,rfl,z⟩,by omega,by omega⟩⟩
   have ev0:pr (XR O FF (.beg r 0 i (i + m)))=((th.length:Int) * b,1):=by
    show pr (FF r 0 i (i + m - i))=_;rw[YKe,((W.ok hb).f i m him r ρ hρ).1,W.ec,←Int.mul_assoc,pr_mul1,hlen]
   obtain⟨ks2,D3,in3,sub3⟩:=D2.put hdd (n:=.beg r 0 i (i + m)) (v:=.ref tv) (.inr ⟨tv,rfl,(a0 0 (YJw _)).mpr (YJw _),by rw[ev0];exact hv3⟩) rfl;have nkv:kvD.length < sizeLine:=YJY (show kvD.length < 1000 by have:=D1.du.len;have:=D1.ln;omega) (YG (YJP _));refine⟨dd,_,rfl,.inr ⟨kvD,ZE (.beg r 0 i (i + m)),p3,D2.hd,rfl,hp3,nkv,rfl⟩,?_⟩;have P3:Pg g (i,i + m) r ks2:=fun r' ρ' l e=>⟨fun e' he'=>sub3 _ ((P1 r' ρ' l e).1 e' he'),fun p hp hq=>sub3 _ ((P1 r' ρ' l e).2 p hp hq)⟩
   revert D3;generalize upd H3 dd (.dT (Ys kvD (ZE (.beg r 0 i (i + m))) (.ref tv)))=H4;generalize Ys kvD (ZE (.beg r 0 i (i + m))) (.ref tv)=kv4;intro D3;clear nkv ev0 hv3 D2 s03 hp3 s3 s2' s2 htk hv1 s1 htv sub3;have hN:((ρ.2.1.length:Int) + 1 - 1).toNat=ρ.2.1.length:=by omega
   refine⟨_,rfl,pp,_,rfl,.inr (SqT.of (D3.sm _ _ hpp)),_,_,rfl,rfl,1,(ρ.2.1.length:Int) + 1,by rw[YJL],⟨by decide,by decide,(in62 (by omega) (by omega)).1,(in62 (by omega) (by omega)).2⟩,?_⟩;refine Y0 (lo:=1) (n:=((ρ.2.1.length:Int) + 1 - 1).toNat) (fun k σ H'=>∃(kvD:List (List Key×V)) (ks:List Nd) (v12 v13:Option V),σ=[some (.ref lg),some (.ref d),some (.str t),some (.ref ct),some (.ref sp),some (.ref dd),some (.str th),some (.ref hh),some (.int (r:Int)),some (.str ρ.1),some (.ref pp),some (.int ρ.2.2),v12,v13]∧DSt g S ps O FF (i,i + m) H H' dd hh own kvD ks kvh r (13 * r + 1 + 2 * k)∧Pg g (i,i + m) r ks∧PgI ρ (i,i + m) r k ks)
    ⟨kv4,ks2,_,_,rfl,D3,P3,fun e he=>by rw[Nat.le_zero.mp he];exact in3,fun j p l=>nomatch l⟩ ?_ ?_
   ·rintro k σ H5 hk ⟨kv5,ks5,v12,v13,rfl,D5,P5,I5⟩;have hkL:k < ρ.2.1.length:=by omega
    obtain⟨p,hp⟩:∃p,ρ.2.1[k]?=some p:=⟨_,YJR hkL⟩;have hpm:p∈ρ.2.1:=YJS hp;have hpS:=hprt p hpm;have ek:1 + (k:Int) - 1=(k:Int):=by omega
    obtain⟨c0,hc0,hp8,hcq⟩:=YGG hpS;have hpl:p.length≤sizeLine:=YG (by omega);refine⟨_,rfl,_,rfl,_,_,rfl,rfl,pp,_,_,_,rfl,rfl,SqT.of (D5.sm _ _ hpp),by rw[ek];exact Yy (by rw[YJQ,hp];rfl),?_⟩
    with_reducible refine YEP (fun σ' H'=>∃(kvD:List (List Key×V)) (ks:List Nd),σ'=[some (.ref lg),some (.ref d),some (.str t),some (.ref ct),some (.ref sp),some (.ref dd),some (.str th),some (.ref hh),some (.int (r:Int)),some (.str ρ.1),some (.ref pp),some (.int ρ.2.2),some (.int (1 + (k:Int))),some (.str p)]∧DSt g S ps O FF (i,i + m) H H' dd hh own kvD ks kvh r (13 * r + 1 + 2 * k + 1)∧Pg g (i,i + m) r ks∧PgI ρ (i,i + m) r k ks∧(isQ p=true→Nd.part p i (i + m)∈ks)) ?_ fun restK=>?_
    ·rintro σ' H6 ⟨kv6,ks6,rfl,D6,P6,I6,q6⟩;have nkv:kv6.length < sizeLine:=YJY (show kv6.length < 1000 by have:=D6.du.len;have:=D6.ln;omega) (YG (YJP _));refine⟨_,rfl,_,rfl,_,rfl,_,rfl,_,rfl,d,sp,o,kvs,g,t,a,b,c,S,ps,O,FF,fs,r,k,i,m,ρ,p,by rw[Int.add_comm];rfl,D6.sm _ _ hd,fd0.keep fun _ _ e=>D6.sm _ _ e,W,hb,h6,ht4,hs3,D6.sm _ _ hsp,him,hρ,by omega,hp,fun v H7 s7 hv7=>?_⟩;refine⟨_,rfl,_,rfl,_,rfl,YG (by show 2≤1000;decide),fun tk htk=>?_⟩;have s8:=s7.trans (YL.upd (o:=.tup [.int (r:Int),.int (1 + (k:Int))]) htk);have s8':=YL.upd (o:=.tup [.int (r:Int),.int (1 + (k:Int))]) htk;refine⟨_,rfl,tk,sp,_,_,rfl,rfl,YD,s8 _ _ (D6.sm _ _ hsp),YG (by show 4≤1000;decide),fun p3 H8 s9 _ _ hp3=>?_⟩;have D8:=D6.same (s8.trans s9);obtain⟨ks9,D9,in9,sub9⟩:=D8.put hdd (n:=.beg r (k + 1) i (i + m)) (v:=v) ((hv7.same s8').same s9) rfl;have ek1:(1:Int) + (k:Int)=((k + 1:Nat):Int):=by omega
     rw[ek1]at hp3;refine⟨dd,_,rfl,.inr ⟨kv6,ZE (.beg r (k + 1) i (i + m)),p3,D8.hd,rfl,hp3,nkv,rfl⟩,?_⟩;refine⟨_,ks9,_,_,rfl,⟨D9.sm,D9.hd,D9.hh,D9.du,D9.hi,by have:=D9.ln;omega⟩,fun r' ρ' l e=>⟨fun e' he'=>sub9 _ ((P6 r' ρ' l e).1 e' he'),fun p hp hq=>sub9 _ ((P6 r' ρ' l e).2 p hp hq)⟩,fun e he=>?_,fun j p' hj hpj hq=>?_⟩
     ·rcases YJr e (k + 1) with h |h
      ·exact sub9 _ (I6.1 e (by omega))
      ·rw[show e=k + 1 by omega];exact in9
     ·rcases YJr j k with h |h
      ·exact sub9 _ (I6.2 j p' h hpj hq)
      ·have e:j=k:=by omega
       subst e;rw[hp]at hpj;cases hpj;exact sub9 _ (q6 hq)
    ·refine⟨_,rfl,p,0,c0,rfl,rfl,hpl,hc0,rfl,_,rfl,?_⟩;rw[hcq];refine Jx (fun hq=>?_) fun hq=>?_
     ·have hp2:=YFU hpS hq;obtain⟨c1,ec⟩:∃c,p.cps[1]?=some c:=⟨_,YKZ (show 1 < p.cps.size by have:p.cps.size=2:=hp2;omega)⟩;have es:Xr p=⟨#[c1]⟩:=by unfold Xr;rw[ec];rfl
      refine⟨_,rfl,p,1,c1,rfl,rfl,hpl,Yy (j:=1) (by rw[YKQ];exact ec),_,rfl,_,rfl,p,t,i,i + m,ct,a,b,c,by rw[es,eth];rfl,by omega,him,ht4,hp2,D5.sm _ _ hct,fun u hu'=>?_⟩;have s7:=YL.upd (o:=.tup [.int (sgT t a b c p i (i + m)),.int 0]) hu';have hv7:upd H5 u (.tup [.int (sgT t a b c p i (i + m)),.int 0]) u=some (.tup [.int (sgT t a b c p i (i + m)),.int 0]):=YD;revert s7 hv7;generalize upd H5 u (.tup [.int (sgT t a b c p i (i + m)),.int 0])=H7;intro s7 hv7;refine⟨_,rfl,_,rfl,YG (by show 1≤1000;decide),fun tk htk=>?_⟩;have s8':=YL.upd (o:=.tup [.str p]) htk;have s8:=s7.trans s8';refine⟨_,rfl,tk,sp,_,_,rfl,rfl,YD,s8 _ _ (D5.sm _ _ hsp),YG (by show 3≤1000;decide),fun p3 H8 s9 _ _ hp3=>?_⟩;have D8:=D5.same (s8.trans s9);have evp:pr (XR O FF (.part p i (i + m)))=(sgT t a b c p i (i + m),0):=by
       show pr (O p i (i + m))=_;rw[W.iv.sg p i (i + m) hq,W.ep,W.ec,W.es,W.et,YHB,YI9]
      have hap:X5 S ps (.part p i (i + m)):=by
       show p∈ps∧i≤i + m∧i + m≤S.n;rw[W.en];exact⟨W.po.2.2.2.1 ρ hρm p hpm hq,by omega,him⟩
      obtain⟨ks9,D9,in9,sub9⟩:=D8.put hdd (n:=.part p i (i + m)) (v:=.ref u) (.inr ⟨u,rfl,hap,by rw[evp];exact s9 _ _ (s8' _ _ hv7)⟩) rfl;have nkv:kv5.length < sizeLine:=YJY (show kv5.length < 1000 by have:=D5.du.len;have:=D5.ln;omega) (YG (YJP _));refine⟨dd,_,rfl,.inr ⟨kv5,ZE (.part p i (i + m)),p3,D8.hd,rfl,hp3,nkv,rfl⟩,?_⟩;exact restK _ _ ⟨_,ks9,rfl,D9,(fun r' ρ' l e=>⟨fun e' he'=>sub9 _ ((P5 r' ρ' l e).1 e' he'),fun p hp hq=>sub9 _ ((P5 r' ρ' l e).2 p hp hq)⟩),⟨fun e he=>sub9 _ (I5.1 e he),fun j p' hj hpj hq=>sub9 _ (I5.2 j p' hj hpj hq)⟩,fun _=>in9⟩
     ·exact restK _ _ ⟨kv5,ks5,rfl,⟨D5.sm,D5.hd,D5.hh,D5.du,D5.hi,by have:=D5.ln;omega⟩,P5,I5,fun z=>absurd z hq⟩
   ·rintro σ H5 ⟨kv5,ks5,v12,v13,rfl,D5,P5,I5⟩;rw[hN]at D5 I5;have hpg:Pg g (i,i + m) (r + 1) ks5:=fun r' ρ' l e=>by
     rcases YJr r' r with h |h
     ·exact P5 r' ρ' h e
     ·have e':r'=r:=by omega
      subst e';rw[hρ]at e;cases e;refine⟨fun e' he'=>I5.1 e' he',fun p hp hq=>?_⟩;obtain⟨j,hj⟩:=YKH hp;exact I5.2 j p (YJM.mp hj).1 hj hq
    have dle:∀{H':Hp}{own:Addr→Option Str}{kvh:List (Key×V)}{r':Nat},DSt g S ps O FF (i,i + m) H H' dd hh own kv5 ks5 kvh r' (13 * r + 1 + 2 * ρ.2.1.length)→DSt g S ps O FF (i,i + m) H H' dd hh own kv5 ks5 kvh r' (13 * (r + 1)):=fun D=>⟨D.sm,D.hd,D.hh,D.du,D.hi,by have:=D.ln;omega⟩
    refine⟨_,rfl,_,rfl,pp,_,rfl,.inr (SqT.of (D5.sm _ _ hpp)),YG (by show 2≤1000;decide),fun tk htk=>?_⟩;have s1:=YL.upd (o:=.tup [.int (r:Int),.int ((ρ.2.1.map V.str).length:Int)]) htk;refine⟨_,rfl,tk,sp,_,_,rfl,rfl,YD,s1 _ _ (D5.sm _ _ hsp),YG (by show 4≤1000;decide),fun p3 H6 s6 _ _ hp3=>?_⟩;rw[YJL]at hp3;have D6:=D5.same (s1.trans s6);obtain⟨x1,g1,c1⟩:=W.dget (D6.sm _ _ hd) (fd0.keep fun _ _ e=>D6.sm _ _ e) (.beg r ρ.2.1.length i (i + m)) hp3;refine⟨_,rfl,d,x1,rfl,g1,_,rfl,?_⟩;rcases c1 with ⟨rfl,n1⟩ |⟨u1,rfl,a1,hu1⟩
    ·refine ZU ?_;exact⟨own,kv5,ks5,kvh,_,_,_,_,_,_,rfl,dle (D6.skip hρ fun z=>n1 ((a0 _ (YJP _)).mpr (by omega))),hpg⟩
    ·have hf:rch S.s ρ.2.1=ρ.2.1.length:=Nat.le_antisymm (J2 _ _) ((a0 _ (YJP _)).mp a1);have hkl:kvh.length < sizeLine:=YJY (show kvh.length < 1000 by have:=D6.hi.len;omega) (YG (YJP _));refine Zo ⟨_,rfl,hh,rfl,.inl ⟨kvh,.inl D6.hh⟩,_,rfl,YJw _,fun al hal=>?_⟩;have s7:=YL.upd (o:=.lst []) hal;refine⟨kvh,.inr ρ.1,s7 _ _ D6.hh,rfl,hkl,fun v hv=>?_,fun hv=>?_⟩
     ·have D7:=D6.same s7;obtain⟨al',ts,zs,w1,w2,w3,w4,w5,w6,_⟩:∃(al:Addr) (ts:List Addr) (xs:List Int),_:=(D7.hi.at_ ρ.1).resolve_left fun z=>by rw[hv]at z;cases z.1
      rw[hv]at w1;cases w1;refine⟨.inl ⟨rfl,_,SqL.of w3⟩,_,rfl,_,rfl,_,rfl,pp,_,rfl,.inr (SqT.of (D7.sm _ _ hpp)),YG (by show 2≤1000;decide),fun tk2 htk2=>?_⟩;have s8:=YL.upd (o:=.tup [.int (r:Int),.int ((ρ.2.1.map V.str).length:Int)]) htk2;refine⟨_,rfl,tk2,sp,_,_,rfl,rfl,YD,s8 _ _ (D7.sm _ _ hsp),YG (by show 4≤1000;decide),fun p4 H9 s9 _ _ hp4=>?_⟩;rw[YJL]at hp4;have D9:=D7.same (s8.trans s9);obtain⟨x2,g2,c2⟩:=W.dget (D9.sm _ _ hd) (fd0.keep fun _ _ e=>D9.sm _ _ e) (.beg r ρ.2.1.length i (i + m)) hp4;rcases c2 with ⟨rfl,n2⟩ |⟨u2,rfl,a2,hu2⟩
      ·exact absurd a1 n2
      have w9:=s9 _ _ (s8 _ _ w3);refine⟨d,_,rfl,g2,al',_,_,rfl,rfl,w9,YJY (show(ts.map V.ref).length < 1000 by rw[YJL];omega) (YG (YJP _)),?_⟩;exact⟨own,kv5,ks5,kvh,_,_,_,_,_,_,rfl,dle (D9.more hρ hf hv w9 hu2),hpg⟩
     ·have sN:YL H (upd (upd H6 al (.lst [])) hh (.dK (Ys kvh (.inr ρ.1) (.ref al)))):=(D6.sm.trans s7).put hhh0;have nah:al≠hh:=fun z=>by rw[z,D6.hh]at hal;cases hal
      have wN:upd (upd H6 al (.lst [])) hh (.dK (Ys kvh (.inr ρ.1) (.ref al))) al=some (.lst []):=by rw[YH nah];exact YD
      refine⟨.inl ⟨rfl,_,SqL.of wN⟩,_,rfl,_,rfl,_,rfl,pp,_,rfl,.inr (SqT.of (sN _ _ hpp)),YG (by show 2≤1000;decide),fun tk2 htk2=>?_⟩;have s8:=YL.upd (o:=.tup [.int (r:Int),.int ((ρ.2.1.map V.str).length:Int)]) htk2;refine⟨_,rfl,tk2,sp,_,_,rfl,rfl,YD,s8 _ _ (sN _ _ hsp),YG (by show 4≤1000;decide),fun p4 H9 s9 _ _ hp4=>?_⟩;rw[YJL]at hp4;have sM:=s8.trans s9;have s09:=sN.trans sM;obtain⟨x2,g2,c2⟩:=W.dget (s09 _ _ hd) (fd0.keep fun _ _ e=>s09 _ _ e) (.beg r ρ.2.1.length i (i + m)) hp4;rcases c2 with ⟨rfl,n2⟩ |⟨u2,rfl,a2,hu2⟩
      ·exact absurd a1 n2
      refine⟨d,_,rfl,g2,al,_,_,rfl,rfl,sM _ _ wN,YJY (show 0 < 1000 by decide) (YG (YJP _)),?_⟩;exact⟨_,kv5,ks5,_,_,_,_,_,_,_,rfl,dle (D6.new hhh0 hρ hf hv hal sM hu2),hpg⟩
  ·rintro σ H' ⟨own,kvD,ks,kvh,v8,v9,v10,v11,v12,v13,rfl,D1,P1⟩;have hrg:((g.length:Nat):Int).toNat=g.length:=by omega
   rw[hrg]at D1 P1;refine⟨_,rfl,hh,kvh,rfl,D1.hh,fun oh=>?_⟩;have kt0:ZN H' (upd H' hh (.frz oh (.dK kvh))):=ZN.upd D1.hh fun ys z=>nomatch z
   have hkl:=D1.hi.len;refine YAb (d:=hh) (o:=oh) (kvs:=kvh) (fun j σ H2=>∃(kvD:List (List Key×V)) (ks:List Nd) (v8 v9 v10 v11 v12 v13:Option V),σ=[some (.ref lg),some (.ref d),some (.str t),some (.ref ct),some (.ref sp),some (.ref dd),some (.str th),some (.ref hh),v8,v9,v10,v11,v12,v13]∧YL H H2∧H2 dd=some (.dT kvD)∧H2 hh=some (.frz oh (.dK kvh))∧Du S ps O FF (i,i + m) H2 kvD ks∧HdI g S.s FF (i,i + m) H H2 own kvh g.length∧ks.length≤13 * g.length + j∧Pg g (i,i + m) g.length ks∧
     ∀(j':Nat) (kv:Key×V) (h:Str),j' < j→kvh[j']?=some kv→kv.1=.inr h→Nd.part h i (i + m)∈ks)
    ⟨kvD,ks,_,_,_,_,_,_,rfl,D1.sm.put hhh0,?_,YD,D1.du.keep kt0,D1.hi.keep kt0 (fun al z e=>?_),D1.ln,P1,fun j' kv h l=>nomatch l⟩ (fun j σ H2 _ ⟨_,_,_,_,_,_,_,_,_,_,_,z,_⟩=>z) ?_ ?_
   ·rw[YH nd];exact D1.hd
   ·obtain⟨_,xs,ex⟩:=D1.hi.fr al z e;exact YH fun z=>by rw[z,D1.hh]at ex;cases ex
   ·rintro j kv σ H2 hkv ⟨kv2,ks2,v8,v9,v10,v11,v12,v13,rfl,s2,hd2,hh2,du2,hi2,ln2,P2,F2⟩;have hkm:=YJS hkv;obtain⟨h,ekv⟩:=hi2.str kv hkm;obtain⟨kv,v⟩:=kv;dsimp only at ekv;subst ekv;have hjl:=(YJM.mp hkv).1;obtain⟨al,ts,zs,w1,w2,w3,w4,w5,w6,w7,w8⟩:∃(al:Addr) (ts:List Addr) (xs:List Int),_:=(hi2.at_ h).resolve_left fun z=>by
     have:=Zm (Sum.inr h:Key) kvh;rw[z.1]at this;exact absurd (YKx.mpr ⟨_,hkm,YJU rfl⟩) (by rw[this];decide)
    have w8':∀y,y∈zs↔∃(r:Nat) (ρ:Y2),g[r]?=some ρ∧ρ.1=h∧rch S.s ρ.2.1=ρ.2.1.length∧y=FF r ρ.2.1.length i m:=fun y=>by
     rw[w8 y];have e:i + m - i=m:=YKe ..;dsimp only;rw[e];exact⟨fun⟨r,ρ,_,z⟩=>⟨r,ρ,z⟩,fun⟨r,ρ,z,z'⟩=>⟨r,ρ,(YJM.mp z).1,z,z'⟩⟩
    refine⟨_,rfl,_,rfl,hh,_,rfl,.inl ⟨kvh,.inr h,.inr ⟨oh,hh2⟩,rfl,w1.symm⟩,al,ts,zs.map pr,rfl,SqL.of w3,⟨by rw[YJL,w5],fun j' t' y e1 e2=>?_⟩,w4,fun j' t' y e1 e2 hmin=>?_⟩
    ·rw[YJQ]at e2;cases hz:zs[j']? with
     |none=>rw[hz]at e2;cases e2
     |some x=>
      rw[hz]at e2;cases e2;exact SqT.of (w7 j' t' x e1 hz)
    ·rw[YJQ]at e2;cases hz:zs[j']? with
     |none=>rw[hz]at e2;cases e2
     |some x=>
      rw[hz]at e2;cases e2;have hxm:=YJS hz;obtain⟨r0,ρ0,hr0,e0,_⟩:=(w8' x).mp hxm;have hq:isQ h=false:=by rw[←e0];exact Xf (JS hg (YJS hr0)).1
      obtain⟨hps,ex⟩:=W.leastH hb hq him w8' hxm fun y hy=>hmin _ (YJh.mpr ⟨y,hy,rfl⟩)
      refine⟨_,rfl,_,rfl,YG (by show 1≤1000;decide),fun tk htk=>?_⟩;have s3:=YL.upd (o:=.tup [.str h]) htk;refine⟨_,rfl,tk,sp,_,_,rfl,rfl,YD,s3 _ _ (s2 _ _ hsp),YG (by show 3≤1000;decide),fun p3 H4 s4 _ _ hp3=>?_⟩;have s24:=s3.trans s4;have hd4:=s24 _ _ hd2;have hh4:=s24 _ _ hh2;have ht4:=s24 _ _ (w7 j' t' x e1 hz);have hap:X5 S ps (.part h i (i + m)):=by
       show h∈ps∧i≤i + m∧i + m≤S.n;rw[W.en];exact⟨hps,by omega,him⟩
      have kt:ZN H4 (upd H4 dd (.dT (Ys kv2 (ZE (.part h i (i + m))) (.ref t')))):=ZN.upd hd4 fun ys z=>nomatch z
      have kt2:=(ZN.of s24).trans kt;rw[ex]at ht4;obtain⟨ks3,du3,in3,sub3,len3⟩:=du2.put kt2 (n:=.part h i (i + m)) (v:=.ref t') (.inr ⟨t',rfl,hap,kt _ _ ht4⟩) rfl;have nkv:kv2.length < sizeLine:=YJY (show kv2.length < 1000 by have:=du2.len;omega) (YG (YJP _));refine⟨dd,_,rfl,.inr ⟨kv2,ZE (.part h i (i + m)),p3,hd4,rfl,hp3,nkv,rfl⟩,?_⟩;refine⟨_,ks3,_,_,_,_,_,_,rfl,(s2.trans s24).put hdd,YD,?_,du3,hi2.keep kt2 (fun al' z e=>?_),by omega,(fun r' ρ' l e=>⟨fun e' he'=>sub3 _ ((P2 r' ρ' l e).1 e' he'),fun p hp hq=>sub3 _ ((P2 r' ρ' l e).2 p hp hq)⟩),fun j2 kv2 h2 l e e'=>?_⟩
      ·rw[YH nd.symm];exact hh4
      ·obtain⟨_,xs,ex⟩:=hi2.fr al' z e;rw[ex,YH fun z=>by rw[z,hd2]at ex;cases ex];exact s24 _ _ ex
      ·rcases YJr j2 j with hl |hl
       ·exact sub3 _ (F2 j2 kv2 h2 hl e e')
       ·have ej:j2=j:=by omega
        subst ej;rw[hkv]at e;cases e;cases e';exact in3
   ·rintro σ H2 ⟨kv2,ks2,v8,v9,v10,v11,v12,v13,rfl,s2,hd2,hh2,du2,hi2,ln2,P2,F2⟩;refine⟨_,rfl,dd,kv2,hd2,fun o'=>q dd o' kv2 ks2 _ (s2.put hdd) YD (du2.keep (ZN.upd hd2 fun ys z=>nomatch z)) fun n hn hsn=>?_⟩;cases n with
    |beg r e i' j'=>
     cases hsn;obtain⟨⟨ρ,hρ,he⟩,_⟩:=hn;rw[W.eg]at hρ;exact(P2 r ρ (YJM.mp hρ).1 hρ).1 e (YJt he (J2 _ _))
    |part p i' j'=>
     cases hsn;obtain⟨hp,_⟩:=hn;cases hq:isQ p with
     |true=>
      obtain⟨ρ,hρ,hpp⟩:=W.po.2.2.2.2 p hp hq;obtain⟨r,hr⟩:=YKH hρ;exact(P2 r ρ (YJM.mp hr).1 hr).2 p hpp hq
     |false=>
      obtain⟨ρ,hρ,e1,e2⟩:=(W.head hq).mp hp;obtain⟨r,hr⟩:=YKH hρ;rcases hi2.at_ p with ⟨_,z⟩ |⟨al,ts,zs,w1,_⟩
      ·exact absurd e2 (z r ρ (YJM.mp hr).1 hr e1)
      ·have:=Zm (Sum.inr p:Key) kvh;rw[w1]at this;obtain⟨kv,h1,h2⟩:=YKx.mp this;obtain⟨j,hj⟩:=YKH h1;exact F2 j kv p (YJM.mp hj).1 hj (YJm h2)
end
def dnN (I J:Nat) (n:Nd):Bool:=decide ((XM n).1 < I∨((XM n).1=I∧(XM n).2 < I + J))
theorem YDx (p q r:Nd→Bool):∀(L:List Nd),(∀n∈L,p n=(q n || r n))→(∀n∈L,q n=true→r n=false)→(L.filter p).length=(L.filter q).length + (L.filter r).length
 |[],_,_=>rfl
 |n :: L,h1,h2=>by
  have ih:=YDx p q r L (fun x hx=>h1 x (YJf _ hx)) fun x hx=>h2 x (YJf _ hx)
  have e:=h1 n (YJp ..);have e2:=h2 n (YJp ..);rw[YKd,YKd,YKd,e];cases hq:q n with
  |true=>
   rw[e2 hq];simp only[Bool.true_or,if_true,YK1,if_false,YJn,ih];omega
  |false=>
   cases r n with
   |true=>
    simp only[YKY,if_true,YK1,if_false,YJn,ih];omega
   |false=>
    simp only[YKY,YK1,if_false,ih]
theorem YJG {L ks:List Nd} (nL:L.Nodup) (nk:ks.Nodup) (s:Nat×Nat) (h1:∀n∈ks,XM n=s) (h2:∀n∈L,XM n=s→n∈ks):(ks.filter fun n=>decide (n∈L)).length=(L.filter fun n=>decide (XM n=s)).length:=
 Nat.le_antisymm (YAQ (nk.filter _) fun x hx=>by
   obtain⟨a,b⟩:=YK7.mp hx;exact YK7.mpr ⟨YJm b,YJU (h1 x a)⟩)
  (YAQ (nL.filter _) fun x hx=>by
   obtain⟨a,b⟩:=YK7.mp hx;exact YK7.mpr ⟨h2 x a (YJm b),YJU a⟩)
theorem YJH {L:List Nd} (I J:Nat):(L.filter (dnN I (J + 1))).length=(L.filter (dnN I J)).length + (L.filter fun n=>decide (XM n=(I,I + J))).length:=by
 refine YDx _ _ _ L (fun n _=>?_) fun n _ h=>?_
 ·unfold dnN;rw[←Bool.decide_or];refine decide_eq_decide.mpr ?_;rw[Prod.ext_iff];dsimp only;omega
 ·have h:=YJm h;refine YJV fun e=>?_
  rw[e]at h;dsimp only at h;omega
theorem YJI {L ks:List Nd}{j:Nat}{n:Nd} (h:ks[j]?=some n):((ks.take (j + 1)).filter fun n=>decide (n∈L)).length=((ks.take j).filter fun n=>decide (n∈L)).length + (if n∈L then 1 else 0):=by
 rw[List.take_succ,h,List.filter_append,YJd];congr 1;show([n].filter _).length=_;rw[YKd]
 by_cases c:n∈L
 ·rw[if_pos (YJU c),if_pos c];rfl
 ·rw[if_neg (by rw[YJV c];decide),if_neg c];rfl
theorem YJJ {K:W.Frag}:PySem.W.kitOne K (.type "dict") (.type "dict")=some true:=by kernel_rfl
theorem YEX {x y:Int}:(D.tup [.int x,.int y]).ok=true:=by
 unfold D.ok;rfl
theorem YJK {x y:Int}:(D.tup [.int x,.int y]).dep≤64:=by
 simp[D.dep,depS]
section
variable {P:Program}{w:World}{K:W.Frag}{mg:Str→Option Value}{base:Heap}{C:Adr}
theorem JV:YV ["_law_script","_law_grammar_here","_law_signs_here","_law_costs_here","_law_found","_law_node","_law_count","_law_i","_law_j","_law_dues_here"] ["_law_script"] (YJ YBI):=⟨rfl,rfl,rfl,by decide +kernel,rfl,by decide +kernel,by decide +kernel⟩
theorem ok_law {f:Addr}{fd:FuncData} (F:Fun K "law" "law" YBI f fd) (T:Txt K mg C) (U__law_grammar:ZO P w K mg CX0 3 "_law_grammar" ["_law_script"] (YJD K)) (U__law_text:ZO P w K mg CX0 3 "_law_text" ["_law_script"] (YFp K)) (U__law_costs:ZO P w K mg CX0 2 "_law_costs" ["_law_script"] (YDs K)) (U_tolls:ZO P w K mg (CXo P w) 9 "tolls" ["grammar","text","costs"] (YHA)) (U__law_mixed:ZO P w K mg CX0 2 "_law_mixed" ["_law_script","_law_k"] (YB5 K)) (U__law_pair:ZO P w K mg CX0 2 "_law_pair" ["_law_found"] (YFq)) (U__law_dues:ZO P w K mg CX0 2 "_law_dues" ["_law_grammar_here","_law_found","_law_signs_here","_law_costs_here","_law_span"] (YJF)):Yr P w K mg base CX0 11 f fd ["_law_script"] (YEw K):=by
 obtain⟨f__law_grammar,fd__law_grammar,G__law_grammar,m__law_grammar,k__law_grammar,b__law_grammar⟩:=U__law_grammar.ok;obtain⟨f__law_text,fd__law_text,G__law_text,m__law_text,k__law_text,b__law_text⟩:=U__law_text.ok;obtain⟨f__law_costs,fd__law_costs,G__law_costs,m__law_costs,k__law_costs,b__law_costs⟩:=U__law_costs.ok;obtain⟨f_tolls,fd_tolls,G_tolls,m_tolls,k_tolls,b_tolls⟩:=U_tolls.ok;obtain⟨f__law_mixed,fd__law_mixed,G__law_mixed,m__law_mixed,k__law_mixed,b__law_mixed⟩:=U__law_mixed.ok;obtain⟨f__law_pair,fd__law_pair,G__law_pair,m__law_pair,k__law_pair,b__law_pair⟩:=U__law_pair.ok;obtain⟨f__law_dues,fd__law_dues,G__law_dues,m__law_dues,k__law_dues,b__law_dues⟩:=U__law_dues.ok;refine F.ok JV (fun vs H Q E h=>?_) (fun cdv A outer s H vs Q E hr h=>?_)
 ·cases h;subst_vars;rfl
 ·obtain⟨a,ns,rfl,hS,hn,hp,q⟩:=h;have hu:=Jd hr;have hU:=hr.units;refine⟨_,(YE (YM (i:=1) JV.nd rfl (Or.inl rfl) (YU (G__law_grammar base) (hr.mono (by decide)) (by rfl) m__law_grammar k__law_grammar b__law_grammar .nil Yf (YA (pv 0) YB)))
   (YE (ZB (Y1 X9 (YI Ym (YU (G__law_mixed base) (hr.mono (by decide)) (by rfl) m__law_mixed k__law_mixed b__law_mixed .nil Yf (YA (pv 0) (YA YC YB))) YC) YC (Yv _)) (YF (YM (i:=1) JV.nd rfl (Or.inl rfl) (Zd (Je K rfl) (pv 1) (ZP YC) XG))) Yg)
   (YE (YM (i:=2) JV.nd rfl (Or.inl rfl) (YU (G__law_text base) (hr.mono (by decide)) (by rfl) m__law_text k__law_text b__law_text .nil Yf (YA (pv 0) YB)))
   (YE (YM (i:=3) JV.nd rfl (Or.inl rfl) (YU (G__law_costs base) (hr.mono (by decide)) (by rfl) m__law_costs k__law_costs b__law_costs .nil Yf (YA (pv 0) YB)))
   (YE (YM (i:=4) JV.nd rfl (Or.inl rfl) (YU (G_tolls base) (hr.mono (by decide)) (by rfl) m_tolls k_tolls b_tolls .nil passX (YA (Jt (YAk K rfl) (by rfl) T.z_list YKU (YA (pv 1) YB)) (YA (pv 2) (YA (pv 3) YB)))))
   (YE (ZB (JL (Zi (YK (YHj K rfl) (by rfl) T.z_isinstance YJl (YA (pv 4) (YA (Zr (v:=.ty "dict") (by rfl) T.z_dict PyProof.Rows.Boot.«dict» rfl) YB))))) (YF (YX Ja)) Yg)
   (YE (Yi PassesOwn.never rfl (YE6 (pv 4)) (YN (i:=5) JV.nd rfl (Or.inl rfl)) (YF (ZB (JL (Zi (YU (G__law_pair base) (hr.mono (by decide)) (by rfl) m__law_pair k__law_pair b__law_pair .nil Yf (YA (ZK hu (pv 4) (pv 5) (fun _ _=>rfl)) YB)))) (YF (YX Ja)) Yg)))
   (YE (YM (i:=6) JV.nd rfl (Or.inl rfl) YC)
   (YE (Yi PassesOwn.never rfl (Yt rfl T.z_range (YA (YI Yb (YK Yq (by rfl) T.z_len YJT (YA (pv 2) YB)) YC) YB)) (YN (i:=7) JV.nd rfl (Or.inl rfl)) (YF (Yi PassesOwn.never rfl (XS rfl T.z_range (YA (pv 7) (YA (YI Yb (YK Yq (by rfl) T.z_len YJT (YA (pv 2) YB)) YC) YB))) (YN (i:=8) JV.nd rfl (Or.inl rfl)) (YE (YM (i:=9) JV.nd rfl (Or.inl rfl) (YU (G__law_dues base) (hr.mono (by decide)) (by rfl) m__law_dues k__law_dues b__law_dues .nil Yf (ZI (pv 1) (ZI (pv 4) (ZI (pv 2) (ZI (pv 3) (ZI (ZW (YA (pv 7) (YA (pv 8) YB))) YB)))))))
   (YF (Yi PassesOwn.never rfl (YE6 (pv 9)) (YN (i:=5) JV.nd rfl (Or.inl rfl)) (YE (ZB (Y1 (YF4 K rfl hU) (YEm hu (pv 4) (pv 5) ⟨rfl,rfl,rfl,rfl⟩) (ZK hu (pv 9) (pv 5) (fun _ _=>rfl)) (Yv _)) (YF (YX Ja)) Yg)
   (YF (YM (i:=6) JV.nd rfl (Or.inl rfl) (YI Yb (pv 6) (Jt YDB (by rfl) T.z_int YKn (YA (JW YD1 (ZK hu (pv 9) (pv 5) (fun _ _=>rfl)) X6 (Yv _)) YB))))))))))))
   (YF (YX (JW X9 (pv 6) (YK YHn (by rfl) T.z_len YJT (YA (pv 4) YB)) (Yv _))))))))))))),?_⟩
  refine⟨_,rfl,a,ns,rfl,hS,hp,fun lg xs g hs H1 g6 g1 h3 hR s1 p1 hlg0 hlg hds=>?_⟩
  with_reducible refine YEP (fun σ' H'=>∃(lg:Addr) (xs:List V) (g:ZF),σ'=[some (.ref a),some (.ref lg),none,none,none,none,none,none,none,none]∧H' lg=some (.lst xs)∧Yd (del H' lg) xs (g.map Zf)∧g.length≤6∧(∀r∈g,R72 hs r)∧YL H H'∧YS H') ?_ fun restK=>?_
  ·rintro σ' H2 ⟨lg,xs,g,rfl,hlg,hds,g6,hR,s2,p2⟩;have hg:ZT g=true:=by
    unfold ZT;rw[YJU (show g.length≤60 by omega),Bool.true_and,YJ6];exact fun r hr=>(hR r hr).1
   refine⟨_,rfl,a,ns,rfl,s2.seq hS,hn,p2,fun t H3 ht ht4 s3 p3=>?_⟩;refine⟨_,rfl,a,ns,rfl,(s2.trans s3).seq hS,p3,fun ct ca cb cc H4 ha hb hc s4 p4 hct=>?_⟩;have s24:=s3.trans s4;have hlg4:=s24 _ _ hlg;refine⟨_,rfl,lg,_,rfl,.inl (SqL.of hlg4),fun lg2 hlg2=>?_⟩;have s5:=YL.upd (o:=.lst xs) hlg2;have p5:YS (upd H4 lg2 (.lst xs)):=p4.upd rfl;have hl5:upd H4 lg2 (.lst xs) lg2=some (.lst xs):=YD;revert s5 p5 hl5;generalize upd H4 lg2 (.lst xs)=H5;intro s5 p5 hl5;have s25:=s24.trans s5;have hds5:Yd H5 xs (g.map Zf):=(hds.same (fun x o e=>Zy _ _ _ _ e)).same s25;refine⟨_,rfl,_,rfl,.ref lg2,.str t,ct,g,t,ca,cb,cc,rfl,.lst (.inl hl5) hds5,YGA hg,hg,rfl,ht,s5 _ _ hct,ha,hb,hc,p5,fun d o kvs fs S ps O FF H6 s6 p6 hd fdT W=>?_⟩;have hs3:S.s.length≤3:=W.small h3 fun ρ hρ=>(hR ρ hρ).2.2
   refine⟨_,rfl,.inr ⟨d,o,kvs,_,_,_,rfl,hd,rfl,YJJ,_,rfl,ZU ?_⟩⟩;have hb0:=hb.1;have hallp:∀n,n∈fs.map (·.1)↔X5 S ps n:=W.fp.mem;refine⟨_,rfl,d,o,kvs,rfl,hd,?_⟩;refine YDb (d:=d) (o:=o) (kvs:=kvs) (fun j σ H'=>∃v5:Option V,σ=[some (.ref a),some (.ref lg),some (.str t),some (.ref ct),some (.ref d),v5,none,none,none,none]∧YL H6 H') ⟨none,rfl,YL.refl _⟩ (fun j σ H' _ ⟨_,_,s⟩=>s _ _ hd) ?_ ?_
   ·rintro j kv b σ H7 hkv hb7 ⟨v5,rfl,s7⟩;have hjl:=(YJM.mp hkv).1;obtain⟨x,hx⟩:∃x,fs[j]?=some x:=⟨_,YJR (by rw[←fdT.1];exact hjl)⟩;obtain⟨tt,ekv,htt⟩:=fdT.2 j kv x hkv hx;subst ekv;have hxm:=YJS hx;have hxa:X5 S ps x.1:=(hallp x.1).mp (YJh.mpr ⟨x,hxm,rfl⟩);have hnn:=W.nonneg hb0 hxa;rw[←W.fp.val x hxm]at hnn;obtain⟨y,gy,cy⟩:=W.dget (s7 _ _ hd) (fdT.keep fun _ _ e=>s7 _ _ e) x.1 hb7;rcases cy with ⟨_,n⟩ |⟨u,rfl,_,hu7⟩
    ·exact absurd hxa n
    rw[←W.fp.val x hxm]at hu7;refine⟨_,rfl,_,rfl,d,_,rfl,gy,u,_,_,rfl,hu7,Int.ediv_nonneg hnn (YKv Zb),YJ7 _ (YKt Zb),_,rfl,ZU ?_⟩;exact⟨_,rfl,s7⟩
   ·rintro σ H7 ⟨v5,rfl,s7⟩;have s27:=s25.trans (s6.trans s7);have hlg7:=s27 _ _ hlg;have hd7:=s7 _ _ hd;have hct7:=s7 _ _ (s6 _ _ (s5 _ _ hct));have hds7:Yd (del H7 lg) xs (g.map Zf):=hds.same (s27.del lg);have fd7:FdT H7 kvs fs:=fdT.keep fun _ _ e=>s7 _ _ e
    have hlt:t.length≤sizeLine:=YG (by omega);have hnodes:∀n∈fs.map (·.1),(XM n).1≤(XM n).2∧(XM n).2≤t.length:=fun n hn=>by
     have h:=(hallp n).mp hn;cases n with
     |part p i j=>exact⟨h.2.1,by have:=h.2.2;rw[W.en]at this;exact this⟩
     |beg r e i j=>exact⟨h.2.1,by have:=h.2.2;rw[W.en]at this;exact this⟩
    refine⟨_,rfl,t,rfl,hlt,_,_,rfl,rfl,(t.length:Int) + 1,rfl,(in62 (by omega) (by omega)).1,(in62 (by omega) (by omega)).2,?_⟩;refine Y0 (lo:=0) (n:=((t.length:Int) + 1).toNat) (fun I σ H8=>∃(v5 v7 v8 v9:Option V),σ=[some (.ref a),some (.ref lg),some (.str t),some (.ref ct),some (.ref d),v5,some (.int (((fs.map (·.1)).filter (dnN I 0)).length:Int)),v7,v8,v9]∧YL H7 H8) ⟨v5,none,none,none,?_,YL.refl _⟩ ?_ ?_
    ·have e:(fs.map (·.1)).filter (dnN 0 0)=[]:=List.filter_eq_nil_iff.mpr fun n _=>by
      unfold dnN;rw[YJV (by omega)];decide
     rw[e];rfl
    ·rintro I σ H8 hI ⟨v5,v7,v8,v9,rfl,s8⟩;have hIt:I≤t.length:=by omega
     rw[YKP];refine⟨_,rfl,_,rfl,t,rfl,hlt,_,_,rfl,rfl,(I:Int),(t.length:Int) + 1,rfl,⟨(in62 (by omega) (by omega)).1,(in62 (by omega) (by omega)).2,(in62 (by omega) (by omega)).1,(in62 (by omega) (by omega)).2⟩,?_⟩;refine Y0 (lo:=(I:Int)) (n:=((t.length:Int) + 1 - (I:Int)).toNat) (fun J σ H9=>∃(v5 v8 v9:Option V),σ=[some (.ref a),some (.ref lg),some (.str t),some (.ref ct),some (.ref d),v5,some (.int (((fs.map (·.1)).filter (dnN I J)).length:Int)),some (.int (I:Int)),v8,v9]∧YL H7 H9) ⟨_,_,_,rfl,s8⟩ ?_ ?_
     ·rintro J σ H9 hJ ⟨v5,v8,v9,rfl,s9⟩;have hJt:I + J≤t.length:=by omega
      rw[show(I:Int) + (J:Int)=((I + J:Nat):Int) by omega];refine⟨_,rfl,_,rfl,_,rfl,_,rfl,_,rfl,_,rfl,YG (by show 2≤1000;decide),fun sp hsp=>?_⟩;have sA:=s9.trans (YL.upd (o:=.tup [.int (I:Int),.int ((I + J:Nat):Int)]) hsp);refine⟨lg,d,ct,sp,o,xs,kvs,g,t,ca,cb,cc,S,ps,O,FF,fs,I,J,rfl,sA _ _ hlg7,hds7.same (sA.del lg),hg,g6,sA _ _ hd7,fd7.keep (fun _ _ e=>sA _ _ e),W,hb0,ht4,hs3,sA _ _ hct7,YD,hJt,fun dd o' kvD ks HA sB hdd du comp=>?_⟩;have s7A:=sA.trans sB;have hLn:(fs.map (·.1)).Nodup:=W.fp.nd;refine⟨_,rfl,dd,o',kvD,rfl,hdd,?_⟩;refine YDb (d:=dd) (o:=o') (kvs:=kvD) (fun j σ HB=>∃v5:Option V,σ=[some (.ref a),some (.ref lg),some (.str t),some (.ref ct),some (.ref d),v5,some (.int ((((fs.map (·.1)).filter (dnN I J)).length:Int) + (((ks.take j).filter fun n=>decide (n∈fs.map (·.1))).length:Int))),some (.int (I:Int)),some (.int ((I + J:Nat):Int)),some (.ref dd)]∧YL HA HB)
       ⟨v5,by
        have e:(((fs.map (·.1)).filter (dnN I J)).length:Int) + (((ks.take 0).filter fun n=>decide (n∈fs.map (·.1))).length:Int)=(((fs.map (·.1)).filter (dnN I J)).length:Int):=Int.add_zero _;rw[e];rfl,YL.refl _⟩ (fun j σ HB _ ⟨_,_,s⟩=>s _ _ hdd) ?_ ?_
      ·rintro j kv bb σ HB hkv hbb ⟨v5,rfl,sC⟩;have hjl:=(YJM.mp hkv).1;obtain⟨n,hn⟩:∃n,ks[j]?=some n:=⟨_,YJR (by rw[←du.len];exact hjl)⟩;have ek:kv.1=ZE n:=by
        have h1:(kvD.map (·.1))[j]?=some kv.1:=by rw[YJQ,hkv];rfl
        rw[du.keys,YJQ,hn]at h1;exact(YJk h1).symm
       rw[ek]at hbb;have hnm:=YJS hn;obtain⟨v,hv,dv⟩:=du.val n hnm;have s7C:=s7A.trans sC;obtain⟨y,gy,cy⟩:=W.dget (s7C _ _ hd7) (fd7.keep fun _ _ e=>s7C _ _ e) n hbb;have gd:Jw HB dd (.ref bb) (some v):=.inr ⟨kvD,ZE n,bb,.inr ⟨o',sC _ _ hdd⟩,rfl,hbb,hv.symm⟩;have isd:IsD HB d:=.inr ⟨kvs,.inr ⟨o,s7C _ _ hd7⟩⟩;have fin:∀(c:Bool),(v=.non↔c=false)→(n∈fs.map (·.1)↔c=true)→∃v5:Option V,[some (V.ref a),some (.ref lg),some (.str t),some (.ref ct),some (.ref d),some (.ref bb),some (.int (((((fs.map (·.1)).filter (dnN I J)).length:Int) + (((ks.take j).filter fun n=>decide (n∈fs.map (·.1))).length:Int)) + (if (!decide (v=V.non))=true then 1 else 0))),some (.int (I:Int)),some (.int ((I + J:Nat):Int)),some (.ref dd)]=[some (V.ref a),some (.ref lg),some (.str t),some (.ref ct),some (.ref d),v5,some (.int ((((fs.map (·.1)).filter (dnN I J)).length:Int) + (((ks.take (j + 1)).filter fun n=>decide (n∈fs.map (·.1))).length:Int))),some (.int (I:Int)),some (.int ((I + J:Nat):Int)),some (.ref dd)]∧YL HA HB:=fun c h1 h2=>by
        refine⟨some (.ref bb),?_,sC⟩;have e1:(if (!decide (v=V.non))=true then (1:Int) else 0)=(((if n∈fs.map (·.1) then 1 else 0:Nat)):Int):=by
         cases c with
         |false=>
          have hn':¬n∈fs.map (·.1):=fun z=>by have:=h2.mp z;cases this
          rw[YJU (h1.mpr rfl),if_neg hn'];rfl
         |true=>
          rw[YJV (fun z=>by have:=h1.mp z;cases this),if_pos (h2.mpr rfl)];rfl
        have e2:∀(x y z:Nat),((x:Int) + (y:Int)) + (z:Int)=(x:Int) + ((y + z:Nat):Int):=fun x y z=>by omega
        rw[YJI hn,e1,e2]
       rcases dv with ⟨rfl,na⟩ |⟨u,rfl,al,hu⟩
       ·rcases cy with ⟨rfl,_⟩ |⟨_,_,na',_⟩
        ·refine⟨_,rfl,d,rfl,isd,_,rfl,none,gy,_,rfl,_,rfl,dd,_,rfl,gd,.non,.non,.non,.non,rfl,rfl,by decide,_,rfl,ZU ?_⟩;refine⟨_,rfl,_,rfl,_,rfl,dd,_,rfl,gd,rfl,.inr ⟨_,rfl,_,_,rfl,rfl,?_⟩⟩;exact fin false ⟨fun _=>rfl,fun _=>rfl⟩ ⟨fun z=>absurd ((hallp n).mp z) na,fun z=>nomatch z⟩
        ·exact absurd na' na
       ·rcases cy with ⟨_,na⟩ |⟨u',rfl,_,hu'⟩
        ·exact absurd al na
        ·have hu:=sC _ _ hu;refine⟨_,rfl,d,rfl,isd,_,rfl,some (.ref u'),gy,_,rfl,_,rfl,dd,_,rfl,gd,.tup [.int (pr (XR O FF n)).1,.int (pr (XR O FF n)).2],.tup [.int (pr (XR O FF n)).1,.int (pr (XR O FF n)).2],.tup hu' (.cons (.int _) (.cons (.int _) .nil)),.tup hu (.cons (.int _) (.cons (.int _) .nil)),YEX,YEX,YJK,_,rfl,?_⟩;rw[YCK _ YEX];refine ZU ?_;refine⟨_,rfl,_,rfl,_,rfl,dd,_,rfl,gd,rfl,.inr ⟨_,rfl,_,_,rfl,rfl,?_⟩⟩;exact fin true ⟨nofun,fun z=>nomatch z⟩ ⟨fun _=>rfl,fun _=>(hallp n).mpr al⟩
      ·rintro σ HB ⟨v5,rfl,sC⟩;refine⟨v5,some (.int ((I + J:Nat):Int)),some (.ref dd),?_,s7A.trans sC⟩;have e2:∀(x y z:Nat),z=x + y→(x:Int) + (y:Int)=(z:Int):=fun x y z h=>by omega
       rw[e2 _ _ ((fs.map (·.1)).filter (dnN I (J + 1))).length ?_];rw[YJH I J,←YJG hLn du.nd (I,I + J) du.span fun n hn hs=>comp n ((hallp n).mp hn) hs,YKM (by rw[du.len];exact YJP _)]
     ·rintro σ H9 ⟨v5,v8,v9,rfl,s9⟩;refine⟨v5,some (.int (I:Int)),v8,v9,?_,s9⟩;have e:(fs.map (·.1)).filter (dnN I ((t.length:Int) + 1 - (I:Int)).toNat)=(fs.map (·.1)).filter (dnN (I + 1) 0):=List.filter_congr fun n hn=>by
       have:=hnodes n hn;unfold dnN;refine decide_eq_decide.mpr ?_;omega
      rw[e]
    ·rintro σ H8 ⟨v5,v7,v8,v9,rfl,s8⟩;have e:(fs.map (·.1)).filter (dnN ((t.length:Int) + 1).toNat 0)=fs.map (·.1):=List.filter_eq_self.mpr fun n hn=>by
      have:=hnodes n hn;exact YJU (.inl (by omega))
     rw[e,YJL,←fdT.1];refine⟨_,rfl,_,rfl,d,kvs,rfl,.inr ⟨o,s8 _ _ hd7⟩,rfl,?_⟩;rw[YJU rfl];exact q _
  ·refine⟨_,rfl,a,ns,10,rfl,s1.seq hS,by decide,by decide,fun v _ _=>⟨_,_,rfl,rfl,(show(0:Int) < 3 by decide),rfl,_,rfl,?_⟩⟩;refine Jx (fun hb=>?_) fun hb=>?_
   ·refine⟨_,rfl,1,rfl,lg,_,rfl,SqL.of hlg,fun l2 hl2=>?_⟩;have ec:X3 xs (some 1) none=xs.drop 1:=by
     unfold X3;have e1:HT.sIx xs.length 0 (some (1:Int))=min 1 xs.length:=HT.sIx_nat _ _ 1;rw[e1];cases xs with
     |nil=>rfl
     |cons x xs=>
      rw[Nat.min_eq_left (show 1≤(x :: xs).length from Nat.succ_le_succ (YJw _))];exact YKM (YJP _)
    rw[ec];have sl:=YL.upd (o:=.lst (xs.drop 1)) hl2;refine restK _ _ ⟨l2,xs.drop 1,g.drop 1,rfl,YD,?_,by rw[YKT];omega,fun r hr=>hR r (List.mem_of_mem_drop hr),s1.trans sl,p1.upd rfl⟩;rw[Xk,YFW hl2,List.map_drop];exact(hds.same (fun x o e=>Zy _ _ _ _ e)).drop 1
   ·exact restK _ _ ⟨lg,xs,g,rfl,hlg,hds,g6,hR,s1,p1⟩
end
theorem all_mk {l:PySem.W.OpenLaw}{w:World}{K:W.Frag}{h:Heap}{mg:Str→Option Value}{fa c_NoGrammar c_NoText c_NoCosts c_Toller f0 f1 f2 f3 f4 f5 f6 f7 f8 f9 f10 f11 f12 f13 f14 f15 f16 f17 f18 f19 f20 f21 f22 f23 f24 f25 f26 f27 f28 f29 f30 f31 f32 f33 f34 f35 f36 f37 f38 f39 f40 f41 f42 f43:Addr} (X:K.In h) (G:h.Ns mainGlobals mg) (hfa:mg "law"=some (.ref fa))
  {od an:Option Addr}{sl:Array (Option Value)}{oc kV dc pm cd ct:Value}{tFIRST_CODE tLAST_CODE tPERCENT_CODE tMOST_LETTERS tMOST_PARTS tMOST_RULES tMOST_SIGNS:Tok}
  (nNoGrammar:PySem.W.nsIn K mainGlobals "NoGrammar"=some (some (.ref c_NoGrammar)))
  (nNoText:PySem.W.nsIn K mainGlobals "NoText"=some (some (.ref c_NoText)))
  (nNoCosts:PySem.W.nsIn K mainGlobals "NoCosts"=some (some (.ref c_NoCosts)))
  (nToller:PySem.W.nsIn K mainGlobals "Toller"=some (some (.ref c_Toller)))
  (d0:L2.Dn K "is_whole" f0)
  (l0:Ln K "is_whole" "is_whole" YAv f0)
  (d1:L2.Dn K "stands_in_texts" f1)
  (l1:Ln K "stands_in_texts" "stands_in_texts" JD f1)
  (d2:L2.Dn K "is_sign" f2)
  (l2:Ln K "is_sign" "is_sign" YBW f2)
  (d3:L2.Dn K "is_name" f3)
  (l3:Ln K "is_name" "is_name" YBX f3)
  (d4:L2.Dn K "is_part" f4)
  (l4:Ln K "is_part" "is_part" YBY f4)
  (d5:L2.Dn K "is_worth" f5)
  (l5:Ln K "is_worth" "is_worth" YAw f5)
  (d6:L2.Dn K "are_parts" f6)
  (l6:Ln K "are_parts" "are_parts" YAL f6)
  (d7:L2.Dn K "is_rule" f7)
  (l7:Ln K "is_rule" "is_rule" YBZ f7)
  (d8:L2.Dn K "is_grammar" f8)
  (l8:Ln K "is_grammar" "is_grammar" Xq f8)
  (d9:L2.Dn K "checked" f9)
  (l9:Ln K "checked" "checked" YBa f9)
  (d10:L2.Dn K "size_of_part" f10)
  (l10:Ln K "size_of_part" "size_of_part" J6 f10)
  (d11:L2.Dn K "size_of_rule" f11)
  (l11:Ln K "size_of_rule" "size_of_rule" J7 f11)
  (d12:L2.Dn K "least_sizes" f12)
  (l12:Ln K "least_sizes" "least_sizes" XO f12)
  (d13:L2.Dn K "is_text" f13)
  (l13:Ln K "is_text" "is_text" YBb f13)
  (d14:L2.Dn K "checked_text" f14)
  (l14:Ln K "checked_text" "checked_text" J5 f14)
  (d15:L2.Dn K "is_cost" f15)
  (l15:Ln K "is_cost" "is_cost" YBc f15)
  (d16:L2.Dn K "checked_costs" f16)
  (l16:Ln K "checked_costs" "checked_costs" Jl f16)
  (d17:An K c_Toller "sign_toll" f17)
  (l17:Ln K "sign_toll" "Toller.sign_toll" Z5 f17)
  (d18:An K c_Toller "sign_table" f18)
  (l18:Ln K "sign_table" "Toller.sign_table" ZQ f18)
  (d19:An K c_Toller "reach_of" f19)
  (l19:Ln K "reach_of" "Toller.reach_of" JF f19)
  (d20:An K c_Toller "lay_out" f20)
  (l20:Ln K "lay_out" "Toller.lay_out" JQ f20)
  (d21:An K c_Toller "__init__" f21)
  (l21:Ln K "__init__" "Toller.__init__" JE f21)
  (d22:An K c_Toller "inner_tolls" f22)
  (l22:Ln K "inner_tolls" "Toller.inner_tolls" Zp f22)
  (d23:An K c_Toller "line_of" f23)
  (l23:Ln K "line_of" "Toller.line_of" JR f23)
  (d24:An K c_Toller "lower_head" f24)
  (l24:Ln K "lower_head" "Toller.lower_head" Zw f24)
  (d25:An K c_Toller "take_span" f25)
  (l25:Ln K "take_span" "Toller.take_span" ZY f25)
  (d26:An K c_Toller "take_all" f26)
  (l26:Ln K "take_all" "Toller.take_all" JG f26)
  (d27:An K c_Toller "told_tolls" f27)
  (l27:Ln K "told_tolls" "Toller.told_tolls" Zx f27)
  (d28:L2.Dn K "tolls" f28)
  (l28:Ln K "tolls" "tolls" YEN f28)
  (d29:L2.Dn K "_law_cell_at" f29)
  (l29:Ln K "_law_cell_at" "_law_cell_at" XA f29)
  (d30:L2.Dn K "_law_mixed" f30)
  (l30:Ln K "_law_mixed" "_law_mixed" Xu f30)
  (d31:L2.Dn K "_law_signs" f31)
  (l31:Ln K "_law_signs" "_law_signs" Zc f31)
  (d32:L2.Dn K "_law_names" f32)
  (l32:Ln K "_law_names" "_law_names" JH f32)
  (d33:L2.Dn K "_law_worth" f33)
  (l33:Ln K "_law_worth" "_law_worth" Xv f33)
  (d34:L2.Dn K "_law_parts" f34)
  (l34:Ln K "_law_parts" "_law_parts" Xw f34)
  (d35:L2.Dn K "_law_grammar" f35)
  (l35:Ln K "_law_grammar" "_law_grammar" XB f35)
  (d36:L2.Dn K "_law_costs" f36)
  (l36:Ln K "_law_costs" "_law_costs" Js f36)
  (d37:L2.Dn K "_law_whole" f37)
  (l37:Ln K "_law_whole" "_law_whole" Xx f37)
  (d38:L2.Dn K "_law_text" f38)
  (l38:Ln K "_law_text" "_law_text" YAS f38)
  (d39:L2.Dn K "_law_pair" f39)
  (l39:Ln K "_law_pair" "_law_pair" YAT f39)
  (d40:L2.Dn K "_law_sign_due" f40)
  (l40:Ln K "_law_sign_due" "_law_sign_due" Jn f40)
  (d41:L2.Dn K "_law_split_due" f41)
  (l41:Ln K "_law_split_due" "_law_split_due" JT f41)
  (d42:L2.Dn K "_law_dues" f42)
  (l42:Ln K "_law_dues" "_law_dues" YAU f42)
  (d43:PySem.W.nsIn K mainGlobals "law"=some (some (.ref f43)))
  (l43:K.lookup f43=some ⟨oc,od,.func (PySem.W.fnOf "law" "law" (JY YBI) (Zs YBI) (YJ YBI) .none kV dc pm an cd ct),sl⟩)
  (c43:PySem.W.codeIn K cd "law"=true)
  (k43:PySem.W.keepIn K (.ref f43)=true)
  (iFIRST_CODE:PySem.W.nsIn K mainGlobals "FIRST_CODE"=some (some (.int 32 tFIRST_CODE)))
  (iLAST_CODE:PySem.W.nsIn K mainGlobals "LAST_CODE"=some (some (.int 126 tLAST_CODE)))
  (iPERCENT_CODE:PySem.W.nsIn K mainGlobals "PERCENT_CODE"=some (some (.int 37 tPERCENT_CODE)))
  (iMOST_LETTERS:PySem.W.nsIn K mainGlobals "MOST_LETTERS"=some (some (.int 8 tMOST_LETTERS)))
  (iMOST_PARTS:PySem.W.nsIn K mainGlobals "MOST_PARTS"=some (some (.int 6 tMOST_PARTS)))
  (iMOST_RULES:PySem.W.nsIn K mainGlobals "MOST_RULES"=some (some (.int 60 tMOST_RULES)))
  (iMOST_SIGNS:PySem.W.nsIn K mainGlobals "MOST_SIGNS"=some (some (.int 60 tMOST_SIGNS)))
  (zisinstance:Zn K "isinstance")
  (zint:Zn K "int")
  (zbool:Zn K "bool")
  (zord:Zn K "ord")
  (zstr:Zn K "str")
  (zlen:Zn K "len")
  (zall:Zn K "all")
  (ztuple:Zn K "tuple")
  (zlist:Zn K "list")
  (zmin:Zn K "min")
  (zrange:Zn K "range")
  (zzip:Zn K "zip")
  (zenumerate:Zn K "enumerate")
  (zreversed:Zn K "reversed")
  (zdivmod:Zn K "divmod")
  (zdict:Zn K "dict")
  (xNoGrammar:PySem.W.excIn K c_NoGrammar [.type "ValueError",.type "Exception",.type "BaseException",.type "object"] "ValueError.__new__"=true)
  (xNoText:PySem.W.excIn K c_NoText [.type "ValueError",.type "Exception",.type "BaseException",.type "object"] "ValueError.__new__"=true)
  (xNoCosts:PySem.W.excIn K c_NoCosts [.type "ValueError",.type "Exception",.type "BaseException",.type "object"] "ValueError.__new__"=true)
  (pgToller:PySem.W.plainGet K c_Toller Str.empty=true)
  (hdToller:PySem.W.hasDictIn K c_Toller=true)
  (poToller:PySem.W.plainOver K c_Toller=true)
  (saToller:PySem.W.findIn K (.ref c_Toller) "__setattr__"=some (some (.builtin "object.__setattr__")))
  (naToller_cut:On K c_Toller "cut")
  (naToller_put:On K c_Toller "put")
  (naToller_text:On K c_Toller "text")
  (naToller_swap:On K c_Toller "swap")
  (naToller_bare:On K c_Toller "bare")
  (naToller_over:On K c_Toller "over")
  (naToller_rules:On K c_Toller "rules")
  (naToller_first:On K c_Toller "first")
  (mkToller:PySem.W.makesIn K c_Toller=true)
  (kcToller:PySem.W.keepIn K (.ref c_Toller)=true):
  ∃fd:FuncData,(∀(s:Shared) (v:Value),BindsTo s fd ⟨[v],[]⟩ [("_law_script",v)])∧∀base:Heap,K.In base→base.Ns mainGlobals mg→Yr l.prog w K mg base CX0 11 fa fd ["_law_script"] (YEw K):=by
 have e:=hfa.symm.trans (PySem.W.mg_of X G d43);cases e;have m:=fun{x:Str}{v:Value} (h:PySem.W.nsIn K mainGlobals x=some (some v))=>PySem.W.mg_of X G h
 have n:=fun{x:Str}{f:Addr} (h:L2.Dn K x f)=>(PySem.W.mg_of X G h:mg x=some (.ref f))
 have z:=fun{x:Str} (h:Zn K x)=>PySem.W.mg_none_of X G h
 have T:Txt K mg ⟨c_NoGrammar,c_NoText,c_NoCosts,c_Toller,0⟩:=⟨z zisinstance,z zint,z zbool,z zord,z zstr,z zlen,z zall,z ztuple,z zlist,z zmin,z zrange,z zzip,z zenumerate,z zreversed,z zdivmod,z zdict,⟨_,m iFIRST_CODE⟩,⟨_,m iLAST_CODE⟩,⟨_,m iPERCENT_CODE⟩,⟨_,m iMOST_LETTERS⟩,⟨_,m iMOST_PARTS⟩,⟨_,m iMOST_RULES⟩,⟨_,m iMOST_SIGNS⟩,m nNoGrammar,m nNoText,m nNoCosts,m nToller,xNoGrammar,xNoText,xNoCosts,⟨pgToller,hdToller,poToller,saToller⟩,naToller_cut,naToller_put,naToller_text,naToller_swap,naToller_bare,naToller_over,naToller_rules,naToller_first⟩;have F43:=YIY (st:=YBI) l43 c43 k43;obtain⟨_,F0⟩:=l0.ex;have U_is_whole:=us l.prog w (n d0) F0 (fun _=>YFI F0 T) fun _ _ _ _ _ _=>bn 1 fun _=>rfl
 obtain⟨_,F1⟩:=l1.ex;have U_stands_in_texts:=us l.prog w (n d1) F1 (fun _=>YAx F1 T) fun _ _ _ _ _ _=>bn 1 fun _=>rfl
 obtain⟨_,F2⟩:=l2.ex;have U_is_sign:=us l.prog w (n d2) F2 (fun _=>YGO F2 T U_stands_in_texts) fun _ _ _ _ _ _=>bn 1 fun _=>rfl
 obtain⟨_,F3⟩:=l3.ex;have U_is_name:=us l.prog w (n d3) F3 (fun _=>YGQ F3 T) fun _ _ _ _ _ _=>bn 1 fun _=>rfl
 obtain⟨_,F4⟩:=l4.ex;have U_is_part:=us l.prog w (n d4) F4 (fun _=>YGS F4 T U_is_sign U_is_name) fun _ _ _ _ _ _=>bn 1 fun _=>rfl
 obtain⟨_,F5⟩:=l5.ex;have U_is_worth:=us l.prog w (n d5) F5 (fun _=>YFK F5 T U_is_whole) fun _ _ _ _ _ _=>bn 1 fun _=>rfl
 obtain⟨_,F6⟩:=l6.ex;have U_are_parts:=us l.prog w (n d6) F6 (fun _=>YEM F6 T U_is_part) fun _ _ _ _ _ _=>bn 1 fun _=>rfl
 obtain⟨_,F7⟩:=l7.ex;have U_is_rule:=us l.prog w (n d7) F7 (fun _=>YGU F7 T U_is_name U_are_parts U_is_worth) fun _ _ _ _ _ _=>bn 1 fun _=>rfl
 obtain⟨_,F8⟩:=l8.ex;have U_is_grammar:=us l.prog w (n d8) F8 (fun _=>YCx F8 T U_is_rule) fun _ _ _ _ _ _=>bn 1 fun _=>rfl
 obtain⟨_,F9⟩:=l9.ex;have U_checked:=us l.prog w (n d9) F9 (fun _=>YGW F9 T U_is_grammar) fun _ _ _ _ _ _=>bn 1 fun _=>rfl
 obtain⟨_,F10⟩:=l10.ex;have U_size_of_part:=us l.prog w (n d10) F10 (fun _=>YBs F10 T) fun _ _ _ _ _ _=>bn 3 fun _ _ _=>rfl
 obtain⟨_,F11⟩:=l11.ex;have U_size_of_rule:=us l.prog w (n d11) F11 (fun _=>YBt F11 T U_size_of_part) fun _ _ _ _ _ _=>bn 3 fun _ _ _=>rfl
 obtain⟨_,F12⟩:=l12.ex;have U_least_sizes:=us l.prog w (n d12) F12 (fun _=>YCb F12 T U_size_of_rule) fun _ _ _ _ _ _=>bn 2 fun _ _=>rfl
 obtain⟨_,F13⟩:=l13.ex;have U_is_text:=us l.prog w (n d13) F13 (fun _=>YGY F13 T U_stands_in_texts) fun _ _ _ _ _ _=>bn 1 fun _=>rfl
 obtain⟨_,F14⟩:=l14.ex;have U_checked_text:=us l.prog w (n d14) F14 (fun _=>YBq F14 T U_is_text) fun _ _ _ _ _ _=>bn 1 fun _=>rfl
 obtain⟨_,F15⟩:=l15.ex;have U_is_cost:=us l.prog w (n d15) F15 (fun _=>YGa F15 T U_is_whole) fun _ _ _ _ _ _=>bn 1 fun _=>rfl
 obtain⟨_,F16⟩:=l16.ex;have U_checked_costs:=us l.prog w (n d16) F16 (fun _=>YBe F16 T U_is_cost) fun _ _ _ _ _ _=>bn 1 fun _=>rfl
 obtain⟨_,F17⟩:=l17.ex;have U_Toller_sign_toll:=usM l.prog w d17 F17 (fun _=>YAh F17 T) fun _ _ _ _ _ _=>bn 4 fun _ _ _ _=>rfl
 obtain⟨_,F18⟩:=l18.ex;have U_Toller_sign_table:=usM l.prog w d18 F18 (fun _=>YAO F18 T U_Toller_sign_toll) fun _ _ _ _ _ _=>bn 2 fun _ _=>rfl
 obtain⟨_,F19⟩:=l19.ex;have U_Toller_reach_of:=usM l.prog w d19 F19 (fun _=>YAy F19 T) fun _ _ _ _ _ _=>bn 2 fun _ _=>rfl
 obtain⟨_,F20⟩:=l20.ex;have U_Toller_lay_out:=usM l.prog w d20 F20 (fun _=>YBG F20 T U_Toller_sign_table U_Toller_reach_of) fun _ _ _ _ _ _=>bn 1 fun _=>rfl
 obtain⟨_,F21⟩:=l21.ex;have U_Toller___init__:=usI l.prog w mkToller kcToller d21 F21 (fun _=>YA0 F21 T U_least_sizes U_Toller_lay_out) fun _ _ _ _ _ _=>bn 4 fun _ _ _ _=>rfl
 obtain⟨_,F22⟩:=l22.ex;have U_Toller_inner_tolls:=usM l.prog w d22 F22 (fun _=>X4 F22 T) fun _ _ _ _ _ _=>bn 4 fun _ _ _ _=>rfl
 obtain⟨_,F23⟩:=l23.ex;have U_Toller_line_of:=usM l.prog w d23 F23 (fun _=>YBH F23 T) fun _ _ _ _ _ _=>bn 5 fun _ _ _ _ _=>rfl
 obtain⟨_,F24⟩:=l24.ex;have U_Toller_lower_head:=usM l.prog w d24 F24 (fun _=>YAP F24 T) fun _ _ _ _ _ _=>bn 5 fun _ _ _ _ _=>rfl
 obtain⟨_,F25⟩:=l25.ex;have U_Toller_take_span:=usM l.prog w d25 F25 (fun _=>YAi F25 T U_Toller_inner_tolls U_Toller_line_of U_Toller_lower_head) fun _ _ _ _ _ _=>bn 3 fun _ _ _=>rfl
 obtain⟨_,F26⟩:=l26.ex;have U_Toller_take_all:=usM l.prog w d26 F26 (fun _=>YA1 F26 T U_Toller_take_span) fun _ _ _ _ _ _=>bn 1 fun _=>rfl
 obtain⟨_,F27⟩:=l27.ex;have U_Toller_told_tolls:=usM l.prog w d27 F27 (fun _=>YAR F27 T) fun _ _ _ _ _ _=>bn 1 fun _=>rfl
 obtain⟨_,F28⟩:=l28.ex;have U_tolls:=us l.prog w (n d28) F28 (fun _=>YI6 F28 T U_checked U_checked_text U_checked_costs U_Toller___init__ U_Toller_take_all U_Toller_told_tolls) fun _ _ _ _ _ _=>bn 3 fun _ _ _=>rfl
 obtain⟨_,F29⟩:=l29.ex;have U__law_cell_at:=us l.prog w (n d29) F29 (fun _=>YBx F29 T) fun _ _ _ _ _ _=>bn 2 fun _ _=>rfl
 obtain⟨_,F30⟩:=l30.ex;have U__law_mixed:=us l.prog w (n d30) F30 (fun _=>YCy F30 T U__law_cell_at) fun _ _ _ _ _ _=>bn 2 fun _ _=>rfl
 obtain⟨_,F31⟩:=l31.ex;have U__law_signs:=us l.prog w (n d31) F31 (fun _=>YCz F31 T) fun _ _ _ _ _ _=>bn 1 fun _=>rfl
 obtain⟨_,F32⟩:=l32.ex;have U__law_names:=us l.prog w (n d32) F32 (fun _=>YC0 F32 T) fun _ _ _ _ _ _=>bn 1 fun _=>rfl
 obtain⟨_,F33⟩:=l33.ex;have U__law_worth:=us l.prog w (n d33) F33 (fun _=>YC2 F33 T) fun _ _ _ _ _ _=>bn 1 fun _=>rfl
 obtain⟨_,F34⟩:=l34.ex;have U__law_parts:=us l.prog w (n d34) F34 (fun _=>YC3 F34 T) fun _ _ _ _ _ _=>bn 3 fun _ _ _=>rfl
 obtain⟨_,F35⟩:=l35.ex;have U__law_grammar:=us l.prog w (n d35) F35 (fun _=>YBy F35 T U__law_names U__law_mixed U__law_parts U__law_signs U__law_worth U__law_cell_at) fun _ _ _ _ _ _=>bn 1 fun _=>rfl
 obtain⟨_,F36⟩:=l36.ex;have U__law_costs:=us l.prog w (n d36) F36 (fun _=>YC5 F36 T U__law_worth U__law_cell_at) fun _ _ _ _ _ _=>bn 1 fun _=>rfl
 obtain⟨_,F37⟩:=l37.ex;have U__law_whole:=us l.prog w (n d37) F37 (fun _=>YC7 F37 T) fun _ _ _ _ _ _=>bn 1 fun _=>rfl
 obtain⟨_,F38⟩:=l38.ex;have U__law_text:=us l.prog w (n d38) F38 (fun _=>YET F38 T U__law_signs U__law_mixed) fun _ _ _ _ _ _=>bn 1 fun _=>rfl
 obtain⟨_,F39⟩:=l39.ex;have U__law_pair:=us l.prog w (n d39) F39 (fun _=>YEV F39 T U__law_whole) fun _ _ _ _ _ _=>bn 1 fun _=>rfl
 obtain⟨_,F40⟩:=l40.ex;have U__law_sign_due:=us l.prog w (n d40) F40 (fun _=>YBh F40 T) fun _ _ _ _ _ _=>bn 3 fun _ _ _=>rfl
 obtain⟨_,F41⟩:=l41.ex;have U__law_split_due:=us l.prog w (n d41) F41 (fun _=>YBK F41 T) fun _ _ _ _ _ _=>bn 5 fun _ _ _ _ _=>rfl
 obtain⟨_,F42⟩:=l42.ex;have U__law_dues:=us l.prog w (n d42) F42 (fun _=>YEW F42 T U__law_split_due U__law_sign_due) fun _ _ _ _ _ _=>bn 5 fun _ _ _ _ _=>rfl
 exact⟨PySem.W.fnOf "law" "law" (JY YBI) (Zs YBI) (YJ YBI) .none kV dc pm an cd ct,fun s v=>.of_eq rfl,fun base _ _=>ok_law F43 T U__law_grammar U__law_text U__law_costs U_tolls U__law_mixed U__law_pair U__law_dues⟩
theorem walk {l:PySem.W.OpenLaw}{q:Program}{loose:List Str}{XP:(Str→Option Value)→Heap→Prop}{YP:World→Heap→Prop}{d:DefRec}{K:Params→W.Frag} (hn:l.most=some 63) (hdf:d.params.defaults=[])
  (hY:∀(w:World) (h:Heap),YP w h→(K w.params).In h)
  (F:∀(w:World) (mg:Str→Option Value) (fa:Addr) (h:Heap),(K w.params).In h→h.Ns mainGlobals mg→mg d.name=some (.ref fa)→
   ∃fd:FuncData,(∀(s:Shared) (u:Value),BindsTo s fd ⟨[u],[]⟩ [("_law_script",u)])∧∀base:Heap,(K w.params).In base→base.Ns mainGlobals mg→Yr l.prog w (K w.params) mg base CX0 11 fa fd ["_law_script"] (YEw (K w.params))):
  PySem.W.WalkO q loose XP YP l.row.toRowW d [] (fun f vs=>PySem.call f vs):=
 L2.walk_of (n:=63) (k:=11) (x:="_law_script") (CX:=fun _=>CX0) (sp:=fun w=>YEw (K w.params)) hn (by decide) hdf ⟨rfl,by decide,by decide⟩ hY F (fun _ _ a ns hl hO hS=>YHb hl hO hS) fun _ _ _ _ _ z=>z
end FR
open PySem PySem.W PyProof.Rows
inductive PySem.W.Fast|tw14986786093646978990|tw7694748101414632170|tw6034366339818102516|tw10477482568431531723|tw5135314651911955311|tw17761493847724711108|tw12377096128112277295|tw4449644155726801538|tw3868169980936286260|tw2484254838914188148|tw8799638434534657606|tw10826013118035082665|tw16197414676463946882|tw15251326380716631070|tw2604324888194124047|tw12754740422388482390|tw17200364004398774361|tw15516400787596574094|tw8481257880996483743|tw13330117013211832313|tw22003812172688346|tw2494281815245722635|tw674174526506069439|tw17227388310910186247|tw11144313186319841727|tw8803289881697569866|tw2160427386652978551|tw7068366969896233885|tw6172934630771465560|tw14137384045224364941|tw15946200152254538364|tw4309577495919278544|tw4675440316652163270|tw3418331133280316590|tw16218235192816605962|tw7198972380035691160|tw6722581677203768601|tw10046982359777653283|tw1700758779997055624|tw9934612908647238870|tw5773169165871210001|tw13595434874585781762|tw12651220988757618602|tw5975741813591901290|tw16471292390277605849|tw16760761780712105895|tw2480201860289952816|tw16039756601837208735|tw13904198553993737266|tw10543268802236313672|tw17751801765744445710|tw280358681159988838|tw10825399385236769925|tw15501104803074059155|tw6275745574069818293|tw17861033520514509571|tw14096876991611321895|tw3327283141315144615|tw5854626035563321496|tw6206790821382490821|tw4940241785973979830|tw546384582701447600|tw8648481483568795251|tw13250523770318343152|tw1241733864551385580|tw6546284052071536429|tw5410358740141065221|tw9229968198847511755|tw2289692034550714678|tw6707006951395850708|tw9718615874363431738|tw17888468626201787994|tw14727681940123444001|tw14280081426171798569|tw11779117201307104545|tw13769929666686524361|tw15860484126614685234|tw13250341393031748228|tw15371885164454572179|tw12106336700773672532|tw7680472411260565132|tw13729846338831770473|tw14294904969383146480|tw8454022090070823499|tw10252805047509150976|tw13690221521981205945|tw16501067930444722771|tw17524235154129832583|tw15941509278138875449|tw10177193485804760901|tw2545113171347863838|tw15808405849523513922|tw9956170741554151035|tw5485283023000378967|tw3175830298803748468|tw16332753220229526237|tw2975229566353203605|tw7470507630334188775|tw15212556015590966229|tw16999380107133013941|tw6084410477759242772|tw4399602401662890534|tw17890474212876048801|tw466982148901769289|tw7515867481220483670|tw2324624519249817690|tw17792774773336342676|tw12764540308639385432|tw17803196086740170558|tw16147083816230694006|tw8178929486704498939|tw12640576772477688257|tw15342575362005770399|tw308361447583612345|tw1727677967129448894|tw6371047607399114117|tw8411452595674881127|tw7400883666719337712|tw2850946430113813833|tw3575000574546574430|tw1534693494370659749|tw9445140735737205434|tw4435305166241267750|tw13906516859237571596|tw2264351565191202595|tw4121740069627171933|tw1447501717851503589|tw11384151389046478417|tw12750769535313692209|tw13305606568860507408|tw12317387334078197402|tw1518378722077755340|tw13506934862672543545|tw12420143030829524178|tw784735624909442151|tw15325113775935898809|tw7851655644712434620|tw3820996612301267321|tw8425413856541324301|tw4943573174087066985|tw14878721304181665231|tw12925492160685361803|tw1529917823702687154|tw617051717319754086|tw4210161241920177661|tw7211516560664051148
set_option maxRecDepth 100000 in
set_option maxHeartbeats 0 in
theorem PySem.Challenge.cw_forestread_k72_tolls_holds : PySem.Challenge.rw_forestread_k72_tolls.Holds := by
 w_on;o_law;k_head;(case hw=>w_witness2)
 k_fill
 refine FR.walk (l:=PySem.Challenge.rw_forestread_k72_tolls) rfl rfl (fun w h Y=>PySem.W.kIn_of Y) ?F
 case F=>
  intro w mg fa h KX G hmg;refine' FR.all_mk KX G hmg ..
  any_goals first |k_is |(delta L2.Dn;k_is) |(delta L2.Zn;k_is) |(delta L2.On;k_is) |(refine' L2.An.mk ?_ ?_;any_goals k_is) |(refine' L2.Ln.mk ?_ ?_ ?_;any_goals k_is) |k_exc |kts_exm |kit_is
