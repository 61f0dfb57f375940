import PyProof.Rows.All
import Wide.All
import OpenK.AllK
import Wide.FinOn
import Lean
import PyProof.EqAt
import PyProof.EqKinds
import PyProof.TupleCall
import PySem.Challenge.RW_forestread_k77_long_texts_mended
set_option Elab.async false
set_option linter.all false
set_option maxRecDepth 100000
theorem Z{α:Sort u}{a:α}:a=a:=rfl
abbrev YKu:=@List.length_map
abbrev YKv:=@Nat.le_refl
abbrev YKw:=@List.mem_of_getElem?
abbrev YKx:=@List.getElem?_eq_getElem
abbrev YKy:=@List.getElem?_eq_some_iff
abbrev YKz:=@PySem.wpAny_bind
abbrev YK0:=@decide_eq_false
abbrev YK1:=@List.getElem?_map
abbrev YK2:=@decide_eq_true
abbrev YK3:=@PySem.Heap.get?_push_of_some
abbrev YK4:=@List.mem_singleton
abbrev YK5:=@List.length_append
abbrev YK6:=@List.length_cons
abbrev YK7:=@PyProof.Rows.Boot.«len»
abbrev YK8:=@PySem.Heap.lt_size
abbrev YK9:=@List.size_toArray
abbrev YLA:=@List.mem_cons_of_mem
abbrev YLB:=@List.mem_cons
abbrev YLC:=@Bool.and_eq_true
abbrev YLD:=@Bool.false_ne_true
abbrev YLE:=@List.map_append
abbrev YLF:=@List.replicate_succ
abbrev YLG:=@Nat.lt_of_lt_of_le
abbrev YLH:=@List.mem_append_right
abbrev YLI:=@PySem.Heap.get?_push_size
abbrev YLJ:=@List.mem_cons_self
abbrev YLK:=@Array.length_toList
abbrev YLL:=@List.mem_map
abbrev YLM:=@of_decide_eq_true
abbrev YLN:=@List.length_range
abbrev YLO:=@PySem.wpAny_pure
abbrev YLP:=@Option.some.inj
abbrev YLQ:=@List.mem_append
abbrev YLR:=@List.map_cons
abbrev YLS:=@Nat.zero_le
abbrev YLT:=@PySem.F.plainAttrs_list
abbrev YLU:=@Nat.le_trans
abbrev YLV:=@List.length_replicate
abbrev YLW:=@Nat.ne_of_lt
abbrev YLX:=@Option.map_eq_some_iff
abbrev YLY:=@PyProof.Rows.Boot.«isinstance»
abbrev YLZ:=@Option.isSome_iff_exists
abbrev YLa:=@List.append_nil
abbrev YLb:=@List.all_eq_true
abbrev YLc:=@PySem.Heap.get?_update_other
abbrev YLd:=@List.mem_append_left
abbrev YLe:=@List.append_assoc
abbrev YLf:=@List.getElem?_eq_none
abbrev YLg:=@List.getElem?_range
abbrev YLh:=@PySem.F.type_list_append
abbrev YLi:=@PySem.F.slot_list_append
abbrev YLj:=@List.not_mem_nil
abbrev YLk:=@Int.le_refl
abbrev YLl:=@List.getElem?_append_right
abbrev YLm:=@decide_eq_true_eq
abbrev YLn:=@List.take_add_one
abbrev YLo:=@Int.mul_nonneg
abbrev YLp:=@PySem.Heap.get?_update_self
abbrev YLq:=@Nat.lt_irrefl
abbrev YLr:=@Int.zero_add
abbrev YLs:=@Int.mul_le_mul_of_nonneg_right
abbrev YLt:=@Array.getElem?_toList
abbrev YLu:=@PyProof.Rows.Boot.«list»
abbrev YLv:=@Int.mul_le_mul_of_nonneg_left
abbrev YLw:=@Int.emod_nonneg
abbrev YLx:=@List.getElem?_append_left
abbrev YLy:=@List.drop_eq_getElem_cons
abbrev YLz:=@Nat.lt_or_ge
abbrev YL0:=@Int.le_trans
abbrev YL1:=@List.nodup_cons
abbrev YL2:=@List.map_map
abbrev YL3:=@List.length_take
abbrev YL4:=@List.filter_cons
abbrev YL5:=@congrArg
abbrev YL6:=@Int.emod_lt_of_pos
abbrev YL7:=@PySem.F.plainAttrs_str
abbrev YL8:=@List.take_of_length_le
abbrev YL9:=@List.take_length
abbrev YMA:=@List.map_congr_left
abbrev YMB:=@List.length_reverse
abbrev YMC:=@Int.add_mul
abbrev YMD:=@Int.mul_ediv_add_emod
abbrev YME:=@List.mem_range
abbrev YMF:=@Nat.add_sub_cancel_left
abbrev YMG:=@List.length_nil
abbrev YMH:=@Int.natCast_nonneg
abbrev YMI:=@PyProof.Rows.Boot.«all»
abbrev YMJ:=@Nat.ne_of_gt
abbrev YMK:=@Int.le_of_lt
abbrev YML:=@Int.zero_mul
abbrev YMM:=@PySem.F.type_str_startswith
abbrev YMN:=@PySem.F.slot_str_startswith
abbrev YMO:=@PyProof.Rows.Boot.«tuple»
abbrev YMP:=@Nat.zero_lt_one
abbrev YMQ:=@List.length_set
abbrev YMR:=@Bool.eq_iff_iff
abbrev YMS:=@List.getElem?_set_self
abbrev YMT:=@Bool.false_or
abbrev YMU:=@PyProof.Rows.Boot.«min»
abbrev YMV:=@List.take_zero
abbrev YMW:=@List.mem_of_find?_eq_some
abbrev YMX:=@Int.one_mul
abbrev YMY:=@PySem.Heap.size_push
abbrev YMZ:=@List.mem_iff_getElem
abbrev YMa:=@Nat.not_lt_zero
abbrev YMb:=@List.flatten_cons
abbrev YMc:=@List.flatMap_cons
abbrev YMd:=@List.find?_cons
abbrev YMe:=@List.ext_getElem?
abbrev YMf:=@Nat.le_of_lt
abbrev YMg:=@Int.ne_of_gt
abbrev YMh:=@Int.add_zero
abbrev YMi:=@List.sum_cons
abbrev YMj:=@List.all_cons
abbrev YMk:=@List.cons_append
abbrev YMl:=@Nat.lt_of_le_of_lt
abbrev YMm:=@Option.map_some
abbrev YMn:=@Nat.le_succ
abbrev YMo:=@List.nil_append
abbrev YMp:=@List.cons_lt_cons_iff
namespace L2
open PySem PySem.Spec PyProof.Rows
abbrev Key:=Sum Int Str
def YCm:Key->Value->Bool
 |.inl k,v=>Value.isInt k v
 |.inr x,v=>Value.isStrOf x v
def keyH (w:World):Key->Int
 |.inl k=>hashInt k
 |.inr x=>hashStr w x
theorem ZE:∀{k:Key}{v:Value},YCm k v=true->(∃i t,k=Sum.inl i/\v=Value.int i t)\/(∃x t,k=Sum.inr x/\v=Value.str x t)
 |.inl i,v,h=>by
  obtain⟨t,e⟩:=Value.isInt_shape (k:=i) (v:=v) h;exact .inl ⟨i,t,Z,e⟩
 |.inr x,v,h=>by
  obtain⟨t,e⟩:=Value.isStrOf_shape (x:=x) (v:=v) h;exact .inr ⟨x,t,Z,e⟩
theorem YIh (i:Int) (t:Tok):YCm (.inl i) (.int i t)=true:=by simp[YCm,Value.isInt]
theorem YIi (x:Str) (t:Tok):YCm (.inr x) (.str x t)=true:=by simp[YCm,Value.isStrOf]
theorem key_ll (a b:Int):decide ((Sum.inl a:Key)=Sum.inl b)=(a == b):=by
 by_cases e:a=b
 ·subst e;simp
 ·have h:¬(Sum.inl a:Key)=Sum.inl b:=λq=>e (Sum.inl.inj q)
  rw[YK0 h];exact(beq_eq_false_iff_ne.mpr e).symm
theorem key_rr (a b:Str):decide ((Sum.inr a:Key)=Sum.inr b)=decide (a=b):=by
 by_cases e:a=b
 ·subst e;simp
 ·have h:¬(Sum.inr a:Key)=Sum.inr b:=λq=>e (Sum.inr.inj q)
  rw[YK0 h,YK0 e]
theorem key_lr (a:Int) (b:Str):decide ((Sum.inl a:Key)=Sum.inr b)=false:=YK0 nofun
theorem key_rl (a:Str) (b:Int):decide ((Sum.inr a:Key)=Sum.inl b)=false:=YK0 nofun
def ZB (prog:Program) (w:World):PySem.KeyKind prog w Key where
 is:=YCm
 hash:=keyH w
 inj:=λv a b ha hb=>by
  rcases ZE ha with ⟨i,t,rfl,rfl⟩ |⟨x,t,rfl,rfl⟩
  ·rcases ZE hb with ⟨j,u,rfl,e⟩ |⟨y,u,rfl,e⟩
   ·injection e with e1 _;rw[e1]
   ·exact nomatch e
  ·rcases ZE hb with ⟨j,u,rfl,e⟩ |⟨y,u,rfl,e⟩
   ·exact nomatch e
   ·injection e with e1 _;rw[e1]
 byValue:=λk v h=>by
  rcases ZE h with ⟨i,t,rfl,rfl⟩ |⟨x,t,rfl,rfl⟩ <;> rfl
 pyHash:=λhv h=>by
  rcases ZE hv with ⟨i,t,rfl,rfl⟩ |⟨x,t,rfl,rfl⟩
  ·exact wpAny_pyHash_int h
  ·exact wpAny_pyHash_str h
 eqBool:=λhu hv h=>by
  rcases ZE hu with ⟨i,t,rfl,rfl⟩ |⟨x,t,rfl,rfl⟩
  ·rcases ZE hv with ⟨j,u,rfl,rfl⟩ |⟨y,u,rfl,rfl⟩
   ·rw[key_ll]at h;exact wpAny_eqBool_int h
   ·rw[key_lr]at h;exact SeqAt.EqAt.int_str i t y u _ _ _ _ h
  ·rcases ZE hv with ⟨j,u,rfl,rfl⟩ |⟨y,u,rfl,rfl⟩
   ·rw[key_rl]at h;exact SeqAt.EqAt.str_int x t j u _ _ _ _ h
   ·rw[key_rr]at h;exact wpAny_eqBool_str h
 «strs»:=λk x t v h=>by
  rcases ZE h with ⟨i,u,rfl,e⟩ |⟨y,u,rfl,e⟩
  ·exact nomatch e
  ·injection e with e1 _
   subst e1;cases v <;> rfl
theorem YFT (prog:Program) (w:World) (i:Int) (t:Tok):(ZB prog w).is (.inl i) (.int i t)=true:=YIh i t
theorem YFU (prog:Program) (w:World) (x:Str) (t:Tok):(ZB prog w).is (.inr x) (.str x t)=true:=YIi x t
end L2
namespace L2
open PySem PySem.Spec PyProof.Rows
inductive V where
 |non |bl (b:Bool) |int (i:Int) |str (x:Str) |byt (b:Array UInt8) |flt (b:UInt64) |ref (a:Addr) |ty (n:String)
 deriving DecidableEq
def Yk:V->Value->Prop
 |.non,u=>u=Value.none
 |.bl b,u=>u=Value.bool b
 |.int i,u=>∃t,u=Value.int i t
 |.str x,u=>∃t,u=Value.str x t
 |.byt b,u=>∃t,u=Value.bytes b t
 |.flt b,u=>∃t,u=Value.float b t
 |.ref a,u=>u=Value.ref a
 |.ty n,u=>u=Value.type n
abbrev Yf:List V->List Value->Prop:=Paired Yk
theorem Yf.length {xs:List V}{us:List Value} (r:Yf xs us):xs.length=us.length:=Paired.length r
theorem Yf.get:∀{xs:List V}{us:List Value}{i:Nat}{x:V},Yf xs us->xs[i]?=some x->∃u,us[i]?=some u/\Yk x u
 |_,_,_,_,.nil,e=>by simp at e
 |_,_,0,_,.cons r _,e=>by simp at e;subst e;exact⟨_,Z,r⟩
 |_,_,i + 1,x,.cons _ t,e=>by
  obtain⟨u,h1,h2⟩:=Yf.get (i:=i) (x:=x) t (by simpa using e);exact⟨u,by simpa using h1,h2⟩
theorem Yf.set {x:V}{u:Value} (r:Yk x u):∀{xs:List V}{us:List Value} (i:Nat),Yf xs us->Yf (xs.set i x) (us.set i u)
 |_,_,_,.nil=>.nil
 |_,_,0,.cons _ t=>.cons r t
 |_,_,i + 1,.cons q t=>.cons q (Yf.set r i t)
theorem Yf.append:∀{xs ys:List V}{us ws:List Value},Yf xs us->Yf ys ws->Yf (xs ++ ys) (us ++ ws)
 |_,_,_,_,.nil,s=>s
 |_,_,_,_,.cons r t,s=>.cons r (Yf.append t s)
theorem Yf.take:∀{xs:List V}{us:List Value} (n:Nat),Yf xs us->Yf (xs.take n) (us.take n)
 |_,_,0,_=>.nil
 |_,_,_ + 1,.nil=>.nil
 |_,_,n + 1,.cons r t=>.cons r (Yf.take n t)
theorem Yf.drop:∀{xs:List V}{us:List Value} (n:Nat),Yf xs us->Yf (xs.drop n) (us.drop n)
 |_,_,0,r=>r
 |_,_,_ + 1,.nil=>.nil
 |_,_,n + 1,.cons _ t=>Yf.drop n t
theorem Yf.none_of:∀{xs:List V}{us:List Value}{i:Nat},Yf xs us->xs[i]?=none->us[i]?=none:=λ{xs us i} r e=>by
 have h1:=r.length;have h2:xs.length<=i:=List.getElem?_eq_none_iff.mp e;exact List.getElem?_eq_none_iff.mpr (by omega)
def YAM:Option V->Option Value->Prop
 |some v,some u=>Yk v u
 |none,none=>True
 |_,_=>False
def KV {κ:Type}:List (κ×V)->List (κ×Value)->Prop:=Paired λ(p:κ×V) (q:κ×Value)=>p.1=q.1/\Yk p.2 q.2
def kV:Key->V
 |.inl i=>.int i
 |.inr x=>.str x
inductive HO where
 |lst (xs:List V)
 |tup (xs:List V)
 |dK (kvs:List (Key×V)) |dT (kvs:List (List Key×V))
 |set (S:Int->Bool) (n:Nat)
 |ins (C dx:Addr) (fs:List (Str×V))
 |own (x:Addr)
 |xd (fs:List (Str×V))
 |met (f x:Addr)
 |rng (lo hi:Int)
 |frz (o:Obj) (u:HO)
 |tbl (ps:Array Value)
 |ext (φ:Heap->Prop)
abbrev Hp:=Addr->Option HO
def upd (H:Hp) (a:Addr) (o:HO):Hp:=λb=>if b=a then some o else H b
theorem YC {H:Hp}{a:Addr}{o:HO}:upd H a o a=some o:=by unfold upd;rw[if_pos rfl]
theorem YH {H:Hp}{a b:Addr}{o:HO} (h:b≠a):upd H a o b=H b:=by unfold upd;rw[if_neg h]
theorem YHl {H:Hp}{a:Addr}{o u:HO}:upd (upd H a o) a u=upd H a u:=by
 funext b;unfold upd;split <;> rfl
theorem YDs {H:Hp}{a b:Addr}{o u:HO} (h:H a=some o) (h':H b=some u) (d:o≠u):a≠b:=by
 intro e;subst e;rw[h]at h';exact d (YLP h')
theorem YV {H:Hp}{a b:Addr}{o:HO} (h:H a=some o) (h':H b=none):a≠b:=by
 intro e;subst e;rw[h]at h';cases h'
section
variable (P:Program) (w:World)
def Yp (H:Hp) (h:Heap) (a:Addr):HO->Prop
 |.lst xs=>xs.length<=sizeLine/\∃(its:List Value) (n:Nat),Yf xs its/\h.get? a=some { cls:=.type "list",data:=.seq its.toArray n }
 |.tup xs=>xs.length<=sizeLine/\∃its:List Value,Yf xs its/\IsTup h a its.toArray
 |.dK kvs=>kvs.length<=sizeLine/\(a == sysModules)=false/\∃vs,KV kvs vs/\h.DictOf (ZB P w) a vs
 |.dT kvs=>kvs.length<=sizeLine/\(a == sysModules)=false/\∃xs:List (List Key×Addr×Value),
   Paired (λ(p:List Key×V) (q:List Key×Addr×Value)=>p.1=q.1/\H q.2.1=some (.tup (p.1.map kV))/\Yk p.2 q.2.2) kvs xs/\
   ∃o es ep,h.get? a=some o/\o.ExactDict/\o.data=.dict es ep/\es.toList=xs.map (entryOfKey (tupleKind (ZB P w)))/\(xs.map (·.1)).Nodup
 |.set S n=>h.SetOf (intKind P w) a S n
 |.ins C dx fs=>H dx=some (.own a)/\fs.length<=1000/\dx≠a/\h.get? a=some (PySem.W.instObj C dx)/\
   ∃mA,h.Ns1 dx mA/\(∀f,YAM (fs.lookup f) (mA f))/\PySem.Within mA (fs.map (·.1))
 |.own _=>∃o,h.get? a=some o
 |.xd fs=>∃mA,h.Ns1 a mA/\∀f,YAM (fs.lookup f) (mA f)
 |.rng lo hi=>∃t u v,h.get? a=some { cls:=.type "range",data:=.fields #[.int lo t,.int hi u,.int 1 v] }
 |.frz o u=>h.get? a=some o/\Yp H h a u
 |.tbl ps=>h.get? a=some { cls:=.none,data:=.fields ps }
 |.met f x=>h.get? a=some (PySem.W.methodObj (.ref f) (.ref x))
 |.ext φ=>φ h/\(∃o,h.get? a=some o)/\∀h1 h2:Heap,φ h1->(∀o,h1.get? a=some o->h2.get? a=some o)->φ h2
def HOk (H:Hp) (h:Heap):Prop:=∀a o,H a=some o->Yp P w H h a o
end
section
variable {P:Program}{w:World}{H H':Hp}{h h':Heap}{a:Addr}{o:HO}
theorem Yp.lt (x:Yp P w H h a o):a < h.objs.size:=by
 cases o with
 |lst xs=>obtain⟨_,_,_,_,e⟩:=x;exact YK8 e
 |tup xs=>obtain⟨_,_,_,p⟩:=x;exact p.lt
 |dK kvs=>obtain⟨_,_,_,_,o,_,_,e,_⟩:=x;exact YK8 e
 |dT kvs=>obtain⟨_,_,_,_,o,_,_,e,_⟩:=x;exact YK8 e
 |set S n=>obtain⟨o,_,_,_,e,_⟩:=x;exact YK8 e
 |ins C dx fs=>obtain⟨_,_,_,e,_⟩:=x;exact YK8 e
 |own y=>obtain⟨_,e⟩:=x;exact YK8 e
 |xd fs=>obtain⟨_,⟨_,_,_,e,_⟩,_⟩:=x;exact YK8 e
 |rng lo hi=>obtain⟨_,_,_,e⟩:=x;exact YK8 e
 |frz ob u=>obtain⟨e,_⟩:=x;exact YK8 e
 |tbl ps=>exact YK8 (show h.get? a=some _ from x)
 |met f y=>exact YK8 (show h.get? a=some _ from x)
 |ext φ=>obtain⟨_,⟨_,e⟩,_⟩:=x;exact YK8 e
theorem Paired.mapP {α β:Type}{F G:α->β->Prop}:∀{l₁:List α}{l₂:List β},Paired F l₁ l₂->(∀a b,F a b->G a b)->Paired G l₁ l₂
 |_,_,.nil,_=>.nil
 |_,_,.cons r t,f=>.cons (f _ _ r) (Paired.mapP t f)
theorem Yp.stay (x:Yp P w H h a o) (k:∀b u,(b=a\/H b=some (.own a))->h.get? b=some u->h'.get? b=some u)
  (ho:∀b,H b=some (.own a)->H' b=some (.own a)) (ht:∀b xs,H b=some (.tup xs)->H' b=some (.tup xs)):Yp P w H' h' a o:=by
 induction o with
 |lst xs=>obtain⟨z,its,n,r,e⟩:=x;exact⟨z,its,n,r,k _ _ (.inl rfl) e⟩
 |tup xs=>obtain⟨z,its,r,ob,e,c⟩:=x;exact⟨z,its,r,ob,k _ _ (.inl rfl) e,c⟩
 |dK kvs=>obtain⟨z,y,vs,r,ob,es,ep,e,c⟩:=x;exact⟨z,y,vs,r,ob,es,ep,k _ _ (.inl rfl) e,c⟩
 |dT kvs=>
  obtain⟨z,y,xs,r,ob,es,ep,e,c⟩:=x;exact⟨z,y,xs,Paired.mapP r λp q z=>⟨z.1,ht _ _ z.2.1,z.2.2⟩,ob,es,ep,k _ _ (.inl rfl) e,c⟩
 |set S n=>obtain⟨ob,es,ep,t,e,c⟩:=x;exact⟨ob,es,ep,t,k _ _ (.inl rfl) e,c⟩
 |ins C dx fs=>
  obtain⟨d,z,ne,e,mA,⟨od,es,ep,e2,c⟩,r⟩:=x;exact⟨ho _ d,z,ne,k _ _ (.inl rfl) e,mA,⟨od,es,ep,k _ _ (.inr d) e2,c⟩,r⟩
 |own y=>obtain⟨ob,e⟩:=x;exact⟨ob,k _ _ (.inl rfl) e⟩
 |xd fs=>obtain⟨mA,⟨od,es,ep,e,c⟩,r⟩:=x;exact⟨mA,⟨od,es,ep,k _ _ (.inl rfl) e,c⟩,r⟩
 |rng lo hi=>obtain⟨t,u,v,e⟩:=x;exact⟨t,u,v,k _ _ (.inl rfl) e⟩
 |frz ob u ih=>obtain⟨e,q⟩:=x;exact⟨k _ _ (.inl rfl) e,ih q⟩
 |tbl ps=>
  have e:h.get? a=some { cls:=.none,data:=.fields ps }:=x;show h'.get? a=some { cls:=.none,data:=.fields ps };exact k a _ (.inl rfl) e
 |met f y=>
  have e:h.get? a=some (PySem.W.methodObj (.ref f) (.ref y)):=x;show h'.get? a=some (PySem.W.methodObj (.ref f) (.ref y));exact k a _ (.inl rfl) e
 |ext φ=>obtain⟨p,⟨o,e⟩,st⟩:=x;exact⟨st _ _ p λo q=>k _ _ (.inl rfl) q,⟨o,k _ _ (.inl rfl) e⟩,st⟩
theorem HOk.lt (x:HOk P w H h) (e:H a=some o):a < h.objs.size:=(x a o e).lt
theorem HOk.fresh (x:HOk P w H h) (e:h.objs.size<=a):H a=none:=by
 cases q:H a with
 |none=>rfl
 |some u=>exact absurd (YLG (x.lt q) e) (YLq _)
theorem HOk.kept (x:HOk P w H h) (k:∀b u,h.get? b=some u->h'.get? b=some u):HOk P w H h':=λa o e=>
 (x a o e).stay (λb u _ q=>k b u q) (λ_ q=>q) λ_ _ q=>q
theorem HOk.laid (x:HOk P w H h) (k:∀b u,h.get? b=some u->h'.get? b=some u) (hp:h.objs.size<=a) (new:Yp P w (upd H a o) h' a o):HOk P w (upd H a o) h':=λb u e=>by
 have hn:=x.fresh hp
 by_cases hb:b=a
 ·subst hb;rw[YC]at e;cases e;exact new
 ·rw[YH hb]at e;exact(x b u e).stay (λc v _ q=>k c v q) (λc q=>by rw[YH (YV q hn)];exact q) λc xs q=>by rw[YH (YV q hn)];exact q
end
def Rd (H:Hp) (a:Addr) (u:HO):Prop:=H a=some u\/∃o,H a=some (.frz o u)
theorem Rd.ok {P:Program}{w:World}{H:Hp}{h:Heap}{a:Addr}{u:HO} (r:Rd H a u) (x:HOk P w H h):Yp P w H h a u:=by
 rcases r with r |⟨o,r⟩
 ·exact x a u r
 ·obtain⟨_,q⟩:=x a _ r;exact q
def Mut:Option HO->Prop
 |some (.lst _)=>True
 |some (.dK _)=>True
 |some (.dT _)=>True
 |some (.set _ _)=>True
 |some (.ins _ _ _)=>True
 |some (.ext _)=>True
 |_=>False
section
variable {P:Program}{w:World}{H:Hp}{h h':Heap}{x e:Addr}{o':HO}
theorem HOk.write (ok:HOk P w H h) (mu:Mut (H x)) (he:e=x\/H e=some (.own x)) (k:∀b u,b≠e->h.get? b=some u->h'.get? b=some u) (vP:∃u,h'.get? e=some u)
  (new:Yp P w (upd H x o') h' x o'):HOk P w (upd H x o') h':=λb u q=>by
 have nown:∀c y,H c=some (.own y)->c≠x:=λc y r z=>by subst z;rw[r]at mu;exact mu
 have ntup:∀c xs,H c=some (.tup xs)->c≠x:=λc xs r z=>by subst z;rw[r]at mu;exact mu
 by_cases hb:b=x
 ·subst hb;rw[YC]at q;cases q;exact new
 ·rw[YH hb]at q
  by_cases hbe:b=e
  ·have q':H b=some (.own x):=by
    rcases he with z |z
    ·exact absurd (hbe.trans z) hb
    ·rw[hbe];exact z
   rw[q]at q';cases q';obtain⟨v,hv⟩:=vP;exact⟨v,by rw[hbe];exact hv⟩
  ·refine(ok b u q).stay (λc v hc r=>k c v ?_ r) (λc r=>by rw[YH (nown c b r)];exact r) λc xs r=>by rw[YH (ntup c xs r)];exact r
   rcases hc with rfl |hc
   ·exact hbe
   ·rintro rfl;rcases he with z |z
    ·exact nown c b hc z
    ·rw[hc]at z;cases z;exact hb rfl
end
structure Un (fs ex:List Addr) (H H':Hp) (h h':Heap):Prop where
 keep:∀b o,h.get? b=some o->H b=none->b∉fs->b∉ex->h'.get? b=some o
 slot:∀b o,h.get? b=some o->H b=none->b∈fs->b∉ex->∃sl,h'.get? b=some { o with slots:=sl }
 free:∀b o,h.get? b=some o->H b=none->b∉ex->H' b=none
 there:∀b o,h.get? b=some o->b∉ex->∃o',h'.get? b=some o'
 tups:∀b xs,H b=some (.tup xs)->H' b=some (.tup xs)
 frzs:∀b o u,H b=some (.frz o u)->H' b=some (.frz o u)
 tbls:∀b ps,H b=some (.tbl ps)->∃more,H' b=some (.tbl (ps ++ more))
section
variable {fs fs' ex ex':List Addr}{H H1 H2:Hp}{h h1 h2 h':Heap}{a x e:Addr}{o:HO}
theorem Un.any (u:Un fs ex H H1 h h1) {b:Addr}{ob:Obj} (q:h.get? b=some ob) (n:H b=none) (hx:b∉ex):∃sl,h1.get? b=some { ob with slots:=sl }:=by
 by_cases hb:b∈fs
 ·exact u.slot b ob q n hb hx
 ·exact⟨ob.slots,u.keep b ob q n hb hx⟩
theorem Un.trans (a:Un fs ex H H1 h h1) (b:Un fs ex H1 H2 h1 h2):Un fs ex H H2 h h2 where
 keep:=λc ob q n hc hx=>b.keep c ob (a.keep c ob q n hc hx) (a.free c ob q n hx) hc hx
 slot:=λc ob q n hc hx=>by
  obtain⟨sl,e1⟩:=a.slot c ob q n hc hx;obtain⟨uB,e2⟩:=b.slot c _ e1 (a.free c ob q n hx) hc hx;exact⟨uB,e2⟩
 free:=λc ob q n hx=>by
  obtain⟨o',e1⟩:=a.there c ob q hx;exact b.free c o' e1 (a.free c ob q n hx) hx
 there:=λc ob q hx=>by
  obtain⟨o',e1⟩:=a.there c ob q hx;exact b.there c o' e1 hx
 tups:=λc xs q=>b.tups c xs (a.tups c xs q)
 frzs:=λc ob xs q=>b.frzs c ob xs (a.frzs c ob xs q)
 tbls:=λc ps q=>by
  obtain⟨m1,e1⟩:=a.tbls c ps q;obtain⟨m2,e2⟩:=b.tbls c _ e1;exact⟨m1 ++ m2,by rw[e2,Array.append_assoc]⟩
theorem Un.kept (k:∀b u,h.get? b=some u->h'.get? b=some u):Un fs ex H H h h':=
 ⟨λb ob q _ _ _=>k b ob q,λb ob q _ _ _=>⟨ob.slots,k b ob q⟩,λ_ _ _ n _=>n,λb ob q _=>⟨ob,k b ob q⟩,λ_ _ q=>q,λ_ _ _ q=>q,λ_ ps q=>⟨#[],by rw[q];simp⟩⟩
theorem Un.refl:Un fs ex H H h h:=Un.kept λ_ _ q=>q
theorem Un.laid (k:∀b u,h.get? b=some u->h'.get? b=some u) (hp:h.objs.size<=a) (hn:H a=none):Un fs ex H (upd H a o) h h' where
 keep:=λb u q _ _ _=>k b u q
 slot:=λb u q _ _ _=>⟨u.slots,k b u q⟩
 free:=λb u q n _=>by rw[YH (YLW (YLG (YK8 q) hp))];exact n
 there:=λb u q _=>⟨u,k b u q⟩
 tups:=λb xs q=>by rw[YH (YV q hn)];exact q
 frzs:=λb u xs q=>by rw[YH (YV q hn)];exact q
 tbls:=λb ps q=>⟨#[],by rw[YH (YV q hn),q];simp⟩
theorem Un.write (mu:Mut (H x)) (he:e=x\/H e=some (.own x)) (k:∀b u,b≠e->h.get? b=some u->h'.get? b=some u) (vP:∃u,h'.get? e=some u):Un fs ex H (upd H x o) h h':=by
 have hx:∀b,H b=none->b≠x:=λb n z=>by subst z;rw[n]at mu;exact mu
 have hb:∀b,H b=none->b≠e:=λb n z=>by
  subst z;rcases he with r |r
  ·exact hx b n r
  ·rw[n]at r;cases r
 have hm:∀b u,H b=some u->¬Mut (some u)->b≠x:=λb u q nm z=>by subst z;rw[q]at mu;exact nm mu
 refine⟨λb u q n _ _=>k b u (hb b n) q,λb u q n _ _=>⟨u.slots,k b u (hb b n) q⟩,λb u q n _=>by rw[YH (hx b n)];exact n,λb u q _=>?_,
  λb xs q=>by rw[YH (hm b _ q λz=>z)];exact q,λb u xs q=>by rw[YH (hm b _ q λz=>z)];exact q,λb ps q=>⟨#[],by rw[YH (hm b _ q λz=>z),q];simp⟩⟩
 by_cases hbe:b=e
 ·subst hbe;exact vP
 ·exact⟨u,k b u hbe q⟩
end
def trk (h:Heap) (H:Hp):List Addr:=(List.range h.objs.size).filter λa=>(H a).isSome
def YEm (h:Heap) (H:Hp):Heap:=PySem.W.hideAll h (trk h H)
theorem YIj (h:Heap) (H:Hp):(YEm h H).objs.size=h.objs.size:=PySem.W.hideAll_size _ _
theorem YJT {h:Heap}{H:Hp}{b:Addr}{o:Obj} (e:h.get? b=some o) (n:H b=none):(YEm h H).get? b=some o:=
 PySem.W.hideAll_get _ e λhm=>by
  have q:(H b).isSome=true:=(List.mem_filter.mp hm).2;rw[n]at q;simp at q
theorem of_hidT {h:Heap}{H:Hp}{b:Addr}{o:Obj} (e:(YEm h H).get? b=some o):h.get? b=some o/\H b=none:=by
 have e':h.get? b=some o:=PySem.W.of_hideAll (trk h H) e;refine⟨e',?_⟩;cases q:H b with
 |none=>rfl
 |some x=>
  have hm:b∈trk h H:=List.mem_filter.mpr ⟨YME.mpr (YK8 e'),by simp[q]⟩;have z:(YEm h H).get? b=none:=PySem.W.hideAll_none (trk h H) hm;rw[z]at e;cases e
def allNews (g h:Heap) (L:Addr):List (Addr×Obj):=(List.range h.objs.size).filterMap λa=>if a=L\/(g.get? a).isSome=true then none else (h.get? a).map λo=>(a,o)
def rest (g h:Heap) (L d:Addr):List (Addr×Obj):=(allNews g h L).filter λp=>decide (p.1≠d)
end L2
namespace L2
open PySem PySem.Spec PyProof.Rows
structure Mod (K:W.Frag) (mg:Str->Option Value) (base:Heap):Prop where
 kin:K.In base
 glob:base.Ns mainGlobals mg
 blt:∃mb,base.Ns builtinsNs mb/\∀x:Str,x≠"__name__"->mb x=bootBuiltins x
 nolimit:base.NoLimit
structure Cx where
 prog:Program
 w:World
 K:W.Frag
 mg:Str->Option Value
 base:Heap
 A:Around
 N:List Str
 s₀:Shared
 H₀:Hp
 env:Env
 outer:List Env
 stack:List Env
 ex:List Addr
 fn:Str->Bool
 calm:Bool
 pn:List (Addr×Obj)
 xe:Value->Shared->Prop
def frs (l:List Env):List Addr:=l.filterMap (·.frame)
abbrev Cx.fs (X:Cx):List Addr:=frs X.outer
def Vis (sc:Scope) (x:Str):Prop:=sc.names.lookup x=some .local\/sc.names.lookup x=some .cell\/sc.names.lookup x=some .free
def Loc (sc:Scope) (x:Str):Prop:=sc.names.lookup x=some .local\/sc.names.lookup x=some .cell
def Look (env:Env) (h:Heap) (m:Str->Option Value) (x:Str) (u:Value):Prop:=
 (env.kindOf x=some .local/\m x=some u)\/((env.kindOf x=some .cell\/env.kindOf x=some .free)/\∃c,env.cells.lookup x=some c/\h.IsCell c (some u))
structure Cx.Ok (X:Cx):Prop where
 mod:Mod X.K X.mg X.base
 kind:X.env.scope.kind=.function
 glob:X.env.globals=mainGlobals
 blt:X.env.builtins=builtinsNs
 above:X.s₀.heap.objs.size<=X.env.locals
 inj:∀x y c,X.env.cells.lookup x=some c->X.env.cells.lookup y=some c->x=y
 has:∀x,(X.env.kindOf x=some .cell\/X.env.kindOf x=some .free)->∃c,X.env.cells.lookup x=some c
 cab:∀x c,X.fn x=true->X.env.cells.lookup x=some c->X.s₀.heap.objs.size<=c
 hd:X.calm=true->X.A.handled=none
 frames:X.A.frames=some X.stack
 stk:X.stack=X.outer\/(X.stack=X.env :: X.outer/\X.env.frame=some X.env.locals)
 exf:∀b∈X.ex,b≠X.env.locals/\∀x c,X.env.cells.lookup x=some c->c≠b
 bs:∀b o,X.base.get? b=some o->X.s₀.heap.get? b=some o/\X.H₀ b=none
 bsz:X.base.objs.size<=X.s₀.heap.objs.size
 noex:∀b o,X.base.get? b=some o->b∉X.ex
 exfs:∀b∈X.ex,b∉X.fs
 funs:X.s₀.heap.FunFrames X.base X.outer
 frf:∀b∈X.fs,X.H₀ b=none
structure Inv (X:Cx) (pins:List (Addr×Obj)) (σ:List (Option V)) (H:Hp) (s:Shared):Prop where
 ok:X.Ok
 os:s.os=X.s₀.os
 bare:AllBare s.gens
 base:Un X.fs X.ex X.H₀ H X.s₀.heap s.heap
 loc:∃m,s.heap.Ns X.env.locals m/\∀(i:Nat) (x:Str) (v:V),X.N[i]?=some x->σ[i]?=some (some v)->Vis X.env.scope x->∃u,Yk v u/\Look X.env s.heap m x u
 cell:∀x c,X.env.cells.lookup x=some c->∃v,s.heap.IsCell c v
 free:H X.env.locals=none
 freeC:∀x c,X.env.cells.lookup x=some c->H c=none
 pin:∀p∈X.pn ++ pins,s.heap.get? p.1=some p.2/\H p.1=none/\p.1≠X.env.locals/\p.1∉X.fs/\∀v,p.2.data≠.cell v
 hok:HOk X.prog X.w H s.heap
 len:σ.length=X.N.length
section
variable {X:Cx}{pins:List (Addr×Obj)}{σ:List (Option V)}{H H':Hp}{s:Shared}{h':Heap}
theorem Cx.Ok.nofr (ok:X.Ok) {b:Addr}{o:Obj} (e:X.base.get? b=some o):b∉X.fs:=λhb=>by
 have:=(ok.funs.mem hb).1;rw[e]at this;cases this
theorem Inv.bs (I:Inv X pins σ H s):∀b o,X.base.get? b=some o->s.heap.get? b=some o/\H b=none:=λb o e=>
 ⟨I.base.keep b o (I.ok.bs b o e).1 (I.ok.bs b o e).2 (I.ok.nofr e) (I.ok.noex b o e),I.base.free b o (I.ok.bs b o e).1 (I.ok.bs b o e).2 (I.ok.noex b o e)⟩
theorem Inv.bk (I:Inv X pins σ H s):∀b o,X.base.get? b=some o->s.heap.get? b=some o:=λb o e=>(I.bs b o e).1
theorem Inv.mod (I:Inv X pins σ H s):Mod X.K X.mg X.base:=I.ok.mod
theorem Inv.kIn (I:Inv X pins σ H s):X.K.In s.heap:=I.ok.mod.kin.keeps I.bk
theorem Inv.lt (I:Inv X pins σ H s):X.env.locals < s.heap.objs.size:=let ⟨_,hn,_⟩:=I.loc;hn.lt
theorem Inv.sz (I:Inv X pins σ H s):X.s₀.heap.objs.size<=s.heap.objs.size:=YLU I.ok.above (YMf I.lt)
theorem Inv.nofs (I:Inv X pins σ H s) {a:Addr} (h:s.heap.objs.size<=a):a∉X.fs:=λhb=>by
 obtain⟨_,o,ho,_⟩:=I.ok.funs.mem hb;exact absurd (YLG (YK8 ho) (YLU I.sz h)) (YLq _)
theorem Inv.cne (I:Inv X pins σ H s):∀x c,X.env.cells.lookup x=some c->c≠X.env.locals:=λx c e z=>by
 obtain⟨v,o,ho,hd⟩:=I.cell x c e;obtain⟨m,⟨o',es,ep,ho',hd',_⟩,_⟩:=I.loc;rw[z,ho']at ho;cases ho;rw[hd']at hd;cases hd
theorem Inv.funs (I:Inv X pins σ H s):s.heap.FunFrames X.base X.outer:=by
 have all:∀(l:List Env),(∀b∈frs l,b∈X.fs)->X.s₀.heap.FunFrames X.base l->s.heap.FunFrames X.base l:=by
  intro l
  induction l with
  |nil=>intro _ _;trivial
  |cons env r ih=>
   intro hs hl;obtain⟨hk,⟨L,o,hf,hn,ho,hd⟩,hr⟩:=hl;have hL:L∈X.fs:=hs L (by unfold frs;rw[List.filterMap_cons,hf];exact YLJ);obtain⟨sl,e⟩:=I.base.slot L o ho (I.ok.frf L hL) hL λz=>I.ok.exfs L z hL
   exact⟨hk,⟨L,_,hf,hn,e,hd⟩,ih (λb hb=>hs b (by unfold frs;rw[List.filterMap_cons,hf];exact YLA _ hb)) hr⟩
 exact all X.outer (λ_ hb=>hb) I.ok.funs
theorem Inv.stack (I:Inv X pins σ H s):s.heap.FunFrames X.base X.stack:=by
 rcases I.ok.stk with e |⟨e,hf⟩
 ·rw[e];exact I.funs
 ·rw[e];obtain⟨m,hn,_⟩:=I.loc;refine .cons (by rw[I.ok.kind];decide) hf hn ?_ I.funs;exact Heap.get?_none_of_le (YLU I.ok.bsz I.ok.above)
theorem Inv.stkSub (I:Inv X pins σ H s):∀b∈frs X.stack,b∈X.env.locals :: X.fs:=λb hb=>by
 rcases I.ok.stk with e |⟨e,hf⟩
 ·rw[e]at hb;exact YLA _ hb
 ·rw[e]at hb;unfold frs at hb;rw[List.filterMap_cons,hf]at hb;exact hb
theorem Inv.stkFree (I:Inv X pins σ H s):∀b∈frs X.stack,H b=none:=λb hb=>by
 rcases YLB.mp (I.stkSub b hb) with e |hb
 ·rw[e];exact I.free
 ·obtain⟨_,o,ho,_⟩:=I.ok.funs.mem hb;exact I.base.free b o ho (I.ok.frf b hb) λz=>I.ok.exfs b z hb
theorem Inv.step {g':Array GenState}{t':Nat}{d':Drawn}{ch:List Addr} (I:Inv X pins σ H s)
  (sI:∀b∈ch,(b∈X.ex\/X.s₀.heap.objs.size<=b)/\b≠X.env.locals/\(∀x c,X.env.cells.lookup x=some c->c≠b)/\∀p∈X.pn ++ pins,p.1≠b)
  (keep:∀b o,b≠X.env.locals->b∉X.fs->b∉ch->s.heap.get? b=some o->H b=none->h'.get? b=some o)
  (slot:∀b o,b≠X.env.locals->b∈X.fs->b∉ch->s.heap.get? b=some o->H b=none->∃sl,h'.get? b=some { o with slots:=sl }) (free:∀b o,b∉ch->s.heap.get? b=some o->H b=none->H' b=none)
  (there:∀b o,b∉ch->s.heap.get? b=some o->∃o',h'.get? b=some o')
  (tups:∀b xs,H b=some (.tup xs)->H' b=some (.tup xs)) (frzs:∀b o u,H b=some (.frz o u)->H' b=some (.frz o u)) (tbls:∀b ps,H b=some (.tbl ps)->∃more,H' b=some (.tbl (ps ++ more)))
  (ns:∀m,s.heap.Ns X.env.locals m->h'.Ns X.env.locals m) (hok:HOk X.prog X.w H' h') (hg:AllBare g'):
  Inv X pins σ H' { s with heap:=h',gens:=g',drawn:=d',toks:=t' }:=by
 have neL:∀b o,X.s₀.heap.get? b=some o->b≠X.env.locals:=λb o e=>YLW (YLG (YK8 e) I.ok.above)
 have neC:∀b o,X.s₀.heap.get? b=some o->b∉X.ex->b∉ch:=λb o e hx hb=>by
  rcases(sI b hb).1 with z |z
  ·exact hx z
  ·exact absurd (YLG (YK8 e) z) (YLq _)
 have cellK:∀x c,X.env.cells.lookup x=some c->∀v,s.heap.IsCell c v->h'.IsCell c v:=λx c e v ⟨o,ho,hd⟩=>by
  have nch:c∉ch:=λz=>(sI c z).2.2.1 x c e rfl
  by_cases hc:c∈X.fs
  ·obtain⟨sl,q⟩:=slot c o (I.cne x c e) hc nch ho (I.freeC x c e);exact⟨_,q,hd⟩
  ·exact⟨o,keep c o (I.cne x c e) hc nch ho (I.freeC x c e),hd⟩
 refine⟨I.ok,I.os,hg,⟨λb o e n hb hx=>?_,λb o e n hb hx=>?_,λb o e n hx=>?_,λb o e hx=>?_,λb xs e=>tups b xs (I.base.tups b xs e),λb o xs e=>frzs b o xs (I.base.frzs b o xs e),λb ps e=>?_⟩,?_,λx c e=>?_,?_,λx c e=>?_,λp hp=>?_,hok,I.len⟩
 ·exact keep b o (neL b o e) hb (neC b o e hx) (I.base.keep b o e n hb hx) (I.base.free b o e n hx)
 ·obtain⟨sl,e1⟩:=I.base.slot b o e n hb hx;obtain⟨uB,e2⟩:=slot b _ (neL b o e) hb (neC b o e hx) e1 (I.base.free b o e n hx);exact⟨uB,e2⟩
 ·obtain⟨o',e1⟩:=I.base.there b o e hx;exact free b o' (neC b o e hx) e1 (I.base.free b o e n hx)
 ·obtain⟨o',e1⟩:=I.base.there b o e hx;exact there b o' (neC b o e hx) e1
 ·obtain⟨m1,e1⟩:=I.base.tbls b ps e;obtain⟨m2,e2⟩:=tbls b _ e1;exact⟨m1 ++ m2,by rw[e2,Array.append_assoc]⟩
 ·obtain⟨m,hn,hl⟩:=I.loc;refine⟨m,ns m hn,λi x v e1 e2 e3=>?_⟩;obtain⟨u,r,l⟩:=hl i x v e1 e2 e3;refine⟨u,r,?_⟩;rcases l with l |⟨k,c,e,z⟩
  ·exact .inl l
  ·exact .inr ⟨k,c,e,cellK x c e _ z⟩
 ·obtain⟨v,z⟩:=I.cell x c e;exact⟨v,cellK x c e v z⟩
 ·obtain⟨m,⟨o,_,_,ho,_⟩,_⟩:=I.loc;exact free _ o (λz=>(sI _ z).2.1 rfl) ho I.free
 ·obtain⟨v,o,ho,hd⟩:=I.cell x c e;exact free c o (λz=>(sI c z).2.2.1 x c e rfl) ho (I.freeC x c e)
 ·obtain⟨e,n,ne,nf,d⟩:=I.pin p hp;have nch:p.1∉ch:=λz=>(sI p.1 z).2.2.2 p hp rfl
  exact⟨keep p.1 p.2 ne nf nch e n,free p.1 p.2 nch e n,ne,nf,d⟩
theorem Inv.un {t':Nat} (I:Inv X pins σ H s) (u:Un X.fs [] H H' s.heap h') (hok:HOk X.prog X.w H' h'):Inv X pins σ H' { s with heap:=h',toks:=t' }:=by
 obtain⟨m,⟨o,es,ep,ho,r⟩,_⟩:=id I.loc;obtain⟨sl,hL⟩:=u.any ho I.free (by simp);exact I.step (g':=s.gens) (d':=s.drawn) (ch:=[]) (λ_ z=>nomatch z) (λb o _ hb _ e n=>u.keep b o e n hb (by simp)) (λb o _ hb _ e n=>u.slot b o e n hb (by simp)) (λb o _ e n=>u.free b o e n (by simp)) (λb o _ e=>u.there b o e (by simp)) u.tups u.frzs u.tbls (λm' hm=>by
  obtain⟨o',es',ep',ho',r'⟩:=hm;rw[ho]at ho';cases ho';exact⟨_,es',ep',hL,r'⟩) hok I.bare
theorem Inv.call {g':Array GenState}{t':Nat}{d':Drawn}{ch:List Addr} (I:Inv X pins σ H s) (u:Un (frs X.stack) ch H H' s.heap h') (hok:HOk X.prog X.w H' h') (hg:AllBare g')
  (sI:∀b∈ch,(b∈X.ex\/X.s₀.heap.objs.size<=b)/\b≠X.env.locals/\(∀x c,X.env.cells.lookup x=some c->c≠b)/\∀p∈X.pn ++ pins,p.1≠b):
  Inv X pins σ H' { s with heap:=h',gens:=g',drawn:=d',toks:=t' }:=by
 obtain⟨m,⟨o,es,ep,ho,r⟩,_⟩:=id I.loc;obtain⟨sl,hL⟩:=u.any ho I.free λz=>(sI _ z).2.1 rfl
 exact I.step (ch:=ch) sI (λb o hL hb hc e n=>u.keep b o e n (λz=>(YLB.mp (I.stkSub b z)).elim hL hb) hc) (λb o _ _ hc e n=>u.any e n hc) (λb o hc e n=>u.free b o e n hc) (λb o hc e=>u.there b o e hc) u.tups u.frzs u.tbls (λm' hm=>by
  obtain⟨o',es',ep',ho',r'⟩:=hm;rw[ho]at ho';cases ho';exact⟨_,es',ep',hL,r'⟩) hok hg
theorem Inv.turned {t':Nat}{it:Addr} (I:Inv X pins σ H s) (k:∀b o,b≠it->s.heap.get? b=some o->h'.get? b=some o) (hn:H it=none) (hL:it≠X.env.locals)
  (h1:it∈X.ex\/X.s₀.heap.objs.size<=it) (h2:∀x c,X.env.cells.lookup x=some c->c≠it) (h3:∀p∈X.pn ++ pins,p.1≠it):Inv X pins σ H { s with heap:=h',toks:=t' }:=by
 have nit:∀b u,H b=some u->b≠it:=λb u e z=>by rw[z,hn]at e;cases e
 refine I.step (g':=s.gens) (d':=s.drawn) (ch:=[it]) (λb hb=>?_) (λb o _ _ hc e _=>k b o (λz=>hc (by simp[z])) e) (λb o _ _ hc e _=>⟨o.slots,k b o (λz=>hc (by simp[z])) e⟩) (λ_ _ _ _ n=>n)
  (λb o hc e=>⟨o,k b o (λz=>hc (by simp[z])) e⟩) (λ_ _ e=>e) (λ_ _ _ e=>e) (λb ps e=>⟨#[],by rw[e];simp⟩) (λm hm=>?_) (λb u e=>?_) I.bare
 ·have e:b=it:=by simpa using hb
  subst e;exact⟨h1,hL,h2,h3⟩
 ·obtain⟨o,es,ep,ho,r⟩:=hm;exact⟨o,es,ep,k _ o (Ne.symm hL) ho,r⟩
 ·refine(I.hok b u e).stay (λc v hc q=>k c v ?_ q) (λ_ q=>q) λ_ _ q=>q
  rcases hc with z |z
  ·rw[z];exact nit b u e
  ·exact nit c _ z
theorem Inv.tok (I:Inv X pins σ H s) (t:Nat):Inv X pins σ H { s with toks:=t }:=I.un (h':=s.heap) (t':=t) Un.refl I.hok
theorem Inv.kept {t':Nat} (I:Inv X pins σ H s) (k:∀b u,s.heap.get? b=some u->h'.get? b=some u):Inv X pins σ H { s with heap:=h',toks:=t' }:=I.un (Un.kept k) (I.hok.kept k)
theorem Inv.laid {a:Addr}{o:HO}{t':Nat} (I:Inv X pins σ H s) (k:∀b u,s.heap.get? b=some u->h'.get? b=some u) (hp:s.heap.objs.size<=a) (new:Yp X.prog X.w (upd H a o) h' a o):
  Inv X pins σ (upd H a o) { s with heap:=h',toks:=t' }:=I.un (Un.laid k hp (I.hok.fresh hp)) (I.hok.laid k hp new)
theorem Inv.write {x e:Addr}{o:HO}{t':Nat} (I:Inv X pins σ H s) (mu:Mut (H x)) (he:e=x\/H e=some (.own x)) (k:∀b u,b≠e->s.heap.get? b=some u->h'.get? b=some u) (vP:∃u,h'.get? e=some u)
  (new:Yp X.prog X.w (upd H x o) h' x o):Inv X pins σ (upd H x o) { s with heap:=h',toks:=t' }:=I.un (Un.write mu he k vP) (I.hok.write mu he k vP new)
theorem Inv.pins_of {uC:List (Addr×Obj)} (I:Inv X pins σ H s) (h:∀p∈uC,s.heap.get? p.1=some p.2/\H p.1=none/\p.1≠X.env.locals/\p.1∉X.fs/\∀v,p.2.data≠.cell v):Inv X uC σ H s:=
 ⟨I.ok,I.os,I.bare,I.base,I.loc,I.cell,I.free,I.freeC,λp hp=>(YLQ.mp hp).elim (λz=>I.pin p (YLd _ z)) (h p),I.hok,I.len⟩
theorem YFV {N:List Str} (hN:N.Nodup) {i j:Nat}{x:Str} (a:N[i]?=some x) (b:N[j]?=some x):i=j:=by
 obtain⟨h1,e1⟩:=YKy.mp a;obtain⟨h2,e2⟩:=YKy.mp b;exact(List.getElem_inj hN).mp (e1.trans e2.symm)
theorem YIk {M:Model}{A:Around}{E:Value->Shared->Prop}{i:Nat}{x:Str}{v:V}{u:Value}{Q:Unit->Shared->Prop} (I:Inv X pins σ H s) (hN:X.N.Nodup) (hi:X.N[i]?=some x) (hx:Loc X.env.scope x) (r:Yk v u)
  (h:∀s',Inv X pins (σ.set i (some v)) H s'->(∃a,Heap.SameBut a s.heap s'.heap/\(a=X.env.locals\/X.env.cells.lookup x=some a))->Q () s') (hf:X.fn x=true\/X.env.scope.names.lookup x=some .local:=by first |exact .inl rfl |exact .inr rfl |assumption):wpAny M A (storeName X.env x u) Q E s:=by
 obtain⟨m,hn,hl⟩:=id I.loc;have Qg:(X.env.scope.kind == .class || (X.env.scope.kind == .module && X.env.locals != X.env.globals))=false:=by rw[I.ok.kind];rfl
 have hiσ:i < σ.length:=by rw[I.len];exact(YKy.mp hi).1
 have cne:=I.cne;have tracked:∀{a:Addr}{h':Heap},(∃o,s.heap.get? a=some o/\H a=none)->Heap.SameBut a s.heap h'->HOk X.prog X.w H h':=λ{a h'} ha hs b ob e=>by
  obtain⟨_,_,hfree⟩:=ha;refine(I.hok b ob e).stay (λc w' hc q=>(hs.2 c ?_).trans q) (λ_ q=>q) λ_ _ q=>q
  rintro rfl;rcases hc with rfl |hc
  ·rw[hfree]at e;cases e
  ·rw[hfree]at hc;cases hc
 rcases hx with hk |hk
 ·refine wpAny_storeName_local hk hn (λh' hn' hs=>?_) Qg;obtain⟨oL,_,_,hoL,_⟩:=id hn;refine h _ ⟨I.ok,I.os,I.bare,⟨λb o e n hb hx=>?_,λb o e n hb hx=>?_,I.base.free,λb o e hx=>?_,I.base.tups,I.base.frzs,I.base.tbls⟩,⟨_,hn',λj y v' e1 e2 e3=>?_⟩,λy c e=>?_,I.free,I.freeC,λp hp=>?_,tracked ⟨oL,hoL,I.free⟩ hs,by simpa using I.len⟩ ⟨_,hs,.inl rfl⟩
  ·exact(hs.2 b (YLW (YLG (YK8 e) I.ok.above))).trans (I.base.keep b o e n hb hx)
  ·obtain⟨sl,e1⟩:=I.base.slot b o e n hb hx;exact⟨sl,(hs.2 b (YLW (YLG (YK8 e) I.ok.above))).trans e1⟩
  ·obtain⟨o',e1⟩:=I.base.there b o e hx;exact⟨o',(hs.2 b (YLW (YLG (YK8 e) I.ok.above))).trans e1⟩
  ·by_cases hj:j=i
   ·subst hj;rw[hi]at e1;cases e1;rw[YMS hiσ]at e2;cases e2;exact⟨u,r,.inl ⟨hk,by simp⟩⟩
   ·rw[List.getElem?_set_ne (Ne.symm hj)]at e2;obtain⟨u',r',q⟩:=hl j y v' e1 e2 e3;refine⟨u',r',?_⟩;rcases q with ⟨k,e⟩ |⟨k,c,e,z⟩
    ·refine .inl ⟨k,?_⟩;have:y≠x:=λe=>hj (YFV hN e1 (e ▸ hi))
     simp[this,e]
    ·exact .inr ⟨k,c,e,z.sameBut hs (cne y c e)⟩
  ·obtain⟨w',z⟩:=I.cell y c e;exact⟨w',z.sameBut hs (cne y c e)⟩
  ·obtain⟨e,n,ne,nf,d⟩:=I.pin p hp;exact⟨(hs.2 p.1 ne).trans e,n,ne,nf,d⟩
 ·have hfn:X.fn x=true:=by
   rcases hf with z |z
   ·exact z
   ·rw[z]at hk;cases hk
  obtain⟨c,hc⟩:=I.ok.has x (.inl hk);obtain⟨w',z⟩:=I.cell x c hc;refine wpAny_storeName_cell I.ok.kind hk hc z (λh' hc' hs=>?_);obtain⟨oc,Wf,zy⟩:=id z;refine h { s with heap:=h' } ⟨I.ok,I.os,I.bare,⟨λb o e n hb hx=>?_,λb o e n hb hx=>?_,I.base.free,λb o e hx=>?_,I.base.tups,I.base.frzs,I.base.tbls⟩,⟨m,hn.sameBut hs (Ne.symm (cne x c hc)),λj y v' e1 e2 e3=>?_⟩,λy c' e=>?_,I.free,I.freeC,λp hp=>?_,tracked ⟨oc,Wf,I.freeC x c hc⟩ hs,by simpa using I.len⟩ ⟨c,hs,.inr hc⟩
  ·exact(hs.2 b (YLW (YLG (YK8 e) (I.ok.cab x c hfn hc)))).trans (I.base.keep b o e n hb hx)
  ·obtain⟨sl,e1⟩:=I.base.slot b o e n hb hx;exact⟨sl,(hs.2 b (YLW (YLG (YK8 e) (I.ok.cab x c hfn hc)))).trans e1⟩
  ·obtain⟨o',e1⟩:=I.base.there b o e hx;exact⟨o',(hs.2 b (YLW (YLG (YK8 e) (I.ok.cab x c hfn hc)))).trans e1⟩
  ·by_cases hj:j=i
   ·subst hj;rw[hi]at e1;cases e1;rw[YMS hiσ]at e2;cases e2;exact⟨u,r,.inr ⟨.inl hk,c,hc,hc'⟩⟩
   ·rw[List.getElem?_set_ne (Ne.symm hj)]at e2;obtain⟨u',r',q⟩:=hl j y v' e1 e2 e3;refine⟨u',r',?_⟩;rcases q with q |⟨k,c',e,z'⟩
    ·exact .inl q
    ·refine .inr ⟨k,c',e,z'.sameBut hs ?_⟩;rintro rfl;exact hj (YFV hN e1 (I.ok.inj _ _ _ e hc ▸ hi))
  ·by_cases hcc:c'=c
   ·subst hcc;exact⟨_,hc'⟩
   ·obtain⟨w2,z2⟩:=I.cell y c' e;exact⟨w2,z2.sameBut hs hcc⟩
  ·obtain⟨e,n,ne,nf,d⟩:=I.pin p hp;refine⟨(hs.2 p.1 ?_).trans e,n,ne,nf,d⟩;intro q;rw[q,Wf]at e;have q':oc=p.2:=YLP e;exact d w' (by rw[<-q'];exact zy)
theorem YBO {M:Model}{A:Around}{E:Value->Shared->Prop}{i:Nat}{x:Str}{v:V}{u:Value}{Q:Unit->Shared->Prop} (I:Inv X pins σ H s) (hN:X.N.Nodup) (hi:X.N[i]?=some x) (hx:Loc X.env.scope x) (r:Yk v u)
  (h:∀s',Inv X pins (σ.set i (some v)) H s'->Q () s') (hf:X.fn x=true\/X.env.scope.names.lookup x=some .local:=by first |exact .inl rfl |exact .inr rfl |assumption):wpAny M A (storeName X.env x u) Q E s:=
 YIk I hN hi hx r (λs' I' _=>h s' I') hf
theorem Inv.call' {s':Shared}{ch:List Addr} (I:Inv X pins σ H s) (ho:s'.os=s.os) (u:Un (frs X.stack) ch H H' s.heap s'.heap) (hok:HOk X.prog X.w H' s'.heap) (hg:AllBare s'.gens)
  (sI:∀b∈ch,(b∈X.ex\/X.s₀.heap.objs.size<=b)/\b≠X.env.locals/\(∀x c,X.env.cells.lookup x=some c->c≠b)/\∀p∈X.pn ++ pins,p.1≠b):Inv X pins σ H' s':=by
 obtain⟨h',g',d',t',o'⟩:=s';have e:o'=s.os:=ho;subst e;exact I.call (g':=g') (t':=t') (d':=d') u hok hg sI
end
abbrev XK:=Value->Option Addr->Hp->Prop
abbrev St:=List (Option V)
abbrev VK:=V->Hp->Prop
abbrev TE:=St->Hp->VK->Prop
abbrev TT:=St->Hp->(Bool->Hp->Prop)->Prop
abbrev TA:=St->Hp->(List V->Hp->Prop)->Prop
structure YA6 where
 nx:St->Hp->Prop
 rt:VK
 bk:St->Hp->Prop:=λ_ _=>False
 ct:St->Hp->Prop:=λ_ _=>False
abbrev TS:=YA6->St->Hp->Prop
def EP (X:Cx) (pins:List (Addr×Obj)) (σ:St) (Q:VK) (u:Value) (s':Shared):Prop:=∃v H',Inv X pins σ H' s'/\Yk v u/\Q v H'
def TP (X:Cx) (pins:List (Addr×Obj)) (σ:St) (Q:Bool->Hp->Prop) (b:Bool) (s':Shared):Prop:=∃H',Inv X pins σ H' s'/\Q b H'
def AP (X:Cx) (pins:List (Addr×Obj)) (σ:St) (Q:List V->Hp->Prop) (us:List Value) (s':Shared):Prop:=∃vs H',Inv X pins σ H' s'/\Yf vs us/\Q vs H'
def SP (X:Cx) (pins:List (Addr×Obj)) (D:YA6) (f:Flow) (s':Shared):Prop:=
 match f with
 |.next=>∃σ' H',Inv X pins σ' H' s'/\D.nx σ' H'
 |.brk=>∃σ' H',Inv X pins σ' H' s'/\D.bk σ' H'
 |.cont=>∃σ' H',Inv X pins σ' H' s'/\D.ct σ' H'
 |.ret u=>∃v σ' H',Inv X pins σ' H' s'/\Yk v u/\D.rt v H'
def PE (X:Cx) (e:Expr) (t:TE):Prop:=
 ∀(pins:List (Addr×Obj)) (s:Shared) (σ:St) (H:Hp) (Q:VK),Inv X pins σ H s->t σ H Q->wpAny (model X.prog X.w) X.A (eval e X.env) (EP X pins σ Q) X.xe s
def PT (X:Cx) (e:Expr) (t:TT):Prop:=
 ∀(pins:List (Addr×Obj)) (s:Shared) (σ:St) (H:Hp) (Q:Bool->Hp->Prop),Inv X pins σ H s->t σ H Q->wpAny (model X.prog X.w) X.A (isTrue e X.env (eval e X.env)) (TP X pins σ Q) X.xe s
def PW (X:Cx) (e:Expr) (t:TT):Prop:=
 ∀(whole:Sem Value) (pins:List (Addr×Obj)) (s:Shared) (σ:St) (H:Hp) (Q:Bool->Hp->Prop),Inv X pins σ H s->t σ H Q->wpAny (model X.prog X.w) X.A (isTrue e X.env whole) (TP X pins σ Q) X.xe s
theorem PW.pt {X:Cx}{e:Expr}{t:TT} (h:PW X e t):PT X e t:=h _
def PA (X:Cx) (es:List Expr) (t:TA):Prop:=
 ∀(pos:Pos) (pins:List (Addr×Obj)) (s:Shared) (σ:St) (H:Hp) (Q:List V->Hp->Prop),Inv X pins σ H s->t σ H Q->wpAny (model X.prog X.w) X.A (spliced (backTo pos (starEach es X.env))) (AP X pins σ Q) X.xe s
def PS (X:Cx) (st:Stmt) (t:TS):Prop:=
 ∀(pins:List (Addr×Obj)) (s:Shared) (σ:St) (H:Hp) (D:YA6),Inv X pins σ H s->t D σ H->wpAny (model X.prog X.w) X.A (exec st X.env) (SP X pins D) X.xe s
def PSs (X:Cx) (st:List Stmt) (t:TS):Prop:=
 ∀(pins:List (Addr×Obj)) (s:Shared) (σ:St) (H:Hp) (D:YA6),Inv X pins σ H s->t D σ H->wpAny (model X.prog X.w) X.A (execs st X.env) (SP X pins D) X.xe s
theorem thn {α:Type}{t:Sem α}{Q Q':α->Shared->Prop}{M:Model}{A:Around}{E:Value->Shared->Prop}{s:Shared} (h:wpAny M A t Q E s) (hQ:∀a s,Q a s->Q' a s):wpAny M A t Q' E s:=wpAny_mono h hQ λ_ _ x=>x
end L2
namespace L2
open PySem PySem.Spec PyProof.Rows
section
variable {X:Cx}
inductive tVar_ (i:Nat) (σ:St) (H:Hp) (Q:VK):Prop where
 |mk (v:_) (aX:σ[i]?=some (some v)) (aY:Q v H):tVar_ i σ H Q
def tVar (i:Nat):TE:=λσ H Q=>tVar_ i σ H Q
def tC (v:V):TE:=λ_ H Q=>Q v H
theorem pe_var {i:Nat}{x:Str}{pos:Pos} (hN:X.N[i]?=some x) (hv:Vis X.env.scope x) (hd:(x == ("__debug__":Str))=false:=by decide) (hcd:(x == ("__classdict__":Str))=false:=by decide):PE X (.Name x pos) (tVar i):=by
 intro pins s σ H Q I h;obtain⟨v,e,h⟩:=h;obtain⟨m,hn,hl⟩:=I.loc;obtain⟨u,r,l⟩:=hl i x v hN e hv;have fin:EP X pins σ Q u s:=⟨v,H,I,r,h⟩;rcases l with ⟨hk,hm⟩ |⟨hk,c,hc,cM⟩
 ·exact wpAny_Name (wpAny_loadName_local I.ok.kind hk hn hm fin) hd
 ·rcases hk with hk |hk
  ·exact wpAny_Name (wpAny_loadName_cell I.ok.kind hk hc cM fin) hd
  ·exact wpAny_Name (wpAny_loadName_free I.ok.kind hk hc cM fin hcd) hd
theorem YB {i j pos}:PE X (.Constant (.int i) j pos) (tC (.int i)):=λ_ _ _ H _ I h=>wpAny_Constant_int ⟨.int i,H,I.tok _,⟨_,Z⟩,h⟩
theorem Jo {b j pos}:PE X (.Constant (.bool b) j pos) (tC (.bl b)):=λ_ _ _ H _ I h=>Constant_bool ⟨.bl b,H,I,Z,h⟩
theorem J8 {j pos}:PE X (.Constant .none j pos) (tC .non):=λ_ _ _ H _ I h=>Constant_none ⟨.non,H,I,Z,h⟩
theorem Y0 {x j pos}:PE X (.Constant (.str x) j pos) (tC (.str x)):=λ_ _ _ H _ I h=>Calls.Constant_str ⟨.str x,H,I.tok _,⟨_,Z⟩,h⟩
def Gl (X:Cx) (x:Str):Prop:=X.env.kindOf x=some .globalImplicit
theorem YCb {E:Value->Shared->Prop}{pins:List (Addr×Obj)}{s:Shared}{σ:St}{H:Hp}{x:Str}{u:Value}{pos:Pos}{Q:Value->Shared->Prop} (I:Inv X pins σ H s) (hg:Gl X x) (hm:X.mg x=some u) (h:Q u s)
  (hd:(x == ("__debug__":Str))=false:=by decide):wpAny (model X.prog X.w) X.A (eval (.Name x pos) X.env) Q E s:=
 Calls.Name_function_global I.ok.kind hg (Calls.loadGlobal_global (by rw[I.ok.glob];exact I.mod.glob.keeps I.bk) hm h) hd
theorem JR {E:Value->Shared->Prop}{pins:List (Addr×Obj)}{s:Shared}{σ:St}{H:Hp}{x:Str}{u:Value}{pos:Pos}{Q:Value->Shared->Prop} (I:Inv X pins σ H s) (hg:Gl X x) (hm:X.mg x=none) (hv:bootBuiltins x=some u) (h:Q u s)
  (hn:x≠"__name__":=by decide) (hd:(x == ("__debug__":Str))=false:=by decide):wpAny (model X.prog X.w) X.A (eval (.Name x pos) X.env) Q E s:=by
 obtain⟨mb,h1,h2⟩:=I.mod.blt;exact Calls.Name_function_global I.ok.kind hg (Calls.loadGlobal_builtin (by rw[I.ok.glob];exact I.mod.glob.keeps I.bk) hm (by rw[I.ok.blt];exact h1.keeps I.bk) ((h2 x hn).trans hv) h) hd
theorem XX {x:Str}{v:V}{u:Value}{pos:Pos} (hg:Gl X x) (hm:X.mg x=some u) (r:Yk v u) (hd:(x == ("__debug__":Str))=false:=by decide):PE X (.Name x pos) (tC v):=
 λ_ _ _ H _ I h=>YCb I hg hm ⟨v,H,I,r,h⟩ hd
theorem J3 {x:Str}{v:V}{u:Value}{pos:Pos} (hg:Gl X x) (hm:X.mg x=none) (hv:bootBuiltins x=some u) (r:Yk v u) (hn:x≠"__name__":=by decide) (hd:(x == ("__debug__":Str))=false:=by decide):PE X (.Name x pos) (tC v):=
 λ_ _ _ H _ I h=>JR I hg hm hv ⟨v,H,I,r,h⟩ hn hd
variable {a b:Expr}{ta tb:TE}{pos:Pos}
def PC (X:Cx) (op:CmpOp) (a b:Expr) (t:TE):Prop:=
 ∀(pins:List (Addr×Obj)) (s:Shared) (σ:St) (H:Hp) (Q:VK),Inv X pins σ H s->t σ H Q->
  wpAny (model X.prog X.w) X.A (eval a X.env) (λv s₁=>wpAny (model X.prog X.w) X.A (eval b X.env) (λu s₂=>wpAny (model X.prog X.w) X.A (compareOp op v u) (EP X pins σ Q) X.xe s₂) X.xe s₁) X.xe s
inductive tB_ (Q:Bool->Hp->Prop) (x:V) (H1:Hp):Prop where
 |mk (c:_) (aX:x=.bl c) (aY:Q c H1):tB_ Q x H1
def tB (t:TE):TT:=λσ H Q=>t σ H λx H1=>tB_ Q x H1
theorem YEn {op:CmpOp}{t:TE} (h:PC X op a b t) (h1:behindInMarks op b=false:=by first |exact nobehind _ (by decide) (by decide) |rfl):PT X (.Compare a [op] [b] pos) (tB t):=by
 intro pins s σ H Q I hw;refine wpAny_isTrue_Compare1 (thn (h pins s σ H _ I hw) λv s1 h1=>thn h1 λu s2 h2=>thn h2 λc s3 ⟨x,H1,I1,r1,q1⟩=>?_) h1;obtain⟨d,rfl,q⟩:=q1;cases r1;exact wpAny_truthy_bool ⟨H1,I1,q⟩
theorem Z7 {e:Expr}{t:TE} (h:PE X e t) (he:∀whole,isTrue e X.env whole=(do let v <-whole;standAt e.pos;holding [v] (truthy v)):=by intro _;rfl):PT X e (tB t):=by
 intro pins s σ H Q I hw;refine isTrue_plain (thn (h pins s σ H _ I hw) λv s1 ⟨x,H1,I1,r1,q1⟩=>?_) (he _);obtain⟨d,rfl,q⟩:=q1;cases r1;exact wpAny_truthy_bool ⟨H1,I1,q⟩
variable {tA tB':TT}{rest:List Expr}
def tAnd (t u:TT):TT:=λσ H Q=>t σ H λc H1=>if c=true then u σ H1 Q else Q false H1
def tOr (t u:TT):TT:=λσ H Q=>t σ H λc H1=>if c=true then Q true H1 else u σ H1 Q
def tNot (t:TT):TT:=λσ H Q=>t σ H λc H1=>Q (!c) H1
theorem YAp (ha:PT X a tA):PW X (.BoolOp .And [a] pos) tA:=by
 intro wh pins s σ H Q I h;refine isTrue_and (thn (ha pins s σ H Q I h) λc s1 e=>?_);cases c with
 |true=>exact isTrue_and_nil e
 |false=>exact e
theorem YCn (ha:PT X a tA):PW X (.BoolOp .Or [a] pos) tA:=by
 intro wh pins s σ H Q I h;refine isTrue_or (thn (ha pins s σ H Q I h) λc s1 e=>?_);cases c with
 |false=>exact isTrue_or_nil e
 |true=>exact e
theorem YBk (ha:PT X a tA) (hb:PW X (.BoolOp .And (b :: rest) pos) tB'):PW X (.BoolOp .And (a :: b :: rest) pos) (tAnd tA tB'):=by
 intro wh pins s σ H Q I h;refine isTrue_and (thn (ha pins s σ H _ I h) λc s1 ⟨H1,I1,q1⟩=>?_);cases c with
 |true=>exact hb wh pins s1 σ H1 Q I1 q1
 |false=>exact⟨H1,I1,q1⟩
theorem YDt (ha:PT X a tA) (hb:PW X (.BoolOp .Or (b :: rest) pos) tB'):PW X (.BoolOp .Or (a :: b :: rest) pos) (tOr tA tB'):=by
 intro wh pins s σ H Q I h;refine isTrue_or (thn (ha pins s σ H _ I h) λc s1 ⟨H1,I1,q1⟩=>?_);cases c with
 |true=>exact⟨H1,I1,q1⟩
 |false=>exact hb wh pins s1 σ H1 Q I1 q1
theorem Xe (ha:PT X a tA):PT X (.UnaryOp .Not a pos) (tNot tA):=by
 intro pins s σ H Q I h;exact isTrue_not (ha pins s σ H (λc H1=>Q (!c) H1) I h)
def tAndV (ta tb:TE):TE:=λσ H Q=>ta σ H λx H1=>∃c,x=.bl c/\if c=true then tb σ H1 Q else Q (.bl false) H1
def tOrV (ta tb:TE):TE:=λσ H Q=>ta σ H λx H1=>∃c,x=.bl c/\if c=true then Q (.bl true) H1 else tb σ H1 Q
def tNotV (ta:TE):TE:=λσ H Q=>ta σ H λx H1=>∃c,x=.bl c/\Q (.bl (!c)) H1
theorem Jx {op}{t:TE} (h:PE X a t):PE X (.BoolOp op [a] pos) t:=λpins s σ H Q I hw=>BoolOp_one (h pins s σ H Q I hw)
theorem JS (ha:PE X a ta) (hb:PE X (.BoolOp .And (b :: rest) pos) tb):PE X (.BoolOp .And (a :: b :: rest) pos) (tAndV ta tb):=by
 intro pins s σ H Q I h;refine BoolOp_and (thn (ha pins s σ H _ I h) λv s1 ⟨x,H1,I1,r1,q1⟩=>?_);obtain⟨c,rfl,q1⟩:=q1;cases r1;refine wpAny_truthy_bool ?_;cases c with
 |true=>exact hb pins s1 σ H1 Q I1 q1
 |false=>exact⟨.bl false,H1,I1,Z,q1⟩
theorem pe_or (ha:PE X a ta) (hb:PE X (.BoolOp .Or (b :: rest) pos) tb):PE X (.BoolOp .Or (a :: b :: rest) pos) (tOrV ta tb):=by
 intro pins s σ H Q I h;refine BoolOp_or (thn (ha pins s σ H _ I h) λv s1 ⟨x,H1,I1,r1,q1⟩=>?_);obtain⟨c,rfl,q1⟩:=q1;cases r1;refine wpAny_truthy_bool ?_;cases c with
 |false=>exact hb pins s1 σ H1 Q I1 q1
 |true=>exact⟨.bl true,H1,I1,Z,q1⟩
theorem pe_not (ha:PE X a ta):PE X (.UnaryOp .Not a pos) (tNotV ta):=by
 intro pins s σ H Q I h;refine UnaryOp_ (thn (ha pins s σ H _ I h) λv s1 ⟨x,H1,I1,r1,q1⟩=>?_);obtain⟨c,rfl,q1⟩:=q1;cases r1;exact not_of (wpAny_truthy_bool ⟨.bl (!c),H1,I1,Z,q1⟩)
def tIf (t:TT) (ta tb:TE):TE:=λσ H Q=>t σ H λc H1=>if c=true then ta σ H1 Q else tb σ H1 Q
theorem Xo {c:Expr} (hc:PT X c tA) (ha:PE X a ta) (hb:PE X b tb):PE X (.IfExp c a b pos) (tIf tA ta tb):=by
 intro pins s σ H Q I h;refine wpAny_IfExp (thn (hc pins s σ H _ I h) λd s1 ⟨H1,I1,q1⟩=>?_);cases d with
 |true=>exact ha pins s1 σ H1 Q I1 q1
 |false=>exact hb pins s1 σ H1 Q I1 q1
end
end L2
namespace L2
open PySem PySem.Spec PyProof.Rows
def SqL (K:W.Frag) (H:Hp) (a:Addr) (xs:List V):Prop:=
 Rd H a (.lst xs)\/
  ∃(o:Obj) (its:Array Value) (n:Nat),K.lookup a=some o/\o.cls=.type "list"/\o.dict=none/\o.data=.seq its n/\its.size<=sizeLine/\Yf xs its.toList
def SqT (K:W.Frag) (H:Hp) (a:Addr) (xs:List V):Prop:=
 Rd H a (.tup xs)\/
  ∃(o:Obj) (its:Array Value) (n:Nat),K.lookup a=some o/\o.cls=.type "tuple"/\o.data=.seq its n/\its.size<=sizeLine/\Yf xs its.toList
def absV:Value->Option V
 |.none=>some .non
 |.bool b=>some (.bl b)
 |.int i _=>some (.int i)
 |.str x _=>some (.str x)
 |.bytes b _=>some (.byt b)
 |.float b _=>some (.flt b)
 |.ref a=>some (.ref a)
 |.type n=>some (.ty n)
 |_=>none
theorem Yk.abs {x:V}{u:Value} (r:Yk x u):absV u=some x:=by
 cases x with
 |non=>cases r;rfl
 |bl _=>cases r;rfl
 |int _=>obtain⟨t,rfl⟩:=r;rfl
 |str _=>obtain⟨t,rfl⟩:=r;rfl
 |byt _=>obtain⟨t,rfl⟩:=r;rfl
 |flt _=>obtain⟨t,rfl⟩:=r;rfl
 |ref _=>cases r;rfl
 |ty _=>cases r;rfl
theorem Yk.inj {x y:V}{u:Value} (r:Yk x u) (q:Yk y u):x=y:=YLP (r.abs.symm.trans q.abs)
theorem Yf.inj:∀{xs ys:List V}{us:List Value},Yf xs us->Yf ys us->xs=ys
 |_,_,_,.nil,.nil=>rfl
 |_,_,_,.cons r t,.cons r' t'=>by rw[r.inj r',Yf.inj t t']
section
variable {X:Cx}{pins:List (Addr×Obj)}{σ:St}{H:Hp}{s:Shared}{a:Addr}{xs ys:List V}
theorem SqL.of {K:W.Frag} (h:H a=some (.lst xs)):SqL K H a xs:=.inl (.inl h)
theorem SqT.of {K:W.Frag} (h:H a=some (.tup xs)):SqT K H a xs:=.inl (.inl h)
theorem Inv.list (I:Inv X pins σ H s) (h:SqL X.K H a xs):∃its:List Value,Yf xs its/\PlainL s.heap a its.toArray/\xs.length<=sizeLine:=by
 rcases h with h |⟨o,its,n,hk,hc,hd,hs,hz,r⟩
 ·obtain⟨z,its,n,r,e⟩:=h.ok I.hok;exact⟨its,r,⟨_,n,e,Z,Z,Z⟩,z⟩
 ·refine⟨its.toList,r,⟨o,n,I.kIn a o hk,hc,hd,by simpa using hs⟩,?_⟩;have e:=r.length;simp only[YLK]at e;omega
theorem Inv.tuple (I:Inv X pins σ H s) (h:SqT X.K H a xs):∃its:List Value,Yf xs its/\IsTup s.heap a its.toArray/\xs.length<=sizeLine:=by
 rcases h with h |⟨o,its,n,hk,hc,hs,hz,r⟩
 ·obtain⟨z,its,r,p⟩:=h.ok I.hok;exact⟨its,r,p,z⟩
 ·refine⟨its.toList,r,⟨o,I.kIn a o hk,hc,n,by simpa using hs⟩,?_⟩;have e:=r.length;simp only[YLK]at e;omega
theorem Inv.list_inj (I:Inv X pins σ H s) (h:SqL X.K H a xs) (h':SqL X.K H a ys):xs=ys:=by
 obtain⟨its,r,⟨o,n,e,_,_,d⟩,_⟩:=I.list h;obtain⟨its',r',⟨o',n',e',_,_,d'⟩,_⟩:=I.list h';rw[e]at e';cases e';rw[d]at d'
 injection d' with d1 _
 have:its=its':=by simpa using YL5 Array.toList d1
 subst this;exact r.inj r'
theorem Inv.tuple_inj (I:Inv X pins σ H s) (h:SqT X.K H a xs) (h':SqT X.K H a ys):xs=ys:=by
 obtain⟨its,r,⟨o,e,_,n,d⟩,_⟩:=I.tuple h;obtain⟨its',r',⟨o',e',_,n',d'⟩,_⟩:=I.tuple h';rw[e]at e';cases e';rw[d]at d'
 injection d' with d1 _
 have:its=its':=by simpa using YL5 Array.toList d1
 subst this;exact r.inj r'
end
abbrev Cx.wish (X:Cx) (E:Value->Shared->Prop):Cx:={ X with xe:=E }
abbrev Cx.nox (X:Cx):Cx:=X.wish λ_ _=>False
theorem Cx.Ok.wish {X:Cx} (ok:X.Ok) (E:Value->Shared->Prop):(X.wish E).Ok:=
 ⟨ok.mod,ok.kind,ok.glob,ok.blt,ok.above,ok.inj,ok.has,ok.cab,ok.hd,ok.frames,ok.stk,ok.exf,ok.bs,ok.bsz,ok.noex,ok.exfs,ok.funs,ok.frf⟩
theorem Cx.Ok.unwish {X:Cx}{E:Value->Shared->Prop} (ok:(X.wish E).Ok):X.Ok:=
 ⟨ok.mod,ok.kind,ok.glob,ok.blt,ok.above,ok.inj,ok.has,ok.cab,ok.hd,ok.frames,ok.stk,ok.exf,ok.bs,ok.bsz,ok.noex,ok.exfs,ok.funs,ok.frf⟩
section
variable {X:Cx}{pins:List (Addr×Obj)}{σ:St}{H:Hp}{s:Shared}{E:Value->Shared->Prop}
theorem Inv.wish (I:Inv X pins σ H s) (E:Value->Shared->Prop):Inv (X.wish E) pins σ H s:=⟨I.ok.wish E,I.os,I.bare,I.base,I.loc,I.cell,I.free,I.freeC,I.pin,I.hok,I.len⟩
theorem Inv.unwish (I:Inv (X.wish E) pins σ H s):Inv X pins σ H s:=⟨I.ok.unwish,I.os,I.bare,I.base,I.loc,I.cell,I.free,I.freeC,I.pin,I.hok,I.len⟩
theorem SP.unwish {D:YA6}{f:Flow}{s':Shared} (h:SP (X.wish E) pins D f s'):SP X pins D f s':=by
 cases f with
 |next=>obtain⟨σ',H',I,q⟩:=h;exact⟨σ',H',I.unwish,q⟩
 |brk=>obtain⟨σ',H',I,q⟩:=h;exact⟨σ',H',I.unwish,q⟩
 |cont=>obtain⟨σ',H',I,q⟩:=h;exact⟨σ',H',I.unwish,q⟩
 |ret u=>obtain⟨v,σ',H',I,r,q⟩:=h;exact⟨v,σ',H',I.unwish,r,q⟩
theorem PSs.nox {st:List Stmt}{t:TS} (h:PSs X.nox st t):PSs X st t:=λpins s σ H D I hw=>
 wpAny_mono (h pins s σ H D (I.wish _) hw) (λ_ _ q=>q.unwish) λ_ _ z=>False.elim z
end
section
variable {X:Cx}{st:Stmt}{rest:List Stmt}{t u:TS}{e:Expr}{te:TE}{pos:Pos}
def JT:TS:=λD σ H=>D.nx σ H
def tSeq (t u:TS):TS:=λD σ H=>t { D with nx:=u D } σ H
theorem Yd:PSs X [] JT:=λ_ _ σ H _ I h=>wpAny_execs_nil ⟨σ,H,I,h⟩
theorem YO (h1:PS X st t) (h2:PSs X rest u):PSs X (st :: rest) (tSeq t u):=by
 intro pins s σ H D I h;refine wpAny_execs_cons (thn (h1 pins s σ H { D with nx:=u D } I h) λf s1 q=>?_);cases f with
 |next=>
  obtain⟨σ',H',I',q⟩:=q;exact h2 pins s1 σ' H' D I' q
 |ret v=>exact q
 |brk=>exact q
 |cont=>exact q
theorem YG (h1:PS X st t):PSs X [st] t:=by
 intro pins s σ H D I h;refine wpAny_execs_cons (thn (h1 pins s σ H D I h) λf s1 q=>?_);cases f with
 |next=>exact wpAny_execs_nil q
 |ret v=>exact q
 |brk=>exact q
 |cont=>exact q
def tBreak:TS:=λD σ H=>D.bk σ H
theorem YJU:PS X (.Break pos) tBreak:=λ_ _ σ H _ I h=>wpAny_Break ⟨σ,H,I,h⟩
theorem Inv.quiet {pins:List (Addr×Obj)}{σ:St}{H:Hp}{s:Shared} (I:Inv X pins σ H s):interactive X.env=false:=by simp[interactive,I.ok.kind]
def tDrop (te:TE):TS:=λD σ H=>te σ H λ_ H1=>D.nx σ H1
theorem Y6 (he:PE X e te) (hs:swapsWith e none pos.line X.env=pure false:=by rfl):PS X (.Expr e pos) (tDrop te):=by
 intro pins s σ H D I h;exact wpAny_Expr_any (thn (he pins s σ H _ I h) λv s1 ⟨x,H1,I1,r1,q1⟩=>⟨σ,H1,I1,q1⟩) I.quiet hs
def tRet (te:TE):TS:=λD σ H=>te σ H D.rt
theorem YZ (he:PE X e te):PS X (.Return (some e) pos) (tRet te):=by
 intro pins s σ H D I h;exact wpAny_Return_some (thn (he pins s σ H _ I h) λv s1 ⟨x,H1,I1,r1,q1⟩=>⟨x,σ,H1,I1,r1,q1⟩)
def tRetN:TS:=λD _ H=>D.rt .non H
theorem ps_retN:PS X (.Return none pos) tRetN:=λ_ _ σ H _ I h=>wpAny_Return_none ⟨.non,σ,H,I,Z,h⟩
def tIfS (c:TT) (t u:TS):TS:=λD σ H=>c σ H λb H1=>if b=true then t D σ H1 else u D σ H1
theorem Y1 {c:Expr}{a b:List Stmt}{tc:TT} (hc:PT X c tc) (ha:PSs X a t) (hb:PSs X b u):PS X (.If c a b pos) (tIfS tc t u):=by
 intro pins s σ H D I h;refine wpAny_If (thn (hc pins s σ H _ I h) λd s1 ⟨H1,I1,q1⟩=>?_);cases d with
 |true=>exact ha pins s1 σ H1 D I1 q1
 |false=>exact hb pins s1 σ H1 D I1 q1
end
abbrev TG:=V->St->Hp->(St->Hp->Prop)->Prop
abbrev TGs:=List V->St->Hp->(St->Hp->Prop)->Prop
def PG (X:Cx) (target:Expr) (t:TG):Prop:=
 ∀(pins:List (Addr×Obj)) (s:Shared) (σ:St) (H:Hp) (v:V) (u:Value) (Q:St->Hp->Prop),Inv X pins σ H s->Yk v u->t v σ H Q->
  wpAny (model X.prog X.w) X.A (assign target X.env u) (λ_ s'=>∃σ' H',Inv X pins σ' H' s'/\Q σ' H') X.xe s
def PGs (X:Cx) (ts:List Expr) (t:TGs):Prop:=
 ∀(pins:List (Addr×Obj)) (s:Shared) (σ:St) (H:Hp) (vs:List V) (us:List Value) (Q:St->Hp->Prop),Inv X pins σ H s->Yf vs us->t vs σ H Q->
  wpAny (model X.prog X.w) X.A (assignInOrder ((assignEach ts X.env).map (·.2)) us) (λ_ s'=>∃σ' H',Inv X pins σ' H' s'/\Q σ' H') X.xe s
abbrev TSet:=V->V->V->Hp->(Hp->Prop)->Prop
def PSet (X:Cx) (t:TSet):Prop:=
 ∀(pins:List (Addr×Obj)) (s:Shared) (σ:St) (H:Hp) (o i v:V) (ov iv u:Value) (Q:Hp->Prop),Inv X pins σ H s->Yk o ov->Yk i iv->Yk v u->t o i v H Q->
  wpAny (model X.prog X.w) X.A (setItem ov iv u) (λ_ s'=>∃H',Inv X pins σ H' s'/\Q H') X.xe s
abbrev TIp:=V->V->Hp->VK->Prop
def PIp (X:Cx) (op:Operator) (t:TIp):Prop:=
 ∀(pins:List (Addr×Obj)) (s:Shared) (σ:St) (H:Hp) (x y:V) (v u:Value) (Q:VK),Inv X pins σ H s->Yk x v->Yk y u->t x y H Q->
  wpAny (model X.prog X.w) X.A (inplaceOp op v u) (EP X pins σ Q) X.xe s
section
variable {X:Cx}{pos:Pos}
def Yu (i:Nat):TG:=λv σ H Q=>Q (σ.set i (some v)) H
theorem YU {i:Nat}{x:Str} (hN:X.N.Nodup) (hi:X.N[i]?=some x) (hx:Loc X.env.scope x) (hf:X.fn x=true\/X.env.scope.names.lookup x=some .local:=by first |exact .inl rfl |exact .inr rfl |assumption):PG X (.Name x pos) (Yu i):=by
 intro pins s σ H v u Q I r h;exact wpAny_assign_Name (YBO I hN hi hx r (λs' I'=>⟨_,H,I',h⟩) hf)
inductive gNil_ (vs:List V) (σ:St) (H:Hp) (Q:St->Hp->Prop):Prop where
 |mk (aX:vs=[]) (aY:Q σ H):gNil_ vs σ H Q
def gNil:TGs:=λvs σ H Q=>gNil_ vs σ H Q
inductive YJV (t:TG) (u:TGs) (vs:List V) (σ:St) (H:Hp) (Q:St->Hp->Prop):Prop where
 |mk (v:_) (r:_) (aX:vs=v :: r) (aY:t v σ H λσ' H'=>u r σ' H' Q):YJV t u vs σ H Q
def gCons (t:TG) (u:TGs):TGs:=λvs σ H Q=>YJV t u vs σ H Q
theorem Jj:PGs X [] gNil:=by
 intro pins s σ H vs us Q I r h;obtain⟨e,h⟩:=h;subst e;cases r;exact assignInOrder_nil ⟨σ,H,I,h⟩
theorem Yv {e:Expr}{es:List Expr}{t:TG}{u:TGs} (h1:PG X e t) (h2:PGs X es u)
  (hs:(assignEach (e :: es) X.env).map (·.2)=assign e X.env :: (assignEach es X.env).map (·.2):=by rfl):PGs X (e :: es) (gCons t u):=by
 intro pins s σ H vs us Q I r h;obtain⟨v,vr,e1,h⟩:=h;subst e1;cases r with
 |cons r rr=>
  rw[hs];refine assignInOrder_cons (thn (h1 pins s σ H _ _ _ I r h) λ_ s1 ⟨σ1,H1,I1,q1⟩=>?_);exact h2 pins s1 σ1 H1 _ _ Q I1 rr q1
inductive gTup_ (K:W.Frag) (n:Nat) (t:TGs) (v:V) (σ:St) (H:Hp) (Q:St->Hp->Prop):Prop where
 |mk (a:_) (xs:_) (aX:v=.ref a) (aY:SqT K H a xs) (bU:xs.length=n) (cN:t xs σ H Q):gTup_ K n t v σ H Q
def gTup (K:W.Frag) (n:Nat) (t:TGs):TG:=λv σ H Q=>gTup_ K n t v σ H Q
theorem pg_tup {es:List Expr}{k:Nat}{t:TGs}{n:Nat} (hc:X.calm=true) (h:PGs X es t)
  (hn:(assignEach es X.env).length=n:=by rfl) (hst:(assignEach es X.env).findIdx? (·.1)=none:=by rfl):PG X (.Tuple es k pos) (gTup X.K n t):=by
 intro pins s σ H v u Q I r hw;obtain⟨a,xs,e1,hq,hl,hw⟩:=hw;subst e1;cases r;obtain⟨its,rv,ht,hz⟩:=I.tuple hq;refine assign_Tuple_tuple (I.ok.hd hc) ht (by simp[hn,<-hl,rv.length]) hst λh' hx=>?_
 have I1:Inv X pins σ H { s with heap:=h' }:=I.kept (t':=s.toks) λb o e=>hx b o (YLW (YK8 e)) e
 exact h pins _ σ H xs _ Q I1 (by simpa using rv) hw
def gSub (to ti:TE) (t:TSet):TG:=λv σ H Q=>to σ H λo H1=>ti σ H1 λi H2=>t o i v H2 λH3=>Q σ H3
theorem YGy {o i:Expr}{to ti:TE}{t:TSet} (ho:PE X o to) (hi:PE X i ti) (hs:PSet X t)
  (ha:∀v,assign (.Subscript o i pos) X.env v=(do
   let ov <-holding [v] (eval o X.env)
   let iv <-holding [v,ov] (eval i X.env)
   standAt pos
   holding [v,ov,iv] (setItem ov iv v)
   release [v,ov,iv] []):=by intro _;rfl):PG X (.Subscript o i pos) (gSub to ti t):=by
 intro pins s σ H v u Q I r h;rw[ha];refine YKz (wpAny_holding (thn (ho pins s σ H _ I h) λov s1 ⟨x,H1,I1,r1,q1⟩=>?_));refine YKz (wpAny_holding (thn (hi pins s1 σ H1 _ I1 q1) λiv s2 ⟨y,H2,I2,r2,q2⟩=>?_));refine YKz (wpAny_standAt (YKz (wpAny_holding (thn (hs pins s2 σ H2 x y v ov iv u _ I2 r1 r2 r q2) λ_ s3 ⟨H3,I3,q3⟩=>?_))));exact wpAny_release ⟨σ,H3,I3,q3⟩
def tAsg (te:TE) (g:TG):TS:=λD σ H=>te σ H λx H1=>g x σ H1 D.nx
theorem YEo {tg e:Expr}{te:TE}{g:TG} (he:PE X e te) (hg:PG X tg g) (hs:swapsWithSole [tg] e pos.line X.env=pure false:=by rfl) (hw:swappedStores [tg] e X.env=pure none:=by rfl)
  (h1:(assignEach [tg] X.env).map (·.2)=[assign tg X.env]:=by rfl):PS X (.Assign [tg] e pos) (tAsg te g):=by
 intro pins s σ H D I h;refine wpAny_Assign_stores (thn (he pins s σ H _ I h) λv s1 ⟨x,H1,I1,r1,q1⟩=>?_) hs hw;rw[h1];exact thn (hg pins s1 σ H1 x v _ I1 r1 q1) λ_ s2 q=>q
theorem YQ {i:Nat}{x:Str}{e:Expr}{te:TE}{eY:Pos} (hN:X.N.Nodup) (hi:X.N[i]?=some x) (hx:Loc X.env.scope x) (he:PE X e te) (hs:swapsWith e (some (.Name x eY)) pos.line X.env=pure false:=by rfl) (hf:X.fn x=true\/X.env.scope.names.lookup x=some .local:=by first |exact .inl rfl |exact .inr rfl |assumption):
  PS X (.Assign [.Name x eY] e pos) (tAsg te (Yu i)):=by
 intro pins s σ H D I h;refine wpAny_Assign_Name (thn (he pins s σ H _ I h) λv s1 ⟨y,H1,I1,r1,q1⟩=>?_) hs;exact YBO I1 hN hi hx r1 (λs2 I2=>⟨_,H1,I2,q1⟩) hf
def tAug (i:Nat) (te:TE) (ti:TIp):TS:=λD σ H=>∃x,σ[i]?=some (some x)/\te σ H λy H1=>ti x y H1 λz H2=>D.nx (σ.set i (some z)) H2
theorem YJW {i:Nat}{x:Str}{e:Expr}{te:TE}{op:Operator}{ti:TIp}{eY:Pos} (hN:X.N.Nodup) (hi:X.N[i]?=some x) (hx:Loc X.env.scope x) (he:PE X e te) (ho:PIp X op ti) (hf:X.fn x=true\/X.env.scope.names.lookup x=some .local:=by first |exact .inl rfl |exact .inr rfl |assumption):
  PS X (.AugAssign (.Name x eY) op e pos) (tAug i te ti):=by
 intro pins s σ H D I h;obtain⟨v,e1,h⟩:=h;obtain⟨m,hn,hl⟩:=I.loc;have vis:Vis X.env.scope x:=by rcases hx with k |k;exact .inl k;exact .inr (.inl k)
 obtain⟨u,r,l⟩:=hl i x v hi e1 vis;refine wpAny_AugAssign_Name ?_;have go:wpAny (model X.prog X.w) X.A (eval e X.env) (λw s₂=>wpAny (model X.prog X.w) X.A (inplaceOp op u w) (λr s₃=>wpAny (model X.prog X.w) X.A (storeName X.env x r) (λ_=>SP X pins D .next) X.xe s₃) X.xe s₂) X.xe s:=by
  refine thn (he pins s σ H _ I h) λw s1 ⟨y,H1,I1,r1,q1⟩=>?_
  refine thn (ho pins s1 σ H1 v y u w _ I1 r r1 q1) λz s2 ⟨zv,H2,I2,r2,q2⟩=>?_
  exact YBO I2 hN hi hx r2 (λs3 I3=>⟨_,H2,I3,q2⟩) hf
 rcases l with ⟨hk,hm⟩ |⟨hk,c,hc,cM⟩
 ·exact wpAny_loadName_local I.ok.kind hk hn hm go
 ·rcases hk with hk |hk
  ·exact wpAny_loadName_cell I.ok.kind hk hc cM go
  ·rcases hx with k |k
   ·have:X.env.scope.names.lookup x=some .free:=hk;rw[k]at this;cases this
   ·have:X.env.scope.names.lookup x=some .free:=hk;rw[k]at this;cases this
def ipI (f:Int->Int->Int):TIp:=λx y H Q=>∃i j,x=.int i/\y=.int j/\Q (.int (f i j)) H
theorem YJX:PIp X .Add (ipI λi j=>i + j):=by
 intro pins s σ H x y v u Q I r1 r2 h;obtain⟨i,j,e1,e2,q⟩:=h;subst e1;subst e2;obtain⟨t,rfl⟩:=r1;obtain⟨t',rfl⟩:=r2;exact iadd_int ⟨.int _,H,I.tok _,⟨_,Z⟩,q⟩
end
section
variable {X:Cx}{pos:Pos}
def YJY (c:TT) (tb:TS):TS:=λD σ H=>∃W:Nat->St->Hp->Prop,(∃m,W m σ H)/\∀m σ H,W m σ H->
 c σ H λb H1=>if b=true then ∃N:St->Hp->Prop,(∀σ' H',N σ' H'->∃m',m' < m/\W m' σ' H')/\tb { D with nx:=N,ct:=N,bk:=D.nx } σ H1 else D.nx σ H1
theorem YCo {c:Expr}{body:List Stmt}{tc:TT}{tb:TS} (hp:PassesOwn (model X.prog X.w) X.A X.env X.xe) (hc:PT X c tc) (hb:PSs X body tb):PS X (.While c body [] pos) (YJY tc tb):=by
 intro pins s σ H D I h;obtain⟨W,⟨m0,w0⟩,turn⟩:=h;refine wpAny_While (codeAny_whileLoop (λn s'=>∃σ' H',Inv X pins σ' H' s'/\W n σ' H') ?_ m0 ⟨σ,H,I,w0⟩);rintro n s1 ⟨σ1,H1,I1,w1⟩;refine wpAny_passesOwn hp (thn (hc pins s1 σ1 H1 _ I1 (turn n σ1 H1 w1)) λb s2 ⟨H2,I2,q2⟩=>?_);cases b with
 |true=>
  obtain⟨N,hN,q2⟩:=q2;rw[if_pos rfl];refine wpAny_passesOwn hp (thn (hb pins s2 σ1 H2 _ I2 q2) λf s3 q3=>?_);cases f with
  |next=>
   obtain⟨σ3,H3,I3,n3⟩:=q3;obtain⟨m',hm,w3⟩:=hN σ3 H3 n3;exact⟨m',hm,σ3,H3,I3,w3⟩
  |cont=>
   obtain⟨σ3,H3,I3,n3⟩:=q3;obtain⟨m',hm,w3⟩:=hN σ3 H3 n3;exact⟨m',hm,σ3,H3,I3,w3⟩
  |brk=>exact q3
  |ret v=>exact q3
 |false=>
  rw[if_neg YLD];exact wpAny_execs_nil ⟨σ1,H2,I2,q2⟩
end
structure It where
 go:Nat->Hp->Prop
 yld:Nat->Hp->V->Hp->Prop
 stop:Nat->Hp->Prop
def YAO (X:Cx) (pins:List (Addr×Obj)) (H:Hp) (b:Addr):Prop:=
 H b=none/\b≠X.env.locals/\b∉X.fs/\(b∈X.ex\/X.s₀.heap.objs.size<=b)/\(∀x c,X.env.cells.lookup x=some c->c≠b)/\∀p∈X.pn ++ pins,p.1≠b
theorem Inv.fpOk {X:Cx}{pins:List (Addr×Obj)}{σ:St}{H H':Hp}{s:Shared}{b:Addr} (I:Inv X pins σ H s) (hb:s.heap.objs.size<=b) (hn:H' b=none):YAO X pins H' b:=by
 refine⟨hn,YMJ (YLG I.lt hb),I.nofs hb,.inr (YLU I.sz hb),λx c e z=>?_,λp hp z=>?_⟩
 ·obtain⟨v,q⟩:=I.cell x c e;exact absurd (YLG q.lt (by rw[z];exact hb)) (YLq _)
 ·exact absurd (YLG (YK8 (I.pin p hp).1) (by rw[z];exact hb)) (YLq _)
structure YEp (P:Program) (w:World) (K:W.Frag) (tg:Expr) (J:It) (fp:List Addr) (it:Addr) (tn:Nat->Heap->Prop):Prop where
 mem:it∈fp
 obj:∀i h,tn i h->∀b∈fp,∃o,h.get? b=some o/\∀v,o.data≠.cell v
 keep:∀i h h',tn i h->(∀b∈fp,∀o,h.get? b=some o->h'.get? b=some o)->tn i h'
 item:∀(X:Cx),X.prog=P->X.w=w->X.K=K->X.calm=true->∀(i:Nat) (pins:List (Addr×Obj)) (s:Shared) (σ:St) (H:Hp) (E:Value->Shared->Prop),Inv X pins σ H s->(∀b∈fp,YAO X pins H b)->tn i s.heap->J.go i H->
  wpAny (model P w) X.A (pyNext (.ref it)) (λr s1=>∃u,r=some u/\
   wpAny (model P w) X.A (letOwnedTupleGo tg (.ref it) u) (λ_ s2=>∃x H',Inv X pins σ H' s2/\Yk x u/\J.yld i H x H'/\tn (i + 1) s2.heap/\∀b∈fp,H' b=none) E s1) E s
 done:∀(X:Cx),X.prog=P->X.w=w->X.K=K->X.calm=true->∀(i:Nat) (pins:List (Addr×Obj)) (s:Shared) (σ:St) (H:Hp) (E:Value->Shared->Prop),Inv X pins σ H s->(∀b∈fp,YAO X pins H b)->tn i s.heap->J.stop i H->
  wpAny (model P w) X.A (pyNext (.ref it)) (λr s1=>r=none/\Inv X pins σ H s1) E s
 self:∀(A:Around) (i:Nat) (s:Shared) (Q:Value->Shared->Prop) (E:Value->Shared->Prop),tn i s.heap->Q (.ref it) s->wpAny (model P w) A (pyIter (.ref it)) Q E s
abbrev TI:=St->Hp->(It->Hp->Prop)->Prop
def PIE (X:Cx) (pins:List (Addr×Obj)) (σ:St) (tg:Expr) (R:It->Hp->Prop) (itv:Value) (s2:Shared):Prop:=
 ∃(it:Addr) (fp:List Addr) (tn:Nat->Heap->Prop) (J:It) (H':Hp),itv=.ref it/\Inv X pins σ H' s2/\YEp X.prog X.w X.K tg J fp it tn/\tn 0 s2.heap/\(∀b∈fp,YAO X pins H' b)/\R J H'
def PI (X:Cx) (tg iter:Expr) (wi:TI):Prop:=
 ∀(pins:List (Addr×Obj)) (s:Shared) (σ:St) (H:Hp) (R:It->Hp->Prop),Inv X pins σ H s->wi σ H R->
  wpAny (model X.prog X.w) X.A (eval iter X.env) (λv s1=>wpAny (model X.prog X.w) X.A (pyIter v) (PIE X pins σ tg R) X.xe s1) X.xe s
theorem YHm {M:Model}{A:Around}{E:Value->Shared->Prop}{s:Shared}{tg:Expr}{it:Addr}{u:Value}{o:Obj}{n:String}{vs:Array Value}{Q:Unit->Shared->Prop} (ho:s.heap.get? it=some o) (hc:o.cls=.type n) (hd:o.data=.fields vs)
  (hn:["enumerate","zip","dict_itemiterator","dict_reverseitemiterator","odict_iterator","itertools.zip_longest","itertools.pairwise"].contains n=false) (hQ:Q () s):wpAny M A (letOwnedTupleGo tg (.ref it) u) Q E s:=by
 unfold letOwnedTupleGo;cases tg <;> first
  |exact YLO hQ
  |(cases u <;> first
    |exact YLO hQ
    |(refine YKz (wpAny_load ho ?_)
      rw[hc,hd];show wpAny M A (if (["enumerate","zip","dict_itemiterator","dict_reverseitemiterator","odict_iterator","itertools.zip_longest","itertools.pairwise"].contains n && vs[0]? == some (rawInt _))=true then _ else _) Q E s;rw[if_neg (by intro h;rw[hn,Bool.false_and]at h;cases h)];exact YLO hQ))
def Itl (K:W.Frag) (a:Addr):It:=
 ⟨λi H=>∃xs x,SqL K H a xs/\xs[i]?=some x,λi H x H'=>H'=H/\∀xs,SqL K H a xs->xs[i]?=some x,λi H=>∃xs,SqL K H a xs/\xs.length<=i⟩
def Itt (K:W.Frag) (a:Addr):It:=
 ⟨λi H=>∃xs x,SqT K H a xs/\xs[i]?=some x,λi H x H'=>H'=H/\∀xs,SqT K H a xs->xs[i]?=some x,λi H=>∃xs,SqT K H a xs/\xs.length<=i⟩
def Itr (lo:Int) (n:Nat):It:=⟨λi _=>i < n,λi H x H'=>H'=H/\x=.int (lo + i),λi _=>n<=i⟩
theorem YIl {P:Program}{w:World}{K:W.Frag}{tg:Expr} (a it:Addr):YEp P w K tg (Itl K a) [it] it (λi h=>h.IsListIter it a i) where
 mem:=by simp
 obj:=λi h st b hb=>by
  have e:b=it:=by simpa using hb
  subst e;obtain⟨o,e,c,d⟩:=st;exact⟨o,e,λv z=>by rw[d]at z;cases z⟩
 keep:=λi h h' st k=>st.at λo e=>k it (by simp) o e
 item:=by
  intro X hP hw hK hc i pins s σ H E I hf st hg;subst hP hw hK;obtain⟨xs,x,hq,hx⟩:=hg;obtain⟨its,rv,p,hz⟩:=I.list hq;obtain⟨u,hu,ru⟩:=rv.get hx;obtain⟨f0,f1,f2,f3,f4,f5⟩:=hf it (by simp);refine wpAny_pyNext_list_item st p.isList (x:=u) (by simpa using hu) λh' st' sb=>?_
  have I1:Inv X pins σ H { s with heap:=h' }:=I.turned (t':=s.toks) (λb o hb e=>(sb.2 b hb).trans e) f0 f1 f3 f4 f5;obtain⟨o,e,c,d⟩:=id st';exact⟨u,Z,YHm (s:={ s with heap:=h' }) e c d (by decide) ⟨x,H,I1,ru,⟨Z,λys hy=>by rw[I.list_inj hy hq];exact hx⟩,st',λb hb=>(hf b hb).1⟩⟩
 done:=by
  intro X hP hw hK hc i pins s σ H E I hf st hg;subst hP hw hK;obtain⟨xs,hq,hx⟩:=hg;obtain⟨its,rv,p,hz⟩:=I.list hq;obtain⟨f0,f1,f2,f3,f4,f5⟩:=hf it (by simp);have hl:=rv.length;exact wpAny_pyNext_list_end (I.ok.hd hc) st p.isList (by simp;omega) λh' eb=>⟨Z,I.turned (t':=s.toks) (λb o hb e=>eb b o hb e) f0 f1 f3 f4 f5⟩
 self:=λ_ _ _ _ _ st h=>wpAny_pyIter_listiter st h
theorem YGz {P:Program}{w:World}{K:W.Frag}{tg:Expr} (a it:Addr):YEp P w K tg (Itt K a) [it] it (λi h=>h.IsTupleIter it a i) where
 mem:=by simp
 obj:=λi h st b hb=>by
  have e:b=it:=by simpa using hb
  subst e;obtain⟨o,e,c,d⟩:=st;exact⟨o,e,λv z=>by rw[d]at z;cases z⟩
 keep:=λi h h' st k=>st.at λo e=>k it (by simp) o e
 item:=by
  intro X hP hw hK hc i pins s σ H E I hf st hg;subst hP hw hK;obtain⟨xs,x,hq,hx⟩:=hg;obtain⟨its,rv,p,hz⟩:=I.tuple hq;obtain⟨u,hu,ru⟩:=rv.get hx;obtain⟨f0,f1,f2,f3,f4,f5⟩:=hf it (by simp);refine wpAny_pyNext_tuple_item st (show s.heap.IsTuple a its.toArray from p) (x:=u) (by simpa using hu) λh' st' sb=>?_
  have I1:Inv X pins σ H { s with heap:=h' }:=I.turned (t':=s.toks) (λb o hb e=>(sb.2 b hb).trans e) f0 f1 f3 f4 f5;obtain⟨o,e,c,d⟩:=id st';exact⟨u,Z,YHm (s:={ s with heap:=h' }) e c d (by decide) ⟨x,H,I1,ru,⟨Z,λys hy=>by rw[I.tuple_inj hy hq];exact hx⟩,st',λb hb=>(hf b hb).1⟩⟩
 done:=by
  intro X hP hw hK hc i pins s σ H E I hf st hg;subst hP hw hK;obtain⟨xs,hq,hx⟩:=hg;obtain⟨its,rv,p,hz⟩:=I.tuple hq;obtain⟨f0,f1,f2,f3,f4,f5⟩:=hf it (by simp);have hl:=rv.length;exact wpAny_pyNext_tuple_end (I.ok.hd hc) st (show s.heap.IsTuple a its.toArray from p) (by simp;omega) λh' eb=>⟨Z,I.turned (t':=s.toks) (λb o hb e=>eb b o hb e) f0 f1 f3 f4 f5⟩
 self:=λ_ _ _ _ _ st h=>wpAny_pyIter_tupleiter st h
theorem YG0 {P:Program}{w:World}{K:W.Frag}{tg:Expr} (it:Addr) (lo:Int) (n:Nat):YEp P w K tg (Itr lo n) [it] it (λi h=>IsRangeIter h it (lo + (i:Nat) * 1) ((n:Int) - (i:Nat)) 1) where
 mem:=by simp
 obj:=λi h st b hb=>by
  have e:b=it:=by simpa using hb
  subst e;exact⟨_,st,λv z=>by
   have z':Data.fields _=Data.cell v:=z;cases z'⟩
 keep:=λi h h' st k=>k it (by simp) _ st
 item:=by
  intro X hP hw hK hc i pins s σ H E I hf st hg;subst hP hw hK;obtain⟨f0,f1,f2,f3,f4,f5⟩:=hf it (by simp);have W:=Walks.range (prog:=X.prog) (w:=X.w) (I.ok.hd hc) it lo 1 n;refine W.item i s _ _ hg st λv h' tk hv st' kk=>?_
  obtain⟨t,rfl⟩:=hv;have I1:Inv X pins σ H { s with heap:=h',toks:=tk }:=I.turned (λb o hb e=>kk b o (by simpa using hb) e) f0 f1 f3 f4 f5;refine⟨_,Z,YHm (s:={ s with heap:=h',toks:=tk }) (n:="range_iterator") st' rfl rfl (by decide) ⟨.int (lo + i),H,I1,⟨t,?_⟩,⟨Z,Z⟩,st',λb hb=>(hf b hb).1⟩⟩;rw[Int.mul_one]
 done:=by
  intro X hP hw hK hc i pins s σ H E I hf st hg;subst hP hw hK;obtain⟨f0,f1,f2,f3,f4,f5⟩:=hf it (by simp);exact wpAny_pyNext_range_end (I.ok.hd hc) st (by have:n<=i:=hg;omega) λh' eb=>⟨Z,I.turned (t':=s.toks) (λb o hb e=>eb b o hb e) f0 f1 f3 f4 f5⟩
 self:=λ_ _ _ _ _ st h=>wpAny_pyIter_rangeiter st h
end L2
namespace L2
open PySem PySem.Spec PyProof.Rows
section
variable {X:Cx}{tg:Expr}
inductive YJZ (K:W.Frag) (R:It->Hp->Prop) (x:V) (H1:Hp):Prop where
 |mk (a:_) (aX:x=.ref a) (aY:(∃xs,SqL K H1 a xs)) (bU:R (Itl K a) H1):YJZ K R x H1
def iList (K:W.Frag) (tl:TE):TI:=λσ H R=>tl σ H λx H1=>YJZ K R x H1
inductive iTup_ (K:W.Frag) (R:It->Hp->Prop) (x:V) (H1:Hp):Prop where
 |mk (a:_) (aX:x=.ref a) (aY:(∃xs,SqT K H1 a xs)) (bU:R (Itt K a) H1):iTup_ K R x H1
def iTup (K:W.Frag) (tl:TE):TI:=λσ H R=>tl σ H λx H1=>iTup_ K R x H1
theorem pi_list {l:Expr}{tl:TE} (hl:PE X l tl):PI X tg l (iList X.K tl):=by
 intro pins s σ H R I h;refine thn (hl pins s σ H _ I h) λv s1 ⟨x,H1,I1,r1,q1⟩=>?_
 obtain⟨a,e,⟨xs,hq⟩,q⟩:=q1;subst e;cases r1;obtain⟨its,rv,p,hz⟩:=I1.list hq;refine wpAny_pyIter_list p.isList ?_;refine⟨s1.heap.objs.size,[s1.heap.objs.size],_,_,H1,Z,I1.kept (t':=s1.toks) λb o e=>YK3 _ e,YIl a _,⟨_,YLI _ rfl,Z,Z⟩,λb hb=>?_,q⟩;have e:b=s1.heap.objs.size:=by simpa using hb
 subst e;exact I1.fpOk (YKv _) (I1.hok.fresh (YKv _))
theorem pi_tup {l:Expr}{tl:TE} (hl:PE X l tl):PI X tg l (iTup X.K tl):=by
 intro pins s σ H R I h;refine thn (hl pins s σ H _ I h) λv s1 ⟨x,H1,I1,r1,q1⟩=>?_
 obtain⟨a,e,⟨xs,hq⟩,q⟩:=q1;subst e;cases r1;obtain⟨its,rv,p,hz⟩:=I1.tuple hq;refine wpAny_pyIter_tuple (show s1.heap.IsTuple a its.toArray from p) ?_;refine⟨s1.heap.objs.size,[s1.heap.objs.size],_,_,H1,Z,I1.kept (t':=s1.toks) λb o e=>YK3 _ e,YGz a _,⟨_,YLI _ rfl,Z,Z⟩,λb hb=>?_,q⟩;have e:b=s1.heap.objs.size:=by simpa using hb
 subst e;exact I1.fpOk (YKv _) (I1.hok.fresh (YKv _))
theorem YFW {pins:List (Addr×Obj)}{σ:St}{H:Hp}{s:Shared}{R:It->Hp->Prop}{E:Value->Shared->Prop}{lo hi:Int}{t u v:Tok}{tk:Nat} (I:Inv X pins σ H s) (h1:-(2 ^ 62)<=lo) (h2:lo < 2 ^ 62) (h3:-(2 ^ 62)<=hi) (h4:hi < 2 ^ 62)
  (q:R (Itr lo (hi - lo).toNat) H):wpAny (model X.prog X.w) X.A (pyIter (.ref s.heap.objs.size)) (PIE X pins σ tg R) E { s with heap:=s.heap.push { cls:=.type "range",data:=.fields #[.int lo t,.int hi u,.int 1 v] },toks:=tk }:=by
 refine wpAny_pyIter_range (IsRange.new ..) (small_one h1 h2 h3 h4) ?_;have I1:Inv X pins σ H { s with heap:=s.heap.push { cls:=.type "range",data:=.fields #[.int lo t,.int hi u,.int 1 v] },toks:=tk }:=I.kept λb o e=>YK3 _ e
 refine⟨(s.heap.push { cls:=.type "range",data:=.fields #[.int lo t,.int hi u,.int 1 v] }).objs.size,[(s.heap.push { cls:=.type "range",data:=.fields #[.int lo t,.int hi u,.int 1 v] }).objs.size],_,_,H,Z,
  I1.kept (t':=tk) λb o e=>YK3 _ e,YG0 _ lo (hi - lo).toNat,?_,λb hb=>?_,q⟩
 ·have e1:lo + ((0:Nat):Int) * 1=lo:=by simp
  have e2:(((hi - lo).toNat:Nat):Int) - ((0:Nat):Int)=Builtin.Range.rangeSize lo hi 1:=by rw[rangeSize_one];split <;> omega
  show IsRangeIter _ _ (lo + ((0:Nat):Int) * 1) ((((hi - lo).toNat:Nat):Int) - ((0:Nat):Int)) 1;rw[e1,e2];exact YLI _ rfl
 ·have e:b=(s.heap.push { cls:=.type "range",data:=.fields #[.int lo t,.int hi u,.int 1 v] }).objs.size:=by simpa using hb
  subst e;exact I1.fpOk (YKv _) (I1.hok.fresh (YKv _))
inductive YJa (R:It->Hp->Prop) (vs:List V) (H1:Hp):Prop where
 |mk (j:Int) (aX:vs=[.int j]) (aY:-(2 ^ 62)<=j) (bU:j < 2 ^ 62) (cN:R (Itr 0 j.toNat) H1):YJa R vs H1
def iRng1 (ta:TA):TI:=λσ H R=>ta σ H λvs H1=>YJa R vs H1
inductive YJb (R:It->Hp->Prop) (vs:List V) (H1:Hp):Prop where
 |mk (i:Int) (j:Int) (aX:vs=[.int i,.int j]) (aY:(-(2 ^ 62)<=i/\i < 2 ^ 62/\-(2 ^ 62)<=j/\j < 2 ^ 62)) (bU:R (Itr i (j - i).toNat) H1):YJb R vs H1
def iRng2 (ta:TA):TI:=λσ H R=>ta σ H λvs H1=>YJb R vs H1
theorem Zb {a:Expr}{ta:TA}{p pos:Pos} (hg:Gl X "range") (hm:X.mg "range"=none) (ha:PA X [a] ta) (hs:starEach [a] X.env=[(false,eval a X.env)]:=by rfl):PI X tg (.Call (.Name "range" p) [a] [] pos) (iRng1 ta):=by
 intro pins s σ H R I h;refine Call_ (JR I hg hm boot_range (PyProof.Rows.callWith_type1 (thn (ha pos pins s σ H _ I h) λus s1 ⟨vs,H1,I1,r1,q1⟩=>?_) hs rfl));obtain⟨j,e,q1,q2,q⟩:=q1;subst e;cases r1 with
 |cons r rr=>
  cases rr;obtain⟨t,rfl⟩:=r;exact call_range_1 (YFW I1 (by omega) (by omega) q1 q2 (by simpa using q))
theorem YBl {a b:Expr}{ta:TA}{p pos:Pos} (hg:Gl X "range") (hm:X.mg "range"=none) (ha:PA X [a,b] ta) (hs:starEach [a,b] X.env=[(false,eval a X.env),(false,eval b X.env)]:=by rfl) (hs2:starEach [b] X.env=[(false,eval b X.env)]:=by rfl):
  PI X tg (.Call (.Name "range" p) [a,b] [] pos) (iRng2 ta):=by
 intro pins s σ H R I h;refine Call_ (JR I hg hm boot_range (PyProof.Rows.callWith_type1 (thn (ha pos pins s σ H _ I h) λus s1 ⟨vs,H1,I1,r1,q1⟩=>?_) (by rw[hs,hs2]) (by rw[hs2];rfl)));obtain⟨i,j,e,⟨q1,q2,q3,q4⟩,q⟩:=q1;subst e;cases r1 with
 |cons r rr=>
  cases rr with
  |cons r' rr=>
   cases rr;obtain⟨t,rfl⟩:=r;obtain⟨t',rfl⟩:=r';exact call_range_2 (YFW I1 q1 q2 q3 q4 q)
def tFor (wi:TI) (g:TG) (tb:TS):TS:=λD σ H=>wi σ H λJ H1=>∃W:Nat->Nat->St->Hp->Prop,(∃m,W 0 m σ H1)/\∀i m σ H,W i m σ H->
 (J.stop i H/\D.nx σ H)\/(J.go i H/\∃N:St->Hp->Prop,(∀σ' H',N σ' H'->∃m',m' < m/\W (i + 1) m' σ' H')/\∀x H',J.yld i H x H'->g x σ H' λσ2 H2=>tb { D with nx:=N,ct:=N,bk:=D.nx } σ2 H2)
def YBm (fp:List Addr) (h:Heap):List (Addr×Obj):=fp.filterMap λb=>(h.get? b).map λo=>(b,o)
theorem JH {fp:List Addr}{h:Heap}{b:Addr}{o:Obj} (hb:b∈fp) (e:h.get? b=some o):(b,o)∈YBm fp h:=List.mem_filterMap.mpr ⟨b,hb,by rw[e];rfl⟩
theorem YIm {fp:List Addr}{h:Heap}{p:Addr×Obj} (hp:p∈YBm fp h):p.1∈fp/\h.get? p.1=some p.2:=by
 obtain⟨b,hb,e⟩:=List.mem_filterMap.mp hp;cases q:h.get? b with
 |none=>rw[q]at e;cases e
 |some o=>
  rw[q]at e;have e':(b,o)=p:=YLP e;subst e';exact⟨hb,q⟩
theorem Inv.pinned {pins:List (Addr×Obj)}{σ:St}{H:Hp}{s:Shared}{fp:List Addr} (I:Inv X pins σ H s) (hf:∀b∈fp,YAO X pins H b) (ho:∀b∈fp,∃o,s.heap.get? b=some o/\∀v,o.data≠.cell v):Inv X (pins ++ YBm fp s.heap) σ H s:=
 I.pins_of λp hp=>(YLQ.mp hp).elim (λz=>I.pin p (YLH _ z)) λz=>by
  obtain⟨hb,e⟩:=YIm z;obtain⟨f0,f1,f2,_⟩:=hf p.1 hb;obtain⟨o,e',d⟩:=ho p.1 hb;rw[e]at e';cases e';exact⟨e,f0,f1,f2,d⟩
theorem Inv.unpinned {pins pl:List (Addr×Obj)}{σ:St}{H:Hp}{s:Shared} (I:Inv X (pins ++ pl) σ H s):Inv X pins σ H s:=I.pins_of λp hp=>I.pin p (YLH _ (YLd _ hp))
theorem Y2 {iter:Expr}{body:List Stmt}{wi:TI}{g:TG}{tb:TS}{pos:Pos} (hp:PassesOwn (model X.prog X.w) X.A X.env X.xe) (hc:X.calm=true) (hi:PI X tg iter wi) (hg:PG X tg g) (hb:PSs X body tb)
  (hs:∀x,foldedSetIterable iter X.env x=pure x:=by intro _;rfl):PS X (.For tg iter body [] pos) (tFor wi g tb):=by
 intro pins s σ H D I h;refine wpAny_For (thn (hi pins s σ H _ I h) λv s1 h1=>thn h1 λitv s2 h2=>?_) hs;obtain⟨it,fp,tn,J,H2,e,I2,T,jF,f2,W,⟨m0,w0⟩,turn⟩:=h2;subst e;have jG:∀{H':Hp},(∀b∈fp,H' b=none)->∀b∈fp,YAO X pins H' b:=λhn b hb=>⟨hn b hb,(f2 b hb).2⟩
 refine codeAny_forLoop_any (λn s'=>∃i σ' H',Inv X pins σ' H' s'/\tn i s'.heap/\(∀b∈fp,H' b=none)/\W i n σ' H') ?_ m0 ⟨0,σ,H2,I2,jF,λb hb=>(f2 b hb).1,w0⟩;rintro n s3 ⟨i,σ3,H3,I3,iw,Wg,w3⟩;rcases turn i n σ3 H3 w3 with ⟨stop,qn⟩ |⟨go,N,hN,step⟩
 ·refine wpAny_passesOwn hp (thn (T.done X rfl rfl rfl hc i pins s3 σ3 H3 X.xe I3 (jG Wg) iw stop) λr s4 ⟨hr,I4⟩=>?_);subst hr;exact wpAny_execs_nil ⟨σ3,H3,I4,qn⟩
 ·refine wpAny_passesOwn hp (thn (T.item X rfl rfl rfl hc i pins s3 σ3 H3 X.xe I3 (jG Wg) iw go) λr s4 ⟨u,hr,h4⟩=>?_);subst hr;refine wpAny_passesOwn hp (thn h4 ?_);rintro _ s5 ⟨x,H5,I5,r5,y5,lB,Rn⟩;have I5':=I5.pinned (jG Rn) (T.obj _ _ lB);refine wpAny_passesOwn hp (thn (hg _ s5 σ3 H5 x u _ I5' r5 (step x H5 y5)) λ_ s6 ⟨σ6,H6,I6,q6⟩=>?_);refine wpAny_passesOwn hp (thn (hb _ s6 σ6 H6 _ I6 q6) λf s7 q7=>?_);have again:∀{σ7:St}{H7:Hp},Inv X (pins ++ YBm fp s5.heap) σ7 H7 s7->N σ7 H7->∃m,m < n/\∃i σ' H',Inv X pins σ' H' s7/\tn i s7.heap/\(∀b∈fp,H' b=none)/\W i m σ' H':=λ{σ7 H7} I7 n7=>by
   obtain⟨m',hm,w7⟩:=hN σ7 H7 n7;refine⟨m',hm,i + 1,σ7,H7,I7.unpinned,T.keep _ _ _ lB λb hb o e=>(I7.pin (b,o) (YLH _ (YLH _ (JH hb e)))).1,λb hb=>?_,w7⟩;obtain⟨o,e,d⟩:=T.obj _ _ lB b hb;exact(I7.pin (b,o) (YLH _ (YLH _ (JH hb e)))).2.1
  cases f with
  |next=>obtain⟨σ7,H7,I7,n7⟩:=q7;exact again I7 n7
  |cont=>obtain⟨σ7,H7,I7,n7⟩:=q7;exact again I7 n7
  |brk=>obtain⟨σ7,H7,I7,q7⟩:=q7;exact⟨σ7,H7,I7.unpinned,q7⟩
  |ret v=>obtain⟨x7,σ7,H7,I7,r7,q7⟩:=q7;exact⟨x7,σ7,H7,I7.unpinned,r7,q7⟩
end
theorem J9 {K:W.Frag}{a:Addr}{xs:List V}{g:TG}{tb:TS}{D:YA6}{σ:St}{H:Hp} (Pv:Nat->St->Hp->Prop) (h0:Pv 0 σ H) (hl:∀i σ H,i<=xs.length->Pv i σ H->SqL K H a xs)
  (hs:∀i x σ H,xs[i]?=some x->Pv i σ H->g x σ H λσ2 H2=>tb { D with nx:=Pv (i + 1),ct:=Pv (i + 1),bk:=D.nx } σ2 H2) (hd:∀σ H,Pv xs.length σ H->D.nx σ H):
  ∃W:Nat->Nat->St->Hp->Prop,(∃m,W 0 m σ H)/\∀i m σ H,W i m σ H->
   ((Itl K a).stop i H/\D.nx σ H)\/((Itl K a).go i H/\∃N:St->Hp->Prop,(∀σ' H',N σ' H'->∃m',m' < m/\W (i + 1) m' σ' H')/\∀x H',(Itl K a).yld i H x H'->g x σ H' λσ2 H2=>tb { D with nx:=N,ct:=N,bk:=D.nx } σ2 H2):=by
 refine⟨λi m σ H=>m=xs.length - i/\i<=xs.length/\Pv i σ H,⟨xs.length,by simp,YLS _,h0⟩,?_⟩;rintro i m σ H ⟨rfl,hi,p⟩;have q:=hl i σ H hi p
 by_cases hlt:i < xs.length
 ·refine .inr ⟨⟨xs,xs[i],q,by simp[hlt]⟩,Pv (i + 1),λσ' H' p'=>⟨xs.length - (i + 1),by omega,Z,hlt,p'⟩,λx H' y=>?_⟩;obtain⟨e,y⟩:=y;subst e;exact hs i x σ _ (y xs q) p
 ·have e:i=xs.length:=by omega
  subst e;exact .inl ⟨⟨xs,q,YKv _⟩,hd σ H p⟩
theorem YEq {K:W.Frag}{a:Addr}{xs:List V}{g:TG}{tb:TS}{D:YA6}{σ:St}{H:Hp} (Pv:Nat->St->Hp->Prop) (h0:Pv 0 σ H) (hl:∀i σ H,i<=xs.length->Pv i σ H->SqT K H a xs)
  (hs:∀i x σ H,xs[i]?=some x->Pv i σ H->g x σ H λσ2 H2=>tb { D with nx:=Pv (i + 1),ct:=Pv (i + 1),bk:=D.nx } σ2 H2) (hd:∀σ H,Pv xs.length σ H->D.nx σ H):
  ∃W:Nat->Nat->St->Hp->Prop,(∃m,W 0 m σ H)/\∀i m σ H,W i m σ H->
   ((Itt K a).stop i H/\D.nx σ H)\/((Itt K a).go i H/\∃N:St->Hp->Prop,(∀σ' H',N σ' H'->∃m',m' < m/\W (i + 1) m' σ' H')/\∀x H',(Itt K a).yld i H x H'->g x σ H' λσ2 H2=>tb { D with nx:=N,ct:=N,bk:=D.nx } σ2 H2):=by
 refine⟨λi m σ H=>m=xs.length - i/\i<=xs.length/\Pv i σ H,⟨xs.length,by simp,YLS _,h0⟩,?_⟩;rintro i m σ H ⟨rfl,hi,p⟩;have q:=hl i σ H hi p
 by_cases hlt:i < xs.length
 ·refine .inr ⟨⟨xs,xs[i],q,by simp[hlt]⟩,Pv (i + 1),λσ' H' p'=>⟨xs.length - (i + 1),by omega,Z,hlt,p'⟩,λx H' y=>?_⟩;obtain⟨e,y⟩:=y;subst e;exact hs i x σ _ (y xs q) p
 ·have e:i=xs.length:=by omega
  subst e;exact .inl ⟨⟨xs,q,YKv _⟩,hd σ H p⟩
theorem JP {lo:Int}{n:Nat}{g:TG}{tb:TS}{D:YA6}{σ:St}{H:Hp} (Pv:Nat->St->Hp->Prop) (h0:Pv 0 σ H)
  (hs:∀i σ H,i < n->Pv i σ H->g (.int (lo + i)) σ H λσ2 H2=>tb { D with nx:=Pv (i + 1),ct:=Pv (i + 1),bk:=D.nx } σ2 H2) (hd:∀σ H,Pv n σ H->D.nx σ H):
  ∃W:Nat->Nat->St->Hp->Prop,(∃m,W 0 m σ H)/\∀i m σ H,W i m σ H->
   ((Itr lo n).stop i H/\D.nx σ H)\/((Itr lo n).go i H/\∃N:St->Hp->Prop,(∀σ' H',N σ' H'->∃m',m' < m/\W (i + 1) m' σ' H')/\∀x H',(Itr lo n).yld i H x H'->g x σ H' λσ2 H2=>tb { D with nx:=N,ct:=N,bk:=D.nx } σ2 H2):=by
 refine⟨λi m σ H=>m=n - i/\i<=n/\Pv i σ H,⟨n,by simp,YLS _,h0⟩,?_⟩;rintro i m σ H ⟨rfl,hi,p⟩
 by_cases hlt:i < n
 ·refine .inr ⟨hlt,Pv (i + 1),λσ' H' p'=>⟨n - (i + 1),by omega,Z,hlt,p'⟩,λx H' y=>?_⟩;obtain⟨e,y⟩:=y;subst e y;exact hs i σ _ hlt p
 ·have e:i=n:=by omega
  subst e;exact .inl ⟨YKv _,hd σ H p⟩
theorem YJc {c:TT}{tb:TS}{D:YA6}{σ:St}{H:Hp} (Pv:St->Hp->Prop) (μ:St->Hp->Nat) (h0:Pv σ H)
  (hs:∀σ H,Pv σ H->c σ H λb H1=>if b=true then tb { D with nx:=λσ' H'=>Pv σ' H'/\μ σ' H' < μ σ H,ct:=λσ' H'=>Pv σ' H'/\μ σ' H' < μ σ H,bk:=D.nx } σ H1 else D.nx σ H1)
  (mono:∀σ H Q Q',(∀b H1,Q b H1->Q' b H1)->c σ H Q->c σ H Q'):YJY c tb D σ H:=by
 refine⟨λm σ H=>m=μ σ H/\Pv σ H,⟨_,Z,h0⟩,?_⟩;rintro m σ H ⟨rfl,p⟩;refine mono σ H _ _ (λb H1 q=>?_) (hs σ H p);cases b with
 |true=>exact⟨_,λσ' H' ⟨p',l⟩=>⟨_,l,Z,p'⟩,q⟩
 |false=>exact q
end L2
namespace L2
open PySem PySem.Spec PyProof.Rows
abbrev R2:=V->V->Hp->VK->Prop
def OpR (X:Cx) (f:Value->Value->Sem Value) (r:R2):Prop:=
 ∀(pins:List (Addr×Obj)) (s:Shared) (σ:St) (H:Hp) (x y:V) (v u:Value) (Q:VK),Inv X pins σ H s->Yk x v->Yk y u->r x y H Q->
  wpAny (model X.prog X.w) X.A (f v u) (EP X pins σ Q) X.xe s
def UnR (X:Cx) (f:Value->Sem Value) (r:V->Hp->VK->Prop):Prop:=
 ∀(pins:List (Addr×Obj)) (s:Shared) (σ:St) (H:Hp) (x:V) (v:Value) (Q:VK),Inv X pins σ H s->Yk x v->r x H Q->
  wpAny (model X.prog X.w) X.A (f v) (EP X pins σ Q) X.xe s
def Jp (X:Cx) (f:Value) (r:List V->Hp->VK->Prop):Prop:=
 ∀(pins:List (Addr×Obj)) (s:Shared) (σ:St) (H:Hp) (xs:List V) (us:List Value) (Q:VK),Inv X pins σ H s->Yf xs us->r xs H Q->
  wpAny (model X.prog X.w) X.A (call f us) (EP X pins σ Q) X.xe s
def TruR (X:Cx) (r:V->Hp->(Bool->Hp->Prop)->Prop):Prop:=
 ∀(pins:List (Addr×Obj)) (s:Shared) (σ:St) (H:Hp) (x:V) (v:Value) (Q:Bool->Hp->Prop),Inv X pins σ H s->Yk x v->r x H Q->
  wpAny (model X.prog X.w) X.A (truthy v) (TP X pins σ Q) X.xe s
def tOp (r:R2) (ta tb:TE):TE:=λσ H Q=>ta σ H λx H1=>tb σ H1 λy H2=>r x y H2 Q
def tUn (r:V->Hp->VK->Prop) (ta:TE):TE:=λσ H Q=>ta σ H λx H1=>r x H1 Q
inductive rI_ (C:Int->Int->Prop) (g:Int->Int->V) (x:V) (y:V) (H:Hp) (Q:VK):Prop where
 |mk (i:_) (j:_) (aX:x=.int i) (aY:y=.int j) (bU:C i j) (cN:Q (g i j) H):rI_ C g x y H Q
def rI (C:Int->Int->Prop) (g:Int->Int->V):R2:=λx y H Q=>rI_ C g x y H Q
inductive rI0_ (g:Int->Int->V) (x:V) (y:V) (H:Hp) (Q:VK):Prop where
 |mk (i:_) (j:_) (aX:x=.int i) (aY:y=.int j) (bU:Q (g i j) H):rI0_ g x y H Q
def rI0 (g:Int->Int->V):R2:=λx y H Q=>rI0_ g x y H Q
inductive rU_ (g:Int->V) (x:V) (H:Hp) (Q:VK):Prop where
 |mk (i:_) (aX:x=.int i) (aY:Q (g i) H):rU_ g x H Q
def rU (g:Int->V):V->Hp->VK->Prop:=λx H Q=>rU_ g x H Q
section
variable {X:Cx}{a b c:Expr}{ta tb tc:TE}{pos:Pos}
theorem binT (ha:PE X a ta) (hb:PE X b tb) {pins:List (Addr×Obj)}{s:Shared}{σ:St}{H:Hp}{R:V->V->Hp->Prop} (I:Inv X pins σ H s)
  (h:ta σ H λx H1=>tb σ H1 λy H2=>R x y H2) {Q:Value->Shared->Prop}{f:Value->Value->Sem Value}
  (hf:∀v u s2 x y H2,Inv X pins σ H2 s2->Yk x v->Yk y u->R x y H2->wpAny (model X.prog X.w) X.A (f v u) Q X.xe s2):
  wpAny (model X.prog X.w) X.A (eval a X.env) (λv s₁=>wpAny (model X.prog X.w) X.A (eval b X.env) (λu s₂=>wpAny (model X.prog X.w) X.A (f v u) Q X.xe s₂) X.xe s₁) X.xe s:=by
 refine thn (ha pins s σ H _ I h) λv s1 ⟨x,H1,I1,r1,q1⟩=>?_
 refine thn (hb pins s1 σ H1 _ I1 q1) λu s2 ⟨y,H2,I2,r2,q2⟩=>?_
 exact hf v u s2 x y H2 I2 r1 r2 q2
theorem YI {op:Operator}{r:R2} (ho:OpR X (binaryOp op) r) (ha:PE X a ta) (hb:PE X b tb):PE X (.BinOp a op b pos) (tOp r ta tb):=by
 intro pins s σ H Q I h;exact wpAny_BinOp (binT ha hb I h λv u s2 x y H2 I2 rx ry q=>ho pins s2 σ H2 x y v u Q I2 rx ry q)
theorem YHn {op:UnaryOp}{r:V->Hp->VK->Prop} (ho:UnR X (unaryOp op) r) (ha:PE X a ta):PE X (.UnaryOp op a pos) (tUn r ta):=by
 intro pins s σ H Q I h;exact UnaryOp_ (thn (ha pins s σ H _ I h) λv s1 ⟨x,H1,I1,r1,q1⟩=>ho pins s1 σ H1 x v Q I1 r1 q1)
theorem opI {f:Value->Value->Sem Value}{C:Int->Int->Prop}{g:Int->Int->Int}
  (rule:∀(i j:Int) (t u:Tok) (s:Shared) (Q:Value->Shared->Prop) (E:Value->Shared->Prop),C i j->Q (.int (g i j) s.toks) { s with toks:=s.toks + 1 }->wpAny (model X.prog X.w) X.A (f (.int i t) (.int j u)) Q E s):
  OpR X f (rI C λi j=>.int (g i j)):=by
 intro pins s σ H x y v u Q I rx ry h;obtain⟨i,j,rfl,rfl,hc,q⟩:=h;obtain⟨t,rfl⟩:=rx;obtain⟨t',rfl⟩:=ry;exact rule i j t t' s _ _ hc ⟨.int (g i j),H,I.tok _,⟨_,Z⟩,q⟩
theorem opI0 {f:Value->Value->Sem Value}{g:Int->Int->Int}
  (rule:∀(i j:Int) (t u:Tok) (s:Shared) (Q:Value->Shared->Prop) (E:Value->Shared->Prop),Q (.int (g i j) s.toks) { s with toks:=s.toks + 1 }->wpAny (model X.prog X.w) X.A (f (.int i t) (.int j u)) Q E s):
  OpR X f (rI0 λi j=>.int (g i j)):=by
 intro pins s σ H x y v u Q I rx ry h;obtain⟨i,j,rfl,rfl,q⟩:=h;obtain⟨t,rfl⟩:=rx;obtain⟨t',rfl⟩:=ry;exact rule i j t t' s _ _ ⟨.int (g i j),H,I.tok _,⟨_,Z⟩,q⟩
theorem opB0 {f:Value->Value->Sem Value}{g:Int->Int->Bool}
  (rule:∀(i j:Int) (t u:Tok) (s:Shared) (Q:Value->Shared->Prop) (E:Value->Shared->Prop),Q (.bool (g i j)) s->wpAny (model X.prog X.w) X.A (f (.int i t) (.int j u)) Q E s):
  OpR X f (rI0 λi j=>.bl (g i j)):=by
 intro pins s σ H x y v u Q I rx ry h;obtain⟨i,j,rfl,rfl,q⟩:=h;obtain⟨t,rfl⟩:=rx;obtain⟨t',rfl⟩:=ry;exact rule i j t t' s _ _ ⟨.bl (g i j),H,I,Z,q⟩
def CDiv (i j:Int):Prop:=0 < j/\j < 1073741824
def CPow (i j:Int):Prop:=0<=j/\j<=1000000/\i.natAbs < 2 ^ 64
def CMul (i j:Int):Prop:=(-(2 ^ 64) < i/\i < 2 ^ 64)\/(-(2 ^ 64) < j/\j < 2 ^ 64)
theorem CMul.ok {i j:Int} (h:CMul i j):IntMulOk i j:=by
 rcases h with ⟨h1,h2⟩ |⟨h1,h2⟩
 ·exact .of_left (intBits_le_64 h1 h2)
 ·exact .of_right (intBits_le_64 h1 h2)
theorem Yh:OpR X (binaryOp .Add) (rI0 λi j=>.int (i + j)):=opI0 λ_ _ _ _ _ _ _ q=>add_int q
theorem Zg:OpR X (binaryOp .Sub) (rI0 λi j=>.int (i - j)):=opI0 λ_ _ _ _ _ _ _ q=>sub_int q
theorem YBn:OpR X (binaryOp .Mult) (rI CMul λi j=>.int (i * j)):=opI λ_ _ _ _ _ _ _ hc q=>mul_int q hc.ok
theorem ZQ:OpR X (binaryOp .FloorDiv) (rI CDiv λi j=>.int (i / j)):=opI λi j _ _ _ _ _ hc q=>by
 have h1:(0:Int) < j:=hc.1;have h2:j < 1073741824:=hc.2;exact floordiv_int (by omega) (by rw[Int.fdiv_eq_ediv_of_nonneg i (by omega)];exact q) (.inl (PyProof.noPylong_small (by omega)))
theorem ZA:OpR X (binaryOp .Mod) (rI (λ_ j=>0 < j) λi j=>.int (i % j)):=opI λi j _ _ _ _ _ hc q=>by
 have h1:(0:Int) < j:=hc;exact mod_int' (by omega) (by rw[Int.fmod_eq_emod_of_nonneg i (by omega)];exact q)
theorem YAP:OpR X (binaryOp .Pow) (rI CPow λi j=>.int (i ^ j.toNat)):=opI λ_ _ _ _ _ _ _ hc q=>pow_int_small hc.1 hc.2.1 hc.2.2 q
theorem unI {f:Value->Sem Value}{g:Int->Int}
  (rule:∀(i:Int) (t:Tok) (s:Shared) (Q:Value->Shared->Prop) (E:Value->Shared->Prop),Q (.int (g i) s.toks) { s with toks:=s.toks + 1 }->wpAny (model X.prog X.w) X.A (f (.int i t)) Q E s):
  UnR X f (rU λi=>.int (g i)):=by
 intro pins s σ H x v Q I rx h;obtain⟨i,rfl,q⟩:=h;obtain⟨t,rfl⟩:=rx;exact rule i t s _ _ ⟨.int (g i),H,I.tok _,⟨_,Z⟩,q⟩
theorem YEr:UnR X (unaryOp .USub) (rU λi=>.int (-i)):=unI λ_ _ _ _ _ q=>neg_int q
end
def scal:V->V->Bool
 |.non,.non=>true |.non,.int _=>true |.int _,.non=>true |.non,.bl _=>true |.bl _,.non=>true |.non,.str _=>true |.str _,.non=>true
 |.int _,.int _=>true |.bl _,.bl _=>true |.str _,.str _=>true |.byt _,.byt _=>true
 |.int _,.str _=>true |.str _,.int _=>true |.bl _,.str _=>true |.str _,.bl _=>true
 |_,_=>false
inductive rEq_ (x:V) (y:V) (H:Hp) (Q:VK):Prop where
 |mk (aX:scal x y=true) (aY:Q (.bl (decide (x=y))) H):rEq_ x y H Q
def rEq:R2:=λx y H Q=>rEq_ x y H Q
inductive rNe_ (x:V) (y:V) (H:Hp) (Q:VK):Prop where
 |mk (aX:scal x y=true) (aY:Q (.bl (!decide (x=y))) H):rNe_ x y H Q
def rNe:R2:=λx y H Q=>rNe_ x y H Q
theorem YHo {i j:Int}:decide (V.int i=V.int j)=(i == j):=by
 rw[YMR];simp
theorem YJd {i j:Bool}:decide (V.bl i=V.bl j)=(i == j):=by
 rw[YMR];simp
theorem YHp {i j:Str}:decide (V.str i=V.str j)=(i == j):=by
 rw[YMR];simp
theorem YHq {i j:Array UInt8}:decide (V.byt i=V.byt j)=(i.toList == j.toList):=by
 rw[YMR];cases i;cases j;simp
section
variable {X:Cx}{a b c:Expr}{ta tb tc:TE}{pos:Pos}
theorem Yn {pins:List (Addr×Obj)}{σ:St}{H:Hp}{s:Shared}{Q:VK}{k k':Bool} (I:Inv X pins σ H s) (q:Q (.bl k) H) (e:k=k'):EP X pins σ Q (.bool k') s:=by
 subst e;exact⟨.bl k,H,I,Z,q⟩
theorem XA:OpR X (compareOp .Eq) rEq:=by
 intro pins s σ H x y v u Q I rx ry h;obtain⟨hs,q⟩:=h;cases x with
 |non=>
  cases rx;cases y with
  |non=>cases ry;exact PySem.EqNone.eq_none_none (Yn I q (by simp))
  |bl j=>cases ry;exact PySem.EqNone.eq_none_bool (Yn I q (by simp))
  |int j=>obtain⟨t',rfl⟩:=ry;exact PySem.EqNone.eq_none_int (Yn I q (by simp))
  |str j=>obtain⟨t',rfl⟩:=ry;exact PySem.EqNone.eq_none_str (Yn I q (by simp))
  |_=>exact absurd (show false=true from hs) YLD
 |bl i=>
  cases rx;cases y with
  |non=>cases ry;exact PySem.EqNone.eq_bool_none (Yn I q (by simp))
  |bl j=>cases ry;exact eq_bool (Yn I q YJd)
  |str j=>obtain⟨t',rfl⟩:=ry;exact PySem.EqMixed.eq_bool_str (Yn I q (by simp))
  |_=>exact absurd (show false=true from hs) YLD
 |int i=>
  obtain⟨t,rfl⟩:=rx;cases y with
  |non=>cases ry;exact PySem.EqNone.eq_int_none (Yn I q (by simp))
  |int j=>obtain⟨t',rfl⟩:=ry;exact eq_int (Yn I q YHo)
  |str j=>obtain⟨t',rfl⟩:=ry;exact PySem.EqMixed.eq_int_str (Yn I q (by simp))
  |_=>exact absurd (show false=true from hs) YLD
 |str i=>
  obtain⟨t,rfl⟩:=rx;cases y with
  |non=>cases ry;exact PySem.EqNone.eq_str_none (Yn I q (by simp))
  |bl j=>cases ry;exact PySem.EqMixed.eq_str_bool (Yn I q (by simp))
  |int j=>obtain⟨t',rfl⟩:=ry;exact PySem.EqMixed.eq_str_int (Yn I q (by simp))
  |str j=>obtain⟨t',rfl⟩:=ry;exact eq_str (Yn I q YHp)
  |_=>exact absurd (show false=true from hs) YLD
 |byt i=>
  obtain⟨t,rfl⟩:=rx;cases y with
  |byt j=>obtain⟨t',rfl⟩:=ry;exact PySem.W.eq_bytes (Yn I q YHq)
  |_=>exact absurd (show false=true from hs) YLD
 |_=>cases y <;> exact absurd (show false=true from hs) YLD
theorem YCE:OpR X (compareOp .NotEq) rNe:=by
 intro pins s σ H x y v u Q I rx ry h;obtain⟨hs,q⟩:=h;cases x with
 |non=>
  cases rx;cases y with
  |non=>cases ry;exact PySem.EqNone.ne_none_none (Yn I q (by simp))
  |bl j=>cases ry;exact PySem.EqNone.ne_none_bool (Yn I q (by simp))
  |int j=>obtain⟨t',rfl⟩:=ry;exact PySem.EqNone.ne_none_int (Yn I q (by simp))
  |str j=>obtain⟨t',rfl⟩:=ry;exact PySem.EqNone.ne_none_str (Yn I q (by simp))
  |_=>exact absurd (show false=true from hs) YLD
 |bl i=>
  cases rx;cases y with
  |non=>cases ry;exact PySem.EqNone.ne_bool_none (Yn I q (by simp))
  |bl j=>cases ry;exact ne_bool (Yn I q (YL5 not YJd))
  |str j=>obtain⟨t',rfl⟩:=ry;exact PySem.EqMixed.ne_bool_str (Yn I q (by simp))
  |_=>exact absurd (show false=true from hs) YLD
 |int i=>
  obtain⟨t,rfl⟩:=rx;cases y with
  |non=>cases ry;exact PySem.EqNone.ne_int_none (Yn I q (by simp))
  |int j=>obtain⟨t',rfl⟩:=ry;exact ne_int (Yn I q (YL5 not YHo))
  |str j=>obtain⟨t',rfl⟩:=ry;exact PySem.EqMixed.ne_int_str (Yn I q (by simp))
  |_=>exact absurd (show false=true from hs) YLD
 |str i=>
  obtain⟨t,rfl⟩:=rx;cases y with
  |non=>cases ry;exact PySem.EqNone.ne_str_none (Yn I q (by simp))
  |bl j=>cases ry;exact PySem.EqMixed.ne_str_bool (Yn I q (by simp))
  |int j=>obtain⟨t',rfl⟩:=ry;exact PySem.EqMixed.ne_str_int (Yn I q (by simp))
  |str j=>obtain⟨t',rfl⟩:=ry;exact ne_str (Yn I q (YL5 not YHp))
  |_=>exact absurd (show false=true from hs) YLD
 |byt i=>
  obtain⟨t,rfl⟩:=rx;cases y with
  |byt j=>obtain⟨t',rfl⟩:=ry;exact PySem.W.ne_bytes (Yn I q (YL5 not YHq))
  |_=>exact absurd (show false=true from hs) YLD
 |_=>cases y <;> exact absurd (show false=true from hs) YLD
theorem YDu:OpR X (compareOp .Lt) (rI0 λi j=>.bl (decide (i < j))):=opB0 λ_ _ _ _ _ _ _ q=>lt_int q
theorem Xp:OpR X (compareOp .LtE) (rI0 λi j=>.bl (decide (i<=j))):=opB0 λ_ _ _ _ _ _ _ q=>le_int q
theorem op_gt:OpR X (compareOp .Gt) (rI0 λi j=>.bl (decide (j < i))):=opB0 λ_ _ _ _ _ _ _ q=>gt_int q
theorem op_ge:OpR X (compareOp .GtE) (rI0 λi j=>.bl (decide (j<=i))):=opB0 λ_ _ _ _ _ _ _ q=>ge_int q
theorem YIn:OpR X (compareOp .In) (λx y H Q=>∃i j,x=.str i/\y=.str j/\Q (.bl (!(Builtin.Str.occurrences j i 0 j.length 1).isEmpty)) H):=by
 intro pins s σ H x y v u Q I rx ry h;obtain⟨i,j,rfl,rfl,q⟩:=h;obtain⟨t,rfl⟩:=rx;obtain⟨t',rfl⟩:=ry;exact in_str (Yn I q rfl)
theorem op_isN:OpR X (compareOp .Is) (λx y H Q=>y=.non/\Q (.bl (decide (x=.non))) H):=by
 intro pins s σ H x y v u Q I rx ry h;obtain⟨rfl,q⟩:=h;cases ry;refine is_none_gen (Yn I q ?_);cases x <;> first
  |(cases rx;rfl)
  |(obtain⟨t,rfl⟩:=rx;rfl)
theorem YHr:OpR X (compareOp .IsNot) (λx y H Q=>y=.non/\Q (.bl (!decide (x=.non))) H):=by
 intro pins s σ H x y v u Q I rx ry h;obtain⟨rfl,q⟩:=h;cases ry;refine isnot_none_gen (Yn I q ?_);cases x <;> first
  |(cases rx;rfl)
  |(obtain⟨t,rfl⟩:=rx;rfl)
theorem Yc (b:Expr) {op:CmpOp} (h:op≠.In:=by decide) (h2:op≠.NotIn:=by decide):behindInMarks op b=false:=by
 have e1:(op == CmpOp.In)=false:=by cases op <;> first |rfl |exact absurd rfl h
 have e2:(op == CmpOp.NotIn)=false:=by cases op <;> first |rfl |exact absurd rfl h2
 cases b <;> simp[behindInMarks,e1,e2]
theorem J4 {op:CmpOp}{r:R2} (ho:OpR X (compareOp op) r) (ha:PE X a ta) (hb:PE X b tb) (hm:behindInMarks op b=false):PE X (.Compare a [op] [b] pos) (tOp r ta tb):=by
 intro pins s σ H Q I h;exact wpAny_Compare1 (binT ha hb I h λv u s2 x y H2 I2 rx ry q=>ho pins s2 σ H2 x y v u Q I2 rx ry q) hm
def tTest (t:TE):TT:=λσ H Q=>t σ H λx H'=>∃k,x=.bl k/\Q k H'
theorem Yb {op:CmpOp}{r:R2} (ho:OpR X (compareOp op) r) (ha:PE X a ta) (hb:PE X b tb) (hm:behindInMarks op b=false):PT X (.Compare a [op] [b] pos) (tTest (tOp r ta tb)):=by
 intro pins s σ H Q I h;refine wpAny_isTrue_Compare1 (thn (ha pins s σ H _ I h) λv s1 ⟨x,H1,I1,r1,q1⟩=>thn (hb pins s1 σ H1 _ I1 q1) λu s2 ⟨y,H2,I2,r2,q2⟩=>
  thn (ho pins s2 σ H2 x y v u _ I2 r1 r2 q2) λc s3 ⟨z,H3,I3,r3,k,e,q3⟩=>?_) hm
 subst e;cases r3;exact wpAny_truthy_bool ⟨H3,I3,q3⟩
def tChain (r r':R2) (ta tb tc:TE):TE:=λσ H Q=>ta σ H λx H1=>tb σ H1 λy H2=>r x y H2 λz H3=>∃k,z=.bl k/\
 (if k=true then tc σ H3 λw' H4=>r' y w' H4 Q else Q (.bl false) H3)
theorem YAQ {op Qh:CmpOp}{r r':R2} (ho:OpR X (compareOp op) r) (ho':OpR X (compareOp Qh) r') (ha:PE X a ta) (hb:PE X b tb) (hc:PE X c tc)
  (hm:lastMarks [op,Qh] [b,c]=false:=by with_unfolding_all rfl):PE X (.Compare a [op,Qh] [b,c] pos) (tChain r r' ta tb tc):=by
 intro pins s σ H Q I h;refine Compare_chain (thn (ha pins s σ H _ I h) λv s1 ⟨x,H1,I1,r1,q1⟩=>chain_link (thn (hb pins s1 σ H1 _ I1 q1) λu s2 ⟨y,H2,I2,r2,q2⟩=>
  thn (ho pins s2 σ H2 x y v u _ I2 r1 r2 q2) λd s3 ⟨z,H3,I3,r3,k,e,q3⟩=>?_)) hm
 subst e;cases r3;refine wpAny_truthy_bool ?_;cases k with
 |false=>exact ite_ff ⟨.bl false,H3,I3,Z,q3⟩
 |true=>exact ite_tt (chain_last (thn (hc pins s3 σ H3 _ I3 q3) λw' s4 ⟨z',H4,I4,r4,q4⟩=>ho' pins s4 σ H4 y z' u w' Q I4 r2 r4 q4))
def TruV (K:W.Frag) (x:V) (H:Hp) (k:Bool):Prop:=
 match x with
 |.non=>k=false
 |.bl b=>k=b
 |.int i=>k=(i != 0)
 |.str y=>y.length<=sizeLine/\k=((y.length:Int) != 0)
 |.byt y=>y.size<=sizeLine/\k=((y.size:Int) != 0)
 |.ref p=>(∃xs,SqL K H p xs/\k=!xs.isEmpty)\/(∃xs,SqT K H p xs/\k=!xs.isEmpty)\/∃kvs,H p=some (.dK kvs)/\k=!kvs.isEmpty
 |_=>False
theorem YG1 {κ:Type}{kvs:List (κ×V)}{vs:List (κ×Value)} (r:KV kvs vs):(!vs.isEmpty)=!kvs.isEmpty:=by
 cases r <;> rfl
theorem YCp {xs:List V}{its:List Value} (r:Yf xs its):(!its.toArray.isEmpty)=!xs.isEmpty:=by
 cases r <;> simp
theorem YAR:(sizeLine:Nat) < 2 ^ 63:=by rw[sizeLine_eq];decide
theorem tru_ok:TruR X (λx H Q=>∃k,TruV X.K x H k/\Q k H):=by
 intro pins s σ H x v Q I rx h;obtain⟨k,e,q⟩:=h;have hl:=YAR;have hs:sizeLine=16777216:=sizeLine_eq;cases x with
 |non=>
  cases rx;have e':k=false:=e;subst e';exact truthy_none ⟨H,I,q⟩
 |bl b=>
  cases rx;have e':k=b:=e;subst e';exact wpAny_truthy_bool ⟨H,I,q⟩
 |int i=>
  obtain⟨t,rfl⟩:=rx;have e':k=(i != 0):=e;subst e';exact PySem.P.truthy_int ⟨H,I,q⟩
 |str y=>
  obtain⟨t,rfl⟩:=rx;obtain⟨hy,e'⟩:y.length<=sizeLine/\k=((y.length:Int) != 0):=e;subst e';exact PySem.P.truthy_str (by omega) ⟨H,I.tok _,q⟩
 |byt y=>
  obtain⟨t,rfl⟩:=rx;obtain⟨hy,e'⟩:y.size<=sizeLine/\k=((y.size:Int) != 0):=e;subst e';exact PySem.W.truthy_bytes (by omega) ⟨H,I.tok _,q⟩
 |ref p=>
  cases rx;have e':(∃xs,SqL X.K H p xs/\k=!xs.isEmpty)\/(∃xs,SqT X.K H p xs/\k=!xs.isEmpty)\/∃kvs,H p=some (.dK kvs)/\k=!kvs.isEmpty:=e;rcases e' with ⟨xs,hx,e'⟩ |⟨xs,hx,e'⟩ |⟨kvs,hx,e'⟩
  ·subst e';obtain⟨its,r,pl,hz⟩:=I.list hx;have hlen:=r.length;exact wpAny_truthy_list pl.isList (by simp only[YK9];omega) ⟨H,I.tok _,by rw[YCp r];exact q⟩
  ·subst e';obtain⟨its,r,pl,hz⟩:=I.tuple hx;have hlen:=r.length;exact truthy_tuple pl (by simp only[YK9];omega) ⟨H,I.tok _,by rw[YCp r];exact q⟩
  ·subst e';obtain⟨hz,hS,vs,r,m⟩:kvs.length<=sizeLine/\(p == sysModules)=false/\∃vs,KV kvs vs/\s.heap.DictOf (ZB X.prog X.w) p vs:=I.hok p _ hx;have hlen:kvs.length=vs.length:=Paired.length r;exact wpAny_truthy_dict hS m (by omega) ⟨H,I.tok _,by rw[YG1 r];exact q⟩
 |_=>exact(show False from e).elim
theorem YJe (ha:PE X a ta) (he:∀whole,isTrue a X.env whole=(do let v <-whole;standAt a.pos;holding [v] (truthy v))):
  PT X a (λσ H Q=>ta σ H λx H'=>∃k,TruV X.K x H' k/\Q k H'):=by
 intro pins s σ H Q I h;exact isTrue_plain (thn (ha pins s σ H _ I h) λv s1 ⟨x,H1,I1,r1,q1⟩=>tru_ok pins s1 σ H1 x v Q I1 r1 q1) (he _)
theorem JI:OpR X (binaryOp .Add) (λx y H Q=>∃i j,x=.str i/\y=.str j/\i.length + j.length<=sizeLine/\Q (.str (i ++ j)) H):=by
 intro pins s σ H x y v u Q I rx ry h;obtain⟨i,j,rfl,rfl,hz,q⟩:=h;obtain⟨t,rfl⟩:=rx;obtain⟨t',rfl⟩:=ry;exact add_str (λt' tk=>⟨.str (i ++ j),H,I.tok _,⟨_,Z⟩,q⟩) hz
theorem XY {x:V}{us:List Value} (r:Yf [x] us):∃u,us=[u]/\Yk x u:=by
 cases r with
 |cons r1 r2=>cases r2;exact⟨_,Z,r1⟩
theorem YHs {x y:V}{us:List Value} (r:Yf [x,y] us):∃u w',us=[u,w']/\Yk x u/\Yk y w':=by
 cases r with
 |cons r1 r2=>
  cases r2 with
  |cons r3 r4=>cases r4;exact⟨_,_,Z,r1,r3⟩
theorem YBo (hc:X.calm=true):Jp X (.builtin "min") (λxs H Q=>∃i j,xs=[.int i,.int j]/\Q (.int (if j < i then j else i)) H):=by
 intro pins s σ H xs us Q I r h;obtain⟨i,j,rfl,q⟩:=h;obtain⟨u,w',rfl,⟨t,rfl⟩,⟨t',rfl⟩⟩:=YHs r;refine min_two_ints (I.ok.hd hc) λh' tk k=>⟨_,H,I.kept k,?_,q⟩
 by_cases hj:j < i
 ·rw[if_pos hj,if_pos hj];exact⟨_,Z⟩
 ·rw[if_neg hj,if_neg hj];exact⟨_,Z⟩
theorem YIo:Jp X (.type "int") (λxs H Q=>(∃i,xs=[.int i]/\Q (.int i) H)\/∃k,xs=[.bl k]/\Q (.int (if k then 1 else 0)) H):=by
 intro pins s σ H xs us Q I r h;rcases h with ⟨i,rfl,q⟩ |⟨k,rfl,q⟩
 ·obtain⟨u,rfl,t,rfl⟩:=XY r;exact call_int_int ⟨.int i,H,I,⟨_,Z⟩,q⟩
 ·obtain⟨u,rfl,r1⟩:=XY r;cases r1;exact call_int_bool ⟨.int (if k then 1 else 0),H,I.tok _,⟨_,Z⟩,q⟩
theorem YJf:Jp X (.builtin "ord") (λxs H Q=>∃x,xs=[.str x]/\x.length=1/\Q (.int (x.cps.getD 0 0:Nat)) H):=by
 intro pins s σ H xs us Q I r h;obtain⟨x,rfl,hz,q⟩:=h;obtain⟨u,rfl,t,rfl⟩:=XY r;exact ord_of_one hz ⟨.int _,H,I.tok _,⟨_,Z⟩,q⟩
end
end L2
namespace L2
open PySem PySem.Spec PyProof.Rows
structure ObjM (h:Heap) (x dx C:Addr) (mA:Str->Option Value):Prop where
 obj:h.get? x=some (PySem.W.instObj C dx)
 ns:h.Ns1 dx mA
 ne:dx≠x
theorem YIp {h:Heap}{dx:Addr}{mA:Str->Option Value} (n:h.Ns1 dx mA):∃od,h.get? dx=some od/\∀name,PySem.W.lookIn name od=some (mA name):=by
 obtain⟨o,es,ep,ho,hd,hk,_,hm⟩:=n;refine⟨o,ho,λname=>?_⟩;have e:=hm name;unfold nsFind findBy at e;rw[<-Array.find?_toList]at e;unfold PySem.W.lookIn;rw[hd];dsimp only;split
 ·rename_i y q
  rw[q]at e;exact YL5 some e
 ·rename_i q
  rw[q]at e;have a:es.toList.any (·.refKey)=false:=by
   rw[List.any_eq_false];intro y hy;obtain⟨z,t,hkey⟩:=hk y (Array.mem_toList_iff.mp hy);simp[DictEntry.refKey,hkey]
  have a':¬es.toList.any (·.refKey)=true:=by rw[a];exact YLD
  rw[if_neg a'];exact YL5 some e
theorem ObjM.look {h:Heap}{x dx C:Addr}{mA:Str->Option Value} (I:ObjM h x dx C mA):∃od,PySem.W.InstAt h x (PySem.W.instObj C dx) C (some od)/\∀name,PySem.W.lookIn name od=some (mA name):=
 let ⟨od,ho,hl⟩:=YIp I.ns
 ⟨od,⟨I.obj,Z,Z,ho⟩,hl⟩
section
variable {prog:Program}{w:World}{A:Around}{E:Value->Shared->Prop}{s:Shared}{K:W.Frag}{x dx C f:Addr}{mA:Str->Option Value}{name:Str}{v:Value}
theorem get_map {expr:Bool}{Q:Value->Shared->Prop} (X:K.In s.heap) (I:ObjM s.heap x dx C mA) (hg:PySem.W.plainGet K C name=true) (hh:PySem.W.hasDictIn K C=true)
  (ha:PySem.W.findIn K (.ref C) name=some none) (hv:mA name=some v) (hv':PySem.W.handedIn v=true) (h:Q v { s with toks:=s.toks + 1 }):
  wpAny (model prog w) A (getAttr (.ref x) name expr) Q E s:=by
 obtain⟨od,J,hl⟩:=I.look;exact PySem.W.get_value X J (PySem.W.plainGet_of hg).1 (PySem.W.findObj_own hh ha rfl (by rw[hl,hv])) hv' h
theorem YJg {pl:Sem Bool}{Q:Value×List Value->Shared->Prop} (X:K.In s.heap) (I:ObjM s.heap x dx C mA) (hg:PySem.W.plainGet K C name=true)
  (hf:PySem.W.findIn K (.ref C) name=some (some (.ref f))) (ht:PySem.W.isFn K (.ref f)=true) (hv:mA name=none) (h:Q (.ref f,[.ref x]) s):
  wpAny (model prog w) A (getMethod (.ref x) name pl) Q E s:=by
 obtain⟨od,J,hl⟩:=I.look;exact PySem.W.method_fn X J (PySem.W.plainGet_of hg).1 (PySem.W.plainGet_of hg).2 hf (beq_iff_eq.mp ht) (by show(PySem.W.lookIn name od).map (·.isSome)=some false;rw[hl,hv];rfl) h
theorem set_map {ns:List Str}{Q:Unit->Shared->Prop} (X:K.In s.heap) (I:ObjM s.heap x dx C mA)
  (hs:PySem.W.findIn K (.ref C) "__setattr__"=some (some (.builtin "object.__setattr__"))) (hp:PySem.W.plainOver K C=true) (ht:PySem.W.takerIn K C name=some none) (hh:PySem.W.hasDictIn K C=true)
  (hw:PySem.Within mA ns) (hsz:ns.length<=sizeLine)
  (h:∀h',ObjM h' x dx C (λy=>if y=name then some v else mA y)->Heap.SameBut dx s.heap h'->Q () { s with heap:=h',toks:=s.toks + 2 }):
  wpAny (model prog w) A (setAttr (.ref x) name v) Q E s:=by
 obtain⟨od,J,hl⟩:=I.look;refine PySem.W.set_plain X J hs (PySem.W.osa_open (s:={ s with toks:=s.toks + 1 }) (r:=none) X J hp ht λb=>?_);obtain⟨cd,hc,hd'⟩:=PySem.W.any_some hh;have hx:s.heap.get? x=some ⟨.ref C,some dx,.plain,#[]⟩:=I.obj;refine YKz (YLO (YKz (YKz (wpAny_loadPart hx (YKz (PySem.W.Looks.here (s:={ s with toks:=s.toks + 1 }) (PySem.W.looks_clsIn X hc) ?_))))));rw[hd'];refine YLO (a:=some dx) (YKz (YLO (YKz ?_)));refine wpAny_nsSet1 (s:={ s with toks:=s.toks + 1 }) I.ns λh' hn2 hs2=>?_
 obtain⟨oD,esD,epD,hoD,hdD,hcD⟩:=hn2.count (PySem.Within.cons name v hw);refine YKz (wpAny_lookBehind hoD (by rw[hdD];exact pastItsLine_dict (YLU hcD (by rw[YK6];omega))) ?_);exact YLO (h _ ⟨(hs2.2 _ (Ne.symm I.ne)).trans I.obj,hn2,I.ne⟩ hs2)
theorem YJh {R:Result->Shared->Prop}{vs:List Value}{kw:List (Str×Value)} (X:K.In s.heap) (hm:PySem.W.makesIn K C=true)
  (hi:PySem.W.findIn K (.ref C) "__init__"=some (some (.ref f))) (hf:PySem.W.typeIn K (.ref f)=some (.type "function"))
  (h:codeAny (model prog w) (A.under (.builtin "type.__call__" ⟨.ref C :: vs,kw⟩)) (.call (.ref f) ⟨.ref (s.heap.objs.size + 1) :: vs,kw⟩) (PySem.W.InitBack (s.heap.objs.size + 1) R)
   { s with heap:=(s.heap.push PySem.W.emptyDict).push (PySem.W.instObj C s.heap.objs.size) }):
  codeAny (model prog w) A (.call (.ref C) ⟨vs,kw⟩) R s:=by
 obtain⟨hh,g,d,t,os⟩:=s;exact PySem.W.make_core (PySem.W.makes_of X hm) (PySem.W.looks_findIn X hi) (λself=>PySem.W.bind_fn X self hf) (.inl rfl) h
end
def XS (f:Str) (v:V):List (Str×V)->List (Str×V)
 |[]=>[(f,v)]
 |(g,x) :: r=>if g=f then (g,v) :: r else (g,x) :: XS f v r
theorem YCF (f g:Str) (v:V):∀fs:List (Str×V),(XS f v fs).lookup g=if g=f then some v else fs.lookup g
 |[]=>by
  show List.lookup g [(f,v)]=_
  by_cases h:g=f
  ·have hb:(g == f)=true:=beq_iff_eq.mpr h;simp only[List.lookup,hb,if_pos h]
  ·have hb:(g == f)=false:=beq_eq_false_iff_ne.mpr h;simp only[List.lookup,hb,if_neg h]
 |(k,x) :: r=>by
  have ih:=YCF f g v r;rw[show XS f v ((k,x) :: r)=(if k=f then (k,v) :: r else (k,x) :: XS f v r) from rfl]
  by_cases hk:k=f
  ·rw[if_pos hk]
   by_cases h:g=k
   ·have hb:(g == k)=true:=beq_iff_eq.mpr h;simp only[List.lookup,hb,if_pos (h.trans hk)]
   ·have hb:(g == k)=false:=beq_eq_false_iff_ne.mpr h;simp only[List.lookup,hb,if_neg (λe:g=f=>h (e.trans hk.symm))]
  ·rw[if_neg hk]
   by_cases h:g=k
   ·have hb:(g == k)=true:=beq_iff_eq.mpr h;simp only[List.lookup,hb,if_neg (λe:g=f=>hk (h.symm.trans e))]
   ·have hb:(g == k)=false:=beq_eq_false_iff_ne.mpr h;simp only[List.lookup,hb];exact ih
theorem YBp (f:Str) (v:V):∀fs:List (Str×V),f∈(XS f v fs).map (·.1)/\∀g,g∈fs.map (·.1)->g∈(XS f v fs).map (·.1)
 |[]=>⟨by simp[XS],λg h=>by simp at h⟩
 |(k,x) :: r=>by
  obtain⟨i1,i2⟩:=YBp f v r;rw[show XS f v ((k,x) :: r)=(if k=f then (k,v) :: r else (k,x) :: XS f v r) from rfl]
  by_cases hk:k=f
  ·rw[if_pos hk];subst hk;exact⟨by simp,λg h=>by simpa using h⟩
  ·rw[if_neg hk];refine⟨?_,λg h=>?_⟩
   ·rw[YLR];exact YLA _ i1
   ·rw[YLR]at h ⊢;rcases YLB.mp h with e |e
    ·exact YLB.mpr (.inl e)
    ·exact YLA _ (i2 g e)
theorem YCG (f:Str) (v:V):∀fs:List (Str×V),(XS f v fs).length<=fs.length + 1
 |[]=>by simp[XS]
 |(k,x) :: r=>by
  have ih:=YCG f v r;rw[show XS f v ((k,x) :: r)=(if k=f then (k,v) :: r else (k,x) :: XS f v r) from rfl]
  by_cases hk:k=f
  ·rw[if_pos hk,YK6,YK6];omega
  ·rw[if_neg hk,YK6,YK6];omega
theorem YAM.some_of {v:V}{o:Option Value} (r:YAM (some v) o):∃u,o=some u/\Yk v u:=by
 cases o with
 |none=>exact(show False from r).elim
 |some u=>exact⟨u,Z,r⟩
theorem YAM.none_of {o:Option Value} (r:YAM none o):o=none:=by
 cases o with
 |none=>rfl
 |some u=>exact(show False from r).elim
theorem YIq {v:V}{u:Value} (r:Yk v u):PySem.W.handedIn u=true:=by
 cases v with
 |non=>cases (show u=Value.none from r);rfl
 |bl b=>cases (show u=Value.bool b from r);rfl
 |int i=>obtain⟨t,e⟩:=(show ∃t,u=Value.int i t from r);cases e;rfl
 |str x=>obtain⟨t,e⟩:=(show ∃t,u=Value.str x t from r);cases e;rfl
 |byt b=>obtain⟨t,e⟩:=(show ∃t,u=Value.bytes b t from r);cases e;rfl
 |flt b=>obtain⟨t,e⟩:=(show ∃t,u=Value.float b t from r);cases e;rfl
 |ref a=>cases (show u=Value.ref a from r);rfl
 |ty n=>cases (show u=Value.type n from r);rfl
section
variable {P:Program}{w:World}{H H':Hp}{h h':Heap}{a C dx:Addr}{fs fs':List (Str×V)}
theorem YCc (hok:HOk P w H h) (e:H a=some (.ins C dx fs)):∃mA,ObjM h a dx C mA/\(∀f,YAM (fs.lookup f) (mA f))/\PySem.Within mA (fs.map (·.1))/\fs.length<=1000/\H dx=some (.own a):=by
 obtain⟨d,z,ne,ob,mA,n,r,q⟩:=(show Yp P w H h a (.ins C dx fs) from hok a _ e);exact⟨mA,⟨ob,n,ne⟩,r,q,z,d⟩
end
structure Cls (K:W.Frag) (C:Addr):Prop where
 pg:PySem.W.plainGet K C Str.empty=true
 hd:PySem.W.hasDictIn K C=true
 po:PySem.W.plainOver K C=true
 sa:PySem.W.findIn K (.ref C) "__setattr__"=some (some (.builtin "object.__setattr__"))
theorem Cls.get {K:W.Frag}{C:Addr} (c:Cls K C) (f:Str):PySem.W.plainGet K C f=true:=c.pg
def Zc (K:W.Frag) (C:Addr) (f:Str):Prop:=PySem.W.findIn K (.ref C) f=some none
theorem Zc.taker {K:W.Frag}{C:Addr}{f:Str} (n:Zc K C f):PySem.W.takerIn K C f=some none:=by
 unfold PySem.W.takerIn;rw[show PySem.W.findIn K (.ref C) f=some none from n];rfl
structure Meth (K:W.Frag) (C:Addr) (m:Str) (f:Addr):Prop where
 at_:PySem.W.findIn K (.ref C) m=some (some (.ref f))
 fn:PySem.W.isFn K (.ref f)=true
 kp:PySem.W.keepIn K (.ref f)=true
section
variable {X:Cx}{pins:List (Addr×Obj)}{σ:St}{H:Hp}{s:Shared}{a C dx:Addr}{fs:List (Str×V)}{f:Str}{v:V}{A:Around}{E:Value->Shared->Prop}
theorem YG2 {b:Bool}{Q:Value->Shared->Prop} (I:Inv X pins σ H s) (e:H a=some (.ins C dx fs)) (c:Cls X.K C) (n:Zc X.K C f) (l:fs.lookup f=some v)
  (h:∀u s',Inv X pins σ H s'->Yk v u->Q u s'):wpAny (model X.prog X.w) A (getAttr (.ref a) f b) Q E s:=by
 obtain⟨mA,O,r,_,_,_⟩:=YCc I.hok e;obtain⟨u,hu,ru⟩:=YAM.some_of (v:=v) (o:=mA f) (by rw[<-l];exact r f);exact get_map I.kIn O (c.get f) c.hd n hu (YIq ru) (h u _ (I.tok _) ru)
theorem YCq {m:Str}{g:Addr}{pl:Sem Bool}{Q:Value×List Value->Shared->Prop} (I:Inv X pins σ H s) (e:H a=some (.ins C dx fs)) (c:Cls X.K C) (k:Meth X.K C m g) (l:fs.lookup m=none)
  (h:Q (.ref g,[.ref a]) s):wpAny (model X.prog X.w) A (getMethod (.ref a) m pl) Q E s:=by
 obtain⟨mA,O,r,_,_,_⟩:=YCc I.hok e;have hn:mA m=none:=YAM.none_of (by rw[<-l];exact r m);exact YJg I.kIn O (c.get m) k.at_ k.fn hn h
theorem YG3 {y:V}{u:Value}{Q:Unit->Shared->Prop} (I:Inv X pins σ H s) (e:H a=some (.ins C dx fs)) (c:Cls X.K C) (n:Zc X.K C f) (hl:fs.length < 1000) (ry:Yk y u)
  (h:∀s',Inv X pins σ (upd H a (.ins C dx (XS f y fs))) s'->Q () s'):wpAny (model X.prog X.w) A (setAttr (.ref a) f u) Q E s:=by
 obtain⟨mA,O,r,wi,_,ho⟩:=YCc I.hok e;have hz:(fs.map (·.1)).length<=sizeLine:=by rw[YKu,sizeLine_eq];omega
 refine set_map I.kIn O c.sa c.po n.taker c.hd wi hz λh' O' sb=>h _ ?_
 have hd:∃o,h'.get? dx=some o:=let ⟨o,_,_,e',_⟩:=O'.ns;⟨o,e'⟩
 refine I.write (x:=a) (e:=dx) (by rw[e];exact True.intro) (.inr ho) (λb q hb z=>(sb.2 b hb).trans z) hd ?_;refine⟨by rw[YH O.ne];exact ho,?_,O.ne,O'.obj,_,O'.ns,λg=>?_,λg hg=>?_⟩
 ·have:=YCG f y fs;omega
 ·show YAM ((XS f y fs).lookup g) (if g=f then some u else mA g);rw[YCF]
  by_cases q:g=f
  ·rw[if_pos q,if_pos q];exact ry
  ·rw[if_neg q,if_neg q];exact r g
 ·by_cases q:g=f
  ·rw[q];exact(YBp f y fs).1
  ·refine(YBp f y fs).2 g (wi g λz=>hg ?_);show(if g=f then some u else mA g)=none;rw[if_neg q];exact z
theorem Inv.made (I:Inv X pins σ H s):Inv X pins σ (upd (upd H s.heap.objs.size (.own (s.heap.objs.size + 1))) (s.heap.objs.size + 1) (.ins C s.heap.objs.size []))
  { s with heap:=(s.heap.push PySem.W.emptyDict).push (PySem.W.instObj C s.heap.objs.size) }:=by
 have e1:(s.heap.push PySem.W.emptyDict).get? s.heap.objs.size=some PySem.W.emptyDict:=YLI s.heap rfl;have e2:((s.heap.push PySem.W.emptyDict).push (PySem.W.instObj C s.heap.objs.size)).get? (s.heap.objs.size + 1)=some (PySem.W.instObj C s.heap.objs.size):=by
  have:=YLI (s.heap.push PySem.W.emptyDict) (o:=PySem.W.instObj C s.heap.objs.size) rfl
  rwa [YMY]at this
 have e3:(s.heap.push PySem.W.emptyDict).Ns s.heap.objs.size (λ_=>none):=⟨PySem.W.emptyDict,#[],_,e1,Z,(λe he=>absurd he (by simp)),λ_=>rfl⟩;have I1:=I.laid (a:=s.heap.objs.size) (o:=.own (s.heap.objs.size + 1)) (h':=s.heap.push PySem.W.emptyDict) (t':=s.toks) (λb u q=>YK3 _ q) (YKv _) ⟨_,e1⟩;refine I1.laid (a:=s.heap.objs.size + 1) (o:=.ins C s.heap.objs.size []) (t':=s.toks) (λb u q=>YK3 _ q) (Nat.le_of_eq (YMY _ _)) ?_;have ne:s.heap.objs.size≠s.heap.objs.size + 1:=YLW (Nat.lt_succ_self _);refine⟨by rw[YH ne,YC],YLS _,ne,e2,λ_=>none,(Heap.Ns1.of_empty e3).at λo q=>YK3 _ q,λ_=>True.intro,λy hy=>absurd rfl hy⟩
theorem attr_of {prog:Program}{w:World}{env:Env}{e:Expr}{f:Str}{pos:Pos}{s:Shared}{Q:Value->Shared->Prop} (hb:attributeBase e f env (eval e env)=eval e env)
  (h:wpAny (model prog w) A (eval e env) (λo s₁=>wpAny (model prog w) A (getAttr o f true) Q E s₁) E s):wpAny (model prog w) A (eval (.Attribute e f pos) env) Q E s:=
 Attribute_any_ h (by rw[arm_eval_Attribute,hb])
end
inductive tFld_ (K:W.Frag) (f:Str) (Q:VK) (x:V) (H1:Hp):Prop where
 |mk (a:_) (C:_) (dx:_) (fs:_) (v:_) (aX:x=.ref a) (aY:H1 a=some (.ins C dx fs)) (bU:Cls K C) (cN:Zc K C f) (dh:fs.lookup f=some v) (i_:Q v H1):tFld_ K f Q x H1
def tFld (K:W.Frag) (ta:TE) (f:Str):TE:=λσ H Q=>ta σ H λx H1=>tFld_ K f Q x H1
inductive sFld_ (K:W.Frag) (f:Str) (D:YA6) (σ:St) (y:V) (x:V) (H2:Hp):Prop where
 |mk (a:_) (C:_) (dx:_) (fs:_) (aX:x=.ref a) (aY:H2 a=some (.ins C dx fs)) (bU:Cls K C) (cN:Zc K C f) (dh:fs.length < 1000) (i_:D.nx σ (upd H2 a (.ins C dx (XS f y fs)))):sFld_ K f D σ y x H2
def sFld (K:W.Frag) (ta tv:TE) (f:Str):TS:=λD σ H=>tv σ H λy H1=>ta σ H1 λx H2=>sFld_ K f D σ y x H2
section
variable {X:Cx}{o e value:Expr}{f:Str}{pos eY lz:Pos}{ta tv:TE}
theorem pe_fld (he:PE X e ta) (hb:attributeBase e f X.env (eval e X.env)=eval e X.env):PE X (.Attribute e f pos) (tFld X.K ta f):=by
 intro pins s σ H Q I h;refine attr_of hb (thn (he pins s σ H _ I h) ?_);rintro u s1 ⟨x,H1,I1,rx,a,C,dx,fs,v,ex,ea,c,n,l,q⟩;subst ex;obtain rfl:u=Value.ref a:=rx;exact YG2 I1 ea c n l λu' s2 I2 ru=>⟨v,H1,I2,ru,q⟩
theorem ps_fld (ha:PE X o ta) (hv:PE X value tv) (hs:swapsWith value (some (.Attribute o f eY)) pos.line X.env=pure false):PS X (.Assign [.Attribute o f eY] value pos) (sFld X.K ta tv f):=by
 intro pins s σ H D I h;refine plainObj_wpAny_Assign_Attribute (thn (hv pins s σ H _ I h) λu s1 ⟨y,H1,I1,ry,q⟩=>thn (ha pins s1 σ H1 _ I1 q) λov s2 ⟨x,H2,I2,rx,a,C,dx,fs,ex,ea,c,n,l,q2⟩=>?_) hs;subst ex;obtain rfl:ov=Value.ref a:=rx;exact YG3 I2 ea c n l ry λs3 I3=>⟨σ,_,I3,q2⟩
end
section
variable {X:Cx}{pins:List (Addr×Obj)}{σ:St}{H:Hp}{s:Shared}{A:Around}{E:Value->Shared->Prop}{Q:Value->Shared->Prop}{c:Value}{b:Bool}
inductive YA7 (K:W.Frag) (H:Hp):V->Value->Prop where
 |non:YA7 K H .non (.type "NoneType")
 |bl (x:Bool):YA7 K H (.bl x) (.type "bool")
 |int (i:Int):YA7 K H (.int i) (.type "int")
 |str (x:Str):YA7 K H (.str x) (.type "str")
 |flt (x:UInt64):YA7 K H (.flt x) (.type "float")
 |lst {a:Addr}{xs:List V} (e:H a=some (.lst xs)):YA7 K H (.ref a) (.type "list")
 |frz {a:Addr}{o:Obj}{xs:List V} (e:H a=some (.frz o (.lst xs))):YA7 K H (.ref a) (.type "list")
 |tup {a:Addr}{xs:List V} (e:H a=some (.tup xs)):YA7 K H (.ref a) (.type "tuple")
 |dK {a:Addr}{kvs:List (Key×V)} (e:H a=some (.dK kvs)):YA7 K H (.ref a) (.type "dict")
 |dT {a:Addr}{kvs:List (List Key×V)} (e:H a=some (.dT kvs)):YA7 K H (.ref a) (.type "dict")
 |ins {a C dx:Addr}{fs:List (Str×V)} (e:H a=some (.ins C dx fs)) (cl:Cls K C) (ha:PySem.W.findIn K (.ref C) "__class__"=some (some (.builtin "object.__class__")))
   (hn:PySem.W.specialIn K (.builtin "object.__class__") "__get__"=some (some (.builtin "getset_descriptor.__get__"))) (vQ:PySem.W.takesIn K (.builtin "object.__class__")=some true)
   (hm:PySem.W.mroIn K C (.type "object")=some true):YA7 K H (.ref a) (.ref C)
theorem YIr {x:V}{u t:Value} (I:Inv X pins σ H s) (rx:Yk x u) (ty:YA7 X.K H x t) (e:PySem.W.kitOne X.K t c=some b) (h:∀tk,Q (.bool b) { s with toks:=tk }):
  wpAny (model X.prog X.w) A (call (.builtin "isinstance") [u,c]) Q E s:=by
 cases ty with
 |non=>cases (show u=Value.none from rx);exact PySem.W.kia_one PySem.W.kitx_none I.kIn True.intro e nofun h
 |bl y=>cases (show u=Value.bool y from rx);exact PySem.W.kia_one PySem.W.kitx_bool I.kIn True.intro e nofun h
 |int i=>obtain⟨t,q⟩:=(show ∃t,u=Value.int i t from rx);cases q;exact PySem.W.kia_one PySem.W.kitx_int I.kIn True.intro e nofun h
 |str y=>obtain⟨t,q⟩:=(show ∃t,u=Value.str y t from rx);cases q;exact PySem.W.kia_one PySem.W.kitx_str I.kIn True.intro e nofun h
 |flt y=>obtain⟨t,q⟩:=(show ∃t,u=Value.float y t from rx);cases q;exact PySem.W.kia_one PySem.W.kitx_float I.kIn True.intro e nofun h
 |@lst a xs ea=>
  cases (show u=Value.ref a from rx);obtain⟨_,_,n,_,h1⟩:=(show Yp X.prog X.w H s.heap a (.lst xs) from I.hok a _ ea);exact PySem.W.kia_one PySem.W.kitx_list I.kIn ⟨_,h1,Z⟩ e nofun h
 |@frz a ob xs ea=>
  cases (show u=Value.ref a from rx);obtain⟨_,_,_,n,_,h1⟩:=(show Yp X.prog X.w H s.heap a (.frz ob (.lst xs)) from I.hok a _ ea);exact PySem.W.kia_one PySem.W.kitx_list I.kIn ⟨_,h1,Z⟩ e nofun h
 |@tup a xs ea=>
  cases (show u=Value.ref a from rx);obtain⟨_,_,_,p⟩:=(show Yp X.prog X.w H s.heap a (.tup xs) from I.hok a _ ea);obtain⟨o,h1,h2,_⟩:=p;exact PySem.W.kia_one PySem.W.kitx_tuple I.kIn ⟨o,h1,h2⟩ e nofun h
 |@dK a kvs ea=>
  cases (show u=Value.ref a from rx);obtain⟨_,_,vs,_,p⟩:=(show Yp X.prog X.w H s.heap a (.dK kvs) from I.hok a _ ea);obtain⟨o,es,ep,h1,h2,_⟩:=p;exact PySem.W.kia_one PySem.W.kitx_dict I.kIn ⟨o,h1,h2.1⟩ e nofun h
 |@dT a kvs ea=>
  cases (show u=Value.ref a from rx);obtain⟨_,_,xs,_,o,es,ep,h1,h2,_⟩:=(show Yp X.prog X.w H s.heap a (.dT kvs) from I.hok a _ ea);exact PySem.W.kia_one PySem.W.kitx_dict I.kIn ⟨o,h1,h2.1⟩ e nofun h
 |@ins a C dx fs ea cl ha hn vQ hm=>
  cases (show u=Value.ref a from rx);obtain⟨mA,O,_⟩:=YCc I.hok ea;obtain⟨od,J,_⟩:=O.look;exact PySem.W.kia_one (PySem.W.kitx_own (cl.get _) cl.hd ha hn vQ hm) I.kIn J e nofun h
end
end L2
namespace L2
open PySem PySem.Spec PyProof.Rows
structure Jq (k:Nat) (A:Around):Prop where
 hd:A.handled=none
 dp:A.depth + 3 * k + 5 < recursionLimit
 un:A.units + 16 * k + 200 < cLine
theorem Jq.mono {j k:Nat}{A:Around} (r:Jq k A) (h:j<=k):Jq j A:=⟨r.hd,by have:=r.dp;omega,by have:=r.un;omega⟩
theorem Jq.deeper {k:Nat}{A:Around} (r:Jq (k + 1) A) (env:Env):Jq k (A.deeper env):=
 ⟨r.hd,by have:=r.dp;show A.depth + 1 + 3 * k + 5 < _;omega,by have:=r.un;show A.units + 3 + 16 * k + 200 < _;omega⟩
theorem YG4 {A:Around}{C:Addr}{us:List Value}{kw:List (Str×Value)}:(A.under (.builtin "type.__call__" ⟨.ref C :: us,kw⟩)).depth=A.depth + 1:=by
 first |rfl |simp[Around.under,Code.weight,Code.isCreation,Code.isGuard,Code.isCaller,Code.frames,Code.isFrame,guardIds]
theorem YG5 {A:Around}{C:Addr}{us:List Value}{kw:List (Str×Value)}:(A.under (.builtin "type.__call__" ⟨.ref C :: us,kw⟩)).units=A.units + 1:=by
 first |rfl |simp[Around.under,Code.cUnits,Code.frames,Code.isFrame]
theorem Jq.make {k:Nat}{A:Around} (r:Jq (k + 1) A) (C:Addr) (us:List Value) (kw:List (Str×Value)):Jq k (A.under (.builtin "type.__call__" ⟨.ref C :: us,kw⟩)):=
 ⟨r.hd,by have:=r.dp;rw[YG4];omega,by have:=r.un;rw[YG5];omega⟩
theorem Jq.depth {k:Nat}{A:Around} (r:Jq k A):A.depth < recursionLimit:=by have:=r.dp;omega
theorem Jq.units {k:Nat}{A:Around} (r:Jq k A):A.units + 64 < cLine:=by have:=r.un;omega
def tNil:TA:=λ_ H Q=>Q [] H
def YHt (ta:TE) (tr:TA):TA:=λσ H Q=>ta σ H λx H1=>tr σ H1 λxs H2=>Q (x :: xs) H2
section
variable {X:Cx}{e:Expr}{es:List Expr}{te:TE}{t:TA}{pos:Pos}
theorem YD:PA X [] tNil:=λ_ _ _ _ H Q I h=>Calls.spliced_nil ⟨[],H,I,.nil,h⟩
theorem YA (ha:PE X e te) (hr:PA X es t) (hs:starEach (e :: es) X.env=(false,eval e X.env) :: starEach es X.env:=by rfl):PA X (e :: es) (YHt te t):=by
 intro pos pins s σ H Q I h;rw[hs];show wpAny _ _ (spliced ((false,eval e X.env) :: backTo pos (starEach es X.env))) _ _ s;refine Calls.spliced_cons (thn (ha pins s σ H _ I h) λu s1 ⟨x,H1,I1,r1,q1⟩=>?_);exact thn (hr pos pins s1 σ H1 _ I1 q1) λus s2 ⟨xs,H2,I2,r2,q2⟩=>⟨x :: xs,H2,I2,.cons r1 r2,q2⟩
inductive tTup_ (Q:VK) (xs:List V) (H1:Hp):Prop where
 |mk (aX:xs.length<=sizeLine) (aY:∀p,H1 p=none->Q (.ref p) (upd H1 p (.tup xs))):tTup_ Q xs H1
def tTup (t:TA):TE:=λσ H Q=>t σ H λxs H1=>tTup_ Q xs H1
inductive tLst_ (Q:VK) (xs:List V) (H1:Hp):Prop where
 |mk (aX:xs.length<=sizeLine) (aY:∀p,H1 p=none->Q (.ref p) (upd H1 p (.lst xs))):tLst_ Q xs H1
def tLst (t:TA):TE:=λσ H Q=>t σ H λxs H1=>tLst_ Q xs H1
theorem Yx {x1} (h:PA X es t):PE X (.Tuple es x1 pos) (tTup t):=by
 intro pins s σ H Q I hq;refine wpAny_Tuple_spliced (thn (h pos pins s σ H _ I hq) λus s1 ⟨xs,H1,I1,r,z,q⟩=>⟨by rw[<-r.length];exact z,?_⟩);have hf:H1 s1.heap.objs.size=none:=I1.hok.fresh (YKv _);refine⟨.ref s1.heap.objs.size,upd H1 s1.heap.objs.size (.tup xs),I1.laid (t':=s1.toks) (λb u e=>YK3 _ e) (YKv _) ?_,Z,q _ hf⟩;exact⟨z,us,r,⟨_,YLI _ rfl,Z,_,Z⟩⟩
theorem ZH (h:PA X es t):PE X (.List es pos) (tLst t):=by
 intro pins s σ H Q I hq;refine wpAny_List_spliced (thn (h pos pins s σ H _ I hq) λus s1 ⟨xs,H1,I1,r,z,q⟩=>⟨by rw[<-r.length];exact z,?_⟩);have hf:H1 s1.heap.objs.size=none:=I1.hok.fresh (YKv _);refine⟨.ref s1.heap.objs.size,upd H1 s1.heap.objs.size (.lst xs),I1.laid (t':=s1.toks) (λb u e=>YK3 _ e) (YKv _) ?_,Z,q _ hf⟩;exact⟨z,us,0,r,YLI _ rfl⟩
end
abbrev Sp:=List V->Hp->VK->XK->Prop
abbrev CXT:=List Env->Hp->Shared->XK->Value->Shared->Prop
structure Env0 (P:Program) (w:World) (K:W.Frag) (mg:Str->Option Value) (base:Heap) (A:Around) (outer:List Env) (s:Shared) (H:Hp):Prop where
 frames:A.frames=some outer
 mod:Mod K mg base
 bs:∀b o,base.get? b=some o->s.heap.get? b=some o/\H b=none
 bsz:base.objs.size<=s.heap.objs.size
 funs:s.heap.FunFrames base outer
 frf:∀b∈frs outer,H b=none
 hok:HOk P w H s.heap
 bare:AllBare s.gens
def CE (outer:List Env) (P:Program) (w:World) (H:Hp) (s:Shared) (Q:VK) (u:Value) (s':Shared):Prop:=
 ∃v H',s'.os=s.os/\AllBare s'.gens/\Un (frs outer) [] H H' s.heap s'.heap/\HOk P w H' s'.heap/\Yk v u/\Q v H'
def CR (CX:CXT) (outer:List Env) (P:Program) (w:World) (H:Hp) (s:Shared) (Q:VK) (E:XK) (r:Result) (s':Shared):Prop:=
 match r with
 |.ok (.ret u)=>CE outer P w H s Q u s'
 |.ok _=>False
 |.error e=>CX outer H s E e s'
structure Yw (P:Program) (w:World) (K:W.Frag) (mg:Str->Option Value) (base:Heap) (CX:CXT) (k:Nat) (f:Addr) (fd:FuncData) (ps:List Str) (sp:Sp):Prop where
 len:∀vs H Q E,sp vs H Q E->vs.length=ps.length
 run:∀(A:Around) (outer:List Env) (s:Shared) (H:Hp) (args:Args) (us:List Value) (vs:List V) (Q:VK) (E:XK),Jq k A->Env0 P w K mg base A outer s H->BindsTo s fd args (ps.zip us)->Yf vs us->sp vs H Q E->
  codeAny (model P w) A (.call (.ref f) args) (CR CX outer P w H s Q E) s
theorem Env0.make {P:Program}{w:World}{K:W.Frag}{mg:Str->Option Value}{base:Heap}{A:Around}{outer:List Env}{s:Shared}{H:Hp} (e:Env0 P w K mg base A outer s H) (C:Addr) (us:List Value) (kw:List (Str×Value)):
  Env0 P w K mg base (A.under (.builtin "type.__call__" ⟨.ref C :: us,kw⟩)) outer s H:=⟨by first |exact e.frames |(simpa [Around.under,Code.envs,Code.isFrame,pushEnvs] using e.frames),e.mod,e.bs,e.bsz,e.funs,e.frf,e.hok,e.bare⟩
section
variable {X:Cx}{pins:List (Addr×Obj)}{σ:St}{H:Hp}{s s':Shared}
theorem Inv.env0 (I:Inv X pins σ H s):Env0 X.prog X.w X.K X.mg X.base X.A X.stack s H:=
 ⟨I.ok.frames,I.ok.mod,I.bs,YLU I.ok.bsz I.sz,I.stack,I.stkFree,I.hok,I.bare⟩
theorem Inv.after {Q:VK}{u:Value} (I:Inv X pins σ H s) (h:CE X.stack X.prog X.w H s Q u s'):EP X pins σ Q u s':=by
 obtain⟨v,H',os,bare,un,hok,r,q⟩:=h;obtain⟨hh,g,d,t,ue⟩:=s';obtain rfl:ue=s.os:=os;exact⟨v,H',I.call (h':=hh) (g':=g) (d':=d) (t':=t) (ch:=[]) un hok bare (λb z=>absurd z (by simp)),r,q⟩
end
def tCall (sp:Sp) (jh:List V) (E:XK) (t:TA):TE:=λσ H Q=>t σ H λvs H1=>sp (vs ++ jh) H1 Q E
inductive YJi (C:Addr) (m:Str) (sp:Sp) (jh:List V) (E:XK) (t:TA) (σ:St) (Q:VK) (x:V) (H1:Hp):Prop where
 |mk (a:_) (dx:_) (fs:_) (aX:x=.ref a) (aY:H1 a=some (.ins C dx fs)) (bU:fs.lookup m=none) (cN:t σ H1 λvs H2=>sp (x :: (vs ++ jh)) H2 Q E):YJi C m sp jh E t σ Q x H1
def tMeth (C:Addr) (m:Str) (sp:Sp) (jh:List V) (E:XK) (ta:TE) (t:TA):TE:=λσ H Q=>ta σ H λx H1=>YJi C m sp jh E t σ Q x H1
def tMake (C:Addr) (sp:Sp) (jh:List V) (E:XK) (t:TA):TE:=λσ H Q=>t σ H λvs H1=>∀x dx,H1 x=none->H1 dx=none->dx≠x->
 sp (.ref x :: (vs ++ jh)) (upd (upd H1 dx (.own x)) x (.ins C dx [])) (λv H2=>v=.non/\Q (.ref x) H2) E
def YAH (K:W.Frag) (fd:FuncData) (ps:List Str) (ds:List Value):Prop:=
 ∀(s:Shared) (us:List Value),K.In s.heap->(us ++ ds).length=ps.length->BindsTo s fd ⟨us,[]⟩ (ps.zip (us ++ ds))
theorem YAH.all {K:W.Frag}{fd:FuncData}{ps:List Str} (h:∀us:List Value,us.length=ps.length->bindArgs fd ⟨us,[]⟩=pure (ps.zip us)):YAH K fd ps []:=λs us _ hl=>by
 rw[YLa]at hl ⊢;exact .of_eq (h us hl)
def X9 (CX:CXT) (X:Cx) (E:XK):Prop:=∀(pins:List (Addr×Obj)) (σ:St) (H:Hp) (s:Shared) (e:Value) (s':Shared),Inv X pins σ H s->CX X.stack H s E e s'->X.xe e s'
section
variable {X:Cx}{CX:CXT}{k:Nat}{f C:Addr}{fd:FuncData}{ps:List Str}{sp:Sp}{jh:List V}{ds:List Value}{E:XK}{x m:Str}{p pos cg:Pos}{e o:Expr}{es:List Expr}{ta:TE}{t:TA}
theorem YG6 {pins:List (Addr×Obj)}{σ:St}{H:Hp}{s:Shared}{Q:VK}{us:List Value}{vs:List V} (F:Yw X.prog X.w X.K X.mg X.base CX k f fd ps sp) (hr:Jq k X.A) (hb:YAH X.K fd ps ds) (hd:Yf jh ds) (hx:X9 CX X E)
  (I:Inv X pins σ H s) (r:Yf vs us) (h:sp (vs ++ jh) H Q E):wpAny (model X.prog X.w) X.A (call (.ref f) us) (EP X pins σ Q) X.xe s:=by
 have r2:Yf (vs ++ jh) (us ++ ds):=r.append hd;have hl:(us ++ ds).length=ps.length:=by rw[<-r2.length];exact F.len _ _ _ _ h
 refine wpAny_call (codeAny_mono (F.run X.A X.stack s H ⟨us,[]⟩ (us ++ ds) (vs ++ jh) Q E hr I.env0 (hb s us I.kIn hl) r2 h) λr s' hq=>?_);cases r with
 |error e=>exact hx pins σ H s e s' I hq
 |ok fl=>
  cases fl with
  |ret u=>exact I.after hq
  |next=>exact False.elim hq
  |brk=>exact False.elim hq
  |cont=>exact False.elim hq
theorem Ye (F:Yw X.prog X.w X.K X.mg X.base CX k f fd ps sp) (hr:Jq k X.A) (hg:Gl X x) (hm:X.mg x=some (.ref f)) (hk:PySem.W.keepIn X.K (.ref f)=true) (hb:YAH X.K fd ps ds) (hd:Yf jh ds) (hx:X9 CX X E)
  (ha:PA X (e :: es) t) (hdb:(x == ("__debug__":Str))=false:=by decide) (he:starEach (e :: es) X.env=(false,eval e X.env) :: starEach es X.env:=by rfl) (hpl:(backTo pos (starEach es X.env)).any (·.1)=false:=by rfl):
  PE X (.Call (.Name x p) (e :: es) [] pos) (tCall sp jh E t):=by
 intro pins s σ H Q I h;refine wpAny_Call_Name_kw (YCb I hg hm ?_ hdb);refine PySem.W.callWith_K (h₀:=X.base) I.ok.mod.kin hk (thn (ha pos pins s σ H _ I h) λus s1 ⟨vs,H1,I1,r,q⟩=>⟨I1.kIn,?_⟩) he hpl;exact YG6 F hr hb hd hx I1 r q
theorem Zh {pl:Sem Bool} (he:PE X o ta) (c:Cls X.K C) (hm:Meth X.K C m f) (F:Yw X.prog X.w X.K X.mg X.base CX k f fd ps sp) (hr:Jq k X.A) (hb:YAH X.K fd ps ds) (hd:Yf jh ds) (hx:X9 CX X E) (ha:PA X (e :: es) t)
  (hst:starEach (e :: es) X.env=(false,eval e X.env) :: starEach es X.env:=by rfl) (hpl:(backTo pos (starEach es X.env)).any (·.1)=false:=by rfl)
  (ht:eval (.Call (.Attribute o m cg) (e :: es) [] pos) X.env=(do
   let ov <-eval o X.env
   standAt cg.atName
   let (f,first) <-holding [ov] (getMethod ov m pl)
   callWith pos f first (backTo pos (starEach (e :: es) X.env)) (backToKw pos (keywordEach [] X.env))):=by rfl):
  PE X (.Call (.Attribute o m cg) (e :: es) [] pos) (tMeth C m sp jh E ta t):=by
 intro pins s σ H Q I h;refine PySem.W.methodCall_KW (pl:=pl) (thn (he pins s σ H _ I h) λu s1 ⟨x,H1,I1,rx,a,dx,fs,ex,ea,l,q⟩=>?_) ht;subst ex;obtain rfl:u=Value.ref a:=rx;refine YCq I1 ea c hm l ?_;refine PySem.W.callWith_K (first:=[.ref a]) (h₀:=X.base) I.ok.mod.kin hm.kp (thn (ha pos pins s1 σ H1 _ I1 q) λus s2 ⟨vs,H2,I2,r,q2⟩=>⟨I2.kIn,?_⟩) hst hpl;exact YG6 (us:=.ref a :: us) (vs:=.ref a :: vs) F hr hb hd hx I2 (.cons rfl r) q2
theorem YCr {pl:Sem Bool} (he:PE X o ta) (c:Cls X.K C) (hm:Meth X.K C m f) (F:Yw X.prog X.w X.K X.mg X.base CX k f fd ps sp) (hr:Jq k X.A) (hb:YAH X.K fd ps ds) (hd:Yf jh ds) (hx:X9 CX X E)
  (ht:eval (.Call (.Attribute o m cg) [] [] pos) X.env=(do
   let ov <-eval o X.env
   standAt cg.atName
   let (f,first) <-holding [ov] (getMethod ov m pl)
   callWith pos f first (backTo pos (starEach [] X.env)) (backToKw pos (keywordEach [] X.env))):=by rfl):
  PE X (.Call (.Attribute o m cg) [] [] pos) (tMeth C m sp jh E ta tNil):=by
 intro pins s σ H Q I h;refine PySem.W.methodCall_KW (pl:=pl) (thn (he pins s σ H _ I h) λu s1 ⟨x,H1,I1,rx,a,dx,fs,ex,ea,l,q⟩=>?_) ht;subst ex;obtain rfl:u=Value.ref a:=rx;refine YCq I1 ea c hm l ?_;exact PySem.W.callWith_K0 (first:=[.ref a]) I1.kIn hm.kp (YG6 (us:=[.ref a]) (vs:=[.ref a]) F hr hb hd hx I1 (.cons rfl .nil) q)
structure Mk (K:W.Frag) (C f:Addr):Prop where
 makes:PySem.W.makesIn K C=true
 init:PySem.W.findIn K (.ref C) "__init__"=some (some (.ref f))
 fn:PySem.W.isFn K (.ref f)=true
 kp:PySem.W.keepIn K (.ref C)=true
theorem YJj {pins:List (Addr×Obj)}{σ:St}{H:Hp}{s:Shared}{Q:VK}{us:List Value}{vs:List V} (M:Mk X.K C f) (F:Yw X.prog X.w X.K X.mg X.base CX k f fd ps sp) (hr:Jq (k + 1) X.A) (hb:YAH X.K fd ps ds) (hd:Yf jh ds)
  (hx:X9 CX X E) (I:Inv X pins σ H s) (r:Yf vs us)
  (h:∀x dx,H x=none->H dx=none->dx≠x->sp (.ref x :: (vs ++ jh)) (upd (upd H dx (.own x)) x (.ins C dx [])) (λv H2=>v=.non/\Q (.ref x) H2) E):
  wpAny (model X.prog X.w) X.A (call (.ref C) us) (EP X pins σ Q) X.xe s:=by
 have hq:=h (s.heap.objs.size + 1) s.heap.objs.size (I.hok.fresh (YMn _)) (I.hok.fresh (YKv _)) (YLW (Nat.lt_succ_self _));have I2:=Inv.made (C:=C) I;have r2:Yf (V.ref (s.heap.objs.size + 1) :: (vs ++ jh)) (Value.ref (s.heap.objs.size + 1) :: (us ++ ds)):=.cons rfl (r.append hd);have hl:(Value.ref (s.heap.objs.size + 1) :: us ++ ds).length=ps.length:=by
  have e:=r2.length;rw[F.len _ _ _ _ hq]at e;exact e.symm
 refine wpAny_call (YJh (f:=f) I.kIn M.makes M.init (beq_iff_eq.mp M.fn) (codeAny_mono (F.run _ X.stack _ _ ⟨Value.ref (s.heap.objs.size + 1) :: us,[]⟩ (Value.ref (s.heap.objs.size + 1) :: (us ++ ds)) _ _ E (hr.make C us [])
  (I2.env0.make C us []) (hb _ (Value.ref (s.heap.objs.size + 1) :: us) I2.kIn hl) r2 hq) λr s' hq'=>?_))
 cases r with
 |error e=>exact hx pins σ _ _ e s' I2 hq'
 |ok fl=>
  cases fl with
  |ret u=>
   obtain⟨v,H',I3,rv,ev,q3⟩:=I2.after hq';subst ev;exact⟨rv,⟨V.ref (s.heap.objs.size + 1),H',I3,Z,q3⟩⟩
  |next=>exact False.elim hq'
  |brk=>exact False.elim hq'
  |cont=>exact False.elim hq'
theorem YHu (M:Mk X.K C f) (F:Yw X.prog X.w X.K X.mg X.base CX k f fd ps sp) (hr:Jq (k + 1) X.A) (hg:Gl X x) (hm:X.mg x=some (.ref C)) (hb:YAH X.K fd ps ds) (hd:Yf jh ds) (hx:X9 CX X E)
  (ha:PA X (e :: es) t) (hdb:(x == ("__debug__":Str))=false:=by decide) (he:starEach (e :: es) X.env=(false,eval e X.env) :: starEach es X.env:=by rfl) (hpl:(backTo pos (starEach es X.env)).any (·.1)=false:=by rfl):
  PE X (.Call (.Name x p) (e :: es) [] pos) (tMake C sp jh E t):=by
 intro pins s σ H Q I h;refine wpAny_Call_Name_kw (YCb I hg hm ?_ hdb);refine PySem.W.callWith_K (h₀:=X.base) I.ok.mod.kin M.kp (thn (ha pos pins s σ H _ I h) λus s1 ⟨vs,H1,I1,r,q⟩=>⟨I1.kIn,?_⟩) he hpl;exact YJj M F hr hb hd hx I1 r q
end
def PK (X:Cx) (kws:List Keyword) (t:TA):Prop:=
 ∀(pos:Pos) (pins:List (Addr×Obj)) (s:Shared) (σ:St) (H:Hp) (Q:List V->Hp->Prop),Inv X pins σ H s->t σ H Q->wpAny (model X.prog X.w) X.A (evalAll ((backToKw pos (keywordEach kws X.env)).map (·.2))) (AP X pins σ Q) X.xe s
section
variable {X:Cx}{CX:CXT}{k:Nat}{f C:Addr}{fd:FuncData}{ps ks:List Str}{sp:Sp}{E:XK}{x m:Str}{p pos cg kpos:Pos}{e o:Expr}{es:List Expr}{kws:List Keyword}{te ta:TE}{t tk:TA}{nm:Option Str}
theorem pk_nil:PK X [] tNil:=λ_ _ _ _ H Q I h=>wpAny_evalAll_nil ⟨[],H,I,.nil,h⟩
theorem pk_cons (ha:PE X e te) (hr:PK X kws t):PK X (⟨nm,e,kpos⟩ :: kws) (YHt te t):=by
 intro pos pins s σ H Q I h;show wpAny _ _ (evalAll ((do let v <-eval e X.env;standAt pos;pure v) :: (backToKw pos (keywordEach kws X.env)).map (·.2))) _ _ s;refine wpAny_evalAll_cons (YKz (thn (ha pins s σ H _ I h) λu s1 ⟨x,H1,I1,r1,q1⟩=>YKz (wpAny_standAt (YLO ?_))));exact thn (hr pos pins s1 σ H1 _ I1 q1) λus s2 ⟨xs,H2,I2,r2,q2⟩=>⟨x :: xs,H2,I2,.cons r1 r2,q2⟩
variable {g:List Value->List Value->List Value}{gV:List V->List V->List V}
end
structure YW (N P:List Str) (sc:Scope):Prop where
 kind:sc.kind=.function
 co:sc.isCoroutine=false
 gen:sc.isGenerator=false
 nd:N.Nodup
 pre:N.take P.length=P
 par:∀x∈P,sc.names.lookup x=some .local\/sc.names.lookup x=some .cell
 nofree:∀y∈sc.names,y.2≠.free
theorem YDv {kindOf:Str->Option NameKind}{x:Str}:∀{binds:List (Str×Value)}{m:Str->Option Value},(∀v,(x,v)∉binds)->bindL kindOf binds m x=m x
 |[],_,_=>rfl
 |(n,v) :: r,m,h=>by
  unfold bindL;rw[YDv λw hw=>h w (YLA _ hw)];split
  ·have:x≠n:=by rintro rfl;exact h v YLJ
   simp[this]
  ·rfl
theorem YDw {kindOf:Str->Option NameKind}{x:Str}:∀{binds:List (Str×Value)}{m:Str->Option Value},(∀v,(x,v)∉binds)->bindC kindOf binds m x=m x
 |[],_,_=>rfl
 |(n,v) :: r,m,h=>by
  unfold bindC;rw[YDw λw hw=>h w (YLA _ hw)];split
  ·rfl
  ·have:x≠n:=by rintro rfl;exact h v YLJ
   simp[this]
theorem YDx {kindOf:Str->Option NameKind}{x:Str}{v:Value}:∀{P:List Str}{vs:List Value}{i:Nat}{m:Str->Option Value},P.Nodup->P[i]?=some x->vs[i]?=some v->kindOf x=some .local->
  bindL kindOf (P.zip vs) m x=some v
 |[],_,_,_,_,h,_,_=>by simp at h
 |_ :: _,[],_,_,_,_,h,_=>by simp at h
 |p :: P,w :: vs,0,m,nd,h1,h2,hk=>by
  simp at h1 h2;subst h1;subst h2;show bindL kindOf ((p,w) :: P.zip vs) m p=_;unfold bindL;rw[YDv λv hv=>(YL1.mp nd).1 (List.of_mem_zip hv).1,if_pos hk];simp
 |p :: P,w :: vs,i + 1,m,nd,h1,h2,hk=>by
  show bindL kindOf ((p,w) :: P.zip vs) m x=_;unfold bindL;exact YDx (i:=i) (YL1.mp nd).2 (by simpa using h1) (by simpa using h2) hk
theorem YDy {kindOf:Str->Option NameKind}{x:Str}{v:Value}:∀{P:List Str}{vs:List Value}{i:Nat}{m:Str->Option Value},P.Nodup->P[i]?=some x->vs[i]?=some v->kindOf x≠some .local->
  bindC kindOf (P.zip vs) m x=some v
 |[],_,_,_,_,h,_,_=>by simp at h
 |_ :: _,[],_,_,_,_,h,_=>by simp at h
 |p :: P,w :: vs,0,m,nd,h1,h2,hk=>by
  simp at h1 h2;subst h1;subst h2;show bindC kindOf ((p,w) :: P.zip vs) m p=_;unfold bindC;rw[YDw λv hv=>(YL1.mp nd).1 (List.of_mem_zip hv).1,if_neg hk];simp
 |p :: P,w :: vs,i + 1,m,nd,h1,h2,hk=>by
  show bindC kindOf ((p,w) :: P.zip vs) m x=_;unfold bindC;exact YDy (i:=i) (YL1.mp nd).2 (by simpa using h1) (by simpa using h2) hk
def start (N:List Str) (vs:List V):St:=vs.map some ++ List.replicate (N.length - vs.length) none
def YBq (CX:CXT) (P:Program) (w:World) (K:W.Frag) (mg:Str->Option Value) (base:Heap) (N:List Str) (qual:Str) (scope:Scope) (f:Addr) (cd:Value) (A:Around) (outer:List Env) (s:Shared) (H:Hp) (E:XK):Cx where
 prog:=P
 w:=w
 K:=K
 mg:=mg
 base:=base
 A:=A.deeper (envOfC qual scope s.heap.objs.size f cd)
 N:=N
 s₀:=s
 H₀:=H
 env:=envOfC qual scope s.heap.objs.size f cd
 outer:=outer
 stack:=envOfC qual scope s.heap.objs.size f cd :: outer
 ex:=[]
 calm:=true
 fn:=λ_=>true
 pn:=[]
 xe:=λe s'=>wpAny (model P w) (A.deeper (envOfC qual scope s.heap.objs.size f cd)) (leaving (envOfC qual scope s.heap.objs.size f cd) e) (λ_ qD=>CX outer H s E e qD) (λe' qD=>CX outer H s E e' qD) s'
theorem XB {sc:Scope}{n:Nat}{x:Str} (h:sc.names.lookup x=some .cell):∃c,(cellsFrom n sc.names []).lookup x=some c:=by
 have q:=PySem.W.cellsFrom_some sc.names n [] (.inl h);exact YLZ.mp q
theorem YIs {CX:CXT}{P:Program}{w:World}{K:W.Frag}{mg:Str->Option Value}{base:Heap}{N ps:List Str}{qual:Str}{scope:Scope}{f:Addr}{cd:Value}{A:Around}{outer:List Env}{s s1:Shared}{H:Hp}{E:XK}{us:List Value}{vs:List V}
  (S:YW N ps scope) (hd:A.handled=none) (e0:Env0 P w K mg base A outer s H) (hl:vs.length=ps.length) (r:Yf vs us)
  (x:InCallC s s.heap.objs.size (bindL (envOfC qual scope s.heap.objs.size f cd).kindOf (ps.zip us) λ_=>none) (cellsFrom (s.heap.objs.size + 1) scope.names []) (bindC (envOfC qual scope s.heap.objs.size f cd).kindOf (ps.zip us) λ_=>none) s1):
  Inv (YBq CX P w K mg base N qual scope f cd A outer s H E) [] (start N vs) H s1:=by
 have hpl:ps.length<=N.length:=by have:=YL5 List.length S.pre;rw[YL3]at this;omega
 obtain⟨h1,tk,rfl,hk⟩:=x.done;have noA:∀b:Addr,b∉(YBq CX P w K mg base N qual scope f cd A outer s H E).ex:=λb z=>absurd (show b∈([]:List Addr) from z) (by simp)
 refine⟨⟨e0.mod,S.kind,Z,Z,YKv _,λy z c h1 h2=>?_,λy hy=>?_,λy c _ h=>?_,λ_=>hd,Around.frames_deeper e0.frames,.inr ⟨Z,Z⟩,λb z=>absurd z (noA b),e0.bs,e0.bsz,λb _ _=>noA b,λb z=>absurd z (noA b),e0.funs,e0.frf⟩,
  rfl,e0.bare,Un.kept hk,⟨_,x.toInCall.ns,λi y v h1 h2 h3=>?_⟩,λy c h=>⟨_,x.cell y c h⟩,e0.hok.fresh (YKv _),λy c h=>?_,λp hp=>absurd (show p∈([]:List (Addr×Obj)) from hp) (by simp),e0.hok.kept hk,?_⟩
 ·exact name_of_addr x.apart (PySem.mem_of_lookup h1) (PySem.mem_of_lookup h2)
 ·have hy:scope.names.lookup y=some .cell\/scope.names.lookup y=some .free:=hy;rcases hy with hy |hy
  ·exact XB hy
  ·exact absurd rfl (S.nofree _ (PySem.mem_of_lookup hy))
 ·exact YMf (x.above y c (PySem.mem_of_lookup h))
 ·have hi:i < vs.length:=by
   unfold start at h2
   by_cases hi:i < vs.length
   ·exact hi
   ·rw[YLl (by simpa using hi)]at h2;rw[List.getElem?_replicate]at h2;split at h2 <;> cases h2
  have ha:vs[i]?=some v:=by
   unfold start at h2;rw[YLx (by simpa using hi),YK1]at h2;cases e:vs[i]? with
   |none=>rw[e]at h2;cases h2
   |some a=>rw[e]at h2;cases h2;rfl
  obtain⟨u,hu,rv⟩:=r.get ha;have hp:ps[i]?=some y:=by
   rw[<-S.pre,List.getElem?_take_of_lt (by omega)];exact h1
  have ndP:ps.Nodup:=by rw[<-S.pre];exact S.nd.sublist (List.take_sublist _ _)
  refine⟨u,rv,?_⟩;rcases S.par y (YKw hp) with k |k
  ·exact .inl ⟨k,YDx ndP hp hu k⟩
  ·obtain⟨c,e⟩:=XB (n:=s.heap.objs.size + 1) k;refine .inr ⟨.inl k,c,e,?_⟩;have q:=x.cell y c e;rw[YDy ndP hp hu (by show scope.names.lookup y≠_;rw[k];decide)]at q;exact q
 ·exact e0.hok.fresh (YMf (x.above y c (PySem.mem_of_lookup h)))
 ·unfold start;show _=N.length;rw[YK5,YKu,YLV];omega
theorem fn_of {CX:CXT}{P:Program}{w:World}{K:W.Frag}{mg:Str->Option Value}{base:Heap}{k:Nat}{f:Addr}{name qual:Str}{params:Arguments}{body:List Stmt}{scope:Scope}{dV kV doc pm aO ct oc:Value}{an od:Option Addr}
  {osl:Array (Option Value)}{N ps:List Str}{sp:Sp} (lk:K.lookup f=some ⟨oc,od,.func (PySem.W.fnOf name qual params body scope dV kV doc pm an aO ct),osl⟩) (hcd:PySem.W.codeIn K aO qual=true) (S:YW N ps scope)
  (len:∀vs H Q E,sp vs H Q E->vs.length=ps.length)
  (hbody:∀(A:Around) (outer:List Env) (s:Shared) (H:Hp) (vs:List V) (Q:VK) (E:XK),Jq k (A.deeper (envOfC qual scope s.heap.objs.size f aO))->sp vs H Q E->
   ∃t,PSs (YBq CX P w K mg base N qual scope f aO A outer s H E) body t/\t { nx:=λ_ H'=>Q .non H',rt:=Q } (start N vs) H):
  Yw P w K mg base CX (k + 1) f (PySem.W.fnOf name qual params body scope dV kV doc pm an aO ct) ps sp:=by
 refine⟨len,λA outer s H args us vs Q E hr e0 hb r hsp=>?_⟩;have hl:=len _ _ _ _ hsp;have KX:K.In s.heap:=e0.mod.kin.keeps λb o e=>(e0.bs b o e).1
 have lim:s.heap.NoLimit:=e0.mod.nolimit.keeps λb o e=>(e0.bs b o e).1
 have hkind:∀y∈ps.zip us,scope.names.lookup y.1=some .local\/(scope.names.lookup y.1=some .cell/\((cellsFrom (s.heap.objs.size + 1) scope.names []).lookup y.1).isSome=true):=λ⟨n,v⟩ hy=>by
  rcases S.par n (List.of_mem_zip hy).1 with q |q
  ·exact .inl q
  ·exact .inr ⟨q,PySem.W.cellsFrom_some _ _ _ (.inl q)⟩
 refine codeAny_call_function hr.depth (KX _ _ lk) rfl S.co S.gen rfl (PySem.W.codeRec_of KX hcd) (hb _ _ _ _ ?_);refine wpAny_newFunctionEnv_cells S.kind hkind λenv he s1 x=>?_
 subst he;refine⟨lim.keeps x.toInCall.keep,codeAny_func ?_⟩;obtain⟨t,ht,hq⟩:=hbody A outer s H vs Q E (hr.deeper _) hsp;have I:Inv (YBq CX P w K mg base N qual scope f aO A outer s H E) [] (start N vs) H s1:=YIs S hr.hd e0 hl r x;refine wpAny_mono (ht [] s1 (start N vs) H _ I hq) (λfl s' hs=>?_) λe s' hs=>hs
 have fin:∀{σ':St}{H':Hp}{v:V}{u:Value},Inv (YBq CX P w K mg base N qual scope f aO A outer s H E) [] σ' H' s'->Yk v u->Q v H'->CE outer P w H s Q u s':=
  λ{σ' H' v u} J rv q=>⟨v,H',J.os,J.bare,J.base,J.hok,rv,q⟩
 cases fl with
 |ret u=>
  obtain⟨v,σ',H',J,rv,q⟩:=hs;exact fin J rv q
 |next=>
  obtain⟨σ',H',J,q⟩:=hs;exact fin (v:=V.non) (u:=Value.none) J rfl q
 |brk=>
  obtain⟨_,_,_,q⟩:=hs;exact False.elim q
 |cont=>
  obtain⟨_,_,_,q⟩:=hs;exact False.elim q
end L2
namespace L2
open PySem PySem.Spec PyProof.Rows
section
variable {X:Cx}{x:Str}{p pos:Pos}{e:Expr}{es:List Expr}{t:TA}{id T:String}{r:List V->Hp->VK->Prop}
def tCB (r:List V->Hp->VK->Prop) (t:TA):TE:=λσ H Q=>t σ H λvs H1=>r vs H1 Q
theorem YR (hc:Jp X (.builtin id) r) (hg:Gl X x) (hm:X.mg x=none) (hv:bootBuiltins x=some (.builtin id)) (ha:PA X (e :: es) t) (hn:x≠"__name__":=by decide) (hdb:(x == ("__debug__":Str))=false:=by decide)
  (he:starEach (e :: es) X.env=(false,eval e X.env) :: starEach es X.env:=by rfl) (hpl:(backTo pos (starEach es X.env)).any (·.1)=false:=by rfl):PE X (.Call (.Name x p) (e :: es) [] pos) (tCB r t):=by
 intro pins s σ H Q I h;refine wpAny_Call_Name_kw (JR I hg hm hv ?_ hn hdb);exact PyProof.Rows.callWith_builtin1 (thn (ha pos pins s σ H _ I h) λus s1 ⟨vs,H1,I1,r1,q1⟩=>hc pins s1 σ H1 vs us Q I1 r1 q1) he hpl
theorem Xq (hc:Jp X (.type T) r) (hg:Gl X x) (hm:X.mg x=none) (hv:bootBuiltins x=some (.type T)) (ha:PA X (e :: es) t) (hn:x≠"__name__":=by decide) (hdb:(x == ("__debug__":Str))=false:=by decide)
  (he:starEach (e :: es) X.env=(false,eval e X.env) :: starEach es X.env:=by rfl) (hpl:(backTo pos (starEach es X.env)).any (·.1)=false:=by rfl):PE X (.Call (.Name x p) (e :: es) [] pos) (tCB r t):=by
 intro pins s σ H Q I h;refine wpAny_Call_Name_kw (JR I hg hm hv ?_ hn hdb);exact PyProof.Rows.callWith_type1 (thn (ha pos pins s σ H _ I h) λus s1 ⟨vs,H1,I1,r1,q1⟩=>hc pins s1 σ H1 vs us Q I1 r1 q1) he hpl
end
end L2
namespace HT
open PySem PyProof.Rows
section
open PySem.SeqAt
open PySem.AutoSeq1 (wpAny_loadPart')
open PySem.MeetsSeq PySem.MeetsSeq2 PySem.MeetsSeq3
end
section
variable {prog:Program}{w:World}{A:Around}{E:Value->Shared->Prop}{s:Shared}
def sIx (n d:Nat):Option Int->Nat
 |none=>d
 |some v=>if v < 0 then (v + (n:Int)).toNat else min v.toNat n
theorem sIx_nat (n d k:Nat):sIx n d (some (k:Int))=min k n:=by
 show(if (k:Int) < 0 then ((k:Int) + (n:Int)).toNat else min (k:Int).toNat n)=min k n;rw[if_neg (by omega),Int.toNat_natCast]
end
end HT
namespace L2
open PySem PySem.Spec PyProof.Rows
abbrev TO:=St->Hp->(Option Int->Hp->Prop)->Prop
def PO (X:Cx) (e:Option Expr) (t:TO):Prop:=
 ∀(pins:List (Addr×Obj)) (s:Shared) (σ:St) (H:Hp) (Q:Option Int->Hp->Prop),Inv X pins σ H s->t σ H Q->
  wpAny (model X.prog X.w) X.A (evalPart e X.env) (λu s'=>∃o H',Inv X pins σ H' s'/\IsPart u o/\Q o H') X.xe s
def tNoPart:TO:=λ_ H Q=>Q none H
inductive YJk (Q:Option Int->Hp->Prop) (x:V) (H1:Hp):Prop where
 |mk (i:_) (aX:x=.int i) (aY:Q (some i) H1):YJk Q x H1
def tPart (t:TE):TO:=λσ H Q=>t σ H λx H1=>YJk Q x H1
section
variable {X:Cx}{e:Expr}{te:TE}{lo hi:Option Expr}{tl th:TO}{pos p2:Pos}
theorem YHv:PO X none tNoPart:=by
 intro pins s σ H Q I h;rw[evalPart_none];exact YLO ⟨none,H,I,.none,h⟩
theorem JG (h:PE X e te):PO X (some e) (tPart te):=by
 intro pins s σ H Q I hw;rw[evalPart_some];refine thn (h pins s σ H _ I hw) λu s1 ⟨x,H1,I1,r1,q1⟩=>?_
 obtain⟨i,rfl,q⟩:=q1;obtain⟨t,rfl⟩:=r1;exact⟨some i,H1,I1,.int i t,q⟩
def SlR (X:Cx) (r:V->Option Int->Option Int->Hp->VK->Prop):Prop:=
 ∀(pins:List (Addr×Obj)) (s:Shared) (σ:St) (H:Hp) (x:V) (v vl vu:Value) (lo hi:Option Int) (sl:Addr) (Q:VK),Inv X pins σ H s->Yk x v->s.heap.IsSliceOf sl vl vu .none->IsPart vl lo->IsPart vu hi->r x lo hi H Q->
  ∃T id,typeLookup (.type T) "__getitem__"=pure (some (.builtin id))/\s.TypeIs v T/\wpAny (model X.prog X.w) X.A (getItem v (.ref sl)) (EP X pins σ Q) X.xe s
def tSl (r:V->Option Int->Option Int->Hp->VK->Prop) (te:TE) (tl th:TO):TE:=λσ H Q=>te σ H λx H1=>tl σ H1 λl H2=>th σ H2 λu H3=>r x l u H3 Q
theorem XC {r:V->Option Int->Option Int->Hp->VK->Prop} (hr:SlR X r) (he:PE X e te) (hl:PO X lo tl) (hu:PO X hi th):PE X (.Subscript e (.Slice lo hi none p2) pos) (tSl r te tl th):=by
 intro pins s σ H Q I h;refine Subscript_ (thn (he pins s σ H _ I h) λv s1 ⟨x,H1,I1,r1,q1⟩=>?_);refine wpAny_Slice (thn (hl pins s1 σ H1 _ I1 q1) λvl s2 ⟨l,H2,I2,pl,q2⟩=>thn (hu pins s2 σ H2 _ I2 q2) λvu s3 ⟨u,H3,I3,pu,q3⟩=>?_);rw[evalPart_none];refine YLO ?_;have I4:Inv X pins σ H3 { s3 with heap:=s3.heap.push { cls:=.type "slice",data:=.fields #[vl,vu,.none] } }:=I3.kept (t':=s3.toks) λb ob q=>YK3 _ q
 obtain⟨T,id,hT,ht,hg⟩:=hr pins { s3 with heap:=s3.heap.push { cls:=.type "slice",data:=.fields #[vl,vu,.none] } } σ H3 x v vl vu l u s3.heap.objs.size Q I4 r1 (Heap.IsSliceOf.new ..) pl pu q3;show wpAny (model X.prog X.w) X.A (subscriptTail e (.Slice lo hi none p2) v (.ref s3.heap.objs.size)) (EP X pins σ Q) X.xe { s3 with heap:=s3.heap.push { cls:=.type "slice",data:=.fields #[vl,vu,.none] } };exact tail_any (ops:=[.ref s3.heap.objs.size,v]) ht hT hg (by with_unfolding_all rfl)
def YDc (xs:List V) (lo hi:Option Int):List V:=(xs.drop (HT.sIx xs.length 0 lo)).take (HT.sIx xs.length xs.length hi - HT.sIx xs.length 0 lo)
theorem YFX (xs:List V) (lo hi:Option Int):(YDc xs lo hi).length<=xs.length:=by
 unfold YDc;rw[YL3,List.length_drop];omega
end
end L2
namespace L2
open PySem PySem.Spec PyProof.Rows
def ixN (n:Nat) (i:Int):Option Nat:=if 0<=i then (if i < n then some i.toNat else none) else if -(n:Int)<=i then some (i + n).toNat else none
def atI {α:Type} (xs:List α) (i:Int):Option α:=(ixN xs.length i).bind λj=>xs[j]?
theorem YHw {n:Nat}{i:Int}{j:Nat} (h:ixN n i=some j):seqIndex? i n=some j/\j < n/\-(n:Int)<=i/\i < n:=by
 unfold ixN at h
 by_cases h0:0<=i
 ·rw[if_pos h0]at h
  by_cases h1:i < n
  ·rw[if_pos h1]at h;have e:i.toNat=j:=YLP h;exact⟨by rw[seqIndex_of h0 h1,e],by omega,by omega,h1⟩
  ·rw[if_neg h1]at h;cases h
 ·rw[if_neg h0]at h
  by_cases h1:-(n:Int)<=i
  ·rw[if_pos h1]at h;have e:(i + n).toNat=j:=YLP h;exact⟨by rw[seqIndex_neg (by omega) h1,e],by omega,h1,by omega⟩
  ·rw[if_neg h1]at h;cases h
theorem YEs {α:Type}{xs:List α}{i:Int}{v:α} (h:atI xs i=some v):∃j,seqIndex? i xs.length=some j/\xs[j]?=some v/\j < xs.length/\-(xs.length:Int)<=i/\i < xs.length:=by
 unfold atI at h;cases e:ixN xs.length i with
 |none=>rw[e]at h;cases h
 |some j=>
  rw[e]at h;obtain⟨h1,h2,h3,h4⟩:=YHw e;exact⟨j,h1,h,h2,h3,h4⟩
theorem Yq {α:Type}{xs:List α}{j:Nat}{v:α} (h:xs[j]?=some v):atI xs (j:Int)=some v:=by
 have hj:j < xs.length:=(YKy.mp h).1;have e:ixN xs.length (j:Int)=some j:=by
  unfold ixN;rw[if_pos (by omega),if_pos (by omega)];simp
 unfold atI;rw[e];exact h
theorem YJl {α:Type} (xs:List α) (v:α):atI (xs ++ [v]) (-1)=some v:=by
 have hl:(xs ++ [v]).length=xs.length + 1:=by simp
 have e:ixN (xs ++ [v]).length (-1)=some xs.length:=by
  unfold ixN;rw[hl,if_neg (by decide),if_pos (by omega)];congr 1;omega
 unfold atI;rw[e];show(xs ++ [v])[xs.length]?=some v;simp
def PlainIx (b:Expr):Prop:=∀o i,subscripted b false o i=operate [o,i] (getItem o i)
def IxR (X:Cx) (r:R2):Prop:=
 ∀(value slice:Expr) (pins:List (Addr×Obj)) (s:Shared) (σ:St) (H:Hp) (x y:V) (v u:Value) (Q:VK),Inv X pins σ H s->Yk x v->Yk y u->r x y H Q->
  subscripted slice false v u=operate [v,u] (getItem v u)->wpAny (model X.prog X.w) X.A (subscriptTail value slice v u) (EP X pins σ Q) X.xe s
def MtR (X:Cx) (id:String) (r:V->List V->Hp->VK->Prop):Prop:=
 ∀(pins:List (Addr×Obj)) (s:Shared) (σ:St) (H:Hp) (x:V) (xs:List V) (v:Value) (us:List Value) (Q:VK),Inv X pins σ H s->Yk x v->Yf xs us->r x xs H Q->
  wpAny (model X.prog X.w) X.A (call (.builtin id) (v :: us)) (EP X pins σ Q) X.xe s
section
variable {X:Cx}{a b:Expr}{ta tb:TE}{pos:Pos}
theorem YM {r:R2} (hr:IxR X r) (ha:PE X a ta) (hb:PE X b tb) (hs:PlainIx b):PE X (.Subscript a b pos) (tOp r ta tb):=by
 intro pins s σ H Q I h;exact Subscript_ (binT ha hb I h λv u s2 x y H2 I2 rx ry q=>hr a b pins s2 σ H2 x y v u Q I2 rx ry q (hs _ _))
inductive rIxL_ (K:W.Frag) (x:V) (y:V) (H:Hp) (Q:VK):Prop where
 |mk (p:_) (xs:_) (i:_) (v:_) (aX:x=.ref p) (aY:y=.int i) (bU:SqL K H p xs) (cN:atI xs i=some v) (dh:Q v H):rIxL_ K x y H Q
def rIxL (K:W.Frag):R2:=λx y H Q=>rIxL_ K x y H Q
inductive rIxT_ (K:W.Frag) (x:V) (y:V) (H:Hp) (Q:VK):Prop where
 |mk (p:_) (xs:_) (i:_) (v:_) (aX:x=.ref p) (aY:y=.int i) (bU:SqT K H p xs) (cN:atI xs i=some v) (dh:Q v H):rIxT_ K x y H Q
def rIxT (K:W.Frag):R2:=λx y H Q=>rIxT_ K x y H Q
inductive rIxS_ (x:V) (y:V) (H:Hp) (Q:VK):Prop where
 |mk (z:_) (i:_) (c:_) (aX:x=.str z) (aY:y=.int i) (bU:z.length<=sizeLine) (cN:atI z.cps.toList i=some c) (dh:Q (.str ⟨#[c]⟩) H):rIxS_ x y H Q
def rIxS:R2:=λx y H Q=>rIxS_ x y H Q
theorem ix_list:IxR X (rIxL X.K):=by
 intro value slice pins s σ H x y v u Q I rx ry h hs;obtain⟨p,xs,i,z,rfl,rfl,hq,he,q⟩:=h;cases rx;obtain⟨t,rfl⟩:=ry;obtain⟨its,r,pl,hz⟩:=I.list hq;obtain⟨j,h1,h2,h3,h4,h5⟩:=YEs he;obtain⟨w,ew,qF⟩:=r.get h2;have hl:=r.length;have hn:=YAR;have fin:EP X pins σ Q w s:=⟨z,H,I,qF,q⟩
 by_cases h0:0<=i
 ·have hj:i.toNat=j:=by
   rw[seqIndex_of h0 h5]at h1;exact YLP h1
  exact item_listR pl.isList h0 (by omega) (by rw[hj];simpa using ew) fin hs
 ·have hj:(i + (its.toArray.size:Int)).toNat=j:=by
   rw[seqIndex_neg (by omega) h4]at h1;rw[YK9,<-hl];exact YLP h1
  exact subscriptTail_builtinR (x:=w) pl.isList.typeIs slot_list_getitem.lookup
   (wpAny_getItem_list_neg (Q:=λr s'=>r=w/\EP X pins σ Q r s') pl.isList (by omega) (by rw[YK9] <;> omega) (by omega) (by rw[hj];simpa using ew) ⟨Z,fin⟩) hs
theorem ix_tup:IxR X (rIxT X.K):=by
 intro value slice pins s σ H x y v u Q I rx ry h hs;obtain⟨p,xs,i,z,rfl,rfl,hq,he,q⟩:=h;cases rx;obtain⟨t,rfl⟩:=ry;obtain⟨its,r,pl,hz⟩:=I.tuple hq;obtain⟨j,h1,h2,h3,h4,h5⟩:=YEs he;obtain⟨w,ew,qF⟩:=r.get h2;have hl:=r.length;have hn:=YAR;have fin:EP X pins σ Q w s:=⟨z,H,I,qF,q⟩;exact subscriptTail_builtinR (x:=w) pl.typeIs slot_tuple_getitem.lookup
  (getItem_tuple (j:=j) (Q:=λr s'=>r=w/\EP X pins σ Q r s') pl (by omega) (by omega) (by rw[YK9,<-hl];exact h1) (by simpa using ew) ⟨Z,fin⟩) hs
theorem XD:IxR X rIxS:=by
 intro value slice pins s σ H x y v u Q I rx ry h hs;obtain⟨z,i,c,rfl,rfl,hz,he,q⟩:=h;obtain⟨t,rfl⟩:=rx;obtain⟨t',rfl⟩:=ry;obtain⟨j,h1,h2,h3,h4,h5⟩:=YEs he;have hl:z.cps.toList.length=z.length:=by simp[Str.length]
 rw[hl]at h1 h4 h5;have hn:=YAR;exact tail_any (typeIs_str s z t) slot_str_getitem.lookup (getItem_str (c:=c) (by
  have e1:decide (i < -(2 ^ 63:Int))=false:=YK0 (by omega);have e2:decide (i>=2 ^ 63)=false:=YK0 (by omega);rw[e1,e2,Bool.or_false]) (by rw[h1];simpa using h2) ⟨.str ⟨#[c]⟩,H,I.tok _,⟨_,Z⟩,q⟩) hs
theorem YG7 (its:List Value) (n j:Nat) (u:Value):Obj.mapSeq (·.setIfInBounds j u) { cls:=.type "list",data:=.seq its.toArray n }={ cls:=.type "list",data:=.seq (its.set j u).toArray n }:=by
 simp[Obj.mapSeq]
theorem Inv.lst {pins:List (Addr×Obj)}{σ:St}{H:Hp}{s:Shared}{p:Addr}{xs:List V} (I:Inv X pins σ H s) (h:H p=some (.lst xs)):
  ∃(its:List Value) (n:Nat),Yf xs its/\s.heap.get? p=some { cls:=.type "list",data:=.seq its.toArray n }/\xs.length<=sizeLine:=by
 obtain⟨z,its,n,r,e⟩:=I.hok p _ h;exact⟨its,n,r,e,z⟩
theorem Inv.lstUpd {pins:List (Addr×Obj)}{σ:St}{H:Hp}{s:Shared}{p:Addr}{xs ys:List V}{its its':List Value}{n n':Nat}{f:Obj->Obj} (I:Inv X pins σ H s) (h:H p=some (.lst xs))
  (ho:s.heap.get? p=some { cls:=.type "list",data:=.seq its.toArray n }) (hf:f { cls:=.type "list",data:=.seq its.toArray n }={ cls:=.type "list",data:=.seq its'.toArray n' }) (r:Yf ys its') (hz:ys.length<=sizeLine) (t:Nat):
  Inv X pins σ (upd H p (.lst ys)) { s with heap:=s.heap.update p f,toks:=t }:=by
 have e:(s.heap.update p f).get? p=some { cls:=.type "list",data:=.seq its'.toArray n' }:=by
  rw[YLp f ho (by rw[hf] <;> rfl),hf]
 refine I.write (x:=p) (e:=p) (by rw[h];trivial) (.inl rfl) (λb u hb q=>(YLc _ _ (Ne.symm hb)).trans q) ⟨_,e⟩ ?_;exact⟨hz,its',n',r,e⟩
def rSetL:V->V->V->Hp->(Hp->Prop)->Prop:=λo i v H Q=>∃p xs k j,o=.ref p/\i=.int k/\H p=some (.lst xs)/\ixN xs.length k=some j/\Q (upd H p (.lst (xs.set j v)))
theorem YCs:PSet X rSetL:=by
 intro pins s σ H o i v ov iv u Q I ro ri rv h;obtain⟨p,xs,k,j,rfl,rfl,hp,hj,q⟩:=h;cases ro;obtain⟨t,rfl⟩:=ri;obtain⟨its,n,r,ho,hz⟩:=I.lst hp;obtain⟨h1,h2,h3,h4⟩:=YHw hj;have hl:=r.length;have hn:=YAR;have I':Inv X pins σ (upd H p (.lst (xs.set j v))) { s with heap:=s.heap.update p (Obj.mapSeq (·.setIfInBounds j u)) }:=
  I.lstUpd hp ho (YG7 its n j u) (r.set rv j) (by rw[YMQ];exact hz) s.toks
 by_cases h0:0<=k
 ·have hk:k.toNat=j:=by
   rw[seqIndex_of h0 h4]at h1;exact YLP h1
  exact PySem.W.ki_setAt ho h0 (by omega) (by rw[YK9,<-hl];exact h4) (by rw[hk];exact⟨_,I',q⟩)
 ·have hk:(k + (its.toArray.size:Int)).toNat=j:=by
   rw[seqIndex_neg (by omega) h3]at h1;rw[YK9,<-hl];exact YLP h1
  exact PySem.W.ki_setBack ho (by omega) (by rw[YK9,<-hl];exact h3) (by omega) (by rw[hk];exact⟨_,I',q⟩)
theorem YEt (lo hi:Option Int) (n:Nat):(sliceBounds lo hi none n).1=((HT.sIx n 0 lo:Nat):Int)/\(sliceBounds lo hi none n).2.1=((HT.sIx n n hi:Nat):Int)/\(sliceBounds lo hi none n).2.2=1:=by
 refine⟨?_,?_,Z⟩
 ·cases lo with
  |none=>simp[sliceBounds,HT.sIx]
  |some i=>
   simp only[sliceBounds,HT.sIx,Option.getD_none,show(1:Int) > 0 by decide,if_true]
   by_cases h:i < 0
   ·simp only[h,if_true] <;> omega
   ·simp only[h,if_false] <;> omega
 ·cases hi with
  |none=>simp[sliceBounds,HT.sIx]
  |some i=>
   simp only[sliceBounds,HT.sIx,Option.getD_none,show(1:Int) > 0 by decide,if_true]
   by_cases h:i < 0
   ·simp only[h,if_true] <;> omega
   ·simp only[h,if_false] <;> omega
theorem YDd (its:List Value) (lo hi:Option Int):slicePick its.toArray lo hi none=((its.drop (HT.sIx its.length 0 lo)).take (HT.sIx its.length its.length hi - HT.sIx its.length 0 lo)).toArray:=by
 obtain⟨h1,h2,h3⟩:=YEt lo hi its.toArray.size;unfold slicePick;rw[h1,h2,h3];simp only[sliceRange_one,pick_run,YK9] <;> rfl
inductive rSlL_ (K:W.Frag) (x:V) (lo:Option Int) (hi:Option Int) (H:Hp) (Q:VK):Prop where
 |mk (a:_) (xs:_) (aX:x=.ref a) (aY:SqL K H a xs) (bU:∀p,H p=none->Q (.ref p) (upd H p (.lst (YDc xs lo hi)))):rSlL_ K x lo hi H Q
def rSlL (K:W.Frag):V->Option Int->Option Int->Hp->VK->Prop:=λx lo hi H Q=>rSlL_ K x lo hi H Q
theorem sl_list:SlR X (rSlL X.K):=by
 intro pins s σ H x v vl vu lo hi sl Q I rx hs pl pu h;obtain⟨a,xs,rfl,hx,q⟩:=h;cases rx;obtain⟨its,r,ht,hz⟩:=I.list hx;have hlen:=r.length;refine⟨"list",_,slot_list_getitem.lookup,ht.isList.typeIs,?_⟩;refine wpAny_getItem_list_slice ht.isList hs pl pu .none (by simp) ?_ (by rw[YK9] <;> omega);rw[YDd,<-hlen];refine⟨.ref s.heap.objs.size,_,I.laid (t':=s.toks) (o:=.lst (YDc xs lo hi)) (λb ob q=>YK3 _ q) (YKv _) ?_,Z,q _ (I.hok.fresh (YKv _))⟩;exact⟨YLU (YFX xs lo hi) hz,_,0,(r.drop (HT.sIx xs.length 0 lo)).take (HT.sIx xs.length xs.length hi - HT.sIx xs.length 0 lo),YLI _ rfl⟩
theorem YEu:Jp X (.builtin "len") (λxs H Q=>∃p ys,xs=[.ref p]/\(SqL X.K H p ys\/SqT X.K H p ys)/\Q (.int ys.length) H):=by
 intro pins s σ H xs us Q I r h;obtain⟨p,ys,rfl,hq,q⟩:=h;obtain⟨u,rfl,rx⟩:=XY r;cases rx;have hn:=YAR;rcases hq with hq |hq
 ·obtain⟨its,r',pl,hz⟩:=I.list hq;have hlen:=r'.length;exact Calls.call_len_list pl.isList (by simp only[YK9] <;> omega) ⟨.int ys.length,H,I.tok _,⟨s.toks + 1,by rw[YK9,hlen]⟩,q⟩
 ·obtain⟨its,r',pl,hz⟩:=I.tuple hq;have hlen:=r'.length;exact len_tuple pl (by simp only[YK9] <;> omega) ⟨.int ys.length,H,I.tok _,⟨s.toks + 1,by rw[YK9,hlen]⟩,q⟩
theorem Yo:Jp X (.builtin "len") (λxs H Q=>∃z,xs=[.str z]/\z.length<=sizeLine/\Q (.int z.length) H):=by
 intro pins s σ H xs us Q I r h;obtain⟨z,rfl,hz,q⟩:=h;obtain⟨u,rfl,t,rfl⟩:=XY r;have hn:=YAR;exact len_str (by omega) ⟨.int z.length,H,I.tok _,⟨_,Z⟩,q⟩
theorem YEv:Jp X (.type "list") (λxs H Q=>∃p ys,xs=[.ref p]/\(SqL X.K H p ys\/SqT X.K H p ys)/\∀l,H l=none->Q (.ref l) (upd H l (.lst ys))):=by
 intro pins s σ H xs us Q I r h;obtain⟨p,ys,rfl,hq,q⟩:=h;obtain⟨u,rfl,rx⟩:=XY r;cases rx;have fin:∀(its:List Value),Yf ys its->ys.length<=sizeLine->∀(h':Heap) (c':Nat),(∀b o',s.heap.get? b=some o'->h'.get? b=some o')->
   h'.get? s.heap.objs.size=some { cls:=.type "list",dict:=none,data:=.seq its.toArray c',slots:=#[] }->EP X pins σ Q (.ref s.heap.objs.size) { s with heap:=h' }:=λits r' hz h' c' kp e=>
  ⟨.ref s.heap.objs.size,_,I.laid (t':=s.toks) kp (YKv _) (show Yp X.prog X.w _ h' _ (.lst ys) from⟨hz,its,c',r',e⟩),Z,q _ (I.hok.fresh (YKv _))⟩
 rcases hq with hq |hq
 ·obtain⟨its,r',pl,hz⟩:=I.list hq;have hlen:=r'.length;obtain⟨o,ho,hc,n,hd⟩:=pl.isList;exact call_list_seq p (.inl rfl) ho hc hd (λh' c' kp e=>fin its r' hz h' c' kp e) (by simp only[YK9] <;> omega)
 ·obtain⟨its,r',pl,hz⟩:=I.tuple hq;have hlen:=r'.length;obtain⟨o,ho,hc,n,hd⟩:=pl;exact call_list_seq p (.inr rfl) ho hc hd (λh' c' kp e=>fin its r' hz h' c' kp e) (by simp only[YK9] <;> omega)
theorem YDe:Jp X (.type "tuple") (λxs H Q=>∃p ys,xs=[.ref p]/\((SqL X.K H p ys/\∀l,H l=none->Q (.ref l) (upd H l (.tup ys)))\/(SqT X.K H p ys/\Q (.ref p) H))):=by
 intro pins s σ H xs us Q I r h;obtain⟨p,ys,rfl,h⟩:=h;obtain⟨u,rfl,rx⟩:=XY r;cases rx;rcases h with ⟨hq,q⟩ |⟨hq,q⟩
 ·obtain⟨its,r',pl,hz⟩:=I.list hq;have hlen:=r'.length;refine call_tuple_list pl.isList (λh' kp=>?_) (by simp only[YK9] <;> omega);have I1:Inv X pins σ H { s with heap:=h' }:=I.kept (t':=s.toks) kp;have I2:Inv X pins σ (upd H h'.objs.size (.tup ys)) { s with heap:=h'.push { cls:=.type "tuple",data:=.seq its.toArray } }:=
   I1.laid (t':=s.toks) (λb o e=>YK3 _ e) (YKv _) (show Yp X.prog X.w _ _ _ (.tup ys) from⟨hz,its,r',IsTup.new _ _⟩)
  exact⟨.ref h'.objs.size,_,I2,Z,q _ (I1.hok.fresh (YKv _))⟩
 ·obtain⟨its,r',pl,hz⟩:=I.tuple hq;exact call_tuple_same pl ⟨.ref p,H,I,Z,q⟩
def tyV (K:W.Frag) (T:String) (x:V) (H:Hp):Prop:=match x with
 |.str _=>T="str"
 |.int _=>T="int"
 |.ref p=>(T="list"/\∃xs,SqL K H p xs)\/(T="tuple"/\∃o,K.lookup p=some o/\o.cls=.type "tuple"/\o.dict=none)\/
   (T="dict"/\((∃kvs,H p=some (.dK kvs))\/∃kvs,H p=some (.dT kvs)))\/(T="set"/\∃S n,H p=some (.set S n))
 |_=>False
theorem YJm {pins:List (Addr×Obj)}{σ:St}{H:Hp}{s:Shared}{T:String}{x:V}{v:Value} (I:Inv X pins σ H s) (r:Yk x v) (ty:tyV X.K T x H):
  s.TypeIs v T/\∀a,v=.ref a->∃ob,s.heap.get? a=some ob/\ob.dict=none:=by
 cases x with
 |str z=>
  obtain⟨t,rfl⟩:=r;cases (show T="str" from ty);exact⟨typeIs_str s z t,λ_ e=>nomatch e⟩
 |int i=>
  obtain⟨t,rfl⟩:=r;cases (show T="int" from ty);exact⟨typeIs_int s i t,λ_ e=>nomatch e⟩
 |ref p=>
  cases r;rcases ty with ⟨rfl,xs,hq⟩ |⟨rfl,o,hk,hc,hd⟩ |⟨rfl,hk⟩ |⟨rfl,S,n,hk⟩
  ·obtain⟨its,_,pl,_⟩:=I.list hq;refine⟨pl.isList.typeIs,λa e=>?_⟩;cases e;obtain⟨o,n,e,c,hd,_⟩:=pl;exact⟨o,e,hd⟩
  ·refine⟨⟨o,I.kIn p o hk,hc⟩,λa e=>?_⟩;cases e;exact⟨o,I.kIn _ o hk,hd⟩
  ·have z:∃o,s.heap.get? p=some o/\o.ExactDict:=by
    rcases hk with ⟨kvs,hk⟩ |⟨kvs,hk⟩
    ·obtain⟨_,_,_,_,o,_,_,e,ex,_⟩:=I.hok p _ hk;exact⟨o,e,ex⟩
    ·obtain⟨_,_,_,_,o,_,_,e,ex,_⟩:=I.hok p _ hk;exact⟨o,e,ex⟩
   obtain⟨o,e,ex⟩:=z;refine⟨⟨o,e,ex.1⟩,λa e2=>?_⟩;cases e2;exact⟨o,e,ex.2.1⟩
  ·obtain⟨o,_,_,_,e,ex,_⟩:=I.hok p _ hk;refine⟨⟨o,e,ex.1⟩,λa e2=>?_⟩;cases e2;exact⟨o,e,ex.2.1⟩
 |_=>exact False.elim ty
inductive tBM0_ (K:W.Frag) (T:String) (r:V->List V->Hp->VK->Prop) (Q:VK) (x:V) (H1:Hp):Prop where
 |mk (aX:tyV K T x H1) (aY:r x [] H1 Q):tBM0_ K T r Q x H1
def tBM0 (K:W.Frag) (T:String) (r:V->List V->Hp->VK->Prop) (to:TE):TE:=λσ H Q=>to σ H λx H1=>tBM0_ K T r Q x H1
inductive tBM_ (K:W.Frag) (T:String) (r:V->List V->Hp->VK->Prop) (t:TA) (σ:St) (Q:VK) (x:V) (H1:Hp):Prop where
 |mk (aX:tyV K T x H1) (aY:t σ H1 λxs H2=>r x xs H2 Q):tBM_ K T r t σ Q x H1
def tBM (K:W.Frag) (T:String) (r:V->List V->Hp->VK->Prop) (to:TE) (t:TA):TE:=λσ H Q=>to σ H λx H1=>tBM_ K T r t σ Q x H1
variable {o e:Expr}{es:List Expr}{to:TE}{t:TA}{name:Str}{cg bw:Pos}{T id:String}{r:V->List V->Hp->VK->Prop}
theorem pe_bm0 (pa:PlainAttrs T) (slot:Slot T name id) (uf:typeOf (.builtin id)=pure (.type "method_descriptor")) (hm:MtR X id r) (ho:PE X o to)
  (jH:attributeBase o name X.env (eval o X.env)=eval o X.env:=by rfl) (jJ:(cg.endLine == bw.line)=true:=by rfl):PE X (.Call (.Attribute o name cg) [] [] bw) (tBM0 X.K T r to):=by
 intro pins s σ H Q I h;refine wpAny_Call_method0_late jH jJ (thn (ho pins s σ H _ I h) λv s1 ⟨x,H1,I1,r1,ty,q1⟩=>?_);obtain⟨h1,h2⟩:=YJm I1 r1 ty;exact⟨T,id,pa,slot,uf,h1,h2,Calls.callWith_builtin rfl (PySem.evalArgs_none (hm pins s1 σ H1 x [] v [] Q I1 r1 .nil q1))⟩
theorem pe_bm (pa:PlainAttrs T) (slot:Slot T name id) (uf:typeOf (.builtin id)=pure (.type "method_descriptor")) (hm:MtR X id r) (ho:PE X o to) (ha:PA X (e :: es) t)
  (jH:attributeBase o name X.env (eval o X.env)=eval o X.env:=by rfl)
  (u9:((backTo bw (starEach (e :: es) X.env)).all (λx=>!x.1) && (backToKw bw (keywordEach [] X.env)).all (λx=>x.1.isSome)
   && decide ((e :: es).length + ([]:List Keyword).length + (if ([]:List Keyword).isEmpty then 0 else 1) < 30))=true:=by rfl)
  (jJ:(cg.endLine == bw.line)=true:=by rfl) (hs:starEach (e :: es) X.env=(false,eval e X.env) :: starEach es X.env:=by rfl) (jK:(backTo bw (starEach es X.env)).any (·.1)=false:=by rfl):
  PE X (.Call (.Attribute o name cg) (e :: es) [] bw) (tBM X.K T r to t):=by
 intro pins s σ H Q I h;refine wpAny_Call_method_late jH u9 jJ rfl (thn (ho pins s σ H _ I h) λv s1 ⟨x,H1,I1,r1,ty,q1⟩=>?_);obtain⟨h1,h2⟩:=YJm I1 r1 ty;refine⟨T,id,pa,slot,uf,h1,h2,?_⟩;have hA:=ha bw pins s1 σ H1 _ I1 q1;rw[hs]at hA ⊢;refine Calls.callWith_builtin (by show(false || (backTo bw (starEach es X.env)).any (·.1))=false;rw[jK] <;> rfl) (Calls.evalArgs_plain ?_);exact thn hA λus s2 ⟨vs,H2,I2,r2,q2⟩=>hm pins s2 σ H2 x vs v us Q I2 r1 r2 q2
end
end L2
namespace L2
open PySem PySem.Spec PyProof.Rows
def MtM (X:Cx) (id:String) (r:V->List V->Hp->VK->Prop):Prop:=
 ∀(pins:List (Addr×Obj)) (s:Shared) (σ:St) (H:Hp) (x:V) (xs:List V) (v:Value) (us:List Value) (Q:VK),Inv X pins σ H s->Yk x v->Yf xs us->r x xs H Q->
  wpAny (model X.prog X.w) X.A (call (.builtin id) (v :: us)) (EP X pins σ Q) X.xe s
theorem Yf.one:∀{x:V}{us:List Value},Yf [x] us->∃u,us=[u]/\Yk x u
 |_,_,.cons r .nil=>⟨_,Z,r⟩
theorem Yf.zero:∀{us:List Value},Yf [] us->us=[]
 |_,.nil=>rfl
theorem Yf.dropLast {xs:List V}{us:List Value} (h:Yf xs us):Yf xs.dropLast us.dropLast:=by
 induction h with
 |nil=>exact .nil
 |cons r t ih=>
  cases t with
  |nil=>exact .nil
  |cons q t'=>exact .cons r ih
theorem Yf.reverse {xs:List V}{us:List Value} (h:Yf xs us):Yf xs.reverse us.reverse:=by
 induction h with
 |nil=>exact .nil
 |cons r t ih=>rw[List.reverse_cons,List.reverse_cons];exact Yf.append ih (.cons r .nil)
theorem Yf.rep {xs:List V}{us:List Value} (h:Yf xs us):∀k:Nat,Yf (List.replicate k xs).flatten (List.replicate k us).flatten
 |0=>.nil
 |k + 1=>by
  rw[YLF,YLF,YMb,YMb];exact Yf.append h (Yf.rep h k)
theorem YG8 {α:Type} (l:List α):l.eraseIdx (l.length - 1)=l.dropLast:=by
 induction l with
 |nil=>rfl
 |cons a r ih=>
  cases r with
  |nil=>rfl
  |cons b r=>
   have e:(a :: b :: r).length - 1=((b :: r).length - 1) + 1:=by
    have h1:(a :: b :: r).length=r.length + 2:=rfl;have h2:(b :: r).length=r.length + 1:=rfl;omega
   rw[e,List.eraseIdx_cons_succ,ih]
   all_goals rfl
theorem YDz (its:List Value):∀(k:Nat) (acc:List Value),
  List.foldl (λx1 x2=>x1 ++ x2) acc.toArray (List.replicate k its.toArray)=(acc ++ (List.replicate k its).flatten).toArray
 |0,acc=>by simp
 |k + 1,acc=>by
  have e:acc.toArray ++ its.toArray=(acc ++ its).toArray:=by simp
  have e2:(acc ++ its) ++ (List.replicate k its).flatten=acc ++ (List.replicate (k + 1) its).flatten:=by
   rw[YLF,YMb,YLe]
  rw[<-e2,<-YDz its k (acc ++ its),<-e,YLF,List.foldl_cons]
section
variable {X:Cx}{pins:List (Addr×Obj)}{σ:St}{H:Hp}{s:Shared}{l b:Addr}{xs ys zs:List V}
theorem Inv.lset {its its':List Value}{n:Nat}{f:Array Value->Array Value}{t':Nat} (I:Inv X pins σ H s) (hH:H l=some (.lst xs))
  (e:s.heap.get? l=some { cls:=.type "list",data:=.seq its.toArray n }) (hf:f its.toArray=its'.toArray) (hv:Yf ys its') (hz:ys.length<=sizeLine):
  Inv X pins σ (upd H l (.lst ys)) { s with heap:=s.heap.update l (Obj.mapSeq f),toks:=t' }:=by
 have q:=PySem.IsL.update e f;rw[hf]at q;refine I.write (x:=l) (e:=l) (by rw[hH];exact trivial) (.inl rfl) (λb' u hb hu=>(YLc s.heap (Obj.mapSeq f) (Ne.symm hb)).trans hu) ⟨_,q⟩ ?_;exact⟨hz,its',_,hv,q⟩
theorem Inv.lnew {its:List Value}{t':Nat} (I:Inv X pins σ H s) (hv:Yf ys its) (hz:ys.length<=sizeLine):
  Inv X pins σ (upd H s.heap.objs.size (.lst ys)) { s with heap:=s.heap.push { cls:=.type "list",data:=.seq its.toArray },toks:=t' }:=
 I.laid (λ_ _ q=>YK3 _ q) (YKv _) ⟨hz,its,0,hv,YLI _ rfl⟩
theorem Inv.fresh (I:Inv X pins σ H s):H s.heap.objs.size=none:=I.hok.fresh (YKv _)
theorem Inv.lstM (I:Inv X pins σ H s) (hH:H l=some (.lst xs)):xs.length<=sizeLine/\∃(its:List Value) (n:Nat),Yf xs its/\xs.length=its.length/\s.heap.get? l=some { cls:=.type "list",data:=.seq its.toArray n }:=by
 obtain⟨z,its,n,r,e⟩:=I.hok l _ hH;exact⟨z,its,n,r,r.length,e⟩
theorem YFY {n:Nat} (h:n<=sizeLine):Builtin.List.listTooLong n=false:=by
 unfold Builtin.List.listTooLong;exact YK0 (by omega)
end
section
variable {X:Cx}
inductive YFZ (x:V) (vs:List V) (H:Hp) (Q:VK):Prop where
 |mk (l:_) (xs:_) (y:_) (aX:x=.ref l) (aY:vs=[y]) (bU:H l=some (.lst xs)) (cN:xs.length < sizeLine) (dh:Q .non (upd H l (.lst (xs ++ [y])))):YFZ x vs H Q
def YEw:V->List V->Hp->VK->Prop:=λx vs H Q=>YFZ x vs H Q
theorem ZP:MtM X "list.append" YEw:=by
 intro pins s σ H x vs v us Q I rx rv h;obtain⟨l,xs,y,rfl,rfl,hH,hz,q⟩:=h;cases rx;obtain⟨u,rfl,ru⟩:=rv.one;obtain⟨z,its,n,r,hl,e⟩:=I.lstM hH;refine call_meets F.slot_list_append ⟨_,e,Z⟩ F.entry_list_append (F.args_list_append_2 _ _) (PySem.list_append l its.toArray n u (by rw[YK9];omega)) ⟨e,?_⟩;refine⟨.non,_,I.lset (its':=its ++ [u]) hH e (by simp) (r.append (.cons ru .nil)) ?_,Z,q⟩;rw[YK5,List.length_singleton];omega
inductive YFa (x:V) (vs:List V) (H:Hp) (Q:VK):Prop where
 |mk (l:_) (b:_) (xs:_) (zs:_) (aX:x=.ref l) (aY:vs=[.ref b]) (bU:H l=some (.lst xs)) (cN:H b=some (.lst zs)) (dh:xs.length + zs.length<=sizeLine) (i_:Q .non (upd H l (.lst (xs ++ zs)))):YFa x vs H Q
def YEx:V->List V->Hp->VK->Prop:=λx vs H Q=>YFa x vs H Q
theorem YD0:MtM X "list.extend" YEx:=by
 intro pins s σ H x vs v us Q I rx rv h;obtain⟨l,b,xs,zs,rfl,rfl,hH,hB,hz,q⟩:=h;cases rx;obtain⟨u,rfl,ru⟩:=rv.one;cases ru;obtain⟨z,its,n,r,hl,e⟩:=I.lstM hH;obtain⟨z2,c7,n2,r2,hl2,e2⟩:=I.lstM hB;have hsz:its.toArray.size + c7.toArray.size<=sizeLine:=by rw[YK9,YK9];omega
 have qT:¬(!its.toArray.isEmpty && Builtin.List.listTooLong (its.toArray.size + c7.toArray.size))=true:=by
  rw[YFY hsz,Bool.and_false];exact YLD
 refine call_meets F.slot_list_extend ⟨_,e,Z⟩ F.entry_list_extend (F.args_list_extend_2 _ _)
  (AutoSeq1.list_extend_list_list_0 l its.toArray n b c7.toArray n2 qT (by rw[YK9];omega) (by omega)) ⟨e,e2,?_⟩
 refine⟨.non,_,I.lset (its':=its ++ c7) hH e (by simp) (r.append r2) ?_,Z,q⟩;rw[YK5];omega
inductive rPop_ (x:V) (vs:List V) (H:Hp) (Q:VK):Prop where
 |mk (l:_) (xs:_) (y:_) (aX:x=.ref l) (aY:vs=[]) (bU:H l=some (.lst xs)) (cN:xs[xs.length - 1]?=some y) (dh:Q y (upd H l (.lst xs.dropLast))):rPop_ x vs H Q
def rPop:V->List V->Hp->VK->Prop:=λx vs H Q=>rPop_ x vs H Q
theorem mt_pop:MtM X "list.pop" rPop:=by
 intro pins s σ H x vs v us Q I rx rv h;obtain⟨l,xs,y,rfl,rfl,hH,hy,q⟩:=h;cases rx;have hus:=rv.zero;subst hus;obtain⟨z,its,n,r,hl,e⟩:=I.lstM hH;obtain⟨u,hu,ru⟩:=r.get hy;have hy':its.toArray[its.toArray.size - 1]?=some u:=by
  show its.toArray[its.length - 1]?=some u;rw[<-YLt,<-hl];exact hu
 refine call_meets F.slot_list_pop ⟨_,e,Z⟩ F.entry_list_pop (F.args_list_pop_1 _) (MeetsSeq.list_pop_last l its.toArray n u hy' (by rw[YK9];omega)) ⟨e,?_⟩;refine⟨y,_,I.lset (its':=its.dropLast) hH e ?_ r.dropLast ?_,ru,q⟩
 ·show its.toArray.eraseIdxIfInBounds (its.toArray.size - 1)=its.dropLast.toArray;rw[YK9,List.eraseIdxIfInBounds_toArray,YG8]
 ·rw[List.length_dropLast];omega
inductive YD1 (x:V) (vs:List V) (H:Hp) (Q:VK):Prop where
 |mk (l:_) (xs:_) (aX:x=.ref l) (aY:vs=[]) (bU:H l=some (.lst xs)) (cN:Q .non (upd H l (.lst xs.reverse))):YD1 x vs H Q
def YJn:V->List V->Hp->VK->Prop:=λx vs H Q=>YD1 x vs H Q
theorem YG9:MtM X "list.reverse" YJn:=by
 intro pins s σ H x vs v us Q I rx rv h;obtain⟨l,xs,rfl,rfl,hH,q⟩:=h;cases rx;have hus:=rv.zero;subst hus;obtain⟨z,its,n,r,hl,e⟩:=I.lstM hH;refine call_meets F.slot_list_reverse ⟨_,e,Z⟩ F.entry_list_reverse (F.args_list_reverse_1 _) (AutoSeq1.list_reverse_list_0 l its.toArray n (by rw[YK9];omega)) ⟨e,?_⟩;refine⟨.non,_,I.lset (its':=its.reverse) hH e (by simp) r.reverse ?_,Z,q⟩;rw[YMB];omega
inductive rCat_ (x:V) (y:V) (H:Hp) (Q:VK):Prop where
 |mk (l:_) (b:_) (xs:_) (zs:_) (aX:x=.ref l) (aY:y=.ref b) (bU:H l=some (.lst xs)) (cN:H b=some (.lst zs)) (dh:xs.length + zs.length<=sizeLine) (i_:∀p,H p=none->Q (.ref p) (upd H p (.lst (xs ++ zs)))):rCat_ x y H Q
def rCat:R2:=λx y H Q=>rCat_ x y H Q
theorem YEy:OpR X (binaryOp .Add) rCat:=by
 intro pins s σ H x y v u Q I rx ry h;obtain⟨l,b,xs,zs,rfl,rfl,hH,hB,hz,q⟩:=h;cases rx;cases ry;obtain⟨z,its,n,r,hl,e⟩:=I.lstM hH;obtain⟨z2,c7,n2,r2,hl2,e2⟩:=I.lstM hB;refine PySem.P.add_list e e2 ?_ (by rw[YK9,YK9];omega);have ea:its.toArray ++ c7.toArray=(its ++ c7).toArray:=by simp
 rw[ea];exact⟨.ref _,_,I.lnew (t':=s.toks) (r.append r2) (by rw[YK5];omega),Z,q _ I.fresh⟩
def rRep:R2:=λx y H Q=>∃l k xs,x=.ref l/\y=.int k/\H l=some (.lst xs)/\-(2 ^ 63)<=k/\k < 2 ^ 63/\xs.length * k.toNat<=sizeLine/\
 ∀p,H p=none->Q (.ref p) (upd H p (.lst (List.replicate k.toNat xs).flatten))
theorem len_rep {α:Type} (xs:List α) (k:Nat):(List.replicate k xs).flatten.length=k * xs.length:=by
 induction k with
 |zero=>simp
 |succ k ih=>rw[YLF,YMb,YK5,ih,Nat.succ_mul,Nat.add_comm]
theorem YBr:OpR X (binaryOp .Mult) rRep:=by
 intro pins s σ H x y v u Q I rx ry h;obtain⟨l,k,xs,rfl,rfl,hH,h1,h2,hz,q⟩:=h;cases rx;obtain⟨t,rfl⟩:=ry;obtain⟨z,its,n,r,hl,e⟩:=I.lstM hH;have hlen:its.toArray.size * k.toNat<=sizeLine:=by rw[YK9,<-hl];exact hz
 have zz:¬its.toArray.size * k.toNat > (2 ^ 63 - 1) / 8:=by
  have:(sizeLine:Nat)<=(2 ^ 63 - 1) / 8:=by decide
  omega
 have hfit:¬(!Builtin.List.listFitsIndex k)=true:=by
  rw[fitsIndex_both h1 h2];exact YLD
 have qT:¬Builtin.List.listTooLong (its.toArray.size * k.toNat)=true:=by
  rw[YFY hlen];exact YLD
 have hnew:List.foldl (λx1 x2=>x1 ++ x2) #[] (List.replicate (if its.toArray.isEmpty=true then 0 else k.toNat) its.toArray)=(List.replicate k.toNat its).flatten.toArray:=by
  have f0:∀m:Nat,List.foldl (λx1 x2=>x1 ++ x2) #[] (List.replicate m its.toArray)=(List.replicate m its).flatten.toArray:=λm=>by
   have:=YDz its m [];rw[YMo]at this;exact this
  rw[f0];cases its with
  |nil=>simp
  |cons a r'=>rw[if_neg (by simp)]
 refine wpAny_binaryOp_repeat_ref (T:="list") (U:="int") (by decide) ⟨_,e,Z⟩ (λs'=>typeIs_int s' k t) noFill_list_mul F.fills_int_mul F.slot_int_rmul repeat_list F.slot_int_index.lookup
  (call_meets F.slot_int_rmul (typeIs_int s k t) F.entry_int_rmul (F.args_int_rmul_2 _ _) (int___rmul___int_list k t l its.toArray n)
   ⟨e,Z,⟨_,e,Z⟩,call_meets F.slot_list_mul ⟨_,e,Z⟩ F.entry_list_mul (F.args_list_mul_2 _ _) (AutoListH.list___mul___list_int_3 l its.toArray n k t hfit zz qT) ⟨e,?_⟩⟩)
 rw[hnew];exact⟨.ref _,_,I.lnew (t':=s.toks) (r.rep k.toNat) (by rw[len_rep,Nat.mul_comm];exact hz),Z,q _ I.fresh⟩
end
section
variable {prog:Program}{w:World}{A:Around}{E:Value->Shared->Prop}{s:Shared}
set_option maxRecDepth 100000 in
end
section
variable {X:Cx}
end
end L2
namespace L2
open PySem PySem.Spec PyProof.Rows
section
variable {κ:Type} [DecidableEq κ]
def Zf (kvs:List (κ×V)) (k:κ):Option V:=(kvs.find? λkv=>decide (kv.1=k)).map (·.2)
def ZR (kvs:List (κ×V)) (k:κ) (v:V):List (κ×V):=
 if (kvs.any λkv=>decide (kv.1=k))=true then kvs.map (λkv=>if kv.1=k then (kv.1,v) else kv) else kvs ++ [(k,v)]
theorem Zd {p:κ×V}{r:List (κ×V)}{k:κ} (e:p.1=k):Zf (p :: r) k=some p.2:=by simp[Zf,YMd,e]
theorem Zo {p:κ×V}{r:List (κ×V)}{k:κ} (e:¬p.1=k):Zf (p :: r) k=Zf r k:=by simp[Zf,YMd,e]
theorem XE (k:κ):∀kvs:List (κ×V),(kvs.any λkv=>decide (kv.1=k))=(Zf kvs k).isSome
 |[]=>rfl
 |p :: r=>by
  rw[List.any_cons]
  by_cases e:p.1=k
  ·simp only[Zd e,YK2 e,Bool.true_or,Option.isSome_some]
  ·rw[Zo e,YK0 e,YMT];exact XE k r
theorem YFb (k j:κ) (y:V):∀kvs:List (κ×V),Zf (kvs.map λkv=>if kv.1=k then (kv.1,y) else kv) j=(Zf kvs j).map λx=>if j=k then y else x
 |[]=>rfl
 |p :: r=>by
  have ih:=YFb k j y r;rw[YLR]
  by_cases h:p.1=k
  ·rw[if_pos h]
   by_cases e:p.1=j
   ·rw[Zd (p:=(p.1,y)) e,Zd e,YMm,if_pos (e.symm.trans h)]
   ·rw[Zo (p:=(p.1,y)) e,Zo e,ih]
  ·rw[if_neg h]
   by_cases e:p.1=j
   ·rw[Zd (p:=p) e,Zd e,YMm,if_neg (λz=>h (e.trans z))]
   ·rw[Zo (p:=p) e,Zo e,ih]
theorem YD2 (k j:κ) (y:V):∀kvs:List (κ×V),Zf kvs k=none->Zf (kvs ++ [(k,y)]) j=if j=k then some y else Zf kvs j
 |[],_=>by
  by_cases e:k=j
  ·rw[if_pos e.symm];exact Zd (p:=(k,y)) e
  ·rw[if_neg (λz=>e z.symm)];exact Zo (p:=(k,y)) e
 |p :: r,hn=>by
  rw[YMk];have hk:¬p.1=k:=λz=>by rw[Zd z]at hn;cases hn
  rw[Zo hk]at hn;have ih:=YD2 k j y r hn
  by_cases e:p.1=j
  ·rw[Zd e,Zd e,if_neg (λz=>hk (e.trans z))]
  ·rw[Zo e,Zo e,ih]
theorem YBP (kvs:List (κ×V)) (k j:κ) (y:V):Zf (ZR kvs k y) j=if j=k then some y else Zf kvs j:=by
 unfold ZR
 by_cases a:(kvs.any λkv=>decide (kv.1=k))=true
 ·rw[if_pos a,YFb];rw[XE]at a
  by_cases e:j=k
  ·obtain⟨x,hx⟩:=YLZ.mp a;rw[if_pos e,e,hx,YMm,if_pos rfl]
  ·rw[if_neg e];cases Zf kvs j with
   |none=>rfl
   |some x=>rw[YMm,if_neg e]
 ·rw[if_neg a];refine YD2 k j y kvs ?_;rw[XE]at a;cases q:Zf kvs k with
  |none=>rfl
  |some x=>rw[q]at a;exact(a rfl).elim
theorem YCH (kvs:List (κ×V)) (k:κ) (v:V):(ZR kvs k v).length<=kvs.length + 1:=by
 unfold ZR;split
 ·rw[YKu];omega
 ·rw[YK5,YK6,YMG];omega
theorem YFc {kvs:List (κ×V)}{k:κ} (v:V) (h:Zf kvs k=none):ZR kvs k v=kvs ++ [(k,v)]:=by
 unfold ZR;rw[XE,h];exact if_neg (by decide)
theorem YAM.isSome_eq {o:Option V}{u:Option Value} (r:YAM o u):o.isSome=u.isSome:=by
 cases o with
 |none=>cases u with
  |none=>rfl
  |some _=>exact(show False from r).elim
 |some _=>cases u with
  |none=>exact(show False from r).elim
  |some _=>rfl
theorem YAM.getD {o:Option V}{u:Option Value}{d:V}{d':Value} (r:YAM o u) (rd:Yk d d'):Yk (o.getD d) (u.getD d'):=by
 cases o with
 |none=>cases u with
  |none=>exact rd
  |some _=>exact(show False from r).elim
 |some _=>cases u with
  |none=>exact(show False from r).elim
  |some _=>exact r
theorem KV.val {kvs:List (κ×V)}{vs:List (κ×Value)} (r:KV kvs vs) (k:κ):YAM (Zf kvs k) (valueAt vs k):=by
 unfold KV at r
 induction r with
 |nil=>exact True.intro
 |@cons p q ps qs h t ih=>
  obtain⟨h1,h2⟩:=h
  by_cases e:p.1=k
  ·have e':q.1=k:=h1.symm.trans e;have b:valueAt (q :: qs) k=some q.2:=by simp[valueAt,YMd,e']
   rw[Zd e,b];exact h2
  ·have e':¬q.1=k:=λz=>e (h1.trans z)
   have b:valueAt (q :: qs) k=valueAt qs k:=by simp[valueAt,YMd,e']
   rw[Zo e,b];exact ih
theorem KV.any {kvs:List (κ×V)}{vs:List (κ×Value)} (r:KV kvs vs) (k:κ):(kvs.any λkv=>decide (kv.1=k))=vs.any λkv=>decide (kv.1=k):=by
 unfold KV at r
 induction r with
 |nil=>rfl
 |cons h t ih=>rw[List.any_cons,List.any_cons,ih,h.1]
theorem KV.repl {kvs:List (κ×V)}{vs:List (κ×Value)} (r:KV kvs vs) (k:κ) {y:V}{u:Value} (ry:Yk y u):
  KV (kvs.map λkv=>if kv.1=k then (kv.1,y) else kv) (vs.map λkv=>if kv.1=k then (kv.1,u) else kv):=by
 unfold KV at r ⊢
 induction r with
 |nil=>exact .nil
 |@cons p q ps qs h t ih=>
  rw[YLR,YLR];refine .cons ?_ ih;obtain⟨h1,h2⟩:=h
  by_cases e:p.1=k
  ·rw[if_pos e,if_pos (h1.symm.trans e)];exact⟨h1,ry⟩
  ·rw[if_neg e,if_neg (λz=>e (h1.trans z))];exact⟨h1,h2⟩
theorem KV.put {kvs:List (κ×V)}{vs:List (κ×Value)} (r:KV kvs vs) (k:κ) {y:V}{u:Value} (ry:Yk y u):KV (ZR kvs k y) (stored vs k u):=by
 unfold ZR stored;rw[r.any k]
 by_cases e:(vs.any λkv=>decide (kv.1=k))=true
 ·rw[if_pos e,if_pos e];exact r.repl k ry
 ·rw[if_neg e,if_neg e];exact Paired.snoc r ⟨Z,ry⟩
theorem KV.length {kvs:List (κ×V)}{vs:List (κ×Value)} (r:KV kvs vs):kvs.length=vs.length:=Paired.length r
end
theorem YFd {P:Program}{w:World}{k:Key}{u:Value} (r:Yk (kV k) u):(ZB P w).is k u=true:=by
 cases k with
 |inl i=>obtain⟨t,e⟩:=(show ∃t,u=Value.int i t from r);subst e;exact YFT P w i t
 |inr x=>obtain⟨t,e⟩:=(show ∃t,u=Value.str x t from r);subst e;exact YFU P w x t
theorem YD3 {P:Program}{w:World}:∀{ks:List Key}{us:List Value},Yf (ks.map kV) us->ItemsAre (ZB P w) ks us
 |[],_,r=>by rw[List.map_nil]at r;cases r;exact .nil
 |k :: ks,_,r=>by
  rw[YLR]at r;cases r with
  |cons h t=>exact .cons (YFd h) (YD3 t)
abbrev KT (H:Hp):List (List Key×V)->List (List Key×Addr×Value)->Prop:=Paired λp q=>p.1=q.1/\H q.2.1=some (.tup (p.1.map kV))/\Yk p.2 q.2.2
theorem KT.val {H:Hp}{kvs:List (List Key×V)}{xs:List (List Key×Addr×Value)} (r:KT H kvs xs) (k:List Key):YAM (Zf kvs k) ((atKey xs k).map (·.2)):=by
 induction r with
 |nil=>exact True.intro
 |@cons p q ps qs h t ih=>
  obtain⟨h1,_,h2⟩:=h
  by_cases e:p.1=k
  ·have e':q.1=k:=h1.symm.trans e;have b:atKey (q :: qs) k=some q.2:=by simp[atKey,YMd,e']
   rw[Zd e,b];exact h2
  ·have e':¬q.1=k:=λz=>e (h1.trans z)
   have b:atKey (q :: qs) k=atKey qs k:=by simp[atKey,YMd,e']
   rw[Zo e,b];exact ih
theorem KT.repl {H:Hp}{kvs:List (List Key×V)}{xs:List (List Key×Addr×Value)} (r:KT H kvs xs) (k:List Key) {y:V}{u:Value} (ry:Yk y u):
  KT H (kvs.map λkv=>if kv.1=k then (kv.1,y) else kv) (xs.map (putAt k u)):=by
 induction r with
 |nil=>exact .nil
 |@cons p q ps qs h t ih=>
  rw[YLR,YLR];refine .cons ?_ ih;obtain⟨h1,h2,h3⟩:=h;unfold putAt
  by_cases e:p.1=k
  ·rw[if_pos e,if_pos (h1.symm.trans e)];exact⟨h1,h2,ry⟩
  ·rw[if_neg e,if_neg (λz=>e (h1.trans z))];exact⟨h1,h2,h3⟩
theorem KT.put {H:Hp}{kvs:List (List Key×V)}{xs:List (List Key×Addr×Value)} (r:KT H kvs xs) (k:List Key) {b:Addr}{y:V}{u:Value} (hb:H b=some (.tup (k.map kV))) (ry:Yk y u):
  KT H (ZR kvs k y) (storedH xs k b u):=by
 have e:(kvs.any λkv=>decide (kv.1=k))=(atKey xs k).isSome:=by
  rw[XE,(r.val k).isSome_eq,Option.isSome_map]
 unfold ZR storedH;rw[e]
 by_cases q:(atKey xs k).isSome=true
 ·rw[if_pos q,if_pos q];exact r.repl k ry
 ·rw[if_neg q,if_neg q];exact Paired.snoc r ⟨Z,hb,ry⟩
theorem KT.keeps {H H':Hp}{kvs:List (List Key×V)}{xs:List (List Key×Addr×Value)} (r:KT H kvs xs) (ht:∀b ys,H b=some (.tup ys)->H' b=some (.tup ys)):KT H' kvs xs:=
 Paired.mapP r λ_ _ z=>⟨z.1,ht _ _ z.2.1,z.2.2⟩
section
variable {P:Program}{w:World}{H:Hp}{h:Heap}{a:Addr}
theorem rd_of {u:HO} (ok:HOk P w H h) (e:Rd H a u):Yp P w H h a u:=e.ok ok
theorem YD4 {kvs:List (Key×V)} (ok:HOk P w H h) (e:Rd H a (.dK kvs)):kvs.length<=sizeLine/\(a == sysModules)=false/\∃vs,KV kvs vs/\h.DictOf (ZB P w) a vs:=
 show Yp P w H h a (.dK kvs) from rd_of ok e
theorem dk_of {kvs:List (Key×V)} (ok:HOk P w H h) (e:H a=some (.dK kvs)):kvs.length<=sizeLine/\(a == sysModules)=false/\∃vs,KV kvs vs/\h.DictOf (ZB P w) a vs:=YD4 ok (.inl e)
theorem YCt {ks:List Key} (ok:HOk P w H h) (e:H a=some (.tup (ks.map kV))):(tupleKind (ZB P w)).is h ks a:=by
 obtain⟨_,its,r,o,h1,h2,n,h3⟩:=(show Yp P w H h a (.tup (ks.map kV)) from ok a _ e);exact⟨o,its.toArray,n,h1,h2,h3,by simpa using YD3 r⟩
theorem YD5 {kvs:List (List Key×V)} (ok:HOk P w H h) (e:Rd H a (.dT kvs)):kvs.length<=sizeLine/\(a == sysModules)=false/\
  ∃xs,KT H kvs xs/\h.DictOfH (tupleKind (ZB P w)) a xs:=by
 obtain⟨z,y,xs,r,o,es,ep,h1,h2,h3,h4,h5⟩:=(show Yp P w H h a (.dT kvs) from rd_of ok e);refine⟨z,y,xs,r,o,es,ep,h1,h2,h3,h4,λx hx=>?_,h5⟩;have all:∀{l:List (List Key×V)}{m:List (List Key×Addr×Value)},KT H l m->∀x∈m,(tupleKind (ZB P w)).is h x.1 x.2.1:=by
  intro l m q
  induction q with
  |nil=>intro x hx;exact nomatch hx
  |@cons p q ps qs hq t ih=>
   intro x hx;rcases YLB.mp hx with e |hx
   ·subst e;exact YCt ok (by rw[<-hq.1];exact hq.2.1)
   ·exact ih x hx
 exact all r x hx
theorem dt_of {kvs:List (List Key×V)} (ok:HOk P w H h) (e:H a=some (.dT kvs)):kvs.length<=sizeLine/\(a == sysModules)=false/\
  ∃xs,KT H kvs xs/\h.DictOfH (tupleKind (ZB P w)) a xs:=YD5 ok (.inl e)
end
def XT (H:Hp) (a:Addr) (y:V) (r:Option V):Prop:=
 (∃kvs k,Rd H a (.dK kvs)/\y=kV k/\r=Zf kvs k)\/∃kvs k b,Rd H a (.dT kvs)/\y=.ref b/\H b=some (.tup (k.map kV))/\r=Zf kvs k
def YBs (H:Hp) (a:Addr) (y v:V) (H':Hp):Prop:=
 (∃kvs k,H a=some (.dK kvs)/\y=kV k/\kvs.length < sizeLine/\H'=upd H a (.dK (ZR kvs k v)))\/
 ∃kvs k b,H a=some (.dT kvs)/\y=.ref b/\H b=some (.tup (k.map kV))/\kvs.length < sizeLine/\H'=upd H a (.dT (ZR kvs k v))
theorem XT.k {H:Hp}{a:Addr}{kvs:List (Key×V)}{k:Key} (e:H a=some (.dK kvs)):XT H a (kV k) (Zf kvs k):=.inl ⟨kvs,k,.inl e,Z,Z⟩
theorem YBs.k {H:Hp}{a:Addr}{kvs:List (Key×V)}{k:Key}{v:V} (e:H a=some (.dK kvs)) (hl:kvs.length < sizeLine):YBs H a (kV k) v (upd H a (.dK (ZR kvs k v))):=.inl ⟨kvs,k,e,Z,hl,Z⟩
theorem YBs.t {H:Hp}{a b:Addr}{kvs:List (List Key×V)}{k:List Key}{v:V} (e:H a=some (.dT kvs)) (eb:H b=some (.tup (k.map kV))) (hl:kvs.length < sizeLine):
  YBs H a (.ref b) v (upd H a (.dT (ZR kvs k v))):=.inr ⟨kvs,k,b,e,Z,eb,hl,Z⟩
section
variable {X:Cx}{pins:List (Addr×Obj)}{σ:St}{H:Hp}{s:Shared}{a:Addr}{y v:V}{u r:Value}{o:Option V}{A:Around}{E:Value->Shared->Prop}
theorem Inv.big (I:Inv X pins σ H s):sysModules < s.heap.objs.size:=by
 have h:mainGlobals < s.heap.objs.size:=(I.mod.glob.keeps I.bk).lt;exact Nat.lt_trans (by decide) h
theorem YIt {Q:Value->Shared->Prop} (hu:A.units + 1 < cLine) (I:Inv X pins σ H s) (g:XT H a y (some v)) (ry:Yk y u) (h:∀w' s',Inv X pins σ H s'->Yk v w'->Q w' s'):
  wpAny (model X.prog X.w) A (getItem (.ref a) u) Q E s:=by
 rcases g with ⟨kvs,k,e,ey,l⟩ |⟨kvs,k,b,e,ey,eb,l⟩
 ·subst ey;obtain⟨z,hd,vs,rel,dd⟩:=YD4 I.hok e;obtain⟨w',hw,qF⟩:=YAM.some_of (v:=v) (o:=valueAt vs k) (by rw[l];exact rel.val k);exact wpAny_getItem_of (YFd ry) dd.mapOf hw (h w' _ (I.tok _) qF)
 ·subst ey;cases (show u=Value.ref b from ry);obtain⟨z,hd,xs,rel,dd⟩:=YD5 I.hok e;obtain⟨w',hw,qF⟩:=YAM.some_of (v:=v) (o:=(atKey xs k).map (·.2)) (by rw[l];exact rel.val k);obtain⟨p,hp,qG⟩:=YLX.mp hw;refine wpAny_getItem_heap (tupleKind_room_in1 hu) (YCt I.hok eb) dd hp ?_;rw[qG];exact h w' _ (I.tok _) qF
theorem d_notIn {Q:Value->Shared->Prop} (hu:A.units + 1 < cLine) (I:Inv X pins σ H s) (g:XT H a y o) (ry:Yk y u) (h:∀s',Inv X pins σ H s'->Q (.bool (!o.isSome)) s'):
  wpAny (model X.prog X.w) A (compareOp .NotIn u (.ref a)) Q E s:=by
 rcases g with ⟨kvs,k,e,ey,l⟩ |⟨kvs,k,b,e,ey,eb,l⟩
 ·subst ey;obtain⟨z,hd,vs,rel,dd⟩:=YD4 I.hok e;refine wpAny_notIn_of (YFd ry) hd dd.mapOf ?_;rw[<-(rel.val k).isSome_eq,<-l];exact h _ (I.tok _)
 ·subst ey;cases (show u=Value.ref b from ry);obtain⟨z,hd,xs,rel,dd⟩:=YD5 I.hok e;refine wpAny_notIn_heap (tupleKind_room_in1 hu) (YCt I.hok eb) hd dd ?_;have q:=(rel.val k).isSome_eq;rw[Option.isSome_map]at q;rw[<-q,<-l];exact h _ (I.tok _)
theorem YHx {h':Heap}{t':Nat}{ob:HO} (I:Inv X pins σ H s) (mu:Mut (H a)) (hs:Heap.SameBut a s.heap h') (he:∃q,h'.get? a=some q) (new:Yp X.prog X.w (upd H a ob) h' a ob):
  Inv X pins σ (upd H a ob) { s with heap:=h',toks:=t' }:=
 I.write (x:=a) (e:=a) mu (.inl rfl) (λb q hb z=>(hs.2 b hb).trans z) he new
theorem dk_new {P:Program}{w:World}{H':Hp}{h':Heap}{kvs:List (Key×V)}{vs:List (Key×Value)} (z:kvs.length<=sizeLine) (hd:(a == sysModules)=false) (rel:KV kvs vs) (dd:h'.DictOf (ZB P w) a vs):
  Yp P w H' h' a (.dK kvs):=⟨z,hd,vs,rel,dd⟩
theorem YIu {H':Hp}{Q:Unit->Shared->Prop} (hu:A.units + 1 < cLine) (I:Inv X pins σ H s) (g:YBs H a y v H') (ry:Yk y u) (rv:Yk v r) (h:∀s',Inv X pins σ H' s'->Q () s'):
  wpAny (model X.prog X.w) A (setItem (.ref a) u r) Q E s:=by
 rcases g with ⟨kvs,k,e,ey,l,eH⟩ |⟨kvs,k,b,e,ey,eb,l,eH⟩
 ·subst ey eH;obtain⟨z,hd,vs,rel,dd⟩:=dk_of I.hok e;have hz:vs.length<=sizeLine:=by rw[<-rel.length];exact z
  have hl:(ZR kvs k v).length<=sizeLine:=by have:=YCH kvs k v;omega
  refine wpAny_setItem_pairs (hsz:=hz) (YFd ry) dd λh' yN hs=>h _ ?_
  have he:∃q,h'.get? a=some q:=let ⟨q,_,_,hq,_⟩:=yN;⟨q,hq⟩
  exact YHx I (by rw[e];exact True.intro) hs he (dk_new hl hd (rel.put k rv) yN)
 ·subst ey eH;cases (show u=Value.ref b from ry);obtain⟨z,hd,xs,rel,dd⟩:=dt_of I.hok e;have hz:xs.length<=sizeLine:=by rw[<-Paired.length rel];exact z
  have hl:(ZR kvs k v).length<=sizeLine:=by have:=YCH kvs k v;omega
  refine wpAny_setItem_heap (hsz:=hz) (tupleKind_room_in1 hu) (YCt I.hok eb) dd λh' yN hs=>h _ ?_
  obtain⟨q,es,ep,hq,h2,h3,h4,_,h5⟩:=yN;refine YHx I (by rw[e];exact True.intro) hs ⟨q,hq⟩ ⟨hl,hd,_,(rel.put k eb rv).keeps λc ys ec=>?_,q,es,ep,hq,h2,h3,h4,h5⟩;rw[YH (YDs ec e nofun)];exact ec
end
section
variable {X:Cx}{pins:List (Addr×Obj)}{σ:St}{H:Hp}{s:Shared}{a:Addr}{kvs:List (Key×V)}{k:Key}{u:Value}{A:Around}{E:Value->Shared->Prop}
end
def NoSl (i:Expr):Prop:=∀ov iv,subscripted i false ov iv=operate [ov,iv] (getItem ov iv)
theorem subD_of {prog:Program}{w:World}{A:Around}{E:Value->Shared->Prop}{s:Shared}{env:Env}{value slice:Expr}{pos:Pos}{T id:String}{Q:Value->Shared->Prop}
  (hl:typeLookup (.type T) "__getitem__"=pure (some (.builtin id))) (hs:NoSl slice)
  (h:wpAny (model prog w) A (eval value env) (λo s₁=>wpAny (model prog w) A (eval slice env) (λi s₂=>s₂.TypeIs o T/\wpAny (model prog w) A (getItem o i) Q E s₂) E s₁) E s):
  wpAny (model prog w) A (eval (.Subscript value slice pos) env) Q E s:=by
 refine Subscript_ (wpAny_mono h (λo s₁ h₁=>wpAny_mono h₁ (λi s₂ h₂=>?_) λ_ _ x=>x) λ_ _ x=>x);obtain⟨hT,h₂⟩:=h₂;unfold subscriptTail;refine YKz ?_;rw[getitemInPython_of_ne hT.not_modules];refine YKz (wpAny_specialOf hT hl ?_);have fin:wpAny (model prog w) A (subscripted slice false o i) (λr s₃=>wpAny (model prog w) A (letTemporaryGo value o r >>= λ_=>pure r) Q E s₃) E s₂:=by
  rw[hs o i];exact wpAny_operating (wpAny_mono h₂ (λr s₃ h₃=>YKz (wpAny_letTemporaryGo (YLO h₃))) λ_ _ x=>x)
 first
  |exact YLO (YKz fin)
  |exact YKz (YLO (YKz fin))
  |exact YKz fin
theorem YFe {X:Cx}{pins:List (Addr×Obj)}{σ:St}{H:Hp}{s:Shared}{a:Addr}{y:V}{o:Option V} (I:Inv X pins σ H s) (g:XT H a y o):s.TypeIs (.ref a) "dict":=by
 rcases g with ⟨kvs,k,e,_,_⟩ |⟨kvs,k,b,e,_,_,_⟩
 ·obtain⟨_,_,vs,_,dd⟩:=YD4 I.hok e;exact dd.typeIs
 ·obtain⟨_,_,xs,_,dd⟩:=YD5 I.hok e;exact dd.typeIs
inductive YJo (Q:VK) (x:V) (y:V) (H2:Hp):Prop where
 |mk (a:_) (v:_) (aX:x=.ref a) (aY:XT H2 a y (some v)) (bU:Q v H2):YJo Q x y H2
def tDGet (td ty:TE):TE:=λσ H Q=>td σ H λx H1=>ty σ H1 λy H2=>YJo Q x y H2
inductive YFf (Q:VK) (y:V) (x:V) (H2:Hp):Prop where
 |mk (a:_) (o:_) (aX:x=.ref a) (aY:XT H2 a y o) (bU:Q (.bl (!o.isSome)) H2):YFf Q y x H2
def tDNotIn (ty td:TE):TE:=λσ H Q=>ty σ H λy H1=>td σ H1 λx H2=>YFf Q y x H2
inductive YJp (D:YA6) (σ:St) (v:V) (x:V) (y:V) (H3:Hp):Prop where
 |mk (a:_) (H4:_) (aX:x=.ref a) (aY:YBs H3 a y v H4) (bU:D.nx σ H4):YJp D σ v x y H3
def sDPut (td ty tv:TE):TS:=λD σ H=>tv σ H λv H1=>td σ H1 λx H2=>ty σ H2 λy H3=>YJp D σ v x y H3
section
variable {X:Cx}{o i e value:Expr}{pos eY lz:Pos}{td ty tv:TE}
theorem ZS (hu:X.A.units + 1 < cLine) (ho:PE X o td) (hi:PE X i ty) (hs:NoSl i):PE X (.Subscript o i pos) (tDGet td ty):=by
 intro pins s σ H Q I h;refine subD_of PySem.F.slot_dict_getitem.lookup hs (thn (ho pins s σ H _ I h) λu s1 ⟨x,H1,I1,rx,q1⟩=>thn (hi pins s1 σ H1 _ I1 q1) ?_);rintro iv s2 ⟨y,H2,I2,ry,a,v,ex,g,q2⟩;subst ex;obtain rfl:u=Value.ref a:=rx;exact⟨YFe I2 g,YIt hu I2 g ry λw' s3 I3 qF=>⟨v,H2,I3,qF,q2⟩⟩
theorem YAq (hu:X.A.units + 1 < cLine) (hi:PE X i ty) (ho:PE X o td):PC X .NotIn i o (tDNotIn ty td):=by
 intro pins s σ H Q I h;refine thn (hi pins s σ H _ I h) λiv s1 ⟨y,H1,I1,ry,q1⟩=>thn (ho pins s1 σ H1 _ I1 q1) ?_
 rintro u s2 ⟨x,H2,I2,rx,a,ov,ex,g,q2⟩;subst ex;obtain rfl:u=Value.ref a:=rx;exact d_notIn hu I2 g ry λs3 I3=>⟨.bl (!ov.isSome),H2,I3,Z,q2⟩
theorem YAr (hu:X.A.units + 1 < cLine) (ho:PE X o td) (hi:PE X i ty) (hv:PE X value tv) (hs:swapsWith value (some (.Subscript o i eY)) pos.line X.env=pure false):
  PS X (.Assign [.Subscript o i eY] value pos) (sDPut td ty tv):=by
 intro pins s σ H D I h;refine wpAny_Assign_Subscript (thn (hv pins s σ H _ I h) λr s1 ⟨v,H1,I1,rv,q1⟩=>thn (ho pins s1 σ H1 _ I1 q1) λu s2 ⟨x,H2,I2,rx,q2⟩=>thn (hi pins s2 σ H2 _ I2 q2) λiv s3 ⟨y,H3,I3,ry,a,H4,ex,g,q3⟩=>?_) hs;subst ex;obtain rfl:u=Value.ref a:=rx;exact YIu hu I3 g ry rv λs4 I4=>⟨σ,H4,I4,q3⟩
end
theorem YJq {P:Program}{w:World}{H:Hp} (h:Heap) (hb:sysModules < h.objs.size):Yp P w H (h.push { cls:=.type "dict",data:=.dict #[] }) h.objs.size (.dK []):=
 ⟨YLS _,beq_eq_false_iff_ne.mpr (Ne.symm (YLW hb)),[],.nil,Heap.DictOf.new h⟩
theorem YJr {P:Program}{w:World}{H:Hp} (h:Heap) (hb:sysModules < h.objs.size):Yp P w H (h.push { cls:=.type "dict",data:=.dict #[] }) h.objs.size (.dT []):=
 ⟨YLS _,beq_eq_false_iff_ne.mpr (Ne.symm (YLW hb)),[],.nil,_,#[],0,YLI _ rfl,⟨Z,Z,Z⟩,Z,Z,List.nodup_nil⟩
def tDNewK:TE:=λ_ H Q=>∀p,H p=none->Q (.ref p) (upd H p (.dK []))
def tDNewT:TE:=λ_ H Q=>∀p,H p=none->Q (.ref p) (upd H p (.dT []))
section
variable {X:Cx}{pos:Pos}
theorem YCu:PE X (.Dict [] [] pos) tDNewK:=λpins s σ H Q I h=>
 wpAny_Dict_empty ⟨.ref s.heap.objs.size,_,I.laid (a:=s.heap.objs.size) (o:=.dK []) (t':=s.toks) (λ_ _ q=>YK3 _ q) (YKv _) (YJq s.heap I.big),Z,h _ (I.hok.fresh (YKv _))⟩
theorem YJs:PE X (.Dict [] [] pos) tDNewT:=λpins s σ H Q I h=>
 wpAny_Dict_empty ⟨.ref s.heap.objs.size,_,I.laid (a:=s.heap.objs.size) (o:=.dT []) (t':=s.toks) (λ_ _ q=>YK3 _ q) (YKv _) (YJr s.heap I.big),Z,h _ (I.hok.fresh (YKv _))⟩
end
structure M1 (X:Cx) (o:Expr) (m:Str) (cg:Pos) (e:Expr) (bw:Pos):Prop where
 base:attributeBase o m X.env (eval o X.env)=eval o X.env
 few:((backTo bw (starEach [e] X.env)).all (λx=>!x.1) && (backToKw bw (keywordEach [] X.env)).all (λx=>x.1.isSome)
  && decide (([e]:List Expr).length + ([]:List Keyword).length + (if ([]:List Keyword).isEmpty then 0 else 1) < 30))=true
 line:(cg.endLine == bw.line)=true
 trees:backTo bw (starEach [e] X.env)=[(false,eval e X.env)]
def IsD (H:Hp) (a:Addr):Prop:=(∃kvs,Rd H a (.dK kvs))\/∃kvs,Rd H a (.dT kvs)
theorem isD_at {X:Cx}{pins:List (Addr×Obj)}{σ:St}{H:Hp}{s:Shared}{a:Addr} (I:Inv X pins σ H s) (d:IsD H a):
  s.TypeIs (.ref a) "dict"/\(∀b,Value.ref a=.ref b->∃ob,s.heap.get? b=some ob/\ob.dict=none)/\(a == sysModules)=false:=by
 rcases d with ⟨kvs,e⟩ |⟨kvs,e⟩
 ·obtain⟨_,hd,vs,_,dd⟩:=YD4 I.hok e;refine⟨dd.typeIs,λb q=>?_,hd⟩;cases q;obtain⟨ob,_,_,h1,h2,_⟩:=dd;exact⟨ob,h1,h2.2.1⟩
 ·obtain⟨_,hd,xs,_,dd⟩:=YD5 I.hok e;refine⟨dd.typeIs,λb q=>?_,hd⟩;cases q;obtain⟨ob,_,_,h1,h2,_⟩:=dd;exact⟨ob,h1,h2.2.1⟩
section
variable {X:Cx}{pins:List (Addr×Obj)}{σ:St}{H:Hp}{s:Shared}{a:Addr}{y d:V}{u r:Value}{o:Option V}{A:Around}{E:Value->Shared->Prop}
theorem d_get1 {Q:Value->Shared->Prop} (hu:A.units + 1 < cLine) (I:Inv X pins σ H s) (g:XT H a y o) (ry:Yk y u) (h:∀w' s',Inv X pins σ H s'->Yk (o.getD .non) w'->Q w' s'):
  wpAny (model X.prog X.w) A (call (.builtin "dict.get") [.ref a,u]) Q E s:=by
 rcases g with ⟨kvs,k,e,ey,l⟩ |⟨kvs,k,b,e,ey,eb,l⟩
 ·subst ey;obtain⟨z,hd,vs,rel,dd⟩:=YD4 I.hok e;refine call_meetsIn PySem.F.slot_dict_get dd.typeIs PySem.F.entry_dict_get (PySem.F.args_dict_get_2 _ _) (meets_dict_get (ZB X.prog X.w) a (YFd ry) hd) ⟨_,dd.mapOf,h _ _ (I.tok _) ?_⟩;rw[l];exact(rel.val k).getD rfl
 ·subst ey;cases (show u=Value.ref b from ry);obtain⟨z,hd,xs,rel,dd⟩:=YD5 I.hok e;refine call_meetsIn PySem.F.slot_dict_get dd.typeIs PySem.F.entry_dict_get (PySem.F.args_dict_get_2 _ _) (meetsH_dict_get (tupleKind (ZB X.prog X.w)) a b hd) ⟨tupleKind_room_in1 hu,k,xs,YCt I.hok eb,dd,h _ _ (I.tok _) ?_⟩;rw[l];exact(rel.val k).getD rfl
end
def tDGet1 (td ty:TE):TE:=λσ H Q=>td σ H λx H1=>∃a,x=.ref a/\IsD H1 a/\ty σ H1 λy H2=>∃o,XT H2 a y o/\Q (o.getD .non) H2
section
variable {X:Cx}{o e f:Expr}{cg bw:Pos}{td ty tx:TE}
theorem YBQ (hu:X.A.units + 1 < cLine) (ho:PE X o td) (he:PE X e ty) (m:M1 X o "get" cg e bw):PE X (.Call (.Attribute o "get" cg) [e] [] bw) (tDGet1 td ty):=by
 intro pins s σ H Q I h;refine wpAny_Call_method m.base m.few m.line PySem.F.plainAttrs_dict PySem.F.slot_dict_get PySem.F.type_dict_get (thn (ho pins s σ H _ I h) ?_);rintro u s1 ⟨x,H1,I1,rx,a,ex,d,q1⟩;subst ex;obtain rfl:u=Value.ref a:=rx;obtain⟨t1,t2,_⟩:=isD_at I1 d;refine⟨t1,t2,?_⟩;rw[m.trees];refine Calls.callWith_builtin rfl (Calls.evalArgs_plain (Calls.spliced_cons (thn (he pins s1 σ H1 _ I1 q1) ?_)));rintro iv s2 ⟨y,H2,I2,ry,ov,g,q2⟩;refine Calls.spliced_nil ?_;exact d_get1 hu I2 g ry λw' s3 I3 qF=>⟨_,H2,I3,qF,q2⟩
end
section
variable {X:Cx}{pins:List (Addr×Obj)}{σ:St}{H:Hp}{s:Shared}{a:Addr}{kvs:List (Key×V)}{A:Around}{E:Value->Shared->Prop}
end
section
variable {X:Cx}{pins:List (Addr×Obj)}{σ:St}{H:Hp}{s:Shared}{a:Addr}{y:V}{u:Value}{A:Around}{E:Value->Shared->Prop}
end
end L2
namespace Att
open PySem PySem.W PySem.Calls PyProof.Rows
theorem YCO {P:Params}{h:Heap}:∀(ns:List Int) (vs:List Value),WellAll P h vs (ns.map WData.int)->IntsAre vs ns:=by
 intro ns
 induction ns with
 |nil=>
  intro vs w;rw[List.map_nil]at w;cases w;exact .nil
 |cons n ns ih=>
  intro vs w;rw[YLR]at w;cases w with
  |cons a b=>
   cases a;exact .cons _ _ (ih _ b)
theorem YIv {l:OpenLaw}{n:Nat} (hn:l.most=some n) {P:Params}{h:Heap}{args:List WData}{vals:List Value}
  (jU:l.row.toRowW.claim.pre args=true) (hwl:WellAll P h vals args):
  ∃a vs ns,vals=[Value.ref a]/\args=[WData.list (ns.map WData.int)]/\h.get? a=some { cls:=.type "list",data:=.seq vs.toArray }/\IntsAre vs ns/\ns.length<=n:=by
 have Ro:WShape.hasAll [] args [.list .int]=true:=(pre_splitW jU).1;have hc:l.pre.holds [] { args:=args }=true:=(pre_splitW jU).2;obtain⟨d,r,rfl,h1,h2⟩:=hasAllW_cons Ro;obtain rfl:=hasAllW_nil h2;obtain⟨xs,rfl,h3⟩:=hasW_list h1;obtain⟨ns,rfl⟩:=items_int h3;have hlen:ns.length<=n:=by
  unfold OpenLaw.pre at hc;have h4:(WTm.not (.lt (.lit (.int (n:Int))) (.len (.arg 0)))).holds [] { args:=[.list (ns.map .int)] }=true:=by
   have h4:=(holds_andW hc).1;rw[hn]at h4;exact h4
  have h5:=condW_of h4 (w_not (w_lt w_lit (w_len_list (w_arg rfl))));rw[YKu]at h5;refine Nat.le_of_not_lt λq=>?_
  have q':(n:Int) < ((ns.length:Nat):Int):=by omega
  first
   |(rw[YK2 q']at h5;exact absurd h5 (by decide))
   |(simp at h5;omega)
 cases hwl with
 |cons w1 w2=>
  cases w2;cases w1 with
  |list ho hall=>exact⟨_,_,ns,Z,Z,ho,YCO ns _ hall,hlen⟩
theorem YIw (l:OpenLaw) (args:List WData):l.row.toRowW.claim.post args (.bool true) args=true:=
 postW_of (r:=l.row.toRowW) (X:=(true == true))
  (show WShape.has [] (.bool true) .bool=true by first |rfl |decide |simp[WShape.has,WShape.arms,WShape.armsAll])
  (show(WTm.eq .res (.lit (.bool true))).value [] { args:=args,res:=some (.bool true),after:=args }=some (.bool (true == true)) from w_eq_bool (w_res rfl) w_lit) rfl
theorem YFg {l:OpenLaw}{n:Nat}{q:Program}{loose:List Str}{XP:(Str->Option Value)->Heap->Prop}{YP:World->Heap->Prop}{d:DefRec}
  (hn:l.most=some n) (hdf:d.params.defaults=[])
  (call:∀(w:World) (s₀ s₁:Shared) (mg mb:Str->Option Value) (fa:Addr) (o:Obj) (pm cd doc:Value) (a:Addr) (vs:List Value) (ns:List Int),
   Ground q loose [] XP w s₀ mg mb s₁.heap->YP w s₁.heap->
   s₁.heap.get? fa=some o->o.data=.func (docDef d.name d.params d.body d.scope pm cd doc)->s₁.heap.CodeRec cd d.name->mg d.name=some (.ref fa)->
   s₁.heap.get? a=some { cls:=.type "list",data:=.seq vs.toArray }->IntsAre vs ns->ns.length<=n->s₁.gens=#[]->
   codeAny (model l.prog w) callerA (.call (.ref fa) ⟨[.ref a],[]⟩) (λr s'=>r=.ok (.ret (.bool true))/\OldK s₁.heap s'.heap/\s'.os=s₁.os/\AllBare s'.gens) s₁):
  WalkO q loose XP YP l.row.toRowW d [] (λf vs=>PySem.call f vs):=by
 intro w s₀ s₁ mg mb G Y fa o pm cd doc dV kV ho hd hcd hD wN hg args vals as jU hlay hrd hwl hlo;obtain rfl:dV=.none:=Dflts.none hD hdf;obtain rfl:kV=.none:=Dflts.noKw hD;obtain⟨a,vs,ns,rfl,rfl,u_,rR,hlen⟩:=YIv hn jU hwl;refine enter_call (codeAny_mono (call w s₀ s₁ mg mb fa o pm cd doc a vs ns G Y ho (fd_plain hd) hcd wN u_ rR hlen hg) λr s' hq=>?_);obtain⟨rfl,h2,h3,h4⟩:=hq;exact⟨.inl ⟨.bool true,.bool true,[],Z,λ_=>rfl,.bool true,YIw l _,λ_=>⟨List.Pairwise.nil,λ_ hm=>(nomatch hm)⟩⟩,h2,h3,h4⟩
section
variable {prog:Program}{w:World}{A:Around}{E:Value->Shared->Prop}{s:Shared}{K:Frag}
end
end Att
namespace L2
open PySem PySem.Spec PyProof.Rows
theorem YD6:∀{vs:List Value}{ns:List Int},IntsAre vs ns->Yf (ns.map V.int) vs
 |_,_,.nil=>.nil
 |_,_,.cons n t h=>.cons ⟨t,Z⟩ (YD6 h)
def Only (H:Hp):Prop:=∀b,H b=none\/∃o xs,H b=some (.frz o (.lst xs))
theorem YJt {P:Program}{w:World}{K:W.Frag}{mg mb:Str->Option Value}{CX:CXT}{k:Nat}{fa a:Addr}{fd:FuncData}{x:Str}{sp:Sp}{s₁:Shared}{vs:List Value}{ns:List Int}
  (KX:K.In s₁.heap) (hns:s₁.heap.Ns mainGlobals mg) (hb:s₁.heap.Ns builtinsNs mb) (hbb:∀x:Str,x≠"__name__"->mb x=bootBuiltins x) (Qi:s₁.heap.NoLimit) (hg:s₁.gens=#[])
  (ha:s₁.heap.get? a=some { cls:=.type "list",data:=.seq vs.toArray }) (hi:IntsAre vs ns) (hl:ns.length<=sizeLine) (hr:Jq k callerA)
  (F:∀base:Heap,K.In base->base.Ns mainGlobals mg->Yw P w K mg base CX k fa fd [x] sp) (wO:∀(s:Shared) (u:Value),BindsTo s fd ⟨[u],[]⟩ [(x,u)])
  (hsp:∀H:Hp,Only H->SqL K H a (ns.map V.int)->sp [.ref a] H (λv _=>v=.bl true) λ_ _ _=>False)
  (hCX:∀H e s',CX [] H s₁ (λ_ _ _=>False) e s'->False):
  codeAny (model P w) callerA (.call (.ref fa) ⟨[.ref a],[]⟩) (λr s'=>r=.ok (.ret (.bool true))/\OldK s₁.heap s'.heap/\s'.os=s₁.os/\AllBare s'.gens) s₁:=by
 have rv:=YD6 hi;have lenV:=hi.length;have core:∀H:Hp,Only H->SqL K H a (ns.map V.int)->HOk P w H s₁.heap->(∀b,H b≠none->b=a)->(H a≠none->K.lookup a=none)->
   codeAny (model P w) callerA (.call (.ref fa) ⟨[.ref a],[]⟩) (λr s'=>r=.ok (.ret (.bool true))/\OldK s₁.heap s'.heap/\s'.os=s₁.os/\AllBare s'.gens) s₁:=by
  intro H hO hS hok hA hK;have base_of:∀{b:Addr}{o:Obj},s₁.heap.get? b=some o->H b=none->(YEm s₁.heap H).get? b=some o:=λe n=>YJT e n
  have noA:∀{b:Addr}{o:Obj}{es:Array DictEntry}{ep:Nat},s₁.heap.get? b=some o->o.data=.dict es ep->H b=none:=λ{b o es ep} e d=>by
   cases q:H b with
   |none=>rfl
   |some u=>
    have e':b=a:=hA b (by rw[q];simp);subst e';rw[ha]at e;cases e;have d':Data.seq vs.toArray _=Data.dict es ep:=d;cases d'
  have nsK:∀{b:Addr}{m:Str->Option Value},s₁.heap.Ns b m->(YEm s₁.heap H).Ns b m:=λ{b m} ⟨o,es,ep,e,d,r⟩=>⟨o,es,ep,base_of e (noA e d),d,r⟩
  have hKb:K.In (YEm s₁.heap H):=λb o e=>base_of (KX b o e) (by
   cases q:H b with
   |none=>rfl
   |some u=>
    have e':b=a:=hA b (by rw[q];simp);subst e';rw[hK (by rw[q];simp)]at e;cases e)
  have hM:Mod K mg (YEm s₁.heap H):=⟨hKb,nsK hns,⟨mb,nsK hb,hbb⟩,let ⟨mc,h1,h2⟩:=Qi;⟨mc,nsK h1,h2⟩⟩;have e0:Env0 P w K mg (YEm s₁.heap H) callerA [] s₁ H:=⟨Z,hM,λb o e=>of_hidT e,Nat.le_of_eq (YIj _ _),trivial,λb hb=>absurd (show b∈([]:List Addr) from hb) (by simp),hok,.of_eq hg⟩;refine codeAny_mono ((F _ hKb (nsK hns)).run callerA [] s₁ H ⟨[.ref a],[]⟩ [.ref a] [.ref a] _ _ hr e0 (wO s₁ (.ref a)) (.cons rfl .nil) (hsp H hO hS)) λr s' h=>?_
  cases r with
  |error e=>exact(hCX H e s' h).elim
  |ok fl=>
   cases fl with
   |next=>exact False.elim h
   |brk=>exact False.elim h
   |cont=>exact False.elim h
   |ret u=>
    obtain⟨v,H',os,bare,un,hok',r',q⟩:=h;have q':v=.bl true:=q;subst q';obtain rfl:u=Value.bool true:=r';refine⟨Z,OldK.of_keep λb o e=>?_,os,bare⟩;cases q:H b with
    |none=>exact un.keep b o e q (by intro z;exact absurd (show b∈([]:List Addr) from z) (by simp)) (by simp)
    |some u=>
     rcases hO b with z |⟨ob,xs,z⟩
     ·rw[q]at z;cases z
     ·have z2:=un.frzs b ob _ z;obtain⟨e1,_⟩:=hok b _ z;obtain⟨e2,_⟩:=hok' b _ z2;rw[e]at e1;cases e1;exact e2
 cases hk:K.lookup a with
 |some o=>
  have e:=KX a o hk;rw[ha]at e;cases e;refine core (λ_=>none) (λ_=>.inl rfl) (.inr ⟨_,vs.toArray,_,hk,Z,Z,Z,by rw[YK9,lenV];exact hl,by simpa using rv⟩) (λb u z=>by have z':(none:Option HO)=some u:=z;cases z') (λb z=>absurd rfl z) λz=>absurd rfl z
 |none=>
  refine core (λb=>if b=a then some (.frz { cls:=.type "list",data:=.seq vs.toArray } (.lst (ns.map V.int))) else none) (λb=>?_) (.inl (.inr ⟨{ cls:=.type "list",data:=.seq vs.toArray },if_pos rfl⟩)) (λb u z=>?_) (λb z=>?_) λ_=>hk
  ·by_cases hb:b=a
   ·exact .inr ⟨_,_,if_pos hb⟩
   ·exact .inl (if_neg hb)
  ·by_cases hb:b=a
   ·have z':=(if_pos hb).symm.trans z;cases z';subst hb;exact⟨ha,by rw[YKu];exact hl,vs,_,rv,ha⟩
   ·have z':=(if_neg hb).symm.trans z;cases z'
  ·by_cases hb:b=a
   ·exact hb
   ·exact absurd (if_neg hb) z
end L2
namespace L2
open PySem PySem.Spec PyProof.Rows
theorem walk_of {l:PySem.W.OpenLaw}{n k:Nat}{q:Program}{loose:List Str}{XP:(Str->Option Value)->Heap->Prop}{YP:World->Heap->Prop}{d:DefRec}{K:Params->W.Frag}{CX:World->CXT}{sp:World->Sp}{x:Str}
  (hn:l.most=some n) (hn2:n<=sizeLine) (hdf:d.params.defaults=[]) (hr:Jq k callerA)
  (hY:∀(w:World) (h:Heap),YP w h->(K w.params).In h)
  (F:∀(w:World) (mg:Str->Option Value) (fa:Addr) (h:Heap),(K w.params).In h->h.Ns mainGlobals mg->mg d.name=some (.ref fa)->
   ∃fd:FuncData,(∀(s:Shared) (u:Value),BindsTo s fd ⟨[u],[]⟩ [(x,u)])/\
    ∀base:Heap,(K w.params).In base->base.Ns mainGlobals mg->Yw l.prog w (K w.params) mg base (CX w) k fa fd [x] (sp w))
  (hsp:∀(w:World) (H:Hp) (a:Addr) (ns:List Int),ns.length<=n->Only H->SqL (K w.params) H a (ns.map V.int)->sp w [.ref a] H (λv _=>v=.bl true) λ_ _ _=>False)
  (hCX:∀(w:World) (H:Hp) (s:Shared) (e:Value) (s':Shared),CX w [] H s (λ_ _ _=>False) e s'->False):
  PySem.W.WalkO q loose XP YP l.row.toRowW d [] (λf vs=>PySem.call f vs):=by
 refine Att.YFg hn hdf λw s₀ s₁ mg mb fa o pm cd doc a vs ns G Y ho hd hcd wN u_ rR hlen hg=>?_
 have KX:=hY w _ Y;obtain⟨fd,hb,hF⟩:=F w mg fa _ KX G.T.g wN;exact YJt KX G.T.g G.T.b G.T.builtins G.T.nolimit hg u_ rR (YLU hlen hn2) hr hF hb (λH hO hS=>hsp w H a ns hlen hO hS) λH e s'=>hCX w H s₁ e s'
end L2
namespace L2
open PySem PySem.Spec PyProof.Rows
def ZT (s:Stmt) (j:Nat):Stmt:=match s with
 |.ClassDef _ _ _ body _ _ _ _ _ _ _=>body.getD j (.Pass ⟨0,0,0,0⟩)
 |_=>.Pass ⟨0,0,0,0⟩
def Jk (s:Stmt):Arguments:=match s with
 |.FunctionDef _ a _ _ _ _ _ _ _ _=>a
 |_=>{ posonlyargs:=[],args:=[],vararg:=none,kwonlyargs:=[],kw_defaults:=[],kwarg:=none,defaults:=[] }
def Z1 (s:Stmt):List Stmt:=match s with
 |.FunctionDef _ _ b _ _ _ _ _ _ _=>b
 |_=>[]
def YK (s:Stmt):Scope:=match s with
 |.FunctionDef _ _ _ _ _ _ sc _ _ _=>sc
 |_=>{ kind:=.function,names:=[],isGenerator:=false,isCoroutine:=false }
abbrev CX0:CXT:=λ_ _ _ _ _ _=>False
abbrev E0:XK:=λ_ _ _=>False
theorem Yj {X:Cx}:X9 CX0 X E0:=λ_ _ _ _ _ _ _ h=>h.elim
structure Fun (K:W.Frag) (x qual:Str) (st:Stmt) (f:Addr) (fd:FuncData):Prop where
 ex:∃(oc:Value) (od:Option Addr) (kV doc pm:Value) (an:Option Addr) (aO ct:Value) (osl:Array (Option Value)),
  fd=PySem.W.fnOf x qual (Jk st) (Z1 st) (YK st) .none kV doc pm an aO ct/\K.lookup f=some ⟨oc,od,.func fd,osl⟩/\PySem.W.codeIn K aO qual=true
 kp:PySem.W.keepIn K (.ref f)=true
section
variable {P:Program}{w:World}{K:W.Frag}{mg:Str->Option Value}{base:Heap}
theorem Fun.ok {x qual:Str}{st:Stmt}{f:Addr}{fd:FuncData}{N ps:List Str}{k:Nat}{sp:Sp} (F:Fun K x qual st f fd) (S:YW N ps (YK st)) (len:∀vs H Q E,sp vs H Q E->vs.length=ps.length)
  (hbody:∀(aO:Value) (A:Around) (outer:List Env) (s:Shared) (H:Hp) (vs:List V) (Q:VK) (E:XK),Jq k (A.deeper (envOfC qual (YK st) s.heap.objs.size f aO))->sp vs H Q E->
   ∃t,PSs (YBq CX0 P w K mg base N qual (YK st) f aO A outer s H E).nox (Z1 st) t/\t { nx:=λ_ H'=>Q .non H',rt:=Q } (start N vs) H):Yw P w K mg base CX0 (k + 1) f fd ps sp:=by
 obtain⟨oc,od,kV,doc,pm,an,aO,ct,osl,rfl,lk,hcd⟩:=F.ex;refine fn_of lk hcd S len λA outer s H vs Q E hr hsp=>?_
 obtain⟨t,h,q⟩:=hbody aO A outer s H vs Q E hr hsp;exact⟨t,h.nox,q⟩
theorem Fun.binds {x qual:Str}{st:Stmt}{f:Addr}{fd:FuncData}{ps:List Str} (F:Fun K x qual st f fd)
  (h:∀(kV doc pm:Value) (an:Option Addr) (aO ct:Value) (us:List Value),us.length=ps.length->bindArgs (PySem.W.fnOf x qual (Jk st) (Z1 st) (YK st) .none kV doc pm an aO ct) ⟨us,[]⟩=pure (ps.zip us)):YAH K fd ps []:=by
 obtain⟨oc,od,kV,doc,pm,an,aO,ct,osl,rfl,lk,hcd⟩:=F.ex;exact .all (h kV doc pm an aO ct)
theorem YJu {x qual:Str}{st:Stmt}{f:Addr}{oc:Value}{od an:Option Addr}{osl:Array (Option Value)}{kV doc pm aO ct:Value} (l:K.lookup f=some ⟨oc,od,.func (PySem.W.fnOf x qual (Jk st) (Z1 st) (YK st) .none kV doc pm an aO ct),osl⟩)
  (c:PySem.W.codeIn K aO qual=true) (k:PySem.W.keepIn K (.ref f)=true):Fun K x qual st f (PySem.W.fnOf x qual (Jk st) (Z1 st) (YK st) .none kV doc pm an aO ct):=⟨⟨oc,od,kV,doc,pm,an,aO,ct,osl,Z,l,c⟩,k⟩
end
theorem Zw {A:Around}{k:Nat} (hr:Jq k A):A.units + 1 < cLine:=YMl (Nat.add_le_add_left (by decide:1<=64) _) hr.units
section
variable {X:Cx}
theorem pv (i:Nat) {x:Str}{pos:Pos} (hN:X.N[i]?=some x:=by rfl) (hv:Vis X.env.scope x:=by first |exact Or.inl rfl |exact Or.inr (Or.inl rfl) |exact Or.inr (Or.inr rfl)) (hd:(x == ("__debug__":Str))=false:=by decide)
  (hcd:(x == ("__classdict__":Str))=false:=by decide):PE X (.Name x pos) (tVar i):=pe_var hN hv hd hcd
end
theorem Y3 {A B:Prop} (h:B):if false=true then A else B:=by
 rw[if_neg YLD];exact h
theorem ZO {A B:Prop} (h:A):if true=true then A else B:=by
 rw[if_pos rfl];exact h
theorem Xf {c A B:Prop} [Decidable c] (h1:c->A) (h2:¬c->B):if c then A else B:=by
 by_cases h:c
 ·rw[if_pos h];exact h1 h
 ·rw[if_neg h];exact h2 h
def YJ (H H':Hp):Prop:=∀b o,H b=some o->H' b=some o
theorem YJ.refl (H:Hp):YJ H H:=λ_ _ h=>h
theorem YJ.trans {H H1 H2:Hp} (a:YJ H H1) (b:YJ H1 H2):YJ H H2:=λc o h=>b c o (a c o h)
theorem YJ.free {H H':Hp} (e:YJ H H') {l:Addr} (h:H' l=Option.none):H l=Option.none:=by
 cases q:H l with
 |none=>rfl
 |some o=>
  rw[e l o q]at h;cases h
theorem YJ.seq {K:W.Frag}{H H':Hp}{a:Addr}{xs:List V} (e:YJ H H') (h:SqL K H a xs):SqL K H' a xs:=by
 rcases h with (h |⟨o,h⟩) |h
 ·exact .inl (.inl (e _ _ h))
 ·exact .inl (.inr ⟨o,e _ _ h⟩)
 ·exact .inr h
end L2
set_option maxHeartbeats 4000000
namespace L2
open PySem PySem.Spec PyProof.Rows
theorem Yp.at_ {P:Program}{w:World}{H:Hp}{h:Heap}{a:Addr}{o:HO} (x:Yp P w H h a o):∃u,h.get? a=some u:=by
 cases o with
 |lst xs=>obtain⟨_,_,_,_,e⟩:=x;exact⟨_,e⟩
 |tup xs=>obtain⟨_,_,_,o,e,_⟩:=x;exact⟨_,e⟩
 |dK kvs=>obtain⟨_,_,_,_,o,_,_,e,_⟩:=x;exact⟨_,e⟩
 |dT kvs=>obtain⟨_,_,_,_,o,_,_,e,_⟩:=x;exact⟨_,e⟩
 |set S n=>obtain⟨o,_,_,_,e,_⟩:=x;exact⟨_,e⟩
 |ins C dx fs=>obtain⟨_,_,_,e,_⟩:=x;exact⟨_,e⟩
 |own y=>obtain⟨o,e⟩:=x;exact⟨_,e⟩
 |xd fs=>obtain⟨_,⟨o,_,_,e,_⟩,_⟩:=x;exact⟨_,e⟩
 |rng lo hi=>obtain⟨_,_,_,e⟩:=x;exact⟨_,e⟩
 |frz ob u=>obtain⟨e,_⟩:=x;exact⟨_,e⟩
 |tbl ps=>exact⟨_,(show h.get? a=some _ from x)⟩
 |met f y=>exact⟨_,(show h.get? a=some _ from x)⟩
 |ext φ=>obtain⟨_,e,_⟩:=x;exact e
structure Fly (P:Program) (w:World) (l:List Env) (H:Hp) (s:Shared) (e:Addr) (cls:Value) (H':Hp) (s':Shared):Prop where
 os:s'.os=s.os
 bare:AllBare s'.gens
 un:Un (frs l) [] H H' s.heap s'.heap
 hok:HOk P w H' s'.heap
 new:H' e=none
 fly:∃B a0,Heap.FlyingW B l e cls a0 s'.heap/\(∀b u,H' b=some u->∃o,B.get? b=some o)/\∀b o,s.heap.get? b=some o->b∉frs l->∃o',B.get? b=some o'
def CXo (P:Program) (w:World):CXT:=λl H s E ev s'=>∃e cls H',ev=.ref e/\Fly P w l H s e cls H' s'/\E cls none H'
theorem YJv {fs:List Addr}{H H':Hp}{h h' h'' B:Heap} (un:Un fs [] H H' h h') (sB:B.StaysIn h') (sB':B.StaysIn h'') (up:h'.UpToSlots h'')
  (fr:∀b∈fs,∃o,h'.get? b=some o/\∀vs,o.data≠.fields vs) (old:∀b o,h.get? b=some o->b∉fs->∃o',B.get? b=some o'):Un fs [] H H' h h'' where
 keep:=λb o q n hb hx=>by
  have e1:=un.keep b o q n hb hx;obtain⟨o',eB⟩:=old b o q hb;have e2:=sB b o' eB;rw[e1]at e2;cases e2;exact sB' b o eB
 slot:=λb o q n hb hx=>by
  obtain⟨sl,e1⟩:=un.slot b o q n hb hx;obtain⟨o',e2,nf⟩:=fr b hb;rw[e1]at e2;cases e2;obtain⟨uB,e3⟩:=up b _ e1 nf;exact⟨uB,e3⟩
 free:=un.free
 there:=λb o q hx=>by
  by_cases hb:b∈fs
  ·obtain⟨o',e2,nf⟩:=fr b hb;obtain⟨uB,e3⟩:=up b _ e2 nf;exact⟨_,e3⟩
  ·obtain⟨o',eB⟩:=old b o q hb;exact⟨o',sB' b o' eB⟩
 tups:=un.tups
 frzs:=un.frzs
 tbls:=un.tbls
theorem YHy {P:Program}{w:World}{H:Hp}{h h' B:Heap} (ok:HOk P w H h) (sB:B.StaysIn h) (sB':B.StaysIn h') (tr:∀b u,H b=some u->∃o,B.get? b=some o):HOk P w H h':=λa o ea=>
 (ok a o ea).stay (λb u hb eb=>by
  have tb:∃v,H b=some v:=hb.elim (λz=>⟨o,by rw[z];exact ea⟩) λz=>⟨_,z⟩
  obtain⟨v,hv⟩:=tb;obtain⟨o',eB⟩:=tr b v hv;have e2:=sB b o' eB;rw[eb]at e2;cases e2;exact sB' b u eB) (λ_ z=>z) λ_ _ z=>z
theorem YJw {fs fs':List Addr}{L:Addr}{H H1 H2:Hp}{h h1 h2:Heap} (a:Un fs [] H H1 h h1) (b:Un fs' [] H1 H2 h1 h2) (sub:∀x∈fs',x=L\/x∈fs) (sup:∀x∈fs,x∈fs') (hL:h.objs.size<=L):Un fs [] H H2 h h2:=by
 have nL:∀c o,h.get? c=some o->c≠L:=λc o q z=>absurd (YK8 q) (by rw[z];exact Nat.not_lt.mpr hL)
 have no:∀c o,h.get? c=some o->c∉fs->c∉fs':=λc o q n z=>(sub c z).elim (nL c o q) n
 exact⟨λc o q n hc hx=>b.keep c o (a.keep c o q n hc hx) (a.free c o q n hx) (no c o q hc) hx,
  λc o q n hc hx=>by
   obtain⟨sl,e1⟩:=a.slot c o q n hc hx;obtain⟨uB,e2⟩:=b.slot c _ e1 (a.free c o q n hx) (sup c hc) hx;exact⟨uB,e2⟩,
  λc o q n hx=>by
   obtain⟨o',e1⟩:=a.there c o q hx;exact b.free c o' e1 (a.free c o q n hx) hx,
  λc o q hx=>by
   obtain⟨o',e1⟩:=a.there c o q hx;exact b.there c o' e1 hx,
  λc xs q=>b.tups c xs (a.tups c xs q),λc ob xs q=>b.frzs c ob xs (a.frzs c ob xs q),
  λc ps q=>by
   obtain⟨m1,e1⟩:=a.tbls c ps q;obtain⟨m2,e2⟩:=b.tbls c _ e1;exact⟨m1 ++ m2,by rw[e2,Array.append_assoc]⟩⟩
structure Sink (X:Cx) (E:XK):Prop where
 made:∀(pins:List (Addr×Obj)) (σ:St) (H:Hp) (s:Shared) (e:Addr) (cls:Value) (args:List Value) (h':Heap),Inv X pins σ H s->Heap.MadeExcOf s.heap h' e cls args->E cls none H->X.xe (.ref e) { s with heap:=h' }
 on:X9 (CXo X.prog X.w) X E
theorem YIx {X:Cx}{pins:List (Addr×Obj)}{σ:St}{H:Hp}{s:Shared} (I:Inv X pins σ H s):
  (PySem.W.hideAll s.heap (frs X.stack)).StaysIn s.heap/\s.heap.FunFrames (PySem.W.hideAll s.heap (frs X.stack)) X.stack/\(∀b o,s.heap.get? b=some o->b∉frs X.stack->(PySem.W.hideAll s.heap (frs X.stack)).get? b=some o)/\
   ∀b u,H b=some u->∃o,(PySem.W.hideAll s.heap (frs X.stack)).get? b=some o:=by
 refine⟨λb o q=>PySem.W.of_hideAll _ q,PySem.W.funFrames_hide I.stack λenv he b hb=>List.mem_filterMap.mpr ⟨env,he,hb⟩,λb o q hb=>PySem.W.hideAll_get _ q hb,λb u q=>?_⟩;obtain⟨o,ho⟩:=(I.hok b u q).at_;exact⟨o,PySem.W.hideAll_get _ ho λz=>by rw[I.stkFree b z]at q;cases q⟩
theorem JE {P:Program}{w:World}{K:W.Frag}{mg:Str->Option Value}{base:Heap}{N:List Str}{qual:Str}{scope:Scope}{f:Addr}{cd:Value}{A:Around}{outer:List Env}{s:Shared}{H:Hp}{E:XK}:
  Sink (YBq (CXo P w) P w K mg base N qual scope f cd A outer s H E) E where
 made:=by
  intro pins σ H1 s1 e cls args h' I hx hE;obtain⟨sB,ff,inB,tr⟩:=YIx I;show wpAny _ _ (leaving _ (.ref e)) _ _ _;refine wpAny_leaves_madeW (base:=PySem.W.hideAll s1.heap (frs (YBq (CXo P w) P w K mg base N qual scope f cd A outer s H E).stack)) (h:=s1.heap) I.ok.frames rfl sB ff hx λh'' t x1 x2 x3 x4=>?_
  have sB1:(PySem.W.hideAll s1.heap (frs (YBq (CXo P w) P w K mg base N qual scope f cd A outer s H E).stack)).StaysIn h':=λb o q=>hx.keeps b o (sB b o q)
  have wQ:Un (frs outer) [] H H1 s.heap s1.heap:=I.base;have old:∀b o,s.heap.get? b=some o->b∉frs outer->∃o',(PySem.W.hideAll s1.heap (frs (YBq (CXo P w) P w K mg base N qual scope f cd A outer s H E).stack)).get? b=some o':=λb o q hb=>by
   obtain⟨o',e1⟩:=wQ.there b o q (by simp);refine⟨o',inB b o' e1 λz=>?_⟩;rcases YLB.mp (I.stkSub b z) with z |z
   ·exact absurd (YK8 q) (by rw[z];exact YLq _)
   ·exact hb z
  have fr:∀b∈frs outer,∃o,h'.get? b=some o/\∀vs,o.data≠.fields vs:=λb hb=>by
   obtain⟨_,o,ho,nf⟩:=I.funs.mem hb;exact⟨o,hx.keeps b o ho,nf⟩
  refine⟨e,cls,H1,Z,⟨I.os,I.bare,YJv (wQ.trans (Un.kept hx.keeps)) sB1 x1.1 x4 fr old,YHy (I.hok.kept hx.keeps) sB1 x1.1 tr,?_,_,_,x1,tr,old⟩,hE⟩;cases q:H1 e with
  |none=>rfl
  |some u=>
   obtain⟨o,ho⟩:=(I.hok e u q).at_;rw[hx.new]at ho;cases ho
 on:=by
  intro pins σ H1 s1 ev s' I Qj;obtain⟨e,cls,H',rfl,F,hE⟩:=Qj;obtain⟨B,a0,fl,tr,old⟩:=F.fly;show wpAny _ _ (leaving _ (.ref e)) _ _ _;refine wpAny_leaves_onW I.ok.frames rfl fl λh'' x1 x4=>?_
  have wQ:Un (frs outer) [] H H1 s.heap s1.heap:=I.base;have sub:∀x∈frs (YBq (CXo P w) P w K mg base N qual scope f cd A outer s H E).stack,x=s.heap.objs.size\/x∈frs outer:=λx hx=>YLB.mp (I.stkSub x hx)
  have sup:∀x∈frs outer,x∈frs (YBq (CXo P w) P w K mg base N qual scope f cd A outer s H E).stack:=λx hx=>YLA _ hx
  have Rp:Un (frs outer) [] H H' s.heap s'.heap:=YJw wQ F.un sub sup (YKv _);have wR:∀b o,s.heap.get? b=some o->b∉frs outer->∃o',B.get? b=some o':=λb o q hb=>by
   obtain⟨o',e1⟩:=wQ.there b o q (by simp);refine old b o' e1 λz=>?_
   rcases sub b z with z |z
   ·exact absurd (YK8 q) (by rw[z];exact YLq _)
   ·exact hb z
  have fr:∀b∈frs outer,∃o,s'.heap.get? b=some o/\∀vs,o.data≠.fields vs:=λb hb=>by
   obtain⟨_,o,ho,nf⟩:=fl.2.2.1.mem (sup b hb);exact⟨o,ho,nf⟩
  exact⟨e,cls,H',Z,⟨F.os.trans I.os,F.bare,YJv Rp fl.1 x1.1 x4 fr wR,YHy F.hok fl.1 x1.1 tr,F.new,B,a0,x1,tr,wR⟩,hE⟩
abbrev bmV:List Value:=[.type "ValueError",.type "Exception",.type "BaseException",.type "object"]
abbrev newV:String:="ValueError.__new__"
def Exc (K:W.Frag) (C:Addr):Prop:=PySem.W.excIn K C bmV newV=true
theorem exc_obj {K:W.Frag}{h:Heap}{C:Addr}{bmB:List Value}{newId:String} (X:K.In h) (q:PySem.W.excIn K C bmB newId=true):
  ∃bm N nm qn bs hdct sn sub ab col dd k0 k1 k2 k3 k5 mN,h.get? C=some (excClassObj nm qn C N bs bm hdct sn sub ab col dd k0 k1 k2 k3 k5 newId)/\h.Ns N mN/\mN "__init__"=none/\OwnTail h bmB bm:=by
 unfold PySem.W.excIn at q;split at q
 ·rename_i dd cd sl ho
  split at q
  ·rename_i C' bm k0 k1 k2 k3 n k5 hm hs
   simp only[YLC,beq_iff_eq,Bool.not_eq_true']at q;obtain⟨⟨⟨⟨⟨rfl,rfl⟩,hdel⟩,ht⟩,hok⟩,hni⟩:=q;obtain⟨nm,bs,mro,ns,qn,hd,sn,sub,ab,col,del⟩:=cd;dsimp only at hm hdel hok hni;subst hm hdel;have hsl:sl=#[k0,k1,k2,k3,some (.builtin n),k5]:=by
    obtain⟨l⟩:=sl;simp only at hs;rw[hs]
   subst hsl;exact⟨bm,ns,nm,qn,bs,hd,sn,sub,ab,col,dd,k0,k1,k2,k3,k5,_,X _ _ ho,.of_isNs (PySem.W.isNs_of_in X hok),PySem.W.nsMap_none_of_in X hok hni,PySem.W.tail_of_in X ht⟩
  ·cases q
 ·cases q
section
variable {X:Cx}{E:XK}{x:Str}{C:Addr}{e:Expr}{t:TA}{np bw pos:Pos}
def tRaise (C:Addr) (E:XK) (t:TA):TS:=λ_ σ H=>t σ H λvs H1=>vs.length<=sizeLine/\E (.ref C) none H1
theorem YAS (S:Sink X E) (hq:Exc X.K C) (hc:X.calm=true) (hg:Gl X x) (hm:X.mg x=some (.ref C)) (ha:PA X [e] t) (hd:(x == ("__debug__":Str))=false:=by decide)
  (he:starEach [e] X.env=(false,eval e X.env) :: starEach [] X.env:=by rfl) (jK:(backTo bw (starEach [] X.env)).any (·.1)=false:=by rfl):
  PS X (.Raise (some (.Call (.Name x np) [e] [] bw)) none pos) (tRaise C E t):=by
 intro pins s σ H D I h;obtain⟨tl,N,nm,q,bs,hdct,sn,sub,ab,col,dd,k0,k1,k2,k3,k5,mN,hC,hN,hni,T⟩:=exc_obj I.mod.kin hq;refine wpAny_Raise_call_subT (C:=C) (nm:=nm) (q:=q) (N:=N) (bs:=bs) (bm:=tl) (hdct:=hdct) (sn:=sn) (sub:=sub) (ab:=ab) (col:=col) (dd:=dd) (k0:=k0) (k1:=k1) (k2:=k2) (k3:=k3) (k5:=k5)
  PySem.F.excBase_ValueError (mN:=mN) (T.hasType PySem.F.excBase_ValueError.hasBase) (I.ok.hd hc) (by rw[he];show(false || (backTo bw (starEach [] X.env)).any (·.1))=false;rw[jK];rfl) hni (YCb I hg hm ⟨Z,?_⟩ hd)
 have hA:=ha bw pins s σ H _ I h;rw[he]at hA ⊢;refine Calls.evalArgs_plain (thn hA λus s2 ⟨vs,H2,I2,r,hz,hE⟩=>⟨Z,by rw[<-r.length];exact hz,I2.bk _ _ hC,hN.keeps I2.bk,T.keeps I2.bk,λh' e wU=>?_⟩);exact S.made pins σ H2 s2 e _ _ h' I2 wU hE
end
end L2
namespace L2
open PySem PySem.Spec PyProof.Rows
def XP (X:Cx) (pins:List (Addr×Obj)) (σ:St) (E:XK) (ev:Value) (s':Shared):Prop:=∃(e:Addr) (cls:Value) (H':Hp) (B:Heap) (a0:Value),ev=.ref e/\Inv X pins σ H' s'/\Heap.FlyingW B X.stack e cls a0 s'.heap/\H' e=none/\
 (∀b u,H' b=some u->∃o,B.get? b=some o)/\(∀b o,X.s₀.heap.get? b=some o->b∉frs X.stack->b∉X.ex->∃o',B.get? b=some o')/\(∀p∈X.pn ++ pins,∃o',B.get? p.1=some o')/\E cls none H'
section
variable {X:Cx}{pins:List (Addr×Obj)}{σ:St}{H:Hp}{s s':Shared}{E:XK}
end
section
variable {X:Cx}{k:Nat}{f:Addr}{fd:FuncData}{ps:List Str}{sp:Sp}{jh:List V}{ds:List Value}{x:Str}{p pos:Pos}{e:Expr}{es:List Expr}{t:TA}
variable {te:St->Hp->VK->XK->Prop}
end
section
variable {X:Cx}{pins:List (Addr×Obj)}{σ:St}{H:Hp}{s:Shared}
end
end L2
namespace L2
open PySem PySem.Spec PyProof.Rows
def Its (x:Str):It:=⟨λi _=>i < x.cps.size,λi H v H'=>H'=H/\∃c,x.cps[i]?=some c/\v=.str ⟨#[c]⟩,λi _=>i=x.cps.size⟩
abbrev YHA:List String:=["enumerate","zip","dict_itemiterator","dict_reverseitemiterator","odict_iterator","itertools.zip_longest","itertools.pairwise"]
theorem YFh {P:Program}{w:World}{K:W.Frag}{tg:Expr}{ty:String}{x:Str}{t:Tok} (it:Addr)
  (W:∀A:Around,A.handled=none->Walks P w A it [it] [it] x.cps.size (SignAt x) (λi h=>h.IsStrIter it ty x t i))
  (hn:YHA.contains ty=false)
  (hself:∀(A:Around) (i:Nat) (s:Shared) (Q:Value->Shared->Prop) (E:Value->Shared->Prop),s.heap.IsStrIter it ty x t i->Q (.ref it) s->wpAny (model P w) A (pyIter (.ref it)) Q E s):
  YEp P w K tg (Its x) [it] it (λi h=>h.IsStrIter it ty x t i) where
 mem:=by simp
 obj:=λi h st b hb=>by
  have eb:b=it:=by simpa using hb
  subst eb;obtain⟨o,eo,_,d⟩:=st;exact⟨o,eo,λv z=>by rw[d]at z;cases z⟩
 keep:=λi h h' st k=>by
  obtain⟨o,eo,r⟩:=st;exact⟨o,k it (by simp) o eo,r⟩
 item:=by
  intro X hP hw hK hc i pins s σ H E I hf st hg;subst hP hw hK;obtain⟨f0,f1,f2,f3,f4,f5⟩:=hf it (by simp);refine(W X.A (I.ok.hd hc)).item i s _ _ hg st λv h' tk hv st' kk=>?_
  obtain⟨c,u,Qj,rfl⟩:=hv;have I1:Inv X pins σ H { s with heap:=h',toks:=tk }:=I.turned (λb o hb eo=>kk b o (by simpa using hb) eo) f0 f1 f3 f4 f5;obtain⟨o,eo,c',d⟩:=id st';exact⟨_,Z,YHm (s:={ s with heap:=h',toks:=tk }) eo c' d hn ⟨.str ⟨#[c]⟩,H,I1,⟨u,Z⟩,⟨Z,c,Qj,Z⟩,st',λb hb=>(hf b hb).1⟩⟩
 done:=by
  intro X hP hw hK hc i pins s σ H E I hf st hg;subst hP hw hK;obtain⟨f0,f1,f2,f3,f4,f5⟩:=hf it (by simp);have ei:i=x.cps.size:=hg;subst ei;exact(W X.A (I.ok.hd hc)).done s _ _ st λh' tk kk=>⟨Z,I.turned (λb o hb eo=>kk b o (by simpa using hb) eo) f0 f1 f3 f4 f5⟩
 self:=λA i s Q E st h=>hself A i s Q E st h
section
variable {X:Cx}{tg:Expr}
def iStr (tl:TE):TI:=λσ H R=>tl σ H λv H1=>∃x,v=.str x/\R (Its x) H1
theorem YHB {l:Expr}{tl:TE} (hl:PE X l tl):PI X tg l (iStr tl):=by
 intro pins s σ H R I h;refine thn (hl pins s σ H _ I h) λv s1 ⟨y,H1,I1,r1,q1⟩=>?_
 obtain⟨x,rfl,q⟩:=q1;obtain⟨t,rfl⟩:=r1;have fp:∀b∈[s1.heap.objs.size],YAO X pins H1 b:=λb hb=>by
  have eb:b=s1.heap.objs.size:=by simpa using hb
  subst eb;exact I1.fpOk (YKv _) (I1.hok.fresh (YKv _))
 cases ha:x.cps.all (· < 128)
 ·refine wpAny_pyIter_wide ha ?_;exact⟨s1.heap.objs.size,[s1.heap.objs.size],_,_,H1,Z,I1.kept (t':=s1.toks) λb o eo=>YK3 _ eo,
   YFh (ty:="str_iterator") (t:=t) _ (λA hA=>Walks.strWide hA _ x t) (by decide) (λ_ _ _ _ _ st hq=>wpAny_pyIter_striter_wide st hq),⟨_,YLI _ rfl,Z,Z⟩,fp,q⟩
 ·refine wpAny_pyIter_ascii ha ?_;exact⟨s1.heap.objs.size,[s1.heap.objs.size],_,_,H1,Z,I1.kept (t':=s1.toks) λb o eo=>YK3 _ eo,
   YFh (ty:="str_ascii_iterator") (t:=t) _ (λA hA=>Walks.strAscii hA _ x t) (by decide) (λ_ _ _ _ _ st hq=>wpAny_pyIter_striter_ascii st hq),⟨_,YLI _ rfl,Z,Z⟩,fp,q⟩
end
abbrev ZC (X:Cx) (N:List Str) (scope:Scope) (cl:List (Str×Addr)) (C:Addr) (s₀:Shared) (H₀:Hp) (ex:List Addr) (pn:List (Addr×Obj)):Cx:=
 { X with N:=N,s₀:=s₀,H₀:=H₀,env:=compEnvC scope cl C X.env,outer:=X.stack,stack:=X.stack,ex:=ex,fn:=λ_=>false,pn:=pn,xe:=λ_ _=>False }
def PTs (X:Cx) (ifs:List Expr) (t:TT):Prop:=
 ∀(pins:List (Addr×Obj)) (s:Shared) (σ:St) (H:Hp) (Q:Bool->Hp->Prop),Inv X pins σ H s->t σ H Q->
  wpAny (model X.prog X.w) X.A (forIn ifs true λc r=>if r=true then do let ok <-isTrue c X.env (eval c X.env);pure (ForInStep.yield ok) else pure (ForInStep.yield r)) (TP X pins σ Q) X.xe s
def tYes:TT:=λ_ H Q=>Q true H
theorem Zs {X:Cx}:PTs X [] tYes:=λ_ _ _ H _ I h=>wpAny_tests_nil ⟨H,I,h⟩
def YCv (ρ:List (Option Nat)) (σ:St):St:=ρ.map λo=>o.bind λj=>(σ[j]?).bind id
def YA8 (J:It) (g:TG) (tc:TT) (te:TE) (Q:VK) (l:Addr) (τ:St) (H1:Hp):Prop:=
 ∃W:Nat->Nat->List V->St->Hp->Prop,(∃m,W 0 m [] τ (upd H1 l (.lst [])))/\∀i m ys τ H2,W i m ys τ H2->
  (J.stop i H2/\Q (.ref l) H2)\/(J.go i H2/\∀x H3,J.yld i H2 x H3->g x τ H3 λτ4 H4=>tc τ4 H4 λb H5=>
   if b=true then te τ4 H5 λy H6=>H6 l=some (.lst ys)/\ys.length < sizeLine/\∃m',m' < m/\W (i + 1) m' (ys ++ [y]) τ4 (upd H6 l (.lst (ys ++ [y])))
   else ∃m',m' < m/\W (i + 1) m' ys τ4 H5)
def tComp (ρ:List (Option Nat)) (wi:TI) (g:TG) (tc:TT) (te:TE):TE:=λσ H Q=>wi σ H λJ H1=>∀l,H1 l=none->YA8 J g tc te Q l (YCv ρ σ) H1
theorem YD7 {prog:Program}{w:World}{A:Around}{R:Result->Shared->Prop}{s:Shared}{elt target iter:Expr}{ifs:List Expr}{scope:Scope}{pos:Pos}{it acc:Value}{env:Env} (Iv:Nat->Shared->Prop)
  (turn:∀n s,Iv n s->wpAny (model prog w) A (pyNext it) (λr s1=>match r with
   |none=>R (.ok .next) s1
   |some v=>wpAny (model prog w) A (letOwnedTupleGo target it v) (λ_ Wh=>wpAny (model prog w) A (assign target env v) (λ_ s2=>
     wpAny (model prog w) A (forIn ifs true λc r=>if r=true then do let ok <-isTrue c env (eval c env);pure (ForInStep.yield ok) else pure (ForInStep.yield r)) (λok s3=>
      if ok=true then wpAny (model prog w) A (eval elt env) (λx s4=>
       wpAny (model prog w) A (call (.builtin "list.append") [acc,x]) (λ_ s5=>∃m,m < n/\Iv m s5) (λ_ _=>False) s4) (λ_ _=>False) s3
      else ∃m,m < n/\Iv m s3) (λ_ _=>False) s2) (λ_ _=>False) Wh) (λ_ _=>False) s1) (λ_ _=>False) s)
  (n:Nat) (h:Iv n s):codeAny (model prog w) A (.compLoop (.ListComp elt [⟨target,iter,ifs,0⟩] scope pos) 0 it acc env) R s:=by
 refine codeAny_loop rfl Iv (λn s hI=>?_) n h;show wpAny _ A ((compTurn (.ListComp elt [⟨target,iter,ifs,0⟩] scope pos) 0 it acc env).onRaise (λx=>do noteFrame x env;theTreesLotGoes x)) _ _ s;refine wpAny_noted ?_;rw[compTurn_list];have no:∀{P:Value->Shared->Prop} (e:Value) (s':Shared),False->P e s':=λ_ _ z=>z.elim
 refine YKz (wpAny_standAt (YKz (wpAny_mono (turn n s hI) (λr s1 h1=>?_) no)));cases r with
 |none=>exact YLO h1
 |some v=>
  refine YKz (wpAny_mono h1 (λ_ Wh h1'=>?_) no);refine YKz (wpAny_mono h1' (λ_ s2 h2=>YKz (wpAny_mono h2 (λok s3 h3=>?_) no)) no);cases ok with
  |false=>exact YLO ⟨Z,h3⟩
  |true=>exact YKz (YKz (wpAny_mono h3 (λx s4 h4=>YKz (wpAny_mono h4 (λ_ s5 h5=>YLO (YLO ⟨Z,h5⟩)) no)) no))
section
variable {X:Cx}{elt tg iter:Expr}{ifs:List Expr}{scope:Scope}{cl:List (Str×Addr)}{N:List Str}{ρ:List (Option Nat)}{pos:Pos}{wi:TI}{g:TG}{tc:TT}{te:TE}
structure Yi (X:Cx) (N:List Str) (ρ:List (Option Nat)) (scope:Scope) (cl:List (Str×Addr)):Prop where
 clos:closureFor scope X.env=pure cl
 nocell:∀y∈scope.names,y.2≠.cell
 kind:scope.kind=.function
 loc:∀y∈scope.names,y.2=.local->scope.names.lookup y.1=some .local
 sub:∀x c,cl.lookup x=some c->X.env.cells.lookup x=some c
 has:∀x,((relabel scope X.env).names.lookup x=some .cell\/(relabel scope X.env).names.lookup x=some .free)->∃c,cl.lookup x=some c
 len:ρ.length=N.length
 from_:∀(i j:Nat) (x:Str),N[i]?=some x->ρ[i]?=some (some j)->X.N[j]?=some x/\(X.env.kindOf x=some .cell\/X.env.kindOf x=some .free)/\((relabel scope X.env).names.lookup x=some .cell\/(relabel scope X.env).names.lookup x=some .free)
theorem YJx {ρ:List (Option Nat)}{σ:St}{i:Nat}{v:V} (h:(YCv ρ σ)[i]?=some (some v)):∃j,ρ[i]?=some (some j)/\σ[j]?=some (some v):=by
 unfold YCv at h;rw[YK1]at h;cases e:ρ[i]? with
 |none=>rw[e]at h;cases h
 |some o=>
  rw[e]at h;cases o with
  |none=>cases h
  |some j=>
   refine⟨j,Z,?_⟩;simp only[YMm,Option.bind_some,Option.some.injEq]at h;cases e2:σ[j]? with
   |none=>rw[e2]at h;cases h
   |some w=>
    rw[e2]at h;have h':w=some v:=h;rw[h']
theorem YFi {pins:List (Addr×Obj)}{σ:St}{H:Hp}{s s':Shared}{fp:List Addr}{h₁:Heap} (S:Yi X N ρ scope cl) (I:Inv X pins σ H s) (hf:∀b∈fp,YAO X pins H b)
  (hlt:∀b∈fp,b < s.heap.objs.size) (hns:h₁.Ns s.heap.objs.size (λ_=>none)) (wV:∀b o,s.heap.get? b=some o->h₁.get? b=some o) (es:s'={ s with heap:=h₁ }):
  Inv (ZC X N scope cl s.heap.objs.size s H fp (X.pn ++ pins)) [] (YCv ρ σ) H s':=by
 subst es;have notStk:∀b,b≠X.env.locals->b∉X.fs->b∉frs X.stack:=λb h1 h2 hb=>by
  rcases YLB.mp (I.stkSub b hb) with z |z
  ·exact h1 z
  ·exact h2 z
 have hC:X.env.locals≠s.heap.objs.size:=YLW I.lt;refine⟨⟨I.ok.mod,S.kind,I.ok.glob,I.ok.blt,YKv _,λx y c h1 h2=>I.ok.inj x y c (S.sub x c h1) (S.sub y c h2),λx hx=>S.has x hx,λx c hx _=>absurd (show false=true from hx) YLD,I.ok.hd,I.ok.frames,.inl rfl,
  λb hb=>⟨YLW (hlt b hb),λx c h1=>(hf b hb).2.2.2.2.1 x c (S.sub x c h1)⟩,I.bs,YLU I.ok.bsz I.sz,λb o eo hb=>?_,λb hb=>notStk b (hf b hb).2.1 (hf b hb).2.2.1,I.stack,I.stkFree⟩,
  rfl,I.bare,Un.kept wV,⟨_,hns,λi x v h1 h2 h3=>?_⟩,λx c h1=>?_,I.hok.fresh (YKv _),λx c h1=>I.freeC x c (S.sub x c h1),λp hp=>?_,I.hok.kept wV,?_⟩
 ·rcases(hf b hb).2.2.2.1 with z |z
  ·exact I.ok.noex b o eo z
  ·exact absurd (YK8 (I.ok.bs b o eo).1) (Nat.not_lt.mpr z)
 ·obtain⟨j,hj,hv⟩:=YJx h2;obtain⟨n1,n2,n3⟩:=S.from_ i j x h1 hj;obtain⟨m,hn,hl⟩:=I.loc;have vis:Vis X.env.scope x:=n2.elim (λz=>.inr (.inl z)) λz=>.inr (.inr z)
  obtain⟨u,ru,lk⟩:=hl j x v n1 hv vis;refine⟨u,ru,.inr ⟨n3,?_⟩⟩;rcases lk with ⟨hk,_⟩ |⟨_,c,hc,cM⟩
  ·rcases n2 with z |z
   ·rw[z]at hk;cases hk
   ·rw[z]at hk;cases hk
  ·obtain⟨c',hc'⟩:=S.has x n3;have ec:=S.sub x c' hc';rw[hc]at ec;cases ec;obtain⟨o,ho,hd⟩:=cM;exact⟨c,hc',o,wV c o ho,hd⟩
 ·obtain⟨v,o,ho,hd⟩:=I.cell x c (S.sub x c h1);exact⟨v,o,wV c o ho,hd⟩
 ·have hp':p∈X.pn ++ pins:=by simpa using hp
  obtain⟨p1,p2,p3,p4,p5⟩:=I.pin p hp';exact⟨wV _ _ p1,p2,YLW (YK8 p1),notStk _ p3 p4,p5⟩
 ·show(YCv ρ σ).length=N.length;unfold YCv;rw[YKu];exact S.len
theorem Z2 (hc:X.calm=true) (S:Yi X N ρ scope cl) (hi:PI X tg iter wi)
  (hg:∀C s₀ H₀ ex pn,PG (ZC X N scope cl C s₀ H₀ ex pn) tg g) (ht:∀C s₀ H₀ ex pn,PTs (ZC X N scope cl C s₀ H₀ ex pn) ifs tc) (he:∀C s₀ H₀ ex pn,PE (ZC X N scope cl C s₀ H₀ ex pn) elt te)
  (hs:∀x,foldedSetIterable iter X.env x=pure x:=by intro _;rfl):PE X (.ListComp elt [⟨tg,iter,ifs,0⟩] scope pos) (tComp ρ wi g tc te):=by
 intro pins s σ H Q I h;rw[eval_ListComp];refine wpAny_comprehension_free (use:=none) rfl hs S.clos S.kind S.loc (thn (hi pins s σ H _ I h) λv s1 h1=>thn h1 λitv s2 h2=>?_);obtain⟨it,fp,tn,J,H2,e,I2,T,jF,f2,q2⟩:=h2;subst e;obtain⟨W,⟨m0,w0⟩,turn⟩:=q2 _ (I2.hok.fresh (YKv _));refine wpAny_newObj_type (wpAny_newFunctionEnv S.nocell (by intro y hy;simp at hy) (λh₁ hns₁ hsb₁=>?_) S.kind);dsimp only at hns₁ hsb₁ ⊢;have I3:Inv X pins σ (upd H2 s2.heap.objs.size (.lst [])) { s2 with heap:=s2.heap.push { cls:=.type "list",dict:=none,data:=.seq ([]:List Value).toArray } }:=
  I2.laid (t':=s2.toks) (λb u eo=>YK3 _ eo) (YKv _) ⟨by simp,[],0,.nil,YLI _ rfl⟩
 generalize wW:({ s2 with heap:=s2.heap.push { cls:=.type "list",dict:=none,data:=.seq ([]:List Value).toArray } }:Shared)=s3 at I3;have vd:s2.heap.push { cls:=.type "list",dict:=none,data:=.seq ([]:List Value).toArray }=s3.heap:=by rw[<-wW]
 rw[vd]at hns₁ hsb₁ ⊢;have f3:∀b∈fp,YAO X pins (upd H2 s2.heap.objs.size (.lst [])) b:=λb hb=>by
  obtain⟨o,eo,_⟩:=T.obj _ _ jF b hb;exact⟨by rw[YH (YLW (YK8 eo))];exact(f2 b hb).1,(f2 b hb).2⟩
 have wX:∀b∈fp,b < s3.heap.objs.size:=λb hb=>by
  obtain⟨o,eo,_⟩:=T.obj _ _ jF b hb;rw[<-vd,YMY];exact Nat.lt_succ_of_lt (YK8 eo)
 have old:∀b o,s3.heap.get? b=some o->h₁.get? b=some o:=λb o eo=>hsb₁.extBut b o (YLW (YK8 eo)) (YK3 _ eo)
 have Ic:Inv (ZC X N scope cl s3.heap.objs.size s3 (upd H2 s2.heap.objs.size (.lst [])) fp (X.pn ++ pins)) [] (YCv ρ σ) (upd H2 s2.heap.objs.size (.lst [])) { s2 with heap:=h₁,toks:=s2.toks + ([]:List (Str×Value)).length }:=
  YFi S I3 f3 wX hns₁ old (by rw[<-wW] <;> rfl)
 have jG:∀{pl:List (Addr×Obj)}{H':Hp},pl=[]->(∀b∈fp,H' b=none)->∀b∈fp,YAO (ZC X N scope cl s3.heap.objs.size s3 (upd H2 s2.heap.objs.size (.lst [])) fp (X.pn ++ pins)) pl H' b:=λ{pl H'} epl hn b hb=>by
  subst epl;refine⟨hn b hb,YLW (wX b hb),λz=>?_,.inl hb,λx c h1=>(f2 b hb).2.2.2.2.1 x c (S.sub x c h1),λp hp=>(f2 b hb).2.2.2.2.2 p (by simpa using hp)⟩;rcases YLB.mp (I3.stkSub b z) with z |z
  ·exact(f2 b hb).2.1 z
  ·exact(f2 b hb).2.2.1 z
 have qH:tn 0 h₁:=T.keep _ _ _ jF λb hb o eo=>old b o (by rw[<-vd];exact YK3 _ eo)
 have loop:codeAny (model X.prog X.w) X.A (.compLoop (.ListComp elt [⟨tg,iter,ifs,0⟩] scope pos) 0 (.ref it) (.ref s2.heap.objs.size) (compEnvC scope cl s3.heap.objs.size X.env))
   (compPost (model X.prog X.w) X.A X.xe none (EP X pins σ Q) (.ref s2.heap.objs.size) s3.heap.objs.size) { s2 with heap:=h₁,toks:=s2.toks + ([]:List (Str×Value)).length }:=by
  refine YD7 (λn s'=>∃i ys τ H',Inv (ZC X N scope cl s3.heap.objs.size s3 (upd H2 s2.heap.objs.size (.lst [])) fp (X.pn ++ pins)) [] τ H' s'/\tn i s'.heap/\(∀b∈fp,H' b=none)/\W i n ys τ H') ?_ m0
   ⟨0,[],_,_,Ic,qH,λb hb=>(f3 b hb).1,w0⟩
  rintro n s4 ⟨i,ys,τ,H4,I4,st,wY,w4⟩;rcases turn i n ys τ H4 w4 with ⟨stop,qn⟩ |⟨go,step⟩
  ·refine thn (T.done (ZC X N scope cl s3.heap.objs.size s3 (upd H2 s2.heap.objs.size (.lst [])) fp (X.pn ++ pins)) rfl rfl rfl hc i [] s4 τ H4 _ I4 (jG rfl wY) st stop) λr s5 ⟨hr,I5⟩=>?_
   subst hr;obtain⟨m5,Qk,_⟩:=I5.loc;refine⟨m5,Qk,λh' hs'=>?_⟩;have ne:∀b,b < s3.heap.objs.size->b≠s3.heap.objs.size:=λb hb=>YLW hb
   have rT:∀b o,b≠s3.heap.objs.size->s5.heap.get? b=some o->h'.get? b=some o:=λb o hb eo=>(hs'.2 b hb).trans eo
   have un:Un (frs X.stack) fp (upd H2 s2.heap.objs.size (.lst [])) H4 s3.heap h':=
    ⟨λb o eo n1 n2 n3=>rT b o (ne b (YK8 eo)) (I5.base.keep b o eo n1 n2 n3),λb o eo n1 n2 n3=>let ⟨sl,z⟩:=I5.base.slot b o eo n1 n2 n3;⟨sl,rT b _ (ne b (YK8 eo)) z⟩,
     I5.base.free,λb o eo n1=>let ⟨o',z⟩:=I5.base.there b o eo n1;⟨o',rT b _ (ne b (YK8 eo)) z⟩,I5.base.tups,I5.base.frzs,I5.base.tbls⟩
   have hok:HOk X.prog X.w H4 h':=λa o ea=>(I5.hok a o ea).stay (λb u hb eo=>rT b u (λz=>by
    have fr:H4 s3.heap.objs.size=none:=I5.free;rcases hb with rfl |hb
    ·rw[z,fr]at ea;cases ea
    ·rw[z,fr]at hb;cases hb) eo) (λ_ z=>z) λ_ _ z=>z
   have I6:Inv X pins σ H4 { s5 with heap:=h' }:=I3.call' (s':={ s5 with heap:=h' }) (ch:=fp) (show s5.os=s3.os from I5.os) un hok I5.bare λb hb=>(f3 b hb).2.2.2
     |> λz=>⟨(f3 b hb).2.2.2.1,(f3 b hb).2.1,(f3 b hb).2.2.2.2.1,(f3 b hb).2.2.2.2.2⟩
   exact⟨.ref s2.heap.objs.size,H4,I6,Z,qn⟩
  ·refine thn (T.item (ZC X N scope cl s3.heap.objs.size s3 (upd H2 s2.heap.objs.size (.lst [])) fp (X.pn ++ pins)) rfl rfl rfl hc i [] s4 τ H4 _ I4 (jG rfl wY) st go) λr s5 ⟨u,hr,h5⟩=>?_
   subst hr;refine thn h5 ?_;rintro _ s6 ⟨x,H6,I6,r6,y6,lC,Ql⟩;have I6':=I6.pinned (jG rfl Ql) (T.obj _ _ lC);have again:∀{s9:Shared}{τ9:St}{H9:Hp}{zs:List V}{m':Nat},Inv (ZC X N scope cl s3.heap.objs.size s3 (upd H2 s2.heap.objs.size (.lst [])) fp (X.pn ++ pins)) ([] ++ YBm fp s6.heap) τ9 H9 s9->m' < n->W (i + 1) m' zs τ9 H9->
     ∃m,m < n/\∃i ys τ H',Inv (ZC X N scope cl s3.heap.objs.size s3 (upd H2 s2.heap.objs.size (.lst [])) fp (X.pn ++ pins)) [] τ H' s9/\tn i s9.heap/\(∀b∈fp,H' b=none)/\W i m ys τ H':=λ{s9 τ9 H9 zs m'} I9 hm w9=>by
    refine⟨m',hm,i + 1,zs,τ9,H9,I9.unpinned,T.keep _ _ _ lC λb hb o eo=>(I9.pin (b,o) (YLH _ (YLH _ (JH hb eo)))).1,λb hb=>?_,w9⟩;obtain⟨o,eo,d⟩:=T.obj _ _ lC b hb;exact(I9.pin (b,o) (YLH _ (YLH _ (JH hb eo)))).2.1
   refine thn (hg _ _ _ _ _ _ s6 τ H6 x u _ I6' r6 (step x H6 y6)) λ_ s7 ⟨τ7,H7,I7,q7⟩=>?_
   refine thn (ht _ _ _ _ _ _ s7 τ7 H7 _ I7 q7) λok s8 ⟨H8,I8,q8⟩=>?_
   cases ok with
   |false=>
    rw[if_neg YLD]at q8 ⊢;obtain⟨m',hm,w9⟩:=q8;exact again I8 hm w9
   |true=>
    rw[if_pos rfl]at q8 ⊢;refine thn (he _ _ _ _ _ _ s8 τ7 H8 _ I8 q8) ?_;rintro y s9 ⟨z,H9,I9,r9,wZ,Qm,m',hm,w9⟩;refine thn (ZP _ s9 τ7 H9 (.ref s2.heap.objs.size) [z] (.ref s2.heap.objs.size) [y] (λ_ H'=>H'=upd H9 s2.heap.objs.size (.lst (ys ++ [z]))) I9 rfl (.cons r9 .nil) ⟨_,ys,z,Z,Z,wZ,Qm,Z⟩) λ_ yO ⟨_,H10,I10,_,e10⟩=>?_
    subst e10;exact again I10 hm w9
 exact codeAny_compStart_list loop (T.self _ 0 _ _ _ qH loop)
end
end L2
namespace L2
open PySem PySem.Spec PyProof.Rows
theorem Yi.plain {X:Cx}{N:List Str}{ρ:List (Option Nat)}{scope:Scope} (hk:scope.kind=.function) (hn:∀y∈scope.names,y.2≠.cell/\y.2≠.free)
  (hl:∀y∈scope.names,y.2=.local->scope.names.lookup y.1=some .local) (hlen:ρ.length=N.length) (hρ:∀o∈ρ,o=none):Yi X N ρ scope []:=by
 have Rq:(relabel scope X.env).names=scope.names:=by
  unfold relabel;refine map_eq_self λy hy=>?_
  obtain⟨n,k⟩:=y;have hf:(k == NameKind.free)=false:=by
   have:=(hn _ hy).2;cases k <;> first |rfl |exact absurd rfl this
  show(if (k == NameKind.free && X.env.scope.kind == .function && X.env.kindOf n == some .cell)=true then (n,NameKind.cell) else (n,k))=(n,k);rw[hf];rfl
 refine⟨closureFor_none λy hy=>(hn y hy).2,λy hy=>(hn y hy).1,hk,hl,λx c h=>(by cases h),λx h=>?_,hlen,λi j x _ h=>?_⟩
 ·rw[Rq]at h;rcases h with h |h
  ·exact absurd rfl (hn _ (PySem.mem_of_lookup h)).1
  ·exact absurd rfl (hn _ (PySem.mem_of_lookup h)).2
 ·have:=hρ _ (YKw h);cases this
theorem YFj {x:Str}{te:TE}{Q:VK}{H:Hp}{l:Addr}{τ:St} (f:Nat->V) (hl:H l=none) (hτ:0 < τ.length) (hz:x.cps.size<=sizeLine)
  (ht:∀(τ':St) (c:Nat) (H':Hp) (R:VK),τ'[0]?=some (some (.str ⟨#[c]⟩))->c∈x.cps.toList->R (f c) H'->te τ' H' R) (hq:Q (.ref l) (upd H l (.lst (x.cps.toList.map f)))):
  YA8 (Its x) (Yu 0) tYes te Q l τ H:=by
 refine⟨λi m ys τ' H2=>m=x.cps.size - i/\i<=x.cps.size/\ys=(x.cps.toList.take i).map f/\0 < τ'.length/\H2=upd H l (.lst ys),⟨x.cps.size,by simp,YLS _,by simp,hτ,Z⟩,?_⟩;rintro i m ys τ' H2 ⟨rfl,hi,rfl,hτ',rfl⟩
 by_cases hlt:i < x.cps.size
 ·refine .inr ⟨hlt,λv H3 hy=>?_⟩;obtain⟨eH,c,hc,rfl⟩:=hy;subst eH;have hc':x.cps.toList[i]?=some c:=by simpa using hc
  show te _ _ _;refine ht _ c _ _ ?_ (YKw hc') ?_
  ·rw[YMS hτ']
  ·have w6:(x.cps.toList.take (i + 1)).map f=(x.cps.toList.take i).map f ++ [f c]:=by
    rw[YLn,hc',YLE];rfl
   refine⟨YC,?_,x.cps.size - (i + 1),by lia,Z,hlt,w6.symm,by rw[YMQ];exact hτ',by rw[YHl]⟩;rw[YKu,YL3];have:x.cps.toList.length=x.cps.size:=by simp
   lia
 ·have ei:i=x.cps.size:=by lia
  subst ei;refine .inl ⟨Z,?_⟩;have:x.cps.toList.take x.cps.size=x.cps.toList:=by
   apply YL8;simp
  rw[this];exact hq
end L2
namespace L2
open PySem PySem.Spec PyProof.Rows
def Xr (cs:List (Str×Addr)):List (Str×NameKind)->List (Str×Addr)->List (Str×Addr)
 |[],acc=>acc
 |y :: r,acc=>Xr cs r (if y.2 == .free then (y.1,(cs.lookup y.1).getD 0) :: acc else acc)
theorem YD8 (cs:List (Str×Addr)):∀(names:List (Str×NameKind)) (acc:List (Str×Addr)),(∀p∈acc,p.2=(cs.lookup p.1).getD 0)->∀p∈Xr cs names acc,p.2=(cs.lookup p.1).getD 0
 |[],acc,h=>h
 |y :: r,acc,h=>by
  unfold Xr;refine YD8 cs r _ ?_;split
  ·intro p hp;rcases YLB.mp hp with rfl |hp
   ·rfl
   ·exact h p hp
  ·exact h
theorem YD9 (cs:List (Str×Addr)):∀(names:List (Str×NameKind)) (acc:List (Str×Addr)),∀p∈Xr cs names acc,p∈acc\/∃y∈names,y.1=p.1/\y.2=.free
 |[],acc,p,hp=>.inl hp
 |y :: r,acc,p,hp=>by
  unfold Xr at hp;rcases YD9 cs r _ p hp with h |⟨z,hz,h⟩
  ·split at h
   ·rename_i hy
    rcases YLB.mp h with rfl |h
    ·refine .inr ⟨y,YLJ,Z,?_⟩;cases hk:y.2 <;> rw[hk]at hy <;> first |rfl |cases hy
    ·exact .inl h
   ·exact .inl h
  ·exact .inr ⟨z,YLA _ hz,h⟩
theorem YEA (cs:List (Str×Addr)):∀(names:List (Str×NameKind)) (acc:List (Str×Addr)),∀p∈acc,p∈Xr cs names acc
 |[],acc,p,hp=>hp
 |y :: r,acc,p,hp=>by
  unfold Xr;refine YEA cs r _ p ?_;split
  ·exact YLA _ hp
  ·exact hp
theorem YEB (cs:List (Str×Addr)):∀(names:List (Str×NameKind)) (acc:List (Str×Addr)),∀y∈names,y.2=.free->(y.1,(cs.lookup y.1).getD 0)∈Xr cs names acc
 |[],acc,y,hy,_=>absurd hy (by simp)
 |z :: r,acc,y,hy,hf=>by
  unfold Xr;rcases YLB.mp hy with rfl |hy
  ·refine YEA cs r _ _ ?_;rw[if_pos (by rw[hf];rfl)];exact YLJ
  ·exact YEB cs r _ y hy hf
theorem YA3:∀{l:List (Str×Addr)}{x:Str}{c:Addr},(x,c)∈l->∃d,l.lookup x=some d
 |[],_,_,h=>absurd h (by simp)
 |(n,k) :: r,x,c,h=>by
  rw[List.lookup_cons];cases hx:x == n with
  |true=>exact⟨k,Z⟩
  |false=>
   rcases YLB.mp h with e |h
   ·cases e;simp at hx
   ·exact YA3 h
theorem YDf {scope:Scope}{env:Env} (h:∀y∈scope.names,y.2=.free->∃c,env.cells.lookup y.1=some c):closureFor scope env=pure (Xr env.cells scope.names []):=by
 have go:∀(names:List (Str×NameKind)) (acc:List (Str×Addr)),(∀y∈names,y.2=.free->∃c,env.cells.lookup y.1=some c)->
   (forIn (m:=Sem) names acc (λx r=>if (x.2 == NameKind.free)=true then do let c <-cellOf env x.1;pure (ForInStep.yield ((x.1,c) :: r)) else pure (ForInStep.yield r)))=pure (Xr env.cells names acc):=by
  intro names
  induction names with
  |nil=>intro acc _;rfl
  |cons y r ih=>
   intro acc hy;rw[List.forIn_cons];unfold Xr
   by_cases hf:(y.2 == NameKind.free)=true
   ·have hf':y.2=.free:=by cases hk:y.2 <;> rw[hk]at hf <;> first |rfl |cases hf
    obtain⟨c,hc⟩:=hy y YLJ hf';have e:cellOf env y.1=pure c:=by unfold cellOf;rw[hc]
    rw[if_pos hf,if_pos hf,e,pure_bind,pure_bind,hc];exact ih _ λz hz=>hy z (YLA _ hz)
   ·rw[if_neg hf,if_neg hf,pure_bind];exact ih _ λz hz=>hy z (YLA _ hz)
 have h2:=go scope.names [] h;simp only[closureFor];refine Eq.trans (YL5 (· >>= _) ?_) (by rw[pure_bind]);exact h2
theorem YBR (g:Str->NameKind->NameKind):∀(l:List (Str×NameKind)) (x:Str),(l.map λy=>(y.1,g y.1 y.2)).lookup x=(l.lookup x).map (g x)
 |[],_=>rfl
 |(n,k) :: r,x=>by
  rw[YLR,List.lookup_cons,List.lookup_cons];cases hx:x == n with
  |true=>
   have e:x=n:=by simpa using hx
   subst e;rfl
  |false=>exact YBR g r x
theorem YAT (scope:Scope) (env:Env) (x:Str):(relabel scope env).names.lookup x=(scope.names.lookup x).map λk=>if (k == NameKind.free && env.scope.kind == .function && env.kindOf x == some .cell)=true then .cell else k:=by
 rw[<-YBR (λn k=>if (k == NameKind.free && env.scope.kind == .function && env.kindOf n == some .cell)=true then .cell else k)];unfold relabel;congr 1;refine YMA λy _=>?_
 obtain⟨n,k⟩:=y;show(if (k == NameKind.free && env.scope.kind == .function && env.kindOf n == some .cell)=true then (n,NameKind.cell) else (n,k))=_;dsimp only;split <;> rfl
def YJy (N:List Str) (ρ:List (Option Nat)) (XN:List Str) (dn sn:List (Str×NameKind)):Bool:=
 (N.zip ρ).all λp=>match p.2 with
  |none=>true
  |some j=>decide (XN[j]?=some p.1) && decide (dn.lookup p.1=some .cell) && decide (sn.lookup p.1=some .free)
theorem Yi.closes {X:Cx}{N:List Str}{ρ:List (Option Nat)}{scope:Scope} (XN:List Str) (dn:List (Str×NameKind)) (hXN:X.N=XN) (Rr:X.env.scope.names=dn) (hk:scope.kind=.function) (hX:X.env.scope.kind=.function) (hn:∀y∈scope.names,y.2≠.cell)
  (hfree:∀y∈scope.names,y.2=.free->dn.lookup y.1=some .cell) (cM:∀x,X.env.scope.names.lookup x=some .cell->∃c,X.env.cells.lookup x=some c) (hl:∀y∈scope.names,y.2=.local->scope.names.lookup y.1=some .local) (hlen:ρ.length=N.length)
  (qU:YJy N ρ XN dn scope.names=true):Yi X N ρ scope (Xr X.env.cells scope.names []):=by
 subst hXN Rr;have kd:∀x,X.env.kindOf x=X.env.scope.names.lookup x:=λ_=>rfl
 refine⟨YDf λy hy hf=>cM _ (hfree y hy hf),hn,hk,hl,λx c h=>?_,λx h=>?_,hlen,λi j x h1 h2=>?_⟩
 ·have hm:=PySem.mem_of_lookup h;have hv:=YD8 X.env.cells scope.names [] (λp hp=>absurd hp (by simp)) _ hm;rcases YD9 X.env.cells scope.names [] _ hm with z |⟨y,hy,e1,e2⟩
  ·exact absurd z (by simp)
  ·obtain⟨d,hd⟩:=cM _ (hfree y hy e2);have e1':y.1=x:=e1;rw[e1']at hd;have hv':c=(X.env.cells.lookup x).getD 0:=hv;rw[hd]at hv';rw[hd,hv'];rfl
 ·rw[YAT]at h;have hfr:scope.names.lookup x=some .free:=by
   cases e:scope.names.lookup x with
   |none=>rw[e]at h;rcases h with h |h <;> cases h
   |some k=>
    rw[e]at h;cases k with
    |free=>rfl
    |cell=>exact absurd rfl (hn _ (PySem.mem_of_lookup e))
    |_=>rcases h with h |h <;> cases h
  exact YA3 (YEB X.env.cells scope.names [] _ (PySem.mem_of_lookup hfr) rfl)
 ·unfold YJy at qU;rw[YLb]at qU;have hm:(x,some j)∈N.zip ρ:=by
   refine YKw (i:=i) ?_;rw[List.getElem?_zip_eq_some];exact⟨h1,h2⟩
  have h3:=qU _ hm;simp only[YLC,YLm]at h3;obtain⟨⟨a1,a2⟩,a3⟩:=h3;refine⟨a1,.inl (by rw[kd];exact a2),.inl ?_⟩;rw[YAT,a3,kd,a2,hX];rfl
end L2
namespace L2
open PySem PySem.Spec PyProof.Rows
section
variable {X:Cx}
theorem vals_bl:∀{bs:List Bool}{us:List Value}{i:Nat}{v:Value},Yf (bs.map V.bl) us->us[i]?=some v->∃b,bs[i]?=some b/\v=.bool b:=by
 intro bs us i v r e;cases e2:(bs.map V.bl)[i]? with
 |none=>
  have:=r.none_of e2;rw[this]at e;cases e
 |some x=>
  obtain⟨u,hu,ru⟩:=r.get e2;rw[hu]at e;cases e;rw[YK1]at e2;cases e3:bs[i]? with
  |none=>rw[e3]at e2;cases e2
  |some b=>
   rw[e3]at e2;have e4:V.bl b=x:=YLP e2;subst e4;exact⟨b,Z,ru⟩
theorem YDg (bs:List Bool):((List.range bs.length).all λi=>(bs[i]?).getD true)=bs.all id:=by
 rw[YMR,YLb,YLb];constructor
 ·intro h b hb;obtain⟨i,hi,rfl⟩:=YMZ.mp hb;have:=h i (YME.mpr hi);rw[YKx hi]at this;exact this
 ·intro h i hi;have hi':=YME.mp hi;rw[YKx hi'];exact h _ (List.getElem_mem hi')
theorem YJz (hc:X.calm=true):Jp X (.builtin "all") (λxs H Q=>∃(p:Addr) (bs:List Bool),xs=[.ref p]/\SqL X.K H p (bs.map V.bl)/\Q (.bl (bs.all id)) H):=by
 intro pins s σ H xs us Q I r h;obtain⟨p,bs,rfl,hq,q⟩:=h;obtain⟨u,rfl,rx⟩:=XY r;cases rx;obtain⟨its,rv,pl,hz⟩:=I.list hq;have hl:=pl.isList;have hlt:p < s.heap.objs.size:=by obtain⟨_,e,_⟩:=hl;exact YK8 e
 have hlen:bs.length=its.length:=by have:=rv.length;rwa [YKu]at this
 refine call_all_walk (wpAny_pyIter_list hl ?_);refine⟨s.heap.objs.size,[s.heap.objs.size,p],[s.heap.objs.size],its.toArray.size,_,_,λi=>(bs[i]?).getD true,Z,Walks.list (A:=X.A.in1) (I.ok.hd hc) _ p (YLW hlt) its.toArray,
  ⟨⟨_,YLI _ rfl,Z,Z⟩,hl.push _⟩,λi v s' Q' E' hP hQ=>?_,λh' tk hk=>?_⟩
 ·obtain⟨b,eb,rfl⟩:=vals_bl rv (i:=i) (v:=v) (by simpa using hP);simp only[eb,Option.getD_some]at hQ;exact wpAny_truthy_bool hQ
 ·have e:((List.range its.toArray.size).all λi=>(bs[i]?).getD true)=bs.all id:=by
   rw[YK9,<-hlen];exact YDg bs
  rw[e];exact⟨.bl _,H,I.kept (t':=tk) λb o eb=>hk b o (λz=>by rw[YK4.mp z]at eb;exact YLq _ (YK8 eb)) (YK3 _ eb),Z,q⟩
theorem YCw:∀{ys:List Str}{us:List Value},Yf (ys.map V.str) us->StrsAre us ys
 |[],_,.nil=>.nil
 |_ :: _,_,.cons ⟨t,e⟩ r=>by subst e;exact .cons _ _ (YCw r)
def rJoin (K:W.Frag):V->List V->Hp->VK->Prop:=λx vs H Q=>∃(z:Str) (p:Addr) (ys:List Str),x=.str z/\vs=[.ref p]/\SqL K H p (ys.map V.str)/\(ys.map (·.length)).sum + ys.length * z.length<=16777216/\Q (.str (Txt.join z ys)) H
theorem mt_join:MtR X "str.join" (rJoin X.K):=by
 intro pins s σ H x xs v us Q I rx rs h;obtain⟨z,p,ys,rfl,rfl,hq,hz,q⟩:=h;obtain⟨t,rfl⟩:=rx;obtain⟨u,rfl,ru⟩:=rs.one;cases ru;obtain⟨its,rv,pl,_⟩:=I.list hq;exact join_list pl.isList (by simpa using YCw rv) hz λt' k=>⟨.str _,H,I.tok _,⟨_,Z⟩,q⟩
theorem YEz:SlR X (λx lo hi H Q=>∃z,x=.str z/\z.length<=sizeLine/\Q (.str (Txt.slice z lo hi)) H):=by
 intro pins s σ H x v vl vu lo hi sl Q I rx hs pl pu h;obtain⟨z,rfl,hz,q⟩:=h;obtain⟨t,rfl⟩:=rx;refine⟨"str",_,F.slot_str_getitem.lookup,typeIs_str _ _ _,?_⟩;have fin:∀(t':Tok) (k:Nat),EP X pins σ Q (.str (Txt.slice z lo hi) t') { s with toks:=k }:=λt' k=>⟨.str _,H,I.tok _,⟨_,Z⟩,q⟩
 obtain⟨o,ho,hc,hd⟩:=hs;cases pl with
 |none=>
  cases pu with
  |none=>exact wpAny_getItem_str_slice (l:=none) (u:=none) (st:=none) ⟨o,ho,hc,hd⟩ rfl (post_val_or_str ⟨YLU (Txt.slice_le z _ _) hz,fin⟩)
  |int j uj=>exact wpAny_getItem_str_slice (l:=none) (u:=some (j,uj)) (st:=none) ⟨o,ho,hc,hd⟩ rfl (post_val_or_str ⟨YLU (Txt.slice_le z _ _) hz,fin⟩)
 |int i ui=>
  cases pu with
  |none=>exact wpAny_getItem_str_slice (l:=some (i,ui)) (u:=none) (st:=none) ⟨o,ho,hc,hd⟩ rfl (post_val_or_str ⟨YLU (Txt.slice_le z _ _) hz,fin⟩)
  |int j uj=>exact wpAny_getItem_str_slice (l:=some (i,ui)) (u:=some (j,uj)) (st:=none) ⟨o,ho,hc,hd⟩ rfl (post_val_or_str ⟨YLU (Txt.slice_le z _ _) hz,fin⟩)
theorem YEC:OpR X (compareOp .LtE) (λx y H Q=>∃i j,x=.str i/\y=.str j/\Q (.bl (!decide (j.cps.toList < i.cps.toList))) H):=by
 intro pins s σ H x y v u Q I rx ry h;obtain⟨i,j,rfl,rfl,q⟩:=h;obtain⟨t,rfl⟩:=rx;obtain⟨t',rfl⟩:=ry;exact PySem.P.le_str (Yn I q rfl)
def clsV:V->Option Value
 |.ty n=>some (.type n)
 |.ref a=>some (.ref a)
 |_=>none
theorem YJ0 {c:V}{u w:Value} (h:clsV c=some u) (r:Yk c w):w=u:=by
 cases c with
 |ty n=>cases h;exact r
 |ref a=>cases h;exact r
 |_=>cases h
theorem YJ1:Jp X (.builtin "isinstance") (λxs H Q=>∃x c t u b,xs=[x,c]/\YA7 X.K H x t/\clsV c=some u/\PySem.W.kitOne X.K t u=some b/\Q (.bl b) H):=by
 intro pins s σ H xs us Q I r h;obtain⟨x,c,t,u,b,rfl,ty,rc,e,q⟩:=h;obtain⟨v,w,rfl,rv,qF⟩:=YHs r;have eu:w=u:=YJ0 rc qF;subst eu;exact YIr I rv ty e λtk=>⟨.bl b,H,I.tok tk,Z,q⟩
end
def YA9:HO->Bool
 |.dT _=>false
 |.frz _ (.dT _)=>true
 |.frz _ u=>YA9 u
 |_=>true
theorem Yp.less {P:Program}{w:World}{H H':Hp}{h h':Heap}{a:Addr}{o:HO} (hp:YA9 o=true) (x:Yp P w H' h' a o) (y:Yp P w H h a o):Yp P w H h' a o:=by
 induction o with
 |dT kvs=>cases hp
 |ins C dx fs=>exact⟨y.1,x.2⟩
 |frz ob u ih=>
  cases u with
  |dT kvs=>
   obtain⟨z1,z2,xs,z3,o,es,ep,z4,z5⟩:=y.2;have e:o=ob:=by
    have:=y.1;rw[z4]at this;exact YLP this
   subst e;exact⟨x.1,z1,z2,xs,z3,o,es,ep,x.1,z5⟩
  |_=>exact⟨x.1,ih hp x.2 y.2⟩
 |lst xs=>exact x
 |tup xs=>exact x
 |dK kvs=>exact x
 |set S n=>exact x
 |own z=>exact x
 |xd fs=>exact x
 |rng lo hi=>exact x
 |tbl ps=>exact x
 |met f z=>exact x
 |ext φ=>exact x
section
variable {X:Cx}{pins:List (Addr×Obj)}{σ:St}{H H':Hp}{s s':Shared}
theorem Inv.less (hp:∀a o,H a=some o->YA9 o=true) (I:Inv X pins σ H s) (I':Inv X pins σ H' s') (sm:YJ H H'):Inv X pins σ H s':=
 ⟨I.ok,I'.os,I'.bare,⟨I'.base.keep,I'.base.slot,I.base.free,I'.base.there,I.base.tups,I.base.frzs,I.base.tbls⟩,I'.loc,I'.cell,I.free,I.freeC,λp jV=>⟨(I'.pin p jV).1,(I.pin p jV).2⟩,
  λa o ea=>(I'.hok a o (sm a o ea)).less (hp a o ea) (I.hok a o ea),I.len⟩
def YL (H:Hp):Prop:=∀a o,H a=some o->YA9 o=true
theorem YL.upd {H:Hp}{a:Addr}{o:HO} (h:YL H) (ho:YA9 o=true):YL (upd H a o):=λb u e=>by
 by_cases hb:b=a
 ·subst hb;rw[YC]at e;cases e;exact ho
 ·rw[YH hb]at e;exact h b u e
inductive YJ2 (t:TE) (σ:St) (H:Hp) (Q:VK):Prop where
 |mk (aX:YL H) (aY:t σ H λv H'=>YJ H H'/\Q v H):YJ2 t σ H Q
def tPure (t:TE):TE:=λσ H Q=>YJ2 t σ H Q
theorem YBS {e:Expr}{t:TE} (h:PE X e t):PE X e (tPure t):=by
 intro pins s σ H Q I ⟨hp,hw⟩;exact thn (h pins s σ H _ I hw) λv s1 ⟨x,H1,I1,r1,sm,q⟩=>⟨x,H,I.less hp I1 sm,r1,q⟩
end
end L2
namespace L2
open PySem PySem.Spec PyProof.Rows
section
variable {prog:Program}{w:World}{A:Around}{E:Value->Shared->Prop}{s:Shared}{K:W.Frag}{e C:Addr}
end
section
variable {X:Cx}
end
end L2
namespace L2
open PySem PySem.Spec PyProof.Rows
section
variable {X:Cx} (K:W.Frag) (hK:X.K=K)
include hK
theorem YX:IxR X (rIxL K):=by subst hK;exact ix_list
theorem YN:IxR X (rIxT K):=by subst hK;exact ix_tup
theorem YCx:SlR X (rSlL K):=by subst hK;exact sl_list
theorem Yg:Jp X (.builtin "len") (λxs H Q=>∃p ys,xs=[.ref p]/\(SqL K H p ys\/SqT K H p ys)/\Q (.int ys.length) H):=by subst hK;exact YEu
theorem Xg:Jp X (.type "list") (λxs H Q=>∃p ys,xs=[.ref p]/\(SqL K H p ys\/SqT K H p ys)/\∀l,H l=none->Q (.ref l) (upd H l (.lst ys))):=by subst hK;exact YEv
theorem YCy:Jp X (.type "tuple") (λxs H Q=>∃p ys,xs=[.ref p]/\((SqL K H p ys/\∀l,H l=none->Q (.ref l) (upd H l (.tup ys)))\/(SqT K H p ys/\Q (.ref p) H))):=by subst hK;exact YDe
theorem Xs (hc:X.calm=true):Jp X (.builtin "all") (λxs H Q=>∃(p:Addr) (bs:List Bool),xs=[.ref p]/\SqL K H p (bs.map V.bl)/\Q (.bl (bs.all id)) H):=by subst hK;exact YJz hc
theorem Z3:Jp X (.builtin "isinstance") (λxs H Q=>∃x c t u b,xs=[x,c]/\YA7 K H x t/\clsV c=some u/\PySem.W.kitOne K t u=some b/\Q (.bl b) H):=by subst hK;exact YJ1
theorem YJ3:MtR X "str.join" (rJoin K):=by subst hK;exact mt_join
theorem JU {tg l:Expr}{tl:TE} (hl:PE X l tl):PI X tg l (iList K tl):=by subst hK;exact pi_list hl
theorem YBT {tg l:Expr}{tl:TE} (hl:PE X l tl):PI X tg l (iTup K tl):=by subst hK;exact pi_tup hl
theorem YED {a:Expr}{ta:TE} (ha:PE X a ta) (he:∀whole,isTrue a X.env whole=(do let v <-whole;standAt a.pos;holding [v] (truthy v))):
  PT X a (λσ H Q=>ta σ H λx H'=>∃k,TruV K x H' k/\Q k H'):=by subst hK;exact YJe ha he
theorem Jl {es:List Expr}{k:Nat}{t:TGs}{n:Nat}{pos:Pos} (hc:X.calm=true) (h:PGs X es t)
  (hn:(assignEach es X.env).length=n:=by rfl) (hst:(assignEach es X.env).findIdx? (·.1)=none:=by rfl):PG X (.Tuple es k pos) (gTup K n t):=by subst hK;exact pg_tup hc h hn hst
variable {o e:Expr}{es:List Expr}{to:TE}{t:TA}{name:Str}{cg bw:Pos}{T id:String}{r:V->List V->Hp->VK->Prop}
theorem YHz (pa:PlainAttrs T) (slot:Slot T name id) (uf:typeOf (.builtin id)=pure (.type "method_descriptor")) (hm:MtR X id r) (ho:PE X o to)
  (jH:attributeBase o name X.env (eval o X.env)=eval o X.env:=by rfl) (jJ:(cg.endLine == bw.line)=true:=by rfl):PE X (.Call (.Attribute o name cg) [] [] bw) (tBM0 K T r to):=by
 subst hK;exact pe_bm0 pa slot uf hm ho jH jJ
theorem Ze (pa:PlainAttrs T) (slot:Slot T name id) (uf:typeOf (.builtin id)=pure (.type "method_descriptor")) (hm:MtR X id r) (ho:PE X o to) (ha:PA X (e :: es) t)
  (jH:attributeBase o name X.env (eval o X.env)=eval o X.env:=by rfl)
  (u9:((backTo bw (starEach (e :: es) X.env)).all (λx=>!x.1) && (backToKw bw (keywordEach [] X.env)).all (λx=>x.1.isSome)
   && decide ((e :: es).length + ([]:List Keyword).length + (if ([]:List Keyword).isEmpty then 0 else 1) < 30))=true:=by rfl)
  (jJ:(cg.endLine == bw.line)=true:=by rfl) (hs:starEach (e :: es) X.env=(false,eval e X.env) :: starEach es X.env:=by rfl) (jK:(backTo bw (starEach es X.env)).any (·.1)=false:=by rfl):
  PE X (.Call (.Attribute o name cg) (e :: es) [] bw) (tBM K T r to t):=by
 subst hK;exact pe_bm pa slot uf hm ho ha jH u9 jJ hs jK
end
end L2
namespace L2
open PySem PySem.Spec PyProof.Rows
section
variable {P:Program}{w:World}{K:W.Frag}{mg:Str->Option Value}{base:Heap}
theorem Fun.okX {x qual:Str}{st:Stmt}{f:Addr}{fd:FuncData}{N ps:List Str}{k:Nat}{sp:Sp} (F:Fun K x qual st f fd) (S:YW N ps (YK st)) (len:∀vs H Q E,sp vs H Q E->vs.length=ps.length)
  (hbody:∀(aO:Value) (A:Around) (outer:List Env) (s:Shared) (H:Hp) (vs:List V) (Q:VK) (E:XK),Jq k (A.deeper (envOfC qual (YK st) s.heap.objs.size f aO))->sp vs H Q E->
   ∃t,PSs (YBq (CXo P w) P w K mg base N qual (YK st) f aO A outer s H E) (Z1 st) t/\t { nx:=λ_ H'=>Q .non H',rt:=Q } (start N vs) H):Yw P w K mg base (CXo P w) (k + 1) f fd ps sp:=by
 obtain⟨oc,od,kV,doc,pm,an,aO,ct,osl,rfl,lk,hcd⟩:=F.ex;exact fn_of lk hcd S len λA outer s H vs Q E hr hsp=>hbody aO A outer s H vs Q E hr hsp
end
structure Zx (P:Program) (w:World) (K:W.Frag) (mg:Str->Option Value) (CX:CXT) (k:Nat) (x:Str) (ps:List Str) (sp:Sp):Prop where
 ok:∃f fd,(∀base,Yw P w K mg base CX k f fd ps sp)/\mg x=some (.ref f)/\PySem.W.keepIn K (.ref f)=true/\YAH K fd ps []
theorem passX {X:Cx}:X9 (CXo X.prog X.w) X E0:=λ_ _ _ _ _ _ _ ⟨_,_,_,_,_,h⟩=>h.elim
theorem YJ.upd {H:Hp}{p:Addr}{o:HO} (h:H p=none):YJ H (upd H p o):=λb u e=>by rw[YH (YV e h)];exact e
theorem YJ.put {H H':Hp}{p:Addr}{o:HO} (s:YJ H H') (h:H p=none):YJ H (L2.upd H' p o):=λb u e=>by rw[YH (YV e h)];exact s b u e
def del (H:Hp) (l:Addr):Hp:=λb=>if b=l then none else H b
theorem Z8 {H:Hp}{l b:Addr} (h:b≠l):del H l b=H b:=if_neg h
theorem YFk {H:Hp}{l:Addr}:del H l l=none:=if_pos rfl
theorem ZI (H:Hp) (l:Addr):YJ (del H l) H:=λb o e=>by
 unfold del at e;split at e
 ·cases e
 ·exact e
theorem YJ.del {H H':Hp} (s:YJ H H') (l:Addr):YJ (L2.del H l) (L2.del H' l):=λb o e=>by
 unfold L2.del at e ⊢;split at e
 ·cases e
 ·rw[if_neg (by assumption)];exact s b o e
theorem YAA {H:Hp}{l:Addr}{o:HO}:L2.del (L2.upd H l o) l=L2.del H l:=by
 funext b;unfold L2.del L2.upd;split <;> rfl
theorem YH0 {J:It}{g:TG}{tc:TT}{te:TE}{Q:VK}{l:Addr}{τ:St}{H1:Hp} (n:Nat) (W:Nat->List V->St->Hp->Prop) (h0:W 0 [] τ (upd H1 l (.lst [])))
  (hgo:∀i ys τ H (N:List V->St->Hp->Prop),i < n->W i ys τ H->(∀ys τ H,W (i + 1) ys τ H->N ys τ H)->J.go i H/\∀x H3,J.yld i H x H3->g x τ H3 λτ4 H4=>tc τ4 H4 λb H5=>
   if b=true then te τ4 H5 λy H6=>H6 l=some (.lst ys)/\ys.length < sizeLine/\N (ys ++ [y]) τ4 (upd H6 l (.lst (ys ++ [y]))) else N ys τ4 H5)
  (hst:∀ys τ H,W n ys τ H->J.stop n H/\Q (.ref l) H):YA8 J g tc te Q l τ H1:=by
 refine⟨λi m ys τ H=>m=n - i/\i<=n/\W i ys τ H,⟨n,by simp,YLS _,h0⟩,?_⟩;rintro i m ys τ H ⟨rfl,hi,w⟩
 by_cases hlt:i < n
 ·exact .inr (hgo i ys τ H (λys τ H=>∃m',m' < n - i/\m'=n - (i + 1)/\i + 1<=n/\W (i + 1) ys τ H) hlt w λys τ H h=>⟨n - (i + 1),by lia,Z,hlt,h⟩)
 ·have ei:i=n:=by lia
  subst ei;exact .inl (hst ys τ H w)
def YAU (J:It) (n:Nat) (H:Hp) (item:Nat->V->Prop):Prop:=∀i H',YJ H H'->(i < n->J.go i H'/\∀x H3,J.yld i H' x H3->H3=H'/\item i x)/\J.stop n H'
theorem YCz {K:W.Frag}{a:Addr}{xs:List V}{H:Hp} (h:SqL K H a xs):YAU (Itl K a) xs.length H λi x=>xs[i]?=some x:=λi H' s=>by
 have h':=s.seq h;exact⟨λhi=>⟨⟨xs,xs[i],h',by simp[hi]⟩,λx H3 y=>⟨y.1,y.2 xs h'⟩⟩,⟨xs,h',YKv _⟩⟩
theorem YJ.seqT {K:W.Frag}{H H':Hp}{a:Addr}{xs:List V} (e:YJ H H') (h:SqT K H a xs):SqT K H' a xs:=by
 rcases h with (h |⟨o,h⟩) |h
 ·exact .inl (.inl (e _ _ h))
 ·exact .inl (.inr ⟨o,e _ _ h⟩)
 ·exact .inr h
theorem YEE {K:W.Frag}{a:Addr}{xs:List V}{H:Hp} (h:SqT K H a xs):YAU (Itt K a) xs.length H λi x=>xs[i]?=some x:=λi H' s=>by
 have h':=s.seqT h;exact⟨λhi=>⟨⟨xs,xs[i],h',by simp[hi]⟩,λx H3 y=>⟨y.1,y.2 xs h'⟩⟩,⟨xs,h',YKv _⟩⟩
theorem JQ {lo:Int}{n:Nat}{H:Hp}:YAU (Itr lo n) n H λi x=>x=.int (lo + i):=λi H' s=>
 ⟨λhi=>⟨hi,λx H3 y=>y⟩,YKv _⟩
theorem YIy {z:Str}{H:Hp}:YAU (Its z) z.cps.size H λi x=>∃c,z.cps[i]?=some c/\x=.str ⟨#[c]⟩:=λi H' s=>
 ⟨λhi=>⟨hi,λx H3 y=>y⟩,Z⟩
theorem Zi {J:It}{n:Nat}{item:Nat->V->Prop}{te:TE}{Q:VK}{H:Hp}{l:Addr}{τ:St} (j0:Nat) (Py:Nat->V->Hp->Prop) (hJ:YAU J n H item) (mono:∀k y H H',YJ H H'->Py k y H->Py k y H') (hp:YL H)
  (hl:H l=none) (hτ:j0 < τ.length) (hz:n<=sizeLine) (keep:St->Prop) (hk0:keep τ) (hks:∀τ' v,keep τ'->keep (τ'.set j0 v))
  (ht:∀(τ':St) (k:Nat) (x:V) (H':Hp) (R:VK),keep τ'->τ'[j0]?=some (some x)->item k x->k < n->YJ H H'->YL H'->H' l≠none->(∀y H6,YJ H' H6->YL H6->Py k y (del H6 l)->R y H6)->te τ' H' R)
  (hq:∀ys H',ys.length=n->(∀k y,ys[k]?=some y->Py k y (del H' l))->YJ H H'->YL H'->H' l=some (.lst ys)->Q (.ref l) H'):YA8 J (Yu j0) tYes te Q l τ H:=by
 refine⟨λi m ys τ' H2=>m=n - i/\i<=n/\ys.length=i/\(∀k y,ys[k]?=some y->Py k y (del H2 l))/\j0 < τ'.length/\keep τ'/\YJ H H2/\YL H2/\H2 l=some (.lst ys),
  ⟨n,by simp,YLS _,Z,λk y e=>by simp at e,hτ,hk0,YJ.upd hl,hp.upd rfl,YC⟩,?_⟩
 rintro i m ys τ' H2 ⟨rfl,hi,hy,hP,hτ',hk',hs,hpl,hll⟩;obtain⟨hgo,hst⟩:=hJ i H2 hs
 by_cases hlt:i < n
 ·obtain⟨h1,h2⟩:=hgo hlt;refine .inr ⟨h1,λx H3 Rt=>?_⟩;obtain⟨eH,hit⟩:=h2 x H3 Rt;subst eH;show te _ _ _;refine ht _ i x _ _ (hks _ _ hk') ?_ hit hlt hs hpl (by rw[hll];intro z;cases z) λy H6 s6 p6 py=>?_
  ·rw[YMS hτ']
  ·have sJ:H6 l=some (.lst ys):=s6 _ _ hll;refine⟨sJ,by lia,n - (i + 1),by lia,Z,hlt,by simp[hy],λk z e=>?_,by rw[YMQ];exact hτ',hks _ _ hk',(hs.trans s6).put hl,p6.upd rfl,YC⟩;rw[YAA]
   by_cases hkl:k < ys.length
   ·rw[YLx hkl]at e;exact mono k z _ _ (s6.del l) (hP k z e)
   ·rw[YLl (by lia)]at e;have hk0:k - ys.length=0:=by
     cases hh:k - ys.length with
     |zero=>rfl
     |succ j=>rw[hh]at e;simp at e
    rw[hk0]at e;have e2:y=z:=by simpa using e
    have e3:k=i:=by lia
    subst e2 e3;exact py
 ·have ei:i=n:=by lia
  subst ei;exact .inl ⟨hst,hq ys H2 hy hP hs hpl hll⟩
end L2
namespace L2
open PySem PySem.Spec PyProof.Rows
inductive D where
 |non |bl (b:Bool) |int (i:Int) |str (x:Str) |lst (xs:List D) |tup (xs:List D) |oth
mutual
def eqD:D->D->Bool
 |.non,.non=>true
 |.bl a,.bl b=>a == b
 |.bl a,.int b=>(if a then (1:Int) else 0) == b
 |.int a,.bl b=>a == (if b then (1:Int) else 0)
 |.int a,.int b=>a == b
 |.str a,.str b=>a == b
 |.lst xs,.lst ys=>YAx xs ys
 |.tup xs,.tup ys=>YAx xs ys
 |_,_=>false
def YAx:List D->List D->Bool
 |[],[]=>true
 |x :: xs,y :: ys=>eqD x y && YAx xs ys
 |_,_=>false
end
mutual
def D.dep:D->Nat
 |.lst xs=>YDh xs + 1
 |.tup xs=>YDh xs + 1
 |_=>0
def YDh:List D->Nat
 |[]=>0
 |x :: xs=>max x.dep (YDh xs)
end
mutual
def Den (H:Hp):V->D->Prop
 |v,.non=>v=.non
 |v,.bl b=>v=.bl b
 |v,.int i=>v=.int i
 |v,.str x=>v=.str x
 |v,.lst ds=>∃a xs,v=.ref a/\Rd H a (.lst xs)/\Ya H xs ds
 |v,.tup ds=>∃a xs,v=.ref a/\H a=some (.tup xs)/\Ya H xs ds
 |v,.oth=>∃a kvs,v=.ref a/\H a=some (.dK kvs)
def Ya (H:Hp):List V->List D->Prop
 |[],[]=>True
 |v :: vs,d :: ds=>Den H v d/\Ya H vs ds
 |_,_=>False
end
mutual
def D.ok:D->Bool
 |.lst xs=>okS xs
 |.tup xs=>okS xs
 |.oth=>false
 |_=>true
def okS:List D->Bool
 |[]=>true
 |x :: xs=>x.ok && okS xs
end
theorem YBU:∀{xs:List D}{d:D},okS xs=true->d∈xs->d.ok=true
 |x :: xs,d,h,hd=>by
  unfold okS at h;rw[YLC]at h;rcases YLB.mp hd with rfl |hd
  ·exact h.1
  ·exact YBU h.2 hd
theorem YJ4:∀{xs:List D},(∀d∈xs,d.ok=true)->okS xs=true
 |[],_=>by unfold okS;rfl
 |x :: xs,h=>by unfold okS;rw[h x YLJ,YJ4 λd hd=>h d (YLA _ hd)];rfl
theorem YE0:∀{xs:List D}{d:D},d∈xs->d.dep<=YDh xs
 |x :: xs,d,h=>by
  unfold YDh;rcases YLB.mp h with rfl |h
  ·exact Nat.le_max_left _ _
  ·exact YLU (YE0 h) (Nat.le_max_right _ _)
mutual
theorem Jr:∀d:D,d.ok=true->eqD d d=true
 |.non,_=>by unfold eqD;rfl
 |.bl b,_=>by unfold eqD;exact beq_self_eq_true b
 |.int i,_=>by unfold eqD;exact beq_self_eq_true i
 |.str x,_=>by unfold eqD;exact beq_self_eq_true x
 |.lst xs,h=>by unfold eqD;unfold D.ok at h;exact YBt xs h
 |.tup xs,h=>by unfold eqD;unfold D.ok at h;exact YBt xs h
 |.oth,h=>by unfold D.ok at h;cases h
theorem YBt:∀ds:List D,okS ds=true->YAx ds ds=true
 |[],_=>by unfold YAx;rfl
 |d :: ds,h=>by
  unfold okS at h;rw[YLC]at h;unfold YAx;rw[Jr d h.1,YBt ds h.2];rfl
end
theorem eqD_lst (xs ys:List D):eqD (.lst xs) (.lst ys)=YAx xs ys:=by unfold eqD;rfl
theorem YH1 (xs ys:List D):eqD (.tup xs) (.tup ys)=YAx xs ys:=by unfold eqD;rfl
theorem YC0:∀{xs ys:List D},xs.length≠ys.length->YAx xs ys=false
 |[],[],h=>absurd rfl h
 |[],_ :: _,_=>by unfold YAx;rfl
 |_ :: _,[],_=>by unfold YAx;rfl
 |x :: xs,y :: ys,h=>by
  unfold YAx;rw[YC0 (xs:=xs) (ys:=ys) λe=>h (by rw[YK6,YK6,e]),Bool.and_false]
theorem YC1:∀{xs ys:List D},xs.length=ys.length->YAx xs ys=(List.range xs.length).all λj=>eqD (xs.getD j .non) (ys.getD j .non)
 |[],[],_=>by unfold YAx;rfl
 |[],_ :: _,h=>by cases h
 |_ :: _,[],h=>by cases h
 |x :: xs,y :: ys,h=>by
  unfold YAx;rw[YC1 (xs:=xs) (ys:=ys) (Nat.succ.inj h),YK6,List.range_succ_eq_map,YMj,List.all_map];rfl
section
variable {H H':Hp}
theorem Ya.len:∀{xs:List V}{ds:List D},Ya H xs ds->xs.length=ds.length
 |[],[],_=>rfl
 |[],_ :: _,h=>by unfold Ya at h;exact h.elim
 |_ :: _,[],h=>by unfold Ya at h;exact h.elim
 |v :: vs,d :: ds,h=>by
  unfold Ya at h;rw[YK6,YK6,Ya.len h.2]
theorem Ya.get:∀{xs:List V}{ds:List D}{i:Nat}{v:V},Ya H xs ds->xs[i]?=some v->∃d,ds[i]?=some d/\Den H v d
 |[],_,i,v,_,e=>by simp at e
 |_ :: _,[],_,_,h,_=>by unfold Ya at h;exact h.elim
 |x :: xs,d :: ds,0,v,h,e=>by
  unfold Ya at h;simp at e;subst e;exact⟨d,Z,h.1⟩
 |x :: xs,d :: ds,i + 1,v,h,e=>by
  unfold Ya at h;exact Ya.get (i:=i) h.2 (by simpa using e)
theorem Ya.getD:∀{xs:List V}{ds:List D}{i:Nat}{d:D},Ya H xs ds->ds[i]?=some d->∃v,xs[i]?=some v/\Den H v d
 |_,[],i,v,_,e=>by simp at e
 |[],_ :: _,_,_,h,_=>by unfold Ya at h;exact h.elim
 |x :: xs,d :: ds,0,v,h,e=>by
  unfold Ya at h;simp at e;subst e;exact⟨x,Z,h.1⟩
 |x :: xs,d :: ds,i + 1,v,h,e=>by
  unfold Ya at h;exact Ya.getD (i:=i) h.2 (by simpa using e)
theorem Ya.nil:Ya H [] []:=by unfold Ya;trivial
theorem Ya.cons {v:V}{vs:List V}{d:D}{ds:List D} (h:Den H v d) (hs:Ya H vs ds):Ya H (v :: vs) (d :: ds):=by unfold Ya;exact⟨h,hs⟩
theorem Ya.append:∀{xs ys:List V}{ds es:List D},Ya H xs ds->Ya H ys es->Ya H (xs ++ ys) (ds ++ es)
 |[],_,[],_,_,h=>h
 |[],_,_ :: _,_,h,_=>by unfold Ya at h;exact h.elim
 |_ :: _,_,[],_,h,_=>by unfold Ya at h;exact h.elim
 |x :: xs,ys,d :: ds,es,h,h2=>by
  unfold Ya at h;exact .cons h.1 (Ya.append h.2 h2)
theorem Ya.of_all:∀{xs:List V}{ds:List D},xs.length=ds.length->(∀(i:Nat) (v:V) (d:D),xs[i]?=some v->ds[i]?=some d->Den H v d)->Ya H xs ds
 |[],[],_,_=>.nil
 |[],_ :: _,h,_=>by cases h
 |_ :: _,[],h,_=>by cases h
 |x :: xs,d :: ds,h,k=>.cons (k 0 x d rfl rfl) (Ya.of_all (Nat.succ.inj h) λi v e h1 h2=>k (i + 1) v e (by simpa using h1) (by simpa using h2))
theorem Den.lst {a:Addr}{xs:List V}{ds:List D} (h:Rd H a (.lst xs)) (hs:Ya H xs ds):Den H (.ref a) (.lst ds):=by unfold Den;exact⟨a,xs,Z,h,hs⟩
theorem Den.tup {a:Addr}{xs:List V}{ds:List D} (h:H a=some (.tup xs)) (hs:Ya H xs ds):Den H (.ref a) (.tup ds):=by unfold Den;exact⟨a,xs,Z,h,hs⟩
theorem Den.int (i:Int):Den H (.int i) (.int i):=by unfold Den;rfl
theorem Den.str (x:Str):Den H (.str x) (.str x):=by unfold Den;rfl
theorem Den.non:Den H .non .non:=by unfold Den;rfl
theorem Den.to_lst {v:V}{ds:List D} (h:Den H v (.lst ds)):∃a xs,v=.ref a/\Rd H a (.lst xs)/\Ya H xs ds:=by unfold Den at h;exact h
theorem Den.to_tup {v:V}{ds:List D} (h:Den H v (.tup ds)):∃a xs,v=.ref a/\H a=some (.tup xs)/\Ya H xs ds:=by unfold Den at h;exact h
theorem Den.to_int {v:V}{i:Int} (h:Den H v (.int i)):v=.int i:=by unfold Den at h;exact h
theorem Den.to_str {v:V}{i:Str} (h:Den H v (.str i)):v=.str i:=by unfold Den at h;exact h
theorem Ya.ints:∀(ns:List Int),Ya H (ns.map V.int) (ns.map D.int)
 |[]=>.nil
 |n :: ns=>.cons (.int n) (Ya.ints ns)
theorem Ya.strs:∀(ns:List Str),Ya H (ns.map V.str) (ns.map D.str)
 |[]=>.nil
 |n :: ns=>.cons (.str n) (Ya.strs ns)
theorem YJ.rd {a:Addr}{u:HO} (e:YJ H H') (h:Rd H a u):Rd H' a u:=by
 rcases h with h |⟨o,h⟩
 ·exact .inl (e _ _ h)
 ·exact .inr ⟨o,e _ _ h⟩
theorem Rd.inj {a:Addr}{xs ys:List V} (h:Rd H a (.lst xs)) (h':Rd H a (.lst ys)):xs=ys:=by
 rcases h with h |⟨o,h⟩ <;> rcases h' with h' |⟨o',h'⟩ <;> rw[h]at h' <;> cases h' <;> rfl
mutual
theorem Den.same (e:YJ H H'):∀{v:V}{d:D},Den H v d->Den H' v d
 |_,.non,h=>by unfold Den at h ⊢;exact h
 |_,.bl _,h=>by unfold Den at h ⊢;exact h
 |_,.int _,h=>by unfold Den at h ⊢;exact h
 |_,.str _,h=>by unfold Den at h ⊢;exact h
 |_,.lst ds,h=>by
  unfold Den at h ⊢;obtain⟨a,xs,e1,e2,e3⟩:=h;exact⟨a,xs,e1,e.rd e2,Ya.same e e3⟩
 |_,.tup ds,h=>by
  unfold Den at h ⊢;obtain⟨a,xs,e1,e2,e3⟩:=h;exact⟨a,xs,e1,e _ _ e2,Ya.same e e3⟩
 |_,.oth,h=>by
  unfold Den at h ⊢;obtain⟨a,kvs,e1,e2⟩:=h;exact⟨a,kvs,e1,e _ _ e2⟩
theorem Ya.same (e:YJ H H'):∀{vs:List V}{ds:List D},Ya H vs ds->Ya H' vs ds
 |[],[],h=>.nil
 |[],_ :: _,h=>by unfold Ya at h;exact h.elim
 |_ :: _,[],h=>by unfold Ya at h;exact h.elim
 |v :: vs,d :: ds,h=>by
  unfold Ya at h;exact .cons (Den.same e h.1) (Ya.same e h.2)
end
end
section
variable {X:Cx}{pins:List (Addr×Obj)}{σ:St}{H:Hp}{s:Shared}
mutual
theorem Den.uniq:∀{v:V}{d d':D},Den H v d->Den H v d'->d=d'
 |v,.non,d',h,h'=>by
  unfold Den at h;subst h;cases d' with
  |non=>rfl
  |lst es=>unfold Den at h';obtain⟨_,_,z,_⟩:=h';cases z
  |tup es=>unfold Den at h';obtain⟨_,_,z,_⟩:=h';cases z
  |oth=>unfold Den at h';obtain⟨_,_,z,_⟩:=h';cases z
  |_=>unfold Den at h';cases h'
 |v,.bl b,d',h,h'=>by
  unfold Den at h;subst h;cases d' with
  |bl c=>unfold Den at h';cases h';rfl
  |lst es=>unfold Den at h';obtain⟨_,_,z,_⟩:=h';cases z
  |tup es=>unfold Den at h';obtain⟨_,_,z,_⟩:=h';cases z
  |oth=>unfold Den at h';obtain⟨_,_,z,_⟩:=h';cases z
  |_=>unfold Den at h';cases h'
 |v,.int b,d',h,h'=>by
  unfold Den at h;subst h;cases d' with
  |int c=>unfold Den at h';cases h';rfl
  |lst es=>unfold Den at h';obtain⟨_,_,z,_⟩:=h';cases z
  |tup es=>unfold Den at h';obtain⟨_,_,z,_⟩:=h';cases z
  |oth=>unfold Den at h';obtain⟨_,_,z,_⟩:=h';cases z
  |_=>unfold Den at h';cases h'
 |v,.str b,d',h,h'=>by
  unfold Den at h;subst h;cases d' with
  |str c=>unfold Den at h';cases h';rfl
  |lst es=>unfold Den at h';obtain⟨_,_,z,_⟩:=h';cases z
  |tup es=>unfold Den at h';obtain⟨_,_,z,_⟩:=h';cases z
  |oth=>unfold Den at h';obtain⟨_,_,z,_⟩:=h';cases z
  |_=>unfold Den at h';cases h'
 |v,.lst ds,d',h,h'=>by
  obtain⟨a,xs,rfl,e2,e3⟩:=h.to_lst;cases d' with
  |lst es=>
   obtain⟨b,ys,z,f2,f3⟩:=h'.to_lst;cases z;have:=e2.inj f2;subst this;rw[Ya.uniq e3 f3]
  |tup es=>
   obtain⟨b,ys,z,f2,f3⟩:=h'.to_tup;cases z;rcases e2 with e2 |⟨o,e2⟩ <;> rw[e2]at f2 <;> cases f2
  |oth=>
   unfold Den at h';obtain⟨b,ys,z,f2⟩:=h';cases z;rcases e2 with e2 |⟨o,e2⟩ <;> rw[e2]at f2 <;> cases f2
  |_=>unfold Den at h';cases h'
 |v,.tup ds,d',h,h'=>by
  obtain⟨a,xs,rfl,e2,e3⟩:=h.to_tup;cases d' with
  |tup es=>
   obtain⟨b,ys,z,f2,f3⟩:=h'.to_tup;cases z;rw[e2]at f2;cases f2;rw[Ya.uniq e3 f3]
  |lst es=>
   obtain⟨b,ys,z,f2,f3⟩:=h'.to_lst;cases z;rcases f2 with f2 |⟨o,f2⟩ <;> rw[e2]at f2 <;> cases f2
  |oth=>
   unfold Den at h';obtain⟨b,ys,z,f2⟩:=h';cases z;rw[e2]at f2;cases f2
  |_=>unfold Den at h';cases h'
 |v,.oth,d',h,h'=>by
  unfold Den at h;obtain⟨a,kvs,rfl,e2⟩:=h;cases d' with
  |oth=>rfl
  |lst es=>
   obtain⟨b,ys,z,f2,f3⟩:=h'.to_lst;cases z;rcases f2 with f2 |⟨o,f2⟩ <;> rw[e2]at f2 <;> cases f2
  |tup es=>
   obtain⟨b,ys,z,f2,f3⟩:=h'.to_tup;cases z;rw[e2]at f2;cases f2
  |_=>unfold Den at h';cases h'
theorem Ya.uniq:∀{vs:List V}{ds es:List D},Ya H vs ds->Ya H vs es->ds=es
 |[],[],[],_,_=>rfl
 |[],_ :: _,_,h,_=>by unfold Ya at h;exact h.elim
 |[],_,_ :: _,_,h=>by unfold Ya at h;exact h.elim
 |_ :: _,[],_,h,_=>by unfold Ya at h;exact h.elim
 |_ :: _,_,[],_,h=>by unfold Ya at h;exact h.elim
 |v :: vs,d :: ds,e :: es,h,h'=>by
  unfold Ya at h h';rw[Den.uniq h.1 h'.1,Ya.uniq h.2 h'.2]
end
def tyD:D->String
 |.non=>"NoneType"
 |.bl _=>"bool"
 |.int _=>"int"
 |.str _=>"str"
 |.lst _=>"list"
 |.tup _=>"tuple"
 |.oth=>"dict"
theorem Den.ty {K:W.Frag}:∀{v:V}{d:D},Den H v d->YA7 K H v (.type (tyD d))
 |_,.non,h=>by unfold Den at h;subst h;exact .non
 |_,.bl b,h=>by unfold Den at h;subst h;exact .bl b
 |_,.int b,h=>by unfold Den at h;subst h;exact .int b
 |_,.str b,h=>by unfold Den at h;subst h;exact .str b
 |_,.lst ds,h=>by
  obtain⟨a,xs,rfl,e2 |⟨o,e2⟩,_⟩:=h.to_lst
  ·exact .lst e2
  ·exact .frz e2
 |_,.tup ds,h=>by
  obtain⟨a,xs,rfl,e2,_⟩:=h.to_tup;exact .tup e2
 |_,.oth,h=>by
  unfold Den at h;obtain⟨a,kvs,rfl,e2⟩:=h;exact .dK e2
theorem YH2 {ds:List D}{i:Nat}{d:D} (h:ds[i]?=some d):ds.getD i .non=d:=by
 rw[List.getD_eq_getElem?_getD,h];rfl
structure Cmp (A:Around) (s:Shared) (x y:Value) (b:Bool):Prop where
 eq:SeqAt.EqAt A s x y b
 rc:SeqAt.RcAt A s x y b
 ne:SeqAt.RcNeAt A s x y (!b)
theorem YH3 {A:Around}{xs ys:List V}{ds es:List D}{its c7:List Value} (h1:Ya H xs ds) (h2:Ya H ys es) (r1:Yf xs its) (r2:Yf ys c7)
  (ih:∀(d d':D) (v u:V) (x y:Value),d∈ds->d'∈es->Den H v d->Den H u d'->Yk v x->Yk u y->SeqAt.EqAt A s x y (eqD d d')):
  ∀j (q1:j < its.toArray.size) (q2:j < c7.toArray.size),SeqAt.EqAt A s its.toArray[j] c7.toArray[j] (eqD (ds.getD j .non) (es.getD j .non)):=by
 intro j q1 q2;have l1:=r1.length;have l2:=r2.length;have Wi:j < xs.length:=by rw[l1];simpa using q1
 have Wj:j < ys.length:=by rw[l2];simpa using q2
 obtain⟨d,hd,den⟩:=h1.get (i:=j) (YKx Wi);obtain⟨d',hd',Qn⟩:=h2.get (i:=j) (YKx Wj);obtain⟨u,hu,ru⟩:=r1.get (YKx Wi);obtain⟨u',hu',yc⟩:=r2.get (YKx Wj);rw[YH2 hd,YH2 hd'];have e1:its.toArray[j]=u:=by
  have:its.toArray[j]?=some u:=by simpa using hu
  rw[Array.getElem?_eq_getElem q1]at this;exact YLP this
 have e2:c7.toArray[j]=u':=by
  have:c7.toArray[j]?=some u':=by simpa using hu'
  rw[Array.getElem?_eq_getElem q2]at this;exact YLP this
 rw[e1,e2];exact ih d d' _ _ _ _ (YKw hd) (YKw hd') den Qn ru yc
theorem YAV {A:Around}{a b:Addr}{d d':D}{k:Bool} (hk:k=eqD d d') (hok:d.ok=true) (h1:Den H (.ref a) d) (h2:Den H (.ref b) d') (rc:SeqAt.RcAt A s (.ref a) (.ref b) k) (ne:SeqAt.RcNeAt A s (.ref a) (.ref b) (!k)):Cmp A s (.ref a) (.ref b) (eqD d d'):=by
 subst hk;refine⟨?_,rc,ne⟩
 by_cases hab:a=b
 ·subst hab;have:=h1.uniq h2;subst this;rw[Jr _ hok];exact .same _
 ·exact .of_refs hab rc
theorem cmp_D (I:Inv X pins σ H s):∀(n:Nat) (A:Around) (d d':D) (v u:V) (x y:Value),d.ok=true->d'.ok=true->d.dep<=n->A.units + n < cLine->Den H v d->Den H u d'->Yk v x->Yk u y->Cmp A s x y (eqD d d'):=by
 intro n
 induction n with
 |zero=>
  intro A d d' v u x y hok hok' hn hu h h' r r';have hu':A.units < cLine:=by lia
  cases d with
  |lst ds=>unfold D.dep at hn;lia
  |tup ds=>unfold D.dep at hn;lia
  |oth=>unfold D.ok at hok;cases hok
  |non=>
   unfold Den at h;subst h;cases r;cases d' with
   |non=>unfold Den at h';subst h';cases r';unfold eqD;exact⟨.same _,.none_none,.none_none⟩
   |bl b=>unfold Den at h';subst h';cases r';unfold eqD;exact⟨.none_bool _,.none_bool _,.none_bool _⟩
   |int b=>unfold Den at h';subst h';obtain⟨t,rfl⟩:=r';unfold eqD;exact⟨.none_int _ _,.none_int _ _,.none_int _ _⟩
   |str b=>unfold Den at h';subst h';obtain⟨t,rfl⟩:=r';unfold eqD;exact⟨.none_str _ _,.none_str _ _,.none_str _ _⟩
   |lst ds=>obtain⟨a,xs,rfl,e2,_⟩:=h'.to_lst;cases r';obtain⟨_,_,p,_⟩:=I.list (.inl e2);unfold eqD;exact⟨.none_list p.isList hu',.none_list p.isList hu',.none_list p.isList hu'⟩
   |tup ds=>obtain⟨a,xs,rfl,e2,_⟩:=h'.to_tup;cases r';obtain⟨_,_,p,_⟩:=I.tuple (.inl (.inl e2));unfold eqD;exact⟨.none_tuple p hu',.none_tuple p hu',.none_tuple p hu'⟩
   |oth=>unfold D.ok at hok';cases hok'
  |bl c=>
   unfold Den at h;subst h;cases r;cases d' with
   |non=>unfold Den at h';subst h';cases r';unfold eqD;exact⟨.bool_none _,.bool_none _,.bool_none _⟩
   |bl b=>unfold Den at h';subst h';cases r';unfold eqD;exact⟨.bool_bool _ _,.bool_bool _ _,.bool_bool _ _⟩
   |int b=>unfold Den at h';subst h';obtain⟨t,rfl⟩:=r';unfold eqD;exact⟨.bool_int _ _ _,.bool_int _ _ _,.bool_int _ _ _⟩
   |str b=>unfold Den at h';subst h';obtain⟨t,rfl⟩:=r';unfold eqD;exact⟨.bool_str _ _ _,.bool_str _ _ _,.bool_str _ _ _⟩
   |lst ds=>obtain⟨a,xs,rfl,e2,_⟩:=h'.to_lst;cases r';obtain⟨_,_,p,_⟩:=I.list (.inl e2);unfold eqD;exact⟨.bool_list _ p.isList hu',.bool_list _ p.isList hu',.bool_list _ p.isList hu'⟩
   |tup ds=>obtain⟨a,xs,rfl,e2,_⟩:=h'.to_tup;cases r';obtain⟨_,_,p,_⟩:=I.tuple (.inl (.inl e2));unfold eqD;exact⟨.bool_tuple _ p hu',.bool_tuple _ p hu',.bool_tuple _ p hu'⟩
   |oth=>unfold D.ok at hok';cases hok'
  |int c=>
   unfold Den at h;subst h;obtain⟨t,rfl⟩:=r;cases d' with
   |non=>unfold Den at h';subst h';cases r';unfold eqD;exact⟨.int_none _ _,.int_none _ _,.int_none _ _⟩
   |bl b=>unfold Den at h';subst h';cases r';unfold eqD;exact⟨.int_bool _ _ _,.int_bool _ _ _,.int_bool _ _ _⟩
   |int b=>unfold Den at h';subst h';obtain⟨t,rfl⟩:=r';unfold eqD;exact⟨.int_int _ _ _ _,.int_int _ _ _ _,.int_int _ _ _ _⟩
   |str b=>unfold Den at h';subst h';obtain⟨t,rfl⟩:=r';unfold eqD;exact⟨.int_str _ _ _ _,.int_str _ _ _ _,.int_str _ _ _ _⟩
   |lst ds=>obtain⟨a,xs,rfl,e2,_⟩:=h'.to_lst;cases r';obtain⟨_,_,p,_⟩:=I.list (.inl e2);unfold eqD;exact⟨.int_list _ _ p.isList hu',.int_list _ _ p.isList hu',.int_list _ _ p.isList hu'⟩
   |tup ds=>obtain⟨a,xs,rfl,e2,_⟩:=h'.to_tup;cases r';obtain⟨_,_,p,_⟩:=I.tuple (.inl (.inl e2));unfold eqD;exact⟨.int_tuple _ _ p hu',.int_tuple _ _ p hu',.int_tuple _ _ p hu'⟩
   |oth=>unfold D.ok at hok';cases hok'
  |str c=>
   unfold Den at h;subst h;obtain⟨t,rfl⟩:=r;cases d' with
   |non=>unfold Den at h';subst h';cases r';unfold eqD;exact⟨.str_none _ _,.str_none _ _,.str_none _ _⟩
   |bl b=>unfold Den at h';subst h';cases r';unfold eqD;exact⟨.str_bool _ _ _,.str_bool _ _ _,.str_bool _ _ _⟩
   |int b=>unfold Den at h';subst h';obtain⟨t,rfl⟩:=r';unfold eqD;exact⟨.str_int _ _ _ _,.str_int _ _ _ _,.str_int _ _ _ _⟩
   |str b=>unfold Den at h';subst h';obtain⟨t,rfl⟩:=r';unfold eqD;exact⟨.str_str _ _ _ _,.str_str _ _ _ _,.str_str _ _ _ _⟩
   |lst ds=>obtain⟨a,xs,rfl,e2,_⟩:=h'.to_lst;cases r';obtain⟨_,_,p,_⟩:=I.list (.inl e2);unfold eqD;exact⟨.str_list _ _ p.isList hu',.str_list _ _ p.isList hu',.str_list _ _ p.isList hu'⟩
   |tup ds=>obtain⟨a,xs,rfl,e2,_⟩:=h'.to_tup;cases r';obtain⟨_,_,p,_⟩:=I.tuple (.inl (.inl e2));unfold eqD;exact⟨.str_tuple _ _ p hu',.str_tuple _ _ p hu',.str_tuple _ _ p hu'⟩
   |oth=>unfold D.ok at hok';cases hok'
 |succ n ih=>
  intro A d d' v u x y hok hok' hn hu h h' r r';have hu':A.units < cLine:=by lia
  have hin:A.in1.units + n < cLine:=by show A.units + 1 + n < cLine;lia
  cases d with
  |lst ds=>
   have hn':∀d∈ds,d.dep<=n:=λd hd=>by
    have h1:=YE0 hd;unfold D.dep at hn
    lia
   obtain⟨a,xs,rfl,e2,e3⟩:=h.to_lst;cases r;obtain⟨its,r1,p,_⟩:=I.list (.inl e2);cases d' with
   |oth=>unfold D.ok at hok';cases hok'
   |non=>unfold Den at h';subst h';cases r';unfold eqD;exact⟨.list_none p.isList hu',.list_none p.isList hu',.list_none p.isList hu'⟩
   |bl b=>unfold Den at h';subst h';cases r';unfold eqD;exact⟨.list_bool _ p.isList hu',.list_bool _ p.isList hu',.list_bool _ p.isList hu'⟩
   |int b=>unfold Den at h';subst h';obtain⟨t,rfl⟩:=r';unfold eqD;exact⟨.list_int _ _ p.isList hu',.list_int _ _ p.isList hu',.list_int _ _ p.isList hu'⟩
   |str b=>unfold Den at h';subst h';obtain⟨t,rfl⟩:=r';unfold eqD;exact⟨.list_str _ _ p.isList hu',.list_str _ _ p.isList hu',.list_str _ _ p.isList hu'⟩
   |tup es=>obtain⟨b,ys,rfl,f2,f3⟩:=h'.to_tup;cases r';obtain⟨_,_,p2,_⟩:=I.tuple (.inl (.inl f2));unfold eqD;exact⟨.list_tuple p.isList p2 hu',.list_tuple p.isList p2 hu',.list_tuple p.isList p2 hu'⟩
   |lst es=>
    have qW:=hok;have qX:=hok';unfold D.ok at qW qX;obtain⟨b,ys,rfl,f2,f3⟩:=h'.to_lst;cases r';obtain⟨c7,r2,p2,_⟩:=I.list (.inl f2);have n1:its.toArray.size=ds.length:=by rw[YK9,<-r1.length,e3.len]
    have n2:c7.toArray.size=es.length:=by rw[YK9,<-r2.length,f3.len]
    by_cases hl:ds.length=es.length
    ·have items:=YH3 (A:=A.in1) e3 f3 r1 r2 λd d' v u x y hd hd' q1 q2 q3 q4=>(ih A.in1 d d' v u x y (YBU qW hd) (YBU qX hd') (hn' d hd) hin q1 q2 q3 q4).eq
     refine YAV (k:=(List.range its.toArray.size).all λj=>eqD (ds.getD j .non) (es.getD j .non)) ?_ hok h h' (.lists p.isList p2.isList (by rw[n1,n2,hl]) hu' items) (.lists p.isList p2.isList (by rw[n1,n2,hl]) hu' items);rw[n1,<-YC1 hl,eqD_lst]
    ·refine YAV (k:=false) ?_ hok h h' (.lists_lengths p.isList p2.isList (by rw[n1,n2];simpa using hl) hu') (.lists_lengths p.isList p2.isList (by rw[n1,n2];simpa using hl) hu');unfold eqD;rw[YC0 hl]
  |tup ds=>
   have hn':∀d∈ds,d.dep<=n:=λd hd=>by
    have h1:=YE0 hd;unfold D.dep at hn
    lia
   obtain⟨a,xs,rfl,e2,e3⟩:=h.to_tup;cases r;obtain⟨its,r1,p,_⟩:=I.tuple (.inl (.inl e2));cases d' with
   |oth=>unfold D.ok at hok';cases hok'
   |non=>unfold Den at h';subst h';cases r';unfold eqD;exact⟨.tuple_none p hu',.tuple_none p hu',.tuple_none p hu'⟩
   |bl b=>unfold Den at h';subst h';cases r';unfold eqD;exact⟨.tuple_bool _ p hu',.tuple_bool _ p hu',.tuple_bool _ p hu'⟩
   |int b=>unfold Den at h';subst h';obtain⟨t,rfl⟩:=r';unfold eqD;exact⟨.tuple_int _ _ p hu',.tuple_int _ _ p hu',.tuple_int _ _ p hu'⟩
   |str b=>unfold Den at h';subst h';obtain⟨t,rfl⟩:=r';unfold eqD;exact⟨.tuple_str _ _ p hu',.tuple_str _ _ p hu',.tuple_str _ _ p hu'⟩
   |lst es=>obtain⟨b,ys,rfl,f2,f3⟩:=h'.to_lst;cases r';obtain⟨_,_,p2,_⟩:=I.list (.inl f2);unfold eqD;exact⟨.tuple_list p p2.isList hu',.tuple_list p p2.isList hu',.tuple_list p p2.isList hu'⟩
   |tup es=>
    have qW:=hok;have qX:=hok';unfold D.ok at qW qX;obtain⟨b,ys,rfl,f2,f3⟩:=h'.to_tup;cases r';obtain⟨c7,r2,p2,_⟩:=I.tuple (.inl (.inl f2));have n1:its.toArray.size=ds.length:=by rw[YK9,<-r1.length,e3.len]
    have n2:c7.toArray.size=es.length:=by rw[YK9,<-r2.length,f3.len]
    have items:=YH3 (A:=A.in1) e3 f3 r1 r2 λd d' v u x y hd hd' q1 q2 q3 q4=>(ih A.in1 d d' v u x y (YBU qW hd) (YBU qX hd') (hn' d hd) hin q1 q2 q3 q4).eq
    refine YAV (k:=(List.range (min its.toArray.size c7.toArray.size)).all (λj=>eqD (ds.getD j .non) (es.getD j .non)) && its.toArray.size == c7.toArray.size) ?_ hok h h' (.tuples p p2 hu' items) (.tuples p p2 hu' items);rw[n1,n2,YH1]
    by_cases hl:ds.length=es.length
    ·rw[YC1 hl,<-hl,Nat.min_self,beq_self_eq_true,Bool.and_true]
    ·rw[YC0 hl,beq_eq_false_iff_ne.mpr hl,Bool.and_false]
  |oth=>unfold D.ok at hok;cases hok
  |non=>exact ih A .non d' v u x y hok hok' (by unfold D.dep;lia) (by lia) h h' r r'
  |bl b=>exact ih A (.bl b) d' v u x y hok hok' (by unfold D.dep;lia) (by lia) h h' r r'
  |int b=>exact ih A (.int b) d' v u x y hok hok' (by unfold D.dep;lia) (by lia) h h' r r'
  |str b=>exact ih A (.str b) d' v u x y hok hok' (by unfold D.dep;lia) (by lia) h h' r r'
theorem YBA (K:W.Frag) (hK:X.K=K) (hu:X.A.units + 64 < cLine):OpR X (compareOp .Eq) (λx y H Q=>∃d d',Den H x d/\Den H y d'/\d.ok=true/\d'.ok=true/\d.dep<=64/\Q (.bl (eqD d d')) H):=by
 subst hK;intro pins s σ H x y v u Q I rx ry h;obtain⟨d,d',h1,h2,k1,k2,hd,q⟩:=h;exact(cmp_D I 64 X.A d d' x y v u k1 k2 hd hu h1 h2 rx ry).rc X.prog X.w _ _ ⟨.bl _,H,I,Z,q⟩
theorem YAB (K:W.Frag) (hK:X.K=K) (hu:X.A.units + 64 < cLine):OpR X (compareOp .NotEq) (λx y H Q=>∃d d',Den H x d/\Den H y d'/\d.ok=true/\d'.ok=true/\d.dep<=64/\Q (.bl (!eqD d d')) H):=by
 subst hK;intro pins s σ H x y v u Q I rx ry h;obtain⟨d,d',h1,h2,k1,k2,hd,q⟩:=h;exact(cmp_D I 64 X.A d d' x y v u k1 k2 hd hu h1 h2 rx ry).ne X.prog X.w _ _ ⟨.bl _,H,I,Z,q⟩
end
end L2
namespace L2
open PySem PySem.Spec PyProof.Rows
section
variable {X:Cx}{pins:List (Addr×Obj)}{σ:St}{H:Hp}{s:Shared}{h':Heap}
theorem Inv.turns {t':Nat}{ch:List Addr} (I:Inv X pins σ H s) (k:∀b o,b∉ch->s.heap.get? b=some o->h'.get? b=some o) (hf:∀b∈ch,YAO X pins H b):Inv X pins σ H { s with heap:=h',toks:=t' }:=by
 have nit:∀b u,H b=some u->b∉ch:=λb u e z=>by rw[(hf b z).1]at e;cases e
 refine I.step (g':=s.gens) (d':=s.drawn) (ch:=ch) (λb hb=>⟨(hf b hb).2.2.2.1,(hf b hb).2.1,(hf b hb).2.2.2.2.1,(hf b hb).2.2.2.2.2⟩) (λb o _ _ hc e _=>k b o hc e) (λb o _ _ hc e _=>⟨o.slots,k b o hc e⟩) (λ_ _ _ _ n=>n)
  (λb o hc e=>⟨o,k b o hc e⟩) (λ_ _ e=>e) (λ_ _ _ e=>e) (λb ps e=>⟨#[],by rw[e];simp⟩) (λm hm=>?_) (λb u e=>?_) I.bare
 ·obtain⟨o,es,ep,ho,r⟩:=hm;exact⟨o,es,ep,k _ o (λz=>(hf _ z).2.1 rfl) ho,r⟩
 ·refine(I.hok b u e).stay (λc v hc q=>k c v ?_ q) (λ_ q=>q) λ_ _ q=>q
  rcases hc with z |z
  ·rw[z];exact nit b u e
  ·exact nit c _ z
theorem Inv.trackT {T:Addr}{xs:List V}{its:List Value} (I:Inv X pins σ H s) (new:H T=none) (ht:IsTup s.heap T its.toArray) (rv:Yf xs its) (hz:xs.length<=sizeLine) (hs:∀o,X.s₀.heap.get? T≠some o) (hp:∀p∈X.pn ++ pins,p.1≠T):
  Inv X pins σ (upd H T (.tup xs)) s:=by
 obtain⟨ot,Wk,hct,nt,hdt⟩:=id ht;have hL:X.env.locals≠T:=λz=>by
  obtain⟨m,⟨o,es,ep,ho,hd',_⟩,_⟩:=I.loc;rw[z,Wk]at ho;cases ho;rw[hdt]at hd';cases hd'
 have hC:∀x c,X.env.cells.lookup x=some c->c≠T:=λx c h1 z=>by
  obtain⟨v,o,ho,hd'⟩:=I.cell x c h1;rw[z,Wk]at ho;cases ho;rw[hdt]at hd';cases hd'
 refine⟨I.ok,I.os,I.bare,?_,I.loc,I.cell,by rw[YH hL];exact I.free,λx c h1=>by rw[YH (hC x c h1)];exact I.freeC x c h1,λp hp'=>?_,λa o ea=>?_,I.len⟩
 ·exact⟨I.base.keep,I.base.slot,λb o q n hx=>by rw[YH (λz=>hs o (by rw[<-z];exact q))];exact I.base.free b o q n hx,I.base.there,
   λb xs q=>by have z:=I.base.tups b xs q;rw[YH (YV z new)];exact z,λb ob u q=>by have z:=I.base.frzs b ob u q;rw[YH (YV z new)];exact z,
   λb ps q=>by obtain⟨mo,z⟩:=I.base.tbls b ps q;exact⟨mo,by rw[YH (YV z new)];exact z⟩⟩
 ·obtain⟨p1,p2,p3⟩:=I.pin p hp';exact⟨p1,by rw[YH (hp p hp')];exact p2,p3⟩
 ·by_cases ha:a=T
  ·subst ha;rw[YC]at ea;cases ea;exact⟨hz,its,rv,ht⟩
  ·rw[YH ha]at ea;exact(I.hok a o ea).stay (λ_ _ _ q=>q) (λb q=>by rw[YH (YV q new)];exact q) λb xs q=>by rw[YH (YV q new)];exact q
end
def Ite (K:W.Frag) (a:Addr):It:=
 ⟨λi H=>∃xs x,SqL K H a xs/\xs[i]?=some x,λi H v H'=>∃T,H T=none/\v=.ref T/\∀xs,SqL K H a xs->∃x,xs[i]?=some x/\H'=upd H T (.tup [.int i,x]),λi H=>∃xs,SqL K H a xs/\xs.length<=i⟩
theorem YIz {P:Program}{w:World}{K:W.Frag}{jL:List Expr}{k:Nat}{pos:Pos} (a e it:Addr):
  YEp P w K (.Tuple jL k pos) (Ite K a) [e,it] e (λi h=>(∃old,IsEnum h e it (i:Nat) old)/\h.IsListIter it a i/\e≠it) where
 mem:=by simp
 obj:=λi h st b hb=>by
  obtain⟨⟨old,he⟩,⟨o,eo,c,d⟩,_⟩:=st;rcases YLB.mp hb with rfl |hb
  ·exact⟨_,he,λv z=>by cases z⟩
  ·have eb:b=it:=by simpa using hb
   subst eb;exact⟨o,eo,λv z=>by rw[d]at z;cases z⟩
 keep:=λi h h' st k=>by
  obtain⟨⟨old,he⟩,hit,hne⟩:=st;exact⟨⟨old,k e (by simp) _ he⟩,hit.at λo x=>k it (by simp) o x,hne⟩
 item:=by
  intro X hP hw hK hc i pins s σ H E I hf st hg;subst hP hw hK;obtain⟨⟨old,he⟩,hit,hne⟩:=st;obtain⟨xs,x,hq,hx⟩:=hg;obtain⟨its,rv,p,hz⟩:=I.list hq;obtain⟨u,hu,ru⟩:=rv.get hx;refine wpAny_pyNext_enum_item he hit p.isList (x:=u) (by simpa using hu) hne λh' ho hit' hT hsz hk=>?_
  refine⟨_,Z,wpAny_letOwnedTupleGo_enum (s:={ s with heap:=h',toks:=s.toks + 1 }) ho λh'' he' hs'=>?_⟩;have hlt:e < s.heap.objs.size:=YK8 he;have hTe:s.heap.objs.size≠e:=YMJ hlt;have kk:∀b o,b∉[e,it]->s.heap.get? b=some o->h''.get? b=some o:=λb o hb q=>by
   have h1:b≠e:=λz=>hb (by simp[z])
   have h2:b≠it:=λz=>hb (by simp[z])
   exact(hs'.2 b h1).trans (hk b o h1 h2 q)
  have I1:Inv X pins σ H { s with heap:=h'',toks:=s.toks + 1 }:=I.turns kk hf;have hT':h''.get? s.heap.objs.size=some { cls:=.type "tuple",data:=.seq #[.int i s.toks,u] }:=(hs'.2 _ hTe).trans hT;have hfr:H s.heap.objs.size=none:=I.hok.fresh (YKv _);have I2:=I1.trackT (T:=s.heap.objs.size) (xs:=[.int i,x]) (its:=[.int i s.toks,u]) hfr ⟨_,hT',Z,_,Z⟩ (.cons ⟨_,Z⟩ (.cons ru .nil)) (by show 2<=sizeLine;rw[sizeLine_eq];decide)
   (λo q=>absurd (YK8 q) (Nat.not_lt.mpr I.sz)) λp hp z=>absurd (YK8 (I.pin p hp).1) (by rw[z];exact YLq _)
  refine⟨.ref s.heap.objs.size,_,I2,Z,⟨_,hfr,Z,λys hy=>⟨x,by rw[I.list_inj hy hq];exact hx,Z⟩⟩,⟨⟨_,by simpa using he'⟩,hit'.at λo q=>(hs'.2 it hne.symm).trans q,hne⟩,λb hb=>?_⟩;obtain⟨o,eo,_⟩:∃o,s.heap.get? b=some o/\True:=by
   rcases YLB.mp hb with rfl |hb
   ·exact⟨_,he,trivial⟩
   ·have eb:b=it:=by simpa using hb
    subst eb;obtain⟨o,eo,_⟩:=hit;exact⟨o,eo,trivial⟩
  rw[YH (YLW (YK8 eo))];exact(hf b hb).1
 done:=by
  intro X hP hw hK hc i pins s σ H E I hf st hg;subst hP hw hK;obtain⟨⟨old,he⟩,hit,hne⟩:=st;obtain⟨xs,hq,hx⟩:=hg;obtain⟨its,rv,p,hz⟩:=I.list hq;have hl:=rv.length;exact wpAny_pyNext_enum_end (I.ok.hd hc) he hit p.isList (Array.getElem?_eq_none (by simp;lia)) λh' eb=>⟨Z,I.turns (t':=s.toks) (λb o hb q=>eb b o (λz=>hb (by simp[z])) q) hf⟩
 self:=λ_ _ _ _ _ st h=>by
  obtain⟨⟨old,he⟩,_⟩:=st;exact wpAny_pyIter_enum he h
section
variable {X:Cx}{jL:List Expr}{k:Nat}{lz:Pos}
inductive YJ5 (K:W.Frag) (R:It->Hp->Prop) (vs:List V) (H1:Hp):Prop where
 |mk (a:_) (aX:vs=[.ref a]) (aY:(∃xs,Rd H1 a (.lst xs))) (bU:R (Ite K a) H1):YJ5 K R vs H1
def iEnum (K:W.Frag) (ta:TA):TI:=λσ H R=>ta σ H λvs H1=>YJ5 K R vs H1
theorem XZ (K:W.Frag) (hK:X.K=K) {a:Expr}{ta:TA}{p pos:Pos} (hg:Gl X "enumerate") (hm:X.mg "enumerate"=none) (ha:PA X [a] ta) (hs:starEach [a] X.env=[(false,eval a X.env)]:=by rfl):
  PI X (.Tuple jL k lz) (.Call (.Name "enumerate" p) [a] [] pos) (iEnum K ta):=by
 subst hK;intro pins s σ H R I h;refine Call_ (JR I hg hm PyProof.Rows.Boot.«enumerate» (PyProof.Rows.callWith_type1 (thn (ha pos pins s σ H _ I h) λus s1 ⟨vs,H1,I1,r1,q1⟩=>?_) hs rfl));obtain⟨l,rfl,⟨xs,hq⟩,q⟩:=q1;obtain⟨u,rfl,ru⟩:=XY r1;cases ru;obtain⟨hz,its,n,rv,hl⟩:=(show Yp X.prog X.w H1 s1.heap l (.lst xs) from hq.ok I1.hok);refine call_enumerate_1 hl λh' he hit hsz hk=>?_
 have I2:Inv X pins σ H1 { s1 with heap:=h' }:=I1.kept (t':=s1.toks) hk;refine wpAny_pyIter_enum he ?_;refine⟨s1.heap.objs.size + 1,[s1.heap.objs.size + 1,s1.heap.objs.size],_,_,H1,Z,I2,YIz l _ _,⟨⟨_,by simpa using he⟩,hit,Nat.succ_ne_self _⟩,λb hb=>?_,q⟩;rcases YLB.mp hb with rfl |hb
 ·exact I1.fpOk (YMn _) (I1.hok.fresh (YMn _))
 ·have eb:b=s1.heap.objs.size:=by simpa using hb
  subst eb;exact I1.fpOk (YKv _) (I1.hok.fresh (YKv _))
theorem YCd:∀{xs:List V}{us:List Value},xs.length=us.length->(∀(j:Nat) (x:V) (u:Value),xs[j]?=some x->us[j]?=some u->Yk x u)->Yf xs us
 |[],[],_,_=>.nil
 |[],_ :: _,h,_=>by cases h
 |_ :: _,[],h,_=>by cases h
 |x :: xs,u :: us,h,k=>.cons (k 0 x u rfl rfl) (YCd (Nat.succ.inj h) λj y v h1 h2=>k (j + 1) y v (by simpa using h1) (by simpa using h2))
theorem YJ6 {k:Key}{v:Value} (h:YCm k v=true):Yk (kV k) v:=by
 rcases ZE h with ⟨i,t,rfl,rfl⟩ |⟨x,t,rfl,rfl⟩
 ·exact⟨t,Z⟩
 ·exact⟨t,Z⟩
end
def YHC (J:It) (n:Nat) (H:Hp) (item:Nat->V->Hp->Prop):Prop:=∀i H',YJ H H'->YL H'->(i < n->J.go i H'/\∀x H3,J.yld i H' x H3->YJ H' H3/\YL H3/\item i x H3)/\J.stop n H'
theorem YAU.g {J:It}{n:Nat}{H:Hp}{item:Nat->V->Prop} (h:YAU J n H item):YHC J n H λi x _=>item i x:=λi H' s p=>
 ⟨λhi=>⟨((h i H' s).1 hi).1,λx H3 hy=>by obtain⟨e,it⟩:=((h i H' s).1 hi).2 x H3 hy;subst e;exact⟨YJ.refl _,p,it⟩⟩,(h i H' s).2⟩
end L2
namespace L2
open PySem PySem.Spec PyProof.Rows
section
variable {X:Cx}{elt tg iter:Expr}{ifs:List Expr}{scope:Scope}{cl:List (Str×Addr)}{N:List Str}{ρ:List (Option Nat)}{pos:Pos}{wi:TI}{g:TG}{tc:TT}{te:TE}
theorem YI0 (hc:X.calm=true) (S:Yi X N ρ scope cl)
  (hg:∀C s₀ H₀ ex pn,PG (ZC X N scope cl C s₀ H₀ ex pn) tg g) (ht:∀C s₀ H₀ ex pn,PTs (ZC X N scope cl C s₀ H₀ ex pn) ifs tc) (he:∀C s₀ H₀ ex pn,PE (ZC X N scope cl C s₀ H₀ ex pn) elt te)
  {pins:List (Addr×Obj)}{s2:Shared}{σ:St}{H2:Hp}{it:Addr}{fp:List Addr}{tn:Nat->Heap->Prop}{J:It}{Q:VK}{RR:Value->Addr->Result->Shared->Prop} (I2:Inv X pins σ H2 s2) (T:YEp X.prog X.w X.K tg J fp it tn) (jF:tn 0 s2.heap) (f2:∀b∈fp,YAO X pins H2 b)
  (q2:∀l,H2 l=none->YA8 J g tc te Q l (YCv ρ σ) H2)
  (fin:∀(l C:Addr) (s5:Shared) (H4:Hp) (m:Str->Option Value),Inv X pins σ H4 s5->YAO X pins H4 C->s5.heap.Ns C m->Q (.ref l) H4->RR (.ref l) C (.ok .next) s5):
  wpAny (model X.prog X.w) X.A (newList []) (λacc s3=>wpAny (model X.prog X.w) X.A (newFunctionEnv scope X.env.globals cl [] X.env.qual none .none (some X.env)) (λcenv s4=>
   codeAny (model X.prog X.w) X.A (.compStart (.ListComp elt [⟨tg,iter,ifs,0⟩] scope pos) 0 (.ref it) acc { cenv with scope:=relabel scope X.env }) (RR acc cenv.locals) s4) X.xe s3) X.xe s2:=by
 obtain⟨W,⟨m0,w0⟩,turn⟩:=q2 _ (I2.hok.fresh (YKv _));refine wpAny_newObj_type (wpAny_newFunctionEnv S.nocell (by intro y hy;simp at hy) (λh₁ hns₁ hsb₁=>?_) S.kind);dsimp only at hns₁ hsb₁ ⊢;have I3:Inv X pins σ (upd H2 s2.heap.objs.size (.lst [])) { s2 with heap:=s2.heap.push { cls:=.type "list",dict:=none,data:=.seq ([]:List Value).toArray } }:=
  I2.laid (t':=s2.toks) (λb u eo=>YK3 _ eo) (YKv _) ⟨by simp,[],0,.nil,YLI _ rfl⟩
 generalize wW:({ s2 with heap:=s2.heap.push { cls:=.type "list",dict:=none,data:=.seq ([]:List Value).toArray } }:Shared)=s3 at I3;have vd:s2.heap.push { cls:=.type "list",dict:=none,data:=.seq ([]:List Value).toArray }=s3.heap:=by rw[<-wW]
 rw[vd]at hns₁ hsb₁ ⊢;have f3:∀b∈fp,YAO X pins (upd H2 s2.heap.objs.size (.lst [])) b:=λb hb=>by
  obtain⟨o,eo,_⟩:=T.obj _ _ jF b hb;exact⟨by rw[YH (YLW (YK8 eo))];exact(f2 b hb).1,(f2 b hb).2⟩
 have wX:∀b∈fp,b < s3.heap.objs.size:=λb hb=>by
  obtain⟨o,eo,_⟩:=T.obj _ _ jF b hb;rw[<-vd,YMY];exact Nat.lt_succ_of_lt (YK8 eo)
 have old:∀b o,s3.heap.get? b=some o->h₁.get? b=some o:=λb o eo=>hsb₁.extBut b o (YLW (YK8 eo)) (YK3 _ eo)
 have Ic:Inv (ZC X N scope cl s3.heap.objs.size s3 (upd H2 s2.heap.objs.size (.lst [])) fp (X.pn ++ pins)) [] (YCv ρ σ) (upd H2 s2.heap.objs.size (.lst [])) { s2 with heap:=h₁,toks:=s2.toks + ([]:List (Str×Value)).length }:=
  YFi S I3 f3 wX hns₁ old (by rw[<-wW] <;> rfl)
 have jG:∀{pl:List (Addr×Obj)}{H':Hp},pl=[]->(∀b∈fp,H' b=none)->∀b∈fp,YAO (ZC X N scope cl s3.heap.objs.size s3 (upd H2 s2.heap.objs.size (.lst [])) fp (X.pn ++ pins)) pl H' b:=λ{pl H'} epl hn b hb=>by
  subst epl;refine⟨hn b hb,YLW (wX b hb),λz=>?_,.inl hb,λx c h1=>(f2 b hb).2.2.2.2.1 x c (S.sub x c h1),λp hp=>(f2 b hb).2.2.2.2.2 p (by simpa using hp)⟩;rcases YLB.mp (I3.stkSub b z) with z |z
  ·exact(f2 b hb).2.1 z
  ·exact(f2 b hb).2.2.1 z
 have qH:tn 0 h₁:=T.keep _ _ _ jF λb hb o eo=>old b o (by rw[<-vd];exact YK3 _ eo)
 have loop:codeAny (model X.prog X.w) X.A (.compLoop (.ListComp elt [⟨tg,iter,ifs,0⟩] scope pos) 0 (.ref it) (.ref s2.heap.objs.size) (compEnvC scope cl s3.heap.objs.size X.env))
   (RR (.ref s2.heap.objs.size) s3.heap.objs.size) { s2 with heap:=h₁,toks:=s2.toks + ([]:List (Str×Value)).length }:=by
  refine YD7 (λn s'=>∃i ys τ H',Inv (ZC X N scope cl s3.heap.objs.size s3 (upd H2 s2.heap.objs.size (.lst [])) fp (X.pn ++ pins)) [] τ H' s'/\tn i s'.heap/\(∀b∈fp,H' b=none)/\W i n ys τ H') ?_ m0
   ⟨0,[],_,_,Ic,qH,λb hb=>(f3 b hb).1,w0⟩
  rintro n s4 ⟨i,ys,τ,H4,I4,st,wY,w4⟩;rcases turn i n ys τ H4 w4 with ⟨stop,qn⟩ |⟨go,step⟩
  ·refine thn (T.done (ZC X N scope cl s3.heap.objs.size s3 (upd H2 s2.heap.objs.size (.lst [])) fp (X.pn ++ pins)) rfl rfl rfl hc i [] s4 τ H4 _ I4 (jG rfl wY) st stop) λr s5 ⟨hr,I5⟩=>?_
   subst hr;obtain⟨m5,Qk,_⟩:=I5.loc;have rT:∀b o,s5.heap.get? b=some o->s5.heap.get? b=some o:=λb o eo=>eo
   have un:Un (frs X.stack) fp (upd H2 s2.heap.objs.size (.lst [])) H4 s3.heap s5.heap:=
    ⟨λb o eo n1 n2 n3=>I5.base.keep b o eo n1 n2 n3,λb o eo n1 n2 n3=>I5.base.slot b o eo n1 n2 n3,I5.base.free,λb o eo n1=>I5.base.there b o eo n1,I5.base.tups,I5.base.frzs,I5.base.tbls⟩
   have I6:Inv X pins σ H4 s5:=I3.call' (s':=s5) (ch:=fp) (show s5.os=s3.os from I5.os) un I5.hok I5.bare λb hb=>⟨(f3 b hb).2.2.2.1,(f3 b hb).2.1,(f3 b hb).2.2.2.2.1,(f3 b hb).2.2.2.2.2⟩
   have fr:H4 s3.heap.objs.size=none:=I5.free;exact fin _ _ s5 H4 m5 I6 (I3.fpOk (YKv _) fr) Qk qn
  ·refine thn (T.item (ZC X N scope cl s3.heap.objs.size s3 (upd H2 s2.heap.objs.size (.lst [])) fp (X.pn ++ pins)) rfl rfl rfl hc i [] s4 τ H4 _ I4 (jG rfl wY) st go) λr s5 ⟨u,hr,h5⟩=>?_
   subst hr;refine thn h5 ?_;rintro _ s6 ⟨x,H6,I6,r6,y6,lC,Ql⟩;have I6':=I6.pinned (jG rfl Ql) (T.obj _ _ lC);have again:∀{s9:Shared}{τ9:St}{H9:Hp}{zs:List V}{m':Nat},Inv (ZC X N scope cl s3.heap.objs.size s3 (upd H2 s2.heap.objs.size (.lst [])) fp (X.pn ++ pins)) ([] ++ YBm fp s6.heap) τ9 H9 s9->m' < n->W (i + 1) m' zs τ9 H9->
     ∃m,m < n/\∃i ys τ H',Inv (ZC X N scope cl s3.heap.objs.size s3 (upd H2 s2.heap.objs.size (.lst [])) fp (X.pn ++ pins)) [] τ H' s9/\tn i s9.heap/\(∀b∈fp,H' b=none)/\W i m ys τ H':=λ{s9 τ9 H9 zs m'} I9 hm w9=>by
    refine⟨m',hm,i + 1,zs,τ9,H9,I9.unpinned,T.keep _ _ _ lC λb hb o eo=>(I9.pin (b,o) (YLH _ (YLH _ (JH hb eo)))).1,λb hb=>?_,w9⟩;obtain⟨o,eo,d⟩:=T.obj _ _ lC b hb;exact(I9.pin (b,o) (YLH _ (YLH _ (JH hb eo)))).2.1
   refine thn (hg _ _ _ _ _ _ s6 τ H6 x u _ I6' r6 (step x H6 y6)) λ_ s7 ⟨τ7,H7,I7,q7⟩=>?_
   refine thn (ht _ _ _ _ _ _ s7 τ7 H7 _ I7 q7) λok s8 ⟨H8,I8,q8⟩=>?_
   cases ok with
   |false=>
    rw[if_neg YLD]at q8 ⊢;obtain⟨m',hm,w9⟩:=q8;exact again I8 hm w9
   |true=>
    rw[if_pos rfl]at q8 ⊢;refine thn (he _ _ _ _ _ _ s8 τ7 H8 _ I8 q8) ?_;rintro y s9 ⟨z,H9,I9,r9,wZ,Qm,m',hm,w9⟩;refine thn (ZP _ s9 τ7 H9 (.ref s2.heap.objs.size) [z] (.ref s2.heap.objs.size) [y] (λ_ H'=>H'=upd H9 s2.heap.objs.size (.lst (ys ++ [z]))) I9 rfl (.cons r9 .nil) ⟨_,ys,z,Z,Z,wZ,Qm,Z⟩) λ_ yO ⟨_,H10,I10,_,e10⟩=>?_
    subst e10;exact again I10 hm w9
 exact codeAny_compStart_list loop (T.self _ 0 _ _ _ qH loop)
def tSetC (i:Nat) (te:TE):TS:=λD σ H=>te σ H λv H1=>D.nx (σ.set i (some v)) H1
theorem ps_setC {i:Nat}{y:Str}{py spos:Pos} (hN:X.N.Nodup) (hi:X.N[i]?=some y) (hy:X.env.scope.names.lookup y=some .local) (hc:X.calm=true) (S:Yi X N ρ scope cl) (hI:PI X tg iter wi)
  (hg:∀C s₀ H₀ ex pn,PG (ZC X N scope cl C s₀ H₀ ex pn) tg g) (ht:∀C s₀ H₀ ex pn,PTs (ZC X N scope cl C s₀ H₀ ex pn) ifs tc) (he:∀C s₀ H₀ ex pn,PE (ZC X N scope cl C s₀ H₀ ex pn) elt te)
  (Ru:swapsWith (.ListComp elt [⟨tg,iter,ifs,0⟩] scope pos) (some (.Name y py)) spos.line X.env=pure true:=by rfl) (hs:∀x,foldedSetIterable iter X.env x=pure x:=by intro _;rfl):
  PS X (.Assign [.Name y py] (.ListComp elt [⟨tg,iter,ifs,0⟩] scope pos) spos) (tSetC i (tComp ρ wi g tc te)):=by
 intro pins s σ H D I h;rw[exec_Assign_Name_used _ _ _ _ Ru];refine YKz (wpAny_standAt (YKz ?_));show wpAny _ X.A (do let _ <-comprehension (.ListComp elt [⟨tg,iter,ifs,0⟩] scope pos) scope X.env _ (newList []) false (eval iter X.env) (some (assign (.Name y py) X.env))) _ _ s;refine YKz (wpAny_mono (wpAny_comprehension_free (use:=some (assign (.Name y py) X.env)) (Q:=λ_ s'=>SP X pins D .next s') rfl hs S.clos S.kind S.loc
  (thn (hI pins s σ H _ I h) λv s1 h1=>thn h1 λitv s2 h2=>?_)) (λ_ s' hq=>YLO (YLO hq)) λ_ _ e=>e)
 obtain⟨it,fp,tn,J,H2,e,I2,T,jF,f2,q2⟩:=h2;subst e;refine YI0 (RR:=λacc C=>compPost (model X.prog X.w) X.A X.xe (some (assign (.Name y py) X.env)) (λ_ s'=>SP X pins D .next s') acc C) hc S hg ht he I2 T jF f2 q2 λl C s5 H4 m I6 fC hn q=>?_
 obtain⟨oC,es,ep,hoC,hdC,hrest⟩:=id hn;have I7:=I6.pinned (fp:=[C]) (λb hb=>by rw[YK4.mp hb];exact fC) (λb hb=>⟨oC,by rw[YK4.mp hb];exact hoC,λv z=>by rw[hdC]at z;cases z⟩);show wpAny _ X.A (assign (.Name y py) X.env (.ref l)) _ _ s5;refine wpAny_assign_Name (YBO I7 hN hi (.inl hy) (v:=.ref l) rfl (λs6 I8=>?_) (.inr hy));have Qo:=(I8.pin (C,oC) (YLH _ (YLH _ (JH (YK4.mpr rfl) hoC))));refine⟨m,⟨oC,es,ep,Qo.1,hdC,hrest⟩,λh' hs'=>?_⟩;have fC':∀b∈[C],YAO X pins H4 b:=λb hb=>by rw[YK4.mp hb];exact fC
 exact⟨_,H4,I8.unpinned.turns (t':=s6.toks) (λb o hb eo=>(hs'.2 b (λz=>hb (YK4.mpr z))).trans eo) fC',q⟩
end
end L2
namespace L2
open PySem PySem.Spec PyProof.Rows
theorem YFl {x:Str}{n:Int} (h1:x.length<=1000) (h2:-1000<=n) (h3:n<=1000):MulOk x n:=by
 refine⟨?_,λhn _=>?_,λhn _=>?_⟩
 ·rw[Bool.or_eq_false_iff];exact⟨YK0 (by lia),YK0 (by lia)⟩
 ·intro hgt;have hn':0 < n:=by lia
  have h4:=(Int.ediv_lt_iff_lt_mul hn').mp hgt;have h5:(x.length:Int) * n<=1000 * 1000:=Int.mul_le_mul (by lia) h3 (by lia) (by lia)
  lia
 ·show decide (x.length * n.toNat > sizeLine)=false;refine YK0 ?_;have h5:x.length * n.toNat<=1000 * 1000:=Nat.mul_le_mul h1 (by lia);rw[sizeLine_eq]
  lia
theorem YC2 {X:Cx}:OpR X (binaryOp .Mult) (λx y H Q=>∃i n,x=.str i/\y=.int n/\i.length<=1000/\-1000<=n/\n<=1000/\Q (.str (Txt.mul i n)) H):=by
 intro pins s σ H x y v u Q I rx ry h;obtain⟨i,n,rfl,rfl,h1,h2,h3,q⟩:=h;obtain⟨t,rfl⟩:=rx;obtain⟨t',rfl⟩:=ry;exact SB.mul (YFl h1 h2 h3) λt' k=>⟨.str _,H,I.tok _,⟨_,Z⟩,q⟩
theorem Xt {α:Type}{xs:List α}{i:Int} (h0:0<=i) (h1:i < xs.length):∃v,atI xs i=some v/\v∈xs:=by
 have hj:i.toNat < xs.length:=by lia
 have e:((i.toNat:Nat):Int)=i:=by lia
 refine⟨xs[i.toNat],?_,List.getElem_mem hj⟩;have h:=Yq (xs:=xs) (j:=i.toNat) (v:=xs[i.toNat]) (by simp[hj]);rw[e]at h;exact h
theorem slen (a b:Str):(a ++ b).length=a.length + b.length:=by
 show(a ++ b).cps.size=a.cps.size + b.cps.size;exact Array.size_append ..
theorem in62 {x:Int} (h1:0<=x) (h2:x<=1000):(-(2 ^ 62):Int)<=x/\x < 2 ^ 62:=⟨YL0 (by decide) h1,Int.lt_of_le_of_lt h2 (by decide)⟩
theorem YHD {H:Hp} (h:Only H):YL H:=λa o e=>by
 rcases h a with z |⟨ob,xs,z⟩
 ·rw[e]at z;cases z
 ·rw[e]at z;cases z;rfl
end L2
namespace L2
open PySem PySem.Spec PyProof.Rows
def YE1:Expr->Bool
 |.Starred _ _=>false
 |_=>true
theorem YI1 {e:Expr}{es:List Expr}{env:Env} (h:YE1 e=true):starEach (e :: es) env=(false,eval e env) :: starEach es env:=by
 cases e <;> first |rfl |cases h
theorem Zp {X:Cx}{e:Expr}{es:List Expr}{te:TE}{t:TA} (ha:PE X e te) (hr:PA X es t) (h:YE1 e=true:=by rfl):PA X (e :: es) (YHt te t):=YA ha hr (YI1 h)
section
variable {X:Cx}
end
end L2
namespace FR
open PySem L2
structure QSs (X:Cx) (st:List Stmt) (t:TS):Prop where h:PSs X st t
structure QS (X:Cx) (st:Stmt) (t:TS):Prop where h:PS X st t
theorem YE {X:Cx}{st:Stmt}{rest:List Stmt}{t u:TS} (h1:QS X st t) (h2:QSs X rest u):QSs X (st :: rest) (tSeq t u):=⟨YO h1.h h2.h⟩
theorem Y7 {X:Cx}{st:Stmt}{t:TS} (h1:QS X st t):QSs X [st] t:=⟨YG h1.h⟩
structure QE (X:Cx) (e:Expr) (t:TE):Prop where h:PE X e t
structure QA (X:Cx) (es:List Expr) (t:TA):Prop where h:PA X es t
theorem YJ7 {X:Cx}:QA X [] tNil:=⟨YD⟩
theorem qa_cs {X:Cx}{e:Expr}{es:List Expr}{te:TE}{t:TA} (ha:QE X e te) (hr:QA X es t) (h:YE1 e=true:=by rfl):QA X (e :: es) (YHt te t):=⟨Zp ha.h hr.h h⟩
theorem YJ8 {X:Cx}{i j pos}:QE X (.Constant (.int i) j pos) (tC (.int i)):=⟨YB⟩
theorem qe_non {X:Cx}{j pos}:QE X (.Constant .none j pos) (tC .non):=⟨J8⟩
theorem YJ9 {X:Cx}{x j pos}:QE X (.Constant (.str x) j pos) (tC (.str x)):=⟨Y0⟩
theorem YKA {X:Cx}{es:List Expr}{t:TA}{pos} (h:QA X es t):QE X (.List es pos) (tLst t):=⟨ZH h.h⟩
theorem YBu {X:Cx}{i:Nat}{x:Str}{e:Expr}{te:TE}{pos eY:Pos} (hN:X.N.Nodup) (hi:X.N[i]?=some x) (hx:Loc X.env.scope x) (he:QE X e te) (hs:swapsWith e (some (.Name x eY)) pos.line X.env=pure false:=by rfl) (hf:X.fn x=true\/X.env.scope.names.lookup x=some .local:=by first |exact .inl rfl |exact .inr rfl |assumption):
  QS X (.Assign [.Name x eY] e pos) (tAsg te (Yu i)):=⟨YQ hN hi hx he.h hs hf⟩
theorem qex {X:Cx}{st:List Stmt}{q:TS->Prop} (h:∃t,QSs X st t/\q t):∃t,PSs X st t/\q t:=let ⟨t,a,b⟩:=h;⟨t,a.h,b⟩
end FR
namespace L2
open PySem PySem.Spec PyProof.Rows
section
variable {X:Cx}{C:Addr}{x:Str}{p pos:Pos}
end
structure Js (P:Program) (w:World) (K:W.Frag) (mg:Str->Option Value) (CX:CXT) (k:Nat) (C:Addr) (m:Str) (ps:List Str) (sp:Sp):Prop where
 ok:∃f fd,(∀base,Yw P w K mg base CX k f fd ps sp)/\Meth K C m f/\YAH K fd ps []
structure UsedI (P:Program) (w:World) (K:W.Frag) (mg:Str->Option Value) (CX:CXT) (k:Nat) (C:Addr) (ps:List Str) (sp:Sp):Prop where
 ok:∃f fd,(∀base,Yw P w K mg base CX k f fd ps sp)/\Mk K C f/\YAH K fd ps []
def YH4 (i j:Int):Prop:=i.natAbs < 2 ^ 4000/\j.natAbs < 2 ^ 4000
theorem YEF {i:Int} (h:i.natAbs < 2 ^ 4000):Builtin.Int.intBits i<=4000:=by
 unfold Builtin.Int.intBits
 by_cases h0:i=0
 ·subst h0;decide
 ·have:=(Nat.log2_lt (by lia)).mpr h;split
  ·lia
  ·lia
theorem Jm {X:Cx}:OpR X (binaryOp .Mult) (rI YH4 λi j=>.int (i * j)):=opI λ_ _ _ _ _ _ _ hc q=>mul_int q (PyProof.Rows.mulOk_of_bits (YEF hc.1) (YEF hc.2) (by decide))
theorem YT (K:W.Frag) {X:Cx} (hK:X.K=K) {e:Expr}{f:Str}{pos:Pos}{ta:TE} (he:PE X e ta) (hb:attributeBase e f X.env (eval e X.env)=eval e X.env):PE X (.Attribute e f pos) (tFld K ta f):=by subst hK;exact pe_fld he hb
theorem Zt (K:W.Frag) {X:Cx} (hK:X.K=K) {o value:Expr}{f:Str}{pos eY:Pos}{ta tv:TE} (ha:PE X o ta) (hv:PE X value tv) (hs:swapsWith value (some (.Attribute o f eY)) pos.line X.env=pure false):PS X (.Assign [.Attribute o f eY] value pos) (sFld K ta tv f):=by subst hK;exact ps_fld ha hv hs
end L2
namespace L2
open PySem PySem.Spec PyProof.Rows
section
variable {X:Cx}{tg:Expr}
end
end L2
namespace L2
open PySem PySem.Spec PyProof.Rows
section
variable {X:Cx}
theorem Zu:MtR X "str.startswith" (λx vs H Q=>∃z y,x=.str z/\vs=[.str y]/\Q (.bl (Txt.startswith z y)) H):=by
 intro pins s σ H x xs v us Q I rx rs h;obtain⟨z,y,rfl,rfl,q⟩:=h;obtain⟨t,rfl⟩:=rx;obtain⟨u,rfl,t',rfl⟩:=rs.one;exact SC.startswith ⟨.bl _,H,I,Z,q⟩
end
open Builtin Builtin.Str StrLaws in
theorem YE2 (x:Str) (c:Nat):∀(n a:Nat) (st:Array Nat×Nat),st.snd<=a->st.fst.size + n<=x.length + 1->
  (forIn (List.range' a n) st (occBody x ⟨#[c]⟩ x.length (x.length + 1))).run.fst.toList=st.fst.toList ++ (List.range' a n).filter λi=>decide (x.cps.toList[i]?=some c)
 |0,a,st,_,_=>by simp
 |n + 1,a,st,h1,h2=>by
  rw[List.range'_succ,List.forIn_cons];unfold occBody
  by_cases hc:x.cps.toList[a]?=some c
  ·have h3:=(subAt_one x c a).mpr hc;rw[if_pos ⟨⟨⟨by lia,h1⟩,h3.1⟩,h3.2⟩];have ih:=YE2 x c n (a + 1) (st.fst.push a,a + (⟨#[c]⟩:Str).length) (by show a + 1<=a + 1;lia) (by simp;lia);rw[YL4,if_pos (YK2 hc)];refine Eq.trans ih ?_;show(st.fst.push a).toList ++ _=_;rw[Array.toList_push,YLe];rfl
  ·have h3:¬(((st.fst.size < x.length + 1/\st.snd<=a)/\a + (⟨#[c]⟩:Str).length<=x.length)/\subAt x ⟨#[c]⟩ a=true):=λh=>hc ((subAt_one x c a).mp ⟨h.1.2,h.2⟩)
   rw[if_neg h3];have ih:=YE2 x c n (a + 1) (st.fst,st.snd) (by show st.snd<=a + 1;lia) (by show st.fst.size + n<=_;lia);rw[YL4,if_neg (by simpa using hc)];exact ih
open Builtin Builtin.Str StrLaws in
theorem occ_one (x:Str) (c:Nat):occurrences x ⟨#[c]⟩ 0 x.length (x.length + 1)=(List.range' 0 x.length).filter λi=>decide (x.cps.toList[i]?=some c):=by
 rw[occ_eq,YE2 x c (x.length + 1 - 0) 0 (#[],0) (YKv _) (by simp)];have hn:x.cps.toList.length=x.length:=by simp[Str.length]
 show[] ++ _=_;rw[YMo,show x.length + 1 - 0=x.length + 1 from rfl,List.range'_concat,List.filter_append];have e:x.cps.toList[0 + x.length]?=none:=YLf (by lia);rw[show([0 + 1 * x.length].filter λi=>decide (x.cps.toList[i]?=some c))=[] from by
  rw[YL4,if_neg (by rw[Nat.one_mul,e];simp)];rfl]
 rw[YLa]
end L2
namespace L2
open PySem PySem.Spec PyProof.Rows
section
variable {X:Cx}
theorem YFm:∀{bs:List Int}{us:List Value}{i:Nat}{v:Value},Yf (bs.map V.int) us->us[i]?=some v->∃b t,bs[i]?=some b/\v=.int b t:=by
 intro bs us i v r e;cases e2:(bs.map V.int)[i]? with
 |none=>
  have:=r.none_of e2;rw[this]at e;cases e
 |some x=>
  obtain⟨u,hu,ru⟩:=r.get e2;rw[hu]at e;cases e;rw[YK1]at e2;cases e3:bs[i]? with
  |none=>rw[e3]at e2;cases e2
  |some b=>
   rw[e3]at e2;have e4:V.int b=x:=YLP e2;subst e4;obtain⟨t,ht⟩:=ru;exact⟨b,t,Z,ht⟩
end
end L2
namespace L2
open PySem PySem.Spec PyProof.Rows
section
open PySem.W
variable {K:W.Frag}{M:Model}
end
section
variable {X:Cx}
end
end L2
namespace L2
open PySem PySem.Spec PyProof.Rows
section
variable {X:Cx}
end
theorem comp_fm {α:Type}{J:It}{item:Nat->V->Hp->Prop}{tc:TT}{te:TE}{Q:VK}{H:Hp}{l:Addr}{τ:St}{g:TG} (ds:List α) (f:α->Option V) (hJ:YHC J ds.length H item) (hp:YL H)
  (hl:H l=none) (hz:ds.length<=sizeLine) (keep:St->Prop) (hk0:keep τ)
  (ht:∀(τ':St) (k:Nat) (d:α) (x:V) (H':Hp) (Q1:St->VK) (Q2:St->Hp->Prop),keep τ'->ds[k]?=some d->item k x H'->YJ H H'->YL H'->(∀y τ4 H6,keep τ4->YJ H' H6->YL H6->f d=some y->Q1 τ4 y H6)->(∀τ4 H6,keep τ4->YJ H' H6->YL H6->f d=none->Q2 τ4 H6)->
   g x τ' H' λτ4 H4=>tc τ4 H4 λb H5=>if b=true then te τ4 H5 (Q1 τ4) else Q2 τ4 H5)
  (hq:∀H',YJ H H'->YL H'->H' l=some (.lst (ds.filterMap f))->Q (.ref l) H'):YA8 J g tc te Q l τ H:=by
 refine YH0 ds.length (λi ys τ' H2=>i<=ds.length/\ys=(ds.take i).filterMap f/\keep τ'/\YJ H H2/\YL H2/\H2 l=some (.lst ys)) ⟨YLS _,Z,hk0,YJ.upd hl,hp.upd rfl,YC⟩ ?_ ?_
 ·rintro i ys τ' H2 N hlt ⟨hi,rfl,hk,hs,qG,hll⟩ hN;obtain⟨hgo,_⟩:=hJ i _ hs qG;obtain⟨h1,h2⟩:=hgo hlt;refine⟨h1,λx H3 hy=>?_⟩;obtain⟨s3,p3,it⟩:=h2 x H3 hy;have e:ds[i]?=some ds[i]:=YKx hlt;have et:(ds.take (i + 1)).filterMap f=(ds.take i).filterMap f ++ (f ds[i]).toList:=by
   rw[YLn,e,List.filterMap_append];have:(some ds[i]).toList.filterMap f=(f ds[i]).toList:=by
    cases hf:f ds[i] with
    |none=>simp[hf]
    |some y=>simp[hf]
   rw[this]
  have hlen:((ds.take i).filterMap f).length<=i:=YLU (List.length_filterMap_le ..) (by rw[YL3];lia);refine ht τ' i ds[i] x H3 (λτ4 y H6=>H6 l=some (.lst ((ds.take i).filterMap f))/\((ds.take i).filterMap f).length < sizeLine/\N ((ds.take i).filterMap f ++ [y]) τ4 (upd H6 l (.lst ((ds.take i).filterMap f ++ [y]))))
   (λτ4 H5=>N ((ds.take i).filterMap f) τ4 H5) hk e it (hs.trans s3) p3 (λy τ4 H6 k4 s6 p6 ef=>?_) λτ4 H6 k4 s6 p6 ef=>?_
  ·rw[ef]at et;have sJ:H6 l=some (.lst ((ds.take i).filterMap f)):=s6 _ _ (s3 _ _ hll);exact⟨sJ,by lia,hN _ _ _ ⟨hlt,et.symm,k4,((hs.trans s3).trans s6).put hl,p6.upd rfl,YC⟩⟩
  ·rw[ef]at et;have et:(ds.take (i + 1)).filterMap f=(ds.take i).filterMap f:=by rw[et];exact YLa _
   exact hN _ _ _ ⟨hlt,et.symm,k4,(hs.trans s3).trans s6,p6,s6 _ _ (s3 _ _ hll)⟩
 ·rintro ys τ' H2 ⟨_,rfl,_,hs,qG,hll⟩;rw[YL9]at hll;exact⟨(hJ ds.length _ hs qG).2,hq _ hs qG hll⟩
end L2
namespace L2
open PySem PySem.Spec PyProof.Rows
section
variable {X:Cx}
end
end L2
namespace FR
open PySem L2
def JF (c:Nat):Bool:=decide (32<=c) && decide (c<=126) && !decide (c=37)
def ZV (c:Nat):Bool:=decide (65<=c) && decide (c<=90)
def Xa (z:Str):Bool:=z.cps.size == 2 && z.cps[0]? == some 39 && JF (z.cps.getD 1 0)
def isNameS (z:Str):Bool:=decide (1<=z.cps.size) && decide (z.cps.size<=8) && z.cps.toList.all ZV
def Jn (z:Str):Bool:=decide (z.cps.size<=60) && z.cps.toList.all JF
def YBV:D->Bool
 |.str z=>Xa z
 |_=>false
def isNameD:D->Bool
 |.str z=>isNameS z
 |_=>false
def J5 (d:D):Bool:=YBV d || isNameD d
def YBW:D->Bool
 |.str z=>Jn z
 |_=>false
def YC3:D->Bool
 |.int _=>true
 |_=>false
def Yz:D->Bool
 |.int i=>decide (0<=i) && decide (i<=10 ^ 60)
 |_=>false
def J7:D->Bool
 |.tup ds=>decide (ds.length<=6) && ds.all J5
 |_=>false
def Z4:D->Bool
 |.tup [h,p,w]=>isNameD h && (J7 p && Yz w)
 |_=>false
def Xb:D->Bool
 |.lst ds=>decide (ds.length<=60) && ds.all Z4
 |_=>false
mutual
def _root_.L2.D.short:D->Bool
 |.str z=>decide (z.length<=1000)
 |.lst ds=>Jy ds
 |.tup ds=>Jy ds
 |_=>true
def Jy:List D->Bool
 |[]=>true
 |d :: ds=>d.short && Jy ds
end
theorem JJ:∀{xs:List D}{d:D},Jy xs=true->d∈xs->d.short=true
 |x :: xs,d,h,hd=>by
  unfold Jy at h;rw[YLC]at h;rcases YLB.mp hd with rfl |hd
  ·exact h.1
  ·exact JJ h.2 hd
theorem Xu:∀{xs:List D},(∀d∈xs,d.short=true)->Jy xs=true
 |[],_=>by unfold Jy;rfl
 |x :: xs,h=>by unfold Jy;rw[h x YLJ,Xu λd hd=>h d (YLA _ hd)];rfl
theorem YBv {z:Str} (h:z.length<=1000):(D.str z).short=true:=by unfold D.short;exact YK2 h
theorem YI2 {z:Str} (h:(D.str z).short=true):z.length<=1000:=by unfold D.short at h;exact YLM h
theorem YF {n:Nat} (h:n<=1000):n<=sizeLine:=YLU h (by rw[sizeLine_eq];decide)
theorem YBB {z:Str} (h:(D.str z).short=true):z.length<=sizeLine:=YF (YI2 h)
def isStrD:D->Bool |.str _=>true |_=>false
def isListD:D->Bool |.lst _=>true |_=>false
def isTupD:D->Bool |.tup _=>true |_=>false
def YH5:D->Bool |.bl _=>true |_=>false
def isIntD:D->Bool |.int _=>true |.bl _=>true |_=>false
section
variable {K:W.Frag}
theorem kit_int (d:D):PySem.W.kitOne K (.type (tyD d)) (.type "int")=some (isIntD d):=by cases d <;> kernel_rfl
theorem YKB (d:D):PySem.W.kitOne K (.type (tyD d)) (.type "bool")=some (YH5 d):=by cases d <;> kernel_rfl
theorem YE3 (d:D):PySem.W.kitOne K (.type (tyD d)) (.type "str")=some (isStrD d):=by cases d <;> kernel_rfl
theorem YKC (d:D):PySem.W.kitOne K (.type (tyD d)) (.type "list")=some (isListD d):=by cases d <;> kernel_rfl
theorem YBw (d:D):PySem.W.kitOne K (.type (tyD d)) (.type "tuple")=some (isTupD d):=by cases d <;> kernel_rfl
end
theorem XF (z:Str):z.length=z.cps.size:=rfl
theorem le_A (c:Nat):(!decide (([c]:List Nat) < (("A":Str)).cps.toList))=decide (65<=c):=by
 have e:(("A":Str)).cps.toList=[65]:=by decide +kernel
 rw[e]
 by_cases h:65<=c
 ·rw[YK2 h,YK0 (by rw[YMp];simp;lia)];rfl
 ·rw[YK0 h,YK2 (by rw[YMp];left;lia)];rfl
theorem le_Z (c:Nat):(!decide ((("Z":Str)).cps.toList < ([c]:List Nat)))=decide (c<=90):=by
 have e:(("Z":Str)).cps.toList=[90]:=by decide +kernel
 rw[e]
 by_cases h:c<=90
 ·rw[YK2 h,YK0 (by rw[YMp];simp;lia)];rfl
 ·rw[YK0 h,YK2 (by rw[YMp];left;lia)];rfl
theorem YKD (g:Nat->Bool) (l:List Nat):l.map (λc=>V.bl (g c))=(l.map g).map V.bl:=by rw[YL2];rfl
theorem XG {α:Type} (g:α->Bool) (l:List α):(l.map g).all id=l.all g:=by rw[List.all_map];rfl
theorem YHE {ys:List V}{ds:List D}{g:D->Bool} (hl:ys.length=ds.length) (h:∀(k:Nat) (y:V),ys[k]?=some y->∃d,ds[k]?=some d/\y=.bl (g d)):ys=(ds.map g).map V.bl:=by
 refine YMe λk=>?_
 by_cases hk:k < ys.length
 ·obtain⟨d,hd,hy⟩:=h k ys[k] (YKx hk);rw[YKx hk,YK1,YK1,hd,hy];rfl
 ·rw[YLf (by lia),YLf (by rw[YKu,YKu];lia)]
theorem Jt {te:TE}{σ:St}{H:Hp}{R:VK}{b g:Bool} (ht:b=true->∀R:VK,R (.bl g) H->te σ H R) (h:R (.bl (b && g)) H):if b=true then te σ H R else R (.bl false) H:=by
 cases b with
 |true=>exact ht rfl R h
 |false=>exact h
theorem or_read {te:TE}{σ:St}{H:Hp}{R:VK}{b g:Bool} (ht:b=false->∀R:VK,R (.bl g) H->te σ H R) (h:R (.bl (b || g)) H):if b=true then R (.bl true) H else te σ H R:=by
 cases b with
 |true=>exact h
 |false=>exact ht rfl R h
inductive spIs_ (g:D->Bool) (vs:List V) (H:Hp) (Q:VK):Prop where
 |mk (x:_) (d:_) (aX:vs=[x]) (aY:Den H x d) (bU:d.short=true) (cN:YL H) (dh:Q (.bl (g d)) H):spIs_ g vs H Q
def XU (g:D->Bool):Sp:=λvs H Q E_=>spIs_ g vs H Q
inductive YEG (vs:List V) (H:Hp) (Q:VK):Prop where
 |mk (c:_) (aX:vs=[.str ⟨#[c]⟩]) (aY:Q (.bl (JF c)) H):YEG vs H Q
def YC4:Sp:=λvs H Q E_=>YEG vs H Q
inductive YC5 (C:Addr) (vs:List V) (H:Hp) (Q:VK) (E:XK):Prop where
 |mk (x:_) (d:_) (aX:vs=[x]) (aY:Den H x d) (bU:d.short=true) (cN:YL H) (dh:(Xb d=true->∀(l:Addr) (xs:List V) (ds:List D),d=.lst ds->Ya H xs ds->H l=none->Q (.ref l) (upd H l (.lst xs)))) (i_:(Xb d=false->E (.ref C) none H)):YC5 C vs H Q E
def YBx (C:Addr):Sp:=λvs H Q E=>YC5 C vs H Q E
theorem YC6 {b:Bool} (h:(!b)=true):b=false:=by cases b <;> first |rfl |cases h
theorem YEH {b:Bool} (h:¬(!b)=true):b=true:=by cases b <;> first |rfl |exact absurd rfl h
inductive YCI (C:Addr) (vs:List V) (H:Hp) (Q:VK) (E:XK):Prop where
 |mk (x:_) (d:_) (aX:vs=[x]) (aY:Den H x d) (bU:d.short=true) (cN:YL H) (dh:(∀z,d=.str z->Jn z=true->Q (.str z) H)) (i_:(YBW d=false->E (.ref C) none H)):YCI C vs H Q E
def YC7 (C:Addr):Sp:=λvs H Q E=>YCI C vs H Q E
abbrev Y4:=Str×List Str×Int
abbrev Yy:=List Y4
def ZF (r:Y4):D:=.tup [.str r.1,.tup (r.2.1.map D.str),.int r.2.2]
def YAI (g:Yy):D:=.lst (g.map ZF)
def ZD (z:Str):Bool:=Xa z || isNameS z
def Jz (r:Y4):Bool:=isNameS r.1 && ((decide (r.2.1.length<=6) && r.2.1.all ZD) && (decide (0<=r.2.2) && decide (r.2.2<=10 ^ 60)))
def Y5 (g:Yy):Bool:=decide (g.length<=60) && g.all Jz
theorem YDi (r:Y4):Z4 (ZF r)=Jz r:=by
 obtain⟨h,ps,w⟩:=r;show(isNameD (.str h) && (J7 (.tup (ps.map D.str)) && Yz (.int w)))=_;show(isNameS h && ((decide ((ps.map D.str).length<=6) && (ps.map D.str).all J5) && (decide (0<=w) && decide (w<=10 ^ 60))))=_;rw[YKu,List.all_map];rfl
theorem Xh (g:Yy):Xb (YAI g)=Y5 g:=by
 show(decide ((g.map ZF).length<=60) && (g.map ZF).all Z4)=_;rw[YKu,List.all_map];unfold Y5;congr 1;congr 1;funext r;exact YDi r
theorem YH6:∀{ds:List D},ds.all J5=true->∃ps:List Str,ds=ps.map D.str
 |[],_=>⟨[],Z⟩
 |d :: ds,h=>by
  rw[YMj,YLC]at h;obtain⟨ps,rfl⟩:=YH6 h.2;cases d with
  |str z=>exact⟨z :: ps,Z⟩
  |_=>cases h.1
theorem rule_of {d:D} (h:Z4 d=true):∃r:Y4,d=ZF r:=by
 unfold Z4 at h;split at h
 ·rename_i a b c
  rw[YLC,YLC]at h;obtain⟨h1,h2,h3⟩:=h;cases a with
  |str z=>
   cases b with
   |tup ds=>
    cases c with
    |int w=>
     unfold J7 at h2;rw[YLC]at h2;obtain⟨ps,rfl⟩:=YH6 h2.2;exact⟨(z,ps,w),Z⟩
    |_=>cases h3
   |_=>cases h2
  |_=>cases h1
 ·cases h
theorem gram_of {d:D} (h:Xb d=true):∃g:Yy,d=YAI g/\Y5 g=true:=by
 cases d with
 |lst ds=>
  have h0:=h;unfold Xb at h;rw[YLC]at h;have go:∀(ds:List D),ds.all Z4=true->∃g:Yy,ds=g.map ZF:=by
   intro ds
   induction ds with
   |nil=>exactλ_=>⟨[],Z⟩
   |cons d ds ih=>
    intro hd;rw[YMj,YLC]at hd;obtain⟨g,rfl⟩:=ih hd.2;obtain⟨r,rfl⟩:=rule_of hd.1;exact⟨r :: g,Z⟩
  obtain⟨g,rfl⟩:=go ds h.2;refine⟨g,Z,?_⟩;rw[<-Xh];exact h0
 |_=>cases h
theorem YKE {H:Hp}{v:V}{r:Y4} (h:Den H v (ZF r)):∃t p,v=.ref t/\H t=some (.tup [.str r.1,.ref p,.int r.2.2])/\H p=some (.tup (r.2.1.map V.str)):=by
 obtain⟨t,xs,rfl,ht,hds⟩:=h.to_tup
 match xs,hds with
 |[x0,x1,x2],hds=>
  obtain⟨_,e0,n0⟩:=hds.get (i:=0) (v:=x0) rfl;obtain⟨_,e1,n1⟩:=hds.get (i:=1) (v:=x1) rfl;obtain⟨_,e2,n2⟩:=hds.get (i:=2) (v:=x2) rfl;cases e0;cases e1;cases e2;have f0:=n0.to_str;have f2:=n2.to_int;obtain⟨p,ys,f1,hp,hys⟩:=n1.to_tup;subst f0 f1 f2;refine⟨t,p,Z,ht,?_⟩;have:ys=r.2.1.map V.str:=by
   refine YMe λi=>?_
   cases e:ys[i]? with
   |none=>
    have h1:=List.getElem?_eq_none_iff.mp e;have h2:=hys.len;rw[YKu]at h2;rw[YLf (by rw[YKu];lia)]
   |some y=>
    obtain⟨d,hd,dn⟩:=hys.get e;rw[YK1]at hd ⊢;cases e2:r.2.1[i]? with
    |none=>rw[e2]at hd;cases hd
    |some z=>
     rw[e2]at hd;cases hd;rw[dn.to_str];rfl
  rw[hp,this]
 |[],h=>exact absurd h.len (by simp)
 |[_],h=>exact absurd h.len (by simp)
 |[_,_],h=>exact absurd h.len (by simp)
 |_ :: _ :: _ :: _ :: _,h=>exact absurd h.len (by simp)
theorem YKF {H:Hp}{v:V}{g:Yy} (h:Den H v (YAI g)):∃a xs,v=.ref a/\Rd H a (.lst xs)/\Ya H xs (g.map ZF):=h.to_lst
theorem Xc {H:Hp}{xs:List V}{g:Yy} (h:Ya H xs (g.map ZF)) {i:Nat}{v:V} (e:xs[i]?=some v):
  ∃r t p,g[i]?=some r/\v=.ref t/\H t=some (.tup [.str r.1,.ref p,.int r.2.2])/\H p=some (.tup (r.2.1.map V.str)):=by
 obtain⟨d,hd,dn⟩:=h.get e;rw[YK1]at hd;cases e2:g[i]? with
 |none=>rw[e2]at hd;cases hd
 |some r=>
  rw[e2]at hd;cases hd;obtain⟨t,p,e3,e4,e5⟩:=YKE dn;exact⟨r,t,p,Z,e3,e4,e5⟩
theorem YC8:∀{xs:List D}{n:Nat},(∀d∈xs,d.dep<=n)->YDh xs<=n
 |[],n,_=>by unfold YDh;exact YLS _
 |x :: xs,n,h=>by
  unfold YDh;exact Nat.max_le.mpr ⟨h x YLJ,YC8 λd hd=>h d (YLA _ hd)⟩
theorem YKG {xs:List D} (h:∀d∈xs,d.ok=true):(D.lst xs).ok=true:=by unfold D.ok;exact YJ4 h
theorem ok_int (z:Int):(D.int z).ok=true:=by unfold D.ok;rfl
theorem dep_lst {xs:List D}{n:Nat} (h:∀d∈xs,d.dep<=n):(D.lst xs).dep<=n + 1:=by unfold D.dep;exact Nat.succ_le_succ (YC8 h)
theorem dep_int (z:Int):(D.int z).dep=0:=by unfold D.dep;rfl
theorem YE4 (zs:List Int):(D.lst (zs.map D.int)).ok=true:=YKG λd hd=>by
 obtain⟨z,_,rfl⟩:=YLL.mp hd;exact ok_int z
theorem YKH (zs:List Int):(D.lst (zs.map D.int)).dep<=64:=YLU (dep_lst (n:=0) λd hd=>by
 obtain⟨z,_,rfl⟩:=YLL.mp hd;rw[dep_int];exact YKv _) (by decide)
theorem YEI {z:Str} (h:isNameS z=true):z.length<=8:=by
 unfold isNameS at h;rw[YLC,YLC]at h;exact YLM h.1.2
theorem YKI {z:Str} (h:ZD z=true):z.length<=8:=by
 unfold ZD at h;rw[Bool.or_eq_true]at h;rcases h with h |h
 ·unfold Xa at h;rw[YLC,YLC,beq_iff_eq]at h;show z.cps.size<=8
  lia
 ·exact YEI h
theorem YHF {r:Y4} (h:Jz r=true):(ZF r).short=true:=by
 unfold Jz at h;simp only[YLC]at h;obtain⟨h1,⟨h2,h3⟩,h4⟩:=h;unfold ZF D.short;refine Xu λd hd=>?_
 simp only[YLB,YLj,or_false]at hd;rcases hd with rfl |rfl |rfl
 ·exact YBv (YLU (YEI h1) (by decide))
 ·unfold D.short;refine Xu λd hd=>?_
  obtain⟨z,hz,rfl⟩:=YLL.mp hd;exact YBv (YLU (YKI (YLb.mp h3 z hz)) (by decide))
 ·unfold D.short;rfl
theorem YC9 {g:Yy} (h:Y5 g=true):(YAI g).short=true:=by
 unfold Y5 at h;rw[YLC]at h;unfold YAI D.short;refine Xu λd hd=>?_
 obtain⟨r,hr,rfl⟩:=YLL.mp hd;exact YHF (YLb.mp h.2 r hr)
theorem YAs {g:Yy} (h:Y5 g=true):g.length<=60:=by
 unfold Y5 at h;rw[YLC]at h;exact YLM h.1
def oV:Option Int->V
 |none=>.non
 |some i=>.int i
inductive YH7 (K:W.Frag) (vs:List V) (H:Hp) (Q:VK):Prop where
 |mk (a:Addr) (ns:List Int) (k:Int) (aX:vs=[.ref a,.int k]) (aY:SqL K H a (ns.map V.int)) (bU:0<=k) (cN:∀v:Int,Q (.int v) H):YH7 K vs H Q
def YHG (K:W.Frag):Sp:=λvs H Q E_=>YH7 K vs H Q
inductive YKJ (K:W.Frag) (vs:List V) (H:Hp) (Q:VK):Prop where
 |mk (a:Addr) (ns:List Int) (aX:vs=[.ref a]) (aY:SqL K H a (ns.map V.int)) (bU:ns.length<=63) (cN:YL H) (dh:∀H',Q (.bl true) H'):YKJ K vs H Q
def YFn (K:W.Frag):Sp:=λvs H Q E_=>YKJ K vs H Q
theorem YI3 {K:W.Frag}{H:Hp}{a:Addr}{ns:List Int} (hl:ns.length<=63) (hO:Only H) (hS:SqL K H a (ns.map V.int)):YFn K [.ref a] H (λv _=>v=.bl true) λ_ _ _=>False:=
 ⟨a,ns,Z,hS,hl,YHD hO,λ_=>rfl⟩
def YH8 (l:List Nat):Bool:=decide (1<=l.length) && decide (l.length<=8) && l.all ZV
theorem YCJ (z:Str):isNameS z=YH8 z.cps.toList:=by
 unfold isNameS YH8;rw[YLK]
def BIG:Str:="ABCDEFGHIJKLMNOPQRSTUVWXYZ"
theorem YFo:BIG.cps.toList=(List.range 26).map (65 + ·):=by decide +kernel
theorem YE5:BIG.cps.toList.length=26:=by decide +kernel
theorem YDA:BIG.length<=sizeLine:=YF (by decide +kernel)
theorem YBC {c:Nat} (h:c∈BIG.cps.toList):ZV c=true:=by
 rw[YFo]at h;obtain⟨k,hk,rfl⟩:=YLL.mp h;have:=YME.mp hk;unfold ZV;rw[YK2 (by lia),YK2 (by lia)];rfl
theorem JV (a b:Str):(a ++ b).cps.toList=a.cps.toList ++ b.cps.toList:=by
 show(a.cps ++ b.cps).toList=_;exact Array.toList_append
def strOf:Expr->Str
 |.Constant (.str x) _ _=>x
 |.BinOp _ _ b _=>strOf b
 |_=>⟨#[]⟩
def valOf:Stmt->Str
 |.Assign _ v _=>strOf v
 |.Return (some v) _=>strOf v
 |_=>⟨#[]⟩
def YE6 (s:Stmt) (i:Nat):Str:=valOf ((Z1 s).getD i (.Pass ⟨0,0,0,0⟩))
def YBy:List Nat:=(List.range 95).filterMap λk=>if k=5 then none else some (32 + k)
theorem YHH {c:Nat} (h:c∈YBy):JF c=true:=by
 obtain⟨k,hk,e⟩:=List.mem_filterMap.mp h;have:=YME.mp hk;unfold JF;split at e
 ·cases e
 ·cases e;rw[YK2 (by lia),YK2 (by lia),YK0 (by lia)];rfl
theorem YI4:YBy.length=94:=by decide +kernel
theorem q_list:(("'":Str)).cps.toList=[39]:=by decide +kernel
theorem YDB (c:Nat):(("'":Str) ++ ⟨#[c]⟩).cps=#[39,c]:=by
 apply Array.ext';rw[JV,q_list];rfl
theorem YI5 {c:Nat} (h:JF c=true):Xa (("'":Str) ++ ⟨#[c]⟩)=true:=by
 unfold Xa;rw[YDB];show(true && JF c)=true;rw[h];rfl
theorem YI6 {c:Nat} (h:JF c=true):ZD (("'":Str) ++ ⟨#[c]⟩)=true:=by
 unfold ZD;rw[YI5 h];rfl
theorem YI7 {r:Y4} (h1:isNameS r.1=true) (h2:r.2.1.length<=6) (h3:∀z∈r.2.1,ZD z=true) (h4:0<=r.2.2) (h5:r.2.2<=10 ^ 60):Jz r=true:=by
 unfold Jz;have a:r.2.1.all ZD=true:=YLb.mpr h3;rw[h1,YK2 h2,a,YK2 h4,YK2 h5];rfl
theorem YFp {x:Str}{j:Int} (h0:0<=j) (h1:j<=x.length):(Txt.slice x none (some j)).cps.toList=x.cps.toList.take j.toNat:=by
 have h:=PyProof.Rows.slice_closes_to (x:=x) (j:=j) ⟨h0,by rw[YLK];exact h1⟩;have e:=eq_of_beq h;rw[e];show((x.cps.toList.drop (0:Int).toNat).take (j - 0).toNat)=_;rw[Int.sub_zero];rfl
theorem YDC {x:Str}{i:Int} (h0:0<=i) (h1:i<=x.length):(Txt.slice x (some i) none).cps.toList=x.cps.toList.drop i.toNat:=by
 have e:=PyProof.Rows.slice_from_eq (x:=x) (i:=i) (b:=x.length) h0 h1 rfl;rw[e];show((x.cps.toList.drop i.toNat).take ((x.length:Int) - i).toNat)=_;refine YL8 ?_;rw[List.length_drop,YLK];have:x.length=x.cps.size:=rfl
 lia
abbrev Sz:=List (Str×Int)
def szD (s:Sz):List (Key×V):=s.map λp=>(Sum.inr p.1,.int p.2)
def look (s:Sz) (z:Str):Option Int:=(s.find? λp=>decide (p.1=z)).map (·.2)
def Xv:Sz->Str->Int->Sz
 |[],z,n=>[(z,n)]
 |p :: s,z,n=>if p.1=z then (z,n) :: s else p :: Xv s z n
theorem Jf (p:Str×Int) (s:Sz) (z:Str):look (p :: s) z=if p.1=z then some p.2 else look s z:=by
 unfold look;rw[YMd]
 by_cases h:p.1=z
 ·rw[YK2 h,if_pos h];rfl
 ·rw[YK0 h,if_neg h]
theorem Xw (s:Sz) (z y:Str) (n:Int):look (Xv s z n) y=if y=z then some n else look s y:=by
 induction s with
 |nil=>
  show look [(z,n)] y=_;rw[Jf]
  by_cases h:y=z
  ·rw[if_pos h,if_pos h.symm]
  ·rw[if_neg h,if_neg (λe=>h e.symm)]
 |cons p s ih=>
  unfold Xv
  by_cases hp:p.1=z
  ·rw[if_pos hp,Jf,Jf]
   by_cases h:y=z
   ·rw[if_pos h,if_pos h.symm]
   ·rw[if_neg h,if_neg (λe=>h e.symm),if_neg (λe=>h (e.symm.trans hp))]
  ·rw[if_neg hp,Jf,Jf,ih]
   by_cases h:y=z
   ·rw[if_pos h,if_neg (λe=>hp (e.trans h))];rw[if_pos h]
   ·rw[if_neg h];simp only[if_neg h]
theorem Xx {s:Sz}{z:Str}{n:Int} (h:look s z=some n):(z,n)∈s:=by
 unfold look at h;cases e:s.find? λp=>decide (p.1=z) with
 |none=>rw[e]at h;cases h
 |some p=>
  rw[e]at h;have h1:=List.find?_some e;have h2:p.1=z:=YLM h1;have h3:p.2=n:=YLP h;have:=YMW e;rw[<-h2,<-h3];exact this
theorem YI8 {s:Sz}{z:Str} (h:look s z=none):¬z∈s.map (·.1):=by
 intro m;obtain⟨p,hp,e⟩:=YLL.mp m;unfold look at h;cases e2:s.find? λp=>decide (p.1=z) with
 |some q=>rw[e2]at h;cases h
 |none=>
  have:=List.find?_eq_none.mp e2 p hp;exact this (YK2 e)
theorem Xd {s:Sz} (nd:(s.map (·.1)).Nodup) {z:Str}{n:Int} (h:(z,n)∈s):look s z=some n:=by
 induction s with
 |nil=>cases h
 |cons p s ih=>
  rw[YLR,YL1]at nd;rw[Jf];rcases YLB.mp h with e |h
  ·rw[<-e,if_pos rfl]
  ·rw[if_neg,ih nd.2 h];intro e;exact nd.1 (e ▸ YLL.mpr ⟨_,h,Z⟩)
theorem YFq (s:Sz) (z:Str) (n:Int):(Xv s z n).map (·.1)=if z∈s.map (·.1) then s.map (·.1) else s.map (·.1) ++ [z]:=by
 induction s with
 |nil=>rfl
 |cons p s ih=>
  unfold Xv
  by_cases h:p.1=z
  ·rw[if_pos h,if_pos (by rw[YLR,h];exact YLJ ..),YLR,YLR,h]
  ·rw[if_neg h,YLR,ih,YLR]
   by_cases m:z∈s.map (·.1)
   ·rw[if_pos m,if_pos (YLA _ m)]
   ·rw[if_neg m,if_neg (λe=>(YLB.mp e).elim (λe=>h e.symm) m)];rfl
theorem Xy (z:Str):∀s:Sz,Zf (szD s) (Sum.inr z)=(look s z).map V.int
 |[]=>rfl
 |p :: s=>by
  show Zf ((Sum.inr p.1,V.int p.2) :: szD s) (Sum.inr z)=_;rw[Jf]
  by_cases e:p.1=z
  ·rw[Zd (by rw[e]),if_pos e];rfl
  ·rw[Zo (λh=>e (Sum.inr.inj h)),Xy z s,if_neg e]
theorem put_szD {s:Sz} (nd:(s.map (·.1)).Nodup) (z:Str) (n:Int):ZR (szD s) (Sum.inr z) (.int n)=szD (Xv s z n):=by
 induction s with
 |nil=>rfl
 |cons p s ih=>
  rw[YLR,YL1]at nd;unfold Xv
  by_cases e:p.1=z
  ·rw[if_pos e];have:Zf (szD (p :: s)) (Sum.inr z)=some (.int p.2):=by
    show Zf ((Sum.inr p.1,V.int p.2) :: szD s) (Sum.inr z)=_;rw[Zd (by rw[e])]
   unfold ZR;rw[XE,this,if_pos (show(some (V.int p.snd)).isSome=true from rfl)];show((Sum.inr p.1,V.int p.2) :: szD s).map _=(Sum.inr z,V.int n) :: szD s;rw[YLR];congr 1
   ·show(if (Sum.inr p.1:Key)=Sum.inr z then _ else _)=_;rw[if_pos (by rw[e]),e]
   ·refine(YMA λq hq=>?_).trans (List.map_id _);obtain⟨r,hr,rfl⟩:=YLL.mp hq;show(if (Sum.inr r.1:Key)=Sum.inr z then _ else _)=_;rw[if_neg]
    ·rfl
    ·intro h;exact nd.1 (by rw[e,<-Sum.inr.inj h];exact YLL.mpr ⟨r,hr,Z⟩)
  ·rw[if_neg e];have ih:=ih nd.2;show ZR ((Sum.inr p.1,V.int p.2) :: szD s) (Sum.inr z) (.int n)=(Sum.inr p.1,V.int p.2) :: szD (Xv s z n);rw[<-ih];unfold ZR;have e1:(((Sum.inr p.1,V.int p.2) :: szD s).any λkv=>decide (kv.1=(Sum.inr z:Key)))=(szD s).any λkv=>decide (kv.1=(Sum.inr z:Key)):=by
    rw[List.any_cons,YK0 (λh=>e (Sum.inr.inj h))];rfl
   rw[e1];split
   ·rw[YLR];congr 1;show(if (Sum.inr p.1:Key)=Sum.inr z then _ else _)=_;rw[if_neg (λh=>e (Sum.inr.inj h))]
   ·rfl
def isQ (p:Str):Bool:=Txt.startswith p "'"
def J2 (s:Sz) (q:Int) (p:Str):Option Int:=if isQ p=true then some q else look s p
def Z6 (s:Sz) (q:Int):List Str->Int->Option Int
 |[],acc=>some acc
 |p :: ps,acc=>match J2 s q p with
  |none=>none
  |some m=>Z6 s q ps (acc + m)
def YAJ (s:Sz) (q:Int) (ps:List Str):Option Int:=Z6 s q ps 1
def LeS (s' s:Sz):Prop:=∀z v,look s z=some v->∃v',look s' z=some v'/\v'<=v
theorem YAC {s s':Sz}{q:Int} (h:LeS s' s):∀{ps:List Str}{a a' k:Int},a'<=a->Z6 s q ps a=some k->∃k',Z6 s' q ps a'=some k'/\k'<=k
 |[],a,a',k,ha,e=>by
  unfold Z6 at e ⊢;cases e;exact⟨_,Z,ha⟩
 |p :: ps,a,a',k,ha,e=>by
  unfold Z6 at e ⊢;unfold J2 at e ⊢
  by_cases hq:isQ p=true
  ·rw[if_pos hq]at e ⊢;exact YAC h (by lia) e
  ·rw[if_neg hq]at e ⊢;cases e1:look s p with
   |none=>rw[e1]at e;cases e
   |some v=>
    rw[e1]at e;obtain⟨v',e2,hv⟩:=h p v e1;rw[e2];exact YAC h (show a' + v'<=a + v by lia) e
theorem YFr {s:Sz}{q B:Int} (hq:q<=B) (hs:∀z v,look s z=some v->v<=B):∀{ps:List Str}{a k:Int},Z6 s q ps a=some k->k<=a + ps.length * B
 |[],a,k,e=>by
  unfold Z6 at e;cases e;simp
 |p :: ps,a,k,e=>by
  unfold Z6 at e;cases e1:J2 s q p with
  |none=>rw[e1]at e;cases e
  |some m=>
   rw[e1]at e;have hm:m<=B:=by
    unfold J2 at e1;split at e1
    ·cases e1;exact hq
    ·exact hs p m e1
   have:=YFr hq hs e;rw[YK6,show(((ps.length + 1:Nat):Int)) * B=ps.length * B + B by rw[Int.natCast_add];show((ps.length:Int) + 1) * B=_;rw[YMC,YMX]]
   lia
theorem YFs {s:Sz}{q:Int} (hq:0<=q) (hs:∀z v,look s z=some v->0<=v):∀{ps:List Str}{a k:Int},Z6 s q ps a=some k->a<=k
 |[],a,k,e=>by
  unfold Z6 at e;cases e;exact YLk _
 |p :: ps,a,k,e=>by
  unfold Z6 at e;cases e1:J2 s q p with
  |none=>rw[e1]at e;cases e
  |some m=>
   rw[e1]at e;have hm:0<=m:=by
    unfold J2 at e1;split at e1
    ·cases e1;exact hq
    ·exact hs p m e1
   have:=YFs hq hs e
   lia
def bnd (q:Int) (n:Nat):Int:=(1 + 6 * q) * 7 ^ n
theorem YH9 {q:Int} (hq:0<=q) (n:Nat):1 + 6 * q<=bnd q n:=by
 unfold bnd;have h1:(1:Int)<=7 ^ n:=Int.pow_pos (by decide:(0:Int) < 7);have:=YLv h1 (show 0<=1 + 6 * q by lia);rw[Int.mul_one]at this;exact this
theorem YFt (q:Int) (n:Nat):bnd q (n + 1)=7 * bnd q n:=by
 unfold bnd;rw[Int.pow_succ,<-Int.mul_assoc,Int.mul_comm]
theorem YFu {q:Int} (hq:0<=q) {m n:Nat} (h:m<=n):bnd q m<=bnd q n:=by
 induction h with
 |refl=>exact YLk _
 |step _ ih=>
  rename_i k _
  rw[YFt];have h2:=YH9 hq k
  lia
structure YAW (g:Yy) (q:Int) (s:Sz):Prop where
 nd:(s.map (·.1)).Nodup
 pos:∀z v,look s z=some v->1<=v
 bd:∀z v,look s z=some v->v<=bnd q s.length
 hd:∀z v,look s z=some v->∃r∈g,r.1=z/\∃m,YAJ s q r.2.1=some m/\m<=v
def Fix (g:Yy) (q:Int) (s:Sz):Prop:=∀r∈g,∀m,YAJ s q r.2.1=some m->∃v,look s r.1=some v/\v<=m
theorem YBX {κ:Type}:∀{l:List κ}{k:κ},l.Nodup->¬k∈l->(l ++ [k]).Nodup
 |[],k,_,_=>by simp
 |a :: r,k,h,hk=>by
  obtain⟨h1,h2⟩:=YL1.mp h;show(a :: (r ++ [k])).Nodup;refine YL1.mpr ⟨λm=>?_,YBX h2 λm=>hk (YLB.mpr (Or.inr m))⟩;rcases YLQ.mp m with q |q
  ·exact h1 q
  ·exact hk (YLB.mpr (Or.inl (YK4.mp q).symm))
theorem YEJ {xs ys:List Str} (h:xs.Nodup) (hs:∀x∈xs,x∈ys):xs.length<=ys.length:=by
 induction xs generalizing ys with
 |nil=>exact YLS _
 |cons x xs ih=>
  rw[YL1]at h;have hx:=hs x (YLJ ..);have:=ih (ys:=ys.erase x) h.2 λy hy=>by
   have hne:y≠x:=λe=>h.1 (e ▸ hy)
   exact(List.mem_erase_of_ne hne).mpr (hs y (YLA _ hy))
  rw[List.length_erase_of_mem hx]at this;have hpos:=List.length_pos_of_mem hx;rw[YK6]
  lia
theorem YAW.len {g:Yy}{q:Int}{s:Sz} (h:YAW g q s):s.length<=g.length:=by
 have:=YEJ (ys:=g.map (·.1)) h.nd λx hx=>by
  obtain⟨p,hp,rfl⟩:=YLL.mp hx;obtain⟨r,hr,e,_⟩:=h.hd p.1 p.2 (Xd h.nd hp);rw[<-e];exact YLL.mpr ⟨r,hr,Z⟩
 rwa [YKu,YKu]at this
def mu (g:Yy) (q:Int) (s:Sz):Nat:=(g.map λr=>match look s r.1 with
 |none=>(bnd q 60).toNat + 1
 |some v=>v.toNat).sum
theorem YHI {α:Type}{f f':α->Nat}:∀{l:List α},(∀x∈l,f' x<=f x)->(∃x∈l,f' x < f x)->(l.map f').sum < (l.map f).sum
 |[],_,⟨_,h,_⟩=>by cases h
 |a :: l,h,⟨x,hx,hlt⟩=>by
  rw[YLR,YLR,YMi,YMi];have ha:=h a (YLJ ..);have hle:∀(l:List α),(∀x∈l,f' x<=f x)->(l.map f').sum<=(l.map f).sum:=by
   intro l
   induction l with
   |nil=>intro _;exact YKv _
   |cons b l ih=>
    intro h;rw[YLR,YLR,YMi,YMi];have h1:=h b (YLJ ..);have h2:=ih λx hx=>h x (YLA _ hx)
    lia
  rcases YLB.mp hx with rfl |hx
  ·have:=hle l λx hx=>h x (YLA _ hx)
   lia
  ·have:=YHI (λx hx=>h x (YLA _ hx)) ⟨x,hx,hlt⟩
   lia
theorem YIA (s:Sz) (z:Str) (n:Int):(Xv s z n).length=if z∈s.map (·.1) then s.length else s.length + 1:=by
 have:=YL5 List.length (YFq s z n);rw[YKu]at this;rw[this];split
 ·rw[YKu]
 ·rw[YK5,YKu];rfl
theorem YAW.step {g:Yy}{q:Int}{s:Sz} (hg:Y5 g=true) (hq:0<=q) (h:YAW g q s) {r:Y4} (hr:r∈g) {m:Int} (hm:YAJ s q r.2.1=some m) (hv:∀v,look s r.1=some v->m < v):
  YAW g q (Xv s r.1 m)/\mu g q (Xv s r.1 m) < mu g q s:=by
 have m6:g.length<=60:=by
  unfold Y5 at hg;rw[YLC]at hg;exact YLM hg.1
 have vR:r.2.1.length<=6:=by
  unfold Y5 at hg;rw[YLC]at hg;have:=YLb.mp hg.2 r hr;unfold Jz at this;simp only[YLC,YLm]at this;exact this.2.1.1
 have hB:=YH9 hq s.length;have hm1:1<=m:=YFs hq (λz v e=>YL0 (by decide) (h.pos z v e)) hm;have hmB:m<=7 * bnd q s.length:=by
  have h1:=YFr (show q<=bnd q s.length by lia) h.bd hm;have h2:(r.2.1.length:Int) * bnd q s.length<=6 * bnd q s.length:=YLs (by lia) (by lia)
  lia
 have le:LeS (Xv s r.1 m) s:=λz v e=>by
  rw[Xw]
  by_cases hz:z=r.1
  ·rw[if_pos hz];have:=hv v (hz ▸ e);exact⟨m,Z,by lia⟩
  ·rw[if_neg hz];exact⟨v,e,YLk _⟩
 have Rv:((Xv s r.1 m).map (·.1)).Nodup:=by
  rw[YFq];split
  ·exact h.nd
  ·rename_i hn
   exact YBX h.nd hn
 have Wl:m<=bnd q (Xv s r.1 m).length:=by
  rw[YIA];split
  ·rename_i hmem
   obtain⟨p,hp,e⟩:=YLL.mp hmem;have:=Xd h.nd (z:=p.1) (n:=p.2) hp;rw[e]at this;have h1:=hv _ this;have h2:=h.bd _ _ this
   lia
  ·rw[YFt];exact hmB
 have lenle:s.length<=(Xv s r.1 m).length:=by
  rw[YIA];split <;> lia
 have Wm:YAW g q (Xv s r.1 m):=by
  refine⟨Rv,λz v e=>?_,λz v e=>?_,λz v e=>?_⟩
  ·rw[Xw]at e;split at e
   ·cases e;exact hm1
   ·exact h.pos z v e
  ·rw[Xw]at e;split at e
   ·cases e;exact Wl
   ·exact YL0 (h.bd z v e) (YFu hq lenle)
  ·rw[Xw]at e;split at e
   ·rename_i hz
    cases e;obtain⟨k',e1,e2⟩:=YAC le (YLk 1) hm;exact⟨r,hr,hz.symm,k',e1,e2⟩
   ·obtain⟨r',hr',e1,k,e2,e3⟩:=h.hd z v e;obtain⟨k',e4,e5⟩:=YAC le (YLk 1) e2;exact⟨r',hr',e1,k',e4,by lia⟩
 refine⟨Wm,?_⟩;have zA:bnd q (Xv s r.1 m).length<=bnd q 60:=YFu hq (YLU Wm.len m6);have We:m<=bnd q 60:=YL0 Wl zA;unfold mu;refine YHI (λx hx=>?_) ⟨r,hr,?_⟩
 ·rw[Xw]
  by_cases hz:x.1=r.1
  ·rw[if_pos hz,hz];cases e:look s r.1 with
   |none=>show m.toNat<=(bnd q 60).toNat + 1;lia
   |some v=>
    have:=hv v e;show m.toNat<=v.toNat
    lia
  ·rw[if_neg hz];exact YKv _
 ·rw[Xw,if_pos rfl];cases e:look s r.1 with
  |none=>show m.toNat < (bnd q 60).toNat + 1;lia
  |some v=>
   have:=hv v e;show m.toNat < v.toNat
   lia
theorem YAW.nil (g:Yy) (q:Int):YAW g q [] where
 nd:=List.nodup_nil
 pos:=λz v e=>by cases e
 bd:=λz v e=>by cases e
 hd:=λz v e=>by cases e
abbrev Wait:=Str ⊕ Nat
def numD (g:Yy):D->Option Y4
 |.int i=>if 0<=i then g[i.toNat]? else none
 |_=>none
structure Rdg where
 sg:List Nat
 bg:List Nat
 st:List Nat
def sgn (p:Str):Nat:=p.cps.getD 1 0
def fin (g:Yy):List Wait->Rdg->List D->Option Rdg
 |[],s,[]=>some s
 |[],_,_ :: _=>none
 |.inr k :: ws,s,ds=>fin g ws ⟨s.sg,s.bg,s.st.set k s.sg.length⟩ ds
 |.inl p :: ws,s,ds=>
  if isQ p=true then fin g ws ⟨s.sg ++ [sgn p],s.bg,s.st⟩ ds
  else match ds with
   |[]=>none
   |d :: sO=>match numD g d with
    |none=>none
    |some r=>if r.1=p then fin g (r.2.1.map Sum.inl ++ (Sum.inr s.bg.length :: ws)) ⟨s.sg,s.bg ++ [s.sg.length],s.st ++ [s.sg.length]⟩ sO else none
termination_by ws _ ds=>(ds.length,ws.length)
decreasing_by
 all_goals simp_wf
 all_goals first
  |(apply Prod.Lex.right;lia)
  |(apply Prod.Lex.left;lia)
end FR
namespace L2
open PySem PySem.Spec PyProof.Rows
section
variable {X:Cx}
variable {e:Expr}{es es0:List Expr}{t0 t:TA}{name:Str}{cg bw pos0:Pos}{k0:Nat}{id:String}{r:V->List V->Hp->VK->Prop}
end
end L2
namespace L2
open PySem PySem.Spec PyProof.Rows
section
open PySem.W
variable {K:W.Frag}{M:Model}
end
section
variable {X:Cx}
end
end L2
namespace L2
open PySem PySem.Spec PyProof.Rows
section
variable {X:Cx}{pins:List (Addr×Obj)}{σ:St}{H:Hp}{s:Shared}{d:Addr}{o:Obj}{kvs:List (Key×V)}
theorem Inv.freeze (I:Inv X pins σ H s) (hd:H d=some (.dK kvs)) (ho:s.heap.get? d=some o):Inv X pins σ (upd H d (.frz o (.dK kvs))) s:=by
 have nt:∀c xs,H c=some (.tup xs)->c≠d:=λc xs r z=>by rw[z,hd]at r;cases r
 refine I.write (x:=d) (e:=d) (h':=s.heap) (t':=s.toks) (by rw[hd];trivial) (.inl rfl) (λ_ _ _ e=>e) ⟨o,ho⟩ ⟨ho,?_⟩;exact(I.hok d _ hd).stay (λ_ _ _ e=>e) (λb e=>by rw[YH (YDs e hd nofun)];exact e) λb xs e=>by rw[YH (nt b xs e)];exact e
end
theorem KV.get {kvs:List (Key×V)}{vs:List (Key×Value)} (r:KV kvs vs):∀{i:Nat}{kv:Key×V},kvs[i]?=some kv->∃u,vs[i]?=some (kv.1,u)/\Yk kv.2 u:=by
 unfold KV at r
 induction r with
 |nil=>intro i kv e;cases e
 |@cons p q ps qs h t ih=>
  intro i kv e;cases i with
  |zero=>
   cases e;exact⟨q.2,by rw[h.1];rfl,h.2⟩
  |succ j=>exact ih (i:=j) e
section
variable {X:Cx}{jL:List Expr}{k:Nat}{lz:Pos}
end
end L2
namespace FR
open PySem L2
end FR
namespace L2
open PySem PySem.Spec PyProof.Rows
theorem YKK:mroOf (.type "reversed")=pure [.type "reversed",.type "object"]:=by rw[mroOf_type];kernel_rfl
theorem rv_newl:typeLookup (.type "reversed") "__new__"=pure (some (.builtin "reversed.__new__")):=by rw[typeLookup_type,builtinLookup_eq_fast];kernel_rfl
theorem rv_init:Slot "reversed" "__init__" "object.__init__":=.of (owner:="object") (n:="__init__") (by rw[typeLookup_type,builtinLookup_eq_fast];kernel_rfl) (by decide +kernel) (by decide +kernel) (by decide +kernel) (by first |exact .inl (by decide +kernel) |exact .inr (by decide +kernel)) (by rw[isSubtype_type];kernel_rfl)
theorem YAt:TypeCalled "reversed" "reversed.__new__" "object.__init__":=⟨by decide +kernel,by decide +kernel,⟨_,_,YKK⟩,madeBy_type YKK rv_newl (by decide +kernel),by decide +kernel,by rw[isSubtype_type];kernel_rfl,rv_init⟩
theorem YCK (a:Value):checkTypeCall "reversed" ⟨[a],[]⟩=pure ():=by kernel_rfl
theorem YDD (a:Value):checkBuiltinCall "reversed.__new__" ⟨[.type "reversed",a],[]⟩=pure ():=by kernel_rfl
theorem YFv:entryFor table "reversed.__new__"=some Builtin.«reversed.__new__»:=entryFor_of_tree (by kernel_rfl)
theorem YKL:typeLookup (.type "tuple") "__reversed__"=pure none:=by rw[typeLookup_type,builtinLookup_eq_fast];kernel_rfl
theorem YKM:typeLookup (.type "tuple") "__getitem__"=pure (some (.builtin "tuple.__getitem__")):=by rw[typeLookup_type,builtinLookup_eq_fast];kernel_rfl
theorem YKN:isSubtype (.type "tuple") (.type "dict")=pure false:=by rw[isSubtype_type];kernel_rfl
theorem rv_nsub:isSubtype (.type "list_reverseiterator") (.type "reversed")=pure false:=by rw[isSubtype_type];kernel_rfl
theorem YFw:Slot "list_reverseiterator" "__iter__" "list_reverseiterator.__iter__":=.of (owner:="list_reverseiterator") (n:="__iter__") (by rw[typeLookup_type,builtinLookup_eq_fast];kernel_rfl) (by decide +kernel) (by decide +kernel) (by decide +kernel) (by first |exact .inl (by decide +kernel) |exact .inr (by decide +kernel)) (by rw[isSubtype_type];kernel_rfl)
theorem YAX:Slot "list_reverseiterator" "__next__" "list_reverseiterator.__next__":=.of (owner:="list_reverseiterator") (n:="__next__") (by rw[typeLookup_type,builtinLookup_eq_fast];kernel_rfl) (by decide +kernel) (by decide +kernel) (by decide +kernel) (by first |exact .inl (by decide +kernel) |exact .inr (by decide +kernel)) (by rw[isSubtype_type];kernel_rfl)
theorem lr_entI:entryFor table "list_reverseiterator.__iter__"=some Builtin.«dict_keyiterator.__iter__»:=entryFor_alias (id':="dict_keyiterator.__iter__") (by kernel_rfl) rfl (by decide +kernel) (by kernel_rfl)
theorem YIB:entryFor table "list_reverseiterator.__next__"=some Builtin.«list_reverseiterator.__next__»:=entryFor_of_tree (by kernel_rfl)
theorem lr_argI (a:Value):argsOk "list_reverseiterator.__iter__" ⟨[a],[]⟩:=by unfold argsOk;kernel_rfl
theorem YIC (a:Value):argsOk "list_reverseiterator.__next__" ⟨[a],[]⟩:=by unfold argsOk;kernel_rfl
theorem YFx:Slot "reversed" "__iter__" "reversed.__iter__":=.of (owner:="reversed") (n:="__iter__") (by rw[typeLookup_type,builtinLookup_eq_fast];kernel_rfl) (by decide +kernel) (by decide +kernel) (by decide +kernel) (by first |exact .inl (by decide +kernel) |exact .inr (by decide +kernel)) (by rw[isSubtype_type];kernel_rfl)
theorem YAY:Slot "reversed" "__next__" "reversed.__next__":=.of (owner:="reversed") (n:="__next__") (by rw[typeLookup_type,builtinLookup_eq_fast];kernel_rfl) (by decide +kernel) (by decide +kernel) (by decide +kernel) (by first |exact .inl (by decide +kernel) |exact .inr (by decide +kernel)) (by rw[isSubtype_type];kernel_rfl)
theorem rv_entI:entryFor table "reversed.__iter__"=some Builtin.«dict_keyiterator.__iter__»:=entryFor_alias (id':="dict_keyiterator.__iter__") (by kernel_rfl) rfl (by decide +kernel) (by kernel_rfl)
theorem YID:entryFor table "reversed.__next__"=some Builtin.«reversed.__next__»:=entryFor_of_tree (by kernel_rfl)
theorem rv_argI (a:Value):argsOk "reversed.__iter__" ⟨[a],[]⟩:=by unfold argsOk;kernel_rfl
theorem YIE (a:Value):argsOk "reversed.__next__" ⟨[a],[]⟩:=by unfold argsOk;kernel_rfl
end L2
namespace L2
open PySem PySem.Spec PyProof.Rows
theorem YDE (l:Addr) (items:Array Value) (n:Nat):
  Meets (Builtin.«reversed.__new__» ⟨[.type "reversed",.ref l],[]⟩) (λA R s=>s.heap.get? l=some { cls:=.type "list",dict:=none,data:=.seq items n,slots:=#[] }/\
   R (.ok (.ret (.ref s.heap.objs.size))) { s with heap:=s.heap.push { cls:=.type "list_reverseiterator",data:=.fields #[.ref l,rawInt ((items.size:Int) - 1)] } }):=
 .of_wp λprog w A R s h=>by
  obtain⟨hp,g,d,tk,os⟩:=s;obtain⟨hl,h⟩:=h;have hsub:=YAt.sub;have hT:Shared.TypeIs ⟨hp,g,d,tk,os⟩ (.ref l) "list":=⟨_,hl,Z⟩;have Ri:=F.slot_list_reversed.lookup;have hb:=F.slot_list_reversed.bind (.ref l)
  wp_walk
  have key:=AutoListH.list___reversed___list_0 l items n prog w A.in1 (λ(r:Result) (s':Shared)=>r=Except.ok (Flow.ret (Value.ref hp.objs.size))/\s'=⟨hp.push { cls:=.type "list_reverseiterator",data:=.fields #[.ref l,rawInt ((items.size:Int) - 1)] },g,d,tk,os⟩) ⟨hp,g,d,tk,os⟩ ⟨hl,Z,Z⟩;refine codeAny_mono (codeAny_call_builtin (R:=(λ(r:Result) (s':Shared)=>r=Except.ok (Flow.ret (Value.ref hp.objs.size))/\s'=⟨hp.push { cls:=.type "list_reverseiterator",data:=.fields #[.ref l,rawInt ((items.size:Int) - 1)] },g,d,tk,os⟩)) F.slot_list_reversed.plain F.entry_list_reversed (F.slot_list_reversed.check _ _ _ _ _ _ _ _ hT (F.args_list_reversed_1 _) key)) λr s1 hr=>?_
  obtain⟨rfl,rfl⟩:=hr;exact YLO ⟨_,Z,h⟩
theorem YCP (l:Addr) (items:Array Value) (o:Obj) (n:Nat) (hc:o.cls=.type "tuple") (hd:o.data=.seq items n) (hz:(items.size:Int) < 2 ^ 63):
  Meets (Builtin.«reversed.__new__» ⟨[.type "reversed",.ref l],[]⟩) (λA R s=>s.heap.get? l=some o/\
   R (.ok (.ret (.ref s.heap.objs.size))) { s with heap:=s.heap.push { cls:=.type "reversed",data:=.fields #[.ref l,rawInt ((items.size:Int) - 1)] },toks:=s.toks + 1 + 1 }):=
 .of_wp λprog w A R s h=>by
  obtain⟨hp,g,d,tk,os⟩:=s;obtain⟨hl,h⟩:=h;have hsub:=YAt.sub;have hT:Shared.TypeIs ⟨hp,g,d,tk,os⟩ (.ref l) "tuple":=⟨_,hl,hc⟩;have h1:=YKL;have h2:=YKM;have h3:=YKN;have ht:IsTup (Shared.heap ⟨hp,g,d,tk,os⟩) l items:=⟨o,hl,hc,n,hd⟩
  wp_walk using len_tuple ht hz
  exact⟨_,Z,h⟩
section
variable {prog:Program}{w:World}{A:Around}{E:Value->Shared->Prop}{s:Shared}
theorem YDj {T T2 newId initId:String}{Bn:Builtin}{args:List Value}{S:PySem.Spec}{Q:Value->Shared->Prop} (ft:TypeCalled T newId initId) (hn:isSubtype (.type T2) (.type T)=pure false)
  (hct:checkTypeCall T ⟨args,[]⟩=pure ()) (Wn:checkBuiltinCall newId ⟨.type T :: args,[]⟩=pure ()) (entryN:entryFor table newId=some Bn) (g:Meets (Bn ⟨.type T :: args,[]⟩) S)
  (h:S A.in1 (wants (λobj s1=>s1.TypeIs obj T2/\Q obj s1) E) s):wpAny (model prog w) A (call (.type T) args) Q E s:=by
 obtain⟨_,_,m0⟩:=ft.mro;have m1:=ft.made;have m2:=ft.sub;have m3:=ft.notType;have m4:=ft.canCreate;refine wpAny_call (codeAny_of_tree (show wpAny _ _ (callAny (.type T) _) _ _ _ from YLO ⟨Code.quiet_builtin _ (by decide +kernel),codeAny_builtin F.entry_type_call ?_⟩));rw[Around.under_plain (weight_type_call_type T args []) (units_type_call_type T args [])];repeat any_goals first |assumption |wp_step
 refine codeAny_mono (codeAny_call_builtin ft.plain entryN (wpAny_of_eq Wn (g prog w A.in1 _ s h))) λr s1 hr=>?_
 rcases r with e |fl
 ·exact hr
 ·cases fl with
  |ret obj=>
   obtain⟨hT,hq⟩:=hr
   repeat any_goals first |assumption |wp_step
  |_=>exact hr.elim
theorem YIF {α:Type}{Q:α->Shared->Prop}{E':Value->Shared->Prop} (hh:A.handled=none) (h:∀e h',(∀b o,s.heap.get? b=some o->h'.get? b=some o)->Shared.TypeIs { s with heap:=h' } e "StopIteration"->E' e { s with heap:=h' }):
  wpAny (model prog w) A (Builtin.SmallTypes.stopIteration:Sem α) Q E' s:=by
 unfold Builtin.SmallTypes.stopIteration;refine YKz ?_;simp only[newExc,newTuple];refine YKz (wpAny_newObj_type (YKz (m:=firstArgMember _ _) (wpAny_of_eq (a:=Value.none) (by first |rfl |(simp only[firstArgMember];rfl)) (wpAny_newObj_type ?_ (by size_fits)))) (by size_fits));simp only[raiseNew];refine YKz (wpAny_handled ?_);rw[hh];refine YKz (YLO (wpAny_throw (h _ _ (λb o e=>YK3 _ (YK3 _ e)) ?_)));exact⟨_,YLI _ rfl,Z⟩
def YE7 (h:Heap) (it l:Addr) (i:Int):Prop:=∃o,h.get? it=some o/\o.cls=.type "list_reverseiterator"/\o.data=.fields #[.ref l,.int i 0]
def YDk (h:Heap) (it l:Addr) (i:Int):Prop:=∃o,h.get? it=some o/\o.cls=.type "reversed"/\o.data=.fields #[.ref l,.int i 0]
theorem YDl {l:Addr}{items:Array Value}{n:Nat}{Q:Value->Shared->Prop} (hl:s.heap.get? l=some { cls:=.type "list",dict:=none,data:=.seq items n,slots:=#[] })
  (h:∀h',YE7 h' s.heap.objs.size l ((items.size:Int) - 1)->(∀b o,s.heap.get? b=some o->h'.get? b=some o)->Q (.ref s.heap.objs.size) { s with heap:=h' }):wpAny (model prog w) A (call (.type "reversed") [.ref l]) Q E s:=by
 refine YDj YAt rv_nsub (YCK _) (YDD _) YFv (YDE l items n) ⟨hl,?_⟩;exact⟨⟨_,YLI _ rfl,Z⟩,h _ ⟨_,YLI _ rfl,Z,Z⟩ λb o e=>YK3 _ e⟩
theorem YDF {l:Addr}{items:Array Value}{Q:Value->Shared->Prop} (hl:IsTup s.heap l items) (hz:(items.size:Int) < 2 ^ 63)
  (h:∀h',YDk h' s.heap.objs.size l ((items.size:Int) - 1)->(∀b o,s.heap.get? b=some o->h'.get? b=some o)->Q (.ref s.heap.objs.size) { s with heap:=h',toks:=s.toks + 1 + 1 }):wpAny (model prog w) A (call (.type "reversed") [.ref l]) Q E s:=by
 obtain⟨o,ho,hc,n,hd⟩:=hl;refine callType_new YAt (by decide) (YCK _) (YDD _) (λobj=>F.args_object_init_2 obj _) YFv (YCP l items o n hc hd hz) ⟨ho,?_⟩;exact⟨⟨_,YLI _ rfl,Z⟩,h _ ⟨_,YLI _ rfl,Z,Z⟩ λb o e=>YK3 _ e⟩
theorem YEK {it l:Addr}{i:Int}{Q:Value->Shared->Prop} (hit:YE7 s.heap it l i) (h:Q (.ref it) s):wpAny (model prog w) A (pyIter (.ref it)) Q E s:=by
 obtain⟨o,ho,hc,hd⟩:=hit;have hT:s.TypeIs (.ref it) "list_reverseiterator":=⟨o,ho,hc⟩;refine wpAny_pyIter_slot hT YFw (wpAny_call_entry YFw hT lr_entI ?_ (lr_argI _));show wpAny _ _ (ret (.ref it)) _ _ s;exact YLO ⟨_,Z,"list_reverseiterator",_,hT,YAX.lookup,h⟩
theorem YEL {it l:Addr}{i:Int}{Q:Value->Shared->Prop} (hit:YDk s.heap it l i) (h:Q (.ref it) s):wpAny (model prog w) A (pyIter (.ref it)) Q E s:=by
 obtain⟨o,ho,hc,hd⟩:=hit;have hT:s.TypeIs (.ref it) "reversed":=⟨o,ho,hc⟩;refine wpAny_pyIter_slot hT YFx (wpAny_call_entry YFx hT rv_entI ?_ (rv_argI _));show wpAny _ _ (ret (.ref it)) _ _ s;exact YLO ⟨_,Z,"reversed",_,hT,YAY.lookup,h⟩
theorem YI9 {it l:Addr}{i:Nat}{items:Array Value}{x:Value}{Q:Option Value->Shared->Prop} (hit:YE7 s.heap it l i) (hl:s.heap.IsList l items) (hx:items[i]?=some x)
  (hQ:∀h',YE7 h' it l ((i:Int) - 1)->Heap.SameBut it s.heap h'->Q (some x) { s with heap:=h' }):wpAny (model prog w) A (pyNext (.ref it)) Q E s:=by
 obtain⟨o,ho,hc,hd⟩:=id hit;obtain⟨ol,hol,_,nl,hdl⟩:=hl;have hT:s.TypeIs (.ref it) "list_reverseiterator":=⟨o,ho,hc⟩;unfold pyNext;refine YKz (wpAny_attempt (wpAny_callSpecial?_slot (name:=Str.ofString "__next__") hT YAX (wpAny_call_entry YAX hT YIB ?_ (YIC _))));unfold Builtin.«list_reverseiterator.__next__»;refine YKz (YLO (YKz (wpAny_field ho hd (x:=.int i 0) rfl ?_)));show wpAny _ _ (if ((i:Nat):Int) < 0 then _ else _) _ _ s;rw[if_neg (by lia)];refine YKz (wpAny_field ho hd (x:=.ref l) rfl (YKz (wpAny_seqItems hol hdl ?_)));simp only[hx,Int.toNat_natCast];exact YKz (wpAny_setField ho hd (by simp) (YLO ⟨_,Z,YLO (hQ _ ⟨_,YLp _ ho (Obj.isFreed_of_fields (Obj.data_mapFields hd _)),(Obj.cls_mapFields ..).trans hc,by rw[Obj.data_mapFields hd];simp[rawInt]⟩ (Heap.SameBut.update ..))⟩))
theorem YJA {it l:Addr}{i:Nat}{items:Array Value}{x:Value}{Q:Option Value->Shared->Prop} (hit:YDk s.heap it l i) (hl:IsTup s.heap l items) (hx:items[i]?=some x) (hz:(items.size:Int) < 2 ^ 63)
  (hQ:∀h',YDk h' it l ((i:Int) - 1)->Heap.SameBut it s.heap h'->Q (some x) { s with heap:=h',toks:=s.toks + 1 }):wpAny (model prog w) A (pyNext (.ref it)) Q E s:=by
 obtain⟨o,ho,hc,hd⟩:=id hit;have hT:s.TypeIs (.ref it) "reversed":=⟨o,ho,hc⟩;unfold pyNext;refine YKz (wpAny_attempt (wpAny_callSpecial?_slot (name:=Str.ofString "__next__") hT YAY (wpAny_call_entry YAY hT YID ?_ (YIE _))));unfold Builtin.«reversed.__next__»;refine YKz (YLO (YKz (wpAny_field ho hd (x:=.ref l) rfl (YKz (wpAny_field ho hd (x:=.int i 0) rfl ?_)))));show wpAny _ _ (if ((i:Nat):Int) < 0 then _ else _) _ _ s;rw[if_neg (by lia)];refine YKz (wpAny_specialOf hl.typeIs YKM ?_);show wpAny _ _ (mkInt (i:Int) >>= _) _ _ s;refine YKz (wpAny_mkInt ?_);have hlt:i < items.size:=(Array.getElem?_eq_some_iff.mp hx).1;have hsi:seqIndex? (i:Int) items.size=some i:=by
  unfold seqIndex?;simp
  lia
 refine YKz (wpAny_attempt (getItem_tuple (s:={ s with toks:=s.toks + 1 }) hl (by lia) (by lia) hsi hx ?_));refine YKz (wpAny_field (s:={ s with toks:=s.toks + 1 }) ho hd (x:=.int i 0) rfl ?_);exact YKz (wpAny_setField (s:={ s with toks:=s.toks + 1 }) ho hd (by simp) (YLO ⟨_,Z,YLO (hQ _ ⟨_,YLp _ ho (Obj.isFreed_of_fields (Obj.data_mapFields hd _)),(Obj.cls_mapFields ..).trans hc,by rw[Obj.data_mapFields hd];simp[rawInt]⟩ (Heap.SameBut.update ..))⟩))
theorem YKO {it l:Addr}{Q:Option Value->Shared->Prop} (hh:A.handled=none) (hit:YE7 s.heap it l (-1)) (hQ:∀h',Heap.ExtBut it s.heap h'->Q none { s with heap:=h' }):wpAny (model prog w) A (pyNext (.ref it)) Q E s:=by
 obtain⟨o,ho,hc,hd⟩:=id hit;have hT:s.TypeIs (.ref it) "list_reverseiterator":=⟨o,ho,hc⟩;unfold pyNext;refine YKz (wpAny_attempt (wpAny_callSpecial?_slot (name:=Str.ofString "__next__") hT YAX (wpAny_call_entry YAX hT YIB ?_ (YIC _))));unfold Builtin.«list_reverseiterator.__next__»;refine YKz (YLO (YKz (wpAny_field ho hd (x:=.int (-1) 0) rfl ?_)));show wpAny _ _ (if (-1:Int) < 0 then _ else _) _ _ s;rw[if_pos (by decide)];refine YKz (wpAny_rule (YKz (YIF (A:=A.in1) hh λe h' k ty=>?_)));exact YKz (wpAny_isInstance (b:=true) ty isSubtype_stop (YLO (hQ h' λb o _ q=>k b o q)))
theorem YKP {it l:Addr}{Q:Option Value->Shared->Prop} (hh:A.handled=none) (hit:YDk s.heap it l (-1)) (hQ:∀h',Heap.ExtBut it s.heap h'->Q none { s with heap:=h' }):wpAny (model prog w) A (pyNext (.ref it)) Q E s:=by
 obtain⟨o,ho,hc,hd⟩:=id hit;have hT:s.TypeIs (.ref it) "reversed":=⟨o,ho,hc⟩;unfold pyNext;refine YKz (wpAny_attempt (wpAny_callSpecial?_slot (name:=Str.ofString "__next__") hT YAY (wpAny_call_entry YAY hT YID ?_ (YIE _))));unfold Builtin.«reversed.__next__»;refine YKz (YLO (YKz (wpAny_field ho hd (x:=.ref l) rfl (YKz (wpAny_field ho hd (x:=.int (-1) 0) rfl ?_)))));show wpAny _ _ (if (-1:Int) < 0 then _ else _) _ _ s;rw[if_pos (by decide)];refine YKz (wpAny_rule (YKz (show wpAny _ _ (setField (.ref it) 1 (rawInt (-1)) >>= λ_=>setField (.ref it) 0 Value.none) _ _ s from YKz (wpAny_setField ho hd (by simp) ?_))));have Qp:=YLp (h:=s.heap) (a:=it) (o:=o) (λo=>o.mapFields λvs=>vs.set! 1 (rawInt (-1))) ho (Obj.isFreed_of_fields (Obj.data_mapFields hd _));have hd2:(Obj.mapFields (λvs=>vs.set! 1 (rawInt (-1))) o).data=.fields #[.ref l,rawInt (-1)]:=by rw[Obj.data_mapFields hd];simp
 have b1:Heap.SameBut it s.heap (s.heap.update it λo=>Obj.mapFields (λvs=>vs.set! 1 (rawInt (-1))) o):=Heap.SameBut.update ..;refine wpAny_setField (s:={ s with heap:=s.heap.update it λo=>Obj.mapFields (λvs=>vs.set! 1 (rawInt (-1))) o }) Qp hd2 (by simp) (YKz (YIF (A:=A.in1) hh λe h' k ty=>?_));refine YKz (wpAny_isInstance (b:=true) ty isSubtype_stop (YLO (hQ h' λb o hb q=>k b o ?_)));exact((Heap.SameBut.update ..).2 b hb).trans ((b1.2 b hb).trans q)
end
end L2
namespace L2
open PySem PySem.Spec PyProof.Rows
theorem YKQ:typeLookup (.type "list_reverseiterator") "__len__"=pure none:=by rw[typeLookup_type,builtinLookup_eq_fast];kernel_rfl
theorem lr_hint:typeLookup (.type "list_reverseiterator") "__length_hint__"=pure (some (.builtin "list_reverseiterator.__length_hint__")):=by rw[typeLookup_type,builtinLookup_eq_fast];kernel_rfl
section
variable {prog:Program}{w:World}{A:Around}{E:Value->Shared->Prop}{s:Shared}
theorem YHJ (hh:A.handled=none) (it l:Addr) (hne:l≠it) (items:Array Value):
  Walks prog w A it [it,l] [it] items.size (λi v=>items[items.size - 1 - i]?=some v) (λi h=>YE7 h it l ((items.size:Int) - 1 - i)/\h.IsList l items) where
 sub:=λb hb=>by simp at hb;simp[hb]
 frame:=λi h h' st hk=>by
  obtain⟨⟨o,a,b,c⟩,q⟩:=st;exact⟨⟨o,hk it (by simp) o a,b,c⟩,q.at λo e=>hk l (by simp) o e⟩
 item:=λi s Q E hi st hQ=>by
  have e:((items.size:Int) - 1 - (i:Nat))=((items.size - 1 - i:Nat):Int):=by lia
  rw[e]at st;refine YI9 st.1 st.2 (x:=items[items.size - 1 - i]) (by simp) λh' hit' hs'=>?_
  refine hQ _ h' s.toks (by simp) ⟨?_,st.2.extBut hs'.extBut hne⟩ λb o hb q=>hs'.extBut b o (λz=>hb (by simp[z])) q
  have e2:((items.size - 1 - i:Nat):Int) - 1=(items.size:Int) - 1 - ((i + 1:Nat):Int):=by lia
  rw[e2]at hit';exact hit'
 done:=λs Q E st hQ=>by
  have e:((items.size:Int) - 1 - (items.size:Nat))=-1:=by lia
  rw[e]at st;exact YKO hh st.1 λh' he'=>hQ h' s.toks λb o hb q=>he' b o (λz=>hb (by simp[z])) q
 self:=λ_ _ _ _ st hQ=>YEK st.1 hQ
theorem YJB {it l:Addr}{i:Int}{Q:Bool->Shared->Prop} (hit:YE7 s.heap it l i) (h:Q false s):wpAny (model prog w) A (Builtin.List.listLengthHint (.ref it)) Q E s:=by
 obtain⟨o,ho,hc,hd⟩:=hit;have hT:s.TypeIs (.ref it) "list_reverseiterator":=⟨o,ho,hc⟩;unfold Builtin.List.listLengthHint;refine YKz (wpAny_specialOf hT YKQ ?_);show wpAny _ _ (specialOf (Value.ref it) (Str.ofString "__length_hint__") >>= _) _ _ _;refine YKz (wpAny_specialOf hT lr_hint ?_);generalize hid:("list_reverseiterator.__length_hint__":String)=Qq
 wp_delta;rw[show splitId Qq=some ("list_reverseiterator","__length_hint__") from by subst hid;decide +kernel];subst hid
 refine YKz (wpAny_isInstance (T:="list_reverseiterator") (b:=true) hT (by rw[isSubtype_type];kernel_rfl) ?_);exact YLO h
theorem YDG {it l:Addr}{items:Array Value}{Q:Value->Shared->Prop} (hh:A.handled=none) (hit:YE7 s.heap it l ((items.size:Int) - 1)) (hl:s.heap.IsList l items) (hne:l≠it) (hn:items.size<=sizeLine)
  (hQ:∀h' tk cR c',(∀b o,b≠it->s.heap.get? b=some o->h'.get? b=some o)->h'.get? s.heap.objs.size=some { cls:=.type "list",dict:=none,data:=.seq cR c',slots:=#[] }->
   ItemsOf (λi v=>items[items.size - 1 - i]?=some v) cR items.size->Q (.ref s.heap.objs.size) { s with heap:=h',toks:=tk }):wpAny (model prog w) A (call (.type "list") [.ref it]) Q E s:=by
 have itlt:it < s.heap.objs.size:=by obtain⟨o,ho,_⟩:=hit;exact YK8 ho
 have llt:l < s.heap.objs.size:=by obtain⟨o,ho,_⟩:=hl;exact YK8 ho
 refine callType_codes (Q₁:=λobj t=>obj=.ref s.heap.objs.size/\t={ s with heap:=s.heap.push { cls:=.type "list",data:=.seq #[] } }) F.called_list (F.typeCall_list_1 _) F.entry_list_init (code_list_new _ ⟨Z,Z⟩) λobj t ht=>?_
 obtain⟨rfl,rfl⟩:=ht;have g0:(s.heap.push { cls:=.type "list",data:=.seq #[] }).get? s.heap.objs.size=some { cls:=.type "list",data:=.seq #[] }:=YLI _ rfl;refine⟨⟨_,g0,Z⟩,F.args_list_init_2 _ _,?_⟩;show wpAny _ _ (Builtin.List.listItems (.ref s.heap.objs.size) >>= λold=>Builtin.List.listUpdate (.ref s.heap.objs.size) (λ_=>#[]) >>= λ_=>letGo old.toList.reverse >>= λ_=>Builtin.List.listExtendWith (.ref s.heap.objs.size) (.ref it) .none) _ _ _;refine YKz ?_;unfold Builtin.List.listItems;refine YKz (wpAny_seqItems g0 rfl (YLO ?_));refine YKz (show wpAny _ _ (updateSeq s.heap.objs.size (λ_=>#[])) _ _ _ from wpAny_updateSeq g0 rfl ?_);have g1:=YLp (Obj.mapSeq (λ_=>(#[]:Array Value))) g0 rfl;have k1:∀b o,s.heap.get? b=some o->((s.heap.push { cls:=.type "list",data:=.seq #[] }).update s.heap.objs.size (Obj.mapSeq (λ_=>(#[]:Array Value)))).get? b=some o:=λb o e=>
  (YLc _ _ (YMJ (YK8 e))).trans (YK3 _ e)
 have jW:YE7 ((s.heap.push { cls:=.type "list",data:=.seq #[] }).update s.heap.objs.size (Obj.mapSeq (λ_=>(#[]:Array Value)))) it l ((items.size:Int) - 1):=by
  obtain⟨o,ho,r⟩:=hit;exact⟨o,k1 it o ho,r⟩
 have hl1:Heap.IsList ((s.heap.push { cls:=.type "list",data:=.seq #[] }).update s.heap.objs.size (Obj.mapSeq (λ_=>(#[]:Array Value)))) l items:=hl.at λo e=>k1 l o e
 refine YKz (wpAny_letGo ?_);revert g1 k1 jW hl1;generalize (s.heap.push { cls:=.type "list",data:=.seq #[] }).update s.heap.objs.size (Obj.mapSeq (λ_=>(#[]:Array Value)))=h1;intro g1 k1 jW hl1;have hT:Shared.TypeIs { s with heap:=h1 } (.ref it) "list_reverseiterator":=by obtain⟨o,ho,hc,_⟩:=jW;exact⟨o,ho,hc⟩
 unfold Builtin.List.listExtendWith;refine YKz (wpAny_typeOf hT ?_);have ns:Builtin.List.listSameRef (.ref s.heap.objs.size) (.ref it)=false:=by simp[Builtin.List.listSameRef,YMJ itlt]
 rw[if_neg (by rw[ns];decide)];refine YKz (YEK jW (YKz (wpAny_holding (YJB jW ?_))));refine(show wpAny _ _ (if _ then _ else _) _ _ _ from ?_);rw[if_neg (by decide)];have W:=(YHJ (prog:=prog) (w:=w) (A:=A.in1.in1) hh it l hne items).toS;have nf:s.heap.objs.size∉[it,l]:=by simp only[YLB,YLj,or_false,not_or];exact⟨YMJ itlt,YMJ llt⟩
 refine YLO ⟨plainId_quiet F.plain_extend_loop _,codeAny_extend_loopS W hn _ nf _ items.size 0 _ _ _ rfl (YLS _) ⟨by simpa using jW,hl1⟩ g1 (ItemsOf.nil _) λs' cR c' hm hS' hacc=>?_⟩;rw[Moved.eq_with hm];refine⟨Z,hQ s'.heap s'.toks cR c' (λb o hb e=>hm.heap b o (λhmem=>?_) (k1 b o e)) hS' hacc⟩;rcases YLB.mp hmem with z |hmem
 ·rw[z]at e;exact YLq _ (YK8 e)
 ·exact hb (YK4.mp hmem)
end
end L2
namespace L2
open PySem PySem.Spec PyProof.Rows
section
variable {X:Cx}{tg:Expr}
end
def YKR (ta:TA):TE:=λσ H Q=>ta σ H λvs H1=>∃a xs,vs=[.ref a]/\Rd H1 a (.lst xs)/\∀l,H1 l=none->Q (.ref l) (upd H1 l (.lst xs.reverse))
theorem YFy {X:Cx}{a:Expr}{ta:TA}{p p2 pos dN:Pos} (hc:X.calm=true) (hg:Gl X "list") (hm:X.mg "list"=none) (yd:Gl X "reversed") (hm2:X.mg "reversed"=none) (ha:PA X [a] ta)
  (hs:starEach [.Call (.Name "reversed" p2) [a] [] dN] X.env=[(false,eval (.Call (.Name "reversed" p2) [a] [] dN) X.env)]:=by rfl) (hs2:starEach [a] X.env=[(false,eval a X.env)]:=by rfl):
  PE X (.Call (.Name "list" p) [.Call (.Name "reversed" p2) [a] [] dN] [] pos) (YKR ta):=by
 intro pins s σ H Q I h;refine wpAny_Call_Name_kw (JR I hg hm YLu ?_);refine PyProof.Rows.callWith_type1 ?_ hs rfl;rw[hs];show wpAny _ _ (spliced ((false,eval (.Call (.Name "reversed" p2) [a] [] dN) X.env) :: [])) _ _ s;refine Calls.spliced_cons (wpAny_Call_Name_kw (JR I yd hm2 PyProof.Rows.Boot.«reversed» (PyProof.Rows.callWith_type1 (thn (ha dN pins s σ H _ I h) λus s1 ⟨vs,H1,I1,r1,q1⟩=>?_) hs2 rfl)));obtain⟨l,xs,rfl,hq,q⟩:=q1;obtain⟨u,rfl,ru⟩:=XY r1;cases ru;obtain⟨hz,its,n,rv,hl⟩:=(show Yp X.prog X.w H1 s1.heap l (.lst xs) from hq.ok I1.hok);have hlen:xs.length=its.length:=rv.length;refine YDl hl λh1 hit hk=>Calls.spliced_nil ?_
 refine YDG (s:={ s1 with heap:=h1 }) (items:=its.toArray) (I1.ok.hd hc) hit ⟨_,hk _ _ hl,Z,n,Z⟩ (YLW (YK8 hl)) (by rw[YK9];lia) λh' tk cR c' hk' hS hit'=>?_
 have sU:Yf xs.reverse cR.toList:=by
  refine YCd (by
   have e1:cR.toList.length=its.length:=(Array.length_toList.trans hit'.1).trans (YK9 ..);rw[YMB,hlen,e1]) λj x u h1 h2=>?_
  have h3:=hit'.2 j u (by rw[<-YLt];exact h2);have hj:j < xs.length:=by
   have:=(YKy.mp h1).1
   rwa [YMB]at this
  rw[List.getElem?_reverse hj]at h1;obtain⟨u',e1,r'⟩:=rv.get h1;rw[List.getElem?_toArray,YK9,<-hlen]at h3;rw[h3]at e1;cases e1;exact r'
 have le:s1.heap.objs.size<=h1.objs.size:=by
  obtain⟨o,ho,_⟩:=hit;exact YMf (YK8 ho)
 have kk:∀b u,s1.heap.get? b=some u->h'.get? b=some u:=λb u e=>hk' b u (YLW (YK8 e)) (hk b u e)
 exact⟨.ref h1.objs.size,_,I1.laid (t':=tk) kk le (show Yp X.prog X.w _ h' _ (.lst _) from⟨by rw[YMB];exact hz,cR.toList,c',sU,by simpa using hS⟩),Z,q _ (I1.hok.fresh le)⟩
end L2
namespace L2
open PySem PySem.Spec PyProof.Rows
section
variable {prog:Program}{w:World}{A:Around}{E:Value->Shared->Prop}{s:Shared}
end
section
variable {X:Cx}{jL:List Expr}{k:Nat}{lz:Pos}
end
theorem Ju {K:W.Frag}{a:Addr}{xs:List V}{g:TG}{tb:TS}{D:YA6}{σ:St}{H:Hp} (Pv:Nat->St->Hp->Prop) (h0:Pv 0 σ H) (hl:∀i σ H,i<=xs.length->Pv i σ H->SqL K H a xs)
  (hs:∀i x T σ H,xs[i]?=some x->H T=none->Pv i σ H->g (.ref T) σ (upd H T (.tup [.int (i:Nat),x])) λσ2 H2=>tb { D with nx:=Pv (i + 1),ct:=Pv (i + 1),bk:=D.nx } σ2 H2) (hd:∀σ H,Pv xs.length σ H->D.nx σ H):
  ∃W:Nat->Nat->St->Hp->Prop,(∃m,W 0 m σ H)/\∀i m σ H,W i m σ H->
   ((Ite K a).stop i H/\D.nx σ H)\/((Ite K a).go i H/\∃N:St->Hp->Prop,(∀σ' H',N σ' H'->∃m',m' < m/\W (i + 1) m' σ' H')/\∀x H',(Ite K a).yld i H x H'->g x σ H' λσ2 H2=>tb { D with nx:=N,ct:=N,bk:=D.nx } σ2 H2):=by
 refine⟨λi m σ H=>m=xs.length - i/\i<=xs.length/\Pv i σ H,⟨xs.length,by simp,YLS _,h0⟩,?_⟩;rintro i m σ H ⟨rfl,hi,p⟩;have q:=hl i σ H hi p
 by_cases hlt:i < xs.length
 ·refine .inr ⟨⟨xs,xs[i],q,by simp[hlt]⟩,Pv (i + 1),λσ' H' p'=>⟨xs.length - (i + 1),by lia,Z,hlt,p'⟩,λx H' y=>?_⟩;obtain⟨T,hT,rfl,k⟩:=y;obtain⟨x,hx,rfl⟩:=k xs q;exact hs i x T σ H hx hT p
 ·have e:i=xs.length:=by lia
  subst e;exact .inl ⟨⟨xs,q,YKv _⟩,hd σ H p⟩
end L2
namespace L2
open PySem PySem.Spec PyProof.Rows
theorem YKS:typeLookup (.type "reversed") "__len__"=pure none:=by rw[typeLookup_type,builtinLookup_eq_fast];kernel_rfl
theorem rv_hint:typeLookup (.type "reversed") "__length_hint__"=pure (some (.builtin "reversed.__length_hint__")):=by rw[typeLookup_type,builtinLookup_eq_fast];kernel_rfl
theorem YFz:Slot "reversed" "__length_hint__" "reversed.__length_hint__":=.of (owner:="reversed") (n:="__length_hint__") (by rw[typeLookup_type,builtinLookup_eq_fast];kernel_rfl) (by decide +kernel) (by decide +kernel) (by decide +kernel) (by first |exact .inl (by decide +kernel) |exact .inr (by decide +kernel)) (by rw[isSubtype_type];kernel_rfl)
theorem rv_entH:entryFor table "reversed.__length_hint__"=some Builtin.«reversed.__length_hint__»:=entryFor_of_tree (by kernel_rfl)
theorem rv_argH (a:Value):argsOk "reversed.__length_hint__" ⟨[a],[]⟩:=by unfold argsOk;kernel_rfl
section
variable {prog:Program}{w:World}{A:Around}{E:Value->Shared->Prop}{s:Shared}
theorem YHK (hh:A.handled=none) (it l:Addr) (hne:l≠it) (items:Array Value) (hz:(items.size:Int) < 2 ^ 63):
  Walks prog w A it [it,l] [it] items.size (λi v=>items[items.size - 1 - i]?=some v) (λi h=>YDk h it l ((items.size:Int) - 1 - i)/\IsTup h l items) where
 sub:=λb hb=>by simp at hb;simp[hb]
 frame:=λi h h' st hk=>by
  obtain⟨⟨o,a,b,c⟩,⟨o2,a2,b2⟩⟩:=st;exact⟨⟨o,hk it (by simp) o a,b,c⟩,⟨o2,hk l (by simp) o2 a2,b2⟩⟩
 item:=λi s Q E hi st hQ=>by
  have e:((items.size:Int) - 1 - (i:Nat))=((items.size - 1 - i:Nat):Int):=by lia
  rw[e]at st;refine YJA st.1 st.2 (x:=items[items.size - 1 - i]) (by simp) hz λh' hit' hs'=>?_
  obtain⟨o2,a2,b2⟩:=st.2;refine hQ _ h' (s.toks + 1) (by simp) ⟨?_,o2,(hs'.2 l hne).trans a2,b2⟩ λb o hb q=>hs'.extBut b o (λz=>hb (by simp[z])) q
  have e2:((items.size - 1 - i:Nat):Int) - 1=(items.size:Int) - 1 - ((i + 1:Nat):Int):=by lia
  rw[e2]at hit';exact hit'
 done:=λs Q E st hQ=>by
  have e:((items.size:Int) - 1 - (items.size:Nat))=-1:=by lia
  rw[e]at st;exact YKP hh st.1 λh' he'=>hQ h' s.toks λb o hb q=>he' b o (λz=>hb (by simp[z])) q
 self:=λ_ _ _ _ st hQ=>YEL st.1 hQ
theorem YHL {it l:Addr}{items:Array Value}{Q:Value->Shared->Prop} (hit:YDk s.heap it l ((items.size:Int) - 1)) (hl:IsTup s.heap l items) (hz:(items.size:Int) < 2 ^ 63)
  (h:∀t tk,Q (.int (items.size:Int) t) { s with toks:=tk }):wpAny (model prog w) A (call (.builtin "reversed.__length_hint__") [.ref it]) Q E s:=by
 obtain⟨o,ho,hc,hd⟩:=id hit;have hT:s.TypeIs (.ref it) "reversed":=⟨o,ho,hc⟩;refine wpAny_call_entry YFz hT rv_entH ?_ (rv_argH _);unfold Builtin.«reversed.__length_hint__»;refine YKz (YLO (YKz (wpAny_field ho hd (x:=.ref l) rfl ?_)));refine(show wpAny _ _ (if (Value.ref l == Value.none)=true then _ else _) _ _ s from ?_);rw[if_neg (show ¬(Value.ref l == Value.none)=true from YLD)];refine YKz (len_tuple hl hz ?_);refine YKz (YLO (YKz (wpAny_field (s:={ s with toks:=s.toks + 1 + 1 }) ho hd (x:=.int ((items.size:Int) - 1) 0) rfl ?_)));refine(show wpAny _ _ (if (items.size:Int) < (items.size:Int) - 1 + 1 then _ else _) _ _ _ from ?_);rw[if_neg (by lia)];have e:(items.size:Int) - 1 + 1=(items.size:Int):=by lia
 rw[e];exact YKz (wpAny_mkInt (YLO ⟨_,Z,h _ _⟩))
theorem YJC {it l:Addr}{items:Array Value}{Q:Bool->Shared->Prop} (hit:YDk s.heap it l ((items.size:Int) - 1)) (hl:IsTup s.heap l items) (hz:items.size<=sizeLine) (h:∀b tk,Q b { s with toks:=tk }):
  wpAny (model prog w) A (Builtin.List.listLengthHint (.ref it)) Q E s:=by
 obtain⟨o,ho,hc,hd⟩:=id hit;have hT:s.TypeIs (.ref it) "reversed":=⟨o,ho,hc⟩;unfold Builtin.List.listLengthHint;refine YKz (wpAny_specialOf hT YKS ?_);show wpAny _ _ (specialOf (Value.ref it) (Str.ofString "__length_hint__") >>= _) _ _ _;refine YKz (wpAny_specialOf hT rv_hint ?_);generalize hid:("reversed.__length_hint__":String)=Qq
 wp_delta;rw[show splitId Qq=some ("reversed","__length_hint__") from by subst hid;decide +kernel];subst hid
 refine YKz (wpAny_isInstance (T:="reversed") (b:=true) hT (by rw[isSubtype_type];kernel_rfl) ?_);rw[if_neg (by decide)];refine(show wpAny _ _ (if _ then _ else _) _ _ _ from ?_);rw[if_neg (by decide)];refine YKz (wpAny_rule (YKz (wpAny_of_eq (YFz.bind (.ref it)) ?_)));refine YKz (wpAny_attempt (YHL hit hl (by rw[sizeLine_eq]at hz;lia) λt tk=>?_));have f1:Builtin.List.listFitsIndex (items.size:Int)=true:=by
  unfold Builtin.List.listFitsIndex;rw[sizeLine_eq]at hz;rw[YLC,YLm,YLm]
  lia
 have f2:Builtin.List.listTooLong (items.size:Int).toNat=false:=by
  unfold Builtin.List.listTooLong;exact YK0 (by rw[Int.toNat_natCast];lia)
 have f3:¬(items.size:Int) < 0:=by lia
 revert f1 f2 f3;generalize (items.size:Int)=n;intro f1 f2 f3;refine(show wpAny _ _ (asInt? (.int n t) >>= _) _ _ _ from YKz (YLO ?_));refine wpAny_ite_split (λz=>absurd z (by rw[f1];decide)) λ_=>?_
 refine wpAny_ite_split (λz=>absurd z f3) λ_=>?_
 refine wpAny_ite_split (λz=>absurd z (by rw[f2];decide)) λ_=>?_
 exact YLO (h _ _)
theorem YDH {it l:Addr}{items:Array Value}{Q:Value->Shared->Prop} (hh:A.handled=none) (hit:YDk s.heap it l ((items.size:Int) - 1)) (hl:IsTup s.heap l items) (hne:l≠it) (hn:items.size<=sizeLine)
  (hQ:∀h' tk cR c',(∀b o,b≠it->s.heap.get? b=some o->h'.get? b=some o)->h'.get? s.heap.objs.size=some { cls:=.type "list",dict:=none,data:=.seq cR c',slots:=#[] }->
   ItemsOf (λi v=>items[items.size - 1 - i]?=some v) cR items.size->Q (.ref s.heap.objs.size) { s with heap:=h',toks:=tk }):wpAny (model prog w) A (call (.type "list") [.ref it]) Q E s:=by
 have itlt:it < s.heap.objs.size:=by obtain⟨o,ho,_⟩:=hit;exact YK8 ho
 have llt:l < s.heap.objs.size:=hl.lt;have zB:(items.size:Int) < 2 ^ 63:=by rw[sizeLine_eq]at hn;lia
 refine callType_codes (Q₁:=λobj t=>obj=.ref s.heap.objs.size/\t={ s with heap:=s.heap.push { cls:=.type "list",data:=.seq #[] } }) F.called_list (F.typeCall_list_1 _) F.entry_list_init (code_list_new _ ⟨Z,Z⟩) λobj t ht=>?_
 obtain⟨rfl,rfl⟩:=ht;have g0:(s.heap.push { cls:=.type "list",data:=.seq #[] }).get? s.heap.objs.size=some { cls:=.type "list",data:=.seq #[] }:=YLI _ rfl;refine⟨⟨_,g0,Z⟩,F.args_list_init_2 _ _,?_⟩;show wpAny _ _ (Builtin.List.listItems (.ref s.heap.objs.size) >>= λold=>Builtin.List.listUpdate (.ref s.heap.objs.size) (λ_=>#[]) >>= λ_=>letGo old.toList.reverse >>= λ_=>Builtin.List.listExtendWith (.ref s.heap.objs.size) (.ref it) .none) _ _ _;refine YKz ?_;unfold Builtin.List.listItems;refine YKz (wpAny_seqItems g0 rfl (YLO ?_));refine YKz (show wpAny _ _ (updateSeq s.heap.objs.size (λ_=>#[])) _ _ _ from wpAny_updateSeq g0 rfl ?_);have g1:=YLp (Obj.mapSeq (λ_=>(#[]:Array Value))) g0 rfl;have k1:∀b o,s.heap.get? b=some o->((s.heap.push { cls:=.type "list",data:=.seq #[] }).update s.heap.objs.size (Obj.mapSeq (λ_=>(#[]:Array Value)))).get? b=some o:=λb o e=>
  (YLc _ _ (YMJ (YK8 e))).trans (YK3 _ e)
 have tup_at:∀{h1:Heap},(∀b o,s.heap.get? b=some o->h1.get? b=some o)->YDk h1 it l ((items.size:Int) - 1)/\IsTup h1 l items:=λ{h1} k=>by
  obtain⟨o,ho,r⟩:=hit;obtain⟨o2,Qp,r2⟩:=hl;exact⟨⟨o,k it o ho,r⟩,⟨o2,k l o2 Qp,r2⟩⟩
 refine YKz (wpAny_letGo ?_);revert g1 k1;generalize (s.heap.push { cls:=.type "list",data:=.seq #[] }).update s.heap.objs.size (Obj.mapSeq (λ_=>(#[]:Array Value)))=h1;intro g1 k1;obtain⟨jW,hl1⟩:=tup_at k1;have hT:Shared.TypeIs { s with heap:=h1 } (.ref it) "reversed":=by obtain⟨o,ho,hc,_⟩:=jW;exact⟨o,ho,hc⟩
 have W:=(YHK (prog:=prog) (w:=w) (A:=A.in1.in1) hh it l hne items zB).toS;have nf:s.heap.objs.size∉[it,l]:=by simp only[YLB,YLj,or_false,not_or];exact⟨YMJ itlt,YMJ llt⟩
 have key:∀(h2:Heap) (c1 tk:Nat),(∀b o,s.heap.get? b=some o->h2.get? b=some o)->h2.get? s.heap.objs.size=some { cls:=.type "list",data:=.seq #[] c1 }->
   codeAny (model prog w) A.in1 (.builtin "list.extend.loop" ⟨[.ref s.heap.objs.size,.ref it,.none],[]⟩) (wants (λr s₂=>r=Value.none/\Q (Value.ref s.heap.objs.size) s₂) E) { s with heap:=h2,toks:=tk }:=by
  intro h2 c1 tk k2 g2;obtain⟨hit2,hl2⟩:=tup_at k2;refine codeAny_extend_loopS W hn _ nf _ items.size 0 _ _ _ rfl (YLS _) ⟨by simpa using hit2,hl2⟩ g2 (ItemsOf.nil _) λs' cR c' hm hS' hacc=>?_
  rw[Moved.eq_with hm];refine⟨Z,hQ s'.heap s'.toks cR c' (λb o hb e=>hm.heap b o (λhmem=>?_) (k2 b o e)) hS' hacc⟩;rcases YLB.mp hmem with z |hmem
  ·rw[z]at e;exact YLq _ (YK8 e)
  ·exact hb (YK4.mp hmem)
 unfold Builtin.List.listExtendWith;refine YKz (wpAny_typeOf hT ?_);have ns:Builtin.List.listSameRef (.ref s.heap.objs.size) (.ref it)=false:=by simp[Builtin.List.listSameRef,YMJ itlt]
 rw[if_neg (by rw[ns];decide)];refine YKz (YEL jW (YKz (wpAny_holding (YJC jW hl1 hn λb tk=>?_))));refine wpAny_ite_split (λ_=>?_) (λ_=>YLO ⟨plainId_quiet F.plain_extend_loop _,key h1 _ _ k1 g1⟩);refine YKz (wpAny_rule (YKz ?_));refine(show wpAny _ _ (updateSeq s.heap.objs.size (·.push .none) >>= λ_=>updateSeq s.heap.objs.size (·.pop)) _ _ _ from ?_);refine YKz (wpAny_updateSeq g1 rfl ?_);have g2:=YLp (Obj.mapSeq (·.push Value.none)) g1 rfl;refine wpAny_updateSeq (hz:=by seq_fits) g2 rfl ?_;have g3:=YLp (Obj.mapSeq (·.pop)) g2 rfl;refine YLO ⟨plainId_quiet F.plain_extend_loop _,key _ _ _ (λb o e=>?_) g3⟩;have nb:s.heap.objs.size≠b:=YMJ (YK8 e);exact(YLc _ _ nb).trans ((YLc _ _ nb).trans (k1 b o e))
end
def YJD (K:W.Frag) (ta:TA):TE:=λσ H Q=>ta σ H λvs H1=>∃a xs,vs=[.ref a]/\SqT K H1 a xs/\∀l,H1 l=none->Q (.ref l) (upd H1 l (.lst xs.reverse))
theorem YE8 (K:W.Frag) {X:Cx} (hK:X.K=K) {a:Expr}{ta:TA}{p p2 pos dN:Pos} (hc:X.calm=true) (hg:Gl X "list") (hm:X.mg "list"=none) (yd:Gl X "reversed") (hm2:X.mg "reversed"=none) (ha:PA X [a] ta)
  (hs:starEach [.Call (.Name "reversed" p2) [a] [] dN] X.env=[(false,eval (.Call (.Name "reversed" p2) [a] [] dN) X.env)]:=by rfl) (hs2:starEach [a] X.env=[(false,eval a X.env)]:=by rfl):
  PE X (.Call (.Name "list" p) [.Call (.Name "reversed" p2) [a] [] dN] [] pos) (YJD K ta):=by
 subst hK;intro pins s σ H Q I h;refine wpAny_Call_Name_kw (JR I hg hm YLu ?_);refine PyProof.Rows.callWith_type1 ?_ hs rfl;rw[hs];show wpAny _ _ (spliced ((false,eval (.Call (.Name "reversed" p2) [a] [] dN) X.env) :: [])) _ _ s;refine Calls.spliced_cons (wpAny_Call_Name_kw (JR I yd hm2 PyProof.Rows.Boot.«reversed» (PyProof.Rows.callWith_type1 (thn (ha dN pins s σ H _ I h) λus s1 ⟨vs,H1,I1,r1,q1⟩=>?_) hs2 rfl)));obtain⟨l,xs,rfl,hq,q⟩:=q1;obtain⟨u,rfl,ru⟩:=XY r1;cases ru;obtain⟨its,rv,pl,hz⟩:=I1.tuple hq;have hlen:xs.length=its.length:=rv.length;have Rj:=YAR;refine YDF pl (by rw[YK9];lia) λh1 hit hk=>Calls.spliced_nil ?_
 have Rw:IsTup h1 l its.toArray:=by obtain⟨o,ho,r⟩:=pl;exact⟨o,hk l o ho,r⟩
 refine YDH (s:={ s1 with heap:=h1,toks:=s1.toks + 1 + 1 }) (items:=its.toArray) (I1.ok.hd hc) hit Rw (YLW pl.lt) (by rw[YK9];lia) λh' tk cR c' hk' hS hit'=>?_
 have sU:Yf xs.reverse cR.toList:=by
  refine YCd (by
   have e1:cR.toList.length=its.length:=(Array.length_toList.trans hit'.1).trans (YK9 ..);rw[YMB,hlen,e1]) λj x u h1 h2=>?_
  have h3:=hit'.2 j u (by rw[<-YLt];exact h2);have hj:j < xs.length:=by
   have:=(YKy.mp h1).1
   rwa [YMB]at this
  rw[List.getElem?_reverse hj]at h1;obtain⟨u',e1,r'⟩:=rv.get h1;rw[List.getElem?_toArray,YK9,<-hlen]at h3;rw[h3]at e1;cases e1;exact r'
 have le:s1.heap.objs.size<=h1.objs.size:=by
  obtain⟨o,ho,_⟩:=hit;exact YMf (YK8 ho)
 have kk:∀b u,s1.heap.get? b=some u->h'.get? b=some u:=λb u e=>hk' b u (YLW (YK8 e)) (hk b u e)
 exact⟨.ref h1.objs.size,_,I1.laid (t':=tk) kk le (show Yp X.prog X.w _ h' _ (.lst _) from⟨by rw[YMB];exact hz,cR.toList,c',sU,by simpa using hS⟩),Z,q _ (I1.hok.fresh le)⟩
end L2
namespace FR
open PySem L2
def nV (k:Nat):V:=.int (k:Int)
def chV (c:Nat):V:=.str ⟨#[c]⟩
theorem YJE {r:Y4} (h:Jz r=true):isNameS r.1=true:=by
 unfold Jz at h;rw[YLC]at h;exact h.1
theorem YF0 (z:Str):isQ z=decide (z.cps.toList[0]?=some 39):=by
 have e0:(("'":Str))=⟨#[39]⟩:=by decide +kernel
 unfold isQ;rw[e0,YMR,YLm];have:=StrLaws.subAt_one z 39 0;unfold Txt.startswith;rw[YLC,YLm];exact this
theorem YF1 {p:Str} (h:ZD p=true) (hq:isQ p=true):atI p.cps.toList 1=some (sgn p):=by
 unfold ZD at h;rw[Bool.or_eq_true]at h;rcases h with h |h
 ·unfold Xa at h;rw[YLC,YLC]at h;have h2:p.cps.size=2:=eq_of_beq h.1.1;have h1:1 < p.cps.toList.length:=by rw[YLK];lia
  have e:p.cps.toList[1]?=some p.cps.toList[1]:=YKx h1;have e2:sgn p=p.cps.toList[1]:=by
   unfold sgn;rw[Array.getD_eq_getD_getElem?,<-YLt,e];rfl
  rw[e2];exact Yq (j:=1) e
 ·rw[YF0]at hq;have hq:=YLM hq;unfold isNameS at h;rw[YLC]at h;exact absurd (YLb.mp h.2 39 (YKw hq)) (by decide)
theorem Xz {z:Str} (h:isNameS z=true):isQ z=false:=by
 rw[YF0];refine YK0 λe=>?_
 unfold isNameS at h;rw[YLC]at h;exact absurd (YLb.mp h.2 39 (YKw e)) (by decide)
theorem YHM {z:Str} (h:isNameS z=true):ZD z=true:=by
 unfold ZD;rw[h,Bool.or_true]
theorem YKT {g:Yy}{r:Y4}{i:Nat} (hg:Y5 g=true) (er:g[i]?=some r):Jz r=true:=by
 unfold Y5 at hg;rw[YLC]at hg;exact YLb.mp hg.2 r (YKw er)
theorem YF2 {H:Hp}{xs:List V}{g:Yy} (hds:Ya H xs (g.map ZF)) {k:Nat}{r:Y4} (er:g[k]?=some r):∃t p,atI xs (k:Int)=some (.ref t)/\H t=some (.tup [.str r.1,.ref p,.int r.2.2])/\H p=some (.tup (r.2.1.map V.str)):=by
 have yP:xs.length=g.length:=by rw[hds.len,YKu]
 have Rx:k < xs.length:=by rw[yP];exact(YKy.mp er).1
 have hix:xs[k]?=some xs[k]:=YKx Rx;obtain⟨r',t,p,qI,Ry,ht,jV⟩:=Xc hds hix;rw[er]at qI;cases qI;exact⟨t,p,by rw[<-Ry];exact Yq hix,ht,jV⟩
inductive Z5 (g:Yy):List Str->List Nat->List Nat->Prop
 |nil:Z5 g [] [] []
 |sign {p:Str}{ws:List Str}{ks sg:List Nat}:isQ p=true->Z5 g ws ks sg->Z5 g (p :: ws) ks (sgn p :: sg)
 |name {r:Y4}{ws:List Str}{k:Nat}{ks sg:List Nat}:isQ r.1=false->g[k]?=some r->Z5 g (r.2.1 ++ ws) ks sg->Z5 g (r.1 :: ws) (k :: ks) sg
theorem YF3:∀ws:List Str,(Txt.join "" ws).cps.toList=(ws.map (·.cps.toList)).flatten:=by
 intro ws;show(Builtin.Str.glued "" ws).cps.toList=_;rw[StrLaws.glued_eq_join]
 induction ws with
 |nil=>rfl
 |cons w ws ih=>
  cases ws with
  |nil=>
   show w.cps.toList=_;simp
  |cons v r=>
   show(w ++ "" ++ Str.join "" (v :: r)).cps.toList=_;rw[JV,JV,ih];have e:(("":Str)).cps.toList=[]:=by decide +kernel
   rw[e,YLa];rfl
theorem YEM:∀sg:List Nat,(sg.map λc=>[c]).flatten=sg
 |[]=>rfl
 |c :: cs=>by rw[YLR,YMb,YEM cs];rfl
theorem YJF (sg:List Nat):Txt.join "" (sg.map λc=>(⟨#[c]⟩:Str))=⟨sg.toArray⟩:=by
 have h:=YF3 (sg.map λc=>(⟨#[c]⟩:Str));cases hj:Txt.join "" (sg.map λc=>(⟨#[c]⟩:Str));congr 1;apply Array.toList_inj.mp;rw[hj]at h;rw[h,YL2];exact YEM sg
end FR
namespace L2
open PySem PySem.Spec PyProof.Rows
section
variable {X:Cx}{pins:List (Addr×Obj)}{σ:St}{H:Hp}{s:Shared}{a b:Addr}{kvs:List (List Key×V)}{k:List Key}{u r:Value}{v:V}{A:Around}{E:Value->Shared->Prop}
end
section
variable {X:Cx}{o e f:Expr}{cg bw:Pos}{td ty tx:TE}
end
end L2
namespace FR
open PySem L2
inductive Nd where
 |part (p:Str) (i j:Nat)
 |beg (r d i j:Nat)
deriving DecidableEq
def Zv:Nd->List Key
 |.part p i j=>[.inr p,.inl (i:Int),.inl (j:Int)]
 |.beg r d i j=>[.inl (r:Int),.inl (d:Int),.inl (i:Int),.inl (j:Int)]
theorem YKU {x y:Nd} (h:Zv x=Zv y):x=y:=by
 cases x <;> cases y <;> simp only[Zv,List.cons.injEq,Sum.inl.injEq,Sum.inr.injEq,Int.ofNat_inj,and_true,reduceCtorEq,and_false,false_and]at h
 ·obtain⟨h1,h2,h3⟩:=h;rw[h1,h2,h3]
 ·obtain⟨h1,h2,h3,h4⟩:=h;rw[h1,h2,h3,h4]
end FR
namespace L2
open PySem PySem.Spec PyProof.Rows
section
variable {X:Cx}{jL:List Expr}{k:Nat}{lz:Pos}
end
end L2
namespace L2
open PySem PySem.Spec PyProof.Rows
section
variable {X:Cx}{pins:List (Addr×Obj)}{σ:St}{H:Hp}{s:Shared}{d:Addr}{kvs:List (List Key×V)}
theorem Inv.freezeT (I:Inv X pins σ H s) (hd:H d=some (.dT kvs)):∃o,Inv X pins σ (upd H d (.frz o (.dT kvs))) s:=by
 have nt:∀c xs,H c=some (.tup xs)->c≠d:=λc xs r z=>by rw[z,hd]at r;cases r
 obtain⟨_,_,_,_,o,_,_,ho,_⟩:=(show Yp X.prog X.w H s.heap d (.dT kvs) from I.hok d _ hd);refine⟨o,I.write (x:=d) (e:=d) (h':=s.heap) (t':=s.toks) (by rw[hd];trivial) (.inl rfl) (λ_ _ _ e=>e) ⟨o,ho⟩ ⟨ho,?_⟩⟩;exact(I.hok d _ hd).stay (λ_ _ _ e=>e) (λb e=>by rw[YH (YDs e hd nofun)];exact e) λb xs e=>by rw[YH (nt b xs e)];exact e
end
section
variable {X:Cx}
end
end L2
namespace L2
open PySem PySem.Spec PyProof.Rows
section
variable {prog:Program}{w:World}{A:Around}{E:Value->Shared->Prop}{s:Shared}
end
section
variable {X:Cx}{jL:List Expr}{k:Nat}{lz:Pos}
end
end L2
namespace L2
open PySem PySem.Spec PyProof.Rows
def ItK (d:Addr) (o:Obj) (kvs:List (Key×V)):It:=
 ⟨λi H=>H d=some (.frz o (.dK kvs))/\i < kvs.length,λi H v H'=>∃kv,kvs[i]?=some kv/\v=kV kv.1/\H'=H,λi H=>H d=some (.frz o (.dK kvs))/\i=kvs.length⟩
theorem YEN {P:Program}{w:World}{K:W.Frag}{tg:Expr}{d it:Addr}{o:Obj}{kvs:List (Key×V)}{es:Array DictEntry}{ep:Nat} (ho:o.data=.dict es ep):
  YEp P w K tg (ItK d o kvs) [it] it (λi h=>h.IsKeyIter it d i kvs.length ep) where
 mem:=by simp
 obj:=λi h st b hb=>by
  have eb:b=it:=by simpa using hb
  subst eb;obtain⟨o,e,c,d⟩:=st;exact⟨o,e,λv z=>by rw[d]at z;cases z⟩
 keep:=λi h h' st k=>st.at λo e=>k it (by simp) o e
 item:=by
  intro X hP hw hK hc i pins s σ H E I hf st hg;subst hP hw hK;obtain⟨hd,hi⟩:=hg;obtain⟨sV,hsz,lo,vs,rel,hD⟩:=(show Yp X.prog X.w H s.heap d (.frz o (.dK kvs)) from I.hok d _ hd);obtain⟨o2,vU,yQ,h1,h2,h3,h4⟩:=hD;rw[sV]at h1;cases h1;rw[ho]at h3;cases h3;have hat:s.heap.DictAt (ZB X.prog X.w) d vs ep:=⟨o,es,sV,h2,ho,h4⟩;have ekv:kvs[i]?=some kvs[i]:=by simp[hi]
  obtain⟨u,hu,ru⟩:=rel.get ekv;have hlen:kvs.length=vs.length:=rel.length;rw[hlen]at st;obtain⟨f0,f1,f2,f3,f4,f5⟩:=hf it (by simp);refine wpAny_pyNext_dict_item st hat hu λkey h' hkey st' sb=>?_
  have I1:Inv X pins σ H { s with heap:=h' }:=I.turned (t':=s.toks) (λb o hb e=>(sb.2 b hb).trans e) f0 f1 f3 f4 f5;refine⟨key,Z,letGo_keyiter (s':={ s with heap:=h' }) st' ⟨kV kvs[i].1,H,I1,YJ6 hkey,⟨_,ekv,Z,Z⟩,by rw[hlen];exact st',λb hb=>(hf b hb).1⟩⟩
 done:=by
  intro X hP hw hK hc i pins s σ H E I hf st hg;subst hP hw hK;obtain⟨hd,hi⟩:=hg;obtain⟨sV,hsz,lo,vs,rel,hD⟩:=(show Yp X.prog X.w H s.heap d (.frz o (.dK kvs)) from I.hok d _ hd);obtain⟨o2,vU,yQ,h1,h2,h3,h4⟩:=hD;rw[sV]at h1;cases h1;rw[ho]at h3;cases h3;have hat:s.heap.DictAt (ZB X.prog X.w) d vs ep:=⟨o,es,sV,h2,ho,h4⟩;have hlen:kvs.length=vs.length:=rel.length;rw[hlen]at st;exact wpAny_pyNext_dict_end (I.ok.hd hc) st hat (YLf (by lia)) λh' eb=>⟨Z,I.turns (t':=s.toks) (λb o hb q=>eb b o (λz=>hb (by simp[z])) q) hf⟩
 self:=λ_ _ _ _ _ st h=>wpAny_pyIter_keyiter st h
section
variable {X:Cx}{tg:Expr}
def iDict (to:TE):TI:=λσ H R=>to σ H λx H1=>∃d kvs,x=.ref d/\H1 d=some (.dK kvs)/\∀o,R (ItK d o kvs) (upd H1 d (.frz o (.dK kvs)))
theorem YIG {oe:Expr}{to:TE} (ho:PE X oe to):PI X tg oe (iDict to):=by
 intro pins s σ H R I h;refine thn (ho pins s σ H _ I h) λv s1 ⟨x,H1,I1,r1,q1⟩=>?_
 obtain⟨d,kvs,ex,hd,q⟩:=q1;subst ex;cases r1;obtain⟨hsz,lo,vs,rel,hD⟩:=dk_of I1.hok hd;obtain⟨ep,hat⟩:=hD.dictAt;obtain⟨od,es,sV,hex,hdat,hrest⟩:=id hat;refine wpAny_pyIter_dict lo hat ?_;have k1:∀b u,s1.heap.get? b=some u->(s1.heap.push { cls:=.type "dict_keyiterator",data:=.fields #[.ref d,.int 0 0,.int vs.length 0,.int ep 0] }).get? b=some u:=λb u e=>YK3 _ e
 have I2:=I1.kept (t':=s1.toks) k1;have I4:=I2.freeze hd (o:=od) (k1 _ _ sV);have hlen:kvs.length=vs.length:=rel.length;refine⟨_,[_],_,_,_,Z,I4,YEN (o:=od) hdat,⟨_,YLI _ rfl,Z,by rw[hlen];rfl⟩,λb hb=>?_,q od⟩;have eb:=YK4.mp hb;rw[eb];refine I1.fpOk (YKv _) ?_;have hn:=I1.hok.fresh (YKv _);rw[YH (λz=>by rw[z,hd]at hn;cases hn)];exact hn
end
end L2
namespace L2
open PySem PySem.Spec PyProof.Rows
section
variable {prog:Program}{w:World}{A:Around}{E:Value->Shared->Prop}{s:Shared}
end
section
variable {X:Cx}{tg:Expr}
end
section
variable {prog:Program}{w:World}{d:Addr}{od:Obj}{es:Array DictEntry}{ep:Nat}
end
def tKeep1 (t:TE):TE:=λσ H Q=>t σ H λv H1=>∃d kvs,H1 d=some (.dT kvs)/\∀o,Q v (upd H1 d (.frz o (.dT kvs)))
theorem YKV {X:Cx}{e:Expr}{t:TE} (h:PE X e t):PE X e (tKeep1 t):=by
 intro pins s σ H Q I hw;refine thn (h pins s σ H _ I hw) ?_;rintro v s1 ⟨x,H1,I1,r1,d,kvs,e0,q⟩;obtain⟨o,I4⟩:=I1.freezeT e0;exact⟨x,_,I4,r1,q o⟩
section
variable {X:Cx}{o e f:Expr}{cg bw:Pos}{td ty tx:TE}
end
end L2
namespace L2
open PySem PySem.Spec PyProof.Rows
end L2
namespace L2
open PySem PySem.Spec PyProof.Rows PySem.AutoSeq1
section
variable {X:Cx}
end
end L2
namespace L2
open PySem PySem.Spec PyProof.Rows
end L2
namespace L2
open PySem PySem.Spec PyProof.Rows
section
variable {X:Cx}{pins:List (Addr×Obj)}{σ:St}{H:Hp}{s:Shared}{d:Addr}{xs:List V}
end
end L2
namespace L2
open PySem PySem.Spec PyProof.Rows PySem.SeqAt
section
variable {X:Cx}
end
end L2
namespace L2
open PySem PySem.Spec PyProof.Rows PySem.SeqAt
section
variable {X:Cx}
end
end L2
namespace L2
open PySem PySem.Spec PyProof.Rows
def Dn (K:W.Frag) (x:Str) (f:Addr):Prop:=PySem.W.nsIn K mainGlobals x=some (some (.ref f))
def Zn (K:W.Frag) (x:Str):Prop:=PySem.W.nsIn K mainGlobals x=some none
def On (K:W.Frag) (c:Addr) (x:Str):Prop:=PySem.W.findIn K (.ref c) x=some none
inductive An (K:W.Frag) (c:Addr) (x:Str) (f:Addr):Prop
 |mk:PySem.W.findIn K (.ref c) x=some (some (.ref f))->PySem.W.isFn K (.ref f)=true->An K c x f
inductive Ln (K:W.Frag) (x q:Str) (st:Stmt) (f:Addr):Prop
 |mk {oc:Value}{od an:Option Addr}{osl:Array (Option Value)}{kV doc pm aO ct:Value}:K.lookup f=some ⟨oc,od,.func (PySem.W.fnOf x q (Jk st) (Z1 st) (YK st) .none kV doc pm an aO ct),osl⟩->PySem.W.codeIn K aO q=true->PySem.W.keepIn K (.ref f)=true->Ln K x q st f
theorem Ln.ex {K:W.Frag}{x q:Str}{st:Stmt}{f:Addr}:Ln K x q st f->∃fd,Fun K x q st f fd
 |.mk l c k=>⟨_,YJu l c k⟩
def Pn:Nat->(List Value->Prop)->Prop
 |0,P=>P []
 |n + 1,P=>∀a,Pn n λus=>P (a :: us)
theorem bn:∀(n:Nat) {P:List Value->Prop},Pn n P->∀us:List Value,us.length=n->P us
 |0,_,h,[],_=>h
 |0,_,_,_ :: _,e=>by cases e
 |_ + 1,_,_,[],e=>by cases e
 |n + 1,_,h,a :: us,e=>bn n (h a) us (Nat.succ.inj e)
section
variable (P:Program) (w:World) {K:W.Frag}{mg:Str->Option Value}{CX:CXT}{k:Nat}{x q:Str}{st:Stmt}{C f:Addr}{fd:FuncData}{ps:List Str}{sp:Sp}
theorem us (m:mg x=some (.ref f)) (F:Fun K x q st f fd) (o:∀base,Yw P w K mg base CX k f fd ps sp) (b:∀(kV doc pm:Value) (an:Option Addr) (aO ct:Value) (us:List Value),us.length=ps.length->bindArgs (PySem.W.fnOf x q (Jk st) (Z1 st) (YK st) .none kV doc pm an aO ct) ⟨us,[]⟩=pure (ps.zip us)):Zx P w K mg CX k x ps sp:=⟨⟨f,fd,o,m,F.kp,F.binds b⟩⟩
theorem usM (a:An K C x f) (F:Fun K x q st f fd) (o:∀base,Yw P w K mg base CX k f fd ps sp) (b:∀(kV doc pm:Value) (an:Option Addr) (aO ct:Value) (us:List Value),us.length=ps.length->bindArgs (PySem.W.fnOf x q (Jk st) (Z1 st) (YK st) .none kV doc pm an aO ct) ⟨us,[]⟩=pure (ps.zip us)):Js P w K mg CX k C x ps sp:=by
 cases a with
 |mk a j=>exact⟨⟨f,fd,o,⟨a,j,F.kp⟩,F.binds b⟩⟩
theorem usI (h1:PySem.W.makesIn K C=true) (h2:PySem.W.keepIn K (.ref C)=true) (a:An K C "__init__" f) (F:Fun K x q st f fd) (o:∀base,Yw P w K mg base CX k f fd ps sp) (b:∀(kV doc pm:Value) (an:Option Addr) (aO ct:Value) (us:List Value),us.length=ps.length->bindArgs (PySem.W.fnOf x q (Jk st) (Z1 st) (YK st) .none kV doc pm an aO ct) ⟨us,[]⟩=pure (ps.zip us)):UsedI P w K mg CX k C ps sp:=by
 cases a with
 |mk a j=>exact⟨⟨f,fd,o,⟨h1,a,j,h2⟩,F.binds b⟩⟩
end
end L2
namespace L2
open PySem PySem.Spec PyProof.Rows
section
variable {prog:Program}{w:World}{A:Around}{R:Result->Shared->Prop}{I S:Addr}{fp wr:List Addr}{n:Nat}{P:Nat->Value->Prop}{St:Nat->Heap->Prop}{bt:Nat->Nat->Bool}{kw:List (Str×Value)}
end
section
variable {prog:Program}{w:World}{A:Around}{E:Value->Shared->Prop}{s:Shared}{l:Addr}{items:Array Value}{bt:Nat->Nat->Bool}{d:Value}
end
section
variable {X:Cx}{x:Str}{e:Expr}{kws:List Keyword}{p pos:Pos}{t tk:TA}
end
end L2
namespace L2
open PySem PySem.Spec PyProof.Rows PySem.SeqAt
def ltP (a b:Int×Int):Bool:=decide (a.1 < b.1\/(a.1=b.1/\a.2 < b.2))
def YIH (prog:Program) (w:World) (A:Around) (kp:Addr->Obj->Prop) (P:Nat->Value->Prop) (bt:Nat->Nat->Bool):Prop:=
 ∀i j vi vj (s:Shared) (Q:Value->Shared->Prop) (E:Value->Shared->Prop),(∀a o,kp a o->s.heap.get? a=some o)->P i vi->P j vj->Q (.bool (bt i j)) s->wpAny (model prog w) A (richCompare .Lt vi vj) Q E s
section
variable {prog:Program}{w:World}{A:Around}{R:Result->Shared->Prop}{I S:Addr}{fp wr:List Addr}{n:Nat}{P:Nat->Value->Prop}{St:Nat->Heap->Prop}{bt:Nat->Nat->Bool}{kw:List (Str×Value)}{kp:Addr->Obj->Prop}
theorem YCe:(toString "min" ++ toString ".loop":String)="min.loop":=by decide
theorem mn_more (W:Walks prog w A.in1 I fp wr n P St) (uD:YIH prog w A.in1 kp P bt) (nS:S∉fp) (nk:∀a o,kp a o->a∉wr/\a≠S):∀(m j:Nat),n=j + 1 + m->∀(s:Shared) (x:Value) (c:Nat),(∀a o,kp a o->s.heap.get? a=some o)->St (j + 1) s.heap->P (argBest bt j) x->
  s.heap.get? S=some ⟨.type "list",none,.seq #[x,x] c,#[]⟩->(∀y h' tk,P (argBest bt (n - 1)) y->(∀a o,a∉wr->a≠S->s.heap.get? a=some o->h'.get? a=some o)->R (.ok (.ret y)) { s with heap:=h',toks:=tk })->
  codeAny (model prog w) A (.builtin "min.loop" ⟨[.ref I,.none,.ref S],kw⟩) R s:=λm=>by
 have nw:S∉wr:=λz=>nS (W.sub _ z)
 induction m with
 |zero=>
  intro j en s x c sk st px gS fin;have en:j + 1=n:=by lia
  refine codeAny_builtin F.entry_min_loop ?_;rw[Around.under_plainId F.plain_min_loop];show wpAny _ _ (seqItems? (.ref S) >>= _) _ _ _;refine YKz (wpAny_seqItems gS rfl ?_);show wpAny _ _ (tryCatch (pyNext (.ref I)) _ >>= _) _ _ _;subst en;refine YKz (wpAny_tryCatch (W.done s _ _ st λh1 t1 k1=>?_));show wpAny _ _ (updateSeq S (λ_=>#[]) >>= _) _ _ _;refine YKz (wpAny_updateSeq (k1 S _ nw gS) rfl (YKz (wpAny_letGo (YLO ?_))));exact fin x _ t1 px λa o h1 h2 e=>(YLc _ _ h2.symm).trans (k1 a o h1 e)
 |succ m ih=>
  intro j en s x c sk st px gS fin;have lt:j + 1 < n:=by lia
  have Wo:n=j + 1 + 1 + m:=by lia
  refine codeAny_builtin F.entry_min_loop ?_;rw[Around.under_plainId F.plain_min_loop];show wpAny _ _ (seqItems? (.ref S) >>= _) _ _ _;refine YKz (wpAny_seqItems gS rfl ?_);show wpAny _ _ (tryCatch (pyNext (.ref I)) _ >>= _) _ _ _;refine YKz (wpAny_tryCatch (W.item (j + 1) s _ _ lt st λy h1 t1 py yR k1=>?_));have g1:=k1 S _ nw gS;have Qs:∀a o,kp a o->h1.get? a=some o:=λa o h=>k1 a o (nk a o h).1 (sk a o h)
  show wpAny _ _ (tryCatch (holding [y,y] (richCompare .Lt y x >>= _)) _ >>= _) _ _ _;refine YKz (wpAny_tryCatch (wpAny_holding (YKz (uD (j + 1) (argBest bt j) y x _ _ _ Qs py px (YKz (wpAny_holding (wpAny_truthy_bool (YKz (wpAny_letGo (YLO ?_))))))))));have ab:argBest bt (j + 1)=if bt (j + 1) (argBest bt j)=true then j + 1 else argBest bt j:=rfl
  cases hb:bt (j + 1) (argBest bt j) with
  |true=>
   rw[hb,if_pos rfl]at ab;rw[if_pos rfl];refine YKz (wpAny_updateSeq g1 rfl (YKz (wpAny_letGo ?_)));rw[YCe];refine YLO ⟨plainId_quiet F.plain_min_loop _,ih (j + 1) Wo _ y _ (λa o h=>(YLc _ _ (nk a o h).2.symm).trans (Qs a o h)) (W.frame _ _ _ yR λa ha o e=>(YLc _ _ λz=>nS (by rw[z];exact ha)).trans e) (by rw[ab];exact py) (YLp _ g1 rfl) λv h2 t2 pv k2=>?_⟩;exact fin v h2 t2 pv λa o n1 n2 e=>k2 a o n1 n2 ((YLc _ _ n2.symm).trans (k1 a o n1 e))
  |false=>
   rw[hb,if_neg YLD]at ab;rw[if_neg YLD];refine YKz (wpAny_letGo ?_);rw[YCe];refine YLO ⟨plainId_quiet F.plain_min_loop _,ih (j + 1) Wo _ x c Qs yR (by rw[ab];exact px) g1 λv h2 t2 pv k2=>?_⟩;exact fin v h2 t2 pv λa o n1 n2 e=>k2 a o n1 n2 (k1 a o n1 e)
theorem YKW (W:Walks prog w A.in1 I fp wr n P St) (uD:YIH prog w A.in1 kp P bt) (nS:S∉fp) (nk:∀a o,kp a o->a∉wr/\a≠S) {s:Shared}{c:Nat} (sk:∀a o,kp a o->s.heap.get? a=some o) (hn:0 < n) (st:St 0 s.heap) (gS:s.heap.get? S=some ⟨.type "list",none,.seq #[] c,#[]⟩)
  (fin:∀y h' tk,P (argBest bt (n - 1)) y->(∀a o,a∉wr->a≠S->s.heap.get? a=some o->h'.get? a=some o)->R (.ok (.ret y)) { s with heap:=h',toks:=tk }):
  codeAny (model prog w) A (.builtin "min.loop" ⟨[.ref I,.none,.ref S],kw⟩) R s:=by
 have nw:S∉wr:=λz=>nS (W.sub _ z)
 refine codeAny_builtin F.entry_min_loop ?_;rw[Around.under_plainId F.plain_min_loop];show wpAny _ _ (seqItems? (.ref S) >>= _) _ _ _;refine YKz (wpAny_seqItems gS rfl ?_);show wpAny _ _ (tryCatch (pyNext (.ref I)) _ >>= _) _ _ _;refine YKz (wpAny_tryCatch (W.item 0 s _ _ hn st λy h1 t1 py yR k1=>?_));have g1:=k1 S _ nw gS;show wpAny _ _ (updateSeq S (λ_=>#[y,y]) >>= _) _ _ _;refine YKz (wpAny_updateSeq g1 rfl ?_);rw[YCe];refine YLO ⟨plainId_quiet F.plain_min_loop _,mn_more W uD nS nk (n - 1) 0 (by lia) _ y _ (λa o h=>(YLc _ _ (nk a o h).2.symm).trans (k1 a o (nk a o h).1 (sk a o h))) (W.frame _ _ _ yR λa ha o e=>(YLc _ _ λz=>nS (by rw[z];exact ha)).trans e) py (YLp _ g1 rfl) λv h2 t2 pv k2=>?_⟩;exact fin v h2 t2 pv λa o n1 n2 e=>k2 a o n1 n2 ((YLc _ _ n2.symm).trans (k1 a o n1 e))
theorem mn_none (W:Walks prog w A.in1 I fp wr n P St) (nS:S∉fp) {s:Shared}{c:Nat}{k:Str}{d:Value} (hn:n=0) (st:St 0 s.heap) (gS:s.heap.get? S=some ⟨.type "list",none,.seq #[] c,#[]⟩)
  (fin:∀h' tk,(∀a o,a∉wr->s.heap.get? a=some o->h'.get? a=some o)->R (.ok (.ret d)) { s with heap:=h',toks:=tk }):
  codeAny (model prog w) A (.builtin "min.loop" ⟨[.ref I,.none,.ref S],[(k,d)]⟩) R s:=by
 refine codeAny_builtin F.entry_min_loop ?_;rw[Around.under_plainId F.plain_min_loop];show wpAny _ _ (seqItems? (.ref S) >>= _) _ _ _;refine YKz (wpAny_seqItems gS rfl ?_);show wpAny _ _ (tryCatch (pyNext (.ref I)) _ >>= _) _ _ _;subst hn;refine YKz (wpAny_tryCatch (W.done s _ _ st λh1 t1 k1=>?_));exact YKz (wpAny_rule (YLO (fin h1 t1 k1)))
end
section
variable {prog:Program}{w:World}{A:Around}{E:Value->Shared->Prop}{s:Shared}{l:Addr}{items:Array Value}{bt:Nat->Nat->Bool}{d:Value}{kp:Addr->Obj->Prop}
theorem mn_call {Q:Value->Shared->Prop} (hh:A.handled=none) (hl:s.heap.IsList l items) (uD:YIH prog w A.in1 kp (λi v=>items[i]?=some v) bt) (sk:∀a o,kp a o->s.heap.get? a=some o)
  (h0:items.size=0->∀h' tk,(∀a o,s.heap.get? a=some o->h'.get? a=some o)->Q d { s with heap:=h',toks:=tk })
  (h1:0 < items.size->∀v h' tk,items[argBest bt (items.size - 1)]?=some v->(∀a o,s.heap.get? a=some o->h'.get? a=some o)->Q v { s with heap:=h',toks:=tk }):
  wpAny (model prog w) A (call (.builtin "min") [.ref l] [("default",d)]) Q E s:=by
 have hlt:l < s.heap.objs.size:=by obtain⟨_,e,_⟩:=hl;exact YK8 e
 refine wpAny_call (codeAny_call_builtin F.plain_min F.entry_min (wpAny_of_eq (show checkBuiltinCall "min" ⟨[.ref l],[("default",d)]⟩=pure () by kernel_rfl) ?_));show wpAny _ _ (Builtin.Builtins.bindParams "min" ["key","default"] 0 ⟨[],[("default",d)]⟩ >>= _) _ _ s;refine YKz (wpAny_of_eq (show _=pure [none,some d] from rfl) (YKz (YLO (YKz (wpAny_pyIter_list hl (YKz (wpAny_newObj_type ?_)))))));rw[YCe];have W:=Walks.list (prog:=prog) (w:=w) (A:=A.in1) hh s.heap.objs.size l (YLW hlt) items;have Rz:∀(a:Addr) (o:Obj) (h':Heap) (x y:Obj),(∀a o,a∉[s.heap.objs.size]->((s.heap.push x).push y).get? a=some o->h'.get? a=some o)->s.heap.get? a=some o->h'.get? a=some o:=λa o h' x y hk e=>
  hk a o (λz=>by rw[YK4.mp z]at e;exact YLq _ (YK8 e)) (YK3 _ (YK3 _ e))
 refine YLO ⟨plainId_quiet F.plain_min_loop _,?_⟩;have e1:∀x:Obj,(s.heap.push x).objs.size=s.heap.objs.size + 1:=λx=>YMY _ _
 have nS:∀x:Obj,(s.heap.push x).objs.size∉[s.heap.objs.size,l]:=λx z=>by
  rw[e1]at z;simp only[YLB,YLj,or_false]at z;rcases z with z |z
  ·exact Nat.succ_ne_self _ z
  ·rw[<-z]at hlt;exact absurd hlt (Nat.not_lt.mpr (YMn _))
 have st:∀y:Obj,((s.heap.push { cls:=.type "list_iterator",data:=.fields #[.ref l,.int 0 0] }).push y).IsListIter s.heap.objs.size l 0/\((s.heap.push { cls:=.type "list_iterator",data:=.fields #[.ref l,.int 0 0] }).push y).IsList l items:=
  λy=>⟨⟨_,YK3 _ (YLI _ rfl),Z,Z⟩,(hl.push _).push _⟩
 have far:∀{a:Addr}{o:Obj},s.heap.get? a=some o->∀x:Obj,a∉[s.heap.objs.size]/\a≠(s.heap.push x).objs.size:=λ{a o} e x=>by
  have hlt':=YK8 e;refine⟨λz=>?_,λz=>?_⟩
  ·rw[YK4.mp z]at hlt';exact YLq _ hlt'
  ·rw[z,e1]at hlt';exact absurd hlt' (Nat.not_lt.mpr (YMn _))
 by_cases hz:items.size=0
 ·exact mn_none W (nS _) hz (st _) (YLI _ rfl) λh' tk hk=>h0 hz h' tk λa o=>Rz a o h' _ _ hk
 ·refine YKW W uD (nS _) (λa o h=>far (sk a o h) _) (λa o h=>YK3 _ (YK3 _ (sk a o h))) (Nat.pos_of_ne_zero hz) (st _) (YLI _ rfl) λv h' tk hv hk=>h1 (Nat.pos_of_ne_zero hz) v h' tk hv λa o e=>?_
  exact hk a o (far e ⟨.none,none,.seq #[] 0,#[]⟩).1 (far e _).2 (YK3 _ (YK3 _ e))
end
end L2
namespace L2
open PySem PySem.Spec PyProof.Rows PySem.SeqAt
section
variable {X:Cx}{x:Str}{e:Expr}{kws:List Keyword}{p pos:Pos}{t tk:TA}
theorem YKX {prog:Program}{w:World}{A:Around}{P:Nat->Value->Prop} (val:Nat->Int) (hval:∀i v,P i v->∃t,v=.int (val i) t):
  YIH prog w A (λ_ _=>False) P (λi j=>decide (val i < val j)):=λi j vi vj s Q E _ hi hj h=>CmpOf.ints_lt val hval i j vi vj s Q E hi hj h
def tMinD (K:W.Frag) (t tk:TA):TE:=λσ H Q=>t σ H λvs H1=>tk σ H1 λzs H2=>∃(a:Addr) (ns:List Int) (y:V),vs=[.ref a]/\zs=[y]/\SqL K H2 a (ns.map V.int)/\(ns=[]->Q y H2)/\∀m,m∈ns->(∀b∈ns,m<=b)->Q (.int m) H2
theorem pe_minD (K:W.Frag) (hK:X.K=K) (hc:X.calm=true) (hg:Gl X x) (hm:X.mg x=none) (hv:bootBuiltins x=some (.builtin "min")) (ha:PA X [e] t) (hd:PK X kws tk) (hn:x≠"__name__":=by decide) (hdb:(x == ("__debug__":Str))=false:=by decide)
  (he:starEach [e] X.env=[(false,eval e X.env)]:=by rfl) (hk:(backToKw pos (keywordEach kws X.env)).filterMap (·.1)=[("default":Str)]:=by rfl) (hal:(backToKw pos (keywordEach kws X.env)).all (·.1.isSome)=true:=by rfl) (yS:(backToKw pos (keywordEach kws X.env)).any (·.1.isNone)=false:=by rfl):
  PE X (.Call (.Name x p) [e] kws pos) (tMinD K t tk):=by
 subst hK;intro pins s σ H Q I h;refine wpAny_Call_Name_kw (JR I hg hm hv ?_ hn hdb);refine callWith_kw (rest:=[]) (thn (ha pos pins s σ H _ I h) λus s1 ⟨vs,H1,I1,r1,q1⟩=>thn (hd pos pins s1 σ H1 _ I1 q1) λws s2 ⟨zs,H2,I2,r2,a,ns,y,e1,e2,hq,q0,qm⟩=>?_) (by rw[he];rfl) (by rw[he];rfl) hal yS;subst e1 e2;obtain⟨u,rfl,ru⟩:=XY r1;obtain⟨v,rfl,rv⟩:=XY r2;cases ru;rw[hk];obtain⟨its,ri,pl,hz⟩:=I2.list hq;have hlen:ns.length=its.length:=by have:=ri.length;rwa [YKu]at this
 refine mn_call (bt:=λi j=>decide ((ns[i]?).getD 0 < (ns[j]?).getD 0)) (I2.ok.hd hc) pl.isList (YKX (λi=>(ns[i]?).getD 0) λi v hP=>?_) (λ_ _ z=>z.elim) (λh0 h' tk hk=>?_) λh0 v h' tk hv' hk=>?_
 ·obtain⟨b,t,eb,rfl⟩:=YFm ri (i:=i) (v:=v) (by simpa using hP);exact⟨t,by show Value.int b t=Value.int ((ns[i]?).getD 0) t;rw[eb];rfl⟩
 ·rw[YK9,<-hlen]at h0;exact⟨y,H2,I2.kept (t':=tk) hk,rv,q0 (List.length_eq_zero_iff.mp h0)⟩
 ·obtain⟨b,t,eb,rfl⟩:=YFm ri (v:=v) (by simpa using hv');rw[YK9,<-hlen]at h0;rw[<-hlen]at eb;have eb:ns[argBest (λi j=>decide ((ns[i]?).getD 0 < (ns[j]?).getD 0)) (ns.length - 1)]?=some b:=eb;obtain⟨g1,g2⟩:=argBest_lt (λi=>(ns[i]?).getD 0) (ns.length - 1);refine⟨.int b,H2,I2.kept (t':=tk) hk,⟨t,Z⟩,qm b (YKw eb) λc hc=>?_⟩;obtain⟨i,hi⟩:=List.getElem?_of_mem hc;have hil:=(YKy.mp hi).1;have:=g2 i (by lia);rw[hi,eb]at this;exact this
end
section
variable {X:Cx} (K:W.Frag) (hK:X.K=K)
include hK
end
end L2
namespace L2
open PySem PySem.Spec PyProof.Rows
def Itz (K:W.Frag) (a b:Addr):It:=
 ⟨λi H=>∃xs ys x y,SqL K H a xs/\SqL K H b ys/\xs[i]?=some x/\ys[i]?=some y,λi H v H'=>∃T,H T=none/\v=.ref T/\∀xs ys,SqL K H a xs->SqL K H b ys->∃x y,xs[i]?=some x/\ys[i]?=some y/\H'=upd H T (.tup [x,y]),
  λi H=>∃xs ys,SqL K H a xs/\SqL K H b ys/\(xs.length<=i\/ys.length<=i)⟩
theorem YKY {P:Program}{w:World}{K:W.Frag}{jL:List Expr}{k:Nat}{pos:Pos} (a b z TI TO i1 i2:Addr) (D:ZipApart z TI TO i1 i2 a b):
  YEp P w K (.Tuple jL k pos) (Itz K a b) [z,TI,TO,i1,i2] z (λi h=>IsZip h z TI TO .none/\IsPair h TI (.ref i1) (.ref i2)/\(∃a b,IsPair h TO a b)/\h.IsListIter i1 a i/\h.IsListIter i2 b i) where
 mem:=by simp
 obj:=λi h st c hc=>by
  obtain⟨hz,hTI,⟨_,_,hTO⟩,⟨o1,e1,c1,d1⟩,⟨o2,e2,c2,d2⟩⟩:=st;simp only[YLB,YLj,or_false]at hc;rcases hc with rfl |rfl |rfl |rfl |rfl
  ·exact⟨_,hz,λv z=>by cases z⟩
  ·exact⟨_,hTI,λv z=>by cases z⟩
  ·exact⟨_,hTO,λv z=>by cases z⟩
  ·exact⟨o1,e1,λv z=>by rw[d1]at z;cases z⟩
  ·exact⟨o2,e2,λv z=>by rw[d2]at z;cases z⟩
 keep:=λi h h' st k=>by
  obtain⟨hz,hTI,⟨x,y,hTO⟩,h1,h2⟩:=st;exact⟨k z (by simp) _ hz,k TI (by simp) _ hTI,⟨x,y,k TO (by simp) _ hTO⟩,h1.at λo x=>k i1 (by simp) o x,h2.at λo x=>k i2 (by simp) o x⟩
 item:=by
  intro X hP hw hK hc i pins s σ H E I hf st hg;subst hP hw hK;obtain⟨hz,hTI,⟨_,_,hTO⟩,h1,h2⟩:=st;obtain⟨xs,ys,x,y,hq,hq',hx,hy⟩:=hg;obtain⟨its,rv,p,_⟩:=I.list hq;obtain⟨its',sU,p',_⟩:=I.list hq';obtain⟨u,hu,ru⟩:=rv.get hx;obtain⟨u',hu',yc⟩:=sU.get hy;refine wpAny_pyNext_zip_item D hz hTI hTO h1 h2 p.isList p'.isList (x:=u) (y:=u') (by simpa using hu) (by simpa using hu') λh' hz' zE h1' h2' hT hsz hk=>?_
  refine⟨_,Z,wpAny_letOwnedTupleGo_zip (s:={ s with heap:=h' }) hz' λh'' Qt hs'=>?_⟩;have kk:∀c o,c∉[z,TI,TO,i1,i2]->s.heap.get? c=some o->h''.get? c=some o:=λc o hb q=>by
   simp only[YLB,YLj,or_false,not_or]at hb;exact(hs'.2 c hb.1).trans (hk c o hb.1 hb.2.2.1 hb.2.2.2.1 hb.2.2.2.2 q)
  have I1:Inv X pins σ H { s with heap:=h'' }:=I.turns (t':=s.toks) kk hf;have hlt:z < s.heap.objs.size:=YK8 hz;have hTz:s.heap.objs.size≠z:=YMJ hlt;have hT':h''.get? s.heap.objs.size=some { cls:=.type "tuple",data:=.seq #[u,u'] }:=(hs'.2 _ hTz).trans hT;have hfr:H s.heap.objs.size=none:=I.hok.fresh (YKv _);have I2:=I1.trackT (T:=s.heap.objs.size) (xs:=[x,y]) (its:=[u,u']) hfr ⟨_,hT',Z,_,Z⟩ (.cons ru (.cons yc .nil)) (by show 2<=sizeLine;rw[sizeLine_eq];decide)
   (λo q=>absurd (YK8 q) (Nat.not_lt.mpr I.sz)) λp hp z=>absurd (YK8 (I.pin p hp).1) (by rw[z];exact YLq _)
  refine⟨.ref s.heap.objs.size,_,I2,Z,⟨_,hfr,Z,λxs2 ys2 hy1 Wq=>⟨x,y,by rw[I.list_inj hy1 hq];exact hx,by rw[I.list_inj Wq hq'];exact hy,Z⟩⟩,⟨Qt,(hs'.2 TI D.TIz).trans (hk TI _ D.TIz D.TITO D.TIi1 D.TIi2 hTI),⟨_,_,(hs'.2 TO D.TOz).trans zE⟩,h1'.at λo q=>(hs'.2 i1 D.i1z).trans q,h2'.at λo q=>(hs'.2 i2 D.i2z).trans q⟩,λc hc=>?_⟩;obtain⟨o,eo⟩:∃o,s.heap.get? c=some o:=by
   simp only[YLB,YLj,or_false]at hc;rcases hc with rfl |rfl |rfl |rfl |rfl
   ·exact⟨_,hz⟩
   ·exact⟨_,hTI⟩
   ·exact⟨_,hTO⟩
   ·obtain⟨o,eo,_⟩:=h1;exact⟨o,eo⟩
   ·obtain⟨o,eo,_⟩:=h2;exact⟨o,eo⟩
  rw[YH (YLW (YK8 eo))];exact(hf c hc).1
 done:=by
  intro X hP hw hK hc i pins s σ H E I hf st hg;subst hP hw hK;obtain⟨hz,hTI,⟨_,_,hTO⟩,h1,h2⟩:=st;obtain⟨xs,ys,hq,hq',hx⟩:=hg;obtain⟨its,rv,p,_⟩:=I.list hq;obtain⟨its',sU,p',_⟩:=I.list hq';have hl:=rv.length;have hl':=sU.length;exact wpAny_pyNext_zip_end (I.ok.hd hc) D hz hTI hTO h1 h2 p.isList p'.isList (hx.imp (λh=>Array.getElem?_eq_none (by simp;lia)) λh=>Array.getElem?_eq_none (by simp;lia)) λh' eb=>⟨Z,I.turns (t':=s.toks) (λc o hb q=>by
   simp only[YLB,YLj,or_false,not_or]at hb;exact eb c o hb.1 hb.2.2.1 hb.2.2.2.1 hb.2.2.2.2 q) hf⟩
 self:=λ_ _ _ _ _ st h=>by
  obtain⟨hz,_⟩:=st;exact wpAny_pyIter_zip hz h
theorem YF4 (n l l':Nat) (h:l < n) (h':l' < n):ZipApart (n + 4) (n + 2) (n + 3) n (n + 1) l l':=by
 have ne:∀{a b:Addr},@Ne Nat a b->a≠b:=λh=>h
 constructor <;> exact ne (by lia)
section
variable {X:Cx}{jL:List Expr}{k:Nat}{lz:Pos}
def iZip2 (K:W.Frag) (ta:TA):TI:=λσ H R=>ta σ H λvs H1=>∃a b xs ys,vs=[.ref a,.ref b]/\SqL K H1 a xs/\SqL K H1 b ys/\R (Itz K a b) H1
theorem pi_zip2 (K:W.Frag) (hK:X.K=K) {a b:Expr}{ta:TA}{p pos:Pos} (hg:Gl X "zip") (hm:X.mg "zip"=none) (ha:PA X [a,b] ta) (hs:starEach [a,b] X.env=(false,eval a X.env) :: starEach [b] X.env:=by rfl) (hpl:(backTo pos (starEach [b] X.env)).any (·.1)=false:=by rfl):
  PI X (.Tuple jL k lz) (.Call (.Name "zip" p) [a,b] [] pos) (iZip2 K ta):=by
 subst hK;intro pins s σ H R I h;refine Call_ (JR I hg hm PyProof.Rows.Boot.«zip» (PyProof.Rows.callWith_type1 (thn (ha pos pins s σ H _ I h) λus s1 ⟨vs,H1,I1,r1,q1⟩=>?_) hs hpl));obtain⟨l,l',xs,ys,rfl,hq,hq',q⟩:=q1;obtain⟨u,u',rfl,ru,yc⟩:=YHs r1;cases ru;cases yc;obtain⟨its,rv,p,_⟩:=I1.list hq;obtain⟨its',sU,p',_⟩:=I1.list hq';refine call_zip_2 p.isList p'.isList λh' hz hTI hTO h1 h2 hsz hk=>?_
 have I2:Inv X pins σ H1 { s1 with heap:=h' }:=I1.kept (t':=s1.toks) hk;refine wpAny_pyIter_zip hz ?_;have lt:l < s1.heap.objs.size:=by obtain⟨_,e,_⟩:=p.isList;exact YK8 e
 have lt':l' < s1.heap.objs.size:=by obtain⟨_,e,_⟩:=p'.isList;exact YK8 e
 have D:=YF4 s1.heap.objs.size l l' lt lt';have fo:∀j,YAO X pins H1 (s1.heap.objs.size + j):=λj=>I1.fpOk (Nat.le_add_right _ _) (I1.hok.fresh (Nat.le_add_right _ _))
 refine⟨s1.heap.objs.size + 4,[s1.heap.objs.size + 4,s1.heap.objs.size + 2,s1.heap.objs.size + 3,s1.heap.objs.size,s1.heap.objs.size + 1],_,_,H1,Z,I2,YKY l l' _ _ _ _ _ D,⟨hz,hTI,⟨_,_,hTO⟩,h1,h2⟩,λb hb=>?_,q⟩;simp only[YLB,YLj,or_false]at hb;rcases hb with rfl |rfl |rfl |rfl |rfl
 ·exact fo 4
 ·exact fo 2
 ·exact fo 3
 ·exact fo 0
 ·exact fo 1
theorem YBY:Jp X (.builtin "divmod") (λxs H Q=>∃i j:Int,xs=[.int i,.int j]/\0 < j/\j.natAbs.log2 < 9000/\∀t,H t=none->Q (.ref t) (upd H t (.tup [.int (i / j),.int (i % j)]))):=by
 intro pins s σ H xs us Q I r h;obtain⟨i,j,rfl,hj,hl,q⟩:=h;obtain⟨u,v,rfl,⟨t,rfl⟩,⟨t',rfl⟩⟩:=YHs r;refine divmod_int (by lia) ?_ (.inl (PyProof.noPylong_of_log2 hl));rw[Int.fdiv_eq_ediv_of_nonneg _ (YMK hj),Int.fmod_eq_emod_of_nonneg _ (YMK hj)];have I2:Inv X pins σ (upd H s.heap.objs.size (.tup [.int (i / j),.int (i % j)])) { s with toks:=s.toks + 1 + 1,heap:=s.heap.push { cls:=.type "tuple",data:=.seq #[.int (i / j) s.toks,.int (i % j) (s.toks + 1)] } }:=
  I.laid (t':=s.toks + 1 + 1) (λb o e=>YK3 _ e) (YKv _) (show Yp X.prog X.w _ _ _ (.tup _) from⟨by show 2<=sizeLine;rw[sizeLine_eq];decide,[.int (i / j) s.toks,.int (i % j) (s.toks + 1)],.cons ⟨_,Z⟩ (.cons ⟨_,Z⟩ .nil),IsTup.new _ _⟩)
 exact⟨.ref s.heap.objs.size,_,I2,Z,q _ (I.hok.fresh (YKv _))⟩
end
end L2
namespace L2
open PySem PySem.Spec PyProof.Rows
def YKZ (ta:TA):TE:=λσ H Q=>ta σ H λvs H1=>∃n:Nat,vs=[.int n]/\n<=2 ^ 20/\∀l,H1 l=none->Q (.ref l) (upd H1 l (.lst ((List.range n).map λi:Nat=>V.int (i:Int))))
theorem YF5 {X:Cx}{a:Expr}{ta:TA}{p p2 pos dN:Pos} (hc:X.calm=true) (hg:Gl X "list") (hm:X.mg "list"=none) (yd:Gl X "range") (hm2:X.mg "range"=none) (ha:PA X [a] ta)
  (hs:starEach [.Call (.Name "range" p2) [a] [] dN] X.env=[(false,eval (.Call (.Name "range" p2) [a] [] dN) X.env)]:=by rfl) (hs2:starEach [a] X.env=[(false,eval a X.env)]:=by rfl):
  PE X (.Call (.Name "list" p) [.Call (.Name "range" p2) [a] [] dN] [] pos) (YKZ ta):=by
 intro pins s σ H Q I h;refine wpAny_Call_Name_kw (JR I hg hm YLu ?_);refine PyProof.Rows.callWith_type1 ?_ hs rfl;rw[hs];show wpAny _ _ (spliced ((false,eval (.Call (.Name "range" p2) [a] [] dN) X.env) :: [])) _ _ s;refine Calls.spliced_cons (wpAny_Call_Name_kw (JR I yd hm2 boot_range (PyProof.Rows.callWith_type1 (thn (ha dN pins s σ H _ I h) λus s1 ⟨vs,H1,I1,r1,q1⟩=>?_) hs2 rfl)));obtain⟨n,rfl,hn,q⟩:=q1;obtain⟨u,rfl,t,rfl⟩:=XY r1;refine call_range_1 (Calls.spliced_nil ?_);have e2:Builtin.Range.rangeSize 0 (n:Int) 1=n:=by rw[rangeSize_one];split <;> lia
 have yU:(2:Nat) ^ 20=1048576:=by decide
 have p62:(2:Int) ^ 62=4611686018427387904:=by decide
 refine call_list_range (n:=n) (I1.ok.hd hc) (IsRange.new ..) (small_one (a:=0) (b:=n) (by decide) (by decide) (by lia) (by lia)) e2 (YLU hn (by decide)) λh' tk cR c' hk hS hacc=>?_
 have sU:Yf ((List.range n).map λi:Nat=>V.int (i:Int)) cR.toList:=by
  refine YCd (by rw[YKu,YLN,YLK,hacc.1]) λj x u h1 h2=>?_
  obtain⟨t',rfl⟩:=hacc.2 j u (by rw[<-YLt];exact h2);rw[YK1]at h1;have hj:j < n:=by
   have:=(YKy.mp h2).1
   rwa [YLK,hacc.1]at this
  rw[YLg hj]at h1;cases h1;exact⟨t',by simp⟩
 have kk:∀b u,s1.heap.get? b=some u->h'.get? b=some u:=λb u e=>hk b u (YK3 _ e)
 have le:s1.heap.objs.size<=(s1.heap.push { cls:=.type "range",data:=.fields #[.int 0 s1.toks,.int (n:Int) t,.int 1 (s1.toks + 1)] }).objs.size:=by rw[YMY];exact YMn _
 exact⟨.ref _,_,I1.laid (t':=tk) kk (by rw[YMY];exact YMn _) (show Yp X.prog X.w _ h' _ (.lst _) from⟨by rw[YKu,YLN,sizeLine_eq];lia,cR.toList,c',sU,by simpa using hS⟩),Z,q _ (I1.hok.fresh (by rw[YMY];exact YMn _))⟩
def iDictF (to:TE):TI:=λσ H R=>to σ H λx H1=>∃d o kvs,x=.ref d/\H1 d=some (.frz o (.dK kvs))/\R (ItK d o kvs) H1
theorem YKa {X:Cx}{tg oe:Expr}{to:TE} (ho:PE X oe to):PI X tg oe (iDictF to):=by
 intro pins s σ H R I h;refine thn (ho pins s σ H _ I h) λv s1 ⟨x,H1,I1,r1,q1⟩=>?_
 obtain⟨d,od,kvs,ex,hd,q⟩:=q1;subst ex;cases r1;obtain⟨sV,hsz,lo,vs,rel,hD⟩:=(show Yp X.prog X.w H1 s1.heap d (.frz od (.dK kvs)) from I1.hok d _ hd);obtain⟨o2,vU,yQ,h1,h2,h3,h4⟩:=hD;rw[sV]at h1;cases h1;have hat:s1.heap.DictAt (ZB X.prog X.w) d vs yQ:=⟨od,vU,sV,h2,h3,h4⟩;refine wpAny_pyIter_dict lo hat ?_;have k1:∀b u,s1.heap.get? b=some u->(s1.heap.push { cls:=.type "dict_keyiterator",data:=.fields #[.ref d,.int 0 0,.int vs.length 0,.int yQ 0] }).get? b=some u:=λb u e=>YK3 _ e
 have I2:=I1.kept (t':=s1.toks) k1;have hlen:kvs.length=vs.length:=rel.length;refine⟨_,[_],_,_,_,Z,I2,YEN (o:=od) h3,⟨_,YLI _ rfl,Z,by rw[hlen];rfl⟩,λb hb=>?_,q⟩;have eb:=YK4.mp hb;rw[eb];exact I1.fpOk (YKv _) (I1.hok.fresh (YKv _))
theorem YBz {d:Addr}{o:Obj}{kvs:List (Key×V)}{g:TG}{tb:TS}{D:YA6}{σ:St}{H:Hp} (Pv:Nat->St->Hp->Prop) (h0:Pv 0 σ H) (hl:∀i σ H,i<=kvs.length->Pv i σ H->H d=some (.frz o (.dK kvs)))
  (hs:∀i kv σ H,kvs[i]?=some kv->Pv i σ H->g (kV kv.1) σ H λσ2 H2=>tb { D with nx:=Pv (i + 1),ct:=Pv (i + 1),bk:=D.nx } σ2 H2) (hd:∀σ H,Pv kvs.length σ H->D.nx σ H):
  ∃W:Nat->Nat->St->Hp->Prop,(∃m,W 0 m σ H)/\∀i m σ H,W i m σ H->
   ((ItK d o kvs).stop i H/\D.nx σ H)\/((ItK d o kvs).go i H/\∃N:St->Hp->Prop,(∀σ' H',N σ' H'->∃m',m' < m/\W (i + 1) m' σ' H')/\∀x H',(ItK d o kvs).yld i H x H'->g x σ H' λσ2 H2=>tb { D with nx:=N,ct:=N,bk:=D.nx } σ2 H2):=by
 refine⟨λi m σ H=>m=kvs.length - i/\i<=kvs.length/\Pv i σ H,⟨kvs.length,by simp,YLS _,h0⟩,?_⟩;rintro i m σ H ⟨rfl,hi,p⟩;have q:=hl i σ H hi p
 by_cases hlt:i < kvs.length
 ·refine .inr ⟨⟨q,hlt⟩,Pv (i + 1),λσ' H' p'=>⟨kvs.length - (i + 1),by lia,Z,hlt,p'⟩,λx H' y=>?_⟩;obtain⟨kv,hkv,rfl,rfl⟩:=y;exact hs i kv σ _ hkv p
 ·have ei:i=kvs.length:=by lia
  subst ei;exact .inl ⟨⟨q,Z⟩,hd σ H p⟩
end L2
namespace FR
open PySem L2
def okP (s:Sz) (p:Str):Bool:=isQ p || (look s p).isSome
def rch (s:Sz):List Str->Nat
 |[]=>0
 |p :: ps=>if okP s p=true then rch s ps + 1 else 0
theorem Xi (s:Sz):∀ps:List Str,rch s ps<=ps.length
 |[]=>YKv _
 |p :: ps=>by
  show(if okP s p=true then rch s ps + 1 else 0)<=ps.length + 1;have:=Xi s ps;split <;> lia
theorem Zy {s:Sz}:∀{ps:List Str}{j:Nat},j < rch s ps->∃p,ps[j]?=some p/\okP s p=true
 |[],j,h=>absurd h (YMa _)
 |p :: ps,j,h=>by
  have h:j < if okP s p=true then rch s ps + 1 else 0:=h
  by_cases hp:okP s p=true
  ·rw[if_pos hp]at h;cases j with
   |zero=>exact⟨p,Z,hp⟩
   |succ j=>exact Zy (ps:=ps) (by lia)
  ·rw[if_neg hp]at h
   lia
theorem YF6 {s:Sz}:∀{ps:List Str},rch s ps < ps.length->∃p,ps[rch s ps]?=some p/\okP s p=false
 |[],h=>absurd h (YMa _)
 |p :: ps,h=>by
  by_cases hp:okP s p=true
  ·have e:rch s (p :: ps)=rch s ps + 1:=if_pos hp;rw[e]at h ⊢;exact YF6 (ps:=ps) (by simpa using h)
  ·have e:rch s (p :: ps)=0:=if_neg hp;rw[e];exact⟨p,Z,Bool.eq_false_iff.mpr hp⟩
theorem X0 {s:Sz}{ps:List Str} (h:∀p∈ps,okP s p=true):rch s ps=ps.length:=by
 rcases YLz (rch s ps) ps.length with hlt |hge
 ·obtain⟨p,e,hp⟩:=YF6 hlt;rw[h p (YKw e)]at hp;cases hp
 ·exact Nat.le_antisymm (Xi s ps) hge
abbrev OvF:=Str->Nat->Nat->Int
abbrev FiF:=Nat->Nat->Nat->Nat->Int
def EqF (g:Yy) (s:Sz) (cut:Int) (O:OvF) (F:FiF) (b m:Nat):Prop:=∀(r:Nat) (ρ:Y4),g[r]?=some ρ->F r 0 b m=m * cut + 1/\∀(d:Nat) (p:Str),d < rch s ρ.2.1->ρ.2.1[d]?=some p->
 (∀k,k<=m->F r (d + 1) b m<=F r d b k + O p (b + k) (b + m))/\∃k,k<=m/\F r (d + 1) b m=F r d b k + O p (b + k) (b + m)
def EqO (g:Yy) (s:Sz) (O:OvF) (F:FiF) (b m:Nat):Prop:=∀(h:Str) (v:Int),look s h=some v->
 (∀(r:Nat) (ρ:Y4),g[r]?=some ρ->ρ.1=h->rch s ρ.2.1=ρ.2.1.length->O h b (b + m)<=F r ρ.2.1.length b m)/\
 ∃(r:Nat) (ρ:Y4),g[r]?=some ρ/\ρ.1=h/\rch s ρ.2.1=ρ.2.1.length/\O h b (b + m)=F r ρ.2.1.length b m
theorem YHN {M:Int} (hM:0 < M) (x y:Int):(x + y) % M<=x % M + y % M:=by
 have e:(x + y) % M=(x % M + y % M) % M:=by rw[Int.add_emod]
 rw[e];have h2:=YLw x (YMg hM);have h3:=YLw y (YMg hM);rcases Int.lt_or_le (x % M + y % M) M with h |h
 ·rw[Int.emod_eq_of_lt (by lia) h];exact YLk _
 ·exact YL0 (YMK (YL6 _ hM)) h
section
variable {g:Yy}{s:Sz}{cut M:Int}{O:OvF}{F:FiF}{n:Nat}
structure X1 (g:Yy) (s:Sz) (cut M:Int) (O:OvF) (F:FiF) (n:Nat):Prop where
 cut0:0<=cut
 cutM:cut % M=0
 one:1 < M
 pos:∀p b e,0<=O p b e
 sg:∀p b e,isQ p=true->O p b e % M=0
 f:∀b m,b + m<=n->EqF g s cut O F b m
 o:∀b m,b + m<=n->EqO g s O F b m
theorem X1.f1 (T:X1 g s cut M O F n) {r:Nat}{ρ:Y4} (hr:g[r]?=some ρ):∀{d b m:Nat},d<=rch s ρ.2.1->b + m<=n->1<=F r d b m:=by
 intro d
 induction d with
 |zero=>
  intro b m _ hn;rw[(T.f b m hn r ρ hr).1];have:=YLo (Int.ofNat_nonneg m) T.cut0
  lia
 |succ d ih=>
  intro b m hd hn;obtain⟨p,ep,_⟩:=Zy (s:=s) (ps:=ρ.2.1) (j:=d) (by lia);obtain⟨k,hk,e⟩:=((T.f b m hn r ρ hr).2 d p (by lia) ep).2;rw[e];have h1:=ih (b:=b) (m:=k) (by lia) (by lia);have h2:=T.pos p (b + k) (b + m)
  lia
theorem X1.parts (T:X1 g s cut M O F n) {r:Nat}{ρ:Y4} (hr:g[r]?=some ρ) {V R:Int} (hR:0<=R) {b e:Nat} (he:e<=n)
  (hp:∀p∈ρ.2.1,okP s p=true->∀b' e',b<=b'->b'<=e'->e'<=e->O p b' e' < V->O p b' e' % M<=R):
  ∀{d m:Nat},d<=rch s ρ.2.1->b + m<=e->F r d b m<=V->F r d b m % M<=1 + d * R:=by
 have hM:0 < M:=Int.lt_trans (by decide) T.one;intro d
 induction d with
 |zero=>
  intro m _ hn _;rw[(T.f b m (by lia) r ρ hr).1,Int.add_emod,Int.mul_emod,T.cutM,Int.mul_zero,Int.zero_emod,YLr,Int.emod_emod,Int.emod_eq_of_lt (by decide) T.one];simp
 |succ d ih=>
  intro m hd hn hV;obtain⟨p,ep,hok⟩:=Zy (s:=s) (ps:=ρ.2.1) (j:=d) (by lia);obtain⟨k,hk,e1⟩:=((T.f b m (by lia) r ρ hr).2 d p (by lia) ep).2;rw[e1]at hV ⊢;have h1:=T.f1 hr (d:=d) (b:=b) (m:=k) (by lia) (by lia);have h2:=T.pos p (b + k) (b + m);have h3:=ih (m:=k) (by lia) (by lia) (by lia);have h4:=hp p (YKw ep) hok (b + k) (b + m) (by lia) (by lia) hn (by lia);have h5:=YHN hM (F r d b k) (O p (b + k) (b + m));have e2:((d + 1:Nat):Int) * R=d * R + R:=by push_cast;rw[YMC,YMX]
  rw[e2]
  lia
def YF7 (s:Sz) (O:OvF) (b e:Nat) (h:Str):Nat:=((s.map (·.1)).filter λz=>decide (O z b e < O h b e)).length
theorem YEO {α:Type}{p q:α->Bool}:∀{l:List α},(∀x∈l,p x=true->q x=true)->(l.filter p).length<=(l.filter q).length
 |[],_=>YKv _
 |c :: l,h=>by
  have:=YEO λx hx=>h x (YLA c hx)
  have hc:=h c (YLJ ..);rw[YL4,YL4];cases ep:p c with
  |true=>rw[if_pos rfl,if_pos (hc ep)];simpa using this
  |false=>
   rw[if_neg YLD];split
   ·rw[YK6];lia
   ·exact this
theorem YEP {α:Type}{p q:α->Bool}:∀{l:List α},(∀x∈l,p x=true->q x=true)->(∃x∈l,p x=false/\q x=true)->(l.filter p).length < (l.filter q).length:=by
 intro l
 induction l with
 |nil=>rintro _ ⟨x,hx,_⟩;cases hx
 |cons a l ih=>
  intro h1 h2;have hle:(l.filter p).length<=(l.filter q).length:=by
   exact YEO λx hx=>h1 x (YLA _ hx)
  rw[YL4,YL4];rcases h2 with ⟨x,hx,e1,e2⟩
  rcases YLB.mp hx with rfl |hx
  ·rw[e1,e2,if_neg YLD,if_pos rfl,YK6]
   lia
  ·have:=ih (λx hx=>h1 x (YLA _ hx)) ⟨x,hx,e1,e2⟩;have ha:=h1 a (YLJ ..);cases ep:p a with
   |true=>rw[if_pos rfl,if_pos (ha ep)];simpa using this
   |false=>
    rw[if_neg YLD];split
    ·rw[YK6];lia
    ·exact this
theorem YII {h:Str}{v:Int} (hh:look s h=some v) (b e:Nat):YF7 s O b e h < s.length:=by
 have hm:h∈s.map (·.1):=YLL.mpr ⟨_,Xx hh,Z⟩;have:=YEP (p:=λz=>decide (O z b e < O h b e)) (q:=λ_=>true) (l:=s.map (·.1)) (λ_ _ _=>rfl) ⟨h,hm,YK0 (Int.lt_irrefl _),Z⟩;rw[List.filter_eq_self.mpr (λ_ _=>rfl),YKu]at this;exact this
theorem YJG {p h:Str}{v:Int} (hp:look s p=some v) {b e:Nat} (hlt:O p b e < O h b e):YF7 s O b e p < YF7 s O b e h:=by
 refine YEP (λx _ hx=>?_) ⟨p,YLL.mpr ⟨_,Xx hp,Z⟩,YK0 (Int.lt_irrefl _),YK2 hlt⟩;have:=YLM hx;exact YK2 (by lia)
theorem pow7 {l:Nat}:(1:Int)<=7 ^ l:=by
 have:(0:Int) < 7 ^ l:=Int.pow_pos (by decide)
 lia
theorem YAu {l l':Nat} (h:l<=l'):(7:Int) ^ l<=7 ^ l':=by
 induction l' with
 |zero=>
  have:l=0:=by lia
  rw[this];exact YLk _
 |succ k ih=>
  rcases YLz l (k + 1) with h' |h'
  ·have h1:=ih (by lia);have h2:(7:Int) ^ (k + 1)=7 ^ k * 7:=Int.pow_succ ..;have h3:=pow7 (l:=k)
   lia
  ·have:l=k + 1:=by lia
   rw[this];exact YLk _
theorem X1.head (T:X1 g s cut M O F n) (h6:∀ρ∈g,ρ.2.1.length<=6):∀(l:Nat) {h:Str}{v:Int}{b m:Nat},look s h=some v->b + m<=n->m * s.length + YF7 s O b (b + m) h=l->O h b (b + m) % M<=7 ^ (l + 1):=by
 intro l
 induction l using Nat.strongRecOn with
 |ind l ih=>
  intro h v b m hh hn hl;obtain⟨r,ρ,hr,eh,hf,e⟩:=(T.o b m hn h v hh).2;have hlen:=h6 ρ (YKw hr);have hR:=pow7 (l:=l);have key:=T.parts hr (V:=O h b (b + m)) (R:=7 ^ l) (by lia) (b:=b) (e:=b + m) hn (λp _ hok b' e' h1 h2 h3 hlt=>?_) (d:=ρ.2.1.length) (m:=m) (by lia) (YKv _) (by rw[e];exact YLk _)
  ·rw[e];have h7:(7:Int) ^ (l + 1)=7 ^ l * 7:=Int.pow_succ ..;have:(ρ.2.1.length:Int) * 7 ^ l<=6 * 7 ^ l:=YLs (by lia) (by lia)
   lia
  ·cases hq:isQ p with
   |true=>rw[T.sg p b' e' hq];lia
   |false=>
    unfold okP at hok;rw[hq,YMT]at hok;obtain⟨u,hu⟩:=YLZ.mp hok;obtain⟨m',rfl⟩:∃m',e'=b' + m':=⟨e' - b',by lia⟩;have hr1:=YII (O:=O) hu b' (b' + m');have lv:m' * s.length + YF7 s O b' (b' + m') p < l:=by
     rcases YLz m' m with hm |hm
     ·have h4:(m' + 1) * s.length<=m * s.length:=Nat.mul_le_mul_right _ hm;rw[Nat.add_mul,Nat.one_mul]at h4
      lia
     ·have e1:m'=m:=by lia
      have e2:b'=b:=by lia
      subst e1 e2;have:=YJG hu hlt
      lia
    exact YL0 (ih _ lv hu (by lia) rfl) (YAu (by lia))
theorem X1.wy (T:X1 g s cut M O F n) (h6:∀ρ∈g,ρ.2.1.length<=6) {h:Str}{v:Int}{b m:Nat} (hh:look s h=some v) (hn:b + m<=n):O h b (b + m) % M<=7 ^ ((n + 1) * s.length):=by
 refine YL0 (T.head h6 _ hh hn rfl) (YAu ?_);have h1:=YII (O:=O) hh b (b + m);have h2:m * s.length<=n * s.length:=Nat.mul_le_mul_right _ (by lia);rw[Nat.add_mul,Nat.one_mul]
 lia
theorem X1.partB (T:X1 g s cut M O F n) (h6:∀ρ∈g,ρ.2.1.length<=6) {p:Str}{b e:Nat} (hp:okP s p=true) (hb:b<=e) (he:e<=n):O p b e % M<=7 ^ ((n + 1) * s.length):=by
 have:=pow7 (l:=(n + 1) * s.length);cases hq:isQ p with
 |true=>rw[T.sg p b e hq];lia
 |false=>
  unfold okP at hp;rw[hq,YMT]at hp;obtain⟨u,hu⟩:=YLZ.mp hp;obtain⟨m,rfl⟩:∃m,e=b + m:=⟨e - b,by lia⟩;exact T.wy h6 hu he
theorem X1.ruleB (T:X1 g s cut M O F n) (h6:∀ρ∈g,ρ.2.1.length<=6) {r:Nat}{ρ:Y4} (hr:g[r]?=some ρ) {d b m:Nat} (hd:d<=rch s ρ.2.1) (hn:b + m<=n):F r d b m % M<=7 ^ ((n + 1) * s.length + 1):=by
 have hR:=pow7 (l:=(n + 1) * s.length);have key:=T.parts hr (V:=F r d b m) (R:=7 ^ ((n + 1) * s.length)) (by lia) (b:=b) (e:=b + m) hn (λp _ hok b' e' h1 h2 h3 _=>T.partB h6 hok h2 (by lia)) hd (YKv _) (YLk _);have hlen:=h6 ρ (YKw hr);have Wr:=YLU hd (Xi s ρ.2.1);have h7:(7:Int) ^ ((n + 1) * s.length + 1)=7 ^ ((n + 1) * s.length) * 7:=Int.pow_succ ..;have:(d:Int) * 7 ^ ((n + 1) * s.length)<=6 * 7 ^ ((n + 1) * s.length):=YLs (by lia) (by lia)
 lia
end
def YBZ (x:Int):Option Int->Int
 |none=>x
 |some y=>if y < x then y else x
def prt (ps:List Str) (d:Nat):Str:=(ps[d]?).getD Str.empty
def Y8 (cut:Int) (O:OvF) (Fr:Nat->Nat->Int) (inn:Nat->Option Int) (ps:List Str) (b e:Nat):Nat->Int
 |0=>((e:Int) - b) * cut + 1
 |d + 1=>YBZ (if b < e then (if Fr d 0 + O (prt ps d) b e < Y8 cut O Fr inn ps b e d + O (prt ps d) e e then Fr d 0 + O (prt ps d) b e else Y8 cut O Fr inn ps b e d + O (prt ps d) e e) else Y8 cut O Fr inn ps b e d + O (prt ps d) e e) (inn (d + 1))
theorem YE9 (x:Int) (o:Option Int):YBZ x o<=x/\(∀y,o=some y->YBZ x o<=y)/\(YBZ x o=x\/o=some (YBZ x o)):=by
 cases o with
 |none=>exact⟨YLk _,λy h=>(nomatch h),.inl rfl⟩
 |some y=>
  show(if y < x then y else x)<=x/\_
  by_cases h:y < x
  ·have e:YBZ x (some y)=y:=if_pos h;rw[if_pos h,e];exact⟨YMK h,λz hz=>by cases hz;exact YLk _,.inr rfl⟩
  ·have e:YBZ x (some y)=x:=if_neg h;rw[if_neg h,e];exact⟨YLk _,λz hz=>by cases hz;lia,.inl rfl⟩
section
variable {s:Sz}{cut:Int}{O O':OvF}{Fr:Nat->Nat->Int}{inn:Nat->Option Int}{ps:List Str}{b e m:Nat}
theorem Jg (d:Nat):Y8 cut O Fr inn ps b e (d + 1)=YBZ (if b < e then (if Fr d 0 + O (prt ps d) b e < Y8 cut O Fr inn ps b e d + O (prt ps d) e e then Fr d 0 + O (prt ps d) b e else Y8 cut O Fr inn ps b e d + O (prt ps d) e e) else Y8 cut O Fr inn ps b e d + O (prt ps d) e e) (inn (d + 1)):=rfl
def YF8 (s:Sz) (O:OvF) (Fr:Nat->Nat->Int) (inn:Nat->Option Int) (ps:List Str) (b m:Nat):Prop:=∀(d:Nat) (p:Str),d < rch s ps->ps[d]?=some p->
 (∀k,1<=k->k < m->∃v,inn (d + 1)=some v/\v<=Fr d k + O p (b + k) (b + m))/\∀v,inn (d + 1)=some v->∃k,1<=k/\k < m/\v=Fr d k + O p (b + k) (b + m)
theorem YKb (hi:YF8 s O Fr inn ps b m) {d:Nat}{p:Str} (hd:d < rch s ps) (hp:ps[d]?=some p):
  (∀k,k<=m->Y8 cut O Fr inn ps b (b + m) (d + 1)<=(if k < m then Fr d k else Y8 cut O Fr inn ps b (b + m) d) + O p (b + k) (b + m))/\
  ∃k,k<=m/\Y8 cut O Fr inn ps b (b + m) (d + 1)=(if k < m then Fr d k else Y8 cut O Fr inn ps b (b + m) d) + O p (b + k) (b + m):=by
 obtain⟨i1,i2⟩:=hi d p hd hp;have ep:prt ps d=p:=by unfold prt;rw[hp];rfl
 rw[Jg,ep];obtain⟨L,eL⟩:∃L,Y8 cut O Fr inn ps b (b + m) d=L:=⟨_,Z⟩;rw[eL];obtain⟨x,ex⟩:∃x,(if b < b + m then (if Fr d 0 + O p b (b + m) < L + O p (b + m) (b + m) then Fr d 0 + O p b (b + m) else L + O p (b + m) (b + m)) else L + O p (b + m) (b + m))=x:=⟨_,Z⟩;rw[ex];have x1:x<=L + O p (b + m) (b + m):=by rw[<-ex];split <;> (try split) <;> lia
 have x2:0 < m->x<=Fr d 0 + O p b (b + m):=λh=>by rw[<-ex,if_pos (by lia)];split <;> lia
 have x3:x=L + O p (b + m) (b + m)\/(0 < m/\x=Fr d 0 + O p b (b + m)):=by
  rw[<-ex]
  by_cases h:b < b + m
  ·rw[if_pos h];split
   ·exact .inr ⟨by lia,Z⟩
   ·exact .inl rfl
  ·rw[if_neg h];exact .inl rfl
 obtain⟨y1,y2,y3⟩:=YE9 x (inn (d + 1));refine⟨λk hk=>?_,?_⟩
 ·by_cases qJ:k < m
  ·rw[if_pos qJ];rcases Nat.eq_zero_or_pos k with rfl |h0
   ·have:=x2 qJ;show _<=Fr d 0 + O p b (b + m)
    lia
   ·obtain⟨v,ev,hv⟩:=i1 k h0 qJ;exact YL0 (y2 v ev) hv
  ·rw[if_neg qJ];have:k=m:=by lia
   subst this
   lia
 ·rcases y3 with y3 |y3
  ·rw[y3];rcases x3 with x3 |⟨h0,x3⟩
   ·exact⟨m,YKv _,by rw[if_neg (YLq _)];exact x3⟩
   ·exact⟨0,YLS _,by rw[if_pos h0,Nat.add_zero];exact x3⟩
  ·obtain⟨k,h1,h2,e1⟩:=i2 _ y3;exact⟨k,by lia,by rw[if_pos h2];exact e1⟩
theorem YJH {x y:Int} (h:x<=y) (o:Option Int):YBZ x o<=YBZ y o:=by
 cases o with
 |none=>exact h
 |some z=>
  show(if z < x then z else x)<=if z < y then z else y
  split <;> split <;> lia
theorem YEQ (h1:∀p∈ps,O' p b e<=O p b e) (h2:∀p∈ps,O' p e e<=O p e e):∀{d:Nat},d<=ps.length->Y8 cut O' Fr inn ps b e d<=Y8 cut O Fr inn ps b e d
 |0,_=>YLk _
 |d + 1,hd=>by
  have ih:=YEQ h1 h2 (d:=d) (by lia);have hp:ps[d]?=some ps[d]:=YKx (by lia);have hm:prt ps d∈ps:=by unfold prt;rw[hp];exact List.getElem_mem _
  have a1:=h1 _ hm;have a2:=h2 _ hm;rw[Jg,Jg];refine YJH ?_ _;split <;> (try split) <;> (try split) <;> lia
theorem YF9 {R:Nat} (hc:0<=cut) (hbe:b<=e) (hO:∀p b e,0<=O p b e) (hF:∀d,d < R->b < e->1<=Fr d 0) (hi:∀d v,d < R->inn (d + 1)=some v->1<=v):∀{d:Nat},d<=R->1<=Y8 cut O Fr inn ps b e d
 |0,_=>by
  have:=YLo (show(0:Int)<=(e:Int) - b by lia) hc;show(1:Int)<=_ + 1
  lia
 |d + 1,hd=>by
  have ih:=YF9 hc hbe hO hF hi (d:=d) (by lia);have a1:=hO (prt ps d) b e;have a2:=hO (prt ps d) e e;have a3:=hF d (by lia);rw[Jg];obtain⟨x,ex⟩:∃x,(if b < e then (if Fr d 0 + O (prt ps d) b e < Y8 cut O Fr inn ps b e d + O (prt ps d) e e then Fr d 0 + O (prt ps d) b e else Y8 cut O Fr inn ps b e d + O (prt ps d) e e) else Y8 cut O Fr inn ps b e d + O (prt ps d) e e)=x:=⟨_,Z⟩;rw[ex];have x1:1<=x:=by
   rw[<-ex]
   by_cases h:b < e
   ·have:=a3 h;rw[if_pos h];split <;> lia
   ·rw[if_neg h]
    lia
  rcases(YE9 x (inn (d + 1))).2.2 with h |h
  ·rw[h];exact x1
  ·exact hi d _ (by lia) h
theorem YJI {q:Int} (hq:∀p∈ps,isQ p=true->O p e e<=q) (hn:∀p∈ps,isQ p=false->∀v,look s p=some v->O p e e<=v) {k:Int} (hk:YAJ s q ps=some k):
  Y8 cut O Fr inn ps b e ps.length<=((e:Int) - b) * cut + k:=by
 have step:∀d,d<=ps.length->∃a,Z6 s q (ps.drop d) a=some k/\Y8 cut O Fr inn ps b e d<=((e:Int) - b) * cut + a:=by
  intro d
  induction d with
  |zero=>exactλ_=>⟨1,hk,YLk _⟩
  |succ d ih=>
   intro hd;obtain⟨a,h1,h2⟩:=ih (by lia);have hlt:d < ps.length:=by lia
   have hp:ps[d]?=some ps[d]:=YKx hlt;have ep:prt ps d=ps[d]:=by unfold prt;rw[hp];rfl
   have hm:ps[d]∈ps:=List.getElem_mem hlt;rw[YLy hlt]at h1;unfold Z6 at h1;have L:Y8 cut O Fr inn ps b e (d + 1)<=Y8 cut O Fr inn ps b e d + O ps[d] e e:=by
    rw[Jg,ep];refine YL0 (YE9 _ _).1 ?_;split <;> (try split) <;> lia
   cases hs:J2 s q ps[d] with
   |none=>rw[hs]at h1;cases h1
   |some x=>
    rw[hs]at h1;refine⟨a + x,h1,?_⟩;unfold J2 at hs;have hx:O ps[d] e e<=x:=by
     cases hq':isQ ps[d] with
     |true=>
      rw[hq',if_pos rfl]at hs;cases hs;exact hq _ hm hq'
     |false=>
      rw[hq',if_neg YLD]at hs;exact hn _ hm hq' x hs
    lia
 obtain⟨a,h1,h2⟩:=step ps.length (YKv _);rw[List.drop_length]at h1;cases h1;exact h2
theorem YFA {q:Int}:∀{ps:List Str}{a k:Int},Z6 s q ps a=some k->∀p∈ps,okP s p=true
 |[],_,_,_,p,hp=>nomatch hp
 |c :: ps,a,k,h,p,hp=>by
  unfold Z6 at h;cases hs:J2 s q c with
  |none=>rw[hs]at h;cases h
  |some x=>
   rw[hs]at h;rcases YLB.mp hp with rfl |hp
   ·unfold J2 at hs;unfold okP;cases hq:isQ p with
    |true=>rfl
    |false=>
     rw[hq,if_neg YLD]at hs;rw[hs];rfl
   ·exact YFA h p hp
theorem YCf {q:Int}:∀{ps:List Str}{a:Int},(∀p∈ps,okP s p=true)->∃k,Z6 s q ps a=some k
 |[],a,_=>⟨a,Z⟩
 |c :: ps,a,h=>by
  have hc:=h c (YLJ ..);have hs:∃x,J2 s q c=some x:=by
   unfold J2;unfold okP at hc;cases hq:isQ c with
   |true=>exact⟨q,if_pos rfl⟩
   |false=>
    rw[hq,YMT]at hc;rw[if_neg YLD];exact YLZ.mp hc
  obtain⟨x,hx⟩:=hs;unfold Z6;rw[hx];exact YCf λp hp=>h p (YLA _ hp)
end
inductive XV where
 |top |ov (p:Str) (e:Nat) |fi (r d b:Nat)
structure Tol where
 C:Addr
 x:Addr
 dx:Addr
 l:Addr
 ab:Addr
 ao:Addr
 af:Addr
 xs:List V
 g:Yy
 t:Str
 n:Nat
 put:Int
 cut:Int
 swap:Int
 s:Sz
 R:Nat
def Tol.fld (T:Tol):List (Str×V):=[("rules",.ref T.l),("text",.str T.t),("put",.int T.put),("cut",.int T.cut),("swap",.int T.swap),("bare",.ref T.ab),("over",.ref T.ao),("first",.ref T.af)]
def ovR (O:OvF) (p:Str) (e:Nat):List Int:=(List.range (e + 1)).map λb=>O p b e
def fiR (F:FiF) (r d b k:Nat):List Int:=(List.range k).map λm=>F r d b m
def OvAt (H:Hp) (own:Addr->Option XV) (n:Nat) (O:OvF) (p:Str) (v:Option V):Prop:=∃(a:Addr) (bs:List Addr),v=some (.ref a)/\own a=none/\H a=some (.lst (bs.map V.ref))/\bs.length=n + 1/\
 ∀(e:Nat) (c:Addr),bs[e]?=some c->own c=some (.ov p e)/\H c=some (.lst ((ovR O p e).map V.int))
def YGA (H:Hp) (own:Addr->Option XV) (n:Nat) (F:FiF) (K:Nat->Nat->Nat->Nat) (r d:Nat) (u:Addr):Prop:=∃es:List Addr,own u=none/\H u=some (.lst (es.map V.ref))/\es.length=n + 1/\
 ∀(b:Nat) (c:Addr),es[b]?=some c->own c=some (.fi r d b)/\H c=some (.lst ((fiR F r d b (K r d b)).map V.int))
def FiAt (H:Hp) (own:Addr->Option XV) (n:Nat) (F:FiF) (K:Nat->Nat->Nat->Nat) (r R:Nat) (t:Addr):Prop:=∃ds:List Addr,own t=none/\H t=some (.lst (ds.map V.ref))/\ds.length=R + 1/\
 ∀(d:Nat) (u:Addr),ds[d]?=some u->YGA H own n F K r d u
structure TSt (T:Tol) (own:Addr->Option XV) (ps:List Str) (H0 H:Hp) (O:OvF) (F:FiF) (K:Nat->Nat->Nat->Nat):Prop where
 pl:YL H
 sm:YJ H0 H
 hx:H T.x=some (.ins T.C T.dx T.fld)
 hl:H0 T.l=some (.lst T.xs)
 hds:Ya H0 T.xs (T.g.map ZF)
 hab:∃o,H T.ab=some (.frz o (.dK (szD T.s)))
 hao:∃kvs,H T.ao=some (.dK kvs)/\kvs.map (·.1)=ps.map Sum.inr/\∀p∈ps,OvAt H own T.n O p (Zf kvs (Sum.inr p))
 haf:∃ts:List Addr,own T.af=some .top/\H T.af=some (.lst (ts.map V.ref))/\ts.length=T.R/\∀(r:Nat) (t:Addr) (ρ:Y4),ts[r]?=some t->T.g[r]?=some ρ->FiAt H own T.n F K r (rch T.s ρ.2.1) t
 on:∀a u,own a=some u->H0 a=none/\∃xs:List V,H a=some (.lst xs)
 uq:∀a a' u,own a=some u->own a'=some u->a=a'
section
variable {T:Tol}{own:Addr->Option XV}{ps:List Str}{H0 H H':Hp}{O O':OvF}{F F':FiF}{K K':Nat->Nat->Nat->Nat}
theorem OvAt.keep {n:Nat}{p:Str}{v:Option V} (h:OvAt H own n O p v) (k:∀a o,H a=some o->H' a=some o):OvAt H' own n O p v:=by
 obtain⟨a,bs,h1,h2,h3,h4,h5⟩:=h;exact⟨a,bs,h1,h2,k _ _ h3,h4,λe c hc=>⟨(h5 e c hc).1,k _ _ (h5 e c hc).2⟩⟩
theorem YGA.keep {n r d:Nat}{u:Addr} (h:YGA H own n F K r d u) (k:∀a o,H a=some o->H' a=some o):YGA H' own n F K r d u:=by
 obtain⟨es,h1,h2,h3,h4⟩:=h;exact⟨es,h1,k _ _ h2,h3,λe c hc=>⟨(h4 e c hc).1,k _ _ (h4 e c hc).2⟩⟩
theorem FiAt.keep {n r R:Nat}{t:Addr} (h:FiAt H own n F K r R t) (k:∀a o,H a=some o->H' a=some o):FiAt H' own n F K r R t:=by
 obtain⟨ds,h1,h2,h3,h4⟩:=h;exact⟨ds,h1,k _ _ h2,h3,λd u hu=>(h4 d u hu).keep k⟩
theorem TSt.same (S:TSt T own ps H0 H O F K) (s:YJ H H') (p:YL H'):TSt T own ps H0 H' O F K:=by
 obtain⟨kvs,a1,a2,a3⟩:=S.hao;obtain⟨ts,b1,b2,b3,b4⟩:=S.haf;obtain⟨o,ho⟩:=S.hab;exact⟨p,S.sm.trans s,s _ _ S.hx,S.hl,S.hds,⟨o,s _ _ ho⟩,⟨kvs,s _ _ a1,a2,λq hq=>(a3 q hq).keep s⟩,⟨ts,b1,s _ _ b2,b3,λr t ρ h1 h2=>(b4 r t ρ h1 h2).keep s⟩,
  λa u h=>⟨(S.on a u h).1,let ⟨ns,h2⟩:=(S.on a u h).2;⟨ns,s _ _ h2⟩⟩,S.uq⟩
theorem TSt.write (S:TSt T own ps H0 H O F K) {c:Addr}{u:XV} (hc:own c=some u) (hu:u≠.top) (ns:List Int)
  (h1:∀(p:Str) (e:Nat) (c':Addr),own c'=some (.ov p e)->H c'=some (.lst ((ovR O p e).map V.int))->upd H c (.lst (ns.map V.int)) c'=some (.lst ((ovR O' p e).map V.int)))
  (h2:∀(r d b:Nat) (c':Addr),own c'=some (.fi r d b)->H c'=some (.lst ((fiR F r d b (K r d b)).map V.int))->upd H c (.lst (ns.map V.int)) c'=some (.lst ((fiR F' r d b (K' r d b)).map V.int))):
  TSt T own ps H0 (upd H c (.lst (ns.map V.int))) O' F' K':=by
 obtain⟨kvs,a1,a2,a3⟩:=S.hao;obtain⟨ts,b1,b2,b3,b4⟩:=S.haf;obtain⟨o,ho⟩:=S.hab;obtain⟨hn,ns0,hl⟩:=S.on c u hc;have st:∀a w,own a=none->H a=some w->upd H c (.lst (ns.map V.int)) a=some w:=λa w ha e=>by
  rw[YH (λz=>by rw[z,hc]at ha;cases ha)];exact e
 have jF:∀a w,(∀xs,w≠.lst xs)->H a=some w->upd H c (.lst (ns.map V.int)) a=some w:=λa w ha e=>by
  rw[YH (λz=>by rw[z,hl]at e;exact ha _ (YLP e).symm)];exact e
 refine⟨S.pl.upd rfl,S.sm.put hn,jF _ _ (λ_ z=>nomatch z) S.hx,S.hl,S.hds,⟨o,jF _ _ (λ_ z=>nomatch z) ho⟩,⟨kvs,jF _ _ (λ_ z=>nomatch z) a1,a2,λp hp=>?_⟩,⟨ts,b1,by rw[YH (λz=>by rw[z,hc]at b1;cases b1;exact hu rfl)];exact b2,b3,λr t ρ e1 e2=>?_⟩,λa w ha=>?_,S.uq⟩
 ·obtain⟨a,bs,g1,g2,g3,g4,g5⟩:=a3 p hp;exact⟨a,bs,g1,g2,st _ _ g2 g3,g4,λe c' hc'=>⟨(g5 e c' hc').1,h1 p e c' (g5 e c' hc').1 (g5 e c' hc').2⟩⟩
 ·obtain⟨ds,g1,g2,g3,g4⟩:=b4 r t ρ e1 e2;refine⟨ds,g1,st _ _ g1 g2,g3,λd u' hu=>?_⟩;obtain⟨es,k1,k2,k3,k4⟩:=g4 d u' hu;exact⟨es,k1,st _ _ k1 k2,k3,λb c' hc'=>⟨(k4 b c' hc').1,h2 r d b c' (k4 b c' hc').1 (k4 b c' hc').2⟩⟩
 ·refine⟨(S.on a w ha).1,?_⟩
  by_cases Ws:a=c
  ·subst Ws;exact⟨_,YC⟩
  ·obtain⟨ns',e⟩:=(S.on a w ha).2;exact⟨ns',by rw[YH Ws];exact e⟩
def upO (O:OvF) (p:Str) (b e:Nat) (v:Int):OvF:=λp' b' e'=>if p'=p/\b'=b/\e'=e then v else O p' b' e'
theorem ovR_set (O:OvF) (p:Str) {b e:Nat} (hb:b<=e) (v:Int):(ovR O p e).set b v=ovR (upO O p b e v) p e:=by
 refine YMe λi=>?_
 unfold ovR upO;rw[List.getElem?_set];rcases YLz i (e + 1) with hi |hi
 ·rw[YK1,YK1,YLg hi]
  by_cases h:b=i
  ·subst h;rw[if_pos rfl,if_pos (by rw[YKu,YLN];exact hi)];simp
  ·rw[if_neg h];simp only[YMm];rw[if_neg (λz=>h z.2.1.symm)]
 ·rw[YLf (by rw[YKu,YLN];lia),YLf (by rw[YKu,YLN];lia),YKu,YLN];split
  ·rw[if_neg (by lia)]
  ·rfl
theorem TSt.setO (S:TSt T own ps H0 H O F K) {p:Str}{b e:Nat} (hb:b<=e) {c:Addr} (hc:own c=some (.ov p e)) (v:Int):
  TSt T own ps H0 (upd H c (.lst (((ovR O p e).set b v).map V.int))) (upO O p b e v) F K:=by
 rw[ovR_set O p hb v];refine S.write hc nofun _ (λp' e' c' h1 h2=>?_) λr d b' c' h1 h2=>?_
 ·by_cases h:c'=c
  ·subst h;rw[hc]at h1;cases h1;exact YC
  ·rw[YH h,h2];have hne:¬(p'=p/\e'=e):=λz=>h (S.uq c' c _ h1 (by rw[z.1,z.2];exact hc))
   have:ovR (upO O p b e v) p' e'=ovR O p' e':=by
    unfold ovR upO;refine YMA λb' _=>?_
    rw[if_neg (λz=>hne ⟨z.1,z.2.2⟩)]
   rw[this]
 ·rw[YH (λz=>by rw[z,hc]at h1;cases h1)];exact h2
def upF (F:FiF) (r d b m:Nat) (v:Int):FiF:=λr' d' b' m'=>if r'=r/\d'=d/\b'=b/\m'=m then v else F r' d' b' m'
def upK (K:Nat->Nat->Nat->Nat) (r d b k:Nat):Nat->Nat->Nat->Nat:=λr' d' b'=>if r'=r/\d'=d/\b'=b then k else K r' d' b'
theorem TSt.addF (S:TSt T own ps H0 H O F K) {r d b:Nat}{c:Addr} (hc:own c=some (.fi r d b)) (v:Int):
  TSt T own ps H0 (upd H c (.lst ((fiR F r d b (K r d b) ++ [v]).map V.int))) O (upF F r d b (K r d b) v) (upK K r d b (K r d b + 1)):=by
 refine S.write hc nofun _ (λp' e' c' h1 h2=>?_) λr' d' b' c' h1 h2=>?_
 ·rw[YH (λz=>by rw[z,hc]at h1;cases h1)];exact h2
 ·by_cases h:c'=c
  ·subst h;rw[hc]at h1;cases h1;have ek:upK K r d b (K r d b + 1) r d b=K r d b + 1:=if_pos ⟨Z,Z,Z⟩;rw[YC,ek];have:fiR (upF F r d b (K r d b) v) r d b (K r d b + 1)=fiR F r d b (K r d b) ++ [v]:=by
    unfold fiR;rw[List.range_succ,YLE];congr 1
    ·refine YMA λm hm=>?_
     have:=YME.mp hm;exact if_neg λz=>by lia
    ·show[upF F r d b (K r d b) v r d b (K r d b)]=[v];rw[show upF F r d b (K r d b) v r d b (K r d b)=v from if_pos ⟨Z,Z,Z,Z⟩]
   rw[this]
  ·have hne:¬(r'=r/\d'=d/\b'=b):=λz=>h (S.uq c' c _ h1 (by rw[z.1,z.2.1,z.2.2];exact hc))
   have ek:upK K r d b (K r d b + 1) r' d' b'=K r' d' b':=if_neg hne;have:fiR (upF F r d b (K r d b) v) r' d' b' (K r' d' b')=fiR F r' d' b' (K r' d' b'):=by
    unfold fiR;refine YMA λm _=>?_
    exact if_neg λz=>hne ⟨z.1,z.2.1,z.2.2.1⟩
   rw[YH h,h2,ek,this]
theorem TSt.ov (S:TSt T own ps H0 H O F K) {p:Str} (hp:p∈ps) {e:Nat} (he:e<=T.n):∃(a:Addr) (bs:List Addr) (c:Addr),XT H T.ao (.str p) (some (.ref a))/\H a=some (.lst (bs.map V.ref))/\atI (bs.map V.ref) e=some (.ref c)/\own c=some (.ov p e)/\H c=some (.lst ((ovR O p e).map V.int)):=by
 obtain⟨kvs,a1,a2,a3⟩:=S.hao;obtain⟨a,bs,g1,g2,g3,g4,g5⟩:=a3 p hp;have hlt:e < bs.length:=by lia
 have ec:=YKx hlt;obtain⟨h1,h2⟩:=g5 e _ ec;refine⟨a,bs,bs[e],?_,g3,Yq (by rw[YK1,ec];rfl),h1,h2⟩;rw[<-g1];exact XT.k (k:=Sum.inr p) a1
theorem TSt.fi (S:TSt T own ps H0 H O F K) {r:Nat}{ρ:Y4} (hr:T.g[r]?=some ρ) (hR:r < T.R):∃(ts:List Addr) (t:Addr) (ds:List Addr),H T.af=some (.lst (ts.map V.ref))/\atI (ts.map V.ref) r=some (.ref t)/\H t=some (.lst (ds.map V.ref))/\ds.length=rch T.s ρ.2.1 + 1/\
  ∀(d:Nat),d<=rch T.s ρ.2.1->∀b,b<=T.n->∃(u:Addr) (es:List Addr) (c:Addr),atI (ds.map V.ref) d=some (.ref u)/\H u=some (.lst (es.map V.ref))/\atI (es.map V.ref) b=some (.ref c)/\own c=some (.fi r d b)/\H c=some (.lst ((fiR F r d b (K r d b)).map V.int)):=by
 obtain⟨ts,b1,b2,b3,b4⟩:=S.haf;have hlt:r < ts.length:=by rw[b3];exact hR
 have et:=YKx hlt;obtain⟨ds,g1,g2,g3,g4⟩:=b4 r _ ρ et hr;refine⟨ts,ts[r],ds,b2,Yq (by rw[YK1,et];rfl),g2,g3,λd hd b hb=>?_⟩;have ed:=YKx (show d < ds.length by lia);obtain⟨es,k1,k2,k3,k4⟩:=g4 d _ ed;have eb:=YKx (show b < es.length by lia);exact⟨_,es,es[b],Yq (by rw[YK1,ed];rfl),k2,Yq (by rw[YK1,eb];rfl),(k4 b _ eb).1,(k4 b _ eb).2⟩
theorem YIJ (own:Addr->Option XV) (R:Addr->XV->Prop) (fn:∀a u u',R a u->R a u'->u=u'):∃bc:Addr->Option XV,(∀a u,R a u->bc a=some u)/\∀a,(∀u,¬R a u)->bc a=own a:=by
 classical
 refine⟨λa=>if h:∃u,R a u then some h.choose else own a,λa u h=>?_,λa h=>?_⟩
 ·have h':∃u,R a u:=⟨u,h⟩;show(if h:∃u,R a u then some h.choose else own a)=some u;rw[dif_pos h'];exact YL5 some (fn a _ _ h'.choose_spec h)
 ·show(if h:∃u,R a u then some h.choose else own a)=own a;exact dif_neg λ⟨u,h'⟩=>h u h'
end
end FR
namespace L2
open PySem PySem.Spec PyProof.Rows
open Builtin Builtin.Str in
def YDI (x y:Str) (i j:Int):Int:=match occurrences x y (fromIndex x.length i) (min (fromIndex x.length j) x.length) 1 with |k :: _=>(k:Int) |[]=>-1
open Builtin Builtin.Str in
theorem YGB (x y:Str) (i j:Int) (t u v w:Tok):Gives («str.find» ⟨[.str x t,.str y u,.int i v,.int j w],[]⟩) (.int (YDI x y i j)):=by
 show Gives (match occurrences x y (fromIndex x.length i) (min (fromIndex x.length j) x.length) 1 with |k :: _=>retInt k |[]=>(do rule "str.find.not-found";retInt (-1))) _;unfold YDI;cases occurrences x y (fromIndex x.length i) (min (fromIndex x.length j) x.length) 1 with
 |nil=>exact .rule (.of_eq rfl)
 |cons k _=>exact .of_eq rfl
section
variable {X:Cx}
theorem YGC:MtR X "str.find" (λx vs H Q=>∃z y i j,x=.str z/\vs=[.str y,.int i,.int j]/\Q (.int (YDI z y i j)) H):=by
 intro pins s σ H x xs v us Q I rx rs h;obtain⟨z,y,i,j,rfl,rfl,q⟩:=h;obtain⟨t,rfl⟩:=rx;cases rs with
 |cons r1 rs=>
  cases rs with
  |cons r2 rs=>
   cases rs with
   |cons r3 rs=>
    cases rs;obtain⟨t1,rfl⟩:=r1;obtain⟨t2,rfl⟩:=r2;obtain⟨t3,rfl⟩:=r3;exact call_gives F.slot_str_find (typeIs_str _ _ _) F.entry_str_find (F.args_str_find_4 _ _ _ _) (YGB z y i j t t1 t2 t3) ⟨.int _,H,I.tok _,⟨_,Z⟩,q⟩
end
end L2
namespace L2
open PySem PySem.Spec PyProof.Rows
section
variable {X:Cx}
end
end L2
namespace L2
open PySem PySem.Spec PyProof.Rows
open Builtin Builtin.Str in
def YFB (x y:Str):Nat:=(occurrences x y 0 x.length (x.length + 1)).length
section
variable {X:Cx}
theorem YFC:MtR X "str.count" (λx vs H Q=>∃z y,x=.str z/\vs=[.str y]/\Q (.int (YFB z y:Nat)) H):=by
 intro pins s σ H x xs v us Q I rx rs h;obtain⟨z,y,rfl,rfl,q⟩:=h;obtain⟨t,rfl⟩:=rx;cases rs with
 |cons r1 rs=>
  cases rs;obtain⟨t1,rfl⟩:=r1;exact call_gives F.slot_str_count (typeIs_str _ _ _) F.entry_str_count (F.args_str_count_2 _ _) (gives_str_count z y t t1) ⟨.int _,H,I.tok _,⟨_,Z⟩,q⟩
theorem YHO (x:Str) (c:Nat):YFB x ⟨#[c]⟩=(x.cps.toList.filter λy=>decide (y=c)).length:=by
 unfold YFB;rw[occ_one];have key:∀(l:List Nat) (a:Nat),((List.range' a l.length).filter λi=>decide ((l[i - a]?)=some c)).length=(l.filter λy=>decide (y=c)).length:=by
  intro l
  induction l with
  |nil=>intro a;rfl
  |cons y l ih=>
   intro a;rw[YK6,List.range'_succ,YL4,YL4];have e1:((y :: l)[a - a]?)=some y:=by rw[Nat.sub_self];rfl
   have e2:((List.range' (a + 1) l.length).filter λi=>decide (((y :: l)[i - a]?)=some c))=(List.range' (a + 1) l.length).filter λi=>decide ((l[i - (a + 1)]?)=some c):=List.filter_congr λi hi=>by
    have:=List.mem_range'.mp hi;obtain⟨k,_,rfl⟩:=this;rw[show a + 1 + 1 * k - a=k + 1 by omega,show a + 1 + 1 * k - (a + 1)=k by omega];rfl
   rw[e1,e2]
   by_cases h:y=c
   ·rw[if_pos (by rw[h];simp),if_pos (YK2 h),YK6,YK6,ih]
   ·rw[if_neg (by simpa using h),if_neg (by rw[YK0 h];decide),ih]
 have hl:x.cps.toList.length=x.length:=YLK;have:=key x.cps.toList 0;rw[hl]at this;exact this
end
end L2
namespace L2
open PySem PySem.Spec PyProof.Rows PySem.SeqAt
section
variable {X:Cx}
def isK (k:Str):Value->Bool
 |.str z _=>decide (z=k)
 |_=>false
theorem YDJ (K:W.Frag) (hK:X.K=K) (hu:X.A.units + 64 < cLine):MtR X "list.index" (λx vs H Q=>∃(p:Addr) (ss:List Str) (k:Str) (j:Nat),x=.ref p/\vs=[.str k]/\SqL K H p (ss.map V.str)/\(j:Int) < 2 ^ 63 - 1/\ss[j]?=some k/\(∀m z,m < j->ss[m]?=some z->z≠k)/\Q (.int (j:Int)) H):=by
 subst hK;intro pins s σ H x xs v us Q I rx rs h;obtain⟨p,ss,k,j,rfl,rfl,hq,hj,ej,hno,q⟩:=h;cases rx;obtain⟨u,rfl,ru⟩:=rs.one;obtain⟨tk,rfl⟩:=ru;obtain⟨its,rv,pl,_⟩:=I.list hq;obtain⟨⟨cls,dd,data,sl⟩,ho,hc,n,hdt⟩:=id pl.isList;simp only at hc hdt;subst hc hdt;have hl:=rv.length;rw[YKu]at hl;have hit:∀i (hi:i < its.length),∃z t,its[i]=Value.str z t/\ss[i]?=some z:=λi hi=>by
  have hi':i < ss.length:=by lia
  have e1:(ss.map V.str)[i]?=some (V.str ss[i]):=by rw[YK1,YKx hi'];rfl
  obtain⟨u,eu,ru⟩:=rv.get e1;obtain⟨t,rfl⟩:=ru;rw[YKx hi]at eu;exact⟨ss[i],t,YLP eu,YKx hi'⟩
 have Wt:j < its.length:=by
  have h1:=(YKy.mp ej).1
  lia
 refine call_meets F.slot_list_index ⟨_,ho,Z⟩ F.entry_list_index (F.args_list_index_2 _ _) (list_indexAt p its.toArray n dd sl (Value.str k tk) (isK k) j (by simpa using Wt) hj ?_ ?_) ⟨ho,λy hy=>?_,⟨.int _,H,I.tok _,⟨_,Z⟩,q⟩⟩
 ·obtain⟨z,t,g1,g2⟩:=hit j Wt;show isK k its[j]=true;rw[ej]at g2;cases g2;rw[g1];exact YK2 rfl
 ·intro m hm hlt;have wU:m < its.length:=by simpa using hm
  obtain⟨z,t,g1,g2⟩:=hit m wU;show isK k its[m]=false;rw[g1];exact YK0 (hno m z hlt g2)
 ·have hy:y∈its:=by simpa using hy
  obtain⟨i,hi,rfl⟩:=List.getElem_of_mem hy;obtain⟨z,t,g1,g2⟩:=hit i hi;rw[g1];have:=(cmp_D I 8 X.A.in1 (.str z) (.str k) (V.str z) (V.str k) (Value.str z t) (Value.str k tk) (by unfold D.ok;rfl) (by unfold D.ok;rfl) (by show 0<=8;decide) (by show X.A.units + 1 + 8 < cLine;lia) (.str z) (.str k) ⟨t,Z⟩ ⟨tk,Z⟩).eq;have e:eqD (.str z) (.str k)=isK k (.str z t):=by
   unfold eqD isK;rfl
  rw[e]at this;exact this
end
end L2
namespace FR
open PySem L2
def top (i:Nat):Stmt:=PySem.Challenge.pw_forestread_k77_long_texts_mended.main.body.getD i (.Pass ⟨0,0,0,0⟩)
abbrev YBD:Stmt:=top 13
abbrev JW:Stmt:=top 14
abbrev YB0:Stmt:=top 15
abbrev YB1:Stmt:=top 16
abbrev YB2:Stmt:=top 17
abbrev YBE:Stmt:=top 23
abbrev YAZ:Stmt:=top 24
abbrev YB3:Stmt:=top 25
abbrev YAD:Stmt:=top 26
abbrev YB4:Stmt:=top 27
structure Adr where
 NoGrammar:Addr
 NoText:Addr
 NoCosts:Addr
 Toller:Addr
 Mending:Addr
 Barren:Addr
 TooGreat:Addr
 none_:Addr
structure Txt (K:W.Frag) (mg:Str->Option Value) (C:Adr):Prop where
 aJ:mg "isinstance"=none
 uo:mg "int"=none
 uI:mg "bool"=none
 wz:mg "ord"=none
 qY:mg "str"=none
 aL:mg "len"=none
 lE:mg "all"=none
 ji:mg "tuple"=none
 eZ:mg "list"=none
 pq:mg "min"=none
 aQ:mg "range"=none
 wA:mg "zip"=none
 aP:mg "enumerate"=none
 jk:mg "reversed"=none
 lF:mg "divmod"=none
 cT:∃t,mg "FIRST_CODE"=some (.int 32 t)
 dj:∃t,mg "LAST_CODE"=some (.int 126 t)
 cz:∃t,mg "PERCENT_CODE"=some (.int 37 t)
 cA:∃t,mg "MOST_LETTERS"=some (.int 8 t)
 cU:∃t,mg "MOST_PARTS"=some (.int 6 t)
 cV:∃t,mg "MOST_RULES"=some (.int 60 t)
 cW:∃t,mg "MOST_SIGNS"=some (.int 60 t)
 cB:∃t,mg "MOST_NUMBERS"=some (.int 1000 t)
 lG:mg "NoGrammar"=some (.ref C.NoGrammar)
 qZ:mg "NoText"=some (.ref C.NoText)
 pK:mg "NoCosts"=some (.ref C.NoCosts)
 q_:mg "Toller"=some (.ref C.Toller)
 pL:mg "Mending"=some (.ref C.Mending)
 rm:mg "Barren"=some (.ref C.Barren)
 m9:mg "TooGreat"=some (.ref C.TooGreat)
 lH:Exc K C.NoGrammar
 rn:Exc K C.NoText
 pM:Exc K C.NoCosts
 rz:Exc K C.Barren
 m_:Exc K C.TooGreat
 aa:Cls K C.Toller
 aj:Cls K C.Mending
 aR:Zc K C.Toller "cut"
 cP:Zc K C.Toller "put"
 aU:Zc K C.Toller "text"
 dm:Zc K C.Toller "swap"
 aV:Zc K C.Toller "bare"
 az:Zc K C.Toller "over"
 aC:Zc K C.Toller "rules"
 aK:Zc K C.Toller "first"
 aA:Zc K C.Mending "deeds"
 bx:Zc K C.Mending "text"
 aZ:Zc K C.Mending "costs"
 aq:Zc K C.Mending "known"
 bV:Zc K C.Mending "rules"
 cC:Zc K C.Mending "row"
theorem YDm:(["letter"]:List Str).Nodup:=by decide +kernel
theorem YGD:(["part"]:List Str).Nodup:=by decide +kernel
section
variable {P:Program}{w:World}{K:W.Frag}{mg:Str->Option Value}{base:Heap}{C:Adr}
theorem YGE:YW ["thing"] ["thing"] (YK YBD):=⟨Z,Z,Z,by decide +kernel,Z,by decide +kernel,by decide +kernel⟩
theorem YGF {f:Addr}{fd:FuncData} (F:Fun K "is_whole" "is_whole" YBD f fd) (T:Txt K mg C):Yw P w K mg base CX0 1 f fd ["thing"] (XU YC3):=by
 refine F.ok YGE (λvs H Q E h=>?_) (λaO A outer s H vs Q E hr h=>?_)
 ·cases h;subst_vars;rfl
 ·obtain⟨x,d,rfl,den,sh,hp,q⟩:=h;refine⟨_,(YG (YZ (JS (YR (Z3 K rfl) (by rfl) T.aJ YLY (YA (pv 0) (YA (J3 (v:=.ty "int") (by rfl) T.uo PyProof.Rows.Boot.«int» rfl) YD))) (Jx (pe_not (YR (Z3 K rfl) (by rfl) T.aJ YLY (YA (pv 0) (YA (J3 (v:=.ty "bool") (by rfl) T.uI PyProof.Rows.Boot.«bool» rfl) YD)))))))),?_⟩;refine⟨_,Z,_,_,_,_,_,Z,den.ty,Z,kit_int d,_,Z,?_⟩;refine Jt (g:=!YH5 d) (λ_ R hR=>⟨_,Z,_,_,_,_,_,Z,den.ty,Z,YKB d,_,Z,hR⟩) ?_;cases d <;> exact q
theorem XH:YW ["sign","code"] ["sign"] (YK JW):=⟨Z,Z,Z,by decide +kernel,Z,by decide +kernel,by decide +kernel⟩
theorem YBF {f:Addr}{fd:FuncData} (F:Fun K "stands_in_texts" "stands_in_texts" JW f fd) (T:Txt K mg C):Yw P w K mg base CX0 1 f fd ["sign"] (YC4):=by
 obtain⟨tD,cT⟩:=T.cT;obtain⟨ur,dj⟩:=T.dj;obtain⟨rA,cz⟩:=T.cz;refine F.ok XH (λvs H Q E h=>?_) (λaO A outer s H vs Q E hr h=>?_)
 ·cases h;subst_vars;rfl
 ·obtain⟨c,rfl,q⟩:=h;refine⟨_,(YO (YQ (i:=1) XH.nd rfl (Or.inl rfl) (YR YJf (by rfl) T.wz PyProof.Rows.Boot.«ord» (YA (pv 0) YD)))
   (YG (YZ (JS (YAQ Xp Xp (XX (v:=.int 32) (by rfl) cT ⟨_,Z⟩) (pv 1) (XX (v:=.int 126) (by rfl) dj ⟨_,Z⟩)) (Jx (J4 YCE (pv 1) (XX (v:=.int 37) (by rfl) cz ⟨_,Z⟩) (Yc _))))))),?_⟩
  refine⟨_,Z,_,Z,Z,?_⟩;refine⟨_,Z,_,_,Z,Z,_,Z,?_⟩;have ec:(((⟨#[c]⟩:Str).cps.getD 0 0:Nat):Int)=(c:Int):=rfl;rw[ec];refine Xf (λh1=>?_) λh1=>?_
  ·refine⟨_,_,Z,Z,_,Z,?_⟩;refine Xf (λh2=>?_) λh2=>?_
   ·refine⟨_,Z,Z,?_⟩;have e:(!decide (V.int (c:Int)=V.int 37))=JF c:=by
     simp only[YLm]at h1 h2;unfold JF;have a1:32<=c:=by lia
     have a2:c<=126:=by lia
     rw[YK2 a1,YK2 a2]
     by_cases h3:c=37
     ·subst h3;rfl
     ·rw[YK0 h3,YK0 (λz=>h3 (by have:=V.int.inj z;lia))];rfl
    rw[e];exact q
   ·have e:JF c=false:=by
     simp only[YLm]at h2;unfold JF;rw[YK0 (show ¬c<=126 by lia)];simp
    rw[e]at q;exact q
  ·refine⟨_,Z,Y3 ?_⟩;have e:JF c=false:=by
    simp only[YLm]at h1;unfold JF;rw[YK0 (show ¬32<=c by lia)];simp
   rw[e]at q;exact q
theorem first39 (z:Str):decide (V.str ⟨#[z.cps.getD 0 0]⟩=V.str "'")=decide (z.cps.getD 0 0=39):=by
 by_cases h:z.cps.getD 0 0=39
 ·rw[h];decide +kernel
 ·rw[YK0 h,YK0];intro e;apply h;have e6:(({ cps:=#[z.cps.getD 0 0] }:Str)).cps.getD 0 0=(("'":Str)).cps.getD 0 0:=YL5 (λs:Str=>s.cps.getD 0 0) (V.str.inj e);exact(show z.cps.getD 0 0=(({ cps:=#[z.cps.getD 0 0] }:Str)).cps.getD 0 0 from rfl).trans (e6.trans (by decide +kernel))
theorem YHP:YW ["thing"] ["thing"] (YK YB0):=⟨Z,Z,Z,by decide +kernel,Z,by decide +kernel,by decide +kernel⟩
theorem YHQ {f:Addr}{fd:FuncData} (F:Fun K "is_sign" "is_sign" YB0 f fd) (T:Txt K mg C) (aF:Zx P w K mg CX0 1 "stands_in_texts" ["sign"] (YC4)):Yw P w K mg base CX0 2 f fd ["thing"] (XU YBV):=by
 obtain⟨gP,e_,bD,bF,bG,bH⟩:=aF.ok;refine F.ok YHP (λvs H Q E h=>?_) (λaO A outer s H vs Q E hr h=>?_)
 ·cases h;subst_vars;rfl
 ·obtain⟨x,d,rfl,den,sh,hp,q⟩:=h;refine⟨_,(YG (YZ (JS (YR (Z3 K rfl) (by rfl) T.aJ YLY (YA (pv 0) (YA (J3 (v:=.ty "str") (by rfl) T.qY PyProof.Rows.Boot.«str» rfl) YD))) (JS (J4 XA (YR Yo (by rfl) T.aL YK7 (YA (pv 0) YD)) YB (Yc _)) (JS (J4 XA (YM XD (pv 0) YB (λ_ _=>rfl)) Y0 (Yc _)) (Jx (Ye (bD base) (hr.mono (by decide)) (by rfl) bF bG bH .nil Yj (YA (YM XD (pv 0) YB (λ_ _=>rfl)) YD)))))))),?_⟩;refine⟨_,Z,_,_,_,_,_,Z,den.ty,Z,YE3 d,_,Z,?_⟩;cases d with
  |str z=>
   have ex:=den.to_str;subst ex;have hz:=YBB sh;have ev:YBV (.str z)=(z.cps.size == 2 && z.cps[0]? == some 39 && JF (z.cps.getD 1 0)):=rfl;refine ZO ?_;refine⟨_,Z,z,Z,hz,Z,_,Z,?_⟩;refine Jt (g:=decide (z.cps.getD 0 0=39) && JF (z.cps.getD 1 0)) (λh2 R hR=>?_) ?_
   ·have hs:z.cps.size=2:=by
     have e:=V.int.inj (YLM h2);rw[XF]at e
     lia
    have g0:z.cps.toList[0]?=some (z.cps.getD 0 0):=by
     rw[YLt];simp[hs]
    have g1:z.cps.toList[1]?=some (z.cps.getD 1 0):=by
     rw[YLt];simp[hs]
    refine⟨_,Z,z,0,_,Z,Z,hz,Yq (j:=0) g0,Z,_,Z,?_⟩;rw[first39];exact Jt (g:=JF (z.cps.getD 1 0)) (λ_ R hR=>⟨_,Z,z,1,_,Z,Z,hz,Yq (j:=1) g1,_,Z,hR⟩) hR
   ·have e2:(decide (V.int (z.length:Int)=V.int 2) && (decide (z.cps.getD 0 0=39) && JF (z.cps.getD 1 0)))=YBV (.str z):=by
     rw[ev,XF,Bool.and_assoc]
     by_cases h2:z.cps.size=2
     ·have g0:z.cps[0]?=some (z.cps.getD 0 0):=by simp[h2]
      have e4:(some (z.cps.getD 0 0) == some 39)=decide (z.cps.getD 0 0=39):=by
       rw[YMR];simp
      rw[g0,e4];congr 1;rw[h2];decide
     ·rw[YK0 (λe=>h2 (by have:=V.int.inj e;lia)),beq_eq_false_iff_ne.mpr h2];rfl
    rw[e2];exact q
  |_=>exact Y3 q
theorem YHR:YW ["thing"] ["thing"] (YK YB1):=⟨Z,Z,Z,by decide +kernel,Z,by decide +kernel,by decide +kernel⟩
theorem YHS {f:Addr}{fd:FuncData} (F:Fun K "is_name" "is_name" YB1 f fd) (T:Txt K mg C):Yw P w K mg base CX0 1 f fd ["thing"] (XU isNameD):=by
 obtain⟨rB,cA⟩:=T.cA;refine F.ok YHR (λvs H Q E h=>?_) (λaO A outer s H vs Q E hr h=>?_)
 ·cases h;subst_vars;rfl
 ·obtain⟨x,d,rfl,den,sh,hp,q⟩:=h;refine⟨_,(YO (Y1 (Xe (Z7 (YR (Z3 K rfl) (by rfl) T.aJ YLY (YA (pv 0) (YA (J3 (v:=.ty "str") (by rfl) T.qY PyProof.Rows.Boot.«str» rfl) YD))))) (YG (YZ Jo)) Yd)
   (YG (YZ (JS (YAQ Xp Xp YB (YR Yo (by rfl) T.aL YK7 (YA (pv 0) YD)) (XX (v:=.int 8) (by rfl) cA ⟨_,Z⟩)) (Jx (YBS (YR (Xs K rfl rfl) (by rfl) T.lE YMI (YA (Z2 (N:=["letter"]) (ρ:=[none]) (cl:=[]) rfl (Yi.plain rfl (by decide +kernel) (by decide +kernel) rfl (by simp)) (YHB (pv 0)) (λ_ _ _ _ _=>(YU (i:=0) YDm rfl (Or.inl rfl) (.inr rfl))) (λ_ _ _ _ _=>Zs) (λ_ _ _ _ _=>(YAQ YEC YEC Y0 (pv 0) Y0))) YD)))))))),?_⟩
  refine⟨_,Z,_,_,_,_,_,Z,den.ty,Z,YE3 d,_,Z,?_⟩;cases d with
  |str z=>
   have ex:=den.to_str;subst ex;have hz:=YBB sh;have ev:isNameD (.str z)=(decide (1<=z.cps.size) && decide (z.cps.size<=8) && z.cps.toList.all ZV):=rfl;refine Y3 ?_;refine⟨_,Z,z,Z,hz,_,_,Z,Z,_,Z,?_⟩;refine Xf (λh1=>?_) λh1=>?_
   ·refine⟨_,_,Z,Z,_,Z,?_⟩;have h1':1<=z.cps.size:=by have:=YLM h1;rw[XF]at this;lia
    refine Xf (λh2=>?_) λh2=>?_
    ·have h2':z.cps.size<=8:=by have:=YLM h2;rw[XF]at this;lia
     refine⟨hp,_,Z,z,Z,λl hl=>?_⟩;refine YFj (τ:=YCv [none] _) (λc=>.bl (ZV c)) hl YMP hz (λτ' c H' R hτ _ hR=>?_) ?_
     ·refine⟨_,hτ,_,_,Z,Z,_,Z,?_⟩;rw[le_A];refine Xf (λh3=>?_) λh3=>?_
      ·refine⟨_,_,Z,Z,?_⟩;rw[le_Z];have e5:ZV c=decide (c<=90):=by unfold ZV;rw[h3];rfl
       rw[e5]at hR;exact hR
      ·have e5:ZV c=false:=by
        unfold ZV;cases hh:decide (65<=c) with
        |false=>rfl
        |true=>exact absurd hh h3
       rw[e5]at hR;exact hR
     ·refine⟨l,z.cps.toList.map ZV,Z,.inl (.inl ?_),λb o eb=>?_,?_⟩
      ·rw[YC,YKD]
      ·rw[YH (YV eb hl)];exact eb
      ·rw[XG];rw[ev,YK2 h1',YK2 h2']at q
       simpa using q
    ·have h2':¬z.cps.size<=8:=λz'=>h2 (YK2 (by rw[XF];lia))
     rw[ev,YK0 h2']at q
     simpa using q
   ·have h1':¬1<=z.cps.size:=λz'=>h1 (YK2 (by rw[XF];lia))
    refine⟨_,Z,Y3 ?_⟩;rw[ev,YK0 h1']at q
    simpa using q
  |_=>exact ZO q
theorem YHT:YW ["thing"] ["thing"] (YK YB2):=⟨Z,Z,Z,by decide +kernel,Z,by decide +kernel,by decide +kernel⟩
theorem YHU {f:Addr}{fd:FuncData} (F:Fun K "is_part" "is_part" YB2 f fd) (T:Txt K mg C) (iy:Zx P w K mg CX0 2 "is_sign" ["thing"] (XU YBV)) (cj:Zx P w K mg CX0 1 "is_name" ["thing"] (XU isNameD)):Yw P w K mg base CX0 3 f fd ["thing"] (XU J5):=by
 obtain⟨vJ,uJ,pN,pO,pP,pQ⟩:=iy.ok;obtain⟨pR,ni,iz,iB,iC,iD⟩:=cj.ok;refine F.ok YHT (λvs H Q E h=>?_) (λaO A outer s H vs Q E hr h=>?_)
 ·cases h;subst_vars;rfl
 ·obtain⟨x,d,rfl,den,sh,hp,q⟩:=h;refine⟨_,(YG (YZ (pe_or (Ye (pN base) (hr.mono (by decide)) (by rfl) pO pP pQ .nil Yj (YA (pv 0) YD)) (Jx (Ye (iz base) (hr.mono (by decide)) (by rfl) iB iC iD .nil Yj (YA (pv 0) YD)))))),?_⟩;refine⟨_,Z,x,d,Z,den,sh,hp,_,Z,?_⟩;exact or_read (g:=isNameD d) (λ_ R hR=>⟨_,Z,x,d,Z,den,sh,hp,hR⟩) q
theorem YGG:YW ["thing"] ["thing"] (YK YBE):=⟨Z,Z,Z,by decide +kernel,Z,by decide +kernel,by decide +kernel⟩
theorem YGH {f:Addr}{fd:FuncData} (F:Fun K "is_worth" "is_worth" YBE f fd) (T:Txt K mg C) (bW:Zx P w K mg CX0 1 "is_whole" ["thing"] (XU YC3)):Yw P w K mg base CX0 2 f fd ["thing"] (XU Yz):=by
 obtain⟨nj,lJ,gb,gf,gh,gj⟩:=bW.ok;refine F.ok YGG (λvs H Q E h=>?_) (λaO A outer s H vs Q E hr h=>?_)
 ·cases h;subst_vars;rfl
 ·obtain⟨x,d,rfl,den,sh,hp,q⟩:=h;refine⟨_,(YG (YZ (JS (Ye (gb base) (hr.mono (by decide)) (by rfl) gf gh gj .nil Yj (YA (pv 0) YD)) (Jx (YAQ Xp Xp YB (pv 0) (YI YAP YB YB)))))),?_⟩;refine⟨_,Z,x,d,Z,den,sh,hp,_,Z,?_⟩;cases d with
  |int i=>
   have ex:=den.to_int;subst ex;have ev:Yz (.int i)=(decide (0<=i) && decide (i<=10 ^ 60)):=rfl;refine ZO ?_;refine⟨_,Z,_,_,Z,Z,_,Z,?_⟩;refine Xf (λh1=>?_) λh1=>?_
   ·refine⟨_,_,Z,Z,⟨by decide,by decide,by decide⟩,_,_,Z,Z,?_⟩;rw[ev,h1]at q;exact q
   ·have h1':decide (0<=i)=false:=by
     cases hh:decide (0<=i) with
     |false=>rfl
     |true=>exact absurd hh h1
    rw[ev,h1']at q;exact q
  |_=>exact Y3 q
theorem YFD:YW ["thing"] ["thing"] (YK YAZ):=⟨Z,Z,Z,by decide +kernel,Z,by decide +kernel,by decide +kernel⟩
theorem YFE {f:Addr}{fd:FuncData} (F:Fun K "are_parts" "are_parts" YAZ f fd) (T:Txt K mg C) (iG:Zx P w K mg CX0 3 "is_part" ["thing"] (XU J5)):Yw P w K mg base CX0 4 f fd ["thing"] (XU J7):=by
 obtain⟨vK,uK,pU,pW,pX,pY⟩:=iG.ok;obtain⟨tE,cU⟩:=T.cU;refine F.ok YFD (λvs H Q E h=>?_) (λaO A outer s H vs Q E hr h=>?_)
 ·cases h;subst_vars;rfl
 ·obtain⟨x,d,rfl,den,sh,hp,q⟩:=h;refine⟨_,(YO (Y1 (Xe (Z7 (YR (Z3 K rfl) (by rfl) T.aJ YLY (YA (pv 0) (YA (J3 (v:=.ty "tuple") (by rfl) T.ji YMO rfl) YD))))) (YG (YZ Jo)) Yd)
   (YG (YZ (JS (J4 Xp (YR (Yg K rfl) (by rfl) T.aL YK7 (YA (pv 0) YD)) (XX (v:=.int 6) (by rfl) cU ⟨_,Z⟩) (Yc _)) (Jx (YBS (YR (Xs K rfl rfl) (by rfl) T.lE YMI (YA (Z2 (N:=["part"]) (ρ:=[none]) (cl:=[]) rfl (Yi.plain rfl (by decide +kernel) (by decide +kernel) rfl (by simp)) (YBT K rfl (pv 0)) (λ_ _ _ _ _=>(YU (i:=0) YGD rfl (Or.inl rfl) (.inr rfl))) (λ_ _ _ _ _=>Zs) (λ_ _ _ _ _=>(Ye (pU base) (hr.mono (by decide)) (by rfl) pW pX pY .nil Yj (YA (pv 0) YD)))) YD)))))))),?_⟩
  refine⟨_,Z,_,_,_,_,_,Z,den.ty,Z,YBw d,_,Z,?_⟩;cases d with
  |tup ds=>
   obtain⟨a,xs,rfl,ha,hds⟩:=den.to_tup;have hl:xs.length=ds.length:=hds.len;refine Y3 ?_;refine⟨_,Z,a,xs,Z,.inr (SqT.of ha),_,_,Z,Z,_,Z,?_⟩;have shS:Jy ds=true:=by unfold D.short at sh;exact sh
   have e1:decide ((xs.length:Int)<=6)=decide (ds.length<=6):=by rw[hl];congr 1;exact propext ⟨λh=>by lia,λh=>by lia⟩
   rw[e1];refine Jt (g:=ds.all J5) (λh1 R hR=>?_) q;have h1':ds.length<=6:=YLM h1;refine⟨hp,_,Z,a,Z,⟨xs,SqT.of ha⟩,λl pJ=>?_⟩;refine Zi (n:=xs.length) 0 (λk y _=>∃d,ds[k]?=some d/\y=.bl (J5 d)) (YEE (SqT.of ha)) (λ_ _ _ _ _ h=>h) hp pJ YMP (YF (by lia)) (λτ'=>0 < τ'.length) YMP (λτ' v h=>by rw[YMQ];exact h) ?_ ?_
   ·intro τ' k y H' R _ hτ hit hk hs hp' lK hR;obtain⟨d,hd,dn⟩:=hds.get hit;exact⟨_,hτ,y,d,Z,dn.same hs,JJ shS (YKw hd),hp',hR _ _ (YJ.refl _) hp' ⟨d,hd,Z⟩⟩
   ·intro ys H' hy hP hs hp' hl';have e2:ys=(ds.map J5).map V.bl:=YHE (by rw[hy,hl]) hP;refine⟨l,ds.map J5,Z,.inl (.inl (by rw[hl',e2])),hs,?_⟩;rw[XG];exact hR
  |_=>exact ZO q
theorem YHV:YW ["thing"] ["thing"] (YK YB3):=⟨Z,Z,Z,by decide +kernel,Z,by decide +kernel,by decide +kernel⟩
theorem YHW {f:Addr}{fd:FuncData} (F:Fun K "is_rule" "is_rule" YB3 f fd) (T:Txt K mg C) (cj:Zx P w K mg CX0 1 "is_name" ["thing"] (XU isNameD)) (dq:Zx P w K mg CX0 4 "are_parts" ["thing"] (XU J7)) (gk:Zx P w K mg CX0 2 "is_worth" ["thing"] (XU Yz)):Yw P w K mg base CX0 5 f fd ["thing"] (XU Z4):=by
 obtain⟨pR,ni,iz,iB,iC,iD⟩:=cj.ok;obtain⟨ut,tG,lL,lN,lO,lQ⟩:=dq.ok;obtain⟨uL,uv,nu,nA,nC,nF⟩:=gk.ok;refine F.ok YHV (λvs H Q E h=>?_) (λaO A outer s H vs Q E hr h=>?_)
 ·cases h;subst_vars;rfl
 ·obtain⟨x,d,rfl,den,sh,hp,q⟩:=h;refine⟨_,(YO (Y1 (PW.pt (YDt (Xe (Z7 (YR (Z3 K rfl) (by rfl) T.aJ YLY (YA (pv 0) (YA (J3 (v:=.ty "tuple") (by rfl) T.ji YMO rfl) YD))))) (YCn (Yb YCE (YR (Yg K rfl) (by rfl) T.aL YK7 (YA (pv 0) YD)) YB (Yc _))))) (YG (YZ Jo)) Yd)
   (YG (YZ (JS (Ye (iz base) (hr.mono (by decide)) (by rfl) iB iC iD .nil Yj (YA (YM (YN K rfl) (pv 0) YB (λ_ _=>rfl)) YD)) (JS (Ye (lL base) (hr.mono (by decide)) (by rfl) lN lO lQ .nil Yj (YA (YM (YN K rfl) (pv 0) YB (λ_ _=>rfl)) YD)) (Jx (Ye (nu base) (hr.mono (by decide)) (by rfl) nA nC nF .nil Yj (YA (YM (YN K rfl) (pv 0) YB (λ_ _=>rfl)) YD)))))))),?_⟩
  refine⟨_,Z,_,_,_,_,_,Z,den.ty,Z,YBw d,_,Z,?_⟩;cases d with
  |tup ds=>
   obtain⟨a,xs,rfl,ha,hds⟩:=den.to_tup;have hl:xs.length=ds.length:=hds.len;refine Y3 ?_;refine⟨_,Z,a,xs,Z,.inr (SqT.of ha),Z,_,Z,?_⟩;have shS:Jy ds=true:=by unfold D.short at sh;exact sh
   by_cases h3:ds.length=3
   ·match ds,h3,xs,hl,hds,ha,q,shS with
    |[d0,d1,d2],_,[x0,x1,x2],_,hds,ha,q,shS=>
     have n0:=(hds.get (i:=0) (v:=x0) rfl);have n1:=(hds.get (i:=1) (v:=x1) rfl);have n2:=(hds.get (i:=2) (v:=x2) rfl);obtain⟨_,e0,n0⟩:=n0;obtain⟨_,e1,n1⟩:=n1;obtain⟨_,e2,n2⟩:=n2;cases e0;cases e1;cases e2;have sq:SqT K H a [x0,x1,x2]:=SqT.of ha;refine Y3 ?_;refine⟨_,Z,a,_,0,x0,Z,Z,sq,Z,x0,d0,Z,n0,JJ shS (by simp),hp,_,Z,?_⟩;refine Jt (g:=J7 d1 && Yz d2) (λ_ R hR=>?_) q;refine⟨_,Z,a,_,1,x1,Z,Z,sq,Z,x1,d1,Z,n1,JJ shS (by simp),hp,_,Z,?_⟩;exact Jt (g:=Yz d2) (λ_ R hR=>⟨_,Z,a,_,2,x2,Z,Z,sq,Z,x2,d2,Z,n2,JJ shS (by simp),hp,hR⟩) hR
   ·have e1:(!decide (V.int (xs.length:Int)=V.int 3))=true:=by
     rw[YK0]
     ·rfl
     ·intro e;have:=V.int.inj e
      lia
    rw[e1];refine ZO ?_;have e2:Z4 (.tup ds)=false:=by
     match ds,h3 with
     |[],_=>rfl
     |[_],_=>rfl
     |[_,_],_=>rfl
     |[_,_,_],h=>exact absurd rfl h
     |_ :: _ :: _ :: _ :: _,_=>rfl
    rw[e2]at q;exact q
  |_=>exact ZO q
end
theorem YGI:(["rule"]:List Str).Nodup:=by decide +kernel
section
variable {P:Program}{w:World}{K:W.Frag}{mg:Str->Option Value}{base:Heap}{C:Adr}
theorem YDn:YW ["thing"] ["thing"] (YK YAD):=⟨Z,Z,Z,by decide +kernel,Z,by decide +kernel,by decide +kernel⟩
theorem YDo {f:Addr}{fd:FuncData} (F:Fun K "is_grammar" "is_grammar" YAD f fd) (T:Txt K mg C) (iH:Zx P w K mg CX0 5 "is_rule" ["thing"] (XU Z4)):Yw P w K mg base CX0 6 f fd ["thing"] (XU Xb):=by
 obtain⟨vL,uM,pZ,p7,p8,p_⟩:=iH.ok;obtain⟨tH,cV⟩:=T.cV;refine F.ok YDn (λvs H Q E h=>?_) (λaO A outer s H vs Q E hr h=>?_)
 ·cases h;subst_vars;rfl
 ·obtain⟨x,d,rfl,den,sh,hp,q⟩:=h;refine⟨_,(YO (Y1 (Xe (Z7 (YR (Z3 K rfl) (by rfl) T.aJ YLY (YA (pv 0) (YA (J3 (v:=.ty "list") (by rfl) T.eZ YLu rfl) YD))))) (YG (YZ Jo)) Yd)
   (YG (YZ (JS (J4 Xp (YR (Yg K rfl) (by rfl) T.aL YK7 (YA (pv 0) YD)) (XX (v:=.int 60) (by rfl) cV ⟨_,Z⟩) (Yc _)) (Jx (YBS (YR (Xs K rfl rfl) (by rfl) T.lE YMI (YA (Z2 (N:=["rule"]) (ρ:=[none]) (cl:=[]) rfl (Yi.plain rfl (by decide +kernel) (by decide +kernel) rfl (by simp)) (JU K rfl (pv 0)) (λ_ _ _ _ _=>(YU (i:=0) YGI rfl (Or.inl rfl) (.inr rfl))) (λ_ _ _ _ _=>Zs) (λ_ _ _ _ _=>(Ye (pZ base) (hr.mono (by decide)) (by rfl) p7 p8 p_ .nil Yj (YA (pv 0) YD)))) YD)))))))),?_⟩
  refine⟨_,Z,_,_,_,_,_,Z,den.ty,Z,YKC d,_,Z,?_⟩;cases d with
  |lst ds=>
   obtain⟨a,xs,rfl,ha,hds⟩:=den.to_lst;have hl:xs.length=ds.length:=hds.len;have sq:SqL K H a xs:=.inl ha;refine Y3 ?_;refine⟨_,Z,a,xs,Z,.inl sq,_,_,Z,Z,_,Z,?_⟩;have shS:Jy ds=true:=by unfold D.short at sh;exact sh
   have e1:decide ((xs.length:Int)<=60)=decide (ds.length<=60):=by rw[hl];congr 1;exact propext ⟨λh=>by omega,λh=>by omega⟩
   rw[e1];refine Jt (g:=ds.all Z4) (λh1 R hR=>?_) q;have h1':ds.length<=60:=YLM h1;refine⟨hp,_,Z,a,Z,⟨xs,sq⟩,λl pJ=>?_⟩;refine Zi (n:=xs.length) 0 (λk y _=>∃d,ds[k]?=some d/\y=.bl (Z4 d)) (YCz sq) (λ_ _ _ _ _ h=>h) hp pJ YMP (YF (by omega)) (λτ'=>0 < τ'.length) YMP (λτ' v h=>by rw[YMQ];exact h) ?_ ?_
   ·intro τ' k y H' R _ hτ hit hk hs hp' lK hR;obtain⟨d,hd,dn⟩:=hds.get hit;exact⟨_,hτ,y,d,Z,dn.same hs,JJ shS (YKw hd),hp',hR _ _ (YJ.refl _) hp' ⟨d,hd,Z⟩⟩
   ·intro ys H' hy hP hs hp' hl';have e2:ys=(ds.map Z4).map V.bl:=YHE (by rw[hy,hl]) hP;refine⟨l,ds.map Z4,Z,.inl (.inl (by rw[hl',e2])),hs,?_⟩;rw[XG];exact hR
  |_=>exact ZO q
theorem YHX:YW ["thing"] ["thing"] (YK YB4):=⟨Z,Z,Z,by decide +kernel,Z,by decide +kernel,by decide +kernel⟩
theorem YHY {f:Addr}{fd:FuncData} (F:Fun K "checked" "checked" YB4 f fd) (T:Txt K mg C) (cX:Zx P w K mg CX0 6 "is_grammar" ["thing"] (XU Xb)):Yw P w K mg base (CXo P w) 7 f fd ["thing"] (YBx C.NoGrammar):=by
 obtain⟨tK,sr,j5,j6,j7,j8⟩:=cX.ok;refine F.okX YHX (λvs H Q E h=>?_) (λaO A outer s H vs Q E hr h=>?_)
 ·cases h;subst_vars;rfl
 ·obtain⟨x,d,rfl,den,sh,hp,q1,q2⟩:=h;refine⟨_,(YO (Y1 (Xe (Z7 (Ye (j5 base) (hr.mono (by decide)) (by rfl) j6 j7 j8 .nil Yj (YA (pv 0) YD)))) (YG (YAS JE T.lH rfl (by rfl) T.lG (YA Y0 YD))) Yd)
   (YG (YZ (Xq (Xg K rfl) (by rfl) T.eZ YLu (YA (pv 0) YD))))),?_⟩
  refine⟨_,Z,x,d,Z,den,sh,hp,_,Z,?_⟩;refine Xf (λhi=>?_) λhi=>?_
  ·exact⟨YF (by decide),q2 (YC6 hi)⟩
  ·have e:=YEH hi;obtain⟨g,rfl,hg⟩:=gram_of e;obtain⟨a,xs,rfl,ha,hds⟩:=YKF den;exact⟨_,Z,a,xs,Z,.inl (.inl ha),λl hl=>q1 e l xs _ rfl hds hl⟩
end
abbrev YB5:Stmt:=top 18
abbrev XI:Stmt:=top 19
theorem YGJ:(["sign"]:List Str).Nodup:=by decide +kernel
section
variable {P:Program}{w:World}{K:W.Frag}{mg:Str->Option Value}{base:Heap}{C:Adr}
theorem YHZ:YW ["thing"] ["thing"] (YK YB5):=⟨Z,Z,Z,by decide +kernel,Z,by decide +kernel,by decide +kernel⟩
theorem YHa {f:Addr}{fd:FuncData} (F:Fun K "is_text" "is_text" YB5 f fd) (T:Txt K mg C) (aF:Zx P w K mg CX0 1 "stands_in_texts" ["sign"] (YC4)):Yw P w K mg base CX0 2 f fd ["thing"] (XU YBW):=by
 obtain⟨gP,e_,bD,bF,bG,bH⟩:=aF.ok;obtain⟨tL,cW⟩:=T.cW;refine F.ok YHZ (λvs H Q E h=>?_) (λaO A outer s H vs Q E hr h=>?_)
 ·cases h;subst_vars;rfl
 ·obtain⟨x,d,rfl,den,sh,hp,q⟩:=h;refine⟨_,(YO (Y1 (Xe (Z7 (YR (Z3 K rfl) (by rfl) T.aJ YLY (YA (pv 0) (YA (J3 (v:=.ty "str") (by rfl) T.qY PyProof.Rows.Boot.«str» rfl) YD))))) (YG (YZ Jo)) Yd)
   (YG (YZ (JS (J4 Xp (YR Yo (by rfl) T.aL YK7 (YA (pv 0) YD)) (XX (v:=.int 60) (by rfl) cW ⟨_,Z⟩) (Yc _)) (Jx (YBS (YR (Xs K rfl rfl) (by rfl) T.lE YMI (YA (Z2 (N:=["sign"]) (ρ:=[none]) (cl:=[]) rfl (Yi.plain rfl (by decide +kernel) (by decide +kernel) rfl (by simp)) (YHB (pv 0)) (λ_ _ _ _ _=>(YU (i:=0) YGJ rfl (Or.inl rfl) (.inr rfl))) (λ_ _ _ _ _=>Zs) (λ_ _ _ _ _=>(Ye (bD base) (hr.mono (by decide)) (by rfl) bF bG bH .nil Yj (YA (pv 0) YD)))) YD)))))))),?_⟩
  refine⟨_,Z,_,_,_,_,_,Z,den.ty,Z,YE3 d,_,Z,?_⟩;cases d with
  |str z=>
   have ex:=den.to_str;subst ex;have hz:=YBB sh;have ev:YBW (.str z)=(decide (z.cps.size<=60) && z.cps.toList.all JF):=rfl;refine Y3 ?_;refine⟨_,Z,z,Z,hz,_,_,Z,Z,_,Z,?_⟩;have e1:decide ((z.length:Int)<=60)=decide (z.cps.size<=60):=by
    rw[XF];congr 1;exact propext ⟨λh=>by lia,λh=>by lia⟩
   rw[e1];refine Jt (g:=z.cps.toList.all JF) (λh1 R hR=>?_) (by rw[ev]at q;exact q);refine⟨hp,_,Z,z,Z,λl hl=>?_⟩;refine YFj (τ:=YCv [none] _) (λc=>.bl (JF c)) hl YMP hz (λτ' c H' R hτ _ hR=>?_) ?_
   ·exact⟨_,hτ,c,Z,hR⟩
   ·refine⟨l,z.cps.toList.map JF,Z,.inl (.inl ?_),λb o eb=>?_,?_⟩
    ·rw[YC,YKD]
    ·rw[YH (YV eb hl)];exact eb
    ·rw[XG];exact hR
  |_=>exact ZO q
theorem YCQ:YW ["thing"] ["thing"] (YK XI):=⟨Z,Z,Z,by decide +kernel,Z,by decide +kernel,by decide +kernel⟩
theorem YCR {f:Addr}{fd:FuncData} (F:Fun K "checked_text" "checked_text" XI f fd) (T:Txt K mg C) (iI:Zx P w K mg CX0 2 "is_text" ["thing"] (XU YBW)):Yw P w K mg base (CXo P w) 3 f fd ["thing"] (YC7 C.NoText):=by
 obtain⟨vM,uN,qb,qd,qe,qg⟩:=iI.ok;refine F.okX YCQ (λvs H Q E h=>?_) (λaO A outer s H vs Q E hr h=>?_)
 ·cases h;subst_vars;rfl
 ·obtain⟨x,d,rfl,den,sh,hp,q1,q2⟩:=h;refine⟨_,(YO (Y1 (Xe (Z7 (Ye (qb base) (hr.mono (by decide)) (by rfl) qd qe qg .nil Yj (YA (pv 0) YD)))) (YG (YAS JE T.rn rfl (by rfl) T.qZ (YA Y0 YD))) Yd)
   (YG (YZ (pv 0)))),?_⟩
  refine⟨_,Z,x,d,Z,den,sh,hp,_,Z,?_⟩;refine Xf (λhi=>?_) λhi=>?_
  ·exact⟨YF (by decide),q2 (YC6 hi)⟩
  ·have e:=YEH hi;cases d with
   |str z=>
    have ex:=den.to_str;subst ex;exact⟨_,Z,q1 z rfl e⟩
   |_=>cases e
end
abbrev XJ:Stmt:=top 30
abbrev XL:Stmt:=top 31
abbrev Xj:Stmt:=top 32
def unsz (kvs:List (Key×V)):Sz:=kvs.filterMap λkv=>match kv.1,kv.2 with
 |Sum.inr z,.int n=>some (z,n)
 |_,_=>none
theorem YDK:∀s:Sz,unsz (szD s)=s
 |[]=>rfl
 |p :: s=>by
  show unsz ((Sum.inr p.1,V.int p.2) :: szD s)=_;unfold unsz;rw[List.filterMap_cons];show p :: unsz (szD s)=_;rw[YDK s]
def YGK (H:Hp) (d:Addr):List (Key×V):=match H d with
 |some (.dK kvs)=>kvs
 |_=>[]
inductive YGL (vs:List V) (H:Hp) (Q:VK):Prop where
 |mk (d:_) (s:_) (p:_) (q:_) (aX:vs=[.ref d,.str p,.int q]) (aY:H d=some (.dK (szD s))) (bU:Q (oV (J2 s q p)) H):YGL vs H Q
def YIK:Sp:=λvs H Q E_=>YGL vs H Q
inductive YGM (vs:List V) (H:Hp) (Q:VK):Prop where
 |mk (d:_) (s:_) (t:_) (q:_) (z:_) (p:_) (ps:_) (w:_) (aX:vs=[.ref d,.ref t,.int q]) (aY:H d=some (.dK (szD s))) (bU:H t=some (.tup [.str z,.ref p,.int w])) (cN:H p=some (.tup (ps.map V.str))) (dh:Q (oV (YAJ s q ps)) H):YGM vs H Q
def YIL:Sp:=λvs H Q E_=>YGM vs H Q
inductive YER (vs:List V) (H:Hp) (Q:VK):Prop where
 |mk (l:_) (xs:_) (g:_) (q:_) (aX:vs=[.ref l,.int q]) (aY:H l=some (.lst xs)) (bU:Ya H xs (g.map ZF)) (cN:Y5 g=true) (dh:0<=q) (i_:YL H) (lD:∀d s H',YAW g q s->Fix g q s->H d=none->H'=upd H d (.dK (szD s))->Q (.ref d) H'):YER vs H Q
def YGN:Sp:=λvs H Q E_=>YER vs H Q
theorem oV_get (o:Option Int):(o.map V.int).getD .non=oV o:=by cases o <;> rfl
section
variable {P:Program}{w:World}{K:W.Frag}{mg:Str->Option Value}{base:Heap}{C:Adr}
theorem YCS:YW ["sizes","part","sign_size"] ["sizes","part","sign_size"] (YK XJ):=⟨Z,Z,Z,by decide +kernel,Z,by decide +kernel,by decide +kernel⟩
theorem YCT {f:Addr}{fd:FuncData} (F:Fun K "size_of_part" "size_of_part" XJ f fd) (T:Txt K mg C):Yw P w K mg base CX0 1 f fd ["sizes","part","sign_size"] (YIK):=by
 refine F.ok YCS (λvs H Q E h=>?_) (λaO A outer s H vs Q E hr h=>?_)
 ·cases h;subst_vars;rfl
 ·obtain⟨d,s,p,q,rfl,hd,k⟩:=h;have hu:=Zw hr;refine⟨_,(YG (YZ (Xo (Z7 (Ze K rfl YL7 YMN YMM Zu (pv 1) (YA Y0 YD))) (pv 2) (YBQ hu (pv 0) (pv 1) ⟨Z,Z,Z,Z⟩)))),?_⟩;refine⟨_,Z,Z,_,_,Z,Z,_,Z,?_⟩;unfold J2 isQ at k;refine Xf (λh1=>?_) λh1=>?_
  ·rw[if_pos h1]at k;exact⟨_,Z,k⟩
  ·rw[if_neg h1]at k;refine⟨_,Z,d,Z,.inl ⟨_,.inl hd⟩,_,Z,_,XT.k (k:=Sum.inr p) hd,?_⟩;rw[Xy,oV_get];exact k
theorem Zq:YW ["sizes","rule","sign_size","size","part","more"] ["sizes","rule","sign_size"] (YK XL):=⟨Z,Z,Z,by decide +kernel,Z,by decide +kernel,by decide +kernel⟩
theorem YCU {f:Addr}{fd:FuncData} (F:Fun K "size_of_rule" "size_of_rule" XL f fd) (T:Txt K mg C) (cD:Zx P w K mg CX0 1 "size_of_part" ["sizes","part","sign_size"] (YIK)):Yw P w K mg base CX0 2 f fd ["sizes","rule","sign_size"] (YIL):=by
 obtain⟨rC,qL,jl,jm,jn,jo⟩:=cD.ok;refine F.ok Zq (λvs H Q E h=>?_) (λaO A outer s H vs Q E hr h=>?_)
 ·cases h;subst_vars;rfl
 ·obtain⟨d,s,t,q,z,p,ps,w,rfl,hd,ht,hp,k⟩:=h;refine⟨_,(YO (YQ (i:=3) Zq.nd rfl (Or.inl rfl) YB)
   (YO (Y2 PassesOwn.never rfl (YBT K rfl (YM (YN K rfl) (pv 1) YB (λ_ _=>rfl))) (YU (i:=4) Zq.nd rfl (Or.inl rfl)) (YO (YQ (i:=5) Zq.nd rfl (Or.inl rfl) (Ye (jl base) (hr.mono (by decide)) (by rfl) jm jn jo .nil Yj (YA (pv 0) (YA (pv 4) (YA (pv 2) YD)))))
   (YO (Y1 (Yb op_isN (pv 5) J8 (Yc _)) (YG (YZ J8)) Yd)
   (YG (YJW (i:=3) Zq.nd rfl (Or.inl rfl) (pv 5) YJX)))))
   (YG (YZ (pv 3))))),?_⟩
  refine⟨_,Z,t,_,1,_,Z,Z,SqT.of ht,Z,p,Z,⟨_,SqT.of hp⟩,YEq (K:=K) (a:=p) (xs:=ps.map V.str) (λi σ H2=>H2=H/\∃(acc:Int) (v v':Option V),σ=[some (.ref d),some (.ref t),some (.int q),some (.int acc),v,v']/\Z6 s q ps 1=Z6 s q (ps.drop i) acc) ⟨Z,1,none,none,Z,Z⟩ ?_ ?_ ?_⟩
  ·rintro i σ H2 _ ⟨rfl,_⟩;exact SqT.of hp
  ·rintro i y σ H2 hi ⟨rfl,acc,v,v',rfl,hz⟩;rw[YK1]at hi;cases e:ps[i]? with
   |none=>rw[e]at hi;cases hi
   |some x=>
    rw[e]at hi;cases hi;have ed:ps.drop i=x :: ps.drop (i + 1):=by
     obtain⟨hlt,hx⟩:=YKy.mp e;rw[YLy hlt,hx]
    rw[ed]at hz;have yV:Z6 s q ps 1=match J2 s q x with |none=>none |some m=>Z6 s q (ps.drop (i + 1)) (acc + m):=hz
    refine⟨_,Z,_,Z,_,Z,d,s,x,q,Z,hd,?_⟩;refine⟨_,Z,Z,_,Z,?_⟩;cases e2:J2 s q x with
    |none=>
     rw[e2]at yV;have:YAJ s q ps=none:=yV;rw[this]at k;exact ZO k
    |some m=>
     rw[e2]at yV;exact Y3 ⟨_,Z,_,Z,_,_,Z,Z,Z,_,_,_,Z,yV⟩
  ·rintro σ H2 ⟨rfl,acc,v,v',rfl,hz⟩;rw[YKu,List.drop_length]at hz;have:YAJ s q ps=some acc:=hz;rw[this]at k;exact⟨_,Z,k⟩
theorem ZJ:YW ["rules","sign_size","sizes","shrinking","rule","size"] ["rules","sign_size"] (YK Xj):=⟨Z,Z,Z,by decide +kernel,Z,by decide +kernel,by decide +kernel⟩
theorem YDL {f:Addr}{fd:FuncData} (F:Fun K "least_sizes" "least_sizes" Xj f fd) (T:Txt K mg C) (cF:Zx P w K mg CX0 2 "size_of_rule" ["sizes","rule","sign_size"] (YIL)):Yw P w K mg base CX0 3 f fd ["rules","sign_size"] (YGN):=by
 obtain⟨rD,qM,jq,jr,jt,ju⟩:=cF.ok;refine F.ok ZJ (λvs H Q E h=>?_) (λaO A outer s H vs Q E hr h=>?_)
 ·cases h;subst_vars;rfl
 ·obtain⟨l,xs,g,q,rfl,hl,hds,hg,hq,hp,k⟩:=h;have hu:=Zw hr;have m6:=YAs hg;have yP:xs.length=g.length:=by rw[hds.len,YKu]
  refine⟨_,(YO (YQ (i:=2) ZJ.nd rfl (Or.inl rfl) YCu)
   (YO (YQ (i:=3) ZJ.nd rfl (Or.inl rfl) Jo)
   (YO (YCo PassesOwn.never (Z7 (pv 3)) (YO (YQ (i:=3) ZJ.nd rfl (Or.inl rfl) Jo)
   (YG (Y2 PassesOwn.never rfl (JU K rfl (pv 0)) (YU (i:=4) ZJ.nd rfl (Or.inl rfl)) (YO (YQ (i:=5) ZJ.nd rfl (Or.inl rfl) (Ye (jq base) (hr.mono (by decide)) (by rfl) jr jt ju .nil Yj (YA (pv 2) (YA (pv 4) (YA (pv 1) YD)))))
   (YG (Y1 (PW.pt (YBk (Yb YHr (pv 5) J8 (Yc _)) (YAp (PW.pt (YDt (YEn (YAq hu (YM (YN K rfl) (pv 4) YB (λ_ _=>rfl)) (pv 2))) (YCn (Yb YDu (pv 5) (ZS hu (pv 2) (YM (YN K rfl) (pv 4) YB (λ_ _=>rfl)) (λ_ _=>rfl)) (Yc _)))))))) (YO (YAr hu (pv 2) (YM (YN K rfl) (pv 4) YB (λ_ _=>rfl)) (pv 5) rfl)
   (YG (YQ (i:=3) ZJ.nd rfl (Or.inl rfl) Jo))) Yd)))))))
   (YG (YZ (pv 2)))))),?_⟩
  intro d hd;have ndl:d≠l:=λz=>by rw[z,hl]at hd;cases hd
  refine YJc (λσ H2=>∃(s:Sz) (b:Bool) (v4 v5:Option V),H2=upd H d (.dK (szD s))/\YAW g q s/\(b=false->Fix g q s)/\σ=[some (.ref l),some (.int q),some (.ref d),some (.bl b),v4,v5])
   (λσ H2=>2 * mu g q (unsz (YGK H2 d)) + (if σ[3]?=some (some (.bl true)) then 1 else 0)) ⟨[],true,none,none,Z,YAW.nil g q,nofun,Z⟩ ?_ ?_
  ·rintro σ H2 ⟨s,b,v4,v5,rfl,hok,zF,rfl⟩;refine⟨_,Z,b,Z,?_⟩;cases b with
   |false=>
    refine Y3 ?_;exact⟨_,Z,k d s _ hok (zF rfl) hd rfl⟩
   |true=>
    refine ZO ?_;have hl2:∀{o:HO},upd H d o l=some (.lst xs):=λ{o}=>by rw[YH ndl.symm];exact hl
    have ekv:∀s,YGK (upd H d (.dK (szD s))) d=szD s:=λs=>by unfold YGK;rw[YC]
    refine⟨_,Z,l,Z,⟨_,SqL.of hl2⟩,J9 (K:=K) (a:=l) (xs:=xs) (λi σ H2=>∃(s':Sz) (b:Bool) (v4 v5:Option V),H2=upd H d (.dK (szD s'))/\YAW g q s'/\(b=false->s'=s/\∀r∈g.take i,∀m,YAJ s q r.2.1=some m->∃v,look s r.1=some v/\v<=m)/\(b=true->mu g q s' < mu g q s)/\σ=[some (.ref l),some (.int q),some (.ref d),some (.bl b),v4,v5])
     ⟨s,false,v4,v5,Z,hok,(λ_=>⟨Z,λr hr=>by cases hr⟩),nofun,Z⟩ ?_ ?_ ?_⟩
    ·rintro i σ H2 _ ⟨s',b,v4,v5,rfl,_⟩;exact SqL.of hl2
    ·rintro i y σ H2 hi ⟨s',b,v4,v5,rfl,hok',mY,hb1,rfl⟩;obtain⟨r,t,p,er,rfl,ht,jV⟩:=Xc hds hi;have nt:t≠d:=λz=>by rw[z,hd]at ht;cases ht
     have np:p≠d:=λz=>by rw[z,hd]at jV;cases jV
     have hrm:r∈g:=YKw er;have mZ:∀{o:HO},upd H d o t=some (.tup [.str r.1,.ref p,.int r.2.2]):=λ{o}=>by rw[YH nt];exact ht
     have qG:∀{o:HO},upd H d o p=some (.tup (r.2.1.map V.str)):=λ{o}=>by rw[YH np];exact jV
     have et:g.take (i + 1)=g.take i ++ [r]:=by rw[YLn,er];rfl
     refine⟨_,Z,_,Z,_,Z,d,s',t,q,r.1,p,r.2.1,r.2.2,Z,YC,mZ,qG,?_⟩;refine⟨_,Z,Z,_,Z,?_⟩;have stay:∀(o:Option Int),YAJ s' q r.2.1=o->(∀m,o=some m->∃v,look s' r.1=some v/\v<=m)->∃(qD:Sz) (b':Bool) (w4 w5:Option V),upd H d (.dK (szD s'))=upd H d (.dK (szD qD))/\YAW g q qD/\(b'=false->qD=s/\∀r∈g.take (i + 1),∀m,YAJ s q r.2.1=some m->∃v,look s r.1=some v/\v<=m)/\(b'=true->mu g q qD < mu g q s)/\[some (.ref l),some (.int q),some (.ref d),some (.bl b),some (.ref t),some (oV o)]=[some (.ref l),some (.int q),some (.ref d),some (.bl b'),w4,w5]:=λo ho hv=>by
      refine⟨s',b,_,_,Z,hok',λe=>?_,hb1,Z⟩;obtain⟨e1,e2⟩:=mY e;refine⟨e1,λx hx m hm=>?_⟩;rw[et]at hx;rcases YLQ.mp hx with hx |hx
      ·exact e2 x hx m hm
      ·have ex:=YK4.mp hx;subst ex;subst e1;exact hv m (ho.symm.trans hm)
     cases e2:YAJ s' q r.2.1 with
     |none=>
      refine Y3 (Y3 ?_);exact stay none e2 λm e=>nomatch e
     |some m=>
      refine ZO ?_;refine⟨_,Z,t,_,0,_,Z,Z,SqT.of mZ,Z,_,Z,d,_,Z,XT.k (k:=Sum.inr r.1) YC,_,Z,?_⟩;rw[Xy];have change:(∀v,look s' r.1=some v->m < v)->∃(qD:Sz) (b':Bool) (w4 w5:Option V),upd H d (.dK (szD (Xv s' r.1 m)))=upd H d (.dK (szD qD))/\YAW g q qD/\(b'=false->qD=s/\∀r∈g.take (i + 1),∀m,YAJ s q r.2.1=some m->∃v,look s r.1=some v/\v<=m)/\(b'=true->mu g q qD < mu g q s)/\[some (.ref l),some (.int q),some (.ref d),some (.bl true),some (.ref t),some (oV (some m))]=[some (.ref l),some (.int q),some (.ref d),some (.bl b'),w4,w5]:=λhlt=>by
       obtain⟨RB,Wu⟩:=hok'.step hg hq hrm e2 hlt;refine⟨Xv s' r.1 m,true,_,_,Z,RB,nofun,λ_=>?_,Z⟩;cases b with
       |true=>exact Nat.lt_trans Wu (hb1 rfl)
       |false=>
        obtain⟨e1,_⟩:=mY rfl;subst e1;exact Wu
      have len:(szD s').length < sizeLine:=by
       unfold szD;rw[YKu];exact YLG (show _ < 1000 by have:=hok'.len;lia) (YF (YKv _))
      have put:YBs (upd H d (.dK (szD s'))) d (.str r.1) (.int m) (upd H d (.dK (szD (Xv s' r.1 m)))):=by
       have:=YBs.k (k:=Sum.inr r.1) (v:=.int m) (YC (H:=H) (a:=d) (o:=.dK (szD s'))) len;rw[put_szD hok'.nd,YHl]at this;exact this
      cases e3:look s' r.1 with
      |none=>
       refine ZO (ZO ?_);refine⟨_,Z,_,Z,_,Z,t,_,0,_,Z,Z,SqT.of mZ,Z,d,_,Z,put,?_⟩;exact change λv e=>by rw[e3]at e;cases e
      |some v=>
       refine Y3 ?_;refine⟨_,Z,_,Z,_,Z,t,_,0,_,Z,Z,SqT.of mZ,Z,d,.int v,Z,?_,_,_,Z,Z,_,Z,?_⟩
       ·have:=XT.k (k:=Sum.inr r.1) (YC (H:=H) (a:=d) (o:=.dK (szD s')));rw[Xy,e3]at this;exact this
       refine Xf (λh1=>?_) λh1=>?_
       ·refine⟨_,Z,_,Z,_,Z,t,_,0,_,Z,Z,SqT.of mZ,Z,d,_,Z,put,?_⟩;exact change λv' e=>by
         rw[e3]at e;cases e;exact YLM h1
       ·have h1':v<=m:=Int.not_lt.mp λz=>h1 (YK2 z)
        exact stay (some m) e2 λm' e=>by
         cases e;exact⟨v,e3,h1'⟩
    ·rintro σ H2 ⟨s',b,v4',v5',rfl,hok',mY,hb1,rfl⟩;refine⟨⟨s',b,_,_,Z,hok',λe=>?_,Z⟩,?_⟩
     ·obtain⟨e1,e2⟩:=mY e;subst e1;intro r hr m hm;exact e2 r (by rw[YL8 (by lia)];exact hr) m hm
     ·show 2 * mu g q (unsz (YGK (upd H d (.dK (szD s'))) d)) + _ < 2 * mu g q (unsz (YGK (upd H d (.dK (szD s))) d)) + _;rw[ekv,ekv,YDK,YDK];cases b with
      |true=>
       have:=hb1 rfl;show 2 * mu g q s' + 1 < 2 * mu g q s + 1
       lia
      |false=>
       obtain⟨e1,_⟩:=mY rfl;subst e1;show 2 * mu g q s' + 0 < 2 * mu g q s' + 1
       lia
  ·rintro σ H2 Q1 Q2 hQ ⟨x,e1,c,e2,h⟩;exact⟨x,e1,c,e2,hQ _ _ h⟩
end
abbrev YB6:Stmt:=top 34
abbrev J0:Stmt:=top 35
theorem YGO:(["cost"]:List Str).Nodup:=by decide +kernel
def YBa:D->Bool
 |.tup ds=>decide (ds.length=3) && ds.all Yz
 |_=>false
inductive YAK (C:Addr) (vs:List V) (H:Hp) (Q:VK) (E:XK):Prop where
 |mk (x:_) (d:_) (aX:vs=[x]) (aY:Den H x d) (bU:d.short=true) (cN:YL H) (dh:(YBa d=true->Q x H)) (i_:(YBa d=false->E (.ref C) none H)):YAK C vs H Q E
def YAa (C:Addr):Sp:=λvs H Q E=>YAK C vs H Q E
section
variable {P:Program}{w:World}{K:W.Frag}{mg:Str->Option Value}{base:Heap}{C:Adr}
theorem YHb:YW ["thing"] ["thing"] (YK YB6):=⟨Z,Z,Z,by decide +kernel,Z,by decide +kernel,by decide +kernel⟩
theorem YHc {f:Addr}{fd:FuncData} (F:Fun K "is_cost" "is_cost" YB6 f fd) (T:Txt K mg C) (bW:Zx P w K mg CX0 1 "is_whole" ["thing"] (XU YC3)):Yw P w K mg base CX0 2 f fd ["thing"] (XU Yz):=by
 obtain⟨nj,lJ,gb,gf,gh,gj⟩:=bW.ok;refine F.ok YHb (λvs H Q E h=>?_) (λaO A outer s H vs Q E hr h=>?_)
 ·cases h;subst_vars;rfl
 ·obtain⟨x,d,rfl,den,sh,hp,q⟩:=h;refine⟨_,(YG (YZ (JS (Ye (gb base) (hr.mono (by decide)) (by rfl) gf gh gj .nil Yj (YA (pv 0) YD)) (Jx (YAQ Xp Xp YB (pv 0) (YI YAP YB YB)))))),?_⟩;refine⟨_,Z,x,d,Z,den,sh,hp,_,Z,?_⟩;cases d with
  |int i=>
   have ex:=den.to_int;subst ex;have ev:Yz (.int i)=(decide (0<=i) && decide (i<=10 ^ 60)):=rfl;refine ZO ?_;refine⟨_,Z,_,_,Z,Z,_,Z,?_⟩;refine Xf (λh1=>?_) λh1=>?_
   ·refine⟨_,_,Z,Z,⟨by decide,by decide,by decide⟩,_,_,Z,Z,?_⟩;rw[ev,h1]at q;exact q
   ·have h1':decide (0<=i)=false:=by
     cases hh:decide (0<=i) with
     |false=>rfl
     |true=>exact absurd hh h1
    rw[ev,h1']at q;exact q
  |_=>exact Y3 q
theorem YB7:YW ["thing"] ["thing"] (YK J0):=⟨Z,Z,Z,by decide +kernel,Z,by decide +kernel,by decide +kernel⟩
theorem YB8 {f:Addr}{fd:FuncData} (F:Fun K "checked_costs" "checked_costs" J0 f fd) (T:Txt K mg C) (iJ:Zx P w K mg CX0 2 "is_cost" ["thing"] (XU Yz)):Yw P w K mg base (CXo P w) 3 f fd ["thing"] (YAa C.NoCosts):=by
 obtain⟨vN,uO,qi,qj,ql,qt⟩:=iJ.ok;refine F.okX YB7 (λvs H Q E h=>?_) (λaO A outer s H vs Q E hr h=>?_)
 ·cases h;subst_vars;rfl
 ·obtain⟨x,d,rfl,den,sh,hp,q1,q2⟩:=h;refine⟨_,(YO (Y1 (PW.pt (YDt (Xe (Z7 (YR (Z3 K rfl) (by rfl) T.aJ YLY (YA (pv 0) (YA (J3 (v:=.ty "tuple") (by rfl) T.ji YMO rfl) YD))))) (YDt (Yb YCE (YR (Yg K rfl) (by rfl) T.aL YK7 (YA (pv 0) YD)) YB (Yc _)) (YCn (Xe (Z7 (YBS (YR (Xs K rfl rfl) (by rfl) T.lE YMI (YA (Z2 (N:=["cost"]) (ρ:=[none]) (cl:=[]) rfl (Yi.plain rfl (by decide +kernel) (by decide +kernel) rfl (by simp)) (YBT K rfl (pv 0)) (λ_ _ _ _ _=>(YU (i:=0) YGO rfl (Or.inl rfl) (.inr rfl))) (λ_ _ _ _ _=>Zs) (λ_ _ _ _ _=>(Ye (qi base) (hr.mono (by decide)) (by rfl) qj ql qt .nil Yj (YA (pv 0) YD)))) YD))))))))) (YG (YAS JE T.pM rfl (by rfl) T.pK (YA Y0 YD))) Yd)
   (YG (YZ (pv 0)))),?_⟩
  refine⟨_,Z,_,_,_,_,_,Z,den.ty,Z,YBw d,_,Z,?_⟩;cases d with
  |tup ds=>
   obtain⟨a,xs,rfl,ha,hds⟩:=den.to_tup;have hl:xs.length=ds.length:=hds.len;have shS:Jy ds=true:=by unfold D.short at sh;exact sh
   refine Y3 ?_;refine⟨_,Z,a,xs,Z,.inr (SqT.of ha),Z,_,Z,?_⟩
   by_cases h3:ds.length=3
   ·have e3:decide (V.int (xs.length:Int)=V.int 3)=true:=YK2 (by rw[hl,h3];rfl);rw[e3];refine Y3 ?_;refine⟨hp,_,Z,a,Z,⟨xs,SqT.of ha⟩,λl pJ=>?_⟩;refine Zi (n:=xs.length) 0 (λk y _=>∃d,ds[k]?=some d/\y=.bl (Yz d)) (YEE (SqT.of ha)) (λ_ _ _ _ _ h=>h) hp pJ YMP (YF (by lia)) (λτ'=>0 < τ'.length) YMP (λτ' v h=>by rw[YMQ];exact h) ?_ ?_
    ·intro τ' k y H' R _ hτ hit hk hs hp' lK hR;obtain⟨d,hd,dn⟩:=hds.get hit;exact⟨_,hτ,y,d,Z,dn.same hs,JJ shS (YKw hd),hp',hR _ _ (YJ.refl _) hp' ⟨d,hd,Z⟩⟩
    ·intro ys H' hy hP hs hp' hl';have e2:ys=(ds.map Yz).map V.bl:=YHE (by rw[hy,hl]) hP;refine⟨l,ds.map Yz,Z,.inl (.inl (by rw[hl',e2])),hs,_,Z,?_⟩;rw[XG];have ev:YBa (.tup ds)=ds.all Yz:=by
      show(decide (ds.length=3) && ds.all Yz)=_;rw[YK2 h3];rfl
     rw[ev]at q1 q2;cases hall:ds.all Yz with
     |false=>exact ZO ⟨YF (by decide),q2 hall⟩
     |true=>exact Y3 ⟨_,Z,q1 hall⟩
   ·have e3:decide (V.int (xs.length:Int)=V.int 3)=false:=YK0 (λe=>h3 (by have:=V.int.inj e;lia));rw[e3];refine ZO (ZO ⟨YF (by decide),q2 ?_⟩);show(decide (ds.length=3) && ds.all Yz)=false;rw[YK0 h3];rfl
  |_=>exact ZO (ZO ⟨YF (by decide),q2 rfl⟩)
end
abbrev JX:Stmt:=ZT (top 37) 0
abbrev Jh:Stmt:=ZT (top 37) 1
abbrev JY:Stmt:=ZT (top 37) 2
abbrev JK:Stmt:=ZT (top 37) 3
abbrev ZX:Stmt:=ZT (top 37) 4
abbrev Zz:Stmt:=ZT (top 37) 5
abbrev Ji:Stmt:=ZT (top 37) 6
abbrev Z9:Stmt:=ZT (top 37) 7
abbrev Zj:Stmt:=ZT (top 37) 8
abbrev JZ:Stmt:=ZT (top 37) 9
abbrev JA:Stmt:=ZT (top 37) 10
abbrev YFF:Stmt:=top 38
theorem XM:(["begin","end","self","sign"]:List Str).Nodup:=by decide +kernel
def XO (p:Str):Str:=⟨#[(p.cps[1]?).getD 0]⟩
def X2 (c t:Str) (b e:Nat):Bool:=!(Builtin.Str.occurrences (Txt.slice t (some (b:Int)) (some (e:Int))) c 0 (Txt.slice t (some (b:Int)) (some (e:Int))).length 1).isEmpty
def sgT (t:Str) (put cut swap:Int) (p:Str) (b e:Nat):Int:=if e<=b then put else (if ((e:Int) - b - 1) * cut + (if X2 (XO p) t b e=true then 0 else swap) < ((e:Int) - b) * cut + put then ((e:Int) - b - 1) * cut + (if X2 (XO p) t b e=true then 0 else swap) else ((e:Int) - b) * cut + put)
inductive YCL (C:Addr) (vs:List V) (H:Hp) (Q:VK):Prop where
 |mk (T:Tol) (p:Str) (b e:Nat) (aX:vs=[.ref T.x,.str p,.int b,.int e]) (aY:H T.x=some (.ins C T.dx T.fld)) (bU:b<=e) (cN:e<=T.n) (dh:T.n<=60) (i_:T.t.length=T.n) (lD:p.length=2) (n_:T.cut.natAbs < 2 ^ 4000) (uE:Q (.int (sgT T.t T.put T.cut T.swap p b e)) H):YCL C vs H Q
def YDM (C:Addr):Sp:=λvs H Q E_=>YCL C vs H Q
def YAb (H H':Hp) (a:Addr) (rows:Nat->List Int) (N:Nat):Prop:=H a=none/\∃bs:List Addr,H' a=some (.lst (bs.map V.ref))/\bs.length=N/\∀(i:Nat) (c:Addr),bs[i]?=some c->H c=none/\c≠a/\H' c=some (.lst ((rows i).map V.int))/\∀j,bs[j]?=some c->j=i
theorem YGP {ys:List V}{n:Nat}{f:Nat->V} (hl:ys.length=n) (h:∀(k:Nat) (y:V),ys[k]?=some y->y=f k):ys=(List.range n).map f:=by
 apply YMe;intro i;rw[YK1];rcases YLz i n with hi |hi
 ·rw[YLg hi];have:=YKx (show i < ys.length by lia);rw[this];exact YL5 some (h i _ this)
 ·rw[YLf (by lia),YLf (by rw[YLN];exact hi)];rfl
theorem YAb.snoc {H H':Hp}{a:Addr}{rows:Nat->List Int}{N:Nat}{bs:List Addr}{c:Addr} (h1:H a=none) (h2:H' a=some (.lst (bs.map V.ref))) (h3:bs.length=N)
  (h4:∀(i:Nat) (c:Addr),bs[i]?=some c->H c=none/\c≠a/\H' c=some (.lst ((rows i).map V.int))/\∀j,bs[j]?=some c->j=i) (hc:H c=none) (hca:c≠a) (hc2:H' c=some (.lst ((rows N).map V.int))) (hnew:∀i:Nat,bs[i]?≠some c):
  YAb H (upd H' a (.lst ((bs ++ [c]).map V.ref))) a rows (N + 1):=by
 refine⟨h1,bs ++ [c],YC,by rw[YK5,h3];rfl,λi c' hc'=>?_⟩;have at_:∀(j:Nat) (yW:Addr),(bs ++ [c])[j]?=some yW->(bs[j]?=some yW/\j < N)\/(j=N/\yW=c):=λj yW e=>by
  rcases YLz j bs.length with hj |hj
  ·rw[YLx hj]at e;exact .inl ⟨e,by lia⟩
  ·rw[YLl hj]at e;have:j - bs.length=0:=by
    have:=(YKy.mp e).1;simp only[YK6,YMG]at this
    lia
   rw[this]at e;cases e;exact .inr ⟨by lia,Z⟩
 rcases at_ i c' hc' with ⟨e1,e2⟩ |⟨rfl,rfl⟩
 ·obtain⟨g1,g2,g3,g4⟩:=h4 i c' e1;refine⟨g1,g2,by rw[YH g2];exact g3,λj ej=>?_⟩;rcases at_ j c' ej with ⟨k1,k2⟩ |⟨_,k2⟩
  ·exact g4 j k1
  ·rw[k2]at e1;exact absurd e1 (hnew i)
 ·refine⟨hc,hca,by rw[YH hca];exact hc2,λj ej=>?_⟩;rcases at_ j c' ej with ⟨k1,_⟩ |⟨k1,_⟩
  ·exact absurd k1 (hnew j)
  ·exact k1
inductive YDN (C:Addr) (vs:List V) (H:Hp) (Q:VK):Prop where
 |mk (T:Tol) (p:Str) (aX:vs=[.ref T.x,.str p]) (aY:H T.x=some (.ins C T.dx T.fld)) (bU:T.n<=60) (cN:T.t.length=T.n) (dh:p.length=2) (i_:T.cut.natAbs < 2 ^ 4000) (lD:YL H) (n_:∀a H',YJ H H'->YL H'->YAb H H' a (ovR (sgT T.t T.put T.cut T.swap) p) (T.n + 1)->Q (.ref a) H'):YDN C vs H Q
def YES (C:Addr):Sp:=λvs H Q E_=>YDN C vs H Q
inductive YDO (C:Addr) (vs:List V) (H:Hp) (Q:VK):Prop where
 |mk (T:Tol) (t p:Addr) (r:Y4) (aX:vs=[.ref T.x,.ref t]) (aY:H T.x=some (.ins C T.dx T.fld)) (bU:Rd H T.ab (.dK (szD T.s))) (cN:H t=some (.tup [.str r.1,.ref p,.int r.2.2])) (dh:H p=some (.tup (r.2.1.map V.str))) (i_:Q (.int (rch T.s r.2.1)) H):YDO C vs H Q
def YET (C:Addr):Sp:=λvs H Q E_=>YDO C vs H Q
theorem YKc {s:Sz}:∀{ps:List Str}{i:Nat}{p:Str},(∀p∈ps.take i,okP s p=true)->ps[i]?=some p->okP s p=false->rch s ps=i
 |[],i,p,_,e,_=>by cases e
 |c :: ps,0,p,_,e,hp=>by
  cases e;exact if_neg (by rw[hp];exact YLD)
 |c :: ps,i + 1,p,h,e,hp=>by
  have hc:=h c (by simp);have e1:rch s (c :: ps)=rch s ps + 1:=if_pos hc;rw[e1,YKc (λx hx=>h x (by rw[List.take_succ_cons];exact YLA _ hx)) (by simpa using e) hp]
section
variable {P:Program}{w:World}{K:W.Frag}{mg:Str->Option Value}{base:Heap}{C:Adr}
theorem ZY:YW ["self","sign","begin","end","many","toll","change"] ["self","sign","begin","end"] (YK JK):=⟨Z,Z,Z,by decide +kernel,Z,by decide +kernel,by decide +kernel⟩
theorem YAy {f:Addr}{fd:FuncData} (F:Fun K "sign_toll" "Toller.sign_toll" JK f fd) (T:Txt K mg C):Yw P w K mg base CX0 1 f fd ["self","sign","begin","end"] (YDM C.Toller):=by
 refine F.ok ZY (λvs H Q E h=>?_) (λaO A outer s H vs Q E hr h=>?_)
 ·cases h;subst_vars;rfl
 ·obtain⟨S,p,b,e,rfl,hx,hbe,hen,hn,uF,qG,hc,q⟩:=h;have hu:=Zw hr;refine qex ?_;refine⟨_,(YE ⟨(YQ (i:=4) ZY.nd rfl (Or.inl rfl) (YI Zg (pv 3) (pv 2)))⟩
   (YE ⟨(YQ (i:=5) ZY.nd rfl (Or.inl rfl) (YI Yh (YI Jm (pv 4) (YT K rfl (pv 0) rfl)) (YT K rfl (pv 0) rfl)))⟩
   (YE ⟨(Y1 (Yb XA (pv 4) YB (Yc _)) (YG (YZ (pv 5))) Yd)⟩
   (YE ⟨(YQ (i:=6) ZY.nd rfl (Or.inl rfl) (Xo (Yb YIn (YM XD (pv 1) YB (λ_ _=>rfl)) (XC YEz (YT K rfl (pv 0) rfl) (JG (pv 2)) (JG (pv 3))) (by with_unfolding_all rfl)) YB (YT K rfl (pv 0) rfl)))⟩
   (Y7 ⟨(YZ (YR (YBo rfl) (by rfl) T.pq YMU (YA (pv 5) (YA (YI Yh (YI Jm (YI Zg (pv 4) YB) (YT K rfl (pv 0) rfl)) (pv 6)) YD))))⟩))))),?_⟩
  have hlt:∀i:Int,0<=i->i<=60->i.natAbs < 2 ^ 4000:=λi h1 h2=>YMl (show i.natAbs<=60 by lia) (YLG (by decide:60 < 2 ^ 6) (Nat.pow_le_pow_right (by decide) (by decide)))
  obtain⟨m,hm⟩:∃m:Int,(e:Int) - b=m:=⟨_,Z⟩;refine⟨_,Z,_,Z,_,_,Z,Z,?_⟩;refine⟨_,Z,_,Z,S.x,C.Toller,S.dx,_,_,Z,hx,T.aa,T.aR,Z,_,_,Z,Z,⟨hlt _ (by lia) (by lia),hc⟩,_,Z,S.x,C.Toller,S.dx,_,_,Z,hx,T.aa,T.cP,Z,_,_,Z,Z,?_⟩;refine⟨_,Z,Z,_,Z,?_⟩;unfold sgT at q;refine Xf (λh1=>?_) λh1=>?_
  ·have h1:((e:Int) - b)=0:=V.int.inj (YLM h1);rw[if_pos (by lia)]at q;refine⟨_,Z,?_⟩;have e0:((e:Int) - b) * S.cut + S.put=S.put:=by rw[h1,YML,YLr]
   show Q (.int (((e:Int) - b) * S.cut + S.put)) H;rw[e0];exact q
  ·have h1':¬b=e:=λz=>h1 (YK2 (by rw[z];show V.int _=_;rw[Int.sub_self]))
   rw[if_neg (show ¬e<=b by lia)]at q;obtain⟨c,ec⟩:∃c,p.cps[1]?=some c:=⟨_,Array.getElem?_eq_getElem (show 1 < p.cps.size by have:p.cps.size=2:=qG;lia)⟩;have es:XO p=⟨#[c]⟩:=by unfold XO;rw[ec];rfl
   have line:∀k:Nat,k<=60->k<=sizeLine:=λk hk=>YLU hk (YF (by decide))
   refine⟨_,Z,p,1,c,Z,Z,line _ (by lia),Yq (j:=1) (by rw[YLt];exact ec),_,Z,S.x,C.Toller,S.dx,_,_,Z,hx,T.aa,T.aU,Z,_,Z,_,Z,_,Z,_,Z,_,Z,line _ (by lia),_,_,Z,Z,_,Z,?_⟩;have fin:∀ch:Int,(if X2 (XO p) S.t b e=true then 0 else S.swap)=ch->Q (.int (if ((e:Int) - b - 1) * S.cut + ch < ((e:Int) - b) * S.cut + S.put then ((e:Int) - b - 1) * S.cut + ch else ((e:Int) - b) * S.cut + S.put)) H:=λch z=>by rw[z]at q;exact q
   rw[es]at fin;refine Xf (λh2=>?_) λh2=>?_
   ·refine⟨_,Z,_,Z,_,_,Z,Z,_,Z,S.x,C.Toller,S.dx,_,_,Z,hx,T.aa,T.aR,Z,_,_,Z,Z,⟨hlt _ (by lia) (by lia),hc⟩,_,Z,_,_,Z,Z,_,_,Z,?_⟩;exact fin 0 (if_pos h2)
   ·refine⟨_,Z,S.x,C.Toller,S.dx,_,_,Z,hx,T.aa,T.dm,Z,?_⟩;refine⟨_,Z,_,Z,_,_,Z,Z,_,Z,S.x,C.Toller,S.dx,_,_,Z,hx,T.aa,T.aR,Z,_,_,Z,Z,⟨hlt _ (by lia) (by lia),hc⟩,_,Z,_,_,Z,Z,_,_,Z,?_⟩;exact fin S.swap (if_neg h2)
theorem Z0:YW ["self","sign","table","end"] ["self","sign"] (YK ZX):=⟨Z,Z,Z,by decide +kernel,Z,by decide +kernel,by decide +kernel⟩
theorem YAc {f:Addr}{fd:FuncData} (F:Fun K "sign_table" "Toller.sign_table" ZX f fd) (T:Txt K mg C) (bz:Js P w K mg CX0 1 C.Toller "sign_toll" ["self","sign","begin","end"] (YDM C.Toller)):Yw P w K mg base CX0 2 f fd ["self","sign"] (YES C.Toller):=by
 obtain⟨nG,mL,gm,dU,gn⟩:=bz.ok;refine F.ok Z0 (λvs H Q E h=>?_) (λaO A outer s H vs Q E hr h=>?_)
 ·cases h;subst_vars;rfl
 ·obtain⟨S,p,rfl,hx,hn,uF,qG,zG,hp,q⟩:=h;have hu:=Zw hr;refine qex ?_;refine⟨_,(YE (YBu (i:=2) Z0.nd rfl (Or.inl rfl) (YKA YJ7))
   (YE ⟨(Y2 PassesOwn.never rfl (Zb rfl T.aQ (YA (YI Yh (YR Yo (by rfl) T.aL YK7 (YA (YT K rfl (pv 0) rfl) YD)) YB) YD)) (YU (i:=3) Z0.nd rfl (Or.inr rfl)) (YG (Y6 (Ze K rfl YLT YLi YLh ZP (pv 2) (YA (Z2 (N:=["begin","end","self","sign"]) (ρ:=[none,some 3,some 0,some 1]) rfl (Yi.closes ["self","sign","table","end"] (YK ZX).names rfl rfl rfl rfl (by decide +kernel) (by decide +kernel) (λx h=>XB h) (by decide +kernel) rfl (by decide +kernel)) (Zb rfl T.aQ (YA (YI Yh (pv 3) YB) YD)) (λ_ _ _ _ _=>(YU (i:=0) XM rfl (Or.inl rfl) (.inr rfl))) (λ_ _ _ _ _=>Zs) (λ_ _ _ _ _=>(Zh (pv 2) T.aa dU (gm base) (hr.mono (by decide)) gn .nil Yj (YA (pv 3) (YA (pv 0) (YA (pv 1) YD)))))) YD)))))⟩
   (Y7 ⟨(YZ (pv 2))⟩))),?_⟩
  have line:∀k:Nat,k<=61->k<=sizeLine:=λk hk=>YLU hk (YF (by decide))
  refine⟨YLS _,λa ha=>?_⟩;have hxa:S.x≠a:=YV hx ha;have hx1:∀{o:HO},upd H a o S.x=some (.ins C.Toller S.dx S.fld):=λ{o}=>by rw[YH hxa];exact hx
  refine⟨_,Z,S.x,C.Toller,S.dx,_,_,Z,hx1,T.aa,T.aU,Z,_,Z,line _ (by lia),_,_,Z,Z,((S.n + 1:Nat):Int),by rw[uF];rfl,by lia,by lia,?_⟩;refine JP (lo:=0) (n:=S.n + 1) (λi σ H2=>∃(bs:List Addr) (v3:Option V),σ=[some (.ref S.x),some (.str p),some (.ref a),v3]/\YJ H H2/\YL H2/\H2 a=some (.lst (bs.map V.ref))/\bs.length=i/\
    ∀(j:Nat) (c:Addr),bs[j]?=some c->H c=none/\c≠a/\H2 c=some (.lst ((ovR (sgT S.t S.put S.cut S.swap) p j).map V.int))/\∀j',bs[j']?=some c->j'=j)
   ⟨[],none,Z,YJ.upd ha,hp.upd rfl,YC,Z,λj c e=>by cases e⟩ ?_ ?_
  ·rintro i σ H2 hi ⟨bs,v3,rfl,s2,p2,h2,hl,hb⟩;refine⟨_,Z,.inl ⟨Z,_,SqL.of h2⟩,_,Z,_,_,Z,Z,((i + 1:Nat):Int),by rw[YLr];rfl,by lia,by lia,λc hc=>?_⟩;have hca:c≠a:=λz=>by rw[z,h2]at hc;cases hc
   refine Zi (n:=i + 1) 0 (λk y _=>y=.int (sgT S.t S.put S.cut S.swap p k i)) JQ (λ_ _ _ _ _ h=>h) p2 hc (show 0 < 4 by decide) (line _ (by lia)) (λτ'=>∃v,τ'=[v,some (.int (0 + (i:Int))),some (.ref S.x),some (.str p)]) ⟨_,Z⟩ (λτ' v ⟨_,e⟩=>⟨v,by rw[e];rfl⟩) ?_ ?_
   ·rintro τ' k y H' R ⟨v,rfl⟩ hτ rfl hk hs hp' lK hR;cases hτ;have hx2:=hs _ _ (s2 _ _ hx);refine⟨_,Z,S.x,S.dx,_,Z,hx2,Z,_,Z,_,Z,_,Z,S,p,k,i,by rw[YLr,YLr];rfl,hx2,by lia,by lia,hn,uF,qG,zG,hR _ _ (YJ.refl _) hp' rfl⟩
   ·intro ys H' hy hP hs hp' hl';have ey:ys=(ovR (sgT S.t S.put S.cut S.swap) p i).map V.int:=by
     unfold ovR;rw[YL2];exact YGP hy hP
    rw[ey]at hl';refine⟨a,_,_,Z,Z,hs _ _ h2,YLG (show(bs.map V.ref).length < 1000 by rw[YKu];lia) (YF (YKv _)),?_⟩;have e3:bs.map V.ref ++ [V.ref c]=(bs ++ [c]).map V.ref:=by rw[YLE];rfl
    rw[e3];obtain⟨t1,Qu,t2,t3,t4⟩:=YAb.snoc (rows:=ovR (sgT S.t S.put S.cut S.swap) p) (N:=i) ha (hs _ _ h2) hl (λj c hj=>⟨(hb j c hj).1,(hb j c hj).2.1,hs _ _ (hb j c hj).2.2.1,(hb j c hj).2.2.2⟩) (s2.free hc) hca hl' λj hj=>by rw[(hb j c hj).2.2.1]at hc;cases hc
    exact⟨Qu,_,Z,(s2.trans hs).put ha,hp'.upd rfl,t2,t3,t4⟩
  ·rintro σ H2 ⟨bs,v3,rfl,s2,p2,h2,hl,hb⟩;exact⟨_,Z,q a H2 s2 p2 ⟨ha,bs,h2,hl,hb⟩⟩
theorem Zk:YW ["self","rule","reach","part"] ["self","rule"] (YK JY):=⟨Z,Z,Z,by decide +kernel,Z,by decide +kernel,by decide +kernel⟩
theorem YBG {f:Addr}{fd:FuncData} (F:Fun K "reach_of" "Toller.reach_of" JY f fd) (T:Txt K mg C):Yw P w K mg base CX0 1 f fd ["self","rule"] (YET C.Toller):=by
 refine F.ok Zk (λvs H Q E h=>?_) (λaO A outer s H vs Q E hr h=>?_)
 ·cases h;subst_vars;rfl
 ·obtain⟨S,t,p,r,rfl,hx,hab,ht,hp,q⟩:=h;have hu:=Zw hr;refine qex ?_;refine⟨_,(YE (YBu (i:=2) Zk.nd rfl (Or.inl rfl) YJ8)
   (YE ⟨(Y2 PassesOwn.never rfl (YBT K rfl (YM (YN K rfl) (pv 1) YB (λ_ _=>rfl))) (YU (i:=3) Zk.nd rfl (Or.inl rfl)) (YO (Y1 (PW.pt (YBk (Xe (Z7 (Ze K rfl YL7 YMN YMM Zu (pv 3) (YA Y0 YD)))) (YAp (YEn (YAq hu (pv 3) (YT K rfl (pv 0) rfl)))))) (YG YJU) Yd)
   (YG (YJW (i:=2) Zk.nd rfl (Or.inl rfl) YB YJX))))⟩
   (Y7 ⟨(YZ (pv 2))⟩))),?_⟩
  refine⟨_,Z,t,_,1,_,Z,Z,SqT.of ht,Z,p,Z,⟨_,SqT.of hp⟩,YEq (K:=K) (a:=p) (xs:=r.2.1.map V.str) (λi σ H2=>H2=H/\(∀p∈r.2.1.take i,okP S.s p=true)/\∃v,σ=[some (.ref S.x),some (.ref t),some (.int i),v]) ⟨Z,(λx hx=>by rw[YMV]at hx;cases hx),none,Z⟩ ?_ ?_ ?_⟩
  ·rintro i σ H2 _ ⟨rfl,_⟩;exact SqT.of hp
  ·rintro i y σ H2 hi ⟨rfl,jU,v,rfl⟩;rw[YK1]at hi;cases e:r.2.1[i]? with
   |none=>rw[e]at hi;cases hi
   |some c=>
    rw[e]at hi;cases hi;refine⟨_,Z,Z,_,_,Z,Z,_,Z,?_⟩;have more:okP S.s c=true->∀p∈r.2.1.take (i + 1),okP S.s p=true:=λhc x hx=>by
     rw[YLn,e]at hx;rcases YLQ.mp hx with hx |hx
     ·exact jU x hx
     ·rw[YK4.mp hx];exact hc
    cases hq:isQ c with
    |true=>
     have hq':Txt.startswith c "'"=true:=hq;rw[hq'];refine Y3 (Y3 ⟨_,Z,_,_,Z,Z,?_⟩);exact⟨Z,more (by unfold okP;rw[hq];rfl),_,Z⟩
    |false=>
     have hq':Txt.startswith c "'"=false:=hq;rw[hq'];refine ZO ⟨_,Z,_,Z,S.x,C.Toller,S.dx,_,_,Z,hx,T.aa,T.aV,Z,S.ab,_,Z,.inl ⟨_,Sum.inr c,hab,Z,Z⟩,_,Z,?_⟩;rw[Xy];cases hlk:look S.s c with
     |none=>
      refine ZO ⟨_,Z,?_⟩;have:=YKc jU e (by unfold okP;rw[hq,hlk];rfl);rw[this]at q;exact q
     |some v'=>
      refine Y3 ⟨_,Z,_,_,Z,Z,?_⟩;exact⟨Z,more (by unfold okP;rw[hlk,hq];rfl),_,Z⟩
  ·rintro σ H2 ⟨rfl,jU,v,rfl⟩;refine⟨_,Z,?_⟩;rw[YKu];rw[YKu,YL9]at jU;rw[X0 jU]at q;exact q
end
theorem YHd:(["end"]:List Str).Nodup:=by decide +kernel
theorem YFG:(["begin"]:List Str).Nodup:=by decide +kernel
theorem YIM (z:Str):isQ z=decide (z.cps.toList[0]?=some 39):=by
 have e0:(("'":Str))=⟨#[39]⟩:=by decide +kernel
 unfold isQ;rw[e0,YMR,YLm];have:=StrLaws.subAt_one z 39 0;unfold Txt.startswith;rw[YLC,YLm];exact this
theorem YAv {z:Str} (h:isNameS z=true):isQ z=false:=by
 rw[YIM];refine YK0 λe=>?_
 unfold isNameS at h;rw[YLC]at h;have:=YLb.mp h.2 39 (YKw e);exact absurd this (by decide)
theorem YGQ {z:Str} (h:ZD z=true) (hq:isQ z=true):z.length=2:=by
 unfold ZD at h;cases hs:Xa z with
 |true=>
  unfold Xa at hs;rw[YLC,YLC,beq_iff_eq]at hs;exact hs.1.1
 |false=>
  rw[hs,YMT]at h;rw[YAv h]at hq;cases hq
theorem JL {g:Yy} (h:Y5 g=true) {r:Y4} (hr:r∈g):isNameS r.1=true/\r.2.1.length<=6/\∀p∈r.2.1,ZD p=true:=by
 unfold Y5 at h;rw[YLC]at h;have:=YLb.mp h.2 r hr;unfold Jz at this;rw[YLC,YLC,YLC,YLm]at this;exact⟨this.1,this.2.1.1,λp hp=>YLb.mp this.2.1.2 p hp⟩
theorem YCg {α:Type}{l:List α} (nd:l.Nodup) {i:Nat}{h:α} (e:l[i]?=some h):h∉l.take i:=λhm=>by
 obtain⟨hi,e⟩:=YKy.mp e;rw[<-List.take_append_drop i l,List.nodup_append]at nd;refine nd.2.2 h hm h ?_ rfl;rw[YLy hi,e];exact YLJ ..
theorem YDP:∀{xs ys:List Addr},xs.map V.ref=ys.map V.ref->xs=ys
 |[],[],_=>rfl
 |[],_ :: _,h=>by cases h
 |_ :: _,[],h=>by cases h
 |x :: xs,y :: ys,h=>by
  injection h with h1 h2
  rw[V.ref.inj h1,YDP h2]
def ovO (T:Tol):OvF:=λp b e=>if isQ p=true then sgT T.t T.put T.cut T.swap p b e else 0
def noF:FiF:=λ_ _ _ _=>0
def noK:Nat->Nat->Nat->Nat:=λ_ _ _=>0
section
variable {T:Tol}{own bc:Addr->Option XV}{ps:List Str}{H0 H H':Hp}{O:OvF}{F:FiF}{K:Nat->Nat->Nat->Nat}
theorem TSt.lay (S:TSt T own ps H0 H O F K) (s:YJ H H') (p:YL H') (h1:∀a,H a≠none->bc a=own a) (h2:∀a u,bc a=some u->own a=some u\/(H a=none/\∃xs:List V,H' a=some (.lst xs))) (h3:∀a a' u,bc a=some u->bc a'=some u->a=a'):
  TSt T bc ps H0 H' O F K:=by
 obtain⟨kvs,a1,a2,a3⟩:=S.hao;obtain⟨ts,b1,b2,b3,b4⟩:=S.haf;obtain⟨o,ho⟩:=S.hab;have old:∀a w,H a=some w->bc a=own a:=λa w e=>h1 a (by rw[e];exactλz=>nomatch z)
 refine⟨p,S.sm.trans s,s _ _ S.hx,S.hl,S.hds,⟨o,s _ _ ho⟩,⟨kvs,s _ _ a1,a2,λq hq=>?_⟩,⟨ts,by rw[old _ _ b2];exact b1,s _ _ b2,b3,λr t ρ e1 e2=>?_⟩,λa u h=>?_,h3⟩
 ·obtain⟨a,bs,g1,g2,g3,g4,g5⟩:=a3 q hq;exact⟨a,bs,g1,by rw[old _ _ g3];exact g2,s _ _ g3,g4,λe c hc=>⟨by rw[old _ _ (g5 e c hc).2];exact(g5 e c hc).1,s _ _ (g5 e c hc).2⟩⟩
 ·obtain⟨ds,g1,g2,g3,g4⟩:=b4 r t ρ e1 e2;refine⟨ds,by rw[old _ _ g2];exact g1,s _ _ g2,g3,λd u hu=>?_⟩;obtain⟨es,k1,k2,k3,k4⟩:=g4 d u hu;exact⟨es,by rw[old _ _ k2];exact k1,s _ _ k2,k3,λb c hc=>⟨by rw[old _ _ (k4 b c hc).2];exact(k4 b c hc).1,s _ _ (k4 b c hc).2⟩⟩
 ·rcases h2 a u h with h |⟨h,ns,e⟩
  ·obtain⟨h',ns,e⟩:=S.on a u h;exact⟨h',ns,s _ _ e⟩
  ·exact⟨S.sm.free h,ns,e⟩
theorem TSt.addOv (S:TSt T own ps H0 H O F K) {p:Str} (hp:p∉ps) {a:Addr} (h:OvAt H own T.n O p (some (.ref a))) {kvs:List (Key×V)} (hk:H T.ao=some (.dK kvs)) (hn:H0 T.ao=none):
  TSt T own (ps ++ [p]) H0 (upd H T.ao (.dK (ZR kvs (Sum.inr p) (.ref a)))) O F K:=by
 obtain⟨kvs',a1,a2,a3⟩:=S.hao;rw[hk]at a1;cases a1;obtain⟨ts,b1,b2,b3,b4⟩:=S.haf;obtain⟨o,ho⟩:=S.hab;have st:∀b w,(∀kvs,w≠.dK kvs)->H b=some w->upd H T.ao (.dK (ZR kvs (Sum.inr p) (.ref a))) b=some w:=λb w hw e=>by
  rw[YH (λz=>by rw[z,hk]at e;exact hw _ (YLP e).symm)];exact e
 have kp:∀{b:Addr}{xs:List V},H b=some (.lst xs)->upd H T.ao (.dK (ZR kvs (Sum.inr p) (.ref a))) b=some (.lst xs):=λe=>st _ _ (λ_ z=>nomatch z) e
 have hnone:Zf kvs (Sum.inr p)=none:=by
  cases e:Zf kvs (Sum.inr p) with
  |none=>rfl
  |some y=>
   have:(Sum.inr p:Key)∈kvs.map (·.1):=by
    unfold Zf at e;obtain⟨kv,h1,h2⟩:=YLX.mp e;have:=List.find?_some h1;exact YLL.mpr ⟨kv,YMW h1,YLM this⟩
   rw[a2]at this;obtain⟨q,h1,h2⟩:=YLL.mp this;cases h2;exact absurd h1 hp
 have kO:∀{q:Str}{v:Option V},OvAt H own T.n O q v->OvAt (upd H T.ao (.dK (ZR kvs (Sum.inr p) (.ref a)))) own T.n O q v:=λh=>by
  obtain⟨a',bs,g1,g2,g3,g4,g5⟩:=h;exact⟨a',bs,g1,g2,kp g3,g4,λe c hc=>⟨(g5 e c hc).1,kp (g5 e c hc).2⟩⟩
 refine⟨S.pl.upd rfl,S.sm.put hn,st _ _ (λ_ z=>nomatch z) S.hx,S.hl,S.hds,⟨o,st _ _ (λ_ z=>nomatch z) ho⟩,⟨_,YC,?_,λq hq=>?_⟩,⟨ts,b1,kp b2,b3,λr t ρ e1 e2=>?_⟩,λc u hc=>?_,S.uq⟩
 ·rw[L2.YFc _ hnone,YLE,YLE,a2];rfl
 ·rw[YBP]
  by_cases qQ:q=p
  ·rw[if_pos (by rw[qQ]),qQ];exact kO h
  ·rw[if_neg (λz=>qQ (Sum.inr.inj z))];rcases YLQ.mp hq with hq |hq
   ·exact kO (a3 q hq)
   ·exact absurd (YK4.mp hq) qQ
 ·obtain⟨ds,g1,g2,g3,g4⟩:=b4 r t ρ e1 e2;refine⟨ds,g1,kp g2,g3,λd u hu=>?_⟩;obtain⟨es,k1,k2,k3,k4⟩:=g4 d u hu;exact⟨es,k1,kp k2,k3,λb c hc=>⟨(k4 b c hc).1,kp (k4 b c hc).2⟩⟩
 ·obtain⟨h',ns,e⟩:=S.on c u hc;exact⟨h',ns,kp e⟩
theorem TSt.addFi (S:TSt T own ps H0 H O F K) {ρ:Y4} (hr:T.g[T.R]?=some ρ) {t:Addr} (h:FiAt H own T.n F K T.R (rch T.s ρ.2.1) t) {ts:List Addr} (hk:H T.af=some (.lst (ts.map V.ref))) (hn:H0 T.af=none):
  TSt { T with R:=T.R + 1 } own ps H0 (upd H T.af (.lst ((ts ++ [t]).map V.ref))) O F K:=by
 obtain⟨kvs,a1,a2,a3⟩:=S.hao;obtain⟨vV,b1,b2,b3,b4⟩:=S.haf;obtain⟨o,ho⟩:=S.hab;have ets:vV=ts:=by
  rw[hk]at b2;have:=HO.lst.inj (YLP b2);exact(YDP this).symm
 subst ets;have st:∀b w,(∀xs,w≠.lst xs)->H b=some w->upd H T.af (.lst ((vV ++ [t]).map V.ref)) b=some w:=λb w hw e=>by
  rw[YH (λz=>by rw[z,hk]at e;exact hw _ (YLP e).symm)];exact e
 have kp:∀{b:Addr}{w:HO},own b≠some .top->H b=some w->upd H T.af (.lst ((vV ++ [t]).map V.ref)) b=some w:=λhb e=>by
  rw[YH (λz=>hb (by rw[z];exact b1))];exact e
 have n1:∀{b:Addr},own b=none->own b≠some .top:=λh z=>by rw[h]at z;cases z
 have n2:∀{b:Addr}{p e},own b=some (.ov p e)->own b≠some .top:=λh z=>by rw[h]at z;cases z
 have n3:∀{b:Addr}{r d c},own b=some (.fi r d c)->own b≠some .top:=λh z=>by rw[h]at z;cases z
 have kF:∀{r R:Nat}{t':Addr},FiAt H own T.n F K r R t'->FiAt (upd H T.af (.lst ((vV ++ [t]).map V.ref))) own T.n F K r R t':=λh=>by
  obtain⟨ds,g1,g2,g3,g4⟩:=h;refine⟨ds,g1,kp (n1 g1) g2,g3,λd u hu=>?_⟩;obtain⟨es,k1,k2,k3,k4⟩:=g4 d u hu;exact⟨es,k1,kp (n1 k1) k2,k3,λb c hc=>⟨(k4 b c hc).1,kp (n3 (k4 b c hc).1) (k4 b c hc).2⟩⟩
 refine⟨S.pl.upd rfl,S.sm.put hn,st _ _ (λ_ z=>nomatch z) S.hx,S.hl,S.hds,⟨o,st _ _ (λ_ z=>nomatch z) ho⟩,⟨kvs,st _ _ (λ_ z=>nomatch z) a1,a2,λq hq=>?_⟩,⟨_,b1,YC,by rw[YK5,b3];rfl,λr t' ρ' e1 e2=>?_⟩,λc u hc=>?_,S.uq⟩
 ·obtain⟨a',bs,g1,g2,g3,g4,g5⟩:=a3 q hq;exact⟨a',bs,g1,g2,kp (n1 g2) g3,g4,λe c hc=>⟨(g5 e c hc).1,kp (n2 (g5 e c hc).1) (g5 e c hc).2⟩⟩
 ·rcases YLz r vV.length with hlt |hge
  ·rw[YLx hlt]at e1;exact kF (b4 r t' ρ' e1 e2)
  ·rw[YLl hge]at e1;have:r - vV.length=0:=by
    have:=(YKy.mp e1).1;simp only[YK6,YMG]at this
    lia
   rw[this]at e1;cases e1;have er:r=T.R:=by lia
   subst er;have e2:T.g[T.R]?=some ρ':=e2;rw[hr]at e2;cases e2;exact kF h
 ·obtain⟨h',xs,e⟩:=S.on c u hc
  by_cases hca:c=T.af
  ·subst hca;exact⟨h',_,YC⟩
  ·exact⟨h',xs,by rw[YH hca];exact e⟩
end
theorem YGR {J:It}{n:Nat}{item:Nat->V->Prop}{te:TE}{Q:VK}{H:Hp}{l:Addr}{τ:St} (j0:Nat) (rows:Nat->List Int) (hJ:YAU J n H item) (hp:YL H)
  (hl:H l=none) (hτ:j0 < τ.length) (hz:n<=sizeLine) (keep:St->Prop) (hk0:keep τ) (hks:∀τ' v,keep τ'->keep (τ'.set j0 v))
  (ht:∀(τ':St) (k:Nat) (x:V) (H':Hp) (R:VK),keep τ'->τ'[j0]?=some (some x)->item k x->k < n->YJ H H'->YL H'->(∀c H6,YJ H' H6->YL H6->H' c=none->H6 c=some (.lst ((rows k).map V.int))->R (.ref c) H6)->te τ' H' R)
  (hq:∀H',YJ H H'->YL H'->YAb H H' l rows n->Q (.ref l) H'):YA8 J (Yu j0) tYes te Q l τ H:=by
 refine YH0 n (λi ys τ' H2=>i<=n/\∃bs:List Addr,ys=bs.map V.ref/\bs.length=i/\j0 < τ'.length/\keep τ'/\YJ H H2/\YL H2/\H2 l=some (.lst (bs.map V.ref))/\∀(i:Nat) (c:Addr),bs[i]?=some c->H c=none/\c≠l/\H2 c=some (.lst ((rows i).map V.int))/\∀j,bs[j]?=some c->j=i)
  ⟨YLS _,[],Z,Z,hτ,hk0,YJ.upd hl,hp.upd rfl,YC,λi c e=>by cases e⟩ ?_ ?_
 ·rintro i ys τ' H2 N hlt ⟨hi,bs,rfl,Qv,hτ',hk',hs,hpl,hll,hb⟩ hN;obtain⟨hgo,_⟩:=hJ i _ hs;obtain⟨h1,h2⟩:=hgo hlt;refine⟨h1,λx H3 hy=>?_⟩;obtain⟨e,it⟩:=h2 x H3 hy;subst e;show te _ _ _;refine ht _ i x _ _ (hks _ _ hk') ?_ it hlt hs hpl λc H6 s6 p6 hc hc6=>?_
  ·rw[YMS hτ']
  ·have sJ:=s6 _ _ hll;have hcl:c≠l:=λz=>by rw[z,hll]at hc;cases hc
   obtain⟨t1,Qu,t2,t3,t4⟩:=YAb.snoc (rows:=rows) (N:=i) hl sJ Qv (λj c hj=>⟨(hb j c hj).1,(hb j c hj).2.1,s6 _ _ (hb j c hj).2.2.1,(hb j c hj).2.2.2⟩) (hs.free hc) hcl hc6 λj hj=>by rw[(hb j c hj).2.2.1]at hc;cases hc
   have e3:bs.map V.ref ++ [V.ref c]=(bs ++ [c]).map V.ref:=by rw[YLE];rfl
   have ebs:Qu=bs ++ [c]:=by
    rw[YC]at t2;exact(YDP (HO.lst.inj (YLP t2))).symm
   subst ebs;rw[e3];refine⟨sJ,by rw[YKu];lia,hN _ _ _ ⟨by lia,bs ++ [c],Z,t3,by rw[YMQ];exact hτ',hks _ _ hk',(hs.trans s6).put hl,p6.upd rfl,YC,t4⟩⟩
 ·rintro ys τ' H2 ⟨hi,bs,rfl,Qv,hτ',hk',hs,hpl,hll,hb⟩;obtain⟨_,hst⟩:=hJ n _ hs;exact⟨hst,hq H2 hs hpl ⟨hl,bs,hll,Qv,hb⟩⟩
section
variable {T:Tol}{own bc:Addr->Option XV}{ps:List Str}{H0 H H':Hp}{O:OvF}{F:FiF}{K:Nat->Nat->Nat->Nat}
theorem TSt.free_ (S:TSt T own ps H0 H O F K) {a:Addr} (h:H a=none):own a=none:=by
 cases e:own a with
 |none=>rfl
 |some u=>
  obtain⟨_,xs,e'⟩:=S.on a u e;rw[h]at e';cases e'
theorem TSt.newTab (S:TSt T own ps H0 H O F K) (s:YJ H H') (pl:YL H') {a:Addr}{rows:Nat->List Int}{N:Nat} (tb:YAb H H' a rows N) (tg:Nat->XV) (inj:∀i j,tg i=tg j->i=j) (hnew:∀c i,own c≠some (tg i)):
  ∃bc,TSt T bc ps H0 H' O F K/\bc a=none/\(∃bs:List Addr,H' a=some (.lst (bs.map V.ref))/\bs.length=N/\∀(i:Nat) (c:Addr),bs[i]?=some c->bc c=some (tg i)/\H' c=some (.lst ((rows i).map V.int)))/\
   (∀c w,bc c=some w->own c=some w\/∃i,w=tg i)/\∀c,H c≠none->bc c=own c:=by
 obtain⟨ha,bs,h1,h2,h3⟩:=tb;obtain⟨bc,o1,o2⟩:=YIJ own (λc u=>∃i:Nat,bs[i]?=some c/\u=tg i) λc u u' ⟨i,e1,e2⟩ ⟨j,e3,e4⟩=>by
  rw[e2,e4,(h3 i c e1).2.2.2 j e3]
 have out:∀c,H c≠none->bc c=own c:=λc hc=>o2 c λu ⟨i,e1,_⟩=>hc (h3 i c e1).1
 have cs:∀c w,bc c=some w->own c=some w\/∃i:Nat,bs[i]?=some c/\w=tg i:=λc w e=>by
  by_cases hc:∃i:Nat,bs[i]?=some c
  ·obtain⟨i,hi⟩:=hc;rw[o1 c _ ⟨i,hi,Z⟩]at e;cases e;exact .inr ⟨i,hi,Z⟩
  ·rw[o2 c λu ⟨i,e1,_⟩=>hc ⟨i,e1⟩]at e;exact .inl e
 refine⟨bc,S.lay s pl out (λc w e=>?_) (λc c' w e e'=>?_),?_,⟨bs,h1,h2,λi c hc=>⟨o1 c _ ⟨i,hc,Z⟩,(h3 i c hc).2.2.1⟩⟩,λc w e=>(cs c w e).imp id λ⟨i,_,e⟩=>⟨i,e⟩,out⟩
 ·rcases cs c w e with e |⟨i,e1,_⟩
  ·exact .inl e
  ·exact .inr ⟨(h3 i c e1).1,_,(h3 i c e1).2.2.1⟩
 ·rcases cs c w e with e |⟨i,e1,e2⟩
  ·rcases cs c' w e' with e' |⟨j,e3,e4⟩
   ·exact S.uq c c' w e e'
   ·exact absurd (e4 ▸ e) (hnew c j)
  ·rcases cs c' w e' with e' |⟨j,e3,e4⟩
   ·exact absurd (e2 ▸ e') (hnew c' i)
   ·have:i=j:=inj i j (e2.symm.trans e4);subst this;rw[e1]at e3;cases e3;rfl
 ·rw[o2 a λu ⟨i,e1,_⟩=>(h3 i a e1).2.1 rfl];exact S.free_ ha
theorem YAb.del {a t:Addr}{rows:Nat->List Int}{N:Nat} (h:YAb H H' a rows N) (ht:H t≠none):YAb (L2.del H t) (L2.del H' t) a rows N:=by
 obtain⟨ha,bs,h1,h2,h3⟩:=h;have ne:∀{c},H c=none->c≠t:=λhc z=>ht (z ▸ hc)
 refine⟨by rw[Z8 (ne ha)];exact ha,bs,by rw[Z8 (ne ha)];exact h1,h2,λi c hc=>?_⟩;obtain⟨g1,g2,g3,g4⟩:=h3 i c hc;exact⟨by rw[Z8 (ne g1)];exact g1,g2,by rw[Z8 (ne g1)];exact g3,g4⟩
theorem YGA.owns {n r d:Nat}{u:Addr} (h:YGA H own n F K r d u) (s:YJ H H') (k:∀c,H c≠none->bc c=own c):YGA H' bc n F K r d u:=by
 obtain⟨es,h1,h2,h3,h4⟩:=h;have kk:∀{c o},H c=some o->bc c=own c:=λe=>k _ (by rw[e];exactλz=>nomatch z)
 exact⟨es,by rw[kk h2];exact h1,s _ _ h2,h3,λe c hc=>⟨by rw[kk (h4 e c hc).2];exact(h4 e c hc).1,s _ _ (h4 e c hc).2⟩⟩
def TgOk (own:Addr->Option XV) (ps:List Str) (R D:Nat):Prop:=(∀c p e,own c=some (.ov p e)->p∈ps)/\∀c r d b,own c=some (.fi r d b)->r < R\/(r=R/\d < D)
end
theorem TSt.more {T:Tol}{own:Addr->Option XV}{ps:List Str}{H0 H H':Hp}{O:OvF}{F:FiF}{K:Nat->Nat->Nat->Nat}{R D:Nat} (S:TSt T own ps H0 H O F K) (tg:TgOk own ps R D) (s:YJ H H') (pl:YL H') {a:Addr}{p:Str} (tb:YAb H H' a (ovR O p) (T.n + 1)) (hp:p∉ps)
  {kvs:List (Key×V)} (hk:H T.ao=some (.dK kvs)) (hn:H0 T.ao=none):∃bc,TSt T bc (ps ++ [p]) H0 (upd H' T.ao (.dK (ZR kvs (Sum.inr p) (.ref a)))) O F K/\TgOk bc (ps ++ [p]) R D:=by
 obtain⟨bc,S',h1,⟨bs,h2,h3,h4⟩,h5,h6⟩:=S.newTab s pl tb (λe=>.ov p e) (λi j e=>by cases e;rfl) λc i e=>hp (tg.1 c p i e)
 refine⟨bc,S'.addOv hp ⟨a,bs,Z,h1,h2,h3,h4⟩ (s _ _ hk) hn,λc q e hc=>?_,λc r d b hc=>?_⟩
 ·rcases h5 c _ hc with h |⟨i,h⟩
  ·exact YLd _ (tg.1 c q e h)
  ·cases h;exact YLH _ (YK4.mpr rfl)
 ·rcases h5 c _ hc with h |⟨i,h⟩
  ·exact tg.2 c r d b h
  ·cases h
def YDQ (g:Yy) (s:Sz) (ps:List Str):Prop:=ps.Nodup/\(∀p∈ps,okP s p=true)/\(∀h v,look s h=some v->h∈ps)/\(∀ρ∈g,∀p∈ρ.2.1,isQ p=true->p∈ps)/\∀p∈ps,isQ p=true->∃ρ∈g,p∈ρ.2.1
def PsI (g:Yy) (s:Sz) (ps qs:List Str):Prop:=ps.Nodup/\(∀p∈ps,okP s p=true)/\(∀h v,look s h=some v->h∈ps)/\(∀p∈qs,isQ p=true->p∈ps)/\∀p∈ps,isQ p=true->∃ρ∈g,p∈ρ.2.1
theorem PsI.more {g:Yy}{s:Sz}{ps qs:List Str} (h:PsI g s ps qs) {c:Str} (hc:isQ c=true->c∈ps):PsI g s ps (qs ++ [c]):=
 ⟨h.1,h.2.1,h.2.2.1,λp hp hq=>by
  rcases YLQ.mp hp with hp |hp
  ·exact h.2.2.2.1 p hp hq
  ·rw[YK4.mp hp]at hq ⊢;exact hc hq,h.2.2.2.2⟩
theorem PsI.new {g:Yy}{s:Sz}{ps qs:List Str} (h:PsI g s ps qs) {c:Str} (hc:c∉ps) (hq:isQ c=true) (hg:∃ρ∈g,c∈ρ.2.1):PsI g s (ps ++ [c]) (qs ++ [c]):=by
 have in1:∀p∈ps ++ [c],p∈ps\/p=c:=λp hp=>(YLQ.mp hp).imp id YK4.mp
 refine⟨YBX h.1 hc,λp hp=>?_,λz v hz=>YLd _ (h.2.2.1 z v hz),λp hp hp'=>?_,λp hp hp'=>?_⟩
 ·rcases in1 p hp with hp |rfl
  ·exact h.2.1 p hp
  ·unfold okP;rw[hq];rfl
 ·rcases YLQ.mp hp with hp |hp
  ·exact YLd _ (h.2.2.2.1 p hp hp')
  ·exact YLH _ hp
 ·rcases in1 p hp with hp |rfl
  ·exact h.2.2.2.2 p hp hp'
  ·exact hg
theorem YEU:∀{g:Yy},(∀r∈g,r.2.1.length<=6)->(g.flatMap (·.2.1)).length<=6 * g.length
 |[],_=>YKv _
 |r :: g,h=>by
  have h1:=h r (YLJ ..);have h2:=YEU λx hx=>h x (YLA _ hx)
  rw[YMc,YK5,YK6]
  lia
theorem PsI.len {g:Yy}{q:Int}{s:Sz}{ps qs:List Str} (h:PsI g s ps qs) (hg:Y5 g=true) (hs:YAW g q s):ps.length<=420:=by
 have:=YEJ (ys:=s.map (·.1) ++ g.flatMap (·.2.1)) h.1 λp hp=>by
  cases hq:isQ p with
  |true=>
   obtain⟨r,h1,h2⟩:=h.2.2.2.2 p hp hq;exact YLH _ (List.mem_flatMap.mpr ⟨r,h1,h2⟩)
  |false=>
   have:=h.2.1 p hp;unfold okP at this;rw[hq,YMT]at this;obtain⟨v,hv⟩:=YLZ.mp this;exact YLd _ (YLL.mpr ⟨_,Xx hv,Z⟩)
 have h1:=hs.len;have h2:=YEU (g:=g) λr hr=>(JL hg hr).2.1
 have h3:=YAs hg;rw[YK5,YKu]at this
 lia
theorem YKd {H:Hp}{t:Addr} (h:H t=none):L2.del H t=H:=by
 funext b
 by_cases hb:b=t
 ·rw[hb,YFk,h]
 ·rw[Z8 hb]
theorem YL.del {H:Hp} (h:YL H) (t:Addr):YL (L2.del H t):=λa o e=>h a o (ZI H t a o e)
structure YB9 (C:Addr) (T:Tol):Prop where
 c:T.C=C
 g:Y5 T.g=true
 s:YAW T.g T.put T.s
 fx:Fix T.g T.put T.s
 n:T.n<=60
 t:T.t.length=T.n
 r:T.R=T.g.length
 cut:T.cut.natAbs < 2 ^ 4000
 cut0:0<=T.cut
 put0:0<=T.put
 sw0:0<=T.swap
structure LPre (T:Tol) (H0 H:Hp):Prop where
 hx:H T.x=some (.ins T.C T.dx T.fld)
 sm:YJ H0 H
 pl:YL H
 ab:H T.ab=some (.dK (szD T.s))
 ao:H T.ao=some (.dK [])
 ne:T.ab≠T.ao
 af:H T.af=some (.lst [])
 nx:H0 T.x=none
 nb:H0 T.ab=none
 no:H0 T.ao=none
 nf:H0 T.af=none
 l:H0 T.l=some (.lst T.xs)
 ds:Ya H0 T.xs (T.g.map ZF)
inductive YEV (C:Addr) (vs:List V) (H:Hp) (Q:VK):Prop where
 |mk (T:Tol) (H0:Hp) (aX:vs=[.ref T.x]) (aY:YB9 C T) (bU:LPre T H0 H) (cN:∀own ps H',TSt T own ps H0 H' (ovO T) noF noK->YDQ T.g T.s ps->Q .non H'):YEV C vs H Q
def YGS (C:Addr):Sp:=λvs H Q E_=>YEV C vs H Q
section
variable {P:Program}{w:World}{K:W.Frag}{mg:Str->Option Value}{base:Heap}{C:Adr}
theorem Yr:YW ["self","places","head","rule","part","table","done"] ["self"] (YK Jh):=⟨Z,Z,Z,by decide +kernel,Z,by decide +kernel,by decide +kernel⟩
theorem YBb {f:Addr}{fd:FuncData} (F:Fun K "lay_out" "Toller.lay_out" Jh f fd) (T:Txt K mg C) (bf:Js P w K mg CX0 2 C.Toller "sign_table" ["self","sign"] (YES C.Toller)) (bI:Js P w K mg CX0 1 C.Toller "reach_of" ["self","rule"] (YET C.Toller)):Yw P w K mg base CX0 3 f fd ["self"] (YGS C.Toller):=by
 obtain⟨mO,lR,dW,du,dX⟩:=bf.ok;obtain⟨pA,nH,gQ,gq,gR⟩:=bI.ok;refine F.ok Yr (λvs H Q E h=>?_) (λaO A outer s H vs Q E hr h=>?_)
 ·cases h;subst_vars;rfl
 ·obtain⟨S,H0,rfl,pre,lp,q⟩:=h;have hu:=Zw hr;refine qex ?_;refine⟨_,(YE ⟨(YQ (i:=1) Yr.nd rfl (Or.inl rfl) (YI Yh (YR Yo (by rfl) T.aL YK7 (YA (YT K rfl (pv 0) rfl) YD)) YB))⟩
   (YE ⟨(Y2 PassesOwn.never rfl (YIG (YT K rfl (pv 0) rfl)) (YU (i:=2) Yr.nd rfl (Or.inl rfl)) (YG (YAr hu (YT K rfl (pv 0) rfl) (pv 2) (Z2 (N:=["end"]) (ρ:=[none]) (cl:=[]) rfl (Yi.plain rfl (by decide +kernel) (by decide +kernel) rfl (by simp)) (Zb rfl T.aQ (YA (pv 1) YD)) (λ_ _ _ _ _=>(YU (i:=0) YHd rfl (Or.inl rfl) (.inr rfl))) (λ_ _ _ _ _=>Zs) (λ_ _ _ _ _=>(YI YBr (ZH (YA YB YD)) (YI Yh (pv 0) YB)))) rfl)))⟩
   (YE ⟨(Y2 PassesOwn.never rfl (JU K rfl (YT K rfl (pv 0) rfl)) (YU (i:=3) Yr.nd rfl (Or.inl rfl)) (YG (Y2 PassesOwn.never rfl (YBT K rfl (YM (YN K rfl) (pv 3) YB (λ_ _=>rfl))) (YU (i:=4) Yr.nd rfl (Or.inl rfl)) (YG (Y1 (PW.pt (YBk (Z7 (Ze K rfl YL7 YMN YMM Zu (pv 4) (YA Y0 YD))) (YAp (YEn (YAq hu (pv 4) (YT K rfl (pv 0) rfl)))))) (YG (YAr hu (YT K rfl (pv 0) rfl) (pv 4) (Zh (pv 0) T.aa du (dW base) (hr.mono (by decide)) dX .nil Yj (YA (pv 4) YD)) rfl)) Yd)))))⟩
   (Y7 ⟨(Y2 PassesOwn.never rfl (JU K rfl (YT K rfl (pv 0) rfl)) (YU (i:=3) Yr.nd rfl (Or.inl rfl)) (YO (YQ (i:=5) Yr.nd rfl (Or.inl rfl) (ZH YD))
   (YO (Y2 PassesOwn.never rfl (Zb rfl T.aQ (YA (YI Yh (Zh (pv 0) T.aa gq (gQ base) (hr.mono (by decide)) gR .nil Yj (YA (pv 3) YD)) YB) YD)) (YU (i:=6) Yr.nd rfl (Or.inl rfl)) (YG (Y6 (Ze K rfl YLT YLi YLh ZP (pv 5) (YA (Z2 (N:=["begin"]) (ρ:=[none]) (cl:=[]) rfl (Yi.plain rfl (by decide +kernel) (by decide +kernel) rfl (by simp)) (Zb rfl T.aQ (YA (pv 1) YD)) (λ_ _ _ _ _=>(YU (i:=0) YFG rfl (Or.inl rfl) (.inr rfl))) (λ_ _ _ _ _=>Zs) (λ_ _ _ _ _=>(ZH YD))) YD)))))
   (YG (Y6 (Ze K rfl YLT YLi YLh ZP (YT K rfl (pv 0) rfl) (YA (pv 5) YD)))))))⟩)))),?_⟩
  have line:∀k:Nat,k<=61->k<=sizeLine:=λk hk=>YLU hk (YF (by decide))
  have hn:=pre.n;have uF:=pre.t;have hx:H S.x=some (.ins C.Toller S.dx S.fld):=by rw[<-pre.c];exact lp.hx
  obtain⟨S0,eS0⟩:∃S0:Tol,{ S with R:=0 }=S0:=⟨_,Z⟩;have hxT:∀{own ps H' O F K},TSt S0 own ps H0 H' O F K->H' S.x=some (.ins C.Toller S.dx S.fld):=λh=>by rw[<-pre.c];have:=h.hx;rw[<-eS0]at this;exact this
  have eao:S0.ao=S.ao:=by rw[<-eS0]
  have en:S0.n=S.n:=by rw[<-eS0]
  refine⟨_,Z,S.x,C.Toller,S.dx,_,_,Z,hx,T.aa,T.aU,Z,_,Z,line _ (by lia),_,_,Z,Z,?_⟩;have epl:((S.t.length:Int) + 1)=((S.n + 1:Nat):Int):=by rw[uF];rfl
  refine⟨_,Z,S.x,C.Toller,S.dx,_,_,Z,hx,T.aa,T.aV,Z,S.ab,_,Z,lp.ab,λo=>?_⟩;have nameQ:∀h v,look S.s h=some v->isQ h=false:=λh v hl=>by
   obtain⟨r,hr,e,_⟩:=pre.s.hd h v hl;rw[<-e];exact YAv (JL pre.g hr).1
  refine YBz (Pv:=λi σ H2=>H2 S.ab=some (.frz o (.dK (szD S.s)))/\∃own v2,σ=[some (.ref S.x),some (.int ((S.t.length:Int) + 1)),v2,none,none,none,none]/\TSt S0 own ((S.s.map (·.1)).take i) H0 H2 (ovO S) noF noK/\TgOk own ((S.s.map (·.1)).take i) 0 0) ?_ (λi σ H2 _ h=>h.1) ?_ ?_
  ·have nb:∀{b w},(∀kvs,w≠.dK kvs)->H b=some w->upd H S.ab (.frz o (.dK (szD S.s))) b=some w:=λhw e=>by
    rw[YH (λz=>by rw[z,lp.ab]at e;exact hw _ (YLP e).symm)];exact e
   obtain⟨own,o1,o2⟩:=YIJ (λ_=>none) (λc u=>c=S.af/\u=.top) λc u u' h h'=>h.2.trans h'.2.symm
   have only:∀c u,own c=some u->c=S.af/\u=.top:=λc u e=>by
    by_cases hc:c=S.af
    ·rw[o1 c .top ⟨hc,Z⟩]at e;cases e;exact⟨hc,Z⟩
    ·rw[o2 c λu h=>hc h.1]at e;cases e
   refine⟨YC,own,none,Z,?_,⟨(λc p e h=>by cases (only c _ h).2),λc r d b h=>by cases (only c _ h).2⟩⟩;rw[YMV,<-eS0];refine⟨lp.pl.upd rfl,lp.sm.put lp.nb,nb (λ_ z=>nomatch z) lp.hx,lp.l,lp.ds,⟨o,YC⟩,⟨[],?_,Z,λp hp=>by cases hp⟩,⟨[],o1 _ _ ⟨Z,Z⟩,nb (λ_ z=>nomatch z) lp.af,Z,λr t ρ e=>by cases e⟩,λc u h=>?_,λc c' u h h'=>(only c u h).1.trans (only c' u h').1.symm⟩
   ·rw[YH lp.ne.symm];exact lp.ao
   ·rw[(only c u h).1];exact⟨lp.nf,_,nb (λ_ z=>nomatch z) lp.af⟩
  ·rintro i kv σ H2 hkv ⟨hab,own,v2,rfl,st,tg⟩;obtain⟨h,v,ehv,rfl⟩:∃h v,S.s[i]?=some (h,v)/\kv=(Sum.inr h,V.int v):=by
    unfold szD at hkv;rw[YK1]at hkv;obtain⟨y,h1,h2⟩:=YLX.mp hkv;exact⟨y.1,y.2,h1,h2.symm⟩
   have hlk:look S.s h=some v:=Xd pre.s.nd (YKw ehv);have hq:=nameQ h v hlk;obtain⟨kvs,k1,k2,k3⟩:=st.hao;rw[eao]at k1;refine⟨_,Z,((S.n + 1:Nat):Int),by rw[epl],by lia,by lia,λa ha=>?_⟩;refine YGR (n:=S.n + 1) 0 (ovR (ovO S) h) JQ st.pl ha (show 0 < 1 by decide) (line _ (by lia)) (λτ'=>∃v,τ'=[v]) ⟨_,Z⟩ (λτ' v ⟨_,e⟩=>⟨v,by rw[e];rfl⟩) ?_ ?_
   ·rintro τ' k y H' R ⟨v,rfl⟩ hτ rfl hk hs hp' hR;cases hτ;refine⟨line _ (by decide),λc1 hc1=>⟨_,Z,_,_,Z,Z,c1,((k + 1:Nat):Int),_,Z,by rw[YLr];rfl,YC,by lia,by lia,?_,λc hc=>hR c _ ((YJ.upd hc1).trans (YJ.upd hc)) ((hp'.upd rfl).upd rfl) ((YJ.upd hc1).free hc) ?_⟩⟩
    ·show 1 * (k + 1)<=sizeLine;exact line _ (by lia)
    ·rw[YC];congr 2;have e0:∀b,ovO S h b k=0:=λb=>if_neg (by rw[hq];exact YLD)
     show(List.replicate (k + 1) [V.int 0]).flatten=((List.range (k + 1)).map λb=>ovO S h b k).map V.int;rw[YL2,List.flatten_replicate_singleton];refine(YGP (by rw[YLV]) λj y hj=>?_);have:=YKw hj;rw[List.mem_replicate]at this;rw[this.2];show _=V.int (ovO S h j k);rw[e0]
   ·intro H' s' p' tb;have hnd:h∉(S.s.map (·.1)).take i:=YCg pre.s.nd (by rw[YK1,ehv];rfl);obtain⟨bc,st',Qw⟩:=st.more tg s' p' (by rw[en];exact tb) hnd (by rw[eao];exact k1) (by rw[eao];exact lp.no);have e2:(S.s.map (·.1)).take (i + 1)=(S.s.map (·.1)).take i ++ [h]:=by rw[YLn,YK1,ehv];rfl
    rw[eao]at st';refine⟨_,Z,S.x,C.Toller,S.dx,_,_,Z,s' _ _ (hxT st),T.aa,T.az,Z,_,Z,S.ao,_,Z,YBs.k (k:=Sum.inr h) (s' _ _ k1) ?_,?_,bc,_,Z,by rw[e2];exact st',by rw[e2];exact Qw⟩
    ·have:=YL5 List.length k2;rw[YKu,YKu,YL3,YKu]at this;have:=pre.s.len;have:=YAs pre.g;exact YLG (show kvs.length < 1000 by lia) (YF (YKv _))
    ·rw[YH lp.ne];exact s' _ _ hab
  ·rintro σ H2 ⟨hab,own,v2,rfl,st,tg⟩;have etk:(S.s.map (·.1)).take (szD S.s).length=S.s.map (·.1):=YL8 (by unfold szD;rw[YKu,YKu];exact YKv _);rw[etk]at st tg;have exs:S.xs.length=S.g.length:=by rw[lp.ds.len,YKu]
   have m6:=YAs pre.g;have ruleAt:∀{own ps T' H2},TSt T' own ps H0 H2 (ovO S) noF noK->∀{i:Nat}{y:V},S.xs[i]?=some y->∃r t p,S.g[i]?=some r/\y=.ref t/\H2 t=some (.tup [.str r.1,.ref p,.int r.2.2])/\H2 p=some (.tup (r.2.1.map V.str)):=λst i y hi=>by
    obtain⟨r,t,p,h1,h2,h3,h4⟩:=Xc lp.ds hi;exact⟨r,t,p,h1,h2,st.sm _ _ h3,st.sm _ _ h4⟩
   refine⟨_,Z,S.x,C.Toller,S.dx,_,_,Z,hxT st,T.aa,T.aC,Z,S.l,Z,⟨_,SqL.of (st.sm _ _ lp.l)⟩,J9 (K:=K) (a:=S.l) (xs:=S.xs) (λi σ H2=>∃own ps v2 v3 v4,σ=[some (.ref S.x),some (.int ((S.t.length:Int) + 1)),v2,v3,v4,none,none]/\TSt S0 own ps H0 H2 (ovO S) noF noK/\TgOk own ps 0 0/\PsI S.g S.s ps ((S.g.take i).flatMap (·.2.1)))
    ⟨own,_,_,_,_,Z,st,tg,pre.s.nd,λp hp=>?_,λh v hl=>YLL.mpr ⟨_,Xx hl,Z⟩,λp hp=>by(rw[YMV]at hp;cases hp),λp hp hq=>?_⟩ ?_ ?_ ?_⟩
   ·obtain⟨y,hy,rfl⟩:=YLL.mp hp;unfold okP;rw[Xd pre.s.nd hy,nameQ _ _ (Xd pre.s.nd hy)];rfl
   ·obtain⟨y,hy,rfl⟩:=YLL.mp hp;rw[nameQ _ _ (Xd pre.s.nd hy)]at hq;cases hq
   ·rintro i σ H2 _ ⟨own,ps,v2,v3,v4,rfl,st,_⟩;exact SqL.of (st.sm _ _ lp.l)
   ·rintro i y σ H2 hi ⟨own,ps,v2,v3,v4,rfl,st,tg,psi⟩;obtain⟨r,t,p,er,rfl,ht,hp⟩:=ruleAt st hi;have hrm:=YKw er;refine⟨_,Z,t,_,1,_,Z,Z,SqT.of ht,Z,p,Z,⟨_,SqT.of hp⟩,YEq (K:=K) (a:=p) (xs:=r.2.1.map V.str) (λj σ H2=>H2 p=some (.tup (r.2.1.map V.str))/\∃own ps v4,σ=[some (.ref S.x),some (.int ((S.t.length:Int) + 1)),v2,some (.ref t),v4,none,none]/\TSt S0 own ps H0 H2 (ovO S) noF noK/\TgOk own ps 0 0/\PsI S.g S.s ps ((S.g.take i).flatMap (·.2.1) ++ r.2.1.take j))
     ⟨hp,own,ps,_,Z,st,tg,by rw[YMV,YLa];exact psi⟩ ?_ ?_ ?_⟩
    ·rintro j σ H2 _ ⟨hp,_⟩;exact SqT.of hp
    ·rintro j y σ H2 hj ⟨hp,own,ps,v4,rfl,st,tg,psi⟩;rw[YK1]at hj;obtain⟨c,ec,rfl⟩:=YLX.mp hj;have uD:=YKw ec;have et:(S.g.take i).flatMap (·.2.1) ++ r.2.1.take (j + 1)=((S.g.take i).flatMap (·.2.1) ++ r.2.1.take j) ++ [c]:=by rw[YLn,ec,YLe];rfl
     refine⟨_,Z,Z,_,_,Z,Z,_,Z,?_⟩;cases hq:isQ c with
     |false=>
      have hq':Txt.startswith c "'"=false:=hq;rw[hq'];exact Y3 (Y3 ⟨hp,own,ps,_,Z,st,tg,by rw[et];exact psi.more λz=>by rw[hq]at z;cases z⟩)
     |true=>
      have hq':Txt.startswith c "'"=true:=hq;rw[hq'];obtain⟨kvs,k1,k2,k3⟩:=st.hao;rw[eao]at k1;refine ZO ⟨_,Z,_,Z,S.x,C.Toller,S.dx,_,_,Z,hxT st,T.aa,T.az,Z,S.ao,_,Z,XT.k (k:=Sum.inr c) k1,_,Z,?_⟩;cases hv:Zf kvs (Sum.inr c) with
      |some y=>
       have hm:(Sum.inr c:Key)∈kvs.map (·.1):=by
        unfold Zf at hv;obtain⟨kv,h1,h2⟩:=YLX.mp hv;have:=List.find?_some h1;exact YLL.mpr ⟨kv,YMW h1,YLM this⟩
       rw[k2]at hm;obtain⟨z,h1,h2⟩:=YLL.mp hm;cases h2;exact Y3 ⟨hp,own,ps,_,Z,st,tg,by rw[et];exact psi.more λ_=>h1⟩
      |none=>
       have Wv:c∉ps:=λhm=>by
        obtain⟨a,bs,g1,_⟩:=k3 c hm;rw[hv]at g1;cases g1
       refine ZO ⟨_,Z,S.x,S.dx,_,Z,hxT st,Z,_,Z,S,c,Z,hxT st,hn,uF,YGQ ((JL pre.g hrm).2.2 c uD) hq,pre.cut,st.pl,λa H' s' p' tb=>?_⟩;have eO:ovR (sgT S.t S.put S.cut S.swap) c=ovR (ovO S) c:=by
        funext e;unfold ovR;refine YMA λb _=>?_
        exact(if_pos hq).symm
       rw[eO]at tb;obtain⟨bc,st',Qw⟩:=st.more tg s' p' (by rw[en];exact tb) Wv (by rw[eao];exact k1) (by rw[eao];exact lp.no);rw[eao]at st';have hpl:=psi.len pre.g pre.s;refine⟨_,Z,S.x,C.Toller,S.dx,_,_,Z,s' _ _ (hxT st),T.aa,T.az,Z,_,Z,S.ao,_,Z,YBs.k (k:=Sum.inr c) (s' _ _ k1) ?_,?_,bc,ps ++ [c],_,Z,st',Qw,by rw[et];exact psi.new Wv hq ⟨r,hrm,uD⟩⟩
       ·have:=YL5 List.length k2;rw[YKu,YKu]at this;exact YLG (show kvs.length < 1000 by lia) (YF (YKv _))
       ·rw[YH (YDs (s' _ _ hp) (s' _ _ k1) nofun)];exact s' _ _ hp
    ·rintro σ H2 ⟨hp,own,ps,v4,rfl,st,tg,psi⟩;rw[YKu,YL9]at psi;have et:(S.g.take (i + 1)).flatMap (·.2.1)=(S.g.take i).flatMap (·.2.1) ++ r.2.1:=by rw[YLn,er,List.flatMap_append];simp
     exact⟨own,ps,_,_,_,Z,st,tg,by rw[et];exact psi⟩
   ·rintro σ H2 ⟨own,ps,v2,v3,v4,rfl,st,tg,psi⟩;rw[exs,YL9]at psi;have Qx:∀{i own H' O F K},TSt { S with R:=i } own ps H0 H' O F K->H' S.x=some (.ins C.Toller S.dx S.fld):=λh=>by rw[<-pre.c];exact h.hx
    refine⟨_,Z,S.x,C.Toller,S.dx,_,_,Z,hxT st,T.aa,T.aC,Z,S.l,Z,⟨_,SqL.of (st.sm _ _ lp.l)⟩,J9 (K:=K) (a:=S.l) (xs:=S.xs) (λi σ H2=>∃own v3 v5 v6,σ=[some (.ref S.x),some (.int ((S.t.length:Int) + 1)),v2,v3,v4,v5,v6]/\TSt { S with R:=i } own ps H0 H2 (ovO S) noF noK/\TgOk own ps i 0)
     ⟨own,_,_,_,Z,by rw[<-eS0]at st;exact st,tg⟩ ?_ ?_ ?_⟩
    ·rintro i σ H2 _ ⟨own,v3,v5,v6,rfl,st,_⟩;exact SqL.of (st.sm _ _ lp.l)
    ·rintro i y σ H2 hi ⟨own,v3,v5,v6,rfl,st,tg⟩;obtain⟨r,t,p,er,rfl,ht,hp⟩:=ruleAt st hi;have hrm:=YKw er;have h6:=(JL pre.g hrm).2.1;have vR:=Xi S.s r.2.1;refine⟨YLS _,λa ha=>?_⟩;have ua:∀{b w},H2 b=some w->upd H2 a (.lst []) b=some w:=λe=>by rw[YH (YV e ha)];exact e
     obtain⟨ob,hob⟩:=st.hab;refine⟨_,Z,S.x,S.dx,_,Z,ua (Qx st),Z,_,Z,S,t,p,r,Z,ua (Qx st),.inr ⟨ob,ua hob⟩,ua ht,ua hp,_,_,Z,Z,((rch S.s r.2.1 + 1:Nat):Int),Z,by lia,by lia,?_⟩;refine JP (lo:=0) (n:=rch S.s r.2.1 + 1) (λd σ H3=>∃own ds v6,σ=[some (.ref S.x),some (.int ((S.t.length:Int) + 1)),v2,some (.ref t),v4,some (.ref a),v6]/\TSt { S with R:=i } own ps H0 (del H3 a) (ovO S) noF noK/\TgOk own ps i d/\YL H3/\H3 a=some (.lst (ds.map V.ref))/\ds.length=d/\∀(d':Nat) u,ds[d']?=some u->YGA (del H3 a) own S.n noF noK i d' u)
      ⟨own,[],_,Z,by rw[YAA,YKd ha];exact st,tg,st.pl.upd rfl,YC,Z,λd' u e=>by cases e⟩ ?_ ?_
     ·rintro d σ H3 hd ⟨own,ds,v6,rfl,st,tg,p3,h3,hdl,Qy⟩;refine⟨_,Z,.inl ⟨Z,_,SqL.of h3⟩,_,Z,((S.n + 1:Nat):Int),by rw[epl],by lia,by lia,λu hu=>?_⟩;refine YGR (n:=S.n + 1) 0 (λ_=>[]) JQ p3 hu (show 0 < 1 by decide) (line _ (by lia)) (λ_=>True) trivial (λ_ _ _=>trivial) ?_ ?_
      ·intro τ' k y H' R _ _ _ _ _ hp' hR;exact⟨YLS _,λc hc=>hR c _ (YJ.upd hc) (hp'.upd rfl) hc YC⟩
      ·intro H6 s6 p6 tb;have jX:u≠a:=λz=>by rw[z,h3]at hu;cases hu
       obtain⟨bc,st',g1,⟨bs,g2,g3,g4⟩,g5,g6⟩:=st.newTab (s6.del a) (YL.del p6 a) (tb.del (by rw[h3];exactλz=>nomatch z)) (λb=>.fi i d b) (λb b' e=>by cases e;rfl) λc b e=>by
        rcases tg.2 c i d b e with h |⟨_,h⟩ <;> lia
       refine⟨a,_,_,Z,Z,s6 _ _ h3,YLG (show(ds.map V.ref).length < 1000 by rw[YKu];lia) (YF (YKv _)),?_⟩;have e3:ds.map V.ref ++ [V.ref u]=(ds ++ [u]).map V.ref:=by rw[YLE];rfl
       rw[e3];refine⟨bc,ds ++ [u],_,Z,by rw[YAA];exact st',⟨λc q e h=>?_,λc r' d' b h=>?_⟩,p6.upd rfl,YC,by rw[YK5,hdl];rfl,λd' u' e=>?_⟩
       ·rcases g5 c _ h with h |⟨_,h⟩
        ·exact tg.1 c q e h
        ·cases h
       ·rcases g5 c _ h with h |⟨_,h⟩
        ·rcases tg.2 c r' d' b h with h |⟨h1,h2⟩
         ·exact .inl h
         ·exact .inr ⟨h1,by lia⟩
        ·cases h;exact .inr ⟨Z,by lia⟩
       ·rw[YAA];rcases YLz d' ds.length with hlt |hge
        ·rw[YLx hlt]at e;exact(Qy d' u' e).owns (s6.del a) g6
        ·rw[YLl hge]at e;have:d' - ds.length=0:=by
          have:=(YKy.mp e).1;simp only[YK6,YMG]at this
          lia
         rw[this]at e;cases e;have:d'=d:=by lia
         subst this;exact⟨bs,g1,g2,g3,g4⟩
     ·rintro σ H3 ⟨own,ds,v6,rfl,st,tg,p3,h3,hdl,Qy⟩;have RC:=st.free_ (a:=a) YFk;have iw:=st.same (ZI H3 a) p3;obtain⟨ts,b1,b2,b3,b4⟩:=iw.haf;have b2:H3 S.af=some (.lst (ts.map V.ref)):=b2;have b3:ts.length=i:=b3;have Rk:=(YKy.mp er).1;refine⟨_,Z,S.x,C.Toller,S.dx,_,_,Z,Qx iw,T.aa,T.aK,Z,.inl ⟨Z,_,SqL.of b2⟩,_,Z,S.af,_,_,Z,Z,b2,YLG (show(ts.map V.ref).length < 1000 by rw[YKu];lia) (YF (YKv _)),?_⟩;have e3:ts.map V.ref ++ [V.ref a]=(ts ++ [a]).map V.ref:=by rw[YLE];rfl
      rw[e3];refine⟨own,_,_,_,Z,TSt.addFi (T:={ S with R:=i }) iw er ⟨ds,RC,h3,hdl,λd' u e=>(Qy d' u e).keep (ZI H3 a)⟩ b2 lp.nf,tg.1,λc r' d' b h=>?_⟩;rcases tg.2 c r' d' b h with h |⟨h1,h2⟩
      ·exact .inl (by lia)
      ·exact .inl (by lia)
    ·rintro σ H2 ⟨own,v3,v5,v6,rfl,st,tg⟩;rw[exs,<-pre.r]at st;exact q own ps H2 st ⟨psi.1,psi.2.1,psi.2.2.1,λr hr p hp=>psi.2.2.2.1 p (List.mem_flatMap.mpr ⟨r,hr,hp⟩),psi.2.2.2.2⟩
end
def M60:Int:=10 ^ 60
structure FS (H0:Hp) (C x dx:Addr) (fs:List (Str×V)) (H:Hp):Prop where
 hx:H x=some (.ins C dx fs)
 sm:YJ H0 H
 pl:YL H
 n0:H0 x=none
theorem FS.set {H0:Hp}{C x dx:Addr}{fs:List (Str×V)}{H:Hp} (h:FS H0 C x dx fs H) (f:Str) (v:V):FS H0 C x dx (XS f v fs) (upd H x (.ins C dx (XS f v fs)))/\∀b o,(∀fs,o≠.ins C dx fs)->H b=some o->upd H x (.ins C dx (XS f v fs)) b=some o:=
 ⟨⟨YC,h.sm.put h.n0,h.pl.upd rfl,h.n0⟩,λb o ho e=>by rw[YH (λz=>by rw[z,h.hx]at e;exact ho _ (YLP e).symm)];exact e⟩
theorem FS.new {H0:Hp}{C x dx:Addr}{fs:List (Str×V)}{H:Hp} (h:FS H0 C x dx fs H) {a:Addr}{o:HO} (ha:H a=none) (ho:YA9 o=true):FS H0 C x dx fs (upd H a o):=
 ⟨by rw[YH (YV h.hx ha)];exact h.hx,h.sm.trans (YJ.upd ha),h.pl.upd ho,h.n0⟩
inductive YGT (C:Addr) (vs:List V) (H:Hp) (Q:VK):Prop where
 |mk (H0:Hp) (x dx l c:Addr) (t:Str) (xs:List V) (g:Yy) (a b d:Int) (aX:vs=[.ref x,.ref l,.str t,.ref c]) (aY:H x=some (.ins C dx [])) (bU:H0 x=none) (cN:YJ H0 H) (dh:YL H) (i_:H0 l=some (.lst xs)) (lD:Ya H0 xs (g.map ZF)) (n_:Y5 g=true) (uE:t.length<=60) (ye:H0 c=some (.tup [.int a,.int b,.int d])) (wB:(0<=a/\a<=10 ^ 60)) (wC:(0<=b/\b<=10 ^ 60)) (zH:(0<=d/\d<=10 ^ 60)) (zJ:∀T own ps H',YB9 C T->T.x=x->T.g=g->T.t=t->T.put=a * M60->T.cut=b * M60->T.swap=d * M60->H0 T.ao=none->TSt T own ps H0 H' (ovO T) noF noK->YDQ g T.s ps->Q .non H'):YGT C vs H Q
def YIN (C:Addr):Sp:=λvs H Q E_=>YGT C vs H Q
section
variable {P:Program}{w:World}{K:W.Frag}{mg:Str->Option Value}{base:Heap}{C:Adr}
theorem YBH:YW ["self","rules","text","costs"] ["self","rules","text","costs"] (YK JX):=⟨Z,Z,Z,by decide +kernel,Z,by decide +kernel,by decide +kernel⟩
theorem YBI {f:Addr}{fd:FuncData} (F:Fun K "__init__" "Toller.__init__" JX f fd) (T:Txt K mg C) (cQ:Zx P w K mg CX0 3 "least_sizes" ["rules","sign_size"] (YGN)) (bY:Js P w K mg CX0 3 C.Toller "lay_out" ["self"] (YGS C.Toller)):Yw P w K mg base CX0 4 f fd ["self","rules","text","costs"] (YIN C.Toller):=by
 obtain⟨su,rE,jN,jO,jP,jQ⟩:=cQ.ok;obtain⟨qu,pB,iK,gU,iM⟩:=bY.ok;refine F.ok YBH (λvs H Q E h=>?_) (λaO A outer s H vs Q E hr h=>?_)
 ·cases h;subst_vars;rfl
 ·obtain⟨H0,x,dx,l,c,t,xs,g,a,b,d,rfl,hx,hx0,s0,hp,hl,hds,hg,ht,hc,ha,hb,hd,q⟩:=h;have hu:=Zw hr;refine qex ?_;refine⟨_,(YE ⟨(Zt K rfl (pv 0) (pv 1) rfl)⟩
   (YE ⟨(Zt K rfl (pv 0) (pv 2) rfl)⟩
   (YE ⟨(Zt K rfl (pv 0) (YI Jm (YM (YN K rfl) (pv 3) YB (λ_ _=>rfl)) (YI YAP YB YB)) rfl)⟩
   (YE ⟨(Zt K rfl (pv 0) (YI Jm (YM (YN K rfl) (pv 3) YB (λ_ _=>rfl)) (YI YAP YB YB)) rfl)⟩
   (YE ⟨(Zt K rfl (pv 0) (YI Jm (YM (YN K rfl) (pv 3) YB (λ_ _=>rfl)) (YI YAP YB YB)) rfl)⟩
   (YE ⟨(Zt K rfl (pv 0) (Ye (jN base) (hr.mono (by decide)) (by rfl) jO jP jQ .nil Yj (YA (pv 1) (YA (YT K rfl (pv 0) rfl) YD))) rfl)⟩
   (YE ⟨(Zt K rfl (pv 0) YCu rfl)⟩
   (YE ⟨(Zt K rfl (pv 0) (ZH YD) rfl)⟩
   (Y7 ⟨(Y6 (YCr (pv 0) T.aa gU (iK base) (hr.mono (by decide)) iM .nil Yj))⟩))))))))),?_⟩
  have two:(10:Int) ^ 60<=2 ^ 200:=by decide
  have big:∀i:Int,0<=i->i<=2 ^ 400->i.natAbs < 2 ^ 4000:=λi h1 h2=>by
   obtain⟨n,rfl⟩:=Int.eq_ofNat_of_zero_le h1;have h3:n<=2 ^ 400:=by exact_mod_cast h2
   exact YMl h3 (Nat.pow_lt_pow_right (by decide) (by decide))
  have RD:(2:Int) ^ 200 * 2 ^ 200=2 ^ 400:=by decide
  have e2:(2:Int) ^ 200<=2 ^ 400:=by decide
  have mul:∀i:Int,0<=i/\i<=10 ^ 60->YH4 i (10 ^ (60:Int).toNat):=λi h=>⟨big i h.1 (YL0 h.2 (YL0 two e2)),big _ (by decide) (YL0 two e2)⟩
  have Qz:∀i:Int,0<=i/\i<=10 ^ 60->(i * M60).natAbs < 2 ^ 4000:=λi h=>big _ (YLo h.1 (by decide)) (by
   rw[<-RD];exact Int.mul_le_mul (YL0 h.2 two) two (by decide) (by decide))
  have pw:CPow 10 60:=⟨by decide,by decide,by decide⟩;have F0:FS H0 C.Toller x dx [] H:=⟨hx,s0,hp,hx0⟩;refine⟨_,Z,_,Z,x,C.Toller,dx,_,Z,F0.hx,T.aa,T.aC,(by decide),?_⟩;have F1:=(F0.set "rules" (.ref l)).1;revert F1;generalize upd H x (.ins C.Toller dx (XS "rules" (.ref l) []))=H1;intro F1;refine⟨_,Z,_,Z,x,C.Toller,dx,_,Z,F1.hx,T.aa,T.aU,(show 1 < 1000 by decide),?_⟩;have F2:=(F1.set "text" (.str t)).1;revert F2;generalize upd H1 x (.ins C.Toller dx _)=H2;intro F2;refine⟨_,Z,c,_,0,_,Z,Z,SqT.of (F2.sm _ _ hc),Z,_,_,Z,Z,pw,_,_,Z,Z,mul a ha,_,Z,x,C.Toller,dx,_,Z,F2.hx,T.aa,T.cP,(show 2 < 1000 by decide),?_⟩;have F3:=(F2.set "put" (.int (a * 10 ^ (60:Int).toNat))).1;revert F3;generalize upd H2 x (.ins C.Toller dx _)=H3;intro F3;refine⟨_,Z,c,_,1,_,Z,Z,SqT.of (F3.sm _ _ hc),Z,_,_,Z,Z,pw,_,_,Z,Z,mul b hb,_,Z,x,C.Toller,dx,_,Z,F3.hx,T.aa,T.aR,(show 3 < 1000 by decide),?_⟩;have F4:=(F3.set "cut" (.int (b * 10 ^ (60:Int).toNat))).1;revert F4;generalize upd H3 x (.ins C.Toller dx _)=H4;intro F4;refine⟨_,Z,c,_,2,_,Z,Z,SqT.of (F4.sm _ _ hc),Z,_,_,Z,Z,pw,_,_,Z,Z,mul d hd,_,Z,x,C.Toller,dx,_,Z,F4.hx,T.aa,T.dm,(show 4 < 1000 by decide),?_⟩;have F5:=(F4.set "swap" (.int (d * 10 ^ (60:Int).toNat))).1;revert F5;generalize upd H4 x (.ins C.Toller dx _)=H5;intro F5;have yX:(0:Int)<=10 ^ (60:Int).toNat:=by decide
  refine⟨_,Z,_,Z,x,C.Toller,dx,_,_,Z,F5.hx,T.aa,T.cP,Z,l,xs,g,_,Z,F5.sm _ _ hl,hds.same F5.sm,hg,YLo ha.1 yX,F5.pl,λab s H6 sz fx hab eH6=>?_⟩;have F6:=F5.new (o:=.dK (szD s)) hab rfl;rw[<-eH6]at F6;have zK:H6 ab=some (.dK (szD s)):=by rw[eH6];exact YC
  have zL:=F5.sm.free hab;clear eH6;refine⟨_,Z,x,C.Toller,dx,_,Z,F6.hx,T.aa,T.aV,(show 5 < 1000 by decide),?_⟩;obtain⟨F7,k7⟩:=F6.set "bare" (.ref ab);have rF:=k7 _ (.dK _) (λ_ z=>nomatch z) zK;clear k7;revert F7 rF;generalize upd H6 x (.ins C.Toller dx _)=H7;intro F7 rF;refineλao hao=>?_
  have F8:=F7.new (o:=.dK []) hao rfl;have uP:upd H7 ao (.dK []) ab=some (.dK (szD s)):=by rw[YH (YV rF hao)];exact rF
  have uQ:upd H7 ao (.dK []) ao=some (.dK []):=YC;have nab:ab≠ao:=YV rF hao;have tM:=F7.sm.free hao;clear hao;revert F8 uP uQ;generalize upd H7 ao (.dK [])=H8;intro F8 uP uQ;refine⟨_,Z,x,C.Toller,dx,_,Z,F8.hx,T.aa,T.az,(show 6 < 1000 by decide),?_⟩;obtain⟨F9,k9⟩:=F8.set "over" (.ref ao);have tO:=k9 _ (.dK _) (λ_ z=>nomatch z) uP;have tQ:=k9 _ (.dK _) (λ_ z=>nomatch z) uQ;clear k9;revert F9 tO tQ;generalize upd H8 x (.ins C.Toller dx _)=H9;intro F9 tO tQ;refine⟨YLS _,λaf haf=>?_⟩;have Fa:=F9.new (o:=.lst []) haf rfl;have uR:upd H9 af (.lst []) ab=some (.dK (szD s)):=by rw[YH (YV tO haf)];exact tO
  have uT:upd H9 af (.lst []) ao=some (.dK []):=by rw[YH (YV tQ haf)];exact tQ
  have uU:upd H9 af (.lst []) af=some (.lst []):=YC;have zM:=F9.sm.free haf;clear haf;revert Fa uR uT uU;generalize upd H9 af (.lst [])=Ha;intro Fa uR uT uU;refine⟨_,Z,x,C.Toller,dx,_,Z,Fa.hx,T.aa,T.aK,(show 7 < 1000 by decide),?_⟩;obtain⟨Fb,kb⟩:=Fa.set "first" (.ref af);have uV:=kb _ (.dK _) (λ_ z=>nomatch z) uR;have uW:=kb _ (.dK _) (λ_ z=>nomatch z) uT;have uX:=kb _ (.lst _) (λ_ z=>nomatch z) uU;clear kb;revert Fb uV uW uX;generalize upd Ha x (.ins C.Toller dx _)=Hb;intro Fb uV uW uX;have pre:YB9 C.Toller ⟨C.Toller,x,dx,l,ab,ao,af,xs,g,t,t.length,a * M60,b * M60,d * M60,s,g.length⟩:=
   ⟨Z,hg,sz,fx,ht,Z,Z,(Qz b hb),YLo hb.1 yX,YLo ha.1 yX,YLo hd.1 yX⟩
  exact⟨_,Z,x,dx,_,Z,Fb.hx,Z,⟨C.Toller,x,dx,l,ab,ao,af,xs,g,t,t.length,a * M60,b * M60,d * M60,s,g.length⟩,H0,Z,pre,
   ⟨Fb.hx,Fb.sm,Fb.pl,uV,uW,nab,uX,hx0,zL,tM,zM,hl,hds⟩,λown ps H' st po=>q _ own ps H' pre rfl rfl rfl rfl rfl rfl tM st po⟩
end
theorem X3:(["one","other"]:List Str).Nodup:=by decide +kernel
theorem YJJ {K:W.Frag}{a b:Addr}{xs ys:List V}{H:Hp} (h:SqL K H a xs) (h2:SqL K H b ys) (hl:xs.length=ys.length):YHC (Itz K a b) xs.length H λi v H3=>∃T x y,v=.ref T/\H3 T=some (.tup [x,y])/\xs[i]?=some x/\ys[i]?=some y:=λi H' s p=>by
 have h':=s.seq h;have h2':=s.seq h2;refine⟨λhi=>⟨⟨xs,ys,xs[i],ys[i],h',h2',by simp[hi],by simp[hl ▸ hi]⟩,λx H3 y=>?_⟩,⟨xs,ys,h',h2',.inl (YKv _)⟩⟩;obtain⟨T,hT,rfl,k⟩:=y;obtain⟨x,y,hx,hy,rfl⟩:=k xs ys h' h2';exact⟨YJ.upd hT,p.upd rfl,T,x,y,Z,YC,hx,hy⟩
theorem YEW {f:Nat->V}{k i j:Nat} (hj:j<=k):YDc ((List.range k).map f) (some (i:Int)) (some (j:Int))=(List.range (j - i)).map λx=>f (i + x):=by
 unfold YDc;rw[HT.sIx_nat,HT.sIx_nat,YKu,YLN,Nat.min_eq_left hj];apply YMe;intro x;rw[List.getElem?_take,List.getElem?_drop,YK1,YK1];rcases YLz x (j - i) with h |h
 ·have e:min i k=i:=by lia
  rw[e,if_pos h,YLg (by lia),YLg h];rfl
 ·rw[if_neg (by lia),YLf (by rw[YLN];exact h)];rfl
theorem YDQ.part {g:Yy}{s:Sz}{ps:List Str} (h:YDQ g s ps) {ρ:Y4} (hr:ρ∈g) {p:Str} (hp:p∈ρ.2.1) (hok:okP s p=true):p∈ps:=by
 cases hq:isQ p with
 |true=>exact h.2.2.2.1 ρ hr p hp hq
 |false=>
  unfold okP at hok;rw[hq,YMT]at hok;obtain⟨v,hv⟩:=YLZ.mp hok;exact h.2.2.1 p v hv
def XW (K:Nat) (inn:Nat->Option Int):List V:=(List.range (K + 1)).map λd=>oV (inn d)
theorem YJK (i:Nat) (inn:Nat->Option Int) (o:Option Int):XW i inn ++ [oV o]=XW (i + 1) (λd=>if d=i + 1 then o else inn d):=by
 unfold XW;rw[List.range_succ (n:=i + 1),YLE];congr 1
 ·refine YMA λd hd=>?_
  have:=YME.mp hd;show oV (inn d)=oV (if d=i + 1 then o else inn d);rw[if_neg (by lia)]
 ·show _=[oV (if i + 1=i + 1 then o else inn (i + 1))];rw[if_pos rfl]
inductive YGU (C:Addr) (vs:List V) (H:Hp) (Q:VK):Prop where
 |mk (T:Tol) (own:Addr->Option XV) (ps:List Str) (H0:Hp) (O:OvF) (F:FiF) (K:Nat->Nat->Nat->Nat) (r b m:Nat) (ρ:Y4) (aX:vs=[.ref T.x,.int r,.int b,.int ((b + m:Nat):Int)]) (aY:YB9 C T) (bU:TSt T own ps H0 H O F K) (cN:YDQ T.g T.s ps) (dh:T.g[r]?=some ρ) (i_:b + m<=T.n) (lD:(∀d,d<=rch T.s ρ.2.1->K r d b=m)) (n_:∀a H' inn,YF8 T.s O (λd k=>F r d b k) inn ρ.2.1 b m->H a=none->YJ H H'->YL H'->H' a=some (.lst (XW (rch T.s ρ.2.1) inn))->Q (.ref a) H'):YGU C vs H Q
def YIO (C:Addr):Sp:=λvs H Q E_=>YGU C vs H Q
theorem seq_rn {i:Nat}{v:V}{t u:TS}{D:YA6}{σ:St}{H:Hp} (M:St->Hp->Prop) (rest:∀σ' H',M σ' H'->u D σ' H') (h:(∀σ' H',M σ' H'->u D σ' H')->t { D with nx:=u D } (σ.set i (some v)) H):Yu i v σ H λσ2 H2=>tSeq t u D σ2 H2:=h rest
def Jv (R:Nat) (L:Nat->Int):List V:=((List.range (R + 1)).map L).map V.int
theorem YJL (R:Nat) (L:Nat->Int):Jv (R + 1) L=Jv R L ++ [V.int (L (R + 1))]:=by
 unfold Jv;rw[List.range_succ (n:=R + 1),YLE,YLE];rfl
theorem YCA (R:Nat) (L:Nat->Int):atI (Jv R L) (-1)=some (.int (L R)):=by
 unfold Jv;rw[List.range_succ,YLE,YLE];exact YJl _ _
inductive YEX (C:Addr) (vs:List V) (H:Hp) (Q:VK):Prop where
 |mk (T:Tol) (own:Addr->Option XV) (ps:List Str) (H0:Hp) (O:OvF) (F:FiF) (K:Nat->Nat->Nat->Nat) (r b m:Nat) (ρ:Y4) (ai:Addr) (inn:Nat->Option Int) (aX:vs=[.ref T.x,.int r,.int b,.int ((b + m:Nat):Int),.ref ai]) (aY:YB9 C T) (bU:TSt T own ps H0 H O F K) (cN:YDQ T.g T.s ps) (dh:T.g[r]?=some ρ) (i_:b + m<=T.n) (lD:(∀d,d<=rch T.s ρ.2.1->K r d b=m)) (n_:H ai=some (.lst (XW (rch T.s ρ.2.1) inn))) (uE:∀a H',H a=none->YJ H H'->YL H'->H' a=some (.lst (Jv (rch T.s ρ.2.1) (Y8 T.cut O (λd k=>F r d b k) inn ρ.2.1 b (b + m))))->Q (.ref a) H'):YEX C vs H Q
def YGV (C:Addr):Sp:=λvs H Q E_=>YEX C vs H Q
inductive YGW (C:Addr) (vs:List V) (H:Hp) (Q:VK):Prop where
 |mk (T:Tol) (own:Addr->Option XV) (ps:List Str) (H0:Hp) (O:OvF) (F:FiF) (K:Nat->Nat->Nat->Nat) (r b e:Nat) (ρ:Y4) (a:Addr) (L:Nat->Int) (aX:vs=[.ref T.x,.int r,.int b,.int e,.ref a]) (aY:YB9 C T) (bU:TSt T own ps H0 H O F K) (cN:YDQ T.g T.s ps) (dh:T.g[r]?=some ρ) (i_:b<=e) (lD:e<=T.n) (n_:H a=some (.lst (Jv (rch T.s ρ.2.1) L))) (uE:((rch T.s ρ.2.1 < ρ.2.1.length\/O ρ.1 b e<=L (rch T.s ρ.2.1))->Q (.bl false) H)) (ye:(rch T.s ρ.2.1=ρ.2.1.length->L (rch T.s ρ.2.1) < O ρ.1 b e->∀H',TSt T own ps H0 H' (upO O ρ.1 b e (L (rch T.s ρ.2.1))) F K->(∀c o,own c=none->H c=some o->H' c=some o)->Q (.bl true) H')):YGW C vs H Q
def YIP (C:Addr):Sp:=λvs H Q E_=>YGW C vs H Q
section
variable {P:Program}{w:World}{K:W.Frag}{mg:Str->Option Value}{base:Heap}{C:Adr}
theorem Yt:YW ["self","number","begin","end","found","table","done","ahead","behind"] ["self","number","begin","end"] (YK Zz):=⟨Z,Z,Z,by decide +kernel,Z,by decide +kernel,by decide +kernel⟩
theorem YAN {f:Addr}{fd:FuncData} (F:Fun K "inner_tolls" "Toller.inner_tolls" Zz f fd) (T:Txt K mg C):Yw P w K mg base CX0 1 f fd ["self","number","begin","end"] (YIO C.Toller):=by
 refine F.ok Yt (λvs H Q E h=>?_) (λaO A outer s H vs Q E hr h=>?_)
 ·cases h;subst_vars;rfl
 ·obtain⟨S,own,ps,H0,O,FF,KK,r,b,m,ρ,rfl,pre,st,pso,hr',hbm,hK,q⟩:=h;have hu:=Zw hr;refine qex ?_;refine⟨_,(YE (YBu (i:=4) Yt.nd rfl (Or.inl rfl) (YKA (qa_cs qe_non YJ7)))
   (YE ⟨(YQ (i:=5) Yt.nd rfl (Or.inl rfl) (YM (YX K rfl) (YT K rfl (pv 0) rfl) (pv 1) (λ_ _=>rfl)))⟩
   (YE ⟨(Y2 PassesOwn.never rfl (YBl rfl T.aQ (YA YB (YA (YR (Yg K rfl) (by rfl) T.aL YK7 (YA (pv 5) YD)) YD))) (YU (i:=6) Yt.nd rfl (Or.inl rfl)) (YO (YQ (i:=7) Yt.nd rfl (Or.inl rfl) (XC (YCx K rfl) (YM (YX K rfl) (YM (YX K rfl) (pv 5) (YI Zg (pv 6) YB) (λ_ _=>rfl)) (pv 2) (λ_ _=>rfl)) (JG YB) (JG (YI Zg (pv 3) (pv 2)))))
   (YO (YQ (i:=8) Yt.nd rfl (Or.inl rfl) (XC (YCx K rfl) (YM (YX K rfl) (ZS hu (YT K rfl (pv 0) rfl) (YM (YN K rfl) (YM (YN K rfl) (YM (YX K rfl) (YT K rfl (pv 0) rfl) (pv 1) (λ_ _=>rfl)) YB (λ_ _=>rfl)) (YI Zg (pv 6) YB) (λ_ _=>rfl)) (λ_ _=>rfl)) (pv 3) (λ_ _=>rfl)) (JG (YI Yh (pv 2) YB)) (JG (pv 3))))
   (YG (Y6 (Ze K rfl YLT YLi YLh ZP (pv 4) (YA (pe_minD K rfl rfl (by rfl) T.pq YMU (YA (Z2 (N:=["one","other"]) (ρ:=[none,none]) (cl:=[]) rfl (Yi.plain rfl (by decide +kernel) (by decide +kernel) rfl (by simp)) (pi_zip2 K rfl rfl T.wA (YA (pv 7) (YA (pv 8) YD))) (λ_ _ _ _ _=>(Jl K rfl (n:=2) rfl (Yv (YU (i:=0) X3 rfl (Or.inl rfl) (.inr rfl)) (Yv (YU (i:=1) X3 rfl (Or.inl rfl) (.inr rfl)) Jj)))) (λ_ _ _ _ _=>Zs) (λ_ _ _ _ _=>(YI Yh (pv 0) (pv 1)))) YD) (pk_cons J8 pk_nil)) YD)))))))⟩
   (Y7 ⟨(YZ (pv 4))⟩)))),?_⟩
  have line:∀k:Nat,k<=61->k<=sizeLine:=λk hk=>YLU hk (YF (by decide))
  have hn:=pre.n;have hrm:=YKw hr';have hrl:=(YKy.mp hr').1;have h6:=(JL pre.g hrm).2.1;have vR:=Xi S.s ρ.2.1;have hx:H S.x=some (.ins C.Toller S.dx S.fld):=by rw[<-pre.c];exact st.hx
  obtain⟨ts,t,ds,haf,yf,ht,hdl,cM⟩:=st.fi hr' (by rw[pre.r];exact hrl);obtain⟨xv,exv⟩:∃xv,S.xs[r]?=some xv:=⟨_,YKx (by rw[st.hds.len,YKu];exact hrl)⟩;obtain⟨ρ',tt,pp,er,rfl,dR,jV⟩:=Xc st.hds exv;rw[hr']at er;cases er;refine⟨line _ (by decide),λa ha=>?_⟩;have s1:=YJ.upd (o:=.lst [V.non]) ha;refine⟨_,Z,S.x,C.Toller,S.dx,_,_,Z,s1 _ _ hx,T.aa,T.aK,Z,_,Z,S.af,_,_,_,Z,Z,SqL.of (s1 _ _ haf),yf,?_⟩;refine⟨_,Z,t,_,Z,.inl (SqL.of (s1 _ _ ht)),1,((rch S.s ρ.2.1 + 1:Nat):Int),by rw[YKu,hdl],⟨by decide,by decide,by lia,by lia⟩,?_⟩;refine JP (lo:=1) (n:=((rch S.s ρ.2.1 + 1:Nat) - 1:Int).toNat) (λi σ H2=>∃inn v6 v7 v8,σ=[some (.ref S.x),some (.int r),some (.int b),some (.int ((b + m:Nat):Int)),some (.ref a),some (.ref t),v6,v7,v8]/\YJ H H2/\YL H2/\H2 a=some (.lst (XW i inn))/\inn 0=none/\
    ∀(d:Nat) (p:Str),d < i->ρ.2.1[d]?=some p->(∀k,1<=k->k < m->∃v,inn (d + 1)=some v/\v<=FF r d b k + O p (b + k) (b + m))/\∀v,inn (d + 1)=some v->∃k,1<=k/\k < m/\v=FF r d b k + O p (b + k) (b + m))
   ⟨λ_=>none,none,none,none,Z,s1,st.pl.upd rfl,YC,Z,λd p h=>absurd h (YMa _)⟩ ?_ ?_
  ·rintro i σ H2 hi ⟨inn,v6,v7,v8,rfl,s2,p2,h2,Ww,lU⟩;have hi:i < rch S.s ρ.2.1:=by lia
   obtain⟨p,ep,uY⟩:=Zy hi;obtain⟨u,es,c,at2,hu2,yg,hc1,hc⟩:=cM i (by lia) b (by lia);have hpm:=YKw ep;have uZ:=pso.part hrm hpm uY;have ei:(1 + (i:Int)) - 1=(i:Int):=by lia
   refine⟨_,Z,_,Z,_,_,Z,Z,t,_,_,_,Z,Z,SqL.of (s2 _ _ ht),by rw[ei];exact at2,_,Z,u,_,_,_,Z,Z,SqL.of (s2 _ _ hu2),yg,((1:Nat):Int),Z,_,Z,_,Z,_,_,Z,Z,(m:Int),by rw[show((b + m:Nat):Int) - (b:Int)=(m:Int) by lia],c,_,Z,SqL.of (s2 _ _ hc),λc1 yh=>?_⟩;have e1:YDc ((fiR FF r i b (KK r i b)).map V.int) (some ((1:Nat):Int)) (some (m:Int))=((List.range (m - 1)).map λx=>FF r i b (1 + x)).map V.int:=by
    unfold fiR;rw[hK i (by lia),YL2,YEW (YKv m),YL2];rfl
   rw[e1];have s3:=s2.trans (YJ.upd (o:=.lst (((List.range (m - 1)).map λx=>FF r i b (1 + x)).map V.int)) yh);have p3:YL (upd H2 c1 (.lst (((List.range (m - 1)).map λx=>FF r i b (1 + x)).map V.int))):=p2.upd rfl;have h3:upd H2 c1 (.lst (((List.range (m - 1)).map λx=>FF r i b (1 + x)).map V.int)) a=some (.lst (XW i inn)):=by rw[YH (YV h2 yh)];exact h2
   have tR:upd H2 c1 (.lst (((List.range (m - 1)).map λx=>FF r i b (1 + x)).map V.int)) c1=some (.lst (((List.range (m - 1)).map λx=>FF r i b (1 + x)).map V.int)):=YC;revert s3 p3 h3 tR;generalize upd H2 c1 (.lst (((List.range (m - 1)).map λx=>FF r i b (1 + x)).map V.int))=H3;intro s3 p3 h3 tR;have iw:=st.same s3 p3;obtain⟨a',bs,cc,dg,ha',uG,qw,hcc⟩:=iw.ov uZ hbm;refine⟨_,Z,S.x,C.Toller,S.dx,_,_,Z,s3 _ _ hx,T.aa,T.az,Z,_,Z,S.x,C.Toller,S.dx,_,_,Z,s3 _ _ hx,T.aa,T.aC,Z,_,Z,S.l,_,_,_,Z,Z,SqL.of (iw.sm _ _ st.hl),Yq exv,tt,_,1,_,Z,Z,SqT.of (iw.sm _ _ dR),Z,_,Z,_,_,Z,Z,pp,_,_,_,Z,Z,SqT.of (iw.sm _ _ jV),(by rw[ei];exact Yq (by rw[YK1,ep];rfl)),S.ao,_,Z,dg,_,Z,a',_,_,_,Z,Z,SqL.of ha',uG,_,Z,_,_,Z,Z,((b + 1:Nat):Int),Z,_,Z,_,Z,cc,_,Z,SqL.of hcc,λc2 hc2=>?_⟩;have e2:YDc ((ovR O p (b + m)).map V.int) (some ((b + 1:Nat):Int)) (some ((b + m:Nat):Int))=((List.range (m - 1)).map λx=>O p (b + 1 + x) (b + m)).map V.int:=by
    unfold ovR;rw[YL2,YEW (YMn _),YL2,show b + m - (b + 1)=m - 1 by lia];rfl
   rw[e2];have s4:=s3.trans (YJ.upd (o:=.lst (((List.range (m - 1)).map λx=>O p (b + 1 + x) (b + m)).map V.int)) hc2);have p4:YL (upd H3 c2 (.lst (((List.range (m - 1)).map λx=>O p (b + 1 + x) (b + m)).map V.int))):=p3.upd rfl;have h4:upd H3 c2 (.lst (((List.range (m - 1)).map λx=>O p (b + 1 + x) (b + m)).map V.int)) a=some (.lst (XW i inn)):=by rw[YH (YV h3 hc2)];exact h3
   have tU:upd H3 c2 (.lst (((List.range (m - 1)).map λx=>O p (b + 1 + x) (b + m)).map V.int)) c1=some (.lst (((List.range (m - 1)).map λx=>FF r i b (1 + x)).map V.int)):=by rw[YH (YV tR hc2)];exact tR
   have tV:upd H3 c2 (.lst (((List.range (m - 1)).map λx=>O p (b + 1 + x) (b + m)).map V.int)) c2=some (.lst (((List.range (m - 1)).map λx=>O p (b + 1 + x) (b + m)).map V.int)):=YC;revert s4 p4 h4 tU tV;generalize upd H3 c2 (.lst (((List.range (m - 1)).map λx=>O p (b + 1 + x) (b + m)).map V.int))=H4;intro s4 p4 h4 tU tV;have lx:(((List.range (m - 1)).map λx=>FF r i b (1 + x)).map V.int).length=m - 1:=by rw[YKu,YKu,YLN]
   have ly:(((List.range (m - 1)).map λx=>O p (b + 1 + x) (b + m)).map V.int).length=m - 1:=by rw[YKu,YKu,YLN]
   refine⟨_,Z,.inl ⟨Z,_,SqL.of h4⟩,_,Z,_,Z,c1,c2,_,_,Z,SqL.of tU,SqL.of tV,λl hl=>?_⟩;have gz:=YJJ (SqL.of (K:=K) tU) (SqL.of tV) (by rw[lx,ly]);rw[lx]at gz;refine comp_fm (List.range (m - 1)) (λj=>some (V.int (FF r i b (1 + j) + O p (b + 1 + j) (b + m)))) (by rw[YLN];exact gz) p4 hl (line _ (by rw[YLN];lia)) (λτ'=>τ'.length=2) rfl ?_ ?_
   ·rintro τ' k d y H' Q1 Q2 hk hd ⟨T',x1,y1,rfl,hT,ex,ey⟩ hs hp' hQ1 hQ2;have RG:d=k:=by
     have:=(YKy.mp hd).2;rw[List.getElem_range]at this;exact this.symm
    subst RG;have qJ:d < m - 1:=by
     have:=(YKy.mp hd).1
     rwa [YLN]at this
    rw[YK1,YK1,YLg qJ]at ex ey;cases ex;cases ey;obtain⟨τa,τb,rfl⟩:∃τa τb,τ'=[τa,τb]:=by
     match τ',hk with
     |[x,y],_=>exact⟨x,y,Z⟩
    refine⟨T',_,Z,SqT.of hT,Z,_,_,Z,_,_,Z,Z,?_⟩;show tOp (rI0 _) (tVar 0) (tVar 1) _ _ _;exact⟨_,Z,_,Z,_,_,Z,Z,hQ1 _ _ _ rfl (YJ.refl _) hp' rfl⟩
   ·intro H5 s5 p5 h5;have ef:(List.range (m - 1)).filterMap (λj=>some (V.int (FF r i b (1 + j) + O p (b + 1 + j) (b + m))))=((List.range (m - 1)).map λj=>FF r i b (1 + j) + O p (b + 1 + j) (b + m)).map V.int:=by
     rw[YL2,<-List.filterMap_eq_map];rfl
    rw[ef]at h5;have fin:∀o:Option Int,(∀k,1<=k->k < m->∃v,o=some v/\v<=FF r i b k + O p (b + k) (b + m))->(∀v,o=some v->∃k,1<=k/\k < m/\v=FF r i b k + O p (b + k) (b + m))->
      YEw (.ref a) [oV o] H5 λ_ H1=>∃inn v6 v7 v8,[some (V.ref S.x),some (.int r),some (.int b),some (.int ((b + m:Nat):Int)),some (.ref a),some (.ref t),some (.int (1 + (i:Int))),some (.ref c1),some (.ref c2)]=[some (V.ref S.x),some (.int r),some (.int b),some (.int ((b + m:Nat):Int)),some (.ref a),some (.ref t),v6,v7,v8]/\YJ H H1/\YL H1/\H1 a=some (.lst (XW (i + 1) inn))/\inn 0=none/\
       ∀(d:Nat) (p:Str),d < i + 1->ρ.2.1[d]?=some p->(∀k,1<=k->k < m->∃v,inn (d + 1)=some v/\v<=FF r d b k + O p (b + k) (b + m))/\∀v,inn (d + 1)=some v->∃k,1<=k/\k < m/\v=FF r d b k + O p (b + k) (b + m):=λo o1 o2=>by
     refine⟨a,_,_,Z,Z,s5 _ _ h4,YLG (show(XW i inn).length < 1000 by unfold XW;rw[YKu,YLN];lia) (YF (YKv _)),?_⟩;rw[YJK];refine⟨_,_,_,_,Z,(s4.trans s5).put ha,p5.upd rfl,YC,by rw[if_neg (by lia)];exact Ww,λd p' hd ep'=>?_⟩;rcases YLz d i with h |h
     ·rw[if_neg (by lia)];exact lU d p' h ep'
     ·have:d=i:=by lia
      subst this;rw[ep]at ep';cases ep';rw[if_pos rfl];exact⟨o1,o2⟩
    refine⟨l,_,.non,Z,Z,SqL.of h5,λhnil=>?_,λv hv QB=>?_⟩
    ·refine fin none (λk h1 h2=>?_) λv e=>nomatch e
     have:=YL5 List.length hnil;rw[YKu,YLN]at this;simp only[YMG]at this
     lia
    ·obtain⟨j,hj,rfl⟩:=YLL.mp hv;have hj:=YME.mp hj;have e3:∀k,1<=k->FF r i b (1 + (k - 1)) + O p (b + 1 + (k - 1)) (b + m)=FF r i b k + O p (b + k) (b + m):=λk hk=>by rw[show 1 + (k - 1)=k by lia,show b + 1 + (k - 1)=b + k by lia]
     refine fin (some _) (λk h1 h2=>⟨_,Z,?_⟩) λv e=>?_
     ·rw[<-e3 k h1];exact QB _ (YLL.mpr ⟨k - 1,YME.mpr (by lia),Z⟩)
     ·cases e;exact⟨1 + j,by lia,by lia,by rw[show b + 1 + j=b + (1 + j) by lia]⟩
  ·rintro σ H2 ⟨inn,v6,v7,v8,rfl,s2,p2,h2,Ww,lU⟩;have eR:((rch S.s ρ.2.1 + 1:Nat) - 1:Int).toNat=rch S.s ρ.2.1:=by lia
   rw[eR]at h2 lU;exact⟨_,Z,q a H2 inn (λd p hd ep=>lU d p hd ep) ha s2 p2 h2⟩
theorem Ys:YW ["self","number","begin","end","inner","table","line","done","part","toll"] ["self","number","begin","end","inner"] (YK Ji):=⟨Z,Z,Z,by decide +kernel,Z,by decide +kernel,by decide +kernel⟩
theorem YBc {f:Addr}{fd:FuncData} (F:Fun K "line_of" "Toller.line_of" Ji f fd) (T:Txt K mg C):Yw P w K mg base CX0 1 f fd ["self","number","begin","end","inner"] (YGV C.Toller):=by
 refine F.ok Ys (λvs H Q E h=>?_) (λaO A outer s H vs Q E hr h=>?_)
 ·cases h;subst_vars;rfl
 ·obtain⟨S,own,ps,H0,O,FF,KK,r,b,m,ρ,ai,inn,rfl,pre,st,pso,hr',hbm,hK,sW,q⟩:=h;have hu:=Zw hr;refine qex ?_;refine⟨_,(YE ⟨(YQ (i:=5) Ys.nd rfl (Or.inl rfl) (YM (YX K rfl) (YT K rfl (pv 0) rfl) (pv 1) (λ_ _=>rfl)))⟩
   (YE ⟨(YQ (i:=6) Ys.nd rfl (Or.inl rfl) (ZH (YA (YI Yh (YI Jm (YI Zg (pv 3) (pv 2)) (YT K rfl (pv 0) rfl)) YB) YD)))⟩
   (YE ⟨(Y2 PassesOwn.never rfl (YBl rfl T.aQ (YA YB (YA (YR (Yg K rfl) (by rfl) T.aL YK7 (YA (pv 5) YD)) YD))) (YU (i:=7) Ys.nd rfl (Or.inl rfl)) (YO (YQ (i:=8) Ys.nd rfl (Or.inl rfl) (YM (YX K rfl) (ZS hu (YT K rfl (pv 0) rfl) (YM (YN K rfl) (YM (YN K rfl) (YM (YX K rfl) (YT K rfl (pv 0) rfl) (pv 1) (λ_ _=>rfl)) YB (λ_ _=>rfl)) (YI Zg (pv 7) YB) (λ_ _=>rfl)) (λ_ _=>rfl)) (pv 3) (λ_ _=>rfl)))
   (YO (YQ (i:=9) Ys.nd rfl (Or.inl rfl) (YI Yh (YM (YX K rfl) (pv 6) (YHn YEr YB) (λ_ _=>rfl)) (YM (YX K rfl) (pv 8) (pv 3) (λ_ _=>rfl))))
   (YO (Y1 (Yb YDu (pv 2) (pv 3) (Yc _)) (YG (YQ (i:=9) Ys.nd rfl (Or.inl rfl) (YR (YBo rfl) (by rfl) T.pq YMU (YA (pv 9) (YA (YI Yh (YM (YX K rfl) (YM (YX K rfl) (YM (YX K rfl) (pv 5) (YI Zg (pv 7) YB) (λ_ _=>rfl)) (pv 2) (λ_ _=>rfl)) YB (λ_ _=>rfl)) (YM (YX K rfl) (pv 8) (pv 2) (λ_ _=>rfl))) YD))))) Yd)
   (YO (Y1 (Yb YHr (YM (YX K rfl) (pv 4) (pv 7) (λ_ _=>rfl)) J8 (Yc _)) (YG (YQ (i:=9) Ys.nd rfl (Or.inl rfl) (YR (YBo rfl) (by rfl) T.pq YMU (YA (pv 9) (YA (YM (YX K rfl) (pv 4) (pv 7) (λ_ _=>rfl)) YD))))) Yd)
   (YG (Y6 (Ze K rfl YLT YLi YLh ZP (pv 6) (YA (pv 9) YD)))))))))⟩
   (Y7 ⟨(YZ (pv 6))⟩)))),?_⟩
  have line:∀k:Nat,k<=61->k<=sizeLine:=λk hk=>YLU hk (YF (by decide))
  have hn:=pre.n;have hrm:=YKw hr';have hrl:=(YKy.mp hr').1;have h6:=(JL pre.g hrm).2.1;have vR:=Xi S.s ρ.2.1;have hx:H S.x=some (.ins C.Toller S.dx S.fld):=by rw[<-pre.c];exact st.hx
  obtain⟨ts,t,ds,haf,yf,ht,hdl,cM⟩:=st.fi hr' (by rw[pre.r];exact hrl);obtain⟨xv,exv⟩:∃xv,S.xs[r]?=some xv:=⟨_,YKx (by rw[st.hds.len,YKu];exact hrl)⟩;obtain⟨ρ',tt,pp,er,rfl,dR,jV⟩:=Xc st.hds exv;rw[hr']at er;cases er;have hlt:∀i:Int,0<=i->i<=60->i.natAbs < 2 ^ 4000:=λi h1 h2=>YMl (show i.natAbs<=60 by lia) (YLG (by decide:60 < 2 ^ 6) (Nat.pow_le_pow_right (by decide) (by decide)))
  refine⟨_,Z,S.x,C.Toller,S.dx,_,_,Z,hx,T.aa,T.aK,Z,_,Z,S.af,_,_,_,Z,Z,SqL.of haf,yf,?_⟩;refine⟨_,Z,_,Z,_,_,Z,Z,_,Z,S.x,C.Toller,S.dx,_,_,Z,hx,T.aa,T.aR,Z,_,_,Z,Z,⟨hlt _ (by lia) (by lia),pre.cut⟩,_,_,Z,Z,line 1 (by decide),λa ha=>?_⟩;obtain⟨L,eL⟩:∃L,Y8 S.cut O (λd k=>FF r d b k) inn ρ.2.1 b (b + m)=L:=⟨_,Z⟩;rw[eL]at q;have s1:=YJ.upd (o:=.lst (Jv 0 L)) ha;have p1:YL (upd H a (.lst (Jv 0 L))):=st.pl.upd rfl;have e0:[V.int ((((b + m:Nat):Int) - (b:Int)) * S.cut + 1)]=Jv 0 L:=by rw[<-eL];rfl
  rw[e0];have h1:upd H a (.lst (Jv 0 L)) a=some (.lst (Jv 0 L)):=YC;revert s1 p1 h1;generalize upd H a (.lst (Jv 0 L))=H1;intro s1 p1 h1;refine⟨_,Z,t,_,Z,.inl (SqL.of (s1 _ _ ht)),1,((rch S.s ρ.2.1 + 1:Nat):Int),by rw[YKu,hdl],⟨by decide,by decide,by lia,by lia⟩,?_⟩;refine JP (lo:=1) (n:=((rch S.s ρ.2.1 + 1:Nat) - 1:Int).toNat) (λi σ H2=>∃v7 v8 v9,σ=[some (.ref S.x),some (.int r),some (.int b),some (.int ((b + m:Nat):Int)),some (.ref ai),some (.ref t),some (.ref a),v7,v8,v9]/\YJ H H2/\YL H2/\H2 a=some (.lst (Jv i L)))
   ⟨none,none,none,Z,s1,p1,h1⟩ ?_ ?_
  ·rintro i σ H2 hi ⟨v7,v8,v9,rfl,s2,p2,h2⟩;have hi:i < rch S.s ρ.2.1:=by lia
   obtain⟨p,ep,uY⟩:=Zy hi;obtain⟨u,es,c,at2,hu2,yg,hc1,hc⟩:=cM i (by lia) b (by lia);have hpm:=YKw ep;have uZ:=pso.part hrm hpm uY;have ei:(1 + (i:Int)) - 1=(i:Int):=by lia
   have jF:=st.same s2 p2;obtain⟨a',bs,cc,dg,ha',uG,qw,hcc⟩:=jF.ov uZ hbm;have oat:∀k,k<=b + m->atI ((ovR O p (b + m)).map V.int) (k:Int)=some (.int (O p k (b + m))):=λk hk=>Yq (by
    unfold ovR;rw[YK1,YK1,YLg (by lia)];rfl)
   have eLs:L (i + 1)=YBZ (if b < b + m then (if FF r i b 0 + O p b (b + m) < L i + O p (b + m) (b + m) then FF r i b 0 + O p b (b + m) else L i + O p (b + m) (b + m)) else L i + O p (b + m) (b + m)) (inn (i + 1)):=by
    have epp:prt ρ.2.1 i=p:=by unfold prt;rw[ep];rfl
    rw[<-eL,Jg,epp]
   refine⟨_,Z,S.x,C.Toller,S.dx,_,_,Z,s2 _ _ hx,T.aa,T.az,Z,_,Z,S.x,C.Toller,S.dx,_,_,Z,s2 _ _ hx,T.aa,T.aC,Z,_,Z,S.l,_,_,_,Z,Z,SqL.of (jF.sm _ _ st.hl),Yq exv,tt,_,1,_,Z,Z,SqT.of (jF.sm _ _ dR),Z,_,Z,_,_,Z,Z,pp,_,_,_,Z,Z,SqT.of (jF.sm _ _ jV),(by rw[ei];exact Yq (by rw[YK1,ep];rfl)),S.ao,_,Z,dg,_,Z,a',_,_,_,Z,Z,SqL.of ha',uG,?_⟩;refine⟨_,Z,1,Z,a,_,_,_,Z,Z,SqL.of h2,YCA i L,_,Z,_,Z,cc,_,_,_,Z,Z,SqL.of hcc,oat (b + m) (YKv _),_,_,Z,Z,?_⟩;have last:∀(x:Int) (v:Option V),x=(if b < b + m then (if FF r i b 0 + O p b (b + m) < L i + O p (b + m) (b + m) then FF r i b 0 + O p b (b + m) else L i + O p (b + m) (b + m)) else L i + O p (b + m) (b + m))->
     YEw (.ref a) [V.int (YBZ x (inn (i + 1)))] H2 λ_ H1=>∃v7 v8 v9,[some (V.ref S.x),some (.int r),some (.int b),some (.int ((b + m:Nat):Int)),some (.ref ai),some (.ref t),some (.ref a),some (.int (1 + (i:Int))),some (.ref cc),some (.int (YBZ x (inn (i + 1))))]=[some (V.ref S.x),some (.int r),some (.int b),some (.int ((b + m:Nat):Int)),some (.ref ai),some (.ref t),some (.ref a),v7,v8,v9]/\YJ H H1/\YL H1/\H1 a=some (.lst (Jv (i + 1) L)):=λx v hx=>by
    refine⟨a,_,_,Z,Z,h2,YLG (show(Jv i L).length < 1000 by unfold Jv;rw[YKu,YKu,YLN];lia) (YF (YKv _)),?_⟩;have e:L (i + 1)=YBZ x (inn (i + 1)):=by rw[eLs,hx]
    rw[<-e,<-YJL];exact⟨_,_,_,Z,s2.put ha,p2.upd rfl,YC⟩
   have iat:atI (XW (rch S.s ρ.2.1) inn) (1 + (i:Int))=some (oV (inn (i + 1))):=by
    rw[show 1 + (i:Int)=((i + 1:Nat):Int) by lia];refine Yq ?_;unfold XW;rw[YK1,YLg (by lia)];rfl
   with_reducible refine seq_rn (λσ' H'=>H'=H2/\∃x,x=(if b < b + m then (if FF r i b 0 + O p b (b + m) < L i + O p (b + m) (b + m) then FF r i b 0 + O p b (b + m) else L i + O p (b + m) (b + m)) else L i + O p (b + m) (b + m))/\σ'=[some (.ref S.x),some (.int r),some (.int b),some (.int ((b + m:Nat):Int)),some (.ref ai),some (.ref t),some (.ref a),some (.int (1 + (i:Int))),some (.ref cc),some (.int x)]) ?_ λrestK=>?_
   ·rintro σ' H' ⟨rfl,x,hx',rfl⟩;refine⟨_,Z,_,Z,ai,_,_,_,Z,Z,SqL.of (s2 _ _ sW),iat,Z,_,Z,?_⟩;have last:=last x none hx';cases hin:inn (i + 1) with
    |none=>
     rw[hin]at last;refine Y3 ?_;exact⟨_,Z,.inl ⟨Z,_,SqL.of h2⟩,_,Z,last⟩
    |some y=>
     rw[hin]at last iat;refine ZO ?_;refine⟨_,Z,_,Z,_,Z,ai,_,_,_,Z,Z,SqL.of (s2 _ _ sW),iat,_,_,Z,?_⟩;exact⟨_,Z,.inl ⟨Z,_,SqL.of h2⟩,_,Z,last⟩
   ·refine⟨_,Z,_,Z,_,_,Z,Z,_,Z,?_⟩;refine Xf (λhb=>?_) λhb=>?_
    ·have hb:(b:Int) < ((b + m:Nat):Int):=YLM hb;have fat:atI ((fiR FF r i b (KK r i b)).map V.int) 0=some (.int (FF r i b 0)):=Yq (j:=0) (by
      unfold fiR;rw[hK i (by lia),YK1,YK1,YLg (by lia)];rfl)
     refine⟨_,Z,_,Z,_,Z,_,_,Z,Z,t,_,_,_,Z,Z,SqL.of (s2 _ _ ht),by rw[ei];exact at2,_,Z,u,_,_,_,Z,Z,SqL.of (s2 _ _ hu2),yg,c,_,0,_,Z,Z,SqL.of (s2 _ _ hc),fat,_,Z,_,Z,cc,_,_,_,Z,Z,SqL.of hcc,oat b (by lia),_,_,Z,Z,_,_,Z,?_⟩;exact restK _ _ ⟨Z,_,by rw[if_pos (show b < b + m by lia)],Z⟩
    ·have hb:¬(b:Int) < ((b + m:Nat):Int):=λz=>hb (YK2 z)
     exact restK _ _ ⟨Z,_,by rw[if_neg (show ¬b < b + m by lia)],Z⟩
  ·rintro σ H2 ⟨v7,v8,v9,rfl,s2,p2,h2⟩;have eR:((rch S.s ρ.2.1 + 1:Nat) - 1:Int).toNat=rch S.s ρ.2.1:=by lia
   rw[eR]at h2;exact⟨_,Z,q a H2 ha s2 p2 h2⟩
theorem Jw:YW ["self","number","begin","end","line","rule"] ["self","number","begin","end","line"] (YK Z9):=⟨Z,Z,Z,by decide +kernel,Z,by decide +kernel,by decide +kernel⟩
theorem YAd {f:Addr}{fd:FuncData} (F:Fun K "lower_head" "Toller.lower_head" Z9 f fd) (T:Txt K mg C):Yw P w K mg base CX0 1 f fd ["self","number","begin","end","line"] (YIP C.Toller):=by
 refine F.ok Jw (λvs H Q E h=>?_) (λaO A outer s H vs Q E hr h=>?_)
 ·cases h;subst_vars;rfl
 ·obtain⟨S,own,ps,H0,O,FF,KK,r,b,e,ρ,a,L,rfl,pre,st,pso,hr',hbe,hen,ha,q0,q1⟩:=h;have hu:=Zw hr;refine qex ?_;refine⟨_,(YE ⟨(YQ (i:=5) Jw.nd rfl (Or.inl rfl) (YM (YX K rfl) (YT K rfl (pv 0) rfl) (pv 1) (λ_ _=>rfl)))⟩
   (YE ⟨(Y1 (PW.pt (YDt (Yb Xp (YR (Yg K rfl) (by rfl) T.aL YK7 (YA (pv 4) YD)) (YR (Yg K rfl) (by rfl) T.aL YK7 (YA (YM (YN K rfl) (pv 5) YB (λ_ _=>rfl)) YD)) (Yc _)) (YCn (Yb op_ge (YM (YX K rfl) (pv 4) (YHn YEr YB) (λ_ _=>rfl)) (YM (YX K rfl) (YM (YX K rfl) (ZS hu (YT K rfl (pv 0) rfl) (YM (YN K rfl) (pv 5) YB (λ_ _=>rfl)) (λ_ _=>rfl)) (pv 3) (λ_ _=>rfl)) (pv 2) (λ_ _=>rfl)) (Yc _))))) (YG (YZ Jo)) Yd)⟩
   (YE ⟨(YEo (YM (YX K rfl) (pv 4) (YHn YEr YB) (λ_ _=>rfl)) (YGy (YM (YX K rfl) (ZS hu (YT K rfl (pv 0) rfl) (YM (YN K rfl) (pv 5) YB (λ_ _=>rfl)) (λ_ _=>rfl)) (pv 3) (λ_ _=>rfl)) (pv 2) YCs))⟩
   (Y7 ⟨(YZ Jo)⟩)))),?_⟩
  have hrm:=YKw hr';have hrl:=(YKy.mp hr').1;have vR:=Xi S.s ρ.2.1;have hx:H S.x=some (.ins C.Toller S.dx S.fld):=by rw[<-pre.c];exact st.hx
  obtain⟨xv,exv⟩:∃xv,S.xs[r]?=some xv:=⟨_,YKx (by rw[st.hds.len,YKu];exact hrl)⟩;obtain⟨ρ',tt,pp,er,rfl,dR,jV⟩:=Xc st.hds exv;rw[hr']at er;cases er;have dR:=st.sm _ _ dR;have jV:=st.sm _ _ jV;refine⟨_,Z,S.x,C.Toller,S.dx,_,_,Z,hx,T.aa,T.aC,Z,_,Z,S.l,_,_,_,Z,Z,SqL.of (st.sm _ _ st.hl),Yq exv,?_⟩;have ell:(Jv (rch S.s ρ.2.1) L).length=rch S.s ρ.2.1 + 1:=by unfold Jv;rw[YKu,YKu,YLN]
  refine⟨_,Z,a,_,Z,.inl (SqL.of ha),_,Z,tt,_,1,_,Z,Z,SqT.of dR,Z,pp,_,Z,.inr (SqT.of jV),_,_,Z,Z,_,Z,?_⟩;rw[ell,YKu]
  by_cases hlt:rch S.s ρ.2.1 < ρ.2.1.length
  ·rw[YK2 (show(((rch S.s ρ.2.1 + 1:Nat):Int)<=(ρ.2.1.length:Int)) by lia)];exact ZO (ZO (q0 (.inl hlt)))
  ·rw[YK0 (show ¬(((rch S.s ρ.2.1 + 1:Nat):Int)<=(ρ.2.1.length:Int)) by lia)];have cO:rch S.s ρ.2.1=ρ.2.1.length:=by lia
   have hh:∃v,look S.s ρ.1=some v:=by
    obtain⟨k,hk⟩:=YCf (s:=S.s) (q:=S.put) (ps:=ρ.2.1) (a:=1) λp hp=>by
     obtain⟨j,hj,ej⟩:=YMZ.mp hp;obtain⟨p',e1,e2⟩:=Zy (s:=S.s) (ps:=ρ.2.1) (j:=j) (by lia);rw[YKx hj,ej]at e1;cases e1;exact e2
    obtain⟨v,hv,_⟩:=pre.fx ρ hrm k hk;exact⟨v,hv⟩
   obtain⟨v,hv⟩:=hh;have hps:=pso.2.2.1 _ v hv;obtain⟨a',bs,cc,dg,ha',uG,qw,hcc⟩:=st.ov hps hen;have oat:atI ((ovR O ρ.1 e).map V.int) (b:Int)=some (.int (O ρ.1 b e)):=Yq (by
    unfold ovR;rw[YK1,YK1,YLg (by lia)];rfl)
   refine Y3 ⟨_,Z,1,Z,a,_,_,_,Z,Z,SqL.of ha,YCA _ L,_,Z,S.x,C.Toller,S.dx,_,_,Z,hx,T.aa,T.az,Z,_,Z,tt,_,0,_,Z,Z,SqT.of dR,Z,S.ao,_,Z,dg,_,Z,a',_,_,_,Z,Z,SqL.of ha',uG,_,Z,cc,_,_,_,Z,Z,SqL.of hcc,oat,_,_,Z,Z,_,Z,?_⟩
   by_cases hge:O ρ.1 b e<=L (rch S.s ρ.2.1)
   ·rw[YK2 hge];exact ZO (q0 (.inr hge))
   ·rw[YK0 hge];refine Y3 ?_;refine⟨_,Z,1,Z,a,_,_,_,Z,Z,SqL.of ha,YCA _ L,_,Z,S.x,C.Toller,S.dx,_,_,Z,hx,T.aa,T.az,Z,_,Z,tt,_,0,_,Z,Z,SqT.of dR,Z,S.ao,_,Z,dg,_,Z,a',_,_,_,Z,Z,SqL.of ha',uG,_,Z,cc,_,_,b,Z,Z,hcc,?_,?_⟩
    ·have hl:((ovR O ρ.1 e).map V.int).length=e + 1:=by unfold ovR;rw[YKu,YKu,YLN]
     rw[hl];unfold ixN;rw[if_pos (by lia)];simp
     lia
    ·rw[<-List.map_set];refine q1 cO (by lia) _ (st.setO hbe qw _) λc o hc e'=>?_
     rw[YH (λz=>by rw[z,qw]at hc;cases hc)];exact e'
end
structure Dn (T:Tol) (O:OvF) (F:FiF) (b m:Nat):Prop where
 f:EqF T.g T.s T.cut O F b m
 o:EqO T.g T.s O F b m
 le:∀h v,look T.s h=some v->O h b (b + m)<=v + m * T.cut
def DoneB (n m b:Nat) (b' m':Nat):Prop:=b' + m'<=n/\(m' < m\/(m'=m/\b' < b))
structure YCV (T:Tol) (O:OvF) (F:FiF) (m b:Nat):Prop where
 pos:∀p b e,0<=O p b e
 sg:∀p b e,isQ p=true->O p b e=sgT T.t T.put T.cut T.swap p b e
 dn:∀b' m',DoneB T.n m b b' m'->Dn T O F b' m'
def cnt (n m b b':Nat):Nat:=if b' + m<=n then (if b' < b then m + 1 else m) else n + 1 - b'
def KOk (T:Tol) (K:Nat->Nat->Nat->Nat) (m b:Nat):Prop:=∀(r:Nat) (ρ:Y4),T.g[r]?=some ρ->∀d,d<=rch T.s ρ.2.1->∀b',b'<=T.n->K r d b'=cnt T.n m b b'
section
variable {T:Tol}{O O1:OvF}{F F1:FiF}{b m:Nat}{inn:Nat->Nat->Option Int}{C:Addr}
structure YCW (T:Tol) (O O1:OvF) (F:FiF) (b m:Nat) (inn:Nat->Nat->Option Int):Prop where
 same:∀p b' e',¬((look T.s p).isSome=true/\b'=b/\e'=b + m)->O1 p b' e'=O p b' e'
 pos:∀p b e,0<=O1 p b e
 le:∀h v,look T.s h=some v->O1 h b (b + m)<=v + m * T.cut
 ex:∀h v,look T.s h=some v->∃(r:Nat) (ρ:Y4),T.g[r]?=some ρ/\ρ.1=h/\rch T.s ρ.2.1=ρ.2.1.length/\Y8 T.cut O1 (λd k=>F r d b k) (inn r) ρ.2.1 b (b + m) ρ.2.1.length<=O1 h b (b + m)
def YAE (T:Tol) (O:OvF) (F:FiF) (b m:Nat) (inn:Nat->Nat->Option Int):Prop:=∀(r:Nat) (ρ:Y4),T.g[r]?=some ρ->YF8 T.s O (λd k=>F r d b k) (inn r) ρ.2.1 b m
theorem f_pos (hc:0<=T.cut) (pos:∀p b e,0<=O p b e) (h:∀k,k < m->EqF T.g T.s T.cut O F b k) {r:Nat}{ρ:Y4} (hr:T.g[r]?=some ρ):∀{d k:Nat},d<=rch T.s ρ.2.1->k < m->1<=F r d b k:=by
 intro d
 induction d with
 |zero=>
  intro k _ hk;rw[(h k hk r ρ hr).1];have:=YLo (Int.ofNat_nonneg k) hc
  lia
 |succ d ih=>
  intro k hd hk;obtain⟨p,ep,_⟩:=Zy (s:=T.s) (ps:=ρ.2.1) (j:=d) (by lia);obtain⟨k',hk',e⟩:=((h k hk r ρ hr).2 d p (by lia) ep).2;have h1:=ih (k:=k') (by lia) (by lia);have h2:=pos p (b + k') (b + k)
  lia
def Xk (T:Tol) (O:OvF) (b m:Nat):OvF:=λp b' e'=>if (look T.s p).isSome=true/\b'=b/\e'=b + m then (look T.s p).getD 0 + m * T.cut else O p b' e'
theorem YCW.start (pre:YB9 C T) (I:YCV T O F m b) (hbm:b + m<=T.n) (hin:YAE T O F b m inn):YCW T O (Xk T O b m) F b m inn:=by
 have cm:(0:Int)<=m * T.cut:=YLo (Int.ofNat_nonneg m) pre.cut0;have at_:∀h v,look T.s h=some v->Xk T O b m h b (b + m)=v + m * T.cut:=λh v hv=>by
  unfold Xk;rw[if_pos ⟨by rw[hv];rfl,Z,Z⟩,hv];rfl
 refine⟨λp b' e' h=>if_neg h,λp b' e'=>?_,λh v hv=>by rw[at_ h v hv];exact YLk _,λh v hv=>?_⟩
 ·unfold Xk;split
  ·next h=>
   obtain⟨v,hv⟩:=YLZ.mp h.1;rw[hv];have:=pre.s.pos p v hv;show 0<=v + _
   lia
  ·exact I.pos p b' e'
 ·obtain⟨ρ,hr,e1,k,hk,hkv⟩:=pre.s.hd h v hv;obtain⟨r,hrl,er⟩:=YMZ.mp hr;have hr':T.g[r]?=some ρ:=by rw[YKx hrl,er]
  refine⟨r,ρ,hr',e1,X0 (YFA hk),?_⟩;rw[at_ h v hv];have key:=YJI (s:=T.s) (cut:=T.cut) (O:=Xk T O b m) (Fr:=λd k=>F r d b k) (inn:=inn r) (ps:=ρ.2.1) (b:=b) (e:=b + m) (q:=T.put) (λp hp hq=>?_) (λp hp hq v hv=>?_) hk
  ·have:(((b + m:Nat):Int) - b) * T.cut=m * T.cut:=by rw[show((b + m:Nat):Int) - b=m by lia]
   rw[this]at key
   lia
  ·have hl:look T.s p=none:=by
    cases hl:look T.s p with
    |none=>rfl
    |some v'=>
     obtain⟨ρ',QC,e2,_⟩:=pre.s.hd p v' hl;have:=YAv (JL pre.g QC).1;rw[e2,hq]at this;cases this
   have:Xk T O b m p (b + m) (b + m)=O p (b + m) (b + m):=if_neg (by rw[hl];exactλz=>nomatch z.1);rw[this,I.sg p _ _ hq];unfold sgT;rw[if_pos (YKv _)];exact YLk _
  ·rcases Nat.eq_zero_or_pos m with rfl |hm
   ·have:=at_ p v hv;rw[Nat.add_zero]at this ⊢;rw[this];have:((0:Nat):Int) * T.cut=0:=by simp
    lia
   ·have:Xk T O b m p (b + m) (b + m)=O p (b + m) (b + m):=if_neg λz=>by lia
    rw[this];have:=(I.dn (b + m) 0 ⟨by lia,.inl hm⟩).le p v hv;have z0:((0:Nat):Int) * T.cut=0:=by simp
    rw[Nat.add_zero]at this
    lia
theorem YAE.same (h:YAE T O F b m inn) (hs:∀p b' e',¬((look T.s p).isSome=true/\b'=b/\e'=b + m)->O1 p b' e'=O p b' e'):YAE T O1 F b m inn:=λr ρ hr d p hd hp=>by
 obtain⟨h1,h2⟩:=h r ρ hr d p hd hp;have e:∀k,1<=k->O1 p (b + k) (b + m)=O p (b + k) (b + m):=λk hk=>hs _ _ _ λz=>by lia
 refine⟨λk hk qJ=>?_,λv hv=>?_⟩
 ·rw[e k hk];exact h1 k hk qJ
 ·obtain⟨k,hk,qJ,ev⟩:=h2 v hv;exact⟨k,hk,qJ,by rw[e k hk];exact ev⟩
theorem YCW.pos1 (pre:YB9 C T) (I:YCV T O F m b) (hbm:b + m<=T.n) (hin:YAE T O F b m inn) (W:YCW T O O1 F b m inn) {r:Nat}{ρ:Y4} (hr:T.g[r]?=some ρ) {d:Nat} (hd:d<=rch T.s ρ.2.1):1<=Y8 T.cut O1 (λd k=>F r d b k) (inn r) ρ.2.1 b (b + m) d:=by
 have hf:=λ{d k:Nat}=>f_pos pre.cut0 I.pos (λk hk=>(I.dn b k ⟨by lia,.inl hk⟩).f) hr (d:=d) (k:=k)
 refine YF9 pre.cut0 (Nat.le_add_right _ _) W.pos (λd hd hlt=>hf (by lia) (by lia)) (λd v hd hv=>?_) hd;obtain⟨p,ep,_⟩:=Zy hd;obtain⟨k,h1,h2,e⟩:=(hin r ρ hr d p hd ep).2 v hv;have h3:=hf (d:=d) (k:=k) (by lia) h2;have h4:=I.pos p (b + k) (b + m);rw[e];show 1<=F r d b k + _
 lia
theorem YCW.lower (pre:YB9 C T) (I:YCV T O F m b) (hbm:b + m<=T.n) (hin:YAE T O F b m inn) (W:YCW T O O1 F b m inn) {r:Nat}{ρ:Y4} (hr:T.g[r]?=some ρ) (cO:rch T.s ρ.2.1=ρ.2.1.length) {v:Int} (hv:look T.s ρ.1=some v) {x:Int} (hx:x=Y8 T.cut O1 (λd k=>F r d b k) (inn r) ρ.2.1 b (b + m) ρ.2.1.length) (hlt:x < O1 ρ.1 b (b + m)):
  YCW T O (upO O1 ρ.1 b (b + m) x) F b m inn:=by
 have at_:upO O1 ρ.1 b (b + m) x ρ.1 b (b + m)=x:=if_pos ⟨Z,Z,Z⟩;have le_:∀p b' e',upO O1 ρ.1 b (b + m) x p b' e'<=O1 p b' e':=λp b' e'=>by
  unfold upO;split
  ·next h=>rw[h.1,h.2.1,h.2.2];lia
  ·exact YLk _
 have ne_:∀p b' e',¬(p=ρ.1/\b'=b/\e'=b + m)->upO O1 ρ.1 b (b + m) x p b' e'=O1 p b' e':=λp b' e' h=>if_neg h
 have x1:=W.pos1 pre I hbm hin hr (d:=ρ.2.1.length) (by lia);have mono:=λ(r:Nat) (ρ':Y4)=>YEQ (cut:=T.cut) (O:=O1) (O':=upO O1 ρ.1 b (b + m) x) (Fr:=λd k=>F r d b k) (inn:=inn r) (ps:=ρ'.2.1) (b:=b) (e:=b + m) (λp _=>le_ p _ _) (λp _=>le_ p _ _) (YKv _)
 refine⟨λp b' e' h=>?_,λp b' e'=>?_,λh v' hv'=>YL0 (le_ _ _ _) (W.le h v' hv'),λh v' hv'=>?_⟩
 ·rw[ne_ _ _ _ λz=>h ⟨by rw[z.1,hv];rfl,z.2⟩];exact W.same p b' e' h
 ·unfold upO;split
  ·lia
  ·exact W.pos p b' e'
 ·by_cases hh:h=ρ.1
  ·subst hh;refine⟨r,ρ,hr,Z,cO,?_⟩;rw[at_,hx];rw[<-hx];exact hx ▸ mono r ρ
  ·obtain⟨r',ρ',h1,h2,h3,h4⟩:=W.ex h v' hv';refine⟨r',ρ',h1,h2,h3,?_⟩;rw[ne_ _ _ _ λz=>hh z.1];exact YL0 (mono r' ρ') h4
theorem YCW.fin (pre:YB9 C T) (I:YCV T O F m b) (hbm:b + m<=T.n) (hin:YAE T O F b m inn) (W:YCW T O O1 F b m inn)
  (hex:∀(r:Nat) (ρ:Y4),T.g[r]?=some ρ->rch T.s ρ.2.1=ρ.2.1.length->O1 ρ.1 b (b + m)<=Y8 T.cut O1 (λd k=>F r d b k) (inn r) ρ.2.1 b (b + m) ρ.2.1.length)
  (f1:∀r d b' k,¬(b'=b/\k=m)->F1 r d b' k=F r d b' k)
  (f2:∀(r:Nat) (ρ:Y4),T.g[r]?=some ρ->∀d,d<=rch T.s ρ.2.1->F1 r d b m=Y8 T.cut O1 (λd k=>F r d b k) (inn r) ρ.2.1 b (b + m) d):YCV T O1 F1 m (b + 1):=by
 have nq:∀p,isQ p=true->look T.s p=none:=λp hq=>by
  cases hl:look T.s p with
  |none=>rfl
  |some v'=>
   obtain⟨ρ',QC,e2,_⟩:=pre.s.hd p v' hl;have:=YAv (JL pre.g QC).1;rw[e2,hq]at this;cases this
 refine⟨W.pos,λp b' e' hq=>?_,λb' m' hd=>?_⟩
 ·rw[W.same p b' e' λz=>by rw[nq p hq]at z;exact nomatch z.1];exact I.sg p b' e' hq
 ·by_cases hnew:b'=b/\m'=m
  ·obtain⟨rfl,rfl⟩:=hnew;refine⟨λr ρ hr=>⟨?_,λd p hd' hp=>?_⟩,λh v hv=>⟨λr ρ hr e1 cO=>?_,?_⟩,W.le⟩
   ·rw[f2 r ρ hr 0 (YLS _)];show(((b' + m':Nat):Int) - b') * T.cut + 1=_;rw[show((b' + m':Nat):Int) - b'=m' by lia]
   ·have hi:=hin.same W.same r ρ hr;obtain⟨l1,l2⟩:=YKb (cut:=T.cut) hi hd' hp;have ef:∀k,k<=m'->(if k < m' then F r d b' k else Y8 T.cut O1 (λd k=>F r d b' k) (inn r) ρ.2.1 b' (b' + m') d)=F1 r d b' k:=λk hk=>by
     by_cases h:k < m'
     ·rw[if_pos h,f1 r d b' k (by lia)]
     ·rw[if_neg h,show k=m' by lia,f2 r ρ hr d (by lia)]
    rw[f2 r ρ hr (d + 1) (by lia)];refine⟨λk hk=>?_,?_⟩
    ·have:=l1 k hk
     rwa [ef k hk]at this
    ·obtain⟨k,hk,e⟩:=l2;rw[ef k hk]at e;exact⟨k,hk,e⟩
   ·rw[f2 r ρ hr _ (by lia),<-e1];exact hex r ρ hr cO
   ·obtain⟨r,ρ,h1,h2,h3,h4⟩:=W.ex h v hv;refine⟨r,ρ,h1,h2,h3,?_⟩;rw[f2 r ρ h1 _ (by lia)];have:=hex r ρ h1 h3;rw[h2]at this
    lia
  ·have hold:DoneB T.n m b b' m':=⟨hd.1,by rcases hd.2 with h |h <;> lia⟩;have D:=I.dn b' m' hold;have eO:∀p k,k<=m'->O1 p (b' + k) (b' + m')=O p (b' + k) (b' + m'):=λp k hk=>W.same _ _ _ λz=>by
    rcases hold.2 with h |h <;> lia
   have eF:∀r d k,k<=m'->F1 r d b' k=F r d b' k:=λr d k hk=>f1 r d b' k λz=>by
    rcases hold.2 with h |h <;> lia
   have eO0:∀p,O1 p b' (b' + m')=O p b' (b' + m'):=λp=>eO p 0 (YLS _)
   refine⟨λr ρ hr=>⟨?_,λd p hd' hp=>?_⟩,λh v hv=>⟨λr ρ hr e1 cO=>?_,?_⟩,λh v hv=>?_⟩
   ·rw[eF r 0 m' (YKv _)];exact(D.f r ρ hr).1
   ·obtain⟨l1,k0,hk0,e0⟩:=(D.f r ρ hr).2 d p hd' hp;refine⟨λk hk=>?_,k0,hk0,?_⟩
    ·rw[eF r _ m' (YKv _),eF r d k hk,eO p k hk];exact l1 k hk
    ·rw[eF r _ m' (YKv _),eF r d k0 hk0,eO p k0 hk0];exact e0
   ·rw[eO0,eF r _ m' (YKv _)];exact(D.o h v hv).1 r ρ hr e1 cO
   ·obtain⟨r,ρ,h1,h2,h3,h4⟩:=(D.o h v hv).2;exact⟨r,ρ,h1,h2,h3,by rw[eO0,eF r _ m' (YKv _)];exact h4⟩
   ·rw[eO0];exact D.le h v hv
end
theorem J1:(["number","begin","end","self"]:List Str).Nodup:=by decide +kernel
inductive YGX (C:Addr) (vs:List V) (H:Hp) (Q:VK):Prop where
 |mk (T:Tol) (own:Addr->Option XV) (ps:List Str) (H0:Hp) (O:OvF) (F:FiF) (K:Nat->Nat->Nat->Nat) (b m:Nat) (aX:vs=[.ref T.x,.int b,.int ((b + m:Nat):Int)]) (aY:YB9 C T) (bU:TSt T own ps H0 H O F K) (cN:YDQ T.g T.s ps) (dh:YCV T O F m b) (i_:KOk T K m b) (lD:b + m<=T.n) (n_:∀O' F' K' H',TSt T own ps H0 H' O' F' K'->YCV T O' F' m (b + 1)->KOk T K' m (b + 1)->Q .non H'):YGX C vs H Q
def YIQ (C:Addr):Sp:=λvs H Q E_=>YGX C vs H Q
def YAF (T:Tol) (O:OvF) (b m:Nat) (hs:List Str):OvF:=λp b' e'=>if p∈hs/\b'=b/\e'=b + m then (look T.s p).getD 0 + m * T.cut else O p b' e'
theorem YGY (T:Tol) (O:OvF) (b m:Nat):YAF T O b m []=O:=by
 funext p b' e';exact if_neg λz=>nomatch z.1
theorem YFH (T:Tol) (O:OvF) (b m:Nat) (hs:List Str) {h:Str}{v:Int} (hv:look T.s h=some v):upO (YAF T O b m hs) h b (b + m) (v + m * T.cut)=YAF T O b m (hs ++ [h]):=by
 funext p b' e';unfold upO YAF
 by_cases hp:p=h/\b'=b/\e'=b + m
 ·rw[if_pos hp,if_pos ⟨YLH _ (YK4.mpr hp.1),hp.2⟩,hp.1,hv];rfl
 ·rw[if_neg hp]
  by_cases hq:p∈hs/\b'=b/\e'=b + m
  ·rw[if_pos hq,if_pos ⟨YLd _ hq.1,hq.2⟩]
  ·rw[if_neg hq,if_neg λz=>?_];rcases YLQ.mp z.1 with h1 |h1
   ·exact hq ⟨h1,z.2⟩
   ·exact hp ⟨YK4.mp h1,z.2⟩
theorem YGZ (T:Tol) (O:OvF) (b m:Nat):YAF T O b m (T.s.map (·.1))=Xk T O b m:=by
 funext p b' e';unfold YAF Xk;have:p∈T.s.map (·.1)<->(look T.s p).isSome=true:=by
  constructor
  ·intro h;cases hl:look T.s p with
   |none=>exact absurd h (YI8 hl)
   |some v=>rfl
  ·intro h;obtain⟨v,hv⟩:=YLZ.mp h;exact YLL.mpr ⟨_,Xx hv,Z⟩
 by_cases hq:p∈T.s.map (·.1)/\b'=b/\e'=b + m
 ·rw[if_pos hq,if_pos ⟨this.mp hq.1,hq.2⟩]
 ·rw[if_neg hq,if_neg λz=>hq ⟨this.mpr z.1,z.2⟩]
theorem YJM {α:Type} [Inhabited α] {n:Nat}{P:Nat->α->Prop} (h:∀r,r < n->∃z,P r z):∃f:Nat->α,∀r,r < n->P r (f r):=by
 classical
 refine⟨λr=>if hr:r < n then (h r hr).choose else default,λr hr=>?_⟩;show P r (if hr:r < n then (h r hr).choose else default);rw[dif_pos hr];exact(h r hr).choose_spec
theorem ixN_nat {n k:Nat} (h:k < n):ixN n (k:Int)=some k:=by
 unfold ixN;rw[if_pos (by lia),if_pos (by lia)];simp
def nI (k:Nat):V:=.int (k:Int)
def YEY (T:Tol) (O:OvF) (b m:Nat):Nat:=((T.s.map (·.1)).map λh=>(O h b (b + m)).toNat).sum
theorem YHe {T:Tol}{O:OvF}{b m:Nat}{h:Str}{v x:Int} (hv:look T.s h=some v) (h0:0<=x) (hx:x < O h b (b + m)):YEY T (upO O h b (b + m) x) b m < YEY T O b m:=by
 have at_:upO O h b (b + m) x h b (b + m)=x:=if_pos ⟨Z,Z,Z⟩;refine YHI (λz _=>?_) ⟨h,YLL.mpr ⟨_,Xx hv,Z⟩,by rw[at_];lia⟩
 by_cases hz:z=h
 ·rw[hz,at_];lia
 ·have:upO O h b (b + m) x z b (b + m)=O z b (b + m):=if_neg λw=>hz w.1
  rw[this];exact YKv _
def YFI (kvs:List (Key×V)) (N:Nat):Prop:=(kvs.map (·.1)).Nodup/\∀k∈kvs.map (·.1),∃r:Nat,r < N/\k=Sum.inl (r:Int)
theorem YDR {α:Type} [DecidableEq α]:∀{xs ys:List α},xs.Nodup->(∀x∈xs,x∈ys)->xs.length<=ys.length
 |[],_,_,_=>YLS _
 |x :: xs,ys,h,hs=>by
  rw[YL1]at h;have hx:=hs x (YLJ ..);have:=YDR (ys:=ys.erase x) h.2 λy hy=>by
   have hne:y≠x:=λe=>h.1 (e ▸ hy)
   exact(List.mem_erase_of_ne hne).mpr (hs y (YLA _ hy))
  rw[List.length_erase_of_mem hx]at this;have hpos:=List.length_pos_of_mem hx;rw[YK6]
  lia
theorem YFI.len {kvs:List (Key×V)}{N:Nat} (h:YFI kvs N):kvs.length<=N:=by
 have:=YDR (ys:=(List.range N).map λr:Nat=>(Sum.inl (r:Int):Key)) h.1 λk hk=>by
  obtain⟨r,h1,h2⟩:=h.2 k hk;exact YLL.mpr ⟨r,YME.mpr h1,h2.symm⟩
 rwa [YKu,YKu,YLN]at this
theorem YFI.put {kvs:List (Key×V)}{N r:Nat} (h:YFI kvs N) (hr:r < N) (v:V):YFI (ZR kvs (Sum.inl (r:Int)) v) N:=by
 by_cases hm:(Sum.inl (r:Int):Key)∈kvs.map (·.1)
 ·have e:(ZR kvs (Sum.inl (r:Int)) v).map (·.1)=kvs.map (·.1):=by
   unfold ZR;obtain⟨q,hq,e⟩:=YLL.mp hm;rw[if_pos (List.any_eq_true.mpr ⟨q,hq,YK2 e⟩),YL2];refine YMA λq _=>?_
   show(if q.1=Sum.inl (r:Int) then (q.1,v) else q).1=q.1;split <;> rfl
  unfold YFI;rw[e];exact h
 ·have e:(ZR kvs (Sum.inl (r:Int)) v).map (·.1)=kvs.map (·.1) ++ [Sum.inl (r:Int)]:=by
   unfold ZR;rw[if_neg,YLE]
   ·rfl
   ·intro h;obtain⟨q,hq,e⟩:=List.any_eq_true.mp h;exact hm (YLL.mpr ⟨q,hq,YLM e⟩)
  unfold YFI;rw[e];refine⟨YBX h.1 hm,λk hk=>?_⟩;rcases YLQ.mp hk with hk |hk
  ·exact h.2 k hk
  ·exact⟨r,hr,YK4.mp hk⟩
def LnOk (T:Tol) (own:Addr->Option XV) (O:OvF) (F:FiF) (b m:Nat) (inn:Nat->Nat->Option Int) (kvs:List (Key×V)) (H:Hp) (rs:List Nat):Prop:=∀r∈rs,∀ρ,T.g[r]?=some ρ->∃a,Zf kvs (Sum.inl (r:Int))=some (.ref a)/\own a=none/\H a=some (.lst (Jv (rch T.s ρ.2.1) (Y8 T.cut O (λd k=>F r d b k) (inn r) ρ.2.1 b (b + m))))/\
 (rch T.s ρ.2.1=ρ.2.1.length->O ρ.1 b (b + m)<=Y8 T.cut O (λd k=>F r d b k) (inn r) ρ.2.1 b (b + m) ρ.2.1.length)
theorem TSt.putD {T:Tol}{own:Addr->Option XV}{ps:List Str}{H0 H:Hp}{O:OvF}{F:FiF}{K:Nat->Nat->Nat->Nat} (S:TSt T own ps H0 H O F K) {d:Addr}{kvs kvs':List (Key×V)} (hd:H d=some (.dK kvs)) (ne:d≠T.ao) (h0:H0 d=none):TSt T own ps H0 (upd H d (.dK kvs')) O F K:=by
 obtain⟨kv,a1,a2,a3⟩:=S.hao;obtain⟨ts,b1,b2,b3,b4⟩:=S.haf;obtain⟨o,ho⟩:=S.hab;have st:∀{a w},(∀kvs,w≠.dK kvs)->H a=some w->upd H d (.dK kvs') a=some w:=λhw e=>by
  rw[YH (λz=>by rw[z,hd]at e;exact hw _ (YLP e).symm)];exact e
 have kp:∀{a:Addr}{xs:List V},H a=some (.lst xs)->upd H d (.dK kvs') a=some (.lst xs):=λe=>st (λ_ z=>nomatch z) e
 refine⟨S.pl.upd rfl,S.sm.put h0,st (λ_ z=>nomatch z) S.hx,S.hl,S.hds,⟨o,st (λ_ z=>nomatch z) ho⟩,⟨kv,by rw[YH ne.symm];exact a1,a2,λp hp=>?_⟩,⟨ts,b1,kp b2,b3,λr t ρ e1 e2=>?_⟩,λc u hc=>?_,S.uq⟩
 ·obtain⟨a,bs,g1,g2,g3,g4,g5⟩:=a3 p hp;exact⟨a,bs,g1,g2,kp g3,g4,λe c hc=>⟨(g5 e c hc).1,kp (g5 e c hc).2⟩⟩
 ·obtain⟨ds,g1,g2,g3,g4⟩:=b4 r t ρ e1 e2;refine⟨ds,g1,kp g2,g3,λd' u hu=>?_⟩;obtain⟨es,k1,k2,k3,k4⟩:=g4 d' u hu;exact⟨es,k1,kp k2,k3,λb c hc=>⟨(k4 b c hc).1,kp (k4 b c hc).2⟩⟩
 ·obtain⟨h',xs,e⟩:=S.on c u hc;exact⟨h',xs,kp e⟩
section
variable {P:Program}{w:World}{K:W.Frag}{mg:Str->Option Value}{base:Heap}{C:Adr}
theorem YY:YW ["self","begin","end","head","number","inner","order","lines","falling","done","toll"] ["self","begin","end"] (YK Zj):=⟨Z,Z,Z,by decide +kernel,Z,by decide +kernel,by decide +kernel⟩
theorem YAz {f:Addr}{fd:FuncData} (F:Fun K "take_span" "Toller.take_span" Zj f fd) (T:Txt K mg C) (aW:Js P w K mg CX0 1 C.Toller "inner_tolls" ["self","number","begin","end"] (YIO C.Toller)) (bZ:Js P w K mg CX0 1 C.Toller "line_of" ["self","number","begin","end","inner"] (YGV C.Toller)) (bh:Js P w K mg CX0 1 C.Toller "lower_head" ["self","number","begin","end","line"] (YIP C.Toller)):Yw P w K mg base CX0 2 f fd ["self","begin","end"] (YIQ C.Toller):=by
 obtain⟨lV,lA,dw,di,dz⟩:=aW.ok;obtain⟨qx,pC,iQ,gW,iR⟩:=bZ.ok;obtain⟨mQ,lW,dY,dB,dZ⟩:=bh.ok;refine F.ok YY (λvs H Q E h=>?_) (λaO A outer s H vs Q E hr h=>?_)
 ·cases h;subst_vars;rfl
 ·obtain⟨S,own,ps,H0,O,FF,KK,b,m,rfl,pre,st,pso,I,kok,hbm,q⟩:=h;have hu:=Zw hr;refine qex ?_;refine⟨_,(YE ⟨(Y2 PassesOwn.never rfl (YKa (YT K rfl (pv 0) rfl)) (YU (i:=3) YY.nd rfl (Or.inl rfl)) (YG (YEo (YI Yh (ZS hu (YT K rfl (pv 0) rfl) (pv 3) (λ_ _=>rfl)) (YI Jm (YI Zg (pv 2) (pv 1)) (YT K rfl (pv 0) rfl))) (YGy (YM (YX K rfl) (ZS hu (YT K rfl (pv 0) rfl) (pv 3) (λ_ _=>rfl)) (pv 2) (λ_ _=>rfl)) (pv 1) YCs))))⟩
   (YE ⟨(ps_setC (N:=["number","begin","end","self"]) (ρ:=[none,some 1,some 2,some 0]) (i:=5) YY.nd rfl rfl rfl (Yi.closes ["self","begin","end","head","number","inner","order","lines","falling","done","toll"] (YK Zj).names rfl rfl rfl rfl (by decide +kernel) (by decide +kernel) (λx h=>XB h) (by decide +kernel) rfl (by decide +kernel)) (Zb rfl T.aQ (YA (YR (Yg K rfl) (by rfl) T.aL YK7 (YA (YT K rfl (pv 0) rfl) YD)) YD)) (λ_ _ _ _ _=>(YU (i:=0) J1 rfl (Or.inl rfl) (.inr rfl))) (λ_ _ _ _ _=>Zs) (λ_ _ _ _ _=>(Zh (pv 3) T.aa di (dw base) (hr.mono (by decide)) dz .nil Yj (YA (pv 0) (YA (pv 1) (YA (pv 2) YD))))))⟩
   (YE ⟨(YQ (i:=6) YY.nd rfl (Or.inl rfl) (YF5 rfl rfl T.eZ rfl T.aQ (YA (YR (Yg K rfl) (by rfl) T.aL YK7 (YA (YT K rfl (pv 0) rfl) YD)) YD)))⟩
   (YE ⟨(YQ (i:=7) YY.nd rfl (Or.inl rfl) YCu)⟩
   (YE ⟨(YQ (i:=8) YY.nd rfl (Or.inl rfl) Jo)⟩
   (YE ⟨(YCo PassesOwn.never (Z7 (pv 8)) (YO (YQ (i:=8) YY.nd rfl (Or.inl rfl) Jo)
   (YO (YQ (i:=6) YY.nd rfl (Or.inl rfl) (YFy rfl rfl T.eZ rfl T.jk (YA (pv 6) YD)))
   (YG (Y2 PassesOwn.never rfl (JU K rfl (pv 6)) (YU (i:=4) YY.nd rfl (Or.inl rfl)) (YO (YAr hu (pv 7) (pv 4) (Zh (pv 0) T.aa gW (iQ base) (hr.mono (by decide)) iR .nil Yj (Zp (pv 4) (Zp (pv 1) (Zp (pv 2) (Zp (YM (YX K rfl) (pv 5) (pv 4) (λ_ _=>rfl)) YD))))) rfl)
   (YG (Y1 (Z7 (Zh (pv 0) T.aa dB (dY base) (hr.mono (by decide)) dZ .nil Yj (Zp (pv 4) (Zp (pv 1) (Zp (pv 2) (Zp (ZS hu (pv 7) (pv 4) (λ_ _=>rfl)) YD)))))) (YG (YQ (i:=8) YY.nd rfl (Or.inl rfl) Jo)) Yd))))))))⟩
   (Y7 ⟨(Y2 PassesOwn.never rfl (JU K rfl (pv 6)) (YU (i:=4) YY.nd rfl (Or.inl rfl)) (YG (Y2 PassesOwn.never rfl (XZ K rfl rfl T.aP (YA (ZS hu (pv 7) (pv 4) (λ_ _=>rfl)) YD)) (Jl K rfl (n:=2) rfl (Yv (YU (i:=9) YY.nd rfl (Or.inl rfl)) (Yv (YU (i:=10) YY.nd rfl (Or.inl rfl)) Jj))) (YG (Y6 (Ze K rfl YLT YLi YLh ZP (YM (YX K rfl) (YM (YX K rfl) (YM (YX K rfl) (YT K rfl (pv 0) rfl) (pv 4) (λ_ _=>rfl)) (pv 9) (λ_ _=>rfl)) (pv 1) (λ_ _=>rfl)) (YA (pv 10) YD)))))))⟩))))))),?_⟩
  have hn:=pre.n;have hlt:∀i:Int,0<=i->i<=60->i.natAbs < 2 ^ 4000:=λi h1 h2=>YMl (show i.natAbs<=60 by lia) (YLG (by decide:60 < 2 ^ 6) (Nat.pow_le_pow_right (by decide) (by decide)))
  have hxT:∀{H' O F K},TSt S own ps H0 H' O F K->H' S.x=some (.ins C.Toller S.dx S.fld):=λh=>by rw[<-pre.c];exact h.hx
  obtain⟨o,hab⟩:=st.hab;refine⟨_,Z,S.x,C.Toller,S.dx,_,_,Z,hxT st,T.aa,T.aV,Z,S.ab,o,_,Z,hab,?_⟩;refine YBz (Pv:=λi σ H2=>H2 S.ab=some (.frz o (.dK (szD S.s)))/\∃v3,σ=[some (.ref S.x),some (.int b),some (.int ((b + m:Nat):Int)),v3,none,none,none,none,none,none,none]/\TSt S own ps H0 H2 (YAF S O b m ((S.s.map (·.1)).take i)) FF KK) ⟨hab,none,Z,by rw[YMV,YGY];exact st⟩ (λi σ H2 _ h=>h.1) ?_ ?_
  ·rintro i kv σ H2 hkv ⟨hab,v3,rfl,st⟩;obtain⟨h,v,ehv,rfl⟩:∃h v,S.s[i]?=some (h,v)/\kv=(Sum.inr h,V.int v):=by
    unfold szD at hkv;rw[YK1]at hkv;obtain⟨y,h1,h2⟩:=YLX.mp hkv;exact⟨y.1,y.2,h1,h2.symm⟩
   have hlk:look S.s h=some v:=Xd pre.s.nd (YKw ehv);have hps:=pso.2.2.1 h v hlk;obtain⟨a',bs,cc,dg,ha',uG,qw,hcc⟩:=st.ov hps hbm;have e2:(S.s.map (·.1)).take (i + 1)=(S.s.map (·.1)).take i ++ [h]:=by rw[YLn,YK1,ehv];rfl
   have RJ:Zf (szD S.s) (Sum.inr h)=some (.int v):=by rw[Xy,hlk];rfl
   refine⟨_,Z,S.x,C.Toller,S.dx,_,_,Z,hxT st,T.aa,T.aV,Z,_,Z,S.ab,_,Z,.inl ⟨_,Sum.inr h,.inr ⟨o,hab⟩,Z,RJ.symm⟩,_,Z,_,Z,_,_,Z,Z,_,Z,S.x,C.Toller,S.dx,_,_,Z,hxT st,T.aa,T.aR,Z,_,_,Z,Z,⟨hlt _ (by lia) (by lia),pre.cut⟩,_,_,Z,Z,_,Z,S.x,C.Toller,S.dx,_,_,Z,hxT st,T.aa,T.az,Z,_,Z,S.ao,_,Z,dg,_,Z,a',_,_,_,Z,Z,SqL.of ha',uG,_,Z,cc,_,_,b,Z,Z,hcc,ixN_nat (by unfold ovR;rw[YKu,YKu,YLN];lia),?_,_,Z,?_⟩
   ·rw[YH (YDs hab hcc nofun)];exact hab
   ·rw[e2,<-YFH S O b m _ hlk];have:=st.setO (Nat.le_add_right b m) qw (v + m * S.cut);rw[List.map_set]at this;rw[show((b + m:Nat):Int) - (b:Int)=(m:Int) by lia];exact this
  ·rintro σ H2 ⟨hab,v3,rfl,st⟩;have etk:(S.s.map (·.1)).take (szD S.s).length=S.s.map (·.1):=YL8 (by unfold szD;rw[YKu,YKu];exact YKv _);rw[etk,YGZ]at st;obtain⟨O1,eO1⟩:∃O1,Xk S O b m=O1:=⟨_,Z⟩;rw[eO1]at st;have exs:S.xs.length=S.g.length:=by rw[st.hds.len,YKu]
   have m6:=YAs pre.g;refine⟨_,Z,S.x,C.Toller,S.dx,_,_,Z,hxT st,T.aa,T.aC,Z,S.l,_,Z,.inl (SqL.of (st.sm _ _ st.hl)),((S.g.length:Nat):Int),by rw[exs],by lia,by lia,λil hil=>?_⟩;have gAt:∀{r:Nat},r < S.g.length->∃ρ,S.g[r]?=some ρ:=λh=>⟨_,YKx h⟩
   refine Zi (n:=S.g.length) 0 (λk y H'=>∃ai inn,y=.ref ai/\H2 ai=none/\∀ρ,S.g[k]?=some ρ->H' ai=some (.lst (XW (rch S.s ρ.2.1) inn))/\YF8 S.s O1 (λd k'=>FF k d b k') inn ρ.2.1 b m) JQ
    (λk y H' H'' s' ⟨ai,inn,e1,e2,e3⟩=>⟨ai,inn,e1,e2,λρ hρ=>⟨s' _ _ (e3 ρ hρ).1,(e3 ρ hρ).2⟩⟩) st.pl hil (show 0 < 4 by decide) (YLU m6 (YF (by decide))) (λτ'=>∃v,τ'=[v,some (.int b),some (.int ((b + m:Nat):Int)),some (.ref S.x)]) ⟨_,Z⟩ (λτ' v ⟨_,e⟩=>⟨v,by rw[e];rfl⟩) ?_ ?_
   ·rintro τ' k y H' R ⟨v,rfl⟩ hτ rfl hk hs hp' lK hR;cases hτ;obtain⟨ρ,hρ⟩:=gAt hk;have st':=st.same hs hp';refine⟨_,Z,S.x,S.dx,_,Z,hxT st',Z,_,Z,_,Z,_,Z,S,own,ps,H0,O1,FF,KK,k,b,m,ρ,by rw[YLr];rfl,pre,st',pso,hρ,hbm,(λd hd=>?_),λai H6 inn hin sW s6 p6 h6=>hR _ _ s6 p6 ⟨ai,inn,Z,hs.free sW,λρ' hρ'=>?_⟩⟩
    ·rw[kok k ρ hρ d hd b (by lia)];unfold cnt;rw[if_pos hbm,if_neg (YLq _)]
    ·rw[hρ]at hρ';cases hρ';exact⟨by rw[Z8 (λz=>lK (by rw[<-z];exact sW))];exact h6,hin⟩
   ·intro ys H3 hy hP s3 p3 h3;have hall:∀r,r < S.g.length->∃z:Addr×(Nat->Option Int),ys[r]?=some (.ref z.1)/\H2 z.1=none/\∀ρ,S.g[r]?=some ρ->H3 z.1=some (.lst (XW (rch S.s ρ.2.1) z.2))/\YF8 S.s O1 (λd k'=>FF r d b k') z.2 ρ.2.1 b m:=λr hr'=>by
     have ey:=YKx (show r < ys.length by lia);obtain⟨ai,inn,e1,e2,e3⟩:=hP r _ ey;refine⟨(ai,inn),by rw[ey,e1],e2,λρ hρ=>⟨ZI H3 il _ _ (e3 ρ hρ).1,(e3 ρ hρ).2⟩⟩
    obtain⟨fz,yj⟩:=YJM hall;obtain⟨ai,sW⟩:∃ai:Nat->Addr,(λr=>(fz r).1)=ai:=⟨_,Z⟩;obtain⟨inn,lU⟩:∃inn:Nat->Nat->Option Int,(λr=>(fz r).2)=inn:=⟨_,Z⟩;have a1:∀r,r < S.g.length->ys[r]?=some (.ref (ai r)):=λr h=>by rw[<-sW];exact(yj r h).1
    have a2:∀r,r < S.g.length->own (ai r)=none:=λr h=>by rw[<-sW];exact st.free_ (yj r h).2.1
    have a3:∀r ρ,S.g[r]?=some ρ->H3 (ai r)=some (.lst (XW (rch S.s ρ.2.1) (inn r))):=λr ρ hρ=>by rw[<-sW,<-lU];exact((yj r (YKy.mp hρ).1).2.2 ρ hρ).1
    have a4:YAE S O1 FF b m inn:=λr ρ hρ=>by rw[<-lU];exact((yj r (YKy.mp hρ).1).2.2 ρ hρ).2
    have oil:=st.free_ hil;have hin:YAE S O FF b m inn:=a4.same λp b' e' h=>by rw[<-eO1];exact(if_neg h).symm
    have W0:=YCW.start pre I hbm hin;rw[eO1]at W0;have iw:=st.same s3 p3;clear hP hall yj sW lU a4 fz;refine⟨_,Z,S.x,C.Toller,S.dx,_,_,Z,hxT iw,T.aa,T.aC,Z,S.l,_,Z,.inl (SqL.of (iw.sm _ _ st.hl)),S.g.length,by rw[exs],YLU m6 (by decide),λol hol=>?_⟩;refineλld jY=>?_
    have s5:YJ H3 (upd (upd H3 ol (.lst ((List.range S.g.length).map λi:Nat=>V.int (i:Int)))) ld (.dK [])):=(YJ.upd hol).trans (YJ.upd jY);have p5:YL (upd (upd H3 ol (.lst ((List.range S.g.length).map λi:Nat=>V.int (i:Int)))) ld (.dK [])):=(p3.upd rfl).upd rfl;have j9:upd (upd H3 ol (.lst ((List.range S.g.length).map λi:Nat=>V.int (i:Int)))) ld (.dK []) ol=some (.lst ((List.range S.g.length).map nI)):=by rw[YH (YV YC jY),YC];rfl
    have jR:upd (upd H3 ol (.lst ((List.range S.g.length).map λi:Nat=>V.int (i:Int)))) ld (.dK []) ld=some (.dK []):=YC;have ool:=iw.free_ hol;have jw:=(YJ.upd hol).free jY;have old:=iw.free_ jw;have nld:ld≠S.ao:=λz=>by
     obtain⟨kv,e1,_⟩:=iw.hao;rw[z,e1]at jw;cases jw
    have RK:=iw.sm.free jw;clear jY hol jw;revert s5 p5 j9 jR;generalize upd (upd H3 ol (.lst ((List.range S.g.length).map λi:Nat=>V.int (i:Int)))) ld (.dK [])=H5;intro s5 p5 j9 jR;have vf:H5 il=some (.lst ys)/\∀r ρ,S.g[r]?=some ρ->H5 (ai r)=some (.lst (XW (rch S.s ρ.2.1) (inn r))):=⟨s5 _ _ h3,λr ρ hρ=>s5 _ _ (a3 r ρ hρ)⟩;have lB:=iw.same s5 p5;clear st iw s3 p3 h3 a3 hab;refine⟨λk σ H2=>∃(O1:OvF) (ol:Addr) (os:List Nat) (kvs:List (Key×V)) (fall:Bool) (v3 v4:Option V),σ=[some (.ref S.x),some (.int b),some (.int ((b + m:Nat):Int)),v3,v4,some (.ref il),some (.ref ol),some (.ref ld),some (.bl fall),none,none]/\k=2 * YEY S O1 b m + (if fall=true then 1 else 0)/\TSt S own ps H0 H2 O1 FF KK/\YCW S O O1 FF b m inn/\(H2 il=some (.lst ys)/\∀r ρ,S.g[r]?=some ρ->H2 (ai r)=some (.lst (XW (rch S.s ρ.2.1) (inn r))))/\
     (os.Nodup/\∀r,r∈os<->r < S.g.length)/\own ol=none/\H2 ol=some (.lst (os.map nI))/\H2 ld=some (.dK kvs)/\YFI kvs S.g.length/\(fall=false->LnOk S own O1 FF b m inn kvs H2 os),⟨_,O1,ol,List.range S.g.length,[],true,_,_,Z,Z,lB,W0,vf,⟨List.nodup_range,λr=>YME⟩,ool,j9,jR,⟨List.nodup_nil,λk hk=>by cases hk⟩,λz=>nomatch z⟩,?_⟩
    clear lB W0 vf ool j9 jR s5 p5 eO1 O1 v3;rintro k σ H2 ⟨O1,ol,os,kvs,fall,v3,v4,rfl,ek,st,W,kp,vW,ool,hol,jY,hkv,pJ⟩;refine⟨_,Z,fall,Z,?_⟩;have hkeep:∀{H2 H3:Hp},(∀c o,own c=none->H2 c=some o->H3 c=some o)->(H2 il=some (.lst ys)/\∀r ρ,S.g[r]?=some ρ->H2 (ai r)=some (.lst (XW (rch S.s ρ.2.1) (inn r))))->(H3 il=some (.lst ys)/\∀r ρ,S.g[r]?=some ρ->H3 (ai r)=some (.lst (XW (rch S.s ρ.2.1) (inn r)))):=
     λh1 h2=>⟨h1 _ _ oil h2.1,λr ρ hρ=>h1 _ _ (a2 r (YKy.mp hρ).1) (h2.2 r ρ hρ)⟩
    have hK:∀r ρ,S.g[r]?=some ρ->∀d,d<=rch S.s ρ.2.1->KK r d b=m:=λr ρ hρ d hd=>by
     rw[kok r ρ hρ d hd b (by lia)];unfold cnt;rw[if_pos hbm,if_neg (YLq _)]
    cases fall with
    |true=>
     refine ZO ?_;refine⟨_,λ_ _ h=>h,?_⟩;refine⟨_,Z,ol,_,Z,.inl hol,λuH hol'=>?_⟩;have s3:=YJ.upd (o:=.lst (os.map nI).reverse) hol';have iw:=st.same s3 (st.pl.upd rfl);have yl:=st.free_ hol';have tW:upd H2 uH (.lst (os.map nI).reverse) uH=some (.lst (os.reverse.map nI)):=by rw[YC,List.map_reverse]
     have QD:=hkeep (λc o _ e=>s3 c o e) kp;have jw:=s3 _ _ jY;have tX:os.reverse.Nodup/\∀r,r∈os.reverse<->r < S.g.length:=⟨List.pairwise_reverse.mpr (vW.1.imp λh=>Ne.symm h),λr=>by rw[List.mem_reverse];exact vW.2 r⟩;revert iw tW QD jw;generalize upd H2 uH (.lst (os.map nI).reverse)=H3;generalize os.reverse=ue at tX ⊢;intro iw tW QD jw;clear s3 hol' pJ ool hol kp st vW;refine⟨_,Z,uH,Z,⟨_,SqL.of tW⟩,J9 (K:=K) (a:=uH) (xs:=ue.map nI) (λi σ H3=>∃(O2:OvF) (kvs:List (Key×V)) (fall:Bool) (v4:Option V),σ=[some (.ref S.x),some (.int b),some (.int ((b + m:Nat):Int)),v3,v4,some (.ref il),some (.ref uH),some (.ref ld),some (.bl fall),none,none]/\TSt S own ps H0 H3 O2 FF KK/\YCW S O O2 FF b m inn/\(H3 il=some (.lst ys)/\∀r ρ,S.g[r]?=some ρ->H3 (ai r)=some (.lst (XW (rch S.s ρ.2.1) (inn r))))/\
      H3 uH=some (.lst (ue.map nI))/\H3 ld=some (.dK kvs)/\YFI kvs S.g.length/\(fall=false->O2=O1/\LnOk S own O2 FF b m inn kvs H3 (ue.take i))/\(fall=true->YEY S O2 b m < YEY S O1 b m))
      ⟨O1,kvs,false,v4,Z,iw,W,QD,tW,jw,hkv,(λ_=>⟨Z,λr hr=>by rw[YMV]at hr;cases hr⟩),λz=>nomatch z⟩ ?_ ?_ ?_⟩
     ·rintro i σ H3 _ ⟨_,_,_,_,_,_,_,_,h,_⟩;exact SqL.of h
     ·rintro i y σ H3 hi ⟨O2,kvs,fall,v4,rfl,st,W,kp,hol,jY,hkv,vX,yZ⟩;rw[YK1]at hi;obtain⟨r,er,rfl⟩:=YLX.mp hi;have hrN:=(tX.2 r).mp (YKw er);obtain⟨ρ,hρ⟩:=gAt hrN;refine⟨_,Z,S.x,S.dx,_,Z,hxT st,Z,_,Z,_,Z,_,Z,_,Z,_,Z,il,_,_,_,Z,Z,SqL.of kp.1,Yq (a1 r hrN),S,own,ps,H0,O2,FF,KK,r,b,m,ρ,ai r,inn r,Z,pre,st,pso,hρ,hbm,hK r ρ hρ,kp.2 r ρ hρ,λa H4 ha s4 p4 h4=>?_⟩;obtain⟨L,eL⟩:∃L,Y8 S.cut O2 (λd k=>FF r d b k) (inn r) ρ.2.1 b (b + m)=L:=⟨_,Z⟩;rw[eL]at h4;have oa:=st.free_ ha;have u0:=s4 _ _ jY;refine⟨_,Z,_,Z,ld,_,Z,YBs.k (k:=Sum.inl (r:Int)) u0 (YLG (show kvs.length < 1000 by have:=hkv.len;lia) (YF (YKv _))),?_⟩;have lB:=(st.same s4 p4).putD (kvs':=ZR kvs (Sum.inl (r:Int)) (.ref a)) u0 nld RK;have k5:∀c o,(∀kv,o≠.dK kv)->H3 c=some o->upd H4 ld (.dK (ZR kvs (Sum.inl (r:Int)) (.ref a))) c=some o:=λc o ho e=>by
       rw[YH (λz=>by rw[z,jY]at e;exact ho _ (YLP e).symm)];exact s4 _ _ e
      have vf:upd H4 ld (.dK (ZR kvs (Sum.inl (r:Int)) (.ref a))) il=some (.lst ys)/\∀r' ρ,S.g[r']?=some ρ->upd H4 ld (.dK (ZR kvs (Sum.inl (r:Int)) (.ref a))) (ai r')=some (.lst (XW (rch S.s ρ.2.1) (inn r'))):=⟨k5 _ _ (λ_ z=>nomatch z) kp.1,λr' ρ' h'=>k5 _ (.lst _) (λ_ z=>nomatch z) (kp.2 r' ρ' h')⟩;have j9:=k5 _ (.lst _) (λ_ z=>nomatch z) hol;have vY:upd H4 ld (.dK (ZR kvs (Sum.inl (r:Int)) (.ref a))) a=some (.lst (Jv (rch S.s ρ.2.1) L)):=by rw[YH (YDs h4 u0 nofun)];exact h4
      have jR:upd H4 ld (.dK (ZR kvs (Sum.inl (r:Int)) (.ref a))) ld=some (.dK (ZR kvs (Sum.inl (r:Int)) (.ref a))):=YC;have ph:∀rs,LnOk S own O2 FF b m inn kvs H3 rs->r∉rs->(rch S.s ρ.2.1=ρ.2.1.length->O2 ρ.1 b (b + m)<=L ρ.2.1.length)->LnOk S own O2 FF b m inn (ZR kvs (Sum.inl (r:Int)) (.ref a)) (upd H4 ld (.dK (ZR kvs (Sum.inl (r:Int)) (.ref a)))) (rs ++ [r]):=λrs hl vZ hle r' hr' ρ' hρ'=>by
       rcases YLQ.mp hr' with hr' |hr'
       ·obtain⟨RL,e1,e2,e3,e4⟩:=hl r' hr' ρ' hρ';refine⟨RL,?_,e2,k5 _ _ (λ_ z=>nomatch z) e3,e4⟩;rw[YBP,if_neg λz=>vZ ?_]
        ·exact e1
        ·have:=Sum.inl.inj z;have:r'=r:=by lia
         exact this ▸ hr'
       ·have:=YK4.mp hr';subst this;rw[hρ]at hρ';cases hρ';refine⟨a,by rw[YBP,if_pos rfl],oa,by rw[eL];exact vY,by rw[eL];exact hle⟩
      revert lB vf j9 vY jR ph;clear k5;generalize upd H4 ld (.dK (ZR kvs (Sum.inl (r:Int)) (.ref a)))=H5;intro lB vf j9 vY jR ph;have wD:=hkv.put hrN (.ref a);have et:ue.take (i + 1)=ue.take i ++ [r]:=by rw[YLn,er];rfl
      have vZ:r∉ue.take i:=YCg tX.1 er;have RM:XT H5 ld (nI r) (some (.ref a)):=by
       have:=XT.k (k:=Sum.inl (r:Int)) jR;rw[YBP,if_pos rfl]at this;exact this
      refine⟨_,Z,S.x,S.dx,_,Z,hxT lB,Z,_,Z,_,Z,_,Z,_,Z,_,Z,ld,_,Z,RM,S,own,ps,H0,O2,FF,KK,r,b,b + m,ρ,a,L,Z,pre,lB,pso,hρ,Nat.le_add_right _ _,hbm,vY,λhno=>?_,λcO hlt' H6 lC k6=>?_⟩
      ·refine⟨false,Z,Y3 ?_⟩;refine⟨O2,_,fall,_,Z,lB,W,vf,j9,jR,wD,λhf=>?_,yZ⟩;obtain⟨e1,e2⟩:=vX hf;refine⟨e1,?_⟩;rw[et];refine ph _ e2 vZ λcO=>?_
       rcases hno with h |h
       ·lia
       ·rw[cO]at h;exact h
      ·refine⟨true,Z,ZO ?_⟩;have hv:∃v,look S.s ρ.1=some v:=by
        obtain⟨k',hk'⟩:=YCf (s:=S.s) (q:=S.put) (ps:=ρ.2.1) (a:=1) λp hp=>by
         obtain⟨j,hj,ej⟩:=YMZ.mp hp;obtain⟨p',e1,e2⟩:=Zy (s:=S.s) (ps:=ρ.2.1) (j:=j) (by lia);rw[YKx hj,ej]at e1;cases e1;exact e2
        obtain⟨v,hv,_⟩:=pre.fx ρ (YKw hρ) k' hk';exact⟨v,hv⟩
       obtain⟨v,hv⟩:=hv;rw[cO]at hlt' lC;have x1:=W.pos1 pre I hbm hin hρ (d:=ρ.2.1.length) (by lia);rw[eL]at x1;refine⟨_,_,true,_,Z,lC,W.lower pre I hbm hin hρ cO hv (by rw[eL]) hlt',hkeep k6 vf,k6 _ _ yl j9,k6 _ _ old jR,wD,nofun,λ_=>?_⟩;have m1:=YHe (T:=S) hv (by lia) hlt';cases fall with
       |true=>exact Nat.lt_trans m1 (yZ rfl)
       |false=>rw[<-(vX rfl).1];exact m1
     ·rintro σ H3 ⟨O2,kvs,fall,v4,rfl,st,W,kp,hol,jY,hkv,vX,yZ⟩;rw[YKu,YL9]at vX;refine⟨2 * YEY S O2 b m + (if fall=true then 1 else 0),?_,O2,uH,ue,kvs,fall,_,_,Z,Z,st,W,kp,tX,yl,hol,jY,hkv,λhf=>(vX hf).2⟩;rw[ek,if_pos rfl];cases fall with
      |true=>
       have:=yZ rfl;rw[if_pos rfl]
       lia
      |false=>
       rw[(vX rfl).1,if_neg YLD]
       lia
    |false=>
     refine Y3 ?_;have pJ:=pJ rfl;clear hkeep ek;refine⟨_,Z,ol,Z,⟨_,SqL.of hol⟩,J9 (K:=K) (a:=ol) (xs:=os.map nI) (λi σ H3=>∃(F':FiF) (K':Nat->Nat->Nat->Nat) (v4 v9 jM:Option V),σ=[some (.ref S.x),some (.int b),some (.int ((b + m:Nat):Int)),v3,v4,some (.ref il),some (.ref ol),some (.ref ld),some (.bl false),v9,jM]/\TSt S own ps H0 H3 O1 F' K'/\(∀c o,own c=none->H2 c=some o->H3 c=some o)/\
       (∀r d b' k,¬(b'=b/\k=m)->F' r d b' k=FF r d b' k)/\(∀r∈os.take i,∀ρ,S.g[r]?=some ρ->∀d,d<=rch S.s ρ.2.1->F' r d b m=Y8 S.cut O1 (λd k=>FF r d b k) (inn r) ρ.2.1 b (b + m) d/\K' r d b=m + 1)/\(∀r,r∉os.take i->∀d,K' r d b=KK r d b)/\∀r d b',b'≠b->K' r d b'=KK r d b')
      ⟨FF,KK,_,_,_,Z,st,(λ_ _ _ e=>e),(λ_ _ _ _ _=>rfl),(λr hr=>by rw[YMV]at hr;cases hr),(λ_ _ _=>rfl),λ_ _ _ _=>rfl⟩ ?_ ?_ ?_⟩
     ·rintro i σ H3 _ ⟨F',K',v4,v9,jM,rfl,iw,k3,_⟩;exact SqL.of (k3 _ _ ool hol)
     ·rintro i y σ H3 hi ⟨F',K',v4,v9,jM,rfl,iw,k3,A1,A2,A3,A4⟩;rw[YK1]at hi;obtain⟨r,er,rfl⟩:=YLX.mp hi;have hrm:=YKw er;have hrN:=(vW.2 r).mp hrm;obtain⟨ρ,hρ⟩:=gAt hrN;have vZ:r∉os.take i:=YCg vW.1 er;have et:os.take (i + 1)=os.take i ++ [r]:=by rw[YLn,er];rfl
      have h6:=(JL pre.g (YKw hρ)).2.1;have vR:=Xi S.s ρ.2.1;obtain⟨a,RN,Wx,QF,Wy⟩:=pJ r hrm ρ hρ;obtain⟨L,eL⟩:∃L,Y8 S.cut O1 (λd k=>FF r d b k) (inn r) ρ.2.1 b (b + m)=L:=⟨_,Z⟩;rw[eL]at QF;have jw:=k3 _ _ old jY;have RP:XT H3 ld (nI r) (some (.ref a)):=by
       have:=XT.k (k:=Sum.inl (r:Int)) jw;rw[RN]at this;exact this
      refine⟨_,Z,_,Z,ld,_,Z,RP,a,Z,⟨_,.inl (k3 _ _ Wx QF)⟩,Ju (K:=K) (a:=a) (xs:=Jv (rch S.s ρ.2.1) L) (λj σ H4=>∃(F'':FiF) (K'':Nat->Nat->Nat->Nat) (v9 jM:Option V),σ=[some (.ref S.x),some (.int b),some (.int ((b + m:Nat):Int)),v3,some (nI r),some (.ref il),some (.ref ol),some (.ref ld),some (.bl false),v9,jM]/\TSt S own ps H0 H4 O1 F'' K''/\(∀c o,own c=none->H2 c=some o->H4 c=some o)/\
        (∀r d b' k,¬(b'=b/\k=m)->F'' r d b' k=FF r d b' k)/\(∀r∈os.take i,∀ρ,S.g[r]?=some ρ->∀d,d<=rch S.s ρ.2.1->F'' r d b m=Y8 S.cut O1 (λd k=>FF r d b k) (inn r) ρ.2.1 b (b + m) d/\K'' r d b=m + 1)/\(∀r',r'∉os.take i->r'≠r->∀d,K'' r' d b=KK r' d b)/\(∀r d b',b'≠b->K'' r d b'=KK r d b')/\
        (∀d,d < j->F'' r d b m=L d/\K'' r d b=m + 1)/\∀d,j<=d->K'' r d b=KK r d b)
       ⟨F',K',_,_,Z,iw,k3,A1,A2,(λr' h _=>A3 r' h),A4,(λd h=>absurd h (YMa _)),λd _=>A3 r vZ d⟩ ?_ ?_ ?_⟩
      ·rintro j σ H4 _ ⟨F'',K'',v9,jM,rfl,qH,k4,_⟩;exact SqL.of (k4 _ _ Wx QF)
      ·rintro j y T' σ H4 hj hT' ⟨F'',K'',v9,jM,rfl,qH,k4,B1,B2,B3,B4,B5,B6⟩;have hjR:j<=rch S.s ρ.2.1:=by
        have:=(YKy.mp hj).1;unfold Jv at this;rw[YKu,YKu,YLN]at this
        lia
       unfold Jv at hj;rw[YK1,YK1,YLg (by lia)]at hj;cases hj;have s5:=YJ.upd (o:=.tup [.int (j:Nat),V.int (L j)]) hT';have lB:=qH.same s5 (qH.pl.upd rfl);have k5:∀c o,own c=none->H2 c=some o->upd H4 T' (.tup [.int (j:Nat),V.int (L j)]) c=some o:=λc o h1 h2=>s5 _ _ (k4 c o h1 h2)
       refine⟨T',_,Z,SqT.of YC,Z,_,_,Z,_,_,Z,Z,?_⟩;revert lB k5;generalize upd H4 T' (.tup [.int (j:Nat),V.int (L j)])=H5;intro lB k5;obtain⟨ts,t,ds,haf,yf,ht,hdl,cM⟩:=lB.fi hρ (by rw[pre.r];exact hrN);obtain⟨u,es,c,at2,hu2,yg,hc1,hc⟩:=cM j hjR b (by lia);have eK:K'' r j b=m:=by rw[B6 j (YKv _)];exact hK r ρ hρ j hjR
       refine⟨_,Z,S.x,C.Toller,S.dx,_,_,Z,hxT lB,T.aa,T.aK,Z,_,Z,S.af,_,_,_,Z,Z,SqL.of haf,yf,_,Z,t,_,_,_,Z,Z,SqL.of ht,at2,_,Z,u,_,_,_,Z,Z,SqL.of hu2,yg,.inl ⟨Z,_,SqL.of hc⟩,_,Z,c,_,_,Z,Z,hc,YLG (show((fiR F'' r j b (K'' r j b)).map V.int).length < 1000 by unfold fiR;rw[YKu,YKu,YLN];lia) (YF (YKv _)),?_⟩;have lC:=lB.addF hc1 (L j);have e6:(fiR F'' r j b (K'' r j b)).map V.int ++ [V.int (L j)]=(fiR F'' r j b (K'' r j b) ++ [L j]).map V.int:=by rw[YLE];rfl
       show ∃F'' K'' v9 jM,_/\TSt S own ps H0 (upd H5 c (.lst ((fiR _ r j b _).map V.int ++ [V.int (L j)]))) O1 F'' K''/\_;rw[e6];rw[eK]at lC ⊢;have fF:∀r' d' b' k',¬(r'=r/\d'=j/\b'=b/\k'=m)->upF F'' r j b m (L j) r' d' b' k'=F'' r' d' b' k':=λr' d' b' k' h=>if_neg h
       have fK:∀r' d' b',¬(r'=r/\d'=j/\b'=b)->upK K'' r j b (m + 1) r' d' b'=K'' r' d' b':=λr' d' b' h=>if_neg h
       refine⟨_,_,_,_,Z,lC,λc' o' h1 h2=>?_,λr' d' b' k' h=>?_,λr' hr' ρ' hρ' d' hd'=>?_,λr' hr' hne d'=>?_,λr' d' b' h=>?_,λd' hd'=>?_,λd' hd'=>?_⟩
       ·rw[YH (λz=>by rw[z,hc1]at h1;cases h1)];exact k5 c' o' h1 h2
       ·rw[fF _ _ _ _ λz=>h z.2.2];exact B1 r' d' b' k' h
       ·have hne:r'≠r:=λz=>vZ (z ▸ hr')
        rw[fF _ _ _ _ λz=>hne z.1,fK _ _ _ λz=>hne z.1];exact B2 r' hr' ρ' hρ' d' hd'
       ·rw[fK _ _ _ λz=>hne z.1];exact B3 r' hr' hne d'
       ·rw[fK _ _ _ λz=>h z.2.2];exact B4 r' d' b' h
       ·by_cases QG:d'=j
        ·subst QG;exact⟨if_pos ⟨Z,Z,Z,Z⟩,if_pos ⟨Z,Z,Z⟩⟩
        ·rw[fF _ _ _ _ λz=>QG z.2.1,fK _ _ _ λz=>QG z.2.1];exact B5 d' (by lia)
       ·rw[fK _ _ _ λz=>by lia];exact B6 d' (by lia)
      ·rintro σ H4 ⟨F'',K'',v9,jM,rfl,qH,k4,B1,B2,B3,B4,B5,B6⟩;have ell:(Jv (rch S.s ρ.2.1) L).length=rch S.s ρ.2.1 + 1:=by unfold Jv;rw[YKu,YKu,YLN]
       rw[ell]at B5 B6;refine⟨F'',K'',_,_,_,Z,qH,k4,B1,λr' hr' ρ' hρ' d' hd'=>?_,λr' hr' d'=>?_,B4⟩
       ·rw[et]at hr';rcases YLQ.mp hr' with h |h
        ·exact B2 r' h ρ' hρ' d' hd'
        ·have:=YK4.mp h;subst this;rw[hρ]at hρ';cases hρ';rw[eL];exact B5 d' (by lia)
       ·rw[et]at hr';exact B3 r' (λz=>hr' (YLd _ z)) (λz=>hr' (YLH _ (YK4.mpr z))) d'
     ·rintro σ H3 ⟨F',K',v4,v9,jM,rfl,iw,k3,A1,A2,A3,A4⟩;rw[YKu,YL9]at A2 A3;have nJ:=λ(r:Nat) (ρ:Y4) (hρ:S.g[r]?=some ρ)=>(vW.2 r).mpr (YKy.mp hρ).1
      refine q O1 F' K' H3 iw (W.fin pre I hbm hin (λr ρ hρ cO=>?_) A1 λr ρ hρ d hd=>(A2 r (nJ r ρ hρ) ρ hρ d hd).1) λr ρ hρ d hd b' hb'=>?_
      ·obtain⟨a,_,_,_,Wy⟩:=pJ r (nJ r ρ hρ) ρ hρ;exact Wy cO
      ·by_cases hbb:b'=b
       ·subst hbb;rw[(A2 r (nJ r ρ hρ) ρ hρ d hd).2];unfold cnt;rw[if_pos hbm,if_pos (Nat.lt_succ_self _)]
       ·rw[A4 r d b' hbb,kok r ρ hρ d hd b' hb'];unfold cnt;have:(b' < b)=(b' < b + 1):=propext ⟨λh=>by lia,λh=>by lia⟩;simp only[this]
end
theorem sgT_pos {t p:Str}{put cut swap:Int} (h1:0<=put) (h2:0<=cut) (h3:0<=swap) {b e:Nat}:0<=sgT t put cut swap p b e:=by
 unfold sgT;split
 ·exact h1
 ·next hne=>
  have a1:0<=((e:Int) - b - 1) * cut:=YLo (by lia) h2;have a2:0<=((e:Int) - b) * cut:=YLo (by lia) h2;have a3:(0:Int)<=(if X2 (XO p) t b e=true then 0 else swap):=by split <;> lia
  split <;> lia
inductive YDS (C:Addr) (vs:List V) (H:Hp) (Q:VK):Prop where
 |mk (T:Tol) (own:Addr->Option XV) (ps:List Str) (H0:Hp) (aX:vs=[.ref T.x]) (aY:YB9 C T) (bU:TSt T own ps H0 H (ovO T) noF noK) (cN:YDQ T.g T.s ps) (dh:∀O F K H',TSt T own ps H0 H' O F K->YCV T O F (T.n + 1) 0->KOk T K (T.n + 1) 0->Q .non H'):YDS C vs H Q
def YEZ (C:Addr):Sp:=λvs H Q E_=>YDS C vs H Q
section
variable {P:Program}{w:World}{K:W.Frag}{mg:Str->Option Value}{base:Heap}{C:Adr}
theorem Zl:YW ["self","places","many","begin"] ["self"] (YK JZ):=⟨Z,Z,Z,by decide +kernel,Z,by decide +kernel,by decide +kernel⟩
theorem YBJ {f:Addr}{fd:FuncData} (F:Fun K "take_all" "Toller.take_all" JZ f fd) (T:Txt K mg C) (bA:Js P w K mg CX0 2 C.Toller "take_span" ["self","begin","end"] (YIQ C.Toller)):Yw P w K mg base CX0 3 f fd ["self"] (YEZ C.Toller):=by
 obtain⟨nM,mR,gr,d_,gw⟩:=bA.ok;refine F.ok Zl (λvs H Q E h=>?_) (λaO A outer s H vs Q E hr h=>?_)
 ·cases h;subst_vars;rfl
 ·obtain⟨S,own,ps,H0,rfl,pre,st,pso,q⟩:=h;have hu:=Zw hr;refine⟨_,(YO (YQ (i:=1) Zl.nd rfl (Or.inl rfl) (YI Yh (YR Yo (by rfl) T.aL YK7 (YA (YT K rfl (pv 0) rfl) YD)) YB))
   (YG (Y2 PassesOwn.never rfl (Zb rfl T.aQ (YA (pv 1) YD)) (YU (i:=2) Zl.nd rfl (Or.inl rfl)) (YG (Y2 PassesOwn.never rfl (Zb rfl T.aQ (YA (YI Zg (pv 1) (pv 2)) YD)) (YU (i:=3) Zl.nd rfl (Or.inl rfl)) (YG (Y6 (Zh (pv 0) T.aa d_ (gr base) (hr.mono (by decide)) gw .nil Yj (YA (pv 3) (YA (YI Yh (pv 3) (pv 2)) YD)))))))))),?_⟩
  have line:∀k:Nat,k<=61->k<=sizeLine:=λk hk=>YLU hk (YF (by decide))
  have hn:=pre.n;have uF:=pre.t;have hxT:∀{H' O F K},TSt S own ps H0 H' O F K->H' S.x=some (.ins C.Toller S.dx S.fld):=λh=>by rw[<-pre.c];exact h.hx
  have I0:YCV S (ovO S) noF 0 0:=by
   refine⟨λp b e=>?_,λp b e hq=>if_pos hq,λb' m' h=>?_⟩
   ·unfold ovO;split
    ·exact sgT_pos pre.put0 pre.cut0 pre.sw0
    ·exact YLk _
   ·rcases h.2 with h |h <;> lia
  have K0:KOk S noK 0 0:=λr ρ hρ d hd b' hb'=>by
   unfold cnt;rw[if_pos (by lia),if_neg (YMa _)];rfl
  refine⟨_,Z,S.x,C.Toller,S.dx,_,_,Z,hxT st,T.aa,T.aU,Z,_,Z,line _ (by lia),_,_,Z,Z,?_⟩;have epl:((S.t.length:Int) + 1)=((S.n + 1:Nat):Int):=by rw[uF];rfl
  refine⟨_,Z,((S.n + 1:Nat):Int),by rw[epl],by lia,by lia,?_⟩;refine JP (lo:=0) (n:=S.n + 1) (λi σ H2=>∃O F K v2 v3,σ=[some (.ref S.x),some (.int ((S.t.length:Int) + 1)),v2,v3]/\TSt S own ps H0 H2 O F K/\YCV S O F i 0/\KOk S K i 0) ⟨_,_,_,none,none,Z,st,I0,K0⟩ ?_ ?_
  ·rintro i σ H2 hi ⟨O,FF,KK,v2,v3,rfl,st,I,kok⟩;refine⟨_,Z,_,Z,_,_,Z,Z,((S.n + 1 - i:Nat):Int),by rw[epl,show((S.n + 1:Nat):Int) - (0 + (i:Int))=((S.n + 1 - i:Nat):Int) by lia],by lia,by lia,?_⟩;refine JP (lo:=0) (n:=S.n + 1 - i) (λj σ H3=>∃O F K v3,σ=[some (.ref S.x),some (.int ((S.t.length:Int) + 1)),some (.int (0 + (i:Int))),v3]/\TSt S own ps H0 H3 O F K/\YCV S O F i j/\KOk S K i j) ⟨O,FF,KK,v3,Z,st,I,kok⟩ ?_ ?_
   ·rintro j σ H3 hj ⟨O,FF,KK,v3,rfl,st,I,kok⟩;refine⟨_,Z,S.x,S.dx,_,Z,hxT st,Z,_,Z,_,Z,_,Z,_,_,Z,Z,S,own,ps,H0,O,FF,KK,j,i,?_,pre,st,pso,I,kok,by lia,λO' F' K' H' st' I' k'=>⟨O',F',K',_,Z,st',I',k'⟩⟩;rw[YLr,YLr];rfl
   ·rintro σ H3 ⟨O,FF,KK,v3,rfl,st,I,kok⟩;refine⟨O,FF,KK,_,_,Z,st,⟨I.pos,I.sg,λb' m' h=>I.dn b' m' ⟨h.1,?_⟩⟩,λr ρ hρ d hd b' hb'=>?_⟩
    ·have:=h.1;rcases h.2 with h |h <;> lia
    ·rw[kok r ρ hρ d hd b' hb'];unfold cnt
     by_cases h1:b' + i<=S.n
     ·rw[if_pos h1,if_pos (by lia)]
      by_cases h2:b' + (i + 1)<=S.n
      ·rw[if_pos h2,if_neg (YMa _)]
      ·rw[if_neg h2]
       lia
     ·rw[if_neg h1,if_neg (by lia)]
  ·rintro σ H2 ⟨O,FF,KK,v2,v3,rfl,st,I,kok⟩;exact q O FF KK H2 st I kok
end
def YAe (O:OvF) (F:FiF):Nd->Int
 |.part p b e=>O p b e
 |.beg r d b e=>F r d b (e - b)
def FdT (H:Hp) (kvs:List (List Key×V)) (fs:List (Nd×Int)):Prop:=kvs.length=fs.length/\∀(i:Nat) (kv:List Key×V) (x:Nd×Int),kvs[i]?=some kv->fs[i]?=some x->∃t,kv=(Zv x.1,.ref t)/\H t=some (.tup [.int (x.2 / M60),.int (x.2 % M60)])
theorem FdT.keep {H H':Hp}{kvs:List (List Key×V)}{fs:List (Nd×Int)} (h:FdT H kvs fs) (k:∀t ys,H t=some (.tup ys)->H' t=some (.tup ys)):FdT H' kvs fs:=⟨h.1,λi kv x e1 e2=>let ⟨t,h1,h2⟩:=h.2 i kv x e1 e2;⟨t,h1,k _ _ h2⟩⟩
theorem FdT.keys {H:Hp}{kvs:List (List Key×V)}{fs:List (Nd×Int)} (h:FdT H kvs fs):kvs.map (·.1)=fs.map λx=>Zv x.1:=by
 apply YMe;intro i;rw[YK1,YK1];rcases YLz i kvs.length with hi |hi
 ·have e1:=YKx hi;have e2:=YKx (show i < fs.length by rw[<-h.1];exact hi);obtain⟨t,h1,_⟩:=h.2 i _ _ e1 e2;rw[e1,e2,h1];rfl
 ·rw[YLf hi,YLf (by rw[<-h.1];exact hi)];rfl
theorem FdT.val {H:Hp}{kvs:List (List Key×V)}{fs:List (Nd×Int)} (h:FdT H kvs fs) (nd:Nd):(Zf kvs (Zv nd)=none/\nd∉fs.map (·.1))\/∃t v,Zf kvs (Zv nd)=some (.ref t)/\(nd,v)∈fs/\H t=some (.tup [.int (v / M60),.int (v % M60)]):=by
 cases hv:Zf kvs (Zv nd) with
 |none=>
  refine .inl ⟨Z,λhm=>?_⟩;have:Zv nd∈kvs.map (·.1):=by
   rw[h.keys];obtain⟨x,h1,h2⟩:=YLL.mp hm;exact YLL.mpr ⟨x,h1,by rw[h2]⟩
  obtain⟨kv,h1,h2⟩:=YLL.mp this;have:=XE (Zv nd) kvs;rw[hv,List.any_eq_true.mpr ⟨kv,h1,YK2 h2⟩]at this;cases this
 |some y=>
  unfold Zf at hv;obtain⟨kv,h1,h2⟩:=YLX.mp hv;have hk:=List.find?_some h1;have hk:=YLM hk;obtain⟨i,hi,ei⟩:=YMZ.mp (YMW h1);have e1:kvs[i]?=some kv:=by rw[YKx hi,ei]
  obtain⟨x,e2⟩:∃x,fs[i]?=some x:=⟨_,YKx (by rw[<-h.1];exact hi)⟩;obtain⟨t,g1,g2⟩:=h.2 i _ _ e1 e2;have:x.1=nd:=YKU (by rw[<-hk,g1]);refine .inr ⟨t,x.2,by rw[<-h2,g1],?_,g2⟩;rw[<-this];exact YKw e2
theorem FdT.snoc {H:Hp}{kvs:List (List Key×V)}{fs:List (Nd×Int)} (h:FdT H kvs fs) {nd:Nd}{v:Int}{t:Addr} (ht:H t=some (.tup [.int (v / M60),.int (v % M60)])) (hn:nd∉fs.map (·.1)):FdT H (ZR kvs (Zv nd) (.ref t)) (fs ++ [(nd,v)]):=by
 have hv:Zf kvs (Zv nd)=none:=by
  rcases h.val nd with h1 |⟨t',v',_,h2,_⟩
  ·exact h1.1
  ·exact absurd (YLL.mpr ⟨_,h2,Z⟩) hn
 rw[L2.YFc _ hv];refine⟨by rw[YK5,YK5,h.1];rfl,λi kv x e1 e2=>?_⟩;rcases YLz i kvs.length with hi |hi
 ·rw[YLx hi]at e1;rw[YLx (by rw[<-h.1];exact hi)]at e2;exact h.2 i kv x e1 e2
 ·rw[YLl hi]at e1;rw[YLl (by rw[<-h.1];exact hi),<-h.1]at e2;have hz:i - kvs.length=0:=by
   have:=(YKy.mp e1).1;simp only[YK6,YMG]at this
   lia
  rw[hz]at e1 e2;cases e1;cases e2;exact⟨t,Z,ht⟩
structure FdP (O:OvF) (F:FiF) (fs:List (Nd×Int)) (Pg:Nd->Prop):Prop where
 nd:(fs.map (·.1)).Nodup
 val:∀x∈fs,x.2=YAe O F x.1
 mem:∀n,n∈fs.map (·.1)<->Pg n
theorem FdP.snoc {O:OvF}{F:FiF}{fs:List (Nd×Int)}{Pg Pg':Nd->Prop} (h:FdP O F fs Pg) {n:Nd} (hn:¬Pg n) (hp:∀n',Pg' n'<->Pg n'\/n'=n):FdP O F (fs ++ [(n,YAe O F n)]) Pg':=by
 have hn':n∉fs.map (·.1):=λz=>hn ((h.mem n).mp z)
 refine⟨by rw[YLE];exact YBX h.nd hn',λx hx=>?_,λn'=>?_⟩
 ·rcases YLQ.mp hx with hx |hx
  ·exact h.val x hx
  ·rw[YK4.mp hx]
 ·rw[YLE,YLQ,h.mem,hp];exact or_congr Iff.rfl YK4
theorem FdP.iff {O:OvF}{F:FiF}{fs:List (Nd×Int)}{Pg Pg':Nd->Prop} (h:FdP O F fs Pg) (hp:∀n',Pg' n'<->Pg n'):FdP O F fs Pg':=⟨h.nd,h.val,λn=>(h.mem n).trans (hp n).symm⟩
structure Tld (H:Hp) (ao d:Addr) (o:Obj) (kvA:List (Key×V)) (O:OvF) (F:FiF) (H2:Hp) (kvs:List (List Key×V)) (fs:List (Nd×Int)) (Pg:Nd->Prop):Prop where
 kp:∀c w,c≠ao->H c=some w->H2 c=some w
 pl:∀c w,c≠d->H2 c=some w->YA9 w=true
 ha:H2 ao=some (.frz o (.dK kvA))
 hd:H2 d=some (.dT kvs)
 fd:FdT H2 kvs fs
 fp:FdP O F fs Pg
section
variable {H:Hp}{ao d:Addr}{o:Obj}{kvA:List (Key×V)}{O:OvF}{F:FiF}{H2:Hp}{kvs:List (List Key×V)}{fs:List (Nd×Int)}{Pg Pg':Nd->Prop}
theorem Tld.new (h:Tld H ao d o kvA O F H2 kvs fs Pg) {t:Addr}{ys:List V} (ht:H2 t=none):Tld H ao d o kvA O F (upd H2 t (.tup ys)) kvs fs Pg:=by
 have s:=YJ.upd (o:=.tup ys) ht;refine⟨λc w h1 h2=>s _ _ (h.kp c w h1 h2),λc w h1 h2=>?_,s _ _ h.ha,s _ _ h.hd,h.fd.keep λt ys e=>s _ _ e,h.fp⟩
 by_cases hc:c=t
 ·rw[hc,YC]at h2;cases h2;rfl
 ·rw[YH hc]at h2;exact h.pl c w h1 h2
theorem Tld.put (h:Tld H ao d o kvA O F H2 kvs fs Pg) {t:Addr}{n:Nd} (ht:H2 t=some (.tup [.int (YAe O F n / M60),.int (YAe O F n % M60)])) (hn:¬Pg n) (hp:∀n',Pg' n'<->Pg n'\/n'=n) (RQ:H d=none):Tld H ao d o kvA O F (upd H2 d (.dT (ZR kvs (Zv n) (.ref t)))) (ZR kvs (Zv n) (.ref t)) (fs ++ [(n,YAe O F n)]) Pg':=by
 have st:∀{c w},(∀k,w≠.dT k)->H2 c=some w->upd H2 d (.dT (ZR kvs (Zv n) (.ref t))) c=some w:=λhw e=>by
  rw[YH (λz=>by rw[z,h.hd]at e;exact hw _ (YLP e).symm)];exact e
 refine⟨λc w h1 h2=>?_,λc w h1 h2=>?_,st (λ_ z=>nomatch z) h.ha,YC,?_,h.fp.snoc hn hp⟩
 ·rw[YH (λz=>by rw[z,RQ]at h2;cases h2)];exact h.kp c w h1 h2
 ·rw[YH h1]at h2;exact h.pl c w h1 h2
 ·have f:=h.fd.snoc ht λz=>hn ((h.fp.mem n).mp z)
  exact f.keep λt ys e=>st (λ_ z=>nomatch z) e
theorem Tld.iff (h:Tld H ao d o kvA O F H2 kvs fs Pg) (hp:∀n',Pg' n'<->Pg n'):Tld H ao d o kvA O F H2 kvs fs Pg':=⟨h.kp,h.pl,h.ha,h.hd,h.fd,h.fp.iff hp⟩
end
def pg1 (n:Nat) (P:List Str):Nd->Prop
 |.part p b e=>p∈P/\b<=e/\e<=n
 |.beg _ _ _ _=>False
def pg3 (n:Nat) (P:List Str) (p:Str) (j k:Nat):Nd->Prop
 |.part p' b e=>(p'∈P/\b<=e/\e<=n)\/(p'=p/\b<=e/\(e < j\/(e=j/\b < k)))
 |.beg _ _ _ _=>False
def pg7 (T:Tol) (ps:List Str) (r d b k:Nat):Nd->Prop
 |.part p b e=>p∈ps/\b<=e/\e<=T.n
 |.beg r' d' b' e=>(∃ρ,T.g[r']?=some ρ/\d'<=rch T.s ρ.2.1)/\b'<=e/\e<=T.n/\(r' < r\/(r'=r/\(d' < d\/(d'=d/\(b' < b\/(b'=b/\e < b + k))))))
def YAf (T:Tol) (ps:List Str):Nd->Prop
 |.part p b e=>p∈ps/\b<=e/\e<=T.n
 |.beg r d b e=>(∃ρ,T.g[r]?=some ρ/\d<=rch T.s ρ.2.1)/\b<=e/\e<=T.n
inductive YIR (C:Addr) (vs:List V) (H:Hp) (Q:VK):Prop where
 |mk (T:Tol) (own:Addr->Option XV) (ps:List Str) (H0:Hp) (O:OvF) (F:FiF) (K:Nat->Nat->Nat->Nat) (aX:vs=[.ref T.x]) (aY:YB9 C T) (bU:TSt T own ps H0 H O F K) (cN:YDQ T.g T.s ps) (dh:KOk T K (T.n + 1) 0) (i_:H0 T.ao=none) (lD:∀d o kvs fs H',YJ H0 H'->YL H'->H' d=some (.frz o (.dT kvs))->FdT H' kvs fs->FdP O F fs (YAf T ps)->Q (.ref d) H'):YIR C vs H Q
def YKe (C:Addr):Sp:=λvs H Q E_=>YIR C vs H Q
section
variable {P:Program}{w:World}{K:W.Frag}{mg:Str->Option Value}{base:Heap}{C:Adr}
theorem YS:YW ["self","found","part","end","line","begin","toll","number","table","done","lines","many"] ["self"] (YK JA):=⟨Z,Z,Z,by decide +kernel,Z,by decide +kernel,by decide +kernel⟩
theorem YAg {f:Addr}{fd:FuncData} (F:Fun K "told_tolls" "Toller.told_tolls" JA f fd) (T:Txt K mg C):Yw P w K mg base CX0 1 f fd ["self"] (YKe C.Toller):=by
 refine F.ok YS (λvs H Q E h=>?_) (λaO A outer s H vs Q E hr h=>?_)
 ·cases h;subst_vars;rfl
 ·obtain⟨S,own,ps,H0,O,FF,KK,rfl,pre,st,pso,kok,tM,q⟩:=h;have hu:=Zw hr;refine qex ?_;refine⟨_,(YE ⟨(YQ (i:=1) YS.nd rfl (Or.inl rfl) YJs)⟩
   (YE ⟨(Y2 PassesOwn.never rfl (YIG (YT K rfl (pv 0) rfl)) (YU (i:=2) YS.nd rfl (Or.inl rfl)) (YG (Y2 PassesOwn.never rfl (XZ K rfl rfl T.aP (YA (ZS hu (YT K rfl (pv 0) rfl) (pv 2) (λ_ _=>rfl)) YD)) (Jl K rfl (n:=2) rfl (Yv (YU (i:=3) YS.nd rfl (Or.inl rfl)) (Yv (YU (i:=4) YS.nd rfl (Or.inl rfl)) Jj))) (YG (Y2 PassesOwn.never rfl (XZ K rfl rfl T.aP (YA (pv 4) YD)) (Jl K rfl (n:=2) rfl (Yv (YU (i:=5) YS.nd rfl (Or.inl rfl)) (Yv (YU (i:=6) YS.nd rfl (Or.inl rfl)) Jj))) (YG (YAr hu (pv 1) (Yx (YA (pv 2) (YA (pv 5) (YA (pv 3) YD)))) (YR YBY (by rfl) T.lF PyProof.Rows.Boot.«divmod» (YA (pv 6) (YA (YI YAP YB YB) YD))) rfl)))))))⟩
   (YE ⟨(Y2 PassesOwn.never rfl (XZ K rfl rfl T.aP (YA (YT K rfl (pv 0) rfl) YD)) (Jl K rfl (n:=2) rfl (Yv (YU (i:=7) YS.nd rfl (Or.inl rfl)) (Yv (YU (i:=8) YS.nd rfl (Or.inl rfl)) Jj))) (YG (Y2 PassesOwn.never rfl (XZ K rfl rfl T.aP (YA (pv 8) YD)) (Jl K rfl (n:=2) rfl (Yv (YU (i:=9) YS.nd rfl (Or.inl rfl)) (Yv (YU (i:=10) YS.nd rfl (Or.inl rfl)) Jj))) (YG (Y2 PassesOwn.never rfl (XZ K rfl rfl T.aP (YA (pv 10) YD)) (Jl K rfl (n:=2) rfl (Yv (YU (i:=5) YS.nd rfl (Or.inl rfl)) (Yv (YU (i:=4) YS.nd rfl (Or.inl rfl)) Jj))) (YG (Y2 PassesOwn.never rfl (XZ K rfl rfl T.aP (YA (pv 4) YD)) (Jl K rfl (n:=2) rfl (Yv (YU (i:=11) YS.nd rfl (Or.inl rfl)) (Yv (YU (i:=6) YS.nd rfl (Or.inl rfl)) Jj))) (YG (YAr hu (pv 1) (Yx (Zp (pv 7) (Zp (pv 9) (Zp (pv 5) (Zp (YI Yh (pv 5) (pv 11)) YD))))) (YR YBY (by rfl) T.lF PyProof.Rows.Boot.«divmod» (YA (pv 6) (YA (YI YAP YB YB) YD))) rfl)))))))))⟩
   (Y7 ⟨(YZ (YKV (pv 1)))⟩)))),?_⟩
  have hn:=pre.n;have hps:=(show PsI S.g S.s ps [] from⟨pso.1,pso.2.1,pso.2.2.1,(λp hp=>by cases hp),pso.2.2.2.2⟩).len pre.g pre.s;have hx:H S.x=some (.ins C.Toller S.dx S.fld):=by rw[<-pre.c];exact st.hx
  obtain⟨kvA,hao,hks,RT⟩:=st.hao;have hkl:kvA.length=ps.length:=by have:=YL5 List.length hks;rwa [YKu,YKu]at this
  have naoL:∀{c:Addr}{xs:List V},H c=some (.lst xs)->c≠S.ao:=λe z=>by rw[z,hao]at e;cases e
  have naoX:S.x≠S.ao:=λz=>by rw[z,hao]at hx;cases hx
  have line:∀k:Nat,k < 10000000->k < sizeLine:=λk hk=>Nat.lt_trans hk (by rw[sizeLine_eq];decide)
  have pw:CPow 10 60:=⟨by decide,by decide,by decide⟩;have Wz:((10:Int) ^ (60:Int).toNat).natAbs.log2 < 9000:=by decide +kernel
  refineλd hd=>?_
  have RV:∀{w},upd H d w S.x=some (.ins C.Toller S.dx S.fld):=λ{w}=>by rw[YH (YV hx hd)];exact hx
  refine⟨_,Z,S.x,C.Toller,S.dx,_,_,Z,RV,T.aa,T.az,Z,S.ao,kvA,Z,by rw[YH (YV hao hd)];exact hao,λo=>?_⟩;have T0:Tld H S.ao d o kvA O FF (upd (upd H d (.dT [])) S.ao (.frz o (.dK kvA))) [] [] (pg1 S.n (ps.take 0)):=by
   have nda:d≠S.ao:=(YV hao hd).symm;refine⟨λc w h1 h2=>by rw[YH h1,YH (YV h2 hd)];exact h2,λc w h1 h2=>?_,YC,by rw[YH nda,YC],⟨Z,λi kv x e=>by cases e⟩,⟨List.nodup_nil,(λx hx=>by cases hx),λn=>⟨(λhx=>by cases hx),λhx=>?_⟩⟩⟩
   ·by_cases hc:c=S.ao
    ·rw[hc,YC]at h2;cases h2;rfl
    ·rw[YH hc,YH h1]at h2;exact st.pl c w h2
   ·cases n with
    |part p b e=>rw[YMV]at hx;cases hx.1
    |beg=>cases hx
  have hxk:∀{H2 kvs fs Pg},Tld H S.ao d o kvA O FF H2 kvs fs Pg->H2 S.x=some (.ins C.Toller S.dx S.fld):=λt=>t.kp _ _ naoX hx
  refine YBz (Pv:=λi σ H2=>H2 S.ao=some (.frz o (.dK kvA))/\∃kvs fs v2 v3 v4 v5 v6,σ=[some (.ref S.x),some (.ref d),v2,v3,v4,v5,v6,none,none,none,none,none]/\Tld H S.ao d o kvA O FF H2 kvs fs (pg1 S.n (ps.take i))/\fs.length<=i * 3721) ⟨T0.ha,[],[],none,none,none,none,none,Z,T0,YKv _⟩ (λi σ H2 _ h=>h.1) ?_ ?_
  ·rintro i kv σ H2 hkv ⟨_,kvs,fs,v2,v3,v4,v5,v6,rfl,TT,hfl⟩;have hik:=(YKy.mp hkv).1;obtain⟨p,ep,ekv⟩:∃p,ps[i]?=some p/\kv.1=Sum.inr p:=by
    have e:=YL5 (λl=>l[i]?) hks;simp only[YK1]at e;rw[hkv]at e;obtain⟨p,h1,h2⟩:=YLX.mp e.symm;exact⟨p,h1,h2.symm⟩
   have hpm:=YKw ep;have RW:p∉ps.take i:=YCg pso.1 ep;obtain⟨a,bs,g1,g2,g3,g4,g5⟩:=RT p hpm;have ga:=TT.kp _ _ (naoL g3) g3;rw[ekv];refine⟨_,Z,S.x,C.Toller,S.dx,_,_,Z,hxk TT,T.aa,T.az,Z,_,Z,S.ao,_,Z,.inl ⟨_,Sum.inr p,.inr ⟨o,TT.ha⟩,Z,g1.symm⟩,a,Z,⟨_,.inl ga⟩,Ju (K:=K) (a:=a) (xs:=bs.map V.ref) (λj σ H3=>∃kvs fs v3 v4 v5 v6,σ=[some (.ref S.x),some (.ref d),some (.str p),v3,v4,v5,v6,none,none,none,none,none]/\Tld H S.ao d o kvA O FF H3 kvs fs (pg3 S.n (ps.take i) p j 0)/\fs.length<=i * 3721 + j * 61)
    ⟨kvs,fs,_,_,_,_,Z,TT.iff λn'=>?_,by lia⟩ ?_ ?_ ?_⟩
   ·cases n' with
    |part p' b e=>exact⟨λh=>h.elim id λh=>by lia,.inl⟩
    |beg=>exact Iff.rfl
   ·rintro j σ H3 _ ⟨kvs,fs,v3,v4,v5,v6,rfl,TT,_⟩;exact SqL.of (TT.kp _ _ (naoL g3) g3)
   ·rintro j y T' σ H3 hj hT' ⟨kvs,fs,v3,v4,v5,v6,rfl,TT,hfl⟩;rw[YK1]at hj;obtain⟨c,ec,rfl⟩:=YLX.mp hj;have hjn:j<=S.n:=by have:=(YKy.mp ec).1;lia
    obtain⟨hc1,hc⟩:=g5 j c ec;have T2:=TT.new (ys:=[.int (j:Nat),.ref c]) hT';have hcc:=T2.kp _ _ (naoL hc) hc;refine⟨T',_,Z,SqT.of YC,Z,_,_,Z,_,_,Z,Z,?_⟩;refine⟨_,Z,c,Z,⟨_,.inl hcc⟩,Ju (K:=K) (a:=c) (xs:=(ovR O p j).map V.int) (λk σ H4=>∃kvs fs v5 v6,σ=[some (.ref S.x),some (.ref d),some (.str p),some (.int (j:Nat)),some (.ref c),v5,v6,none,none,none,none,none]/\Tld H S.ao d o kvA O FF H4 kvs fs (pg3 S.n (ps.take i) p j k)/\fs.length<=i * 3721 + j * 61 + k)
     ⟨kvs,fs,_,_,Z,T2,by lia⟩ ?_ ?_ ?_⟩
    ·rintro k σ H4 _ ⟨kvs,fs,v5,v6,rfl,TT,_⟩;exact SqL.of (TT.kp _ _ (naoL hc) hc)
    ·rintro k y T'' σ H4 hk zN ⟨kvs,fs,v5,v6,rfl,TT,hfl⟩;have hkj:k<=j:=by
      have:=(YKy.mp hk).1;unfold ovR at this;rw[YKu,YKu,YLN]at this
      lia
     unfold ovR at hk;rw[YK1,YK1,YLg (by lia)]at hk;cases hk;have T3:=TT.new (ys:=[.int (k:Nat),V.int (O p k j)]) zN;refine⟨T'',_,Z,SqT.of YC,Z,_,_,Z,_,_,Z,Z,?_⟩;revert T3;generalize upd H4 T'' (.tup [.int (k:Nat),V.int (O p k j)])=H5;intro T3;refine⟨_,Z,_,_,Z,Z,pw,_,_,Z,by decide,Wz,λt ht=>?_⟩;have T4:=T3.new (ys:=[.int (O p k j / 10 ^ (60:Int).toNat),.int (O p k j % 10 ^ (60:Int).toNat)]) ht;have ym:upd H5 t (.tup [.int (O p k j / 10 ^ (60:Int).toNat),.int (O p k j % 10 ^ (60:Int).toNat)]) t=some (.tup [.int (O p k j / M60),.int (O p k j % M60)]):=YC;revert T4 ym;generalize upd H5 t (.tup [.int (O p k j / 10 ^ (60:Int).toNat),.int (O p k j % 10 ^ (60:Int).toNat)])=H6;intro T4 ym;refine⟨_,Z,_,Z,_,Z,_,Z,YMf (line 3 (by decide)),λkt yo=>?_⟩;have T5:=T4.new (ys:=[.str p,.int (k:Nat),.int (j:Nat)]) yo;refine⟨d,_,Z,YBs.t (k:=Zv (.part p k j)) T5.hd YC (line _ (by rw[T5.fd.1];lia)),?_⟩;have zO:¬pg3 S.n (ps.take i) p j k (.part p k j):=λh=>by
      rcases h with h |h
      ·exact RW h.1
      ·lia
     exact⟨_,_,_,_,Z,T5.put (n:=.part p k j) ((YJ.upd yo) _ _ ym) zO (λn'=>by
      cases n' with
      |part p' b e=>
       show((p'∈ps.take i/\b<=e/\e<=S.n)\/(p'=p/\b<=e/\(e < j\/(e=j/\b < k + 1))))<->(((p'∈ps.take i/\b<=e/\e<=S.n)\/(p'=p/\b<=e/\(e < j\/(e=j/\b < k))))\/Nd.part p' b e=.part p k j);rw[Nd.part.injEq];constructor
       ·rintro(h |⟨h1,h2,h3⟩)
        ·exact .inl (.inl h)
        ·by_cases WD:e=j/\b=k
         ·exact .inr ⟨h1,WD.2,WD.1⟩
         ·exact .inl (.inr ⟨h1,h2,by lia⟩)
       ·rintro((h |⟨h1,h2,h3⟩) |⟨h1,h2,h3⟩)
        ·exact .inl h
        ·exact .inr ⟨h1,h2,by lia⟩
        ·exact .inr ⟨h1,by lia,by lia⟩
      |beg=>exact⟨(λh=>by cases h),λh=>h.elim (λh=>by cases h) λh=>by cases h⟩) hd,by rw[YK5];show _ + 1<=_;lia⟩
    ·rintro σ H4 ⟨kvs,fs,v5,v6,rfl,TT,hfl⟩;have ell:((ovR O p j).map V.int).length=j + 1:=by unfold ovR;rw[YKu,YKu,YLN]
     rw[ell]at TT hfl;refine⟨kvs,fs,_,_,_,_,Z,TT.iff λn'=>?_,by lia⟩;cases n' with
     |part p' b e=>exact or_congr Iff.rfl ⟨λh=>⟨h.1,h.2.1,by lia⟩,λh=>⟨h.1,h.2.1,by lia⟩⟩
     |beg=>exact Iff.rfl
   ·rintro σ H3 ⟨kvs,fs,v3,v4,v5,v6,rfl,TT,hfl⟩;rw[YKu,g4]at TT hfl;refine⟨TT.ha,kvs,fs,_,_,_,_,_,Z,TT.iff λn'=>?_,by lia⟩;have et:ps.take (i + 1)=ps.take i ++ [p]:=by rw[YLn,ep];rfl
    cases n' with
    |part p' b e=>
     show(p'∈ps.take (i + 1)/\b<=e/\e<=S.n)<->_;rw[et];constructor
     ·rintro⟨h1,h2,h3⟩;rcases YLQ.mp h1 with h1 |h1
      ·exact .inl ⟨h1,h2,h3⟩
      ·exact .inr ⟨YK4.mp h1,h2,by lia⟩
     ·rintro(⟨h1,h2,h3⟩ |⟨h1,h2,h3⟩)
      ·exact⟨YLd _ h1,h2,h3⟩
      ·exact⟨YLH _ (YK4.mpr h1),h2,by lia⟩
    |beg=>exact Iff.rfl
  ·rintro σ H2 ⟨_,kvs,fs,v2,v3,v4,v5,v6,rfl,TT,hfl⟩;rw[hkl,YL9]at TT;rw[hkl]at hfl;obtain⟨ts,b1,b2,b3,b4⟩:=st.haf;rw[pre.r]at b3;have m6:=YAs pre.g;have zP:=TT.kp _ _ (naoL b2) b2;refine⟨_,Z,S.x,C.Toller,S.dx,_,_,Z,hxk TT,T.aa,T.aK,Z,S.af,Z,⟨_,.inl zP⟩,Ju (K:=K) (a:=S.af) (xs:=ts.map V.ref) (λr σ H3=>∃kvs fs v4 v5 v6 v7 v8 v9 jM jZ,σ=[some (.ref S.x),some (.ref d),v2,v3,v4,v5,v6,v7,v8,v9,jM,jZ]/\Tld H S.ao d o kvA O FF H3 kvs fs (pg7 S ps r 0 0 0)/\fs.length<=1562820 + r * 26047)
    ⟨kvs,fs,_,_,_,_,_,_,_,_,Z,TT.iff λn'=>?_,by lia⟩ ?_ ?_ ?_⟩
   ·cases n' with
    |part=>exact Iff.rfl
    |beg r' d' b' e=>exact⟨λh=>by have:=h.2.2.2;lia,λh=>by cases h⟩
   ·rintro r σ H3 _ ⟨kvs,fs,v4,v5,v6,v7,v8,v9,jM,jZ,rfl,TT,_⟩;exact SqL.of (TT.kp _ _ (naoL b2) b2)
   ·rintro r y T1 σ H3 hr' hT1 ⟨kvs,fs,v4,v5,v6,v7,v8,v9,jM,jZ,rfl,TT,hfl⟩;rw[YK1]at hr';obtain⟨t,et,rfl⟩:=YLX.mp hr';have hrl:r < S.g.length:=by have:=(YKy.mp et).1;lia
    obtain⟨ρ,hρ⟩:∃ρ,S.g[r]?=some ρ:=⟨_,YKx hrl⟩;have h6:=(JL pre.g (YKw hρ)).2.1;have vR:=Xi S.s ρ.2.1;obtain⟨ds,c1,c2,c3,c4⟩:=b4 r t ρ et hρ;have T2:=TT.new (ys:=[.int (r:Nat),.ref t]) hT1;have mZ:=T2.kp _ _ (naoL c2) c2;refine⟨T1,_,Z,SqT.of YC,Z,_,_,Z,_,_,Z,Z,?_⟩;refine⟨_,Z,t,Z,⟨_,.inl mZ⟩,Ju (K:=K) (a:=t) (xs:=ds.map V.ref) (λdd σ H4=>∃kvs fs v4 v5 v6 v9 jM jZ,σ=[some (.ref S.x),some (.ref d),v2,v3,v4,v5,v6,some (.int (r:Nat)),some (.ref t),v9,jM,jZ]/\Tld H S.ao d o kvA O FF H4 kvs fs (pg7 S ps r dd 0 0)/\fs.length<=1562820 + r * 26047 + dd * 3721)
     ⟨kvs,fs,_,_,_,_,_,_,Z,T2,by lia⟩ ?_ ?_ ?_⟩
    ·rintro dd σ H4 _ ⟨kvs,fs,v4,v5,v6,v9,jM,jZ,rfl,TT,_⟩;exact SqL.of (TT.kp _ _ (naoL c2) c2)
    ·rintro dd y T3 σ H4 hd' hT3 ⟨kvs,fs,v4,v5,v6,v9,jM,jZ,rfl,TT,hfl⟩;rw[YK1]at hd';obtain⟨u,eu,rfl⟩:=YLX.mp hd';have hdR:dd<=rch S.s ρ.2.1:=by have:=(YKy.mp eu).1;lia
     obtain⟨es,k1,k2,k3,k4⟩:=c4 dd u eu;have T4:=TT.new (ys:=[.int (dd:Nat),.ref u]) hT3;have y_:=T4.kp _ _ (naoL k2) k2;refine⟨T3,_,Z,SqT.of YC,Z,_,_,Z,_,_,Z,Z,?_⟩;refine⟨_,Z,u,Z,⟨_,.inl y_⟩,Ju (K:=K) (a:=u) (xs:=es.map V.ref) (λb σ H5=>∃kvs fs v4 v5 v6 jZ,σ=[some (.ref S.x),some (.ref d),v2,v3,v4,v5,v6,some (.int (r:Nat)),some (.ref t),some (.int (dd:Nat)),some (.ref u),jZ]/\Tld H S.ao d o kvA O FF H5 kvs fs (pg7 S ps r dd b 0)/\fs.length<=1562820 + r * 26047 + dd * 3721 + b * 61)
      ⟨kvs,fs,_,_,_,_,Z,T4,by lia⟩ ?_ ?_ ?_⟩
     ·rintro b σ H5 _ ⟨kvs,fs,v4,v5,v6,jZ,rfl,TT,_⟩;exact SqL.of (TT.kp _ _ (naoL k2) k2)
     ·rintro b y T5 σ H5 hb' hT5 ⟨kvs,fs,v4,v5,v6,jZ,rfl,TT,hfl⟩;rw[YK1]at hb';obtain⟨c,ec,rfl⟩:=YLX.mp hb';have QH:b<=S.n:=by have:=(YKy.mp ec).1;lia
      obtain⟨hc1,hc⟩:=k4 b c ec;have eK:KK r dd b=S.n + 1 - b:=by
       rw[kok r ρ hρ dd hdR b QH];unfold cnt;rw[if_neg (by lia)]
      rw[eK]at hc;have T6:=TT.new (ys:=[.int (b:Nat),.ref c]) hT5;have hc6:=T6.kp _ _ (naoL hc) hc;have ell:((fiR FF r dd b (S.n + 1 - b)).map V.int).length=S.n + 1 - b:=by unfold fiR;rw[YKu,YKu,YLN]
      refine⟨T5,_,Z,SqT.of YC,Z,_,_,Z,_,_,Z,Z,?_⟩;refine⟨_,Z,c,Z,⟨_,.inl hc6⟩,Ju (K:=K) (a:=c) (xs:=(fiR FF r dd b (S.n + 1 - b)).map V.int) (λk σ H6=>∃kvs fs v6 jZ,σ=[some (.ref S.x),some (.ref d),v2,v3,some (.ref c),some (.int (b:Nat)),v6,some (.int (r:Nat)),some (.ref t),some (.int (dd:Nat)),some (.ref u),jZ]/\Tld H S.ao d o kvA O FF H6 kvs fs (pg7 S ps r dd b k)/\fs.length<=1562820 + r * 26047 + dd * 3721 + b * 61 + k)
       ⟨kvs,fs,_,_,Z,T6,by lia⟩ ?_ ?_ ?_⟩
      ·rintro k σ H6 _ ⟨kvs,fs,v6,jZ,rfl,TT,_⟩;exact SqL.of (TT.kp _ _ (naoL hc) hc)
      ·rintro k y T7 σ H6 hk hT7 ⟨kvs,fs,v6,jZ,rfl,TT,hfl⟩;have hkn:k < S.n + 1 - b:=by
        have:=(YKy.mp hk).1
        rwa [ell]at this
       unfold fiR at hk;rw[YK1,YK1,YLg hkn]at hk;cases hk;have T8:=TT.new (ys:=[.int (k:Nat),V.int (FF r dd b k)]) hT7;refine⟨T7,_,Z,SqT.of YC,Z,_,_,Z,_,_,Z,Z,?_⟩;revert T8;generalize upd H6 T7 (.tup [.int (k:Nat),V.int (FF r dd b k)])=H7;intro T8;refine⟨_,Z,_,_,Z,Z,pw,_,_,Z,by decide,Wz,λtv za=>?_⟩;have T9:=T8.new (ys:=[.int (FF r dd b k / 10 ^ (60:Int).toNat),.int (FF r dd b k % 10 ^ (60:Int).toNat)]) za;have eb:b + k - b=k:=by lia
       have QJ:upd H7 tv (.tup [.int (FF r dd b k / 10 ^ (60:Int).toNat),.int (FF r dd b k % 10 ^ (60:Int).toNat)]) tv=some (.tup [.int (FF r dd b (b + k - b) / M60),.int (FF r dd b (b + k - b) % M60)]):=by rw[eb];exact YC
       revert T9 QJ;generalize upd H7 tv (.tup [.int (FF r dd b k / 10 ^ (60:Int).toNat),.int (FF r dd b k % 10 ^ (60:Int).toNat)])=H8;intro T9 QJ;refine⟨_,Z,_,Z,_,Z,_,Z,_,Z,_,Z,_,_,Z,Z,YMf (line 4 (by decide)),λkt yo=>?_⟩;have Ta:=T9.new (ys:=[.int (r:Nat),.int (dd:Nat),.int (b:Nat),.int ((b:Int) + (k:Int))]) yo;refine⟨d,_,Z,YBs.t (k:=Zv (.beg r dd b (b + k))) Ta.hd (by rw[YC];rfl) (line _ (by rw[Ta.fd.1];lia)),?_⟩;have zQ:¬pg7 S ps r dd b k (.beg r dd b (b + k)):=λh=>by have:=h.2.2.2;lia
       exact⟨_,_,_,_,Z,Ta.put (n:=.beg r dd b (b + k)) ((YJ.upd yo) _ _ QJ) zQ (λn'=>by
        cases n' with
        |part=>exact⟨.inl,λh=>h.elim id λh=>by cases h⟩
        |beg r' d' b' e=>
         show((∃ρ,S.g[r']?=some ρ/\d'<=rch S.s ρ.2.1)/\b'<=e/\e<=S.n/\(r' < r\/(r'=r/\(d' < dd\/(d'=dd/\(b' < b\/(b'=b/\e < b + (k + 1))))))))<->(((∃ρ,S.g[r']?=some ρ/\d'<=rch S.s ρ.2.1)/\b'<=e/\e<=S.n/\(r' < r\/(r'=r/\(d' < dd\/(d'=dd/\(b' < b\/(b'=b/\e < b + k)))))))\/Nd.beg r' d' b' e=.beg r dd b (b + k));rw[Nd.beg.injEq];constructor
         ·rintro⟨h1,h2,h3,h4⟩
          by_cases hx':r'=r/\d'=dd/\b'=b/\e=b + k
          ·exact .inr hx'
          ·exact .inl ⟨h1,h2,h3,by lia⟩
         ·rintro(⟨h1,h2,h3,h4⟩ |⟨h1,h2,h3,h4⟩)
          ·exact⟨h1,h2,h3,by lia⟩
          ·subst h1 h2 h3 h4;exact⟨⟨ρ,hρ,hdR⟩,by lia,by lia,by lia⟩) hd,by rw[YK5];show _ + 1<=_;lia⟩
      ·rintro σ H6 ⟨kvs,fs,v6,jZ,rfl,TT,hfl⟩;rw[ell]at TT hfl;refine⟨kvs,fs,_,_,_,_,Z,TT.iff λn'=>?_,by lia⟩;cases n' with
       |part=>exact Iff.rfl
       |beg r' d' b' e=>exact⟨λh=>⟨h.1,h.2.1,h.2.2.1,by have:=h.2.1;have:=h.2.2.1;have:=h.2.2.2;lia⟩,λh=>⟨h.1,h.2.1,h.2.2.1,by have:=h.2.1;have:=h.2.2.1;have:=h.2.2.2;lia⟩⟩
     ·rintro σ H5 ⟨kvs,fs,v4,v5,v6,jZ,rfl,TT,hfl⟩;rw[YKu,k3]at TT hfl;refine⟨kvs,fs,_,_,_,_,_,_,Z,TT.iff λn'=>?_,by lia⟩;cases n' with
      |part=>exact Iff.rfl
      |beg r' d' b' e=>exact and_congr Iff.rfl ⟨λh=>⟨h.1,h.2.1,by lia⟩,λh=>⟨h.1,h.2.1,by lia⟩⟩
    ·rintro σ H4 ⟨kvs,fs,v4,v5,v6,v9,jM,jZ,rfl,TT,hfl⟩;rw[YKu,c3]at TT hfl;refine⟨kvs,fs,_,_,_,_,_,_,_,_,Z,TT.iff λn'=>?_,by lia⟩;cases n' with
     |part=>exact Iff.rfl
     |beg r' d' b' e=>
      refine⟨λh=>⟨h.1,h.2.1,h.2.2.1,?_⟩,λh=>⟨h.1,h.2.1,h.2.2.1,by have:=h.2.2.2;lia⟩⟩;obtain⟨ρ',h1,h2⟩:=h.1;have h3:=h.2.2.2
      by_cases hrr:r'=r
      ·subst hrr;rw[hρ]at h1;cases h1
       lia
      ·lia
   ·rintro σ H3 ⟨kvs,fs,v4,v5,v6,v7,v8,v9,jM,jZ,rfl,TT,hfl⟩;rw[YKu,b3]at TT;refine⟨_,Z,d,kvs,TT.hd,λo'=>?_⟩;have k0:∀c w,c≠d->H3 c=some w->upd H3 d (.frz o' (.dT kvs)) c=some w:=λc w h1 h2=>by rw[YH h1];exact h2
    refine q d o' kvs fs _ (λc w h=>?_) (λc w h=>?_) YC (TT.fd.keep λt ys e=>k0 _ _ (λz=>by rw[z,TT.hd]at e;cases e) e) (TT.fp.iff λn'=>?_)
    ·have hc:=st.sm _ _ h;exact k0 _ _ (YV hc hd) (TT.kp c w (YV h tM) hc)
    ·by_cases hc:c=d
     ·rw[hc,YC]at h;cases h;rfl
     ·rw[YH hc]at h;exact TT.pl c w hc h
    ·cases n' with
     |part=>exact Iff.rfl
     |beg r' d' b' e=>
      refine⟨λh=>⟨h.1,h.2.1,h.2.2,.inl ?_⟩,λh=>⟨h.1,h.2.1,h.2.2.1⟩⟩;obtain⟨ρ',h1,_⟩:=h.1;exact(YKy.mp h1).1
end
structure ZK (g:Yy) (t:Str) (a b c:Int) (T:Tol) (ps:List Str) (O:OvF) (F:FiF) (fs:List (Nd×Int)):Prop where
 eg:T.g=g
 et:T.t=t
 en:T.n=t.length
 ep:T.put=a * M60
 ec:T.cut=b * M60
 es:T.swap=c * M60
 sz:YAW T.g T.put T.s
 fx:Fix T.g T.put T.s
 po:YDQ g T.s ps
 iv:YCV T O F (T.n + 1) 0
 fp:FdP O F fs (YAf T ps)
inductive YGa (vs:List V) (H:Hp) (Q:VK):Prop where
 |mk (x y:V) (ct:Addr) (g:Yy) (t:Str) (a b c:Int) (aX:vs=[x,y,.ref ct]) (aY:Den H x (YAI g)) (bU:(YAI g).short=true) (cN:Y5 g=true) (dh:y=.str t) (i_:Jn t=true) (lD:H ct=some (.tup [.int a,.int b,.int c])) (n_:(0<=a/\a<=10 ^ 60)) (uE:(0<=b/\b<=10 ^ 60)) (ye:(0<=c/\c<=10 ^ 60)) (wB:YL H) (wC:∀d o kvs fs T ps O F H',YJ H H'->YL H'->H' d=some (.frz o (.dT kvs))->FdT H' kvs fs->ZK g t a b c T ps O F fs->Q (.ref d) H'):YGa vs H Q
def YFJ:Sp:=λvs H Q E_=>YGa vs H Q
section
variable {P:Program}{w:World}{K:W.Frag}{mg:Str->Option Value}{base:Heap}{C:Adr}
theorem YGb:YW ["grammar","text","costs","toller"] ["grammar","text","costs"] (YK YFF):=⟨Z,Z,Z,by decide +kernel,Z,by decide +kernel,by decide +kernel⟩
theorem YKf {f:Addr}{fd:FuncData} (F:Fun K "tolls" "tolls" YFF f fd) (T:Txt K mg C) (cu:Zx P w K mg (CXo P w) 7 "checked" ["thing"] (YBx C.NoGrammar)) (cG:Zx P w K mg (CXo P w) 3 "checked_text" ["thing"] (YC7 C.NoText)) (b_:Zx P w K mg (CXo P w) 3 "checked_costs" ["thing"] (YAa C.NoCosts)) (bJ:UsedI P w K mg CX0 4 C.Toller ["self","rules","text","costs"] (YIN C.Toller)) (bK:Js P w K mg CX0 3 C.Toller "take_all" ["self"] (YEZ C.Toller)) (bj:Js P w K mg CX0 1 C.Toller "told_tolls" ["self"] (YKe C.Toller)):Yw P w K mg base (CXo P w) 9 f fd ["grammar","text","costs"] (YFJ):=by
 obtain⟨qy,nO,iU,iV,iW,iY⟩:=cu.ok;obtain⟨rG,qO,jx,jy,jz,jA⟩:=cG.ok;obtain⟨qP,qz,jc,jd,je,jf⟩:=b_.ok;obtain⟨pD,nP,gY,gZ,g8⟩:=bJ.ok;obtain⟨pF,nQ,g_,gA,ie⟩:=bK.ok;obtain⟨mU,lX,eE,dC,eG⟩:=bj.ok;refine F.okX YGb (λvs H Q E h=>?_) (λaO A outer s H vs Q E hr h=>?_)
 ·cases h;subst_vars;rfl
 ·obtain⟨x,y,ct,g,t,a,b,c,rfl,den,sh,hg,rfl,ht,hct,ha,hb,hc,hp,q⟩:=h;have hu:=Zw hr;refine qex ?_;refine⟨_,(YE ⟨(YQ (i:=3) YGb.nd rfl (Or.inl rfl) (YHu gZ (gY base) (hr.mono (by decide)) (by rfl) T.q_ g8 .nil Yj (YA (Ye (iU base) (hr.mono (by decide)) (by rfl) iV iW iY .nil JE.on (YA (pv 0) YD)) (YA (Ye (jx base) (hr.mono (by decide)) (by rfl) jy jz jA .nil JE.on (YA (pv 1) YD)) (YA (Ye (jc base) (hr.mono (by decide)) (by rfl) jd je jf .nil JE.on (YA (pv 2) YD)) YD)))))⟩
   (YE ⟨(Y6 (YCr (pv 3) T.aa gA (g_ base) (hr.mono (by decide)) ie .nil Yj))⟩
   (Y7 ⟨(YZ (YCr (pv 3) T.aa dC (eE base) (hr.mono (by decide)) eG .nil Yj))⟩))),?_⟩
  have hx0:Xb (YAI g)=true:=by rw[Xh];exact hg
  have hcd:Den H (.ref ct) (.tup [.int a,.int b,.int c]):=.tup hct (.cons (.int _) (.cons (.int _) (.cons (.int _) .nil)));have hcc:YBa (.tup [.int a,.int b,.int c])=true:=by
   show(decide (3=3) && [D.int a,.int b,.int c].all Yz)=true;have wk:∀i:Int,0<=i/\i<=10 ^ 60->Yz (.int i)=true:=λi h=>by
    show(decide (0<=i) && decide (i<=10 ^ 60))=true;rw[YK2 h.1,YK2 h.2];rfl
   rw[YMj,YMj,YMj,wk a ha,wk b hb,wk c hc];rfl
  have htl:t.length<=60:=by
   unfold Jn at ht;rw[YLC,YLm]at ht;exact ht.1
  refine⟨_,Z,x,YAI g,Z,den,sh,hp,λ_ l xs ds eds hds hl=>?_,λz=>by rw[hx0]at z;cases z⟩;have vg:ds=g.map ZF:=(D.lst.inj eds).symm;subst vg;have s1:=YJ.upd (o:=.lst xs) hl;have p1:YL (upd H l (.lst xs)):=hp.upd rfl;have hl1:upd H l (.lst xs) l=some (.lst xs):=YC;revert s1 p1 hl1;generalize upd H l (.lst xs)=H1;intro s1 p1 hl1;refine⟨_,Z,.str t,.str t,Z,.str t,?_,p1,λz ez _=>?_,λz=>by rw[show YBW (.str t)=Jn t from rfl,ht]at z;cases z⟩
  ·exact YBv (by lia)
  ·cases ez;refine⟨_,Z,.ref ct,_,Z,hcd.same s1,?_,p1,λ_=>?_,λz=>by rw[hcc]at z;cases z⟩
   ·unfold D.short;exact Xu λd hd=>by
     simp only[YLB,YLj,or_false]at hd;rcases hd with rfl |rfl |rfl <;> (unfold D.short;rfl)
   ·refineλxx dx yp QK hne=>?_
    have ex:upd (upd H1 dx (.own xx)) xx (.ins C.Toller dx []) xx=some (.ins C.Toller dx []):=YC;have s2:YJ H1 (upd (upd H1 dx (.own xx)) xx (.ins C.Toller dx [])):=(YJ.upd QK).put yp;have p2:YL (upd (upd H1 dx (.own xx)) xx (.ins C.Toller dx [])):=(p1.upd rfl).upd rfl;refine⟨H1,xx,dx,l,ct,t,xs,g,a,b,c,Z,ex,yp,s2,p2,hl1,hds.same s1,hg,htl,s1 _ _ hct,ha,hb,hc,λT' own ps H' pre exx eg et ep ec es hao st po=>⟨Z,?_⟩⟩;subst exx;have hx':H' T'.x=some (.ins C.Toller T'.dx T'.fld):=by rw[<-pre.c];exact st.hx
    refine⟨_,Z,T'.x,T'.dx,_,Z,hx',Z,T',own,ps,H1,Z,pre,st,by rw[eg];exact po,λO F K2 H2 jF I2 k2=>?_⟩;have hx2:H2 T'.x=some (.ins C.Toller T'.dx T'.fld):=by rw[<-pre.c];exact jF.hx
    refine⟨_,Z,T'.x,T'.dx,_,Z,hx2,Z,T',own,ps,H1,O,F,K2,Z,pre,jF,by rw[eg];exact po,k2,hao,λd o kvs fs H3 s3 p3 hd fd fp=>?_⟩;exact q d o kvs fs T' ps O F H3 (s1.trans s3) p3 hd fd ⟨eg,et,by rw[<-et];exact pre.t.symm,ep,ec,es,pre.s,pre.fx,po,I2,fp⟩
end
def pr (x:Int):Int×Int:=(x / M60,x % M60)
theorem ZZ:(0:Int) < M60:=by decide +kernel
theorem YHf {x y:Int} (h:x % M60 + y % M60 < M60):((pr x).1 + (pr y).1,(pr x).2 + (pr y).2)=pr (x + y):=by
 have hx:=YLw x (YMg ZZ);have hy:=YLw y (YMg ZZ);have ex:=YMD x M60;have ey:=YMD y M60;have h2:(x + y) % M60=x % M60 + y % M60:=by
  rw[Int.add_emod];exact Int.emod_eq_of_lt (by lia) h
 have h1:(x + y) / M60=x / M60 + y / M60:=by
  have e:=YMD (x + y) M60;rw[h2]at e;have:M60 * ((x + y) / M60)=M60 * (x / M60 + y / M60):=by rw[Int.mul_add];lia
  exact Int.eq_of_mul_eq_mul_left (YMg ZZ) this
 unfold pr;rw[h1,h2]
theorem ltP_pr (x y:Int):ltP (pr x) (pr y)=decide (x < y):=by
 have hx:=YLw x (YMg ZZ);have hy:=YLw y (YMg ZZ);have hx2:=YL6 x ZZ;have Wq:=YL6 y ZZ;have ex:=YMD x M60;have ey:=YMD y M60;unfold ltP pr;refine decide_eq_decide.mpr ⟨λh=>?_,λh=>?_⟩
 ·rcases h with h |⟨h1,h2⟩
  ·have:M60 * (x / M60) + M60<=M60 * (y / M60):=by
    have:=YLv (show x / M60 + 1<=y / M60 from h) (YMK ZZ);rw[Int.mul_add,Int.mul_one]at this;exact this
   lia
  ·dsimp only at h1 h2;rw[h1]at ex
   lia
 ·rcases Int.lt_trichotomy (x / M60) (y / M60) with h1 |h1 |h1
  ·exact .inl h1
  ·refine .inr ⟨h1,?_⟩;rw[h1]at ex;dsimp only
   lia
  ·exfalso
   have:M60 * (y / M60) + M60<=M60 * (x / M60):=by
    have:=YLv (show y / M60 + 1<=x / M60 from h1) (YMK ZZ);rw[Int.mul_add,Int.mul_one]at this;exact this
   lia
theorem YFK (x:Int):pr (x * M60)=(x,0):=by
 unfold pr;rw[Int.mul_ediv_cancel _ (YMg ZZ),Int.mul_emod_left]
theorem YIS (x:Int):pr (x * M60 + 1)=(x,1):=by
 have h:=YHf (x:=x * M60) (y:=1) (by rw[Int.mul_emod_left];decide +kernel);rw[<-h,YFK];have e:pr 1=(0,1):=by decide +kernel
 rw[e,YMh,YLr]
theorem YKg (x y:Int):x * M60 < y * M60<->x < y:=⟨λh=>Int.lt_of_mul_lt_mul_right h (YMK ZZ),λh=>Int.mul_lt_mul_of_pos_right h ZZ⟩
theorem YCh (t:Str) (a b c:Int) (p:Str) (i j:Nat):sgT t (a * M60) (b * M60) (c * M60) p i j=sgT t a b c p i j * M60:=by
 unfold sgT
 by_cases h:j<=i
 ·rw[if_pos h,if_pos h]
 ·rw[if_neg h,if_neg h];have e1:((j:Int) - i) * (b * M60) + a * M60=(((j:Int) - i) * b + a) * M60:=by rw[YMC,Int.mul_assoc]
  have e2:((j:Int) - i - 1) * (b * M60) + (if X2 (XO p) t i j=true then 0 else c * M60)=(((j:Int) - i - 1) * b + (if X2 (XO p) t i j=true then 0 else c)) * M60:=by
   rw[YMC,Int.mul_assoc];split
   ·rw[YML]
   ·rfl
  rw[e1,e2]
  by_cases h2:((j:Int) - i - 1) * b + (if X2 (XO p) t i j=true then 0 else c) < ((j:Int) - i) * b + a
  ·rw[if_pos ((YKg _ _).mpr h2),if_pos h2]
  ·rw[if_neg (λz=>h2 ((YKg _ _).mp z)),if_neg h2]
section
variable {g:Yy}{t:Str}{a b c:Int}{T:Tol}{ps:List Str}{O:OvF}{F:FiF}{fs:List (Nd×Int)}
theorem ZK.ok (W:ZK g t a b c T ps O F fs) (hb:0<=b):X1 g T.s T.cut M60 O F t.length where
 cut0:=by rw[W.ec];exact YLo hb (YMK ZZ)
 cutM:=by rw[W.ec];exact Int.mul_emod_left ..
 one:=by decide +kernel
 pos:=W.iv.pos
 sg:=λp i j h=>by rw[W.iv.sg p i j h,W.ep,W.ec,W.es,YCh];exact Int.mul_emod_left ..
 f:=λi m h=>by rw[<-W.eg];exact(W.iv.dn i m ⟨by rw[W.en];exact h,.inl (by rw[W.en];lia)⟩).f
 o:=λi m h=>by rw[<-W.eg];exact(W.iv.dn i m ⟨by rw[W.en];exact h,.inl (by rw[W.en];lia)⟩).o
theorem ZK.part (W:ZK g t a b c T ps O F fs) {ρ:Y4} (hr:ρ∈g) {p:Str} (hp:p∈ρ.2.1):p∈ps<->okP T.s p=true:=by
 obtain⟨_,k,hd,hq,_⟩:=W.po;refine⟨k p,λh=>?_⟩;unfold okP at h;rw[Bool.or_eq_true]at h;rcases h with h |h
 ·exact hq ρ hr p hp h
 ·obtain⟨v,hv⟩:=YLZ.mp h;exact hd p v hv
theorem ZK.head (W:ZK g t a b c T ps O F fs) {h:Str} (hq:isQ h=false):h∈ps<->∃ρ∈g,ρ.1=h/\rch T.s ρ.2.1=ρ.2.1.length:=by
 obtain⟨_,k,hd,_,_⟩:=W.po;constructor
 ·intro hp;have h1:=k h hp;unfold okP at h1;rw[hq,YMT]at h1;obtain⟨v,hv⟩:=YLZ.mp h1;obtain⟨ρ,hr,e,m,hm,_⟩:=W.sz.hd h v hv;exact⟨ρ,by rw[<-W.eg];exact hr,e,X0 (YFA hm)⟩
 ·rintro⟨ρ,hr,rfl,hf⟩;have all:∀p∈ρ.2.1,okP T.s p=true:=λp hp=>by
   obtain⟨j,hj⟩:=List.getElem?_of_mem hp;have hlt:j < ρ.2.1.length:=by
    rcases YLz j ρ.2.1.length with h |h
    ·exact h
    ·rw[YLf h]at hj;cases hj
   obtain⟨p',e1,e2⟩:=Zy (s:=T.s) (ps:=ρ.2.1) (j:=j) (by rw[hf];exact hlt);rw[hj]at e1;cases e1;exact e2
  obtain⟨m,hm⟩:=YCf (q:=T.put) (a:=1) all;obtain⟨v,hv,_⟩:=W.fx ρ (by rw[W.eg];exact hr) m hm;exact hd _ v hv
theorem ZK.sumB (W:ZK g t a b c T ps O F fs) (hb:0<=b) (h6:∀ρ∈g,ρ.2.1.length<=6) (hB:(t.length + 1) * T.s.length<=60) {r:Nat}{ρ:Y4} (hr:g[r]?=some ρ) {d i m k:Nat}{p:Str} (hd:d<=rch T.s ρ.2.1) (hp:okP T.s p=true) (hk:k<=m) (hm:i + m<=t.length):
  ((pr (F r d i k)).1 + (pr (O p (i + k) (i + m))).1,(pr (F r d i k)).2 + (pr (O p (i + k) (i + m))).2)=pr (F r d i k + O p (i + k) (i + m)):=by
 have X:=W.ok hb;have h1:=X.ruleB h6 hr hd (show i + k<=t.length by lia);have h2:=X.partB h6 hp (show i + k<=i + m by lia) hm;have h3:=YAu (l:=(t.length + 1) * T.s.length + 1) (l':=61) (by lia);have h4:=YAu (l:=(t.length + 1) * T.s.length) (l':=60) hB;have h5:(7:Int) ^ 61 + 7 ^ 60 < M60:=by decide +kernel
 exact YHf (by lia)
theorem ZK.get (W:ZK g t a b c T ps O F fs) {H:Hp}{kvs:List (List Key×V)} (fd:FdT H kvs fs) (n:Nd):(Zf kvs (Zv n)=none/\¬YAf T ps n)\/∃u,Zf kvs (Zv n)=some (.ref u)/\YAf T ps n/\H u=some (.tup [.int (pr (YAe O F n)).1,.int (pr (YAe O F n)).2]):=by
 rcases fd.val n with ⟨h1,h2⟩ |⟨u,v,h1,h2,h3⟩
 ·exact .inl ⟨h1,λz=>h2 ((W.fp.mem n).mpr z)⟩
 ·have hv:=W.fp.val _ h2;dsimp only at hv;subst hv;exact .inr ⟨u,h1,(W.fp.mem n).mp (YLL.mpr ⟨_,h2,Z⟩),h3⟩
end
section
variable {g:Yy}{s:Sz}{cut M:Int}{O:OvF}{F:FiF}{n:Nat}
theorem YBd {p:Str} (hp:okP s p=true) (hq:isQ p=false):∃v,look s p=some v:=by
 unfold okP at hp;rw[hq,YMT]at hp;exact YLZ.mp hp
end
inductive Dd
 |keep (c:Nat)
 |cut (c:Nat)
 |swap (c c':Nat)
 |put (c:Nat)
def ddD:Dd->D
 |.keep c=>.tup [.str "keep",.str ⟨#[c]⟩]
 |.cut c=>.tup [.str "cut",.str ⟨#[c]⟩]
 |.swap c c'=>.tup [.str "swap",.str ⟨#[c]⟩,.str ⟨#[c']⟩]
 |.put c=>.tup [.str "put",.str ⟨#[c]⟩]
def ddT:Dd->List Nat
 |.keep c=>[c]
 |.cut c=>[c]
 |.swap c _=>[c]
 |.put _=>[]
def ddM:Dd->List Nat
 |.keep c=>[c]
 |.cut _=>[]
 |.swap _ c'=>[c']
 |.put c=>[c]
def ddC (a b c:Int):Dd->Int
 |.keep _=>0
 |.cut _=>b
 |.swap _ _=>c
 |.put _=>a
def ddOk:Dd->Prop
 |.swap c c'=>c≠c'
 |_=>True
def tkL (ds:List Dd):List Nat:=ds.flatMap ddT
def mkL (ds:List Dd):List Nat:=ds.flatMap ddM
def coL (a b c:Int) (ds:List Dd):Int:=(ds.map (ddC a b c)).sum
def JB (t:Str) (i j:Nat):List Nat:=(t.cps.toList.drop i).take (j - i)
theorem YCi (x y:List Dd):tkL (x ++ y)=tkL x ++ tkL y:=by unfold tkL;rw[List.flatMap_append]
theorem YCj (x y:List Dd):mkL (x ++ y)=mkL x ++ mkL y:=by unfold mkL;rw[List.flatMap_append]
theorem YCk (a b c:Int) (x y:List Dd):coL a b c (x ++ y)=coL a b c x + coL a b c y:=by unfold coL;rw[YLE,List.sum_append]
theorem YBe:∀l:List Nat,tkL (l.map Dd.cut)=l
 |[]=>rfl
 |c :: l=>YL5 (c :: ·) (YBe l)
theorem YBf:∀l:List Nat,mkL (l.map Dd.cut)=[]
 |[]=>rfl
 |c :: l=>YBf l
theorem YBg (a b c:Int):∀l:List Nat,coL a b c (l.map Dd.cut)=l.length * b
 |[]=>by show(0:Int)=((0:Nat):Int) * b;simp
 |x :: l=>by
  show b + coL a b c (l.map Dd.cut)=((l.length + 1:Nat):Int) * b;rw[YBg a b c l,Int.natCast_add,YMC];show b + _=_ + 1 * b
  lia
theorem ZL {t:Str}{i j:Nat} (h:j<=t.length):(JB t i j).length=j - i:=by
 have hl:t.cps.toList.length=t.length:=YLK;unfold JB;rw[YL3,List.length_drop]
 lia
theorem YDT {t:Str}{i k j:Nat} (h1:i<=k) (h2:k<=j) (h3:j<=t.length):JB t i k ++ JB t k j=JB t i j:=by
 unfold JB;have e:t.cps.toList.drop k=(t.cps.toList.drop i).drop (k - i):=by rw[List.drop_drop];congr 1;lia
 rw[e,show j - i=(k - i) + (j - k) by lia,List.take_add]
theorem YKh {t:Str}{k:Nat}{c:Nat} (h:t.cps.toList[k]?=some c):JB t k (k + 1)=[c]:=by
 unfold JB;obtain⟨h1,h2⟩:=YKy.mp h;rw[YLy h1,h2,YMF];rfl
theorem X4 {t:Str}{i j:Nat}{c:Nat}:c∈JB t i j<->∃k,i<=k/\k < j/\t.cps.toList[k]?=some c:=by
 unfold JB;rw[List.mem_iff_getElem?];constructor
 ·rintro⟨n,h⟩;rw[List.getElem?_take]at h;split at h
  ·rw[List.getElem?_drop]at h;exact⟨i + n,by lia,by lia,h⟩
  ·cases h
 ·rintro⟨k,h1,h2,h3⟩;refine⟨k - i,?_⟩;rw[List.getElem?_take,if_pos (by lia),List.getElem?_drop,show i + (k - i)=k by lia];exact h3
structure SgD (t:Str) (a b c:Int) (p:Str) (i j:Nat) (sd:List Dd):Prop where
 tk:tkL sd=JB t i j
 mkd:mkL sd=[sgn p]
 co:coL a b c sd=sgT t a b c p i j
 ok:∀d∈sd,ddOk d
 ln:sd.length<=j - i + 1
theorem YKi (p:Str):XO p=⟨#[sgn p]⟩:=by
 unfold XO sgn;rw[Array.getD_eq_getD_getElem?]
theorem YAh {p t:Str}{i j:Nat} (h1:i<=j) (h2:j<=t.length):X2 (XO p) t i j=decide (sgn p∈JB t i j):=by
 unfold X2;rw[YKi,StrLaws.found_one];have hl:t.cps.toList.length=t.length:=YLK;have e1:=eq_of_beq (PyProof.Rows.slice_closes (x:=t) (i:=i) (j:=j) ⟨by lia,by lia,by lia⟩);have e:(Txt.slice t (some (i:Int)) (some (j:Int))).cps.toList=JB t i j:=by
  rw[e1];show(t.cps.toList.drop (i:Int).toNat).take ((j:Int) - i).toNat=_;rw[show((j:Int) - i).toNat=j - i by lia];rfl
 rw[e]
theorem YBh {t:Str}{a b c:Int}{p:Str}{i j:Nat} (h1:i<=j) (h2:j<=t.length) (h:sgT t a b c p i j=((j:Int) - i) * b + a):SgD t a b c p i j ((JB t i j).map Dd.cut ++ [.put (sgn p)]) where
 tk:=by rw[YCi,YBe];exact YLa _
 mkd:=by rw[YCj,YBf];rfl
 co:=by
  rw[YCk,YBg,ZL h2,h];show _ + (a + 0)=_;rw[YMh,show((j - i:Nat):Int)=(j:Int) - i by lia]
 ok:=λd hd=>by
  rcases YLQ.mp hd with hd |hd
  ·obtain⟨x,_,rfl⟩:=YLL.mp hd
   trivial
  ·rw[YK4.mp hd]
   trivial
 ln:=by
  rw[YK5,YKu,ZL h2];exact YKv _
theorem YCl {t:Str}{a b c:Int}{p:Str}{i j k:Nat} (h1:i<=k) (h2:k < j) (h3:j<=t.length) {x:Nat} (hx:t.cps.toList[k]?=some x) (d:Dd) (ht:ddT d=[x]) (hm:ddM d=[sgn p]) (ho:ddOk d) (h:sgT t a b c p i j=((j:Int) - i - 1) * b + ddC a b c d):
  SgD t a b c p i j ((JB t i k).map Dd.cut ++ d :: (JB t (k + 1) j).map Dd.cut) where
 tk:=by
  rw[YCi,YBe];show _ ++ (ddT d ++ tkL _)=_;rw[YBe,ht,<-YKh hx,YDT (by lia) (by lia) h3,YDT (by lia) (by lia) h3]
 mkd:=by
  rw[YCj,YBf];show[] ++ (ddM d ++ mkL _)=_;rw[YBf,hm];rfl
 co:=by
  rw[YCk,YBg,ZL (by lia)];show _ + (ddC a b c d + coL a b c _)=_;rw[YBg,ZL h3,h];have e:((j:Int) - i - 1) * b=((k - i:Nat):Int) * b + ((j - (k + 1):Nat):Int) * b:=by
   rw[<-YMC];congr 1
   lia
  lia
 ok:=λy hy=>by
  rcases YLQ.mp hy with hy |hy
  ·obtain⟨x,_,rfl⟩:=YLL.mp hy
   trivial
  ·rcases YLB.mp hy with rfl |hy
   ·exact ho
   ·obtain⟨x,_,rfl⟩:=YLL.mp hy
    trivial
 ln:=by
  rw[YK5,YKu,YK6,YKu,ZL (by lia),ZL h3]
  lia
open Builtin Builtin.Str StrLaws in
theorem YGc (x:Str) (c hi:Nat):∀(l:List Nat) (st:Array Nat×Nat),1<=st.fst.size->(forIn l st (occBody x ⟨#[c]⟩ hi 1)).run.fst=st.fst
 |[],st,_=>by simp
 |a :: l,st,h=>by
  rw[List.forIn_cons];unfold occBody;rw[if_neg (λz=>by have:=z.1.1.1;lia)];exact YGc x c hi l (st.fst,st.snd) h
open Builtin Builtin.Str StrLaws in
theorem YEa (x:Str) (c hi:Nat) (hh:hi<=x.length):∀(n a f:Nat),f<=a->a + n=hi + 1->
  (∃k,(forIn (List.range' a n) ((#[]:Array Nat),f) (occBody x ⟨#[c]⟩ hi 1)).run.fst.toList=[k]/\a<=k/\k < hi/\x.cps.toList[k]?=some c)\/
  ((forIn (List.range' a n) ((#[]:Array Nat),f) (occBody x ⟨#[c]⟩ hi 1)).run.fst.toList=[]/\∀k,a<=k->k < hi->¬x.cps.toList[k]?=some c)
 |0,a,f,_,h=>.inr ⟨by simp,λk h1 h2=>by lia⟩
 |n + 1,a,f,hf,h=>by
  rw[List.range'_succ,List.forIn_cons];unfold occBody;have el:(⟨#[c]⟩:Str).length=1:=rfl
  by_cases hc:a < hi/\x.cps.toList[a]?=some c
  ·have h3:=(subAt_one x c a).mpr hc.2;rw[if_pos ⟨⟨⟨by show 0 < 1;decide,hf⟩,by rw[el];lia⟩,h3.2⟩];refine .inl ⟨a,?_,YKv _,hc.1,hc.2⟩;have:=YGc x c hi (List.range' (a + 1) n) ((#[]:Array Nat).push a,a + (⟨#[c]⟩:Str).length) (by simp);refine(YL5 Array.toList this).trans ?_;rfl
  ·rw[if_neg (λz=>hc ⟨by have:=z.1.2;rw[el]at this;lia,((subAt_one x c a).mp ⟨by have:=z.1.2;lia,z.2⟩)⟩)];rcases YEa x c hi hh n (a + 1) f (by lia) (by lia) with ⟨k,e1,e2,e3,e4⟩ |⟨e1,e2⟩
   ·exact .inl ⟨k,e1,by lia,e3,e4⟩
   ·refine .inr ⟨e1,λk h1 h2 h3=>?_⟩;rcases YLz a k with hl |hl
    ·exact e2 k hl h2 h3
    ·have:k=a:=by lia
     subst this;exact hc ⟨h2,h3⟩
theorem YJN (x:Str) (c i j:Nat) (h1:i<=j) (h2:j<=x.length):(∃k:Nat,YDI x ⟨#[c]⟩ i j=(k:Int)/\i<=k/\k < j/\x.cps.toList[k]?=some c)\/(YDI x ⟨#[c]⟩ i j=-1/\∀k,i<=k->k < j->¬x.cps.toList[k]?=some c):=by
 unfold YDI;have e1:fromIndex x.length (i:Int)=i:=by
  unfold fromIndex;rw[if_neg (by lia)]
  lia
 have e2:min (fromIndex x.length (j:Int)) x.length=j:=by
  unfold fromIndex;rw[if_neg (by lia)]
  lia
 rw[e1,e2,StrLaws.occ_eq];rcases YEa x c j h2 (j + 1 - i) i i (YKv _) (by lia) with ⟨k,h,h3⟩ |⟨h,h3⟩
 ·rw[h];exact .inl ⟨k,Z,h3⟩
 ·rw[h];exact .inr ⟨Z,h3⟩
abbrev JM:Stmt:=ZT (top 40) 0
abbrev JC:Stmt:=ZT (top 40) 1
abbrev JD:Stmt:=ZT (top 40) 2
abbrev JN:Stmt:=ZT (top 40) 3
abbrev Ja:Stmt:=ZT (top 40) 4
abbrev Jb:Stmt:=ZT (top 40) 5
abbrev YDU:Stmt:=top 41
theorem YGd:(["sign"]:List Str).Nodup:=by decide +kernel
structure Mnd where
 x:Addr
 dx:Addr
 lr:Addr
 t:Str
 ct:Addr
 d:Addr
 ld:Addr
 lw:Addr
def Mnd.fld (M:Mnd):List (Str×V):=[("rules",.ref M.lr),("text",.str M.t),("costs",.ref M.ct),("known",.ref M.d),("deeds",.ref M.ld),("row",.ref M.lw)]
def YGe (t:Str) (b e:Nat):List D:=((t.cps.toList.drop b).take (e - b)).map λc=>.tup [.str "cut",.str ⟨#[c]⟩]
structure MSt (C:Addr) (M:Mnd) (H0 H:Hp) (ds:List D) (row:List Int):Prop where
 hx0:H0 M.x=some (.ins C M.dx M.fld)
 ne:M.ld≠M.lw
 nx:M.x≠M.ld/\M.x≠M.lw
 sm:∀a o,a≠M.ld->a≠M.lw->H0 a=some o->H a=some o
 hd:∃vs,H M.ld=some (.lst vs)/\Ya (del (del H M.ld) M.lw) vs ds
 hw:H M.lw=some (.lst (row.map V.int))
inductive YIT (C:Addr) (vs:List V) (H:Hp) (Q:VK):Prop where
 |mk (M:Mnd) (H0:Hp) (ds:List D) (row:List Int) (b e:Nat) (aX:vs=[.ref M.x,.int (b:Int),.int (e:Int)]) (aY:MSt C M H0 H ds row) (bU:b<=e) (cN:e<=M.t.length) (dh:M.t.length<=60) (i_:ds.length<=8000) (lD:YL H) (n_:∀H',MSt C M H0 H' (ds ++ YGe M.t b e) row->YL H'->Q .non H'):YIT C vs H Q
def YHg (C:Addr):Sp:=λvs H Q E_=>YIT C vs H Q
theorem MSt.x {C:Addr}{M:Mnd}{H0 H:Hp}{ds:List D}{row:List Int} (S:MSt C M H0 H ds row):H M.x=some (.ins C M.dx M.fld):=S.sm _ _ S.nx.1 S.nx.2 S.hx0
theorem X5 {n:Nat} (h:n<=9000):n<=sizeLine:=YLU h (by rw[sizeLine_eq];decide)
theorem YIU {H:Hp}:∀{ys:List V}{ds:List D},ys.length=ds.length->(∀(k:Nat) (y:V) (d:D),ys[k]?=some y->ds[k]?=some d->Den H y d)->Ya H ys ds
 |[],[],_,_=>.nil
 |[],_ :: _,h,_=>nomatch h
 |_ :: _,[],h,_=>nomatch h
 |y :: ys,d :: ds,h,hk=>.cons (hk 0 y d rfl rfl) (YIU (Nat.succ.inj h) λk y' d' e1 e2=>hk (k + 1) y' d' e1 e2)
section
variable {P:Program}{w:World}{K:W.Frag}{mg:Str->Option Value}{base:Heap}{C:Adr}
theorem YAi:YW ["self","begin","end"] ["self","begin","end"] (YK JC):=⟨Z,Z,Z,by decide +kernel,Z,by decide +kernel,by decide +kernel⟩
theorem YAj {f:Addr}{fd:FuncData} (F:Fun K "cut_signs" "Mending.cut_signs" JC f fd) (T:Txt K mg C):Yw P w K mg base CX0 1 f fd ["self","begin","end"] (YHg C.Mending):=by
 refine F.ok YAi (λvs H Q E h=>?_) (λaO A outer s H vs Q E hr h=>?_)
 ·cases h;subst_vars;rfl
 ·obtain⟨M,H0,ds,row,b,e,rfl,S,hbe,het,ht,hds,hp,q⟩:=h;have hu:=Zw hr;refine qex ?_;refine⟨_,(Y7 ⟨(Y6 (Ze K rfl YLT PySem.F.slot_list_extend PySem.F.type_list_extend YD0 (YT K rfl (pv 0) rfl) (YA (Z2 (N:=["sign"]) (ρ:=[none]) (cl:=[]) rfl (Yi.plain rfl (by decide +kernel) (by decide +kernel) rfl (by simp)) (YHB (XC YEz (YT K rfl (pv 0) rfl) (JG (pv 1)) (JG (pv 2)))) (λ_ _ _ _ _=>(YU (i:=0) YGd rfl (Or.inl rfl) (.inr rfl))) (λ_ _ _ _ _=>Zs) (λ_ _ _ _ _=>(Yx (YA Y0 (YA (pv 0) YD))))) YD)))⟩),?_⟩;have hx:=S.x;obtain⟨vs,jY,hdd⟩:=S.hd;refine⟨_,Z,M.x,C.Mending,M.dx,_,_,Z,hx,T.aj,T.aA,Z,.inl ⟨Z,_,SqL.of jY⟩,_,Z,M.x,C.Mending,M.dx,_,_,Z,hx,T.aj,T.bx,Z,_,Z,_,Z,_,Z,_,Z,M.t,Z,YF (by lia),?_⟩;have hsl:(Txt.slice M.t (some (b:Int)) (some (e:Int))).cps.toList=(M.t.cps.toList.drop b).take (e - b):=by
   have hl:M.t.cps.toList.length=M.t.length:=YLK;have e1:=eq_of_beq (PyProof.Rows.slice_closes (x:=M.t) (i:=b) (j:=e) ⟨by lia,by lia,by lia⟩);rw[e1];show(M.t.cps.toList.drop (b:Int).toNat).take ((e:Int) - b).toNat=_;rw[show((e:Int) - b).toNat=e - b by lia];rfl
  obtain⟨th,eth⟩:∃th,Txt.slice M.t (some (b:Int)) (some (e:Int))=th:=⟨_,Z⟩;rw[eth]at hsl;have hth:th.cps.size<=60:=by
   have h1:th.cps.toList.length=th.cps.size:=YLK;have h2:M.t.cps.toList.length=M.t.length:=YLK;rw[hsl,YL3,List.length_drop]at h1
   lia
  rw[eth];refine⟨th,Z,λl hl=>?_⟩;refine Zi (n:=th.cps.size) 0 (λk y H=>∃c u,th.cps[k]?=some c/\y=.ref u/\H u=some (.tup [.str "cut",.str ⟨#[c]⟩])) YIy (λk y H H' s ⟨c,u,h1,h2,h3⟩=>⟨c,u,h1,h2,s _ _ h3⟩) hp hl (show 0 < 1 by decide) (YF (by lia)) (λτ'=>True) trivial (λ_ _ _=>trivial) ?_ ?_
  ·rintro τ' k y H' R _ hτ ⟨c,hc,rfl⟩ hk s' p' hl' hR;refine⟨_,hτ,YF (by show 2<=1000;decide),λtt dR=>hR _ _ (YJ.upd dR) (p'.upd rfl) ⟨c,tt,hc,Z,?_⟩⟩;rw[Z8 (λz=>hl' (by rw[<-z];exact dR))];exact YC
  ·intro ys H2 hy hP s2 p2 h2;have wF:=s2 _ _ jY;have hvl:vs.length=ds.length:=hdd.len;refine⟨M.ld,l,vs,ys,Z,Z,wF,h2,X5 (by lia),q _ ⟨S.hx0,S.ne,S.nx,λa o n1 n2 e=>?_,⟨_,YC,?_⟩,?_⟩ (p2.upd rfl)⟩
   ·rw[YH n1];exact s2 _ _ (S.sm a o n1 n2 e)
   ·rw[YAA];refine(hdd.same ((s2.del M.ld).del M.lw)).append (YIU ?_ λk y d e1 e2=>?_)
    ·unfold YGe;rw[hy,YKu,<-hsl];exact Array.length_toList.symm
    ·obtain⟨c,u,hc,rfl,hu'⟩:=hP k y e1;have hu2:=ZI _ _ _ _ hu';unfold YGe at e2;rw[YK1,<-hsl,YLt,hc]at e2;cases e2;refine .tup ?_ (.cons (.str _) (.cons (.str _) .nil));have n1:u≠M.ld:=λz=>by rw[z,wF]at hu2;cases hu2
     have n2:u≠M.lw:=λz=>by rw[z,s2 _ _ S.hw]at hu2;cases hu2
     rw[Z8 n2,Z8 n1];exact hu2
   ·rw[YH S.ne.symm];exact s2 _ _ S.hw
end
structure MPre (M:Mnd) (H0:Hp) (o:Obj) (kvs:List (List Key×V)) (xs:List V) (g:Yy) (a b c:Int) (T:Tol) (ps:List Str) (O:OvF) (F:FiF) (fs:List (Nd×Int)):Prop where
 hd:H0 M.d=some (.frz o (.dT kvs))
 fd:FdT H0 kvs fs
 W:ZK g M.t a b c T ps O F fs
 hb:0<=b
 hbL:b<=10 ^ 60
 hg:Y5 g=true
 hB:(M.t.length + 1) * T.s.length<=60
 ht:M.t.length<=60
 hl:H0 M.lr=some (.lst xs)
 hds:Ya (del H0 M.lr) xs (g.map ZF)
 hct:H0 M.ct=some (.tup [.int a,.int b,.int c])
 n1:M.d≠M.ld/\M.d≠M.lw
 n2:M.lr≠M.ld/\M.lr≠M.lw
 l0:H0 M.ld=some (.lst [])/\H0 M.lw=some (.lst [])
inductive YEb (C:Addr) (vs:List V) (H:Hp) (Q:VK):Prop where
 |mk (M:Mnd) (H0:Hp) (ds:List D) (row:List Int) (o:Obj) (kvs:List (List Key×V)) (xs:List V) (g:Yy) (a b c:Int) (T:Tol) (ps:List Str) (O:OvF) (F:FiF) (fs:List (Nd×Int)) (nt:Addr) (r D i m:Nat) (ρ:Y4) (p:Str) (aX:vs=[.ref M.x,.ref nt]) (aY:MSt C M H0 H ds row) (bU:MPre M H0 o kvs xs g a b c T ps O F fs) (cN:H nt=some (.tup [.int (r:Int),.int ((D:Int) + 1),.int (i:Int),.int ((i + m:Nat):Int)])) (dh:g[r]?=some ρ) (i_:D < rch T.s ρ.2.1) (lD:ρ.2.1[D]?=some p) (n_:i + m<=M.t.length) (uE:YL H) (ye:∀k w1 w2 tw H',k<=m->F r (D + 1) i m=F r D i k + O p (i + k) (i + m)->YJ H H'->YL H'->H' tw=some (.tup [.ref w1,.ref w2])->H' w1=some (.tup ((Zv (.beg r D i (i + k))).map kV))->H' w2=some (.tup ((Zv (.part p (i + k) (i + m))).map kV))->Q (.ref tw) H'):YEb C vs H Q
def YGf (C:Addr):Sp:=λvs H Q E_=>YEb C vs H Q
theorem pr_inj {x y:Int} (h:pr x=pr y):x=y:=by
 have h1:x / M60=y / M60:=YL5 Prod.fst h;have h2:x % M60=y % M60:=YL5 Prod.snd h;have ex:=YMD x M60;have ey:=YMD y M60;rw[h1,h2]at ex
 lia
theorem YKj (x y:Int):eqD (.tup [.int (pr x).1,.int (pr x).2]) (.tup [.int (pr y).1,.int (pr y).2])=decide (x=y):=by
 by_cases h:x=y
 ·subst h;rw[YK2 rfl];exact Jr _ (by unfold D.ok;rfl)
 ·rw[YK0 h,YH1];have hn:¬((pr x).1=(pr y).1/\(pr x).2=(pr y).2):=λz=>h (pr_inj (Prod.ext z.1 z.2))
  simp only[YAx,eqD,Bool.and_true];exact Bool.eq_false_iff.mpr λz=>hn (by simpa using z)
theorem Jc {x y:Int}:(D.tup [.int x,.int y]).ok=true:=by
 unfold D.ok;rfl
theorem YBi {x y:Int}:(D.tup [.int x,.int y]).dep<=64:=by
 simp[D.dep,YDh]
theorem ZK.dgetM {g:Yy}{t:Str}{a b c:Int}{T:Tol}{ps:List Str}{O:OvF}{F:FiF}{fs:List (Nd×Int)} (W:ZK g t a b c T ps O F fs) {H:Hp}{d tk:Addr}{o:Obj}{kvs:List (List Key×V)} (hd:H d=some (.frz o (.dT kvs))) (fd:FdT H kvs fs) {n:Nd} (vQ:H tk=some (.tup ((Zv n).map kV))) (ha:YAf T ps n):
  ∃u,XT H d (.ref tk) (some (.ref u))/\H u=some (.tup [.int (pr (YAe O F n)).1,.int (pr (YAe O F n)).2]):=by
 rcases W.get fd n with ⟨_,z⟩ |⟨u,h1,_,h2⟩
 ·exact absurd ha z
 ·exact⟨u,.inr ⟨kvs,Zv n,tk,.inr ⟨o,hd⟩,Z,vQ,h1.symm⟩,h2⟩
section
variable {P:Program}{w:World}{K:W.Frag}{mg:Str->Option Value}{base:Heap}{C:Adr}
theorem Yl:YW ["self","node","shorter","part","middle","one","other","first","second"] ["self","node"] (YK Ja):=⟨Z,Z,Z,by decide +kernel,Z,by decide +kernel,by decide +kernel⟩
theorem YBK {f:Addr}{fd:FuncData} (F:Fun K "way_for" "Mending.way_for" Ja f fd) (T:Txt K mg C):Yw P w K mg base CX0 1 f fd ["self","node"] (YGf C.Mending):=by
 refine F.ok Yl (λvs H Q E h=>?_) (λaO A outer s H vs Q E hr h=>?_)
 ·cases h;subst_vars;rfl
 ·obtain⟨M,H0,ds,row,o,kvs,xs,g,a,b,c,S,ps,O,FF,fs,nt,r,D,i,m,ρ,p,rfl,st,pre,hnt,vh,hD,jV,j4,hp,q⟩:=h;have hu:=Zw hr;have hU:=hr.units;refine qex ?_;refine⟨_,(YE ⟨(YQ (i:=2) Yl.nd rfl (Or.inl rfl) (YI Zg (YM (YN K rfl) (pv 1) YB (λ_ _=>rfl)) YB))⟩
   (YE ⟨(YQ (i:=3) Yl.nd rfl (Or.inl rfl) (YM (YN K rfl) (YM (YN K rfl) (YM (YX K rfl) (YT K rfl (pv 0) rfl) (YM (YN K rfl) (pv 1) YB (λ_ _=>rfl)) (λ_ _=>rfl)) YB (λ_ _=>rfl)) (pv 2) (λ_ _=>rfl)))⟩
   (YE ⟨(Y2 PassesOwn.never rfl (YBl rfl T.aQ (YA (YM (YN K rfl) (pv 1) YB (λ_ _=>rfl)) (YA (YI Yh (YM (YN K rfl) (pv 1) YB (λ_ _=>rfl)) YB) YD))) (YU (i:=4) Yl.nd rfl (Or.inl rfl)) (YO (YQ (i:=5) Yl.nd rfl (Or.inl rfl) (Yx (Zp (YM (YN K rfl) (pv 1) YB (λ_ _=>rfl)) (Zp (pv 2) (Zp (YM (YN K rfl) (pv 1) YB (λ_ _=>rfl)) (Zp (pv 4) YD))))))
   (YO (YQ (i:=6) Yl.nd rfl (Or.inl rfl) (Yx (YA (pv 3) (YA (pv 4) (YA (YM (YN K rfl) (pv 1) YB (λ_ _=>rfl)) YD)))))
   (YO (YQ (i:=7) Yl.nd rfl (Or.inl rfl) (ZS hu (YT K rfl (pv 0) rfl) (pv 5) (λ_ _=>rfl)))
   (YO (YQ (i:=8) Yl.nd rfl (Or.inl rfl) (ZS hu (YT K rfl (pv 0) rfl) (pv 6) (λ_ _=>rfl)))
   (YG (Y1 (Yb (YBA K rfl hU) (Yx (YA (YI Yh (YM (YN K rfl) (pv 7) YB (λ_ _=>rfl)) (YM (YN K rfl) (pv 8) YB (λ_ _=>rfl))) (YA (YI Yh (YM (YN K rfl) (pv 7) YB (λ_ _=>rfl)) (YM (YN K rfl) (pv 8) YB (λ_ _=>rfl))) YD))) (ZS hu (YT K rfl (pv 0) rfl) (pv 1) (λ_ _=>rfl)) (Yc _)) (YG (YZ (Yx (YA (pv 5) (YA (pv 6) YD))))) Yd)))))))⟩
   (Y7 ⟨(YZ J8)⟩)))),?_⟩
  have hx:=st.x;have sqn:∀{H':Hp},YJ H H'->SqT K H' nt [.int (r:Int),.int ((D:Int) + 1),.int (i:Int),.int ((i + m:Nat):Int)]:=λs=>SqT.of (s _ _ hnt)
  have hl:=st.sm _ _ pre.n2.1 pre.n2.2 pre.hl;have hd:=st.sm _ _ pre.n1.1 pre.n1.2 pre.hd;have kt:∀u ys,H0 u=some (.tup ys)->H u=some (.tup ys):=λu ys e=>st.sm _ _ (λz=>by rw[z,pre.l0.1]at e;cases e) (λz=>by rw[z,pre.l0.2]at e;cases e) e
  have fd:FdT H kvs fs:=pre.fd.keep kt;have W:=pre.W;obtain⟨xv,WF⟩:∃x,xs[r]?=some x:=⟨_,YKx (by rw[pre.hds.len,YKu];exact(YKy.mp vh).1)⟩;obtain⟨ρ',tρ,pp,er,rfl,htρ,vm⟩:=Xc pre.hds WF;rw[vh]at er;cases er;have htρ:=kt _ _ (ZI _ _ _ _ htρ);have vm:=kt _ _ (ZI _ _ _ _ vm);have eD:(D:Int) + 1 - 1=(D:Int):=by lia
  refine⟨_,Z,nt,_,1,_,Z,Z,sqn (YJ.refl _),Z,_,_,Z,Z,?_⟩;rw[eD];refine⟨_,Z,M.x,C.Mending,M.dx,_,_,Z,hx,T.aj,T.bV,Z,_,Z,nt,_,0,_,Z,Z,sqn (YJ.refl _),Z,M.lr,_,_,_,Z,Z,SqL.of hl,Yq WF,tρ,_,1,_,Z,Z,SqT.of htρ,Z,_,Z,pp,_,_,_,Z,Z,SqT.of vm,Yq (by rw[YK1,jV];rfl),?_⟩;have yq:∀k:Int,0<=k->k<=100->-(2 ^ 62)<=k/\k < 2 ^ 62:=λk h1 h2=>⟨by lia,by lia⟩
  have ht:=pre.ht;refine⟨_,Z,nt,_,2,_,Z,Z,sqn (YJ.refl _),Z,_,Z,nt,_,3,_,Z,Z,sqn (YJ.refl _),Z,_,_,Z,Z,_,_,Z,⟨(yq _ (by lia) (by lia)).1,(yq _ (by lia) (by lia)).2,(yq _ (by lia) (by lia)).1,(yq _ (by lia) (by lia)).2⟩,?_⟩;refine JP (lo:=(i:Int)) (n:=(((i + m:Nat):Int) + 1 - (i:Int)).toNat) (λk σ H'=>∃(v4 v5 v6 v7 v8:Option V),σ=[some (.ref M.x),some (.ref nt),some (.int (D:Int)),some (.str p),v4,v5,v6,v7,v8]/\YJ H H'/\YL H'/\∀k',k' < k->¬FF r (D + 1) i m=FF r D i k' + O p (i + k') (i + m)) ⟨_,_,_,_,_,Z,YJ.refl _,hp,λk' l=>nomatch l⟩ ?_ ?_
  ·rintro k σ H' hk ⟨v4,v5,v6,v7,v8,rfl,s',p',no⟩;have qJ:k<=m:=by lia
   have hok:okP S.s p=true:=by
    obtain⟨p',e1,e2⟩:=Zy hD;rw[jV]at e1;cases e1;exact e2
   have RX:ρ∈g:=YKw vh;have a1:YAf S ps (.beg r D i (i + k)):=⟨⟨ρ,by rw[W.eg];exact vh,by lia⟩,by lia,by rw[W.en];lia⟩;have a2:YAf S ps (.part p (i + k) (i + m)):=⟨(W.part RX (YKw jV)).mpr hok,by lia,by rw[W.en];lia⟩;have a3:YAf S ps (.beg r (D + 1) i (i + m)):=⟨⟨ρ,by rw[W.eg];exact vh,by lia⟩,by lia,by rw[W.en];lia⟩;rw[show(i:Int) + (k:Int)=((i + k:Nat):Int) by lia];refine⟨_,Z,nt,_,0,_,Z,Z,sqn s',Z,_,Z,_,Z,nt,_,2,_,Z,Z,sqn s',Z,_,Z,YF (by show 4<=1000;decide),λw1 RZ=>?_⟩;have s1:=s'.trans (YJ.upd (o:=.tup [.int (r:Int),.int (D:Int),.int (i:Int),.int ((i + k:Nat):Int)]) RZ);have p1:YL (upd H' w1 (.tup [.int (r:Int),.int (D:Int),.int (i:Int),.int ((i + k:Nat):Int)])):=p'.upd rfl;have e1:upd H' w1 (.tup [.int (r:Int),.int (D:Int),.int (i:Int),.int ((i + k:Nat):Int)]) w1=some (.tup ((Zv (.beg r D i (i + k))).map kV)):=YC;revert s1 p1 e1;generalize upd H' w1 (.tup [.int (r:Int),.int (D:Int),.int (i:Int),.int ((i + k:Nat):Int)])=H1;intro s1 p1 e1;refine⟨_,Z,_,Z,_,Z,nt,_,3,_,Z,Z,sqn s1,Z,YF (by show 3<=1000;decide),λw2 R0=>?_⟩;have sx:=YJ.upd (o:=.tup [.str p,.int ((i + k:Nat):Int),.int ((i + m:Nat):Int)]) R0;have p2:YL (upd H1 w2 (.tup [.str p,.int ((i + k:Nat):Int),.int ((i + m:Nat):Int)])):=p1.upd rfl;have e2:upd H1 w2 (.tup [.str p,.int ((i + k:Nat):Int),.int ((i + m:Nat):Int)]) w2=some (.tup ((Zv (.part p (i + k) (i + m))).map kV)):=YC;revert sx p2 e2;generalize upd H1 w2 (.tup [.str p,.int ((i + k:Nat):Int),.int ((i + m:Nat):Int)])=H2;intro sx p2 e2;have s2:=s1.trans sx;have e1:=sx _ _ e1;have hx2:=s2 _ _ hx;have hd2:=s2 _ _ hd;have fd2:FdT H2 kvs fs:=fd.keep λ_ _ e=>s2 _ _ e
   obtain⟨u1,g1,jb⟩:=W.dgetM hd2 fd2 e1 a1;obtain⟨u2,g2,hu2⟩:=W.dgetM hd2 fd2 e2 a2;refine⟨_,Z,M.x,C.Mending,M.dx,_,_,Z,hx2,T.aj,T.aq,Z,_,Z,M.d,_,Z,g1,?_⟩;refine⟨_,Z,M.x,C.Mending,M.dx,_,_,Z,hx2,T.aj,T.aq,Z,_,Z,M.d,_,Z,g2,?_⟩;refine⟨_,Z,u1,_,0,_,Z,Z,SqT.of jb,Z,_,Z,u2,_,0,_,Z,Z,SqT.of hu2,Z,_,_,Z,Z,_,Z,u1,_,1,_,Z,Z,SqT.of jb,Z,_,Z,u2,_,1,_,Z,Z,SqT.of hu2,Z,_,_,Z,Z,YF (by show 2<=1000;decide),λts zb=>?_⟩;have h6:∀ρ∈g,ρ.2.1.length<=6:=λρ hρ=>(JL pre.hg hρ).2.1
   have es:=W.sumB pre.hb h6 pre.hB vh (YMf hD) hok qJ j4;have WK:=YL5 Prod.fst es;have vU:=YL5 Prod.snd es;dsimp only at WK vU;rw[show YAe O FF (.beg r D i (i + k))=FF r D i k by show FF r D i (i + k - i)=_;rw[YMF],show YAe O FF (.part p (i + k) (i + m))=O p (i + k) (i + m) from rfl,WK,vU];have sy:=YJ.upd (o:=.tup [.int (pr (FF r D i k + O p (i + k) (i + m))).1,.int (pr (FF r D i k + O p (i + k) (i + m))).2]) zb;have s3:=s2.trans sy;have zR:upd H2 ts (.tup [.int (pr (FF r D i k + O p (i + k) (i + m))).1,.int (pr (FF r D i k + O p (i + k) (i + m))).2]) nt=some (.tup ((Zv (.beg r (D + 1) i (i + m))).map kV)):=(s3 _ _ hnt).trans (by
    show _=some (HO.tup [.int (r:Int),.int ((D + 1:Nat):Int),.int (i:Int),.int ((i + m:Nat):Int)]);rw[show((D + 1:Nat):Int)=(D:Int) + 1 by lia])
   obtain⟨u3,g3,jX⟩:=W.dgetM (s3 _ _ hd) (fd.keep λ_ _ e=>s3 _ _ e) zR a3;rw[show YAe O FF (.beg r (D + 1) i (i + m))=FF r (D + 1) i m by show FF r (D + 1) i (i + m - i)=_;rw[YMF]]at jX;refine⟨_,Z,M.x,C.Mending,M.dx,_,_,Z,sy _ _ hx2,T.aj,T.aq,Z,_,Z,M.d,_,Z,g3,_,_,.tup YC (.cons (.int _) (.cons (.int _) .nil)),.tup jX (.cons (.int _) (.cons (.int _) .nil)),Jc,Jc,YBi,_,Z,?_⟩;rw[YKj];refine Xf (λh=>?_) λh=>?_
   ·have h:=YLM h;refine⟨_,Z,_,Z,YF (by show 2<=1000;decide),λtw rW=>?_⟩;have sz:=sy.trans (YJ.upd (o:=.tup [.ref w1,.ref w2]) rW);exact q k w1 w2 tw _ qJ h.symm (s2.trans sz) ((p2.upd rfl).upd rfl) YC (sz _ _ e1) (sz _ _ e2)
   ·refine⟨_,_,_,_,_,Z,s3,p2.upd rfl,λk' hk'=>?_⟩;rcases YLz k' k with hl' |hl'
    ·exact no k' hl'
    ·rw[show k'=k by lia];exactλz=>h (YK2 z.symm)
  ·rintro σ H' ⟨v4,v5,v6,v7,v8,rfl,s',p',no⟩
   exfalso
   obtain⟨_,h⟩:=(W.ok pre.hb).f i m j4 r ρ vh;obtain⟨_,k,hk,e⟩:=h D p hD jV;exact no k (by lia) e
end
inductive YDV (C:Addr) (vs:List V) (H:Hp) (Q:VK):Prop where
 |mk (M:Mnd) (H0:Hp) (ds:List D) (row:List Int) (o:Obj) (kvs:List (List Key×V)) (xs:List V) (g:Yy) (a b c:Int) (T:Tol) (ps:List Str) (O:OvF) (F:FiF) (fs:List (Nd×Int)) (nt:Addr) (h:Str) (i m:Nat) (v:Int) (aX:vs=[.ref M.x,.ref nt]) (aY:MSt C M H0 H ds row) (bU:MPre M H0 o kvs xs g a b c T ps O F fs) (cN:H nt=some (.tup [.str h,.int (i:Int),.int ((i + m:Nat):Int)])) (dh:look T.s h=some v) (i_:i + m<=M.t.length) (lD:YL H) (n_:∀r ρ tw H',g[r]?=some ρ->ρ.1=h->rch T.s ρ.2.1=ρ.2.1.length->O h i (i + m)=F r ρ.2.1.length i m->YJ H H'->YL H'->H' tw=some (.tup ((Zv (.beg r ρ.2.1.length i (i + m))).map kV))->Q (.ref tw) H'):YDV C vs H Q
def YEc (C:Addr):Sp:=λvs H Q E_=>YDV C vs H Q
section
variable {P:Program}{w:World}{K:W.Frag}{mg:Str->Option Value}{base:Heap}{C:Adr}
theorem Za:YW ["self","node","number","rule","whole"] ["self","node"] (YK JN):=⟨Z,Z,Z,by decide +kernel,Z,by decide +kernel,by decide +kernel⟩
theorem YA0 {f:Addr}{fd:FuncData} (F:Fun K "rule_for" "Mending.rule_for" JN f fd) (T:Txt K mg C):Yw P w K mg base CX0 1 f fd ["self","node"] (YEc C.Mending):=by
 refine F.ok Za (λvs H Q E h=>?_) (λaO A outer s H vs Q E hr h=>?_)
 ·cases h;subst_vars;rfl
 ·obtain⟨M,H0,ds,row,o,kvs,xs,g,a,b,c,S,ps,O,FF,fs,nt,h,i,m,v,rfl,st,pre,hnt,hlk,j4,hp,q⟩:=h;have hu:=Zw hr;have hU:=hr.units;refine qex ?_;refine⟨_,(YE ⟨(Y2 PassesOwn.never rfl (XZ K rfl rfl T.aP (YA (YT K rfl (pv 0) rfl) YD)) (Jl K rfl (n:=2) rfl (Yv (YU (i:=2) Za.nd rfl (Or.inl rfl)) (Yv (YU (i:=3) Za.nd rfl (Or.inl rfl)) Jj))) (YO (YQ (i:=4) Za.nd rfl (Or.inl rfl) (Yx (Zp (pv 2) (Zp (YR (Yg K rfl) (by rfl) T.aL YK7 (YA (YM (YN K rfl) (pv 3) YB (λ_ _=>rfl)) YD)) (Zp (YM (YN K rfl) (pv 1) YB (λ_ _=>rfl)) (Zp (YM (YN K rfl) (pv 1) YB (λ_ _=>rfl)) YD))))))
   (YG (Y1 (PW.pt (YBk (Yb XA (YM (YN K rfl) (pv 3) YB (λ_ _=>rfl)) (YM (YN K rfl) (pv 1) YB (λ_ _=>rfl)) (Yc _)) (YAp (Yb (YBA K rfl hU) (YBQ hu (YT K rfl (pv 0) rfl) (pv 4) ⟨Z,Z,Z,Z⟩) (ZS hu (YT K rfl (pv 0) rfl) (pv 1) (λ_ _=>rfl)) (Yc _))))) (YG (YZ (pv 4))) Yd))))⟩
   (Y7 ⟨(YZ J8)⟩)),?_⟩
  have hx:=st.x;have sqn:∀{H':Hp},YJ H H'->SqT K H' nt [.str h,.int (i:Int),.int ((i + m:Nat):Int)]:=λs=>SqT.of (s _ _ hnt)
  have hl:=st.sm _ _ pre.n2.1 pre.n2.2 pre.hl;have hd:=st.sm _ _ pre.n1.1 pre.n1.2 pre.hd;have kt:∀u ys,H0 u=some (.tup ys)->H u=some (.tup ys):=λu ys e=>st.sm _ _ (λz=>by rw[z,pre.l0.1]at e;cases e) (λz=>by rw[z,pre.l0.2]at e;cases e) e
  have fd:FdT H kvs fs:=pre.fd.keep kt;have W:=pre.W;have yP:xs.length=g.length:=by rw[pre.hds.len,YKu]
  have a3:YAf S ps (.part h i (i + m)):=⟨W.po.2.2.1 h v hlk,by lia,by rw[W.en];lia⟩;refine⟨_,Z,M.x,C.Mending,M.dx,_,_,Z,hx,T.aj,T.bV,Z,M.lr,Z,⟨_,.inl hl⟩,?_⟩;refine Ju (K:=K) (a:=M.lr) (xs:=xs) (λk σ H'=>∃(v2 v3 v4:Option V),σ=[some (.ref M.x),some (.ref nt),v2,v3,v4]/\YJ H H'/\YL H'/\∀k' ρ,k' < k->g[k']?=some ρ->ρ.1=h->rch S.s ρ.2.1=ρ.2.1.length->¬O h i (i + m)=FF k' ρ.2.1.length i m) ⟨_,_,_,Z,YJ.refl _,hp,λk' ρ l=>nomatch l⟩ (λk σ H' _ ⟨_,_,_,_,s',_⟩=>SqL.of (s' _ _ hl)) ?_ ?_
  ·rintro k x Tt σ H' hxk hTt ⟨v2,v3,v4,rfl,s',p',no⟩;obtain⟨ρ,tρ,pp,er,rfl,htρ,vm⟩:=Xc pre.hds hxk;have htρ:=kt _ _ (ZI _ _ _ _ htρ);have vm:=kt _ _ (ZI _ _ _ _ vm);have s1:=s'.trans (YJ.upd (o:=.tup [.int ((k:Nat):Int),.ref tρ]) hTt);have p1:YL (upd H' Tt (.tup [.int ((k:Nat):Int),.ref tρ])):=p'.upd rfl;have e1:upd H' Tt (.tup [.int ((k:Nat):Int),.ref tρ]) Tt=some (.tup [.int ((k:Nat):Int),.ref tρ]):=YC;revert s1 p1 e1;generalize upd H' Tt (.tup [.int ((k:Nat):Int),.ref tρ])=H1;intro s1 p1 e1;refine⟨Tt,_,Z,SqT.of e1,Z,_,_,Z,_,_,Z,Z,?_⟩;refine⟨_,Z,_,Z,tρ,_,1,_,Z,Z,SqT.of (s1 _ _ htρ),Z,pp,_,Z,.inr (SqT.of (s1 _ _ vm)),_,Z,nt,_,1,_,Z,Z,sqn s1,Z,_,Z,nt,_,2,_,Z,Z,sqn s1,Z,YF (by show 4<=1000;decide),λtw rW=>?_⟩;rw[YKu];have sx:=YJ.upd (o:=.tup [.int (k:Int),.int (ρ.2.1.length:Int),.int (i:Int),.int ((i + m:Nat):Int)]) rW;have p2:YL (upd H1 tw (.tup [.int (k:Int),.int (ρ.2.1.length:Int),.int (i:Int),.int ((i + m:Nat):Int)])):=p1.upd rfl;have e2:upd H1 tw (.tup [.int (k:Int),.int (ρ.2.1.length:Int),.int (i:Int),.int ((i + m:Nat):Int)]) tw=some (.tup ((Zv (.beg k ρ.2.1.length i (i + m))).map kV)):=YC;revert sx p2 e2;generalize upd H1 tw (.tup [.int (k:Int),.int (ρ.2.1.length:Int),.int (i:Int),.int ((i + m:Nat):Int)])=H2;intro sx p2 e2;have s2:=s1.trans sx;have hx2:=s2 _ _ hx;have hd2:=s2 _ _ hd;have fd2:FdT H2 kvs fs:=fd.keep λ_ _ e=>s2 _ _ e
   refine⟨_,Z,tρ,_,0,_,Z,Z,SqT.of (s2 _ _ htρ),Z,_,Z,nt,_,0,_,Z,Z,sqn s2,Z,Z,_,Z,?_⟩;have go:∀(hno:ρ.1=h->rch S.s ρ.2.1=ρ.2.1.length->¬O h i (i + m)=FF k ρ.2.1.length i m),∀k' ρ',k' < k + 1->g[k']?=some ρ'->ρ'.1=h->rch S.s ρ'.2.1=ρ'.2.1.length->¬O h i (i + m)=FF k' ρ'.2.1.length i m:=λhno k' ρ' l f1 f2 f3=>by
    rcases YLz k' k with hl' |hl'
    ·exact no k' ρ' hl' f1 f2 f3
    ·have ek:k'=k:=by lia
     subst ek;rw[er]at f1;cases f1;exact hno f2 f3
   refine Xf (λhh=>?_) λhh=>?_
   ·have hh:ρ.1=h:=V.str.inj (YLM hh);obtain⟨u3,g3,jX⟩:=W.dgetM hd2 fd2 (n:=.part h i (i + m)) (s2 _ _ hnt) a3;have hall:YAf S ps (.beg k ρ.2.1.length i (i + m))<->rch S.s ρ.2.1=ρ.2.1.length:=by
     show((∃ρ',S.g[k]?=some ρ'/\ρ.2.1.length<=rch S.s ρ'.2.1)/\i<=i + m/\i + m<=S.n)<->_;rw[W.eg,W.en,er];refine⟨λ⟨⟨ρ',e1,e2⟩,_⟩=>by cases e1;exact Nat.le_antisymm (Xi _ _) e2,λz=>⟨⟨ρ,Z,by lia⟩,by lia,by lia⟩⟩
    have isd:IsD H2 M.d:=.inr ⟨kvs,.inr ⟨o,hd2⟩⟩;rcases W.get fd2 (.beg k ρ.2.1.length i (i + m)) with ⟨h1,h2⟩ |⟨u,h1,h2,h3⟩
    ·refine⟨_,Z,M.x,C.Mending,M.dx,_,_,Z,hx2,T.aj,T.aq,Z,M.d,Z,isd,_,Z,none,.inr ⟨kvs,Zv (.beg k ρ.2.1.length i (i + m)),tw,.inr ⟨o,hd2⟩,Z,e2,h1.symm⟩,_,Z,M.x,C.Mending,M.dx,_,_,Z,hx2,T.aj,T.aq,Z,_,Z,M.d,_,Z,g3,.non,_,.non,.tup jX (.cons (.int _) (.cons (.int _) .nil)),Z,Jc,by decide,_,Z,?_⟩;refine Y3 ?_;exact⟨_,_,_,Z,s2,p2,go λ_ z=>absurd (hall.mpr z) h2⟩
    ·refine⟨_,Z,M.x,C.Mending,M.dx,_,_,Z,hx2,T.aj,T.aq,Z,M.d,Z,isd,_,Z,some (.ref u),.inr ⟨kvs,Zv (.beg k ρ.2.1.length i (i + m)),tw,.inr ⟨o,hd2⟩,Z,e2,h1.symm⟩,_,Z,M.x,C.Mending,M.dx,_,_,Z,hx2,T.aj,T.aq,Z,_,Z,M.d,_,Z,g3,_,_,.tup h3 (.cons (.int _) (.cons (.int _) .nil)),.tup jX (.cons (.int _) (.cons (.int _) .nil)),Jc,Jc,YBi,_,Z,?_⟩;rw[YKj];have ev:YAe O FF (.beg k ρ.2.1.length i (i + m))=FF k ρ.2.1.length i m:=by show FF k ρ.2.1.length i (i + m - i)=_;rw[YMF]
     refine Xf (λz=>?_) λz=>?_
     ·have z:=YLM z;rw[ev]at z;exact⟨_,Z,q k ρ tw _ er hh (hall.mp h2) z.symm s2 p2 e2⟩
     ·exact⟨_,_,_,Z,s2,p2,go λ_ _ z'=>z (YK2 (by rw[ev];exact z'.symm))⟩
   ·refine Y3 ?_;exact⟨_,_,_,Z,s2,p2,go λz=>absurd (YK2 (by rw[z])) hh⟩
  ·rintro σ H' ⟨v2,v3,v4,rfl,s',p',no⟩
   exfalso
   obtain⟨_,r,ρ,h1,h2,h3,h4⟩:=(W.ok pre.hb).o i m j4 h v hlk;exact no r ρ (by rw[yP];exact(YKy.mp h1).1) h1 h2 h3 h4
end
def KpM (M:Mnd) (H H':Hp):Prop:=∀a o,a≠M.ld->a≠M.lw->H a=some o->H' a=some o
theorem MSt.re {C:Addr}{M:Mnd}{H0 H H':Hp}{ds sO:List D}{row gO:List Int} (S:MSt C M H0 H ds row) (S':MSt C M H H' sO gO):MSt C M H0 H' sO gO where
 hx0:=S.hx0
 ne:=S.ne
 nx:=S.nx
 sm:=λa o n1 n2 e=>S'.sm a o n1 n2 (S.sm a o n1 n2 e)
 hd:=S'.hd
 hw:=S'.hw
theorem MSt.here {C:Addr}{M:Mnd}{H0 H:Hp}{ds:List D}{row:List Int} (S:MSt C M H0 H ds row):MSt C M H H ds row where
 hx0:=S.x
 ne:=S.ne
 nx:=S.nx
 sm:=λ_ _ _ _ e=>e
 hd:=S.hd
 hw:=S.hw
theorem ZM (t:Str) (b e:Nat):YGe t b e=((JB t b e).map Dd.cut).map ddD:=by
 unfold YGe;rw[YL2];rfl
theorem MSt.push {C:Addr}{M:Mnd}{H0 H:Hp}{ds:List D}{row:List Int} (S:MSt C M H0 H ds row) {t:Addr}{ys vs:List V}{zs:List D} (ht:H t=none) (hv:H M.ld=some (.lst vs)) (hz:∀H',Ya H' ys zs):MSt C M H0 (upd (upd H t (.tup ys)) M.ld (.lst (vs ++ [.ref t]))) (ds ++ [.tup zs]) row where
 hx0:=S.hx0
 ne:=S.ne
 nx:=S.nx
 sm:=λa o n1 n2 e=>by
  rw[YH n1];exact YJ.upd ht _ _ (S.sm a o n1 n2 e)
 hd:=by
  obtain⟨vs',h1,h2⟩:=S.hd;rw[hv]at h1;cases h1;refine⟨_,YC,?_⟩;rw[YAA];refine(h2.same (((YJ.upd ht).del M.ld).del M.lw)).append (.cons (.tup ?_ (hz _)) .nil);rw[Z8 (λz=>by rw[z,S.hw]at ht;cases ht),Z8 (λz=>by rw[z,hv]at ht;cases ht)];exact YC
 hw:=by
  rw[YH S.ne.symm];exact YJ.upd ht _ _ S.hw
theorem YAk {M:Mnd}{H H1:Hp} (k:KpM M H H1) {t:Addr}{o:HO}{vs:List V} (ht:H1 t=none):KpM M H (upd (upd H1 t o) M.ld (.lst vs)):=λa x n1 n2 e=>by
 rw[YH n1];exact YJ.upd ht _ _ (k a x n1 n2 e)
theorem MSt.len {C:Addr}{M:Mnd}{H0 H:Hp}{ds:List D}{row:List Int} (S:MSt C M H0 H ds row):∃vs,H M.ld=some (.lst vs)/\vs.length=ds.length:=by
 obtain⟨vs,h1,h2⟩:=S.hd;exact⟨vs,h1,h2.len⟩
inductive YEd (C:Addr) (vs:List V) (H:Hp) (Q:VK):Prop where
 |mk (M:Mnd) (H0:Hp) (ds:List D) (row:List Int) (o:Obj) (kvs:List (List Key×V)) (xs:List V) (g:Yy) (a b c:Int) (T:Tol) (ps:List Str) (O:OvF) (F:FiF) (fs:List (Nd×Int)) (nt:Addr) (p:Str) (i m:Nat) (aX:vs=[.ref M.x,.ref nt]) (aY:MSt C M H0 H ds row) (bU:MPre M H0 o kvs xs g a b c T ps O F fs) (cN:H nt=some (.tup [.str p,.int (i:Int),.int ((i + m:Nat):Int)])) (dh:isQ p=true) (i_:p∈ps) (lD:i + m<=M.t.length) (n_:ds.length<=7000) (uE:YL H) (ye:∀sd H',SgD M.t a b c p i (i + m) sd->MSt C M H0 H' (ds ++ sd.map ddD) row->KpM M H H'->YL H'->Q .non H'):YEd C vs H Q
def YGg (C:Addr):Sp:=λvs H Q E_=>YEd C vs H Q
section
variable {P:Program}{w:World}{K:W.Frag}{mg:Str->Option Value}{base:Heap}{C:Adr}
theorem Ym:YW ["self","node","sign","begin","end","found","place","change"] ["self","node"] (YK JD):=⟨Z,Z,Z,by decide +kernel,Z,by decide +kernel,by decide +kernel⟩
theorem YAl {f:Addr}{fd:FuncData} (F:Fun K "take_sign" "Mending.take_sign" JD f fd) (T:Txt K mg C) (aB:Js P w K mg CX0 1 C.Mending "cut_signs" ["self","begin","end"] (YHg C.Mending)):Yw P w K mg base CX0 2 f fd ["self","node"] (YGg C.Mending):=by
 obtain⟨eQ,dF,aG,aD,aH⟩:=aB.ok;refine F.ok Ym (λvs H Q E h=>?_) (λaO A outer s H vs Q E hr h=>?_)
 ·cases h;subst_vars;rfl
 ·obtain⟨M,H0,ds,row,o,kvs,xs,g,a,b,c,S,ps,O,FF,fs,nt,p,i,m,rfl,st,pre,hnt,hq,hps,j4,hdl,hp,q⟩:=h;have hu:=Zw hr;have hU:=hr.units;refine qex ?_;refine⟨_,(YE ⟨(YQ (i:=2) Ym.nd rfl (Or.inl rfl) (YM XD (YM (YN K rfl) (pv 1) YB (λ_ _=>rfl)) YB (λ_ _=>rfl)))⟩
   (YE ⟨(YQ (i:=3) Ym.nd rfl (Or.inl rfl) (YM (YN K rfl) (pv 1) YB (λ_ _=>rfl)))⟩
   (YE ⟨(YQ (i:=4) Ym.nd rfl (Or.inl rfl) (YM (YN K rfl) (pv 1) YB (λ_ _=>rfl)))⟩
   (YE ⟨(YQ (i:=5) Ym.nd rfl (Or.inl rfl) (Ze K rfl YL7 PySem.F.slot_str_find PySem.F.type_str_find YGC (YT K rfl (pv 0) rfl) (YA (pv 2) (YA (pv 3) (YA (pv 4) YD)))))⟩
   (YE ⟨(YQ (i:=6) Ym.nd rfl (Or.inl rfl) (Xo (Yb YDu (pv 5) YB (Yc _)) (pv 3) (pv 5)))⟩
   (YE ⟨(YQ (i:=7) Ym.nd rfl (Or.inl rfl) (Xo (Yb YDu (pv 5) YB (Yc _)) (YM (YN K rfl) (YT K rfl (pv 0) rfl) YB (λ_ _=>rfl)) YB))⟩
   (YE ⟨(Y1 (PW.pt (YDt (Yb XA (pv 3) (pv 4) (Yc _)) (YCn (Yb YCE (YI Yh (YI Jm (YI Zg (YI Zg (pv 4) (pv 3)) YB) (YM (YN K rfl) (YT K rfl (pv 0) rfl) YB (λ_ _=>rfl))) (pv 7)) (YM (YN K rfl) (ZS hu (YT K rfl (pv 0) rfl) (pv 1) (λ_ _=>rfl)) YB (λ_ _=>rfl)) (Yc _))))) (YO (Y6 (Zh (pv 0) T.aj aD (aG base) (hr.mono (by decide)) aH .nil Yj (YA (pv 3) (YA (pv 4) YD))))
   (YO (Y6 (Ze K rfl YLT YLi YLh ZP (YT K rfl (pv 0) rfl) (YA (Yx (YA Y0 (YA (pv 2) YD))) YD)))
   (YG ps_retN))) Yd)⟩
   (YE ⟨(Y6 (Zh (pv 0) T.aj aD (aG base) (hr.mono (by decide)) aH .nil Yj (YA (pv 3) (YA (pv 6) YD))))⟩
   (YE ⟨(Y6 (Ze K rfl YLT YLi YLh ZP (YT K rfl (pv 0) rfl) (YA (Xo (Yb YDu (pv 5) YB (Yc _)) (Yx (YA Y0 (YA (YM XD (YT K rfl (pv 0) rfl) (pv 6) (λ_ _=>rfl)) (YA (pv 2) YD)))) (Yx (YA Y0 (YA (pv 2) YD)))) YD)))⟩
   (Y7 ⟨(Y6 (Zh (pv 0) T.aj aD (aG base) (hr.mono (by decide)) aH .nil Yj (YA (YI Yh (pv 6) YB) (YA (pv 4) YD))))⟩)))))))))),?_⟩
  have hx:=st.x;have sqn:∀{H':Hp},YJ H H'->SqT K H' nt [.str p,.int (i:Int),.int ((i + m:Nat):Int)]:=λs=>SqT.of (s _ _ hnt)
  have kt:∀u ys,H0 u=some (.tup ys)->H u=some (.tup ys):=λu ys e=>st.sm _ _ (λz=>by rw[z,pre.l0.1]at e;cases e) (λz=>by rw[z,pre.l0.2]at e;cases e) e
  have hd:=st.sm _ _ pre.n1.1 pre.n1.2 pre.hd;have fd:FdT H kvs fs:=pre.fd.keep kt;have W:=pre.W;have hct:=kt _ _ pre.hct;have ht:=pre.ht;obtain⟨ρ,hρ,hpρ⟩:=W.po.2.2.2.2 p hps hq;have hpS:=(JL pre.hg hρ).2.2 p hpρ;have qG:=YGQ hpS hq;have a0:YAf S ps (.part p i (i + m)):=⟨hps,by lia,by rw[W.en];lia⟩;obtain⟨u,gu,hu'⟩:=W.dgetM hd fd hnt a0;have ev:pr (YAe O FF (.part p i (i + m)))=(sgT M.t a b c p i (i + m),0):=by
   show pr (O p i (i + m))=_;rw[W.iv.sg p i (i + m) hq,W.et,W.ep,W.ec,W.es,YCh,YFK]
  rw[ev]at hu';refine⟨_,Z,nt,_,0,_,Z,Z,sqn (YJ.refl _),Z,p,1,sgn p,Z,Z,YF (by lia),YF1 hpS hq,?_⟩;refine⟨_,Z,nt,_,1,_,Z,Z,sqn (YJ.refl _),Z,?_⟩;refine⟨_,Z,nt,_,2,_,Z,Z,sqn (YJ.refl _),Z,?_⟩;refine⟨_,Z,M.x,C.Mending,M.dx,_,_,Z,hx,T.aj,T.bx,Z,Z,_,Z,_,Z,_,Z,M.t,_,_,_,Z,Z,?_⟩;dsimp only[Yu];have key:=YJN M.t (sgn p) i (i + m) (by lia) j4;obtain⟨f,ef⟩:∃f,YDI M.t ⟨#[sgn p]⟩ i ((i + m:Nat):Int)=f:=⟨_,Z⟩;rw[ef]at key ⊢;have hin:=YAh (p:=p) (t:=M.t) (i:=i) (j:=i + m) (by lia) j4;have hsub:=@X4 M.t i (i + m) (sgn p);have yq:∀k:Int,0<=k->k<=100->-(2 ^ 62)<=k/\k < 2 ^ 62:=λk h1 h2=>⟨by lia,by lia⟩
  have esg:¬m=0->∀ch:Int,(if X2 (XO p) M.t i (i + m)=true then 0 else c)=ch->sgT M.t a b c p i (i + m)=if (((i + m:Nat):Int) - i - 1) * b + ch < (((i + m:Nat):Int) - i) * b + a then (((i + m:Nat):Int) - i - 1) * b + ch else (((i + m:Nat):Int) - i) * b + a:=λhm ch e=>by
   unfold sgT;rw[if_neg (by lia),e]
  have mulB:YH4 (((i + m:Nat):Int) - i - 1) b:=by
   have two:(10:Int) ^ 60 < 2 ^ 4000:=by decide +kernel
   have h1:=pre.hb;have h2:=pre.hbL;refine⟨?_,?_⟩
   ·have:(((i + m:Nat):Int) - i - 1).natAbs < 100:=by lia
    exact YLG this (by decide +kernel)
   ·have h3:b < 2 ^ 4000:=Int.lt_of_le_of_lt h2 two;have h4:((b.natAbs:Nat):Int)=b:=Int.natAbs_of_nonneg h1;rw[<-h4]at h3
    exact_mod_cast h3
  rcases key with ⟨k,rfl,hk1,hk2,hk3⟩ |⟨rfl,hno⟩
  ·have nJ:X2 (XO p) M.t i (i + m)=true:=by rw[hin];exact YK2 (hsub.mpr ⟨k,hk1,hk2,hk3⟩)
   have esg:=esg (by lia) 0 (by rw[if_pos nJ]);refine⟨_,Z,_,_,Z,Z,_,Z,?_⟩;rw[YK0 (by lia)];refine Y3 ⟨_,Z,?_⟩;dsimp only[Yu];refine⟨_,Z,_,_,Z,Z,_,Z,?_⟩;rw[YK0 (by lia)];refine Y3 ?_;dsimp only[Yu];refine⟨_,Z,_,Z,Z,_,Z,?_⟩;rw[YK0 (λz=>by have:=V.int.inj z;lia)];refine Y3 ⟨_,Z,_,Z,_,_,Z,Z,_,_,Z,Z,_,Z,M.x,C.Mending,M.dx,_,_,Z,hx,T.aj,T.aZ,Z,M.ct,_,1,_,Z,Z,SqT.of hct,Z,_,_,Z,Z,mulB,_,Z,_,_,Z,Z,?_⟩;refine⟨_,Z,M.x,C.Mending,M.dx,_,_,Z,hx,T.aj,T.aq,Z,_,Z,M.d,_,Z,gu,u,_,0,_,Z,Z,SqT.of hu',Z,?_⟩;refine⟨Z,_,Z,?_⟩
   by_cases hT:(((i + m:Nat):Int) - i - 1) * b + 0=sgT M.t a b c p i (i + m)
   case neg=>
    rw[YK0 (λz=>hT (V.int.inj z))];have hT:sgT M.t a b c p i (i + m)=(((i + m:Nat):Int) - i) * b + a:=by
     rw[esg]at hT ⊢;split
     ·rename_i hlt
      rw[if_pos hlt]at hT;exact absurd rfl hT
     ·rfl
    refine ZO ?_;refine⟨_,Z,M.x,M.dx,_,Z,hx,Z,_,Z,_,Z,M,H,ds,row,i,i + m,Z,st.here,by lia,j4,ht,by lia,hp,λH1 S1 p1=>?_⟩;obtain⟨sX,hv1,j_⟩:=S1.len;rw[YK5,ZM,YKu,YKu,ZL j4]at j_;refine⟨_,Z,M.x,C.Mending,M.dx,_,_,Z,S1.x,T.aj,T.aA,Z,.inl ⟨Z,_,SqL.of hv1⟩,_,Z,YF (by show 2<=1000;decide),λtt dR=>?_⟩;have sY:=YJ.upd (o:=.tup [.str "put",.str ⟨#[sgn p]⟩]) dR _ _ hv1;refine⟨M.ld,_,_,Z,Z,sY,X5 (by lia),?_⟩;have S2:=(st.re S1).push (zs:=[.str "put",.str ⟨#[sgn p]⟩]) dR hv1 λH'=>.cons (.str _) (.cons (.str _) .nil)
    have hs:=YBh (t:=M.t) (a:=a) (b:=b) (c:=c) (p:=p) (i:=i) (j:=i + m) (by lia) j4 hT;refine q _ _ hs ?_ (YAk S1.sm dR) ((p1.upd rfl).upd rfl);rw[YLE,<-ZM,<-YLe];exact S2
   case pos=>
    rw[YK2 (by rw[hT])];have hT:=hT.symm;refine Y3 ?_;dsimp only[JT];refine⟨_,Z,M.x,M.dx,_,Z,hx,Z,_,Z,_,Z,M,H,ds,row,i,k,Z,st.here,by lia,by lia,ht,by lia,hp,λH1 S1 p1=>?_⟩;obtain⟨sX,hv1,j_⟩:=S1.len;rw[YK5,ZM,YKu,YKu,ZL (by lia)]at j_;refine⟨_,Z,M.x,C.Mending,M.dx,_,_,Z,S1.x,T.aj,T.aA,Z,.inl ⟨Z,_,SqL.of hv1⟩,_,Z,_,_,Z,Z,_,Z,?_⟩;rw[YK0 (by lia)];refine Y3 ⟨_,Z,YF (by show 2<=1000;decide),λtt dR=>?_⟩;have hs:=YCl (t:=M.t) (a:=a) (b:=b) (c:=c) (p:=p) (i:=i) (j:=i + m) hk1 hk2 j4 hk3 (.keep (sgn p)) rfl rfl trivial hT;have sY:=YJ.upd (o:=.tup [.str "keep",.str ⟨#[sgn p]⟩]) dR _ _ hv1;refine⟨M.ld,_,_,Z,Z,sY,X5 (by lia),?_⟩;have S2:=(st.re S1).push (zs:=[.str "keep",.str ⟨#[sgn p]⟩]) dR hv1 λH'=>.cons (.str _) (.cons (.str _) .nil)
    have p2:YL (upd (upd H1 tt (.tup [.str "keep",.str ⟨#[sgn p]⟩])) M.ld (.lst (sX ++ [.ref tt]))):=(p1.upd rfl).upd rfl;have kp:=YAk (o:=.tup [.str "keep",.str ⟨#[sgn p]⟩]) (vs:=sX ++ [.ref tt]) S1.sm dR;revert S2 p2 kp;generalize upd (upd H1 tt (.tup [.str "keep",.str ⟨#[sgn p]⟩])) M.ld (.lst (sX ++ [.ref tt]))=H2;intro S2 p2 kp;refine⟨_,Z,M.x,M.dx,_,Z,S2.x,Z,_,Z,_,_,Z,Z,_,Z,M,H2,_,row,k + 1,i + m,Z,S2.here,by lia,j4,ht,?_,p2,λH3 S3 p3=>?_⟩
    ·rw[YK5,YK5,ZM,YKu,YKu,ZL (by lia)];show _ + 1<=_
     lia
    ·refine q _ _ hs ?_ (λa o n1 n2 e=>S3.sm a o n1 n2 (kp a o n1 n2 e)) p3;have:=S2.re S3;rw[YLE,YLR,<-ZM,<-ZM];rw[YLe,YLe]at this;exact this
  ·have nJ:X2 (XO p) M.t i (i + m)=false:=by
    rw[hin];exact YK0 λz=>by
     obtain⟨k,h1,h2,h3⟩:=hsub.mp z;exact hno k h1 h2 h3
   refine⟨_,Z,_,_,Z,Z,_,Z,?_⟩;rw[YK2 (by decide)];refine ZO ⟨_,Z,?_⟩;dsimp only[Yu];refine⟨_,Z,_,_,Z,Z,_,Z,?_⟩;rw[YK2 (by decide)];refine ZO ⟨_,Z,M.x,C.Mending,M.dx,_,_,Z,hx,T.aj,T.aZ,Z,M.ct,_,2,_,Z,Z,SqT.of hct,Z,?_⟩;dsimp only[Yu];refine⟨_,Z,_,Z,Z,_,Z,?_⟩
   by_cases hm:m=0
   ·rw[YK2 (by rw[hm,Nat.add_zero])];have hT:sgT M.t a b c p i (i + m)=(((i + m:Nat):Int) - i) * b + a:=by
     unfold sgT;rw[if_pos (by lia),hm,Nat.add_zero,Int.sub_self,YML,YLr]
    refine ZO ?_;refine⟨_,Z,M.x,M.dx,_,Z,hx,Z,_,Z,_,Z,M,H,ds,row,i,i + m,Z,st.here,by lia,j4,ht,by lia,hp,λH1 S1 p1=>?_⟩;obtain⟨sX,hv1,j_⟩:=S1.len;rw[YK5,ZM,YKu,YKu,ZL j4]at j_;refine⟨_,Z,M.x,C.Mending,M.dx,_,_,Z,S1.x,T.aj,T.aA,Z,.inl ⟨Z,_,SqL.of hv1⟩,_,Z,YF (by show 2<=1000;decide),λtt dR=>?_⟩;have sY:=YJ.upd (o:=.tup [.str "put",.str ⟨#[sgn p]⟩]) dR _ _ hv1;refine⟨M.ld,_,_,Z,Z,sY,X5 (by lia),?_⟩;have S2:=(st.re S1).push (zs:=[.str "put",.str ⟨#[sgn p]⟩]) dR hv1 λH'=>.cons (.str _) (.cons (.str _) .nil)
    have hs:=YBh (t:=M.t) (a:=a) (b:=b) (c:=c) (p:=p) (i:=i) (j:=i + m) (by lia) j4 hT;refine q _ _ hs ?_ (YAk S1.sm dR) ((p1.upd rfl).upd rfl);rw[YLE,<-ZM,<-YLe];exact S2
   rw[YK0 (λz=>by have:=V.int.inj z;lia)];have esg:=esg hm c (by rw[nJ];rfl);obtain⟨x0,hx0⟩:∃x0,M.t.cps.toList[i]?=some x0:=⟨_,YKx (show i < M.t.cps.toList.length by
    have:M.t.cps.toList.length=M.t.length:=YLK
    lia)⟩
   refine Y3 ⟨_,Z,_,Z,_,_,Z,Z,_,_,Z,Z,_,Z,M.x,C.Mending,M.dx,_,_,Z,hx,T.aj,T.aZ,Z,M.ct,_,1,_,Z,Z,SqT.of hct,Z,_,_,Z,Z,mulB,_,Z,_,_,Z,Z,?_⟩;refine⟨_,Z,M.x,C.Mending,M.dx,_,_,Z,hx,T.aj,T.aq,Z,_,Z,M.d,_,Z,gu,u,_,0,_,Z,Z,SqT.of hu',Z,?_⟩;refine⟨Z,_,Z,?_⟩
   by_cases hT:(((i + m:Nat):Int) - i - 1) * b + c=sgT M.t a b c p i (i + m)
   case neg=>
    rw[YK0 (λz=>hT (V.int.inj z))];have hT:sgT M.t a b c p i (i + m)=(((i + m:Nat):Int) - i) * b + a:=by
     rw[esg]at hT ⊢;split
     ·rename_i hlt
      rw[if_pos hlt]at hT;exact absurd rfl hT
     ·rfl
    refine ZO ?_;refine⟨_,Z,M.x,M.dx,_,Z,hx,Z,_,Z,_,Z,M,H,ds,row,i,i + m,Z,st.here,by lia,j4,ht,by lia,hp,λH1 S1 p1=>?_⟩;obtain⟨sX,hv1,j_⟩:=S1.len;rw[YK5,ZM,YKu,YKu,ZL j4]at j_;refine⟨_,Z,M.x,C.Mending,M.dx,_,_,Z,S1.x,T.aj,T.aA,Z,.inl ⟨Z,_,SqL.of hv1⟩,_,Z,YF (by show 2<=1000;decide),λtt dR=>?_⟩;have sY:=YJ.upd (o:=.tup [.str "put",.str ⟨#[sgn p]⟩]) dR _ _ hv1;refine⟨M.ld,_,_,Z,Z,sY,X5 (by lia),?_⟩;have S2:=(st.re S1).push (zs:=[.str "put",.str ⟨#[sgn p]⟩]) dR hv1 λH'=>.cons (.str _) (.cons (.str _) .nil)
    have hs:=YBh (t:=M.t) (a:=a) (b:=b) (c:=c) (p:=p) (i:=i) (j:=i + m) (by lia) j4 hT;refine q _ _ hs ?_ (YAk S1.sm dR) ((p1.upd rfl).upd rfl);rw[YLE,<-ZM,<-YLe];exact S2
   case pos=>
    rw[YK2 (by rw[hT])];have hT:=hT.symm;refine Y3 ?_;dsimp only[JT];refine⟨_,Z,M.x,M.dx,_,Z,hx,Z,_,Z,_,Z,M,H,ds,row,i,i,Z,st.here,by lia,by lia,ht,by lia,hp,λH1 S1 p1=>?_⟩;obtain⟨sX,hv1,j_⟩:=S1.len;rw[YK5,ZM,YKu,YKu,ZL (by lia)]at j_;refine⟨_,Z,M.x,C.Mending,M.dx,_,_,Z,S1.x,T.aj,T.aA,Z,.inl ⟨Z,_,SqL.of hv1⟩,_,Z,_,_,Z,Z,_,Z,?_⟩;rw[YK2 (by decide)];refine ZO ⟨_,Z,M.x,C.Mending,M.dx,_,_,Z,S1.x,T.aj,T.bx,Z,_,Z,M.t,_,x0,Z,Z,YF (by lia),Yq hx0,_,Z,YF (by show 3<=1000;decide),λtt dR=>?_⟩;have hs:=YCl (t:=M.t) (a:=a) (b:=b) (c:=c) (p:=p) (i:=i) (j:=i + m) (YKv _) (by lia) j4 hx0 (.swap x0 (sgn p)) rfl rfl (λz=>hno i (YKv _) (by lia) (by rw[hx0,z])) hT;have sY:=YJ.upd (o:=.tup [.str "swap",.str ⟨#[x0]⟩,.str ⟨#[sgn p]⟩]) dR _ _ hv1;refine⟨M.ld,_,_,Z,Z,sY,X5 (by lia),?_⟩;have S2:=(st.re S1).push (zs:=[.str "swap",.str ⟨#[x0]⟩,.str ⟨#[sgn p]⟩]) dR hv1 λH'=>.cons (.str _) (.cons (.str _) (.cons (.str _) .nil))
    have p2:YL (upd (upd H1 tt (.tup [.str "swap",.str ⟨#[x0]⟩,.str ⟨#[sgn p]⟩])) M.ld (.lst (sX ++ [.ref tt]))):=(p1.upd rfl).upd rfl;have kp:=YAk (o:=.tup [.str "swap",.str ⟨#[x0]⟩,.str ⟨#[sgn p]⟩]) (vs:=sX ++ [.ref tt]) S1.sm dR;revert S2 p2 kp;generalize upd (upd H1 tt (.tup [.str "swap",.str ⟨#[x0]⟩,.str ⟨#[sgn p]⟩])) M.ld (.lst (sX ++ [.ref tt]))=H2;intro S2 p2 kp;refine⟨_,Z,M.x,M.dx,_,Z,S2.x,Z,_,Z,_,_,Z,Z,_,Z,M,H2,_,row,i + 1,i + m,Z,S2.here,by lia,j4,ht,?_,p2,λH3 S3 p3=>?_⟩
    ·rw[YK5,YK5,ZM,YKu,YKu,ZL (by lia)];show _ + 1<=_
     lia
    ·refine q _ _ hs ?_ (λa o n1 n2 e=>S3.sm a o n1 n2 (kp a o n1 n2 e)) p3;have:=S2.re S3;rw[YLE,YLR,<-ZM,<-ZM];rw[YLe,YLe]at this;exact this
end
inductive Stp (g:Yy) (t:Str) (a b c:Int) (vp:Nd->Int×Int):Nd->List Nd->List Dd->List Nat->Prop
 |sign {p:Str}{i j:Nat}{sd:List Dd}:isQ p=true->vp (.part p i j)=(sgT t a b c p i j,0)->SgD t a b c p i j sd->Stp g t a b c vp (.part p i j) [] sd []
 |name {r i j:Nat}{ρ:Y4}:g[r]?=some ρ->isQ ρ.1=false->vp (.part ρ.1 i j)=vp (.beg r ρ.2.1.length i j)->1<=(vp (.beg r ρ.2.1.length i j)).2->Stp g t a b c vp (.part ρ.1 i j) [.beg r ρ.2.1.length i j] [] []
 |beg0 {r i j:Nat}{ρ:Y4}:g[r]?=some ρ->i<=j->j<=t.length->vp (.beg r 0 i j)=(((j - i:Nat):Int) * b,1)->Stp g t a b c vp (.beg r 0 i j) [] ((JB t i j).map Dd.cut) [r]
 |begS {r d i j k:Nat}{ρ:Y4}{p:Str}:g[r]?=some ρ->ρ.2.1[d]?=some p->i<=k->k<=j->j<=t.length->vp (.beg r (d + 1) i j)=((vp (.beg r d i k)).1 + (vp (.part p k j)).1,(vp (.beg r d i k)).2 + (vp (.part p k j)).2)->1<=(vp (.beg r d i k)).2->0<=(vp (.part p k j)).2->(isQ p=true->(vp (.part p k j)).2=0)->
   Stp g t a b c vp (.beg r (d + 1) i j) [.beg r d i k,.part p k j] [] []
def YGh:Nd->Prop
 |.part _ _ _=>True
 |.beg _ _ _ _=>False
inductive MkS (g:Yy) (t:Str) (a b c:Int) (vp:Nd->Int×Int):List Nd->List Dd->List Nat->Prop
 |nil:MkS g t a b c vp [] [] []
 |cons {n:Nd}{ch ns:List Nd}{sd ds:List Dd}{rw_ row:List Nat}:(∀x∈ns,YGh x)->Stp g t a b c vp n ch sd rw_->MkS g t a b c vp (ch ++ ns) ds row->MkS g t a b c vp (n :: ns) (sd ++ ds) (rw_ ++ row)
def YCX (f:Nd->Int) (ns:List Nd):Int:=(ns.map f).sum
def Xl (f:Nd->Nat) (ns:List Nd):Nat:=(ns.map f).sum
theorem X6 (f:Nd->Nat) (x y:List Nd):Xl f (x ++ y)=Xl f x + Xl f y:=by unfold Xl;rw[YLE,List.sum_append]
theorem YCB (f:Nd->Nat) (x:Nd) (y:List Nd):Xl f (x :: y)=f x + Xl f y:=by unfold Xl;rw[YLR,YMi]
theorem YKk (f:Nd->Int) (x y:List Nd):YCX f (x ++ y)=YCX f x + YCX f y:=by unfold YCX;rw[YLE,List.sum_append]
theorem YEe (f:Nd->Int) (x:Nd) (y:List Nd):YCX f (x :: y)=f x + YCX f y:=by unfold YCX;rw[YLR,YMi]
def muS (vp:Nd->Int×Int):Nd->Nat
 |.part p i j=>if isQ p=true then 1 else 14 * (vp (.part p i j)).2.toNat
 |.beg r d i j=>14 * ((vp (.beg r d i j)).2.toNat - 1) + 1 + 2 * d
def deS (vp:Nd->Int×Int):Nd->Nat
 |.part p i j=>j - i + 6 * (vp (.part p i j)).2.toNat + (if isQ p=true then 1 else 0)
 |.beg r d i j=>j - i + 6 * ((vp (.beg r d i j)).2.toNat - 1) + d
def roS (vp:Nd->Int×Int) (n:Nd):Nat:=(vp n).2.toNat
def spN (t:Str):Nd->List Nat
 |.part _ i j=>JB t i j
 |.beg _ _ i j=>JB t i j
def nmN:Nd->Str
 |.part p _ _=>p
 |.beg _ _ _ _=>default
section
variable {g:Yy}{t:Str}{a b c:Int}{vp:Nd->Int×Int}{n:Nd}{ch ns:List Nd}{sd ds:List Dd}{rw_ row:List Nat}
theorem Stp.mu (h:Stp g t a b c vp n ch sd rw_) (h6:∀ρ∈g,ρ.2.1.length<=6):Xl (muS vp) ch + 1<=muS vp n:=by
 cases h with
 |sign hq _ _=>
  show 0 + 1<=if isQ _=true then 1 else _
  rw[if_pos hq];exact YKv _
 |@name r i j ρ er hq e h1=>
  have:=h6 ρ (YKw er);show(14 * ((vp (.beg r ρ.2.1.length i j)).2.toNat - 1) + 1 + 2 * ρ.2.1.length) + 0 + 1<=if isQ _=true then 1 else _
  rw[if_neg (by rw[hq];decide),e]
  lia
 |beg0 _ _ _ _=>
  show 0 + 1<=_ + 1 + 2 * 0
  lia
 |@begS r d i j k ρ p er ep _ _ _ e h1 h2 h3=>
  show(14 * ((vp (.beg r d i k)).2.toNat - 1) + 1 + 2 * d) + ((if isQ p=true then 1 else 14 * (vp (.part p k j)).2.toNat) + 0) + 1<=14 * ((vp (.beg r (d + 1) i j)).2.toNat - 1) + 1 + 2 * (d + 1);rw[e];dsimp only;split <;> lia
theorem Stp.de (h:Stp g t a b c vp n ch sd rw_) (h6:∀ρ∈g,ρ.2.1.length<=6):Xl (deS vp) ch + sd.length<=deS vp n:=by
 cases h with
 |@sign p i j sd hq e s=>
  show 0 + sd.length<=j - i + 6 * (vp (.part p i j)).2.toNat + (if isQ p=true then 1 else 0);rw[if_pos hq];have:=s.ln
  lia
 |@name r i j ρ er hq e h1=>
  have:=h6 ρ (YKw er);show(j - i + 6 * ((vp (.beg r ρ.2.1.length i j)).2.toNat - 1) + ρ.2.1.length) + 0 + 0<=j - i + 6 * (vp (.part ρ.1 i j)).2.toNat + (if isQ ρ.1=true then 1 else 0);rw[if_neg (by rw[hq];decide),e]
  lia
 |@beg0 r i j ρ _ _ h2 _=>
  show 0 + ((JB t i j).map Dd.cut).length<=j - i + 6 * ((vp (.beg r 0 i j)).2.toNat - 1) + 0;rw[YKu,ZL h2]
  lia
 |@begS r d i j k ρ p er ep g1 g2 _ e h1 h2 h3=>
  show(k - i + 6 * ((vp (.beg r d i k)).2.toNat - 1) + d) + ((j - k + 6 * (vp (.part p k j)).2.toNat + (if isQ p=true then 1 else 0)) + 0) + 0<=j - i + 6 * ((vp (.beg r (d + 1) i j)).2.toNat - 1) + (d + 1);rw[e];dsimp only;split <;> lia
theorem Stp.ro (h:Stp g t a b c vp n ch sd rw_):Xl (roS vp) ch + rw_.length<=roS vp n:=by
 cases h with
 |sign hq _ _=>exact YLS _
 |@name r i j ρ er hq e h1=>
  show((vp (.beg r ρ.2.1.length i j)).2.toNat + 0) + 0<=(vp (.part ρ.1 i j)).2.toNat;rw[e];exact YKv _
 |@beg0 r i j ρ _ _ _ e=>
  show 0 + 1<=(vp (.beg r 0 i j)).2.toNat;rw[e];exact YKv _
 |@begS r d i j k ρ p er ep _ _ _ e h1 h2 h3=>
  show((vp (.beg r d i k)).2.toNat + ((vp (.part p k j)).2.toNat + 0)) + 0<=(vp (.beg r (d + 1) i j)).2.toNat;rw[e];dsimp only
  lia
def RdN (g:Yy):List Nd->List Nat->List Nat->Prop
 |.beg r d _ _ :: ns,row,tx=>∃ρ gO,g[r]?=some ρ/\row=r :: gO/\Z5 g (ρ.2.1.take d ++ ns.map nmN) gO tx
 |ns,row,tx=>Z5 g (ns.map nmN) row tx
theorem RdN.parts:∀{ns:List Nd},(∀x∈ns,YGh x)->∀{row tx:List Nat},RdN g ns row tx->Z5 g (ns.map nmN) row tx
 |[],_,_,_,h=>h
 |.part _ _ _ :: _,_,_,_,h=>h
 |.beg _ _ _ _ :: _,hp,_,_,_=>(hp _ (YLJ ..)).elim
theorem MkS.sem (h:MkS g t a b c vp ns ds row):coL a b c ds=YCX (λn=>(vp n).1) ns/\(row.length:Int)=YCX (λn=>(vp n).2) ns/\(∀d∈ds,ddOk d)/\tkL ds=ns.flatMap (spN t)/\RdN g ns row (mkL ds):=by
 induction h with
 |nil=>exact⟨Z,Z,(λd hd=>nomatch hd),Z,Z5.nil⟩
 |@cons n ch ns sd ds rw_ row hp st _ ih=>
  obtain⟨i1,i2,i3,i4,i5⟩:=ih;rw[YKk]at i1 i2;rw[List.flatMap_append]at i4;rw[YCk,YCi,YCj,YK5,YEe,YEe,YMc,i1,i4];cases st with
  |@sign p i j sd hq e s=>
   refine⟨?_,?_,λd hd=>?_,?_,?_⟩
   ·rw[s.co,e];show _ + (0 + _)=_
    lia
   ·rw[e];show((0 + row.length:Nat):Int)=0 + _;rw[Nat.zero_add,i2];show 0 + _=0 + _;rfl
   ·rcases YLQ.mp hd with hd |hd
    ·exact s.ok d hd
    ·exact i3 d hd
   ·rw[s.tk];rfl
   ·rw[s.mkd];exact .sign hq (RdN.parts hp i5)
  |@name r i j ρ er hq e h1=>
   refine⟨?_,?_,λd hd=>i3 d hd,?_,?_⟩
   ·rw[e];show 0 + ((_ + 0) + _)=_;dsimp only
    lia
   ·rw[e];show((0 + row.length:Nat):Int)=_;rw[Nat.zero_add,i2];show(_ + 0) + _=_;dsimp only
    lia
   ·show[] ++ ((JB t i j ++ []) ++ _)=JB t i j ++ _;rw[YMo,YLa]
   ·obtain⟨ρ',gO,e1,e2,e3⟩:=i5;rw[er]at e1;cases e1;rw[e2];rw[YL9]at e3;exact .name hq er e3
  |@beg0 r i j ρ er g1 g2 e=>
   refine⟨?_,?_,λd hd=>?_,?_,?_⟩
   ·rw[YBg,ZL g2,e];show _ + (0 + _)=_
    lia
   ·rw[e];show((1 + row.length:Nat):Int)=1 + _;rw[Int.natCast_add,i2];show 1 + (0 + _)=_
    lia
   ·rcases YLQ.mp hd with hd |hd
    ·obtain⟨x,_,rfl⟩:=YLL.mp hd
     trivial
    ·exact i3 d hd
   ·rw[YBe];rfl
   ·rw[YBf];exact⟨ρ,row,er,Z,RdN.parts hp i5⟩
  |@begS r d i j k ρ p er ep g1 g2 g3 e h1 h2 h3=>
   refine⟨?_,?_,λd hd=>i3 d hd,?_,?_⟩
   ·rw[e];show 0 + ((_ + (_ + 0)) + _)=_;dsimp only
    lia
   ·rw[e];show((0 + row.length:Nat):Int)=_;rw[Nat.zero_add,i2];show(_ + (_ + 0)) + _=_;dsimp only
    lia
   ·show[] ++ ((JB t i k ++ (JB t k j ++ [])) ++ _)=JB t i j ++ _;rw[YMo,YLa,YDT g1 g2 g3]
   ·obtain⟨ρ',gO,e1,e2,e3⟩:=i5;rw[er]at e1;cases e1;refine⟨ρ,gO,er,e2,?_⟩;rw[YLn,ep];show Z5 g (ρ.2.1.take d ++ [p] ++ ns.map nmN) gO (mkL ds);rw[YLe];exact e3
end
def vpN (O:OvF) (F:FiF) (n:Nd):Int×Int:=pr (YAe O F n)
def YBL (row:List Nat):List Int:=row.map λk:Nat=>(k:Int)
section
variable {g:Yy}{t:Str}{a b c:Int}{T:Tol}{ps:List Str}{O:OvF}{F:FiF}{fs:List (Nd×Int)}
theorem YCC {r d i m:Nat}:vpN O F (.beg r d i (i + m))=pr (F r d i m):=by
 show pr (F r d i (i + m - i))=_;rw[YMF]
theorem YKl (x:Int):0<=(pr x).2:=YLw x (YMg ZZ)
theorem ZK.vpS (W:ZK g t a b c T ps O F fs) {p:Str} (hq:isQ p=true) (i j:Nat):vpN O F (.part p i j)=(sgT t a b c p i j,0):=by
 show pr (O p i j)=_;rw[W.iv.sg p i j hq,W.et,W.ep,W.ec,W.es,YCh,YFK]
theorem ZK.one (W:ZK g t a b c T ps O F fs) (hb:0<=b) (h6:∀ρ∈g,ρ.2.1.length<=6) (hB:(t.length + 1) * T.s.length<=60) {r:Nat}{ρ:Y4} (hr:g[r]?=some ρ) {i:Nat}:∀{d m:Nat},d<=rch T.s ρ.2.1->i + m<=t.length->1<=(pr (F r d i m)).2:=by
 intro d
 induction d with
 |zero=>
  intro m _ hm;rw[((W.ok hb).f i m hm r ρ hr).1,W.ec,<-Int.mul_assoc,YIS];exact YLk _
 |succ d ih=>
  intro m hd hm;obtain⟨p,ep,hok⟩:=Zy (s:=T.s) (ps:=ρ.2.1) (j:=d) (by lia);obtain⟨_,k,hk,e⟩:=((W.ok hb).f i m hm r ρ hr).2 d p (by lia) ep;have es:=W.sumB hb h6 hB hr (show d<=rch T.s ρ.2.1 by lia) hok hk hm;rw[e,<-es];have:=ih (m:=k) (by lia) (by lia);have:=YKl (O p (i + k) (i + m));dsimp only
  lia
theorem ZK.stp0 (W:ZK g t a b c T ps O F fs) (hb:0<=b) {r:Nat}{ρ:Y4} (hr:g[r]?=some ρ) {i m:Nat} (hm:i + m<=t.length):Stp g t a b c (vpN O F) (.beg r 0 i (i + m)) [] ((JB t i (i + m)).map Dd.cut) [r]:=by
 refine .beg0 hr (by lia) hm ?_;rw[YCC,((W.ok hb).f i m hm r ρ hr).1,W.ec,<-Int.mul_assoc,YIS,YMF]
theorem ZK.stpB (W:ZK g t a b c T ps O F fs) (hb:0<=b) (h6:∀ρ∈g,ρ.2.1.length<=6) (hB:(t.length + 1) * T.s.length<=60) {r:Nat}{ρ:Y4} (hr:g[r]?=some ρ) {d i m k:Nat}{p:Str} (hd:d < rch T.s ρ.2.1) (ep:ρ.2.1[d]?=some p) (hk:k<=m) (hm:i + m<=t.length) (e:F r (d + 1) i m=F r d i k + O p (i + k) (i + m)):Stp g t a b c (vpN O F) (.beg r (d + 1) i (i + m)) [.beg r d i (i + k),.part p (i + k) (i + m)] [] []:=by
 obtain⟨p',e1,hok⟩:=Zy hd;rw[ep]at e1;cases e1;have es:=W.sumB hb h6 hB hr (YMf hd) hok hk hm;refine .begS hr ep (by lia) (by lia) hm ?_ ?_ (YKl _) (λhq=>by rw[W.vpS hq])
 ·rw[YCC,YCC,e];exact es.symm
 ·rw[YCC];exact W.one hb h6 hB hr (by lia) (by lia)
theorem ZK.stpN (W:ZK g t a b c T ps O F fs) (hb:0<=b) (h6:∀ρ∈g,ρ.2.1.length<=6) (hB:(t.length + 1) * T.s.length<=60) {r:Nat}{ρ:Y4} (hr:g[r]?=some ρ) {i m:Nat} (hq:isQ ρ.1=false) (hf:rch T.s ρ.2.1=ρ.2.1.length) (hm:i + m<=t.length) (e:O ρ.1 i (i + m)=F r ρ.2.1.length i m):Stp g t a b c (vpN O F) (.part ρ.1 i (i + m)) [.beg r ρ.2.1.length i (i + m)] [] []:=by
 refine .name hr hq ?_ ?_
 ·rw[YCC,<-e];rfl
 ·rw[YCC];exact W.one hb h6 hB hr (by lia) hm
end
theorem Stp.len {g:Yy}{t:Str}{a b c:Int}{vp:Nd->Int×Int}{n:Nd}{ch:List Nd}{sd:List Dd}{rw_:List Nat} (h:Stp g t a b c vp n ch sd rw_):ch.length<=2:=by
 cases h with
 |sign _ _ _=>exact YLS _
 |name _ _ _ _=>exact(show 1<=2 by decide)
 |beg0 _ _ _ _=>exact YLS _
 |begS _ _ _ _ _ _ _ _ _=>exact YKv _
theorem YGi {H H':Hp}{xs:List V}{ds:List D} (h:Ya H xs ds) (k:∀v d,d∈ds->Den H v d->Den H' v d):Ya H' xs ds:=
 Ya.of_all h.len λi v d e1 e2=>by
  obtain⟨d',e3,e4⟩:=h.get e1;rw[e2]at e3;cases e3;exact k v d (YKw e2) e4
theorem YJO {H H':Hp}{xs:List V}{ss:List Str} (h:Ya H xs (ss.map D.str)):Ya H' xs (ss.map D.str):=YGi h λv d hd e=>by
 obtain⟨s,_,rfl⟩:=YLL.mp hd;rw[e.to_str];exact .str _
theorem ddD_tup (d:Dd):∃ss:List Str,ddD d=.tup (ss.map D.str):=by
 cases d
 ·exact⟨[_,_],Z⟩
 ·exact⟨[_,_],Z⟩
 ·exact⟨[_,_,_],Z⟩
 ·exact⟨[_,_],Z⟩
theorem YGj {H H':Hp} (k:∀u ys,H u=some (.tup ys)->H' u=some (.tup ys)) {xs:List V}{l:List Dd} (h:Ya H xs (l.map ddD)):Ya H' xs (l.map ddD):=YGi h λv d hd h1=>by
 obtain⟨x,_,rfl⟩:=YLL.mp hd;obtain⟨ss,e⟩:=ddD_tup x;rw[e]at h1 ⊢;obtain⟨u,ys,rfl,hu,hs⟩:=h1.to_tup;exact .tup (k _ _ hu) (YJO hs)
theorem MSt.same {C:Addr}{M:Mnd}{H0 H H':Hp}{ds:List D}{row:List Int} (S:MSt C M H0 H ds row) (s:YJ H H'):MSt C M H0 H' ds row where
 hx0:=S.hx0
 ne:=S.ne
 nx:=S.nx
 sm:=λa o n1 n2 e=>s _ _ (S.sm a o n1 n2 e)
 hd:=by
  obtain⟨vs,h1,h2⟩:=S.hd;exact⟨vs,s _ _ h1,h2.same ((s.del _).del _)⟩
 hw:=s _ _ S.hw
theorem MSt.putW {C:Addr}{M:Mnd}{H0 H:Hp}{ds:List Dd}{row:List Int} (S:MSt C M H0 H (ds.map ddD) row) {wl:Addr}{vs vs':List V} (h0:H0 wl=none) (n1:wl≠M.ld) (n2:wl≠M.lw) (hw:H wl=some (.lst vs)):MSt C M H0 (upd H wl (.lst vs')) (ds.map ddD) row where
 hx0:=S.hx0
 ne:=S.ne
 nx:=S.nx
 sm:=λa o m1 m2 e=>by
  rw[YH (λz=>by rw[z,h0]at e;cases e)];exact S.sm a o m1 m2 e
 hd:=by
  obtain⟨ys,h1,h2⟩:=S.hd;refine⟨ys,by rw[YH n1.symm];exact h1,YGj (λu zs e=>?_) h2⟩;have e1:=ZI _ _ _ _ (ZI _ _ _ _ e);have m1:u≠M.ld:=λz=>by rw[z,h1]at e1;cases e1
  have m2:u≠M.lw:=λz=>by rw[z,S.hw]at e1;cases e1
  rw[Z8 m2,Z8 m1,YH (λz=>by rw[z,hw]at e1;cases e1)];exact e1
 hw:=by
  rw[YH n2.symm];exact S.hw
theorem MSt.pushR {C:Addr}{M:Mnd}{H0 H:Hp}{ds:List Dd}{row:List Int} (S:MSt C M H0 H (ds.map ddD) row) (k:Int):MSt C M H0 (upd H M.lw (.lst (row.map V.int ++ [.int k]))) (ds.map ddD) (row ++ [k]) where
 hx0:=S.hx0
 ne:=S.ne
 nx:=S.nx
 sm:=λa o m1 m2 e=>by
  rw[YH m2];exact S.sm a o m1 m2 e
 hd:=by
  obtain⟨ys,h1,h2⟩:=S.hd;refine⟨ys,by rw[YH S.ne];exact h1,YGj (λu zs e=>?_) h2⟩;have e1:=ZI _ _ _ _ (ZI _ _ _ _ e);have m1:u≠M.ld:=λz=>by rw[z,h1]at e1;cases e1
  have m2:u≠M.lw:=λz=>by rw[z,S.hw]at e1;cases e1
  rw[Z8 m2,Z8 m1,YH m2];exact e1
 hw:=by
  rw[YLE];exact YC
def YCY (H:Hp) (x:Addr×Nd):Prop:=H x.1=some (.tup ((Zv x.2).map kV))
def Xm (ws:List (Addr×Nd)):List V:=(ws.map λx=>V.ref x.1).reverse
structure GoI (C:Addr) (M:Mnd) (H0 H:Hp) (g:Yy) (a b c:Int) (T:Tol) (ps:List Str) (O:OvF) (F:FiF) (wl:Addr) (top:Nd) (ws:List (Addr×Nd)) (ds:List Dd) (row:List Nat) (H':Hp):Prop where
 w:H' wl=some (.lst (Xm ws))
 at_:∀x∈ws,YCY H' x
 al:∀x∈ws,YAf T ps x.2
 pt:∀x∈ws.tail,YGh x.2
 mk_:∀sO gO,MkS g M.t a b c (vpN O F) (ws.map (·.2)) sO gO->MkS g M.t a b c (vpN O F) [top] (ds ++ sO) (row ++ gO)
 de:ds.length + Xl (deS (vpN O F)) (ws.map (·.2))<=6060
 ro:row.length + Xl (roS (vpN O F)) (ws.map (·.2))<=1000
 ln:ws.length + Xl (muS (vpN O F)) (ws.map (·.2))<=14001
 S:MSt C M H0 H' (ds.map ddD) (YBL row)
 kp:KpM M H H'
 pl:YL H'
theorem YAw (x:Addr×Nd) (ws:List (Addr×Nd)):Xm (x :: ws)=Xm ws ++ [.ref x.1]:=by
 unfold Xm;rw[YLR,List.reverse_cons]
theorem GoI.step {C:Addr}{M:Mnd}{H0 H H' H'':Hp}{g:Yy}{a b c:Int}{T:Tol}{ps:List Str}{O:OvF}{F:FiF}{wl:Addr}{top:Nd}{x:Addr×Nd}{ws ch:List (Addr×Nd)}{ds sd:List Dd}{row rw_:List Nat} (I:GoI C M H0 H g a b c T ps O F wl top (x :: ws) ds row H') (h6:∀ρ∈g,ρ.2.1.length<=6) (st:Stp g M.t a b c (vpN O F) x.2 (ch.map (·.2)) sd rw_)
  (hw:H'' wl=some (.lst (Xm (ch ++ ws)))) (hat:∀y∈ch ++ ws,YCY H'' y) (hal:∀y∈ch,YAf T ps y.2) (vo:∀y∈(ch ++ ws).tail,YGh y.2) (S:MSt C M H0 H'' ((ds ++ sd).map ddD) (YBL (row ++ rw_))) (kp:KpM M H H'') (pl:YL H''):
  GoI C M H0 H g a b c T ps O F wl top (ch ++ ws) (ds ++ sd) (row ++ rw_) H''/\Xl (muS (vpN O F)) ((ch ++ ws).map (·.2)) < Xl (muS (vpN O F)) ((x :: ws).map (·.2)):=by
 have h1:=st.mu h6;have h2:=st.de h6;have h3:=st.ro;have h4:=st.len;have d:=I.de;have r:=I.ro;have l:=I.ln;rw[YLR,YCB]at d r l ⊢;rw[YKu]at h4;rw[YK6]at l;refine⟨⟨hw,hat,λy hy=>?_,vo,λsO gO h=>?_,?_,?_,?_,S,kp,pl⟩,?_⟩
 ·rcases YLQ.mp hy with hy |hy
  ·exact hal y hy
  ·exact I.al y (YLA _ hy)
 ·rw[YLE]at h;have:=I.mk_ (sd ++ sO) (rw_ ++ gO) (.cons (λz hz=>?_) st h)
  ·rw[YLe,YLe];exact this
  ·obtain⟨y,hy,rfl⟩:=YLL.mp hz;exact I.pt y hy
 ·rw[YLE,X6,YK5]
  lia
 ·rw[YLE,X6,YK5]
  lia
 ·rw[YLE,X6,YK5]
  lia
 ·rw[YLE,X6]
  lia
inductive YEf (C:Addr) (vs:List V) (H:Hp) (Q:VK):Prop where
 |mk (M:Mnd) (H0:Hp) (o:Obj) (kvs:List (List Key×V)) (xs:List V) (g:Yy) (a b c:Int) (T:Tol) (ps:List Str) (O:OvF) (F:FiF) (fs:List (Nd×Int)) (nt:Addr) (h:Str) (n:Nat) (aX:vs=[.ref M.x,.ref nt]) (aY:MSt C M H0 H [] []) (bU:MPre M H0 o kvs xs g a b c T ps O F fs) (cN:H nt=some (.tup ((Zv (.part h 0 n)).map kV))) (dh:YAf T ps (.part h 0 n)) (i_:isQ h=false) (lD:(vpN O F (.part h 0 n)).2<=1000) (n_:YL H) (uE:∀ds row H',MkS g M.t a b c (vpN O F) [.part h 0 n] ds row->MSt C M H0 H' (ds.map ddD) (YBL row)->KpM M H H'->YL H'->Q .non H'):YEf C vs H Q
def YGk (C:Addr):Sp:=λvs H Q E_=>YEf C vs H Q
section
variable {P:Program}{w:World}{K:W.Frag}{mg:Str->Option Value}{base:Heap}{C:Adr}
theorem JO:YW ["self","top","waiting","node"] ["self","top"] (YK Jb):=⟨Z,Z,Z,by decide +kernel,Z,by decide +kernel,by decide +kernel⟩
theorem YBM {f:Addr}{fd:FuncData} (F:Fun K "go_down" "Mending.go_down" Jb f fd) (T:Txt K mg C) (bu:Js P w K mg CX0 2 C.Mending "take_sign" ["self","node"] (YGg C.Mending)) (bB:Js P w K mg CX0 1 C.Mending "rule_for" ["self","node"] (YEc C.Mending)) (aB:Js P w K mg CX0 1 C.Mending "cut_signs" ["self","begin","end"] (YHg C.Mending)) (bL:Js P w K mg CX0 1 C.Mending "way_for" ["self","node"] (YGf C.Mending)):Yw P w K mg base CX0 3 f fd ["self","top"] (YGk C.Mending):=by
 obtain⟨mV,lY,eU,dG,eV⟩:=bu.ok;obtain⟨nR,mW,gB,eX,gC⟩:=bB.ok;obtain⟨eQ,dF,aG,aD,aH⟩:=aB.ok;obtain⟨pG,nT,ig,gD,ik⟩:=bL.ok;refine F.ok JO (λvs H Q E h=>?_) (λaO A outer s H vs Q E hr h=>?_)
 ·cases h;subst_vars;rfl
 ·obtain⟨M,H0,o,kvs,xs,g,a,b,c,S,ps,O,FF,fs,nt,hd,n,rfl,st,pre,hnt,yS,hq,hR,hp,q⟩:=h;have hu:=Zw hr;have hU:=hr.units;refine qex ?_;refine⟨_,(YE ⟨(YQ (i:=2) JO.nd rfl (Or.inl rfl) (ZH (YA (pv 1) YD)))⟩
   (Y7 ⟨(YCo PassesOwn.never (YED K rfl (pv 2) (λ_=>rfl)) (YO (YQ (i:=3) JO.nd rfl (Or.inl rfl) (YHz K rfl YLT PySem.F.slot_list_pop PySem.F.type_list_pop mt_pop (pv 2)))
   (YG (Y1 (PW.pt (YBk (Yb XA (YR (Yg K rfl) (by rfl) T.aL YK7 (YA (pv 3) YD)) YB (Yc _)) (YAp (Z7 (Ze K rfl YL7 YMN YMM Zu (YM (YN K rfl) (pv 3) YB (λ_ _=>rfl)) (YA Y0 YD)))))) (YG (Y6 (Zh (pv 0) T.aj dG (eU base) (hr.mono (by decide)) eV .nil Yj (YA (pv 3) YD)))) (YG (Y1 (Yb XA (YR (Yg K rfl) (by rfl) T.aL YK7 (YA (pv 3) YD)) YB (Yc _)) (YG (Y6 (Ze K rfl YLT YLi YLh ZP (pv 2) (YA (Zh (pv 0) T.aj eX (gB base) (hr.mono (by decide)) gC .nil Yj (YA (pv 3) YD)) YD)))) (YG (Y1 (Yb XA (YM (YN K rfl) (pv 3) YB (λ_ _=>rfl)) YB (Yc _)) (YO (Y6 (Ze K rfl YLT YLi YLh ZP (YT K rfl (pv 0) rfl) (YA (YM (YN K rfl) (pv 3) YB (λ_ _=>rfl)) YD)))
   (YG (Y6 (Zh (pv 0) T.aj aD (aG base) (hr.mono (by decide)) aH .nil Yj (YA (YM (YN K rfl) (pv 3) YB (λ_ _=>rfl)) (YA (YM (YN K rfl) (pv 3) YB (λ_ _=>rfl)) YD)))))) (YG (Y6 (Ze K rfl YLT PySem.F.slot_list_extend PySem.F.type_list_extend YD0 (pv 2) (YA (YE8 K rfl rfl rfl T.eZ rfl T.jk (YA (Zh (pv 0) T.aj gD (ig base) (hr.mono (by decide)) ik .nil Yj (YA (pv 3) YD)) YD)) YD))))))))))))⟩)),?_⟩
  refine⟨_,Z,YF (by show 1<=1000;decide),λwl hwl=>?_⟩;have h6:∀ρ∈g,ρ.2.1.length<=6:=λρ hρ=>(JL pre.hg hρ).2.1
  have W:=pre.W;have hb:=pre.hb;have hB:=pre.hB;have ht:=pre.ht;obtain⟨vs0,hv0,_⟩:=st.len;have n1:wl≠M.ld:=λz=>by rw[z,hv0]at hwl;cases hwl
  have n2:wl≠M.lw:=λz=>by rw[z,st.hw]at hwl;cases hwl
  have h0:H0 wl=none:=by
   cases e:H0 wl with
   |none=>rfl
   |some o=>rw[st.sm _ _ n1 n2 e]at hwl;cases hwl
  have s1:=YJ.upd (o:=.lst [V.ref nt]) hwl;have hnn:n<=M.t.length:=by have:=yS.2.2;rw[W.en]at this;exact this
  have eR:(vpN O FF (.part hd 0 n)).2.toNat<=1000:=by lia
  have init:GoI C.Mending M H0 H g a b c S ps O FF wl (.part hd 0 n) [(nt,.part hd 0 n)] [] [] (upd H wl (.lst [V.ref nt])):=by
   refine⟨YC,λx hx=>?_,λx hx=>?_,λx hx=>(nomatch hx),λsO gO h=>h,?_,?_,?_,st.same s1,λa o _ _ e=>s1 _ _ e,hp.upd rfl⟩
   ·rw[YK4.mp hx];exact s1 _ _ hnt
   ·rw[YK4.mp hx];exact yS
   ·show 0 + (n - 0 + 6 * (vpN O FF (.part hd 0 n)).2.toNat + (if isQ hd=true then 1 else 0) + 0)<=6060;rw[if_neg (by rw[hq];decide)]
    lia
   ·show 0 + ((vpN O FF (.part hd 0 n)).2.toNat + 0)<=1000
    lia
   ·show 1 + ((if isQ hd=true then 1 else 14 * (vpN O FF (.part hd 0 n)).2.toNat) + 0)<=14001;rw[if_neg (by rw[hq];decide)]
    lia
  revert init;generalize upd H wl (.lst [V.ref nt])=H1;intro init;refine⟨λμ σ H'=>∃(ws:List (Addr×Nd)) (ds:List Dd) (row:List Nat) (v3:Option V),σ=[some (.ref M.x),some (.ref nt),some (.ref wl),v3]/\μ=Xl (muS (vpN O FF)) (ws.map (·.2))/\GoI C.Mending M H0 H g a b c S ps O FF wl (.part hd 0 n) ws ds row H',⟨_,_,_,_,_,Z,Z,init⟩,?_⟩;rintro μ σ H2 ⟨ws,ds,row,v3,rfl,hμ,I⟩;refine⟨_,Z,_,.inl ⟨_,SqL.of I.w,Z⟩,?_⟩;cases ws with
  |nil=>
   refine Y3 ?_;have:=I.mk_ [] [] .nil;rw[YLa,YLa]at this;exact q ds row H2 this I.S I.kp I.pl
  |cons x ws=>
   obtain⟨u,nd⟩:=x;have hw:=I.w;rw[YAw]at hw ⊢;have hne:(!(Xm ws ++ [V.ref u]).isEmpty)=true:=by
    cases Xm ws <;> rfl
   rw[hne];refine ZO ⟨_,λ_ _ h=>h,?_⟩;have elast:(Xm ws ++ [V.ref u])[(Xm ws ++ [V.ref u]).length - 1]?=some (.ref u):=by
    rw[YK5];show(_ ++ [V.ref u])[_ + 1 - 1]?=_;rw[Nat.add_sub_cancel,YLl (YKv _),Nat.sub_self];rfl
   refine⟨_,Z,.inl ⟨Z,_,SqL.of hw⟩,wl,_,_,Z,Z,hw,elast,?_⟩;rw[List.dropLast_concat];have S3:=I.S.putW (vs':=Xm ws) h0 n1 n2 hw;have w3:upd H2 wl (.lst (Xm ws)) wl=some (.lst (Xm ws)):=YC;have k3:KpM M H (upd H2 wl (.lst (Xm ws))):=λa o m1 m2 e=>by
    rw[YH (λz=>by rw[z,hwl]at e;cases e)];exact I.kp a o m1 m2 e
   have a3:∀x∈(u,nd) :: ws,YCY (upd H2 wl (.lst (Xm ws))) x:=λx hx=>by
    have:=I.at_ x hx;unfold YCY at this ⊢;rw[YH (λz=>by rw[z,hw]at this;cases this)];exact this
   have p3:YL (upd H2 wl (.lst (Xm ws))):=I.pl.upd rfl;revert S3 w3 k3 a3 p3;generalize upd H2 wl (.lst (Xm ws))=H3;intro S3 w3 k3 a3 p3;have jX:=a3 _ (YLJ ..);have hal:=I.al _ (YLJ ..);have pJ:=I.ln;have hde:=I.de;have hro:=I.ro;have rlen:(YBL row).length=row.length:=by unfold YBL;rw[YKu]
   have wlen:(Xm ws).length=ws.length:=by unfold Xm;rw[YMB,YKu]
   rw[YK6]at pJ;have wG:∀y∈ws,YGh y.2:=I.pt;have kN:∀{H4:Hp},KpM M H3 H4->∀y,YCY H3 y->YCY H4 y:=λ{H4} k y h=>by
    obtain⟨ys,z1,_⟩:=S3.hd;exact k _ _ (λz=>by unfold YCY at h;rw[z,z1]at h;cases h) (λz=>by unfold YCY at h;rw[z,S3.hw]at h;cases h) h
   have fin:∀(ch:List (Addr×Nd)) (sd:List Dd) (rw_:List Nat) (H4:Hp) (WL:Option V),Stp g M.t a b c (vpN O FF) nd (ch.map (·.2)) sd rw_->H4 wl=some (.lst (Xm (ch ++ ws)))->(∀y∈ch,YCY H4 y/\YAf S ps y.2)->(∀y∈ws,YCY H4 y)->(∀y∈ch.tail,YGh y.2)->MSt C.Mending M H0 H4 ((ds ++ sd).map ddD) (YBL (row ++ rw_))->KpM M H H4->YL H4->
     ∃m',m' < μ/\∃ws ds row v3,[some (V.ref M.x),some (V.ref nt),some (V.ref wl),WL]=[some (V.ref M.x),some (V.ref nt),some (V.ref wl),v3]/\m'=Xl (muS (vpN O FF)) (List.map (λx=>x.snd) ws)/\GoI C.Mending M H0 H g a b c S ps O FF wl (Nd.part hd 0 n) ws ds row H4:=λch sd rw_ H4 WL qH w4 hc R1 vo S4 kp pl=>by
    obtain⟨I4,hlt⟩:=I.step h6 qH w4 (λy hy=>by
     rcases YLQ.mp hy with hy |hy
     ·exact(hc y hy).1
     ·exact R1 y hy) (λy hy=>(hc y hy).2) (λy hy=>by
     cases ch with
     |nil=>exact wG y (List.mem_of_mem_tail hy)
     |cons z ch=>
      rcases YLQ.mp hy with hy |hy
      ·exact vo y hy
      ·exact wG y hy) S4 kp pl
    exact⟨_,by rw[hμ];exact hlt,_,_,_,_,Z,Z,I4⟩
   have w0:∀{H4:Hp}{vs:List V},YJ H3 H4->(∀a o,a≠wl->H4 a=some o->upd H4 wl (.lst vs) a=some o)/\KpM M H (upd H4 wl (.lst vs))/\∀y∈ws,YCY (upd H4 wl (.lst vs)) y:=λ{H4 vs} s=>by
    refine⟨λa o m e=>by rw[YH m];exact e,λa o m1 m2 e=>?_,λy hy=>?_⟩
    ·rw[YH (λz=>by rw[z,hwl]at e;cases e)];exact s _ _ (k3 a o m1 m2 e)
    ·have:=a3 y (YLA _ hy);unfold YCY at this ⊢;rw[YH (λz=>by rw[z,w3]at this;cases this)];exact s _ _ this
   dsimp only[Yu];cases nd with
   |part p i j=>
    obtain⟨hps,hij,hjn⟩:=hal;rw[W.en]at hjn;obtain⟨m,rfl⟩:∃m,j=i + m:=⟨j - i,by lia⟩;have jX:H3 u=some (.tup [.str p,.int (i:Int),.int ((i + m:Nat):Int)]):=jX;refine⟨_,Z,u,_,Z,.inr (SqT.of jX),Z,_,Z,?_⟩;refine ZO ⟨_,Z,u,_,0,_,Z,Z,SqT.of jX,Z,Z,p,_,Z,Z,_,Z,?_⟩;cases qQ:isQ p with
    |true=>
     have hq':Txt.startswith p "'"=true:=qQ;rw[hq'];refine ZO ⟨_,Z,M.x,M.dx,_,Z,S3.x,Z,_,Z,M,H0,ds.map ddD,YBL row,o,kvs,xs,g,a,b,c,S,ps,O,FF,fs,u,p,i,m,Z,S3,pre,jX,qQ,hps,hjn,by rw[YKu];lia,p3,λsd H4 hsd S4 k4 p4=>?_⟩;refine fin [] sd [] H4 _ (.sign qQ (W.vpS qQ _ _) hsd) (k4 _ _ n1 n2 w3) (λy hy=>(nomatch hy)) (λy hy=>kN k4 y (a3 y (YLA _ hy))) (λy hy=>(nomatch hy)) ?_ (λa o m1 m2 e=>k4 a o m1 m2 (k3 a o m1 m2 e)) p4;rw[YLE,YLa];exact S4
    |false=>
     have hq':Txt.startswith p "'"=false:=qQ;rw[hq'];obtain⟨v,hv⟩:=YBd (W.po.2.1 p hps) qQ;refine Y3 ⟨_,Z,u,_,Z,.inr (SqT.of jX),Z,_,Z,?_⟩;refine ZO ⟨_,Z,.inl ⟨Z,_,SqL.of w3⟩,_,Z,M.x,M.dx,_,Z,S3.x,Z,_,Z,M,H0,ds.map ddD,YBL row,o,kvs,xs,g,a,b,c,S,ps,O,FF,fs,u,p,i,m,v,Z,S3,pre,jX,hv,hjn,p3,λr ρ tw H4 er erp R3 e s4 p4 rW=>?_⟩;subst erp;have w4:=s4 _ _ w3;refine⟨wl,_,_,Z,Z,w4,by rw[sizeLine_eq,wlen];lia,?_⟩;have x4:=w0 (vs:=Xm ws ++ [V.ref tw]) s4;have ntw:tw≠wl:=λz=>by rw[z,w4]at rW;cases rW
     refine fin [(tw,.beg r ρ.2.1.length i (i + m))] [] [] _ _ (W.stpN hb h6 hB er qQ R3 hjn e) (by rw[YMk,YMo,YAw];exact YC) (λy hy=>?_) x4.2.2 (λy hy=>(nomatch hy)) ?_ x4.2.1 (p4.upd rfl)
     ·rw[YK4.mp hy];exact⟨x4.1 _ _ ntw rW,⟨ρ,by rw[W.eg];exact er,by show ρ.2.1.length<=_;lia⟩,hij,by rw[W.en];exact hjn⟩
     ·rw[YLa,YLa];exact(S3.same s4).putW h0 n1 n2 w4
   |beg r d i j=>
    obtain⟨⟨ρ,er,hdr⟩,hij,hjn⟩:=hal;rw[W.en]at hjn;rw[W.eg]at er;obtain⟨m,rfl⟩:∃m,j=i + m:=⟨j - i,by lia⟩;have jX:H3 u=some (.tup [.int (r:Int),.int (d:Int),.int (i:Int),.int ((i + m:Nat):Int)]):=jX;refine⟨_,Z,u,_,Z,.inr (SqT.of jX),Z,_,Z,?_⟩;refine Y3 (Y3 ⟨_,Z,u,_,Z,.inr (SqT.of jX),Z,_,Z,?_⟩);refine Y3 ⟨_,Z,u,_,1,_,Z,Z,SqT.of jX,Z,Z,_,Z,?_⟩;cases d with
    |zero=>
     rw[YK2 (show V.int ((0:Nat):Int)=V.int 0 from rfl)];refine ZO ⟨_,Z,M.x,C.Mending,M.dx,_,_,Z,S3.x,T.aj,T.cC,Z,.inl ⟨Z,_,SqL.of S3.hw⟩,_,Z,u,_,0,_,Z,Z,SqT.of jX,Z,M.lw,_,_,Z,Z,S3.hw,by rw[sizeLine_eq,YKu,rlen];lia,?_⟩;have S4:=S3.pushR (r:Int);have p4:YL (upd H3 M.lw (.lst ((YBL row).map V.int ++ [.int (r:Int)]))):=p3.upd rfl;have k4:KpM M H3 (upd H3 M.lw (.lst ((YBL row).map V.int ++ [.int (r:Int)]))):=λa o m1 m2 e=>by rw[YH m2];exact e
     revert S4 p4 k4;generalize upd H3 M.lw (.lst ((YBL row).map V.int ++ [.int (r:Int)]))=H4;intro S4 p4 k4;have y_:H4 u=some (.tup [.int (r:Int),.int ((0:Nat):Int),.int (i:Int),.int ((i + m:Nat):Int)]):=kN k4 _ (a3 _ (YLJ ..));refine⟨_,Z,M.x,M.dx,_,Z,S4.x,Z,_,Z,u,_,2,_,Z,Z,SqT.of y_,Z,_,Z,u,_,3,_,Z,Z,SqT.of y_,Z,M,H4,_,_,i,i + m,Z,S4.here,hij,hjn,ht,by rw[YKu];lia,p4,λH5 S5 p5=>?_⟩;have k5:KpM M H3 H5:=λa o m1 m2 e=>S5.sm a o m1 m2 (k4 a o m1 m2 e)
     refine fin [] _ [r] H5 _ (W.stp0 hb er hjn) (k5 _ _ n1 n2 w3) (λy hy=>(nomatch hy)) (λy hy=>kN k5 y (a3 y (YLA _ hy))) (λy hy=>(nomatch hy)) ?_ (λa o m1 m2 e=>k5 a o m1 m2 (k3 a o m1 m2 e)) p5;have:=S4.re S5;rw[ZM]at this;rw[YLE];unfold YBL at this ⊢;rw[YLE];exact this
    |succ d=>
     rw[YK0 (λz=>by have:=V.int.inj z;lia)];obtain⟨p,ep,hok⟩:=Zy (s:=S.s) (ps:=ρ.2.1) (j:=d) (by lia);have zT:H3 u=some (.tup [.int (r:Int),.int ((d:Int) + 1),.int (i:Int),.int ((i + m:Nat):Int)]):=by
      rw[jX];rfl
     refine Y3 ⟨_,Z,.inl ⟨Z,_,SqL.of w3⟩,_,Z,M.x,M.dx,_,Z,S3.x,Z,_,Z,M,H0,ds.map ddD,YBL row,o,kvs,xs,g,a,b,c,S,ps,O,FF,fs,u,r,d,i,m,ρ,p,Z,S3,pre,zT,er,by lia,ep,hjn,p3,λk t1 t2 tw H4 hk e s4 p4 rW w6 mZ=>⟨tw,_,Z,SqT.of rW,λl hl=>?_⟩⟩;have s5:=s4.trans (YJ.upd (o:=.lst [V.ref t2,V.ref t1]) hl);have sl:=YJ.upd (o:=.lst [V.ref t2,V.ref t1]) hl;have p5:YL (upd H4 l (.lst [V.ref t2,V.ref t1])):=p4.upd rfl;have l5:upd H4 l (.lst [V.ref t2,V.ref t1]) l=some (.lst [V.ref t2,V.ref t1]):=YC;have g1:=sl _ _ w6;have g2:=sl _ _ mZ;show YEx _ _ _ _;change YEx _ _ (upd H4 l (.lst [V.ref t2,V.ref t1])) _;revert s5 p5 l5 g1 g2;generalize upd H4 l (.lst [V.ref t2,V.ref t1])=H5;intro s5 p5 l5 g1 g2;have w5:=s5 _ _ w3;refine⟨wl,l,_,_,Z,Z,w5,l5,by rw[sizeLine_eq,wlen];show _ + 2<=_;lia,?_⟩;have m1:t1≠wl:=λz=>by rw[z,w5]at g1;cases g1
     have m2:t2≠wl:=λz=>by rw[z,w5]at g2;cases g2
     have x5:=w0 (vs:=Xm ws ++ [V.ref t2,V.ref t1]) s5;refine fin [(t1,.beg r d i (i + k)),(t2,.part p (i + k) (i + m))] [] [] _ _ (W.stpB hb h6 hB er (by lia) ep hk hjn e) (by rw[YMk,YMk,YMo,YAw,YAw,YLe];exact YC) (λy hy=>?_) x5.2.2 (λy hy=>?_) ?_ x5.2.1 (p5.upd rfl)
     ·rcases YLB.mp hy with rfl |hy
      ·exact⟨x5.1 _ _ m1 g1,⟨ρ,by rw[W.eg];exact er,by show d<=_;lia⟩,by lia,by rw[W.en];lia⟩
      ·rw[YK4.mp hy];exact⟨x5.1 _ _ m2 g2,(W.part (YKw er) (YKw ep)).mpr hok,by lia,by rw[W.en];exact hjn⟩
     ·rw[YK4.mp hy]
      trivial
     ·rw[YLa,YLa];exact(S3.same s5).putW h0 n1 n2 w5
end
inductive YGl (C:Addr) (vs:List V) (H:Hp) (Q:VK):Prop where
 |mk (H0:Hp) (x dx lr ct d:Addr) (t:Str) (aX:vs=[.ref x,.ref lr,.str t,.ref ct,.ref d]) (aY:H x=some (.ins C dx [])) (bU:H0 x=none) (cN:YJ H0 H) (dh:YL H) (i_:∀(M:Mnd) H',M.x=x->M.dx=dx->M.lr=lr->M.t=t->M.ct=ct->M.d=d->H0 M.ld=none->H0 M.lw=none->M.ld≠M.lw->YJ H0 H'->H' M.x=some (.ins C M.dx M.fld)->H' M.ld=some (.lst [])->H' M.lw=some (.lst [])->YL H'->Q .non H'):YGl C vs H Q
def YIV (C:Addr):Sp:=λvs H Q E_=>YGl C vs H Q
def DdAt (H:Hp) (l:Addr) (ds:List Dd):Prop:=∃vs,H l=some (.lst vs)/\Ya H vs (ds.map ddD)
inductive YEg (B:Addr) (TG:Addr) (vs:List V) (H:Hp) (Q:VK) (E:XK):Prop where
 |mk (x:V) (ct:Addr) (r0:Y4) (rest:List Y4) (t:Str) (a b c:Int) (aX:vs=[x,.str t,.ref ct]) (aY:Den H x (YAI (r0 :: rest))) (bU:(YAI (r0 :: rest)).short=true) (cN:Y5 (r0 :: rest)=true) (dh:Jn t=true) (i_:H ct=some (.tup [.int a,.int b,.int c])) (lD:(0<=a/\a<=10 ^ 60)) (n_:(0<=b/\b<=10 ^ 60)) (uE:(0<=c/\c<=10 ^ 60)) (ye:YL H) (wB:(∀T ps O F fs,ZK (r0 :: rest) t a b c T ps O F fs->(t.length + 1) * T.s.length<=60)) (wC:(∀T ps O F fs H',ZK (r0 :: rest) t a b c T ps O F fs->¬r0.1∈ps->YJ H H'->YL H'->E (.ref B) none H')) (zH:(∀T ps O F fs H',ZK (r0 :: rest) t a b c T ps O F fs->r0.1∈ps->1000 < (vpN O F (.part r0.1 0 t.length)).2->YJ H H'->YL H'->E (.ref TG) none H')) (zJ:∀T ps O F fs u ld lw ds row H',ZK (r0 :: rest) t a b c T ps O F fs->r0.1∈ps->MkS (r0 :: rest) t a b c (vpN O F) [.part r0.1 0 t.length] ds row->H' u=some (.tup [.int (vpN O F (.part r0.1 0 t.length)).1,.ref ld,.ref lw])->DdAt H' ld ds->H' lw=some (.lst ((YBL row).map V.int))->ld≠lw->H ld=none->H lw=none->YJ H H'->YL H'->Q (.ref u) H'):YEg B TG vs H Q E
def YDW (B TG:Addr):Sp:=λvs H Q E=>YEg B TG vs H Q E
structure MBs (C:Addr) (H0 H:Hp) (x dx:Addr) (fs:List (Str×V)) (ob:List Addr):Prop where
 sm:YJ H0 H
 x_:H x=some (.ins C dx fs)
 nx:H0 x=none
 hob:∀q∈ob,H q=some (.lst [])/\H0 q=none/\q≠x
 nd:ob.Nodup
 pl:YL H
theorem MBs.new {C:Addr}{H0 H:Hp}{x dx:Addr}{fs:List (Str×V)}{ob:List Addr} (h:MBs C H0 H x dx fs ob) {b:Addr} (hb:H b=none):MBs C H0 (upd H b (.lst [])) x dx fs (b :: ob):=by
 have s:=YJ.upd (o:=.lst []) hb;refine⟨h.sm.trans s,s _ _ h.x_,h.nx,λq hq=>?_,YL1.mpr ⟨λz=>?_,h.nd⟩,h.pl.upd rfl⟩
 ·rcases YLB.mp hq with rfl |hq
  ·exact⟨YC,h.sm.free hb,λz=>by rw[z,h.x_]at hb;cases hb⟩
  ·exact⟨s _ _ (h.hob q hq).1,(h.hob q hq).2⟩
 ·rw[(h.hob b z).1]at hb;cases hb
theorem MBs.fld {C:Addr}{H0 H:Hp}{x dx:Addr}{fs:List (Str×V)}{ob:List Addr} (h:MBs C H0 H x dx fs ob) {fs':List (Str×V)} (f:Str) (v:V) (e:XS f v fs=fs'):MBs C H0 (upd H x (.ins C dx (XS f v fs))) x dx fs' ob:=by
 refine⟨h.sm.put h.nx,by rw[YC,e],h.nx,λq hq=>⟨?_,(h.hob q hq).2⟩,h.nd,h.pl.upd rfl⟩;rw[YH (h.hob q hq).2.2];exact(h.hob q hq).1
section
variable {P:Program}{w:World}{K:W.Frag}{mg:Str->Option Value}{base:Heap}{C:Adr}
theorem YA1:YW ["self","rules","text","costs","known"] ["self","rules","text","costs","known"] (YK JM):=⟨Z,Z,Z,by decide +kernel,Z,by decide +kernel,by decide +kernel⟩
theorem YA2 {f:Addr}{fd:FuncData} (F:Fun K "__init__" "Mending.__init__" JM f fd) (T:Txt K mg C):Yw P w K mg base CX0 1 f fd ["self","rules","text","costs","known"] (YIV C.Mending):=by
 refine F.ok YA1 (λvs H Q E h=>?_) (λaO A outer s H vs Q E hr h=>?_)
 ·cases h;subst_vars;rfl
 ·obtain⟨H0,x,dx,lr,ct,d,t,rfl,hx,hx0,s0,hp,q⟩:=h;have hu:=Zw hr;refine qex ?_;refine⟨_,(YE ⟨(Zt K rfl (pv 0) (pv 1) rfl)⟩
   (YE ⟨(Zt K rfl (pv 0) (pv 2) rfl)⟩
   (YE ⟨(Zt K rfl (pv 0) (pv 3) rfl)⟩
   (YE ⟨(Zt K rfl (pv 0) (pv 4) rfl)⟩
   (YE ⟨(Zt K rfl (pv 0) (ZH YD) rfl)⟩
   (Y7 ⟨(Zt K rfl (pv 0) (ZH YD) rfl)⟩)))))),?_⟩
  have b0:MBs C.Mending H0 H x dx [] []:=⟨s0,hx,hx0,λq hq=>(nomatch hq),List.nodup_nil,hp⟩;refine⟨_,Z,_,Z,x,C.Mending,dx,_,Z,b0.x_,T.aj,T.bV,(show 0 < 1000 by decide),?_⟩;have b1:=b0.fld (fs':=[("rules",.ref lr)]) "rules" (.ref lr) rfl;refine⟨_,Z,_,Z,x,C.Mending,dx,_,Z,b1.x_,T.aj,T.bx,(show 1 < 1000 by decide),?_⟩;have b2:=b1.fld (fs':=[("rules",.ref lr),("text",.str t)]) "text" (.str t) rfl;refine⟨_,Z,_,Z,x,C.Mending,dx,_,Z,b2.x_,T.aj,T.aZ,(show 2 < 1000 by decide),?_⟩;have b3:=b2.fld (fs':=[("rules",.ref lr),("text",.str t),("costs",.ref ct)]) "costs" (.ref ct) rfl;refine⟨_,Z,_,Z,x,C.Mending,dx,_,Z,b3.x_,T.aj,T.aq,(show 3 < 1000 by decide),?_⟩;have b4:=b3.fld (fs':=[("rules",.ref lr),("text",.str t),("costs",.ref ct),("known",.ref d)]) "known" (.ref d) rfl;refine⟨YLS _,λld jY=>?_⟩;have b5:=b4.new jY;refine⟨_,Z,x,C.Mending,dx,_,Z,b5.x_,T.aj,T.aA,(show 4 < 1000 by decide),?_⟩;have b6:=b5.fld (fs':=[("rules",.ref lr),("text",.str t),("costs",.ref ct),("known",.ref d),("deeds",.ref ld)]) "deeds" (.ref ld) rfl;refine⟨YLS _,λlw R4=>?_⟩;have b7:=b6.new R4;refine⟨_,Z,x,C.Mending,dx,_,Z,b7.x_,T.aj,T.cC,(show 5 < 1000 by decide),?_⟩;have b8:=b7.fld (fs':=(Mnd.fld ⟨x,dx,lr,t,ct,d,ld,lw⟩)) "row" (.ref lw) rfl;have h1:=b8.hob lw (YLJ ..);have h2:=b8.hob ld (YLA _ (YLJ ..));have h3:ld≠lw:=λz=>(YL1.mp b8.nd).1 (by rw[z];exact YLJ ..)
  exact q ⟨x,dx,lr,t,ct,d,ld,lw⟩ _ rfl rfl rfl rfl rfl rfl h2.2.1 h1.2.1 h3 b8.sm b8.x_ h2.1 h1.1 b8.pl
theorem X7:YW ["grammar","text","costs","known","rules","top","mending"] ["grammar","text","costs"] (YK YDU):=⟨Z,Z,Z,by decide +kernel,Z,by decide +kernel,by decide +kernel⟩
theorem YJP {f:Addr}{fd:FuncData} (F:Fun K "mended" "mended" YDU f fd) (T:Txt K mg C) (dO:Zx P w K mg (CXo P w) 9 "tolls" ["grammar","text","costs"] (YFJ)) (cu:Zx P w K mg (CXo P w) 7 "checked" ["thing"] (YBx C.NoGrammar)) (bC:UsedI P w K mg CX0 1 C.Mending ["self","rules","text","costs","known"] (YIV C.Mending)) (bM:Js P w K mg CX0 3 C.Mending "go_down" ["self","top"] (YGk C.Mending)):Yw P w K mg base (CXo P w) 10 f fd ["grammar","text","costs"] (YDW C.Barren C.TooGreat):=by
 obtain⟨tY,rH,kh,kj,km,kE⟩:=dO.ok;obtain⟨qy,nO,iU,iV,iW,iY⟩:=cu.ok;obtain⟨nU,mX,gF,gG,gH⟩:=bC.ok;obtain⟨pI,nW,ir,gJ,iu⟩:=bM.ok;obtain⟨rJ,cB⟩:=T.cB;refine F.okX X7 (λvs H Q E h=>?_) (λaO A outer s H vs Q E hr h=>?_)
 ·cases h;subst_vars;rfl
 ·obtain⟨x,ct,r0,rest,t,a,b,c,rfl,den,sh,hg,ht,hct,ha,hb,hc,hp,hB,eB,eT,q⟩:=h;have hu:=Zw hr;have hU:=hr.units;refine qex ?_;refine⟨_,(YE ⟨(YQ (i:=3) X7.nd rfl (Or.inl rfl) (Ye (kh base) (hr.mono (by decide)) (by rfl) kj km kE .nil JE.on (YA (pv 0) (YA (pv 1) (YA (pv 2) YD)))))⟩
   (YE ⟨(YQ (i:=4) X7.nd rfl (Or.inl rfl) (Ye (iU base) (hr.mono (by decide)) (by rfl) iV iW iY .nil JE.on (YA (pv 0) YD)))⟩
   (YE ⟨(YQ (i:=5) X7.nd rfl (Or.inl rfl) (Xo (YED K rfl (pv 4) (λ_=>rfl)) (Yx (YA (YM (YN K rfl) (YM (YX K rfl) (pv 4) YB (λ_ _=>rfl)) YB (λ_ _=>rfl)) (YA YB (YA (YR Yo (by rfl) T.aL YK7 (YA (pv 1) YD)) YD)))) J8))⟩
   (YE ⟨(Y1 (YEn (YAq hu (pv 5) (pv 3))) (YG (YAS JE T.rz rfl (by rfl) T.rm (YA Y0 YD))) Yd)⟩
   (YE ⟨(Y1 (Yb op_gt (YM (YN K rfl) (ZS hu (pv 3) (pv 5) (λ_ _=>rfl)) YB (λ_ _=>rfl)) (XX (v:=.int 1000) (by rfl) cB ⟨_,Z⟩) (Yc _)) (YG (YAS JE T.m_ rfl (by rfl) T.m9 (YA Y0 YD))) Yd)⟩
   (YE ⟨(YQ (i:=6) X7.nd rfl (Or.inl rfl) (YHu gG (gF base) (hr.mono (by decide)) (by rfl) T.pL gH .nil Yj (Zp (pv 4) (Zp (pv 1) (Zp (pv 2) (Zp (pv 3) YD))))))⟩
   (YE ⟨(Y6 (Zh (pv 6) T.aj gJ (ir base) (hr.mono (by decide)) iu .nil Yj (YA (pv 5) YD)))⟩
   (Y7 ⟨(YZ (Yx (YA (YM (YN K rfl) (ZS hu (pv 3) (pv 5) (λ_ _=>rfl)) YB (λ_ _=>rfl)) (YA (YT K rfl (pv 6) rfl) (YA (YT K rfl (pv 6) rfl) YD)))))⟩)))))))),?_⟩
  have R5:isQ r0.1=false:=Xz (YJE (YKT hg (i:=0) rfl));have WM:(r0 :: rest)[0]?=some r0:=rfl;obtain⟨g,eg⟩:∃g,r0 :: rest=g:=⟨_,Z⟩;rw[eg]at den sh hg hB eB eT q WM;have htl:t.length<=60:=by
   unfold Jn at ht;rw[YLC,YLm]at ht;exact ht.1
  refine⟨_,Z,_,Z,_,Z,x,.str t,ct,g,t,a,b,c,Z,den,sh,hg,Z,ht,hct,ha,hb,hc,hp,λd o kvs fs S ps O FF H1 s1 p1 hd fd W=>?_⟩;refine⟨_,Z,x,YAI g,Z,den.same s1,sh,p1,λ_ l xs ds eds hds hl=>?_,λz=>by rw[Xh,hg]at z;cases z⟩;have vg:ds=g.map ZF:=(D.lst.inj eds).symm;subst vg;have s2:=YJ.upd (o:=.lst xs) hl;have p2:YL (upd H1 l (.lst xs)):=p1.upd rfl;have l2:upd H1 l (.lst xs) l=some (.lst xs):=YC;have d2:Ya (del (upd H1 l (.lst xs)) l) xs (g.map ZF):=by
   rw[YAA];exact hds.same (show YJ H1 (del H1 l) fromλa o e=>by rw[Z8 (λy=>by rw[y,hl]at e;cases e)];exact e)
  revert s2 p2 l2 d2;generalize upd H1 l (.lst xs)=H2;intro s2 p2 l2 d2;have R6:=s1.trans s2;have hd2:=s2 _ _ hd;have fd2:FdT H2 kvs fs:=fd.keep λ_ _ e=>s2 _ _ e
  obtain⟨tρ,pp,zc,htρ,_⟩:=YF2 (hds.same s2) WM;have hne:(!xs.isEmpty)=true:=by
   cases xs with
   |nil=>cases zc
   |cons _ _=>rfl
  refine⟨_,Z,_,.inl ⟨_,SqL.of l2,Z⟩,?_⟩;rw[hne];refine ZO ⟨_,Z,l,_,0,_,Z,Z,SqL.of l2,zc,tρ,_,0,_,Z,Z,SqT.of htρ,Z,_,Z,t,Z,YF (by lia),YF (by show 3<=1000;decide),λtp R7=>?_⟩;dsimp only[Yu];have s3:=YJ.upd (o:=.tup [.str r0.1,.int 0,.int (t.length:Int)]) R7;have p3:YL (upd H2 tp (.tup [.str r0.1,.int 0,.int (t.length:Int)])):=p2.upd rfl;have t3:upd H2 tp (.tup [.str r0.1,.int 0,.int (t.length:Int)]) tp=some (.tup ((Zv (.part r0.1 0 t.length)).map kV)):=YC;revert s3 p3 t3;generalize upd H2 tp (.tup [.str r0.1,.int 0,.int (t.length:Int)])=H3;intro s3 p3 t3;have v_:=s3 _ _ hd2;have WN:FdT H3 kvs fs:=fd2.keep λ_ _ e=>s3 _ _ e
  have wg:=R6.trans s3;have isd:IsD H3 d:=.inr ⟨kvs,.inr ⟨o,v_⟩⟩;rcases W.get WN (.part r0.1 0 t.length) with ⟨h1,h2⟩ |⟨u,h1,h2,h3⟩
  ·refine⟨_,Z,_,Z,d,_,Z,.inr ⟨kvs,Zv (.part r0.1 0 t.length),tp,.inr ⟨o,v_⟩,Z,t3,h1.symm⟩,_,Z,?_⟩;refine ZO ?_;exact⟨YF (by show 1<=1000;decide),eB S ps O FF fs H3 W (λz=>h2 ⟨z,YLS _,by rw[W.en];exact YKv _⟩) wg p3⟩
  ·have gt:XT H3 d (.ref tp) (some (.ref u)):=.inr ⟨kvs,Zv (.part r0.1 0 t.length),tp,.inr ⟨o,v_⟩,Z,t3,h1.symm⟩;refine⟨_,Z,_,Z,d,_,Z,gt,_,Z,?_⟩;refine Y3 ?_;dsimp only[JT];refine⟨_,Z,_,Z,d,_,Z,gt,u,_,1,_,Z,Z,SqT.of h3,Z,_,_,Z,Z,_,Z,?_⟩;refine Xf (λhR=>?_) λhR=>?_
   ·exact⟨YF (by show 1<=1000;decide),eT S ps O FF fs H3 W h2.1 (YLM hR) wg p3⟩
   ·have hR:(vpN O FF (.part r0.1 0 t.length)).2<=1000:=by
     exact Int.not_lt.mp (λz=>hR (YK2 z))
    dsimp only[JT];refine⟨_,Z,_,Z,_,Z,_,Z,λxx dx yp QK hne=>?_⟩;have ex:upd (upd H3 dx (.own xx)) xx (.ins C.Mending dx []) xx=some (.ins C.Mending dx []):=YC;have s4:YJ H3 (upd (upd H3 dx (.own xx)) xx (.ins C.Mending dx [])):=(YJ.upd QK).put yp;have p4:YL (upd (upd H3 dx (.own xx)) xx (.ins C.Mending dx [])):=(p3.upd rfl).upd rfl;refine⟨H3,xx,dx,l,ct,d,t,Z,ex,yp,s4,p4,λM H5 ex edx elr et ect ed h5 h6 h7 s5 x5 l5 w5 p5=>⟨Z,?_⟩⟩;dsimp only[Yu];subst ex edx elr et ect ed;have R8:=s5 _ _ (s3 _ _ l2);have nl:∀{y:Addr}{v:HO},H3 y=some v->y≠M.ld/\y≠M.lw:=λe=>⟨(λz=>by rw[z,h5]at e;cases e),(λz=>by rw[z,h6]at e;cases e)⟩
    have R9:M.x≠M.ld/\M.x≠M.lw:=⟨(λz=>by rw[z,l5]at x5;cases x5),(λz=>by rw[z,w5]at x5;cases x5)⟩;have st:MSt C.Mending M H5 H5 [] []:=⟨x5,h7,R9,λ_ _ _ _ e=>e,⟨[],l5,.nil⟩,w5⟩;have pre:MPre M H5 o kvs xs g a b c S ps O FF fs:=⟨s5 _ _ v_,WN.keep λ_ _ e=>s5 _ _ e,W,hb.1,hb.2,hg,hB _ _ _ _ _ W,htl,R8,d2.same ((s3.trans s5).del _),(wg.trans s5) _ _ hct,nl v_,nl (s3 _ _ l2),⟨l5,w5⟩⟩;refine⟨_,Z,M.x,M.dx,_,Z,x5,Z,_,Z,M,H5,o,kvs,xs,g,a,b,c,S,ps,O,FF,fs,tp,r0.1,M.t.length,Z,st,pre,s5 _ _ t3,h2,R5,hR,p5,λds row H6 mk lC k6 p6=>?_⟩;have zf:YJ H3 H6:=λa o e=>k6 a o (nl e).1 (nl e).2 (s5 _ _ e)
    have Wr:=zf _ _ v_;have R_:XT H6 M.d (.ref tp) (some (.ref u)):=.inr ⟨kvs,Zv (.part r0.1 0 M.t.length),tp,.inr ⟨o,Wr⟩,Z,zf _ _ t3,h1.symm⟩;refine⟨_,Z,_,Z,M.d,_,Z,R_,u,_,0,_,Z,Z,SqT.of (zf _ _ h3),Z,_,Z,M.x,C.Mending,M.dx,_,_,Z,lC.x,T.aj,T.aA,Z,_,Z,M.x,C.Mending,M.dx,_,_,Z,lC.x,T.aj,T.cC,Z,YF (by show 3<=1000;decide),λtt dR=>?_⟩;have s7:=YJ.upd (o:=.tup [.int (vpN O FF (.part r0.1 0 M.t.length)).1,.ref M.ld,.ref M.lw]) dR;obtain⟨vs,hv,hdd⟩:=lC.hd;refine q S ps O FF fs tt M.ld M.lw ds row _ W h2.1 mk YC ⟨vs,s7 _ _ hv,(hdd.same (λa o e=>ZI _ _ _ _ (ZI _ _ _ _ e))).same s7⟩ (s7 _ _ lC.hw) h7 (wg.free h5) (wg.free h6) ((wg.trans zf).trans s7) (p6.upd rfl)
end
section
variable {g:Yy}{t:Str}{a b c:Int}{T1 T2:Tol}{ps1 ps2:List Str}{O1 O2:OvF}{F1 F2:FiF}{fs1 fs2:List (Nd×Int)}
theorem MkS.de {vp:Nd->Int×Int}{ns:List Nd}{ds:List Dd}{row:List Nat} (h:MkS g t a b c vp ns ds row) (h6:∀ρ∈g,ρ.2.1.length<=6):ds.length<=Xl (deS vp) ns:=by
 induction h with
 |nil=>exact YLS _
 |@cons n ch ns sd ds rw_ row _ st _ ih=>
  have:=st.de h6;rw[X6]at ih;rw[YCB,YK5]
  lia
end
inductive ChX (O:OvF):List Str->Nat->Nat->Int->Prop
 |nil {i:Nat}:ChX O [] i i 0
 |cons {p:Str}{ws:List Str}{i k j:Nat}{v:Int}:i<=k->ChX O ws k j v->ChX O (p :: ws) i j (O p i k + v)
theorem ChX.le {O:OvF}{ws:List Str}{i j:Nat}{v:Int} (h:ChX O ws i j v):i<=j:=by
 induction h with
 |nil=>exact YKv _
 |cons h _ ih=>lia
theorem ChX.split {O:OvF}:∀{x y:List Str}{i j:Nat}{v:Int},ChX O (x ++ y) i j v->∃m v1 v2,ChX O x i m v1/\ChX O y m j v2/\v=v1 + v2
 |[],y,i,j,v,h=>⟨i,0,v,.nil,h,by lia⟩
 |p :: x,y,i,j,v,h=>by
  rw[YMk]at h;generalize hz:p :: (x ++ y)=zs at h;cases h with
  |nil=>cases hz
  |@cons p' WP _ k _ v' hk h'=>
   cases hz;obtain⟨m,v1,v2,h1,h2,e⟩:=ChX.split h';exact⟨m,_,v2,.cons hk h1,h2,by lia⟩
theorem ChX.one {O:OvF}{p:Str}{i j:Nat}{v:Int} (h:ChX O [p] i j v):v=O p i j:=by
 generalize hz:[p]=zs at h;cases h with
 |nil=>cases hz
 |@cons p' WP _ k _ v' hk h'=>
  cases hz;cases h';exact YMh _
theorem ChX.zero {O:OvF}{i j:Nat}{v:Int} (h:ChX O [] i j v):j=i/\v=0:=by
 cases h;exact⟨Z,Z⟩
theorem YJQ {t:Str}{i j i' j':Nat} (h1:i'<=i) (h2:j<=j') {x:Nat} (h:x∈JB t i j):x∈JB t i' j':=by
 obtain⟨k,k1,k2,k3⟩:=X4.mp h;exact X4.mpr ⟨k,by lia,by lia,k3⟩
theorem YGm {t:Str}{A B C:Int} (hC:0<=C) {p:Str}{i j i' j':Nat} (h1:i'<=i) (h2:i<=j) (h3:j<=j') (h4:j'<=t.length) (h5:j' - i'=j - i + 1):sgT t A B C p i' j'<=sgT t A B C p i j + B:=by
 unfold sgT;rw[if_neg (show ¬j'<=i' by lia)];have e1:((j':Int) - i')=((j:Int) - i) + 1:=by lia
 have e2:((j':Int) - i') * B=((j:Int) - i) * B + B:=by rw[e1,YMC,YMX]
 have e3:((j':Int) - i' - 1) * B=((j:Int) - i) * B:=by congr 1;lia
 have e4:((j:Int) - i - 1) * B=((j:Int) - i) * B - B:=by rw[Int.sub_mul,YMX]
 have hin:X2 (XO p) t i j=true->X2 (XO p) t i' j'=true:=λh=>by
  rw[YAh (by lia) (by lia)]at h ⊢;exact YK2 (YJQ h1 h3 (YLM h))
 by_cases hj:j<=i
 ·have hij:i=j:=by lia
  rw[if_pos hj,e2];have e5:((j:Int) - i) * B=0:=by rw[hij,Int.sub_self,YML]
  rw[e5];split <;> lia
 ·rw[if_neg hj,e2,e3,e4];cases hx:X2 (XO p) t i j with
  |true=>
   rw[hin hx,if_pos rfl];split <;> split <;> lia
  |false=>
   rw[if_neg (show ¬false=true by decide)];cases X2 (XO p) t i' j' with
   |true=>
    rw[if_pos rfl];split <;> split <;> lia
   |false=>
    rw[if_neg (show ¬false=true by decide)];split <;> split <;> lia
inductive Al (t:List Nat) (a b c:Int):Nat->List Nat->Int->Prop
 |nil:Al t a b c t.length [] 0
 |cut {i:Nat}{sg:List Nat}{C:Int}:i < t.length->Al t a b c (i + 1) sg C->Al t a b c i sg (b + C)
 |put {i:Nat}{sg:List Nat}{C:Int} (x:Nat):Al t a b c i sg C->Al t a b c i (x :: sg) (a + C)
 |swp {i:Nat}{sg:List Nat}{C e:Int} (x y:Nat):t[i]?=some y->(x=y/\0<=e\/c<=e\/a + b<=e)->Al t a b c (i + 1) sg C->Al t a b c i (x :: sg) (e + C)
theorem Al.le {t:List Nat}{a b c:Int}{i:Nat}{sg:List Nat}{C:Int} (h:Al t a b c i sg C):i<=t.length:=by
 induction h with
 |nil=>exact YKv _
 |cut h _ _=>lia
 |put _ _ ih=>exact ih
 |swp _ _ _ _ _ ih=>lia
theorem Al.rest {t:List Nat}{a b c:Int}{i:Nat}{sg:List Nat}{C:Int} (h:Al t a b c i sg C):sg=[]->C=((t.length:Int) - i) * b:=by
 induction h with
 |nil=>intro _;rw[Int.sub_self,YML]
 |@cut i sg C hi _ ih=>
  intro e;rw[ih e];have:((t.length:Int) - i)=((t.length:Int) - ((i + 1:Nat):Int)) + 1:=by lia
  rw[this,YMC,YMX]
  lia
 |put _ _ _=>intro e;cases e
 |swp _ _ _ _ _ _=>intro e;cases e
theorem Al.first {t:Str}{a b c:Int} (hc:0<=c) {p:Str}{i:Nat}{WQ sg:List Nat}{C:Int} (h:Al t.cps.toList a b c i WQ C):WQ=sgn p :: sg->∃k C',i<=k/\Al t.cps.toList a b c k sg C'/\sgT t a b c p i k + C'<=C:=by
 have hl:t.cps.toList.length=t.length:=YLK
 induction h with
 |nil=>intro e;cases e
 |@cut i vq C hi _ ih=>
  intro e;obtain⟨k,C',h1,h2,h3⟩:=ih e;have hk:=h2.le;refine⟨k,C',by lia,h2,?_⟩;have:=YGm (t:=t) (A:=a) (B:=b) hc (p:=p) (i:=i + 1) (j:=k) (i':=i) (j':=k) (by lia) h1 (YKv _) (by lia) (by lia)
  lia
 |@put i vq C x h _=>
  intro e;cases e;refine⟨i,C,YKv _,h,?_⟩;unfold sgT;rw[if_pos (YKv _)];exact YLk _
 |@swp i vq C e x y hy he h _=>
  intro e';cases e';have hi:=(YKy.mp hy).1;refine⟨i + 1,C,by lia,h,?_⟩;have e1:(((i + 1:Nat):Int) - i - 1) * b=0:=by rw[show((i + 1:Nat):Int) - i - 1=0 by lia,YML]
  have e2:(((i + 1:Nat):Int) - i) * b=b:=by rw[show((i + 1:Nat):Int) - i=1 by lia,YMX]
  have key:sgT t a b c p i (i + 1)<=e:=by
   unfold sgT;rw[if_neg (by lia),e1,e2];rcases he with ⟨hxy,h0⟩ |h0 |h0
   ·have hin:X2 (XO p) t i (i + 1)=true:=by
     rw[YAh (by lia) (by lia)];exact YK2 (X4.mpr ⟨i,YKv _,by lia,by rw[hy,hxy]⟩)
    rw[hin,if_pos rfl];split <;> lia
   ·split <;> split <;> lia
   ·split <;> split <;> lia
  lia
section
variable {g:Yy}{t:Str}{a b c:Int}{T:Tol}{ps:List Str}{O:OvF}{F:FiF}{fs:List (Nd×Int)}
theorem ZK.ext (W:ZK g t a b c T ps O F fs) (hb:0<=b) (hc:0<=c):∀(N:Nat) {p:Str}{i j:Nat},okP T.s p=true->i<=j->j + 1<=t.length->(O p i j).toNat=N->O p i (j + 1)<=O p i j + T.cut:=by
 intro N
 induction N using Nat.strongRecOn with
 |ind N ih=>
  intro p i j hok hij hj hN;cases hq:isQ p with
  |true=>
   rw[W.iv.sg p i (j + 1) hq,W.iv.sg p i j hq,W.et];exact YGm (by rw[W.es];exact YLo hc (YMK ZZ)) (YKv _) hij (by lia) hj (by lia)
  |false=>
   have X:=W.ok hb;obtain⟨v,hv⟩:=YBd hok hq;obtain⟨m,rfl⟩:∃m,j=i + m:=⟨j - i,by lia⟩;obtain⟨r,ρ,hr,eh,hf,e⟩:=(X.o i m (by lia) p v hv).2;have hpos:=W.iv.pos p i (i + m);have key:∀{d m':Nat},d<=ρ.2.1.length->m'<=m->F r d i m'<=O p i (i + m)->F r d i (m' + 1)<=F r d i m' + T.cut:=by
    intro d
    induction d with
    |zero=>
     intro m' _ wU _;rw[(X.f i m' (by lia) r ρ hr).1,(X.f i (m' + 1) (by lia) r ρ hr).1];have e2:((m' + 1:Nat):Int) * T.cut=m' * T.cut + T.cut:=by push_cast;rw[YMC,YMX]
     lia
    |succ d ihd=>
     intro m' hd wU hV;obtain⟨q,eq_,zU⟩:=Zy (s:=T.s) (ps:=ρ.2.1) (j:=d) (by lia);obtain⟨k,hk,e1⟩:=((X.f i m' (by lia) r ρ hr).2 d q (by lia) eq_).2;have h1:=X.f1 hr (d:=d) (b:=i) (m:=k) (by lia) (by lia);have h2:=X.pos q (i + k) (i + m');have h3:=((X.f i (m' + 1) (by lia) r ρ hr).2 d q (by lia) eq_).1 k (by lia);have h4:=@ih (O q (i + k) (i + m')).toNat (by lia) q (i + k) (i + m') zU (by lia) (by lia) rfl;rw[show i + m' + 1=i + (m' + 1) by lia]at h4
     lia
   have h5:=key (YKv _) (YKv m) (by rw[e];exact YLk _);have h6:=(X.o i (m + 1) (by lia) p v hv).1 r ρ hr eh hf;rw[show i + m + 1=i + (m + 1) by lia]
   lia
theorem ZK.exts (W:ZK g t a b c T ps O F fs) (hb:0<=b) (hc:0<=c) {p:Str}{i j:Nat} (hok:okP T.s p=true) (hij:i<=j):∀(n:Nat),j + n<=t.length->O p i (j + n)<=O p i j + n * T.cut
 |0,_=>by rw[Nat.add_zero,Int.natCast_zero,YML];lia
 |n + 1,h=>by
  have h1:=W.exts hb hc hok hij n (by lia);have h2:=W.ext hb hc _ (p:=p) (i:=i) (j:=j + n) hok (by lia) (by lia) rfl;have e2:((n + 1:Nat):Int) * T.cut=n * T.cut + T.cut:=by push_cast;rw[YMC,YMX]
  rw[show j + (n + 1)=j + n + 1 by lia]
  lia
theorem ZK.rule (W:ZK g t a b c T ps O F fs) (hb:0<=b) {r:Nat}{ρ:Y4} (hr:g[r]?=some ρ) {i:Nat}:∀{d m:Nat}{v:Int},d<=rch T.s ρ.2.1->i + m<=t.length->ChX O (ρ.2.1.take d) i (i + m) v->F r d i m<=1 + v:=by
 have X:=W.ok hb;intro d
 induction d with
 |zero=>
  intro m v _ hm h;obtain⟨h1,h2⟩:=h.zero;have:m=0:=by lia
  subst this;rw[(X.f i 0 hm r ρ hr).1,h2,Int.natCast_zero,YML];decide
 |succ d ih=>
  intro m v hd hm h;obtain⟨p,ep,hok⟩:=Zy (s:=T.s) (ps:=ρ.2.1) (j:=d) (by lia);rw[YLn,ep]at h;obtain⟨k,v1,v2,h1,h2,e⟩:=ChX.split (x:=ρ.2.1.take d) (y:=[p]) h;have hk1:=h1.le;have hk2:=h2.le;obtain⟨k',rfl⟩:∃k',k=i + k':=⟨k - i,by lia⟩;have h3:=ih (m:=k') (by lia) (by lia) h1;have h4:=((X.f i m hm r ρ hr).2 d p (by lia) ep).1 k' (by lia);have h5:=h2.one
  lia
theorem ZK.under (W:ZK g t a b c T ps O F fs) (hb:0<=b) (hc:0<=c) (hg:Y5 g=true) {ws:List Str}{ks sg:List Nat} (h:Z5 g ws ks sg):∀{i:Nat}{C:Int},Al t.cps.toList a b c i sg C->(∀p∈ws,okP T.s p=true)/\∃k v,k<=t.length/\ChX O ws i k v/\v + ((t.length:Int) - k) * T.cut<=C * M60 + ks.length:=by
 have hl:t.cps.toList.length=t.length:=YLK
 induction h with
 |nil=>
  intro i C hA;have hi:=hA.le;have e:=hA.rest rfl;refine⟨λp hp=>(nomatch hp),i,0,by lia,.nil,?_⟩;rw[e,W.ec,hl,Int.mul_assoc];show 0 + _<=_ + ((0:Nat):Int)
  lia
 |@sign p ws ks sg hq _ ih=>
  intro i C hA;obtain⟨k1,C',h1,h2,h3⟩:=hA.first (p:=p) hc rfl
  obtain⟨h4,k,v,h5,h6,h7⟩:=ih h2;have hk:=h6.le;refine⟨λq hq'=>?_,k,_,h5,.cons h1 h6,?_⟩
  ·rcases YLB.mp hq' with rfl |hq'
   ·unfold okP;rw[hq];rfl
   ·exact h4 q hq'
  ·rw[W.iv.sg p i k1 hq,W.et,W.ep,W.ec,W.es,YCh];have h8:(sgT t a b c p i k1 + C') * M60<=C * M60:=YLs h3 (YMK ZZ);rw[YMC]at h8;rw[W.ec]at h7
   lia
 |@name ρ ws r ks sg hq er _ ih=>
  intro i C hA;obtain⟨h4,k,v,h5,h6,h7⟩:=ih hA;obtain⟨m,v1,v2,h8,h9,e⟩:=h6.split;have hm1:=h8.le;have hm2:=h9.le;have hf:rch T.s ρ.2.1=ρ.2.1.length:=X0 λp hp=>h4 p (YLd _ hp)
  have hin:=(W.head hq).mpr ⟨ρ,YKw er,Z,hf⟩;have hok:=W.po.2.1 _ hin;obtain⟨u,hu⟩:=YBd hok hq;obtain⟨m',rfl⟩:∃m',m=i + m':=⟨m - i,by lia⟩;have h10:=W.rule hb er (i:=i) (d:=ρ.2.1.length) (m:=m') (v:=v1) (by lia) (by lia) (by rw[YL9];exact h8);have h11:=((W.ok hb).o i m' (by lia) ρ.1 u hu).1 r ρ er rfl hf;refine⟨λq hq'=>?_,k,_,h5,.cons hm1 h9,?_⟩
  ·rcases YLB.mp hq' with rfl |hq'
   ·exact hok
   ·exact h4 q (YLH _ hq')
  ·rw[YK6]
   push_cast
   lia
theorem ZK.least_row (W:ZK g t a b c T ps O F fs) (hb:0<=b) (hc:0<=c) (hg:Y5 g=true) {z:Str}{ks sg:List Nat}{C:Int} (h:Z5 g [z] ks sg) (hA:Al t.cps.toList a b c 0 sg C):O z 0 t.length<=C * M60 + ks.length:=by
 obtain⟨h4,k,v,h5,h6,h7⟩:=W.under hb hc hg h hA;have h1:=h6.one;have h2:=W.exts hb hc (i:=0) (j:=k) (h4 z (YK4.mpr rfl)) (YLS _) (t.length - k) (by lia);rw[show k + (t.length - k)=t.length by lia]at h2;have e:(((t.length - k:Nat):Int))=(t.length:Int) - k:=by lia
 rw[e]at h2
 lia
theorem pr_mulL {x L:Int} (h0:0<=L) (h1:L < M60):pr (x * M60 + L)=(x,L):=by
 have e:pr L=(0,L):=by
  unfold pr;rw[Int.ediv_eq_zero_of_lt h0 h1,Int.emod_eq_of_lt h0 h1]
 have h:=YHf (x:=x * M60) (y:=L) (by rw[Int.mul_emod_left,Int.emod_eq_of_lt h0 h1];lia);rw[<-h,YFK,e,YMh,YLr]
theorem ZK.least_pair (W:ZK g t a b c T ps O F fs) (hb:0<=b) (hc:0<=c) (hg:Y5 g=true) {z:Str}{ks sg:List Nat}{C:Int} (h:Z5 g [z] ks sg) (hA:Al t.cps.toList a b c 0 sg C) (hk:ks.length<=1000):ltP (C,(ks.length:Int)) (vpN O F (.part z 0 t.length))=false:=by
 have h1:=W.least_row hb hc hg h hA;have e:pr (C * M60 + ks.length)=(C,(ks.length:Int)):=pr_mulL (YMH _) (Int.lt_of_le_of_lt (show(ks.length:Int)<=1000 by lia) (by decide +kernel));rw[<-e];show ltP _ (pr (O z 0 t.length))=false;rw[ltP_pr];exact YK0 (by lia)
end
theorem sgD_ex {t:Str}{a b c:Int}{p:Str}{i j:Nat} (h1:i<=j) (h2:j<=t.length):∃sd,SgD t a b c p i j sd:=by
 have hl:t.cps.toList.length=t.length:=YLK
 by_cases hij:j<=i
 ·refine⟨_,YBh h1 h2 ?_⟩;have e:i=j:=by lia
  unfold sgT;rw[if_pos hij,e,Int.sub_self,YML,YLr]
 ·by_cases hlt:((j:Int) - i - 1) * b + (if X2 (XO p) t i j=true then 0 else c) < ((j:Int) - i) * b + a
  ·have eT:sgT t a b c p i j=((j:Int) - i - 1) * b + (if X2 (XO p) t i j=true then 0 else c):=by
    unfold sgT;rw[if_neg hij,if_pos hlt]
   by_cases hin:X2 (XO p) t i j=true
   ·rw[if_pos hin]at eT;rw[YAh h1 h2]at hin;obtain⟨k,k1,k2,k3⟩:=X4.mp (YLM hin);exact⟨_,YCl k1 k2 h2 k3 (.keep (sgn p)) rfl rfl trivial eT⟩
   ·rw[if_neg hin]at eT;obtain⟨x0,hx0⟩:∃x0,t.cps.toList[i]?=some x0:=⟨_,YKx (by lia)⟩;refine⟨_,YCl (YKv _) (by lia) h2 hx0 (.swap x0 (sgn p)) rfl rfl (λz=>hin ?_) eT⟩;rw[YAh h1 h2];exact YK2 (X4.mpr ⟨i,YKv _,by lia,by rw[hx0,z]⟩)
  ·refine⟨_,YBh h1 h2 ?_⟩;unfold sgT;rw[if_neg hij,if_neg hlt]
section
variable {g:Yy}{t:Str}{a b c:Int}{T:Tol}{ps:List Str}{O:OvF}{F:FiF}{fs:List (Nd×Int)}
theorem ZK.mks (W:ZK g t a b c T ps O F fs) (hb:0<=b) (hg:Y5 g=true) (hB:(t.length + 1) * T.s.length<=60):∀(N:Nat) (ns:List Nd),Xl (muS (vpN O F)) ns=N->(∀n∈ns,YAf T ps n)->(∀n∈ns.tail,YGh n)->∃ds row,MkS g t a b c (vpN O F) ns ds row:=by
 have h6:∀ρ∈g,ρ.2.1.length<=6:=λρ hρ=>(JL hg hρ).2.1
 intro N
 induction N using Nat.strongRecOn with
 |ind N ih=>
  intro ns hN hal vo;cases ns with
  |nil=>exact⟨[],[],.nil⟩
  |cons n ns=>
   have step:∀{ch:List Nd}{sd:List Dd}{rw_:List Nat},Stp g t a b c (vpN O F) n ch sd rw_->(∀x∈ch,YAf T ps x)->(∀x∈ch.tail,YGh x)->∃ds row,MkS g t a b c (vpN O F) (n :: ns) ds row:=λ{ch sd rw_} st hc hp=>by
    have h1:=st.mu h6;rw[YCB]at hN;obtain⟨ds,row,h⟩:=ih (Xl (muS (vpN O F)) (ch ++ ns)) (by rw[X6];lia) (ch ++ ns) rfl (λx hx=>by
     rcases YLQ.mp hx with hx |hx
     ·exact hc x hx
     ·exact hal x (YLA _ hx)) (λx hx=>by
     cases ch with
     |nil=>exact vo x (List.mem_of_mem_tail hx)
     |cons y ch=>
      rcases YLQ.mp hx with hx |hx
      ·exact hp x hx
      ·exact vo x hx)
    exact⟨_,_,.cons vo st h⟩
   have hn:=hal n (YLJ ..);cases n with
   |part p i j=>
    obtain⟨h1,h2,h3⟩:=hn;rw[W.en]at h3;cases hq:isQ p with
    |true=>
     obtain⟨sd,hsd⟩:=sgD_ex (t:=t) (a:=a) (b:=b) (c:=c) (p:=p) h2 h3;exact step (.sign hq (W.vpS hq _ _) hsd) (λx hx=>(nomatch hx)) (λx hx=>(nomatch hx))
    |false=>
     obtain⟨v,hv⟩:=YBd (W.po.2.1 p h1) hq;obtain⟨m,rfl⟩:∃m,j=i + m:=⟨j - i,by lia⟩;obtain⟨r,ρ,hr,eh,hf,e⟩:=((W.ok hb).o i m h3 p v hv).2;subst eh;refine step (W.stpN hb h6 hB hr hq hf h3 e) (λx hx=>?_) (λx hx=>(nomatch hx));rw[YK4.mp hx];exact⟨⟨ρ,by rw[W.eg];exact hr,by show ρ.2.1.length<=_;lia⟩,by lia,by rw[W.en];exact h3⟩
   |beg r d i j=>
    obtain⟨⟨ρ,hr,hd⟩,h2,h3⟩:=hn;rw[W.en]at h3;rw[W.eg]at hr;obtain⟨m,rfl⟩:∃m,j=i + m:=⟨j - i,by lia⟩;cases d with
    |zero=>exact step (W.stp0 hb hr h3) (λx hx=>(nomatch hx)) (λx hx=>(nomatch hx))
    |succ d=>
     obtain⟨p,ep,hok⟩:=Zy (s:=T.s) (ps:=ρ.2.1) (j:=d) (by lia);obtain⟨_,k,hk,e⟩:=((W.ok hb).f i m h3 r ρ hr).2 d p (by lia) ep;refine step (W.stpB hb h6 hB hr (by lia) ep hk h3 e) (λx hx=>?_) (λx hx=>?_)
     ·rcases YLB.mp hx with rfl |hx
      ·exact⟨⟨ρ,by rw[W.eg];exact hr,by show d<=_;lia⟩,by lia,by rw[W.en];lia⟩
      ·rw[YK4.mp hx];exact⟨(W.part (YKw hr) (YKw ep)).mpr hok,by lia,by rw[W.en];exact h3⟩
     ·rw[YK4.mp hx]
      trivial
end
def cw (x:Nat) (l:List Nat):Nat:=(l.filter λy=>decide (¬y=x)).length
theorem YKm (x:Nat) (l:List Nat):cw x l<=l.length:=List.length_filter_le _ _
theorem Zr (x y:Nat) (l:List Nat):cw x (y :: l)=(if y=x then 0 else 1) + cw x l:=by
 unfold cw;rw[YL4]
 by_cases h:y=x
 ·rw[if_neg (by rw[YK0 (λz=>z h)];decide),if_pos h,Nat.zero_add]
 ·rw[if_pos (YK2 h),if_neg h,YK6]
  lia
theorem YEh {a b c:Int}{x:Nat}:∀{ds:List Dd},(∀d∈ds,ddOk d)->(∀y∈mkL ds,y=x)->∃K Cr Cw Sw Pu:Nat,coL a b c ds=(Cr:Int) * b + (Cw:Int) * b + (Sw:Int) * c + (Pu:Int) * a/\(mkL ds).length=K + Sw + Pu/\(tkL ds).length=K + Cr + Cw + Sw/\cw x (tkL ds)=Cw + Sw
 |[],_,_=>⟨0,0,0,0,0,by simp[coL],Z,Z,Z⟩
 |d :: ds,hok,hm=>by
  have em:mkL (d :: ds)=ddM d ++ mkL ds:=YMc ..;have et:tkL (d :: ds)=ddT d ++ tkL ds:=YMc ..;have ec:coL a b c (d :: ds)=ddC a b c d + coL a b c ds:=by unfold coL;rw[YLR,YMi]
  rw[em]at hm;obtain⟨K,Cr,Cw,Sw,Pu,h1,h2,h3,h4⟩:=YEh (a:=a) (b:=b) (c:=c) (x:=x) (ds:=ds) (λd' h=>hok d' (YLA _ h)) λy hy=>hm y (YLH _ hy)
  rw[em,et,ec,h1];have ug:∀(n:Nat) (z:Int),((n + 1:Nat):Int) * z=z + (n:Int) * z:=λn z=>by push_cast;rw[YMC,YMX];lia
  cases d with
  |keep y=>
   have hy:y=x:=hm y (YLd _ (YK4.mpr rfl));refine⟨K + 1,Cr,Cw,Sw,Pu,?_,?_,?_,?_⟩
   ·show 0 + _=_
    lia
   ·show(y :: mkL ds).length=_;rw[YK6]
    lia
   ·show(y :: tkL ds).length=_;rw[YK6]
    lia
   ·show cw x (y :: tkL ds)=_;rw[Zr,if_pos hy]
    lia
  |cut y=>
   by_cases hy:y=x
   ·refine⟨K,Cr + 1,Cw,Sw,Pu,?_,?_,?_,?_⟩
    ·show b + _=_;rw[ug]
     lia
    ·exact h2
    ·show(y :: tkL ds).length=_;rw[YK6]
     lia
    ·show cw x (y :: tkL ds)=_;rw[Zr,if_pos hy]
     lia
   ·refine⟨K,Cr,Cw + 1,Sw,Pu,?_,?_,?_,?_⟩
    ·show b + _=_;rw[ug]
     lia
    ·exact h2
    ·show(y :: tkL ds).length=_;rw[YK6]
     lia
    ·show cw x (y :: tkL ds)=_;rw[Zr,if_neg hy]
     lia
  |swap y y'=>
   have hy':y'=x:=hm y' (YLd _ (YK4.mpr rfl));have hy:¬y=x:=λz=>(hok _ (YLJ ..):y≠y') (by rw[z,hy'])
   refine⟨K,Cr,Cw,Sw + 1,Pu,?_,?_,?_,?_⟩
   ·show c + _=_;rw[ug]
    lia
   ·show(y' :: mkL ds).length=_;rw[YK6]
    lia
   ·show(y :: tkL ds).length=_;rw[YK6]
    lia
   ·show cw x (y :: tkL ds)=_;rw[Zr,if_neg hy]
    lia
  |put y=>
   refine⟨K,Cr,Cw,Sw,Pu + 1,?_,?_,?_,?_⟩
   ·show a + _=_;rw[ug]
    lia
   ·show(y :: mkL ds).length=_;rw[YK6]
    lia
   ·exact h3
   ·exact h4
def Y9 (a b c:Int) (x:Nat) (l:List Nat):Int×Nat:=if b=0 then (0,1) else if b<=c then ((cw x l:Int) * b,l.length - cw x l) else ((cw x l:Int) * c,l.length)
theorem due_low {a b c:Int} (ha:0<=a) (hb:0<=b) (hc:0<=c) {x:Nat}{ds:List Dd} (hok:∀d∈ds,ddOk d) (hm:∀y∈mkL ds,y=x) (h1:1<=(mkL ds).length):(Y9 a b c x (tkL ds)).1 < coL a b c ds\/((Y9 a b c x (tkL ds)).1<=coL a b c ds/\(Y9 a b c x (tkL ds)).2<=(mkL ds).length):=by
 obtain⟨K,Cr,Cw,Sw,Pu,e1,e2,e3,e4⟩:=YEh (a:=a) (b:=b) (c:=c) hok hm;have n1:0<=(Cr:Int) * b:=YLo (YMH _) hb;have n2:0<=(Cw:Int) * b:=YLo (YMH _) hb;have n3:0<=(Sw:Int) * c:=YLo (YMH _) hc;have n4:0<=(Pu:Int) * a:=YLo (YMH _) ha;unfold Y9
 by_cases mY:b=0
 ·rw[if_pos mY];exact .inr ⟨by rw[e1];lia,h1⟩
 rw[if_neg mY]
 by_cases rY:b<=c
 ·rw[if_pos rY];dsimp only;have m1:(Sw:Int) * b<=(Sw:Int) * c:=YLv rY (YMH _);have m2:((cw x (tkL ds):Nat):Int) * b=(Cw:Int) * b + (Sw:Int) * b:=by rw[e4];push_cast;rw[YMC]
  rw[m2]
  by_cases hCr:Cr=0
  ·refine .inr ⟨by lia,by lia⟩
  ·have m3:(1:Int) * b<=(Cr:Int) * b:=YLs (by lia) hb;exact .inl (by lia)
 ·rw[if_neg rY];dsimp only;have m2:((cw x (tkL ds):Nat):Int) * c=(Cw:Int) * c + (Sw:Int) * c:=by rw[e4];push_cast;rw[YMC]
  have m1:(Cw:Int) * c<=(Cw:Int) * b:=YLv (by lia) (YMH _);rw[m2]
  by_cases hCr:Cr + Cw=0
  ·refine .inr ⟨by lia,by lia⟩
  ·by_cases hC2:Cr=0
   ·have m3:(Cw:Int) * (c + 1)<=(Cw:Int) * b:=YLv (by lia) (YMH _);rw[Int.mul_add,Int.mul_one]at m3;exact .inl (by lia)
   ·have m3:(1:Int) * b<=(Cr:Int) * b:=YLs (by lia) hb;exact .inl (by lia)
theorem YIW {a b c:Int} (x:Nat) (t:List Nat):∀(l:List Nat) (i:Nat),t.drop i=l->i + l.length=t.length->Al t a b c i (List.replicate (l.length - cw x l) x) ((cw x l:Int) * b)
 |[],i,_,hi=>by
  have e:i=t.length:=by simpa using hi
  subst e;have:((cw x []:Nat):Int) * b=0:=YML _;rw[this];exact .nil
 |y :: l,i,hd,hi=>by
  rw[YK6]at hi;have hlt:i < t.length:=by lia
  rw[YLy hlt]at hd
  injection hd with h1 h2
  have ih:=YIW (a:=a) (b:=b) (c:=c) x t l (i + 1) h2 (by lia);have hle:=YKm x l;rw[Zr]
  by_cases hy:y=x
  ·rw[if_pos hy,Nat.zero_add,YK6,show l.length + 1 - cw x l=(l.length - cw x l) + 1 by lia,YLF];have:=Al.swp (a:=a) (b:=b) (c:=c) (e:=0) x y (by rw[YKx hlt,h1]) (.inl ⟨hy.symm,YLk _⟩) ih;rw[YLr]at this;exact this
  ·rw[if_neg hy,YK6,show l.length + 1 - (1 + cw x l)=l.length - cw x l by lia];have e:((1 + cw x l:Nat):Int) * b=b + (cw x l:Int) * b:=by push_cast;rw[YMC,YMX]
   rw[e];exact .cut hlt ih
theorem YIX {a b c:Int} (x:Nat) (t:List Nat):∀(l:List Nat) (i:Nat),t.drop i=l->i + l.length=t.length->Al t a b c i (List.replicate l.length x) ((cw x l:Int) * c)
 |[],i,_,hi=>by
  have e:i=t.length:=by simpa using hi
  subst e;have:((cw x []:Nat):Int) * c=0:=YML _;rw[this];exact .nil
 |y :: l,i,hd,hi=>by
  rw[YK6]at hi;have hlt:i < t.length:=by lia
  rw[YLy hlt]at hd
  injection hd with h1 h2
  have ih:=YIX (a:=a) (b:=b) (c:=c) x t l (i + 1) h2 (by lia);rw[Zr,YK6,YLF]
  by_cases hy:y=x
  ·rw[if_pos hy,Nat.zero_add];have:=Al.swp (a:=a) (b:=b) (c:=c) (e:=0) x y (by rw[YKx hlt,h1]) (.inl ⟨hy.symm,YLk _⟩) ih;rw[YLr]at this;exact this
  ·rw[if_neg hy];have e:((1 + cw x l:Nat):Int) * c=c + (cw x l:Int) * c:=by push_cast;rw[YMC,YMX]
   rw[e];exact .swp x y (by rw[YKx hlt,h1]) (.inr (.inl (YLk _))) ih
theorem YIY {a c:Int} (t:List Nat):∀(n i:Nat),i + n=t.length->Al t a 0 c i [] 0
 |0,i,h=>by
  have e:i=t.length:=by lia
  rw[e];exact .nil
 |n + 1,i,h=>by
  have:=Al.cut (a:=a) (b:=0) (c:=c) (t:=t) (i:=i) (by lia) (YIY t n (i + 1) (by lia));rw[YLr]at this;exact this
theorem YKn {a c:Int} (x:Nat) (t:List Nat):∀(l:List Nat) (i:Nat),t.drop i=l->i + l.length=t.length->x∈l->Al t a 0 c i [x] 0
 |[],i,_,_,hx=>nomatch hx
 |y :: l,i,hd,hi,hx=>by
  rw[YK6]at hi;have hlt:i < t.length:=by lia
  rw[YLy hlt]at hd
  injection hd with h1 h2
  by_cases hy:y=x
  ·have:=Al.swp (a:=a) (b:=0) (c:=c) (e:=0) x y (by rw[YKx hlt,h1]) (.inl ⟨hy.symm,YLk _⟩) (YIY t l.length (i + 1) (by lia));rw[YLr]at this;exact this
  ·have hx':x∈l:=by
    rcases YLB.mp hx with h |h
    ·exact absurd h.symm hy
    ·exact h
   have:=Al.cut (a:=a) (b:=0) (c:=c) hlt (YKn x t l (i + 1) h2 (by lia) hx');rw[YLr]at this;exact this
theorem due_al {a b c:Int}{x:Nat}{t:List Nat} (hx:x∈t):Al t a b c 0 (List.replicate (Y9 a b c x t).2 x) (Y9 a b c x t).1:=by
 unfold Y9
 by_cases mY:b=0
 ·subst mY;rw[if_pos rfl];exact YKn x t t 0 rfl (by lia) hx
 rw[if_neg mY]
 by_cases rY:b<=c
 ·rw[if_pos rY];exact YIW x t t 0 rfl (by lia)
 ·rw[if_neg rY];exact YIX x t t 0 rfl (by lia)
theorem rs_nil {g:Yy}{ks sg:List Nat} (h:Z5 g [] ks sg):ks=[]/\sg=[]:=by
 cases h;exact⟨Z,Z⟩
theorem YIZ {g:Yy}{p:Str}{ws:List Str}{ks sg:List Nat} (hq:isQ p=true) (h:Z5 g (p :: ws) ks sg):∃vq,sg=sgn p :: vq/\Z5 g ws ks vq:=by
 generalize hz:p :: ws=zs at h;cases h with
 |nil=>cases hz
 |sign hq' h=>cases hz;exact⟨_,Z,h⟩
 |name hq' er h=>cases hz;rw[hq]at hq';cases hq'
theorem YFL {g:Yy}{p:Str}{ws:List Str}{ks sg:List Nat} (hq:isQ p=false) (h:Z5 g (p :: ws) ks sg):∃k ks' r,ks=k :: ks'/\g[k]?=some r/\r.1=p/\Z5 g (r.2.1 ++ ws) ks' sg:=by
 generalize hz:p :: ws=zs at h;cases h with
 |nil=>cases hz
 |sign hq' h=>cases hz;rw[hq]at hq';cases hq'
 |@name r WP k ks' sg hq' er h=>cases hz;exact⟨k,ks',r,Z,er,Z,h⟩
theorem YDX {g:Yy}{p:Str} (hq:isQ p=true):∀{j:Nat}{ks sg:List Nat},Z5 g (List.replicate j p) ks sg->ks=[]/\sg=List.replicate j (sgn p)
 |0,_,_,h=>rs_nil h
 |j + 1,_,_,h=>by
  rw[YLF]at h;obtain⟨vq,e,h'⟩:=YIZ hq h;obtain⟨e1,e2⟩:=YDX hq h';exact⟨e1,by rw[e,e2,YLF]⟩
theorem rs_mk {g:Yy}{p:Str} (hq:isQ p=true):∀j:Nat,Z5 g (List.replicate j p) [] (List.replicate j (sgn p))
 |0=>.nil
 |j + 1=>by
  rw[YLF,YLF];exact .sign hq (rs_mk hq j)
structure G77 (g:Yy) (N p:Str) (im io i2:Nat) (two:Bool):Prop where
 qN:isQ N=false
 qp:isQ p=true
 hm:∃ρ,g[im]?=some ρ/\ρ.1=N/\(ρ.2.1=[p,N]\/ρ.2.1=[N,p])
 ho:∃ρ,g[io]?=some ρ/\ρ.1=N/\ρ.2.1=[p]
 h2:two=true->∃ρ,g[i2]?=some ρ/\ρ.1=N/\ρ.2.1=[p,p]
 all:∀k ρ,g[k]?=some ρ->ρ.1=N->k=im\/k=io\/(two=true/\k=i2)
section
variable {g:Yy}{N p:Str}{im io i2:Nat}{two:Bool}
theorem G77.rows (G:G77 g N p im io i2 two):∀(L:Nat) {ks sg:List Nat}{j:Nat},ks.length=L->Z5 g (N :: List.replicate j p) ks sg->(∃m,ks=List.replicate m im ++ [io]/\sg=List.replicate (m + 1 + j) (sgn p))\/(two=true/\∃m,ks=List.replicate m im ++ [i2]/\sg=List.replicate (m + 2 + j) (sgn p)):=by
 intro L
 induction L with
 |zero=>
  intro ks sg j hL h;obtain⟨k,ks',r,e,_⟩:=YFL G.qN h;rw[e]at hL;cases hL
 |succ L ih=>
  intro ks sg j hL h;obtain⟨k,ks',r,e,er,en,h'⟩:=YFL G.qN h;subst e;rw[YK6]at hL;have hL:ks'.length=L:=by lia
  rcases G.all k r er en with rfl |rfl |⟨ht,rfl⟩
  ·obtain⟨ρ,qI,_,hp⟩:=G.hm;rw[er]at qI;cases qI;rcases hp with hp |hp
   ·rw[hp]at h';obtain⟨vq,e1,h2⟩:=YIZ G.qp h';rcases ih hL h2 with ⟨m,a1,a2⟩ |⟨ht,m,a1,a2⟩
    ·exact .inl ⟨m + 1,by rw[a1,YLF];rfl,by rw[e1,a2,show m + 1 + 1 + j=(m + 1 + j) + 1 by lia,YLF]⟩
    ·exact .inr ⟨ht,m + 1,by rw[a1,YLF];rfl,by rw[e1,a2,show m + 1 + 2 + j=(m + 2 + j) + 1 by lia,YLF]⟩
   ·rw[hp]at h';have h':Z5 g (N :: List.replicate (j + 1) p) ks' sg:=by rw[YLF];exact h'
    rcases ih hL h' with ⟨m,a1,a2⟩ |⟨ht,m,a1,a2⟩
    ·exact .inl ⟨m + 1,by rw[a1,YLF];rfl,by rw[a2];congr 1;lia⟩
    ·exact .inr ⟨ht,m + 1,by rw[a1,YLF];rfl,by rw[a2];congr 1;lia⟩
  ·obtain⟨ρ,qI,_,hp⟩:=G.ho;rw[er]at qI;cases qI;rw[hp]at h';have h':Z5 g (List.replicate (j + 1) p) ks' sg:=by rw[YLF];exact h'
   obtain⟨e1,e2⟩:=YDX G.qp h';exact .inl ⟨0,by rw[e1];rfl,by rw[e2];congr 1;lia⟩
  ·obtain⟨ρ,qI,_,hp⟩:=G.h2 ht;rw[er]at qI;cases qI;rw[hp]at h';have h':Z5 g (List.replicate (j + 2) p) ks' sg:=by rw[YLF,YLF];exact h'
   obtain⟨e1,e2⟩:=YDX G.qp h';exact .inr ⟨ht,0,by rw[e1];rfl,by rw[e2];congr 1;lia⟩
theorem G77.make (G:G77 g N p im io i2 two) {e:Nat}{r:Y4}{q:Nat} (er:g[e]?=some r) (en:r.1=N) (ep:r.2.1=List.replicate q p):∀(m j:Nat),Z5 g (N :: List.replicate j p) (List.replicate m im ++ [e]) (List.replicate (m + q + j) (sgn p))
 |0,j=>by
  rw[<-en];refine .name (by rw[en];exact G.qN) er ?_;rw[ep,List.replicate_append_replicate,Nat.zero_add];exact rs_mk G.qp _
 |m + 1,j=>by
  obtain⟨ρ,qI,WR,hp⟩:=G.hm;rw[YLF,YMk];have key:Z5 g (ρ.2.1 ++ List.replicate j p) (List.replicate m im ++ [e]) (List.replicate (m + 1 + q + j) (sgn p)):=by
   rcases hp with hp |hp
   ·rw[hp,show m + 1 + q + j=(m + q + j) + 1 by lia,YLF];exact .sign G.qp (G.make er en ep m j)
   ·rw[hp];have:=G.make er en ep m (j + 1);rw[YLF,show m + q + (j + 1)=m + 1 + q + j by lia]at this;exact this
  have:=Z5.name (r:=ρ) (by rw[WR];exact G.qN) qI key;rw[WR]at this;exact this
variable {t:Str}{a b c:Int}{T:Tol}{ps:List Str}{O:OvF}{F:FiF}{fs:List (Nd×Int)}
def tw (two:Bool):Nat:=if two=true then 1 else 0
theorem G77.due (G:G77 g N p im io i2 two) {k:Nat} (h1:1<=k) (h2:two=true->2<=k):∃e,Z5 g [N] (List.replicate (k - tw two - 1) im ++ [e]) (List.replicate k (sgn p)):=by
 cases ht:two with
 |true=>
  have:=h2 ht;obtain⟨ρ,er,en,ep⟩:=G.h2 ht;have:=G.make er en (q:=2) ep (k - 2) 0;refine⟨i2,?_⟩;rw[show k - tw true - 1=k - 2 by show k - 1 - 1=_;lia];rw[show k - 2 + 2 + 0=k by lia]at this;exact this
 |false=>
  obtain⟨ρ,er,en,ep⟩:=G.ho;have:=G.make er en (q:=1) ep (k - 1) 0;refine⟨io,?_⟩;rw[show k - tw false - 1=k - 1 from rfl];rw[show k - 1 + 1 + 0=k by lia]at this;exact this
theorem ZK.exact77 (W:ZK g t a b c T ps O F fs) (ha:0<=a) (hb:0<=b) (hc:0<=c) (hg:Y5 g=true) (G:G77 g N p im io i2 two) {z:Str}{pre:List Nat} (hz:∀ks sg,Z5 g [z] ks sg<->∃ks',ks=pre ++ ks'/\Z5 g [N] ks' sg) (hx:sgn p∈t.cps.toList) (hpl:pre.length<=1) (ht:t.length<=60)
  (hk1:1<=(Y9 a b c (sgn p) t.cps.toList).2) (hk2:two=true->2<=(Y9 a b c (sgn p) t.cps.toList).2) (hk3:(Y9 a b c (sgn p) t.cps.toList).2<=60) {ds:List Dd}{row:List Nat} (mk:MkS g t a b c (vpN O F) [.part z 0 t.length] ds row):
  vpN O F (.part z 0 t.length)=((Y9 a b c (sgn p) t.cps.toList).1,(((Y9 a b c (sgn p) t.cps.toList).2 - tw two + pre.length:Nat):Int))/\
   mkL ds=List.replicate (Y9 a b c (sgn p) t.cps.toList).2 (sgn p)/\row=pre ++ (List.replicate ((Y9 a b c (sgn p) t.cps.toList).2 - tw two - 1) im ++ [if two=true then i2 else io]):=by
 obtain⟨h1,h2,h3,h4,h5⟩:=mk.sem;have e1:YCX (λn=>(vpN O F n).1) [.part z 0 t.length]=(vpN O F (.part z 0 t.length)).1:=YMh _;have e2:YCX (λn=>(vpN O F n).2) [.part z 0 t.length]=(vpN O F (.part z 0 t.length)).2:=YMh _;rw[e1]at h1;rw[e2]at h2;have e4:tkL ds=t.cps.toList:=by
  rw[h4];show JB t 0 t.length ++ []=_;rw[YLa];unfold JB;rw[List.drop_zero,Nat.sub_zero];exact YL8 (by rw[YLK];exact YKv _)
 have h5:Z5 g [z] row (mkL ds):=h5;obtain⟨ks',er,hr⟩:=(hz _ _).mp h5;have rK:=G.rows _ (j:=0) rfl hr;obtain⟨k,hk⟩:∃k,(mkL ds).length=k:=⟨_,Z⟩;have hall:∀y∈mkL ds,y=sgn p:=λy hy=>by
  rcases rK with ⟨m,_,a2⟩ |⟨_,m,_,a2⟩ <;> (rw[a2]at hy;exact List.eq_of_mem_replicate hy)
 have hk0:1<=(mkL ds).length:=by
  rcases rK with ⟨m,_,a2⟩ |⟨_,m,_,a2⟩ <;> (rw[a2,YLV];lia)
 have low:=due_low ha hb hc h3 hall hk0;rw[e4,h1]at low;obtain⟨e,zV⟩:=G.due hk1 hk2;have hA:=due_al (a:=a) (b:=b) (c:=c) hx;have rW:tw two<=1:=by unfold tw;split <;> lia
 have qR:=W.least_pair hb hc hg ((hz _ _).mpr ⟨_,Z,zV⟩) hA (by
  simp only[YK5,YLV,YK6,YMG]
  lia)
 have el:(pre ++ (List.replicate ((Y9 a b c (sgn p) t.cps.toList).2 - tw two - 1) im ++ [e])).length=(Y9 a b c (sgn p) t.cps.toList).2 - tw two + pre.length:=by
  simp only[YK5,YLV,YK6,YMG];have:two=true->2<=(Y9 a b c (sgn p) t.cps.toList).2:=hk2;unfold tw;split
  ·have:=hk2 (by assumption)
   lia
  ·lia
 rw[el]at qR;unfold ltP at qR;have qR:=of_decide_eq_false qR;dsimp only at qR;have hrl:row.length=pre.length + ks'.length:=by rw[er,YK5]
 obtain⟨D,eD⟩:∃D,Y9 a b c (sgn p) t.cps.toList=D:=⟨_,Z⟩;rw[eD]at low qR hk1 hk2 hk3 ⊢;have hv1:(vpN O F (.part z 0 t.length)).1=D.1:=by
  rcases low with low |low <;> lia
 have sY:D.2<=(mkL ds).length:=by
  rcases low with low |low
  ·lia
  ·exact low.2
 have hcase:(∃m,ks'=List.replicate m im ++ [if two=true then i2 else io]/\mkL ds=List.replicate D.2 (sgn p)/\m=D.2 - tw two - 1):=by
  rcases rK with ⟨m,a1,a2⟩ |⟨mZ,m,a1,a2⟩
  ·have hl1:ks'.length=m + 1:=by rw[a1,YK5,YLV];rfl
   have hl2:(mkL ds).length=m + 1:=by rw[a2,YLV]
   cases mZ:two with
   |true=>
    rw[mZ]at qR hk2;have:=hk2 rfl;have e3:tw true=1:=rfl;rw[e3]at qR
    lia
   |false=>
    rw[mZ]at qR;have e3:tw false=0:=rfl;rw[e3]at qR ⊢;refine⟨m,a1,?_,?_⟩
    ·rw[a2];congr 1
     lia
    ·lia
  ·have hl1:ks'.length=m + 1:=by rw[a1,YK5,YLV];rfl
   have hl2:(mkL ds).length=m + 2:=by rw[a2,YLV]
   rw[mZ]at qR hk2 ⊢;have:=hk2 rfl;have e3:tw true=1:=rfl;rw[e3]at qR ⊢;refine⟨m,a1,?_,?_⟩
   ·rw[a2];congr 1
    lia
   ·lia
 obtain⟨m,a1,a2,a3⟩:=hcase;refine⟨?_,a2,by rw[er,a1,a3]⟩;refine Prod.ext hv1 ?_;show(vpN O F (.part z 0 t.length)).2=_;rw[<-h2,hrl,a1,YK5,YLV];show((pre.length + (m + 1):Nat):Int)=_;congr 1;have:tw two + 1<=D.2:=by
  unfold tw;split
  ·have:=hk2 (by assumption)
   lia
  ·lia
 lia
end
abbrev XQ:Stmt:=top 43
abbrev YAG:Stmt:=top 44
abbrev Zm:Stmt:=top 45
abbrev Jd:Stmt:=top 46
abbrev YAm:Stmt:=top 47
abbrev YAn:Stmt:=top 48
abbrev YBN:Stmt:=top 49
abbrev YAo:Stmt:=top 50
abbrev YA4:Stmt:=top 51
theorem Je:(["_law_k","_law_big","_law_odd"]:List Str).Nodup:=by decide +kernel
theorem ZN:(["_law_k","_law_at","_law_base","_law_big","_law_odd"]:List Str).Nodup:=by decide +kernel
inductive YGn (K:W.Frag) (vs:List V) (H:Hp) (Q:VK):Prop where
 |mk (a:Addr) (ns:List Int) (k:Int) (aX:vs=[.ref a,.int k]) (aY:SqL K H a (ns.map V.int)) (bU:0<=k) (cN:k<=1000) (dh:∀v:Int,0<=v->v < 2147483647->Q (.int v) H):YGn K vs H Q
def YFM (K:W.Frag):Sp:=λvs H Q E_=>YGn K vs H Q
inductive YGo (vs:List V) (H:Hp) (Q:VK):Prop where
 |mk (c:Int) (aX:vs=[.int c]) (aY:YL H) (bU:∀l (a b d:Nat) H',JF a=true->JF b=true->JF d=true->YJ H H'->YL H'->H l=none->H' l=some (.lst [.str ⟨#[a]⟩,.str ⟨#[b]⟩,.str ⟨#[d]⟩])->Q (.ref l) H'):YGo vs H Q
def YIa:Sp:=λvs H Q E_=>YGo vs H Q
inductive YGp (vs:List V) (H:Hp) (Q:VK):Prop where
 |mk (c:Int) (aX:vs=[.int c]) (aY:0<=c) (bU:c < 2147483648) (cN:YL H) (dh:∀l (ns:List Str) H',ns.length=4->(∀z∈ns,isNameS z=true)->(∀(i j:Nat) (a b:Str),i < j->j < 4->ns[i]?=some a->ns[j]?=some b->a≠b)->YJ H H'->YL H'->H l=none->H' l=some (.lst (ns.map V.str))->Q (.ref l) H'):YGp vs H Q
def YIb:Sp:=λvs H Q E_=>YGp vs H Q
inductive YEi (vs:List V) (H:Hp) (Q:VK):Prop where
 |mk (c:Int) (aX:vs=[.int c]) (aY:∀z:Int,0<=z->z<=10 ^ 60->Q (.int z) H):YEi vs H Q
def YGq:Sp:=λvs H Q E_=>YEi vs H Q
def SOME:Str:=YE6 Zm 0 ++ YE6 Zm 1
theorem YEj:SOME.cps.toList=YBy:=by decide +kernel
theorem YCD:SOME.length<=sizeLine:=YF (by decide +kernel)
theorem YCM {ys:List V}{P:Nat->Str->Prop} (h:∀(k:Nat) (y:V),ys[k]?=some y->∃z,y=.str z/\P k z):∃zs:List Str,ys=zs.map V.str/\∀k z,zs[k]?=some z->P k z:=by
 induction ys generalizing P with
 |nil=>exact⟨[],Z,λk z e=>nomatch e⟩
 |cons y ys ih=>
  obtain⟨zs,rfl,hz⟩:=ih (P:=λk=>P (k + 1)) λk y e=>h (k + 1) y (by simpa using e)
  obtain⟨z,rfl,pz⟩:=h 0 y rfl;refine⟨z :: zs,Z,λk x hx=>?_⟩;cases k with
  |zero=>cases hx;exact pz
  |succ k=>exact hz k x hx
theorem big_at {i:Int}{c:Nat} (h:atI BIG.cps.toList i=some c) (h0:0<=i) (h1:i < 26):c=65 + i.toNat:=by
 have e:BIG.cps.toList[i.toNat]?=some (65 + i.toNat):=by
  rw[YFo,YK1,YLg (by lia)];rfl
 have e2:=Yq e;have e3:((i.toNat:Nat):Int)=i:=by lia
 rw[e3,h]at e2;exact YLP e2
theorem cut_at {z:Str}{c:Nat}{j:Int} (h0:0<=j) (h1:j<=z.length):(Txt.slice z none (some j) ++ ⟨#[c]⟩ ++ Txt.slice z (some j) none).cps.toList[j.toNat]?=some c:=by
 rw[JV,JV,YFp h0 h1,YDC h0 h1];have vy:z.cps.toList.length=z.length:=YLK;have ht:(z.cps.toList.take j.toNat).length=j.toNat:=by rw[YL3,vy];lia
 rw[YLe,YLl (by lia),ht,Nat.sub_self];rfl
theorem YKo {z:Str}{c:Nat}{j:Int} (hz:z.length<=7) (hl:z.cps.toList.all ZV=true) (hc:ZV c=true) (h0:0<=j) (h1:j<=z.length):
  isNameS (Txt.slice z none (some j) ++ ⟨#[c]⟩ ++ Txt.slice z (some j) none)=true:=by
 rw[YCJ,JV,JV,YFp h0 h1,YDC h0 h1];have vy:z.cps.toList.length=z.length:=YLK;unfold YH8;have e1:((z.cps.toList.take j.toNat ++ [c] ++ z.cps.toList.drop j.toNat).length)=z.length + 1:=by
  rw[YK5,YK5,YL3,List.length_drop,vy];show min j.toNat z.length + 1 + (z.length - j.toNat)=_
  lia
 show(decide (1<=(z.cps.toList.take j.toNat ++ [c] ++ z.cps.toList.drop j.toNat).length) && decide ((z.cps.toList.take j.toNat ++ [c] ++ z.cps.toList.drop j.toNat).length<=8) && (z.cps.toList.take j.toNat ++ [c] ++ z.cps.toList.drop j.toNat).all ZV)=true;rw[e1,YK2 (by lia),YK2 (by lia)];rw[YLb]at hl;rw[List.all_append,List.all_append];have a1:(z.cps.toList.take j.toNat).all ZV=true:=YLb.mpr λx hx=>hl x (List.mem_of_mem_take hx)
 have a2:(z.cps.toList.drop j.toNat).all ZV=true:=YLb.mpr λx hx=>hl x (List.mem_of_mem_drop hx)
 rw[a1,a2];show(true && (true && [c].all ZV && true))=true;rw[YMj,hc];rfl
theorem YKp {c:Nat}{n:Int} (hc:ZV c=true) (h0:1<=n) (h1:n<=8):isNameS (Txt.mul ⟨#[c]⟩ n)=true:=by
 rw[YCJ,PyProof.Rows.mul_one_list];unfold YH8;rw[YLV,YK2 (by lia),YK2 (by lia)];show(List.replicate n.toNat c).all ZV=true;rw[YLb];intro x hx;rw[(List.mem_replicate.mp hx).2];exact hc
section
variable {P:Program}{w:World}{K:W.Frag}{mg:Str->Option Value}{base:Heap}{C:Adr}
theorem YCZ:YW ["_law_script","_law_k"] ["_law_script","_law_k"] (YK XQ):=⟨Z,Z,Z,by decide +kernel,Z,by decide +kernel,by decide +kernel⟩
theorem YCa {f:Addr}{fd:FuncData} (F:Fun K "_law_cell_at" "_law_cell_at" XQ f fd) (T:Txt K mg C):Yw P w K mg base CX0 1 f fd ["_law_script","_law_k"] (YHG K):=by
 refine F.ok YCZ (λvs H Q E h=>?_) (λaO A outer s H vs Q E hr h=>?_)
 ·cases h;subst_vars;rfl
 ·obtain⟨a,ns,k,rfl,hS,h0,q⟩:=h;refine⟨_,(YO (Y1 (Yb YDu (pv 1) (YR (Yg K rfl) (by rfl) T.aL YK7 (YA (pv 0) YD)) (Yc _)) (YG (YZ (YM (YX K rfl) (pv 0) (pv 1) (λ_ _=>rfl)))) Yd)
   (YG (YZ YB))),?_⟩
  refine⟨_,Z,_,Z,a,_,Z,.inl hS,_,_,Z,Z,_,Z,?_⟩;refine Xf (λh1=>?_) λh1=>?_
  ·have h1':=YLM h1;obtain⟨v,hv,hm⟩:=Xt h0 h1';obtain⟨n,_,rfl⟩:=YLL.mp hm;exact⟨_,Z,_,Z,a,_,k,_,Z,Z,hS,hv,q n⟩
  ·exact q 0
theorem YA5:YW ["_law_script","_law_k","_law_cell"] ["_law_script","_law_k"] (YK YAG):=⟨Z,Z,Z,by decide +kernel,Z,by decide +kernel,by decide +kernel⟩
theorem YDp {f:Addr}{fd:FuncData} (F:Fun K "_law_mixed" "_law_mixed" YAG f fd) (T:Txt K mg C) (aM:Zx P w K mg CX0 1 "_law_cell_at" ["_law_script","_law_k"] (YHG K)):Yw P w K mg base CX0 2 f fd ["_law_script","_law_k"] (YFM K):=by
 obtain⟨jB,jg,cH,cI,cJ,cL⟩:=aM.ok;refine F.ok YA5 (λvs H Q E h=>?_) (λaO A outer s H vs Q E hr h=>?_)
 ·cases h;subst_vars;rfl
 ·obtain⟨a,ns,k,rfl,hS,k0,k1,q⟩:=h;refine⟨_,(YO (YQ (i:=2) YA5.nd rfl (Or.inl rfl) (YI ZA (Ye (cH base) (hr.mono (by decide)) (by rfl) cI cJ cL .nil Yj (YA (pv 0) (YA (pv 1) YD))) YB))
   (YG (YZ (YI ZA (YI YBn (YI Yh (YI Yh (YI Yh (YI YBn (pv 2) (pv 2)) (pv 2)) (YI YBn (YI YBn YB (pv 1)) (pv 1))) YB) YB) YB)))),?_⟩
  refine⟨_,Z,_,Z,a,ns,k,Z,hS,k0,λv=>⟨_,_,Z,Z,(by show(0:Int) < 2147483629;decide),?_⟩⟩;have c0:0<=v % 2147483629:=by lia
  have c1:v % 2147483629 < 2147483629:=by lia
  refine⟨_,Z,_,Z,_,_,Z,Z,.inl ⟨by lia,by lia⟩,_,Z,_,_,Z,Z,_,Z,_,_,Z,Z,.inl ⟨by decide,by decide⟩,_,Z,_,_,Z,Z,.inr ⟨by lia,by lia⟩,_,_,Z,Z,_,_,Z,Z,_,_,Z,Z,.inr ⟨by decide,by decide⟩,_,_,Z,Z,(by show(0:Int) < 2147483647;decide),q _ ?_ ?_⟩
  ·exact YLw _ (by decide)
  ·exact YL6 _ (by decide)
theorem Xn:YW ["_law_cell","_law_some"] ["_law_cell"] (YK Zm):=⟨Z,Z,Z,by decide +kernel,Z,by decide +kernel,by decide +kernel⟩
theorem YDq {f:Addr}{fd:FuncData} (F:Fun K "_law_signs" "_law_signs" Zm f fd) (T:Txt K mg C):Yw P w K mg base CX0 1 f fd ["_law_cell"] (YIa):=by
 refine F.ok Xn (λvs H Q E h=>?_) (λaO A outer s H vs Q E hr h=>?_)
 ·cases h;subst_vars;rfl
 ·obtain⟨c,rfl,hp,q⟩:=h;refine⟨_,(YO (YQ (i:=1) Xn.nd rfl (Or.inl rfl) Y0)
   (YO (YQ (i:=1) Xn.nd rfl (Or.inl rfl) (YI JI (pv 1) Y0))
   (YG (YZ (ZH (YA (YM XD (pv 1) (YI ZA (pv 0) YB) (λ_ _=>rfl)) (YA (YM XD (pv 1) (YI ZA (YI Yh (YI Yh (pv 0) YB) (YI ZA (YI ZQ (pv 0) YB) YB)) YB) (λ_ _=>rfl)) (YA (YM XD (pv 1) (YI ZA (YI Yh (YI Yh (pv 0) YB) (YI ZA (YI ZQ (pv 0) YB) YB)) YB) (λ_ _=>rfl)) YD)))))))),?_⟩
  refine⟨_,Z,YE6 Zm 0,YE6 Zm 1,Z,Z,by decide +kernel,?_⟩;have at_:∀i:Int,∃k,atI SOME.cps.toList (i % 94)=some k/\JF k=true:=λi=>by
   obtain⟨k,hk,hm⟩:=Xt (xs:=SOME.cps.toList) (i:=i % 94) (by lia) (by rw[YEj,YI4];lia);rw[YEj]at hm;exact⟨k,hk,YHH hm⟩
  obtain⟨k1,e1,g1⟩:=at_ c;obtain⟨k2,e2,g2⟩:=at_ (c + 1 + c / 94 % 46);obtain⟨k3,e3,g3⟩:=at_ (c + 47 + c / 4324 % 46);refine⟨_,Z,_,Z,_,_,Z,Z,(by show(0:Int) < 94;decide),SOME,_,k1,Z,Z,YCD,e1,?_⟩;refine⟨_,Z,_,Z,_,_,Z,Z,_,Z,_,_,Z,Z,⟨by decide,by decide⟩,_,_,Z,Z,(by show(0:Int) < 46;decide),_,_,Z,Z,_,_,Z,Z,(by show(0:Int) < 94;decide),SOME,_,k2,Z,Z,YCD,e2,?_⟩;refine⟨_,Z,_,Z,_,_,Z,Z,_,Z,_,_,Z,Z,⟨by decide,by decide⟩,_,_,Z,Z,(by show(0:Int) < 46;decide),_,_,Z,Z,_,_,Z,Z,(by show(0:Int) < 94;decide),SOME,_,k3,Z,Z,YCD,e3,?_⟩;exact⟨YF (by show 3<=1000;decide),λl hl=>q l k1 k2 k3 _ g1 g2 g3 (YJ.upd hl) (hp.upd rfl) hl YC⟩
theorem ZG:YW ["_law_cell","_law_big","_law_odd","_law_k","_law_base","_law_at"] ["_law_cell"] (YK Jd):=⟨Z,Z,Z,by decide +kernel,Z,by decide +kernel,by decide +kernel⟩
theorem YDr {f:Addr}{fd:FuncData} (F:Fun K "_law_names" "_law_names" Jd f fd) (T:Txt K mg C):Yw P w K mg base CX0 1 f fd ["_law_cell"] (YIb):=by
 refine F.ok ZG (λvs H Q E h=>?_) (λaO A outer s H vs Q E hr h=>?_)
 ·cases h;subst_vars;rfl
 ·obtain⟨c,rfl,c0,c1,hp,q⟩:=h;refine⟨_,(YO (YQ (i:=1) ZG.nd rfl (Or.inr rfl) Y0)
   (YO (YQ (i:=2) ZG.nd rfl (Or.inr rfl) (YI ZA (pv 0) YB))
   (YO (YQ (i:=0) ZG.nd rfl (Or.inl rfl) (YI ZQ (pv 0) YB))
   (YO (Y1 (Yb XA (YI ZA (pv 0) YB) YB (Yc _)) (YG (YZ (Z2 (N:=["_law_k","_law_big","_law_odd"]) (ρ:=[none,some 1,some 2]) rfl (Yi.closes ["_law_cell","_law_big","_law_odd","_law_k","_law_base","_law_at"] (YK Jd).names rfl rfl rfl rfl (by decide +kernel) (by decide +kernel) (λx h=>XB h) (by decide +kernel) rfl (by decide +kernel)) (Zb rfl T.aQ (YA YB YD)) (λ_ _ _ _ _=>(YU (i:=0) Je rfl (Or.inl rfl) (.inr rfl))) (λ_ _ _ _ _=>Zs) (λ_ _ _ _ _=>(YI YC2 (YM XD (pv 1) (pv 2) (λ_ _=>rfl)) (YI Zg (YI Yh (YI YBn YB (pv 0)) YB) (YI ZQ (pv 0) YB))))))) Yd)
   (YO (YQ (i:=4) ZG.nd rfl (Or.inr rfl) Y0)
   (YO (Y2 PassesOwn.never rfl (Zb rfl T.aQ (YA (YI ZA (YI ZQ (pv 0) YB) YB) YD)) (YU (i:=3) ZG.nd rfl (Or.inl rfl)) (YG (YQ (i:=4) ZG.nd rfl (Or.inr rfl) (YI JI (pv 4) (YM XD (pv 1) (YI ZA (YI ZQ (YI YBn (pv 0) (YI Yh (pv 3) YB)) YB) YB) (λ_ _=>rfl))))))
   (YO (YQ (i:=5) ZG.nd rfl (Or.inr rfl) (YI ZA (YI ZQ (pv 0) YB) (YI Yh (YR Yo (by rfl) T.aL YK7 (YA (pv 4) YD)) YB)))
   (YG (YZ (Z2 (N:=["_law_k","_law_at","_law_base","_law_big","_law_odd"]) (ρ:=[none,some 5,some 4,some 1,some 2]) rfl (Yi.closes ["_law_cell","_law_big","_law_odd","_law_k","_law_base","_law_at"] (YK Jd).names rfl rfl rfl rfl (by decide +kernel) (by decide +kernel) (λx h=>XB h) (by decide +kernel) rfl (by decide +kernel)) (Zb rfl T.aQ (YA YB YD)) (λ_ _ _ _ _=>(YU (i:=0) ZN rfl (Or.inl rfl) (.inr rfl))) (λ_ _ _ _ _=>Zs) (λ_ _ _ _ _=>(YI JI (YI JI (XC YEz (pv 2) YHv (JG (pv 1))) (YM XD (pv 3) (YI Yh (pv 4) (pv 0)) (λ_ _=>rfl))) (XC YEz (pv 2) (JG (pv 1)) YHv))))))))))))),?_⟩
  refine⟨_,Z,_,_,Z,Z,(by show(0:Int) < 23;decide),?_⟩;refine⟨_,Z,_,_,Z,Z,⟨by decide,by decide⟩,?_⟩;refine⟨_,Z,_,_,Z,Z,(by show(0:Int) < 4;decide),Z,_,Z,Xf (λh0=>?_) λh0=>?_⟩
  ·refine⟨4,Z,by decide,by decide,λl hl=>?_⟩;refine Zi (n:=4) 0 (λk y _=>∃z,y=.str z/\isNameS z=true/\z.cps.toList.length=2 * k + 1 - k / 3) JQ (λ_ _ _ _ _ h=>h) hp hl (by show 0 < 3;decide) (YF (by decide)) (λτ'=>∃v,τ'=[v,some (.str BIG),some (.int (c % 23))]) ⟨_,Z⟩ ?_ ?_ ?_
   ·rintro τ' v ⟨w,rfl⟩;exact⟨v,Z⟩
   ·rintro τ' k x H' R ⟨w,rfl⟩ hτ hit hk hs hp' lK hR;have ew:w=some x:=by simpa using hτ
    subst ew hit;obtain⟨c2,hc2,hm⟩:=Xt (xs:=BIG.cps.toList) (i:=c % 23) (by lia) (by rw[YE5];lia);refine⟨_,Z,_,Z,BIG,_,c2,Z,Z,YDA,hc2,_,Z,_,_,Z,Z,.inl ⟨by decide,by decide⟩,_,_,Z,Z,_,Z,_,_,Z,Z,⟨by decide,by decide⟩,_,_,Z,Z,_,_,Z,Z,(by show 1<=1000;decide),?_,?_,hR _ _ (YJ.refl _) hp' ⟨_,Z,YKp (YBC hm) ?_ ?_,?_⟩⟩
    rotate_right
    ·rw[PyProof.Rows.mul_one_list,YLV]
     lia
    all_goals lia
   ·intro ys H' hy hP hs hp' hl';obtain⟨zs,rfl,hz⟩:=YCM hP;refine q l zs H' (by rw[YKu]at hy;exact hy) (λz hz'=>?_) (λi j a b hij Aa ea eb e=>?_) hs hp' hl hl'
    ·obtain⟨k,hk⟩:=List.mem_iff_getElem?.mp hz';exact(hz k z hk).1
    ·have h1:=(hz i a ea).2;have h2:=(hz j b eb).2;rw[e,h2]at h1
     lia
  ·refine⟨_,Z,_,_,Z,Z,⟨by decide,by decide⟩,_,_,Z,Z,(by show(0:Int) < 8;decide),_,Z,(in62 (by lia) (by lia)).1,(in62 (by lia) (by lia)).2,?_⟩;refine JP (lo:=0) (n:=(c / 23 / 4 % 8).toNat) (λi σ H2=>H2=H/\∃(z:Str) (v:Option V),σ=[some (.int (c / 23)),some (.str BIG),some (.int (c % 23)),v,some (.str z),none]/\z.length=i/\z.cps.toList.all ZV=true) ⟨Z,_,none,Z,(by decide +kernel),(by decide +kernel)⟩ ?_ ?_
   ·rintro i σ H2 hi ⟨rfl,z,v,rfl,hz,vy⟩;have hi8:i < 8:=by lia
    obtain⟨c2,hc2,hm⟩:=Xt (xs:=BIG.cps.toList) (i:=c / 23 * (0 + (i:Int) + 3) / 7 % 26) (by lia) (by rw[YE5];lia);refine⟨_,Z,_,Z,_,Z,_,Z,_,_,Z,Z,_,_,Z,Z,.inl ⟨by lia,by lia⟩,_,_,Z,Z,⟨by decide,by decide⟩,_,_,Z,Z,(by show(0:Int) < 26;decide),BIG,_,c2,Z,Z,YDA,hc2,z,_,Z,Z,YF (by show z.length + 1<=1000;lia),?_⟩;refine⟨Z,z ++ ⟨#[c2]⟩,_,Z,by rw[slen,hz];rfl,?_⟩;rw[JV,List.all_append,vy];show(true && [c2].all ZV)=true;rw[YMj,YBC hm];rfl
   ·rintro σ H2 ⟨rfl,z,v,rfl,hz,vy⟩;have Ab:z.length<=7:=by lia
    refine⟨_,Z,_,_,Z,Z,⟨by decide,by decide⟩,_,Z,z,Z,YF (by lia),_,_,Z,Z,_,_,Z,Z,(by show(0:Int) < (z.length:Int) + 1;lia),?_⟩;have a0:0<=c / 23 / 32 % ((z.length:Int) + 1):=YLw _ (by lia);have a1:c / 23 / 32 % ((z.length:Int) + 1) < (z.length:Int) + 1:=YL6 _ (by lia);obtain⟨at_,hat⟩:∃a,a=c / 23 / 32 % ((z.length:Int) + 1):=⟨_,Z⟩;rw[<-hat]at a0 a1;refine⟨4,Z,by decide,by decide,λl hl=>?_⟩;refine Zi (n:=4) 0 (λk y _=>∃z,y=.str z/\isNameS z=true/\z.cps.toList[at_.toNat]?=some (65 + (c % 23 + (0 + (k:Int))).toNat)) JQ (λ_ _ _ _ _ h=>h) hp hl (by show 0 < 5;decide) (YF (by decide)) (λτ'=>∃v,τ'=[v,some (.int at_),some (.str z),some (.str BIG),some (.int (c % 23))]) ⟨none,by rw[hat];rfl⟩ ?_ ?_ ?_
    ·rintro τ' v ⟨w,rfl⟩;exact⟨v,Z⟩
    ·rintro τ' k x H' R ⟨w,rfl⟩ hτ hit hk hs hp' lK hR;have ew:w=some x:=by simpa using hτ
     subst ew hit;obtain⟨c2,hc2,hm⟩:=Xt (xs:=BIG.cps.toList) (i:=c % 23 + (0 + (k:Int))) (by lia) (by rw[YE5];lia);have q1:=Txt.slice_le z none (some at_);have q2:=Txt.slice_le z (some at_) none;refine⟨_,Z,_,Z,_,Z,z,Z,YF (by lia),_,Z,_,Z,_,Z,_,_,Z,Z,BIG,_,c2,Z,Z,YDA,hc2,_,_,Z,Z,YF (by show _ + 1<=1000;lia),_,Z,_,Z,_,Z,z,Z,YF (by lia),_,_,Z,Z,YF (by rw[slen];show _ + 1 + _<=1000;lia),hR _ _ (YJ.refl _) hp' ⟨_,Z,YKo Ab vy (YBC hm) a0 (by lia),by rw[cut_at a0 (by lia),big_at hc2 (by lia) (by lia)]⟩⟩
    ·intro ys H' hy hP hs hp' hl';obtain⟨zs,rfl,hz⟩:=YCM hP;refine q l zs H' (by rw[YKu]at hy;exact hy) (λz hz'=>?_) (λi j a b hij Aa ea eb e=>?_) hs hp' hl hl'
     ·obtain⟨k,hk⟩:=List.mem_iff_getElem?.mp hz';exact(hz k z hk).1
     ·have h1:=(hz i a ea).2;have h2:=(hz j b eb).2;rw[e,h2]at h1;have h1:=YLP h1
      lia
theorem YFN:YW ["_law_cell"] ["_law_cell"] (YK YAm):=⟨Z,Z,Z,by decide +kernel,Z,by decide +kernel,by decide +kernel⟩
theorem YFO {f:Addr}{fd:FuncData} (F:Fun K "_law_cost" "_law_cost" YAm f fd) (T:Txt K mg C):Yw P w K mg base CX0 1 f fd ["_law_cell"] (YGq):=by
 refine F.ok YFN (λvs H Q E h=>?_) (λaO A outer s H vs Q E hr h=>?_)
 ·cases h;subst_vars;rfl
 ·obtain⟨c,rfl,q⟩:=h;refine⟨_,(YO (Y1 (Yb XA (YI ZA (pv 0) YB) YB (Yc _)) (YG (YZ (YI ZA (YI ZQ (pv 0) YB) (YI Yh (YI YAP YB YB) YB)))) Yd)
   (YG (YZ (YI ZA (YI ZQ (pv 0) YB) YB)))),?_⟩
  have big:(1000:Int)<=10 ^ 60:=by decide
  refine⟨_,Z,_,_,Z,Z,(by show(0:Int) < 3;decide),Z,_,Z,Xf (λ_=>?_) λ_=>?_⟩
  ·refine⟨_,Z,_,_,Z,Z,⟨by decide,by decide⟩,_,_,Z,Z,⟨by decide,by decide,by decide⟩,_,_,Z,Z,_,_,Z,Z,(by show(0:Int) < 10 ^ (60:Int).toNat + 1;decide),q _ ?_ ?_⟩
   ·exact YLw _ (by decide)
   ·exact Int.le_of_lt_add_one (YL6 _ (by decide))
  ·refine⟨_,Z,_,_,Z,Z,⟨by decide,by decide⟩,_,_,Z,Z,(by show(0:Int) < 4;decide),q _ ?_ ?_⟩
   ·show 0<=c / 3 % 4
    lia
   ·show c / 3 % 4<=10 ^ 60
    lia
end
def ddS:Dd->List Str
 |.keep c=>["keep",⟨#[c]⟩]
 |.cut c=>["cut",⟨#[c]⟩]
 |.swap c c'=>["swap",⟨#[c]⟩,⟨#[c']⟩]
 |.put c=>["put",⟨#[c]⟩]
theorem ddD_S (d:Dd):ddD d=.tup ((ddS d).map D.str):=by cases d <;> rfl
theorem YDY {H:Hp}:∀{ys:List V}{ss:List Str},Ya H ys (ss.map D.str)->ys=ss.map V.str
 |[],[],_=>rfl
 |[],_ :: _,h=>by unfold Ya at h;exact h.elim
 |_ :: _,[],h=>by unfold Ya at h;exact h.elim
 |y :: ys,s :: ss,h=>by
  rw[YLR]at h;unfold Ya at h;rw[h.1.to_str,YDY h.2];rfl
theorem X8 (a b:List Nat):(⟨a.toArray⟩:Str) ++ ⟨b.toArray⟩=⟨(a ++ b).toArray⟩:=by
 have h:=JV ⟨a.toArray⟩ ⟨b.toArray⟩;cases hj:(⟨a.toArray⟩:Str) ++ ⟨b.toArray⟩;congr 1;apply Array.toList_inj.mp;rw[hj]at h;rw[h]
theorem YKq:∀ds:List Dd,(tkL ds).length<=ds.length
 |[]=>YKv _
 |d :: ds=>by
  have h:=YKq ds;have e:tkL (d :: ds)=ddT d ++ tkL ds:=YMc ..;rw[e,YK5,YK6];cases d <;> simp only[ddT,YK6,YMG] <;> lia
theorem YKr:∀ds:List Dd,(mkL ds).length<=ds.length
 |[]=>YKv _
 |d :: ds=>by
  have h:=YKr ds;have e:mkL (d :: ds)=ddM d ++ mkL ds:=YMc ..;rw[e,YK5,YK6];cases d <;> simp only[ddM,YK6,YMG] <;> lia
def W3:List Str:=["put","cut","swap"]
inductive YEk (K:W.Frag) (vs:List V) (H:Hp) (Q:VK):Prop where
 |mk (a ls:Addr) (ns:List Int) (c1 c2 c3:Nat) (aX:vs=[.ref a,.ref ls]) (aY:SqL K H a (ns.map V.int)) (bU:H ls=some (.lst [.str ⟨#[c1]⟩,.str ⟨#[c2]⟩,.str ⟨#[c3]⟩])) (cN:JF c1=true) (dh:JF c2=true) (i_:JF c3=true) (lD:YL H) (n_:∀(cs:List Nat) (H':Hp),16<=cs.length->cs.length<=26->cw c1 cs<=8->(∀c∈cs,JF c=true)->YJ H H'->YL H'->Q (.str ⟨cs.toArray⟩) H'):YEk K vs H Q
def YGr (K:W.Frag):Sp:=λvs H Q E_=>YEk K vs H Q
inductive YGs (vs:List V) (H:Hp) (Q:VK):Prop where
 |mk (t:Str) (x:Nat) (ct:Addr) (a b c:Int) (aX:vs=[.str t,.str ⟨#[x]⟩,.ref ct]) (aY:t.length<=60) (bU:H ct=some (.tup [.int a,.int b,.int c])) (cN:(0<=b/\b<=10 ^ 60)) (dh:(0<=c/\c<=10 ^ 60)) (i_:YL H) (lD:∀u H',YJ H H'->YL H'->H' u=some (.tup [.int (Y9 a b c x t.cps.toList).1,.int ((Y9 a b c x t.cps.toList).2:Int)])->Q (.ref u) H'):YGs vs H Q
def YIc:Sp:=λvs H Q E_=>YGs vs H Q
inductive YEl (vs:List V) (H:Hp) (Q:VK):Prop where
 |mk (ld ct:Addr) (t:Str) (ds:List Dd) (a b c:Int) (aX:vs=[.str t,.ref ld,.ref ct]) (aY:DdAt H ld ds) (bU:(∀d∈ds,ddOk d)) (cN:ds.length<=10000) (dh:tkL ds=t.cps.toList) (i_:H ct=some (.tup [.int a,.int b,.int c])) (lD:YL H) (n_:∀l H',YJ H H'->YL H'->H' l=some (.lst [.str ⟨(mkL ds).toArray⟩,.int (coL a b c ds)])->Q (.ref l) H'):YEl vs H Q
def YGt:Sp:=λvs H Q E_=>YEl vs H Q
theorem YId (x:Nat):∀(l:List Nat) (j c:Nat),cw x (l.set j c)<=cw x l + 1
 |[],_,_=>YLS _
 |y :: l,0,c=>by
  rw[List.set_cons_zero,Zr,Zr];split <;> split <;> lia
 |y :: l,j + 1,c=>by
  have:=YId x l j c;rw[List.set_cons_succ,Zr,Zr]
  lia
theorem YIe (x:Nat):∀n:Nat,cw x (List.replicate n x)=0
 |0=>rfl
 |n + 1=>by
  rw[YLF,Zr,if_pos rfl,YIe x n]
theorem YFP (x:Nat):∀l:List Nat,(l.filter λy=>decide (y=x)).length + cw x l=l.length
 |[]=>rfl
 |y :: l=>by
  have:=YFP x l;rw[Zr,YL4,YK6]
  by_cases h:y=x
  ·rw[if_pos (YK2 h),if_pos h,YK6]
   lia
  ·rw[if_neg (by rw[YK0 h];decide),if_neg h]
   lia
theorem cut_8 (ns:List Int):∃cs:List Int,YDc (ns.map V.int) (some 6) (some 14)=cs.map V.int/\cs.length<=8:=by
 unfold YDc;refine⟨(ns.drop (HT.sIx (ns.map V.int).length 0 (some 6))).take (HT.sIx (ns.map V.int).length (ns.map V.int).length (some 14) - HT.sIx (ns.map V.int).length 0 (some 6)),by rw[<-List.map_drop,<-List.map_take],?_⟩;have e1:HT.sIx (ns.map V.int).length 0 (some (6:Int))=min 6 (ns.map V.int).length:=HT.sIx_nat _ _ 6;have e2:HT.sIx (ns.map V.int).length (ns.map V.int).length (some (14:Int))=min 14 (ns.map V.int).length:=HT.sIx_nat _ _ 14;rw[e1,e2,YL3]
 lia
theorem YGu:∀n:Nat,(List.replicate n 1).sum=n
 |0=>rfl
 |n + 1=>by rw[YLF,YMi,YGu n];lia
theorem YDZ (v:V):∀n:Nat,(List.replicate n [v]).flatten=List.replicate n v
 |0=>rfl
 |n + 1=>by
  rw[YLF,YMb,YDZ v n,YLF];rfl
section
variable {P:Program}{w:World}{K:W.Frag}{mg:Str->Option Value}{base:Heap}{C:Adr}
theorem J6:YW ["_law_script","_law_signs_here","_law_size","_law_some","_law_cell"] ["_law_script","_law_signs_here"] (YK YAn):=⟨Z,Z,Z,by decide +kernel,Z,by decide +kernel,by decide +kernel⟩
theorem YFQ {f:Addr}{fd:FuncData} (F:Fun K "_law_text" "_law_text" YAn f fd) (T:Txt K mg C) (a_:Zx P w K mg CX0 2 "_law_mixed" ["_law_script","_law_k"] (YFM K)):Yw P w K mg base CX0 3 f fd ["_law_script","_law_signs_here"] (YGr K):=by
 obtain⟨kI,jT,bO,bQ,bR,bT⟩:=a_.ok;refine F.ok J6 (λvs H Q E h=>?_) (λaO A outer s H vs Q E hr h=>?_)
 ·cases h;subst_vars;rfl
 ·obtain⟨a,ls,ns,c1,c2,c3,rfl,hS,hls,g1,g2,g3,hp,q⟩:=h;have hU:=hr.units;refine qex ?_;refine⟨_,(YE ⟨(YQ (i:=2) J6.nd rfl (Or.inl rfl) (YI Yh YB (YI ZA (Ye (bO base) (hr.mono (by decide)) (by rfl) bQ bR bT .nil Yj (YA (pv 0) (YA YB YD))) YB)))⟩
   (YE ⟨(YQ (i:=3) J6.nd rfl (Or.inl rfl) (YI YBr (ZH (YA (YM (YX K rfl) (pv 1) YB (λ_ _=>rfl)) YD)) (pv 2)))⟩
   (YE ⟨(Y2 PassesOwn.never rfl (JU K rfl (XC (YCx K rfl) (pv 0) (JG YB) (JG YB))) (YU (i:=4) J6.nd rfl (Or.inl rfl)) (YG (YEo (YM (YX K rfl) (pv 1) (YI Yh YB (YI ZA (YI ZQ (pv 4) YB) YB)) (λ_ _=>rfl)) (YGy (pv 3) (YI ZA (pv 4) (pv 2)) YCs))))⟩
   (Y7 ⟨(YZ (Ze K rfl YL7 PySem.F.slot_str_join PySem.F.type_str_join (YJ3 K rfl) Y0 (YA (pv 3) YD)))⟩)))),?_⟩
  refine⟨_,Z,a,ns,2,Z,hS,by decide,by decide,λv v0 v1=>⟨_,_,Z,Z,(show(0:Int) < 11 by decide),_,_,Z,Z,?_⟩⟩;obtain⟨sz,esz,sz0,sz1⟩:∃sz:Nat,16 + v % 11=(sz:Int)/\16<=sz/\sz<=26:=⟨(16 + v % 11).toNat,by lia,by lia,by lia⟩;rw[esz];refine⟨_,Z,ls,_,0,_,Z,Z,SqL.of hls,Z,YF (by show 1<=1000;decide),λl1 hl1=>?_⟩;have s1:=YJ.upd (o:=.lst [.str ⟨#[c1]⟩]) hl1;refine⟨_,Z,l1,_,_,Z,Z,YC,by lia,by lia,by rw[sizeLine_eq];show 1 * (sz:Int).toNat<=_;lia,λlm WT=>?_⟩;rw[YDZ,Int.toNat_natCast];have s2:=s1.trans (YJ.upd (o:=.lst (List.replicate sz (.str ⟨#[c1]⟩))) WT);have p2:YL (upd (upd H l1 (.lst [.str ⟨#[c1]⟩])) lm (.lst (List.replicate sz (.str ⟨#[c1]⟩)))):=(hp.upd rfl).upd rfl;have m2:upd (upd H l1 (.lst [.str ⟨#[c1]⟩])) lm (.lst (List.replicate sz (.str ⟨#[c1]⟩))) lm=some (.lst ((List.replicate sz c1).map chV)):=by rw[YC,List.map_replicate];rfl
  have wH:H lm=none:=s1.free WT;revert s2 p2 m2;generalize upd (upd H l1 (.lst [.str ⟨#[c1]⟩])) lm (.lst (List.replicate sz (.str ⟨#[c1]⟩)))=H2;intro s2 p2 m2;refine⟨_,Z,6,Z,14,Z,a,_,Z,s2.seq hS,λl6 sJ=>?_⟩;obtain⟨cells,ecl,lcl⟩:=cut_8 ns;rw[ecl];have s3:=YJ.upd (o:=.lst (cells.map V.int)) sJ;have p3:YL (upd H2 l6 (.lst (cells.map V.int))):=p2.upd rfl;have h6:upd H2 l6 (.lst (cells.map V.int)) l6=some (.lst (cells.map V.int)):=YC;have m3:=s3 _ _ m2;have nlm:l6≠lm:=λz=>by rw[z,m2]at sJ;cases sJ
  revert s3 p3 h6 m3;generalize upd H2 l6 (.lst (cells.map V.int))=H3;intro s3 p3 h6 m3;have zW:=s3 _ _ (s2 _ _ hls);have nls:ls≠lm:=λz=>by rw[z,wH]at hls;cases hls
  refine⟨l6,Z,⟨_,SqL.of h6⟩,?_⟩;refine J9 (K:=K) (a:=l6) (xs:=cells.map V.int) (λi σ H'=>∃(cs:List Nat) (v4:Option V),σ=[some (.ref a),some (.ref ls),some (.int (sz:Int)),some (.ref lm),v4]/\H' lm=some (.lst (cs.map chV))/\H' l6=some (.lst (cells.map V.int))/\H' ls=some (.lst [.str ⟨#[c1]⟩,.str ⟨#[c2]⟩,.str ⟨#[c3]⟩])/\cs.length=sz/\cw c1 cs<=i/\(∀c∈cs,JF c=true)/\YJ H H'/\YL H')
   ⟨List.replicate sz c1,none,Z,m3,h6,zW,YLV,by rw[YIe];exact YKv _,λc hc=>by rw[List.eq_of_mem_replicate hc];exact g1,s2.trans s3,p3⟩ (λi σ H' _ ⟨_,_,_,_,h,_⟩=>SqL.of h) ?_ ?_
  ·rintro i x σ H' hx ⟨cs,v4,rfl,hm,WW,hls',hcl,hcw,hgd,sH,pH⟩;obtain⟨c,_,rfl⟩:=YLL.mp (YKw hx);obtain⟨y,hy,WX⟩:=Xt (xs:=[V.str ⟨#[c1]⟩,.str ⟨#[c2]⟩,.str ⟨#[c3]⟩]) (i:=1 + c / 26 % 2) (by lia) (by show _ < (3:Int);lia);obtain⟨d,hd,rfl⟩:∃d:Nat,JF d=true/\y=.str ⟨#[d]⟩:=by
    simp only[YLB,YLj,or_false]at WX;rcases WX with rfl |rfl |rfl
    ·exact⟨c1,g1,Z⟩
    ·exact⟨c2,g2,Z⟩
    ·exact⟨c3,g3,Z⟩
   have j0:0<=c % (sz:Int):=YLw _ (by lia);have j1:c % (sz:Int) < sz:=YL6 _ (by lia);refine⟨_,Z,_,Z,_,_,Z,Z,⟨by decide,by decide⟩,_,_,Z,Z,(show(0:Int) < 2 by decide),_,_,Z,Z,ls,_,_,_,Z,Z,SqL.of hls',hy,?_⟩;refine⟨_,Z,_,Z,_,Z,_,_,Z,Z,(show(0:Int) < (sz:Int) by lia),lm,_,_,(c % (sz:Int)).toNat,Z,Z,hm,?_,cs.set (c % (sz:Int)).toNat d,_,Z,?_,?_,?_,?_,?_,λe he=>?_,sH.put wH,pH.upd rfl⟩
   ·rw[YKu,hcl];unfold ixN;rw[if_pos j0,if_pos j1]
   ·rw[YC,List.map_set];rfl
   ·rw[YH nlm];exact WW
   ·rw[YH nls];exact hls'
   ·rw[YMQ];exact hcl
   ·have:=YId c1 cs (c % (sz:Int)).toNat d
    lia
   ·rcases List.mem_or_eq_of_mem_set he with he |he
    ·exact hgd e he
    ·rw[he];exact hd
  ·rintro σ H' ⟨cs,v4,rfl,hm,WW,hls',hcl,hcw,hgd,sH,pH⟩;rw[YKu]at hcw;have e1:cs.map chV=(cs.map λc=>(⟨#[c]⟩:Str)).map V.str:=by rw[YL2];rfl
   refine⟨Z,_,Z,"",lm,cs.map λc=>(⟨#[c]⟩:Str),Z,Z,by rw[<-e1];exact SqL.of hm,?_,?_⟩
   ·have e2:(cs.map λc=>(⟨#[c]⟩:Str)).map (·.length)=List.replicate cs.length 1:=by
     rw[YL2];exact List.map_const' ..
    rw[e2,YGu,YKu,hcl];show sz + sz * 0<=_
    lia
   ·rw[YJF];exact q cs H' (by lia) (by lia) (by lia) hgd sH pH
theorem YCN:YW ["_law_signs_here","_law_sign","_law_costs","_law_wrong"] ["_law_signs_here","_law_sign","_law_costs"] (YK YBN):=⟨Z,Z,Z,by decide +kernel,Z,by decide +kernel,by decide +kernel⟩
theorem YGv {f:Addr}{fd:FuncData} (F:Fun K "_law_due" "_law_due" YBN f fd) (T:Txt K mg C):Yw P w K mg base CX0 1 f fd ["_law_signs_here","_law_sign","_law_costs"] (YIc):=by
 refine F.ok YCN (λvs H Q E h=>?_) (λaO A outer s H vs Q E hr h=>?_)
 ·cases h;subst_vars;rfl
 ·obtain⟨t,x,ct,a,b,c,rfl,ht,hct,hb,hc,hp,q⟩:=h;have hU:=hr.units;refine qex ?_;refine⟨_,(YE ⟨(YQ (i:=3) YCN.nd rfl (Or.inl rfl) (YI Zg (YR Yo (by rfl) T.aL YK7 (YA (pv 0) YD)) (Ze K rfl YL7 PySem.F.slot_str_count PySem.F.type_str_count YFC (pv 0) (YA (pv 1) YD))))⟩
   (YE ⟨(Y1 (Yb XA (YM (YN K rfl) (pv 2) YB (λ_ _=>rfl)) YB (Yc _)) (YG (YZ (Yx (YA YB (YA YB YD))))) Yd)⟩
   (YE ⟨(Y1 (Yb Xp (YM (YN K rfl) (pv 2) YB (λ_ _=>rfl)) (YM (YN K rfl) (pv 2) YB (λ_ _=>rfl)) (Yc _)) (YG (YZ (Yx (YA (YI Jm (pv 3) (YM (YN K rfl) (pv 2) YB (λ_ _=>rfl))) (YA (YI Zg (YR Yo (by rfl) T.aL YK7 (YA (pv 0) YD)) (pv 3)) YD))))) Yd)⟩
   (Y7 ⟨(YZ (Yx (YA (YI Jm (pv 3) (YM (YN K rfl) (pv 2) YB (λ_ _=>rfl))) (YA (YR Yo (by rfl) T.aL YK7 (YA (pv 0) YD)) YD))))⟩)))),?_⟩
  have hl:t.cps.toList.length=t.length:=YLK;have Wn:=YFP x t.cps.toList;have hle:=YKm x t.cps.toList;have sqc:=SqT.of (K:=K) hct;have tln:t.length<=sizeLine:=YF (by lia);refine⟨_,Z,t,Z,tln,_,Z,Z,_,Z,t,_,Z,Z,_,_,Z,Z,?_⟩;have ew:((t.length:Int) - ((YFB t ⟨#[x]⟩:Nat):Int))=((cw x t.cps.toList:Nat):Int):=by
   rw[YHO]
   lia
  rw[ew];dsimp only[Yu];have mulB:∀z:Int,0<=z/\z<=10 ^ 60->YH4 ((cw x t.cps.toList:Nat):Int) z:=λz hz=>by
   have two:(10:Int) ^ 60 < 2 ^ 4000:=by decide +kernel
   refine⟨?_,?_⟩
   ·have:((cw x t.cps.toList:Nat):Int).natAbs < 100:=by lia
    exact YLG this (by decide +kernel)
   ·have h3:=Int.lt_of_le_of_lt hz.2 two;have h4:=Int.natAbs_of_nonneg hz.1;rw[<-h4]at h3
    exact_mod_cast h3
  unfold Y9 at q;refine⟨_,Z,ct,_,1,_,Z,Z,sqc,Z,Z,_,Z,?_⟩
  by_cases mY:b=0
  ·rw[YK2 (by rw[mY])];rw[if_pos mY]at q;exact ZO ⟨YF (by show 2<=1000;decide),λu hu=>q u _ (YJ.upd hu) (hp.upd rfl) YC⟩
  rw[YK0 (λz=>mY (V.int.inj z))];rw[if_neg mY]at q;refine Y3 ?_;dsimp only[JT];refine⟨_,Z,ct,_,1,_,Z,Z,sqc,Z,_,Z,ct,_,2,_,Z,Z,sqc,Z,_,_,Z,Z,_,Z,?_⟩
  by_cases rY:b<=c
  ·rw[YK2 rY];rw[if_pos rY]at q;refine ZO ⟨_,Z,_,Z,ct,_,1,_,Z,Z,sqc,Z,_,_,Z,Z,mulB b hb,_,Z,t,Z,tln,_,Z,_,_,Z,Z,YF (by show 2<=1000;decide),λu hu=>q u _ (YJ.upd hu) (hp.upd rfl) ?_⟩;rw[YC];have e9:((t.cps.toList.length - cw x t.cps.toList:Nat):Int)=(t.length:Int) - ((cw x t.cps.toList:Nat):Int):=by lia
   show some (HO.tup [V.int _,V.int ((t.length:Int) - ((cw x t.cps.toList:Nat):Int))])=some (HO.tup [V.int _,V.int ((t.cps.toList.length - cw x t.cps.toList:Nat):Int)]);rw[e9]
  ·rw[YK0 rY];rw[if_neg rY]at q;refine Y3 ?_;dsimp only[JT];refine⟨_,Z,_,Z,ct,_,2,_,Z,Z,sqc,Z,_,_,Z,Z,mulB c hc,_,Z,t,Z,tln,YF (by show 2<=1000;decide),λu hu=>q u _ (YJ.upd hu) (hp.upd rfl) ?_⟩;rw[YC];rfl
theorem ZU:YW ["_law_signs_here","_law_deeds","_law_costs","_law_taken","_law_made","_law_cost_here","_law_deed"] ["_law_signs_here","_law_deeds","_law_costs"] (YK YAo):=⟨Z,Z,Z,by decide +kernel,Z,by decide +kernel,by decide +kernel⟩
theorem YFR {f:Addr}{fd:FuncData} (F:Fun K "_law_done" "_law_done" YAo f fd) (T:Txt K mg C):Yw P w K mg base CX0 1 f fd ["_law_signs_here","_law_deeds","_law_costs"] (YGt):=by
 refine F.ok ZU (λvs H Q E h=>?_) (λaO A outer s H vs Q E hr h=>?_)
 ·cases h;subst_vars;rfl
 ·obtain⟨ld,ct,t,ds,a,b,c,rfl,hdd,hok,hdl,vQ,hct,hp,q⟩:=h;have hu:=Zw hr;have hU:=hr.units;refine qex ?_;refine⟨_,(YE (YBu (i:=3) ZU.nd rfl (Or.inl rfl) YJ9)
   (YE (YBu (i:=4) ZU.nd rfl (Or.inl rfl) YJ9)
   (YE (YBu (i:=5) ZU.nd rfl (Or.inl rfl) YJ8)
   (YE ⟨(Y2 PassesOwn.never rfl (JU K rfl (pv 1)) (YU (i:=6) ZU.nd rfl (Or.inl rfl)) (YO (Y1 (Yb YCE (YM (YN K rfl) (pv 6) YB (λ_ _=>rfl)) Y0 (Yc _)) (YG (YQ (i:=3) ZU.nd rfl (Or.inl rfl) (YI JI (pv 3) (YM (YN K rfl) (pv 6) YB (λ_ _=>rfl))))) Yd)
   (YO (Y1 (Yb YCE (YM (YN K rfl) (pv 6) YB (λ_ _=>rfl)) Y0 (Yc _)) (YG (YQ (i:=4) ZU.nd rfl (Or.inl rfl) (YI JI (pv 4) (YM (YN K rfl) (pv 6) (YHn YEr YB) (λ_ _=>rfl))))) Yd)
   (YO (Y1 (Yb YCE (YM (YN K rfl) (pv 6) YB (λ_ _=>rfl)) Y0 (Yc _)) (YG (YQ (i:=5) ZU.nd rfl (Or.inl rfl) (YI Yh (pv 5) (YM (YN K rfl) (pv 2) (Ze K rfl YLT PySem.F.slot_list_index PySem.F.type_list_index (YDJ K rfl hU) (ZH (YA Y0 (YA Y0 (YA Y0 YD)))) (YA (YM (YN K rfl) (pv 6) YB (λ_ _=>rfl)) YD)) (λ_ _=>rfl))))) Yd)
   (YG (Y1 (PW.pt (YBk (Yb XA (YM (YN K rfl) (pv 6) YB (λ_ _=>rfl)) Y0 (Yc _)) (YAp (Yb XA (YM (YN K rfl) (pv 6) YB (λ_ _=>rfl)) (YM (YN K rfl) (pv 6) YB (λ_ _=>rfl)) (Yc _))))) (YG (YZ J8)) Yd))))))⟩
   (YE ⟨(Y1 (Yb YCE (pv 3) (pv 0) (Yc _)) (YG (YZ J8)) Yd)⟩
   (Y7 ⟨(YZ (ZH (YA (pv 4) (YA (pv 5) YD))))⟩)))))),?_⟩
  obtain⟨vs,jY,hden⟩:=hdd;have hvl:vs.length=ds.length:=by rw[hden.len,YKu]
  have e0:(("":Str))=⟨([]:List Nat).toArray⟩:=by decide +kernel
  rw[e0];refine⟨_,Z,ld,Z,⟨_,SqL.of jY⟩,?_⟩;refine J9 (K:=K) (a:=ld) (xs:=vs) (λi σ H'=>∃v6:Option V,σ=[some (.str t),some (.ref ld),some (.ref ct),some (.str ⟨(tkL (ds.take i)).toArray⟩),some (.str ⟨(mkL (ds.take i)).toArray⟩),some (.int (coL a b c (ds.take i))),v6]/\YJ H H'/\YL H') ⟨none,Z,YJ.refl _,hp⟩ (λi σ H' _ ⟨_,_,s,_⟩=>SqL.of (s _ _ jY)) ?_ ?_
  ·rintro i x σ H' hx ⟨v6,rfl,s1,p1⟩;obtain⟨dD,hdD,uw⟩:=hden.get hx;rw[YK1]at hdD;cases ed:ds[i]? with
   |none=>rw[ed]at hdD;cases hdD
   |some d=>
    rw[ed]at hdD;cases hdD;rw[ddD_S]at uw;obtain⟨u,ys,rfl,jb,hys⟩:=uw.to_tup;have eys:=YDY hys;subst eys;have et:ds.take (i + 1)=ds.take i ++ [d]:=by rw[YLn,ed];rfl
    have h1:=YKq (ds.take i);have h2:=YKr (ds.take i);have h3:(ds.take i).length<=10000:=by rw[YL3];lia
    have lT:∀x:Nat,(⟨(tkL (ds.take i)).toArray⟩:Str).length + (⟨#[x]⟩:Str).length<=sizeLine:=λx=>by
     rw[sizeLine_eq];show(tkL (ds.take i)).length + 1<=_
     lia
    have lM:∀x:Nat,(⟨(mkL (ds.take i)).toArray⟩:Str).length + (⟨#[x]⟩:Str).length<=sizeLine:=λx=>by
     rw[sizeLine_eq];show(mkL (ds.take i)).length + 1<=_
     lia
    have e1:tkL (ds.take (i + 1))=tkL (ds.take i) ++ ddT d:=by rw[et,YCi];exact YL5 _ (YLa _)
    have e2:mkL (ds.take (i + 1))=mkL (ds.take i) ++ ddM d:=by rw[et,YCj];exact YL5 _ (YLa _)
    have e3:coL a b c (ds.take (i + 1))=coL a b c (ds.take i) + ddC a b c d:=by rw[et,YCk];exact YL5 _ (YMh _)
    have fin:∀(T1 M1:Str) (C1:Int) (H2:Hp),T1=⟨(tkL (ds.take i) ++ ddT d).toArray⟩->M1=⟨(mkL (ds.take i) ++ ddM d).toArray⟩->C1=coL a b c (ds.take i) + ddC a b c d->YJ H' H2->YL H2->∃v6:Option V,[some (V.str t),some (.ref ld),some (.ref ct),some (.str T1),some (.str M1),some (.int C1),some (.ref u)]=[some (V.str t),some (.ref ld),some (.ref ct),some (.str ⟨(tkL (ds.take (i + 1))).toArray⟩),some (.str ⟨(mkL (ds.take (i + 1))).toArray⟩),some (.int (coL a b c (ds.take (i + 1)))),v6]/\YJ H H2/\YL H2:=λT1 M1 C1 H2 f1 f2 f3 s p=>⟨some (.ref u),by rw[e1,e2,e3,f1,f2,f3],s1.trans s,p⟩
    have jb:=s1 _ _ jb;have u5:=s1 _ _ hct;have zX:=hok d (YKw ed);dsimp only[Yu];cases d with
    |keep x=>
     refine⟨_,Z,u,_,0,_,Z,Z,SqT.of jb,Z,Z,_,Z,?_⟩;refine Eq.mpr (if_pos (by rw[YK0 (show ¬V.str "keep"=V.str "put" from by decide +kernel)];rfl)) ?_;refine⟨_,Z,_,Z,u,_,1,_,Z,Z,SqT.of jb,Z,_,_,Z,Z,lT _,?_⟩;dsimp only[Yu];refine⟨_,Z,u,_,0,_,Z,Z,SqT.of jb,Z,Z,_,Z,?_⟩;refine Eq.mpr (if_pos (by rw[YK0 (show ¬V.str "keep"=V.str "cut" from by decide +kernel)];rfl)) ?_;refine⟨_,Z,_,Z,1,Z,u,_,-1,_,Z,Z,SqT.of jb,Z,_,_,Z,Z,lM _,?_⟩;dsimp only[Yu];refine⟨_,Z,u,_,0,_,Z,Z,SqT.of jb,Z,Z,_,Z,?_⟩;refine Eq.mpr (if_neg (by rw[YK2 (show V.str "keep"=V.str "keep" from rfl)];decide)) ?_;dsimp only[JT];refine⟨_,Z,u,_,0,_,Z,Z,SqT.of jb,Z,Z,_,Z,?_⟩;refine Eq.mpr (if_neg (by rw[YK0 (show ¬V.str "keep"=V.str "swap" from by decide +kernel)];decide)) ?_;refine Y3 ?_;dsimp only[JT];exact fin _ _ _ H' (X8 _ [x]) (X8 _ [x]) (YMh _).symm (YJ.refl _) p1
    |cut x=>
     refine⟨_,Z,u,_,0,_,Z,Z,SqT.of jb,Z,Z,_,Z,?_⟩;refine Eq.mpr (if_pos (by rw[YK0 (show ¬V.str "cut"=V.str "put" from by decide +kernel)];rfl)) ?_;refine⟨_,Z,_,Z,u,_,1,_,Z,Z,SqT.of jb,Z,_,_,Z,Z,lT _,?_⟩;dsimp only[Yu];refine⟨_,Z,u,_,0,_,Z,Z,SqT.of jb,Z,Z,_,Z,?_⟩;refine Eq.mpr (if_neg (by rw[YK2 (show V.str "cut"=V.str "cut" from rfl)];decide)) ?_;dsimp only[JT];refine⟨_,Z,u,_,0,_,Z,Z,SqT.of jb,Z,Z,_,Z,?_⟩;refine Eq.mpr (if_pos (by rw[YK0 (show ¬V.str "cut"=V.str "keep" from by decide +kernel)];rfl)) ?_;refine⟨_,Z,_,Z,YF (by show 3<=1000;decide),λli hli=>?_⟩;have sl:=YJ.upd (o:=.lst [.str "put",.str "cut",.str "swap"]) hli;have pl:YL (upd H' li (.lst [.str "put",.str "cut",.str "swap"])):=p1.upd rfl;have ll:upd H' li (.lst [.str "put",.str "cut",.str "swap"]) li=some (.lst (W3.map V.str)):=YC;revert sl pl ll;generalize upd H' li (.lst [.str "put",.str "cut",.str "swap"])=H2;intro sl pl ll;have hu2:=sl _ _ jb;refine⟨.inl ⟨Z,_,SqL.of ll⟩,_,Z,u,_,0,_,Z,Z,SqT.of hu2,Z,li,W3,"cut",1,Z,Z,SqL.of ll,by decide,Z,λm z hm hz=>by
      have:m=0:=by lia
      subst this;cases hz;decide +kernel,ct,_,1,_,Z,Z,SqT.of (sl _ _ u5),Z,_,_,Z,Z,?_⟩
     dsimp only[Yu];refine⟨_,Z,u,_,0,_,Z,Z,SqT.of hu2,Z,Z,_,Z,?_⟩;refine Eq.mpr (if_neg (by rw[YK0 (show ¬V.str "cut"=V.str "swap" from by decide +kernel)];decide)) ?_;refine Y3 ?_;dsimp only[JT];exact fin _ _ _ H2 (X8 _ [x]) (by show _=(⟨(_ ++ []).toArray⟩:Str);rw[YLa]) rfl sl pl
    |swap x y=>
     refine⟨_,Z,u,_,0,_,Z,Z,SqT.of jb,Z,Z,_,Z,?_⟩;refine Eq.mpr (if_pos (by rw[YK0 (show ¬V.str "swap"=V.str "put" from by decide +kernel)];rfl)) ?_;refine⟨_,Z,_,Z,u,_,1,_,Z,Z,SqT.of jb,Z,_,_,Z,Z,lT _,?_⟩;dsimp only[Yu];refine⟨_,Z,u,_,0,_,Z,Z,SqT.of jb,Z,Z,_,Z,?_⟩;refine Eq.mpr (if_pos (by rw[YK0 (show ¬V.str "swap"=V.str "cut" from by decide +kernel)];rfl)) ?_;refine⟨_,Z,_,Z,1,Z,u,_,-1,_,Z,Z,SqT.of jb,Z,_,_,Z,Z,lM _,?_⟩;dsimp only[Yu];refine⟨_,Z,u,_,0,_,Z,Z,SqT.of jb,Z,Z,_,Z,?_⟩;refine Eq.mpr (if_pos (by rw[YK0 (show ¬V.str "swap"=V.str "keep" from by decide +kernel)];rfl)) ?_;refine⟨_,Z,_,Z,YF (by show 3<=1000;decide),λli hli=>?_⟩;have sl:=YJ.upd (o:=.lst [.str "put",.str "cut",.str "swap"]) hli;have pl:YL (upd H' li (.lst [.str "put",.str "cut",.str "swap"])):=p1.upd rfl;have ll:upd H' li (.lst [.str "put",.str "cut",.str "swap"]) li=some (.lst (W3.map V.str)):=YC;revert sl pl ll;generalize upd H' li (.lst [.str "put",.str "cut",.str "swap"])=H2;intro sl pl ll;have hu2:=sl _ _ jb;refine⟨.inl ⟨Z,_,SqL.of ll⟩,_,Z,u,_,0,_,Z,Z,SqT.of hu2,Z,li,W3,"swap",2,Z,Z,SqL.of ll,by decide,Z,λm z hm hz=>by
      rcases(show m=0\/m=1 by lia) with rfl |rfl
      ·cases hz;decide +kernel
      ·cases hz;decide +kernel,ct,_,2,_,Z,Z,SqT.of (sl _ _ u5),Z,_,_,Z,Z,?_⟩
     dsimp only[Yu];refine⟨_,Z,u,_,0,_,Z,Z,SqT.of hu2,Z,Z,_,Z,?_⟩;refine Eq.mpr (if_pos (by rw[YK2 (show V.str "swap"=V.str "swap" from rfl)])) ?_;refine⟨_,Z,u,_,1,_,Z,Z,SqT.of hu2,Z,_,Z,u,_,2,_,Z,Z,SqT.of hu2,Z,Z,_,Z,?_⟩;have hxy:¬V.str (⟨#[x]⟩:Str)=V.str ⟨#[y]⟩:=λz=>zX (by
      have:=V.str.inj z
      injection this with this
      simpa using this)
     rw[YK0 hxy];refine Y3 ?_;dsimp only[JT];exact fin _ _ _ H2 (X8 _ [x]) (X8 _ [y]) rfl sl pl
    |put x=>
     refine⟨_,Z,u,_,0,_,Z,Z,SqT.of jb,Z,Z,_,Z,?_⟩;refine Eq.mpr (if_neg (by rw[YK2 (show V.str "put"=V.str "put" from rfl)];decide)) ?_;dsimp only[JT];refine⟨_,Z,u,_,0,_,Z,Z,SqT.of jb,Z,Z,_,Z,?_⟩;refine Eq.mpr (if_pos (by rw[YK0 (show ¬V.str "put"=V.str "cut" from by decide +kernel)];rfl)) ?_;refine⟨_,Z,_,Z,1,Z,u,_,-1,_,Z,Z,SqT.of jb,Z,_,_,Z,Z,lM _,?_⟩;dsimp only[Yu];refine⟨_,Z,u,_,0,_,Z,Z,SqT.of jb,Z,Z,_,Z,?_⟩;refine Eq.mpr (if_pos (by rw[YK0 (show ¬V.str "put"=V.str "keep" from by decide +kernel)];rfl)) ?_;refine⟨_,Z,_,Z,YF (by show 3<=1000;decide),λli hli=>?_⟩;have sl:=YJ.upd (o:=.lst [.str "put",.str "cut",.str "swap"]) hli;have pl:YL (upd H' li (.lst [.str "put",.str "cut",.str "swap"])):=p1.upd rfl;have ll:upd H' li (.lst [.str "put",.str "cut",.str "swap"]) li=some (.lst (W3.map V.str)):=YC;revert sl pl ll;generalize upd H' li (.lst [.str "put",.str "cut",.str "swap"])=H2;intro sl pl ll;have hu2:=sl _ _ jb;refine⟨.inl ⟨Z,_,SqL.of ll⟩,_,Z,u,_,0,_,Z,Z,SqT.of hu2,Z,li,W3,"put",0,Z,Z,SqL.of ll,by decide,Z,λm z hm hz=>absurd hm (YMa _),ct,_,0,_,Z,Z,SqT.of (sl _ _ u5),Z,_,_,Z,Z,?_⟩;dsimp only[Yu];refine⟨_,Z,u,_,0,_,Z,Z,SqT.of hu2,Z,Z,_,Z,?_⟩;refine Eq.mpr (if_neg (by rw[YK0 (show ¬V.str "put"=V.str "swap" from by decide +kernel)];decide)) ?_;refine Y3 ?_;dsimp only[JT];exact fin _ _ _ H2 (by show _=(⟨(_ ++ []).toArray⟩:Str);rw[YLa]) (X8 _ [x]) rfl sl pl
  ·rintro σ H' ⟨v6,rfl,s1,p1⟩;rw[hvl,YL9];refine⟨_,Z,_,Z,Z,_,Z,?_⟩;have eT:(⟨(tkL ds).toArray⟩:Str)=t:=by rw[vQ]
   rw[YK2 (by rw[eT])];refine Y3 ?_;dsimp only[JT];exact⟨_,Z,_,Z,YF (by show 2<=1000;decide),λl hl=>q l _ (s1.trans (YJ.upd hl)) (p1.upd rfl) YC⟩
end
def bN (b:Bool):Nat:=if b=true then 1 else 0
def g77 (N p Top:Str) (pm:List Str) (w1 w2:Int) (at_ tp two:Bool):Yy:=(if tp=true then [(Top,[N],1)] else []) ++ (if at_=true then [(N,[p],w2),(N,pm,w1)] else [(N,pm,w1),(N,[p],w2)]) ++ (if two=true then [(N,[p,p],0)] else [])
section
variable {N p Top:Str}{pm:List Str}{w1 w2:Int}{at_ tp two:Bool}
theorem YIf:(g77 N p Top pm w1 w2 at_ tp two).length<=4:=by
 cases at_ <;> cases tp <;> cases two <;> simp[g77]
theorem YFS {r:Y4} (hr:r∈g77 N p Top pm w1 w2 at_ tp two):r=(Top,[N],1)\/r=(N,pm,w1)\/r=(N,[p],w2)\/r=(N,[p,p],0):=by
 unfold g77 at hr;rcases YLQ.mp hr with h |h
 ·rcases YLQ.mp h with h |h
  ·split at h
   ·exact .inl (YK4.mp h)
   ·cases h
  ·split at h
   ·rcases YLB.mp h with h |h
    ·exact .inr (.inr (.inl h))
    ·exact .inr (.inl (YK4.mp h))
   ·rcases YLB.mp h with h |h
    ·exact .inr (.inl h)
    ·exact .inr (.inr (.inl (YK4.mp h)))
 ·split at h
  ·exact .inr (.inr (.inr (YK4.mp h)))
  ·cases h
theorem g77_G (hN:isNameS N=true) (hq:isQ p=true) (hpm:pm=[p,N]\/pm=[N,p]) (hT:Top≠N):G77 (g77 N p Top pm w1 w2 at_ tp two) N p (bN tp + bN at_) (bN tp + (1 - bN at_)) (bN tp + 2) two:=by
 refine⟨Xz hN,hq,?_,?_,?_,?_⟩
 ·cases at_ <;> cases tp <;> exact⟨(N,pm,w1),Z,Z,hpm⟩
 ·cases at_ <;> cases tp <;> exact⟨(N,[p],w2),Z,Z,Z⟩
 ·intro ht;subst ht;cases at_ <;> cases tp <;> exact⟨(N,[p,p],0),Z,Z,Z⟩
 ·intro k ρ e en;have hk:k < 4:=by
   have:=(YKy.mp e).1;have h4:=YIf (N:=N) (p:=p) (Top:=Top) (pm:=pm) (w1:=w1) (w2:=w2) (at_:=at_) (tp:=tp) (two:=two)
   lia
  cases at_ <;> cases tp <;> cases two <;> rcases(show k=0\/k=1\/k=2\/k=3 by lia) with rfl |rfl |rfl |rfl <;> first |(cases e;done) |(left;rfl) |(right;left;rfl) |(right;right;exact⟨rfl,rfl⟩) |(cases e;exact absurd en hT)
theorem YHh (hN:isNameS N=true) (hT:isNameS Top=true) (hp:ZD p=true) (hpm:pm=[p,N]\/pm=[N,p]) (h1:0<=w1/\w1<=10 ^ 60) (h2:0<=w2/\w2<=10 ^ 60):Y5 (g77 N p Top pm w1 w2 at_ tp two)=true:=by
 have hNp:ZD N=true:=YHM hN;have a1:∀(ps:List Str) (h:Str) (w:Int),isNameS h=true->ps.length<=6->(∀q∈ps,ZD q=true)->0<=w->w<=10 ^ 60->Jz (h,ps,w)=true:=λps h w x1 x2 x3 x4 x5=>YI7 (r:=(h,ps,w)) x1 x2 x3 x4 x5
 have wI:pm.length<=6/\∀q∈pm,ZD q=true:=by
  rcases hpm with rfl |rfl
  ·exact⟨(show 2<=6 by decide),λq hq=>by simp only[YLB,YLj,or_false]at hq;rcases hq with rfl |rfl <;> assumption⟩
  ·exact⟨(show 2<=6 by decide),λq hq=>by simp only[YLB,YLj,or_false]at hq;rcases hq with rfl |rfl <;> assumption⟩
 have r1:=a1 pm N w1 hN wI.1 wI.2 h1.1 h1.2;have r2:=a1 [p] N w2 hN (show 1<=6 by decide) (λq hq=>by rw[YK4.mp hq];exact hp) h2.1 h2.2;have r3:=a1 [p,p] N 0 hN (show 2<=6 by decide) (λq hq=>by simp only[YLB,YLj,or_false]at hq;rcases hq with rfl |rfl <;> assumption) (by decide) (by decide);have r4:=a1 [N] Top 1 hT (show 1<=6 by decide) (λq hq=>by rw[YK4.mp hq];exact hNp) (by decide) (by decide);unfold Y5;rw[YK2 (YLU YIf (by decide)),Bool.true_and,YLb];intro r hr;rcases YFS hr with rfl |rfl |rfl |rfl <;> assumption
theorem YGw:∃r0 rest,g77 N p Top pm w1 w2 at_ tp two=r0 :: rest/\r0.1=(if tp=true then Top else N):=by
 cases at_ <;> cases tp <;> exact⟨_,_,Z,Z⟩
theorem YIg (hN:isNameS N=true) (hTn:isNameS Top=true) (hT:Top≠N) (ks sg:List Nat):Z5 (g77 N p Top pm w1 w2 at_ tp two) [if tp=true then Top else N] ks sg<->∃ks',ks=(if tp=true then [0] else []) ++ ks'/\Z5 (g77 N p Top pm w1 w2 at_ tp two) [N] ks' sg:=by
 cases tp with
 |false=>exact⟨λh=>⟨ks,Z,h⟩,λ⟨_,e,h⟩=>by rw[e];exact h⟩
 |true=>
  have h0:(g77 N p Top pm w1 w2 at_ true two)[0]?=some (Top,[N],1):=by cases at_ <;> rfl
  constructor
  ·intro h;obtain⟨k,ks',r,e,er,en,h'⟩:=YFL (Xz hTn) h;have hk:r=(Top,[N],1):=by
    rcases YFS (YKw er) with h |h |h |h
    ·exact h
    all_goals (rw[h]at en;exact absurd en.symm hT)
   have hk0:k=0:=by
    cases k with
    |zero=>rfl
    |succ k=>
     exfalso
     have hm:r∈(if at_=true then [(N,[p],w2),(N,pm,w1)] else [(N,pm,w1),(N,[p],w2)]) ++ (if two=true then [(N,[p,p],0)] else []):=by
      have:(g77 N p Top pm w1 w2 at_ true two)[k + 1]?=((if at_=true then [(N,[p],w2),(N,pm,w1)] else [(N,pm,w1),(N,[p],w2)]) ++ (if two=true then [(N,[p,p],0)] else []))[k]?:=rfl;rw[this]at er;exact YKw er
     have hn:∀x∈(if at_=true then [(N,[p],w2),(N,pm,w1)] else [(N,pm,w1),(N,[p],w2)]) ++ (if two=true then [(N,[p,p],(0:Int))] else []),x.1=N:=λx hx=>by
      cases at_ <;> cases two <;> simp at hx <;> rcases hx with h |h |h <;> first |rfl |(rw[h])
     exact hT (by rw[<-en];exact hn r hm)
   subst hk hk0;exact⟨ks',e,h'⟩
  ·rintro⟨ks',e,h⟩;rw[e];exact Z5.name (r:=(Top,[N],1)) (Xz hTn) h0 h
structure P77 (N p Top:Str) (pm:List Str) (w1 w2:Int) (two:Bool) (t:Str) (a b c:Int):Prop where
 hN:isNameS N=true
 hTn:isNameS Top=true
 hT:Top≠N
 hp:ZD p=true
 hq:isQ p=true
 hpm:pm=[p,N]\/pm=[N,p]
 h1:0<=w1/\w1<=10 ^ 60
 h2:0<=w2/\w2<=10 ^ 60
 ht:Jn t=true
 n16:16<=t.length
 n26:t.length<=26
 hcw:cw (sgn p) t.cps.toList<=8
 ha:0<=a/\a<=10 ^ 60
 hb:0<=b/\b<=10 ^ 60
 hc:0<=c/\c<=10 ^ 60
 h2b:two=true->b≠0
variable {t:Str}{a b c:Int}
theorem P77.due (X:P77 N p Top pm w1 w2 two t a b c):1<=(Y9 a b c (sgn p) t.cps.toList).2/\(two=true->2<=(Y9 a b c (sgn p) t.cps.toList).2)/\(Y9 a b c (sgn p) t.cps.toList).2<=60/\sgn p∈t.cps.toList:=by
 have hl:t.cps.toList.length=t.length:=YLK;have h1:=X.hcw;have h2:=X.n16;have h3:=X.n26;have h4:=X.h2b;have hc:=YFP (sgn p) t.cps.toList;refine⟨?_,λht=>?_,?_,?_⟩
 ·unfold Y9;split
  ·exact YKv _
  ·split
   ·show 1<=t.cps.toList.length - cw (sgn p) t.cps.toList
    lia
   ·show 1<=t.cps.toList.length
    lia
 ·unfold Y9;rw[if_neg (h4 ht)];split
  ·show 2<=t.cps.toList.length - cw (sgn p) t.cps.toList
   lia
  ·show 2<=t.cps.toList.length
   lia
 ·unfold Y9;split
  ·exact(show 1<=60 by decide)
  ·split
   ·show t.cps.toList.length - cw (sgn p) t.cps.toList<=60
    lia
   ·show t.cps.toList.length<=60
    lia
 ·have:0 < (t.cps.toList.filter λy=>decide (y=sgn p)).length:=by lia
  obtain⟨y,hy⟩:=List.exists_mem_of_length_pos this;obtain⟨h5,h6⟩:=List.mem_filter.mp hy;rw[<-YLM h6];exact h5
def z77 (N Top:Str) (tp:Bool):Str:=if tp=true then Top else N
def YAL (D2:Nat) (at_ tp two:Bool):List Nat:=(if tp=true then [0] else []) ++ (List.replicate (D2 - tw two - 1) (bN tp + bN at_) ++ [if two=true then bN tp + 2 else bN tp + (1 - bN at_)])
variable {T:Tol}{ps:List Str}{O:OvF}{F:FiF}{fs:List (Nd×Int)}
theorem P77.small (X:P77 N p Top pm w1 w2 two t a b c) (W:ZK (g77 N p Top pm w1 w2 at_ tp two) t a b c T ps O F fs):(t.length + 1) * T.s.length<=60:=by
 have h:(T.s.map (·.1)).length<=[Top,N].length:=YDR W.sz.nd λz hz=>by
  obtain⟨x,hx,rfl⟩:=YLL.mp hz;obtain⟨ρ,hr,e,_⟩:=W.sz.hd x.1 x.2 (Xd W.sz.nd hx);rw[<-e];rw[W.eg]at hr;rcases YFS hr with h |h |h |h <;> rw[h] <;> simp
 rw[YKu]at h;have h3:=X.n26;exact YLU (Nat.mul_le_mul (show t.length + 1<=27 by lia) h) (show 27 * 2<=60 by decide)
theorem P77.inP (X:P77 N p Top pm w1 w2 two t a b c) (W:ZK (g77 N p Top pm w1 w2 at_ tp two) t a b c T ps O F fs):N∈ps/\z77 N Top tp∈ps:=by
 have G:=g77_G (w1:=w1) (w2:=w2) (at_:=at_) (tp:=tp) (two:=two) X.hN X.hq X.hpm X.hT;have hN:N∈ps:=by
  obtain⟨ρ,er,en,ep⟩:=G.ho;exact(W.head (Xz X.hN)).mpr ⟨ρ,YKw er,en,X0 λq hq=>by
   rw[ep]at hq;rw[YK4.mp hq];unfold okP;rw[X.hq];rfl⟩
 refine⟨hN,?_⟩;cases tp with
 |false=>exact hN
 |true=>
  refine(W.head (Xz X.hTn)).mpr ⟨(Top,[N],1),?_,Z,X0 λq hq=>by
   rw[YK4.mp hq];exact W.po.2.1 N hN⟩
  unfold g77;exact YLd _ (YLd _ (YK4.mpr rfl))
theorem P77.told (X:P77 N p Top pm w1 w2 two t a b c) (W:ZK (g77 N p Top pm w1 w2 at_ tp two) t a b c T ps O F fs):
  vpN O F (.part (z77 N Top tp) 0 t.length)=((Y9 a b c (sgn p) t.cps.toList).1,(((Y9 a b c (sgn p) t.cps.toList).2 - tw two + bN tp:Nat):Int))/\vpN O F (.part N 0 t.length)=((Y9 a b c (sgn p) t.cps.toList).1,(((Y9 a b c (sgn p) t.cps.toList).2 - tw two:Nat):Int)):=by
 have G:=g77_G (w1:=w1) (w2:=w2) (at_:=at_) (tp:=tp) (two:=two) X.hN X.hq X.hpm X.hT;have hg:=YHh (at_:=at_) (tp:=tp) (two:=two) X.hN X.hTn X.hp X.hpm X.h1 X.h2;obtain⟨k1,k2,k3,hx⟩:=X.due;have h3:=X.n26;have hB:=X.small W;obtain⟨i1,i2⟩:=X.inP W;have all:∀z,z∈ps->∃ds row,MkS (g77 N p Top pm w1 w2 at_ tp two) t a b c (vpN O F) [.part z 0 t.length] ds row:=λz hz=>W.mks X.hb.1 hg hB _ _ rfl (λn hn=>by rw[YK4.mp hn];exact⟨hz,YLS _,by rw[W.en];exact YKv _⟩) (λn hn=>(nomatch hn))
 constructor
 ·obtain⟨ds,row,mk⟩:=all _ i2;have:=(W.exact77 X.ha.1 X.hb.1 X.hc.1 hg G (z:=z77 N Top tp) (YIg X.hN X.hTn X.hT) hx (by cases tp <;> simp) (by lia) k1 k2 k3 mk).1;rw[this];cases tp <;> rfl
 ·obtain⟨ds,row,mk⟩:=all _ i1;exact(W.exact77 X.ha.1 X.hb.1 X.hc.1 hg G (z:=N) (pre:=[]) (λks sg=>⟨λh=>⟨ks,Z,h⟩,λ⟨_,e,h⟩=>by rw[e];exact h⟩) hx (YLS _) (by lia) k1 k2 k3 mk).1
structure F77 (H:Hp) (u ld lw:Addr) (ds:List Dd) (t:Str) (a b c:Int) (x:Nat) (at_ tp two:Bool):Prop where
 u:H u=some (.tup [.int (Y9 a b c x t.cps.toList).1,.ref ld,.ref lw])
 d:DdAt H ld ds
 w:H lw=some (.lst ((YAL (Y9 a b c x t.cps.toList).2 at_ tp two).map nV))
 ok:∀d∈ds,ddOk d
 dl:ds.length<=10000
 tk:tkL ds=t.cps.toList
 co:coL a b c ds=(Y9 a b c x t.cps.toList).1
 mk_:mkL ds=List.replicate (Y9 a b c x t.cps.toList).2 x
theorem mend77 {B TG:Addr} (X:P77 N p Top pm w1 w2 two t a b c) {H:Hp}{Q:VK}{E:XK}{lh ct:Addr}{xs:List V} (hl:H lh=some (.lst xs)) (hds:Ya H xs ((g77 N p Top pm w1 w2 at_ tp two).map ZF)) (hct:H ct=some (.tup [.int a,.int b,.int c])) (pl:YL H) (k:∀u ld lw ds H',F77 H' u ld lw ds t a b c (sgn p) at_ tp two->YJ H H'->YL H'->Q (.ref u) H'):YDW B TG [.ref lh,.str t,.ref ct] H Q E:=by
 obtain⟨r0,rest,eg,er⟩:=YGw (N:=N) (p:=p) (Top:=Top) (pm:=pm) (w1:=w1) (w2:=w2) (at_:=at_) (tp:=tp) (two:=two);have er:r0.1=z77 N Top tp:=er;have hg:=YHh (at_:=at_) (tp:=tp) (two:=two) X.hN X.hTn X.hp X.hpm X.h1 X.h2;have G:=g77_G (w1:=w1) (w2:=w2) (at_:=at_) (tp:=tp) (two:=two) X.hN X.hq X.hpm X.hT;obtain⟨k1,k2,k3,hx⟩:=X.due;have h3:=X.n26;have small:=@P77.small N p Top pm w1 w2 at_ tp two t a b c;have inP:=@P77.inP N p Top pm w1 w2 at_ tp two t a b c;have told:=@P77.told N p Top pm w1 w2 at_ tp two t a b c;have top:=@YIg N p Top pm w1 w2 at_ tp two X.hN X.hTn X.hT;have h6:∀ρ∈g77 N p Top pm w1 w2 at_ tp two,ρ.2.1.length<=6:=λρ hρ=>(JL hg hρ).2.1
 have rW:tw two<=1:=by unfold tw;split <;> lia
 have QH:bN tp<=1:=by unfold bN;split <;> lia
 rw[eg]at hds hg G small inP told top h6;refine⟨.ref lh,ct,r0,rest,t,a,b,c,Z,.lst (.inl hl) hds,YC9 hg,hg,X.ht,hct,X.ha,X.hb,X.hc,pl,(λT ps O F fs W=>small X W),(λT ps O F fs H' W n=>absurd (by rw[er];exact(inP X W).2) n),(λT ps O F fs H' W _ n=>by
  rw[er,(told X W).1]at n;dsimp only at n
  lia),λT ps O F fs u ld lw ds row H' W hin mk hu' hd' hw' ne n1 n2 s' p'=>?_⟩
 have hde:=mk.de h6;have hv:=(told X W).1;obtain⟨e1,_,e3,e4,_⟩:=mk.sem;have f1:YCX (λn=>(vpN O F n).1) [.part r0.1 0 t.length]=(vpN O F (.part r0.1 0 t.length)).1:=YMh _;rw[f1]at e1;have f3:Xl (deS (vpN O F)) [.part r0.1 0 t.length]<=t.length + 6 * (vpN O F (.part r0.1 0 t.length)).2.toNat + 1:=by
  show(t.length - 0 + 6 * (vpN O F (.part r0.1 0 t.length)).2.toNat + (if isQ r0.1=true then 1 else 0)) + 0<=_;split <;> lia
 rw[er]at mk hu' e1 hde f3;rw[hv]at hu' e1 f3;dsimp only at hu' e1 f3;obtain⟨_,g2,g3⟩:=W.exact77 X.ha.1 X.hb.1 X.hc.1 hg G top hx (by cases tp <;> simp) (by lia) k1 k2 k3 mk;refine k u ld lw ds H' ⟨hu',hd',?_,e3,by lia,?_,e1,g2⟩ s' p'
 ·rw[hw',g3];unfold YBL YAL;rw[YL2];rfl
 ·rw[e4];show JB t 0 t.length ++ []=_;rw[YLa];unfold JB;rw[List.drop_zero,Nat.sub_zero];exact YL8 (by rw[YLK];exact YKv _)
end
theorem XR:(["_law_k","_law_script"]:List Str).Nodup:=by decide +kernel
theorem YHi (c:Nat):isQ (("'":Str) ++ ⟨#[c]⟩)=true:=by
 rw[YIM];exact YK2 (by rw[YDB];rfl)
theorem YHj (c:Nat):sgn (("'":Str) ++ ⟨#[c]⟩)=c:=by
 unfold sgn;rw[YDB];rfl
theorem YDa {t u:TS}{D:YA6}{σ:St}{H:Hp} (M:St->Hp->Prop) (rest:∀σ' H',M σ' H'->u D σ' H') (h:(∀σ' H',M σ' H'->u D σ' H')->t { D with nx:=u D } σ H):tSeq t u D σ H:=h rest
theorem YKs {v:Int}:∃b:Bool,v % 2=(bN b:Int):=by
 by_cases h:v % 2=1
 ·exact⟨true,h⟩
 ·exact⟨false,by show v % 2=0;lia⟩
theorem YBj {H:Hp}{t q:Addr}{r:Y4} (h1:H t=some (.tup [.str r.1,.ref q,.int r.2.2])) (h2:H q=some (.tup (r.2.1.map V.str))):Den H (.ref t) (ZF r):=.tup h1 (.cons (.str _) (.cons (.tup h2 (Ya.strs r.2.1)) (.cons (.int _) .nil)))
theorem YGx {H:Hp}{v:V}{r:Y4} (h:Den H v (ZF r)):∃t q,v=.ref t/\H t=some (.tup [.str r.1,.ref q,.int r.2.2])/\H q=some (.tup (r.2.1.map V.str)):=by
 obtain⟨t,ys,rfl,h1,h2⟩:=h.to_tup;obtain⟨x1,e1,d1⟩:=h2.getD (i:=0) rfl;obtain⟨x2,e2,d2⟩:=h2.getD (i:=1) rfl;obtain⟨x3,e3,d3⟩:=h2.getD (i:=2) rfl;have hl:=h2.len;have f1:=d1.to_str;have f3:=d3.to_int;obtain⟨q,zs,f2,h3,h4⟩:=d2.to_tup;have f4:=YDY h4;subst f1 f2 f3 f4
 match ys,hl,e1,e2,e3,h1 with
 |[y1,y2,y3],_,e1,e2,e3,h1=>
  cases e1;cases e2;cases e3;exact⟨t,q,Z,h1,h3⟩
theorem YDb {x:Str}{i:Int}:(D.lst [.str x,.int i]).ok=true:=YKG λd hd=>by
 simp only[YLB,YLj,or_false]at hd;rcases hd with rfl |rfl <;> (unfold D.ok;rfl)
theorem YJR {x:Str}{i:Int}:(D.lst [.str x,.int i]).dep<=64:=by
 simp[D.dep,YDh]
theorem YJS {D2:Nat}{at_ tp two:Bool} (h:bN two + 1<=D2):(YAL D2 at_ tp two).length=D2 - bN two + bN tp:=by
 unfold YAL;rw[YK5,YK5,YLV];have e:tw two=bN two:=rfl;rw[e];cases tp
 ·show 0 + (_ + 1)=_ + 0
  lia
 ·show 1 + (_ + 1)=_ + 1
  lia
theorem YKt (c n:Nat):Txt.mul ⟨#[c]⟩ (n:Int)=⟨(List.replicate n c).toArray⟩:=by
 have h:=PyProof.Rows.mul_one_list c (n:Int);cases hz:Txt.mul (⟨#[c]⟩:Str) (n:Int);congr 1;apply Array.toList_inj.mp;rw[hz]at h;rw[h,Int.toNat_natCast]
theorem YHk (v:V) (b:Bool):(List.replicate ((bN b:Nat):Int).toNat [v]).flatten=if b=true then [v] else []:=by cases b <;> rfl
section
variable {P:Program}{w:World}{K:W.Frag}{mg:Str->Option Value}{base:Heap}{C:Adr}
theorem ZW:YW ["_law_script","_law_way","_law_names_here","_law_name","_law_signs_here","_law_part","_law_more","_law_rules","_law_at","_law_text_here","_law_costs","_law_due_here","_law_twos","_law_tops","_law_cost_here","_law_deeds","_law_row","_law_fewer","_law_found"] ["_law_script"] (YK YA4):=⟨Z,Z,Z,by decide +kernel,Z,by decide +kernel,by decide +kernel⟩
theorem ok_law {f:Addr}{fd:FuncData} (F:Fun K "law" "law" YA4 f fd) (T:Txt K mg C) (a_:Zx P w K mg CX0 2 "_law_mixed" ["_law_script","_law_k"] (YFM K)) (cY:Zx P w K mg CX0 1 "_law_names" ["_law_cell"] (YIb)) (cZ:Zx P w K mg CX0 1 "_law_signs" ["_law_cell"] (YIa)) (dH:Zx P w K mg CX0 3 "_law_text" ["_law_script","_law_signs_here"] (YGr K)) (gK:Zx P w K mg CX0 1 "_law_due" ["_law_signs_here","_law_sign","_law_costs"] (YIc)) (jC:Zx P w K mg (CXo P w) 10 "mended" ["grammar","text","costs"] (YDW C.Barren C.TooGreat)) (dO:Zx P w K mg (CXo P w) 9 "tolls" ["grammar","text","costs"] (YFJ)) (dI:Zx P w K mg CX0 1 "_law_done" ["_law_signs_here","_law_deeds","_law_costs"] (YGt)) (dJ:Zx P w K mg CX0 1 "_law_cost" ["_law_cell"] (YGq)) (aM:Zx P w K mg CX0 1 "_law_cell_at" ["_law_script","_law_k"] (YHG K)):Yw P w K mg base CX0 11 f fd ["_law_script"] (YFn K):=by
 obtain⟨kI,jT,bO,bQ,bR,bT⟩:=a_.ok;obtain⟨tZ,sE,kJ,kW,kY,kZ⟩:=cY.ok;obtain⟨t7,sG,k_,lg,lq,lu⟩:=cZ.ok;obtain⟨ux,t8,lZ,l_,mj,mq⟩:=dH.ok;obtain⟨u6,uy,nY,nZ,n6,n8⟩:=gK.ok;obtain⟨wJ,vO,rM,rN,rO,rP⟩:=jC.ok;obtain⟨tY,rH,kh,kj,km,kE⟩:=dO.ok;obtain⟨uz,t_,my,mz,mC,mD⟩:=dI.ok;obtain⟨uA,uc,mF,mG,mH,mJ⟩:=dJ.ok;obtain⟨jB,jg,cH,cI,cJ,cL⟩:=aM.ok;refine F.ok ZW (λvs H Q E h=>?_) (λaO A outer s H vs Q E hr h=>?_)
 ·cases h;subst_vars;rfl
 ·obtain⟨a,ns,rfl,hS,hn,hp,q⟩:=h;have hu:=Zw hr;have hU:=hr.units;refine qex ?_;refine⟨_,(YE ⟨(YQ (i:=1) ZW.nd rfl (Or.inl rfl) (Ye (bO base) (hr.mono (by decide)) (by rfl) bQ bR bT .nil Yj (YA (pv 0) (YA YB YD))))⟩
   (YE ⟨(YQ (i:=2) ZW.nd rfl (Or.inl rfl) (Ye (kJ base) (hr.mono (by decide)) (by rfl) kW kY kZ .nil Yj (YA (Ye (bO base) (hr.mono (by decide)) (by rfl) bQ bR bT .nil Yj (YA (pv 0) (YA YB YD))) YD)))⟩
   (YE ⟨(YQ (i:=3) ZW.nd rfl (Or.inl rfl) (YM (YX K rfl) (pv 2) (YI ZA (YI ZQ (pv 1) YB) YB) (λ_ _=>rfl)))⟩
   (YE ⟨(YQ (i:=4) ZW.nd rfl (Or.inl rfl) (Ye (k_ base) (hr.mono (by decide)) (by rfl) lg lq lu .nil Yj (YA (Ye (bO base) (hr.mono (by decide)) (by rfl) bQ bR bT .nil Yj (YA (pv 0) (YA YB YD))) YD)))⟩
   (YE ⟨(YQ (i:=5) ZW.nd rfl (Or.inl rfl) (YI JI Y0 (YM (YX K rfl) (pv 4) YB (λ_ _=>rfl))))⟩
   (YE ⟨(YQ (i:=6) ZW.nd rfl (Or.inl rfl) (Yx (YA (pv 3) (YA (YM (YX K rfl) (ZH (YA (Yx (YA (pv 5) (YA (pv 3) YD))) (YA (Yx (YA (pv 3) (YA (pv 5) YD))) YD))) (YI ZA (pv 1) YB) (λ_ _=>rfl)) (YA (YI ZA (YI ZQ (pv 1) YB) YB) YD)))))⟩
   (YE ⟨(YQ (i:=7) ZW.nd rfl (Or.inl rfl) (ZH (YA (pv 6) (YA (Yx (YA (pv 3) (YA (Yx (YA (pv 5) YD)) (YA (YI ZA (YI ZQ (pv 1) YB) YB) YD)))) YD))))⟩
   (YE ⟨(YQ (i:=8) ZW.nd rfl (Or.inl rfl) (YI ZA (YI ZQ (pv 1) YB) YB))⟩
   (YE ⟨(Y1 (Yb XA (pv 8) YB (Yc _)) (YG (Y6 (YHz K rfl YLT PySem.F.slot_list_reverse PySem.F.type_list_reverse YG9 (pv 7)))) Yd)⟩
   (YE ⟨(YQ (i:=9) ZW.nd rfl (Or.inl rfl) (Ye (lZ base) (hr.mono (by decide)) (by rfl) l_ mj mq .nil Yj (YA (pv 0) (YA (pv 4) YD))))⟩
   (YE ⟨(YQ (i:=10) ZW.nd rfl (Or.inl rfl) (Xq (YCy K rfl) (by rfl) T.ji YMO (YA (Z2 (N:=["_law_k","_law_script"]) (ρ:=[none,some 0]) rfl (Yi.closes ["_law_script","_law_way","_law_names_here","_law_name","_law_signs_here","_law_part","_law_more","_law_rules","_law_at","_law_text_here","_law_costs","_law_due_here","_law_twos","_law_tops","_law_cost_here","_law_deeds","_law_row","_law_fewer","_law_found"] (YK YA4).names rfl rfl rfl rfl (by decide +kernel) (by decide +kernel) (λx h=>XB h) (by decide +kernel) rfl (by decide +kernel)) (JU K rfl (ZH (YA YB (YA YB (YA YB YD))))) (λ_ _ _ _ _=>(YU (i:=0) XR rfl (Or.inl rfl) (.inr rfl))) (λ_ _ _ _ _=>Zs) (λ_ _ _ _ _=>(Ye (mF base) (hr.mono (by decide)) (by rfl) mG mH mJ .nil Yj (YA (Ye (cH base) (hr.mono (by decide)) (by rfl) cI cJ cL .nil Yj (YA (pv 1) (YA (pv 0) YD))) YD)))) YD)))⟩
   (YE ⟨(YQ (i:=11) ZW.nd rfl (Or.inl rfl) (Ye (nY base) (hr.mono (by decide)) (by rfl) nZ n6 n8 .nil Yj (YA (pv 9) (YA (YM (YX K rfl) (pv 4) YB (λ_ _=>rfl)) (YA (pv 10) YD)))))⟩
   (YE ⟨(YQ (i:=12) ZW.nd rfl (Or.inl rfl) (Xq YIo (by rfl) T.uo PyProof.Rows.Boot.«int» (YA (JS (J4 XA (YI ZA (YI ZQ (pv 1) YB) YB) YB (Yc _)) (Jx (J4 op_gt (YM (YN K rfl) (pv 10) YB (λ_ _=>rfl)) YB (Yc _)))) YD)))⟩
   (YE ⟨(YQ (i:=13) ZW.nd rfl (Or.inl rfl) (YI ZA (YI ZQ (pv 1) YB) YB))⟩
   (YE ⟨(YQ (i:=7) ZW.nd rfl (Or.inl rfl) (YI YEy (pv 7) (YI YBr (ZH (YA (Yx (YA (pv 3) (YA (Yx (YA (pv 5) (YA (pv 5) YD))) (YA YB YD)))) YD)) (pv 12))))⟩
   (YE ⟨(YQ (i:=7) ZW.nd rfl (Or.inl rfl) (YI YEy (YI YBr (ZH (YA (Yx (YA (YM (YX K rfl) (pv 2) (YI ZA (YI Yh (YI ZQ (pv 1) YB) YB) YB) (λ_ _=>rfl)) (YA (Yx (YA (pv 3) YD)) (YA YB YD)))) YD)) (pv 13)) (pv 7)))⟩
   (YE ⟨(YEo (Ye (rM base) (hr.mono (by decide)) (by rfl) rN rO rP .nil passX (YA (Xq (Xg K rfl) (by rfl) T.eZ YLu (YA (pv 7) YD)) (YA (pv 9) (YA (pv 10) YD)))) (Jl K rfl (n:=3) rfl (Yv (YU (i:=14) ZW.nd rfl (Or.inl rfl)) (Yv (YU (i:=15) ZW.nd rfl (Or.inl rfl)) (Yv (YU (i:=16) ZW.nd rfl (Or.inl rfl)) Jj)))))⟩
   (YE ⟨(YQ (i:=17) ZW.nd rfl (Or.inl rfl) (YI Zg (YM (YN K rfl) (pv 11) YB (λ_ _=>rfl)) (pv 12)))⟩
   (YE ⟨(Y1 (Yb (YAB K rfl hU) (Yx (YA (pv 14) (YA (YR (Yg K rfl) (by rfl) T.aL YK7 (YA (pv 16) YD)) YD))) (Yx (YA (YM (YN K rfl) (pv 11) YB (λ_ _=>rfl)) (YA (YI Yh (pv 17) (pv 13)) YD))) (Yc _)) (YG (YZ Jo)) Yd)⟩
   (YE ⟨(Y1 (Yb (YAB K rfl hU) (pv 16) (YI YEy (YI YEy (YI YBr (ZH (YA YB YD)) (pv 13)) (YI YBr (ZH (YA (YI Yh (pv 13) (pv 8)) YD)) (YI Zg (pv 17) YB))) (ZH (YA (YI Yh (pv 13) (YM (YX K rfl) (ZH (YA (YI Zg YB (pv 8)) (YA YB YD))) (pv 12) (λ_ _=>rfl))) YD))) (Yc _)) (YG (YZ Jo)) Yd)⟩
   (YE ⟨(Y1 (Yb (YAB K rfl hU) (Ye (my base) (hr.mono (by decide)) (by rfl) mz mC mD .nil Yj (YA (pv 9) (YA (pv 15) (YA (pv 10) YD)))) (ZH (YA (YI YC2 (YM (YX K rfl) (pv 4) YB (λ_ _=>rfl)) (YM (YN K rfl) (pv 11) YB (λ_ _=>rfl))) (YA (pv 14) YD))) (Yc _)) (YG (YZ Jo)) Yd)⟩
   (YE ⟨(YQ (i:=18) ZW.nd rfl (Or.inl rfl) (Ye (kh base) (hr.mono (by decide)) (by rfl) kj km kE .nil passX (YA (Xq (Xg K rfl) (by rfl) T.eZ YLu (YA (pv 7) YD)) (YA (pv 9) (YA (pv 10) YD)))))⟩
   (YE ⟨(Y1 (Yb (YAB K rfl hU) (YBQ hu (pv 18) (Yx (YA (YM (YN K rfl) (YM (YX K rfl) (pv 7) YB (λ_ _=>rfl)) YB (λ_ _=>rfl)) (YA YB (YA (YR Yo (by rfl) T.aL YK7 (YA (pv 9) YD)) YD)))) ⟨Z,Z,Z,Z⟩) (Yx (YA (YM (YN K rfl) (pv 11) YB (λ_ _=>rfl)) (YA (YI Yh (pv 17) (pv 13)) YD))) (Yc _)) (YG (YZ Jo)) Yd)⟩
   (Y7 ⟨(YZ (J4 (YBA K rfl hU) (YBQ hu (pv 18) (Yx (YA (pv 3) (YA YB (YA (YR Yo (by rfl) T.aL YK7 (YA (pv 9) YD)) YD)))) ⟨Z,Z,Z,Z⟩) (Yx (YA (YM (YN K rfl) (pv 11) YB (λ_ _=>rfl)) (YA (pv 17) YD))) (Yc _)))⟩)))))))))))))))))))))))),?_⟩
  refine⟨_,Z,a,ns,0,Z,hS,by decide,by decide,λway w0 w1=>?_⟩;dsimp only[Yu];refine⟨_,Z,a,ns,1,Z,hS,by decide,by decide,λv1 jM jZ=>⟨v1,Z,jM,by lia,hp,λln nm H1 n4 nN nD s1 p1 pJ h1=>?_⟩⟩;dsimp only[Yu];obtain⟨iN,hiN,hN4⟩:∃i:Nat,way / 4 % 4=(i:Int)/\i < 4:=⟨(way / 4 % 4).toNat,by lia,by lia⟩;obtain⟨iT,hiT,hT4⟩:∃i:Nat,(way / 4 + 1) % 4=(i:Int)/\i < 4:=⟨((way / 4 + 1) % 4).toNat,by lia,by lia⟩;obtain⟨N,eN⟩:∃N,nm[iN]?=some N:=⟨_,YKx (by lia)⟩;obtain⟨Top,eT⟩:∃N,nm[iT]?=some N:=⟨_,YKx (by lia)⟩;have hNn:=nN N (YKw eN);have hTn:=nN Top (YKw eT);have hTN:Top≠N:=by
   have:iN≠iT:=by lia
   rcases YLz iN iT with hl |hl
   ·exactλz=>nD iN iT N Top hl hT4 eN eT z.symm
   ·exact nD iT iN Top N (by lia) hN4 eT eN
  have aN:atI (nm.map V.str) (way / 4 % 4)=some (.str N):=by rw[hiN];exact Yq (by rw[YK1,eN];rfl)
  have aT:atI (nm.map V.str) ((way / 4 + 1) % 4)=some (.str Top):=by rw[hiT];exact Yq (by rw[YK1,eT];rfl)
  refine⟨_,Z,_,Z,_,_,Z,Z,⟨by decide,by decide⟩,_,_,Z,Z,(show(0:Int) < 4 by decide),ln,_,_,_,Z,Z,SqL.of h1,aN,?_⟩;dsimp only[Yu];refine⟨_,Z,a,ns,5,Z,s1.seq hS,by decide,by decide,λv5 _ _=>⟨_,Z,p1,λlsg c1 c2 c3 H2 g1 g2 g3 s2 p2 Rm h2=>?_⟩⟩;dsimp only[Yu];refine⟨_,Z,lsg,_,0,_,Z,Z,SqL.of h2,Z,"'",_,Z,Z,YF (by show 1 + 1<=1000;decide),?_⟩;dsimp only[Yu];have hpP:=YI6 g1;have hpQ:=YHi c1;have hpS:=YHj c1;obtain⟨p,ep⟩:∃p,("'":Str) ++ ⟨#[c1]⟩=p:=⟨_,Z⟩;rw[ep]at hpP hpQ hpS ⊢;refine⟨_,Z,_,Z,_,Z,YF (by show 2<=1000;decide),λt1 w6=>?_⟩;have k1:=YJ.upd (o:=.tup [.str p,.str N]) w6;refine⟨_,Z,_,Z,YF (by show 2<=1000;decide),λt2 mZ=>?_⟩;have k2:=YJ.upd (o:=.tup [.str N,.str p]) mZ;refine⟨YF (by show 2<=1000;decide),λl3 hl3=>?_⟩;have k3:=YJ.upd (o:=.lst [.ref t1,.ref t2]) hl3;obtain⟨pm,tq,hpm,apm,QL⟩:∃(pm:List Str) (tq:Addr),(pm=[p,N]\/pm=[N,p])/\atI [V.ref t1,.ref t2] (way % 2)=some (.ref tq)/\upd (upd (upd H2 t1 (.tup [.str p,.str N])) t2 (.tup [.str N,.str p])) l3 (.lst [.ref t1,.ref t2]) tq=some (.tup (pm.map V.str)):=by
   by_cases h2':way % 2=1
   ·exact⟨[N,p],t2,.inr rfl,by rw[h2'];rfl,k3 _ _ YC⟩
   ·exact⟨[p,N],t1,.inl rfl,by rw[show way % 2=0 by lia];rfl,k3 _ _ (k2 _ _ YC)⟩
  have k4:=k1.trans (k2.trans k3);have q4:YL (upd (upd (upd H2 t1 (.tup [.str p,.str N])) t2 (.tup [.str N,.str p])) l3 (.lst [.ref t1,.ref t2])):=((p2.upd rfl).upd rfl).upd rfl;have l4:upd (upd (upd H2 t1 (.tup [.str p,.str N])) t2 (.tup [.str N,.str p])) l3 (.lst [.ref t1,.ref t2]) l3=some (.lst [.ref t1,.ref t2]):=YC;revert QL k4 q4 l4;generalize upd (upd (upd H2 t1 (.tup [.str p,.str N])) t2 (.tup [.str N,.str p])) l3 (.lst [.ref t1,.ref t2])=H3;intro QL k4 q4 l4;refine⟨_,Z,_,_,Z,Z,(show(0:Int) < 2 by decide),l3,_,_,_,Z,Z,SqL.of l4,apm,_,Z,_,_,Z,Z,⟨by decide,by decide⟩,_,_,Z,Z,(show(0:Int) < 3 by decide),YF (by show 3<=1000;decide),λtm Ac=>?_⟩;dsimp only[Yu];obtain⟨W1,eW1,W10,W11⟩:∃W1:Int,way / 16 % 3=W1/\0<=W1/\W1<=10 ^ 60:=⟨_,Z,YLw _ (by decide),YL0 (YMK (YL6 _ (by decide))) (by decide)⟩;rw[eW1];have k5:=YJ.upd (o:=.tup [.str N,.ref tq,.int W1]) Ac;have m5:Den (upd H3 tm (.tup [.str N,.ref tq,.int W1])) (.ref tm) (ZF (N,pm,W1)):=YBj YC (k5 _ _ QL);have q5:YL (upd H3 tm (.tup [.str N,.ref tq,.int W1])):=q4.upd rfl;have k5:=k4.trans k5;revert k5 m5 q5;generalize upd H3 tm (.tup [.str N,.ref tq,.int W1])=H4;intro m5 q5 k5;refine⟨_,Z,_,Z,_,Z,YF (by show 1<=1000;decide),λt3 Ad=>?_⟩;have k6:=YJ.upd (o:=.tup [.str p]) Ad;refine⟨_,Z,_,_,Z,Z,⟨by decide,by decide⟩,_,_,Z,Z,(show(0:Int) < 3 by decide),YF (by show 3<=1000;decide),λt4 ym=>?_⟩;obtain⟨W2,eW2,W20,W21⟩:∃W1:Int,way / 48 % 3=W1/\0<=W1/\W1<=10 ^ 60:=⟨_,Z,YLw _ (by decide),YL0 (YMK (YL6 _ (by decide))) (by decide)⟩;rw[eW2];have k7:=YJ.upd (o:=.tup [.str N,.ref t3,.int W2]) ym;have o7:Den (upd (upd H4 t3 (.tup [.str p])) t4 (.tup [.str N,.ref t3,.int W2])) (.ref t4) (ZF (N,[p],W2)):=YBj YC (k7 _ _ YC);have m7:=m5.same (k6.trans k7);have q7:YL (upd (upd H4 t3 (.tup [.str p])) t4 (.tup [.str N,.ref t3,.int W2])):=(q5.upd rfl).upd rfl;have k7:=k5.trans (k6.trans k7);revert k7 o7 m7 q7;generalize upd (upd H4 t3 (.tup [.str p])) t4 (.tup [.str N,.ref t3,.int W2])=H5;intro o7 m7 q7 k7;refine⟨YF (by show 2<=1000;decide),λlr hlr=>?_⟩;dsimp only[Yu];have k8:=YJ.upd (o:=.lst [.ref tm,.ref t4]) hlr;have o8:=o7.same k8;have m8:=m7.same k8;have l8:upd H5 lr (.lst [.ref tm,.ref t4]) lr=some (.lst [.ref tm,.ref t4]):=YC;have q8:YL (upd H5 lr (.lst [.ref tm,.ref t4])):=q7.upd rfl;have zY:H2 lr=none:=k7.free hlr;have k8:=k7.trans k8;revert k8 o8 m8 l8 q8;generalize upd H5 lr (.lst [.ref tm,.ref t4])=H6;intro o8 m8 l8 q8 k8;obtain⟨at_,eat⟩:=YKs (v:=way / 2);refine⟨_,Z,_,_,Z,Z,⟨by decide,by decide⟩,_,_,Z,Z,(show(0:Int) < 2 by decide),?_⟩;rw[eat];dsimp only[Yu];refine YDa (λσ' H'=>σ'=[some (.ref a),some (.int way),some (.ref ln),some (.str N),some (.ref lsg),some (.str p),some (.ref tm),some (.ref lr),some (.int (bN at_:Int)),none,none,none,none,none,none,none,none,none,none]/\H' lr=some (.lst (if at_=true then [.ref t4,.ref tm] else [.ref tm,.ref t4]))/\Ya H' (if at_=true then [.ref t4,.ref tm] else [.ref tm,.ref t4]) ((if at_=true then [(N,[p],W2),(N,pm,W1)] else [(N,pm,W1),(N,[p],W2)]).map ZF)/\YJ H2 H'/\YL H') ?_ λmK=>?_
  ·rintro σ' H7 ⟨rfl,l9,d9,k9,q9⟩;refine⟨_,Z,_,Z,a,lsg,ns,c1,c2,c3,Z,(s1.trans (s2.trans k9)).seq hS,k9 _ _ h2,g1,g2,g3,q9,λcs H8 n16 n26 ncw ngd QM Ae=>?_⟩;dsimp only[Yu];obtain⟨t,et⟩:∃t:Str,⟨cs.toArray⟩=t:=⟨_,Z⟩;have etl:t.cps.toList=cs:=by rw[<-et]
   have hl:t.cps.toList.length=t.length:=YLK;have hlc:t.length=cs.length:=by rw[<-hl,etl]
   have zb:Jn t=true:=by
    unfold Jn;rw[YLK]at hl;rw[YK2 (show t.cps.size<=60 by lia),etl,YLb.mpr ngd];rfl
   rw[et];have hcw:cw (sgn p) t.cps.toList<=8:=by rw[hpS,etl];exact ncw
   have Af:=k9.trans QM;refine⟨YF (by show 3<=1000;decide),λl0 hl0=>?_⟩;have j1:=YJ.upd (o:=.lst [.int 2,.int 3,.int 4]) hl0;have jp1:YL (upd H8 l0 (.lst [.int 2,.int 3,.int 4])):=Ae.upd rfl;have yr:upd H8 l0 (.lst [.int 2,.int 3,.int 4]) l0=some (.lst [.int 2,.int 3,.int 4]):=YC;revert j1 jp1 yr;generalize upd H8 l0 (.lst [.int 2,.int 3,.int 4])=H9;intro j1 jp1 yr;have sS:=(s1.trans (s2.trans (Af.trans j1))).seq hS;refine⟨l0,Z,⟨_,SqL.of yr⟩,λlc zZ=>?_⟩;refine Zi (n:=3) 0 (λk y _=>∃z:Int,y=.int z/\(0<=z/\z<=10 ^ 60)) (YCz (SqL.of (K:=K) yr)) (λ_ _ _ _ _ h=>h) jp1 zZ (show 0 < 2 by decide) (YF (by decide)) (λτ'=>τ'[1]?=some (some (.ref a))) rfl (λτ' v h=>by rw[List.getElem?_set_ne (by decide)];exact h) ?_ ?_
   ·intro τ' k y H' R hτ1 hτ hit hk hs hp' lK hR;obtain⟨c,c0,rfl⟩:∃c:Int,0<=c/\y=.int c:=by
     have hm:=YKw hit;simp only[YLB,YLj,or_false]at hm;rcases hm with rfl |rfl |rfl
     ·exact⟨2,by decide,Z⟩
     ·exact⟨3,by decide,Z⟩
     ·exact⟨4,by decide,Z⟩
    exact⟨_,hτ1,_,hτ,a,ns,c,Z,hs.seq sS,c0,λv=>⟨v,Z,λz z0 z1=>hR _ _ (YJ.refl _) hp' ⟨z,Z,z0,z1⟩⟩⟩
   intro ys H10 hy hP yO WY h10;obtain⟨x,y,z,rfl⟩:∃x y z,ys=[x,y,z]:=by
    match ys,hy with
    |[x,y,z],_=>exact⟨x,y,z,Z⟩
   obtain⟨ca,rfl,ha⟩:=hP 0 x rfl;obtain⟨cb,rfl,hb⟩:=hP 1 y rfl;obtain⟨cc,rfl,hc⟩:=hP 2 z rfl;refine⟨lc,_,Z,.inl ⟨SqL.of h10,λct z6=>?_⟩⟩;dsimp only[Yu];have j2:=YJ.upd (o:=.tup [.int ca,.int cb,.int cc]) z6;have jp2:YL (upd H10 ct (.tup [.int ca,.int cb,.int cc])):=WY.upd rfl;have hct:upd H10 ct (.tup [.int ca,.int cb,.int cc]) ct=some (.tup [.int ca,.int cb,.int cc]):=YC;have wj:=QM.trans (j1.trans (yO.trans j2));revert j2 jp2 hct wj;generalize upd H10 ct (.tup [.int ca,.int cb,.int cc])=H11;intro j2 jp2 hct wj;have QQ:=k9.trans wj;refine⟨_,Z,_,Z,lsg,_,0,_,Z,Z,SqL.of (QQ _ _ h2),Z,_,Z,t,c1,ct,ca,cb,cc,Z,by lia,hct,hb,hc,jp2,λud H12 yt Ag W4=>?_⟩;dsimp only[Yu];rw[<-hpS]at W4;refine YDa (λσ' H'=>H'=H12/\∃two:Bool,(two=true->cb≠0)/\σ'=[some (.ref a),some (.int way),some (.ref ln),some (.str N),some (.ref lsg),some (.str p),some (.ref tm),some (.ref lr),some (.int (bN at_:Int)),some (.str t),some (.ref ct),some (.ref ud),some (.int (bN two:Int)),none,none,none,none,none,none]) ?_ λmK=>?_
   ·rintro σ' H' ⟨rfl,two,h2b,rfl⟩;have X:P77 N p Top pm W1 W2 two t ca cb cc:=⟨hNn,hTn,hTN,hpP,hpQ,hpm,⟨W10,W11⟩,⟨W20,W21⟩,zb,by lia,by lia,hcw,ha,hb,hc,h2b⟩;obtain⟨tp,etp⟩:=YKs (v:=way / 288);refine⟨_,Z,_,_,Z,Z,⟨by decide,by decide⟩,_,_,Z,Z,(show(0:Int) < 2 by decide),?_⟩;rw[etp];dsimp only[Yu];have zg:=(d9.same wj).same yt;have QR:=yt _ _ (wj _ _ l9);have W5:=QQ.trans yt;have wK:=yt _ _ hct;clear QQ wj QM j1 yO j2 jp1 yr h10 WY jp2;refine⟨_,Z,_,Z,_,Z,_,Z,YF (by show 2<=1000;decide),λt5 Ah=>?_⟩;have i1:=YJ.upd (o:=.tup [.str p,.str p]) Ah;refine⟨YF (by show 3<=1000;decide),λt6 Ai=>?_⟩;have i2:=YJ.upd (o:=.tup [.str N,.ref t5,.int 0]) Ai;have r6:Den (upd (upd H' t5 (.tup [.str p,.str p])) t6 (.tup [.str N,.ref t5,.int 0])) (.ref t6) (ZF (N,[p,p],0)):=YBj YC (i2 _ _ YC);refine⟨YF (by show 1<=1000;decide),λl7 Aj=>?_⟩;have i3:=YJ.upd (o:=.lst [.ref t6]) Aj;have r7:=r6.same i3;have vz:upd (upd (upd H' t5 (.tup [.str p,.str p])) t6 (.tup [.str N,.ref t5,.int 0])) l7 (.lst [.ref t6]) l7=some (.lst [.ref t6]):=YC;have i4:=i1.trans (i2.trans i3);have vA:YL (upd (upd (upd H' t5 (.tup [.str p,.str p])) t6 (.tup [.str N,.ref t5,.int 0])) l7 (.lst [.ref t6])):=((Ag.upd rfl).upd rfl).upd rfl;clear i1 i2 i3 r6;revert r7 vz i4 vA;generalize upd (upd (upd H' t5 (.tup [.str p,.str p])) t6 (.tup [.str N,.ref t5,.int 0])) l7 (.lst [.ref t6])=H13;intro r7 vz i4 vA;have QH:bN two<=1:=by unfold bN;split <;> lia
    refine⟨_,Z,l7,_,_,Z,Z,vz,by lia,by lia,by rw[sizeLine_eq];show 1 * ((bN two:Nat):Int).toNat<=_;lia,λyu Ak=>?_⟩;rw[YHk];have i5:=YJ.upd (o:=.lst (if two=true then [.ref t6] else [])) Ak;have vB:upd H13 yu (.lst (if two=true then [.ref t6] else [])) yu=some (.lst (if two=true then [.ref t6] else [])):=YC;have r8:=r7.same i5;have i6:=i4.trans i5;have q6:YL (upd H13 yu (.lst (if two=true then [.ref t6] else []))):=vA.upd rfl;clear i5 i4;revert vB r8 i6 q6;generalize upd H13 yu (.lst (if two=true then [.ref t6] else []))=H14;intro vB r8 i6 q6;refine⟨lr,yu,_,_,Z,Z,i6 _ _ QR,vB,?_,λwu wZ=>?_⟩
    ·rw[sizeLine_eq];cases at_ <;> cases two <;> simp
    dsimp only[Yu];have i7:=YJ.upd (o:=.lst ((if at_=true then [V.ref t4,.ref tm] else [.ref tm,.ref t4]) ++ (if two=true then [.ref t6] else []))) wZ;have e9:Ya (upd H14 wu (.lst ((if at_=true then [V.ref t4,.ref tm] else [.ref tm,.ref t4]) ++ (if two=true then [.ref t6] else [])))) ((if at_=true then [V.ref t4,.ref tm] else [.ref tm,.ref t4]) ++ (if two=true then [.ref t6] else [])) (((if at_=true then [(N,[p],W2),(N,pm,W1)] else [(N,pm,W1),(N,[p],W2)]) ++ (if two=true then [(N,[p,p],0)] else [])).map ZF):=by
     rw[YLE];refine((zg.same i6).same i7).append ?_;cases two with
     |true=>exact .cons (r8.same i7) .nil
     |false=>exact .nil
    have QT:YL (upd H14 wu (.lst ((if at_=true then [V.ref t4,.ref tm] else [.ref tm,.ref t4]) ++ (if two=true then [.ref t6] else [])))):=q6.upd rfl;have vC:upd H14 wu (.lst ((if at_=true then [V.ref t4,.ref tm] else [.ref tm,.ref t4]) ++ (if two=true then [.ref t6] else []))) wu=some (.lst ((if at_=true then [V.ref t4,.ref tm] else [.ref tm,.ref t4]) ++ (if two=true then [.ref t6] else []))):=YC;have i8:=i6.trans i7;clear i6 i7 r8 zg;revert e9 QT vC i8;generalize upd H14 wu (.lst ((if at_=true then [V.ref t4,.ref tm] else [.ref tm,.ref t4]) ++ (if two=true then [.ref t6] else [])))=H15;generalize (if at_=true then [V.ref t4,.ref tm] else [.ref tm,.ref t4]) ++ (if two=true then [.ref t6] else [])=uh;intro e9 QT vC i8;have xl9:uh.length<=3:=by
     rw[e9.len,YKu,YK5];cases at_ <;> cases two <;> simp
    have Am:=W5.trans i8;refine⟨_,Z,_,Z,_,_,Z,Z,⟨by decide,by decide⟩,_,_,Z,Z,_,_,Z,Z,(show(0:Int) < 4 by decide),ln,_,_,_,Z,Z,SqL.of ((s2.trans Am) _ _ h1),aT,_,Z,YF (by show 1<=1000;decide),λul z7=>?_⟩;have i1:=YJ.upd (o:=.tup [.str N]) z7;refine⟨YF (by show 3<=1000;decide),λjj z8=>?_⟩;have i2:=YJ.upd (o:=.tup [.str Top,.ref ul,.int 1]) z8;have r6:Den (upd (upd H15 ul (.tup [.str N])) jj (.tup [.str Top,.ref ul,.int 1])) (.ref jj) (ZF (Top,[N],1)):=YBj YC (i2 _ _ YC);refine⟨YF (by show 1<=1000;decide),λrZ z9=>?_⟩;have i3:=YJ.upd (o:=.lst [.ref jj]) z9;have r7:=r6.same i3;have vz:upd (upd (upd H15 ul (.tup [.str N])) jj (.tup [.str Top,.ref ul,.int 1])) rZ (.lst [.ref jj]) rZ=some (.lst [.ref jj]):=YC;have i4:=i1.trans (i2.trans i3);have vA:YL (upd (upd (upd H15 ul (.tup [.str N])) jj (.tup [.str Top,.ref ul,.int 1])) rZ (.lst [.ref jj])):=((QT.upd rfl).upd rfl).upd rfl;clear i1 i2 i3 r6;revert r7 vz i4 vA;generalize upd (upd (upd H15 ul (.tup [.str N])) jj (.tup [.str Top,.ref ul,.int 1])) rZ (.lst [.ref jj])=H16;intro r7 vz i4 vA;have hbt:bN tp<=1:=by unfold bN;split <;> lia
    refine⟨_,Z,rZ,_,_,Z,Z,vz,by lia,by lia,by rw[sizeLine_eq];show 1 * ((bN tp:Nat):Int).toNat<=_;lia,λvD z_=>?_⟩;rw[YHk];have i5:=YJ.upd (o:=.lst (if tp=true then [.ref jj] else [])) z_;have vG:upd H16 vD (.lst (if tp=true then [.ref jj] else [])) vD=some (.lst (if tp=true then [.ref jj] else [])):=YC;have r8:=r7.same i5;have i6:=i4.trans i5;have QV:YL (upd H16 vD (.lst (if tp=true then [.ref jj] else []))):=vA.upd rfl;clear i5 i4;revert vG r8 i6 QV;generalize upd H16 vD (.lst (if tp=true then [.ref jj] else []))=H17;intro vG r8 i6 QV;refine⟨_,Z,vD,wu,_,_,Z,Z,vG,i6 _ _ vC,?_,λsZ Qa=>?_⟩
    ·rw[sizeLine_eq];have:(if tp=true then [V.ref jj] else []).length<=1:=by cases tp <;> simp
     lia
    dsimp only[Yu];have i7:=YJ.upd (o:=.lst ((if tp=true then [V.ref jj] else []) ++ uh)) Qa;have zj:Ya (upd H17 sZ (.lst ((if tp=true then [V.ref jj] else []) ++ uh))) ((if tp=true then [V.ref jj] else []) ++ uh) ((g77 N p Top pm W1 W2 at_ tp two).map ZF):=by
     unfold g77;rw[YLe,YLE];refine Ya.append ?_ ((e9.same i6).same i7);cases tp with
     |true=>exact .cons (r8.same i7) .nil
     |false=>exact .nil
    have vH:YL (upd H17 sZ (.lst ((if tp=true then [V.ref jj] else []) ++ uh))):=QV.upd rfl;have um:upd H17 sZ (.lst ((if tp=true then [V.ref jj] else []) ++ uh)) sZ=some (.lst ((if tp=true then [V.ref jj] else []) ++ uh)):=YC;have yw:=i8.trans (i6.trans i7);clear i6 i7 r8 e9;revert zj vH um yw;generalize upd H17 sZ (.lst ((if tp=true then [V.ref jj] else []) ++ uh))=H18;generalize (if tp=true then [V.ref jj] else []) ++ uh=yx;intro zj vH um yw;have yz:=yw _ _ wK;have QW:=yw _ _ W4;have QX:=(W5.trans yw) _ _ h2;refine⟨_,Z,sZ,_,Z,.inl (SqL.of um),λlh Ao=>?_⟩;have i9:=YJ.upd (o:=.lst yx) Ao;refine⟨_,Z,_,Z,mend77 (at_:=at_) (tp:=tp) X YC (zj.same i9) (i9 _ _ yz) (vH.upd rfl) λu ld lw ds H19 fa Aq Ar=>?_⟩;have ww:=i9.trans Aq;refine⟨u,_,Z,SqT.of fa.u,Z,_,_,Z,_,_,Z,_,_,Z,Z,?_⟩;dsimp only[Yu];obtain⟨e1,e2,e3,_⟩:=X.due;have told:=λ{T ps O F fs}=>@P77.told N p Top pm W1 W2 at_ tp two t ca cb cc T ps O F fs X
    have qK:=ww _ _ QW;have yC:=ww _ _ yz;have yD:=ww _ _ QX;have zm:=ww _ _ um;have zp:=zj.same ww;have fu:=fa.u;have fw:=fa.w;have fco:=fa.co;have fmk:=fa.mk_;have fd:=fa.d;obtain⟨D1,D2,eD⟩:∃D1 D2,Y9 ca cb cc (sgn p) t.cps.toList=(D1,D2):=⟨_,_,Z⟩;rw[eD]at e1 e2 e3 qK fu fw fco fmk told;dsimp only at e1 e2 e3 qK fu fw fco fmk told;have etw:tw two=bN two:=rfl;rw[etw]at told;have h1D:bN two + 1<=D2:=by
     cases two with
     |true=>exact e2 rfl
     |false=>exact e1
    obtain⟨fe,efe⟩:∃fe:Nat,D2 - bN two=fe:=⟨_,Z⟩;have hfe:1<=fe:=by lia
    have rlen:(YAL D2 at_ tp two).length=fe + bN tp:=by rw[YJS h1D,efe]
    rw[efe]at told;rw[eD];dsimp only;refine⟨_,Z,ud,_,1,_,Z,Z,SqT.of qK,Z,_,Z,_,_,Z,Z,?_⟩;rw[show(D2:Int) - (bN two:Int)=((fe:Nat):Int) by lia];dsimp only[Yu];refine⟨_,Z,_,Z,lw,_,Z,.inl (SqL.of fw),YF (by show 2<=1000;decide),λta Av=>?_⟩;rw[YKu,rlen];have b1:=YJ.upd (o:=.tup [.int D1,.int ((fe + bN tp:Nat):Int)]) Av;refine⟨_,Z,ud,_,0,_,Z,Z,SqT.of (b1 _ _ qK),Z,_,Z,_,Z,_,_,Z,Z,YF (by show 2<=1000;decide),λtb Aw=>?_⟩;rw[show((fe:Nat):Int) + (bN tp:Int)=((fe + bN tp:Nat):Int) by lia];have b2:=YJ.upd (o:=.tup [.int D1,.int ((fe + bN tp:Nat):Int)]) Aw;refine⟨_,_,.tup (b2 _ _ YC) (.cons (.int _) (.cons (.int _) .nil)),.tup YC (.cons (.int _) (.cons (.int _) .nil)),Jc,Jc,YBi,_,Z,?_⟩;rw[Jr _ Jc];refine Y3 ?_;dsimp only[JT];have b3:=b1.trans b2;have yU:YL (upd (upd H19 ta (.tup [.int D1,.int ((fe + bN tp:Nat):Int)])) tb (.tup [.int D1,.int ((fe + bN tp:Nat):Int)])):=(Ar.upd rfl).upd rfl;clear b1 b2;revert b3 yU;generalize upd (upd H19 ta (.tup [.int D1,.int ((fe + bN tp:Nat):Int)])) tb (.tup [.int D1,.int ((fe + bN tp:Nat):Int)])=H20;intro b3 yU;have QZ:=b3 _ _ fw;have yE:DdAt H20 ld ds:=by
     obtain⟨vs,z1,z2⟩:=fd;exact⟨vs,b3 _ _ z1,z2.same b3⟩
    have i11:=ww.trans b3;have yF:=b3 _ _ qK;have yG:=b3 _ _ yC;have yH:=b3 _ _ yD;have zq:=b3 _ _ zm;have zr:=zp.same b3;clear b3 fw fd qK yC yD zm zp;refine⟨_,Z,YF (by show 1<=1000;decide),λa1 Ax=>?_⟩;have b1:=YJ.upd (o:=.lst [.int 0]) Ax;refine⟨_,Z,a1,_,_,Z,Z,YC,by lia,by lia,by rw[sizeLine_eq];show 1 * ((bN tp:Nat):Int).toNat<=_;lia,λa2 Ay=>?_⟩;rw[YHk];have b2:=YJ.upd (o:=.lst (if tp=true then [.int 0] else [])) Ay;refine⟨_,Z,_,Z,_,_,Z,Z,YF (by show 1<=1000;decide),λa3 Az=>?_⟩;have b3:=YJ.upd (o:=.lst [.int ((bN tp:Int) + (bN at_:Int))]) Az;refine⟨_,Z,_,_,Z,Z,a3,_,_,Z,Z,YC,by lia,by lia,by rw[sizeLine_eq];show 1 * ((fe:Int) - 1).toNat<=_;lia,λa4 A_=>?_⟩;rw[YDZ,show((fe:Int) - 1).toNat=fe - 1 by lia];have b4:=YJ.upd (o:=.lst (List.replicate (fe - 1) (.int ((bN tp:Int) + (bN at_:Int))))) A_;refine⟨a2,a4,_,_,Z,Z,b4 _ _ (b3 _ _ YC),YC,?_,λa5 vY=>?_⟩
    ·rw[sizeLine_eq,YLV];have:(if tp=true then [V.int 0] else []).length<=1:=by cases tp <;> simp
     lia
    have b5:=YJ.upd (o:=.lst ((if tp=true then [V.int 0] else []) ++ List.replicate (fe - 1) (.int ((bN tp:Int) + (bN at_:Int))))) vY;have b6:=b1.trans (b2.trans (b3.trans (b4.trans b5)));have h5:upd (upd (upd (upd (upd H20 a1 (.lst [.int 0])) a2 (.lst (if tp=true then [.int 0] else []))) a3 (.lst [.int ((bN tp:Int) + (bN at_:Int))])) a4 (.lst (List.replicate (fe - 1) (.int ((bN tp:Int) + (bN at_:Int)))))) a5 (.lst ((if tp=true then [V.int 0] else []) ++ List.replicate (fe - 1) (.int ((bN tp:Int) + (bN at_:Int))))) a5=some (.lst ((if tp=true then [V.int 0] else []) ++ List.replicate (fe - 1) (.int ((bN tp:Int) + (bN at_:Int))))):=YC;have Q0:YL (upd (upd (upd (upd (upd H20 a1 (.lst [.int 0])) a2 (.lst (if tp=true then [.int 0] else []))) a3 (.lst [.int ((bN tp:Int) + (bN at_:Int))])) a4 (.lst (List.replicate (fe - 1) (.int ((bN tp:Int) + (bN at_:Int)))))) a5 (.lst ((if tp=true then [V.int 0] else []) ++ List.replicate (fe - 1) (.int ((bN tp:Int) + (bN at_:Int)))))):=((((yU.upd rfl).upd rfl).upd rfl).upd rfl).upd rfl;clear b1 b2 b3 b4 b5;revert b6 h5 Q0;generalize upd (upd (upd (upd (upd H20 a1 (.lst [.int 0])) a2 (.lst (if tp=true then [.int 0] else []))) a3 (.lst [.int ((bN tp:Int) + (bN at_:Int))])) a4 (.lst (List.replicate (fe - 1) (.int ((bN tp:Int) + (bN at_:Int)))))) a5 (.lst ((if tp=true then [V.int 0] else []) ++ List.replicate (fe - 1) (.int ((bN tp:Int) + (bN at_:Int)))))=H21;intro b6 h5 Q0;refine⟨_,Z,_,Z,_,_,Z,Z,YF (by show 2<=1000;decide),λa6 Va=>?_⟩;have b1:=YJ.upd (o:=.lst [.int (1 - (bN at_:Int)),.int 2]) Va;have a6i:atI [V.int (1 - (bN at_:Int)),.int 2] (bN two:Int)=some (.int (if two=true then 2 else 1 - (bN at_:Int))):=by cases two <;> rfl
    refine⟨_,Z,a6,_,_,_,Z,Z,SqL.of YC,a6i,_,_,Z,Z,YF (by show 1<=1000;decide),λa7 Vb=>?_⟩;have b2:=YJ.upd (o:=.lst [.int ((bN tp:Int) + (if two=true then 2 else 1 - (bN at_:Int)))]) Vb;refine⟨a5,a7,_,_,Z,Z,b2 _ _ (b1 _ _ h5),YC,?_,λa8 Vc=>?_⟩
    ·rw[sizeLine_eq,YK5,YLV];have:(if tp=true then [V.int 0] else []).length<=1:=by cases tp <;> simp
     show _ + 1<=_
     lia
    have eL:(if tp=true then [V.int 0] else []) ++ List.replicate (fe - 1) (.int ((bN tp:Int) + (bN at_:Int))) ++ [.int ((bN tp:Int) + (if two=true then 2 else 1 - (bN at_:Int)))]=((YAL D2 at_ tp two).map λk:Nat=>(k:Int)).map V.int:=by
     unfold YAL;rw[etw,efe,YL2,YLE,YLE,List.map_replicate,YLe];have Vd:(if tp=true then [V.int 0] else [])=(if tp=true then [0] else []).map (V.int∘λk:Nat=>(k:Int)):=by cases tp <;> rfl
     have Ve:V.int ((bN tp:Int) + (bN at_:Int))=(V.int∘λk:Nat=>(k:Int)) (bN tp + bN at_):=by
      show _=V.int ((bN tp + bN at_:Nat):Int);rw[Int.natCast_add]
     have Vf:V.int ((bN tp:Int) + (if two=true then 2 else 1 - (bN at_:Int)))=(V.int∘λk:Nat=>(k:Int)) (if two=true then bN tp + 2 else bN tp + (1 - bN at_)):=by cases two <;> cases tp <;> cases at_ <;> rfl
     rw[Vd,Ve,Vf];rfl
    rw[eL];have eR:(YAL D2 at_ tp two).map nV=((YAL D2 at_ tp two).map λk:Nat=>(k:Int)).map V.int:=by
     rw[YL2];rfl
    have b3:=YJ.upd (o:=.lst (((YAL D2 at_ tp two).map λk:Nat=>(k:Int)).map V.int)) Vc;have vI:=b3 _ _ (b2 _ _ (b1 _ _ (b6 _ _ QZ)));rw[eR]at vI;refine⟨_,_,.lst (.inl vI) (Ya.ints _),.lst (.inl YC) (Ya.ints _),YE4 _,YE4 _,YKH _,_,Z,?_⟩;rw[Jr _ (YE4 _)];refine Y3 ?_;dsimp only[JT];have b4:=b6.trans (b1.trans (b2.trans b3));have Q3:=((Q0.upd (a:=a6) (o:=.lst [.int (1 - (bN at_:Int)),.int 2]) rfl).upd (a:=a7) (o:=.lst [.int ((bN tp:Int) + (if two=true then 2 else 1 - (bN at_:Int)))]) rfl).upd (a:=a8) (o:=.lst (((YAL D2 at_ tp two).map λk:Nat=>(k:Int)).map V.int)) rfl;clear b1 b2 b3 vI;revert b4 Q3;generalize upd (upd (upd H21 a6 (.lst [.int (1 - (bN at_:Int)),.int 2])) a7 (.lst [.int ((bN tp:Int) + (if two=true then 2 else 1 - (bN at_:Int)))])) a8 (.lst (((YAL D2 at_ tp two).map λk:Nat=>(k:Int)).map V.int))=H22;intro b4 Q3;have yI:DdAt H22 ld ds:=by
     obtain⟨vs,z1,z2⟩:=yE;exact⟨vs,b4 _ _ z1,z2.same b4⟩
    have yJ:=b4 _ _ yF;have yK:=b4 _ _ yG;have Q4:=b4 _ _ yH;have Q5:=b4 _ _ zq;have Q6:=zr.same b4;clear yE yF yG yH zq zr b6 h5;refine⟨_,Z,_,Z,_,Z,ld,ct,t,ds,ca,cb,cc,Z,yI,fa.ok,fa.dl,fa.tk,yK,Q3,λl2 H23 Q7 Vg Q8=>?_⟩;rw[fmk,fco]at Q8;have yL:=Q7 _ _ yJ;refine⟨_,Z,lsg,_,0,_,Z,Z,SqL.of (Q7 _ _ Q4),Z,_,Z,ud,_,1,_,Z,Z,SqT.of yL,Z,_,_,Z,Z,(show 1<=1000 by decide),by lia,by lia,_,Z,YF (by show 2<=1000;decide),λW6 Qc=>?_⟩;rw[YKt,<-hpS];have b1:=YJ.upd (o:=.lst [.str ⟨(List.replicate D2 (sgn p)).toArray⟩,.int D1]) Qc;refine⟨_,_,.lst (.inl (b1 _ _ Q8)) (.cons (.str _) (.cons (.int _) .nil)),.lst (.inl YC) (.cons (.str _) (.cons (.int _) .nil)),YDb,YDb,YJR,_,Z,?_⟩;rw[Jr _ YDb];refine Y3 ?_;dsimp only[JT];have b2:=Q7.trans b1;have Q9:YL (upd H23 W6 (.lst [.str ⟨(List.replicate D2 (sgn p)).toArray⟩,.int D1])):=Vg.upd rfl;clear b1 Q8 yL yI;revert b2 Q9;generalize upd H23 W6 (.lst [.str ⟨(List.replicate D2 (sgn p)).toArray⟩,.int D1])=H24;intro b2 Q9;have Q_:=b2 _ _ yJ;have Wa:=b2 _ _ yK;have zu:=b2 _ _ Q5;have zx:=Q6.same b2;refine⟨_,Z,sZ,_,Z,.inl (SqL.of zu),λVh Qd=>?_⟩;have b3:=YJ.upd (o:=.lst yx) Qd;have hg:=YHh (at_:=at_) (tp:=tp) (two:=two) X.hN X.hTn X.hp X.hpm X.h1 X.h2;refine⟨_,Z,_,Z,.ref Vh,.str t,ct,g77 N p Top pm W1 W2 at_ tp two,t,ca,cb,cc,Z,.lst (.inl YC) (zx.same b3),YC9 hg,hg,Z,zb,b3 _ _ Wa,ha,hb,hc,Q9.upd rfl,λd o kvs fs S ps O FF H25 Vi p25 hd fd W=>?_⟩;dsimp only[Yu];have b5:=b3.trans Vi;obtain⟨r0,rest0,Vj,Wb⟩:=YGw (N:=N) (p:=p) (Top:=Top) (pm:=pm) (w1:=W1) (w2:=W2) (at_:=at_) (tp:=tp) (two:=two);have Wb:r0.1=z77 N Top tp:=Wb;have Wc:=zx.same b5;obtain⟨tρ,pp,zc,htρ,_⟩:=YF2 Wc (show(g77 N p Top pm W1 W2 at_ tp two)[0]?=some r0 by rw[Vj];rfl);rw[Wb]at htρ;have yM:=b5 _ _ Q_;obtain⟨inN,inZ⟩:=X.inP W;have tld:=told W;have tln:t.length<=sizeLine:=YF (by lia);refine⟨_,Z,d,Z,.inr ⟨kvs,.inr ⟨o,hd⟩⟩,_,Z,sZ,_,0,_,Z,Z,SqL.of (b5 _ _ zu),zc,tρ,_,0,_,Z,Z,SqT.of htρ,Z,_,Z,t,Z,tln,YF (by show 3<=1000;decide),λty uf=>?_⟩;have c1:=YJ.upd (o:=.tup [.str (z77 N Top tp),.int 0,.int (t.length:Int)]) uf;obtain⟨tv,gt,za⟩:=W.dgetM (c1 _ _ hd) (fd.keep λ_ _ e=>c1 _ _ e) (n:=.part (z77 N Top tp) 0 t.length) YC ⟨inZ,YLS _,by rw[W.en];exact YKv _⟩;have e5:pr (YAe O FF (.part (z77 N Top tp) 0 t.length))=(D1,((fe + bN tp:Nat):Int)):=tld.1;rw[e5]at za;refine⟨_,gt,?_⟩;refine⟨_,Z,ud,_,0,_,Z,Z,SqT.of (c1 _ _ yM),Z,_,Z,_,Z,_,_,Z,Z,YF (by show 2<=1000;decide),λVk Qe=>?_⟩;rw[show((fe:Nat):Int) + (bN tp:Int)=((fe + bN tp:Nat):Int) by lia];have c2:=YJ.upd (o:=.tup [.int D1,.int ((fe + bN tp:Nat):Int)]) Qe;refine⟨_,_,.tup (c2 _ _ za) (.cons (.int _) (.cons (.int _) .nil)),.tup YC (.cons (.int _) (.cons (.int _) .nil)),Jc,Jc,YBi,_,Z,?_⟩;rw[Jr _ Jc];refine Y3 ?_;dsimp only[JT];have c3:=c1.trans c2;revert c3;generalize upd (upd H25 ty (.tup [.str (z77 N Top tp),.int 0,.int (t.length:Int)])) Vk (.tup [.int D1,.int ((fe + bN tp:Nat):Int)])=H26;intro c3;have Qf:=c3 _ _ hd;refine⟨_,Z,d,Z,.inr ⟨kvs,.inr ⟨o,Qf⟩⟩,_,Z,_,Z,t,Z,tln,YF (by show 3<=1000;decide),λtz Vl=>?_⟩;have c4:=c3.trans (YJ.upd (o:=.tup [.str N,.int 0,.int (t.length:Int)]) Vl);obtain⟨tv2,Vm,wL⟩:=W.dgetM (c4 _ _ hd) (fd.keep λ_ _ e=>c4 _ _ e) (n:=.part N 0 t.length) YC ⟨inN,YLS _,by rw[W.en];exact YKv _⟩;have e6:pr (YAe O FF (.part N 0 t.length))=(D1,((fe:Nat):Int)):=tld.2;rw[e6]at wL;refine⟨_,Vm,?_⟩;refine⟨_,Z,ud,_,0,_,Z,Z,SqT.of (c4 _ _ yM),Z,_,Z,YF (by show 2<=1000;decide),λtu Vn=>?_⟩;have c5:=YJ.upd (o:=.tup [.int D1,.int ((fe:Nat):Int)]) Vn;refine⟨_,_,.tup (c5 _ _ wL) (.cons (.int _) (.cons (.int _) .nil)),.tup YC (.cons (.int _) (.cons (.int _) .nil)),Jc,Jc,YBi,?_⟩;rw[Jr _ Jc];exact q _
   ·refine⟨_,Z,_,_,Z,Z,⟨by decide,by decide⟩,_,_,Z,Z,(show(0:Int) < 2 by decide),Z,_,Z,?_⟩
    by_cases wM:way / 144 % 2=1
    ·rw[YK2 (by rw[wM])];refine ZO ⟨_,Z,ct,_,1,_,Z,Z,SqT.of (yt _ _ hct),Z,_,_,Z,Z,.inr ⟨_,Z,?_⟩⟩;refine mK _ _ ⟨Z,decide (0 < cb),λz=>by have:=YLM z;lia,?_⟩;cases decide (0 < cb) <;> rfl
    ·rw[YK0 (λz=>wM (V.int.inj z))];exact Y3 (.inr ⟨_,Z,mK _ _ ⟨Z,false,nofun,Z⟩⟩)
  ·refine⟨_,Z,Z,_,Z,?_⟩;cases at_ with
   |true=>
    refine ZO ⟨_,Z,.inl ⟨Z,_,SqL.of l8⟩,lr,_,Z,Z,l8,?_⟩;refine mK _ _ ⟨Z,YC,?_,k8.put zY,q8.upd rfl⟩;have keep:∀{v:Addr}{r:Y4},Den H6 (.ref v) (ZF r)->Den (upd H6 lr (.lst [.ref tm,.ref t4].reverse)) (.ref v) (ZF r):=λ{v r} hD=>by
     obtain⟨t',q',e1,e2,e3⟩:=YGx hD;cases e1;exact YBj (by rw[YH (λz=>by rw[z,l8]at e2;cases e2)];exact e2) (by rw[YH (λz=>by rw[z,l8]at e3;cases e3)];exact e3)
    exact .cons (keep o8) (.cons (keep m8) .nil)
   |false=>exact Y3 (mK _ _ ⟨Z,l8,.cons m8 (.cons o8 .nil),k8,q8⟩)
end
theorem all_mk {l:PySem.W.OpenLaw}{w:World}{K:W.Frag}{h:Heap}{mg:Str->Option Value}{fa dM jD iZ ak au jE gM f0 f1 f2 f3 f4 f5 f6 f7 f8 f9 W7 W8 W9 W_ Ea Eb Ec Ed Ef Eg Eh Ei Ej Ek El Em En Eo Ep Er Es Et Eu Ew Ex Ey Ez EY Ra Rb Rc Rf Rg Rh Wd:Addr} (X:K.In h) (G:h.Ns mainGlobals mg) (Vo:mg "law"=some (.ref fa))
  {od an:Option Addr}{sl:Array (Option Value)}{oc kV dc pm cd ct:Value}{tFIRST_CODE tLAST_CODE tPERCENT_CODE tMOST_LETTERS tMOST_PARTS tMOST_RULES tMOST_SIGNS tMOST_NUMBERS:Tok}
  (nNoGrammar:PySem.W.nsIn K mainGlobals "NoGrammar"=some (some (.ref dM)))
  (nNoText:PySem.W.nsIn K mainGlobals "NoText"=some (some (.ref jD)))
  (nNoCosts:PySem.W.nsIn K mainGlobals "NoCosts"=some (some (.ref iZ)))
  (nToller:PySem.W.nsIn K mainGlobals "Toller"=some (some (.ref ak)))
  (nMending:PySem.W.nsIn K mainGlobals "Mending"=some (some (.ref au)))
  (nBarren:PySem.W.nsIn K mainGlobals "Barren"=some (some (.ref jE)))
  (nTooGreat:PySem.W.nsIn K mainGlobals "TooGreat"=some (some (.ref gM)))
  (d0:L2.Dn K "is_whole" f0)
  (l0:Ln K "is_whole" "is_whole" YBD f0)
  (d1:L2.Dn K "stands_in_texts" f1)
  (l1:Ln K "stands_in_texts" "stands_in_texts" JW f1)
  (d2:L2.Dn K "is_sign" f2)
  (l2:Ln K "is_sign" "is_sign" YB0 f2)
  (d3:L2.Dn K "is_name" f3)
  (l3:Ln K "is_name" "is_name" YB1 f3)
  (d4:L2.Dn K "is_part" f4)
  (l4:Ln K "is_part" "is_part" YB2 f4)
  (d5:L2.Dn K "is_worth" f5)
  (l5:Ln K "is_worth" "is_worth" YBE f5)
  (d6:L2.Dn K "are_parts" f6)
  (l6:Ln K "are_parts" "are_parts" YAZ f6)
  (d7:L2.Dn K "is_rule" f7)
  (l7:Ln K "is_rule" "is_rule" YB3 f7)
  (d8:L2.Dn K "is_grammar" f8)
  (l8:Ln K "is_grammar" "is_grammar" YAD f8)
  (d9:L2.Dn K "checked" f9)
  (l9:Ln K "checked" "checked" YB4 f9)
  (Vp:L2.Dn K "size_of_part" W7)
  (Vq:Ln K "size_of_part" "size_of_part" XJ W7)
  (Vr:L2.Dn K "size_of_rule" W8)
  (Vs:Ln K "size_of_rule" "size_of_rule" XL W8)
  (zg:L2.Dn K "least_sizes" W9)
  (QR:Ln K "least_sizes" "least_sizes" Xj W9)
  (Vt:L2.Dn K "is_text" W_)
  (vD:Ln K "is_text" "is_text" YB5 W_)
  (Vu:L2.Dn K "checked_text" Ea)
  (sZ:Ln K "checked_text" "checked_text" XI Ea)
  (Vv:L2.Dn K "is_cost" Eb)
  (Vw:Ln K "is_cost" "is_cost" YB6 Eb)
  (Vx:L2.Dn K "checked_costs" Ec)
  (Vy:Ln K "checked_costs" "checked_costs" J0 Ec)
  (Vz:An K ak "sign_toll" Ed)
  (VB:Ln K "sign_toll" "Toller.sign_toll" JK Ed)
  (VD:An K ak "sign_table" Ef)
  (VF:Ln K "sign_table" "Toller.sign_table" ZX Ef)
  (zp:An K ak "reach_of" Eg)
  (zm:Ln K "reach_of" "Toller.reach_of" JY Eg)
  (zr:An K ak "lay_out" Eh)
  (zq:Ln K "lay_out" "Toller.lay_out" Jh Eh)
  (VG:An K ak "__init__" Ei)
  (VH:Ln K "__init__" "Toller.__init__" JX Ei)
  (Q6:An K ak "inner_tolls" Ej)
  (Q5:Ln K "inner_tolls" "Toller.inner_tolls" Zz Ej)
  (VJ:An K ak "line_of" Ek)
  (VL:Ln K "line_of" "Toller.line_of" Ji Ek)
  (zx:An K ak "lower_head" El)
  (zu:Ln K "lower_head" "Toller.lower_head" Z9 El)
  (Wc:An K ak "take_span" Em)
  (VM:Ln K "take_span" "Toller.take_span" Zj Em)
  (VN:An K ak "take_all" En)
  (VP:Ln K "take_all" "Toller.take_all" JZ En)
  (VR:An K ak "told_tolls" Eo)
  (VV:Ln K "told_tolls" "Toller.told_tolls" JA Eo)
  (V0:L2.Dn K "tolls" Ep)
  (V1:Ln K "tolls" "tolls" YFF Ep)
  (V2:An K au "cut_signs" Er)
  (V3:Ln K "cut_signs" "Mending.cut_signs" JC Er)
  (V4:An K au "take_sign" Es)
  (V5:Ln K "take_sign" "Mending.take_sign" JD Es)
  (V6:An K au "rule_for" Et)
  (V7:Ln K "rule_for" "Mending.rule_for" JN Et)
  (V8:An K au "way_for" Eu)
  (V9:Ln K "way_for" "Mending.way_for" Ja Eu)
  (V_:An K au "go_down" Ew)
  (Ba:Ln K "go_down" "Mending.go_down" Jb Ew)
  (Bb:An K au "__init__" Ex)
  (Bc:Ln K "__init__" "Mending.__init__" JM Ex)
  (Bd:L2.Dn K "mended" Ey)
  (Be:Ln K "mended" "mended" YDU Ey)
  (Bf:L2.Dn K "_law_cell_at" Ez)
  (Bg:Ln K "_law_cell_at" "_law_cell_at" XQ Ez)
  (Bh:L2.Dn K "_law_mixed" EY)
  (Bj:Ln K "_law_mixed" "_law_mixed" YAG EY)
  (Bk:L2.Dn K "_law_signs" Ra)
  (Bl:Ln K "_law_signs" "_law_signs" Zm Ra)
  (Bm:L2.Dn K "_law_names" Rb)
  (Bo:Ln K "_law_names" "_law_names" Jd Rb)
  (Bp:L2.Dn K "_law_cost" Rc)
  (Bq:Ln K "_law_cost" "_law_cost" YAm Rc)
  (Br:L2.Dn K "_law_text" Rf)
  (Bs:Ln K "_law_text" "_law_text" YAn Rf)
  (Bt:L2.Dn K "_law_due" Rg)
  (Bu:Ln K "_law_due" "_law_due" YBN Rg)
  (Bv:L2.Dn K "_law_done" Rh)
  (Bw:Ln K "_law_done" "_law_done" YAo Rh)
  (Bx:PySem.W.nsIn K mainGlobals "law"=some (some (.ref Wd)))
  (By:K.lookup Wd=some ⟨oc,od,.func (PySem.W.fnOf "law" "law" (Jk YA4) (Z1 YA4) (YK YA4) .none kV dc pm an cd ct),sl⟩)
  (BJ:PySem.W.codeIn K cd "law"=true)
  (BK:PySem.W.keepIn K (.ref Wd)=true)
  (iFIRST_CODE:PySem.W.nsIn K mainGlobals "FIRST_CODE"=some (some (.int 32 tFIRST_CODE)))
  (iLAST_CODE:PySem.W.nsIn K mainGlobals "LAST_CODE"=some (some (.int 126 tLAST_CODE)))
  (iPERCENT_CODE:PySem.W.nsIn K mainGlobals "PERCENT_CODE"=some (some (.int 37 tPERCENT_CODE)))
  (iMOST_LETTERS:PySem.W.nsIn K mainGlobals "MOST_LETTERS"=some (some (.int 8 tMOST_LETTERS)))
  (iMOST_PARTS:PySem.W.nsIn K mainGlobals "MOST_PARTS"=some (some (.int 6 tMOST_PARTS)))
  (iMOST_RULES:PySem.W.nsIn K mainGlobals "MOST_RULES"=some (some (.int 60 tMOST_RULES)))
  (iMOST_SIGNS:PySem.W.nsIn K mainGlobals "MOST_SIGNS"=some (some (.int 60 tMOST_SIGNS)))
  (iMOST_NUMBERS:PySem.W.nsIn K mainGlobals "MOST_NUMBERS"=some (some (.int 1000 tMOST_NUMBERS)))
  (zisinstance:Zn K "isinstance")
  (zint:Zn K "int")
  (zbool:Zn K "bool")
  (zord:Zn K "ord")
  (zstr:Zn K "str")
  (zlen:Zn K "len")
  (zall:Zn K "all")
  (ztuple:Zn K "tuple")
  (zlist:Zn K "list")
  (zmin:Zn K "min")
  (zrange:Zn K "range")
  (zzip:Zn K "zip")
  (zenumerate:Zn K "enumerate")
  (zreversed:Zn K "reversed")
  (zdivmod:Zn K "divmod")
  (xNoGrammar:PySem.W.excIn K dM [.type "ValueError",.type "Exception",.type "BaseException",.type "object"] "ValueError.__new__"=true)
  (xNoText:PySem.W.excIn K jD [.type "ValueError",.type "Exception",.type "BaseException",.type "object"] "ValueError.__new__"=true)
  (xNoCosts:PySem.W.excIn K iZ [.type "ValueError",.type "Exception",.type "BaseException",.type "object"] "ValueError.__new__"=true)
  (xBarren:PySem.W.excIn K jE [.type "ValueError",.type "Exception",.type "BaseException",.type "object"] "ValueError.__new__"=true)
  (xTooGreat:PySem.W.excIn K gM [.type "ValueError",.type "Exception",.type "BaseException",.type "object"] "ValueError.__new__"=true)
  (pgToller:PySem.W.plainGet K ak Str.empty=true)
  (rQ:PySem.W.hasDictIn K ak=true)
  (poToller:PySem.W.plainOver K ak=true)
  (saToller:PySem.W.findIn K (.ref ak) "__setattr__"=some (some (.builtin "object.__setattr__")))
  (pgMending:PySem.W.plainGet K au Str.empty=true)
  (qC:PySem.W.hasDictIn K au=true)
  (poMending:PySem.W.plainOver K au=true)
  (saMending:PySem.W.findIn K (.ref au) "__setattr__"=some (some (.builtin "object.__setattr__")))
  (naToller_cut:On K ak "cut")
  (naToller_put:On K ak "put")
  (naToller_text:On K ak "text")
  (naToller_swap:On K ak "swap")
  (naToller_bare:On K ak "bare")
  (naToller_over:On K ak "over")
  (naToller_rules:On K ak "rules")
  (naToller_first:On K ak "first")
  (naMending_deeds:On K au "deeds")
  (naMending_text:On K au "text")
  (naMending_costs:On K au "costs")
  (naMending_known:On K au "known")
  (naMending_rules:On K au "rules")
  (naMending_row:On K au "row")
  (mkToller:PySem.W.makesIn K ak=true)
  (kcToller:PySem.W.keepIn K (.ref ak)=true)
  (mkMending:PySem.W.makesIn K au=true)
  (kcMending:PySem.W.keepIn K (.ref au)=true):
  ∃fd:FuncData,(∀(s:Shared) (v:Value),BindsTo s fd ⟨[v],[]⟩ [("_law_script",v)])/\∀base:Heap,K.In base->base.Ns mainGlobals mg->Yw l.prog w K mg base CX0 11 fa fd ["_law_script"] (YFn K):=by
 have e:=Vo.symm.trans (PySem.W.mg_of X G Bx);cases e;have m:=λ{x:Str}{v:Value} (h:PySem.W.nsIn K mainGlobals x=some (some v))=>PySem.W.mg_of X G h
 have n:=λ{x:Str}{f:Addr} (h:L2.Dn K x f)=>(PySem.W.mg_of X G h:mg x=some (.ref f))
 have z:=λ{x:Str} (h:Zn K x)=>PySem.W.mg_none_of X G h
 have T:Txt K mg ⟨dM,jD,iZ,ak,au,jE,gM,0⟩:=⟨z zisinstance,z zint,z zbool,z zord,z zstr,z zlen,z zall,z ztuple,z zlist,z zmin,z zrange,z zzip,z zenumerate,z zreversed,z zdivmod,⟨_,m iFIRST_CODE⟩,⟨_,m iLAST_CODE⟩,⟨_,m iPERCENT_CODE⟩,⟨_,m iMOST_LETTERS⟩,⟨_,m iMOST_PARTS⟩,⟨_,m iMOST_RULES⟩,⟨_,m iMOST_SIGNS⟩,⟨_,m iMOST_NUMBERS⟩,m nNoGrammar,m nNoText,m nNoCosts,m nToller,m nMending,m nBarren,m nTooGreat,xNoGrammar,xNoText,xNoCosts,xBarren,xTooGreat,⟨pgToller,rQ,poToller,saToller⟩,⟨pgMending,qC,poMending,saMending⟩,naToller_cut,naToller_put,naToller_text,naToller_swap,naToller_bare,naToller_over,naToller_rules,naToller_first,naMending_deeds,naMending_text,naMending_costs,naMending_known,naMending_rules,naMending_row⟩;have F44:=YJu (st:=YA4) By BJ BK;obtain⟨_,F0⟩:=l0.ex;have bW:=us l.prog w (n d0) F0 (λ_=>YGF F0 T) λ_ _ _ _ _ _=>bn 1 λ_=>rfl
 obtain⟨_,F1⟩:=l1.ex;have aF:=us l.prog w (n d1) F1 (λ_=>YBF F1 T) λ_ _ _ _ _ _=>bn 1 λ_=>rfl
 obtain⟨_,F2⟩:=l2.ex;have iy:=us l.prog w (n d2) F2 (λ_=>YHQ F2 T aF) λ_ _ _ _ _ _=>bn 1 λ_=>rfl
 obtain⟨_,F3⟩:=l3.ex;have cj:=us l.prog w (n d3) F3 (λ_=>YHS F3 T) λ_ _ _ _ _ _=>bn 1 λ_=>rfl
 obtain⟨_,F4⟩:=l4.ex;have iG:=us l.prog w (n d4) F4 (λ_=>YHU F4 T iy cj) λ_ _ _ _ _ _=>bn 1 λ_=>rfl
 obtain⟨_,F5⟩:=l5.ex;have gk:=us l.prog w (n d5) F5 (λ_=>YGH F5 T bW) λ_ _ _ _ _ _=>bn 1 λ_=>rfl
 obtain⟨_,F6⟩:=l6.ex;have dq:=us l.prog w (n d6) F6 (λ_=>YFE F6 T iG) λ_ _ _ _ _ _=>bn 1 λ_=>rfl
 obtain⟨_,F7⟩:=l7.ex;have iH:=us l.prog w (n d7) F7 (λ_=>YHW F7 T cj dq gk) λ_ _ _ _ _ _=>bn 1 λ_=>rfl
 obtain⟨_,F8⟩:=l8.ex;have cX:=us l.prog w (n d8) F8 (λ_=>YDo F8 T iH) λ_ _ _ _ _ _=>bn 1 λ_=>rfl
 obtain⟨_,F9⟩:=l9.ex;have cu:=us l.prog w (n d9) F9 (λ_=>YHY F9 T cX) λ_ _ _ _ _ _=>bn 1 λ_=>rfl
 obtain⟨_,F10⟩:=Vq.ex;have cD:=us l.prog w (n Vp) F10 (λ_=>YCT F10 T) λ_ _ _ _ _ _=>bn 3 λ_ _ _=>rfl
 obtain⟨_,F11⟩:=Vs.ex;have cF:=us l.prog w (n Vr) F11 (λ_=>YCU F11 T cD) λ_ _ _ _ _ _=>bn 3 λ_ _ _=>rfl
 obtain⟨_,F12⟩:=QR.ex;have cQ:=us l.prog w (n zg) F12 (λ_=>YDL F12 T cF) λ_ _ _ _ _ _=>bn 2 λ_ _=>rfl
 obtain⟨_,F13⟩:=vD.ex;have iI:=us l.prog w (n Vt) F13 (λ_=>YHa F13 T aF) λ_ _ _ _ _ _=>bn 1 λ_=>rfl
 obtain⟨_,F14⟩:=sZ.ex;have cG:=us l.prog w (n Vu) F14 (λ_=>YCR F14 T iI) λ_ _ _ _ _ _=>bn 1 λ_=>rfl
 obtain⟨_,F15⟩:=Vw.ex;have iJ:=us l.prog w (n Vv) F15 (λ_=>YHc F15 T bW) λ_ _ _ _ _ _=>bn 1 λ_=>rfl
 obtain⟨_,F16⟩:=Vy.ex;have b_:=us l.prog w (n Vx) F16 (λ_=>YB8 F16 T iJ) λ_ _ _ _ _ _=>bn 1 λ_=>rfl
 obtain⟨_,F17⟩:=VB.ex;have bz:=usM l.prog w Vz F17 (λ_=>YAy F17 T) λ_ _ _ _ _ _=>bn 4 λ_ _ _ _=>rfl
 obtain⟨_,F18⟩:=VF.ex;have bf:=usM l.prog w VD F18 (λ_=>YAc F18 T bz) λ_ _ _ _ _ _=>bn 2 λ_ _=>rfl
 obtain⟨_,F19⟩:=zm.ex;have bI:=usM l.prog w zp F19 (λ_=>YBG F19 T) λ_ _ _ _ _ _=>bn 2 λ_ _=>rfl
 obtain⟨_,F20⟩:=zq.ex;have bY:=usM l.prog w zr F20 (λ_=>YBb F20 T bf bI) λ_ _ _ _ _ _=>bn 1 λ_=>rfl
 obtain⟨_,F21⟩:=VH.ex;have bJ:=usI l.prog w mkToller kcToller VG F21 (λ_=>YBI F21 T cQ bY) λ_ _ _ _ _ _=>bn 4 λ_ _ _ _=>rfl
 obtain⟨_,F22⟩:=Q5.ex;have aW:=usM l.prog w Q6 F22 (λ_=>YAN F22 T) λ_ _ _ _ _ _=>bn 4 λ_ _ _ _=>rfl
 obtain⟨_,F23⟩:=VL.ex;have bZ:=usM l.prog w VJ F23 (λ_=>YBc F23 T) λ_ _ _ _ _ _=>bn 5 λ_ _ _ _ _=>rfl
 obtain⟨_,F24⟩:=zu.ex;have bh:=usM l.prog w zx F24 (λ_=>YAd F24 T) λ_ _ _ _ _ _=>bn 5 λ_ _ _ _ _=>rfl
 obtain⟨_,F25⟩:=VM.ex;have bA:=usM l.prog w Wc F25 (λ_=>YAz F25 T aW bZ bh) λ_ _ _ _ _ _=>bn 3 λ_ _ _=>rfl
 obtain⟨_,F26⟩:=VP.ex;have bK:=usM l.prog w VN F26 (λ_=>YBJ F26 T bA) λ_ _ _ _ _ _=>bn 1 λ_=>rfl
 obtain⟨_,F27⟩:=VV.ex;have bj:=usM l.prog w VR F27 (λ_=>YAg F27 T) λ_ _ _ _ _ _=>bn 1 λ_=>rfl
 obtain⟨_,F28⟩:=V1.ex;have dO:=us l.prog w (n V0) F28 (λ_=>YKf F28 T cu cG b_ bJ bK bj) λ_ _ _ _ _ _=>bn 3 λ_ _ _=>rfl
 obtain⟨_,F29⟩:=V3.ex;have aB:=usM l.prog w V2 F29 (λ_=>YAj F29 T) λ_ _ _ _ _ _=>bn 3 λ_ _ _=>rfl
 obtain⟨_,F30⟩:=V5.ex;have bu:=usM l.prog w V4 F30 (λ_=>YAl F30 T aB) λ_ _ _ _ _ _=>bn 2 λ_ _=>rfl
 obtain⟨_,F31⟩:=V7.ex;have bB:=usM l.prog w V6 F31 (λ_=>YA0 F31 T) λ_ _ _ _ _ _=>bn 2 λ_ _=>rfl
 obtain⟨_,F32⟩:=V9.ex;have bL:=usM l.prog w V8 F32 (λ_=>YBK F32 T) λ_ _ _ _ _ _=>bn 2 λ_ _=>rfl
 obtain⟨_,F33⟩:=Ba.ex;have bM:=usM l.prog w V_ F33 (λ_=>YBM F33 T bu bB aB bL) λ_ _ _ _ _ _=>bn 2 λ_ _=>rfl
 obtain⟨_,F34⟩:=Bc.ex;have bC:=usI l.prog w mkMending kcMending Bb F34 (λ_=>YA2 F34 T) λ_ _ _ _ _ _=>bn 5 λ_ _ _ _ _=>rfl
 obtain⟨_,F35⟩:=Be.ex;have jC:=us l.prog w (n Bd) F35 (λ_=>YJP F35 T dO cu bC bM) λ_ _ _ _ _ _=>bn 3 λ_ _ _=>rfl
 obtain⟨_,F36⟩:=Bg.ex;have aM:=us l.prog w (n Bf) F36 (λ_=>YCa F36 T) λ_ _ _ _ _ _=>bn 2 λ_ _=>rfl
 obtain⟨_,F37⟩:=Bj.ex;have a_:=us l.prog w (n Bh) F37 (λ_=>YDp F37 T aM) λ_ _ _ _ _ _=>bn 2 λ_ _=>rfl
 obtain⟨_,F38⟩:=Bl.ex;have cZ:=us l.prog w (n Bk) F38 (λ_=>YDq F38 T) λ_ _ _ _ _ _=>bn 1 λ_=>rfl
 obtain⟨_,F39⟩:=Bo.ex;have cY:=us l.prog w (n Bm) F39 (λ_=>YDr F39 T) λ_ _ _ _ _ _=>bn 1 λ_=>rfl
 obtain⟨_,F40⟩:=Bq.ex;have dJ:=us l.prog w (n Bp) F40 (λ_=>YFO F40 T) λ_ _ _ _ _ _=>bn 1 λ_=>rfl
 obtain⟨_,F41⟩:=Bs.ex;have dH:=us l.prog w (n Br) F41 (λ_=>YFQ F41 T a_) λ_ _ _ _ _ _=>bn 2 λ_ _=>rfl
 obtain⟨_,F42⟩:=Bu.ex;have gK:=us l.prog w (n Bt) F42 (λ_=>YGv F42 T) λ_ _ _ _ _ _=>bn 3 λ_ _ _=>rfl
 obtain⟨_,F43⟩:=Bw.ex;have dI:=us l.prog w (n Bv) F43 (λ_=>YFR F43 T) λ_ _ _ _ _ _=>bn 3 λ_ _ _=>rfl
 exact⟨PySem.W.fnOf "law" "law" (Jk YA4) (Z1 YA4) (YK YA4) .none kV dc pm an cd ct,λs v=>.of_eq rfl,λbase _ _=>ok_law F44 T a_ cY cZ dH gK jC dO dI dJ aM⟩
theorem walk {l:PySem.W.OpenLaw}{q:Program}{loose:List Str}{XP:(Str->Option Value)->Heap->Prop}{YP:World->Heap->Prop}{d:DefRec}{K:Params->W.Frag} (hn:l.most=some 63) (hdf:d.params.defaults=[])
  (hY:∀(w:World) (h:Heap),YP w h->(K w.params).In h)
  (F:∀(w:World) (mg:Str->Option Value) (fa:Addr) (h:Heap),(K w.params).In h->h.Ns mainGlobals mg->mg d.name=some (.ref fa)->
   ∃fd:FuncData,(∀(s:Shared) (u:Value),BindsTo s fd ⟨[u],[]⟩ [("_law_script",u)])/\∀base:Heap,(K w.params).In base->base.Ns mainGlobals mg->Yw l.prog w (K w.params) mg base CX0 11 fa fd ["_law_script"] (YFn (K w.params))):
  PySem.W.WalkO q loose XP YP l.row.toRowW d [] (λf vs=>PySem.call f vs):=
 L2.walk_of (n:=63) (k:=11) (x:="_law_script") (CX:=λ_=>CX0) (sp:=λw=>YFn (K w.params)) hn (by decide) hdf ⟨Z,by decide,by decide⟩ hY F (λ_ _ a ns hl hO hS=>YI3 hl hO hS) λ_ _ _ _ _ z=>z
end FR
open PySem PySem.W PyProof.Rows
inductive PySem.W.Fast|tw11000911731567540780|tw8809589007594783003|tw9929391434464783148|tw6988072709602505526|tw2713948845293475816|tw4473491427981878455|tw6767723026403613233|tw2889864069862589023|tw98524144087139300|tw7633005647679073944|tw17256689304095403302|tw4947810984450676045|tw8617797258043628880|tw11353482009424269422|tw11142692790455003883|tw17518323486850085440|tw11284663920159546048|tw14165308641802362409|tw11412852380764985818|tw2386039513017101015|tw9493712193002660687|tw3761104697313109562|tw14984631804405661232|tw17552187905267764293|tw6201135036319914246|tw11237630580144050598|tw10004766202095818401|tw4183425135044729342|tw15164445577900804419|tw12095521623308458346|tw17289094273679738097|tw11262332138458475441|tw3555942075301312656|tw10473462411564465063|tw4536707523035221230|tw3781853442761522703|tw5159242728828627954|tw7568823837421468869|tw15089171407502516473|tw5488148709484061132|tw5188562326961010791|tw4033015160848167873|tw1658800330456864312|tw16873621473057529910|tw13979798668363071805|tw12427997164453482798|tw5527226841503302022|tw12334695675571160326|tw486253172295086601|tw15342215814208295354|tw8384412961398545528|tw9583972788565622083|tw8333376173362900660|tw10894861065541915162|tw3076948090456533946|tw13124963841889159867|tw17816467204215465431|tw4405396932868473961|tw2377406983560206628|tw3584852564899636938|tw16626912065157451250|tw8088066953282439558|tw11010175115124757729|tw6690167661612389031|tw18108391430459966594|tw10123835948996997635|tw3741472676950220446|tw17535277000247947041|tw15751360875756121139|tw10647350484673110536|tw6576116796140071016|tw12039463985133080818|tw4157758697436995472|tw6856750568038608791|tw7781642527953026627|tw18146864713357272339|tw10417259476468508408|tw877986017619564111|tw17488580391179673624|tw6739477464845758018|tw15776238380544222962|tw2755995965954808908|tw7978153769277695149|tw5708363118830663037|tw6201542271173536652|tw15471617379779757572|tw10700968059936088598|tw1830189732661148743|tw4658565344185579497|tw18281372981309049858|tw11937992033556686686|tw3110793890648813492|tw2756764579956161220|tw4061835736656614731|tw15225908481690640389|tw4797815885366939110|tw13994980940434444312|tw7855420496786924864|tw3987774170497693902|tw14445503257229314258|tw10781386425423171633|tw4085164257280789144|tw15714739196866221212|tw14088867516148772639|tw281880099015841943|tw8317434402608116483|tw11426006897871143233|tw11334487235883673482|tw1188163142683124796|tw16243020270972232599|tw2387336011775556006|tw16467188421168586529|tw9754185860381107478|tw16673107174465934031|tw11137519324753227741|tw651942509670034679|tw4498233228447629643|tw16146371137076003374|tw3093789883104354344|tw14468729461326900942|tw1220255772139352180|tw5750333346232042316|tw12178000041576649637|tw6718967129170867|tw5726367733098190973|tw12706491821196423854|tw18342234443530193378|tw8397653795972572583|tw1502117242426409003|tw4734071525253146288|tw14506533999509519698|tw11817509182446687440|tw17313065734904070847|tw12276526694916419307|tw8116568664735158152|tw7823010462227578482|tw7744607215128239199|tw13133472991589216130|tw15681371138876734182|tw6194717122091467378|tw14099047963530155882|tw3903607355987238215|tw15702948759973632166|tw8517854579633232344|tw14816668570704689185|tw14479375006978114796|tw544050403532184029|tw5962396297354160370|tw3470301789571220343|tw4556089580471210819|tw6989963476665088030|tw948539440886822835|tw13137956226798925195|tw12997185057339981317|tw15469867125075410012|tw15056134062983302559|tw17036133225984003067|tw7212447585396822623|tw15740646120447170383|tw9005056136671447732|tw4011448646744423960|tw5684999625114177364|tw16666368636597682456|tw3966394448264885770|tw6426043151353141658|tw8191849640854268818|tw5367423256826203592|tw2838743415235633366|tw441076384572400331|tw17294228515011698655|tw17555225641430730679|tw15195092957518592920|tw11967579167410996177
set_option maxRecDepth 100000 in
set_option maxHeartbeats 0 in
theorem PySem.Challenge.cw_forestread_k77_long_texts_mended_holds : PySem.Challenge.rw_forestread_k77_long_texts_mended.Holds := by
 w_on;o_law;k_head;(case hw=>w_witness2)
 k_fill
 refine FR.walk (l:=PySem.Challenge.rw_forestread_k77_long_texts_mended) rfl rfl (λw h Y=>PySem.W.kIn_of Y) ?F
 case F=>
  intro w mg fa h KX G wN;refine' FR.all_mk KX G wN ..
  any_goals first |k_is |(delta L2.Dn;k_is) |(delta L2.Zn;k_is) |(delta L2.On;k_is) |(refine' L2.An.mk ?_ ?_;any_goals k_is) |(refine' L2.Ln.mk ?_ ?_ ?_;any_goals k_is) |k_exc |kts_exm |kit_is
