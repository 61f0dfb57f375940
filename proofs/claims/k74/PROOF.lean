import PyProof.Rows.All
import Wide.All
import OpenK.AllK
import Wide.FinOn
import Lean
import PyProof.EqAt
import PyProof.EqKinds
import PyProof.TupleCall
import PySem.Challenge.RW_forestread_k74_whole_no_cheaper
set_option Elab.async false
set_option linter.all false
set_option maxRecDepth 100000
theorem Z{α:Sort u}{a:α}:a=a:=rfl
abbrev YLp:=@List.length_map
abbrev YLq:=@PyProof.Rows.Boot.«len»
abbrev YLr:=@Nat.le_refl
abbrev YLs:=@List.getElem?_eq_getElem
abbrev YLt:=@List.getElem?_map
abbrev YLu:=@List.mem_of_getElem?
abbrev YLv:=@List.getElem?_eq_some_iff
abbrev YLw:=@decide_eq_true
abbrev YLx:=@PySem.wpAny_bind
abbrev YLy:=@List.length_append
abbrev YLz:=@decide_eq_false
abbrev YL0:=@PySem.Heap.get?_push_of_some
abbrev YL1:=@List.mem_singleton
abbrev YL2:=@List.map_append
abbrev YL3:=@List.size_toArray
abbrev YL4:=@PySem.Heap.lt_size
abbrev YL5:=@Bool.and_eq_true
abbrev YL6:=@List.mem_cons_of_mem
abbrev YL7:=@Bool.false_ne_true
abbrev YL8:=@List.length_cons
abbrev YL9:=@Nat.lt_of_lt_of_le
abbrev YMA:=@List.mem_cons
abbrev YMB:=@List.mem_append_right
abbrev YMC:=@PySem.F.plainAttrs_list
abbrev YMD:=@List.mem_map
abbrev YME:=@of_decide_eq_true
abbrev YMF:=@PySem.Heap.get?_push_size
abbrev YMG:=@List.mem_cons_self
abbrev YMH:=@List.length_range
abbrev YMI:=@Nat.zero_le
abbrev YMJ:=@PySem.wpAny_pure
abbrev YMK:=@PySem.F.type_list_append
abbrev YML:=@PySem.F.slot_list_append
abbrev YMM:=@Array.length_toList
abbrev YMN:=@List.mem_append
abbrev YMO:=@Option.some.inj
abbrev YMP:=@Nat.le_trans
abbrev YMQ:=@List.map_cons
abbrev YMR:=@List.all_eq_true
abbrev YMS:=@Nat.ne_of_lt
abbrev YMT:=@Option.isSome_iff_exists
abbrev YMU:=@List.length_reverse
abbrev YMV:=@Option.map_eq_some_iff
abbrev YMW:=@PyProof.Rows.Boot.«isinstance»
abbrev YMX:=@List.append_assoc
abbrev YMY:=@PySem.Heap.get?_update_other
abbrev YMZ:=@List.append_nil
abbrev YMa:=@decide_eq_true_eq
abbrev YMb:=@List.take_add_one
abbrev YMc:=@List.mem_append_left
abbrev YMd:=@List.getElem?_append_right
abbrev YMe:=@Int.emod_nonneg
abbrev YMf:=@List.getElem?_eq_none
abbrev YMg:=@Int.emod_lt_of_pos
abbrev YMh:=@List.getElem?_range
abbrev YMi:=@Int.le_refl
abbrev YMj:=@Int.le_trans
abbrev YMk:=@Int.zero_add
abbrev YMl:=@PySem.Heap.get?_update_self
abbrev YMm:=@Nat.lt_irrefl
abbrev YMn:=@List.take_length
abbrev YMo:=@List.not_mem_nil
abbrev YMp:=@List.length_take
abbrev YMq:=@Array.getElem?_toList
abbrev YMr:=@PyProof.Rows.Boot.«list»
abbrev YMs:=@List.getElem?_append_left
abbrev YMt:=@Nat.lt_or_ge
abbrev YMu:=@List.nodup_cons
abbrev YMv:=@Int.mul_nonneg
abbrev YMw:=@congrArg
abbrev YMx:=@Int.mul_le_mul_of_nonneg_right
abbrev YMy:=@List.mem_range
abbrev YMz:=@List.drop_eq_getElem_cons
abbrev YM0:=@List.map_congr_left
abbrev YM1:=@Int.mul_ediv_add_emod
abbrev YM2:=@PyProof.Rows.Boot.«tuple»
abbrev YM3:=@Nat.zero_lt_one
abbrev YM4:=@Nat.add_sub_cancel_left
abbrev YM5:=@List.length_drop
abbrev YM6:=@List.take_of_length_le
abbrev YM7:=@PyProof.Rows.Boot.«min»
abbrev YM8:=@PyProof.Rows.Boot.«all»
abbrev YM9:=@List.take_zero
abbrev YNA:=@Nat.ne_of_gt
abbrev YNB:=@List.length_nil
abbrev YNC:=@Bool.eq_iff_iff
abbrev YND:=@List.filter_cons
abbrev YNE:=@List.mem_iff_getElem
abbrev YNF:=@Bool.false_or
abbrev YNG:=@List.map_map
abbrev YNH:=@Option.isSome_map
abbrev YNI:=@PySem.F.type_str_startswith
abbrev YNJ:=@PySem.F.slot_str_startswith
abbrev YNK:=@List.length_set
abbrev YNL:=@PySem.F.plainAttrs_str
abbrev YNM:=@List.getElem?_set_self
abbrev YNN:=@Nat.lt_of_le_of_lt
abbrev YNO:=@List.all_cons
abbrev YNP:=@Int.le_of_lt
abbrev YNQ:=@List.mem_of_find?_eq_some
abbrev YNR:=@Int.add_mul
abbrev YNS:=@PySem.Heap.size_push
abbrev YNT:=@Nat.not_lt_zero
abbrev YNU:=@List.find?_cons
abbrev YNV:=@List.ext_getElem?
abbrev YNW:=@Int.toNat_natCast
abbrev YNX:=@Int.emod_eq_of_lt
abbrev YNY:=@Bool.eq_false_iff
abbrev YNZ:=@PyProof.Rows.Boot.«reversed»
abbrev YNa:=@Nat.le_of_lt
abbrev YNb:=@Int.ne_of_gt
abbrev YNc:=@List.replicate_succ
abbrev YNd:=@List.mem_reverse
abbrev YNe:=@List.map_reverse
abbrev YNf:=@Int.mul_le_mul_of_nonneg_left
abbrev YNg:=@Option.map_some
abbrev YNh:=@Nat.le_succ
abbrev YNi:=@Nat.add_zero
abbrev YNj:=@List.mem_filter
abbrev YNk:=@List.filterMap_eq_map
namespace L2
open PySem PySem.Spec PyProof.Rows
abbrev Key:=Sum Int Str
def YDT:Key->Value->Bool
 |.inl k,v=>Value.isInt k v
 |.inr x,v=>Value.isStrOf x v
def keyH (w:World):Key->Int
 |.inl k=>hashInt k
 |.inr x=>hashStr w x
theorem ZQ:∀{k:Key}{v:Value},YDT k v=true->(∃i t,k=Sum.inl i/\v=Value.int i t)\/(∃x t,k=Sum.inr x/\v=Value.str x t)
 |.inl i,v,h=>by
  obtain⟨t,e⟩:=Value.isInt_shape (k:=i) (v:=v) h;exact .inl ⟨i,t,Z,e⟩
 |.inr x,v,h=>by
  obtain⟨t,e⟩:=Value.isStrOf_shape (x:=x) (v:=v) h;exact .inr ⟨x,t,Z,e⟩
theorem YJR (i:Int) (t:Tok):YDT (.inl i) (.int i t)=true:=by simp[YDT,Value.isInt]
theorem YJS (x:Str) (t:Tok):YDT (.inr x) (.str x t)=true:=by simp[YDT,Value.isStrOf]
theorem key_ll (a b:Int):decide ((Sum.inl a:Key)=Sum.inl b)=(a == b):=by
 by_cases e:a=b
 ·subst e;simp
 ·have h:¬(Sum.inl a:Key)=Sum.inl b:=λq=>e (Sum.inl.inj q)
  rw[YLz h];exact(beq_eq_false_iff_ne.mpr e).symm
theorem key_rr (a b:Str):decide ((Sum.inr a:Key)=Sum.inr b)=decide (a=b):=by
 by_cases e:a=b
 ·subst e;simp
 ·have h:¬(Sum.inr a:Key)=Sum.inr b:=λq=>e (Sum.inr.inj q)
  rw[YLz h,YLz e]
theorem key_lr (a:Int) (b:Str):decide ((Sum.inl a:Key)=Sum.inr b)=false:=YLz nofun
theorem key_rl (a:Str) (b:Int):decide ((Sum.inr a:Key)=Sum.inl b)=false:=YLz nofun
def ZM (prog:Program) (w:World):PySem.KeyKind prog w Key where
 is:=YDT
 hash:=keyH w
 inj:=λv a b ha hb=>by
  rcases ZQ ha with ⟨i,t,rfl,rfl⟩ |⟨x,t,rfl,rfl⟩
  ·rcases ZQ hb with ⟨j,u,rfl,e⟩ |⟨y,u,rfl,e⟩
   ·injection e with e1 _;rw[e1]
   ·exact nomatch e
  ·rcases ZQ hb with ⟨j,u,rfl,e⟩ |⟨y,u,rfl,e⟩
   ·exact nomatch e
   ·injection e with e1 _;rw[e1]
 byValue:=λk v h=>by
  rcases ZQ h with ⟨i,t,rfl,rfl⟩ |⟨x,t,rfl,rfl⟩ <;> rfl
 pyHash:=λhv h=>by
  rcases ZQ hv with ⟨i,t,rfl,rfl⟩ |⟨x,t,rfl,rfl⟩
  ·exact wpAny_pyHash_int h
  ·exact wpAny_pyHash_str h
 eqBool:=λhu hv h=>by
  rcases ZQ hu with ⟨i,t,rfl,rfl⟩ |⟨x,t,rfl,rfl⟩
  ·rcases ZQ hv with ⟨j,u,rfl,rfl⟩ |⟨y,u,rfl,rfl⟩
   ·rw[key_ll]at h;exact wpAny_eqBool_int h
   ·rw[key_lr]at h;exact SeqAt.EqAt.int_str i t y u _ _ _ _ h
  ·rcases ZQ hv with ⟨j,u,rfl,rfl⟩ |⟨y,u,rfl,rfl⟩
   ·rw[key_rl]at h;exact SeqAt.EqAt.str_int x t j u _ _ _ _ h
   ·rw[key_rr]at h;exact wpAny_eqBool_str h
 «strs»:=λk x t v h=>by
  rcases ZQ h with ⟨i,u,rfl,e⟩ |⟨y,u,rfl,e⟩
  ·exact nomatch e
  ·injection e with e1 _
   subst e1;cases v <;> rfl
theorem YGH (prog:Program) (w:World) (i:Int) (t:Tok):(ZM prog w).is (.inl i) (.int i t)=true:=YJR i t
theorem YGI (prog:Program) (w:World) (x:Str) (t:Tok):(ZM prog w).is (.inr x) (.str x t)=true:=YJS x t
end L2
namespace L2
open PySem PySem.Spec PyProof.Rows
inductive V where
 |non |bl (b:Bool) |int (i:Int) |str (x:Str) |byt (b:Array UInt8) |flt (b:UInt64) |ref (a:Addr) |ty (n:String)
 deriving DecidableEq
def Ys:V->Value->Prop
 |.non,u=>u=Value.none
 |.bl b,u=>u=Value.bool b
 |.int i,u=>∃t,u=Value.int i t
 |.str x,u=>∃t,u=Value.str x t
 |.byt b,u=>∃t,u=Value.bytes b t
 |.flt b,u=>∃t,u=Value.float b t
 |.ref a,u=>u=Value.ref a
 |.ty n,u=>u=Value.type n
abbrev Ym:List V->List Value->Prop:=Paired Ys
theorem Ym.length {xs:List V}{us:List Value} (r:Ym xs us):xs.length=us.length:=Paired.length r
theorem Ym.get:∀{xs:List V}{us:List Value}{i:Nat}{x:V},Ym xs us->xs[i]?=some x->∃u,us[i]?=some u/\Ys x u
 |_,_,_,_,.nil,e=>by simp at e
 |_,_,0,_,.cons r _,e=>by simp at e;subst e;exact⟨_,Z,r⟩
 |_,_,i + 1,x,.cons _ t,e=>by
  obtain⟨u,h1,h2⟩:=Ym.get (i:=i) (x:=x) t (by simpa using e);exact⟨u,by simpa using h1,h2⟩
theorem Ym.set {x:V}{u:Value} (r:Ys x u):∀{xs:List V}{us:List Value} (i:Nat),Ym xs us->Ym (xs.set i x) (us.set i u)
 |_,_,_,.nil=>.nil
 |_,_,0,.cons _ t=>.cons r t
 |_,_,i + 1,.cons q t=>.cons q (Ym.set r i t)
theorem Ym.append:∀{xs ys:List V}{us ws:List Value},Ym xs us->Ym ys ws->Ym (xs ++ ys) (us ++ ws)
 |_,_,_,_,.nil,s=>s
 |_,_,_,_,.cons r t,s=>.cons r (Ym.append t s)
theorem Ym.take:∀{xs:List V}{us:List Value} (n:Nat),Ym xs us->Ym (xs.take n) (us.take n)
 |_,_,0,_=>.nil
 |_,_,_ + 1,.nil=>.nil
 |_,_,n + 1,.cons r t=>.cons r (Ym.take n t)
theorem Ym.drop:∀{xs:List V}{us:List Value} (n:Nat),Ym xs us->Ym (xs.drop n) (us.drop n)
 |_,_,0,r=>r
 |_,_,_ + 1,.nil=>.nil
 |_,_,n + 1,.cons _ t=>Ym.drop n t
theorem Ym.none_of:∀{xs:List V}{us:List Value}{i:Nat},Ym xs us->xs[i]?=none->us[i]?=none:=λ{xs us i} r e=>by
 have h1:=r.length;have h2:xs.length<=i:=List.getElem?_eq_none_iff.mp e;exact List.getElem?_eq_none_iff.mpr (by omega)
def YAn:Option V->Option Value->Prop
 |some v,some u=>Ys v u
 |none,none=>True
 |_,_=>False
def KV {κ:Type}:List (κ×V)->List (κ×Value)->Prop:=Paired λ(p:κ×V) (q:κ×Value)=>p.1=q.1/\Ys p.2 q.2
def kV:Key->V
 |.inl i=>.int i
 |.inr x=>.str x
inductive HO where
 |lst (xs:List V)
 |tup (xs:List V)
 |dK (kvs:List (Key×V)) |dT (kvs:List (List Key×V))
 |set (S:Int->Bool) (n:Nat)
 |ins (C dx:Addr) (fs:List (Str×V))
 |own (x:Addr)
 |xd (fs:List (Str×V))
 |met (f x:Addr)
 |rng (lo hi:Int)
 |frz (o:Obj) (u:HO)
 |tbl (ps:Array Value)
 |ext (φ:Heap->Prop)
abbrev Hp:=Addr->Option HO
def upd (H:Hp) (a:Addr) (o:HO):Hp:=λb=>if b=a then some o else H b
theorem YD {H:Hp}{a:Addr}{o:HO}:upd H a o a=some o:=by unfold upd;rw[if_pos rfl]
theorem YJ {H:Hp}{a b:Addr}{o:HO} (h:b≠a):upd H a o b=H b:=by unfold upd;rw[if_neg h]
theorem YDG {H:Hp}{a:Addr}{o u:HO}:upd (upd H a o) a u=upd H a u:=by
 funext b;unfold upd;split <;> rfl
theorem YEl {H:Hp}{a b:Addr}{o u:HO} (h:H a=some o) (h':H b=some u) (d:o≠u):a≠b:=by
 intro e;subst e;rw[h]at h';exact d (YMO h')
theorem Ya {H:Hp}{a b:Addr}{o:HO} (h:H a=some o) (h':H b=none):a≠b:=by
 intro e;subst e;rw[h]at h';cases h'
section
variable (P:Program) (w:World)
def Y3 (H:Hp) (h:Heap) (a:Addr):HO->Prop
 |.lst xs=>xs.length<=sizeLine/\∃(its:List Value) (n:Nat),Ym xs its/\h.get? a=some { cls:=.type "list",data:=.seq its.toArray n }
 |.tup xs=>xs.length<=sizeLine/\∃its:List Value,Ym xs its/\IsTup h a its.toArray
 |.dK kvs=>kvs.length<=sizeLine/\(a == sysModules)=false/\∃vs,KV kvs vs/\h.DictOf (ZM P w) a vs
 |.dT kvs=>kvs.length<=sizeLine/\(a == sysModules)=false/\∃xs:List (List Key×Addr×Value),
   Paired (λ(p:List Key×V) (q:List Key×Addr×Value)=>p.1=q.1/\H q.2.1=some (.tup (p.1.map kV))/\Ys p.2 q.2.2) kvs xs/\
   ∃o es ep,h.get? a=some o/\o.ExactDict/\o.data=.dict es ep/\es.toList=xs.map (entryOfKey (tupleKind (ZM P w)))/\(xs.map (·.1)).Nodup
 |.set S n=>h.SetOf (intKind P w) a S n
 |.ins C dx fs=>H dx=some (.own a)/\fs.length<=1000/\dx≠a/\h.get? a=some (PySem.W.instObj C dx)/\
   ∃mA,h.Ns1 dx mA/\(∀f,YAn (fs.lookup f) (mA f))/\PySem.Within mA (fs.map (·.1))
 |.own _=>∃o,h.get? a=some o
 |.xd fs=>∃mA,h.Ns1 a mA/\∀f,YAn (fs.lookup f) (mA f)
 |.rng lo hi=>∃t u v,h.get? a=some { cls:=.type "range",data:=.fields #[.int lo t,.int hi u,.int 1 v] }
 |.frz o u=>h.get? a=some o/\Y3 H h a u
 |.tbl ps=>h.get? a=some { cls:=.none,data:=.fields ps }
 |.met f x=>h.get? a=some (PySem.W.methodObj (.ref f) (.ref x))
 |.ext φ=>φ h/\(∃o,h.get? a=some o)/\∀h1 h2:Heap,φ h1->(∀o,h1.get? a=some o->h2.get? a=some o)->φ h2
def HOk (H:Hp) (h:Heap):Prop:=∀a o,H a=some o->Y3 P w H h a o
end
section
variable {P:Program}{w:World}{H H':Hp}{h h':Heap}{a:Addr}{o:HO}
theorem Y3.lt (x:Y3 P w H h a o):a < h.objs.size:=by
 cases o with
 |lst xs=>obtain⟨_,_,_,_,e⟩:=x;exact YL4 e
 |tup xs=>obtain⟨_,_,_,p⟩:=x;exact p.lt
 |dK kvs=>obtain⟨_,_,_,_,o,_,_,e,_⟩:=x;exact YL4 e
 |dT kvs=>obtain⟨_,_,_,_,o,_,_,e,_⟩:=x;exact YL4 e
 |set S n=>obtain⟨o,_,_,_,e,_⟩:=x;exact YL4 e
 |ins C dx fs=>obtain⟨_,_,_,e,_⟩:=x;exact YL4 e
 |own y=>obtain⟨_,e⟩:=x;exact YL4 e
 |xd fs=>obtain⟨_,⟨_,_,_,e,_⟩,_⟩:=x;exact YL4 e
 |rng lo hi=>obtain⟨_,_,_,e⟩:=x;exact YL4 e
 |frz ob u=>obtain⟨e,_⟩:=x;exact YL4 e
 |tbl ps=>exact YL4 (show h.get? a=some _ from x)
 |met f y=>exact YL4 (show h.get? a=some _ from x)
 |ext φ=>obtain⟨_,⟨_,e⟩,_⟩:=x;exact YL4 e
theorem Paired.mapP {α β:Type}{F G:α->β->Prop}:∀{l₁:List α}{l₂:List β},Paired F l₁ l₂->(∀a b,F a b->G a b)->Paired G l₁ l₂
 |_,_,.nil,_=>.nil
 |_,_,.cons r t,f=>.cons (f _ _ r) (Paired.mapP t f)
theorem Y3.stay (x:Y3 P w H h a o) (k:∀b u,(b=a\/H b=some (.own a))->h.get? b=some u->h'.get? b=some u)
  (ho:∀b,H b=some (.own a)->H' b=some (.own a)) (ht:∀b xs,H b=some (.tup xs)->H' b=some (.tup xs)):Y3 P w H' h' a o:=by
 induction o with
 |lst xs=>obtain⟨z,its,n,r,e⟩:=x;exact⟨z,its,n,r,k _ _ (.inl rfl) e⟩
 |tup xs=>obtain⟨z,its,r,ob,e,c⟩:=x;exact⟨z,its,r,ob,k _ _ (.inl rfl) e,c⟩
 |dK kvs=>obtain⟨z,y,vs,r,ob,es,ep,e,c⟩:=x;exact⟨z,y,vs,r,ob,es,ep,k _ _ (.inl rfl) e,c⟩
 |dT kvs=>
  obtain⟨z,y,xs,r,ob,es,ep,e,c⟩:=x;exact⟨z,y,xs,Paired.mapP r λp q z=>⟨z.1,ht _ _ z.2.1,z.2.2⟩,ob,es,ep,k _ _ (.inl rfl) e,c⟩
 |set S n=>obtain⟨ob,es,ep,t,e,c⟩:=x;exact⟨ob,es,ep,t,k _ _ (.inl rfl) e,c⟩
 |ins C dx fs=>
  obtain⟨d,z,ne,e,mA,⟨od,es,ep,e2,c⟩,r⟩:=x;exact⟨ho _ d,z,ne,k _ _ (.inl rfl) e,mA,⟨od,es,ep,k _ _ (.inr d) e2,c⟩,r⟩
 |own y=>obtain⟨ob,e⟩:=x;exact⟨ob,k _ _ (.inl rfl) e⟩
 |xd fs=>obtain⟨mA,⟨od,es,ep,e,c⟩,r⟩:=x;exact⟨mA,⟨od,es,ep,k _ _ (.inl rfl) e,c⟩,r⟩
 |rng lo hi=>obtain⟨t,u,v,e⟩:=x;exact⟨t,u,v,k _ _ (.inl rfl) e⟩
 |frz ob u ih=>obtain⟨e,q⟩:=x;exact⟨k _ _ (.inl rfl) e,ih q⟩
 |tbl ps=>
  have e:h.get? a=some { cls:=.none,data:=.fields ps }:=x;show h'.get? a=some { cls:=.none,data:=.fields ps };exact k a _ (.inl rfl) e
 |met f y=>
  have e:h.get? a=some (PySem.W.methodObj (.ref f) (.ref y)):=x;show h'.get? a=some (PySem.W.methodObj (.ref f) (.ref y));exact k a _ (.inl rfl) e
 |ext φ=>obtain⟨p,⟨o,e⟩,st⟩:=x;exact⟨st _ _ p λo q=>k _ _ (.inl rfl) q,⟨o,k _ _ (.inl rfl) e⟩,st⟩
theorem HOk.lt (x:HOk P w H h) (e:H a=some o):a < h.objs.size:=(x a o e).lt
theorem HOk.fresh (x:HOk P w H h) (e:h.objs.size<=a):H a=none:=by
 cases q:H a with
 |none=>rfl
 |some u=>exact absurd (YL9 (x.lt q) e) (YMm _)
theorem HOk.kept (x:HOk P w H h) (k:∀b u,h.get? b=some u->h'.get? b=some u):HOk P w H h':=λa o e=>
 (x a o e).stay (λb u _ q=>k b u q) (λ_ q=>q) λ_ _ q=>q
theorem HOk.laid (x:HOk P w H h) (k:∀b u,h.get? b=some u->h'.get? b=some u) (hp:h.objs.size<=a) (new:Y3 P w (upd H a o) h' a o):HOk P w (upd H a o) h':=λb u e=>by
 have hn:=x.fresh hp
 by_cases hb:b=a
 ·subst hb;rw[YD]at e;cases e;exact new
 ·rw[YJ hb]at e;exact(x b u e).stay (λc v _ q=>k c v q) (λc q=>by rw[YJ (Ya q hn)];exact q) λc xs q=>by rw[YJ (Ya q hn)];exact q
end
def Rd (H:Hp) (a:Addr) (u:HO):Prop:=H a=some u\/∃o,H a=some (.frz o u)
theorem Rd.ok {P:Program}{w:World}{H:Hp}{h:Heap}{a:Addr}{u:HO} (r:Rd H a u) (x:HOk P w H h):Y3 P w H h a u:=by
 rcases r with r |⟨o,r⟩
 ·exact x a u r
 ·obtain⟨_,q⟩:=x a _ r;exact q
def Mut:Option HO->Prop
 |some (.lst _)=>True
 |some (.dK _)=>True
 |some (.dT _)=>True
 |some (.set _ _)=>True
 |some (.ins _ _ _)=>True
 |some (.ext _)=>True
 |_=>False
section
variable {P:Program}{w:World}{H:Hp}{h h':Heap}{x e:Addr}{o':HO}
theorem HOk.write (ok:HOk P w H h) (mu:Mut (H x)) (he:e=x\/H e=some (.own x)) (k:∀b u,b≠e->h.get? b=some u->h'.get? b=some u) (yH:∃u,h'.get? e=some u)
  (new:Y3 P w (upd H x o') h' x o'):HOk P w (upd H x o') h':=λb u q=>by
 have nown:∀c y,H c=some (.own y)->c≠x:=λc y r z=>by subst z;rw[r]at mu;exact mu
 have ntup:∀c xs,H c=some (.tup xs)->c≠x:=λc xs r z=>by subst z;rw[r]at mu;exact mu
 by_cases hb:b=x
 ·subst hb;rw[YD]at q;cases q;exact new
 ·rw[YJ hb]at q
  by_cases hbe:b=e
  ·have q':H b=some (.own x):=by
    rcases he with z |z
    ·exact absurd (hbe.trans z) hb
    ·rw[hbe];exact z
   rw[q]at q';cases q';obtain⟨v,hv⟩:=yH;exact⟨v,by rw[hbe];exact hv⟩
  ·refine(ok b u q).stay (λc v hc r=>k c v ?_ r) (λc r=>by rw[YJ (nown c b r)];exact r) λc xs r=>by rw[YJ (ntup c xs r)];exact r
   rcases hc with rfl |hc
   ·exact hbe
   ·rintro rfl;rcases he with z |z
    ·exact nown c b hc z
    ·rw[hc]at z;cases z;exact hb rfl
end
structure Un (fs ex:List Addr) (H H':Hp) (h h':Heap):Prop where
 keep:∀b o,h.get? b=some o->H b=none->b∉fs->b∉ex->h'.get? b=some o
 slot:∀b o,h.get? b=some o->H b=none->b∈fs->b∉ex->∃sl,h'.get? b=some { o with slots:=sl }
 free:∀b o,h.get? b=some o->H b=none->b∉ex->H' b=none
 there:∀b o,h.get? b=some o->b∉ex->∃o',h'.get? b=some o'
 tups:∀b xs,H b=some (.tup xs)->H' b=some (.tup xs)
 frzs:∀b o u,H b=some (.frz o u)->H' b=some (.frz o u)
 tbls:∀b ps,H b=some (.tbl ps)->∃more,H' b=some (.tbl (ps ++ more))
section
variable {fs fs' ex ex':List Addr}{H H1 H2:Hp}{h h1 h2 h':Heap}{a x e:Addr}{o:HO}
theorem Un.any (u:Un fs ex H H1 h h1) {b:Addr}{ob:Obj} (q:h.get? b=some ob) (n:H b=none) (hx:b∉ex):∃sl,h1.get? b=some { ob with slots:=sl }:=by
 by_cases hb:b∈fs
 ·exact u.slot b ob q n hb hx
 ·exact⟨ob.slots,u.keep b ob q n hb hx⟩
theorem Un.trans (a:Un fs ex H H1 h h1) (b:Un fs ex H1 H2 h1 h2):Un fs ex H H2 h h2 where
 keep:=λc ob q n hc hx=>b.keep c ob (a.keep c ob q n hc hx) (a.free c ob q n hx) hc hx
 slot:=λc ob q n hc hx=>by
  obtain⟨sl,e1⟩:=a.slot c ob q n hc hx;obtain⟨vU,e2⟩:=b.slot c _ e1 (a.free c ob q n hx) hc hx;exact⟨vU,e2⟩
 free:=λc ob q n hx=>by
  obtain⟨o',e1⟩:=a.there c ob q hx;exact b.free c o' e1 (a.free c ob q n hx) hx
 there:=λc ob q hx=>by
  obtain⟨o',e1⟩:=a.there c ob q hx;exact b.there c o' e1 hx
 tups:=λc xs q=>b.tups c xs (a.tups c xs q)
 frzs:=λc ob xs q=>b.frzs c ob xs (a.frzs c ob xs q)
 tbls:=λc ps q=>by
  obtain⟨m1,e1⟩:=a.tbls c ps q;obtain⟨m2,e2⟩:=b.tbls c _ e1;exact⟨m1 ++ m2,by rw[e2,Array.append_assoc]⟩
theorem Un.kept (k:∀b u,h.get? b=some u->h'.get? b=some u):Un fs ex H H h h':=
 ⟨λb ob q _ _ _=>k b ob q,λb ob q _ _ _=>⟨ob.slots,k b ob q⟩,λ_ _ _ n _=>n,λb ob q _=>⟨ob,k b ob q⟩,λ_ _ q=>q,λ_ _ _ q=>q,λ_ ps q=>⟨#[],by rw[q];simp⟩⟩
theorem Un.refl:Un fs ex H H h h:=Un.kept λ_ _ q=>q
theorem Un.laid (k:∀b u,h.get? b=some u->h'.get? b=some u) (hp:h.objs.size<=a) (hn:H a=none):Un fs ex H (upd H a o) h h' where
 keep:=λb u q _ _ _=>k b u q
 slot:=λb u q _ _ _=>⟨u.slots,k b u q⟩
 free:=λb u q n _=>by rw[YJ (YMS (YL9 (YL4 q) hp))];exact n
 there:=λb u q _=>⟨u,k b u q⟩
 tups:=λb xs q=>by rw[YJ (Ya q hn)];exact q
 frzs:=λb u xs q=>by rw[YJ (Ya q hn)];exact q
 tbls:=λb ps q=>⟨#[],by rw[YJ (Ya q hn),q];simp⟩
theorem Un.write (mu:Mut (H x)) (he:e=x\/H e=some (.own x)) (k:∀b u,b≠e->h.get? b=some u->h'.get? b=some u) (yH:∃u,h'.get? e=some u):Un fs ex H (upd H x o) h h':=by
 have hx:∀b,H b=none->b≠x:=λb n z=>by subst z;rw[n]at mu;exact mu
 have hb:∀b,H b=none->b≠e:=λb n z=>by
  subst z;rcases he with r |r
  ·exact hx b n r
  ·rw[n]at r;cases r
 have hm:∀b u,H b=some u->¬Mut (some u)->b≠x:=λb u q nm z=>by subst z;rw[q]at mu;exact nm mu
 refine⟨λb u q n _ _=>k b u (hb b n) q,λb u q n _ _=>⟨u.slots,k b u (hb b n) q⟩,λb u q n _=>by rw[YJ (hx b n)];exact n,λb u q _=>?_,
  λb xs q=>by rw[YJ (hm b _ q λz=>z)];exact q,λb u xs q=>by rw[YJ (hm b _ q λz=>z)];exact q,λb ps q=>⟨#[],by rw[YJ (hm b _ q λz=>z),q];simp⟩⟩
 by_cases hbe:b=e
 ·subst hbe;exact yH
 ·exact⟨u,k b u hbe q⟩
end
def trk (h:Heap) (H:Hp):List Addr:=(List.range h.objs.size).filter λa=>(H a).isSome
def YFg (h:Heap) (H:Hp):Heap:=PySem.W.hideAll h (trk h H)
theorem YJT (h:Heap) (H:Hp):(YFg h H).objs.size=h.objs.size:=PySem.W.hideAll_size _ _
theorem YKG {h:Heap}{H:Hp}{b:Addr}{o:Obj} (e:h.get? b=some o) (n:H b=none):(YFg h H).get? b=some o:=
 PySem.W.hideAll_get _ e λhm=>by
  have q:(H b).isSome=true:=(YNj.mp hm).2;rw[n]at q;simp at q
theorem of_hidT {h:Heap}{H:Hp}{b:Addr}{o:Obj} (e:(YFg h H).get? b=some o):h.get? b=some o/\H b=none:=by
 have e':h.get? b=some o:=PySem.W.of_hideAll (trk h H) e;refine⟨e',?_⟩;cases q:H b with
 |none=>rfl
 |some x=>
  have hm:b∈trk h H:=YNj.mpr ⟨YMy.mpr (YL4 e'),by simp[q]⟩;have z:(YFg h H).get? b=none:=PySem.W.hideAll_none (trk h H) hm;rw[z]at e;cases e
def allNews (g h:Heap) (L:Addr):List (Addr×Obj):=(List.range h.objs.size).filterMap λa=>if a=L\/(g.get? a).isSome=true then none else (h.get? a).map λo=>(a,o)
def rest (g h:Heap) (L d:Addr):List (Addr×Obj):=(allNews g h L).filter λp=>decide (p.1≠d)
end L2
namespace L2
open PySem PySem.Spec PyProof.Rows
structure Mod (K:W.Frag) (mg:Str->Option Value) (base:Heap):Prop where
 kin:K.In base
 glob:base.Ns mainGlobals mg
 blt:∃mb,base.Ns builtinsNs mb/\∀x:Str,x≠"__name__"->mb x=bootBuiltins x
 nolimit:base.NoLimit
structure Cx where
 prog:Program
 w:World
 K:W.Frag
 mg:Str->Option Value
 base:Heap
 A:Around
 N:List Str
 s₀:Shared
 H₀:Hp
 env:Env
 outer:List Env
 stack:List Env
 ex:List Addr
 fn:Str->Bool
 calm:Bool
 pn:List (Addr×Obj)
 xe:Value->Shared->Prop
def frs (l:List Env):List Addr:=l.filterMap (·.frame)
abbrev Cx.fs (X:Cx):List Addr:=frs X.outer
def Vis (sc:Scope) (x:Str):Prop:=sc.names.lookup x=some .local\/sc.names.lookup x=some .cell\/sc.names.lookup x=some .free
def Loc (sc:Scope) (x:Str):Prop:=sc.names.lookup x=some .local\/sc.names.lookup x=some .cell
def Look (env:Env) (h:Heap) (m:Str->Option Value) (x:Str) (u:Value):Prop:=
 (env.kindOf x=some .local/\m x=some u)\/((env.kindOf x=some .cell\/env.kindOf x=some .free)/\∃c,env.cells.lookup x=some c/\h.IsCell c (some u))
structure Cx.Ok (X:Cx):Prop where
 mod:Mod X.K X.mg X.base
 kind:X.env.scope.kind=.function
 glob:X.env.globals=mainGlobals
 blt:X.env.builtins=builtinsNs
 above:X.s₀.heap.objs.size<=X.env.locals
 inj:∀x y c,X.env.cells.lookup x=some c->X.env.cells.lookup y=some c->x=y
 has:∀x,(X.env.kindOf x=some .cell\/X.env.kindOf x=some .free)->∃c,X.env.cells.lookup x=some c
 cab:∀x c,X.fn x=true->X.env.cells.lookup x=some c->X.s₀.heap.objs.size<=c
 hd:X.calm=true->X.A.handled=none
 frames:X.A.frames=some X.stack
 stk:X.stack=X.outer\/(X.stack=X.env :: X.outer/\X.env.frame=some X.env.locals)
 exf:∀b∈X.ex,b≠X.env.locals/\∀x c,X.env.cells.lookup x=some c->c≠b
 bs:∀b o,X.base.get? b=some o->X.s₀.heap.get? b=some o/\X.H₀ b=none
 bsz:X.base.objs.size<=X.s₀.heap.objs.size
 noex:∀b o,X.base.get? b=some o->b∉X.ex
 exfs:∀b∈X.ex,b∉X.fs
 funs:X.s₀.heap.FunFrames X.base X.outer
 frf:∀b∈X.fs,X.H₀ b=none
structure Inv (X:Cx) (pins:List (Addr×Obj)) (σ:List (Option V)) (H:Hp) (s:Shared):Prop where
 ok:X.Ok
 os:s.os=X.s₀.os
 bare:AllBare s.gens
 base:Un X.fs X.ex X.H₀ H X.s₀.heap s.heap
 loc:∃m,s.heap.Ns X.env.locals m/\∀(i:Nat) (x:Str) (v:V),X.N[i]?=some x->σ[i]?=some (some v)->Vis X.env.scope x->∃u,Ys v u/\Look X.env s.heap m x u
 cell:∀x c,X.env.cells.lookup x=some c->∃v,s.heap.IsCell c v
 free:H X.env.locals=none
 freeC:∀x c,X.env.cells.lookup x=some c->H c=none
 pin:∀p∈X.pn ++ pins,s.heap.get? p.1=some p.2/\H p.1=none/\p.1≠X.env.locals/\p.1∉X.fs/\∀v,p.2.data≠.cell v
 hok:HOk X.prog X.w H s.heap
 len:σ.length=X.N.length
section
variable {X:Cx}{pins:List (Addr×Obj)}{σ:List (Option V)}{H H':Hp}{s:Shared}{h':Heap}
theorem Cx.Ok.nofr (ok:X.Ok) {b:Addr}{o:Obj} (e:X.base.get? b=some o):b∉X.fs:=λhb=>by
 have:=(ok.funs.mem hb).1;rw[e]at this;cases this
theorem Inv.bs (I:Inv X pins σ H s):∀b o,X.base.get? b=some o->s.heap.get? b=some o/\H b=none:=λb o e=>
 ⟨I.base.keep b o (I.ok.bs b o e).1 (I.ok.bs b o e).2 (I.ok.nofr e) (I.ok.noex b o e),I.base.free b o (I.ok.bs b o e).1 (I.ok.bs b o e).2 (I.ok.noex b o e)⟩
theorem Inv.bk (I:Inv X pins σ H s):∀b o,X.base.get? b=some o->s.heap.get? b=some o:=λb o e=>(I.bs b o e).1
theorem Inv.mod (I:Inv X pins σ H s):Mod X.K X.mg X.base:=I.ok.mod
theorem Inv.kIn (I:Inv X pins σ H s):X.K.In s.heap:=I.ok.mod.kin.keeps I.bk
theorem Inv.lt (I:Inv X pins σ H s):X.env.locals < s.heap.objs.size:=let ⟨_,hn,_⟩:=I.loc;hn.lt
theorem Inv.sz (I:Inv X pins σ H s):X.s₀.heap.objs.size<=s.heap.objs.size:=YMP I.ok.above (YNa I.lt)
theorem Inv.nofs (I:Inv X pins σ H s) {a:Addr} (h:s.heap.objs.size<=a):a∉X.fs:=λhb=>by
 obtain⟨_,o,ho,_⟩:=I.ok.funs.mem hb;exact absurd (YL9 (YL4 ho) (YMP I.sz h)) (YMm _)
theorem Inv.cne (I:Inv X pins σ H s):∀x c,X.env.cells.lookup x=some c->c≠X.env.locals:=λx c e z=>by
 obtain⟨v,o,ho,hd⟩:=I.cell x c e;obtain⟨m,⟨o',es,ep,ho',hd',_⟩,_⟩:=I.loc;rw[z,ho']at ho;cases ho;rw[hd']at hd;cases hd
theorem Inv.funs (I:Inv X pins σ H s):s.heap.FunFrames X.base X.outer:=by
 have all:∀(l:List Env),(∀b∈frs l,b∈X.fs)->X.s₀.heap.FunFrames X.base l->s.heap.FunFrames X.base l:=by
  intro l
  induction l with
  |nil=>intro _ _;trivial
  |cons env r ih=>
   intro hs hl;obtain⟨hk,⟨L,o,hf,hn,ho,hd⟩,hr⟩:=hl;have hL:L∈X.fs:=hs L (by unfold frs;rw[List.filterMap_cons,hf];exact YMG);obtain⟨sl,e⟩:=I.base.slot L o ho (I.ok.frf L hL) hL λz=>I.ok.exfs L z hL
   exact⟨hk,⟨L,_,hf,hn,e,hd⟩,ih (λb hb=>hs b (by unfold frs;rw[List.filterMap_cons,hf];exact YL6 _ hb)) hr⟩
 exact all X.outer (λ_ hb=>hb) I.ok.funs
theorem Inv.stack (I:Inv X pins σ H s):s.heap.FunFrames X.base X.stack:=by
 rcases I.ok.stk with e |⟨e,hf⟩
 ·rw[e];exact I.funs
 ·rw[e];obtain⟨m,hn,_⟩:=I.loc;refine .cons (by rw[I.ok.kind];decide) hf hn ?_ I.funs;exact Heap.get?_none_of_le (YMP I.ok.bsz I.ok.above)
theorem Inv.stkSub (I:Inv X pins σ H s):∀b∈frs X.stack,b∈X.env.locals :: X.fs:=λb hb=>by
 rcases I.ok.stk with e |⟨e,hf⟩
 ·rw[e]at hb;exact YL6 _ hb
 ·rw[e]at hb;unfold frs at hb;rw[List.filterMap_cons,hf]at hb;exact hb
theorem Inv.stkFree (I:Inv X pins σ H s):∀b∈frs X.stack,H b=none:=λb hb=>by
 rcases YMA.mp (I.stkSub b hb) with e |hb
 ·rw[e];exact I.free
 ·obtain⟨_,o,ho,_⟩:=I.ok.funs.mem hb;exact I.base.free b o ho (I.ok.frf b hb) λz=>I.ok.exfs b z hb
theorem Inv.step {g':Array GenState}{t':Nat}{d':Drawn}{ch:List Addr} (I:Inv X pins σ H s)
  (uB:∀b∈ch,(b∈X.ex\/X.s₀.heap.objs.size<=b)/\b≠X.env.locals/\(∀x c,X.env.cells.lookup x=some c->c≠b)/\∀p∈X.pn ++ pins,p.1≠b)
  (keep:∀b o,b≠X.env.locals->b∉X.fs->b∉ch->s.heap.get? b=some o->H b=none->h'.get? b=some o)
  (slot:∀b o,b≠X.env.locals->b∈X.fs->b∉ch->s.heap.get? b=some o->H b=none->∃sl,h'.get? b=some { o with slots:=sl }) (free:∀b o,b∉ch->s.heap.get? b=some o->H b=none->H' b=none)
  (there:∀b o,b∉ch->s.heap.get? b=some o->∃o',h'.get? b=some o')
  (tups:∀b xs,H b=some (.tup xs)->H' b=some (.tup xs)) (frzs:∀b o u,H b=some (.frz o u)->H' b=some (.frz o u)) (tbls:∀b ps,H b=some (.tbl ps)->∃more,H' b=some (.tbl (ps ++ more)))
  (ns:∀m,s.heap.Ns X.env.locals m->h'.Ns X.env.locals m) (hok:HOk X.prog X.w H' h') (hg:AllBare g'):
  Inv X pins σ H' { s with heap:=h',gens:=g',drawn:=d',toks:=t' }:=by
 have neL:∀b o,X.s₀.heap.get? b=some o->b≠X.env.locals:=λb o e=>YMS (YL9 (YL4 e) I.ok.above)
 have neC:∀b o,X.s₀.heap.get? b=some o->b∉X.ex->b∉ch:=λb o e hx hb=>by
  rcases(uB b hb).1 with z |z
  ·exact hx z
  ·exact absurd (YL9 (YL4 e) z) (YMm _)
 have cellK:∀x c,X.env.cells.lookup x=some c->∀v,s.heap.IsCell c v->h'.IsCell c v:=λx c e v ⟨o,ho,hd⟩=>by
  have nch:c∉ch:=λz=>(uB c z).2.2.1 x c e rfl
  by_cases hc:c∈X.fs
  ·obtain⟨sl,q⟩:=slot c o (I.cne x c e) hc nch ho (I.freeC x c e);exact⟨_,q,hd⟩
  ·exact⟨o,keep c o (I.cne x c e) hc nch ho (I.freeC x c e),hd⟩
 refine⟨I.ok,I.os,hg,⟨λb o e n hb hx=>?_,λb o e n hb hx=>?_,λb o e n hx=>?_,λb o e hx=>?_,λb xs e=>tups b xs (I.base.tups b xs e),λb o xs e=>frzs b o xs (I.base.frzs b o xs e),λb ps e=>?_⟩,?_,λx c e=>?_,?_,λx c e=>?_,λp hp=>?_,hok,I.len⟩
 ·exact keep b o (neL b o e) hb (neC b o e hx) (I.base.keep b o e n hb hx) (I.base.free b o e n hx)
 ·obtain⟨sl,e1⟩:=I.base.slot b o e n hb hx;obtain⟨vU,e2⟩:=slot b _ (neL b o e) hb (neC b o e hx) e1 (I.base.free b o e n hx);exact⟨vU,e2⟩
 ·obtain⟨o',e1⟩:=I.base.there b o e hx;exact free b o' (neC b o e hx) e1 (I.base.free b o e n hx)
 ·obtain⟨o',e1⟩:=I.base.there b o e hx;exact there b o' (neC b o e hx) e1
 ·obtain⟨m1,e1⟩:=I.base.tbls b ps e;obtain⟨m2,e2⟩:=tbls b _ e1;exact⟨m1 ++ m2,by rw[e2,Array.append_assoc]⟩
 ·obtain⟨m,hn,hl⟩:=I.loc;refine⟨m,ns m hn,λi x v e1 e2 e3=>?_⟩;obtain⟨u,r,l⟩:=hl i x v e1 e2 e3;refine⟨u,r,?_⟩;rcases l with l |⟨k,c,e,z⟩
  ·exact .inl l
  ·exact .inr ⟨k,c,e,cellK x c e _ z⟩
 ·obtain⟨v,z⟩:=I.cell x c e;exact⟨v,cellK x c e v z⟩
 ·obtain⟨m,⟨o,_,_,ho,_⟩,_⟩:=I.loc;exact free _ o (λz=>(uB _ z).2.1 rfl) ho I.free
 ·obtain⟨v,o,ho,hd⟩:=I.cell x c e;exact free c o (λz=>(uB c z).2.2.1 x c e rfl) ho (I.freeC x c e)
 ·obtain⟨e,n,ne,nf,d⟩:=I.pin p hp;have nch:p.1∉ch:=λz=>(uB p.1 z).2.2.2 p hp rfl
  exact⟨keep p.1 p.2 ne nf nch e n,free p.1 p.2 nch e n,ne,nf,d⟩
theorem Inv.un {t':Nat} (I:Inv X pins σ H s) (u:Un X.fs [] H H' s.heap h') (hok:HOk X.prog X.w H' h'):Inv X pins σ H' { s with heap:=h',toks:=t' }:=by
 obtain⟨m,⟨o,es,ep,ho,r⟩,_⟩:=id I.loc;obtain⟨sl,hL⟩:=u.any ho I.free (by simp);exact I.step (g':=s.gens) (d':=s.drawn) (ch:=[]) (λ_ z=>nomatch z) (λb o _ hb _ e n=>u.keep b o e n hb (by simp)) (λb o _ hb _ e n=>u.slot b o e n hb (by simp)) (λb o _ e n=>u.free b o e n (by simp)) (λb o _ e=>u.there b o e (by simp)) u.tups u.frzs u.tbls (λm' hm=>by
  obtain⟨o',es',ep',ho',r'⟩:=hm;rw[ho]at ho';cases ho';exact⟨_,es',ep',hL,r'⟩) hok I.bare
theorem Inv.call {g':Array GenState}{t':Nat}{d':Drawn}{ch:List Addr} (I:Inv X pins σ H s) (u:Un (frs X.stack) ch H H' s.heap h') (hok:HOk X.prog X.w H' h') (hg:AllBare g')
  (uB:∀b∈ch,(b∈X.ex\/X.s₀.heap.objs.size<=b)/\b≠X.env.locals/\(∀x c,X.env.cells.lookup x=some c->c≠b)/\∀p∈X.pn ++ pins,p.1≠b):
  Inv X pins σ H' { s with heap:=h',gens:=g',drawn:=d',toks:=t' }:=by
 obtain⟨m,⟨o,es,ep,ho,r⟩,_⟩:=id I.loc;obtain⟨sl,hL⟩:=u.any ho I.free λz=>(uB _ z).2.1 rfl
 exact I.step (ch:=ch) uB (λb o hL hb hc e n=>u.keep b o e n (λz=>(YMA.mp (I.stkSub b z)).elim hL hb) hc) (λb o _ _ hc e n=>u.any e n hc) (λb o hc e n=>u.free b o e n hc) (λb o hc e=>u.there b o e hc) u.tups u.frzs u.tbls (λm' hm=>by
  obtain⟨o',es',ep',ho',r'⟩:=hm;rw[ho]at ho';cases ho';exact⟨_,es',ep',hL,r'⟩) hok hg
theorem Inv.turned {t':Nat}{it:Addr} (I:Inv X pins σ H s) (k:∀b o,b≠it->s.heap.get? b=some o->h'.get? b=some o) (hn:H it=none) (hL:it≠X.env.locals)
  (h1:it∈X.ex\/X.s₀.heap.objs.size<=it) (h2:∀x c,X.env.cells.lookup x=some c->c≠it) (h3:∀p∈X.pn ++ pins,p.1≠it):Inv X pins σ H { s with heap:=h',toks:=t' }:=by
 have nit:∀b u,H b=some u->b≠it:=λb u e z=>by rw[z,hn]at e;cases e
 refine I.step (g':=s.gens) (d':=s.drawn) (ch:=[it]) (λb hb=>?_) (λb o _ _ hc e _=>k b o (λz=>hc (by simp[z])) e) (λb o _ _ hc e _=>⟨o.slots,k b o (λz=>hc (by simp[z])) e⟩) (λ_ _ _ _ n=>n)
  (λb o hc e=>⟨o,k b o (λz=>hc (by simp[z])) e⟩) (λ_ _ e=>e) (λ_ _ _ e=>e) (λb ps e=>⟨#[],by rw[e];simp⟩) (λm hm=>?_) (λb u e=>?_) I.bare
 ·have e:b=it:=by simpa using hb
  subst e;exact⟨h1,hL,h2,h3⟩
 ·obtain⟨o,es,ep,ho,r⟩:=hm;exact⟨o,es,ep,k _ o (Ne.symm hL) ho,r⟩
 ·refine(I.hok b u e).stay (λc v hc q=>k c v ?_ q) (λ_ q=>q) λ_ _ q=>q
  rcases hc with z |z
  ·rw[z];exact nit b u e
  ·exact nit c _ z
theorem Inv.tok (I:Inv X pins σ H s) (t:Nat):Inv X pins σ H { s with toks:=t }:=I.un (h':=s.heap) (t':=t) Un.refl I.hok
theorem Inv.kept {t':Nat} (I:Inv X pins σ H s) (k:∀b u,s.heap.get? b=some u->h'.get? b=some u):Inv X pins σ H { s with heap:=h',toks:=t' }:=I.un (Un.kept k) (I.hok.kept k)
theorem Inv.laid {a:Addr}{o:HO}{t':Nat} (I:Inv X pins σ H s) (k:∀b u,s.heap.get? b=some u->h'.get? b=some u) (hp:s.heap.objs.size<=a) (new:Y3 X.prog X.w (upd H a o) h' a o):
  Inv X pins σ (upd H a o) { s with heap:=h',toks:=t' }:=I.un (Un.laid k hp (I.hok.fresh hp)) (I.hok.laid k hp new)
theorem Inv.write {x e:Addr}{o:HO}{t':Nat} (I:Inv X pins σ H s) (mu:Mut (H x)) (he:e=x\/H e=some (.own x)) (k:∀b u,b≠e->s.heap.get? b=some u->h'.get? b=some u) (yH:∃u,h'.get? e=some u)
  (new:Y3 X.prog X.w (upd H x o) h' x o):Inv X pins σ (upd H x o) { s with heap:=h',toks:=t' }:=I.un (Un.write mu he k yH) (I.hok.write mu he k yH new)
theorem Inv.pins_of {vV:List (Addr×Obj)} (I:Inv X pins σ H s) (h:∀p∈vV,s.heap.get? p.1=some p.2/\H p.1=none/\p.1≠X.env.locals/\p.1∉X.fs/\∀v,p.2.data≠.cell v):Inv X vV σ H s:=
 ⟨I.ok,I.os,I.bare,I.base,I.loc,I.cell,I.free,I.freeC,λp hp=>(YMN.mp hp).elim (λz=>I.pin p (YMc _ z)) (h p),I.hok,I.len⟩
theorem YGJ {N:List Str} (hN:N.Nodup) {i j:Nat}{x:Str} (a:N[i]?=some x) (b:N[j]?=some x):i=j:=by
 obtain⟨h1,e1⟩:=YLv.mp a;obtain⟨h2,e2⟩:=YLv.mp b;exact(List.getElem_inj hN).mp (e1.trans e2.symm)
theorem YJU {M:Model}{A:Around}{E:Value->Shared->Prop}{i:Nat}{x:Str}{v:V}{u:Value}{Q:Unit->Shared->Prop} (I:Inv X pins σ H s) (hN:X.N.Nodup) (hi:X.N[i]?=some x) (hx:Loc X.env.scope x) (r:Ys v u)
  (h:∀s',Inv X pins (σ.set i (some v)) H s'->(∃a,Heap.SameBut a s.heap s'.heap/\(a=X.env.locals\/X.env.cells.lookup x=some a))->Q () s') (hf:X.fn x=true\/X.env.scope.names.lookup x=some .local:=by first |exact .inl rfl |exact .inr rfl |assumption):wpAny M A (storeName X.env x u) Q E s:=by
 obtain⟨m,hn,hl⟩:=id I.loc;have WF:(X.env.scope.kind == .class || (X.env.scope.kind == .module && X.env.locals != X.env.globals))=false:=by rw[I.ok.kind];rfl
 have hiσ:i < σ.length:=by rw[I.len];exact(YLv.mp hi).1
 have cne:=I.cne;have tracked:∀{a:Addr}{h':Heap},(∃o,s.heap.get? a=some o/\H a=none)->Heap.SameBut a s.heap h'->HOk X.prog X.w H h':=λ{a h'} ha hs b ob e=>by
  obtain⟨_,_,hfree⟩:=ha;refine(I.hok b ob e).stay (λc w' hc q=>(hs.2 c ?_).trans q) (λ_ q=>q) λ_ _ q=>q
  rintro rfl;rcases hc with rfl |hc
  ·rw[hfree]at e;cases e
  ·rw[hfree]at hc;cases hc
 rcases hx with hk |hk
 ·refine wpAny_storeName_local hk hn (λh' hn' hs=>?_) WF;obtain⟨oL,_,_,hoL,_⟩:=id hn;refine h _ ⟨I.ok,I.os,I.bare,⟨λb o e n hb hx=>?_,λb o e n hb hx=>?_,I.base.free,λb o e hx=>?_,I.base.tups,I.base.frzs,I.base.tbls⟩,⟨_,hn',λj y v' e1 e2 e3=>?_⟩,λy c e=>?_,I.free,I.freeC,λp hp=>?_,tracked ⟨oL,hoL,I.free⟩ hs,by simpa using I.len⟩ ⟨_,hs,.inl rfl⟩
  ·exact(hs.2 b (YMS (YL9 (YL4 e) I.ok.above))).trans (I.base.keep b o e n hb hx)
  ·obtain⟨sl,e1⟩:=I.base.slot b o e n hb hx;exact⟨sl,(hs.2 b (YMS (YL9 (YL4 e) I.ok.above))).trans e1⟩
  ·obtain⟨o',e1⟩:=I.base.there b o e hx;exact⟨o',(hs.2 b (YMS (YL9 (YL4 e) I.ok.above))).trans e1⟩
  ·by_cases hj:j=i
   ·subst hj;rw[hi]at e1;cases e1;rw[YNM hiσ]at e2;cases e2;exact⟨u,r,.inl ⟨hk,by simp⟩⟩
   ·rw[List.getElem?_set_ne (Ne.symm hj)]at e2;obtain⟨u',r',q⟩:=hl j y v' e1 e2 e3;refine⟨u',r',?_⟩;rcases q with ⟨k,e⟩ |⟨k,c,e,z⟩
    ·refine .inl ⟨k,?_⟩;have:y≠x:=λe=>hj (YGJ hN e1 (e ▸ hi))
     simp[this,e]
    ·exact .inr ⟨k,c,e,z.sameBut hs (cne y c e)⟩
  ·obtain⟨w',z⟩:=I.cell y c e;exact⟨w',z.sameBut hs (cne y c e)⟩
  ·obtain⟨e,n,ne,nf,d⟩:=I.pin p hp;exact⟨(hs.2 p.1 ne).trans e,n,ne,nf,d⟩
 ·have hfn:X.fn x=true:=by
   rcases hf with z |z
   ·exact z
   ·rw[z]at hk;cases hk
  obtain⟨c,hc⟩:=I.ok.has x (.inl hk);obtain⟨w',z⟩:=I.cell x c hc;refine wpAny_storeName_cell I.ok.kind hk hc z (λh' hc' hs=>?_);obtain⟨oc,Rt,QZ⟩:=id z;refine h { s with heap:=h' } ⟨I.ok,I.os,I.bare,⟨λb o e n hb hx=>?_,λb o e n hb hx=>?_,I.base.free,λb o e hx=>?_,I.base.tups,I.base.frzs,I.base.tbls⟩,⟨m,hn.sameBut hs (Ne.symm (cne x c hc)),λj y v' e1 e2 e3=>?_⟩,λy c' e=>?_,I.free,I.freeC,λp hp=>?_,tracked ⟨oc,Rt,I.freeC x c hc⟩ hs,by simpa using I.len⟩ ⟨c,hs,.inr hc⟩
  ·exact(hs.2 b (YMS (YL9 (YL4 e) (I.ok.cab x c hfn hc)))).trans (I.base.keep b o e n hb hx)
  ·obtain⟨sl,e1⟩:=I.base.slot b o e n hb hx;exact⟨sl,(hs.2 b (YMS (YL9 (YL4 e) (I.ok.cab x c hfn hc)))).trans e1⟩
  ·obtain⟨o',e1⟩:=I.base.there b o e hx;exact⟨o',(hs.2 b (YMS (YL9 (YL4 e) (I.ok.cab x c hfn hc)))).trans e1⟩
  ·by_cases hj:j=i
   ·subst hj;rw[hi]at e1;cases e1;rw[YNM hiσ]at e2;cases e2;exact⟨u,r,.inr ⟨.inl hk,c,hc,hc'⟩⟩
   ·rw[List.getElem?_set_ne (Ne.symm hj)]at e2;obtain⟨u',r',q⟩:=hl j y v' e1 e2 e3;refine⟨u',r',?_⟩;rcases q with q |⟨k,c',e,z'⟩
    ·exact .inl q
    ·refine .inr ⟨k,c',e,z'.sameBut hs ?_⟩;rintro rfl;exact hj (YGJ hN e1 (I.ok.inj _ _ _ e hc ▸ hi))
  ·by_cases hcc:c'=c
   ·subst hcc;exact⟨_,hc'⟩
   ·obtain⟨w2,z2⟩:=I.cell y c' e;exact⟨w2,z2.sameBut hs hcc⟩
  ·obtain⟨e,n,ne,nf,d⟩:=I.pin p hp;refine⟨(hs.2 p.1 ?_).trans e,n,ne,nf,d⟩;intro q;rw[q,Rt]at e;have q':oc=p.2:=YMO e;exact d w' (by rw[<-q'];exact QZ)
theorem YB1 {M:Model}{A:Around}{E:Value->Shared->Prop}{i:Nat}{x:Str}{v:V}{u:Value}{Q:Unit->Shared->Prop} (I:Inv X pins σ H s) (hN:X.N.Nodup) (hi:X.N[i]?=some x) (hx:Loc X.env.scope x) (r:Ys v u)
  (h:∀s',Inv X pins (σ.set i (some v)) H s'->Q () s') (hf:X.fn x=true\/X.env.scope.names.lookup x=some .local:=by first |exact .inl rfl |exact .inr rfl |assumption):wpAny M A (storeName X.env x u) Q E s:=
 YJU I hN hi hx r (λs' I' _=>h s' I') hf
theorem Inv.call' {s':Shared}{ch:List Addr} (I:Inv X pins σ H s) (ho:s'.os=s.os) (u:Un (frs X.stack) ch H H' s.heap s'.heap) (hok:HOk X.prog X.w H' s'.heap) (hg:AllBare s'.gens)
  (uB:∀b∈ch,(b∈X.ex\/X.s₀.heap.objs.size<=b)/\b≠X.env.locals/\(∀x c,X.env.cells.lookup x=some c->c≠b)/\∀p∈X.pn ++ pins,p.1≠b):Inv X pins σ H' s':=by
 obtain⟨h',g',d',t',o'⟩:=s';have e:o'=s.os:=ho;subst e;exact I.call (g':=g') (t':=t') (d':=d') u hok hg uB
end
abbrev XK:=Value->Option Addr->Hp->Prop
abbrev St:=List (Option V)
abbrev VK:=V->Hp->Prop
abbrev TE:=St->Hp->VK->Prop
abbrev TT:=St->Hp->(Bool->Hp->Prop)->Prop
abbrev TA:=St->Hp->(List V->Hp->Prop)->Prop
structure YAo where
 nx:St->Hp->Prop
 rt:VK
 bk:St->Hp->Prop:=λ_ _=>False
 ct:St->Hp->Prop:=λ_ _=>False
abbrev TS:=YAo->St->Hp->Prop
def EP (X:Cx) (pins:List (Addr×Obj)) (σ:St) (Q:VK) (u:Value) (s':Shared):Prop:=∃v H',Inv X pins σ H' s'/\Ys v u/\Q v H'
def TP (X:Cx) (pins:List (Addr×Obj)) (σ:St) (Q:Bool->Hp->Prop) (b:Bool) (s':Shared):Prop:=∃H',Inv X pins σ H' s'/\Q b H'
def AP (X:Cx) (pins:List (Addr×Obj)) (σ:St) (Q:List V->Hp->Prop) (us:List Value) (s':Shared):Prop:=∃vs H',Inv X pins σ H' s'/\Ym vs us/\Q vs H'
def SP (X:Cx) (pins:List (Addr×Obj)) (D:YAo) (f:Flow) (s':Shared):Prop:=
 match f with
 |.next=>∃σ' H',Inv X pins σ' H' s'/\D.nx σ' H'
 |.brk=>∃σ' H',Inv X pins σ' H' s'/\D.bk σ' H'
 |.cont=>∃σ' H',Inv X pins σ' H' s'/\D.ct σ' H'
 |.ret u=>∃v σ' H',Inv X pins σ' H' s'/\Ys v u/\D.rt v H'
def PE (X:Cx) (e:Expr) (t:TE):Prop:=
 ∀(pins:List (Addr×Obj)) (s:Shared) (σ:St) (H:Hp) (Q:VK),Inv X pins σ H s->t σ H Q->wpAny (model X.prog X.w) X.A (eval e X.env) (EP X pins σ Q) X.xe s
def PT (X:Cx) (e:Expr) (t:TT):Prop:=
 ∀(pins:List (Addr×Obj)) (s:Shared) (σ:St) (H:Hp) (Q:Bool->Hp->Prop),Inv X pins σ H s->t σ H Q->wpAny (model X.prog X.w) X.A (isTrue e X.env (eval e X.env)) (TP X pins σ Q) X.xe s
def PW (X:Cx) (e:Expr) (t:TT):Prop:=
 ∀(whole:Sem Value) (pins:List (Addr×Obj)) (s:Shared) (σ:St) (H:Hp) (Q:Bool->Hp->Prop),Inv X pins σ H s->t σ H Q->wpAny (model X.prog X.w) X.A (isTrue e X.env whole) (TP X pins σ Q) X.xe s
theorem PW.pt {X:Cx}{e:Expr}{t:TT} (h:PW X e t):PT X e t:=h _
def PA (X:Cx) (es:List Expr) (t:TA):Prop:=
 ∀(pos:Pos) (pins:List (Addr×Obj)) (s:Shared) (σ:St) (H:Hp) (Q:List V->Hp->Prop),Inv X pins σ H s->t σ H Q->wpAny (model X.prog X.w) X.A (spliced (backTo pos (starEach es X.env))) (AP X pins σ Q) X.xe s
def PS (X:Cx) (st:Stmt) (t:TS):Prop:=
 ∀(pins:List (Addr×Obj)) (s:Shared) (σ:St) (H:Hp) (D:YAo),Inv X pins σ H s->t D σ H->wpAny (model X.prog X.w) X.A (exec st X.env) (SP X pins D) X.xe s
def PSs (X:Cx) (st:List Stmt) (t:TS):Prop:=
 ∀(pins:List (Addr×Obj)) (s:Shared) (σ:St) (H:Hp) (D:YAo),Inv X pins σ H s->t D σ H->wpAny (model X.prog X.w) X.A (execs st X.env) (SP X pins D) X.xe s
theorem thn {α:Type}{t:Sem α}{Q Q':α->Shared->Prop}{M:Model}{A:Around}{E:Value->Shared->Prop}{s:Shared} (h:wpAny M A t Q E s) (hQ:∀a s,Q a s->Q' a s):wpAny M A t Q' E s:=wpAny_mono h hQ λ_ _ x=>x
end L2
namespace L2
open PySem PySem.Spec PyProof.Rows
section
variable {X:Cx}
inductive tVar_ (i:Nat) (σ:St) (H:Hp) (Q:VK):Prop where
 |mk (v:_) (a_:σ[i]?=some (some v)) (bc:Q v H):tVar_ i σ H Q
def YGK (i:Nat):TE:=λσ H Q=>tVar_ i σ H Q
def tC (v:V):TE:=λ_ H Q=>Q v H
theorem pe_var {i:Nat}{x:Str}{pos:Pos} (hN:X.N[i]?=some x) (hv:Vis X.env.scope x) (hd:(x == ("__debug__":Str))=false:=by decide) (hcd:(x == ("__classdict__":Str))=false:=by decide):PE X (.Name x pos) (YGK i):=by
 intro pins s σ H Q I h;obtain⟨v,e,h⟩:=h;obtain⟨m,hn,hl⟩:=I.loc;obtain⟨u,r,l⟩:=hl i x v hN e hv;have fin:EP X pins σ Q u s:=⟨v,H,I,r,h⟩;rcases l with ⟨hk,hm⟩ |⟨hk,c,hc,cU⟩
 ·exact wpAny_Name (wpAny_loadName_local I.ok.kind hk hn hm fin) hd
 ·rcases hk with hk |hk
  ·exact wpAny_Name (wpAny_loadName_cell I.ok.kind hk hc cU fin) hd
  ·exact wpAny_Name (wpAny_loadName_free I.ok.kind hk hc cU fin hcd) hd
theorem YC {i j pos}:PE X (.Constant (.int i) j pos) (tC (.int i)):=λ_ _ _ H _ I h=>wpAny_Constant_int ⟨.int i,H,I.tok _,⟨_,Z⟩,h⟩
theorem XL {b j pos}:PE X (.Constant (.bool b) j pos) (tC (.bl b)):=λ_ _ _ H _ I h=>Constant_bool ⟨.bl b,H,I,Z,h⟩
theorem Xd {j pos}:PE X (.Constant .none j pos) (tC .non):=λ_ _ _ H _ I h=>Constant_none ⟨.non,H,I,Z,h⟩
theorem ZH {x j pos}:PE X (.Constant (.str x) j pos) (tC (.str x)):=λ_ _ _ H _ I h=>Calls.Constant_str ⟨.str x,H,I.tok _,⟨_,Z⟩,h⟩
def Gl (X:Cx) (x:Str):Prop:=X.env.kindOf x=some .globalImplicit
theorem YDH {E:Value->Shared->Prop}{pins:List (Addr×Obj)}{s:Shared}{σ:St}{H:Hp}{x:Str}{u:Value}{pos:Pos}{Q:Value->Shared->Prop} (I:Inv X pins σ H s) (hg:Gl X x) (hm:X.mg x=some u) (h:Q u s)
  (hd:(x == ("__debug__":Str))=false:=by decide):wpAny (model X.prog X.w) X.A (eval (.Name x pos) X.env) Q E s:=
 Calls.Name_function_global I.ok.kind hg (Calls.loadGlobal_global (by rw[I.ok.glob];exact I.mod.glob.keeps I.bk) hm h) hd
theorem JT {E:Value->Shared->Prop}{pins:List (Addr×Obj)}{s:Shared}{σ:St}{H:Hp}{x:Str}{u:Value}{pos:Pos}{Q:Value->Shared->Prop} (I:Inv X pins σ H s) (hg:Gl X x) (hm:X.mg x=none) (hv:bootBuiltins x=some u) (h:Q u s)
  (hn:x≠"__name__":=by decide) (hd:(x == ("__debug__":Str))=false:=by decide):wpAny (model X.prog X.w) X.A (eval (.Name x pos) X.env) Q E s:=by
 obtain⟨mb,h1,h2⟩:=I.mod.blt;exact Calls.Name_function_global I.ok.kind hg (Calls.loadGlobal_builtin (by rw[I.ok.glob];exact I.mod.glob.keeps I.bk) hm (by rw[I.ok.blt];exact h1.keeps I.bk) ((h2 x hn).trans hv) h) hd
theorem X1 {x:Str}{v:V}{u:Value}{pos:Pos} (hg:Gl X x) (hm:X.mg x=some u) (r:Ys v u) (hd:(x == ("__debug__":Str))=false:=by decide):PE X (.Name x pos) (tC v):=
 λ_ _ _ H _ I h=>YDH I hg hm ⟨v,H,I,r,h⟩ hd
theorem XO {x:Str}{v:V}{u:Value}{pos:Pos} (hg:Gl X x) (hm:X.mg x=none) (hv:bootBuiltins x=some u) (r:Ys v u) (hn:x≠"__name__":=by decide) (hd:(x == ("__debug__":Str))=false:=by decide):PE X (.Name x pos) (tC v):=
 λ_ _ _ H _ I h=>JT I hg hm hv ⟨v,H,I,r,h⟩ hn hd
variable {a b:Expr}{ta tb:TE}{pos:Pos}
def PC (X:Cx) (op:CmpOp) (a b:Expr) (t:TE):Prop:=
 ∀(pins:List (Addr×Obj)) (s:Shared) (σ:St) (H:Hp) (Q:VK),Inv X pins σ H s->t σ H Q->
  wpAny (model X.prog X.w) X.A (eval a X.env) (λv s₁=>wpAny (model X.prog X.w) X.A (eval b X.env) (λu s₂=>wpAny (model X.prog X.w) X.A (compareOp op v u) (EP X pins σ Q) X.xe s₂) X.xe s₁) X.xe s
inductive tB_ (Q:Bool->Hp->Prop) (x:V) (H1:Hp):Prop where
 |mk (c:_) (a_:x=.bl c) (bc:Q c H1):tB_ Q x H1
def tB (t:TE):TT:=λσ H Q=>t σ H λx H1=>tB_ Q x H1
theorem YAq {op:CmpOp}{t:TE} (h:PC X op a b t) (h1:behindInMarks op b=false:=by first |exact nobehind _ (by decide) (by decide) |rfl):PT X (.Compare a [op] [b] pos) (tB t):=by
 intro pins s σ H Q I hw;refine wpAny_isTrue_Compare1 (thn (h pins s σ H _ I hw) λv s1 h1=>thn h1 λu s2 h2=>thn h2 λc s3 ⟨x,H1,I1,r1,q1⟩=>?_) h1;obtain⟨d,rfl,q⟩:=q1;cases r1;exact wpAny_truthy_bool ⟨H1,I1,q⟩
theorem JH {e:Expr}{t:TE} (h:PE X e t) (he:∀whole,isTrue e X.env whole=(do let v <-whole;standAt e.pos;holding [v] (truthy v)):=by intro _;rfl):PT X e (tB t):=by
 intro pins s σ H Q I hw;refine isTrue_plain (thn (h pins s σ H _ I hw) λv s1 ⟨x,H1,I1,r1,q1⟩=>?_) (he _);obtain⟨d,rfl,q⟩:=q1;cases r1;exact wpAny_truthy_bool ⟨H1,I1,q⟩
variable {tA tB':TT}{rest:List Expr}
def tAnd (t u:TT):TT:=λσ H Q=>t σ H λc H1=>if c=true then u σ H1 Q else Q false H1
def tOr (t u:TT):TT:=λσ H Q=>t σ H λc H1=>if c=true then Q true H1 else u σ H1 Q
def tNot (t:TT):TT:=λσ H Q=>t σ H λc H1=>Q (!c) H1
theorem XQ (ha:PT X a tA):PW X (.BoolOp .And [a] pos) tA:=by
 intro wh pins s σ H Q I h;refine isTrue_and (thn (ha pins s σ H Q I h) λc s1 e=>?_);cases c with
 |true=>exact isTrue_and_nil e
 |false=>exact e
theorem YAT (ha:PT X a tA):PW X (.BoolOp .Or [a] pos) tA:=by
 intro wh pins s σ H Q I h;refine isTrue_or (thn (ha pins s σ H Q I h) λc s1 e=>?_);cases c with
 |false=>exact isTrue_or_nil e
 |true=>exact e
theorem X7 (ha:PT X a tA) (hb:PW X (.BoolOp .And (b :: rest) pos) tB'):PW X (.BoolOp .And (a :: b :: rest) pos) (tAnd tA tB'):=by
 intro wh pins s σ H Q I h;refine isTrue_and (thn (ha pins s σ H _ I h) λc s1 ⟨H1,I1,q1⟩=>?_);cases c with
 |true=>exact hb wh pins s1 σ H1 Q I1 q1
 |false=>exact⟨H1,I1,q1⟩
theorem YAr (ha:PT X a tA) (hb:PW X (.BoolOp .Or (b :: rest) pos) tB'):PW X (.BoolOp .Or (a :: b :: rest) pos) (tOr tA tB'):=by
 intro wh pins s σ H Q I h;refine isTrue_or (thn (ha pins s σ H _ I h) λc s1 ⟨H1,I1,q1⟩=>?_);cases c with
 |true=>exact⟨H1,I1,q1⟩
 |false=>exact hb wh pins s1 σ H1 Q I1 q1
theorem Xe (ha:PT X a tA):PT X (.UnaryOp .Not a pos) (tNot tA):=by
 intro pins s σ H Q I h;exact isTrue_not (ha pins s σ H (λc H1=>Q (!c) H1) I h)
def tAndV (ta tb:TE):TE:=λσ H Q=>ta σ H λx H1=>∃c,x=.bl c/\if c=true then tb σ H1 Q else Q (.bl false) H1
def tOrV (ta tb:TE):TE:=λσ H Q=>ta σ H λx H1=>∃c,x=.bl c/\if c=true then Q (.bl true) H1 else tb σ H1 Q
def tNotV (ta:TE):TE:=λσ H Q=>ta σ H λx H1=>∃c,x=.bl c/\Q (.bl (!c)) H1
theorem Xf {op}{t:TE} (h:PE X a t):PE X (.BoolOp op [a] pos) t:=λpins s σ H Q I hw=>BoolOp_one (h pins s σ H Q I hw)
theorem Jw (ha:PE X a ta) (hb:PE X (.BoolOp .And (b :: rest) pos) tb):PE X (.BoolOp .And (a :: b :: rest) pos) (tAndV ta tb):=by
 intro pins s σ H Q I h;refine BoolOp_and (thn (ha pins s σ H _ I h) λv s1 ⟨x,H1,I1,r1,q1⟩=>?_);obtain⟨c,rfl,q1⟩:=q1;cases r1;refine wpAny_truthy_bool ?_;cases c with
 |true=>exact hb pins s1 σ H1 Q I1 q1
 |false=>exact⟨.bl false,H1,I1,Z,q1⟩
theorem pe_or (ha:PE X a ta) (hb:PE X (.BoolOp .Or (b :: rest) pos) tb):PE X (.BoolOp .Or (a :: b :: rest) pos) (tOrV ta tb):=by
 intro pins s σ H Q I h;refine BoolOp_or (thn (ha pins s σ H _ I h) λv s1 ⟨x,H1,I1,r1,q1⟩=>?_);obtain⟨c,rfl,q1⟩:=q1;cases r1;refine wpAny_truthy_bool ?_;cases c with
 |false=>exact hb pins s1 σ H1 Q I1 q1
 |true=>exact⟨.bl true,H1,I1,Z,q1⟩
theorem pe_not (ha:PE X a ta):PE X (.UnaryOp .Not a pos) (tNotV ta):=by
 intro pins s σ H Q I h;refine UnaryOp_ (thn (ha pins s σ H _ I h) λv s1 ⟨x,H1,I1,r1,q1⟩=>?_);obtain⟨c,rfl,q1⟩:=q1;cases r1;exact not_of (wpAny_truthy_bool ⟨.bl (!c),H1,I1,Z,q1⟩)
def tIf (t:TT) (ta tb:TE):TE:=λσ H Q=>t σ H λc H1=>if c=true then ta σ H1 Q else tb σ H1 Q
theorem YAG {c:Expr} (hc:PT X c tA) (ha:PE X a ta) (hb:PE X b tb):PE X (.IfExp c a b pos) (tIf tA ta tb):=by
 intro pins s σ H Q I h;refine wpAny_IfExp (thn (hc pins s σ H _ I h) λd s1 ⟨H1,I1,q1⟩=>?_);cases d with
 |true=>exact ha pins s1 σ H1 Q I1 q1
 |false=>exact hb pins s1 σ H1 Q I1 q1
end
end L2
namespace L2
open PySem PySem.Spec PyProof.Rows
def SqL (K:W.Frag) (H:Hp) (a:Addr) (xs:List V):Prop:=
 Rd H a (.lst xs)\/
  ∃(o:Obj) (its:Array Value) (n:Nat),K.lookup a=some o/\o.cls=.type "list"/\o.dict=none/\o.data=.seq its n/\its.size<=sizeLine/\Ym xs its.toList
def SqT (K:W.Frag) (H:Hp) (a:Addr) (xs:List V):Prop:=
 Rd H a (.tup xs)\/
  ∃(o:Obj) (its:Array Value) (n:Nat),K.lookup a=some o/\o.cls=.type "tuple"/\o.data=.seq its n/\its.size<=sizeLine/\Ym xs its.toList
def absV:Value->Option V
 |.none=>some .non
 |.bool b=>some (.bl b)
 |.int i _=>some (.int i)
 |.str x _=>some (.str x)
 |.bytes b _=>some (.byt b)
 |.float b _=>some (.flt b)
 |.ref a=>some (.ref a)
 |.type n=>some (.ty n)
 |_=>none
theorem Ys.abs {x:V}{u:Value} (r:Ys x u):absV u=some x:=by
 cases x with
 |non=>cases r;rfl
 |bl _=>cases r;rfl
 |int _=>obtain⟨t,rfl⟩:=r;rfl
 |str _=>obtain⟨t,rfl⟩:=r;rfl
 |byt _=>obtain⟨t,rfl⟩:=r;rfl
 |flt _=>obtain⟨t,rfl⟩:=r;rfl
 |ref _=>cases r;rfl
 |ty _=>cases r;rfl
theorem Ys.inj {x y:V}{u:Value} (r:Ys x u) (q:Ys y u):x=y:=YMO (r.abs.symm.trans q.abs)
theorem Ym.inj:∀{xs ys:List V}{us:List Value},Ym xs us->Ym ys us->xs=ys
 |_,_,_,.nil,.nil=>rfl
 |_,_,_,.cons r t,.cons r' t'=>by rw[r.inj r',Ym.inj t t']
section
variable {X:Cx}{pins:List (Addr×Obj)}{σ:St}{H:Hp}{s:Shared}{a:Addr}{xs ys:List V}
theorem SqL.of {K:W.Frag} (h:H a=some (.lst xs)):SqL K H a xs:=.inl (.inl h)
theorem SqT.of {K:W.Frag} (h:H a=some (.tup xs)):SqT K H a xs:=.inl (.inl h)
theorem Inv.list (I:Inv X pins σ H s) (h:SqL X.K H a xs):∃its:List Value,Ym xs its/\PlainL s.heap a its.toArray/\xs.length<=sizeLine:=by
 rcases h with h |⟨o,its,n,hk,hc,hd,hs,hz,r⟩
 ·obtain⟨z,its,n,r,e⟩:=h.ok I.hok;exact⟨its,r,⟨_,n,e,Z,Z,Z⟩,z⟩
 ·refine⟨its.toList,r,⟨o,n,I.kIn a o hk,hc,hd,by simpa using hs⟩,?_⟩;have e:=r.length;simp only[YMM]at e;omega
theorem Inv.tuple (I:Inv X pins σ H s) (h:SqT X.K H a xs):∃its:List Value,Ym xs its/\IsTup s.heap a its.toArray/\xs.length<=sizeLine:=by
 rcases h with h |⟨o,its,n,hk,hc,hs,hz,r⟩
 ·obtain⟨z,its,r,p⟩:=h.ok I.hok;exact⟨its,r,p,z⟩
 ·refine⟨its.toList,r,⟨o,I.kIn a o hk,hc,n,by simpa using hs⟩,?_⟩;have e:=r.length;simp only[YMM]at e;omega
theorem Inv.list_inj (I:Inv X pins σ H s) (h:SqL X.K H a xs) (h':SqL X.K H a ys):xs=ys:=by
 obtain⟨its,r,⟨o,n,e,_,_,d⟩,_⟩:=I.list h;obtain⟨its',r',⟨o',n',e',_,_,d'⟩,_⟩:=I.list h';rw[e]at e';cases e';rw[d]at d'
 injection d' with d1 _
 have:its=its':=by simpa using YMw Array.toList d1
 subst this;exact r.inj r'
theorem Inv.tuple_inj (I:Inv X pins σ H s) (h:SqT X.K H a xs) (h':SqT X.K H a ys):xs=ys:=by
 obtain⟨its,r,⟨o,e,_,n,d⟩,_⟩:=I.tuple h;obtain⟨its',r',⟨o',e',_,n',d'⟩,_⟩:=I.tuple h';rw[e]at e';cases e';rw[d]at d'
 injection d' with d1 _
 have:its=its':=by simpa using YMw Array.toList d1
 subst this;exact r.inj r'
end
abbrev Cx.wish (X:Cx) (E:Value->Shared->Prop):Cx:={ X with xe:=E }
abbrev Cx.nox (X:Cx):Cx:=X.wish λ_ _=>False
theorem Cx.Ok.wish {X:Cx} (ok:X.Ok) (E:Value->Shared->Prop):(X.wish E).Ok:=
 ⟨ok.mod,ok.kind,ok.glob,ok.blt,ok.above,ok.inj,ok.has,ok.cab,ok.hd,ok.frames,ok.stk,ok.exf,ok.bs,ok.bsz,ok.noex,ok.exfs,ok.funs,ok.frf⟩
theorem Cx.Ok.unwish {X:Cx}{E:Value->Shared->Prop} (ok:(X.wish E).Ok):X.Ok:=
 ⟨ok.mod,ok.kind,ok.glob,ok.blt,ok.above,ok.inj,ok.has,ok.cab,ok.hd,ok.frames,ok.stk,ok.exf,ok.bs,ok.bsz,ok.noex,ok.exfs,ok.funs,ok.frf⟩
section
variable {X:Cx}{pins:List (Addr×Obj)}{σ:St}{H:Hp}{s:Shared}{E:Value->Shared->Prop}
theorem Inv.wish (I:Inv X pins σ H s) (E:Value->Shared->Prop):Inv (X.wish E) pins σ H s:=⟨I.ok.wish E,I.os,I.bare,I.base,I.loc,I.cell,I.free,I.freeC,I.pin,I.hok,I.len⟩
theorem Inv.unwish (I:Inv (X.wish E) pins σ H s):Inv X pins σ H s:=⟨I.ok.unwish,I.os,I.bare,I.base,I.loc,I.cell,I.free,I.freeC,I.pin,I.hok,I.len⟩
theorem SP.unwish {D:YAo}{f:Flow}{s':Shared} (h:SP (X.wish E) pins D f s'):SP X pins D f s':=by
 cases f with
 |next=>obtain⟨σ',H',I,q⟩:=h;exact⟨σ',H',I.unwish,q⟩
 |brk=>obtain⟨σ',H',I,q⟩:=h;exact⟨σ',H',I.unwish,q⟩
 |cont=>obtain⟨σ',H',I,q⟩:=h;exact⟨σ',H',I.unwish,q⟩
 |ret u=>obtain⟨v,σ',H',I,r,q⟩:=h;exact⟨v,σ',H',I.unwish,r,q⟩
theorem PSs.nox {st:List Stmt}{t:TS} (h:PSs X.nox st t):PSs X st t:=λpins s σ H D I hw=>
 wpAny_mono (h pins s σ H D (I.wish _) hw) (λ_ _ q=>q.unwish) λ_ _ z=>False.elim z
end
section
variable {X:Cx}{st:Stmt}{rest:List Stmt}{t u:TS}{e:Expr}{te:TE}{pos:Pos}
def YDU:TS:=λD σ H=>D.nx σ H
def YGL (t u:TS):TS:=λD σ H=>t { D with nx:=u D } σ H
theorem Yk:PSs X [] YDU:=λ_ _ σ H _ I h=>wpAny_execs_nil ⟨σ,H,I,h⟩
theorem YG (h1:PS X st t) (h2:PSs X rest u):PSs X (st :: rest) (YGL t u):=by
 intro pins s σ H D I h;refine wpAny_execs_cons (thn (h1 pins s σ H { D with nx:=u D } I h) λf s1 q=>?_);cases f with
 |next=>
  obtain⟨σ',H',I',q⟩:=q;exact h2 pins s1 σ' H' D I' q
 |ret v=>exact q
 |brk=>exact q
 |cont=>exact q
theorem YF (h1:PS X st t):PSs X [st] t:=by
 intro pins s σ H D I h;refine wpAny_execs_cons (thn (h1 pins s σ H D I h) λf s1 q=>?_);cases f with
 |next=>exact wpAny_execs_nil q
 |ret v=>exact q
 |brk=>exact q
 |cont=>exact q
def tBreak:TS:=λD σ H=>D.bk σ H
theorem YKH:PS X (.Break pos) tBreak:=λ_ _ σ H _ I h=>wpAny_Break ⟨σ,H,I,h⟩
theorem Inv.quiet {pins:List (Addr×Obj)}{σ:St}{H:Hp}{s:Shared} (I:Inv X pins σ H s):interactive X.env=false:=by simp[interactive,I.ok.kind]
def tDrop (te:TE):TS:=λD σ H=>te σ H λ_ H1=>D.nx σ H1
theorem Yr (he:PE X e te) (hs:swapsWith e none pos.line X.env=pure false:=by rfl):PS X (.Expr e pos) (tDrop te):=by
 intro pins s σ H D I h;exact wpAny_Expr_any (thn (he pins s σ H _ I h) λv s1 ⟨x,H1,I1,r1,q1⟩=>⟨σ,H1,I1,q1⟩) I.quiet hs
def tRet (te:TE):TS:=λD σ H=>te σ H D.rt
theorem Yc (he:PE X e te):PS X (.Return (some e) pos) (tRet te):=by
 intro pins s σ H D I h;exact wpAny_Return_some (thn (he pins s σ H _ I h) λv s1 ⟨x,H1,I1,r1,q1⟩=>⟨x,σ,H1,I1,r1,q1⟩)
def tRetN:TS:=λD _ H=>D.rt .non H
theorem ps_retN:PS X (.Return none pos) tRetN:=λ_ _ σ H _ I h=>wpAny_Return_none ⟨.non,σ,H,I,Z,h⟩
def tIfS (c:TT) (t u:TS):TS:=λD σ H=>c σ H λb H1=>if b=true then t D σ H1 else u D σ H1
theorem Yx {c:Expr}{a b:List Stmt}{tc:TT} (hc:PT X c tc) (ha:PSs X a t) (hb:PSs X b u):PS X (.If c a b pos) (tIfS tc t u):=by
 intro pins s σ H D I h;refine wpAny_If (thn (hc pins s σ H _ I h) λd s1 ⟨H1,I1,q1⟩=>?_);cases d with
 |true=>exact ha pins s1 σ H1 D I1 q1
 |false=>exact hb pins s1 σ H1 D I1 q1
end
abbrev TG:=V->St->Hp->(St->Hp->Prop)->Prop
abbrev TGs:=List V->St->Hp->(St->Hp->Prop)->Prop
def PG (X:Cx) (target:Expr) (t:TG):Prop:=
 ∀(pins:List (Addr×Obj)) (s:Shared) (σ:St) (H:Hp) (v:V) (u:Value) (Q:St->Hp->Prop),Inv X pins σ H s->Ys v u->t v σ H Q->
  wpAny (model X.prog X.w) X.A (assign target X.env u) (λ_ s'=>∃σ' H',Inv X pins σ' H' s'/\Q σ' H') X.xe s
def PGs (X:Cx) (ts:List Expr) (t:TGs):Prop:=
 ∀(pins:List (Addr×Obj)) (s:Shared) (σ:St) (H:Hp) (vs:List V) (us:List Value) (Q:St->Hp->Prop),Inv X pins σ H s->Ym vs us->t vs σ H Q->
  wpAny (model X.prog X.w) X.A (assignInOrder ((assignEach ts X.env).map (·.2)) us) (λ_ s'=>∃σ' H',Inv X pins σ' H' s'/\Q σ' H') X.xe s
abbrev TSet:=V->V->V->Hp->(Hp->Prop)->Prop
def PSet (X:Cx) (t:TSet):Prop:=
 ∀(pins:List (Addr×Obj)) (s:Shared) (σ:St) (H:Hp) (o i v:V) (ov iv u:Value) (Q:Hp->Prop),Inv X pins σ H s->Ys o ov->Ys i iv->Ys v u->t o i v H Q->
  wpAny (model X.prog X.w) X.A (setItem ov iv u) (λ_ s'=>∃H',Inv X pins σ H' s'/\Q H') X.xe s
abbrev TIp:=V->V->Hp->VK->Prop
def PIp (X:Cx) (op:Operator) (t:TIp):Prop:=
 ∀(pins:List (Addr×Obj)) (s:Shared) (σ:St) (H:Hp) (x y:V) (v u:Value) (Q:VK),Inv X pins σ H s->Ys x v->Ys y u->t x y H Q->
  wpAny (model X.prog X.w) X.A (inplaceOp op v u) (EP X pins σ Q) X.xe s
section
variable {X:Cx}{pos:Pos}
def ZK (i:Nat):TG:=λv σ H Q=>Q (σ.set i (some v)) H
theorem YU {i:Nat}{x:Str} (hN:X.N.Nodup) (hi:X.N[i]?=some x) (hx:Loc X.env.scope x) (hf:X.fn x=true\/X.env.scope.names.lookup x=some .local:=by first |exact .inl rfl |exact .inr rfl |assumption):PG X (.Name x pos) (ZK i):=by
 intro pins s σ H v u Q I r h;exact wpAny_assign_Name (YB1 I hN hi hx r (λs' I'=>⟨_,H,I',h⟩) hf)
inductive gNil_ (vs:List V) (σ:St) (H:Hp) (Q:St->Hp->Prop):Prop where
 |mk (a_:vs=[]) (bc:Q σ H):gNil_ vs σ H Q
def gNil:TGs:=λvs σ H Q=>gNil_ vs σ H Q
inductive YKI (t:TG) (u:TGs) (vs:List V) (σ:St) (H:Hp) (Q:St->Hp->Prop):Prop where
 |mk (v:_) (r:_) (a_:vs=v :: r) (bc:t v σ H λσ' H'=>u r σ' H' Q):YKI t u vs σ H Q
def gCons (t:TG) (u:TGs):TGs:=λvs σ H Q=>YKI t u vs σ H Q
theorem XR:PGs X [] gNil:=by
 intro pins s σ H vs us Q I r h;obtain⟨e,h⟩:=h;subst e;cases r;exact assignInOrder_nil ⟨σ,H,I,h⟩
theorem ZC {e:Expr}{es:List Expr}{t:TG}{u:TGs} (h1:PG X e t) (h2:PGs X es u)
  (hs:(assignEach (e :: es) X.env).map (·.2)=assign e X.env :: (assignEach es X.env).map (·.2):=by rfl):PGs X (e :: es) (gCons t u):=by
 intro pins s σ H vs us Q I r h;obtain⟨v,vr,e1,h⟩:=h;subst e1;cases r with
 |cons r rr=>
  rw[hs];refine assignInOrder_cons (thn (h1 pins s σ H _ _ _ I r h) λ_ s1 ⟨σ1,H1,I1,q1⟩=>?_);exact h2 pins s1 σ1 H1 _ _ Q I1 rr q1
inductive gTup_ (K:W.Frag) (n:Nat) (t:TGs) (v:V) (σ:St) (H:Hp) (Q:St->Hp->Prop):Prop where
 |mk (a:_) (xs:_) (a_:v=.ref a) (bc:SqT K H a xs) (bJ:xs.length=n) (cA:t xs σ H Q):gTup_ K n t v σ H Q
def gTup (K:W.Frag) (n:Nat) (t:TGs):TG:=λv σ H Q=>gTup_ K n t v σ H Q
theorem pg_tup {es:List Expr}{k:Nat}{t:TGs}{n:Nat} (hc:X.calm=true) (h:PGs X es t)
  (hn:(assignEach es X.env).length=n:=by rfl) (hst:(assignEach es X.env).findIdx? (·.1)=none:=by rfl):PG X (.Tuple es k pos) (gTup X.K n t):=by
 intro pins s σ H v u Q I r hw;obtain⟨a,xs,e1,hq,hl,hw⟩:=hw;subst e1;cases r;obtain⟨its,rv,ht,hz⟩:=I.tuple hq;refine assign_Tuple_tuple (I.ok.hd hc) ht (by simp[hn,<-hl,rv.length]) hst λh' hx=>?_
 have I1:Inv X pins σ H { s with heap:=h' }:=I.kept (t':=s.toks) λb o e=>hx b o (YMS (YL4 e)) e
 exact h pins _ σ H xs _ Q I1 (by simpa using rv) hw
def gSub (to ti:TE) (t:TSet):TG:=λv σ H Q=>to σ H λo H1=>ti σ H1 λi H2=>t o i v H2 λH3=>Q σ H3
theorem YKJ {o i:Expr}{to ti:TE}{t:TSet} (ho:PE X o to) (hi:PE X i ti) (hs:PSet X t)
  (ha:∀v,assign (.Subscript o i pos) X.env v=(do
   let ov <-holding [v] (eval o X.env)
   let iv <-holding [v,ov] (eval i X.env)
   standAt pos
   holding [v,ov,iv] (setItem ov iv v)
   release [v,ov,iv] []):=by intro _;rfl):PG X (.Subscript o i pos) (gSub to ti t):=by
 intro pins s σ H v u Q I r h;rw[ha];refine YLx (wpAny_holding (thn (ho pins s σ H _ I h) λov s1 ⟨x,H1,I1,r1,q1⟩=>?_));refine YLx (wpAny_holding (thn (hi pins s1 σ H1 _ I1 q1) λiv s2 ⟨y,H2,I2,r2,q2⟩=>?_));refine YLx (wpAny_standAt (YLx (wpAny_holding (thn (hs pins s2 σ H2 x y v ov iv u _ I2 r1 r2 r q2) λ_ s3 ⟨H3,I3,q3⟩=>?_))));exact wpAny_release ⟨σ,H3,I3,q3⟩
def tAsg (te:TE) (g:TG):TS:=λD σ H=>te σ H λx H1=>g x σ H1 D.nx
theorem YKK {tg e:Expr}{te:TE}{g:TG} (he:PE X e te) (hg:PG X tg g) (hs:swapsWithSole [tg] e pos.line X.env=pure false:=by rfl) (hw:swappedStores [tg] e X.env=pure none:=by rfl)
  (h1:(assignEach [tg] X.env).map (·.2)=[assign tg X.env]:=by rfl):PS X (.Assign [tg] e pos) (tAsg te g):=by
 intro pins s σ H D I h;refine wpAny_Assign_stores (thn (he pins s σ H _ I h) λv s1 ⟨x,H1,I1,r1,q1⟩=>?_) hs hw;rw[h1];exact thn (hg pins s1 σ H1 x v _ I1 r1 q1) λ_ s2 q=>q
theorem YK {i:Nat}{x:Str}{e:Expr}{te:TE}{gJ:Pos} (hN:X.N.Nodup) (hi:X.N[i]?=some x) (hx:Loc X.env.scope x) (he:PE X e te) (hs:swapsWith e (some (.Name x gJ)) pos.line X.env=pure false:=by rfl) (hf:X.fn x=true\/X.env.scope.names.lookup x=some .local:=by first |exact .inl rfl |exact .inr rfl |assumption):
  PS X (.Assign [.Name x gJ] e pos) (tAsg te (ZK i)):=by
 intro pins s σ H D I h;refine wpAny_Assign_Name (thn (he pins s σ H _ I h) λv s1 ⟨y,H1,I1,r1,q1⟩=>?_) hs;exact YB1 I1 hN hi hx r1 (λs2 I2=>⟨_,H1,I2,q1⟩) hf
def tAug (i:Nat) (te:TE) (ti:TIp):TS:=λD σ H=>∃x,σ[i]?=some (some x)/\te σ H λy H1=>ti x y H1 λz H2=>D.nx (σ.set i (some z)) H2
theorem YKL {i:Nat}{x:Str}{e:Expr}{te:TE}{op:Operator}{ti:TIp}{gJ:Pos} (hN:X.N.Nodup) (hi:X.N[i]?=some x) (hx:Loc X.env.scope x) (he:PE X e te) (ho:PIp X op ti) (hf:X.fn x=true\/X.env.scope.names.lookup x=some .local:=by first |exact .inl rfl |exact .inr rfl |assumption):
  PS X (.AugAssign (.Name x gJ) op e pos) (tAug i te ti):=by
 intro pins s σ H D I h;obtain⟨v,e1,h⟩:=h;obtain⟨m,hn,hl⟩:=I.loc;have vis:Vis X.env.scope x:=by rcases hx with k |k;exact .inl k;exact .inr (.inl k)
 obtain⟨u,r,l⟩:=hl i x v hi e1 vis;refine wpAny_AugAssign_Name ?_;have go:wpAny (model X.prog X.w) X.A (eval e X.env) (λw s₂=>wpAny (model X.prog X.w) X.A (inplaceOp op u w) (λr s₃=>wpAny (model X.prog X.w) X.A (storeName X.env x r) (λ_=>SP X pins D .next) X.xe s₃) X.xe s₂) X.xe s:=by
  refine thn (he pins s σ H _ I h) λw s1 ⟨y,H1,I1,r1,q1⟩=>?_
  refine thn (ho pins s1 σ H1 v y u w _ I1 r r1 q1) λz s2 ⟨zv,H2,I2,r2,q2⟩=>?_
  exact YB1 I2 hN hi hx r2 (λs3 I3=>⟨_,H2,I3,q2⟩) hf
 rcases l with ⟨hk,hm⟩ |⟨hk,c,hc,cU⟩
 ·exact wpAny_loadName_local I.ok.kind hk hn hm go
 ·rcases hk with hk |hk
  ·exact wpAny_loadName_cell I.ok.kind hk hc cU go
  ·rcases hx with k |k
   ·have:X.env.scope.names.lookup x=some .free:=hk;rw[k]at this;cases this
   ·have:X.env.scope.names.lookup x=some .free:=hk;rw[k]at this;cases this
def ipI (f:Int->Int->Int):TIp:=λx y H Q=>∃i j,x=.int i/\y=.int j/\Q (.int (f i j)) H
theorem YKM:PIp X .Add (ipI λi j=>i + j):=by
 intro pins s σ H x y v u Q I r1 r2 h;obtain⟨i,j,e1,e2,q⟩:=h;subst e1;subst e2;obtain⟨t,rfl⟩:=r1;obtain⟨t',rfl⟩:=r2;exact iadd_int ⟨.int _,H,I.tok _,⟨_,Z⟩,q⟩
end
section
variable {X:Cx}{pos:Pos}
def YKN (c:TT) (tb:TS):TS:=λD σ H=>∃W:Nat->St->Hp->Prop,(∃m,W m σ H)/\∀m σ H,W m σ H->
 c σ H λb H1=>if b=true then ∃N:St->Hp->Prop,(∀σ' H',N σ' H'->∃m',m' < m/\W m' σ' H')/\tb { D with nx:=N,ct:=N,bk:=D.nx } σ H1 else D.nx σ H1
theorem Xg {c:Expr}{body:List Stmt}{tc:TT}{tb:TS} (hp:PassesOwn (model X.prog X.w) X.A X.env X.xe) (hc:PT X c tc) (hb:PSs X body tb):PS X (.While c body [] pos) (YKN tc tb):=by
 intro pins s σ H D I h;obtain⟨W,⟨m0,w0⟩,turn⟩:=h;refine wpAny_While (codeAny_whileLoop (λn s'=>∃σ' H',Inv X pins σ' H' s'/\W n σ' H') ?_ m0 ⟨σ,H,I,w0⟩);rintro n s1 ⟨σ1,H1,I1,w1⟩;refine wpAny_passesOwn hp (thn (hc pins s1 σ1 H1 _ I1 (turn n σ1 H1 w1)) λb s2 ⟨H2,I2,q2⟩=>?_);cases b with
 |true=>
  obtain⟨N,hN,q2⟩:=q2;rw[if_pos rfl];refine wpAny_passesOwn hp (thn (hb pins s2 σ1 H2 _ I2 q2) λf s3 q3=>?_);cases f with
  |next=>
   obtain⟨σ3,H3,I3,n3⟩:=q3;obtain⟨m',hm,w3⟩:=hN σ3 H3 n3;exact⟨m',hm,σ3,H3,I3,w3⟩
  |cont=>
   obtain⟨σ3,H3,I3,n3⟩:=q3;obtain⟨m',hm,w3⟩:=hN σ3 H3 n3;exact⟨m',hm,σ3,H3,I3,w3⟩
  |brk=>exact q3
  |ret v=>exact q3
 |false=>
  rw[if_neg YL7];exact wpAny_execs_nil ⟨σ1,H2,I2,q2⟩
end
structure It where
 go:Nat->Hp->Prop
 yld:Nat->Hp->V->Hp->Prop
 stop:Nat->Hp->Prop
def YAs (X:Cx) (pins:List (Addr×Obj)) (H:Hp) (b:Addr):Prop:=
 H b=none/\b≠X.env.locals/\b∉X.fs/\(b∈X.ex\/X.s₀.heap.objs.size<=b)/\(∀x c,X.env.cells.lookup x=some c->c≠b)/\∀p∈X.pn ++ pins,p.1≠b
theorem Inv.fpOk {X:Cx}{pins:List (Addr×Obj)}{σ:St}{H H':Hp}{s:Shared}{b:Addr} (I:Inv X pins σ H s) (hb:s.heap.objs.size<=b) (hn:H' b=none):YAs X pins H' b:=by
 refine⟨hn,YNA (YL9 I.lt hb),I.nofs hb,.inr (YMP I.sz hb),λx c e z=>?_,λp hp z=>?_⟩
 ·obtain⟨v,q⟩:=I.cell x c e;exact absurd (YL9 q.lt (by rw[z];exact hb)) (YMm _)
 ·exact absurd (YL9 (YL4 (I.pin p hp).1) (by rw[z];exact hb)) (YMm _)
structure YEP (P:Program) (w:World) (K:W.Frag) (tg:Expr) (J:It) (fp:List Addr) (it:Addr) (tn:Nat->Heap->Prop):Prop where
 mem:it∈fp
 obj:∀i h,tn i h->∀b∈fp,∃o,h.get? b=some o/\∀v,o.data≠.cell v
 keep:∀i h h',tn i h->(∀b∈fp,∀o,h.get? b=some o->h'.get? b=some o)->tn i h'
 item:∀(X:Cx),X.prog=P->X.w=w->X.K=K->X.calm=true->∀(i:Nat) (pins:List (Addr×Obj)) (s:Shared) (σ:St) (H:Hp) (E:Value->Shared->Prop),Inv X pins σ H s->(∀b∈fp,YAs X pins H b)->tn i s.heap->J.go i H->
  wpAny (model P w) X.A (pyNext (.ref it)) (λr s1=>∃u,r=some u/\
   wpAny (model P w) X.A (letOwnedTupleGo tg (.ref it) u) (λ_ s2=>∃x H',Inv X pins σ H' s2/\Ys x u/\J.yld i H x H'/\tn (i + 1) s2.heap/\∀b∈fp,H' b=none) E s1) E s
 done:∀(X:Cx),X.prog=P->X.w=w->X.K=K->X.calm=true->∀(i:Nat) (pins:List (Addr×Obj)) (s:Shared) (σ:St) (H:Hp) (E:Value->Shared->Prop),Inv X pins σ H s->(∀b∈fp,YAs X pins H b)->tn i s.heap->J.stop i H->
  wpAny (model P w) X.A (pyNext (.ref it)) (λr s1=>r=none/\Inv X pins σ H s1) E s
 self:∀(A:Around) (i:Nat) (s:Shared) (Q:Value->Shared->Prop) (E:Value->Shared->Prop),tn i s.heap->Q (.ref it) s->wpAny (model P w) A (pyIter (.ref it)) Q E s
abbrev TI:=St->Hp->(It->Hp->Prop)->Prop
def PIE (X:Cx) (pins:List (Addr×Obj)) (σ:St) (tg:Expr) (R:It->Hp->Prop) (itv:Value) (s2:Shared):Prop:=
 ∃(it:Addr) (fp:List Addr) (tn:Nat->Heap->Prop) (J:It) (H':Hp),itv=.ref it/\Inv X pins σ H' s2/\YEP X.prog X.w X.K tg J fp it tn/\tn 0 s2.heap/\(∀b∈fp,YAs X pins H' b)/\R J H'
def PI (X:Cx) (tg iter:Expr) (wi:TI):Prop:=
 ∀(pins:List (Addr×Obj)) (s:Shared) (σ:St) (H:Hp) (R:It->Hp->Prop),Inv X pins σ H s->wi σ H R->
  wpAny (model X.prog X.w) X.A (eval iter X.env) (λv s1=>wpAny (model X.prog X.w) X.A (pyIter v) (PIE X pins σ tg R) X.xe s1) X.xe s
theorem YGM {M:Model}{A:Around}{E:Value->Shared->Prop}{s:Shared}{tg:Expr}{it:Addr}{u:Value}{o:Obj}{n:String}{vs:Array Value}{Q:Unit->Shared->Prop} (ho:s.heap.get? it=some o) (hc:o.cls=.type n) (hd:o.data=.fields vs)
  (hn:["enumerate","zip","dict_itemiterator","dict_reverseitemiterator","odict_iterator","itertools.zip_longest","itertools.pairwise"].contains n=false) (hQ:Q () s):wpAny M A (letOwnedTupleGo tg (.ref it) u) Q E s:=by
 unfold letOwnedTupleGo;cases tg <;> first
  |exact YMJ hQ
  |(cases u <;> first
    |exact YMJ hQ
    |(refine YLx (wpAny_load ho ?_)
      rw[hc,hd];show wpAny M A (if (["enumerate","zip","dict_itemiterator","dict_reverseitemiterator","odict_iterator","itertools.zip_longest","itertools.pairwise"].contains n && vs[0]? == some (rawInt _))=true then _ else _) Q E s;rw[if_neg (by intro h;rw[hn,Bool.false_and]at h;cases h)];exact YMJ hQ))
def Itl (K:W.Frag) (a:Addr):It:=
 ⟨λi H=>∃xs x,SqL K H a xs/\xs[i]?=some x,λi H x H'=>H'=H/\∀xs,SqL K H a xs->xs[i]?=some x,λi H=>∃xs,SqL K H a xs/\xs.length<=i⟩
def Itt (K:W.Frag) (a:Addr):It:=
 ⟨λi H=>∃xs x,SqT K H a xs/\xs[i]?=some x,λi H x H'=>H'=H/\∀xs,SqT K H a xs->xs[i]?=some x,λi H=>∃xs,SqT K H a xs/\xs.length<=i⟩
def Itr (lo:Int) (n:Nat):It:=⟨λi _=>i < n,λi H x H'=>H'=H/\x=.int (lo + i),λi _=>n<=i⟩
theorem YJV {P:Program}{w:World}{K:W.Frag}{tg:Expr} (a it:Addr):YEP P w K tg (Itl K a) [it] it (λi h=>h.IsListIter it a i) where
 mem:=by simp
 obj:=λi h st b hb=>by
  have e:b=it:=by simpa using hb
  subst e;obtain⟨o,e,c,d⟩:=st;exact⟨o,e,λv z=>by rw[d]at z;cases z⟩
 keep:=λi h h' st k=>st.at λo e=>k it (by simp) o e
 item:=by
  intro X hP hw hK hc i pins s σ H E I hf st hg;subst hP hw hK;obtain⟨xs,x,hq,hx⟩:=hg;obtain⟨its,rv,p,hz⟩:=I.list hq;obtain⟨u,hu,ru⟩:=rv.get hx;obtain⟨f0,f1,f2,f3,f4,f5⟩:=hf it (by simp);refine wpAny_pyNext_list_item st p.isList (x:=u) (by simpa using hu) λh' st' sb=>?_
  have I1:Inv X pins σ H { s with heap:=h' }:=I.turned (t':=s.toks) (λb o hb e=>(sb.2 b hb).trans e) f0 f1 f3 f4 f5;obtain⟨o,e,c,d⟩:=id st';exact⟨u,Z,YGM (s:={ s with heap:=h' }) e c d (by decide) ⟨x,H,I1,ru,⟨Z,λys hy=>by rw[I.list_inj hy hq];exact hx⟩,st',λb hb=>(hf b hb).1⟩⟩
 done:=by
  intro X hP hw hK hc i pins s σ H E I hf st hg;subst hP hw hK;obtain⟨xs,hq,hx⟩:=hg;obtain⟨its,rv,p,hz⟩:=I.list hq;obtain⟨f0,f1,f2,f3,f4,f5⟩:=hf it (by simp);have hl:=rv.length;exact wpAny_pyNext_list_end (I.ok.hd hc) st p.isList (by simp;omega) λh' eb=>⟨Z,I.turned (t':=s.toks) (λb o hb e=>eb b o hb e) f0 f1 f3 f4 f5⟩
 self:=λ_ _ _ _ _ st h=>wpAny_pyIter_listiter st h
theorem YHq {P:Program}{w:World}{K:W.Frag}{tg:Expr} (a it:Addr):YEP P w K tg (Itt K a) [it] it (λi h=>h.IsTupleIter it a i) where
 mem:=by simp
 obj:=λi h st b hb=>by
  have e:b=it:=by simpa using hb
  subst e;obtain⟨o,e,c,d⟩:=st;exact⟨o,e,λv z=>by rw[d]at z;cases z⟩
 keep:=λi h h' st k=>st.at λo e=>k it (by simp) o e
 item:=by
  intro X hP hw hK hc i pins s σ H E I hf st hg;subst hP hw hK;obtain⟨xs,x,hq,hx⟩:=hg;obtain⟨its,rv,p,hz⟩:=I.tuple hq;obtain⟨u,hu,ru⟩:=rv.get hx;obtain⟨f0,f1,f2,f3,f4,f5⟩:=hf it (by simp);refine wpAny_pyNext_tuple_item st (show s.heap.IsTuple a its.toArray from p) (x:=u) (by simpa using hu) λh' st' sb=>?_
  have I1:Inv X pins σ H { s with heap:=h' }:=I.turned (t':=s.toks) (λb o hb e=>(sb.2 b hb).trans e) f0 f1 f3 f4 f5;obtain⟨o,e,c,d⟩:=id st';exact⟨u,Z,YGM (s:={ s with heap:=h' }) e c d (by decide) ⟨x,H,I1,ru,⟨Z,λys hy=>by rw[I.tuple_inj hy hq];exact hx⟩,st',λb hb=>(hf b hb).1⟩⟩
 done:=by
  intro X hP hw hK hc i pins s σ H E I hf st hg;subst hP hw hK;obtain⟨xs,hq,hx⟩:=hg;obtain⟨its,rv,p,hz⟩:=I.tuple hq;obtain⟨f0,f1,f2,f3,f4,f5⟩:=hf it (by simp);have hl:=rv.length;exact wpAny_pyNext_tuple_end (I.ok.hd hc) st (show s.heap.IsTuple a its.toArray from p) (by simp;omega) λh' eb=>⟨Z,I.turned (t':=s.toks) (λb o hb e=>eb b o hb e) f0 f1 f3 f4 f5⟩
 self:=λ_ _ _ _ _ st h=>wpAny_pyIter_tupleiter st h
theorem YHr {P:Program}{w:World}{K:W.Frag}{tg:Expr} (it:Addr) (lo:Int) (n:Nat):YEP P w K tg (Itr lo n) [it] it (λi h=>IsRangeIter h it (lo + (i:Nat) * 1) ((n:Int) - (i:Nat)) 1) where
 mem:=by simp
 obj:=λi h st b hb=>by
  have e:b=it:=by simpa using hb
  subst e;exact⟨_,st,λv z=>by
   have z':Data.fields _=Data.cell v:=z;cases z'⟩
 keep:=λi h h' st k=>k it (by simp) _ st
 item:=by
  intro X hP hw hK hc i pins s σ H E I hf st hg;subst hP hw hK;obtain⟨f0,f1,f2,f3,f4,f5⟩:=hf it (by simp);have W:=Walks.range (prog:=X.prog) (w:=X.w) (I.ok.hd hc) it lo 1 n;refine W.item i s _ _ hg st λv h' tk hv st' kk=>?_
  obtain⟨t,rfl⟩:=hv;have I1:Inv X pins σ H { s with heap:=h',toks:=tk }:=I.turned (λb o hb e=>kk b o (by simpa using hb) e) f0 f1 f3 f4 f5;refine⟨_,Z,YGM (s:={ s with heap:=h',toks:=tk }) (n:="range_iterator") st' rfl rfl (by decide) ⟨.int (lo + i),H,I1,⟨t,?_⟩,⟨Z,Z⟩,st',λb hb=>(hf b hb).1⟩⟩;rw[Int.mul_one]
 done:=by
  intro X hP hw hK hc i pins s σ H E I hf st hg;subst hP hw hK;obtain⟨f0,f1,f2,f3,f4,f5⟩:=hf it (by simp);exact wpAny_pyNext_range_end (I.ok.hd hc) st (by have:n<=i:=hg;omega) λh' eb=>⟨Z,I.turned (t':=s.toks) (λb o hb e=>eb b o hb e) f0 f1 f3 f4 f5⟩
 self:=λ_ _ _ _ _ st h=>wpAny_pyIter_rangeiter st h
end L2
namespace L2
open PySem PySem.Spec PyProof.Rows
section
variable {X:Cx}{tg:Expr}
inductive YKO (K:W.Frag) (R:It->Hp->Prop) (x:V) (H1:Hp):Prop where
 |mk (a:_) (a_:x=.ref a) (bc:(∃xs,SqL K H1 a xs)) (bJ:R (Itl K a) H1):YKO K R x H1
def iList (K:W.Frag) (tl:TE):TI:=λσ H R=>tl σ H λx H1=>YKO K R x H1
inductive iTup_ (K:W.Frag) (R:It->Hp->Prop) (x:V) (H1:Hp):Prop where
 |mk (a:_) (a_:x=.ref a) (bc:(∃xs,SqT K H1 a xs)) (bJ:R (Itt K a) H1):iTup_ K R x H1
def iTup (K:W.Frag) (tl:TE):TI:=λσ H R=>tl σ H λx H1=>iTup_ K R x H1
theorem pi_list {l:Expr}{tl:TE} (hl:PE X l tl):PI X tg l (iList X.K tl):=by
 intro pins s σ H R I h;refine thn (hl pins s σ H _ I h) λv s1 ⟨x,H1,I1,r1,q1⟩=>?_
 obtain⟨a,e,⟨xs,hq⟩,q⟩:=q1;subst e;cases r1;obtain⟨its,rv,p,hz⟩:=I1.list hq;refine wpAny_pyIter_list p.isList ?_;refine⟨s1.heap.objs.size,[s1.heap.objs.size],_,_,H1,Z,I1.kept (t':=s1.toks) λb o e=>YL0 _ e,YJV a _,⟨_,YMF _ rfl,Z,Z⟩,λb hb=>?_,q⟩;have e:b=s1.heap.objs.size:=by simpa using hb
 subst e;exact I1.fpOk (YLr _) (I1.hok.fresh (YLr _))
theorem pi_tup {l:Expr}{tl:TE} (hl:PE X l tl):PI X tg l (iTup X.K tl):=by
 intro pins s σ H R I h;refine thn (hl pins s σ H _ I h) λv s1 ⟨x,H1,I1,r1,q1⟩=>?_
 obtain⟨a,e,⟨xs,hq⟩,q⟩:=q1;subst e;cases r1;obtain⟨its,rv,p,hz⟩:=I1.tuple hq;refine wpAny_pyIter_tuple (show s1.heap.IsTuple a its.toArray from p) ?_;refine⟨s1.heap.objs.size,[s1.heap.objs.size],_,_,H1,Z,I1.kept (t':=s1.toks) λb o e=>YL0 _ e,YHq a _,⟨_,YMF _ rfl,Z,Z⟩,λb hb=>?_,q⟩;have e:b=s1.heap.objs.size:=by simpa using hb
 subst e;exact I1.fpOk (YLr _) (I1.hok.fresh (YLr _))
theorem YGN {pins:List (Addr×Obj)}{σ:St}{H:Hp}{s:Shared}{R:It->Hp->Prop}{E:Value->Shared->Prop}{lo hi:Int}{t u v:Tok}{tk:Nat} (I:Inv X pins σ H s) (h1:-(2 ^ 62)<=lo) (h2:lo < 2 ^ 62) (h3:-(2 ^ 62)<=hi) (h4:hi < 2 ^ 62)
  (q:R (Itr lo (hi - lo).toNat) H):wpAny (model X.prog X.w) X.A (pyIter (.ref s.heap.objs.size)) (PIE X pins σ tg R) E { s with heap:=s.heap.push { cls:=.type "range",data:=.fields #[.int lo t,.int hi u,.int 1 v] },toks:=tk }:=by
 refine wpAny_pyIter_range (IsRange.new ..) (small_one h1 h2 h3 h4) ?_;have I1:Inv X pins σ H { s with heap:=s.heap.push { cls:=.type "range",data:=.fields #[.int lo t,.int hi u,.int 1 v] },toks:=tk }:=I.kept λb o e=>YL0 _ e
 refine⟨(s.heap.push { cls:=.type "range",data:=.fields #[.int lo t,.int hi u,.int 1 v] }).objs.size,[(s.heap.push { cls:=.type "range",data:=.fields #[.int lo t,.int hi u,.int 1 v] }).objs.size],_,_,H,Z,
  I1.kept (t':=tk) λb o e=>YL0 _ e,YHr _ lo (hi - lo).toNat,?_,λb hb=>?_,q⟩
 ·have e1:lo + ((0:Nat):Int) * 1=lo:=by simp
  have e2:(((hi - lo).toNat:Nat):Int) - ((0:Nat):Int)=Builtin.Range.rangeSize lo hi 1:=by rw[rangeSize_one];split <;> omega
  show IsRangeIter _ _ (lo + ((0:Nat):Int) * 1) ((((hi - lo).toNat:Nat):Int) - ((0:Nat):Int)) 1;rw[e1,e2];exact YMF _ rfl
 ·have e:b=(s.heap.push { cls:=.type "range",data:=.fields #[.int lo t,.int hi u,.int 1 v] }).objs.size:=by simpa using hb
  subst e;exact I1.fpOk (YLr _) (I1.hok.fresh (YLr _))
inductive YKP (R:It->Hp->Prop) (vs:List V) (H1:Hp):Prop where
 |mk (j:Int) (a_:vs=[.int j]) (bc:-(2 ^ 62)<=j) (bJ:j < 2 ^ 62) (cA:R (Itr 0 j.toNat) H1):YKP R vs H1
def iRng1 (ta:TA):TI:=λσ H R=>ta σ H λvs H1=>YKP R vs H1
inductive YKQ (R:It->Hp->Prop) (vs:List V) (H1:Hp):Prop where
 |mk (i:Int) (j:Int) (a_:vs=[.int i,.int j]) (bc:(-(2 ^ 62)<=i/\i < 2 ^ 62/\-(2 ^ 62)<=j/\j < 2 ^ 62)) (bJ:R (Itr i (j - i).toNat) H1):YKQ R vs H1
def iRng2 (ta:TA):TI:=λσ H R=>ta σ H λvs H1=>YKQ R vs H1
theorem Y7 {a:Expr}{ta:TA}{p pos:Pos} (hg:Gl X "range") (hm:X.mg "range"=none) (ha:PA X [a] ta) (hs:starEach [a] X.env=[(false,eval a X.env)]:=by rfl):PI X tg (.Call (.Name "range" p) [a] [] pos) (iRng1 ta):=by
 intro pins s σ H R I h;refine Call_ (JT I hg hm boot_range (PyProof.Rows.callWith_type1 (thn (ha pos pins s σ H _ I h) λus s1 ⟨vs,H1,I1,r1,q1⟩=>?_) hs rfl));obtain⟨j,e,q1,q2,q⟩:=q1;subst e;cases r1 with
 |cons r rr=>
  cases rr;obtain⟨t,rfl⟩:=r;exact call_range_1 (YGN I1 (by omega) (by omega) q1 q2 (by simpa using q))
theorem YCS {a b:Expr}{ta:TA}{p pos:Pos} (hg:Gl X "range") (hm:X.mg "range"=none) (ha:PA X [a,b] ta) (hs:starEach [a,b] X.env=[(false,eval a X.env),(false,eval b X.env)]:=by rfl) (hs2:starEach [b] X.env=[(false,eval b X.env)]:=by rfl):
  PI X tg (.Call (.Name "range" p) [a,b] [] pos) (iRng2 ta):=by
 intro pins s σ H R I h;refine Call_ (JT I hg hm boot_range (PyProof.Rows.callWith_type1 (thn (ha pos pins s σ H _ I h) λus s1 ⟨vs,H1,I1,r1,q1⟩=>?_) (by rw[hs,hs2]) (by rw[hs2];rfl)));obtain⟨i,j,e,⟨q1,q2,q3,q4⟩,q⟩:=q1;subst e;cases r1 with
 |cons r rr=>
  cases rr with
  |cons r' rr=>
   cases rr;obtain⟨t,rfl⟩:=r;obtain⟨t',rfl⟩:=r';exact call_range_2 (YGN I1 q1 q2 q3 q4 q)
def tFor (wi:TI) (g:TG) (tb:TS):TS:=λD σ H=>wi σ H λJ H1=>∃W:Nat->Nat->St->Hp->Prop,(∃m,W 0 m σ H1)/\∀i m σ H,W i m σ H->
 (J.stop i H/\D.nx σ H)\/(J.go i H/\∃N:St->Hp->Prop,(∀σ' H',N σ' H'->∃m',m' < m/\W (i + 1) m' σ' H')/\∀x H',J.yld i H x H'->g x σ H' λσ2 H2=>tb { D with nx:=N,ct:=N,bk:=D.nx } σ2 H2)
def YCT (fp:List Addr) (h:Heap):List (Addr×Obj):=fp.filterMap λb=>(h.get? b).map λo=>(b,o)
theorem JU {fp:List Addr}{h:Heap}{b:Addr}{o:Obj} (hb:b∈fp) (e:h.get? b=some o):(b,o)∈YCT fp h:=List.mem_filterMap.mpr ⟨b,hb,by rw[e];rfl⟩
theorem YJW {fp:List Addr}{h:Heap}{p:Addr×Obj} (hp:p∈YCT fp h):p.1∈fp/\h.get? p.1=some p.2:=by
 obtain⟨b,hb,e⟩:=List.mem_filterMap.mp hp;cases q:h.get? b with
 |none=>rw[q]at e;cases e
 |some o=>
  rw[q]at e;have e':(b,o)=p:=YMO e;subst e';exact⟨hb,q⟩
theorem Inv.pinned {pins:List (Addr×Obj)}{σ:St}{H:Hp}{s:Shared}{fp:List Addr} (I:Inv X pins σ H s) (hf:∀b∈fp,YAs X pins H b) (ho:∀b∈fp,∃o,s.heap.get? b=some o/\∀v,o.data≠.cell v):Inv X (pins ++ YCT fp s.heap) σ H s:=
 I.pins_of λp hp=>(YMN.mp hp).elim (λz=>I.pin p (YMB _ z)) λz=>by
  obtain⟨hb,e⟩:=YJW z;obtain⟨f0,f1,f2,_⟩:=hf p.1 hb;obtain⟨o,e',d⟩:=ho p.1 hb;rw[e]at e';cases e';exact⟨e,f0,f1,f2,d⟩
theorem Inv.unpinned {pins pl:List (Addr×Obj)}{σ:St}{H:Hp}{s:Shared} (I:Inv X (pins ++ pl) σ H s):Inv X pins σ H s:=I.pins_of λp hp=>I.pin p (YMB _ (YMc _ hp))
theorem Yq {iter:Expr}{body:List Stmt}{wi:TI}{g:TG}{tb:TS}{pos:Pos} (hp:PassesOwn (model X.prog X.w) X.A X.env X.xe) (hc:X.calm=true) (hi:PI X tg iter wi) (hg:PG X tg g) (hb:PSs X body tb)
  (hs:∀x,foldedSetIterable iter X.env x=pure x:=by intro _;rfl):PS X (.For tg iter body [] pos) (tFor wi g tb):=by
 intro pins s σ H D I h;refine wpAny_For (thn (hi pins s σ H _ I h) λv s1 h1=>thn h1 λitv s2 h2=>?_) hs;obtain⟨it,fp,tn,J,H2,e,I2,T,jO,f2,W,⟨m0,w0⟩,turn⟩:=h2;subst e;have kJ:∀{H':Hp},(∀b∈fp,H' b=none)->∀b∈fp,YAs X pins H' b:=λhn b hb=>⟨hn b hb,(f2 b hb).2⟩
 refine codeAny_forLoop_any (λn s'=>∃i σ' H',Inv X pins σ' H' s'/\tn i s'.heap/\(∀b∈fp,H' b=none)/\W i n σ' H') ?_ m0 ⟨0,σ,H2,I2,jO,λb hb=>(f2 b hb).1,w0⟩;rintro n s3 ⟨i,σ3,H3,I3,jh,Ru,w3⟩;rcases turn i n σ3 H3 w3 with ⟨stop,qn⟩ |⟨go,N,hN,step⟩
 ·refine wpAny_passesOwn hp (thn (T.done X rfl rfl rfl hc i pins s3 σ3 H3 X.xe I3 (kJ Ru) jh stop) λr s4 ⟨hr,I4⟩=>?_);subst hr;exact wpAny_execs_nil ⟨σ3,H3,I4,qn⟩
 ·refine wpAny_passesOwn hp (thn (T.item X rfl rfl rfl hc i pins s3 σ3 H3 X.xe I3 (kJ Ru) jh go) λr s4 ⟨u,hr,h4⟩=>?_);subst hr;refine wpAny_passesOwn hp (thn h4 ?_);rintro _ s5 ⟨x,H5,I5,r5,y5,mY,V1⟩;have I5':=I5.pinned (kJ V1) (T.obj _ _ mY);refine wpAny_passesOwn hp (thn (hg _ s5 σ3 H5 x u _ I5' r5 (step x H5 y5)) λ_ s6 ⟨σ6,H6,I6,q6⟩=>?_);refine wpAny_passesOwn hp (thn (hb _ s6 σ6 H6 _ I6 q6) λf s7 q7=>?_);have again:∀{σ7:St}{H7:Hp},Inv X (pins ++ YCT fp s5.heap) σ7 H7 s7->N σ7 H7->∃m,m < n/\∃i σ' H',Inv X pins σ' H' s7/\tn i s7.heap/\(∀b∈fp,H' b=none)/\W i m σ' H':=λ{σ7 H7} I7 n7=>by
   obtain⟨m',hm,w7⟩:=hN σ7 H7 n7;refine⟨m',hm,i + 1,σ7,H7,I7.unpinned,T.keep _ _ _ mY λb hb o e=>(I7.pin (b,o) (YMB _ (YMB _ (JU hb e)))).1,λb hb=>?_,w7⟩;obtain⟨o,e,d⟩:=T.obj _ _ mY b hb;exact(I7.pin (b,o) (YMB _ (YMB _ (JU hb e)))).2.1
  cases f with
  |next=>obtain⟨σ7,H7,I7,n7⟩:=q7;exact again I7 n7
  |cont=>obtain⟨σ7,H7,I7,n7⟩:=q7;exact again I7 n7
  |brk=>obtain⟨σ7,H7,I7,q7⟩:=q7;exact⟨σ7,H7,I7.unpinned,q7⟩
  |ret v=>obtain⟨x7,σ7,H7,I7,r7,q7⟩:=q7;exact⟨x7,σ7,H7,I7.unpinned,r7,q7⟩
end
theorem YAH {K:W.Frag}{a:Addr}{xs:List V}{g:TG}{tb:TS}{D:YAo}{σ:St}{H:Hp} (Pv:Nat->St->Hp->Prop) (h0:Pv 0 σ H) (hl:∀i σ H,i<=xs.length->Pv i σ H->SqL K H a xs)
  (hs:∀i x σ H,xs[i]?=some x->Pv i σ H->g x σ H λσ2 H2=>tb { D with nx:=Pv (i + 1),ct:=Pv (i + 1),bk:=D.nx } σ2 H2) (hd:∀σ H,Pv xs.length σ H->D.nx σ H):
  ∃W:Nat->Nat->St->Hp->Prop,(∃m,W 0 m σ H)/\∀i m σ H,W i m σ H->
   ((Itl K a).stop i H/\D.nx σ H)\/((Itl K a).go i H/\∃N:St->Hp->Prop,(∀σ' H',N σ' H'->∃m',m' < m/\W (i + 1) m' σ' H')/\∀x H',(Itl K a).yld i H x H'->g x σ H' λσ2 H2=>tb { D with nx:=N,ct:=N,bk:=D.nx } σ2 H2):=by
 refine⟨λi m σ H=>m=xs.length - i/\i<=xs.length/\Pv i σ H,⟨xs.length,by simp,YMI _,h0⟩,?_⟩;rintro i m σ H ⟨rfl,hi,p⟩;have q:=hl i σ H hi p
 by_cases hlt:i < xs.length
 ·refine .inr ⟨⟨xs,xs[i],q,by simp[hlt]⟩,Pv (i + 1),λσ' H' p'=>⟨xs.length - (i + 1),by omega,Z,hlt,p'⟩,λx H' y=>?_⟩;obtain⟨e,y⟩:=y;subst e;exact hs i x σ _ (y xs q) p
 ·have e:i=xs.length:=by omega
  subst e;exact .inl ⟨⟨xs,q,YLr _⟩,hd σ H p⟩
theorem YDI {K:W.Frag}{a:Addr}{xs:List V}{g:TG}{tb:TS}{D:YAo}{σ:St}{H:Hp} (Pv:Nat->St->Hp->Prop) (h0:Pv 0 σ H) (hl:∀i σ H,i<=xs.length->Pv i σ H->SqT K H a xs)
  (hs:∀i x σ H,xs[i]?=some x->Pv i σ H->g x σ H λσ2 H2=>tb { D with nx:=Pv (i + 1),ct:=Pv (i + 1),bk:=D.nx } σ2 H2) (hd:∀σ H,Pv xs.length σ H->D.nx σ H):
  ∃W:Nat->Nat->St->Hp->Prop,(∃m,W 0 m σ H)/\∀i m σ H,W i m σ H->
   ((Itt K a).stop i H/\D.nx σ H)\/((Itt K a).go i H/\∃N:St->Hp->Prop,(∀σ' H',N σ' H'->∃m',m' < m/\W (i + 1) m' σ' H')/\∀x H',(Itt K a).yld i H x H'->g x σ H' λσ2 H2=>tb { D with nx:=N,ct:=N,bk:=D.nx } σ2 H2):=by
 refine⟨λi m σ H=>m=xs.length - i/\i<=xs.length/\Pv i σ H,⟨xs.length,by simp,YMI _,h0⟩,?_⟩;rintro i m σ H ⟨rfl,hi,p⟩;have q:=hl i σ H hi p
 by_cases hlt:i < xs.length
 ·refine .inr ⟨⟨xs,xs[i],q,by simp[hlt]⟩,Pv (i + 1),λσ' H' p'=>⟨xs.length - (i + 1),by omega,Z,hlt,p'⟩,λx H' y=>?_⟩;obtain⟨e,y⟩:=y;subst e;exact hs i x σ _ (y xs q) p
 ·have e:i=xs.length:=by omega
  subst e;exact .inl ⟨⟨xs,q,YLr _⟩,hd σ H p⟩
theorem ZI {lo:Int}{n:Nat}{g:TG}{tb:TS}{D:YAo}{σ:St}{H:Hp} (Pv:Nat->St->Hp->Prop) (h0:Pv 0 σ H)
  (hs:∀i σ H,i < n->Pv i σ H->g (.int (lo + i)) σ H λσ2 H2=>tb { D with nx:=Pv (i + 1),ct:=Pv (i + 1),bk:=D.nx } σ2 H2) (hd:∀σ H,Pv n σ H->D.nx σ H):
  ∃W:Nat->Nat->St->Hp->Prop,(∃m,W 0 m σ H)/\∀i m σ H,W i m σ H->
   ((Itr lo n).stop i H/\D.nx σ H)\/((Itr lo n).go i H/\∃N:St->Hp->Prop,(∀σ' H',N σ' H'->∃m',m' < m/\W (i + 1) m' σ' H')/\∀x H',(Itr lo n).yld i H x H'->g x σ H' λσ2 H2=>tb { D with nx:=N,ct:=N,bk:=D.nx } σ2 H2):=by
 refine⟨λi m σ H=>m=n - i/\i<=n/\Pv i σ H,⟨n,by simp,YMI _,h0⟩,?_⟩;rintro i m σ H ⟨rfl,hi,p⟩
 by_cases hlt:i < n
 ·refine .inr ⟨hlt,Pv (i + 1),λσ' H' p'=>⟨n - (i + 1),by omega,Z,hlt,p'⟩,λx H' y=>?_⟩;obtain⟨e,y⟩:=y;subst e y;exact hs i σ _ hlt p
 ·have e:i=n:=by omega
  subst e;exact .inl ⟨YLr _,hd σ H p⟩
theorem YKR {c:TT}{tb:TS}{D:YAo}{σ:St}{H:Hp} (Pv:St->Hp->Prop) (μ:St->Hp->Nat) (h0:Pv σ H)
  (hs:∀σ H,Pv σ H->c σ H λb H1=>if b=true then tb { D with nx:=λσ' H'=>Pv σ' H'/\μ σ' H' < μ σ H,ct:=λσ' H'=>Pv σ' H'/\μ σ' H' < μ σ H,bk:=D.nx } σ H1 else D.nx σ H1)
  (mono:∀σ H Q Q',(∀b H1,Q b H1->Q' b H1)->c σ H Q->c σ H Q'):YKN c tb D σ H:=by
 refine⟨λm σ H=>m=μ σ H/\Pv σ H,⟨_,Z,h0⟩,?_⟩;rintro m σ H ⟨rfl,p⟩;refine mono σ H _ _ (λb H1 q=>?_) (hs σ H p);cases b with
 |true=>exact⟨_,λσ' H' ⟨p',l⟩=>⟨_,l,Z,p'⟩,q⟩
 |false=>exact q
end L2
namespace L2
open PySem PySem.Spec PyProof.Rows
abbrev R2:=V->V->Hp->VK->Prop
def OpR (X:Cx) (f:Value->Value->Sem Value) (r:R2):Prop:=
 ∀(pins:List (Addr×Obj)) (s:Shared) (σ:St) (H:Hp) (x y:V) (v u:Value) (Q:VK),Inv X pins σ H s->Ys x v->Ys y u->r x y H Q->
  wpAny (model X.prog X.w) X.A (f v u) (EP X pins σ Q) X.xe s
def UnR (X:Cx) (f:Value->Sem Value) (r:V->Hp->VK->Prop):Prop:=
 ∀(pins:List (Addr×Obj)) (s:Shared) (σ:St) (H:Hp) (x:V) (v:Value) (Q:VK),Inv X pins σ H s->Ys x v->r x H Q->
  wpAny (model X.prog X.w) X.A (f v) (EP X pins σ Q) X.xe s
def J7 (X:Cx) (f:Value) (r:List V->Hp->VK->Prop):Prop:=
 ∀(pins:List (Addr×Obj)) (s:Shared) (σ:St) (H:Hp) (xs:List V) (us:List Value) (Q:VK),Inv X pins σ H s->Ym xs us->r xs H Q->
  wpAny (model X.prog X.w) X.A (call f us) (EP X pins σ Q) X.xe s
def TruR (X:Cx) (r:V->Hp->(Bool->Hp->Prop)->Prop):Prop:=
 ∀(pins:List (Addr×Obj)) (s:Shared) (σ:St) (H:Hp) (x:V) (v:Value) (Q:Bool->Hp->Prop),Inv X pins σ H s->Ys x v->r x H Q->
  wpAny (model X.prog X.w) X.A (truthy v) (TP X pins σ Q) X.xe s
def tOp (r:R2) (ta tb:TE):TE:=λσ H Q=>ta σ H λx H1=>tb σ H1 λy H2=>r x y H2 Q
def tUn (r:V->Hp->VK->Prop) (ta:TE):TE:=λσ H Q=>ta σ H λx H1=>r x H1 Q
inductive rI_ (C:Int->Int->Prop) (g:Int->Int->V) (x:V) (y:V) (H:Hp) (Q:VK):Prop where
 |mk (i:_) (j:_) (a_:x=.int i) (bc:y=.int j) (bJ:C i j) (cA:Q (g i j) H):rI_ C g x y H Q
def rI (C:Int->Int->Prop) (g:Int->Int->V):R2:=λx y H Q=>rI_ C g x y H Q
inductive rI0_ (g:Int->Int->V) (x:V) (y:V) (H:Hp) (Q:VK):Prop where
 |mk (i:_) (j:_) (a_:x=.int i) (bc:y=.int j) (bJ:Q (g i j) H):rI0_ g x y H Q
def rI0 (g:Int->Int->V):R2:=λx y H Q=>rI0_ g x y H Q
inductive rU_ (g:Int->V) (x:V) (H:Hp) (Q:VK):Prop where
 |mk (i:_) (a_:x=.int i) (bc:Q (g i) H):rU_ g x H Q
def rU (g:Int->V):V->Hp->VK->Prop:=λx H Q=>rU_ g x H Q
section
variable {X:Cx}{a b c:Expr}{ta tb tc:TE}{pos:Pos}
theorem binT (ha:PE X a ta) (hb:PE X b tb) {pins:List (Addr×Obj)}{s:Shared}{σ:St}{H:Hp}{R:V->V->Hp->Prop} (I:Inv X pins σ H s)
  (h:ta σ H λx H1=>tb σ H1 λy H2=>R x y H2) {Q:Value->Shared->Prop}{f:Value->Value->Sem Value}
  (hf:∀v u s2 x y H2,Inv X pins σ H2 s2->Ys x v->Ys y u->R x y H2->wpAny (model X.prog X.w) X.A (f v u) Q X.xe s2):
  wpAny (model X.prog X.w) X.A (eval a X.env) (λv s₁=>wpAny (model X.prog X.w) X.A (eval b X.env) (λu s₂=>wpAny (model X.prog X.w) X.A (f v u) Q X.xe s₂) X.xe s₁) X.xe s:=by
 refine thn (ha pins s σ H _ I h) λv s1 ⟨x,H1,I1,r1,q1⟩=>?_
 refine thn (hb pins s1 σ H1 _ I1 q1) λu s2 ⟨y,H2,I2,r2,q2⟩=>?_
 exact hf v u s2 x y H2 I2 r1 r2 q2
theorem YI {op:Operator}{r:R2} (ho:OpR X (binaryOp op) r) (ha:PE X a ta) (hb:PE X b tb):PE X (.BinOp a op b pos) (tOp r ta tb):=by
 intro pins s σ H Q I h;exact wpAny_BinOp (binT ha hb I h λv u s2 x y H2 I2 rx ry q=>ho pins s2 σ H2 x y v u Q I2 rx ry q)
theorem pe_un {op:UnaryOp}{r:V->Hp->VK->Prop} (ho:UnR X (unaryOp op) r) (ha:PE X a ta):PE X (.UnaryOp op a pos) (tUn r ta):=by
 intro pins s σ H Q I h;exact UnaryOp_ (thn (ha pins s σ H _ I h) λv s1 ⟨x,H1,I1,r1,q1⟩=>ho pins s1 σ H1 x v Q I1 r1 q1)
theorem opI {f:Value->Value->Sem Value}{C:Int->Int->Prop}{g:Int->Int->Int}
  (rule:∀(i j:Int) (t u:Tok) (s:Shared) (Q:Value->Shared->Prop) (E:Value->Shared->Prop),C i j->Q (.int (g i j) s.toks) { s with toks:=s.toks + 1 }->wpAny (model X.prog X.w) X.A (f (.int i t) (.int j u)) Q E s):
  OpR X f (rI C λi j=>.int (g i j)):=by
 intro pins s σ H x y v u Q I rx ry h;obtain⟨i,j,rfl,rfl,hc,q⟩:=h;obtain⟨t,rfl⟩:=rx;obtain⟨t',rfl⟩:=ry;exact rule i j t t' s _ _ hc ⟨.int (g i j),H,I.tok _,⟨_,Z⟩,q⟩
theorem opI0 {f:Value->Value->Sem Value}{g:Int->Int->Int}
  (rule:∀(i j:Int) (t u:Tok) (s:Shared) (Q:Value->Shared->Prop) (E:Value->Shared->Prop),Q (.int (g i j) s.toks) { s with toks:=s.toks + 1 }->wpAny (model X.prog X.w) X.A (f (.int i t) (.int j u)) Q E s):
  OpR X f (rI0 λi j=>.int (g i j)):=by
 intro pins s σ H x y v u Q I rx ry h;obtain⟨i,j,rfl,rfl,q⟩:=h;obtain⟨t,rfl⟩:=rx;obtain⟨t',rfl⟩:=ry;exact rule i j t t' s _ _ ⟨.int (g i j),H,I.tok _,⟨_,Z⟩,q⟩
theorem opB0 {f:Value->Value->Sem Value}{g:Int->Int->Bool}
  (rule:∀(i j:Int) (t u:Tok) (s:Shared) (Q:Value->Shared->Prop) (E:Value->Shared->Prop),Q (.bool (g i j)) s->wpAny (model X.prog X.w) X.A (f (.int i t) (.int j u)) Q E s):
  OpR X f (rI0 λi j=>.bl (g i j)):=by
 intro pins s σ H x y v u Q I rx ry h;obtain⟨i,j,rfl,rfl,q⟩:=h;obtain⟨t,rfl⟩:=rx;obtain⟨t',rfl⟩:=ry;exact rule i j t t' s _ _ ⟨.bl (g i j),H,I,Z,q⟩
def CDiv (i j:Int):Prop:=0 < j/\j < 1073741824
def CPow (i j:Int):Prop:=0<=j/\j<=1000000/\i.natAbs < 2 ^ 64
def CMul (i j:Int):Prop:=(-(2 ^ 64) < i/\i < 2 ^ 64)\/(-(2 ^ 64) < j/\j < 2 ^ 64)
theorem CMul.ok {i j:Int} (h:CMul i j):IntMulOk i j:=by
 rcases h with ⟨h1,h2⟩ |⟨h1,h2⟩
 ·exact .of_left (intBits_le_64 h1 h2)
 ·exact .of_right (intBits_le_64 h1 h2)
theorem Ye:OpR X (binaryOp .Add) (rI0 λi j=>.int (i + j)):=opI0 λ_ _ _ _ _ _ _ q=>add_int q
theorem JI:OpR X (binaryOp .Sub) (rI0 λi j=>.int (i - j)):=opI0 λ_ _ _ _ _ _ _ q=>sub_int q
theorem YCU:OpR X (binaryOp .Mult) (rI CMul λi j=>.int (i * j)):=opI λ_ _ _ _ _ _ _ hc q=>mul_int q hc.ok
theorem ZB:OpR X (binaryOp .FloorDiv) (rI CDiv λi j=>.int (i / j)):=opI λi j _ _ _ _ _ hc q=>by
 have h1:(0:Int) < j:=hc.1;have h2:j < 1073741824:=hc.2;exact floordiv_int (by omega) (by rw[Int.fdiv_eq_ediv_of_nonneg i (by omega)];exact q) (.inl (PyProof.noPylong_small (by omega)))
theorem Y2:OpR X (binaryOp .Mod) (rI (λ_ j=>0 < j) λi j=>.int (i % j)):=opI λi j _ _ _ _ _ hc q=>by
 have h1:(0:Int) < j:=hc;exact mod_int' (by omega) (by rw[Int.fmod_eq_emod_of_nonneg i (by omega)];exact q)
theorem YAt:OpR X (binaryOp .Pow) (rI CPow λi j=>.int (i ^ j.toNat)):=opI λ_ _ _ _ _ _ _ hc q=>pow_int_small hc.1 hc.2.1 hc.2.2 q
theorem unI {f:Value->Sem Value}{g:Int->Int}
  (rule:∀(i:Int) (t:Tok) (s:Shared) (Q:Value->Shared->Prop) (E:Value->Shared->Prop),Q (.int (g i) s.toks) { s with toks:=s.toks + 1 }->wpAny (model X.prog X.w) X.A (f (.int i t)) Q E s):
  UnR X f (rU λi=>.int (g i)):=by
 intro pins s σ H x v Q I rx h;obtain⟨i,rfl,q⟩:=h;obtain⟨t,rfl⟩:=rx;exact rule i t s _ _ ⟨.int (g i),H,I.tok _,⟨_,Z⟩,q⟩
theorem YHs:UnR X (unaryOp .USub) (rU λi=>.int (-i)):=unI λ_ _ _ _ _ q=>neg_int q
end
def scal:V->V->Bool
 |.non,.non=>true |.non,.int _=>true |.int _,.non=>true |.non,.bl _=>true |.bl _,.non=>true |.non,.str _=>true |.str _,.non=>true
 |.int _,.int _=>true |.bl _,.bl _=>true |.str _,.str _=>true |.byt _,.byt _=>true
 |.int _,.str _=>true |.str _,.int _=>true |.bl _,.str _=>true |.str _,.bl _=>true
 |_,_=>false
inductive rEq_ (x:V) (y:V) (H:Hp) (Q:VK):Prop where
 |mk (a_:scal x y=true) (bc:Q (.bl (decide (x=y))) H):rEq_ x y H Q
def rEq:R2:=λx y H Q=>rEq_ x y H Q
inductive rNe_ (x:V) (y:V) (H:Hp) (Q:VK):Prop where
 |mk (a_:scal x y=true) (bc:Q (.bl (!decide (x=y))) H):rNe_ x y H Q
def rNe:R2:=λx y H Q=>rNe_ x y H Q
theorem YIa {i j:Int}:decide (V.int i=V.int j)=(i == j):=by
 rw[YNC];simp
theorem YKS {i j:Bool}:decide (V.bl i=V.bl j)=(i == j):=by
 rw[YNC];simp
theorem YIb {i j:Str}:decide (V.str i=V.str j)=(i == j):=by
 rw[YNC];simp
theorem YIc {i j:Array UInt8}:decide (V.byt i=V.byt j)=(i.toList == j.toList):=by
 rw[YNC];cases i;cases j;simp
section
variable {X:Cx}{a b c:Expr}{ta tb tc:TE}{pos:Pos}
theorem Yy {pins:List (Addr×Obj)}{σ:St}{H:Hp}{s:Shared}{Q:VK}{k k':Bool} (I:Inv X pins σ H s) (q:Q (.bl k) H) (e:k=k'):EP X pins σ Q (.bool k') s:=by
 subst e;exact⟨.bl k,H,I,Z,q⟩
theorem Jd:OpR X (compareOp .Eq) rEq:=by
 intro pins s σ H x y v u Q I rx ry h;obtain⟨hs,q⟩:=h;cases x with
 |non=>
  cases rx;cases y with
  |non=>cases ry;exact PySem.EqNone.eq_none_none (Yy I q (by simp))
  |bl j=>cases ry;exact PySem.EqNone.eq_none_bool (Yy I q (by simp))
  |int j=>obtain⟨t',rfl⟩:=ry;exact PySem.EqNone.eq_none_int (Yy I q (by simp))
  |str j=>obtain⟨t',rfl⟩:=ry;exact PySem.EqNone.eq_none_str (Yy I q (by simp))
  |_=>exact absurd (show false=true from hs) YL7
 |bl i=>
  cases rx;cases y with
  |non=>cases ry;exact PySem.EqNone.eq_bool_none (Yy I q (by simp))
  |bl j=>cases ry;exact eq_bool (Yy I q YKS)
  |str j=>obtain⟨t',rfl⟩:=ry;exact PySem.EqMixed.eq_bool_str (Yy I q (by simp))
  |_=>exact absurd (show false=true from hs) YL7
 |int i=>
  obtain⟨t,rfl⟩:=rx;cases y with
  |non=>cases ry;exact PySem.EqNone.eq_int_none (Yy I q (by simp))
  |int j=>obtain⟨t',rfl⟩:=ry;exact eq_int (Yy I q YIa)
  |str j=>obtain⟨t',rfl⟩:=ry;exact PySem.EqMixed.eq_int_str (Yy I q (by simp))
  |_=>exact absurd (show false=true from hs) YL7
 |str i=>
  obtain⟨t,rfl⟩:=rx;cases y with
  |non=>cases ry;exact PySem.EqNone.eq_str_none (Yy I q (by simp))
  |bl j=>cases ry;exact PySem.EqMixed.eq_str_bool (Yy I q (by simp))
  |int j=>obtain⟨t',rfl⟩:=ry;exact PySem.EqMixed.eq_str_int (Yy I q (by simp))
  |str j=>obtain⟨t',rfl⟩:=ry;exact eq_str (Yy I q YIb)
  |_=>exact absurd (show false=true from hs) YL7
 |byt i=>
  obtain⟨t,rfl⟩:=rx;cases y with
  |byt j=>obtain⟨t',rfl⟩:=ry;exact PySem.W.eq_bytes (Yy I q YIc)
  |_=>exact absurd (show false=true from hs) YL7
 |_=>cases y <;> exact absurd (show false=true from hs) YL7
theorem YCt:OpR X (compareOp .NotEq) rNe:=by
 intro pins s σ H x y v u Q I rx ry h;obtain⟨hs,q⟩:=h;cases x with
 |non=>
  cases rx;cases y with
  |non=>cases ry;exact PySem.EqNone.ne_none_none (Yy I q (by simp))
  |bl j=>cases ry;exact PySem.EqNone.ne_none_bool (Yy I q (by simp))
  |int j=>obtain⟨t',rfl⟩:=ry;exact PySem.EqNone.ne_none_int (Yy I q (by simp))
  |str j=>obtain⟨t',rfl⟩:=ry;exact PySem.EqNone.ne_none_str (Yy I q (by simp))
  |_=>exact absurd (show false=true from hs) YL7
 |bl i=>
  cases rx;cases y with
  |non=>cases ry;exact PySem.EqNone.ne_bool_none (Yy I q (by simp))
  |bl j=>cases ry;exact ne_bool (Yy I q (YMw not YKS))
  |str j=>obtain⟨t',rfl⟩:=ry;exact PySem.EqMixed.ne_bool_str (Yy I q (by simp))
  |_=>exact absurd (show false=true from hs) YL7
 |int i=>
  obtain⟨t,rfl⟩:=rx;cases y with
  |non=>cases ry;exact PySem.EqNone.ne_int_none (Yy I q (by simp))
  |int j=>obtain⟨t',rfl⟩:=ry;exact ne_int (Yy I q (YMw not YIa))
  |str j=>obtain⟨t',rfl⟩:=ry;exact PySem.EqMixed.ne_int_str (Yy I q (by simp))
  |_=>exact absurd (show false=true from hs) YL7
 |str i=>
  obtain⟨t,rfl⟩:=rx;cases y with
  |non=>cases ry;exact PySem.EqNone.ne_str_none (Yy I q (by simp))
  |bl j=>cases ry;exact PySem.EqMixed.ne_str_bool (Yy I q (by simp))
  |int j=>obtain⟨t',rfl⟩:=ry;exact PySem.EqMixed.ne_str_int (Yy I q (by simp))
  |str j=>obtain⟨t',rfl⟩:=ry;exact ne_str (Yy I q (YMw not YIb))
  |_=>exact absurd (show false=true from hs) YL7
 |byt i=>
  obtain⟨t,rfl⟩:=rx;cases y with
  |byt j=>obtain⟨t',rfl⟩:=ry;exact PySem.W.ne_bytes (Yy I q (YMw not YIc))
  |_=>exact absurd (show false=true from hs) YL7
 |_=>cases y <;> exact absurd (show false=true from hs) YL7
theorem Xh:OpR X (compareOp .Lt) (rI0 λi j=>.bl (decide (i < j))):=opB0 λ_ _ _ _ _ _ _ q=>lt_int q
theorem Xi:OpR X (compareOp .LtE) (rI0 λi j=>.bl (decide (i<=j))):=opB0 λ_ _ _ _ _ _ _ q=>le_int q
theorem op_gt:OpR X (compareOp .Gt) (rI0 λi j=>.bl (decide (j < i))):=opB0 λ_ _ _ _ _ _ _ q=>gt_int q
theorem op_ge:OpR X (compareOp .GtE) (rI0 λi j=>.bl (decide (j<=i))):=opB0 λ_ _ _ _ _ _ _ q=>ge_int q
theorem YJX:OpR X (compareOp .In) (λx y H Q=>∃i j,x=.str i/\y=.str j/\Q (.bl (!(Builtin.Str.occurrences j i 0 j.length 1).isEmpty)) H):=by
 intro pins s σ H x y v u Q I rx ry h;obtain⟨i,j,rfl,rfl,q⟩:=h;obtain⟨t,rfl⟩:=rx;obtain⟨t',rfl⟩:=ry;exact in_str (Yy I q rfl)
theorem op_isN:OpR X (compareOp .Is) (λx y H Q=>y=.non/\Q (.bl (decide (x=.non))) H):=by
 intro pins s σ H x y v u Q I rx ry h;obtain⟨rfl,q⟩:=h;cases ry;refine is_none_gen (Yy I q ?_);cases x <;> first
  |(cases rx;rfl)
  |(obtain⟨t,rfl⟩:=rx;rfl)
theorem YId:OpR X (compareOp .IsNot) (λx y H Q=>y=.non/\Q (.bl (!decide (x=.non))) H):=by
 intro pins s σ H x y v u Q I rx ry h;obtain⟨rfl,q⟩:=h;cases ry;refine isnot_none_gen (Yy I q ?_);cases x <;> first
  |(cases rx;rfl)
  |(obtain⟨t,rfl⟩:=rx;rfl)
theorem Yd (b:Expr) {op:CmpOp} (h:op≠.In:=by decide) (h2:op≠.NotIn:=by decide):behindInMarks op b=false:=by
 have e1:(op == CmpOp.In)=false:=by cases op <;> first |rfl |exact absurd rfl h
 have e2:(op == CmpOp.NotIn)=false:=by cases op <;> first |rfl |exact absurd rfl h2
 cases b <;> simp[behindInMarks,e1,e2]
theorem YAU {op:CmpOp}{r:R2} (ho:OpR X (compareOp op) r) (ha:PE X a ta) (hb:PE X b tb) (hm:behindInMarks op b=false):PE X (.Compare a [op] [b] pos) (tOp r ta tb):=by
 intro pins s σ H Q I h;exact wpAny_Compare1 (binT ha hb I h λv u s2 x y H2 I2 rx ry q=>ho pins s2 σ H2 x y v u Q I2 rx ry q) hm
def tTest (t:TE):TT:=λσ H Q=>t σ H λx H'=>∃k,x=.bl k/\Q k H'
theorem YW {op:CmpOp}{r:R2} (ho:OpR X (compareOp op) r) (ha:PE X a ta) (hb:PE X b tb) (hm:behindInMarks op b=false):PT X (.Compare a [op] [b] pos) (tTest (tOp r ta tb)):=by
 intro pins s σ H Q I h;refine wpAny_isTrue_Compare1 (thn (ha pins s σ H _ I h) λv s1 ⟨x,H1,I1,r1,q1⟩=>thn (hb pins s1 σ H1 _ I1 q1) λu s2 ⟨y,H2,I2,r2,q2⟩=>
  thn (ho pins s2 σ H2 x y v u _ I2 r1 r2 q2) λc s3 ⟨z,H3,I3,r3,k,e,q3⟩=>?_) hm
 subst e;cases r3;exact wpAny_truthy_bool ⟨H3,I3,q3⟩
def YKT (r r':R2) (ta tb tc:TE):TE:=λσ H Q=>ta σ H λx H1=>tb σ H1 λy H2=>r x y H2 λz H3=>∃k,z=.bl k/\
 (if k=true then tc σ H3 λw' H4=>r' y w' H4 Q else Q (.bl false) H3)
theorem YAu {op yc:CmpOp}{r r':R2} (ho:OpR X (compareOp op) r) (ho':OpR X (compareOp yc) r') (ha:PE X a ta) (hb:PE X b tb) (hc:PE X c tc)
  (hm:lastMarks [op,yc] [b,c]=false:=by with_unfolding_all rfl):PE X (.Compare a [op,yc] [b,c] pos) (YKT r r' ta tb tc):=by
 intro pins s σ H Q I h;refine Compare_chain (thn (ha pins s σ H _ I h) λv s1 ⟨x,H1,I1,r1,q1⟩=>chain_link (thn (hb pins s1 σ H1 _ I1 q1) λu s2 ⟨y,H2,I2,r2,q2⟩=>
  thn (ho pins s2 σ H2 x y v u _ I2 r1 r2 q2) λd s3 ⟨z,H3,I3,r3,k,e,q3⟩=>?_)) hm
 subst e;cases r3;refine wpAny_truthy_bool ?_;cases k with
 |false=>exact ite_ff ⟨.bl false,H3,I3,Z,q3⟩
 |true=>exact ite_tt (chain_last (thn (hc pins s3 σ H3 _ I3 q3) λw' s4 ⟨z',H4,I4,r4,q4⟩=>ho' pins s4 σ H4 y z' u w' Q I4 r2 r4 q4))
theorem YKU {op yc:CmpOp}{r r':R2} (ho:OpR X (compareOp op) r) (ho':OpR X (compareOp yc) r') (ha:PE X a ta) (hb:PE X b tb) (hc:PE X c tc)
  (hm:lastMarks [op,yc] [b,c]=false:=by with_unfolding_all rfl):PT X (.Compare a [op,yc] [b,c] pos) (tTest (YKT r r' ta tb tc)):=by
 intro pins s σ H Q I h;refine isTrue_chain (thn (ha pins s σ H _ I h) λv s1 ⟨x,H1,I1,r1,q1⟩=>test_link (thn (hb pins s1 σ H1 _ I1 q1) λu s2 ⟨y,H2,I2,r2,q2⟩=>
  thn (ho pins s2 σ H2 x y v u _ I2 r1 r2 q2) λd s3 ⟨z,H3,I3,r3,k,e,q3⟩=>?_)) hm
 subst e;cases r3;refine wpAny_truthy_bool ?_;cases k with
 |false=>
  obtain⟨k',e',q'⟩:=q3;cases e';exact ite_ff ⟨H3,I3,q'⟩
 |true=>
  refine ite_tt (test_last (thn (hc pins s3 σ H3 _ I3 q3) λw' s4 ⟨z',H4,I4,r4,q4⟩=>thn (ho' pins s4 σ H4 y z' u w' _ I4 r2 r4 q4) ?_));rintro d' s5 ⟨z2,H5,I5,r5,k2,e2,q5⟩;subst e2;cases r5;exact wpAny_truthy_bool ⟨H5,I5,q5⟩
def TruV (K:W.Frag) (x:V) (H:Hp) (k:Bool):Prop:=
 match x with
 |.non=>k=false
 |.bl b=>k=b
 |.int i=>k=(i != 0)
 |.str y=>y.length<=sizeLine/\k=((y.length:Int) != 0)
 |.byt y=>y.size<=sizeLine/\k=((y.size:Int) != 0)
 |.ref p=>(∃xs,SqL K H p xs/\k=!xs.isEmpty)\/(∃xs,SqT K H p xs/\k=!xs.isEmpty)\/∃kvs,H p=some (.dK kvs)/\k=!kvs.isEmpty
 |_=>False
theorem YHt {κ:Type}{kvs:List (κ×V)}{vs:List (κ×Value)} (r:KV kvs vs):(!vs.isEmpty)=!kvs.isEmpty:=by
 cases r <;> rfl
theorem YDV {xs:List V}{its:List Value} (r:Ym xs its):(!its.toArray.isEmpty)=!xs.isEmpty:=by
 cases r <;> simp
theorem X8:(sizeLine:Nat) < 2 ^ 63:=by rw[sizeLine_eq];decide
theorem tru_ok:TruR X (λx H Q=>∃k,TruV X.K x H k/\Q k H):=by
 intro pins s σ H x v Q I rx h;obtain⟨k,e,q⟩:=h;have hl:=X8;have hs:sizeLine=16777216:=sizeLine_eq;cases x with
 |non=>
  cases rx;have e':k=false:=e;subst e';exact truthy_none ⟨H,I,q⟩
 |bl b=>
  cases rx;have e':k=b:=e;subst e';exact wpAny_truthy_bool ⟨H,I,q⟩
 |int i=>
  obtain⟨t,rfl⟩:=rx;have e':k=(i != 0):=e;subst e';exact PySem.P.truthy_int ⟨H,I,q⟩
 |str y=>
  obtain⟨t,rfl⟩:=rx;obtain⟨hy,e'⟩:y.length<=sizeLine/\k=((y.length:Int) != 0):=e;subst e';exact PySem.P.truthy_str (by omega) ⟨H,I.tok _,q⟩
 |byt y=>
  obtain⟨t,rfl⟩:=rx;obtain⟨hy,e'⟩:y.size<=sizeLine/\k=((y.size:Int) != 0):=e;subst e';exact PySem.W.truthy_bytes (by omega) ⟨H,I.tok _,q⟩
 |ref p=>
  cases rx;have e':(∃xs,SqL X.K H p xs/\k=!xs.isEmpty)\/(∃xs,SqT X.K H p xs/\k=!xs.isEmpty)\/∃kvs,H p=some (.dK kvs)/\k=!kvs.isEmpty:=e;rcases e' with ⟨xs,hx,e'⟩ |⟨xs,hx,e'⟩ |⟨kvs,hx,e'⟩
  ·subst e';obtain⟨its,r,pl,hz⟩:=I.list hx;have hlen:=r.length;exact wpAny_truthy_list pl.isList (by simp only[YL3];omega) ⟨H,I.tok _,by rw[YDV r];exact q⟩
  ·subst e';obtain⟨its,r,pl,hz⟩:=I.tuple hx;have hlen:=r.length;exact truthy_tuple pl (by simp only[YL3];omega) ⟨H,I.tok _,by rw[YDV r];exact q⟩
  ·subst e';obtain⟨hz,hS,vs,r,m⟩:kvs.length<=sizeLine/\(p == sysModules)=false/\∃vs,KV kvs vs/\s.heap.DictOf (ZM X.prog X.w) p vs:=I.hok p _ hx;have hlen:kvs.length=vs.length:=Paired.length r;exact wpAny_truthy_dict hS m (by omega) ⟨H,I.tok _,by rw[YHt r];exact q⟩
 |_=>exact(show False from e).elim
theorem YKV (ha:PE X a ta) (he:∀whole,isTrue a X.env whole=(do let v <-whole;standAt a.pos;holding [v] (truthy v))):
  PT X a (λσ H Q=>ta σ H λx H'=>∃k,TruV X.K x H' k/\Q k H'):=by
 intro pins s σ H Q I h;exact isTrue_plain (thn (ha pins s σ H _ I h) λv s1 ⟨x,H1,I1,r1,q1⟩=>tru_ok pins s1 σ H1 x v Q I1 r1 q1) (he _)
theorem JV:OpR X (binaryOp .Add) (λx y H Q=>∃i j,x=.str i/\y=.str j/\i.length + j.length<=sizeLine/\Q (.str (i ++ j)) H):=by
 intro pins s σ H x y v u Q I rx ry h;obtain⟨i,j,rfl,rfl,hz,q⟩:=h;obtain⟨t,rfl⟩:=rx;obtain⟨t',rfl⟩:=ry;exact add_str (λt' tk=>⟨.str (i ++ j),H,I.tok _,⟨_,Z⟩,q⟩) hz
theorem Xj {x:V}{us:List Value} (r:Ym [x] us):∃u,us=[u]/\Ys x u:=by
 cases r with
 |cons r1 r2=>cases r2;exact⟨_,Z,r1⟩
theorem YEm {x y:V}{us:List Value} (r:Ym [x,y] us):∃u w',us=[u,w']/\Ys x u/\Ys y w':=by
 cases r with
 |cons r1 r2=>
  cases r2 with
  |cons r3 r4=>cases r4;exact⟨_,_,Z,r1,r3⟩
theorem YBN (hc:X.calm=true):J7 X (.builtin "min") (λxs H Q=>∃i j,xs=[.int i,.int j]/\Q (.int (if j < i then j else i)) H):=by
 intro pins s σ H xs us Q I r h;obtain⟨i,j,rfl,q⟩:=h;obtain⟨u,w',rfl,⟨t,rfl⟩,⟨t',rfl⟩⟩:=YEm r;refine min_two_ints (I.ok.hd hc) λh' tk k=>⟨_,H,I.kept k,?_,q⟩
 by_cases hj:j < i
 ·rw[if_pos hj,if_pos hj];exact⟨_,Z⟩
 ·rw[if_neg hj,if_neg hj];exact⟨_,Z⟩
theorem YJY:J7 X (.type "int") (λxs H Q=>(∃i,xs=[.int i]/\Q (.int i) H)\/∃k,xs=[.bl k]/\Q (.int (if k then 1 else 0)) H):=by
 intro pins s σ H xs us Q I r h;rcases h with ⟨i,rfl,q⟩ |⟨k,rfl,q⟩
 ·obtain⟨u,rfl,t,rfl⟩:=Xj r;exact call_int_int ⟨.int i,H,I,⟨_,Z⟩,q⟩
 ·obtain⟨u,rfl,r1⟩:=Xj r;cases r1;exact call_int_bool ⟨.int (if k then 1 else 0),H,I.tok _,⟨_,Z⟩,q⟩
theorem YKW:J7 X (.builtin "ord") (λxs H Q=>∃x,xs=[.str x]/\x.length=1/\Q (.int (x.cps.getD 0 0:Nat)) H):=by
 intro pins s σ H xs us Q I r h;obtain⟨x,rfl,hz,q⟩:=h;obtain⟨u,rfl,t,rfl⟩:=Xj r;exact ord_of_one hz ⟨.int _,H,I.tok _,⟨_,Z⟩,q⟩
end
end L2
namespace L2
open PySem PySem.Spec PyProof.Rows
structure ObjM (h:Heap) (x dx C:Addr) (mA:Str->Option Value):Prop where
 obj:h.get? x=some (PySem.W.instObj C dx)
 ns:h.Ns1 dx mA
 ne:dx≠x
theorem YJZ {h:Heap}{dx:Addr}{mA:Str->Option Value} (n:h.Ns1 dx mA):∃od,h.get? dx=some od/\∀name,PySem.W.lookIn name od=some (mA name):=by
 obtain⟨o,es,ep,ho,hd,hk,_,hm⟩:=n;refine⟨o,ho,λname=>?_⟩;have e:=hm name;unfold nsFind findBy at e;rw[<-Array.find?_toList]at e;unfold PySem.W.lookIn;rw[hd];dsimp only;split
 ·rename_i y q
  rw[q]at e;exact YMw some e
 ·rename_i q
  rw[q]at e;have a:es.toList.any (·.refKey)=false:=by
   rw[List.any_eq_false];intro y hy;obtain⟨z,t,hkey⟩:=hk y (Array.mem_toList_iff.mp hy);simp[DictEntry.refKey,hkey]
  have a':¬es.toList.any (·.refKey)=true:=by rw[a];exact YL7
  rw[if_neg a'];exact YMw some e
theorem ObjM.look {h:Heap}{x dx C:Addr}{mA:Str->Option Value} (I:ObjM h x dx C mA):∃od,PySem.W.InstAt h x (PySem.W.instObj C dx) C (some od)/\∀name,PySem.W.lookIn name od=some (mA name):=
 let ⟨od,ho,hl⟩:=YJZ I.ns
 ⟨od,⟨I.obj,Z,Z,ho⟩,hl⟩
section
variable {prog:Program}{w:World}{A:Around}{E:Value->Shared->Prop}{s:Shared}{K:W.Frag}{x dx C f:Addr}{mA:Str->Option Value}{name:Str}{v:Value}
theorem get_map {expr:Bool}{Q:Value->Shared->Prop} (X:K.In s.heap) (I:ObjM s.heap x dx C mA) (hg:PySem.W.plainGet K C name=true) (hh:PySem.W.hasDictIn K C=true)
  (ha:PySem.W.findIn K (.ref C) name=some none) (hv:mA name=some v) (hv':PySem.W.handedIn v=true) (h:Q v { s with toks:=s.toks + 1 }):
  wpAny (model prog w) A (getAttr (.ref x) name expr) Q E s:=by
 obtain⟨od,J,hl⟩:=I.look;exact PySem.W.get_value X J (PySem.W.plainGet_of hg).1 (PySem.W.findObj_own hh ha rfl (by rw[hl,hv])) hv' h
theorem YKX {pl:Sem Bool}{Q:Value×List Value->Shared->Prop} (X:K.In s.heap) (I:ObjM s.heap x dx C mA) (hg:PySem.W.plainGet K C name=true)
  (hf:PySem.W.findIn K (.ref C) name=some (some (.ref f))) (ht:PySem.W.isFn K (.ref f)=true) (hv:mA name=none) (h:Q (.ref f,[.ref x]) s):
  wpAny (model prog w) A (getMethod (.ref x) name pl) Q E s:=by
 obtain⟨od,J,hl⟩:=I.look;exact PySem.W.method_fn X J (PySem.W.plainGet_of hg).1 (PySem.W.plainGet_of hg).2 hf (beq_iff_eq.mp ht) (by show(PySem.W.lookIn name od).map (·.isSome)=some false;rw[hl,hv];rfl) h
theorem set_map {ns:List Str}{Q:Unit->Shared->Prop} (X:K.In s.heap) (I:ObjM s.heap x dx C mA)
  (hs:PySem.W.findIn K (.ref C) "__setattr__"=some (some (.builtin "object.__setattr__"))) (hp:PySem.W.plainOver K C=true) (ht:PySem.W.takerIn K C name=some none) (hh:PySem.W.hasDictIn K C=true)
  (hw:PySem.Within mA ns) (hsz:ns.length<=sizeLine)
  (h:∀h',ObjM h' x dx C (λy=>if y=name then some v else mA y)->Heap.SameBut dx s.heap h'->Q () { s with heap:=h',toks:=s.toks + 2 }):
  wpAny (model prog w) A (setAttr (.ref x) name v) Q E s:=by
 obtain⟨od,J,hl⟩:=I.look;refine PySem.W.set_plain X J hs (PySem.W.osa_open (s:={ s with toks:=s.toks + 1 }) (r:=none) X J hp ht λb=>?_);obtain⟨cd,hc,hd'⟩:=PySem.W.any_some hh;have hx:s.heap.get? x=some ⟨.ref C,some dx,.plain,#[]⟩:=I.obj;refine YLx (YMJ (YLx (YLx (wpAny_loadPart hx (YLx (PySem.W.Looks.here (s:={ s with toks:=s.toks + 1 }) (PySem.W.looks_clsIn X hc) ?_))))));rw[hd'];refine YMJ (a:=some dx) (YLx (YMJ (YLx ?_)));refine wpAny_nsSet1 (s:={ s with toks:=s.toks + 1 }) I.ns λh' hn2 hs2=>?_
 obtain⟨oD,esD,epD,hoD,hdD,hcD⟩:=hn2.count (PySem.Within.cons name v hw);refine YLx (wpAny_lookBehind hoD (by rw[hdD];exact pastItsLine_dict (YMP hcD (by rw[YL8];omega))) ?_);exact YMJ (h _ ⟨(hs2.2 _ (Ne.symm I.ne)).trans I.obj,hn2,I.ne⟩ hs2)
theorem YKY {R:Result->Shared->Prop}{vs:List Value}{kw:List (Str×Value)} (X:K.In s.heap) (hm:PySem.W.makesIn K C=true)
  (hi:PySem.W.findIn K (.ref C) "__init__"=some (some (.ref f))) (hf:PySem.W.typeIn K (.ref f)=some (.type "function"))
  (h:codeAny (model prog w) (A.under (.builtin "type.__call__" ⟨.ref C :: vs,kw⟩)) (.call (.ref f) ⟨.ref (s.heap.objs.size + 1) :: vs,kw⟩) (PySem.W.InitBack (s.heap.objs.size + 1) R)
   { s with heap:=(s.heap.push PySem.W.emptyDict).push (PySem.W.instObj C s.heap.objs.size) }):
  codeAny (model prog w) A (.call (.ref C) ⟨vs,kw⟩) R s:=by
 obtain⟨hh,g,d,t,os⟩:=s;exact PySem.W.make_core (PySem.W.makes_of X hm) (PySem.W.looks_findIn X hi) (λself=>PySem.W.bind_fn X self hf) (.inl rfl) h
end
def Xx (f:Str) (v:V):List (Str×V)->List (Str×V)
 |[]=>[(f,v)]
 |(g,x) :: r=>if g=f then (g,v) :: r else (g,x) :: Xx f v r
theorem YCu (f g:Str) (v:V):∀fs:List (Str×V),(Xx f v fs).lookup g=if g=f then some v else fs.lookup g
 |[]=>by
  show List.lookup g [(f,v)]=_
  by_cases h:g=f
  ·have hb:(g == f)=true:=beq_iff_eq.mpr h;simp only[List.lookup,hb,if_pos h]
  ·have hb:(g == f)=false:=beq_eq_false_iff_ne.mpr h;simp only[List.lookup,hb,if_neg h]
 |(k,x) :: r=>by
  have ih:=YCu f g v r;rw[show Xx f v ((k,x) :: r)=(if k=f then (k,v) :: r else (k,x) :: Xx f v r) from rfl]
  by_cases hk:k=f
  ·rw[if_pos hk]
   by_cases h:g=k
   ·have hb:(g == k)=true:=beq_iff_eq.mpr h;simp only[List.lookup,hb,if_pos (h.trans hk)]
   ·have hb:(g == k)=false:=beq_eq_false_iff_ne.mpr h;simp only[List.lookup,hb,if_neg (λe:g=f=>h (e.trans hk.symm))]
  ·rw[if_neg hk]
   by_cases h:g=k
   ·have hb:(g == k)=true:=beq_iff_eq.mpr h;simp only[List.lookup,hb,if_neg (λe:g=f=>hk (h.symm.trans e))]
   ·have hb:(g == k)=false:=beq_eq_false_iff_ne.mpr h;simp only[List.lookup,hb];exact ih
theorem YCV (f:Str) (v:V):∀fs:List (Str×V),f∈(Xx f v fs).map (·.1)/\∀g,g∈fs.map (·.1)->g∈(Xx f v fs).map (·.1)
 |[]=>⟨by simp[Xx],λg h=>by simp at h⟩
 |(k,x) :: r=>by
  obtain⟨i1,i2⟩:=YCV f v r;rw[show Xx f v ((k,x) :: r)=(if k=f then (k,v) :: r else (k,x) :: Xx f v r) from rfl]
  by_cases hk:k=f
  ·rw[if_pos hk];subst hk;exact⟨by simp,λg h=>by simpa using h⟩
  ·rw[if_neg hk];refine⟨?_,λg h=>?_⟩
   ·rw[YMQ];exact YL6 _ i1
   ·rw[YMQ]at h ⊢;rcases YMA.mp h with e |e
    ·exact YMA.mpr (.inl e)
    ·exact YL6 _ (i2 g e)
theorem YCv (f:Str) (v:V):∀fs:List (Str×V),(Xx f v fs).length<=fs.length + 1
 |[]=>by simp[Xx]
 |(k,x) :: r=>by
  have ih:=YCv f v r;rw[show Xx f v ((k,x) :: r)=(if k=f then (k,v) :: r else (k,x) :: Xx f v r) from rfl]
  by_cases hk:k=f
  ·rw[if_pos hk,YL8,YL8];omega
  ·rw[if_neg hk,YL8,YL8];omega
theorem YAn.some_of {v:V}{o:Option Value} (r:YAn (some v) o):∃u,o=some u/\Ys v u:=by
 cases o with
 |none=>exact(show False from r).elim
 |some u=>exact⟨u,Z,r⟩
theorem YAn.none_of {o:Option Value} (r:YAn none o):o=none:=by
 cases o with
 |none=>rfl
 |some u=>exact(show False from r).elim
theorem YJa {v:V}{u:Value} (r:Ys v u):PySem.W.handedIn u=true:=by
 cases v with
 |non=>cases (show u=Value.none from r);rfl
 |bl b=>cases (show u=Value.bool b from r);rfl
 |int i=>obtain⟨t,e⟩:=(show ∃t,u=Value.int i t from r);cases e;rfl
 |str x=>obtain⟨t,e⟩:=(show ∃t,u=Value.str x t from r);cases e;rfl
 |byt b=>obtain⟨t,e⟩:=(show ∃t,u=Value.bytes b t from r);cases e;rfl
 |flt b=>obtain⟨t,e⟩:=(show ∃t,u=Value.float b t from r);cases e;rfl
 |ref a=>cases (show u=Value.ref a from r);rfl
 |ty n=>cases (show u=Value.type n from r);rfl
section
variable {P:Program}{w:World}{H H':Hp}{h h':Heap}{a C dx:Addr}{fs fs':List (Str×V)}
theorem YDJ (hok:HOk P w H h) (e:H a=some (.ins C dx fs)):∃mA,ObjM h a dx C mA/\(∀f,YAn (fs.lookup f) (mA f))/\PySem.Within mA (fs.map (·.1))/\fs.length<=1000/\H dx=some (.own a):=by
 obtain⟨d,z,ne,ob,mA,n,r,q⟩:=(show Y3 P w H h a (.ins C dx fs) from hok a _ e);exact⟨mA,⟨ob,n,ne⟩,r,q,z,d⟩
end
structure Cls (K:W.Frag) (C:Addr):Prop where
 pg:PySem.W.plainGet K C Str.empty=true
 hd:PySem.W.hasDictIn K C=true
 po:PySem.W.plainOver K C=true
 sa:PySem.W.findIn K (.ref C) "__setattr__"=some (some (.builtin "object.__setattr__"))
theorem Cls.get {K:W.Frag}{C:Addr} (c:Cls K C) (f:Str):PySem.W.plainGet K C f=true:=c.pg
def Zm (K:W.Frag) (C:Addr) (f:Str):Prop:=PySem.W.findIn K (.ref C) f=some none
theorem Zm.taker {K:W.Frag}{C:Addr}{f:Str} (n:Zm K C f):PySem.W.takerIn K C f=some none:=by
 unfold PySem.W.takerIn;rw[show PySem.W.findIn K (.ref C) f=some none from n];rfl
structure Meth (K:W.Frag) (C:Addr) (m:Str) (f:Addr):Prop where
 at_:PySem.W.findIn K (.ref C) m=some (some (.ref f))
 fn:PySem.W.isFn K (.ref f)=true
 kp:PySem.W.keepIn K (.ref f)=true
section
variable {X:Cx}{pins:List (Addr×Obj)}{σ:St}{H:Hp}{s:Shared}{a C dx:Addr}{fs:List (Str×V)}{f:Str}{v:V}{A:Around}{E:Value->Shared->Prop}
theorem YHu {b:Bool}{Q:Value->Shared->Prop} (I:Inv X pins σ H s) (e:H a=some (.ins C dx fs)) (c:Cls X.K C) (n:Zm X.K C f) (l:fs.lookup f=some v)
  (h:∀u s',Inv X pins σ H s'->Ys v u->Q u s'):wpAny (model X.prog X.w) A (getAttr (.ref a) f b) Q E s:=by
 obtain⟨mA,O,r,_,_,_⟩:=YDJ I.hok e;obtain⟨u,hu,ru⟩:=YAn.some_of (v:=v) (o:=mA f) (by rw[<-l];exact r f);exact get_map I.kIn O (c.get f) c.hd n hu (YJa ru) (h u _ (I.tok _) ru)
theorem YDW {m:Str}{g:Addr}{pl:Sem Bool}{Q:Value×List Value->Shared->Prop} (I:Inv X pins σ H s) (e:H a=some (.ins C dx fs)) (c:Cls X.K C) (k:Meth X.K C m g) (l:fs.lookup m=none)
  (h:Q (.ref g,[.ref a]) s):wpAny (model X.prog X.w) A (getMethod (.ref a) m pl) Q E s:=by
 obtain⟨mA,O,r,_,_,_⟩:=YDJ I.hok e;have hn:mA m=none:=YAn.none_of (by rw[<-l];exact r m);exact YKX I.kIn O (c.get m) k.at_ k.fn hn h
theorem YHv {y:V}{u:Value}{Q:Unit->Shared->Prop} (I:Inv X pins σ H s) (e:H a=some (.ins C dx fs)) (c:Cls X.K C) (n:Zm X.K C f) (hl:fs.length < 1000) (ry:Ys y u)
  (h:∀s',Inv X pins σ (upd H a (.ins C dx (Xx f y fs))) s'->Q () s'):wpAny (model X.prog X.w) A (setAttr (.ref a) f u) Q E s:=by
 obtain⟨mA,O,r,wi,_,ho⟩:=YDJ I.hok e;have hz:(fs.map (·.1)).length<=sizeLine:=by rw[YLp,sizeLine_eq];omega
 refine set_map I.kIn O c.sa c.po n.taker c.hd wi hz λh' O' sb=>h _ ?_
 have hd:∃o,h'.get? dx=some o:=let ⟨o,_,_,e',_⟩:=O'.ns;⟨o,e'⟩
 refine I.write (x:=a) (e:=dx) (by rw[e];exact True.intro) (.inr ho) (λb q hb z=>(sb.2 b hb).trans z) hd ?_;refine⟨by rw[YJ O.ne];exact ho,?_,O.ne,O'.obj,_,O'.ns,λg=>?_,λg hg=>?_⟩
 ·have:=YCv f y fs;omega
 ·show YAn ((Xx f y fs).lookup g) (if g=f then some u else mA g);rw[YCu]
  by_cases q:g=f
  ·rw[if_pos q,if_pos q];exact ry
  ·rw[if_neg q,if_neg q];exact r g
 ·by_cases q:g=f
  ·rw[q];exact(YCV f y fs).1
  ·refine(YCV f y fs).2 g (wi g λz=>hg ?_);show(if g=f then some u else mA g)=none;rw[if_neg q];exact z
theorem Inv.made (I:Inv X pins σ H s):Inv X pins σ (upd (upd H s.heap.objs.size (.own (s.heap.objs.size + 1))) (s.heap.objs.size + 1) (.ins C s.heap.objs.size []))
  { s with heap:=(s.heap.push PySem.W.emptyDict).push (PySem.W.instObj C s.heap.objs.size) }:=by
 have e1:(s.heap.push PySem.W.emptyDict).get? s.heap.objs.size=some PySem.W.emptyDict:=YMF s.heap rfl;have e2:((s.heap.push PySem.W.emptyDict).push (PySem.W.instObj C s.heap.objs.size)).get? (s.heap.objs.size + 1)=some (PySem.W.instObj C s.heap.objs.size):=by
  have:=YMF (s.heap.push PySem.W.emptyDict) (o:=PySem.W.instObj C s.heap.objs.size) rfl
  rwa [YNS]at this
 have e3:(s.heap.push PySem.W.emptyDict).Ns s.heap.objs.size (λ_=>none):=⟨PySem.W.emptyDict,#[],_,e1,Z,(λe he=>absurd he (by simp)),λ_=>rfl⟩;have I1:=I.laid (a:=s.heap.objs.size) (o:=.own (s.heap.objs.size + 1)) (h':=s.heap.push PySem.W.emptyDict) (t':=s.toks) (λb u q=>YL0 _ q) (YLr _) ⟨_,e1⟩;refine I1.laid (a:=s.heap.objs.size + 1) (o:=.ins C s.heap.objs.size []) (t':=s.toks) (λb u q=>YL0 _ q) (Nat.le_of_eq (YNS _ _)) ?_;have ne:s.heap.objs.size≠s.heap.objs.size + 1:=YMS (Nat.lt_succ_self _);refine⟨by rw[YJ ne,YD],YMI _,ne,e2,λ_=>none,(Heap.Ns1.of_empty e3).at λo q=>YL0 _ q,λ_=>True.intro,λy hy=>absurd rfl hy⟩
theorem attr_of {prog:Program}{w:World}{env:Env}{e:Expr}{f:Str}{pos:Pos}{s:Shared}{Q:Value->Shared->Prop} (hb:attributeBase e f env (eval e env)=eval e env)
  (h:wpAny (model prog w) A (eval e env) (λo s₁=>wpAny (model prog w) A (getAttr o f true) Q E s₁) E s):wpAny (model prog w) A (eval (.Attribute e f pos) env) Q E s:=
 Attribute_any_ h (by rw[arm_eval_Attribute,hb])
end
inductive tFld_ (K:W.Frag) (f:Str) (Q:VK) (x:V) (H1:Hp):Prop where
 |mk (a:_) (C:_) (dx:_) (fs:_) (v:_) (a_:x=.ref a) (bc:H1 a=some (.ins C dx fs)) (bJ:Cls K C) (cA:Zm K C f) (dm:fs.lookup f=some v) (gM:Q v H1):tFld_ K f Q x H1
def tFld (K:W.Frag) (ta:TE) (f:Str):TE:=λσ H Q=>ta σ H λx H1=>tFld_ K f Q x H1
inductive sFld_ (K:W.Frag) (f:Str) (D:YAo) (σ:St) (y:V) (x:V) (H2:Hp):Prop where
 |mk (a:_) (C:_) (dx:_) (fs:_) (a_:x=.ref a) (bc:H2 a=some (.ins C dx fs)) (bJ:Cls K C) (cA:Zm K C f) (dm:fs.length < 1000) (gM:D.nx σ (upd H2 a (.ins C dx (Xx f y fs)))):sFld_ K f D σ y x H2
def sFld (K:W.Frag) (ta tv:TE) (f:Str):TS:=λD σ H=>tv σ H λy H1=>ta σ H1 λx H2=>sFld_ K f D σ y x H2
section
variable {X:Cx}{o e value:Expr}{f:Str}{pos gJ mV:Pos}{ta tv:TE}
theorem pe_fld (he:PE X e ta) (hb:attributeBase e f X.env (eval e X.env)=eval e X.env):PE X (.Attribute e f pos) (tFld X.K ta f):=by
 intro pins s σ H Q I h;refine attr_of hb (thn (he pins s σ H _ I h) ?_);rintro u s1 ⟨x,H1,I1,rx,a,C,dx,fs,v,ex,ea,c,n,l,q⟩;subst ex;obtain rfl:u=Value.ref a:=rx;exact YHu I1 ea c n l λu' s2 I2 ru=>⟨v,H1,I2,ru,q⟩
theorem ps_fld (ha:PE X o ta) (hv:PE X value tv) (hs:swapsWith value (some (.Attribute o f gJ)) pos.line X.env=pure false):PS X (.Assign [.Attribute o f gJ] value pos) (sFld X.K ta tv f):=by
 intro pins s σ H D I h;refine plainObj_wpAny_Assign_Attribute (thn (hv pins s σ H _ I h) λu s1 ⟨y,H1,I1,ry,q⟩=>thn (ha pins s1 σ H1 _ I1 q) λov s2 ⟨x,H2,I2,rx,a,C,dx,fs,ex,ea,c,n,l,q2⟩=>?_) hs;subst ex;obtain rfl:ov=Value.ref a:=rx;exact YHv I2 ea c n l ry λs3 I3=>⟨σ,_,I3,q2⟩
end
section
variable {X:Cx}{pins:List (Addr×Obj)}{σ:St}{H:Hp}{s:Shared}{A:Around}{E:Value->Shared->Prop}{Q:Value->Shared->Prop}{c:Value}{b:Bool}
inductive YBg (K:W.Frag) (H:Hp):V->Value->Prop where
 |non:YBg K H .non (.type "NoneType")
 |bl (x:Bool):YBg K H (.bl x) (.type "bool")
 |int (i:Int):YBg K H (.int i) (.type "int")
 |str (x:Str):YBg K H (.str x) (.type "str")
 |flt (x:UInt64):YBg K H (.flt x) (.type "float")
 |lst {a:Addr}{xs:List V} (e:H a=some (.lst xs)):YBg K H (.ref a) (.type "list")
 |frz {a:Addr}{o:Obj}{xs:List V} (e:H a=some (.frz o (.lst xs))):YBg K H (.ref a) (.type "list")
 |tup {a:Addr}{xs:List V} (e:H a=some (.tup xs)):YBg K H (.ref a) (.type "tuple")
 |dK {a:Addr}{kvs:List (Key×V)} (e:H a=some (.dK kvs)):YBg K H (.ref a) (.type "dict")
 |dT {a:Addr}{kvs:List (List Key×V)} (e:H a=some (.dT kvs)):YBg K H (.ref a) (.type "dict")
 |ins {a C dx:Addr}{fs:List (Str×V)} (e:H a=some (.ins C dx fs)) (cl:Cls K C) (ha:PySem.W.findIn K (.ref C) "__class__"=some (some (.builtin "object.__class__")))
   (hn:PySem.W.specialIn K (.builtin "object.__class__") "__get__"=some (some (.builtin "getset_descriptor.__get__"))) (Qk:PySem.W.takesIn K (.builtin "object.__class__")=some true)
   (hm:PySem.W.mroIn K C (.type "object")=some true):YBg K H (.ref a) (.ref C)
theorem YJb {x:V}{u t:Value} (I:Inv X pins σ H s) (rx:Ys x u) (ty:YBg X.K H x t) (e:PySem.W.kitOne X.K t c=some b) (h:∀tk,Q (.bool b) { s with toks:=tk }):
  wpAny (model X.prog X.w) A (call (.builtin "isinstance") [u,c]) Q E s:=by
 cases ty with
 |non=>cases (show u=Value.none from rx);exact PySem.W.kia_one PySem.W.kitx_none I.kIn True.intro e nofun h
 |bl y=>cases (show u=Value.bool y from rx);exact PySem.W.kia_one PySem.W.kitx_bool I.kIn True.intro e nofun h
 |int i=>obtain⟨t,q⟩:=(show ∃t,u=Value.int i t from rx);cases q;exact PySem.W.kia_one PySem.W.kitx_int I.kIn True.intro e nofun h
 |str y=>obtain⟨t,q⟩:=(show ∃t,u=Value.str y t from rx);cases q;exact PySem.W.kia_one PySem.W.kitx_str I.kIn True.intro e nofun h
 |flt y=>obtain⟨t,q⟩:=(show ∃t,u=Value.float y t from rx);cases q;exact PySem.W.kia_one PySem.W.kitx_float I.kIn True.intro e nofun h
 |@lst a xs ea=>
  cases (show u=Value.ref a from rx);obtain⟨_,_,n,_,h1⟩:=(show Y3 X.prog X.w H s.heap a (.lst xs) from I.hok a _ ea);exact PySem.W.kia_one PySem.W.kitx_list I.kIn ⟨_,h1,Z⟩ e nofun h
 |@frz a ob xs ea=>
  cases (show u=Value.ref a from rx);obtain⟨_,_,_,n,_,h1⟩:=(show Y3 X.prog X.w H s.heap a (.frz ob (.lst xs)) from I.hok a _ ea);exact PySem.W.kia_one PySem.W.kitx_list I.kIn ⟨_,h1,Z⟩ e nofun h
 |@tup a xs ea=>
  cases (show u=Value.ref a from rx);obtain⟨_,_,_,p⟩:=(show Y3 X.prog X.w H s.heap a (.tup xs) from I.hok a _ ea);obtain⟨o,h1,h2,_⟩:=p;exact PySem.W.kia_one PySem.W.kitx_tuple I.kIn ⟨o,h1,h2⟩ e nofun h
 |@dK a kvs ea=>
  cases (show u=Value.ref a from rx);obtain⟨_,_,vs,_,p⟩:=(show Y3 X.prog X.w H s.heap a (.dK kvs) from I.hok a _ ea);obtain⟨o,es,ep,h1,h2,_⟩:=p;exact PySem.W.kia_one PySem.W.kitx_dict I.kIn ⟨o,h1,h2.1⟩ e nofun h
 |@dT a kvs ea=>
  cases (show u=Value.ref a from rx);obtain⟨_,_,xs,_,o,es,ep,h1,h2,_⟩:=(show Y3 X.prog X.w H s.heap a (.dT kvs) from I.hok a _ ea);exact PySem.W.kia_one PySem.W.kitx_dict I.kIn ⟨o,h1,h2.1⟩ e nofun h
 |@ins a C dx fs ea cl ha hn Qk hm=>
  cases (show u=Value.ref a from rx);obtain⟨mA,O,_⟩:=YDJ I.hok ea;obtain⟨od,J,_⟩:=O.look;exact PySem.W.kia_one (PySem.W.kitx_own (cl.get _) cl.hd ha hn Qk hm) I.kIn J e nofun h
end
end L2
namespace L2
open PySem PySem.Spec PyProof.Rows
structure J8 (k:Nat) (A:Around):Prop where
 hd:A.handled=none
 dp:A.depth + 3 * k + 5 < recursionLimit
 un:A.units + 16 * k + 200 < cLine
theorem J8.mono {j k:Nat}{A:Around} (r:J8 k A) (h:j<=k):J8 j A:=⟨r.hd,by have:=r.dp;omega,by have:=r.un;omega⟩
theorem J8.deeper {k:Nat}{A:Around} (r:J8 (k + 1) A) (env:Env):J8 k (A.deeper env):=
 ⟨r.hd,by have:=r.dp;show A.depth + 1 + 3 * k + 5 < _;omega,by have:=r.un;show A.units + 3 + 16 * k + 200 < _;omega⟩
theorem YHw {A:Around}{C:Addr}{us:List Value}{kw:List (Str×Value)}:(A.under (.builtin "type.__call__" ⟨.ref C :: us,kw⟩)).depth=A.depth + 1:=by
 first |rfl |simp[Around.under,Code.weight,Code.isCreation,Code.isGuard,Code.isCaller,Code.frames,Code.isFrame,guardIds]
theorem YHx {A:Around}{C:Addr}{us:List Value}{kw:List (Str×Value)}:(A.under (.builtin "type.__call__" ⟨.ref C :: us,kw⟩)).units=A.units + 1:=by
 first |rfl |simp[Around.under,Code.cUnits,Code.frames,Code.isFrame]
theorem J8.make {k:Nat}{A:Around} (r:J8 (k + 1) A) (C:Addr) (us:List Value) (kw:List (Str×Value)):J8 k (A.under (.builtin "type.__call__" ⟨.ref C :: us,kw⟩)):=
 ⟨r.hd,by have:=r.dp;rw[YHw];omega,by have:=r.un;rw[YHx];omega⟩
theorem J8.depth {k:Nat}{A:Around} (r:J8 k A):A.depth < recursionLimit:=by have:=r.dp;omega
theorem J8.units {k:Nat}{A:Around} (r:J8 k A):A.units + 64 < cLine:=by have:=r.un;omega
def tNil:TA:=λ_ H Q=>Q [] H
def YIe (ta:TE) (tr:TA):TA:=λσ H Q=>ta σ H λx H1=>tr σ H1 λxs H2=>Q (x :: xs) H2
section
variable {X:Cx}{e:Expr}{es:List Expr}{te:TE}{t:TA}{pos:Pos}
theorem YB:PA X [] tNil:=λ_ _ _ _ H Q I h=>Calls.spliced_nil ⟨[],H,I,.nil,h⟩
theorem YA (ha:PE X e te) (hr:PA X es t) (hs:starEach (e :: es) X.env=(false,eval e X.env) :: starEach es X.env:=by rfl):PA X (e :: es) (YIe te t):=by
 intro pos pins s σ H Q I h;rw[hs];show wpAny _ _ (spliced ((false,eval e X.env) :: backTo pos (starEach es X.env))) _ _ s;refine Calls.spliced_cons (thn (ha pins s σ H _ I h) λu s1 ⟨x,H1,I1,r1,q1⟩=>?_);exact thn (hr pos pins s1 σ H1 _ I1 q1) λus s2 ⟨xs,H2,I2,r2,q2⟩=>⟨x :: xs,H2,I2,.cons r1 r2,q2⟩
inductive tTup_ (Q:VK) (xs:List V) (H1:Hp):Prop where
 |mk (a_:xs.length<=sizeLine) (bc:∀p,H1 p=none->Q (.ref p) (upd H1 p (.tup xs))):tTup_ Q xs H1
def tTup (t:TA):TE:=λσ H Q=>t σ H λxs H1=>tTup_ Q xs H1
inductive tLst_ (Q:VK) (xs:List V) (H1:Hp):Prop where
 |mk (a_:xs.length<=sizeLine) (bc:∀p,H1 p=none->Q (.ref p) (upd H1 p (.lst xs))):tLst_ Q xs H1
def tLst (t:TA):TE:=λσ H Q=>t σ H λxs H1=>tLst_ Q xs H1
theorem Ze {x1} (h:PA X es t):PE X (.Tuple es x1 pos) (tTup t):=by
 intro pins s σ H Q I hq;refine wpAny_Tuple_spliced (thn (h pos pins s σ H _ I hq) λus s1 ⟨xs,H1,I1,r,z,q⟩=>⟨by rw[<-r.length];exact z,?_⟩);have hf:H1 s1.heap.objs.size=none:=I1.hok.fresh (YLr _);refine⟨.ref s1.heap.objs.size,upd H1 s1.heap.objs.size (.tup xs),I1.laid (t':=s1.toks) (λb u e=>YL0 _ e) (YLr _) ?_,Z,q _ hf⟩;exact⟨z,us,r,⟨_,YMF _ rfl,Z,_,Z⟩⟩
theorem Zr (h:PA X es t):PE X (.List es pos) (tLst t):=by
 intro pins s σ H Q I hq;refine wpAny_List_spliced (thn (h pos pins s σ H _ I hq) λus s1 ⟨xs,H1,I1,r,z,q⟩=>⟨by rw[<-r.length];exact z,?_⟩);have hf:H1 s1.heap.objs.size=none:=I1.hok.fresh (YLr _);refine⟨.ref s1.heap.objs.size,upd H1 s1.heap.objs.size (.lst xs),I1.laid (t':=s1.toks) (λb u e=>YL0 _ e) (YLr _) ?_,Z,q _ hf⟩;exact⟨z,us,0,r,YMF _ rfl⟩
end
abbrev Sp:=List V->Hp->VK->XK->Prop
abbrev CXT:=List Env->Hp->Shared->XK->Value->Shared->Prop
structure Env0 (P:Program) (w:World) (K:W.Frag) (mg:Str->Option Value) (base:Heap) (A:Around) (outer:List Env) (s:Shared) (H:Hp):Prop where
 frames:A.frames=some outer
 mod:Mod K mg base
 bs:∀b o,base.get? b=some o->s.heap.get? b=some o/\H b=none
 bsz:base.objs.size<=s.heap.objs.size
 funs:s.heap.FunFrames base outer
 frf:∀b∈frs outer,H b=none
 hok:HOk P w H s.heap
 bare:AllBare s.gens
def CE (outer:List Env) (P:Program) (w:World) (H:Hp) (s:Shared) (Q:VK) (u:Value) (s':Shared):Prop:=
 ∃v H',s'.os=s.os/\AllBare s'.gens/\Un (frs outer) [] H H' s.heap s'.heap/\HOk P w H' s'.heap/\Ys v u/\Q v H'
def CR (CX:CXT) (outer:List Env) (P:Program) (w:World) (H:Hp) (s:Shared) (Q:VK) (E:XK) (r:Result) (s':Shared):Prop:=
 match r with
 |.ok (.ret u)=>CE outer P w H s Q u s'
 |.ok _=>False
 |.error e=>CX outer H s E e s'
structure Yt (P:Program) (w:World) (K:W.Frag) (mg:Str->Option Value) (base:Heap) (CX:CXT) (k:Nat) (f:Addr) (fd:FuncData) (ps:List Str) (sp:Sp):Prop where
 len:∀vs H Q E,sp vs H Q E->vs.length=ps.length
 run:∀(A:Around) (outer:List Env) (s:Shared) (H:Hp) (args:Args) (us:List Value) (vs:List V) (Q:VK) (E:XK),J8 k A->Env0 P w K mg base A outer s H->BindsTo s fd args (ps.zip us)->Ym vs us->sp vs H Q E->
  codeAny (model P w) A (.call (.ref f) args) (CR CX outer P w H s Q E) s
theorem Env0.make {P:Program}{w:World}{K:W.Frag}{mg:Str->Option Value}{base:Heap}{A:Around}{outer:List Env}{s:Shared}{H:Hp} (e:Env0 P w K mg base A outer s H) (C:Addr) (us:List Value) (kw:List (Str×Value)):
  Env0 P w K mg base (A.under (.builtin "type.__call__" ⟨.ref C :: us,kw⟩)) outer s H:=⟨by first |exact e.frames |(simpa [Around.under,Code.envs,Code.isFrame,pushEnvs] using e.frames),e.mod,e.bs,e.bsz,e.funs,e.frf,e.hok,e.bare⟩
section
variable {X:Cx}{pins:List (Addr×Obj)}{σ:St}{H:Hp}{s s':Shared}
theorem Inv.env0 (I:Inv X pins σ H s):Env0 X.prog X.w X.K X.mg X.base X.A X.stack s H:=
 ⟨I.ok.frames,I.ok.mod,I.bs,YMP I.ok.bsz I.sz,I.stack,I.stkFree,I.hok,I.bare⟩
theorem Inv.after {Q:VK}{u:Value} (I:Inv X pins σ H s) (h:CE X.stack X.prog X.w H s Q u s'):EP X pins σ Q u s':=by
 obtain⟨v,H',os,bare,un,hok,r,q⟩:=h;obtain⟨hh,g,d,t,sO⟩:=s';obtain rfl:sO=s.os:=os;exact⟨v,H',I.call (h':=hh) (g':=g) (d':=d) (t':=t) (ch:=[]) un hok bare (λb z=>absurd z (by simp)),r,q⟩
end
def tCall (sp:Sp) (jP:List V) (E:XK) (t:TA):TE:=λσ H Q=>t σ H λvs H1=>sp (vs ++ jP) H1 Q E
inductive YKZ (C:Addr) (m:Str) (sp:Sp) (jP:List V) (E:XK) (t:TA) (σ:St) (Q:VK) (x:V) (H1:Hp):Prop where
 |mk (a:_) (dx:_) (fs:_) (a_:x=.ref a) (bc:H1 a=some (.ins C dx fs)) (bJ:fs.lookup m=none) (cA:t σ H1 λvs H2=>sp (x :: (vs ++ jP)) H2 Q E):YKZ C m sp jP E t σ Q x H1
def tMeth (C:Addr) (m:Str) (sp:Sp) (jP:List V) (E:XK) (ta:TE) (t:TA):TE:=λσ H Q=>ta σ H λx H1=>YKZ C m sp jP E t σ Q x H1
def tMake (C:Addr) (sp:Sp) (jP:List V) (E:XK) (t:TA):TE:=λσ H Q=>t σ H λvs H1=>∀x dx,H1 x=none->H1 dx=none->dx≠x->
 sp (.ref x :: (vs ++ jP)) (upd (upd H1 dx (.own x)) x (.ins C dx [])) (λv H2=>v=.non/\Q (.ref x) H2) E
def YAj (K:W.Frag) (fd:FuncData) (ps:List Str) (ds:List Value):Prop:=
 ∀(s:Shared) (us:List Value),K.In s.heap->(us ++ ds).length=ps.length->BindsTo s fd ⟨us,[]⟩ (ps.zip (us ++ ds))
theorem YAj.all {K:W.Frag}{fd:FuncData}{ps:List Str} (h:∀us:List Value,us.length=ps.length->bindArgs fd ⟨us,[]⟩=pure (ps.zip us)):YAj K fd ps []:=λs us _ hl=>by
 rw[YMZ]at hl ⊢;exact .of_eq (h us hl)
def YAV (CX:CXT) (X:Cx) (E:XK):Prop:=∀(pins:List (Addr×Obj)) (σ:St) (H:Hp) (s:Shared) (e:Value) (s':Shared),Inv X pins σ H s->CX X.stack H s E e s'->X.xe e s'
section
variable {X:Cx}{CX:CXT}{k:Nat}{f C:Addr}{fd:FuncData}{ps:List Str}{sp:Sp}{jP:List V}{ds:List Value}{E:XK}{x m:Str}{p pos cC:Pos}{e o:Expr}{es:List Expr}{ta:TE}{t:TA}
theorem YHy {pins:List (Addr×Obj)}{σ:St}{H:Hp}{s:Shared}{Q:VK}{us:List Value}{vs:List V} (F:Yt X.prog X.w X.K X.mg X.base CX k f fd ps sp) (hr:J8 k X.A) (hb:YAj X.K fd ps ds) (hd:Ym jP ds) (hx:YAV CX X E)
  (I:Inv X pins σ H s) (r:Ym vs us) (h:sp (vs ++ jP) H Q E):wpAny (model X.prog X.w) X.A (call (.ref f) us) (EP X pins σ Q) X.xe s:=by
 have r2:Ym (vs ++ jP) (us ++ ds):=r.append hd;have hl:(us ++ ds).length=ps.length:=by rw[<-r2.length];exact F.len _ _ _ _ h
 refine wpAny_call (codeAny_mono (F.run X.A X.stack s H ⟨us,[]⟩ (us ++ ds) (vs ++ jP) Q E hr I.env0 (hb s us I.kIn hl) r2 h) λr s' hq=>?_);cases r with
 |error e=>exact hx pins σ H s e s' I hq
 |ok fl=>
  cases fl with
  |ret u=>exact I.after hq
  |next=>exact False.elim hq
  |brk=>exact False.elim hq
  |cont=>exact False.elim hq
theorem YZ (F:Yt X.prog X.w X.K X.mg X.base CX k f fd ps sp) (hr:J8 k X.A) (hg:Gl X x) (hm:X.mg x=some (.ref f)) (hk:PySem.W.keepIn X.K (.ref f)=true) (hb:YAj X.K fd ps ds) (hd:Ym jP ds) (hx:YAV CX X E)
  (ha:PA X (e :: es) t) (hdb:(x == ("__debug__":Str))=false:=by decide) (he:starEach (e :: es) X.env=(false,eval e X.env) :: starEach es X.env:=by rfl) (hpl:(backTo pos (starEach es X.env)).any (·.1)=false:=by rfl):
  PE X (.Call (.Name x p) (e :: es) [] pos) (tCall sp jP E t):=by
 intro pins s σ H Q I h;refine wpAny_Call_Name_kw (YDH I hg hm ?_ hdb);refine PySem.W.callWith_K (h₀:=X.base) I.ok.mod.kin hk (thn (ha pos pins s σ H _ I h) λus s1 ⟨vs,H1,I1,r,q⟩=>⟨I1.kIn,?_⟩) he hpl;exact YHy F hr hb hd hx I1 r q
theorem Zs {pl:Sem Bool} (he:PE X o ta) (c:Cls X.K C) (hm:Meth X.K C m f) (F:Yt X.prog X.w X.K X.mg X.base CX k f fd ps sp) (hr:J8 k X.A) (hb:YAj X.K fd ps ds) (hd:Ym jP ds) (hx:YAV CX X E) (ha:PA X (e :: es) t)
  (hst:starEach (e :: es) X.env=(false,eval e X.env) :: starEach es X.env:=by rfl) (hpl:(backTo pos (starEach es X.env)).any (·.1)=false:=by rfl)
  (ht:eval (.Call (.Attribute o m cC) (e :: es) [] pos) X.env=(do
   let ov <-eval o X.env
   standAt cC.atName
   let (f,first) <-holding [ov] (getMethod ov m pl)
   callWith pos f first (backTo pos (starEach (e :: es) X.env)) (backToKw pos (keywordEach [] X.env))):=by rfl):
  PE X (.Call (.Attribute o m cC) (e :: es) [] pos) (tMeth C m sp jP E ta t):=by
 intro pins s σ H Q I h;refine PySem.W.methodCall_KW (pl:=pl) (thn (he pins s σ H _ I h) λu s1 ⟨x,H1,I1,rx,a,dx,fs,ex,ea,l,q⟩=>?_) ht;subst ex;obtain rfl:u=Value.ref a:=rx;refine YDW I1 ea c hm l ?_;refine PySem.W.callWith_K (first:=[.ref a]) (h₀:=X.base) I.ok.mod.kin hm.kp (thn (ha pos pins s1 σ H1 _ I1 q) λus s2 ⟨vs,H2,I2,r,q2⟩=>⟨I2.kIn,?_⟩) hst hpl;exact YHy (us:=.ref a :: us) (vs:=.ref a :: vs) F hr hb hd hx I2 (.cons rfl r) q2
theorem YDX {pl:Sem Bool} (he:PE X o ta) (c:Cls X.K C) (hm:Meth X.K C m f) (F:Yt X.prog X.w X.K X.mg X.base CX k f fd ps sp) (hr:J8 k X.A) (hb:YAj X.K fd ps ds) (hd:Ym jP ds) (hx:YAV CX X E)
  (ht:eval (.Call (.Attribute o m cC) [] [] pos) X.env=(do
   let ov <-eval o X.env
   standAt cC.atName
   let (f,first) <-holding [ov] (getMethod ov m pl)
   callWith pos f first (backTo pos (starEach [] X.env)) (backToKw pos (keywordEach [] X.env))):=by rfl):
  PE X (.Call (.Attribute o m cC) [] [] pos) (tMeth C m sp jP E ta tNil):=by
 intro pins s σ H Q I h;refine PySem.W.methodCall_KW (pl:=pl) (thn (he pins s σ H _ I h) λu s1 ⟨x,H1,I1,rx,a,dx,fs,ex,ea,l,q⟩=>?_) ht;subst ex;obtain rfl:u=Value.ref a:=rx;refine YDW I1 ea c hm l ?_;exact PySem.W.callWith_K0 (first:=[.ref a]) I1.kIn hm.kp (YHy (us:=[.ref a]) (vs:=[.ref a]) F hr hb hd hx I1 (.cons rfl .nil) q)
structure Mk (K:W.Frag) (C f:Addr):Prop where
 makes:PySem.W.makesIn K C=true
 init:PySem.W.findIn K (.ref C) "__init__"=some (some (.ref f))
 fn:PySem.W.isFn K (.ref f)=true
 kp:PySem.W.keepIn K (.ref C)=true
theorem YKa {pins:List (Addr×Obj)}{σ:St}{H:Hp}{s:Shared}{Q:VK}{us:List Value}{vs:List V} (M:Mk X.K C f) (F:Yt X.prog X.w X.K X.mg X.base CX k f fd ps sp) (hr:J8 (k + 1) X.A) (hb:YAj X.K fd ps ds) (hd:Ym jP ds)
  (hx:YAV CX X E) (I:Inv X pins σ H s) (r:Ym vs us)
  (h:∀x dx,H x=none->H dx=none->dx≠x->sp (.ref x :: (vs ++ jP)) (upd (upd H dx (.own x)) x (.ins C dx [])) (λv H2=>v=.non/\Q (.ref x) H2) E):
  wpAny (model X.prog X.w) X.A (call (.ref C) us) (EP X pins σ Q) X.xe s:=by
 have hq:=h (s.heap.objs.size + 1) s.heap.objs.size (I.hok.fresh (YNh _)) (I.hok.fresh (YLr _)) (YMS (Nat.lt_succ_self _));have I2:=Inv.made (C:=C) I;have r2:Ym (V.ref (s.heap.objs.size + 1) :: (vs ++ jP)) (Value.ref (s.heap.objs.size + 1) :: (us ++ ds)):=.cons rfl (r.append hd);have hl:(Value.ref (s.heap.objs.size + 1) :: us ++ ds).length=ps.length:=by
  have e:=r2.length;rw[F.len _ _ _ _ hq]at e;exact e.symm
 refine wpAny_call (YKY (f:=f) I.kIn M.makes M.init (beq_iff_eq.mp M.fn) (codeAny_mono (F.run _ X.stack _ _ ⟨Value.ref (s.heap.objs.size + 1) :: us,[]⟩ (Value.ref (s.heap.objs.size + 1) :: (us ++ ds)) _ _ E (hr.make C us [])
  (I2.env0.make C us []) (hb _ (Value.ref (s.heap.objs.size + 1) :: us) I2.kIn hl) r2 hq) λr s' hq'=>?_))
 cases r with
 |error e=>exact hx pins σ _ _ e s' I2 hq'
 |ok fl=>
  cases fl with
  |ret u=>
   obtain⟨v,H',I3,rv,ev,q3⟩:=I2.after hq';subst ev;exact⟨rv,⟨V.ref (s.heap.objs.size + 1),H',I3,Z,q3⟩⟩
  |next=>exact False.elim hq'
  |brk=>exact False.elim hq'
  |cont=>exact False.elim hq'
theorem YIf (M:Mk X.K C f) (F:Yt X.prog X.w X.K X.mg X.base CX k f fd ps sp) (hr:J8 (k + 1) X.A) (hg:Gl X x) (hm:X.mg x=some (.ref C)) (hb:YAj X.K fd ps ds) (hd:Ym jP ds) (hx:YAV CX X E)
  (ha:PA X (e :: es) t) (hdb:(x == ("__debug__":Str))=false:=by decide) (he:starEach (e :: es) X.env=(false,eval e X.env) :: starEach es X.env:=by rfl) (hpl:(backTo pos (starEach es X.env)).any (·.1)=false:=by rfl):
  PE X (.Call (.Name x p) (e :: es) [] pos) (tMake C sp jP E t):=by
 intro pins s σ H Q I h;refine wpAny_Call_Name_kw (YDH I hg hm ?_ hdb);refine PySem.W.callWith_K (h₀:=X.base) I.ok.mod.kin M.kp (thn (ha pos pins s σ H _ I h) λus s1 ⟨vs,H1,I1,r,q⟩=>⟨I1.kIn,?_⟩) he hpl;exact YKa M F hr hb hd hx I1 r q
end
def PK (X:Cx) (kws:List Keyword) (t:TA):Prop:=
 ∀(pos:Pos) (pins:List (Addr×Obj)) (s:Shared) (σ:St) (H:Hp) (Q:List V->Hp->Prop),Inv X pins σ H s->t σ H Q->wpAny (model X.prog X.w) X.A (evalAll ((backToKw pos (keywordEach kws X.env)).map (·.2))) (AP X pins σ Q) X.xe s
section
variable {X:Cx}{CX:CXT}{k:Nat}{f C:Addr}{fd:FuncData}{ps ks:List Str}{sp:Sp}{E:XK}{x m:Str}{p pos cC kpos:Pos}{e o:Expr}{es:List Expr}{kws:List Keyword}{te ta:TE}{t tk:TA}{nm:Option Str}
theorem pk_nil:PK X [] tNil:=λ_ _ _ _ H Q I h=>wpAny_evalAll_nil ⟨[],H,I,.nil,h⟩
theorem pk_cons (ha:PE X e te) (hr:PK X kws t):PK X (⟨nm,e,kpos⟩ :: kws) (YIe te t):=by
 intro pos pins s σ H Q I h;show wpAny _ _ (evalAll ((do let v <-eval e X.env;standAt pos;pure v) :: (backToKw pos (keywordEach kws X.env)).map (·.2))) _ _ s;refine wpAny_evalAll_cons (YLx (thn (ha pins s σ H _ I h) λu s1 ⟨x,H1,I1,r1,q1⟩=>YLx (wpAny_standAt (YMJ ?_))));exact thn (hr pos pins s1 σ H1 _ I1 q1) λus s2 ⟨xs,H2,I2,r2,q2⟩=>⟨x :: xs,H2,I2,.cons r1 r2,q2⟩
variable {g:List Value->List Value->List Value}{gV:List V->List V->List V}
end
structure YX (N P:List Str) (sc:Scope):Prop where
 kind:sc.kind=.function
 co:sc.isCoroutine=false
 gen:sc.isGenerator=false
 nd:N.Nodup
 pre:N.take P.length=P
 par:∀x∈P,sc.names.lookup x=some .local\/sc.names.lookup x=some .cell
 nofree:∀y∈sc.names,y.2≠.free
theorem YEn {kindOf:Str->Option NameKind}{x:Str}:∀{binds:List (Str×Value)}{m:Str->Option Value},(∀v,(x,v)∉binds)->bindL kindOf binds m x=m x
 |[],_,_=>rfl
 |(n,v) :: r,m,h=>by
  unfold bindL;rw[YEn λw hw=>h w (YL6 _ hw)];split
  ·have:x≠n:=by rintro rfl;exact h v YMG
   simp[this]
  ·rfl
theorem YEo {kindOf:Str->Option NameKind}{x:Str}:∀{binds:List (Str×Value)}{m:Str->Option Value},(∀v,(x,v)∉binds)->bindC kindOf binds m x=m x
 |[],_,_=>rfl
 |(n,v) :: r,m,h=>by
  unfold bindC;rw[YEo λw hw=>h w (YL6 _ hw)];split
  ·rfl
  ·have:x≠n:=by rintro rfl;exact h v YMG
   simp[this]
theorem YEp {kindOf:Str->Option NameKind}{x:Str}{v:Value}:∀{P:List Str}{vs:List Value}{i:Nat}{m:Str->Option Value},P.Nodup->P[i]?=some x->vs[i]?=some v->kindOf x=some .local->
  bindL kindOf (P.zip vs) m x=some v
 |[],_,_,_,_,h,_,_=>by simp at h
 |_ :: _,[],_,_,_,_,h,_=>by simp at h
 |p :: P,w :: vs,0,m,nd,h1,h2,hk=>by
  simp at h1 h2;subst h1;subst h2;show bindL kindOf ((p,w) :: P.zip vs) m p=_;unfold bindL;rw[YEn λv hv=>(YMu.mp nd).1 (List.of_mem_zip hv).1,if_pos hk];simp
 |p :: P,w :: vs,i + 1,m,nd,h1,h2,hk=>by
  show bindL kindOf ((p,w) :: P.zip vs) m x=_;unfold bindL;exact YEp (i:=i) (YMu.mp nd).2 (by simpa using h1) (by simpa using h2) hk
theorem YEq {kindOf:Str->Option NameKind}{x:Str}{v:Value}:∀{P:List Str}{vs:List Value}{i:Nat}{m:Str->Option Value},P.Nodup->P[i]?=some x->vs[i]?=some v->kindOf x≠some .local->
  bindC kindOf (P.zip vs) m x=some v
 |[],_,_,_,_,h,_,_=>by simp at h
 |_ :: _,[],_,_,_,_,h,_=>by simp at h
 |p :: P,w :: vs,0,m,nd,h1,h2,hk=>by
  simp at h1 h2;subst h1;subst h2;show bindC kindOf ((p,w) :: P.zip vs) m p=_;unfold bindC;rw[YEo λv hv=>(YMu.mp nd).1 (List.of_mem_zip hv).1,if_neg hk];simp
 |p :: P,w :: vs,i + 1,m,nd,h1,h2,hk=>by
  show bindC kindOf ((p,w) :: P.zip vs) m x=_;unfold bindC;exact YEq (i:=i) (YMu.mp nd).2 (by simpa using h1) (by simpa using h2) hk
def start (N:List Str) (vs:List V):St:=vs.map some ++ List.replicate (N.length - vs.length) none
def YCW (CX:CXT) (P:Program) (w:World) (K:W.Frag) (mg:Str->Option Value) (base:Heap) (N:List Str) (qual:Str) (scope:Scope) (f:Addr) (cd:Value) (A:Around) (outer:List Env) (s:Shared) (H:Hp) (E:XK):Cx where
 prog:=P
 w:=w
 K:=K
 mg:=mg
 base:=base
 A:=A.deeper (envOfC qual scope s.heap.objs.size f cd)
 N:=N
 s₀:=s
 H₀:=H
 env:=envOfC qual scope s.heap.objs.size f cd
 outer:=outer
 stack:=envOfC qual scope s.heap.objs.size f cd :: outer
 ex:=[]
 calm:=true
 fn:=λ_=>true
 pn:=[]
 xe:=λe s'=>wpAny (model P w) (A.deeper (envOfC qual scope s.heap.objs.size f cd)) (leaving (envOfC qual scope s.heap.objs.size f cd) e) (λ_ rT=>CX outer H s E e rT) (λe' rT=>CX outer H s E e' rT) s'
theorem Jg {sc:Scope}{n:Nat}{x:Str} (h:sc.names.lookup x=some .cell):∃c,(cellsFrom n sc.names []).lookup x=some c:=by
 have q:=PySem.W.cellsFrom_some sc.names n [] (.inl h);exact YMT.mp q
theorem YJc {CX:CXT}{P:Program}{w:World}{K:W.Frag}{mg:Str->Option Value}{base:Heap}{N ps:List Str}{qual:Str}{scope:Scope}{f:Addr}{cd:Value}{A:Around}{outer:List Env}{s s1:Shared}{H:Hp}{E:XK}{us:List Value}{vs:List V}
  (S:YX N ps scope) (hd:A.handled=none) (e0:Env0 P w K mg base A outer s H) (hl:vs.length=ps.length) (r:Ym vs us)
  (x:InCallC s s.heap.objs.size (bindL (envOfC qual scope s.heap.objs.size f cd).kindOf (ps.zip us) λ_=>none) (cellsFrom (s.heap.objs.size + 1) scope.names []) (bindC (envOfC qual scope s.heap.objs.size f cd).kindOf (ps.zip us) λ_=>none) s1):
  Inv (YCW CX P w K mg base N qual scope f cd A outer s H E) [] (start N vs) H s1:=by
 have hpl:ps.length<=N.length:=by have:=YMw List.length S.pre;rw[YMp]at this;omega
 obtain⟨h1,tk,rfl,hk⟩:=x.done;have noA:∀b:Addr,b∉(YCW CX P w K mg base N qual scope f cd A outer s H E).ex:=λb z=>absurd (show b∈([]:List Addr) from z) (by simp)
 refine⟨⟨e0.mod,S.kind,Z,Z,YLr _,λy z c h1 h2=>?_,λy hy=>?_,λy c _ h=>?_,λ_=>hd,Around.frames_deeper e0.frames,.inr ⟨Z,Z⟩,λb z=>absurd z (noA b),e0.bs,e0.bsz,λb _ _=>noA b,λb z=>absurd z (noA b),e0.funs,e0.frf⟩,
  rfl,e0.bare,Un.kept hk,⟨_,x.toInCall.ns,λi y v h1 h2 h3=>?_⟩,λy c h=>⟨_,x.cell y c h⟩,e0.hok.fresh (YLr _),λy c h=>?_,λp hp=>absurd (show p∈([]:List (Addr×Obj)) from hp) (by simp),e0.hok.kept hk,?_⟩
 ·exact name_of_addr x.apart (PySem.mem_of_lookup h1) (PySem.mem_of_lookup h2)
 ·have hy:scope.names.lookup y=some .cell\/scope.names.lookup y=some .free:=hy;rcases hy with hy |hy
  ·exact Jg hy
  ·exact absurd rfl (S.nofree _ (PySem.mem_of_lookup hy))
 ·exact YNa (x.above y c (PySem.mem_of_lookup h))
 ·have hi:i < vs.length:=by
   unfold start at h2
   by_cases hi:i < vs.length
   ·exact hi
   ·rw[YMd (by simpa using hi)]at h2;rw[List.getElem?_replicate]at h2;split at h2 <;> cases h2
  have ha:vs[i]?=some v:=by
   unfold start at h2;rw[YMs (by simpa using hi),YLt]at h2;cases e:vs[i]? with
   |none=>rw[e]at h2;cases h2
   |some a=>rw[e]at h2;cases h2;rfl
  obtain⟨u,hu,rv⟩:=r.get ha;have hp:ps[i]?=some y:=by
   rw[<-S.pre,List.getElem?_take_of_lt (by omega)];exact h1
  have ndP:ps.Nodup:=by rw[<-S.pre];exact S.nd.sublist (List.take_sublist _ _)
  refine⟨u,rv,?_⟩;rcases S.par y (YLu hp) with k |k
  ·exact .inl ⟨k,YEp ndP hp hu k⟩
  ·obtain⟨c,e⟩:=Jg (n:=s.heap.objs.size + 1) k;refine .inr ⟨.inl k,c,e,?_⟩;have q:=x.cell y c e;rw[YEq ndP hp hu (by show scope.names.lookup y≠_;rw[k];decide)]at q;exact q
 ·exact e0.hok.fresh (YNa (x.above y c (PySem.mem_of_lookup h)))
 ·unfold start;show _=N.length;rw[YLy,YLp,List.length_replicate];omega
theorem fn_of {CX:CXT}{P:Program}{w:World}{K:W.Frag}{mg:Str->Option Value}{base:Heap}{k:Nat}{f:Addr}{name qual:Str}{params:Arguments}{body:List Stmt}{scope:Scope}{dV kV doc pm aO ct oc:Value}{an od:Option Addr}
  {osl:Array (Option Value)}{N ps:List Str}{sp:Sp} (lk:K.lookup f=some ⟨oc,od,.func (PySem.W.fnOf name qual params body scope dV kV doc pm an aO ct),osl⟩) (hcd:PySem.W.codeIn K aO qual=true) (S:YX N ps scope)
  (len:∀vs H Q E,sp vs H Q E->vs.length=ps.length)
  (hbody:∀(A:Around) (outer:List Env) (s:Shared) (H:Hp) (vs:List V) (Q:VK) (E:XK),J8 k (A.deeper (envOfC qual scope s.heap.objs.size f aO))->sp vs H Q E->
   ∃t,PSs (YCW CX P w K mg base N qual scope f aO A outer s H E) body t/\t { nx:=λ_ H'=>Q .non H',rt:=Q } (start N vs) H):
  Yt P w K mg base CX (k + 1) f (PySem.W.fnOf name qual params body scope dV kV doc pm an aO ct) ps sp:=by
 refine⟨len,λA outer s H args us vs Q E hr e0 hb r hsp=>?_⟩;have hl:=len _ _ _ _ hsp;have KX:K.In s.heap:=e0.mod.kin.keeps λb o e=>(e0.bs b o e).1
 have lim:s.heap.NoLimit:=e0.mod.nolimit.keeps λb o e=>(e0.bs b o e).1
 have hkind:∀y∈ps.zip us,scope.names.lookup y.1=some .local\/(scope.names.lookup y.1=some .cell/\((cellsFrom (s.heap.objs.size + 1) scope.names []).lookup y.1).isSome=true):=λ⟨n,v⟩ hy=>by
  rcases S.par n (List.of_mem_zip hy).1 with q |q
  ·exact .inl q
  ·exact .inr ⟨q,PySem.W.cellsFrom_some _ _ _ (.inl q)⟩
 refine codeAny_call_function hr.depth (KX _ _ lk) rfl S.co S.gen rfl (PySem.W.codeRec_of KX hcd) (hb _ _ _ _ ?_);refine wpAny_newFunctionEnv_cells S.kind hkind λenv he s1 x=>?_
 subst he;refine⟨lim.keeps x.toInCall.keep,codeAny_func ?_⟩;obtain⟨t,ht,hq⟩:=hbody A outer s H vs Q E (hr.deeper _) hsp;have I:Inv (YCW CX P w K mg base N qual scope f aO A outer s H E) [] (start N vs) H s1:=YJc S hr.hd e0 hl r x;refine wpAny_mono (ht [] s1 (start N vs) H _ I hq) (λfl s' hs=>?_) λe s' hs=>hs
 have fin:∀{σ':St}{H':Hp}{v:V}{u:Value},Inv (YCW CX P w K mg base N qual scope f aO A outer s H E) [] σ' H' s'->Ys v u->Q v H'->CE outer P w H s Q u s':=
  λ{σ' H' v u} J rv q=>⟨v,H',J.os,J.bare,J.base,J.hok,rv,q⟩
 cases fl with
 |ret u=>
  obtain⟨v,σ',H',J,rv,q⟩:=hs;exact fin J rv q
 |next=>
  obtain⟨σ',H',J,q⟩:=hs;exact fin (v:=V.non) (u:=Value.none) J rfl q
 |brk=>
  obtain⟨_,_,_,q⟩:=hs;exact False.elim q
 |cont=>
  obtain⟨_,_,_,q⟩:=hs;exact False.elim q
end L2
namespace L2
open PySem PySem.Spec PyProof.Rows
section
variable {X:Cx}{x:Str}{p pos:Pos}{e:Expr}{es:List Expr}{t:TA}{id T:String}{r:List V->Hp->VK->Prop}
def tCB (r:List V->Hp->VK->Prop) (t:TA):TE:=λσ H Q=>t σ H λvs H1=>r vs H1 Q
theorem YO (hc:J7 X (.builtin id) r) (hg:Gl X x) (hm:X.mg x=none) (hv:bootBuiltins x=some (.builtin id)) (ha:PA X (e :: es) t) (hn:x≠"__name__":=by decide) (hdb:(x == ("__debug__":Str))=false:=by decide)
  (he:starEach (e :: es) X.env=(false,eval e X.env) :: starEach es X.env:=by rfl) (hpl:(backTo pos (starEach es X.env)).any (·.1)=false:=by rfl):PE X (.Call (.Name x p) (e :: es) [] pos) (tCB r t):=by
 intro pins s σ H Q I h;refine wpAny_Call_Name_kw (JT I hg hm hv ?_ hn hdb);exact PyProof.Rows.callWith_builtin1 (thn (ha pos pins s σ H _ I h) λus s1 ⟨vs,H1,I1,r1,q1⟩=>hc pins s1 σ H1 vs us Q I1 r1 q1) he hpl
theorem Xa (hc:J7 X (.type T) r) (hg:Gl X x) (hm:X.mg x=none) (hv:bootBuiltins x=some (.type T)) (ha:PA X (e :: es) t) (hn:x≠"__name__":=by decide) (hdb:(x == ("__debug__":Str))=false:=by decide)
  (he:starEach (e :: es) X.env=(false,eval e X.env) :: starEach es X.env:=by rfl) (hpl:(backTo pos (starEach es X.env)).any (·.1)=false:=by rfl):PE X (.Call (.Name x p) (e :: es) [] pos) (tCB r t):=by
 intro pins s σ H Q I h;refine wpAny_Call_Name_kw (JT I hg hm hv ?_ hn hdb);exact PyProof.Rows.callWith_type1 (thn (ha pos pins s σ H _ I h) λus s1 ⟨vs,H1,I1,r1,q1⟩=>hc pins s1 σ H1 vs us Q I1 r1 q1) he hpl
end
end L2
namespace HT
open PySem PyProof.Rows
def lexLt:List Int->List Int->Bool
 |[],[]=>false
 |[],_ :: _=>true
 |_ :: _,[]=>false
 |x :: xs,y :: ys=>if x=y then lexLt xs ys else decide (x < y)
theorem lexLt_cons (x y:Int) (xs ys:List Int):lexLt (x :: xs) (y :: ys)=if x=y then lexLt xs ys else decide (x < y):=rfl
theorem lexLt_nil_nil:lexLt [] []=false:=rfl
theorem YDY (y:Int) (ys:List Int):lexLt [] (y :: ys)=true:=rfl
theorem YDZ (x:Int) (xs:List Int):lexLt (x :: xs) []=false:=rfl
theorem YKb (A:Around) (s:Shared) (a:Int) (t:Tok) (c:Int) (u:Tok):∃e,SeqAt.EqAt A s (.int a t) (.int c u) e/\(e=true<->a=c):=
 ⟨(a == c),SeqAt.EqAt.int_int a t c u,by simp⟩
theorem YKc (A:Around) (s:Shared) (a:Int) (t:Tok) (c:Int) (u:Tok) (prog:Program) (w:World) (E:Value->Shared->Prop) (Q:Value->Shared->Prop) (h:Q (.bool (decide (a < c))) s):
  wpAny (model prog w) A (richCompare .Lt (.int a t) (.int c u)) Q E s:=
 (PyProof.Rows.lt_int h:wpAny (model prog w) A (compareOp .Lt (.int a t) (.int c u)) Q E s)
section
open PySem.SeqAt
open PySem.AutoSeq1 (wpAny_loadPart')
open PySem.MeetsSeq PySem.MeetsSeq2 PySem.MeetsSeq3
theorem YEQ (l b:Addr) (items dq:Array Value) (n n2:Nat) (dd WK:Option Addr) (sl WL:Array (Option Value)) (ns ms:List Int) (hi:IntsAre items.toList ns) (hj:IntsAre dq.toList ms):
  Meets (Builtin.«tuple.__lt__» ⟨[.ref l,.ref b],[]⟩)
   (λ_ R s=>s.heap.get? l=some { cls:=.type "tuple",dict:=dd,data:=.seq items n,slots:=sl }/\s.heap.get? b=some { cls:=.type "tuple",dict:=WK,data:=.seq dq n2,slots:=WL }/\
    R (.ok (.ret (.bool (lexLt ns ms)))) s):=
 .of_wp λprog w A R s h=>by
  obtain⟨hp,g,d,tk,os⟩:=s;obtain⟨hl,hb,h⟩:=h;have f2:=AutoSeq1.sub_tuple_tuple;have z1:items.size=ns.length:=by rw[<-hi.length];simp
  have z2:dq.size=ms.length:=by rw[<-hj.length];simp
  wp_walk using wpAny_loadPart' hl,wpAny_loadPart' hb,wpAny_forIn_list _ (λrest b s'=>b.1=none/\s'=⟨hp,g,d,tk,os⟩/\∃(vs ws:List Value) (ns' yI:List Int),rest=vs.zip ws/\
   IntsAre vs ns'/\IntsAre ws yI/\ns'.length + dq.size=yI.length + items.size/\R (.ok (.ret (.bool (lexLt ns' yI)))) ⟨hp,g,d,tk,os⟩) _
  case turn=>
   rintro⟨y,x⟩ rest b s' ⟨hb',rfl,vs,ws,ns',yI,hz,WM,hwi,hlen,hR⟩;cases WM with
   |nil=>rw[List.zip_nil_left]at hz;cases hz
   |cons a t Q0=>
    cases hwi with
    |nil=>rw[List.zip_nil_right]at hz;cases hz
    |cons c u Q3=>
     rw[List.zip_cons_cons]at hz
     injection hz with hyx hrest
     injection hyx with hy hx
     subst hy hx;rw[lexLt_cons]at hR;simp only[YL8]at hlen;obtain⟨e,he,yW⟩:=YKb A.in1 ⟨hp,g,d,tk,os⟩ a t c u;refine YLx (he prog w _ _ ?_);cases e with
     |true=>
      rw[if_pos (yW.mp rfl)]at hR
      wp_walk
      exact⟨Z,Z,_,_,_,_,hrest,Q0,Q3,by omega,hR⟩
     |false=>
      rw[if_neg (λq=>absurd (yW.mpr q) YL7)]at hR;have V2:=YKc A.in1 ⟨hp,g,d,tk,os⟩ a t c u prog w
      wp_walk using V2
      exact⟨_,Z,by simpa using hR⟩
  case fin=>
   rintro⟨b1,b2⟩ s' ⟨hb',rfl,vs,ws,ns',yI,hz,WM,hwi,hlen,hR⟩;simp only at hb';subst hb';have hv:lexLt ns' yI=decide (items.size < dq.size):=by
    cases WM with
    |nil=>
     cases hwi with
     |nil=>
      simp only[YNB]at hlen;rw[lexLt_nil_nil];exact(YLz (by omega)).symm
     |cons c u hw=>
      simp only[YNB,YL8]at hlen;rw[YDY];exact(YLw (by omega)).symm
    |cons a t hv=>
     cases hwi with
     |nil=>
      simp only[YNB,YL8]at hlen;rw[YDZ];exact(YLz (by omega)).symm
     |cons c u hw=>
      rw[List.zip_cons_cons]at hz;cases hz
   rw[hv]at hR
   wp_walk
   exact⟨_,Z,by simpa [Builtin.Tuple.tupleCompareSizes] using hR⟩
  case h=>
   exact⟨Z,Z,items.toList,dq.toList,ns,ms,Z,hi,hj,by omega,h⟩
end
section
variable {prog:Program}{w:World}{A:Around}{E:Value->Shared->Prop}{s:Shared}
theorem lt_tupInts {l b:Addr}{items dq:Array Value}{ns ms:List Int}{Q:Value->Shared->Prop} (hl:IsTup s.heap l items) (hb:IsTup s.heap b dq) (hi:IntsAre items.toList ns) (hj:IntsAre dq.toList ms)
  (hu:A.units < cLine) (h:Q (.bool (lexLt ns ms)) s):wpAny (model prog w) A (compareOp .Lt (.ref l) (.ref b)) Q E s:=by
 obtain⟨⟨cls,dd,data,sl⟩,ho,hc,n,hd⟩:=id hl;obtain⟨⟨cls2,WK,data2,WL⟩,vz,hc2,n2,hd2⟩:=id hb;simp only at hc hd hc2 hd2;subst hc hd hc2 hd2;exact richCompare_meets_room (op:=.Lt) ⟨_,ho,Z⟩ ⟨_,vz,Z⟩ PySem.F.slot_tuple_lt PySem.F.entry_tuple_lt (PySem.F.args_tuple_lt_2 _ _) (YEQ l b items dq n n2 dd WK sl WL ns ms hi hj)
  ⟨ho,vz,show Value.bool (lexLt ns ms)≠Value.notImplemented/\Q (.bool (lexLt ns ms)) s from⟨nofun,h⟩⟩ hu
def sIx (n d:Nat):Option Int->Nat
 |none=>d
 |some v=>if v < 0 then (v + (n:Int)).toNat else min v.toNat n
theorem sIx_nat (n d k:Nat):sIx n d (some (k:Int))=min k n:=by
 show(if (k:Int) < 0 then ((k:Int) + (n:Int)).toNat else min (k:Int).toNat n)=min k n;rw[if_neg (by omega),YNW]
end
end HT
namespace L2
open PySem PySem.Spec PyProof.Rows
abbrev TO:=St->Hp->(Option Int->Hp->Prop)->Prop
def PO (X:Cx) (e:Option Expr) (t:TO):Prop:=
 ∀(pins:List (Addr×Obj)) (s:Shared) (σ:St) (H:Hp) (Q:Option Int->Hp->Prop),Inv X pins σ H s->t σ H Q->
  wpAny (model X.prog X.w) X.A (evalPart e X.env) (λu s'=>∃o H',Inv X pins σ H' s'/\IsPart u o/\Q o H') X.xe s
def tNoPart:TO:=λ_ H Q=>Q none H
inductive YKd (Q:Option Int->Hp->Prop) (x:V) (H1:Hp):Prop where
 |mk (i:_) (a_:x=.int i) (bc:Q (some i) H1):YKd Q x H1
def tPart (t:TE):TO:=λσ H Q=>t σ H λx H1=>YKd Q x H1
section
variable {X:Cx}{e:Expr}{te:TE}{lo hi:Option Expr}{tl th:TO}{pos p2:Pos}
theorem YAW:PO X none tNoPart:=by
 intro pins s σ H Q I h;rw[evalPart_none];exact YMJ ⟨none,H,I,.none,h⟩
theorem ZZ (h:PE X e te):PO X (some e) (tPart te):=by
 intro pins s σ H Q I hw;rw[evalPart_some];refine thn (h pins s σ H _ I hw) λu s1 ⟨x,H1,I1,r1,q1⟩=>?_
 obtain⟨i,rfl,q⟩:=q1;obtain⟨t,rfl⟩:=r1;exact⟨some i,H1,I1,.int i t,q⟩
def SlR (X:Cx) (r:V->Option Int->Option Int->Hp->VK->Prop):Prop:=
 ∀(pins:List (Addr×Obj)) (s:Shared) (σ:St) (H:Hp) (x:V) (v vl vu:Value) (lo hi:Option Int) (sl:Addr) (Q:VK),Inv X pins σ H s->Ys x v->s.heap.IsSliceOf sl vl vu .none->IsPart vl lo->IsPart vu hi->r x lo hi H Q->
  ∃T id,typeLookup (.type T) "__getitem__"=pure (some (.builtin id))/\s.TypeIs v T/\wpAny (model X.prog X.w) X.A (getItem v (.ref sl)) (EP X pins σ Q) X.xe s
def tSl (r:V->Option Int->Option Int->Hp->VK->Prop) (te:TE) (tl th:TO):TE:=λσ H Q=>te σ H λx H1=>tl σ H1 λl H2=>th σ H2 λu H3=>r x l u H3 Q
theorem Zy {r:V->Option Int->Option Int->Hp->VK->Prop} (hr:SlR X r) (he:PE X e te) (hl:PO X lo tl) (hu:PO X hi th):PE X (.Subscript e (.Slice lo hi none p2) pos) (tSl r te tl th):=by
 intro pins s σ H Q I h;refine Subscript_ (thn (he pins s σ H _ I h) λv s1 ⟨x,H1,I1,r1,q1⟩=>?_);refine wpAny_Slice (thn (hl pins s1 σ H1 _ I1 q1) λvl s2 ⟨l,H2,I2,pl,q2⟩=>thn (hu pins s2 σ H2 _ I2 q2) λvu s3 ⟨u,H3,I3,pu,q3⟩=>?_);rw[evalPart_none];refine YMJ ?_;have I4:Inv X pins σ H3 { s3 with heap:=s3.heap.push { cls:=.type "slice",data:=.fields #[vl,vu,.none] } }:=I3.kept (t':=s3.toks) λb ob q=>YL0 _ q
 obtain⟨T,id,hT,ht,hg⟩:=hr pins { s3 with heap:=s3.heap.push { cls:=.type "slice",data:=.fields #[vl,vu,.none] } } σ H3 x v vl vu l u s3.heap.objs.size Q I4 r1 (Heap.IsSliceOf.new ..) pl pu q3;show wpAny (model X.prog X.w) X.A (subscriptTail e (.Slice lo hi none p2) v (.ref s3.heap.objs.size)) (EP X pins σ Q) X.xe { s3 with heap:=s3.heap.push { cls:=.type "slice",data:=.fields #[vl,vu,.none] } };exact tail_any (ops:=[.ref s3.heap.objs.size,v]) ht hT hg (by with_unfolding_all rfl)
def YBX (xs:List V) (lo hi:Option Int):List V:=(xs.drop (HT.sIx xs.length 0 lo)).take (HT.sIx xs.length xs.length hi - HT.sIx xs.length 0 lo)
theorem YGO (xs:List V) (lo hi:Option Int):(YBX xs lo hi).length<=xs.length:=by
 unfold YBX;rw[YMp,YM5];omega
end
end L2
namespace L2
open PySem PySem.Spec PyProof.Rows
def ixN (n:Nat) (i:Int):Option Nat:=if 0<=i then (if i < n then some i.toNat else none) else if -(n:Int)<=i then some (i + n).toNat else none
def atI {α:Type} (xs:List α) (i:Int):Option α:=(ixN xs.length i).bind λj=>xs[j]?
theorem YIg {n:Nat}{i:Int}{j:Nat} (h:ixN n i=some j):seqIndex? i n=some j/\j < n/\-(n:Int)<=i/\i < n:=by
 unfold ixN at h
 by_cases h0:0<=i
 ·rw[if_pos h0]at h
  by_cases h1:i < n
  ·rw[if_pos h1]at h;have e:i.toNat=j:=YMO h;exact⟨by rw[seqIndex_of h0 h1,e],by omega,by omega,h1⟩
  ·rw[if_neg h1]at h;cases h
 ·rw[if_neg h0]at h
  by_cases h1:-(n:Int)<=i
  ·rw[if_pos h1]at h;have e:(i + n).toNat=j:=YMO h;exact⟨by rw[seqIndex_neg (by omega) h1,e],by omega,h1,by omega⟩
  ·rw[if_neg h1]at h;cases h
theorem YFh {α:Type}{xs:List α}{i:Int}{v:α} (h:atI xs i=some v):∃j,seqIndex? i xs.length=some j/\xs[j]?=some v/\j < xs.length/\-(xs.length:Int)<=i/\i < xs.length:=by
 unfold atI at h;cases e:ixN xs.length i with
 |none=>rw[e]at h;cases h
 |some j=>
  rw[e]at h;obtain⟨h1,h2,h3,h4⟩:=YIg e;exact⟨j,h1,h,h2,h3,h4⟩
theorem Yn {α:Type}{xs:List α}{j:Nat}{v:α} (h:xs[j]?=some v):atI xs (j:Int)=some v:=by
 have hj:j < xs.length:=(YLv.mp h).1;have e:ixN xs.length (j:Int)=some j:=by
  unfold ixN;rw[if_pos (by omega),if_pos (by omega)];simp
 unfold atI;rw[e];exact h
theorem YKe {α:Type} (xs:List α) (v:α):atI (xs ++ [v]) (-1)=some v:=by
 have hl:(xs ++ [v]).length=xs.length + 1:=by simp
 have e:ixN (xs ++ [v]).length (-1)=some xs.length:=by
  unfold ixN;rw[hl,if_neg (by decide),if_pos (by omega)];congr 1;omega
 unfold atI;rw[e];show(xs ++ [v])[xs.length]?=some v;simp
def PlainIx (b:Expr):Prop:=∀o i,subscripted b false o i=operate [o,i] (getItem o i)
def IxR (X:Cx) (r:R2):Prop:=
 ∀(value slice:Expr) (pins:List (Addr×Obj)) (s:Shared) (σ:St) (H:Hp) (x y:V) (v u:Value) (Q:VK),Inv X pins σ H s->Ys x v->Ys y u->r x y H Q->
  subscripted slice false v u=operate [v,u] (getItem v u)->wpAny (model X.prog X.w) X.A (subscriptTail value slice v u) (EP X pins σ Q) X.xe s
def MtR (X:Cx) (id:String) (r:V->List V->Hp->VK->Prop):Prop:=
 ∀(pins:List (Addr×Obj)) (s:Shared) (σ:St) (H:Hp) (x:V) (xs:List V) (v:Value) (us:List Value) (Q:VK),Inv X pins σ H s->Ys x v->Ym xs us->r x xs H Q->
  wpAny (model X.prog X.w) X.A (call (.builtin id) (v :: us)) (EP X pins σ Q) X.xe s
section
variable {X:Cx}{a b:Expr}{ta tb:TE}{pos:Pos}
theorem YM {r:R2} (hr:IxR X r) (ha:PE X a ta) (hb:PE X b tb) (hs:PlainIx b):PE X (.Subscript a b pos) (tOp r ta tb):=by
 intro pins s σ H Q I h;exact Subscript_ (binT ha hb I h λv u s2 x y H2 I2 rx ry q=>hr a b pins s2 σ H2 x y v u Q I2 rx ry q (hs _ _))
inductive rIxL_ (K:W.Frag) (x:V) (y:V) (H:Hp) (Q:VK):Prop where
 |mk (p:_) (xs:_) (i:_) (v:_) (a_:x=.ref p) (bc:y=.int i) (bJ:SqL K H p xs) (cA:atI xs i=some v) (dm:Q v H):rIxL_ K x y H Q
def rIxL (K:W.Frag):R2:=λx y H Q=>rIxL_ K x y H Q
inductive rIxT_ (K:W.Frag) (x:V) (y:V) (H:Hp) (Q:VK):Prop where
 |mk (p:_) (xs:_) (i:_) (v:_) (a_:x=.ref p) (bc:y=.int i) (bJ:SqT K H p xs) (cA:atI xs i=some v) (dm:Q v H):rIxT_ K x y H Q
def rIxT (K:W.Frag):R2:=λx y H Q=>rIxT_ K x y H Q
inductive rIxS_ (x:V) (y:V) (H:Hp) (Q:VK):Prop where
 |mk (z:_) (i:_) (c:_) (a_:x=.str z) (bc:y=.int i) (bJ:z.length<=sizeLine) (cA:atI z.cps.toList i=some c) (dm:Q (.str ⟨#[c]⟩) H):rIxS_ x y H Q
def rIxS:R2:=λx y H Q=>rIxS_ x y H Q
theorem ix_list:IxR X (rIxL X.K):=by
 intro value slice pins s σ H x y v u Q I rx ry h hs;obtain⟨p,xs,i,z,rfl,rfl,hq,he,q⟩:=h;cases rx;obtain⟨t,rfl⟩:=ry;obtain⟨its,r,pl,hz⟩:=I.list hq;obtain⟨j,h1,h2,h3,h4,h5⟩:=YFh he;obtain⟨w,ew,rW⟩:=r.get h2;have hl:=r.length;have hn:=X8;have fin:EP X pins σ Q w s:=⟨z,H,I,rW,q⟩
 by_cases h0:0<=i
 ·have hj:i.toNat=j:=by
   rw[seqIndex_of h0 h5]at h1;exact YMO h1
  exact item_listR pl.isList h0 (by omega) (by rw[hj];simpa using ew) fin hs
 ·have hj:(i + (its.toArray.size:Int)).toNat=j:=by
   rw[seqIndex_neg (by omega) h4]at h1;rw[YL3,<-hl];exact YMO h1
  exact subscriptTail_builtinR (x:=w) pl.isList.typeIs slot_list_getitem.lookup
   (wpAny_getItem_list_neg (Q:=λr s'=>r=w/\EP X pins σ Q r s') pl.isList (by omega) (by rw[YL3] <;> omega) (by omega) (by rw[hj];simpa using ew) ⟨Z,fin⟩) hs
theorem ix_tup:IxR X (rIxT X.K):=by
 intro value slice pins s σ H x y v u Q I rx ry h hs;obtain⟨p,xs,i,z,rfl,rfl,hq,he,q⟩:=h;cases rx;obtain⟨t,rfl⟩:=ry;obtain⟨its,r,pl,hz⟩:=I.tuple hq;obtain⟨j,h1,h2,h3,h4,h5⟩:=YFh he;obtain⟨w,ew,rW⟩:=r.get h2;have hl:=r.length;have hn:=X8;have fin:EP X pins σ Q w s:=⟨z,H,I,rW,q⟩;exact subscriptTail_builtinR (x:=w) pl.typeIs slot_tuple_getitem.lookup
  (getItem_tuple (j:=j) (Q:=λr s'=>r=w/\EP X pins σ Q r s') pl (by omega) (by omega) (by rw[YL3,<-hl];exact h1) (by simpa using ew) ⟨Z,fin⟩) hs
theorem Zt:IxR X rIxS:=by
 intro value slice pins s σ H x y v u Q I rx ry h hs;obtain⟨z,i,c,rfl,rfl,hz,he,q⟩:=h;obtain⟨t,rfl⟩:=rx;obtain⟨t',rfl⟩:=ry;obtain⟨j,h1,h2,h3,h4,h5⟩:=YFh he;have hl:z.cps.toList.length=z.length:=by simp[Str.length]
 rw[hl]at h1 h4 h5;have hn:=X8;exact tail_any (typeIs_str s z t) slot_str_getitem.lookup (getItem_str (c:=c) (by
  have e1:decide (i < -(2 ^ 63:Int))=false:=YLz (by omega);have e2:decide (i>=2 ^ 63)=false:=YLz (by omega);rw[e1,e2,Bool.or_false]) (by rw[h1];simpa using h2) ⟨.str ⟨#[c]⟩,H,I.tok _,⟨_,Z⟩,q⟩) hs
theorem YHz (its:List Value) (n j:Nat) (u:Value):Obj.mapSeq (·.setIfInBounds j u) { cls:=.type "list",data:=.seq its.toArray n }={ cls:=.type "list",data:=.seq (its.set j u).toArray n }:=by
 simp[Obj.mapSeq]
theorem Inv.lst {pins:List (Addr×Obj)}{σ:St}{H:Hp}{s:Shared}{p:Addr}{xs:List V} (I:Inv X pins σ H s) (h:H p=some (.lst xs)):
  ∃(its:List Value) (n:Nat),Ym xs its/\s.heap.get? p=some { cls:=.type "list",data:=.seq its.toArray n }/\xs.length<=sizeLine:=by
 obtain⟨z,its,n,r,e⟩:=I.hok p _ h;exact⟨its,n,r,e,z⟩
theorem Inv.lstUpd {pins:List (Addr×Obj)}{σ:St}{H:Hp}{s:Shared}{p:Addr}{xs ys:List V}{its its':List Value}{n n':Nat}{f:Obj->Obj} (I:Inv X pins σ H s) (h:H p=some (.lst xs))
  (ho:s.heap.get? p=some { cls:=.type "list",data:=.seq its.toArray n }) (hf:f { cls:=.type "list",data:=.seq its.toArray n }={ cls:=.type "list",data:=.seq its'.toArray n' }) (r:Ym ys its') (hz:ys.length<=sizeLine) (t:Nat):
  Inv X pins σ (upd H p (.lst ys)) { s with heap:=s.heap.update p f,toks:=t }:=by
 have e:(s.heap.update p f).get? p=some { cls:=.type "list",data:=.seq its'.toArray n' }:=by
  rw[YMl f ho (by rw[hf] <;> rfl),hf]
 refine I.write (x:=p) (e:=p) (by rw[h];trivial) (.inl rfl) (λb u hb q=>(YMY _ _ (Ne.symm hb)).trans q) ⟨_,e⟩ ?_;exact⟨hz,its',n',r,e⟩
def rSetL:V->V->V->Hp->(Hp->Prop)->Prop:=λo i v H Q=>∃p xs k j,o=.ref p/\i=.int k/\H p=some (.lst xs)/\ixN xs.length k=some j/\Q (upd H p (.lst (xs.set j v)))
theorem YGP:PSet X rSetL:=by
 intro pins s σ H o i v ov iv u Q I ro ri rv h;obtain⟨p,xs,k,j,rfl,rfl,hp,hj,q⟩:=h;cases ro;obtain⟨t,rfl⟩:=ri;obtain⟨its,n,r,ho,hz⟩:=I.lst hp;obtain⟨h1,h2,h3,h4⟩:=YIg hj;have hl:=r.length;have hn:=X8;have I':Inv X pins σ (upd H p (.lst (xs.set j v))) { s with heap:=s.heap.update p (Obj.mapSeq (·.setIfInBounds j u)) }:=
  I.lstUpd hp ho (YHz its n j u) (r.set rv j) (by rw[YNK];exact hz) s.toks
 by_cases h0:0<=k
 ·have hk:k.toNat=j:=by
   rw[seqIndex_of h0 h4]at h1;exact YMO h1
  exact PySem.W.ki_setAt ho h0 (by omega) (by rw[YL3,<-hl];exact h4) (by rw[hk];exact⟨_,I',q⟩)
 ·have hk:(k + (its.toArray.size:Int)).toNat=j:=by
   rw[seqIndex_neg (by omega) h3]at h1;rw[YL3,<-hl];exact YMO h1
  exact PySem.W.ki_setBack ho (by omega) (by rw[YL3,<-hl];exact h3) (by omega) (by rw[hk];exact⟨_,I',q⟩)
theorem YFi (lo hi:Option Int) (n:Nat):(sliceBounds lo hi none n).1=((HT.sIx n 0 lo:Nat):Int)/\(sliceBounds lo hi none n).2.1=((HT.sIx n n hi:Nat):Int)/\(sliceBounds lo hi none n).2.2=1:=by
 refine⟨?_,?_,Z⟩
 ·cases lo with
  |none=>simp[sliceBounds,HT.sIx]
  |some i=>
   simp only[sliceBounds,HT.sIx,Option.getD_none,show(1:Int) > 0 by decide,if_true]
   by_cases h:i < 0
   ·simp only[h,if_true] <;> omega
   ·simp only[h,if_false] <;> omega
 ·cases hi with
  |none=>simp[sliceBounds,HT.sIx]
  |some i=>
   simp only[sliceBounds,HT.sIx,Option.getD_none,show(1:Int) > 0 by decide,if_true]
   by_cases h:i < 0
   ·simp only[h,if_true] <;> omega
   ·simp only[h,if_false] <;> omega
theorem YER (its:List Value) (lo hi:Option Int):slicePick its.toArray lo hi none=((its.drop (HT.sIx its.length 0 lo)).take (HT.sIx its.length its.length hi - HT.sIx its.length 0 lo)).toArray:=by
 obtain⟨h1,h2,h3⟩:=YFi lo hi its.toArray.size;unfold slicePick;rw[h1,h2,h3];simp only[sliceRange_one,pick_run,YL3] <;> rfl
inductive rSlL_ (K:W.Frag) (x:V) (lo:Option Int) (hi:Option Int) (H:Hp) (Q:VK):Prop where
 |mk (a:_) (xs:_) (a_:x=.ref a) (bc:SqL K H a xs) (bJ:∀p,H p=none->Q (.ref p) (upd H p (.lst (YBX xs lo hi)))):rSlL_ K x lo hi H Q
def rSlL (K:W.Frag):V->Option Int->Option Int->Hp->VK->Prop:=λx lo hi H Q=>rSlL_ K x lo hi H Q
theorem sl_list:SlR X (rSlL X.K):=by
 intro pins s σ H x v vl vu lo hi sl Q I rx hs pl pu h;obtain⟨a,xs,rfl,hx,q⟩:=h;cases rx;obtain⟨its,r,ht,hz⟩:=I.list hx;have hlen:=r.length;refine⟨"list",_,slot_list_getitem.lookup,ht.isList.typeIs,?_⟩;refine wpAny_getItem_list_slice ht.isList hs pl pu .none (by simp) ?_ (by rw[YL3] <;> omega);rw[YER,<-hlen];refine⟨.ref s.heap.objs.size,_,I.laid (t':=s.toks) (o:=.lst (YBX xs lo hi)) (λb ob q=>YL0 _ q) (YLr _) ?_,Z,q _ (I.hok.fresh (YLr _))⟩;exact⟨YMP (YGO xs lo hi) hz,_,0,(r.drop (HT.sIx xs.length 0 lo)).take (HT.sIx xs.length xs.length hi - HT.sIx xs.length 0 lo),YMF _ rfl⟩
theorem YFj:J7 X (.builtin "len") (λxs H Q=>∃p ys,xs=[.ref p]/\(SqL X.K H p ys\/SqT X.K H p ys)/\Q (.int ys.length) H):=by
 intro pins s σ H xs us Q I r h;obtain⟨p,ys,rfl,hq,q⟩:=h;obtain⟨u,rfl,rx⟩:=Xj r;cases rx;have hn:=X8;rcases hq with hq |hq
 ·obtain⟨its,r',pl,hz⟩:=I.list hq;have hlen:=r'.length;exact Calls.call_len_list pl.isList (by simp only[YL3] <;> omega) ⟨.int ys.length,H,I.tok _,⟨s.toks + 1,by rw[YL3,hlen]⟩,q⟩
 ·obtain⟨its,r',pl,hz⟩:=I.tuple hq;have hlen:=r'.length;exact len_tuple pl (by simp only[YL3] <;> omega) ⟨.int ys.length,H,I.tok _,⟨s.toks + 1,by rw[YL3,hlen]⟩,q⟩
theorem Yz:J7 X (.builtin "len") (λxs H Q=>∃z,xs=[.str z]/\z.length<=sizeLine/\Q (.int z.length) H):=by
 intro pins s σ H xs us Q I r h;obtain⟨z,rfl,hz,q⟩:=h;obtain⟨u,rfl,t,rfl⟩:=Xj r;have hn:=X8;exact len_str (by omega) ⟨.int z.length,H,I.tok _,⟨_,Z⟩,q⟩
theorem YFk:J7 X (.type "list") (λxs H Q=>∃p ys,xs=[.ref p]/\(SqL X.K H p ys\/SqT X.K H p ys)/\∀l,H l=none->Q (.ref l) (upd H l (.lst ys))):=by
 intro pins s σ H xs us Q I r h;obtain⟨p,ys,rfl,hq,q⟩:=h;obtain⟨u,rfl,rx⟩:=Xj r;cases rx;have fin:∀(its:List Value),Ym ys its->ys.length<=sizeLine->∀(h':Heap) (c':Nat),(∀b o',s.heap.get? b=some o'->h'.get? b=some o')->
   h'.get? s.heap.objs.size=some { cls:=.type "list",dict:=none,data:=.seq its.toArray c',slots:=#[] }->EP X pins σ Q (.ref s.heap.objs.size) { s with heap:=h' }:=λits r' hz h' c' kp e=>
  ⟨.ref s.heap.objs.size,_,I.laid (t':=s.toks) kp (YLr _) (show Y3 X.prog X.w _ h' _ (.lst ys) from⟨hz,its,c',r',e⟩),Z,q _ (I.hok.fresh (YLr _))⟩
 rcases hq with hq |hq
 ·obtain⟨its,r',pl,hz⟩:=I.list hq;have hlen:=r'.length;obtain⟨o,ho,hc,n,hd⟩:=pl.isList;exact call_list_seq p (.inl rfl) ho hc hd (λh' c' kp e=>fin its r' hz h' c' kp e) (by simp only[YL3] <;> omega)
 ·obtain⟨its,r',pl,hz⟩:=I.tuple hq;have hlen:=r'.length;obtain⟨o,ho,hc,n,hd⟩:=pl;exact call_list_seq p (.inr rfl) ho hc hd (λh' c' kp e=>fin its r' hz h' c' kp e) (by simp only[YL3] <;> omega)
theorem YES:J7 X (.type "tuple") (λxs H Q=>∃p ys,xs=[.ref p]/\((SqL X.K H p ys/\∀l,H l=none->Q (.ref l) (upd H l (.tup ys)))\/(SqT X.K H p ys/\Q (.ref p) H))):=by
 intro pins s σ H xs us Q I r h;obtain⟨p,ys,rfl,h⟩:=h;obtain⟨u,rfl,rx⟩:=Xj r;cases rx;rcases h with ⟨hq,q⟩ |⟨hq,q⟩
 ·obtain⟨its,r',pl,hz⟩:=I.list hq;have hlen:=r'.length;refine call_tuple_list pl.isList (λh' kp=>?_) (by simp only[YL3] <;> omega);have I1:Inv X pins σ H { s with heap:=h' }:=I.kept (t':=s.toks) kp;have I2:Inv X pins σ (upd H h'.objs.size (.tup ys)) { s with heap:=h'.push { cls:=.type "tuple",data:=.seq its.toArray } }:=
   I1.laid (t':=s.toks) (λb o e=>YL0 _ e) (YLr _) (show Y3 X.prog X.w _ _ _ (.tup ys) from⟨hz,its,r',IsTup.new _ _⟩)
  exact⟨.ref h'.objs.size,_,I2,Z,q _ (I1.hok.fresh (YLr _))⟩
 ·obtain⟨its,r',pl,hz⟩:=I.tuple hq;exact call_tuple_same pl ⟨.ref p,H,I,Z,q⟩
def tyV (K:W.Frag) (T:String) (x:V) (H:Hp):Prop:=match x with
 |.str _=>T="str"
 |.int _=>T="int"
 |.ref p=>(T="list"/\∃xs,SqL K H p xs)\/(T="tuple"/\∃o,K.lookup p=some o/\o.cls=.type "tuple"/\o.dict=none)\/
   (T="dict"/\((∃kvs,H p=some (.dK kvs))\/∃kvs,H p=some (.dT kvs)))\/(T="set"/\∃S n,H p=some (.set S n))
 |_=>False
theorem YKf {pins:List (Addr×Obj)}{σ:St}{H:Hp}{s:Shared}{T:String}{x:V}{v:Value} (I:Inv X pins σ H s) (r:Ys x v) (ty:tyV X.K T x H):
  s.TypeIs v T/\∀a,v=.ref a->∃ob,s.heap.get? a=some ob/\ob.dict=none:=by
 cases x with
 |str z=>
  obtain⟨t,rfl⟩:=r;cases (show T="str" from ty);exact⟨typeIs_str s z t,λ_ e=>nomatch e⟩
 |int i=>
  obtain⟨t,rfl⟩:=r;cases (show T="int" from ty);exact⟨typeIs_int s i t,λ_ e=>nomatch e⟩
 |ref p=>
  cases r;rcases ty with ⟨rfl,xs,hq⟩ |⟨rfl,o,hk,hc,hd⟩ |⟨rfl,hk⟩ |⟨rfl,S,n,hk⟩
  ·obtain⟨its,_,pl,_⟩:=I.list hq;refine⟨pl.isList.typeIs,λa e=>?_⟩;cases e;obtain⟨o,n,e,c,hd,_⟩:=pl;exact⟨o,e,hd⟩
  ·refine⟨⟨o,I.kIn p o hk,hc⟩,λa e=>?_⟩;cases e;exact⟨o,I.kIn _ o hk,hd⟩
  ·have z:∃o,s.heap.get? p=some o/\o.ExactDict:=by
    rcases hk with ⟨kvs,hk⟩ |⟨kvs,hk⟩
    ·obtain⟨_,_,_,_,o,_,_,e,ex,_⟩:=I.hok p _ hk;exact⟨o,e,ex⟩
    ·obtain⟨_,_,_,_,o,_,_,e,ex,_⟩:=I.hok p _ hk;exact⟨o,e,ex⟩
   obtain⟨o,e,ex⟩:=z;refine⟨⟨o,e,ex.1⟩,λa e2=>?_⟩;cases e2;exact⟨o,e,ex.2.1⟩
  ·obtain⟨o,_,_,_,e,ex,_⟩:=I.hok p _ hk;refine⟨⟨o,e,ex.1⟩,λa e2=>?_⟩;cases e2;exact⟨o,e,ex.2.1⟩
 |_=>exact False.elim ty
inductive tBM0_ (K:W.Frag) (T:String) (r:V->List V->Hp->VK->Prop) (Q:VK) (x:V) (H1:Hp):Prop where
 |mk (a_:tyV K T x H1) (bc:r x [] H1 Q):tBM0_ K T r Q x H1
def tBM0 (K:W.Frag) (T:String) (r:V->List V->Hp->VK->Prop) (to:TE):TE:=λσ H Q=>to σ H λx H1=>tBM0_ K T r Q x H1
inductive tBM_ (K:W.Frag) (T:String) (r:V->List V->Hp->VK->Prop) (t:TA) (σ:St) (Q:VK) (x:V) (H1:Hp):Prop where
 |mk (a_:tyV K T x H1) (bc:t σ H1 λxs H2=>r x xs H2 Q):tBM_ K T r t σ Q x H1
def tBM (K:W.Frag) (T:String) (r:V->List V->Hp->VK->Prop) (to:TE) (t:TA):TE:=λσ H Q=>to σ H λx H1=>tBM_ K T r t σ Q x H1
variable {o e:Expr}{es:List Expr}{to:TE}{t:TA}{name:Str}{cC bH:Pos}{T id:String}{r:V->List V->Hp->VK->Prop}
theorem pe_bm0 (pa:PlainAttrs T) (slot:Slot T name id) (yd:typeOf (.builtin id)=pure (.type "method_descriptor")) (hm:MtR X id r) (ho:PE X o to)
  (kW:attributeBase o name X.env (eval o X.env)=eval o X.env:=by rfl) (kY:(cC.endLine == bH.line)=true:=by rfl):PE X (.Call (.Attribute o name cC) [] [] bH) (tBM0 X.K T r to):=by
 intro pins s σ H Q I h;refine wpAny_Call_method0_late kW kY (thn (ho pins s σ H _ I h) λv s1 ⟨x,H1,I1,r1,ty,q1⟩=>?_);obtain⟨h1,h2⟩:=YKf I1 r1 ty;exact⟨T,id,pa,slot,yd,h1,h2,Calls.callWith_builtin rfl (PySem.evalArgs_none (hm pins s1 σ H1 x [] v [] Q I1 r1 .nil q1))⟩
theorem pe_bm (pa:PlainAttrs T) (slot:Slot T name id) (yd:typeOf (.builtin id)=pure (.type "method_descriptor")) (hm:MtR X id r) (ho:PE X o to) (ha:PA X (e :: es) t)
  (kW:attributeBase o name X.env (eval o X.env)=eval o X.env:=by rfl)
  (ye:((backTo bH (starEach (e :: es) X.env)).all (λx=>!x.1) && (backToKw bH (keywordEach [] X.env)).all (λx=>x.1.isSome)
   && decide ((e :: es).length + ([]:List Keyword).length + (if ([]:List Keyword).isEmpty then 0 else 1) < 30))=true:=by rfl)
  (kY:(cC.endLine == bH.line)=true:=by rfl) (hs:starEach (e :: es) X.env=(false,eval e X.env) :: starEach es X.env:=by rfl) (kZ:(backTo bH (starEach es X.env)).any (·.1)=false:=by rfl):
  PE X (.Call (.Attribute o name cC) (e :: es) [] bH) (tBM X.K T r to t):=by
 intro pins s σ H Q I h;refine wpAny_Call_method_late kW ye kY rfl (thn (ho pins s σ H _ I h) λv s1 ⟨x,H1,I1,r1,ty,q1⟩=>?_);obtain⟨h1,h2⟩:=YKf I1 r1 ty;refine⟨T,id,pa,slot,yd,h1,h2,?_⟩;have hA:=ha bH pins s1 σ H1 _ I1 q1;rw[hs]at hA ⊢;refine Calls.callWith_builtin (by show(false || (backTo bH (starEach es X.env)).any (·.1))=false;rw[kZ] <;> rfl) (Calls.evalArgs_plain ?_);exact thn hA λus s2 ⟨vs,H2,I2,r2,q2⟩=>hm pins s2 σ H2 x vs v us Q I2 r1 r2 q2
end
end L2
namespace L2
open PySem PySem.Spec PyProof.Rows
def MtM (X:Cx) (id:String) (r:V->List V->Hp->VK->Prop):Prop:=
 ∀(pins:List (Addr×Obj)) (s:Shared) (σ:St) (H:Hp) (x:V) (xs:List V) (v:Value) (us:List Value) (Q:VK),Inv X pins σ H s->Ys x v->Ym xs us->r x xs H Q->
  wpAny (model X.prog X.w) X.A (call (.builtin id) (v :: us)) (EP X pins σ Q) X.xe s
theorem Ym.one:∀{x:V}{us:List Value},Ym [x] us->∃u,us=[u]/\Ys x u
 |_,_,.cons r .nil=>⟨_,Z,r⟩
theorem Ym.zero:∀{us:List Value},Ym [] us->us=[]
 |_,.nil=>rfl
theorem Ym.dropLast {xs:List V}{us:List Value} (h:Ym xs us):Ym xs.dropLast us.dropLast:=by
 induction h with
 |nil=>exact .nil
 |cons r t ih=>
  cases t with
  |nil=>exact .nil
  |cons q t'=>exact .cons r ih
theorem Ym.reverse {xs:List V}{us:List Value} (h:Ym xs us):Ym xs.reverse us.reverse:=by
 induction h with
 |nil=>exact .nil
 |cons r t ih=>rw[List.reverse_cons,List.reverse_cons];exact Ym.append ih (.cons r .nil)
theorem Ym.rep {xs:List V}{us:List Value} (h:Ym xs us):∀k:Nat,Ym (List.replicate k xs).flatten (List.replicate k us).flatten
 |0=>.nil
 |k + 1=>by
  rw[YNc,YNc,List.flatten_cons,List.flatten_cons];exact Ym.append h (Ym.rep h k)
theorem YH0 {α:Type} (l:List α):l.eraseIdx (l.length - 1)=l.dropLast:=by
 induction l with
 |nil=>rfl
 |cons a r ih=>
  cases r with
  |nil=>rfl
  |cons b r=>
   have e:(a :: b :: r).length - 1=((b :: r).length - 1) + 1:=by
    have h1:(a :: b :: r).length=r.length + 2:=rfl;have h2:(b :: r).length=r.length + 1:=rfl;omega
   rw[e,List.eraseIdx_cons_succ,ih]
   all_goals rfl
theorem YEr (its:List Value):∀(k:Nat) (acc:List Value),
  List.foldl (λx1 x2=>x1 ++ x2) acc.toArray (List.replicate k its.toArray)=(acc ++ (List.replicate k its).flatten).toArray
 |0,acc=>by simp
 |k + 1,acc=>by
  have e:acc.toArray ++ its.toArray=(acc ++ its).toArray:=by simp
  have e2:(acc ++ its) ++ (List.replicate k its).flatten=acc ++ (List.replicate (k + 1) its).flatten:=by
   rw[YNc,List.flatten_cons,YMX]
  rw[<-e2,<-YEr its k (acc ++ its),<-e,YNc,List.foldl_cons]
section
variable {X:Cx}{pins:List (Addr×Obj)}{σ:St}{H:Hp}{s:Shared}{l b:Addr}{xs ys zs:List V}
theorem Inv.lset {its its':List Value}{n:Nat}{f:Array Value->Array Value}{t':Nat} (I:Inv X pins σ H s) (hH:H l=some (.lst xs))
  (e:s.heap.get? l=some { cls:=.type "list",data:=.seq its.toArray n }) (hf:f its.toArray=its'.toArray) (hv:Ym ys its') (hz:ys.length<=sizeLine):
  Inv X pins σ (upd H l (.lst ys)) { s with heap:=s.heap.update l (Obj.mapSeq f),toks:=t' }:=by
 have q:=PySem.IsL.update e f;rw[hf]at q;refine I.write (x:=l) (e:=l) (by rw[hH];exact trivial) (.inl rfl) (λb' u hb hu=>(YMY s.heap (Obj.mapSeq f) (Ne.symm hb)).trans hu) ⟨_,q⟩ ?_;exact⟨hz,its',_,hv,q⟩
theorem Inv.lnew {its:List Value}{t':Nat} (I:Inv X pins σ H s) (hv:Ym ys its) (hz:ys.length<=sizeLine):
  Inv X pins σ (upd H s.heap.objs.size (.lst ys)) { s with heap:=s.heap.push { cls:=.type "list",data:=.seq its.toArray },toks:=t' }:=
 I.laid (λ_ _ q=>YL0 _ q) (YLr _) ⟨hz,its,0,hv,YMF _ rfl⟩
theorem Inv.fresh (I:Inv X pins σ H s):H s.heap.objs.size=none:=I.hok.fresh (YLr _)
theorem Inv.lstM (I:Inv X pins σ H s) (hH:H l=some (.lst xs)):xs.length<=sizeLine/\∃(its:List Value) (n:Nat),Ym xs its/\xs.length=its.length/\s.heap.get? l=some { cls:=.type "list",data:=.seq its.toArray n }:=by
 obtain⟨z,its,n,r,e⟩:=I.hok l _ hH;exact⟨z,its,n,r,r.length,e⟩
theorem YGQ {n:Nat} (h:n<=sizeLine):Builtin.List.listTooLong n=false:=by
 unfold Builtin.List.listTooLong;exact YLz (by omega)
end
section
variable {X:Cx}
inductive YGR (x:V) (vs:List V) (H:Hp) (Q:VK):Prop where
 |mk (l:_) (xs:_) (y:_) (a_:x=.ref l) (bc:vs=[y]) (bJ:H l=some (.lst xs)) (cA:xs.length < sizeLine) (dm:Q .non (upd H l (.lst (xs ++ [y])))):YGR x vs H Q
def YFl:V->List V->Hp->VK->Prop:=λx vs H Q=>YGR x vs H Q
theorem Y0:MtM X "list.append" YFl:=by
 intro pins s σ H x vs v us Q I rx rv h;obtain⟨l,xs,y,rfl,rfl,hH,hz,q⟩:=h;cases rx;obtain⟨u,rfl,ru⟩:=rv.one;obtain⟨z,its,n,r,hl,e⟩:=I.lstM hH;refine call_meets F.slot_list_append ⟨_,e,Z⟩ F.entry_list_append (F.args_list_append_2 _ _) (PySem.list_append l its.toArray n u (by rw[YL3];omega)) ⟨e,?_⟩;refine⟨.non,_,I.lset (its':=its ++ [u]) hH e (by simp) (r.append (.cons ru .nil)) ?_,Z,q⟩;rw[YLy,List.length_singleton];omega
inductive YGS (x:V) (vs:List V) (H:Hp) (Q:VK):Prop where
 |mk (l:_) (b:_) (xs:_) (zs:_) (a_:x=.ref l) (bc:vs=[.ref b]) (bJ:H l=some (.lst xs)) (cA:H b=some (.lst zs)) (dm:xs.length + zs.length<=sizeLine) (gM:Q .non (upd H l (.lst (xs ++ zs)))):YGS x vs H Q
def YFm:V->List V->Hp->VK->Prop:=λx vs H Q=>YGS x vs H Q
theorem YEs:MtM X "list.extend" YFm:=by
 intro pins s σ H x vs v us Q I rx rv h;obtain⟨l,b,xs,zs,rfl,rfl,hH,hB,hz,q⟩:=h;cases rx;obtain⟨u,rfl,ru⟩:=rv.one;cases ru;obtain⟨z,its,n,r,hl,e⟩:=I.lstM hH;obtain⟨z2,dw,n2,r2,hl2,e2⟩:=I.lstM hB;have hsz:its.toArray.size + dw.toArray.size<=sizeLine:=by rw[YL3,YL3];omega
 have sW:¬(!its.toArray.isEmpty && Builtin.List.listTooLong (its.toArray.size + dw.toArray.size))=true:=by
  rw[YGQ hsz,Bool.and_false];exact YL7
 refine call_meets F.slot_list_extend ⟨_,e,Z⟩ F.entry_list_extend (F.args_list_extend_2 _ _)
  (AutoSeq1.list_extend_list_list_0 l its.toArray n b dw.toArray n2 sW (by rw[YL3];omega) (by omega)) ⟨e,e2,?_⟩
 refine⟨.non,_,I.lset (its':=its ++ dw) hH e (by simp) (r.append r2) ?_,Z,q⟩;rw[YLy];omega
inductive rPop_ (x:V) (vs:List V) (H:Hp) (Q:VK):Prop where
 |mk (l:_) (xs:_) (y:_) (a_:x=.ref l) (bc:vs=[]) (bJ:H l=some (.lst xs)) (cA:xs[xs.length - 1]?=some y) (dm:Q y (upd H l (.lst xs.dropLast))):rPop_ x vs H Q
def rPop:V->List V->Hp->VK->Prop:=λx vs H Q=>rPop_ x vs H Q
theorem YH1:MtM X "list.pop" rPop:=by
 intro pins s σ H x vs v us Q I rx rv h;obtain⟨l,xs,y,rfl,rfl,hH,hy,q⟩:=h;cases rx;have hus:=rv.zero;subst hus;obtain⟨z,its,n,r,hl,e⟩:=I.lstM hH;obtain⟨u,hu,ru⟩:=r.get hy;have hy':its.toArray[its.toArray.size - 1]?=some u:=by
  show its.toArray[its.length - 1]?=some u;rw[<-YMq,<-hl];exact hu
 refine call_meets F.slot_list_pop ⟨_,e,Z⟩ F.entry_list_pop (F.args_list_pop_1 _) (MeetsSeq.list_pop_last l its.toArray n u hy' (by rw[YL3];omega)) ⟨e,?_⟩;refine⟨y,_,I.lset (its':=its.dropLast) hH e ?_ r.dropLast ?_,ru,q⟩
 ·show its.toArray.eraseIdxIfInBounds (its.toArray.size - 1)=its.dropLast.toArray;rw[YL3,List.eraseIdxIfInBounds_toArray,YH0]
 ·rw[List.length_dropLast];omega
inductive YEt (x:V) (vs:List V) (H:Hp) (Q:VK):Prop where
 |mk (l:_) (xs:_) (a_:x=.ref l) (bc:vs=[]) (bJ:H l=some (.lst xs)) (cA:Q .non (upd H l (.lst xs.reverse))):YEt x vs H Q
def YKg:V->List V->Hp->VK->Prop:=λx vs H Q=>YEt x vs H Q
theorem YH2:MtM X "list.reverse" YKg:=by
 intro pins s σ H x vs v us Q I rx rv h;obtain⟨l,xs,rfl,rfl,hH,q⟩:=h;cases rx;have hus:=rv.zero;subst hus;obtain⟨z,its,n,r,hl,e⟩:=I.lstM hH;refine call_meets F.slot_list_reverse ⟨_,e,Z⟩ F.entry_list_reverse (F.args_list_reverse_1 _) (AutoSeq1.list_reverse_list_0 l its.toArray n (by rw[YL3];omega)) ⟨e,?_⟩;refine⟨.non,_,I.lset (its':=its.reverse) hH e (by simp) r.reverse ?_,Z,q⟩;rw[YMU];omega
inductive rCat_ (x:V) (y:V) (H:Hp) (Q:VK):Prop where
 |mk (l:_) (b:_) (xs:_) (zs:_) (a_:x=.ref l) (bc:y=.ref b) (bJ:H l=some (.lst xs)) (cA:H b=some (.lst zs)) (dm:xs.length + zs.length<=sizeLine) (gM:∀p,H p=none->Q (.ref p) (upd H p (.lst (xs ++ zs)))):rCat_ x y H Q
def rCat:R2:=λx y H Q=>rCat_ x y H Q
theorem YDa:OpR X (binaryOp .Add) rCat:=by
 intro pins s σ H x y v u Q I rx ry h;obtain⟨l,b,xs,zs,rfl,rfl,hH,hB,hz,q⟩:=h;cases rx;cases ry;obtain⟨z,its,n,r,hl,e⟩:=I.lstM hH;obtain⟨z2,dw,n2,r2,hl2,e2⟩:=I.lstM hB;refine PySem.P.add_list e e2 ?_ (by rw[YL3,YL3];omega);have ea:its.toArray ++ dw.toArray=(its ++ dw).toArray:=by simp
 rw[ea];exact⟨.ref _,_,I.lnew (t':=s.toks) (r.append r2) (by rw[YLy];omega),Z,q _ I.fresh⟩
def rRep:R2:=λx y H Q=>∃l k xs,x=.ref l/\y=.int k/\H l=some (.lst xs)/\-(2 ^ 63)<=k/\k < 2 ^ 63/\xs.length * k.toNat<=sizeLine/\
 ∀p,H p=none->Q (.ref p) (upd H p (.lst (List.replicate k.toNat xs).flatten))
theorem len_rep {α:Type} (xs:List α) (k:Nat):(List.replicate k xs).flatten.length=k * xs.length:=by
 induction k with
 |zero=>simp
 |succ k ih=>rw[YNc,List.flatten_cons,YLy,ih,Nat.succ_mul,Nat.add_comm]
theorem op_rep:OpR X (binaryOp .Mult) rRep:=by
 intro pins s σ H x y v u Q I rx ry h;obtain⟨l,k,xs,rfl,rfl,hH,h1,h2,hz,q⟩:=h;cases rx;obtain⟨t,rfl⟩:=ry;obtain⟨z,its,n,r,hl,e⟩:=I.lstM hH;have hlen:its.toArray.size * k.toNat<=sizeLine:=by rw[YL3,<-hl];exact hz
 have Q4:¬its.toArray.size * k.toNat > (2 ^ 63 - 1) / 8:=by
  have:(sizeLine:Nat)<=(2 ^ 63 - 1) / 8:=by decide
  omega
 have hfit:¬(!Builtin.List.listFitsIndex k)=true:=by
  rw[fitsIndex_both h1 h2];exact YL7
 have sW:¬Builtin.List.listTooLong (its.toArray.size * k.toNat)=true:=by
  rw[YGQ hlen];exact YL7
 have hnew:List.foldl (λx1 x2=>x1 ++ x2) #[] (List.replicate (if its.toArray.isEmpty=true then 0 else k.toNat) its.toArray)=(List.replicate k.toNat its).flatten.toArray:=by
  have f0:∀m:Nat,List.foldl (λx1 x2=>x1 ++ x2) #[] (List.replicate m its.toArray)=(List.replicate m its).flatten.toArray:=λm=>by
   have:=YEr its m [];rw[List.nil_append]at this;exact this
  rw[f0];cases its with
  |nil=>simp
  |cons a r'=>rw[if_neg (by simp)]
 refine wpAny_binaryOp_repeat_ref (T:="list") (U:="int") (by decide) ⟨_,e,Z⟩ (λs'=>typeIs_int s' k t) noFill_list_mul F.fills_int_mul F.slot_int_rmul repeat_list F.slot_int_index.lookup
  (call_meets F.slot_int_rmul (typeIs_int s k t) F.entry_int_rmul (F.args_int_rmul_2 _ _) (int___rmul___int_list k t l its.toArray n)
   ⟨e,Z,⟨_,e,Z⟩,call_meets F.slot_list_mul ⟨_,e,Z⟩ F.entry_list_mul (F.args_list_mul_2 _ _) (AutoListH.list___mul___list_int_3 l its.toArray n k t hfit Q4 sW) ⟨e,?_⟩⟩)
 rw[hnew];exact⟨.ref _,_,I.lnew (t':=s.toks) (r.rep k.toNat) (by rw[len_rep,Nat.mul_comm];exact hz),Z,q _ I.fresh⟩
end
section
variable {prog:Program}{w:World}{A:Around}{E:Value->Shared->Prop}{s:Shared}
set_option maxRecDepth 100000 in
end
section
variable {X:Cx}
end
end L2
namespace L2
open PySem PySem.Spec PyProof.Rows
section
variable {κ:Type} [DecidableEq κ]
def Zo (kvs:List (κ×V)) (k:κ):Option V:=(kvs.find? λkv=>decide (kv.1=k)).map (·.2)
def Za (kvs:List (κ×V)) (k:κ) (v:V):List (κ×V):=
 if (kvs.any λkv=>decide (kv.1=k))=true then kvs.map (λkv=>if kv.1=k then (kv.1,v) else kv) else kvs ++ [(k,v)]
theorem Zp {p:κ×V}{r:List (κ×V)}{k:κ} (e:p.1=k):Zo (p :: r) k=some p.2:=by simp[Zo,YNU,e]
theorem Zz {p:κ×V}{r:List (κ×V)}{k:κ} (e:¬p.1=k):Zo (p :: r) k=Zo r k:=by simp[Zo,YNU,e]
theorem Xk (k:κ):∀kvs:List (κ×V),(kvs.any λkv=>decide (kv.1=k))=(Zo kvs k).isSome
 |[]=>rfl
 |p :: r=>by
  rw[List.any_cons]
  by_cases e:p.1=k
  ·simp only[Zp e,YLw e,Bool.true_or,Option.isSome_some]
  ·rw[Zz e,YLz e,YNF];exact Xk k r
theorem YGT (k j:κ) (y:V):∀kvs:List (κ×V),Zo (kvs.map λkv=>if kv.1=k then (kv.1,y) else kv) j=(Zo kvs j).map λx=>if j=k then y else x
 |[]=>rfl
 |p :: r=>by
  have ih:=YGT k j y r;rw[YMQ]
  by_cases h:p.1=k
  ·rw[if_pos h]
   by_cases e:p.1=j
   ·rw[Zp (p:=(p.1,y)) e,Zp e,YNg,if_pos (e.symm.trans h)]
   ·rw[Zz (p:=(p.1,y)) e,Zz e,ih]
  ·rw[if_neg h]
   by_cases e:p.1=j
   ·rw[Zp (p:=p) e,Zp e,YNg,if_neg (λz=>h (e.trans z))]
   ·rw[Zz (p:=p) e,Zz e,ih]
theorem YEu (k j:κ) (y:V):∀kvs:List (κ×V),Zo kvs k=none->Zo (kvs ++ [(k,y)]) j=if j=k then some y else Zo kvs j
 |[],_=>by
  by_cases e:k=j
  ·rw[if_pos e.symm];exact Zp (p:=(k,y)) e
  ·rw[if_neg (λz=>e z.symm)];exact Zz (p:=(k,y)) e
 |p :: r,hn=>by
  rw[List.cons_append];have hk:¬p.1=k:=λz=>by rw[Zp z]at hn;cases hn
  rw[Zz hk]at hn;have ih:=YEu k j y r hn
  by_cases e:p.1=j
  ·rw[Zp e,Zp e,if_neg (λz=>hk (e.trans z))]
  ·rw[Zz e,Zz e,ih]
theorem YB2 (kvs:List (κ×V)) (k j:κ) (y:V):Zo (Za kvs k y) j=if j=k then some y else Zo kvs j:=by
 unfold Za
 by_cases a:(kvs.any λkv=>decide (kv.1=k))=true
 ·rw[if_pos a,YGT];rw[Xk]at a
  by_cases e:j=k
  ·obtain⟨x,hx⟩:=YMT.mp a;rw[if_pos e,e,hx,YNg,if_pos rfl]
  ·rw[if_neg e];cases Zo kvs j with
   |none=>rfl
   |some x=>rw[YNg,if_neg e]
 ·rw[if_neg a];refine YEu k j y kvs ?_;rw[Xk]at a;cases q:Zo kvs k with
  |none=>rfl
  |some x=>rw[q]at a;exact(a rfl).elim
theorem YCw (kvs:List (κ×V)) (k:κ) (v:V):(Za kvs k v).length<=kvs.length + 1:=by
 unfold Za;split
 ·rw[YLp];omega
 ·rw[YLy,YL8,YNB];omega
theorem YGU {kvs:List (κ×V)}{k:κ} (v:V) (h:Zo kvs k=none):Za kvs k v=kvs ++ [(k,v)]:=by
 unfold Za;rw[Xk,h];exact if_neg (by decide)
theorem YAn.isSome_eq {o:Option V}{u:Option Value} (r:YAn o u):o.isSome=u.isSome:=by
 cases o with
 |none=>cases u with
  |none=>rfl
  |some _=>exact(show False from r).elim
 |some _=>cases u with
  |none=>exact(show False from r).elim
  |some _=>rfl
theorem YAn.getD {o:Option V}{u:Option Value}{d:V}{d':Value} (r:YAn o u) (rd:Ys d d'):Ys (o.getD d) (u.getD d'):=by
 cases o with
 |none=>cases u with
  |none=>exact rd
  |some _=>exact(show False from r).elim
 |some _=>cases u with
  |none=>exact(show False from r).elim
  |some _=>exact r
theorem KV.val {kvs:List (κ×V)}{vs:List (κ×Value)} (r:KV kvs vs) (k:κ):YAn (Zo kvs k) (valueAt vs k):=by
 unfold KV at r
 induction r with
 |nil=>exact True.intro
 |@cons p q ps qs h t ih=>
  obtain⟨h1,h2⟩:=h
  by_cases e:p.1=k
  ·have e':q.1=k:=h1.symm.trans e;have b:valueAt (q :: qs) k=some q.2:=by simp[valueAt,YNU,e']
   rw[Zp e,b];exact h2
  ·have e':¬q.1=k:=λz=>e (h1.trans z)
   have b:valueAt (q :: qs) k=valueAt qs k:=by simp[valueAt,YNU,e']
   rw[Zz e,b];exact ih
theorem KV.any {kvs:List (κ×V)}{vs:List (κ×Value)} (r:KV kvs vs) (k:κ):(kvs.any λkv=>decide (kv.1=k))=vs.any λkv=>decide (kv.1=k):=by
 unfold KV at r
 induction r with
 |nil=>rfl
 |cons h t ih=>rw[List.any_cons,List.any_cons,ih,h.1]
theorem KV.repl {kvs:List (κ×V)}{vs:List (κ×Value)} (r:KV kvs vs) (k:κ) {y:V}{u:Value} (ry:Ys y u):
  KV (kvs.map λkv=>if kv.1=k then (kv.1,y) else kv) (vs.map λkv=>if kv.1=k then (kv.1,u) else kv):=by
 unfold KV at r ⊢
 induction r with
 |nil=>exact .nil
 |@cons p q ps qs h t ih=>
  rw[YMQ,YMQ];refine .cons ?_ ih;obtain⟨h1,h2⟩:=h
  by_cases e:p.1=k
  ·rw[if_pos e,if_pos (h1.symm.trans e)];exact⟨h1,ry⟩
  ·rw[if_neg e,if_neg (λz=>e (h1.trans z))];exact⟨h1,h2⟩
theorem KV.put {kvs:List (κ×V)}{vs:List (κ×Value)} (r:KV kvs vs) (k:κ) {y:V}{u:Value} (ry:Ys y u):KV (Za kvs k y) (stored vs k u):=by
 unfold Za stored;rw[r.any k]
 by_cases e:(vs.any λkv=>decide (kv.1=k))=true
 ·rw[if_pos e,if_pos e];exact r.repl k ry
 ·rw[if_neg e,if_neg e];exact Paired.snoc r ⟨Z,ry⟩
theorem KV.length {kvs:List (κ×V)}{vs:List (κ×Value)} (r:KV kvs vs):kvs.length=vs.length:=Paired.length r
end
theorem YEv {P:Program}{w:World}{k:Key}{u:Value} (r:Ys (kV k) u):(ZM P w).is k u=true:=by
 cases k with
 |inl i=>obtain⟨t,e⟩:=(show ∃t,u=Value.int i t from r);subst e;exact YGH P w i t
 |inr x=>obtain⟨t,e⟩:=(show ∃t,u=Value.str x t from r);subst e;exact YGI P w x t
theorem YEw {P:Program}{w:World}:∀{ks:List Key}{us:List Value},Ym (ks.map kV) us->ItemsAre (ZM P w) ks us
 |[],_,r=>by rw[List.map_nil]at r;cases r;exact .nil
 |k :: ks,_,r=>by
  rw[YMQ]at r;cases r with
  |cons h t=>exact .cons (YEv h) (YEw t)
abbrev KT (H:Hp):List (List Key×V)->List (List Key×Addr×Value)->Prop:=Paired λp q=>p.1=q.1/\H q.2.1=some (.tup (p.1.map kV))/\Ys p.2 q.2.2
theorem KT.val {H:Hp}{kvs:List (List Key×V)}{xs:List (List Key×Addr×Value)} (r:KT H kvs xs) (k:List Key):YAn (Zo kvs k) ((atKey xs k).map (·.2)):=by
 induction r with
 |nil=>exact True.intro
 |@cons p q ps qs h t ih=>
  obtain⟨h1,_,h2⟩:=h
  by_cases e:p.1=k
  ·have e':q.1=k:=h1.symm.trans e;have b:atKey (q :: qs) k=some q.2:=by simp[atKey,YNU,e']
   rw[Zp e,b];exact h2
  ·have e':¬q.1=k:=λz=>e (h1.trans z)
   have b:atKey (q :: qs) k=atKey qs k:=by simp[atKey,YNU,e']
   rw[Zz e,b];exact ih
theorem KT.repl {H:Hp}{kvs:List (List Key×V)}{xs:List (List Key×Addr×Value)} (r:KT H kvs xs) (k:List Key) {y:V}{u:Value} (ry:Ys y u):
  KT H (kvs.map λkv=>if kv.1=k then (kv.1,y) else kv) (xs.map (putAt k u)):=by
 induction r with
 |nil=>exact .nil
 |@cons p q ps qs h t ih=>
  rw[YMQ,YMQ];refine .cons ?_ ih;obtain⟨h1,h2,h3⟩:=h;unfold putAt
  by_cases e:p.1=k
  ·rw[if_pos e,if_pos (h1.symm.trans e)];exact⟨h1,h2,ry⟩
  ·rw[if_neg e,if_neg (λz=>e (h1.trans z))];exact⟨h1,h2,h3⟩
theorem KT.put {H:Hp}{kvs:List (List Key×V)}{xs:List (List Key×Addr×Value)} (r:KT H kvs xs) (k:List Key) {b:Addr}{y:V}{u:Value} (hb:H b=some (.tup (k.map kV))) (ry:Ys y u):
  KT H (Za kvs k y) (storedH xs k b u):=by
 have e:(kvs.any λkv=>decide (kv.1=k))=(atKey xs k).isSome:=by
  rw[Xk,(r.val k).isSome_eq,YNH]
 unfold Za storedH;rw[e]
 by_cases q:(atKey xs k).isSome=true
 ·rw[if_pos q,if_pos q];exact r.repl k ry
 ·rw[if_neg q,if_neg q];exact Paired.snoc r ⟨Z,hb,ry⟩
theorem KT.keeps {H H':Hp}{kvs:List (List Key×V)}{xs:List (List Key×Addr×Value)} (r:KT H kvs xs) (ht:∀b ys,H b=some (.tup ys)->H' b=some (.tup ys)):KT H' kvs xs:=
 Paired.mapP r λ_ _ z=>⟨z.1,ht _ _ z.2.1,z.2.2⟩
section
variable {P:Program}{w:World}{H:Hp}{h:Heap}{a:Addr}
theorem rd_of {u:HO} (ok:HOk P w H h) (e:Rd H a u):Y3 P w H h a u:=e.ok ok
theorem YDb {kvs:List (Key×V)} (ok:HOk P w H h) (e:Rd H a (.dK kvs)):kvs.length<=sizeLine/\(a == sysModules)=false/\∃vs,KV kvs vs/\h.DictOf (ZM P w) a vs:=
 show Y3 P w H h a (.dK kvs) from rd_of ok e
theorem dk_of {kvs:List (Key×V)} (ok:HOk P w H h) (e:H a=some (.dK kvs)):kvs.length<=sizeLine/\(a == sysModules)=false/\∃vs,KV kvs vs/\h.DictOf (ZM P w) a vs:=YDb ok (.inl e)
theorem YCX {ks:List Key} (ok:HOk P w H h) (e:H a=some (.tup (ks.map kV))):(tupleKind (ZM P w)).is h ks a:=by
 obtain⟨_,its,r,o,h1,h2,n,h3⟩:=(show Y3 P w H h a (.tup (ks.map kV)) from ok a _ e);exact⟨o,its.toArray,n,h1,h2,h3,by simpa using YEw r⟩
theorem YDc {kvs:List (List Key×V)} (ok:HOk P w H h) (e:Rd H a (.dT kvs)):kvs.length<=sizeLine/\(a == sysModules)=false/\
  ∃xs,KT H kvs xs/\h.DictOfH (tupleKind (ZM P w)) a xs:=by
 obtain⟨z,y,xs,r,o,es,ep,h1,h2,h3,h4,h5⟩:=(show Y3 P w H h a (.dT kvs) from rd_of ok e);refine⟨z,y,xs,r,o,es,ep,h1,h2,h3,h4,λx hx=>?_,h5⟩;have all:∀{l:List (List Key×V)}{m:List (List Key×Addr×Value)},KT H l m->∀x∈m,(tupleKind (ZM P w)).is h x.1 x.2.1:=by
  intro l m q
  induction q with
  |nil=>intro x hx;exact nomatch hx
  |@cons p q ps qs hq t ih=>
   intro x hx;rcases YMA.mp hx with e |hx
   ·subst e;exact YCX ok (by rw[<-hq.1];exact hq.2.1)
   ·exact ih x hx
 exact all r x hx
theorem dt_of {kvs:List (List Key×V)} (ok:HOk P w H h) (e:H a=some (.dT kvs)):kvs.length<=sizeLine/\(a == sysModules)=false/\
  ∃xs,KT H kvs xs/\h.DictOfH (tupleKind (ZM P w)) a xs:=YDc ok (.inl e)
end
def Jf (H:Hp) (a:Addr) (y:V) (r:Option V):Prop:=
 (∃kvs k,Rd H a (.dK kvs)/\y=kV k/\r=Zo kvs k)\/∃kvs k b,Rd H a (.dT kvs)/\y=.ref b/\H b=some (.tup (k.map kV))/\r=Zo kvs k
def YBh (H:Hp) (a:Addr) (y v:V) (H':Hp):Prop:=
 (∃kvs k,H a=some (.dK kvs)/\y=kV k/\kvs.length < sizeLine/\H'=upd H a (.dK (Za kvs k v)))\/
 ∃kvs k b,H a=some (.dT kvs)/\y=.ref b/\H b=some (.tup (k.map kV))/\kvs.length < sizeLine/\H'=upd H a (.dT (Za kvs k v))
theorem Jf.k {H:Hp}{a:Addr}{kvs:List (Key×V)}{k:Key} (e:H a=some (.dK kvs)):Jf H a (kV k) (Zo kvs k):=.inl ⟨kvs,k,.inl e,Z,Z⟩
theorem YBh.k {H:Hp}{a:Addr}{kvs:List (Key×V)}{k:Key}{v:V} (e:H a=some (.dK kvs)) (hl:kvs.length < sizeLine):YBh H a (kV k) v (upd H a (.dK (Za kvs k v))):=.inl ⟨kvs,k,e,Z,hl,Z⟩
theorem YBh.t {H:Hp}{a b:Addr}{kvs:List (List Key×V)}{k:List Key}{v:V} (e:H a=some (.dT kvs)) (eb:H b=some (.tup (k.map kV))) (hl:kvs.length < sizeLine):
  YBh H a (.ref b) v (upd H a (.dT (Za kvs k v))):=.inr ⟨kvs,k,b,e,Z,eb,hl,Z⟩
section
variable {X:Cx}{pins:List (Addr×Obj)}{σ:St}{H:Hp}{s:Shared}{a:Addr}{y v:V}{u r:Value}{o:Option V}{A:Around}{E:Value->Shared->Prop}
theorem Inv.big (I:Inv X pins σ H s):sysModules < s.heap.objs.size:=by
 have h:mainGlobals < s.heap.objs.size:=(I.mod.glob.keeps I.bk).lt;exact Nat.lt_trans (by decide) h
theorem YJd {Q:Value->Shared->Prop} (hu:A.units + 1 < cLine) (I:Inv X pins σ H s) (g:Jf H a y (some v)) (ry:Ys y u) (h:∀w' s',Inv X pins σ H s'->Ys v w'->Q w' s'):
  wpAny (model X.prog X.w) A (getItem (.ref a) u) Q E s:=by
 rcases g with ⟨kvs,k,e,ey,l⟩ |⟨kvs,k,b,e,ey,eb,l⟩
 ·subst ey;obtain⟨z,hd,vs,rel,dd⟩:=YDb I.hok e;obtain⟨w',hw,rW⟩:=YAn.some_of (v:=v) (o:=valueAt vs k) (by rw[l];exact rel.val k);exact wpAny_getItem_of (YEv ry) dd.mapOf hw (h w' _ (I.tok _) rW)
 ·subst ey;cases (show u=Value.ref b from ry);obtain⟨z,hd,xs,rel,dd⟩:=YDc I.hok e;obtain⟨w',hw,rW⟩:=YAn.some_of (v:=v) (o:=(atKey xs k).map (·.2)) (by rw[l];exact rel.val k);obtain⟨p,hp,lL⟩:=YMV.mp hw;refine wpAny_getItem_heap (tupleKind_room_in1 hu) (YCX I.hok eb) dd hp ?_;rw[lL];exact h w' _ (I.tok _) rW
theorem d_in {Q:Value->Shared->Prop} (hu:A.units + 1 < cLine) (I:Inv X pins σ H s) (g:Jf H a y o) (ry:Ys y u) (h:∀s',Inv X pins σ H s'->Q (.bool o.isSome) s'):
  wpAny (model X.prog X.w) A (compareOp .In u (.ref a)) Q E s:=by
 rcases g with ⟨kvs,k,e,ey,l⟩ |⟨kvs,k,b,e,ey,eb,l⟩
 ·subst ey;obtain⟨z,hd,vs,rel,dd⟩:=YDb I.hok e;refine wpAny_in_of (YEv ry) hd dd.mapOf ?_;rw[<-(rel.val k).isSome_eq,<-l];exact h _ (I.tok _)
 ·subst ey;cases (show u=Value.ref b from ry);obtain⟨z,hd,xs,rel,dd⟩:=YDc I.hok e;refine wpAny_in_heap (tupleKind_room_in1 hu) (YCX I.hok eb) hd dd ?_;have q:=(rel.val k).isSome_eq;rw[YNH]at q;rw[<-q,<-l];exact h _ (I.tok _)
theorem d_notIn {Q:Value->Shared->Prop} (hu:A.units + 1 < cLine) (I:Inv X pins σ H s) (g:Jf H a y o) (ry:Ys y u) (h:∀s',Inv X pins σ H s'->Q (.bool (!o.isSome)) s'):
  wpAny (model X.prog X.w) A (compareOp .NotIn u (.ref a)) Q E s:=by
 rcases g with ⟨kvs,k,e,ey,l⟩ |⟨kvs,k,b,e,ey,eb,l⟩
 ·subst ey;obtain⟨z,hd,vs,rel,dd⟩:=YDb I.hok e;refine wpAny_notIn_of (YEv ry) hd dd.mapOf ?_;rw[<-(rel.val k).isSome_eq,<-l];exact h _ (I.tok _)
 ·subst ey;cases (show u=Value.ref b from ry);obtain⟨z,hd,xs,rel,dd⟩:=YDc I.hok e;refine wpAny_notIn_heap (tupleKind_room_in1 hu) (YCX I.hok eb) hd dd ?_;have q:=(rel.val k).isSome_eq;rw[YNH]at q;rw[<-q,<-l];exact h _ (I.tok _)
theorem YIh {h':Heap}{t':Nat}{ob:HO} (I:Inv X pins σ H s) (mu:Mut (H a)) (hs:Heap.SameBut a s.heap h') (he:∃q,h'.get? a=some q) (new:Y3 X.prog X.w (upd H a ob) h' a ob):
  Inv X pins σ (upd H a ob) { s with heap:=h',toks:=t' }:=
 I.write (x:=a) (e:=a) mu (.inl rfl) (λb q hb z=>(hs.2 b hb).trans z) he new
theorem dk_new {P:Program}{w:World}{H':Hp}{h':Heap}{kvs:List (Key×V)}{vs:List (Key×Value)} (z:kvs.length<=sizeLine) (hd:(a == sysModules)=false) (rel:KV kvs vs) (dd:h'.DictOf (ZM P w) a vs):
  Y3 P w H' h' a (.dK kvs):=⟨z,hd,vs,rel,dd⟩
theorem YJe {H':Hp}{Q:Unit->Shared->Prop} (hu:A.units + 1 < cLine) (I:Inv X pins σ H s) (g:YBh H a y v H') (ry:Ys y u) (rv:Ys v r) (h:∀s',Inv X pins σ H' s'->Q () s'):
  wpAny (model X.prog X.w) A (setItem (.ref a) u r) Q E s:=by
 rcases g with ⟨kvs,k,e,ey,l,eH⟩ |⟨kvs,k,b,e,ey,eb,l,eH⟩
 ·subst ey eH;obtain⟨z,hd,vs,rel,dd⟩:=dk_of I.hok e;have hz:vs.length<=sizeLine:=by rw[<-rel.length];exact z
  have hl:(Za kvs k v).length<=sizeLine:=by have:=YCw kvs k v;omega
  refine wpAny_setItem_pairs (hsz:=hz) (YEv ry) dd λh' Ql hs=>h _ ?_
  have he:∃q,h'.get? a=some q:=let ⟨q,_,_,hq,_⟩:=Ql;⟨q,hq⟩
  exact YIh I (by rw[e];exact True.intro) hs he (dk_new hl hd (rel.put k rv) Ql)
 ·subst ey eH;cases (show u=Value.ref b from ry);obtain⟨z,hd,xs,rel,dd⟩:=dt_of I.hok e;have hz:xs.length<=sizeLine:=by rw[<-Paired.length rel];exact z
  have hl:(Za kvs k v).length<=sizeLine:=by have:=YCw kvs k v;omega
  refine wpAny_setItem_heap (hsz:=hz) (tupleKind_room_in1 hu) (YCX I.hok eb) dd λh' Ql hs=>h _ ?_
  obtain⟨q,es,ep,hq,h2,h3,h4,_,h5⟩:=Ql;refine YIh I (by rw[e];exact True.intro) hs ⟨q,hq⟩ ⟨hl,hd,_,(rel.put k eb rv).keeps λc ys ec=>?_,q,es,ep,hq,h2,h3,h4,h5⟩;rw[YJ (YEl ec e nofun)];exact ec
end
section
variable {X:Cx}{pins:List (Addr×Obj)}{σ:St}{H:Hp}{s:Shared}{a:Addr}{kvs:List (Key×V)}{k:Key}{u:Value}{A:Around}{E:Value->Shared->Prop}
end
def NoSl (i:Expr):Prop:=∀ov iv,subscripted i false ov iv=operate [ov,iv] (getItem ov iv)
theorem subD_of {prog:Program}{w:World}{A:Around}{E:Value->Shared->Prop}{s:Shared}{env:Env}{value slice:Expr}{pos:Pos}{T id:String}{Q:Value->Shared->Prop}
  (hl:typeLookup (.type T) "__getitem__"=pure (some (.builtin id))) (hs:NoSl slice)
  (h:wpAny (model prog w) A (eval value env) (λo s₁=>wpAny (model prog w) A (eval slice env) (λi s₂=>s₂.TypeIs o T/\wpAny (model prog w) A (getItem o i) Q E s₂) E s₁) E s):
  wpAny (model prog w) A (eval (.Subscript value slice pos) env) Q E s:=by
 refine Subscript_ (wpAny_mono h (λo s₁ h₁=>wpAny_mono h₁ (λi s₂ h₂=>?_) λ_ _ x=>x) λ_ _ x=>x);obtain⟨hT,h₂⟩:=h₂;unfold subscriptTail;refine YLx ?_;rw[getitemInPython_of_ne hT.not_modules];refine YLx (wpAny_specialOf hT hl ?_);have fin:wpAny (model prog w) A (subscripted slice false o i) (λr s₃=>wpAny (model prog w) A (letTemporaryGo value o r >>= λ_=>pure r) Q E s₃) E s₂:=by
  rw[hs o i];exact wpAny_operating (wpAny_mono h₂ (λr s₃ h₃=>YLx (wpAny_letTemporaryGo (YMJ h₃))) λ_ _ x=>x)
 first
  |exact YMJ (YLx fin)
  |exact YLx (YMJ (YLx fin))
  |exact YLx fin
theorem YGV {X:Cx}{pins:List (Addr×Obj)}{σ:St}{H:Hp}{s:Shared}{a:Addr}{y:V}{o:Option V} (I:Inv X pins σ H s) (g:Jf H a y o):s.TypeIs (.ref a) "dict":=by
 rcases g with ⟨kvs,k,e,_,_⟩ |⟨kvs,k,b,e,_,_,_⟩
 ·obtain⟨_,_,vs,_,dd⟩:=YDb I.hok e;exact dd.typeIs
 ·obtain⟨_,_,xs,_,dd⟩:=YDc I.hok e;exact dd.typeIs
inductive YKh (Q:VK) (x:V) (y:V) (H2:Hp):Prop where
 |mk (a:_) (v:_) (a_:x=.ref a) (bc:Jf H2 a y (some v)) (bJ:Q v H2):YKh Q x y H2
def tDGet (td ty:TE):TE:=λσ H Q=>td σ H λx H1=>ty σ H1 λy H2=>YKh Q x y H2
inductive tDIn_ (Q:VK) (y:V) (x:V) (H2:Hp):Prop where
 |mk (a:_) (o:_) (a_:x=.ref a) (bc:Jf H2 a y o) (bJ:Q (.bl o.isSome) H2):tDIn_ Q y x H2
def tDIn (ty td:TE):TE:=λσ H Q=>ty σ H λy H1=>td σ H1 λx H2=>tDIn_ Q y x H2
inductive YGW (Q:VK) (y:V) (x:V) (H2:Hp):Prop where
 |mk (a:_) (o:_) (a_:x=.ref a) (bc:Jf H2 a y o) (bJ:Q (.bl (!o.isSome)) H2):YGW Q y x H2
def YIi (ty td:TE):TE:=λσ H Q=>ty σ H λy H1=>td σ H1 λx H2=>YGW Q y x H2
inductive YKi (D:YAo) (σ:St) (v:V) (x:V) (y:V) (H3:Hp):Prop where
 |mk (a:_) (H4:_) (a_:x=.ref a) (bc:YBh H3 a y v H4) (bJ:D.nx σ H4):YKi D σ v x y H3
def sDPut (td ty tv:TE):TS:=λD σ H=>tv σ H λv H1=>td σ H1 λx H2=>ty σ H2 λy H3=>YKi D σ v x y H3
section
variable {X:Cx}{o i e value:Expr}{pos gJ mV:Pos}{td ty tv:TE}
theorem ZJ (hu:X.A.units + 1 < cLine) (ho:PE X o td) (hi:PE X i ty) (hs:NoSl i):PE X (.Subscript o i pos) (tDGet td ty):=by
 intro pins s σ H Q I h;refine subD_of PySem.F.slot_dict_getitem.lookup hs (thn (ho pins s σ H _ I h) λu s1 ⟨x,H1,I1,rx,q1⟩=>thn (hi pins s1 σ H1 _ I1 q1) ?_);rintro iv s2 ⟨y,H2,I2,ry,a,v,ex,g,q2⟩;subst ex;obtain rfl:u=Value.ref a:=rx;exact⟨YGV I2 g,YJd hu I2 g ry λw' s3 I3 rW=>⟨v,H2,I3,rW,q2⟩⟩
theorem YKj (hu:X.A.units + 1 < cLine) (hi:PE X i ty) (ho:PE X o td):PC X .In i o (tDIn ty td):=by
 intro pins s σ H Q I h;refine thn (hi pins s σ H _ I h) λiv s1 ⟨y,H1,I1,ry,q1⟩=>thn (ho pins s1 σ H1 _ I1 q1) ?_
 rintro u s2 ⟨x,H2,I2,rx,a,ov,ex,g,q2⟩;subst ex;obtain rfl:u=Value.ref a:=rx;exact d_in hu I2 g ry λs3 I3=>⟨.bl ov.isSome,H2,I3,Z,q2⟩
theorem Xb (hu:X.A.units + 1 < cLine) (hi:PE X i ty) (ho:PE X o td):PC X .NotIn i o (YIi ty td):=by
 intro pins s σ H Q I h;refine thn (hi pins s σ H _ I h) λiv s1 ⟨y,H1,I1,ry,q1⟩=>thn (ho pins s1 σ H1 _ I1 q1) ?_
 rintro u s2 ⟨x,H2,I2,rx,a,ov,ex,g,q2⟩;subst ex;obtain rfl:u=Value.ref a:=rx;exact d_notIn hu I2 g ry λs3 I3=>⟨.bl (!ov.isSome),H2,I3,Z,q2⟩
theorem YAX (hu:X.A.units + 1 < cLine) (ho:PE X o td) (hi:PE X i ty) (hv:PE X value tv) (hs:swapsWith value (some (.Subscript o i gJ)) pos.line X.env=pure false):
  PS X (.Assign [.Subscript o i gJ] value pos) (sDPut td ty tv):=by
 intro pins s σ H D I h;refine wpAny_Assign_Subscript (thn (hv pins s σ H _ I h) λr s1 ⟨v,H1,I1,rv,q1⟩=>thn (ho pins s1 σ H1 _ I1 q1) λu s2 ⟨x,H2,I2,rx,q2⟩=>thn (hi pins s2 σ H2 _ I2 q2) λiv s3 ⟨y,H3,I3,ry,a,H4,ex,g,q3⟩=>?_) hs;subst ex;obtain rfl:u=Value.ref a:=rx;exact YJe hu I3 g ry rv λs4 I4=>⟨σ,H4,I4,q3⟩
end
theorem YKk {P:Program}{w:World}{H:Hp} (h:Heap) (hb:sysModules < h.objs.size):Y3 P w H (h.push { cls:=.type "dict",data:=.dict #[] }) h.objs.size (.dK []):=
 ⟨YMI _,beq_eq_false_iff_ne.mpr (Ne.symm (YMS hb)),[],.nil,Heap.DictOf.new h⟩
theorem YKl {P:Program}{w:World}{H:Hp} (h:Heap) (hb:sysModules < h.objs.size):Y3 P w H (h.push { cls:=.type "dict",data:=.dict #[] }) h.objs.size (.dT []):=
 ⟨YMI _,beq_eq_false_iff_ne.mpr (Ne.symm (YMS hb)),[],.nil,_,#[],0,YMF _ rfl,⟨Z,Z,Z⟩,Z,Z,List.nodup_nil⟩
def tDNewK:TE:=λ_ H Q=>∀p,H p=none->Q (.ref p) (upd H p (.dK []))
def tDNewT:TE:=λ_ H Q=>∀p,H p=none->Q (.ref p) (upd H p (.dT []))
section
variable {X:Cx}{pos:Pos}
theorem YB3:PE X (.Dict [] [] pos) tDNewK:=λpins s σ H Q I h=>
 wpAny_Dict_empty ⟨.ref s.heap.objs.size,_,I.laid (a:=s.heap.objs.size) (o:=.dK []) (t':=s.toks) (λ_ _ q=>YL0 _ q) (YLr _) (YKk s.heap I.big),Z,h _ (I.hok.fresh (YLr _))⟩
theorem YKm:PE X (.Dict [] [] pos) tDNewT:=λpins s σ H Q I h=>
 wpAny_Dict_empty ⟨.ref s.heap.objs.size,_,I.laid (a:=s.heap.objs.size) (o:=.dT []) (t':=s.toks) (λ_ _ q=>YL0 _ q) (YLr _) (YKl s.heap I.big),Z,h _ (I.hok.fresh (YLr _))⟩
end
structure M1 (X:Cx) (o:Expr) (m:Str) (cC:Pos) (e:Expr) (bH:Pos):Prop where
 base:attributeBase o m X.env (eval o X.env)=eval o X.env
 few:((backTo bH (starEach [e] X.env)).all (λx=>!x.1) && (backToKw bH (keywordEach [] X.env)).all (λx=>x.1.isSome)
  && decide (([e]:List Expr).length + ([]:List Keyword).length + (if ([]:List Keyword).isEmpty then 0 else 1) < 30))=true
 line:(cC.endLine == bH.line)=true
 trees:backTo bH (starEach [e] X.env)=[(false,eval e X.env)]
def IsD (H:Hp) (a:Addr):Prop:=(∃kvs,Rd H a (.dK kvs))\/∃kvs,Rd H a (.dT kvs)
theorem isD_at {X:Cx}{pins:List (Addr×Obj)}{σ:St}{H:Hp}{s:Shared}{a:Addr} (I:Inv X pins σ H s) (d:IsD H a):
  s.TypeIs (.ref a) "dict"/\(∀b,Value.ref a=.ref b->∃ob,s.heap.get? b=some ob/\ob.dict=none)/\(a == sysModules)=false:=by
 rcases d with ⟨kvs,e⟩ |⟨kvs,e⟩
 ·obtain⟨_,hd,vs,_,dd⟩:=YDb I.hok e;refine⟨dd.typeIs,λb q=>?_,hd⟩;cases q;obtain⟨ob,_,_,h1,h2,_⟩:=dd;exact⟨ob,h1,h2.2.1⟩
 ·obtain⟨_,hd,xs,_,dd⟩:=YDc I.hok e;refine⟨dd.typeIs,λb q=>?_,hd⟩;cases q;obtain⟨ob,_,_,h1,h2,_⟩:=dd;exact⟨ob,h1,h2.2.1⟩
section
variable {X:Cx}{pins:List (Addr×Obj)}{σ:St}{H:Hp}{s:Shared}{a:Addr}{y d:V}{u r:Value}{o:Option V}{A:Around}{E:Value->Shared->Prop}
theorem d_get1 {Q:Value->Shared->Prop} (hu:A.units + 1 < cLine) (I:Inv X pins σ H s) (g:Jf H a y o) (ry:Ys y u) (h:∀w' s',Inv X pins σ H s'->Ys (o.getD .non) w'->Q w' s'):
  wpAny (model X.prog X.w) A (call (.builtin "dict.get") [.ref a,u]) Q E s:=by
 rcases g with ⟨kvs,k,e,ey,l⟩ |⟨kvs,k,b,e,ey,eb,l⟩
 ·subst ey;obtain⟨z,hd,vs,rel,dd⟩:=YDb I.hok e;refine call_meetsIn PySem.F.slot_dict_get dd.typeIs PySem.F.entry_dict_get (PySem.F.args_dict_get_2 _ _) (meets_dict_get (ZM X.prog X.w) a (YEv ry) hd) ⟨_,dd.mapOf,h _ _ (I.tok _) ?_⟩;rw[l];exact(rel.val k).getD rfl
 ·subst ey;cases (show u=Value.ref b from ry);obtain⟨z,hd,xs,rel,dd⟩:=YDc I.hok e;refine call_meetsIn PySem.F.slot_dict_get dd.typeIs PySem.F.entry_dict_get (PySem.F.args_dict_get_2 _ _) (meetsH_dict_get (tupleKind (ZM X.prog X.w)) a b hd) ⟨tupleKind_room_in1 hu,k,xs,YCX I.hok eb,dd,h _ _ (I.tok _) ?_⟩;rw[l];exact(rel.val k).getD rfl
end
def tDGet1 (td ty:TE):TE:=λσ H Q=>td σ H λx H1=>∃a,x=.ref a/\IsD H1 a/\ty σ H1 λy H2=>∃o,Jf H2 a y o/\Q (o.getD .non) H2
section
variable {X:Cx}{o e f:Expr}{cC bH:Pos}{td ty tx:TE}
theorem YGX (hu:X.A.units + 1 < cLine) (ho:PE X o td) (he:PE X e ty) (m:M1 X o "get" cC e bH):PE X (.Call (.Attribute o "get" cC) [e] [] bH) (tDGet1 td ty):=by
 intro pins s σ H Q I h;refine wpAny_Call_method m.base m.few m.line PySem.F.plainAttrs_dict PySem.F.slot_dict_get PySem.F.type_dict_get (thn (ho pins s σ H _ I h) ?_);rintro u s1 ⟨x,H1,I1,rx,a,ex,d,q1⟩;subst ex;obtain rfl:u=Value.ref a:=rx;obtain⟨t1,t2,_⟩:=isD_at I1 d;refine⟨t1,t2,?_⟩;rw[m.trees];refine Calls.callWith_builtin rfl (Calls.evalArgs_plain (Calls.spliced_cons (thn (he pins s1 σ H1 _ I1 q1) ?_)));rintro iv s2 ⟨y,H2,I2,ry,ov,g,q2⟩;refine Calls.spliced_nil ?_;exact d_get1 hu I2 g ry λw' s3 I3 rW=>⟨_,H2,I3,rW,q2⟩
end
section
variable {X:Cx}{pins:List (Addr×Obj)}{σ:St}{H:Hp}{s:Shared}{a:Addr}{kvs:List (Key×V)}{A:Around}{E:Value->Shared->Prop}
end
section
variable {X:Cx}{pins:List (Addr×Obj)}{σ:St}{H:Hp}{s:Shared}{a:Addr}{y:V}{u:Value}{A:Around}{E:Value->Shared->Prop}
end
end L2
namespace Att
open PySem PySem.W PySem.Calls PyProof.Rows
theorem YC3 {P:Params}{h:Heap}:∀(ns:List Int) (vs:List Value),WellAll P h vs (ns.map WData.int)->IntsAre vs ns:=by
 intro ns
 induction ns with
 |nil=>
  intro vs w;rw[List.map_nil]at w;cases w;exact .nil
 |cons n ns ih=>
  intro vs w;rw[YMQ]at w;cases w with
  |cons a b=>
   cases a;exact .cons _ _ (ih _ b)
theorem YJf {l:OpenLaw}{n:Nat} (hn:l.most=some n) {P:Params}{h:Heap}{args:List WData}{vals:List Value}
  (lM:l.row.toRowW.claim.pre args=true) (hwl:WellAll P h vals args):
  ∃a vs ns,vals=[Value.ref a]/\args=[WData.list (ns.map WData.int)]/\h.get? a=some { cls:=.type "list",data:=.seq vs.toArray }/\IntsAre vs ns/\ns.length<=n:=by
 have yf:WShape.hasAll [] args [.list .int]=true:=(pre_splitW lM).1;have hc:l.pre.holds [] { args:=args }=true:=(pre_splitW lM).2;obtain⟨d,r,rfl,h1,h2⟩:=hasAllW_cons yf;obtain rfl:=hasAllW_nil h2;obtain⟨xs,rfl,h3⟩:=hasW_list h1;obtain⟨ns,rfl⟩:=items_int h3;have hlen:ns.length<=n:=by
  unfold OpenLaw.pre at hc;have h4:(WTm.not (.lt (.lit (.int (n:Int))) (.len (.arg 0)))).holds [] { args:=[.list (ns.map .int)] }=true:=by
   have h4:=(holds_andW hc).1;rw[hn]at h4;exact h4
  have h5:=condW_of h4 (w_not (w_lt w_lit (w_len_list (w_arg rfl))));rw[YLp]at h5;refine Nat.le_of_not_lt λq=>?_
  have q':(n:Int) < ((ns.length:Nat):Int):=by omega
  first
   |(rw[YLw q']at h5;exact absurd h5 (by decide))
   |(simp at h5;omega)
 cases hwl with
 |cons w1 w2=>
  cases w2;cases w1 with
  |list ho hall=>exact⟨_,_,ns,Z,Z,ho,YC3 ns _ hall,hlen⟩
theorem YJg (l:OpenLaw) (args:List WData):l.row.toRowW.claim.post args (.bool true) args=true:=
 postW_of (r:=l.row.toRowW) (X:=(true == true))
  (show WShape.has [] (.bool true) .bool=true by first |rfl |decide |simp[WShape.has,WShape.arms,WShape.armsAll])
  (show(WTm.eq .res (.lit (.bool true))).value [] { args:=args,res:=some (.bool true),after:=args }=some (.bool (true == true)) from w_eq_bool (w_res rfl) w_lit) rfl
theorem YGY {l:OpenLaw}{n:Nat}{q:Program}{loose:List Str}{XP:(Str->Option Value)->Heap->Prop}{YP:World->Heap->Prop}{d:DefRec}
  (hn:l.most=some n) (hdf:d.params.defaults=[])
  (call:∀(w:World) (s₀ s₁:Shared) (mg mb:Str->Option Value) (fa:Addr) (o:Obj) (pm cd doc:Value) (a:Addr) (vs:List Value) (ns:List Int),
   Ground q loose [] XP w s₀ mg mb s₁.heap->YP w s₁.heap->
   s₁.heap.get? fa=some o->o.data=.func (docDef d.name d.params d.body d.scope pm cd doc)->s₁.heap.CodeRec cd d.name->mg d.name=some (.ref fa)->
   s₁.heap.get? a=some { cls:=.type "list",data:=.seq vs.toArray }->IntsAre vs ns->ns.length<=n->s₁.gens=#[]->
   codeAny (model l.prog w) callerA (.call (.ref fa) ⟨[.ref a],[]⟩) (λr s'=>r=.ok (.ret (.bool true))/\OldK s₁.heap s'.heap/\s'.os=s₁.os/\AllBare s'.gens) s₁):
  WalkO q loose XP YP l.row.toRowW d [] (λf vs=>PySem.call f vs):=by
 intro w s₀ s₁ mg mb G Y fa o pm cd doc dV kV ho hd hcd hD zF hg args vals as lM hlay hrd hwl hlo;obtain rfl:dV=.none:=Dflts.none hD hdf;obtain rfl:kV=.none:=Dflts.noKw hD;obtain⟨a,vs,ns,rfl,rfl,yg,ue,hlen⟩:=YJf hn lM hwl;refine enter_call (codeAny_mono (call w s₀ s₁ mg mb fa o pm cd doc a vs ns G Y ho (fd_plain hd) hcd zF yg ue hlen hg) λr s' hq=>?_);obtain⟨rfl,h2,h3,h4⟩:=hq;exact⟨.inl ⟨.bool true,.bool true,[],Z,λ_=>rfl,.bool true,YJg l _,λ_=>⟨List.Pairwise.nil,λ_ hm=>(nomatch hm)⟩⟩,h2,h3,h4⟩
section
variable {prog:Program}{w:World}{A:Around}{E:Value->Shared->Prop}{s:Shared}{K:Frag}
end
end Att
namespace L2
open PySem PySem.Spec PyProof.Rows
theorem YEx:∀{vs:List Value}{ns:List Int},IntsAre vs ns->Ym (ns.map V.int) vs
 |_,_,.nil=>.nil
 |_,_,.cons n t h=>.cons ⟨t,Z⟩ (YEx h)
def Only (H:Hp):Prop:=∀b,H b=none\/∃o xs,H b=some (.frz o (.lst xs))
theorem YKn {P:Program}{w:World}{K:W.Frag}{mg mb:Str->Option Value}{CX:CXT}{k:Nat}{fa a:Addr}{fd:FuncData}{x:Str}{sp:Sp}{s₁:Shared}{vs:List Value}{ns:List Int}
  (KX:K.In s₁.heap) (hns:s₁.heap.Ns mainGlobals mg) (hb:s₁.heap.Ns builtinsNs mb) (hbb:∀x:Str,x≠"__name__"->mb x=bootBuiltins x) (WN:s₁.heap.NoLimit) (hg:s₁.gens=#[])
  (ha:s₁.heap.get? a=some { cls:=.type "list",data:=.seq vs.toArray }) (hi:IntsAre vs ns) (hl:ns.length<=sizeLine) (hr:J8 k callerA)
  (F:∀base:Heap,K.In base->base.Ns mainGlobals mg->Yt P w K mg base CX k fa fd [x] sp) (zG:∀(s:Shared) (u:Value),BindsTo s fd ⟨[u],[]⟩ [(x,u)])
  (hsp:∀H:Hp,Only H->SqL K H a (ns.map V.int)->sp [.ref a] H (λv _=>v=.bl true) λ_ _ _=>False)
  (hCX:∀H e s',CX [] H s₁ (λ_ _ _=>False) e s'->False):
  codeAny (model P w) callerA (.call (.ref fa) ⟨[.ref a],[]⟩) (λr s'=>r=.ok (.ret (.bool true))/\OldK s₁.heap s'.heap/\s'.os=s₁.os/\AllBare s'.gens) s₁:=by
 have rv:=YEx hi;have lenV:=hi.length;have core:∀H:Hp,Only H->SqL K H a (ns.map V.int)->HOk P w H s₁.heap->(∀b,H b≠none->b=a)->(H a≠none->K.lookup a=none)->
   codeAny (model P w) callerA (.call (.ref fa) ⟨[.ref a],[]⟩) (λr s'=>r=.ok (.ret (.bool true))/\OldK s₁.heap s'.heap/\s'.os=s₁.os/\AllBare s'.gens) s₁:=by
  intro H hO hS hok hA hK;have base_of:∀{b:Addr}{o:Obj},s₁.heap.get? b=some o->H b=none->(YFg s₁.heap H).get? b=some o:=λe n=>YKG e n
  have noA:∀{b:Addr}{o:Obj}{es:Array DictEntry}{ep:Nat},s₁.heap.get? b=some o->o.data=.dict es ep->H b=none:=λ{b o es ep} e d=>by
   cases q:H b with
   |none=>rfl
   |some u=>
    have e':b=a:=hA b (by rw[q];simp);subst e';rw[ha]at e;cases e;have d':Data.seq vs.toArray _=Data.dict es ep:=d;cases d'
  have nsK:∀{b:Addr}{m:Str->Option Value},s₁.heap.Ns b m->(YFg s₁.heap H).Ns b m:=λ{b m} ⟨o,es,ep,e,d,r⟩=>⟨o,es,ep,base_of e (noA e d),d,r⟩
  have hKb:K.In (YFg s₁.heap H):=λb o e=>base_of (KX b o e) (by
   cases q:H b with
   |none=>rfl
   |some u=>
    have e':b=a:=hA b (by rw[q];simp);subst e';rw[hK (by rw[q];simp)]at e;cases e)
  have hM:Mod K mg (YFg s₁.heap H):=⟨hKb,nsK hns,⟨mb,nsK hb,hbb⟩,let ⟨mc,h1,h2⟩:=WN;⟨mc,nsK h1,h2⟩⟩;have e0:Env0 P w K mg (YFg s₁.heap H) callerA [] s₁ H:=⟨Z,hM,λb o e=>of_hidT e,Nat.le_of_eq (YJT _ _),trivial,λb hb=>absurd (show b∈([]:List Addr) from hb) (by simp),hok,.of_eq hg⟩;refine codeAny_mono ((F _ hKb (nsK hns)).run callerA [] s₁ H ⟨[.ref a],[]⟩ [.ref a] [.ref a] _ _ hr e0 (zG s₁ (.ref a)) (.cons rfl .nil) (hsp H hO hS)) λr s' h=>?_
  cases r with
  |error e=>exact(hCX H e s' h).elim
  |ok fl=>
   cases fl with
   |next=>exact False.elim h
   |brk=>exact False.elim h
   |cont=>exact False.elim h
   |ret u=>
    obtain⟨v,H',os,bare,un,hok',r',q⟩:=h;have q':v=.bl true:=q;subst q';obtain rfl:u=Value.bool true:=r';refine⟨Z,OldK.of_keep λb o e=>?_,os,bare⟩;cases q:H b with
    |none=>exact un.keep b o e q (by intro z;exact absurd (show b∈([]:List Addr) from z) (by simp)) (by simp)
    |some u=>
     rcases hO b with z |⟨ob,xs,z⟩
     ·rw[q]at z;cases z
     ·have z2:=un.frzs b ob _ z;obtain⟨e1,_⟩:=hok b _ z;obtain⟨e2,_⟩:=hok' b _ z2;rw[e]at e1;cases e1;exact e2
 cases hk:K.lookup a with
 |some o=>
  have e:=KX a o hk;rw[ha]at e;cases e;refine core (λ_=>none) (λ_=>.inl rfl) (.inr ⟨_,vs.toArray,_,hk,Z,Z,Z,by rw[YL3,lenV];exact hl,by simpa using rv⟩) (λb u z=>by have z':(none:Option HO)=some u:=z;cases z') (λb z=>absurd rfl z) λz=>absurd rfl z
 |none=>
  refine core (λb=>if b=a then some (.frz { cls:=.type "list",data:=.seq vs.toArray } (.lst (ns.map V.int))) else none) (λb=>?_) (.inl (.inr ⟨{ cls:=.type "list",data:=.seq vs.toArray },if_pos rfl⟩)) (λb u z=>?_) (λb z=>?_) λ_=>hk
  ·by_cases hb:b=a
   ·exact .inr ⟨_,_,if_pos hb⟩
   ·exact .inl (if_neg hb)
  ·by_cases hb:b=a
   ·have z':=(if_pos hb).symm.trans z;cases z';subst hb;exact⟨ha,by rw[YLp];exact hl,vs,_,rv,ha⟩
   ·have z':=(if_neg hb).symm.trans z;cases z'
  ·by_cases hb:b=a
   ·exact hb
   ·exact absurd (if_neg hb) z
end L2
namespace L2
open PySem PySem.Spec PyProof.Rows
theorem walk_of {l:PySem.W.OpenLaw}{n k:Nat}{q:Program}{loose:List Str}{XP:(Str->Option Value)->Heap->Prop}{YP:World->Heap->Prop}{d:DefRec}{K:Params->W.Frag}{CX:World->CXT}{sp:World->Sp}{x:Str}
  (hn:l.most=some n) (hn2:n<=sizeLine) (hdf:d.params.defaults=[]) (hr:J8 k callerA)
  (hY:∀(w:World) (h:Heap),YP w h->(K w.params).In h)
  (F:∀(w:World) (mg:Str->Option Value) (fa:Addr) (h:Heap),(K w.params).In h->h.Ns mainGlobals mg->mg d.name=some (.ref fa)->
   ∃fd:FuncData,(∀(s:Shared) (u:Value),BindsTo s fd ⟨[u],[]⟩ [(x,u)])/\
    ∀base:Heap,(K w.params).In base->base.Ns mainGlobals mg->Yt l.prog w (K w.params) mg base (CX w) k fa fd [x] (sp w))
  (hsp:∀(w:World) (H:Hp) (a:Addr) (ns:List Int),ns.length<=n->Only H->SqL (K w.params) H a (ns.map V.int)->sp w [.ref a] H (λv _=>v=.bl true) λ_ _ _=>False)
  (hCX:∀(w:World) (H:Hp) (s:Shared) (e:Value) (s':Shared),CX w [] H s (λ_ _ _=>False) e s'->False):
  PySem.W.WalkO q loose XP YP l.row.toRowW d [] (λf vs=>PySem.call f vs):=by
 refine Att.YGY hn hdf λw s₀ s₁ mg mb fa o pm cd doc a vs ns G Y ho hd hcd zF yg ue hlen hg=>?_
 have KX:=hY w _ Y;obtain⟨fd,hb,hF⟩:=F w mg fa _ KX G.T.g zF;exact YKn KX G.T.g G.T.b G.T.builtins G.T.nolimit hg yg ue (YMP hlen hn2) hr hF hb (λH hO hS=>hsp w H a ns hlen hO hS) λH e s'=>hCX w H s₁ e s'
end L2
namespace L2
open PySem PySem.Spec PyProof.Rows
def Zb (s:Stmt) (j:Nat):Stmt:=match s with
 |.ClassDef _ _ _ body _ _ _ _ _ _ _=>body.getD j (.Pass ⟨0,0,0,0⟩)
 |_=>.Pass ⟨0,0,0,0⟩
def J4 (s:Stmt):Arguments:=match s with
 |.FunctionDef _ a _ _ _ _ _ _ _ _=>a
 |_=>{ posonlyargs:=[],args:=[],vararg:=none,kwonlyargs:=[],kw_defaults:=[],kwarg:=none,defaults:=[] }
def JD (s:Stmt):List Stmt:=match s with
 |.FunctionDef _ _ b _ _ _ _ _ _ _=>b
 |_=>[]
def YQ (s:Stmt):Scope:=match s with
 |.FunctionDef _ _ _ _ _ _ sc _ _ _=>sc
 |_=>{ kind:=.function,names:=[],isGenerator:=false,isCoroutine:=false }
abbrev CX0:CXT:=λ_ _ _ _ _ _=>False
abbrev E0:XK:=λ_ _ _=>False
theorem Yi {X:Cx}:YAV CX0 X E0:=λ_ _ _ _ _ _ _ h=>h.elim
structure Fun (K:W.Frag) (x qual:Str) (st:Stmt) (f:Addr) (fd:FuncData):Prop where
 ex:∃(oc:Value) (od:Option Addr) (kV doc pm:Value) (an:Option Addr) (aO ct:Value) (osl:Array (Option Value)),
  fd=PySem.W.fnOf x qual (J4 st) (JD st) (YQ st) .none kV doc pm an aO ct/\K.lookup f=some ⟨oc,od,.func fd,osl⟩/\PySem.W.codeIn K aO qual=true
 kp:PySem.W.keepIn K (.ref f)=true
section
variable {P:Program}{w:World}{K:W.Frag}{mg:Str->Option Value}{base:Heap}
theorem Fun.ok {x qual:Str}{st:Stmt}{f:Addr}{fd:FuncData}{N ps:List Str}{k:Nat}{sp:Sp} (F:Fun K x qual st f fd) (S:YX N ps (YQ st)) (len:∀vs H Q E,sp vs H Q E->vs.length=ps.length)
  (hbody:∀(aO:Value) (A:Around) (outer:List Env) (s:Shared) (H:Hp) (vs:List V) (Q:VK) (E:XK),J8 k (A.deeper (envOfC qual (YQ st) s.heap.objs.size f aO))->sp vs H Q E->
   ∃t,PSs (YCW CX0 P w K mg base N qual (YQ st) f aO A outer s H E).nox (JD st) t/\t { nx:=λ_ H'=>Q .non H',rt:=Q } (start N vs) H):Yt P w K mg base CX0 (k + 1) f fd ps sp:=by
 obtain⟨oc,od,kV,doc,pm,an,aO,ct,osl,rfl,lk,hcd⟩:=F.ex;refine fn_of lk hcd S len λA outer s H vs Q E hr hsp=>?_
 obtain⟨t,h,q⟩:=hbody aO A outer s H vs Q E hr hsp;exact⟨t,h.nox,q⟩
theorem Fun.binds {x qual:Str}{st:Stmt}{f:Addr}{fd:FuncData}{ps:List Str} (F:Fun K x qual st f fd)
  (h:∀(kV doc pm:Value) (an:Option Addr) (aO ct:Value) (us:List Value),us.length=ps.length->bindArgs (PySem.W.fnOf x qual (J4 st) (JD st) (YQ st) .none kV doc pm an aO ct) ⟨us,[]⟩=pure (ps.zip us)):YAj K fd ps []:=by
 obtain⟨oc,od,kV,doc,pm,an,aO,ct,osl,rfl,lk,hcd⟩:=F.ex;exact .all (h kV doc pm an aO ct)
theorem YKo {x qual:Str}{st:Stmt}{f:Addr}{oc:Value}{od an:Option Addr}{osl:Array (Option Value)}{kV doc pm aO ct:Value} (l:K.lookup f=some ⟨oc,od,.func (PySem.W.fnOf x qual (J4 st) (JD st) (YQ st) .none kV doc pm an aO ct),osl⟩)
  (c:PySem.W.codeIn K aO qual=true) (k:PySem.W.keepIn K (.ref f)=true):Fun K x qual st f (PySem.W.fnOf x qual (J4 st) (JD st) (YQ st) .none kV doc pm an aO ct):=⟨⟨oc,od,kV,doc,pm,an,aO,ct,osl,Z,l,c⟩,k⟩
end
theorem Zq {A:Around}{k:Nat} (hr:J8 k A):A.units + 1 < cLine:=YNN (Nat.add_le_add_left (by decide:1<=64) _) hr.units
section
variable {X:Cx}
theorem pv (i:Nat) {x:Str}{pos:Pos} (hN:X.N[i]?=some x:=by rfl) (hv:Vis X.env.scope x:=by first |exact Or.inl rfl |exact Or.inr (Or.inl rfl) |exact Or.inr (Or.inr rfl)) (hd:(x == ("__debug__":Str))=false:=by decide)
  (hcd:(x == ("__classdict__":Str))=false:=by decide):PE X (.Name x pos) (YGK i):=pe_var hN hv hd hcd
end
theorem ZA {A B:Prop} (h:B):if false=true then A else B:=by
 rw[if_neg YL7];exact h
theorem ZG {A B:Prop} (h:A):if true=true then A else B:=by
 rw[if_pos rfl];exact h
theorem JP {c A B:Prop} [Decidable c] (h1:c->A) (h2:¬c->B):if c then A else B:=by
 by_cases h:c
 ·rw[if_pos h];exact h1 h
 ·rw[if_neg h];exact h2 h
def YN (H H':Hp):Prop:=∀b o,H b=some o->H' b=some o
theorem YN.refl (H:Hp):YN H H:=λ_ _ h=>h
theorem YN.trans {H H1 H2:Hp} (a:YN H H1) (b:YN H1 H2):YN H H2:=λc o h=>b c o (a c o h)
theorem YN.free {H H':Hp} (e:YN H H') {l:Addr} (h:H' l=Option.none):H l=Option.none:=by
 cases q:H l with
 |none=>rfl
 |some o=>
  rw[e l o q]at h;cases h
theorem YN.seq {K:W.Frag}{H H':Hp}{a:Addr}{xs:List V} (e:YN H H') (h:SqL K H a xs):SqL K H' a xs:=by
 rcases h with (h |⟨o,h⟩) |h
 ·exact .inl (.inl (e _ _ h))
 ·exact .inl (.inr ⟨o,e _ _ h⟩)
 ·exact .inr h
end L2
set_option maxHeartbeats 4000000
namespace L2
open PySem PySem.Spec PyProof.Rows
theorem Y3.at_ {P:Program}{w:World}{H:Hp}{h:Heap}{a:Addr}{o:HO} (x:Y3 P w H h a o):∃u,h.get? a=some u:=by
 cases o with
 |lst xs=>obtain⟨_,_,_,_,e⟩:=x;exact⟨_,e⟩
 |tup xs=>obtain⟨_,_,_,o,e,_⟩:=x;exact⟨_,e⟩
 |dK kvs=>obtain⟨_,_,_,_,o,_,_,e,_⟩:=x;exact⟨_,e⟩
 |dT kvs=>obtain⟨_,_,_,_,o,_,_,e,_⟩:=x;exact⟨_,e⟩
 |set S n=>obtain⟨o,_,_,_,e,_⟩:=x;exact⟨_,e⟩
 |ins C dx fs=>obtain⟨_,_,_,e,_⟩:=x;exact⟨_,e⟩
 |own y=>obtain⟨o,e⟩:=x;exact⟨_,e⟩
 |xd fs=>obtain⟨_,⟨o,_,_,e,_⟩,_⟩:=x;exact⟨_,e⟩
 |rng lo hi=>obtain⟨_,_,_,e⟩:=x;exact⟨_,e⟩
 |frz ob u=>obtain⟨e,_⟩:=x;exact⟨_,e⟩
 |tbl ps=>exact⟨_,(show h.get? a=some _ from x)⟩
 |met f y=>exact⟨_,(show h.get? a=some _ from x)⟩
 |ext φ=>obtain⟨_,e,_⟩:=x;exact e
structure Fly (P:Program) (w:World) (l:List Env) (H:Hp) (s:Shared) (e:Addr) (cls:Value) (H':Hp) (s':Shared):Prop where
 os:s'.os=s.os
 bare:AllBare s'.gens
 un:Un (frs l) [] H H' s.heap s'.heap
 hok:HOk P w H' s'.heap
 new:H' e=none
 fly:∃B a0,Heap.FlyingW B l e cls a0 s'.heap/\(∀b u,H' b=some u->∃o,B.get? b=some o)/\∀b o,s.heap.get? b=some o->b∉frs l->∃o',B.get? b=some o'
def CXo (P:Program) (w:World):CXT:=λl H s E ev s'=>∃e cls H',ev=.ref e/\Fly P w l H s e cls H' s'/\E cls none H'
theorem YKp {fs:List Addr}{H H':Hp}{h h' h'' B:Heap} (un:Un fs [] H H' h h') (sB:B.StaysIn h') (sB':B.StaysIn h'') (up:h'.UpToSlots h'')
  (fr:∀b∈fs,∃o,h'.get? b=some o/\∀vs,o.data≠.fields vs) (old:∀b o,h.get? b=some o->b∉fs->∃o',B.get? b=some o'):Un fs [] H H' h h'' where
 keep:=λb o q n hb hx=>by
  have e1:=un.keep b o q n hb hx;obtain⟨o',eB⟩:=old b o q hb;have e2:=sB b o' eB;rw[e1]at e2;cases e2;exact sB' b o eB
 slot:=λb o q n hb hx=>by
  obtain⟨sl,e1⟩:=un.slot b o q n hb hx;obtain⟨o',e2,nf⟩:=fr b hb;rw[e1]at e2;cases e2;obtain⟨vU,e3⟩:=up b _ e1 nf;exact⟨vU,e3⟩
 free:=un.free
 there:=λb o q hx=>by
  by_cases hb:b∈fs
  ·obtain⟨o',e2,nf⟩:=fr b hb;obtain⟨vU,e3⟩:=up b _ e2 nf;exact⟨_,e3⟩
  ·obtain⟨o',eB⟩:=old b o q hb;exact⟨o',sB' b o' eB⟩
 tups:=un.tups
 frzs:=un.frzs
 tbls:=un.tbls
theorem YIj {P:Program}{w:World}{H:Hp}{h h' B:Heap} (ok:HOk P w H h) (sB:B.StaysIn h) (sB':B.StaysIn h') (tr:∀b u,H b=some u->∃o,B.get? b=some o):HOk P w H h':=λa o ea=>
 (ok a o ea).stay (λb u hb eb=>by
  have tb:∃v,H b=some v:=hb.elim (λz=>⟨o,by rw[z];exact ea⟩) λz=>⟨_,z⟩
  obtain⟨v,hv⟩:=tb;obtain⟨o',eB⟩:=tr b v hv;have e2:=sB b o' eB;rw[eb]at e2;cases e2;exact sB' b u eB) (λ_ z=>z) λ_ _ z=>z
theorem YKq {fs fs':List Addr}{L:Addr}{H H1 H2:Hp}{h h1 h2:Heap} (a:Un fs [] H H1 h h1) (b:Un fs' [] H1 H2 h1 h2) (sub:∀x∈fs',x=L\/x∈fs) (sup:∀x∈fs,x∈fs') (hL:h.objs.size<=L):Un fs [] H H2 h h2:=by
 have nL:∀c o,h.get? c=some o->c≠L:=λc o q z=>absurd (YL4 q) (by rw[z];exact Nat.not_lt.mpr hL)
 have no:∀c o,h.get? c=some o->c∉fs->c∉fs':=λc o q n z=>(sub c z).elim (nL c o q) n
 exact⟨λc o q n hc hx=>b.keep c o (a.keep c o q n hc hx) (a.free c o q n hx) (no c o q hc) hx,
  λc o q n hc hx=>by
   obtain⟨sl,e1⟩:=a.slot c o q n hc hx;obtain⟨vU,e2⟩:=b.slot c _ e1 (a.free c o q n hx) (sup c hc) hx;exact⟨vU,e2⟩,
  λc o q n hx=>by
   obtain⟨o',e1⟩:=a.there c o q hx;exact b.free c o' e1 (a.free c o q n hx) hx,
  λc o q hx=>by
   obtain⟨o',e1⟩:=a.there c o q hx;exact b.there c o' e1 hx,
  λc xs q=>b.tups c xs (a.tups c xs q),λc ob xs q=>b.frzs c ob xs (a.frzs c ob xs q),
  λc ps q=>by
   obtain⟨m1,e1⟩:=a.tbls c ps q;obtain⟨m2,e2⟩:=b.tbls c _ e1;exact⟨m1 ++ m2,by rw[e2,Array.append_assoc]⟩⟩
structure Sink (X:Cx) (E:XK):Prop where
 made:∀(pins:List (Addr×Obj)) (σ:St) (H:Hp) (s:Shared) (e:Addr) (cls:Value) (args:List Value) (h':Heap),Inv X pins σ H s->Heap.MadeExcOf s.heap h' e cls args->E cls none H->X.xe (.ref e) { s with heap:=h' }
 on:YAV (CXo X.prog X.w) X E
theorem YJh {X:Cx}{pins:List (Addr×Obj)}{σ:St}{H:Hp}{s:Shared} (I:Inv X pins σ H s):
  (PySem.W.hideAll s.heap (frs X.stack)).StaysIn s.heap/\s.heap.FunFrames (PySem.W.hideAll s.heap (frs X.stack)) X.stack/\(∀b o,s.heap.get? b=some o->b∉frs X.stack->(PySem.W.hideAll s.heap (frs X.stack)).get? b=some o)/\
   ∀b u,H b=some u->∃o,(PySem.W.hideAll s.heap (frs X.stack)).get? b=some o:=by
 refine⟨λb o q=>PySem.W.of_hideAll _ q,PySem.W.funFrames_hide I.stack λenv he b hb=>List.mem_filterMap.mpr ⟨env,he,hb⟩,λb o q hb=>PySem.W.hideAll_get _ q hb,λb u q=>?_⟩;obtain⟨o,ho⟩:=(I.hok b u q).at_;exact⟨o,PySem.W.hideAll_get _ ho λz=>by rw[I.stkFree b z]at q;cases q⟩
theorem JQ {P:Program}{w:World}{K:W.Frag}{mg:Str->Option Value}{base:Heap}{N:List Str}{qual:Str}{scope:Scope}{f:Addr}{cd:Value}{A:Around}{outer:List Env}{s:Shared}{H:Hp}{E:XK}:
  Sink (YCW (CXo P w) P w K mg base N qual scope f cd A outer s H E) E where
 made:=by
  intro pins σ H1 s1 e cls args h' I hx hE;obtain⟨sB,ff,inB,tr⟩:=YJh I;show wpAny _ _ (leaving _ (.ref e)) _ _ _;refine wpAny_leaves_madeW (base:=PySem.W.hideAll s1.heap (frs (YCW (CXo P w) P w K mg base N qual scope f cd A outer s H E).stack)) (h:=s1.heap) I.ok.frames rfl sB ff hx λh'' t x1 x2 x3 x4=>?_
  have sB1:(PySem.W.hideAll s1.heap (frs (YCW (CXo P w) P w K mg base N qual scope f cd A outer s H E).stack)).StaysIn h':=λb o q=>hx.keeps b o (sB b o q)
  have zH:Un (frs outer) [] H H1 s.heap s1.heap:=I.base;have old:∀b o,s.heap.get? b=some o->b∉frs outer->∃o',(PySem.W.hideAll s1.heap (frs (YCW (CXo P w) P w K mg base N qual scope f cd A outer s H E).stack)).get? b=some o':=λb o q hb=>by
   obtain⟨o',e1⟩:=zH.there b o q (by simp);refine⟨o',inB b o' e1 λz=>?_⟩;rcases YMA.mp (I.stkSub b z) with z |z
   ·exact absurd (YL4 q) (by rw[z];exact YMm _)
   ·exact hb z
  have fr:∀b∈frs outer,∃o,h'.get? b=some o/\∀vs,o.data≠.fields vs:=λb hb=>by
   obtain⟨_,o,ho,nf⟩:=I.funs.mem hb;exact⟨o,hx.keeps b o ho,nf⟩
  refine⟨e,cls,H1,Z,⟨I.os,I.bare,YKp (zH.trans (Un.kept hx.keeps)) sB1 x1.1 x4 fr old,YIj (I.hok.kept hx.keeps) sB1 x1.1 tr,?_,_,_,x1,tr,old⟩,hE⟩;cases q:H1 e with
  |none=>rfl
  |some u=>
   obtain⟨o,ho⟩:=(I.hok e u q).at_;rw[hx.new]at ho;cases ho
 on:=by
  intro pins σ H1 s1 ev s' I WP;obtain⟨e,cls,H',rfl,F,hE⟩:=WP;obtain⟨B,a0,fl,tr,old⟩:=F.fly;show wpAny _ _ (leaving _ (.ref e)) _ _ _;refine wpAny_leaves_onW I.ok.frames rfl fl λh'' x1 x4=>?_
  have zH:Un (frs outer) [] H H1 s.heap s1.heap:=I.base;have sub:∀x∈frs (YCW (CXo P w) P w K mg base N qual scope f cd A outer s H E).stack,x=s.heap.objs.size\/x∈frs outer:=λx hx=>YMA.mp (I.stkSub x hx)
  have sup:∀x∈frs outer,x∈frs (YCW (CXo P w) P w K mg base N qual scope f cd A outer s H E).stack:=λx hx=>YL6 _ hx
  have V3:Un (frs outer) [] H H' s.heap s'.heap:=YKq zH F.un sub sup (YLr _);have zJ:∀b o,s.heap.get? b=some o->b∉frs outer->∃o',B.get? b=some o':=λb o q hb=>by
   obtain⟨o',e1⟩:=zH.there b o q (by simp);refine old b o' e1 λz=>?_
   rcases sub b z with z |z
   ·exact absurd (YL4 q) (by rw[z];exact YMm _)
   ·exact hb z
  have fr:∀b∈frs outer,∃o,s'.heap.get? b=some o/\∀vs,o.data≠.fields vs:=λb hb=>by
   obtain⟨_,o,ho,nf⟩:=fl.2.2.1.mem (sup b hb);exact⟨o,ho,nf⟩
  exact⟨e,cls,H',Z,⟨F.os.trans I.os,F.bare,YKp V3 fl.1 x1.1 x4 fr zJ,YIj F.hok fl.1 x1.1 tr,F.new,B,a0,x1,tr,zJ⟩,hE⟩
abbrev bmV:List Value:=[.type "ValueError",.type "Exception",.type "BaseException",.type "object"]
abbrev newV:String:="ValueError.__new__"
def Exc (K:W.Frag) (C:Addr):Prop:=PySem.W.excIn K C bmV newV=true
theorem exc_obj {K:W.Frag}{h:Heap}{C:Addr}{bmB:List Value}{newId:String} (X:K.In h) (q:PySem.W.excIn K C bmB newId=true):
  ∃bm N nm qn bs hdct sn sub ab col dd k0 k1 k2 k3 k5 mN,h.get? C=some (excClassObj nm qn C N bs bm hdct sn sub ab col dd k0 k1 k2 k3 k5 newId)/\h.Ns N mN/\mN "__init__"=none/\OwnTail h bmB bm:=by
 unfold PySem.W.excIn at q;split at q
 ·rename_i dd cd sl ho
  split at q
  ·rename_i C' bm k0 k1 k2 k3 n k5 hm hs
   simp only[YL5,beq_iff_eq,Bool.not_eq_true']at q;obtain⟨⟨⟨⟨⟨rfl,rfl⟩,hdel⟩,ht⟩,hok⟩,hni⟩:=q;obtain⟨nm,bs,mro,ns,qn,hd,sn,sub,ab,col,del⟩:=cd;dsimp only at hm hdel hok hni;subst hm hdel;have hsl:sl=#[k0,k1,k2,k3,some (.builtin n),k5]:=by
    obtain⟨l⟩:=sl;simp only at hs;rw[hs]
   subst hsl;exact⟨bm,ns,nm,qn,bs,hd,sn,sub,ab,col,dd,k0,k1,k2,k3,k5,_,X _ _ ho,.of_isNs (PySem.W.isNs_of_in X hok),PySem.W.nsMap_none_of_in X hok hni,PySem.W.tail_of_in X ht⟩
  ·cases q
 ·cases q
section
variable {X:Cx}{E:XK}{x:Str}{C:Addr}{e:Expr}{t:TA}{np bH pos:Pos}
def tRaise (C:Addr) (E:XK) (t:TA):TS:=λ_ σ H=>t σ H λvs H1=>vs.length<=sizeLine/\E (.ref C) none H1
theorem YAv (S:Sink X E) (hq:Exc X.K C) (hc:X.calm=true) (hg:Gl X x) (hm:X.mg x=some (.ref C)) (ha:PA X [e] t) (hd:(x == ("__debug__":Str))=false:=by decide)
  (he:starEach [e] X.env=(false,eval e X.env) :: starEach [] X.env:=by rfl) (kZ:(backTo bH (starEach [] X.env)).any (·.1)=false:=by rfl):
  PS X (.Raise (some (.Call (.Name x np) [e] [] bH)) none pos) (tRaise C E t):=by
 intro pins s σ H D I h;obtain⟨tl,N,nm,q,bs,hdct,sn,sub,ab,col,dd,k0,k1,k2,k3,k5,mN,hC,hN,hni,T⟩:=exc_obj I.mod.kin hq;refine wpAny_Raise_call_subT (C:=C) (nm:=nm) (q:=q) (N:=N) (bs:=bs) (bm:=tl) (hdct:=hdct) (sn:=sn) (sub:=sub) (ab:=ab) (col:=col) (dd:=dd) (k0:=k0) (k1:=k1) (k2:=k2) (k3:=k3) (k5:=k5)
  PySem.F.excBase_ValueError (mN:=mN) (T.hasType PySem.F.excBase_ValueError.hasBase) (I.ok.hd hc) (by rw[he];show(false || (backTo bH (starEach [] X.env)).any (·.1))=false;rw[kZ];rfl) hni (YDH I hg hm ⟨Z,?_⟩ hd)
 have hA:=ha bH pins s σ H _ I h;rw[he]at hA ⊢;refine Calls.evalArgs_plain (thn hA λus s2 ⟨vs,H2,I2,r,hz,hE⟩=>⟨Z,by rw[<-r.length];exact hz,I2.bk _ _ hC,hN.keeps I2.bk,T.keeps I2.bk,λh' e zK=>?_⟩);exact S.made pins σ H2 s2 e _ _ h' I2 zK hE
end
end L2
namespace L2
open PySem PySem.Spec PyProof.Rows
def XP (X:Cx) (pins:List (Addr×Obj)) (σ:St) (E:XK) (ev:Value) (s':Shared):Prop:=∃(e:Addr) (cls:Value) (H':Hp) (B:Heap) (a0:Value),ev=.ref e/\Inv X pins σ H' s'/\Heap.FlyingW B X.stack e cls a0 s'.heap/\H' e=none/\
 (∀b u,H' b=some u->∃o,B.get? b=some o)/\(∀b o,X.s₀.heap.get? b=some o->b∉frs X.stack->b∉X.ex->∃o',B.get? b=some o')/\(∀p∈X.pn ++ pins,∃o',B.get? p.1=some o')/\E cls none H'
section
variable {X:Cx}{pins:List (Addr×Obj)}{σ:St}{H:Hp}{s s':Shared}{E:XK}
end
section
variable {X:Cx}{k:Nat}{f:Addr}{fd:FuncData}{ps:List Str}{sp:Sp}{jP:List V}{ds:List Value}{x:Str}{p pos:Pos}{e:Expr}{es:List Expr}{t:TA}
variable {te:St->Hp->VK->XK->Prop}
end
section
variable {X:Cx}{pins:List (Addr×Obj)}{σ:St}{H:Hp}{s:Shared}
end
end L2
namespace L2
open PySem PySem.Spec PyProof.Rows
def Its (x:Str):It:=⟨λi _=>i < x.cps.size,λi H v H'=>H'=H/\∃c,x.cps[i]?=some c/\v=.str ⟨#[c]⟩,λi _=>i=x.cps.size⟩
abbrev YH3:List String:=["enumerate","zip","dict_itemiterator","dict_reverseitemiterator","odict_iterator","itertools.zip_longest","itertools.pairwise"]
theorem YGZ {P:Program}{w:World}{K:W.Frag}{tg:Expr}{ty:String}{x:Str}{t:Tok} (it:Addr)
  (W:∀A:Around,A.handled=none->Walks P w A it [it] [it] x.cps.size (SignAt x) (λi h=>h.IsStrIter it ty x t i))
  (hn:YH3.contains ty=false)
  (hself:∀(A:Around) (i:Nat) (s:Shared) (Q:Value->Shared->Prop) (E:Value->Shared->Prop),s.heap.IsStrIter it ty x t i->Q (.ref it) s->wpAny (model P w) A (pyIter (.ref it)) Q E s):
  YEP P w K tg (Its x) [it] it (λi h=>h.IsStrIter it ty x t i) where
 mem:=by simp
 obj:=λi h st b hb=>by
  have eb:b=it:=by simpa using hb
  subst eb;obtain⟨o,eo,_,d⟩:=st;exact⟨o,eo,λv z=>by rw[d]at z;cases z⟩
 keep:=λi h h' st k=>by
  obtain⟨o,eo,r⟩:=st;exact⟨o,k it (by simp) o eo,r⟩
 item:=by
  intro X hP hw hK hc i pins s σ H E I hf st hg;subst hP hw hK;obtain⟨f0,f1,f2,f3,f4,f5⟩:=hf it (by simp);refine(W X.A (I.ok.hd hc)).item i s _ _ hg st λv h' tk hv st' kk=>?_
  obtain⟨c,u,WP,rfl⟩:=hv;have I1:Inv X pins σ H { s with heap:=h',toks:=tk }:=I.turned (λb o hb eo=>kk b o (by simpa using hb) eo) f0 f1 f3 f4 f5;obtain⟨o,eo,c',d⟩:=id st';exact⟨_,Z,YGM (s:={ s with heap:=h',toks:=tk }) eo c' d hn ⟨.str ⟨#[c]⟩,H,I1,⟨u,Z⟩,⟨Z,c,WP,Z⟩,st',λb hb=>(hf b hb).1⟩⟩
 done:=by
  intro X hP hw hK hc i pins s σ H E I hf st hg;subst hP hw hK;obtain⟨f0,f1,f2,f3,f4,f5⟩:=hf it (by simp);have ei:i=x.cps.size:=hg;subst ei;exact(W X.A (I.ok.hd hc)).done s _ _ st λh' tk kk=>⟨Z,I.turned (λb o hb eo=>kk b o (by simpa using hb) eo) f0 f1 f3 f4 f5⟩
 self:=λA i s Q E st h=>hself A i s Q E st h
section
variable {X:Cx}{tg:Expr}
def iStr (tl:TE):TI:=λσ H R=>tl σ H λv H1=>∃x,v=.str x/\R (Its x) H1
theorem YH4 {l:Expr}{tl:TE} (hl:PE X l tl):PI X tg l (iStr tl):=by
 intro pins s σ H R I h;refine thn (hl pins s σ H _ I h) λv s1 ⟨y,H1,I1,r1,q1⟩=>?_
 obtain⟨x,rfl,q⟩:=q1;obtain⟨t,rfl⟩:=r1;have fp:∀b∈[s1.heap.objs.size],YAs X pins H1 b:=λb hb=>by
  have eb:b=s1.heap.objs.size:=by simpa using hb
  subst eb;exact I1.fpOk (YLr _) (I1.hok.fresh (YLr _))
 cases ha:x.cps.all (· < 128)
 ·refine wpAny_pyIter_wide ha ?_;exact⟨s1.heap.objs.size,[s1.heap.objs.size],_,_,H1,Z,I1.kept (t':=s1.toks) λb o eo=>YL0 _ eo,
   YGZ (ty:="str_iterator") (t:=t) _ (λA hA=>Walks.strWide hA _ x t) (by decide) (λ_ _ _ _ _ st hq=>wpAny_pyIter_striter_wide st hq),⟨_,YMF _ rfl,Z,Z⟩,fp,q⟩
 ·refine wpAny_pyIter_ascii ha ?_;exact⟨s1.heap.objs.size,[s1.heap.objs.size],_,_,H1,Z,I1.kept (t':=s1.toks) λb o eo=>YL0 _ eo,
   YGZ (ty:="str_ascii_iterator") (t:=t) _ (λA hA=>Walks.strAscii hA _ x t) (by decide) (λ_ _ _ _ _ st hq=>wpAny_pyIter_striter_ascii st hq),⟨_,YMF _ rfl,Z,Z⟩,fp,q⟩
end
abbrev ZN (X:Cx) (N:List Str) (scope:Scope) (cl:List (Str×Addr)) (C:Addr) (s₀:Shared) (H₀:Hp) (ex:List Addr) (pn:List (Addr×Obj)):Cx:=
 { X with N:=N,s₀:=s₀,H₀:=H₀,env:=compEnvC scope cl C X.env,outer:=X.stack,stack:=X.stack,ex:=ex,fn:=λ_=>false,pn:=pn,xe:=λ_ _=>False }
def PTs (X:Cx) (ifs:List Expr) (t:TT):Prop:=
 ∀(pins:List (Addr×Obj)) (s:Shared) (σ:St) (H:Hp) (Q:Bool->Hp->Prop),Inv X pins σ H s->t σ H Q->
  wpAny (model X.prog X.w) X.A (forIn ifs true λc r=>if r=true then do let ok <-isTrue c X.env (eval c X.env);pure (ForInStep.yield ok) else pure (ForInStep.yield r)) (TP X pins σ Q) X.xe s
def tYes:TT:=λ_ H Q=>Q true H
theorem Zh {X:Cx}:PTs X [] tYes:=λ_ _ _ H _ I h=>wpAny_tests_nil ⟨H,I,h⟩
theorem YFn {X:Cx}{c:Expr}{t:TT} (h:PT X c t):PTs X [c] t:=λpins s σ H Q I hw=>wpAny_tests_one (h pins s σ H Q I hw)
def YDd (ρ:List (Option Nat)) (σ:St):St:=ρ.map λo=>o.bind λj=>(σ[j]?).bind id
def YAw (J:It) (g:TG) (tc:TT) (te:TE) (Q:VK) (l:Addr) (τ:St) (H1:Hp):Prop:=
 ∃W:Nat->Nat->List V->St->Hp->Prop,(∃m,W 0 m [] τ (upd H1 l (.lst [])))/\∀i m ys τ H2,W i m ys τ H2->
  (J.stop i H2/\Q (.ref l) H2)\/(J.go i H2/\∀x H3,J.yld i H2 x H3->g x τ H3 λτ4 H4=>tc τ4 H4 λb H5=>
   if b=true then te τ4 H5 λy H6=>H6 l=some (.lst ys)/\ys.length < sizeLine/\∃m',m' < m/\W (i + 1) m' (ys ++ [y]) τ4 (upd H6 l (.lst (ys ++ [y])))
   else ∃m',m' < m/\W (i + 1) m' ys τ4 H5)
def tComp (ρ:List (Option Nat)) (wi:TI) (g:TG) (tc:TT) (te:TE):TE:=λσ H Q=>wi σ H λJ H1=>∀l,H1 l=none->YAw J g tc te Q l (YDd ρ σ) H1
theorem YEy {prog:Program}{w:World}{A:Around}{R:Result->Shared->Prop}{s:Shared}{elt target iter:Expr}{ifs:List Expr}{scope:Scope}{pos:Pos}{it acc:Value}{env:Env} (Iv:Nat->Shared->Prop)
  (turn:∀n s,Iv n s->wpAny (model prog w) A (pyNext it) (λr s1=>match r with
   |none=>R (.ok .next) s1
   |some v=>wpAny (model prog w) A (letOwnedTupleGo target it v) (λ_ Rv=>wpAny (model prog w) A (assign target env v) (λ_ s2=>
     wpAny (model prog w) A (forIn ifs true λc r=>if r=true then do let ok <-isTrue c env (eval c env);pure (ForInStep.yield ok) else pure (ForInStep.yield r)) (λok s3=>
      if ok=true then wpAny (model prog w) A (eval elt env) (λx s4=>
       wpAny (model prog w) A (call (.builtin "list.append") [acc,x]) (λ_ s5=>∃m,m < n/\Iv m s5) (λ_ _=>False) s4) (λ_ _=>False) s3
      else ∃m,m < n/\Iv m s3) (λ_ _=>False) s2) (λ_ _=>False) Rv) (λ_ _=>False) s1) (λ_ _=>False) s)
  (n:Nat) (h:Iv n s):codeAny (model prog w) A (.compLoop (.ListComp elt [⟨target,iter,ifs,0⟩] scope pos) 0 it acc env) R s:=by
 refine codeAny_loop rfl Iv (λn s hI=>?_) n h;show wpAny _ A ((compTurn (.ListComp elt [⟨target,iter,ifs,0⟩] scope pos) 0 it acc env).onRaise (λx=>do noteFrame x env;theTreesLotGoes x)) _ _ s;refine wpAny_noted ?_;rw[compTurn_list];have no:∀{P:Value->Shared->Prop} (e:Value) (s':Shared),False->P e s':=λ_ _ z=>z.elim
 refine YLx (wpAny_standAt (YLx (wpAny_mono (turn n s hI) (λr s1 h1=>?_) no)));cases r with
 |none=>exact YMJ h1
 |some v=>
  refine YLx (wpAny_mono h1 (λ_ Rv h1'=>?_) no);refine YLx (wpAny_mono h1' (λ_ s2 h2=>YLx (wpAny_mono h2 (λok s3 h3=>?_) no)) no);cases ok with
  |false=>exact YMJ ⟨Z,h3⟩
  |true=>exact YLx (YLx (wpAny_mono h3 (λx s4 h4=>YLx (wpAny_mono h4 (λ_ s5 h5=>YMJ (YMJ ⟨Z,h5⟩)) no)) no))
section
variable {X:Cx}{elt tg iter:Expr}{ifs:List Expr}{scope:Scope}{cl:List (Str×Addr)}{N:List Str}{ρ:List (Option Nat)}{pos:Pos}{wi:TI}{g:TG}{tc:TT}{te:TE}
structure Yj (X:Cx) (N:List Str) (ρ:List (Option Nat)) (scope:Scope) (cl:List (Str×Addr)):Prop where
 clos:closureFor scope X.env=pure cl
 nocell:∀y∈scope.names,y.2≠.cell
 kind:scope.kind=.function
 loc:∀y∈scope.names,y.2=.local->scope.names.lookup y.1=some .local
 sub:∀x c,cl.lookup x=some c->X.env.cells.lookup x=some c
 has:∀x,((relabel scope X.env).names.lookup x=some .cell\/(relabel scope X.env).names.lookup x=some .free)->∃c,cl.lookup x=some c
 len:ρ.length=N.length
 from_:∀(i j:Nat) (x:Str),N[i]?=some x->ρ[i]?=some (some j)->X.N[j]?=some x/\(X.env.kindOf x=some .cell\/X.env.kindOf x=some .free)/\((relabel scope X.env).names.lookup x=some .cell\/(relabel scope X.env).names.lookup x=some .free)
theorem YKr {ρ:List (Option Nat)}{σ:St}{i:Nat}{v:V} (h:(YDd ρ σ)[i]?=some (some v)):∃j,ρ[i]?=some (some j)/\σ[j]?=some (some v):=by
 unfold YDd at h;rw[YLt]at h;cases e:ρ[i]? with
 |none=>rw[e]at h;cases h
 |some o=>
  rw[e]at h;cases o with
  |none=>cases h
  |some j=>
   refine⟨j,Z,?_⟩;simp only[YNg,Option.bind_some,Option.some.injEq]at h;cases e2:σ[j]? with
   |none=>rw[e2]at h;cases h
   |some w=>
    rw[e2]at h;have h':w=some v:=h;rw[h']
theorem YGa {pins:List (Addr×Obj)}{σ:St}{H:Hp}{s s':Shared}{fp:List Addr}{h₁:Heap} (S:Yj X N ρ scope cl) (I:Inv X pins σ H s) (hf:∀b∈fp,YAs X pins H b)
  (hlt:∀b∈fp,b < s.heap.objs.size) (hns:h₁.Ns s.heap.objs.size (λ_=>none)) (zL:∀b o,s.heap.get? b=some o->h₁.get? b=some o) (es:s'={ s with heap:=h₁ }):
  Inv (ZN X N scope cl s.heap.objs.size s H fp (X.pn ++ pins)) [] (YDd ρ σ) H s':=by
 subst es;have notStk:∀b,b≠X.env.locals->b∉X.fs->b∉frs X.stack:=λb h1 h2 hb=>by
  rcases YMA.mp (I.stkSub b hb) with z |z
  ·exact h1 z
  ·exact h2 z
 have hC:X.env.locals≠s.heap.objs.size:=YMS I.lt;refine⟨⟨I.ok.mod,S.kind,I.ok.glob,I.ok.blt,YLr _,λx y c h1 h2=>I.ok.inj x y c (S.sub x c h1) (S.sub y c h2),λx hx=>S.has x hx,λx c hx _=>absurd (show false=true from hx) YL7,I.ok.hd,I.ok.frames,.inl rfl,
  λb hb=>⟨YMS (hlt b hb),λx c h1=>(hf b hb).2.2.2.2.1 x c (S.sub x c h1)⟩,I.bs,YMP I.ok.bsz I.sz,λb o eo hb=>?_,λb hb=>notStk b (hf b hb).2.1 (hf b hb).2.2.1,I.stack,I.stkFree⟩,
  rfl,I.bare,Un.kept zL,⟨_,hns,λi x v h1 h2 h3=>?_⟩,λx c h1=>?_,I.hok.fresh (YLr _),λx c h1=>I.freeC x c (S.sub x c h1),λp hp=>?_,I.hok.kept zL,?_⟩
 ·rcases(hf b hb).2.2.2.1 with z |z
  ·exact I.ok.noex b o eo z
  ·exact absurd (YL4 (I.ok.bs b o eo).1) (Nat.not_lt.mpr z)
 ·obtain⟨j,hj,hv⟩:=YKr h2;obtain⟨n1,n2,n3⟩:=S.from_ i j x h1 hj;obtain⟨m,hn,hl⟩:=I.loc;have vis:Vis X.env.scope x:=n2.elim (λz=>.inr (.inl z)) λz=>.inr (.inr z)
  obtain⟨u,ru,lk⟩:=hl j x v n1 hv vis;refine⟨u,ru,.inr ⟨n3,?_⟩⟩;rcases lk with ⟨hk,_⟩ |⟨_,c,hc,cU⟩
  ·rcases n2 with z |z
   ·rw[z]at hk;cases hk
   ·rw[z]at hk;cases hk
  ·obtain⟨c',hc'⟩:=S.has x n3;have ec:=S.sub x c' hc';rw[hc]at ec;cases ec;obtain⟨o,ho,hd⟩:=cU;exact⟨c,hc',o,zL c o ho,hd⟩
 ·obtain⟨v,o,ho,hd⟩:=I.cell x c (S.sub x c h1);exact⟨v,o,zL c o ho,hd⟩
 ·have hp':p∈X.pn ++ pins:=by simpa using hp
  obtain⟨p1,p2,p3,p4,p5⟩:=I.pin p hp';exact⟨zL _ _ p1,p2,YMS (YL4 p1),notStk _ p3 p4,p5⟩
 ·show(YDd ρ σ).length=N.length;unfold YDd;rw[YLp];exact S.len
theorem Z3 (hc:X.calm=true) (S:Yj X N ρ scope cl) (hi:PI X tg iter wi)
  (hg:∀C s₀ H₀ ex pn,PG (ZN X N scope cl C s₀ H₀ ex pn) tg g) (ht:∀C s₀ H₀ ex pn,PTs (ZN X N scope cl C s₀ H₀ ex pn) ifs tc) (he:∀C s₀ H₀ ex pn,PE (ZN X N scope cl C s₀ H₀ ex pn) elt te)
  (hs:∀x,foldedSetIterable iter X.env x=pure x:=by intro _;rfl):PE X (.ListComp elt [⟨tg,iter,ifs,0⟩] scope pos) (tComp ρ wi g tc te):=by
 intro pins s σ H Q I h;rw[eval_ListComp];refine wpAny_comprehension_free (use:=none) rfl hs S.clos S.kind S.loc (thn (hi pins s σ H _ I h) λv s1 h1=>thn h1 λitv s2 h2=>?_);obtain⟨it,fp,tn,J,H2,e,I2,T,jO,f2,q2⟩:=h2;subst e;obtain⟨W,⟨m0,w0⟩,turn⟩:=q2 _ (I2.hok.fresh (YLr _));refine wpAny_newObj_type (wpAny_newFunctionEnv S.nocell (by intro y hy;simp at hy) (λh₁ hns₁ hsb₁=>?_) S.kind);dsimp only at hns₁ hsb₁ ⊢;have I3:Inv X pins σ (upd H2 s2.heap.objs.size (.lst [])) { s2 with heap:=s2.heap.push { cls:=.type "list",dict:=none,data:=.seq ([]:List Value).toArray } }:=
  I2.laid (t':=s2.toks) (λb u eo=>YL0 _ eo) (YLr _) ⟨by simp,[],0,.nil,YMF _ rfl⟩
 generalize zM:({ s2 with heap:=s2.heap.push { cls:=.type "list",dict:=none,data:=.seq ([]:List Value).toArray } }:Shared)=s3 at I3;have yh:s2.heap.push { cls:=.type "list",dict:=none,data:=.seq ([]:List Value).toArray }=s3.heap:=by rw[<-zM]
 rw[yh]at hns₁ hsb₁ ⊢;have f3:∀b∈fp,YAs X pins (upd H2 s2.heap.objs.size (.lst [])) b:=λb hb=>by
  obtain⟨o,eo,_⟩:=T.obj _ _ jO b hb;exact⟨by rw[YJ (YMS (YL4 eo))];exact(f2 b hb).1,(f2 b hb).2⟩
 have zN:∀b∈fp,b < s3.heap.objs.size:=λb hb=>by
  obtain⟨o,eo,_⟩:=T.obj _ _ jO b hb;rw[<-yh,YNS];exact Nat.lt_succ_of_lt (YL4 eo)
 have old:∀b o,s3.heap.get? b=some o->h₁.get? b=some o:=λb o eo=>hsb₁.extBut b o (YMS (YL4 eo)) (YL0 _ eo)
 have Ic:Inv (ZN X N scope cl s3.heap.objs.size s3 (upd H2 s2.heap.objs.size (.lst [])) fp (X.pn ++ pins)) [] (YDd ρ σ) (upd H2 s2.heap.objs.size (.lst [])) { s2 with heap:=h₁,toks:=s2.toks + ([]:List (Str×Value)).length }:=
  YGa S I3 f3 zN hns₁ old (by rw[<-zM] <;> rfl)
 have kJ:∀{pl:List (Addr×Obj)}{H':Hp},pl=[]->(∀b∈fp,H' b=none)->∀b∈fp,YAs (ZN X N scope cl s3.heap.objs.size s3 (upd H2 s2.heap.objs.size (.lst [])) fp (X.pn ++ pins)) pl H' b:=λ{pl H'} epl hn b hb=>by
  subst epl;refine⟨hn b hb,YMS (zN b hb),λz=>?_,.inl hb,λx c h1=>(f2 b hb).2.2.2.2.1 x c (S.sub x c h1),λp hp=>(f2 b hb).2.2.2.2.2 p (by simpa using hp)⟩;rcases YMA.mp (I3.stkSub b z) with z |z
  ·exact(f2 b hb).2.1 z
  ·exact(f2 b hb).2.2.1 z
 have rY:tn 0 h₁:=T.keep _ _ _ jO λb hb o eo=>old b o (by rw[<-yh];exact YL0 _ eo)
 have loop:codeAny (model X.prog X.w) X.A (.compLoop (.ListComp elt [⟨tg,iter,ifs,0⟩] scope pos) 0 (.ref it) (.ref s2.heap.objs.size) (compEnvC scope cl s3.heap.objs.size X.env))
   (compPost (model X.prog X.w) X.A X.xe none (EP X pins σ Q) (.ref s2.heap.objs.size) s3.heap.objs.size) { s2 with heap:=h₁,toks:=s2.toks + ([]:List (Str×Value)).length }:=by
  refine YEy (λn s'=>∃i ys τ H',Inv (ZN X N scope cl s3.heap.objs.size s3 (upd H2 s2.heap.objs.size (.lst [])) fp (X.pn ++ pins)) [] τ H' s'/\tn i s'.heap/\(∀b∈fp,H' b=none)/\W i n ys τ H') ?_ m0
   ⟨0,[],_,_,Ic,rY,λb hb=>(f3 b hb).1,w0⟩
  rintro n s4 ⟨i,ys,τ,H4,I4,st,zO,w4⟩;rcases turn i n ys τ H4 w4 with ⟨stop,qn⟩ |⟨go,step⟩
  ·refine thn (T.done (ZN X N scope cl s3.heap.objs.size s3 (upd H2 s2.heap.objs.size (.lst [])) fp (X.pn ++ pins)) rfl rfl rfl hc i [] s4 τ H4 _ I4 (kJ rfl zO) st stop) λr s5 ⟨hr,I5⟩=>?_
   subst hr;obtain⟨m5,WQ,_⟩:=I5.loc;refine⟨m5,WQ,λh' hs'=>?_⟩;have ne:∀b,b < s3.heap.objs.size->b≠s3.heap.objs.size:=λb hb=>YMS hb
   have uf:∀b o,b≠s3.heap.objs.size->s5.heap.get? b=some o->h'.get? b=some o:=λb o hb eo=>(hs'.2 b hb).trans eo
   have un:Un (frs X.stack) fp (upd H2 s2.heap.objs.size (.lst [])) H4 s3.heap h':=
    ⟨λb o eo n1 n2 n3=>uf b o (ne b (YL4 eo)) (I5.base.keep b o eo n1 n2 n3),λb o eo n1 n2 n3=>let ⟨sl,z⟩:=I5.base.slot b o eo n1 n2 n3;⟨sl,uf b _ (ne b (YL4 eo)) z⟩,
     I5.base.free,λb o eo n1=>let ⟨o',z⟩:=I5.base.there b o eo n1;⟨o',uf b _ (ne b (YL4 eo)) z⟩,I5.base.tups,I5.base.frzs,I5.base.tbls⟩
   have hok:HOk X.prog X.w H4 h':=λa o ea=>(I5.hok a o ea).stay (λb u hb eo=>uf b u (λz=>by
    have fr:H4 s3.heap.objs.size=none:=I5.free;rcases hb with rfl |hb
    ·rw[z,fr]at ea;cases ea
    ·rw[z,fr]at hb;cases hb) eo) (λ_ z=>z) λ_ _ z=>z
   have I6:Inv X pins σ H4 { s5 with heap:=h' }:=I3.call' (s':={ s5 with heap:=h' }) (ch:=fp) (show s5.os=s3.os from I5.os) un hok I5.bare λb hb=>(f3 b hb).2.2.2
     |> λz=>⟨(f3 b hb).2.2.2.1,(f3 b hb).2.1,(f3 b hb).2.2.2.2.1,(f3 b hb).2.2.2.2.2⟩
   exact⟨.ref s2.heap.objs.size,H4,I6,Z,qn⟩
  ·refine thn (T.item (ZN X N scope cl s3.heap.objs.size s3 (upd H2 s2.heap.objs.size (.lst [])) fp (X.pn ++ pins)) rfl rfl rfl hc i [] s4 τ H4 _ I4 (kJ rfl zO) st go) λr s5 ⟨u,hr,h5⟩=>?_
   subst hr;refine thn h5 ?_;rintro _ s6 ⟨x,H6,I6,r6,y6,mZ,WR⟩;have I6':=I6.pinned (kJ rfl WR) (T.obj _ _ mZ);have again:∀{s9:Shared}{τ9:St}{H9:Hp}{zs:List V}{m':Nat},Inv (ZN X N scope cl s3.heap.objs.size s3 (upd H2 s2.heap.objs.size (.lst [])) fp (X.pn ++ pins)) ([] ++ YCT fp s6.heap) τ9 H9 s9->m' < n->W (i + 1) m' zs τ9 H9->
     ∃m,m < n/\∃i ys τ H',Inv (ZN X N scope cl s3.heap.objs.size s3 (upd H2 s2.heap.objs.size (.lst [])) fp (X.pn ++ pins)) [] τ H' s9/\tn i s9.heap/\(∀b∈fp,H' b=none)/\W i m ys τ H':=λ{s9 τ9 H9 zs m'} I9 hm w9=>by
    refine⟨m',hm,i + 1,zs,τ9,H9,I9.unpinned,T.keep _ _ _ mZ λb hb o eo=>(I9.pin (b,o) (YMB _ (YMB _ (JU hb eo)))).1,λb hb=>?_,w9⟩;obtain⟨o,eo,d⟩:=T.obj _ _ mZ b hb;exact(I9.pin (b,o) (YMB _ (YMB _ (JU hb eo)))).2.1
   refine thn (hg _ _ _ _ _ _ s6 τ H6 x u _ I6' r6 (step x H6 y6)) λ_ s7 ⟨τ7,H7,I7,q7⟩=>?_
   refine thn (ht _ _ _ _ _ _ s7 τ7 H7 _ I7 q7) λok s8 ⟨H8,I8,q8⟩=>?_
   cases ok with
   |false=>
    rw[if_neg YL7]at q8 ⊢;obtain⟨m',hm,w9⟩:=q8;exact again I8 hm w9
   |true=>
    rw[if_pos rfl]at q8 ⊢;refine thn (he _ _ _ _ _ _ s8 τ7 H8 _ I8 q8) ?_;rintro y s9 ⟨z,H9,I9,r9,WT,WW,m',hm,w9⟩;refine thn (Y0 _ s9 τ7 H9 (.ref s2.heap.objs.size) [z] (.ref s2.heap.objs.size) [y] (λ_ H'=>H'=upd H9 s2.heap.objs.size (.lst (ys ++ [z]))) I9 rfl (.cons r9 .nil) ⟨_,ys,z,Z,Z,WT,WW,Z⟩) λ_ Qm ⟨_,H10,I10,_,e10⟩=>?_
    subst e10;exact again I10 hm w9
 exact codeAny_compStart_list loop (T.self _ 0 _ _ _ rY loop)
end
end L2
namespace L2
open PySem PySem.Spec PyProof.Rows
theorem Yj.plain {X:Cx}{N:List Str}{ρ:List (Option Nat)}{scope:Scope} (hk:scope.kind=.function) (hn:∀y∈scope.names,y.2≠.cell/\y.2≠.free)
  (hl:∀y∈scope.names,y.2=.local->scope.names.lookup y.1=some .local) (hlen:ρ.length=N.length) (hρ:∀o∈ρ,o=none):Yj X N ρ scope []:=by
 have V4:(relabel scope X.env).names=scope.names:=by
  unfold relabel;refine map_eq_self λy hy=>?_
  obtain⟨n,k⟩:=y;have hf:(k == NameKind.free)=false:=by
   have:=(hn _ hy).2;cases k <;> first |rfl |exact absurd rfl this
  show(if (k == NameKind.free && X.env.scope.kind == .function && X.env.kindOf n == some .cell)=true then (n,NameKind.cell) else (n,k))=(n,k);rw[hf];rfl
 refine⟨closureFor_none λy hy=>(hn y hy).2,λy hy=>(hn y hy).1,hk,hl,λx c h=>(by cases h),λx h=>?_,hlen,λi j x _ h=>?_⟩
 ·rw[V4]at h;rcases h with h |h
  ·exact absurd rfl (hn _ (PySem.mem_of_lookup h)).1
  ·exact absurd rfl (hn _ (PySem.mem_of_lookup h)).2
 ·have:=hρ _ (YLu h);cases this
theorem YGb {x:Str}{te:TE}{Q:VK}{H:Hp}{l:Addr}{τ:St} (f:Nat->V) (hl:H l=none) (hτ:0 < τ.length) (hz:x.cps.size<=sizeLine)
  (ht:∀(τ':St) (c:Nat) (H':Hp) (R:VK),τ'[0]?=some (some (.str ⟨#[c]⟩))->c∈x.cps.toList->R (f c) H'->te τ' H' R) (hq:Q (.ref l) (upd H l (.lst (x.cps.toList.map f)))):
  YAw (Its x) (ZK 0) tYes te Q l τ H:=by
 refine⟨λi m ys τ' H2=>m=x.cps.size - i/\i<=x.cps.size/\ys=(x.cps.toList.take i).map f/\0 < τ'.length/\H2=upd H l (.lst ys),⟨x.cps.size,by simp,YMI _,by simp,hτ,Z⟩,?_⟩;rintro i m ys τ' H2 ⟨rfl,hi,rfl,hτ',rfl⟩
 by_cases hlt:i < x.cps.size
 ·refine .inr ⟨hlt,λv H3 hy=>?_⟩;obtain⟨eH,c,hc,rfl⟩:=hy;subst eH;have hc':x.cps.toList[i]?=some c:=by simpa using hc
  show te _ _ _;refine ht _ c _ _ ?_ (YLu hc') ?_
  ·rw[YNM hτ']
  ·have vW:(x.cps.toList.take (i + 1)).map f=(x.cps.toList.take i).map f ++ [f c]:=by
    rw[YMb,hc',YL2];rfl
   refine⟨YD,?_,x.cps.size - (i + 1),by lia,Z,hlt,vW.symm,by rw[YNK];exact hτ',by rw[YDG]⟩;rw[YLp,YMp];have:x.cps.toList.length=x.cps.size:=by simp
   lia
 ·have ei:i=x.cps.size:=by lia
  subst ei;refine .inl ⟨Z,?_⟩;have:x.cps.toList.take x.cps.size=x.cps.toList:=by
   apply YM6;simp
  rw[this];exact hq
end L2
namespace L2
open PySem PySem.Spec PyProof.Rows
def YAI (cs:List (Str×Addr)):List (Str×NameKind)->List (Str×Addr)->List (Str×Addr)
 |[],acc=>acc
 |y :: r,acc=>YAI cs r (if y.2 == .free then (y.1,(cs.lookup y.1).getD 0) :: acc else acc)
theorem YEz (cs:List (Str×Addr)):∀(names:List (Str×NameKind)) (acc:List (Str×Addr)),(∀p∈acc,p.2=(cs.lookup p.1).getD 0)->∀p∈YAI cs names acc,p.2=(cs.lookup p.1).getD 0
 |[],acc,h=>h
 |y :: r,acc,h=>by
  unfold YAI;refine YEz cs r _ ?_;split
  ·intro p hp;rcases YMA.mp hp with rfl |hp
   ·rfl
   ·exact h p hp
  ·exact h
theorem YE0 (cs:List (Str×Addr)):∀(names:List (Str×NameKind)) (acc:List (Str×Addr)),∀p∈YAI cs names acc,p∈acc\/∃y∈names,y.1=p.1/\y.2=.free
 |[],acc,p,hp=>.inl hp
 |y :: r,acc,p,hp=>by
  unfold YAI at hp;rcases YE0 cs r _ p hp with h |⟨z,hz,h⟩
  ·split at h
   ·rename_i hy
    rcases YMA.mp h with rfl |h
    ·refine .inr ⟨y,YMG,Z,?_⟩;cases hk:y.2 <;> rw[hk]at hy <;> first |rfl |cases hy
    ·exact .inl h
   ·exact .inl h
  ·exact .inr ⟨z,YL6 _ hz,h⟩
theorem YE1 (cs:List (Str×Addr)):∀(names:List (Str×NameKind)) (acc:List (Str×Addr)),∀p∈acc,p∈YAI cs names acc
 |[],acc,p,hp=>hp
 |y :: r,acc,p,hp=>by
  unfold YAI;refine YE1 cs r _ p ?_;split
  ·exact YL6 _ hp
  ·exact hp
theorem YE2 (cs:List (Str×Addr)):∀(names:List (Str×NameKind)) (acc:List (Str×Addr)),∀y∈names,y.2=.free->(y.1,(cs.lookup y.1).getD 0)∈YAI cs names acc
 |[],acc,y,hy,_=>absurd hy (by simp)
 |z :: r,acc,y,hy,hf=>by
  unfold YAI;rcases YMA.mp hy with rfl |hy
  ·refine YE1 cs r _ _ ?_;rw[if_pos (by rw[hf];rfl)];exact YMG
  ·exact YE2 cs r _ y hy hf
theorem YBe:∀{l:List (Str×Addr)}{x:Str}{c:Addr},(x,c)∈l->∃d,l.lookup x=some d
 |[],_,_,h=>absurd h (by simp)
 |(n,k) :: r,x,c,h=>by
  rw[List.lookup_cons];cases hx:x == n with
  |true=>exact⟨k,Z⟩
  |false=>
   rcases YMA.mp h with e |h
   ·cases e;simp at hx
   ·exact YBe h
theorem YET {scope:Scope}{env:Env} (h:∀y∈scope.names,y.2=.free->∃c,env.cells.lookup y.1=some c):closureFor scope env=pure (YAI env.cells scope.names []):=by
 have go:∀(names:List (Str×NameKind)) (acc:List (Str×Addr)),(∀y∈names,y.2=.free->∃c,env.cells.lookup y.1=some c)->
   (forIn (m:=Sem) names acc (λx r=>if (x.2 == NameKind.free)=true then do let c <-cellOf env x.1;pure (ForInStep.yield ((x.1,c) :: r)) else pure (ForInStep.yield r)))=pure (YAI env.cells names acc):=by
  intro names
  induction names with
  |nil=>intro acc _;rfl
  |cons y r ih=>
   intro acc hy;rw[List.forIn_cons];unfold YAI
   by_cases hf:(y.2 == NameKind.free)=true
   ·have hf':y.2=.free:=by cases hk:y.2 <;> rw[hk]at hf <;> first |rfl |cases hf
    obtain⟨c,hc⟩:=hy y YMG hf';have e:cellOf env y.1=pure c:=by unfold cellOf;rw[hc]
    rw[if_pos hf,if_pos hf,e,pure_bind,pure_bind,hc];exact ih _ λz hz=>hy z (YL6 _ hz)
   ·rw[if_neg hf,if_neg hf,pure_bind];exact ih _ λz hz=>hy z (YL6 _ hz)
 have h2:=go scope.names [] h;simp only[closureFor];refine Eq.trans (YMw (· >>= _) ?_) (by rw[pure_bind]);exact h2
theorem YB4 (g:Str->NameKind->NameKind):∀(l:List (Str×NameKind)) (x:Str),(l.map λy=>(y.1,g y.1 y.2)).lookup x=(l.lookup x).map (g x)
 |[],_=>rfl
 |(n,k) :: r,x=>by
  rw[YMQ,List.lookup_cons,List.lookup_cons];cases hx:x == n with
  |true=>
   have e:x=n:=by simpa using hx
   subst e;rfl
  |false=>exact YB4 g r x
theorem YAx (scope:Scope) (env:Env) (x:Str):(relabel scope env).names.lookup x=(scope.names.lookup x).map λk=>if (k == NameKind.free && env.scope.kind == .function && env.kindOf x == some .cell)=true then .cell else k:=by
 rw[<-YB4 (λn k=>if (k == NameKind.free && env.scope.kind == .function && env.kindOf n == some .cell)=true then .cell else k)];unfold relabel;congr 1;refine YM0 λy _=>?_
 obtain⟨n,k⟩:=y;show(if (k == NameKind.free && env.scope.kind == .function && env.kindOf n == some .cell)=true then (n,NameKind.cell) else (n,k))=_;dsimp only;split <;> rfl
def YKs (N:List Str) (ρ:List (Option Nat)) (XN:List Str) (dn sn:List (Str×NameKind)):Bool:=
 (N.zip ρ).all λp=>match p.2 with
  |none=>true
  |some j=>decide (XN[j]?=some p.1) && decide (dn.lookup p.1=some .cell) && decide (sn.lookup p.1=some .free)
theorem Yj.closes {X:Cx}{N:List Str}{ρ:List (Option Nat)}{scope:Scope} (XN:List Str) (dn:List (Str×NameKind)) (hXN:X.N=XN) (V5:X.env.scope.names=dn) (hk:scope.kind=.function) (hX:X.env.scope.kind=.function) (hn:∀y∈scope.names,y.2≠.cell)
  (hfree:∀y∈scope.names,y.2=.free->dn.lookup y.1=some .cell) (cU:∀x,X.env.scope.names.lookup x=some .cell->∃c,X.env.cells.lookup x=some c) (hl:∀y∈scope.names,y.2=.local->scope.names.lookup y.1=some .local) (hlen:ρ.length=N.length)
  (sX:YKs N ρ XN dn scope.names=true):Yj X N ρ scope (YAI X.env.cells scope.names []):=by
 subst hXN V5;have kd:∀x,X.env.kindOf x=X.env.scope.names.lookup x:=λ_=>rfl
 refine⟨YET λy hy hf=>cU _ (hfree y hy hf),hn,hk,hl,λx c h=>?_,λx h=>?_,hlen,λi j x h1 h2=>?_⟩
 ·have hm:=PySem.mem_of_lookup h;have hv:=YEz X.env.cells scope.names [] (λp hp=>absurd hp (by simp)) _ hm;rcases YE0 X.env.cells scope.names [] _ hm with z |⟨y,hy,e1,e2⟩
  ·exact absurd z (by simp)
  ·obtain⟨d,hd⟩:=cU _ (hfree y hy e2);have e1':y.1=x:=e1;rw[e1']at hd;have hv':c=(X.env.cells.lookup x).getD 0:=hv;rw[hd]at hv';rw[hd,hv'];rfl
 ·rw[YAx]at h;have hfr:scope.names.lookup x=some .free:=by
   cases e:scope.names.lookup x with
   |none=>rw[e]at h;rcases h with h |h <;> cases h
   |some k=>
    rw[e]at h;cases k with
    |free=>rfl
    |cell=>exact absurd rfl (hn _ (PySem.mem_of_lookup e))
    |_=>rcases h with h |h <;> cases h
  exact YBe (YE2 X.env.cells scope.names [] _ (PySem.mem_of_lookup hfr) rfl)
 ·unfold YKs at sX;rw[YMR]at sX;have hm:(x,some j)∈N.zip ρ:=by
   refine YLu (i:=i) ?_;rw[List.getElem?_zip_eq_some];exact⟨h1,h2⟩
  have h3:=sX _ hm;simp only[YL5,YMa]at h3;obtain⟨⟨a1,a2⟩,a3⟩:=h3;refine⟨a1,.inl (by rw[kd];exact a2),.inl ?_⟩;rw[YAx,a3,kd,a2,hX];rfl
end L2
namespace L2
open PySem PySem.Spec PyProof.Rows
section
variable {X:Cx}
theorem vals_bl:∀{bs:List Bool}{us:List Value}{i:Nat}{v:Value},Ym (bs.map V.bl) us->us[i]?=some v->∃b,bs[i]?=some b/\v=.bool b:=by
 intro bs us i v r e;cases e2:(bs.map V.bl)[i]? with
 |none=>
  have:=r.none_of e2;rw[this]at e;cases e
 |some x=>
  obtain⟨u,hu,ru⟩:=r.get e2;rw[hu]at e;cases e;rw[YLt]at e2;cases e3:bs[i]? with
  |none=>rw[e3]at e2;cases e2
  |some b=>
   rw[e3]at e2;have e4:V.bl b=x:=YMO e2;subst e4;exact⟨b,Z,ru⟩
theorem YEU (bs:List Bool):((List.range bs.length).all λi=>(bs[i]?).getD true)=bs.all id:=by
 rw[YNC,YMR,YMR];constructor
 ·intro h b hb;obtain⟨i,hi,rfl⟩:=YNE.mp hb;have:=h i (YMy.mpr hi);rw[YLs hi]at this;exact this
 ·intro h i hi;have hi':=YMy.mp hi;rw[YLs hi'];exact h _ (List.getElem_mem hi')
theorem YKt (hc:X.calm=true):J7 X (.builtin "all") (λxs H Q=>∃(p:Addr) (bs:List Bool),xs=[.ref p]/\SqL X.K H p (bs.map V.bl)/\Q (.bl (bs.all id)) H):=by
 intro pins s σ H xs us Q I r h;obtain⟨p,bs,rfl,hq,q⟩:=h;obtain⟨u,rfl,rx⟩:=Xj r;cases rx;obtain⟨its,rv,pl,hz⟩:=I.list hq;have hl:=pl.isList;have hlt:p < s.heap.objs.size:=by obtain⟨_,e,_⟩:=hl;exact YL4 e
 have hlen:bs.length=its.length:=by have:=rv.length;rwa [YLp]at this
 refine call_all_walk (wpAny_pyIter_list hl ?_);refine⟨s.heap.objs.size,[s.heap.objs.size,p],[s.heap.objs.size],its.toArray.size,_,_,λi=>(bs[i]?).getD true,Z,Walks.list (A:=X.A.in1) (I.ok.hd hc) _ p (YMS hlt) its.toArray,
  ⟨⟨_,YMF _ rfl,Z,Z⟩,hl.push _⟩,λi v s' Q' E' hP hQ=>?_,λh' tk hk=>?_⟩
 ·obtain⟨b,eb,rfl⟩:=vals_bl rv (i:=i) (v:=v) (by simpa using hP);simp only[eb,Option.getD_some]at hQ;exact wpAny_truthy_bool hQ
 ·have e:((List.range its.toArray.size).all λi=>(bs[i]?).getD true)=bs.all id:=by
   rw[YL3,<-hlen];exact YEU bs
  rw[e];exact⟨.bl _,H,I.kept (t':=tk) λb o eb=>hk b o (λz=>by rw[YL1.mp z]at eb;exact YMm _ (YL4 eb)) (YL0 _ eb),Z,q⟩
theorem YFo:SlR X (λx lo hi H Q=>∃z,x=.str z/\z.length<=sizeLine/\Q (.str (Txt.slice z lo hi)) H):=by
 intro pins s σ H x v vl vu lo hi sl Q I rx hs pl pu h;obtain⟨z,rfl,hz,q⟩:=h;obtain⟨t,rfl⟩:=rx;refine⟨"str",_,F.slot_str_getitem.lookup,typeIs_str _ _ _,?_⟩;have fin:∀(t':Tok) (k:Nat),EP X pins σ Q (.str (Txt.slice z lo hi) t') { s with toks:=k }:=λt' k=>⟨.str _,H,I.tok _,⟨_,Z⟩,q⟩
 obtain⟨o,ho,hc,hd⟩:=hs;cases pl with
 |none=>
  cases pu with
  |none=>exact wpAny_getItem_str_slice (l:=none) (u:=none) (st:=none) ⟨o,ho,hc,hd⟩ rfl (post_val_or_str ⟨YMP (Txt.slice_le z _ _) hz,fin⟩)
  |int j uj=>exact wpAny_getItem_str_slice (l:=none) (u:=some (j,uj)) (st:=none) ⟨o,ho,hc,hd⟩ rfl (post_val_or_str ⟨YMP (Txt.slice_le z _ _) hz,fin⟩)
 |int i ui=>
  cases pu with
  |none=>exact wpAny_getItem_str_slice (l:=some (i,ui)) (u:=none) (st:=none) ⟨o,ho,hc,hd⟩ rfl (post_val_or_str ⟨YMP (Txt.slice_le z _ _) hz,fin⟩)
  |int j uj=>exact wpAny_getItem_str_slice (l:=some (i,ui)) (u:=some (j,uj)) (st:=none) ⟨o,ho,hc,hd⟩ rfl (post_val_or_str ⟨YMP (Txt.slice_le z _ _) hz,fin⟩)
theorem YE3:OpR X (compareOp .LtE) (λx y H Q=>∃i j,x=.str i/\y=.str j/\Q (.bl (!decide (j.cps.toList < i.cps.toList))) H):=by
 intro pins s σ H x y v u Q I rx ry h;obtain⟨i,j,rfl,rfl,q⟩:=h;obtain⟨t,rfl⟩:=rx;obtain⟨t',rfl⟩:=ry;exact PySem.P.le_str (Yy I q rfl)
def clsV:V->Option Value
 |.ty n=>some (.type n)
 |.ref a=>some (.ref a)
 |_=>none
theorem YKu {c:V}{u w:Value} (h:clsV c=some u) (r:Ys c w):w=u:=by
 cases c with
 |ty n=>cases h;exact r
 |ref a=>cases h;exact r
 |_=>cases h
theorem YKv:J7 X (.builtin "isinstance") (λxs H Q=>∃x c t u b,xs=[x,c]/\YBg X.K H x t/\clsV c=some u/\PySem.W.kitOne X.K t u=some b/\Q (.bl b) H):=by
 intro pins s σ H xs us Q I r h;obtain⟨x,c,t,u,b,rfl,ty,rc,e,q⟩:=h;obtain⟨v,w,rfl,rv,rW⟩:=YEm r;have eu:w=u:=YKu rc rW;subst eu;exact YJb I rv ty e λtk=>⟨.bl b,H,I.tok tk,Z,q⟩
end
def YBi:HO->Bool
 |.dT _=>false
 |.frz _ (.dT _)=>true
 |.frz _ u=>YBi u
 |_=>true
theorem Y3.less {P:Program}{w:World}{H H':Hp}{h h':Heap}{a:Addr}{o:HO} (hp:YBi o=true) (x:Y3 P w H' h' a o) (y:Y3 P w H h a o):Y3 P w H h' a o:=by
 induction o with
 |dT kvs=>cases hp
 |ins C dx fs=>exact⟨y.1,x.2⟩
 |frz ob u ih=>
  cases u with
  |dT kvs=>
   obtain⟨z1,z2,xs,z3,o,es,ep,z4,z5⟩:=y.2;have e:o=ob:=by
    have:=y.1;rw[z4]at this;exact YMO this
   subst e;exact⟨x.1,z1,z2,xs,z3,o,es,ep,x.1,z5⟩
  |_=>exact⟨x.1,ih hp x.2 y.2⟩
 |lst xs=>exact x
 |tup xs=>exact x
 |dK kvs=>exact x
 |set S n=>exact x
 |own z=>exact x
 |xd fs=>exact x
 |rng lo hi=>exact x
 |tbl ps=>exact x
 |met f z=>exact x
 |ext φ=>exact x
section
variable {X:Cx}{pins:List (Addr×Obj)}{σ:St}{H H':Hp}{s s':Shared}
theorem Inv.less (hp:∀a o,H a=some o->YBi o=true) (I:Inv X pins σ H s) (I':Inv X pins σ H' s') (sm:YN H H'):Inv X pins σ H s':=
 ⟨I.ok,I'.os,I'.bare,⟨I'.base.keep,I'.base.slot,I.base.free,I'.base.there,I.base.tups,I.base.frzs,I.base.tbls⟩,I'.loc,I'.cell,I.free,I.freeC,λp hpp=>⟨(I'.pin p hpp).1,(I.pin p hpp).2⟩,
  λa o ea=>(I'.hok a o (sm a o ea)).less (hp a o ea) (I.hok a o ea),I.len⟩
def YR (H:Hp):Prop:=∀a o,H a=some o->YBi o=true
theorem YR.upd {H:Hp}{a:Addr}{o:HO} (h:YR H) (ho:YBi o=true):YR (upd H a o):=λb u e=>by
 by_cases hb:b=a
 ·subst hb;rw[YD]at e;cases e;exact ho
 ·rw[YJ hb]at e;exact h b u e
inductive YKw (t:TE) (σ:St) (H:Hp) (Q:VK):Prop where
 |mk (a_:YR H) (bc:t σ H λv H'=>YN H H'/\Q v H):YKw t σ H Q
def tPure (t:TE):TE:=λσ H Q=>YKw t σ H Q
theorem YB5 {e:Expr}{t:TE} (h:PE X e t):PE X e (tPure t):=by
 intro pins s σ H Q I ⟨hp,hw⟩;exact thn (h pins s σ H _ I hw) λv s1 ⟨x,H1,I1,r1,sm,q⟩=>⟨x,H,I.less hp I1 sm,r1,q⟩
end
end L2
namespace L2
open PySem PySem.Spec PyProof.Rows
section
variable {prog:Program}{w:World}{A:Around}{E:Value->Shared->Prop}{s:Shared}{K:W.Frag}{e C:Addr}
end
section
variable {X:Cx}
end
end L2
namespace L2
open PySem PySem.Spec PyProof.Rows
section
variable {X:Cx} (K:W.Frag) (hK:X.K=K)
include hK
theorem YT:IxR X (rIxL K):=by subst hK;exact ix_list
theorem YS:IxR X (rIxT K):=by subst hK;exact ix_tup
theorem J9:SlR X (rSlL K):=by subst hK;exact sl_list
theorem YL:J7 X (.builtin "len") (λxs H Q=>∃p ys,xs=[.ref p]/\(SqL K H p ys\/SqT K H p ys)/\Q (.int ys.length) H):=by subst hK;exact YFj
theorem X9:J7 X (.type "list") (λxs H Q=>∃p ys,xs=[.ref p]/\(SqL K H p ys\/SqT K H p ys)/\∀l,H l=none->Q (.ref l) (upd H l (.lst ys))):=by subst hK;exact YFk
theorem YAy:J7 X (.type "tuple") (λxs H Q=>∃p ys,xs=[.ref p]/\((SqL K H p ys/\∀l,H l=none->Q (.ref l) (upd H l (.tup ys)))\/(SqT K H p ys/\Q (.ref p) H))):=by subst hK;exact YES
theorem YAJ (hc:X.calm=true):J7 X (.builtin "all") (λxs H Q=>∃(p:Addr) (bs:List Bool),xs=[.ref p]/\SqL K H p (bs.map V.bl)/\Q (.bl (bs.all id)) H):=by subst hK;exact YKt hc
theorem JE:J7 X (.builtin "isinstance") (λxs H Q=>∃x c t u b,xs=[x,c]/\YBg K H x t/\clsV c=some u/\PySem.W.kitOne K t u=some b/\Q (.bl b) H):=by subst hK;exact YKv
theorem Z7 {tg l:Expr}{tl:TE} (hl:PE X l tl):PI X tg l (iList K tl):=by subst hK;exact pi_list hl
theorem X2 {tg l:Expr}{tl:TE} (hl:PE X l tl):PI X tg l (iTup K tl):=by subst hK;exact pi_tup hl
theorem YE4 {a:Expr}{ta:TE} (ha:PE X a ta) (he:∀whole,isTrue a X.env whole=(do let v <-whole;standAt a.pos;holding [v] (truthy v))):
  PT X a (λσ H Q=>ta σ H λx H'=>∃k,TruV K x H' k/\Q k H'):=by subst hK;exact YKV ha he
theorem XS {es:List Expr}{k:Nat}{t:TGs}{n:Nat}{pos:Pos} (hc:X.calm=true) (h:PGs X es t)
  (hn:(assignEach es X.env).length=n:=by rfl) (hst:(assignEach es X.env).findIdx? (·.1)=none:=by rfl):PG X (.Tuple es k pos) (gTup K n t):=by subst hK;exact pg_tup hc h hn hst
variable {o e:Expr}{es:List Expr}{to:TE}{t:TA}{name:Str}{cC bH:Pos}{T id:String}{r:V->List V->Hp->VK->Prop}
theorem YDK (pa:PlainAttrs T) (slot:Slot T name id) (yd:typeOf (.builtin id)=pure (.type "method_descriptor")) (hm:MtR X id r) (ho:PE X o to)
  (kW:attributeBase o name X.env (eval o X.env)=eval o X.env:=by rfl) (kY:(cC.endLine == bH.line)=true:=by rfl):PE X (.Call (.Attribute o name cC) [] [] bH) (tBM0 K T r to):=by
 subst hK;exact pe_bm0 pa slot yd hm ho kW kY
theorem ZO (pa:PlainAttrs T) (slot:Slot T name id) (yd:typeOf (.builtin id)=pure (.type "method_descriptor")) (hm:MtR X id r) (ho:PE X o to) (ha:PA X (e :: es) t)
  (kW:attributeBase o name X.env (eval o X.env)=eval o X.env:=by rfl)
  (ye:((backTo bH (starEach (e :: es) X.env)).all (λx=>!x.1) && (backToKw bH (keywordEach [] X.env)).all (λx=>x.1.isSome)
   && decide ((e :: es).length + ([]:List Keyword).length + (if ([]:List Keyword).isEmpty then 0 else 1) < 30))=true:=by rfl)
  (kY:(cC.endLine == bH.line)=true:=by rfl) (hs:starEach (e :: es) X.env=(false,eval e X.env) :: starEach es X.env:=by rfl) (kZ:(backTo bH (starEach es X.env)).any (·.1)=false:=by rfl):
  PE X (.Call (.Attribute o name cC) (e :: es) [] bH) (tBM K T r to t):=by
 subst hK;exact pe_bm pa slot yd hm ho ha kW ye kY hs kZ
end
end L2
namespace L2
open PySem PySem.Spec PyProof.Rows
section
variable {P:Program}{w:World}{K:W.Frag}{mg:Str->Option Value}{base:Heap}
theorem Fun.okX {x qual:Str}{st:Stmt}{f:Addr}{fd:FuncData}{N ps:List Str}{k:Nat}{sp:Sp} (F:Fun K x qual st f fd) (S:YX N ps (YQ st)) (len:∀vs H Q E,sp vs H Q E->vs.length=ps.length)
  (hbody:∀(aO:Value) (A:Around) (outer:List Env) (s:Shared) (H:Hp) (vs:List V) (Q:VK) (E:XK),J8 k (A.deeper (envOfC qual (YQ st) s.heap.objs.size f aO))->sp vs H Q E->
   ∃t,PSs (YCW (CXo P w) P w K mg base N qual (YQ st) f aO A outer s H E) (JD st) t/\t { nx:=λ_ H'=>Q .non H',rt:=Q } (start N vs) H):Yt P w K mg base (CXo P w) (k + 1) f fd ps sp:=by
 obtain⟨oc,od,kV,doc,pm,an,aO,ct,osl,rfl,lk,hcd⟩:=F.ex;exact fn_of lk hcd S len λA outer s H vs Q E hr hsp=>hbody aO A outer s H vs Q E hr hsp
end
structure Zc (P:Program) (w:World) (K:W.Frag) (mg:Str->Option Value) (CX:CXT) (k:Nat) (x:Str) (ps:List Str) (sp:Sp):Prop where
 ok:∃f fd,(∀base,Yt P w K mg base CX k f fd ps sp)/\mg x=some (.ref f)/\PySem.W.keepIn K (.ref f)=true/\YAj K fd ps []
theorem passX {X:Cx}:YAV (CXo X.prog X.w) X E0:=λ_ _ _ _ _ _ _ ⟨_,_,_,_,_,h⟩=>h.elim
theorem YN.upd {H:Hp}{p:Addr}{o:HO} (h:H p=none):YN H (upd H p o):=λb u e=>by rw[YJ (Ya e h)];exact e
theorem YN.put {H H':Hp}{p:Addr}{o:HO} (s:YN H H') (h:H p=none):YN H (L2.upd H' p o):=λb u e=>by rw[YJ (Ya e h)];exact s b u e
def del (H:Hp) (l:Addr):Hp:=λb=>if b=l then none else H b
theorem Z2 {H:Hp}{l b:Addr} (h:b≠l):del H l b=H b:=if_neg h
theorem YDe {H:Hp}{l:Addr}:del H l l=none:=if_pos rfl
theorem ZD (H:Hp) (l:Addr):YN (del H l) H:=λb o e=>by
 unfold del at e;split at e
 ·cases e
 ·exact e
theorem YN.del {H H':Hp} (s:YN H H') (l:Addr):YN (L2.del H l) (L2.del H' l):=λb o e=>by
 unfold L2.del at e ⊢;split at e
 ·cases e
 ·rw[if_neg (by assumption)];exact s b o e
theorem XT {H:Hp}{l:Addr}{o:HO}:L2.del (L2.upd H l o) l=L2.del H l:=by
 funext b;unfold L2.del L2.upd;split <;> rfl
theorem YIk {J:It}{g:TG}{tc:TT}{te:TE}{Q:VK}{l:Addr}{τ:St}{H1:Hp} (n:Nat) (W:Nat->List V->St->Hp->Prop) (h0:W 0 [] τ (upd H1 l (.lst [])))
  (hgo:∀i ys τ H (N:List V->St->Hp->Prop),i < n->W i ys τ H->(∀ys τ H,W (i + 1) ys τ H->N ys τ H)->J.go i H/\∀x H3,J.yld i H x H3->g x τ H3 λτ4 H4=>tc τ4 H4 λb H5=>
   if b=true then te τ4 H5 λy H6=>H6 l=some (.lst ys)/\ys.length < sizeLine/\N (ys ++ [y]) τ4 (upd H6 l (.lst (ys ++ [y]))) else N ys τ4 H5)
  (hst:∀ys τ H,W n ys τ H->J.stop n H/\Q (.ref l) H):YAw J g tc te Q l τ H1:=by
 refine⟨λi m ys τ H=>m=n - i/\i<=n/\W i ys τ H,⟨n,by simp,YMI _,h0⟩,?_⟩;rintro i m ys τ H ⟨rfl,hi,w⟩
 by_cases hlt:i < n
 ·exact .inr (hgo i ys τ H (λys τ H=>∃m',m' < n - i/\m'=n - (i + 1)/\i + 1<=n/\W (i + 1) ys τ H) hlt w λys τ H h=>⟨n - (i + 1),by lia,Z,hlt,h⟩)
 ·have ei:i=n:=by lia
  subst ei;exact .inl (hst ys τ H w)
def YAz (J:It) (n:Nat) (H:Hp) (item:Nat->V->Prop):Prop:=∀i H',YN H H'->(i < n->J.go i H'/\∀x H3,J.yld i H' x H3->H3=H'/\item i x)/\J.stop n H'
theorem Xl {K:W.Frag}{a:Addr}{xs:List V}{H:Hp} (h:SqL K H a xs):YAz (Itl K a) xs.length H λi x=>xs[i]?=some x:=λi H' s=>by
 have h':=s.seq h;exact⟨λhi=>⟨⟨xs,xs[i],h',by simp[hi]⟩,λx H3 y=>⟨y.1,y.2 xs h'⟩⟩,⟨xs,h',YLr _⟩⟩
theorem YN.seqT {K:W.Frag}{H H':Hp}{a:Addr}{xs:List V} (e:YN H H') (h:SqT K H a xs):SqT K H' a xs:=by
 rcases h with (h |⟨o,h⟩) |h
 ·exact .inl (.inl (e _ _ h))
 ·exact .inl (.inr ⟨o,e _ _ h⟩)
 ·exact .inr h
theorem YBO {K:W.Frag}{a:Addr}{xs:List V}{H:Hp} (h:SqT K H a xs):YAz (Itt K a) xs.length H λi x=>xs[i]?=some x:=λi H' s=>by
 have h':=s.seqT h;exact⟨λhi=>⟨⟨xs,xs[i],h',by simp[hi]⟩,λx H3 y=>⟨y.1,y.2 xs h'⟩⟩,⟨xs,h',YLr _⟩⟩
theorem Je {lo:Int}{n:Nat}{H:Hp}:YAz (Itr lo n) n H λi x=>x=.int (lo + i):=λi H' s=>
 ⟨λhi=>⟨hi,λx H3 y=>y⟩,YLr _⟩
theorem YJi {z:Str}{H:Hp}:YAz (Its z) z.cps.size H λi x=>∃c,z.cps[i]?=some c/\x=.str ⟨#[c]⟩:=λi H' s=>
 ⟨λhi=>⟨hi,λx H3 y=>y⟩,Z⟩
theorem Zf {J:It}{n:Nat}{item:Nat->V->Prop}{te:TE}{Q:VK}{H:Hp}{l:Addr}{τ:St} (j0:Nat) (Py:Nat->V->Hp->Prop) (hJ:YAz J n H item) (mono:∀k y H H',YN H H'->Py k y H->Py k y H') (hp:YR H)
  (hl:H l=none) (hτ:j0 < τ.length) (hz:n<=sizeLine) (keep:St->Prop) (hk0:keep τ) (hks:∀τ' v,keep τ'->keep (τ'.set j0 v))
  (ht:∀(τ':St) (k:Nat) (x:V) (H':Hp) (R:VK),keep τ'->τ'[j0]?=some (some x)->item k x->k < n->YN H H'->YR H'->H' l≠none->(∀y H6,YN H' H6->YR H6->Py k y (del H6 l)->R y H6)->te τ' H' R)
  (hq:∀ys H',ys.length=n->(∀k y,ys[k]?=some y->Py k y (del H' l))->YN H H'->YR H'->H' l=some (.lst ys)->Q (.ref l) H'):YAw J (ZK j0) tYes te Q l τ H:=by
 refine⟨λi m ys τ' H2=>m=n - i/\i<=n/\ys.length=i/\(∀k y,ys[k]?=some y->Py k y (del H2 l))/\j0 < τ'.length/\keep τ'/\YN H H2/\YR H2/\H2 l=some (.lst ys),
  ⟨n,by simp,YMI _,Z,λk y e=>by simp at e,hτ,hk0,YN.upd hl,hp.upd rfl,YD⟩,?_⟩
 rintro i m ys τ' H2 ⟨rfl,hi,hy,hP,hτ',hk',hs,hpl,hll⟩;obtain⟨hgo,hst⟩:=hJ i H2 hs
 by_cases hlt:i < n
 ·obtain⟨h1,h2⟩:=hgo hlt;refine .inr ⟨h1,λx H3 V6=>?_⟩;obtain⟨eH,hit⟩:=h2 x H3 V6;subst eH;show te _ _ _;refine ht _ i x _ _ (hks _ _ hk') ?_ hit hlt hs hpl (by rw[hll];intro z;cases z) λy H6 s6 p6 py=>?_
  ·rw[YNM hτ']
  ·have yJ:H6 l=some (.lst ys):=s6 _ _ hll;refine⟨yJ,by lia,n - (i + 1),by lia,Z,hlt,by simp[hy],λk z e=>?_,by rw[YNK];exact hτ',hks _ _ hk',(hs.trans s6).put hl,p6.upd rfl,YD⟩;rw[XT]
   by_cases hkl:k < ys.length
   ·rw[YMs hkl]at e;exact mono k z _ _ (s6.del l) (hP k z e)
   ·rw[YMd (by lia)]at e;have hk0:k - ys.length=0:=by
     cases hh:k - ys.length with
     |zero=>rfl
     |succ j=>rw[hh]at e;simp at e
    rw[hk0]at e;have e2:y=z:=by simpa using e
    have e3:k=i:=by lia
    subst e2 e3;exact py
 ·have ei:i=n:=by lia
  subst ei;exact .inl ⟨hst,hq ys H2 hy hP hs hpl hll⟩
end L2
namespace L2
open PySem PySem.Spec PyProof.Rows
inductive D where
 |non |bl (b:Bool) |int (i:Int) |str (x:Str) |lst (xs:List D) |tup (xs:List D) |oth
mutual
def eqD:D->D->Bool
 |.non,.non=>true
 |.bl a,.bl b=>a == b
 |.bl a,.int b=>(if a then (1:Int) else 0) == b
 |.int a,.bl b=>a == (if b then (1:Int) else 0)
 |.int a,.int b=>a == b
 |.str a,.str b=>a == b
 |.lst xs,.lst ys=>YBY xs ys
 |.tup xs,.tup ys=>YBY xs ys
 |_,_=>false
def YBY:List D->List D->Bool
 |[],[]=>true
 |x :: xs,y :: ys=>eqD x y && YBY xs ys
 |_,_=>false
end
mutual
def D.dep:D->Nat
 |.lst xs=>YFp xs + 1
 |.tup xs=>YFp xs + 1
 |_=>0
def YFp:List D->Nat
 |[]=>0
 |x :: xs=>max x.dep (YFp xs)
end
mutual
def Den (H:Hp):V->D->Prop
 |v,.non=>v=.non
 |v,.bl b=>v=.bl b
 |v,.int i=>v=.int i
 |v,.str x=>v=.str x
 |v,.lst ds=>∃a xs,v=.ref a/\Rd H a (.lst xs)/\Yh H xs ds
 |v,.tup ds=>∃a xs,v=.ref a/\H a=some (.tup xs)/\Yh H xs ds
 |v,.oth=>∃a kvs,v=.ref a/\H a=some (.dK kvs)
def Yh (H:Hp):List V->List D->Prop
 |[],[]=>True
 |v :: vs,d :: ds=>Den H v d/\Yh H vs ds
 |_,_=>False
end
mutual
def D.ok:D->Bool
 |.lst xs=>okS xs
 |.tup xs=>okS xs
 |.oth=>false
 |_=>true
def okS:List D->Bool
 |[]=>true
 |x :: xs=>x.ok && okS xs
end
theorem YB6:∀{xs:List D}{d:D},okS xs=true->d∈xs->d.ok=true
 |x :: xs,d,h,hd=>by
  unfold okS at h;rw[YL5]at h;rcases YMA.mp hd with rfl |hd
  ·exact h.1
  ·exact YB6 h.2 hd
theorem YKx:∀{xs:List D},(∀d∈xs,d.ok=true)->okS xs=true
 |[],_=>by unfold okS;rfl
 |x :: xs,h=>by unfold okS;rw[h x YMG,YKx λd hd=>h d (YL6 _ hd)];rfl
theorem YFq:∀{xs:List D}{d:D},d∈xs->d.dep<=YFp xs
 |x :: xs,d,h=>by
  unfold YFp;rcases YMA.mp h with rfl |h
  ·exact Nat.le_max_left _ _
  ·exact YMP (YFq h) (Nat.le_max_right _ _)
mutual
theorem YDf:∀d:D,d.ok=true->eqD d d=true
 |.non,_=>by unfold eqD;rfl
 |.bl b,_=>by unfold eqD;exact beq_self_eq_true b
 |.int i,_=>by unfold eqD;exact beq_self_eq_true i
 |.str x,_=>by unfold eqD;exact beq_self_eq_true x
 |.lst xs,h=>by unfold eqD;unfold D.ok at h;exact YCY xs h
 |.tup xs,h=>by unfold eqD;unfold D.ok at h;exact YCY xs h
 |.oth,h=>by unfold D.ok at h;cases h
theorem YCY:∀ds:List D,okS ds=true->YBY ds ds=true
 |[],_=>by unfold YBY;rfl
 |d :: ds,h=>by
  unfold okS at h;rw[YL5]at h;unfold YBY;rw[YDf d h.1,YCY ds h.2];rfl
end
theorem eqD_lst (xs ys:List D):eqD (.lst xs) (.lst ys)=YBY xs ys:=by unfold eqD;rfl
theorem YIl (xs ys:List D):eqD (.tup xs) (.tup ys)=YBY xs ys:=by unfold eqD;rfl
theorem YDg:∀{xs ys:List D},xs.length≠ys.length->YBY xs ys=false
 |[],[],h=>absurd rfl h
 |[],_ :: _,_=>by unfold YBY;rfl
 |_ :: _,[],_=>by unfold YBY;rfl
 |x :: xs,y :: ys,h=>by
  unfold YBY;rw[YDg (xs:=xs) (ys:=ys) λe=>h (by rw[YL8,YL8,e]),Bool.and_false]
theorem YDh:∀{xs ys:List D},xs.length=ys.length->YBY xs ys=(List.range xs.length).all λj=>eqD (xs.getD j .non) (ys.getD j .non)
 |[],[],_=>by unfold YBY;rfl
 |[],_ :: _,h=>by cases h
 |_ :: _,[],h=>by cases h
 |x :: xs,y :: ys,h=>by
  unfold YBY;rw[YDh (xs:=xs) (ys:=ys) (Nat.succ.inj h),YL8,List.range_succ_eq_map,YNO,List.all_map];rfl
section
variable {H H':Hp}
theorem Yh.len:∀{xs:List V}{ds:List D},Yh H xs ds->xs.length=ds.length
 |[],[],_=>rfl
 |[],_ :: _,h=>by unfold Yh at h;exact h.elim
 |_ :: _,[],h=>by unfold Yh at h;exact h.elim
 |v :: vs,d :: ds,h=>by
  unfold Yh at h;rw[YL8,YL8,Yh.len h.2]
theorem Yh.get:∀{xs:List V}{ds:List D}{i:Nat}{v:V},Yh H xs ds->xs[i]?=some v->∃d,ds[i]?=some d/\Den H v d
 |[],_,i,v,_,e=>by simp at e
 |_ :: _,[],_,_,h,_=>by unfold Yh at h;exact h.elim
 |x :: xs,d :: ds,0,v,h,e=>by
  unfold Yh at h;simp at e;subst e;exact⟨d,Z,h.1⟩
 |x :: xs,d :: ds,i + 1,v,h,e=>by
  unfold Yh at h;exact Yh.get (i:=i) h.2 (by simpa using e)
theorem Yh.nil:Yh H [] []:=by unfold Yh;trivial
theorem Yh.cons {v:V}{vs:List V}{d:D}{ds:List D} (h:Den H v d) (hs:Yh H vs ds):Yh H (v :: vs) (d :: ds):=by unfold Yh;exact⟨h,hs⟩
theorem Yh.append:∀{xs ys:List V}{ds es:List D},Yh H xs ds->Yh H ys es->Yh H (xs ++ ys) (ds ++ es)
 |[],_,[],_,_,h=>h
 |[],_,_ :: _,_,h,_=>by unfold Yh at h;exact h.elim
 |_ :: _,_,[],_,h,_=>by unfold Yh at h;exact h.elim
 |x :: xs,ys,d :: ds,es,h,h2=>by
  unfold Yh at h;exact .cons h.1 (Yh.append h.2 h2)
theorem Yh.of_all:∀{xs:List V}{ds:List D},xs.length=ds.length->(∀(i:Nat) (v:V) (d:D),xs[i]?=some v->ds[i]?=some d->Den H v d)->Yh H xs ds
 |[],[],_,_=>.nil
 |[],_ :: _,h,_=>by cases h
 |_ :: _,[],h,_=>by cases h
 |x :: xs,d :: ds,h,k=>.cons (k 0 x d rfl rfl) (Yh.of_all (Nat.succ.inj h) λi v e h1 h2=>k (i + 1) v e (by simpa using h1) (by simpa using h2))
theorem Den.lst {a:Addr}{xs:List V}{ds:List D} (h:Rd H a (.lst xs)) (hs:Yh H xs ds):Den H (.ref a) (.lst ds):=by unfold Den;exact⟨a,xs,Z,h,hs⟩
theorem Den.tup {a:Addr}{xs:List V}{ds:List D} (h:H a=some (.tup xs)) (hs:Yh H xs ds):Den H (.ref a) (.tup ds):=by unfold Den;exact⟨a,xs,Z,h,hs⟩
theorem Den.int (i:Int):Den H (.int i) (.int i):=by unfold Den;rfl
theorem Den.str (x:Str):Den H (.str x) (.str x):=by unfold Den;rfl
theorem Den.non:Den H .non .non:=by unfold Den;rfl
theorem Den.to_lst {v:V}{ds:List D} (h:Den H v (.lst ds)):∃a xs,v=.ref a/\Rd H a (.lst xs)/\Yh H xs ds:=by unfold Den at h;exact h
theorem Den.to_tup {v:V}{ds:List D} (h:Den H v (.tup ds)):∃a xs,v=.ref a/\H a=some (.tup xs)/\Yh H xs ds:=by unfold Den at h;exact h
theorem Den.to_int {v:V}{i:Int} (h:Den H v (.int i)):v=.int i:=by unfold Den at h;exact h
theorem Den.to_str {v:V}{i:Str} (h:Den H v (.str i)):v=.str i:=by unfold Den at h;exact h
theorem Yh.strs:∀(ns:List Str),Yh H (ns.map V.str) (ns.map D.str)
 |[]=>.nil
 |n :: ns=>.cons (.str n) (Yh.strs ns)
theorem YN.rd {a:Addr}{u:HO} (e:YN H H') (h:Rd H a u):Rd H' a u:=by
 rcases h with h |⟨o,h⟩
 ·exact .inl (e _ _ h)
 ·exact .inr ⟨o,e _ _ h⟩
theorem Rd.inj {a:Addr}{xs ys:List V} (h:Rd H a (.lst xs)) (h':Rd H a (.lst ys)):xs=ys:=by
 rcases h with h |⟨o,h⟩ <;> rcases h' with h' |⟨o',h'⟩ <;> rw[h]at h' <;> cases h' <;> rfl
mutual
theorem Den.same (e:YN H H'):∀{v:V}{d:D},Den H v d->Den H' v d
 |_,.non,h=>by unfold Den at h ⊢;exact h
 |_,.bl _,h=>by unfold Den at h ⊢;exact h
 |_,.int _,h=>by unfold Den at h ⊢;exact h
 |_,.str _,h=>by unfold Den at h ⊢;exact h
 |_,.lst ds,h=>by
  unfold Den at h ⊢;obtain⟨a,xs,e1,e2,e3⟩:=h;exact⟨a,xs,e1,e.rd e2,Yh.same e e3⟩
 |_,.tup ds,h=>by
  unfold Den at h ⊢;obtain⟨a,xs,e1,e2,e3⟩:=h;exact⟨a,xs,e1,e _ _ e2,Yh.same e e3⟩
 |_,.oth,h=>by
  unfold Den at h ⊢;obtain⟨a,kvs,e1,e2⟩:=h;exact⟨a,kvs,e1,e _ _ e2⟩
theorem Yh.same (e:YN H H'):∀{vs:List V}{ds:List D},Yh H vs ds->Yh H' vs ds
 |[],[],h=>.nil
 |[],_ :: _,h=>by unfold Yh at h;exact h.elim
 |_ :: _,[],h=>by unfold Yh at h;exact h.elim
 |v :: vs,d :: ds,h=>by
  unfold Yh at h;exact .cons (Den.same e h.1) (Yh.same e h.2)
end
end
section
variable {X:Cx}{pins:List (Addr×Obj)}{σ:St}{H:Hp}{s:Shared}
mutual
theorem Den.uniq:∀{v:V}{d d':D},Den H v d->Den H v d'->d=d'
 |v,.non,d',h,h'=>by
  unfold Den at h;subst h;cases d' with
  |non=>rfl
  |lst es=>unfold Den at h';obtain⟨_,_,z,_⟩:=h';cases z
  |tup es=>unfold Den at h';obtain⟨_,_,z,_⟩:=h';cases z
  |oth=>unfold Den at h';obtain⟨_,_,z,_⟩:=h';cases z
  |_=>unfold Den at h';cases h'
 |v,.bl b,d',h,h'=>by
  unfold Den at h;subst h;cases d' with
  |bl c=>unfold Den at h';cases h';rfl
  |lst es=>unfold Den at h';obtain⟨_,_,z,_⟩:=h';cases z
  |tup es=>unfold Den at h';obtain⟨_,_,z,_⟩:=h';cases z
  |oth=>unfold Den at h';obtain⟨_,_,z,_⟩:=h';cases z
  |_=>unfold Den at h';cases h'
 |v,.int b,d',h,h'=>by
  unfold Den at h;subst h;cases d' with
  |int c=>unfold Den at h';cases h';rfl
  |lst es=>unfold Den at h';obtain⟨_,_,z,_⟩:=h';cases z
  |tup es=>unfold Den at h';obtain⟨_,_,z,_⟩:=h';cases z
  |oth=>unfold Den at h';obtain⟨_,_,z,_⟩:=h';cases z
  |_=>unfold Den at h';cases h'
 |v,.str b,d',h,h'=>by
  unfold Den at h;subst h;cases d' with
  |str c=>unfold Den at h';cases h';rfl
  |lst es=>unfold Den at h';obtain⟨_,_,z,_⟩:=h';cases z
  |tup es=>unfold Den at h';obtain⟨_,_,z,_⟩:=h';cases z
  |oth=>unfold Den at h';obtain⟨_,_,z,_⟩:=h';cases z
  |_=>unfold Den at h';cases h'
 |v,.lst ds,d',h,h'=>by
  obtain⟨a,xs,rfl,e2,e3⟩:=h.to_lst;cases d' with
  |lst es=>
   obtain⟨b,ys,z,f2,f3⟩:=h'.to_lst;cases z;have:=e2.inj f2;subst this;rw[Yh.uniq e3 f3]
  |tup es=>
   obtain⟨b,ys,z,f2,f3⟩:=h'.to_tup;cases z;rcases e2 with e2 |⟨o,e2⟩ <;> rw[e2]at f2 <;> cases f2
  |oth=>
   unfold Den at h';obtain⟨b,ys,z,f2⟩:=h';cases z;rcases e2 with e2 |⟨o,e2⟩ <;> rw[e2]at f2 <;> cases f2
  |_=>unfold Den at h';cases h'
 |v,.tup ds,d',h,h'=>by
  obtain⟨a,xs,rfl,e2,e3⟩:=h.to_tup;cases d' with
  |tup es=>
   obtain⟨b,ys,z,f2,f3⟩:=h'.to_tup;cases z;rw[e2]at f2;cases f2;rw[Yh.uniq e3 f3]
  |lst es=>
   obtain⟨b,ys,z,f2,f3⟩:=h'.to_lst;cases z;rcases f2 with f2 |⟨o,f2⟩ <;> rw[e2]at f2 <;> cases f2
  |oth=>
   unfold Den at h';obtain⟨b,ys,z,f2⟩:=h';cases z;rw[e2]at f2;cases f2
  |_=>unfold Den at h';cases h'
 |v,.oth,d',h,h'=>by
  unfold Den at h;obtain⟨a,kvs,rfl,e2⟩:=h;cases d' with
  |oth=>rfl
  |lst es=>
   obtain⟨b,ys,z,f2,f3⟩:=h'.to_lst;cases z;rcases f2 with f2 |⟨o,f2⟩ <;> rw[e2]at f2 <;> cases f2
  |tup es=>
   obtain⟨b,ys,z,f2,f3⟩:=h'.to_tup;cases z;rw[e2]at f2;cases f2
  |_=>unfold Den at h';cases h'
theorem Yh.uniq:∀{vs:List V}{ds es:List D},Yh H vs ds->Yh H vs es->ds=es
 |[],[],[],_,_=>rfl
 |[],_ :: _,_,h,_=>by unfold Yh at h;exact h.elim
 |[],_,_ :: _,_,h=>by unfold Yh at h;exact h.elim
 |_ :: _,[],_,h,_=>by unfold Yh at h;exact h.elim
 |_ :: _,_,[],_,h=>by unfold Yh at h;exact h.elim
 |v :: vs,d :: ds,e :: es,h,h'=>by
  unfold Yh at h h';rw[Den.uniq h.1 h'.1,Yh.uniq h.2 h'.2]
end
def tyD:D->String
 |.non=>"NoneType"
 |.bl _=>"bool"
 |.int _=>"int"
 |.str _=>"str"
 |.lst _=>"list"
 |.tup _=>"tuple"
 |.oth=>"dict"
theorem Den.ty {K:W.Frag}:∀{v:V}{d:D},Den H v d->YBg K H v (.type (tyD d))
 |_,.non,h=>by unfold Den at h;subst h;exact .non
 |_,.bl b,h=>by unfold Den at h;subst h;exact .bl b
 |_,.int b,h=>by unfold Den at h;subst h;exact .int b
 |_,.str b,h=>by unfold Den at h;subst h;exact .str b
 |_,.lst ds,h=>by
  obtain⟨a,xs,rfl,e2 |⟨o,e2⟩,_⟩:=h.to_lst
  ·exact .lst e2
  ·exact .frz e2
 |_,.tup ds,h=>by
  obtain⟨a,xs,rfl,e2,_⟩:=h.to_tup;exact .tup e2
 |_,.oth,h=>by
  unfold Den at h;obtain⟨a,kvs,rfl,e2⟩:=h;exact .dK e2
theorem YIm {ds:List D}{i:Nat}{d:D} (h:ds[i]?=some d):ds.getD i .non=d:=by
 rw[List.getD_eq_getElem?_getD,h];rfl
structure Cmp (A:Around) (s:Shared) (x y:Value) (b:Bool):Prop where
 eq:SeqAt.EqAt A s x y b
 rc:SeqAt.RcAt A s x y b
 ne:SeqAt.RcNeAt A s x y (!b)
theorem YIn {A:Around}{xs ys:List V}{ds es:List D}{its dw:List Value} (h1:Yh H xs ds) (h2:Yh H ys es) (r1:Ym xs its) (r2:Ym ys dw)
  (ih:∀(d d':D) (v u:V) (x y:Value),d∈ds->d'∈es->Den H v d->Den H u d'->Ys v x->Ys u y->SeqAt.EqAt A s x y (eqD d d')):
  ∀j (q1:j < its.toArray.size) (q2:j < dw.toArray.size),SeqAt.EqAt A s its.toArray[j] dw.toArray[j] (eqD (ds.getD j .non) (es.getD j .non)):=by
 intro j q1 q2;have l1:=r1.length;have l2:=r2.length;have Rw:j < xs.length:=by rw[l1];simpa using q1
 have Rx:j < ys.length:=by rw[l2];simpa using q2
 obtain⟨d,hd,den⟩:=h1.get (i:=j) (YLs Rw);obtain⟨d',hd',WX⟩:=h2.get (i:=j) (YLs Rx);obtain⟨u,hu,ru⟩:=r1.get (YLs Rw);obtain⟨u',hu',zP⟩:=r2.get (YLs Rx);rw[YIm hd,YIm hd'];have e1:its.toArray[j]=u:=by
  have:its.toArray[j]?=some u:=by simpa using hu
  rw[Array.getElem?_eq_getElem q1]at this;exact YMO this
 have e2:dw.toArray[j]=u':=by
  have:dw.toArray[j]?=some u':=by simpa using hu'
  rw[Array.getElem?_eq_getElem q2]at this;exact YMO this
 rw[e1,e2];exact ih d d' _ _ _ _ (YLu hd) (YLu hd') den WX ru zP
theorem YA0 {A:Around}{a b:Addr}{d d':D}{k:Bool} (hk:k=eqD d d') (hok:d.ok=true) (h1:Den H (.ref a) d) (h2:Den H (.ref b) d') (rc:SeqAt.RcAt A s (.ref a) (.ref b) k) (ne:SeqAt.RcNeAt A s (.ref a) (.ref b) (!k)):Cmp A s (.ref a) (.ref b) (eqD d d'):=by
 subst hk;refine⟨?_,rc,ne⟩
 by_cases hab:a=b
 ·subst hab;have:=h1.uniq h2;subst this;rw[YDf _ hok];exact .same _
 ·exact .of_refs hab rc
theorem cmp_D (I:Inv X pins σ H s):∀(n:Nat) (A:Around) (d d':D) (v u:V) (x y:Value),d.ok=true->d'.ok=true->d.dep<=n->A.units + n < cLine->Den H v d->Den H u d'->Ys v x->Ys u y->Cmp A s x y (eqD d d'):=by
 intro n
 induction n with
 |zero=>
  intro A d d' v u x y hok hok' hn hu h h' r r';have hu':A.units < cLine:=by lia
  cases d with
  |lst ds=>unfold D.dep at hn;lia
  |tup ds=>unfold D.dep at hn;lia
  |oth=>unfold D.ok at hok;cases hok
  |non=>
   unfold Den at h;subst h;cases r;cases d' with
   |non=>unfold Den at h';subst h';cases r';unfold eqD;exact⟨.same _,.none_none,.none_none⟩
   |bl b=>unfold Den at h';subst h';cases r';unfold eqD;exact⟨.none_bool _,.none_bool _,.none_bool _⟩
   |int b=>unfold Den at h';subst h';obtain⟨t,rfl⟩:=r';unfold eqD;exact⟨.none_int _ _,.none_int _ _,.none_int _ _⟩
   |str b=>unfold Den at h';subst h';obtain⟨t,rfl⟩:=r';unfold eqD;exact⟨.none_str _ _,.none_str _ _,.none_str _ _⟩
   |lst ds=>obtain⟨a,xs,rfl,e2,_⟩:=h'.to_lst;cases r';obtain⟨_,_,p,_⟩:=I.list (.inl e2);unfold eqD;exact⟨.none_list p.isList hu',.none_list p.isList hu',.none_list p.isList hu'⟩
   |tup ds=>obtain⟨a,xs,rfl,e2,_⟩:=h'.to_tup;cases r';obtain⟨_,_,p,_⟩:=I.tuple (.inl (.inl e2));unfold eqD;exact⟨.none_tuple p hu',.none_tuple p hu',.none_tuple p hu'⟩
   |oth=>unfold D.ok at hok';cases hok'
  |bl c=>
   unfold Den at h;subst h;cases r;cases d' with
   |non=>unfold Den at h';subst h';cases r';unfold eqD;exact⟨.bool_none _,.bool_none _,.bool_none _⟩
   |bl b=>unfold Den at h';subst h';cases r';unfold eqD;exact⟨.bool_bool _ _,.bool_bool _ _,.bool_bool _ _⟩
   |int b=>unfold Den at h';subst h';obtain⟨t,rfl⟩:=r';unfold eqD;exact⟨.bool_int _ _ _,.bool_int _ _ _,.bool_int _ _ _⟩
   |str b=>unfold Den at h';subst h';obtain⟨t,rfl⟩:=r';unfold eqD;exact⟨.bool_str _ _ _,.bool_str _ _ _,.bool_str _ _ _⟩
   |lst ds=>obtain⟨a,xs,rfl,e2,_⟩:=h'.to_lst;cases r';obtain⟨_,_,p,_⟩:=I.list (.inl e2);unfold eqD;exact⟨.bool_list _ p.isList hu',.bool_list _ p.isList hu',.bool_list _ p.isList hu'⟩
   |tup ds=>obtain⟨a,xs,rfl,e2,_⟩:=h'.to_tup;cases r';obtain⟨_,_,p,_⟩:=I.tuple (.inl (.inl e2));unfold eqD;exact⟨.bool_tuple _ p hu',.bool_tuple _ p hu',.bool_tuple _ p hu'⟩
   |oth=>unfold D.ok at hok';cases hok'
  |int c=>
   unfold Den at h;subst h;obtain⟨t,rfl⟩:=r;cases d' with
   |non=>unfold Den at h';subst h';cases r';unfold eqD;exact⟨.int_none _ _,.int_none _ _,.int_none _ _⟩
   |bl b=>unfold Den at h';subst h';cases r';unfold eqD;exact⟨.int_bool _ _ _,.int_bool _ _ _,.int_bool _ _ _⟩
   |int b=>unfold Den at h';subst h';obtain⟨t,rfl⟩:=r';unfold eqD;exact⟨.int_int _ _ _ _,.int_int _ _ _ _,.int_int _ _ _ _⟩
   |str b=>unfold Den at h';subst h';obtain⟨t,rfl⟩:=r';unfold eqD;exact⟨.int_str _ _ _ _,.int_str _ _ _ _,.int_str _ _ _ _⟩
   |lst ds=>obtain⟨a,xs,rfl,e2,_⟩:=h'.to_lst;cases r';obtain⟨_,_,p,_⟩:=I.list (.inl e2);unfold eqD;exact⟨.int_list _ _ p.isList hu',.int_list _ _ p.isList hu',.int_list _ _ p.isList hu'⟩
   |tup ds=>obtain⟨a,xs,rfl,e2,_⟩:=h'.to_tup;cases r';obtain⟨_,_,p,_⟩:=I.tuple (.inl (.inl e2));unfold eqD;exact⟨.int_tuple _ _ p hu',.int_tuple _ _ p hu',.int_tuple _ _ p hu'⟩
   |oth=>unfold D.ok at hok';cases hok'
  |str c=>
   unfold Den at h;subst h;obtain⟨t,rfl⟩:=r;cases d' with
   |non=>unfold Den at h';subst h';cases r';unfold eqD;exact⟨.str_none _ _,.str_none _ _,.str_none _ _⟩
   |bl b=>unfold Den at h';subst h';cases r';unfold eqD;exact⟨.str_bool _ _ _,.str_bool _ _ _,.str_bool _ _ _⟩
   |int b=>unfold Den at h';subst h';obtain⟨t,rfl⟩:=r';unfold eqD;exact⟨.str_int _ _ _ _,.str_int _ _ _ _,.str_int _ _ _ _⟩
   |str b=>unfold Den at h';subst h';obtain⟨t,rfl⟩:=r';unfold eqD;exact⟨.str_str _ _ _ _,.str_str _ _ _ _,.str_str _ _ _ _⟩
   |lst ds=>obtain⟨a,xs,rfl,e2,_⟩:=h'.to_lst;cases r';obtain⟨_,_,p,_⟩:=I.list (.inl e2);unfold eqD;exact⟨.str_list _ _ p.isList hu',.str_list _ _ p.isList hu',.str_list _ _ p.isList hu'⟩
   |tup ds=>obtain⟨a,xs,rfl,e2,_⟩:=h'.to_tup;cases r';obtain⟨_,_,p,_⟩:=I.tuple (.inl (.inl e2));unfold eqD;exact⟨.str_tuple _ _ p hu',.str_tuple _ _ p hu',.str_tuple _ _ p hu'⟩
   |oth=>unfold D.ok at hok';cases hok'
 |succ n ih=>
  intro A d d' v u x y hok hok' hn hu h h' r r';have hu':A.units < cLine:=by lia
  have hin:A.in1.units + n < cLine:=by show A.units + 1 + n < cLine;lia
  cases d with
  |lst ds=>
   have hn':∀d∈ds,d.dep<=n:=λd hd=>by
    have h1:=YFq hd;unfold D.dep at hn
    lia
   obtain⟨a,xs,rfl,e2,e3⟩:=h.to_lst;cases r;obtain⟨its,r1,p,_⟩:=I.list (.inl e2);cases d' with
   |oth=>unfold D.ok at hok';cases hok'
   |non=>unfold Den at h';subst h';cases r';unfold eqD;exact⟨.list_none p.isList hu',.list_none p.isList hu',.list_none p.isList hu'⟩
   |bl b=>unfold Den at h';subst h';cases r';unfold eqD;exact⟨.list_bool _ p.isList hu',.list_bool _ p.isList hu',.list_bool _ p.isList hu'⟩
   |int b=>unfold Den at h';subst h';obtain⟨t,rfl⟩:=r';unfold eqD;exact⟨.list_int _ _ p.isList hu',.list_int _ _ p.isList hu',.list_int _ _ p.isList hu'⟩
   |str b=>unfold Den at h';subst h';obtain⟨t,rfl⟩:=r';unfold eqD;exact⟨.list_str _ _ p.isList hu',.list_str _ _ p.isList hu',.list_str _ _ p.isList hu'⟩
   |tup es=>obtain⟨b,ys,rfl,f2,f3⟩:=h'.to_tup;cases r';obtain⟨_,_,p2,_⟩:=I.tuple (.inl (.inl f2));unfold eqD;exact⟨.list_tuple p.isList p2 hu',.list_tuple p.isList p2 hu',.list_tuple p.isList p2 hu'⟩
   |lst es=>
    have sY:=hok;have sZ:=hok';unfold D.ok at sY sZ;obtain⟨b,ys,rfl,f2,f3⟩:=h'.to_lst;cases r';obtain⟨dw,r2,p2,_⟩:=I.list (.inl f2);have n1:its.toArray.size=ds.length:=by rw[YL3,<-r1.length,e3.len]
    have n2:dw.toArray.size=es.length:=by rw[YL3,<-r2.length,f3.len]
    by_cases hl:ds.length=es.length
    ·have items:=YIn (A:=A.in1) e3 f3 r1 r2 λd d' v u x y hd hd' q1 q2 q3 q4=>(ih A.in1 d d' v u x y (YB6 sY hd) (YB6 sZ hd') (hn' d hd) hin q1 q2 q3 q4).eq
     refine YA0 (k:=(List.range its.toArray.size).all λj=>eqD (ds.getD j .non) (es.getD j .non)) ?_ hok h h' (.lists p.isList p2.isList (by rw[n1,n2,hl]) hu' items) (.lists p.isList p2.isList (by rw[n1,n2,hl]) hu' items);rw[n1,<-YDh hl,eqD_lst]
    ·refine YA0 (k:=false) ?_ hok h h' (.lists_lengths p.isList p2.isList (by rw[n1,n2];simpa using hl) hu') (.lists_lengths p.isList p2.isList (by rw[n1,n2];simpa using hl) hu');unfold eqD;rw[YDg hl]
  |tup ds=>
   have hn':∀d∈ds,d.dep<=n:=λd hd=>by
    have h1:=YFq hd;unfold D.dep at hn
    lia
   obtain⟨a,xs,rfl,e2,e3⟩:=h.to_tup;cases r;obtain⟨its,r1,p,_⟩:=I.tuple (.inl (.inl e2));cases d' with
   |oth=>unfold D.ok at hok';cases hok'
   |non=>unfold Den at h';subst h';cases r';unfold eqD;exact⟨.tuple_none p hu',.tuple_none p hu',.tuple_none p hu'⟩
   |bl b=>unfold Den at h';subst h';cases r';unfold eqD;exact⟨.tuple_bool _ p hu',.tuple_bool _ p hu',.tuple_bool _ p hu'⟩
   |int b=>unfold Den at h';subst h';obtain⟨t,rfl⟩:=r';unfold eqD;exact⟨.tuple_int _ _ p hu',.tuple_int _ _ p hu',.tuple_int _ _ p hu'⟩
   |str b=>unfold Den at h';subst h';obtain⟨t,rfl⟩:=r';unfold eqD;exact⟨.tuple_str _ _ p hu',.tuple_str _ _ p hu',.tuple_str _ _ p hu'⟩
   |lst es=>obtain⟨b,ys,rfl,f2,f3⟩:=h'.to_lst;cases r';obtain⟨_,_,p2,_⟩:=I.list (.inl f2);unfold eqD;exact⟨.tuple_list p p2.isList hu',.tuple_list p p2.isList hu',.tuple_list p p2.isList hu'⟩
   |tup es=>
    have sY:=hok;have sZ:=hok';unfold D.ok at sY sZ;obtain⟨b,ys,rfl,f2,f3⟩:=h'.to_tup;cases r';obtain⟨dw,r2,p2,_⟩:=I.tuple (.inl (.inl f2));have n1:its.toArray.size=ds.length:=by rw[YL3,<-r1.length,e3.len]
    have n2:dw.toArray.size=es.length:=by rw[YL3,<-r2.length,f3.len]
    have items:=YIn (A:=A.in1) e3 f3 r1 r2 λd d' v u x y hd hd' q1 q2 q3 q4=>(ih A.in1 d d' v u x y (YB6 sY hd) (YB6 sZ hd') (hn' d hd) hin q1 q2 q3 q4).eq
    refine YA0 (k:=(List.range (min its.toArray.size dw.toArray.size)).all (λj=>eqD (ds.getD j .non) (es.getD j .non)) && its.toArray.size == dw.toArray.size) ?_ hok h h' (.tuples p p2 hu' items) (.tuples p p2 hu' items);rw[n1,n2,YIl]
    by_cases hl:ds.length=es.length
    ·rw[YDh hl,<-hl,Nat.min_self,beq_self_eq_true,Bool.and_true]
    ·rw[YDg hl,beq_eq_false_iff_ne.mpr hl,Bool.and_false]
  |oth=>unfold D.ok at hok;cases hok
  |non=>exact ih A .non d' v u x y hok hok' (by unfold D.dep;lia) (by lia) h h' r r'
  |bl b=>exact ih A (.bl b) d' v u x y hok hok' (by unfold D.dep;lia) (by lia) h h' r r'
  |int b=>exact ih A (.int b) d' v u x y hok hok' (by unfold D.dep;lia) (by lia) h h' r r'
  |str b=>exact ih A (.str b) d' v u x y hok hok' (by unfold D.dep;lia) (by lia) h h' r r'
theorem YAY (K:W.Frag) (hK:X.K=K) (hu:X.A.units + 64 < cLine):OpR X (compareOp .Eq) (λx y H Q=>∃d d',Den H x d/\Den H y d'/\d.ok=true/\d'.ok=true/\d.dep<=64/\Q (.bl (eqD d d')) H):=by
 subst hK;intro pins s σ H x y v u Q I rx ry h;obtain⟨d,d',h1,h2,k1,k2,hd,q⟩:=h;exact(cmp_D I 64 X.A d d' x y v u k1 k2 hd hu h1 h2 rx ry).rc X.prog X.w _ _ ⟨.bl _,H,I,Z,q⟩
theorem YDi (K:W.Frag) (hK:X.K=K) (hu:X.A.units + 64 < cLine):OpR X (compareOp .NotEq) (λx y H Q=>∃d d',Den H x d/\Den H y d'/\d.ok=true/\d'.ok=true/\d.dep<=64/\Q (.bl (!eqD d d')) H):=by
 subst hK;intro pins s σ H x y v u Q I rx ry h;obtain⟨d,d',h1,h2,k1,k2,hd,q⟩:=h;exact(cmp_D I 64 X.A d d' x y v u k1 k2 hd hu h1 h2 rx ry).ne X.prog X.w _ _ ⟨.bl _,H,I,Z,q⟩
end
end L2
namespace L2
open PySem PySem.Spec PyProof.Rows
section
variable {X:Cx}{pins:List (Addr×Obj)}{σ:St}{H:Hp}{s:Shared}{h':Heap}
theorem Inv.turns {t':Nat}{ch:List Addr} (I:Inv X pins σ H s) (k:∀b o,b∉ch->s.heap.get? b=some o->h'.get? b=some o) (hf:∀b∈ch,YAs X pins H b):Inv X pins σ H { s with heap:=h',toks:=t' }:=by
 have nit:∀b u,H b=some u->b∉ch:=λb u e z=>by rw[(hf b z).1]at e;cases e
 refine I.step (g':=s.gens) (d':=s.drawn) (ch:=ch) (λb hb=>⟨(hf b hb).2.2.2.1,(hf b hb).2.1,(hf b hb).2.2.2.2.1,(hf b hb).2.2.2.2.2⟩) (λb o _ _ hc e _=>k b o hc e) (λb o _ _ hc e _=>⟨o.slots,k b o hc e⟩) (λ_ _ _ _ n=>n)
  (λb o hc e=>⟨o,k b o hc e⟩) (λ_ _ e=>e) (λ_ _ _ e=>e) (λb ps e=>⟨#[],by rw[e];simp⟩) (λm hm=>?_) (λb u e=>?_) I.bare
 ·obtain⟨o,es,ep,ho,r⟩:=hm;exact⟨o,es,ep,k _ o (λz=>(hf _ z).2.1 rfl) ho,r⟩
 ·refine(I.hok b u e).stay (λc v hc q=>k c v ?_ q) (λ_ q=>q) λ_ _ q=>q
  rcases hc with z |z
  ·rw[z];exact nit b u e
  ·exact nit c _ z
theorem Inv.trackT {T:Addr}{xs:List V}{its:List Value} (I:Inv X pins σ H s) (new:H T=none) (ht:IsTup s.heap T its.toArray) (rv:Ym xs its) (hz:xs.length<=sizeLine) (hs:∀o,X.s₀.heap.get? T≠some o) (hp:∀p∈X.pn ++ pins,p.1≠T):
  Inv X pins σ (upd H T (.tup xs)) s:=by
 obtain⟨ot,Ry,hct,nt,hdt⟩:=id ht;have hL:X.env.locals≠T:=λz=>by
  obtain⟨m,⟨o,es,ep,ho,hd',_⟩,_⟩:=I.loc;rw[z,Ry]at ho;cases ho;rw[hdt]at hd';cases hd'
 have hC:∀x c,X.env.cells.lookup x=some c->c≠T:=λx c h1 z=>by
  obtain⟨v,o,ho,hd'⟩:=I.cell x c h1;rw[z,Ry]at ho;cases ho;rw[hdt]at hd';cases hd'
 refine⟨I.ok,I.os,I.bare,?_,I.loc,I.cell,by rw[YJ hL];exact I.free,λx c h1=>by rw[YJ (hC x c h1)];exact I.freeC x c h1,λp hp'=>?_,λa o ea=>?_,I.len⟩
 ·exact⟨I.base.keep,I.base.slot,λb o q n hx=>by rw[YJ (λz=>hs o (by rw[<-z];exact q))];exact I.base.free b o q n hx,I.base.there,
   λb xs q=>by have z:=I.base.tups b xs q;rw[YJ (Ya z new)];exact z,λb ob u q=>by have z:=I.base.frzs b ob u q;rw[YJ (Ya z new)];exact z,
   λb ps q=>by obtain⟨mo,z⟩:=I.base.tbls b ps q;exact⟨mo,by rw[YJ (Ya z new)];exact z⟩⟩
 ·obtain⟨p1,p2,p3⟩:=I.pin p hp';exact⟨p1,by rw[YJ (hp p hp')];exact p2,p3⟩
 ·by_cases ha:a=T
  ·subst ha;rw[YD]at ea;cases ea;exact⟨hz,its,rv,ht⟩
  ·rw[YJ ha]at ea;exact(I.hok a o ea).stay (λ_ _ _ q=>q) (λb q=>by rw[YJ (Ya q new)];exact q) λb xs q=>by rw[YJ (Ya q new)];exact q
end
def Ite (K:W.Frag) (a:Addr):It:=
 ⟨λi H=>∃xs x,SqL K H a xs/\xs[i]?=some x,λi H v H'=>∃T,H T=none/\v=.ref T/\∀xs,SqL K H a xs->∃x,xs[i]?=some x/\H'=upd H T (.tup [.int i,x]),λi H=>∃xs,SqL K H a xs/\xs.length<=i⟩
theorem YJj {P:Program}{w:World}{K:W.Frag}{k_:List Expr}{k:Nat}{pos:Pos} (a e it:Addr):
  YEP P w K (.Tuple k_ k pos) (Ite K a) [e,it] e (λi h=>(∃old,IsEnum h e it (i:Nat) old)/\h.IsListIter it a i/\e≠it) where
 mem:=by simp
 obj:=λi h st b hb=>by
  obtain⟨⟨old,he⟩,⟨o,eo,c,d⟩,_⟩:=st;rcases YMA.mp hb with rfl |hb
  ·exact⟨_,he,λv z=>by cases z⟩
  ·have eb:b=it:=by simpa using hb
   subst eb;exact⟨o,eo,λv z=>by rw[d]at z;cases z⟩
 keep:=λi h h' st k=>by
  obtain⟨⟨old,he⟩,hit,hne⟩:=st;exact⟨⟨old,k e (by simp) _ he⟩,hit.at λo x=>k it (by simp) o x,hne⟩
 item:=by
  intro X hP hw hK hc i pins s σ H E I hf st hg;subst hP hw hK;obtain⟨⟨old,he⟩,hit,hne⟩:=st;obtain⟨xs,x,hq,hx⟩:=hg;obtain⟨its,rv,p,hz⟩:=I.list hq;obtain⟨u,hu,ru⟩:=rv.get hx;refine wpAny_pyNext_enum_item he hit p.isList (x:=u) (by simpa using hu) hne λh' ho hit' hT hsz hk=>?_
  refine⟨_,Z,wpAny_letOwnedTupleGo_enum (s:={ s with heap:=h',toks:=s.toks + 1 }) ho λh'' he' hs'=>?_⟩;have hlt:e < s.heap.objs.size:=YL4 he;have hTe:s.heap.objs.size≠e:=YNA hlt;have kk:∀b o,b∉[e,it]->s.heap.get? b=some o->h''.get? b=some o:=λb o hb q=>by
   have h1:b≠e:=λz=>hb (by simp[z])
   have h2:b≠it:=λz=>hb (by simp[z])
   exact(hs'.2 b h1).trans (hk b o h1 h2 q)
  have I1:Inv X pins σ H { s with heap:=h'',toks:=s.toks + 1 }:=I.turns kk hf;have hT':h''.get? s.heap.objs.size=some { cls:=.type "tuple",data:=.seq #[.int i s.toks,u] }:=(hs'.2 _ hTe).trans hT;have hfr:H s.heap.objs.size=none:=I.hok.fresh (YLr _);have I2:=I1.trackT (T:=s.heap.objs.size) (xs:=[.int i,x]) (its:=[.int i s.toks,u]) hfr ⟨_,hT',Z,_,Z⟩ (.cons ⟨_,Z⟩ (.cons ru .nil)) (by show 2<=sizeLine;rw[sizeLine_eq];decide)
   (λo q=>absurd (YL4 q) (Nat.not_lt.mpr I.sz)) λp hp z=>absurd (YL4 (I.pin p hp).1) (by rw[z];exact YMm _)
  refine⟨.ref s.heap.objs.size,_,I2,Z,⟨_,hfr,Z,λys hy=>⟨x,by rw[I.list_inj hy hq];exact hx,Z⟩⟩,⟨⟨_,by simpa using he'⟩,hit'.at λo q=>(hs'.2 it hne.symm).trans q,hne⟩,λb hb=>?_⟩;obtain⟨o,eo,_⟩:∃o,s.heap.get? b=some o/\True:=by
   rcases YMA.mp hb with rfl |hb
   ·exact⟨_,he,trivial⟩
   ·have eb:b=it:=by simpa using hb
    subst eb;obtain⟨o,eo,_⟩:=hit;exact⟨o,eo,trivial⟩
  rw[YJ (YMS (YL4 eo))];exact(hf b hb).1
 done:=by
  intro X hP hw hK hc i pins s σ H E I hf st hg;subst hP hw hK;obtain⟨⟨old,he⟩,hit,hne⟩:=st;obtain⟨xs,hq,hx⟩:=hg;obtain⟨its,rv,p,hz⟩:=I.list hq;have hl:=rv.length;exact wpAny_pyNext_enum_end (I.ok.hd hc) he hit p.isList (Array.getElem?_eq_none (by simp;lia)) λh' eb=>⟨Z,I.turns (t':=s.toks) (λb o hb q=>eb b o (λz=>hb (by simp[z])) q) hf⟩
 self:=λ_ _ _ _ _ st h=>by
  obtain⟨⟨old,he⟩,_⟩:=st;exact wpAny_pyIter_enum he h
section
variable {X:Cx}{k_:List Expr}{k:Nat}{mV:Pos}
inductive YKy (K:W.Frag) (R:It->Hp->Prop) (vs:List V) (H1:Hp):Prop where
 |mk (a:_) (a_:vs=[.ref a]) (bc:(∃xs,Rd H1 a (.lst xs))) (bJ:R (Ite K a) H1):YKy K R vs H1
def iEnum (K:W.Frag) (ta:TA):TI:=λσ H R=>ta σ H λvs H1=>YKy K R vs H1
theorem X3 (K:W.Frag) (hK:X.K=K) {a:Expr}{ta:TA}{p pos:Pos} (hg:Gl X "enumerate") (hm:X.mg "enumerate"=none) (ha:PA X [a] ta) (hs:starEach [a] X.env=[(false,eval a X.env)]:=by rfl):
  PI X (.Tuple k_ k mV) (.Call (.Name "enumerate" p) [a] [] pos) (iEnum K ta):=by
 subst hK;intro pins s σ H R I h;refine Call_ (JT I hg hm PyProof.Rows.Boot.«enumerate» (PyProof.Rows.callWith_type1 (thn (ha pos pins s σ H _ I h) λus s1 ⟨vs,H1,I1,r1,q1⟩=>?_) hs rfl));obtain⟨l,rfl,⟨xs,hq⟩,q⟩:=q1;obtain⟨u,rfl,ru⟩:=Xj r1;cases ru;obtain⟨hz,its,n,rv,hl⟩:=(show Y3 X.prog X.w H1 s1.heap l (.lst xs) from hq.ok I1.hok);refine call_enumerate_1 hl λh' he hit hsz hk=>?_
 have I2:Inv X pins σ H1 { s1 with heap:=h' }:=I1.kept (t':=s1.toks) hk;refine wpAny_pyIter_enum he ?_;refine⟨s1.heap.objs.size + 1,[s1.heap.objs.size + 1,s1.heap.objs.size],_,_,H1,Z,I2,YJj l _ _,⟨⟨_,by simpa using he⟩,hit,Nat.succ_ne_self _⟩,λb hb=>?_,q⟩;rcases YMA.mp hb with rfl |hb
 ·exact I1.fpOk (YNh _) (I1.hok.fresh (YNh _))
 ·have eb:b=s1.heap.objs.size:=by simpa using hb
  subst eb;exact I1.fpOk (YLr _) (I1.hok.fresh (YLr _))
theorem YDL:∀{xs:List V}{us:List Value},xs.length=us.length->(∀(j:Nat) (x:V) (u:Value),xs[j]?=some x->us[j]?=some u->Ys x u)->Ym xs us
 |[],[],_,_=>.nil
 |[],_ :: _,h,_=>by cases h
 |_ :: _,[],h,_=>by cases h
 |x :: xs,u :: us,h,k=>.cons (k 0 x u rfl rfl) (YDL (Nat.succ.inj h) λj y v h1 h2=>k (j + 1) y v (by simpa using h1) (by simpa using h2))
theorem YKz {k:Key}{v:Value} (h:YDT k v=true):Ys (kV k) v:=by
 rcases ZQ h with ⟨i,t,rfl,rfl⟩ |⟨x,t,rfl,rfl⟩
 ·exact⟨t,Z⟩
 ·exact⟨t,Z⟩
end
def YH5 (J:It) (n:Nat) (H:Hp) (item:Nat->V->Hp->Prop):Prop:=∀i H',YN H H'->YR H'->(i < n->J.go i H'/\∀x H3,J.yld i H' x H3->YN H' H3/\YR H3/\item i x H3)/\J.stop n H'
theorem YAz.g {J:It}{n:Nat}{H:Hp}{item:Nat->V->Prop} (h:YAz J n H item):YH5 J n H λi x _=>item i x:=λi H' s p=>
 ⟨λhi=>⟨((h i H' s).1 hi).1,λx H3 hy=>by obtain⟨e,it⟩:=((h i H' s).1 hi).2 x H3 hy;subst e;exact⟨YN.refl _,p,it⟩⟩,(h i H' s).2⟩
end L2
namespace L2
open PySem PySem.Spec PyProof.Rows
section
variable {X:Cx}{elt tg iter:Expr}{ifs:List Expr}{scope:Scope}{cl:List (Str×Addr)}{N:List Str}{ρ:List (Option Nat)}{pos:Pos}{wi:TI}{g:TG}{tc:TT}{te:TE}
theorem YJk (hc:X.calm=true) (S:Yj X N ρ scope cl)
  (hg:∀C s₀ H₀ ex pn,PG (ZN X N scope cl C s₀ H₀ ex pn) tg g) (ht:∀C s₀ H₀ ex pn,PTs (ZN X N scope cl C s₀ H₀ ex pn) ifs tc) (he:∀C s₀ H₀ ex pn,PE (ZN X N scope cl C s₀ H₀ ex pn) elt te)
  {pins:List (Addr×Obj)}{s2:Shared}{σ:St}{H2:Hp}{it:Addr}{fp:List Addr}{tn:Nat->Heap->Prop}{J:It}{Q:VK}{RR:Value->Addr->Result->Shared->Prop} (I2:Inv X pins σ H2 s2) (T:YEP X.prog X.w X.K tg J fp it tn) (jO:tn 0 s2.heap) (f2:∀b∈fp,YAs X pins H2 b)
  (q2:∀l,H2 l=none->YAw J g tc te Q l (YDd ρ σ) H2)
  (fin:∀(l C:Addr) (s5:Shared) (H4:Hp) (m:Str->Option Value),Inv X pins σ H4 s5->YAs X pins H4 C->s5.heap.Ns C m->Q (.ref l) H4->RR (.ref l) C (.ok .next) s5):
  wpAny (model X.prog X.w) X.A (newList []) (λacc s3=>wpAny (model X.prog X.w) X.A (newFunctionEnv scope X.env.globals cl [] X.env.qual none .none (some X.env)) (λcenv s4=>
   codeAny (model X.prog X.w) X.A (.compStart (.ListComp elt [⟨tg,iter,ifs,0⟩] scope pos) 0 (.ref it) acc { cenv with scope:=relabel scope X.env }) (RR acc cenv.locals) s4) X.xe s3) X.xe s2:=by
 obtain⟨W,⟨m0,w0⟩,turn⟩:=q2 _ (I2.hok.fresh (YLr _));refine wpAny_newObj_type (wpAny_newFunctionEnv S.nocell (by intro y hy;simp at hy) (λh₁ hns₁ hsb₁=>?_) S.kind);dsimp only at hns₁ hsb₁ ⊢;have I3:Inv X pins σ (upd H2 s2.heap.objs.size (.lst [])) { s2 with heap:=s2.heap.push { cls:=.type "list",dict:=none,data:=.seq ([]:List Value).toArray } }:=
  I2.laid (t':=s2.toks) (λb u eo=>YL0 _ eo) (YLr _) ⟨by simp,[],0,.nil,YMF _ rfl⟩
 generalize zM:({ s2 with heap:=s2.heap.push { cls:=.type "list",dict:=none,data:=.seq ([]:List Value).toArray } }:Shared)=s3 at I3;have yh:s2.heap.push { cls:=.type "list",dict:=none,data:=.seq ([]:List Value).toArray }=s3.heap:=by rw[<-zM]
 rw[yh]at hns₁ hsb₁ ⊢;have f3:∀b∈fp,YAs X pins (upd H2 s2.heap.objs.size (.lst [])) b:=λb hb=>by
  obtain⟨o,eo,_⟩:=T.obj _ _ jO b hb;exact⟨by rw[YJ (YMS (YL4 eo))];exact(f2 b hb).1,(f2 b hb).2⟩
 have zN:∀b∈fp,b < s3.heap.objs.size:=λb hb=>by
  obtain⟨o,eo,_⟩:=T.obj _ _ jO b hb;rw[<-yh,YNS];exact Nat.lt_succ_of_lt (YL4 eo)
 have old:∀b o,s3.heap.get? b=some o->h₁.get? b=some o:=λb o eo=>hsb₁.extBut b o (YMS (YL4 eo)) (YL0 _ eo)
 have Ic:Inv (ZN X N scope cl s3.heap.objs.size s3 (upd H2 s2.heap.objs.size (.lst [])) fp (X.pn ++ pins)) [] (YDd ρ σ) (upd H2 s2.heap.objs.size (.lst [])) { s2 with heap:=h₁,toks:=s2.toks + ([]:List (Str×Value)).length }:=
  YGa S I3 f3 zN hns₁ old (by rw[<-zM] <;> rfl)
 have kJ:∀{pl:List (Addr×Obj)}{H':Hp},pl=[]->(∀b∈fp,H' b=none)->∀b∈fp,YAs (ZN X N scope cl s3.heap.objs.size s3 (upd H2 s2.heap.objs.size (.lst [])) fp (X.pn ++ pins)) pl H' b:=λ{pl H'} epl hn b hb=>by
  subst epl;refine⟨hn b hb,YMS (zN b hb),λz=>?_,.inl hb,λx c h1=>(f2 b hb).2.2.2.2.1 x c (S.sub x c h1),λp hp=>(f2 b hb).2.2.2.2.2 p (by simpa using hp)⟩;rcases YMA.mp (I3.stkSub b z) with z |z
  ·exact(f2 b hb).2.1 z
  ·exact(f2 b hb).2.2.1 z
 have rY:tn 0 h₁:=T.keep _ _ _ jO λb hb o eo=>old b o (by rw[<-yh];exact YL0 _ eo)
 have loop:codeAny (model X.prog X.w) X.A (.compLoop (.ListComp elt [⟨tg,iter,ifs,0⟩] scope pos) 0 (.ref it) (.ref s2.heap.objs.size) (compEnvC scope cl s3.heap.objs.size X.env))
   (RR (.ref s2.heap.objs.size) s3.heap.objs.size) { s2 with heap:=h₁,toks:=s2.toks + ([]:List (Str×Value)).length }:=by
  refine YEy (λn s'=>∃i ys τ H',Inv (ZN X N scope cl s3.heap.objs.size s3 (upd H2 s2.heap.objs.size (.lst [])) fp (X.pn ++ pins)) [] τ H' s'/\tn i s'.heap/\(∀b∈fp,H' b=none)/\W i n ys τ H') ?_ m0
   ⟨0,[],_,_,Ic,rY,λb hb=>(f3 b hb).1,w0⟩
  rintro n s4 ⟨i,ys,τ,H4,I4,st,zO,w4⟩;rcases turn i n ys τ H4 w4 with ⟨stop,qn⟩ |⟨go,step⟩
  ·refine thn (T.done (ZN X N scope cl s3.heap.objs.size s3 (upd H2 s2.heap.objs.size (.lst [])) fp (X.pn ++ pins)) rfl rfl rfl hc i [] s4 τ H4 _ I4 (kJ rfl zO) st stop) λr s5 ⟨hr,I5⟩=>?_
   subst hr;obtain⟨m5,WQ,_⟩:=I5.loc;have uf:∀b o,s5.heap.get? b=some o->s5.heap.get? b=some o:=λb o eo=>eo
   have un:Un (frs X.stack) fp (upd H2 s2.heap.objs.size (.lst [])) H4 s3.heap s5.heap:=
    ⟨λb o eo n1 n2 n3=>I5.base.keep b o eo n1 n2 n3,λb o eo n1 n2 n3=>I5.base.slot b o eo n1 n2 n3,I5.base.free,λb o eo n1=>I5.base.there b o eo n1,I5.base.tups,I5.base.frzs,I5.base.tbls⟩
   have I6:Inv X pins σ H4 s5:=I3.call' (s':=s5) (ch:=fp) (show s5.os=s3.os from I5.os) un I5.hok I5.bare λb hb=>⟨(f3 b hb).2.2.2.1,(f3 b hb).2.1,(f3 b hb).2.2.2.2.1,(f3 b hb).2.2.2.2.2⟩
   have fr:H4 s3.heap.objs.size=none:=I5.free;exact fin _ _ s5 H4 m5 I6 (I3.fpOk (YLr _) fr) WQ qn
  ·refine thn (T.item (ZN X N scope cl s3.heap.objs.size s3 (upd H2 s2.heap.objs.size (.lst [])) fp (X.pn ++ pins)) rfl rfl rfl hc i [] s4 τ H4 _ I4 (kJ rfl zO) st go) λr s5 ⟨u,hr,h5⟩=>?_
   subst hr;refine thn h5 ?_;rintro _ s6 ⟨x,H6,I6,r6,y6,mZ,WR⟩;have I6':=I6.pinned (kJ rfl WR) (T.obj _ _ mZ);have again:∀{s9:Shared}{τ9:St}{H9:Hp}{zs:List V}{m':Nat},Inv (ZN X N scope cl s3.heap.objs.size s3 (upd H2 s2.heap.objs.size (.lst [])) fp (X.pn ++ pins)) ([] ++ YCT fp s6.heap) τ9 H9 s9->m' < n->W (i + 1) m' zs τ9 H9->
     ∃m,m < n/\∃i ys τ H',Inv (ZN X N scope cl s3.heap.objs.size s3 (upd H2 s2.heap.objs.size (.lst [])) fp (X.pn ++ pins)) [] τ H' s9/\tn i s9.heap/\(∀b∈fp,H' b=none)/\W i m ys τ H':=λ{s9 τ9 H9 zs m'} I9 hm w9=>by
    refine⟨m',hm,i + 1,zs,τ9,H9,I9.unpinned,T.keep _ _ _ mZ λb hb o eo=>(I9.pin (b,o) (YMB _ (YMB _ (JU hb eo)))).1,λb hb=>?_,w9⟩;obtain⟨o,eo,d⟩:=T.obj _ _ mZ b hb;exact(I9.pin (b,o) (YMB _ (YMB _ (JU hb eo)))).2.1
   refine thn (hg _ _ _ _ _ _ s6 τ H6 x u _ I6' r6 (step x H6 y6)) λ_ s7 ⟨τ7,H7,I7,q7⟩=>?_
   refine thn (ht _ _ _ _ _ _ s7 τ7 H7 _ I7 q7) λok s8 ⟨H8,I8,q8⟩=>?_
   cases ok with
   |false=>
    rw[if_neg YL7]at q8 ⊢;obtain⟨m',hm,w9⟩:=q8;exact again I8 hm w9
   |true=>
    rw[if_pos rfl]at q8 ⊢;refine thn (he _ _ _ _ _ _ s8 τ7 H8 _ I8 q8) ?_;rintro y s9 ⟨z,H9,I9,r9,WT,WW,m',hm,w9⟩;refine thn (Y0 _ s9 τ7 H9 (.ref s2.heap.objs.size) [z] (.ref s2.heap.objs.size) [y] (λ_ H'=>H'=upd H9 s2.heap.objs.size (.lst (ys ++ [z]))) I9 rfl (.cons r9 .nil) ⟨_,ys,z,Z,Z,WT,WW,Z⟩) λ_ Qm ⟨_,H10,I10,_,e10⟩=>?_
    subst e10;exact again I10 hm w9
 exact codeAny_compStart_list loop (T.self _ 0 _ _ _ rY loop)
def tSetC (i:Nat) (te:TE):TS:=λD σ H=>te σ H λv H1=>D.nx (σ.set i (some v)) H1
theorem YB7 {i:Nat}{y:Str}{py spos:Pos} (hN:X.N.Nodup) (hi:X.N[i]?=some y) (hy:X.env.scope.names.lookup y=some .local) (hc:X.calm=true) (S:Yj X N ρ scope cl) (hI:PI X tg iter wi)
  (hg:∀C s₀ H₀ ex pn,PG (ZN X N scope cl C s₀ H₀ ex pn) tg g) (ht:∀C s₀ H₀ ex pn,PTs (ZN X N scope cl C s₀ H₀ ex pn) ifs tc) (he:∀C s₀ H₀ ex pn,PE (ZN X N scope cl C s₀ H₀ ex pn) elt te)
  (V7:swapsWith (.ListComp elt [⟨tg,iter,ifs,0⟩] scope pos) (some (.Name y py)) spos.line X.env=pure true:=by rfl) (hs:∀x,foldedSetIterable iter X.env x=pure x:=by intro _;rfl):
  PS X (.Assign [.Name y py] (.ListComp elt [⟨tg,iter,ifs,0⟩] scope pos) spos) (tSetC i (tComp ρ wi g tc te)):=by
 intro pins s σ H D I h;rw[exec_Assign_Name_used _ _ _ _ V7];refine YLx (wpAny_standAt (YLx ?_));show wpAny _ X.A (do let _ <-comprehension (.ListComp elt [⟨tg,iter,ifs,0⟩] scope pos) scope X.env _ (newList []) false (eval iter X.env) (some (assign (.Name y py) X.env))) _ _ s;refine YLx (wpAny_mono (wpAny_comprehension_free (use:=some (assign (.Name y py) X.env)) (Q:=λ_ s'=>SP X pins D .next s') rfl hs S.clos S.kind S.loc
  (thn (hI pins s σ H _ I h) λv s1 h1=>thn h1 λitv s2 h2=>?_)) (λ_ s' hq=>YMJ (YMJ hq)) λ_ _ e=>e)
 obtain⟨it,fp,tn,J,H2,e,I2,T,jO,f2,q2⟩:=h2;subst e;refine YJk (RR:=λacc C=>compPost (model X.prog X.w) X.A X.xe (some (assign (.Name y py) X.env)) (λ_ s'=>SP X pins D .next s') acc C) hc S hg ht he I2 T jO f2 q2 λl C s5 H4 m I6 fC hn q=>?_
 obtain⟨oC,es,ep,hoC,hdC,hrest⟩:=id hn;have I7:=I6.pinned (fp:=[C]) (λb hb=>by rw[YL1.mp hb];exact fC) (λb hb=>⟨oC,by rw[YL1.mp hb];exact hoC,λv z=>by rw[hdC]at z;cases z⟩);show wpAny _ X.A (assign (.Name y py) X.env (.ref l)) _ _ s5;refine wpAny_assign_Name (YB1 I7 hN hi (.inl hy) (v:=.ref l) rfl (λs6 I8=>?_) (.inr hy));have WY:=(I8.pin (C,oC) (YMB _ (YMB _ (JU (YL1.mpr rfl) hoC))));refine⟨m,⟨oC,es,ep,WY.1,hdC,hrest⟩,λh' hs'=>?_⟩;have fC':∀b∈[C],YAs X pins H4 b:=λb hb=>by rw[YL1.mp hb];exact fC
 exact⟨_,H4,I8.unpinned.turns (t':=s6.toks) (λb o hb eo=>(hs'.2 b (λz=>hb (YL1.mpr z))).trans eo) fC',q⟩
end
end L2
namespace L2
open PySem PySem.Spec PyProof.Rows
theorem YGc {x:Str}{n:Int} (h1:x.length<=1000) (h2:-1000<=n) (h3:n<=1000):MulOk x n:=by
 refine⟨?_,λhn _=>?_,λhn _=>?_⟩
 ·rw[Bool.or_eq_false_iff];exact⟨YLz (by lia),YLz (by lia)⟩
 ·intro hgt;have hn':0 < n:=by lia
  have h4:=(Int.ediv_lt_iff_lt_mul hn').mp hgt;have h5:(x.length:Int) * n<=1000 * 1000:=Int.mul_le_mul (by lia) h3 (by lia) (by lia)
  lia
 ·show decide (x.length * n.toNat > sizeLine)=false;refine YLz ?_;have h5:x.length * n.toNat<=1000 * 1000:=Nat.mul_le_mul h1 (by lia);rw[sizeLine_eq]
  lia
theorem YH6 {X:Cx}:OpR X (binaryOp .Mult) (λx y H Q=>∃i n,x=.str i/\y=.int n/\i.length<=1000/\-1000<=n/\n<=1000/\Q (.str (Txt.mul i n)) H):=by
 intro pins s σ H x y v u Q I rx ry h;obtain⟨i,n,rfl,rfl,h1,h2,h3,q⟩:=h;obtain⟨t,rfl⟩:=rx;obtain⟨t',rfl⟩:=ry;exact SB.mul (YGc h1 h2 h3) λt' k=>⟨.str _,H,I.tok _,⟨_,Z⟩,q⟩
theorem Z8 {α:Type}{xs:List α}{i:Int} (h0:0<=i) (h1:i < xs.length):∃v,atI xs i=some v/\v∈xs:=by
 have hj:i.toNat < xs.length:=by lia
 have e:((i.toNat:Nat):Int)=i:=by lia
 refine⟨xs[i.toNat],?_,List.getElem_mem hj⟩;have h:=Yn (xs:=xs) (j:=i.toNat) (v:=xs[i.toNat]) (by simp[hj]);rw[e]at h;exact h
theorem slen (a b:Str):(a ++ b).length=a.length + b.length:=by
 show(a ++ b).cps.size=a.cps.size + b.cps.size;exact Array.size_append ..
theorem YGd (ns:List Int) (lo hi:Option Int):∃cs:List Int,YBX (ns.map V.int) lo hi=cs.map V.int/\cs.length<=ns.length:=by
 refine⟨(ns.drop (HT.sIx (ns.map V.int).length 0 lo)).take (HT.sIx (ns.map V.int).length (ns.map V.int).length hi - HT.sIx (ns.map V.int).length 0 lo),?_,?_⟩
 ·unfold YBX;rw[List.map_take,List.map_drop]
 ·rw[YMp,YM5]
  lia
theorem in62 {x:Int} (h1:0<=x) (h2:x<=1000):(-(2 ^ 62):Int)<=x/\x < 2 ^ 62:=⟨YMj (by decide) h1,Int.lt_of_le_of_lt h2 (by decide)⟩
theorem YH7 {H:Hp} (h:Only H):YR H:=λa o e=>by
 rcases h a with z |⟨ob,xs,z⟩
 ·rw[e]at z;cases z
 ·rw[e]at z;cases z;rfl
end L2
namespace L2
open PySem PySem.Spec PyProof.Rows
def YFr:Expr->Bool
 |.Starred _ _=>false
 |_=>true
theorem YJl {e:Expr}{es:List Expr}{env:Env} (h:YFr e=true):starEach (e :: es) env=(false,eval e env) :: starEach es env:=by
 cases e <;> first |rfl |cases h
theorem ZL {X:Cx}{e:Expr}{es:List Expr}{te:TE}{t:TA} (ha:PE X e te) (hr:PA X es t) (h:YFr e=true:=by rfl):PA X (e :: es) (YIe te t):=YA ha hr (YJl h)
section
variable {X:Cx}
end
end L2
namespace FR
open PySem L2
structure QSs (X:Cx) (st:List Stmt) (t:TS):Prop where h:PSs X st t
structure QS (X:Cx) (st:Stmt) (t:TS):Prop where h:PS X st t
theorem YE {X:Cx}{st:Stmt}{rest:List Stmt}{t u:TS} (h1:QS X st t) (h2:QSs X rest u):QSs X (st :: rest) (YGL t u):=⟨YG h1.h h2.h⟩
theorem Y1 {X:Cx}{st:Stmt}{t:TS} (h1:QS X st t):QSs X [st] t:=⟨YF h1.h⟩
structure QE (X:Cx) (e:Expr) (t:TE):Prop where h:PE X e t
structure QA (X:Cx) (es:List Expr) (t:TA):Prop where h:PA X es t
theorem YDj {X:Cx}:QA X [] tNil:=⟨YB⟩
theorem qa_cs {X:Cx}{e:Expr}{es:List Expr}{te:TE}{t:TA} (ha:QE X e te) (hr:QA X es t) (h:YFr e=true:=by rfl):QA X (e :: es) (YIe te t):=⟨ZL ha.h hr.h h⟩
theorem YA1 {X:Cx}{i j pos}:QE X (.Constant (.int i) j pos) (tC (.int i)):=⟨YC⟩
theorem qe_non {X:Cx}{j pos}:QE X (.Constant .none j pos) (tC .non):=⟨Xd⟩
theorem YK0 {X:Cx}{x j pos}:QE X (.Constant (.str x) j pos) (tC (.str x)):=⟨ZH⟩
theorem YDk {X:Cx}{es:List Expr}{t:TA}{pos} (h:QA X es t):QE X (.List es pos) (tLst t):=⟨Zr h.h⟩
theorem JW {X:Cx}{i:Nat}{x:Str}{e:Expr}{te:TE}{pos gJ:Pos} (hN:X.N.Nodup) (hi:X.N[i]?=some x) (hx:Loc X.env.scope x) (he:QE X e te) (hs:swapsWith e (some (.Name x gJ)) pos.line X.env=pure false:=by rfl) (hf:X.fn x=true\/X.env.scope.names.lookup x=some .local:=by first |exact .inl rfl |exact .inr rfl |assumption):
  QS X (.Assign [.Name x gJ] e pos) (tAsg te (ZK i)):=⟨YK hN hi hx he.h hs hf⟩
theorem qex {X:Cx}{st:List Stmt}{q:TS->Prop} (h:∃t,QSs X st t/\q t):∃t,PSs X st t/\q t:=let ⟨t,a,b⟩:=h;⟨t,a.h,b⟩
end FR
namespace L2
open PySem PySem.Spec PyProof.Rows
section
variable {X:Cx}{C:Addr}{x:Str}{p pos:Pos}
end
structure XA (P:Program) (w:World) (K:W.Frag) (mg:Str->Option Value) (CX:CXT) (k:Nat) (C:Addr) (m:Str) (ps:List Str) (sp:Sp):Prop where
 ok:∃f fd,(∀base,Yt P w K mg base CX k f fd ps sp)/\Meth K C m f/\YAj K fd ps []
structure UsedI (P:Program) (w:World) (K:W.Frag) (mg:Str->Option Value) (CX:CXT) (k:Nat) (C:Addr) (ps:List Str) (sp:Sp):Prop where
 ok:∃f fd,(∀base,Yt P w K mg base CX k f fd ps sp)/\Mk K C f/\YAj K fd ps []
def YIo (i j:Int):Prop:=i.natAbs < 2 ^ 4000/\j.natAbs < 2 ^ 4000
theorem YE5 {i:Int} (h:i.natAbs < 2 ^ 4000):Builtin.Int.intBits i<=4000:=by
 unfold Builtin.Int.intBits
 by_cases h0:i=0
 ·subst h0;decide
 ·have:=(Nat.log2_lt (by lia)).mpr h;split
  ·lia
  ·lia
theorem XU {X:Cx}:OpR X (binaryOp .Mult) (rI YIo λi j=>.int (i * j)):=opI λ_ _ _ _ _ _ _ hc q=>mul_int q (PyProof.Rows.mulOk_of_bits (YE5 hc.1) (YE5 hc.2) (by decide))
theorem YY (K:W.Frag) {X:Cx} (hK:X.K=K) {e:Expr}{f:Str}{pos:Pos}{ta:TE} (he:PE X e ta) (hb:attributeBase e f X.env (eval e X.env)=eval e X.env):PE X (.Attribute e f pos) (tFld K ta f):=by subst hK;exact pe_fld he hb
theorem Z4 (K:W.Frag) {X:Cx} (hK:X.K=K) {o value:Expr}{f:Str}{pos gJ:Pos}{ta tv:TE} (ha:PE X o ta) (hv:PE X value tv) (hs:swapsWith value (some (.Attribute o f gJ)) pos.line X.env=pure false):PS X (.Assign [.Attribute o f gJ] value pos) (sFld K ta tv f):=by subst hK;exact ps_fld ha hv hs
end L2
namespace L2
open PySem PySem.Spec PyProof.Rows
section
variable {X:Cx}{tg:Expr}
end
end L2
namespace L2
open PySem PySem.Spec PyProof.Rows
section
variable {X:Cx}
theorem Z5:MtR X "str.startswith" (λx vs H Q=>∃z y,x=.str z/\vs=[.str y]/\Q (.bl (Txt.startswith z y)) H):=by
 intro pins s σ H x xs v us Q I rx rs h;obtain⟨z,y,rfl,rfl,q⟩:=h;obtain⟨t,rfl⟩:=rx;obtain⟨u,rfl,t',rfl⟩:=rs.one;exact SC.startswith ⟨.bl _,H,I,Z,q⟩
end
end L2
namespace L2
open PySem PySem.Spec PyProof.Rows
section
variable {X:Cx}
theorem YGe:∀{bs:List Int}{us:List Value}{i:Nat}{v:Value},Ym (bs.map V.int) us->us[i]?=some v->∃b t,bs[i]?=some b/\v=.int b t:=by
 intro bs us i v r e;cases e2:(bs.map V.int)[i]? with
 |none=>
  have:=r.none_of e2;rw[this]at e;cases e
 |some x=>
  obtain⟨u,hu,ru⟩:=r.get e2;rw[hu]at e;cases e;rw[YLt]at e2;cases e3:bs[i]? with
  |none=>rw[e3]at e2;cases e2
  |some b=>
   rw[e3]at e2;have e4:V.int b=x:=YMO e2;subst e4;obtain⟨t,ht⟩:=ru;exact⟨b,t,Z,ht⟩
end
end L2
namespace L2
open PySem PySem.Spec PyProof.Rows
section
open PySem.W
variable {K:W.Frag}{M:Model}
end
section
variable {X:Cx}
end
end L2
namespace L2
open PySem PySem.Spec PyProof.Rows
section
variable {X:Cx}
end
theorem YB8 {α:Type}{J:It}{item:Nat->V->Hp->Prop}{tc:TT}{te:TE}{Q:VK}{H:Hp}{l:Addr}{τ:St}{g:TG} (ds:List α) (f:α->Option V) (hJ:YH5 J ds.length H item) (hp:YR H)
  (hl:H l=none) (hz:ds.length<=sizeLine) (keep:St->Prop) (hk0:keep τ)
  (ht:∀(τ':St) (k:Nat) (d:α) (x:V) (H':Hp) (Q1:St->VK) (Q2:St->Hp->Prop),keep τ'->ds[k]?=some d->item k x H'->YN H H'->YR H'->(∀y τ4 H6,keep τ4->YN H' H6->YR H6->f d=some y->Q1 τ4 y H6)->(∀τ4 H6,keep τ4->YN H' H6->YR H6->f d=none->Q2 τ4 H6)->
   g x τ' H' λτ4 H4=>tc τ4 H4 λb H5=>if b=true then te τ4 H5 (Q1 τ4) else Q2 τ4 H5)
  (hq:∀H',YN H H'->YR H'->H' l=some (.lst (ds.filterMap f))->Q (.ref l) H'):YAw J g tc te Q l τ H:=by
 refine YIk ds.length (λi ys τ' H2=>i<=ds.length/\ys=(ds.take i).filterMap f/\keep τ'/\YN H H2/\YR H2/\H2 l=some (.lst ys)) ⟨YMI _,Z,hk0,YN.upd hl,hp.upd rfl,YD⟩ ?_ ?_
 ·rintro i ys τ' H2 N hlt ⟨hi,rfl,hk,hs,lL,hll⟩ hN;obtain⟨hgo,_⟩:=hJ i _ hs lL;obtain⟨h1,h2⟩:=hgo hlt;refine⟨h1,λx H3 hy=>?_⟩;obtain⟨s3,p3,it⟩:=h2 x H3 hy;have e:ds[i]?=some ds[i]:=YLs hlt;have et:(ds.take (i + 1)).filterMap f=(ds.take i).filterMap f ++ (f ds[i]).toList:=by
   rw[YMb,e,List.filterMap_append];have:(some ds[i]).toList.filterMap f=(f ds[i]).toList:=by
    cases hf:f ds[i] with
    |none=>simp[hf]
    |some y=>simp[hf]
   rw[this]
  have hlen:((ds.take i).filterMap f).length<=i:=YMP (List.length_filterMap_le ..) (by rw[YMp];lia);refine ht τ' i ds[i] x H3 (λτ4 y H6=>H6 l=some (.lst ((ds.take i).filterMap f))/\((ds.take i).filterMap f).length < sizeLine/\N ((ds.take i).filterMap f ++ [y]) τ4 (upd H6 l (.lst ((ds.take i).filterMap f ++ [y]))))
   (λτ4 H5=>N ((ds.take i).filterMap f) τ4 H5) hk e it (hs.trans s3) p3 (λy τ4 H6 k4 s6 p6 ef=>?_) λτ4 H6 k4 s6 p6 ef=>?_
  ·rw[ef]at et;have yJ:H6 l=some (.lst ((ds.take i).filterMap f)):=s6 _ _ (s3 _ _ hll);exact⟨yJ,by lia,hN _ _ _ ⟨hlt,et.symm,k4,((hs.trans s3).trans s6).put hl,p6.upd rfl,YD⟩⟩
  ·rw[ef]at et;have et:(ds.take (i + 1)).filterMap f=(ds.take i).filterMap f:=by rw[et];exact YMZ _
   exact hN _ _ _ ⟨hlt,et.symm,k4,(hs.trans s3).trans s6,p6,s6 _ _ (s3 _ _ hll)⟩
 ·rintro ys τ' H2 ⟨_,rfl,_,hs,lL,hll⟩;rw[YMn]at hll;exact⟨(hJ ds.length _ hs lL).2,hq _ hs lL hll⟩
end L2
namespace L2
open PySem PySem.Spec PyProof.Rows
section
variable {X:Cx}
end
end L2
namespace FR
open PySem L2
def JR (c:Nat):Bool:=decide (32<=c) && decide (c<=126) && !decide (c=37)
def Zg (c:Nat):Bool:=decide (65<=c) && decide (c<=90)
def XV (z:Str):Bool:=z.cps.size == 2 && z.cps[0]? == some 39 && JR (z.cps.getD 1 0)
def isNameS (z:Str):Bool:=decide (1<=z.cps.size) && decide (z.cps.size<=8) && z.cps.toList.all Zg
def Jh (z:Str):Bool:=decide (z.cps.size<=60) && z.cps.toList.all JR
def YB9:D->Bool
 |.str z=>XV z
 |_=>false
def isNameD:D->Bool
 |.str z=>isNameS z
 |_=>false
def XW (d:D):Bool:=YB9 d || isNameD d
def YCA:D->Bool
 |.str z=>Jh z
 |_=>false
def YDl:D->Bool
 |.int _=>true
 |_=>false
def Y8:D->Bool
 |.int i=>decide (0<=i) && decide (i<=10 ^ 60)
 |_=>false
def Xc:D->Bool
 |.tup ds=>decide (ds.length<=6) && ds.all XW
 |_=>false
def JF:D->Bool
 |.tup [h,p,w]=>isNameD h && (Xc p && Y8 w)
 |_=>false
def X4:D->Bool
 |.lst ds=>decide (ds.length<=60) && ds.all JF
 |_=>false
mutual
def _root_.L2.D.short:D->Bool
 |.str z=>decide (z.length<=1000)
 |.lst ds=>XH ds
 |.tup ds=>XH ds
 |_=>true
def XH:List D->Bool
 |[]=>true
 |d :: ds=>d.short && XH ds
end
theorem JX:∀{xs:List D}{d:D},XH xs=true->d∈xs->d.short=true
 |x :: xs,d,h,hd=>by
  unfold XH at h;rw[YL5]at h;rcases YMA.mp hd with rfl |hd
  ·exact h.1
  ·exact JX h.2 hd
theorem YAK:∀{xs:List D},(∀d∈xs,d.short=true)->XH xs=true
 |[],_=>by unfold XH;rfl
 |x :: xs,h=>by unfold XH;rw[h x YMG,YAK λd hd=>h d (YL6 _ hd)];rfl
theorem YCZ {z:Str} (h:z.length<=1000):(D.str z).short=true:=by unfold D.short;exact YLw h
theorem YJm {z:Str} (h:(D.str z).short=true):z.length<=1000:=by unfold D.short at h;exact YME h
theorem YH {n:Nat} (h:n<=1000):n<=sizeLine:=YMP h (by rw[sizeLine_eq];decide)
theorem YBj {z:Str} (h:(D.str z).short=true):z.length<=sizeLine:=YH (YJm h)
def isStrD:D->Bool |.str _=>true |_=>false
def isListD:D->Bool |.lst _=>true |_=>false
def isTupD:D->Bool |.tup _=>true |_=>false
def YIp:D->Bool |.bl _=>true |_=>false
def isIntD:D->Bool |.int _=>true |.bl _=>true |_=>false
section
variable {K:W.Frag}
theorem kit_int (d:D):PySem.W.kitOne K (.type (tyD d)) (.type "int")=some (isIntD d):=by cases d <;> kernel_rfl
theorem YK1 (d:D):PySem.W.kitOne K (.type (tyD d)) (.type "bool")=some (YIp d):=by cases d <;> kernel_rfl
theorem YFs (d:D):PySem.W.kitOne K (.type (tyD d)) (.type "str")=some (isStrD d):=by cases d <;> kernel_rfl
theorem YK2 (d:D):PySem.W.kitOne K (.type (tyD d)) (.type "list")=some (isListD d):=by cases d <;> kernel_rfl
theorem YCa (d:D):PySem.W.kitOne K (.type (tyD d)) (.type "tuple")=some (isTupD d):=by cases d <;> kernel_rfl
end
theorem Xm (z:Str):z.length=z.cps.size:=rfl
theorem le_A (c:Nat):(!decide (([c]:List Nat) < (("A":Str)).cps.toList))=decide (65<=c):=by
 have e:(("A":Str)).cps.toList=[65]:=by decide +kernel
 rw[e]
 by_cases h:65<=c
 ·rw[YLw h,YLz (by rw[List.cons_lt_cons_iff];simp;lia)];rfl
 ·rw[YLz h,YLw (by rw[List.cons_lt_cons_iff];left;lia)];rfl
theorem le_Z (c:Nat):(!decide ((("Z":Str)).cps.toList < ([c]:List Nat)))=decide (c<=90):=by
 have e:(("Z":Str)).cps.toList=[90]:=by decide +kernel
 rw[e]
 by_cases h:c<=90
 ·rw[YLw h,YLz (by rw[List.cons_lt_cons_iff];simp;lia)];rfl
 ·rw[YLz h,YLw (by rw[List.cons_lt_cons_iff];left;lia)];rfl
theorem YK3 (g:Nat->Bool) (l:List Nat):l.map (λc=>V.bl (g c))=(l.map g).map V.bl:=by rw[YNG];rfl
theorem Xn {α:Type} (g:α->Bool) (l:List α):(l.map g).all id=l.all g:=by rw[List.all_map];rfl
theorem YH8 {ys:List V}{ds:List D}{g:D->Bool} (hl:ys.length=ds.length) (h:∀(k:Nat) (y:V),ys[k]?=some y->∃d,ds[k]?=some d/\y=.bl (g d)):ys=(ds.map g).map V.bl:=by
 refine YNV λk=>?_
 by_cases hk:k < ys.length
 ·obtain⟨d,hd,hy⟩:=h k ys[k] (YLs hk);rw[YLs hk,YLt,YLt,hd,hy];rfl
 ·rw[YMf (by lia),YMf (by rw[YLp,YLp];lia)]
theorem XB {te:TE}{σ:St}{H:Hp}{R:VK}{b g:Bool} (ht:b=true->∀R:VK,R (.bl g) H->te σ H R) (h:R (.bl (b && g)) H):if b=true then te σ H R else R (.bl false) H:=by
 cases b with
 |true=>exact ht rfl R h
 |false=>exact h
theorem or_read {te:TE}{σ:St}{H:Hp}{R:VK}{b g:Bool} (ht:b=false->∀R:VK,R (.bl g) H->te σ H R) (h:R (.bl (b || g)) H):if b=true then R (.bl true) H else te σ H R:=by
 cases b with
 |true=>exact h
 |false=>exact ht rfl R h
inductive spIs_ (g:D->Bool) (vs:List V) (H:Hp) (Q:VK):Prop where
 |mk (x:_) (d:_) (a_:vs=[x]) (bc:Den H x d) (bJ:d.short=true) (cA:YR H) (dm:Q (.bl (g d)) H):spIs_ g vs H Q
def Xy (g:D->Bool):Sp:=λvs H Q E_=>spIs_ g vs H Q
inductive YE6 (vs:List V) (H:Hp) (Q:VK):Prop where
 |mk (c:_) (a_:vs=[.str ⟨#[c]⟩]) (bc:Q (.bl (JR c)) H):YE6 vs H Q
def YDm:Sp:=λvs H Q E_=>YE6 vs H Q
inductive YDn (C:Addr) (vs:List V) (H:Hp) (Q:VK) (E:XK):Prop where
 |mk (x:_) (d:_) (a_:vs=[x]) (bc:Den H x d) (bJ:d.short=true) (cA:YR H) (dm:(X4 d=true->∀(l:Addr) (xs:List V) (ds:List D),d=.lst ds->Yh H xs ds->H l=none->Q (.ref l) (upd H l (.lst xs)))) (gM:(X4 d=false->E (.ref C) none H)):YDn C vs H Q E
def YCb (C:Addr):Sp:=λvs H Q E=>YDn C vs H Q E
theorem YDo {b:Bool} (h:(!b)=true):b=false:=by cases b <;> first |rfl |cases h
theorem YE7 {b:Bool} (h:¬(!b)=true):b=true:=by cases b <;> first |rfl |exact absurd rfl h
inductive YCx (C:Addr) (vs:List V) (H:Hp) (Q:VK) (E:XK):Prop where
 |mk (x:_) (d:_) (a_:vs=[x]) (bc:Den H x d) (bJ:d.short=true) (cA:YR H) (dm:(∀z,d=.str z->Jh z=true->Q (.str z) H)) (gM:(YCA d=false->E (.ref C) none H)):YCx C vs H Q E
def YDp (C:Addr):Sp:=λvs H Q E=>YCx C vs H Q E
abbrev Yp:=Str×List Str×Int
abbrev Yl:=List Yp
def ZR (r:Yp):D:=.tup [.str r.1,.tup (r.2.1.map D.str),.int r.2.2]
def YAk (g:Yl):D:=.lst (g.map ZR)
def Yo (z:Str):Bool:=XV z || isNameS z
def JJ (r:Yp):Bool:=isNameS r.1 && ((decide (r.2.1.length<=6) && r.2.1.all Yo) && (decide (0<=r.2.2) && decide (r.2.2<=10 ^ 60)))
def Yu (g:Yl):Bool:=decide (g.length<=60) && g.all JJ
theorem YEV (r:Yp):JF (ZR r)=JJ r:=by
 obtain⟨h,ps,w⟩:=r;show(isNameD (.str h) && (Xc (.tup (ps.map D.str)) && Y8 (.int w)))=_;show(isNameS h && ((decide ((ps.map D.str).length<=6) && (ps.map D.str).all XW) && (decide (0<=w) && decide (w<=10 ^ 60))))=_;rw[YLp,List.all_map];rfl
theorem YAA (g:Yl):X4 (YAk g)=Yu g:=by
 show(decide ((g.map ZR).length<=60) && (g.map ZR).all JF)=_;rw[YLp,List.all_map];unfold Yu;congr 1;congr 1;funext r;exact YEV r
theorem YIq:∀{ds:List D},ds.all XW=true->∃ps:List Str,ds=ps.map D.str
 |[],_=>⟨[],Z⟩
 |d :: ds,h=>by
  rw[YNO,YL5]at h;obtain⟨ps,rfl⟩:=YIq h.2;cases d with
  |str z=>exact⟨z :: ps,Z⟩
  |_=>cases h.1
theorem rule_of {d:D} (h:JF d=true):∃r:Yp,d=ZR r:=by
 unfold JF at h;split at h
 ·rename_i a b c
  rw[YL5,YL5]at h;obtain⟨h1,h2,h3⟩:=h;cases a with
  |str z=>
   cases b with
   |tup ds=>
    cases c with
    |int w=>
     unfold Xc at h2;rw[YL5]at h2;obtain⟨ps,rfl⟩:=YIq h2.2;exact⟨(z,ps,w),Z⟩
    |_=>cases h3
   |_=>cases h2
  |_=>cases h1
 ·cases h
theorem gram_of {d:D} (h:X4 d=true):∃g:Yl,d=YAk g/\Yu g=true:=by
 cases d with
 |lst ds=>
  have h0:=h;unfold X4 at h;rw[YL5]at h;have go:∀(ds:List D),ds.all JF=true->∃g:Yl,ds=g.map ZR:=by
   intro ds
   induction ds with
   |nil=>exactλ_=>⟨[],Z⟩
   |cons d ds ih=>
    intro hd;rw[YNO,YL5]at hd;obtain⟨g,rfl⟩:=ih hd.2;obtain⟨r,rfl⟩:=rule_of hd.1;exact⟨r :: g,Z⟩
  obtain⟨g,rfl⟩:=go ds h.2;refine⟨g,Z,?_⟩;rw[<-YAA];exact h0
 |_=>cases h
theorem YK4 {H:Hp}{v:V}{r:Yp} (h:Den H v (ZR r)):∃t p,v=.ref t/\H t=some (.tup [.str r.1,.ref p,.int r.2.2])/\H p=some (.tup (r.2.1.map V.str)):=by
 obtain⟨t,xs,rfl,ht,hds⟩:=h.to_tup
 match xs,hds with
 |[x0,x1,x2],hds=>
  obtain⟨_,e0,n0⟩:=hds.get (i:=0) (v:=x0) rfl;obtain⟨_,e1,n1⟩:=hds.get (i:=1) (v:=x1) rfl;obtain⟨_,e2,n2⟩:=hds.get (i:=2) (v:=x2) rfl;cases e0;cases e1;cases e2;have f0:=n0.to_str;have f2:=n2.to_int;obtain⟨p,ys,f1,hp,hys⟩:=n1.to_tup;subst f0 f1 f2;refine⟨t,p,Z,ht,?_⟩;have:ys=r.2.1.map V.str:=by
   refine YNV λi=>?_
   cases e:ys[i]? with
   |none=>
    have h1:=List.getElem?_eq_none_iff.mp e;have h2:=hys.len;rw[YLp]at h2;rw[YMf (by rw[YLp];lia)]
   |some y=>
    obtain⟨d,hd,dn⟩:=hys.get e;rw[YLt]at hd ⊢;cases e2:r.2.1[i]? with
    |none=>rw[e2]at hd;cases hd
    |some z=>
     rw[e2]at hd;cases hd;rw[dn.to_str];rfl
  rw[hp,this]
 |[],h=>exact absurd h.len (by simp)
 |[_],h=>exact absurd h.len (by simp)
 |[_,_],h=>exact absurd h.len (by simp)
 |_ :: _ :: _ :: _ :: _,h=>exact absurd h.len (by simp)
theorem YK5 {H:Hp}{v:V}{g:Yl} (h:Den H v (YAk g)):∃a xs,v=.ref a/\Rd H a (.lst xs)/\Yh H xs (g.map ZR):=h.to_lst
theorem J5 {H:Hp}{xs:List V}{g:Yl} (h:Yh H xs (g.map ZR)) {i:Nat}{v:V} (e:xs[i]?=some v):
  ∃r t p,g[i]?=some r/\v=.ref t/\H t=some (.tup [.str r.1,.ref p,.int r.2.2])/\H p=some (.tup (r.2.1.map V.str)):=by
 obtain⟨d,hd,dn⟩:=h.get e;rw[YLt]at hd;cases e2:g[i]? with
 |none=>rw[e2]at hd;cases hd
 |some r=>
  rw[e2]at hd;cases hd;obtain⟨t,p,e3,e4,e5⟩:=YK4 dn;exact⟨r,t,p,Z,e3,e4,e5⟩
theorem YDq:∀{xs:List D}{n:Nat},(∀d∈xs,d.dep<=n)->YFp xs<=n
 |[],n,_=>by unfold YFp;exact YMI _
 |x :: xs,n,h=>by
  unfold YFp;exact Nat.max_le.mpr ⟨h x YMG,YDq λd hd=>h d (YL6 _ hd)⟩
theorem ok_lst {xs:List D} (h:∀d∈xs,d.ok=true):(D.lst xs).ok=true:=by unfold D.ok;exact YKx h
theorem ok_str (z:Str):(D.str z).ok=true:=by unfold D.ok;rfl
theorem dep_lst {xs:List D}{n:Nat} (h:∀d∈xs,d.dep<=n):(D.lst xs).dep<=n + 1:=by unfold D.dep;exact Nat.succ_le_succ (YDq h)
theorem dep_str (z:Str):(D.str z).dep=0:=by unfold D.dep;rfl
theorem YDM (zs:List Str):(D.lst (zs.map D.str)).ok=true:=ok_lst λd hd=>by
 obtain⟨z,_,rfl⟩:=YMD.mp hd;exact ok_str z
theorem YCB (zs:List Str):(D.lst (zs.map D.str)).dep<=64:=YMP (dep_lst (n:=0) λd hd=>by
 obtain⟨z,_,rfl⟩:=YMD.mp hd;rw[dep_str];exact YLr _) (by decide)
theorem YE8 {z:Str} (h:isNameS z=true):z.length<=8:=by
 unfold isNameS at h;rw[YL5,YL5]at h;exact YME h.1.2
theorem YGf {z:Str} (h:Yo z=true):z.length<=8:=by
 unfold Yo at h;rw[Bool.or_eq_true]at h;rcases h with h |h
 ·unfold XV at h;rw[YL5,YL5,beq_iff_eq]at h;show z.cps.size<=8
  lia
 ·exact YE8 h
theorem YH9 {r:Yp} (h:JJ r=true):(ZR r).short=true:=by
 unfold JJ at h;simp only[YL5]at h;obtain⟨h1,⟨h2,h3⟩,h4⟩:=h;unfold ZR D.short;refine YAK λd hd=>?_
 simp only[YMA,YMo,or_false]at hd;rcases hd with rfl |rfl |rfl
 ·exact YCZ (YMP (YE8 h1) (by decide))
 ·unfold D.short;refine YAK λd hd=>?_
  obtain⟨z,hz,rfl⟩:=YMD.mp hd;exact YCZ (YMP (YGf (YMR.mp h3 z hz)) (by decide))
 ·unfold D.short;rfl
theorem YIA {g:Yl} (h:Yu g=true):(YAk g).short=true:=by
 unfold Yu at h;rw[YL5]at h;unfold YAk D.short;refine YAK λd hd=>?_
 obtain⟨r,hr,rfl⟩:=YMD.mp hd;exact YH9 (YMR.mp h.2 r hr)
theorem XX {g:Yl} (h:Yu g=true):g.length<=60:=by
 unfold Yu at h;rw[YL5]at h;exact YME h.1
def oV:Option Int->V
 |none=>.non
 |some i=>.int i
inductive YIr (K:W.Frag) (vs:List V) (H:Hp) (Q:VK):Prop where
 |mk (a:Addr) (ns:List Int) (k:Int) (a_:vs=[.ref a,.int k]) (bc:SqL K H a (ns.map V.int)) (bJ:0<=k) (cA:∀v:Int,Q (.int v) H):YIr K vs H Q
def YFt (K:W.Frag):Sp:=λvs H Q E_=>YIr K vs H Q
inductive YK6 (K:W.Frag) (vs:List V) (H:Hp) (Q:VK):Prop where
 |mk (a:Addr) (ns:List Int) (a_:vs=[.ref a]) (bc:SqL K H a (ns.map V.int)) (bJ:ns.length<=63) (cA:YR H) (dm:∀H',Q (.bl true) H'):YK6 K vs H Q
def YGg (K:W.Frag):Sp:=λvs H Q E_=>YK6 K vs H Q
theorem YJn {K:W.Frag}{H:Hp}{a:Addr}{ns:List Int} (hl:ns.length<=63) (hO:Only H) (hS:SqL K H a (ns.map V.int)):YGg K [.ref a] H (λv _=>v=.bl true) λ_ _ _=>False:=
 ⟨a,ns,Z,hS,hl,YH7 hO,λ_=>rfl⟩
def YIs (l:List Nat):Bool:=decide (1<=l.length) && decide (l.length<=8) && l.all Zg
theorem YCy (z:Str):isNameS z=YIs z.cps.toList:=by
 unfold isNameS YIs;rw[YMM]
def BIG:Str:="ABCDEFGHIJKLMNOPQRSTUVWXYZ"
theorem YK7:BIG.cps.toList=(List.range 26).map (65 + ·):=by decide +kernel
theorem YFu:BIG.cps.toList.length=26:=by decide +kernel
theorem YDr:BIG.length<=sizeLine:=YH (by decide +kernel)
theorem YBk {c:Nat} (h:c∈BIG.cps.toList):Zg c=true:=by
 rw[YK7]at h;obtain⟨k,hk,rfl⟩:=YMD.mp h;have:=YMy.mp hk;unfold Zg;rw[YLw (by lia),YLw (by lia)];rfl
theorem YAL (a b:Str):(a ++ b).cps.toList=a.cps.toList ++ b.cps.toList:=by
 show(a.cps ++ b.cps).toList=_;exact Array.toList_append
def strOf:Expr->Str
 |.Constant (.str x) _ _=>x
 |.BinOp _ _ b _=>strOf b
 |_=>⟨#[]⟩
def valOf:Stmt->Str
 |.Assign _ v _=>strOf v
 |.Return (some v) _=>strOf v
 |_=>⟨#[]⟩
def YFv (s:Stmt) (i:Nat):Str:=valOf ((JD s).getD i (.Pass ⟨0,0,0,0⟩))
def YCc:List Nat:=(List.range 95).filterMap λk=>if k=5 then none else some (32 + k)
theorem YIB {c:Nat} (h:c∈YCc):JR c=true:=by
 obtain⟨k,hk,e⟩:=List.mem_filterMap.mp h;have:=YMy.mp hk;unfold JR;split at e
 ·cases e
 ·cases e;rw[YLw (by lia),YLw (by lia),YLz (by lia)];rfl
theorem YJo:YCc.length=94:=by decide +kernel
theorem q_list:(("'":Str)).cps.toList=[39]:=by decide +kernel
theorem YGh (c:Nat):(("'":Str) ++ ⟨#[c]⟩).cps=#[39,c]:=by
 apply Array.ext';rw[YAL,q_list];rfl
theorem YJp {c:Nat} (h:JR c=true):XV (("'":Str) ++ ⟨#[c]⟩)=true:=by
 unfold XV;rw[YGh];show(true && JR c)=true;rw[h];rfl
theorem YJq {c:Nat} (h:JR c=true):Yo (("'":Str) ++ ⟨#[c]⟩)=true:=by
 unfold Yo;rw[YJp h];rfl
theorem YJr {r:Yp} (h1:isNameS r.1=true) (h2:r.2.1.length<=6) (h3:∀z∈r.2.1,Yo z=true) (h4:0<=r.2.2) (h5:r.2.2<=10 ^ 60):JJ r=true:=by
 unfold JJ;have a:r.2.1.all Yo=true:=YMR.mpr h3;rw[h1,YLw h2,a,YLw h4,YLw h5];rfl
theorem YBl {ys:List V}{P:Str->Prop} (h:∀(k:Nat) (y:V),ys[k]?=some y->∃z,y=.str z/\P z):∃zs:List Str,ys=zs.map V.str/\∀z∈zs,P z:=by
 induction ys with
 |nil=>exact⟨[],Z,by simp⟩
 |cons y ys ih=>
  obtain⟨zs,rfl,hz⟩:=ih λk y e=>h (k + 1) y (by simpa using e)
  obtain⟨z,rfl,pz⟩:=h 0 y rfl;exact⟨z :: zs,Z,λx hx=>(YMA.mp hx).elim (λe=>by rw[e];exact pz) (hz x)⟩
theorem YK8 {x:Str}{j:Int} (h0:0<=j) (h1:j<=x.length):(Txt.slice x none (some j)).cps.toList=x.cps.toList.take j.toNat:=by
 have h:=PyProof.Rows.slice_closes_to (x:=x) (j:=j) ⟨h0,by rw[YMM];exact h1⟩;have e:=eq_of_beq h;rw[e];show((x.cps.toList.drop (0:Int).toNat).take (j - 0).toNat)=_;rw[Int.sub_zero];rfl
theorem YIC {x:Str}{i:Int} (h0:0<=i) (h1:i<=x.length):(Txt.slice x (some i) none).cps.toList=x.cps.toList.drop i.toNat:=by
 have e:=PyProof.Rows.slice_from_eq (x:=x) (i:=i) (b:=x.length) h0 h1 rfl;rw[e];show((x.cps.toList.drop i.toNat).take ((x.length:Int) - i).toNat)=_;refine YM6 ?_;rw[YM5,YMM];have:x.length=x.cps.size:=rfl
 lia
abbrev Sz:=List (Str×Int)
def szD (s:Sz):List (Key×V):=s.map λp=>(Sum.inr p.1,.int p.2)
def look (s:Sz) (z:Str):Option Int:=(s.find? λp=>decide (p.1=z)).map (·.2)
def Xz:Sz->Str->Int->Sz
 |[],z,n=>[(z,n)]
 |p :: s,z,n=>if p.1=z then (z,n) :: s else p :: Xz s z n
theorem Jx (p:Str×Int) (s:Sz) (z:Str):look (p :: s) z=if p.1=z then some p.2 else look s z:=by
 unfold look;rw[YNU]
 by_cases h:p.1=z
 ·rw[YLw h,if_pos h];rfl
 ·rw[YLz h,if_neg h]
theorem Xo (s:Sz) (z y:Str) (n:Int):look (Xz s z n) y=if y=z then some n else look s y:=by
 induction s with
 |nil=>
  show look [(z,n)] y=_;rw[Jx]
  by_cases h:y=z
  ·rw[if_pos h,if_pos h.symm]
  ·rw[if_neg h,if_neg (λe=>h e.symm)]
 |cons p s ih=>
  unfold Xz
  by_cases hp:p.1=z
  ·rw[if_pos hp,Jx,Jx]
   by_cases h:y=z
   ·rw[if_pos h,if_pos h.symm]
   ·rw[if_neg h,if_neg (λe=>h e.symm),if_neg (λe=>h (e.symm.trans hp))]
  ·rw[if_neg hp,Jx,Jx,ih]
   by_cases h:y=z
   ·rw[if_pos h,if_neg (λe=>hp (e.trans h))];rw[if_pos h]
   ·rw[if_neg h];simp only[if_neg h]
theorem XC {s:Sz}{z:Str}{n:Int} (h:look s z=some n):(z,n)∈s:=by
 unfold look at h;cases e:s.find? λp=>decide (p.1=z) with
 |none=>rw[e]at h;cases h
 |some p=>
  rw[e]at h;have h1:=List.find?_some e;have h2:p.1=z:=YME h1;have h3:p.2=n:=YMO h;have:=YNQ e;rw[<-h2,<-h3];exact this
theorem YCd {s:Sz}{z:Str} (h:look s z=none):¬z∈s.map (·.1):=by
 intro m;obtain⟨p,hp,e⟩:=YMD.mp m;unfold look at h;cases e2:s.find? λp=>decide (p.1=z) with
 |some q=>rw[e2]at h;cases h
 |none=>
  have:=List.find?_eq_none.mp e2 p hp;exact this (YLw e)
theorem X5 {s:Sz} (nd:(s.map (·.1)).Nodup) {z:Str}{n:Int} (h:(z,n)∈s):look s z=some n:=by
 induction s with
 |nil=>cases h
 |cons p s ih=>
  rw[YMQ,YMu]at nd;rw[Jx];rcases YMA.mp h with e |h
  ·rw[<-e,if_pos rfl]
  ·rw[if_neg,ih nd.2 h];intro e;exact nd.1 (e ▸ YMD.mpr ⟨_,h,Z⟩)
theorem YGi (s:Sz) (z:Str) (n:Int):(Xz s z n).map (·.1)=if z∈s.map (·.1) then s.map (·.1) else s.map (·.1) ++ [z]:=by
 induction s with
 |nil=>rfl
 |cons p s ih=>
  unfold Xz
  by_cases h:p.1=z
  ·rw[if_pos h,if_pos (by rw[YMQ,h];exact YMG ..),YMQ,YMQ,h]
  ·rw[if_neg h,YMQ,ih,YMQ]
   by_cases m:z∈s.map (·.1)
   ·rw[if_pos m,if_pos (YL6 _ m)]
   ·rw[if_neg m,if_neg (λe=>(YMA.mp e).elim (λe=>h e.symm) m)];rfl
theorem Z9 (z:Str):∀s:Sz,Zo (szD s) (Sum.inr z)=(look s z).map V.int
 |[]=>rfl
 |p :: s=>by
  show Zo ((Sum.inr p.1,V.int p.2) :: szD s) (Sum.inr z)=_;rw[Jx]
  by_cases e:p.1=z
  ·rw[Zp (by rw[e]),if_pos e];rfl
  ·rw[Zz (λh=>e (Sum.inr.inj h)),Z9 z s,if_neg e]
theorem YIt {s:Sz} (nd:(s.map (·.1)).Nodup) (z:Str) (n:Int):Za (szD s) (Sum.inr z) (.int n)=szD (Xz s z n):=by
 induction s with
 |nil=>rfl
 |cons p s ih=>
  rw[YMQ,YMu]at nd;unfold Xz
  by_cases e:p.1=z
  ·rw[if_pos e];have:Zo (szD (p :: s)) (Sum.inr z)=some (.int p.2):=by
    show Zo ((Sum.inr p.1,V.int p.2) :: szD s) (Sum.inr z)=_;rw[Zp (by rw[e])]
   unfold Za;rw[Xk,this,if_pos (show(some (V.int p.snd)).isSome=true from rfl)];show((Sum.inr p.1,V.int p.2) :: szD s).map _=(Sum.inr z,V.int n) :: szD s;rw[YMQ];congr 1
   ·show(if (Sum.inr p.1:Key)=Sum.inr z then _ else _)=_;rw[if_pos (by rw[e]),e]
   ·refine(YM0 λq hq=>?_).trans (List.map_id _);obtain⟨r,hr,rfl⟩:=YMD.mp hq;show(if (Sum.inr r.1:Key)=Sum.inr z then _ else _)=_;rw[if_neg]
    ·rfl
    ·intro h;exact nd.1 (by rw[e,<-Sum.inr.inj h];exact YMD.mpr ⟨r,hr,Z⟩)
  ·rw[if_neg e];have ih:=ih nd.2;show Za ((Sum.inr p.1,V.int p.2) :: szD s) (Sum.inr z) (.int n)=(Sum.inr p.1,V.int p.2) :: szD (Xz s z n);rw[<-ih];unfold Za;have e1:(((Sum.inr p.1,V.int p.2) :: szD s).any λkv=>decide (kv.1=(Sum.inr z:Key)))=(szD s).any λkv=>decide (kv.1=(Sum.inr z:Key)):=by
    rw[List.any_cons,YLz (λh=>e (Sum.inr.inj h))];rfl
   rw[e1];split
   ·rw[YMQ];congr 1;show(if (Sum.inr p.1:Key)=Sum.inr z then _ else _)=_;rw[if_neg (λh=>e (Sum.inr.inj h))]
   ·rfl
def isQ (p:Str):Bool:=Txt.startswith p "'"
def XM (s:Sz) (q:Int) (p:Str):Option Int:=if isQ p=true then some q else look s p
def JG (s:Sz) (q:Int):List Str->Int->Option Int
 |[],acc=>some acc
 |p :: ps,acc=>match XM s q p with
  |none=>none
  |some m=>JG s q ps (acc + m)
def YAl (s:Sz) (q:Int) (ps:List Str):Option Int:=JG s q ps 1
def LeS (s' s:Sz):Prop:=∀z v,look s z=some v->∃v',look s' z=some v'/\v'<=v
theorem YAZ {s s':Sz}{q:Int} (h:LeS s' s):∀{ps:List Str}{a a' k:Int},a'<=a->JG s q ps a=some k->∃k',JG s' q ps a'=some k'/\k'<=k
 |[],a,a',k,ha,e=>by
  unfold JG at e ⊢;cases e;exact⟨_,Z,ha⟩
 |p :: ps,a,a',k,ha,e=>by
  unfold JG at e ⊢;unfold XM at e ⊢
  by_cases hq:isQ p=true
  ·rw[if_pos hq]at e ⊢;exact YAZ h (by lia) e
  ·rw[if_neg hq]at e ⊢;cases e1:look s p with
   |none=>rw[e1]at e;cases e
   |some v=>
    rw[e1]at e;obtain⟨v',e2,hv⟩:=h p v e1;rw[e2];exact YAZ h (show a' + v'<=a + v by lia) e
theorem YGj {s:Sz}{q B:Int} (hq:q<=B) (hs:∀z v,look s z=some v->v<=B):∀{ps:List Str}{a k:Int},JG s q ps a=some k->k<=a + ps.length * B
 |[],a,k,e=>by
  unfold JG at e;cases e;simp
 |p :: ps,a,k,e=>by
  unfold JG at e;cases e1:XM s q p with
  |none=>rw[e1]at e;cases e
  |some m=>
   rw[e1]at e;have hm:m<=B:=by
    unfold XM at e1;split at e1
    ·cases e1;exact hq
    ·exact hs p m e1
   have:=YGj hq hs e;rw[YL8,show(((ps.length + 1:Nat):Int)) * B=ps.length * B + B by rw[Int.natCast_add];show((ps.length:Int) + 1) * B=_;rw[YNR,Int.one_mul]]
   lia
theorem YGk {s:Sz}{q:Int} (hq:0<=q) (hs:∀z v,look s z=some v->0<=v):∀{ps:List Str}{a k:Int},JG s q ps a=some k->a<=k
 |[],a,k,e=>by
  unfold JG at e;cases e;exact YMi _
 |p :: ps,a,k,e=>by
  unfold JG at e;cases e1:XM s q p with
  |none=>rw[e1]at e;cases e
  |some m=>
   rw[e1]at e;have hm:0<=m:=by
    unfold XM at e1;split at e1
    ·cases e1;exact hq
    ·exact hs p m e1
   have:=YGk hq hs e
   lia
def bnd (q:Int) (n:Nat):Int:=(1 + 6 * q) * 7 ^ n
theorem YIu {q:Int} (hq:0<=q) (n:Nat):1 + 6 * q<=bnd q n:=by
 unfold bnd;have h1:(1:Int)<=7 ^ n:=Int.pow_pos (by decide:(0:Int) < 7);have:=YNf h1 (show 0<=1 + 6 * q by lia);rw[Int.mul_one]at this;exact this
theorem YGl (q:Int) (n:Nat):bnd q (n + 1)=7 * bnd q n:=by
 unfold bnd;rw[Int.pow_succ,<-Int.mul_assoc,Int.mul_comm]
theorem YGm {q:Int} (hq:0<=q) {m n:Nat} (h:m<=n):bnd q m<=bnd q n:=by
 induction h with
 |refl=>exact YMi _
 |step _ ih=>
  rename_i k _
  rw[YGl];have h2:=YIu hq k
  lia
structure YA2 (g:Yl) (q:Int) (s:Sz):Prop where
 nd:(s.map (·.1)).Nodup
 pos:∀z v,look s z=some v->1<=v
 bd:∀z v,look s z=some v->v<=bnd q s.length
 hd:∀z v,look s z=some v->∃r∈g,r.1=z/\∃m,YAl s q r.2.1=some m/\m<=v
def Fix (g:Yl) (q:Int) (s:Sz):Prop:=∀r∈g,∀m,YAl s q r.2.1=some m->∃v,look s r.1=some v/\v<=m
theorem YBP {κ:Type}:∀{l:List κ}{k:κ},l.Nodup->¬k∈l->(l ++ [k]).Nodup
 |[],k,_,_=>by simp
 |a :: r,k,h,hk=>by
  obtain⟨h1,h2⟩:=YMu.mp h;show(a :: (r ++ [k])).Nodup;refine YMu.mpr ⟨λm=>?_,YBP h2 λm=>hk (YMA.mpr (Or.inr m))⟩;rcases YMN.mp m with q |q
  ·exact h1 q
  ·exact hk (YMA.mpr (Or.inl (YL1.mp q).symm))
theorem YE9 {xs ys:List Str} (h:xs.Nodup) (hs:∀x∈xs,x∈ys):xs.length<=ys.length:=by
 induction xs generalizing ys with
 |nil=>exact YMI _
 |cons x xs ih=>
  rw[YMu]at h;have hx:=hs x (YMG ..);have:=ih (ys:=ys.erase x) h.2 λy hy=>by
   have hne:y≠x:=λe=>h.1 (e ▸ hy)
   exact(List.mem_erase_of_ne hne).mpr (hs y (YL6 _ hy))
  rw[List.length_erase_of_mem hx]at this;have hpos:=List.length_pos_of_mem hx;rw[YL8]
  lia
theorem YA2.len {g:Yl}{q:Int}{s:Sz} (h:YA2 g q s):s.length<=g.length:=by
 have:=YE9 (ys:=g.map (·.1)) h.nd λx hx=>by
  obtain⟨p,hp,rfl⟩:=YMD.mp hx;obtain⟨r,hr,e,_⟩:=h.hd p.1 p.2 (X5 h.nd hp);rw[<-e];exact YMD.mpr ⟨r,hr,Z⟩
 rwa [YLp,YLp]at this
def mu (g:Yl) (q:Int) (s:Sz):Nat:=(g.map λr=>match look s r.1 with
 |none=>(bnd q 60).toNat + 1
 |some v=>v.toNat).sum
theorem YID {α:Type}{f f':α->Nat}:∀{l:List α},(∀x∈l,f' x<=f x)->(∃x∈l,f' x < f x)->(l.map f').sum < (l.map f).sum
 |[],_,⟨_,h,_⟩=>by cases h
 |a :: l,h,⟨x,hx,hlt⟩=>by
  rw[YMQ,YMQ,List.sum_cons,List.sum_cons];have ha:=h a (YMG ..);have hle:∀(l:List α),(∀x∈l,f' x<=f x)->(l.map f').sum<=(l.map f).sum:=by
   intro l
   induction l with
   |nil=>intro _;exact YLr _
   |cons b l ih=>
    intro h;rw[YMQ,YMQ,List.sum_cons,List.sum_cons];have h1:=h b (YMG ..);have h2:=ih λx hx=>h x (YL6 _ hx)
    lia
  rcases YMA.mp hx with rfl |hx
  ·have:=hle l λx hx=>h x (YL6 _ hx)
   lia
  ·have:=YID (λx hx=>h x (YL6 _ hx)) ⟨x,hx,hlt⟩
   lia
theorem YIv (s:Sz) (z:Str) (n:Int):(Xz s z n).length=if z∈s.map (·.1) then s.length else s.length + 1:=by
 have:=YMw List.length (YGi s z n);rw[YLp]at this;rw[this];split
 ·rw[YLp]
 ·rw[YLy,YLp];rfl
theorem YA2.step {g:Yl}{q:Int}{s:Sz} (hg:Yu g=true) (hq:0<=q) (h:YA2 g q s) {r:Yp} (hr:r∈g) {m:Int} (hm:YAl s q r.2.1=some m) (hv:∀v,look s r.1=some v->m < v):
  YA2 g q (Xz s r.1 m)/\mu g q (Xz s r.1 m) < mu g q s:=by
 have lR:g.length<=60:=by
  unfold Yu at hg;rw[YL5]at hg;exact YME hg.1
 have sS:r.2.1.length<=6:=by
  unfold Yu at hg;rw[YL5]at hg;have:=YMR.mp hg.2 r hr;unfold JJ at this;simp only[YL5,YMa]at this;exact this.2.1.1
 have hB:=YIu hq s.length;have hm1:1<=m:=YGk hq (λz v e=>YMj (by decide) (h.pos z v e)) hm;have hmB:m<=7 * bnd q s.length:=by
  have h1:=YGj (show q<=bnd q s.length by lia) h.bd hm;have h2:(r.2.1.length:Int) * bnd q s.length<=6 * bnd q s.length:=YMx (by lia) (by lia)
  lia
 have le:LeS (Xz s r.1 m) s:=λz v e=>by
  rw[Xo]
  by_cases hz:z=r.1
  ·rw[if_pos hz];have:=hv v (hz ▸ e);exact⟨m,Z,by lia⟩
  ·rw[if_neg hz];exact⟨v,e,YMi _⟩
 have V8:((Xz s r.1 m).map (·.1)).Nodup:=by
  rw[YGi];split
  ·exact h.nd
  ·rename_i hn
   exact YBP h.nd hn
 have Rz:m<=bnd q (Xz s r.1 m).length:=by
  rw[YIv];split
  ·rename_i hmem
   obtain⟨p,hp,e⟩:=YMD.mp hmem;have:=X5 h.nd (z:=p.1) (n:=p.2) hp;rw[e]at this;have h1:=hv _ this;have h2:=h.bd _ _ this
   lia
  ·rw[YGl];exact hmB
 have lenle:s.length<=(Xz s r.1 m).length:=by
  rw[YIv];split <;> lia
 have RB:YA2 g q (Xz s r.1 m):=by
  refine⟨V8,λz v e=>?_,λz v e=>?_,λz v e=>?_⟩
  ·rw[Xo]at e;split at e
   ·cases e;exact hm1
   ·exact h.pos z v e
  ·rw[Xo]at e;split at e
   ·cases e;exact Rz
   ·exact YMj (h.bd z v e) (YGm hq lenle)
  ·rw[Xo]at e;split at e
   ·rename_i hz
    cases e;obtain⟨k',e1,e2⟩:=YAZ le (YMi 1) hm;exact⟨r,hr,hz.symm,k',e1,e2⟩
   ·obtain⟨r',hr',e1,k,e2,e3⟩:=h.hd z v e;obtain⟨k',e4,e5⟩:=YAZ le (YMi 1) e2;exact⟨r',hr',e1,k',e4,by lia⟩
 refine⟨RB,?_⟩;have Q5:bnd q (Xz s r.1 m).length<=bnd q 60:=YGm hq (YMP RB.len lR);have Rr:m<=bnd q 60:=YMj Rz Q5;unfold mu;refine YID (λx hx=>?_) ⟨r,hr,?_⟩
 ·rw[Xo]
  by_cases hz:x.1=r.1
  ·rw[if_pos hz,hz];cases e:look s r.1 with
   |none=>show m.toNat<=(bnd q 60).toNat + 1;lia
   |some v=>
    have:=hv v e;show m.toNat<=v.toNat
    lia
  ·rw[if_neg hz];exact YLr _
 ·rw[Xo,if_pos rfl];cases e:look s r.1 with
  |none=>show m.toNat < (bnd q 60).toNat + 1;lia
  |some v=>
   have:=hv v e;show m.toNat < v.toNat
   lia
theorem YA2.nil (g:Yl) (q:Int):YA2 g q [] where
 nd:=List.nodup_nil
 pos:=λz v e=>by cases e
 bd:=λz v e=>by cases e
 hd:=λz v e=>by cases e
abbrev Wait:=Str ⊕ Nat
def numD (g:Yl):D->Option Yp
 |.int i=>if 0<=i then g[i.toNat]? else none
 |_=>none
structure Rdg where
 sg:List Nat
 bg:List Nat
 st:List Nat
def sgn (p:Str):Nat:=p.cps.getD 1 0
def fin (g:Yl):List Wait->Rdg->List D->Option Rdg
 |[],s,[]=>some s
 |[],_,_ :: _=>none
 |.inr k :: ws,s,ds=>fin g ws ⟨s.sg,s.bg,s.st.set k s.sg.length⟩ ds
 |.inl p :: ws,s,ds=>
  if isQ p=true then fin g ws ⟨s.sg ++ [sgn p],s.bg,s.st⟩ ds
  else match ds with
   |[]=>none
   |d :: uC=>match numD g d with
    |none=>none
    |some r=>if r.1=p then fin g (r.2.1.map Sum.inl ++ (Sum.inr s.bg.length :: ws)) ⟨s.sg,s.bg ++ [s.sg.length],s.st ++ [s.sg.length]⟩ uC else none
termination_by ws _ ds=>(ds.length,ws.length)
decreasing_by
 all_goals simp_wf
 all_goals first
  |(apply Prod.Lex.right;lia)
  |(apply Prod.Lex.left;lia)
end FR
namespace L2
open PySem PySem.Spec PyProof.Rows
section
variable {X:Cx}
variable {e:Expr}{es es0:List Expr}{t0 t:TA}{name:Str}{cC bH pos0:Pos}{k0:Nat}{id:String}{r:V->List V->Hp->VK->Prop}
end
end L2
namespace L2
open PySem PySem.Spec PyProof.Rows
section
open PySem.W
variable {K:W.Frag}{M:Model}
end
section
variable {X:Cx}
end
end L2
namespace L2
open PySem PySem.Spec PyProof.Rows
section
variable {X:Cx}{pins:List (Addr×Obj)}{σ:St}{H:Hp}{s:Shared}{d:Addr}{o:Obj}{kvs:List (Key×V)}
theorem Inv.freeze (I:Inv X pins σ H s) (hd:H d=some (.dK kvs)) (ho:s.heap.get? d=some o):Inv X pins σ (upd H d (.frz o (.dK kvs))) s:=by
 have nt:∀c xs,H c=some (.tup xs)->c≠d:=λc xs r z=>by rw[z,hd]at r;cases r
 refine I.write (x:=d) (e:=d) (h':=s.heap) (t':=s.toks) (by rw[hd];trivial) (.inl rfl) (λ_ _ _ e=>e) ⟨o,ho⟩ ⟨ho,?_⟩;exact(I.hok d _ hd).stay (λ_ _ _ e=>e) (λb e=>by rw[YJ (YEl e hd nofun)];exact e) λb xs e=>by rw[YJ (nt b xs e)];exact e
end
theorem KV.get {kvs:List (Key×V)}{vs:List (Key×Value)} (r:KV kvs vs):∀{i:Nat}{kv:Key×V},kvs[i]?=some kv->∃u,vs[i]?=some (kv.1,u)/\Ys kv.2 u:=by
 unfold KV at r
 induction r with
 |nil=>intro i kv e;cases e
 |@cons p q ps qs h t ih=>
  intro i kv e;cases i with
  |zero=>
   cases e;exact⟨q.2,by rw[h.1];rfl,h.2⟩
  |succ j=>exact ih (i:=j) e
section
variable {X:Cx}{k_:List Expr}{k:Nat}{mV:Pos}
end
end L2
namespace FR
open PySem L2
def unQ (ps:List Str):List Str:=ps.filter λp=>!isQ p
end FR
namespace L2
open PySem PySem.Spec PyProof.Rows
theorem YK9:mroOf (.type "reversed")=pure [.type "reversed",.type "object"]:=by rw[mroOf_type];kernel_rfl
theorem rv_newl:typeLookup (.type "reversed") "__new__"=pure (some (.builtin "reversed.__new__")):=by rw[typeLookup_type,builtinLookup_eq_fast];kernel_rfl
theorem rv_init:Slot "reversed" "__init__" "object.__init__":=.of (owner:="object") (n:="__init__") (by rw[typeLookup_type,builtinLookup_eq_fast];kernel_rfl) (by decide +kernel) (by decide +kernel) (by decide +kernel) (by first |exact .inl (by decide +kernel) |exact .inr (by decide +kernel)) (by rw[isSubtype_type];kernel_rfl)
theorem YBQ:TypeCalled "reversed" "reversed.__new__" "object.__init__":=⟨by decide +kernel,by decide +kernel,⟨_,_,YK9⟩,madeBy_type YK9 rv_newl (by decide +kernel),by decide +kernel,by rw[isSubtype_type];kernel_rfl,rv_init⟩
theorem YCz (a:Value):checkTypeCall "reversed" ⟨[a],[]⟩=pure ():=by kernel_rfl
theorem YDs (a:Value):checkBuiltinCall "reversed.__new__" ⟨[.type "reversed",a],[]⟩=pure ():=by kernel_rfl
theorem YGn:entryFor table "reversed.__new__"=some Builtin.«reversed.__new__»:=entryFor_of_tree (by kernel_rfl)
theorem YLA:typeLookup (.type "tuple") "__reversed__"=pure none:=by rw[typeLookup_type,builtinLookup_eq_fast];kernel_rfl
theorem YLB:typeLookup (.type "tuple") "__getitem__"=pure (some (.builtin "tuple.__getitem__")):=by rw[typeLookup_type,builtinLookup_eq_fast];kernel_rfl
theorem YLC:isSubtype (.type "tuple") (.type "dict")=pure false:=by rw[isSubtype_type];kernel_rfl
theorem rv_nsub:isSubtype (.type "list_reverseiterator") (.type "reversed")=pure false:=by rw[isSubtype_type];kernel_rfl
theorem YGo:Slot "list_reverseiterator" "__iter__" "list_reverseiterator.__iter__":=.of (owner:="list_reverseiterator") (n:="__iter__") (by rw[typeLookup_type,builtinLookup_eq_fast];kernel_rfl) (by decide +kernel) (by decide +kernel) (by decide +kernel) (by first |exact .inl (by decide +kernel) |exact .inr (by decide +kernel)) (by rw[isSubtype_type];kernel_rfl)
theorem YA3:Slot "list_reverseiterator" "__next__" "list_reverseiterator.__next__":=.of (owner:="list_reverseiterator") (n:="__next__") (by rw[typeLookup_type,builtinLookup_eq_fast];kernel_rfl) (by decide +kernel) (by decide +kernel) (by decide +kernel) (by first |exact .inl (by decide +kernel) |exact .inr (by decide +kernel)) (by rw[isSubtype_type];kernel_rfl)
theorem lr_entI:entryFor table "list_reverseiterator.__iter__"=some Builtin.«dict_keyiterator.__iter__»:=entryFor_alias (id':="dict_keyiterator.__iter__") (by kernel_rfl) rfl (by decide +kernel) (by kernel_rfl)
theorem YIw:entryFor table "list_reverseiterator.__next__"=some Builtin.«list_reverseiterator.__next__»:=entryFor_of_tree (by kernel_rfl)
theorem lr_argI (a:Value):argsOk "list_reverseiterator.__iter__" ⟨[a],[]⟩:=by unfold argsOk;kernel_rfl
theorem YIx (a:Value):argsOk "list_reverseiterator.__next__" ⟨[a],[]⟩:=by unfold argsOk;kernel_rfl
theorem YGp:Slot "reversed" "__iter__" "reversed.__iter__":=.of (owner:="reversed") (n:="__iter__") (by rw[typeLookup_type,builtinLookup_eq_fast];kernel_rfl) (by decide +kernel) (by decide +kernel) (by decide +kernel) (by first |exact .inl (by decide +kernel) |exact .inr (by decide +kernel)) (by rw[isSubtype_type];kernel_rfl)
theorem YA4:Slot "reversed" "__next__" "reversed.__next__":=.of (owner:="reversed") (n:="__next__") (by rw[typeLookup_type,builtinLookup_eq_fast];kernel_rfl) (by decide +kernel) (by decide +kernel) (by decide +kernel) (by first |exact .inl (by decide +kernel) |exact .inr (by decide +kernel)) (by rw[isSubtype_type];kernel_rfl)
theorem rv_entI:entryFor table "reversed.__iter__"=some Builtin.«dict_keyiterator.__iter__»:=entryFor_alias (id':="dict_keyiterator.__iter__") (by kernel_rfl) rfl (by decide +kernel) (by kernel_rfl)
theorem YIy:entryFor table "reversed.__next__"=some Builtin.«reversed.__next__»:=entryFor_of_tree (by kernel_rfl)
theorem rv_argI (a:Value):argsOk "reversed.__iter__" ⟨[a],[]⟩:=by unfold argsOk;kernel_rfl
theorem YIz (a:Value):argsOk "reversed.__next__" ⟨[a],[]⟩:=by unfold argsOk;kernel_rfl
end L2
namespace L2
open PySem PySem.Spec PyProof.Rows
theorem YDt (l:Addr) (items:Array Value) (n:Nat):
  Meets (Builtin.«reversed.__new__» ⟨[.type "reversed",.ref l],[]⟩) (λA R s=>s.heap.get? l=some { cls:=.type "list",dict:=none,data:=.seq items n,slots:=#[] }/\
   R (.ok (.ret (.ref s.heap.objs.size))) { s with heap:=s.heap.push { cls:=.type "list_reverseiterator",data:=.fields #[.ref l,rawInt ((items.size:Int) - 1)] } }):=
 .of_wp λprog w A R s h=>by
  obtain⟨hp,g,d,tk,os⟩:=s;obtain⟨hl,h⟩:=h;have hsub:=YBQ.sub;have hT:Shared.TypeIs ⟨hp,g,d,tk,os⟩ (.ref l) "list":=⟨_,hl,Z⟩;have VM:=F.slot_list_reversed.lookup;have hb:=F.slot_list_reversed.bind (.ref l)
  wp_walk
  have key:=AutoListH.list___reversed___list_0 l items n prog w A.in1 (λ(r:Result) (s':Shared)=>r=Except.ok (Flow.ret (Value.ref hp.objs.size))/\s'=⟨hp.push { cls:=.type "list_reverseiterator",data:=.fields #[.ref l,rawInt ((items.size:Int) - 1)] },g,d,tk,os⟩) ⟨hp,g,d,tk,os⟩ ⟨hl,Z,Z⟩;refine codeAny_mono (codeAny_call_builtin (R:=(λ(r:Result) (s':Shared)=>r=Except.ok (Flow.ret (Value.ref hp.objs.size))/\s'=⟨hp.push { cls:=.type "list_reverseiterator",data:=.fields #[.ref l,rawInt ((items.size:Int) - 1)] },g,d,tk,os⟩)) F.slot_list_reversed.plain F.entry_list_reversed (F.slot_list_reversed.check _ _ _ _ _ _ _ _ hT (F.args_list_reversed_1 _) key)) λr s1 hr=>?_
  obtain⟨rfl,rfl⟩:=hr;exact YMJ ⟨_,Z,h⟩
theorem YC4 (l:Addr) (items:Array Value) (o:Obj) (n:Nat) (hc:o.cls=.type "tuple") (hd:o.data=.seq items n) (hz:(items.size:Int) < 2 ^ 63):
  Meets (Builtin.«reversed.__new__» ⟨[.type "reversed",.ref l],[]⟩) (λA R s=>s.heap.get? l=some o/\
   R (.ok (.ret (.ref s.heap.objs.size))) { s with heap:=s.heap.push { cls:=.type "reversed",data:=.fields #[.ref l,rawInt ((items.size:Int) - 1)] },toks:=s.toks + 1 + 1 }):=
 .of_wp λprog w A R s h=>by
  obtain⟨hp,g,d,tk,os⟩:=s;obtain⟨hl,h⟩:=h;have hsub:=YBQ.sub;have hT:Shared.TypeIs ⟨hp,g,d,tk,os⟩ (.ref l) "tuple":=⟨_,hl,hc⟩;have h1:=YLA;have h2:=YLB;have h3:=YLC;have ht:IsTup (Shared.heap ⟨hp,g,d,tk,os⟩) l items:=⟨o,hl,hc,n,hd⟩
  wp_walk using len_tuple ht hz
  exact⟨_,Z,h⟩
section
variable {prog:Program}{w:World}{A:Around}{E:Value->Shared->Prop}{s:Shared}
theorem YEW {T T2 newId initId:String}{Bn:Builtin}{args:List Value}{S:PySem.Spec}{Q:Value->Shared->Prop} (ft:TypeCalled T newId initId) (hn:isSubtype (.type T2) (.type T)=pure false)
  (hct:checkTypeCall T ⟨args,[]⟩=pure ()) (V9:checkBuiltinCall newId ⟨.type T :: args,[]⟩=pure ()) (entryN:entryFor table newId=some Bn) (g:Meets (Bn ⟨.type T :: args,[]⟩) S)
  (h:S A.in1 (wants (λobj s1=>s1.TypeIs obj T2/\Q obj s1) E) s):wpAny (model prog w) A (call (.type T) args) Q E s:=by
 obtain⟨_,_,m0⟩:=ft.mro;have m1:=ft.made;have m2:=ft.sub;have m3:=ft.notType;have m4:=ft.canCreate;refine wpAny_call (codeAny_of_tree (show wpAny _ _ (callAny (.type T) _) _ _ _ from YMJ ⟨Code.quiet_builtin _ (by decide +kernel),codeAny_builtin F.entry_type_call ?_⟩));rw[Around.under_plain (weight_type_call_type T args []) (units_type_call_type T args [])];repeat any_goals first |assumption |wp_step
 refine codeAny_mono (codeAny_call_builtin ft.plain entryN (wpAny_of_eq V9 (g prog w A.in1 _ s h))) λr s1 hr=>?_
 rcases r with e |fl
 ·exact hr
 ·cases fl with
  |ret obj=>
   obtain⟨hT,hq⟩:=hr
   repeat any_goals first |assumption |wp_step
  |_=>exact hr.elim
theorem YI0 {α:Type}{Q:α->Shared->Prop}{E':Value->Shared->Prop} (hh:A.handled=none) (h:∀e h',(∀b o,s.heap.get? b=some o->h'.get? b=some o)->Shared.TypeIs { s with heap:=h' } e "StopIteration"->E' e { s with heap:=h' }):
  wpAny (model prog w) A (Builtin.SmallTypes.stopIteration:Sem α) Q E' s:=by
 unfold Builtin.SmallTypes.stopIteration;refine YLx ?_;simp only[newExc,newTuple];refine YLx (wpAny_newObj_type (YLx (m:=firstArgMember _ _) (wpAny_of_eq (a:=Value.none) (by first |rfl |(simp only[firstArgMember];rfl)) (wpAny_newObj_type ?_ (by size_fits)))) (by size_fits));simp only[raiseNew];refine YLx (wpAny_handled ?_);rw[hh];refine YLx (YMJ (wpAny_throw (h _ _ (λb o e=>YL0 _ (YL0 _ e)) ?_)));exact⟨_,YMF _ rfl,Z⟩
def YFw (h:Heap) (it l:Addr) (i:Int):Prop:=∃o,h.get? it=some o/\o.cls=.type "list_reverseiterator"/\o.data=.fields #[.ref l,.int i 0]
def YDu (h:Heap) (it l:Addr) (i:Int):Prop:=∃o,h.get? it=some o/\o.cls=.type "reversed"/\o.data=.fields #[.ref l,.int i 0]
theorem YEX {l:Addr}{items:Array Value}{n:Nat}{Q:Value->Shared->Prop} (hl:s.heap.get? l=some { cls:=.type "list",dict:=none,data:=.seq items n,slots:=#[] })
  (h:∀h',YFw h' s.heap.objs.size l ((items.size:Int) - 1)->(∀b o,s.heap.get? b=some o->h'.get? b=some o)->Q (.ref s.heap.objs.size) { s with heap:=h' }):wpAny (model prog w) A (call (.type "reversed") [.ref l]) Q E s:=by
 refine YEW YBQ rv_nsub (YCz _) (YDs _) YGn (YDt l items n) ⟨hl,?_⟩;exact⟨⟨_,YMF _ rfl,Z⟩,h _ ⟨_,YMF _ rfl,Z,Z⟩ λb o e=>YL0 _ e⟩
theorem YA5 {l:Addr}{items:Array Value}{Q:Value->Shared->Prop} (hl:IsTup s.heap l items) (hz:(items.size:Int) < 2 ^ 63)
  (h:∀h',YDu h' s.heap.objs.size l ((items.size:Int) - 1)->(∀b o,s.heap.get? b=some o->h'.get? b=some o)->Q (.ref s.heap.objs.size) { s with heap:=h',toks:=s.toks + 1 + 1 }):wpAny (model prog w) A (call (.type "reversed") [.ref l]) Q E s:=by
 obtain⟨o,ho,hc,n,hd⟩:=hl;refine callType_new YBQ (by decide) (YCz _) (YDs _) (λobj=>F.args_object_init_2 obj _) YGn (YC4 l items o n hc hd hz) ⟨ho,?_⟩;exact⟨⟨_,YMF _ rfl,Z⟩,h _ ⟨_,YMF _ rfl,Z,Z⟩ λb o e=>YL0 _ e⟩
theorem YFA {it l:Addr}{i:Int}{Q:Value->Shared->Prop} (hit:YFw s.heap it l i) (h:Q (.ref it) s):wpAny (model prog w) A (pyIter (.ref it)) Q E s:=by
 obtain⟨o,ho,hc,hd⟩:=hit;have hT:s.TypeIs (.ref it) "list_reverseiterator":=⟨o,ho,hc⟩;refine wpAny_pyIter_slot hT YGo (wpAny_call_entry YGo hT lr_entI ?_ (lr_argI _));show wpAny _ _ (ret (.ref it)) _ _ s;exact YMJ ⟨_,Z,"list_reverseiterator",_,hT,YA3.lookup,h⟩
theorem YBR {it l:Addr}{i:Int}{Q:Value->Shared->Prop} (hit:YDu s.heap it l i) (h:Q (.ref it) s):wpAny (model prog w) A (pyIter (.ref it)) Q E s:=by
 obtain⟨o,ho,hc,hd⟩:=hit;have hT:s.TypeIs (.ref it) "reversed":=⟨o,ho,hc⟩;refine wpAny_pyIter_slot hT YGp (wpAny_call_entry YGp hT rv_entI ?_ (rv_argI _));show wpAny _ _ (ret (.ref it)) _ _ s;exact YMJ ⟨_,Z,"reversed",_,hT,YA4.lookup,h⟩
theorem YJs {it l:Addr}{i:Nat}{items:Array Value}{x:Value}{Q:Option Value->Shared->Prop} (hit:YFw s.heap it l i) (hl:s.heap.IsList l items) (hx:items[i]?=some x)
  (hQ:∀h',YFw h' it l ((i:Int) - 1)->Heap.SameBut it s.heap h'->Q (some x) { s with heap:=h' }):wpAny (model prog w) A (pyNext (.ref it)) Q E s:=by
 obtain⟨o,ho,hc,hd⟩:=id hit;obtain⟨ol,hol,_,nl,hdl⟩:=hl;have hT:s.TypeIs (.ref it) "list_reverseiterator":=⟨o,ho,hc⟩;unfold pyNext;refine YLx (wpAny_attempt (wpAny_callSpecial?_slot (name:=Str.ofString "__next__") hT YA3 (wpAny_call_entry YA3 hT YIw ?_ (YIx _))));unfold Builtin.«list_reverseiterator.__next__»;refine YLx (YMJ (YLx (wpAny_field ho hd (x:=.int i 0) rfl ?_)));show wpAny _ _ (if ((i:Nat):Int) < 0 then _ else _) _ _ s;rw[if_neg (by lia)];refine YLx (wpAny_field ho hd (x:=.ref l) rfl (YLx (wpAny_seqItems hol hdl ?_)));simp only[hx,YNW];exact YLx (wpAny_setField ho hd (by simp) (YMJ ⟨_,Z,YMJ (hQ _ ⟨_,YMl _ ho (Obj.isFreed_of_fields (Obj.data_mapFields hd _)),(Obj.cls_mapFields ..).trans hc,by rw[Obj.data_mapFields hd];simp[rawInt]⟩ (Heap.SameBut.update ..))⟩))
theorem YFB {it l:Addr}{i:Nat}{items:Array Value}{x:Value}{Q:Option Value->Shared->Prop} (hit:YDu s.heap it l i) (hl:IsTup s.heap l items) (hx:items[i]?=some x) (hz:(items.size:Int) < 2 ^ 63)
  (hQ:∀h',YDu h' it l ((i:Int) - 1)->Heap.SameBut it s.heap h'->Q (some x) { s with heap:=h',toks:=s.toks + 1 }):wpAny (model prog w) A (pyNext (.ref it)) Q E s:=by
 obtain⟨o,ho,hc,hd⟩:=id hit;have hT:s.TypeIs (.ref it) "reversed":=⟨o,ho,hc⟩;unfold pyNext;refine YLx (wpAny_attempt (wpAny_callSpecial?_slot (name:=Str.ofString "__next__") hT YA4 (wpAny_call_entry YA4 hT YIy ?_ (YIz _))));unfold Builtin.«reversed.__next__»;refine YLx (YMJ (YLx (wpAny_field ho hd (x:=.ref l) rfl (YLx (wpAny_field ho hd (x:=.int i 0) rfl ?_)))));show wpAny _ _ (if ((i:Nat):Int) < 0 then _ else _) _ _ s;rw[if_neg (by lia)];refine YLx (wpAny_specialOf hl.typeIs YLB ?_);show wpAny _ _ (mkInt (i:Int) >>= _) _ _ s;refine YLx (wpAny_mkInt ?_);have hlt:i < items.size:=(Array.getElem?_eq_some_iff.mp hx).1;have hsi:seqIndex? (i:Int) items.size=some i:=by
  unfold seqIndex?;simp
  lia
 refine YLx (wpAny_attempt (getItem_tuple (s:={ s with toks:=s.toks + 1 }) hl (by lia) (by lia) hsi hx ?_));refine YLx (wpAny_field (s:={ s with toks:=s.toks + 1 }) ho hd (x:=.int i 0) rfl ?_);exact YLx (wpAny_setField (s:={ s with toks:=s.toks + 1 }) ho hd (by simp) (YMJ ⟨_,Z,YMJ (hQ _ ⟨_,YMl _ ho (Obj.isFreed_of_fields (Obj.data_mapFields hd _)),(Obj.cls_mapFields ..).trans hc,by rw[Obj.data_mapFields hd];simp[rawInt]⟩ (Heap.SameBut.update ..))⟩))
theorem YLD {it l:Addr}{Q:Option Value->Shared->Prop} (hh:A.handled=none) (hit:YFw s.heap it l (-1)) (hQ:∀h',Heap.ExtBut it s.heap h'->Q none { s with heap:=h' }):wpAny (model prog w) A (pyNext (.ref it)) Q E s:=by
 obtain⟨o,ho,hc,hd⟩:=id hit;have hT:s.TypeIs (.ref it) "list_reverseiterator":=⟨o,ho,hc⟩;unfold pyNext;refine YLx (wpAny_attempt (wpAny_callSpecial?_slot (name:=Str.ofString "__next__") hT YA3 (wpAny_call_entry YA3 hT YIw ?_ (YIx _))));unfold Builtin.«list_reverseiterator.__next__»;refine YLx (YMJ (YLx (wpAny_field ho hd (x:=.int (-1) 0) rfl ?_)));show wpAny _ _ (if (-1:Int) < 0 then _ else _) _ _ s;rw[if_pos (by decide)];refine YLx (wpAny_rule (YLx (YI0 (A:=A.in1) hh λe h' k ty=>?_)));exact YLx (wpAny_isInstance (b:=true) ty isSubtype_stop (YMJ (hQ h' λb o _ q=>k b o q)))
theorem YGq {it l:Addr}{Q:Option Value->Shared->Prop} (hh:A.handled=none) (hit:YDu s.heap it l (-1)) (hQ:∀h',Heap.ExtBut it s.heap h'->Q none { s with heap:=h' }):wpAny (model prog w) A (pyNext (.ref it)) Q E s:=by
 obtain⟨o,ho,hc,hd⟩:=id hit;have hT:s.TypeIs (.ref it) "reversed":=⟨o,ho,hc⟩;unfold pyNext;refine YLx (wpAny_attempt (wpAny_callSpecial?_slot (name:=Str.ofString "__next__") hT YA4 (wpAny_call_entry YA4 hT YIy ?_ (YIz _))));unfold Builtin.«reversed.__next__»;refine YLx (YMJ (YLx (wpAny_field ho hd (x:=.ref l) rfl (YLx (wpAny_field ho hd (x:=.int (-1) 0) rfl ?_)))));show wpAny _ _ (if (-1:Int) < 0 then _ else _) _ _ s;rw[if_pos (by decide)];refine YLx (wpAny_rule (YLx (show wpAny _ _ (setField (.ref it) 1 (rawInt (-1)) >>= λ_=>setField (.ref it) 0 Value.none) _ _ s from YLx (wpAny_setField ho hd (by simp) ?_))));have vz:=YMl (h:=s.heap) (a:=it) (o:=o) (λo=>o.mapFields λvs=>vs.set! 1 (rawInt (-1))) ho (Obj.isFreed_of_fields (Obj.data_mapFields hd _));have hd2:(Obj.mapFields (λvs=>vs.set! 1 (rawInt (-1))) o).data=.fields #[.ref l,rawInt (-1)]:=by rw[Obj.data_mapFields hd];simp
 have b1:Heap.SameBut it s.heap (s.heap.update it λo=>Obj.mapFields (λvs=>vs.set! 1 (rawInt (-1))) o):=Heap.SameBut.update ..;refine wpAny_setField (s:={ s with heap:=s.heap.update it λo=>Obj.mapFields (λvs=>vs.set! 1 (rawInt (-1))) o }) vz hd2 (by simp) (YLx (YI0 (A:=A.in1) hh λe h' k ty=>?_));refine YLx (wpAny_isInstance (b:=true) ty isSubtype_stop (YMJ (hQ h' λb o hb q=>k b o ?_)));exact((Heap.SameBut.update ..).2 b hb).trans ((b1.2 b hb).trans q)
end
end L2
namespace L2
open PySem PySem.Spec PyProof.Rows
theorem YLE:typeLookup (.type "list_reverseiterator") "__len__"=pure none:=by rw[typeLookup_type,builtinLookup_eq_fast];kernel_rfl
theorem lr_hint:typeLookup (.type "list_reverseiterator") "__length_hint__"=pure (some (.builtin "list_reverseiterator.__length_hint__")):=by rw[typeLookup_type,builtinLookup_eq_fast];kernel_rfl
section
variable {prog:Program}{w:World}{A:Around}{E:Value->Shared->Prop}{s:Shared}
theorem YIE (hh:A.handled=none) (it l:Addr) (hne:l≠it) (items:Array Value):
  Walks prog w A it [it,l] [it] items.size (λi v=>items[items.size - 1 - i]?=some v) (λi h=>YFw h it l ((items.size:Int) - 1 - i)/\h.IsList l items) where
 sub:=λb hb=>by simp at hb;simp[hb]
 frame:=λi h h' st hk=>by
  obtain⟨⟨o,a,b,c⟩,q⟩:=st;exact⟨⟨o,hk it (by simp) o a,b,c⟩,q.at λo e=>hk l (by simp) o e⟩
 item:=λi s Q E hi st hQ=>by
  have e:((items.size:Int) - 1 - (i:Nat))=((items.size - 1 - i:Nat):Int):=by lia
  rw[e]at st;refine YJs st.1 st.2 (x:=items[items.size - 1 - i]) (by simp) λh' hit' hs'=>?_
  refine hQ _ h' s.toks (by simp) ⟨?_,st.2.extBut hs'.extBut hne⟩ λb o hb q=>hs'.extBut b o (λz=>hb (by simp[z])) q
  have e2:((items.size - 1 - i:Nat):Int) - 1=(items.size:Int) - 1 - ((i + 1:Nat):Int):=by lia
  rw[e2]at hit';exact hit'
 done:=λs Q E st hQ=>by
  have e:((items.size:Int) - 1 - (items.size:Nat))=-1:=by lia
  rw[e]at st;exact YLD hh st.1 λh' he'=>hQ h' s.toks λb o hb q=>he' b o (λz=>hb (by simp[z])) q
 self:=λ_ _ _ _ st hQ=>YFA st.1 hQ
theorem YJt {it l:Addr}{i:Int}{Q:Bool->Shared->Prop} (hit:YFw s.heap it l i) (h:Q false s):wpAny (model prog w) A (Builtin.List.listLengthHint (.ref it)) Q E s:=by
 obtain⟨o,ho,hc,hd⟩:=hit;have hT:s.TypeIs (.ref it) "list_reverseiterator":=⟨o,ho,hc⟩;unfold Builtin.List.listLengthHint;refine YLx (wpAny_specialOf hT YLE ?_);show wpAny _ _ (specialOf (Value.ref it) (Str.ofString "__length_hint__") >>= _) _ _ _;refine YLx (wpAny_specialOf hT lr_hint ?_);generalize hid:("list_reverseiterator.__length_hint__":String)=W3
 wp_delta;rw[show splitId W3=some ("list_reverseiterator","__length_hint__") from by subst hid;decide +kernel];subst hid
 refine YLx (wpAny_isInstance (T:="list_reverseiterator") (b:=true) hT (by rw[isSubtype_type];kernel_rfl) ?_);exact YMJ h
theorem YDv {it l:Addr}{items:Array Value}{Q:Value->Shared->Prop} (hh:A.handled=none) (hit:YFw s.heap it l ((items.size:Int) - 1)) (hl:s.heap.IsList l items) (hne:l≠it) (hn:items.size<=sizeLine)
  (hQ:∀h' tk dz c',(∀b o,b≠it->s.heap.get? b=some o->h'.get? b=some o)->h'.get? s.heap.objs.size=some { cls:=.type "list",dict:=none,data:=.seq dz c',slots:=#[] }->
   ItemsOf (λi v=>items[items.size - 1 - i]?=some v) dz items.size->Q (.ref s.heap.objs.size) { s with heap:=h',toks:=tk }):wpAny (model prog w) A (call (.type "list") [.ref it]) Q E s:=by
 have itlt:it < s.heap.objs.size:=by obtain⟨o,ho,_⟩:=hit;exact YL4 ho
 have llt:l < s.heap.objs.size:=by obtain⟨o,ho,_⟩:=hl;exact YL4 ho
 refine callType_codes (Q₁:=λobj t=>obj=.ref s.heap.objs.size/\t={ s with heap:=s.heap.push { cls:=.type "list",data:=.seq #[] } }) F.called_list (F.typeCall_list_1 _) F.entry_list_init (code_list_new _ ⟨Z,Z⟩) λobj t ht=>?_
 obtain⟨rfl,rfl⟩:=ht;have g0:(s.heap.push { cls:=.type "list",data:=.seq #[] }).get? s.heap.objs.size=some { cls:=.type "list",data:=.seq #[] }:=YMF _ rfl;refine⟨⟨_,g0,Z⟩,F.args_list_init_2 _ _,?_⟩;show wpAny _ _ (Builtin.List.listItems (.ref s.heap.objs.size) >>= λold=>Builtin.List.listUpdate (.ref s.heap.objs.size) (λ_=>#[]) >>= λ_=>letGo old.toList.reverse >>= λ_=>Builtin.List.listExtendWith (.ref s.heap.objs.size) (.ref it) .none) _ _ _;refine YLx ?_;unfold Builtin.List.listItems;refine YLx (wpAny_seqItems g0 rfl (YMJ ?_));refine YLx (show wpAny _ _ (updateSeq s.heap.objs.size (λ_=>#[])) _ _ _ from wpAny_updateSeq g0 rfl ?_);have g1:=YMl (Obj.mapSeq (λ_=>(#[]:Array Value))) g0 rfl;have k1:∀b o,s.heap.get? b=some o->((s.heap.push { cls:=.type "list",data:=.seq #[] }).update s.heap.objs.size (Obj.mapSeq (λ_=>(#[]:Array Value)))).get? b=some o:=λb o e=>
  (YMY _ _ (YNA (YL4 e))).trans (YL0 _ e)
 have lN:YFw ((s.heap.push { cls:=.type "list",data:=.seq #[] }).update s.heap.objs.size (Obj.mapSeq (λ_=>(#[]:Array Value)))) it l ((items.size:Int) - 1):=by
  obtain⟨o,ho,r⟩:=hit;exact⟨o,k1 it o ho,r⟩
 have hl1:Heap.IsList ((s.heap.push { cls:=.type "list",data:=.seq #[] }).update s.heap.objs.size (Obj.mapSeq (λ_=>(#[]:Array Value)))) l items:=hl.at λo e=>k1 l o e
 refine YLx (wpAny_letGo ?_);revert g1 k1 lN hl1;generalize (s.heap.push { cls:=.type "list",data:=.seq #[] }).update s.heap.objs.size (Obj.mapSeq (λ_=>(#[]:Array Value)))=h1;intro g1 k1 lN hl1;have hT:Shared.TypeIs { s with heap:=h1 } (.ref it) "list_reverseiterator":=by obtain⟨o,ho,hc,_⟩:=lN;exact⟨o,ho,hc⟩
 unfold Builtin.List.listExtendWith;refine YLx (wpAny_typeOf hT ?_);have ns:Builtin.List.listSameRef (.ref s.heap.objs.size) (.ref it)=false:=by simp[Builtin.List.listSameRef,YNA itlt]
 rw[if_neg (by rw[ns];decide)];refine YLx (YFA lN (YLx (wpAny_holding (YJt lN ?_))));refine(show wpAny _ _ (if _ then _ else _) _ _ _ from ?_);rw[if_neg (by decide)];have W:=(YIE (prog:=prog) (w:=w) (A:=A.in1.in1) hh it l hne items).toS;have nf:s.heap.objs.size∉[it,l]:=by simp only[YMA,YMo,or_false,not_or];exact⟨YNA itlt,YNA llt⟩
 refine YMJ ⟨plainId_quiet F.plain_extend_loop _,codeAny_extend_loopS W hn _ nf _ items.size 0 _ _ _ rfl (YMI _) ⟨by simpa using lN,hl1⟩ g1 (ItemsOf.nil _) λs' dz c' hm hS' hacc=>?_⟩;rw[Moved.eq_with hm];refine⟨Z,hQ s'.heap s'.toks dz c' (λb o hb e=>hm.heap b o (λhmem=>?_) (k1 b o e)) hS' hacc⟩;rcases YMA.mp hmem with z |hmem
 ·rw[z]at e;exact YMm _ (YL4 e)
 ·exact hb (YL1.mp hmem)
end
end L2
namespace L2
open PySem PySem.Spec PyProof.Rows
def Itrt (K:W.Frag) (a:Addr) (n:Nat):It:=
 ⟨λi H=>∃xs,SqT K H a xs/\xs.length=n/\i < n,λi H x H'=>H'=H/\∀xs,SqT K H a xs->xs[n - 1 - i]?=some x,λi _=>i=n⟩
theorem YJu {P:Program}{w:World}{K:W.Frag}{tg:Expr} (a it:Addr) (n:Nat):YEP P w K tg (Itrt K a n) [it] it (λi h=>YDu h it a ((n:Int) - 1 - i)) where
 mem:=by simp
 obj:=λi h st b hb=>by
  have e:b=it:=by simpa using hb
  subst e;obtain⟨o,e,c,d⟩:=st;exact⟨o,e,λv z=>by rw[d]at z;cases z⟩
 keep:=λi h h' st k=>by
  obtain⟨o,e,r⟩:=st;exact⟨o,k it (by simp) o e,r⟩
 item:=by
  intro X hP hw hK hc i pins s σ H E I hf st hg;subst hP hw hK;obtain⟨xs,hq,hn,hi⟩:=hg;obtain⟨its,rv,p,hz⟩:=I.tuple hq;have hx:xs[n - 1 - i]?=some xs[n - 1 - i]:=YLs (by lia);obtain⟨u,hu,ru⟩:=rv.get hx;obtain⟨f0,f1,f2,f3,f4,f5⟩:=hf it (by simp);have e:(n:Int) - 1 - (i:Nat)=((n - 1 - i:Nat):Int):=by lia
  rw[e]at st;have hlen:=rv.length;have yX:=X8;refine YFB st p (x:=u) (by simpa using hu) (by rw[YL3];lia) λh' st' sb=>?_
  have e2:((n - 1 - i:Nat):Int) - 1=(n:Int) - 1 - ((i + 1:Nat):Int):=by lia
  rw[e2]at st';have I1:Inv X pins σ H { s with heap:=h',toks:=s.toks + 1 }:=I.turned (t':=s.toks + 1) (λb o hb e=>(sb.2 b hb).trans e) f0 f1 f3 f4 f5;obtain⟨o,eo,c,d⟩:=id st';exact⟨u,Z,YGM (s:={ s with heap:=h',toks:=s.toks + 1 }) eo c d (by decide) ⟨_,H,I1,ru,⟨Z,λys hy=>by rw[I.tuple_inj hy hq];exact hx⟩,st',λb hb=>(hf b hb).1⟩⟩
 done:=by
  intro X hP hw hK hc i pins s σ H E I hf st hg;subst hP hw hK hg;obtain⟨f0,f1,f2,f3,f4,f5⟩:=hf it (by simp);have e:((i:Nat):Int) - 1 - (i:Nat)=-1:=by lia
  rw[e]at st;exact YGq (I.ok.hd hc) st λh' eb=>⟨Z,I.turned (t':=s.toks) (λb o hb e=>eb b o hb e) f0 f1 f3 f4 f5⟩
 self:=λ_ _ _ _ _ st h=>YBR st h
section
variable {X:Cx}{tg:Expr}
def iRevT (K:W.Frag) (ta:TA):TI:=λσ H R=>ta σ H λvs H1=>∃a xs,vs=[.ref a]/\SqT K H1 a xs/\R (Itrt K a xs.length) H1
theorem YI1 (K:W.Frag) (hK:X.K=K) {a:Expr}{ta:TA}{p pos:Pos} (hg:Gl X "reversed") (hm:X.mg "reversed"=none) (ha:PA X [a] ta) (hs:starEach [a] X.env=[(false,eval a X.env)]:=by rfl):
  PI X tg (.Call (.Name "reversed" p) [a] [] pos) (iRevT K ta):=by
 subst hK;intro pins s σ H R I h;refine Call_ (JT I hg hm YNZ (PyProof.Rows.callWith_type1 (thn (ha pos pins s σ H _ I h) λus s1 ⟨vs,H1,I1,r1,q1⟩=>?_) hs rfl));obtain⟨l,xs,rfl,hq,q⟩:=q1;obtain⟨u,rfl,ru⟩:=Xj r1;cases ru;obtain⟨its,rv,pl,hz⟩:=I1.tuple hq;have hlen:xs.length=its.length:=rv.length;have yX:=X8;refine YA5 pl (by rw[YL3];lia) λh' hit hk=>?_
 have I2:Inv X pins σ H1 { s1 with heap:=h',toks:=s1.toks + 1 + 1 }:=I1.kept (t':=s1.toks + 1 + 1) hk;refine YBR hit ?_;refine⟨s1.heap.objs.size,[s1.heap.objs.size],_,_,H1,Z,I2,YJu l _ xs.length,by simpa [hlen] using hit,λb hb=>?_,q⟩;have eb:b=s1.heap.objs.size:=by simpa using hb
 subst eb;exact I1.fpOk (YLr _) (I1.hok.fresh (YLr _))
end
theorem rev_at {xs:List V}{i:Nat}{x:V} (hi:i < xs.length) (h:xs[xs.length - 1 - i]?=some x):xs.reverse[i]?=some x:=by rw[List.getElem?_reverse hi];exact h
theorem YGr {K:W.Frag}{a:Addr}{xs:List V}{g:TG}{tb:TS}{D:YAo}{σ:St}{H:Hp} (Pv:Nat->St->Hp->Prop) (h0:Pv 0 σ H) (hl:∀i σ H,i<=xs.length->Pv i σ H->SqT K H a xs)
  (hs:∀i x σ H,xs.reverse[i]?=some x->Pv i σ H->g x σ H λσ2 H2=>tb { D with nx:=Pv (i + 1),ct:=Pv (i + 1),bk:=D.nx } σ2 H2) (hd:∀σ H,Pv xs.length σ H->D.nx σ H):
  ∃W:Nat->Nat->St->Hp->Prop,(∃m,W 0 m σ H)/\∀i m σ H,W i m σ H->
   ((Itrt K a xs.length).stop i H/\D.nx σ H)\/((Itrt K a xs.length).go i H/\∃N:St->Hp->Prop,(∀σ' H',N σ' H'->∃m',m' < m/\W (i + 1) m' σ' H')/\∀x H',(Itrt K a xs.length).yld i H x H'->g x σ H' λσ2 H2=>tb { D with nx:=N,ct:=N,bk:=D.nx } σ2 H2):=by
 refine⟨λi m σ H=>m=xs.length - i/\i<=xs.length/\Pv i σ H,⟨xs.length,by simp,YMI _,h0⟩,?_⟩;rintro i m σ H ⟨rfl,hi,p⟩;have q:=hl i σ H hi p
 by_cases hlt:i < xs.length
 ·refine .inr ⟨⟨xs,q,Z,hlt⟩,Pv (i + 1),λσ' H' p'=>⟨xs.length - (i + 1),by lia,Z,hlt,p'⟩,λx H' y=>?_⟩;obtain⟨e,y⟩:=y;subst e;exact hs i x σ _ (rev_at hlt (y xs q)) p
 ·have e:i=xs.length:=by lia
  subst e;exact .inl ⟨Z,hd σ H p⟩
def YLF (ta:TA):TE:=λσ H Q=>ta σ H λvs H1=>∃a xs,vs=[.ref a]/\Rd H1 a (.lst xs)/\∀l,H1 l=none->Q (.ref l) (upd H1 l (.lst xs.reverse))
theorem YGs {X:Cx}{a:Expr}{ta:TA}{p p2 pos gj:Pos} (hc:X.calm=true) (hg:Gl X "list") (hm:X.mg "list"=none) (zQ:Gl X "reversed") (hm2:X.mg "reversed"=none) (ha:PA X [a] ta)
  (hs:starEach [.Call (.Name "reversed" p2) [a] [] gj] X.env=[(false,eval (.Call (.Name "reversed" p2) [a] [] gj) X.env)]:=by rfl) (hs2:starEach [a] X.env=[(false,eval a X.env)]:=by rfl):
  PE X (.Call (.Name "list" p) [.Call (.Name "reversed" p2) [a] [] gj] [] pos) (YLF ta):=by
 intro pins s σ H Q I h;refine wpAny_Call_Name_kw (JT I hg hm YMr ?_);refine PyProof.Rows.callWith_type1 ?_ hs rfl;rw[hs];show wpAny _ _ (spliced ((false,eval (.Call (.Name "reversed" p2) [a] [] gj) X.env) :: [])) _ _ s;refine Calls.spliced_cons (wpAny_Call_Name_kw (JT I zQ hm2 YNZ (PyProof.Rows.callWith_type1 (thn (ha gj pins s σ H _ I h) λus s1 ⟨vs,H1,I1,r1,q1⟩=>?_) hs2 rfl)));obtain⟨l,xs,rfl,hq,q⟩:=q1;obtain⟨u,rfl,ru⟩:=Xj r1;cases ru;obtain⟨hz,its,n,rv,hl⟩:=(show Y3 X.prog X.w H1 s1.heap l (.lst xs) from hq.ok I1.hok);have hlen:xs.length=its.length:=rv.length;refine YEX hl λh1 hit hk=>Calls.spliced_nil ?_
 refine YDv (s:={ s1 with heap:=h1 }) (items:=its.toArray) (I1.ok.hd hc) hit ⟨_,hk _ _ hl,Z,n,Z⟩ (YMS (YL4 hl)) (by rw[YL3];lia) λh' tk dz c' hk' hS hit'=>?_
 have uD:Ym xs.reverse dz.toList:=by
  refine YDL (by
   have e1:dz.toList.length=its.length:=(Array.length_toList.trans hit'.1).trans (YL3 ..);rw[YMU,hlen,e1]) λj x u h1 h2=>?_
  have h3:=hit'.2 j u (by rw[<-YMq];exact h2);have hj:j < xs.length:=by
   have:=(YLv.mp h1).1
   rwa [YMU]at this
  rw[List.getElem?_reverse hj]at h1;obtain⟨u',e1,r'⟩:=rv.get h1;rw[List.getElem?_toArray,YL3,<-hlen]at h3;rw[h3]at e1;cases e1;exact r'
 have le:s1.heap.objs.size<=h1.objs.size:=by
  obtain⟨o,ho,_⟩:=hit;exact YNa (YL4 ho)
 have kk:∀b u,s1.heap.get? b=some u->h'.get? b=some u:=λb u e=>hk' b u (YMS (YL4 e)) (hk b u e)
 exact⟨.ref h1.objs.size,_,I1.laid (t':=tk) kk le (show Y3 X.prog X.w _ h' _ (.lst _) from⟨by rw[YMU];exact hz,dz.toList,c',uD,by simpa using hS⟩),Z,q _ (I1.hok.fresh le)⟩
end L2
namespace L2
open PySem PySem.Spec PyProof.Rows
section
variable {prog:Program}{w:World}{A:Around}{E:Value->Shared->Prop}{s:Shared}
end
section
variable {X:Cx}{k_:List Expr}{k:Nat}{mV:Pos}
end
theorem XD {K:W.Frag}{a:Addr}{xs:List V}{g:TG}{tb:TS}{D:YAo}{σ:St}{H:Hp} (Pv:Nat->St->Hp->Prop) (h0:Pv 0 σ H) (hl:∀i σ H,i<=xs.length->Pv i σ H->SqL K H a xs)
  (hs:∀i x T σ H,xs[i]?=some x->H T=none->Pv i σ H->g (.ref T) σ (upd H T (.tup [.int (i:Nat),x])) λσ2 H2=>tb { D with nx:=Pv (i + 1),ct:=Pv (i + 1),bk:=D.nx } σ2 H2) (hd:∀σ H,Pv xs.length σ H->D.nx σ H):
  ∃W:Nat->Nat->St->Hp->Prop,(∃m,W 0 m σ H)/\∀i m σ H,W i m σ H->
   ((Ite K a).stop i H/\D.nx σ H)\/((Ite K a).go i H/\∃N:St->Hp->Prop,(∀σ' H',N σ' H'->∃m',m' < m/\W (i + 1) m' σ' H')/\∀x H',(Ite K a).yld i H x H'->g x σ H' λσ2 H2=>tb { D with nx:=N,ct:=N,bk:=D.nx } σ2 H2):=by
 refine⟨λi m σ H=>m=xs.length - i/\i<=xs.length/\Pv i σ H,⟨xs.length,by simp,YMI _,h0⟩,?_⟩;rintro i m σ H ⟨rfl,hi,p⟩;have q:=hl i σ H hi p
 by_cases hlt:i < xs.length
 ·refine .inr ⟨⟨xs,xs[i],q,by simp[hlt]⟩,Pv (i + 1),λσ' H' p'=>⟨xs.length - (i + 1),by lia,Z,hlt,p'⟩,λx H' y=>?_⟩;obtain⟨T,hT,rfl,k⟩:=y;obtain⟨x,hx,rfl⟩:=k xs q;exact hs i x T σ H hx hT p
 ·have e:i=xs.length:=by lia
  subst e;exact .inl ⟨⟨xs,q,YLr _⟩,hd σ H p⟩
end L2
namespace L2
open PySem PySem.Spec PyProof.Rows
theorem YLG:typeLookup (.type "reversed") "__len__"=pure none:=by rw[typeLookup_type,builtinLookup_eq_fast];kernel_rfl
theorem rv_hint:typeLookup (.type "reversed") "__length_hint__"=pure (some (.builtin "reversed.__length_hint__")):=by rw[typeLookup_type,builtinLookup_eq_fast];kernel_rfl
theorem YGt:Slot "reversed" "__length_hint__" "reversed.__length_hint__":=.of (owner:="reversed") (n:="__length_hint__") (by rw[typeLookup_type,builtinLookup_eq_fast];kernel_rfl) (by decide +kernel) (by decide +kernel) (by decide +kernel) (by first |exact .inl (by decide +kernel) |exact .inr (by decide +kernel)) (by rw[isSubtype_type];kernel_rfl)
theorem rv_entH:entryFor table "reversed.__length_hint__"=some Builtin.«reversed.__length_hint__»:=entryFor_of_tree (by kernel_rfl)
theorem rv_argH (a:Value):argsOk "reversed.__length_hint__" ⟨[a],[]⟩:=by unfold argsOk;kernel_rfl
section
variable {prog:Program}{w:World}{A:Around}{E:Value->Shared->Prop}{s:Shared}
theorem YIF (hh:A.handled=none) (it l:Addr) (hne:l≠it) (items:Array Value) (hz:(items.size:Int) < 2 ^ 63):
  Walks prog w A it [it,l] [it] items.size (λi v=>items[items.size - 1 - i]?=some v) (λi h=>YDu h it l ((items.size:Int) - 1 - i)/\IsTup h l items) where
 sub:=λb hb=>by simp at hb;simp[hb]
 frame:=λi h h' st hk=>by
  obtain⟨⟨o,a,b,c⟩,⟨o2,a2,b2⟩⟩:=st;exact⟨⟨o,hk it (by simp) o a,b,c⟩,⟨o2,hk l (by simp) o2 a2,b2⟩⟩
 item:=λi s Q E hi st hQ=>by
  have e:((items.size:Int) - 1 - (i:Nat))=((items.size - 1 - i:Nat):Int):=by lia
  rw[e]at st;refine YFB st.1 st.2 (x:=items[items.size - 1 - i]) (by simp) hz λh' hit' hs'=>?_
  obtain⟨o2,a2,b2⟩:=st.2;refine hQ _ h' (s.toks + 1) (by simp) ⟨?_,o2,(hs'.2 l hne).trans a2,b2⟩ λb o hb q=>hs'.extBut b o (λz=>hb (by simp[z])) q
  have e2:((items.size - 1 - i:Nat):Int) - 1=(items.size:Int) - 1 - ((i + 1:Nat):Int):=by lia
  rw[e2]at hit';exact hit'
 done:=λs Q E st hQ=>by
  have e:((items.size:Int) - 1 - (items.size:Nat))=-1:=by lia
  rw[e]at st;exact YGq hh st.1 λh' he'=>hQ h' s.toks λb o hb q=>he' b o (λz=>hb (by simp[z])) q
 self:=λ_ _ _ _ st hQ=>YBR st.1 hQ
theorem YIG {it l:Addr}{items:Array Value}{Q:Value->Shared->Prop} (hit:YDu s.heap it l ((items.size:Int) - 1)) (hl:IsTup s.heap l items) (hz:(items.size:Int) < 2 ^ 63)
  (h:∀t tk,Q (.int (items.size:Int) t) { s with toks:=tk }):wpAny (model prog w) A (call (.builtin "reversed.__length_hint__") [.ref it]) Q E s:=by
 obtain⟨o,ho,hc,hd⟩:=id hit;have hT:s.TypeIs (.ref it) "reversed":=⟨o,ho,hc⟩;refine wpAny_call_entry YGt hT rv_entH ?_ (rv_argH _);unfold Builtin.«reversed.__length_hint__»;refine YLx (YMJ (YLx (wpAny_field ho hd (x:=.ref l) rfl ?_)));refine(show wpAny _ _ (if (Value.ref l == Value.none)=true then _ else _) _ _ s from ?_);rw[if_neg (show ¬(Value.ref l == Value.none)=true from YL7)];refine YLx (len_tuple hl hz ?_);refine YLx (YMJ (YLx (wpAny_field (s:={ s with toks:=s.toks + 1 + 1 }) ho hd (x:=.int ((items.size:Int) - 1) 0) rfl ?_)));refine(show wpAny _ _ (if (items.size:Int) < (items.size:Int) - 1 + 1 then _ else _) _ _ _ from ?_);rw[if_neg (by lia)];have e:(items.size:Int) - 1 + 1=(items.size:Int):=by lia
 rw[e];exact YLx (wpAny_mkInt (YMJ ⟨_,Z,h _ _⟩))
theorem YJv {it l:Addr}{items:Array Value}{Q:Bool->Shared->Prop} (hit:YDu s.heap it l ((items.size:Int) - 1)) (hl:IsTup s.heap l items) (hz:items.size<=sizeLine) (h:∀b tk,Q b { s with toks:=tk }):
  wpAny (model prog w) A (Builtin.List.listLengthHint (.ref it)) Q E s:=by
 obtain⟨o,ho,hc,hd⟩:=id hit;have hT:s.TypeIs (.ref it) "reversed":=⟨o,ho,hc⟩;unfold Builtin.List.listLengthHint;refine YLx (wpAny_specialOf hT YLG ?_);show wpAny _ _ (specialOf (Value.ref it) (Str.ofString "__length_hint__") >>= _) _ _ _;refine YLx (wpAny_specialOf hT rv_hint ?_);generalize hid:("reversed.__length_hint__":String)=W3
 wp_delta;rw[show splitId W3=some ("reversed","__length_hint__") from by subst hid;decide +kernel];subst hid
 refine YLx (wpAny_isInstance (T:="reversed") (b:=true) hT (by rw[isSubtype_type];kernel_rfl) ?_);rw[if_neg (by decide)];refine(show wpAny _ _ (if _ then _ else _) _ _ _ from ?_);rw[if_neg (by decide)];refine YLx (wpAny_rule (YLx (wpAny_of_eq (YGt.bind (.ref it)) ?_)));refine YLx (wpAny_attempt (YIG hit hl (by rw[sizeLine_eq]at hz;lia) λt tk=>?_));have f1:Builtin.List.listFitsIndex (items.size:Int)=true:=by
  unfold Builtin.List.listFitsIndex;rw[sizeLine_eq]at hz;rw[YL5,YMa,YMa]
  lia
 have f2:Builtin.List.listTooLong (items.size:Int).toNat=false:=by
  unfold Builtin.List.listTooLong;exact YLz (by rw[YNW];lia)
 have f3:¬(items.size:Int) < 0:=by lia
 revert f1 f2 f3;generalize (items.size:Int)=n;intro f1 f2 f3;refine(show wpAny _ _ (asInt? (.int n t) >>= _) _ _ _ from YLx (YMJ ?_));refine wpAny_ite_split (λz=>absurd z (by rw[f1];decide)) λ_=>?_
 refine wpAny_ite_split (λz=>absurd z f3) λ_=>?_
 refine wpAny_ite_split (λz=>absurd z (by rw[f2];decide)) λ_=>?_
 exact YMJ (h _ _)
theorem YDw {it l:Addr}{items:Array Value}{Q:Value->Shared->Prop} (hh:A.handled=none) (hit:YDu s.heap it l ((items.size:Int) - 1)) (hl:IsTup s.heap l items) (hne:l≠it) (hn:items.size<=sizeLine)
  (hQ:∀h' tk dz c',(∀b o,b≠it->s.heap.get? b=some o->h'.get? b=some o)->h'.get? s.heap.objs.size=some { cls:=.type "list",dict:=none,data:=.seq dz c',slots:=#[] }->
   ItemsOf (λi v=>items[items.size - 1 - i]?=some v) dz items.size->Q (.ref s.heap.objs.size) { s with heap:=h',toks:=tk }):wpAny (model prog w) A (call (.type "list") [.ref it]) Q E s:=by
 have itlt:it < s.heap.objs.size:=by obtain⟨o,ho,_⟩:=hit;exact YL4 ho
 have llt:l < s.heap.objs.size:=hl.lt;have Q6:(items.size:Int) < 2 ^ 63:=by rw[sizeLine_eq]at hn;lia
 refine callType_codes (Q₁:=λobj t=>obj=.ref s.heap.objs.size/\t={ s with heap:=s.heap.push { cls:=.type "list",data:=.seq #[] } }) F.called_list (F.typeCall_list_1 _) F.entry_list_init (code_list_new _ ⟨Z,Z⟩) λobj t ht=>?_
 obtain⟨rfl,rfl⟩:=ht;have g0:(s.heap.push { cls:=.type "list",data:=.seq #[] }).get? s.heap.objs.size=some { cls:=.type "list",data:=.seq #[] }:=YMF _ rfl;refine⟨⟨_,g0,Z⟩,F.args_list_init_2 _ _,?_⟩;show wpAny _ _ (Builtin.List.listItems (.ref s.heap.objs.size) >>= λold=>Builtin.List.listUpdate (.ref s.heap.objs.size) (λ_=>#[]) >>= λ_=>letGo old.toList.reverse >>= λ_=>Builtin.List.listExtendWith (.ref s.heap.objs.size) (.ref it) .none) _ _ _;refine YLx ?_;unfold Builtin.List.listItems;refine YLx (wpAny_seqItems g0 rfl (YMJ ?_));refine YLx (show wpAny _ _ (updateSeq s.heap.objs.size (λ_=>#[])) _ _ _ from wpAny_updateSeq g0 rfl ?_);have g1:=YMl (Obj.mapSeq (λ_=>(#[]:Array Value))) g0 rfl;have k1:∀b o,s.heap.get? b=some o->((s.heap.push { cls:=.type "list",data:=.seq #[] }).update s.heap.objs.size (Obj.mapSeq (λ_=>(#[]:Array Value)))).get? b=some o:=λb o e=>
  (YMY _ _ (YNA (YL4 e))).trans (YL0 _ e)
 have tup_at:∀{h1:Heap},(∀b o,s.heap.get? b=some o->h1.get? b=some o)->YDu h1 it l ((items.size:Int) - 1)/\IsTup h1 l items:=λ{h1} k=>by
  obtain⟨o,ho,r⟩:=hit;obtain⟨o2,vz,r2⟩:=hl;exact⟨⟨o,k it o ho,r⟩,⟨o2,k l o2 vz,r2⟩⟩
 refine YLx (wpAny_letGo ?_);revert g1 k1;generalize (s.heap.push { cls:=.type "list",data:=.seq #[] }).update s.heap.objs.size (Obj.mapSeq (λ_=>(#[]:Array Value)))=h1;intro g1 k1;obtain⟨lN,hl1⟩:=tup_at k1;have hT:Shared.TypeIs { s with heap:=h1 } (.ref it) "reversed":=by obtain⟨o,ho,hc,_⟩:=lN;exact⟨o,ho,hc⟩
 have W:=(YIF (prog:=prog) (w:=w) (A:=A.in1.in1) hh it l hne items Q6).toS;have nf:s.heap.objs.size∉[it,l]:=by simp only[YMA,YMo,or_false,not_or];exact⟨YNA itlt,YNA llt⟩
 have key:∀(h2:Heap) (c1 tk:Nat),(∀b o,s.heap.get? b=some o->h2.get? b=some o)->h2.get? s.heap.objs.size=some { cls:=.type "list",data:=.seq #[] c1 }->
   codeAny (model prog w) A.in1 (.builtin "list.extend.loop" ⟨[.ref s.heap.objs.size,.ref it,.none],[]⟩) (wants (λr s₂=>r=Value.none/\Q (Value.ref s.heap.objs.size) s₂) E) { s with heap:=h2,toks:=tk }:=by
  intro h2 c1 tk k2 g2;obtain⟨hit2,hl2⟩:=tup_at k2;refine codeAny_extend_loopS W hn _ nf _ items.size 0 _ _ _ rfl (YMI _) ⟨by simpa using hit2,hl2⟩ g2 (ItemsOf.nil _) λs' dz c' hm hS' hacc=>?_
  rw[Moved.eq_with hm];refine⟨Z,hQ s'.heap s'.toks dz c' (λb o hb e=>hm.heap b o (λhmem=>?_) (k2 b o e)) hS' hacc⟩;rcases YMA.mp hmem with z |hmem
  ·rw[z]at e;exact YMm _ (YL4 e)
  ·exact hb (YL1.mp hmem)
 unfold Builtin.List.listExtendWith;refine YLx (wpAny_typeOf hT ?_);have ns:Builtin.List.listSameRef (.ref s.heap.objs.size) (.ref it)=false:=by simp[Builtin.List.listSameRef,YNA itlt]
 rw[if_neg (by rw[ns];decide)];refine YLx (YBR lN (YLx (wpAny_holding (YJv lN hl1 hn λb tk=>?_))));refine wpAny_ite_split (λ_=>?_) (λ_=>YMJ ⟨plainId_quiet F.plain_extend_loop _,key h1 _ _ k1 g1⟩);refine YLx (wpAny_rule (YLx ?_));refine(show wpAny _ _ (updateSeq s.heap.objs.size (·.push .none) >>= λ_=>updateSeq s.heap.objs.size (·.pop)) _ _ _ from ?_);refine YLx (wpAny_updateSeq g1 rfl ?_);have g2:=YMl (Obj.mapSeq (·.push Value.none)) g1 rfl;refine wpAny_updateSeq (hz:=by seq_fits) g2 rfl ?_;have g3:=YMl (Obj.mapSeq (·.pop)) g2 rfl;refine YMJ ⟨plainId_quiet F.plain_extend_loop _,key _ _ _ (λb o e=>?_) g3⟩;have nb:s.heap.objs.size≠b:=YNA (YL4 e);exact(YMY _ _ nb).trans ((YMY _ _ nb).trans (k1 b o e))
end
def YJw (K:W.Frag) (ta:TA):TE:=λσ H Q=>ta σ H λvs H1=>∃a xs,vs=[.ref a]/\SqT K H1 a xs/\∀l,H1 l=none->Q (.ref l) (upd H1 l (.lst xs.reverse))
theorem YFx (K:W.Frag) {X:Cx} (hK:X.K=K) {a:Expr}{ta:TA}{p p2 pos gj:Pos} (hc:X.calm=true) (hg:Gl X "list") (hm:X.mg "list"=none) (zQ:Gl X "reversed") (hm2:X.mg "reversed"=none) (ha:PA X [a] ta)
  (hs:starEach [.Call (.Name "reversed" p2) [a] [] gj] X.env=[(false,eval (.Call (.Name "reversed" p2) [a] [] gj) X.env)]:=by rfl) (hs2:starEach [a] X.env=[(false,eval a X.env)]:=by rfl):
  PE X (.Call (.Name "list" p) [.Call (.Name "reversed" p2) [a] [] gj] [] pos) (YJw K ta):=by
 subst hK;intro pins s σ H Q I h;refine wpAny_Call_Name_kw (JT I hg hm YMr ?_);refine PyProof.Rows.callWith_type1 ?_ hs rfl;rw[hs];show wpAny _ _ (spliced ((false,eval (.Call (.Name "reversed" p2) [a] [] gj) X.env) :: [])) _ _ s;refine Calls.spliced_cons (wpAny_Call_Name_kw (JT I zQ hm2 YNZ (PyProof.Rows.callWith_type1 (thn (ha gj pins s σ H _ I h) λus s1 ⟨vs,H1,I1,r1,q1⟩=>?_) hs2 rfl)));obtain⟨l,xs,rfl,hq,q⟩:=q1;obtain⟨u,rfl,ru⟩:=Xj r1;cases ru;obtain⟨its,rv,pl,hz⟩:=I1.tuple hq;have hlen:xs.length=its.length:=rv.length;have yX:=X8;refine YA5 pl (by rw[YL3];lia) λh1 hit hk=>Calls.spliced_nil ?_
 have V_:IsTup h1 l its.toArray:=by obtain⟨o,ho,r⟩:=pl;exact⟨o,hk l o ho,r⟩
 refine YDw (s:={ s1 with heap:=h1,toks:=s1.toks + 1 + 1 }) (items:=its.toArray) (I1.ok.hd hc) hit V_ (YMS pl.lt) (by rw[YL3];lia) λh' tk dz c' hk' hS hit'=>?_
 have uD:Ym xs.reverse dz.toList:=by
  refine YDL (by
   have e1:dz.toList.length=its.length:=(Array.length_toList.trans hit'.1).trans (YL3 ..);rw[YMU,hlen,e1]) λj x u h1 h2=>?_
  have h3:=hit'.2 j u (by rw[<-YMq];exact h2);have hj:j < xs.length:=by
   have:=(YLv.mp h1).1
   rwa [YMU]at this
  rw[List.getElem?_reverse hj]at h1;obtain⟨u',e1,r'⟩:=rv.get h1;rw[List.getElem?_toArray,YL3,<-hlen]at h3;rw[h3]at e1;cases e1;exact r'
 have le:s1.heap.objs.size<=h1.objs.size:=by
  obtain⟨o,ho,_⟩:=hit;exact YNa (YL4 ho)
 have kk:∀b u,s1.heap.get? b=some u->h'.get? b=some u:=λb u e=>hk' b u (YMS (YL4 e)) (hk b u e)
 exact⟨.ref h1.objs.size,_,I1.laid (t':=tk) kk le (show Y3 X.prog X.w _ h' _ (.lst _) from⟨by rw[YMU];exact hz,dz.toList,c',uD,by simpa using hS⟩),Z,q _ (I1.hok.fresh le)⟩
end L2
namespace FR
open PySem L2
def nV (k:Nat):V:=.int (k:Int)
def chV (c:Nat):V:=.str ⟨#[c]⟩
theorem Jy {r:Yp} (h:JJ r=true):r.2.1.length<=6/\∀p∈r.2.1,Yo p=true:=by
 unfold JJ at h;simp only[YL5,YMa]at h;exact⟨h.2.1.1,YMR.mp h.2.1.2⟩
theorem YAM {r:Yp} (h:JJ r=true):isNameS r.1=true:=by
 unfold JJ at h;rw[YL5]at h;exact h.1
theorem decS {x y:Str}:decide (V.str x=V.str y)=decide (x=y):=by
 by_cases h:x=y
 ·rw[YLw h,YLw (by rw[h])]
 ·rw[YLz h,YLz (λe=>h (V.str.inj e))]
theorem YDx (z:Str):isQ z=decide (z.cps.toList[0]?=some 39):=by
 have e0:(("'":Str))=⟨#[39]⟩:=by decide +kernel
 unfold isQ;rw[e0,YNC,YMa];have:=StrLaws.subAt_one z 39 0;unfold Txt.startswith;rw[YL5,YMa];exact this
theorem YAa {p:Str} (h:Yo p=true):∃c,atI p.cps.toList 0=some c/\p.length<=8/\decide (V.str ⟨#[c]⟩=V.str "'")=isQ p:=by
 have h8:=YGf h;have h1:0 < p.cps.toList.length:=by
  rw[YMM];unfold Yo at h;rw[Bool.or_eq_true]at h;rcases h with h |h
  ·unfold XV at h;rw[YL5,YL5]at h;have:p.cps.size=2:=eq_of_beq h.1.1
   lia
  ·unfold isNameS at h;rw[YL5,YL5]at h;have:1<=p.cps.size:=YME h.1.1
   lia
 have e:p.cps.toList[0]?=some p.cps.toList[0]:=YLs h1;refine⟨p.cps.toList[0],Yn (j:=0) e,h8,?_⟩;rw[YDx,e,decS];have e0:(("'":Str))=⟨#[39]⟩:=by decide +kernel
 rw[e0]
 by_cases hc:p.cps.toList[0]=39
 ·rw[YLw (by rw[hc]),YLw (by rw[hc])]
 ·rw[YLz (λz=>hc (by injection z with z;simpa using z)),YLz (λz=>hc (YMO z))]
theorem YC0 {p:Str} (h:Yo p=true) (hq:isQ p=true):atI p.cps.toList 1=some (sgn p):=by
 unfold Yo at h;rw[Bool.or_eq_true]at h;rcases h with h |h
 ·unfold XV at h;rw[YL5,YL5]at h;have h2:p.cps.size=2:=eq_of_beq h.1.1;have h1:1 < p.cps.toList.length:=by rw[YMM];lia
  have e:p.cps.toList[1]?=some p.cps.toList[1]:=YLs h1;have e2:sgn p=p.cps.toList[1]:=by
   unfold sgn;rw[Array.getD_eq_getD_getElem?,<-YMq,e];rfl
  rw[e2];exact Yn (j:=1) e
 ·rw[YDx]at hq;have hq:=YME hq;unfold isNameS at h;rw[YL5]at h;exact absurd (YMR.mp h.2 39 (YLu hq)) (by decide)
theorem YCC {z:Str} (h:isNameS z=true):isQ z=false:=by
 rw[YDx];refine YLz λe=>?_
 unfold isNameS at h;rw[YL5]at h;exact absurd (YMR.mp h.2 39 (YLu e)) (by decide)
theorem YDy {z:Str} (h:isNameS z=true):Yo z=true:=by
 unfold Yo;rw[h,Bool.or_true]
theorem Ji {g:Yl}{r:Yp}{i:Nat} (hg:Yu g=true) (er:g[i]?=some r):JJ r=true:=by
 unfold Yu at hg;rw[YL5]at hg;exact YMR.mp hg.2 r (YLu er)
theorem Jj {H:Hp}{xs:List V}{g:Yl} (hds:Yh H xs (g.map ZR)) {k:Nat}{r:Yp} (er:g[k]?=some r):∃t p,atI xs (k:Int)=some (.ref t)/\H t=some (.tup [.str r.1,.ref p,.int r.2.2])/\H p=some (.tup (r.2.1.map V.str)):=by
 have sU:xs.length=g.length:=by rw[hds.len,YLp]
 have RC:k < xs.length:=by rw[sU];exact(YLv.mp er).1
 have hix:xs[k]?=some xs[k]:=YLs RC;obtain⟨r',t,p,uE,Ba,ht,hpp⟩:=J5 hds hix;rw[er]at uE;cases uE;exact⟨t,p,by rw[<-Ba];exact Yn hix,ht,hpp⟩
inductive Jz (g:Yl):List Str->List Nat->List Nat->Prop
 |nil:Jz g [] [] []
 |sign {p:Str}{ws:List Str}{ks sg:List Nat}:isQ p=true->Jz g ws ks sg->Jz g (p :: ws) ks (sgn p :: sg)
 |name {r:Yp}{ws:List Str}{k:Nat}{ks sg:List Nat}:isQ r.1=false->g[k]?=some r->Jz g (r.2.1 ++ ws) ks sg->Jz g (r.1 :: ws) (k :: ks) sg
end FR
namespace L2
open PySem PySem.Spec PyProof.Rows
section
variable {X:Cx}{pins:List (Addr×Obj)}{σ:St}{H:Hp}{s:Shared}{a b:Addr}{kvs:List (List Key×V)}{k:List Key}{u r:Value}{v:V}{A:Around}{E:Value->Shared->Prop}
end
section
variable {X:Cx}{o e f:Expr}{cC bH:Pos}{td ty tx:TE}
end
end L2
namespace FR
open PySem L2
inductive Nd where
 |part (p:Str) (i j:Nat)
 |beg (r d i j:Nat)
deriving DecidableEq
def Z6:Nd->List Key
 |.part p i j=>[.inr p,.inl (i:Int),.inl (j:Int)]
 |.beg r d i j=>[.inl (r:Int),.inl (d:Int),.inl (i:Int),.inl (j:Int)]
theorem YLH {x y:Nd} (h:Z6 x=Z6 y):x=y:=by
 cases x <;> cases y <;> simp only[Z6,List.cons.injEq,Sum.inl.injEq,Sum.inr.injEq,Int.ofNat_inj,and_true,reduceCtorEq,and_false,false_and]at h
 ·obtain⟨h1,h2,h3⟩:=h;rw[h1,h2,h3]
 ·obtain⟨h1,h2,h3,h4⟩:=h;rw[h1,h2,h3,h4]
end FR
namespace L2
open PySem PySem.Spec PyProof.Rows
section
variable {X:Cx}{k_:List Expr}{k:Nat}{mV:Pos}
end
end L2
namespace L2
open PySem PySem.Spec PyProof.Rows
section
variable {X:Cx}{pins:List (Addr×Obj)}{σ:St}{H:Hp}{s:Shared}{d:Addr}{kvs:List (List Key×V)}
theorem Inv.freezeT (I:Inv X pins σ H s) (hd:H d=some (.dT kvs)):∃o,Inv X pins σ (upd H d (.frz o (.dT kvs))) s:=by
 have nt:∀c xs,H c=some (.tup xs)->c≠d:=λc xs r z=>by rw[z,hd]at r;cases r
 obtain⟨_,_,_,_,o,_,_,ho,_⟩:=(show Y3 X.prog X.w H s.heap d (.dT kvs) from I.hok d _ hd);refine⟨o,I.write (x:=d) (e:=d) (h':=s.heap) (t':=s.toks) (by rw[hd];trivial) (.inl rfl) (λ_ _ _ e=>e) ⟨o,ho⟩ ⟨ho,?_⟩⟩;exact(I.hok d _ hd).stay (λ_ _ _ e=>e) (λb e=>by rw[YJ (YEl e hd nofun)];exact e) λb xs e=>by rw[YJ (nt b xs e)];exact e
end
section
variable {X:Cx}
end
end L2
namespace L2
open PySem PySem.Spec PyProof.Rows
section
variable {prog:Program}{w:World}{A:Around}{E:Value->Shared->Prop}{s:Shared}
end
section
variable {X:Cx}{k_:List Expr}{k:Nat}{mV:Pos}
end
end L2
namespace L2
open PySem PySem.Spec PyProof.Rows
def ItK (d:Addr) (o:Obj) (kvs:List (Key×V)):It:=
 ⟨λi H=>H d=some (.frz o (.dK kvs))/\i < kvs.length,λi H v H'=>∃kv,kvs[i]?=some kv/\v=kV kv.1/\H'=H,λi H=>H d=some (.frz o (.dK kvs))/\i=kvs.length⟩
theorem YFC {P:Program}{w:World}{K:W.Frag}{tg:Expr}{d it:Addr}{o:Obj}{kvs:List (Key×V)}{es:Array DictEntry}{ep:Nat} (ho:o.data=.dict es ep):
  YEP P w K tg (ItK d o kvs) [it] it (λi h=>h.IsKeyIter it d i kvs.length ep) where
 mem:=by simp
 obj:=λi h st b hb=>by
  have eb:b=it:=by simpa using hb
  subst eb;obtain⟨o,e,c,d⟩:=st;exact⟨o,e,λv z=>by rw[d]at z;cases z⟩
 keep:=λi h h' st k=>st.at λo e=>k it (by simp) o e
 item:=by
  intro X hP hw hK hc i pins s σ H E I hf st hg;subst hP hw hK;obtain⟨hd,hi⟩:=hg;obtain⟨uF,hsz,lo,vs,rel,hD⟩:=(show Y3 X.prog X.w H s.heap d (.frz o (.dK kvs)) from I.hok d _ hd);obtain⟨o2,yK,Qn,h1,h2,h3,h4⟩:=hD;rw[uF]at h1;cases h1;rw[ho]at h3;cases h3;have hat:s.heap.DictAt (ZM X.prog X.w) d vs ep:=⟨o,es,uF,h2,ho,h4⟩;have ekv:kvs[i]?=some kvs[i]:=by simp[hi]
  obtain⟨u,hu,ru⟩:=rel.get ekv;have hlen:kvs.length=vs.length:=rel.length;rw[hlen]at st;obtain⟨f0,f1,f2,f3,f4,f5⟩:=hf it (by simp);refine wpAny_pyNext_dict_item st hat hu λkey h' hkey st' sb=>?_
  have I1:Inv X pins σ H { s with heap:=h' }:=I.turned (t':=s.toks) (λb o hb e=>(sb.2 b hb).trans e) f0 f1 f3 f4 f5;refine⟨key,Z,letGo_keyiter (s':={ s with heap:=h' }) st' ⟨kV kvs[i].1,H,I1,YKz hkey,⟨_,ekv,Z,Z⟩,by rw[hlen];exact st',λb hb=>(hf b hb).1⟩⟩
 done:=by
  intro X hP hw hK hc i pins s σ H E I hf st hg;subst hP hw hK;obtain⟨hd,hi⟩:=hg;obtain⟨uF,hsz,lo,vs,rel,hD⟩:=(show Y3 X.prog X.w H s.heap d (.frz o (.dK kvs)) from I.hok d _ hd);obtain⟨o2,yK,Qn,h1,h2,h3,h4⟩:=hD;rw[uF]at h1;cases h1;rw[ho]at h3;cases h3;have hat:s.heap.DictAt (ZM X.prog X.w) d vs ep:=⟨o,es,uF,h2,ho,h4⟩;have hlen:kvs.length=vs.length:=rel.length;rw[hlen]at st;exact wpAny_pyNext_dict_end (I.ok.hd hc) st hat (YMf (by lia)) λh' eb=>⟨Z,I.turns (t':=s.toks) (λb o hb q=>eb b o (λz=>hb (by simp[z])) q) hf⟩
 self:=λ_ _ _ _ _ st h=>wpAny_pyIter_keyiter st h
section
variable {X:Cx}{tg:Expr}
def iDict (to:TE):TI:=λσ H R=>to σ H λx H1=>∃d kvs,x=.ref d/\H1 d=some (.dK kvs)/\∀o,R (ItK d o kvs) (upd H1 d (.frz o (.dK kvs)))
theorem YI2 {oe:Expr}{to:TE} (ho:PE X oe to):PI X tg oe (iDict to):=by
 intro pins s σ H R I h;refine thn (ho pins s σ H _ I h) λv s1 ⟨x,H1,I1,r1,q1⟩=>?_
 obtain⟨d,kvs,ex,hd,q⟩:=q1;subst ex;cases r1;obtain⟨hsz,lo,vs,rel,hD⟩:=dk_of I1.hok hd;obtain⟨ep,hat⟩:=hD.dictAt;obtain⟨od,es,uF,hex,hdat,hrest⟩:=id hat;refine wpAny_pyIter_dict lo hat ?_;have k1:∀b u,s1.heap.get? b=some u->(s1.heap.push { cls:=.type "dict_keyiterator",data:=.fields #[.ref d,.int 0 0,.int vs.length 0,.int ep 0] }).get? b=some u:=λb u e=>YL0 _ e
 have I2:=I1.kept (t':=s1.toks) k1;have I4:=I2.freeze hd (o:=od) (k1 _ _ uF);have hlen:kvs.length=vs.length:=rel.length;refine⟨_,[_],_,_,_,Z,I4,YFC (o:=od) hdat,⟨_,YMF _ rfl,Z,by rw[hlen];rfl⟩,λb hb=>?_,q od⟩;have eb:=YL1.mp hb;rw[eb];refine I1.fpOk (YLr _) ?_;have hn:=I1.hok.fresh (YLr _);rw[YJ (λz=>by rw[z,hd]at hn;cases hn)];exact hn
end
end L2
namespace L2
open PySem PySem.Spec PyProof.Rows
section
variable {prog:Program}{w:World}{A:Around}{E:Value->Shared->Prop}{s:Shared}
end
section
variable {X:Cx}{tg:Expr}
end
section
variable {prog:Program}{w:World}{d:Addr}{od:Obj}{es:Array DictEntry}{ep:Nat}
end
def tKeep1 (t:TE):TE:=λσ H Q=>t σ H λv H1=>∃d kvs,H1 d=some (.dT kvs)/\∀o,Q v (upd H1 d (.frz o (.dT kvs)))
theorem YLI {X:Cx}{e:Expr}{t:TE} (h:PE X e t):PE X e (tKeep1 t):=by
 intro pins s σ H Q I hw;refine thn (h pins s σ H _ I hw) ?_;rintro v s1 ⟨x,H1,I1,r1,d,kvs,e0,q⟩;obtain⟨o,I4⟩:=I1.freezeT e0;exact⟨x,_,I4,r1,q o⟩
section
variable {X:Cx}{o e f:Expr}{cC bH:Pos}{td ty tx:TE}
end
end L2
namespace L2
open PySem PySem.Spec PyProof.Rows
end L2
namespace L2
open PySem PySem.Spec PyProof.Rows PySem.AutoSeq1
section
variable {X:Cx}
end
end L2
namespace L2
open PySem PySem.Spec PyProof.Rows
end L2
namespace L2
open PySem PySem.Spec PyProof.Rows
section
variable {X:Cx}{pins:List (Addr×Obj)}{σ:St}{H:Hp}{s:Shared}{d:Addr}{xs:List V}
end
end L2
namespace L2
open PySem PySem.Spec PyProof.Rows PySem.SeqAt
section
variable {X:Cx}
end
end L2
namespace L2
open PySem PySem.Spec PyProof.Rows PySem.SeqAt
section
variable {X:Cx}
end
end L2
namespace L2
open PySem PySem.Spec PyProof.Rows
def Dn (K:W.Frag) (x:Str) (f:Addr):Prop:=PySem.W.nsIn K mainGlobals x=some (some (.ref f))
def Zn (K:W.Frag) (x:Str):Prop:=PySem.W.nsIn K mainGlobals x=some none
def On (K:W.Frag) (c:Addr) (x:Str):Prop:=PySem.W.findIn K (.ref c) x=some none
inductive An (K:W.Frag) (c:Addr) (x:Str) (f:Addr):Prop
 |mk:PySem.W.findIn K (.ref c) x=some (some (.ref f))->PySem.W.isFn K (.ref f)=true->An K c x f
inductive Ln (K:W.Frag) (x q:Str) (st:Stmt) (f:Addr):Prop
 |mk {oc:Value}{od an:Option Addr}{osl:Array (Option Value)}{kV doc pm aO ct:Value}:K.lookup f=some ⟨oc,od,.func (PySem.W.fnOf x q (J4 st) (JD st) (YQ st) .none kV doc pm an aO ct),osl⟩->PySem.W.codeIn K aO q=true->PySem.W.keepIn K (.ref f)=true->Ln K x q st f
theorem Ln.ex {K:W.Frag}{x q:Str}{st:Stmt}{f:Addr}:Ln K x q st f->∃fd,Fun K x q st f fd
 |.mk l c k=>⟨_,YKo l c k⟩
def Pn:Nat->(List Value->Prop)->Prop
 |0,P=>P []
 |n + 1,P=>∀a,Pn n λus=>P (a :: us)
theorem bn:∀(n:Nat) {P:List Value->Prop},Pn n P->∀us:List Value,us.length=n->P us
 |0,_,h,[],_=>h
 |0,_,_,_ :: _,e=>by cases e
 |_ + 1,_,_,[],e=>by cases e
 |n + 1,_,h,a :: us,e=>bn n (h a) us (Nat.succ.inj e)
section
variable (P:Program) (w:World) {K:W.Frag}{mg:Str->Option Value}{CX:CXT}{k:Nat}{x q:Str}{st:Stmt}{C f:Addr}{fd:FuncData}{ps:List Str}{sp:Sp}
theorem us (m:mg x=some (.ref f)) (F:Fun K x q st f fd) (o:∀base,Yt P w K mg base CX k f fd ps sp) (b:∀(kV doc pm:Value) (an:Option Addr) (aO ct:Value) (us:List Value),us.length=ps.length->bindArgs (PySem.W.fnOf x q (J4 st) (JD st) (YQ st) .none kV doc pm an aO ct) ⟨us,[]⟩=pure (ps.zip us)):Zc P w K mg CX k x ps sp:=⟨⟨f,fd,o,m,F.kp,F.binds b⟩⟩
theorem usM (a:An K C x f) (F:Fun K x q st f fd) (o:∀base,Yt P w K mg base CX k f fd ps sp) (b:∀(kV doc pm:Value) (an:Option Addr) (aO ct:Value) (us:List Value),us.length=ps.length->bindArgs (PySem.W.fnOf x q (J4 st) (JD st) (YQ st) .none kV doc pm an aO ct) ⟨us,[]⟩=pure (ps.zip us)):XA P w K mg CX k C x ps sp:=by
 cases a with
 |mk a j=>exact⟨⟨f,fd,o,⟨a,j,F.kp⟩,F.binds b⟩⟩
theorem usI (h1:PySem.W.makesIn K C=true) (h2:PySem.W.keepIn K (.ref C)=true) (a:An K C "__init__" f) (F:Fun K x q st f fd) (o:∀base,Yt P w K mg base CX k f fd ps sp) (b:∀(kV doc pm:Value) (an:Option Addr) (aO ct:Value) (us:List Value),us.length=ps.length->bindArgs (PySem.W.fnOf x q (J4 st) (JD st) (YQ st) .none kV doc pm an aO ct) ⟨us,[]⟩=pure (ps.zip us)):UsedI P w K mg CX k C ps sp:=by
 cases a with
 |mk a j=>exact⟨⟨f,fd,o,⟨h1,a,j,h2⟩,F.binds b⟩⟩
end
end L2
namespace L2
open PySem PySem.Spec PyProof.Rows
section
variable {prog:Program}{w:World}{A:Around}{R:Result->Shared->Prop}{I S:Addr}{fp wr:List Addr}{n:Nat}{P:Nat->Value->Prop}{St:Nat->Heap->Prop}{bt:Nat->Nat->Bool}{kw:List (Str×Value)}
end
section
variable {prog:Program}{w:World}{A:Around}{E:Value->Shared->Prop}{s:Shared}{l:Addr}{items:Array Value}{bt:Nat->Nat->Bool}{d:Value}
end
section
variable {X:Cx}{x:Str}{e:Expr}{kws:List Keyword}{p pos:Pos}{t tk:TA}
end
end L2
namespace L2
open PySem PySem.Spec PyProof.Rows PySem.SeqAt
def ltP (a b:Int×Int):Bool:=decide (a.1 < b.1\/(a.1=b.1/\a.2 < b.2))
theorem YIH (a b:Int×Int):HT.lexLt [a.1,a.2] [b.1,b.2]=ltP a b:=by
 unfold ltP;rw[HT.lexLt_cons,HT.lexLt_cons,HT.lexLt_nil_nil]
 by_cases h:a.1=b.1
 ·rw[if_pos h]
  by_cases h2:a.2=b.2
  ·rw[if_pos h2];exact(YLz (by lia)).symm
  ·rw[if_neg h2];exact decide_eq_decide.mpr (by lia)
 ·rw[if_neg h];exact decide_eq_decide.mpr (by lia)
def YI3 (prog:Program) (w:World) (A:Around) (kp:Addr->Obj->Prop) (P:Nat->Value->Prop) (bt:Nat->Nat->Bool):Prop:=
 ∀i j vi vj (s:Shared) (Q:Value->Shared->Prop) (E:Value->Shared->Prop),(∀a o,kp a o->s.heap.get? a=some o)->P i vi->P j vj->Q (.bool (bt i j)) s->wpAny (model prog w) A (richCompare .Lt vi vj) Q E s
section
variable {prog:Program}{w:World}{A:Around}{R:Result->Shared->Prop}{I S:Addr}{fp wr:List Addr}{n:Nat}{P:Nat->Value->Prop}{St:Nat->Heap->Prop}{bt:Nat->Nat->Bool}{kw:List (Str×Value)}{kp:Addr->Obj->Prop}
theorem YDN:(toString "min" ++ toString ".loop":String)="min.loop":=by decide
theorem mn_more (W:Walks prog w A.in1 I fp wr n P St) (vX:YI3 prog w A.in1 kp P bt) (nS:S∉fp) (nk:∀a o,kp a o->a∉wr/\a≠S):∀(m j:Nat),n=j + 1 + m->∀(s:Shared) (x:Value) (c:Nat),(∀a o,kp a o->s.heap.get? a=some o)->St (j + 1) s.heap->P (argBest bt j) x->
  s.heap.get? S=some ⟨.type "list",none,.seq #[x,x] c,#[]⟩->(∀y h' tk,P (argBest bt (n - 1)) y->(∀a o,a∉wr->a≠S->s.heap.get? a=some o->h'.get? a=some o)->R (.ok (.ret y)) { s with heap:=h',toks:=tk })->
  codeAny (model prog w) A (.builtin "min.loop" ⟨[.ref I,.none,.ref S],kw⟩) R s:=λm=>by
 have nw:S∉wr:=λz=>nS (W.sub _ z)
 induction m with
 |zero=>
  intro j en s x c sk st px gS fin;have en:j + 1=n:=by lia
  refine codeAny_builtin F.entry_min_loop ?_;rw[Around.under_plainId F.plain_min_loop];show wpAny _ _ (seqItems? (.ref S) >>= _) _ _ _;refine YLx (wpAny_seqItems gS rfl ?_);show wpAny _ _ (tryCatch (pyNext (.ref I)) _ >>= _) _ _ _;subst en;refine YLx (wpAny_tryCatch (W.done s _ _ st λh1 t1 k1=>?_));show wpAny _ _ (updateSeq S (λ_=>#[]) >>= _) _ _ _;refine YLx (wpAny_updateSeq (k1 S _ nw gS) rfl (YLx (wpAny_letGo (YMJ ?_))));exact fin x _ t1 px λa o h1 h2 e=>(YMY _ _ h2.symm).trans (k1 a o h1 e)
 |succ m ih=>
  intro j en s x c sk st px gS fin;have lt:j + 1 < n:=by lia
  have W4:n=j + 1 + 1 + m:=by lia
  refine codeAny_builtin F.entry_min_loop ?_;rw[Around.under_plainId F.plain_min_loop];show wpAny _ _ (seqItems? (.ref S) >>= _) _ _ _;refine YLx (wpAny_seqItems gS rfl ?_);show wpAny _ _ (tryCatch (pyNext (.ref I)) _ >>= _) _ _ _;refine YLx (wpAny_tryCatch (W.item (j + 1) s _ _ lt st λy h1 t1 py Qo k1=>?_));have g1:=k1 S _ nw gS;have W5:∀a o,kp a o->h1.get? a=some o:=λa o h=>k1 a o (nk a o h).1 (sk a o h)
  show wpAny _ _ (tryCatch (holding [y,y] (richCompare .Lt y x >>= _)) _ >>= _) _ _ _;refine YLx (wpAny_tryCatch (wpAny_holding (YLx (vX (j + 1) (argBest bt j) y x _ _ _ W5 py px (YLx (wpAny_holding (wpAny_truthy_bool (YLx (wpAny_letGo (YMJ ?_))))))))));have ab:argBest bt (j + 1)=if bt (j + 1) (argBest bt j)=true then j + 1 else argBest bt j:=rfl
  cases hb:bt (j + 1) (argBest bt j) with
  |true=>
   rw[hb,if_pos rfl]at ab;rw[if_pos rfl];refine YLx (wpAny_updateSeq g1 rfl (YLx (wpAny_letGo ?_)));rw[YDN];refine YMJ ⟨plainId_quiet F.plain_min_loop _,ih (j + 1) W4 _ y _ (λa o h=>(YMY _ _ (nk a o h).2.symm).trans (W5 a o h)) (W.frame _ _ _ Qo λa ha o e=>(YMY _ _ λz=>nS (by rw[z];exact ha)).trans e) (by rw[ab];exact py) (YMl _ g1 rfl) λv h2 t2 pv k2=>?_⟩;exact fin v h2 t2 pv λa o n1 n2 e=>k2 a o n1 n2 ((YMY _ _ n2.symm).trans (k1 a o n1 e))
  |false=>
   rw[hb,if_neg YL7]at ab;rw[if_neg YL7];refine YLx (wpAny_letGo ?_);rw[YDN];refine YMJ ⟨plainId_quiet F.plain_min_loop _,ih (j + 1) W4 _ x c W5 Qo (by rw[ab];exact px) g1 λv h2 t2 pv k2=>?_⟩;exact fin v h2 t2 pv λa o n1 n2 e=>k2 a o n1 n2 (k1 a o n1 e)
theorem YLJ (W:Walks prog w A.in1 I fp wr n P St) (vX:YI3 prog w A.in1 kp P bt) (nS:S∉fp) (nk:∀a o,kp a o->a∉wr/\a≠S) {s:Shared}{c:Nat} (sk:∀a o,kp a o->s.heap.get? a=some o) (hn:0 < n) (st:St 0 s.heap) (gS:s.heap.get? S=some ⟨.type "list",none,.seq #[] c,#[]⟩)
  (fin:∀y h' tk,P (argBest bt (n - 1)) y->(∀a o,a∉wr->a≠S->s.heap.get? a=some o->h'.get? a=some o)->R (.ok (.ret y)) { s with heap:=h',toks:=tk }):
  codeAny (model prog w) A (.builtin "min.loop" ⟨[.ref I,.none,.ref S],kw⟩) R s:=by
 have nw:S∉wr:=λz=>nS (W.sub _ z)
 refine codeAny_builtin F.entry_min_loop ?_;rw[Around.under_plainId F.plain_min_loop];show wpAny _ _ (seqItems? (.ref S) >>= _) _ _ _;refine YLx (wpAny_seqItems gS rfl ?_);show wpAny _ _ (tryCatch (pyNext (.ref I)) _ >>= _) _ _ _;refine YLx (wpAny_tryCatch (W.item 0 s _ _ hn st λy h1 t1 py Qo k1=>?_));have g1:=k1 S _ nw gS;show wpAny _ _ (updateSeq S (λ_=>#[y,y]) >>= _) _ _ _;refine YLx (wpAny_updateSeq g1 rfl ?_);rw[YDN];refine YMJ ⟨plainId_quiet F.plain_min_loop _,mn_more W vX nS nk (n - 1) 0 (by lia) _ y _ (λa o h=>(YMY _ _ (nk a o h).2.symm).trans (k1 a o (nk a o h).1 (sk a o h))) (W.frame _ _ _ Qo λa ha o e=>(YMY _ _ λz=>nS (by rw[z];exact ha)).trans e) py (YMl _ g1 rfl) λv h2 t2 pv k2=>?_⟩;exact fin v h2 t2 pv λa o n1 n2 e=>k2 a o n1 n2 ((YMY _ _ n2.symm).trans (k1 a o n1 e))
theorem mn_none (W:Walks prog w A.in1 I fp wr n P St) (nS:S∉fp) {s:Shared}{c:Nat}{k:Str}{d:Value} (hn:n=0) (st:St 0 s.heap) (gS:s.heap.get? S=some ⟨.type "list",none,.seq #[] c,#[]⟩)
  (fin:∀h' tk,(∀a o,a∉wr->s.heap.get? a=some o->h'.get? a=some o)->R (.ok (.ret d)) { s with heap:=h',toks:=tk }):
  codeAny (model prog w) A (.builtin "min.loop" ⟨[.ref I,.none,.ref S],[(k,d)]⟩) R s:=by
 refine codeAny_builtin F.entry_min_loop ?_;rw[Around.under_plainId F.plain_min_loop];show wpAny _ _ (seqItems? (.ref S) >>= _) _ _ _;refine YLx (wpAny_seqItems gS rfl ?_);show wpAny _ _ (tryCatch (pyNext (.ref I)) _ >>= _) _ _ _;subst hn;refine YLx (wpAny_tryCatch (W.done s _ _ st λh1 t1 k1=>?_));exact YLx (wpAny_rule (YMJ (fin h1 t1 k1)))
end
section
variable {prog:Program}{w:World}{A:Around}{E:Value->Shared->Prop}{s:Shared}{l:Addr}{items:Array Value}{bt:Nat->Nat->Bool}{d:Value}{kp:Addr->Obj->Prop}
theorem mn_call {Q:Value->Shared->Prop} (hh:A.handled=none) (hl:s.heap.IsList l items) (vX:YI3 prog w A.in1 kp (λi v=>items[i]?=some v) bt) (sk:∀a o,kp a o->s.heap.get? a=some o)
  (h0:items.size=0->∀h' tk,(∀a o,s.heap.get? a=some o->h'.get? a=some o)->Q d { s with heap:=h',toks:=tk })
  (h1:0 < items.size->∀v h' tk,items[argBest bt (items.size - 1)]?=some v->(∀a o,s.heap.get? a=some o->h'.get? a=some o)->Q v { s with heap:=h',toks:=tk }):
  wpAny (model prog w) A (call (.builtin "min") [.ref l] [("default",d)]) Q E s:=by
 have hlt:l < s.heap.objs.size:=by obtain⟨_,e,_⟩:=hl;exact YL4 e
 refine wpAny_call (codeAny_call_builtin F.plain_min F.entry_min (wpAny_of_eq (show checkBuiltinCall "min" ⟨[.ref l],[("default",d)]⟩=pure () by kernel_rfl) ?_));show wpAny _ _ (Builtin.Builtins.bindParams "min" ["key","default"] 0 ⟨[],[("default",d)]⟩ >>= _) _ _ s;refine YLx (wpAny_of_eq (show _=pure [none,some d] from rfl) (YLx (YMJ (YLx (wpAny_pyIter_list hl (YLx (wpAny_newObj_type ?_)))))));rw[YDN];have W:=Walks.list (prog:=prog) (w:=w) (A:=A.in1) hh s.heap.objs.size l (YMS hlt) items;have Bb:∀(a:Addr) (o:Obj) (h':Heap) (x y:Obj),(∀a o,a∉[s.heap.objs.size]->((s.heap.push x).push y).get? a=some o->h'.get? a=some o)->s.heap.get? a=some o->h'.get? a=some o:=λa o h' x y hk e=>
  hk a o (λz=>by rw[YL1.mp z]at e;exact YMm _ (YL4 e)) (YL0 _ (YL0 _ e))
 refine YMJ ⟨plainId_quiet F.plain_min_loop _,?_⟩;have e1:∀x:Obj,(s.heap.push x).objs.size=s.heap.objs.size + 1:=λx=>YNS _ _
 have nS:∀x:Obj,(s.heap.push x).objs.size∉[s.heap.objs.size,l]:=λx z=>by
  rw[e1]at z;simp only[YMA,YMo,or_false]at z;rcases z with z |z
  ·exact Nat.succ_ne_self _ z
  ·rw[<-z]at hlt;exact absurd hlt (Nat.not_lt.mpr (YNh _))
 have st:∀y:Obj,((s.heap.push { cls:=.type "list_iterator",data:=.fields #[.ref l,.int 0 0] }).push y).IsListIter s.heap.objs.size l 0/\((s.heap.push { cls:=.type "list_iterator",data:=.fields #[.ref l,.int 0 0] }).push y).IsList l items:=
  λy=>⟨⟨_,YL0 _ (YMF _ rfl),Z,Z⟩,(hl.push _).push _⟩
 have far:∀{a:Addr}{o:Obj},s.heap.get? a=some o->∀x:Obj,a∉[s.heap.objs.size]/\a≠(s.heap.push x).objs.size:=λ{a o} e x=>by
  have hlt':=YL4 e;refine⟨λz=>?_,λz=>?_⟩
  ·rw[YL1.mp z]at hlt';exact YMm _ hlt'
  ·rw[z,e1]at hlt';exact absurd hlt' (Nat.not_lt.mpr (YNh _))
 by_cases hz:items.size=0
 ·exact mn_none W (nS _) hz (st _) (YMF _ rfl) λh' tk hk=>h0 hz h' tk λa o=>Bb a o h' _ _ hk
 ·refine YLJ W vX (nS _) (λa o h=>far (sk a o h) _) (λa o h=>YL0 _ (YL0 _ (sk a o h))) (Nat.pos_of_ne_zero hz) (st _) (YMF _ rfl) λv h' tk hv hk=>h1 (Nat.pos_of_ne_zero hz) v h' tk hv λa o e=>?_
  exact hk a o (far e ⟨.none,none,.seq #[] 0,#[]⟩).1 (far e _).2 (YL0 _ (YL0 _ e))
end
end L2
namespace L2
open PySem PySem.Spec PyProof.Rows PySem.SeqAt
section
variable {X:Cx}{x:Str}{e:Expr}{kws:List Keyword}{p pos:Pos}{t tk:TA}
theorem YLK {prog:Program}{w:World}{A:Around}{P:Nat->Value->Prop} (val:Nat->Int) (hval:∀i v,P i v->∃t,v=.int (val i) t):
  YI3 prog w A (λ_ _=>False) P (λi j=>decide (val i < val j)):=λi j vi vj s Q E _ hi hj h=>CmpOf.ints_lt val hval i j vi vj s Q E hi hj h
def tMinD (K:W.Frag) (t tk:TA):TE:=λσ H Q=>t σ H λvs H1=>tk σ H1 λzs H2=>∃(a:Addr) (ns:List Int) (y:V),vs=[.ref a]/\zs=[y]/\SqL K H2 a (ns.map V.int)/\(ns=[]->Q y H2)/\∀m,m∈ns->(∀b∈ns,m<=b)->Q (.int m) H2
theorem pe_minD (K:W.Frag) (hK:X.K=K) (hc:X.calm=true) (hg:Gl X x) (hm:X.mg x=none) (hv:bootBuiltins x=some (.builtin "min")) (ha:PA X [e] t) (hd:PK X kws tk) (hn:x≠"__name__":=by decide) (hdb:(x == ("__debug__":Str))=false:=by decide)
  (he:starEach [e] X.env=[(false,eval e X.env)]:=by rfl) (hk:(backToKw pos (keywordEach kws X.env)).filterMap (·.1)=[("default":Str)]:=by rfl) (hal:(backToKw pos (keywordEach kws X.env)).all (·.1.isSome)=true:=by rfl) (Qp:(backToKw pos (keywordEach kws X.env)).any (·.1.isNone)=false:=by rfl):
  PE X (.Call (.Name x p) [e] kws pos) (tMinD K t tk):=by
 subst hK;intro pins s σ H Q I h;refine wpAny_Call_Name_kw (JT I hg hm hv ?_ hn hdb);refine callWith_kw (rest:=[]) (thn (ha pos pins s σ H _ I h) λus s1 ⟨vs,H1,I1,r1,q1⟩=>thn (hd pos pins s1 σ H1 _ I1 q1) λws s2 ⟨zs,H2,I2,r2,a,ns,y,e1,e2,hq,q0,qm⟩=>?_) (by rw[he];rfl) (by rw[he];rfl) hal Qp;subst e1 e2;obtain⟨u,rfl,ru⟩:=Xj r1;obtain⟨v,rfl,rv⟩:=Xj r2;cases ru;rw[hk];obtain⟨its,ri,pl,hz⟩:=I2.list hq;have hlen:ns.length=its.length:=by have:=ri.length;rwa [YLp]at this
 refine mn_call (bt:=λi j=>decide ((ns[i]?).getD 0 < (ns[j]?).getD 0)) (I2.ok.hd hc) pl.isList (YLK (λi=>(ns[i]?).getD 0) λi v hP=>?_) (λ_ _ z=>z.elim) (λh0 h' tk hk=>?_) λh0 v h' tk hv' hk=>?_
 ·obtain⟨b,t,eb,rfl⟩:=YGe ri (i:=i) (v:=v) (by simpa using hP);exact⟨t,by show Value.int b t=Value.int ((ns[i]?).getD 0) t;rw[eb];rfl⟩
 ·rw[YL3,<-hlen]at h0;exact⟨y,H2,I2.kept (t':=tk) hk,rv,q0 (List.length_eq_zero_iff.mp h0)⟩
 ·obtain⟨b,t,eb,rfl⟩:=YGe ri (v:=v) (by simpa using hv');rw[YL3,<-hlen]at h0;rw[<-hlen]at eb;have eb:ns[argBest (λi j=>decide ((ns[i]?).getD 0 < (ns[j]?).getD 0)) (ns.length - 1)]?=some b:=eb;obtain⟨g1,g2⟩:=argBest_lt (λi=>(ns[i]?).getD 0) (ns.length - 1);refine⟨.int b,H2,I2.kept (t':=tk) hk,⟨t,Z⟩,qm b (YLu eb) λc hc=>?_⟩;obtain⟨i,hi⟩:=List.getElem?_of_mem hc;have hil:=(YLv.mp hi).1;have:=g2 i (by lia);rw[hi,eb]at this;exact this
end
section
variable {X:Cx} (K:W.Frag) (hK:X.K=K)
include hK
end
end L2
namespace L2
open PySem PySem.Spec PyProof.Rows
def Itz (K:W.Frag) (a b:Addr):It:=
 ⟨λi H=>∃xs ys x y,SqL K H a xs/\SqL K H b ys/\xs[i]?=some x/\ys[i]?=some y,λi H v H'=>∃T,H T=none/\v=.ref T/\∀xs ys,SqL K H a xs->SqL K H b ys->∃x y,xs[i]?=some x/\ys[i]?=some y/\H'=upd H T (.tup [x,y]),
  λi H=>∃xs ys,SqL K H a xs/\SqL K H b ys/\(xs.length<=i\/ys.length<=i)⟩
theorem YLL {P:Program}{w:World}{K:W.Frag}{k_:List Expr}{k:Nat}{pos:Pos} (a b z TI TO i1 i2:Addr) (D:ZipApart z TI TO i1 i2 a b):
  YEP P w K (.Tuple k_ k pos) (Itz K a b) [z,TI,TO,i1,i2] z (λi h=>IsZip h z TI TO .none/\IsPair h TI (.ref i1) (.ref i2)/\(∃a b,IsPair h TO a b)/\h.IsListIter i1 a i/\h.IsListIter i2 b i) where
 mem:=by simp
 obj:=λi h st c hc=>by
  obtain⟨hz,hTI,⟨_,_,hTO⟩,⟨o1,e1,c1,d1⟩,⟨o2,e2,c2,d2⟩⟩:=st;simp only[YMA,YMo,or_false]at hc;rcases hc with rfl |rfl |rfl |rfl |rfl
  ·exact⟨_,hz,λv z=>by cases z⟩
  ·exact⟨_,hTI,λv z=>by cases z⟩
  ·exact⟨_,hTO,λv z=>by cases z⟩
  ·exact⟨o1,e1,λv z=>by rw[d1]at z;cases z⟩
  ·exact⟨o2,e2,λv z=>by rw[d2]at z;cases z⟩
 keep:=λi h h' st k=>by
  obtain⟨hz,hTI,⟨x,y,hTO⟩,h1,h2⟩:=st;exact⟨k z (by simp) _ hz,k TI (by simp) _ hTI,⟨x,y,k TO (by simp) _ hTO⟩,h1.at λo x=>k i1 (by simp) o x,h2.at λo x=>k i2 (by simp) o x⟩
 item:=by
  intro X hP hw hK hc i pins s σ H E I hf st hg;subst hP hw hK;obtain⟨hz,hTI,⟨_,_,hTO⟩,h1,h2⟩:=st;obtain⟨xs,ys,x,y,hq,hq',hx,hy⟩:=hg;obtain⟨its,rv,p,_⟩:=I.list hq;obtain⟨its',uD,p',_⟩:=I.list hq';obtain⟨u,hu,ru⟩:=rv.get hx;obtain⟨u',hu',zP⟩:=uD.get hy;refine wpAny_pyNext_zip_item D hz hTI hTO h1 h2 p.isList p'.isList (x:=u) (y:=u') (by simpa using hu) (by simpa using hu') λh' hz' Q7 h1' h2' hT hsz hk=>?_
  refine⟨_,Z,wpAny_letOwnedTupleGo_zip (s:={ s with heap:=h' }) hz' λh'' W6 hs'=>?_⟩;have kk:∀c o,c∉[z,TI,TO,i1,i2]->s.heap.get? c=some o->h''.get? c=some o:=λc o hb q=>by
   simp only[YMA,YMo,or_false,not_or]at hb;exact(hs'.2 c hb.1).trans (hk c o hb.1 hb.2.2.1 hb.2.2.2.1 hb.2.2.2.2 q)
  have I1:Inv X pins σ H { s with heap:=h'' }:=I.turns (t':=s.toks) kk hf;have hlt:z < s.heap.objs.size:=YL4 hz;have hTz:s.heap.objs.size≠z:=YNA hlt;have hT':h''.get? s.heap.objs.size=some { cls:=.type "tuple",data:=.seq #[u,u'] }:=(hs'.2 _ hTz).trans hT;have hfr:H s.heap.objs.size=none:=I.hok.fresh (YLr _);have I2:=I1.trackT (T:=s.heap.objs.size) (xs:=[x,y]) (its:=[u,u']) hfr ⟨_,hT',Z,_,Z⟩ (.cons ru (.cons zP .nil)) (by show 2<=sizeLine;rw[sizeLine_eq];decide)
   (λo q=>absurd (YL4 q) (Nat.not_lt.mpr I.sz)) λp hp z=>absurd (YL4 (I.pin p hp).1) (by rw[z];exact YMm _)
  refine⟨.ref s.heap.objs.size,_,I2,Z,⟨_,hfr,Z,λxs2 Bc hy1 RD=>⟨x,y,by rw[I.list_inj hy1 hq];exact hx,by rw[I.list_inj RD hq'];exact hy,Z⟩⟩,⟨W6,(hs'.2 TI D.TIz).trans (hk TI _ D.TIz D.TITO D.TIi1 D.TIi2 hTI),⟨_,_,(hs'.2 TO D.TOz).trans Q7⟩,h1'.at λo q=>(hs'.2 i1 D.i1z).trans q,h2'.at λo q=>(hs'.2 i2 D.i2z).trans q⟩,λc hc=>?_⟩;obtain⟨o,eo⟩:∃o,s.heap.get? c=some o:=by
   simp only[YMA,YMo,or_false]at hc;rcases hc with rfl |rfl |rfl |rfl |rfl
   ·exact⟨_,hz⟩
   ·exact⟨_,hTI⟩
   ·exact⟨_,hTO⟩
   ·obtain⟨o,eo,_⟩:=h1;exact⟨o,eo⟩
   ·obtain⟨o,eo,_⟩:=h2;exact⟨o,eo⟩
  rw[YJ (YMS (YL4 eo))];exact(hf c hc).1
 done:=by
  intro X hP hw hK hc i pins s σ H E I hf st hg;subst hP hw hK;obtain⟨hz,hTI,⟨_,_,hTO⟩,h1,h2⟩:=st;obtain⟨xs,ys,hq,hq',hx⟩:=hg;obtain⟨its,rv,p,_⟩:=I.list hq;obtain⟨its',uD,p',_⟩:=I.list hq';have hl:=rv.length;have hl':=uD.length;exact wpAny_pyNext_zip_end (I.ok.hd hc) D hz hTI hTO h1 h2 p.isList p'.isList (hx.imp (λh=>Array.getElem?_eq_none (by simp;lia)) λh=>Array.getElem?_eq_none (by simp;lia)) λh' eb=>⟨Z,I.turns (t':=s.toks) (λc o hb q=>by
   simp only[YMA,YMo,or_false,not_or]at hb;exact eb c o hb.1 hb.2.2.1 hb.2.2.2.1 hb.2.2.2.2 q) hf⟩
 self:=λ_ _ _ _ _ st h=>by
  obtain⟨hz,_⟩:=st;exact wpAny_pyIter_zip hz h
theorem YGu (n l l':Nat) (h:l < n) (h':l' < n):ZipApart (n + 4) (n + 2) (n + 3) n (n + 1) l l':=by
 have ne:∀{a b:Addr},@Ne Nat a b->a≠b:=λh=>h
 constructor <;> exact ne (by lia)
section
variable {X:Cx}{k_:List Expr}{k:Nat}{mV:Pos}
def iZip2 (K:W.Frag) (ta:TA):TI:=λσ H R=>ta σ H λvs H1=>∃a b xs ys,vs=[.ref a,.ref b]/\SqL K H1 a xs/\SqL K H1 b ys/\R (Itz K a b) H1
theorem pi_zip2 (K:W.Frag) (hK:X.K=K) {a b:Expr}{ta:TA}{p pos:Pos} (hg:Gl X "zip") (hm:X.mg "zip"=none) (ha:PA X [a,b] ta) (hs:starEach [a,b] X.env=(false,eval a X.env) :: starEach [b] X.env:=by rfl) (hpl:(backTo pos (starEach [b] X.env)).any (·.1)=false:=by rfl):
  PI X (.Tuple k_ k mV) (.Call (.Name "zip" p) [a,b] [] pos) (iZip2 K ta):=by
 subst hK;intro pins s σ H R I h;refine Call_ (JT I hg hm PyProof.Rows.Boot.«zip» (PyProof.Rows.callWith_type1 (thn (ha pos pins s σ H _ I h) λus s1 ⟨vs,H1,I1,r1,q1⟩=>?_) hs hpl));obtain⟨l,l',xs,ys,rfl,hq,hq',q⟩:=q1;obtain⟨u,u',rfl,ru,zP⟩:=YEm r1;cases ru;cases zP;obtain⟨its,rv,p,_⟩:=I1.list hq;obtain⟨its',uD,p',_⟩:=I1.list hq';refine call_zip_2 p.isList p'.isList λh' hz hTI hTO h1 h2 hsz hk=>?_
 have I2:Inv X pins σ H1 { s1 with heap:=h' }:=I1.kept (t':=s1.toks) hk;refine wpAny_pyIter_zip hz ?_;have lt:l < s1.heap.objs.size:=by obtain⟨_,e,_⟩:=p.isList;exact YL4 e
 have lt':l' < s1.heap.objs.size:=by obtain⟨_,e,_⟩:=p'.isList;exact YL4 e
 have D:=YGu s1.heap.objs.size l l' lt lt';have fo:∀j,YAs X pins H1 (s1.heap.objs.size + j):=λj=>I1.fpOk (Nat.le_add_right _ _) (I1.hok.fresh (Nat.le_add_right _ _))
 refine⟨s1.heap.objs.size + 4,[s1.heap.objs.size + 4,s1.heap.objs.size + 2,s1.heap.objs.size + 3,s1.heap.objs.size,s1.heap.objs.size + 1],_,_,H1,Z,I2,YLL l l' _ _ _ _ _ D,⟨hz,hTI,⟨_,_,hTO⟩,h1,h2⟩,λb hb=>?_,q⟩;simp only[YMA,YMo,or_false]at hb;rcases hb with rfl |rfl |rfl |rfl |rfl
 ·exact fo 4
 ·exact fo 2
 ·exact fo 3
 ·exact fo 0
 ·exact fo 1
theorem YCD:J7 X (.builtin "divmod") (λxs H Q=>∃i j:Int,xs=[.int i,.int j]/\0 < j/\j.natAbs.log2 < 9000/\∀t,H t=none->Q (.ref t) (upd H t (.tup [.int (i / j),.int (i % j)]))):=by
 intro pins s σ H xs us Q I r h;obtain⟨i,j,rfl,hj,hl,q⟩:=h;obtain⟨u,v,rfl,⟨t,rfl⟩,⟨t',rfl⟩⟩:=YEm r;refine divmod_int (by lia) ?_ (.inl (PyProof.noPylong_of_log2 hl));rw[Int.fdiv_eq_ediv_of_nonneg _ (YNP hj),Int.fmod_eq_emod_of_nonneg _ (YNP hj)];have I2:Inv X pins σ (upd H s.heap.objs.size (.tup [.int (i / j),.int (i % j)])) { s with toks:=s.toks + 1 + 1,heap:=s.heap.push { cls:=.type "tuple",data:=.seq #[.int (i / j) s.toks,.int (i % j) (s.toks + 1)] } }:=
  I.laid (t':=s.toks + 1 + 1) (λb o e=>YL0 _ e) (YLr _) (show Y3 X.prog X.w _ _ _ (.tup _) from⟨by show 2<=sizeLine;rw[sizeLine_eq];decide,[.int (i / j) s.toks,.int (i % j) (s.toks + 1)],.cons ⟨_,Z⟩ (.cons ⟨_,Z⟩ .nil),IsTup.new _ _⟩)
 exact⟨.ref s.heap.objs.size,_,I2,Z,q _ (I.hok.fresh (YLr _))⟩
end
end L2
namespace L2
open PySem PySem.Spec PyProof.Rows
def YLM (ta:TA):TE:=λσ H Q=>ta σ H λvs H1=>∃n:Nat,vs=[.int n]/\n<=2 ^ 20/\∀l,H1 l=none->Q (.ref l) (upd H1 l (.lst ((List.range n).map λi:Nat=>V.int (i:Int))))
theorem YGv {X:Cx}{a:Expr}{ta:TA}{p p2 pos gj:Pos} (hc:X.calm=true) (hg:Gl X "list") (hm:X.mg "list"=none) (zQ:Gl X "range") (hm2:X.mg "range"=none) (ha:PA X [a] ta)
  (hs:starEach [.Call (.Name "range" p2) [a] [] gj] X.env=[(false,eval (.Call (.Name "range" p2) [a] [] gj) X.env)]:=by rfl) (hs2:starEach [a] X.env=[(false,eval a X.env)]:=by rfl):
  PE X (.Call (.Name "list" p) [.Call (.Name "range" p2) [a] [] gj] [] pos) (YLM ta):=by
 intro pins s σ H Q I h;refine wpAny_Call_Name_kw (JT I hg hm YMr ?_);refine PyProof.Rows.callWith_type1 ?_ hs rfl;rw[hs];show wpAny _ _ (spliced ((false,eval (.Call (.Name "range" p2) [a] [] gj) X.env) :: [])) _ _ s;refine Calls.spliced_cons (wpAny_Call_Name_kw (JT I zQ hm2 boot_range (PyProof.Rows.callWith_type1 (thn (ha gj pins s σ H _ I h) λus s1 ⟨vs,H1,I1,r1,q1⟩=>?_) hs2 rfl)));obtain⟨n,rfl,hn,q⟩:=q1;obtain⟨u,rfl,t,rfl⟩:=Xj r1;refine call_range_1 (Calls.spliced_nil ?_);have e2:Builtin.Range.rangeSize 0 (n:Int) 1=n:=by rw[rangeSize_one];split <;> lia
 have p20:(2:Nat) ^ 20=1048576:=by decide
 have p62:(2:Int) ^ 62=4611686018427387904:=by decide
 refine call_list_range (n:=n) (I1.ok.hd hc) (IsRange.new ..) (small_one (a:=0) (b:=n) (by decide) (by decide) (by lia) (by lia)) e2 (YMP hn (by decide)) λh' tk dz c' hk hS hacc=>?_
 have uD:Ym ((List.range n).map λi:Nat=>V.int (i:Int)) dz.toList:=by
  refine YDL (by rw[YLp,YMH,YMM,hacc.1]) λj x u h1 h2=>?_
  obtain⟨t',rfl⟩:=hacc.2 j u (by rw[<-YMq];exact h2);rw[YLt]at h1;have hj:j < n:=by
   have:=(YLv.mp h2).1
   rwa [YMM,hacc.1]at this
  rw[YMh hj]at h1;cases h1;exact⟨t',by simp⟩
 have kk:∀b u,s1.heap.get? b=some u->h'.get? b=some u:=λb u e=>hk b u (YL0 _ e)
 have le:s1.heap.objs.size<=(s1.heap.push { cls:=.type "range",data:=.fields #[.int 0 s1.toks,.int (n:Int) t,.int 1 (s1.toks + 1)] }).objs.size:=by rw[YNS];exact YNh _
 exact⟨.ref _,_,I1.laid (t':=tk) kk (by rw[YNS];exact YNh _) (show Y3 X.prog X.w _ h' _ (.lst _) from⟨by rw[YLp,YMH,sizeLine_eq];lia,dz.toList,c',uD,by simpa using hS⟩),Z,q _ (I1.hok.fresh (by rw[YNS];exact YNh _))⟩
def iDictF (to:TE):TI:=λσ H R=>to σ H λx H1=>∃d o kvs,x=.ref d/\H1 d=some (.frz o (.dK kvs))/\R (ItK d o kvs) H1
theorem YLN {X:Cx}{tg oe:Expr}{to:TE} (ho:PE X oe to):PI X tg oe (iDictF to):=by
 intro pins s σ H R I h;refine thn (ho pins s σ H _ I h) λv s1 ⟨x,H1,I1,r1,q1⟩=>?_
 obtain⟨d,od,kvs,ex,hd,q⟩:=q1;subst ex;cases r1;obtain⟨uF,hsz,lo,vs,rel,hD⟩:=(show Y3 X.prog X.w H1 s1.heap d (.frz od (.dK kvs)) from I1.hok d _ hd);obtain⟨o2,yK,Qn,h1,h2,h3,h4⟩:=hD;rw[uF]at h1;cases h1;have hat:s1.heap.DictAt (ZM X.prog X.w) d vs Qn:=⟨od,yK,uF,h2,h3,h4⟩;refine wpAny_pyIter_dict lo hat ?_;have k1:∀b u,s1.heap.get? b=some u->(s1.heap.push { cls:=.type "dict_keyiterator",data:=.fields #[.ref d,.int 0 0,.int vs.length 0,.int Qn 0] }).get? b=some u:=λb u e=>YL0 _ e
 have I2:=I1.kept (t':=s1.toks) k1;have hlen:kvs.length=vs.length:=rel.length;refine⟨_,[_],_,_,_,Z,I2,YFC (o:=od) h3,⟨_,YMF _ rfl,Z,by rw[hlen];rfl⟩,λb hb=>?_,q⟩;have eb:=YL1.mp hb;rw[eb];exact I1.fpOk (YLr _) (I1.hok.fresh (YLr _))
theorem YCe {d:Addr}{o:Obj}{kvs:List (Key×V)}{g:TG}{tb:TS}{D:YAo}{σ:St}{H:Hp} (Pv:Nat->St->Hp->Prop) (h0:Pv 0 σ H) (hl:∀i σ H,i<=kvs.length->Pv i σ H->H d=some (.frz o (.dK kvs)))
  (hs:∀i kv σ H,kvs[i]?=some kv->Pv i σ H->g (kV kv.1) σ H λσ2 H2=>tb { D with nx:=Pv (i + 1),ct:=Pv (i + 1),bk:=D.nx } σ2 H2) (hd:∀σ H,Pv kvs.length σ H->D.nx σ H):
  ∃W:Nat->Nat->St->Hp->Prop,(∃m,W 0 m σ H)/\∀i m σ H,W i m σ H->
   ((ItK d o kvs).stop i H/\D.nx σ H)\/((ItK d o kvs).go i H/\∃N:St->Hp->Prop,(∀σ' H',N σ' H'->∃m',m' < m/\W (i + 1) m' σ' H')/\∀x H',(ItK d o kvs).yld i H x H'->g x σ H' λσ2 H2=>tb { D with nx:=N,ct:=N,bk:=D.nx } σ2 H2):=by
 refine⟨λi m σ H=>m=kvs.length - i/\i<=kvs.length/\Pv i σ H,⟨kvs.length,by simp,YMI _,h0⟩,?_⟩;rintro i m σ H ⟨rfl,hi,p⟩;have q:=hl i σ H hi p
 by_cases hlt:i < kvs.length
 ·refine .inr ⟨⟨q,hlt⟩,Pv (i + 1),λσ' H' p'=>⟨kvs.length - (i + 1),by lia,Z,hlt,p'⟩,λx H' y=>?_⟩;obtain⟨kv,hkv,rfl,rfl⟩:=y;exact hs i kv σ _ hkv p
 ·have ei:i=kvs.length:=by lia
  subst ei;exact .inl ⟨⟨q,Z⟩,hd σ H p⟩
end L2
namespace FR
open PySem L2
def okP (s:Sz) (p:Str):Bool:=isQ p || (look s p).isSome
def rch (s:Sz):List Str->Nat
 |[]=>0
 |p :: ps=>if okP s p=true then rch s ps + 1 else 0
theorem YAB (s:Sz):∀ps:List Str,rch s ps<=ps.length
 |[]=>YLr _
 |p :: ps=>by
  show(if okP s p=true then rch s ps + 1 else 0)<=ps.length + 1;have:=YAB s ps;split <;> lia
theorem JA {s:Sz}:∀{ps:List Str}{j:Nat},j < rch s ps->∃p,ps[j]?=some p/\okP s p=true
 |[],j,h=>absurd h (YNT _)
 |p :: ps,j,h=>by
  have h:j < if okP s p=true then rch s ps + 1 else 0:=h
  by_cases hp:okP s p=true
  ·rw[if_pos hp]at h;cases j with
   |zero=>exact⟨p,Z,hp⟩
   |succ j=>exact JA (ps:=ps) (by lia)
  ·rw[if_neg hp]at h
   lia
theorem YGw {s:Sz}:∀{ps:List Str},rch s ps < ps.length->∃p,ps[rch s ps]?=some p/\okP s p=false
 |[],h=>absurd h (YNT _)
 |p :: ps,h=>by
  by_cases hp:okP s p=true
  ·have e:rch s (p :: ps)=rch s ps + 1:=if_pos hp;rw[e]at h ⊢;exact YGw (ps:=ps) (by simpa using h)
  ·have e:rch s (p :: ps)=0:=if_neg hp;rw[e];exact⟨p,Z,YNY.mpr hp⟩
theorem YA6 {s:Sz}{ps:List Str} (h:∀p∈ps,okP s p=true):rch s ps=ps.length:=by
 rcases YMt (rch s ps) ps.length with hlt |hge
 ·obtain⟨p,e,hp⟩:=YGw hlt;rw[h p (YLu e)]at hp;cases hp
 ·exact Nat.le_antisymm (YAB s ps) hge
abbrev OvF:=Str->Nat->Nat->Int
abbrev FiF:=Nat->Nat->Nat->Nat->Int
def EqF (g:Yl) (s:Sz) (cut:Int) (O:OvF) (F:FiF) (b m:Nat):Prop:=∀(r:Nat) (ρ:Yp),g[r]?=some ρ->F r 0 b m=m * cut + 1/\∀(d:Nat) (p:Str),d < rch s ρ.2.1->ρ.2.1[d]?=some p->
 (∀k,k<=m->F r (d + 1) b m<=F r d b k + O p (b + k) (b + m))/\∃k,k<=m/\F r (d + 1) b m=F r d b k + O p (b + k) (b + m)
def EqO (g:Yl) (s:Sz) (O:OvF) (F:FiF) (b m:Nat):Prop:=∀(h:Str) (v:Int),look s h=some v->
 (∀(r:Nat) (ρ:Yp),g[r]?=some ρ->ρ.1=h->rch s ρ.2.1=ρ.2.1.length->O h b (b + m)<=F r ρ.2.1.length b m)/\
 ∃(r:Nat) (ρ:Yp),g[r]?=some ρ/\ρ.1=h/\rch s ρ.2.1=ρ.2.1.length/\O h b (b + m)=F r ρ.2.1.length b m
theorem YDz {M:Int} (hM:0 < M) (x y:Int):(x + y) % M<=x % M + y % M:=by
 have e:(x + y) % M=(x % M + y % M) % M:=by rw[Int.add_emod]
 rw[e];have h2:=YMe x (YNb hM);have h3:=YMe y (YNb hM);rcases Int.lt_or_le (x % M + y % M) M with h |h
 ·rw[YNX (by lia) h];exact YMi _
 ·exact YMj (YNP (YMg _ hM)) h
section
variable {g:Yl}{s:Sz}{cut M:Int}{O:OvF}{F:FiF}{n:Nat}
structure Jk (g:Yl) (s:Sz) (cut M:Int) (O:OvF) (F:FiF) (n:Nat):Prop where
 cut0:0<=cut
 cutM:cut % M=0
 one:1 < M
 pos:∀p b e,0<=O p b e
 sg:∀p b e,isQ p=true->O p b e % M=0
 f:∀b m,b + m<=n->EqF g s cut O F b m
 o:∀b m,b + m<=n->EqO g s O F b m
theorem Jk.f1 (T:Jk g s cut M O F n) {r:Nat}{ρ:Yp} (hr:g[r]?=some ρ):∀{d b m:Nat},d<=rch s ρ.2.1->b + m<=n->1<=F r d b m:=by
 intro d
 induction d with
 |zero=>
  intro b m _ hn;rw[(T.f b m hn r ρ hr).1];have:=YMv (Int.ofNat_nonneg m) T.cut0
  lia
 |succ d ih=>
  intro b m hd hn;obtain⟨p,ep,_⟩:=JA (s:=s) (ps:=ρ.2.1) (j:=d) (by lia);obtain⟨k,hk,e⟩:=((T.f b m hn r ρ hr).2 d p (by lia) ep).2;rw[e];have h1:=ih (b:=b) (m:=k) (by lia) (by lia);have h2:=T.pos p (b + k) (b + m)
  lia
theorem Jk.parts (T:Jk g s cut M O F n) {r:Nat}{ρ:Yp} (hr:g[r]?=some ρ) {V R:Int} (hR:0<=R) {b e:Nat} (he:e<=n)
  (hp:∀p∈ρ.2.1,okP s p=true->∀b' e',b<=b'->b'<=e'->e'<=e->O p b' e' < V->O p b' e' % M<=R):
  ∀{d m:Nat},d<=rch s ρ.2.1->b + m<=e->F r d b m<=V->F r d b m % M<=1 + d * R:=by
 have hM:0 < M:=Int.lt_trans (by decide) T.one;intro d
 induction d with
 |zero=>
  intro m _ hn _;rw[(T.f b m (by lia) r ρ hr).1,Int.add_emod,Int.mul_emod,T.cutM,Int.mul_zero,Int.zero_emod,YMk,Int.emod_emod,YNX (by decide) T.one];simp
 |succ d ih=>
  intro m hd hn hV;obtain⟨p,ep,hok⟩:=JA (s:=s) (ps:=ρ.2.1) (j:=d) (by lia);obtain⟨k,hk,e1⟩:=((T.f b m (by lia) r ρ hr).2 d p (by lia) ep).2;rw[e1]at hV ⊢;have h1:=T.f1 hr (d:=d) (b:=b) (m:=k) (by lia) (by lia);have h2:=T.pos p (b + k) (b + m);have h3:=ih (m:=k) (by lia) (by lia) (by lia);have h4:=hp p (YLu ep) hok (b + k) (b + m) (by lia) (by lia) hn (by lia);have h5:=YDz hM (F r d b k) (O p (b + k) (b + m));have e2:((d + 1:Nat):Int) * R=d * R + R:=by push_cast;rw[YNR,Int.one_mul]
  rw[e2]
  lia
def YA7 (s:Sz) (O:OvF) (b e:Nat) (h:Str):Nat:=((s.map (·.1)).filter λz=>decide (O z b e < O h b e)).length
theorem YFD {α:Type}{p q:α->Bool}:∀{l:List α},(∀x∈l,p x=true->q x=true)->(l.filter p).length<=(l.filter q).length
 |[],_=>YLr _
 |c :: l,h=>by
  have:=YFD λx hx=>h x (YL6 c hx)
  have hc:=h c (YMG ..);rw[YND,YND];cases ep:p c with
  |true=>rw[if_pos rfl,if_pos (hc ep)];simpa using this
  |false=>
   rw[if_neg YL7];split
   ·rw[YL8];lia
   ·exact this
theorem YFE {α:Type}{p q:α->Bool}:∀{l:List α},(∀x∈l,p x=true->q x=true)->(∃x∈l,p x=false/\q x=true)->(l.filter p).length < (l.filter q).length:=by
 intro l
 induction l with
 |nil=>rintro _ ⟨x,hx,_⟩;cases hx
 |cons a l ih=>
  intro h1 h2;have hle:(l.filter p).length<=(l.filter q).length:=by
   exact YFD λx hx=>h1 x (YL6 _ hx)
  rw[YND,YND];rcases h2 with ⟨x,hx,e1,e2⟩
  rcases YMA.mp hx with rfl |hx
  ·rw[e1,e2,if_neg YL7,if_pos rfl,YL8]
   lia
  ·have:=ih (λx hx=>h1 x (YL6 _ hx)) ⟨x,hx,e1,e2⟩;have ha:=h1 a (YMG ..);cases ep:p a with
   |true=>rw[if_pos rfl,if_pos (ha ep)];simpa using this
   |false=>
    rw[if_neg YL7];split
    ·rw[YL8];lia
    ·exact this
theorem YCE {h:Str}{v:Int} (hh:look s h=some v) (b e:Nat):YA7 s O b e h < s.length:=by
 have hm:h∈s.map (·.1):=YMD.mpr ⟨_,XC hh,Z⟩;have:=YFE (p:=λz=>decide (O z b e < O h b e)) (q:=λ_=>true) (l:=s.map (·.1)) (λ_ _ _=>rfl) ⟨h,hm,YLz (Int.lt_irrefl _),Z⟩;rw[List.filter_eq_self.mpr (λ_ _=>rfl),YLp]at this;exact this
theorem YFF {p h:Str}{v:Int} (hp:look s p=some v) {b e:Nat} (hlt:O p b e < O h b e):YA7 s O b e p < YA7 s O b e h:=by
 refine YFE (λx _ hx=>?_) ⟨p,YMD.mpr ⟨_,XC hp,Z⟩,YLz (Int.lt_irrefl _),YLw hlt⟩;have:=YME hx;exact YLw (by lia)
theorem pow7 {l:Nat}:(1:Int)<=7 ^ l:=by
 have:(0:Int) < 7 ^ l:=Int.pow_pos (by decide)
 lia
theorem YBS {l l':Nat} (h:l<=l'):(7:Int) ^ l<=7 ^ l':=by
 induction l' with
 |zero=>
  have:l=0:=by lia
  rw[this];exact YMi _
 |succ k ih=>
  rcases YMt l (k + 1) with h' |h'
  ·have h1:=ih (by lia);have h2:(7:Int) ^ (k + 1)=7 ^ k * 7:=Int.pow_succ ..;have h3:=pow7 (l:=k)
   lia
  ·have:l=k + 1:=by lia
   rw[this];exact YMi _
theorem Jk.head (T:Jk g s cut M O F n) (h6:∀ρ∈g,ρ.2.1.length<=6):∀(l:Nat) {h:Str}{v:Int}{b m:Nat},look s h=some v->b + m<=n->m * s.length + YA7 s O b (b + m) h=l->O h b (b + m) % M<=7 ^ (l + 1):=by
 intro l
 induction l using Nat.strongRecOn with
 |ind l ih=>
  intro h v b m hh hn hl;obtain⟨r,ρ,hr,eh,hf,e⟩:=(T.o b m hn h v hh).2;have hlen:=h6 ρ (YLu hr);have hR:=pow7 (l:=l);have key:=T.parts hr (V:=O h b (b + m)) (R:=7 ^ l) (by lia) (b:=b) (e:=b + m) hn (λp _ hok b' e' h1 h2 h3 hlt=>?_) (d:=ρ.2.1.length) (m:=m) (by lia) (YLr _) (by rw[e];exact YMi _)
  ·rw[e];have h7:(7:Int) ^ (l + 1)=7 ^ l * 7:=Int.pow_succ ..;have:(ρ.2.1.length:Int) * 7 ^ l<=6 * 7 ^ l:=YMx (by lia) (by lia)
   lia
  ·cases hq:isQ p with
   |true=>rw[T.sg p b' e' hq];lia
   |false=>
    unfold okP at hok;rw[hq,YNF]at hok;obtain⟨u,hu⟩:=YMT.mp hok;obtain⟨m',rfl⟩:∃m',e'=b' + m':=⟨e' - b',by lia⟩;have W7:=YCE (O:=O) hu b' (b' + m');have lv:m' * s.length + YA7 s O b' (b' + m') p < l:=by
     rcases YMt m' m with hm |hm
     ·have h4:(m' + 1) * s.length<=m * s.length:=Nat.mul_le_mul_right _ hm;rw[Nat.add_mul,Nat.one_mul]at h4
      lia
     ·have e1:m'=m:=by lia
      have e2:b'=b:=by lia
      subst e1 e2;have:=YFF hu hlt
      lia
    exact YMj (ih _ lv hu (by lia) rfl) (YBS (by lia))
theorem Jk.yZ (T:Jk g s cut M O F n) (h6:∀ρ∈g,ρ.2.1.length<=6) {h:Str}{v:Int}{b m:Nat} (hh:look s h=some v) (hn:b + m<=n):O h b (b + m) % M<=7 ^ ((n + 1) * s.length):=by
 refine YMj (T.head h6 _ hh hn rfl) (YBS ?_);have h1:=YCE (O:=O) hh b (b + m);have h2:m * s.length<=n * s.length:=Nat.mul_le_mul_right _ (by lia);rw[Nat.add_mul,Nat.one_mul]
 lia
theorem Jk.partB (T:Jk g s cut M O F n) (h6:∀ρ∈g,ρ.2.1.length<=6) {p:Str}{b e:Nat} (hp:okP s p=true) (hb:b<=e) (he:e<=n):O p b e % M<=7 ^ ((n + 1) * s.length):=by
 have:=pow7 (l:=(n + 1) * s.length);cases hq:isQ p with
 |true=>rw[T.sg p b e hq];lia
 |false=>
  unfold okP at hp;rw[hq,YNF]at hp;obtain⟨u,hu⟩:=YMT.mp hp;obtain⟨m,rfl⟩:∃m,e=b + m:=⟨e - b,by lia⟩;exact T.yZ h6 hu he
theorem Jk.ruleB (T:Jk g s cut M O F n) (h6:∀ρ∈g,ρ.2.1.length<=6) {r:Nat}{ρ:Yp} (hr:g[r]?=some ρ) {d b m:Nat} (hd:d<=rch s ρ.2.1) (hn:b + m<=n):F r d b m % M<=7 ^ ((n + 1) * s.length + 1):=by
 have hR:=pow7 (l:=(n + 1) * s.length);have key:=T.parts hr (V:=F r d b m) (R:=7 ^ ((n + 1) * s.length)) (by lia) (b:=b) (e:=b + m) hn (λp _ hok b' e' h1 h2 h3 _=>T.partB h6 hok h2 (by lia)) hd (YLr _) (YMi _);have hlen:=h6 ρ (YLu hr);have yL:=YMP hd (YAB s ρ.2.1);have h7:(7:Int) ^ ((n + 1) * s.length + 1)=7 ^ ((n + 1) * s.length) * 7:=Int.pow_succ ..;have:(d:Int) * 7 ^ ((n + 1) * s.length)<=6 * 7 ^ ((n + 1) * s.length):=YMx (by lia) (by lia)
 lia
end
def YCF (x:Int):Option Int->Int
 |none=>x
 |some y=>if y < x then y else x
def prt (ps:List Str) (d:Nat):Str:=(ps[d]?).getD Str.empty
def ZF (cut:Int) (O:OvF) (Fr:Nat->Nat->Int) (inn:Nat->Option Int) (ps:List Str) (b e:Nat):Nat->Int
 |0=>((e:Int) - b) * cut + 1
 |d + 1=>YCF (if b < e then (if Fr d 0 + O (prt ps d) b e < ZF cut O Fr inn ps b e d + O (prt ps d) e e then Fr d 0 + O (prt ps d) b e else ZF cut O Fr inn ps b e d + O (prt ps d) e e) else ZF cut O Fr inn ps b e d + O (prt ps d) e e) (inn (d + 1))
theorem YFy (x:Int) (o:Option Int):YCF x o<=x/\(∀y,o=some y->YCF x o<=y)/\(YCF x o=x\/o=some (YCF x o)):=by
 cases o with
 |none=>exact⟨YMi _,λy h=>(nomatch h),.inl rfl⟩
 |some y=>
  show(if y < x then y else x)<=x/\_
  by_cases h:y < x
  ·have e:YCF x (some y)=y:=if_pos h;rw[if_pos h,e];exact⟨YNP h,λz hz=>by cases hz;exact YMi _,.inr rfl⟩
  ·have e:YCF x (some y)=x:=if_neg h;rw[if_neg h,e];exact⟨YMi _,λz hz=>by cases hz;lia,.inl rfl⟩
section
variable {s:Sz}{cut:Int}{O O':OvF}{Fr:Nat->Nat->Int}{inn:Nat->Option Int}{ps:List Str}{b e m:Nat}
theorem J0 (d:Nat):ZF cut O Fr inn ps b e (d + 1)=YCF (if b < e then (if Fr d 0 + O (prt ps d) b e < ZF cut O Fr inn ps b e d + O (prt ps d) e e then Fr d 0 + O (prt ps d) b e else ZF cut O Fr inn ps b e d + O (prt ps d) e e) else ZF cut O Fr inn ps b e d + O (prt ps d) e e) (inn (d + 1)):=rfl
def YGx (s:Sz) (O:OvF) (Fr:Nat->Nat->Int) (inn:Nat->Option Int) (ps:List Str) (b m:Nat):Prop:=∀(d:Nat) (p:Str),d < rch s ps->ps[d]?=some p->
 (∀k,1<=k->k < m->∃v,inn (d + 1)=some v/\v<=Fr d k + O p (b + k) (b + m))/\∀v,inn (d + 1)=some v->∃k,1<=k/\k < m/\v=Fr d k + O p (b + k) (b + m)
theorem YLO (hi:YGx s O Fr inn ps b m) {d:Nat}{p:Str} (hd:d < rch s ps) (hp:ps[d]?=some p):
  (∀k,k<=m->ZF cut O Fr inn ps b (b + m) (d + 1)<=(if k < m then Fr d k else ZF cut O Fr inn ps b (b + m) d) + O p (b + k) (b + m))/\
  ∃k,k<=m/\ZF cut O Fr inn ps b (b + m) (d + 1)=(if k < m then Fr d k else ZF cut O Fr inn ps b (b + m) d) + O p (b + k) (b + m):=by
 obtain⟨i1,i2⟩:=hi d p hd hp;have ep:prt ps d=p:=by unfold prt;rw[hp];rfl
 rw[J0,ep];obtain⟨L,eL⟩:∃L,ZF cut O Fr inn ps b (b + m) d=L:=⟨_,Z⟩;rw[eL];obtain⟨x,ex⟩:∃x,(if b < b + m then (if Fr d 0 + O p b (b + m) < L + O p (b + m) (b + m) then Fr d 0 + O p b (b + m) else L + O p (b + m) (b + m)) else L + O p (b + m) (b + m))=x:=⟨_,Z⟩;rw[ex];have x1:x<=L + O p (b + m) (b + m):=by rw[<-ex];split <;> (try split) <;> lia
 have x2:0 < m->x<=Fr d 0 + O p b (b + m):=λh=>by rw[<-ex,if_pos (by lia)];split <;> lia
 have x3:x=L + O p (b + m) (b + m)\/(0 < m/\x=Fr d 0 + O p b (b + m)):=by
  rw[<-ex]
  by_cases h:b < b + m
  ·rw[if_pos h];split
   ·exact .inr ⟨by lia,Z⟩
   ·exact .inl rfl
  ·rw[if_neg h];exact .inl rfl
 obtain⟨y1,y2,y3⟩:=YFy x (inn (d + 1));refine⟨λk hk=>?_,?_⟩
 ·by_cases rZ:k < m
  ·rw[if_pos rZ];rcases Nat.eq_zero_or_pos k with rfl |h0
   ·have:=x2 rZ;show _<=Fr d 0 + O p b (b + m)
    lia
   ·obtain⟨v,ev,hv⟩:=i1 k h0 rZ;exact YMj (y2 v ev) hv
  ·rw[if_neg rZ];have:k=m:=by lia
   subst this
   lia
 ·rcases y3 with y3 |y3
  ·rw[y3];rcases x3 with x3 |⟨h0,x3⟩
   ·exact⟨m,YLr _,by rw[if_neg (YMm _)];exact x3⟩
   ·exact⟨0,YMI _,by rw[if_pos h0,YNi];exact x3⟩
  ·obtain⟨k,h1,h2,e1⟩:=i2 _ y3;exact⟨k,by lia,by rw[if_pos h2];exact e1⟩
theorem YJx {x y:Int} (h:x<=y) (o:Option Int):YCF x o<=YCF y o:=by
 cases o with
 |none=>exact h
 |some z=>
  show(if z < x then z else x)<=if z < y then z else y
  split <;> split <;> lia
theorem YFG (h1:∀p∈ps,O' p b e<=O p b e) (h2:∀p∈ps,O' p e e<=O p e e):∀{d:Nat},d<=ps.length->ZF cut O' Fr inn ps b e d<=ZF cut O Fr inn ps b e d
 |0,_=>YMi _
 |d + 1,hd=>by
  have ih:=YFG h1 h2 (d:=d) (by lia);have hp:ps[d]?=some ps[d]:=YLs (by lia);have hm:prt ps d∈ps:=by unfold prt;rw[hp];exact List.getElem_mem _
  have a1:=h1 _ hm;have a2:=h2 _ hm;rw[J0,J0];refine YJx ?_ _;split <;> (try split) <;> (try split) <;> lia
theorem YGy {R:Nat} (hc:0<=cut) (hbe:b<=e) (hO:∀p b e,0<=O p b e) (hF:∀d,d < R->b < e->1<=Fr d 0) (hi:∀d v,d < R->inn (d + 1)=some v->1<=v):∀{d:Nat},d<=R->1<=ZF cut O Fr inn ps b e d
 |0,_=>by
  have:=YMv (show(0:Int)<=(e:Int) - b by lia) hc;show(1:Int)<=_ + 1
  lia
 |d + 1,hd=>by
  have ih:=YGy hc hbe hO hF hi (d:=d) (by lia);have a1:=hO (prt ps d) b e;have a2:=hO (prt ps d) e e;have a3:=hF d (by lia);rw[J0];obtain⟨x,ex⟩:∃x,(if b < e then (if Fr d 0 + O (prt ps d) b e < ZF cut O Fr inn ps b e d + O (prt ps d) e e then Fr d 0 + O (prt ps d) b e else ZF cut O Fr inn ps b e d + O (prt ps d) e e) else ZF cut O Fr inn ps b e d + O (prt ps d) e e)=x:=⟨_,Z⟩;rw[ex];have x1:1<=x:=by
   rw[<-ex]
   by_cases h:b < e
   ·have:=a3 h;rw[if_pos h];split <;> lia
   ·rw[if_neg h]
    lia
  rcases(YFy x (inn (d + 1))).2.2 with h |h
  ·rw[h];exact x1
  ·exact hi d _ (by lia) h
theorem YJy {q:Int} (hq:∀p∈ps,isQ p=true->O p e e<=q) (hn:∀p∈ps,isQ p=false->∀v,look s p=some v->O p e e<=v) {k:Int} (hk:YAl s q ps=some k):
  ZF cut O Fr inn ps b e ps.length<=((e:Int) - b) * cut + k:=by
 have step:∀d,d<=ps.length->∃a,JG s q (ps.drop d) a=some k/\ZF cut O Fr inn ps b e d<=((e:Int) - b) * cut + a:=by
  intro d
  induction d with
  |zero=>exactλ_=>⟨1,hk,YMi _⟩
  |succ d ih=>
   intro hd;obtain⟨a,h1,h2⟩:=ih (by lia);have hlt:d < ps.length:=by lia
   have hp:ps[d]?=some ps[d]:=YLs hlt;have ep:prt ps d=ps[d]:=by unfold prt;rw[hp];rfl
   have hm:ps[d]∈ps:=List.getElem_mem hlt;rw[YMz hlt]at h1;unfold JG at h1;have L:ZF cut O Fr inn ps b e (d + 1)<=ZF cut O Fr inn ps b e d + O ps[d] e e:=by
    rw[J0,ep];refine YMj (YFy _ _).1 ?_;split <;> (try split) <;> lia
   cases hs:XM s q ps[d] with
   |none=>rw[hs]at h1;cases h1
   |some x=>
    rw[hs]at h1;refine⟨a + x,h1,?_⟩;unfold XM at hs;have hx:O ps[d] e e<=x:=by
     cases hq':isQ ps[d] with
     |true=>
      rw[hq',if_pos rfl]at hs;cases hs;exact hq _ hm hq'
     |false=>
      rw[hq',if_neg YL7]at hs;exact hn _ hm hq' x hs
    lia
 obtain⟨a,h1,h2⟩:=step ps.length (YLr _);rw[List.drop_length]at h1;cases h1;exact h2
theorem YFz {q:Int}:∀{ps:List Str}{a k:Int},JG s q ps a=some k->∀p∈ps,okP s p=true
 |[],_,_,_,p,hp=>nomatch hp
 |c :: ps,a,k,h,p,hp=>by
  unfold JG at h;cases hs:XM s q c with
  |none=>rw[hs]at h;cases h
  |some x=>
   rw[hs]at h;rcases YMA.mp hp with rfl |hp
   ·unfold XM at hs;unfold okP;cases hq:isQ p with
    |true=>rfl
    |false=>
     rw[hq,if_neg YL7]at hs;rw[hs];rfl
   ·exact YFz h p hp
theorem YDO {q:Int}:∀{ps:List Str}{a:Int},(∀p∈ps,okP s p=true)->∃k,JG s q ps a=some k
 |[],a,_=>⟨a,Z⟩
 |c :: ps,a,h=>by
  have hc:=h c (YMG ..);have hs:∃x,XM s q c=some x:=by
   unfold XM;unfold okP at hc;cases hq:isQ c with
   |true=>exact⟨q,if_pos rfl⟩
   |false=>
    rw[hq,YNF]at hc;rw[if_neg YL7];exact YMT.mp hc
  obtain⟨x,hx⟩:=hs;unfold JG;rw[hx];exact YDO λp hp=>h p (YL6 _ hp)
end
inductive XE where
 |top |ov (p:Str) (e:Nat) |fi (r d b:Nat)
structure Tol where
 C:Addr
 x:Addr
 dx:Addr
 l:Addr
 ab:Addr
 ao:Addr
 af:Addr
 xs:List V
 g:Yl
 t:Str
 n:Nat
 put:Int
 cut:Int
 swap:Int
 s:Sz
 R:Nat
def Tol.fld (T:Tol):List (Str×V):=[("rules",.ref T.l),("text",.str T.t),("put",.int T.put),("cut",.int T.cut),("swap",.int T.swap),("bare",.ref T.ab),("over",.ref T.ao),("first",.ref T.af)]
def ovR (O:OvF) (p:Str) (e:Nat):List Int:=(List.range (e + 1)).map λb=>O p b e
def fiR (F:FiF) (r d b k:Nat):List Int:=(List.range k).map λm=>F r d b m
def OvAt (H:Hp) (own:Addr->Option XE) (n:Nat) (O:OvF) (p:Str) (v:Option V):Prop:=∃(a:Addr) (bs:List Addr),v=some (.ref a)/\own a=none/\H a=some (.lst (bs.map V.ref))/\bs.length=n + 1/\
 ∀(e:Nat) (c:Addr),bs[e]?=some c->own c=some (.ov p e)/\H c=some (.lst ((ovR O p e).map V.int))
def YGz (H:Hp) (own:Addr->Option XE) (n:Nat) (F:FiF) (K:Nat->Nat->Nat->Nat) (r d:Nat) (u:Addr):Prop:=∃es:List Addr,own u=none/\H u=some (.lst (es.map V.ref))/\es.length=n + 1/\
 ∀(b:Nat) (c:Addr),es[b]?=some c->own c=some (.fi r d b)/\H c=some (.lst ((fiR F r d b (K r d b)).map V.int))
def FiAt (H:Hp) (own:Addr->Option XE) (n:Nat) (F:FiF) (K:Nat->Nat->Nat->Nat) (r R:Nat) (t:Addr):Prop:=∃ds:List Addr,own t=none/\H t=some (.lst (ds.map V.ref))/\ds.length=R + 1/\
 ∀(d:Nat) (u:Addr),ds[d]?=some u->YGz H own n F K r d u
structure TSt (T:Tol) (own:Addr->Option XE) (ps:List Str) (H0 H:Hp) (O:OvF) (F:FiF) (K:Nat->Nat->Nat->Nat):Prop where
 pl:YR H
 sm:YN H0 H
 hx:H T.x=some (.ins T.C T.dx T.fld)
 hl:H0 T.l=some (.lst T.xs)
 hds:Yh H0 T.xs (T.g.map ZR)
 hab:∃o,H T.ab=some (.frz o (.dK (szD T.s)))
 hao:∃kvs,H T.ao=some (.dK kvs)/\kvs.map (·.1)=ps.map Sum.inr/\∀p∈ps,OvAt H own T.n O p (Zo kvs (Sum.inr p))
 haf:∃ts:List Addr,own T.af=some .top/\H T.af=some (.lst (ts.map V.ref))/\ts.length=T.R/\∀(r:Nat) (t:Addr) (ρ:Yp),ts[r]?=some t->T.g[r]?=some ρ->FiAt H own T.n F K r (rch T.s ρ.2.1) t
 on:∀a u,own a=some u->H0 a=none/\∃xs:List V,H a=some (.lst xs)
 uq:∀a a' u,own a=some u->own a'=some u->a=a'
section
variable {T:Tol}{own:Addr->Option XE}{ps:List Str}{H0 H H':Hp}{O O':OvF}{F F':FiF}{K K':Nat->Nat->Nat->Nat}
theorem OvAt.keep {n:Nat}{p:Str}{v:Option V} (h:OvAt H own n O p v) (k:∀a o,H a=some o->H' a=some o):OvAt H' own n O p v:=by
 obtain⟨a,bs,h1,h2,h3,h4,h5⟩:=h;exact⟨a,bs,h1,h2,k _ _ h3,h4,λe c hc=>⟨(h5 e c hc).1,k _ _ (h5 e c hc).2⟩⟩
theorem YGz.keep {n r d:Nat}{u:Addr} (h:YGz H own n F K r d u) (k:∀a o,H a=some o->H' a=some o):YGz H' own n F K r d u:=by
 obtain⟨es,h1,h2,h3,h4⟩:=h;exact⟨es,h1,k _ _ h2,h3,λe c hc=>⟨(h4 e c hc).1,k _ _ (h4 e c hc).2⟩⟩
theorem FiAt.keep {n r R:Nat}{t:Addr} (h:FiAt H own n F K r R t) (k:∀a o,H a=some o->H' a=some o):FiAt H' own n F K r R t:=by
 obtain⟨ds,h1,h2,h3,h4⟩:=h;exact⟨ds,h1,k _ _ h2,h3,λd u hu=>(h4 d u hu).keep k⟩
theorem TSt.same (S:TSt T own ps H0 H O F K) (s:YN H H') (p:YR H'):TSt T own ps H0 H' O F K:=by
 obtain⟨kvs,a1,a2,a3⟩:=S.hao;obtain⟨ts,b1,b2,b3,b4⟩:=S.haf;obtain⟨o,ho⟩:=S.hab;exact⟨p,S.sm.trans s,s _ _ S.hx,S.hl,S.hds,⟨o,s _ _ ho⟩,⟨kvs,s _ _ a1,a2,λq hq=>(a3 q hq).keep s⟩,⟨ts,b1,s _ _ b2,b3,λr t ρ h1 h2=>(b4 r t ρ h1 h2).keep s⟩,
  λa u h=>⟨(S.on a u h).1,let ⟨ns,h2⟩:=(S.on a u h).2;⟨ns,s _ _ h2⟩⟩,S.uq⟩
theorem TSt.write (S:TSt T own ps H0 H O F K) {c:Addr}{u:XE} (hc:own c=some u) (hu:u≠.top) (ns:List Int)
  (h1:∀(p:Str) (e:Nat) (c':Addr),own c'=some (.ov p e)->H c'=some (.lst ((ovR O p e).map V.int))->upd H c (.lst (ns.map V.int)) c'=some (.lst ((ovR O' p e).map V.int)))
  (h2:∀(r d b:Nat) (c':Addr),own c'=some (.fi r d b)->H c'=some (.lst ((fiR F r d b (K r d b)).map V.int))->upd H c (.lst (ns.map V.int)) c'=some (.lst ((fiR F' r d b (K' r d b)).map V.int))):
  TSt T own ps H0 (upd H c (.lst (ns.map V.int))) O' F' K':=by
 obtain⟨kvs,a1,a2,a3⟩:=S.hao;obtain⟨ts,b1,b2,b3,b4⟩:=S.haf;obtain⟨o,ho⟩:=S.hab;obtain⟨hn,ns0,hl⟩:=S.on c u hc;have st:∀a w,own a=none->H a=some w->upd H c (.lst (ns.map V.int)) a=some w:=λa w ha e=>by
  rw[YJ (λz=>by rw[z,hc]at ha;cases ha)];exact e
 have jO:∀a w,(∀xs,w≠.lst xs)->H a=some w->upd H c (.lst (ns.map V.int)) a=some w:=λa w ha e=>by
  rw[YJ (λz=>by rw[z,hl]at e;exact ha _ (YMO e).symm)];exact e
 refine⟨S.pl.upd rfl,S.sm.put hn,jO _ _ (λ_ z=>nomatch z) S.hx,S.hl,S.hds,⟨o,jO _ _ (λ_ z=>nomatch z) ho⟩,⟨kvs,jO _ _ (λ_ z=>nomatch z) a1,a2,λp hp=>?_⟩,⟨ts,b1,by rw[YJ (λz=>by rw[z,hc]at b1;cases b1;exact hu rfl)];exact b2,b3,λr t ρ e1 e2=>?_⟩,λa w ha=>?_,S.uq⟩
 ·obtain⟨a,bs,g1,g2,g3,g4,g5⟩:=a3 p hp;exact⟨a,bs,g1,g2,st _ _ g2 g3,g4,λe c' hc'=>⟨(g5 e c' hc').1,h1 p e c' (g5 e c' hc').1 (g5 e c' hc').2⟩⟩
 ·obtain⟨ds,g1,g2,g3,g4⟩:=b4 r t ρ e1 e2;refine⟨ds,g1,st _ _ g1 g2,g3,λd u' hu=>?_⟩;obtain⟨es,k1,k2,k3,k4⟩:=g4 d u' hu;exact⟨es,k1,st _ _ k1 k2,k3,λb c' hc'=>⟨(k4 b c' hc').1,h2 r d b c' (k4 b c' hc').1 (k4 b c' hc').2⟩⟩
 ·refine⟨(S.on a w ha).1,?_⟩
  by_cases RG:a=c
  ·subst RG;exact⟨_,YD⟩
  ·obtain⟨ns',e⟩:=(S.on a w ha).2;exact⟨ns',by rw[YJ RG];exact e⟩
def upO (O:OvF) (p:Str) (b e:Nat) (v:Int):OvF:=λp' b' e'=>if p'=p/\b'=b/\e'=e then v else O p' b' e'
theorem ovR_set (O:OvF) (p:Str) {b e:Nat} (hb:b<=e) (v:Int):(ovR O p e).set b v=ovR (upO O p b e v) p e:=by
 refine YNV λi=>?_
 unfold ovR upO;rw[List.getElem?_set];rcases YMt i (e + 1) with hi |hi
 ·rw[YLt,YLt,YMh hi]
  by_cases h:b=i
  ·subst h;rw[if_pos rfl,if_pos (by rw[YLp,YMH];exact hi)];simp
  ·rw[if_neg h];simp only[YNg];rw[if_neg (λz=>h z.2.1.symm)]
 ·rw[YMf (by rw[YLp,YMH];lia),YMf (by rw[YLp,YMH];lia),YLp,YMH];split
  ·rw[if_neg (by lia)]
  ·rfl
theorem TSt.setO (S:TSt T own ps H0 H O F K) {p:Str}{b e:Nat} (hb:b<=e) {c:Addr} (hc:own c=some (.ov p e)) (v:Int):
  TSt T own ps H0 (upd H c (.lst (((ovR O p e).set b v).map V.int))) (upO O p b e v) F K:=by
 rw[ovR_set O p hb v];refine S.write hc nofun _ (λp' e' c' h1 h2=>?_) λr d b' c' h1 h2=>?_
 ·by_cases h:c'=c
  ·subst h;rw[hc]at h1;cases h1;exact YD
  ·rw[YJ h,h2];have hne:¬(p'=p/\e'=e):=λz=>h (S.uq c' c _ h1 (by rw[z.1,z.2];exact hc))
   have:ovR (upO O p b e v) p' e'=ovR O p' e':=by
    unfold ovR upO;refine YM0 λb' _=>?_
    rw[if_neg (λz=>hne ⟨z.1,z.2.2⟩)]
   rw[this]
 ·rw[YJ (λz=>by rw[z,hc]at h1;cases h1)];exact h2
def upF (F:FiF) (r d b m:Nat) (v:Int):FiF:=λr' d' b' m'=>if r'=r/\d'=d/\b'=b/\m'=m then v else F r' d' b' m'
def upK (K:Nat->Nat->Nat->Nat) (r d b k:Nat):Nat->Nat->Nat->Nat:=λr' d' b'=>if r'=r/\d'=d/\b'=b then k else K r' d' b'
theorem TSt.addF (S:TSt T own ps H0 H O F K) {r d b:Nat}{c:Addr} (hc:own c=some (.fi r d b)) (v:Int):
  TSt T own ps H0 (upd H c (.lst ((fiR F r d b (K r d b) ++ [v]).map V.int))) O (upF F r d b (K r d b) v) (upK K r d b (K r d b + 1)):=by
 refine S.write hc nofun _ (λp' e' c' h1 h2=>?_) λr' d' b' c' h1 h2=>?_
 ·rw[YJ (λz=>by rw[z,hc]at h1;cases h1)];exact h2
 ·by_cases h:c'=c
  ·subst h;rw[hc]at h1;cases h1;have ek:upK K r d b (K r d b + 1) r d b=K r d b + 1:=if_pos ⟨Z,Z,Z⟩;rw[YD,ek];have:fiR (upF F r d b (K r d b) v) r d b (K r d b + 1)=fiR F r d b (K r d b) ++ [v]:=by
    unfold fiR;rw[List.range_succ,YL2];congr 1
    ·refine YM0 λm hm=>?_
     have:=YMy.mp hm;exact if_neg λz=>by lia
    ·show[upF F r d b (K r d b) v r d b (K r d b)]=[v];rw[show upF F r d b (K r d b) v r d b (K r d b)=v from if_pos ⟨Z,Z,Z,Z⟩]
   rw[this]
  ·have hne:¬(r'=r/\d'=d/\b'=b):=λz=>h (S.uq c' c _ h1 (by rw[z.1,z.2.1,z.2.2];exact hc))
   have ek:upK K r d b (K r d b + 1) r' d' b'=K r' d' b':=if_neg hne;have:fiR (upF F r d b (K r d b) v) r' d' b' (K r' d' b')=fiR F r' d' b' (K r' d' b'):=by
    unfold fiR;refine YM0 λm _=>?_
    exact if_neg λz=>hne ⟨z.1,z.2.1,z.2.2.1⟩
   rw[YJ h,h2,ek,this]
theorem TSt.ov (S:TSt T own ps H0 H O F K) {p:Str} (hp:p∈ps) {e:Nat} (he:e<=T.n):∃(a:Addr) (bs:List Addr) (c:Addr),Jf H T.ao (.str p) (some (.ref a))/\H a=some (.lst (bs.map V.ref))/\atI (bs.map V.ref) e=some (.ref c)/\own c=some (.ov p e)/\H c=some (.lst ((ovR O p e).map V.int)):=by
 obtain⟨kvs,a1,a2,a3⟩:=S.hao;obtain⟨a,bs,g1,g2,g3,g4,g5⟩:=a3 p hp;have hlt:e < bs.length:=by lia
 have ec:=YLs hlt;obtain⟨h1,h2⟩:=g5 e _ ec;refine⟨a,bs,bs[e],?_,g3,Yn (by rw[YLt,ec];rfl),h1,h2⟩;rw[<-g1];exact Jf.k (k:=Sum.inr p) a1
theorem TSt.fi (S:TSt T own ps H0 H O F K) {r:Nat}{ρ:Yp} (hr:T.g[r]?=some ρ) (hR:r < T.R):∃(ts:List Addr) (t:Addr) (ds:List Addr),H T.af=some (.lst (ts.map V.ref))/\atI (ts.map V.ref) r=some (.ref t)/\H t=some (.lst (ds.map V.ref))/\ds.length=rch T.s ρ.2.1 + 1/\
  ∀(d:Nat),d<=rch T.s ρ.2.1->∀b,b<=T.n->∃(u:Addr) (es:List Addr) (c:Addr),atI (ds.map V.ref) d=some (.ref u)/\H u=some (.lst (es.map V.ref))/\atI (es.map V.ref) b=some (.ref c)/\own c=some (.fi r d b)/\H c=some (.lst ((fiR F r d b (K r d b)).map V.int)):=by
 obtain⟨ts,b1,b2,b3,b4⟩:=S.haf;have hlt:r < ts.length:=by rw[b3];exact hR
 have et:=YLs hlt;obtain⟨ds,g1,g2,g3,g4⟩:=b4 r _ ρ et hr;refine⟨ts,ts[r],ds,b2,Yn (by rw[YLt,et];rfl),g2,g3,λd hd b hb=>?_⟩;have ed:=YLs (show d < ds.length by lia);obtain⟨es,k1,k2,k3,k4⟩:=g4 d _ ed;have eb:=YLs (show b < es.length by lia);exact⟨_,es,es[b],Yn (by rw[YLt,ed];rfl),k2,Yn (by rw[YLt,eb];rfl),(k4 b _ eb).1,(k4 b _ eb).2⟩
theorem YI4 (own:Addr->Option XE) (R:Addr->XE->Prop) (fn:∀a u u',R a u->R a u'->u=u'):∃bB:Addr->Option XE,(∀a u,R a u->bB a=some u)/\∀a,(∀u,¬R a u)->bB a=own a:=by
 classical
 refine⟨λa=>if h:∃u,R a u then some h.choose else own a,λa u h=>?_,λa h=>?_⟩
 ·have h':∃u,R a u:=⟨u,h⟩;show(if h:∃u,R a u then some h.choose else own a)=some u;rw[dif_pos h'];exact YMw some (fn a _ _ h'.choose_spec h)
 ·show(if h:∃u,R a u then some h.choose else own a)=own a;exact dif_neg λ⟨u,h'⟩=>h u h'
end
end FR
namespace L2
open PySem PySem.Spec PyProof.Rows
open Builtin Builtin.Str in
def YD0 (x y:Str) (i j:Int):Int:=match occurrences x y (fromIndex x.length i) (min (fromIndex x.length j) x.length) 1 with |k :: _=>(k:Int) |[]=>-1
open Builtin Builtin.Str in
theorem YG0 (x y:Str) (i j:Int) (t u v w:Tok):Gives («str.find» ⟨[.str x t,.str y u,.int i v,.int j w],[]⟩) (.int (YD0 x y i j)):=by
 show Gives (match occurrences x y (fromIndex x.length i) (min (fromIndex x.length j) x.length) 1 with |k :: _=>retInt k |[]=>(do rule "str.find.not-found";retInt (-1))) _;unfold YD0;cases occurrences x y (fromIndex x.length i) (min (fromIndex x.length j) x.length) 1 with
 |nil=>exact .rule (.of_eq rfl)
 |cons k _=>exact .of_eq rfl
section
variable {X:Cx}
theorem YG1:MtR X "str.find" (λx vs H Q=>∃z y i j,x=.str z/\vs=[.str y,.int i,.int j]/\Q (.int (YD0 z y i j)) H):=by
 intro pins s σ H x xs v us Q I rx rs h;obtain⟨z,y,i,j,rfl,rfl,q⟩:=h;obtain⟨t,rfl⟩:=rx;cases rs with
 |cons r1 rs=>
  cases rs with
  |cons r2 rs=>
   cases rs with
   |cons r3 rs=>
    cases rs;obtain⟨t1,rfl⟩:=r1;obtain⟨t2,rfl⟩:=r2;obtain⟨t3,rfl⟩:=r3;exact call_gives F.slot_str_find (typeIs_str _ _ _) F.entry_str_find (F.args_str_find_4 _ _ _ _) (YG0 z y i j t t1 t2 t3) ⟨.int _,H,I.tok _,⟨_,Z⟩,q⟩
end
end L2
namespace L2
open PySem PySem.Spec PyProof.Rows
section
variable {X:Cx}
def rLtP (K:W.Frag):V->V->Hp->VK->Prop:=λx y H Q=>∃(t1 t2:Addr) (p1 p2:Int×Int),x=.ref t1/\y=.ref t2/\SqT K H t1 [.int p1.1,.int p1.2]/\SqT K H t2 [.int p2.1,.int p2.2]/\Q (.bl (ltP p1 p2)) H
theorem YLP (K:W.Frag) (hK:X.K=K) (hu:X.A.units + 64 < cLine):OpR X (compareOp .Lt) (rLtP K):=by
 subst hK;intro pins s σ H x y v u Q I rx ry h;obtain⟨t1,t2,p1,p2,rfl,rfl,h1,h2,q⟩:=h;cases rx;cases ry;obtain⟨its1,r1,Bd,_⟩:=I.tuple h1;obtain⟨dw,r2,Be,_⟩:=I.tuple h2;obtain⟨u,v,rfl,⟨t,rfl⟩,⟨t',rfl⟩⟩:=YEm r1;obtain⟨u',v',rfl,⟨t3,rfl⟩,⟨t4,rfl⟩⟩:=YEm r2;refine HT.lt_tupInts Bd Be (.cons _ _ (.cons _ _ .nil)) (.cons _ _ (.cons _ _ .nil)) (by omega) ?_;rw[YIH];exact⟨.bl _,H,I,Z,q⟩
end
end L2
namespace FR
open PySem L2
def top (i:Nat):Stmt:=PySem.Challenge.pw_forestread_k74_whole_no_cheaper.main.body.getD i (.Pass ⟨0,0,0,0⟩)
abbrev YBm:Stmt:=top 13
abbrev Jl:Stmt:=top 14
abbrev YCf:Stmt:=top 15
abbrev YCg:Stmt:=top 16
abbrev YCh:Stmt:=top 17
abbrev YBn:Stmt:=top 23
abbrev YA8:Stmt:=top 24
abbrev YCi:Stmt:=top 25
abbrev YAb:Stmt:=top 26
abbrev YCj:Stmt:=top 27
structure Adr where
 NoGrammar:Addr
 NoText:Addr
 NoCosts:Addr
 Toller:Addr
 Mending:Addr
 Barren:Addr
 TooGreat:Addr
 none_:Addr
structure Txt (K:W.Frag) (mg:Str->Option Value) (C:Adr):Prop where
 aM:mg "isinstance"=none
 vI:mg "int"=none
 wj:mg "bool"=none
 y_:mg "ord"=none
 tu:mg "str"=none
 ak:mg "len"=none
 m7:mg "all"=none
 iI:mg "tuple"=none
 gP:mg "list"=none
 m8:mg "min"=none
 aG:mg "range"=none
 za:mg "zip"=none
 aZ:mg "enumerate"=none
 dB:mg "reversed"=none
 m9:mg "divmod"=none
 dC:∃t,mg "FIRST_CODE"=some (.int 32 t)
 dZ:∃t,mg "LAST_CODE"=some (.int 126 t)
 cL:∃t,mg "PERCENT_CODE"=some (.int 37 t)
 cM:∃t,mg "MOST_LETTERS"=some (.int 8 t)
 dD:∃t,mg "MOST_PARTS"=some (.int 6 t)
 dF:∃t,mg "MOST_RULES"=some (.int 60 t)
 dG:∃t,mg "MOST_SIGNS"=some (.int 60 t)
 cN:∃t,mg "MOST_NUMBERS"=some (.int 1000 t)
 m_:mg "NoGrammar"=some (.ref C.NoGrammar)
 tD:mg "NoText"=some (.ref C.NoText)
 qO:mg "NoCosts"=some (.ref C.NoCosts)
 tE:mg "Toller"=some (.ref C.Toller)
 qP:mg "Mending"=some (.ref C.Mending)
 tG:mg "Barren"=some (.ref C.Barren)
 pN:mg "TooGreat"=some (.ref C.TooGreat)
 ni:Exc K C.NoGrammar
 tH:Exc K C.NoText
 qQ:Exc K C.NoCosts
 tK:Exc K C.Barren
 pO:Exc K C.TooGreat
 aa:Cls K C.Toller
 aj:Cls K C.Mending
 bf:Zm K C.Toller "cut"
 dh:Zm K C.Toller "put"
 bh:Zm K C.Toller "text"
 d_:Zm K C.Toller "swap"
 bj:Zm K C.Toller "bare"
 aA:Zm K C.Toller "over"
 aF:Zm K C.Toller "rules"
 aN:Zm K C.Toller "first"
 aB:Zm K C.Mending "deeds"
 bI:Zm K C.Mending "text"
 bw:Zm K C.Mending "costs"
 au:Zm K C.Mending "known"
 cg:Zm K C.Mending "rules"
 cO:Zm K C.Mending "row"
theorem YEY:(["letter"]:List Str).Nodup:=by decide +kernel
theorem YG2:(["part"]:List Str).Nodup:=by decide +kernel
section
variable {P:Program}{w:World}{K:W.Frag}{mg:Str->Option Value}{base:Heap}{C:Adr}
theorem YG3:YX ["thing"] ["thing"] (YQ YBm):=⟨Z,Z,Z,by decide +kernel,Z,by decide +kernel,by decide +kernel⟩
theorem YG4 {f:Addr}{fd:FuncData} (F:Fun K "is_whole" "is_whole" YBm f fd) (T:Txt K mg C):Yt P w K mg base CX0 1 f fd ["thing"] (Xy YDl):=by
 refine F.ok YG3 (λvs H Q E h=>?_) (λaO A outer s H vs Q E hr h=>?_)
 ·cases h;subst_vars;rfl
 ·obtain⟨x,d,rfl,den,sh,hp,q⟩:=h;refine⟨_,(YF (Yc (Jw (YO (JE K rfl) (by rfl) T.aM YMW (YA (pv 0) (YA (XO (v:=.ty "int") (by rfl) T.vI PyProof.Rows.Boot.«int» rfl) YB))) (Xf (pe_not (YO (JE K rfl) (by rfl) T.aM YMW (YA (pv 0) (YA (XO (v:=.ty "bool") (by rfl) T.wj PyProof.Rows.Boot.«bool» rfl) YB)))))))),?_⟩;refine⟨_,Z,_,_,_,_,_,Z,den.ty,Z,kit_int d,_,Z,?_⟩;refine XB (g:=!YIp d) (λ_ R hR=>⟨_,Z,_,_,_,_,_,Z,den.ty,Z,YK1 d,_,Z,hR⟩) ?_;cases d <;> exact q
theorem Xp:YX ["sign","code"] ["sign"] (YQ Jl):=⟨Z,Z,Z,by decide +kernel,Z,by decide +kernel,by decide +kernel⟩
theorem YBo {f:Addr}{fd:FuncData} (F:Fun K "stands_in_texts" "stands_in_texts" Jl f fd) (T:Txt K mg C):Yt P w K mg base CX0 1 f fd ["sign"] (YDm):=by
 obtain⟨uL,dC⟩:=T.dC;obtain⟨vJ,dZ⟩:=T.dZ;obtain⟨tL,cL⟩:=T.cL;refine F.ok Xp (λvs H Q E h=>?_) (λaO A outer s H vs Q E hr h=>?_)
 ·cases h;subst_vars;rfl
 ·obtain⟨c,rfl,q⟩:=h;refine⟨_,(YG (YK (i:=1) Xp.nd rfl (Or.inl rfl) (YO YKW (by rfl) T.y_ PyProof.Rows.Boot.«ord» (YA (pv 0) YB)))
   (YF (Yc (Jw (YAu Xi Xi (X1 (v:=.int 32) (by rfl) dC ⟨_,Z⟩) (pv 1) (X1 (v:=.int 126) (by rfl) dZ ⟨_,Z⟩)) (Xf (YAU YCt (pv 1) (X1 (v:=.int 37) (by rfl) cL ⟨_,Z⟩) (Yd _))))))),?_⟩
  refine⟨_,Z,_,Z,Z,?_⟩;refine⟨_,Z,_,_,Z,Z,_,Z,?_⟩;have ec:(((⟨#[c]⟩:Str).cps.getD 0 0:Nat):Int)=(c:Int):=rfl;rw[ec];refine JP (λh1=>?_) λh1=>?_
  ·refine⟨_,_,Z,Z,_,Z,?_⟩;refine JP (λh2=>?_) λh2=>?_
   ·refine⟨_,Z,Z,?_⟩;have e:(!decide (V.int (c:Int)=V.int 37))=JR c:=by
     simp only[YMa]at h1 h2;unfold JR;have a1:32<=c:=by lia
     have a2:c<=126:=by lia
     rw[YLw a1,YLw a2]
     by_cases h3:c=37
     ·subst h3;rfl
     ·rw[YLz h3,YLz (λz=>h3 (by have:=V.int.inj z;lia))];rfl
    rw[e];exact q
   ·have e:JR c=false:=by
     simp only[YMa]at h2;unfold JR;rw[YLz (show ¬c<=126 by lia)];simp
    rw[e]at q;exact q
  ·refine⟨_,Z,ZA ?_⟩;have e:JR c=false:=by
    simp only[YMa]at h1;unfold JR;rw[YLz (show ¬32<=c by lia)];simp
   rw[e]at q;exact q
theorem first39 (z:Str):decide (V.str ⟨#[z.cps.getD 0 0]⟩=V.str "'")=decide (z.cps.getD 0 0=39):=by
 by_cases h:z.cps.getD 0 0=39
 ·rw[h];decide +kernel
 ·rw[YLz h,YLz];intro e;apply h;have e6:(({ cps:=#[z.cps.getD 0 0] }:Str)).cps.getD 0 0=(("'":Str)).cps.getD 0 0:=YMw (λs:Str=>s.cps.getD 0 0) (V.str.inj e);exact(show z.cps.getD 0 0=(({ cps:=#[z.cps.getD 0 0] }:Str)).cps.getD 0 0 from rfl).trans (e6.trans (by decide +kernel))
theorem YII:YX ["thing"] ["thing"] (YQ YCf):=⟨Z,Z,Z,by decide +kernel,Z,by decide +kernel,by decide +kernel⟩
theorem YIJ {f:Addr}{fd:FuncData} (F:Fun K "is_sign" "is_sign" YCf f fd) (T:Txt K mg C) (aJ:Zc P w K mg CX0 1 "stands_in_texts" ["sign"] (YDm)):Yt P w K mg base CX0 2 f fd ["thing"] (Xy YB9):=by
 obtain⟨iJ,gQ,bO,bQ,bR,bT⟩:=aJ.ok;refine F.ok YII (λvs H Q E h=>?_) (λaO A outer s H vs Q E hr h=>?_)
 ·cases h;subst_vars;rfl
 ·obtain⟨x,d,rfl,den,sh,hp,q⟩:=h;refine⟨_,(YF (Yc (Jw (YO (JE K rfl) (by rfl) T.aM YMW (YA (pv 0) (YA (XO (v:=.ty "str") (by rfl) T.tu PyProof.Rows.Boot.«str» rfl) YB))) (Jw (YAU Jd (YO Yz (by rfl) T.ak YLq (YA (pv 0) YB)) YC (Yd _)) (Jw (YAU Jd (YM Zt (pv 0) YC (λ_ _=>rfl)) ZH (Yd _)) (Xf (YZ (bO base) (hr.mono (by decide)) (by rfl) bQ bR bT .nil Yi (YA (YM Zt (pv 0) YC (λ_ _=>rfl)) YB)))))))),?_⟩;refine⟨_,Z,_,_,_,_,_,Z,den.ty,Z,YFs d,_,Z,?_⟩;cases d with
  |str z=>
   have ex:=den.to_str;subst ex;have hz:=YBj sh;have ev:YB9 (.str z)=(z.cps.size == 2 && z.cps[0]? == some 39 && JR (z.cps.getD 1 0)):=rfl;refine ZG ?_;refine⟨_,Z,z,Z,hz,Z,_,Z,?_⟩;refine XB (g:=decide (z.cps.getD 0 0=39) && JR (z.cps.getD 1 0)) (λh2 R hR=>?_) ?_
   ·have hs:z.cps.size=2:=by
     have e:=V.int.inj (YME h2);rw[Xm]at e
     lia
    have g0:z.cps.toList[0]?=some (z.cps.getD 0 0):=by
     rw[YMq];simp[hs]
    have g1:z.cps.toList[1]?=some (z.cps.getD 1 0):=by
     rw[YMq];simp[hs]
    refine⟨_,Z,z,0,_,Z,Z,hz,Yn (j:=0) g0,Z,_,Z,?_⟩;rw[first39];exact XB (g:=JR (z.cps.getD 1 0)) (λ_ R hR=>⟨_,Z,z,1,_,Z,Z,hz,Yn (j:=1) g1,_,Z,hR⟩) hR
   ·have e2:(decide (V.int (z.length:Int)=V.int 2) && (decide (z.cps.getD 0 0=39) && JR (z.cps.getD 1 0)))=YB9 (.str z):=by
     rw[ev,Xm,Bool.and_assoc]
     by_cases h2:z.cps.size=2
     ·have g0:z.cps[0]?=some (z.cps.getD 0 0):=by simp[h2]
      have e4:(some (z.cps.getD 0 0) == some 39)=decide (z.cps.getD 0 0=39):=by
       rw[YNC];simp
      rw[g0,e4];congr 1;rw[h2];decide
     ·rw[YLz (λe=>h2 (by have:=V.int.inj e;lia)),beq_eq_false_iff_ne.mpr h2];rfl
    rw[e2];exact q
  |_=>exact ZA q
theorem YIK:YX ["thing"] ["thing"] (YQ YCg):=⟨Z,Z,Z,by decide +kernel,Z,by decide +kernel,by decide +kernel⟩
theorem YIL {f:Addr}{fd:FuncData} (F:Fun K "is_name" "is_name" YCg f fd) (T:Txt K mg C):Yt P w K mg base CX0 1 f fd ["thing"] (Xy isNameD):=by
 obtain⟨tM,cM⟩:=T.cM;refine F.ok YIK (λvs H Q E h=>?_) (λaO A outer s H vs Q E hr h=>?_)
 ·cases h;subst_vars;rfl
 ·obtain⟨x,d,rfl,den,sh,hp,q⟩:=h;refine⟨_,(YG (Yx (Xe (JH (YO (JE K rfl) (by rfl) T.aM YMW (YA (pv 0) (YA (XO (v:=.ty "str") (by rfl) T.tu PyProof.Rows.Boot.«str» rfl) YB))))) (YF (Yc XL)) Yk)
   (YF (Yc (Jw (YAu Xi Xi YC (YO Yz (by rfl) T.ak YLq (YA (pv 0) YB)) (X1 (v:=.int 8) (by rfl) cM ⟨_,Z⟩)) (Xf (YB5 (YO (YAJ K rfl rfl) (by rfl) T.m7 YM8 (YA (Z3 (N:=["letter"]) (ρ:=[none]) (cl:=[]) rfl (Yj.plain rfl (by decide +kernel) (by decide +kernel) rfl (by simp)) (YH4 (pv 0)) (λ_ _ _ _ _=>(YU (i:=0) YEY rfl (Or.inl rfl) (.inr rfl))) (λ_ _ _ _ _=>Zh) (λ_ _ _ _ _=>(YAu YE3 YE3 ZH (pv 0) ZH))) YB)))))))),?_⟩
  refine⟨_,Z,_,_,_,_,_,Z,den.ty,Z,YFs d,_,Z,?_⟩;cases d with
  |str z=>
   have ex:=den.to_str;subst ex;have hz:=YBj sh;have ev:isNameD (.str z)=(decide (1<=z.cps.size) && decide (z.cps.size<=8) && z.cps.toList.all Zg):=rfl;refine ZA ?_;refine⟨_,Z,z,Z,hz,_,_,Z,Z,_,Z,?_⟩;refine JP (λh1=>?_) λh1=>?_
   ·refine⟨_,_,Z,Z,_,Z,?_⟩;have h1':1<=z.cps.size:=by have:=YME h1;rw[Xm]at this;lia
    refine JP (λh2=>?_) λh2=>?_
    ·have h2':z.cps.size<=8:=by have:=YME h2;rw[Xm]at this;lia
     refine⟨hp,_,Z,z,Z,λl hl=>?_⟩;refine YGb (τ:=YDd [none] _) (λc=>.bl (Zg c)) hl YM3 hz (λτ' c H' R hτ _ hR=>?_) ?_
     ·refine⟨_,hτ,_,_,Z,Z,_,Z,?_⟩;rw[le_A];refine JP (λh3=>?_) λh3=>?_
      ·refine⟨_,_,Z,Z,?_⟩;rw[le_Z];have e5:Zg c=decide (c<=90):=by unfold Zg;rw[h3];rfl
       rw[e5]at hR;exact hR
      ·have e5:Zg c=false:=by
        unfold Zg;cases hh:decide (65<=c) with
        |false=>rfl
        |true=>exact absurd hh h3
       rw[e5]at hR;exact hR
     ·refine⟨l,z.cps.toList.map Zg,Z,.inl (.inl ?_),λb o eb=>?_,?_⟩
      ·rw[YD,YK3]
      ·rw[YJ (Ya eb hl)];exact eb
      ·rw[Xn];rw[ev,YLw h1',YLw h2']at q
       simpa using q
    ·have h2':¬z.cps.size<=8:=λz'=>h2 (YLw (by rw[Xm];lia))
     rw[ev,YLz h2']at q
     simpa using q
   ·have h1':¬1<=z.cps.size:=λz'=>h1 (YLw (by rw[Xm];lia))
    refine⟨_,Z,ZA ?_⟩;rw[ev,YLz h1']at q
    simpa using q
  |_=>exact ZG q
theorem YIM:YX ["thing"] ["thing"] (YQ YCh):=⟨Z,Z,Z,by decide +kernel,Z,by decide +kernel,by decide +kernel⟩
theorem YIN {f:Addr}{fd:FuncData} (F:Fun K "is_part" "is_part" YCh f fd) (T:Txt K mg C) (ji:Zc P w K mg CX0 2 "is_sign" ["thing"] (Xy YB9)) (cI:Zc P w K mg CX0 1 "is_name" ["thing"] (Xy isNameD)):Yt P w K mg base CX0 3 f fd ["thing"] (Xy XW):=by
 obtain⟨yz,wu,qR,qT,qU,qW⟩:=ji.ok;obtain⟨qX,pP,jj,jk,jl,jm⟩:=cI.ok;refine F.ok YIM (λvs H Q E h=>?_) (λaO A outer s H vs Q E hr h=>?_)
 ·cases h;subst_vars;rfl
 ·obtain⟨x,d,rfl,den,sh,hp,q⟩:=h;refine⟨_,(YF (Yc (pe_or (YZ (qR base) (hr.mono (by decide)) (by rfl) qT qU qW .nil Yi (YA (pv 0) YB)) (Xf (YZ (jj base) (hr.mono (by decide)) (by rfl) jk jl jm .nil Yi (YA (pv 0) YB)))))),?_⟩;refine⟨_,Z,x,d,Z,den,sh,hp,_,Z,?_⟩;exact or_read (g:=isNameD d) (λ_ R hR=>⟨_,Z,x,d,Z,den,sh,hp,hR⟩) q
theorem YG5:YX ["thing"] ["thing"] (YQ YBn):=⟨Z,Z,Z,by decide +kernel,Z,by decide +kernel,by decide +kernel⟩
theorem YG6 {f:Addr}{fd:FuncData} (F:Fun K "is_worth" "is_worth" YBn f fd) (T:Txt K mg C) (cj:Zc P w K mg CX0 1 "is_whole" ["thing"] (Xy YDl)):Yt P w K mg base CX0 2 f fd ["thing"] (Xy Y8):=by
 obtain⟨pQ,nj,gR,gU,gW,gY⟩:=cj.ok;refine F.ok YG5 (λvs H Q E h=>?_) (λaO A outer s H vs Q E hr h=>?_)
 ·cases h;subst_vars;rfl
 ·obtain⟨x,d,rfl,den,sh,hp,q⟩:=h;refine⟨_,(YF (Yc (Jw (YZ (gR base) (hr.mono (by decide)) (by rfl) gU gW gY .nil Yi (YA (pv 0) YB)) (Xf (YAu Xi Xi YC (pv 0) (YI YAt YC YC)))))),?_⟩;refine⟨_,Z,x,d,Z,den,sh,hp,_,Z,?_⟩;cases d with
  |int i=>
   have ex:=den.to_int;subst ex;have ev:Y8 (.int i)=(decide (0<=i) && decide (i<=10 ^ 60)):=rfl;refine ZG ?_;refine⟨_,Z,_,_,Z,Z,_,Z,?_⟩;refine JP (λh1=>?_) λh1=>?_
   ·refine⟨_,_,Z,Z,⟨by decide,by decide,by decide⟩,_,_,Z,Z,?_⟩;rw[ev,h1]at q;exact q
   ·have h1':decide (0<=i)=false:=by
     cases hh:decide (0<=i) with
     |false=>rfl
     |true=>exact absurd hh h1
    rw[ev,h1']at q;exact q
  |_=>exact ZA q
theorem YF0:YX ["thing"] ["thing"] (YQ YA8):=⟨Z,Z,Z,by decide +kernel,Z,by decide +kernel,by decide +kernel⟩
theorem YF1 {f:Addr}{fd:FuncData} (F:Fun K "are_parts" "are_parts" YA8 f fd) (T:Txt K mg C) (jn:Zc P w K mg CX0 3 "is_part" ["thing"] (Xy XW)):Yt P w K mg base CX0 4 f fd ["thing"] (Xy Xc):=by
 obtain⟨yC,ww,qY,qZ,q_,rm⟩:=jn.ok;obtain⟨uM,dD⟩:=T.dD;refine F.ok YF0 (λvs H Q E h=>?_) (λaO A outer s H vs Q E hr h=>?_)
 ·cases h;subst_vars;rfl
 ·obtain⟨x,d,rfl,den,sh,hp,q⟩:=h;refine⟨_,(YG (Yx (Xe (JH (YO (JE K rfl) (by rfl) T.aM YMW (YA (pv 0) (YA (XO (v:=.ty "tuple") (by rfl) T.iI YM2 rfl) YB))))) (YF (Yc XL)) Yk)
   (YF (Yc (Jw (YAU Xi (YO (YL K rfl) (by rfl) T.ak YLq (YA (pv 0) YB)) (X1 (v:=.int 6) (by rfl) dD ⟨_,Z⟩) (Yd _)) (Xf (YB5 (YO (YAJ K rfl rfl) (by rfl) T.m7 YM8 (YA (Z3 (N:=["part"]) (ρ:=[none]) (cl:=[]) rfl (Yj.plain rfl (by decide +kernel) (by decide +kernel) rfl (by simp)) (X2 K rfl (pv 0)) (λ_ _ _ _ _=>(YU (i:=0) YG2 rfl (Or.inl rfl) (.inr rfl))) (λ_ _ _ _ _=>Zh) (λ_ _ _ _ _=>(YZ (qY base) (hr.mono (by decide)) (by rfl) qZ q_ rm .nil Yi (YA (pv 0) YB)))) YB)))))))),?_⟩
  refine⟨_,Z,_,_,_,_,_,Z,den.ty,Z,YCa d,_,Z,?_⟩;cases d with
  |tup ds=>
   obtain⟨a,xs,rfl,ha,hds⟩:=den.to_tup;have hl:xs.length=ds.length:=hds.len;refine ZA ?_;refine⟨_,Z,a,xs,Z,.inr (SqT.of ha),_,_,Z,Z,_,Z,?_⟩;have shS:XH ds=true:=by unfold D.short at sh;exact sh
   have e1:decide ((xs.length:Int)<=6)=decide (ds.length<=6):=by rw[hl];congr 1;exact propext ⟨λh=>by lia,λh=>by lia⟩
   rw[e1];refine XB (g:=ds.all XW) (λh1 R hR=>?_) q;have h1':ds.length<=6:=YME h1;refine⟨hp,_,Z,a,Z,⟨xs,SqT.of ha⟩,λl qM=>?_⟩;refine Zf (n:=xs.length) 0 (λk y _=>∃d,ds[k]?=some d/\y=.bl (XW d)) (YBO (SqT.of ha)) (λ_ _ _ _ _ h=>h) hp qM YM3 (YH (by lia)) (λτ'=>0 < τ'.length) YM3 (λτ' v h=>by rw[YNK];exact h) ?_ ?_
   ·intro τ' k y H' R _ hτ hit hk hs hp' lU hR;obtain⟨d,hd,dn⟩:=hds.get hit;exact⟨_,hτ,y,d,Z,dn.same hs,JX shS (YLu hd),hp',hR _ _ (YN.refl _) hp' ⟨d,hd,Z⟩⟩
   ·intro ys H' hy hP hs hp' hl';have e2:ys=(ds.map XW).map V.bl:=YH8 (by rw[hy,hl]) hP;refine⟨l,ds.map XW,Z,.inl (.inl (by rw[hl',e2])),hs,?_⟩;rw[Xn];exact hR
  |_=>exact ZG q
theorem YIO:YX ["thing"] ["thing"] (YQ YCi):=⟨Z,Z,Z,by decide +kernel,Z,by decide +kernel,by decide +kernel⟩
theorem YIP {f:Addr}{fd:FuncData} (F:Fun K "is_rule" "is_rule" YCi f fd) (T:Txt K mg C) (cI:Zc P w K mg CX0 1 "is_name" ["thing"] (Xy isNameD)) (eE:Zc P w K mg CX0 4 "are_parts" ["thing"] (Xy Xc)) (gZ:Zc P w K mg CX0 2 "is_worth" ["thing"] (Xy Y8)):Yt P w K mg base CX0 5 f fd ["thing"] (Xy JF):=by
 obtain⟨qX,pP,jj,jk,jl,jm⟩:=cI.ok;obtain⟨vK,uN,nu,nA,nC,nD⟩:=eE.ok;obtain⟨wy,vL,pR,pU,pW,pX⟩:=gZ.ok;refine F.ok YIO (λvs H Q E h=>?_) (λaO A outer s H vs Q E hr h=>?_)
 ·cases h;subst_vars;rfl
 ·obtain⟨x,d,rfl,den,sh,hp,q⟩:=h;refine⟨_,(YG (Yx (PW.pt (YAr (Xe (JH (YO (JE K rfl) (by rfl) T.aM YMW (YA (pv 0) (YA (XO (v:=.ty "tuple") (by rfl) T.iI YM2 rfl) YB))))) (YAT (YW YCt (YO (YL K rfl) (by rfl) T.ak YLq (YA (pv 0) YB)) YC (Yd _))))) (YF (Yc XL)) Yk)
   (YF (Yc (Jw (YZ (jj base) (hr.mono (by decide)) (by rfl) jk jl jm .nil Yi (YA (YM (YS K rfl) (pv 0) YC (λ_ _=>rfl)) YB)) (Jw (YZ (nu base) (hr.mono (by decide)) (by rfl) nA nC nD .nil Yi (YA (YM (YS K rfl) (pv 0) YC (λ_ _=>rfl)) YB)) (Xf (YZ (pR base) (hr.mono (by decide)) (by rfl) pU pW pX .nil Yi (YA (YM (YS K rfl) (pv 0) YC (λ_ _=>rfl)) YB)))))))),?_⟩
  refine⟨_,Z,_,_,_,_,_,Z,den.ty,Z,YCa d,_,Z,?_⟩;cases d with
  |tup ds=>
   obtain⟨a,xs,rfl,ha,hds⟩:=den.to_tup;have hl:xs.length=ds.length:=hds.len;refine ZA ?_;refine⟨_,Z,a,xs,Z,.inr (SqT.of ha),Z,_,Z,?_⟩;have shS:XH ds=true:=by unfold D.short at sh;exact sh
   by_cases h3:ds.length=3
   ·match ds,h3,xs,hl,hds,ha,q,shS with
    |[d0,d1,d2],_,[x0,x1,x2],_,hds,ha,q,shS=>
     have n0:=(hds.get (i:=0) (v:=x0) rfl);have n1:=(hds.get (i:=1) (v:=x1) rfl);have n2:=(hds.get (i:=2) (v:=x2) rfl);obtain⟨_,e0,n0⟩:=n0;obtain⟨_,e1,n1⟩:=n1;obtain⟨_,e2,n2⟩:=n2;cases e0;cases e1;cases e2;have sq:SqT K H a [x0,x1,x2]:=SqT.of ha;refine ZA ?_;refine⟨_,Z,a,_,0,x0,Z,Z,sq,Z,x0,d0,Z,n0,JX shS (by simp),hp,_,Z,?_⟩;refine XB (g:=Xc d1 && Y8 d2) (λ_ R hR=>?_) q;refine⟨_,Z,a,_,1,x1,Z,Z,sq,Z,x1,d1,Z,n1,JX shS (by simp),hp,_,Z,?_⟩;exact XB (g:=Y8 d2) (λ_ R hR=>⟨_,Z,a,_,2,x2,Z,Z,sq,Z,x2,d2,Z,n2,JX shS (by simp),hp,hR⟩) hR
   ·have e1:(!decide (V.int (xs.length:Int)=V.int 3))=true:=by
     rw[YLz]
     ·rfl
     ·intro e;have:=V.int.inj e
      lia
    rw[e1];refine ZG ?_;have e2:JF (.tup ds)=false:=by
     match ds,h3 with
     |[],_=>rfl
     |[_],_=>rfl
     |[_,_],_=>rfl
     |[_,_,_],h=>exact absurd rfl h
     |_ :: _ :: _ :: _ :: _,_=>rfl
    rw[e2]at q;exact q
  |_=>exact ZG q
end
theorem YG7:(["rule"]:List Str).Nodup:=by decide +kernel
section
variable {P:Program}{w:World}{K:W.Frag}{mg:Str->Option Value}{base:Heap}{C:Adr}
theorem YEZ:YX ["thing"] ["thing"] (YQ YAb):=⟨Z,Z,Z,by decide +kernel,Z,by decide +kernel,by decide +kernel⟩
theorem YEa {f:Addr}{fd:FuncData} (F:Fun K "is_grammar" "is_grammar" YAb f fd) (T:Txt K mg C) (jo:Zc P w K mg CX0 5 "is_rule" ["thing"] (Xy JF)):Yt P w K mg base CX0 6 f fd ["thing"] (Xy X4):=by
 obtain⟨yD,wA,rn,rz,rA,rB⟩:=jo.ok;obtain⟨uO,dF⟩:=T.dF;refine F.ok YEZ (λvs H Q E h=>?_) (λaO A outer s H vs Q E hr h=>?_)
 ·cases h;subst_vars;rfl
 ·obtain⟨x,d,rfl,den,sh,hp,q⟩:=h;refine⟨_,(YG (Yx (Xe (JH (YO (JE K rfl) (by rfl) T.aM YMW (YA (pv 0) (YA (XO (v:=.ty "list") (by rfl) T.gP YMr rfl) YB))))) (YF (Yc XL)) Yk)
   (YF (Yc (Jw (YAU Xi (YO (YL K rfl) (by rfl) T.ak YLq (YA (pv 0) YB)) (X1 (v:=.int 60) (by rfl) dF ⟨_,Z⟩) (Yd _)) (Xf (YB5 (YO (YAJ K rfl rfl) (by rfl) T.m7 YM8 (YA (Z3 (N:=["rule"]) (ρ:=[none]) (cl:=[]) rfl (Yj.plain rfl (by decide +kernel) (by decide +kernel) rfl (by simp)) (Z7 K rfl (pv 0)) (λ_ _ _ _ _=>(YU (i:=0) YG7 rfl (Or.inl rfl) (.inr rfl))) (λ_ _ _ _ _=>Zh) (λ_ _ _ _ _=>(YZ (rn base) (hr.mono (by decide)) (by rfl) rz rA rB .nil Yi (YA (pv 0) YB)))) YB)))))))),?_⟩
  refine⟨_,Z,_,_,_,_,_,Z,den.ty,Z,YK2 d,_,Z,?_⟩;cases d with
  |lst ds=>
   obtain⟨a,xs,rfl,ha,hds⟩:=den.to_lst;have hl:xs.length=ds.length:=hds.len;have sq:SqL K H a xs:=.inl ha;refine ZA ?_;refine⟨_,Z,a,xs,Z,.inl sq,_,_,Z,Z,_,Z,?_⟩;have shS:XH ds=true:=by unfold D.short at sh;exact sh
   have e1:decide ((xs.length:Int)<=60)=decide (ds.length<=60):=by rw[hl];congr 1;exact propext ⟨λh=>by omega,λh=>by omega⟩
   rw[e1];refine XB (g:=ds.all JF) (λh1 R hR=>?_) q;have h1':ds.length<=60:=YME h1;refine⟨hp,_,Z,a,Z,⟨xs,sq⟩,λl qM=>?_⟩;refine Zf (n:=xs.length) 0 (λk y _=>∃d,ds[k]?=some d/\y=.bl (JF d)) (Xl sq) (λ_ _ _ _ _ h=>h) hp qM YM3 (YH (by omega)) (λτ'=>0 < τ'.length) YM3 (λτ' v h=>by rw[YNK];exact h) ?_ ?_
   ·intro τ' k y H' R _ hτ hit hk hs hp' lU hR;obtain⟨d,hd,dn⟩:=hds.get hit;exact⟨_,hτ,y,d,Z,dn.same hs,JX shS (YLu hd),hp',hR _ _ (YN.refl _) hp' ⟨d,hd,Z⟩⟩
   ·intro ys H' hy hP hs hp' hl';have e2:ys=(ds.map JF).map V.bl:=YH8 (by rw[hy,hl]) hP;refine⟨l,ds.map JF,Z,.inl (.inl (by rw[hl',e2])),hs,?_⟩;rw[Xn];exact hR
  |_=>exact ZG q
theorem YIQ:YX ["thing"] ["thing"] (YQ YCj):=⟨Z,Z,Z,by decide +kernel,Z,by decide +kernel,by decide +kernel⟩
theorem YIR {f:Addr}{fd:FuncData} (F:Fun K "checked" "checked" YCj f fd) (T:Txt K mg C) (dH:Zc P w K mg CX0 6 "is_grammar" ["thing"] (Xy X4)):Yt P w K mg base (CXo P w) 7 f fd ["thing"] (YCb C.NoGrammar):=by
 obtain⟨uP,ut,lV,lW,lX,lY⟩:=dH.ok;refine F.okX YIQ (λvs H Q E h=>?_) (λaO A outer s H vs Q E hr h=>?_)
 ·cases h;subst_vars;rfl
 ·obtain⟨x,d,rfl,den,sh,hp,q1,q2⟩:=h;refine⟨_,(YG (Yx (Xe (JH (YZ (lV base) (hr.mono (by decide)) (by rfl) lW lX lY .nil Yi (YA (pv 0) YB)))) (YF (YAv JQ T.ni rfl (by rfl) T.m_ (YA ZH YB))) Yk)
   (YF (Yc (Xa (X9 K rfl) (by rfl) T.gP YMr (YA (pv 0) YB))))),?_⟩
  refine⟨_,Z,x,d,Z,den,sh,hp,_,Z,?_⟩;refine JP (λhi=>?_) λhi=>?_
  ·exact⟨YH (by decide),q2 (YDo hi)⟩
  ·have e:=YE7 hi;obtain⟨g,rfl,hg⟩:=gram_of e;obtain⟨a,xs,rfl,ha,hds⟩:=YK5 den;exact⟨_,Z,a,xs,Z,.inl (.inl ha),λl hl=>q1 e l xs _ rfl hds hl⟩
end
abbrev YCk:Stmt:=top 18
abbrev Xq:Stmt:=top 19
theorem YG8:(["sign"]:List Str).Nodup:=by decide +kernel
section
variable {P:Program}{w:World}{K:W.Frag}{mg:Str->Option Value}{base:Heap}{C:Adr}
theorem YIS:YX ["thing"] ["thing"] (YQ YCk):=⟨Z,Z,Z,by decide +kernel,Z,by decide +kernel,by decide +kernel⟩
theorem YIT {f:Addr}{fd:FuncData} (F:Fun K "is_text" "is_text" YCk f fd) (T:Txt K mg C) (aJ:Zc P w K mg CX0 1 "stands_in_texts" ["sign"] (YDm)):Yt P w K mg base CX0 2 f fd ["thing"] (Xy YCA):=by
 obtain⟨iJ,gQ,bO,bQ,bR,bT⟩:=aJ.ok;obtain⟨uQ,dG⟩:=T.dG;refine F.ok YIS (λvs H Q E h=>?_) (λaO A outer s H vs Q E hr h=>?_)
 ·cases h;subst_vars;rfl
 ·obtain⟨x,d,rfl,den,sh,hp,q⟩:=h;refine⟨_,(YG (Yx (Xe (JH (YO (JE K rfl) (by rfl) T.aM YMW (YA (pv 0) (YA (XO (v:=.ty "str") (by rfl) T.tu PyProof.Rows.Boot.«str» rfl) YB))))) (YF (Yc XL)) Yk)
   (YF (Yc (Jw (YAU Xi (YO Yz (by rfl) T.ak YLq (YA (pv 0) YB)) (X1 (v:=.int 60) (by rfl) dG ⟨_,Z⟩) (Yd _)) (Xf (YB5 (YO (YAJ K rfl rfl) (by rfl) T.m7 YM8 (YA (Z3 (N:=["sign"]) (ρ:=[none]) (cl:=[]) rfl (Yj.plain rfl (by decide +kernel) (by decide +kernel) rfl (by simp)) (YH4 (pv 0)) (λ_ _ _ _ _=>(YU (i:=0) YG8 rfl (Or.inl rfl) (.inr rfl))) (λ_ _ _ _ _=>Zh) (λ_ _ _ _ _=>(YZ (bO base) (hr.mono (by decide)) (by rfl) bQ bR bT .nil Yi (YA (pv 0) YB)))) YB)))))))),?_⟩
  refine⟨_,Z,_,_,_,_,_,Z,den.ty,Z,YFs d,_,Z,?_⟩;cases d with
  |str z=>
   have ex:=den.to_str;subst ex;have hz:=YBj sh;have ev:YCA (.str z)=(decide (z.cps.size<=60) && z.cps.toList.all JR):=rfl;refine ZA ?_;refine⟨_,Z,z,Z,hz,_,_,Z,Z,_,Z,?_⟩;have e1:decide ((z.length:Int)<=60)=decide (z.cps.size<=60):=by
    rw[Xm];congr 1;exact propext ⟨λh=>by lia,λh=>by lia⟩
   rw[e1];refine XB (g:=z.cps.toList.all JR) (λh1 R hR=>?_) (by rw[ev]at q;exact q);refine⟨hp,_,Z,z,Z,λl hl=>?_⟩;refine YGb (τ:=YDd [none] _) (λc=>.bl (JR c)) hl YM3 hz (λτ' c H' R hτ _ hR=>?_) ?_
   ·exact⟨_,hτ,c,Z,hR⟩
   ·refine⟨l,z.cps.toList.map JR,Z,.inl (.inl ?_),λb o eb=>?_,?_⟩
    ·rw[YD,YK3]
    ·rw[YJ (Ya eb hl)];exact eb
    ·rw[Xn];exact hR
  |_=>exact ZG q
theorem YC5:YX ["thing"] ["thing"] (YQ Xq):=⟨Z,Z,Z,by decide +kernel,Z,by decide +kernel,by decide +kernel⟩
theorem YC6 {f:Addr}{fd:FuncData} (F:Fun K "checked_text" "checked_text" Xq f fd) (T:Txt K mg C) (jq:Zc P w K mg CX0 2 "is_text" ["thing"] (Xy YCA)):Yt P w K mg base (CXo P w) 3 f fd ["thing"] (YDp C.NoText):=by
 obtain⟨yE,wB,rC,rD,rE,rF⟩:=jq.ok;refine F.okX YC5 (λvs H Q E h=>?_) (λaO A outer s H vs Q E hr h=>?_)
 ·cases h;subst_vars;rfl
 ·obtain⟨x,d,rfl,den,sh,hp,q1,q2⟩:=h;refine⟨_,(YG (Yx (Xe (JH (YZ (rC base) (hr.mono (by decide)) (by rfl) rD rE rF .nil Yi (YA (pv 0) YB)))) (YF (YAv JQ T.tH rfl (by rfl) T.tD (YA ZH YB))) Yk)
   (YF (Yc (pv 0)))),?_⟩
  refine⟨_,Z,x,d,Z,den,sh,hp,_,Z,?_⟩;refine JP (λhi=>?_) λhi=>?_
  ·exact⟨YH (by decide),q2 (YDo hi)⟩
  ·have e:=YE7 hi;cases d with
   |str z=>
    have ex:=den.to_str;subst ex;exact⟨_,Z,q1 z rfl e⟩
   |_=>cases e
end
abbrev Xr:Stmt:=top 30
abbrev Xs:Stmt:=top 31
abbrev YAC:Stmt:=top 32
def unsz (kvs:List (Key×V)):Sz:=kvs.filterMap λkv=>match kv.1,kv.2 with
 |Sum.inr z,.int n=>some (z,n)
 |_,_=>none
theorem YD1:∀s:Sz,unsz (szD s)=s
 |[]=>rfl
 |p :: s=>by
  show unsz ((Sum.inr p.1,V.int p.2) :: szD s)=_;unfold unsz;rw[List.filterMap_cons];show p :: unsz (szD s)=_;rw[YD1 s]
def YG9 (H:Hp) (d:Addr):List (Key×V):=match H d with
 |some (.dK kvs)=>kvs
 |_=>[]
inductive YHA (vs:List V) (H:Hp) (Q:VK):Prop where
 |mk (d:_) (s:_) (p:_) (q:_) (a_:vs=[.ref d,.str p,.int q]) (bc:H d=some (.dK (szD s))) (bJ:Q (oV (XM s q p)) H):YHA vs H Q
def YI5:Sp:=λvs H Q E_=>YHA vs H Q
inductive YHB (vs:List V) (H:Hp) (Q:VK):Prop where
 |mk (d:_) (s:_) (t:_) (q:_) (z:_) (p:_) (ps:_) (w:_) (a_:vs=[.ref d,.ref t,.int q]) (bc:H d=some (.dK (szD s))) (bJ:H t=some (.tup [.str z,.ref p,.int w])) (cA:H p=some (.tup (ps.map V.str))) (dm:Q (oV (YAl s q ps)) H):YHB vs H Q
def YI6:Sp:=λvs H Q E_=>YHB vs H Q
inductive YFH (vs:List V) (H:Hp) (Q:VK):Prop where
 |mk (l:_) (xs:_) (g:_) (q:_) (a_:vs=[.ref l,.int q]) (bc:H l=some (.lst xs)) (bJ:Yh H xs (g.map ZR)) (cA:Yu g=true) (dm:0<=q) (gM:YR H) (lq:∀d s H',YA2 g q s->Fix g q s->H d=none->H'=upd H d (.dK (szD s))->Q (.ref d) H'):YFH vs H Q
def YHC:Sp:=λvs H Q E_=>YFH vs H Q
theorem oV_get (o:Option Int):(o.map V.int).getD .non=oV o:=by cases o <;> rfl
section
variable {P:Program}{w:World}{K:W.Frag}{mg:Str->Option Value}{base:Heap}{C:Adr}
theorem YC7:YX ["sizes","part","sign_size"] ["sizes","part","sign_size"] (YQ Xr):=⟨Z,Z,Z,by decide +kernel,Z,by decide +kernel,by decide +kernel⟩
theorem YC8 {f:Addr}{fd:FuncData} (F:Fun K "size_of_part" "size_of_part" Xr f fd) (T:Txt K mg C):Yt P w K mg base CX0 1 f fd ["sizes","part","sign_size"] (YI5):=by
 refine F.ok YC7 (λvs H Q E h=>?_) (λaO A outer s H vs Q E hr h=>?_)
 ·cases h;subst_vars;rfl
 ·obtain⟨d,s,p,q,rfl,hd,k⟩:=h;have hu:=Zq hr;refine⟨_,(YF (Yc (YAG (JH (ZO K rfl YNL YNJ YNI Z5 (pv 1) (YA ZH YB))) (pv 2) (YGX hu (pv 0) (pv 1) ⟨Z,Z,Z,Z⟩)))),?_⟩;refine⟨_,Z,Z,_,_,Z,Z,_,Z,?_⟩;unfold XM isQ at k;refine JP (λh1=>?_) λh1=>?_
  ·rw[if_pos h1]at k;exact⟨_,Z,k⟩
  ·rw[if_neg h1]at k;refine⟨_,Z,d,Z,.inl ⟨_,.inl hd⟩,_,Z,_,Jf.k (k:=Sum.inr p) hd,?_⟩;rw[Z9,oV_get];exact k
theorem Z0:YX ["sizes","rule","sign_size","size","part","more"] ["sizes","rule","sign_size"] (YQ Xs):=⟨Z,Z,Z,by decide +kernel,Z,by decide +kernel,by decide +kernel⟩
theorem YC9 {f:Addr}{fd:FuncData} (F:Fun K "size_of_rule" "size_of_rule" Xs f fd) (T:Txt K mg C) (cP:Zc P w K mg CX0 1 "size_of_part" ["sizes","part","sign_size"] (YI5)):Yt P w K mg base CX0 2 f fd ["sizes","rule","sign_size"] (YI6):=by
 obtain⟨tO,sE,jQ,jR,jT,jU⟩:=cP.ok;refine F.ok Z0 (λvs H Q E h=>?_) (λaO A outer s H vs Q E hr h=>?_)
 ·cases h;subst_vars;rfl
 ·obtain⟨d,s,t,q,z,p,ps,w,rfl,hd,ht,hp,k⟩:=h;refine⟨_,(YG (YK (i:=3) Z0.nd rfl (Or.inl rfl) YC)
   (YG (Yq PassesOwn.never rfl (X2 K rfl (YM (YS K rfl) (pv 1) YC (λ_ _=>rfl))) (YU (i:=4) Z0.nd rfl (Or.inl rfl)) (YG (YK (i:=5) Z0.nd rfl (Or.inl rfl) (YZ (jQ base) (hr.mono (by decide)) (by rfl) jR jT jU .nil Yi (YA (pv 0) (YA (pv 4) (YA (pv 2) YB)))))
   (YG (Yx (YW op_isN (pv 5) Xd (Yd _)) (YF (Yc Xd)) Yk)
   (YF (YKL (i:=3) Z0.nd rfl (Or.inl rfl) (pv 5) YKM)))))
   (YF (Yc (pv 3))))),?_⟩
  refine⟨_,Z,t,_,1,_,Z,Z,SqT.of ht,Z,p,Z,⟨_,SqT.of hp⟩,YDI (K:=K) (a:=p) (xs:=ps.map V.str) (λi σ H2=>H2=H/\∃(acc:Int) (v v':Option V),σ=[some (.ref d),some (.ref t),some (.int q),some (.int acc),v,v']/\JG s q ps 1=JG s q (ps.drop i) acc) ⟨Z,1,none,none,Z,Z⟩ ?_ ?_ ?_⟩
  ·rintro i σ H2 _ ⟨rfl,_⟩;exact SqT.of hp
  ·rintro i y σ H2 hi ⟨rfl,acc,v,v',rfl,hz⟩;rw[YLt]at hi;cases e:ps[i]? with
   |none=>rw[e]at hi;cases hi
   |some x=>
    rw[e]at hi;cases hi;have ed:ps.drop i=x :: ps.drop (i + 1):=by
     obtain⟨hlt,hx⟩:=YLv.mp e;rw[YMz hlt,hx]
    rw[ed]at hz;have Qq:JG s q ps 1=match XM s q x with |none=>none |some m=>JG s q (ps.drop (i + 1)) (acc + m):=hz
    refine⟨_,Z,_,Z,_,Z,d,s,x,q,Z,hd,?_⟩;refine⟨_,Z,Z,_,Z,?_⟩;cases e2:XM s q x with
    |none=>
     rw[e2]at Qq;have:YAl s q ps=none:=Qq;rw[this]at k;exact ZG k
    |some m=>
     rw[e2]at Qq;exact ZA ⟨_,Z,_,Z,_,_,Z,Z,Z,_,_,_,Z,Qq⟩
  ·rintro σ H2 ⟨rfl,acc,v,v',rfl,hz⟩;rw[YLp,List.drop_length]at hz;have:YAl s q ps=some acc:=hz;rw[this]at k;exact⟨_,Z,k⟩
theorem ZT:YX ["rules","sign_size","sizes","shrinking","rule","size"] ["rules","sign_size"] (YQ YAC):=⟨Z,Z,Z,by decide +kernel,Z,by decide +kernel,by decide +kernel⟩
theorem YD2 {f:Addr}{fd:FuncData} (F:Fun K "least_sizes" "least_sizes" YAC f fd) (T:Txt K mg C) (cQ:Zc P w K mg CX0 2 "size_of_rule" ["sizes","rule","sign_size"] (YI6)):Yt P w K mg base CX0 3 f fd ["rules","sign_size"] (YHC):=by
 obtain⟨tQ,sG,jV,jW,jX,jY⟩:=cQ.ok;refine F.ok ZT (λvs H Q E h=>?_) (λaO A outer s H vs Q E hr h=>?_)
 ·cases h;subst_vars;rfl
 ·obtain⟨l,xs,g,q,rfl,hl,hds,hg,hq,hp,k⟩:=h;have hu:=Zq hr;have lR:=XX hg;have sU:xs.length=g.length:=by rw[hds.len,YLp]
  refine⟨_,(YG (YK (i:=2) ZT.nd rfl (Or.inl rfl) YB3)
   (YG (YK (i:=3) ZT.nd rfl (Or.inl rfl) XL)
   (YG (Xg PassesOwn.never (JH (pv 3)) (YG (YK (i:=3) ZT.nd rfl (Or.inl rfl) XL)
   (YF (Yq PassesOwn.never rfl (Z7 K rfl (pv 0)) (YU (i:=4) ZT.nd rfl (Or.inl rfl)) (YG (YK (i:=5) ZT.nd rfl (Or.inl rfl) (YZ (jV base) (hr.mono (by decide)) (by rfl) jW jX jY .nil Yi (YA (pv 2) (YA (pv 4) (YA (pv 1) YB)))))
   (YF (Yx (PW.pt (X7 (YW YId (pv 5) Xd (Yd _)) (XQ (PW.pt (YAr (YAq (Xb hu (YM (YS K rfl) (pv 4) YC (λ_ _=>rfl)) (pv 2))) (YAT (YW Xh (pv 5) (ZJ hu (pv 2) (YM (YS K rfl) (pv 4) YC (λ_ _=>rfl)) (λ_ _=>rfl)) (Yd _)))))))) (YG (YAX hu (pv 2) (YM (YS K rfl) (pv 4) YC (λ_ _=>rfl)) (pv 5) rfl)
   (YF (YK (i:=3) ZT.nd rfl (Or.inl rfl) XL))) Yk)))))))
   (YF (Yc (pv 2)))))),?_⟩
  intro d hd;have ndl:d≠l:=λz=>by rw[z,hl]at hd;cases hd
  refine YKR (λσ H2=>∃(s:Sz) (b:Bool) (v4 v5:Option V),H2=upd H d (.dK (szD s))/\YA2 g q s/\(b=false->Fix g q s)/\σ=[some (.ref l),some (.int q),some (.ref d),some (.bl b),v4,v5])
   (λσ H2=>2 * mu g q (unsz (YG9 H2 d)) + (if σ[3]?=some (some (.bl true)) then 1 else 0)) ⟨[],true,none,none,Z,YA2.nil g q,nofun,Z⟩ ?_ ?_
  ·rintro σ H2 ⟨s,b,v4,v5,rfl,hok,Q8,rfl⟩;refine⟨_,Z,b,Z,?_⟩;cases b with
   |false=>
    refine ZA ?_;exact⟨_,Z,k d s _ hok (Q8 rfl) hd rfl⟩
   |true=>
    refine ZG ?_;have hl2:∀{o:HO},upd H d o l=some (.lst xs):=λ{o}=>by rw[YJ ndl.symm];exact hl
    have ekv:∀s,YG9 (upd H d (.dK (szD s))) d=szD s:=λs=>by unfold YG9;rw[YD]
    refine⟨_,Z,l,Z,⟨_,SqL.of hl2⟩,YAH (K:=K) (a:=l) (xs:=xs) (λi σ H2=>∃(s':Sz) (b:Bool) (v4 v5:Option V),H2=upd H d (.dK (szD s'))/\YA2 g q s'/\(b=false->s'=s/\∀r∈g.take i,∀m,YAl s q r.2.1=some m->∃v,look s r.1=some v/\v<=m)/\(b=true->mu g q s' < mu g q s)/\σ=[some (.ref l),some (.int q),some (.ref d),some (.bl b),v4,v5])
     ⟨s,false,v4,v5,Z,hok,(λ_=>⟨Z,λr hr=>by cases hr⟩),nofun,Z⟩ ?_ ?_ ?_⟩
    ·rintro i σ H2 _ ⟨s',b,v4,v5,rfl,_⟩;exact SqL.of hl2
    ·rintro i y σ H2 hi ⟨s',b,v4,v5,rfl,hok',zR,hb1,rfl⟩;obtain⟨r,t,p,er,rfl,ht,hpp⟩:=J5 hds hi;have nt:t≠d:=λz=>by rw[z,hd]at ht;cases ht
     have np:p≠d:=λz=>by rw[z,hd]at hpp;cases hpp
     have hrm:r∈g:=YLu er;have pL:∀{o:HO},upd H d o t=some (.tup [.str r.1,.ref p,.int r.2.2]):=λ{o}=>by rw[YJ nt];exact ht
     have lL:∀{o:HO},upd H d o p=some (.tup (r.2.1.map V.str)):=λ{o}=>by rw[YJ np];exact hpp
     have et:g.take (i + 1)=g.take i ++ [r]:=by rw[YMb,er];rfl
     refine⟨_,Z,_,Z,_,Z,d,s',t,q,r.1,p,r.2.1,r.2.2,Z,YD,pL,lL,?_⟩;refine⟨_,Z,Z,_,Z,?_⟩;have stay:∀(o:Option Int),YAl s' q r.2.1=o->(∀m,o=some m->∃v,look s' r.1=some v/\v<=m)->∃(rT:Sz) (b':Bool) (w4 w5:Option V),upd H d (.dK (szD s'))=upd H d (.dK (szD rT))/\YA2 g q rT/\(b'=false->rT=s/\∀r∈g.take (i + 1),∀m,YAl s q r.2.1=some m->∃v,look s r.1=some v/\v<=m)/\(b'=true->mu g q rT < mu g q s)/\[some (.ref l),some (.int q),some (.ref d),some (.bl b),some (.ref t),some (oV o)]=[some (.ref l),some (.int q),some (.ref d),some (.bl b'),w4,w5]:=λo ho hv=>by
      refine⟨s',b,_,_,Z,hok',λe=>?_,hb1,Z⟩;obtain⟨e1,e2⟩:=zR e;refine⟨e1,λx hx m hm=>?_⟩;rw[et]at hx;rcases YMN.mp hx with hx |hx
      ·exact e2 x hx m hm
      ·have ex:=YL1.mp hx;subst ex;subst e1;exact hv m (ho.symm.trans hm)
     cases e2:YAl s' q r.2.1 with
     |none=>
      refine ZA (ZA ?_);exact stay none e2 λm e=>nomatch e
     |some m=>
      refine ZG ?_;refine⟨_,Z,t,_,0,_,Z,Z,SqT.of pL,Z,_,Z,d,_,Z,Jf.k (k:=Sum.inr r.1) YD,_,Z,?_⟩;rw[Z9];have change:(∀v,look s' r.1=some v->m < v)->∃(rT:Sz) (b':Bool) (w4 w5:Option V),upd H d (.dK (szD (Xz s' r.1 m)))=upd H d (.dK (szD rT))/\YA2 g q rT/\(b'=false->rT=s/\∀r∈g.take (i + 1),∀m,YAl s q r.2.1=some m->∃v,look s r.1=some v/\v<=m)/\(b'=true->mu g q rT < mu g q s)/\[some (.ref l),some (.int q),some (.ref d),some (.bl true),some (.ref t),some (oV (some m))]=[some (.ref l),some (.int q),some (.ref d),some (.bl b'),w4,w5]:=λhlt=>by
       obtain⟨Bf,RJ⟩:=hok'.step hg hq hrm e2 hlt;refine⟨Xz s' r.1 m,true,_,_,Z,Bf,nofun,λ_=>?_,Z⟩;cases b with
       |true=>exact Nat.lt_trans RJ (hb1 rfl)
       |false=>
        obtain⟨e1,_⟩:=zR rfl;subst e1;exact RJ
      have len:(szD s').length < sizeLine:=by
       unfold szD;rw[YLp];exact YL9 (show _ < 1000 by have:=hok'.len;lia) (YH (YLr _))
      have put:YBh (upd H d (.dK (szD s'))) d (.str r.1) (.int m) (upd H d (.dK (szD (Xz s' r.1 m)))):=by
       have:=YBh.k (k:=Sum.inr r.1) (v:=.int m) (YD (H:=H) (a:=d) (o:=.dK (szD s'))) len;rw[YIt hok'.nd,YDG]at this;exact this
      cases e3:look s' r.1 with
      |none=>
       refine ZG (ZG ?_);refine⟨_,Z,_,Z,_,Z,t,_,0,_,Z,Z,SqT.of pL,Z,d,_,Z,put,?_⟩;exact change λv e=>by rw[e3]at e;cases e
      |some v=>
       refine ZA ?_;refine⟨_,Z,_,Z,_,Z,t,_,0,_,Z,Z,SqT.of pL,Z,d,.int v,Z,?_,_,_,Z,Z,_,Z,?_⟩
       ·have:=Jf.k (k:=Sum.inr r.1) (YD (H:=H) (a:=d) (o:=.dK (szD s')));rw[Z9,e3]at this;exact this
       refine JP (λh1=>?_) λh1=>?_
       ·refine⟨_,Z,_,Z,_,Z,t,_,0,_,Z,Z,SqT.of pL,Z,d,_,Z,put,?_⟩;exact change λv' e=>by
         rw[e3]at e;cases e;exact YME h1
       ·have h1':v<=m:=Int.not_lt.mp λz=>h1 (YLw z)
        exact stay (some m) e2 λm' e=>by
         cases e;exact⟨v,e3,h1'⟩
    ·rintro σ H2 ⟨s',b,v4',v5',rfl,hok',zR,hb1,rfl⟩;refine⟨⟨s',b,_,_,Z,hok',λe=>?_,Z⟩,?_⟩
     ·obtain⟨e1,e2⟩:=zR e;subst e1;intro r hr m hm;exact e2 r (by rw[YM6 (by lia)];exact hr) m hm
     ·show 2 * mu g q (unsz (YG9 (upd H d (.dK (szD s'))) d)) + _ < 2 * mu g q (unsz (YG9 (upd H d (.dK (szD s))) d)) + _;rw[ekv,ekv,YD1,YD1];cases b with
      |true=>
       have:=hb1 rfl;show 2 * mu g q s' + 1 < 2 * mu g q s + 1
       lia
      |false=>
       obtain⟨e1,_⟩:=zR rfl;subst e1;show 2 * mu g q s' + 0 < 2 * mu g q s' + 1
       lia
  ·rintro σ H2 Q1 Q2 hQ ⟨x,e1,c,e2,h⟩;exact⟨x,e1,c,e2,hQ _ _ h⟩
end
abbrev YCl:Stmt:=top 34
abbrev XI:Stmt:=top 35
theorem YHD:(["cost"]:List Str).Nodup:=by decide +kernel
def YCG:D->Bool
 |.tup ds=>decide (ds.length=3) && ds.all Y8
 |_=>false
inductive YAm (C:Addr) (vs:List V) (H:Hp) (Q:VK) (E:XK):Prop where
 |mk (x:_) (d:_) (a_:vs=[x]) (bc:Den H x d) (bJ:d.short=true) (cA:YR H) (dm:(YCG d=true->Q x H)) (gM:(YCG d=false->E (.ref C) none H)):YAm C vs H Q E
def YA9 (C:Addr):Sp:=λvs H Q E=>YAm C vs H Q E
section
variable {P:Program}{w:World}{K:W.Frag}{mg:Str->Option Value}{base:Heap}{C:Adr}
theorem YIU:YX ["thing"] ["thing"] (YQ YCl):=⟨Z,Z,Z,by decide +kernel,Z,by decide +kernel,by decide +kernel⟩
theorem YIV {f:Addr}{fd:FuncData} (F:Fun K "is_cost" "is_cost" YCl f fd) (T:Txt K mg C) (cj:Zc P w K mg CX0 1 "is_whole" ["thing"] (Xy YDl)):Yt P w K mg base CX0 2 f fd ["thing"] (Xy Y8):=by
 obtain⟨pQ,nj,gR,gU,gW,gY⟩:=cj.ok;refine F.ok YIU (λvs H Q E h=>?_) (λaO A outer s H vs Q E hr h=>?_)
 ·cases h;subst_vars;rfl
 ·obtain⟨x,d,rfl,den,sh,hp,q⟩:=h;refine⟨_,(YF (Yc (Jw (YZ (gR base) (hr.mono (by decide)) (by rfl) gU gW gY .nil Yi (YA (pv 0) YB)) (Xf (YAu Xi Xi YC (pv 0) (YI YAt YC YC)))))),?_⟩;refine⟨_,Z,x,d,Z,den,sh,hp,_,Z,?_⟩;cases d with
  |int i=>
   have ex:=den.to_int;subst ex;have ev:Y8 (.int i)=(decide (0<=i) && decide (i<=10 ^ 60)):=rfl;refine ZG ?_;refine⟨_,Z,_,_,Z,Z,_,Z,?_⟩;refine JP (λh1=>?_) λh1=>?_
   ·refine⟨_,_,Z,Z,⟨by decide,by decide,by decide⟩,_,_,Z,Z,?_⟩;rw[ev,h1]at q;exact q
   ·have h1':decide (0<=i)=false:=by
     cases hh:decide (0<=i) with
     |false=>rfl
     |true=>exact absurd hh h1
    rw[ev,h1']at q;exact q
  |_=>exact ZA q
theorem YCm:YX ["thing"] ["thing"] (YQ XI):=⟨Z,Z,Z,by decide +kernel,Z,by decide +kernel,by decide +kernel⟩
theorem YCn {f:Addr}{fd:FuncData} (F:Fun K "checked_costs" "checked_costs" XI f fd) (T:Txt K mg C) (jr:Zc P w K mg CX0 2 "is_cost" ["thing"] (Xy Y8)):Yt P w K mg base (CXo P w) 3 f fd ["thing"] (YA9 C.NoCosts):=by
 obtain⟨yF,wC,rG,rH,rJ,rK⟩:=jr.ok;refine F.okX YCm (λvs H Q E h=>?_) (λaO A outer s H vs Q E hr h=>?_)
 ·cases h;subst_vars;rfl
 ·obtain⟨x,d,rfl,den,sh,hp,q1,q2⟩:=h;refine⟨_,(YG (Yx (PW.pt (YAr (Xe (JH (YO (JE K rfl) (by rfl) T.aM YMW (YA (pv 0) (YA (XO (v:=.ty "tuple") (by rfl) T.iI YM2 rfl) YB))))) (YAr (YW YCt (YO (YL K rfl) (by rfl) T.ak YLq (YA (pv 0) YB)) YC (Yd _)) (YAT (Xe (JH (YB5 (YO (YAJ K rfl rfl) (by rfl) T.m7 YM8 (YA (Z3 (N:=["cost"]) (ρ:=[none]) (cl:=[]) rfl (Yj.plain rfl (by decide +kernel) (by decide +kernel) rfl (by simp)) (X2 K rfl (pv 0)) (λ_ _ _ _ _=>(YU (i:=0) YHD rfl (Or.inl rfl) (.inr rfl))) (λ_ _ _ _ _=>Zh) (λ_ _ _ _ _=>(YZ (rG base) (hr.mono (by decide)) (by rfl) rH rJ rK .nil Yi (YA (pv 0) YB)))) YB))))))))) (YF (YAv JQ T.qQ rfl (by rfl) T.qO (YA ZH YB))) Yk)
   (YF (Yc (pv 0)))),?_⟩
  refine⟨_,Z,_,_,_,_,_,Z,den.ty,Z,YCa d,_,Z,?_⟩;cases d with
  |tup ds=>
   obtain⟨a,xs,rfl,ha,hds⟩:=den.to_tup;have hl:xs.length=ds.length:=hds.len;have shS:XH ds=true:=by unfold D.short at sh;exact sh
   refine ZA ?_;refine⟨_,Z,a,xs,Z,.inr (SqT.of ha),Z,_,Z,?_⟩
   by_cases h3:ds.length=3
   ·have e3:decide (V.int (xs.length:Int)=V.int 3)=true:=YLw (by rw[hl,h3];rfl);rw[e3];refine ZA ?_;refine⟨hp,_,Z,a,Z,⟨xs,SqT.of ha⟩,λl qM=>?_⟩;refine Zf (n:=xs.length) 0 (λk y _=>∃d,ds[k]?=some d/\y=.bl (Y8 d)) (YBO (SqT.of ha)) (λ_ _ _ _ _ h=>h) hp qM YM3 (YH (by lia)) (λτ'=>0 < τ'.length) YM3 (λτ' v h=>by rw[YNK];exact h) ?_ ?_
    ·intro τ' k y H' R _ hτ hit hk hs hp' lU hR;obtain⟨d,hd,dn⟩:=hds.get hit;exact⟨_,hτ,y,d,Z,dn.same hs,JX shS (YLu hd),hp',hR _ _ (YN.refl _) hp' ⟨d,hd,Z⟩⟩
    ·intro ys H' hy hP hs hp' hl';have e2:ys=(ds.map Y8).map V.bl:=YH8 (by rw[hy,hl]) hP;refine⟨l,ds.map Y8,Z,.inl (.inl (by rw[hl',e2])),hs,_,Z,?_⟩;rw[Xn];have ev:YCG (.tup ds)=ds.all Y8:=by
      show(decide (ds.length=3) && ds.all Y8)=_;rw[YLw h3];rfl
     rw[ev]at q1 q2;cases hall:ds.all Y8 with
     |false=>exact ZG ⟨YH (by decide),q2 hall⟩
     |true=>exact ZA ⟨_,Z,q1 hall⟩
   ·have e3:decide (V.int (xs.length:Int)=V.int 3)=false:=YLz (λe=>h3 (by have:=V.int.inj e;lia));rw[e3];refine ZG (ZG ⟨YH (by decide),q2 ?_⟩);show(decide (ds.length=3) && ds.all Y8)=false;rw[YLz h3];rfl
  |_=>exact ZG (ZG ⟨YH (by decide),q2 rfl⟩)
end
abbrev Jm:Stmt:=Zb (top 37) 0
abbrev J1:Stmt:=Zb (top 37) 1
abbrev Jn:Stmt:=Zb (top 37) 2
abbrev JY:Stmt:=Zb (top 37) 3
abbrev Zi:Stmt:=Zb (top 37) 4
abbrev JB:Stmt:=Zb (top 37) 5
abbrev J2:Stmt:=Zb (top 37) 6
abbrev JK:Stmt:=Zb (top 37) 7
abbrev Zu:Stmt:=Zb (top 37) 8
abbrev Jo:Stmt:=Zb (top 37) 9
abbrev JL:Stmt:=Zb (top 37) 10
abbrev YF2:Stmt:=top 38
theorem Xt:(["begin","end","self","sign"]:List Str).Nodup:=by decide +kernel
def YAN (p:Str):Str:=⟨#[(p.cps[1]?).getD 0]⟩
def YBA (c t:Str) (b e:Nat):Bool:=!(Builtin.Str.occurrences (Txt.slice t (some (b:Int)) (some (e:Int))) c 0 (Txt.slice t (some (b:Int)) (some (e:Int))).length 1).isEmpty
def sgT (t:Str) (put cut swap:Int) (p:Str) (b e:Nat):Int:=if e<=b then put else (if ((e:Int) - b - 1) * cut + (if YBA (YAN p) t b e=true then 0 else swap) < ((e:Int) - b) * cut + put then ((e:Int) - b - 1) * cut + (if YBA (YAN p) t b e=true then 0 else swap) else ((e:Int) - b) * cut + put)
inductive YC1 (C:Addr) (vs:List V) (H:Hp) (Q:VK):Prop where
 |mk (T:Tol) (p:Str) (b e:Nat) (a_:vs=[.ref T.x,.str p,.int b,.int e]) (bc:H T.x=some (.ins C T.dx T.fld)) (bJ:b<=e) (cA:e<=T.n) (dm:T.n<=60) (gM:T.t.length=T.n) (lq:p.length=2) (m6:T.cut.natAbs < 2 ^ 4000) (ug:Q (.int (sgT T.t T.put T.cut T.swap p b e)) H):YC1 C vs H Q
def YD3 (C:Addr):Sp:=λvs H Q E_=>YC1 C vs H Q
def YBB (H H':Hp) (a:Addr) (rows:Nat->List Int) (N:Nat):Prop:=H a=none/\∃bs:List Addr,H' a=some (.lst (bs.map V.ref))/\bs.length=N/\∀(i:Nat) (c:Addr),bs[i]?=some c->H c=none/\c≠a/\H' c=some (.lst ((rows i).map V.int))/\∀j,bs[j]?=some c->j=i
theorem YHE {ys:List V}{n:Nat}{f:Nat->V} (hl:ys.length=n) (h:∀(k:Nat) (y:V),ys[k]?=some y->y=f k):ys=(List.range n).map f:=by
 apply YNV;intro i;rw[YLt];rcases YMt i n with hi |hi
 ·rw[YMh hi];have:=YLs (show i < ys.length by lia);rw[this];exact YMw some (h i _ this)
 ·rw[YMf (by lia),YMf (by rw[YMH];exact hi)];rfl
theorem YBB.snoc {H H':Hp}{a:Addr}{rows:Nat->List Int}{N:Nat}{bs:List Addr}{c:Addr} (h1:H a=none) (h2:H' a=some (.lst (bs.map V.ref))) (h3:bs.length=N)
  (h4:∀(i:Nat) (c:Addr),bs[i]?=some c->H c=none/\c≠a/\H' c=some (.lst ((rows i).map V.int))/\∀j,bs[j]?=some c->j=i) (hc:H c=none) (hca:c≠a) (hc2:H' c=some (.lst ((rows N).map V.int))) (hnew:∀i:Nat,bs[i]?≠some c):
  YBB H (upd H' a (.lst ((bs ++ [c]).map V.ref))) a rows (N + 1):=by
 refine⟨h1,bs ++ [c],YD,by rw[YLy,h3];rfl,λi c' hc'=>?_⟩;have at_:∀(j:Nat) (Qs:Addr),(bs ++ [c])[j]?=some Qs->(bs[j]?=some Qs/\j < N)\/(j=N/\Qs=c):=λj Qs e=>by
  rcases YMt j bs.length with hj |hj
  ·rw[YMs hj]at e;exact .inl ⟨e,by lia⟩
  ·rw[YMd hj]at e;have:j - bs.length=0:=by
    have:=(YLv.mp e).1;simp only[YL8,YNB]at this
    lia
   rw[this]at e;cases e;exact .inr ⟨by lia,Z⟩
 rcases at_ i c' hc' with ⟨e1,e2⟩ |⟨rfl,rfl⟩
 ·obtain⟨g1,g2,g3,g4⟩:=h4 i c' e1;refine⟨g1,g2,by rw[YJ g2];exact g3,λj ej=>?_⟩;rcases at_ j c' ej with ⟨k1,k2⟩ |⟨_,k2⟩
  ·exact g4 j k1
  ·rw[k2]at e1;exact absurd e1 (hnew i)
 ·refine⟨hc,hca,by rw[YJ hca];exact hc2,λj ej=>?_⟩;rcases at_ j c' ej with ⟨k1,_⟩ |⟨k1,_⟩
  ·exact absurd k1 (hnew j)
  ·exact k1
inductive YD4 (C:Addr) (vs:List V) (H:Hp) (Q:VK):Prop where
 |mk (T:Tol) (p:Str) (a_:vs=[.ref T.x,.str p]) (bc:H T.x=some (.ins C T.dx T.fld)) (bJ:T.n<=60) (cA:T.t.length=T.n) (dm:p.length=2) (gM:T.cut.natAbs < 2 ^ 4000) (lq:YR H) (m6:∀a H',YN H H'->YR H'->YBB H H' a (ovR (sgT T.t T.put T.cut T.swap) p) (T.n + 1)->Q (.ref a) H'):YD4 C vs H Q
def YFI (C:Addr):Sp:=λvs H Q E_=>YD4 C vs H Q
inductive YD5 (C:Addr) (vs:List V) (H:Hp) (Q:VK):Prop where
 |mk (T:Tol) (t p:Addr) (r:Yp) (a_:vs=[.ref T.x,.ref t]) (bc:H T.x=some (.ins C T.dx T.fld)) (bJ:Rd H T.ab (.dK (szD T.s))) (cA:H t=some (.tup [.str r.1,.ref p,.int r.2.2])) (dm:H p=some (.tup (r.2.1.map V.str))) (gM:Q (.int (rch T.s r.2.1)) H):YD5 C vs H Q
def YFJ (C:Addr):Sp:=λvs H Q E_=>YD5 C vs H Q
theorem YLQ {s:Sz}:∀{ps:List Str}{i:Nat}{p:Str},(∀p∈ps.take i,okP s p=true)->ps[i]?=some p->okP s p=false->rch s ps=i
 |[],i,p,_,e,_=>by cases e
 |c :: ps,0,p,_,e,hp=>by
  cases e;exact if_neg (by rw[hp];exact YL7)
 |c :: ps,i + 1,p,h,e,hp=>by
  have hc:=h c (by simp);have e1:rch s (c :: ps)=rch s ps + 1:=if_pos hc;rw[e1,YLQ (λx hx=>h x (by rw[List.take_succ_cons];exact YL6 _ hx)) (by simpa using e) hp]
section
variable {P:Program}{w:World}{K:W.Frag}{mg:Str->Option Value}{base:Heap}{C:Adr}
theorem Zj:YX ["self","sign","begin","end","many","toll","change"] ["self","sign","begin","end"] (YQ JY):=⟨Z,Z,Z,by decide +kernel,Z,by decide +kernel,by decide +kernel⟩
theorem YBZ {f:Addr}{fd:FuncData} (F:Fun K "sign_toll" "Toller.sign_toll" JY f fd) (T:Txt K mg C):Yt P w K mg base CX0 1 f fd ["self","sign","begin","end"] (YD3 C.Toller):=by
 refine F.ok Zj (λvs H Q E h=>?_) (λaO A outer s H vs Q E hr h=>?_)
 ·cases h;subst_vars;rfl
 ·obtain⟨S,p,b,e,rfl,hx,hbe,hen,hn,vY,lL,hc,q⟩:=h;have hu:=Zq hr;refine qex ?_;refine⟨_,(YE ⟨(YK (i:=4) Zj.nd rfl (Or.inl rfl) (YI JI (pv 3) (pv 2)))⟩
   (YE ⟨(YK (i:=5) Zj.nd rfl (Or.inl rfl) (YI Ye (YI XU (pv 4) (YY K rfl (pv 0) rfl)) (YY K rfl (pv 0) rfl)))⟩
   (YE ⟨(Yx (YW Jd (pv 4) YC (Yd _)) (YF (Yc (pv 5))) Yk)⟩
   (YE ⟨(YK (i:=6) Zj.nd rfl (Or.inl rfl) (YAG (YW YJX (YM Zt (pv 1) YC (λ_ _=>rfl)) (Zy YFo (YY K rfl (pv 0) rfl) (ZZ (pv 2)) (ZZ (pv 3))) (by with_unfolding_all rfl)) YC (YY K rfl (pv 0) rfl)))⟩
   (Y1 ⟨(Yc (YO (YBN rfl) (by rfl) T.m8 YM7 (YA (pv 5) (YA (YI Ye (YI XU (YI JI (pv 4) YC) (YY K rfl (pv 0) rfl)) (pv 6)) YB))))⟩))))),?_⟩
  have hlt:∀i:Int,0<=i->i<=60->i.natAbs < 2 ^ 4000:=λi h1 h2=>YNN (show i.natAbs<=60 by lia) (YL9 (by decide:60 < 2 ^ 6) (Nat.pow_le_pow_right (by decide) (by decide)))
  obtain⟨m,hm⟩:∃m:Int,(e:Int) - b=m:=⟨_,Z⟩;refine⟨_,Z,_,Z,_,_,Z,Z,?_⟩;refine⟨_,Z,_,Z,S.x,C.Toller,S.dx,_,_,Z,hx,T.aa,T.bf,Z,_,_,Z,Z,⟨hlt _ (by lia) (by lia),hc⟩,_,Z,S.x,C.Toller,S.dx,_,_,Z,hx,T.aa,T.dh,Z,_,_,Z,Z,?_⟩;refine⟨_,Z,Z,_,Z,?_⟩;unfold sgT at q;refine JP (λh1=>?_) λh1=>?_
  ·have h1:((e:Int) - b)=0:=V.int.inj (YME h1);rw[if_pos (by lia)]at q;refine⟨_,Z,?_⟩;have e0:((e:Int) - b) * S.cut + S.put=S.put:=by rw[h1,Int.zero_mul,YMk]
   show Q (.int (((e:Int) - b) * S.cut + S.put)) H;rw[e0];exact q
  ·have h1':¬b=e:=λz=>h1 (YLw (by rw[z];show V.int _=_;rw[Int.sub_self]))
   rw[if_neg (show ¬e<=b by lia)]at q;obtain⟨c,ec⟩:∃c,p.cps[1]?=some c:=⟨_,Array.getElem?_eq_getElem (show 1 < p.cps.size by have:p.cps.size=2:=lL;lia)⟩;have es:YAN p=⟨#[c]⟩:=by unfold YAN;rw[ec];rfl
   have line:∀k:Nat,k<=60->k<=sizeLine:=λk hk=>YMP hk (YH (by decide))
   refine⟨_,Z,p,1,c,Z,Z,line _ (by lia),Yn (j:=1) (by rw[YMq];exact ec),_,Z,S.x,C.Toller,S.dx,_,_,Z,hx,T.aa,T.bh,Z,_,Z,_,Z,_,Z,_,Z,_,Z,line _ (by lia),_,_,Z,Z,_,Z,?_⟩;have fin:∀ch:Int,(if YBA (YAN p) S.t b e=true then 0 else S.swap)=ch->Q (.int (if ((e:Int) - b - 1) * S.cut + ch < ((e:Int) - b) * S.cut + S.put then ((e:Int) - b - 1) * S.cut + ch else ((e:Int) - b) * S.cut + S.put)) H:=λch z=>by rw[z]at q;exact q
   rw[es]at fin;refine JP (λh2=>?_) λh2=>?_
   ·refine⟨_,Z,_,Z,_,_,Z,Z,_,Z,S.x,C.Toller,S.dx,_,_,Z,hx,T.aa,T.bf,Z,_,_,Z,Z,⟨hlt _ (by lia) (by lia),hc⟩,_,Z,_,_,Z,Z,_,_,Z,?_⟩;exact fin 0 (if_pos h2)
   ·refine⟨_,Z,S.x,C.Toller,S.dx,_,_,Z,hx,T.aa,T.d_,Z,?_⟩;refine⟨_,Z,_,Z,_,_,Z,Z,_,Z,S.x,C.Toller,S.dx,_,_,Z,hx,T.aa,T.bf,Z,_,_,Z,Z,⟨hlt _ (by lia) (by lia),hc⟩,_,Z,_,_,Z,Z,_,_,Z,?_⟩;exact fin S.swap (if_neg h2)
theorem JC:YX ["self","sign","table","end"] ["self","sign"] (YQ Zi):=⟨Z,Z,Z,by decide +kernel,Z,by decide +kernel,by decide +kernel⟩
theorem YBC {f:Addr}{fd:FuncData} (F:Fun K "sign_table" "Toller.sign_table" Zi f fd) (T:Txt K mg C) (bK:XA P w K mg CX0 1 C.Toller "sign_toll" ["self","sign","begin","end"] (YD3 C.Toller)):Yt P w K mg base CX0 2 f fd ["self","sign"] (YFI C.Toller):=by
 obtain⟨pY,pC,g8,gm,g_⟩:=bK.ok;refine F.ok JC (λvs H Q E h=>?_) (λaO A outer s H vs Q E hr h=>?_)
 ·cases h;subst_vars;rfl
 ·obtain⟨S,p,rfl,hx,hn,vY,lL,Q9,hp,q⟩:=h;have hu:=Zq hr;refine qex ?_;refine⟨_,(YE (JW (i:=2) JC.nd rfl (Or.inl rfl) (YDk YDj))
   (YE ⟨(Yq PassesOwn.never rfl (Y7 rfl T.aG (YA (YI Ye (YO Yz (by rfl) T.ak YLq (YA (YY K rfl (pv 0) rfl) YB)) YC) YB)) (YU (i:=3) JC.nd rfl (Or.inr rfl)) (YF (Yr (ZO K rfl YMC YML YMK Y0 (pv 2) (YA (Z3 (N:=["begin","end","self","sign"]) (ρ:=[none,some 3,some 0,some 1]) rfl (Yj.closes ["self","sign","table","end"] (YQ Zi).names rfl rfl rfl rfl (by decide +kernel) (by decide +kernel) (λx h=>Jg h) (by decide +kernel) rfl (by decide +kernel)) (Y7 rfl T.aG (YA (YI Ye (pv 3) YC) YB)) (λ_ _ _ _ _=>(YU (i:=0) Xt rfl (Or.inl rfl) (.inr rfl))) (λ_ _ _ _ _=>Zh) (λ_ _ _ _ _=>(Zs (pv 2) T.aa gm (g8 base) (hr.mono (by decide)) g_ .nil Yi (YA (pv 3) (YA (pv 0) (YA (pv 1) YB)))))) YB)))))⟩
   (Y1 ⟨(Yc (pv 2))⟩))),?_⟩
  have line:∀k:Nat,k<=61->k<=sizeLine:=λk hk=>YMP hk (YH (by decide))
  refine⟨YMI _,λa ha=>?_⟩;have hxa:S.x≠a:=Ya hx ha;have hx1:∀{o:HO},upd H a o S.x=some (.ins C.Toller S.dx S.fld):=λ{o}=>by rw[YJ hxa];exact hx
  refine⟨_,Z,S.x,C.Toller,S.dx,_,_,Z,hx1,T.aa,T.bh,Z,_,Z,line _ (by lia),_,_,Z,Z,((S.n + 1:Nat):Int),by rw[vY];rfl,by lia,by lia,?_⟩;refine ZI (lo:=0) (n:=S.n + 1) (λi σ H2=>∃(bs:List Addr) (v3:Option V),σ=[some (.ref S.x),some (.str p),some (.ref a),v3]/\YN H H2/\YR H2/\H2 a=some (.lst (bs.map V.ref))/\bs.length=i/\
    ∀(j:Nat) (c:Addr),bs[j]?=some c->H c=none/\c≠a/\H2 c=some (.lst ((ovR (sgT S.t S.put S.cut S.swap) p j).map V.int))/\∀j',bs[j']?=some c->j'=j)
   ⟨[],none,Z,YN.upd ha,hp.upd rfl,YD,Z,λj c e=>by cases e⟩ ?_ ?_
  ·rintro i σ H2 hi ⟨bs,v3,rfl,s2,p2,h2,hl,hb⟩;refine⟨_,Z,.inl ⟨Z,_,SqL.of h2⟩,_,Z,_,_,Z,Z,((i + 1:Nat):Int),by rw[YMk];rfl,by lia,by lia,λc hc=>?_⟩;have hca:c≠a:=λz=>by rw[z,h2]at hc;cases hc
   refine Zf (n:=i + 1) 0 (λk y _=>y=.int (sgT S.t S.put S.cut S.swap p k i)) Je (λ_ _ _ _ _ h=>h) p2 hc (show 0 < 4 by decide) (line _ (by lia)) (λτ'=>∃v,τ'=[v,some (.int (0 + (i:Int))),some (.ref S.x),some (.str p)]) ⟨_,Z⟩ (λτ' v ⟨_,e⟩=>⟨v,by rw[e];rfl⟩) ?_ ?_
   ·rintro τ' k y H' R ⟨v,rfl⟩ hτ rfl hk hs hp' lU hR;cases hτ;have hx2:=hs _ _ (s2 _ _ hx);refine⟨_,Z,S.x,S.dx,_,Z,hx2,Z,_,Z,_,Z,_,Z,S,p,k,i,by rw[YMk,YMk];rfl,hx2,by lia,by lia,hn,vY,lL,Q9,hR _ _ (YN.refl _) hp' rfl⟩
   ·intro ys H' hy hP hs hp' hl';have ey:ys=(ovR (sgT S.t S.put S.cut S.swap) p i).map V.int:=by
     unfold ovR;rw[YNG];exact YHE hy hP
    rw[ey]at hl';refine⟨a,_,_,Z,Z,hs _ _ h2,YL9 (show(bs.map V.ref).length < 1000 by rw[YLp];lia) (YH (YLr _)),?_⟩;have e3:bs.map V.ref ++ [V.ref c]=(bs ++ [c]).map V.ref:=by rw[YL2];rfl
    rw[e3];obtain⟨t1,W8,t2,t3,t4⟩:=YBB.snoc (rows:=ovR (sgT S.t S.put S.cut S.swap) p) (N:=i) ha (hs _ _ h2) hl (λj c hj=>⟨(hb j c hj).1,(hb j c hj).2.1,hs _ _ (hb j c hj).2.2.1,(hb j c hj).2.2.2⟩) (s2.free hc) hca hl' λj hj=>by rw[(hb j c hj).2.2.1]at hc;cases hc
    exact⟨W8,_,Z,(s2.trans hs).put ha,hp'.upd rfl,t2,t3,t4⟩
  ·rintro σ H2 ⟨bs,v3,rfl,s2,p2,h2,hl,hb⟩;exact⟨_,Z,q a H2 s2 p2 ⟨ha,bs,h2,hl,hb⟩⟩
theorem Zv:YX ["self","rule","reach","part"] ["self","rule"] (YQ Jn):=⟨Z,Z,Z,by decide +kernel,Z,by decide +kernel,by decide +kernel⟩
theorem YBp {f:Addr}{fd:FuncData} (F:Fun K "reach_of" "Toller.reach_of" Jn f fd) (T:Txt K mg C):Yt P w K mg base CX0 1 f fd ["self","rule"] (YFJ C.Toller):=by
 refine F.ok Zv (λvs H Q E h=>?_) (λaO A outer s H vs Q E hr h=>?_)
 ·cases h;subst_vars;rfl
 ·obtain⟨S,t,p,r,rfl,hx,hab,ht,hp,q⟩:=h;have hu:=Zq hr;refine qex ?_;refine⟨_,(YE (JW (i:=2) Zv.nd rfl (Or.inl rfl) YA1)
   (YE ⟨(Yq PassesOwn.never rfl (X2 K rfl (YM (YS K rfl) (pv 1) YC (λ_ _=>rfl))) (YU (i:=3) Zv.nd rfl (Or.inl rfl)) (YG (Yx (PW.pt (X7 (Xe (JH (ZO K rfl YNL YNJ YNI Z5 (pv 3) (YA ZH YB)))) (XQ (YAq (Xb hu (pv 3) (YY K rfl (pv 0) rfl)))))) (YF YKH) Yk)
   (YF (YKL (i:=2) Zv.nd rfl (Or.inl rfl) YC YKM))))⟩
   (Y1 ⟨(Yc (pv 2))⟩))),?_⟩
  refine⟨_,Z,t,_,1,_,Z,Z,SqT.of ht,Z,p,Z,⟨_,SqT.of hp⟩,YDI (K:=K) (a:=p) (xs:=r.2.1.map V.str) (λi σ H2=>H2=H/\(∀p∈r.2.1.take i,okP S.s p=true)/\∃v,σ=[some (.ref S.x),some (.ref t),some (.int i),v]) ⟨Z,(λx hx=>by rw[YM9]at hx;cases hx),none,Z⟩ ?_ ?_ ?_⟩
  ·rintro i σ H2 _ ⟨rfl,_⟩;exact SqT.of hp
  ·rintro i y σ H2 hi ⟨rfl,lM,v,rfl⟩;rw[YLt]at hi;cases e:r.2.1[i]? with
   |none=>rw[e]at hi;cases hi
   |some c=>
    rw[e]at hi;cases hi;refine⟨_,Z,Z,_,_,Z,Z,_,Z,?_⟩;have more:okP S.s c=true->∀p∈r.2.1.take (i + 1),okP S.s p=true:=λhc x hx=>by
     rw[YMb,e]at hx;rcases YMN.mp hx with hx |hx
     ·exact lM x hx
     ·rw[YL1.mp hx];exact hc
    cases hq:isQ c with
    |true=>
     have hq':Txt.startswith c "'"=true:=hq;rw[hq'];refine ZA (ZA ⟨_,Z,_,_,Z,Z,?_⟩);exact⟨Z,more (by unfold okP;rw[hq];rfl),_,Z⟩
    |false=>
     have hq':Txt.startswith c "'"=false:=hq;rw[hq'];refine ZG ⟨_,Z,_,Z,S.x,C.Toller,S.dx,_,_,Z,hx,T.aa,T.bj,Z,S.ab,_,Z,.inl ⟨_,Sum.inr c,hab,Z,Z⟩,_,Z,?_⟩;rw[Z9];cases hlk:look S.s c with
     |none=>
      refine ZG ⟨_,Z,?_⟩;have:=YLQ lM e (by unfold okP;rw[hq,hlk];rfl);rw[this]at q;exact q
     |some v'=>
      refine ZA ⟨_,Z,_,_,Z,Z,?_⟩;exact⟨Z,more (by unfold okP;rw[hlk,hq];rfl),_,Z⟩
  ·rintro σ H2 ⟨rfl,lM,v,rfl⟩;refine⟨_,Z,?_⟩;rw[YLp];rw[YLp,YMn]at lM;rw[YA6 lM]at q;exact q
end
theorem YIW:(["end"]:List Str).Nodup:=by decide +kernel
theorem YF3:(["begin"]:List Str).Nodup:=by decide +kernel
theorem YI7 (z:Str):isQ z=decide (z.cps.toList[0]?=some 39):=by
 have e0:(("'":Str))=⟨#[39]⟩:=by decide +kernel
 unfold isQ;rw[e0,YNC,YMa];have:=StrLaws.subAt_one z 39 0;unfold Txt.startswith;rw[YL5,YMa];exact this
theorem YBT {z:Str} (h:isNameS z=true):isQ z=false:=by
 rw[YI7];refine YLz λe=>?_
 unfold isNameS at h;rw[YL5]at h;have:=YMR.mp h.2 39 (YLu e);exact absurd this (by decide)
theorem YHF {z:Str} (h:Yo z=true) (hq:isQ z=true):z.length=2:=by
 unfold Yo at h;cases hs:XV z with
 |true=>
  unfold XV at hs;rw[YL5,YL5,beq_iff_eq]at hs;exact hs.1.1
 |false=>
  rw[hs,YNF]at h;rw[YBT h]at hq;cases hq
theorem J3 {g:Yl} (h:Yu g=true) {r:Yp} (hr:r∈g):isNameS r.1=true/\r.2.1.length<=6/\∀p∈r.2.1,Yo p=true:=by
 unfold Yu at h;rw[YL5]at h;have:=YMR.mp h.2 r hr;unfold JJ at this;rw[YL5,YL5,YL5,YMa]at this;exact⟨this.1,this.2.1.1,λp hp=>YMR.mp this.2.1.2 p hp⟩
theorem YDP {α:Type}{l:List α} (nd:l.Nodup) {i:Nat}{h:α} (e:l[i]?=some h):h∉l.take i:=λhm=>by
 obtain⟨hi,e⟩:=YLv.mp e;rw[<-List.take_append_drop i l,List.nodup_append]at nd;refine nd.2.2 h hm h ?_ rfl;rw[YMz hi,e];exact YMG ..
theorem YD6:∀{xs ys:List Addr},xs.map V.ref=ys.map V.ref->xs=ys
 |[],[],_=>rfl
 |[],_ :: _,h=>by cases h
 |_ :: _,[],h=>by cases h
 |x :: xs,y :: ys,h=>by
  injection h with h1 h2
  rw[V.ref.inj h1,YD6 h2]
def ovO (T:Tol):OvF:=λp b e=>if isQ p=true then sgT T.t T.put T.cut T.swap p b e else 0
def noF:FiF:=λ_ _ _ _=>0
def noK:Nat->Nat->Nat->Nat:=λ_ _ _=>0
section
variable {T:Tol}{own bB:Addr->Option XE}{ps:List Str}{H0 H H':Hp}{O:OvF}{F:FiF}{K:Nat->Nat->Nat->Nat}
theorem TSt.lay (S:TSt T own ps H0 H O F K) (s:YN H H') (p:YR H') (h1:∀a,H a≠none->bB a=own a) (h2:∀a u,bB a=some u->own a=some u\/(H a=none/\∃xs:List V,H' a=some (.lst xs))) (h3:∀a a' u,bB a=some u->bB a'=some u->a=a'):
  TSt T bB ps H0 H' O F K:=by
 obtain⟨kvs,a1,a2,a3⟩:=S.hao;obtain⟨ts,b1,b2,b3,b4⟩:=S.haf;obtain⟨o,ho⟩:=S.hab;have old:∀a w,H a=some w->bB a=own a:=λa w e=>h1 a (by rw[e];exactλz=>nomatch z)
 refine⟨p,S.sm.trans s,s _ _ S.hx,S.hl,S.hds,⟨o,s _ _ ho⟩,⟨kvs,s _ _ a1,a2,λq hq=>?_⟩,⟨ts,by rw[old _ _ b2];exact b1,s _ _ b2,b3,λr t ρ e1 e2=>?_⟩,λa u h=>?_,h3⟩
 ·obtain⟨a,bs,g1,g2,g3,g4,g5⟩:=a3 q hq;exact⟨a,bs,g1,by rw[old _ _ g3];exact g2,s _ _ g3,g4,λe c hc=>⟨by rw[old _ _ (g5 e c hc).2];exact(g5 e c hc).1,s _ _ (g5 e c hc).2⟩⟩
 ·obtain⟨ds,g1,g2,g3,g4⟩:=b4 r t ρ e1 e2;refine⟨ds,by rw[old _ _ g2];exact g1,s _ _ g2,g3,λd u hu=>?_⟩;obtain⟨es,k1,k2,k3,k4⟩:=g4 d u hu;exact⟨es,by rw[old _ _ k2];exact k1,s _ _ k2,k3,λb c hc=>⟨by rw[old _ _ (k4 b c hc).2];exact(k4 b c hc).1,s _ _ (k4 b c hc).2⟩⟩
 ·rcases h2 a u h with h |⟨h,ns,e⟩
  ·obtain⟨h',ns,e⟩:=S.on a u h;exact⟨h',ns,s _ _ e⟩
  ·exact⟨S.sm.free h,ns,e⟩
theorem TSt.addOv (S:TSt T own ps H0 H O F K) {p:Str} (hp:p∉ps) {a:Addr} (h:OvAt H own T.n O p (some (.ref a))) {kvs:List (Key×V)} (hk:H T.ao=some (.dK kvs)) (hn:H0 T.ao=none):
  TSt T own (ps ++ [p]) H0 (upd H T.ao (.dK (Za kvs (Sum.inr p) (.ref a)))) O F K:=by
 obtain⟨kvs',a1,a2,a3⟩:=S.hao;rw[hk]at a1;cases a1;obtain⟨ts,b1,b2,b3,b4⟩:=S.haf;obtain⟨o,ho⟩:=S.hab;have st:∀b w,(∀kvs,w≠.dK kvs)->H b=some w->upd H T.ao (.dK (Za kvs (Sum.inr p) (.ref a))) b=some w:=λb w hw e=>by
  rw[YJ (λz=>by rw[z,hk]at e;exact hw _ (YMO e).symm)];exact e
 have kp:∀{b:Addr}{xs:List V},H b=some (.lst xs)->upd H T.ao (.dK (Za kvs (Sum.inr p) (.ref a))) b=some (.lst xs):=λe=>st _ _ (λ_ z=>nomatch z) e
 have hnone:Zo kvs (Sum.inr p)=none:=by
  cases e:Zo kvs (Sum.inr p) with
  |none=>rfl
  |some y=>
   have:(Sum.inr p:Key)∈kvs.map (·.1):=by
    unfold Zo at e;obtain⟨kv,h1,h2⟩:=YMV.mp e;have:=List.find?_some h1;exact YMD.mpr ⟨kv,YNQ h1,YME this⟩
   rw[a2]at this;obtain⟨q,h1,h2⟩:=YMD.mp this;cases h2;exact absurd h1 hp
 have kO:∀{q:Str}{v:Option V},OvAt H own T.n O q v->OvAt (upd H T.ao (.dK (Za kvs (Sum.inr p) (.ref a)))) own T.n O q v:=λh=>by
  obtain⟨a',bs,g1,g2,g3,g4,g5⟩:=h;exact⟨a',bs,g1,g2,kp g3,g4,λe c hc=>⟨(g5 e c hc).1,kp (g5 e c hc).2⟩⟩
 refine⟨S.pl.upd rfl,S.sm.put hn,st _ _ (λ_ z=>nomatch z) S.hx,S.hl,S.hds,⟨o,st _ _ (λ_ z=>nomatch z) ho⟩,⟨_,YD,?_,λq hq=>?_⟩,⟨ts,b1,kp b2,b3,λr t ρ e1 e2=>?_⟩,λc u hc=>?_,S.uq⟩
 ·rw[L2.YGU _ hnone,YL2,YL2,a2];rfl
 ·rw[YB2]
  by_cases sV:q=p
  ·rw[if_pos (by rw[sV]),sV];exact kO h
  ·rw[if_neg (λz=>sV (Sum.inr.inj z))];rcases YMN.mp hq with hq |hq
   ·exact kO (a3 q hq)
   ·exact absurd (YL1.mp hq) sV
 ·obtain⟨ds,g1,g2,g3,g4⟩:=b4 r t ρ e1 e2;refine⟨ds,g1,kp g2,g3,λd u hu=>?_⟩;obtain⟨es,k1,k2,k3,k4⟩:=g4 d u hu;exact⟨es,k1,kp k2,k3,λb c hc=>⟨(k4 b c hc).1,kp (k4 b c hc).2⟩⟩
 ·obtain⟨h',ns,e⟩:=S.on c u hc;exact⟨h',ns,kp e⟩
theorem TSt.addFi (S:TSt T own ps H0 H O F K) {ρ:Yp} (hr:T.g[T.R]?=some ρ) {t:Addr} (h:FiAt H own T.n F K T.R (rch T.s ρ.2.1) t) {ts:List Addr} (hk:H T.af=some (.lst (ts.map V.ref))) (hn:H0 T.af=none):
  TSt { T with R:=T.R + 1 } own ps H0 (upd H T.af (.lst ((ts ++ [t]).map V.ref))) O F K:=by
 obtain⟨kvs,a1,a2,a3⟩:=S.hao;obtain⟨yM,b1,b2,b3,b4⟩:=S.haf;obtain⟨o,ho⟩:=S.hab;have ets:yM=ts:=by
  rw[hk]at b2;have:=HO.lst.inj (YMO b2);exact(YD6 this).symm
 subst ets;have st:∀b w,(∀xs,w≠.lst xs)->H b=some w->upd H T.af (.lst ((yM ++ [t]).map V.ref)) b=some w:=λb w hw e=>by
  rw[YJ (λz=>by rw[z,hk]at e;exact hw _ (YMO e).symm)];exact e
 have kp:∀{b:Addr}{w:HO},own b≠some .top->H b=some w->upd H T.af (.lst ((yM ++ [t]).map V.ref)) b=some w:=λhb e=>by
  rw[YJ (λz=>hb (by rw[z];exact b1))];exact e
 have n1:∀{b:Addr},own b=none->own b≠some .top:=λh z=>by rw[h]at z;cases z
 have n2:∀{b:Addr}{p e},own b=some (.ov p e)->own b≠some .top:=λh z=>by rw[h]at z;cases z
 have n3:∀{b:Addr}{r d c},own b=some (.fi r d c)->own b≠some .top:=λh z=>by rw[h]at z;cases z
 have kF:∀{r R:Nat}{t':Addr},FiAt H own T.n F K r R t'->FiAt (upd H T.af (.lst ((yM ++ [t]).map V.ref))) own T.n F K r R t':=λh=>by
  obtain⟨ds,g1,g2,g3,g4⟩:=h;refine⟨ds,g1,kp (n1 g1) g2,g3,λd u hu=>?_⟩;obtain⟨es,k1,k2,k3,k4⟩:=g4 d u hu;exact⟨es,k1,kp (n1 k1) k2,k3,λb c hc=>⟨(k4 b c hc).1,kp (n3 (k4 b c hc).1) (k4 b c hc).2⟩⟩
 refine⟨S.pl.upd rfl,S.sm.put hn,st _ _ (λ_ z=>nomatch z) S.hx,S.hl,S.hds,⟨o,st _ _ (λ_ z=>nomatch z) ho⟩,⟨kvs,st _ _ (λ_ z=>nomatch z) a1,a2,λq hq=>?_⟩,⟨_,b1,YD,by rw[YLy,b3];rfl,λr t' ρ' e1 e2=>?_⟩,λc u hc=>?_,S.uq⟩
 ·obtain⟨a',bs,g1,g2,g3,g4,g5⟩:=a3 q hq;exact⟨a',bs,g1,g2,kp (n1 g2) g3,g4,λe c hc=>⟨(g5 e c hc).1,kp (n2 (g5 e c hc).1) (g5 e c hc).2⟩⟩
 ·rcases YMt r yM.length with hlt |hge
  ·rw[YMs hlt]at e1;exact kF (b4 r t' ρ' e1 e2)
  ·rw[YMd hge]at e1;have:r - yM.length=0:=by
    have:=(YLv.mp e1).1;simp only[YL8,YNB]at this
    lia
   rw[this]at e1;cases e1;have er:r=T.R:=by lia
   subst er;have e2:T.g[T.R]?=some ρ':=e2;rw[hr]at e2;cases e2;exact kF h
 ·obtain⟨h',xs,e⟩:=S.on c u hc
  by_cases hca:c=T.af
  ·subst hca;exact⟨h',_,YD⟩
  ·exact⟨h',xs,by rw[YJ hca];exact e⟩
end
theorem YHG {J:It}{n:Nat}{item:Nat->V->Prop}{te:TE}{Q:VK}{H:Hp}{l:Addr}{τ:St} (j0:Nat) (rows:Nat->List Int) (hJ:YAz J n H item) (hp:YR H)
  (hl:H l=none) (hτ:j0 < τ.length) (hz:n<=sizeLine) (keep:St->Prop) (hk0:keep τ) (hks:∀τ' v,keep τ'->keep (τ'.set j0 v))
  (ht:∀(τ':St) (k:Nat) (x:V) (H':Hp) (R:VK),keep τ'->τ'[j0]?=some (some x)->item k x->k < n->YN H H'->YR H'->(∀c H6,YN H' H6->YR H6->H' c=none->H6 c=some (.lst ((rows k).map V.int))->R (.ref c) H6)->te τ' H' R)
  (hq:∀H',YN H H'->YR H'->YBB H H' l rows n->Q (.ref l) H'):YAw J (ZK j0) tYes te Q l τ H:=by
 refine YIk n (λi ys τ' H2=>i<=n/\∃bs:List Addr,ys=bs.map V.ref/\bs.length=i/\j0 < τ'.length/\keep τ'/\YN H H2/\YR H2/\H2 l=some (.lst (bs.map V.ref))/\∀(i:Nat) (c:Addr),bs[i]?=some c->H c=none/\c≠l/\H2 c=some (.lst ((rows i).map V.int))/\∀j,bs[j]?=some c->j=i)
  ⟨YMI _,[],Z,Z,hτ,hk0,YN.upd hl,hp.upd rfl,YD,λi c e=>by cases e⟩ ?_ ?_
 ·rintro i ys τ' H2 N hlt ⟨hi,bs,rfl,W9,hτ',hk',hs,hpl,hll,hb⟩ hN;obtain⟨hgo,_⟩:=hJ i _ hs;obtain⟨h1,h2⟩:=hgo hlt;refine⟨h1,λx H3 hy=>?_⟩;obtain⟨e,it⟩:=h2 x H3 hy;subst e;show te _ _ _;refine ht _ i x _ _ (hks _ _ hk') ?_ it hlt hs hpl λc H6 s6 p6 hc hc6=>?_
  ·rw[YNM hτ']
  ·have yJ:=s6 _ _ hll;have hcl:c≠l:=λz=>by rw[z,hll]at hc;cases hc
   obtain⟨t1,W8,t2,t3,t4⟩:=YBB.snoc (rows:=rows) (N:=i) hl yJ W9 (λj c hj=>⟨(hb j c hj).1,(hb j c hj).2.1,s6 _ _ (hb j c hj).2.2.1,(hb j c hj).2.2.2⟩) (hs.free hc) hcl hc6 λj hj=>by rw[(hb j c hj).2.2.1]at hc;cases hc
   have e3:bs.map V.ref ++ [V.ref c]=(bs ++ [c]).map V.ref:=by rw[YL2];rfl
   have ebs:W8=bs ++ [c]:=by
    rw[YD]at t2;exact(YD6 (HO.lst.inj (YMO t2))).symm
   subst ebs;rw[e3];refine⟨yJ,by rw[YLp];lia,hN _ _ _ ⟨by lia,bs ++ [c],Z,t3,by rw[YNK];exact hτ',hks _ _ hk',(hs.trans s6).put hl,p6.upd rfl,YD,t4⟩⟩
 ·rintro ys τ' H2 ⟨hi,bs,rfl,W9,hτ',hk',hs,hpl,hll,hb⟩;obtain⟨_,hst⟩:=hJ n _ hs;exact⟨hst,hq H2 hs hpl ⟨hl,bs,hll,W9,hb⟩⟩
section
variable {T:Tol}{own bB:Addr->Option XE}{ps:List Str}{H0 H H':Hp}{O:OvF}{F:FiF}{K:Nat->Nat->Nat->Nat}
theorem TSt.free_ (S:TSt T own ps H0 H O F K) {a:Addr} (h:H a=none):own a=none:=by
 cases e:own a with
 |none=>rfl
 |some u=>
  obtain⟨_,xs,e'⟩:=S.on a u e;rw[h]at e';cases e'
theorem TSt.newTab (S:TSt T own ps H0 H O F K) (s:YN H H') (pl:YR H') {a:Addr}{rows:Nat->List Int}{N:Nat} (tb:YBB H H' a rows N) (tg:Nat->XE) (inj:∀i j,tg i=tg j->i=j) (hnew:∀c i,own c≠some (tg i)):
  ∃bB,TSt T bB ps H0 H' O F K/\bB a=none/\(∃bs:List Addr,H' a=some (.lst (bs.map V.ref))/\bs.length=N/\∀(i:Nat) (c:Addr),bs[i]?=some c->bB c=some (tg i)/\H' c=some (.lst ((rows i).map V.int)))/\
   (∀c w,bB c=some w->own c=some w\/∃i,w=tg i)/\∀c,H c≠none->bB c=own c:=by
 obtain⟨ha,bs,h1,h2,h3⟩:=tb;obtain⟨bB,o1,o2⟩:=YI4 own (λc u=>∃i:Nat,bs[i]?=some c/\u=tg i) λc u u' ⟨i,e1,e2⟩ ⟨j,e3,e4⟩=>by
  rw[e2,e4,(h3 i c e1).2.2.2 j e3]
 have out:∀c,H c≠none->bB c=own c:=λc hc=>o2 c λu ⟨i,e1,_⟩=>hc (h3 i c e1).1
 have cs:∀c w,bB c=some w->own c=some w\/∃i:Nat,bs[i]?=some c/\w=tg i:=λc w e=>by
  by_cases hc:∃i:Nat,bs[i]?=some c
  ·obtain⟨i,hi⟩:=hc;rw[o1 c _ ⟨i,hi,Z⟩]at e;cases e;exact .inr ⟨i,hi,Z⟩
  ·rw[o2 c λu ⟨i,e1,_⟩=>hc ⟨i,e1⟩]at e;exact .inl e
 refine⟨bB,S.lay s pl out (λc w e=>?_) (λc c' w e e'=>?_),?_,⟨bs,h1,h2,λi c hc=>⟨o1 c _ ⟨i,hc,Z⟩,(h3 i c hc).2.2.1⟩⟩,λc w e=>(cs c w e).imp id λ⟨i,_,e⟩=>⟨i,e⟩,out⟩
 ·rcases cs c w e with e |⟨i,e1,_⟩
  ·exact .inl e
  ·exact .inr ⟨(h3 i c e1).1,_,(h3 i c e1).2.2.1⟩
 ·rcases cs c w e with e |⟨i,e1,e2⟩
  ·rcases cs c' w e' with e' |⟨j,e3,e4⟩
   ·exact S.uq c c' w e e'
   ·exact absurd (e4 ▸ e) (hnew c j)
  ·rcases cs c' w e' with e' |⟨j,e3,e4⟩
   ·exact absurd (e2 ▸ e') (hnew c' i)
   ·have:i=j:=inj i j (e2.symm.trans e4);subst this;rw[e1]at e3;cases e3;rfl
 ·rw[o2 a λu ⟨i,e1,_⟩=>(h3 i a e1).2.1 rfl];exact S.free_ ha
theorem YBB.del {a t:Addr}{rows:Nat->List Int}{N:Nat} (h:YBB H H' a rows N) (ht:H t≠none):YBB (L2.del H t) (L2.del H' t) a rows N:=by
 obtain⟨ha,bs,h1,h2,h3⟩:=h;have ne:∀{c},H c=none->c≠t:=λhc z=>ht (z ▸ hc)
 refine⟨by rw[Z2 (ne ha)];exact ha,bs,by rw[Z2 (ne ha)];exact h1,h2,λi c hc=>?_⟩;obtain⟨g1,g2,g3,g4⟩:=h3 i c hc;exact⟨by rw[Z2 (ne g1)];exact g1,g2,by rw[Z2 (ne g1)];exact g3,g4⟩
theorem YGz.owns {n r d:Nat}{u:Addr} (h:YGz H own n F K r d u) (s:YN H H') (k:∀c,H c≠none->bB c=own c):YGz H' bB n F K r d u:=by
 obtain⟨es,h1,h2,h3,h4⟩:=h;have kk:∀{c o},H c=some o->bB c=own c:=λe=>k _ (by rw[e];exactλz=>nomatch z)
 exact⟨es,by rw[kk h2];exact h1,s _ _ h2,h3,λe c hc=>⟨by rw[kk (h4 e c hc).2];exact(h4 e c hc).1,s _ _ (h4 e c hc).2⟩⟩
def TgOk (own:Addr->Option XE) (ps:List Str) (R D:Nat):Prop:=(∀c p e,own c=some (.ov p e)->p∈ps)/\∀c r d b,own c=some (.fi r d b)->r < R\/(r=R/\d < D)
end
theorem TSt.more {T:Tol}{own:Addr->Option XE}{ps:List Str}{H0 H H':Hp}{O:OvF}{F:FiF}{K:Nat->Nat->Nat->Nat}{R D:Nat} (S:TSt T own ps H0 H O F K) (tg:TgOk own ps R D) (s:YN H H') (pl:YR H') {a:Addr}{p:Str} (tb:YBB H H' a (ovR O p) (T.n + 1)) (hp:p∉ps)
  {kvs:List (Key×V)} (hk:H T.ao=some (.dK kvs)) (hn:H0 T.ao=none):∃bB,TSt T bB (ps ++ [p]) H0 (upd H' T.ao (.dK (Za kvs (Sum.inr p) (.ref a)))) O F K/\TgOk bB (ps ++ [p]) R D:=by
 obtain⟨bB,S',h1,⟨bs,h2,h3,h4⟩,h5,h6⟩:=S.newTab s pl tb (λe=>.ov p e) (λi j e=>by cases e;rfl) λc i e=>hp (tg.1 c p i e)
 refine⟨bB,S'.addOv hp ⟨a,bs,Z,h1,h2,h3,h4⟩ (s _ _ hk) hn,λc q e hc=>?_,λc r d b hc=>?_⟩
 ·rcases h5 c _ hc with h |⟨i,h⟩
  ·exact YMc _ (tg.1 c q e h)
  ·cases h;exact YMB _ (YL1.mpr rfl)
 ·rcases h5 c _ hc with h |⟨i,h⟩
  ·exact tg.2 c r d b h
  ·cases h
def YD7 (g:Yl) (s:Sz) (ps:List Str):Prop:=ps.Nodup/\(∀p∈ps,okP s p=true)/\(∀h v,look s h=some v->h∈ps)/\(∀ρ∈g,∀p∈ρ.2.1,isQ p=true->p∈ps)/\∀p∈ps,isQ p=true->∃ρ∈g,p∈ρ.2.1
def PsI (g:Yl) (s:Sz) (ps qs:List Str):Prop:=ps.Nodup/\(∀p∈ps,okP s p=true)/\(∀h v,look s h=some v->h∈ps)/\(∀p∈qs,isQ p=true->p∈ps)/\∀p∈ps,isQ p=true->∃ρ∈g,p∈ρ.2.1
theorem PsI.more {g:Yl}{s:Sz}{ps qs:List Str} (h:PsI g s ps qs) {c:Str} (hc:isQ c=true->c∈ps):PsI g s ps (qs ++ [c]):=
 ⟨h.1,h.2.1,h.2.2.1,λp hp hq=>by
  rcases YMN.mp hp with hp |hp
  ·exact h.2.2.2.1 p hp hq
  ·rw[YL1.mp hp]at hq ⊢;exact hc hq,h.2.2.2.2⟩
theorem PsI.new {g:Yl}{s:Sz}{ps qs:List Str} (h:PsI g s ps qs) {c:Str} (hc:c∉ps) (hq:isQ c=true) (hg:∃ρ∈g,c∈ρ.2.1):PsI g s (ps ++ [c]) (qs ++ [c]):=by
 have in1:∀p∈ps ++ [c],p∈ps\/p=c:=λp hp=>(YMN.mp hp).imp id YL1.mp
 refine⟨YBP h.1 hc,λp hp=>?_,λz v hz=>YMc _ (h.2.2.1 z v hz),λp hp hp'=>?_,λp hp hp'=>?_⟩
 ·rcases in1 p hp with hp |rfl
  ·exact h.2.1 p hp
  ·unfold okP;rw[hq];rfl
 ·rcases YMN.mp hp with hp |hp
  ·exact YMc _ (h.2.2.2.1 p hp hp')
  ·exact YMB _ hp
 ·rcases in1 p hp with hp |rfl
  ·exact h.2.2.2.2 p hp hp'
  ·exact hg
theorem YFK:∀{g:Yl},(∀r∈g,r.2.1.length<=6)->(g.flatMap (·.2.1)).length<=6 * g.length
 |[],_=>YLr _
 |r :: g,h=>by
  have h1:=h r (YMG ..);have h2:=YFK λx hx=>h x (YL6 _ hx)
  rw[List.flatMap_cons,YLy,YL8]
  lia
theorem PsI.len {g:Yl}{q:Int}{s:Sz}{ps qs:List Str} (h:PsI g s ps qs) (hg:Yu g=true) (hs:YA2 g q s):ps.length<=420:=by
 have:=YE9 (ys:=s.map (·.1) ++ g.flatMap (·.2.1)) h.1 λp hp=>by
  cases hq:isQ p with
  |true=>
   obtain⟨r,h1,h2⟩:=h.2.2.2.2 p hp hq;exact YMB _ (List.mem_flatMap.mpr ⟨r,h1,h2⟩)
  |false=>
   have:=h.2.1 p hp;unfold okP at this;rw[hq,YNF]at this;obtain⟨v,hv⟩:=YMT.mp this;exact YMc _ (YMD.mpr ⟨_,XC hv,Z⟩)
 have h1:=hs.len;have h2:=YFK (g:=g) λr hr=>(J3 hg hr).2.1
 have h3:=XX hg;rw[YLy,YLp]at this
 lia
theorem YLR {H:Hp}{t:Addr} (h:H t=none):L2.del H t=H:=by
 funext b
 by_cases hb:b=t
 ·rw[hb,YDe,h]
 ·rw[Z2 hb]
theorem YR.del {H:Hp} (h:YR H) (t:Addr):YR (L2.del H t):=λa o e=>h a o (ZD H t a o e)
structure YCo (C:Addr) (T:Tol):Prop where
 c:T.C=C
 g:Yu T.g=true
 s:YA2 T.g T.put T.s
 fx:Fix T.g T.put T.s
 n:T.n<=60
 t:T.t.length=T.n
 r:T.R=T.g.length
 cut:T.cut.natAbs < 2 ^ 4000
 cut0:0<=T.cut
 put0:0<=T.put
 sw0:0<=T.swap
structure LPre (T:Tol) (H0 H:Hp):Prop where
 hx:H T.x=some (.ins T.C T.dx T.fld)
 sm:YN H0 H
 pl:YR H
 ab:H T.ab=some (.dK (szD T.s))
 ao:H T.ao=some (.dK [])
 ne:T.ab≠T.ao
 af:H T.af=some (.lst [])
 nx:H0 T.x=none
 nb:H0 T.ab=none
 no:H0 T.ao=none
 nf:H0 T.af=none
 l:H0 T.l=some (.lst T.xs)
 ds:Yh H0 T.xs (T.g.map ZR)
inductive YFL (C:Addr) (vs:List V) (H:Hp) (Q:VK):Prop where
 |mk (T:Tol) (H0:Hp) (a_:vs=[.ref T.x]) (bc:YCo C T) (bJ:LPre T H0 H) (cA:∀own ps H',TSt T own ps H0 H' (ovO T) noF noK->YD7 T.g T.s ps->Q .non H'):YFL C vs H Q
def YHH (C:Addr):Sp:=λvs H Q E_=>YFL C vs H Q
section
variable {P:Program}{w:World}{K:W.Frag}{mg:Str->Option Value}{base:Heap}{C:Adr}
theorem Y4:YX ["self","places","head","rule","part","table","done"] ["self"] (YQ J1):=⟨Z,Z,Z,by decide +kernel,Z,by decide +kernel,by decide +kernel⟩
theorem YCH {f:Addr}{fd:FuncData} (F:Fun K "lay_out" "Toller.lay_out" J1 f fd) (T:Txt K mg C) (bC:XA P w K mg CX0 2 C.Toller "sign_table" ["self","sign"] (YFI C.Toller)) (bU:XA P w K mg CX0 1 C.Toller "reach_of" ["self","rule"] (YFJ C.Toller)):Yt P w K mg base CX0 3 f fd ["self"] (YHH C.Toller):=by
 obtain⟨pD,nF,gn,eG,gq⟩:=bC.ok;obtain⟨qD,pZ,iK,ie,iM⟩:=bU.ok;refine F.ok Y4 (λvs H Q E h=>?_) (λaO A outer s H vs Q E hr h=>?_)
 ·cases h;subst_vars;rfl
 ·obtain⟨S,H0,rfl,pre,lp,q⟩:=h;have hu:=Zq hr;refine qex ?_;refine⟨_,(YE ⟨(YK (i:=1) Y4.nd rfl (Or.inl rfl) (YI Ye (YO Yz (by rfl) T.ak YLq (YA (YY K rfl (pv 0) rfl) YB)) YC))⟩
   (YE ⟨(Yq PassesOwn.never rfl (YI2 (YY K rfl (pv 0) rfl)) (YU (i:=2) Y4.nd rfl (Or.inl rfl)) (YF (YAX hu (YY K rfl (pv 0) rfl) (pv 2) (Z3 (N:=["end"]) (ρ:=[none]) (cl:=[]) rfl (Yj.plain rfl (by decide +kernel) (by decide +kernel) rfl (by simp)) (Y7 rfl T.aG (YA (pv 1) YB)) (λ_ _ _ _ _=>(YU (i:=0) YIW rfl (Or.inl rfl) (.inr rfl))) (λ_ _ _ _ _=>Zh) (λ_ _ _ _ _=>(YI op_rep (Zr (YA YC YB)) (YI Ye (pv 0) YC)))) rfl)))⟩
   (YE ⟨(Yq PassesOwn.never rfl (Z7 K rfl (YY K rfl (pv 0) rfl)) (YU (i:=3) Y4.nd rfl (Or.inl rfl)) (YF (Yq PassesOwn.never rfl (X2 K rfl (YM (YS K rfl) (pv 3) YC (λ_ _=>rfl))) (YU (i:=4) Y4.nd rfl (Or.inl rfl)) (YF (Yx (PW.pt (X7 (JH (ZO K rfl YNL YNJ YNI Z5 (pv 4) (YA ZH YB))) (XQ (YAq (Xb hu (pv 4) (YY K rfl (pv 0) rfl)))))) (YF (YAX hu (YY K rfl (pv 0) rfl) (pv 4) (Zs (pv 0) T.aa eG (gn base) (hr.mono (by decide)) gq .nil Yi (YA (pv 4) YB)) rfl)) Yk)))))⟩
   (Y1 ⟨(Yq PassesOwn.never rfl (Z7 K rfl (YY K rfl (pv 0) rfl)) (YU (i:=3) Y4.nd rfl (Or.inl rfl)) (YG (YK (i:=5) Y4.nd rfl (Or.inl rfl) (Zr YB))
   (YG (Yq PassesOwn.never rfl (Y7 rfl T.aG (YA (YI Ye (Zs (pv 0) T.aa ie (iK base) (hr.mono (by decide)) iM .nil Yi (YA (pv 3) YB)) YC) YB)) (YU (i:=6) Y4.nd rfl (Or.inl rfl)) (YF (Yr (ZO K rfl YMC YML YMK Y0 (pv 5) (YA (Z3 (N:=["begin"]) (ρ:=[none]) (cl:=[]) rfl (Yj.plain rfl (by decide +kernel) (by decide +kernel) rfl (by simp)) (Y7 rfl T.aG (YA (pv 1) YB)) (λ_ _ _ _ _=>(YU (i:=0) YF3 rfl (Or.inl rfl) (.inr rfl))) (λ_ _ _ _ _=>Zh) (λ_ _ _ _ _=>(Zr YB))) YB)))))
   (YF (Yr (ZO K rfl YMC YML YMK Y0 (YY K rfl (pv 0) rfl) (YA (pv 5) YB)))))))⟩)))),?_⟩
  have line:∀k:Nat,k<=61->k<=sizeLine:=λk hk=>YMP hk (YH (by decide))
  have hn:=pre.n;have vY:=pre.t;have hx:H S.x=some (.ins C.Toller S.dx S.fld):=by rw[<-pre.c];exact lp.hx
  obtain⟨S0,eS0⟩:∃S0:Tol,{ S with R:=0 }=S0:=⟨_,Z⟩;have hxT:∀{own ps H' O F K},TSt S0 own ps H0 H' O F K->H' S.x=some (.ins C.Toller S.dx S.fld):=λh=>by rw[<-pre.c];have:=h.hx;rw[<-eS0]at this;exact this
  have eao:S0.ao=S.ao:=by rw[<-eS0]
  have en:S0.n=S.n:=by rw[<-eS0]
  refine⟨_,Z,S.x,C.Toller,S.dx,_,_,Z,hx,T.aa,T.bh,Z,_,Z,line _ (by lia),_,_,Z,Z,?_⟩;have epl:((S.t.length:Int) + 1)=((S.n + 1:Nat):Int):=by rw[vY];rfl
  refine⟨_,Z,S.x,C.Toller,S.dx,_,_,Z,hx,T.aa,T.bj,Z,S.ab,_,Z,lp.ab,λo=>?_⟩;have nameQ:∀h v,look S.s h=some v->isQ h=false:=λh v hl=>by
   obtain⟨r,hr,e,_⟩:=pre.s.hd h v hl;rw[<-e];exact YBT (J3 pre.g hr).1
  refine YCe (Pv:=λi σ H2=>H2 S.ab=some (.frz o (.dK (szD S.s)))/\∃own v2,σ=[some (.ref S.x),some (.int ((S.t.length:Int) + 1)),v2,none,none,none,none]/\TSt S0 own ((S.s.map (·.1)).take i) H0 H2 (ovO S) noF noK/\TgOk own ((S.s.map (·.1)).take i) 0 0) ?_ (λi σ H2 _ h=>h.1) ?_ ?_
  ·have nb:∀{b w},(∀kvs,w≠.dK kvs)->H b=some w->upd H S.ab (.frz o (.dK (szD S.s))) b=some w:=λhw e=>by
    rw[YJ (λz=>by rw[z,lp.ab]at e;exact hw _ (YMO e).symm)];exact e
   obtain⟨own,o1,o2⟩:=YI4 (λ_=>none) (λc u=>c=S.af/\u=.top) λc u u' h h'=>h.2.trans h'.2.symm
   have only:∀c u,own c=some u->c=S.af/\u=.top:=λc u e=>by
    by_cases hc:c=S.af
    ·rw[o1 c .top ⟨hc,Z⟩]at e;cases e;exact⟨hc,Z⟩
    ·rw[o2 c λu h=>hc h.1]at e;cases e
   refine⟨YD,own,none,Z,?_,⟨(λc p e h=>by cases (only c _ h).2),λc r d b h=>by cases (only c _ h).2⟩⟩;rw[YM9,<-eS0];refine⟨lp.pl.upd rfl,lp.sm.put lp.nb,nb (λ_ z=>nomatch z) lp.hx,lp.l,lp.ds,⟨o,YD⟩,⟨[],?_,Z,λp hp=>by cases hp⟩,⟨[],o1 _ _ ⟨Z,Z⟩,nb (λ_ z=>nomatch z) lp.af,Z,λr t ρ e=>by cases e⟩,λc u h=>?_,λc c' u h h'=>(only c u h).1.trans (only c' u h').1.symm⟩
   ·rw[YJ lp.ne.symm];exact lp.ao
   ·rw[(only c u h).1];exact⟨lp.nf,_,nb (λ_ z=>nomatch z) lp.af⟩
  ·rintro i kv σ H2 hkv ⟨hab,own,v2,rfl,st,tg⟩;obtain⟨h,v,ehv,rfl⟩:∃h v,S.s[i]?=some (h,v)/\kv=(Sum.inr h,V.int v):=by
    unfold szD at hkv;rw[YLt]at hkv;obtain⟨y,h1,h2⟩:=YMV.mp hkv;exact⟨y.1,y.2,h1,h2.symm⟩
   have hlk:look S.s h=some v:=X5 pre.s.nd (YLu ehv);have hq:=nameQ h v hlk;obtain⟨kvs,k1,k2,k3⟩:=st.hao;rw[eao]at k1;refine⟨_,Z,((S.n + 1:Nat):Int),by rw[epl],by lia,by lia,λa ha=>?_⟩;refine YHG (n:=S.n + 1) 0 (ovR (ovO S) h) Je st.pl ha (show 0 < 1 by decide) (line _ (by lia)) (λτ'=>∃v,τ'=[v]) ⟨_,Z⟩ (λτ' v ⟨_,e⟩=>⟨v,by rw[e];rfl⟩) ?_ ?_
   ·rintro τ' k y H' R ⟨v,rfl⟩ hτ rfl hk hs hp' hR;cases hτ;refine⟨line _ (by decide),λc1 hc1=>⟨_,Z,_,_,Z,Z,c1,((k + 1:Nat):Int),_,Z,by rw[YMk];rfl,YD,by lia,by lia,?_,λc hc=>hR c _ ((YN.upd hc1).trans (YN.upd hc)) ((hp'.upd rfl).upd rfl) ((YN.upd hc1).free hc) ?_⟩⟩
    ·show 1 * (k + 1)<=sizeLine;exact line _ (by lia)
    ·rw[YD];congr 2;have e0:∀b,ovO S h b k=0:=λb=>if_neg (by rw[hq];exact YL7)
     show(List.replicate (k + 1) [V.int 0]).flatten=((List.range (k + 1)).map λb=>ovO S h b k).map V.int;rw[YNG,List.flatten_replicate_singleton];refine(YHE (by rw[List.length_replicate]) λj y hj=>?_);have:=YLu hj;rw[List.mem_replicate]at this;rw[this.2];show _=V.int (ovO S h j k);rw[e0]
   ·intro H' s' p' tb;have hnd:h∉(S.s.map (·.1)).take i:=YDP pre.s.nd (by rw[YLt,ehv];rfl);obtain⟨bB,st',W_⟩:=st.more tg s' p' (by rw[en];exact tb) hnd (by rw[eao];exact k1) (by rw[eao];exact lp.no);have e2:(S.s.map (·.1)).take (i + 1)=(S.s.map (·.1)).take i ++ [h]:=by rw[YMb,YLt,ehv];rfl
    rw[eao]at st';refine⟨_,Z,S.x,C.Toller,S.dx,_,_,Z,s' _ _ (hxT st),T.aa,T.aA,Z,_,Z,S.ao,_,Z,YBh.k (k:=Sum.inr h) (s' _ _ k1) ?_,?_,bB,_,Z,by rw[e2];exact st',by rw[e2];exact W_⟩
    ·have:=YMw List.length k2;rw[YLp,YLp,YMp,YLp]at this;have:=pre.s.len;have:=XX pre.g;exact YL9 (show kvs.length < 1000 by lia) (YH (YLr _))
    ·rw[YJ lp.ne];exact s' _ _ hab
  ·rintro σ H2 ⟨hab,own,v2,rfl,st,tg⟩;have etk:(S.s.map (·.1)).take (szD S.s).length=S.s.map (·.1):=YM6 (by unfold szD;rw[YLp,YLp];exact YLr _);rw[etk]at st tg;have exs:S.xs.length=S.g.length:=by rw[lp.ds.len,YLp]
   have lR:=XX pre.g;have ruleAt:∀{own ps T' H2},TSt T' own ps H0 H2 (ovO S) noF noK->∀{i:Nat}{y:V},S.xs[i]?=some y->∃r t p,S.g[i]?=some r/\y=.ref t/\H2 t=some (.tup [.str r.1,.ref p,.int r.2.2])/\H2 p=some (.tup (r.2.1.map V.str)):=λst i y hi=>by
    obtain⟨r,t,p,h1,h2,h3,h4⟩:=J5 lp.ds hi;exact⟨r,t,p,h1,h2,st.sm _ _ h3,st.sm _ _ h4⟩
   refine⟨_,Z,S.x,C.Toller,S.dx,_,_,Z,hxT st,T.aa,T.aF,Z,S.l,Z,⟨_,SqL.of (st.sm _ _ lp.l)⟩,YAH (K:=K) (a:=S.l) (xs:=S.xs) (λi σ H2=>∃own ps v2 v3 v4,σ=[some (.ref S.x),some (.int ((S.t.length:Int) + 1)),v2,v3,v4,none,none]/\TSt S0 own ps H0 H2 (ovO S) noF noK/\TgOk own ps 0 0/\PsI S.g S.s ps ((S.g.take i).flatMap (·.2.1)))
    ⟨own,_,_,_,_,Z,st,tg,pre.s.nd,λp hp=>?_,λh v hl=>YMD.mpr ⟨_,XC hl,Z⟩,λp hp=>by(rw[YM9]at hp;cases hp),λp hp hq=>?_⟩ ?_ ?_ ?_⟩
   ·obtain⟨y,hy,rfl⟩:=YMD.mp hp;unfold okP;rw[X5 pre.s.nd hy,nameQ _ _ (X5 pre.s.nd hy)];rfl
   ·obtain⟨y,hy,rfl⟩:=YMD.mp hp;rw[nameQ _ _ (X5 pre.s.nd hy)]at hq;cases hq
   ·rintro i σ H2 _ ⟨own,ps,v2,v3,v4,rfl,st,_⟩;exact SqL.of (st.sm _ _ lp.l)
   ·rintro i y σ H2 hi ⟨own,ps,v2,v3,v4,rfl,st,tg,psi⟩;obtain⟨r,t,p,er,rfl,ht,hp⟩:=ruleAt st hi;have hrm:=YLu er;refine⟨_,Z,t,_,1,_,Z,Z,SqT.of ht,Z,p,Z,⟨_,SqT.of hp⟩,YDI (K:=K) (a:=p) (xs:=r.2.1.map V.str) (λj σ H2=>H2 p=some (.tup (r.2.1.map V.str))/\∃own ps v4,σ=[some (.ref S.x),some (.int ((S.t.length:Int) + 1)),v2,some (.ref t),v4,none,none]/\TSt S0 own ps H0 H2 (ovO S) noF noK/\TgOk own ps 0 0/\PsI S.g S.s ps ((S.g.take i).flatMap (·.2.1) ++ r.2.1.take j))
     ⟨hp,own,ps,_,Z,st,tg,by rw[YM9,YMZ];exact psi⟩ ?_ ?_ ?_⟩
    ·rintro j σ H2 _ ⟨hp,_⟩;exact SqT.of hp
    ·rintro j y σ H2 hj ⟨hp,own,ps,v4,rfl,st,tg,psi⟩;rw[YLt]at hj;obtain⟨c,ec,rfl⟩:=YMV.mp hj;have vX:=YLu ec;have et:(S.g.take i).flatMap (·.2.1) ++ r.2.1.take (j + 1)=((S.g.take i).flatMap (·.2.1) ++ r.2.1.take j) ++ [c]:=by rw[YMb,ec,YMX];rfl
     refine⟨_,Z,Z,_,_,Z,Z,_,Z,?_⟩;cases hq:isQ c with
     |false=>
      have hq':Txt.startswith c "'"=false:=hq;rw[hq'];exact ZA (ZA ⟨hp,own,ps,_,Z,st,tg,by rw[et];exact psi.more λz=>by rw[hq]at z;cases z⟩)
     |true=>
      have hq':Txt.startswith c "'"=true:=hq;rw[hq'];obtain⟨kvs,k1,k2,k3⟩:=st.hao;rw[eao]at k1;refine ZG ⟨_,Z,_,Z,S.x,C.Toller,S.dx,_,_,Z,hxT st,T.aa,T.aA,Z,S.ao,_,Z,Jf.k (k:=Sum.inr c) k1,_,Z,?_⟩;cases hv:Zo kvs (Sum.inr c) with
      |some y=>
       have hm:(Sum.inr c:Key)∈kvs.map (·.1):=by
        unfold Zo at hv;obtain⟨kv,h1,h2⟩:=YMV.mp hv;have:=List.find?_some h1;exact YMD.mpr ⟨kv,YNQ h1,YME this⟩
       rw[k2]at hm;obtain⟨z,h1,h2⟩:=YMD.mp hm;cases h2;exact ZA ⟨hp,own,ps,_,Z,st,tg,by rw[et];exact psi.more λ_=>h1⟩
      |none=>
       have RK:c∉ps:=λhm=>by
        obtain⟨a,bs,g1,_⟩:=k3 c hm;rw[hv]at g1;cases g1
       refine ZG ⟨_,Z,S.x,S.dx,_,Z,hxT st,Z,_,Z,S,c,Z,hxT st,hn,vY,YHF ((J3 pre.g hrm).2.2 c vX) hq,pre.cut,st.pl,λa H' s' p' tb=>?_⟩;have eO:ovR (sgT S.t S.put S.cut S.swap) c=ovR (ovO S) c:=by
        funext e;unfold ovR;refine YM0 λb _=>?_
        exact(if_pos hq).symm
       rw[eO]at tb;obtain⟨bB,st',W_⟩:=st.more tg s' p' (by rw[en];exact tb) RK (by rw[eao];exact k1) (by rw[eao];exact lp.no);rw[eao]at st';have hpl:=psi.len pre.g pre.s;refine⟨_,Z,S.x,C.Toller,S.dx,_,_,Z,s' _ _ (hxT st),T.aa,T.aA,Z,_,Z,S.ao,_,Z,YBh.k (k:=Sum.inr c) (s' _ _ k1) ?_,?_,bB,ps ++ [c],_,Z,st',W_,by rw[et];exact psi.new RK hq ⟨r,hrm,vX⟩⟩
       ·have:=YMw List.length k2;rw[YLp,YLp]at this;exact YL9 (show kvs.length < 1000 by lia) (YH (YLr _))
       ·rw[YJ (YEl (s' _ _ hp) (s' _ _ k1) nofun)];exact s' _ _ hp
    ·rintro σ H2 ⟨hp,own,ps,v4,rfl,st,tg,psi⟩;rw[YLp,YMn]at psi;have et:(S.g.take (i + 1)).flatMap (·.2.1)=(S.g.take i).flatMap (·.2.1) ++ r.2.1:=by rw[YMb,er,List.flatMap_append];simp
     exact⟨own,ps,_,_,_,Z,st,tg,by rw[et];exact psi⟩
   ·rintro σ H2 ⟨own,ps,v2,v3,v4,rfl,st,tg,psi⟩;rw[exs,YMn]at psi;have Ea:∀{i own H' O F K},TSt { S with R:=i } own ps H0 H' O F K->H' S.x=some (.ins C.Toller S.dx S.fld):=λh=>by rw[<-pre.c];exact h.hx
    refine⟨_,Z,S.x,C.Toller,S.dx,_,_,Z,hxT st,T.aa,T.aF,Z,S.l,Z,⟨_,SqL.of (st.sm _ _ lp.l)⟩,YAH (K:=K) (a:=S.l) (xs:=S.xs) (λi σ H2=>∃own v3 v5 v6,σ=[some (.ref S.x),some (.int ((S.t.length:Int) + 1)),v2,v3,v4,v5,v6]/\TSt { S with R:=i } own ps H0 H2 (ovO S) noF noK/\TgOk own ps i 0)
     ⟨own,_,_,_,Z,by rw[<-eS0]at st;exact st,tg⟩ ?_ ?_ ?_⟩
    ·rintro i σ H2 _ ⟨own,v3,v5,v6,rfl,st,_⟩;exact SqL.of (st.sm _ _ lp.l)
    ·rintro i y σ H2 hi ⟨own,v3,v5,v6,rfl,st,tg⟩;obtain⟨r,t,p,er,rfl,ht,hp⟩:=ruleAt st hi;have hrm:=YLu er;have h6:=(J3 pre.g hrm).2.1;have sS:=YAB S.s r.2.1;refine⟨YMI _,λa ha=>?_⟩;have ua:∀{b w},H2 b=some w->upd H2 a (.lst []) b=some w:=λe=>by rw[YJ (Ya e ha)];exact e
     obtain⟨ob,hob⟩:=st.hab;refine⟨_,Z,S.x,S.dx,_,Z,ua (Ea st),Z,_,Z,S,t,p,r,Z,ua (Ea st),.inr ⟨ob,ua hob⟩,ua ht,ua hp,_,_,Z,Z,((rch S.s r.2.1 + 1:Nat):Int),Z,by lia,by lia,?_⟩;refine ZI (lo:=0) (n:=rch S.s r.2.1 + 1) (λd σ H3=>∃own ds v6,σ=[some (.ref S.x),some (.int ((S.t.length:Int) + 1)),v2,some (.ref t),v4,some (.ref a),v6]/\TSt { S with R:=i } own ps H0 (del H3 a) (ovO S) noF noK/\TgOk own ps i d/\YR H3/\H3 a=some (.lst (ds.map V.ref))/\ds.length=d/\∀(d':Nat) u,ds[d']?=some u->YGz (del H3 a) own S.n noF noK i d' u)
      ⟨own,[],_,Z,by rw[XT,YLR ha];exact st,tg,st.pl.upd rfl,YD,Z,λd' u e=>by cases e⟩ ?_ ?_
     ·rintro d σ H3 hd ⟨own,ds,v6,rfl,st,tg,p3,h3,hdl,Eb⟩;refine⟨_,Z,.inl ⟨Z,_,SqL.of h3⟩,_,Z,((S.n + 1:Nat):Int),by rw[epl],by lia,by lia,λu hu=>?_⟩;refine YHG (n:=S.n + 1) 0 (λ_=>[]) Je p3 hu (show 0 < 1 by decide) (line _ (by lia)) (λ_=>True) trivial (λ_ _ _=>trivial) ?_ ?_
      ·intro τ' k y H' R _ _ _ _ _ hp' hR;exact⟨YMI _,λc hc=>hR c _ (YN.upd hc) (hp'.upd rfl) hc YD⟩
      ·intro H6 s6 p6 tb;have lO:u≠a:=λz=>by rw[z,h3]at hu;cases hu
       obtain⟨bB,st',g1,⟨bs,g2,g3,g4⟩,g5,g6⟩:=st.newTab (s6.del a) (YR.del p6 a) (tb.del (by rw[h3];exactλz=>nomatch z)) (λb=>.fi i d b) (λb b' e=>by cases e;rfl) λc b e=>by
        rcases tg.2 c i d b e with h |⟨_,h⟩ <;> lia
       refine⟨a,_,_,Z,Z,s6 _ _ h3,YL9 (show(ds.map V.ref).length < 1000 by rw[YLp];lia) (YH (YLr _)),?_⟩;have e3:ds.map V.ref ++ [V.ref u]=(ds ++ [u]).map V.ref:=by rw[YL2];rfl
       rw[e3];refine⟨bB,ds ++ [u],_,Z,by rw[XT];exact st',⟨λc q e h=>?_,λc r' d' b h=>?_⟩,p6.upd rfl,YD,by rw[YLy,hdl];rfl,λd' u' e=>?_⟩
       ·rcases g5 c _ h with h |⟨_,h⟩
        ·exact tg.1 c q e h
        ·cases h
       ·rcases g5 c _ h with h |⟨_,h⟩
        ·rcases tg.2 c r' d' b h with h |⟨h1,h2⟩
         ·exact .inl h
         ·exact .inr ⟨h1,by lia⟩
        ·cases h;exact .inr ⟨Z,by lia⟩
       ·rw[XT];rcases YMt d' ds.length with hlt |hge
        ·rw[YMs hlt]at e;exact(Eb d' u' e).owns (s6.del a) g6
        ·rw[YMd hge]at e;have:d' - ds.length=0:=by
          have:=(YLv.mp e).1;simp only[YL8,YNB]at this
          lia
         rw[this]at e;cases e;have:d'=d:=by lia
         subst this;exact⟨bs,g1,g2,g3,g4⟩
     ·rintro σ H3 ⟨own,ds,v6,rfl,st,tg,p3,h3,hdl,Eb⟩;have Bg:=st.free_ (a:=a) YDe;have jh:=st.same (ZD H3 a) p3;obtain⟨ts,b1,b2,b3,b4⟩:=jh.haf;have b2:H3 S.af=some (.lst (ts.map V.ref)):=b2;have b3:ts.length=i:=b3;have VN:=(YLv.mp er).1;refine⟨_,Z,S.x,C.Toller,S.dx,_,_,Z,Ea jh,T.aa,T.aN,Z,.inl ⟨Z,_,SqL.of b2⟩,_,Z,S.af,_,_,Z,Z,b2,YL9 (show(ts.map V.ref).length < 1000 by rw[YLp];lia) (YH (YLr _)),?_⟩;have e3:ts.map V.ref ++ [V.ref a]=(ts ++ [a]).map V.ref:=by rw[YL2];rfl
      rw[e3];refine⟨own,_,_,_,Z,TSt.addFi (T:={ S with R:=i }) jh er ⟨ds,Bg,h3,hdl,λd' u e=>(Eb d' u e).keep (ZD H3 a)⟩ b2 lp.nf,tg.1,λc r' d' b h=>?_⟩;rcases tg.2 c r' d' b h with h |⟨h1,h2⟩
      ·exact .inl (by lia)
      ·exact .inl (by lia)
    ·rintro σ H2 ⟨own,v3,v5,v6,rfl,st,tg⟩;rw[exs,<-pre.r]at st;exact q own ps H2 st ⟨psi.1,psi.2.1,psi.2.2.1,λr hr p hp=>psi.2.2.2.1 p (List.mem_flatMap.mpr ⟨r,hr,hp⟩),psi.2.2.2.2⟩
end
def M60:Int:=10 ^ 60
structure FS (H0:Hp) (C x dx:Addr) (fs:List (Str×V)) (H:Hp):Prop where
 hx:H x=some (.ins C dx fs)
 sm:YN H0 H
 pl:YR H
 n0:H0 x=none
theorem FS.set {H0:Hp}{C x dx:Addr}{fs:List (Str×V)}{H:Hp} (h:FS H0 C x dx fs H) (f:Str) (v:V):FS H0 C x dx (Xx f v fs) (upd H x (.ins C dx (Xx f v fs)))/\∀b o,(∀fs,o≠.ins C dx fs)->H b=some o->upd H x (.ins C dx (Xx f v fs)) b=some o:=
 ⟨⟨YD,h.sm.put h.n0,h.pl.upd rfl,h.n0⟩,λb o ho e=>by rw[YJ (λz=>by rw[z,h.hx]at e;exact ho _ (YMO e).symm)];exact e⟩
theorem FS.new {H0:Hp}{C x dx:Addr}{fs:List (Str×V)}{H:Hp} (h:FS H0 C x dx fs H) {a:Addr}{o:HO} (ha:H a=none) (ho:YBi o=true):FS H0 C x dx fs (upd H a o):=
 ⟨by rw[YJ (Ya h.hx ha)];exact h.hx,h.sm.trans (YN.upd ha),h.pl.upd ho,h.n0⟩
inductive YHI (C:Addr) (vs:List V) (H:Hp) (Q:VK):Prop where
 |mk (H0:Hp) (x dx l c:Addr) (t:Str) (xs:List V) (g:Yl) (a b d:Int) (a_:vs=[.ref x,.ref l,.str t,.ref c]) (bc:H x=some (.ins C dx [])) (bJ:H0 x=none) (cA:YN H0 H) (dm:YR H) (gM:H0 l=some (.lst xs)) (lq:Yh H0 xs (g.map ZR)) (m6:Yu g=true) (ug:t.length<=60) (yj:H0 c=some (.tup [.int a,.int b,.int d])) (wD:(0<=a/\a<=10 ^ 60)) (wF:(0<=b/\b<=10 ^ 60)) (Q_:(0<=d/\d<=10 ^ 60)) (Wa:∀T own ps H',YCo C T->T.x=x->T.g=g->T.t=t->T.put=a * M60->T.cut=b * M60->T.swap=d * M60->H0 T.ao=none->TSt T own ps H0 H' (ovO T) noF noK->YD7 g T.s ps->Q .non H'):YHI C vs H Q
def YI8 (C:Addr):Sp:=λvs H Q E_=>YHI C vs H Q
section
variable {P:Program}{w:World}{K:W.Frag}{mg:Str->Option Value}{base:Heap}{C:Adr}
theorem YBq:YX ["self","rules","text","costs"] ["self","rules","text","costs"] (YQ Jm):=⟨Z,Z,Z,by decide +kernel,Z,by decide +kernel,by decide +kernel⟩
theorem YBr {f:Addr}{fd:FuncData} (F:Fun K "__init__" "Toller.__init__" Jm f fd) (T:Txt K mg C) (di:Zc P w K mg CX0 3 "least_sizes" ["rules","sign_size"] (YHC)) (cu:XA P w K mg CX0 3 C.Toller "lay_out" ["self"] (YHH C.Toller)):Yt P w K mg base CX0 4 f fd ["self","rules","text","costs"] (YI8 C.Toller):=by
 obtain⟨uv,tR,lu,lz,lA,lB⟩:=di.ok;obtain⟨rM,qF,jt,iQ,ju⟩:=cu.ok;refine F.ok YBq (λvs H Q E h=>?_) (λaO A outer s H vs Q E hr h=>?_)
 ·cases h;subst_vars;rfl
 ·obtain⟨H0,x,dx,l,c,t,xs,g,a,b,d,rfl,hx,hx0,s0,hp,hl,hds,hg,ht,hc,ha,hb,hd,q⟩:=h;have hu:=Zq hr;refine qex ?_;refine⟨_,(YE ⟨(Z4 K rfl (pv 0) (pv 1) rfl)⟩
   (YE ⟨(Z4 K rfl (pv 0) (pv 2) rfl)⟩
   (YE ⟨(Z4 K rfl (pv 0) (YI XU (YM (YS K rfl) (pv 3) YC (λ_ _=>rfl)) (YI YAt YC YC)) rfl)⟩
   (YE ⟨(Z4 K rfl (pv 0) (YI XU (YM (YS K rfl) (pv 3) YC (λ_ _=>rfl)) (YI YAt YC YC)) rfl)⟩
   (YE ⟨(Z4 K rfl (pv 0) (YI XU (YM (YS K rfl) (pv 3) YC (λ_ _=>rfl)) (YI YAt YC YC)) rfl)⟩
   (YE ⟨(Z4 K rfl (pv 0) (YZ (lu base) (hr.mono (by decide)) (by rfl) lz lA lB .nil Yi (YA (pv 1) (YA (YY K rfl (pv 0) rfl) YB))) rfl)⟩
   (YE ⟨(Z4 K rfl (pv 0) YB3 rfl)⟩
   (YE ⟨(Z4 K rfl (pv 0) (Zr YB) rfl)⟩
   (Y1 ⟨(Yr (YDX (pv 0) T.aa iQ (jt base) (hr.mono (by decide)) ju .nil Yi))⟩))))))))),?_⟩
  have two:(10:Int) ^ 60<=2 ^ 200:=by decide
  have big:∀i:Int,0<=i->i<=2 ^ 400->i.natAbs < 2 ^ 4000:=λi h1 h2=>by
   obtain⟨n,rfl⟩:=Int.eq_ofNat_of_zero_le h1;have h3:n<=2 ^ 400:=by exact_mod_cast h2
   exact YNN h3 (Nat.pow_lt_pow_right (by decide) (by decide))
  have Bh:(2:Int) ^ 200 * 2 ^ 200=2 ^ 400:=by decide
  have e2:(2:Int) ^ 200<=2 ^ 400:=by decide
  have mul:∀i:Int,0<=i/\i<=10 ^ 60->YIo i (10 ^ (60:Int).toNat):=λi h=>⟨big i h.1 (YMj h.2 (YMj two e2)),big _ (by decide) (YMj two e2)⟩
  have Ec:∀i:Int,0<=i/\i<=10 ^ 60->(i * M60).natAbs < 2 ^ 4000:=λi h=>big _ (YMv h.1 (by decide)) (by
   rw[<-Bh];exact Int.mul_le_mul (YMj h.2 two) two (by decide) (by decide))
  have pw:CPow 10 60:=⟨by decide,by decide,by decide⟩;have F0:FS H0 C.Toller x dx [] H:=⟨hx,s0,hp,hx0⟩;refine⟨_,Z,_,Z,x,C.Toller,dx,_,Z,F0.hx,T.aa,T.aF,(by decide),?_⟩;have F1:=(F0.set "rules" (.ref l)).1;revert F1;generalize upd H x (.ins C.Toller dx (Xx "rules" (.ref l) []))=H1;intro F1;refine⟨_,Z,_,Z,x,C.Toller,dx,_,Z,F1.hx,T.aa,T.bh,(show 1 < 1000 by decide),?_⟩;have F2:=(F1.set "text" (.str t)).1;revert F2;generalize upd H1 x (.ins C.Toller dx _)=H2;intro F2;refine⟨_,Z,c,_,0,_,Z,Z,SqT.of (F2.sm _ _ hc),Z,_,_,Z,Z,pw,_,_,Z,Z,mul a ha,_,Z,x,C.Toller,dx,_,Z,F2.hx,T.aa,T.dh,(show 2 < 1000 by decide),?_⟩;have F3:=(F2.set "put" (.int (a * 10 ^ (60:Int).toNat))).1;revert F3;generalize upd H2 x (.ins C.Toller dx _)=H3;intro F3;refine⟨_,Z,c,_,1,_,Z,Z,SqT.of (F3.sm _ _ hc),Z,_,_,Z,Z,pw,_,_,Z,Z,mul b hb,_,Z,x,C.Toller,dx,_,Z,F3.hx,T.aa,T.bf,(show 3 < 1000 by decide),?_⟩;have F4:=(F3.set "cut" (.int (b * 10 ^ (60:Int).toNat))).1;revert F4;generalize upd H3 x (.ins C.Toller dx _)=H4;intro F4;refine⟨_,Z,c,_,2,_,Z,Z,SqT.of (F4.sm _ _ hc),Z,_,_,Z,Z,pw,_,_,Z,Z,mul d hd,_,Z,x,C.Toller,dx,_,Z,F4.hx,T.aa,T.d_,(show 4 < 1000 by decide),?_⟩;have F5:=(F4.set "swap" (.int (d * 10 ^ (60:Int).toNat))).1;revert F5;generalize upd H4 x (.ins C.Toller dx _)=H5;intro F5;have Qt:(0:Int)<=10 ^ (60:Int).toNat:=by decide
  refine⟨_,Z,_,Z,x,C.Toller,dx,_,_,Z,F5.hx,T.aa,T.dh,Z,l,xs,g,_,Z,F5.sm _ _ hl,hds.same F5.sm,hg,YMv ha.1 Qt,F5.pl,λab s H6 sz fx hab eH6=>?_⟩;have F6:=F5.new (o:=.dK (szD s)) hab rfl;rw[<-eH6]at F6;have Wb:H6 ab=some (.dK (szD s)):=by rw[eH6];exact YD
  have Wc:=F5.sm.free hab;clear eH6;refine⟨_,Z,x,C.Toller,dx,_,Z,F6.hx,T.aa,T.bj,(show 5 < 1000 by decide),?_⟩;obtain⟨F7,k7⟩:=F6.set "bare" (.ref ab);have tU:=k7 _ (.dK _) (λ_ z=>nomatch z) Wb;clear k7;revert F7 tU;generalize upd H6 x (.ins C.Toller dx _)=H7;intro F7 tU;refineλao hao=>?_
  have F8:=F7.new (o:=.dK []) hao rfl;have wG:upd H7 ao (.dK []) ab=some (.dK (szD s)):=by rw[YJ (Ya tU hao)];exact tU
  have wH:upd H7 ao (.dK []) ao=some (.dK []):=YD;have nab:ab≠ao:=Ya tU hao;have uR:=F7.sm.free hao;clear hao;revert F8 wG wH;generalize upd H7 ao (.dK [])=H8;intro F8 wG wH;refine⟨_,Z,x,C.Toller,dx,_,Z,F8.hx,T.aa,T.aA,(show 6 < 1000 by decide),?_⟩;obtain⟨F9,k9⟩:=F8.set "over" (.ref ao);have uT:=k9 _ (.dK _) (λ_ z=>nomatch z) wG;have uU:=k9 _ (.dK _) (λ_ z=>nomatch z) wH;clear k9;revert F9 uT uU;generalize upd H8 x (.ins C.Toller dx _)=H9;intro F9 uT uU;refine⟨YMI _,λaf haf=>?_⟩;have Fa:=F9.new (o:=.lst []) haf rfl;have wI:upd H9 af (.lst []) ab=some (.dK (szD s)):=by rw[YJ (Ya uT haf)];exact uT
  have wJ:upd H9 af (.lst []) ao=some (.dK []):=by rw[YJ (Ya uU haf)];exact uU
  have wK:upd H9 af (.lst []) af=some (.lst []):=YD;have Wd:=F9.sm.free haf;clear haf;revert Fa wI wJ wK;generalize upd H9 af (.lst [])=Ha;intro Fa wI wJ wK;refine⟨_,Z,x,C.Toller,dx,_,Z,Fa.hx,T.aa,T.aN,(show 7 < 1000 by decide),?_⟩;obtain⟨Fb,kb⟩:=Fa.set "first" (.ref af);have wL:=kb _ (.dK _) (λ_ z=>nomatch z) wI;have wM:=kb _ (.dK _) (λ_ z=>nomatch z) wJ;have wN:=kb _ (.lst _) (λ_ z=>nomatch z) wK;clear kb;revert Fb wL wM wN;generalize upd Ha x (.ins C.Toller dx _)=Hb;intro Fb wL wM wN;have pre:YCo C.Toller ⟨C.Toller,x,dx,l,ab,ao,af,xs,g,t,t.length,a * M60,b * M60,d * M60,s,g.length⟩:=
   ⟨Z,hg,sz,fx,ht,Z,Z,(Ec b hb),YMv hb.1 Qt,YMv ha.1 Qt,YMv hd.1 Qt⟩
  exact⟨_,Z,x,dx,_,Z,Fb.hx,Z,⟨C.Toller,x,dx,l,ab,ao,af,xs,g,t,t.length,a * M60,b * M60,d * M60,s,g.length⟩,H0,Z,pre,
   ⟨Fb.hx,Fb.sm,Fb.pl,wL,wM,nab,wN,hx0,Wc,uR,Wd,hl,hds⟩,λown ps H' st po=>q _ own ps H' pre rfl rfl rfl rfl rfl rfl uR st po⟩
end
theorem YAO:(["one","other"]:List Str).Nodup:=by decide +kernel
theorem YJz {K:W.Frag}{a b:Addr}{xs ys:List V}{H:Hp} (h:SqL K H a xs) (h2:SqL K H b ys) (hl:xs.length=ys.length):YH5 (Itz K a b) xs.length H λi v H3=>∃T x y,v=.ref T/\H3 T=some (.tup [x,y])/\xs[i]?=some x/\ys[i]?=some y:=λi H' s p=>by
 have h':=s.seq h;have h2':=s.seq h2;refine⟨λhi=>⟨⟨xs,ys,xs[i],ys[i],h',h2',by simp[hi],by simp[hl ▸ hi]⟩,λx H3 y=>?_⟩,⟨xs,ys,h',h2',.inl (YLr _)⟩⟩;obtain⟨T,hT,rfl,k⟩:=y;obtain⟨x,y,hx,hy,rfl⟩:=k xs ys h' h2';exact⟨YN.upd hT,p.upd rfl,T,x,y,Z,YD,hx,hy⟩
theorem YFM {f:Nat->V}{k i j:Nat} (hj:j<=k):YBX ((List.range k).map f) (some (i:Int)) (some (j:Int))=(List.range (j - i)).map λx=>f (i + x):=by
 unfold YBX;rw[HT.sIx_nat,HT.sIx_nat,YLp,YMH,Nat.min_eq_left hj];apply YNV;intro x;rw[List.getElem?_take,List.getElem?_drop,YLt,YLt];rcases YMt x (j - i) with h |h
 ·have e:min i k=i:=by lia
  rw[e,if_pos h,YMh (by lia),YMh h];rfl
 ·rw[if_neg (by lia),YMf (by rw[YMH];exact h)];rfl
theorem YD7.part {g:Yl}{s:Sz}{ps:List Str} (h:YD7 g s ps) {ρ:Yp} (hr:ρ∈g) {p:Str} (hp:p∈ρ.2.1) (hok:okP s p=true):p∈ps:=by
 cases hq:isQ p with
 |true=>exact h.2.2.2.1 ρ hr p hp hq
 |false=>
  unfold okP at hok;rw[hq,YNF]at hok;obtain⟨v,hv⟩:=YMT.mp hok;exact h.2.2.1 p v hv
def X0 (K:Nat) (inn:Nat->Option Int):List V:=(List.range (K + 1)).map λd=>oV (inn d)
theorem YJ0 (i:Nat) (inn:Nat->Option Int) (o:Option Int):X0 i inn ++ [oV o]=X0 (i + 1) (λd=>if d=i + 1 then o else inn d):=by
 unfold X0;rw[List.range_succ (n:=i + 1),YL2];congr 1
 ·refine YM0 λd hd=>?_
  have:=YMy.mp hd;show oV (inn d)=oV (if d=i + 1 then o else inn d);rw[if_neg (by lia)]
 ·show _=[oV (if i + 1=i + 1 then o else inn (i + 1))];rw[if_pos rfl]
inductive YHJ (C:Addr) (vs:List V) (H:Hp) (Q:VK):Prop where
 |mk (T:Tol) (own:Addr->Option XE) (ps:List Str) (H0:Hp) (O:OvF) (F:FiF) (K:Nat->Nat->Nat->Nat) (r b m:Nat) (ρ:Yp) (a_:vs=[.ref T.x,.int r,.int b,.int ((b + m:Nat):Int)]) (bc:YCo C T) (bJ:TSt T own ps H0 H O F K) (cA:YD7 T.g T.s ps) (dm:T.g[r]?=some ρ) (gM:b + m<=T.n) (lq:(∀d,d<=rch T.s ρ.2.1->K r d b=m)) (m6:∀a H' inn,YGx T.s O (λd k=>F r d b k) inn ρ.2.1 b m->H a=none->YN H H'->YR H'->H' a=some (.lst (X0 (rch T.s ρ.2.1) inn))->Q (.ref a) H'):YHJ C vs H Q
def YI9 (C:Addr):Sp:=λvs H Q E_=>YHJ C vs H Q
theorem YLS {i:Nat}{v:V}{t u:TS}{D:YAo}{σ:St}{H:Hp} (M:St->Hp->Prop) (rest:∀σ' H',M σ' H'->u D σ' H') (h:(∀σ' H',M σ' H'->u D σ' H')->t { D with nx:=u D } (σ.set i (some v)) H):ZK i v σ H λσ2 H2=>YGL t u D σ2 H2:=h rest
def XF (R:Nat) (L:Nat->Int):List V:=((List.range (R + 1)).map L).map V.int
theorem YJ1 (R:Nat) (L:Nat->Int):XF (R + 1) L=XF R L ++ [V.int (L (R + 1))]:=by
 unfold XF;rw[List.range_succ (n:=R + 1),YL2,YL2];rfl
theorem YCp (R:Nat) (L:Nat->Int):atI (XF R L) (-1)=some (.int (L R)):=by
 unfold XF;rw[List.range_succ,YL2,YL2];exact YKe _ _
inductive YFN (C:Addr) (vs:List V) (H:Hp) (Q:VK):Prop where
 |mk (T:Tol) (own:Addr->Option XE) (ps:List Str) (H0:Hp) (O:OvF) (F:FiF) (K:Nat->Nat->Nat->Nat) (r b m:Nat) (ρ:Yp) (ai:Addr) (inn:Nat->Option Int) (a_:vs=[.ref T.x,.int r,.int b,.int ((b + m:Nat):Int),.ref ai]) (bc:YCo C T) (bJ:TSt T own ps H0 H O F K) (cA:YD7 T.g T.s ps) (dm:T.g[r]?=some ρ) (gM:b + m<=T.n) (lq:(∀d,d<=rch T.s ρ.2.1->K r d b=m)) (m6:H ai=some (.lst (X0 (rch T.s ρ.2.1) inn))) (ug:∀a H',H a=none->YN H H'->YR H'->H' a=some (.lst (XF (rch T.s ρ.2.1) (ZF T.cut O (λd k=>F r d b k) inn ρ.2.1 b (b + m))))->Q (.ref a) H'):YFN C vs H Q
def YHK (C:Addr):Sp:=λvs H Q E_=>YFN C vs H Q
inductive YHL (C:Addr) (vs:List V) (H:Hp) (Q:VK):Prop where
 |mk (T:Tol) (own:Addr->Option XE) (ps:List Str) (H0:Hp) (O:OvF) (F:FiF) (K:Nat->Nat->Nat->Nat) (r b e:Nat) (ρ:Yp) (a:Addr) (L:Nat->Int) (a_:vs=[.ref T.x,.int r,.int b,.int e,.ref a]) (bc:YCo C T) (bJ:TSt T own ps H0 H O F K) (cA:YD7 T.g T.s ps) (dm:T.g[r]?=some ρ) (gM:b<=e) (lq:e<=T.n) (m6:H a=some (.lst (XF (rch T.s ρ.2.1) L))) (ug:((rch T.s ρ.2.1 < ρ.2.1.length\/O ρ.1 b e<=L (rch T.s ρ.2.1))->Q (.bl false) H)) (yj:(rch T.s ρ.2.1=ρ.2.1.length->L (rch T.s ρ.2.1) < O ρ.1 b e->∀H',TSt T own ps H0 H' (upO O ρ.1 b e (L (rch T.s ρ.2.1))) F K->(∀c o,own c=none->H c=some o->H' c=some o)->Q (.bl true) H')):YHL C vs H Q
def YJA (C:Addr):Sp:=λvs H Q E_=>YHL C vs H Q
section
variable {P:Program}{w:World}{K:W.Frag}{mg:Str->Option Value}{base:Heap}{C:Adr}
theorem Y6:YX ["self","number","begin","end","found","table","done","ahead","behind"] ["self","number","begin","end"] (YQ JB):=⟨Z,Z,Z,by decide +kernel,Z,by decide +kernel,by decide +kernel⟩
theorem YAp {f:Addr}{fd:FuncData} (F:Fun K "inner_tolls" "Toller.inner_tolls" JB f fd) (T:Txt K mg C):Yt P w K mg base CX0 1 f fd ["self","number","begin","end"] (YI9 C.Toller):=by
 refine F.ok Y6 (λvs H Q E h=>?_) (λaO A outer s H vs Q E hr h=>?_)
 ·cases h;subst_vars;rfl
 ·obtain⟨S,own,ps,H0,O,FF,KK,r,b,m,ρ,rfl,pre,st,pso,hr',hbm,hK,q⟩:=h;have hu:=Zq hr;refine qex ?_;refine⟨_,(YE (JW (i:=4) Y6.nd rfl (Or.inl rfl) (YDk (qa_cs qe_non YDj)))
   (YE ⟨(YK (i:=5) Y6.nd rfl (Or.inl rfl) (YM (YT K rfl) (YY K rfl (pv 0) rfl) (pv 1) (λ_ _=>rfl)))⟩
   (YE ⟨(Yq PassesOwn.never rfl (YCS rfl T.aG (YA YC (YA (YO (YL K rfl) (by rfl) T.ak YLq (YA (pv 5) YB)) YB))) (YU (i:=6) Y6.nd rfl (Or.inl rfl)) (YG (YK (i:=7) Y6.nd rfl (Or.inl rfl) (Zy (J9 K rfl) (YM (YT K rfl) (YM (YT K rfl) (pv 5) (YI JI (pv 6) YC) (λ_ _=>rfl)) (pv 2) (λ_ _=>rfl)) (ZZ YC) (ZZ (YI JI (pv 3) (pv 2)))))
   (YG (YK (i:=8) Y6.nd rfl (Or.inl rfl) (Zy (J9 K rfl) (YM (YT K rfl) (ZJ hu (YY K rfl (pv 0) rfl) (YM (YS K rfl) (YM (YS K rfl) (YM (YT K rfl) (YY K rfl (pv 0) rfl) (pv 1) (λ_ _=>rfl)) YC (λ_ _=>rfl)) (YI JI (pv 6) YC) (λ_ _=>rfl)) (λ_ _=>rfl)) (pv 3) (λ_ _=>rfl)) (ZZ (YI Ye (pv 2) YC)) (ZZ (pv 3))))
   (YF (Yr (ZO K rfl YMC YML YMK Y0 (pv 4) (YA (pe_minD K rfl rfl (by rfl) T.m8 YM7 (YA (Z3 (N:=["one","other"]) (ρ:=[none,none]) (cl:=[]) rfl (Yj.plain rfl (by decide +kernel) (by decide +kernel) rfl (by simp)) (pi_zip2 K rfl rfl T.za (YA (pv 7) (YA (pv 8) YB))) (λ_ _ _ _ _=>(XS K rfl (n:=2) rfl (ZC (YU (i:=0) YAO rfl (Or.inl rfl) (.inr rfl)) (ZC (YU (i:=1) YAO rfl (Or.inl rfl) (.inr rfl)) XR)))) (λ_ _ _ _ _=>Zh) (λ_ _ _ _ _=>(YI Ye (pv 0) (pv 1)))) YB) (pk_cons Xd pk_nil)) YB)))))))⟩
   (Y1 ⟨(Yc (pv 4))⟩)))),?_⟩
  have line:∀k:Nat,k<=61->k<=sizeLine:=λk hk=>YMP hk (YH (by decide))
  have hn:=pre.n;have hrm:=YLu hr';have hrl:=(YLv.mp hr').1;have h6:=(J3 pre.g hrm).2.1;have sS:=YAB S.s ρ.2.1;have hx:H S.x=some (.ins C.Toller S.dx S.fld):=by rw[<-pre.c];exact st.hx
  obtain⟨ts,t,ds,haf,zT,ht,hdl,cU⟩:=st.fi hr' (by rw[pre.r];exact hrl);obtain⟨xv,exv⟩:∃xv,S.xs[r]?=some xv:=⟨_,YLs (by rw[st.hds.len,YLp];exact hrl)⟩;obtain⟨ρ',tt,pp,er,rfl,du,hpp⟩:=J5 st.hds exv;rw[hr']at er;cases er;refine⟨line _ (by decide),λa ha=>?_⟩;have s1:=YN.upd (o:=.lst [V.non]) ha;refine⟨_,Z,S.x,C.Toller,S.dx,_,_,Z,s1 _ _ hx,T.aa,T.aN,Z,_,Z,S.af,_,_,_,Z,Z,SqL.of (s1 _ _ haf),zT,?_⟩;refine⟨_,Z,t,_,Z,.inl (SqL.of (s1 _ _ ht)),1,((rch S.s ρ.2.1 + 1:Nat):Int),by rw[YLp,hdl],⟨by decide,by decide,by lia,by lia⟩,?_⟩;refine ZI (lo:=1) (n:=((rch S.s ρ.2.1 + 1:Nat) - 1:Int).toNat) (λi σ H2=>∃inn v6 v7 v8,σ=[some (.ref S.x),some (.int r),some (.int b),some (.int ((b + m:Nat):Int)),some (.ref a),some (.ref t),v6,v7,v8]/\YN H H2/\YR H2/\H2 a=some (.lst (X0 i inn))/\inn 0=none/\
    ∀(d:Nat) (p:Str),d < i->ρ.2.1[d]?=some p->(∀k,1<=k->k < m->∃v,inn (d + 1)=some v/\v<=FF r d b k + O p (b + k) (b + m))/\∀v,inn (d + 1)=some v->∃k,1<=k/\k < m/\v=FF r d b k + O p (b + k) (b + m))
   ⟨λ_=>none,none,none,none,Z,s1,st.pl.upd rfl,YD,Z,λd p h=>absurd h (YNT _)⟩ ?_ ?_
  ·rintro i σ H2 hi ⟨inn,v6,v7,v8,rfl,s2,p2,h2,RL,nG⟩;have hi:i < rch S.s ρ.2.1:=by lia
   obtain⟨p,ep,wO⟩:=JA hi;obtain⟨u,es,c,at2,hu2,zU,hc1,hc⟩:=cU i (by lia) b (by lia);have hpm:=YLu ep;have wQ:=pso.part hrm hpm wO;have ei:(1 + (i:Int)) - 1=(i:Int):=by lia
   refine⟨_,Z,_,Z,_,_,Z,Z,t,_,_,_,Z,Z,SqL.of (s2 _ _ ht),by rw[ei];exact at2,_,Z,u,_,_,_,Z,Z,SqL.of (s2 _ _ hu2),zU,((1:Nat):Int),Z,_,Z,_,Z,_,_,Z,Z,(m:Int),by rw[show((b + m:Nat):Int) - (b:Int)=(m:Int) by lia],c,_,Z,SqL.of (s2 _ _ hc),λc1 zV=>?_⟩;have e1:YBX ((fiR FF r i b (KK r i b)).map V.int) (some ((1:Nat):Int)) (some (m:Int))=((List.range (m - 1)).map λx=>FF r i b (1 + x)).map V.int:=by
    unfold fiR;rw[hK i (by lia),YNG,YFM (YLr m),YNG];rfl
   rw[e1];have s3:=s2.trans (YN.upd (o:=.lst (((List.range (m - 1)).map λx=>FF r i b (1 + x)).map V.int)) zV);have p3:YR (upd H2 c1 (.lst (((List.range (m - 1)).map λx=>FF r i b (1 + x)).map V.int))):=p2.upd rfl;have h3:upd H2 c1 (.lst (((List.range (m - 1)).map λx=>FF r i b (1 + x)).map V.int)) a=some (.lst (X0 i inn)):=by rw[YJ (Ya h2 zV)];exact h2
   have uV:upd H2 c1 (.lst (((List.range (m - 1)).map λx=>FF r i b (1 + x)).map V.int)) c1=some (.lst (((List.range (m - 1)).map λx=>FF r i b (1 + x)).map V.int)):=YD;revert s3 p3 h3 uV;generalize upd H2 c1 (.lst (((List.range (m - 1)).map λx=>FF r i b (1 + x)).map V.int))=H3;intro s3 p3 h3 uV;have jh:=st.same s3 p3;obtain⟨a',bs,cc,dg,ha',vZ,rN,hcc⟩:=jh.ov wQ hbm;refine⟨_,Z,S.x,C.Toller,S.dx,_,_,Z,s3 _ _ hx,T.aa,T.aA,Z,_,Z,S.x,C.Toller,S.dx,_,_,Z,s3 _ _ hx,T.aa,T.aF,Z,_,Z,S.l,_,_,_,Z,Z,SqL.of (jh.sm _ _ st.hl),Yn exv,tt,_,1,_,Z,Z,SqT.of (jh.sm _ _ du),Z,_,Z,_,_,Z,Z,pp,_,_,_,Z,Z,SqT.of (jh.sm _ _ hpp),(by rw[ei];exact Yn (by rw[YLt,ep];rfl)),S.ao,_,Z,dg,_,Z,a',_,_,_,Z,Z,SqL.of ha',vZ,_,Z,_,_,Z,Z,((b + 1:Nat):Int),Z,_,Z,_,Z,cc,_,Z,SqL.of hcc,λc2 hc2=>?_⟩;have e2:YBX ((ovR O p (b + m)).map V.int) (some ((b + 1:Nat):Int)) (some ((b + m:Nat):Int))=((List.range (m - 1)).map λx=>O p (b + 1 + x) (b + m)).map V.int:=by
    unfold ovR;rw[YNG,YFM (YNh _),YNG,show b + m - (b + 1)=m - 1 by lia];rfl
   rw[e2];have s4:=s3.trans (YN.upd (o:=.lst (((List.range (m - 1)).map λx=>O p (b + 1 + x) (b + m)).map V.int)) hc2);have p4:YR (upd H3 c2 (.lst (((List.range (m - 1)).map λx=>O p (b + 1 + x) (b + m)).map V.int))):=p3.upd rfl;have h4:upd H3 c2 (.lst (((List.range (m - 1)).map λx=>O p (b + 1 + x) (b + m)).map V.int)) a=some (.lst (X0 i inn)):=by rw[YJ (Ya h3 hc2)];exact h3
   have uW:upd H3 c2 (.lst (((List.range (m - 1)).map λx=>O p (b + 1 + x) (b + m)).map V.int)) c1=some (.lst (((List.range (m - 1)).map λx=>FF r i b (1 + x)).map V.int)):=by rw[YJ (Ya uV hc2)];exact uV
   have uX:upd H3 c2 (.lst (((List.range (m - 1)).map λx=>O p (b + 1 + x) (b + m)).map V.int)) c2=some (.lst (((List.range (m - 1)).map λx=>O p (b + 1 + x) (b + m)).map V.int)):=YD;revert s4 p4 h4 uW uX;generalize upd H3 c2 (.lst (((List.range (m - 1)).map λx=>O p (b + 1 + x) (b + m)).map V.int))=H4;intro s4 p4 h4 uW uX;have lx:(((List.range (m - 1)).map λx=>FF r i b (1 + x)).map V.int).length=m - 1:=by rw[YLp,YLp,YMH]
   have ly:(((List.range (m - 1)).map λx=>O p (b + 1 + x) (b + m)).map V.int).length=m - 1:=by rw[YLp,YLp,YMH]
   refine⟨_,Z,.inl ⟨Z,_,SqL.of h4⟩,_,Z,_,Z,c1,c2,_,_,Z,SqL.of uW,SqL.of uX,λl hl=>?_⟩;have gz:=YJz (SqL.of (K:=K) uW) (SqL.of uX) (by rw[lx,ly]);rw[lx]at gz;refine YB8 (List.range (m - 1)) (λj=>some (V.int (FF r i b (1 + j) + O p (b + 1 + j) (b + m)))) (by rw[YMH];exact gz) p4 hl (line _ (by rw[YMH];lia)) (λτ'=>τ'.length=2) rfl ?_ ?_
   ·rintro τ' k d y H' Q1 Q2 hk hd ⟨T',x1,y1,rfl,hT,ex,ey⟩ hs hp' hQ1 hQ2;have Bj:d=k:=by
     have:=(YLv.mp hd).2;rw[List.getElem_range]at this;exact this.symm
    subst Bj;have rZ:d < m - 1:=by
     have:=(YLv.mp hd).1
     rwa [YMH]at this
    rw[YLt,YLt,YMh rZ]at ex ey;cases ex;cases ey;obtain⟨τa,τb,rfl⟩:∃τa τb,τ'=[τa,τb]:=by
     match τ',hk with
     |[x,y],_=>exact⟨x,y,Z⟩
    refine⟨T',_,Z,SqT.of hT,Z,_,_,Z,_,_,Z,Z,?_⟩;show tOp (rI0 _) (YGK 0) (YGK 1) _ _ _;exact⟨_,Z,_,Z,_,_,Z,Z,hQ1 _ _ _ rfl (YN.refl _) hp' rfl⟩
   ·intro H5 s5 p5 h5;have ef:(List.range (m - 1)).filterMap (λj=>some (V.int (FF r i b (1 + j) + O p (b + 1 + j) (b + m))))=((List.range (m - 1)).map λj=>FF r i b (1 + j) + O p (b + 1 + j) (b + m)).map V.int:=by
     rw[YNG,<-YNk];rfl
    rw[ef]at h5;have fin:∀o:Option Int,(∀k,1<=k->k < m->∃v,o=some v/\v<=FF r i b k + O p (b + k) (b + m))->(∀v,o=some v->∃k,1<=k/\k < m/\v=FF r i b k + O p (b + k) (b + m))->
      YFl (.ref a) [oV o] H5 λ_ H1=>∃inn v6 v7 v8,[some (V.ref S.x),some (.int r),some (.int b),some (.int ((b + m:Nat):Int)),some (.ref a),some (.ref t),some (.int (1 + (i:Int))),some (.ref c1),some (.ref c2)]=[some (V.ref S.x),some (.int r),some (.int b),some (.int ((b + m:Nat):Int)),some (.ref a),some (.ref t),v6,v7,v8]/\YN H H1/\YR H1/\H1 a=some (.lst (X0 (i + 1) inn))/\inn 0=none/\
       ∀(d:Nat) (p:Str),d < i + 1->ρ.2.1[d]?=some p->(∀k,1<=k->k < m->∃v,inn (d + 1)=some v/\v<=FF r d b k + O p (b + k) (b + m))/\∀v,inn (d + 1)=some v->∃k,1<=k/\k < m/\v=FF r d b k + O p (b + k) (b + m):=λo o1 o2=>by
     refine⟨a,_,_,Z,Z,s5 _ _ h4,YL9 (show(X0 i inn).length < 1000 by unfold X0;rw[YLp,YMH];lia) (YH (YLr _)),?_⟩;rw[YJ0];refine⟨_,_,_,_,Z,(s4.trans s5).put ha,p5.upd rfl,YD,by rw[if_neg (by lia)];exact RL,λd p' hd ep'=>?_⟩;rcases YMt d i with h |h
     ·rw[if_neg (by lia)];exact nG d p' h ep'
     ·have:d=i:=by lia
      subst this;rw[ep]at ep';cases ep';rw[if_pos rfl];exact⟨o1,o2⟩
    refine⟨l,_,.non,Z,Z,SqL.of h5,λhnil=>?_,λv hv Ed=>?_⟩
    ·refine fin none (λk h1 h2=>?_) λv e=>nomatch e
     have:=YMw List.length hnil;rw[YLp,YMH]at this;simp only[YNB]at this
     lia
    ·obtain⟨j,hj,rfl⟩:=YMD.mp hv;have hj:=YMy.mp hj;have e3:∀k,1<=k->FF r i b (1 + (k - 1)) + O p (b + 1 + (k - 1)) (b + m)=FF r i b k + O p (b + k) (b + m):=λk hk=>by rw[show 1 + (k - 1)=k by lia,show b + 1 + (k - 1)=b + k by lia]
     refine fin (some _) (λk h1 h2=>⟨_,Z,?_⟩) λv e=>?_
     ·rw[<-e3 k h1];exact Ed _ (YMD.mpr ⟨k - 1,YMy.mpr (by lia),Z⟩)
     ·cases e;exact⟨1 + j,by lia,by lia,by rw[show b + 1 + j=b + (1 + j) by lia]⟩
  ·rintro σ H2 ⟨inn,v6,v7,v8,rfl,s2,p2,h2,RL,nG⟩;have eR:((rch S.s ρ.2.1 + 1:Nat) - 1:Int).toNat=rch S.s ρ.2.1:=by lia
   rw[eR]at h2 nG;exact⟨_,Z,q a H2 inn (λd p hd ep=>nG d p hd ep) ha s2 p2 h2⟩
theorem Y5:YX ["self","number","begin","end","inner","table","line","done","part","toll"] ["self","number","begin","end","inner"] (YQ J2):=⟨Z,Z,Z,by decide +kernel,Z,by decide +kernel,by decide +kernel⟩
theorem YCI {f:Addr}{fd:FuncData} (F:Fun K "line_of" "Toller.line_of" J2 f fd) (T:Txt K mg C):Yt P w K mg base CX0 1 f fd ["self","number","begin","end","inner"] (YHK C.Toller):=by
 refine F.ok Y5 (λvs H Q E h=>?_) (λaO A outer s H vs Q E hr h=>?_)
 ·cases h;subst_vars;rfl
 ·obtain⟨S,own,ps,H0,O,FF,KK,r,b,m,ρ,ai,inn,rfl,pre,st,pso,hr',hbm,hK,uG,q⟩:=h;have hu:=Zq hr;refine qex ?_;refine⟨_,(YE ⟨(YK (i:=5) Y5.nd rfl (Or.inl rfl) (YM (YT K rfl) (YY K rfl (pv 0) rfl) (pv 1) (λ_ _=>rfl)))⟩
   (YE ⟨(YK (i:=6) Y5.nd rfl (Or.inl rfl) (Zr (YA (YI Ye (YI XU (YI JI (pv 3) (pv 2)) (YY K rfl (pv 0) rfl)) YC) YB)))⟩
   (YE ⟨(Yq PassesOwn.never rfl (YCS rfl T.aG (YA YC (YA (YO (YL K rfl) (by rfl) T.ak YLq (YA (pv 5) YB)) YB))) (YU (i:=7) Y5.nd rfl (Or.inl rfl)) (YG (YK (i:=8) Y5.nd rfl (Or.inl rfl) (YM (YT K rfl) (ZJ hu (YY K rfl (pv 0) rfl) (YM (YS K rfl) (YM (YS K rfl) (YM (YT K rfl) (YY K rfl (pv 0) rfl) (pv 1) (λ_ _=>rfl)) YC (λ_ _=>rfl)) (YI JI (pv 7) YC) (λ_ _=>rfl)) (λ_ _=>rfl)) (pv 3) (λ_ _=>rfl)))
   (YG (YK (i:=9) Y5.nd rfl (Or.inl rfl) (YI Ye (YM (YT K rfl) (pv 6) (pe_un YHs YC) (λ_ _=>rfl)) (YM (YT K rfl) (pv 8) (pv 3) (λ_ _=>rfl))))
   (YG (Yx (YW Xh (pv 2) (pv 3) (Yd _)) (YF (YK (i:=9) Y5.nd rfl (Or.inl rfl) (YO (YBN rfl) (by rfl) T.m8 YM7 (YA (pv 9) (YA (YI Ye (YM (YT K rfl) (YM (YT K rfl) (YM (YT K rfl) (pv 5) (YI JI (pv 7) YC) (λ_ _=>rfl)) (pv 2) (λ_ _=>rfl)) YC (λ_ _=>rfl)) (YM (YT K rfl) (pv 8) (pv 2) (λ_ _=>rfl))) YB))))) Yk)
   (YG (Yx (YW YId (YM (YT K rfl) (pv 4) (pv 7) (λ_ _=>rfl)) Xd (Yd _)) (YF (YK (i:=9) Y5.nd rfl (Or.inl rfl) (YO (YBN rfl) (by rfl) T.m8 YM7 (YA (pv 9) (YA (YM (YT K rfl) (pv 4) (pv 7) (λ_ _=>rfl)) YB))))) Yk)
   (YF (Yr (ZO K rfl YMC YML YMK Y0 (pv 6) (YA (pv 9) YB)))))))))⟩
   (Y1 ⟨(Yc (pv 6))⟩)))),?_⟩
  have line:∀k:Nat,k<=61->k<=sizeLine:=λk hk=>YMP hk (YH (by decide))
  have hn:=pre.n;have hrm:=YLu hr';have hrl:=(YLv.mp hr').1;have h6:=(J3 pre.g hrm).2.1;have sS:=YAB S.s ρ.2.1;have hx:H S.x=some (.ins C.Toller S.dx S.fld):=by rw[<-pre.c];exact st.hx
  obtain⟨ts,t,ds,haf,zT,ht,hdl,cU⟩:=st.fi hr' (by rw[pre.r];exact hrl);obtain⟨xv,exv⟩:∃xv,S.xs[r]?=some xv:=⟨_,YLs (by rw[st.hds.len,YLp];exact hrl)⟩;obtain⟨ρ',tt,pp,er,rfl,du,hpp⟩:=J5 st.hds exv;rw[hr']at er;cases er;have hlt:∀i:Int,0<=i->i<=60->i.natAbs < 2 ^ 4000:=λi h1 h2=>YNN (show i.natAbs<=60 by lia) (YL9 (by decide:60 < 2 ^ 6) (Nat.pow_le_pow_right (by decide) (by decide)))
  refine⟨_,Z,S.x,C.Toller,S.dx,_,_,Z,hx,T.aa,T.aN,Z,_,Z,S.af,_,_,_,Z,Z,SqL.of haf,zT,?_⟩;refine⟨_,Z,_,Z,_,_,Z,Z,_,Z,S.x,C.Toller,S.dx,_,_,Z,hx,T.aa,T.bf,Z,_,_,Z,Z,⟨hlt _ (by lia) (by lia),pre.cut⟩,_,_,Z,Z,line 1 (by decide),λa ha=>?_⟩;obtain⟨L,eL⟩:∃L,ZF S.cut O (λd k=>FF r d b k) inn ρ.2.1 b (b + m)=L:=⟨_,Z⟩;rw[eL]at q;have s1:=YN.upd (o:=.lst (XF 0 L)) ha;have p1:YR (upd H a (.lst (XF 0 L))):=st.pl.upd rfl;have e0:[V.int ((((b + m:Nat):Int) - (b:Int)) * S.cut + 1)]=XF 0 L:=by rw[<-eL];rfl
  rw[e0];have h1:upd H a (.lst (XF 0 L)) a=some (.lst (XF 0 L)):=YD;revert s1 p1 h1;generalize upd H a (.lst (XF 0 L))=H1;intro s1 p1 h1;refine⟨_,Z,t,_,Z,.inl (SqL.of (s1 _ _ ht)),1,((rch S.s ρ.2.1 + 1:Nat):Int),by rw[YLp,hdl],⟨by decide,by decide,by lia,by lia⟩,?_⟩;refine ZI (lo:=1) (n:=((rch S.s ρ.2.1 + 1:Nat) - 1:Int).toNat) (λi σ H2=>∃v7 v8 v9,σ=[some (.ref S.x),some (.int r),some (.int b),some (.int ((b + m:Nat):Int)),some (.ref ai),some (.ref t),some (.ref a),v7,v8,v9]/\YN H H2/\YR H2/\H2 a=some (.lst (XF i L)))
   ⟨none,none,none,Z,s1,p1,h1⟩ ?_ ?_
  ·rintro i σ H2 hi ⟨v7,v8,v9,rfl,s2,p2,h2⟩;have hi:i < rch S.s ρ.2.1:=by lia
   obtain⟨p,ep,wO⟩:=JA hi;obtain⟨u,es,c,at2,hu2,zU,hc1,hc⟩:=cU i (by lia) b (by lia);have hpm:=YLu ep;have wQ:=pso.part hrm hpm wO;have ei:(1 + (i:Int)) - 1=(i:Int):=by lia
   have jO:=st.same s2 p2;obtain⟨a',bs,cc,dg,ha',vZ,rN,hcc⟩:=jO.ov wQ hbm;have oat:∀k,k<=b + m->atI ((ovR O p (b + m)).map V.int) (k:Int)=some (.int (O p k (b + m))):=λk hk=>Yn (by
    unfold ovR;rw[YLt,YLt,YMh (by lia)];rfl)
   have eLs:L (i + 1)=YCF (if b < b + m then (if FF r i b 0 + O p b (b + m) < L i + O p (b + m) (b + m) then FF r i b 0 + O p b (b + m) else L i + O p (b + m) (b + m)) else L i + O p (b + m) (b + m)) (inn (i + 1)):=by
    have epp:prt ρ.2.1 i=p:=by unfold prt;rw[ep];rfl
    rw[<-eL,J0,epp]
   refine⟨_,Z,S.x,C.Toller,S.dx,_,_,Z,s2 _ _ hx,T.aa,T.aA,Z,_,Z,S.x,C.Toller,S.dx,_,_,Z,s2 _ _ hx,T.aa,T.aF,Z,_,Z,S.l,_,_,_,Z,Z,SqL.of (jO.sm _ _ st.hl),Yn exv,tt,_,1,_,Z,Z,SqT.of (jO.sm _ _ du),Z,_,Z,_,_,Z,Z,pp,_,_,_,Z,Z,SqT.of (jO.sm _ _ hpp),(by rw[ei];exact Yn (by rw[YLt,ep];rfl)),S.ao,_,Z,dg,_,Z,a',_,_,_,Z,Z,SqL.of ha',vZ,?_⟩;refine⟨_,Z,1,Z,a,_,_,_,Z,Z,SqL.of h2,YCp i L,_,Z,_,Z,cc,_,_,_,Z,Z,SqL.of hcc,oat (b + m) (YLr _),_,_,Z,Z,?_⟩;have last:∀(x:Int) (v:Option V),x=(if b < b + m then (if FF r i b 0 + O p b (b + m) < L i + O p (b + m) (b + m) then FF r i b 0 + O p b (b + m) else L i + O p (b + m) (b + m)) else L i + O p (b + m) (b + m))->
     YFl (.ref a) [V.int (YCF x (inn (i + 1)))] H2 λ_ H1=>∃v7 v8 v9,[some (V.ref S.x),some (.int r),some (.int b),some (.int ((b + m:Nat):Int)),some (.ref ai),some (.ref t),some (.ref a),some (.int (1 + (i:Int))),some (.ref cc),some (.int (YCF x (inn (i + 1))))]=[some (V.ref S.x),some (.int r),some (.int b),some (.int ((b + m:Nat):Int)),some (.ref ai),some (.ref t),some (.ref a),v7,v8,v9]/\YN H H1/\YR H1/\H1 a=some (.lst (XF (i + 1) L)):=λx v hx=>by
    refine⟨a,_,_,Z,Z,h2,YL9 (show(XF i L).length < 1000 by unfold XF;rw[YLp,YLp,YMH];lia) (YH (YLr _)),?_⟩;have e:L (i + 1)=YCF x (inn (i + 1)):=by rw[eLs,hx]
    rw[<-e,<-YJ1];exact⟨_,_,_,Z,s2.put ha,p2.upd rfl,YD⟩
   have iat:atI (X0 (rch S.s ρ.2.1) inn) (1 + (i:Int))=some (oV (inn (i + 1))):=by
    rw[show 1 + (i:Int)=((i + 1:Nat):Int) by lia];refine Yn ?_;unfold X0;rw[YLt,YMh (by lia)];rfl
   with_reducible refine YLS (λσ' H'=>H'=H2/\∃x,x=(if b < b + m then (if FF r i b 0 + O p b (b + m) < L i + O p (b + m) (b + m) then FF r i b 0 + O p b (b + m) else L i + O p (b + m) (b + m)) else L i + O p (b + m) (b + m))/\σ'=[some (.ref S.x),some (.int r),some (.int b),some (.int ((b + m:Nat):Int)),some (.ref ai),some (.ref t),some (.ref a),some (.int (1 + (i:Int))),some (.ref cc),some (.int x)]) ?_ λrestK=>?_
   ·rintro σ' H' ⟨rfl,x,hx',rfl⟩;refine⟨_,Z,_,Z,ai,_,_,_,Z,Z,SqL.of (s2 _ _ uG),iat,Z,_,Z,?_⟩;have last:=last x none hx';cases hin:inn (i + 1) with
    |none=>
     rw[hin]at last;refine ZA ?_;exact⟨_,Z,.inl ⟨Z,_,SqL.of h2⟩,_,Z,last⟩
    |some y=>
     rw[hin]at last iat;refine ZG ?_;refine⟨_,Z,_,Z,_,Z,ai,_,_,_,Z,Z,SqL.of (s2 _ _ uG),iat,_,_,Z,?_⟩;exact⟨_,Z,.inl ⟨Z,_,SqL.of h2⟩,_,Z,last⟩
   ·refine⟨_,Z,_,Z,_,_,Z,Z,_,Z,?_⟩;refine JP (λhb=>?_) λhb=>?_
    ·have hb:(b:Int) < ((b + m:Nat):Int):=YME hb;have fat:atI ((fiR FF r i b (KK r i b)).map V.int) 0=some (.int (FF r i b 0)):=Yn (j:=0) (by
      unfold fiR;rw[hK i (by lia),YLt,YLt,YMh (by lia)];rfl)
     refine⟨_,Z,_,Z,_,Z,_,_,Z,Z,t,_,_,_,Z,Z,SqL.of (s2 _ _ ht),by rw[ei];exact at2,_,Z,u,_,_,_,Z,Z,SqL.of (s2 _ _ hu2),zU,c,_,0,_,Z,Z,SqL.of (s2 _ _ hc),fat,_,Z,_,Z,cc,_,_,_,Z,Z,SqL.of hcc,oat b (by lia),_,_,Z,Z,_,_,Z,?_⟩;exact restK _ _ ⟨Z,_,by rw[if_pos (show b < b + m by lia)],Z⟩
    ·have hb:¬(b:Int) < ((b + m:Nat):Int):=λz=>hb (YLw z)
     exact restK _ _ ⟨Z,_,by rw[if_neg (show ¬b < b + m by lia)],Z⟩
  ·rintro σ H2 ⟨v7,v8,v9,rfl,s2,p2,h2⟩;have eR:((rch S.s ρ.2.1 + 1:Nat) - 1:Int).toNat=rch S.s ρ.2.1:=by lia
   rw[eR]at h2;exact⟨_,Z,q a H2 ha s2 p2 h2⟩
theorem XG:YX ["self","number","begin","end","line","rule"] ["self","number","begin","end","line"] (YQ JK):=⟨Z,Z,Z,by decide +kernel,Z,by decide +kernel,by decide +kernel⟩
theorem YBD {f:Addr}{fd:FuncData} (F:Fun K "lower_head" "Toller.lower_head" JK f fd) (T:Txt K mg C):Yt P w K mg base CX0 1 f fd ["self","number","begin","end","line"] (YJA C.Toller):=by
 refine F.ok XG (λvs H Q E h=>?_) (λaO A outer s H vs Q E hr h=>?_)
 ·cases h;subst_vars;rfl
 ·obtain⟨S,own,ps,H0,O,FF,KK,r,b,e,ρ,a,L,rfl,pre,st,pso,hr',hbe,hen,ha,q0,q1⟩:=h;have hu:=Zq hr;refine qex ?_;refine⟨_,(YE ⟨(YK (i:=5) XG.nd rfl (Or.inl rfl) (YM (YT K rfl) (YY K rfl (pv 0) rfl) (pv 1) (λ_ _=>rfl)))⟩
   (YE ⟨(Yx (PW.pt (YAr (YW Xi (YO (YL K rfl) (by rfl) T.ak YLq (YA (pv 4) YB)) (YO (YL K rfl) (by rfl) T.ak YLq (YA (YM (YS K rfl) (pv 5) YC (λ_ _=>rfl)) YB)) (Yd _)) (YAT (YW op_ge (YM (YT K rfl) (pv 4) (pe_un YHs YC) (λ_ _=>rfl)) (YM (YT K rfl) (YM (YT K rfl) (ZJ hu (YY K rfl (pv 0) rfl) (YM (YS K rfl) (pv 5) YC (λ_ _=>rfl)) (λ_ _=>rfl)) (pv 3) (λ_ _=>rfl)) (pv 2) (λ_ _=>rfl)) (Yd _))))) (YF (Yc XL)) Yk)⟩
   (YE ⟨(YKK (YM (YT K rfl) (pv 4) (pe_un YHs YC) (λ_ _=>rfl)) (YKJ (YM (YT K rfl) (ZJ hu (YY K rfl (pv 0) rfl) (YM (YS K rfl) (pv 5) YC (λ_ _=>rfl)) (λ_ _=>rfl)) (pv 3) (λ_ _=>rfl)) (pv 2) YGP))⟩
   (Y1 ⟨(Yc XL)⟩)))),?_⟩
  have hrm:=YLu hr';have hrl:=(YLv.mp hr').1;have sS:=YAB S.s ρ.2.1;have hx:H S.x=some (.ins C.Toller S.dx S.fld):=by rw[<-pre.c];exact st.hx
  obtain⟨xv,exv⟩:∃xv,S.xs[r]?=some xv:=⟨_,YLs (by rw[st.hds.len,YLp];exact hrl)⟩;obtain⟨ρ',tt,pp,er,rfl,du,hpp⟩:=J5 st.hds exv;rw[hr']at er;cases er;have du:=st.sm _ _ du;have hpp:=st.sm _ _ hpp;refine⟨_,Z,S.x,C.Toller,S.dx,_,_,Z,hx,T.aa,T.aF,Z,_,Z,S.l,_,_,_,Z,Z,SqL.of (st.sm _ _ st.hl),Yn exv,?_⟩;have ell:(XF (rch S.s ρ.2.1) L).length=rch S.s ρ.2.1 + 1:=by unfold XF;rw[YLp,YLp,YMH]
  refine⟨_,Z,a,_,Z,.inl (SqL.of ha),_,Z,tt,_,1,_,Z,Z,SqT.of du,Z,pp,_,Z,.inr (SqT.of hpp),_,_,Z,Z,_,Z,?_⟩;rw[ell,YLp]
  by_cases hlt:rch S.s ρ.2.1 < ρ.2.1.length
  ·rw[YLw (show(((rch S.s ρ.2.1 + 1:Nat):Int)<=(ρ.2.1.length:Int)) by lia)];exact ZG (ZG (q0 (.inl hlt)))
  ·rw[YLz (show ¬(((rch S.s ρ.2.1 + 1:Nat):Int)<=(ρ.2.1.length:Int)) by lia)];have cW:rch S.s ρ.2.1=ρ.2.1.length:=by lia
   have hh:∃v,look S.s ρ.1=some v:=by
    obtain⟨k,hk⟩:=YDO (s:=S.s) (q:=S.put) (ps:=ρ.2.1) (a:=1) λp hp=>by
     obtain⟨j,hj,ej⟩:=YNE.mp hp;obtain⟨p',e1,e2⟩:=JA (s:=S.s) (ps:=ρ.2.1) (j:=j) (by lia);rw[YLs hj,ej]at e1;cases e1;exact e2
    obtain⟨v,hv,_⟩:=pre.fx ρ hrm k hk;exact⟨v,hv⟩
   obtain⟨v,hv⟩:=hh;have hps:=pso.2.2.1 _ v hv;obtain⟨a',bs,cc,dg,ha',vZ,rN,hcc⟩:=st.ov hps hen;have oat:atI ((ovR O ρ.1 e).map V.int) (b:Int)=some (.int (O ρ.1 b e)):=Yn (by
    unfold ovR;rw[YLt,YLt,YMh (by lia)];rfl)
   refine ZA ⟨_,Z,1,Z,a,_,_,_,Z,Z,SqL.of ha,YCp _ L,_,Z,S.x,C.Toller,S.dx,_,_,Z,hx,T.aa,T.aA,Z,_,Z,tt,_,0,_,Z,Z,SqT.of du,Z,S.ao,_,Z,dg,_,Z,a',_,_,_,Z,Z,SqL.of ha',vZ,_,Z,cc,_,_,_,Z,Z,SqL.of hcc,oat,_,_,Z,Z,_,Z,?_⟩
   by_cases hge:O ρ.1 b e<=L (rch S.s ρ.2.1)
   ·rw[YLw hge];exact ZG (q0 (.inr hge))
   ·rw[YLz hge];refine ZA ?_;refine⟨_,Z,1,Z,a,_,_,_,Z,Z,SqL.of ha,YCp _ L,_,Z,S.x,C.Toller,S.dx,_,_,Z,hx,T.aa,T.aA,Z,_,Z,tt,_,0,_,Z,Z,SqT.of du,Z,S.ao,_,Z,dg,_,Z,a',_,_,_,Z,Z,SqL.of ha',vZ,_,Z,cc,_,_,b,Z,Z,hcc,?_,?_⟩
    ·have hl:((ovR O ρ.1 e).map V.int).length=e + 1:=by unfold ovR;rw[YLp,YLp,YMH]
     rw[hl];unfold ixN;rw[if_pos (by lia)];simp
     lia
    ·rw[<-List.map_set];refine q1 cW (by lia) _ (st.setO hbe rN _) λc o hc e'=>?_
     rw[YJ (λz=>by rw[z,rN]at hc;cases hc)];exact e'
end
structure Dn (T:Tol) (O:OvF) (F:FiF) (b m:Nat):Prop where
 f:EqF T.g T.s T.cut O F b m
 o:EqO T.g T.s O F b m
 le:∀h v,look T.s h=some v->O h b (b + m)<=v + m * T.cut
def DoneB (n m b:Nat) (b' m':Nat):Prop:=b' + m'<=n/\(m' < m\/(m'=m/\b' < b))
structure YDA (T:Tol) (O:OvF) (F:FiF) (m b:Nat):Prop where
 pos:∀p b e,0<=O p b e
 sg:∀p b e,isQ p=true->O p b e=sgT T.t T.put T.cut T.swap p b e
 dn:∀b' m',DoneB T.n m b b' m'->Dn T O F b' m'
def cnt (n m b b':Nat):Nat:=if b' + m<=n then (if b' < b then m + 1 else m) else n + 1 - b'
def KOk (T:Tol) (K:Nat->Nat->Nat->Nat) (m b:Nat):Prop:=∀(r:Nat) (ρ:Yp),T.g[r]?=some ρ->∀d,d<=rch T.s ρ.2.1->∀b',b'<=T.n->K r d b'=cnt T.n m b b'
section
variable {T:Tol}{O O1:OvF}{F F1:FiF}{b m:Nat}{inn:Nat->Nat->Option Int}{C:Addr}
structure YDB (T:Tol) (O O1:OvF) (F:FiF) (b m:Nat) (inn:Nat->Nat->Option Int):Prop where
 same:∀p b' e',¬((look T.s p).isSome=true/\b'=b/\e'=b + m)->O1 p b' e'=O p b' e'
 pos:∀p b e,0<=O1 p b e
 le:∀h v,look T.s h=some v->O1 h b (b + m)<=v + m * T.cut
 ex:∀h v,look T.s h=some v->∃(r:Nat) (ρ:Yp),T.g[r]?=some ρ/\ρ.1=h/\rch T.s ρ.2.1=ρ.2.1.length/\ZF T.cut O1 (λd k=>F r d b k) (inn r) ρ.2.1 b (b + m) ρ.2.1.length<=O1 h b (b + m)
def YAc (T:Tol) (O:OvF) (F:FiF) (b m:Nat) (inn:Nat->Nat->Option Int):Prop:=∀(r:Nat) (ρ:Yp),T.g[r]?=some ρ->YGx T.s O (λd k=>F r d b k) (inn r) ρ.2.1 b m
theorem f_pos (hc:0<=T.cut) (pos:∀p b e,0<=O p b e) (h:∀k,k < m->EqF T.g T.s T.cut O F b k) {r:Nat}{ρ:Yp} (hr:T.g[r]?=some ρ):∀{d k:Nat},d<=rch T.s ρ.2.1->k < m->1<=F r d b k:=by
 intro d
 induction d with
 |zero=>
  intro k _ hk;rw[(h k hk r ρ hr).1];have:=YMv (Int.ofNat_nonneg k) hc
  lia
 |succ d ih=>
  intro k hd hk;obtain⟨p,ep,_⟩:=JA (s:=T.s) (ps:=ρ.2.1) (j:=d) (by lia);obtain⟨k',hk',e⟩:=((h k hk r ρ hr).2 d p (by lia) ep).2;have h1:=ih (k:=k') (by lia) (by lia);have h2:=pos p (b + k') (b + k)
  lia
def YAD (T:Tol) (O:OvF) (b m:Nat):OvF:=λp b' e'=>if (look T.s p).isSome=true/\b'=b/\e'=b + m then (look T.s p).getD 0 + m * T.cut else O p b' e'
theorem YDB.start (pre:YCo C T) (I:YDA T O F m b) (hbm:b + m<=T.n) (hin:YAc T O F b m inn):YDB T O (YAD T O b m) F b m inn:=by
 have cm:(0:Int)<=m * T.cut:=YMv (Int.ofNat_nonneg m) pre.cut0;have at_:∀h v,look T.s h=some v->YAD T O b m h b (b + m)=v + m * T.cut:=λh v hv=>by
  unfold YAD;rw[if_pos ⟨by rw[hv];rfl,Z,Z⟩,hv];rfl
 refine⟨λp b' e' h=>if_neg h,λp b' e'=>?_,λh v hv=>by rw[at_ h v hv];exact YMi _,λh v hv=>?_⟩
 ·unfold YAD;split
  ·next h=>
   obtain⟨v,hv⟩:=YMT.mp h.1;rw[hv];have:=pre.s.pos p v hv;show 0<=v + _
   lia
  ·exact I.pos p b' e'
 ·obtain⟨ρ,hr,e1,k,hk,hkv⟩:=pre.s.hd h v hv;obtain⟨r,hrl,er⟩:=YNE.mp hr;have hr':T.g[r]?=some ρ:=by rw[YLs hrl,er]
  refine⟨r,ρ,hr',e1,YA6 (YFz hk),?_⟩;rw[at_ h v hv];have key:=YJy (s:=T.s) (cut:=T.cut) (O:=YAD T O b m) (Fr:=λd k=>F r d b k) (inn:=inn r) (ps:=ρ.2.1) (b:=b) (e:=b + m) (q:=T.put) (λp hp hq=>?_) (λp hp hq v hv=>?_) hk
  ·have:(((b + m:Nat):Int) - b) * T.cut=m * T.cut:=by rw[show((b + m:Nat):Int) - b=m by lia]
   rw[this]at key
   lia
  ·have hl:look T.s p=none:=by
    cases hl:look T.s p with
    |none=>rfl
    |some v'=>
     obtain⟨ρ',zW,e2,_⟩:=pre.s.hd p v' hl;have:=YBT (J3 pre.g zW).1;rw[e2,hq]at this;cases this
   have:YAD T O b m p (b + m) (b + m)=O p (b + m) (b + m):=if_neg (by rw[hl];exactλz=>nomatch z.1);rw[this,I.sg p _ _ hq];unfold sgT;rw[if_pos (YLr _)];exact YMi _
  ·rcases Nat.eq_zero_or_pos m with rfl |hm
   ·have:=at_ p v hv;rw[YNi]at this ⊢;rw[this];have:((0:Nat):Int) * T.cut=0:=by simp
    lia
   ·have:YAD T O b m p (b + m) (b + m)=O p (b + m) (b + m):=if_neg λz=>by lia
    rw[this];have:=(I.dn (b + m) 0 ⟨by lia,.inl hm⟩).le p v hv;have z0:((0:Nat):Int) * T.cut=0:=by simp
    rw[YNi]at this
    lia
theorem YAc.same (h:YAc T O F b m inn) (hs:∀p b' e',¬((look T.s p).isSome=true/\b'=b/\e'=b + m)->O1 p b' e'=O p b' e'):YAc T O1 F b m inn:=λr ρ hr d p hd hp=>by
 obtain⟨h1,h2⟩:=h r ρ hr d p hd hp;have e:∀k,1<=k->O1 p (b + k) (b + m)=O p (b + k) (b + m):=λk hk=>hs _ _ _ λz=>by lia
 refine⟨λk hk rZ=>?_,λv hv=>?_⟩
 ·rw[e k hk];exact h1 k hk rZ
 ·obtain⟨k,hk,rZ,ev⟩:=h2 v hv;exact⟨k,hk,rZ,by rw[e k hk];exact ev⟩
theorem YDB.pos1 (pre:YCo C T) (I:YDA T O F m b) (hbm:b + m<=T.n) (hin:YAc T O F b m inn) (W:YDB T O O1 F b m inn) {r:Nat}{ρ:Yp} (hr:T.g[r]?=some ρ) {d:Nat} (hd:d<=rch T.s ρ.2.1):1<=ZF T.cut O1 (λd k=>F r d b k) (inn r) ρ.2.1 b (b + m) d:=by
 have hf:=λ{d k:Nat}=>f_pos pre.cut0 I.pos (λk hk=>(I.dn b k ⟨by lia,.inl hk⟩).f) hr (d:=d) (k:=k)
 refine YGy pre.cut0 (Nat.le_add_right _ _) W.pos (λd hd hlt=>hf (by lia) (by lia)) (λd v hd hv=>?_) hd;obtain⟨p,ep,_⟩:=JA hd;obtain⟨k,h1,h2,e⟩:=(hin r ρ hr d p hd ep).2 v hv;have h3:=hf (d:=d) (k:=k) (by lia) h2;have h4:=I.pos p (b + k) (b + m);rw[e];show 1<=F r d b k + _
 lia
theorem YDB.lower (pre:YCo C T) (I:YDA T O F m b) (hbm:b + m<=T.n) (hin:YAc T O F b m inn) (W:YDB T O O1 F b m inn) {r:Nat}{ρ:Yp} (hr:T.g[r]?=some ρ) (cW:rch T.s ρ.2.1=ρ.2.1.length) {v:Int} (hv:look T.s ρ.1=some v) {x:Int} (hx:x=ZF T.cut O1 (λd k=>F r d b k) (inn r) ρ.2.1 b (b + m) ρ.2.1.length) (hlt:x < O1 ρ.1 b (b + m)):
  YDB T O (upO O1 ρ.1 b (b + m) x) F b m inn:=by
 have at_:upO O1 ρ.1 b (b + m) x ρ.1 b (b + m)=x:=if_pos ⟨Z,Z,Z⟩;have le_:∀p b' e',upO O1 ρ.1 b (b + m) x p b' e'<=O1 p b' e':=λp b' e'=>by
  unfold upO;split
  ·next h=>rw[h.1,h.2.1,h.2.2];lia
  ·exact YMi _
 have ne_:∀p b' e',¬(p=ρ.1/\b'=b/\e'=b + m)->upO O1 ρ.1 b (b + m) x p b' e'=O1 p b' e':=λp b' e' h=>if_neg h
 have x1:=W.pos1 pre I hbm hin hr (d:=ρ.2.1.length) (by lia);have mono:=λ(r:Nat) (ρ':Yp)=>YFG (cut:=T.cut) (O:=O1) (O':=upO O1 ρ.1 b (b + m) x) (Fr:=λd k=>F r d b k) (inn:=inn r) (ps:=ρ'.2.1) (b:=b) (e:=b + m) (λp _=>le_ p _ _) (λp _=>le_ p _ _) (YLr _)
 refine⟨λp b' e' h=>?_,λp b' e'=>?_,λh v' hv'=>YMj (le_ _ _ _) (W.le h v' hv'),λh v' hv'=>?_⟩
 ·rw[ne_ _ _ _ λz=>h ⟨by rw[z.1,hv];rfl,z.2⟩];exact W.same p b' e' h
 ·unfold upO;split
  ·lia
  ·exact W.pos p b' e'
 ·by_cases hh:h=ρ.1
  ·subst hh;refine⟨r,ρ,hr,Z,cW,?_⟩;rw[at_,hx];rw[<-hx];exact hx ▸ mono r ρ
  ·obtain⟨r',ρ',h1,h2,h3,h4⟩:=W.ex h v' hv';refine⟨r',ρ',h1,h2,h3,?_⟩;rw[ne_ _ _ _ λz=>hh z.1];exact YMj (mono r' ρ') h4
theorem YDB.fin (pre:YCo C T) (I:YDA T O F m b) (hbm:b + m<=T.n) (hin:YAc T O F b m inn) (W:YDB T O O1 F b m inn)
  (hex:∀(r:Nat) (ρ:Yp),T.g[r]?=some ρ->rch T.s ρ.2.1=ρ.2.1.length->O1 ρ.1 b (b + m)<=ZF T.cut O1 (λd k=>F r d b k) (inn r) ρ.2.1 b (b + m) ρ.2.1.length)
  (f1:∀r d b' k,¬(b'=b/\k=m)->F1 r d b' k=F r d b' k)
  (f2:∀(r:Nat) (ρ:Yp),T.g[r]?=some ρ->∀d,d<=rch T.s ρ.2.1->F1 r d b m=ZF T.cut O1 (λd k=>F r d b k) (inn r) ρ.2.1 b (b + m) d):YDA T O1 F1 m (b + 1):=by
 have nq:∀p,isQ p=true->look T.s p=none:=λp hq=>by
  cases hl:look T.s p with
  |none=>rfl
  |some v'=>
   obtain⟨ρ',zW,e2,_⟩:=pre.s.hd p v' hl;have:=YBT (J3 pre.g zW).1;rw[e2,hq]at this;cases this
 refine⟨W.pos,λp b' e' hq=>?_,λb' m' hd=>?_⟩
 ·rw[W.same p b' e' λz=>by rw[nq p hq]at z;exact nomatch z.1];exact I.sg p b' e' hq
 ·by_cases hnew:b'=b/\m'=m
  ·obtain⟨rfl,rfl⟩:=hnew;refine⟨λr ρ hr=>⟨?_,λd p hd' hp=>?_⟩,λh v hv=>⟨λr ρ hr e1 cW=>?_,?_⟩,W.le⟩
   ·rw[f2 r ρ hr 0 (YMI _)];show(((b' + m':Nat):Int) - b') * T.cut + 1=_;rw[show((b' + m':Nat):Int) - b'=m' by lia]
   ·have hi:=hin.same W.same r ρ hr;obtain⟨l1,l2⟩:=YLO (cut:=T.cut) hi hd' hp;have ef:∀k,k<=m'->(if k < m' then F r d b' k else ZF T.cut O1 (λd k=>F r d b' k) (inn r) ρ.2.1 b' (b' + m') d)=F1 r d b' k:=λk hk=>by
     by_cases h:k < m'
     ·rw[if_pos h,f1 r d b' k (by lia)]
     ·rw[if_neg h,show k=m' by lia,f2 r ρ hr d (by lia)]
    rw[f2 r ρ hr (d + 1) (by lia)];refine⟨λk hk=>?_,?_⟩
    ·have:=l1 k hk
     rwa [ef k hk]at this
    ·obtain⟨k,hk,e⟩:=l2;rw[ef k hk]at e;exact⟨k,hk,e⟩
   ·rw[f2 r ρ hr _ (by lia),<-e1];exact hex r ρ hr cW
   ·obtain⟨r,ρ,h1,h2,h3,h4⟩:=W.ex h v hv;refine⟨r,ρ,h1,h2,h3,?_⟩;rw[f2 r ρ h1 _ (by lia)];have:=hex r ρ h1 h3;rw[h2]at this
    lia
  ·have hold:DoneB T.n m b b' m':=⟨hd.1,by rcases hd.2 with h |h <;> lia⟩;have D:=I.dn b' m' hold;have eO:∀p k,k<=m'->O1 p (b' + k) (b' + m')=O p (b' + k) (b' + m'):=λp k hk=>W.same _ _ _ λz=>by
    rcases hold.2 with h |h <;> lia
   have eF:∀r d k,k<=m'->F1 r d b' k=F r d b' k:=λr d k hk=>f1 r d b' k λz=>by
    rcases hold.2 with h |h <;> lia
   have eO0:∀p,O1 p b' (b' + m')=O p b' (b' + m'):=λp=>eO p 0 (YMI _)
   refine⟨λr ρ hr=>⟨?_,λd p hd' hp=>?_⟩,λh v hv=>⟨λr ρ hr e1 cW=>?_,?_⟩,λh v hv=>?_⟩
   ·rw[eF r 0 m' (YLr _)];exact(D.f r ρ hr).1
   ·obtain⟨l1,k0,hk0,e0⟩:=(D.f r ρ hr).2 d p hd' hp;refine⟨λk hk=>?_,k0,hk0,?_⟩
    ·rw[eF r _ m' (YLr _),eF r d k hk,eO p k hk];exact l1 k hk
    ·rw[eF r _ m' (YLr _),eF r d k0 hk0,eO p k0 hk0];exact e0
   ·rw[eO0,eF r _ m' (YLr _)];exact(D.o h v hv).1 r ρ hr e1 cW
   ·obtain⟨r,ρ,h1,h2,h3,h4⟩:=(D.o h v hv).2;exact⟨r,ρ,h1,h2,h3,by rw[eO0,eF r _ m' (YLr _)];exact h4⟩
   ·rw[eO0];exact D.le h v hv
end
theorem XJ:(["number","begin","end","self"]:List Str).Nodup:=by decide +kernel
inductive YHM (C:Addr) (vs:List V) (H:Hp) (Q:VK):Prop where
 |mk (T:Tol) (own:Addr->Option XE) (ps:List Str) (H0:Hp) (O:OvF) (F:FiF) (K:Nat->Nat->Nat->Nat) (b m:Nat) (a_:vs=[.ref T.x,.int b,.int ((b + m:Nat):Int)]) (bc:YCo C T) (bJ:TSt T own ps H0 H O F K) (cA:YD7 T.g T.s ps) (dm:YDA T O F m b) (gM:KOk T K m b) (lq:b + m<=T.n) (m6:∀O' F' K' H',TSt T own ps H0 H' O' F' K'->YDA T O' F' m (b + 1)->KOk T K' m (b + 1)->Q .non H'):YHM C vs H Q
def YJB (C:Addr):Sp:=λvs H Q E_=>YHM C vs H Q
def YAd (T:Tol) (O:OvF) (b m:Nat) (hs:List Str):OvF:=λp b' e'=>if p∈hs/\b'=b/\e'=b + m then (look T.s p).getD 0 + m * T.cut else O p b' e'
theorem YHN (T:Tol) (O:OvF) (b m:Nat):YAd T O b m []=O:=by
 funext p b' e';exact if_neg λz=>nomatch z.1
theorem YF4 (T:Tol) (O:OvF) (b m:Nat) (hs:List Str) {h:Str}{v:Int} (hv:look T.s h=some v):upO (YAd T O b m hs) h b (b + m) (v + m * T.cut)=YAd T O b m (hs ++ [h]):=by
 funext p b' e';unfold upO YAd
 by_cases hp:p=h/\b'=b/\e'=b + m
 ·rw[if_pos hp,if_pos ⟨YMB _ (YL1.mpr hp.1),hp.2⟩,hp.1,hv];rfl
 ·rw[if_neg hp]
  by_cases hq:p∈hs/\b'=b/\e'=b + m
  ·rw[if_pos hq,if_pos ⟨YMc _ hq.1,hq.2⟩]
  ·rw[if_neg hq,if_neg λz=>?_];rcases YMN.mp z.1 with h1 |h1
   ·exact hq ⟨h1,z.2⟩
   ·exact hp ⟨YL1.mp h1,z.2⟩
theorem YHO (T:Tol) (O:OvF) (b m:Nat):YAd T O b m (T.s.map (·.1))=YAD T O b m:=by
 funext p b' e';unfold YAd YAD;have:p∈T.s.map (·.1)<->(look T.s p).isSome=true:=by
  constructor
  ·intro h;cases hl:look T.s p with
   |none=>exact absurd h (YCd hl)
   |some v=>rfl
  ·intro h;obtain⟨v,hv⟩:=YMT.mp h;exact YMD.mpr ⟨_,XC hv,Z⟩
 by_cases hq:p∈T.s.map (·.1)/\b'=b/\e'=b + m
 ·rw[if_pos hq,if_pos ⟨this.mp hq.1,hq.2⟩]
 ·rw[if_neg hq,if_neg λz=>hq ⟨this.mpr z.1,z.2⟩]
theorem YJ2 {α:Type} [Inhabited α] {n:Nat}{P:Nat->α->Prop} (h:∀r,r < n->∃z,P r z):∃f:Nat->α,∀r,r < n->P r (f r):=by
 classical
 refine⟨λr=>if hr:r < n then (h r hr).choose else default,λr hr=>?_⟩;show P r (if hr:r < n then (h r hr).choose else default);rw[dif_pos hr];exact(h r hr).choose_spec
theorem ixN_nat {n k:Nat} (h:k < n):ixN n (k:Int)=some k:=by
 unfold ixN;rw[if_pos (by lia),if_pos (by lia)];simp
def nI (k:Nat):V:=.int (k:Int)
def YFO (T:Tol) (O:OvF) (b m:Nat):Nat:=((T.s.map (·.1)).map λh=>(O h b (b + m)).toNat).sum
theorem YIX {T:Tol}{O:OvF}{b m:Nat}{h:Str}{v x:Int} (hv:look T.s h=some v) (h0:0<=x) (hx:x < O h b (b + m)):YFO T (upO O h b (b + m) x) b m < YFO T O b m:=by
 have at_:upO O h b (b + m) x h b (b + m)=x:=if_pos ⟨Z,Z,Z⟩;refine YID (λz _=>?_) ⟨h,YMD.mpr ⟨_,XC hv,Z⟩,by rw[at_];lia⟩
 by_cases hz:z=h
 ·rw[hz,at_];lia
 ·have:upO O h b (b + m) x z b (b + m)=O z b (b + m):=if_neg λw=>hz w.1
  rw[this];exact YLr _
def YF5 (kvs:List (Key×V)) (N:Nat):Prop:=(kvs.map (·.1)).Nodup/\∀k∈kvs.map (·.1),∃r:Nat,r < N/\k=Sum.inl (r:Int)
theorem YD8 {α:Type} [DecidableEq α]:∀{xs ys:List α},xs.Nodup->(∀x∈xs,x∈ys)->xs.length<=ys.length
 |[],_,_,_=>YMI _
 |x :: xs,ys,h,hs=>by
  rw[YMu]at h;have hx:=hs x (YMG ..);have:=YD8 (ys:=ys.erase x) h.2 λy hy=>by
   have hne:y≠x:=λe=>h.1 (e ▸ hy)
   exact(List.mem_erase_of_ne hne).mpr (hs y (YL6 _ hy))
  rw[List.length_erase_of_mem hx]at this;have hpos:=List.length_pos_of_mem hx;rw[YL8]
  lia
theorem YF5.len {kvs:List (Key×V)}{N:Nat} (h:YF5 kvs N):kvs.length<=N:=by
 have:=YD8 (ys:=(List.range N).map λr:Nat=>(Sum.inl (r:Int):Key)) h.1 λk hk=>by
  obtain⟨r,h1,h2⟩:=h.2 k hk;exact YMD.mpr ⟨r,YMy.mpr h1,h2.symm⟩
 rwa [YLp,YLp,YMH]at this
theorem YF5.put {kvs:List (Key×V)}{N r:Nat} (h:YF5 kvs N) (hr:r < N) (v:V):YF5 (Za kvs (Sum.inl (r:Int)) v) N:=by
 by_cases hm:(Sum.inl (r:Int):Key)∈kvs.map (·.1)
 ·have e:(Za kvs (Sum.inl (r:Int)) v).map (·.1)=kvs.map (·.1):=by
   unfold Za;obtain⟨q,hq,e⟩:=YMD.mp hm;rw[if_pos (List.any_eq_true.mpr ⟨q,hq,YLw e⟩),YNG];refine YM0 λq _=>?_
   show(if q.1=Sum.inl (r:Int) then (q.1,v) else q).1=q.1;split <;> rfl
  unfold YF5;rw[e];exact h
 ·have e:(Za kvs (Sum.inl (r:Int)) v).map (·.1)=kvs.map (·.1) ++ [Sum.inl (r:Int)]:=by
   unfold Za;rw[if_neg,YL2]
   ·rfl
   ·intro h;obtain⟨q,hq,e⟩:=List.any_eq_true.mp h;exact hm (YMD.mpr ⟨q,hq,YME e⟩)
  unfold YF5;rw[e];refine⟨YBP h.1 hm,λk hk=>?_⟩;rcases YMN.mp hk with hk |hk
  ·exact h.2 k hk
  ·exact⟨r,hr,YL1.mp hk⟩
def LnOk (T:Tol) (own:Addr->Option XE) (O:OvF) (F:FiF) (b m:Nat) (inn:Nat->Nat->Option Int) (kvs:List (Key×V)) (H:Hp) (rs:List Nat):Prop:=∀r∈rs,∀ρ,T.g[r]?=some ρ->∃a,Zo kvs (Sum.inl (r:Int))=some (.ref a)/\own a=none/\H a=some (.lst (XF (rch T.s ρ.2.1) (ZF T.cut O (λd k=>F r d b k) (inn r) ρ.2.1 b (b + m))))/\
 (rch T.s ρ.2.1=ρ.2.1.length->O ρ.1 b (b + m)<=ZF T.cut O (λd k=>F r d b k) (inn r) ρ.2.1 b (b + m) ρ.2.1.length)
theorem TSt.putD {T:Tol}{own:Addr->Option XE}{ps:List Str}{H0 H:Hp}{O:OvF}{F:FiF}{K:Nat->Nat->Nat->Nat} (S:TSt T own ps H0 H O F K) {d:Addr}{kvs kvs':List (Key×V)} (hd:H d=some (.dK kvs)) (ne:d≠T.ao) (h0:H0 d=none):TSt T own ps H0 (upd H d (.dK kvs')) O F K:=by
 obtain⟨kv,a1,a2,a3⟩:=S.hao;obtain⟨ts,b1,b2,b3,b4⟩:=S.haf;obtain⟨o,ho⟩:=S.hab;have st:∀{a w},(∀kvs,w≠.dK kvs)->H a=some w->upd H d (.dK kvs') a=some w:=λhw e=>by
  rw[YJ (λz=>by rw[z,hd]at e;exact hw _ (YMO e).symm)];exact e
 have kp:∀{a:Addr}{xs:List V},H a=some (.lst xs)->upd H d (.dK kvs') a=some (.lst xs):=λe=>st (λ_ z=>nomatch z) e
 refine⟨S.pl.upd rfl,S.sm.put h0,st (λ_ z=>nomatch z) S.hx,S.hl,S.hds,⟨o,st (λ_ z=>nomatch z) ho⟩,⟨kv,by rw[YJ ne.symm];exact a1,a2,λp hp=>?_⟩,⟨ts,b1,kp b2,b3,λr t ρ e1 e2=>?_⟩,λc u hc=>?_,S.uq⟩
 ·obtain⟨a,bs,g1,g2,g3,g4,g5⟩:=a3 p hp;exact⟨a,bs,g1,g2,kp g3,g4,λe c hc=>⟨(g5 e c hc).1,kp (g5 e c hc).2⟩⟩
 ·obtain⟨ds,g1,g2,g3,g4⟩:=b4 r t ρ e1 e2;refine⟨ds,g1,kp g2,g3,λd' u hu=>?_⟩;obtain⟨es,k1,k2,k3,k4⟩:=g4 d' u hu;exact⟨es,k1,kp k2,k3,λb c hc=>⟨(k4 b c hc).1,kp (k4 b c hc).2⟩⟩
 ·obtain⟨h',xs,e⟩:=S.on c u hc;exact⟨h',xs,kp e⟩
inductive TsW (S:Tol) (own:Addr->Option XE) (ps:List Str) (H0:Hp) (O:OvF) (FF:FiF) (KK:Nat->Nat->Nat->Nat) (b m:Nat) (inn:Nat->Nat->Option Int) (il ld:Addr) (ys:List V) (ai:Nat->Addr) (k:Nat) (σ:List (Option V)) (H2:Hp):Prop
 |mk (O1:OvF) (ol:Addr) (os:List Nat) (kvs:List (Key×V)) (fall:Bool) (v3 v4:Option V) (h0:σ=[some (.ref S.x),some (.int b),some (.int ((b + m:Nat):Int)),v3,v4,some (.ref il),some (.ref ol),some (.ref ld),some (.bl fall),none,none]) (h1:k=2 * YFO S O1 b m + (if fall=true then 1 else 0)) (h2:TSt S own ps H0 H2 O1 FF KK) (h3:YDB S O O1 FF b m inn) (h4:(H2 il=some (.lst ys)/\∀r ρ,S.g[r]?=some ρ->H2 (ai r)=some (.lst (X0 (rch S.s ρ.2.1) (inn r))))) (h5:(os.Nodup/\∀r,r∈os<->r < S.g.length)) (h6:own ol=none) (h7:H2 ol=some (.lst (os.map nI))) (h8:H2 ld=some (.dK kvs)) (h9:YF5 kvs S.g.length) (h10:(fall=false->LnOk S own O1 FF b m inn kvs H2 os)):TsW S own ps H0 O FF KK b m inn il ld ys ai k σ H2
inductive TsL (S:Tol) (own:Addr->Option XE) (ps:List Str) (H0:Hp) (O:OvF) (FF:FiF) (KK:Nat->Nat->Nat->Nat) (b m:Nat) (inn:Nat->Nat->Option Int) (il ld:Addr) (ys:List V) (ai:Nat->Addr) (uh:Addr) (sO:List Nat) (O1:OvF) (v3:Option V) (i:Nat) (σ:List (Option V)) (H3:Hp):Prop
 |mk (O2:OvF) (kvs:List (Key×V)) (fall:Bool) (v4:Option V) (h0:σ=[some (.ref S.x),some (.int b),some (.int ((b + m:Nat):Int)),v3,v4,some (.ref il),some (.ref uh),some (.ref ld),some (.bl fall),none,none]) (h1:TSt S own ps H0 H3 O2 FF KK) (h2:YDB S O O2 FF b m inn) (h3:(H3 il=some (.lst ys)/\∀r ρ,S.g[r]?=some ρ->H3 (ai r)=some (.lst (X0 (rch S.s ρ.2.1) (inn r))))) (h4:H3 uh=some (.lst (sO.map nI))) (h5:H3 ld=some (.dK kvs)) (h6:YF5 kvs S.g.length) (h7:(fall=false->O2=O1/\LnOk S own O2 FF b m inn kvs H3 (sO.take i))) (h8:(fall=true->YFO S O2 b m < YFO S O1 b m)):TsL S own ps H0 O FF KK b m inn il ld ys ai uh sO O1 v3 i σ H3
inductive TsF (S:Tol) (own:Addr->Option XE) (ps:List Str) (H0:Hp) (FF:FiF) (KK:Nat->Nat->Nat->Nat) (b m:Nat) (inn:Nat->Nat->Option Int) (il ld:Addr) (ol:Addr) (os:List Nat) (O1:OvF) (v3:Option V) (H2:Hp) (i:Nat) (σ:List (Option V)) (H3:Hp):Prop
 |mk (F':FiF) (K':Nat->Nat->Nat->Nat) (v4 v9 gK:Option V) (h0:σ=[some (.ref S.x),some (.int b),some (.int ((b + m:Nat):Int)),v3,v4,some (.ref il),some (.ref ol),some (.ref ld),some (.bl false),v9,gK]) (h1:TSt S own ps H0 H3 O1 F' K') (h2:(∀c o,own c=none->H2 c=some o->H3 c=some o)) (h3:(∀r d b' k,¬(b'=b/\k=m)->F' r d b' k=FF r d b' k)) (h4:(∀r∈os.take i,∀ρ,S.g[r]?=some ρ->∀d,d<=rch S.s ρ.2.1->F' r d b m=ZF S.cut O1 (λd k=>FF r d b k) (inn r) ρ.2.1 b (b + m) d/\K' r d b=m + 1)) (h5:(∀r,r∉os.take i->∀d,K' r d b=KK r d b)) (h6:∀r d b',b'≠b->K' r d b'=KK r d b'):TsF S own ps H0 FF KK b m inn il ld ol os O1 v3 H2 i σ H3
inductive TsE (S:Tol) (own:Addr->Option XE) (ps:List Str) (H0:Hp) (FF:FiF) (KK:Nat->Nat->Nat->Nat) (b m:Nat) (inn:Nat->Nat->Option Int) (il ld:Addr) (ol:Addr) (os:List Nat) (O1:OvF) (v3:Option V) (H2:Hp) (i r:Nat) (L:Nat->Int) (j:Nat) (σ:List (Option V)) (H4:Hp):Prop
 |mk (F'':FiF) (K'':Nat->Nat->Nat->Nat) (v9 gK:Option V) (h0:σ=[some (.ref S.x),some (.int b),some (.int ((b + m:Nat):Int)),v3,some (nI r),some (.ref il),some (.ref ol),some (.ref ld),some (.bl false),v9,gK]) (h1:TSt S own ps H0 H4 O1 F'' K'') (h2:(∀c o,own c=none->H2 c=some o->H4 c=some o)) (h3:(∀r d b' k,¬(b'=b/\k=m)->F'' r d b' k=FF r d b' k)) (h4:(∀r∈os.take i,∀ρ,S.g[r]?=some ρ->∀d,d<=rch S.s ρ.2.1->F'' r d b m=ZF S.cut O1 (λd k=>FF r d b k) (inn r) ρ.2.1 b (b + m) d/\K'' r d b=m + 1)) (h5:(∀r',r'∉os.take i->r'≠r->∀d,K'' r' d b=KK r' d b)) (h6:(∀r d b',b'≠b->K'' r d b'=KK r d b')) (h7:(∀d,d < j->F'' r d b m=L d/\K'' r d b=m + 1)) (h8:∀d,j<=d->K'' r d b=KK r d b):TsE S own ps H0 FF KK b m inn il ld ol os O1 v3 H2 i r L j σ H4
section
variable {P:Program}{w:World}{K:W.Frag}{mg:Str->Option Value}{base:Heap}{C:Adr}
theorem Yf:YX ["self","begin","end","head","number","inner","order","lines","falling","done","toll"] ["self","begin","end"] (YQ Zu):=⟨Z,Z,Z,by decide +kernel,Z,by decide +kernel,by decide +kernel⟩
theorem YBa {f:Addr}{fd:FuncData} (F:Fun K "take_span" "Toller.take_span" Zu f fd) (T:Txt K mg C) (bu:XA P w K mg CX0 1 C.Toller "inner_tolls" ["self","number","begin","end"] (YI9 C.Toller)) (cz:XA P w K mg CX0 1 C.Toller "line_of" ["self","number","begin","end","inner"] (YHK C.Toller)) (bD:XA P w K mg CX0 1 C.Toller "lower_head" ["self","number","begin","end","line"] (YJA C.Toller)):Yt P w K mg base CX0 2 f fd ["self","begin","end"] (YJB C.Toller):=by
 obtain⟨nH,mX,eN,dY,eQ⟩:=bu.ok;obtain⟨rO,qG,jw,iR,jx⟩:=cz.ok;obtain⟨pF,nJ,gr,eU,gw⟩:=bD.ok;refine F.ok Yf (λvs H Q E h=>?_) (λaO A outer s H vs Q E hr h=>?_)
 ·cases h;subst_vars;rfl
 ·obtain⟨S,own,ps,H0,O,FF,KK,b,m,rfl,pre,st,pso,I,kok,hbm,q⟩:=h;have hu:=Zq hr;refine qex ?_;refine⟨_,(YE ⟨(Yq PassesOwn.never rfl (YLN (YY K rfl (pv 0) rfl)) (YU (i:=3) Yf.nd rfl (Or.inl rfl)) (YF (YKK (YI Ye (ZJ hu (YY K rfl (pv 0) rfl) (pv 3) (λ_ _=>rfl)) (YI XU (YI JI (pv 2) (pv 1)) (YY K rfl (pv 0) rfl))) (YKJ (YM (YT K rfl) (ZJ hu (YY K rfl (pv 0) rfl) (pv 3) (λ_ _=>rfl)) (pv 2) (λ_ _=>rfl)) (pv 1) YGP))))⟩
   (YE ⟨(YB7 (N:=["number","begin","end","self"]) (ρ:=[none,some 1,some 2,some 0]) (i:=5) Yf.nd rfl rfl rfl (Yj.closes ["self","begin","end","head","number","inner","order","lines","falling","done","toll"] (YQ Zu).names rfl rfl rfl rfl (by decide +kernel) (by decide +kernel) (λx h=>Jg h) (by decide +kernel) rfl (by decide +kernel)) (Y7 rfl T.aG (YA (YO (YL K rfl) (by rfl) T.ak YLq (YA (YY K rfl (pv 0) rfl) YB)) YB)) (λ_ _ _ _ _=>(YU (i:=0) XJ rfl (Or.inl rfl) (.inr rfl))) (λ_ _ _ _ _=>Zh) (λ_ _ _ _ _=>(Zs (pv 3) T.aa dY (eN base) (hr.mono (by decide)) eQ .nil Yi (YA (pv 0) (YA (pv 1) (YA (pv 2) YB))))))⟩
   (YE ⟨(YK (i:=6) Yf.nd rfl (Or.inl rfl) (YGv rfl rfl T.gP rfl T.aG (YA (YO (YL K rfl) (by rfl) T.ak YLq (YA (YY K rfl (pv 0) rfl) YB)) YB)))⟩
   (YE ⟨(YK (i:=7) Yf.nd rfl (Or.inl rfl) YB3)⟩
   (YE ⟨(YK (i:=8) Yf.nd rfl (Or.inl rfl) XL)⟩
   (YE ⟨(Xg PassesOwn.never (JH (pv 8)) (YG (YK (i:=8) Yf.nd rfl (Or.inl rfl) XL)
   (YG (YK (i:=6) Yf.nd rfl (Or.inl rfl) (YGs rfl rfl T.gP rfl T.dB (YA (pv 6) YB)))
   (YF (Yq PassesOwn.never rfl (Z7 K rfl (pv 6)) (YU (i:=4) Yf.nd rfl (Or.inl rfl)) (YG (YAX hu (pv 7) (pv 4) (Zs (pv 0) T.aa iR (jw base) (hr.mono (by decide)) jx .nil Yi (ZL (pv 4) (ZL (pv 1) (ZL (pv 2) (ZL (YM (YT K rfl) (pv 5) (pv 4) (λ_ _=>rfl)) YB))))) rfl)
   (YF (Yx (JH (Zs (pv 0) T.aa eU (gr base) (hr.mono (by decide)) gw .nil Yi (ZL (pv 4) (ZL (pv 1) (ZL (pv 2) (ZL (ZJ hu (pv 7) (pv 4) (λ_ _=>rfl)) YB)))))) (YF (YK (i:=8) Yf.nd rfl (Or.inl rfl) XL)) Yk))))))))⟩
   (Y1 ⟨(Yq PassesOwn.never rfl (Z7 K rfl (pv 6)) (YU (i:=4) Yf.nd rfl (Or.inl rfl)) (YF (Yq PassesOwn.never rfl (X3 K rfl rfl T.aZ (YA (ZJ hu (pv 7) (pv 4) (λ_ _=>rfl)) YB)) (XS K rfl (n:=2) rfl (ZC (YU (i:=9) Yf.nd rfl (Or.inl rfl)) (ZC (YU (i:=10) Yf.nd rfl (Or.inl rfl)) XR))) (YF (Yr (ZO K rfl YMC YML YMK Y0 (YM (YT K rfl) (YM (YT K rfl) (YM (YT K rfl) (YY K rfl (pv 0) rfl) (pv 4) (λ_ _=>rfl)) (pv 9) (λ_ _=>rfl)) (pv 1) (λ_ _=>rfl)) (YA (pv 10) YB)))))))⟩))))))),?_⟩
  have hn:=pre.n;have hlt:∀i:Int,0<=i->i<=60->i.natAbs < 2 ^ 4000:=λi h1 h2=>YNN (show i.natAbs<=60 by lia) (YL9 (by decide:60 < 2 ^ 6) (Nat.pow_le_pow_right (by decide) (by decide)))
  have hxT:∀{H' O F K},TSt S own ps H0 H' O F K->H' S.x=some (.ins C.Toller S.dx S.fld):=λh=>by rw[<-pre.c];exact h.hx
  obtain⟨o,hab⟩:=st.hab;refine⟨_,Z,S.x,C.Toller,S.dx,_,_,Z,hxT st,T.aa,T.bj,Z,S.ab,o,_,Z,hab,?_⟩;refine YCe (Pv:=λi σ H2=>H2 S.ab=some (.frz o (.dK (szD S.s)))/\∃v3,σ=[some (.ref S.x),some (.int b),some (.int ((b + m:Nat):Int)),v3,none,none,none,none,none,none,none]/\TSt S own ps H0 H2 (YAd S O b m ((S.s.map (·.1)).take i)) FF KK) ⟨hab,none,Z,by rw[YM9,YHN];exact st⟩ (λi σ H2 _ h=>h.1) ?_ ?_
  ·rintro i kv σ H2 hkv ⟨hab,v3,rfl,st⟩;obtain⟨h,v,ehv,rfl⟩:∃h v,S.s[i]?=some (h,v)/\kv=(Sum.inr h,V.int v):=by
    unfold szD at hkv;rw[YLt]at hkv;obtain⟨y,h1,h2⟩:=YMV.mp hkv;exact⟨y.1,y.2,h1,h2.symm⟩
   have hlk:look S.s h=some v:=X5 pre.s.nd (YLu ehv);have hps:=pso.2.2.1 h v hlk;obtain⟨a',bs,cc,dg,ha',vZ,rN,hcc⟩:=st.ov hps hbm;have e2:(S.s.map (·.1)).take (i + 1)=(S.s.map (·.1)).take i ++ [h]:=by rw[YMb,YLt,ehv];rfl
   have Bk:Zo (szD S.s) (Sum.inr h)=some (.int v):=by rw[Z9,hlk];rfl
   refine⟨_,Z,S.x,C.Toller,S.dx,_,_,Z,hxT st,T.aa,T.bj,Z,_,Z,S.ab,_,Z,.inl ⟨_,Sum.inr h,.inr ⟨o,hab⟩,Z,Bk.symm⟩,_,Z,_,Z,_,_,Z,Z,_,Z,S.x,C.Toller,S.dx,_,_,Z,hxT st,T.aa,T.bf,Z,_,_,Z,Z,⟨hlt _ (by lia) (by lia),pre.cut⟩,_,_,Z,Z,_,Z,S.x,C.Toller,S.dx,_,_,Z,hxT st,T.aa,T.aA,Z,_,Z,S.ao,_,Z,dg,_,Z,a',_,_,_,Z,Z,SqL.of ha',vZ,_,Z,cc,_,_,b,Z,Z,hcc,ixN_nat (by unfold ovR;rw[YLp,YLp,YMH];lia),?_,_,Z,?_⟩
   ·rw[YJ (YEl hab hcc nofun)];exact hab
   ·rw[e2,<-YF4 S O b m _ hlk];have:=st.setO (Nat.le_add_right b m) rN (v + m * S.cut);rw[List.map_set]at this;rw[show((b + m:Nat):Int) - (b:Int)=(m:Int) by lia];exact this
  ·rintro σ H2 ⟨hab,v3,rfl,st⟩;have etk:(S.s.map (·.1)).take (szD S.s).length=S.s.map (·.1):=YM6 (by unfold szD;rw[YLp,YLp];exact YLr _);rw[etk,YHO]at st;obtain⟨O1,eO1⟩:∃O1,YAD S O b m=O1:=⟨_,Z⟩;rw[eO1]at st;have exs:S.xs.length=S.g.length:=by rw[st.hds.len,YLp]
   have lR:=XX pre.g;refine⟨_,Z,S.x,C.Toller,S.dx,_,_,Z,hxT st,T.aa,T.aF,Z,S.l,_,Z,.inl (SqL.of (st.sm _ _ st.hl)),((S.g.length:Nat):Int),by rw[exs],by lia,by lia,λil hil=>?_⟩;have gAt:∀{r:Nat},r < S.g.length->∃ρ,S.g[r]?=some ρ:=λh=>⟨_,YLs h⟩
   refine Zf (n:=S.g.length) 0 (λk y H'=>∃ai inn,y=.ref ai/\H2 ai=none/\∀ρ,S.g[k]?=some ρ->H' ai=some (.lst (X0 (rch S.s ρ.2.1) inn))/\YGx S.s O1 (λd k'=>FF k d b k') inn ρ.2.1 b m) Je
    (λk y H' H'' s' ⟨ai,inn,e1,e2,e3⟩=>⟨ai,inn,e1,e2,λρ hρ=>⟨s' _ _ (e3 ρ hρ).1,(e3 ρ hρ).2⟩⟩) st.pl hil (show 0 < 4 by decide) (YMP lR (YH (by decide))) (λτ'=>∃v,τ'=[v,some (.int b),some (.int ((b + m:Nat):Int)),some (.ref S.x)]) ⟨_,Z⟩ (λτ' v ⟨_,e⟩=>⟨v,by rw[e];rfl⟩) ?_ ?_
   ·rintro τ' k y H' R ⟨v,rfl⟩ hτ rfl hk hs hp' lU hR;cases hτ;obtain⟨ρ,hρ⟩:=gAt hk;have st':=st.same hs hp';refine⟨_,Z,S.x,S.dx,_,Z,hxT st',Z,_,Z,_,Z,_,Z,S,own,ps,H0,O1,FF,KK,k,b,m,ρ,by rw[YMk];rfl,pre,st',pso,hρ,hbm,(λd hd=>?_),λai H6 inn hin uG s6 p6 h6=>hR _ _ s6 p6 ⟨ai,inn,Z,hs.free uG,λρ' hρ'=>?_⟩⟩
    ·rw[kok k ρ hρ d hd b (by lia)];unfold cnt;rw[if_pos hbm,if_neg (YMm _)]
    ·rw[hρ]at hρ';cases hρ';exact⟨by rw[Z2 (λz=>lU (by rw[<-z];exact uG))];exact h6,hin⟩
   ·intro ys H3 hy hP s3 p3 h3;have hall:∀r,r < S.g.length->∃z:Addr×(Nat->Option Int),ys[r]?=some (.ref z.1)/\H2 z.1=none/\∀ρ,S.g[r]?=some ρ->H3 z.1=some (.lst (X0 (rch S.s ρ.2.1) z.2))/\YGx S.s O1 (λd k'=>FF r d b k') z.2 ρ.2.1 b m:=λr hr'=>by
     have ey:=YLs (show r < ys.length by lia);obtain⟨ai,inn,e1,e2,e3⟩:=hP r _ ey;refine⟨(ai,inn),by rw[ey,e1],e2,λρ hρ=>⟨ZD H3 il _ _ (e3 ρ hρ).1,(e3 ρ hρ).2⟩⟩
    obtain⟨fz,zX⟩:=YJ2 hall;obtain⟨ai,uG⟩:∃ai:Nat->Addr,(λr=>(fz r).1)=ai:=⟨_,Z⟩;obtain⟨inn,nG⟩:∃inn:Nat->Nat->Option Int,(λr=>(fz r).2)=inn:=⟨_,Z⟩;have a1:∀r,r < S.g.length->ys[r]?=some (.ref (ai r)):=λr h=>by rw[<-uG];exact(zX r h).1
    have a2:∀r,r < S.g.length->own (ai r)=none:=λr h=>by rw[<-uG];exact st.free_ (zX r h).2.1
    have a3:∀r ρ,S.g[r]?=some ρ->H3 (ai r)=some (.lst (X0 (rch S.s ρ.2.1) (inn r))):=λr ρ hρ=>by rw[<-uG,<-nG];exact((zX r (YLv.mp hρ).1).2.2 ρ hρ).1
    have a4:YAc S O1 FF b m inn:=λr ρ hρ=>by rw[<-nG];exact((zX r (YLv.mp hρ).1).2.2 ρ hρ).2
    have oil:=st.free_ hil;have hin:YAc S O FF b m inn:=a4.same λp b' e' h=>by rw[<-eO1];exact(if_neg h).symm
    have W0:=YDB.start pre I hbm hin;rw[eO1]at W0;have jh:=st.same s3 p3;clear hP hall zX uG nG a4 fz;refine⟨_,Z,S.x,C.Toller,S.dx,_,_,Z,hxT jh,T.aa,T.aF,Z,S.l,_,Z,.inl (SqL.of (jh.sm _ _ st.hl)),S.g.length,by rw[exs],YMP lR (by decide),λol hol=>?_⟩;refineλld pB=>?_
    have s5:YN H3 (upd (upd H3 ol (.lst ((List.range S.g.length).map λi:Nat=>V.int (i:Int)))) ld (.dK [])):=(YN.upd hol).trans (YN.upd pB);have p5:YR (upd (upd H3 ol (.lst ((List.range S.g.length).map λi:Nat=>V.int (i:Int)))) ld (.dK [])):=(p3.upd rfl).upd rfl;have lZ:upd (upd H3 ol (.lst ((List.range S.g.length).map λi:Nat=>V.int (i:Int)))) ld (.dK []) ol=some (.lst ((List.range S.g.length).map nI)):=by rw[YJ (Ya YD pB),YD];rfl
    have lC:upd (upd H3 ol (.lst ((List.range S.g.length).map λi:Nat=>V.int (i:Int)))) ld (.dK []) ld=some (.dK []):=YD;have ool:=jh.free_ hol;have jZ:=(YN.upd hol).free pB;have old:=jh.free_ jZ;have nld:ld≠S.ao:=λz=>by
     obtain⟨kv,e1,_⟩:=jh.hao;rw[z,e1]at jZ;cases jZ
    have Bl:=jh.sm.free jZ;clear pB hol jZ;revert s5 p5 lZ lC;generalize upd (upd H3 ol (.lst ((List.range S.g.length).map λi:Nat=>V.int (i:Int)))) ld (.dK [])=H5;intro s5 p5 lZ lC;have yl:H5 il=some (.lst ys)/\∀r ρ,S.g[r]?=some ρ->H5 (ai r)=some (.lst (X0 (rch S.s ρ.2.1) (inn r))):=⟨s5 _ _ h3,λr ρ hρ=>s5 _ _ (a3 r ρ hρ)⟩;have mY:=jh.same s5 p5;clear st jh s3 p3 h3 a3 hab;refine⟨TsW S own ps H0 O FF KK b m inn il ld ys ai,⟨_,O1,ol,List.range S.g.length,[],true,_,_,Z,Z,mY,W0,yl,⟨List.nodup_range,λr=>YMy⟩,ool,lZ,lC,⟨List.nodup_nil,λk hk=>by cases hk⟩,λz=>nomatch z⟩,?_⟩;clear mY W0 yl ool lZ lC s5 p5 eO1 O1 v3;rintro k σ H2 ⟨O1,ol,os,kvs,fall,v3,v4,rfl,ek,st,W,kp,yN,ool,hol,pB,hkv,qM⟩;refine⟨_,Z,fall,Z,?_⟩;have hkeep:∀{H2 H3:Hp},(∀c o,own c=none->H2 c=some o->H3 c=some o)->(H2 il=some (.lst ys)/\∀r ρ,S.g[r]?=some ρ->H2 (ai r)=some (.lst (X0 (rch S.s ρ.2.1) (inn r))))->(H3 il=some (.lst ys)/\∀r ρ,S.g[r]?=some ρ->H3 (ai r)=some (.lst (X0 (rch S.s ρ.2.1) (inn r)))):=
     λh1 h2=>⟨h1 _ _ oil h2.1,λr ρ hρ=>h1 _ _ (a2 r (YLv.mp hρ).1) (h2.2 r ρ hρ)⟩
    have hK:∀r ρ,S.g[r]?=some ρ->∀d,d<=rch S.s ρ.2.1->KK r d b=m:=λr ρ hρ d hd=>by
     rw[kok r ρ hρ d hd b (by lia)];unfold cnt;rw[if_pos hbm,if_neg (YMm _)]
    cases fall with
    |true=>
     refine ZG ?_;refine⟨_,λ_ _ h=>h,?_⟩;refine⟨_,Z,ol,_,Z,.inl hol,λuh hol'=>?_⟩;have s3:=YN.upd (o:=.lst (os.map nI).reverse) hol';have jh:=st.same s3 (st.pl.upd rfl);have zY:=st.free_ hol';have uY:upd H2 uh (.lst (os.map nI).reverse) uh=some (.lst (os.reverse.map nI)):=by rw[YD,YNe]
     have Ef:=hkeep (λc o _ e=>s3 c o e) kp;have jZ:=s3 _ _ pB;have uZ:os.reverse.Nodup/\∀r,r∈os.reverse<->r < S.g.length:=⟨List.pairwise_reverse.mpr (yN.1.imp λh=>Ne.symm h),λr=>by rw[YNd];exact yN.2 r⟩;revert jh uY Ef jZ;generalize upd H2 uh (.lst (os.map nI).reverse)=H3;generalize os.reverse=sO at uZ ⊢;intro jh uY Ef jZ;clear s3 hol' qM ool hol kp st yN;refine⟨_,Z,uh,Z,⟨_,SqL.of uY⟩,YAH (K:=K) (a:=uh) (xs:=sO.map nI) (TsL S own ps H0 O FF KK b m inn il ld ys ai uh sO O1 v3)
      ⟨O1,kvs,false,v4,Z,jh,W,Ef,uY,jZ,hkv,(λ_=>⟨Z,λr hr=>by rw[YM9]at hr;cases hr⟩),λz=>nomatch z⟩ ?_ ?_ ?_⟩
     ·rintro i σ H3 _ ⟨_,_,_,_,_,_,_,_,h,_⟩;exact SqL.of h
     ·rintro i y σ H3 hi ⟨O2,kvs,fall,v4,rfl,st,W,kp,hol,pB,hkv,yO,Qu⟩;rw[YLt]at hi;obtain⟨r,er,rfl⟩:=YMV.mp hi;have hrN:=(uZ.2 r).mp (YLu er);obtain⟨ρ,hρ⟩:=gAt hrN;refine⟨_,Z,S.x,S.dx,_,Z,hxT st,Z,_,Z,_,Z,_,Z,_,Z,_,Z,il,_,_,_,Z,Z,SqL.of kp.1,Yn (a1 r hrN),S,own,ps,H0,O2,FF,KK,r,b,m,ρ,ai r,inn r,Z,pre,st,pso,hρ,hbm,hK r ρ hρ,kp.2 r ρ hρ,λa H4 ha s4 p4 h4=>?_⟩;obtain⟨L,eL⟩:∃L,ZF S.cut O2 (λd k=>FF r d b k) (inn r) ρ.2.1 b (b + m)=L:=⟨_,Z⟩;rw[eL]at h4;have oa:=st.free_ ha;have wR:=s4 _ _ pB;refine⟨_,Z,_,Z,ld,_,Z,YBh.k (k:=Sum.inl (r:Int)) wR (YL9 (show kvs.length < 1000 by have:=hkv.len;lia) (YH (YLr _))),?_⟩;have mY:=(st.same s4 p4).putD (kvs':=Za kvs (Sum.inl (r:Int)) (.ref a)) wR nld Bl;have k5:∀c o,(∀kv,o≠.dK kv)->H3 c=some o->upd H4 ld (.dK (Za kvs (Sum.inl (r:Int)) (.ref a))) c=some o:=λc o ho e=>by
       rw[YJ (λz=>by rw[z,pB]at e;exact ho _ (YMO e).symm)];exact s4 _ _ e
      have yl:upd H4 ld (.dK (Za kvs (Sum.inl (r:Int)) (.ref a))) il=some (.lst ys)/\∀r' ρ,S.g[r']?=some ρ->upd H4 ld (.dK (Za kvs (Sum.inl (r:Int)) (.ref a))) (ai r')=some (.lst (X0 (rch S.s ρ.2.1) (inn r'))):=⟨k5 _ _ (λ_ z=>nomatch z) kp.1,λr' ρ' h'=>k5 _ (.lst _) (λ_ z=>nomatch z) (kp.2 r' ρ' h')⟩;have lZ:=k5 _ (.lst _) (λ_ z=>nomatch z) hol;have Qv:upd H4 ld (.dK (Za kvs (Sum.inl (r:Int)) (.ref a))) a=some (.lst (XF (rch S.s ρ.2.1) L)):=by rw[YJ (YEl h4 wR nofun)];exact h4
      have lC:upd H4 ld (.dK (Za kvs (Sum.inl (r:Int)) (.ref a))) ld=some (.dK (Za kvs (Sum.inl (r:Int)) (.ref a))):=YD;have qz:∀rs,LnOk S own O2 FF b m inn kvs H3 rs->r∉rs->(rch S.s ρ.2.1=ρ.2.1.length->O2 ρ.1 b (b + m)<=L ρ.2.1.length)->LnOk S own O2 FF b m inn (Za kvs (Sum.inl (r:Int)) (.ref a)) (upd H4 ld (.dK (Za kvs (Sum.inl (r:Int)) (.ref a)))) (rs ++ [r]):=λrs hl yP hle r' hr' ρ' hρ'=>by
       rcases YMN.mp hr' with hr' |hr'
       ·obtain⟨Bm,e1,e2,e3,e4⟩:=hl r' hr' ρ' hρ';refine⟨Bm,?_,e2,k5 _ _ (λ_ z=>nomatch z) e3,e4⟩;rw[YB2,if_neg λz=>yP ?_]
        ·exact e1
        ·have:=Sum.inl.inj z;have:r'=r:=by lia
         exact this ▸ hr'
       ·have:=YL1.mp hr';subst this;rw[hρ]at hρ';cases hρ';refine⟨a,by rw[YB2,if_pos rfl],oa,by rw[eL];exact Qv,by rw[eL];exact hle⟩
      revert mY yl lZ Qv lC qz;clear k5;generalize upd H4 ld (.dK (Za kvs (Sum.inl (r:Int)) (.ref a)))=H5;intro mY yl lZ Qv lC qz;have zb:=hkv.put hrN (.ref a);have et:sO.take (i + 1)=sO.take i ++ [r]:=by rw[YMb,er];rfl
      have yP:r∉sO.take i:=YDP uZ.1 er;have Bo:Jf H5 ld (nI r) (some (.ref a)):=by
       have:=Jf.k (k:=Sum.inl (r:Int)) lC;rw[YB2,if_pos rfl]at this;exact this
      refine⟨_,Z,S.x,S.dx,_,Z,hxT mY,Z,_,Z,_,Z,_,Z,_,Z,_,Z,ld,_,Z,Bo,S,own,ps,H0,O2,FF,KK,r,b,b + m,ρ,a,L,Z,pre,mY,pso,hρ,Nat.le_add_right _ _,hbm,Qv,λhno=>?_,λcW hlt' H6 mZ k6=>?_⟩
      ·refine⟨false,Z,ZA ?_⟩;refine⟨O2,_,fall,_,Z,mY,W,yl,lZ,lC,zb,λhf=>?_,Qu⟩;obtain⟨e1,e2⟩:=yO hf;refine⟨e1,?_⟩;rw[et];refine qz _ e2 yP λcW=>?_
       rcases hno with h |h
       ·lia
       ·rw[cW]at h;exact h
      ·refine⟨true,Z,ZG ?_⟩;have hv:∃v,look S.s ρ.1=some v:=by
        obtain⟨k',hk'⟩:=YDO (s:=S.s) (q:=S.put) (ps:=ρ.2.1) (a:=1) λp hp=>by
         obtain⟨j,hj,ej⟩:=YNE.mp hp;obtain⟨p',e1,e2⟩:=JA (s:=S.s) (ps:=ρ.2.1) (j:=j) (by lia);rw[YLs hj,ej]at e1;cases e1;exact e2
        obtain⟨v,hv,_⟩:=pre.fx ρ (YLu hρ) k' hk';exact⟨v,hv⟩
       obtain⟨v,hv⟩:=hv;rw[cW]at hlt' mZ;have x1:=W.pos1 pre I hbm hin hρ (d:=ρ.2.1.length) (by lia);rw[eL]at x1;refine⟨_,_,true,_,Z,mZ,W.lower pre I hbm hin hρ cW hv (by rw[eL]) hlt',hkeep k6 yl,k6 _ _ zY lZ,k6 _ _ old lC,zb,nofun,λ_=>?_⟩;have m1:=YIX (T:=S) hv (by lia) hlt';cases fall with
       |true=>exact Nat.lt_trans m1 (Qu rfl)
       |false=>rw[<-(yO rfl).1];exact m1
     ·rintro σ H3 ⟨O2,kvs,fall,v4,rfl,st,W,kp,hol,pB,hkv,yO,Qu⟩;rw[YLp,YMn]at yO;refine⟨2 * YFO S O2 b m + (if fall=true then 1 else 0),?_,O2,uh,sO,kvs,fall,_,_,Z,Z,st,W,kp,uZ,zY,hol,pB,hkv,λhf=>(yO hf).2⟩;rw[ek,if_pos rfl];cases fall with
      |true=>
       have:=Qu rfl;rw[if_pos rfl]
       lia
      |false=>
       rw[(yO rfl).1,if_neg YL7]
       lia
    |false=>
     refine ZA ?_;have qM:=qM rfl;clear hkeep ek;refine⟨_,Z,ol,Z,⟨_,SqL.of hol⟩,YAH (K:=K) (a:=ol) (xs:=os.map nI) (TsF S own ps H0 FF KK b m inn il ld ol os O1 v3 H2)
      ⟨FF,KK,_,_,_,Z,st,(λ_ _ _ e=>e),(λ_ _ _ _ _=>rfl),(λr hr=>by rw[YM9]at hr;cases hr),(λ_ _ _=>rfl),λ_ _ _ _=>rfl⟩ ?_ ?_ ?_⟩
     ·rintro i σ H3 _ ⟨F',K',v4,v9,gK,rfl,jh,k3,_⟩;exact SqL.of (k3 _ _ ool hol)
     ·rintro i y σ H3 hi ⟨F',K',v4,v9,gK,rfl,jh,k3,A1,A2,A3,A4⟩;rw[YLt]at hi;obtain⟨r,er,rfl⟩:=YMV.mp hi;have hrm:=YLu er;have hrN:=(yN.2 r).mp hrm;obtain⟨ρ,hρ⟩:=gAt hrN;have yP:r∉os.take i:=YDP yN.1 er;have et:os.take (i + 1)=os.take i ++ [r]:=by rw[YMb,er];rfl
      have h6:=(J3 pre.g (YLu hρ)).2.1;have sS:=YAB S.s ρ.2.1;obtain⟨a,Bp,RM,Eg,RN⟩:=qM r hrm ρ hρ;obtain⟨L,eL⟩:∃L,ZF S.cut O1 (λd k=>FF r d b k) (inn r) ρ.2.1 b (b + m)=L:=⟨_,Z⟩;rw[eL]at Eg;have jZ:=k3 _ _ old pB;have Bq:Jf H3 ld (nI r) (some (.ref a)):=by
       have:=Jf.k (k:=Sum.inl (r:Int)) jZ;rw[Bp]at this;exact this
      refine⟨_,Z,_,Z,ld,_,Z,Bq,a,Z,⟨_,.inl (k3 _ _ RM Eg)⟩,XD (K:=K) (a:=a) (xs:=XF (rch S.s ρ.2.1) L) (TsE S own ps H0 FF KK b m inn il ld ol os O1 v3 H2 i r L)
       ⟨F',K',_,_,Z,jh,k3,A1,A2,(λr' h _=>A3 r' h),A4,(λd h=>absurd h (YNT _)),λd _=>A3 r yP d⟩ ?_ ?_ ?_⟩
      ·rintro j σ H4 _ ⟨F'',K'',v9,gK,rfl,rY,k4,_⟩;exact SqL.of (k4 _ _ RM Eg)
      ·rintro j y T' σ H4 hj hT' ⟨F'',K'',v9,gK,rfl,rY,k4,B1,B2,B3,B4,B5,B6⟩;have hjR:j<=rch S.s ρ.2.1:=by
        have:=(YLv.mp hj).1;unfold XF at this;rw[YLp,YLp,YMH]at this
        lia
       unfold XF at hj;rw[YLt,YLt,YMh (by lia)]at hj;cases hj;have s5:=YN.upd (o:=.tup [.int (j:Nat),V.int (L j)]) hT';have mY:=rY.same s5 (rY.pl.upd rfl);have k5:∀c o,own c=none->H2 c=some o->upd H4 T' (.tup [.int (j:Nat),V.int (L j)]) c=some o:=λc o h1 h2=>s5 _ _ (k4 c o h1 h2)
       refine⟨T',_,Z,SqT.of YD,Z,_,_,Z,_,_,Z,Z,?_⟩;revert mY k5;generalize upd H4 T' (.tup [.int (j:Nat),V.int (L j)])=H5;intro mY k5;obtain⟨ts,t,ds,haf,zT,ht,hdl,cU⟩:=mY.fi hρ (by rw[pre.r];exact hrN);obtain⟨u,es,c,at2,hu2,zU,hc1,hc⟩:=cU j hjR b (by lia);have eK:K'' r j b=m:=by rw[B6 j (YLr _)];exact hK r ρ hρ j hjR
       refine⟨_,Z,S.x,C.Toller,S.dx,_,_,Z,hxT mY,T.aa,T.aN,Z,_,Z,S.af,_,_,_,Z,Z,SqL.of haf,zT,_,Z,t,_,_,_,Z,Z,SqL.of ht,at2,_,Z,u,_,_,_,Z,Z,SqL.of hu2,zU,.inl ⟨Z,_,SqL.of hc⟩,_,Z,c,_,_,Z,Z,hc,YL9 (show((fiR F'' r j b (K'' r j b)).map V.int).length < 1000 by unfold fiR;rw[YLp,YLp,YMH];lia) (YH (YLr _)),?_⟩;have mZ:=mY.addF hc1 (L j);have e6:(fiR F'' r j b (K'' r j b)).map V.int ++ [V.int (L j)]=(fiR F'' r j b (K'' r j b) ++ [L j]).map V.int:=by rw[YL2];rfl
       show TsE S own ps H0 FF KK b m inn il ld ol os O1 v3 H2 i r L _ _ (upd H5 c (.lst ((fiR _ r j b _).map V.int ++ [V.int (L j)])));rw[e6];rw[eK]at mZ ⊢;have fF:∀r' d' b' k',¬(r'=r/\d'=j/\b'=b/\k'=m)->upF F'' r j b m (L j) r' d' b' k'=F'' r' d' b' k':=λr' d' b' k' h=>if_neg h
       have fK:∀r' d' b',¬(r'=r/\d'=j/\b'=b)->upK K'' r j b (m + 1) r' d' b'=K'' r' d' b':=λr' d' b' h=>if_neg h
       refine⟨_,_,_,_,Z,mZ,λc' o' h1 h2=>?_,λr' d' b' k' h=>?_,λr' hr' ρ' hρ' d' hd'=>?_,λr' hr' hne d'=>?_,λr' d' b' h=>?_,λd' hd'=>?_,λd' hd'=>?_⟩
       ·rw[YJ (λz=>by rw[z,hc1]at h1;cases h1)];exact k5 c' o' h1 h2
       ·rw[fF _ _ _ _ λz=>h z.2.2];exact B1 r' d' b' k' h
       ·have hne:r'≠r:=λz=>yP (z ▸ hr')
        rw[fF _ _ _ _ λz=>hne z.1,fK _ _ _ λz=>hne z.1];exact B2 r' hr' ρ' hρ' d' hd'
       ·rw[fK _ _ _ λz=>hne z.1];exact B3 r' hr' hne d'
       ·rw[fK _ _ _ λz=>h z.2.2];exact B4 r' d' b' h
       ·by_cases Eh:d'=j
        ·subst Eh;exact⟨if_pos ⟨Z,Z,Z,Z⟩,if_pos ⟨Z,Z,Z⟩⟩
        ·rw[fF _ _ _ _ λz=>Eh z.2.1,fK _ _ _ λz=>Eh z.2.1];exact B5 d' (by lia)
       ·rw[fK _ _ _ λz=>by lia];exact B6 d' (by lia)
      ·rintro σ H4 ⟨F'',K'',v9,gK,rfl,rY,k4,B1,B2,B3,B4,B5,B6⟩;have ell:(XF (rch S.s ρ.2.1) L).length=rch S.s ρ.2.1 + 1:=by unfold XF;rw[YLp,YLp,YMH]
       rw[ell]at B5 B6;refine⟨F'',K'',_,_,_,Z,rY,k4,B1,λr' hr' ρ' hρ' d' hd'=>?_,λr' hr' d'=>?_,B4⟩
       ·rw[et]at hr';rcases YMN.mp hr' with h |h
        ·exact B2 r' h ρ' hρ' d' hd'
        ·have:=YL1.mp h;subst this;rw[hρ]at hρ';cases hρ';rw[eL];exact B5 d' (by lia)
       ·rw[et]at hr';exact B3 r' (λz=>hr' (YMc _ z)) (λz=>hr' (YMB _ (YL1.mpr z))) d'
     ·rintro σ H3 ⟨F',K',v4,v9,gK,rfl,jh,k3,A1,A2,A3,A4⟩;rw[YLp,YMn]at A2 A3;have p_:=λ(r:Nat) (ρ:Yp) (hρ:S.g[r]?=some ρ)=>(yN.2 r).mpr (YLv.mp hρ).1
      refine q O1 F' K' H3 jh (W.fin pre I hbm hin (λr ρ hρ cW=>?_) A1 λr ρ hρ d hd=>(A2 r (p_ r ρ hρ) ρ hρ d hd).1) λr ρ hρ d hd b' hb'=>?_
      ·obtain⟨a,_,_,_,RN⟩:=qM r (p_ r ρ hρ) ρ hρ;exact RN cW
      ·by_cases hbb:b'=b
       ·subst hbb;rw[(A2 r (p_ r ρ hρ) ρ hρ d hd).2];unfold cnt;rw[if_pos hbm,if_pos (Nat.lt_succ_self _)]
       ·rw[A4 r d b' hbb,kok r ρ hρ d hd b' hb'];unfold cnt;have:(b' < b)=(b' < b + 1):=propext ⟨λh=>by lia,λh=>by lia⟩;simp only[this]
end
theorem sgT_pos {t p:Str}{put cut swap:Int} (h1:0<=put) (h2:0<=cut) (h3:0<=swap) {b e:Nat}:0<=sgT t put cut swap p b e:=by
 unfold sgT;split
 ·exact h1
 ·next hne=>
  have a1:0<=((e:Int) - b - 1) * cut:=YMv (by lia) h2;have a2:0<=((e:Int) - b) * cut:=YMv (by lia) h2;have a3:(0:Int)<=(if YBA (YAN p) t b e=true then 0 else swap):=by split <;> lia
  split <;> lia
inductive YD9 (C:Addr) (vs:List V) (H:Hp) (Q:VK):Prop where
 |mk (T:Tol) (own:Addr->Option XE) (ps:List Str) (H0:Hp) (a_:vs=[.ref T.x]) (bc:YCo C T) (bJ:TSt T own ps H0 H (ovO T) noF noK) (cA:YD7 T.g T.s ps) (dm:∀O F K H',TSt T own ps H0 H' O F K->YDA T O F (T.n + 1) 0->KOk T K (T.n + 1) 0->Q .non H'):YD9 C vs H Q
def YFP (C:Addr):Sp:=λvs H Q E_=>YD9 C vs H Q
section
variable {P:Program}{w:World}{K:W.Frag}{mg:Str->Option Value}{base:Heap}{C:Adr}
theorem Zw:YX ["self","places","many","begin"] ["self"] (YQ Jo):=⟨Z,Z,Z,by decide +kernel,Z,by decide +kernel,by decide +kernel⟩
theorem YBs {f:Addr}{fd:FuncData} (F:Fun K "take_all" "Toller.take_all" Jo f fd) (T:Txt K mg C) (bL:XA P w K mg CX0 2 C.Toller "take_span" ["self","begin","end"] (YJB C.Toller)):Yt P w K mg base CX0 3 f fd ["self"] (YFP C.Toller):=by
 obtain⟨qb,pG,ig,gA,ik⟩:=bL.ok;refine F.ok Zw (λvs H Q E h=>?_) (λaO A outer s H vs Q E hr h=>?_)
 ·cases h;subst_vars;rfl
 ·obtain⟨S,own,ps,H0,rfl,pre,st,pso,q⟩:=h;have hu:=Zq hr;refine⟨_,(YG (YK (i:=1) Zw.nd rfl (Or.inl rfl) (YI Ye (YO Yz (by rfl) T.ak YLq (YA (YY K rfl (pv 0) rfl) YB)) YC))
   (YF (Yq PassesOwn.never rfl (Y7 rfl T.aG (YA (pv 1) YB)) (YU (i:=2) Zw.nd rfl (Or.inl rfl)) (YF (Yq PassesOwn.never rfl (Y7 rfl T.aG (YA (YI JI (pv 1) (pv 2)) YB)) (YU (i:=3) Zw.nd rfl (Or.inl rfl)) (YF (Yr (Zs (pv 0) T.aa gA (ig base) (hr.mono (by decide)) ik .nil Yi (YA (pv 3) (YA (YI Ye (pv 3) (pv 2)) YB)))))))))),?_⟩
  have line:∀k:Nat,k<=61->k<=sizeLine:=λk hk=>YMP hk (YH (by decide))
  have hn:=pre.n;have vY:=pre.t;have hxT:∀{H' O F K},TSt S own ps H0 H' O F K->H' S.x=some (.ins C.Toller S.dx S.fld):=λh=>by rw[<-pre.c];exact h.hx
  have I0:YDA S (ovO S) noF 0 0:=by
   refine⟨λp b e=>?_,λp b e hq=>if_pos hq,λb' m' h=>?_⟩
   ·unfold ovO;split
    ·exact sgT_pos pre.put0 pre.cut0 pre.sw0
    ·exact YMi _
   ·rcases h.2 with h |h <;> lia
  have K0:KOk S noK 0 0:=λr ρ hρ d hd b' hb'=>by
   unfold cnt;rw[if_pos (by lia),if_neg (YNT _)];rfl
  refine⟨_,Z,S.x,C.Toller,S.dx,_,_,Z,hxT st,T.aa,T.bh,Z,_,Z,line _ (by lia),_,_,Z,Z,?_⟩;have epl:((S.t.length:Int) + 1)=((S.n + 1:Nat):Int):=by rw[vY];rfl
  refine⟨_,Z,((S.n + 1:Nat):Int),by rw[epl],by lia,by lia,?_⟩;refine ZI (lo:=0) (n:=S.n + 1) (λi σ H2=>∃O F K v2 v3,σ=[some (.ref S.x),some (.int ((S.t.length:Int) + 1)),v2,v3]/\TSt S own ps H0 H2 O F K/\YDA S O F i 0/\KOk S K i 0) ⟨_,_,_,none,none,Z,st,I0,K0⟩ ?_ ?_
  ·rintro i σ H2 hi ⟨O,FF,KK,v2,v3,rfl,st,I,kok⟩;refine⟨_,Z,_,Z,_,_,Z,Z,((S.n + 1 - i:Nat):Int),by rw[epl,show((S.n + 1:Nat):Int) - (0 + (i:Int))=((S.n + 1 - i:Nat):Int) by lia],by lia,by lia,?_⟩;refine ZI (lo:=0) (n:=S.n + 1 - i) (λj σ H3=>∃O F K v3,σ=[some (.ref S.x),some (.int ((S.t.length:Int) + 1)),some (.int (0 + (i:Int))),v3]/\TSt S own ps H0 H3 O F K/\YDA S O F i j/\KOk S K i j) ⟨O,FF,KK,v3,Z,st,I,kok⟩ ?_ ?_
   ·rintro j σ H3 hj ⟨O,FF,KK,v3,rfl,st,I,kok⟩;refine⟨_,Z,S.x,S.dx,_,Z,hxT st,Z,_,Z,_,Z,_,Z,_,_,Z,Z,S,own,ps,H0,O,FF,KK,j,i,?_,pre,st,pso,I,kok,by lia,λO' F' K' H' st' I' k'=>⟨O',F',K',_,Z,st',I',k'⟩⟩;rw[YMk,YMk];rfl
   ·rintro σ H3 ⟨O,FF,KK,v3,rfl,st,I,kok⟩;refine⟨O,FF,KK,_,_,Z,st,⟨I.pos,I.sg,λb' m' h=>I.dn b' m' ⟨h.1,?_⟩⟩,λr ρ hρ d hd b' hb'=>?_⟩
    ·have:=h.1;rcases h.2 with h |h <;> lia
    ·rw[kok r ρ hρ d hd b' hb'];unfold cnt
     by_cases h1:b' + i<=S.n
     ·rw[if_pos h1,if_pos (by lia)]
      by_cases h2:b' + (i + 1)<=S.n
      ·rw[if_pos h2,if_neg (YNT _)]
      ·rw[if_neg h2]
       lia
     ·rw[if_neg h1,if_neg (by lia)]
  ·rintro σ H2 ⟨O,FF,KK,v2,v3,rfl,st,I,kok⟩;exact q O FF KK H2 st I kok
end
def YBt (O:OvF) (F:FiF):Nd->Int
 |.part p b e=>O p b e
 |.beg r d b e=>F r d b (e - b)
def FdT (H:Hp) (kvs:List (List Key×V)) (fs:List (Nd×Int)):Prop:=kvs.length=fs.length/\∀(i:Nat) (kv:List Key×V) (x:Nd×Int),kvs[i]?=some kv->fs[i]?=some x->∃t,kv=(Z6 x.1,.ref t)/\H t=some (.tup [.int (x.2 / M60),.int (x.2 % M60)])
theorem FdT.keep {H H':Hp}{kvs:List (List Key×V)}{fs:List (Nd×Int)} (h:FdT H kvs fs) (k:∀t ys,H t=some (.tup ys)->H' t=some (.tup ys)):FdT H' kvs fs:=⟨h.1,λi kv x e1 e2=>let ⟨t,h1,h2⟩:=h.2 i kv x e1 e2;⟨t,h1,k _ _ h2⟩⟩
theorem FdT.keys {H:Hp}{kvs:List (List Key×V)}{fs:List (Nd×Int)} (h:FdT H kvs fs):kvs.map (·.1)=fs.map λx=>Z6 x.1:=by
 apply YNV;intro i;rw[YLt,YLt];rcases YMt i kvs.length with hi |hi
 ·have e1:=YLs hi;have e2:=YLs (show i < fs.length by rw[<-h.1];exact hi);obtain⟨t,h1,_⟩:=h.2 i _ _ e1 e2;rw[e1,e2,h1];rfl
 ·rw[YMf hi,YMf (by rw[<-h.1];exact hi)];rfl
theorem FdT.val {H:Hp}{kvs:List (List Key×V)}{fs:List (Nd×Int)} (h:FdT H kvs fs) (nd:Nd):(Zo kvs (Z6 nd)=none/\nd∉fs.map (·.1))\/∃t v,Zo kvs (Z6 nd)=some (.ref t)/\(nd,v)∈fs/\H t=some (.tup [.int (v / M60),.int (v % M60)]):=by
 cases hv:Zo kvs (Z6 nd) with
 |none=>
  refine .inl ⟨Z,λhm=>?_⟩;have:Z6 nd∈kvs.map (·.1):=by
   rw[h.keys];obtain⟨x,h1,h2⟩:=YMD.mp hm;exact YMD.mpr ⟨x,h1,by rw[h2]⟩
  obtain⟨kv,h1,h2⟩:=YMD.mp this;have:=Xk (Z6 nd) kvs;rw[hv,List.any_eq_true.mpr ⟨kv,h1,YLw h2⟩]at this;cases this
 |some y=>
  unfold Zo at hv;obtain⟨kv,h1,h2⟩:=YMV.mp hv;have hk:=List.find?_some h1;have hk:=YME hk;obtain⟨i,hi,ei⟩:=YNE.mp (YNQ h1);have e1:kvs[i]?=some kv:=by rw[YLs hi,ei]
  obtain⟨x,e2⟩:∃x,fs[i]?=some x:=⟨_,YLs (by rw[<-h.1];exact hi)⟩;obtain⟨t,g1,g2⟩:=h.2 i _ _ e1 e2;have:x.1=nd:=YLH (by rw[<-hk,g1]);refine .inr ⟨t,x.2,by rw[<-h2,g1],?_,g2⟩;rw[<-this];exact YLu e2
theorem FdT.snoc {H:Hp}{kvs:List (List Key×V)}{fs:List (Nd×Int)} (h:FdT H kvs fs) {nd:Nd}{v:Int}{t:Addr} (ht:H t=some (.tup [.int (v / M60),.int (v % M60)])) (hn:nd∉fs.map (·.1)):FdT H (Za kvs (Z6 nd) (.ref t)) (fs ++ [(nd,v)]):=by
 have hv:Zo kvs (Z6 nd)=none:=by
  rcases h.val nd with h1 |⟨t',v',_,h2,_⟩
  ·exact h1.1
  ·exact absurd (YMD.mpr ⟨_,h2,Z⟩) hn
 rw[L2.YGU _ hv];refine⟨by rw[YLy,YLy,h.1];rfl,λi kv x e1 e2=>?_⟩;rcases YMt i kvs.length with hi |hi
 ·rw[YMs hi]at e1;rw[YMs (by rw[<-h.1];exact hi)]at e2;exact h.2 i kv x e1 e2
 ·rw[YMd hi]at e1;rw[YMd (by rw[<-h.1];exact hi),<-h.1]at e2;have hz:i - kvs.length=0:=by
   have:=(YLv.mp e1).1;simp only[YL8,YNB]at this
   lia
  rw[hz]at e1 e2;cases e1;cases e2;exact⟨t,Z,ht⟩
structure FdP (O:OvF) (F:FiF) (fs:List (Nd×Int)) (Pg:Nd->Prop):Prop where
 nd:(fs.map (·.1)).Nodup
 val:∀x∈fs,x.2=YBt O F x.1
 mem:∀n,n∈fs.map (·.1)<->Pg n
theorem FdP.snoc {O:OvF}{F:FiF}{fs:List (Nd×Int)}{Pg Pg':Nd->Prop} (h:FdP O F fs Pg) {n:Nd} (hn:¬Pg n) (hp:∀n',Pg' n'<->Pg n'\/n'=n):FdP O F (fs ++ [(n,YBt O F n)]) Pg':=by
 have hn':n∉fs.map (·.1):=λz=>hn ((h.mem n).mp z)
 refine⟨by rw[YL2];exact YBP h.nd hn',λx hx=>?_,λn'=>?_⟩
 ·rcases YMN.mp hx with hx |hx
  ·exact h.val x hx
  ·rw[YL1.mp hx]
 ·rw[YL2,YMN,h.mem,hp];exact or_congr Iff.rfl YL1
theorem FdP.iff {O:OvF}{F:FiF}{fs:List (Nd×Int)}{Pg Pg':Nd->Prop} (h:FdP O F fs Pg) (hp:∀n',Pg' n'<->Pg n'):FdP O F fs Pg':=⟨h.nd,h.val,λn=>(h.mem n).trans (hp n).symm⟩
structure Tld (H:Hp) (ao d:Addr) (o:Obj) (kvA:List (Key×V)) (O:OvF) (F:FiF) (H2:Hp) (kvs:List (List Key×V)) (fs:List (Nd×Int)) (Pg:Nd->Prop):Prop where
 kp:∀c w,c≠ao->H c=some w->H2 c=some w
 pl:∀c w,c≠d->H2 c=some w->YBi w=true
 ha:H2 ao=some (.frz o (.dK kvA))
 hd:H2 d=some (.dT kvs)
 fd:FdT H2 kvs fs
 fp:FdP O F fs Pg
section
variable {H:Hp}{ao d:Addr}{o:Obj}{kvA:List (Key×V)}{O:OvF}{F:FiF}{H2:Hp}{kvs:List (List Key×V)}{fs:List (Nd×Int)}{Pg Pg':Nd->Prop}
theorem Tld.new (h:Tld H ao d o kvA O F H2 kvs fs Pg) {t:Addr}{ys:List V} (ht:H2 t=none):Tld H ao d o kvA O F (upd H2 t (.tup ys)) kvs fs Pg:=by
 have s:=YN.upd (o:=.tup ys) ht;refine⟨λc w h1 h2=>s _ _ (h.kp c w h1 h2),λc w h1 h2=>?_,s _ _ h.ha,s _ _ h.hd,h.fd.keep λt ys e=>s _ _ e,h.fp⟩
 by_cases hc:c=t
 ·rw[hc,YD]at h2;cases h2;rfl
 ·rw[YJ hc]at h2;exact h.pl c w h1 h2
theorem Tld.put (h:Tld H ao d o kvA O F H2 kvs fs Pg) {t:Addr}{n:Nd} (ht:H2 t=some (.tup [.int (YBt O F n / M60),.int (YBt O F n % M60)])) (hn:¬Pg n) (hp:∀n',Pg' n'<->Pg n'\/n'=n) (RP:H d=none):Tld H ao d o kvA O F (upd H2 d (.dT (Za kvs (Z6 n) (.ref t)))) (Za kvs (Z6 n) (.ref t)) (fs ++ [(n,YBt O F n)]) Pg':=by
 have st:∀{c w},(∀k,w≠.dT k)->H2 c=some w->upd H2 d (.dT (Za kvs (Z6 n) (.ref t))) c=some w:=λhw e=>by
  rw[YJ (λz=>by rw[z,h.hd]at e;exact hw _ (YMO e).symm)];exact e
 refine⟨λc w h1 h2=>?_,λc w h1 h2=>?_,st (λ_ z=>nomatch z) h.ha,YD,?_,h.fp.snoc hn hp⟩
 ·rw[YJ (λz=>by rw[z,RP]at h2;cases h2)];exact h.kp c w h1 h2
 ·rw[YJ h1]at h2;exact h.pl c w h1 h2
 ·have f:=h.fd.snoc ht λz=>hn ((h.fp.mem n).mp z)
  exact f.keep λt ys e=>st (λ_ z=>nomatch z) e
theorem Tld.iff (h:Tld H ao d o kvA O F H2 kvs fs Pg) (hp:∀n',Pg' n'<->Pg n'):Tld H ao d o kvA O F H2 kvs fs Pg':=⟨h.kp,h.pl,h.ha,h.hd,h.fd,h.fp.iff hp⟩
end
def pg1 (n:Nat) (P:List Str):Nd->Prop
 |.part p b e=>p∈P/\b<=e/\e<=n
 |.beg _ _ _ _=>False
def pg3 (n:Nat) (P:List Str) (p:Str) (j k:Nat):Nd->Prop
 |.part p' b e=>(p'∈P/\b<=e/\e<=n)\/(p'=p/\b<=e/\(e < j\/(e=j/\b < k)))
 |.beg _ _ _ _=>False
def pg7 (T:Tol) (ps:List Str) (r d b k:Nat):Nd->Prop
 |.part p b e=>p∈ps/\b<=e/\e<=T.n
 |.beg r' d' b' e=>(∃ρ,T.g[r']?=some ρ/\d'<=rch T.s ρ.2.1)/\b'<=e/\e<=T.n/\(r' < r\/(r'=r/\(d' < d\/(d'=d/\(b' < b\/(b'=b/\e < b + k))))))
def YBu (T:Tol) (ps:List Str):Nd->Prop
 |.part p b e=>p∈ps/\b<=e/\e<=T.n
 |.beg r d b e=>(∃ρ,T.g[r]?=some ρ/\d<=rch T.s ρ.2.1)/\b<=e/\e<=T.n
inductive YJC (C:Addr) (vs:List V) (H:Hp) (Q:VK):Prop where
 |mk (T:Tol) (own:Addr->Option XE) (ps:List Str) (H0:Hp) (O:OvF) (F:FiF) (K:Nat->Nat->Nat->Nat) (a_:vs=[.ref T.x]) (bc:YCo C T) (bJ:TSt T own ps H0 H O F K) (cA:YD7 T.g T.s ps) (dm:KOk T K (T.n + 1) 0) (gM:H0 T.ao=none) (lq:∀d o kvs fs H',YN H0 H'->YR H'->H' d=some (.frz o (.dT kvs))->FdT H' kvs fs->FdP O F fs (YBu T ps)->Q (.ref d) H'):YJC C vs H Q
def YLT (C:Addr):Sp:=λvs H Q E_=>YJC C vs H Q
section
variable {P:Program}{w:World}{K:W.Frag}{mg:Str->Option Value}{base:Heap}{C:Adr}
theorem YV:YX ["self","found","part","end","line","begin","toll","number","table","done","lines","many"] ["self"] (YQ JL):=⟨Z,Z,Z,by decide +kernel,Z,by decide +kernel,by decide +kernel⟩
theorem YBE {f:Addr}{fd:FuncData} (F:Fun K "told_tolls" "Toller.told_tolls" JL f fd) (T:Txt K mg C):Yt P w K mg base CX0 1 f fd ["self"] (YLT C.Toller):=by
 refine F.ok YV (λvs H Q E h=>?_) (λaO A outer s H vs Q E hr h=>?_)
 ·cases h;subst_vars;rfl
 ·obtain⟨S,own,ps,H0,O,FF,KK,rfl,pre,st,pso,kok,uR,q⟩:=h;have hu:=Zq hr;refine qex ?_;refine⟨_,(YE ⟨(YK (i:=1) YV.nd rfl (Or.inl rfl) YKm)⟩
   (YE ⟨(Yq PassesOwn.never rfl (YI2 (YY K rfl (pv 0) rfl)) (YU (i:=2) YV.nd rfl (Or.inl rfl)) (YF (Yq PassesOwn.never rfl (X3 K rfl rfl T.aZ (YA (ZJ hu (YY K rfl (pv 0) rfl) (pv 2) (λ_ _=>rfl)) YB)) (XS K rfl (n:=2) rfl (ZC (YU (i:=3) YV.nd rfl (Or.inl rfl)) (ZC (YU (i:=4) YV.nd rfl (Or.inl rfl)) XR))) (YF (Yq PassesOwn.never rfl (X3 K rfl rfl T.aZ (YA (pv 4) YB)) (XS K rfl (n:=2) rfl (ZC (YU (i:=5) YV.nd rfl (Or.inl rfl)) (ZC (YU (i:=6) YV.nd rfl (Or.inl rfl)) XR))) (YF (YAX hu (pv 1) (Ze (YA (pv 2) (YA (pv 5) (YA (pv 3) YB)))) (YO YCD (by rfl) T.m9 PyProof.Rows.Boot.«divmod» (YA (pv 6) (YA (YI YAt YC YC) YB))) rfl)))))))⟩
   (YE ⟨(Yq PassesOwn.never rfl (X3 K rfl rfl T.aZ (YA (YY K rfl (pv 0) rfl) YB)) (XS K rfl (n:=2) rfl (ZC (YU (i:=7) YV.nd rfl (Or.inl rfl)) (ZC (YU (i:=8) YV.nd rfl (Or.inl rfl)) XR))) (YF (Yq PassesOwn.never rfl (X3 K rfl rfl T.aZ (YA (pv 8) YB)) (XS K rfl (n:=2) rfl (ZC (YU (i:=9) YV.nd rfl (Or.inl rfl)) (ZC (YU (i:=10) YV.nd rfl (Or.inl rfl)) XR))) (YF (Yq PassesOwn.never rfl (X3 K rfl rfl T.aZ (YA (pv 10) YB)) (XS K rfl (n:=2) rfl (ZC (YU (i:=5) YV.nd rfl (Or.inl rfl)) (ZC (YU (i:=4) YV.nd rfl (Or.inl rfl)) XR))) (YF (Yq PassesOwn.never rfl (X3 K rfl rfl T.aZ (YA (pv 4) YB)) (XS K rfl (n:=2) rfl (ZC (YU (i:=11) YV.nd rfl (Or.inl rfl)) (ZC (YU (i:=6) YV.nd rfl (Or.inl rfl)) XR))) (YF (YAX hu (pv 1) (Ze (ZL (pv 7) (ZL (pv 9) (ZL (pv 5) (ZL (YI Ye (pv 5) (pv 11)) YB))))) (YO YCD (by rfl) T.m9 PyProof.Rows.Boot.«divmod» (YA (pv 6) (YA (YI YAt YC YC) YB))) rfl)))))))))⟩
   (Y1 ⟨(Yc (YLI (pv 1)))⟩)))),?_⟩
  have hn:=pre.n;have hps:=(show PsI S.g S.s ps [] from⟨pso.1,pso.2.1,pso.2.2.1,(λp hp=>by cases hp),pso.2.2.2.2⟩).len pre.g pre.s;have hx:H S.x=some (.ins C.Toller S.dx S.fld):=by rw[<-pre.c];exact st.hx
  obtain⟨kvA,hao,hks,Br⟩:=st.hao;have hkl:kvA.length=ps.length:=by have:=YMw List.length hks;rwa [YLp,YLp]at this
  have naoL:∀{c:Addr}{xs:List V},H c=some (.lst xs)->c≠S.ao:=λe z=>by rw[z,hao]at e;cases e
  have naoX:S.x≠S.ao:=λz=>by rw[z,hao]at hx;cases hx
  have line:∀k:Nat,k < 10000000->k < sizeLine:=λk hk=>Nat.lt_trans hk (by rw[sizeLine_eq];decide)
  have pw:CPow 10 60:=⟨by decide,by decide,by decide⟩;have RQ:((10:Int) ^ (60:Int).toNat).natAbs.log2 < 9000:=by decide +kernel
  refineλd hd=>?_
  have Bs:∀{w},upd H d w S.x=some (.ins C.Toller S.dx S.fld):=λ{w}=>by rw[YJ (Ya hx hd)];exact hx
  refine⟨_,Z,S.x,C.Toller,S.dx,_,_,Z,Bs,T.aa,T.aA,Z,S.ao,kvA,Z,by rw[YJ (Ya hao hd)];exact hao,λo=>?_⟩;have T0:Tld H S.ao d o kvA O FF (upd (upd H d (.dT [])) S.ao (.frz o (.dK kvA))) [] [] (pg1 S.n (ps.take 0)):=by
   have nda:d≠S.ao:=(Ya hao hd).symm;refine⟨λc w h1 h2=>by rw[YJ h1,YJ (Ya h2 hd)];exact h2,λc w h1 h2=>?_,YD,by rw[YJ nda,YD],⟨Z,λi kv x e=>by cases e⟩,⟨List.nodup_nil,(λx hx=>by cases hx),λn=>⟨(λhx=>by cases hx),λhx=>?_⟩⟩⟩
   ·by_cases hc:c=S.ao
    ·rw[hc,YD]at h2;cases h2;rfl
    ·rw[YJ hc,YJ h1]at h2;exact st.pl c w h2
   ·cases n with
    |part p b e=>rw[YM9]at hx;cases hx.1
    |beg=>cases hx
  have hxk:∀{H2 kvs fs Pg},Tld H S.ao d o kvA O FF H2 kvs fs Pg->H2 S.x=some (.ins C.Toller S.dx S.fld):=λt=>t.kp _ _ naoX hx
  refine YCe (Pv:=λi σ H2=>H2 S.ao=some (.frz o (.dK kvA))/\∃kvs fs v2 v3 v4 v5 v6,σ=[some (.ref S.x),some (.ref d),v2,v3,v4,v5,v6,none,none,none,none,none]/\Tld H S.ao d o kvA O FF H2 kvs fs (pg1 S.n (ps.take i))/\fs.length<=i * 3721) ⟨T0.ha,[],[],none,none,none,none,none,Z,T0,YLr _⟩ (λi σ H2 _ h=>h.1) ?_ ?_
  ·rintro i kv σ H2 hkv ⟨_,kvs,fs,v2,v3,v4,v5,v6,rfl,TT,hfl⟩;have hik:=(YLv.mp hkv).1;obtain⟨p,ep,ekv⟩:∃p,ps[i]?=some p/\kv.1=Sum.inr p:=by
    have e:=YMw (λl=>l[i]?) hks;simp only[YLt]at e;rw[hkv]at e;obtain⟨p,h1,h2⟩:=YMV.mp e.symm;exact⟨p,h1,h2.symm⟩
   have hpm:=YLu ep;have Bt:p∉ps.take i:=YDP pso.1 ep;obtain⟨a,bs,g1,g2,g3,g4,g5⟩:=Br p hpm;have ga:=TT.kp _ _ (naoL g3) g3;rw[ekv];refine⟨_,Z,S.x,C.Toller,S.dx,_,_,Z,hxk TT,T.aa,T.aA,Z,_,Z,S.ao,_,Z,.inl ⟨_,Sum.inr p,.inr ⟨o,TT.ha⟩,Z,g1.symm⟩,a,Z,⟨_,.inl ga⟩,XD (K:=K) (a:=a) (xs:=bs.map V.ref) (λj σ H3=>∃kvs fs v3 v4 v5 v6,σ=[some (.ref S.x),some (.ref d),some (.str p),v3,v4,v5,v6,none,none,none,none,none]/\Tld H S.ao d o kvA O FF H3 kvs fs (pg3 S.n (ps.take i) p j 0)/\fs.length<=i * 3721 + j * 61)
    ⟨kvs,fs,_,_,_,_,Z,TT.iff λn'=>?_,by lia⟩ ?_ ?_ ?_⟩
   ·cases n' with
    |part p' b e=>exact⟨λh=>h.elim id λh=>by lia,.inl⟩
    |beg=>exact Iff.rfl
   ·rintro j σ H3 _ ⟨kvs,fs,v3,v4,v5,v6,rfl,TT,_⟩;exact SqL.of (TT.kp _ _ (naoL g3) g3)
   ·rintro j y T' σ H3 hj hT' ⟨kvs,fs,v3,v4,v5,v6,rfl,TT,hfl⟩;rw[YLt]at hj;obtain⟨c,ec,rfl⟩:=YMV.mp hj;have hjn:j<=S.n:=by have:=(YLv.mp ec).1;lia
    obtain⟨hc1,hc⟩:=g5 j c ec;have T2:=TT.new (ys:=[.int (j:Nat),.ref c]) hT';have hcc:=T2.kp _ _ (naoL hc) hc;refine⟨T',_,Z,SqT.of YD,Z,_,_,Z,_,_,Z,Z,?_⟩;refine⟨_,Z,c,Z,⟨_,.inl hcc⟩,XD (K:=K) (a:=c) (xs:=(ovR O p j).map V.int) (λk σ H4=>∃kvs fs v5 v6,σ=[some (.ref S.x),some (.ref d),some (.str p),some (.int (j:Nat)),some (.ref c),v5,v6,none,none,none,none,none]/\Tld H S.ao d o kvA O FF H4 kvs fs (pg3 S.n (ps.take i) p j k)/\fs.length<=i * 3721 + j * 61 + k)
     ⟨kvs,fs,_,_,Z,T2,by lia⟩ ?_ ?_ ?_⟩
    ·rintro k σ H4 _ ⟨kvs,fs,v5,v6,rfl,TT,_⟩;exact SqL.of (TT.kp _ _ (naoL hc) hc)
    ·rintro k y T'' σ H4 hk We ⟨kvs,fs,v5,v6,rfl,TT,hfl⟩;have hkj:k<=j:=by
      have:=(YLv.mp hk).1;unfold ovR at this;rw[YLp,YLp,YMH]at this
      lia
     unfold ovR at hk;rw[YLt,YLt,YMh (by lia)]at hk;cases hk;have T3:=TT.new (ys:=[.int (k:Nat),V.int (O p k j)]) We;refine⟨T'',_,Z,SqT.of YD,Z,_,_,Z,_,_,Z,Z,?_⟩;revert T3;generalize upd H4 T'' (.tup [.int (k:Nat),V.int (O p k j)])=H5;intro T3;refine⟨_,Z,_,_,Z,Z,pw,_,_,Z,by decide,RQ,λt ht=>?_⟩;have T4:=T3.new (ys:=[.int (O p k j / 10 ^ (60:Int).toNat),.int (O p k j % 10 ^ (60:Int).toNat)]) ht;have ym:upd H5 t (.tup [.int (O p k j / 10 ^ (60:Int).toNat),.int (O p k j % 10 ^ (60:Int).toNat)]) t=some (.tup [.int (O p k j / M60),.int (O p k j % M60)]):=YD;revert T4 ym;generalize upd H5 t (.tup [.int (O p k j / 10 ^ (60:Int).toNat),.int (O p k j % 10 ^ (60:Int).toNat)])=H6;intro T4 ym;refine⟨_,Z,_,Z,_,Z,_,Z,YNa (line 3 (by decide)),λkt zZ=>?_⟩;have T5:=T4.new (ys:=[.str p,.int (k:Nat),.int (j:Nat)]) zZ;refine⟨d,_,Z,YBh.t (k:=Z6 (.part p k j)) T5.hd YD (line _ (by rw[T5.fd.1];lia)),?_⟩;have Wf:¬pg3 S.n (ps.take i) p j k (.part p k j):=λh=>by
      rcases h with h |h
      ·exact Bt h.1
      ·lia
     exact⟨_,_,_,_,Z,T5.put (n:=.part p k j) ((YN.upd zZ) _ _ ym) Wf (λn'=>by
      cases n' with
      |part p' b e=>
       show((p'∈ps.take i/\b<=e/\e<=S.n)\/(p'=p/\b<=e/\(e < j\/(e=j/\b < k + 1))))<->(((p'∈ps.take i/\b<=e/\e<=S.n)\/(p'=p/\b<=e/\(e < j\/(e=j/\b < k))))\/Nd.part p' b e=.part p k j);rw[Nd.part.injEq];constructor
       ·rintro(h |⟨h1,h2,h3⟩)
        ·exact .inl (.inl h)
        ·by_cases RT:e=j/\b=k
         ·exact .inr ⟨h1,RT.2,RT.1⟩
         ·exact .inl (.inr ⟨h1,h2,by lia⟩)
       ·rintro((h |⟨h1,h2,h3⟩) |⟨h1,h2,h3⟩)
        ·exact .inl h
        ·exact .inr ⟨h1,h2,by lia⟩
        ·exact .inr ⟨h1,by lia,by lia⟩
      |beg=>exact⟨(λh=>by cases h),λh=>h.elim (λh=>by cases h) λh=>by cases h⟩) hd,by rw[YLy];show _ + 1<=_;lia⟩
    ·rintro σ H4 ⟨kvs,fs,v5,v6,rfl,TT,hfl⟩;have ell:((ovR O p j).map V.int).length=j + 1:=by unfold ovR;rw[YLp,YLp,YMH]
     rw[ell]at TT hfl;refine⟨kvs,fs,_,_,_,_,Z,TT.iff λn'=>?_,by lia⟩;cases n' with
     |part p' b e=>exact or_congr Iff.rfl ⟨λh=>⟨h.1,h.2.1,by lia⟩,λh=>⟨h.1,h.2.1,by lia⟩⟩
     |beg=>exact Iff.rfl
   ·rintro σ H3 ⟨kvs,fs,v3,v4,v5,v6,rfl,TT,hfl⟩;rw[YLp,g4]at TT hfl;refine⟨TT.ha,kvs,fs,_,_,_,_,_,Z,TT.iff λn'=>?_,by lia⟩;have et:ps.take (i + 1)=ps.take i ++ [p]:=by rw[YMb,ep];rfl
    cases n' with
    |part p' b e=>
     show(p'∈ps.take (i + 1)/\b<=e/\e<=S.n)<->_;rw[et];constructor
     ·rintro⟨h1,h2,h3⟩;rcases YMN.mp h1 with h1 |h1
      ·exact .inl ⟨h1,h2,h3⟩
      ·exact .inr ⟨YL1.mp h1,h2,by lia⟩
     ·rintro(⟨h1,h2,h3⟩ |⟨h1,h2,h3⟩)
      ·exact⟨YMc _ h1,h2,h3⟩
      ·exact⟨YMB _ (YL1.mpr h1),h2,by lia⟩
    |beg=>exact Iff.rfl
  ·rintro σ H2 ⟨_,kvs,fs,v2,v3,v4,v5,v6,rfl,TT,hfl⟩;rw[hkl,YMn]at TT;rw[hkl]at hfl;obtain⟨ts,b1,b2,b3,b4⟩:=st.haf;rw[pre.r]at b3;have lR:=XX pre.g;have Wg:=TT.kp _ _ (naoL b2) b2;refine⟨_,Z,S.x,C.Toller,S.dx,_,_,Z,hxk TT,T.aa,T.aN,Z,S.af,Z,⟨_,.inl Wg⟩,XD (K:=K) (a:=S.af) (xs:=ts.map V.ref) (λr σ H3=>∃kvs fs v4 v5 v6 v7 v8 v9 gK gO,σ=[some (.ref S.x),some (.ref d),v2,v3,v4,v5,v6,v7,v8,v9,gK,gO]/\Tld H S.ao d o kvA O FF H3 kvs fs (pg7 S ps r 0 0 0)/\fs.length<=1562820 + r * 26047)
    ⟨kvs,fs,_,_,_,_,_,_,_,_,Z,TT.iff λn'=>?_,by lia⟩ ?_ ?_ ?_⟩
   ·cases n' with
    |part=>exact Iff.rfl
    |beg r' d' b' e=>exact⟨λh=>by have:=h.2.2.2;lia,λh=>by cases h⟩
   ·rintro r σ H3 _ ⟨kvs,fs,v4,v5,v6,v7,v8,v9,gK,gO,rfl,TT,_⟩;exact SqL.of (TT.kp _ _ (naoL b2) b2)
   ·rintro r y T1 σ H3 hr' hT1 ⟨kvs,fs,v4,v5,v6,v7,v8,v9,gK,gO,rfl,TT,hfl⟩;rw[YLt]at hr';obtain⟨t,et,rfl⟩:=YMV.mp hr';have hrl:r < S.g.length:=by have:=(YLv.mp et).1;lia
    obtain⟨ρ,hρ⟩:∃ρ,S.g[r]?=some ρ:=⟨_,YLs hrl⟩;have h6:=(J3 pre.g (YLu hρ)).2.1;have sS:=YAB S.s ρ.2.1;obtain⟨ds,c1,c2,c3,c4⟩:=b4 r t ρ et hρ;have T2:=TT.new (ys:=[.int (r:Nat),.ref t]) hT1;have pL:=T2.kp _ _ (naoL c2) c2;refine⟨T1,_,Z,SqT.of YD,Z,_,_,Z,_,_,Z,Z,?_⟩;refine⟨_,Z,t,Z,⟨_,.inl pL⟩,XD (K:=K) (a:=t) (xs:=ds.map V.ref) (λdd σ H4=>∃kvs fs v4 v5 v6 v9 gK gO,σ=[some (.ref S.x),some (.ref d),v2,v3,v4,v5,v6,some (.int (r:Nat)),some (.ref t),v9,gK,gO]/\Tld H S.ao d o kvA O FF H4 kvs fs (pg7 S ps r dd 0 0)/\fs.length<=1562820 + r * 26047 + dd * 3721)
     ⟨kvs,fs,_,_,_,_,_,_,Z,T2,by lia⟩ ?_ ?_ ?_⟩
    ·rintro dd σ H4 _ ⟨kvs,fs,v4,v5,v6,v9,gK,gO,rfl,TT,_⟩;exact SqL.of (TT.kp _ _ (naoL c2) c2)
    ·rintro dd y T3 σ H4 hd' hT3 ⟨kvs,fs,v4,v5,v6,v9,gK,gO,rfl,TT,hfl⟩;rw[YLt]at hd';obtain⟨u,eu,rfl⟩:=YMV.mp hd';have hdR:dd<=rch S.s ρ.2.1:=by have:=(YLv.mp eu).1;lia
     obtain⟨es,k1,k2,k3,k4⟩:=c4 dd u eu;have T4:=TT.new (ys:=[.int (dd:Nat),.ref u]) hT3;have Qw:=T4.kp _ _ (naoL k2) k2;refine⟨T3,_,Z,SqT.of YD,Z,_,_,Z,_,_,Z,Z,?_⟩;refine⟨_,Z,u,Z,⟨_,.inl Qw⟩,XD (K:=K) (a:=u) (xs:=es.map V.ref) (λb σ H5=>∃kvs fs v4 v5 v6 gO,σ=[some (.ref S.x),some (.ref d),v2,v3,v4,v5,v6,some (.int (r:Nat)),some (.ref t),some (.int (dd:Nat)),some (.ref u),gO]/\Tld H S.ao d o kvA O FF H5 kvs fs (pg7 S ps r dd b 0)/\fs.length<=1562820 + r * 26047 + dd * 3721 + b * 61)
      ⟨kvs,fs,_,_,_,_,Z,T4,by lia⟩ ?_ ?_ ?_⟩
     ·rintro b σ H5 _ ⟨kvs,fs,v4,v5,v6,gO,rfl,TT,_⟩;exact SqL.of (TT.kp _ _ (naoL k2) k2)
     ·rintro b y T5 σ H5 hb' hT5 ⟨kvs,fs,v4,v5,v6,gO,rfl,TT,hfl⟩;rw[YLt]at hb';obtain⟨c,ec,rfl⟩:=YMV.mp hb';have Bu:b<=S.n:=by have:=(YLv.mp ec).1;lia
      obtain⟨hc1,hc⟩:=k4 b c ec;have eK:KK r dd b=S.n + 1 - b:=by
       rw[kok r ρ hρ dd hdR b Bu];unfold cnt;rw[if_neg (by lia)]
      rw[eK]at hc;have T6:=TT.new (ys:=[.int (b:Nat),.ref c]) hT5;have hc6:=T6.kp _ _ (naoL hc) hc;have ell:((fiR FF r dd b (S.n + 1 - b)).map V.int).length=S.n + 1 - b:=by unfold fiR;rw[YLp,YLp,YMH]
      refine⟨T5,_,Z,SqT.of YD,Z,_,_,Z,_,_,Z,Z,?_⟩;refine⟨_,Z,c,Z,⟨_,.inl hc6⟩,XD (K:=K) (a:=c) (xs:=(fiR FF r dd b (S.n + 1 - b)).map V.int) (λk σ H6=>∃kvs fs v6 gO,σ=[some (.ref S.x),some (.ref d),v2,v3,some (.ref c),some (.int (b:Nat)),v6,some (.int (r:Nat)),some (.ref t),some (.int (dd:Nat)),some (.ref u),gO]/\Tld H S.ao d o kvA O FF H6 kvs fs (pg7 S ps r dd b k)/\fs.length<=1562820 + r * 26047 + dd * 3721 + b * 61 + k)
       ⟨kvs,fs,_,_,Z,T6,by lia⟩ ?_ ?_ ?_⟩
      ·rintro k σ H6 _ ⟨kvs,fs,v6,gO,rfl,TT,_⟩;exact SqL.of (TT.kp _ _ (naoL hc) hc)
      ·rintro k y T7 σ H6 hk hT7 ⟨kvs,fs,v6,gO,rfl,TT,hfl⟩;have hkn:k < S.n + 1 - b:=by
        have:=(YLv.mp hk).1
        rwa [ell]at this
       unfold fiR at hk;rw[YLt,YLt,YMh hkn]at hk;cases hk;have T8:=TT.new (ys:=[.int (k:Nat),V.int (FF r dd b k)]) hT7;refine⟨T7,_,Z,SqT.of YD,Z,_,_,Z,_,_,Z,Z,?_⟩;revert T8;generalize upd H6 T7 (.tup [.int (k:Nat),V.int (FF r dd b k)])=H7;intro T8;refine⟨_,Z,_,_,Z,Z,pw,_,_,Z,by decide,RQ,λtv Bv=>?_⟩;have T9:=T8.new (ys:=[.int (FF r dd b k / 10 ^ (60:Int).toNat),.int (FF r dd b k % 10 ^ (60:Int).toNat)]) Bv;have eb:b + k - b=k:=by lia
       have yo:upd H7 tv (.tup [.int (FF r dd b k / 10 ^ (60:Int).toNat),.int (FF r dd b k % 10 ^ (60:Int).toNat)]) tv=some (.tup [.int (FF r dd b (b + k - b) / M60),.int (FF r dd b (b + k - b) % M60)]):=by rw[eb];exact YD
       revert T9 yo;generalize upd H7 tv (.tup [.int (FF r dd b k / 10 ^ (60:Int).toNat),.int (FF r dd b k % 10 ^ (60:Int).toNat)])=H8;intro T9 yo;refine⟨_,Z,_,Z,_,Z,_,Z,_,Z,_,Z,_,_,Z,Z,YNa (line 4 (by decide)),λkt zZ=>?_⟩;have Ta:=T9.new (ys:=[.int (r:Nat),.int (dd:Nat),.int (b:Nat),.int ((b:Int) + (k:Int))]) zZ;refine⟨d,_,Z,YBh.t (k:=Z6 (.beg r dd b (b + k))) Ta.hd (by rw[YD];rfl) (line _ (by rw[Ta.fd.1];lia)),?_⟩;have Wh:¬pg7 S ps r dd b k (.beg r dd b (b + k)):=λh=>by have:=h.2.2.2;lia
       exact⟨_,_,_,_,Z,Ta.put (n:=.beg r dd b (b + k)) ((YN.upd zZ) _ _ yo) Wh (λn'=>by
        cases n' with
        |part=>exact⟨.inl,λh=>h.elim id λh=>by cases h⟩
        |beg r' d' b' e=>
         show((∃ρ,S.g[r']?=some ρ/\d'<=rch S.s ρ.2.1)/\b'<=e/\e<=S.n/\(r' < r\/(r'=r/\(d' < dd\/(d'=dd/\(b' < b\/(b'=b/\e < b + (k + 1))))))))<->(((∃ρ,S.g[r']?=some ρ/\d'<=rch S.s ρ.2.1)/\b'<=e/\e<=S.n/\(r' < r\/(r'=r/\(d' < dd\/(d'=dd/\(b' < b\/(b'=b/\e < b + k)))))))\/Nd.beg r' d' b' e=.beg r dd b (b + k));rw[Nd.beg.injEq];constructor
         ·rintro⟨h1,h2,h3,h4⟩
          by_cases hx':r'=r/\d'=dd/\b'=b/\e=b + k
          ·exact .inr hx'
          ·exact .inl ⟨h1,h2,h3,by lia⟩
         ·rintro(⟨h1,h2,h3,h4⟩ |⟨h1,h2,h3,h4⟩)
          ·exact⟨h1,h2,h3,by lia⟩
          ·subst h1 h2 h3 h4;exact⟨⟨ρ,hρ,hdR⟩,by lia,by lia,by lia⟩) hd,by rw[YLy];show _ + 1<=_;lia⟩
      ·rintro σ H6 ⟨kvs,fs,v6,gO,rfl,TT,hfl⟩;rw[ell]at TT hfl;refine⟨kvs,fs,_,_,_,_,Z,TT.iff λn'=>?_,by lia⟩;cases n' with
       |part=>exact Iff.rfl
       |beg r' d' b' e=>exact⟨λh=>⟨h.1,h.2.1,h.2.2.1,by have:=h.2.1;have:=h.2.2.1;have:=h.2.2.2;lia⟩,λh=>⟨h.1,h.2.1,h.2.2.1,by have:=h.2.1;have:=h.2.2.1;have:=h.2.2.2;lia⟩⟩
     ·rintro σ H5 ⟨kvs,fs,v4,v5,v6,gO,rfl,TT,hfl⟩;rw[YLp,k3]at TT hfl;refine⟨kvs,fs,_,_,_,_,_,_,Z,TT.iff λn'=>?_,by lia⟩;cases n' with
      |part=>exact Iff.rfl
      |beg r' d' b' e=>exact and_congr Iff.rfl ⟨λh=>⟨h.1,h.2.1,by lia⟩,λh=>⟨h.1,h.2.1,by lia⟩⟩
    ·rintro σ H4 ⟨kvs,fs,v4,v5,v6,v9,gK,gO,rfl,TT,hfl⟩;rw[YLp,c3]at TT hfl;refine⟨kvs,fs,_,_,_,_,_,_,_,_,Z,TT.iff λn'=>?_,by lia⟩;cases n' with
     |part=>exact Iff.rfl
     |beg r' d' b' e=>
      refine⟨λh=>⟨h.1,h.2.1,h.2.2.1,?_⟩,λh=>⟨h.1,h.2.1,h.2.2.1,by have:=h.2.2.2;lia⟩⟩;obtain⟨ρ',h1,h2⟩:=h.1;have h3:=h.2.2.2
      by_cases hrr:r'=r
      ·subst hrr;rw[hρ]at h1;cases h1
       lia
      ·lia
   ·rintro σ H3 ⟨kvs,fs,v4,v5,v6,v7,v8,v9,gK,gO,rfl,TT,hfl⟩;rw[YLp,b3]at TT;refine⟨_,Z,d,kvs,TT.hd,λo'=>?_⟩;have k0:∀c w,c≠d->H3 c=some w->upd H3 d (.frz o' (.dT kvs)) c=some w:=λc w h1 h2=>by rw[YJ h1];exact h2
    refine q d o' kvs fs _ (λc w h=>?_) (λc w h=>?_) YD (TT.fd.keep λt ys e=>k0 _ _ (λz=>by rw[z,TT.hd]at e;cases e) e) (TT.fp.iff λn'=>?_)
    ·have hc:=st.sm _ _ h;exact k0 _ _ (Ya hc hd) (TT.kp c w (Ya h uR) hc)
    ·by_cases hc:c=d
     ·rw[hc,YD]at h;cases h;rfl
     ·rw[YJ hc]at h;exact TT.pl c w hc h
    ·cases n' with
     |part=>exact Iff.rfl
     |beg r' d' b' e=>
      refine⟨λh=>⟨h.1,h.2.1,h.2.2,.inl ?_⟩,λh=>⟨h.1,h.2.1,h.2.2.1⟩⟩;obtain⟨ρ',h1,_⟩:=h.1;exact(YLv.mp h1).1
end
structure ZU (g:Yl) (t:Str) (a b c:Int) (T:Tol) (ps:List Str) (O:OvF) (F:FiF) (fs:List (Nd×Int)):Prop where
 eg:T.g=g
 et:T.t=t
 en:T.n=t.length
 ep:T.put=a * M60
 ec:T.cut=b * M60
 es:T.swap=c * M60
 sz:YA2 T.g T.put T.s
 fx:Fix T.g T.put T.s
 po:YD7 g T.s ps
 iv:YDA T O F (T.n + 1) 0
 fp:FdP O F fs (YBu T ps)
inductive YHP (vs:List V) (H:Hp) (Q:VK):Prop where
 |mk (x y:V) (ct:Addr) (g:Yl) (t:Str) (a b c:Int) (a_:vs=[x,y,.ref ct]) (bc:Den H x (YAk g)) (bJ:(YAk g).short=true) (cA:Yu g=true) (dm:y=.str t) (gM:Jh t=true) (lq:H ct=some (.tup [.int a,.int b,.int c])) (m6:(0<=a/\a<=10 ^ 60)) (ug:(0<=b/\b<=10 ^ 60)) (yj:(0<=c/\c<=10 ^ 60)) (wD:YR H) (wF:∀d o kvs fs T ps O F H',YN H H'->YR H'->H' d=some (.frz o (.dT kvs))->FdT H' kvs fs->ZU g t a b c T ps O F fs->Q (.ref d) H'):YHP vs H Q
def YJD:Sp:=λvs H Q E_=>YHP vs H Q
section
variable {P:Program}{w:World}{K:W.Frag}{mg:Str->Option Value}{base:Heap}{C:Adr}
theorem YHQ:YX ["grammar","text","costs","toller"] ["grammar","text","costs"] (YQ YF2):=⟨Z,Z,Z,by decide +kernel,Z,by decide +kernel,by decide +kernel⟩
theorem YLU {f:Addr}{fd:FuncData} (F:Fun K "tolls" "tolls" YF2 f fd) (T:Txt K mg C) (cJ:Zc P w K mg (CXo P w) 7 "checked" ["thing"] (YCb C.NoGrammar)) (cR:Zc P w K mg (CXo P w) 3 "checked_text" ["thing"] (YDp C.NoText)) (cB:Zc P w K mg (CXo P w) 3 "checked_costs" ["thing"] (YA9 C.NoCosts)) (bV:UsedI P w K mg CX0 4 C.Toller ["self","rules","text","costs"] (YI8 C.Toller)) (bW:XA P w K mg CX0 3 C.Toller "take_all" ["self"] (YFP C.Toller)) (bF:XA P w K mg CX0 1 C.Toller "told_tolls" ["self"] (YLT C.Toller)):Yt P w K mg base (CXo P w) 9 f fd ["grammar","text","costs"] (YJD):=by
 obtain⟨rP,qd,jy,jz,jA,jB⟩:=cJ.ok;obtain⟨tV,sH,j4,j5,j6,j7⟩:=cR.ok;obtain⟨sI,rQ,jK,jL,jM,jN⟩:=cB.ok;obtain⟨qH,qe,iT,iU,iV⟩:=bV.ok;obtain⟨qI,qg,iW,ir,iY⟩:=bW.ok;obtain⟨pH,nM,gB,eV,gC⟩:=bF.ok;refine F.okX YHQ (λvs H Q E h=>?_) (λaO A outer s H vs Q E hr h=>?_)
 ·cases h;subst_vars;rfl
 ·obtain⟨x,y,ct,g,t,a,b,c,rfl,den,sh,hg,rfl,ht,hct,ha,hb,hc,hp,q⟩:=h;have hu:=Zq hr;refine qex ?_;refine⟨_,(YE ⟨(YK (i:=3) YHQ.nd rfl (Or.inl rfl) (YIf iU (iT base) (hr.mono (by decide)) (by rfl) T.tE iV .nil Yi (YA (YZ (jy base) (hr.mono (by decide)) (by rfl) jz jA jB .nil JQ.on (YA (pv 0) YB)) (YA (YZ (j4 base) (hr.mono (by decide)) (by rfl) j5 j6 j7 .nil JQ.on (YA (pv 1) YB)) (YA (YZ (jK base) (hr.mono (by decide)) (by rfl) jL jM jN .nil JQ.on (YA (pv 2) YB)) YB)))))⟩
   (YE ⟨(Yr (YDX (pv 3) T.aa ir (iW base) (hr.mono (by decide)) iY .nil Yi))⟩
   (Y1 ⟨(Yc (YDX (pv 3) T.aa eV (gB base) (hr.mono (by decide)) gC .nil Yi))⟩))),?_⟩
  have hx0:X4 (YAk g)=true:=by rw[YAA];exact hg
  have hcd:Den H (.ref ct) (.tup [.int a,.int b,.int c]):=.tup hct (.cons (.int _) (.cons (.int _) (.cons (.int _) .nil)));have hcc:YCG (.tup [.int a,.int b,.int c])=true:=by
   show(decide (3=3) && [D.int a,.int b,.int c].all Y8)=true;have wk:∀i:Int,0<=i/\i<=10 ^ 60->Y8 (.int i)=true:=λi h=>by
    show(decide (0<=i) && decide (i<=10 ^ 60))=true;rw[YLw h.1,YLw h.2];rfl
   rw[YNO,YNO,YNO,wk a ha,wk b hb,wk c hc];rfl
  have htl:t.length<=60:=by
   unfold Jh at ht;rw[YL5,YMa]at ht;exact ht.1
  refine⟨_,Z,x,YAk g,Z,den,sh,hp,λ_ l xs ds eds hds hl=>?_,λz=>by rw[hx0]at z;cases z⟩;have yp:ds=g.map ZR:=(D.lst.inj eds).symm;subst yp;have s1:=YN.upd (o:=.lst xs) hl;have p1:YR (upd H l (.lst xs)):=hp.upd rfl;have hl1:upd H l (.lst xs) l=some (.lst xs):=YD;revert s1 p1 hl1;generalize upd H l (.lst xs)=H1;intro s1 p1 hl1;refine⟨_,Z,.str t,.str t,Z,.str t,?_,p1,λz ez _=>?_,λz=>by rw[show YCA (.str t)=Jh t from rfl,ht]at z;cases z⟩
  ·exact YCZ (by lia)
  ·cases ez;refine⟨_,Z,.ref ct,_,Z,hcd.same s1,?_,p1,λ_=>?_,λz=>by rw[hcc]at z;cases z⟩
   ·unfold D.short;exact YAK λd hd=>by
     simp only[YMA,YMo,or_false]at hd;rcases hd with rfl |rfl |rfl <;> (unfold D.short;rfl)
   ·refineλxx dx z6 Ei hne=>?_
    have ex:upd (upd H1 dx (.own xx)) xx (.ins C.Toller dx []) xx=some (.ins C.Toller dx []):=YD;have s2:YN H1 (upd (upd H1 dx (.own xx)) xx (.ins C.Toller dx [])):=(YN.upd Ei).put z6;have p2:YR (upd (upd H1 dx (.own xx)) xx (.ins C.Toller dx [])):=(p1.upd rfl).upd rfl;refine⟨H1,xx,dx,l,ct,t,xs,g,a,b,c,Z,ex,z6,s2,p2,hl1,hds.same s1,hg,htl,s1 _ _ hct,ha,hb,hc,λT' own ps H' pre exx eg et ep ec es hao st po=>⟨Z,?_⟩⟩;subst exx;have hx':H' T'.x=some (.ins C.Toller T'.dx T'.fld):=by rw[<-pre.c];exact st.hx
    refine⟨_,Z,T'.x,T'.dx,_,Z,hx',Z,T',own,ps,H1,Z,pre,st,by rw[eg];exact po,λO F K2 H2 jO I2 k2=>?_⟩;have hx2:H2 T'.x=some (.ins C.Toller T'.dx T'.fld):=by rw[<-pre.c];exact jO.hx
    refine⟨_,Z,T'.x,T'.dx,_,Z,hx2,Z,T',own,ps,H1,O,F,K2,Z,pre,jO,by rw[eg];exact po,k2,hao,λd o kvs fs H3 s3 p3 hd fd fp=>?_⟩;exact q d o kvs fs T' ps O F H3 (s1.trans s3) p3 hd fd ⟨eg,et,by rw[<-et];exact pre.t.symm,ep,ec,es,pre.s,pre.fx,po,I2,fp⟩
end
def pr (x:Int):Int×Int:=(x / M60,x % M60)
theorem Zk:(0:Int) < M60:=by decide +kernel
theorem YIY {x y:Int} (h:x % M60 + y % M60 < M60):((pr x).1 + (pr y).1,(pr x).2 + (pr y).2)=pr (x + y):=by
 have hx:=YMe x (YNb Zk);have hy:=YMe y (YNb Zk);have ex:=YM1 x M60;have ey:=YM1 y M60;have h2:(x + y) % M60=x % M60 + y % M60:=by
  rw[Int.add_emod];exact YNX (by lia) h
 have h1:(x + y) / M60=x / M60 + y / M60:=by
  have e:=YM1 (x + y) M60;rw[h2]at e;have:M60 * ((x + y) / M60)=M60 * (x / M60 + y / M60):=by rw[Int.mul_add];lia
  exact Int.eq_of_mul_eq_mul_left (YNb Zk) this
 unfold pr;rw[h1,h2]
theorem ltP_pr (x y:Int):ltP (pr x) (pr y)=decide (x < y):=by
 have hx:=YMe x (YNb Zk);have hy:=YMe y (YNb Zk);have hx2:=YMg x Zk;have RD:=YMg y Zk;have ex:=YM1 x M60;have ey:=YM1 y M60;unfold ltP pr;refine decide_eq_decide.mpr ⟨λh=>?_,λh=>?_⟩
 ·rcases h with h |⟨h1,h2⟩
  ·have:M60 * (x / M60) + M60<=M60 * (y / M60):=by
    have:=YNf (show x / M60 + 1<=y / M60 from h) (YNP Zk);rw[Int.mul_add,Int.mul_one]at this;exact this
   lia
  ·dsimp only at h1 h2;rw[h1]at ex
   lia
 ·rcases Int.lt_trichotomy (x / M60) (y / M60) with h1 |h1 |h1
  ·exact .inl h1
  ·refine .inr ⟨h1,?_⟩;rw[h1]at ex;dsimp only
   lia
  ·exfalso
   have:M60 * (y / M60) + M60<=M60 * (x / M60):=by
    have:=YNf (show y / M60 + 1<=x / M60 from h1) (YNP Zk);rw[Int.mul_add,Int.mul_one]at this;exact this
   lia
theorem YF6 (x:Int):pr (x * M60)=(x,0):=by
 unfold pr;rw[Int.mul_ediv_cancel _ (YNb Zk),Int.mul_emod_left]
theorem YJE (x:Int):pr (x * M60 + 1)=(x,1):=by
 have h:=YIY (x:=x * M60) (y:=1) (by rw[Int.mul_emod_left];decide +kernel);rw[<-h,YF6];have e:pr 1=(0,1):=by decide +kernel
 rw[e,Int.add_zero,YMk]
theorem YLV (x y:Int):x * M60 < y * M60<->x < y:=⟨λh=>Int.lt_of_mul_lt_mul_right h (YNP Zk),λh=>Int.mul_lt_mul_of_pos_right h Zk⟩
theorem YDQ (t:Str) (a b c:Int) (p:Str) (i j:Nat):sgT t (a * M60) (b * M60) (c * M60) p i j=sgT t a b c p i j * M60:=by
 unfold sgT
 by_cases h:j<=i
 ·rw[if_pos h,if_pos h]
 ·rw[if_neg h,if_neg h];have e1:((j:Int) - i) * (b * M60) + a * M60=(((j:Int) - i) * b + a) * M60:=by rw[YNR,Int.mul_assoc]
  have e2:((j:Int) - i - 1) * (b * M60) + (if YBA (YAN p) t i j=true then 0 else c * M60)=(((j:Int) - i - 1) * b + (if YBA (YAN p) t i j=true then 0 else c)) * M60:=by
   rw[YNR,Int.mul_assoc];split
   ·rw[Int.zero_mul]
   ·rfl
  rw[e1,e2]
  by_cases h2:((j:Int) - i - 1) * b + (if YBA (YAN p) t i j=true then 0 else c) < ((j:Int) - i) * b + a
  ·rw[if_pos ((YLV _ _).mpr h2),if_pos h2]
  ·rw[if_neg (λz=>h2 ((YLV _ _).mp z)),if_neg h2]
section
variable {g:Yl}{t:Str}{a b c:Int}{T:Tol}{ps:List Str}{O:OvF}{F:FiF}{fs:List (Nd×Int)}
theorem ZU.ok (W:ZU g t a b c T ps O F fs) (hb:0<=b):Jk g T.s T.cut M60 O F t.length where
 cut0:=by rw[W.ec];exact YMv hb (YNP Zk)
 cutM:=by rw[W.ec];exact Int.mul_emod_left ..
 one:=by decide +kernel
 pos:=W.iv.pos
 sg:=λp i j h=>by rw[W.iv.sg p i j h,W.ep,W.ec,W.es,YDQ];exact Int.mul_emod_left ..
 f:=λi m h=>by rw[<-W.eg];exact(W.iv.dn i m ⟨by rw[W.en];exact h,.inl (by rw[W.en];lia)⟩).f
 o:=λi m h=>by rw[<-W.eg];exact(W.iv.dn i m ⟨by rw[W.en];exact h,.inl (by rw[W.en];lia)⟩).o
theorem ZU.part (W:ZU g t a b c T ps O F fs) {ρ:Yp} (hr:ρ∈g) {p:Str} (hp:p∈ρ.2.1):p∈ps<->okP T.s p=true:=by
 obtain⟨_,k,hd,hq,_⟩:=W.po;refine⟨k p,λh=>?_⟩;unfold okP at h;rw[Bool.or_eq_true]at h;rcases h with h |h
 ·exact hq ρ hr p hp h
 ·obtain⟨v,hv⟩:=YMT.mp h;exact hd p v hv
theorem ZU.head (W:ZU g t a b c T ps O F fs) {h:Str} (hq:isQ h=false):h∈ps<->∃ρ∈g,ρ.1=h/\rch T.s ρ.2.1=ρ.2.1.length:=by
 obtain⟨_,k,hd,_,_⟩:=W.po;constructor
 ·intro hp;have h1:=k h hp;unfold okP at h1;rw[hq,YNF]at h1;obtain⟨v,hv⟩:=YMT.mp h1;obtain⟨ρ,hr,e,m,hm,_⟩:=W.sz.hd h v hv;exact⟨ρ,by rw[<-W.eg];exact hr,e,YA6 (YFz hm)⟩
 ·rintro⟨ρ,hr,rfl,hf⟩;have all:∀p∈ρ.2.1,okP T.s p=true:=λp hp=>by
   obtain⟨j,hj⟩:=List.getElem?_of_mem hp;have hlt:j < ρ.2.1.length:=by
    rcases YMt j ρ.2.1.length with h |h
    ·exact h
    ·rw[YMf h]at hj;cases hj
   obtain⟨p',e1,e2⟩:=JA (s:=T.s) (ps:=ρ.2.1) (j:=j) (by rw[hf];exact hlt);rw[hj]at e1;cases e1;exact e2
  obtain⟨m,hm⟩:=YDO (q:=T.put) (a:=1) all;obtain⟨v,hv,_⟩:=W.fx ρ (by rw[W.eg];exact hr) m hm;exact hd _ v hv
theorem ZU.small (W:ZU g t a b c T ps O F fs) {hs:List Str} (h3:hs.length<=3) (hh:∀ρ∈g,ρ.1∈hs):T.s.length<=3:=by
 have:(T.s.map (·.1)).length<=hs.length:=YD8 W.sz.nd λz hz=>by
  obtain⟨x,hx,rfl⟩:=YMD.mp hz;obtain⟨ρ,hr,e,_⟩:=W.sz.hd x.1 x.2 (X5 W.sz.nd hx);rw[<-e];exact hh ρ (by rw[<-W.eg];exact hr)
 rw[YLp]at this
 lia
theorem ZU.sumB (W:ZU g t a b c T ps O F fs) (hb:0<=b) (h6:∀ρ∈g,ρ.2.1.length<=6) (hB:(t.length + 1) * T.s.length<=60) {r:Nat}{ρ:Yp} (hr:g[r]?=some ρ) {d i m k:Nat}{p:Str} (hd:d<=rch T.s ρ.2.1) (hp:okP T.s p=true) (hk:k<=m) (hm:i + m<=t.length):
  ((pr (F r d i k)).1 + (pr (O p (i + k) (i + m))).1,(pr (F r d i k)).2 + (pr (O p (i + k) (i + m))).2)=pr (F r d i k + O p (i + k) (i + m)):=by
 have X:=W.ok hb;have h1:=X.ruleB h6 hr hd (show i + k<=t.length by lia);have h2:=X.partB h6 hp (show i + k<=i + m by lia) hm;have h3:=YBS (l:=(t.length + 1) * T.s.length + 1) (l':=61) (by lia);have h4:=YBS (l:=(t.length + 1) * T.s.length) (l':=60) hB;have h5:(7:Int) ^ 61 + 7 ^ 60 < M60:=by decide +kernel
 exact YIY (by lia)
theorem ZU.get (W:ZU g t a b c T ps O F fs) {H:Hp}{kvs:List (List Key×V)} (fd:FdT H kvs fs) (n:Nd):(Zo kvs (Z6 n)=none/\¬YBu T ps n)\/∃u,Zo kvs (Z6 n)=some (.ref u)/\YBu T ps n/\H u=some (.tup [.int (pr (YBt O F n)).1,.int (pr (YBt O F n)).2]):=by
 rcases fd.val n with ⟨h1,h2⟩ |⟨u,v,h1,h2,h3⟩
 ·exact .inl ⟨h1,λz=>h2 ((W.fp.mem n).mpr z)⟩
 ·have hv:=W.fp.val _ h2;dsimp only at hv;subst hv;exact .inr ⟨u,h1,(W.fp.mem n).mp (YMD.mpr ⟨_,h2,Z⟩),h3⟩
end
section
variable {g:Yl}{s:Sz}{cut M:Int}{O:OvF}{F:FiF}{n:Nat}
def big3 (m:Nat):Int:=if m=0 then 13 else 162 * m - 68
def bdO (m ρ:Nat):Int:=if m=0 then (if ρ=0 then 1 else if ρ=1 then 4 else 13) else 162 * m - 122 + 27 * ρ
theorem YLW {m ρ:Nat} (h:ρ < 3):bdO m ρ<=big3 m:=by
 unfold bdO big3;split
 ·split
  ·decide
  ·split <;> decide
 ·lia
theorem YAP {p:Str} (hp:okP s p=true) (hq:isQ p=false):∃v,look s p=some v:=by
 unfold okP at hp;rw[hq,YNF]at hp;exact YMT.mp hp
theorem Jk.parts3 (T:Jk g s cut M O F n) {r:Nat}{ρ:Yp} (hr:g[r]?=some ρ) {V B:Int} (hB:0<=B) {b m:Nat} (hm:1<=m) (hn:b + m<=n)
  (hw:∀p,okP s p=true->isQ p=false->O p b (b + m) < V->O p b (b + m) % M<=B)
  (hp:∀p,okP s p=true->isQ p=false->∀b' m',b' + m'<=n->m' < m->O p b' (b' + m') % M<=big3 m'):
  ∀{d m':Nat},d<=rch s ρ.2.1->m'<=m->F r d b m'<=V->
   (m'=m/\1<=d/\F r d b m' % M<=1 + 13 * ((d:Int) - 1) + B/\∃p,okP s p=true/\isQ p=false/\O p b (b + m) < V)\/
   ∃u q:Nat,u<=d/\u<=q/\q<=m'/\(u=0->q=0)/\(u=1->q < m)/\F r d b m' % M<=1 + 162 * (q:Int) - 68 * (u:Int) + 13 * ((d:Int) - u):=by
 have hM:0 < M:=Int.lt_trans (by decide) T.one;intro d
 induction d with
 |zero=>
  intro m' _ zK _;refine .inr ⟨0,0,YLr _,YLr _,YMI _,λ_=>rfl,nofun,?_⟩;rw[(T.f b m' (by lia) r ρ hr).1,Int.add_emod,Int.mul_emod,T.cutM,Int.mul_zero,Int.zero_emod,YMk,Int.emod_emod,YNX (by decide) T.one];decide
 |succ d ih=>
  intro m' hd zK hV;obtain⟨p,ep,hok⟩:=JA (s:=s) (ps:=ρ.2.1) (j:=d) (by lia);obtain⟨k,hk,e1⟩:=((T.f b m' (by lia) r ρ hr).2 d p (by lia) ep).2;rw[e1]at hV ⊢;have h1:=T.f1 hr (d:=d) (b:=b) (m:=k) (by lia) (by lia);have h2:=T.pos p (b + k) (b + m');have h3:=ih (m':=k) (by lia) (by lia) (by lia);have h5:=YDz hM (F r d b k) (O p (b + k) (b + m'));have e2:((d + 1:Nat):Int)=d + 1:=by lia
  rw[e2];cases hq:isQ p with
  |true=>
   rw[T.sg p _ _ hq]at h5;rcases h3 with ⟨h6,h7,h8,h9⟩ |⟨u,q,h6,h7,h8,h9,h10,Qx⟩
   ·exact .inl ⟨by lia,by lia,by lia,h9⟩
   ·exact .inr ⟨u,q,by lia,h7,by lia,h9,h10,by lia⟩
  |false=>
   by_cases he:m' - k=m
   ·have hk0:k=0:=by lia
    have Bw:m'=m:=by lia
    subst hk0 Bw;have h4:=hw p hok hq (by rw[YNi]at hV;lia);rw[YNi b]at h5 hV h2 ⊢;rcases h3 with ⟨h6,h7,h8,h9⟩ |⟨u,q,h6,h7,h8,h9,h10,Qx⟩
    ·lia
    ·exact .inl ⟨Z,by lia,by lia,p,hok,hq,by lia⟩
   ·have h4:=hp p hok hq (b + k) (m' - k) (by lia) (by lia);rw[show b + k + (m' - k)=b + m' by lia]at h4;unfold big3 at h4;rcases h3 with ⟨h6,h7,h8,h9⟩ |⟨u,q,h6,h7,h8,h9,h10,Qx⟩
    ·rw[if_pos (by lia)]at h4;exact .inl ⟨by lia,by lia,by lia,h9⟩
    ·by_cases hz:m' - k=0
     ·rw[if_pos hz]at h4;exact .inr ⟨u,q,by lia,h7,by lia,h9,h10,by lia⟩
     ·rw[if_neg hz]at h4;exact .inr ⟨u + 1,q + (m' - k),by lia,by lia,by lia,by lia,λz=>by
       have:=h9 (by lia)
       lia,by lia⟩
theorem Jk.few (T:Jk g s cut M O F n) (h3:∀ρ∈g,ρ.2.1.length<=3) (hs:s.length<=3):∀(l:Nat) {h:Str}{v:Int}{b m:Nat},look s h=some v->b + m<=n->m * 3 + YA7 s O b (b + m) h=l->O h b (b + m) % M<=bdO m (YA7 s O b (b + m) h):=by
 intro l
 induction l using Nat.strongRecOn with
 |ind l ih=>
  intro h v b m hh hn hl;obtain⟨r,ρ,hr,eh,hf,e⟩:=(T.o b m hn h v hh).2;have hlen:=h3 ρ (YLu hr);have Bx:=YCE (O:=O) hh b (b + m);have hsm:∀p,okP s p=true->isQ p=false->∀b' m',b' + m'<=n->m' < m->O p b' (b' + m') % M<=big3 m':=λp hok hq b' m' h1 h2=>by
   obtain⟨u,hu⟩:=YAP hok hq;have W7:=YCE (O:=O) hu b' (b' + m');exact YMj (ih _ (by lia) hu h1 rfl) (YLW (by lia))
  have hsame:∀p,okP s p=true->isQ p=false->O p b (b + m) < O h b (b + m)->YA7 s O b (b + m) p < YA7 s O b (b + m) h/\O p b (b + m) % M<=bdO m (YA7 s O b (b + m) p):=λp hok hq hlt=>by
   obtain⟨u,hu⟩:=YAP hok hq;have W7:=YFF hu hlt;exact⟨W7,ih _ (by lia) hu hn rfl⟩
  obtain⟨R,eR⟩:∃R,YA7 s O b (b + m) h=R:=⟨_,Z⟩;rw[eR]at hsame Bx ⊢;have vM:∀x y,x<=y->y < 3->bdO m x<=bdO m y:=λx y h1 h2=>by
   unfold bdO;split
   ·rcases(show y=0\/y=1\/y=2 by lia) with rfl |rfl |rfl <;> rcases(show x=0\/x=1\/x=2 by lia) with rfl |rfl |rfl <;> first |decide |lia
   ·lia
  by_cases hm:m=0
  ·subst hm;obtain⟨B,eB⟩:∃B:Int,B=if R=0 then 0 else bdO 0 (R - 1):=⟨_,Z⟩
   have hB0:0<=B:=by
    rw[eB];split
    ·decide
    ·unfold bdO;rw[if_pos rfl];split
     ·decide
     ·split <;> decide
   have key:=T.parts hr (V:=O h b (b + 0)) (R:=B) hB0 (b:=b) (e:=b + 0) hn (λp _ hok b' e' h1 h2 h4 hlt=>?_) (d:=ρ.2.1.length) (m:=0) (by lia) (YLr _) (by rw[e];exact YMi _)
   ·rw[e];have:(ρ.2.1.length:Int) * B<=3 * B:=YMx (by lia) hB0;refine YMj key ?_;have e3:1 + 3 * B<=bdO 0 R:=by
     rw[eB];rcases(show R=0\/R=1\/R=2 by lia) with rfl |rfl |rfl <;> decide
    lia
   ·cases hq:isQ p with
    |true=>rw[T.sg p b' e' hq];exact hB0
    |false=>
     have e1:b'=b:=by lia
     have e2:e'=b + 0:=by lia
     subst e1 e2;obtain⟨k1,k2⟩:=hsame p hok hq hlt;rw[eB,if_neg (by lia)];exact YMj k2 (vM _ _ (by lia) (by lia))
  ·obtain⟨B,eB⟩:∃B:Int,B=if R=0 then 0 else bdO m (R - 1):=⟨_,Z⟩
   have hB0:0<=B:=by
    rw[eB];split
    ·decide
    ·unfold bdO;rw[if_neg hm]
     lia
   have key:=T.parts3 hr (V:=O h b (b + m)) hB0 (m:=m) (by lia) hn (λp hok hq hlt=>by
    obtain⟨k1,k2⟩:=hsame p hok hq hlt;rw[eB,if_neg (by lia)];exact YMj k2 (vM _ _ (by lia) (by lia))) hsm (d:=ρ.2.1.length) (m':=m) (by lia) (YLr _) (by rw[e];exact YMi _)
   rw[e];have eb:bdO m R=162 * m - 122 + 27 * R:=by unfold bdO;rw[if_neg hm]
   rw[eb];rcases key with ⟨_,h6,h7,p,hok,hq,hlt⟩ |⟨u,q,h6,h7,h8,h9,h10,Qx⟩
   ·obtain⟨k1,_⟩:=hsame p hok hq hlt;rw[eB,if_neg (by lia)]at h7;have By:bdO m (R - 1)=162 * m - 122 + 27 * ((R - 1:Nat):Int):=by unfold bdO;rw[if_neg hm]
    rw[By]at h7
    lia
   ·lia
theorem Jk.few5 (T:Jk g s cut M O F n) (h3:∀ρ∈g,ρ.2.1.length<=3) (hs:s.length<=3) {h:Str}{v:Int} (hh:look s h=some v) {m:Nat} (hn:m<=n) (hm:m<=5):O h 0 m % M<=742:=by
 have:=T.few h3 hs _ (b:=0) (m:=m) hh (by lia) rfl;have h2:=YCE (O:=O) hh 0 (0 + m);rw[Nat.zero_add]at this h2;refine YMj this (YMj (YLW (by lia)) ?_);unfold big3;split
 ·decide
 ·lia
end
inductive Dd
 |keep (c:Nat)
 |cut (c:Nat)
 |swap (c c':Nat)
 |put (c:Nat)
def ddD:Dd->D
 |.keep c=>.tup [.str "keep",.str ⟨#[c]⟩]
 |.cut c=>.tup [.str "cut",.str ⟨#[c]⟩]
 |.swap c c'=>.tup [.str "swap",.str ⟨#[c]⟩,.str ⟨#[c']⟩]
 |.put c=>.tup [.str "put",.str ⟨#[c]⟩]
def ddT:Dd->List Nat
 |.keep c=>[c]
 |.cut c=>[c]
 |.swap c _=>[c]
 |.put _=>[]
def ddM:Dd->List Nat
 |.keep c=>[c]
 |.cut _=>[]
 |.swap _ c'=>[c']
 |.put c=>[c]
def ddC (a b c:Int):Dd->Int
 |.keep _=>0
 |.cut _=>b
 |.swap _ _=>c
 |.put _=>a
def ddOk:Dd->Prop
 |.swap c c'=>c≠c'
 |_=>True
def tkL (ds:List Dd):List Nat:=ds.flatMap ddT
def mkL (ds:List Dd):List Nat:=ds.flatMap ddM
def coL (a b c:Int) (ds:List Dd):Int:=(ds.map (ddC a b c)).sum
def Jp (t:Str) (i j:Nat):List Nat:=(t.cps.toList.drop i).take (j - i)
theorem YF7 (x y:List Dd):tkL (x ++ y)=tkL x ++ tkL y:=by unfold tkL;rw[List.flatMap_append]
theorem YF8 (x y:List Dd):mkL (x ++ y)=mkL x ++ mkL y:=by unfold mkL;rw[List.flatMap_append]
theorem YF9 (a b c:Int) (x y:List Dd):coL a b c (x ++ y)=coL a b c x + coL a b c y:=by unfold coL;rw[YL2,List.sum_append]
theorem YCJ:∀l:List Nat,tkL (l.map Dd.cut)=l
 |[]=>rfl
 |c :: l=>YMw (c :: ·) (YCJ l)
theorem YCK:∀l:List Nat,mkL (l.map Dd.cut)=[]
 |[]=>rfl
 |c :: l=>YCK l
theorem YCL (a b c:Int):∀l:List Nat,coL a b c (l.map Dd.cut)=l.length * b
 |[]=>by show(0:Int)=((0:Nat):Int) * b;simp
 |x :: l=>by
  show b + coL a b c (l.map Dd.cut)=((l.length + 1:Nat):Int) * b;rw[YCL a b c l,Int.natCast_add,YNR];show b + _=_ + 1 * b
  lia
theorem ZV {t:Str}{i j:Nat} (h:j<=t.length):(Jp t i j).length=j - i:=by
 have hl:t.cps.toList.length=t.length:=YMM;unfold Jp;rw[YMp,YM5]
 lia
theorem YEA {t:Str}{i k j:Nat} (h1:i<=k) (h2:k<=j) (h3:j<=t.length):Jp t i k ++ Jp t k j=Jp t i j:=by
 unfold Jp;have e:t.cps.toList.drop k=(t.cps.toList.drop i).drop (k - i):=by rw[List.drop_drop];congr 1;lia
 rw[e,show j - i=(k - i) + (j - k) by lia,List.take_add]
theorem YLX {t:Str}{k:Nat}{c:Nat} (h:t.cps.toList[k]?=some c):Jp t k (k + 1)=[c]:=by
 unfold Jp;obtain⟨h1,h2⟩:=YLv.mp h;rw[YMz h1,h2,YM4];rfl
theorem YCM {t:Str}{i j:Nat}{c:Nat}:c∈Jp t i j<->∃k,i<=k/\k < j/\t.cps.toList[k]?=some c:=by
 unfold Jp;rw[List.mem_iff_getElem?];constructor
 ·rintro⟨n,h⟩;rw[List.getElem?_take]at h;split at h
  ·rw[List.getElem?_drop]at h;exact⟨i + n,by lia,by lia,h⟩
  ·cases h
 ·rintro⟨k,h1,h2,h3⟩;refine⟨k - i,?_⟩;rw[List.getElem?_take,if_pos (by lia),List.getElem?_drop,show i + (k - i)=k by lia];exact h3
structure SgD (t:Str) (a b c:Int) (p:Str) (i j:Nat) (sd:List Dd):Prop where
 tk:tkL sd=Jp t i j
 mkd:mkL sd=[sgn p]
 co:coL a b c sd=sgT t a b c p i j
 ok:∀d∈sd,ddOk d
 ln:sd.length<=j - i + 1
theorem YLY (p:Str):YAN p=⟨#[sgn p]⟩:=by
 unfold YAN sgn;rw[Array.getD_eq_getD_getElem?]
theorem YEB {p t:Str}{i j:Nat} (h1:i<=j) (h2:j<=t.length):YBA (YAN p) t i j=decide (sgn p∈Jp t i j):=by
 unfold YBA;rw[YLY,StrLaws.found_one];have hl:t.cps.toList.length=t.length:=YMM;have e1:=eq_of_beq (PyProof.Rows.slice_closes (x:=t) (i:=i) (j:=j) ⟨by lia,by lia,by lia⟩);have e:(Txt.slice t (some (i:Int)) (some (j:Int))).cps.toList=Jp t i j:=by
  rw[e1];show(t.cps.toList.drop (i:Int).toNat).take ((j:Int) - i).toNat=_;rw[show((j:Int) - i).toNat=j - i by lia];rfl
 rw[e]
theorem YGA {t:Str}{a b c:Int}{p:Str}{i j:Nat} (h1:i<=j) (h2:j<=t.length) (h:sgT t a b c p i j=((j:Int) - i) * b + a):SgD t a b c p i j ((Jp t i j).map Dd.cut ++ [.put (sgn p)]) where
 tk:=by rw[YF7,YCJ];exact YMZ _
 mkd:=by rw[YF8,YCK];rfl
 co:=by
  rw[YF9,YCL,ZV h2,h];show _ + (a + 0)=_;rw[Int.add_zero,show((j - i:Nat):Int)=(j:Int) - i by lia]
 ok:=λd hd=>by
  rcases YMN.mp hd with hd |hd
  ·obtain⟨x,_,rfl⟩:=YMD.mp hd
   trivial
  ·rw[YL1.mp hd]
   trivial
 ln:=by
  rw[YLy,YLp,ZV h2];exact YLr _
theorem YJF {t:Str}{a b c:Int}{p:Str}{i j k:Nat} (h1:i<=k) (h2:k < j) (h3:j<=t.length) {x:Nat} (hx:t.cps.toList[k]?=some x) (d:Dd) (ht:ddT d=[x]) (hm:ddM d=[sgn p]) (ho:ddOk d) (h:sgT t a b c p i j=((j:Int) - i - 1) * b + ddC a b c d):
  SgD t a b c p i j ((Jp t i k).map Dd.cut ++ d :: (Jp t (k + 1) j).map Dd.cut) where
 tk:=by
  rw[YF7,YCJ];show _ ++ (ddT d ++ tkL _)=_;rw[YCJ,ht,<-YLX hx,YEA (by lia) (by lia) h3,YEA (by lia) (by lia) h3]
 mkd:=by
  rw[YF8,YCK];show[] ++ (ddM d ++ mkL _)=_;rw[YCK,hm];rfl
 co:=by
  rw[YF9,YCL,ZV (by lia)];show _ + (ddC a b c d + coL a b c _)=_;rw[YCL,ZV h3,h];have e:((j:Int) - i - 1) * b=((k - i:Nat):Int) * b + ((j - (k + 1):Nat):Int) * b:=by
   rw[<-YNR];congr 1
   lia
  lia
 ok:=λy hy=>by
  rcases YMN.mp hy with hy |hy
  ·obtain⟨x,_,rfl⟩:=YMD.mp hy
   trivial
  ·rcases YMA.mp hy with rfl |hy
   ·exact ho
   ·obtain⟨x,_,rfl⟩:=YMD.mp hy
    trivial
 ln:=by
  rw[YLy,YLp,YL8,YLp,ZV (by lia),ZV h3]
  lia
open Builtin Builtin.Str StrLaws in
theorem YHR (x:Str) (c hi:Nat):∀(l:List Nat) (st:Array Nat×Nat),1<=st.fst.size->(forIn l st (occBody x ⟨#[c]⟩ hi 1)).run.fst=st.fst
 |[],st,_=>by simp
 |a :: l,st,h=>by
  rw[List.forIn_cons];unfold occBody;rw[if_neg (λz=>by have:=z.1.1.1;lia)];exact YHR x c hi l (st.fst,st.snd) h
open Builtin Builtin.Str StrLaws in
theorem YFQ (x:Str) (c hi:Nat) (hh:hi<=x.length):∀(n a f:Nat),f<=a->a + n=hi + 1->
  (∃k,(forIn (List.range' a n) ((#[]:Array Nat),f) (occBody x ⟨#[c]⟩ hi 1)).run.fst.toList=[k]/\a<=k/\k < hi/\x.cps.toList[k]?=some c)\/
  ((forIn (List.range' a n) ((#[]:Array Nat),f) (occBody x ⟨#[c]⟩ hi 1)).run.fst.toList=[]/\∀k,a<=k->k < hi->¬x.cps.toList[k]?=some c)
 |0,a,f,_,h=>.inr ⟨by simp,λk h1 h2=>by lia⟩
 |n + 1,a,f,hf,h=>by
  rw[List.range'_succ,List.forIn_cons];unfold occBody;have el:(⟨#[c]⟩:Str).length=1:=rfl
  by_cases hc:a < hi/\x.cps.toList[a]?=some c
  ·have h3:=(subAt_one x c a).mpr hc.2;rw[if_pos ⟨⟨⟨by show 0 < 1;decide,hf⟩,by rw[el];lia⟩,h3.2⟩];refine .inl ⟨a,?_,YLr _,hc.1,hc.2⟩;have:=YHR x c hi (List.range' (a + 1) n) ((#[]:Array Nat).push a,a + (⟨#[c]⟩:Str).length) (by simp);refine(YMw Array.toList this).trans ?_;rfl
  ·rw[if_neg (λz=>hc ⟨by have:=z.1.2;rw[el]at this;lia,((subAt_one x c a).mp ⟨by have:=z.1.2;lia,z.2⟩)⟩)];rcases YFQ x c hi hh n (a + 1) f (by lia) (by lia) with ⟨k,e1,e2,e3,e4⟩ |⟨e1,e2⟩
   ·exact .inl ⟨k,e1,by lia,e3,e4⟩
   ·refine .inr ⟨e1,λk h1 h2 h3=>?_⟩;rcases YMt a k with hl |hl
    ·exact e2 k hl h2 h3
    ·have:k=a:=by lia
     subst this;exact hc ⟨h2,h3⟩
theorem YJ3 (x:Str) (c i j:Nat) (h1:i<=j) (h2:j<=x.length):(∃k:Nat,YD0 x ⟨#[c]⟩ i j=(k:Int)/\i<=k/\k < j/\x.cps.toList[k]?=some c)\/(YD0 x ⟨#[c]⟩ i j=-1/\∀k,i<=k->k < j->¬x.cps.toList[k]?=some c):=by
 unfold YD0;have e1:fromIndex x.length (i:Int)=i:=by
  unfold fromIndex;rw[if_neg (by lia)]
  lia
 have e2:min (fromIndex x.length (j:Int)) x.length=j:=by
  unfold fromIndex;rw[if_neg (by lia)]
  lia
 rw[e1,e2,StrLaws.occ_eq];rcases YFQ x c j h2 (j + 1 - i) i i (YLr _) (by lia) with ⟨k,h,h3⟩ |⟨h,h3⟩
 ·rw[h];exact .inl ⟨k,Z,h3⟩
 ·rw[h];exact .inr ⟨Z,h3⟩
abbrev JZ:Stmt:=Zb (top 40) 0
abbrev JM:Stmt:=Zb (top 40) 1
abbrev JN:Stmt:=Zb (top 40) 2
abbrev Ja:Stmt:=Zb (top 40) 3
abbrev Jq:Stmt:=Zb (top 40) 4
abbrev Jr:Stmt:=Zb (top 40) 5
abbrev YEC:Stmt:=top 41
theorem YHS:(["sign"]:List Str).Nodup:=by decide +kernel
structure Mnd where
 x:Addr
 dx:Addr
 lr:Addr
 t:Str
 ct:Addr
 d:Addr
 ld:Addr
 lw:Addr
def Mnd.fld (M:Mnd):List (Str×V):=[("rules",.ref M.lr),("text",.str M.t),("costs",.ref M.ct),("known",.ref M.d),("deeds",.ref M.ld),("row",.ref M.lw)]
def YHT (t:Str) (b e:Nat):List D:=((t.cps.toList.drop b).take (e - b)).map λc=>.tup [.str "cut",.str ⟨#[c]⟩]
structure MSt (C:Addr) (M:Mnd) (H0 H:Hp) (ds:List D) (row:List Int):Prop where
 hx0:H0 M.x=some (.ins C M.dx M.fld)
 ne:M.ld≠M.lw
 nx:M.x≠M.ld/\M.x≠M.lw
 sm:∀a o,a≠M.ld->a≠M.lw->H0 a=some o->H a=some o
 hd:∃vs,H M.ld=some (.lst vs)/\Yh (del (del H M.ld) M.lw) vs ds
 hw:H M.lw=some (.lst (row.map V.int))
inductive YJG (C:Addr) (vs:List V) (H:Hp) (Q:VK):Prop where
 |mk (M:Mnd) (H0:Hp) (ds:List D) (row:List Int) (b e:Nat) (a_:vs=[.ref M.x,.int (b:Int),.int (e:Int)]) (bc:MSt C M H0 H ds row) (bJ:b<=e) (cA:e<=M.t.length) (dm:M.t.length<=60) (gM:ds.length<=8000) (lq:YR H) (m6:∀H',MSt C M H0 H' (ds ++ YHT M.t b e) row->YR H'->Q .non H'):YJG C vs H Q
def YIZ (C:Addr):Sp:=λvs H Q E_=>YJG C vs H Q
theorem MSt.x {C:Addr}{M:Mnd}{H0 H:Hp}{ds:List D}{row:List Int} (S:MSt C M H0 H ds row):H M.x=some (.ins C M.dx M.fld):=S.sm _ _ S.nx.1 S.nx.2 S.hx0
theorem YAQ {n:Nat} (h:n<=9000):n<=sizeLine:=YMP h (by rw[sizeLine_eq];decide)
theorem YJH {H:Hp}:∀{ys:List V}{ds:List D},ys.length=ds.length->(∀(k:Nat) (y:V) (d:D),ys[k]?=some y->ds[k]?=some d->Den H y d)->Yh H ys ds
 |[],[],_,_=>.nil
 |[],_ :: _,h,_=>nomatch h
 |_ :: _,[],h,_=>nomatch h
 |y :: ys,d :: ds,h,hk=>.cons (hk 0 y d rfl rfl) (YJH (Nat.succ.inj h) λk y' d' e1 e2=>hk (k + 1) y' d' e1 e2)
section
variable {P:Program}{w:World}{K:W.Frag}{mg:Str->Option Value}{base:Heap}{C:Adr}
theorem YBF:YX ["self","begin","end"] ["self","begin","end"] (YQ JM):=⟨Z,Z,Z,by decide +kernel,Z,by decide +kernel,by decide +kernel⟩
theorem YBG {f:Addr}{fd:FuncData} (F:Fun K "cut_signs" "Mending.cut_signs" JM f fd) (T:Txt K mg C):Yt P w K mg base CX0 1 f fd ["self","begin","end"] (YIZ C.Mending):=by
 refine F.ok YBF (λvs H Q E h=>?_) (λaO A outer s H vs Q E hr h=>?_)
 ·cases h;subst_vars;rfl
 ·obtain⟨M,H0,ds,row,b,e,rfl,S,hbe,het,ht,hds,hp,q⟩:=h;have hu:=Zq hr;refine qex ?_;refine⟨_,(Y1 ⟨(Yr (ZO K rfl YMC PySem.F.slot_list_extend PySem.F.type_list_extend YEs (YY K rfl (pv 0) rfl) (YA (Z3 (N:=["sign"]) (ρ:=[none]) (cl:=[]) rfl (Yj.plain rfl (by decide +kernel) (by decide +kernel) rfl (by simp)) (YH4 (Zy YFo (YY K rfl (pv 0) rfl) (ZZ (pv 1)) (ZZ (pv 2)))) (λ_ _ _ _ _=>(YU (i:=0) YHS rfl (Or.inl rfl) (.inr rfl))) (λ_ _ _ _ _=>Zh) (λ_ _ _ _ _=>(Ze (YA ZH (YA (pv 0) YB))))) YB)))⟩),?_⟩;have hx:=S.x;obtain⟨vs,pB,hdd⟩:=S.hd;refine⟨_,Z,M.x,C.Mending,M.dx,_,_,Z,hx,T.aj,T.aB,Z,.inl ⟨Z,_,SqL.of pB⟩,_,Z,M.x,C.Mending,M.dx,_,_,Z,hx,T.aj,T.bI,Z,_,Z,_,Z,_,Z,_,Z,M.t,Z,YH (by lia),?_⟩;have hsl:(Txt.slice M.t (some (b:Int)) (some (e:Int))).cps.toList=(M.t.cps.toList.drop b).take (e - b):=by
   have hl:M.t.cps.toList.length=M.t.length:=YMM;have e1:=eq_of_beq (PyProof.Rows.slice_closes (x:=M.t) (i:=b) (j:=e) ⟨by lia,by lia,by lia⟩);rw[e1];show(M.t.cps.toList.drop (b:Int).toNat).take ((e:Int) - b).toNat=_;rw[show((e:Int) - b).toNat=e - b by lia];rfl
  obtain⟨th,eth⟩:∃th,Txt.slice M.t (some (b:Int)) (some (e:Int))=th:=⟨_,Z⟩;rw[eth]at hsl;have hth:th.cps.size<=60:=by
   have h1:th.cps.toList.length=th.cps.size:=YMM;have h2:M.t.cps.toList.length=M.t.length:=YMM;rw[hsl,YMp,YM5]at h1
   lia
  rw[eth];refine⟨th,Z,λl hl=>?_⟩;refine Zf (n:=th.cps.size) 0 (λk y H=>∃c u,th.cps[k]?=some c/\y=.ref u/\H u=some (.tup [.str "cut",.str ⟨#[c]⟩])) YJi (λk y H H' s ⟨c,u,h1,h2,h3⟩=>⟨c,u,h1,h2,s _ _ h3⟩) hp hl (show 0 < 1 by decide) (YH (by lia)) (λτ'=>True) trivial (λ_ _ _=>trivial) ?_ ?_
  ·rintro τ' k y H' R _ hτ ⟨c,hc,rfl⟩ hk s' p' hl' hR;refine⟨_,hτ,YH (by show 2<=1000;decide),λtt du=>hR _ _ (YN.upd du) (p'.upd rfl) ⟨c,tt,hc,Z,?_⟩⟩;rw[Z2 (λz=>hl' (by rw[<-z];exact du))];exact YD
  ·intro ys H2 hy hP s2 p2 h2;have zc:=s2 _ _ pB;have hvl:vs.length=ds.length:=hdd.len;refine⟨M.ld,l,vs,ys,Z,Z,zc,h2,YAQ (by lia),q _ ⟨S.hx0,S.ne,S.nx,λa o n1 n2 e=>?_,⟨_,YD,?_⟩,?_⟩ (p2.upd rfl)⟩
   ·rw[YJ n1];exact s2 _ _ (S.sm a o n1 n2 e)
   ·rw[XT];refine(hdd.same ((s2.del M.ld).del M.lw)).append (YJH ?_ λk y d e1 e2=>?_)
    ·unfold YHT;rw[hy,YLp,<-hsl];exact Array.length_toList.symm
    ·obtain⟨c,u,hc,rfl,hu'⟩:=hP k y e1;have hu2:=ZD _ _ _ _ hu';unfold YHT at e2;rw[YLt,<-hsl,YMq,hc]at e2;cases e2;refine .tup ?_ (.cons (.str _) (.cons (.str _) .nil));have n1:u≠M.ld:=λz=>by rw[z,zc]at hu2;cases hu2
     have n2:u≠M.lw:=λz=>by rw[z,s2 _ _ S.hw]at hu2;cases hu2
     rw[Z2 n2,Z2 n1];exact hu2
   ·rw[YJ S.ne.symm];exact s2 _ _ S.hw
end
structure MPre (M:Mnd) (H0:Hp) (o:Obj) (kvs:List (List Key×V)) (xs:List V) (g:Yl) (a b c:Int) (T:Tol) (ps:List Str) (O:OvF) (F:FiF) (fs:List (Nd×Int)):Prop where
 hd:H0 M.d=some (.frz o (.dT kvs))
 fd:FdT H0 kvs fs
 W:ZU g M.t a b c T ps O F fs
 hb:0<=b
 hbL:b<=10 ^ 60
 hg:Yu g=true
 hB:(M.t.length + 1) * T.s.length<=60
 ht:M.t.length<=60
 hl:H0 M.lr=some (.lst xs)
 hds:Yh (del H0 M.lr) xs (g.map ZR)
 hct:H0 M.ct=some (.tup [.int a,.int b,.int c])
 n1:M.d≠M.ld/\M.d≠M.lw
 n2:M.lr≠M.ld/\M.lr≠M.lw
 l0:H0 M.ld=some (.lst [])/\H0 M.lw=some (.lst [])
inductive YFR (C:Addr) (vs:List V) (H:Hp) (Q:VK):Prop where
 |mk (M:Mnd) (H0:Hp) (ds:List D) (row:List Int) (o:Obj) (kvs:List (List Key×V)) (xs:List V) (g:Yl) (a b c:Int) (T:Tol) (ps:List Str) (O:OvF) (F:FiF) (fs:List (Nd×Int)) (nt:Addr) (r D i m:Nat) (ρ:Yp) (p:Str) (a_:vs=[.ref M.x,.ref nt]) (bc:MSt C M H0 H ds row) (bJ:MPre M H0 o kvs xs g a b c T ps O F fs) (cA:H nt=some (.tup [.int (r:Int),.int ((D:Int) + 1),.int (i:Int),.int ((i + m:Nat):Int)])) (dm:g[r]?=some ρ) (gM:D < rch T.s ρ.2.1) (lq:ρ.2.1[D]?=some p) (m6:i + m<=M.t.length) (ug:YR H) (yj:∀k w1 w2 tw H',k<=m->F r (D + 1) i m=F r D i k + O p (i + k) (i + m)->YN H H'->YR H'->H' tw=some (.tup [.ref w1,.ref w2])->H' w1=some (.tup ((Z6 (.beg r D i (i + k))).map kV))->H' w2=some (.tup ((Z6 (.part p (i + k) (i + m))).map kV))->Q (.ref tw) H'):YFR C vs H Q
def YHU (C:Addr):Sp:=λvs H Q E_=>YFR C vs H Q
theorem pr_inj {x y:Int} (h:pr x=pr y):x=y:=by
 have h1:x / M60=y / M60:=YMw Prod.fst h;have h2:x % M60=y % M60:=YMw Prod.snd h;have ex:=YM1 x M60;have ey:=YM1 y M60;rw[h1,h2]at ex
 lia
theorem YLZ (x y:Int):eqD (.tup [.int (pr x).1,.int (pr x).2]) (.tup [.int (pr y).1,.int (pr y).2])=decide (x=y):=by
 by_cases h:x=y
 ·subst h;rw[YLw rfl];exact YDf _ (by unfold D.ok;rfl)
 ·rw[YLz h,YIl];have hn:¬((pr x).1=(pr y).1/\(pr x).2=(pr y).2):=λz=>h (pr_inj (Prod.ext z.1 z.2))
  simp only[YBY,eqD,Bool.and_true];exact YNY.mpr λz=>hn (by simpa using z)
theorem YED {x y:Int}:(D.tup [.int x,.int y]).ok=true:=by
 unfold D.ok;rfl
theorem YJI {x y:Int}:(D.tup [.int x,.int y]).dep<=64:=by
 simp[D.dep,YFp]
theorem ZU.dgetM {g:Yl}{t:Str}{a b c:Int}{T:Tol}{ps:List Str}{O:OvF}{F:FiF}{fs:List (Nd×Int)} (W:ZU g t a b c T ps O F fs) {H:Hp}{d tk:Addr}{o:Obj}{kvs:List (List Key×V)} (hd:H d=some (.frz o (.dT kvs))) (fd:FdT H kvs fs) {n:Nd} (Qk:H tk=some (.tup ((Z6 n).map kV))) (ha:YBu T ps n):
  ∃u,Jf H d (.ref tk) (some (.ref u))/\H u=some (.tup [.int (pr (YBt O F n)).1,.int (pr (YBt O F n)).2]):=by
 rcases W.get fd n with ⟨_,z⟩ |⟨u,h1,_,h2⟩
 ·exact absurd ha z
 ·exact⟨u,.inr ⟨kvs,Z6 n,tk,.inr ⟨o,hd⟩,Z,Qk,h1.symm⟩,h2⟩
section
variable {P:Program}{w:World}{K:W.Frag}{mg:Str->Option Value}{base:Heap}{C:Adr}
theorem Yv:YX ["self","node","shorter","part","middle","one","other","first","second"] ["self","node"] (YQ Jq):=⟨Z,Z,Z,by decide +kernel,Z,by decide +kernel,by decide +kernel⟩
theorem YBv {f:Addr}{fd:FuncData} (F:Fun K "way_for" "Mending.way_for" Jq f fd) (T:Txt K mg C):Yt P w K mg base CX0 1 f fd ["self","node"] (YHU C.Mending):=by
 refine F.ok Yv (λvs H Q E h=>?_) (λaO A outer s H vs Q E hr h=>?_)
 ·cases h;subst_vars;rfl
 ·obtain⟨M,H0,ds,row,o,kvs,xs,g,a,b,c,S,ps,O,FF,fs,nt,r,D,i,m,ρ,p,rfl,st,pre,hnt,yq,hD,hpp,lQ,hp,q⟩:=h;have hu:=Zq hr;have hU:=hr.units;refine qex ?_;refine⟨_,(YE ⟨(YK (i:=2) Yv.nd rfl (Or.inl rfl) (YI JI (YM (YS K rfl) (pv 1) YC (λ_ _=>rfl)) YC))⟩
   (YE ⟨(YK (i:=3) Yv.nd rfl (Or.inl rfl) (YM (YS K rfl) (YM (YS K rfl) (YM (YT K rfl) (YY K rfl (pv 0) rfl) (YM (YS K rfl) (pv 1) YC (λ_ _=>rfl)) (λ_ _=>rfl)) YC (λ_ _=>rfl)) (pv 2) (λ_ _=>rfl)))⟩
   (YE ⟨(Yq PassesOwn.never rfl (YCS rfl T.aG (YA (YM (YS K rfl) (pv 1) YC (λ_ _=>rfl)) (YA (YI Ye (YM (YS K rfl) (pv 1) YC (λ_ _=>rfl)) YC) YB))) (YU (i:=4) Yv.nd rfl (Or.inl rfl)) (YG (YK (i:=5) Yv.nd rfl (Or.inl rfl) (Ze (ZL (YM (YS K rfl) (pv 1) YC (λ_ _=>rfl)) (ZL (pv 2) (ZL (YM (YS K rfl) (pv 1) YC (λ_ _=>rfl)) (ZL (pv 4) YB))))))
   (YG (YK (i:=6) Yv.nd rfl (Or.inl rfl) (Ze (YA (pv 3) (YA (pv 4) (YA (YM (YS K rfl) (pv 1) YC (λ_ _=>rfl)) YB)))))
   (YG (YK (i:=7) Yv.nd rfl (Or.inl rfl) (ZJ hu (YY K rfl (pv 0) rfl) (pv 5) (λ_ _=>rfl)))
   (YG (YK (i:=8) Yv.nd rfl (Or.inl rfl) (ZJ hu (YY K rfl (pv 0) rfl) (pv 6) (λ_ _=>rfl)))
   (YF (Yx (YW (YAY K rfl hU) (Ze (YA (YI Ye (YM (YS K rfl) (pv 7) YC (λ_ _=>rfl)) (YM (YS K rfl) (pv 8) YC (λ_ _=>rfl))) (YA (YI Ye (YM (YS K rfl) (pv 7) YC (λ_ _=>rfl)) (YM (YS K rfl) (pv 8) YC (λ_ _=>rfl))) YB))) (ZJ hu (YY K rfl (pv 0) rfl) (pv 1) (λ_ _=>rfl)) (Yd _)) (YF (Yc (Ze (YA (pv 5) (YA (pv 6) YB))))) Yk)))))))⟩
   (Y1 ⟨(Yc Xd)⟩)))),?_⟩
  have hx:=st.x;have sqn:∀{H':Hp},YN H H'->SqT K H' nt [.int (r:Int),.int ((D:Int) + 1),.int (i:Int),.int ((i + m:Nat):Int)]:=λs=>SqT.of (s _ _ hnt)
  have hl:=st.sm _ _ pre.n2.1 pre.n2.2 pre.hl;have hd:=st.sm _ _ pre.n1.1 pre.n1.2 pre.hd;have kt:∀u ys,H0 u=some (.tup ys)->H u=some (.tup ys):=λu ys e=>st.sm _ _ (λz=>by rw[z,pre.l0.1]at e;cases e) (λz=>by rw[z,pre.l0.2]at e;cases e) e
  have fd:FdT H kvs fs:=pre.fd.keep kt;have W:=pre.W;obtain⟨xv,RV⟩:∃x,xs[r]?=some x:=⟨_,YLs (by rw[pre.hds.len,YLp];exact(YLv.mp yq).1)⟩;obtain⟨ρ',tρ,pp,er,rfl,htρ,yr⟩:=J5 pre.hds RV;rw[yq]at er;cases er;have htρ:=kt _ _ (ZD _ _ _ _ htρ);have yr:=kt _ _ (ZD _ _ _ _ yr);have eD:(D:Int) + 1 - 1=(D:Int):=by lia
  refine⟨_,Z,nt,_,1,_,Z,Z,sqn (YN.refl _),Z,_,_,Z,Z,?_⟩;rw[eD];refine⟨_,Z,M.x,C.Mending,M.dx,_,_,Z,hx,T.aj,T.cg,Z,_,Z,nt,_,0,_,Z,Z,sqn (YN.refl _),Z,M.lr,_,_,_,Z,Z,SqL.of hl,Yn RV,tρ,_,1,_,Z,Z,SqT.of htρ,Z,_,Z,pp,_,_,_,Z,Z,SqT.of yr,Yn (by rw[YLt,hpp];rfl),?_⟩;have z7:∀k:Int,0<=k->k<=100->-(2 ^ 62)<=k/\k < 2 ^ 62:=λk h1 h2=>⟨by lia,by lia⟩
  have ht:=pre.ht;refine⟨_,Z,nt,_,2,_,Z,Z,sqn (YN.refl _),Z,_,Z,nt,_,3,_,Z,Z,sqn (YN.refl _),Z,_,_,Z,Z,_,_,Z,⟨(z7 _ (by lia) (by lia)).1,(z7 _ (by lia) (by lia)).2,(z7 _ (by lia) (by lia)).1,(z7 _ (by lia) (by lia)).2⟩,?_⟩;refine ZI (lo:=(i:Int)) (n:=(((i + m:Nat):Int) + 1 - (i:Int)).toNat) (λk σ H'=>∃(v4 v5 v6 v7 v8:Option V),σ=[some (.ref M.x),some (.ref nt),some (.int (D:Int)),some (.str p),v4,v5,v6,v7,v8]/\YN H H'/\YR H'/\∀k',k' < k->¬FF r (D + 1) i m=FF r D i k' + O p (i + k') (i + m)) ⟨_,_,_,_,_,Z,YN.refl _,hp,λk' l=>nomatch l⟩ ?_ ?_
  ·rintro k σ H' hk ⟨v4,v5,v6,v7,v8,rfl,s',p',no⟩;have rZ:k<=m:=by lia
   have hok:okP S.s p=true:=by
    obtain⟨p',e1,e2⟩:=JA hD;rw[hpp]at e1;cases e1;exact e2
   have BJ:ρ∈g:=YLu yq;have a1:YBu S ps (.beg r D i (i + k)):=⟨⟨ρ,by rw[W.eg];exact yq,by lia⟩,by lia,by rw[W.en];lia⟩;have a2:YBu S ps (.part p (i + k) (i + m)):=⟨(W.part BJ (YLu hpp)).mpr hok,by lia,by rw[W.en];lia⟩;have a3:YBu S ps (.beg r (D + 1) i (i + m)):=⟨⟨ρ,by rw[W.eg];exact yq,by lia⟩,by lia,by rw[W.en];lia⟩;rw[show(i:Int) + (k:Int)=((i + k:Nat):Int) by lia];refine⟨_,Z,nt,_,0,_,Z,Z,sqn s',Z,_,Z,_,Z,nt,_,2,_,Z,Z,sqn s',Z,_,Z,YH (by show 4<=1000;decide),λw1 Ej=>?_⟩;have s1:=s'.trans (YN.upd (o:=.tup [.int (r:Int),.int (D:Int),.int (i:Int),.int ((i + k:Nat):Int)]) Ej);have p1:YR (upd H' w1 (.tup [.int (r:Int),.int (D:Int),.int (i:Int),.int ((i + k:Nat):Int)])):=p'.upd rfl;have e1:upd H' w1 (.tup [.int (r:Int),.int (D:Int),.int (i:Int),.int ((i + k:Nat):Int)]) w1=some (.tup ((Z6 (.beg r D i (i + k))).map kV)):=YD;revert s1 p1 e1;generalize upd H' w1 (.tup [.int (r:Int),.int (D:Int),.int (i:Int),.int ((i + k:Nat):Int)])=H1;intro s1 p1 e1;refine⟨_,Z,_,Z,_,Z,nt,_,3,_,Z,Z,sqn s1,Z,YH (by show 3<=1000;decide),λw2 Ek=>?_⟩;have sx:=YN.upd (o:=.tup [.str p,.int ((i + k:Nat):Int),.int ((i + m:Nat):Int)]) Ek;have p2:YR (upd H1 w2 (.tup [.str p,.int ((i + k:Nat):Int),.int ((i + m:Nat):Int)])):=p1.upd rfl;have e2:upd H1 w2 (.tup [.str p,.int ((i + k:Nat):Int),.int ((i + m:Nat):Int)]) w2=some (.tup ((Z6 (.part p (i + k) (i + m))).map kV)):=YD;revert sx p2 e2;generalize upd H1 w2 (.tup [.str p,.int ((i + k:Nat):Int),.int ((i + m:Nat):Int)])=H2;intro sx p2 e2;have s2:=s1.trans sx;have e1:=sx _ _ e1;have hx2:=s2 _ _ hx;have hd2:=s2 _ _ hd;have fd2:FdT H2 kvs fs:=fd.keep λ_ _ e=>s2 _ _ e
   obtain⟨u1,g1,Qy⟩:=W.dgetM hd2 fd2 e1 a1;obtain⟨u2,g2,hu2⟩:=W.dgetM hd2 fd2 e2 a2;refine⟨_,Z,M.x,C.Mending,M.dx,_,_,Z,hx2,T.aj,T.au,Z,_,Z,M.d,_,Z,g1,?_⟩;refine⟨_,Z,M.x,C.Mending,M.dx,_,_,Z,hx2,T.aj,T.au,Z,_,Z,M.d,_,Z,g2,?_⟩;refine⟨_,Z,u1,_,0,_,Z,Z,SqT.of Qy,Z,_,Z,u2,_,0,_,Z,Z,SqT.of hu2,Z,_,_,Z,Z,_,Z,u1,_,1,_,Z,Z,SqT.of Qy,Z,_,Z,u2,_,1,_,Z,Z,SqT.of hu2,Z,_,_,Z,Z,YH (by show 2<=1000;decide),λts BK=>?_⟩;have h6:∀ρ∈g,ρ.2.1.length<=6:=λρ hρ=>(J3 pre.hg hρ).2.1
   have es:=W.sumB pre.hb h6 pre.hB yq (YNa hD) hok rZ lQ;have RW:=YMw Prod.fst es;have yK:=YMw Prod.snd es;dsimp only at RW yK;rw[show YBt O FF (.beg r D i (i + k))=FF r D i k by show FF r D i (i + k - i)=_;rw[YM4],show YBt O FF (.part p (i + k) (i + m))=O p (i + k) (i + m) from rfl,RW,yK];have sy:=YN.upd (o:=.tup [.int (pr (FF r D i k + O p (i + k) (i + m))).1,.int (pr (FF r D i k + O p (i + k) (i + m))).2]) BK;have s3:=s2.trans sy;have Wi:upd H2 ts (.tup [.int (pr (FF r D i k + O p (i + k) (i + m))).1,.int (pr (FF r D i k + O p (i + k) (i + m))).2]) nt=some (.tup ((Z6 (.beg r (D + 1) i (i + m))).map kV)):=(s3 _ _ hnt).trans (by
    show _=some (HO.tup [.int (r:Int),.int ((D + 1:Nat):Int),.int (i:Int),.int ((i + m:Nat):Int)]);rw[show((D + 1:Nat):Int)=(D:Int) + 1 by lia])
   obtain⟨u3,g3,lO⟩:=W.dgetM (s3 _ _ hd) (fd.keep λ_ _ e=>s3 _ _ e) Wi a3;rw[show YBt O FF (.beg r (D + 1) i (i + m))=FF r (D + 1) i m by show FF r (D + 1) i (i + m - i)=_;rw[YM4]]at lO;refine⟨_,Z,M.x,C.Mending,M.dx,_,_,Z,sy _ _ hx2,T.aj,T.au,Z,_,Z,M.d,_,Z,g3,_,_,.tup YD (.cons (.int _) (.cons (.int _) .nil)),.tup lO (.cons (.int _) (.cons (.int _) .nil)),YED,YED,YJI,_,Z,?_⟩;rw[YLZ];refine JP (λh=>?_) λh=>?_
   ·have h:=YME h;refine⟨_,Z,_,Z,YH (by show 2<=1000;decide),λtw vA=>?_⟩;have sz:=sy.trans (YN.upd (o:=.tup [.ref w1,.ref w2]) vA);exact q k w1 w2 tw _ rZ h.symm (s2.trans sz) ((p2.upd rfl).upd rfl) YD (sz _ _ e1) (sz _ _ e2)
   ·refine⟨_,_,_,_,_,Z,s3,p2.upd rfl,λk' hk'=>?_⟩;rcases YMt k' k with hl' |hl'
    ·exact no k' hl'
    ·rw[show k'=k by lia];exactλz=>h (YLw z.symm)
  ·rintro σ H' ⟨v4,v5,v6,v7,v8,rfl,s',p',no⟩
   exfalso
   obtain⟨_,h⟩:=(W.ok pre.hb).f i m lQ r ρ yq;obtain⟨_,k,hk,e⟩:=h D p hD hpp;exact no k (by lia) e
end
inductive YEE (C:Addr) (vs:List V) (H:Hp) (Q:VK):Prop where
 |mk (M:Mnd) (H0:Hp) (ds:List D) (row:List Int) (o:Obj) (kvs:List (List Key×V)) (xs:List V) (g:Yl) (a b c:Int) (T:Tol) (ps:List Str) (O:OvF) (F:FiF) (fs:List (Nd×Int)) (nt:Addr) (h:Str) (i m:Nat) (v:Int) (a_:vs=[.ref M.x,.ref nt]) (bc:MSt C M H0 H ds row) (bJ:MPre M H0 o kvs xs g a b c T ps O F fs) (cA:H nt=some (.tup [.str h,.int (i:Int),.int ((i + m:Nat):Int)])) (dm:look T.s h=some v) (gM:i + m<=M.t.length) (lq:YR H) (m6:∀r ρ tw H',g[r]?=some ρ->ρ.1=h->rch T.s ρ.2.1=ρ.2.1.length->O h i (i + m)=F r ρ.2.1.length i m->YN H H'->YR H'->H' tw=some (.tup ((Z6 (.beg r ρ.2.1.length i (i + m))).map kV))->Q (.ref tw) H'):YEE C vs H Q
def YFS (C:Addr):Sp:=λvs H Q E_=>YEE C vs H Q
section
variable {P:Program}{w:World}{K:W.Frag}{mg:Str->Option Value}{base:Heap}{C:Adr}
theorem Zl:YX ["self","node","number","rule","whole"] ["self","node"] (YQ Ja):=⟨Z,Z,Z,by decide +kernel,Z,by decide +kernel,by decide +kernel⟩
theorem YBb {f:Addr}{fd:FuncData} (F:Fun K "rule_for" "Mending.rule_for" Ja f fd) (T:Txt K mg C):Yt P w K mg base CX0 1 f fd ["self","node"] (YFS C.Mending):=by
 refine F.ok Zl (λvs H Q E h=>?_) (λaO A outer s H vs Q E hr h=>?_)
 ·cases h;subst_vars;rfl
 ·obtain⟨M,H0,ds,row,o,kvs,xs,g,a,b,c,S,ps,O,FF,fs,nt,h,i,m,v,rfl,st,pre,hnt,hlk,lQ,hp,q⟩:=h;have hu:=Zq hr;have hU:=hr.units;refine qex ?_;refine⟨_,(YE ⟨(Yq PassesOwn.never rfl (X3 K rfl rfl T.aZ (YA (YY K rfl (pv 0) rfl) YB)) (XS K rfl (n:=2) rfl (ZC (YU (i:=2) Zl.nd rfl (Or.inl rfl)) (ZC (YU (i:=3) Zl.nd rfl (Or.inl rfl)) XR))) (YG (YK (i:=4) Zl.nd rfl (Or.inl rfl) (Ze (ZL (pv 2) (ZL (YO (YL K rfl) (by rfl) T.ak YLq (YA (YM (YS K rfl) (pv 3) YC (λ_ _=>rfl)) YB)) (ZL (YM (YS K rfl) (pv 1) YC (λ_ _=>rfl)) (ZL (YM (YS K rfl) (pv 1) YC (λ_ _=>rfl)) YB))))))
   (YF (Yx (PW.pt (X7 (YW Jd (YM (YS K rfl) (pv 3) YC (λ_ _=>rfl)) (YM (YS K rfl) (pv 1) YC (λ_ _=>rfl)) (Yd _)) (XQ (YW (YAY K rfl hU) (YGX hu (YY K rfl (pv 0) rfl) (pv 4) ⟨Z,Z,Z,Z⟩) (ZJ hu (YY K rfl (pv 0) rfl) (pv 1) (λ_ _=>rfl)) (Yd _))))) (YF (Yc (pv 4))) Yk))))⟩
   (Y1 ⟨(Yc Xd)⟩)),?_⟩
  have hx:=st.x;have sqn:∀{H':Hp},YN H H'->SqT K H' nt [.str h,.int (i:Int),.int ((i + m:Nat):Int)]:=λs=>SqT.of (s _ _ hnt)
  have hl:=st.sm _ _ pre.n2.1 pre.n2.2 pre.hl;have hd:=st.sm _ _ pre.n1.1 pre.n1.2 pre.hd;have kt:∀u ys,H0 u=some (.tup ys)->H u=some (.tup ys):=λu ys e=>st.sm _ _ (λz=>by rw[z,pre.l0.1]at e;cases e) (λz=>by rw[z,pre.l0.2]at e;cases e) e
  have fd:FdT H kvs fs:=pre.fd.keep kt;have W:=pre.W;have sU:xs.length=g.length:=by rw[pre.hds.len,YLp]
  have a3:YBu S ps (.part h i (i + m)):=⟨W.po.2.2.1 h v hlk,by lia,by rw[W.en];lia⟩;refine⟨_,Z,M.x,C.Mending,M.dx,_,_,Z,hx,T.aj,T.cg,Z,M.lr,Z,⟨_,.inl hl⟩,?_⟩;refine XD (K:=K) (a:=M.lr) (xs:=xs) (λk σ H'=>∃(v2 v3 v4:Option V),σ=[some (.ref M.x),some (.ref nt),v2,v3,v4]/\YN H H'/\YR H'/\∀k' ρ,k' < k->g[k']?=some ρ->ρ.1=h->rch S.s ρ.2.1=ρ.2.1.length->¬O h i (i + m)=FF k' ρ.2.1.length i m) ⟨_,_,_,Z,YN.refl _,hp,λk' ρ l=>nomatch l⟩ (λk σ H' _ ⟨_,_,_,_,s',_⟩=>SqL.of (s' _ _ hl)) ?_ ?_
  ·rintro k x Tt σ H' hxk hTt ⟨v2,v3,v4,rfl,s',p',no⟩;obtain⟨ρ,tρ,pp,er,rfl,htρ,yr⟩:=J5 pre.hds hxk;have htρ:=kt _ _ (ZD _ _ _ _ htρ);have yr:=kt _ _ (ZD _ _ _ _ yr);have s1:=s'.trans (YN.upd (o:=.tup [.int ((k:Nat):Int),.ref tρ]) hTt);have p1:YR (upd H' Tt (.tup [.int ((k:Nat):Int),.ref tρ])):=p'.upd rfl;have e1:upd H' Tt (.tup [.int ((k:Nat):Int),.ref tρ]) Tt=some (.tup [.int ((k:Nat):Int),.ref tρ]):=YD;revert s1 p1 e1;generalize upd H' Tt (.tup [.int ((k:Nat):Int),.ref tρ])=H1;intro s1 p1 e1;refine⟨Tt,_,Z,SqT.of e1,Z,_,_,Z,_,_,Z,Z,?_⟩;refine⟨_,Z,_,Z,tρ,_,1,_,Z,Z,SqT.of (s1 _ _ htρ),Z,pp,_,Z,.inr (SqT.of (s1 _ _ yr)),_,Z,nt,_,1,_,Z,Z,sqn s1,Z,_,Z,nt,_,2,_,Z,Z,sqn s1,Z,YH (by show 4<=1000;decide),λtw vA=>?_⟩;rw[YLp];have sx:=YN.upd (o:=.tup [.int (k:Int),.int (ρ.2.1.length:Int),.int (i:Int),.int ((i + m:Nat):Int)]) vA;have p2:YR (upd H1 tw (.tup [.int (k:Int),.int (ρ.2.1.length:Int),.int (i:Int),.int ((i + m:Nat):Int)])):=p1.upd rfl;have e2:upd H1 tw (.tup [.int (k:Int),.int (ρ.2.1.length:Int),.int (i:Int),.int ((i + m:Nat):Int)]) tw=some (.tup ((Z6 (.beg k ρ.2.1.length i (i + m))).map kV)):=YD;revert sx p2 e2;generalize upd H1 tw (.tup [.int (k:Int),.int (ρ.2.1.length:Int),.int (i:Int),.int ((i + m:Nat):Int)])=H2;intro sx p2 e2;have s2:=s1.trans sx;have hx2:=s2 _ _ hx;have hd2:=s2 _ _ hd;have fd2:FdT H2 kvs fs:=fd.keep λ_ _ e=>s2 _ _ e
   refine⟨_,Z,tρ,_,0,_,Z,Z,SqT.of (s2 _ _ htρ),Z,_,Z,nt,_,0,_,Z,Z,sqn s2,Z,Z,_,Z,?_⟩;have go:∀(hno:ρ.1=h->rch S.s ρ.2.1=ρ.2.1.length->¬O h i (i + m)=FF k ρ.2.1.length i m),∀k' ρ',k' < k + 1->g[k']?=some ρ'->ρ'.1=h->rch S.s ρ'.2.1=ρ'.2.1.length->¬O h i (i + m)=FF k' ρ'.2.1.length i m:=λhno k' ρ' l f1 f2 f3=>by
    rcases YMt k' k with hl' |hl'
    ·exact no k' ρ' hl' f1 f2 f3
    ·have ek:k'=k:=by lia
     subst ek;rw[er]at f1;cases f1;exact hno f2 f3
   refine JP (λhh=>?_) λhh=>?_
   ·have hh:ρ.1=h:=V.str.inj (YME hh);obtain⟨u3,g3,lO⟩:=W.dgetM hd2 fd2 (n:=.part h i (i + m)) (s2 _ _ hnt) a3;have hall:YBu S ps (.beg k ρ.2.1.length i (i + m))<->rch S.s ρ.2.1=ρ.2.1.length:=by
     show((∃ρ',S.g[k]?=some ρ'/\ρ.2.1.length<=rch S.s ρ'.2.1)/\i<=i + m/\i + m<=S.n)<->_;rw[W.eg,W.en,er];refine⟨λ⟨⟨ρ',e1,e2⟩,_⟩=>by cases e1;exact Nat.le_antisymm (YAB _ _) e2,λz=>⟨⟨ρ,Z,by lia⟩,by lia,by lia⟩⟩
    have isd:IsD H2 M.d:=.inr ⟨kvs,.inr ⟨o,hd2⟩⟩;rcases W.get fd2 (.beg k ρ.2.1.length i (i + m)) with ⟨h1,h2⟩ |⟨u,h1,h2,h3⟩
    ·refine⟨_,Z,M.x,C.Mending,M.dx,_,_,Z,hx2,T.aj,T.au,Z,M.d,Z,isd,_,Z,none,.inr ⟨kvs,Z6 (.beg k ρ.2.1.length i (i + m)),tw,.inr ⟨o,hd2⟩,Z,e2,h1.symm⟩,_,Z,M.x,C.Mending,M.dx,_,_,Z,hx2,T.aj,T.au,Z,_,Z,M.d,_,Z,g3,.non,_,.non,.tup lO (.cons (.int _) (.cons (.int _) .nil)),Z,YED,by decide,_,Z,?_⟩;refine ZA ?_;exact⟨_,_,_,Z,s2,p2,go λ_ z=>absurd (hall.mpr z) h2⟩
    ·refine⟨_,Z,M.x,C.Mending,M.dx,_,_,Z,hx2,T.aj,T.au,Z,M.d,Z,isd,_,Z,some (.ref u),.inr ⟨kvs,Z6 (.beg k ρ.2.1.length i (i + m)),tw,.inr ⟨o,hd2⟩,Z,e2,h1.symm⟩,_,Z,M.x,C.Mending,M.dx,_,_,Z,hx2,T.aj,T.au,Z,_,Z,M.d,_,Z,g3,_,_,.tup h3 (.cons (.int _) (.cons (.int _) .nil)),.tup lO (.cons (.int _) (.cons (.int _) .nil)),YED,YED,YJI,_,Z,?_⟩;rw[YLZ];have ev:YBt O FF (.beg k ρ.2.1.length i (i + m))=FF k ρ.2.1.length i m:=by show FF k ρ.2.1.length i (i + m - i)=_;rw[YM4]
     refine JP (λz=>?_) λz=>?_
     ·have z:=YME z;rw[ev]at z;exact⟨_,Z,q k ρ tw _ er hh (hall.mp h2) z.symm s2 p2 e2⟩
     ·exact⟨_,_,_,Z,s2,p2,go λ_ _ z'=>z (YLw (by rw[ev];exact z'.symm))⟩
   ·refine ZA ?_;exact⟨_,_,_,Z,s2,p2,go λz=>absurd (YLw (by rw[z])) hh⟩
  ·rintro σ H' ⟨v2,v3,v4,rfl,s',p',no⟩
   exfalso
   obtain⟨_,r,ρ,h1,h2,h3,h4⟩:=(W.ok pre.hb).o i m lQ h v hlk;exact no r ρ (by rw[sU];exact(YLv.mp h1).1) h1 h2 h3 h4
end
def KpM (M:Mnd) (H H':Hp):Prop:=∀a o,a≠M.ld->a≠M.lw->H a=some o->H' a=some o
theorem MSt.re {C:Addr}{M:Mnd}{H0 H H':Hp}{ds uC:List D}{row gk:List Int} (S:MSt C M H0 H ds row) (S':MSt C M H H' uC gk):MSt C M H0 H' uC gk where
 hx0:=S.hx0
 ne:=S.ne
 nx:=S.nx
 sm:=λa o n1 n2 e=>S'.sm a o n1 n2 (S.sm a o n1 n2 e)
 hd:=S'.hd
 hw:=S'.hw
theorem MSt.here {C:Addr}{M:Mnd}{H0 H:Hp}{ds:List D}{row:List Int} (S:MSt C M H0 H ds row):MSt C M H H ds row where
 hx0:=S.x
 ne:=S.ne
 nx:=S.nx
 sm:=λ_ _ _ _ e=>e
 hd:=S.hd
 hw:=S.hw
theorem ZW (t:Str) (b e:Nat):YHT t b e=((Jp t b e).map Dd.cut).map ddD:=by
 unfold YHT;rw[YNG];rfl
theorem MSt.push {C:Addr}{M:Mnd}{H0 H:Hp}{ds:List D}{row:List Int} (S:MSt C M H0 H ds row) {t:Addr}{ys vs:List V}{zs:List D} (ht:H t=none) (hv:H M.ld=some (.lst vs)) (hz:∀H',Yh H' ys zs):MSt C M H0 (upd (upd H t (.tup ys)) M.ld (.lst (vs ++ [.ref t]))) (ds ++ [.tup zs]) row where
 hx0:=S.hx0
 ne:=S.ne
 nx:=S.nx
 sm:=λa o n1 n2 e=>by
  rw[YJ n1];exact YN.upd ht _ _ (S.sm a o n1 n2 e)
 hd:=by
  obtain⟨vs',h1,h2⟩:=S.hd;rw[hv]at h1;cases h1;refine⟨_,YD,?_⟩;rw[XT];refine(h2.same (((YN.upd ht).del M.ld).del M.lw)).append (.cons (.tup ?_ (hz _)) .nil);rw[Z2 (λz=>by rw[z,S.hw]at ht;cases ht),Z2 (λz=>by rw[z,hv]at ht;cases ht)];exact YD
 hw:=by
  rw[YJ S.ne.symm];exact YN.upd ht _ _ S.hw
theorem YBH {M:Mnd}{H H1:Hp} (k:KpM M H H1) {t:Addr}{o:HO}{vs:List V} (ht:H1 t=none):KpM M H (upd (upd H1 t o) M.ld (.lst vs)):=λa x n1 n2 e=>by
 rw[YJ n1];exact YN.upd ht _ _ (k a x n1 n2 e)
theorem MSt.len {C:Addr}{M:Mnd}{H0 H:Hp}{ds:List D}{row:List Int} (S:MSt C M H0 H ds row):∃vs,H M.ld=some (.lst vs)/\vs.length=ds.length:=by
 obtain⟨vs,h1,h2⟩:=S.hd;exact⟨vs,h1,h2.len⟩
inductive YFT (C:Addr) (vs:List V) (H:Hp) (Q:VK):Prop where
 |mk (M:Mnd) (H0:Hp) (ds:List D) (row:List Int) (o:Obj) (kvs:List (List Key×V)) (xs:List V) (g:Yl) (a b c:Int) (T:Tol) (ps:List Str) (O:OvF) (F:FiF) (fs:List (Nd×Int)) (nt:Addr) (p:Str) (i m:Nat) (a_:vs=[.ref M.x,.ref nt]) (bc:MSt C M H0 H ds row) (bJ:MPre M H0 o kvs xs g a b c T ps O F fs) (cA:H nt=some (.tup [.str p,.int (i:Int),.int ((i + m:Nat):Int)])) (dm:isQ p=true) (gM:p∈ps) (lq:i + m<=M.t.length) (m6:ds.length<=7000) (ug:YR H) (yj:∀sd H',SgD M.t a b c p i (i + m) sd->MSt C M H0 H' (ds ++ sd.map ddD) row->KpM M H H'->YR H'->Q .non H'):YFT C vs H Q
def YHV (C:Addr):Sp:=λvs H Q E_=>YFT C vs H Q
section
variable {P:Program}{w:World}{K:W.Frag}{mg:Str->Option Value}{base:Heap}{C:Adr}
theorem Yw:YX ["self","node","sign","begin","end","found","place","change"] ["self","node"] (YQ JN):=⟨Z,Z,Z,by decide +kernel,Z,by decide +kernel,by decide +kernel⟩
theorem YBI {f:Addr}{fd:FuncData} (F:Fun K "take_sign" "Mending.take_sign" JN f fd) (T:Txt K mg C) (aD:XA P w K mg CX0 1 C.Mending "cut_signs" ["self","begin","end"] (YIZ C.Mending)):Yt P w K mg base CX0 2 f fd ["self","node"] (YHV C.Mending):=by
 obtain⟨gD,eX,aK,aH,aL⟩:=aD.ok;refine F.ok Yw (λvs H Q E h=>?_) (λaO A outer s H vs Q E hr h=>?_)
 ·cases h;subst_vars;rfl
 ·obtain⟨M,H0,ds,row,o,kvs,xs,g,a,b,c,S,ps,O,FF,fs,nt,p,i,m,rfl,st,pre,hnt,hq,hps,lQ,hdl,hp,q⟩:=h;have hu:=Zq hr;have hU:=hr.units;refine qex ?_;refine⟨_,(YE ⟨(YK (i:=2) Yw.nd rfl (Or.inl rfl) (YM Zt (YM (YS K rfl) (pv 1) YC (λ_ _=>rfl)) YC (λ_ _=>rfl)))⟩
   (YE ⟨(YK (i:=3) Yw.nd rfl (Or.inl rfl) (YM (YS K rfl) (pv 1) YC (λ_ _=>rfl)))⟩
   (YE ⟨(YK (i:=4) Yw.nd rfl (Or.inl rfl) (YM (YS K rfl) (pv 1) YC (λ_ _=>rfl)))⟩
   (YE ⟨(YK (i:=5) Yw.nd rfl (Or.inl rfl) (ZO K rfl YNL PySem.F.slot_str_find PySem.F.type_str_find YG1 (YY K rfl (pv 0) rfl) (YA (pv 2) (YA (pv 3) (YA (pv 4) YB)))))⟩
   (YE ⟨(YK (i:=6) Yw.nd rfl (Or.inl rfl) (YAG (YW Xh (pv 5) YC (Yd _)) (pv 3) (pv 5)))⟩
   (YE ⟨(YK (i:=7) Yw.nd rfl (Or.inl rfl) (YAG (YW Xh (pv 5) YC (Yd _)) (YM (YS K rfl) (YY K rfl (pv 0) rfl) YC (λ_ _=>rfl)) YC))⟩
   (YE ⟨(Yx (PW.pt (YAr (YW Jd (pv 3) (pv 4) (Yd _)) (YAT (YW YCt (YI Ye (YI XU (YI JI (YI JI (pv 4) (pv 3)) YC) (YM (YS K rfl) (YY K rfl (pv 0) rfl) YC (λ_ _=>rfl))) (pv 7)) (YM (YS K rfl) (ZJ hu (YY K rfl (pv 0) rfl) (pv 1) (λ_ _=>rfl)) YC (λ_ _=>rfl)) (Yd _))))) (YG (Yr (Zs (pv 0) T.aj aH (aK base) (hr.mono (by decide)) aL .nil Yi (YA (pv 3) (YA (pv 4) YB))))
   (YG (Yr (ZO K rfl YMC YML YMK Y0 (YY K rfl (pv 0) rfl) (YA (Ze (YA ZH (YA (pv 2) YB))) YB)))
   (YF ps_retN))) Yk)⟩
   (YE ⟨(Yr (Zs (pv 0) T.aj aH (aK base) (hr.mono (by decide)) aL .nil Yi (YA (pv 3) (YA (pv 6) YB))))⟩
   (YE ⟨(Yr (ZO K rfl YMC YML YMK Y0 (YY K rfl (pv 0) rfl) (YA (YAG (YW Xh (pv 5) YC (Yd _)) (Ze (YA ZH (YA (YM Zt (YY K rfl (pv 0) rfl) (pv 6) (λ_ _=>rfl)) (YA (pv 2) YB)))) (Ze (YA ZH (YA (pv 2) YB)))) YB)))⟩
   (Y1 ⟨(Yr (Zs (pv 0) T.aj aH (aK base) (hr.mono (by decide)) aL .nil Yi (YA (YI Ye (pv 6) YC) (YA (pv 4) YB))))⟩)))))))))),?_⟩
  have hx:=st.x;have sqn:∀{H':Hp},YN H H'->SqT K H' nt [.str p,.int (i:Int),.int ((i + m:Nat):Int)]:=λs=>SqT.of (s _ _ hnt)
  have kt:∀u ys,H0 u=some (.tup ys)->H u=some (.tup ys):=λu ys e=>st.sm _ _ (λz=>by rw[z,pre.l0.1]at e;cases e) (λz=>by rw[z,pre.l0.2]at e;cases e) e
  have hd:=st.sm _ _ pre.n1.1 pre.n1.2 pre.hd;have fd:FdT H kvs fs:=pre.fd.keep kt;have W:=pre.W;have hct:=kt _ _ pre.hct;have ht:=pre.ht;obtain⟨ρ,hρ,hpρ⟩:=W.po.2.2.2.2 p hps hq;have hpS:=(J3 pre.hg hρ).2.2 p hpρ;have lL:=YHF hpS hq;have a0:YBu S ps (.part p i (i + m)):=⟨hps,by lia,by rw[W.en];lia⟩;obtain⟨u,gu,hu'⟩:=W.dgetM hd fd hnt a0;have ev:pr (YBt O FF (.part p i (i + m)))=(sgT M.t a b c p i (i + m),0):=by
   show pr (O p i (i + m))=_;rw[W.iv.sg p i (i + m) hq,W.et,W.ep,W.ec,W.es,YDQ,YF6]
  rw[ev]at hu';refine⟨_,Z,nt,_,0,_,Z,Z,sqn (YN.refl _),Z,p,1,sgn p,Z,Z,YH (by lia),YC0 hpS hq,?_⟩;refine⟨_,Z,nt,_,1,_,Z,Z,sqn (YN.refl _),Z,?_⟩;refine⟨_,Z,nt,_,2,_,Z,Z,sqn (YN.refl _),Z,?_⟩;refine⟨_,Z,M.x,C.Mending,M.dx,_,_,Z,hx,T.aj,T.bI,Z,Z,_,Z,_,Z,_,Z,M.t,_,_,_,Z,Z,?_⟩;dsimp only[ZK];have key:=YJ3 M.t (sgn p) i (i + m) (by lia) lQ;obtain⟨f,ef⟩:∃f,YD0 M.t ⟨#[sgn p]⟩ i ((i + m:Nat):Int)=f:=⟨_,Z⟩;rw[ef]at key ⊢;have hin:=YEB (p:=p) (t:=M.t) (i:=i) (j:=i + m) (by lia) lQ;have hsub:=@YCM M.t i (i + m) (sgn p);have z7:∀k:Int,0<=k->k<=100->-(2 ^ 62)<=k/\k < 2 ^ 62:=λk h1 h2=>⟨by lia,by lia⟩
  have esg:¬m=0->∀ch:Int,(if YBA (YAN p) M.t i (i + m)=true then 0 else c)=ch->sgT M.t a b c p i (i + m)=if (((i + m:Nat):Int) - i - 1) * b + ch < (((i + m:Nat):Int) - i) * b + a then (((i + m:Nat):Int) - i - 1) * b + ch else (((i + m:Nat):Int) - i) * b + a:=λhm ch e=>by
   unfold sgT;rw[if_neg (by lia),e]
  have mulB:YIo (((i + m:Nat):Int) - i - 1) b:=by
   have two:(10:Int) ^ 60 < 2 ^ 4000:=by decide +kernel
   have h1:=pre.hb;have h2:=pre.hbL;refine⟨?_,?_⟩
   ·have:(((i + m:Nat):Int) - i - 1).natAbs < 100:=by lia
    exact YL9 this (by decide +kernel)
   ·have h3:b < 2 ^ 4000:=Int.lt_of_le_of_lt h2 two;have h4:((b.natAbs:Nat):Int)=b:=Int.natAbs_of_nonneg h1;rw[<-h4]at h3
    exact_mod_cast h3
  rcases key with ⟨k,rfl,hk1,hk2,hk3⟩ |⟨rfl,hno⟩
  ·have p_:YBA (YAN p) M.t i (i + m)=true:=by rw[hin];exact YLw (hsub.mpr ⟨k,hk1,hk2,hk3⟩)
   have esg:=esg (by lia) 0 (by rw[if_pos p_]);refine⟨_,Z,_,_,Z,Z,_,Z,?_⟩;rw[YLz (by lia)];refine ZA ⟨_,Z,?_⟩;dsimp only[ZK];refine⟨_,Z,_,_,Z,Z,_,Z,?_⟩;rw[YLz (by lia)];refine ZA ?_;dsimp only[ZK];refine⟨_,Z,_,Z,Z,_,Z,?_⟩;rw[YLz (λz=>by have:=V.int.inj z;lia)];refine ZA ⟨_,Z,_,Z,_,_,Z,Z,_,_,Z,Z,_,Z,M.x,C.Mending,M.dx,_,_,Z,hx,T.aj,T.bw,Z,M.ct,_,1,_,Z,Z,SqT.of hct,Z,_,_,Z,Z,mulB,_,Z,_,_,Z,Z,?_⟩;refine⟨_,Z,M.x,C.Mending,M.dx,_,_,Z,hx,T.aj,T.au,Z,_,Z,M.d,_,Z,gu,u,_,0,_,Z,Z,SqT.of hu',Z,?_⟩;refine⟨Z,_,Z,?_⟩
   by_cases hT:(((i + m:Nat):Int) - i - 1) * b + 0=sgT M.t a b c p i (i + m)
   case neg=>
    rw[YLz (λz=>hT (V.int.inj z))];have hT:sgT M.t a b c p i (i + m)=(((i + m:Nat):Int) - i) * b + a:=by
     rw[esg]at hT ⊢;split
     ·rename_i hlt
      rw[if_pos hlt]at hT;exact absurd rfl hT
     ·rfl
    refine ZG ?_;refine⟨_,Z,M.x,M.dx,_,Z,hx,Z,_,Z,_,Z,M,H,ds,row,i,i + m,Z,st.here,by lia,lQ,ht,by lia,hp,λH1 S1 p1=>?_⟩;obtain⟨uH,hv1,l_⟩:=S1.len;rw[YLy,ZW,YLp,YLp,ZV lQ]at l_;refine⟨_,Z,M.x,C.Mending,M.dx,_,_,Z,S1.x,T.aj,T.aB,Z,.inl ⟨Z,_,SqL.of hv1⟩,_,Z,YH (by show 2<=1000;decide),λtt du=>?_⟩;have vB:=YN.upd (o:=.tup [.str "put",.str ⟨#[sgn p]⟩]) du _ _ hv1;refine⟨M.ld,_,_,Z,Z,vB,YAQ (by lia),?_⟩;have S2:=(st.re S1).push (zs:=[.str "put",.str ⟨#[sgn p]⟩]) du hv1 λH'=>.cons (.str _) (.cons (.str _) .nil)
    have hs:=YGA (t:=M.t) (a:=a) (b:=b) (c:=c) (p:=p) (i:=i) (j:=i + m) (by lia) lQ hT;refine q _ _ hs ?_ (YBH S1.sm du) ((p1.upd rfl).upd rfl);rw[YL2,<-ZW,<-YMX];exact S2
   case pos=>
    rw[YLw (by rw[hT])];have hT:=hT.symm;refine ZA ?_;dsimp only[YDU];refine⟨_,Z,M.x,M.dx,_,Z,hx,Z,_,Z,_,Z,M,H,ds,row,i,k,Z,st.here,by lia,by lia,ht,by lia,hp,λH1 S1 p1=>?_⟩;obtain⟨uH,hv1,l_⟩:=S1.len;rw[YLy,ZW,YLp,YLp,ZV (by lia)]at l_;refine⟨_,Z,M.x,C.Mending,M.dx,_,_,Z,S1.x,T.aj,T.aB,Z,.inl ⟨Z,_,SqL.of hv1⟩,_,Z,_,_,Z,Z,_,Z,?_⟩;rw[YLz (by lia)];refine ZA ⟨_,Z,YH (by show 2<=1000;decide),λtt du=>?_⟩;have hs:=YJF (t:=M.t) (a:=a) (b:=b) (c:=c) (p:=p) (i:=i) (j:=i + m) hk1 hk2 lQ hk3 (.keep (sgn p)) rfl rfl trivial hT;have vB:=YN.upd (o:=.tup [.str "keep",.str ⟨#[sgn p]⟩]) du _ _ hv1;refine⟨M.ld,_,_,Z,Z,vB,YAQ (by lia),?_⟩;have S2:=(st.re S1).push (zs:=[.str "keep",.str ⟨#[sgn p]⟩]) du hv1 λH'=>.cons (.str _) (.cons (.str _) .nil)
    have p2:YR (upd (upd H1 tt (.tup [.str "keep",.str ⟨#[sgn p]⟩])) M.ld (.lst (uH ++ [.ref tt]))):=(p1.upd rfl).upd rfl;have kp:=YBH (o:=.tup [.str "keep",.str ⟨#[sgn p]⟩]) (vs:=uH ++ [.ref tt]) S1.sm du;revert S2 p2 kp;generalize upd (upd H1 tt (.tup [.str "keep",.str ⟨#[sgn p]⟩])) M.ld (.lst (uH ++ [.ref tt]))=H2;intro S2 p2 kp;refine⟨_,Z,M.x,M.dx,_,Z,S2.x,Z,_,Z,_,_,Z,Z,_,Z,M,H2,_,row,k + 1,i + m,Z,S2.here,by lia,lQ,ht,?_,p2,λH3 S3 p3=>?_⟩
    ·rw[YLy,YLy,ZW,YLp,YLp,ZV (by lia)];show _ + 1<=_
     lia
    ·refine q _ _ hs ?_ (λa o n1 n2 e=>S3.sm a o n1 n2 (kp a o n1 n2 e)) p3;have:=S2.re S3;rw[YL2,YMQ,<-ZW,<-ZW];rw[YMX,YMX]at this;exact this
  ·have p_:YBA (YAN p) M.t i (i + m)=false:=by
    rw[hin];exact YLz λz=>by
     obtain⟨k,h1,h2,h3⟩:=hsub.mp z;exact hno k h1 h2 h3
   refine⟨_,Z,_,_,Z,Z,_,Z,?_⟩;rw[YLw (by decide)];refine ZG ⟨_,Z,?_⟩;dsimp only[ZK];refine⟨_,Z,_,_,Z,Z,_,Z,?_⟩;rw[YLw (by decide)];refine ZG ⟨_,Z,M.x,C.Mending,M.dx,_,_,Z,hx,T.aj,T.bw,Z,M.ct,_,2,_,Z,Z,SqT.of hct,Z,?_⟩;dsimp only[ZK];refine⟨_,Z,_,Z,Z,_,Z,?_⟩
   by_cases hm:m=0
   ·rw[YLw (by rw[hm,YNi])];have hT:sgT M.t a b c p i (i + m)=(((i + m:Nat):Int) - i) * b + a:=by
     unfold sgT;rw[if_pos (by lia),hm,YNi,Int.sub_self,Int.zero_mul,YMk]
    refine ZG ?_;refine⟨_,Z,M.x,M.dx,_,Z,hx,Z,_,Z,_,Z,M,H,ds,row,i,i + m,Z,st.here,by lia,lQ,ht,by lia,hp,λH1 S1 p1=>?_⟩;obtain⟨uH,hv1,l_⟩:=S1.len;rw[YLy,ZW,YLp,YLp,ZV lQ]at l_;refine⟨_,Z,M.x,C.Mending,M.dx,_,_,Z,S1.x,T.aj,T.aB,Z,.inl ⟨Z,_,SqL.of hv1⟩,_,Z,YH (by show 2<=1000;decide),λtt du=>?_⟩;have vB:=YN.upd (o:=.tup [.str "put",.str ⟨#[sgn p]⟩]) du _ _ hv1;refine⟨M.ld,_,_,Z,Z,vB,YAQ (by lia),?_⟩;have S2:=(st.re S1).push (zs:=[.str "put",.str ⟨#[sgn p]⟩]) du hv1 λH'=>.cons (.str _) (.cons (.str _) .nil)
    have hs:=YGA (t:=M.t) (a:=a) (b:=b) (c:=c) (p:=p) (i:=i) (j:=i + m) (by lia) lQ hT;refine q _ _ hs ?_ (YBH S1.sm du) ((p1.upd rfl).upd rfl);rw[YL2,<-ZW,<-YMX];exact S2
   rw[YLz (λz=>by have:=V.int.inj z;lia)];have esg:=esg hm c (by rw[p_];rfl);obtain⟨x0,hx0⟩:∃x0,M.t.cps.toList[i]?=some x0:=⟨_,YLs (show i < M.t.cps.toList.length by
    have:M.t.cps.toList.length=M.t.length:=YMM
    lia)⟩
   refine ZA ⟨_,Z,_,Z,_,_,Z,Z,_,_,Z,Z,_,Z,M.x,C.Mending,M.dx,_,_,Z,hx,T.aj,T.bw,Z,M.ct,_,1,_,Z,Z,SqT.of hct,Z,_,_,Z,Z,mulB,_,Z,_,_,Z,Z,?_⟩;refine⟨_,Z,M.x,C.Mending,M.dx,_,_,Z,hx,T.aj,T.au,Z,_,Z,M.d,_,Z,gu,u,_,0,_,Z,Z,SqT.of hu',Z,?_⟩;refine⟨Z,_,Z,?_⟩
   by_cases hT:(((i + m:Nat):Int) - i - 1) * b + c=sgT M.t a b c p i (i + m)
   case neg=>
    rw[YLz (λz=>hT (V.int.inj z))];have hT:sgT M.t a b c p i (i + m)=(((i + m:Nat):Int) - i) * b + a:=by
     rw[esg]at hT ⊢;split
     ·rename_i hlt
      rw[if_pos hlt]at hT;exact absurd rfl hT
     ·rfl
    refine ZG ?_;refine⟨_,Z,M.x,M.dx,_,Z,hx,Z,_,Z,_,Z,M,H,ds,row,i,i + m,Z,st.here,by lia,lQ,ht,by lia,hp,λH1 S1 p1=>?_⟩;obtain⟨uH,hv1,l_⟩:=S1.len;rw[YLy,ZW,YLp,YLp,ZV lQ]at l_;refine⟨_,Z,M.x,C.Mending,M.dx,_,_,Z,S1.x,T.aj,T.aB,Z,.inl ⟨Z,_,SqL.of hv1⟩,_,Z,YH (by show 2<=1000;decide),λtt du=>?_⟩;have vB:=YN.upd (o:=.tup [.str "put",.str ⟨#[sgn p]⟩]) du _ _ hv1;refine⟨M.ld,_,_,Z,Z,vB,YAQ (by lia),?_⟩;have S2:=(st.re S1).push (zs:=[.str "put",.str ⟨#[sgn p]⟩]) du hv1 λH'=>.cons (.str _) (.cons (.str _) .nil)
    have hs:=YGA (t:=M.t) (a:=a) (b:=b) (c:=c) (p:=p) (i:=i) (j:=i + m) (by lia) lQ hT;refine q _ _ hs ?_ (YBH S1.sm du) ((p1.upd rfl).upd rfl);rw[YL2,<-ZW,<-YMX];exact S2
   case pos=>
    rw[YLw (by rw[hT])];have hT:=hT.symm;refine ZA ?_;dsimp only[YDU];refine⟨_,Z,M.x,M.dx,_,Z,hx,Z,_,Z,_,Z,M,H,ds,row,i,i,Z,st.here,by lia,by lia,ht,by lia,hp,λH1 S1 p1=>?_⟩;obtain⟨uH,hv1,l_⟩:=S1.len;rw[YLy,ZW,YLp,YLp,ZV (by lia)]at l_;refine⟨_,Z,M.x,C.Mending,M.dx,_,_,Z,S1.x,T.aj,T.aB,Z,.inl ⟨Z,_,SqL.of hv1⟩,_,Z,_,_,Z,Z,_,Z,?_⟩;rw[YLw (by decide)];refine ZG ⟨_,Z,M.x,C.Mending,M.dx,_,_,Z,S1.x,T.aj,T.bI,Z,_,Z,M.t,_,x0,Z,Z,YH (by lia),Yn hx0,_,Z,YH (by show 3<=1000;decide),λtt du=>?_⟩;have hs:=YJF (t:=M.t) (a:=a) (b:=b) (c:=c) (p:=p) (i:=i) (j:=i + m) (YLr _) (by lia) lQ hx0 (.swap x0 (sgn p)) rfl rfl (λz=>hno i (YLr _) (by lia) (by rw[hx0,z])) hT;have vB:=YN.upd (o:=.tup [.str "swap",.str ⟨#[x0]⟩,.str ⟨#[sgn p]⟩]) du _ _ hv1;refine⟨M.ld,_,_,Z,Z,vB,YAQ (by lia),?_⟩;have S2:=(st.re S1).push (zs:=[.str "swap",.str ⟨#[x0]⟩,.str ⟨#[sgn p]⟩]) du hv1 λH'=>.cons (.str _) (.cons (.str _) (.cons (.str _) .nil))
    have p2:YR (upd (upd H1 tt (.tup [.str "swap",.str ⟨#[x0]⟩,.str ⟨#[sgn p]⟩])) M.ld (.lst (uH ++ [.ref tt]))):=(p1.upd rfl).upd rfl;have kp:=YBH (o:=.tup [.str "swap",.str ⟨#[x0]⟩,.str ⟨#[sgn p]⟩]) (vs:=uH ++ [.ref tt]) S1.sm du;revert S2 p2 kp;generalize upd (upd H1 tt (.tup [.str "swap",.str ⟨#[x0]⟩,.str ⟨#[sgn p]⟩])) M.ld (.lst (uH ++ [.ref tt]))=H2;intro S2 p2 kp;refine⟨_,Z,M.x,M.dx,_,Z,S2.x,Z,_,Z,_,_,Z,Z,_,Z,M,H2,_,row,i + 1,i + m,Z,S2.here,by lia,lQ,ht,?_,p2,λH3 S3 p3=>?_⟩
    ·rw[YLy,YLy,ZW,YLp,YLp,ZV (by lia)];show _ + 1<=_
     lia
    ·refine q _ _ hs ?_ (λa o n1 n2 e=>S3.sm a o n1 n2 (kp a o n1 n2 e)) p3;have:=S2.re S3;rw[YL2,YMQ,<-ZW,<-ZW];rw[YMX,YMX]at this;exact this
end
inductive Stp (g:Yl) (t:Str) (a b c:Int) (vp:Nd->Int×Int):Nd->List Nd->List Dd->List Nat->Prop
 |sign {p:Str}{i j:Nat}{sd:List Dd}:isQ p=true->vp (.part p i j)=(sgT t a b c p i j,0)->SgD t a b c p i j sd->Stp g t a b c vp (.part p i j) [] sd []
 |name {r i j:Nat}{ρ:Yp}:g[r]?=some ρ->isQ ρ.1=false->vp (.part ρ.1 i j)=vp (.beg r ρ.2.1.length i j)->1<=(vp (.beg r ρ.2.1.length i j)).2->Stp g t a b c vp (.part ρ.1 i j) [.beg r ρ.2.1.length i j] [] []
 |beg0 {r i j:Nat}{ρ:Yp}:g[r]?=some ρ->i<=j->j<=t.length->vp (.beg r 0 i j)=(((j - i:Nat):Int) * b,1)->Stp g t a b c vp (.beg r 0 i j) [] ((Jp t i j).map Dd.cut) [r]
 |begS {r d i j k:Nat}{ρ:Yp}{p:Str}:g[r]?=some ρ->ρ.2.1[d]?=some p->i<=k->k<=j->j<=t.length->vp (.beg r (d + 1) i j)=((vp (.beg r d i k)).1 + (vp (.part p k j)).1,(vp (.beg r d i k)).2 + (vp (.part p k j)).2)->1<=(vp (.beg r d i k)).2->0<=(vp (.part p k j)).2->(isQ p=true->(vp (.part p k j)).2=0)->
   Stp g t a b c vp (.beg r (d + 1) i j) [.beg r d i k,.part p k j] [] []
def isPt:Nd->Prop
 |.part _ _ _=>True
 |.beg _ _ _ _=>False
inductive MkS (g:Yl) (t:Str) (a b c:Int) (vp:Nd->Int×Int):List Nd->List Dd->List Nat->Prop
 |nil:MkS g t a b c vp [] [] []
 |cons {n:Nd}{ch ns:List Nd}{sd ds:List Dd}{rw_ row:List Nat}:(∀x∈ns,isPt x)->Stp g t a b c vp n ch sd rw_->MkS g t a b c vp (ch ++ ns) ds row->MkS g t a b c vp (n :: ns) (sd ++ ds) (rw_ ++ row)
def YEb (f:Nd->Int) (ns:List Nd):Int:=(ns.map f).sum
def YBJ (f:Nd->Nat) (ns:List Nd):Nat:=(ns.map f).sum
theorem YCN (f:Nd->Nat) (x y:List Nd):YBJ f (x ++ y)=YBJ f x + YBJ f y:=by unfold YBJ;rw[YL2,List.sum_append]
theorem YJ4 (f:Nd->Nat) (x:Nd) (y:List Nd):YBJ f (x :: y)=f x + YBJ f y:=by unfold YBJ;rw[YMQ,List.sum_cons]
theorem YLa (f:Nd->Int) (x y:List Nd):YEb f (x ++ y)=YEb f x + YEb f y:=by unfold YEb;rw[YL2,List.sum_append]
theorem YFU (f:Nd->Int) (x:Nd) (y:List Nd):YEb f (x :: y)=f x + YEb f y:=by unfold YEb;rw[YMQ,List.sum_cons]
def muS (vp:Nd->Int×Int):Nd->Nat
 |.part p i j=>if isQ p=true then 1 else 14 * (vp (.part p i j)).2.toNat
 |.beg r d i j=>14 * ((vp (.beg r d i j)).2.toNat - 1) + 1 + 2 * d
def deS (vp:Nd->Int×Int):Nd->Nat
 |.part p i j=>j - i + 6 * (vp (.part p i j)).2.toNat + (if isQ p=true then 1 else 0)
 |.beg r d i j=>j - i + 6 * ((vp (.beg r d i j)).2.toNat - 1) + d
def roS (vp:Nd->Int×Int) (n:Nd):Nat:=(vp n).2.toNat
def spN (t:Str):Nd->List Nat
 |.part _ i j=>Jp t i j
 |.beg _ _ i j=>Jp t i j
def nmN:Nd->Str
 |.part p _ _=>p
 |.beg _ _ _ _=>default
section
variable {g:Yl}{t:Str}{a b c:Int}{vp:Nd->Int×Int}{n:Nd}{ch ns:List Nd}{sd ds:List Dd}{rw_ row:List Nat}
theorem Stp.mu (h:Stp g t a b c vp n ch sd rw_) (h6:∀ρ∈g,ρ.2.1.length<=6):YBJ (muS vp) ch + 1<=muS vp n:=by
 cases h with
 |sign hq _ _=>
  show 0 + 1<=if isQ _=true then 1 else _
  rw[if_pos hq];exact YLr _
 |@name r i j ρ er hq e h1=>
  have:=h6 ρ (YLu er);show(14 * ((vp (.beg r ρ.2.1.length i j)).2.toNat - 1) + 1 + 2 * ρ.2.1.length) + 0 + 1<=if isQ _=true then 1 else _
  rw[if_neg (by rw[hq];decide),e]
  lia
 |beg0 _ _ _ _=>
  show 0 + 1<=_ + 1 + 2 * 0
  lia
 |@begS r d i j k ρ p er ep _ _ _ e h1 h2 h3=>
  show(14 * ((vp (.beg r d i k)).2.toNat - 1) + 1 + 2 * d) + ((if isQ p=true then 1 else 14 * (vp (.part p k j)).2.toNat) + 0) + 1<=14 * ((vp (.beg r (d + 1) i j)).2.toNat - 1) + 1 + 2 * (d + 1);rw[e];dsimp only;split <;> lia
theorem Stp.de (h:Stp g t a b c vp n ch sd rw_) (h6:∀ρ∈g,ρ.2.1.length<=6):YBJ (deS vp) ch + sd.length<=deS vp n:=by
 cases h with
 |@sign p i j sd hq e s=>
  show 0 + sd.length<=j - i + 6 * (vp (.part p i j)).2.toNat + (if isQ p=true then 1 else 0);rw[if_pos hq];have:=s.ln
  lia
 |@name r i j ρ er hq e h1=>
  have:=h6 ρ (YLu er);show(j - i + 6 * ((vp (.beg r ρ.2.1.length i j)).2.toNat - 1) + ρ.2.1.length) + 0 + 0<=j - i + 6 * (vp (.part ρ.1 i j)).2.toNat + (if isQ ρ.1=true then 1 else 0);rw[if_neg (by rw[hq];decide),e]
  lia
 |@beg0 r i j ρ _ _ h2 _=>
  show 0 + ((Jp t i j).map Dd.cut).length<=j - i + 6 * ((vp (.beg r 0 i j)).2.toNat - 1) + 0;rw[YLp,ZV h2]
  lia
 |@begS r d i j k ρ p er ep g1 g2 _ e h1 h2 h3=>
  show(k - i + 6 * ((vp (.beg r d i k)).2.toNat - 1) + d) + ((j - k + 6 * (vp (.part p k j)).2.toNat + (if isQ p=true then 1 else 0)) + 0) + 0<=j - i + 6 * ((vp (.beg r (d + 1) i j)).2.toNat - 1) + (d + 1);rw[e];dsimp only;split <;> lia
theorem Stp.ro (h:Stp g t a b c vp n ch sd rw_):YBJ (roS vp) ch + rw_.length<=roS vp n:=by
 cases h with
 |sign hq _ _=>exact YMI _
 |@name r i j ρ er hq e h1=>
  show((vp (.beg r ρ.2.1.length i j)).2.toNat + 0) + 0<=(vp (.part ρ.1 i j)).2.toNat;rw[e];exact YLr _
 |@beg0 r i j ρ _ _ _ e=>
  show 0 + 1<=(vp (.beg r 0 i j)).2.toNat;rw[e];exact YLr _
 |@begS r d i j k ρ p er ep _ _ _ e h1 h2 h3=>
  show((vp (.beg r d i k)).2.toNat + ((vp (.part p k j)).2.toNat + 0)) + 0<=(vp (.beg r (d + 1) i j)).2.toNat;rw[e];dsimp only
  lia
def RdN (g:Yl):List Nd->List Nat->List Nat->Prop
 |.beg r d _ _ :: ns,row,tx=>∃ρ gk,g[r]?=some ρ/\row=r :: gk/\Jz g (ρ.2.1.take d ++ ns.map nmN) gk tx
 |ns,row,tx=>Jz g (ns.map nmN) row tx
theorem RdN.parts:∀{ns:List Nd},(∀x∈ns,isPt x)->∀{row tx:List Nat},RdN g ns row tx->Jz g (ns.map nmN) row tx
 |[],_,_,_,h=>h
 |.part _ _ _ :: _,_,_,_,h=>h
 |.beg _ _ _ _ :: _,hp,_,_,_=>(hp _ (YMG ..)).elim
theorem MkS.sem (h:MkS g t a b c vp ns ds row):coL a b c ds=YEb (λn=>(vp n).1) ns/\(row.length:Int)=YEb (λn=>(vp n).2) ns/\(∀d∈ds,ddOk d)/\tkL ds=ns.flatMap (spN t)/\RdN g ns row (mkL ds):=by
 induction h with
 |nil=>exact⟨Z,Z,(λd hd=>nomatch hd),Z,Jz.nil⟩
 |@cons n ch ns sd ds rw_ row hp st _ ih=>
  obtain⟨i1,i2,i3,i4,i5⟩:=ih;rw[YLa]at i1 i2;rw[List.flatMap_append]at i4;rw[YF9,YF7,YF8,YLy,YFU,YFU,List.flatMap_cons,i1,i4];cases st with
  |@sign p i j sd hq e s=>
   refine⟨?_,?_,λd hd=>?_,?_,?_⟩
   ·rw[s.co,e];show _ + (0 + _)=_
    lia
   ·rw[e];show((0 + row.length:Nat):Int)=0 + _;rw[Nat.zero_add,i2];show 0 + _=0 + _;rfl
   ·rcases YMN.mp hd with hd |hd
    ·exact s.ok d hd
    ·exact i3 d hd
   ·rw[s.tk];rfl
   ·rw[s.mkd];exact .sign hq (RdN.parts hp i5)
  |@name r i j ρ er hq e h1=>
   refine⟨?_,?_,λd hd=>i3 d hd,?_,?_⟩
   ·rw[e];show 0 + ((_ + 0) + _)=_;dsimp only
    lia
   ·rw[e];show((0 + row.length:Nat):Int)=_;rw[Nat.zero_add,i2];show(_ + 0) + _=_;dsimp only
    lia
   ·show[] ++ ((Jp t i j ++ []) ++ _)=Jp t i j ++ _;rw[List.nil_append,YMZ]
   ·obtain⟨ρ',gk,e1,e2,e3⟩:=i5;rw[er]at e1;cases e1;rw[e2];rw[YMn]at e3;exact .name hq er e3
  |@beg0 r i j ρ er g1 g2 e=>
   refine⟨?_,?_,λd hd=>?_,?_,?_⟩
   ·rw[YCL,ZV g2,e];show _ + (0 + _)=_
    lia
   ·rw[e];show((1 + row.length:Nat):Int)=1 + _;rw[Int.natCast_add,i2];show 1 + (0 + _)=_
    lia
   ·rcases YMN.mp hd with hd |hd
    ·obtain⟨x,_,rfl⟩:=YMD.mp hd
     trivial
    ·exact i3 d hd
   ·rw[YCJ];rfl
   ·rw[YCK];exact⟨ρ,row,er,Z,RdN.parts hp i5⟩
  |@begS r d i j k ρ p er ep g1 g2 g3 e h1 h2 h3=>
   refine⟨?_,?_,λd hd=>i3 d hd,?_,?_⟩
   ·rw[e];show 0 + ((_ + (_ + 0)) + _)=_;dsimp only
    lia
   ·rw[e];show((0 + row.length:Nat):Int)=_;rw[Nat.zero_add,i2];show(_ + (_ + 0)) + _=_;dsimp only
    lia
   ·show[] ++ ((Jp t i k ++ (Jp t k j ++ [])) ++ _)=Jp t i j ++ _;rw[List.nil_append,YMZ,YEA g1 g2 g3]
   ·obtain⟨ρ',gk,e1,e2,e3⟩:=i5;rw[er]at e1;cases e1;refine⟨ρ,gk,er,e2,?_⟩;rw[YMb,ep];show Jz g (ρ.2.1.take d ++ [p] ++ ns.map nmN) gk (mkL ds);rw[YMX];exact e3
end
def vpN (O:OvF) (F:FiF) (n:Nd):Int×Int:=pr (YBt O F n)
def YBw (row:List Nat):List Int:=row.map λk:Nat=>(k:Int)
section
variable {g:Yl}{t:Str}{a b c:Int}{T:Tol}{ps:List Str}{O:OvF}{F:FiF}{fs:List (Nd×Int)}
theorem YCq {r d i m:Nat}:vpN O F (.beg r d i (i + m))=pr (F r d i m):=by
 show pr (F r d i (i + m - i))=_;rw[YM4]
theorem YLb (x:Int):0<=(pr x).2:=YMe x (YNb Zk)
theorem ZU.vpS (W:ZU g t a b c T ps O F fs) {p:Str} (hq:isQ p=true) (i j:Nat):vpN O F (.part p i j)=(sgT t a b c p i j,0):=by
 show pr (O p i j)=_;rw[W.iv.sg p i j hq,W.et,W.ep,W.ec,W.es,YDQ,YF6]
theorem ZU.one (W:ZU g t a b c T ps O F fs) (hb:0<=b) (h6:∀ρ∈g,ρ.2.1.length<=6) (hB:(t.length + 1) * T.s.length<=60) {r:Nat}{ρ:Yp} (hr:g[r]?=some ρ) {i:Nat}:∀{d m:Nat},d<=rch T.s ρ.2.1->i + m<=t.length->1<=(pr (F r d i m)).2:=by
 intro d
 induction d with
 |zero=>
  intro m _ hm;rw[((W.ok hb).f i m hm r ρ hr).1,W.ec,<-Int.mul_assoc,YJE];exact YMi _
 |succ d ih=>
  intro m hd hm;obtain⟨p,ep,hok⟩:=JA (s:=T.s) (ps:=ρ.2.1) (j:=d) (by lia);obtain⟨_,k,hk,e⟩:=((W.ok hb).f i m hm r ρ hr).2 d p (by lia) ep;have es:=W.sumB hb h6 hB hr (show d<=rch T.s ρ.2.1 by lia) hok hk hm;rw[e,<-es];have:=ih (m:=k) (by lia) (by lia);have:=YLb (O p (i + k) (i + m));dsimp only
  lia
theorem ZU.stp0 (W:ZU g t a b c T ps O F fs) (hb:0<=b) {r:Nat}{ρ:Yp} (hr:g[r]?=some ρ) {i m:Nat} (hm:i + m<=t.length):Stp g t a b c (vpN O F) (.beg r 0 i (i + m)) [] ((Jp t i (i + m)).map Dd.cut) [r]:=by
 refine .beg0 hr (by lia) hm ?_;rw[YCq,((W.ok hb).f i m hm r ρ hr).1,W.ec,<-Int.mul_assoc,YJE,YM4]
theorem ZU.stpB (W:ZU g t a b c T ps O F fs) (hb:0<=b) (h6:∀ρ∈g,ρ.2.1.length<=6) (hB:(t.length + 1) * T.s.length<=60) {r:Nat}{ρ:Yp} (hr:g[r]?=some ρ) {d i m k:Nat}{p:Str} (hd:d < rch T.s ρ.2.1) (ep:ρ.2.1[d]?=some p) (hk:k<=m) (hm:i + m<=t.length) (e:F r (d + 1) i m=F r d i k + O p (i + k) (i + m)):Stp g t a b c (vpN O F) (.beg r (d + 1) i (i + m)) [.beg r d i (i + k),.part p (i + k) (i + m)] [] []:=by
 obtain⟨p',e1,hok⟩:=JA hd;rw[ep]at e1;cases e1;have es:=W.sumB hb h6 hB hr (YNa hd) hok hk hm;refine .begS hr ep (by lia) (by lia) hm ?_ ?_ (YLb _) (λhq=>by rw[W.vpS hq])
 ·rw[YCq,YCq,e];exact es.symm
 ·rw[YCq];exact W.one hb h6 hB hr (by lia) (by lia)
theorem ZU.stpN (W:ZU g t a b c T ps O F fs) (hb:0<=b) (h6:∀ρ∈g,ρ.2.1.length<=6) (hB:(t.length + 1) * T.s.length<=60) {r:Nat}{ρ:Yp} (hr:g[r]?=some ρ) {i m:Nat} (hq:isQ ρ.1=false) (hf:rch T.s ρ.2.1=ρ.2.1.length) (hm:i + m<=t.length) (e:O ρ.1 i (i + m)=F r ρ.2.1.length i m):Stp g t a b c (vpN O F) (.part ρ.1 i (i + m)) [.beg r ρ.2.1.length i (i + m)] [] []:=by
 refine .name hr hq ?_ ?_
 ·rw[YCq,<-e];rfl
 ·rw[YCq];exact W.one hb h6 hB hr (by lia) hm
end
theorem Stp.len {g:Yl}{t:Str}{a b c:Int}{vp:Nd->Int×Int}{n:Nd}{ch:List Nd}{sd:List Dd}{rw_:List Nat} (h:Stp g t a b c vp n ch sd rw_):ch.length<=2:=by
 cases h with
 |sign _ _ _=>exact YMI _
 |name _ _ _ _=>exact(show 1<=2 by decide)
 |beg0 _ _ _ _=>exact YMI _
 |begS _ _ _ _ _ _ _ _ _=>exact YLr _
theorem YHW {H H':Hp}{xs:List V}{ds:List D} (h:Yh H xs ds) (k:∀v d,d∈ds->Den H v d->Den H' v d):Yh H' xs ds:=
 Yh.of_all h.len λi v d e1 e2=>by
  obtain⟨d',e3,e4⟩:=h.get e1;rw[e2]at e3;cases e3;exact k v d (YLu e2) e4
theorem YJ5 {H H':Hp}{xs:List V}{ss:List Str} (h:Yh H xs (ss.map D.str)):Yh H' xs (ss.map D.str):=YHW h λv d hd e=>by
 obtain⟨s,_,rfl⟩:=YMD.mp hd;rw[e.to_str];exact .str _
theorem ddD_tup (d:Dd):∃ss:List Str,ddD d=.tup (ss.map D.str):=by
 cases d
 ·exact⟨[_,_],Z⟩
 ·exact⟨[_,_],Z⟩
 ·exact⟨[_,_,_],Z⟩
 ·exact⟨[_,_],Z⟩
theorem YHX {H H':Hp} (k:∀u ys,H u=some (.tup ys)->H' u=some (.tup ys)) {xs:List V}{l:List Dd} (h:Yh H xs (l.map ddD)):Yh H' xs (l.map ddD):=YHW h λv d hd h1=>by
 obtain⟨x,_,rfl⟩:=YMD.mp hd;obtain⟨ss,e⟩:=ddD_tup x;rw[e]at h1 ⊢;obtain⟨u,ys,rfl,hu,hs⟩:=h1.to_tup;exact .tup (k _ _ hu) (YJ5 hs)
theorem MSt.same {C:Addr}{M:Mnd}{H0 H H':Hp}{ds:List D}{row:List Int} (S:MSt C M H0 H ds row) (s:YN H H'):MSt C M H0 H' ds row where
 hx0:=S.hx0
 ne:=S.ne
 nx:=S.nx
 sm:=λa o n1 n2 e=>s _ _ (S.sm a o n1 n2 e)
 hd:=by
  obtain⟨vs,h1,h2⟩:=S.hd;exact⟨vs,s _ _ h1,h2.same ((s.del _).del _)⟩
 hw:=s _ _ S.hw
theorem MSt.putW {C:Addr}{M:Mnd}{H0 H:Hp}{ds:List Dd}{row:List Int} (S:MSt C M H0 H (ds.map ddD) row) {wl:Addr}{vs vs':List V} (h0:H0 wl=none) (n1:wl≠M.ld) (n2:wl≠M.lw) (hw:H wl=some (.lst vs)):MSt C M H0 (upd H wl (.lst vs')) (ds.map ddD) row where
 hx0:=S.hx0
 ne:=S.ne
 nx:=S.nx
 sm:=λa o m1 m2 e=>by
  rw[YJ (λz=>by rw[z,h0]at e;cases e)];exact S.sm a o m1 m2 e
 hd:=by
  obtain⟨ys,h1,h2⟩:=S.hd;refine⟨ys,by rw[YJ n1.symm];exact h1,YHX (λu zs e=>?_) h2⟩;have e1:=ZD _ _ _ _ (ZD _ _ _ _ e);have m1:u≠M.ld:=λz=>by rw[z,h1]at e1;cases e1
  have m2:u≠M.lw:=λz=>by rw[z,S.hw]at e1;cases e1
  rw[Z2 m2,Z2 m1,YJ (λz=>by rw[z,hw]at e1;cases e1)];exact e1
 hw:=by
  rw[YJ n2.symm];exact S.hw
theorem MSt.pushR {C:Addr}{M:Mnd}{H0 H:Hp}{ds:List Dd}{row:List Int} (S:MSt C M H0 H (ds.map ddD) row) (k:Int):MSt C M H0 (upd H M.lw (.lst (row.map V.int ++ [.int k]))) (ds.map ddD) (row ++ [k]) where
 hx0:=S.hx0
 ne:=S.ne
 nx:=S.nx
 sm:=λa o m1 m2 e=>by
  rw[YJ m2];exact S.sm a o m1 m2 e
 hd:=by
  obtain⟨ys,h1,h2⟩:=S.hd;refine⟨ys,by rw[YJ S.ne];exact h1,YHX (λu zs e=>?_) h2⟩;have e1:=ZD _ _ _ _ (ZD _ _ _ _ e);have m1:u≠M.ld:=λz=>by rw[z,h1]at e1;cases e1
  have m2:u≠M.lw:=λz=>by rw[z,S.hw]at e1;cases e1
  rw[Z2 m2,Z2 m1,YJ m2];exact e1
 hw:=by
  rw[YL2];exact YD
def YDC (H:Hp) (x:Addr×Nd):Prop:=H x.1=some (.tup ((Z6 x.2).map kV))
def YAE (ws:List (Addr×Nd)):List V:=(ws.map λx=>V.ref x.1).reverse
structure GoI (C:Addr) (M:Mnd) (H0 H:Hp) (g:Yl) (a b c:Int) (T:Tol) (ps:List Str) (O:OvF) (F:FiF) (wl:Addr) (top:Nd) (ws:List (Addr×Nd)) (ds:List Dd) (row:List Nat) (H':Hp):Prop where
 w:H' wl=some (.lst (YAE ws))
 at_:∀x∈ws,YDC H' x
 al:∀x∈ws,YBu T ps x.2
 pt:∀x∈ws.tail,isPt x.2
 mk_:∀uC gk,MkS g M.t a b c (vpN O F) (ws.map (·.2)) uC gk->MkS g M.t a b c (vpN O F) [top] (ds ++ uC) (row ++ gk)
 de:ds.length + YBJ (deS (vpN O F)) (ws.map (·.2))<=6060
 ro:row.length + YBJ (roS (vpN O F)) (ws.map (·.2))<=1000
 ln:ws.length + YBJ (muS (vpN O F)) (ws.map (·.2))<=14001
 S:MSt C M H0 H' (ds.map ddD) (YBw row)
 kp:KpM M H H'
 pl:YR H'
theorem YBU (x:Addr×Nd) (ws:List (Addr×Nd)):YAE (x :: ws)=YAE ws ++ [.ref x.1]:=by
 unfold YAE;rw[YMQ,List.reverse_cons]
theorem GoI.step {C:Addr}{M:Mnd}{H0 H H' H'':Hp}{g:Yl}{a b c:Int}{T:Tol}{ps:List Str}{O:OvF}{F:FiF}{wl:Addr}{top:Nd}{x:Addr×Nd}{ws ch:List (Addr×Nd)}{ds sd:List Dd}{row rw_:List Nat} (I:GoI C M H0 H g a b c T ps O F wl top (x :: ws) ds row H') (h6:∀ρ∈g,ρ.2.1.length<=6) (st:Stp g M.t a b c (vpN O F) x.2 (ch.map (·.2)) sd rw_)
  (hw:H'' wl=some (.lst (YAE (ch ++ ws)))) (hat:∀y∈ch ++ ws,YDC H'' y) (hal:∀y∈ch,YBu T ps y.2) (El:∀y∈(ch ++ ws).tail,isPt y.2) (S:MSt C M H0 H'' ((ds ++ sd).map ddD) (YBw (row ++ rw_))) (kp:KpM M H H'') (pl:YR H''):
  GoI C M H0 H g a b c T ps O F wl top (ch ++ ws) (ds ++ sd) (row ++ rw_) H''/\YBJ (muS (vpN O F)) ((ch ++ ws).map (·.2)) < YBJ (muS (vpN O F)) ((x :: ws).map (·.2)):=by
 have h1:=st.mu h6;have h2:=st.de h6;have h3:=st.ro;have h4:=st.len;have d:=I.de;have r:=I.ro;have l:=I.ln;rw[YMQ,YJ4]at d r l ⊢;rw[YLp]at h4;rw[YL8]at l;refine⟨⟨hw,hat,λy hy=>?_,El,λuC gk h=>?_,?_,?_,?_,S,kp,pl⟩,?_⟩
 ·rcases YMN.mp hy with hy |hy
  ·exact hal y hy
  ·exact I.al y (YL6 _ hy)
 ·rw[YL2]at h;have:=I.mk_ (sd ++ uC) (rw_ ++ gk) (.cons (λz hz=>?_) st h)
  ·rw[YMX,YMX];exact this
  ·obtain⟨y,hy,rfl⟩:=YMD.mp hz;exact I.pt y hy
 ·rw[YL2,YCN,YLy]
  lia
 ·rw[YL2,YCN,YLy]
  lia
 ·rw[YL2,YCN,YLy]
  lia
 ·rw[YL2,YCN]
  lia
inductive YFV (C:Addr) (vs:List V) (H:Hp) (Q:VK):Prop where
 |mk (M:Mnd) (H0:Hp) (o:Obj) (kvs:List (List Key×V)) (xs:List V) (g:Yl) (a b c:Int) (T:Tol) (ps:List Str) (O:OvF) (F:FiF) (fs:List (Nd×Int)) (nt:Addr) (h:Str) (n:Nat) (a_:vs=[.ref M.x,.ref nt]) (bc:MSt C M H0 H [] []) (bJ:MPre M H0 o kvs xs g a b c T ps O F fs) (cA:H nt=some (.tup ((Z6 (.part h 0 n)).map kV))) (dm:YBu T ps (.part h 0 n)) (gM:isQ h=false) (lq:(vpN O F (.part h 0 n)).2<=1000) (m6:YR H) (ug:∀ds row H',MkS g M.t a b c (vpN O F) [.part h 0 n] ds row->MSt C M H0 H' (ds.map ddD) (YBw row)->KpM M H H'->YR H'->Q .non H'):YFV C vs H Q
def YHY (C:Addr):Sp:=λvs H Q E_=>YFV C vs H Q
section
variable {P:Program}{w:World}{K:W.Frag}{mg:Str->Option Value}{base:Heap}{C:Adr}
theorem Jb:YX ["self","top","waiting","node"] ["self","top"] (YQ Jr):=⟨Z,Z,Z,by decide +kernel,Z,by decide +kernel,by decide +kernel⟩
theorem YBx {f:Addr}{fd:FuncData} (F:Fun K "go_down" "Mending.go_down" Jr f fd) (T:Txt K mg C) (bG:XA P w K mg CX0 2 C.Mending "take_sign" ["self","node"] (YHV C.Mending)) (bM:XA P w K mg CX0 1 C.Mending "rule_for" ["self","node"] (YFS C.Mending)) (aD:XA P w K mg CX0 1 C.Mending "cut_signs" ["self","begin","end"] (YIZ C.Mending)) (bY:XA P w K mg CX0 1 C.Mending "way_for" ["self","node"] (YHU C.Mending)):Yt P w K mg base CX0 3 f fd ["self","top"] (YHY C.Mending):=by
 obtain⟨pI,nO,gF,eY,gG⟩:=bG.ok;obtain⟨qi,pJ,iu,gH,iw⟩:=bM.ok;obtain⟨gD,eX,aK,aH,aL⟩:=aD.ok;obtain⟨qJ,qj,iZ,iy,i_⟩:=bY.ok;refine F.ok Jb (λvs H Q E h=>?_) (λaO A outer s H vs Q E hr h=>?_)
 ·cases h;subst_vars;rfl
 ·obtain⟨M,H0,o,kvs,xs,g,a,b,c,S,ps,O,FF,fs,nt,hd,n,rfl,st,pre,hnt,Qp,hq,hR,hp,q⟩:=h;have hu:=Zq hr;have hU:=hr.units;refine qex ?_;refine⟨_,(YE ⟨(YK (i:=2) Jb.nd rfl (Or.inl rfl) (Zr (YA (pv 1) YB)))⟩
   (Y1 ⟨(Xg PassesOwn.never (YE4 K rfl (pv 2) (λ_=>rfl)) (YG (YK (i:=3) Jb.nd rfl (Or.inl rfl) (YDK K rfl YMC PySem.F.slot_list_pop PySem.F.type_list_pop YH1 (pv 2)))
   (YF (Yx (PW.pt (X7 (YW Jd (YO (YL K rfl) (by rfl) T.ak YLq (YA (pv 3) YB)) YC (Yd _)) (XQ (JH (ZO K rfl YNL YNJ YNI Z5 (YM (YS K rfl) (pv 3) YC (λ_ _=>rfl)) (YA ZH YB)))))) (YF (Yr (Zs (pv 0) T.aj eY (gF base) (hr.mono (by decide)) gG .nil Yi (YA (pv 3) YB)))) (YF (Yx (YW Jd (YO (YL K rfl) (by rfl) T.ak YLq (YA (pv 3) YB)) YC (Yd _)) (YF (Yr (ZO K rfl YMC YML YMK Y0 (pv 2) (YA (Zs (pv 0) T.aj gH (iu base) (hr.mono (by decide)) iw .nil Yi (YA (pv 3) YB)) YB)))) (YF (Yx (YW Jd (YM (YS K rfl) (pv 3) YC (λ_ _=>rfl)) YC (Yd _)) (YG (Yr (ZO K rfl YMC YML YMK Y0 (YY K rfl (pv 0) rfl) (YA (YM (YS K rfl) (pv 3) YC (λ_ _=>rfl)) YB)))
   (YF (Yr (Zs (pv 0) T.aj aH (aK base) (hr.mono (by decide)) aL .nil Yi (YA (YM (YS K rfl) (pv 3) YC (λ_ _=>rfl)) (YA (YM (YS K rfl) (pv 3) YC (λ_ _=>rfl)) YB)))))) (YF (Yr (ZO K rfl YMC PySem.F.slot_list_extend PySem.F.type_list_extend YEs (pv 2) (YA (YFx K rfl rfl rfl T.gP rfl T.dB (YA (Zs (pv 0) T.aj iy (iZ base) (hr.mono (by decide)) i_ .nil Yi (YA (pv 3) YB)) YB)) YB))))))))))))⟩)),?_⟩
  refine⟨_,Z,YH (by show 1<=1000;decide),λwl hwl=>?_⟩;have h6:∀ρ∈g,ρ.2.1.length<=6:=λρ hρ=>(J3 pre.hg hρ).2.1
  have W:=pre.W;have hb:=pre.hb;have hB:=pre.hB;have ht:=pre.ht;obtain⟨vs0,hv0,_⟩:=st.len;have n1:wl≠M.ld:=λz=>by rw[z,hv0]at hwl;cases hwl
  have n2:wl≠M.lw:=λz=>by rw[z,st.hw]at hwl;cases hwl
  have h0:H0 wl=none:=by
   cases e:H0 wl with
   |none=>rfl
   |some o=>rw[st.sm _ _ n1 n2 e]at hwl;cases hwl
  have s1:=YN.upd (o:=.lst [V.ref nt]) hwl;have hnn:n<=M.t.length:=by have:=Qp.2.2;rw[W.en]at this;exact this
  have eR:(vpN O FF (.part hd 0 n)).2.toNat<=1000:=by lia
  have init:GoI C.Mending M H0 H g a b c S ps O FF wl (.part hd 0 n) [(nt,.part hd 0 n)] [] [] (upd H wl (.lst [V.ref nt])):=by
   refine⟨YD,λx hx=>?_,λx hx=>?_,λx hx=>(nomatch hx),λuC gk h=>h,?_,?_,?_,st.same s1,λa o _ _ e=>s1 _ _ e,hp.upd rfl⟩
   ·rw[YL1.mp hx];exact s1 _ _ hnt
   ·rw[YL1.mp hx];exact Qp
   ·show 0 + (n - 0 + 6 * (vpN O FF (.part hd 0 n)).2.toNat + (if isQ hd=true then 1 else 0) + 0)<=6060;rw[if_neg (by rw[hq];decide)]
    lia
   ·show 0 + ((vpN O FF (.part hd 0 n)).2.toNat + 0)<=1000
    lia
   ·show 1 + ((if isQ hd=true then 1 else 14 * (vpN O FF (.part hd 0 n)).2.toNat) + 0)<=14001;rw[if_neg (by rw[hq];decide)]
    lia
  revert init;generalize upd H wl (.lst [V.ref nt])=H1;intro init;refine⟨λμ σ H'=>∃(ws:List (Addr×Nd)) (ds:List Dd) (row:List Nat) (v3:Option V),σ=[some (.ref M.x),some (.ref nt),some (.ref wl),v3]/\μ=YBJ (muS (vpN O FF)) (ws.map (·.2))/\GoI C.Mending M H0 H g a b c S ps O FF wl (.part hd 0 n) ws ds row H',⟨_,_,_,_,_,Z,Z,init⟩,?_⟩;rintro μ σ H2 ⟨ws,ds,row,v3,rfl,hμ,I⟩;refine⟨_,Z,_,.inl ⟨_,SqL.of I.w,Z⟩,?_⟩;cases ws with
  |nil=>
   refine ZA ?_;have:=I.mk_ [] [] .nil;rw[YMZ,YMZ]at this;exact q ds row H2 this I.S I.kp I.pl
  |cons x ws=>
   obtain⟨u,nd⟩:=x;have hw:=I.w;rw[YBU]at hw ⊢;have hne:(!(YAE ws ++ [V.ref u]).isEmpty)=true:=by
    cases YAE ws <;> rfl
   rw[hne];refine ZG ⟨_,λ_ _ h=>h,?_⟩;have elast:(YAE ws ++ [V.ref u])[(YAE ws ++ [V.ref u]).length - 1]?=some (.ref u):=by
    rw[YLy];show(_ ++ [V.ref u])[_ + 1 - 1]?=_;rw[Nat.add_sub_cancel,YMd (YLr _),Nat.sub_self];rfl
   refine⟨_,Z,.inl ⟨Z,_,SqL.of hw⟩,wl,_,_,Z,Z,hw,elast,?_⟩;rw[List.dropLast_concat];have S3:=I.S.putW (vs':=YAE ws) h0 n1 n2 hw;have w3:upd H2 wl (.lst (YAE ws)) wl=some (.lst (YAE ws)):=YD;have k3:KpM M H (upd H2 wl (.lst (YAE ws))):=λa o m1 m2 e=>by
    rw[YJ (λz=>by rw[z,hwl]at e;cases e)];exact I.kp a o m1 m2 e
   have a3:∀x∈(u,nd) :: ws,YDC (upd H2 wl (.lst (YAE ws))) x:=λx hx=>by
    have:=I.at_ x hx;unfold YDC at this ⊢;rw[YJ (λz=>by rw[z,hw]at this;cases this)];exact this
   have p3:YR (upd H2 wl (.lst (YAE ws))):=I.pl.upd rfl;revert S3 w3 k3 a3 p3;generalize upd H2 wl (.lst (YAE ws))=H3;intro S3 w3 k3 a3 p3;have lO:=a3 _ (YMG ..);have hal:=I.al _ (YMG ..);have qM:=I.ln;have hde:=I.de;have hro:=I.ro;have rlen:(YBw row).length=row.length:=by unfold YBw;rw[YLp]
   have wlen:(YAE ws).length=ws.length:=by unfold YAE;rw[YMU,YLp]
   rw[YL8]at qM;have zf:∀y∈ws,isPt y.2:=I.pt;have kN:∀{H4:Hp},KpM M H3 H4->∀y,YDC H3 y->YDC H4 y:=λ{H4} k y h=>by
    obtain⟨ys,z1,_⟩:=S3.hd;exact k _ _ (λz=>by unfold YDC at h;rw[z,z1]at h;cases h) (λz=>by unfold YDC at h;rw[z,S3.hw]at h;cases h) h
   have fin:∀(ch:List (Addr×Nd)) (sd:List Dd) (rw_:List Nat) (H4:Hp) (RX:Option V),Stp g M.t a b c (vpN O FF) nd (ch.map (·.2)) sd rw_->H4 wl=some (.lst (YAE (ch ++ ws)))->(∀y∈ch,YDC H4 y/\YBu S ps y.2)->(∀y∈ws,YDC H4 y)->(∀y∈ch.tail,isPt y.2)->MSt C.Mending M H0 H4 ((ds ++ sd).map ddD) (YBw (row ++ rw_))->KpM M H H4->YR H4->
     ∃m',m' < μ/\∃ws ds row v3,[some (V.ref M.x),some (V.ref nt),some (V.ref wl),RX]=[some (V.ref M.x),some (V.ref nt),some (V.ref wl),v3]/\m'=YBJ (muS (vpN O FF)) (List.map (λx=>x.snd) ws)/\GoI C.Mending M H0 H g a b c S ps O FF wl (Nd.part hd 0 n) ws ds row H4:=λch sd rw_ H4 RX rY w4 hc BL El S4 kp pl=>by
    obtain⟨I4,hlt⟩:=I.step h6 rY w4 (λy hy=>by
     rcases YMN.mp hy with hy |hy
     ·exact(hc y hy).1
     ·exact BL y hy) (λy hy=>(hc y hy).2) (λy hy=>by
     cases ch with
     |nil=>exact zf y (List.mem_of_mem_tail hy)
     |cons z ch=>
      rcases YMN.mp hy with hy |hy
      ·exact El y hy
      ·exact zf y hy) S4 kp pl
    exact⟨_,by rw[hμ];exact hlt,_,_,_,_,Z,Z,I4⟩
   have w0:∀{H4:Hp}{vs:List V},YN H3 H4->(∀a o,a≠wl->H4 a=some o->upd H4 wl (.lst vs) a=some o)/\KpM M H (upd H4 wl (.lst vs))/\∀y∈ws,YDC (upd H4 wl (.lst vs)) y:=λ{H4 vs} s=>by
    refine⟨λa o m e=>by rw[YJ m];exact e,λa o m1 m2 e=>?_,λy hy=>?_⟩
    ·rw[YJ (λz=>by rw[z,hwl]at e;cases e)];exact s _ _ (k3 a o m1 m2 e)
    ·have:=a3 y (YL6 _ hy);unfold YDC at this ⊢;rw[YJ (λz=>by rw[z,w3]at this;cases this)];exact s _ _ this
   dsimp only[ZK];cases nd with
   |part p i j=>
    obtain⟨hps,hij,hjn⟩:=hal;rw[W.en]at hjn;obtain⟨m,rfl⟩:∃m,j=i + m:=⟨j - i,by lia⟩;have lO:H3 u=some (.tup [.str p,.int (i:Int),.int ((i + m:Nat):Int)]):=lO;refine⟨_,Z,u,_,Z,.inr (SqT.of lO),Z,_,Z,?_⟩;refine ZG ⟨_,Z,u,_,0,_,Z,Z,SqT.of lO,Z,Z,p,_,Z,Z,_,Z,?_⟩;cases sV:isQ p with
    |true=>
     have hq':Txt.startswith p "'"=true:=sV;rw[hq'];refine ZG ⟨_,Z,M.x,M.dx,_,Z,S3.x,Z,_,Z,M,H0,ds.map ddD,YBw row,o,kvs,xs,g,a,b,c,S,ps,O,FF,fs,u,p,i,m,Z,S3,pre,lO,sV,hps,hjn,by rw[YLp];lia,p3,λsd H4 hsd S4 k4 p4=>?_⟩;refine fin [] sd [] H4 _ (.sign sV (W.vpS sV _ _) hsd) (k4 _ _ n1 n2 w3) (λy hy=>(nomatch hy)) (λy hy=>kN k4 y (a3 y (YL6 _ hy))) (λy hy=>(nomatch hy)) ?_ (λa o m1 m2 e=>k4 a o m1 m2 (k3 a o m1 m2 e)) p4;rw[YL2,YMZ];exact S4
    |false=>
     have hq':Txt.startswith p "'"=false:=sV;rw[hq'];obtain⟨v,hv⟩:=YAP (W.po.2.1 p hps) sV;refine ZA ⟨_,Z,u,_,Z,.inr (SqT.of lO),Z,_,Z,?_⟩;refine ZG ⟨_,Z,.inl ⟨Z,_,SqL.of w3⟩,_,Z,M.x,M.dx,_,Z,S3.x,Z,_,Z,M,H0,ds.map ddD,YBw row,o,kvs,xs,g,a,b,c,S,ps,O,FF,fs,u,p,i,m,v,Z,S3,pre,lO,hv,hjn,p3,λr ρ tw H4 er erp BP e s4 p4 vA=>?_⟩;subst erp;have w4:=s4 _ _ w3;refine⟨wl,_,_,Z,Z,w4,by rw[sizeLine_eq,wlen];lia,?_⟩;have x4:=w0 (vs:=YAE ws ++ [V.ref tw]) s4;have ntw:tw≠wl:=λz=>by rw[z,w4]at vA;cases vA
     refine fin [(tw,.beg r ρ.2.1.length i (i + m))] [] [] _ _ (W.stpN hb h6 hB er sV BP hjn e) (by rw[List.cons_append,List.nil_append,YBU];exact YD) (λy hy=>?_) x4.2.2 (λy hy=>(nomatch hy)) ?_ x4.2.1 (p4.upd rfl)
     ·rw[YL1.mp hy];exact⟨x4.1 _ _ ntw vA,⟨ρ,by rw[W.eg];exact er,by show ρ.2.1.length<=_;lia⟩,hij,by rw[W.en];exact hjn⟩
     ·rw[YMZ,YMZ];exact(S3.same s4).putW h0 n1 n2 w4
   |beg r d i j=>
    obtain⟨⟨ρ,er,hdr⟩,hij,hjn⟩:=hal;rw[W.en]at hjn;rw[W.eg]at er;obtain⟨m,rfl⟩:∃m,j=i + m:=⟨j - i,by lia⟩;have lO:H3 u=some (.tup [.int (r:Int),.int (d:Int),.int (i:Int),.int ((i + m:Nat):Int)]):=lO;refine⟨_,Z,u,_,Z,.inr (SqT.of lO),Z,_,Z,?_⟩;refine ZA (ZA ⟨_,Z,u,_,Z,.inr (SqT.of lO),Z,_,Z,?_⟩);refine ZA ⟨_,Z,u,_,1,_,Z,Z,SqT.of lO,Z,Z,_,Z,?_⟩;cases d with
    |zero=>
     rw[YLw (show V.int ((0:Nat):Int)=V.int 0 from rfl)];refine ZG ⟨_,Z,M.x,C.Mending,M.dx,_,_,Z,S3.x,T.aj,T.cO,Z,.inl ⟨Z,_,SqL.of S3.hw⟩,_,Z,u,_,0,_,Z,Z,SqT.of lO,Z,M.lw,_,_,Z,Z,S3.hw,by rw[sizeLine_eq,YLp,rlen];lia,?_⟩;have S4:=S3.pushR (r:Int);have p4:YR (upd H3 M.lw (.lst ((YBw row).map V.int ++ [.int (r:Int)]))):=p3.upd rfl;have k4:KpM M H3 (upd H3 M.lw (.lst ((YBw row).map V.int ++ [.int (r:Int)]))):=λa o m1 m2 e=>by rw[YJ m2];exact e
     revert S4 p4 k4;generalize upd H3 M.lw (.lst ((YBw row).map V.int ++ [.int (r:Int)]))=H4;intro S4 p4 k4;have Qw:H4 u=some (.tup [.int (r:Int),.int ((0:Nat):Int),.int (i:Int),.int ((i + m:Nat):Int)]):=kN k4 _ (a3 _ (YMG ..));refine⟨_,Z,M.x,M.dx,_,Z,S4.x,Z,_,Z,u,_,2,_,Z,Z,SqT.of Qw,Z,_,Z,u,_,3,_,Z,Z,SqT.of Qw,Z,M,H4,_,_,i,i + m,Z,S4.here,hij,hjn,ht,by rw[YLp];lia,p4,λH5 S5 p5=>?_⟩;have k5:KpM M H3 H5:=λa o m1 m2 e=>S5.sm a o m1 m2 (k4 a o m1 m2 e)
     refine fin [] _ [r] H5 _ (W.stp0 hb er hjn) (k5 _ _ n1 n2 w3) (λy hy=>(nomatch hy)) (λy hy=>kN k5 y (a3 y (YL6 _ hy))) (λy hy=>(nomatch hy)) ?_ (λa o m1 m2 e=>k5 a o m1 m2 (k3 a o m1 m2 e)) p5;have:=S4.re S5;rw[ZW]at this;rw[YL2];unfold YBw at this ⊢;rw[YL2];exact this
    |succ d=>
     rw[YLz (λz=>by have:=V.int.inj z;lia)];obtain⟨p,ep,hok⟩:=JA (s:=S.s) (ps:=ρ.2.1) (j:=d) (by lia);have Wj:H3 u=some (.tup [.int (r:Int),.int ((d:Int) + 1),.int (i:Int),.int ((i + m:Nat):Int)]):=by
      rw[lO];rfl
     refine ZA ⟨_,Z,.inl ⟨Z,_,SqL.of w3⟩,_,Z,M.x,M.dx,_,Z,S3.x,Z,_,Z,M,H0,ds.map ddD,YBw row,o,kvs,xs,g,a,b,c,S,ps,O,FF,fs,u,r,d,i,m,ρ,p,Z,S3,pre,Wj,er,by lia,ep,hjn,p3,λk t1 t2 tw H4 hk e s4 p4 vA vW pL=>⟨tw,_,Z,SqT.of vA,λl hl=>?_⟩⟩;have s5:=s4.trans (YN.upd (o:=.lst [V.ref t2,V.ref t1]) hl);have sl:=YN.upd (o:=.lst [V.ref t2,V.ref t1]) hl;have p5:YR (upd H4 l (.lst [V.ref t2,V.ref t1])):=p4.upd rfl;have l5:upd H4 l (.lst [V.ref t2,V.ref t1]) l=some (.lst [V.ref t2,V.ref t1]):=YD;have g1:=sl _ _ vW;have g2:=sl _ _ pL;show YFm _ _ _ _;change YFm _ _ (upd H4 l (.lst [V.ref t2,V.ref t1])) _;revert s5 p5 l5 g1 g2;generalize upd H4 l (.lst [V.ref t2,V.ref t1])=H5;intro s5 p5 l5 g1 g2;have w5:=s5 _ _ w3;refine⟨wl,l,_,_,Z,Z,w5,l5,by rw[sizeLine_eq,wlen];show _ + 2<=_;lia,?_⟩;have m1:t1≠wl:=λz=>by rw[z,w5]at g1;cases g1
     have m2:t2≠wl:=λz=>by rw[z,w5]at g2;cases g2
     have x5:=w0 (vs:=YAE ws ++ [V.ref t2,V.ref t1]) s5;refine fin [(t1,.beg r d i (i + k)),(t2,.part p (i + k) (i + m))] [] [] _ _ (W.stpB hb h6 hB er (by lia) ep hk hjn e) (by rw[List.cons_append,List.cons_append,List.nil_append,YBU,YBU,YMX];exact YD) (λy hy=>?_) x5.2.2 (λy hy=>?_) ?_ x5.2.1 (p5.upd rfl)
     ·rcases YMA.mp hy with rfl |hy
      ·exact⟨x5.1 _ _ m1 g1,⟨ρ,by rw[W.eg];exact er,by show d<=_;lia⟩,by lia,by rw[W.en];lia⟩
      ·rw[YL1.mp hy];exact⟨x5.1 _ _ m2 g2,(W.part (YLu er) (YLu ep)).mpr hok,by lia,by rw[W.en];exact hjn⟩
     ·rw[YL1.mp hy]
      trivial
     ·rw[YMZ,YMZ];exact(S3.same s5).putW h0 n1 n2 w5
end
inductive YHZ (C:Addr) (vs:List V) (H:Hp) (Q:VK):Prop where
 |mk (H0:Hp) (x dx lr ct d:Addr) (t:Str) (a_:vs=[.ref x,.ref lr,.str t,.ref ct,.ref d]) (bc:H x=some (.ins C dx [])) (bJ:H0 x=none) (cA:YN H0 H) (dm:YR H) (gM:∀(M:Mnd) H',M.x=x->M.dx=dx->M.lr=lr->M.t=t->M.ct=ct->M.d=d->H0 M.ld=none->H0 M.lw=none->M.ld≠M.lw->YN H0 H'->H' M.x=some (.ins C M.dx M.fld)->H' M.ld=some (.lst [])->H' M.lw=some (.lst [])->YR H'->Q .non H'):YHZ C vs H Q
def YJJ (C:Addr):Sp:=λvs H Q E_=>YHZ C vs H Q
def DdAt (H:Hp) (l:Addr) (ds:List Dd):Prop:=∃vs,H l=some (.lst vs)/\Yh H vs (ds.map ddD)
inductive YFW (B:Addr) (TG:Addr) (vs:List V) (H:Hp) (Q:VK) (E:XK):Prop where
 |mk (x:V) (ct:Addr) (r0:Yp) (rest:List Yp) (t:Str) (a b c:Int) (a_:vs=[x,.str t,.ref ct]) (bc:Den H x (YAk (r0 :: rest))) (bJ:(YAk (r0 :: rest)).short=true) (cA:Yu (r0 :: rest)=true) (dm:Jh t=true) (gM:H ct=some (.tup [.int a,.int b,.int c])) (lq:(0<=a/\a<=10 ^ 60)) (m6:(0<=b/\b<=10 ^ 60)) (ug:(0<=c/\c<=10 ^ 60)) (yj:YR H) (wD:(∀T ps O F fs,ZU (r0 :: rest) t a b c T ps O F fs->(t.length + 1) * T.s.length<=60)) (wF:(∀T ps O F fs H',ZU (r0 :: rest) t a b c T ps O F fs->¬r0.1∈ps->YN H H'->YR H'->E (.ref B) none H')) (Q_:(∀T ps O F fs H',ZU (r0 :: rest) t a b c T ps O F fs->r0.1∈ps->1000 < (vpN O F (.part r0.1 0 t.length)).2->YN H H'->YR H'->E (.ref TG) none H')) (Wa:∀T ps O F fs u ld lw ds row H',ZU (r0 :: rest) t a b c T ps O F fs->r0.1∈ps->MkS (r0 :: rest) t a b c (vpN O F) [.part r0.1 0 t.length] ds row->H' u=some (.tup [.int (vpN O F (.part r0.1 0 t.length)).1,.ref ld,.ref lw])->DdAt H' ld ds->H' lw=some (.lst ((YBw row).map V.int))->ld≠lw->H ld=none->H lw=none->YN H H'->YR H'->Q (.ref u) H'):YFW B TG vs H Q E
def YEF (B TG:Addr):Sp:=λvs H Q E=>YFW B TG vs H Q E
structure MBs (C:Addr) (H0 H:Hp) (x dx:Addr) (fs:List (Str×V)) (ob:List Addr):Prop where
 sm:YN H0 H
 x_:H x=some (.ins C dx fs)
 nx:H0 x=none
 hob:∀q∈ob,H q=some (.lst [])/\H0 q=none/\q≠x
 nd:ob.Nodup
 pl:YR H
theorem MBs.new {C:Addr}{H0 H:Hp}{x dx:Addr}{fs:List (Str×V)}{ob:List Addr} (h:MBs C H0 H x dx fs ob) {b:Addr} (hb:H b=none):MBs C H0 (upd H b (.lst [])) x dx fs (b :: ob):=by
 have s:=YN.upd (o:=.lst []) hb;refine⟨h.sm.trans s,s _ _ h.x_,h.nx,λq hq=>?_,YMu.mpr ⟨λz=>?_,h.nd⟩,h.pl.upd rfl⟩
 ·rcases YMA.mp hq with rfl |hq
  ·exact⟨YD,h.sm.free hb,λz=>by rw[z,h.x_]at hb;cases hb⟩
  ·exact⟨s _ _ (h.hob q hq).1,(h.hob q hq).2⟩
 ·rw[(h.hob b z).1]at hb;cases hb
theorem MBs.fld {C:Addr}{H0 H:Hp}{x dx:Addr}{fs:List (Str×V)}{ob:List Addr} (h:MBs C H0 H x dx fs ob) {fs':List (Str×V)} (f:Str) (v:V) (e:Xx f v fs=fs'):MBs C H0 (upd H x (.ins C dx (Xx f v fs))) x dx fs' ob:=by
 refine⟨h.sm.put h.nx,by rw[YD,e],h.nx,λq hq=>⟨?_,(h.hob q hq).2⟩,h.nd,h.pl.upd rfl⟩;rw[YJ (h.hob q hq).2.2];exact(h.hob q hq).1
section
variable {P:Program}{w:World}{K:W.Frag}{mg:Str->Option Value}{base:Heap}{C:Adr}
theorem YBc:YX ["self","rules","text","costs","known"] ["self","rules","text","costs","known"] (YQ JZ):=⟨Z,Z,Z,by decide +kernel,Z,by decide +kernel,by decide +kernel⟩
theorem YBd {f:Addr}{fd:FuncData} (F:Fun K "__init__" "Mending.__init__" JZ f fd) (T:Txt K mg C):Yt P w K mg base CX0 1 f fd ["self","rules","text","costs","known"] (YJJ C.Mending):=by
 refine F.ok YBc (λvs H Q E h=>?_) (λaO A outer s H vs Q E hr h=>?_)
 ·cases h;subst_vars;rfl
 ·obtain⟨H0,x,dx,lr,ct,d,t,rfl,hx,hx0,s0,hp,q⟩:=h;have hu:=Zq hr;refine qex ?_;refine⟨_,(YE ⟨(Z4 K rfl (pv 0) (pv 1) rfl)⟩
   (YE ⟨(Z4 K rfl (pv 0) (pv 2) rfl)⟩
   (YE ⟨(Z4 K rfl (pv 0) (pv 3) rfl)⟩
   (YE ⟨(Z4 K rfl (pv 0) (pv 4) rfl)⟩
   (YE ⟨(Z4 K rfl (pv 0) (Zr YB) rfl)⟩
   (Y1 ⟨(Z4 K rfl (pv 0) (Zr YB) rfl)⟩)))))),?_⟩
  have b0:MBs C.Mending H0 H x dx [] []:=⟨s0,hx,hx0,λq hq=>(nomatch hq),List.nodup_nil,hp⟩;refine⟨_,Z,_,Z,x,C.Mending,dx,_,Z,b0.x_,T.aj,T.cg,(show 0 < 1000 by decide),?_⟩;have b1:=b0.fld (fs':=[("rules",.ref lr)]) "rules" (.ref lr) rfl;refine⟨_,Z,_,Z,x,C.Mending,dx,_,Z,b1.x_,T.aj,T.bI,(show 1 < 1000 by decide),?_⟩;have b2:=b1.fld (fs':=[("rules",.ref lr),("text",.str t)]) "text" (.str t) rfl;refine⟨_,Z,_,Z,x,C.Mending,dx,_,Z,b2.x_,T.aj,T.bw,(show 2 < 1000 by decide),?_⟩;have b3:=b2.fld (fs':=[("rules",.ref lr),("text",.str t),("costs",.ref ct)]) "costs" (.ref ct) rfl;refine⟨_,Z,_,Z,x,C.Mending,dx,_,Z,b3.x_,T.aj,T.au,(show 3 < 1000 by decide),?_⟩;have b4:=b3.fld (fs':=[("rules",.ref lr),("text",.str t),("costs",.ref ct),("known",.ref d)]) "known" (.ref d) rfl;refine⟨YMI _,λld pB=>?_⟩;have b5:=b4.new pB;refine⟨_,Z,x,C.Mending,dx,_,Z,b5.x_,T.aj,T.aB,(show 4 < 1000 by decide),?_⟩;have b6:=b5.fld (fs':=[("rules",.ref lr),("text",.str t),("costs",.ref ct),("known",.ref d),("deeds",.ref ld)]) "deeds" (.ref ld) rfl;refine⟨YMI _,λlw vC=>?_⟩;have b7:=b6.new vC;refine⟨_,Z,x,C.Mending,dx,_,Z,b7.x_,T.aj,T.cO,(show 5 < 1000 by decide),?_⟩;have b8:=b7.fld (fs':=(Mnd.fld ⟨x,dx,lr,t,ct,d,ld,lw⟩)) "row" (.ref lw) rfl;have h1:=b8.hob lw (YMG ..);have h2:=b8.hob ld (YL6 _ (YMG ..));have h3:ld≠lw:=λz=>(YMu.mp b8.nd).1 (by rw[z];exact YMG ..)
  exact q ⟨x,dx,lr,t,ct,d,ld,lw⟩ _ rfl rfl rfl rfl rfl rfl h2.2.1 h1.2.1 h3 b8.sm b8.x_ h2.1 h1.1 b8.pl
theorem YAR:YX ["grammar","text","costs","known","rules","top","mending"] ["grammar","text","costs"] (YQ YEC):=⟨Z,Z,Z,by decide +kernel,Z,by decide +kernel,by decide +kernel⟩
theorem YJ6 {f:Addr}{fd:FuncData} (F:Fun K "mended" "mended" YEC f fd) (T:Txt K mg C) (mj:Zc P w K mg (CXo P w) 9 "tolls" ["grammar","text","costs"] (YJD)) (cJ:Zc P w K mg (CXo P w) 7 "checked" ["thing"] (YCb C.NoGrammar)) (bN:UsedI P w K mg CX0 1 C.Mending ["self","rules","text","costs","known"] (YJJ C.Mending)) (bZ:XA P w K mg CX0 3 C.Mending "go_down" ["self","top"] (YHY C.Mending)):Yt P w K mg base (CXo P w) 10 f fd ["grammar","text","costs"] (YEF C.Barren C.TooGreat):=by
 obtain⟨Qj,zg,u0,u6,u9,u_⟩:=mj.ok;obtain⟨rP,qd,jy,jz,jA,jB⟩:=cJ.ok;obtain⟨ql,pK,iz,iB,iC⟩:=bN.ok;obtain⟨qK,qp,jb,iD,jc⟩:=bZ.ok;obtain⟨tW,cN⟩:=T.cN;refine F.okX YAR (λvs H Q E h=>?_) (λaO A outer s H vs Q E hr h=>?_)
 ·cases h;subst_vars;rfl
 ·obtain⟨x,ct,r0,rest,t,a,b,c,rfl,den,sh,hg,ht,hct,ha,hb,hc,hp,hB,eB,eT,q⟩:=h;have hu:=Zq hr;have hU:=hr.units;refine qex ?_;refine⟨_,(YE ⟨(YK (i:=3) YAR.nd rfl (Or.inl rfl) (YZ (u0 base) (hr.mono (by decide)) (by rfl) u6 u9 u_ .nil JQ.on (YA (pv 0) (YA (pv 1) (YA (pv 2) YB)))))⟩
   (YE ⟨(YK (i:=4) YAR.nd rfl (Or.inl rfl) (YZ (jy base) (hr.mono (by decide)) (by rfl) jz jA jB .nil JQ.on (YA (pv 0) YB)))⟩
   (YE ⟨(YK (i:=5) YAR.nd rfl (Or.inl rfl) (YAG (YE4 K rfl (pv 4) (λ_=>rfl)) (Ze (YA (YM (YS K rfl) (YM (YT K rfl) (pv 4) YC (λ_ _=>rfl)) YC (λ_ _=>rfl)) (YA YC (YA (YO Yz (by rfl) T.ak YLq (YA (pv 1) YB)) YB)))) Xd))⟩
   (YE ⟨(Yx (YAq (Xb hu (pv 5) (pv 3))) (YF (YAv JQ T.tK rfl (by rfl) T.tG (YA ZH YB))) Yk)⟩
   (YE ⟨(Yx (YW op_gt (YM (YS K rfl) (ZJ hu (pv 3) (pv 5) (λ_ _=>rfl)) YC (λ_ _=>rfl)) (X1 (v:=.int 1000) (by rfl) cN ⟨_,Z⟩) (Yd _)) (YF (YAv JQ T.pO rfl (by rfl) T.pN (YA ZH YB))) Yk)⟩
   (YE ⟨(YK (i:=6) YAR.nd rfl (Or.inl rfl) (YIf iB (iz base) (hr.mono (by decide)) (by rfl) T.qP iC .nil Yi (ZL (pv 4) (ZL (pv 1) (ZL (pv 2) (ZL (pv 3) YB))))))⟩
   (YE ⟨(Yr (Zs (pv 6) T.aj iD (jb base) (hr.mono (by decide)) jc .nil Yi (YA (pv 5) YB)))⟩
   (Y1 ⟨(Yc (Ze (YA (YM (YS K rfl) (ZJ hu (pv 3) (pv 5) (λ_ _=>rfl)) YC (λ_ _=>rfl)) (YA (YY K rfl (pv 6) rfl) (YA (YY K rfl (pv 6) rfl) YB)))))⟩)))))))),?_⟩
  have Qz:isQ r0.1=false:=YCC (YAM (Ji hg (i:=0) rfl));have z8:(r0 :: rest)[0]?=some r0:=rfl;obtain⟨g,eg⟩:∃g,r0 :: rest=g:=⟨_,Z⟩;rw[eg]at den sh hg hB eB eT q z8;have htl:t.length<=60:=by
   unfold Jh at ht;rw[YL5,YMa]at ht;exact ht.1
  refine⟨_,Z,_,Z,_,Z,x,.str t,ct,g,t,a,b,c,Z,den,sh,hg,Z,ht,hct,ha,hb,hc,hp,λd o kvs fs S ps O FF H1 s1 p1 hd fd W=>?_⟩;refine⟨_,Z,x,YAk g,Z,den.same s1,sh,p1,λ_ l xs ds eds hds hl=>?_,λz=>by rw[YAA,hg]at z;cases z⟩;have yp:ds=g.map ZR:=(D.lst.inj eds).symm;subst yp;have s2:=YN.upd (o:=.lst xs) hl;have p2:YR (upd H1 l (.lst xs)):=p1.upd rfl;have l2:upd H1 l (.lst xs) l=some (.lst xs):=YD;have d2:Yh (del (upd H1 l (.lst xs)) l) xs (g.map ZR):=by
   rw[XT];exact hds.same (show YN H1 (del H1 l) fromλa o e=>by rw[Z2 (λy=>by rw[y,hl]at e;cases e)];exact e)
  revert s2 p2 l2 d2;generalize upd H1 l (.lst xs)=H2;intro s2 p2 l2 d2;have Em:=s1.trans s2;have hd2:=s2 _ _ hd;have fd2:FdT H2 kvs fs:=fd.keep λ_ _ e=>s2 _ _ e
  obtain⟨tρ,pp,yQ,htρ,_⟩:=Jj (hds.same s2) z8;have hne:(!xs.isEmpty)=true:=by
   cases xs with
   |nil=>cases yQ
   |cons _ _=>rfl
  refine⟨_,Z,_,.inl ⟨_,SqL.of l2,Z⟩,?_⟩;rw[hne];refine ZG ⟨_,Z,l,_,0,_,Z,Z,SqL.of l2,yQ,tρ,_,0,_,Z,Z,SqT.of htρ,Z,_,Z,t,Z,YH (by lia),YH (by show 3<=1000;decide),λtp BR=>?_⟩;dsimp only[ZK];have s3:=YN.upd (o:=.tup [.str r0.1,.int 0,.int (t.length:Int)]) BR;have p3:YR (upd H2 tp (.tup [.str r0.1,.int 0,.int (t.length:Int)])):=p2.upd rfl;have t3:upd H2 tp (.tup [.str r0.1,.int 0,.int (t.length:Int)]) tp=some (.tup ((Z6 (.part r0.1 0 t.length)).map kV)):=YD;revert s3 p3 t3;generalize upd H2 tp (.tup [.str r0.1,.int 0,.int (t.length:Int)])=H3;intro s3 p3 t3;have yR:=s3 _ _ hd2;have RZ:FdT H3 kvs fs:=fd2.keep λ_ _ e=>s3 _ _ e
  have uI:=Em.trans s3;have isd:IsD H3 d:=.inr ⟨kvs,.inr ⟨o,yR⟩⟩;rcases W.get RZ (.part r0.1 0 t.length) with ⟨h1,h2⟩ |⟨u,h1,h2,h3⟩
  ·refine⟨_,Z,_,Z,d,_,Z,.inr ⟨kvs,Z6 (.part r0.1 0 t.length),tp,.inr ⟨o,yR⟩,Z,t3,h1.symm⟩,_,Z,?_⟩;refine ZG ?_;exact⟨YH (by show 1<=1000;decide),eB S ps O FF fs H3 W (λz=>h2 ⟨z,YMI _,by rw[W.en];exact YLr _⟩) uI p3⟩
  ·have gt:Jf H3 d (.ref tp) (some (.ref u)):=.inr ⟨kvs,Z6 (.part r0.1 0 t.length),tp,.inr ⟨o,yR⟩,Z,t3,h1.symm⟩;refine⟨_,Z,_,Z,d,_,Z,gt,_,Z,?_⟩;refine ZA ?_;dsimp only[YDU];refine⟨_,Z,_,Z,d,_,Z,gt,u,_,1,_,Z,Z,SqT.of h3,Z,_,_,Z,Z,_,Z,?_⟩;refine JP (λhR=>?_) λhR=>?_
   ·exact⟨YH (by show 1<=1000;decide),eT S ps O FF fs H3 W h2.1 (YME hR) uI p3⟩
   ·have hR:(vpN O FF (.part r0.1 0 t.length)).2<=1000:=by
     exact Int.not_lt.mp (λz=>hR (YLw z))
    dsimp only[YDU];refine⟨_,Z,_,Z,_,Z,_,Z,λxx dx z6 Ei hne=>?_⟩;have ex:upd (upd H3 dx (.own xx)) xx (.ins C.Mending dx []) xx=some (.ins C.Mending dx []):=YD;have s4:YN H3 (upd (upd H3 dx (.own xx)) xx (.ins C.Mending dx [])):=(YN.upd Ei).put z6;have p4:YR (upd (upd H3 dx (.own xx)) xx (.ins C.Mending dx [])):=(p3.upd rfl).upd rfl;refine⟨H3,xx,dx,l,ct,d,t,Z,ex,z6,s4,p4,λM H5 ex edx elr et ect ed h5 h6 h7 s5 x5 l5 w5 p5=>⟨Z,?_⟩⟩;dsimp only[ZK];subst ex edx elr et ect ed;have BV:=s5 _ _ (s3 _ _ l2);have nl:∀{y:Addr}{v:HO},H3 y=some v->y≠M.ld/\y≠M.lw:=λe=>⟨(λz=>by rw[z,h5]at e;cases e),(λz=>by rw[z,h6]at e;cases e)⟩
    have BW:M.x≠M.ld/\M.x≠M.lw:=⟨(λz=>by rw[z,l5]at x5;cases x5),(λz=>by rw[z,w5]at x5;cases x5)⟩;have st:MSt C.Mending M H5 H5 [] []:=⟨x5,h7,BW,λ_ _ _ _ e=>e,⟨[],l5,.nil⟩,w5⟩;have pre:MPre M H5 o kvs xs g a b c S ps O FF fs:=⟨s5 _ _ yR,RZ.keep λ_ _ e=>s5 _ _ e,W,hb.1,hb.2,hg,hB _ _ _ _ _ W,htl,BV,d2.same ((s3.trans s5).del _),(uI.trans s5) _ _ hct,nl yR,nl (s3 _ _ l2),⟨l5,w5⟩⟩;refine⟨_,Z,M.x,M.dx,_,Z,x5,Z,_,Z,M,H5,o,kvs,xs,g,a,b,c,S,ps,O,FF,fs,tp,r0.1,M.t.length,Z,st,pre,s5 _ _ t3,h2,Qz,hR,p5,λds row H6 mk mZ k6 p6=>?_⟩;have QB:YN H3 H6:=λa o e=>k6 a o (nl e).1 (nl e).2 (s5 _ _ e)
    have yL:=QB _ _ yR;have BX:Jf H6 M.d (.ref tp) (some (.ref u)):=.inr ⟨kvs,Z6 (.part r0.1 0 M.t.length),tp,.inr ⟨o,yL⟩,Z,QB _ _ t3,h1.symm⟩;refine⟨_,Z,_,Z,M.d,_,Z,BX,u,_,0,_,Z,Z,SqT.of (QB _ _ h3),Z,_,Z,M.x,C.Mending,M.dx,_,_,Z,mZ.x,T.aj,T.aB,Z,_,Z,M.x,C.Mending,M.dx,_,_,Z,mZ.x,T.aj,T.cO,Z,YH (by show 3<=1000;decide),λtt du=>?_⟩;have s7:=YN.upd (o:=.tup [.int (vpN O FF (.part r0.1 0 M.t.length)).1,.ref M.ld,.ref M.lw]) du;obtain⟨vs,hv,hdd⟩:=mZ.hd;refine q S ps O FF fs tt M.ld M.lw ds row _ W h2.1 mk YD ⟨vs,s7 _ _ hv,(hdd.same (λa o e=>ZD _ _ _ _ (ZD _ _ _ _ e))).same s7⟩ (s7 _ _ mZ.hw) h7 (uI.free h5) (uI.free h6) ((uI.trans QB).trans s7) (p6.upd rfl)
end
abbrev Xu:Stmt:=top 43
abbrev YAe:Stmt:=top 44
abbrev Zx:Stmt:=top 45
abbrev Js:Stmt:=top 46
abbrev YAf:Stmt:=top 47
abbrev YAg:Stmt:=top 48
abbrev Xv:Stmt:=top 49
abbrev XY:Stmt:=top 50
abbrev YCO:Stmt:=top 58
theorem Jv:(["_law_k","_law_big","_law_odd"]:List Str).Nodup:=by decide +kernel
theorem ZY:(["_law_k","_law_at","_law_base","_law_big","_law_odd"]:List Str).Nodup:=by decide +kernel
inductive YHa (K:W.Frag) (vs:List V) (H:Hp) (Q:VK):Prop where
 |mk (a:Addr) (ns:List Int) (k:Int) (a_:vs=[.ref a,.int k]) (bc:SqL K H a (ns.map V.int)) (bJ:0<=k) (cA:k<=1000) (dm:∀v:Int,0<=v->v < 2147483647->Q (.int v) H):YHa K vs H Q
def YGB (K:W.Frag):Sp:=λvs H Q E_=>YHa K vs H Q
inductive YHb (vs:List V) (H:Hp) (Q:VK):Prop where
 |mk (c:Int) (a_:vs=[.int c]) (bc:YR H) (bJ:∀l (a b d e:Nat) H',JR a=true->JR b=true->JR d=true->JR e=true->YN H H'->YR H'->H l=none->H' l=some (.lst [.str ⟨#[a]⟩,.str ⟨#[b]⟩,.str ⟨#[d]⟩,.str ⟨#[e]⟩])->Q (.ref l) H'):YHb vs H Q
def YGC:Sp:=λvs H Q E_=>YHb vs H Q
inductive YHc (vs:List V) (H:Hp) (Q:VK):Prop where
 |mk (c:Int) (a_:vs=[.int c]) (bc:0<=c) (bJ:c < 2147483648) (cA:YR H) (dm:∀l (ns:List Str) H',ns.length=4->(∀z∈ns,isNameS z=true)->YN H H'->YR H'->H l=none->H' l=some (.lst (ns.map V.str))->Q (.ref l) H'):YHc vs H Q
def YJK:Sp:=λvs H Q E_=>YHc vs H Q
inductive YFX (vs:List V) (H:Hp) (Q:VK):Prop where
 |mk (c:Int) (a_:vs=[.int c]) (bc:∀z:Int,0<=z->z<=10 ^ 60->Q (.int z) H):YFX vs H Q
def YEG:Sp:=λvs H Q E_=>YFX vs H Q
inductive YHd (vs:List V) (H:Hp) (Q:VK):Prop where
 |mk (c:Int) (m:Addr) (zs:List Str) (n:Int) (a_:vs=[.int c,.ref m,.int n]) (bc:H m=some (.lst (zs.map V.str))) (bJ:1<=zs.length) (cA:zs.length<=100) (dm:0<=n) (gM:n<=6) (lq:YR H) (m6:∀t (ps:List Str) H',(ps.length:Int)<=n->(∀p∈ps,p∈zs)->YN H H'->YR H'->H t=none->H' t=some (.tup (ps.map V.str))->Q (.ref t) H'):YHd vs H Q
def YJL:Sp:=λvs H Q E_=>YHd vs H Q
def YHe:Str:=YFv Zx 0 ++ YFv Zx 1
theorem YFY:YHe.cps.toList=YCc:=by decide +kernel
theorem YBV:YHe.length<=sizeLine:=YH (by decide +kernel)
theorem YBW {z:Str} (h:isNameS z=true):Yo z=true:=by
 unfold Yo;rw[h,Bool.or_true]
theorem YLc {z:Str}{c:Nat}{j:Int} (hz:z.length<=7) (hl:z.cps.toList.all Zg=true) (hc:Zg c=true) (h0:0<=j) (h1:j<=z.length):
  isNameS (Txt.slice z none (some j) ++ ⟨#[c]⟩ ++ Txt.slice z (some j) none)=true:=by
 rw[YCy,YAL,YAL,YK8 h0 h1,YIC h0 h1];have yS:z.cps.toList.length=z.length:=YMM;unfold YIs;have e1:((z.cps.toList.take j.toNat ++ [c] ++ z.cps.toList.drop j.toNat).length)=z.length + 1:=by
  rw[YLy,YLy,YMp,YM5,yS];show min j.toNat z.length + 1 + (z.length - j.toNat)=_
  lia
 show(decide (1<=(z.cps.toList.take j.toNat ++ [c] ++ z.cps.toList.drop j.toNat).length) && decide ((z.cps.toList.take j.toNat ++ [c] ++ z.cps.toList.drop j.toNat).length<=8) && (z.cps.toList.take j.toNat ++ [c] ++ z.cps.toList.drop j.toNat).all Zg)=true;rw[e1,YLw (by lia),YLw (by lia)];rw[YMR]at hl;rw[List.all_append,List.all_append];have a1:(z.cps.toList.take j.toNat).all Zg=true:=YMR.mpr λx hx=>hl x (List.mem_of_mem_take hx)
 have a2:(z.cps.toList.drop j.toNat).all Zg=true:=YMR.mpr λx hx=>hl x (List.mem_of_mem_drop hx)
 rw[a1,a2];show(true && (true && [c].all Zg && true))=true;rw[YNO,hc];rfl
theorem YLd {c:Nat}{n:Int} (hc:Zg c=true) (h0:1<=n) (h1:n<=8):isNameS (Txt.mul ⟨#[c]⟩ n)=true:=by
 rw[YCy,PyProof.Rows.mul_one_list];unfold YIs;rw[List.length_replicate,YLw (by lia),YLw (by lia)];show(List.replicate n.toNat c).all Zg=true;rw[YMR];intro x hx;rw[(List.mem_replicate.mp hx).2];exact hc
section
variable {P:Program}{w:World}{K:W.Frag}{mg:Str->Option Value}{base:Heap}{C:Adr}
theorem YDD:YX ["_law_script","_law_k"] ["_law_script","_law_k"] (YQ Xu):=⟨Z,Z,Z,by decide +kernel,Z,by decide +kernel,by decide +kernel⟩
theorem YDE {f:Addr}{fd:FuncData} (F:Fun K "_law_cell_at" "_law_cell_at" Xu f fd) (T:Txt K mg C):Yt P w K mg base CX0 1 f fd ["_law_script","_law_k"] (YFt K):=by
 refine F.ok YDD (λvs H Q E h=>?_) (λaO A outer s H vs Q E hr h=>?_)
 ·cases h;subst_vars;rfl
 ·obtain⟨a,ns,k,rfl,hS,h0,q⟩:=h;refine⟨_,(YG (Yx (YW Xh (pv 1) (YO (YL K rfl) (by rfl) T.ak YLq (YA (pv 0) YB)) (Yd _)) (YF (Yc (YM (YT K rfl) (pv 0) (pv 1) (λ_ _=>rfl)))) Yk)
   (YF (Yc YC))),?_⟩
  refine⟨_,Z,_,Z,a,_,Z,.inl hS,_,_,Z,Z,_,Z,?_⟩;refine JP (λh1=>?_) λh1=>?_
  ·have h1':=YME h1;obtain⟨v,hv,hm⟩:=Z8 h0 h1';obtain⟨n,_,rfl⟩:=YMD.mp hm;exact⟨_,Z,_,Z,a,_,k,_,Z,Z,hS,hv,q n⟩
  ·exact q 0
theorem YBf:YX ["_law_script","_law_k","_law_cell"] ["_law_script","_law_k"] (YQ YAe):=⟨Z,Z,Z,by decide +kernel,Z,by decide +kernel,by decide +kernel⟩
theorem YEc {f:Addr}{fd:FuncData} (F:Fun K "_law_mixed" "_law_mixed" YAe f fd) (T:Txt K mg C) (aC:Zc P w K mg CX0 1 "_law_cell_at" ["_law_script","_law_k"] (YFt K)):Yt P w K mg base CX0 2 f fd ["_law_script","_law_k"] (YGB K):=by
 obtain⟨eZ,dX,aV,aW,aX,aY⟩:=aC.ok;refine F.ok YBf (λvs H Q E h=>?_) (λaO A outer s H vs Q E hr h=>?_)
 ·cases h;subst_vars;rfl
 ·obtain⟨a,ns,k,rfl,hS,k0,k1,q⟩:=h;refine⟨_,(YG (YK (i:=2) YBf.nd rfl (Or.inl rfl) (YI Y2 (YZ (aV base) (hr.mono (by decide)) (by rfl) aW aX aY .nil Yi (YA (pv 0) (YA (pv 1) YB))) YC))
   (YF (Yc (YI Y2 (YI YCU (YI Ye (YI Ye (YI Ye (YI YCU (pv 2) (pv 2)) (pv 2)) (YI YCU (YI YCU YC (pv 1)) (pv 1))) YC) YC) YC)))),?_⟩
  refine⟨_,Z,_,Z,a,ns,k,Z,hS,k0,λv=>⟨_,_,Z,Z,(by show(0:Int) < 2147483629;decide),?_⟩⟩;have c0:0<=v % 2147483629:=by lia
  have c1:v % 2147483629 < 2147483629:=by lia
  refine⟨_,Z,_,Z,_,_,Z,Z,.inl ⟨by lia,by lia⟩,_,Z,_,_,Z,Z,_,Z,_,_,Z,Z,.inl ⟨by decide,by decide⟩,_,Z,_,_,Z,Z,.inr ⟨by lia,by lia⟩,_,_,Z,Z,_,_,Z,Z,_,_,Z,Z,.inr ⟨by decide,by decide⟩,_,_,Z,Z,(by show(0:Int) < 2147483647;decide),q _ ?_ ?_⟩
  ·exact YMe _ (by decide)
  ·exact YMg _ (by decide)
theorem J6:YX ["_law_cell","_law_some","_law_near"] ["_law_cell"] (YQ Zx):=⟨Z,Z,Z,by decide +kernel,Z,by decide +kernel,by decide +kernel⟩
theorem YEd {f:Addr}{fd:FuncData} (F:Fun K "_law_signs" "_law_signs" Zx f fd) (T:Txt K mg C):Yt P w K mg base CX0 1 f fd ["_law_cell"] (YGC):=by
 refine F.ok J6 (λvs H Q E h=>?_) (λaO A outer s H vs Q E hr h=>?_)
 ·cases h;subst_vars;rfl
 ·obtain⟨c,rfl,hp,q⟩:=h;refine⟨_,(YG (YK (i:=1) J6.nd rfl (Or.inl rfl) ZH)
   (YG (YK (i:=1) J6.nd rfl (Or.inl rfl) (YI JV (pv 1) ZH))
   (YG (YK (i:=2) J6.nd rfl (Or.inl rfl) (Zr (YA (YM Zt (pv 1) (YI Y2 (pv 0) YC) (λ_ _=>rfl)) (YA (YM Zt (pv 1) (YI Y2 (YI Ye (YI Ye (pv 0) YC) (YI Y2 (YI ZB (pv 0) YC) YC)) YC) (λ_ _=>rfl)) YB))))
   (YF (Yc (YI YDa (pv 2) (Zr (YA (YM Zt (pv 1) (YI Y2 (YI Ye (YI Ye (pv 0) YC) (YI Y2 (YI ZB (pv 0) YC) YC)) YC) (λ_ _=>rfl)) (YA (YM Zt (pv 1) (YI Y2 (YI Ye (pv 0) YC) YC) (λ_ _=>rfl)) YB))))))))),?_⟩
  refine⟨_,Z,YFv Zx 0,YFv Zx 1,Z,Z,by decide +kernel,?_⟩;have at_:∀i:Int,∃k,atI YHe.cps.toList (i % 94)=some k/\JR k=true:=λi=>by
   obtain⟨k,hk,hm⟩:=Z8 (xs:=YHe.cps.toList) (i:=i % 94) (by lia) (by rw[YFY,YJo];lia);rw[YFY]at hm;exact⟨k,hk,YIB hm⟩
  obtain⟨k1,e1,g1⟩:=at_ c;obtain⟨k2,e2,g2⟩:=at_ (c + 1 + c / 94 % 46);obtain⟨k3,e3,g3⟩:=at_ (c + 47 + c / 4324 % 46);obtain⟨k4,e4,g4⟩:=at_ (c + 93);refine⟨_,Z,_,Z,_,_,Z,Z,(by show(0:Int) < 94;decide),YHe,_,k1,Z,Z,YBV,e1,?_⟩;refine⟨_,Z,_,Z,_,_,Z,Z,_,Z,_,_,Z,Z,⟨by decide,by decide⟩,_,_,Z,Z,(by show(0:Int) < 46;decide),_,_,Z,Z,_,_,Z,Z,(by show(0:Int) < 94;decide),YHe,_,k2,Z,Z,YBV,e2,?_⟩;refine⟨YH (by show 2<=1000;decide),λl1 hl1=>?_⟩;refine⟨_,Z,?_⟩;refine⟨_,Z,_,Z,_,_,Z,Z,_,Z,_,_,Z,Z,⟨by decide,by decide⟩,_,_,Z,Z,(by show(0:Int) < 46;decide),_,_,Z,Z,_,_,Z,Z,(by show(0:Int) < 94;decide),YHe,_,k3,Z,Z,YBV,e3,?_⟩;refine⟨_,Z,_,Z,_,_,Z,Z,_,_,Z,Z,(by show(0:Int) < 94;decide),YHe,_,k4,Z,Z,YBV,e4,?_⟩;refine⟨YH (by show 2<=1000;decide),λl2 hl2=>?_⟩;have s2:=(YN.upd (o:=.lst [.str ⟨#[k1]⟩,.str ⟨#[k2]⟩]) hl1).trans (YN.upd (o:=.lst [.str ⟨#[k3]⟩,.str ⟨#[k4]⟩]) hl2);refine⟨l1,l2,_,_,Z,Z,(YN.upd hl2) _ _ YD,YD,YH (by show 2 + 2<=1000;decide),λl hl=>?_⟩;exact q l k1 k2 k3 k4 _ g1 g2 g3 g4 (s2.trans (YN.upd hl)) (((hp.upd rfl).upd rfl).upd rfl) (s2.free hl) YD
theorem ZS:YX ["_law_cell","_law_big","_law_odd","_law_k","_law_base","_law_at"] ["_law_cell"] (YQ Js):=⟨Z,Z,Z,by decide +kernel,Z,by decide +kernel,by decide +kernel⟩
theorem YEe {f:Addr}{fd:FuncData} (F:Fun K "_law_names" "_law_names" Js f fd) (T:Txt K mg C):Yt P w K mg base CX0 1 f fd ["_law_cell"] (YJK):=by
 refine F.ok ZS (λvs H Q E h=>?_) (λaO A outer s H vs Q E hr h=>?_)
 ·cases h;subst_vars;rfl
 ·obtain⟨c,rfl,c0,c1,hp,q⟩:=h;refine⟨_,(YG (YK (i:=1) ZS.nd rfl (Or.inr rfl) ZH)
   (YG (YK (i:=2) ZS.nd rfl (Or.inr rfl) (YI Y2 (pv 0) YC))
   (YG (YK (i:=0) ZS.nd rfl (Or.inl rfl) (YI ZB (pv 0) YC))
   (YG (Yx (YW Jd (YI Y2 (pv 0) YC) YC (Yd _)) (YF (Yc (Z3 (N:=["_law_k","_law_big","_law_odd"]) (ρ:=[none,some 1,some 2]) rfl (Yj.closes ["_law_cell","_law_big","_law_odd","_law_k","_law_base","_law_at"] (YQ Js).names rfl rfl rfl rfl (by decide +kernel) (by decide +kernel) (λx h=>Jg h) (by decide +kernel) rfl (by decide +kernel)) (Y7 rfl T.aG (YA YC YB)) (λ_ _ _ _ _=>(YU (i:=0) Jv rfl (Or.inl rfl) (.inr rfl))) (λ_ _ _ _ _=>Zh) (λ_ _ _ _ _=>(YI YH6 (YM Zt (pv 1) (pv 2) (λ_ _=>rfl)) (YI JI (YI Ye (YI YCU YC (pv 0)) YC) (YI ZB (pv 0) YC))))))) Yk)
   (YG (YK (i:=4) ZS.nd rfl (Or.inr rfl) ZH)
   (YG (Yq PassesOwn.never rfl (Y7 rfl T.aG (YA (YI Y2 (YI ZB (pv 0) YC) YC) YB)) (YU (i:=3) ZS.nd rfl (Or.inl rfl)) (YF (YK (i:=4) ZS.nd rfl (Or.inr rfl) (YI JV (pv 4) (YM Zt (pv 1) (YI Y2 (YI ZB (YI YCU (pv 0) (YI Ye (pv 3) YC)) YC) YC) (λ_ _=>rfl))))))
   (YG (YK (i:=5) ZS.nd rfl (Or.inr rfl) (YI Y2 (YI ZB (pv 0) YC) (YI Ye (YO Yz (by rfl) T.ak YLq (YA (pv 4) YB)) YC)))
   (YF (Yc (Z3 (N:=["_law_k","_law_at","_law_base","_law_big","_law_odd"]) (ρ:=[none,some 5,some 4,some 1,some 2]) rfl (Yj.closes ["_law_cell","_law_big","_law_odd","_law_k","_law_base","_law_at"] (YQ Js).names rfl rfl rfl rfl (by decide +kernel) (by decide +kernel) (λx h=>Jg h) (by decide +kernel) rfl (by decide +kernel)) (Y7 rfl T.aG (YA YC YB)) (λ_ _ _ _ _=>(YU (i:=0) ZY rfl (Or.inl rfl) (.inr rfl))) (λ_ _ _ _ _=>Zh) (λ_ _ _ _ _=>(YI JV (YI JV (Zy YFo (pv 2) YAW (ZZ (pv 1))) (YM Zt (pv 3) (YI Ye (pv 4) (pv 0)) (λ_ _=>rfl))) (Zy YFo (pv 2) (ZZ (pv 1)) YAW))))))))))))),?_⟩
  refine⟨_,Z,_,_,Z,Z,(by show(0:Int) < 23;decide),?_⟩;refine⟨_,Z,_,_,Z,Z,⟨by decide,by decide⟩,?_⟩;refine⟨_,Z,_,_,Z,Z,(by show(0:Int) < 4;decide),Z,_,Z,JP (λh0=>?_) λh0=>?_⟩
  ·refine⟨4,Z,by decide,by decide,λl hl=>?_⟩;refine Zf (n:=4) 0 (λk y _=>∃z,y=.str z/\isNameS z=true) Je (λ_ _ _ _ _ h=>h) hp hl (by show 0 < 3;decide) (YH (by decide)) (λτ'=>∃v,τ'=[v,some (.str BIG),some (.int (c % 23))]) ⟨_,Z⟩ ?_ ?_ ?_
   ·rintro τ' v ⟨w,rfl⟩;exact⟨v,Z⟩
   ·rintro τ' k x H' R ⟨w,rfl⟩ hτ hit hk hs hp' lU hR;have ew:w=some x:=by simpa using hτ
    subst ew hit;obtain⟨c2,hc2,hm⟩:=Z8 (xs:=BIG.cps.toList) (i:=c % 23) (by lia) (by rw[YFu];lia);refine⟨_,Z,_,Z,BIG,_,c2,Z,Z,YDr,hc2,_,Z,_,_,Z,Z,.inl ⟨by decide,by decide⟩,_,_,Z,Z,_,Z,_,_,Z,Z,⟨by decide,by decide⟩,_,_,Z,Z,_,_,Z,Z,(by show 1<=1000;decide),?_,?_,hR _ _ (YN.refl _) hp' ⟨_,Z,YLd (YBk hm) ?_ ?_⟩⟩ <;> lia
   ·intro ys H' hy hP hs hp' hl';obtain⟨zs,rfl,hz⟩:=YBl hP;exact q l zs H' (by rw[YLp]at hy;exact hy) hz hs hp' hl hl'
  ·refine⟨_,Z,_,_,Z,Z,⟨by decide,by decide⟩,_,_,Z,Z,(by show(0:Int) < 8;decide),_,Z,(in62 (by lia) (by lia)).1,(in62 (by lia) (by lia)).2,?_⟩;refine ZI (lo:=0) (n:=(c / 23 / 4 % 8).toNat) (λi σ H2=>H2=H/\∃(z:Str) (v:Option V),σ=[some (.int (c / 23)),some (.str BIG),some (.int (c % 23)),v,some (.str z),none]/\z.length=i/\z.cps.toList.all Zg=true) ⟨Z,_,none,Z,(by decide +kernel),(by decide +kernel)⟩ ?_ ?_
   ·rintro i σ H2 hi ⟨rfl,z,v,rfl,hz,yS⟩;have hi8:i < 8:=by lia
    obtain⟨c2,hc2,hm⟩:=Z8 (xs:=BIG.cps.toList) (i:=c / 23 * (0 + (i:Int) + 3) / 7 % 26) (by lia) (by rw[YFu];lia);refine⟨_,Z,_,Z,_,Z,_,Z,_,_,Z,Z,_,_,Z,Z,.inl ⟨by lia,by lia⟩,_,_,Z,Z,⟨by decide,by decide⟩,_,_,Z,Z,(by show(0:Int) < 26;decide),BIG,_,c2,Z,Z,YDr,hc2,z,_,Z,Z,YH (by show z.length + 1<=1000;lia),?_⟩;refine⟨Z,z ++ ⟨#[c2]⟩,_,Z,by rw[slen,hz];rfl,?_⟩;rw[YAL,List.all_append,yS];show(true && [c2].all Zg)=true;rw[YNO,YBk hm];rfl
   ·rintro σ H2 ⟨rfl,z,v,rfl,hz,yS⟩;have BZ:z.length<=7:=by lia
    refine⟨_,Z,_,_,Z,Z,⟨by decide,by decide⟩,_,Z,z,Z,YH (by lia),_,_,Z,Z,_,_,Z,Z,(by show(0:Int) < (z.length:Int) + 1;lia),?_⟩;have a0:0<=c / 23 / 32 % ((z.length:Int) + 1):=YMe _ (by lia);have a1:c / 23 / 32 % ((z.length:Int) + 1) < (z.length:Int) + 1:=YMg _ (by lia);obtain⟨at_,hat⟩:∃a,a=c / 23 / 32 % ((z.length:Int) + 1):=⟨_,Z⟩;rw[<-hat]at a0 a1;refine⟨4,Z,by decide,by decide,λl hl=>?_⟩;refine Zf (n:=4) 0 (λk y _=>∃z,y=.str z/\isNameS z=true) Je (λ_ _ _ _ _ h=>h) hp hl (by show 0 < 5;decide) (YH (by decide)) (λτ'=>∃v,τ'=[v,some (.int at_),some (.str z),some (.str BIG),some (.int (c % 23))]) ⟨none,by rw[hat];rfl⟩ ?_ ?_ ?_
    ·rintro τ' v ⟨w,rfl⟩;exact⟨v,Z⟩
    ·rintro τ' k x H' R ⟨w,rfl⟩ hτ hit hk hs hp' lU hR;have ew:w=some x:=by simpa using hτ
     subst ew hit;obtain⟨c2,hc2,hm⟩:=Z8 (xs:=BIG.cps.toList) (i:=c % 23 + (0 + (k:Int))) (by lia) (by rw[YFu];lia);have q1:=Txt.slice_le z none (some at_);have q2:=Txt.slice_le z (some at_) none;refine⟨_,Z,_,Z,_,Z,z,Z,YH (by lia),_,Z,_,Z,_,Z,_,_,Z,Z,BIG,_,c2,Z,Z,YDr,hc2,_,_,Z,Z,YH (by show _ + 1<=1000;lia),_,Z,_,Z,_,Z,z,Z,YH (by lia),_,_,Z,Z,YH (by rw[slen];show _ + 1 + _<=1000;lia),hR _ _ (YN.refl _) hp' ⟨_,Z,YLc BZ yS (YBk hm) a0 (by lia)⟩⟩
    ·intro ys H' hy hP hs hp' hl';obtain⟨zs,rfl,hz⟩:=YBl hP;exact q l zs H' (by rw[YLp]at hy;exact hy) hz hs hp' hl hl'
theorem YEf:YX ["_law_cell"] ["_law_cell"] (YQ YAf):=⟨Z,Z,Z,by decide +kernel,Z,by decide +kernel,by decide +kernel⟩
theorem YEg {f:Addr}{fd:FuncData} (F:Fun K "_law_worth" "_law_worth" YAf f fd) (T:Txt K mg C):Yt P w K mg base CX0 1 f fd ["_law_cell"] (YEG):=by
 refine F.ok YEf (λvs H Q E h=>?_) (λaO A outer s H vs Q E hr h=>?_)
 ·cases h;subst_vars;rfl
 ·obtain⟨c,rfl,q⟩:=h;refine⟨_,(YG (Yx (YW Jd (YI Y2 (pv 0) YC) YC (Yd _)) (YF (Yc (YI Y2 (YI ZB (pv 0) YC) (YI Ye (YI YAt YC YC) YC)))) Yk)
   (YF (Yc (YI Y2 (YI ZB (pv 0) YC) YC)))),?_⟩
  have big:(1000:Int)<=10 ^ 60:=by decide
  refine⟨_,Z,_,_,Z,Z,(by show(0:Int) < 3;decide),Z,_,Z,JP (λ_=>?_) λ_=>?_⟩
  ·refine⟨_,Z,_,_,Z,Z,⟨by decide,by decide⟩,_,_,Z,Z,⟨by decide,by decide,by decide⟩,_,_,Z,Z,_,_,Z,Z,(by show(0:Int) < 10 ^ (60:Int).toNat + 1;decide),q _ ?_ ?_⟩
   ·exact YMe _ (by decide)
   ·exact Int.le_of_lt_add_one (YMg _ (by decide))
  ·refine⟨_,Z,_,_,Z,Z,⟨by decide,by decide⟩,_,_,Z,Z,(by show(0:Int) < 4;decide),q _ ?_ ?_⟩
   ·show 0<=c / 3 % 4
    lia
   ·show c / 3 % 4<=10 ^ 60
    lia
theorem Z1:YX ["_law_cell","_law_menu","_law_most","_law_size","_law_parts_here","_law_k"] ["_law_cell","_law_menu","_law_most"] (YQ YAg):=⟨Z,Z,Z,by decide +kernel,Z,by decide +kernel,by decide +kernel⟩
theorem YEh {f:Addr}{fd:FuncData} (F:Fun K "_law_parts" "_law_parts" YAg f fd) (T:Txt K mg C):Yt P w K mg base CX0 1 f fd ["_law_cell","_law_menu","_law_most"] (YJL):=by
 refine F.ok Z1 (λvs H Q E h=>?_) (λaO A outer s H vs Q E hr h=>?_)
 ·cases h;subst_vars;rfl
 ·obtain⟨c,m,zs,n,rfl,hm,z1,z2,n0,n6,hp,q⟩:=h;refine⟨_,(YG (YK (i:=3) Z1.nd rfl (Or.inl rfl) (YI Y2 (pv 0) (YI Ye (pv 2) YC)))
   (YG (YK (i:=0) Z1.nd rfl (Or.inl rfl) (YI ZB (pv 0) (YI Ye (pv 2) YC)))
   (YG (YK (i:=4) Z1.nd rfl (Or.inl rfl) (Zr YB))
   (YG (Yq PassesOwn.never rfl (Y7 rfl T.aG (YA (pv 3) YB)) (YU (i:=5) Z1.nd rfl (Or.inl rfl)) (YG (Yr (ZO K rfl YMC YML YMK Y0 (pv 4) (YA (YM (YT K rfl) (pv 1) (YI Y2 (pv 0) (YO (YL K rfl) (by rfl) T.ak YLq (YA (pv 1) YB))) (λ_ _=>rfl)) YB)))
   (YF (YK (i:=0) Z1.nd rfl (Or.inl rfl) (YI ZB (pv 0) (YO (YL K rfl) (by rfl) T.ak YLq (YA (pv 1) YB)))))))
   (YF (Yc (Xa (YAy K rfl) (by rfl) T.iI YM2 (YA (pv 4) YB)))))))),?_⟩
  refine⟨_,Z,_,Z,_,_,Z,Z,_,_,Z,Z,(by show(0:Int) < n + 1;lia),?_⟩;refine⟨_,Z,_,Z,_,_,Z,Z,_,_,Z,Z,⟨by lia,by lia⟩,?_⟩;have s0:0<=c % (n + 1):=YMe _ (by lia);have s1:c % (n + 1) < n + 1:=YMg _ (by lia);obtain⟨sz,hsz⟩:∃sz,sz=c % (n + 1):=⟨_,Z⟩;rw[<-hsz]at s0 s1;refine⟨YMI _,λl hl=>?_⟩;refine⟨_,Z,sz,by rw[hsz],(in62 (by lia) (by lia)).1,(in62 (by lia) (by lia)).2,?_⟩;have nml:m≠l:=Ya hm hl;refine ZI (lo:=0) (n:=sz.toNat) (λi σ H2=>∃(ps:List Str) (x:Int) (v:Option V),H2=upd H l (.lst (ps.map V.str))/\ps.length=i/\(∀p∈ps,p∈zs)/\σ=[some (.int x),some (.ref m),some (.int n),some (.int sz),some (.ref l),v]) ⟨[],_,none,Z,Z,by simp,by rw[hsz];rfl⟩ ?_ ?_
  ·rintro i σ H2 hi ⟨ps,x,v,rfl,hpl,hpm,rfl⟩;have hm2:upd H l (.lst (ps.map V.str)) m=some (.lst (zs.map V.str)):=by rw[YJ nml];exact hm
   have yS:((zs.map V.str).length:Int)=(zs.length:Int):=by rw[YLp]
   obtain⟨y,hy,hmem⟩:=Z8 (xs:=zs.map V.str) (i:=x % ((zs.map V.str).length:Int)) (YMe _ (by lia)) (YMg _ (by lia));obtain⟨z,hz,rfl⟩:=YMD.mp hmem;refine⟨_,Z,.inl ⟨Z,_,SqL.of YD⟩,_,Z,_,Z,_,Z,m,_,Z,.inl (SqL.of hm2),_,_,Z,Z,(by lia),m,_,_,_,Z,Z,SqL.of hm2,hy,l,_,.str z,Z,Z,YD,?_,?_⟩
   ·rw[YLp];exact YL9 (show _ < 1000 by lia) (YH (YLr _))
   ·refine⟨_,Z,_,Z,m,zs.map V.str,Z,.inl (SqL.of ?_),_,_,Z,Z,⟨by show(0:Int) < ((zs.map V.str).length:Int);lia,by show((zs.map V.str).length:Int) < 1073741824;lia⟩,ps ++ [z],_,_,?_,by rw[YLy,hpl];rfl,?_,Z⟩
    ·rw[YDG,YJ nml];exact hm
    ·rw[YDG,YL2];rfl
    ·intro p hp;rcases YMN.mp hp with h |h
     ·exact hpm p h
     ·rw[YL1.mp h];exact hz
  ·rintro σ H2 ⟨ps,x,v,rfl,hpl,hpm,rfl⟩;refine⟨_,Z,l,_,Z,.inl ⟨SqL.of YD,λt ht=>?_⟩⟩;have s2:=YN.upd (o:=.lst (ps.map V.str)) hl;exact q t ps _ (by lia) hpm (s2.trans (YN.upd ht)) ((hp.upd rfl).upd rfl) (s2.free ht) YD
end
theorem YCP:(["_law_sign"]:List Str).Nodup:=by decide +kernel
theorem YFZ {H:Hp}:∀{xs:List V}{ds:List D},Yh H xs ds->Yh H xs.reverse ds.reverse
 |[],[],_=>.nil
 |[],_ :: _,h=>by unfold Yh at h;exact h.elim
 |_ :: _,[],h=>by unfold Yh at h;exact h.elim
 |x :: xs,d :: ds,h=>by
  unfold Yh at h;rw[List.reverse_cons,List.reverse_cons];exact(YFZ h.2).append (.cons h.1 .nil)
theorem YJ7 {r:Yp} (h:JJ r=true):∀p∈r.2.1,Yo p=true:=by
 unfold JJ at h;simp only[YL5,YMR]at h;exact h.2.1.2
def R72 (hs:List Str) (r:Yp):Prop:=JJ r=true/\r.2.1.length<=3/\r.1∈hs
def ShR (g:Yl) (h:Str):Prop:=∃r∈g,r.1=h/\(∀p∈r.2.1,isQ p=true)/\r.2.1.length<=2
theorem ShR.more {g:Yl}{h:Str} (x:ShR g h) (r:Yp):ShR (g ++ [r]) h:=by
 obtain⟨r',a,b⟩:=x;exact⟨r',YMc _ a,b⟩
inductive YJM (K:W.Frag) (vs:List V) (H:Hp) (Q:VK):Prop where
 |mk (a:Addr) (ns:List Int) (a_:vs=[.ref a]) (bc:SqL K H a (ns.map V.int)) (bJ:YR H) (cA:∀(l:Addr) (xs:List V) (g:Yl) (hs:List Str) (H':Hp),g.length<=6->1<=g.length->hs.length<=3->(∀r∈g,R72 hs r)->(∀h∈hs,ShR g h)->YN H H'->YR H'->H l=none->H' l=some (.lst xs)->Yh (del H' l) xs (g.map ZR)->Q (.ref l) H'):YJM K vs H Q
def YLe (K:W.Frag):Sp:=λvs H Q E_=>YJM K vs H Q
theorem YLf (c:Nat):isQ (("'":Str) ++ ⟨#[c]⟩)=true:=by
 rw[YI7];exact YLw (by rw[YGh];rfl)
theorem in62 {i:Int} (h0:-1000<=i) (h1:i<=1000):-(2 ^ 62)<=i/\i < 2 ^ 62:=⟨by lia,by lia⟩
theorem YHf (ss:List Str) (lo hi:Option Int):∃zs:List Str,YBX (ss.map V.str) lo hi=zs.map V.str/\(∀z∈zs,z∈ss)/\zs.length<=ss.length:=by
 unfold YBX;refine⟨_,by rw[<-List.map_drop,<-List.map_take],λz hz=>List.mem_of_mem_drop (List.mem_of_mem_take hz),?_⟩;rw[YMp,YM5]
 lia
theorem YJ8 (xs:List V) (n:Nat) (h:n<=xs.length):YBX xs none (some (n:Int))=xs.take n:=by
 unfold YBX;have e2:HT.sIx xs.length xs.length (some (n:Int))=min n xs.length:=HT.sIx_nat _ _ n;rw[e2,Nat.min_eq_left h];rfl
theorem YHg {H5 H H8:Hp}{l:Addr}{xs:List V}{g:Yl} (h:H l=some (.lst xs)) (hds:Yh (del H l) xs (g.map ZR)) (s:YN H5 H) (hl:H5 l=none) (s8:YN H H8) (p:YR H8) {t tt:Addr} (r:Yp) (B_:t≠l) (ht:H8 t=some (.tup (r.2.1.map V.str))) (h2:H8 tt=none):
  (upd H8 tt (.tup [.str r.1,.ref t,.int r.2.2])) l=some (.lst xs)/\∃Ha,upd (upd H8 tt (.tup [.str r.1,.ref t,.int r.2.2])) l (.lst (xs ++ [.ref tt]))=Ha/\Ha l=some (.lst (xs ++ [.ref tt]))/\Yh (del Ha l) (xs ++ [.ref tt]) ((g ++ [r]).map ZR)/\YN H5 Ha/\YR Ha:=by
 have u2:=YN.upd (o:=.tup [.str r.1,.ref t,.int r.2.2]) h2;have nt2:tt≠l:=λz=>by rw[z,s8 _ _ h]at h2;cases h2
 refine⟨u2 _ _ (s8 _ _ h),_,Z,YD,?_,(s.trans (s8.trans u2)).put hl,(p.upd rfl).upd rfl⟩;rw[XT,YL2];refine(hds.same ((s8.trans u2).del l)).append (.cons ?_ .nil);refine .tup (show del _ l tt=some _ from ?_) (.cons (.str _) (.cons (.tup (show del _ l t=some _ from ?_) (Yh.strs r.2.1)) (.cons (.int _) .nil)))
 ·rw[Z2 nt2];exact YD
 ·rw[Z2 B_];exact u2 _ _ ht
theorem seq_rS {t u:TS}{D:YAo}{σ:St}{H:Hp} (M:St->Hp->Prop) (rest:∀σ' H',M σ' H'->u D σ' H') (h:(∀σ' H',M σ' H'->u D σ' H')->t { D with nx:=u D } σ H):YGL t u D σ H:=h rest
inductive LtI (hs:List Str) (H5:Hp) (a ln ls lh lm l:Addr) (way:Int) (i:Nat) (σ:List (Option V)) (H6:Hp):Prop
 |mk (g:Yl) (xs:List V) (v7 v8:Option V) (q0:σ=[some (.ref a),some (.ref ln),some (.ref ls),some (.int way),some (.ref lh),some (.ref lm),some (.ref l),v7,v8,none,none]) (q1:H6 l=some (.lst xs)) (q2:Yh (del H6 l) xs (g.map ZR)) (q3:g.length=i) (q4:(∀r∈g,R72 hs r)) (q5:(∀h∈hs.take i,ShR g h)) (q6:YN H5 H6) (q7:YR H6):LtI hs H5 a ln ls lh lm l way i σ H6
inductive LtJ (hs:List Str) (H5:Hp) (a ln ls lh lm l:Addr) (way:Int) (i:Nat) (σ:List (Option V)) (H7:Hp):Prop
 |mk (g':Yl) (uJ:List V) (v7 v8 v9 gK:Option V) (q0:σ=[some (.ref a),some (.ref ln),some (.ref ls),some (.int way),some (.ref lh),some (.ref lm),some (.ref l),v7,v8,v9,gK]) (q1:H7 l=some (.lst uJ)) (q2:Yh (del H7 l) uJ (g'.map ZR)) (q3:g'.length=hs.length + i) (q4:(∀r∈g',R72 hs r)) (q5:(∀h∈hs,ShR g' h)) (q6:YN H5 H7) (q7:YR H7):LtJ hs H5 a ln ls lh lm l way i σ H7
section
variable {P:Program}{w:World}{K:W.Frag}{mg:Str->Option Value}{base:Heap}{C:Adr}
theorem Yg:YX ["_law_script","_law_names_here","_law_signs_here","_law_way","_law_heads","_law_menu","_law_rules","_law_k","_law_cell","_law_head","_law_parts_here"] ["_law_script"] (YQ Xv):=⟨Z,Z,Z,by decide +kernel,Z,by decide +kernel,by decide +kernel⟩
theorem YDF {f:Addr}{fd:FuncData} (F:Fun K "_law_grammar" "_law_grammar" Xv f fd) (T:Txt K mg C) (dI:Zc P w K mg CX0 1 "_law_names" ["_law_cell"] (YJK)) (bx:Zc P w K mg CX0 2 "_law_mixed" ["_law_script","_law_k"] (YGB K)) (dJ:Zc P w K mg CX0 1 "_law_parts" ["_law_cell","_law_menu","_law_most"] (YJL)) (bz:Zc P w K mg CX0 1 "_law_signs" ["_law_cell"] (YGC)) (bA:Zc P w K mg CX0 1 "_law_worth" ["_law_cell"] (YEG)) (aC:Zc P w K mg CX0 1 "_law_cell_at" ["_law_script","_law_k"] (YFt K)):Yt P w K mg base CX0 3 f fd ["_law_script"] (YLe K):=by
 obtain⟨vd,uw,mq,my,mz,mC⟩:=dI.ok;obtain⟨mD,lD,aP,aQ,aR,aU⟩:=bx.ok;obtain⟨vf,ux,jd,je,jf,jg⟩:=dJ.ok;obtain⟨mF,lE,dM,dN,dO,dR⟩:=bz.ok;obtain⟨mG,lF,cD,cF,cG,cH⟩:=bA.ok;obtain⟨eZ,dX,aV,aW,aX,aY⟩:=aC.ok;refine F.ok Yg (λvs H Q E h=>?_) (λaO A outer s H vs Q E hr h=>?_)
 ·cases h;subst_vars;rfl
 ·obtain⟨a,ns,rfl,hS,hp,q⟩:=h;refine qex ?_;refine⟨_,(YE ⟨(YK (i:=1) Yg.nd rfl (Or.inl rfl) (YZ (mq base) (hr.mono (by decide)) (by rfl) my mz mC .nil Yi (YA (YZ (aP base) (hr.mono (by decide)) (by rfl) aQ aR aU .nil Yi (YA (pv 0) (YA YC YB))) YB)))⟩
   (YE ⟨(YB7 (N:=["_law_sign"]) (ρ:=[none]) (cl:=[]) (i:=2) Yg.nd rfl rfl rfl (Yj.plain rfl (by decide +kernel) (by decide +kernel) rfl (by simp)) (Z7 K rfl (Zy (J9 K rfl) (YZ (dM base) (hr.mono (by decide)) (by rfl) dN dO dR .nil Yi (YA (YZ (aP base) (hr.mono (by decide)) (by rfl) aQ aR aU .nil Yi (YA (pv 0) (YA YC YB))) YB)) YAW (ZZ YC))) (λ_ _ _ _ _=>(YU (i:=0) YCP rfl (Or.inl rfl) (.inr rfl))) (λ_ _ _ _ _=>Zh) (λ_ _ _ _ _=>(YI JV ZH (pv 0))))⟩
   (YE ⟨(YK (i:=3) Yg.nd rfl (Or.inl rfl) (YZ (aP base) (hr.mono (by decide)) (by rfl) aQ aR aU .nil Yi (YA (pv 0) (YA YC YB))))⟩
   (YE ⟨(YK (i:=4) Yg.nd rfl (Or.inl rfl) (Zy (J9 K rfl) (pv 1) YAW (ZZ (YI Ye YC (YI Y2 (pv 3) YC)))))⟩
   (YE ⟨(YK (i:=5) Yg.nd rfl (Or.inl rfl) (YI YDa (YI YDa (YI YDa (YI YDa (pv 4) (Zy (J9 K rfl) (pv 2) YAW (ZZ YC))) (pv 4)) (pv 2)) (Zy (J9 K rfl) (pv 1) (ZZ YC) YAW)))⟩
   (YE (JW (i:=6) Yg.nd rfl (Or.inl rfl) (YDk YDj))
   (YE ⟨(Yq PassesOwn.never rfl (Y7 rfl T.aG (YA (YO (YL K rfl) (by rfl) T.ak YLq (YA (pv 4) YB)) YB)) (YU (i:=7) Yg.nd rfl (Or.inl rfl)) (YG (YK (i:=8) Yg.nd rfl (Or.inl rfl) (YZ (aP base) (hr.mono (by decide)) (by rfl) aQ aR aU .nil Yi (YA (pv 0) (YA (YI Ye YC (pv 7)) YB))))
   (YF (Yr (ZO K rfl YMC YML YMK Y0 (pv 6) (YA (Ze (YA (YM (YT K rfl) (pv 4) (pv 7) (λ_ _=>rfl)) (YA (YZ (jd base) (hr.mono (by decide)) (by rfl) je jf jg .nil Yi (YA (pv 8) (YA (pv 2) (YA YC YB)))) (YA (YZ (cD base) (hr.mono (by decide)) (by rfl) cF cG cH .nil Yi (YA (YZ (aV base) (hr.mono (by decide)) (by rfl) aW aX aY .nil Yi (YA (pv 0) (YA (YI Ye YC (pv 7)) YB))) YB)) YB)))) YB))))))⟩
   (YE ⟨(Yq PassesOwn.never rfl (Y7 rfl T.aG (YA (YI Ye YC (YI Y2 (YI ZB (pv 3) YC) YC)) YB)) (YU (i:=7) Yg.nd rfl (Or.inl rfl)) (YG (YK (i:=8) Yg.nd rfl (Or.inl rfl) (YZ (aP base) (hr.mono (by decide)) (by rfl) aQ aR aU .nil Yi (YA (pv 0) (YA (YI Ye YC (pv 7)) YB))))
   (YG (YK (i:=9) Yg.nd rfl (Or.inl rfl) (YM (YT K rfl) (pv 4) (YI Y2 (YI Y2 (pv 8) YC) (YO (YL K rfl) (by rfl) T.ak YLq (YA (pv 4) YB))) (λ_ _=>rfl)))
   (YG (YK (i:=10) Yg.nd rfl (Or.inl rfl) (YZ (jd base) (hr.mono (by decide)) (by rfl) je jf jg .nil Yi (YA (YI ZB (pv 8) YC) (YA (pv 5) (YA YC YB)))))
   (YG (Yx (YW Jd (YI Y2 (YI ZB (pv 8) YC) YC) YC (Yd _)) (YF (YK (i:=10) Yg.nd rfl (Or.inl rfl) (Ze (YA (YM (YT K rfl) (pv 4) (YI Y2 (YI ZB (pv 8) YC) (YO (YL K rfl) (by rfl) T.ak YLq (YA (pv 4) YB))) (λ_ _=>rfl)) YB)))) Yk)
   (YG (Yx (YW Jd (YI Y2 (YI ZB (pv 8) YC) YC) YC (Yd _)) (YG (YK (i:=9) Yg.nd rfl (Or.inl rfl) (YM (YS K rfl) (YM (YT K rfl) (pv 6) (YI Y2 (YI ZB (pv 8) YC) (YO (YL K rfl) (by rfl) T.ak YLq (YA (pv 6) YB))) (λ_ _=>rfl)) YC (λ_ _=>rfl)))
   (YF (YK (i:=10) Yg.nd rfl (Or.inl rfl) (YM (YS K rfl) (YM (YT K rfl) (pv 6) (YI Y2 (YI ZB (pv 8) YC) (YO (YL K rfl) (by rfl) T.ak YLq (YA (pv 6) YB))) (λ_ _=>rfl)) YC (λ_ _=>rfl))))) Yk)
   (YF (Yr (ZO K rfl YMC YML YMK Y0 (pv 6) (YA (Ze (YA (pv 9) (YA (pv 10) (YA (YZ (cD base) (hr.mono (by decide)) (by rfl) cF cG cH .nil Yi (YA (YZ (aV base) (hr.mono (by decide)) (by rfl) aW aX aY .nil Yi (YA (pv 0) (YA (YI Ye YC (pv 7)) YB))) YB)) YB)))) YB))))))))))⟩
   (YE ⟨(Yx (YW Jd (YI Y2 (YI ZB (pv 3) YC) YC) YC (Yd _)) (YF (Yr (YDK K rfl YMC PySem.F.slot_list_reverse PySem.F.type_list_reverse YH2 (pv 6)))) Yk)⟩
   (Y1 ⟨(Yc (pv 6))⟩)))))))))),?_⟩
  refine⟨_,Z,a,ns,0,Z,hS,by decide,by decide,λv0 a0 b0=>⟨_,Z,a0,by lia,hp,λln nm H1 n4 nN s1 p1 qM h1=>?_⟩⟩;refine⟨_,Z,a,ns,1,Z,s1.seq hS,by decide,by decide,λv1 _ _=>⟨_,Z,p1,λlg c1 c2 c3 c4 H2 g1 g2 g3 g4 s2 p2 En h2=>?_⟩⟩;refine⟨3,Z,lg,_,Z,SqL.of h2,λz9 zj=>?_⟩;have e3:YBX [V.str ⟨#[c1]⟩,.str ⟨#[c2]⟩,.str ⟨#[c3]⟩,.str ⟨#[c4]⟩] none (some 3)=[.str ⟨#[c1]⟩,.str ⟨#[c2]⟩,.str ⟨#[c3]⟩]:=rfl;rw[e3];have z_:=s2.trans (YN.upd (o:=.lst [.str ⟨#[c1]⟩,.str ⟨#[c2]⟩,.str ⟨#[c3]⟩]) zj);have yU:YR (upd H2 z9 (.lst [.str ⟨#[c1]⟩,.str ⟨#[c2]⟩,.str ⟨#[c3]⟩])):=p2.upd rfl;have h2':upd H2 z9 (.lst [.str ⟨#[c1]⟩,.str ⟨#[c2]⟩,.str ⟨#[c3]⟩]) z9=some (.lst [.str ⟨#[c1]⟩,.str ⟨#[c2]⟩,.str ⟨#[c3]⟩]):=YD;clear s2 p2 h2 En zj;revert z_ yU h2';generalize upd H2 z9 (.lst [.str ⟨#[c1]⟩,.str ⟨#[c2]⟩,.str ⟨#[c3]⟩])=H2;intro s2 p2 h2;refine⟨z9,Z,⟨_,SqL.of h2⟩,λls hls=>?_⟩;refine Zf (n:=3) 0 (λk y _=>∃z,y=.str z/\(Yo z=true/\isQ z=true)) (Xl (SqL.of (K:=K) h2)) (λ_ _ _ _ _ h=>h) p2 hls YM3 (YH (by decide)) (λτ'=>0 < τ'.length) YM3 (λτ' v h=>by rw[YNK];exact h) ?_ ?_
  ·intro τ' k y H' R _ hτ hit hk hs hp' lU hR;obtain⟨c,hc,rfl⟩:∃c:Nat,JR c=true/\y=.str ⟨#[c]⟩:=by
    have hm:=YLu hit;simp only[YMA,YMo,or_false]at hm;rcases hm with rfl |rfl |rfl
    ·exact⟨c1,g1,Z⟩
    ·exact⟨c2,g2,Z⟩
    ·exact⟨c3,g3,Z⟩
   exact⟨_,hτ,"'",_,Z,Z,YH (by show 1 + 1<=1000;decide),hR _ _ (YN.refl _) hp' ⟨_,Z,YJq hc,YLf c⟩⟩
  intro ys H3 hy hP s3 p3 h3;obtain⟨sg,rfl,Qa⟩:=YBl hP;have sg3:sg.length=3:=by rw[YLp]at hy;exact hy
  have Qc:=s2.trans s3;have R0:=Qc _ _ h1;have uI:=s1.trans Qc;refine⟨_,Z,a,ns,2,Z,uI.seq hS,by decide,by decide,λway wa wb=>?_⟩;obtain⟨hn',hhn,hn1,hn3⟩:∃n:Nat,1 + way % 3=(n:Int)/\1<=n/\n<=3:=⟨(1 + way % 3).toNat,by lia,by lia,by lia⟩;refine⟨_,Z,_,Z,_,_,Z,Z,(show(0:Int) < 3 by decide),_,_,Z,Z,_,Z,ln,_,Z,SqL.of R0,λlh Eo=>?_⟩;have eh:YBX (nm.map V.str) none (some (1 + way % 3))=(nm.take hn').map V.str:=by rw[hhn,YJ8 _ _ (by rw[YLp];lia),List.map_take]
  rw[eh];obtain⟨hs,ehs⟩:∃hs,nm.take hn'=hs:=⟨_,Z⟩;have hsl:hs.length=hn':=by rw[<-ehs,YMp];lia
  have QC:∀z∈hs,z∈nm:=λz hz=>by rw[<-ehs]at hz;exact List.mem_of_mem_take hz
  rw[ehs];have s4:=YN.upd (o:=.lst (hs.map V.str)) Eo;have h4:upd H3 lh (.lst (hs.map V.str)) lh=some (.lst (hs.map V.str)):=YD;have p4:YR (upd H3 lh (.lst (hs.map V.str))):=p3.upd rfl;revert s4 h4 p4;generalize upd H3 lh (.lst (hs.map V.str))=H4;intro s4 h4 p4;have hS4:=(uI.trans s4).seq hS;have Wk:=s4 _ _ R0;have wU:=s4 _ _ h3;refine⟨_,Z,_,Z,2,Z,ls,_,Z,SqL.of wU,λq1 hq1=>?_⟩;obtain⟨z1,ez1,hz1,lz1⟩:=YHf sg none (some 2);rw[ez1];have t1:=YN.upd (o:=.lst (z1.map V.str)) hq1;refine⟨lh,q1,_,_,Z,Z,t1 _ _ h4,YD,YH (by rw[YLp,YLp];lia),λq2 R1=>?_⟩;rw[<-YL2];have t2:=t1.trans (YN.upd (o:=.lst ((hs ++ z1).map V.str)) R1);refine⟨_,Z,q2,lh,_,_,Z,Z,YD,t2 _ _ h4,YH (by simp only[YLp,YLy];lia),λq3 R3=>?_⟩;rw[<-YL2];have t3:=t2.trans (YN.upd (o:=.lst ((hs ++ z1 ++ hs).map V.str)) R3);refine⟨_,Z,q3,ls,_,_,Z,Z,YD,t3 _ _ wU,YH (by simp only[YLp,YLy];lia),λq4 R4=>?_⟩;rw[<-YL2];have t4:=t3.trans (YN.upd (o:=.lst ((hs ++ z1 ++ hs ++ sg).map V.str)) R4);have w4:∀{Hx:Hp},upd Hx q4 (.lst ((hs ++ z1 ++ hs ++ sg).map V.str)) q4=some (.lst ((hs ++ z1 ++ hs ++ sg).map V.str)):=YD;refine⟨_,Z,3,Z,ln,_,Z,SqL.of (t4 _ _ Wk),λq5 R5=>?_⟩;obtain⟨z5,ez5,hz5,lz5⟩:=YHf nm (some 3) none;rw[ez5];have u5:=YN.upd (o:=.lst (z5.map V.str)) R5;have t5:=t4.trans u5;refine⟨q4,q5,_,_,Z,Z,u5 _ _ w4,YD,YH (by simp only[YLp,YLy];lia),λlm R6=>?_⟩;rw[<-YL2];obtain⟨menu,hmn⟩:∃M,hs ++ z1 ++ hs ++ sg ++ z5=M:=⟨_,Z⟩;have hm0:∀p∈menu,Yo p=true:=λp hp=>by
   rw[<-hmn]at hp;simp only[YMN]at hp;rcases hp with (((hp |hp) |hp) |hp) |hp
   ·exact YBW (nN p (QC p hp))
   ·exact(Qa p (hz1 p hp)).1
   ·exact YBW (nN p (QC p hp))
   ·exact(Qa p hp).1
   ·exact YBW (nN p (hz5 p hp))
  have R7:1<=menu.length/\menu.length<=100:=by
   rw[<-hmn];simp only[YLy]
   lia
  rw[hmn];have s5:=t5.trans (YN.upd (o:=.lst (menu.map V.str)) R6);have m5:∀{Hx:Hp},upd Hx lm (.lst (menu.map V.str)) lm=some (.lst (menu.map V.str)):=YD;obtain⟨H5,e5⟩:∃H5,upd (upd (upd (upd (upd (upd H4 q1 (.lst (z1.map V.str))) q2 (.lst ((hs ++ z1).map V.str))) q3 (.lst ((hs ++ z1 ++ hs).map V.str))) q4 (.lst ((hs ++ z1 ++ hs ++ sg).map V.str))) q5 (.lst (z5.map V.str))) lm (.lst (menu.map V.str))=H5:=⟨_,Z⟩;have p5:YR H5:=by rw[<-e5];exact(((((p4.upd rfl).upd rfl).upd rfl).upd rfl).upd rfl).upd rfl
  rw[e5]at s5;have hm5:H5 lm=some (.lst (menu.map V.str)):=by rw[<-e5];exact m5
  rw[e5];have hS5:=s5.seq hS4;have Wl:=s5 _ _ wU;have vg:=s5 _ _ h4;have sr:=(uI.trans s4).trans s5;clear t1 t2 t3 t4 u5 t5 m5 w4 e5 R6 R5 R4 R3 R1 hq1;refine⟨YMI _,λl hl=>?_⟩;have sl:=YN.upd (o:=.lst []) hl;have okR:∀(h:Str) (ps:List Str) (wz:Int),h∈hs->ps.length<=3->(∀p∈ps,Yo p=true)->0<=wz->wz<=10 ^ 60->R72 hs (h,ps,wz):=λh ps wz hh hl hp w0 w1=>⟨YJr (r:=(h,ps,wz)) (nN _ (QC _ hh)) (by show ps.length<=6;lia) hp w0 w1,hl,hh⟩
  have more:∀{g:Yl}{r:Yp},(∀r∈g,R72 hs r)->R72 hs r->∀r'∈g ++ [r],R72 hs r':=λh1 h2 r' hr'=>by
   rcases YMN.mp hr' with h |h
   ·exact h1 r' h
   ·rw[YL1.mp h];exact h2
  refine⟨_,Z,lh,_,Z,.inl (SqL.of (sl _ _ vg)),(hs.length:Int),by rw[YLp],(in62 (by lia) (by lia)).1,(in62 (by lia) (by lia)).2,?_⟩;refine ZI (lo:=0) (n:=((hs.length:Nat):Int).toNat) (LtI hs H5 a ln ls lh lm l way)
   ⟨[],[],none,none,Z,YD,.nil,Z,(λr hr=>nomatch hr),(λh hh=>nomatch hh),sl,p5.upd rfl⟩ ?_ ?_
  ·rintro i σ H6 hi ⟨g,xs,v7,v8,rfl,h6,hds,Qd,hgo,yf,s6,p6⟩;have sU:xs.length=i:=by rw[hds.len,YLp,Qd]
   have Ep:i < hs.length:=by lia
   refine⟨_,Z,_,Z,_,_,Z,Z,a,ns,_,Z,s6.seq hS5,by lia,by lia,λv a1 b1=>?_⟩;have hy1:atI (hs.map V.str) (0 + (i:Int))=some (.str hs[i]):=by rw[YMk];exact Yn (by rw[YLt,YLs Ep];rfl)
   refine⟨_,Z,.inl ⟨Z,_,SqL.of h6⟩,_,Z,_,Z,lh,_,_,_,Z,Z,SqL.of (s6 _ _ vg),hy1,?_⟩;refine⟨_,Z,_,Z,_,ls,sg,2,Z,s6 _ _ Wl,by lia,by lia,by decide,by decide,p6,λt ps H7 hps hpm s7 p7 vD ht=>?_⟩;refine⟨_,Z,_,Z,_,_,Z,Z,a,ns,_,Z,(s6.trans s7).seq hS5,by lia,λv2=>⟨_,Z,λwz w0 w1=>⟨YH (by show 3<=1000;decide),λtt du=>?_⟩⟩⟩;obtain⟨Er,Ha,eHa,ha,wV,sa,pa⟩:=YHg h6 hds s6 hl s7 p7 (hs[i],ps,wz) (λz=>by rw[z,h6]at vD;cases vD) ht du;refine⟨l,xs,_,Z,Z,Er,YL9 (show xs.length < 1000 by lia) (YH (YLr _)),?_⟩;dsimp only at eHa;rw[eHa];exact⟨g ++ [(hs[i],ps,wz)],xs ++ [.ref tt],_,_,Z,ha,wV,by rw[YLy,Qd];rfl,more hgo (okR _ _ _ (List.getElem_mem Ep) (by lia) (λp hp=>(Qa p (hpm p hp)).1) w0 w1),λh hh=>by
    rw[YMb,YLs Ep]at hh;rcases YMN.mp hh with hh |hh
    ·exact(yf h hh).more _
    ·have eh:h=hs[i]:=YL1.mp hh;exact⟨_,YMB _ (YL1.mpr rfl),eh.symm,λp hp=>(Qa p (hpm p hp)).2,by show ps.length<=2;lia⟩,sa,pa⟩
  ·rintro σ H6 ⟨g,xs,v7,v8,rfl,h6,hds,Qd,hgo,yf,s6,p6⟩;have yf:∀h∈hs,ShR g h:=λh hh=>yf h (by rw[YM6 (by lia)];exact hh)
   have Qd:g.length=hs.length:=by lia
   obtain⟨N,hN,N0,N1⟩:∃N:Int,1 + way / 3 % 3=N/\0<=N/\N<=3:=⟨_,Z,by lia,by lia⟩;refine⟨_,Z,_,_,Z,Z,⟨by decide,by decide⟩,_,_,Z,Z,(show(0:Int) < 3 by decide),_,_,Z,Z,N,by rw[<-hN],(in62 (by lia) (by lia)).1,(in62 (by lia) (by lia)).2,?_⟩;refine ZI (lo:=0) (n:=N.toNat) (LtJ hs H5 a ln ls lh lm l way)
    ⟨g,xs,_,_,_,_,Z,h6,hds,Qd,hgo,yf,s6,p6⟩ ?_ ?_
   ·rintro i σ H7 hi ⟨g',uJ,v7,v8,v9,gK,rfl,h7,wW,zm,zp,Es,s7,p7⟩;have sU:uJ.length=hs.length + i:=by rw[wW.len,YLp,zm]
    refine⟨_,Z,_,Z,_,_,Z,Z,a,ns,_,Z,s7.seq hS5,by lia,by lia,λv a1 b1=>?_⟩;obtain⟨y,hy1,hm1⟩:=Z8 (xs:=hs.map V.str) (i:=v % 3 % ((hs.map V.str).length:Nat)) (YMe _ (by rw[YLp];lia)) (YMg _ (by rw[YLp];lia));obtain⟨hd,hhd,rfl⟩:=YMD.mp hm1;have Qe:SqL K H7 lh (hs.map V.str):=SqL.of (s7 _ _ vg);refine⟨_,Z,_,Z,_,_,Z,Z,(show(0:Int) < 3 by decide),_,Z,lh,_,Z,.inl Qe,_,_,Z,Z,(by rw[YLp];show(0:Int) < _;lia),lh,_,_,_,Z,Z,Qe,hy1,?_⟩;refine⟨_,Z,_,_,Z,Z,⟨by decide,by decide⟩,_,Z,v / 3,lm,menu,3,Z,s7 _ _ hm5,R7.1,R7.2,by decide,by decide,p7,λt ps H8 hps hpm s8 p8 vD ht=>?_⟩
    with_reducible refine YLS (λσ' H'=>∃(ps':List Str) (t':Addr),σ'=[some (.ref a),some (.ref ln),some (.ref ls),some (.int way),some (.ref lh),some (.ref lm),some (.ref l),some (.int (0 + (i:Int))),some (.int v),some (.str hd),some (.ref t')]/\t'≠l/\H' t'=some (.tup (ps'.map V.str))/\ps'.length<=3/\(∀p∈ps',Yo p=true)/\YN H7 H'/\YR H') ?_ λrestK=>?_
    ·rintro σ' H' ⟨ps',t',rfl,nt,ht',hl',hp',s',p'⟩
     with_reducible refine seq_rS (λσ'' H''=>∃(hd':Str) (su:List Str) (QD:Addr),σ''=[some (.ref a),some (.ref ln),some (.ref ls),some (.int way),some (.ref lh),some (.ref lm),some (.ref l),some (.int (0 + (i:Int))),some (.int v),some (.str hd'),some (.ref QD)]/\hd'∈hs/\QD≠l/\H'' QD=some (.tup (su.map V.str))/\su.length<=3/\(∀p∈su,Yo p=true)/\YN H7 H''/\YR H'') ?_ λrestK2=>?_
     ·rintro σ'' H'' ⟨hd',su,QD,rfl,hh',nt',pL,hl2,lL,z_,yU⟩;refine⟨_,Z,.inl ⟨Z,_,SqL.of (z_ _ _ h7)⟩,_,Z,_,Z,_,Z,_,Z,_,_,Z,Z,a,ns,_,Z,(s7.trans z_).seq hS5,by lia,λv2=>⟨_,Z,λwz w0 w1=>⟨YH (by show 3<=1000;decide),λtt du=>?_⟩⟩⟩;obtain⟨Er,Ha,eHa,ha,wV,sa,pa⟩:=YHg h7 wW s7 hl z_ yU (hd',su,wz) nt' pL du;refine⟨l,uJ,_,Z,Z,Er,YL9 (show uJ.length < 1000 by lia) (YH (YLr _)),?_⟩;dsimp only at eHa;rw[eHa];exact⟨g' ++ [(hd',su,wz)],uJ ++ [.ref tt],_,_,_,_,Z,ha,wV,by rw[YLy,zm];rfl,more zp (okR _ _ _ hh' hl2 lL w0 w1),(λh hh=>(Es h hh).more _),sa,pa⟩
     ·refine⟨_,Z,_,_,Z,Z,⟨by decide,by decide⟩,_,_,Z,Z,(show(0:Int) < 4 by decide),Z,_,Z,?_⟩;refine JP (λhb=>?_) λhb=>?_
      ·obtain⟨x2,hx2,hm2⟩:=Z8 (xs:=uJ) (i:=v / 160000 % (uJ.length:Nat)) (YMe _ (by lia)) (YMg _ (by lia));obtain⟨k2,hk2⟩:=List.getElem?_of_mem hm2;obtain⟨ρ,t2,yU,er,rfl,pL,tX⟩:=J5 wW hk2;have pL:=s' _ _ (ZD _ _ _ _ pL);have np2:yU≠l:=λz=>by rw[z,YDe]at tX;cases tX
       have tX:=s' _ _ (ZD _ _ _ _ tX);have hR:=zp ρ (YLu er);have QF:SqL K H' l uJ:=SqL.of (s' _ _ h7);refine⟨_,Z,_,Z,_,_,Z,Z,⟨by decide,by decide⟩,_,Z,l,_,Z,.inl QF,_,_,Z,Z,(show(0:Int) < _ by lia),l,_,_,_,Z,Z,QF,hx2,t2,_,0,_,Z,Z,SqT.of pL,Z,?_⟩;refine⟨_,Z,_,Z,_,_,Z,Z,⟨by decide,by decide⟩,_,Z,l,_,Z,.inl QF,_,_,Z,Z,(show(0:Int) < _ by lia),l,_,_,_,Z,Z,QF,hx2,t2,_,1,_,Z,Z,SqT.of pL,Z,?_⟩;exact restK2 _ _ ⟨ρ.1,ρ.2.1,yU,Z,hR.2.2,np2,tX,hR.2.1,(YJ7 hR.1),s',p'⟩
      ·exact restK2 _ _ ⟨hd,ps',t',Z,hhd,nt,ht',hl',hp',s',p'⟩
    ·refine⟨_,Z,_,_,Z,Z,⟨by decide,by decide⟩,_,_,Z,Z,(show(0:Int) < 4 by decide),Z,_,Z,?_⟩;refine JP (λhb=>?_) λhb=>?_
     ·obtain⟨x2,hx2,hm2⟩:=Z8 (xs:=hs.map V.str) (i:=v / 160000 % ((hs.map V.str).length:Nat)) (YMe _ (by rw[YLp];lia)) (YMg _ (by rw[YLp];lia));obtain⟨h2',Wm,rfl⟩:=YMD.mp hm2;have Qf:SqL K H8 lh (hs.map V.str):=SqL.of (s8 _ _ (s7 _ _ vg));refine⟨_,Z,_,Z,_,_,Z,Z,⟨by decide,by decide⟩,_,Z,lh,_,Z,.inl Qf,_,_,Z,Z,(by rw[YLp];show(0:Int) < _;lia),lh,_,_,_,Z,Z,Qf,hx2,YH (by show 1<=1000;decide),λtt du=>?_⟩;exact restK _ _ ⟨[h2'],tt,Z,(λz=>by rw[z,s8 _ _ h7]at du;cases du),YD,(by show 1<=3;decide),(λp hp=>by rw[YL1.mp hp];exact YBW (nN _ (QC _ Wm))),s8.trans (YN.upd du),p8.upd rfl⟩
     ·exact restK _ _ ⟨ps,t,Z,(λz=>by rw[z,h7]at vD;cases vD),ht,(by lia),(λp hp=>hm0 p (hpm p hp)),s8,p8⟩
   ·rintro σ H7 ⟨g0,Et,v7,v8,v9,gK,rfl,Eu,zq,VP,zr,zu,R8,R9⟩;have hl0:H l=none:=by
     cases e:H l with
     |none=>rfl
     |some o=>rw[sr _ _ e]at hl;cases hl
    refine⟨_,Z,_,_,Z,Z,⟨by decide,by decide⟩,_,_,Z,Z,(show(0:Int) < 2 by decide),Z,_,Z,?_⟩;refine JP (λhb=>?_) λhb=>?_
    ·refine⟨_,Z,.inl ⟨Z,_,SqL.of Eu⟩,l,Et,Z,Z,Eu,?_⟩;refine⟨_,Z,q l Et.reverse g0.reverse hs _ (by rw[YMU];lia) (by rw[YMU];lia) (by lia) (λr hr=>zr r (YNd.mp hr)) (λh hh=>by obtain⟨r,a,b⟩:=zu h hh;exact⟨r,YNd.mpr a,b⟩) ((sr.trans R8).put hl0) (R9.upd rfl) hl0 YD ?_⟩;rw[XT,YNe];exact YFZ zq
    ·exact⟨_,Z,q l Et g0 hs _ (by lia) (by lia) (by lia) zr zu (sr.trans R8) R9 hl0 Eu zq⟩
end
abbrev YAh:Stmt:=top 51
abbrev YAF:Stmt:=top 52
abbrev X6:Stmt:=top 53
abbrev YBK:Stmt:=top 54
abbrev YAi:Stmt:=top 55
abbrev YBL:Stmt:=top 56
abbrev Jt:Stmt:=top 57
theorem YCQ:(["_law_part"]:List Str).Nodup:=by decide +kernel
theorem Jc:(["_law_part","_law_shorts_here"]:List Str).Nodup:=by decide +kernel
def InK (e:Sz) (r:Yp):Prop:=∀p∈r.2.1,isQ p=false->p∈e.map (·.1)
theorem YCr {s:Sz}{z:Str} (h:z∈s.map (·.1)):∃v,look s z=some v:=by
 cases e:look s z with
 |some v=>exact⟨v,Z⟩
 |none=>exact absurd h (YCd e)
def YEH (g:Yl) (e:Sz) (z:Str) (k:Nat):Bool:=match g[k]? with
 |none=>false
 |some r=>decide (r.1=z) && r.2.1.all λp=>isQ p || (look e p).isSome
def YBM (g:Yl) (e:Sz) (z:Str) (n:Nat):List Nat:=(List.range n).filter (YEH g e z)
theorem YFa {g:Yl}{e:Sz}{z:Str}{n k:Nat} (h:k∈YBM g e z n):∃r,g[k]?=some r/\r.1=z/\InK e r:=by
 obtain⟨_,hb⟩:=YNj.mp h;unfold YEH at hb;cases hr:g[k]? with
 |none=>rw[hr]at hb;cases hb
 |some r=>
  rw[hr]at hb;have hb:(decide (r.1=z) && r.2.1.all λp=>isQ p || (look e p).isSome)=true:=hb;rw[YL5,YMa]at hb;refine⟨r,Z,hb.1,λp hp hq=>?_⟩;have:=YMR.mp hb.2 p hp;rw[hq,YNF]at this;obtain⟨v,hv⟩:=YMT.mp this;exact YMD.mpr ⟨_,XC hv,Z⟩
theorem YLg {g:Yl}{e:Sz}{z:Str}{k:Nat}{r:Yp} (hr:g[k]?=some r) (hz:r.1=z) (hin:InK e r):k∈YBM g e z g.length:=by
 have hlt:=(YLv.mp hr).1;refine YNj.mpr ⟨YMy.mpr hlt,?_⟩;unfold YEH;rw[hr];show(decide (r.1=z) && r.2.1.all λp=>isQ p || (look e p).isSome)=true;rw[YLw hz,Bool.true_and,YMR];intro p hp;cases hq:isQ p with
 |true=>rfl
 |false=>
  obtain⟨v,hv⟩:=YCr (hin p hp hq);rw[hv];rfl
theorem YDR (bs:List Str):eqD (.lst (bs.map D.str)) (.lst [])=decide (bs=[]):=by
 cases bs with
 |nil=>rfl
 |cons b bs=>rfl
theorem YHh {s:Sz}{z:Str}{n:Int} (h:¬z∈s.map (·.1)):Xz s z n=s ++ [(z,n)]:=by
 induction s with
 |nil=>rfl
 |cons p s ih=>
  rw[YMQ,YMA,not_or]at h;unfold Xz;rw[if_neg (λe=>h.1 e.symm),ih h.2];rfl
structure ShOk (g:Yl) (e:Sz):Prop where
 nd:(e.map (·.1)).Nodup
 at_:∀z v,look e z=some v->∃(k:Nat) (r:Yp),v=(k:Int)/\g[k]?=some r/\r.1=z/\(∀p∈r.2.1,isQ p=true)/\r.2.1.length<=2
inductive YFb (vs:List V) (H:Hp) (Q:VK):Prop where
 |mk (l:Addr) (xs:List V) (g:Yl) (a_:vs=[.ref l]) (bc:H l=some (.lst xs)) (bJ:Yh H xs (g.map ZR)) (cA:Yu g=true) (dm:YR H) (gM:∀d e H',ShOk g e->(∀r∈g,(∀p∈r.2.1,isQ p=true)->r.2.1.length<=2->r.1∈e.map (·.1))->YN H H'->YR H'->H d=none->H' d=some (.dK (szD e))->Q (.ref d) H'):YFb vs H Q
def YHi:Sp:=λvs H Q E_=>YFb vs H Q
inductive YJN (vs:List V) (H:Hp) (Q:VK):Prop where
 |mk (l d:Addr) (xs:List V) (g:Yl) (e:Sz) (z:Str) (a_:vs=[.ref l,.ref d,.str z]) (bc:H l=some (.lst xs)) (bJ:Yh H xs (g.map ZR)) (cA:Yu g=true) (dm:H d=some (.dK (szD e))) (gM:YR H) (lq:∀o H',YN H H'->YR H'->H o=none->H' o=some (.lst ((YBM g e z g.length).map nV))->Q (.ref o) H'):YJN vs H Q
def YLh:Sp:=λvs H Q E_=>YJN vs H Q
def YCs (e:Sz) (ps:List Str):List Str:=ps.filter λx=>!isQ x && (look e x).isNone
theorem YHj {K:W.Frag}{H:Hp}{p d lb:Addr}{ps:List Str}{e:Sz}{v:Option V}{Q:VK} (lL:H p=some (.tup (ps.map V.str))) (hps:∀x∈ps,Yo x=true) (h6:ps.length<=6) (hd:H d=some (.dK (szD e))) (pl:YR H) (hlb:H lb=none)
  (hq:∀H',YN H H'->YR H'->H' lb=some (.lst ((YCs e ps).map V.str))->Q (.ref lb) H'):
  YAw (Itt K p) (ZK 0) (tAnd (tTest (tOp rNe (tOp rIxS (YGK 0) (tC (.int 0))) (tC (.str "'")))) (tB (YIi (YGK 0) (YGK 1)))) (YGK 0) Q lb [v,some (.ref d)] H:=by
 have hJ:=(YBO (SqT.of (K:=K) lL)).g;rw[YLp]at hJ;refine YB8 ps (λx=>if isQ x=true then none else if (look e x).isSome=true then none else some (.str x)) hJ pl hlb (YH (YMP h6 (by decide))) (λτ'=>∃v,τ'=[v,some (.ref d)]) ⟨_,Z⟩ ?_ ?_
 ·rintro τ' k x y H' Q1 Q2 ⟨v,rfl⟩ hx hit hs hp' hQ1 hQ2;rw[YLt,hx]at hit;cases hit;obtain⟨c,hc,hlen,qC⟩:=YAa (hps x (YLu hx));refine⟨_,Z,x,0,c,Z,Z,YH (by lia),hc,Z,_,Z,?_⟩;rw[qC]
  by_cases hq:isQ x=true
  ·rw[hq];exact hQ2 _ _ ⟨_,Z⟩ (YN.refl _) hp' (by rw[if_pos hq])
  ·have hq':isQ x=false:=YNY.mpr hq;rw[hq'];have ev:(Zo (szD e) (Sum.inr x)).isSome=(look e x).isSome:=by rw[Z9,YNH]
   refine⟨_,Z,_,Z,d,_,Z,Jf.k (k:=Sum.inr x) (hs _ _ hd),_,Z,?_⟩;rw[ev];cases hlk:look e x with
   |some v=>exact hQ2 _ _ ⟨_,Z⟩ (YN.refl _) hp' (by rw[if_neg hq,hlk];rfl)
   |none=>exact⟨_,Z,hQ1 _ _ _ ⟨_,Z⟩ (YN.refl _) hp' (by rw[if_neg hq,hlk];rfl)⟩
 ·intro H3 s3 p3 h3;refine hq H3 s3 p3 ?_;rw[h3];unfold YCs;rw[<-YNk,List.filterMap_filter];refine YMw (λf=>some (HO.lst (List.filterMap f ps))) (funext λx=>?_);cases isQ x <;> cases look e x <;> rfl
theorem YJ9 {g:Yl}{e:Sz}{z:Str}{i:Nat}{r:Yp} (hr:g[i]?=some r):YEH g e z i=(decide (r.1=z) && decide (YCs e r.2.1=[])):=by
 unfold YEH;rw[hr];show(decide (r.1=z) && _)=_;congr 1;rw[YNC,YMa,YMR];unfold YCs;rw[List.filter_eq_nil_iff];constructor
 ·intro h p hp;have:=h p hp;cases hq:isQ p <;> cases hl:look e p <;> simp[hq,hl]at this ⊢
 ·intro h p hp;have:=h p hp;cases hq:isQ p <;> cases hl:look e p <;> simp[hq,hl]at this ⊢
theorem YBy (g:Yl) (e:Sz) (z:Str) (i:Nat):YBM g e z (i + 1)=YBM g e z i ++ (if YEH g e z i=true then [i] else []):=by
 unfold YBM;rw[List.range_succ,List.filter_append];congr 1
 by_cases hb:YEH g e z i=true
 ·rw[if_pos hb,YND,if_pos hb];rfl
 ·rw[if_neg hb,YND,if_neg hb];rfl
theorem YLi {g:Yl}{ks sg:List Nat} (h:Jz g [] ks sg):ks=[]/\sg=[]:=by
 cases h;exact⟨Z,Z⟩
theorem YKA {g:Yl}{p:Str}{ws:List Str}{ks sg:List Nat} (hq:isQ p=true) (h:Jz g (p :: ws) ks sg):∃pM,sg=sgn p :: pM/\Jz g ws ks pM:=by
 generalize hz:p :: ws=zs at h;cases h with
 |nil=>cases hz
 |sign hq' h=>cases hz;exact⟨_,Z,h⟩
 |name hq' er h=>cases hz;rw[hq]at hq';cases hq'
theorem YKB {g:Yl}{p:Str}{ws:List Str}{ks sg:List Nat} (hq:isQ p=false) (h:Jz g (p :: ws) ks sg):∃k ks' r,ks=k :: ks'/\g[k]?=some r/\r.1=p/\Jz g (r.2.1 ++ ws) ks' sg:=by
 generalize hz:p :: ws=zs at h;cases h with
 |nil=>cases hz
 |sign hq' h=>cases hz;rw[hq]at hq';cases hq'
 |@name r R_ k ks' sg hq' er h=>cases hz;exact⟨k,ks',r,Z,er,Z,h⟩
theorem YLj (s:List Nat) (c:Nat):(⟨s.toArray⟩:Str) ++ ⟨#[c]⟩=⟨(s ++ [c]).toArray⟩:=by
 have h:=YAL ⟨s.toArray⟩ ⟨#[c]⟩;cases hj:(⟨s.toArray⟩:Str) ++ ⟨#[c]⟩;congr 1;apply Array.toList_inj.mp;rw[hj]at h;rw[h]
theorem YEI (a b:List Str):unQ (a ++ b)=unQ a ++ unQ b:=by
 unfold unQ;rw[List.filter_append]
theorem YEJ {p:Str} (h:isQ p=false):(unQ [p]).length=1:=by
 unfold unQ;rw[YND,h];rfl
theorem unQ_rev (a:List Str):(unQ a.reverse).length=(unQ a).length:=by
 unfold unQ;rw[List.filter_reverse,YMU]
theorem YEK {H:Hp}{d:Addr}{s:Sz}{z:Str}{v:Int} (hd:H d=some (.dK (szD s))) (h:look s z=some v):Jf H d (.str z) (some (.int v)):=by
 have:=Jf.k (k:=Sum.inr z) hd;rw[Z9,h]at this;exact this
def nd1 (g:Yl) (e:Sz) (p:Str):Nat:=match look e p with
 |some v=>match g[v.toNat]? with
  |some r=>r.2.1.length
  |none=>0
 |none=>1
def ZX (g:Yl) (e:Sz) (ps:List Str):Nat:=(ps.map (nd1 g e)).sum
inductive YFc (vs:List V) (H:Hp) (Q:VK):Prop where
 |mk (l d p:Addr) (xs:List V) (g:Yl) (e:Sz) (ps:List Str) (a_:vs=[.ref l,.ref d,.ref p]) (bc:H l=some (.lst xs)) (bJ:Yh H xs (g.map ZR)) (cA:H d=some (.dK (szD e))) (dm:ShOk g e) (gM:(H p=some (.lst (ps.map V.str))\/H p=some (.tup (ps.map V.str)))) (lq:Q (.int (ZX g e ps:Nat)) H):YFc vs H Q
def YHk:Sp:=λvs H Q E_=>YFc vs H Q
theorem YAS (g:Yl) (e:Sz) (a b:List Str):ZX g e (a ++ b)=ZX g e a + ZX g e b:=by
 unfold ZX;rw[YL2,List.sum_append]
theorem YKC (g:Yl) (e:Sz) (a:List Str):ZX g e a.reverse=ZX g e a:=by
 unfold ZX;rw[YNe,List.sum_reverse]
section
variable {P:Program}{w:World}{K:W.Frag}{mg:Str->Option Value}{base:Heap}{C:Adr}
theorem Ju:YX ["_law_grammar_here","_law_shorts_here","_law_k","_law_names_here"] ["_law_grammar_here"] (YQ YAF):=⟨Z,Z,Z,by decide +kernel,Z,by decide +kernel,by decide +kernel⟩
theorem YEL {f:Addr}{fd:FuncData} (F:Fun K "_law_shorts" "_law_shorts" YAF f fd) (T:Txt K mg C):Yt P w K mg base CX0 1 f fd ["_law_grammar_here"] (YHi):=by
 refine F.ok Ju (λvs H Q E h=>?_) (λaO A outer s H vs Q E hr h=>?_)
 ·cases h;subst_vars;rfl
 ·obtain⟨l,xs,g,rfl,hl,hds,hg,hp,q⟩:=h;have hu:=Zq hr;have hU:=hr.units;refine qex ?_;refine⟨_,(YE ⟨(YK (i:=1) Ju.nd rfl (Or.inl rfl) YB3)⟩
   (YE ⟨(Yq PassesOwn.never rfl (Y7 rfl T.aG (YA (YO (YL K rfl) (by rfl) T.ak YLq (YA (pv 0) YB)) YB)) (YU (i:=2) Ju.nd rfl (Or.inl rfl)) (YG (YB7 (N:=["_law_part"]) (ρ:=[none]) (cl:=[]) (i:=3) Ju.nd rfl rfl rfl (Yj.plain rfl (by decide +kernel) (by decide +kernel) rfl (by simp)) (X2 K rfl (YM (YS K rfl) (YM (YT K rfl) (pv 0) (pv 2) (λ_ _=>rfl)) YC (λ_ _=>rfl))) (λ_ _ _ _ _=>(YU (i:=0) YCQ rfl (Or.inl rfl) (.inr rfl))) (λ_ _ _ _ _=>(YFn (YW YCt (YM Zt (pv 0) YC (λ_ _=>rfl)) ZH (Yd _)))) (λ_ _ _ _ _=>(pv 0)))
   (YF (Yx (PW.pt (X7 (YW (YAY K rfl hU) (pv 3) (Zr YB) (Yd _)) (X7 (YW Xh (YO (YL K rfl) (by rfl) T.ak YLq (YA (YM (YS K rfl) (YM (YT K rfl) (pv 0) (pv 2) (λ_ _=>rfl)) YC (λ_ _=>rfl)) YB)) YC (Yd _)) (XQ (YAq (Xb hu (YM (YS K rfl) (YM (YT K rfl) (pv 0) (pv 2) (λ_ _=>rfl)) YC (λ_ _=>rfl)) (pv 1))))))) (YF (YAX hu (pv 1) (YM (YS K rfl) (YM (YT K rfl) (pv 0) (pv 2) (λ_ _=>rfl)) YC (λ_ _=>rfl)) (pv 2) rfl)) Yk))))⟩
   (Y1 ⟨(Yc (pv 1))⟩))),?_⟩
  have lR:=XX hg;have sU:xs.length=g.length:=by rw[hds.len,YLp]
  intro d hd;have s1:=YN.upd (o:=.dK []) hd;refine⟨_,Z,l,_,Z,.inl (SqL.of (s1 _ _ hl)),(xs.length:Int),Z,(in62 (by lia) (by lia)).1,(in62 (by lia) (by lia)).2,?_⟩;refine ZI (lo:=0) (n:=((xs.length:Nat):Int).toNat) (λk σ H4=>∃(e:Sz) (v2 v3:Option V),σ=[some (.ref l),some (.ref d),v2,v3]/\H4 d=some (.dK (szD e))/\ShOk g e/\e.length<=k/\(∀j,j < k->∀r,g[j]?=some r->(∀p∈r.2.1,isQ p=true)->r.2.1.length<=2->r.1∈e.map (·.1))/\YN H H4/\YR H4)
   ⟨[],none,none,Z,YD,⟨List.nodup_nil,λz v e=>by cases e⟩,YMI _,λj hj=>absurd hj (YNT _),s1,hp.upd rfl⟩ ?_ ?_
  ·rintro k σ H4 hk ⟨e,v2,v3,rfl,ul,he,hel,hrs,s4,p4⟩;have hkl:k < g.length:=by lia
   obtain⟨r,er⟩:∃r,g[k]?=some r:=⟨_,YLs hkl⟩;obtain⟨t,pp,ax,ht,hpp⟩:=Jj (hds.same s4) er;have ax:atI xs (0 + (k:Int))=some (.ref t):=by rw[YMk];exact ax
   have hok:=Jy (Ji hg er);refine⟨_,Z,_,Z,l,_,_,_,Z,Z,SqL.of (s4 _ _ hl),ax,t,_,1,_,Z,Z,SqT.of ht,Z,pp,Z,⟨_,SqT.of hpp⟩,λlb hlb=>?_⟩;have hJ:=(YBO (SqT.of (K:=K) hpp)).g;rw[YLp]at hJ;refine YB8 r.2.1 (λx=>if isQ x=true then none else some (.str x)) hJ p4 hlb (YH (by lia)) (λτ'=>∃v,τ'=[v]) ⟨_,Z⟩ ?_ ?_
   ·rintro τ' k x y H' Q1 Q2 ⟨v,rfl⟩ hx hit hs hp' hQ1 hQ2;rw[YLt,hx]at hit;cases hit;obtain⟨c,hc,hlen,qC⟩:=YAa (hok.2 x (YLu hx));refine⟨_,Z,x,0,c,Z,Z,YH (by lia),hc,Z,_,Z,?_⟩;rw[qC]
    by_cases hq:isQ x=true
    ·rw[hq];exact hQ2 _ _ ⟨_,Z⟩ (YN.refl _) hp' (by rw[if_pos hq])
    ·rw[YNY.mpr hq];exact⟨_,Z,hQ1 _ _ _ ⟨_,Z⟩ (YN.refl _) hp' (by rw[if_neg hq])⟩
   intro H5 s5 p5 h5;have eu:r.2.1.filterMap (λx=>if isQ x=true then none else some (V.str x))=(unQ r.2.1).map V.str:=by
    unfold unQ;rw[<-YNk,List.filterMap_filter];refine YMw (λf=>List.filterMap f r.2.1) (funext λx=>?_);cases isQ x <;> rfl
   rw[eu]at h5;refine⟨_,Z,YMI _,λle hle=>?_⟩;have s6:=YN.upd (o:=.lst []) hle;refine⟨_,_,.lst (.inl (s6 _ _ h5)) (Yh.strs _),.lst (.inl YD) .nil,YDM _,Z,YCB _,_,Z,?_⟩;rw[YDR];have mW:=s5.trans s6;have p6:YR (upd H5 le (.lst [])):=p5.upd rfl;revert mW p6;generalize upd H5 le (.lst [])=H6;intro mW p6;have uK:=s4.trans mW;have sql:SqL K H6 l xs:=SqL.of (uK _ _ hl);have sqt:=SqT.of (K:=K) (mW _ _ ht);have skip:((∀p∈r.2.1,isQ p=true)->r.2.1.length<=2->r.1∈e.map (·.1))->∀j,j < k + 1->∀r,g[j]?=some r->(∀p∈r.2.1,isQ p=true)->r.2.1.length<=2->r.1∈e.map (·.1):=λh j hj r' uE a b=>by
    by_cases Ew:j=k
    ·subst Ew;rw[er]at uE;cases uE;exact h a b
    ·exact hrs j (by lia) r' uE a b
   by_cases hb:unQ r.2.1=[]
   case neg=>
    rw[YLz hb];refine ZA ⟨e,_,_,Z,mW _ _ ul,he,by lia,skip λa _=>absurd ?_ hb,uK,p6⟩;unfold unQ;rw[List.filter_eq_nil_iff];intro p hp;rw[a p hp];decide
   rw[YLw hb];have hall:∀p∈r.2.1,isQ p=true:=λp hp=>by
    unfold unQ at hb;rw[List.filter_eq_nil_iff]at hb;have:=hb p hp;cases hq:isQ p with
    |true=>rfl
    |false=>rw[hq]at this;exact absurd rfl this
   refine ZG ⟨_,Z,_,Z,l,_,_,_,Z,Z,sql,ax,t,_,1,_,Z,Z,sqt,Z,pp,_,Z,.inr (SqT.of (mW _ _ hpp)),_,_,Z,Z,_,Z,?_⟩;rw[YLp]
   by_cases h3:r.2.1.length < 3
   case neg=>
    rw[YLz (by lia)];exact ZA ⟨e,_,_,Z,mW _ _ ul,he,by lia,skip λ_ b=>by lia,uK,p6⟩
   rw[YLw (by lia)];refine ZG ⟨_,Z,_,Z,l,_,_,_,Z,Z,sql,ax,t,_,0,_,Z,Z,sqt,Z,_,Z,d,_,Z,Jf.k (k:=Sum.inr r.1) (mW _ _ ul),_,Z,?_⟩;rw[Z9,YNH];cases hlk:look e r.1 with
   |some v=>exact⟨e,_,_,Z,mW _ _ ul,he,by lia,skip λ_ _=>YMD.mpr ⟨_,XC hlk,Z⟩,uK,p6⟩
   |none=>
    have hnew:=YCd hlk;have len:(szD e).length < sizeLine:=by
     unfold szD;rw[YLp];exact YL9 (show _ < 1000 by lia) (YH (YLr _))
    have put:YBh H6 d (.str r.1) (.int (0 + (k:Int))) (upd H6 d (.dK (szD (e ++ [(r.1,(k:Int))])))):=by
     have:=YBh.k (k:=Sum.inr r.1) (v:=.int (0 + (k:Int))) (mW _ _ ul) len;rw[YIt he.nd,YHh hnew,YMk]at this;rw[YMk];exact this
    have elk:∀z v,look (e ++ [(r.1,(k:Int))]) z=some v->look e z=some v\/(z=r.1/\v=(k:Int)):=λz v h=>by
     have:=Xo e r.1 z (k:Int);rw[YHh hnew,h]at this;split at this
     ·rename_i hz
      cases this;exact .inr ⟨hz,Z⟩
     ·exact .inl this.symm
    refine⟨_,Z,_,Z,_,Z,_,Z,l,_,_,_,Z,Z,sql,ax,t,_,0,_,Z,Z,sqt,Z,d,_,Z,put,e ++ [(r.1,(k:Int))],_,_,Z,YD,⟨?_,λz v h=>?_⟩,by rw[YLy];exact Nat.succ_le_succ hel,λj hj r' uE a b=>?_,uK.put hd,p6.upd rfl⟩
    ·rw[YL2];exact YBP he.nd hnew
    ·rcases elk z v h with h |⟨rfl,rfl⟩
     ·exact he.at_ z v h
     ·exact⟨k,r,Z,er,Z,hall,by lia⟩
    ·rw[YL2]
     by_cases Ew:j=k
     ·subst Ew;rw[er]at uE;cases uE;exact YMB _ (YL1.mpr rfl)
     ·exact YMc _ (hrs j (by lia) r' uE a b)
  ·rintro σ H4 ⟨e,v2,v3,rfl,ul,he,hel,hrs,s4,p4⟩;refine⟨_,Z,q d e H4 he (λr hr' a b=>?_) s4 p4 hd ul⟩;obtain⟨j,hj,e1⟩:=YNE.mp hr';exact hrs j (by lia) r (by rw[YLs hj,e1]) a b
theorem XZ:YX ["_law_grammar_here","_law_shorts_here","_law_name","_law_some","_law_k","_law_barren"] ["_law_grammar_here","_law_shorts_here","_law_name"] (YQ X6):=⟨Z,Z,Z,by decide +kernel,Z,by decide +kernel,by decide +kernel⟩
theorem YGD {f:Addr}{fd:FuncData} (F:Fun K "_law_open" "_law_open" X6 f fd) (T:Txt K mg C):Yt P w K mg base CX0 1 f fd ["_law_grammar_here","_law_shorts_here","_law_name"] (YLh):=by
 refine F.ok XZ (λvs H Q E h=>?_) (λaO A outer s H vs Q E hr h=>?_)
 ·cases h;subst_vars;rfl
 ·obtain⟨l,d,xs,g,e,z,rfl,hl,hds,hg,hd,hp,q⟩:=h;have hu:=Zq hr;have hU:=hr.units;refine qex ?_;refine⟨_,(YE (JW (i:=3) XZ.nd rfl (Or.inl rfl) (YDk YDj))
   (YE ⟨(Yq PassesOwn.never rfl (Y7 rfl T.aG (YA (YO (YL K rfl) (by rfl) T.ak YLq (YA (pv 0) YB)) YB)) (YU (i:=4) XZ.nd rfl (Or.inl rfl)) (YG (YB7 (N:=["_law_part","_law_shorts_here"]) (ρ:=[none,some 1]) (i:=5) XZ.nd rfl rfl rfl (Yj.closes ["_law_grammar_here","_law_shorts_here","_law_name","_law_some","_law_k","_law_barren"] (YQ X6).names rfl rfl rfl rfl (by decide +kernel) (by decide +kernel) (λx h=>Jg h) (by decide +kernel) rfl (by decide +kernel)) (X2 K rfl (YM (YS K rfl) (YM (YT K rfl) (pv 0) (pv 4) (λ_ _=>rfl)) YC (λ_ _=>rfl))) (λ_ _ _ _ _=>(YU (i:=0) Jc rfl (Or.inl rfl) (.inr rfl))) (λ_ _ _ _ _=>(YFn (PW.pt (X7 (YW YCt (YM Zt (pv 0) YC (λ_ _=>rfl)) ZH (Yd _)) (XQ (YAq (Xb hu (pv 0) (pv 1)))))))) (λ_ _ _ _ _=>(pv 0)))
   (YF (Yx (PW.pt (X7 (YW Jd (YM (YS K rfl) (YM (YT K rfl) (pv 0) (pv 4) (λ_ _=>rfl)) YC (λ_ _=>rfl)) (pv 2) (Yd _)) (XQ (YW (YAY K rfl hU) (pv 5) (Zr YB) (Yd _))))) (YF (Yr (ZO K rfl YMC YML YMK Y0 (pv 3) (YA (pv 4) YB)))) Yk))))⟩
   (Y1 ⟨(Yc (pv 3))⟩))),?_⟩
  have lR:=XX hg;have sU:xs.length=g.length:=by rw[hds.len,YLp]
  refine⟨YMI _,λlo hlo=>?_⟩;have s1:=YN.upd (o:=.lst []) hlo;refine⟨_,Z,l,_,Z,.inl (SqL.of (s1 _ _ hl)),(xs.length:Int),Z,(in62 (by lia) (by lia)).1,(in62 (by lia) (by lia)).2,?_⟩;refine ZI (lo:=0) (n:=((xs.length:Nat):Int).toNat) (λk σ H4=>∃(v4 v5:Option V),σ=[some (.ref l),some (.ref d),some (.str z),some (.ref lo),v4,v5]/\H4 lo=some (.lst ((YBM g e z k).map nV))/\YN H H4/\YR H4)
   ⟨none,none,Z,YD,s1,hp.upd rfl⟩ ?_ ?_
  ·rintro k σ H4 hk ⟨v4,v5,rfl,h4,s4,p4⟩;have hkl:k < xs.length:=by lia
   have hi:xs[k]?=some xs[k]:=YLs hkl;obtain⟨r,tt,p,er,ey,vW,hpp⟩:=J5 hds hi;have ax:atI xs (0 + (k:Int))=some (.ref tt):=by rw[YMk,<-ey];exact Yn hi
   have hok:=Ji hg er;have ym:=s4 _ _ vW;have Aa:=s4 _ _ hpp;have oi:=YJ9 (e:=e) (z:=z) er;refine⟨_,Z,_,Z,l,_,_,_,Z,Z,SqL.of (s4 _ _ hl),ax,tt,_,1,_,Z,Z,SqT.of ym,Z,p,Z,⟨_,SqT.of Aa⟩,λlb hlb=>?_⟩;refine YHj Aa (Jy hok).2 (Jy hok).1 (s4 _ _ hd) p4 hlb λH5 s5 p5 h5=>?_
   refine⟨_,Z,_,Z,l,_,_,_,Z,Z,SqL.of ((s4.trans s5) _ _ hl),ax,tt,_,0,_,Z,Z,SqT.of (s5 _ _ ym),Z,_,Z,Z,_,Z,?_⟩;rw[decS]
   by_cases hz:¬r.1=z
   ·rw[YLz hz];rw[YLz hz,Bool.false_and]at oi;refine⟨_,_,Z,?_,s4.trans s5,p5⟩;rw[YBy,oi,if_neg (by decide),YMZ];exact s5 _ _ h4
   have hz:r.1=z:=Decidable.not_not.mp hz;rw[YLw hz];rw[YLw hz,Bool.true_and]at oi;refine ZG ⟨_,Z,YMI _,λle hle=>?_⟩;have s6:=YN.upd (o:=.lst []) hle;refine⟨_,_,.lst (.inl (s6 _ _ h5)) (Yh.strs _),.lst (.inl YD) .nil,YDM _,Z,YCB _,_,Z,?_⟩;rw[YDR];have mW:=s5.trans s6
   by_cases hb:¬YCs e r.2.1=[]
   ·rw[YLz hb];rw[YLz hb]at oi;refine⟨_,_,Z,?_,s4.trans mW,p5.upd rfl⟩;rw[YBy,oi,if_neg (by decide),YMZ];exact mW _ _ h4
   ·have hb:YCs e r.2.1=[]:=Decidable.not_not.mp hb;rw[YLw hb];rw[YLw hb]at oi;have hlen:(YBM g e z k).length<=k:=by
     unfold YBM;exact YMP (List.length_filter_le _ _) (by rw[YMH];exact YLr _)
    refine ZG ⟨_,Z,.inl ⟨Z,_,SqL.of (mW _ _ h4)⟩,_,Z,lo,_,_,Z,Z,mW _ _ h4,?_,_,_,Z,?_,(s4.trans mW).put hlo,(p5.upd rfl).upd rfl⟩
    ·rw[YLp];exact YL9 (show _ < 1000 by lia) (YH (YLr _))
    ·rw[YBy,oi,if_pos rfl,YL2];show upd _ lo _ lo=some (.lst (_ ++ [V.int (k:Int)]));rw[YD,YMk]
  ·rintro σ H4 ⟨v4,v5,rfl,h4,s4,p4⟩;refine⟨_,Z,q lo H4 s4 p4 hlo ?_⟩;rw[h4];have:((xs.length:Nat):Int).toNat=g.length:=by lia
   rw[this]
theorem ZP:YX ["_law_grammar_here","_law_shorts_here","_law_parts_here","_law_need_here","_law_part"] ["_law_grammar_here","_law_shorts_here","_law_parts_here"] (YQ YBK):=⟨Z,Z,Z,by decide +kernel,Z,by decide +kernel,by decide +kernel⟩
theorem YGE {f:Addr}{fd:FuncData} (F:Fun K "_law_need" "_law_need" YBK f fd) (T:Txt K mg C):Yt P w K mg base CX0 1 f fd ["_law_grammar_here","_law_shorts_here","_law_parts_here"] (YHk):=by
 refine F.ok ZP (λvs H Q E h=>?_) (λaO A outer s H vs Q E hr h=>?_)
 ·cases h;subst_vars;rfl
 ·obtain⟨l,d,p,xs,g,e,ps,rfl,hl,hds,hd,he,hpp,q⟩:=h;have hu:=Zq hr;have hU:=hr.units;have step:∀i z,ps[i]?=some z->ZX g e (ps.take (i + 1))=ZX g e (ps.take i) + nd1 g e z:=λi z ez=>by
   rw[YMb,ez,YAS];rfl
  rcases hpp with hpp |hpp
  ·refine⟨_,(YG (YK (i:=3) ZP.nd rfl (Or.inl rfl) YC)
   (YG (Yq PassesOwn.never rfl (Z7 K rfl (pv 2)) (YU (i:=4) ZP.nd rfl (Or.inl rfl)) (YF (Yx (YAq (YKj hu (pv 4) (pv 1))) (YF (YK (i:=3) ZP.nd rfl (Or.inl rfl) (YI Ye (pv 3) (YO (YL K rfl) (by rfl) T.ak YLq (YA (YM (YS K rfl) (YM (YT K rfl) (pv 0) (ZJ hu (pv 1) (pv 4) (λ_ _=>rfl)) (λ_ _=>rfl)) YC (λ_ _=>rfl)) YB))))) (YF (YK (i:=3) ZP.nd rfl (Or.inl rfl) (YI Ye (pv 3) YC))))))
   (YF (Yc (pv 3))))),?_⟩
   refine⟨_,Z,p,Z,⟨_,SqL.of hpp⟩,?_⟩;refine YAH (K:=K) (a:=p) (xs:=ps.map V.str) (λi σ H'=>∃v4:Option V,σ=[some (.ref l),some (.ref d),some (.ref p),some (.int (ZX g e (ps.take i):Nat)),v4]/\H'=H) ⟨none,Z,Z⟩ (λi σ H' _ ⟨_,_,z⟩=>by rw[z];exact SqL.of hpp) ?_ ?_
   ·rintro i x σ H' hx ⟨v4,rfl,rfl⟩;rw[YLt]at hx;cases ex:ps[i]? with
    |none=>rw[ex]at hx;cases hx
    |some z=>
     rw[ex]at hx;cases hx;have es:=step i z ex;unfold nd1 at es;refine⟨_,Z,_,Z,d,_,Z,Jf.k (k:=Sum.inr z) hd,_,Z,?_⟩;rw[Z9,YNH];cases hlk:look e z with
     |none=>
      rw[hlk]at es;refine⟨_,Z,_,_,Z,Z,some (.str z),?_,Z⟩;rw[es];rfl
     |some v=>
      rw[hlk]at es;obtain⟨k,r,rfl,er,_⟩:=he.at_ z v hlk;dsimp only at es;rw[YNW,er]at es;obtain⟨t,pp,ax,ht,lL⟩:=Jj hds er;refine⟨_,Z,_,Z,_,Z,_,Z,d,_,Z,YEK hd hlk,l,_,_,_,Z,Z,SqL.of hl,ax,t,_,1,_,Z,Z,SqT.of ht,Z,pp,_,Z,.inr (SqT.of lL),_,_,Z,Z,some (.str z),?_,Z⟩;rw[es,YLp];rfl
   ·rintro σ H' ⟨v4,rfl,rfl⟩;rw[YLp,YMn];exact⟨_,Z,q⟩
  ·refine⟨_,(YG (YK (i:=3) ZP.nd rfl (Or.inl rfl) YC)
   (YG (Yq PassesOwn.never rfl (X2 K rfl (pv 2)) (YU (i:=4) ZP.nd rfl (Or.inl rfl)) (YF (Yx (YAq (YKj hu (pv 4) (pv 1))) (YF (YK (i:=3) ZP.nd rfl (Or.inl rfl) (YI Ye (pv 3) (YO (YL K rfl) (by rfl) T.ak YLq (YA (YM (YS K rfl) (YM (YT K rfl) (pv 0) (ZJ hu (pv 1) (pv 4) (λ_ _=>rfl)) (λ_ _=>rfl)) YC (λ_ _=>rfl)) YB))))) (YF (YK (i:=3) ZP.nd rfl (Or.inl rfl) (YI Ye (pv 3) YC))))))
   (YF (Yc (pv 3))))),?_⟩
   refine⟨_,Z,p,Z,⟨_,SqT.of hpp⟩,?_⟩;refine YDI (K:=K) (a:=p) (xs:=ps.map V.str) (λi σ H'=>∃v4:Option V,σ=[some (.ref l),some (.ref d),some (.ref p),some (.int (ZX g e (ps.take i):Nat)),v4]/\H'=H) ⟨none,Z,Z⟩ (λi σ H' _ ⟨_,_,z⟩=>by rw[z];exact SqT.of hpp) ?_ ?_
   ·rintro i x σ H' hx ⟨v4,rfl,rfl⟩;rw[YLt]at hx;cases ex:ps[i]? with
    |none=>rw[ex]at hx;cases hx
    |some z=>
     rw[ex]at hx;cases hx;have es:=step i z ex;unfold nd1 at es;refine⟨_,Z,_,Z,d,_,Z,Jf.k (k:=Sum.inr z) hd,_,Z,?_⟩;rw[Z9,YNH];cases hlk:look e z with
     |none=>
      rw[hlk]at es;refine⟨_,Z,_,_,Z,Z,some (.str z),?_,Z⟩;rw[es];rfl
     |some v=>
      rw[hlk]at es;obtain⟨k,r,rfl,er,_⟩:=he.at_ z v hlk;dsimp only at es;rw[YNW,er]at es;obtain⟨t,pp,ax,ht,lL⟩:=Jj hds er;refine⟨_,Z,_,Z,_,Z,_,Z,d,_,Z,YEK hd hlk,l,_,_,_,Z,Z,SqL.of hl,ax,t,_,1,_,Z,Z,SqT.of ht,Z,pp,_,Z,.inr (SqT.of lL),_,_,Z,Z,some (.str z),?_,Z⟩;rw[es,YLp];rfl
   ·rintro σ H' ⟨v4,rfl,rfl⟩;rw[YLp,YMn];exact⟨_,Z,q⟩
end
theorem ZE:(["_law_k","_law_grammar_here","_law_left","_law_shorts_here"]:List Str).Nodup:=by decide +kernel
theorem YEM {t u:TS}{D:YAo}{σ:St}{H:Hp} (M:St->Hp->Prop) (rest:∀σ' H',M σ' H'->u D σ' H') (h:(∀σ' H',M σ' H'->u D σ' H')->t { D with nx:=u D } σ H):YGL t u D σ H:=h rest
inductive YHl (K:W.Frag) (vs:List V) (H:Hp) (Q:VK):Prop where
 |mk (l c:Addr) (xs:List V) (r0:Yp) (rest:List Yp) (hs:List Str) (ns:List Int) (R:Nat) (a_:vs=[.ref l,.ref c,.int (R:Int)]) (bc:2<=R) (bJ:R<=60) (cA:H l=some (.lst xs)) (dm:Yh H xs ((r0 :: rest).map ZR)) (gM:Yu (r0 :: rest)=true) (lq:(∀r∈r0 :: rest,R72 hs r)) (m6:(∀h∈hs,ShR (r0 :: rest) h)) (ug:SqL K H c (ns.map V.int)) (yj:ns.length<=63) (wD:YR H) (wF:∀o (ks sg:List Nat) H',Jz (r0 :: rest) [r0.1] ks sg->sg.length<=R->ks.length<=200->YN H H'->YR H'->H o=none->H' o=some (.lst (ks.map nV))->Q (.ref o) H'):YHl K vs H Q
def YJO (K:W.Frag):Sp:=λvs H Q E_=>YHl K vs H Q
inductive YJP (vs:List V) (H:Hp) (Q:VK):Prop where
 |mk (l o:Addr) (xs:List V) (r0:Yp) (rest:List Yp) (ks sg:List Nat) (a_:vs=[.ref l,.ref o]) (bc:H l=some (.lst xs)) (bJ:Yh H xs ((r0 :: rest).map ZR)) (cA:Yu (r0 :: rest)=true) (dm:H o=some (.lst (ks.map nV))) (gM:Jz (r0 :: rest) [r0.1] ks sg) (lq:ks.length<=16000000) (m6:sg.length<=100000) (ug:YR H) (yj:∀H',YN H H'->YR H'->Q (.str ⟨sg.toArray⟩) H'):YJP vs H Q
def YLk:Sp:=λvs H Q E_=>YJP vs H Q
theorem YLl {g:Yl}{ws:List Str}{ks sg:List Nat} (h:Jz g ws ks sg):ws.length<=ks.length + sg.length:=by
 induction h with
 |nil=>exact YMI _
 |sign _ _ ih=>rw[YL8,YL8];lia
 |name _ _ _ ih=>rw[YLy]at ih;rw[YL8,YL8];lia
def wS (p:Str):Nat:=if isQ p=true then 1 else 4
def wSs (ps:List Str):Nat:=(ps.map wS).sum
theorem YDS (a b:List Str):wSs (a ++ b)=wSs a + wSs b:=by
 unfold wSs;rw[YL2,List.sum_append]
theorem wSs_rev (a:List Str):wSs a.reverse=wSs a:=by
 unfold wSs;rw[YNe,List.sum_reverse]
theorem YLm:∀a:List Str,wSs a<=4 * a.length
 |[]=>YLr _
 |p :: a=>by
  have ih:=YLm a;have e:wSs (p :: a)=wS p + wSs a:=YDS [p] a;have:wS p<=4:=by unfold wS;split <;> lia
  rw[e,YL8]
  lia
theorem YKD {g:Yl}{e:Sz} (he:ShOk g e) (hg:Yu g=true) {p:Str} (hq:isQ p=true):look e p=none:=by
 cases h:look e p with
 |none=>rfl
 |some v=>
  obtain⟨k,r,_,er,ez,_⟩:=he.at_ p v h;have:=YCC (YAM (Ji hg er));rw[ez,hq]at this;cases this
theorem YBz {g:Yl}{e:Sz} (he:ShOk g e) (hg:Yu g=true) {p:Str} (hq:isQ p=true):ZX g e [p]=1:=by
 show nd1 g e p + 0=1;unfold nd1;rw[YKD he hg hq]
theorem YEN {g:Yl}{e:Sz}{p:Str}{k:Nat}{r:Yp} (h:look e p=some (k:Int)) (er:g[k]?=some r):ZX g e [p]=r.2.1.length:=by
 show nd1 g e p + 0=_;unfold nd1;rw[h];show(match g[(k:Int).toNat]? with |some r=>r.2.1.length |none=>0) + 0=_;rw[YNW,er];rfl
theorem YC2 {g:Yl}{e:Sz} (he:ShOk g e) (hg:Yu g=true):∀{a:List Str},(∀p∈a,isQ p=true)->ZX g e a=a.length/\unQ a=[]/\wSs a=a.length
 |[],_=>⟨Z,Z,Z⟩
 |p :: a,h=>by
  obtain⟨i1,i2,i3⟩:=YC2 he hg (a:=a) λq hq=>h q (YL6 _ hq)
  have hp:=h p (YMG ..);have e1:ZX g e (p :: a)=ZX g e [p] + ZX g e a:=YAS g e [p] a;have e2:wSs (p :: a)=wS p + wSs a:=YDS [p] a;have e3:wS p=1:=if_pos hp;refine⟨by rw[e1,YBz he hg hp,i1,YL8];lia,?_,by rw[e2,e3,i3,YL8];lia⟩;unfold unQ at i2 ⊢;rw[YND,hp];exact i2
theorem YFd {g:Yl}{e:Sz} (he:ShOk g e) (hg:Yu g=true):∀a:List Str,a.length<=ZX g e a + (unQ a).length
 |[]=>YMI _
 |p :: a=>by
  have ih:=YFd he hg a;have e1:ZX g e (p :: a)=ZX g e [p] + ZX g e a:=YAS g e [p] a;have e2:unQ (p :: a)=unQ [p] ++ unQ a:=YEI [p] a;rw[e1,e2,YLy,YL8];cases hq:isQ p with
  |true=>rw[YBz he hg hq];lia
  |false=>rw[YEJ hq];lia
def fitE (g:Yl) (e:Sz) (m:Int) (k:Nat):Bool:=match g[k]? with
 |some r=>decide (((ZX g e r.2.1:Nat):Int)<=m)
 |none=>false
theorem YGF {g:Yl}{e:Sz}{m:Int}{k:Nat}{r:Yp} (h:g[k]?=some r):fitE g e m k=decide (((ZX g e r.2.1:Nat):Int)<=m):=by
 unfold fitE;rw[h]
theorem unQ_le3 (a:List Str):(unQ a).length<=a.length:=List.length_filter_le _ _
inductive RwI (g:Yl) (e:Sz) (H:Hp) (l c d lw lr:Addr) (R n:Nat) (h0:Str) (μ:Nat) (σ:List (Option V)) (H5:Hp):Prop
 |mk (ks:List Nat) (zs:List Str) (sg:List Nat) (v7 v8 v9 gK gO:Option V) (q0:σ=[some (.ref l),some (.ref c),some (.int (R:Int)),some (.ref d),some (.ref lw),some (.ref lr),some (.int (sg.length:Int)),v7,v8,v9,gK,gO]) (q1:H5 lw=some (.lst (zs.map V.str))) (q2:H5 lr=some (.lst (ks.map nV))) (q3:H5 d=some (.dK (szD e))) (q4:(∀z∈zs,Yo z=true/\(isQ z=false->z∈e.map (·.1)))) (q5:(∀ks' pM,Jz g zs.reverse ks' pM->Jz g [h0] (ks ++ ks') (sg ++ pM))) (q6:sg.length + ZX g e zs<=R) (q7:(unQ zs).length + ks.length<=1 + 3 * min ks.length n) (q8:μ=(n - ks.length) * 200 + wSs zs) (q9:YN H H5) (q10:YR H5):RwI g e H l c d lw lr R n h0 μ σ H5
inductive RdI (g:Yl) (H:Hp) (l o lw:Addr) (ks sg:List Nat) (μ:Nat) (σ:List (Option V)) (H3:Hp):Prop
 |mk (zs:List Str) (s1 s2:List Nat) (at_:Nat) (v5 v6:Option V) (q0:σ=[some (.ref l),some (.ref o),some (.ref lw),some (.str ⟨s1.toArray⟩),some (.int (at_:Int)),v5,v6]) (q1:H3 lw=some (.lst (zs.map V.str))) (q2:(∀x∈zs,Yo x=true)) (q3:Jz g zs.reverse (ks.drop at_) s2) (q4:s1 ++ s2=sg) (q5:at_<=ks.length) (q6:True) (q7:μ=7 * (ks.length - at_) + zs.length) (q8:YN H H3) (q9:YR H3):RdI g H l o lw ks sg μ σ H3
section
variable {P:Program}{w:World}{K:W.Frag}{mg:Str->Option Value}{base:Heap}{C:Adr}
theorem Y9:YX ["_law_grammar_here","_law_cells","_law_room","_law_shorts_here","_law_waiting","_law_row_here","_law_held","_law_part","_law_number","_law_left","_law_some","_law_beneath"] ["_law_grammar_here","_law_cells","_law_room"] (YQ YAi):=⟨Z,Z,Z,by decide +kernel,Z,by decide +kernel,by decide +kernel⟩
theorem YHm {f:Addr}{fd:FuncData} (F:Fun K "_law_row" "_law_row" YAi f fd) (T:Txt K mg C) (dj:Zc P w K mg CX0 1 "_law_shorts" ["_law_grammar_here"] (YHi)) (e_:Zc P w K mg CX0 1 "_law_open" ["_law_grammar_here","_law_shorts_here","_law_name"] (YLh)) (gb:Zc P w K mg CX0 1 "_law_need" ["_law_grammar_here","_law_shorts_here","_law_parts_here"] (YHk)):Yt P w K mg base CX0 2 f fd ["_law_grammar_here","_law_cells","_law_room"] (YJO K):=by
 obtain⟨uy,tY,lG,lH,lJ,lK⟩:=dj.ok;obtain⟨vN,vh,nP,nQ,nR,nT⟩:=e_.ok;obtain⟨vO,vm,jE,jF,jG,jH⟩:=gb.ok;refine F.ok Y9 (λvs H Q E h=>?_) (λaO A outer s H vs Q E hr h=>?_)
 ·cases h;subst_vars;rfl
 ·obtain⟨l,c,xs,r0,rest,hs,ns,R,rfl,hR2,hR,hl,hds,hg,hgR,hgS,hS,hns,hp,q⟩:=h;have hu:=Zq hr;have hU:=hr.units;refine qex ?_;refine⟨_,(YE ⟨(YK (i:=3) Y9.nd rfl (Or.inr rfl) (YZ (lG base) (hr.mono (by decide)) (by rfl) lH lJ lK .nil Yi (YA (pv 0) YB)))⟩
   (YE ⟨(YK (i:=4) Y9.nd rfl (Or.inl rfl) (Zr (YA (YM (YS K rfl) (YM (YT K rfl) (pv 0) YC (λ_ _=>rfl)) YC (λ_ _=>rfl)) YB)))⟩
   (YE (JW (i:=5) Y9.nd rfl (Or.inl rfl) (YDk YDj))
   (YE (JW (i:=6) Y9.nd rfl (Or.inl rfl) YA1)
   (YE ⟨(Xg PassesOwn.never (YW (YDi K rfl hU) (pv 4) (Zr YB) (Yd _)) (YG (YK (i:=7) Y9.nd rfl (Or.inl rfl) (YDK K rfl YMC PySem.F.slot_list_pop PySem.F.type_list_pop YH1 (pv 4)))
   (YF (Yx (YW Jd (YM Zt (pv 7) YC (λ_ _=>rfl)) ZH (Yd _)) (YF (YK (i:=6) Y9.nd rfl (Or.inl rfl) (YI Ye (pv 6) YC))) (YG (YK (i:=8) Y9.nd rfl (Or.inl rfl) (ZJ hu (pv 3) (pv 7) (λ_ _=>rfl)))
   (YG (Yx (YW Xh (YO (YL K rfl) (by rfl) T.ak YLq (YA (pv 5) YB)) (YO (YL K rfl) (by rfl) T.ak YLq (YA (pv 1) YB)) (Yd _)) (YG (YK (i:=9) Y9.nd rfl (Or.inr rfl) (YI JI (YI JI (pv 2) (pv 6)) (YZ (jE base) (hr.mono (by decide)) (by rfl) jF jG jH .nil Yi (YA (pv 0) (YA (pv 3) (YA (pv 4) YB))))))
   (YG (YK (i:=10) Y9.nd rfl (Or.inl rfl) (YZ (nP base) (hr.mono (by decide)) (by rfl) nQ nR nT .nil Yi (YA (pv 0) (YA (pv 3) (YA (pv 7) YB)))))
   (YG (YB7 (N:=["_law_k","_law_grammar_here","_law_left","_law_shorts_here"]) (ρ:=[none,some 0,some 9,some 3]) (i:=10) Y9.nd rfl rfl rfl (Yj.closes ["_law_grammar_here","_law_cells","_law_room","_law_shorts_here","_law_waiting","_law_row_here","_law_held","_law_part","_law_number","_law_left","_law_some","_law_beneath"] (YQ YAi).names rfl rfl rfl rfl (by decide +kernel) (by decide +kernel) (λx h=>Jg h) (by decide +kernel) rfl (by decide +kernel)) (Z7 K rfl (pv 10)) (λ_ _ _ _ _=>(YU (i:=0) ZE rfl (Or.inl rfl) (.inr rfl))) (λ_ _ _ _ _=>(YFn (YW Xi (YZ (jE base) (hr.mono (by decide)) (by rfl) jF jG jH .nil Yi (YA (pv 1) (YA (pv 3) (YA (YM (YS K rfl) (YM (YT K rfl) (pv 1) (pv 0) (λ_ _=>rfl)) YC (λ_ _=>rfl)) YB)))) (pv 2) (Yd _)))) (λ_ _ _ _ _=>(pv 0)))
   (YF (YK (i:=8) Y9.nd rfl (Or.inl rfl) (YM (YT K rfl) (pv 10) (YI Y2 (YM (YT K rfl) (pv 1) (YO (YL K rfl) (by rfl) T.ak YLq (YA (pv 5) YB)) (λ_ _=>rfl)) (YO (YL K rfl) (by rfl) T.ak YLq (YA (pv 10) YB))) (λ_ _=>rfl))))))) Yk)
   (YG (Yr (ZO K rfl YMC YML YMK Y0 (pv 5) (YA (pv 8) YB)))
   (YF (Yq PassesOwn.never rfl (YI1 K rfl rfl T.dB (YA (YM (YS K rfl) (YM (YT K rfl) (pv 0) (pv 8) (λ_ _=>rfl)) YC (λ_ _=>rfl)) YB)) (YU (i:=11) Y9.nd rfl (Or.inl rfl)) (YF (Yr (ZO K rfl YMC YML YMK Y0 (pv 4) (YA (pv 11) YB)))))))))))))⟩
   (Y1 ⟨(Yc (pv 5))⟩)))))),?_⟩
  have Qg:(r0 :: rest)[0]?=some r0:=rfl;obtain⟨g,eg⟩:∃g,r0 :: rest=g:=⟨_,Z⟩;rw[eg]at hds hg hgR hgS q Qg;have sU:xs.length=g.length:=by rw[hds.len,YLp]
  refine⟨_,Z,l,xs,g,Z,hl,hds,hg,hp,λd e H1 he zx s1 p1 RP hd=>?_⟩;have v_:∀r∈g,r.1∈e.map (·.1):=λr hr'=>by
   obtain⟨r',zW,e1,e2,e3⟩:=hgS _ (hgR r hr').2.2;rw[<-e1];exact zx r' zW e2 e3
  obtain⟨t0,p0,yQ,vD,_⟩:=Jj (hds.same s1) Qg;refine⟨_,Z,l,_,0,_,Z,Z,SqL.of (s1 _ _ hl),yQ,t0,_,0,_,Z,Z,SqT.of vD,Z,YH (by show 1<=1000;decide),λlw vC=>?_⟩;refine⟨YMI _,λlr hlr=>?_⟩;have tZ:H lw=none:=s1.free vC;have s2:=YN.upd (o:=.lst [V.str r0.1]) vC;have wX:H lr=none:=s1.free (s2.free hlr);have nrw:lr≠lw:=λz=>by rw[z,YD]at hlr;cases hlr
  have s3:=YN.upd (o:=.lst []) hlr;have Ex:upd (upd H1 lw (.lst [V.str r0.1])) lr (.lst []) lw=some (.lst ([r0.1].map V.str)):=s3 _ _ YD;have Ey:upd (upd H1 lw (.lst [V.str r0.1])) lr (.lst []) lr=some (.lst (([]:List Nat).map nV)):=YD;have p4:YR (upd (upd H1 lw (.lst [V.str r0.1])) lr (.lst [])):=(p1.upd rfl).upd rfl;have s4:=s2.trans s3;have ul:=s4 _ _ hd;have vG:=s1.trans s4;revert Ex Ey p4 s4 ul vG;generalize upd (upd H1 lw (.lst [V.str r0.1])) lr (.lst [])=H4;intro Ex Ey p4 s4 ul vG;have dlw:d≠lw:=λz=>by rw[z]at hd;rw[hd]at vC;cases vC
  have dlr:d≠lr:=λz=>by rw[<-z,s2 _ _ hd]at hlr;cases hlr
  have t6:=YAM (Ji hg Qg);refine⟨RwI g e H l c d lw lr R ns.length r0.1,
   ⟨_,[],[r0.1],[],none,none,none,none,none,Z,Ex,Ey,ul,λz hz=>?_,λks' pM h=>h,?_,?_,Z,vG,p4⟩,?_⟩
  ·rw[YL1.mp hz];exact⟨YDy t6,λ_=>v_ r0 (YLu Qg)⟩
  ·obtain⟨v0,hv0⟩:=YCr (v_ r0 (YLu Qg));obtain⟨k0,rk,rfl,ek,_,_,hk2⟩:=he.at_ _ _ hv0;rw[YEN hv0 ek];exact(show 0 + _<=R by lia)
  ·rw[YEJ (YCC t6)];show 1 + 0<=_
   lia
  rintro μ σ H5 ⟨ks,zs,sg,v7,v8,v9,gK,gO,rfl,Ab,hr5,hd5,hzs,jD,t7,t8,hμ,s5,p5⟩;refine⟨_,Z,YMI _,λle hle=>?_⟩;have s6:=YN.upd (o:=.lst []) hle;refine⟨_,_,.lst (.inl (s6 _ _ Ab)) (Yh.strs zs),.lst (.inl YD) .nil,YDM _,Z,YCB _,_,Z,?_⟩;rw[YDR];have QG:=s6 _ _ Ab;have sS:=s6 _ _ hr5;have yL:=s6 _ _ hd5;have uK:=s5.trans s6;have p6:YR (upd H5 le (.lst [])):=p5.upd rfl;revert QG sS yL uK p6;generalize upd H5 le (.lst [])=H6;intro QG sS yL uK p6;rcases List.eq_nil_or_concat zs with hz |⟨cV,z,hz⟩
  ·subst hz;rw[YLw rfl];refine ZA ⟨_,Z,q lr ks sg H6 ?_ (by lia) (by lia) uK p6 wX sS⟩;have:=jD [] [] .nil;rw[YMZ,YMZ]at this;exact this
  rw[List.concat_eq_append]at hz;subst hz;rw[YLz (by simp)];refine ZG ⟨_,λ_ _ h=>h,?_⟩;have elast:((cV ++ [z]).map V.str)[((cV ++ [z]).map V.str).length - 1]?=some (.str z):=by
   rw[YL2,YLy];show(_ ++ [V.str z])[_ + 1 - 1]?=_;rw[Nat.add_sub_cancel,YMd (YLr _),Nat.sub_self];rfl
  have edrop:((cV ++ [z]).map V.str).dropLast=cV.map V.str:=by rw[YL2];exact List.dropLast_concat
  refine⟨_,Z,.inl ⟨Z,_,SqL.of QG⟩,lw,_,_,Z,Z,QG,elast,?_⟩;rw[edrop];have um:YN H (upd H6 lw (.lst (cV.map V.str))):=uK.put tZ;have w7:upd H6 lw (.lst (cV.map V.str)) lw=some (.lst (cV.map V.str)):=YD;have r7:upd H6 lw (.lst (cV.map V.str)) lr=some (.lst (ks.map nV)):=by rw[YJ nrw];exact sS
  have d7:upd H6 lw (.lst (cV.map V.str)) d=some (.dK (szD e)):=by rw[YJ dlw];exact yL
  have p7:YR (upd H6 lw (.lst (cV.map V.str))):=p6.upd rfl;revert um w7 r7 d7 p7;generalize upd H6 lw (.lst (cV.map V.str))=H7;intro um w7 r7 d7 p7;obtain⟨QH,hzk⟩:=hzs z (YMB _ (YL1.mpr rfl));have t_:∀x∈cV,Yo x=true/\(isQ x=false->x∈e.map (·.1)):=λx hx=>hzs x (YMc _ hx)
  rw[YAS]at t7;rw[YDS]at hμ;rw[YEI,YLy]at t8;rw[List.reverse_append]at jD;have jD:∀ks' pM,Jz g (z :: cV.reverse) ks' pM->Jz g [r0.1] (ks ++ ks') (sg ++ pM):=jD;obtain⟨ch,hc,Ac,qC⟩:=YAa QH;refine⟨_,Z,z,0,ch,Z,Z,YH (by lia),hc,Z,_,Z,?_⟩;rw[qC]
  by_cases hq:isQ z=true
  ·rw[hq];rw[YBz he hg hq]at t7;have ew:wSs [z]=1:=if_pos hq;rw[ew]at hμ;have ei:(sg.length:Int) + 1=((sg ++ [sgn z]).length:Int):=by rw[YLy];rfl
   refine⟨_,Z,_,_,Z,Z,?_⟩;refine⟨_,?_,ks,cV,sg ++ [sgn z],_,_,_,_,_,by rw[<-ei];rfl,w7,r7,d7,t_,λks' pM h=>?_,by rw[YLy];show sg.length + 1 + _<=_;lia,by lia,Z,um,p7⟩
   ·rw[hμ]
    lia
   ·have:=jD ks' (sgn z :: pM) (.sign hq h);rw[YMX];exact this
  ·have hq':isQ z=false:=YNY.mpr hq;rw[hq'];have ew:wSs [z]=4:=if_neg hq;rw[ew]at hμ;rw[YEJ hq']at t8;obtain⟨k0,hk0⟩:=YCr (hzk hq');obtain⟨kk,rs,rfl,ers,ezs,hall,h2⟩:=he.at_ z k0 hk0;rw[YEN hk0 ers]at t7;refine⟨_,Z,_,Z,d,.int (kk:Int),Z,YEK d7 hk0,?_⟩;have vH:=YC2 he hg hall;dsimp only[ZK];refine YEM (t:=tIfS _ _ _) (λσ' H'=>∃(k:Nat) (r:Yp) (v9 gK:Option V),σ'=[some (.ref l),some (.ref c),some (.int (R:Int)),some (.ref d),some (.ref lw),some (.ref lr),some (.int (sg.length:Int)),some (.str z),some (.int (k:Int)),v9,gK,gO]/\g[k]?=some r/\r.1=z/\(∀p∈r.2.1,isQ p=false->p∈e.map (·.1))/\sg.length + ZX g e cV + ZX g e r.2.1<=R/\(ks.length < ns.length\/(wSs r.2.1<=2/\unQ r.2.1=[]))/\YN H7 H'/\YR H') ?_ λjJ=>?_
   ·rintro σ H8 ⟨k,r,v9,gK,rfl,er,erz,hpk,hrn,QJ,s8,p8⟩;have hok:=Jy (Ji hg er);obtain⟨t,pp,ax,ht,hpp⟩:=Jj ((hds.same um).same s8) er;refine⟨_,Z,.inl ⟨Z,_,SqL.of (s8 _ _ r7)⟩,_,Z,lr,_,_,Z,Z,s8 _ _ r7,by rw[YLp,sizeLine_eq];lia,?_⟩;have er9:ks.map nV ++ [V.int (k:Int)]=(ks ++ [k]).map nV:=by rw[YL2];rfl
    rw[er9];have s9:YN H (upd H8 lr (.lst ((ks ++ [k]).map nV))):=(um.trans s8).put wX;have w9:upd H8 lr (.lst ((ks ++ [k]).map nV)) lw=some (.lst (cV.map V.str)):=by rw[YJ nrw.symm];exact s8 _ _ w7
    have r9:upd H8 lr (.lst ((ks ++ [k]).map nV)) lr=some (.lst ((ks ++ [k]).map nV)):=YD;have d9:upd H8 lr (.lst ((ks ++ [k]).map nV)) d=some (.dK (szD e)):=by rw[YJ dlr];exact s8 _ _ d7
    have p9:YR (upd H8 lr (.lst ((ks ++ [k]).map nV))):=p8.upd rfl;have yo:upd H8 lr (.lst ((ks ++ [k]).map nV)) t=some (.tup [.str r.1,.ref pp,.int r.2.2]):=by
     rw[YJ (λz=>by rw[z,s8 _ _ r7]at ht;cases ht)];exact ht
    have yV:upd H8 lr (.lst ((ks ++ [k]).map nV)) pp=some (.tup (r.2.1.map V.str)):=by
     rw[YJ (λz=>by rw[z,s8 _ _ r7]at hpp;cases hpp)];exact hpp
    revert s9 w9 r9 d9 p9 yo yV;generalize upd H8 lr (.lst ((ks ++ [k]).map nV))=H9;intro s9 w9 r9 d9 p9 yo yV;refine⟨_,Z,_,Z,l,_,_,_,Z,Z,SqL.of (s9 _ _ hl),ax,t,_,1,_,Z,Z,SqT.of yo,Z,pp,_,Z,SqT.of yV,?_⟩;have h6:=hok.1;have h3r:=(hgR r (YLu er)).2.1;have zy:=YFd he hg cV;have npw:pp≠lw:=λz=>by rw[z,w9]at yV;cases yV
    refine YGr (K:=K) (a:=pp) (xs:=r.2.1.map V.str) (λi σ H6=>∃gO,σ=[some (.ref l),some (.ref c),some (.int (R:Int)),some (.ref d),some (.ref lw),some (.ref lr),some (.int (sg.length:Int)),some (.str z),some (.int (k:Int)),v9,gK,gO]/\H6 lw=some (.lst ((cV ++ r.2.1.reverse.take i).map V.str))/\H6 lr=some (.lst ((ks ++ [k]).map nV))/\H6 d=some (.dK (szD e))/\H6 pp=some (.tup (r.2.1.map V.str))/\YN H H6/\YR H6)
     ⟨gO,Z,by rw[YM9,YMZ];exact w9,r9,d9,yV,s9,p9⟩ ?_ ?_ ?_
    ·rintro i σ Hx _ ⟨_,rfl,_,_,_,QK,_,_⟩;exact SqT.of QK
    ·rintro i y σ Hx hi ⟨gO,rfl,wx,rx,dx,QK,sx,px⟩;rw[<-YNe,YLt]at hi;cases ex:r.2.1.reverse[i]? with
     |none=>rw[ex]at hi;cases hi
     |some x=>
      rw[ex]at hi;cases hi;have et:r.2.1.reverse.take (i + 1)=r.2.1.reverse.take i ++ [x]:=by rw[YMb,ex];rfl
      refine⟨_,Z,.inl ⟨Z,_,SqL.of wx⟩,_,Z,lw,_,_,Z,Z,wx,by rw[YLp,YLy,YMp,YMU,sizeLine_eq];lia,_,Z,?_,by rw[YJ nrw];exact rx,by rw[YJ dlw];exact dx,by rw[YJ npw];exact QK,sx.put tZ,px.upd rfl⟩;rw[YD,et,<-YMX,YL2 (l₂:=[x])];rfl
    ·rintro σ Hx ⟨gO,rfl,wx,rx,dx,QK,sx,px⟩;have eall:r.2.1.reverse.take (r.2.1.map V.str).length=r.2.1.reverse:=by rw[YLp,<-YMU (as:=r.2.1),YMn]
     rw[eall]at wx;have VR:=unQ_le3 r.2.1;have hw':=YLm r.2.1;have eu:(unQ (cV ++ r.2.1.reverse)).length=(unQ cV).length + (unQ r.2.1).length:=by rw[YEI,YLy,unQ_rev]
     have W4:ZX g e (cV ++ r.2.1.reverse)=ZX g e cV + ZX g e r.2.1:=by rw[YAS,YKC]
     have ew2:wSs (cV ++ r.2.1.reverse)=wSs cV + wSs r.2.1:=by rw[YDS,wSs_rev]
     have ekl:(ks ++ [k]).length=ks.length + 1:=by rw[YLy];rfl
     refine⟨_,?_,ks ++ [k],cV ++ r.2.1.reverse,sg,_,_,_,_,_,Z,wx,rx,dx,λx hx=>?_,λks' pM h=>?_,by lia,?_,Z,sx,px⟩
     ·rw[hμ,ew2,ekl];rcases QJ with QJ |⟨ho1,vz⟩
      ·have:(ns.length - ks.length) * 200=(ns.length - (ks.length + 1)) * 200 + 200:=by lia
       lia
      ·lia
     ·rcases YMN.mp hx with hx |hx
      ·exact t_ x hx
      ·exact⟨hok.2 x (YNd.mp hx),hpk x (YNd.mp hx)⟩
     ·rw[List.reverse_append,List.reverse_reverse]at h;have:=jD (k :: ks') pM (by rw[<-erz];exact .name (by rw[erz];exact hq') er h);rw[YMX];exact this
     ·rw[eu,ekl];rcases QJ with QJ |⟨ho1,vz⟩
      ·rw[Nat.min_eq_left (by lia)]at t8 ⊢
       lia
      ·rw[vz];show(unQ cV).length + 0 + _<=_;rcases YMt ks.length ns.length with hx |hx
       ·rw[Nat.min_eq_left (by lia)]at t8 ⊢
        lia
       ·rw[Nat.min_eq_right (by lia)]at t8 ⊢
        lia
   ·refine⟨_,Z,lr,_,Z,.inl (SqL.of r7),_,Z,c,_,Z,.inl (um.seq hS),_,_,Z,Z,_,Z,?_⟩;rw[YLp,YLp]
    by_cases hcl:ks.length < ns.length
    case neg=>
     rw[YLz (by lia)];refine ZA (jJ _ _ ⟨kk,rs,_,_,Z,ers,ezs,(λp hp h=>by rw[hall p hp]at h;cases h),by rw[vH.1];lia,.inr ⟨by rw[vH.2.2];exact h2,vH.2.1⟩,YN.refl _,p7⟩)
    rw[YLw (by lia)];refine ZG ⟨_,Z,_,Z,_,_,Z,Z,_,Z,_,Z,_,Z,l,d,lw,xs,g,e,cV,Z,um _ _ hl,hds.same um,d7,he,.inl w7,_,_,Z,Z,?_⟩;dsimp only[ZK];refine⟨_,Z,_,Z,_,Z,l,d,xs,g,e,z,Z,um _ _ hl,hds.same um,hg,d7,p7,λlo H9 s9 p9 ho0 ho=>?_⟩;dsimp only[ZK];have Ad:=um.trans s9;obtain⟨left,eleft⟩:∃left:Int,(R:Int) - (sg.length:Int) - (ZX g e cV:Nat)=left:=⟨_,Z⟩;rw[eleft];obtain⟨M0,eM0⟩:∃M,YBM g e z g.length=M:=⟨_,Z⟩;rw[eM0]at ho;have hM0:M0.length<=60:=by
     rw[<-eM0];unfold YBM;refine YMP (List.length_filter_le _ _) ?_;rw[YMH];exact XX hg
    refine⟨_,Z,lo,Z,⟨_,SqL.of ho⟩,λlb hlb=>?_⟩;have hJ:=(Xl (SqL.of (K:=K) ho)).g;rw[YLp]at hJ;have d9:=s9 _ _ d7;refine YB8 M0 (λk=>if fitE g e left k=true then some (nV k) else none) hJ p9 hlb (YH (by lia)) (λτ'=>∃v,τ'=[v,some (.ref l),some (.int left),some (.ref d)]) ⟨_,Z⟩ ?_ ?_
    ·rintro τ' k x y H' Q1 Q2 ⟨v,rfl⟩ hx hit hs' hp' hQ1 hQ2;rw[YLt,hx]at hit;cases hit;obtain⟨r,er,erz,hin⟩:=YFa (by rw[eM0];exact YLu hx);have sx:=Ad.trans hs';obtain⟨t,pp,ax,ht,hpp⟩:=Jj (hds.same sx) er;refine⟨_,Z,_,Z,_,Z,_,Z,l,_,_,_,Z,Z,SqL.of (sx _ _ hl),ax,t,_,1,_,Z,Z,SqT.of ht,Z,l,d,pp,xs,g,e,r.2.1,Z,sx _ _ hl,hds.same sx,hs' _ _ d9,he,.inr hpp,_,Z,_,_,Z,Z,_,Z,?_⟩;rw[<-YGF (m:=left) er];cases hf:fitE g e left x with
     |true=>exact⟨_,Z,hQ1 _ _ _ ⟨_,Z⟩ (YN.refl _) hp' (by rw[if_pos hf])⟩
     |false=>exact hQ2 _ _ ⟨_,Z⟩ (YN.refl _) hp' (by rw[if_neg (by rw[hf];decide)])
    intro HA sA pA hA;have efm:M0.filterMap (λk=>if fitE g e left k=true then some (nV k) else none)=(M0.filter (fitE g e left)).map nV:=by
     rw[<-YNk,List.filterMap_filter];rfl
    rw[efm]at hA;obtain⟨M,eM⟩:∃M,M0.filter (fitE g e left)=M:=⟨_,Z⟩;rw[eM]at hA;have s0A:=Ad.trans sA;have Wn:kk∈M:=by
     rw[<-eM,YNj,<-eM0];refine⟨YLg ers ezs (λp hp h=>by rw[hall p hp]at h;cases h),?_⟩;rw[YGF ers,vH.1];exact YLw (by lia)
    have hMl:0 < M.length:=List.length_pos_of_mem Wn;have sqM:SqL K HA lb (M.map nV):=SqL.of hA;have sqr:SqL K HA lr (ks.map nV):=SqL.of ((s9.trans sA) _ _ r7);have ac:atI (ns.map V.int) ((ks.map nV).length:Nat)=some (.int ns[ks.length]):=by
     rw[YLp];exact Yn (by rw[YLt,YLs hcl];rfl)
    obtain⟨y,hy,hym⟩:=Z8 (xs:=M.map nV) (i:=ns[ks.length] % ((M.map nV).length:Nat)) (YMe _ (by rw[YLp];lia)) (YMg _ (by rw[YLp];lia));obtain⟨k,hkM,rfl⟩:=YMD.mp hym;rw[<-eM,YNj,<-eM0]at hkM;obtain⟨r,er,erz,hin⟩:=YFa hkM.1;have hf:=hkM.2;rw[YGF er]at hf;have hf:=YME hf;refine⟨_,Z,_,Z,_,Z,lr,_,Z,.inl sqr,c,_,_,_,Z,Z,s0A.seq hS,ac,_,Z,lb,_,Z,.inl sqM,_,_,Z,Z,(by rw[YLp];show(0:Int) < _;lia),lb,_,_,_,Z,Z,sqM,hy,?_⟩;exact jJ _ _ ⟨k,r,_,_,Z,er,erz,hin,by lia,.inl hcl,s9.trans sA,pA⟩
theorem Zd:YX ["_law_grammar_here","_law_row_here","_law_waiting","_law_signs_here","_law_at","_law_part","_law_beneath"] ["_law_grammar_here","_law_row_here"] (YQ YBL):=⟨Z,Z,Z,by decide +kernel,Z,by decide +kernel,by decide +kernel⟩
theorem YGG {f:Addr}{fd:FuncData} (F:Fun K "_law_read" "_law_read" YBL f fd) (T:Txt K mg C):Yt P w K mg base CX0 1 f fd ["_law_grammar_here","_law_row_here"] (YLk):=by
 refine F.ok Zd (λvs H Q E h=>?_) (λaO A outer s H vs Q E hr h=>?_)
 ·cases h;subst_vars;rfl
 ·obtain⟨l,o,xs,r0,rest,ks,sg,rfl,hl,hds,hg,ho,jD,hkl,hsl,hp,q⟩:=h;have hU:=hr.units;refine qex ?_;refine⟨_,(YE ⟨(YK (i:=2) Zd.nd rfl (Or.inl rfl) (Zr (YA (YM (YS K rfl) (YM (YT K rfl) (pv 0) YC (λ_ _=>rfl)) YC (λ_ _=>rfl)) YB)))⟩
   (YE (JW (i:=3) Zd.nd rfl (Or.inl rfl) YK0)
   (YE (JW (i:=4) Zd.nd rfl (Or.inl rfl) YA1)
   (YE ⟨(Xg PassesOwn.never (YW (YDi K rfl hU) (pv 2) (Zr YB) (Yd _)) (YG (YK (i:=5) Zd.nd rfl (Or.inl rfl) (YDK K rfl YMC PySem.F.slot_list_pop PySem.F.type_list_pop YH1 (pv 2)))
   (YF (Yx (YW Jd (YM Zt (pv 5) YC (λ_ _=>rfl)) ZH (Yd _)) (YF (YK (i:=3) Zd.nd rfl (Or.inl rfl) (YI JV (pv 3) (YM Zt (pv 5) YC (λ_ _=>rfl))))) (YG (Yx (PW.pt (YAr (YW op_ge (pv 4) (YO (YL K rfl) (by rfl) T.ak YLq (YA (pv 1) YB)) (Yd _)) (YAr (Xe (YKU Xi Xh YC (YM (YT K rfl) (pv 1) (pv 4) (λ_ _=>rfl)) (YO (YL K rfl) (by rfl) T.ak YLq (YA (pv 0) YB)))) (YAT (YW YCt (YM (YS K rfl) (YM (YT K rfl) (pv 0) (YM (YT K rfl) (pv 1) (pv 4) (λ_ _=>rfl)) (λ_ _=>rfl)) YC (λ_ _=>rfl)) (pv 5) (Yd _)))))) (YF (Yc Xd)) Yk)
   (YG (Yq PassesOwn.never rfl (YI1 K rfl rfl T.dB (YA (YM (YS K rfl) (YM (YT K rfl) (pv 0) (YM (YT K rfl) (pv 1) (pv 4) (λ_ _=>rfl)) (λ_ _=>rfl)) YC (λ_ _=>rfl)) YB)) (YU (i:=6) Zd.nd rfl (Or.inl rfl)) (YF (Yr (ZO K rfl YMC YML YMK Y0 (pv 2) (YA (pv 6) YB)))))
   (YF (YK (i:=4) Zd.nd rfl (Or.inl rfl) (YI Ye (pv 4) YC)))))))))⟩
   (YE ⟨(Yx (YW Xh (pv 4) (YO (YL K rfl) (by rfl) T.ak YLq (YA (pv 1) YB)) (Yd _)) (YF (Yc Xd)) Yk)⟩
   (Y1 ⟨(Yc (pv 3))⟩)))))),?_⟩
  have sU:xs.length=(r0 :: rest).length:=by rw[hds.len,YLp]
  have s1:YN H H:=YN.refl _;have p1:YR H:=hp;have wY:Yo r0.1=true:=YDy (YAM (Ji hg (i:=0) rfl));have z8:(r0 :: rest)[0]?=some r0:=rfl;obtain⟨g,eg⟩:∃g,r0 :: rest=g:=⟨_,Z⟩;rw[eg]at hds hg jD sU z8;obtain⟨t0,p0,yQ,vD,_⟩:=Jj hds z8;refine⟨_,Z,l,_,0,_,Z,Z,SqL.of (s1 _ _ hl),yQ,t0,_,0,_,Z,Z,SqT.of (s1 _ _ vD),Z,YH (by show 1<=1000;decide),λlw vC=>?_⟩;have tZ:H lw=none:=s1.free vC;have s2:=s1.trans (YN.upd (o:=.lst [.str r0.1]) vC);have w2:upd H lw (.lst [.str r0.1]) lw=some (.lst ([r0.1].map V.str)):=YD;have p2:YR (upd H lw (.lst [.str r0.1])):=p1.upd rfl;revert s2 w2 p2;generalize upd H lw (.lst [.str r0.1])=H2;intro s2 w2 p2;have e0:(("":Str))=⟨([]:List Nat).toArray⟩:=by decide +kernel
  rw[e0];refine⟨RdI g H l o lw ks sg,
   ⟨_,[r0.1],[],sg,0,none,none,Z,w2,λx hx=>by rw[YL1.mp hx];exact wY,jD,Z,YMI _,trivial,Z,s2,p2⟩,?_⟩
  rintro μ σ H3 ⟨zs,c1,c2,at_,v5,v6,rfl,w3,Ae,j8,hcc,hat,_,hμ,s3,p3⟩;refine⟨_,Z,YMI _,λAf Wo=>?_⟩;have s4:=YN.upd (o:=.lst []) Wo;refine⟨_,_,.lst (.inl (s4 _ _ w3)) (Yh.strs zs),.lst (.inl YD) .nil,YDM _,Z,YCB _,_,Z,?_⟩;rw[YDR];have w4:=s4 _ _ w3;have vG:=s3.trans s4;have p4:YR (upd H3 Af (.lst [])):=p3.upd rfl;revert w4 vG p4;generalize upd H3 Af (.lst [])=H4;intro w4 vG p4;rcases List.eq_nil_or_concat zs with hz |⟨cV,z,hz⟩
  ·subst hz;rw[YLw rfl];refine ZA ?_;obtain⟨h1,h2⟩:=YLi j8;have hend:ks.length<=at_:=List.drop_eq_nil_iff.mp h1;refine⟨_,Z,_,Z,o,_,Z,.inl (SqL.of (vG _ _ ho)),_,_,Z,Z,_,Z,?_⟩;rw[YLz (by rw[YLp];lia)];rw[h2,YMZ]at hcc;rw[hcc];exact ZA ⟨_,Z,q H4 vG p4⟩
  rw[List.concat_eq_append]at hz;subst hz;rw[YLz (by simp)];refine ZG ⟨_,λ_ _ h=>h,?_⟩;have elast:((cV ++ [z]).map V.str)[((cV ++ [z]).map V.str).length - 1]?=some (.str z):=by
   rw[YL2,YLy];show(_ ++ [V.str z])[_ + 1 - 1]?=_;rw[Nat.add_sub_cancel,YMd (YLr _),Nat.sub_self];rfl
  have edrop:((cV ++ [z]).map V.str).dropLast=cV.map V.str:=by rw[YL2];exact List.dropLast_concat
  refine⟨_,Z,.inl ⟨Z,_,SqL.of w4⟩,lw,_,_,Z,Z,w4,elast,?_⟩;rw[edrop];have sr:YN H (upd H4 lw (.lst (cV.map V.str))):=vG.put tZ;have w5:upd H4 lw (.lst (cV.map V.str)) lw=some (.lst (cV.map V.str)):=YD;have p5:YR (upd H4 lw (.lst (cV.map V.str))):=p4.upd rfl;revert sr w5 p5;generalize upd H4 lw (.lst (cV.map V.str))=H5;intro sr w5 p5;have QH:=Ae z (YMB _ (YL1.mpr rfl));have t_:∀x∈cV,Yo x=true:=λx hx=>Ae x (YMc _ hx)
  have uo:=YLl j8;rw[YMU,YLy,YM5]at uo;have uo:cV.length + 1<=ks.length - at_ + c2.length:=uo;have hcl:c1.length + c2.length=sg.length:=by rw[<-hcc,YLy]
  rw[YLy]at hμ;have hμ:μ=7 * (ks.length - at_) + (cV.length + 1):=hμ;rw[List.reverse_append]at j8;have j8:Jz g (z :: cV.reverse) (ks.drop at_) c2:=j8;obtain⟨c,hc,Ac,qC⟩:=YAa QH;refine⟨_,Z,z,0,c,Z,Z,YH (by lia),hc,Z,_,Z,?_⟩;rw[qC]
  by_cases hq:isQ z=true
  ·rw[hq];obtain⟨Ag,e2,zz⟩:=YKA hq j8;have VV:c2.length=Ag.length + 1:=by rw[e2,YL8]
   have el1:(⟨c1.toArray⟩:Str).length=c1.length:=rfl;refine⟨_,Z,_,Z,z,1,sgn z,Z,Z,YH (by lia),YC0 QH hq,⟨c1.toArray⟩,_,Z,Z,by rw[sizeLine_eq,el1];show c1.length + 1<=_;lia,?_⟩;rw[YLj];refine⟨_,?_,cV,c1 ++ [sgn z],Ag,at_,_,_,Z,w5,t_,zz,by rw[<-hcc,e2,YMX];rfl,hat,trivial,Z,sr,p5⟩;rw[hμ]
   lia
  ·have hq':isQ z=false:=YNY.mpr hq;rw[hq'];obtain⟨k,gk,r,e1,er,hrz,zA⟩:=YKB hq' j8;have zB:at_ < ks.length:=by
    have:=YMw List.length e1;rw[YM5,YL8]at this
    lia
   have ek:ks[at_]?=some k/\gk=ks.drop (at_ + 1):=by
    rw[YMz zB]at e1;cases e1;exact⟨YLs zB,Z⟩
   have ao:atI (ks.map nV) (at_:Int)=some (.int (k:Int)):=by
    refine Yn (j:=at_) ?_;rw[YLt,ek.1];rfl
   have hok:=Ji hg er;have RC:k < xs.length:=by rw[sU];exact(YLv.mp er).1
   obtain⟨tt,pp,ax,vW,hpp⟩:=Jj hds er;have sqo:SqL K H5 o (ks.map nV):=SqL.of (sr _ _ ho);have sql:SqL K H5 l xs:=SqL.of (sr _ _ hl);refine⟨_,Z,_,Z,o,_,Z,.inl sqo,_,_,Z,Z,_,Z,?_⟩;rw[YLz (by rw[YLp];lia)];refine ZA ⟨_,Z,_,Z,o,_,_,_,Z,Z,sqo,ao,_,_,Z,Z,_,Z,?_⟩;rw[YLw (by lia)];refine ZG ⟨_,Z,l,_,Z,.inl sql,_,_,Z,Z,_,Z,?_⟩;rw[YLw (by lia)];refine ZA ⟨_,Z,_,Z,_,Z,o,_,_,_,Z,Z,sqo,ao,l,_,_,_,Z,Z,sql,ax,tt,_,0,_,Z,Z,SqT.of (sr _ _ vW),Z,_,Z,Z,_,Z,?_⟩;rw[decS,YLw hrz];refine ZA ?_;refine⟨_,Z,_,Z,_,Z,o,_,_,_,Z,Z,sqo,ao,l,_,_,_,Z,Z,sql,ax,tt,_,1,_,Z,Z,SqT.of (sr _ _ vW),Z,pp,_,Z,SqT.of (sr _ _ hpp),?_⟩;have sS:=(Jy hok).1;refine YGr (K:=K) (a:=pp) (xs:=r.2.1.map V.str) (λi σ H6=>∃v6,σ=[some (.ref l),some (.ref o),some (.ref lw),some (.str ⟨c1.toArray⟩),some (.int (at_:Int)),some (.str z),v6]/\H6 lw=some (.lst ((cV ++ r.2.1.reverse.take i).map V.str))/\YN H H6/\YR H6)
    ⟨v6,Z,by rw[YM9,YMZ];exact w5,sr,p5⟩ ?_ ?_ ?_
   ·rintro i σ H6 _ ⟨_,rfl,_,s6,_⟩;exact SqT.of (s6 _ _ hpp)
   ·rintro i y σ H6 hi ⟨v6,rfl,w6,s6,p6⟩;rw[<-YNe,YLt]at hi;cases ex:r.2.1.reverse[i]? with
    |none=>rw[ex]at hi;cases hi
    |some x=>
     rw[ex]at hi;cases hi;have et:r.2.1.reverse.take (i + 1)=r.2.1.reverse.take i ++ [x]:=by rw[YMb,ex];rfl
     refine⟨_,Z,.inl ⟨Z,_,SqL.of w6⟩,_,Z,lw,_,_,Z,Z,w6,by rw[YLp,YLy,YMp,YMU,sizeLine_eq];lia,_,Z,?_,s6.put tZ,p6.upd rfl⟩;rw[YD,et,<-YMX,YL2 (l₂:=[x])];rfl
   ·rintro σ H6 ⟨v6,rfl,w6,s6,p6⟩;have eall:r.2.1.reverse.take (r.2.1.map V.str).length=r.2.1.reverse:=by rw[YLp,<-YMU (as:=r.2.1),YMn]
    rw[eall]at w6;refine⟨_,Z,_,_,Z,Z,?_⟩;have ei:(at_:Int) + 1=((at_ + 1:Nat):Int):=by lia
    refine⟨_,?_,cV ++ r.2.1.reverse,c1,c2,at_ + 1,_,_,by rw[<-ei];rfl,w6,λx hx=>?_,?_,hcc,by lia,?_,Z,s6,p6⟩
    ·rw[hμ,YLy,YMU]
     lia
    ·rcases YMN.mp hx with hx |hx
     ·exact t_ x hx
     ·exact(Jy hok).2 x (YNd.mp hx)
    ·rw[List.reverse_append,List.reverse_reverse,<-ek.2];exact zA
    ·trivial
end
section
variable {g:Yl}{t:Str}{a b c:Int}{T1 T2:Tol}{ps1 ps2:List Str}{O1 O2:OvF}{F1 F2:FiF}{fs1 fs2:List (Nd×Int)}
end
inductive ChX (O:OvF):List Str->Nat->Nat->Int->Prop
 |nil {i:Nat}:ChX O [] i i 0
 |cons {p:Str}{ws:List Str}{i k j:Nat}{v:Int}:i<=k->ChX O ws k j v->ChX O (p :: ws) i j (O p i k + v)
theorem ChX.le {O:OvF}{ws:List Str}{i j:Nat}{v:Int} (h:ChX O ws i j v):i<=j:=by
 induction h with
 |nil=>exact YLr _
 |cons h _ ih=>lia
theorem ChX.split {O:OvF}:∀{x y:List Str}{i j:Nat}{v:Int},ChX O (x ++ y) i j v->∃m v1 v2,ChX O x i m v1/\ChX O y m j v2/\v=v1 + v2
 |[],y,i,j,v,h=>⟨i,0,v,.nil,h,by lia⟩
 |p :: x,y,i,j,v,h=>by
  rw[List.cons_append]at h;generalize hz:p :: (x ++ y)=zs at h;cases h with
  |nil=>cases hz
  |@cons p' R_ _ k _ v' hk h'=>
   cases hz;obtain⟨m,v1,v2,h1,h2,e⟩:=ChX.split h';exact⟨m,_,v2,.cons hk h1,h2,by lia⟩
theorem ChX.one {O:OvF}{p:Str}{i j:Nat}{v:Int} (h:ChX O [p] i j v):v=O p i j:=by
 generalize hz:[p]=zs at h;cases h with
 |nil=>cases hz
 |@cons p' R_ _ k _ v' hk h'=>
  cases hz;cases h';exact Int.add_zero _
theorem ChX.zero {O:OvF}{i j:Nat}{v:Int} (h:ChX O [] i j v):j=i/\v=0:=by
 cases h;exact⟨Z,Z⟩
theorem YKE {t:Str}{i j i' j':Nat} (h1:i'<=i) (h2:j<=j') {x:Nat} (h:x∈Jp t i j):x∈Jp t i' j':=by
 obtain⟨k,k1,k2,k3⟩:=YCM.mp h;exact YCM.mpr ⟨k,by lia,by lia,k3⟩
theorem YHn {t:Str}{A B C:Int} (hC:0<=C) {p:Str}{i j i' j':Nat} (h1:i'<=i) (h2:i<=j) (h3:j<=j') (h4:j'<=t.length) (h5:j' - i'=j - i + 1):sgT t A B C p i' j'<=sgT t A B C p i j + B:=by
 unfold sgT;rw[if_neg (show ¬j'<=i' by lia)];have e1:((j':Int) - i')=((j:Int) - i) + 1:=by lia
 have e2:((j':Int) - i') * B=((j:Int) - i) * B + B:=by rw[e1,YNR,Int.one_mul]
 have e3:((j':Int) - i' - 1) * B=((j:Int) - i) * B:=by congr 1;lia
 have e4:((j:Int) - i - 1) * B=((j:Int) - i) * B - B:=by rw[Int.sub_mul,Int.one_mul]
 have hin:YBA (YAN p) t i j=true->YBA (YAN p) t i' j'=true:=λh=>by
  rw[YEB (by lia) (by lia)]at h ⊢;exact YLw (YKE h1 h3 (YME h))
 by_cases hj:j<=i
 ·have hij:i=j:=by lia
  rw[if_pos hj,e2];have e5:((j:Int) - i) * B=0:=by rw[hij,Int.sub_self,Int.zero_mul]
  rw[e5];split <;> lia
 ·rw[if_neg hj,e2,e3,e4];cases hx:YBA (YAN p) t i j with
  |true=>
   rw[hin hx,if_pos rfl];split <;> split <;> lia
  |false=>
   rw[if_neg (show ¬false=true by decide)];cases YBA (YAN p) t i' j' with
   |true=>
    rw[if_pos rfl];split <;> split <;> lia
   |false=>
    rw[if_neg (show ¬false=true by decide)];split <;> split <;> lia
inductive Al (t:List Nat) (a b c:Int):Nat->List Nat->Int->Prop
 |nil:Al t a b c t.length [] 0
 |cut {i:Nat}{sg:List Nat}{C:Int}:i < t.length->Al t a b c (i + 1) sg C->Al t a b c i sg (b + C)
 |put {i:Nat}{sg:List Nat}{C:Int} (x:Nat):Al t a b c i sg C->Al t a b c i (x :: sg) (a + C)
 |swp {i:Nat}{sg:List Nat}{C e:Int} (x y:Nat):t[i]?=some y->(x=y/\0<=e\/c<=e\/a + b<=e)->Al t a b c (i + 1) sg C->Al t a b c i (x :: sg) (e + C)
theorem Al.le {t:List Nat}{a b c:Int}{i:Nat}{sg:List Nat}{C:Int} (h:Al t a b c i sg C):i<=t.length:=by
 induction h with
 |nil=>exact YLr _
 |cut h _ _=>lia
 |put _ _ ih=>exact ih
 |swp _ _ _ _ _ ih=>lia
theorem Al.rest {t:List Nat}{a b c:Int}{i:Nat}{sg:List Nat}{C:Int} (h:Al t a b c i sg C):sg=[]->C=((t.length:Int) - i) * b:=by
 induction h with
 |nil=>intro _;rw[Int.sub_self,Int.zero_mul]
 |@cut i sg C hi _ ih=>
  intro e;rw[ih e];have:((t.length:Int) - i)=((t.length:Int) - ((i + 1:Nat):Int)) + 1:=by lia
  rw[this,YNR,Int.one_mul]
  lia
 |put _ _ _=>intro e;cases e
 |swp _ _ _ _ _ _=>intro e;cases e
theorem Al.first {t:Str}{a b c:Int} (hc:0<=c) {p:Str}{i:Nat}{Ah sg:List Nat}{C:Int} (h:Al t.cps.toList a b c i Ah C):Ah=sgn p :: sg->∃k C',i<=k/\Al t.cps.toList a b c k sg C'/\sgT t a b c p i k + C'<=C:=by
 have hl:t.cps.toList.length=t.length:=YMM
 induction h with
 |nil=>intro e;cases e
 |@cut i pM C hi _ ih=>
  intro e;obtain⟨k,C',h1,h2,h3⟩:=ih e;have hk:=h2.le;refine⟨k,C',by lia,h2,?_⟩;have:=YHn (t:=t) (A:=a) (B:=b) hc (p:=p) (i:=i + 1) (j:=k) (i':=i) (j':=k) (by lia) h1 (YLr _) (by lia) (by lia)
  lia
 |@put i pM C x h _=>
  intro e;cases e;refine⟨i,C,YLr _,h,?_⟩;unfold sgT;rw[if_pos (YLr _)];exact YMi _
 |@swp i pM C e x y hy he h _=>
  intro e';cases e';have hi:=(YLv.mp hy).1;refine⟨i + 1,C,by lia,h,?_⟩;have e1:(((i + 1:Nat):Int) - i - 1) * b=0:=by rw[show((i + 1:Nat):Int) - i - 1=0 by lia,Int.zero_mul]
  have e2:(((i + 1:Nat):Int) - i) * b=b:=by rw[show((i + 1:Nat):Int) - i=1 by lia,Int.one_mul]
  have key:sgT t a b c p i (i + 1)<=e:=by
   unfold sgT;rw[if_neg (by lia),e1,e2];rcases he with ⟨hxy,h0⟩ |h0 |h0
   ·have hin:YBA (YAN p) t i (i + 1)=true:=by
     rw[YEB (by lia) (by lia)];exact YLw (YCM.mpr ⟨i,YLr _,by lia,by rw[hy,hxy]⟩)
    rw[hin,if_pos rfl];split <;> lia
   ·split <;> split <;> lia
   ·split <;> split <;> lia
  lia
section
variable {g:Yl}{t:Str}{a b c:Int}{T:Tol}{ps:List Str}{O:OvF}{F:FiF}{fs:List (Nd×Int)}
theorem ZU.ext (W:ZU g t a b c T ps O F fs) (hb:0<=b) (hc:0<=c):∀(N:Nat) {p:Str}{i j:Nat},okP T.s p=true->i<=j->j + 1<=t.length->(O p i j).toNat=N->O p i (j + 1)<=O p i j + T.cut:=by
 intro N
 induction N using Nat.strongRecOn with
 |ind N ih=>
  intro p i j hok hij hj hN;cases hq:isQ p with
  |true=>
   rw[W.iv.sg p i (j + 1) hq,W.iv.sg p i j hq,W.et];exact YHn (by rw[W.es];exact YMv hc (YNP Zk)) (YLr _) hij (by lia) hj (by lia)
  |false=>
   have X:=W.ok hb;obtain⟨v,hv⟩:=YAP hok hq;obtain⟨m,rfl⟩:∃m,j=i + m:=⟨j - i,by lia⟩;obtain⟨r,ρ,hr,eh,hf,e⟩:=(X.o i m (by lia) p v hv).2;have hpos:=W.iv.pos p i (i + m);have key:∀{d m':Nat},d<=ρ.2.1.length->m'<=m->F r d i m'<=O p i (i + m)->F r d i (m' + 1)<=F r d i m' + T.cut:=by
    intro d
    induction d with
    |zero=>
     intro m' _ zK _;rw[(X.f i m' (by lia) r ρ hr).1,(X.f i (m' + 1) (by lia) r ρ hr).1];have e2:((m' + 1:Nat):Int) * T.cut=m' * T.cut + T.cut:=by push_cast;rw[YNR,Int.one_mul]
     lia
    |succ d ihd=>
     intro m' hd zK hV;obtain⟨q,eq_,Wq⟩:=JA (s:=T.s) (ps:=ρ.2.1) (j:=d) (by lia);obtain⟨k,hk,e1⟩:=((X.f i m' (by lia) r ρ hr).2 d q (by lia) eq_).2;have h1:=X.f1 hr (d:=d) (b:=i) (m:=k) (by lia) (by lia);have h2:=X.pos q (i + k) (i + m');have h3:=((X.f i (m' + 1) (by lia) r ρ hr).2 d q (by lia) eq_).1 k (by lia);have h4:=@ih (O q (i + k) (i + m')).toNat (by lia) q (i + k) (i + m') Wq (by lia) (by lia) rfl;rw[show i + m' + 1=i + (m' + 1) by lia]at h4
     lia
   have h5:=key (YLr _) (YLr m) (by rw[e];exact YMi _);have h6:=(X.o i (m + 1) (by lia) p v hv).1 r ρ hr eh hf;rw[show i + m + 1=i + (m + 1) by lia]
   lia
theorem ZU.exts (W:ZU g t a b c T ps O F fs) (hb:0<=b) (hc:0<=c) {p:Str}{i j:Nat} (hok:okP T.s p=true) (hij:i<=j):∀(n:Nat),j + n<=t.length->O p i (j + n)<=O p i j + n * T.cut
 |0,_=>by rw[YNi,Int.natCast_zero,Int.zero_mul];lia
 |n + 1,h=>by
  have h1:=W.exts hb hc hok hij n (by lia);have h2:=W.ext hb hc _ (p:=p) (i:=i) (j:=j + n) hok (by lia) (by lia) rfl;have e2:((n + 1:Nat):Int) * T.cut=n * T.cut + T.cut:=by push_cast;rw[YNR,Int.one_mul]
  rw[show j + (n + 1)=j + n + 1 by lia]
  lia
theorem ZU.rule (W:ZU g t a b c T ps O F fs) (hb:0<=b) {r:Nat}{ρ:Yp} (hr:g[r]?=some ρ) {i:Nat}:∀{d m:Nat}{v:Int},d<=rch T.s ρ.2.1->i + m<=t.length->ChX O (ρ.2.1.take d) i (i + m) v->F r d i m<=1 + v:=by
 have X:=W.ok hb;intro d
 induction d with
 |zero=>
  intro m v _ hm h;obtain⟨h1,h2⟩:=h.zero;have:m=0:=by lia
  subst this;rw[(X.f i 0 hm r ρ hr).1,h2,Int.natCast_zero,Int.zero_mul];decide
 |succ d ih=>
  intro m v hd hm h;obtain⟨p,ep,hok⟩:=JA (s:=T.s) (ps:=ρ.2.1) (j:=d) (by lia);rw[YMb,ep]at h;obtain⟨k,v1,v2,h1,h2,e⟩:=ChX.split (x:=ρ.2.1.take d) (y:=[p]) h;have hk1:=h1.le;have hk2:=h2.le;obtain⟨k',rfl⟩:∃k',k=i + k':=⟨k - i,by lia⟩;have h3:=ih (m:=k') (by lia) (by lia) h1;have h4:=((X.f i m hm r ρ hr).2 d p (by lia) ep).1 k' (by lia);have h5:=h2.one
  lia
theorem ZU.under (W:ZU g t a b c T ps O F fs) (hb:0<=b) (hc:0<=c) (hg:Yu g=true) {ws:List Str}{ks sg:List Nat} (h:Jz g ws ks sg):∀{i:Nat}{C:Int},Al t.cps.toList a b c i sg C->(∀p∈ws,okP T.s p=true)/\∃k v,k<=t.length/\ChX O ws i k v/\v + ((t.length:Int) - k) * T.cut<=C * M60 + ks.length:=by
 have hl:t.cps.toList.length=t.length:=YMM
 induction h with
 |nil=>
  intro i C hA;have hi:=hA.le;have e:=hA.rest rfl;refine⟨λp hp=>(nomatch hp),i,0,by lia,.nil,?_⟩;rw[e,W.ec,hl,Int.mul_assoc];show 0 + _<=_ + ((0:Nat):Int)
  lia
 |@sign p ws ks sg hq _ ih=>
  intro i C hA;obtain⟨k1,C',h1,h2,h3⟩:=hA.first (p:=p) hc rfl
  obtain⟨h4,k,v,h5,h6,h7⟩:=ih h2;have hk:=h6.le;refine⟨λq hq'=>?_,k,_,h5,.cons h1 h6,?_⟩
  ·rcases YMA.mp hq' with rfl |hq'
   ·unfold okP;rw[hq];rfl
   ·exact h4 q hq'
  ·rw[W.iv.sg p i k1 hq,W.et,W.ep,W.ec,W.es,YDQ];have h8:(sgT t a b c p i k1 + C') * M60<=C * M60:=YMx h3 (YNP Zk);rw[YNR]at h8;rw[W.ec]at h7
   lia
 |@name ρ ws r ks sg hq er _ ih=>
  intro i C hA;obtain⟨h4,k,v,h5,h6,h7⟩:=ih hA;obtain⟨m,v1,v2,h8,h9,e⟩:=h6.split;have hm1:=h8.le;have hm2:=h9.le;have hf:rch T.s ρ.2.1=ρ.2.1.length:=YA6 λp hp=>h4 p (YMc _ hp)
  have hin:=(W.head hq).mpr ⟨ρ,YLu er,Z,hf⟩;have hok:=W.po.2.1 _ hin;obtain⟨u,hu⟩:=YAP hok hq;obtain⟨m',rfl⟩:∃m',m=i + m':=⟨m - i,by lia⟩;have h10:=W.rule hb er (i:=i) (d:=ρ.2.1.length) (m:=m') (v:=v1) (by lia) (by lia) (by rw[YMn];exact h8);have Qx:=((W.ok hb).o i m' (by lia) ρ.1 u hu).1 r ρ er rfl hf;refine⟨λq hq'=>?_,k,_,h5,.cons hm1 h9,?_⟩
  ·rcases YMA.mp hq' with rfl |hq'
   ·exact hok
   ·exact h4 q (YMB _ hq')
  ·rw[YL8]
   push_cast
   lia
theorem ZU.least_row (W:ZU g t a b c T ps O F fs) (hb:0<=b) (hc:0<=c) (hg:Yu g=true) {z:Str}{ks sg:List Nat}{C:Int} (h:Jz g [z] ks sg) (hA:Al t.cps.toList a b c 0 sg C):O z 0 t.length<=C * M60 + ks.length:=by
 obtain⟨h4,k,v,h5,h6,h7⟩:=W.under hb hc hg h hA;have h1:=h6.one;have h2:=W.exts hb hc (i:=0) (j:=k) (h4 z (YL1.mpr rfl)) (YMI _) (t.length - k) (by lia);rw[show k + (t.length - k)=t.length by lia]at h2;have e:(((t.length - k:Nat):Int))=(t.length:Int) - k:=by lia
 rw[e]at h2
 lia
theorem pr_mulL {x L:Int} (h0:0<=L) (h1:L < M60):pr (x * M60 + L)=(x,L):=by
 have e:pr L=(0,L):=by
  unfold pr;rw[Int.ediv_eq_zero_of_lt h0 h1,YNX h0 h1]
 have h:=YIY (x:=x * M60) (y:=L) (by rw[Int.mul_emod_left,YNX h0 h1];lia);rw[<-h,YF6,e,Int.add_zero,YMk]
theorem ZU.least_pair (W:ZU g t a b c T ps O F fs) (hb:0<=b) (hc:0<=c) (hg:Yu g=true) {z:Str}{ks sg:List Nat}{C:Int} (h:Jz g [z] ks sg) (hA:Al t.cps.toList a b c 0 sg C) (hk:ks.length<=1000):ltP (C,(ks.length:Int)) (vpN O F (.part z 0 t.length))=false:=by
 have h1:=W.least_row hb hc hg h hA;have e:pr (C * M60 + ks.length)=(C,(ks.length:Int)):=pr_mulL (Int.natCast_nonneg _) (Int.lt_of_le_of_lt (show(ks.length:Int)<=1000 by lia) (by decide +kernel));rw[<-e];show ltP _ (pr (O z 0 t.length))=false;rw[ltP_pr];exact YLz (by lia)
end
theorem Xw:(["_law_k","_law_script"]:List Str).Nodup:=by decide +kernel
theorem YKF {z:Str} (h1:z.cps.toList.length<=60) (h2:z.cps.toList.all JR=true):Jh z=true:=by
 unfold Jh;rw[YMM]at h1;rw[YLw h1,h2];rfl
inductive YEO (K:W.Frag) (vs:List V) (H:Hp) (Q:VK):Prop where
 |mk (a:Addr) (ns:List Int) (a_:vs=[.ref a]) (bc:SqL K H a (ns.map V.int)) (bJ:YR H) (cA:∀(t:Addr) (x y z:Int) (H':Hp),(0<=x/\x<=10 ^ 60)->(0<=y/\y<=10 ^ 60)->(0<=z/\z<=10 ^ 60)->YN H H'->YR H'->H' t=some (.tup [.int x,.int y,.int z])->Q (.ref t) H'):YEO K vs H Q
def YFe (K:W.Frag):Sp:=λvs H Q E_=>YEO K vs H Q
theorem YLn {i:Nat}{v:V}{t u:TS}{D:YAo}{σ:St}{H:Hp} (h:YGL t u D (σ.set i (some v)) H):YGL (tAsg (tC v) (ZK i)) (YGL t u) D σ H:=h
inductive YHo (vs:List V) (H:Hp) (Q:VK):Prop where
 |mk (c m:Int) (l:Addr) (cs:List Nat) (a_:vs=[.int c,.ref l,.int m]) (bc:H l=some (.lst (cs.map chV))) (bJ:1<=cs.length) (cA:cs.length<=10) (dm:(∀x∈cs,JR x=true)) (gM:0<=m) (lq:m<=4) (m6:∀z:Str,Jh z=true->z.length<=4->Q (.str z) H):YHo vs H Q
def YJQ:Sp:=λvs H Q E_=>YHo vs H Q
inductive YFf (K:W.Frag) (vs:List V) (H:Hp) (Q:VK):Prop where
 |mk (t s:Str) (ct lc:Addr) (a b c:Int) (ns:List Int) (a_:vs=[.str t,.str s,.ref ct,.ref lc]) (bc:t.length<=60) (bJ:s.length<=60) (cA:H ct=some (.tup [.int a,.int b,.int c])) (dm:(0<=a/\a<=10 ^ 60)) (gM:(0<=b/\b<=10 ^ 60)) (lq:(0<=c/\c<=10 ^ 60)) (m6:SqL K H lc (ns.map V.int)) (ug:∀C:Int,Al t.cps.toList a b c 0 s.cps.toList C->Q (.int C) H):YFf K vs H Q
def YHp (K:W.Frag):Sp:=λvs H Q E_=>YFf K vs H Q
section
variable {P:Program}{w:World}{K:W.Frag}{mg:Str->Option Value}{base:Heap}{C:Adr}
theorem YEi:YX ["_law_script"] ["_law_script"] (YQ XY):=⟨Z,Z,Z,by decide +kernel,Z,by decide +kernel,by decide +kernel⟩
theorem YEj {f:Addr}{fd:FuncData} (F:Fun K "_law_costs" "_law_costs" XY f fd) (T:Txt K mg C) (bA:Zc P w K mg CX0 1 "_law_worth" ["_law_cell"] (YEG)) (aC:Zc P w K mg CX0 1 "_law_cell_at" ["_law_script","_law_k"] (YFt K)):Yt P w K mg base CX0 2 f fd ["_law_script"] (YFe K):=by
 obtain⟨mG,lF,cD,cF,cG,cH⟩:=bA.ok;obtain⟨eZ,dX,aV,aW,aX,aY⟩:=aC.ok;refine F.ok YEi (λvs H Q E h=>?_) (λaO A outer s H vs Q E hr h=>?_)
 ·cases h;subst_vars;rfl
 ·obtain⟨a,ns,rfl,hS,hp,q⟩:=h;refine qex ?_;refine⟨_,(Y1 ⟨(Yc (Xa (YAy K rfl) (by rfl) T.iI YM2 (YA (Z3 (N:=["_law_k","_law_script"]) (ρ:=[none,some 0]) rfl (Yj.closes ["_law_script"] (YQ XY).names rfl rfl rfl rfl (by decide +kernel) (by decide +kernel) (λx h=>Jg h) (by decide +kernel) rfl (by decide +kernel)) (Z7 K rfl (Zr (YA YC (YA YC (YA YC YB))))) (λ_ _ _ _ _=>(YU (i:=0) Xw rfl (Or.inl rfl) (.inr rfl))) (λ_ _ _ _ _=>Zh) (λ_ _ _ _ _=>(YZ (cD base) (hr.mono (by decide)) (by rfl) cF cG cH .nil Yi (YA (YZ (aV base) (hr.mono (by decide)) (by rfl) aW aX aY .nil Yi (YA (pv 1) (YA (pv 0) YB))) YB)))) YB)))⟩),?_⟩;refine⟨YH (by show 3<=1000;decide),λl0 hl0=>?_⟩;have s1:=YN.upd (o:=.lst [.int 0,.int 1,.int 9]) hl0;have p1:YR (upd H l0 (.lst [.int 0,.int 1,.int 9])):=hp.upd rfl;have h1:upd H l0 (.lst [.int 0,.int 1,.int 9]) l0=some (.lst [.int 0,.int 1,.int 9]):=YD;revert s1 p1 h1;generalize upd H l0 (.lst [.int 0,.int 1,.int 9])=H1;intro s1 p1 h1;refine⟨l0,Z,⟨_,SqL.of h1⟩,λl hl=>?_⟩;refine Zf (n:=3) 0 (λk y _=>∃z:Int,y=.int z/\(0<=z/\z<=10 ^ 60)) (Xl (SqL.of (K:=K) h1)) (λ_ _ _ _ _ h=>h) p1 hl (show 0 < 2 by decide) (YH (by decide)) (λτ'=>τ'[1]?=some (some (.ref a))) rfl (λτ' v h=>by rw[List.getElem?_set_ne (by decide)];exact h) ?_ ?_
  ·intro τ' k y H' R hτ1 hτ hit hk hs hp' lU hR;obtain⟨c,c0,rfl⟩:∃c:Int,0<=c/\y=.int c:=by
    have hm:=YLu hit;simp only[YMA,YMo,or_false]at hm;rcases hm with rfl |rfl |rfl
    ·exact⟨0,by decide,Z⟩
    ·exact⟨1,by decide,Z⟩
    ·exact⟨9,by decide,Z⟩
   exact⟨_,hτ1,_,hτ,a,ns,c,Z,(s1.trans hs).seq hS,c0,λv=>⟨v,Z,λz z0 z1=>hR _ _ (YN.refl _) hp' ⟨z,Z,z0,z1⟩⟩⟩
  ·intro ys H2 hy hP s2 p2 h2;obtain⟨x,y,z,rfl⟩:∃x y z,ys=[x,y,z]:=by
    match ys,hy with
    |[x,y,z],_=>exact⟨x,y,z,Z⟩
   obtain⟨x,rfl,hx⟩:=hP 0 x rfl;obtain⟨y,rfl,hy'⟩:=hP 1 y rfl;obtain⟨z,rfl,hz⟩:=hP 2 z rfl;refine⟨l,_,Z,.inl ⟨SqL.of h2,λt ht=>?_⟩⟩;exact q t x y z _ hx hy' hz ((s1.trans s2).trans (YN.upd ht)) (p2.upd rfl) YD
theorem JS:YX ["_law_cell","_law_some","_law_many","_law_signs_here","_law_k"] ["_law_cell","_law_some","_law_many"] (YQ YAh):=⟨Z,Z,Z,by decide +kernel,Z,by decide +kernel,by decide +kernel⟩
theorem YEk {f:Addr}{fd:FuncData} (F:Fun K "_law_drawn" "_law_drawn" YAh f fd) (T:Txt K mg C):Yt P w K mg base CX0 1 f fd ["_law_cell","_law_some","_law_many"] (YJQ):=by
 refine F.ok JS (λvs H Q E h=>?_) (λaO A outer s H vs Q E hr h=>?_)
 ·cases h;subst_vars;rfl
 ·obtain⟨c,m,l,cs,rfl,hl,h1,h10,hcs,hm0,hm4,q⟩:=h;have hU:=hr.units;refine qex ?_;refine⟨_,(YE (JW (i:=3) JS.nd rfl (Or.inl rfl) YK0)
   (YE ⟨(Yq PassesOwn.never rfl (Y7 rfl T.aG (YA (pv 2) YB)) (YU (i:=4) JS.nd rfl (Or.inl rfl)) (YG (YK (i:=3) JS.nd rfl (Or.inl rfl) (YI JV (pv 3) (YM (YT K rfl) (pv 1) (YI Y2 (pv 0) (YO (YL K rfl) (by rfl) T.ak YLq (YA (pv 1) YB))) (λ_ _=>rfl))))
   (YF (YK (i:=0) JS.nd rfl (Or.inl rfl) (YI ZB (pv 0) (YO (YL K rfl) (by rfl) T.ak YLq (YA (pv 1) YB)))))))⟩
   (Y1 ⟨(Yc (pv 3))⟩))),?_⟩
  have sq:SqL K H l (cs.map chV):=SqL.of hl;refine⟨_,Z,m,Z,(in62 (by lia) (by lia)).1,(in62 (by lia) (by lia)).2,?_⟩;refine ZI (lo:=0) (n:=m.toNat) (λi σ H'=>H'=H/\∃(c:Int) (z:Str) (v4:Option V),σ=[some (.int c),some (.ref l),some (.int m),some (.str z),v4]/\z.length=i/\z.cps.toList.all JR=true) ⟨Z,c,_,none,Z,(by decide +kernel),(by decide +kernel)⟩ ?_ ?_
  ·rintro i σ H' hi ⟨rfl,c,z,v4,rfl,hz,hg⟩;obtain⟨y,hy,hm⟩:=Z8 (xs:=cs.map chV) (i:=c % ((cs.map chV).length:Nat)) (YMe _ (by rw[YLp];lia)) (YMg _ (by rw[YLp];lia));obtain⟨x,hx,rfl⟩:=YMD.mp hm;refine⟨_,Z,_,Z,_,Z,_,Z,l,_,Z,.inl sq,_,_,Z,Z,(by rw[YLp];show(0:Int) < _;lia),l,_,_,_,Z,Z,sq,hy,z,_,Z,Z,YH (by show z.length + 1<=1000;lia),?_⟩;refine⟨_,Z,_,Z,l,_,Z,.inl sq,_,_,Z,Z,?_,Z,_,z ++ ⟨#[x]⟩,_,Z,by rw[slen,hz];rfl,?_⟩
   ·rw[YLp];exact⟨by lia,by lia⟩
   ·rw[YAL,List.all_append,hg];show(true && [x].all JR)=true;rw[YNO,hcs x hx];rfl
  ·rintro σ H' ⟨rfl,c,z,v4,rfl,hz,hg⟩;exact⟨_,Z,q z (YKF (by rw[YMM];show z.length<=60;lia) hg) (by lia)⟩
theorem Yb:YX ["_law_signs_here","_law_made","_law_costs_here","_law_cells","_law_i","_law_j","_law_cost","_law_step","_law_cell"] ["_law_signs_here","_law_made","_law_costs_here","_law_cells"] (YQ Jt):=⟨Z,Z,Z,by decide +kernel,Z,by decide +kernel,by decide +kernel⟩
theorem YB0 {f:Addr}{fd:FuncData} (F:Fun K "_law_drawn_cost" "_law_drawn_cost" Jt f fd) (T:Txt K mg C):Yt P w K mg base CX0 1 f fd ["_law_signs_here","_law_made","_law_costs_here","_law_cells"] (YHp K):=by
 refine F.ok Yb (λvs H Q E h=>?_) (λaO A outer s H vs Q E hr h=>?_)
 ·cases h;subst_vars;rfl
 ·obtain⟨t,s',ct,lc,a,b,c,ns,rfl,ht,hs,hct,ha,hb,hc,hS,q⟩:=h;have hU:=hr.units;refine qex ?_;refine⟨_,(YE (JW (i:=4) Yb.nd rfl (Or.inl rfl) YA1)
   (YE (JW (i:=5) Yb.nd rfl (Or.inl rfl) YA1)
   (YE (JW (i:=6) Yb.nd rfl (Or.inl rfl) YA1)
   (YE (JW (i:=7) Yb.nd rfl (Or.inl rfl) YA1)
   (YE ⟨(Xg PassesOwn.never (PW.pt (YAr (YW Xh (pv 4) (YO Yz (by rfl) T.ak YLq (YA (pv 0) YB)) (Yd _)) (YAT (YW Xh (pv 5) (YO Yz (by rfl) T.ak YLq (YA (pv 1) YB)) (Yd _))))) (YG (YK (i:=8) Yb.nd rfl (Or.inl rfl) YC)
   (YG (Yx (YW Xh (pv 7) (YO (YL K rfl) (by rfl) T.ak YLq (YA (pv 3) YB)) (Yd _)) (YF (YK (i:=8) Yb.nd rfl (Or.inl rfl) (YI Y2 (YI ZB (YM (YT K rfl) (pv 3) (pv 7) (λ_ _=>rfl)) YC) YC))) Yk)
   (YG (YK (i:=7) Yb.nd rfl (Or.inl rfl) (YI Ye (pv 7) YC))
   (YF (Yx (PW.pt (YAr (YW Jd (pv 5) (YO Yz (by rfl) T.ak YLq (YA (pv 1) YB)) (Yd _)) (YAT (PW.pt (X7 (YW Xh (pv 4) (YO Yz (by rfl) T.ak YLq (YA (pv 0) YB)) (Yd _)) (XQ (YW Jd (pv 8) YC (Yd _)))))))) (YG (YK (i:=6) Yb.nd rfl (Or.inl rfl) (YI Ye (pv 6) (YM (YS K rfl) (pv 2) YC (λ_ _=>rfl))))
   (YF (YK (i:=4) Yb.nd rfl (Or.inl rfl) (YI Ye (pv 4) YC)))) (YF (Yx (PW.pt (YAr (YW Jd (pv 4) (YO Yz (by rfl) T.ak YLq (YA (pv 0) YB)) (Yd _)) (YAT (YW Jd (pv 8) YC (Yd _))))) (YG (YK (i:=6) Yb.nd rfl (Or.inl rfl) (YI Ye (pv 6) (YM (YS K rfl) (pv 2) YC (λ_ _=>rfl))))
   (YF (YK (i:=5) Yb.nd rfl (Or.inl rfl) (YI Ye (pv 5) YC)))) (YG (YK (i:=6) Yb.nd rfl (Or.inl rfl) (YI Ye (pv 6) (YI XU (YO (YBN rfl) (by rfl) T.m8 YM7 (YA (YM (YS K rfl) (pv 2) YC (λ_ _=>rfl)) (YA (YI Ye (YM (YS K rfl) (pv 2) YC (λ_ _=>rfl)) (YM (YS K rfl) (pv 2) YC (λ_ _=>rfl))) YB))) (Xa YJY (by rfl) T.vI PyProof.Rows.Boot.«int» (YA (YAU YCt (YM Zt (pv 0) (pv 4) (λ_ _=>rfl)) (YM Zt (pv 1) (pv 5) (λ_ _=>rfl)) (Yd _)) YB)))))
   (YG (YK (i:=4) Yb.nd rfl (Or.inl rfl) (YI Ye (pv 4) YC))
   (YF (YK (i:=5) Yb.nd rfl (Or.inl rfl) (YI Ye (pv 5) YC)))))))))))))⟩
   (Y1 ⟨(Yc (pv 6))⟩)))))),?_⟩
  have hl:t.cps.toList.length=t.length:=YMM;have hl':s'.cps.toList.length=s'.length:=YMM;have tln:t.length<=sizeLine:=YH (by lia);have sln:s'.length<=sizeLine:=YH (by lia);have sqc:=SqT.of (K:=K) hct;refine⟨λμ σ H'=>H'=H/\∃(i j:Nat) (cost:Int) (st:Nat) (v8:Option V),σ=[some (.str t),some (.str s'),some (.ref ct),some (.ref lc),some (.int (i:Int)),some (.int (j:Int)),some (.int cost),some (.int (st:Int)),v8]/\i<=t.length/\j<=s'.length/\μ=(t.length - i) + (s'.length - j)/\∀C',Al t.cps.toList a b c i (s'.cps.toList.drop j) C'->Al t.cps.toList a b c 0 s'.cps.toList (cost + C'),⟨_,Z,0,0,0,0,none,Z,YMI _,YMI _,Z,λC' h=>by rw[YMk];exact h⟩,?_⟩;rintro μ σ H' ⟨rfl,i,j,cost,st,v8,rfl,hi,hj,hμ,hA⟩;refine⟨_,Z,_,Z,t,Z,tln,_,_,Z,Z,_,Z,?_⟩
  by_cases hlt:i < t.length\/j < s'.length
  case neg=>
   rw[YLz (by lia)];refine ZA ⟨_,Z,_,Z,s',Z,sln,_,_,Z,Z,_,Z,?_⟩;rw[YLz (by lia)];refine ZA ⟨_,Z,?_⟩;have e1:i=t.cps.toList.length:=by lia
   have:=hA 0 (by rw[List.drop_of_length_le (by lia),e1];exact .nil);rw[Int.add_zero]at this;exact q _ this
  refine(λbody=>JP (λ_=>ZG body) (λh=>⟨_,Z,_,Z,s',Z,sln,_,_,Z,Z,_,Z,?inner⟩)) ?_
  case inner=>
   rw[YLw (show(j:Int) < (s'.length:Int) by
    rcases hlt with hx |hx
    ·exact absurd (YLw (show(i:Int) < (t.length:Int) by lia)) h
    ·lia)]
   exact ZG body
  refine⟨_,λ_ _ h=>h,?_⟩;have less:i < t.length->j < s'.length->(t.length - (i + 1)) + (s'.length - (j + 1)) < (t.length - i) + (s'.length - j):=λh1 h2=>by lia
  have mulB:∀k:Bool,YIo (if a + b < c then a + b else c) (if k=true then 1 else 0):=λk=>by
   have two:(2:Int) * 10 ^ 60 < 2 ^ 4000:=by decide +kernel
   have h0:0<=(if a + b < c then a + b else c):=by split <;> lia
   have h1:(if a + b < c then a + b else c)<=2 * 10 ^ 60:=by split <;> lia
   refine⟨?_,?_⟩
   ·have h3:=Int.lt_of_le_of_lt h1 two;have h4:=Int.natAbs_of_nonneg h0;rw[<-h4]at h3
    exact_mod_cast h3
   ·have:(if k=true then (1:Int) else 0).natAbs<=1:=by cases k <;> decide
    exact YNN this (by decide +kernel)
  have costE:∀x y:Nat,x=y/\0<=(if a + b < c then a + b else c) * (if (!decide (V.str ⟨#[y]⟩=V.str ⟨#[x]⟩))=true then 1 else 0)\/c<=(if a + b < c then a + b else c) * (if (!decide (V.str ⟨#[y]⟩=V.str ⟨#[x]⟩))=true then 1 else 0)\/a + b<=(if a + b < c then a + b else c) * (if (!decide (V.str ⟨#[y]⟩=V.str ⟨#[x]⟩))=true then 1 else 0):=λx y=>by
   by_cases hxy:x=y
   ·refine .inl ⟨hxy,?_⟩;rw[YLw (by rw[hxy])];show 0<=_ * (0:Int);rw[Int.mul_zero];exact YMi _
   ·have hv:¬V.str (⟨#[y]⟩:Str)=V.str ⟨#[x]⟩:=λz=>hxy (by
     have:=V.str.inj z
     injection this with this
     simpa using this.symm)
    rw[YLz hv];show _\/c<=_ * (1:Int)\/a + b<=_ * (1:Int);rw[Int.mul_one];refine .inr ?_;split <;> lia
  have getT:i < t.length->∃y,t.cps.toList[i]?=some y:=λh=>⟨_,YLs (by lia)⟩
  have getS:j < s'.length->∃x,s'.cps.toList[j]?=some x/\s'.cps.toList.drop j=x :: s'.cps.toList.drop (j + 1):=λh=>by
   obtain⟨x,hx⟩:∃x,s'.cps.toList[j]?=some x:=⟨_,YLs (by lia)⟩;exact⟨x,hx,by rw[YMz (by lia),<-(YLv.mp hx).2]⟩
  have hjn:¬j=s'.length->j < s'.length:=λh=>by lia
  have hj0:j=s'.length->i < t.length:=λh=>by lia
  have hin:¬i=t.length->i < t.length:=λh=>by lia
  have Ac:i < t.length->(i:Int) < (t.length:Int):=λh=>by lia
  have zy:(i:Int) < (t.length:Int)->i < t.length:=λh=>by lia
  have stp:(st:Int) + 1=((st + 1:Nat):Int):=by lia
  have ip:(i:Int) + 1=((i + 1:Nat):Int):=by lia
  have jp:(j:Int) + 1=((j + 1:Nat):Int):=by lia
  have fin:∀(i' j':Nat) (I J ur S:Int) (st':Nat) (v8:Option V),I=(i':Int)->J=(j':Int)->S=(st':Int)->i'<=t.length->j'<=s'.length->(t.length - i') + (s'.length - j') < (t.length - i) + (s'.length - j)->(∀C',Al t.cps.toList a b c i' (s'.cps.toList.drop j') C'->Al t.cps.toList a b c i (s'.cps.toList.drop j) (ur + C'))->
    ∃m',m' < μ/\H'=H'/\∃(i2 j2:Nat) (wg:Int) (jO:Nat) (v82:Option V),[some (V.str t),some (.str s'),some (.ref ct),some (.ref lc),some (.int I),some (.int J),some (.int (cost + ur)),some (.int S),v8]=[some (.str t),some (.str s'),some (.ref ct),some (.ref lc),some (.int (i2:Int)),some (.int (j2:Int)),some (.int wg),some (.int (jO:Int)),v82]/\i2<=t.length/\j2<=s'.length/\m'=(t.length - i2) + (s'.length - j2)/\∀C',Al t.cps.toList a b c i2 (s'.cps.toList.drop j2) C'->Al t.cps.toList a b c 0 s'.cps.toList (wg + C'):=λi' j' I J ur S st' v8 eI eJ eS h1 h2 h3 h4=>by
   subst eI eJ eS;refine⟨_,by rw[hμ];exact h3,Z,i',j',_,st',v8,Z,h1,h2,Z,λC' hC=>?_⟩;rw[Int.add_assoc];exact hA _ (h4 C' hC)
  refine YLn (YEM (λσ' H''=>H''=H'/\∃(cl:Int),σ'=[some (.str t),some (.str s'),some (.ref ct),some (.ref lc),some (.int (i:Int)),some (.int (j:Int)),some (.int cost),some (.int (st:Int)),some (.int cl)]) ?_ λjJ=>?_)
  ·rintro σ' H'' ⟨rfl,cl,rfl⟩;refine⟨_,Z,_,_,Z,Z,?_⟩;dsimp only[ZK];have doCut:i < t.length->_:=λhit=>fin (i + 1) j _ _ b _ (st + 1) (some (.int cl)) ip rfl stp (by lia) hj (by lia) λC' h=>.cut (by lia) h
   have doPut:j < s'.length->_:=λhjt=>fin i (j + 1) _ _ a _ (st + 1) (some (.int cl)) rfl jp stp hi (by lia) (by lia) λC' h=>by
    obtain⟨x,hx,ed⟩:=getS hjt;rw[ed];exact .put x h
   refine⟨_,Z,_,Z,s',Z,sln,Z,_,Z,?_⟩
   by_cases yt:j=s'.length
   ·rw[YLw (by rw[yt])];exact ZG ⟨_,Z,_,Z,ct,_,1,_,Z,Z,sqc,Z,_,_,Z,Z,_,Z,_,_,Z,Z,doCut (hj0 yt)⟩
   rw[YLz (λz=>yt (Int.ofNat_inj.mp (V.int.inj z)))];refine ZA ⟨_,Z,_,Z,t,Z,tln,_,_,Z,Z,_,Z,?_⟩;refine(λels=>JP (λh1=>?one) (λh=>ZA els)) ?_
   case one=>
    refine⟨_,Z,Z,_,Z,?_⟩;refine JP (λh2=>?_) λh2=>els
    have h1:=YME h1;exact⟨_,Z,_,Z,ct,_,1,_,Z,Z,sqc,Z,_,_,Z,Z,_,Z,_,_,Z,Z,doCut (zy h1)⟩
   refine⟨_,Z,_,Z,t,Z,tln,Z,_,Z,?_⟩;refine(λput=>JP (λh1=>put) (λh1=>⟨_,Z,Z,_,Z,?two⟩)) ?_
   case two=>
    refine JP (λh2=>put) λh2=>?_
    have hit:i < t.length:=hin λh=>h1 (YLw (by rw[h]))
    obtain⟨y,hy⟩:=getT hit;obtain⟨x,hx,ed⟩:=getS (hjn yt);refine⟨_,Z,_,Z,ct,_,2,_,Z,Z,sqc,Z,_,Z,ct,_,0,_,Z,Z,sqc,Z,_,Z,ct,_,1,_,Z,Z,sqc,Z,_,_,Z,Z,_,_,Z,_,Z,_,Z,t,_,y,Z,Z,tln,Yn hy,_,Z,_,Z,s',_,x,Z,Z,sln,Yn hx,Z,.inr ⟨_,Z,_,_,Z,Z,mulB _,_,_,Z,Z,_,Z,_,_,Z,Z,_,Z,_,_,Z,Z,?_⟩⟩;exact fin (i + 1) (j + 1) _ _ _ _ (st + 1) (some (.int cl)) ip jp stp hit (hjn yt) (less hit (hjn yt)) λC' h=>by rw[ed];exact .swp x y hy (costE x y) h
   exact⟨_,Z,_,Z,ct,_,0,_,Z,Z,sqc,Z,_,_,Z,Z,_,Z,_,_,Z,Z,doPut (hjn yt)⟩
  ·refine⟨_,Z,_,Z,lc,_,Z,.inl hS,_,_,Z,Z,_,Z,?_⟩;rw[YLp];refine JP (λh=>?_) λh=>jJ _ _ ⟨Z,_,Z⟩
   have h:=YME h;have hst:st < ns.length:=by lia
   refine⟨_,Z,_,Z,lc,_,_,_,Z,Z,hS,Yn (by rw[YLt,YLs hst];rfl),_,_,Z,Z,⟨by decide,by decide⟩,_,_,Z,Z,(show(0:Int) < 7 by decide),?_⟩;exact jJ _ _ ⟨Z,_,Z⟩
end
theorem YCR:(["_law_cell"]:List Str).Nodup:=by decide +kernel
def F74 (H:Hp) (u:Addr) (r0:Yp) (rest:List Yp) (t:Str) (a b c:Int):Prop:=∃(T:Tol) (ps:List Str) (O:OvF) (F:FiF) (fs:List (Nd×Int)) (ld lw:Addr) (xs:List V),ZU (r0 :: rest) t a b c T ps O F fs/\H u=some (.tup [.int (vpN O F (.part r0.1 0 t.length)).1,.ref ld,.ref lw])/\H lw=some (.lst xs)/\(xs.length:Int)=(vpN O F (.part r0.1 0 t.length)).2
theorem F74.same {H H':Hp}{u:Addr}{r0:Yp}{rest:List Yp}{t:Str}{a b c:Int} (h:F74 H u r0 rest t a b c) (s:YN H H'):F74 H' u r0 rest t a b c:=by
 obtain⟨T,ps,O,F,fs,ld,lw,xs,h1,h2,h3,h4⟩:=h;exact⟨T,ps,O,F,fs,ld,lw,xs,h1,s _ _ h2,s _ _ h3,h4⟩
theorem YLo {B TG:Addr}{r0:Yp}{rest:List Yp}{hs:List Str}{t:Str}{a b c:Int} (hg:Yu (r0 :: rest)=true) (h3:hs.length<=3) (hR:∀r∈r0 :: rest,R72 hs r) (hSh:∀h∈hs,ShR (r0 :: rest) h) (ht:Jh t=true) (ht5:t.length<=5) (ha:0<=a/\a<=10 ^ 60) (hb:0<=b/\b<=10 ^ 60) (hc:0<=c/\c<=10 ^ 60)
  {H:Hp}{Q:VK}{E:XK}{lh ct:Addr}{xs:List V} (hl:H lh=some (.lst xs)) (hds:Yh H xs ((r0 :: rest).map ZR)) (hct:H ct=some (.tup [.int a,.int b,.int c])) (p:YR H) (k:∀u H',F74 H' u r0 rest t a b c->YN H H'->YR H'->Q (.ref u) H'):YEF B TG [.ref lh,.str t,.ref ct] H Q E:=by
 have Qz:isQ r0.1=false:=YCC (YAM (Ji hg (i:=0) rfl));have small:∀{T ps O F fs},ZU (r0 :: rest) t a b c T ps O F fs->T.s.length<=3:=λW=>W.small h3 λρ hρ=>(hR ρ hρ).2.2
 have hB:∀T ps O F fs,ZU (r0 :: rest) t a b c T ps O F fs->(t.length + 1) * T.s.length<=60:=λT ps O F fs W=>YMP (Nat.mul_le_mul (show t.length + 1<=6 by lia) (small W)) (by decide)
 have inP:∀{T ps O F fs},ZU (r0 :: rest) t a b c T ps O F fs->r0.1∈ps:=λW=>by
  obtain⟨r,hr,e1,e2,_⟩:=hSh r0.1 (hR r0 (YMG ..)).2.2;exact(W.head Qz).mpr ⟨r,hr,e1,YA6 λp hp=>by unfold okP;rw[e2 p hp];rfl⟩
 have few:∀{T ps O F fs},ZU (r0 :: rest) t a b c T ps O F fs->(vpN O F (.part r0.1 0 t.length)).2<=742:=λ{T ps O F fs} W=>by
  obtain⟨v,hv⟩:=YAP (W.po.2.1 _ (inP W)) Qz;exact(W.ok hb.1).few5 (λρ hρ=>(hR ρ hρ).2.1) (small W) hv (YLr _) ht5
 refine⟨.ref lh,ct,r0,rest,t,a,b,c,Z,.lst (.inl hl) hds,YIA hg,hg,ht,hct,ha,hb,hc,p,hB,(λT ps O F fs H' W' n=>absurd (inP W') n),(λT ps O F fs H' W' _ n=>by have:=few W';lia),λT ps' O' F' fs' u ld lw ds row H' W' hin mk hu' hd' hw' ne n1 n2 s' p'=>?_⟩;obtain⟨_,h2,_⟩:=mk.sem;have e2:YEb (λn=>(vpN O' F' n).2) [.part r0.1 0 t.length]=(vpN O' F' (.part r0.1 0 t.length)).2:=Int.add_zero _;rw[e2]at h2;refine k u H' ⟨T,ps',O',F',fs',ld,lw,_,W',hu',hw',?_⟩ s' p';rw[<-h2];unfold YBw;rw[YLp,YLp]
section
variable {P:Program}{w:World}{K:W.Frag}{mg:Str->Option Value}{base:Heap}{C:Adr}
theorem JO:YX ["_law_script","_law_grammar_here","_law_way","_law_signs_here","_law_costs_here","_law_turned","_law_found","_law_other","_law_cells","_law_at","_law_size","_law_some","_law_row_here","_law_made"] ["_law_script"] (YQ YCO):=⟨Z,Z,Z,by decide +kernel,Z,by decide +kernel,by decide +kernel⟩
theorem ok_law {f:Addr}{fd:FuncData} (F:Fun K "law" "law" YCO f fd) (T:Txt K mg C) (cT:Zc P w K mg CX0 3 "_law_grammar" ["_law_script"] (YLe K)) (bx:Zc P w K mg CX0 2 "_law_mixed" ["_law_script","_law_k"] (YGB K)) (dU:Zc P w K mg CX0 1 "_law_drawn" ["_law_cell","_law_some","_law_many"] (YJQ)) (dW:Zc P w K mg CX0 2 "_law_costs" ["_law_script"] (YFe K)) (j9:Zc P w K mg (CXo P w) 10 "mended" ["grammar","text","costs"] (YEF C.Barren C.TooGreat)) (bz:Zc P w K mg CX0 1 "_law_signs" ["_law_cell"] (YGC)) (iG:Zc P w K mg CX0 2 "_law_row" ["_law_grammar_here","_law_cells","_law_room"] (YJO K)) (gf:Zc P w K mg CX0 1 "_law_read" ["_law_grammar_here","_law_row_here"] (YLk)) (b_:Zc P w K mg CX0 1 "_law_drawn_cost" ["_law_signs_here","_law_made","_law_costs_here","_law_cells"] (YHp K)):Yt P w K mg base CX0 11 f fd ["_law_script"] (YGg K):=by
 obtain⟨uc,sJ,j_,kh,kj,km⟩:=cT.ok;obtain⟨mD,lD,aP,aQ,aR,aU⟩:=bx.ok;obtain⟨vo,uz,mH,mJ,mK,mL⟩:=dU.ok;obtain⟨vq,uA,mO,mQ,mR,mU⟩:=dW.ok;obtain⟨zE,yG,nU,nW,nY,nZ⟩:=j9.ok;obtain⟨mF,lE,dM,dN,dO,dR⟩:=bz.ok;obtain⟨wZ,vP,qt,qu,qw,qx⟩:=iG.ok;obtain⟨vQ,vy,n8,n_,ph,pq⟩:=gf.ok;obtain⟨qL,qy,cX,cY,cZ,c7⟩:=b_.ok;refine F.ok JO (λvs H Q E h=>?_) (λaO A outer s H vs Q E hr h=>?_)
 ·cases h;subst_vars;rfl
 ·obtain⟨a,ns,rfl,hS,hn,hp,q⟩:=h;have hu:=Zq hr;have hU:=hr.units;refine qex ?_;refine⟨_,(YE ⟨(YK (i:=1) JO.nd rfl (Or.inl rfl) (YZ (j_ base) (hr.mono (by decide)) (by rfl) kh kj km .nil Yi (YA (pv 0) YB)))⟩
   (YE ⟨(YK (i:=2) JO.nd rfl (Or.inl rfl) (YZ (aP base) (hr.mono (by decide)) (by rfl) aQ aR aU .nil Yi (YA (pv 0) (YA YC YB))))⟩
   (YE ⟨(YK (i:=3) JO.nd rfl (Or.inl rfl) (YZ (mH base) (hr.mono (by decide)) (by rfl) mJ mK mL .nil Yi (YA (YI ZB (pv 2) YC) (YA (YZ (dM base) (hr.mono (by decide)) (by rfl) dN dO dR .nil Yi (YA (YZ (aP base) (hr.mono (by decide)) (by rfl) aQ aR aU .nil Yi (YA (pv 0) (YA YC YB))) YB)) (YA (YI Y2 (pv 2) YC) YB)))))⟩
   (YE ⟨(YK (i:=4) JO.nd rfl (Or.inl rfl) (YZ (mO base) (hr.mono (by decide)) (by rfl) mQ mR mU .nil Yi (YA (pv 0) YB)))⟩
   (YE ⟨(YK (i:=5) JO.nd rfl (Or.inl rfl) (Ze (YA (YM (YS K rfl) (pv 4) YC (λ_ _=>rfl)) (YA (YM (YS K rfl) (pv 4) YC (λ_ _=>rfl)) (YA (YM (YS K rfl) (pv 4) YC (λ_ _=>rfl)) YB)))))⟩
   (YE ⟨(YK (i:=6) JO.nd rfl (Or.inl rfl) (YZ (nU base) (hr.mono (by decide)) (by rfl) nW nY nZ .nil passX (YA (Xa (X9 K rfl) (by rfl) T.gP YMr (YA (pv 1) YB)) (YA (pv 3) (YA (pv 4) YB)))))⟩
   (YE ⟨(YK (i:=7) JO.nd rfl (Or.inl rfl) (YZ (nU base) (hr.mono (by decide)) (by rfl) nW nY nZ .nil passX (YA (Xa (X9 K rfl) (by rfl) T.gP YMr (YA (pv 1) YB)) (YA (pv 3) (YA (pv 5) YB)))))⟩
   (YE ⟨(YK (i:=8) JO.nd rfl (Or.inl rfl) (Zy (J9 K rfl) (pv 0) (ZZ YC) YAW))⟩
   (YE (JW (i:=9) JO.nd rfl (Or.inl rfl) YA1)
   (YE ⟨(Xg PassesOwn.never (YW Xi (pv 9) (YO (YL K rfl) (by rfl) T.ak YLq (YA (pv 8) YB)) (Yd _)) (YG (YK (i:=10) JO.nd rfl (Or.inl rfl) YC)
   (YG (Yx (YW Xh (pv 9) (YO (YL K rfl) (by rfl) T.ak YLq (YA (pv 8) YB)) (Yd _)) (YF (YK (i:=10) JO.nd rfl (Or.inl rfl) (YI Ye YC (YI Y2 (YM (YT K rfl) (pv 8) (pv 9) (λ_ _=>rfl)) YC)))) Yk)
   (YG (YK (i:=11) JO.nd rfl (Or.inl rfl) (Zy (J9 K rfl) (pv 8) (ZZ (pv 9)) (ZZ (YI Ye (pv 9) (pv 10)))))
   (YG (YK (i:=12) JO.nd rfl (Or.inl rfl) (YZ (qt base) (hr.mono (by decide)) (by rfl) qu qw qx .nil Yi (YA (pv 1) (YA (Z3 (N:=["_law_cell"]) (ρ:=[none]) (cl:=[]) rfl (Yj.plain rfl (by decide +kernel) (by decide +kernel) rfl (by simp)) (Z7 K rfl (pv 11)) (λ_ _ _ _ _=>(YU (i:=0) YCR rfl (Or.inl rfl) (.inr rfl))) (λ_ _ _ _ _=>Zh) (λ_ _ _ _ _=>(YI ZB (pv 0) YC))) (YA YC YB)))))
   (YG (YK (i:=13) JO.nd rfl (Or.inl rfl) (YZ (n8 base) (hr.mono (by decide)) (by rfl) n_ ph pq .nil Yi (YA (pv 1) (YA (pv 12) YB))))
   (YG (Yx (YW (YLP K rfl hU) (Ze (YA (YZ (cX base) (hr.mono (by decide)) (by rfl) cY cZ c7 .nil Yi (ZL (pv 3) (ZL (pv 13) (ZL (pv 4) (ZL (pv 11) YB))))) (YA (YO (YL K rfl) (by rfl) T.ak YLq (YA (pv 12) YB)) YB))) (Ze (YA (YM (YS K rfl) (pv 6) YC (λ_ _=>rfl)) (YA (YO (YL K rfl) (by rfl) T.ak YLq (YA (YM (YS K rfl) (pv 6) YC (λ_ _=>rfl)) YB)) YB))) (Yd _)) (YF (Yc XL)) Yk)
   (YG (Yx (YW (YLP K rfl hU) (Ze (YA (YZ (cX base) (hr.mono (by decide)) (by rfl) cY cZ c7 .nil Yi (ZL (pv 3) (ZL (pv 13) (ZL (pv 5) (ZL (pv 11) YB))))) (YA (YO (YL K rfl) (by rfl) T.ak YLq (YA (pv 12) YB)) YB))) (Ze (YA (YM (YS K rfl) (pv 7) YC (λ_ _=>rfl)) (YA (YO (YL K rfl) (by rfl) T.ak YLq (YA (YM (YS K rfl) (pv 7) YC (λ_ _=>rfl)) YB)) YB))) (Yd _)) (YF (Yc XL)) Yk)
   (YF (YK (i:=9) JO.nd rfl (Or.inl rfl) (YI Ye (YI Ye (pv 9) YC) (pv 10))))))))))))⟩
   (Y1 ⟨(Yc XL)⟩))))))))))),?_⟩
  refine⟨_,Z,a,ns,Z,hS,hp,λlg xs g hs H1 g6 g1 h3 hR hSh s1 p1 V0 En hds=>?_⟩;dsimp only[ZK];obtain⟨r0,rest,rfl⟩:∃r0 rest,g=r0 :: rest:=by
   cases g with
   |nil=>exact absurd g1 (by decide)
   |cons x y=>exact⟨x,y,Z⟩
  have hg:Yu (r0 :: rest)=true:=by
   unfold Yu;rw[YLw (show(r0 :: rest).length<=60 by lia),Bool.true_and,YMR];exactλr hr=>(hR r hr).1
  have Wr:Yh H1 xs ((r0 :: rest).map ZR):=hds.same (λx o e=>ZD _ _ _ _ e);refine⟨_,Z,a,ns,10,Z,s1.seq hS,by decide,by decide,λway w0 w1=>?_⟩;dsimp only[ZK];refine⟨_,Z,_,_,Z,Z,⟨by decide,by decide⟩,_,Z,a,ns,1,Z,s1.seq hS,by decide,by decide,λv1 _ _=>⟨_,Z,p1,λls c1 c2 c3 c4 H2 g1 g2 g3 g4 s2 p2 hls h2=>?_⟩⟩;refine⟨_,Z,_,_,Z,Z,(show(0:Int) < 5 by decide),_,_,ls,[c1,c2,c3,c4],Z,h2,(show 1<=4 by decide),(show 4<=10 by decide),λx hx=>?_,YMe _ (by decide),by have:=YMg way (show(0:Int) < 5 by decide);lia,λt ht ym=>?_⟩
  ·simp only[YMA,YMo,or_false]at hx;rcases hx with rfl |rfl |rfl |rfl <;> assumption
  dsimp only[ZK];have Em:=s1.trans s2;refine⟨_,Z,a,ns,Z,Em.seq hS,p2,λct ca cb cc H3 ha hb hc s3 p3 hct=>?_⟩;dsimp only[ZK];have sqc:=SqT.of (K:=K) hct;refine⟨_,Z,ct,_,1,_,Z,Z,sqc,Z,_,Z,ct,_,2,_,Z,Z,sqc,Z,_,Z,ct,_,0,_,Z,Z,sqc,Z,YH (by show 3<=1000;decide),λyu Ws=>?_⟩;dsimp only[ZK];have s4:=YN.upd (o:=.tup [.int cb,.int cc,.int ca]) Ws;have p4:YR (upd H3 yu (.tup [.int cb,.int cc,.int ca])):=p3.upd rfl;have QL:upd H3 yu (.tup [.int cb,.int cc,.int ca]) yu=some (.tup [.int cb,.int cc,.int ca]):=YD;revert s4 p4 QL;generalize upd H3 yu (.tup [.int cb,.int cc,.int ca])=H4;intro s4 p4 QL;have Ez:=(s2.trans s3).trans s4;have Ai:=s4 _ _ hct;have EY:=Ez _ _ En;have Ra:=Wr.same Ez;refine⟨_,Z,lg,_,Z,.inl (SqL.of EY),λlh Eo=>?_⟩;have s5:=YN.upd (o:=.lst xs) Eo;have p5:YR (upd H4 lh (.lst xs)):=p4.upd rfl;have l5:upd H4 lh (.lst xs) lh=some (.lst xs):=YD;revert s5 p5 l5;generalize upd H4 lh (.lst xs)=H5;intro s5 p5 l5;refine⟨_,Z,_,Z,YLo hg h3 hR hSh ht (by lia) ha hb hc l5 (Ra.same s5) (s5 _ _ Ai) p5 λu1 H6 f1 s6 p6=>?_⟩;dsimp only[ZK];have mW:=s5.trans s6;refine⟨_,Z,lg,_,Z,.inl (SqL.of (mW _ _ EY)),λQM Wt=>?_⟩;have s7:=YN.upd (o:=.lst xs) Wt;have p7:YR (upd H6 QM (.lst xs)):=p6.upd rfl;have l7:upd H6 QM (.lst xs) QM=some (.lst xs):=YD;revert s7 p7 l7;generalize upd H6 QM (.lst xs)=H7;intro s7 p7 l7;have Rb:=mW.trans s7;refine⟨_,Z,_,Z,YLo hg h3 hR hSh ht (by lia) hb hc ha l7 (Ra.same Rb) (Rb _ _ QL) p7 λu2 H8 f2 s8 p8=>?_⟩;dsimp only[ZK];have f1:=f1.same (s7.trans s8);have Aj:=Rb.trans s8;have s08:=s1.trans (Ez.trans Aj);refine⟨_,Z,11,Z,a,_,Z,s08.seq hS,λlc hlc=>?_⟩;dsimp only[ZK];obtain⟨cs,ecs,lcs⟩:=YGd ns (some 11) none;rw[ecs];have s9:=YN.upd (o:=.lst (cs.map V.int)) hlc;have p9:YR (upd H8 lc (.lst (cs.map V.int))):=p8.upd rfl;have l9:upd H8 lc (.lst (cs.map V.int)) lc=some (.lst (cs.map V.int)):=YD;revert s9 p9 l9;generalize upd H8 lc (.lst (cs.map V.int))=H9;intro s9 p9 l9;have f1:=f1.same s9;have f2:=f2.same s9;have QQ:=Aj.trans s9;have Ak:=QQ _ _ EY;have Am:=Ra.same QQ;have ct9:=QQ _ _ Ai;have Rc:=QQ _ _ QL;refine⟨λμ σ H'=>∃(at_:Nat) (gK gO Rf Rg:Option V),σ=[some (.ref a),some (.ref lg),some (.int way),some (.str t),some (.ref ct),some (.ref yu),some (.ref u1),some (.ref u2),some (.ref lc),some (.int (at_:Int)),gK,gO,Rf,Rg]/\μ=cs.length + 1 - at_/\YN H9 H'/\YR H',⟨_,0,none,none,none,none,Z,Z,YN.refl _,p9⟩,?_⟩;rintro μ σ H10 ⟨at_,gK,gO,Rf,Rg,rfl,hμ,Qm,p10⟩;have qN:SqL K H10 lc (cs.map V.int):=SqL.of (Qm _ _ l9);refine⟨_,Z,_,Z,lc,_,Z,.inl qN,_,_,Z,Z,_,Z,?_⟩;rw[YLp];refine JP (λhat=>?_) λ_=>q _
  have hat:at_<=cs.length:=by have:=YME hat;lia
  refine⟨_,λ_ _ h=>h,?_⟩;refine YLn (YEM (λσ' H'=>H'=H10/\∃(sz:Nat),σ'=[some (.ref a),some (.ref lg),some (.int way),some (.str t),some (.ref ct),some (.ref yu),some (.ref u1),some (.ref u2),some (.ref lc),some (.int (at_:Int)),some (.int (sz:Int)),gO,Rf,Rg]) ?_ λjJ=>?_)
  ·rintro σ' H' ⟨rfl,sz,rfl⟩;obtain⟨ss,ess,lss⟩:=YGd cs (some (at_:Int)) (some ((at_:Int) + (sz:Int)));refine⟨_,Z,_,Z,_,Z,_,Z,_,Z,_,_,Z,Z,_,Z,lc,_,Z,qN,λlsm Wu=>?_⟩;dsimp only[ZK];rw[ess];have Rh:=YN.upd (o:=.lst (ss.map V.int)) Wu;have Ri:YR (upd H' lsm (.lst (ss.map V.int))):=p10.upd rfl;have yw:upd H' lsm (.lst (ss.map V.int)) lsm=some (.lst (ss.map V.int)):=YD;revert Rh Ri yw;generalize upd H' lsm (.lst (ss.map V.int))=H11;intro Rh Ri yw;have s911:=Qm.trans Rh;refine⟨_,Z,_,Z,lsm,Z,⟨_,SqL.of yw⟩,λlb hlb=>?_⟩;have hJ:=(Xl (SqL.of (K:=K) yw)).g;rw[YLp]at hJ;refine YB8 ss (λx=>some (.int (x / 7))) hJ Ri hlb (YH (by lia)) (λτ'=>∃v,τ'=[v]) ⟨_,Z⟩ ?_ ?_
   ·rintro τ' k x y Hc Q1 Q2 ⟨v,rfl⟩ hx hit hs' hp' hQ1 hQ2;rw[YLt,hx]at hit;cases hit;dsimp only[ZK,tYes];refine ZG ?_;exact⟨_,Z,_,_,Z,Z,⟨by decide,by decide⟩,hQ1 _ _ _ ⟨_,Z⟩ (YN.refl _) hp' rfl⟩
   intro H12 Ao p12 QR;have efm:ss.filterMap (λx=>some (V.int (x / 7)))=(ss.map (· / 7)).map V.int:=by
    rw[List.filterMap_eq_map',YNG];rfl
   rw[efm]at QR;have s912:=s911.trans Ao;refine⟨lg,lb,xs,r0,rest,hs,ss.map (· / 7),5,Z,by decide,by decide,s912 _ _ Ak,Am.same s912,hg,hR,hSh,SqL.of QR,by rw[YLp];lia,p12,λlr ks sg H13 jD Qa hks Qc p13 wX hlr=>?_⟩;dsimp only[ZK];have s913:=s912.trans Qc;refine⟨_,Z,_,Z,lg,lr,xs,r0,rest,ks,sg,Z,s913 _ _ Ak,Am.same s913,hg,hlr,jD,by lia,by lia,p13,λH14 yx p14=>?_⟩;dsimp only[ZK];have s914:=s913.trans yx;have sqS:SqL K H14 lsm (ss.map V.int):=SqL.of (yx _ _ (Qc _ _ (Ao _ _ yw)));have vR:=yx _ _ hlr;obtain⟨T1,ps1,O1,F1,fs1,ld1,lw1,ys1,W1,Qy,Ej,he1⟩:=f1;refine⟨_,Z,_,Z,_,Z,_,Z,t,⟨sg.toArray⟩,ct,lsm,ca,cb,cc,ss,Z,by lia,(show sg.length<=60 by lia),s914 _ _ ct9,ha,hb,hc,(YN.refl H14).seq sqS,λQT Wv=>?_⟩;refine⟨_,Z,lr,_,Z,.inl (SqL.of ((YN.refl H14) _ _ vR)),YH (by show 2<=1000;decide),λRj Ww=>?_⟩;rw[YLp];have QV:=YN.upd (o:=.tup [.int QT,.int (ks.length:Int)]) Ww;have Qh:SqT K _ u1 _:=SqT.of (QV _ _ (s914 _ _ Qy));refine⟨_,Z,u1,_,0,_,Z,Z,Qh,Z,_,Z,u1,_,2,_,Z,Z,Qh,Z,lw1,_,Z,.inl (SqL.of (QV _ _ (s914 _ _ Ej))),YH (by show 2<=1000;decide),λRk Wx=>?_⟩;rw[he1];have Rm:=YN.upd (o:=.tup [.int (vpN O1 F1 (.part r0.1 0 t.length)).1,.int (vpN O1 F1 (.part r0.1 0 t.length)).2]) Wx;refine⟨Rj,Rk,(QT,(ks.length:Int)),vpN O1 F1 (.part r0.1 0 t.length),Z,Z,SqT.of (Rm _ _ YD),SqT.of YD,_,Z,?_⟩;rw[W1.least_pair hb.1 hc.1 hg jD Wv (by lia)];refine ZA ?_;dsimp only[YDU];have sB1:=s914.trans (QV.trans Rm);have qB1:=(YN.refl H14).trans (QV.trans Rm);have pB1:=(p14.upd (o:=.tup [.int QT,.int (ks.length:Int)]) (a:=Rj) rfl).upd (o:=.tup [.int (vpN O1 F1 (.part r0.1 0 t.length)).1,.int (vpN O1 F1 (.part r0.1 0 t.length)).2]) (a:=Rk) rfl;revert sB1 qB1 pB1;generalize upd (upd _ Rj (.tup [.int QT,.int (ks.length:Int)])) Rk (.tup [.int (vpN O1 F1 (.part r0.1 0 t.length)).1,.int (vpN O1 F1 (.part r0.1 0 t.length)).2])=HB1;intro sB1 qB1 pB1;obtain⟨T2,ps2,O2,F2,fs2,ld2,lw2,Bc,W2,hu2,Ek,he2⟩:=f2;refine⟨_,Z,_,Z,_,Z,_,Z,t,⟨sg.toArray⟩,yu,lsm,cb,cc,ca,ss,Z,by lia,(show sg.length<=60 by lia),sB1 _ _ Rc,hb,hc,ha,qB1.seq sqS,λQW Wy=>?_⟩;refine⟨_,Z,lr,_,Z,.inl (SqL.of (qB1 _ _ vR)),YH (by show 2<=1000;decide),λRn Wz=>?_⟩;rw[YLp];have QX:=YN.upd (o:=.tup [.int QW,.int (ks.length:Int)]) Wz;have Qi:SqT K _ u2 _:=SqT.of (QX _ _ (sB1 _ _ hu2));refine⟨_,Z,u2,_,0,_,Z,Z,Qi,Z,_,Z,u2,_,2,_,Z,Z,Qi,Z,lw2,_,Z,.inl (SqL.of (QX _ _ (sB1 _ _ Ek))),YH (by show 2<=1000;decide),λRo WD=>?_⟩;rw[he2];have Rp:=YN.upd (o:=.tup [.int (vpN O2 F2 (.part r0.1 0 t.length)).1,.int (vpN O2 F2 (.part r0.1 0 t.length)).2]) WD;refine⟨Rn,Ro,(QW,(ks.length:Int)),vpN O2 F2 (.part r0.1 0 t.length),Z,Z,SqT.of (Rp _ _ YD),SqT.of YD,_,Z,?_⟩;rw[W2.least_pair hc.1 ha.1 hg jD Wy (by lia)];refine ZA ?_;dsimp only[YDU];have sB2:=sB1.trans (QX.trans Rp);have qB2:=qB1.trans (QX.trans Rp);have pB2:=(pB1.upd (o:=.tup [.int QW,.int (ks.length:Int)]) (a:=Rn) rfl).upd (o:=.tup [.int (vpN O2 F2 (.part r0.1 0 t.length)).1,.int (vpN O2 F2 (.part r0.1 0 t.length)).2]) (a:=Ro) rfl;revert sB2 qB2 pB2;generalize upd (upd _ Rn (.tup [.int QW,.int (ks.length:Int)])) Ro (.tup [.int (vpN O2 F2 (.part r0.1 0 t.length)).1,.int (vpN O2 F2 (.part r0.1 0 t.length)).2])=HB2;intro sB2 qB2 pB2;refine⟨_,Z,_,_,Z,Z,_,Z,_,_,Z,Z,_,?_,at_ + 1 + sz,some (.int (sz:Int)),some (.ref lsm),some (.ref lr),some (.str ⟨sg.toArray⟩),?_,Z,sB2,pB2⟩
   ·rw[hμ]
    lia
   ·rw[show(at_:Int) + 1 + (sz:Int)=((at_ + 1 + sz:Nat):Int) by lia];rfl
  ·refine⟨_,Z,_,Z,lc,_,Z,.inl qN,_,_,Z,Z,_,Z,?_⟩;rw[YLp];refine JP (λh=>?_) λh=>jJ _ _ ⟨Z,0,Z⟩
   have h:=YME h;have hlt:at_ < cs.length:=by lia
   refine⟨_,Z,_,Z,lc,_,_,_,Z,Z,qN,Yn (by rw[YLt,YLs hlt];rfl),_,_,Z,Z,(show(0:Int) < 7 by decide),_,_,Z,Z,?_⟩;have e0:=YMe cs[at_] (show(7:Int)≠0 by decide);exact jJ _ _ ⟨Z,(1 + cs[at_] % 7).toNat,by rw[Int.toNat_of_nonneg (by lia)];rfl⟩
end
theorem all_mk {l:PySem.W.OpenLaw}{w:World}{K:W.Frag}{h:Heap}{mg:Str->Option Value}{fa gh kE jC aq az kI iH f0 f1 f2 f3 f4 f5 f6 f7 f8 f9 Aq Ar Av Aw Ax Ay Az A_ Va Vb Vc Vd Ve Vf Vg Vh Vi Vj Vk Vl Vm Vn Vo Vp Vq Vr Vs Vt Vu Vv Vw Vx Vy Vz VB VD VF VG VH VJ VL Rq:Addr} (X:K.In h) (G:h.Ns mainGlobals mg) (hfa:mg "law"=some (.ref fa))
  {od an:Option Addr}{sl:Array (Option Value)}{oc kV dc pm cd ct:Value}{tFIRST_CODE tLAST_CODE tPERCENT_CODE tMOST_LETTERS tMOST_PARTS tMOST_RULES tMOST_SIGNS tMOST_NUMBERS:Tok}
  (nNoGrammar:PySem.W.nsIn K mainGlobals "NoGrammar"=some (some (.ref gh)))
  (nNoText:PySem.W.nsIn K mainGlobals "NoText"=some (some (.ref kE)))
  (nNoCosts:PySem.W.nsIn K mainGlobals "NoCosts"=some (some (.ref jC)))
  (nToller:PySem.W.nsIn K mainGlobals "Toller"=some (some (.ref aq)))
  (nMending:PySem.W.nsIn K mainGlobals "Mending"=some (some (.ref az)))
  (nBarren:PySem.W.nsIn K mainGlobals "Barren"=some (some (.ref kI)))
  (nTooGreat:PySem.W.nsIn K mainGlobals "TooGreat"=some (some (.ref iH)))
  (d0:L2.Dn K "is_whole" f0)
  (l0:Ln K "is_whole" "is_whole" YBm f0)
  (d1:L2.Dn K "stands_in_texts" f1)
  (l1:Ln K "stands_in_texts" "stands_in_texts" Jl f1)
  (d2:L2.Dn K "is_sign" f2)
  (l2:Ln K "is_sign" "is_sign" YCf f2)
  (d3:L2.Dn K "is_name" f3)
  (l3:Ln K "is_name" "is_name" YCg f3)
  (d4:L2.Dn K "is_part" f4)
  (l4:Ln K "is_part" "is_part" YCh f4)
  (d5:L2.Dn K "is_worth" f5)
  (l5:Ln K "is_worth" "is_worth" YBn f5)
  (d6:L2.Dn K "are_parts" f6)
  (l6:Ln K "are_parts" "are_parts" YA8 f6)
  (d7:L2.Dn K "is_rule" f7)
  (l7:Ln K "is_rule" "is_rule" YCi f7)
  (d8:L2.Dn K "is_grammar" f8)
  (l8:Ln K "is_grammar" "is_grammar" YAb f8)
  (d9:L2.Dn K "checked" f9)
  (l9:Ln K "checked" "checked" YCj f9)
  (d10:L2.Dn K "size_of_part" Aq)
  (l10:Ln K "size_of_part" "size_of_part" Xr Aq)
  (d11:L2.Dn K "size_of_rule" Ar)
  (yw:Ln K "size_of_rule" "size_of_rule" Xs Ar)
  (d12:L2.Dn K "least_sizes" Av)
  (QR:Ln K "least_sizes" "least_sizes" YAC Av)
  (d13:L2.Dn K "is_text" Aw)
  (l13:Ln K "is_text" "is_text" YCk Aw)
  (d14:L2.Dn K "checked_text" Ax)
  (l14:Ln K "checked_text" "checked_text" Xq Ax)
  (d15:L2.Dn K "is_cost" Ay)
  (l15:Ln K "is_cost" "is_cost" YCl Ay)
  (d16:L2.Dn K "checked_costs" Az)
  (l16:Ln K "checked_costs" "checked_costs" XI Az)
  (d17:An K aq "sign_toll" A_)
  (l17:Ln K "sign_toll" "Toller.sign_toll" JY A_)
  (d18:An K aq "sign_table" Va)
  (l18:Ln K "sign_table" "Toller.sign_table" Zi Va)
  (d19:An K aq "reach_of" Vb)
  (l19:Ln K "reach_of" "Toller.reach_of" Jn Vb)
  (d20:An K aq "lay_out" Vc)
  (l20:Ln K "lay_out" "Toller.lay_out" J1 Vc)
  (d21:An K aq "__init__" Vd)
  (l21:Ln K "__init__" "Toller.__init__" Jm Vd)
  (d22:An K aq "inner_tolls" Ve)
  (l22:Ln K "inner_tolls" "Toller.inner_tolls" JB Ve)
  (d23:An K aq "line_of" Vf)
  (l23:Ln K "line_of" "Toller.line_of" J2 Vf)
  (d24:An K aq "lower_head" Vg)
  (l24:Ln K "lower_head" "Toller.lower_head" JK Vg)
  (d25:An K aq "take_span" Vh)
  (l25:Ln K "take_span" "Toller.take_span" Zu Vh)
  (d26:An K aq "take_all" Vi)
  (l26:Ln K "take_all" "Toller.take_all" Jo Vi)
  (d27:An K aq "told_tolls" Vj)
  (l27:Ln K "told_tolls" "Toller.told_tolls" JL Vj)
  (d28:L2.Dn K "tolls" Vk)
  (l28:Ln K "tolls" "tolls" YF2 Vk)
  (d29:An K az "cut_signs" Vl)
  (l29:Ln K "cut_signs" "Mending.cut_signs" JM Vl)
  (d30:An K az "take_sign" Vm)
  (l30:Ln K "take_sign" "Mending.take_sign" JN Vm)
  (d31:An K az "rule_for" Vn)
  (l31:Ln K "rule_for" "Mending.rule_for" Ja Vn)
  (d32:An K az "way_for" Vo)
  (l32:Ln K "way_for" "Mending.way_for" Jq Vo)
  (d33:An K az "go_down" Vp)
  (l33:Ln K "go_down" "Mending.go_down" Jr Vp)
  (d34:An K az "__init__" Vq)
  (l34:Ln K "__init__" "Mending.__init__" JZ Vq)
  (d35:L2.Dn K "mended" Vr)
  (l35:Ln K "mended" "mended" YEC Vr)
  (d36:L2.Dn K "_law_cell_at" Vs)
  (l36:Ln K "_law_cell_at" "_law_cell_at" Xu Vs)
  (d37:L2.Dn K "_law_mixed" Vt)
  (l37:Ln K "_law_mixed" "_law_mixed" YAe Vt)
  (d38:L2.Dn K "_law_signs" Vu)
  (l38:Ln K "_law_signs" "_law_signs" Zx Vu)
  (d39:L2.Dn K "_law_names" Vv)
  (l39:Ln K "_law_names" "_law_names" Js Vv)
  (d40:L2.Dn K "_law_worth" Vw)
  (l40:Ln K "_law_worth" "_law_worth" YAf Vw)
  (d41:L2.Dn K "_law_parts" Vx)
  (l41:Ln K "_law_parts" "_law_parts" YAg Vx)
  (d42:L2.Dn K "_law_grammar" Vy)
  (l42:Ln K "_law_grammar" "_law_grammar" Xv Vy)
  (d43:L2.Dn K "_law_costs" Vz)
  (l43:Ln K "_law_costs" "_law_costs" XY Vz)
  (d44:L2.Dn K "_law_shorts" VB)
  (l44:Ln K "_law_shorts" "_law_shorts" YAF VB)
  (d45:L2.Dn K "_law_open" VD)
  (l45:Ln K "_law_open" "_law_open" X6 VD)
  (d46:L2.Dn K "_law_need" VF)
  (l46:Ln K "_law_need" "_law_need" YBK VF)
  (d47:L2.Dn K "_law_row" VG)
  (l47:Ln K "_law_row" "_law_row" YAi VG)
  (d48:L2.Dn K "_law_read" VH)
  (l48:Ln K "_law_read" "_law_read" YBL VH)
  (d49:L2.Dn K "_law_drawn" VJ)
  (l49:Ln K "_law_drawn" "_law_drawn" YAh VJ)
  (d50:L2.Dn K "_law_drawn_cost" VL)
  (l50:Ln K "_law_drawn_cost" "_law_drawn_cost" Jt VL)
  (d51:PySem.W.nsIn K mainGlobals "law"=some (some (.ref Rq)))
  (l51:K.lookup Rq=some ⟨oc,od,.func (PySem.W.fnOf "law" "law" (J4 YCO) (JD YCO) (YQ YCO) .none kV dc pm an cd ct),sl⟩)
  (c51:PySem.W.codeIn K cd "law"=true)
  (k51:PySem.W.keepIn K (.ref Rq)=true)
  (iFIRST_CODE:PySem.W.nsIn K mainGlobals "FIRST_CODE"=some (some (.int 32 tFIRST_CODE)))
  (iLAST_CODE:PySem.W.nsIn K mainGlobals "LAST_CODE"=some (some (.int 126 tLAST_CODE)))
  (iPERCENT_CODE:PySem.W.nsIn K mainGlobals "PERCENT_CODE"=some (some (.int 37 tPERCENT_CODE)))
  (iMOST_LETTERS:PySem.W.nsIn K mainGlobals "MOST_LETTERS"=some (some (.int 8 tMOST_LETTERS)))
  (iMOST_PARTS:PySem.W.nsIn K mainGlobals "MOST_PARTS"=some (some (.int 6 tMOST_PARTS)))
  (iMOST_RULES:PySem.W.nsIn K mainGlobals "MOST_RULES"=some (some (.int 60 tMOST_RULES)))
  (iMOST_SIGNS:PySem.W.nsIn K mainGlobals "MOST_SIGNS"=some (some (.int 60 tMOST_SIGNS)))
  (iMOST_NUMBERS:PySem.W.nsIn K mainGlobals "MOST_NUMBERS"=some (some (.int 1000 tMOST_NUMBERS)))
  (zisinstance:Zn K "isinstance")
  (zint:Zn K "int")
  (zbool:Zn K "bool")
  (zord:Zn K "ord")
  (zstr:Zn K "str")
  (zlen:Zn K "len")
  (zall:Zn K "all")
  (ztuple:Zn K "tuple")
  (zlist:Zn K "list")
  (zmin:Zn K "min")
  (zrange:Zn K "range")
  (zzip:Zn K "zip")
  (zenumerate:Zn K "enumerate")
  (zreversed:Zn K "reversed")
  (zdivmod:Zn K "divmod")
  (xNoGrammar:PySem.W.excIn K gh [.type "ValueError",.type "Exception",.type "BaseException",.type "object"] "ValueError.__new__"=true)
  (xNoText:PySem.W.excIn K kE [.type "ValueError",.type "Exception",.type "BaseException",.type "object"] "ValueError.__new__"=true)
  (xNoCosts:PySem.W.excIn K jC [.type "ValueError",.type "Exception",.type "BaseException",.type "object"] "ValueError.__new__"=true)
  (xBarren:PySem.W.excIn K kI [.type "ValueError",.type "Exception",.type "BaseException",.type "object"] "ValueError.__new__"=true)
  (xTooGreat:PySem.W.excIn K iH [.type "ValueError",.type "Exception",.type "BaseException",.type "object"] "ValueError.__new__"=true)
  (pgToller:PySem.W.plainGet K aq Str.empty=true)
  (ud:PySem.W.hasDictIn K aq=true)
  (poToller:PySem.W.plainOver K aq=true)
  (saToller:PySem.W.findIn K (.ref aq) "__setattr__"=some (some (.builtin "object.__setattr__")))
  (pgMending:PySem.W.plainGet K az Str.empty=true)
  (rR:PySem.W.hasDictIn K az=true)
  (poMending:PySem.W.plainOver K az=true)
  (saMending:PySem.W.findIn K (.ref az) "__setattr__"=some (some (.builtin "object.__setattr__")))
  (naToller_cut:On K aq "cut")
  (naToller_put:On K aq "put")
  (naToller_text:On K aq "text")
  (naToller_swap:On K aq "swap")
  (naToller_bare:On K aq "bare")
  (naToller_over:On K aq "over")
  (naToller_rules:On K aq "rules")
  (naToller_first:On K aq "first")
  (naMending_deeds:On K az "deeds")
  (naMending_text:On K az "text")
  (naMending_costs:On K az "costs")
  (naMending_known:On K az "known")
  (naMending_rules:On K az "rules")
  (naMending_row:On K az "row")
  (mkToller:PySem.W.makesIn K aq=true)
  (kcToller:PySem.W.keepIn K (.ref aq)=true)
  (mkMending:PySem.W.makesIn K az=true)
  (kcMending:PySem.W.keepIn K (.ref az)=true):
  ∃fd:FuncData,(∀(s:Shared) (v:Value),BindsTo s fd ⟨[v],[]⟩ [("_law_script",v)])/\∀base:Heap,K.In base->base.Ns mainGlobals mg->Yt l.prog w K mg base CX0 11 fa fd ["_law_script"] (YGg K):=by
 have e:=hfa.symm.trans (PySem.W.mg_of X G d51);cases e;have m:=λ{x:Str}{v:Value} (h:PySem.W.nsIn K mainGlobals x=some (some v))=>PySem.W.mg_of X G h
 have n:=λ{x:Str}{f:Addr} (h:L2.Dn K x f)=>(PySem.W.mg_of X G h:mg x=some (.ref f))
 have z:=λ{x:Str} (h:Zn K x)=>PySem.W.mg_none_of X G h
 have T:Txt K mg ⟨gh,kE,jC,aq,az,kI,iH,0⟩:=⟨z zisinstance,z zint,z zbool,z zord,z zstr,z zlen,z zall,z ztuple,z zlist,z zmin,z zrange,z zzip,z zenumerate,z zreversed,z zdivmod,⟨_,m iFIRST_CODE⟩,⟨_,m iLAST_CODE⟩,⟨_,m iPERCENT_CODE⟩,⟨_,m iMOST_LETTERS⟩,⟨_,m iMOST_PARTS⟩,⟨_,m iMOST_RULES⟩,⟨_,m iMOST_SIGNS⟩,⟨_,m iMOST_NUMBERS⟩,m nNoGrammar,m nNoText,m nNoCosts,m nToller,m nMending,m nBarren,m nTooGreat,xNoGrammar,xNoText,xNoCosts,xBarren,xTooGreat,⟨pgToller,ud,poToller,saToller⟩,⟨pgMending,rR,poMending,saMending⟩,naToller_cut,naToller_put,naToller_text,naToller_swap,naToller_bare,naToller_over,naToller_rules,naToller_first,naMending_deeds,naMending_text,naMending_costs,naMending_known,naMending_rules,naMending_row⟩;have F51:=YKo (st:=YCO) l51 c51 k51;obtain⟨_,F0⟩:=l0.ex;have cj:=us l.prog w (n d0) F0 (λ_=>YG4 F0 T) λ_ _ _ _ _ _=>bn 1 λ_=>rfl
 obtain⟨_,F1⟩:=l1.ex;have aJ:=us l.prog w (n d1) F1 (λ_=>YBo F1 T) λ_ _ _ _ _ _=>bn 1 λ_=>rfl
 obtain⟨_,F2⟩:=l2.ex;have ji:=us l.prog w (n d2) F2 (λ_=>YIJ F2 T aJ) λ_ _ _ _ _ _=>bn 1 λ_=>rfl
 obtain⟨_,F3⟩:=l3.ex;have cI:=us l.prog w (n d3) F3 (λ_=>YIL F3 T) λ_ _ _ _ _ _=>bn 1 λ_=>rfl
 obtain⟨_,F4⟩:=l4.ex;have jn:=us l.prog w (n d4) F4 (λ_=>YIN F4 T ji cI) λ_ _ _ _ _ _=>bn 1 λ_=>rfl
 obtain⟨_,F5⟩:=l5.ex;have gZ:=us l.prog w (n d5) F5 (λ_=>YG6 F5 T cj) λ_ _ _ _ _ _=>bn 1 λ_=>rfl
 obtain⟨_,F6⟩:=l6.ex;have eE:=us l.prog w (n d6) F6 (λ_=>YF1 F6 T jn) λ_ _ _ _ _ _=>bn 1 λ_=>rfl
 obtain⟨_,F7⟩:=l7.ex;have jo:=us l.prog w (n d7) F7 (λ_=>YIP F7 T cI eE gZ) λ_ _ _ _ _ _=>bn 1 λ_=>rfl
 obtain⟨_,F8⟩:=l8.ex;have dH:=us l.prog w (n d8) F8 (λ_=>YEa F8 T jo) λ_ _ _ _ _ _=>bn 1 λ_=>rfl
 obtain⟨_,F9⟩:=l9.ex;have cJ:=us l.prog w (n d9) F9 (λ_=>YIR F9 T dH) λ_ _ _ _ _ _=>bn 1 λ_=>rfl
 obtain⟨_,F10⟩:=l10.ex;have cP:=us l.prog w (n d10) F10 (λ_=>YC8 F10 T) λ_ _ _ _ _ _=>bn 3 λ_ _ _=>rfl
 obtain⟨_,F11⟩:=yw.ex;have cQ:=us l.prog w (n d11) F11 (λ_=>YC9 F11 T cP) λ_ _ _ _ _ _=>bn 3 λ_ _ _=>rfl
 obtain⟨_,F12⟩:=QR.ex;have di:=us l.prog w (n d12) F12 (λ_=>YD2 F12 T cQ) λ_ _ _ _ _ _=>bn 2 λ_ _=>rfl
 obtain⟨_,F13⟩:=l13.ex;have jq:=us l.prog w (n d13) F13 (λ_=>YIT F13 T aJ) λ_ _ _ _ _ _=>bn 1 λ_=>rfl
 obtain⟨_,F14⟩:=l14.ex;have cR:=us l.prog w (n d14) F14 (λ_=>YC6 F14 T jq) λ_ _ _ _ _ _=>bn 1 λ_=>rfl
 obtain⟨_,F15⟩:=l15.ex;have jr:=us l.prog w (n d15) F15 (λ_=>YIV F15 T cj) λ_ _ _ _ _ _=>bn 1 λ_=>rfl
 obtain⟨_,F16⟩:=l16.ex;have cB:=us l.prog w (n d16) F16 (λ_=>YCn F16 T jr) λ_ _ _ _ _ _=>bn 1 λ_=>rfl
 obtain⟨_,F17⟩:=l17.ex;have bK:=usM l.prog w d17 F17 (λ_=>YBZ F17 T) λ_ _ _ _ _ _=>bn 4 λ_ _ _ _=>rfl
 obtain⟨_,F18⟩:=l18.ex;have bC:=usM l.prog w d18 F18 (λ_=>YBC F18 T bK) λ_ _ _ _ _ _=>bn 2 λ_ _=>rfl
 obtain⟨_,F19⟩:=l19.ex;have bU:=usM l.prog w d19 F19 (λ_=>YBp F19 T) λ_ _ _ _ _ _=>bn 2 λ_ _=>rfl
 obtain⟨_,F20⟩:=l20.ex;have cu:=usM l.prog w d20 F20 (λ_=>YCH F20 T bC bU) λ_ _ _ _ _ _=>bn 1 λ_=>rfl
 obtain⟨_,F21⟩:=l21.ex;have bV:=usI l.prog w mkToller kcToller d21 F21 (λ_=>YBr F21 T di cu) λ_ _ _ _ _ _=>bn 4 λ_ _ _ _=>rfl
 obtain⟨_,F22⟩:=l22.ex;have bu:=usM l.prog w d22 F22 (λ_=>YAp F22 T) λ_ _ _ _ _ _=>bn 4 λ_ _ _ _=>rfl
 obtain⟨_,F23⟩:=l23.ex;have cz:=usM l.prog w d23 F23 (λ_=>YCI F23 T) λ_ _ _ _ _ _=>bn 5 λ_ _ _ _ _=>rfl
 obtain⟨_,F24⟩:=l24.ex;have bD:=usM l.prog w d24 F24 (λ_=>YBD F24 T) λ_ _ _ _ _ _=>bn 5 λ_ _ _ _ _=>rfl
 obtain⟨_,F25⟩:=l25.ex;have bL:=usM l.prog w d25 F25 (λ_=>YBa F25 T bu cz bD) λ_ _ _ _ _ _=>bn 3 λ_ _ _=>rfl
 obtain⟨_,F26⟩:=l26.ex;have bW:=usM l.prog w d26 F26 (λ_=>YBs F26 T bL) λ_ _ _ _ _ _=>bn 1 λ_=>rfl
 obtain⟨_,F27⟩:=l27.ex;have bF:=usM l.prog w d27 F27 (λ_=>YBE F27 T) λ_ _ _ _ _ _=>bn 1 λ_=>rfl
 obtain⟨_,F28⟩:=l28.ex;have mj:=us l.prog w (n d28) F28 (λ_=>YLU F28 T cJ cR cB bV bW bF) λ_ _ _ _ _ _=>bn 3 λ_ _ _=>rfl
 obtain⟨_,F29⟩:=l29.ex;have aD:=usM l.prog w d29 F29 (λ_=>YBG F29 T) λ_ _ _ _ _ _=>bn 3 λ_ _ _=>rfl
 obtain⟨_,F30⟩:=l30.ex;have bG:=usM l.prog w d30 F30 (λ_=>YBI F30 T aD) λ_ _ _ _ _ _=>bn 2 λ_ _=>rfl
 obtain⟨_,F31⟩:=l31.ex;have bM:=usM l.prog w d31 F31 (λ_=>YBb F31 T) λ_ _ _ _ _ _=>bn 2 λ_ _=>rfl
 obtain⟨_,F32⟩:=l32.ex;have bY:=usM l.prog w d32 F32 (λ_=>YBv F32 T) λ_ _ _ _ _ _=>bn 2 λ_ _=>rfl
 obtain⟨_,F33⟩:=l33.ex;have bZ:=usM l.prog w d33 F33 (λ_=>YBx F33 T bG bM aD bY) λ_ _ _ _ _ _=>bn 2 λ_ _=>rfl
 obtain⟨_,F34⟩:=l34.ex;have bN:=usI l.prog w mkMending kcMending d34 F34 (λ_=>YBd F34 T) λ_ _ _ _ _ _=>bn 5 λ_ _ _ _ _=>rfl
 obtain⟨_,F35⟩:=l35.ex;have j9:=us l.prog w (n d35) F35 (λ_=>YJ6 F35 T mj cJ bN bZ) λ_ _ _ _ _ _=>bn 3 λ_ _ _=>rfl
 obtain⟨_,F36⟩:=l36.ex;have aC:=us l.prog w (n d36) F36 (λ_=>YDE F36 T) λ_ _ _ _ _ _=>bn 2 λ_ _=>rfl
 obtain⟨_,F37⟩:=l37.ex;have bx:=us l.prog w (n d37) F37 (λ_=>YEc F37 T aC) λ_ _ _ _ _ _=>bn 2 λ_ _=>rfl
 obtain⟨_,F38⟩:=l38.ex;have bz:=us l.prog w (n d38) F38 (λ_=>YEd F38 T) λ_ _ _ _ _ _=>bn 1 λ_=>rfl
 obtain⟨_,F39⟩:=l39.ex;have dI:=us l.prog w (n d39) F39 (λ_=>YEe F39 T) λ_ _ _ _ _ _=>bn 1 λ_=>rfl
 obtain⟨_,F40⟩:=l40.ex;have bA:=us l.prog w (n d40) F40 (λ_=>YEg F40 T) λ_ _ _ _ _ _=>bn 1 λ_=>rfl
 obtain⟨_,F41⟩:=l41.ex;have dJ:=us l.prog w (n d41) F41 (λ_=>YEh F41 T) λ_ _ _ _ _ _=>bn 3 λ_ _ _=>rfl
 obtain⟨_,F42⟩:=l42.ex;have cT:=us l.prog w (n d42) F42 (λ_=>YDF F42 T dI bx dJ bz bA aC) λ_ _ _ _ _ _=>bn 1 λ_=>rfl
 obtain⟨_,F43⟩:=l43.ex;have dW:=us l.prog w (n d43) F43 (λ_=>YEj F43 T bA aC) λ_ _ _ _ _ _=>bn 1 λ_=>rfl
 obtain⟨_,F44⟩:=l44.ex;have dj:=us l.prog w (n d44) F44 (λ_=>YEL F44 T) λ_ _ _ _ _ _=>bn 1 λ_=>rfl
 obtain⟨_,F45⟩:=l45.ex;have e_:=us l.prog w (n d45) F45 (λ_=>YGD F45 T) λ_ _ _ _ _ _=>bn 3 λ_ _ _=>rfl
 obtain⟨_,F46⟩:=l46.ex;have gb:=us l.prog w (n d46) F46 (λ_=>YGE F46 T) λ_ _ _ _ _ _=>bn 3 λ_ _ _=>rfl
 obtain⟨_,F47⟩:=l47.ex;have iG:=us l.prog w (n d47) F47 (λ_=>YHm F47 T dj e_ gb) λ_ _ _ _ _ _=>bn 3 λ_ _ _=>rfl
 obtain⟨_,F48⟩:=l48.ex;have gf:=us l.prog w (n d48) F48 (λ_=>YGG F48 T) λ_ _ _ _ _ _=>bn 2 λ_ _=>rfl
 obtain⟨_,F49⟩:=l49.ex;have dU:=us l.prog w (n d49) F49 (λ_=>YEk F49 T) λ_ _ _ _ _ _=>bn 3 λ_ _ _=>rfl
 obtain⟨_,F50⟩:=l50.ex;have b_:=us l.prog w (n d50) F50 (λ_=>YB0 F50 T) λ_ _ _ _ _ _=>bn 4 λ_ _ _ _=>rfl
 exact⟨PySem.W.fnOf "law" "law" (J4 YCO) (JD YCO) (YQ YCO) .none kV dc pm an cd ct,λs v=>.of_eq rfl,λbase _ _=>ok_law F51 T cT bx dU dW j9 bz iG gf b_⟩
theorem walk {l:PySem.W.OpenLaw}{q:Program}{loose:List Str}{XP:(Str->Option Value)->Heap->Prop}{YP:World->Heap->Prop}{d:DefRec}{K:Params->W.Frag} (hn:l.most=some 63) (hdf:d.params.defaults=[])
  (hY:∀(w:World) (h:Heap),YP w h->(K w.params).In h)
  (F:∀(w:World) (mg:Str->Option Value) (fa:Addr) (h:Heap),(K w.params).In h->h.Ns mainGlobals mg->mg d.name=some (.ref fa)->
   ∃fd:FuncData,(∀(s:Shared) (u:Value),BindsTo s fd ⟨[u],[]⟩ [("_law_script",u)])/\∀base:Heap,(K w.params).In base->base.Ns mainGlobals mg->Yt l.prog w (K w.params) mg base CX0 11 fa fd ["_law_script"] (YGg (K w.params))):
  PySem.W.WalkO q loose XP YP l.row.toRowW d [] (λf vs=>PySem.call f vs):=
 L2.walk_of (n:=63) (k:=11) (x:="_law_script") (CX:=λ_=>CX0) (sp:=λw=>YGg (K w.params)) hn (by decide) hdf ⟨Z,by decide,by decide⟩ hY F (λ_ _ a ns hl hO hS=>YJn hl hO hS) λ_ _ _ _ _ z=>z
end FR
open PySem PySem.W PyProof.Rows
inductive PySem.W.Fast|tw10360226266914244338|tw1168556293206866413|tw4674587368853293880|tw7517878080163908864|tw7108397007850420072|tw14819700032803408653|tw1315320975554630033|tw13305970011688937815|tw8442033391957927897|tw7458881125057335402|tw8619133200571580870|tw7942232374999676408|tw3144302260947314811|tw13436237130078342947|tw17909607565522437792|tw7715624945838904446|tw7519278885200628920|tw15042270561952396942|tw12229375020004159823|tw10056180675244692851|tw3912862119720429875|tw9257029784577570577|tw383247119800102321|tw12498523020768068649|tw3260154374905820780|tw12680671202106704660|tw8832080003060189351|tw15594640311298104500|tw8298795648171637598|tw2609069929943671256|tw12205145043153068173|tw4809259545090385703|tw16691543490365210928|tw10685485212869493621|tw5423763657764996311|tw14779219954857483198|tw6458357032391410977|tw5481866204985744919|tw8176624509226253793|tw8653090719600217720|tw8989767342281448319|tw11862814935403454185|tw15085127461245480144|tw10088391510428823916|tw419412954253004787|tw3838740910353907282|tw16610836652907143908|tw9341924121828334151|tw3756799585216674722|tw2631326637780251496|tw10598486397921539872|tw8721275256781471590|tw5616195274232112431|tw470237828789255384|tw256871896316798304|tw11673031224609577599|tw513589517633668307|tw679650632074645080|tw12227425506405663380|tw6915223182618511976|tw13420285774033998505|tw16985915995098515418|tw9466635647394235636|tw5221964738540648745|tw2917819073332614029|tw10937421018130215601|tw13478735254345844138|tw797049813458775439|tw11997348766996368856|tw5697379865606866520|tw3372720176956123284|tw8927614347989104492|tw16036701064041031221|tw3989412402955936806|tw3816968341184714397|tw13456128361588603303|tw5485572606236353904|tw17954106937702475336|tw5554573679578230230|tw112789915480420420|tw16416760655133035339|tw4482120677274885310|tw10649140278284007025|tw674699277551264103|tw16493838341515559442|tw14121498339037417077|tw12485216733132534892|tw4399098019512077148|tw17833014679423252453|tw11268016042977399557|tw14313389010611454518|tw16282034989267008838|tw16788966750406100690|tw16323312121848152998|tw120439840419870773|tw7590857553254386651|tw8733065349425819420|tw3600223335198839233|tw4767179705930526858|tw8168237277707005660|tw11649568912581400097|tw7103787828059005454|tw12939332815435446832|tw12935100765976113014|tw17815583879060807386|tw11335319894699082471|tw13050687963488417587|tw10354621529271455046|tw17204300009873652964|tw15912733090256202621|tw7053523495786902712|tw18413751999004516807|tw1490910774475358796|tw13680539393999547847|tw18205415448460767562|tw1405747840211609348|tw10172281475131620806|tw7001316564897346632|tw7214290449036605696|tw10974042010602157425|tw16677729135187046158|tw4522468381958976153|tw15659116173624194869|tw2428185057614046840|tw17412020174527170181|tw12811961808156586946|tw11453301822138921314|tw18230844801538124401|tw11127252234548220826|tw4797202275644131751|tw4993535404390560599|tw8420928179046304584|tw12344671594878379901|tw6125553345838694390|tw7887453520288522194|tw16421190618905267296|tw16946556430281790417|tw17432869265461488470|tw9804331713061890473|tw7358679335860023309|tw13957431993912674016|tw7806538525019932140|tw18154634853263451609|tw13673830591560994782|tw3065805014721093820|tw1584690443666569130|tw15003519094767038557|tw9171946546136023808|tw4042197828837061118|tw8246542693504769821|tw18379738124607440824|tw693931433760277574|tw17545371096764571376|tw11990210968707413910|tw18205949776989598188|tw1849922457080963788|tw14235565731840372509|tw6590608534455292294|tw8307542110809448312|tw178006284867133532|tw18423300098491460011|tw11234574234301203001|tw7829178467093985653|tw18239791251205150141|tw15708033386674929971|tw13955230487063562885|tw11457389651253586802|tw13224606995240660625|tw791295464707497068|tw16124626089099311697|tw15142314713565014955|tw4648039294255575233|tw4350220019456720652|tw8786882380509141793|tw14009246584226654283|tw1579524463941151348|tw6173135825478611709|tw12892546148651376662|tw15113131770691301323|tw13537708028097096580|tw14932043232627115846|tw7704606336921899219|tw13872408300022056712|tw707872749609937794|tw3022410137400385798|tw9655009591727744793|tw11191271353383835609|tw18171031738480058201|tw4274961498082156196|tw16466436171900672840|tw107284504169162707|tw14170633085602703857
set_option maxRecDepth 100000 in
set_option maxHeartbeats 0 in
theorem PySem.Challenge.cw_forestread_k74_whole_no_cheaper_holds : PySem.Challenge.rw_forestread_k74_whole_no_cheaper.Holds := by
 w_on;o_law;k_head;(case hw=>w_witness2)
 k_fill
 refine FR.walk (l:=PySem.Challenge.rw_forestread_k74_whole_no_cheaper) rfl rfl (λw h Y=>PySem.W.kIn_of Y) ?F
 case F=>
  intro w mg fa h KX G zF;refine' FR.all_mk KX G zF ..
  any_goals first |k_is |(delta L2.Dn;k_is) |(delta L2.Zn;k_is) |(delta L2.On;k_is) |(refine' L2.An.mk ?_ ?_;any_goals k_is) |(refine' L2.Ln.mk ?_ ?_ ?_;any_goals k_is) |k_exc |kts_exm |kit_is
