import PyProof.Rows.All
import Wide.All
import OpenK.AllK
import Wide.FinOn
import Lean
import PyProof.EqAt
import PyProof.EqKinds
import PyProof.TupleCall
import PyProof.NeKinds
import PySem.Challenge.RW_loveboon_k58_whole_several_pledges_of_on
noncomputable section
theorem U {α : Sort _}{a : α} : a = a := rfl
open Array renaming getElem?_eq_getElem→Uz,length_toList→Vf,getElem?_toList→VG,getD_eq_getD_getElem?→Xf,getElem?_eq_none→X6,append_assoc→Z7
open Bool renaming false_ne_true→T5,and_eq_true→Vt,or_true→X5,false_and→Yx,and_false→Yy,true_and→YW,or_eq_true→Y7,eq_iff_iff→ZJ,false_or→aak,false_eq_true→aa9
open False renaming elim→Vc
open ForInStep renaming yield→Y6
open Int renaming emod_lt_of_pos→U6,toNat_natCast→U7,emod_nonneg→Vg,eq_ofNat_of_zero_le→WW,le_refl→Xr,zero_add→Ze
open List renaming length_map→TJ,getD_eq_getElem?_getD→TY,getElem?_eq_getElem→T8,map_append→Ub,mem_cons_self→Uc,mem_cons_of_mem→Ug,take_length→Uh,length_append→Ui,length_cons→Uj,size_toArray→Ul,length_take→Uo,mem_append_right→Uv,getElem?_map→Ux,replicate→Uy,mem_of_getElem?→UJ,take_add_one→UT,map_cons→U0,length_filter_le→Vj,lookup_cons→Vk,foldl_cons→Vl,filter_cons_of_pos→Vm,take_zero→Vp,getElem?_eq_none→VF,filter_cons_of_neg→VJ,length_range→VN,range→VV,mem_cons→Wb,length_replicate→Wf,pairwise_cons→Wm,contains_cons→Wn,getElem_mem→Wr,filter_append→WQ,append_nil→WY,map_congr_left→Xa,map_map→Xe,not_mem_nil→Xk,getElem?_append_right→Xl,take_succ_cons→Xx,replicate_succ→Xy,getElem_of_mem→Xz,getElem?_replicate→XN,filter_cons→XQ,any_cons→X8,lookup→Yu,getElem?_set_ne→Yv,zipWith→YF,drop_eq_getElem_cons→YG,getElem?_range→YJ,length_set→Y0,find?_cons→Y5,mem_singleton→Za,getElem?_set_self→Zd,all_cons→Zq,replicate_succ'→Zu,pairwise_append→Zv,mem_append_left→Zw,getElem_toArray→Zx,eq_nil_of_length_eq_zero→Zy,mem_map_of_mem→ZL,length_zipWith→ZM,filterMap_cons→ZP,sum→Z5,getElem?_append_left→Z8,pairwise_map→aaa,flatten_cons→aab,append_assoc→aac,sum_cons→aai,length_drop→aao,range_succ_eq_map→aaw,of_mem_zip→aaD,nodup_cons→aaE,getElem?_toArray→aaH,length→aaP,forIn_nil→aaQ,all_map→abl,cons_append→abw,range_succ→abJ,nil_append→abK,mem_append→abL,forIn_cons→abM
open List.Pairwise renaming nil→aad
open Nat renaming lt_of_lt_of_le→T4,le_refl→T6,ne_of_lt→Um,le_trans→UL,zero_le→U9,lt_irrefl→Vb,lt_succ_of_lt→Vv,ne_of_gt→Wc,lt_succ_self→Wd,le_succ→We,le_of_lt→WR,succ_ne_zero→XM,lt_of_le_of_lt→X4,le_of_succ_le→Ye,lt_trans→aau,lt_of_succ_lt_succ→aav,not_lt_zero→aaC,lt_or_ge→abj,le_of_eq→abk,le_of_not_lt→abv
open Ne renaming symm→VM
open Option.some renaming inj→U5
open Or renaming inr→Zc,inl→ZG
open PyProof.Rows renaming IntsAre→VB,step_dedup→VH,callWith_type1→V4,AllBare→aaf,envOfC→aaZ,slot_tuple_getitem→abo,callWith_builtin1→abu
open PyProof.Rows.F renaming plain_set_update_loop→aap
open PySem renaming wpAny_bind→TF,Shared→TV,wpAny_pure→TX,wpAny→T7,model→Ue,Program→Uq,starEach→Ur,mainGlobals→Us,Str→Ut,Around→UW,World→U3,wpAny_newObj_type→U4,mem_of_lookup→U8,Heap→Va,wpAny_mono→Vd,rawInt→Vh,bootBuiltins→Vi,FuncData→Vn,wpAny_field→Vo,wpAny_call_entry→Vs,wpAny_callSpecial?_slot→Vx,codeAny→Vz,eval→VD,wpAny_holding→VL,wpAny_Call_Name_kw→VR,wpAny_setField→V0,wpAny_loadPart_at→V2,wpAny_seqItems→V5,Scope→Wo,backTo→Wt,wpAny_truthy_bool→Wu,foldedSetIterable→Ww,Obj→WL,compareOp→WM,wpAny_of_eq→WT,codeAny_builtin→WX,wpAny_isSubtype_exc→W8,codeAny_mono→Xb,wpAny_standAt→Xg,behindInMarks→Xh,builtinLookup_eq_fast→Xm,pyNext→Xn,letOwnedTupleGo→Xo,wpAny_attempt→Xu,plainId_quiet→Xv,Builtin→XD,wpAny_askSetting→XF,isSubtype_type→XH,firstArgMember→XJ,excClassObj→XS,wpAny_setField_rec→XX,wpAny_passesOwn→X7,wpAny_setState_of→Yb,wpAny_pyIter_list→Yc,Pos→Yg,wpAny_rule→Yh,wpAny_call→Yi,sysModules→Yj,keywordEach→Yk,codeAny_call_builtin→Yl,bindArgs→Ym,SetTable→Yr,wpAny_isInstance→Yz,standAt→YB,intKind→YC,checkBuiltinCall→YD,IsPair→YK,wpAny_comprehension_free→YL,compPost→YM,binaryOp→YQ,attributeBase→YS,typeLookup_type→YX,holding→YZ,pickOrder→Zh,getMethod→Zi,assignEach→Zj,TriplesOk→Zk,wpAny_letGo→Zr,sliceBounds→Zt,Env→Zz,wpAny_updateSeq→ZC,wpAny_specialOf→ZD,wpAny_execs_nil→ZF,wpAny_setEntries_of→ZK,swapsWith→ZR,noteFrame→ZS,codeAmong→ZV,wpAny_tryCatch→ZW,typeLookup→ZX,newFunctionEnv→ZZ,compEnvC→Z0,backToKw→Z1,argsOk→Z2,Result→Z3,NameKind→Z4,wpAny_onRaise→aag,seqItems?→aal,cellsFrom→aam,codeAny_compStart_list→aaq,assign→aar,BindsTo→aax,wpAny_ite_false→aay,codeAny_of_tree→aaz,IsZip→aaF,wpAny_updateSeq_pair→aaI,wpAny_newFunctionEnv→aaJ,pyIter→aaK,isSubtype_stop→aaL,callWith→aaM,valueAt→aaR,getItem→aaS,Arguments→aaV,wpAny_handled→aa1,signature?_of→aa2,wpAny_pyIter_slot→aba,relayAll→abb,callerA→abd,GenState→abm,plainObj_wpAny_Assign_Attribute→abn,tupleKind→abp,noFill_tuple_add→abq,newExc→abr,IsPart→abx,wpAny_throw→abz,subscripted→abA,sizeLine_eq→abB,Model→abE,wpAny_ite_split→abF,theTreesLotGoes→abG,setNext→abO
open PySem.Around renaming under_plainId→Ws
open PySem.Builtin.Builtins renaming bindParams→ZQ
open PySem.Builtin.List renaming listTooLong→aaj,listLengthHint→abR,listExtendWith→abS
open PySem.Builtin.Slice renaming slicePlaces→YH,sliceAdjust→Z9
open PySem.Builtin.SmallTypes renaming nextOf→VP,ownedTupleIsFree→Xi,ownedTupleHandOut→aa0,newClass→abQ
open PySem.Builtin.Tuple renaming tupleExact→YT
open PySem.Calls renaming spliced_cons→Z6,spliced_nil→aae
open PySem.Code renaming quiet_builtin→aa8
open PySem.F renaming type_list_append→Wg,slot_list_append→Wh,plainAttrs_list→Wq,plain_max_loop→XR,slot_tuple_iterator_next→Yw,args_tuple_add_2→aah,entry_tuple_add→aan,slot_tuple_add→aat,slot_zip_next→aaG,entry_max_loop→aby,args_tuple_iterator_next_1→abN,entry_tuple_iterator_next→abP
open PySem.Heap renaming get?_push_of_some→TQ,get?_push_size→T9,lt_size→Ua,get?_update_other→Uu,get?_update_self→UG,size_push→Ve,SameBut→Wl
open PySem.Heap.SameBut renaming update→Vy
open PySem.NameKind renaming free→Wj,cell→Zo
open PySem.Obj renaming mapFields→Wi,data_mapFields→X3,mapSeq→Y9,isFreed_of_fields→Zg,putSet→aa7
open PySem.PassesOwn renaming never→Vu
open PySem.SeqAt.EqAt renaming int_int→aa6
open PySem.SetTable renaming below→V1,grown→Yq
open PySem.SetTable.below renaming go→Zb
open PySem.SetTable.probe renaming go→abf
open PySem.Str renaming ofString→Xd
open PySem.Value renaming ref→Uk,none→Vr,int→Xj,type→Yp,bool→aas,str→aaU,builtin→aa3
open PySem.W renaming Frag→Ud,Frag→Uw,mg_none_of→Vq,findIn→Vw,keepIn→Wa,kia_one→Wk,emptyDict→WD,nsIn→WK,instObj→Xp,fnOf→Xq,hasDictIn→Yd,kitOne→Yn,findIn→Yo,looks_findIn→Ys,codeIn→Yt,callWith_K→Y8,methodCall_KW→Zf,plainGet→Zm,mg_of→Zn,takerIn→aaA,kla_obj→aaB,fnOf→aaN,lookIn→aaO,mg_of→aaT,plainGet_of→aaW,looks_clsIn→aaX,callWith_K0→aaY,Looks→aa4,plainOver→abg,methodObj→abh,isFn→abi,handedIn→abt,makesIn→abH,hideAll→abI
open PySem.W.Looks renaming here→WN
open PySem.Walks renaming list→aa5
open Sum renaming inl→V3,inr→abe
open Sum.inl renaming inj→abD
open True renaming intro→Xw
open PySem
abbrev EL := Option (Value->Sem Unit)
abbrev EM := Option (Value × Nat)
abbrev EN := Option (Int × Tok)
abbrev EO := List (Ut × Value)
abbrev EQ := List (Addr × WL)
abbrev ER := List (Ut × Addr)
abbrev ES := List (Int × Int)
abbrev ET := Value->TV->Prop
abbrev EU := List (List Int)
abbrev EV := List (Ut × Z4)
abbrev EW := Option Value
abbrev EX := List Keyword
abbrev EZ := Option Addr
abbrev E1 := Option Bool
abbrev E4 := List Value
abbrev E5 := Option Int
abbrev E6 := List Addr
abbrev E7 := List Expr
abbrev E8 := List Stmt
abbrev E9 := List Int
abbrev Fa := List Nat
abbrev Fc := List Str
abbrev Fh := List Ut
abbrev Fk := List Zz
set_option Elab.async false
set_option linter.all false
set_option maxRecDepth 100000
namespace L2
open PySem PySem.Spec PyProof.Rows
abbrev Key:=Sum Int Ut
def wY:Key->Value->Bool
 | .inl k,v=>Value.isInt k v
 | .inr x,v=>Value.isStrOf x v
def Te (w:U3):Key->Int
 | .inl k=>hashInt k
 | .inr x=>hashStr w x
theorem bO:∀ {k:Key} {v:Value},wY k v=true->(∃ i t,k=V3 i/\v=Xj i t)∨(∃ x t,k=abe x/\v=aaU x t)
 | .inl i,v,h=>by
  obtain⟨t,e⟩:=Value.isInt_shape (k:=i) (v:=v) h
  exact .inl ⟨i,t,U,e⟩
 | .inr x,v,h=>by
  obtain⟨t,e⟩:=Value.isStrOf_shape (x:=x) (v:=v) h
  exact .inr ⟨x,t,U,e⟩
theorem Ey (i:Int)(t:Tok):wY (.inl i) (.int i t)=true:=by simp [wY,Value.isInt]
theorem CV (x:Ut)(t:Tok):wY (.inr x) (.str x t)=true:=by simp [wY,Value.isStrOf]
theorem Ph (a b:Int):decide ((V3 a:Key)=V3 b)=(a == b):=by
 by_cases e:a=b
 ·subst e;simp
 ·have h:¬ (V3 a:Key)=V3 b:=fun q=>e (abD q)
  rw[decide_eq_false h]
  exact (beq_eq_false_iff_ne.mpr e).symm
theorem Pb (a b:Ut):decide ((abe a:Key)=abe b)=decide (a=b):=by
 by_cases e:a=b
 ·subst e;simp
 ·have h:¬ (abe a:Key)=abe b:=fun q=>e (Sum.inr.inj q)
  rw[decide_eq_false h,decide_eq_false e]
theorem Oo (a:Int)(b:Ut):decide ((V3 a:Key)=abe b)=false:=decide_eq_false (fun q=>nomatch q)
theorem PB (a:Ut)(b:Int):decide ((abe a:Key)=V3 b)=false:=decide_eq_false (fun q=>nomatch q)
def cU (prog:Uq)(w:U3):PySem.KeyKind prog w Key where
 is:=wY
 hash:=Te w
 inj:=fun v a b ha hb=>by
  rcases bO ha with⟨i,t,rfl,rfl⟩ | ⟨x,t,rfl,rfl⟩
  ·rcases bO hb with⟨j,u,rfl,e⟩ | ⟨y,u,rfl,e⟩
   ·injection e with e1 _;rw[e1]
   ·exact nomatch e
  ·rcases bO hb with⟨j,u,rfl,e⟩ | ⟨y,u,rfl,e⟩
   ·exact nomatch e
   ·injection e with e1 _;rw[e1]
 byValue:=fun k v h=>by
  rcases bO h with⟨i,t,rfl,rfl⟩ | ⟨x,t,rfl,rfl⟩ <;> rfl
 pyHash:=fun hv h=>by
  rcases bO hv with⟨i,t,rfl,rfl⟩ | ⟨x,t,rfl,rfl⟩
  ·exact wpAny_pyHash_int h
  ·exact wpAny_pyHash_str h
 eqBool:=fun hu hv h=>by
  rcases bO hu with⟨i,t,rfl,rfl⟩ | ⟨x,t,rfl,rfl⟩
  ·rcases bO hv with⟨j,u,rfl,rfl⟩ | ⟨y,u,rfl,rfl⟩
   ·rw[Ph] at h;exact wpAny_eqBool_int h
   ·rw[Oo] at h;exact SeqAt.EqAt.int_str i t y u _ _ _ _ h
  ·rcases bO hv with⟨j,u,rfl,rfl⟩ | ⟨y,u,rfl,rfl⟩
   ·rw[PB] at h;exact SeqAt.EqAt.str_int x t j u _ _ _ _ h
   ·rw[Pb] at h;exact wpAny_eqBool_str h
 «strs»:=fun k x t v h=>by
  rcases bO h with⟨i,u,rfl,e⟩ | ⟨y,u,rfl,e⟩
  ·exact nomatch e
  ·injection e with e1 _
   subst e1
   cases v <;> rfl
theorem xZ (prog:Uq)(w:U3)(i:Int)(t:Tok):(cU prog w).is (.inl i) (.int i t)=true:=Ey i t
theorem yg (prog:Uq)(w:U3)(x:Ut)(t:Tok):(cU prog w).is (.inr x) (.str x t)=true:=CV x t
inductive V where
 | non | bl (b:Bool) | int (i:Int) | str (x:Ut) | byt (b:Array UInt8) | flt (b:UInt64) | ref (a:Addr) | ty (n:String)
 deriving DecidableEq
def RelV:V->Value->Prop
 | .non,u=>u=Vr
 | .bl b,u=>u=aas b
 | .int i,u=>∃ t,u=Xj i t
 | .str x,u=>∃ t,u=aaU x t
 | .byt b,u=>∃ t,u=Value.bytes b t
 | .flt b,u=>∃ t,u=Value.float b t
 | .ref a,u=>u=Uk a
 | .ty n,u=>u=Yp n
abbrev Vals:List V->E4->Prop:=Paired RelV
theorem Vals.length {xs:List V}{us:E4}(r:Vals xs us):xs.length=us.length:=Paired.length r
theorem Vals.get:∀ {xs:List V} {us:E4} {i:Nat} {x:V},Vals xs us->xs[i]? = some x->∃ u,us[i]? = some u/\RelV x u
 | _,_,_,_,.nil,e=>by simp at e
 | _,_,0,_,.cons r _,e=>by simp at e;subst e;exact⟨_,U,r⟩
 | _,_,i+1,x,.cons _ t,e=>by
  obtain⟨u,h1,h2⟩:=Vals.get (i:=i) (x:=x) t (by simpa using e)
  exact⟨u,by simpa using h1,h2⟩
theorem Vals.set {x:V}{u:Value}(r:RelV x u):∀ {xs:List V} {us:E4} (i:Nat),Vals xs us->Vals (xs.set i x) (us.set i u)
 | _,_,_,.nil=>.nil
 | _,_,0,.cons _ t=>.cons r t
 | _,_,i+1,.cons q t=>.cons q (Vals.set r i t)
theorem Vals.append:∀ {xs ys:List V} {us ws:E4},Vals xs us->Vals ys ws->Vals (xs++ys) (us++ws)
 | _,_,_,_,.nil,s=>s
 | _,_,_,_,.cons r t,s=>.cons r (Vals.append t s)
theorem Vals.take:∀ {xs:List V} {us:E4} (n:Nat),Vals xs us->Vals (xs.take n) (us.take n)
 | _,_,0,_=>.nil
 | _,_,_+1,.nil=>.nil
 | _,_,n+1,.cons r t=>.cons r (Vals.take n t)
theorem Vals.drop:∀ {xs:List V} {us:E4} (n:Nat),Vals xs us->Vals (xs.drop n) (us.drop n)
 | _,_,0,r=>r
 | _,_,_+1,.nil=>.nil
 | _,_,n+1,.cons _ t=>Vals.drop n t
def rB:Option V->EW->Prop
 | some v,some u=>RelV v u
 | none,none=>True
 | _,_=>False
def KV {κ:Type}:List (κ × V)->List (κ × Value)->Prop:=Paired fun (p:κ × V) (q:κ × Value)=>p.1=q.1/\RelV p.2 q.2
def kV:Key->V
 | .inl i=>.int i
 | .inr x=>.str x
inductive HO where
 /-- a list -/
 | lst (xs:List V)
 /-- a tuple (never changes) -/
 | tup (xs:List V)
 /-- a dict whose keys are ints and texts;one whose keys are tuples of ints and texts (the empty one is both) -/
 | dK (kvs:List (Key × V)) | dT (kvs:List (List Key × V))
 /-- a set of ints: its members,its size -/
 | set (S:Int->Bool) (n:Nat)
 /-- an instance of the class at C,its dict at dx,its attributes -/
 | ins (C dx:Addr) (fs:List (Ut × V))
 /-- the dict of the instance at x -/
 | own (x:Addr)
 /-- the dict of an exception -/
 | xd (fs:List (Ut × V))
 /-- a bound method,f of x -/
 | met (f x:Addr)
 /-- a range object lo,lo+1,.. below hi -/
 | rng (lo hi:Int)
 /-- a thing that is known to the object (the script;a dict while a loop walks it): read,never written while it is so -/
 | frz (o:WL) (u:HO)
 /-- a code object's table -/
 | tbl (ps:Array Value)
 /-- any other thing,by what is true of its one object (a def of one's own: SetO a S n:=HO.ext fun h=>..) -/
 | ext (φ:Va->Prop)
abbrev Hp:=Addr->Option HO
def upd (H:Hp)(a:Addr)(o:HO):Hp:=fun b=>if b=a then some o else H b
theorem aa {H:Hp}{a:Addr}{o:HO}:upd H a o a=some o:=by unfold upd;rw[if_pos U]
theorem aD {H:Hp}{a b:Addr}{o:HO}(h:b≠a):upd H a o b=H b:=by unfold upd;rw[if_neg h]
theorem uy {H:Hp}{a:Addr}{o u:HO}:upd (upd H a o) a u=upd H a u:=by
 funext b;unfold upd;split <;> rfl
theorem Ru {H:Hp}{a b:Addr}{o u:HO}(h:H a=some o)(h':H b=some u)(d:o≠u):a≠b:=by
 intro e;subst e;rw[h] at h';exact d (U5 h')
theorem cg {H:Hp}{a b:Addr}{o:HO}(h:H a=some o)(h':H b=none):a≠b:=by
 intro e;subst e;rw[h] at h';cases h'
section
variable (P:Uq)(w:U3)
def cX (H:Hp)(h:Va)(a:Addr):HO->Prop
 | .lst xs=>xs.length<=sizeLine/\∃ (its:E4) (n:Nat),Vals xs its/\h.get? a=some { cls:=.type "list",data:=.seq its.toArray n }
 | .tup xs=>xs.length<=sizeLine/\∃ its:E4,Vals xs its/\IsTup h a its.toArray
 | .dK kvs=>kvs.length<=sizeLine/\(a == Yj)=false/\∃ vs,KV kvs vs/\h.DictOf (cU P w) a vs
 | .dT kvs=>kvs.length<=sizeLine/\(a == Yj)=false/\∃ xs:List (List Key × Addr × Value),
   Paired (fun (p:List Key × V) (q:List Key × Addr × Value)=>p.1=q.1/\H q.2.1=some (.tup (p.1.map kV))/\RelV p.2 q.2.2) kvs xs ∧
   ∃ o es ep,h.get? a=some o/\o.ExactDict/\o.data = .dict es ep/\es.toList=xs.map (entryOfKey (abp (cU P w)))/\(xs.map (·.1)).Nodup
 | .set S n=>h.SetOf (YC P w) a S n
 | .ins C dx fs=>H dx=some (.own a)/\fs.length<=1000/\dx≠a/\h.get? a=some (Xp C dx) ∧
   ∃ mA,h.Ns1 dx mA/\(∀ f,rB (fs.lookup f) (mA f))/\PySem.Within mA (fs.map (·.1))
 | .own _=>∃ o,h.get? a=some o
 | .xd fs=>∃ mA,h.Ns1 a mA/\∀ f,rB (fs.lookup f) (mA f)
 | .rng lo hi=>∃ t u v,h.get? a=some { cls:=.type "range",data:=.fields #[.int lo t,.int hi u,.int 1 v] }
 | .frz o u=>h.get? a=some o/\cX H h a u
 | .tbl ps=>h.get? a=some { cls:=.none,data:=.fields ps }
 | .met f x=>h.get? a=some (abh (.ref f) (.ref x))
 | .ext φ=>φ h/\(∃ o,h.get? a=some o)/\∀ h1 h2:Va,φ h1->(∀ o,h1.get? a=some o->h2.get? a=some o)->φ h2
def HOk (H:Hp)(h:Va):Prop:=∀ a o,H a=some o->cX P w H h a o
end
section
variable {P:Uq}{w:U3}{H H':Hp}{h h':Va}{a:Addr}{o:HO}
theorem cX.lt (x:cX P w H h a o):a < h.objs.size:=by
 cases o with
 | lst xs=>obtain⟨_,_,_,_,e⟩:=x;exact Ua e
 | tup xs=>obtain⟨_,_,_,p⟩:=x;exact p.lt
 | dK kvs=>obtain⟨_,_,_,_,o,_,_,e,_⟩:=x;exact Ua e
 | dT kvs=>obtain⟨_,_,_,_,o,_,_,e,_⟩:=x;exact Ua e
 | set S n=>obtain⟨o,_,_,_,e,_⟩:=x;exact Ua e
 | ins C dx fs=>obtain⟨_,_,_,e,_⟩:=x;exact Ua e
 | own y=>obtain⟨_,e⟩:=x;exact Ua e
 | xd fs=>obtain⟨_,⟨_,_,_,e,_⟩,_⟩:=x;exact Ua e
 | rng lo hi=>obtain⟨_,_,_,e⟩:=x;exact Ua e
 | frz ob u=>obtain⟨e,_⟩:=x;exact Ua e
 | tbl ps=>exact Ua (show h.get? a=some _ from x)
 | met f y=>exact Ua (show h.get? a=some _ from x)
 | ext φ=>obtain⟨_,⟨_,e⟩,_⟩:=x;exact Ua e
theorem Paired.Ry {α β:Type}{F G:α->β->Prop}:∀ {l₁:List α} {l₂:List β},Paired F l₁ l₂->(∀ a b,F a b->G a b)->Paired G l₁ l₂
 | _,_,.nil,_=>.nil
 | _,_,.cons r t,f=>.cons (f _ _ r) (Paired.Ry t f)
theorem cX.stay (x:cX P w H h a o)(k:∀ b u,(b=a∨H b=some (.own a))->h.get? b=some u->h'.get? b=some u)
  (ho:∀ b,H b=some (.own a)->H' b=some (.own a)) (ht:∀ b xs,H b=some (.tup xs)->H' b=some (.tup xs)):cX P w H' h' a o:=by
 induction o with
 | lst xs=>obtain⟨z,its,n,r,e⟩:=x;exact⟨z,its,n,r,k _ _ (.inl U) e⟩
 | tup xs=>obtain⟨z,its,r,ob,e,c⟩:=x;exact⟨z,its,r,ob,k _ _ (.inl U) e,c⟩
 | dK kvs=>obtain⟨z,y,vs,r,ob,es,ep,e,c⟩:=x;exact⟨z,y,vs,r,ob,es,ep,k _ _ (.inl U) e,c⟩
 | dT kvs =>
  obtain⟨z,y,xs,r,ob,es,ep,e,c⟩:=x
  exact⟨z,y,xs,Paired.Ry r fun p q z=>⟨z.1,ht _ _ z.2.1,z.2.2⟩,ob,es,ep,k _ _ (.inl U) e,c⟩
 | set S n=>obtain⟨ob,es,ep,t,e,c⟩:=x;exact⟨ob,es,ep,t,k _ _ (.inl U) e,c⟩
 | ins C dx fs =>
  obtain⟨d,z,ne,e,mA,⟨od,es,ep,e2,c⟩,r⟩:=x
  exact⟨ho _ d,z,ne,k _ _ (.inl U) e,mA,⟨od,es,ep,k _ _ (.inr d) e2,c⟩,r⟩
 | own y=>obtain⟨ob,e⟩:=x;exact⟨ob,k _ _ (.inl U) e⟩
 | xd fs=>obtain⟨mA,⟨od,es,ep,e,c⟩,r⟩:=x;exact⟨mA,⟨od,es,ep,k _ _ (.inl U) e,c⟩,r⟩
 | rng lo hi=>obtain⟨t,u,v,e⟩:=x;exact⟨t,u,v,k _ _ (.inl U) e⟩
 | frz ob u ih=>obtain⟨e,q⟩:=x;exact⟨k _ _ (.inl U) e,ih q⟩
 | tbl ps =>
  have e:h.get? a=some { cls:=.none,data:=.fields ps }:=x
  show h'.get? a=some { cls:=.none,data:=.fields ps }
  exact k a _ (.inl U) e
 | met f y =>
  have e:h.get? a=some (abh (.ref f) (.ref y)):=x
  show h'.get? a=some (abh (.ref f) (.ref y))
  exact k a _ (.inl U) e
 | ext φ=>obtain⟨p,⟨o,e⟩,st⟩:=x;exact⟨st _ _ p fun o q=>k _ _ (.inl U) q,⟨o,k _ _ (.inl U) e⟩,st⟩
theorem HOk.lt (x:HOk P w H h)(e:H a=some o):a < h.objs.size:=(x a o e).lt
theorem HOk.fresh (x:HOk P w H h)(e:h.objs.size<=a):H a=none:=by
 cases q:H a with
 | none=>rfl
 | some u=>exact absurd (T4 (x.lt q) e) (Vb _)
theorem HOk.kept (x:HOk P w H h)(k:∀ b u,h.get? b=some u->h'.get? b=some u):HOk P w H h':=fun a o e =>
 (x a o e).stay (fun b u _ q=>k b u q) (fun _ q=>q) fun _ _ q=>q
theorem HOk.laid (x:HOk P w H h)(k:∀ b u,h.get? b=some u->h'.get? b=some u)(hp:h.objs.size<=a)(new:cX P w (upd H a o) h' a o):HOk P w (upd H a o) h':=fun b u e=>by
 have hn:=x.fresh hp
 by_cases hb:b=a
 ·subst hb;rw[aa] at e;cases e;exact new
 ·rw[aD hb] at e
  exact (x b u e).stay (fun c v _ q=>k c v q) (fun c q=>by rw[aD (cg q hn)];exact q) fun c xs q=>by rw[aD (cg q hn)];exact q
end
def Rd (H:Hp)(a:Addr)(u:HO):Prop:=H a=some u∨∃ o,H a=some (.frz o u)
theorem Rd.ok {P:Uq}{w:U3}{H:Hp}{h:Va}{a:Addr}{u:HO}(r:Rd H a u)(x:HOk P w H h):cX P w H h a u:=by
 rcases r with r | ⟨o,r⟩
 ·exact x a u r
 ·obtain⟨_,q⟩:=x a _ r
  exact q
def Mut:Option HO->Prop
 | some (.lst _)=>True
 | some (.dK _)=>True
 | some (.dT _)=>True
 | some (.set _ _)=>True
 | some (.ins _ _ _)=>True
 | some (.ext _)=>True
 | _=>False
section
variable {P:Uq}{w:U3}{H:Hp}{h h':Va}{x e:Addr}{o':HO}
theorem HOk.write (ok:HOk P w H h)(mu:Mut (H x))(he:e=x∨H e=some (.own x))(k:∀ b u,b≠e->h.get? b=some u->h'.get? b=some u)(heo:∃ u,h'.get? e=some u)
  (new:cX P w (upd H x o') h' x o'):HOk P w (upd H x o') h':=fun b u q=>by
 have nown:∀ c y,H c=some (.own y)->c≠x:=fun c y r z=>by subst z;rw[r] at mu;exact mu
 have ntup:∀ c xs,H c=some (.tup xs)->c≠x:=fun c xs r z=>by subst z;rw[r] at mu;exact mu
 by_cases hb:b=x
 ·subst hb;rw[aa] at q;cases q;exact new
 ·rw[aD hb] at q
  by_cases hbe:b=e
  ·have q':H b=some (.own x):=by
    rcases he with z | z
    ·exact absurd (hbe.trans z) hb
    ·rw[hbe];exact z
   rw[q] at q';cases q'
   obtain⟨v,hv⟩:=heo
   exact⟨v,by rw[hbe];exact hv⟩
  ·refine (ok b u q).stay (fun c v hc r=>k c v ?_ r) (fun c r=>by rw[aD (nown c b r)];exact r) fun c xs r=>by rw[aD (ntup c xs r)];exact r
   rcases hc with rfl | hc
   ·exact hbe
   ·rintro rfl
    rcases he with z | z
    ·exact nown c b hc z
    ·rw[hc] at z;cases z;exact hb U
end
structure Un (fs ex:E6)(H H':Hp)(h h':Va):Prop where
 keep:∀ b o,h.get? b=some o->H b=none->b ∉ fs->b ∉ ex->h'.get? b=some o
 slot:∀ b o,h.get? b=some o->H b=none->b∈fs->b ∉ ex->∃ sl,h'.get? b=some { o with slots:=sl }
 free:∀ b o,h.get? b=some o->H b=none->b ∉ ex->H' b=none
 there:∀ b o,h.get? b=some o->b ∉ ex->∃ o',h'.get? b=some o'
 tups:∀ b xs,H b=some (.tup xs)->H' b=some (.tup xs)
 frzs:∀ b o u,H b=some (.frz o u)->H' b=some (.frz o u)
 tbls:∀ b ps,H b=some (.tbl ps)->∃ more,H' b=some (.tbl (ps++more))
section
variable {fs fs' ex ex':E6}{H H1 H2:Hp}{h h1 h2 h':Va}{a x e:Addr}{o:HO}
theorem Un.any (u:Un fs ex H H1 h h1){b:Addr}{ob:WL}(q:h.get? b=some ob)(n:H b=none)(hx:b ∉ ex):∃ sl,h1.get? b=some { ob with slots:=sl }:=by
 by_cases hb:b∈fs
 ·exact u.slot b ob q n hb hx
 ·exact⟨ob.slots,u.keep b ob q n hb hx⟩
theorem Un.trans (a:Un fs ex H H1 h h1)(b:Un fs ex H1 H2 h1 h2):Un fs ex H H2 h h2 where
 keep:=fun c ob q n hc hx=>b.keep c ob (a.keep c ob q n hc hx) (a.free c ob q n hx) hc hx
 slot:=fun c ob q n hc hx=>by
  obtain⟨sl,e1⟩:=a.slot c ob q n hc hx
  obtain⟨sl',e2⟩:=b.slot c _ e1 (a.free c ob q n hx) hc hx
  exact⟨sl',e2⟩
 free:=fun c ob q n hx=>by
  obtain⟨o',e1⟩:=a.there c ob q hx
  exact b.free c o' e1 (a.free c ob q n hx) hx
 there:=fun c ob q hx=>by
  obtain⟨o',e1⟩:=a.there c ob q hx
  exact b.there c o' e1 hx
 tups:=fun c xs q=>b.tups c xs (a.tups c xs q)
 frzs:=fun c ob xs q=>b.frzs c ob xs (a.frzs c ob xs q)
 tbls:=fun c ps q=>by
  obtain⟨m1,e1⟩:=a.tbls c ps q
  obtain⟨m2,e2⟩:=b.tbls c _ e1
  exact⟨m1++m2,by rw[e2,Z7]⟩
theorem Un.kept (k:∀ b u,h.get? b=some u->h'.get? b=some u):Un fs ex H H h h' :=
 ⟨fun b ob q _ _ _=>k b ob q,fun b ob q _ _ _=>⟨ob.slots,k b ob q⟩,fun _ _ _ n _=>n,fun b ob q _=>⟨ob,k b ob q⟩,fun _ _ q=>q,fun _ _ _ q=>q,fun _ ps q=>⟨#[],by rw[q];simp⟩⟩
theorem Un.refl:Un fs ex H H h h:=Un.kept fun _ _ q=>q
theorem Un.laid (k:∀ b u,h.get? b=some u->h'.get? b=some u)(hp:h.objs.size<=a)(hn:H a=none):Un fs ex H (upd H a o) h h' where
 keep:=fun b u q _ _ _=>k b u q
 slot:=fun b u q _ _ _=>⟨u.slots,k b u q⟩
 free:=fun b u q n _=>by rw[aD (Um (T4 (Ua q) hp))];exact n
 there:=fun b u q _=>⟨u,k b u q⟩
 tups:=fun b xs q=>by rw[aD (cg q hn)];exact q
 frzs:=fun b u xs q=>by rw[aD (cg q hn)];exact q
 tbls:=fun b ps q=>⟨#[],by rw[aD (cg q hn),q];simp⟩
theorem Un.write (mu:Mut (H x))(he:e=x∨H e=some (.own x))(k:∀ b u,b≠e->h.get? b=some u->h'.get? b=some u)(heo:∃ u,h'.get? e=some u):Un fs ex H (upd H x o) h h':=by
 have hx:∀ b,H b=none->b≠x:=fun b n z=>by subst z;rw[n] at mu;exact mu
 have hb:∀ b,H b=none->b≠e:=fun b n z=>by
  subst z
  rcases he with r | r
  ·exact hx b n r
  ·rw[n] at r;cases r
 have hm:∀ b u,H b=some u->¬ Mut (some u)->b≠x:=fun b u q nm z=>by subst z;rw[q] at mu;exact nm mu
 refine⟨fun b u q n _ _=>k b u (hb b n) q,fun b u q n _ _=>⟨u.slots,k b u (hb b n) q⟩,fun b u q n _=>by rw[aD (hx b n)];exact n,fun b u q _=>?_,
  fun b xs q=>by rw[aD (hm b _ q fun z=>z)];exact q,fun b u xs q=>by rw[aD (hm b _ q fun z=>z)];exact q,fun b ps q=>⟨#[],by rw[aD (hm b _ q fun z=>z),q];simp⟩⟩
 by_cases hbe:b=e
 ·subst hbe;exact heo
 ·exact⟨u,k b u hbe q⟩
end
def trk (h:Va)(H:Hp):E6:=(VV h.objs.size).filter fun a=>(H a).isSome
def Jr (h:Va)(H:Hp):Va:=abI h (trk h H)
theorem Du (h:Va)(H:Hp):(Jr h H).objs.size=h.objs.size:=PySem.W.hideAll_size _ _
theorem HD {h:Va}{H:Hp}{b:Addr}{o:WL}(e:h.get? b=some o)(n:H b=none):(Jr h H).get? b=some o :=
 PySem.W.hideAll_get _ e fun hm=>by
  have q:(H b).isSome=true:=(List.mem_filter.mp hm).2
  rw[n] at q;simp at q
theorem Mp {h:Va}{H:Hp}{b:Addr}{o:WL}(e:(Jr h H).get? b=some o):h.get? b=some o/\H b=none:=by
 have e':h.get? b=some o:=PySem.W.of_hideAll (trk h H) e
 refine⟨e',?_⟩
 cases q:H b with
 | none=>rfl
 | some x =>
  have hm:b∈trk h H:=List.mem_filter.mpr ⟨List.mem_range.mpr (Ua e'),by simp [q]⟩
  have z:(Jr h H).get? b=none:=PySem.W.hideAll_none (trk h H) hm
  rw[z] at e;cases e
def MP (g h:Va)(L:Addr):EQ:=(VV h.objs.size).filterMap fun a=>if a=L∨(g.get? a).isSome=true then none else (h.get? a).map fun o=>(a,o)
def rest (g h:Va)(L d:Addr):EQ:=(MP g h L).filter fun p=>decide (p.1≠d)
structure Mod (K:Ud)(mg:Ut->EW)(base:Va):Prop where
 kin:K.In base
 glob:base.Ns Us mg
 blt:∃ mb,base.Ns builtinsNs mb/\∀ x:Ut,x≠"__name__"->mb x=Vi x
 nolimit:base.NoLimit
structure Cx where
 prog:Uq
 w:U3
 K:Ud
 mg:Ut->EW
 base:Va
 A:UW
 N:Fh
 s₀:TV
 H₀:Hp
 env:Zz
 outer:Fk
 stack:Fk
 ex:E6
 fn:Ut->Bool
 calm:Bool
 pn:EQ
 xe:ET
def frs (l:Fk):E6:=l.filterMap (·.frame)
abbrev Cx.fs (X:Cx):E6:=frs X.outer
def Vis (sc:Wo)(x:Ut):Prop:=sc.names.lookup x=some .local∨sc.names.lookup x=some .cell∨sc.names.lookup x=some .free
def Loc (sc:Wo)(x:Ut):Prop:=sc.names.lookup x=some .local∨sc.names.lookup x=some .cell
def Look (env:Zz)(h:Va)(m:Ut->EW)(x:Ut)(u:Value):Prop :=
 (env.kindOf x=some .local/\m x=some u)∨((env.kindOf x=some .cell∨env.kindOf x=some .free)/\∃ c,env.cells.lookup x=some c/\h.IsCell c (some u))
structure Cx.Ok (X:Cx):Prop where
 mod:Mod X.K X.mg X.base
 kind:X.env.scope.kind = .function
 glob:X.env.globals=Us
 blt:X.env.builtins=builtinsNs
 above:X.s₀.heap.objs.size<=X.env.locals
 inj:∀ x y c,X.env.cells.lookup x=some c->X.env.cells.lookup y=some c->x=y
 has:∀ x,(X.env.kindOf x=some .cell∨X.env.kindOf x=some .free)->∃ c,X.env.cells.lookup x=some c
 cab:∀ x c,X.fn x=true->X.env.cells.lookup x=some c->X.s₀.heap.objs.size<=c
 hd:X.calm=true->X.A.handled=none
 frames:X.A.frames=some X.stack
 stk:X.stack=X.outer∨(X.stack=X.env::X.outer/\X.env.frame=some X.env.locals)
 exf:∀ b∈X.ex,b≠X.env.locals/\∀ x c,X.env.cells.lookup x=some c->c≠b
 bs:∀ b o,X.base.get? b=some o->X.s₀.heap.get? b=some o/\X.H₀ b=none
 bsz:X.base.objs.size<=X.s₀.heap.objs.size
 noex:∀ b o,X.base.get? b=some o->b ∉ X.ex
 exfs:∀ b∈X.ex,b ∉ X.fs
 qT:X.s₀.heap.FunFrames X.base X.outer
 frf:∀ b∈X.fs,X.H₀ b=none
structure Inv (X:Cx)(ZY:EQ)(σ:List (Option V))(H:Hp)(s:TV):Prop where
 ok:X.Ok
 os:s.os=X.s₀.os
 bare:aaf s.gens
 base:Un X.fs X.ex X.H₀ H X.s₀.heap s.heap
 loc:∃ m,s.heap.Ns X.env.locals m/\∀ (i:Nat) (x:Ut) (v:V),X.N[i]? = some x->σ[i]? = some (some v)->Vis X.env.scope x->∃ u,RelV v u/\Look X.env s.heap m x u
 cell:∀ x c,X.env.cells.lookup x=some c->∃ v,s.heap.IsCell c v
 free:H X.env.locals=none
 freeC:∀ x c,X.env.cells.lookup x=some c->H c=none
 pin:∀ p∈X.pn++ZY,s.heap.get? p.1=some p.2/\H p.1=none/\p.1≠X.env.locals/\p.1 ∉ X.fs/\∀ v,p.2.data≠.cell v
 hok:HOk X.prog X.w H s.heap
 len:σ.length=X.N.length
section
variable {X:Cx}{ZY:EQ}{σ:List (Option V)}{H H':Hp}{s:TV}{h':Va}
theorem Cx.Ok.Tj (ok:X.Ok){b:Addr}{o:WL}(e:X.base.get? b=some o):b ∉ X.fs:=fun hb=>by
 have:=(ok.qT.mem hb).1
 rw[e] at this;cases this
theorem Inv.bs (I:Inv X ZY σ H s):∀ b o,X.base.get? b=some o->s.heap.get? b=some o/\H b=none:=fun b o e =>
 ⟨I.base.keep b o (I.ok.bs b o e).1 (I.ok.bs b o e).2 (I.ok.Tj e) (I.ok.noex b o e),I.base.free b o (I.ok.bs b o e).1 (I.ok.bs b o e).2 (I.ok.noex b o e)⟩
theorem Inv.bk (I:Inv X ZY σ H s):∀ b o,X.base.get? b=some o->s.heap.get? b=some o:=fun b o e=>(I.bs b o e).1
theorem Inv.mod (I:Inv X ZY σ H s):Mod X.K X.mg X.base:=I.ok.mod
theorem Inv.kIn (I:Inv X ZY σ H s):X.K.In s.heap:=I.ok.mod.kin.keeps I.bk
theorem Inv.fr (I:Inv X ZY σ H s):∃ m,Fr X.base X.env.locals s.heap m :=
 let ⟨m,hn,_⟩:=I.loc
 ⟨m,hn,I.bk,UL I.ok.bsz I.ok.above⟩
theorem Inv.lt (I:Inv X ZY σ H s):X.env.locals < s.heap.objs.size:=let ⟨_,hn,_⟩:=I.loc;hn.lt
theorem Inv.sz (I:Inv X ZY σ H s):X.s₀.heap.objs.size<=s.heap.objs.size:=UL I.ok.above (WR I.lt)
theorem Inv.Tw (I:Inv X ZY σ H s){a:Addr}(h:s.heap.objs.size<=a):a ∉ X.fs:=fun hb=>by
 obtain⟨_,o,ho,_⟩:=I.ok.qT.mem hb
 exact absurd (T4 (Ua ho) (UL I.sz h)) (Vb _)
theorem Inv.cne (I:Inv X ZY σ H s):∀ x c,X.env.cells.lookup x=some c->c≠X.env.locals:=fun x c e z=>by
 obtain⟨v,o,ho,hd⟩:=I.cell x c e
 obtain⟨m,⟨o',es,ep,ho',hd',_⟩,_⟩:=I.loc
 rw[z,ho'] at ho;cases ho;rw[hd'] at hd;cases hd
theorem Inv.qT (I:Inv X ZY σ H s):s.heap.FunFrames X.base X.outer:=by
 have all:∀ (l:Fk),(∀ b∈frs l,b∈X.fs)->X.s₀.heap.FunFrames X.base l->s.heap.FunFrames X.base l:=by
  intro l
  induction l with
  | nil=>intro _ _;trivial
  | cons env r ih =>
   intro hs hl
   obtain⟨hk,⟨L,o,hf,hn,ho,hd⟩,hr⟩:=hl
   have hL:L∈X.fs:=hs L (by unfold frs;rw[ZP,hf];exact Uc)
   obtain⟨sl,e⟩:=I.base.slot L o ho (I.ok.frf L hL) hL fun z=>I.ok.exfs L z hL
   exact⟨hk,⟨L,_,hf,hn,e,hd⟩,ih (fun b hb=>hs b (by unfold frs;rw[ZP,hf];exact Ug _ hb)) hr⟩
 exact all X.outer (fun _ hb=>hb) I.ok.qT
theorem Inv.stack (I:Inv X ZY σ H s):s.heap.FunFrames X.base X.stack:=by
 rcases I.ok.stk with e | ⟨e,hf⟩
 ·rw[e];exact I.qT
 ·rw[e]
  obtain⟨m,hn,_⟩:=I.loc
  refine .cons (by rw[I.ok.kind];decide) hf hn ?_ I.qT
  exact Heap.get?_none_of_le (UL I.ok.bsz I.ok.above)
theorem Inv.rm (I:Inv X ZY σ H s):∀ b∈frs X.stack,b∈X.env.locals::X.fs:=fun b hb=>by
 rcases I.ok.stk with e | ⟨e,hf⟩
 ·rw[e] at hb;exact Ug _ hb
 ·rw[e] at hb
  unfold frs at hb
  rw[ZP,hf] at hb
  exact hb
theorem Inv.sG (I:Inv X ZY σ H s):∀ b∈frs X.stack,H b=none:=fun b hb=>by
 rcases List.mem_cons.mp (I.rm b hb) with e | hb
 ·rw[e];exact I.free
 ·obtain⟨_,o,ho,_⟩:=I.ok.qT.mem hb
  exact I.base.free b o ho (I.ok.frf b hb) fun z=>I.ok.exfs b z hb
theorem Inv.step {g':Array abm}{t':Nat}{d':Drawn}{ch:E6}(I:Inv X ZY σ H s)
  (hch:∀ b∈ch,(b∈X.ex∨X.s₀.heap.objs.size<=b)/\b≠X.env.locals/\(∀ x c,X.env.cells.lookup x=some c->c≠b)/\∀ p∈X.pn++ZY,p.1≠b)
  (keep:∀ b o,b≠X.env.locals->b ∉ X.fs->b ∉ ch->s.heap.get? b=some o->H b=none->h'.get? b=some o)
  (slot:∀ b o,b≠X.env.locals->b∈X.fs->b ∉ ch->s.heap.get? b=some o->H b=none->∃ sl,h'.get? b=some { o with slots:=sl }) (free:∀ b o,b ∉ ch->s.heap.get? b=some o->H b=none->H' b=none)
  (there:∀ b o,b ∉ ch->s.heap.get? b=some o->∃ o',h'.get? b=some o')
  (tups:∀ b xs,H b=some (.tup xs)->H' b=some (.tup xs)) (frzs:∀ b o u,H b=some (.frz o u)->H' b=some (.frz o u)) (tbls:∀ b ps,H b=some (.tbl ps)->∃ more,H' b=some (.tbl (ps++more)))
  (ns:∀ m,s.heap.Ns X.env.locals m->h'.Ns X.env.locals m) (hok:HOk X.prog X.w H' h') (hg:aaf g') :
  Inv X ZY σ H' { s with heap:=h',gens:=g',drawn:=d',toks:=t' }:=by
 have neL:∀ b o,X.s₀.heap.get? b=some o->b≠X.env.locals:=fun b o e=>Um (T4 (Ua e) I.ok.above)
 have neC:∀ b o,X.s₀.heap.get? b=some o->b ∉ X.ex->b ∉ ch:=fun b o e hx hb=>by
  rcases (hch b hb).1 with z | z
  ·exact hx z
  ·exact absurd (T4 (Ua e) z) (Vb _)
 have cellK:∀ x c,X.env.cells.lookup x=some c->∀ v,s.heap.IsCell c v->h'.IsCell c v:=fun x c e v ⟨o,ho,hd⟩=>by
  have nch:c ∉ ch:=fun z=>(hch c z).2.2.1 x c e U
  by_cases hc:c∈X.fs
  ·obtain⟨sl,q⟩:=slot c o (I.cne x c e) hc nch ho (I.freeC x c e)
   exact⟨_,q,hd⟩
  ·exact⟨o,keep c o (I.cne x c e) hc nch ho (I.freeC x c e),hd⟩
 refine⟨I.ok,I.os,hg,⟨fun b o e n hb hx=>?_,fun b o e n hb hx=>?_,fun b o e n hx=>?_,fun b o e hx=>?_,fun b xs e=>tups b xs (I.base.tups b xs e),fun b o xs e=>frzs b o xs (I.base.frzs b o xs e),fun b ps e=>?_⟩,?_,fun x c e=>?_,?_,fun x c e=>?_,fun p hp=>?_,hok,I.len⟩
 ·exact keep b o (neL b o e) hb (neC b o e hx) (I.base.keep b o e n hb hx) (I.base.free b o e n hx)
 ·obtain⟨sl,e1⟩:=I.base.slot b o e n hb hx
  obtain⟨sl',e2⟩:=slot b _ (neL b o e) hb (neC b o e hx) e1 (I.base.free b o e n hx)
  exact⟨sl',e2⟩
 ·obtain⟨o',e1⟩:=I.base.there b o e hx
  exact free b o' (neC b o e hx) e1 (I.base.free b o e n hx)
 ·obtain⟨o',e1⟩:=I.base.there b o e hx
  exact there b o' (neC b o e hx) e1
 ·obtain⟨m1,e1⟩:=I.base.tbls b ps e
  obtain⟨m2,e2⟩:=tbls b _ e1
  exact⟨m1++m2,by rw[e2,Z7]⟩
 ·obtain⟨m,hn,hl⟩:=I.loc
  refine⟨m,ns m hn,fun i x v e1 e2 e3=>?_⟩
  obtain⟨u,r,l⟩:=hl i x v e1 e2 e3
  refine⟨u,r,?_⟩
  rcases l with l | ⟨k,c,e,z⟩
  ·exact .inl l
  ·exact .inr ⟨k,c,e,cellK x c e _ z⟩
 ·obtain⟨v,z⟩:=I.cell x c e
  exact⟨v,cellK x c e v z⟩
 ·obtain⟨m,⟨o,_,_,ho,_⟩,_⟩:=I.loc
  exact free _ o (fun z=>(hch _ z).2.1 U) ho I.free
 ·obtain⟨v,o,ho,hd⟩:=I.cell x c e
  exact free c o (fun z=>(hch c z).2.2.1 x c e U) ho (I.freeC x c e)
 ·obtain⟨e,n,ne,nf,d⟩:=I.pin p hp
  have nch:p.1 ∉ ch:=fun z=>(hch p.1 z).2.2.2 p hp U
  exact⟨keep p.1 p.2 ne nf nch e n,free p.1 p.2 nch e n,ne,nf,d⟩
theorem Inv.un {t':Nat}(I:Inv X ZY σ H s)(u:Un X.fs [] H H' s.heap h')(hok:HOk X.prog X.w H' h'):Inv X ZY σ H' { s with heap:=h',toks:=t' }:=by
 obtain⟨m,⟨o,es,ep,ho,r⟩,_⟩:=id I.loc
 obtain⟨sl,hL⟩:=u.any ho I.free (by simp)
 exact I.step (g':=s.gens) (d':=s.drawn) (ch:=[]) (fun _ z=>nomatch z) (fun b o _ hb _ e n=>u.keep b o e n hb (by simp)) (fun b o _ hb _ e n=>u.slot b o e n hb (by simp)) (fun b o _ e n=>u.free b o e n (by simp)) (fun b o _ e=>u.there b o e (by simp)) u.tups u.frzs u.tbls (fun m' hm=>by
  obtain⟨o',es',ep',ho',r'⟩:=hm
  rw[ho] at ho';cases ho'
  exact⟨_,es',ep',hL,r'⟩) hok I.bare
theorem Inv.call {g':Array abm}{t':Nat}{d':Drawn}{ch:E6}(I:Inv X ZY σ H s)(u:Un (frs X.stack) ch H H' s.heap h')(hok:HOk X.prog X.w H' h')(hg:aaf g')
  (hch:∀ b∈ch,(b∈X.ex∨X.s₀.heap.objs.size<=b)/\b≠X.env.locals/\(∀ x c,X.env.cells.lookup x=some c->c≠b)/\∀ p∈X.pn++ZY,p.1≠b) :
  Inv X ZY σ H' { s with heap:=h',gens:=g',drawn:=d',toks:=t' }:=by
 obtain⟨m,⟨o,es,ep,ho,r⟩,_⟩:=id I.loc
 obtain⟨sl,hL⟩:=u.any ho I.free fun z=>(hch _ z).2.1 U
 exact I.step (ch:=ch) hch (fun b o hL hb hc e n=>u.keep b o e n (fun z=>(List.mem_cons.mp (I.rm b z)).elim hL hb) hc) (fun b o _ _ hc e n=>u.any e n hc) (fun b o hc e n=>u.free b o e n hc) (fun b o hc e=>u.there b o e hc) u.tups u.frzs u.tbls (fun m' hm=>by
  obtain⟨o',es',ep',ho',r'⟩:=hm
  rw[ho] at ho';cases ho'
  exact⟨_,es',ep',hL,r'⟩) hok hg
theorem Inv.turned {t':Nat}{it:Addr}(I:Inv X ZY σ H s)(k:∀ b o,b≠it->s.heap.get? b=some o->h'.get? b=some o)(hn:H it=none)(hL:it≠X.env.locals)
  (h1:it∈X.ex∨X.s₀.heap.objs.size<=it) (h2:∀ x c,X.env.cells.lookup x=some c->c≠it) (h3:∀ p∈X.pn++ZY,p.1≠it):Inv X ZY σ H { s with heap:=h',toks:=t' }:=by
 have nit:∀ b u,H b=some u->b≠it:=fun b u e z=>by rw[z,hn] at e;cases e
 refine I.step (g':=s.gens) (d':=s.drawn) (ch:=[it]) (fun b hb=>?_) (fun b o _ _ hc e _=>k b o (fun z=>hc (by simp [z])) e) (fun b o _ _ hc e _=>⟨o.slots,k b o (fun z=>hc (by simp [z])) e⟩) (fun _ _ _ _ n=>n)
  (fun b o hc e=>⟨o,k b o (fun z=>hc (by simp [z])) e⟩) (fun _ _ e=>e) (fun _ _ _ e=>e) (fun b ps e=>⟨#[],by rw[e];simp⟩) (fun m hm=>?_) (fun b u e=>?_) I.bare
 ·have e:b=it:=by simpa using hb
  subst e
  exact⟨h1,hL,h2,h3⟩
 ·obtain⟨o,es,ep,ho,r⟩:=hm
  exact⟨o,es,ep,k _ o (VM hL) ho,r⟩
 ·refine (I.hok b u e).stay (fun c v hc q=>k c v ?_ q) (fun _ q=>q) fun _ _ q=>q
  rcases hc with z | z
  ·rw[z];exact nit b u e
  ·exact nit c _ z
theorem Inv.tok (I:Inv X ZY σ H s)(t:Nat):Inv X ZY σ H { s with toks:=t }:=I.un (h':=s.heap) (t':=t) Un.refl I.hok
theorem Inv.kept {t':Nat}(I:Inv X ZY σ H s)(k:∀ b u,s.heap.get? b=some u->h'.get? b=some u):Inv X ZY σ H { s with heap:=h',toks:=t' }:=I.un (Un.kept k) (I.hok.kept k)
theorem Inv.laid {a:Addr}{o:HO}{t':Nat}(I:Inv X ZY σ H s)(k:∀ b u,s.heap.get? b=some u->h'.get? b=some u)(hp:s.heap.objs.size<=a)(new:cX X.prog X.w (upd H a o) h' a o) :
  Inv X ZY σ (upd H a o) { s with heap:=h',toks:=t' }:=I.un (Un.laid k hp (I.hok.fresh hp)) (I.hok.laid k hp new)
theorem Inv.write {x e:Addr}{o:HO}{t':Nat}(I:Inv X ZY σ H s)(mu:Mut (H x))(he:e=x∨H e=some (.own x))(k:∀ b u,b≠e->s.heap.get? b=some u->h'.get? b=some u)(heo:∃ u,h'.get? e=some u)
  (new:cX X.prog X.w (upd H x o) h' x o):Inv X ZY σ (upd H x o) { s with heap:=h',toks:=t' }:=I.un (Un.write mu he k heo) (I.hok.write mu he k heo new)
theorem Inv.Ef {ZY':EQ}(I:Inv X ZY σ H s)(h:∀ p∈ZY',s.heap.get? p.1=some p.2/\H p.1=none/\p.1≠X.env.locals/\p.1 ∉ X.fs/\∀ v,p.2.data≠.cell v):Inv X ZY' σ H s :=
 ⟨I.ok,I.os,I.bare,I.base,I.loc,I.cell,I.free,I.freeC,fun p hp=>(List.mem_append.mp hp).elim (fun z=>I.pin p (Zw _ z)) (h p),I.hok,I.len⟩
theorem zJ {N:Fh}(hN:N.Nodup){i j:Nat}{x:Ut}(a:N[i]? = some x)(b:N[j]? = some x):i=j:=by
 obtain⟨h1,e1⟩:=List.getElem?_eq_some_iff.mp a
 obtain⟨h2,e2⟩:=List.getElem?_eq_some_iff.mp b
 exact (List.getElem_inj hN).mp (e1.trans e2.symm)
theorem vM {M:abE}{A:UW}{E:ET}{i:Nat}{x:Ut}{v:V}{u:Value}{Q:Unit->TV->Prop}(I:Inv X ZY σ H s)(hN:X.N.Nodup)(hi:X.N[i]? = some x)(hx:Loc X.env.scope x)(r:RelV v u)
  (h:∀ s',Inv X ZY (σ.set i (some v)) H s'->(∃ a,Wl a s.heap s'.heap/\(a=X.env.locals∨X.env.cells.lookup x=some a))->Q () s') (hf:X.fn x=true∨X.env.scope.names.lookup x=some .local:=by first | exact .inl rfl | exact .inr rfl | assumption):T7 M A (storeName X.env x u) Q E s:=by
 obtain⟨m,hn,hl⟩:=id I.loc
 have hcls:(X.env.scope.kind == .class || (X.env.scope.kind == .module && X.env.locals != X.env.globals))=false:=by rw[I.ok.kind];rfl
 have hiσ:i < σ.length:=by rw[I.len];exact (List.getElem?_eq_some_iff.mp hi).1
 have cne:=I.cne
 have tracked:∀ {a:Addr} {h':Va},(∃ o,s.heap.get? a=some o/\H a=none)->Wl a s.heap h'->HOk X.prog X.w H h':=fun {a h'} ha hs b ob e=>by
  obtain⟨_,_,hfree⟩:=ha
  refine (I.hok b ob e).stay (fun c w' hc q=>(hs.2 c ?_).trans q) (fun _ q=>q) fun _ _ q=>q
  rintro rfl
  rcases hc with rfl | hc
  ·rw[hfree] at e;cases e
  ·rw[hfree] at hc;cases hc
 rcases hx with hk | hk
 ·refine wpAny_storeName_local hk hn (fun h' hn' hs=>?_) hcls
  obtain⟨oL,_,_,hoL,_⟩:=id hn
  refine h _ ⟨I.ok,I.os,I.bare,⟨fun b o e n hb hx=>?_,fun b o e n hb hx=>?_,I.base.free,fun b o e hx=>?_,I.base.tups,I.base.frzs,I.base.tbls⟩,⟨_,hn',fun j y v' e1 e2 e3=>?_⟩,fun y c e=>?_,I.free,I.freeC,fun p hp=>?_,tracked ⟨oL,hoL,I.free⟩ hs,by simpa using I.len⟩ ⟨_,hs,.inl U⟩
  ·exact (hs.2 b (Um (T4 (Ua e) I.ok.above))).trans (I.base.keep b o e n hb hx)
  ·obtain⟨sl,e1⟩:=I.base.slot b o e n hb hx
   exact⟨sl,(hs.2 b (Um (T4 (Ua e) I.ok.above))).trans e1⟩
  ·obtain⟨o',e1⟩:=I.base.there b o e hx
   exact⟨o',(hs.2 b (Um (T4 (Ua e) I.ok.above))).trans e1⟩
  ·by_cases hj:j=i
   ·subst hj
    rw[hi] at e1;cases e1
    rw[Zd hiσ] at e2
    cases e2
    exact⟨u,r,.inl ⟨hk,by simp⟩⟩
   ·rw[Yv (VM hj)] at e2
    obtain⟨u',r',q⟩:=hl j y v' e1 e2 e3
    refine⟨u',r',?_⟩
    rcases q with⟨k,e⟩ | ⟨k,c,e,z⟩
    ·refine .inl ⟨k,?_⟩
     have:y≠x:=fun e=>hj (zJ hN e1 (e▸hi))
     simp [this,e]
    ·exact .inr ⟨k,c,e,z.sameBut hs (cne y c e)⟩
  ·obtain⟨w',z⟩:=I.cell y c e
   exact⟨w',z.sameBut hs (cne y c e)⟩
  ·obtain⟨e,n,ne,nf,d⟩:=I.pin p hp
   exact⟨(hs.2 p.1 ne).trans e,n,ne,nf,d⟩
 ·have hfn:X.fn x=true:=by
   rcases hf with z | z
   ·exact z
   ·rw[z] at hk;cases hk
  obtain⟨c,hc⟩:=I.ok.has x (.inl hk)
  obtain⟨w',z⟩:=I.cell x c hc
  refine wpAny_storeName_cell I.ok.kind hk hc z (fun h' hc' hs=>?_)
  obtain⟨oc,hoc,hocd⟩:=id z
  refine h { s with heap:=h' } ⟨I.ok,I.os,I.bare,⟨fun b o e n hb hx=>?_,fun b o e n hb hx=>?_,I.base.free,fun b o e hx=>?_,I.base.tups,I.base.frzs,I.base.tbls⟩,⟨m,hn.sameBut hs (VM (cne x c hc)),fun j y v' e1 e2 e3=>?_⟩,fun y c' e=>?_,I.free,I.freeC,fun p hp=>?_,tracked ⟨oc,hoc,I.freeC x c hc⟩ hs,by simpa using I.len⟩ ⟨c,hs,.inr hc⟩
  ·exact (hs.2 b (Um (T4 (Ua e) (I.ok.cab x c hfn hc)))).trans (I.base.keep b o e n hb hx)
  ·obtain⟨sl,e1⟩:=I.base.slot b o e n hb hx
   exact⟨sl,(hs.2 b (Um (T4 (Ua e) (I.ok.cab x c hfn hc)))).trans e1⟩
  ·obtain⟨o',e1⟩:=I.base.there b o e hx
   exact⟨o',(hs.2 b (Um (T4 (Ua e) (I.ok.cab x c hfn hc)))).trans e1⟩
  ·by_cases hj:j=i
   ·subst hj
    rw[hi] at e1;cases e1
    rw[Zd hiσ] at e2
    cases e2
    exact⟨u,r,.inr ⟨.inl hk,c,hc,hc'⟩⟩
   ·rw[Yv (VM hj)] at e2
    obtain⟨u',r',q⟩:=hl j y v' e1 e2 e3
    refine⟨u',r',?_⟩
    rcases q with q | ⟨k,c',e,z'⟩
    ·exact .inl q
    ·refine .inr ⟨k,c',e,z'.sameBut hs ?_⟩
     rintro rfl
     exact hj (zJ hN e1 (I.ok.inj _ _ _ e hc▸hi))
  ·by_cases hcc:c'=c
   ·subst hcc;exact⟨_,hc'⟩
   ·obtain⟨w2,z2⟩:=I.cell y c' e
    exact⟨w2,z2.sameBut hs hcc⟩
  ·obtain⟨e,n,ne,nf,d⟩:=I.pin p hp
   refine⟨(hs.2 p.1 ?_).trans e,n,ne,nf,d⟩
   intro q
   rw[q,hoc] at e
   have q':oc=p.2:=U5 e
   exact d w' (by rw[← q'];exact hocd)
theorem sH {M:abE}{A:UW}{E:ET}{i:Nat}{x:Ut}{v:V}{u:Value}{Q:Unit->TV->Prop}(I:Inv X ZY σ H s)(hN:X.N.Nodup)(hi:X.N[i]? = some x)(hx:Loc X.env.scope x)(r:RelV v u)
  (h:∀ s',Inv X ZY (σ.set i (some v)) H s'->Q () s') (hf:X.fn x=true∨X.env.scope.names.lookup x=some .local:=by first | exact .inl rfl | exact .inr rfl | assumption):T7 M A (storeName X.env x u) Q E s :=
 vM I hN hi hx r (fun s' I' _=>h s' I') hf
theorem Inv.call' {s':TV}{ch:E6}(I:Inv X ZY σ H s)(ho:s'.os=s.os)(u:Un (frs X.stack) ch H H' s.heap s'.heap)(hok:HOk X.prog X.w H' s'.heap)(hg:aaf s'.gens)
  (hch:∀ b∈ch,(b∈X.ex∨X.s₀.heap.objs.size<=b)/\b≠X.env.locals/\(∀ x c,X.env.cells.lookup x=some c->c≠b)/\∀ p∈X.pn++ZY,p.1≠b):Inv X ZY σ H' s':=by
 obtain⟨h',g',d',t',o'⟩:=s'
 have e:o'=s.os:=ho
 subst e
 exact I.call (g':=g') (t':=t') (d':=d') u hok hg hch
end
abbrev XK:=Value->EZ->Hp->Prop
abbrev St:=List (Option V)
abbrev VK:=V->Hp->Prop
abbrev TE:=St->Hp->VK->Prop
abbrev TT:=St->Hp->(Bool->Hp->Prop)->Prop
abbrev TA:=St->Hp->(List V->Hp->Prop)->Prop
structure Ends where
 nx:St->Hp->Prop
 rt:VK
 bk:St->Hp->Prop:=fun _ _=>False
 ct:St->Hp->Prop:=fun _ _=>False
abbrev TS:=Ends->St->Hp->Prop
inductive EP (X:Cx)(ZY:EQ)(σ:St)(Q:VK)(u:Value)(s':TV):Prop where
 | mk (v:V) (H':Hp) (z0:Inv X ZY σ H' s') (z1:RelV v u) (z2:Q v H'):EP X ZY σ Q u s'
def TP (X:Cx)(ZY:EQ)(σ:St)(Q:Bool->Hp->Prop)(b:Bool)(s':TV):Prop:=∃ H',Inv X ZY σ H' s'/\Q b H'
inductive AP (X:Cx)(ZY:EQ)(σ:St)(Q:List V->Hp->Prop)(us:E4)(s':TV):Prop where
 | mk (vs:List V) (H':Hp) (z0:Inv X ZY σ H' s') (z1:Vals vs us) (z2:Q vs H'):AP X ZY σ Q us s'
def SP (X:Cx)(ZY:EQ)(D:Ends)(f:Flow)(s':TV):Prop :=
 match f with
 | .next=>∃ σ' H',Inv X ZY σ' H' s'/\D.nx σ' H'
 | .brk=>∃ σ' H',Inv X ZY σ' H' s'/\D.bk σ' H'
 | .cont=>∃ σ' H',Inv X ZY σ' H' s'/\D.ct σ' H'
 | .ret u=>∃ v σ' H',Inv X ZY σ' H' s'/\RelV v u/\D.rt v H'
def PE (X:Cx)(e:Expr)(t:TE):Prop :=
 ∀ (ZY:EQ) (s:TV) (σ:St) (H:Hp) (Q:VK),Inv X ZY σ H s->t σ H Q->T7 (Ue X.prog X.w) X.A (VD e X.env) (EP X ZY σ Q) X.xe s
def PT (X:Cx)(e:Expr)(t:TT):Prop :=
 ∀ (ZY:EQ) (s:TV) (σ:St) (H:Hp) (Q:Bool->Hp->Prop),Inv X ZY σ H s->t σ H Q->T7 (Ue X.prog X.w) X.A (isTrue e X.env (VD e X.env)) (TP X ZY σ Q) X.xe s
def PW (X:Cx)(e:Expr)(t:TT):Prop :=
 ∀ (whole:Sem Value) (ZY:EQ) (s:TV) (σ:St) (H:Hp) (Q:Bool->Hp->Prop),Inv X ZY σ H s->t σ H Q->T7 (Ue X.prog X.w) X.A (isTrue e X.env whole) (TP X ZY σ Q) X.xe s
theorem PW.pt {X:Cx}{e:Expr}{t:TT}(h:PW X e t):PT X e t:=h _
def PA (X:Cx)(es:E7)(t:TA):Prop :=
 ∀ (pos:Yg) (ZY:EQ) (s:TV) (σ:St) (H:Hp) (Q:List V->Hp->Prop),Inv X ZY σ H s->t σ H Q->T7 (Ue X.prog X.w) X.A (spliced (Wt pos (Ur es X.env))) (AP X ZY σ Q) X.xe s
def PS (X:Cx)(st:Stmt)(t:TS):Prop :=
 ∀ (ZY:EQ) (s:TV) (σ:St) (H:Hp) (D:Ends),Inv X ZY σ H s->t D σ H->T7 (Ue X.prog X.w) X.A (exec st X.env) (SP X ZY D) X.xe s
def PSs (X:Cx)(st:E8)(t:TS):Prop :=
 ∀ (ZY:EQ) (s:TV) (σ:St) (H:Hp) (D:Ends),Inv X ZY σ H s->t D σ H->T7 (Ue X.prog X.w) X.A (execs st X.env) (SP X ZY D) X.xe s
theorem thn {α:Type}{t:Sem α}{Q Q':α->TV->Prop}{M:abE}{A:UW}{E:ET}{s:TV}(h:T7 M A t Q E s)(hQ:∀ a s,Q a s->Q' a s):T7 M A t Q' E s:=Vd h hQ fun _ _ x=>x
section
variable {X:Cx}
inductive ExB (x:V)(P:Bool->Prop):Prop where
 | mk (c:Bool) (z0:x = .bl c) (z1:P c):ExB x P
inductive Jp (i:Nat)(σ:St)(H:Hp)(Q:VK):Prop where
 | mk (v:V) (_:σ[i]? = some (some v)) (_:Q v H)
def tC (v:V):TE:=fun _ H Q=>Q v H
theorem J7 {i:Nat} {x:Ut} {pos:Yg} (hN:X.N[i]? = some x) (hv:Vis X.env.scope x) (hd:(x == ("__debug__" : Ut))=false:=by decide) (hcd:(x == ("__classdict__" : Ut))=false:=by decide):PE X (.Name x pos) (Jp i):=by
 intro ZY s σ H Q I h
 obtain⟨v,e,h⟩:=h
 obtain⟨m,hn,hl⟩:=I.loc
 obtain⟨u,r,l⟩:=hl i x v hN e hv
 have fin:EP X ZY σ Q u s:=⟨v,H,I,r,h⟩
 rcases l with⟨hk,hm⟩ | ⟨hk,c,hc,hcell⟩
 ·exact wpAny_Name (wpAny_loadName_local I.ok.kind hk hn hm fin) hd
 ·rcases hk with hk | hk
  ·exact wpAny_Name (wpAny_loadName_cell I.ok.kind hk hc hcell fin) hd
  ·exact wpAny_Name (wpAny_loadName_free I.ok.kind hk hc hcell fin hcd) hd
theorem aq {i j pos}:PE X (.Constant (.int i) j pos) (tC (.int i)):=fun _ _ _ H _ I h=>wpAny_Constant_int ⟨.int i,H,I.tok _,⟨_,U⟩,h⟩
theorem iw {b j pos}:PE X (.Constant (.bool b) j pos) (tC (.bl b)):=fun _ _ _ H _ I h=>Constant_bool ⟨.bl b,H,I,U,h⟩
theorem N8 {j pos}:PE X (.Constant .none j pos) (tC .non):=fun _ _ _ H _ I h=>Constant_none ⟨.non,H,I,U,h⟩
theorem aQ {x j pos}:PE X (.Constant (.str x) j pos) (tC (.str x)):=fun _ _ _ H _ I h=>Calls.Constant_str ⟨.str x,H,I.tok _,⟨_,U⟩,h⟩
def Gl (X:Cx)(x:Ut):Prop:=X.env.kindOf x=some .globalImplicit
theorem iT {E:ET}{ZY:EQ}{s:TV}{σ:St}{H:Hp}{x:Ut}{u:Value}{pos:Yg}{Q:ET}(I:Inv X ZY σ H s)(hg:Gl X x)(hm:X.mg x=some u)(h:Q u s)
  (hd:(x == ("__debug__" : Ut))=false:=by decide):T7 (Ue X.prog X.w) X.A (VD (.Name x pos) X.env) Q E s :=
 Calls.Name_function_global I.ok.kind hg (Calls.loadGlobal_global (by rw[I.ok.glob];exact I.mod.glob.keeps I.bk) hm h) hd
theorem ig {E:ET}{ZY:EQ}{s:TV}{σ:St}{H:Hp}{x:Ut}{u:Value}{pos:Yg}{Q:ET}(I:Inv X ZY σ H s)(hg:Gl X x)(hm:X.mg x=none)(hv:Vi x=some u)(h:Q u s)
  (hn:x≠"__name__":=by decide) (hd:(x == ("__debug__" : Ut))=false:=by decide):T7 (Ue X.prog X.w) X.A (VD (.Name x pos) X.env) Q E s:=by
 obtain⟨mb,h1,h2⟩:=I.mod.blt
 exact Calls.Name_function_global I.ok.kind hg (Calls.loadGlobal_builtin (by rw[I.ok.glob];exact I.mod.glob.keeps I.bk) hm (by rw[I.ok.blt];exact h1.keeps I.bk) ((h2 x hn).trans hv) h) hd
theorem Mu {x:Ut} {v:V} {u:Value} {pos:Yg} (hg:Gl X x) (hm:X.mg x=some u) (r:RelV v u) (hd:(x == ("__debug__" : Ut))=false:=by decide):PE X (.Name x pos) (tC v) :=
 fun _ _ _ H _ I h=>iT I hg hm ⟨v,H,I,r,h⟩ hd
theorem Ls {x:Ut} {v:V} {u:Value} {pos:Yg} (hg:Gl X x) (hm:X.mg x=none) (hv:Vi x=some u) (r:RelV v u) (hn:x≠"__name__":=by decide) (hd:(x == ("__debug__" : Ut))=false:=by decide):PE X (.Name x pos) (tC v) :=
 fun _ _ _ H _ I h=>ig I hg hm hv ⟨v,H,I,r,h⟩ hn hd
variable {a b:Expr}{ta tb:TE}{pos:Yg}
def PC (X:Cx)(op:CmpOp)(a b:Expr)(t:TE):Prop :=
 ∀ (ZY:EQ) (s:TV) (σ:St) (H:Hp) (Q:VK),Inv X ZY σ H s->t σ H Q →
  T7 (Ue X.prog X.w) X.A (VD a X.env) (fun v s₁=>T7 (Ue X.prog X.w) X.A (VD b X.env) (fun u s₂=>T7 (Ue X.prog X.w) X.A (WM op v u) (EP X ZY σ Q) X.xe s₂) X.xe s₁) X.xe s
theorem zf (b:Expr){op:CmpOp}(h:op≠.In)(h2:op≠.NotIn):Xh op b=false:=by
 have e1:(op == CmpOp.In)=false:=by cases op <;> first | rfl | exact absurd rfl h
 have e2:(op == CmpOp.NotIn)=false:=by cases op <;> first | rfl | exact absurd rfl h2
 cases b <;> simp [Xh,e1,e2]
def Tt (ta:TE):TE:=fun σ H Q=>ta σ H fun x H1=>Q (.bl (decide (x = .non))) H1
theorem RelV.Jj {x:V}{v:Value}(r:RelV x v):(v == Vr)=decide (x = .non):=by
 cases x with
 | non=>cases r;rfl
 | bl _=>cases r;rfl
 | int _=>obtain⟨t,rfl⟩:=r;rfl
 | str _=>obtain⟨t,rfl⟩:=r;rfl
 | byt _=>obtain⟨t,rfl⟩:=r;rfl
 | flt _=>obtain⟨t,rfl⟩:=r;rfl
 | ref _=>cases r;rfl
 | ty _=>cases r;rfl
theorem Kg {j pos'}(ha:PE X a ta):PC X .Is a (.Constant .none j pos') (Tt ta):=by
 intro ZY s σ H Q I h
 refine thn (ha ZY s σ H _ I h) fun v s1 ⟨x,H1,I1,r1,q1⟩=>?_
 exact Constant_none (is_none_gen ⟨.bl _,H1,I1,by rw[r1.Jj];rfl,q1⟩)
def tB (t:TE):TT:=fun σ H Q=>t σ H fun x H1=>ExB x fun c=>Q c H1
theorem Pa {op:CmpOp}{t:TE}(h:PC X op a b t)(h1:Xh op b=false:=by first | exact zf _ (by decide) (by decide) | rfl):PE X (.Compare a [op] [b] pos) t:=fun ZY s σ H Q I hw=>wpAny_Compare1 (h ZY s σ H Q I hw) h1
theorem OJ {op:CmpOp}{t:TE}(h:PC X op a b t)(h1:Xh op b=false:=by first | exact zf _ (by decide) (by decide) | rfl):PT X (.Compare a [op] [b] pos) (tB t):=by
 intro ZY s σ H Q I hw
 refine wpAny_isTrue_Compare1 (thn (h ZY s σ H _ I hw) fun v s1 h1=>thn h1 fun u s2 h2=>thn h2 fun c s3 ⟨x,H1,I1,r1,q1⟩=>?_) h1
 obtain⟨d,rfl,q⟩:=q1
 cases r1
 exact Wu ⟨H1,I1,q⟩
theorem bV {e:Expr}{t:TE}(h:PE X e t)(he:∀ whole,isTrue e X.env whole=(do let v ← whole;YB e.pos;YZ [v] (truthy v)):=by intro _;rfl):PT X e (tB t):=by
 intro ZY s σ H Q I hw
 refine isTrue_plain (thn (h ZY s σ H _ I hw) fun v s1 ⟨x,H1,I1,r1,q1⟩=>?_) (he _)
 obtain⟨d,rfl,q⟩:=q1
 cases r1
 exact Wu ⟨H1,I1,q⟩
variable {tA tB':TT}{rest:E7}
def Sd (t u:TT):TT:=fun σ H Q=>t σ H fun c H1=>if c=true then u σ H1 Q else Q false H1
def tOr (t u:TT):TT:=fun σ H Q=>t σ H fun c H1=>if c=true then Q true H1 else u σ H1 Q
def Td (t:TT):TT:=fun σ H Q=>t σ H fun c H1=>Q (!c) H1
theorem lX (ha:PT X a tA):PW X (.BoolOp .And [a] pos) tA:=by
 intro wh ZY s σ H Q I h
 refine isTrue_and (thn (ha ZY s σ H Q I h) fun c s1 e=>?_)
 cases c with
 | true=>exact isTrue_and_nil e
 | false=>exact e
theorem ir (ha:PT X a tA):PW X (.BoolOp .Or [a] pos) tA:=by
 intro wh ZY s σ H Q I h
 refine isTrue_or (thn (ha ZY s σ H Q I h) fun c s1 e=>?_)
 cases c with
 | false=>exact isTrue_or_nil e
 | true=>exact e
theorem rE (ha:PT X a tA)(hb:PW X (.BoolOp .And (b::rest) pos) tB'):PW X (.BoolOp .And (a::b::rest) pos) (Sd tA tB'):=by
 intro wh ZY s σ H Q I h
 refine isTrue_and (thn (ha ZY s σ H _ I h) fun c s1 ⟨H1,I1,q1⟩=>?_)
 cases c with
 | true=>exact hb wh ZY s1 σ H1 Q I1 q1
 | false=>exact⟨H1,I1,q1⟩
theorem lO (ha:PT X a tA)(hb:PW X (.BoolOp .Or (b::rest) pos) tB'):PW X (.BoolOp .Or (a::b::rest) pos) (tOr tA tB'):=by
 intro wh ZY s σ H Q I h
 refine isTrue_or (thn (ha ZY s σ H _ I h) fun c s1 ⟨H1,I1,q1⟩=>?_)
 cases c with
 | true=>exact⟨H1,I1,q1⟩
 | false=>exact hb wh ZY s1 σ H1 Q I1 q1
theorem dG (ha:PT X a tA):PT X (.UnaryOp .Not a pos) (Td tA):=by
 intro ZY s σ H Q I h
 exact isTrue_not (ha ZY s σ H (fun c H1=>Q (!c) H1) I h)
def RC (ta tb:TE):TE:=fun σ H Q=>ta σ H fun x H1=>ExB x fun c=>if c=true then tb σ H1 Q else Q (.bl false) H1
def Tg (ta tb:TE):TE:=fun σ H Q=>ta σ H fun x H1=>ExB x fun c=>if c=true then Q (.bl true) H1 else tb σ H1 Q
def Q8 (ta:TE):TE:=fun σ H Q=>ta σ H fun x H1=>ExB x fun c=>Q (.bl (!c)) H1
theorem iM {op}{t:TE}(h:PE X a t):PE X (.BoolOp op [a] pos) t:=fun ZY s σ H Q I hw=>BoolOp_one (h ZY s σ H Q I hw)
theorem dJ (ha:PE X a ta)(hb:PE X (.BoolOp .And (b::rest) pos) tb):PE X (.BoolOp .And (a::b::rest) pos) (RC ta tb):=by
 intro ZY s σ H Q I h
 refine BoolOp_and (thn (ha ZY s σ H _ I h) fun v s1 ⟨x,H1,I1,r1,q1⟩=>?_)
 obtain⟨c,rfl,q1⟩:=q1
 cases r1
 refine Wu ?_
 cases c with
 | true=>exact hb ZY s1 σ H1 Q I1 q1
 | false=>exact⟨.bl false,H1,I1,U,q1⟩
theorem Q6 (ha:PE X a ta)(hb:PE X (.BoolOp .Or (b::rest) pos) tb):PE X (.BoolOp .Or (a::b::rest) pos) (Tg ta tb):=by
 intro ZY s σ H Q I h
 refine BoolOp_or (thn (ha ZY s σ H _ I h) fun v s1 ⟨x,H1,I1,r1,q1⟩=>?_)
 obtain⟨c,rfl,q1⟩:=q1
 cases r1
 refine Wu ?_
 cases c with
 | false=>exact hb ZY s1 σ H1 Q I1 q1
 | true=>exact⟨.bl true,H1,I1,U,q1⟩
theorem O2 (ha:PE X a ta):PE X (.UnaryOp .Not a pos) (Q8 ta):=by
 intro ZY s σ H Q I h
 refine UnaryOp_ (thn (ha ZY s σ H _ I h) fun v s1 ⟨x,H1,I1,r1,q1⟩=>?_)
 obtain⟨c,rfl,q1⟩:=q1
 cases r1
 exact not_of (Wu ⟨.bl (!c),H1,I1,U,q1⟩)
def tIf (t:TT)(ta tb:TE):TE:=fun σ H Q=>t σ H fun c H1=>if c=true then ta σ H1 Q else tb σ H1 Q
theorem zK {c:Expr}(hc:PT X c tA)(ha:PE X a ta)(hb:PE X b tb):PE X (.IfExp c a b pos) (tIf tA ta tb):=by
 intro ZY s σ H Q I h
 refine wpAny_IfExp (thn (hc ZY s σ H _ I h) fun d s1 ⟨H1,I1,q1⟩=>?_)
 cases d with
 | true=>exact ha ZY s1 σ H1 Q I1 q1
 | false=>exact hb ZY s1 σ H1 Q I1 q1
end
def SqL (K:Ud)(H:Hp)(a:Addr)(xs:List V):Prop :=
 Rd H a (.lst xs) ∨
  ∃ (o:WL) (its:Array Value) (n:Nat),K.lookup a=some o/\o.cls = .type "list"/\o.dict=none/\o.data = .seq its n/\its.size<=sizeLine/\Vals xs its.toList
def SqT (K:Ud)(H:Hp)(a:Addr)(xs:List V):Prop :=
 Rd H a (.tup xs) ∨
  ∃ (o:WL) (its:Array Value) (n:Nat),K.lookup a=some o/\o.cls = .type "tuple"/\o.data = .seq its n/\its.size<=sizeLine/\Vals xs its.toList
def Tv:Value->Option V
 | .none=>some .non
 | .bool b=>some (.bl b)
 | .int i _=>some (.int i)
 | .str x _=>some (.str x)
 | .bytes b _=>some (.byt b)
 | .float b _=>some (.flt b)
 | .ref a=>some (.ref a)
 | .type n=>some (.ty n)
 | _=>none
theorem RelV.abs {x:V}{u:Value}(r:RelV x u):Tv u=some x:=by
 cases x with
 | non=>cases r;rfl
 | bl _=>cases r;rfl
 | int _=>obtain⟨t,rfl⟩:=r;rfl
 | str _=>obtain⟨t,rfl⟩:=r;rfl
 | byt _=>obtain⟨t,rfl⟩:=r;rfl
 | flt _=>obtain⟨t,rfl⟩:=r;rfl
 | ref _=>cases r;rfl
 | ty _=>cases r;rfl
theorem RelV.inj {x y:V}{u:Value}(r:RelV x u)(q:RelV y u):x=y:=U5 (r.abs.symm.trans q.abs)
theorem Vals.inj:∀ {xs ys:List V} {us:E4},Vals xs us->Vals ys us->xs=ys
 | _,_,_,.nil,.nil=>rfl
 | _,_,_,.cons r t,.cons r' t'=>by rw[r.inj r',Vals.inj t t']
section
variable {X:Cx}{ZY:EQ}{σ:St}{H:Hp}{s:TV}{a:Addr}{xs ys:List V}
theorem SqL.of {K:Ud}(h:H a=some (.lst xs)):SqL K H a xs:=.inl (.inl h)
theorem SqT.of {K:Ud}(h:H a=some (.tup xs)):SqT K H a xs:=.inl (.inl h)
theorem Inv.list (I:Inv X ZY σ H s)(h:SqL X.K H a xs):∃ its:E4,Vals xs its/\PlainL s.heap a its.toArray/\xs.length<=sizeLine:=by
 rcases h with h | ⟨o,its,n,hk,hc,hd,hs,hz,r⟩
 ·obtain⟨z,its,n,r,e⟩:=h.ok I.hok
  exact⟨its,r,⟨_,n,e,U,U,U⟩,z⟩
 ·refine⟨its.toList,r,⟨o,n,I.kIn a o hk,hc,hd,by simpa using hs⟩,?_⟩
  have e:=r.length
  simp only[Vf] at e
  lia
theorem Inv.tuple (I:Inv X ZY σ H s)(h:SqT X.K H a xs):∃ its:E4,Vals xs its/\IsTup s.heap a its.toArray/\xs.length<=sizeLine:=by
 rcases h with h | ⟨o,its,n,hk,hc,hs,hz,r⟩
 ·obtain⟨z,its,r,p⟩:=h.ok I.hok
  exact⟨its,r,p,z⟩
 ·refine⟨its.toList,r,⟨o,I.kIn a o hk,hc,n,by simpa using hs⟩,?_⟩
  have e:=r.length
  simp only[Vf] at e
  lia
theorem Inv.sJ (I:Inv X ZY σ H s)(h:SqL X.K H a xs)(h':SqL X.K H a ys):xs=ys:=by
 obtain⟨its,r,⟨o,n,e,_,_,d⟩,_⟩:=I.list h
 obtain⟨its',r',⟨o',n',e',_,_,d'⟩,_⟩:=I.list h'
 rw[e] at e';cases e'
 rw[d] at d'
 injection d' with d1 _
 have:its=its':=by simpa using congrArg Array.toList d1
 subst this
 exact r.inj r'
theorem Inv.pI (I:Inv X ZY σ H s)(h:SqT X.K H a xs)(h':SqT X.K H a ys):xs=ys:=by
 obtain⟨its,r,⟨o,e,_,n,d⟩,_⟩:=I.tuple h
 obtain⟨its',r',⟨o',e',_,n',d'⟩,_⟩:=I.tuple h'
 rw[e] at e';cases e'
 rw[d] at d'
 injection d' with d1 _
 have:its=its':=by simpa using congrArg Array.toList d1
 subst this
 exact r.inj r'
end
abbrev Cx.wish (X:Cx)(E:ET):Cx:={ X with xe:=E }
abbrev Cx.nox (X:Cx):Cx:=X.wish fun _ _=>False
theorem Cx.Ok.wish {X:Cx}(ok:X.Ok)(E:ET):(X.wish E).Ok :=
 ⟨ok.mod,ok.kind,ok.glob,ok.blt,ok.above,ok.inj,ok.has,ok.cab,ok.hd,ok.frames,ok.stk,ok.exf,ok.bs,ok.bsz,ok.noex,ok.exfs,ok.qT,ok.frf⟩
theorem Cx.Ok.j9 {X:Cx}{E:ET}(ok:(X.wish E).Ok):X.Ok :=
 ⟨ok.mod,ok.kind,ok.glob,ok.blt,ok.above,ok.inj,ok.has,ok.cab,ok.hd,ok.frames,ok.stk,ok.exf,ok.bs,ok.bsz,ok.noex,ok.exfs,ok.qT,ok.frf⟩
section
variable {X:Cx}{ZY:EQ}{σ:St}{H:Hp}{s:TV}{E:ET}
theorem Inv.wish (I:Inv X ZY σ H s)(E:ET):Inv (X.wish E) ZY σ H s:=⟨I.ok.wish E,I.os,I.bare,I.base,I.loc,I.cell,I.free,I.freeC,I.pin,I.hok,I.len⟩
theorem Inv.j9 (I:Inv (X.wish E) ZY σ H s):Inv X ZY σ H s:=⟨I.ok.j9,I.os,I.bare,I.base,I.loc,I.cell,I.free,I.freeC,I.pin,I.hok,I.len⟩
theorem SP.j9 {D:Ends}{f:Flow}{s':TV}(h:SP (X.wish E) ZY D f s'):SP X ZY D f s':=by
 cases f with
 | next=>obtain⟨σ',H',I,q⟩:=h;exact⟨σ',H',I.j9,q⟩
 | brk=>obtain⟨σ',H',I,q⟩:=h;exact⟨σ',H',I.j9,q⟩
 | cont=>obtain⟨σ',H',I,q⟩:=h;exact⟨σ',H',I.j9,q⟩
 | ret u=>obtain⟨v,σ',H',I,r,q⟩:=h;exact⟨v,σ',H',I.j9,r,q⟩
theorem PSs.nox {st:E8}{t:TS}(h:PSs X.nox st t):PSs X st t:=fun ZY s σ H D I hw =>
 Vd (h ZY s σ H D (I.wish _) hw) (fun _ _ q=>q.j9) fun _ _ z=>Vc z
end
section
variable {X:Cx}{st:Stmt}{rest:E8}{t u:TS}{e:Expr}{te:TE}{pos:Yg}
def Mv:TS:=fun D σ H=>D.nx σ H
def G4 (t u:TS):TS:=fun D σ H=>t { D with nx:=u D } σ H
theorem bh:PSs X [] Mv:=fun _ _ σ H _ I h=>ZF ⟨σ,H,I,h⟩
theorem ao (h1:PS X st t)(h2:PSs X rest u):PSs X (st::rest) (G4 t u):=by
 intro ZY s σ H D I h
 refine wpAny_execs_cons (thn (h1 ZY s σ H { D with nx:=u D } I h) fun f s1 q=>?_)
 cases f with
 | next =>
  obtain⟨σ',H',I',q⟩:=q
  exact h2 ZY s1 σ' H' D I' q
 | ret v=>exact q
 | brk=>exact q
 | cont=>exact q
theorem aC (h1:PS X st t):PSs X [st] t:=by
 intro ZY s σ H D I h
 refine wpAny_execs_cons (thn (h1 ZY s σ H D I h) fun f s1 q=>?_)
 cases f with
 | next=>exact ZF q
 | ret v=>exact q
 | brk=>exact q
 | cont=>exact q
theorem Inv.quiet {ZY:EQ}{σ:St}{H:Hp}{s:TV}(I:Inv X ZY σ H s):interactive X.env=false:=by simp [interactive,I.ok.kind]
def RG (te:TE):TS:=fun D σ H=>te σ H fun _ H1=>D.nx σ H1
theorem aU (he:PE X e te)(hs:ZR e none pos.line X.env=pure false:=by rfl):PS X (.Expr e pos) (RG te):=by
 intro ZY s σ H D I h
 exact wpAny_Expr_any (thn (he ZY s σ H _ I h) fun v s1 ⟨x,H1,I1,r1,q1⟩=>⟨σ,H1,I1,q1⟩) I.quiet hs
def QS (te:TE):TS:=fun D σ H=>te σ H D.rt
theorem Dh (he:PE X e te):PS X (.Return (some e) pos) (QS te):=by
 intro ZY s σ H D I h
 exact wpAny_Return_some (thn (he ZY s σ H _ I h) fun v s1 ⟨x,H1,I1,r1,q1⟩=>⟨x,σ,H1,I1,r1,q1⟩)
def G3 (c:TT)(t u:TS):TS:=fun D σ H=>c σ H fun b H1=>if b=true then t D σ H1 else u D σ H1
theorem c7 {c:Expr}{a b:E8}{tc:TT}(hc:PT X c tc)(ha:PSs X a t)(hb:PSs X b u):PS X (.If c a b pos) (G3 tc t u):=by
 intro ZY s σ H D I h
 refine wpAny_If (thn (hc ZY s σ H _ I h) fun d s1 ⟨H1,I1,q1⟩=>?_)
 cases d with
 | true=>exact ha ZY s1 σ H1 D I1 q1
 | false=>exact hb ZY s1 σ H1 D I1 q1
def QD:TS:=fun _ _ _=>False
theorem yM:PS X st QD:=fun _ _ _ _ _ _ h=>h.elim
end
abbrev TG:=V->St->Hp->(St->Hp->Prop)->Prop
abbrev TGs:=List V->St->Hp->(St->Hp->Prop)->Prop
def PG (X:Cx)(target:Expr)(t:TG):Prop :=
 ∀ (ZY:EQ) (s:TV) (σ:St) (H:Hp) (v:V) (u:Value) (Q:St->Hp->Prop),Inv X ZY σ H s->RelV v u->t v σ H Q →
  T7 (Ue X.prog X.w) X.A (aar target X.env u) (fun _ s'=>∃ σ' H',Inv X ZY σ' H' s'/\Q σ' H') X.xe s
def PGs (X:Cx)(ts:E7)(t:TGs):Prop :=
 ∀ (ZY:EQ) (s:TV) (σ:St) (H:Hp) (vs:List V) (us:E4) (Q:St->Hp->Prop),Inv X ZY σ H s->Vals vs us->t vs σ H Q →
  T7 (Ue X.prog X.w) X.A (assignInOrder ((Zj ts X.env).map (·.2)) us) (fun _ s'=>∃ σ' H',Inv X ZY σ' H' s'/\Q σ' H') X.xe s
abbrev Ra:=V->V->V->Hp->(Hp->Prop)->Prop
def RT (X:Cx)(t:Ra):Prop :=
 ∀ (ZY:EQ) (s:TV) (σ:St) (H:Hp) (o i v:V) (ov iv u:Value) (Q:Hp->Prop),Inv X ZY σ H s->RelV o ov->RelV i iv->RelV v u->t o i v H Q →
  T7 (Ue X.prog X.w) X.A (setItem ov iv u) (fun _ s'=>∃ H',Inv X ZY σ H' s'/\Q H') X.xe s
section
variable {X:Cx}{pos:Yg}
def pY (i:Nat):TG:=fun v σ H Q=>Q (σ.set i (some v)) H
theorem xQ {i:Nat}{x:Ut}(hN:X.N.Nodup)(hi:X.N[i]? = some x)(hx:Loc X.env.scope x)(hf:X.fn x=true∨X.env.scope.names.lookup x=some .local:=by first | exact .inl rfl | exact .inr rfl | assumption):PG X (.Name x pos) (pY i):=by
 intro ZY s σ H v u Q I r h
 exact wpAny_assign_Name (sH I hN hi hx r (fun s' I'=>⟨_,H,I',h⟩) hf)
def S7:TGs:=fun vs σ H Q=>vs=[]/\Q σ H
inductive Q5 (t:TG)(u:TGs)(vs:List V)(σ:St)(H:Hp)(Q:St->Hp->Prop):Prop where
 | mk (v:V) (r:List V) (_:vs=v::r) (_:t v σ H fun σ' H'=>u r σ' H' Q)
theorem eF:PGs X [] S7:=by
 intro ZY s σ H vs us Q I r h
 obtain⟨e,h⟩:=h
 subst e
 cases r
 exact assignInOrder_nil ⟨σ,H,I,h⟩
theorem aR {e:Expr}{es:E7}{t:TG}{u:TGs}(h1:PG X e t)(h2:PGs X es u)
  (hs:(Zj (e::es) X.env).map (·.2)=aar e X.env::(Zj es X.env).map (·.2):=by rfl):PGs X (e::es) (Q5 t u):=by
 intro ZY s σ H vs us Q I r h
 obtain⟨v,vr,e1,h⟩:=h
 subst e1
 cases r with
 | cons r rr =>
  rw[hs]
  refine assignInOrder_cons (thn (h1 ZY s σ H _ _ _ I r h) fun _ s1 ⟨σ1,H1,I1,q1⟩=>?_)
  exact h2 ZY s1 σ1 H1 _ _ Q I1 rr q1
inductive R9 (K:Ud)(n:Nat)(t:TGs)(v:V)(σ:St)(H:Hp)(Q:St->Hp->Prop):Prop where
 | mk (a:Addr) (xs:List V) (_:v = .ref a) (_:SqT K H a xs) (_:xs.length=n) (_:t xs σ H Q)
theorem O8 {es:E7}{k:Nat}{t:TGs}{n:Nat}(hc:X.calm=true)(h:PGs X es t)
  (hn:(Zj es X.env).length=n:=by rfl) (hst:(Zj es X.env).findIdx? (·.1)=none:=by rfl):PG X (.Tuple es k pos) (R9 X.K n t):=by
 intro ZY s σ H v u Q I r hw
 obtain⟨a,xs,e1,hq,hl,hw⟩:=hw
 subst e1
 cases r
 obtain⟨its,rv,ht,hz⟩:=I.tuple hq
 refine assign_Tuple_tuple (I.ok.hd hc) ht (by simp [hn,← hl,rv.length]) hst fun h' hx=>?_
 have I1:Inv X ZY σ H { s with heap:=h' }:=I.kept (t':=s.toks) fun b o e=>hx b o (Um (Ua e)) e
 exact h ZY _ σ H xs _ Q I1 (by simpa using rv) hw
def S8 (to ti:TE)(t:Ra):TG:=fun v σ H Q=>to σ H fun o H1=>ti σ H1 fun i H2=>t o i v H2 fun H3=>Q σ H3
theorem Ob {o i:Expr}{to ti:TE}{t:Ra}(ho:PE X o to)(hi:PE X i ti)(hs:RT X t)
  (ha:∀ v,aar (.Subscript o i pos) X.env v=(do
   let ov ← YZ [v] (VD o X.env)
   let iv ← YZ [v,ov] (VD i X.env)
   YB pos
   YZ [v,ov,iv] (setItem ov iv v)
   release [v,ov,iv] []):=by intro _;rfl):PG X (.Subscript o i pos) (S8 to ti t):=by
 intro ZY s σ H v u Q I r h
 rw[ha]
 refine TF (VL (thn (ho ZY s σ H _ I h) fun ov s1 ⟨x,H1,I1,r1,q1⟩=>?_))
 refine TF (VL (thn (hi ZY s1 σ H1 _ I1 q1) fun iv s2 ⟨y,H2,I2,r2,q2⟩=>?_))
 refine TF (Xg (TF (VL (thn (hs ZY s2 σ H2 x y v ov iv u _ I2 r1 r2 r q2) fun _ s3 ⟨H3,I3,q3⟩=>?_))))
 exact wpAny_release ⟨σ,H3,I3,q3⟩
def QL (te:TE)(g:TG):TS:=fun D σ H=>te σ H fun x H1=>g x σ H1 D.nx
theorem Kl {tg e:Expr}{te:TE}{g:TG}(he:PE X e te)(hg:PG X tg g)(hs:swapsWithSole [tg] e pos.line X.env=pure false:=by rfl)(hw:swappedStores [tg] e X.env=pure none:=by rfl)
  (h1:(Zj [tg] X.env).map (·.2)=[aar tg X.env]:=by rfl):PS X (.Assign [tg] e pos) (QL te g):=by
 intro ZY s σ H D I h
 refine wpAny_Assign_stores (thn (he ZY s σ H _ I h) fun v s1 ⟨x,H1,I1,r1,q1⟩=>?_) hs hw
 rw[h1]
 exact thn (hg ZY s1 σ H1 x v _ I1 r1 q1) fun _ s2 q=>q
theorem J8 {i:Nat}{x:Ut}{e:Expr}{te:TE}{pos':Yg}(hN:X.N.Nodup)(hi:X.N[i]? = some x)(hx:Loc X.env.scope x)(he:PE X e te)(hs:ZR e (some (.Name x pos')) pos.line X.env=pure false:=by rfl)(hf:X.fn x=true∨X.env.scope.names.lookup x=some .local:=by first | exact .inl rfl | exact .inr rfl | assumption) :
  PS X (.Assign [.Name x pos'] e pos) (QL te (pY i)):=by
 intro ZY s σ H D I h
 refine wpAny_Assign_Name (thn (he ZY s σ H _ I h) fun v s1 ⟨y,H1,I1,r1,q1⟩=>?_) hs
 exact sH I1 hN hi hx r1 (fun s2 I2=>⟨_,H1,I2,q1⟩) hf
end
section
variable {X:Cx}{pos:Yg}
def JW (c:TT)(tb:TS):TS:=fun D σ H=>∃ W:Nat->St->Hp->Prop,(∃ m,W m σ H)/\∀ m σ H,W m σ H →
 c σ H fun b H1=>if b=true then ∃ N:St->Hp->Prop,(∀ σ' H',N σ' H'->∃ m',m' < m/\W m' σ' H')/\tb { D with nx:=N,ct:=N,bk:=D.nx } σ H1 else D.nx σ H1
theorem Ju {c:Expr}{body:E8}{tc:TT}{tb:TS}(hp:PassesOwn (Ue X.prog X.w) X.A X.env X.xe)(hc:PT X c tc)(hb:PSs X body tb):PS X (.While c body [] pos) (JW tc tb):=by
 intro ZY s σ H D I h
 obtain⟨W,⟨m0,w0⟩,turn⟩:=h
 refine wpAny_While (codeAny_whileLoop (fun n s'=>∃ σ' H',Inv X ZY σ' H' s'/\W n σ' H') ?_ m0 ⟨σ,H,I,w0⟩)
 rintro n s1 ⟨σ1,H1,I1,w1⟩
 refine X7 hp (thn (hc ZY s1 σ1 H1 _ I1 (turn n σ1 H1 w1)) fun b s2 ⟨H2,I2,q2⟩=>?_)
 cases b with
 | true =>
  obtain⟨N,hN,q2⟩:=q2
  rw[if_pos U]
  refine X7 hp (thn (hb ZY s2 σ1 H2 _ I2 q2) fun f s3 q3=>?_)
  cases f with
  | next =>
   obtain⟨σ3,H3,I3,n3⟩:=q3
   obtain⟨m',hm,w3⟩:=hN σ3 H3 n3
   exact⟨m',hm,σ3,H3,I3,w3⟩
  | cont =>
   obtain⟨σ3,H3,I3,n3⟩:=q3
   obtain⟨m',hm,w3⟩:=hN σ3 H3 n3
   exact⟨m',hm,σ3,H3,I3,w3⟩
  | brk=>exact q3
  | ret v=>exact q3
 | false =>
  rw[if_neg T5]
  exact ZF ⟨σ1,H2,I2,q2⟩
end
structure It where
 go:Nat->Hp->Prop
 yld:Nat->Hp->V->Hp->Prop
 stop:Nat->Hp->Prop
def qJ (X:Cx)(ZY:EQ)(H:Hp)(b:Addr):Prop :=
 H b=none/\b≠X.env.locals/\b ∉ X.fs/\(b∈X.ex∨X.s₀.heap.objs.size<=b)/\(∀ x c,X.env.cells.lookup x=some c->c≠b)/\∀ p∈X.pn++ZY,p.1≠b
theorem Inv.Kd {X:Cx}{ZY:EQ}{σ:St}{H H':Hp}{s:TV}{b:Addr}(I:Inv X ZY σ H s)(hb:s.heap.objs.size<=b)(hn:H' b=none):qJ X ZY H' b:=by
 refine⟨hn,Wc (T4 I.lt hb),I.Tw hb,.inr (UL I.sz hb),fun x c e z=>?_,fun p hp z=>?_⟩
 ·obtain⟨v,q⟩:=I.cell x c e
  exact absurd (T4 q.lt (by rw[z];exact hb)) (Vb _)
 ·exact absurd (T4 (Ua (I.pin p hp).1) (by rw[z];exact hb)) (Vb _)
structure Turn (P:Uq)(w:U3)(K:Ud)(tg:Expr)(J:It)(fp:E6)(it:Addr)(tn:Nat->Va->Prop):Prop where
 mem:it∈fp
 obj:∀ i h,tn i h->∀ b∈fp,∃ o,h.get? b=some o/\∀ v,o.data≠.cell v
 keep:∀ i h h',tn i h->(∀ b∈fp,∀ o,h.get? b=some o->h'.get? b=some o)->tn i h'
 item:∀ (X:Cx),X.prog=P->X.w=w->X.K=K->X.calm=true->∀ (i:Nat) (ZY:EQ) (s:TV) (σ:St) (H:Hp) (E:ET),Inv X ZY σ H s->(∀ b∈fp,qJ X ZY H b)->tn i s.heap->J.go i H →
  T7 (Ue P w) X.A (Xn (.ref it)) (fun r s1=>∃ u,r=some u ∧
   T7 (Ue P w) X.A (Xo tg (.ref it) u) (fun _ s2=>∃ x H',Inv X ZY σ H' s2/\RelV x u/\J.yld i H x H'/\tn (i+1) s2.heap/\∀ b∈fp,H' b=none) E s1) E s
 done:∀ (X:Cx),X.prog=P->X.w=w->X.K=K->X.calm=true->∀ (i:Nat) (ZY:EQ) (s:TV) (σ:St) (H:Hp) (E:ET),Inv X ZY σ H s->(∀ b∈fp,qJ X ZY H b)->tn i s.heap->J.stop i H →
  T7 (Ue P w) X.A (Xn (.ref it)) (fun r s1=>r=none/\Inv X ZY σ H s1) E s
 self:∀ (A:UW) (i:Nat) (s:TV) (Q:ET) (E:ET),tn i s.heap->Q (.ref it) s->T7 (Ue P w) A (aaK (.ref it)) Q E s
abbrev TI:=St->Hp->(It->Hp->Prop)->Prop
def PIE (X:Cx)(ZY:EQ)(σ:St)(tg:Expr)(R:It->Hp->Prop)(itv:Value)(s2:TV):Prop :=
 ∃ (it:Addr) (fp:E6) (tn:Nat->Va->Prop) (J:It) (H':Hp),itv = .ref it/\Inv X ZY σ H' s2/\Turn X.prog X.w X.K tg J fp it tn/\tn 0 s2.heap/\(∀ b∈fp,qJ X ZY H' b)/\R J H'
def PI (X:Cx)(tg iter:Expr)(wi:TI):Prop :=
 ∀ (ZY:EQ) (s:TV) (σ:St) (H:Hp) (R:It->Hp->Prop),Inv X ZY σ H s->wi σ H R →
  T7 (Ue X.prog X.w) X.A (VD iter X.env) (fun v s1=>T7 (Ue X.prog X.w) X.A (aaK v) (PIE X ZY σ tg R) X.xe s1) X.xe s
theorem Hl {M : abE}{A : UW}{E : Value → TV → Prop}{s : TV}{tg : Expr}{it : Addr}{u : Value}{o : WL}{n : String}{vs : Array Value}{Q : Unit → TV → Prop}(ho : s.heap.get? it = some o)(hc : o.cls = .type n)(hd : o.data = .fields vs)
    (hn : ["enumerate", "zip", "dict_itemiterator", "dict_reverseitemiterator", "odict_iterator", "itertools.zip_longest", "itertools.pairwise"].contains n = false) (hQ : Q () s) : T7 M A (Xo tg (.ref it) u) Q E s := by
  unfold Xo
  cases tg <;> first
    | exact TX hQ
    | (cases u <;> first
        | exact TX hQ
        | (refine TF (wpAny_load ho ?_)
           rw [hc, hd]
           show T7 M A (if (["enumerate", "zip", "dict_itemiterator", "dict_reverseitemiterator", "odict_iterator", "itertools.zip_longest", "itertools.pairwise"].contains n && vs[0]? == some (Vh _)) = true then _ else _) Q E s
           rw [if_neg (by intro h;rw [hn, Yx] at h;cases h)]
           exact TX hQ))
def Itl (K:Ud)(a:Addr):It :=
 ⟨fun i H=>∃ xs x,SqL K H a xs/\xs[i]? = some x,fun i H x H'=>H'=H/\∀ xs,SqL K H a xs->xs[i]? = some x,fun i H=>∃ xs,SqL K H a xs/\xs.length<=i⟩
def Itt (K:Ud)(a:Addr):It :=
 ⟨fun i H=>∃ xs x,SqT K H a xs/\xs[i]? = some x,fun i H x H'=>H'=H/\∀ xs,SqT K H a xs->xs[i]? = some x,fun i H=>∃ xs,SqT K H a xs/\xs.length<=i⟩
def Itr (lo:Int)(n:Nat):It:=⟨fun i _=>i < n,fun i H x H'=>H'=H/\x = .int (lo+i),fun i _=>n<=i⟩
theorem Cz {P:Uq}{w:U3}{K:Ud}{tg:Expr}(a it:Addr):Turn P w K tg (Itl K a) [it] it (fun i h=>h.IsListIter it a i) where
 mem:=by simp
 obj:=fun i h st b hb=>by
  have e:b=it:=by simpa using hb
  subst e
  obtain⟨o,e,c,d⟩:=st
  exact⟨o,e,fun v z=>by rw[d] at z;cases z⟩
 keep:=fun i h h' st k=>st.at fun o e=>k it (by simp) o e
 item:=by
  intro X hP hw hK hc i ZY s σ H E I hf st hg
  subst hP hw hK
  obtain⟨xs,x,hq,hx⟩:=hg
  obtain⟨its,rv,p,hz⟩:=I.list hq
  obtain⟨u,hu,ru⟩:=rv.get hx
  obtain⟨f0,f1,f2,f3,f4,f5⟩:=hf it (by simp)
  refine wpAny_pyNext_list_item st p.isList (x:=u) (by simpa using hu) fun h' st' sb=>?_
  have I1:Inv X ZY σ H { s with heap:=h' }:=I.turned (t':=s.toks) (fun b o hb e=>(sb.2 b hb).trans e) f0 f1 f3 f4 f5
  obtain⟨o,e,c,d⟩:=id st'
  exact⟨u,U,Hl (s:={ s with heap:=h' }) e c d (by decide) ⟨x,H,I1,ru,⟨U,fun ys hy=>by rw[I.sJ hy hq];exact hx⟩,st',fun b hb=>(hf b hb).1⟩⟩
 done:=by
  intro X hP hw hK hc i ZY s σ H E I hf st hg
  subst hP hw hK
  obtain⟨xs,hq,hx⟩:=hg
  obtain⟨its,rv,p,hz⟩:=I.list hq
  obtain⟨f0,f1,f2,f3,f4,f5⟩:=hf it (by simp)
  have hl:=rv.length
  exact wpAny_pyNext_list_end (I.ok.hd hc) st p.isList (by simp;lia) fun h' eb=>⟨U,I.turned (t':=s.toks) (fun b o hb e=>eb b o hb e) f0 f1 f3 f4 f5⟩
 self:=fun _ _ _ _ _ st h=>wpAny_pyIter_listiter st h
theorem Bl {P:Uq}{w:U3}{K:Ud}{tg:Expr}(a it:Addr):Turn P w K tg (Itt K a) [it] it (fun i h=>h.IsTupleIter it a i) where
 mem:=by simp
 obj:=fun i h st b hb=>by
  have e:b=it:=by simpa using hb
  subst e
  obtain⟨o,e,c,d⟩:=st
  exact⟨o,e,fun v z=>by rw[d] at z;cases z⟩
 keep:=fun i h h' st k=>st.at fun o e=>k it (by simp) o e
 item:=by
  intro X hP hw hK hc i ZY s σ H E I hf st hg
  subst hP hw hK
  obtain⟨xs,x,hq,hx⟩:=hg
  obtain⟨its,rv,p,hz⟩:=I.tuple hq
  obtain⟨u,hu,ru⟩:=rv.get hx
  obtain⟨f0,f1,f2,f3,f4,f5⟩:=hf it (by simp)
  refine wpAny_pyNext_tuple_item st (show s.heap.IsTuple a its.toArray from p) (x:=u) (by simpa using hu) fun h' st' sb=>?_
  have I1:Inv X ZY σ H { s with heap:=h' }:=I.turned (t':=s.toks) (fun b o hb e=>(sb.2 b hb).trans e) f0 f1 f3 f4 f5
  obtain⟨o,e,c,d⟩:=id st'
  exact⟨u,U,Hl (s:={ s with heap:=h' }) e c d (by decide) ⟨x,H,I1,ru,⟨U,fun ys hy=>by rw[I.pI hy hq];exact hx⟩,st',fun b hb=>(hf b hb).1⟩⟩
 done:=by
  intro X hP hw hK hc i ZY s σ H E I hf st hg
  subst hP hw hK
  obtain⟨xs,hq,hx⟩:=hg
  obtain⟨its,rv,p,hz⟩:=I.tuple hq
  obtain⟨f0,f1,f2,f3,f4,f5⟩:=hf it (by simp)
  have hl:=rv.length
  exact wpAny_pyNext_tuple_end (I.ok.hd hc) st (show s.heap.IsTuple a its.toArray from p) (by simp;lia) fun h' eb=>⟨U,I.turned (t':=s.toks) (fun b o hb e=>eb b o hb e) f0 f1 f3 f4 f5⟩
 self:=fun _ _ _ _ _ st h=>wpAny_pyIter_tupleiter st h
theorem Al {P:Uq}{w:U3}{K:Ud}{tg:Expr}(it:Addr)(lo:Int)(n:Nat):Turn P w K tg (Itr lo n) [it] it (fun i h=>IsRangeIter h it (lo+(i:Nat) * 1) ((n:Int) - (i:Nat)) 1) where
 mem:=by simp
 obj:=fun i h st b hb=>by
  have e:b=it:=by simpa using hb
  subst e
  exact⟨_,st,fun v z=>by
   have z':Data.fields _=Data.cell v:=z
   cases z'⟩
 keep:=fun i h h' st k=>k it (by simp) _ st
 item:=by
  intro X hP hw hK hc i ZY s σ H E I hf st hg
  subst hP hw hK
  obtain⟨f0,f1,f2,f3,f4,f5⟩:=hf it (by simp)
  have W:=Walks.range (prog:=X.prog) (w:=X.w) (I.ok.hd hc) it lo 1 n
  refine W.item i s _ _ hg st fun v h' tk hv st' kk=>?_
  obtain⟨t,rfl⟩:=hv
  have I1:Inv X ZY σ H { s with heap:=h',toks:=tk }:=I.turned (fun b o hb e=>kk b o (by simpa using hb) e) f0 f1 f3 f4 f5
  refine⟨_,U,Hl (s:={ s with heap:=h',toks:=tk }) (n:="range_iterator") st' U U (by decide) ⟨.int (lo+i),H,I1,⟨t,?_⟩,⟨U,U⟩,st',fun b hb=>(hf b hb).1⟩⟩
  rw[Int.mul_one]
 done:=by
  intro X hP hw hK hc i ZY s σ H E I hf st hg
  subst hP hw hK
  obtain⟨f0,f1,f2,f3,f4,f5⟩:=hf it (by simp)
  exact wpAny_pyNext_range_end (I.ok.hd hc) st (by have:n<=i:=hg;lia) fun h' eb=>⟨U,I.turned (t':=s.toks) (fun b o hb e=>eb b o hb e) f0 f1 f3 f4 f5⟩
 self:=fun _ _ _ _ _ st h=>wpAny_pyIter_rangeiter st h
section
variable {X:Cx}{tg:Expr}
def K4 (K:Ud)(tl:TE):TI:=fun σ H R=>tl σ H fun x H1=>∃ a,x = .ref a/\(∃ xs,SqL K H1 a xs)/\R (Itl K a) H1
def RV (K:Ud)(tl:TE):TI:=fun σ H R=>tl σ H fun x H1=>∃ a,x = .ref a/\(∃ xs,SqT K H1 a xs)/\R (Itt K a) H1
theorem fV {l:Expr}{tl:TE}(hl:PE X l tl):PI X tg l (K4 X.K tl):=by
 intro ZY s σ H R I h
 refine thn (hl ZY s σ H _ I h) fun v s1 ⟨x,H1,I1,r1,q1⟩=>?_
 obtain⟨a,e,⟨xs,hq⟩,q⟩:=q1
 subst e
 cases r1
 obtain⟨its,rv,p,hz⟩:=I1.list hq
 refine Yc p.isList ?_
 refine⟨s1.heap.objs.size,[s1.heap.objs.size],_,_,H1,U,I1.kept (t':=s1.toks) fun b o e=>TQ _ e,Cz a _,⟨_,T9 _ U,U,U⟩,fun b hb=>?_,q⟩
 have e:b=s1.heap.objs.size:=by simpa using hb
 subst e
 exact I1.Kd (T6 _) (I1.hok.fresh (T6 _))
theorem cH {l:Expr}{tl:TE}(hl:PE X l tl):PI X tg l (RV X.K tl):=by
 intro ZY s σ H R I h
 refine thn (hl ZY s σ H _ I h) fun v s1 ⟨x,H1,I1,r1,q1⟩=>?_
 obtain⟨a,e,⟨xs,hq⟩,q⟩:=q1
 subst e
 cases r1
 obtain⟨its,rv,p,hz⟩:=I1.tuple hq
 refine wpAny_pyIter_tuple (show s1.heap.IsTuple a its.toArray from p) ?_
 refine⟨s1.heap.objs.size,[s1.heap.objs.size],_,_,H1,U,I1.kept (t':=s1.toks) fun b o e=>TQ _ e,Bl a _,⟨_,T9 _ U,U,U⟩,fun b hb=>?_,q⟩
 have e:b=s1.heap.objs.size:=by simpa using hb
 subst e
 exact I1.Kd (T6 _) (I1.hok.fresh (T6 _))
theorem zR {ZY:EQ}{σ:St}{H:Hp}{s:TV}{R:It->Hp->Prop}{E:ET}{lo hi:Int}{t u v:Tok}{tk:Nat}(I:Inv X ZY σ H s)(h1 : -(2 ^ 62)<=lo)(h2:lo < 2 ^ 62)(h3 : -(2 ^ 62)<=hi)(h4:hi < 2 ^ 62)
  (q:R (Itr lo (hi - lo).toNat) H):T7 (Ue X.prog X.w) X.A (aaK (.ref s.heap.objs.size)) (PIE X ZY σ tg R) E { s with heap:=s.heap.push { cls:=.type "range",data:=.fields #[.int lo t,.int hi u,.int 1 v] },toks:=tk }:=by
 refine wpAny_pyIter_range (IsRange.new ..) (small_one h1 h2 h3 h4) ?_
 have I1:Inv X ZY σ H { s with heap:=s.heap.push { cls:=.type "range",data:=.fields #[.int lo t,.int hi u,.int 1 v] },toks:=tk }:=I.kept fun b o e=>TQ _ e
 refine⟨(s.heap.push { cls:=.type "range",data:=.fields #[.int lo t,.int hi u,.int 1 v] }).objs.size,[(s.heap.push { cls:=.type "range",data:=.fields #[.int lo t,.int hi u,.int 1 v] }).objs.size],_,_,H,U,
  I1.kept (t':=tk) fun b o e=>TQ _ e,Al _ lo (hi - lo).toNat,?_,fun b hb=>?_,q⟩
 ·have e1:lo+((0:Nat):Int) * 1=lo:=by simp
  have e2:(((hi - lo).toNat:Nat):Int) - ((0:Nat):Int)=Builtin.Range.rangeSize lo hi 1:=by rw[rangeSize_one];split <;> lia
  show IsRangeIter _ _ (lo+((0:Nat):Int) * 1) ((((hi - lo).toNat:Nat):Int) - ((0:Nat):Int)) 1
  rw[e1,e2]
  exact T9 _ U
 ·have e:b=(s.heap.push { cls:=.type "range",data:=.fields #[.int lo t,.int hi u,.int 1 v] }).objs.size:=by simpa using hb
  subst e
  exact I1.Kd (T6 _) (I1.hok.fresh (T6 _))
def Rj (ta:TA):TI:=fun σ H R=>ta σ H fun vs H1=>∃ j:Int,vs=[.int j]/\-(2 ^ 62)<=j/\j < 2 ^ 62/\R (Itr 0 j.toNat) H1
def Rr (ta:TA):TI:=fun σ H R=>ta σ H fun vs H1=>∃ i j:Int,vs=[.int i,.int j]/\(-(2 ^ 62)<=i/\i < 2 ^ 62/\-(2 ^ 62)<=j/\j < 2 ^ 62)/\R (Itr i (j - i).toNat) H1
theorem cZ {a:Expr} {ta:TA} {p pos:Yg} (hg:Gl X "range") (hm:X.mg "range" = none) (ha:PA X [a] ta) (hs:Ur [a] X.env=[(false,VD a X.env)]:=by rfl):PI X tg (.Call (.Name "range" p) [a] [] pos) (Rj ta):=by
 intro ZY s σ H R I h
 refine Call_ (ig I hg hm boot_range (V4 (thn (ha pos ZY s σ H _ I h) fun us s1 ⟨vs,H1,I1,r1,q1⟩=>?_) hs U))
 obtain⟨j,e,q1,q2,q⟩:=q1
 subst e
 cases r1 with
 | cons r rr =>
  cases rr
  obtain⟨t,rfl⟩:=r
  exact call_range_1 (zR I1 (by lia) (by lia) q1 q2 (by simpa using q))
theorem Dn {a b:Expr} {ta:TA} {p pos:Yg} (hg:Gl X "range") (hm:X.mg "range" = none) (ha:PA X [a,b] ta) (hs:Ur [a,b] X.env=[(false,VD a X.env),(false,VD b X.env)]:=by rfl) (hs2:Ur [b] X.env=[(false,VD b X.env)]:=by rfl) :
  PI X tg (.Call (.Name "range" p) [a,b] [] pos) (Rr ta):=by
 intro ZY s σ H R I h
 refine Call_ (ig I hg hm boot_range (V4 (thn (ha pos ZY s σ H _ I h) fun us s1 ⟨vs,H1,I1,r1,q1⟩=>?_) (by rw[hs,hs2]) (by rw[hs2];rfl)))
 obtain⟨i,j,e,⟨q1,q2,q3,q4⟩,q⟩:=q1
 subst e
 cases r1 with
 | cons r rr =>
  cases rr with
  | cons r' rr =>
   cases rr
   obtain⟨t,rfl⟩:=r
   obtain⟨t',rfl⟩:=r'
   exact call_range_2 (zR I1 q1 q2 q3 q4 q)
def Tf (wi:TI)(g:TG)(tb:TS):TS:=fun D σ H=>wi σ H fun J H1=>∃ W:Nat->Nat->St->Hp->Prop,(∃ m,W 0 m σ H1)/\∀ i m σ H,W i m σ H →
 (J.stop i H/\D.nx σ H)∨(J.go i H/\∃ N:St->Hp->Prop,(∀ σ' H',N σ' H'->∃ m',m' < m/\W (i+1) m' σ' H')/\∀ x H',J.yld i H x H'->g x σ H' fun σ2 H2=>tb { D with nx:=N,ct:=N,bk:=D.nx } σ2 H2)
def jY (fp:E6)(h:Va):EQ:=fp.filterMap fun b=>(h.get? b).map fun o=>(b,o)
theorem cj {fp:E6}{h:Va}{b:Addr}{o:WL}(hb:b∈fp)(e:h.get? b=some o):(b,o)∈jY fp h:=List.mem_filterMap.mpr ⟨b,hb,by rw[e];rfl⟩
theorem BW {fp:E6}{h:Va}{p:Addr × WL}(hp:p∈jY fp h):p.1∈fp/\h.get? p.1=some p.2:=by
 obtain⟨b,hb,e⟩:=List.mem_filterMap.mp hp
 cases q:h.get? b with
 | none=>rw[q] at e;cases e
 | some o =>
  rw[q] at e
  have e':(b,o)=p:=U5 e
  subst e'
  exact⟨hb,q⟩
theorem Inv.pinned {ZY:EQ}{σ:St}{H:Hp}{s:TV}{fp:E6}(I:Inv X ZY σ H s)(hf:∀ b∈fp,qJ X ZY H b)(ho:∀ b∈fp,∃ o,s.heap.get? b=some o/\∀ v,o.data≠.cell v):Inv X (ZY++jY fp s.heap) σ H s :=
 I.Ef fun p hp=>(List.mem_append.mp hp).elim (fun z=>I.pin p (Uv _ z)) fun z=>by
  obtain⟨hb,e⟩:=BW z
  obtain⟨f0,f1,f2,_⟩:=hf p.1 hb
  obtain⟨o,e',d⟩:=ho p.1 hb
  rw[e] at e';cases e'
  exact⟨e,f0,f1,f2,d⟩
theorem Inv.gB {ZY pl:EQ}{σ:St}{H:Hp}{s:TV}(I:Inv X (ZY++pl) σ H s):Inv X ZY σ H s:=I.Ef fun p hp=>I.pin p (Uv _ (Zw _ hp))
theorem dC {iter:Expr}{body:E8}{wi:TI}{g:TG}{tb:TS}{pos:Yg}(hp:PassesOwn (Ue X.prog X.w) X.A X.env X.xe)(hc:X.calm=true)(hi:PI X tg iter wi)(hg:PG X tg g)(hb:PSs X body tb)
  (hs:∀ x,Ww iter X.env x=pure x:=by intro _;rfl):PS X (.For tg iter body [] pos) (Tf wi g tb):=by
 intro ZY s σ H D I h
 refine wpAny_For (thn (hi ZY s σ H _ I h) fun v s1 h1=>thn h1 fun itv s2 h2=>?_) hs
 obtain⟨it,fp,tn,J,H2,e,I2,T,st2,f2,W,⟨m0,w0⟩,turn⟩:=h2
 subst e
 have stat:∀ {H':Hp},(∀ b∈fp,H' b=none)->∀ b∈fp,qJ X ZY H' b:=fun hn b hb=>⟨hn b hb,(f2 b hb).2⟩
 refine codeAny_forLoop_any (fun n s'=>∃ i σ' H',Inv X ZY σ' H' s'/\tn i s'.heap/\(∀ b∈fp,H' b=none)/\W i n σ' H') ?_ m0 ⟨0,σ,H2,I2,st2,fun b hb=>(f2 b hb).1,w0⟩
 rintro n s3 ⟨i,σ3,H3,I3,st3,fr3,w3⟩
 rcases turn i n σ3 H3 w3 with⟨stop,qn⟩ | ⟨go,N,hN,step⟩
 ·refine X7 hp (thn (T.done X U U U hc i ZY s3 σ3 H3 X.xe I3 (stat fr3) st3 stop) fun r s4 ⟨hr,I4⟩=>?_)
  subst hr
  exact ZF ⟨σ3,H3,I4,qn⟩
 ·refine X7 hp (thn (T.item X U U U hc i ZY s3 σ3 H3 X.xe I3 (stat fr3) st3 go) fun r s4 ⟨u,hr,h4⟩=>?_)
  subst hr
  refine X7 hp (thn h4 fun _ s5 ⟨x,H5,I5,r5,y5,st5,fr5⟩=>?_)
  have I5':=I5.pinned (stat fr5) (T.obj _ _ st5)
  refine X7 hp (thn (hg _ s5 σ3 H5 x u _ I5' r5 (step x H5 y5)) fun _ s6 ⟨σ6,H6,I6,q6⟩=>?_)
  refine X7 hp (thn (hb _ s6 σ6 H6 _ I6 q6) fun f s7 q7=>?_)
  have again:∀ {σ7:St} {H7:Hp},Inv X (ZY++jY fp s5.heap) σ7 H7 s7->N σ7 H7->∃ m,m < n/\∃ i σ' H',Inv X ZY σ' H' s7/\tn i s7.heap/\(∀ b∈fp,H' b=none)/\W i m σ' H':=fun {σ7 H7} I7 n7=>by
   obtain⟨m',hm,w7⟩:=hN σ7 H7 n7
   refine⟨m',hm,i+1,σ7,H7,I7.gB,T.keep _ _ _ st5 fun b hb o e=>(I7.pin (b,o) (Uv _ (Uv _ (cj hb e)))).1,fun b hb=>?_,w7⟩
   obtain⟨o,e,d⟩:=T.obj _ _ st5 b hb
   exact (I7.pin (b,o) (Uv _ (Uv _ (cj hb e)))).2.1
  cases f with
  | next=>obtain⟨σ7,H7,I7,n7⟩:=q7;exact again I7 n7
  | cont=>obtain⟨σ7,H7,I7,n7⟩:=q7;exact again I7 n7
  | brk=>obtain⟨σ7,H7,I7,q7⟩:=q7;exact⟨σ7,H7,I7.gB,q7⟩
  | ret v=>obtain⟨x7,σ7,H7,I7,r7,q7⟩:=q7;exact⟨x7,σ7,H7,I7.gB,r7,q7⟩
end
theorem j8 {K:Ud}{a:Addr}{xs:List V}{g:TG}{tb:TS}{D:Ends}{σ:St}{H:Hp}(Pv:Nat->St->Hp->Prop)(h0:Pv 0 σ H)(hl:∀ i σ H,i<=xs.length->Pv i σ H->SqL K H a xs)
  (hs:∀ i x σ H,xs[i]? = some x->Pv i σ H->g x σ H fun σ2 H2=>tb { D with nx:=Pv (i+1),ct:=Pv (i+1),bk:=D.nx } σ2 H2) (hd:∀ σ H,Pv xs.length σ H->D.nx σ H) :
  ∃ W:Nat->Nat->St->Hp->Prop,(∃ m,W 0 m σ H)/\∀ i m σ H,W i m σ H →
   ((Itl K a).stop i H/\D.nx σ H)∨((Itl K a).go i H/\∃ N:St->Hp->Prop,(∀ σ' H',N σ' H'->∃ m',m' < m/\W (i+1) m' σ' H')/\∀ x H',(Itl K a).yld i H x H'->g x σ H' fun σ2 H2=>tb { D with nx:=N,ct:=N,bk:=D.nx } σ2 H2):=by
 refine⟨fun i m σ H=>m=xs.length - i/\i<=xs.length/\Pv i σ H,⟨xs.length,by simp,U9 _,h0⟩,?_⟩
 rintro i m σ H ⟨rfl,hi,p⟩
 have q:=hl i σ H hi p
 by_cases hlt:i < xs.length
 ·refine .inr ⟨⟨xs,xs[i],q,by simp [hlt]⟩,Pv (i+1),fun σ' H' p'=>⟨xs.length - (i+1),by lia,U,hlt,p'⟩,fun x H' y=>?_⟩
  obtain⟨e,y⟩:=y
  subst e
  exact hs i x σ _ (y xs q) p
 ·have e:i=xs.length:=by lia
  subst e
  exact .inl ⟨⟨xs,q,T6 _⟩,hd σ H p⟩
theorem kZ {K:Ud}{a:Addr}{xs:List V}{g:TG}{tb:TS}{D:Ends}{σ:St}{H:Hp}(Pv:Nat->St->Hp->Prop)(h0:Pv 0 σ H)(hl:∀ i σ H,i<=xs.length->Pv i σ H->SqT K H a xs)
  (hs:∀ i x σ H,xs[i]? = some x->Pv i σ H->g x σ H fun σ2 H2=>tb { D with nx:=Pv (i+1),ct:=Pv (i+1),bk:=D.nx } σ2 H2) (hd:∀ σ H,Pv xs.length σ H->D.nx σ H) :
  ∃ W:Nat->Nat->St->Hp->Prop,(∃ m,W 0 m σ H)/\∀ i m σ H,W i m σ H →
   ((Itt K a).stop i H/\D.nx σ H)∨((Itt K a).go i H/\∃ N:St->Hp->Prop,(∀ σ' H',N σ' H'->∃ m',m' < m/\W (i+1) m' σ' H')/\∀ x H',(Itt K a).yld i H x H'->g x σ H' fun σ2 H2=>tb { D with nx:=N,ct:=N,bk:=D.nx } σ2 H2):=by
 refine⟨fun i m σ H=>m=xs.length - i/\i<=xs.length/\Pv i σ H,⟨xs.length,by simp,U9 _,h0⟩,?_⟩
 rintro i m σ H ⟨rfl,hi,p⟩
 have q:=hl i σ H hi p
 by_cases hlt:i < xs.length
 ·refine .inr ⟨⟨xs,xs[i],q,by simp [hlt]⟩,Pv (i+1),fun σ' H' p'=>⟨xs.length - (i+1),by lia,U,hlt,p'⟩,fun x H' y=>?_⟩
  obtain⟨e,y⟩:=y
  subst e
  exact hs i x σ _ (y xs q) p
 ·have e:i=xs.length:=by lia
  subst e
  exact .inl ⟨⟨xs,q,T6 _⟩,hd σ H p⟩
theorem iK {lo:Int}{n:Nat}{g:TG}{tb:TS}{D:Ends}{σ:St}{H:Hp}(Pv:Nat->St->Hp->Prop)(h0:Pv 0 σ H)
  (hs:∀ i σ H,i < n->Pv i σ H->g (.int (lo+i)) σ H fun σ2 H2=>tb { D with nx:=Pv (i+1),ct:=Pv (i+1),bk:=D.nx } σ2 H2) (hd:∀ σ H,Pv n σ H->D.nx σ H) :
  ∃ W:Nat->Nat->St->Hp->Prop,(∃ m,W 0 m σ H)/\∀ i m σ H,W i m σ H →
   ((Itr lo n).stop i H/\D.nx σ H)∨((Itr lo n).go i H/\∃ N:St->Hp->Prop,(∀ σ' H',N σ' H'->∃ m',m' < m/\W (i+1) m' σ' H')/\∀ x H',(Itr lo n).yld i H x H'->g x σ H' fun σ2 H2=>tb { D with nx:=N,ct:=N,bk:=D.nx } σ2 H2):=by
 refine⟨fun i m σ H=>m=n - i/\i<=n/\Pv i σ H,⟨n,by simp,U9 _,h0⟩,?_⟩
 rintro i m σ H ⟨rfl,hi,p⟩
 by_cases hlt:i < n
 ·refine .inr ⟨hlt,Pv (i+1),fun σ' H' p'=>⟨n - (i+1),by lia,U,hlt,p'⟩,fun x H' y=>?_⟩
  obtain⟨e,y⟩:=y
  subst e y
  exact hs i σ _ hlt p
 ·have e:i=n:=by lia
  subst e
  exact .inl ⟨T6 _,hd σ H p⟩
theorem Il {c:TT}{tb:TS}{D:Ends}{σ:St}{H:Hp}(Pv:St->Hp->Prop)(μ:St->Hp->Nat)(h0:Pv σ H)
  (hs:∀ σ H,Pv σ H->c σ H fun b H1=>if b=true then tb { D with nx:=fun σ' H'=>Pv σ' H'/\μ σ' H' < μ σ H,ct:=fun σ' H'=>Pv σ' H'/\μ σ' H' < μ σ H,bk:=D.nx } σ H1 else D.nx σ H1)
  (mono:∀ σ H Q Q',(∀ b H1,Q b H1->Q' b H1)->c σ H Q->c σ H Q'):JW c tb D σ H:=by
 refine⟨fun m σ H=>m=μ σ H/\Pv σ H,⟨_,U,h0⟩,?_⟩
 rintro m σ H ⟨rfl,p⟩
 refine mono σ H _ _ (fun b H1 q=>?_) (hs σ H p)
 cases b with
 | true=>exact⟨_,fun σ' H' ⟨p',l⟩=>⟨_,l,U,p'⟩,q⟩
 | false=>exact q
abbrev R2:=V->V->Hp->VK->Prop
def OpR (X:Cx)(f:Value->Value->Sem Value)(r:R2):Prop :=
 ∀ (ZY:EQ) (s:TV) (σ:St) (H:Hp) (x y:V) (v u:Value) (Q:VK),Inv X ZY σ H s->RelV x v->RelV y u->r x y H Q →
  T7 (Ue X.prog X.w) X.A (f v u) (EP X ZY σ Q) X.xe s
def UnR (X:Cx)(f:Value->Sem Value)(r:V->Hp->VK->Prop):Prop :=
 ∀ (ZY:EQ) (s:TV) (σ:St) (H:Hp) (x:V) (v:Value) (Q:VK),Inv X ZY σ H s->RelV x v->r x H Q →
  T7 (Ue X.prog X.w) X.A (f v) (EP X ZY σ Q) X.xe s
def fZ (X:Cx)(f:Value)(r:List V->Hp->VK->Prop):Prop :=
 ∀ (ZY:EQ) (s:TV) (σ:St) (H:Hp) (xs:List V) (us:E4) (Q:VK),Inv X ZY σ H s->Vals xs us->r xs H Q →
  T7 (Ue X.prog X.w) X.A (call f us) (EP X ZY σ Q) X.xe s
def tOp (r:R2)(ta tb:TE):TE:=fun σ H Q=>ta σ H fun x H1=>tb σ H1 fun y H2=>r x y H2 Q
def tUn (r:V->Hp->VK->Prop)(ta:TE):TE:=fun σ H Q=>ta σ H fun x H1=>r x H1 Q
inductive rI (C:Int->Int->Prop)(g:Int->Int->V)(x:V)(y:V)(H:Hp)(Q:VK):Prop where
 | mk (i:Int) (j:Int) (_:x = .int i) (_:y = .int j) (_:C i j) (_:Q (g i j) H)
inductive rI0 (g:Int->Int->V)(x:V)(y:V)(H:Hp)(Q:VK):Prop where
 | mk (i:Int) (j:Int) (_:x = .int i) (_:y = .int j) (_:Q (g i j) H)
inductive rU (g:Int->V)(x:V)(H:Hp)(Q:VK):Prop where
 | mk (i:Int) (_:x = .int i) (_:Q (g i) H)
section
variable {X:Cx}{a b c:Expr}{ta tb tc:TE}{pos:Yg}
theorem Rk (ha:PE X a ta)(hb:PE X b tb){ZY:EQ}{s:TV}{σ:St}{H:Hp}{R:V->V->Hp->Prop}(I:Inv X ZY σ H s)
  (h:ta σ H fun x H1=>tb σ H1 fun y H2=>R x y H2) {Q:ET} {f:Value->Value->Sem Value}
  (hf:∀ v u s2 x y H2,Inv X ZY σ H2 s2->RelV x v->RelV y u->R x y H2->T7 (Ue X.prog X.w) X.A (f v u) Q X.xe s2) :
  T7 (Ue X.prog X.w) X.A (VD a X.env) (fun v s₁=>T7 (Ue X.prog X.w) X.A (VD b X.env) (fun u s₂=>T7 (Ue X.prog X.w) X.A (f v u) Q X.xe s₂) X.xe s₁) X.xe s:=by
 refine thn (ha ZY s σ H _ I h) fun v s1 ⟨x,H1,I1,r1,q1⟩=>?_
 refine thn (hb ZY s1 σ H1 _ I1 q1) fun u s2 ⟨y,H2,I2,r2,q2⟩=>?_
 exact hf v u s2 x y H2 I2 r1 r2 q2
theorem aM {op:Operator}{r:R2}(ho:OpR X (YQ op) r)(ha:PE X a ta)(hb:PE X b tb):PE X (.BinOp a op b pos) (tOp r ta tb):=by
 intro ZY s σ H Q I h
 exact wpAny_BinOp (Rk ha hb I h fun v u s2 x y H2 I2 rx ry q=>ho ZY s2 σ H2 x y v u Q I2 rx ry q)
theorem Mg {op:UnaryOp}{r:V->Hp->VK->Prop}(ho:UnR X (unaryOp op) r)(ha:PE X a ta):PE X (.UnaryOp op a pos) (tUn r ta):=by
 intro ZY s σ H Q I h
 exact UnaryOp_ (thn (ha ZY s σ H _ I h) fun v s1 ⟨x,H1,I1,r1,q1⟩=>ho ZY s1 σ H1 x v Q I1 r1 q1)
theorem opI {f:Value->Value->Sem Value}{C:Int->Int->Prop}{g:Int->Int->Int}
  (rule:∀ (i j:Int) (t u:Tok) (s:TV) (Q:ET) (E:ET),C i j->Q (.int (g i j) s.toks) { s with toks:=s.toks+1 }->T7 (Ue X.prog X.w) X.A (f (.int i t) (.int j u)) Q E s) :
  OpR X f (rI C fun i j=>.int (g i j)):=by
 intro ZY s σ H x y v u Q I rx ry h
 obtain⟨i,j,rfl,rfl,hc,q⟩:=h
 obtain⟨t,rfl⟩:=rx
 obtain⟨t',rfl⟩:=ry
 exact rule i j t t' s _ _ hc ⟨.int (g i j),H,I.tok _,⟨_,U⟩,q⟩
theorem R7 {f:Value->Value->Sem Value}{g:Int->Int->Int}
  (rule:∀ (i j:Int) (t u:Tok) (s:TV) (Q:ET) (E:ET),Q (.int (g i j) s.toks) { s with toks:=s.toks+1 }->T7 (Ue X.prog X.w) X.A (f (.int i t) (.int j u)) Q E s) :
  OpR X f (rI0 fun i j=>.int (g i j)):=by
 intro ZY s σ H x y v u Q I rx ry h
 obtain⟨i,j,rfl,rfl,q⟩:=h
 obtain⟨t,rfl⟩:=rx
 obtain⟨t',rfl⟩:=ry
 exact rule i j t t' s _ _ ⟨.int (g i j),H,I.tok _,⟨_,U⟩,q⟩
theorem QJ {f:Value->Value->Sem Value}{g:Int->Int->Bool}
  (rule:∀ (i j:Int) (t u:Tok) (s:TV) (Q:ET) (E:ET),Q (.bool (g i j)) s->T7 (Ue X.prog X.w) X.A (f (.int i t) (.int j u)) Q E s) :
  OpR X f (rI0 fun i j=>.bl (g i j)):=by
 intro ZY s σ H x y v u Q I rx ry h
 obtain⟨i,j,rfl,rfl,q⟩:=h
 obtain⟨t,rfl⟩:=rx
 obtain⟨t',rfl⟩:=ry
 exact rule i j t t' s _ _ ⟨.bl (g i j),H,I,U,q⟩
def SJ (i j:Int):Prop:=0 < j/\j < 1073741824
def S9 (i j:Int):Prop:=0<=j/\j<=1000000/\i.natAbs < 2 ^ 64
def RK (i j:Int):Prop:=(-(2 ^ 64) < i/\i < 2 ^ 64)∨(-(2 ^ 64) < j/\j < 2 ^ 64)
theorem RK.ok {i j:Int}(h:RK i j):IntMulOk i j:=by
 rcases h with⟨h1,h2⟩ | ⟨h1,h2⟩
 ·exact .of_left (intBits_le_64 h1 h2)
 ·exact .of_right (intBits_le_64 h1 h2)
theorem bA:OpR X (YQ .Add) (rI0 fun i j=>.int (i+j)):=R7 fun _ _ _ _ _ _ _ q=>add_int q
theorem fG:OpR X (YQ .Sub) (rI0 fun i j=>.int (i - j)):=R7 fun _ _ _ _ _ _ _ q=>sub_int q
theorem je:OpR X (YQ .Mult) (rI RK fun i j=>.int (i * j)):=opI fun _ _ _ _ _ _ _ hc q=>mul_int q hc.ok
theorem yh:OpR X (YQ .FloorDiv) (rI SJ fun i j=>.int (i / j)):=opI fun i j _ _ _ _ _ hc q=>by
 have h1:(0:Int) < j:=hc.1
 have h2:j < 1073741824:=hc.2
 exact floordiv_int (by lia) (by rw[Int.fdiv_eq_ediv_of_nonneg i (by lia)];exact q) (.inl (PyProof.noPylong_small (by lia)))
theorem cI:OpR X (YQ .Mod) (rI (fun _ j=>0 < j) fun i j=>.int (i % j)):=opI fun i j _ _ _ _ _ hc q=>by
 have h1:(0:Int) < j:=hc
 exact mod_int' (by lia) (by rw[Int.fmod_eq_emod_of_nonneg i (by lia)];exact q)
theorem rH:OpR X (YQ .Pow) (rI S9 fun i j=>.int (i ^ j.toNat)):=opI fun _ _ _ _ _ _ _ hc q=>pow_int_small hc.1 hc.2.1 hc.2.2 q
theorem unI {f:Value->Sem Value}{g:Int->Int}
  (rule:∀ (i:Int) (t:Tok) (s:TV) (Q:ET) (E:ET),Q (.int (g i) s.toks) { s with toks:=s.toks+1 }->T7 (Ue X.prog X.w) X.A (f (.int i t)) Q E s) :
  UnR X f (rU fun i=>.int (g i)):=by
 intro ZY s σ H x v Q I rx h
 obtain⟨i,rfl,q⟩:=h
 obtain⟨t,rfl⟩:=rx
 exact rule i t s _ _ ⟨.int (g i),H,I.tok _,⟨_,U⟩,q⟩
theorem Dc:UnR X (unaryOp .USub) (rU fun i=>.int (-i)):=unI fun _ _ _ _ _ q=>neg_int q
end
def Sw:V->V->Bool
 | .non,.non=>true | .non,.int _=>true | .int _,.non=>true | .non,.bl _=>true | .bl _,.non=>true | .non,.str _=>true | .str _,.non=>true
 | .int _,.int _=>true | .bl _,.bl _=>true | .str _,.str _=>true | .byt _,.byt _=>true
 | .int _,.str _=>true | .str _,.int _=>true | .bl _,.str _=>true | .str _,.bl _=>true
 | _,_=>false
def rEq:R2:=fun x y H Q=>Sw x y=true/\Q (.bl (decide (x=y))) H
def rNe:R2:=fun x y H Q=>Sw x y=true/\Q (.bl (!decide (x=y))) H
theorem Gn {i j:Int}:decide (V.int i=V.int j)=(i == j):=by
 rw[ZJ]
 simp
theorem JT {i j:Bool}:decide (V.bl i=V.bl j)=(i == j):=by
 rw[ZJ]
 simp
theorem CZ {i j:Ut}:decide (V.str i=V.str j)=(i == j):=by
 rw[ZJ]
 simp
theorem DX {i j:Array UInt8}:decide (V.byt i=V.byt j)=(i.toList == j.toList):=by
 rw[ZJ]
 cases i
 cases j
 simp
section
variable {X:Cx}{a b c:Expr}{ta tb tc:TE}{pos:Yg}
theorem bH {ZY:EQ}{σ:St}{H:Hp}{s:TV}{Q:VK}{k k':Bool}(I:Inv X ZY σ H s)(q:Q (.bl k) H)(e:k=k'):EP X ZY σ Q (.bool k') s:=by
 subst e
 exact⟨.bl k,H,I,U,q⟩
theorem bw:OpR X (WM .Eq) rEq:=by
 intro ZY s σ H x y v u Q I rx ry h
 obtain⟨hs,q⟩:=h
 cases x with
 | non =>
  cases rx
  cases y with
  | non=>cases ry;exact PySem.EqNone.eq_none_none (bH I q (by simp))
  | bl j=>cases ry;exact PySem.EqNone.eq_none_bool (bH I q (by simp))
  | int j=>obtain⟨t',rfl⟩:=ry;exact PySem.EqNone.eq_none_int (bH I q (by simp))
  | str j=>obtain⟨t',rfl⟩:=ry;exact PySem.EqNone.eq_none_str (bH I q (by simp))
  | _=>exact absurd (show false=true from hs) T5
 | bl i =>
  cases rx
  cases y with
  | non=>cases ry;exact PySem.EqNone.eq_bool_none (bH I q (by simp))
  | bl j=>cases ry;exact eq_bool (bH I q JT)
  | str j=>obtain⟨t',rfl⟩:=ry;exact PySem.EqMixed.eq_bool_str (bH I q (by simp))
  | _=>exact absurd (show false=true from hs) T5
 | int i =>
  obtain⟨t,rfl⟩:=rx
  cases y with
  | non=>cases ry;exact PySem.EqNone.eq_int_none (bH I q (by simp))
  | int j=>obtain⟨t',rfl⟩:=ry;exact eq_int (bH I q Gn)
  | str j=>obtain⟨t',rfl⟩:=ry;exact PySem.EqMixed.eq_int_str (bH I q (by simp))
  | _=>exact absurd (show false=true from hs) T5
 | str i =>
  obtain⟨t,rfl⟩:=rx
  cases y with
  | non=>cases ry;exact PySem.EqNone.eq_str_none (bH I q (by simp))
  | bl j=>cases ry;exact PySem.EqMixed.eq_str_bool (bH I q (by simp))
  | int j=>obtain⟨t',rfl⟩:=ry;exact PySem.EqMixed.eq_str_int (bH I q (by simp))
  | str j=>obtain⟨t',rfl⟩:=ry;exact eq_str (bH I q CZ)
  | _=>exact absurd (show false=true from hs) T5
 | byt i =>
  obtain⟨t,rfl⟩:=rx
  cases y with
  | byt j=>obtain⟨t',rfl⟩:=ry;exact PySem.W.eq_bytes (bH I q DX)
  | _=>exact absurd (show false=true from hs) T5
 | _=>cases y <;> exact absurd (show false=true from hs) T5
theorem Aq:OpR X (WM .NotEq) rNe:=by
 intro ZY s σ H x y v u Q I rx ry h
 obtain⟨hs,q⟩:=h
 cases x with
 | non =>
  cases rx
  cases y with
  | non=>cases ry;exact PySem.EqNone.ne_none_none (bH I q (by simp))
  | bl j=>cases ry;exact PySem.EqNone.ne_none_bool (bH I q (by simp))
  | int j=>obtain⟨t',rfl⟩:=ry;exact PySem.EqNone.ne_none_int (bH I q (by simp))
  | str j=>obtain⟨t',rfl⟩:=ry;exact PySem.EqNone.ne_none_str (bH I q (by simp))
  | _=>exact absurd (show false=true from hs) T5
 | bl i =>
  cases rx
  cases y with
  | non=>cases ry;exact PySem.EqNone.ne_bool_none (bH I q (by simp))
  | bl j=>cases ry;exact ne_bool (bH I q (congrArg not JT))
  | str j=>obtain⟨t',rfl⟩:=ry;exact PySem.EqMixed.ne_bool_str (bH I q (by simp))
  | _=>exact absurd (show false=true from hs) T5
 | int i =>
  obtain⟨t,rfl⟩:=rx
  cases y with
  | non=>cases ry;exact PySem.EqNone.ne_int_none (bH I q (by simp))
  | int j=>obtain⟨t',rfl⟩:=ry;exact ne_int (bH I q (congrArg not Gn))
  | str j=>obtain⟨t',rfl⟩:=ry;exact PySem.EqMixed.ne_int_str (bH I q (by simp))
  | _=>exact absurd (show false=true from hs) T5
 | str i =>
  obtain⟨t,rfl⟩:=rx
  cases y with
  | non=>cases ry;exact PySem.EqNone.ne_str_none (bH I q (by simp))
  | bl j=>cases ry;exact PySem.EqMixed.ne_str_bool (bH I q (by simp))
  | int j=>obtain⟨t',rfl⟩:=ry;exact PySem.EqMixed.ne_str_int (bH I q (by simp))
  | str j=>obtain⟨t',rfl⟩:=ry;exact ne_str (bH I q (congrArg not CZ))
  | _=>exact absurd (show false=true from hs) T5
 | byt i =>
  obtain⟨t,rfl⟩:=rx
  cases y with
  | byt j=>obtain⟨t',rfl⟩:=ry;exact PySem.W.ne_bytes (bH I q (congrArg not DX))
  | _=>exact absurd (show false=true from hs) T5
 | _=>cases y <;> exact absurd (show false=true from hs) T5
theorem yr:OpR X (WM .Lt) (rI0 fun i j=>.bl (decide (i < j))):=QJ fun _ _ _ _ _ _ _ q=>lt_int q
theorem Ol:OpR X (WM .LtE) (rI0 fun i j=>.bl (decide (i<=j))):=QJ fun _ _ _ _ _ _ _ q=>le_int q
theorem xP:OpR X (WM .Gt) (rI0 fun i j=>.bl (decide (j < i))):=QJ fun _ _ _ _ _ _ _ q=>gt_int q
theorem lA:OpR X (WM .GtE) (rI0 fun i j=>.bl (decide (j<=i))):=QJ fun _ _ _ _ _ _ _ q=>ge_int q
theorem Ky (b:Expr){op:CmpOp}(h:op≠.In:=by decide)(h2:op≠.NotIn:=by decide):Xh op b=false:=by
 have e1:(op == CmpOp.In)=false:=by cases op <;> first | rfl | exact absurd rfl h
 have e2:(op == CmpOp.NotIn)=false:=by cases op <;> first | rfl | exact absurd rfl h2
 cases b <;> simp [Xh,e1,e2]
theorem Dw {op:CmpOp}{r:R2}(ho:OpR X (WM op) r)(ha:PE X a ta)(hb:PE X b tb)(hm:Xh op b=false):PE X (.Compare a [op] [b] pos) (tOp r ta tb):=by
 intro ZY s σ H Q I h
 exact wpAny_Compare1 (Rk ha hb I h fun v u s2 x y H2 I2 rx ry q=>ho ZY s2 σ H2 x y v u Q I2 rx ry q) hm
def Pu (t:TE):TT:=fun σ H Q=>t σ H fun x H'=>ExB x fun k=>Q k H'
theorem jK {op:CmpOp}{r:R2}(ho:OpR X (WM op) r)(ha:PE X a ta)(hb:PE X b tb)(hm:Xh op b=false):PT X (.Compare a [op] [b] pos) (Pu (tOp r ta tb)):=by
 intro ZY s σ H Q I h
 refine wpAny_isTrue_Compare1 (thn (ha ZY s σ H _ I h) fun v s1 ⟨x,H1,I1,r1,q1⟩=>thn (hb ZY s1 σ H1 _ I1 q1) fun u s2 ⟨y,H2,I2,r2,q2⟩ =>
  thn (ho ZY s2 σ H2 x y v u _ I2 r1 r2 q2) fun c s3 ⟨z,H3,I3,r3,k,e,q3⟩=>?_) hm
 subst e
 cases r3
 exact Wu ⟨H3,I3,q3⟩
theorem rG:(sizeLine:Nat) < 2 ^ 63:=by rw[abB];decide
theorem vals1 {x:V}{us:E4}(r:Vals [x] us):∃ u,us=[u]/\RelV x u:=by
 cases r with
 | cons r1 r2=>cases r2;exact⟨_,U,r1⟩
theorem vals2 {x y:V}{us:E4}(r:Vals [x,y] us):∃ u w',us=[u,w']/\RelV x u/\RelV y w':=by
 cases r with
 | cons r1 r2 =>
  cases r2 with
  | cons r3 r4=>cases r4;exact⟨_,_,U,r1,r3⟩
theorem nJ:fZ X (.builtin "abs") (fun xs H Q=>∃ i,xs=[.int i]/\Q (.int (if i < 0 then -i else i)) H):=by
 intro ZY s σ H xs us Q I r h
 obtain⟨i,rfl,q⟩:=h
 obtain⟨u,rfl,t,rfl⟩:=vals1 r
 exact call_abs_int fun u tk=>⟨.int (if i < 0 then -i else i),H,I.tok _,⟨_,U⟩,q⟩
theorem vp (hc:X.calm=true):fZ X (.builtin "max") (fun xs H Q=>∃ i j,xs=[.int i,.int j]/\Q (.int (if j > i then j else i)) H):=by
 intro ZY s σ H xs us Q I r h
 obtain⟨i,j,rfl,q⟩:=h
 obtain⟨u,w',rfl,⟨t,rfl⟩,⟨t',rfl⟩⟩:=vals2 r
 refine max_two_ints (I.ok.hd hc) fun h' tk k=>⟨_,H,I.kept k,?_,q⟩
 by_cases hj:j > i
 ·rw[if_pos hj,if_pos hj];exact⟨_,U⟩
 ·rw[if_neg hj,if_neg hj];exact⟨_,U⟩
theorem Gz (hc:X.calm=true):fZ X (.builtin "min") (fun xs H Q=>∃ i j,xs=[.int i,.int j]/\Q (.int (if j < i then j else i)) H):=by
 intro ZY s σ H xs us Q I r h
 obtain⟨i,j,rfl,q⟩:=h
 obtain⟨u,w',rfl,⟨t,rfl⟩,⟨t',rfl⟩⟩:=vals2 r
 refine min_two_ints (I.ok.hd hc) fun h' tk k=>⟨_,H,I.kept k,?_,q⟩
 by_cases hj:j < i
 ·rw[if_pos hj,if_pos hj];exact⟨_,U⟩
 ·rw[if_neg hj,if_neg hj];exact⟨_,U⟩
theorem wk:fZ X (.type "int") (fun xs H Q=>(∃ i,xs=[.int i]/\Q (.int i) H)∨∃ k,xs=[.bl k]/\Q (.int (if k then 1 else 0)) H):=by
 intro ZY s σ H xs us Q I r h
 rcases h with⟨i,rfl,q⟩ | ⟨k,rfl,q⟩
 ·obtain⟨u,rfl,t,rfl⟩:=vals1 r
  exact call_int_int ⟨.int i,H,I,⟨_,U⟩,q⟩
 ·obtain⟨u,rfl,r1⟩:=vals1 r
  cases r1
  exact call_int_bool ⟨.int (if k then 1 else 0),H,I.tok _,⟨_,U⟩,q⟩
end
structure Lq (h:Va)(x dx C:Addr)(mA:Ut->EW):Prop where
 obj:h.get? x=some (Xp C dx)
 ns:h.Ns1 dx mA
 ne:dx≠x
theorem vZ {h:Va}{dx:Addr}{mA:Ut->EW}(n:h.Ns1 dx mA):∃ od,h.get? dx=some od/\∀ name,aaO name od=some (mA name):=by
 obtain⟨o,es,ep,ho,hd,hk,_,hm⟩:=n
 refine⟨o,ho,fun name=>?_⟩
 have e:=hm name
 unfold nsFind findBy at e
 rw[← Array.find?_toList] at e
 unfold aaO
 rw[hd]
 dsimp only
 split
 ·rename_i y q
  rw[q] at e
  exact congrArg some e
 ·rename_i q
  rw[q] at e
  have a:es.toList.any (·.refKey)=false:=by
   rw[List.any_eq_false]
   intro y hy
   obtain⟨z,t,hkey⟩:=hk y (Array.mem_toList_iff.mp hy)
   simp [DictEntry.refKey,hkey]
  have a':¬ es.toList.any (·.refKey)=true:=by rw[a];exact T5
  rw[if_neg a']
  exact congrArg some e
theorem Lq.look {h:Va}{x dx C:Addr}{mA:Ut->EW}(I:Lq h x dx C mA):∃ od,PySem.W.InstAt h x (Xp C dx) C (some od)/\∀ name,aaO name od=some (mA name) :=
 let ⟨od,ho,hl⟩:=vZ I.ns
 ⟨od,⟨I.obj,U,U,ho⟩,hl⟩
section
variable {prog:Uq}{w:U3}{A:UW}{E:ET}{s:TV}{K:Ud}{x dx C f:Addr}{mA:Ut->EW}{name:Ut}{v:Value}
theorem get_map {expr:Bool}{Q:ET}(X:K.In s.heap)(I:Lq s.heap x dx C mA)(hg:Zm K C name=true)(hh:Yd K C=true)
  (ha:Vw K (.ref C) name=some none) (hv:mA name=some v) (hv':abt v=true) (h:Q v { s with toks:=s.toks+1 }) :
  T7 (Ue prog w) A (getAttr (.ref x) name expr) Q E s:=by
 obtain⟨od,J,hl⟩:=I.look
 exact PySem.W.get_value X J (aaW hg).1 (PySem.W.findObj_own hh ha U (by rw[hl,hv])) hv' h
theorem Hm {pl:Sem Bool}{Q:Value × E4->TV->Prop}(X:K.In s.heap)(I:Lq s.heap x dx C mA)(hg:Zm K C name=true)
  (hf:Vw K (.ref C) name=some (some (.ref f))) (ht:abi K (.ref f)=true) (hv:mA name=none) (h:Q (.ref f,[.ref x]) s) :
  T7 (Ue prog w) A (Zi (.ref x) name pl) Q E s:=by
 obtain⟨od,J,hl⟩:=I.look
 exact PySem.W.method_fn X J (aaW hg).1 (aaW hg).2 hf (beq_iff_eq.mp ht) (by show (aaO name od).map (·.isSome)=some false;rw[hl,hv];rfl) h
theorem Mw {ns:Fh}{Q:Unit->TV->Prop}(X:K.In s.heap)(I:Lq s.heap x dx C mA)
  (hs:Vw K (.ref C) "__setattr__" = some (some (.builtin "object.__setattr__"))) (hp:abg K C=true) (ht:aaA K C name=some none) (hh:Yd K C=true)
  (hw:PySem.Within mA ns) (hsz:ns.length<=sizeLine)
  (h:∀ h',Lq h' x dx C (fun y=>if y=name then some v else mA y)->Wl dx s.heap h'->Q () { s with heap:=h',toks:=s.toks+2 }) :
  T7 (Ue prog w) A (setAttr (.ref x) name v) Q E s:=by
 obtain⟨od,J,hl⟩:=I.look
 refine PySem.W.set_plain X J hs (PySem.W.osa_open (s:={ s with toks:=s.toks+1 }) (r:=none) X J hp ht fun b=>?_)
 obtain⟨cd,hc,hd'⟩:=PySem.W.any_some hh
 have hx:s.heap.get? x=some ⟨.ref C,some dx,.plain,#[]⟩:=I.obj
 refine TF (TX (TF (TF (wpAny_loadPart hx (TF (WN (s:={ s with toks:=s.toks+1 }) (aaX X hc) ?_))))))
 rw[hd']
 refine TX (a:=some dx) (TF (TX (TF ?_)))
 refine wpAny_nsSet1 (s:={ s with toks:=s.toks+1 }) I.ns fun h' hn2 hs2=>?_
 obtain⟨oD,esD,epD,hoD,hdD,hcD⟩:=hn2.count (PySem.Within.cons name v hw)
 refine TF (wpAny_lookBehind hoD (by rw[hdD];exact pastItsLine_dict (UL hcD (by rw[Uj];lia))) ?_)
 exact TX (h _ ⟨(hs2.2 _ (VM I.ne)).trans I.obj,hn2,I.ne⟩ hs2)
theorem HN {R:Z3->TV->Prop}{vs:E4}{kw:EO}(X:K.In s.heap)(hm:abH K C=true)
  (hi:Vw K (.ref C) "__init__" = some (some (.ref f))) (hf:PySem.W.typeIn K (.ref f)=some (.type "function"))
  (h:Vz (Ue prog w) (A.under (.builtin "type.__call__" ⟨.ref C::vs,kw⟩)) (.call (.ref f) ⟨.ref (s.heap.objs.size+1)::vs,kw⟩) (PySem.W.InitBack (s.heap.objs.size+1) R)
   {s with heap:=(s.heap.push WD).push (Xp C s.heap.objs.size) }) :
  Vz (Ue prog w) A (.call (.ref C) ⟨vs,kw⟩) R s:=by
 obtain⟨hh,g,d,t,os⟩:=s
 exact PySem.W.make_core (PySem.W.makes_of X hm) (Ys X hi) (fun self=>PySem.W.bind_fn X self hf) (.inl U) h
end
def rM (f:Ut)(v:V):List (Ut × V)->List (Ut × V)
 | []=>[(f,v)]
 | (g,x)::r=>if g=f then (g,v)::r else (g,x)::rM f v r
theorem oZ (f g:Ut)(v:V):∀ fs:List (Ut × V),(rM f v fs).lookup g=if g=f then some v else fs.lookup g
 | []=>by
  show Yu g [(f,v)]=_
  by_cases h:g=f
  ·have hb:(g == f)=true:=beq_iff_eq.mpr h
   simp only[Yu,hb,if_pos h]
  ·have hb:(g == f)=false:=beq_eq_false_iff_ne.mpr h
   simp only[Yu,hb,if_neg h]
 | (k,x)::r=>by
  have ih:=oZ f g v r
  rw[show rM f v ((k,x)::r)=(if k=f then (k,v)::r else (k,x)::rM f v r) from U]
  by_cases hk:k=f
  ·rw[if_pos hk]
   by_cases h:g=k
   ·have hb:(g == k)=true:=beq_iff_eq.mpr h
    simp only[Yu,hb,if_pos (h.trans hk)]
   ·have hb:(g == k)=false:=beq_eq_false_iff_ne.mpr h
    simp only[Yu,hb,if_neg (fun e:g=f=>h (e.trans hk.symm))]
  ·rw[if_neg hk]
   by_cases h:g=k
   ·have hb:(g == k)=true:=beq_iff_eq.mpr h
    simp only[Yu,hb,if_neg (fun e:g=f=>hk (h.symm.trans e))]
   ·have hb:(g == k)=false:=beq_eq_false_iff_ne.mpr h
    simp only[Yu,hb]
    exact ih
theorem nQ (f:Ut)(v:V):∀ fs:List (Ut × V),f∈(rM f v fs).map (·.1)/\∀ g,g∈fs.map (·.1)->g∈(rM f v fs).map (·.1)
 | []=>⟨by simp [rM],fun g h=>by simp at h⟩
 | (k,x)::r=>by
  obtain⟨i1,i2⟩:=nQ f v r
  rw[show rM f v ((k,x)::r)=(if k=f then (k,v)::r else (k,x)::rM f v r) from U]
  by_cases hk:k=f
  ·rw[if_pos hk]
   subst hk
   exact⟨by simp,fun g h=>by simpa using h⟩
  ·rw[if_neg hk]
   refine⟨?_,fun g h=>?_⟩
   ·rw[U0]
    exact Ug _ i1
   ·rw[U0] at h ⊢
    rcases List.mem_cons.mp h with e | e
    ·exact List.mem_cons.mpr (.inl e)
    ·exact Ug _ (i2 g e)
theorem oH (f:Ut)(v:V):∀ fs:List (Ut × V),(rM f v fs).length<=fs.length+1
 | []=>by simp [rM]
 | (k,x)::r=>by
  have ih:=oH f v r
  rw[show rM f v ((k,x)::r)=(if k=f then (k,v)::r else (k,x)::rM f v r) from U]
  by_cases hk:k=f
  ·rw[if_pos hk,Uj,Uj];lia
  ·rw[if_neg hk,Uj,Uj];lia
theorem rB.some_of {v:V}{o:EW}(r:rB (some v) o):∃ u,o=some u/\RelV v u:=by
 cases o with
 | none=>exact (show False from r).elim
 | some u=>exact⟨u,U,r⟩
theorem rB.none_of {o:EW}(r:rB none o):o=none:=by
 cases o with
 | none=>rfl
 | some u=>exact (show False from r).elim
theorem vR {v:V}{u:Value}(r:RelV v u):abt u=true:=by
 cases v with
 | non=>cases (show u=Vr from r);rfl
 | bl b=>cases (show u=aas b from r);rfl
 | int i=>obtain⟨t,e⟩:=(show ∃ t,u=Xj i t from r);cases e;rfl
 | str x=>obtain⟨t,e⟩:=(show ∃ t,u=aaU x t from r);cases e;rfl
 | byt b=>obtain⟨t,e⟩:=(show ∃ t,u=Value.bytes b t from r);cases e;rfl
 | flt b=>obtain⟨t,e⟩:=(show ∃ t,u=Value.float b t from r);cases e;rfl
 | ref a=>cases (show u=Uk a from r);rfl
 | ty n=>cases (show u=Yp n from r);rfl
section
variable {P:Uq}{w:U3}{H H':Hp}{h h':Va}{a C dx:Addr}{fs fs':List (Ut × V)}
theorem tV (hok:HOk P w H h)(e:H a=some (.ins C dx fs)):∃ mA,Lq h a dx C mA/\(∀ f,rB (fs.lookup f) (mA f))/\PySem.Within mA (fs.map (·.1))/\fs.length<=1000/\H dx=some (.own a):=by
 obtain⟨d,z,ne,ob,mA,n,r,q⟩:=(show cX P w H h a (.ins C dx fs) from hok a _ e)
 exact⟨mA,⟨ob,n,ne⟩,r,q,z,d⟩
end
structure Cls (K:Ud)(C:Addr):Prop where
 pg:Zm K C Str.empty=true
 hd:Yd K C=true
 po:abg K C=true
 sa:Vw K (.ref C) "__setattr__" = some (some (.builtin "object.__setattr__"))
theorem Cls.get {K:Ud}{C:Addr}(c:Cls K C)(f:Ut):Zm K C f=true:=c.pg
def gk (K:Ud)(C:Addr)(f:Ut):Prop:=Vw K (.ref C) f=some none
theorem gk.taker {K:Ud}{C:Addr}{f:Ut}(n:gk K C f):aaA K C f=some none:=by
 unfold aaA
 rw[show Vw K (.ref C) f=some none from n]
 rfl
structure Meth (K:Ud)(C:Addr)(m:Ut)(f:Addr):Prop where
 at_:Vw K (.ref C) m=some (some (.ref f))
 fn:abi K (.ref f)=true
 kp:Wa K (.ref f)=true
section
variable {X:Cx}{ZY:EQ}{σ:St}{H:Hp}{s:TV}{a C dx:Addr}{fs:List (Ut × V)}{f:Ut}{v:V}{A:UW}{E:ET}
theorem Ak {b:Bool}{Q:ET}(I:Inv X ZY σ H s)(e:H a=some (.ins C dx fs))(c:Cls X.K C)(n:gk X.K C f)(l:fs.lookup f=some v)
  (h:∀ u s',Inv X ZY σ H s'->RelV v u->Q u s'):T7 (Ue X.prog X.w) A (getAttr (.ref a) f b) Q E s:=by
 obtain⟨mA,O,r,_,_,_⟩:=tV I.hok e
 obtain⟨u,hu,ru⟩:=rB.some_of (v:=v) (o:=mA f) (by rw[← l];exact r f)
 exact get_map I.kIn O (c.get f) c.hd n hu (vR ru) (h u _ (I.tok _) ru)
theorem rJ {m:Ut}{g:Addr}{pl:Sem Bool}{Q:Value × E4->TV->Prop}(I:Inv X ZY σ H s)(e:H a=some (.ins C dx fs))(c:Cls X.K C)(k:Meth X.K C m g)(l:fs.lookup m=none)
  (h:Q (.ref g,[.ref a]) s):T7 (Ue X.prog X.w) A (Zi (.ref a) m pl) Q E s:=by
 obtain⟨mA,O,r,_,_,_⟩:=tV I.hok e
 have hn:mA m=none:=rB.none_of (by rw[← l];exact r m)
 exact Hm I.kIn O (c.get m) k.at_ k.fn hn h
theorem Ao {y:V}{u:Value}{Q:Unit->TV->Prop}(I:Inv X ZY σ H s)(e:H a=some (.ins C dx fs))(c:Cls X.K C)(n:gk X.K C f)(hl:fs.length < 1000)(ry:RelV y u)
  (h:∀ s',Inv X ZY σ (upd H a (.ins C dx (rM f y fs))) s'->Q () s'):T7 (Ue X.prog X.w) A (setAttr (.ref a) f u) Q E s:=by
 obtain⟨mA,O,r,wi,_,ho⟩:=tV I.hok e
 have hz:(fs.map (·.1)).length<=sizeLine:=by rw[TJ,abB];lia
 refine Mw I.kIn O c.sa c.po n.taker c.hd wi hz fun h' O' sb=>h _ ?_
 have hd:∃ o,h'.get? dx=some o:=let ⟨o,_,_,e',_⟩:=O'.ns;⟨o,e'⟩
 refine I.write (x:=a) (e:=dx) (by rw[e];exact Xw) (.inr ho) (fun b q hb z=>(sb.2 b hb).trans z) hd ?_
 refine⟨by rw[aD O.ne];exact ho,?_,O.ne,O'.obj,_,O'.ns,fun g=>?_,fun g hg=>?_⟩
 ·have:=oH f y fs;lia
 ·show rB ((rM f y fs).lookup g) (if g=f then some u else mA g)
  rw[oZ]
  by_cases q:g=f
  ·rw[if_pos q,if_pos q];exact ry
  ·rw[if_neg q,if_neg q];exact r g
 ·by_cases q:g=f
  ·rw[q];exact (nQ f y fs).1
  ·refine (nQ f y fs).2 g (wi g fun z=>hg ?_)
   show (if g=f then some u else mA g)=none
   rw[if_neg q];exact z
theorem Inv.made (I:Inv X ZY σ H s):Inv X ZY σ (upd (upd H s.heap.objs.size (.own (s.heap.objs.size+1))) (s.heap.objs.size+1) (.ins C s.heap.objs.size []))
  {s with heap:=(s.heap.push WD).push (Xp C s.heap.objs.size) }:=by
 have e1:(s.heap.push WD).get? s.heap.objs.size=some WD:=T9 s.heap U
 have e2:((s.heap.push WD).push (Xp C s.heap.objs.size)).get? (s.heap.objs.size+1)=some (Xp C s.heap.objs.size):=by
  have:=T9 (s.heap.push WD) (o:=Xp C s.heap.objs.size) U
  rwa [Ve] at this
 have e3:(s.heap.push WD).Ns s.heap.objs.size (fun _=>none):=⟨WD,#[],_,e1,U,(fun e he=>absurd he (by simp)),fun _=>U⟩
 have I1:=I.laid (a:=s.heap.objs.size) (o:=.own (s.heap.objs.size+1)) (h':=s.heap.push WD) (t':=s.toks) (fun b u q=>TQ _ q) (T6 _) ⟨_,e1⟩
 refine I1.laid (a:=s.heap.objs.size+1) (o:=.ins C s.heap.objs.size []) (t':=s.toks) (fun b u q=>TQ _ q) (abk (Ve _ _)) ?_
 have ne:s.heap.objs.size≠s.heap.objs.size+1:=Um (Wd _)
 refine⟨by rw[aD ne,aa],U9 _,ne,e2,fun _=>none,(Heap.Ns1.of_empty e3).at fun o q=>TQ _ q,fun _=>Xw,fun y hy=>absurd U hy⟩
theorem Ei {prog:Uq}{w:U3}{env:Zz}{e:Expr}{f:Ut}{pos:Yg}{s:TV}{Q:ET}(hb:YS e f env (VD e env)=VD e env)
  (h:T7 (Ue prog w) A (VD e env) (fun o s₁=>T7 (Ue prog w) A (getAttr o f true) Q E s₁) E s):T7 (Ue prog w) A (VD (.Attribute e f pos) env) Q E s :=
 Attribute_any_ h (by rw[arm_eval_Attribute,hb])
end
def Rf (K:Ud)(ta:TE)(f:Ut):TE:=fun σ H Q=>ta σ H fun x H1=>∃ a C dx fs v,x = .ref a/\H1 a=some (.ins C dx fs)/\Cls K C/\gk K C f/\fs.lookup f=some v/\Q v H1
def Tp (K:Ud)(ta tv:TE)(f:Ut):TS:=fun D σ H=>tv σ H fun y H1=>ta σ H1 fun x H2=>∃ a C dx fs,x = .ref a/\H2 a=some (.ins C dx fs)/\Cls K C/\gk K C f/\fs.length < 1000 ∧
 D.nx σ (upd H2 a (.ins C dx (rM f y fs)))
section
variable {X:Cx}{o e value:Expr}{f:Ut}{pos pos' tpos:Yg}{ta tv:TE}
theorem Qw (he:PE X e ta)(hb:YS e f X.env (VD e X.env)=VD e X.env):PE X (.Attribute e f pos) (Rf X.K ta f):=by
 intro ZY s σ H Q I h
 refine Ei hb (thn (he ZY s σ H _ I h) fun u s1 ⟨x,H1,I1,rx,a,C,dx,fs,v,ex,ea,c,n,l,q⟩=>?_)
 subst ex
 obtain rfl:u=Uk a:=rx
 exact Ak I1 ea c n l fun u' s2 I2 ru=>⟨v,H1,I2,ru,q⟩
theorem jQ (ha:PE X o ta)(hv:PE X value tv)(hs:ZR value (some (.Attribute o f pos')) pos.line X.env=pure false):PS X (.Assign [.Attribute o f pos'] value pos) (Tp X.K ta tv f):=by
 intro ZY s σ H D I h
 refine abn (thn (hv ZY s σ H _ I h) fun u s1 ⟨y,H1,I1,ry,q⟩=>thn (ha ZY s1 σ H1 _ I1 q) fun ov s2 ⟨x,H2,I2,rx,a,C,dx,fs,ex,ea,c,n,l,q2⟩=>?_) hs
 subst ex
 obtain rfl:ov=Uk a:=rx
 exact Ao I2 ea c n l ry fun s3 I3=>⟨σ,_,I3,q2⟩
end
section
variable {X:Cx}{ZY:EQ}{σ:St}{H:Hp}{s:TV}{A:UW}{E:ET}{Q:ET}{c:Value}{b:Bool}
inductive Bj (K:Ud)(H:Hp):V->Value->Prop where
 | non:Bj K H .non (.type "NoneType")
 | bl (x:Bool):Bj K H (.bl x) (.type "bool")
 | int (i:Int):Bj K H (.int i) (.type "int")
 | str (x:Ut):Bj K H (.str x) (.type "str")
 | flt (x:UInt64):Bj K H (.flt x) (.type "float")
 | lst {a:Addr} {xs:List V} (e:H a=some (.lst xs)):Bj K H (.ref a) (.type "list")
 | frz {a:Addr} {o:WL} {xs:List V} (e:H a=some (.frz o (.lst xs))):Bj K H (.ref a) (.type "list")
 | tup {a:Addr} {xs:List V} (e:H a=some (.tup xs)):Bj K H (.ref a) (.type "tuple")
 | dK {a:Addr} {kvs:List (Key × V)} (e:H a=some (.dK kvs)):Bj K H (.ref a) (.type "dict")
 | dT {a:Addr} {kvs:List (List Key × V)} (e:H a=some (.dT kvs)):Bj K H (.ref a) (.type "dict")
 | ins {a C dx:Addr} {fs:List (Ut × V)} (e:H a=some (.ins C dx fs)) (cl:Cls K C) (ha:Vw K (.ref C) "__class__" = some (some (.builtin "object.__class__")))
   (hn:PySem.W.specialIn K (.builtin "object.__class__") "__get__" = some (some (.builtin "getset_descriptor.__get__"))) (htk:PySem.W.takesIn K (.builtin "object.__class__")=some true)
   (hm:PySem.W.mroIn K C (.type "object")=some true):Bj K H (.ref a) (.ref C)
theorem Ew {x:V}{u t:Value}(I:Inv X ZY σ H s)(rx:RelV x u)(ty:Bj X.K H x t)(e:PySem.W.kitOne X.K t c=some b)(h:∀ tk,Q (.bool b) { s with toks:=tk }) :
  T7 (Ue X.prog X.w) A (call (.builtin "isinstance") [u,c]) Q E s:=by
 cases ty with
 | non=>cases (show u=Vr from rx);exact Wk PySem.W.kitx_none I.kIn Xw e (fun z=>nomatch z) h
 | bl y=>cases (show u=aas y from rx);exact Wk PySem.W.kitx_bool I.kIn Xw e (fun z=>nomatch z) h
 | int i=>obtain⟨t,q⟩:=(show ∃ t,u=Xj i t from rx);cases q;exact Wk PySem.W.kitx_int I.kIn Xw e (fun z=>nomatch z) h
 | str y=>obtain⟨t,q⟩:=(show ∃ t,u=aaU y t from rx);cases q;exact Wk PySem.W.kitx_str I.kIn Xw e (fun z=>nomatch z) h
 | flt y=>obtain⟨t,q⟩:=(show ∃ t,u=Value.float y t from rx);cases q;exact Wk PySem.W.kitx_float I.kIn Xw e (fun z=>nomatch z) h
 | @lst a xs ea =>
  cases (show u=Uk a from rx)
  obtain⟨_,_,n,_,h1⟩:=(show cX X.prog X.w H s.heap a (.lst xs) from I.hok a _ ea)
  exact Wk PySem.W.kitx_list I.kIn ⟨_,h1,U⟩ e (fun z=>nomatch z) h
 | @frz a ob xs ea =>
  cases (show u=Uk a from rx)
  obtain⟨_,_,_,n,_,h1⟩:=(show cX X.prog X.w H s.heap a (.frz ob (.lst xs)) from I.hok a _ ea)
  exact Wk PySem.W.kitx_list I.kIn ⟨_,h1,U⟩ e (fun z=>nomatch z) h
 | @tup a xs ea =>
  cases (show u=Uk a from rx)
  obtain⟨_,_,_,p⟩:=(show cX X.prog X.w H s.heap a (.tup xs) from I.hok a _ ea)
  obtain⟨o,h1,h2,_⟩:=p
  exact Wk PySem.W.kitx_tuple I.kIn ⟨o,h1,h2⟩ e (fun z=>nomatch z) h
 | @dK a kvs ea =>
  cases (show u=Uk a from rx)
  obtain⟨_,_,vs,_,p⟩:=(show cX X.prog X.w H s.heap a (.dK kvs) from I.hok a _ ea)
  obtain⟨o,es,ep,h1,h2,_⟩:=p
  exact Wk PySem.W.kitx_dict I.kIn ⟨o,h1,h2.1⟩ e (fun z=>nomatch z) h
 | @dT a kvs ea =>
  cases (show u=Uk a from rx)
  obtain⟨_,_,xs,_,o,es,ep,h1,h2,_⟩:=(show cX X.prog X.w H s.heap a (.dT kvs) from I.hok a _ ea)
  exact Wk PySem.W.kitx_dict I.kIn ⟨o,h1,h2.1⟩ e (fun z=>nomatch z) h
 | @ins a C dx fs ea cl ha hn htk hm =>
  cases (show u=Uk a from rx)
  obtain⟨mA,O,_⟩:=tV I.hok ea
  obtain⟨od,J,_⟩:=O.look
  exact Wk (PySem.W.kitx_own (cl.get _) cl.hd ha hn htk hm) I.kIn J e (fun z=>nomatch z) h
end
structure dF (k:Nat)(A:UW):Prop where
 hd:A.handled=none
 dp:A.depth+3 * k+5 < recursionLimit
 un:A.units+16 * k+200 < cLine
theorem dF.mono {j k:Nat}{A:UW}(r:dF k A)(h:j<=k):dF j A:=⟨r.hd,by have:=r.dp;lia,by have:=r.un;lia⟩
theorem dF.deeper {k:Nat}{A:UW}(r:dF (k+1) A)(env:Zz):dF k (A.deeper env) :=
 ⟨r.hd,by have:=r.dp;show A.depth+1+3 * k+5 < _;lia,by have:=r.un;show A.units+3+16 * k+200 < _;lia⟩
theorem Af {A:UW} {C:Addr} {us:E4} {kw:EO}:(A.under (.builtin "type.__call__" ⟨.ref C::us,kw⟩)).depth=A.depth+1:=by
 first | rfl | simp [Around.under,Code.weight,Code.isCreation,Code.isGuard,Code.isCaller,Code.frames,Code.isFrame,guardIds]
theorem Ae {A:UW} {C:Addr} {us:E4} {kw:EO}:(A.under (.builtin "type.__call__" ⟨.ref C::us,kw⟩)).units=A.units+1:=by
 first | rfl | simp [Around.under,Code.cUnits,Code.frames,Code.isFrame]
theorem dF.make {k:Nat} {A:UW} (r:dF (k+1) A) (C:Addr) (us:E4) (kw:EO):dF k (A.under (.builtin "type.__call__" ⟨.ref C::us,kw⟩)) :=
 ⟨r.hd,by have:=r.dp;rw[Af];lia,by have:=r.un;rw[Ae];lia⟩
theorem dF.depth {k:Nat}{A:UW}(r:dF k A):A.depth < recursionLimit:=by have:=r.dp;lia
theorem dF.zB {k:Nat}{A:UW}(r:dF k A):A.units < cLine:=by have:=r.un;lia
def BK:TA:=fun _ H Q=>Q [] H
def ql (ta:TE)(tr:TA):TA:=fun σ H Q=>ta σ H fun x H1=>tr σ H1 fun xs H2=>Q (x::xs) H2
section
variable {X:Cx}{e:Expr}{es:E7}{te:TE}{t:TA}{pos:Yg}
theorem dM:PA X [] BK:=fun _ _ _ _ H Q I h=>aae ⟨[],H,I,.nil,h⟩
theorem aj (ha:PE X e te)(hr:PA X es t)(hs:Ur (e::es) X.env=(false,VD e X.env)::Ur es X.env:=by rfl):PA X (e::es) (ql te t):=by
 intro pos ZY s σ H Q I h
 rw[hs]
 show T7 _ _ (spliced ((false,VD e X.env)::Wt pos (Ur es X.env))) _ _ s
 refine Z6 (thn (ha ZY s σ H _ I h) fun u s1 ⟨x,H1,I1,r1,q1⟩=>?_)
 exact thn (hr pos ZY s1 σ H1 _ I1 q1) fun us s2 ⟨xs,H2,I2,r2,q2⟩=>⟨x::xs,H2,I2,.cons r1 r2,q2⟩
def Sx (t:TA):TE:=fun σ H Q=>t σ H fun xs H1=>xs.length<=sizeLine/\∀ p,H1 p=none->Q (.ref p) (upd H1 p (.tup xs))
def Tr (t:TA):TE:=fun σ H Q=>t σ H fun xs H1=>xs.length<=sizeLine/\∀ p,H1 p=none->Q (.ref p) (upd H1 p (.lst xs))
theorem bc {x1}(h:PA X es t):PE X (.Tuple es x1 pos) (Sx t):=by
 intro ZY s σ H Q I hq
 refine wpAny_Tuple_spliced (thn (h pos ZY s σ H _ I hq) fun us s1 ⟨xs,H1,I1,r,z,q⟩=>⟨by rw[← r.length];exact z,?_⟩)
 have hf:H1 s1.heap.objs.size=none:=I1.hok.fresh (T6 _)
 refine⟨.ref s1.heap.objs.size,upd H1 s1.heap.objs.size (.tup xs),I1.laid (t':=s1.toks) (fun b u e=>TQ _ e) (T6 _) ?_,U,q _ hf⟩
 exact⟨z,us,r,⟨_,T9 _ U,U,_,U⟩⟩
theorem bI (h:PA X es t):PE X (.List es pos) (Tr t):=by
 intro ZY s σ H Q I hq
 refine wpAny_List_spliced (thn (h pos ZY s σ H _ I hq) fun us s1 ⟨xs,H1,I1,r,z,q⟩=>⟨by rw[← r.length];exact z,?_⟩)
 have hf:H1 s1.heap.objs.size=none:=I1.hok.fresh (T6 _)
 refine⟨.ref s1.heap.objs.size,upd H1 s1.heap.objs.size (.lst xs),I1.laid (t':=s1.toks) (fun b u e=>TQ _ e) (T6 _) ?_,U,q _ hf⟩
 exact⟨z,us,0,r,T9 _ U⟩
end
abbrev Sp:=List V->Hp->VK->XK->Prop
abbrev CXT:=Fk->Hp->TV->XK->ET
structure GZ (P:Uq)(w:U3)(K:Ud)(mg:Ut->EW)(base:Va)(A:UW)(outer:Fk)(s:TV)(H:Hp):Prop where
 frames:A.frames=some outer
 mod:Mod K mg base
 bs:∀ b o,base.get? b=some o->s.heap.get? b=some o/\H b=none
 bsz:base.objs.size<=s.heap.objs.size
 qT:s.heap.FunFrames base outer
 frf:∀ b∈frs outer,H b=none
 hok:HOk P w H s.heap
 bare:aaf s.gens
def CE (outer:Fk)(P:Uq)(w:U3)(H:Hp)(s:TV)(Q:VK)(u:Value)(s':TV):Prop :=
 ∃ v H',s'.os=s.os/\aaf s'.gens/\Un (frs outer) [] H H' s.heap s'.heap/\HOk P w H' s'.heap/\RelV v u/\Q v H'
def CR (CX:CXT)(outer:Fk)(P:Uq)(w:U3)(H:Hp)(s:TV)(Q:VK)(E:XK)(r:Z3)(s':TV):Prop :=
 match r with
 | .ok (.ret u)=>CE outer P w H s Q u s'
 | .ok _=>False
 | .error e=>CX outer H s E e s'
structure aY (P:Uq)(w:U3)(K:Ud)(mg:Ut->EW)(base:Va)(CX:CXT)(k:Nat)(f:Addr)(fd:Vn)(ps:Fh)(sp:Sp):Prop where
 len:∀ vs H Q E,sp vs H Q E->vs.length=ps.length
 run:∀ (A:UW) (outer:Fk) (s:TV) (H:Hp) (args:Args) (us:E4) (vs:List V) (Q:VK) (E:XK),dF k A->GZ P w K mg base A outer s H->aax s fd args (ps.zip us)->Vals vs us->sp vs H Q E →
  Vz (Ue P w) A (.call (.ref f) args) (CR CX outer P w H s Q E) s
theorem aY.mono {P:Uq}{w:U3}{K:Ud}{mg:Ut->EW}{base:Va}{CX:CXT}{j k:Nat}{f:Addr}{fd:Vn}{ps:Fh}{sp:Sp}(F:aY P w K mg base CX j f fd ps sp)(h:j<=k) :
  aY P w K mg base CX k f fd ps sp:=⟨F.len,fun A outer s H args us vs Q E hr=>F.run A outer s H args us vs Q E (hr.mono h)⟩
theorem GZ.make {P:Uq}{w:U3}{K:Ud}{mg:Ut->EW}{base:Va}{A:UW}{outer:Fk}{s:TV}{H:Hp}(e:GZ P w K mg base A outer s H)(C:Addr)(us:E4)(kw:EO) :
  GZ P w K mg base (A.under (.builtin "type.__call__" ⟨.ref C::us,kw⟩)) outer s H:=⟨by first | exact e.frames | (simpa [Around.under,Code.envs,Code.isFrame,pushEnvs] using e.frames),e.mod,e.bs,e.bsz,e.qT,e.frf,e.hok,e.bare⟩
section
variable {X:Cx}{ZY:EQ}{σ:St}{H:Hp}{s s':TV}
theorem Inv.env0 (I:Inv X ZY σ H s):GZ X.prog X.w X.K X.mg X.base X.A X.stack s H :=
 ⟨I.ok.frames,I.ok.mod,I.bs,UL I.ok.bsz I.sz,I.stack,I.sG,I.hok,I.bare⟩
theorem Inv.after {Q:VK}{u:Value}(I:Inv X ZY σ H s)(h:CE X.stack X.prog X.w H s Q u s'):EP X ZY σ Q u s':=by
 obtain⟨v,H',os,bare,un,hok,r,q⟩:=h
 obtain⟨hh,g,d,t,os'⟩:=s'
 obtain rfl:os'=s.os:=os
 exact⟨v,H',I.call (h':=hh) (g':=g) (d':=d) (t':=t) (ch:=[]) un hok bare (fun b z=>absurd z (by simp)),r,q⟩
end
def GK (sp:Sp)(dvs:List V)(E:XK)(t:TA):TE:=fun σ H Q=>t σ H fun vs H1=>sp (vs++dvs) H1 Q E
def EY (C:Addr)(m:Ut)(sp:Sp)(dvs:List V)(E:XK)(ta:TE)(t:TA):TE:=fun σ H Q=>ta σ H fun x H1=>∃ a dx fs,x = .ref a/\H1 a=some (.ins C dx fs)/\fs.lookup m=none ∧
 t σ H1 fun vs H2=>sp (x::(vs++dvs)) H2 Q E
def Ih (C:Addr)(sp:Sp)(dvs:List V)(E:XK)(t:TA):TE:=fun σ H Q=>t σ H fun vs H1=>∀ x dx,H1 x=none->H1 dx=none->dx≠x →
 sp (.ref x::(vs++dvs)) (upd (upd H1 dx (.own x)) x (.ins C dx [])) (fun v H2=>v = .non/\Q (.ref x) H2) E
def Binds (K:Ud)(fd:Vn)(ps:Fh)(ds:E4):Prop :=
 ∀ (s:TV) (us:E4),K.In s.heap->(us++ds).length=ps.length->aax s fd ⟨us,[]⟩ (ps.zip (us++ds))
theorem Binds.all {K:Ud}{fd:Vn}{ps:Fh}(h:∀ us:E4,us.length=ps.length->Ym fd ⟨us,[]⟩=pure (ps.zip us)):Binds K fd ps []:=fun s us _ hl=>by
 rw[WY] at hl ⊢
 exact .of_eq (h us hl)
def Passes (CX:CXT)(X:Cx)(E:XK):Prop:=∀ (ZY:EQ) (σ:St) (H:Hp) (s:TV) (e:Value) (s':TV),Inv X ZY σ H s->CX X.stack H s E e s'->X.xe e s'
section
variable {X:Cx}{CX:CXT}{k:Nat}{f C:Addr}{fd:Vn}{ps:Fh}{sp:Sp}{dvs:List V}{ds:E4}{E:XK}{x m:Ut}{p pos apos:Yg}{e o:Expr}{es:E7}{ta:TE}{t:TA}
theorem zr {ZY:EQ}{σ:St}{H:Hp}{s:TV}{Q:VK}{us:E4}{vs:List V}(F:aY X.prog X.w X.K X.mg X.base CX k f fd ps sp)(hr:dF k X.A)(hb:Binds X.K fd ps ds)(hd:Vals dvs ds)(hx:Passes CX X E)
  (I:Inv X ZY σ H s) (r:Vals vs us) (h:sp (vs++dvs) H Q E):T7 (Ue X.prog X.w) X.A (call (.ref f) us) (EP X ZY σ Q) X.xe s:=by
 have r2:Vals (vs++dvs) (us++ds):=r.append hd
 have hl:(us++ds).length=ps.length:=by rw[← r2.length];exact F.len _ _ _ _ h
 refine Yi (Xb (F.run X.A X.stack s H ⟨us,[]⟩ (us++ds) (vs++dvs) Q E hr I.env0 (hb s us I.kIn hl) r2 h) fun r s' hq=>?_)
 cases r with
 | error e=>exact hx ZY σ H s e s' I hq
 | ok fl =>
  cases fl with
  | ret u=>exact I.after hq
  | next=>exact Vc hq
  | brk=>exact Vc hq
  | cont=>exact Vc hq
theorem FJ (F:aY X.prog X.w X.K X.mg X.base CX k f fd ps sp)(hr:dF k X.A)(hg:Gl X x)(hm:X.mg x=some (.ref f))(hk:Wa X.K (.ref f)=true)(hb:Binds X.K fd ps ds)(hd:Vals dvs ds)(hx:Passes CX X E)
  (ha:PA X (e::es) t) (hdb:(x == ("__debug__" : Ut))=false:=by decide) (he:Ur (e::es) X.env=(false,VD e X.env)::Ur es X.env:=by rfl) (hpl:(Wt pos (Ur es X.env)).any (·.1)=false:=by rfl) :
  PE X (.Call (.Name x p) (e::es) [] pos) (GK sp dvs E t):=by
 intro ZY s σ H Q I h
 refine VR (iT I hg hm ?_ hdb)
 refine Y8 (h₀:=X.base) I.ok.mod.kin hk (thn (ha pos ZY s σ H _ I h) fun us s1 ⟨vs,H1,I1,r,q⟩=>⟨I1.kIn,?_⟩) he hpl
 exact zr F hr hb hd hx I1 r q
theorem DY {pl:Sem Bool}(he:PE X o ta)(c:Cls X.K C)(hm:Meth X.K C m f)(F:aY X.prog X.w X.K X.mg X.base CX k f fd ps sp)(hr:dF k X.A)(hb:Binds X.K fd ps ds)(hd:Vals dvs ds)(hx:Passes CX X E)(ha:PA X (e::es) t)
  (hst:Ur (e::es) X.env=(false,VD e X.env)::Ur es X.env:=by rfl) (hpl:(Wt pos (Ur es X.env)).any (·.1)=false:=by rfl)
  (ht:VD (.Call (.Attribute o m apos) (e::es) [] pos) X.env=(do
   let ov ← VD o X.env
   YB apos.atName
   let (f,first) ← YZ [ov] (Zi ov m pl)
   aaM pos f first (Wt pos (Ur (e::es) X.env)) (Z1 pos (Yk [] X.env))):=by rfl) :
  PE X (.Call (.Attribute o m apos) (e::es) [] pos) (EY C m sp dvs E ta t):=by
 intro ZY s σ H Q I h
 refine Zf (pl:=pl) (thn (he ZY s σ H _ I h) fun u s1 ⟨x,H1,I1,rx,a,dx,fs,ex,ea,l,q⟩=>?_) ht
 subst ex
 obtain rfl:u=Uk a:=rx
 refine rJ I1 ea c hm l ?_
 refine Y8 (first:=[.ref a]) (h₀:=X.base) I.ok.mod.kin hm.kp (thn (ha pos ZY s1 σ H1 _ I1 q) fun us s2 ⟨vs,H2,I2,r,q2⟩=>⟨I2.kIn,?_⟩) hst hpl
 exact zr (us:=.ref a::us) (vs:=.ref a::vs) F hr hb hd hx I2 (.cons U r) q2
theorem Hi {pl:Sem Bool}(he:PE X o ta)(c:Cls X.K C)(hm:Meth X.K C m f)(F:aY X.prog X.w X.K X.mg X.base CX k f fd ps sp)(hr:dF k X.A)(hb:Binds X.K fd ps ds)(hd:Vals dvs ds)(hx:Passes CX X E)
  (ht:VD (.Call (.Attribute o m apos) [] [] pos) X.env=(do
   let ov ← VD o X.env
   YB apos.atName
   let (f,first) ← YZ [ov] (Zi ov m pl)
   aaM pos f first (Wt pos (Ur [] X.env)) (Z1 pos (Yk [] X.env))):=by rfl) :
  PE X (.Call (.Attribute o m apos) [] [] pos) (EY C m sp dvs E ta BK):=by
 intro ZY s σ H Q I h
 refine Zf (pl:=pl) (thn (he ZY s σ H _ I h) fun u s1 ⟨x,H1,I1,rx,a,dx,fs,ex,ea,l,q⟩=>?_) ht
 subst ex
 obtain rfl:u=Uk a:=rx
 refine rJ I1 ea c hm l ?_
 exact aaY (first:=[.ref a]) I1.kIn hm.kp (zr (us:=[.ref a]) (vs:=[.ref a]) F hr hb hd hx I1 (.cons U .nil) q)
structure Mk (K:Ud)(C f:Addr):Prop where
 makes:abH K C=true
 init:Vw K (.ref C) "__init__" = some (some (.ref f))
 fn:abi K (.ref f)=true
 kp:Wa K (.ref C)=true
theorem zM {ZY:EQ}{σ:St}{H:Hp}{s:TV}{Q:VK}{us:E4}{vs:List V}(M:Mk X.K C f)(F:aY X.prog X.w X.K X.mg X.base CX k f fd ps sp)(hr:dF (k+1) X.A)(hb:Binds X.K fd ps ds)(hd:Vals dvs ds)
  (hx:Passes CX X E) (I:Inv X ZY σ H s) (r:Vals vs us)
  (h:∀ x dx,H x=none->H dx=none->dx≠x->sp (.ref x::(vs++dvs)) (upd (upd H dx (.own x)) x (.ins C dx [])) (fun v H2=>v = .non/\Q (.ref x) H2) E) :
  T7 (Ue X.prog X.w) X.A (call (.ref C) us) (EP X ZY σ Q) X.xe s:=by
 have hq:=h (s.heap.objs.size+1) s.heap.objs.size (I.hok.fresh (We _)) (I.hok.fresh (T6 _)) (Um (Wd _))
 have I2:=Inv.made (C:=C) I
 have r2:Vals (V.ref (s.heap.objs.size+1)::(vs++dvs)) (Uk (s.heap.objs.size+1)::(us++ds)):=.cons U (r.append hd)
 have hl:(Uk (s.heap.objs.size+1)::us++ds).length=ps.length:=by
  have e:=r2.length
  rw[F.len _ _ _ _ hq] at e
  exact e.symm
 refine Yi (HN (f:=f) I.kIn M.makes M.init (beq_iff_eq.mp M.fn) (Xb (F.run _ X.stack _ _ ⟨Uk (s.heap.objs.size+1)::us,[]⟩ (Uk (s.heap.objs.size+1)::(us++ds)) _ _ E (hr.make C us [])
  (I2.env0.make C us []) (hb _ (Uk (s.heap.objs.size+1)::us) I2.kIn hl) r2 hq) fun r s' hq'=>?_))
 cases r with
 | error e=>exact hx ZY σ _ _ e s' I2 hq'
 | ok fl =>
  cases fl with
  | ret u =>
   obtain⟨v,H',I3,rv,ev,q3⟩:=I2.after hq'
   subst ev
   exact⟨rv,⟨V.ref (s.heap.objs.size+1),H',I3,U,q3⟩⟩
  | next=>exact Vc hq'
  | brk=>exact Vc hq'
  | cont=>exact Vc hq'
theorem Lx (M:Mk X.K C f)(F:aY X.prog X.w X.K X.mg X.base CX k f fd ps sp)(hr:dF (k+1) X.A)(hg:Gl X x)(hm:X.mg x=some (.ref C))(hb:Binds X.K fd ps ds)(hd:Vals dvs ds)(hx:Passes CX X E)
  (ha:PA X (e::es) t) (hdb:(x == ("__debug__" : Ut))=false:=by decide) (he:Ur (e::es) X.env=(false,VD e X.env)::Ur es X.env:=by rfl) (hpl:(Wt pos (Ur es X.env)).any (·.1)=false:=by rfl) :
  PE X (.Call (.Name x p) (e::es) [] pos) (Ih C sp dvs E t):=by
 intro ZY s σ H Q I h
 refine VR (iT I hg hm ?_ hdb)
 refine Y8 (h₀:=X.base) I.ok.mod.kin M.kp (thn (ha pos ZY s σ H _ I h) fun us s1 ⟨vs,H1,I1,r,q⟩=>⟨I1.kIn,?_⟩) he hpl
 exact zM M F hr hb hd hx I1 r q
theorem Jf (M:Mk X.K C f)(F:aY X.prog X.w X.K X.mg X.base CX k f fd ps sp)(hr:dF (k+1) X.A)(hg:Gl X x)(hm:X.mg x=some (.ref C))(hb:Binds X.K fd ps ds)(hd:Vals dvs ds)(hx:Passes CX X E)
  (hdb:(x == ("__debug__" : Ut))=false:=by decide):PE X (.Call (.Name x p) [] [] pos) (Ih C sp dvs E BK):=by
 intro ZY s σ H Q I h
 refine VR (iT I hg hm ?_ hdb)
 exact aaY I.kIn M.kp (zM (us:=[]) M F hr hb hd hx I .nil h)
end
section
variable {X:Cx}{CX:CXT}{k:Nat}{f C:Addr}{fd:Vn}{ps ks:Fh}{sp:Sp}{E:XK}{x m:Ut}{p pos apos kpos:Yg}{e o:Expr}{es:E7}{kws:EX}{te ta:TE}{t tk:TA}{nm:Option Ut}
variable {g:E4->E4->E4}{gV:List V->List V->List V}
end
structure aB (N P:Fh)(sc:Wo):Prop where
 kind:sc.kind = .function
 co:sc.isCoroutine=false
 gen:sc.isGenerator=false
 nd:N.Nodup
 pre:N.take P.length=P
 par:∀ x∈P,sc.names.lookup x=some .local∨sc.names.lookup x=some .cell
 nofree:∀ y∈sc.names,y.2≠.free
theorem wy {kindOf:Ut->Option Z4}{x:Ut}:∀ {binds:EO} {m:Ut->EW},(∀ v,(x,v) ∉ binds)->bindL kindOf binds m x=m x
 | [],_,_=>rfl
 | (n,v)::r,m,h=>by
  unfold bindL
  rw[wy fun w hw=>h w (Ug _ hw)]
  split
  ·have:x≠n:=by rintro rfl;exact h v Uc
   simp [this]
  ·rfl
theorem wg {kindOf:Ut->Option Z4}{x:Ut}:∀ {binds:EO} {m:Ut->EW},(∀ v,(x,v) ∉ binds)->bindC kindOf binds m x=m x
 | [],_,_=>rfl
 | (n,v)::r,m,h=>by
  unfold bindC
  rw[wg fun w hw=>h w (Ug _ hw)]
  split
  ·rfl
  ·have:x≠n:=by rintro rfl;exact h v Uc
   simp [this]
theorem vo {kindOf:Ut->Option Z4}{x:Ut}{v:Value}:∀ {P:Fh} {vs:E4} {i:Nat} {m:Ut->EW},P.Nodup->P[i]? = some x->vs[i]? = some v->kindOf x=some .local →
  bindL kindOf (P.zip vs) m x=some v
 | [],_,_,_,_,h,_,_=>by simp at h
 | _::_,[],_,_,_,_,h,_=>by simp at h
 | p::P,w::vs,0,m,nd,h1,h2,hk=>by
  simp at h1 h2;subst h1;subst h2
  show bindL kindOf ((p,w)::P.zip vs) m p=_
  unfold bindL
  rw[wy fun v hv=>(List.nodup_cons.mp nd).1 (aaD hv).1,if_pos hk]
  simp
 | p::P,w::vs,i+1,m,nd,h1,h2,hk=>by
  show bindL kindOf ((p,w)::P.zip vs) m x=_
  unfold bindL
  exact vo (i:=i) (List.nodup_cons.mp nd).2 (by simpa using h1) (by simpa using h2) hk
theorem vq {kindOf:Ut->Option Z4}{x:Ut}{v:Value}:∀ {P:Fh} {vs:E4} {i:Nat} {m:Ut->EW},P.Nodup->P[i]? = some x->vs[i]? = some v->kindOf x≠some .local →
  bindC kindOf (P.zip vs) m x=some v
 | [],_,_,_,_,h,_,_=>by simp at h
 | _::_,[],_,_,_,_,h,_=>by simp at h
 | p::P,w::vs,0,m,nd,h1,h2,hk=>by
  simp at h1 h2;subst h1;subst h2
  show bindC kindOf ((p,w)::P.zip vs) m p=_
  unfold bindC
  rw[wg fun v hv=>(List.nodup_cons.mp nd).1 (aaD hv).1,if_neg hk]
  simp
 | p::P,w::vs,i+1,m,nd,h1,h2,hk=>by
  show bindC kindOf ((p,w)::P.zip vs) m x=_
  unfold bindC
  exact vq (i:=i) (List.nodup_cons.mp nd).2 (by simpa using h1) (by simpa using h2) hk
def start (N:Fh)(vs:List V):St:=vs.map some++Uy (N.length - vs.length) none
def wA (CX:CXT)(P:Uq)(w:U3)(K:Ud)(mg:Ut->EW)(base:Va)(N:Fh)(qual:Ut)(scope:Wo)(f:Addr)(cd:Value)(A:UW)(outer:Fk)(s:TV)(H:Hp)(E:XK):Cx where
 prog:=P
 w:=w
 K:=K
 mg:=mg
 base:=base
 A:=A.deeper (envOfC qual scope s.heap.objs.size f cd)
 N:=N
 s₀:=s
 H₀:=H
 env:=envOfC qual scope s.heap.objs.size f cd
 outer:=outer
 stack:=envOfC qual scope s.heap.objs.size f cd::outer
 ex:=[]
 calm:=true
 fn:=fun _=>true
 pn:=[]
 xe:=fun e s'=>T7 (Ue P w) (A.deeper (envOfC qual scope s.heap.objs.size f cd)) (leaving (envOfC qual scope s.heap.objs.size f cd) e) (fun _ s''=>CX outer H s E e s'') (fun e' s''=>CX outer H s E e' s'') s'
theorem zy {sc:Wo}{n:Nat}{x:Ut}(h:sc.names.lookup x=some .cell):∃ c,(aam n sc.names []).lookup x=some c:=by
 have q:=PySem.W.cellsFrom_some sc.names n [] (.inl h)
 exact Option.isSome_iff_exists.mp q
theorem uV {CX:CXT}{P:Uq}{w:U3}{K:Ud}{mg:Ut->EW}{base:Va}{N ps:Fh}{qual:Ut}{scope:Wo}{f:Addr}{cd:Value}{A:UW}{outer:Fk}{s s1:TV}{H:Hp}{E:XK}{us:E4}{vs:List V}
  (S:aB N ps scope) (hd:A.handled=none) (e0:GZ P w K mg base A outer s H) (hl:vs.length=ps.length) (r:Vals vs us)
  (x:InCallC s s.heap.objs.size (bindL (envOfC qual scope s.heap.objs.size f cd).kindOf (ps.zip us) fun _=>none) (aam (s.heap.objs.size+1) scope.names []) (bindC (envOfC qual scope s.heap.objs.size f cd).kindOf (ps.zip us) fun _=>none) s1) :
  Inv (wA CX P w K mg base N qual scope f cd A outer s H E) [] (start N vs) H s1:=by
 have hpl:ps.length<=N.length:=by have:=congrArg aaP S.pre;rw[Uo] at this;lia
 obtain⟨h1,tk,rfl,hk⟩:=x.done
 have noA:∀ b:Addr,b ∉ (wA CX P w K mg base N qual scope f cd A outer s H E).ex:=fun b z=>absurd (show b∈([]:E6) from z) (by simp)
 refine⟨⟨e0.mod,S.kind,U,U,T6 _,fun y z c h1 h2=>?_,fun y hy=>?_,fun y c _ h=>?_,fun _=>hd,Around.frames_deeper e0.frames,.inr ⟨U,U⟩,fun b z=>absurd z (noA b),e0.bs,e0.bsz,fun b _ _=>noA b,fun b z=>absurd z (noA b),e0.qT,e0.frf⟩,
  rfl,e0.bare,Un.kept hk,⟨_,x.toInCall.ns,fun i y v h1 h2 h3=>?_⟩,fun y c h=>⟨_,x.cell y c h⟩,e0.hok.fresh (T6 _),fun y c h=>?_,fun p hp=>absurd (show p∈([]:EQ) from hp) (by simp),e0.hok.kept hk,?_⟩
 ·exact name_of_addr x.apart (U8 h1) (U8 h2)
 ·have hy:scope.names.lookup y=some .cell∨scope.names.lookup y=some .free:=hy
  rcases hy with hy | hy
  ·exact zy hy
  ·exact absurd U (S.nofree _ (U8 hy))
 ·exact WR (x.above y c (U8 h))
 ·have hi:i < vs.length:=by
   unfold start at h2
   by_cases hi:i < vs.length
   ·exact hi
   ·rw[Xl (by simpa using hi)] at h2
    rw[XN] at h2
    split at h2 <;> cases h2
  have ha:vs[i]? = some v:=by
   unfold start at h2
   rw[Z8 (by simpa using hi),Ux] at h2
   cases e:vs[i]? with
   | none=>rw[e] at h2;cases h2
   | some a=>rw[e] at h2;cases h2;rfl
  obtain⟨u,hu,rv⟩:=r.get ha
  have hp:ps[i]? = some y:=by
   rw[← S.pre,List.getElem?_take_of_lt (by lia)];exact h1
  have ndP:ps.Nodup:=by rw[← S.pre];exact S.nd.sublist (List.take_sublist _ _)
  refine⟨u,rv,?_⟩
  rcases S.par y (UJ hp) with k | k
  ·exact .inl ⟨k,vo ndP hp hu k⟩
  ·obtain⟨c,e⟩:=zy (n:=s.heap.objs.size+1) k
   refine .inr ⟨.inl k,c,e,?_⟩
   have q:=x.cell y c e
   rw[vq ndP hp hu (by show scope.names.lookup y≠_;rw[k];decide)] at q
   exact q
 ·exact e0.hok.fresh (WR (x.above y c (U8 h)))
 ·unfold start
  show _=N.length
  rw[Ui,TJ,Wf]
  lia
theorem Lj {CX:CXT}{P:Uq}{w:U3}{K:Ud}{mg:Ut->EW}{base:Va}{k:Nat}{f:Addr}{name qual:Ut}{params:aaV}{body:E8}{scope:Wo}{dV kV doc pm cdv ct oc:Value}{an od:EZ}
  {osl:Array (EW)} {N ps:Fh} {sp:Sp} (lk:K.lookup f=some ⟨oc,od,.func (Xq name qual params body scope dV kV doc pm an cdv ct),osl⟩) (hcd:Yt K cdv qual=true) (S:aB N ps scope)
  (len:∀ vs H Q E,sp vs H Q E->vs.length=ps.length)
  (hbody:∀ (A:UW) (outer:Fk) (s:TV) (H:Hp) (vs:List V) (Q:VK) (E:XK),dF k (A.deeper (envOfC qual scope s.heap.objs.size f cdv))->sp vs H Q E →
   ∃ t,PSs (wA CX P w K mg base N qual scope f cdv A outer s H E) body t/\t { nx:=fun _ H'=>Q .non H',rt:=Q } (start N vs) H) :
  aY P w K mg base CX (k+1) f (Xq name qual params body scope dV kV doc pm an cdv ct) ps sp:=by
 refine⟨len,fun A outer s H args us vs Q E hr e0 hb r hsp=>?_⟩
 have hl:=len _ _ _ _ hsp
 have KX:K.In s.heap:=e0.mod.kin.keeps fun b o e=>(e0.bs b o e).1
 have lim:s.heap.NoLimit:=e0.mod.nolimit.keeps fun b o e=>(e0.bs b o e).1
 have hkind:∀ y∈ps.zip us,scope.names.lookup y.1=some .local∨(scope.names.lookup y.1=some .cell/\((aam (s.heap.objs.size+1) scope.names []).lookup y.1).isSome=true):=fun⟨n,v⟩ hy=>by
  rcases S.par n (aaD hy).1 with q | q
  ·exact .inl q
  ·exact .inr ⟨q,PySem.W.cellsFrom_some _ _ _ (.inl q)⟩
 refine codeAny_call_function hr.depth (KX _ _ lk) U S.co S.gen U (PySem.W.codeRec_of KX hcd) (hb _ _ _ _ ?_)
 refine wpAny_newFunctionEnv_cells S.kind hkind fun env he s1 x=>?_
 subst he
 refine⟨lim.keeps x.toInCall.keep,codeAny_func ?_⟩
 obtain⟨t,ht,hq⟩:=hbody A outer s H vs Q E (hr.deeper _) hsp
 have I:Inv (wA CX P w K mg base N qual scope f cdv A outer s H E) [] (start N vs) H s1:=uV S hr.hd e0 hl r x
 refine Vd (ht [] s1 (start N vs) H _ I hq) (fun fl s' hs=>?_) fun e s' hs=>hs
 have fin:∀ {σ':St} {H':Hp} {v:V} {u:Value},Inv (wA CX P w K mg base N qual scope f cdv A outer s H E) [] σ' H' s'->RelV v u->Q v H'->CE outer P w H s Q u s' :=
  fun {σ' H' v u} J rv q=>⟨v,H',J.os,J.bare,J.base,J.hok,rv,q⟩
 cases fl with
 | ret u =>
  obtain⟨v,σ',H',J,rv,q⟩:=hs
  exact fin J rv q
 | next =>
  obtain⟨σ',H',J,q⟩:=hs
  exact fin (v:=V.non) (u:=Vr) J U q
 | brk =>
  obtain⟨_,_,_,q⟩:=hs
  exact Vc q
 | cont =>
  obtain⟨_,_,_,q⟩:=hs
  exact Vc q
section
variable {X:Cx}{x:Ut}{p pos:Yg}{e:Expr}{es:E7}{t:TA}{id T:String}{r:List V->Hp->VK->Prop}
def tCB (r:List V->Hp->VK->Prop)(t:TA):TE:=fun σ H Q=>t σ H fun vs H1=>r vs H1 Q
theorem aJ (hc:fZ X (.builtin id) r) (hg:Gl X x) (hm:X.mg x=none) (hv:Vi x=some (.builtin id)) (ha:PA X (e::es) t) (hn:x≠"__name__":=by decide) (hdb:(x == ("__debug__" : Ut))=false:=by decide)
  (he:Ur (e::es) X.env=(false,VD e X.env)::Ur es X.env:=by rfl) (hpl:(Wt pos (Ur es X.env)).any (·.1)=false:=by rfl):PE X (.Call (.Name x p) (e::es) [] pos) (tCB r t):=by
 intro ZY s σ H Q I h
 refine VR (ig I hg hm hv ?_ hn hdb)
 exact abu (thn (ha pos ZY s σ H _ I h) fun us s1 ⟨vs,H1,I1,r1,q1⟩=>hc ZY s1 σ H1 vs us Q I1 r1 q1) he hpl
theorem bf (hc:fZ X (.type T) r) (hg:Gl X x) (hm:X.mg x=none) (hv:Vi x=some (.type T)) (ha:PA X (e::es) t) (hn:x≠"__name__":=by decide) (hdb:(x == ("__debug__" : Ut))=false:=by decide)
  (he:Ur (e::es) X.env=(false,VD e X.env)::Ur es X.env:=by rfl) (hpl:(Wt pos (Ur es X.env)).any (·.1)=false:=by rfl):PE X (.Call (.Name x p) (e::es) [] pos) (tCB r t):=by
 intro ZY s σ H Q I h
 refine VR (ig I hg hm hv ?_ hn hdb)
 exact V4 (thn (ha pos ZY s σ H _ I h) fun us s1 ⟨vs,H1,I1,r1,q1⟩=>hc ZY s1 σ H1 vs us Q I1 r1 q1) he hpl
end
end L2
namespace HT
open PySem PyProof.Rows
section
open PySem.SeqAt
open PySem.AutoSeq1 (wpAny_loadPart')
open PySem.MeetsSeq PySem.MeetsSeq2 PySem.MeetsSeq3
end
section
variable {prog:Uq}{w:U3}{A:UW}{E:ET}{s:TV}
theorem Mx {t b:Addr}{vs ws:E4}{Q:ET}(ht:IsTup s.heap t vs.toArray)(hb:IsTup s.heap b ws.toArray)(hv:vs≠[])
  (h1:ws=[]->Q (.ref t) s) (h2:ws≠[]->Q (.ref s.heap.objs.size) { s with heap:=s.heap.push { cls:=.type "tuple",data:=.seq (vs++ws).toArray } })
  (hsz:vs.length+ws.length<=sizeLine):T7 (Ue prog w) A (YQ .Add (.ref t) (.ref b)) Q E s:=by
 obtain⟨⟨cls,dd,data,sl⟩,ho,hc,n,hd⟩:=id ht
 obtain⟨⟨cls2,dd2,data2,sl2⟩,ho2,hc2,n2,hd2⟩:=id hb
 simp only at hc hd hc2 hd2
 subst hc hd hc2 hd2
 have e:vs.toArray++ws.toArray=(vs++ws).toArray:=by simp
 by_cases hw:ws=[]
 ·exact concat_meets ⟨_,ho,U⟩ ⟨_,ho2,U⟩ abq seq_tuple_add aat aan (aah _ _)
   (tuple_addW1 t b vs.toArray ws.toArray n n2 dd dd2 sl sl2 (by simpa using hv) (by simp [hw])) ⟨ho,ho2,h1 hw⟩
 ·refine concat_meets ⟨_,ho,U⟩ ⟨_,ho2,U⟩ abq seq_tuple_add aat aan (aah _ _)
   (tuple_addW2 t b vs.toArray ws.toArray n n2 dd dd2 sl sl2 (by simpa using hv) (by simpa using hw) (by rw[Ul,Ul];exact hsz)) ⟨ho,ho2,?_⟩
  rw[e]
  exact h2 hw
def sIx (n d:Nat):E5->Nat
 | none=>d
 | some v=>if v < 0 then (v+(n:Int)).toNat else min v.toNat n
theorem Qd (n d:Nat)(hd:d<=n)(o:E5):sIx n d o<=n:=by
 cases o with
 | none=>exact hd
 | some v =>
  show (if v < 0 then (v+(n:Int)).toNat else min v.toNat n)<=n
  by_cases hv:v < 0
  ·rw[if_pos hv];lia
  ·rw[if_neg hv];exact Nat.min_le_right _ _
theorem Dr (v:Int)(n d:Nat):(if v < 0 then max (v+(n:Int)) 0 else min v (n:Int))=((sIx n d (some v):Nat):Int):=by
 show (if v < 0 then max (v+(n:Int)) 0 else min v (n:Int))=(((if v < 0 then (v+(n:Int)).toNat else min v.toNat n):Nat):Int)
 by_cases hv:v < 0
 ·simp only[if_pos hv];lia
 ·simp only[if_neg hv];lia
theorem Bm (lo hi:E5)(n:Nat):Z9 lo hi 1 (n:Int)=(((sIx n 0 lo:Nat):Int),((sIx n n hi:Nat):Int)):=by
 have h1:¬ ((1:Int) < 0):=by lia
 unfold Z9
 simp only[h1,if_false]
 refine Prod.ext ?_ ?_
 ·cases lo with
  | none=>rfl
  | some v=>exact Dr v n 0
 ·cases hi with
  | none=>rfl
  | some v=>exact Dr v n n
theorem Be (i j:Nat):YH (i:Int) (j:Int) 1=j - i:=by
 unfold YH
 have h1:(1:Int) > 0:=by lia
 simp only[h1,if_true,Int.ediv_one]
 split <;> lia
theorem qR {v:Value}{o:E5}{Q:E5->TV->Prop}(p:abx v o)(h:Q o s):T7 (Ue prog w) A (Builtin.Slice.slicePartIndex v) Q E s:=by
 cases p with
 | none=>exact slicePart_none h
 | int i t=>exact slicePart_int h
theorem mW {sl:Addr}{vl vu:Value}{lo hi:E5}{n:Nat}{Q:Int × Int × Nat->TV->Prop}(hs:s.heap.IsSliceOf sl vl vu .none)(pl:abx vl lo)(pu:abx vu hi)
  (h:Q (((sIx n 0 lo:Nat):Int),1,sIx n n hi - sIx n 0 lo) s):T7 (Ue prog w) A (Builtin.Slice.sliceApplied (.ref sl) (pure (n:Int))) Q E s:=by
 obtain⟨os,hos,hcs,hds⟩:=id hs
 unfold Builtin.Slice.sliceApplied Builtin.Slice.sliceFields
 refine TF (TF (Vo hos hds (x:=vl) U (TF (Vo hos hds (x:=vu) U (TF (Vo hos hds (x:=.none) U (TX ?_)))))))
 refine TF (slicePart_none ?_)
 show T7 _ _ (if ((1:Int) == 0)=true then _ else _) _ _ s
 rw[if_neg (by decide)]
 refine TF (qR pl (TF (qR pu (TF (TX ?_)))))
 show T7 _ _ (match Z9 lo hi 1 (n:Int) with | (lo,hi)=>pure (lo,(1:Int),YH lo hi 1)) _ _ s
 rw[Bm lo hi n]
 show T7 _ _ (pure (((sIx n 0 lo:Nat):Int),(1:Int),YH ((sIx n 0 lo:Nat):Int) ((sIx n n hi:Nat):Int) 1)) _ _ s
 rw[Be]
 exact TX h
theorem JD (xs:Array Value)(i k:Nat):((VV k).filterMap fun (m:Nat)=>xs[((i:Int)+(m:Int) * 1).toNat]?).toArray=((xs.toList.drop i).take k).toArray:=by
 have e:(fun (m:Nat)=>xs[((i:Int)+(m:Int) * 1).toNat]?)=fun m=>xs[i+m]?:=by
  funext m
  have:((i:Int)+(m:Int) * 1).toNat=i+m:=by lia
  rw[this]
 rw[e]
 have:=pick_run xs i k
 rw[List.filterMap_map] at this
 have e2:((fun x=>xs[x]?) ∘ fun x=>i+x)=fun m=>xs[i+m]?:=rfl
 rw[e2] at this
 rw[this]
theorem lU {t sl:Addr}{items:Array Value}{vl vu:Value}{lo hi:E5}{Q:ET}(ht:IsTup s.heap t items)(hs:s.heap.IsSliceOf sl vl vu .none)(pl:abx vl lo)(pu:abx vu hi)
  (hw:¬ (sIx items.size 0 lo=0/\sIx items.size items.size hi=items.size))
  (h:Q (.ref s.heap.objs.size) { s with heap:=s.heap.push { cls:=.type "tuple",data:=.seq ((items.toList.drop (sIx items.size 0 lo)).take (sIx items.size items.size hi - sIx items.size 0 lo)).toArray } })
  (hsz:items.size<=sizeLine):T7 (Ue prog w) A (aaS (.ref t) (.ref sl)) Q E s:=by
 have htake:sizeOk (.seq ((items.toList.drop (sIx items.size 0 lo)).take (sIx items.size items.size hi - sIx items.size 0 lo)).toArray):=by
  show ((items.toList.drop (sIx items.size 0 lo)).take (sIx items.size items.size hi - sIx items.size 0 lo)).toArray.size<=sizeLine
  rw[Ul,Uo,aao,Vf]
  lia
 have hj:sIx items.size items.size hi<=items.size:=Qd _ _ (T6 _) hi
 obtain⟨os,hos,hcs,hds⟩:=id hs
 have hTs:s.TypeIs (.ref sl) "slice":=⟨os,hos,hcs⟩
 unfold aaS
 try with_reducible refine VL ?_
 first | refine TF (TX ?_) | skip
 refine TF (wpAny_sequenceKey ht.typeIs (by decide) ?_)
 refine TF (Vx (name:=Xd "__getitem__") ht.typeIs abo
  (Vs abo ht.typeIs entry_tuple_getitem ?_ (args_tuple_getitem _ _)))
 show T7 _ _ (Builtin.Tuple.tupleItemsOf (.ref t) >>= _) _ _ s
 refine TF (tupleItemsOf_ ht ?_)
 refine TF (wpAny_typeOf hTs ?_)
 rw[if_pos (by decide)]
 refine TF (mW hs pl pu ?_)
 have hno:¬ ((((sIx items.size 0 lo:Nat):Int) == 0 && (1:Int) == 1 && (sIx items.size items.size hi - sIx items.size 0 lo) == items.size)=true):=by
  intro q
  rw[Vt,Vt] at q
  have q1:((sIx items.size 0 lo:Nat):Int)=0:=eq_of_beq q.1.1
  have q2:sIx items.size items.size hi - sIx items.size 0 lo=items.size:=eq_of_beq q.2
  exact hw ⟨by lia,by lia⟩
 show T7 _ _ (if (((sIx items.size 0 lo:Nat):Int) == 0 && (1:Int) == 1 && (sIx items.size items.size hi - sIx items.size 0 lo) == items.size)=true then _ else _) _ _ s
 rw[if_neg hno,JD]
 first
  | exact TF (m:=YT _) (U4 (TX ⟨_,rfl,TX h⟩) htake)
  | exact TF (m:=YT _) (U4 (TF (TX (TX ⟨_,rfl,TX h⟩))) htake)
  | exact TF (TF (m:=YT _) (U4 (TX (TX ⟨_,rfl,TX h⟩)) htake))
  | exact TF (TF (m:=YT _) (U4 (TX ⟨_,rfl,TX h⟩) htake))
end
end HT
namespace L2
open PySem PySem.Spec PyProof.Rows
abbrev TO:=St->Hp->(E5->Hp->Prop)->Prop
def PO (X:Cx)(e:Option Expr)(t:TO):Prop :=
 ∀ (ZY:EQ) (s:TV) (σ:St) (H:Hp) (Q:E5->Hp->Prop),Inv X ZY σ H s->t σ H Q →
  T7 (Ue X.prog X.w) X.A (evalPart e X.env) (fun u s'=>∃ o H',Inv X ZY σ H' s'/\abx u o/\Q o H') X.xe s
def La:TO:=fun _ H Q=>Q none H
def QZ (t:TE):TO:=fun σ H Q=>t σ H fun x H1=>∃ i,x = .int i/\Q (some i) H1
theorem intsAre_of {ns:E9}:∀ {us:E4},Vals (ns.map V.int) us->VB us ns:=by
 induction ns with
 | nil=>intro us r;rw[List.map_nil] at r;cases r;exact .nil
 | cons n ns ih =>
  intro us r
  rw[U0] at r
  cases r with
  | cons r1 r2 =>
   obtain⟨t,e⟩:=r1
   subst e
   exact .cons n t (ih r2)
section
variable {X:Cx}{e:Expr}{te:TE}{lo hi:Option Expr}{tl th:TO}{pos p2:Yg}
theorem rP:PO X none La:=by
 intro ZY s σ H Q I h
 rw[evalPart_none]
 exact TX ⟨none,H,I,.none,h⟩
theorem tZ (h:PE X e te):PO X (some e) (QZ te):=by
 intro ZY s σ H Q I hw
 rw[evalPart_some]
 refine thn (h ZY s σ H _ I hw) fun u s1 ⟨x,H1,I1,r1,q1⟩=>?_
 obtain⟨i,rfl,q⟩:=q1
 obtain⟨t,rfl⟩:=r1
 exact⟨some i,H1,I1,.int i t,q⟩
def SlR (X:Cx)(r:V->E5->E5->Hp->VK->Prop):Prop :=
 ∀ (ZY:EQ) (s:TV) (σ:St) (H:Hp) (x:V) (v vl vu:Value) (lo hi:E5) (sl:Addr) (Q:VK),Inv X ZY σ H s->RelV x v->s.heap.IsSliceOf sl vl vu .none->abx vl lo->abx vu hi->r x lo hi H Q →
  ∃ T id,ZX (.type T) "__getitem__" = pure (some (.builtin id))/\s.TypeIs v T/\T7 (Ue X.prog X.w) X.A (aaS v (.ref sl)) (EP X ZY σ Q) X.xe s
def tSl (r:V->E5->E5->Hp->VK->Prop)(te:TE)(tl th:TO):TE:=fun σ H Q=>te σ H fun x H1=>tl σ H1 fun l H2=>th σ H2 fun u H3=>r x l u H3 Q
theorem nA {r:V->E5->E5->Hp->VK->Prop}(hr:SlR X r)(he:PE X e te)(hl:PO X lo tl)(hu:PO X hi th):PE X (.Subscript e (.Slice lo hi none p2) pos) (tSl r te tl th):=by
 intro ZY s σ H Q I h
 refine Subscript_ (thn (he ZY s σ H _ I h) fun v s1 ⟨x,H1,I1,r1,q1⟩=>?_)
 refine wpAny_Slice (thn (hl ZY s1 σ H1 _ I1 q1) fun vl s2 ⟨l,H2,I2,pl,q2⟩=>thn (hu ZY s2 σ H2 _ I2 q2) fun vu s3 ⟨u,H3,I3,pu,q3⟩=>?_)
 rw[evalPart_none]
 refine TX ?_
 have I4:Inv X ZY σ H3 { s3 with heap:=s3.heap.push { cls:=.type "slice",data:=.fields #[vl,vu,.none] } }:=I3.kept (t':=s3.toks) fun b ob q=>TQ _ q
 obtain⟨T,id,hT,ht,hg⟩:=hr ZY { s3 with heap:=s3.heap.push { cls:=.type "slice",data:=.fields #[vl,vu,.none] } } σ H3 x v vl vu l u s3.heap.objs.size Q I4 r1 (Heap.IsSliceOf.new ..) pl pu q3
 show T7 (Ue X.prog X.w) X.A (subscriptTail e (.Slice lo hi none p2) v (.ref s3.heap.objs.size)) (EP X ZY σ Q) X.xe { s3 with heap:=s3.heap.push { cls:=.type "slice",data:=.fields #[vl,vu,.none] } }
 exact tail_any (ops:=[.ref s3.heap.objs.size,v]) ht hT hg (by with_unfolding_all rfl)
def G7 (xs:List V)(lo hi:E5):List V:=(xs.drop (HT.sIx xs.length 0 lo)).take (HT.sIx xs.length xs.length hi - HT.sIx xs.length 0 lo)
theorem pU (xs:List V)(lo hi:E5):(G7 xs lo hi).length<=xs.length:=by
 unfold G7
 rw[Uo,aao]
 lia
inductive Sg (K:Ud)(x:V)(lo:E5)(hi:E5)(H:Hp)(Q:VK):Prop where
 | mk (a:Addr) (xs:List V) (_:x = .ref a) (_:SqT K H a xs) (_:¬ (HT.sIx xs.length 0 lo=0/\HT.sIx xs.length xs.length hi=xs.length)) (_:∀ p,H p=none->Q (.ref p) (upd H p (.tup (G7 xs lo hi))))
theorem QB:SlR X (Sg X.K):=by
 intro ZY s σ H x v vl vu lo hi sl Q I rx hs pl pu h
 obtain⟨a,xs,rfl,hx,hw,q⟩:=h
 cases rx
 obtain⟨its,r,ht,hz⟩:=I.tuple hx
 have hlen:its.toArray.size=xs.length:=by rw[Ul];exact r.length.symm
 refine⟨"tuple",_,PyProof.Rows.slot_tuple_getitem.lookup,ht.typeIs,?_⟩
 refine HT.lU ht hs pl pu (by rw[hlen];exact hw) ?_ (by rw[hlen];exact hz)
 rw[hlen]
 refine⟨.ref s.heap.objs.size,_,I.laid (t':=s.toks) (o:=.tup (G7 xs lo hi)) (fun b ob q=>TQ _ q) (T6 _) ?_,U,q _ (I.hok.fresh (T6 _))⟩
 exact⟨UL (pU xs lo hi) hz,_,(r.drop (HT.sIx xs.length 0 lo)).take (HT.sIx xs.length xs.length hi - HT.sIx xs.length 0 lo),IsTup.new _ _⟩
def RB (K:Ud):R2:=fun x y H Q=>∃ a b xs ys,x = .ref a/\y = .ref b/\SqT K H a xs/\SqT K H b ys/\xs≠[]/\xs.length+ys.length<=sizeLine ∧
 (ys=[]->Q (.ref a) H)/\(ys≠[]->∀ p,H p=none->Q (.ref p) (upd H p (.tup (xs++ys))))
theorem Vals.xG {xs:List V}{us:E4}(r:Vals xs us):us=[] ↔ xs=[]:=by
 cases r with
 | nil=>simp
 | cons _ _=>simp
theorem KN:OpR X (YQ .Add) (RB X.K):=by
 intro ZY s σ H x y v u Q I rx ry h
 obtain⟨a,b,xs,ys,rfl,rfl,ha,hb,hx,hz,q1,q2⟩:=h
 cases rx
 cases ry
 obtain⟨its,r1,p1,_⟩:=I.tuple ha
 obtain⟨its2,r2,p2,_⟩:=I.tuple hb
 refine HT.Mx p1 p2 (fun z=>hx (r1.xG.mp z)) (fun z=>⟨.ref a,H,I,U,q1 (r2.xG.mp z)⟩) (fun z=>?_) (by rw[← r1.length,← r2.length];exact hz)
 refine⟨.ref s.heap.objs.size,_,I.laid (t':=s.toks) (o:=.tup (xs++ys)) (fun b ob q=>TQ _ q) (T6 _) ?_,U,q2 (fun w=>z (r2.xG.mpr w)) _ (I.hok.fresh (T6 _))⟩
 exact⟨by rw[Ui];exact hz,_,r1.append r2,IsTup.new _ _⟩
end
def ixN (n:Nat)(i:Int):Option Nat:=if 0<=i then (if i < n then some i.toNat else none) else if -(n:Int)<=i then some (i+n).toNat else none
def atI {α:Type}(xs:List α)(i:Int):Option α:=(ixN xs.length i).bind fun j=>xs[j]?
theorem Ff {n:Nat}{i:Int}{j:Nat}(h:ixN n i=some j):seqIndex? i n=some j/\j < n/\-(n:Int)<=i/\i < n:=by
 unfold ixN at h
 by_cases h0:0<=i
 ·rw[if_pos h0] at h
  by_cases h1:i < n
  ·rw[if_pos h1] at h
   have e:i.toNat=j:=U5 h
   exact⟨by rw[seqIndex_of h0 h1,e],by lia,by lia,h1⟩
  ·rw[if_neg h1] at h;cases h
 ·rw[if_neg h0] at h
  by_cases h1 : -(n:Int)<=i
  ·rw[if_pos h1] at h
   have e:(i+n).toNat=j:=U5 h
   exact⟨by rw[seqIndex_neg (by lia) h1,e],by lia,h1,by lia⟩
  ·rw[if_neg h1] at h;cases h
theorem yp {α:Type}{xs:List α}{i:Int}{v:α}(h:atI xs i=some v):∃ j,seqIndex? i xs.length=some j/\xs[j]? = some v/\j < xs.length/\-(xs.length:Int)<=i/\i < xs.length:=by
 unfold atI at h
 cases e:ixN xs.length i with
 | none=>rw[e] at h;cases h
 | some j =>
  rw[e] at h
  obtain⟨h1,h2,h3,h4⟩:=Ff e
  exact⟨j,h1,h,h2,h3,h4⟩
theorem jw {α:Type}{xs:List α}{j:Nat}{v:α}(h:xs[j]? = some v):atI xs (j:Int)=some v:=by
 have hj:j < xs.length:=(List.getElem?_eq_some_iff.mp h).1
 have e:ixN xs.length (j:Int)=some j:=by
  unfold ixN
  rw[if_pos (by lia),if_pos (by lia)];simp
 unfold atI;rw[e];exact h
theorem Jm {α:Type}(xs:List α)(v:α):atI (xs++[v]) (-1)=some v:=by
 have hl:(xs++[v]).length=xs.length+1:=by simp
 have e:ixN (xs++[v]).length (-1)=some xs.length:=by
  unfold ixN
  rw[hl,if_neg (by decide),if_pos (by lia)]
  congr 1
  lia
 unfold atI
 rw[e]
 show (xs++[v])[xs.length]? = some v
 simp
def tU (b:Expr):Prop:=∀ o i,abA b false o i=operate [o,i] (aaS o i)
def IxR (X:Cx)(r:R2):Prop :=
 ∀ (value slice:Expr) (ZY:EQ) (s:TV) (σ:St) (H:Hp) (x y:V) (v u:Value) (Q:VK),Inv X ZY σ H s->RelV x v->RelV y u->r x y H Q →
  abA slice false v u=operate [v,u] (aaS v u)->T7 (Ue X.prog X.w) X.A (subscriptTail value slice v u) (EP X ZY σ Q) X.xe s
def MtR (X:Cx)(id:String)(r:V->List V->Hp->VK->Prop):Prop :=
 ∀ (ZY:EQ) (s:TV) (σ:St) (H:Hp) (x:V) (xs:List V) (v:Value) (us:E4) (Q:VK),Inv X ZY σ H s->RelV x v->Vals xs us->r x xs H Q →
  T7 (Ue X.prog X.w) X.A (call (.builtin id) (v::us)) (EP X ZY σ Q) X.xe s
section
variable {X:Cx}{a b:Expr}{ta tb:TE}{pos:Yg}
theorem IxR.or {r r':R2}(h:IxR X r)(h':IxR X r'):IxR X (fun x y H Q=>r x y H Q∨r' x y H Q):=by
 intro value slice ZY s σ H x y v u Q I rx ry q hs
 rcases q with q | q
 ·exact h value slice ZY s σ H x y v u Q I rx ry q hs
 ·exact h' value slice ZY s σ H x y v u Q I rx ry q hs
theorem Nb {r:R2}(hr:IxR X r)(ha:PE X a ta)(hb:PE X b tb)(hs:tU b):PE X (.Subscript a b pos) (tOp r ta tb):=by
 intro ZY s σ H Q I h
 exact Subscript_ (Rk ha hb I h fun v u s2 x y H2 I2 rx ry q=>hr a b ZY s2 σ H2 x y v u Q I2 rx ry q (hs _ _))
inductive RL (K:Ud)(x:V)(y:V)(H:Hp)(Q:VK):Prop where
 | mk (p:Addr) (xs:List V) (i:Int) (v:V) (_:x = .ref p) (_:y = .int i) (_:SqL K H p xs) (_:atI xs i=some v) (_:Q v H)
inductive Rv (K:Ud)(x:V)(y:V)(H:Hp)(Q:VK):Prop where
 | mk (p:Addr) (xs:List V) (i:Int) (v:V) (_:x = .ref p) (_:y = .int i) (_:SqT K H p xs) (_:atI xs i=some v) (_:Q v H)
def R5:R2:=fun x y H Q=>∃ z i c,x = .str z/\y = .int i/\z.length<=sizeLine/\atI z.cps.toList i=some c/\Q (.str ⟨#[c]⟩) H
theorem Gj:IxR X (RL X.K):=by
 intro value slice ZY s σ H x y v u Q I rx ry h hs
 obtain⟨p,xs,i,z,rfl,rfl,hq,he,q⟩:=h
 cases rx
 obtain⟨t,rfl⟩:=ry
 obtain⟨its,r,pl,hz⟩:=I.list hq
 obtain⟨j,h1,h2,h3,h4,h5⟩:=yp he
 obtain⟨w,ew,rw'⟩:=r.get h2
 have hl:=r.length
 have hn:=rG
 have fin:EP X ZY σ Q w s:=⟨z,H,I,rw',q⟩
 by_cases h0:0<=i
 ·have hj:i.toNat=j:=by
   rw[seqIndex_of h0 h5] at h1
   exact U5 h1
  exact item_listR pl.isList h0 (by lia) (by rw[hj];simpa using ew) fin hs
 ·have hj:(i+(its.toArray.size:Int)).toNat=j:=by
   rw[seqIndex_neg (by lia) h4] at h1
   rw[Ul,← hl]
   exact U5 h1
  exact subscriptTail_builtinR (x:=w) pl.isList.typeIs slot_list_getitem.lookup
   (wpAny_getItem_list_neg (Q:=fun r s'=>r=w/\EP X ZY σ Q r s') pl.isList (by lia) (by rw[Ul] <;> lia) (by lia) (by rw[hj];simpa using ew) ⟨U,fin⟩) hs
theorem JQ:IxR X (Rv X.K):=by
 intro value slice ZY s σ H x y v u Q I rx ry h hs
 obtain⟨p,xs,i,z,rfl,rfl,hq,he,q⟩:=h
 cases rx
 obtain⟨t,rfl⟩:=ry
 obtain⟨its,r,pl,hz⟩:=I.tuple hq
 obtain⟨j,h1,h2,h3,h4,h5⟩:=yp he
 obtain⟨w,ew,rw'⟩:=r.get h2
 have hl:=r.length
 have hn:=rG
 have fin:EP X ZY σ Q w s:=⟨z,H,I,rw',q⟩
 exact subscriptTail_builtinR (x:=w) pl.typeIs slot_tuple_getitem.lookup
  (getItem_tuple (j:=j) (Q:=fun r s'=>r=w/\EP X ZY σ Q r s') pl (by lia) (by lia) (by rw[Ul,← hl];exact h1) (by simpa using ew) ⟨U,fin⟩) hs
theorem Px:IxR X R5:=by
 intro value slice ZY s σ H x y v u Q I rx ry h hs
 obtain⟨z,i,c,rfl,rfl,hz,he,q⟩:=h
 obtain⟨t,rfl⟩:=rx
 obtain⟨t',rfl⟩:=ry
 obtain⟨j,h1,h2,h3,h4,h5⟩:=yp he
 have hl:z.cps.toList.length=z.length:=by simp [Str.length]
 rw[hl] at h1 h4 h5
 have hn:=rG
 exact tail_any (typeIs_str s z t) slot_str_getitem.lookup (getItem_str (c:=c) (by
  have e1:decide (i < -(2 ^ 63:Int))=false:=decide_eq_false (by lia)
  have e2:decide (i ≥ 2 ^ 63)=false:=decide_eq_false (by lia)
  rw[e1,e2,Bool.or_false]) (by rw[h1];simpa using h2) ⟨.str ⟨#[c]⟩,H,I.tok _,⟨_,U⟩,q⟩) hs
def rIx (K:Ud):R2:=fun x y H Q=>RL K x y H Q∨Rv K x y H Q∨R5 x y H Q
theorem Kp:IxR X (rIx X.K):=Gj.or (JQ.or Px)
theorem Bf (its:E4)(n j:Nat)(u:Value):Y9 (·.setIfInBounds j u) { cls:=.type "list",data:=.seq its.toArray n }={ cls:=.type "list",data:=.seq (its.set j u).toArray n }:=by
 simp [Y9]
theorem Inv.lst {ZY:EQ}{σ:St}{H:Hp}{s:TV}{p:Addr}{xs:List V}(I:Inv X ZY σ H s)(h:H p=some (.lst xs)) :
  ∃ (its:E4) (n:Nat),Vals xs its/\s.heap.get? p=some { cls:=.type "list",data:=.seq its.toArray n }/\xs.length<=sizeLine:=by
 obtain⟨z,its,n,r,e⟩:=I.hok p _ h
 exact⟨its,n,r,e,z⟩
theorem Inv.Od {ZY:EQ}{σ:St}{H:Hp}{s:TV}{p:Addr}{xs ys:List V}{its its':E4}{n n':Nat}{f:WL->WL}(I:Inv X ZY σ H s)(h:H p=some (.lst xs))
  (ho:s.heap.get? p=some { cls:=.type "list",data:=.seq its.toArray n }) (hf:f { cls:=.type "list",data:=.seq its.toArray n }={ cls:=.type "list",data:=.seq its'.toArray n' }) (r:Vals ys its') (hz:ys.length<=sizeLine) (t:Nat) :
  Inv X ZY σ (upd H p (.lst ys)) { s with heap:=s.heap.update p f,toks:=t }:=by
 have e:(s.heap.update p f).get? p=some { cls:=.type "list",data:=.seq its'.toArray n' }:=by
  rw[UG f ho (by rw[hf] <;> rfl),hf]
 refine I.write (x:=p) (e:=p) (by rw[h];trivial) (.inl U) (fun b u hb q=>(Uu _ _ (VM hb)).trans q) ⟨_,e⟩ ?_
 exact⟨hz,its',n',r,e⟩
def Q0:V->V->V->Hp->(Hp->Prop)->Prop:=fun o i v H Q=>∃ p xs k j,o = .ref p/\i = .int k/\H p=some (.lst xs)/\ixN xs.length k=some j/\Q (upd H p (.lst (xs.set j v)))
theorem set_list:RT X Q0:=by
 intro ZY s σ H o i v ov iv u Q I ro ri rv h
 obtain⟨p,xs,k,j,rfl,rfl,hp,hj,q⟩:=h
 cases ro
 obtain⟨t,rfl⟩:=ri
 obtain⟨its,n,r,ho,hz⟩:=I.lst hp
 obtain⟨h1,h2,h3,h4⟩:=Ff hj
 have hl:=r.length
 have hn:=rG
 have I':Inv X ZY σ (upd H p (.lst (xs.set j v))) { s with heap:=s.heap.update p (Y9 (·.setIfInBounds j u)) } :=
  I.Od hp ho (Bf its n j u) (r.set rv j) (by rw[Y0];exact hz) s.toks
 by_cases h0:0<=k
 ·have hk:k.toNat=j:=by
   rw[seqIndex_of h0 h4] at h1
   exact U5 h1
  exact PySem.W.ki_setAt ho h0 (by lia) (by rw[Ul,← hl];exact h4) (by rw[hk];exact⟨_,I',q⟩)
 ·have hk:(k+(its.toArray.size:Int)).toNat=j:=by
   rw[seqIndex_neg (by lia) h3] at h1
   rw[Ul,← hl]
   exact U5 h1
  exact PySem.W.ki_setBack ho (by lia) (by rw[Ul,← hl];exact h3) (by lia) (by rw[hk];exact⟨_,I',q⟩)
theorem vz (lo hi:E5)(n:Nat):(Zt lo hi none n).1=((HT.sIx n 0 lo:Nat):Int)/\(Zt lo hi none n).2.1=((HT.sIx n n hi:Nat):Int)/\(Zt lo hi none n).2.2=1:=by
 refine⟨?_,?_,U⟩
 ·cases lo with
  | none=>simp [Zt,HT.sIx]
  | some i =>
   simp only[Zt,HT.sIx,Option.getD_none,show (1:Int) > 0 by decide,if_true]
   by_cases h:i < 0
   ·simp only[h,if_true] <;> lia
   ·simp only[h,if_false] <;> lia
 ·cases hi with
  | none=>simp [Zt,HT.sIx]
  | some i =>
   simp only[Zt,HT.sIx,Option.getD_none,show (1:Int) > 0 by decide,if_true]
   by_cases h:i < 0
   ·simp only[h,if_true] <;> lia
   ·simp only[h,if_false] <;> lia
theorem rT (its:E4)(lo hi:E5):slicePick its.toArray lo hi none=((its.drop (HT.sIx its.length 0 lo)).take (HT.sIx its.length its.length hi - HT.sIx its.length 0 lo)).toArray:=by
 obtain⟨h1,h2,h3⟩:=vz lo hi its.toArray.size
 unfold slicePick
 rw[h1,h2,h3]
 simp only[sliceRange_one,pick_run,Ul] <;> rfl
inductive QM (K:Ud)(x:V)(lo:E5)(hi:E5)(H:Hp)(Q:VK):Prop where
 | mk (a:Addr) (xs:List V) (_:x = .ref a) (_:SqL K H a xs) (_:∀ p,H p=none->Q (.ref p) (upd H p (.lst (G7 xs lo hi))))
theorem wU:SlR X (QM X.K):=by
 intro ZY s σ H x v vl vu lo hi sl Q I rx hs pl pu h
 obtain⟨a,xs,rfl,hx,q⟩:=h
 cases rx
 obtain⟨its,r,ht,hz⟩:=I.list hx
 have hlen:=r.length
 refine⟨"list",_,slot_list_getitem.lookup,ht.isList.typeIs,?_⟩
 refine wpAny_getItem_list_slice ht.isList hs pl pu .none (by simp) ?_ (by rw[Ul] <;> lia)
 rw[rT,← hlen]
 refine⟨.ref s.heap.objs.size,_,I.laid (t':=s.toks) (o:=.lst (G7 xs lo hi)) (fun b ob q=>TQ _ q) (T6 _) ?_,U,q _ (I.hok.fresh (T6 _))⟩
 exact⟨UL (pU xs lo hi) hz,_,0,(r.drop (HT.sIx xs.length 0 lo)).take (HT.sIx xs.length xs.length hi - HT.sIx xs.length 0 lo),T9 _ U⟩
def qx:V->Bool
 | .non=>true
 | .bl _=>true
 | .int _=>true
 | .str _=>true
 | _=>false
def eqV:V->V->Bool
 | .non,.non=>true
 | .bl a,.bl b=>a == b
 | .bl a,.int b=>(if a then 1 else 0) == b
 | .int a,.bl b=>a == (if b then 1 else 0)
 | .int a,.int b=>a == b
 | .str a,.str b=>a == b
 | _,_=>false
theorem Qe {A:UW}{s:TV}{y x:V}{u v:Value}(ry:RelV y u)(rx:RelV x v)(fy:qx y=true)(fx:qx x=true):SeqAt.EqAt A s u v (eqV y x):=by
 cases y with
 | non =>
  cases ry
  cases x with
  | non=>cases rx;exact SeqAt.EqAt.same _
  | bl b=>cases rx;exact SeqAt.EqAt.none_bool b
  | int b=>obtain⟨t,rfl⟩:=rx;exact SeqAt.EqAt.none_int b t
  | str b=>obtain⟨t,rfl⟩:=rx;exact SeqAt.EqAt.none_str b t
  | _=>exact absurd (show false=true from fx) T5
 | bl a =>
  cases ry
  cases x with
  | non=>cases rx;exact SeqAt.EqAt.bool_none a
  | bl b=>cases rx;exact SeqAt.EqAt.bool_bool a b
  | int b=>obtain⟨t,rfl⟩:=rx;exact SeqAt.EqAt.bool_int a b t
  | str b=>obtain⟨t,rfl⟩:=rx;exact SeqAt.EqAt.bool_str a b t
  | _=>exact absurd (show false=true from fx) T5
 | int a =>
  obtain⟨t',rfl⟩:=ry
  cases x with
  | non=>cases rx;exact SeqAt.EqAt.int_none a t'
  | bl b=>cases rx;exact SeqAt.EqAt.int_bool a t' b
  | int b=>obtain⟨t,rfl⟩:=rx;exact aa6 a t' b t
  | str b=>obtain⟨t,rfl⟩:=rx;exact SeqAt.EqAt.int_str a t' b t
  | _=>exact absurd (show false=true from fx) T5
 | str a =>
  obtain⟨t',rfl⟩:=ry
  cases x with
  | non=>cases rx;exact SeqAt.EqAt.str_none a t'
  | bl b=>cases rx;exact SeqAt.EqAt.str_bool a t' b
  | int b=>obtain⟨t,rfl⟩:=rx;exact SeqAt.EqAt.str_int a t' b t
  | str b=>obtain⟨t,rfl⟩:=rx;exact SeqAt.EqAt.str_str a t' b t
  | _=>exact absurd (show false=true from fx) T5
 | _=>exact absurd (show false=true from fy) T5
def eqU (x:V)(u:Value):Bool:=match u with
 | .none=>eqV .non x
 | .bool b=>eqV (.bl b) x
 | .int i _=>eqV (.int i) x
 | .str z _=>eqV (.str z) x
 | _=>false
theorem KJ {x y:V}{u:Value}(r:RelV y u)(f:qx y=true):eqU x u=eqV y x:=by
 cases y with
 | non=>cases r;rfl
 | bl b=>cases r;rfl
 | int i=>obtain⟨t,rfl⟩:=r;rfl
 | str z=>obtain⟨t,rfl⟩:=r;rfl
 | _=>exact absurd (show false=true from f) T5
theorem oK {x:V}:∀ {xs:List V} {us:E4},Vals xs us->xs.all qx=true->us.any (eqU x)=xs.any fun y=>eqV y x
 | _,_,.nil,_=>rfl
 | y::xs,u::us,.cons r t,f=>by
  rw[Zq,Vt] at f
  rw[X8,X8,KJ r f.1,oK t f.2]
theorem jN {A:UW}{s:TV}{x:V}{v:Value}(rx:RelV x v)(fx:qx x=true):∀ {xs:List V} {us:E4},Vals xs us->xs.all qx=true->∀ u∈us,SeqAt.EqAt A s u v (eqU x u)
 | _,_,.nil,_=>fun u hu=>by cases hu
 | y::xs,u::us,.cons r t,f=>fun u' hu=>by
  rw[Zq,Vt] at f
  rcases List.mem_cons.mp hu with rfl | hu
  ·rw[KJ r f.1];exact Qe r rx f.1 fx
  ·exact jN rx fx t f.2 u' hu
def inV (x:V)(xs:List V):Bool:=xs.any fun y=>eqV y x
inductive rIn (K:Ud)(neg:Bool)(x:V)(y:V)(H:Hp)(Q:VK):Prop where
 | mk (p:Addr) (xs:List V) (_:y = .ref p) (_:(SqL K H p xs∨SqT K H p xs)) (_:qx x=true) (_:xs.all qx=true) (_:Q (.bl (if neg then !inV x xs else inV x xs)) H)
theorem fY:OpR X (WM .In) (rIn X.K false):=by
 intro ZY s σ H x y v u Q I rx ry h
 obtain⟨p,xs,rfl,hq,fx,fs,q⟩:=h
 cases ry
 rcases hq with hq | hq
 ·obtain⟨its,r,pl,hz⟩:=I.list hq
  refine SeqAt.in_listAt (eqU x) pl.isList (fun w hw=>jN rx fx r fs w (by simpa using hw)) ⟨.bl _,H,I,U,?_⟩
  rw[show its.toArray.any (eqU x)=its.any (eqU x) by simp,oK r fs]
  exact q
 ·obtain⟨its,r,pl,hz⟩:=I.tuple hq
  refine SeqAt.in_tupleAt (eqU x) pl (fun w hw=>jN rx fx r fs w (by simpa using hw)) ⟨.bl _,H,I,U,?_⟩
  rw[show its.toArray.any (eqU x)=its.any (eqU x) by simp,oK r fs]
  exact q
theorem vh:OpR X (WM .NotIn) (rIn X.K true):=by
 intro ZY s σ H x y v u Q I rx ry h
 obtain⟨p,xs,rfl,hq,fx,fs,q⟩:=h
 cases ry
 rcases hq with hq | hq
 ·obtain⟨its,r,pl,hz⟩:=I.list hq
  refine SeqAt.notIn_listAt (eqU x) pl.isList (fun w hw=>jN rx fx r fs w (by simpa using hw)) ⟨.bl _,H,I,U,?_⟩
  rw[show its.toArray.any (eqU x)=its.any (eqU x) by simp,oK r fs]
  exact q
 ·obtain⟨its,r,pl,hz⟩:=I.tuple hq
  refine SeqAt.notIn_tupleAt (eqU x) pl (fun w hw=>jN rx fx r fs w (by simpa using hw)) ⟨.bl _,H,I,U,?_⟩
  rw[show its.toArray.any (eqU x)=its.any (eqU x) by simp,oK r fs]
  exact q
theorem v8:fZ X (.builtin "len") (fun xs H Q=>∃ p ys,xs=[.ref p]/\(SqL X.K H p ys∨SqT X.K H p ys)/\Q (.int ys.length) H):=by
 intro ZY s σ H xs us Q I r h
 obtain⟨p,ys,rfl,hq,q⟩:=h
 obtain⟨u,rfl,rx⟩:=vals1 r
 cases rx
 have hn:=rG
 rcases hq with hq | hq
 ·obtain⟨its,r',pl,hz⟩:=I.list hq
  have hlen:=r'.length
  exact Calls.call_len_list pl.isList (by simp only[Ul] <;> lia) ⟨.int ys.length,H,I.tok _,⟨s.toks+1,by rw[Ul,hlen]⟩,q⟩
 ·obtain⟨its,r',pl,hz⟩:=I.tuple hq
  have hlen:=r'.length
  exact len_tuple pl (by simp only[Ul] <;> lia) ⟨.int ys.length,H,I.tok _,⟨s.toks+1,by rw[Ul,hlen]⟩,q⟩
theorem vf:fZ X (.type "list") (fun xs H Q=>∃ p ys,xs=[.ref p]/\(SqL X.K H p ys∨SqT X.K H p ys)/\∀ l,H l=none->Q (.ref l) (upd H l (.lst ys))):=by
 intro ZY s σ H xs us Q I r h
 obtain⟨p,ys,rfl,hq,q⟩:=h
 obtain⟨u,rfl,rx⟩:=vals1 r
 cases rx
 have fin:∀ (its:E4),Vals ys its->ys.length<=sizeLine->∀ (h':Va) (c':Nat),(∀ b o',s.heap.get? b=some o'->h'.get? b=some o') →
   h'.get? s.heap.objs.size=some { cls:=.type "list",dict:=none,data:=.seq its.toArray c',slots:=#[] }->EP X ZY σ Q (.ref s.heap.objs.size) { s with heap:=h' }:=fun its r' hz h' c' kp e =>
  ⟨.ref s.heap.objs.size,_,I.laid (t':=s.toks) kp (T6 _) (show cX X.prog X.w _ h' _ (.lst ys) from ⟨hz,its,c',r',e⟩),U,q _ (I.hok.fresh (T6 _))⟩
 rcases hq with hq | hq
 ·obtain⟨its,r',pl,hz⟩:=I.list hq
  have hlen:=r'.length
  obtain⟨o,ho,hc,n,hd⟩:=pl.isList
  exact call_list_seq p (.inl U) ho hc hd (fun h' c' kp e=>fin its r' hz h' c' kp e) (by simp only[Ul] <;> lia)
 ·obtain⟨its,r',pl,hz⟩:=I.tuple hq
  have hlen:=r'.length
  obtain⟨o,ho,hc,n,hd⟩:=pl
  exact call_list_seq p (.inr U) ho hc hd (fun h' c' kp e=>fin its r' hz h' c' kp e) (by simp only[Ul] <;> lia)
theorem ue:fZ X (.type "tuple") (fun xs H Q=>∃ p ys,xs=[.ref p]/\((SqL X.K H p ys/\∀ l,H l=none->Q (.ref l) (upd H l (.tup ys)))∨(SqT X.K H p ys/\Q (.ref p) H))):=by
 intro ZY s σ H xs us Q I r h
 obtain⟨p,ys,rfl,h⟩:=h
 obtain⟨u,rfl,rx⟩:=vals1 r
 cases rx
 rcases h with⟨hq,q⟩ | ⟨hq,q⟩
 ·obtain⟨its,r',pl,hz⟩:=I.list hq
  have hlen:=r'.length
  refine call_tuple_list pl.isList (fun h' kp=>?_) (by simp only[Ul] <;> lia)
  have I1:Inv X ZY σ H { s with heap:=h' }:=I.kept (t':=s.toks) kp
  have I2:Inv X ZY σ (upd H h'.objs.size (.tup ys)) { s with heap:=h'.push { cls:=.type "tuple",data:=.seq its.toArray } } :=
   I1.laid (t':=s.toks) (fun b o e=>TQ _ e) (T6 _) (show cX X.prog X.w _ _ _ (.tup ys) from ⟨hz,its,r',IsTup.new _ _⟩)
  exact⟨.ref h'.objs.size,_,I2,U,q _ (I1.hok.fresh (T6 _))⟩
 ·obtain⟨its,r',pl,hz⟩:=I.tuple hq
  exact call_tuple_same pl ⟨.ref p,H,I,U,q⟩
def tyV (K:Ud)(T:String)(x:V)(H:Hp):Prop:=match x with
 | .str _=>T = "str"
 | .int _=>T = "int"
 | .ref p=>(T = "list"/\∃ xs,SqL K H p xs)∨(T = "tuple"/\∃ o,K.lookup p=some o/\o.cls = .type "tuple"/\o.dict=none) ∨
   (T = "dict"/\((∃ kvs,H p=some (.dK kvs))∨∃ kvs,H p=some (.dT kvs)))∨(T = "set"/\∃ S n,H p=some (.set S n))
 | _=>False
theorem Pk {ZY:EQ}{σ:St}{H:Hp}{s:TV}{T:String}{x:V}{v:Value}(I:Inv X ZY σ H s)(r:RelV x v)(ty:tyV X.K T x H) :
  s.TypeIs v T/\∀ a,v = .ref a->∃ ob,s.heap.get? a=some ob/\ob.dict=none:=by
 cases x with
 | str z =>
  obtain⟨t,rfl⟩:=r
  cases (show T = "str" from ty)
  exact⟨typeIs_str s z t,fun _ e=>nomatch e⟩
 | int i =>
  obtain⟨t,rfl⟩:=r
  cases (show T = "int" from ty)
  exact⟨typeIs_int s i t,fun _ e=>nomatch e⟩
 | ref p =>
  cases r
  rcases ty with⟨rfl,xs,hq⟩ | ⟨rfl,o,hk,hc,hd⟩ | ⟨rfl,hk⟩ | ⟨rfl,S,n,hk⟩
  ·obtain⟨its,_,pl,_⟩:=I.list hq
   refine⟨pl.isList.typeIs,fun a e=>?_⟩
   cases e
   obtain⟨o,n,e,c,hd,_⟩:=pl
   exact⟨o,e,hd⟩
  ·refine⟨⟨o,I.kIn p o hk,hc⟩,fun a e=>?_⟩
   cases e
   exact⟨o,I.kIn _ o hk,hd⟩
  ·have z:∃ o,s.heap.get? p=some o/\o.ExactDict:=by
    rcases hk with⟨kvs,hk⟩ | ⟨kvs,hk⟩
    ·obtain⟨_,_,_,_,o,_,_,e,ex,_⟩:=I.hok p _ hk
     exact⟨o,e,ex⟩
    ·obtain⟨_,_,_,_,o,_,_,e,ex,_⟩:=I.hok p _ hk
     exact⟨o,e,ex⟩
   obtain⟨o,e,ex⟩:=z
   refine⟨⟨o,e,ex.1⟩,fun a e2=>?_⟩
   cases e2
   exact⟨o,e,ex.2.1⟩
  ·obtain⟨o,_,_,_,e,ex,_⟩:=I.hok p _ hk
   refine⟨⟨o,e,ex.1⟩,fun a e2=>?_⟩
   cases e2
   exact⟨o,e,ex.2.1⟩
 | _=>exact Vc ty
def tBM (K:Ud)(T:String)(r:V->List V->Hp->VK->Prop)(to:TE)(t:TA):TE:=fun σ H Q=>to σ H fun x H1=>tyV K T x H1/\t σ H1 fun xs H2=>r x xs H2 Q
variable {o e:Expr}{es:E7}{to:TE}{t:TA}{name:Ut}{apos cpos:Yg}{T id:String}{r:V->List V->Hp->VK->Prop}
theorem yH (pa:PlainAttrs T) (slot:Slot T name id) (hty:typeOf (.builtin id)=pure (.type "method_descriptor")) (hm:MtR X id r) (ho:PE X o to) (ha:PA X (e::es) t)
  (hbase:YS o name X.env (VD o X.env)=VD o X.env:=by rfl)
  (hfew:((Wt cpos (Ur (e::es) X.env)).all (fun x=>!x.1) && (Z1 cpos (Yk [] X.env)).all (fun x=>x.1.isSome)
   && decide ((e::es).length+([]:EX).length+(if ([]:EX).isEmpty then 0 else 1) < 30))=true:=by rfl)
  (hline:(apos.endLine == cpos.line)=true:=by rfl) (hs:Ur (e::es) X.env=(false,VD e X.env)::Ur es X.env:=by rfl) (hplain:(Wt cpos (Ur es X.env)).any (·.1)=false:=by rfl) :
  PE X (.Call (.Attribute o name apos) (e::es) [] cpos) (tBM X.K T r to t):=by
 intro ZY s σ H Q I h
 refine wpAny_Call_method_late hbase hfew hline U (thn (ho ZY s σ H _ I h) fun v s1 ⟨x,H1,I1,r1,ty,q1⟩=>?_)
 obtain⟨h1,h2⟩:=Pk I1 r1 ty
 refine⟨T,id,pa,slot,hty,h1,h2,?_⟩
 have hA:=ha cpos ZY s1 σ H1 _ I1 q1
 rw[hs] at hA ⊢
 refine Calls.callWith_builtin (by show (false || (Wt cpos (Ur es X.env)).any (·.1))=false;rw[hplain] <;> rfl) (Calls.evalArgs_plain ?_)
 exact thn hA fun us s2 ⟨vs,H2,I2,r2,q2⟩=>hm ZY s2 σ H2 x vs v us Q I2 r1 r2 q2
/- xs.append(e),list.index on a module's tuple .. are MtR facts of 06m -/
end
def MtM (X:Cx)(id:String)(r:V->List V->Hp->VK->Prop):Prop :=
 ∀ (ZY:EQ) (s:TV) (σ:St) (H:Hp) (x:V) (xs:List V) (v:Value) (us:E4) (Q:VK),Inv X ZY σ H s->RelV x v->Vals xs us->r x xs H Q →
  T7 (Ue X.prog X.w) X.A (call (.builtin id) (v::us)) (EP X ZY σ Q) X.xe s
theorem Vals.one:∀ {x:V} {us:E4},Vals [x] us->∃ u,us=[u]/\RelV x u
 | _,_,.cons r .nil=>⟨_,U,r⟩
theorem Vals.two:∀ {x y:V} {us:E4},Vals [x,y] us->∃ u v,us=[u,v]/\RelV x u/\RelV y v
 | _,_,_,.cons r (.cons q .nil)=>⟨_,_,U,r,q⟩
theorem Vals.rep {xs:List V}{us:E4}(h:Vals xs us):∀ k:Nat,Vals (Uy k xs).flatten (Uy k us).flatten
 | 0=>.nil
 | k+1=>by
  rw[Xy,Xy,aab,aab]
  exact Vals.append h (Vals.rep h k)
theorem foldl_rep (its:E4):∀ (k:Nat) (acc:E4),
  List.foldl (fun x1 x2=>x1++x2) acc.toArray (Uy k its.toArray)=(acc++(Uy k its).flatten).toArray
 | 0,acc=>by simp
 | k+1,acc=>by
  have e:acc.toArray++its.toArray=(acc++its).toArray:=by simp
  have e2:(acc++its)++(Uy k its).flatten=acc++(Uy (k+1) its).flatten:=by
   rw[Xy,aab,aac]
  rw[← e2,← foldl_rep its k (acc++its),← e,Xy,Vl]
section
variable {X:Cx}{ZY:EQ}{σ:St}{H:Hp}{s:TV}{l b:Addr}{xs ys zs:List V}
theorem Inv.S5 {its its':E4}{n:Nat}{f:Array Value->Array Value}{t':Nat}(I:Inv X ZY σ H s)(hH:H l=some (.lst xs))
  (e:s.heap.get? l=some { cls:=.type "list",data:=.seq its.toArray n }) (hf:f its.toArray=its'.toArray) (hv:Vals ys its') (hz:ys.length<=sizeLine) :
  Inv X ZY σ (upd H l (.lst ys)) { s with heap:=s.heap.update l (Y9 f),toks:=t' }:=by
 have q:=PySem.IsL.update e f
 rw[hf] at q
 refine I.write (x:=l) (e:=l) (by rw[hH];exact trivial) (.inl U) (fun b' u hb hu=>(Uu s.heap (Y9 f) (VM hb)).trans hu) ⟨_,q⟩ ?_
 exact⟨hz,its',_,hv,q⟩
theorem Inv.O3 {its:E4}{t':Nat}(I:Inv X ZY σ H s)(hv:Vals ys its)(hz:ys.length<=sizeLine) :
  Inv X ZY σ (upd H s.heap.objs.size (.lst ys)) { s with heap:=s.heap.push { cls:=.type "list",data:=.seq its.toArray },toks:=t' } :=
 I.laid (fun _ _ q=>TQ _ q) (T6 _) ⟨hz,its,0,hv,T9 _ U⟩
theorem Inv.fresh (I:Inv X ZY σ H s):H s.heap.objs.size=none:=I.hok.fresh (T6 _)
theorem Inv.QT (I:Inv X ZY σ H s)(hH:H l=some (.lst xs)):xs.length<=sizeLine/\∃ (its:E4) (n:Nat),Vals xs its/\xs.length=its.length/\s.heap.get? l=some { cls:=.type "list",data:=.seq its.toArray n }:=by
 obtain⟨z,its,n,r,e⟩:=I.hok l _ hH
 exact⟨z,its,n,r,r.length,e⟩
theorem Ib {n:Nat}(h:n<=sizeLine):aaj n=false:=by
 unfold aaj
 exact decide_eq_false (by lia)
end
section
variable {X:Cx}
inductive Lb (x:V)(vs:List V)(H:Hp)(Q:VK):Prop where
 | mk (l:Addr) (xs:List V) (y:V) (_:x = .ref l) (_:vs=[y]) (_:H l=some (.lst xs)) (_:xs.length < sizeLine) (_:Q .non (upd H l (.lst (xs++[y]))))
theorem cL:MtM X "list.append" Lb:=by
 intro ZY s σ H x vs v us Q I rx rv h
 obtain⟨l,xs,y,rfl,rfl,hH,hz,q⟩:=h
 cases rx
 obtain⟨u,rfl,ru⟩:=rv.one
 obtain⟨z,its,n,r,hl,e⟩:=I.QT hH
 refine call_meets F.slot_list_append ⟨_,e,U⟩ F.entry_list_append (F.args_list_append_2 _ _) (PySem.list_append l its.toArray n u (by rw[Ul];lia)) ⟨e,?_⟩
 refine⟨.non,_,I.S5 (its':=its++[u]) hH e (by simp) (r.append (.cons ru .nil)) ?_,U,q⟩
 rw[Ui,List.length_singleton]
 lia
inductive SQ (x:V)(y:V)(H:Hp)(Q:VK):Prop where
 | mk (l:Addr) (b:Addr) (xs:List V) (zs:List V) (_:x = .ref l) (_:y = .ref b) (_:H l=some (.lst xs)) (_:H b=some (.lst zs)) (_:xs.length+zs.length<=sizeLine) (_:∀ p,H p=none->Q (.ref p) (upd H p (.lst (xs++zs))))
theorem rN:OpR X (YQ .Add) SQ:=by
 intro ZY s σ H x y v u Q I rx ry h
 obtain⟨l,b,xs,zs,rfl,rfl,hH,hB,hz,q⟩:=h
 cases rx
 cases ry
 obtain⟨z,its,n,r,hl,e⟩:=I.QT hH
 obtain⟨z2,its2,n2,r2,hl2,e2⟩:=I.QT hB
 refine PySem.P.add_list e e2 ?_ (by rw[Ul,Ul];lia)
 have ea:its.toArray++its2.toArray=(its++its2).toArray:=by simp
 rw[ea]
 exact⟨.ref _,_,I.O3 (t':=s.toks) (r.append r2) (by rw[Ui];lia),U,q _ I.fresh⟩
def SX:R2:=fun x y H Q=>∃ l k xs,x = .ref l/\y = .int k/\H l=some (.lst xs)/\-(2 ^ 63)<=k/\k < 2 ^ 63/\xs.length * k.toNat<=sizeLine ∧
 ∀ p,H p=none->Q (.ref p) (upd H p (.lst (Uy k.toNat xs).flatten))
theorem len_rep {α:Type}(xs:List α)(k:Nat):(Uy k xs).flatten.length=k * xs.length:=by
 induction k with
 | zero=>simp
 | succ k ih=>rw[Xy,aab,Ui,ih,Nat.succ_mul,Nat.add_comm]
theorem Oe:OpR X (YQ .Mult) SX:=by
 intro ZY s σ H x y v u Q I rx ry h
 obtain⟨l,k,xs,rfl,rfl,hH,h1,h2,hz,q⟩:=h
 cases rx
 obtain⟨t,rfl⟩:=ry
 obtain⟨z,its,n,r,hl,e⟩:=I.QT hH
 have hlen:its.toArray.size * k.toNat<=sizeLine:=by rw[Ul,← hl];exact hz
 have hcap:¬ its.toArray.size * k.toNat > (2 ^ 63 - 1) / 8:=by
  have:(sizeLine:Nat)<=(2 ^ 63 - 1) / 8:=by decide
  lia
 have hfit:¬ (!Builtin.List.listFitsIndex k)=true:=by
  rw[fitsIndex_both h1 h2]
  exact T5
 have hlong:¬ aaj (its.toArray.size * k.toNat)=true:=by
  rw[Ib hlen]
  exact T5
 have hnew:List.foldl (fun x1 x2=>x1++x2) #[] (Uy (if its.toArray.isEmpty=true then 0 else k.toNat) its.toArray)=(Uy k.toNat its).flatten.toArray:=by
  have f0:∀ m:Nat,List.foldl (fun x1 x2=>x1++x2) #[] (Uy m its.toArray)=(Uy m its).flatten.toArray:=fun m=>by
   have:=foldl_rep its m []
   rw[abK] at this
   exact this
  rw[f0]
  cases its with
  | nil=>simp
  | cons a r'=>rw[if_neg (by simp)]
 refine wpAny_binaryOp_repeat_ref (T:="list") (U:="int") (by decide) ⟨_,e,U⟩ (fun s'=>typeIs_int s' k t) noFill_list_mul F.fills_int_mul F.slot_int_rmul repeat_list F.slot_int_index.lookup
  (call_meets F.slot_int_rmul (typeIs_int s k t) F.entry_int_rmul (F.args_int_rmul_2 _ _) (int___rmul___int_list k t l its.toArray n)
   ⟨e,U,⟨_,e,U⟩,call_meets F.slot_list_mul ⟨_,e,U⟩ F.entry_list_mul (F.args_list_mul_2 _ _) (AutoListH.list___mul___list_int_3 l its.toArray n k t hfit hcap hlong) ⟨e,?_⟩⟩)
 rw[hnew]
 exact⟨.ref _,_,I.O3 (t':=s.toks) (r.rep k.toNat) (by rw[len_rep,Nat.mul_comm];exact hz),U,q _ I.fresh⟩
end
section
variable {prog:Uq}{w:U3}{A:UW}{E:ET}{s:TV}
set_option maxRecDepth 100000 in
end
section
variable {X:Cx}
end
end L2
namespace Att
open PySem PySem.W PySem.Calls PyProof.Rows
theorem oM {P:Params}{h:Va}:∀ (ns:E9) (vs:E4),WellAll P h vs (ns.map WData.int)->VB vs ns:=by
 intro ns
 induction ns with
 | nil =>
  intro vs w
  rw[List.map_nil] at w
  cases w
  exact .nil
 | cons n ns ih =>
  intro vs w
  rw[U0] at w
  cases w with
  | cons a b =>
   cases a
   exact .cons _ _ (ih _ b)
theorem BR {l:OpenLaw}{n:Nat}(hn:l.most=some n){P:Params}{h:Va}{args:List WData}{vals:E4}
  (hpre:l.row.toRowW.claim.pre args=true) (hwl:WellAll P h vals args) :
  ∃ a vs ns,vals=[Uk a]/\args=[WData.list (ns.map WData.int)]/\h.get? a=some { cls:=.type "list",data:=.seq vs.toArray }/\VB vs ns/\ns.length<=n:=by
 have hsh:WShape.hasAll [] args [.list .int]=true:=(pre_splitW hpre).1
 have hc:l.pre.holds [] { args:=args }=true:=(pre_splitW hpre).2
 obtain⟨d,r,rfl,h1,h2⟩:=hasAllW_cons hsh
 obtain rfl:=hasAllW_nil h2
 obtain⟨xs,rfl,h3⟩:=hasW_list h1
 obtain⟨ns,rfl⟩:=items_int h3
 have hlen:ns.length<=n:=by
  unfold OpenLaw.pre at hc
  have h4:(WTm.not (.lt (.lit (.int (n:Int))) (.len (.arg 0)))).holds [] { args:=[.list (ns.map .int)] }=true:=by
   have h4:=(holds_andW hc).1
   rw[hn] at h4
   exact h4
  have h5:=condW_of h4 (w_not (w_lt w_lit (w_len_list (w_arg U))))
  rw[TJ] at h5
  refine abv fun q=>?_
  have q':(n:Int) < ((ns.length:Nat):Int):=by lia
  first
   | (rw[decide_eq_true q'] at h5;exact absurd h5 (by decide))
   | (simp at h5;lia)
 cases hwl with
 | cons w1 w2 =>
  cases w2
  cases w1 with
  | list ho hall=>exact⟨_,_,ns,U,U,ho,oM ns _ hall,hlen⟩
theorem DR (l:OpenLaw)(args:List WData):l.row.toRowW.claim.post args (.bool true) args=true :=
 postW_of (r:=l.row.toRowW) (X:=(true == true))
  (show WShape.has [] (.bool true) .bool=true by first | rfl | decide | simp [WShape.has,WShape.arms,WShape.armsAll])
  (show (WTm.eq .res (.lit (.bool true))).value [] { args:=args,res:=some (.bool true),after:=args }=some (.bool (true == true)) from w_eq_bool (w_res U) w_lit) U
theorem ym {l:OpenLaw}{n:Nat}{q:Uq}{loose:Fh}{XP:(Ut->EW)->Va->Prop}{YP:U3->Va->Prop}{d:DefRec}
  (hn:l.most=some n) (hdf:d.params.defaults=[])
  (call:∀ (w:U3) (s₀ s₁:TV) (mg mb:Ut->EW) (fa:Addr) (o:WL) (pm cd doc:Value) (a:Addr) (vs:E4) (ns:E9),
   Ground q loose [] XP w s₀ mg mb s₁.heap->YP w s₁.heap →
   s₁.heap.get? fa=some o->o.data = .func (docDef d.name d.params d.body d.scope pm cd doc)->s₁.heap.CodeRec cd d.name->mg d.name=some (.ref fa) →
   s₁.heap.get? a=some { cls:=.type "list",data:=.seq vs.toArray }->VB vs ns->ns.length<=n->s₁.gens = #[] →
   Vz (Ue l.prog w) abd (.call (.ref fa) ⟨[.ref a],[]⟩) (fun r s'=>r = .ok (.ret (.bool true))/\OldK s₁.heap s'.heap/\s'.os=s₁.os/\aaf s'.gens) s₁) :
  WalkO q loose XP YP l.row.toRowW d [] (fun f vs=>PySem.call f vs):=by
 intro w s₀ s₁ mg mb G Y fa o pm cd doc dV kV ho hd hcd hD hmg hg args vals as hpre hlay hrd hwl hlo
 obtain rfl:dV = .none:=Dflts.none hD hdf
 obtain rfl:kV = .none:=Dflts.noKw hD
 obtain⟨a,vs,ns,rfl,rfl,hobj,hints,hlen⟩:=BR hn hpre hwl
 refine enter_call (Xb (call w s₀ s₁ mg mb fa o pm cd doc a vs ns G Y ho (fd_plain hd) hcd hmg hobj hints hlen hg) fun r s' hq=>?_)
 obtain⟨rfl,h2,h3,h4⟩:=hq
 exact⟨.inl ⟨.bool true,.bool true,[],U,fun _=>U,.bool true,DR l _,fun _=>⟨aad,fun _ hm=>(nomatch hm)⟩⟩,h2,h3,h4⟩
section
variable {prog:Uq}{w:U3}{A:UW}{E:ET}{s:TV}{K:Frag}
theorem Mz {R:Z3->TV->Prop}{name qual:Ut}{params:aaV}{body:E8}{scope:Wo}{dV kV doc pm cdv ct oc:Value}{an od:EZ}{osl:Array (EW)}{f:Addr}{args:Args}{binds:EO}
  (X:K.In s.heap) (hlim:s.heap.NoLimit) (ho:K.lookup f=some ⟨oc,od,.func (fnOf name qual params body scope dV kV doc pm an cdv ct),osl⟩) (hcd:codeIn K cdv qual=true) (hroom:A.depth < recursionLimit)
  (hbind:aax s (fnOf name qual params body scope dV kV doc pm an cdv ct) args binds)
  (hkind:(binds.all fun y=>scope.names.lookup y.1 == some .local || scope.names.lookup y.1 == some .cell)=true)
  (h:∀ s₁,InCallC s s.heap.objs.size (bindL (envOfC qual scope s.heap.objs.size f cdv).kindOf binds fun _=>none) (aam (s.heap.objs.size+1) scope.names [])
    (bindC (envOfC qual scope s.heap.objs.size f cdv).kindOf binds fun _=>none) s₁ →
   T7 (Ue prog w) (A.deeper (envOfC qual scope s.heap.objs.size f cdv)) (execs body (envOfC qual scope s.heap.objs.size f cdv))
    (fun fl s'=>R (.ok (.ret (match fl with | .ret v=>v | _=>.none))) s')
    (fun e s'=>T7 (Ue prog w) (A.deeper (envOfC qual scope s.heap.objs.size f cdv)) (leaving (envOfC qual scope s.heap.objs.size f cdv) e) (fun _ s''=>R (.error e) s'') (fun e' s''=>R (.error e') s'') s') s₁)
  (hco:scope.isCoroutine=false) (hgen:scope.isGenerator=false) (hk:scope.kind = .function):Vz (Ue prog w) A (.call (.ref f) args) R s:=by
 refine codeAny_call_function hroom (X _ _ ho) U hco hgen U (codeRec_of X hcd) (hbind _ _ _ _ ?_)
 refine wpAny_newFunctionEnv_cells hk (kindsX hkind _) fun env he s₁ x=>?_
 subst he
 exact⟨hlim.keeps x.toInCall.keep,codeAny_func (h s₁ x)⟩
end
end Att
namespace L2
open PySem PySem.Spec PyProof.Rows
theorem iJ:∀ {vs:E4} {ns:E9},VB vs ns->Vals (ns.map V.int) vs
 | _,_,.nil=>.nil
 | _,_,.cons n t h=>.cons ⟨t,U⟩ (iJ h)
def inClass (s:Stmt)(j:Nat):Stmt:=match s with
 | .ClassDef _ _ _ body _ _ _ _ _ _ _=>body.getD j (.Pass ⟨0,0,0,0⟩)
 | _=>.Pass ⟨0,0,0,0⟩
def cu (s:Stmt):aaV:=match s with
 | .FunctionDef _ a _ _ _ _ _ _ _ _=>a
 | _=>{ posonlyargs:=[],args:=[],vararg:=none,kwonlyargs:=[],kw_defaults:=[],kwarg:=none,defaults:=[] }
def aZ (s:Stmt):E8:=match s with
 | .FunctionDef _ _ b _ _ _ _ _ _ _=>b
 | _=>[]
def au (s:Stmt):Wo:=match s with
 | .FunctionDef _ _ _ _ _ _ sc _ _ _=>sc
 | _=>{ kind:=.function,names:=[],isGenerator:=false,isCoroutine:=false }
abbrev CX0:CXT:=fun _ _ _ _ _ _=>False
abbrev E0:XK:=fun _ _ _=>False
theorem lF {X:Cx}:Passes CX0 X E0:=fun _ _ _ _ _ _ _ h=>h.elim
structure Fun (K:Ud)(x qual:Ut)(st:Stmt)(f:Addr)(fd:Vn):Prop where
 ex:∃ (oc:Value) (od:EZ) (kV doc pm:Value) (an:EZ) (cdv ct:Value) (osl:Array (EW)),
  fd=Xq x qual (cu st) (aZ st) (au st) .none kV doc pm an cdv ct/\K.lookup f=some ⟨oc,od,.func fd,osl⟩/\Yt K cdv qual=true
 kp:Wa K (.ref f)=true
section
variable {P:Uq}{w:U3}{K:Ud}{mg:Ut->Option Value}{base:Va}
theorem Fun.ok {x qual:Ut}{st:Stmt}{f:Addr}{fd:Vn}{N ps:Fh}{k:Nat}{sp:Sp}(F:Fun K x qual st f fd)(S:aB N ps (au st))(len:∀ vs H Q E,sp vs H Q E->vs.length=ps.length)
  (hbody:∀ (cdv:Value) (A:UW) (outer:Fk) (s:TV) (H:Hp) (vs:List V) (Q:VK) (E:XK),dF k (A.deeper (envOfC qual (au st) s.heap.objs.size f cdv))->sp vs H Q E →
   ∃ t,PSs (wA CX0 P w K mg base N qual (au st) f cdv A outer s H E).nox (aZ st) t/\t { nx:=fun _ H'=>Q .non H',rt:=Q } (start N vs) H):aY P w K mg base CX0 (k+1) f fd ps sp:=by
 obtain⟨oc,od,kV,doc,pm,an,cdv,ct,osl,rfl,lk,hcd⟩:=F.ex
 refine Lj lk hcd S len fun A outer s H vs Q E hr hsp=>?_
 obtain⟨t,h,q⟩:=hbody cdv A outer s H vs Q E hr hsp
 exact⟨t,h.nox,q⟩
theorem Fun.binds {x qual:Ut}{st:Stmt}{f:Addr}{fd:Vn}{ps:Fh}(F:Fun K x qual st f fd)
  (h:∀ (kV doc pm:Value) (an:EZ) (cdv ct:Value) (us:E4),us.length=ps.length->Ym (Xq x qual (cu st) (aZ st) (au st) .none kV doc pm an cdv ct) ⟨us,[]⟩=pure (ps.zip us)):Binds K fd ps []:=by
 obtain⟨oc,od,kV,doc,pm,an,cdv,ct,osl,rfl,lk,hcd⟩:=F.ex
 exact .all (h kV doc pm an cdv ct)
theorem pR {x qual:Ut}{st:Stmt}{f:Addr}{oc:Value}{od an:EZ}{osl:Array (EW)}{kV doc pm cdv ct:Value}(l:K.lookup f=some ⟨oc,od,.func (Xq x qual (cu st) (aZ st) (au st) .none kV doc pm an cdv ct),osl⟩)
  (c:Yt K cdv qual=true) (k:Wa K (.ref f)=true):Fun K x qual st f (Xq x qual (cu st) (aZ st) (au st) .none kV doc pm an cdv ct):=⟨⟨oc,od,kV,doc,pm,an,cdv,ct,osl,U,l,c⟩,k⟩
end
theorem aF {n:Nat}(h:n<=1000):n < sizeLine:=X4 h (by decide)
section
variable {X:Cx}
theorem pv (i:Nat){x:Ut}{pos:Yg}(hN:X.N[i]? = some x:=by rfl)(hv:Vis X.env.scope x:=by first | exact ZG rfl | exact Zc (ZG rfl) | exact Zc (Zc rfl))(hd:(x == ("__debug__" : Ut))=false:=by decide)
  (hcd:(x == ("__classdict__" : Ut))=false:=by decide):PE X (.Name x pos) (Jp i):=J7 hN hv hd hcd
end
theorem bZ {A B:Prop}(h:B):if false=true then A else B:=by
 rw[if_neg T5]
 exact h
theorem dq {A B:Prop}(h:A):if true=true then A else B:=by
 rw[if_pos U]
 exact h
theorem wI {c A B:Prop}[Decidable c](h1:c->A)(h2:¬ c->B):if c then A else B:=by
 by_cases h:c
 ·rw[if_pos h]
  exact h1 h
 ·rw[if_neg h]
  exact h2 h
def aH (H H':Hp):Prop:=∀ b o,H b=some o->H' b=some o
theorem aH.refl (H:Hp):aH H H:=fun _ _ h=>h
theorem aH.trans {H H1 H2:Hp}(a:aH H H1)(b:aH H1 H2):aH H H2:=fun c o h=>b c o (a c o h)
theorem aH.free {H H':Hp}(e:aH H H'){l:Addr}(h:H' l=Option.none):H l=Option.none:=by
 cases q:H l with
 | none=>rfl
 | some o =>
  rw[e l o q] at h
  cases h
theorem aH.seq {K:Ud}{H H':Hp}{a:Addr}{xs:List V}(e:aH H H')(h:SqL K H a xs):SqL K H' a xs:=by
 rcases h with (h | ⟨o,h⟩) | h
 ·exact .inl (.inl (e _ _ h))
 ·exact .inl (.inr ⟨o,e _ _ h⟩)
 ·exact .inr h
end L2
set_option maxHeartbeats 4000000
namespace L2
open PySem PySem.Spec PyProof.Rows
theorem wK {env:Zz}:∀ {names:EV} {x:Ut},names.lookup x=some .free →
  (names.map fun (n,k)=>if (k == Wj && env.scope.kind == .function && env.kindOf n == some .cell) then (n,Zo) else (n,k)).lookup x=some .cell ∨
  (names.map fun (n,k)=>if (k == Wj && env.scope.kind == .function && env.kindOf n == some .cell) then (n,Zo) else (n,k)).lookup x=some .free
 | [],_,h=>by simp at h
 | (n,k)::r,x,h=>by
  have ih:=@wK env r x
  rw[U0]
  cases hx:x == n with
  | true =>
   rw[Vk,hx] at h
   cases h
   by_cases hc:(Wj == Wj && env.scope.kind == .function && env.kindOf n == some .cell)=true
   ·refine .inl ?_
    dsimp only
    rw[if_pos hc,Vk,hx]
   ·refine .inr ?_
    dsimp only
    rw[if_neg hc,Vk,hx]
  | false =>
   rw[Vk,hx] at h
   dsimp only
   by_cases hc:(k == Wj && env.scope.kind == .function && env.kindOf n == some .cell)=true
   ·rw[if_pos hc,Vk,hx];exact ih h
   ·rw[if_neg hc,Vk,hx];exact ih h
theorem oh {env:Zz}:∀ {names:EV} {x:Ut} {k':Z4},
  (names.map fun (n,k)=>if (k == Wj && env.scope.kind == .function && env.kindOf n == some .cell) then (n,Zo) else (n,k)).lookup x=some k'->names.lookup x=some k'∨names.lookup x=some .free
 | [],_,_,h=>by simp at h
 | (n,k)::r,x,k',h=>by
  have ih:=@oh env r x k'
  rw[U0] at h
  dsimp only at h
  cases hx:x == n with
  | true =>
   rw[Vk,hx]
   by_cases hc:(k == Wj && env.scope.kind == .function && env.kindOf n == some .cell)=true
   ·have hk:k = .free:=by
     rw[Vt,Vt] at hc
     exact eq_of_beq hc.1.1
    exact .inr (by rw[hk])
   ·rw[if_neg hc,Vk,hx] at h
    exact .inl h
  | false =>
   rw[Vk,hx]
   by_cases hc:(k == Wj && env.scope.kind == .function && env.kindOf n == some .cell)=true
   ·rw[if_pos hc,Vk,hx] at h;exact ih h
   ·rw[if_neg hc,Vk,hx] at h;exact ih h
theorem yc {env:Zz}:∀ (names:EV) (acc:ER),(∀ y∈names,y.2 = .free->∃ c,env.cells.lookup y.1=some c)->(∀ n c,acc.lookup n=some c->env.cells.lookup n=some c) →
  ∃ cl,(forIn names acc (fun (x:Ut × Z4) (r:ER)=>(match x with | (name,kind)=>if (kind == Wj)=true then (do let c ← cellOf env name;pure (Y6 ((name,c)::r))) else pure (Y6 r):Sem (ForInStep (ER)))))=pure cl ∧
   (∀ n c,cl.lookup n=some c->env.cells.lookup n=some c)/\(∀ n c,acc.lookup n=some c->∃ c',cl.lookup n=some c')/\∀ y∈names,y.2 = .free->∃ c,cl.lookup y.1=some c
 | [],acc,_,h=>⟨acc,by rw[aaQ],h,fun _ c e=>⟨c,e⟩,fun y hy=>by simp at hy⟩
 | (n,k)::r,acc,hf,h=>by
  rw[abM]
  dsimp only
  by_cases hk:(k == Wj)=true
  ·rw[if_pos hk]
   have hk':k = .free:=eq_of_beq hk
   obtain⟨c,hc⟩:=hf (n,k) Uc hk'
   have hc:env.cells.lookup n=some c:=hc
   have ec:cellOf env n=pure c:=by unfold cellOf;rw[hc]
   have h2:∀ m d,((n,c)::acc).lookup m=some d->env.cells.lookup m=some d:=fun m d e=>by
    rw[Vk] at e
    cases hx:m == n with
    | true=>rw[hx] at e;cases e;rw[eq_of_beq hx];exact hc
    | false=>rw[hx] at e;exact h m d e
   obtain⟨cl,e1,e2,e3,e4⟩:=yc r ((n,c)::acc) (fun y hy=>hf y (Ug _ hy)) h2
   refine⟨cl,by rw[ec,pure_bind,pure_bind];exact e1,e2,fun m d e=>?_,fun y hy hyf=>?_⟩
   ·refine (match hx:m == n with | true=>e3 m c (by rw[Vk,hx]) | false=>e3 m d (by rw[Vk,hx];exact e))
   ·rcases List.mem_cons.mp hy with rfl | hy
    ·exact e3 n c (by rw[Vk,beq_self_eq_true])
    ·exact e4 y hy hyf
  ·rw[if_neg hk]
   obtain⟨cl,e1,e2,e3,e4⟩:=yc r acc (fun y hy=>hf y (Ug _ hy)) h
   refine⟨cl,by rw[pure_bind];exact e1,e2,e3,fun y hy hyf=>?_⟩
   rcases List.mem_cons.mp hy with rfl | hy
   ·exact absurd (by rw[show k=Wj from hyf];rfl) hk
   ·exact e4 y hy hyf
theorem pO {scope:Wo}{env:Zz}(h:∀ y∈scope.names,y.2 = .free->∃ c,env.cells.lookup y.1=some c) :
  ∃ cl,closureFor scope env=pure cl/\(∀ n c,cl.lookup n=some c->env.cells.lookup n=some c)/\∀ y∈scope.names,y.2 = .free->∃ c,cl.lookup y.1=some c:=by
 obtain⟨cl,e1,e2,_,e4⟩:=yc scope.names [] h (fun _ _ e=>by simp at e)
 refine⟨cl,?_,e2,e4⟩
 unfold closureFor
 first
  | exact e1
  | (rw[← bind_pure (x:=pure cl),← e1];rfl)
  | (simp only[bind_pure];exact e1)
def aW (X:Cx)(scope:Wo)(cl:ER)(C:Addr)(N:Fh)(s:TV)(H:Hp)(fp:E6):Cx :=
 {X with N:=N,s₀:=s,H₀:=H,env:=Z0 scope cl C X.env,outer:=X.stack,ex:=fp,fn:=fun _=>false,pn:=[],xe:=fun _ _=>False }
structure mj (X:Cx)(scope:Wo)(F:Fh)(cap:Fa):Prop where
 kind:scope.kind = .function
 cell:∀ y∈scope.names,y.2≠.cell
 nms:∀ y∈scope.names,y.2 = .local->scope.names.lookup y.1=some .local
 fr:∀ y∈scope.names,y.2 = .free->X.env.kindOf y.1=some .cell∨X.env.kindOf y.1=some .free
 len:cap.length=F.length
 at':∀ (k:Nat) (x:Ut),F[k]? = some x->∃ i,cap[k]? = some i/\X.N[i]? = some x/\scope.names.lookup x=some .free
def PTs (X:Cx)(ifs:E7)(t:TT):Prop :=
 ∀ (ZY:EQ) (s:TV) (σ:St) (H:Hp) (Q:Bool->Hp->Prop),Inv X ZY σ H s->t σ H Q →
  T7 (Ue X.prog X.w) X.A (forIn ifs true fun c r=>if r=true then do let ok ← isTrue c X.env (VD c X.env);pure (Y6 ok) else pure (Y6 r)) (TP X ZY σ Q) X.xe s
def JC:TT:=fun _ H Q=>Q true H
theorem bF {X:Cx}:PTs X [] JC:=fun _ _ _ H _ I h=>wpAny_tests_nil ⟨H,I,h⟩
theorem pZ {X:Cx}{c:Expr}{t:TT}(hc:PT X c t):PTs X [c] t:=fun ZY s σ H Q I h=>wpAny_tests_one (hc ZY s σ H Q I h)
theorem rD {prog:Uq}{w:U3}{A:UW}{R:Z3->TV->Prop}{s:TV}{elt target iter:Expr}{ifs:E7}{scope:Wo}{pos:Yg}{it acc:Value}{env:Zz}(I:Nat->TV->Prop)
  (turn:∀ n s,I n s->T7 (Ue prog w) A (Xn it) (fun r s₁=>match r with
   | none=>R (.ok .next) s₁
   | some v=>T7 (Ue prog w) A (Xo target it v) (fun _ s₀=>T7 (Ue prog w) A (aar target env v) (fun _ s₂ =>
     T7 (Ue prog w) A (forIn ifs true fun c r=>if r=true then do let ok ← isTrue c env (VD c env);pure (Y6 ok) else pure (Y6 r)) (fun ok s₃ =>
      if ok=true then T7 (Ue prog w) A (VD elt env) (fun x s₄=>T7 (Ue prog w) A (call (.builtin "list.append") [acc,x]) (fun _ s₅=>∃ m,m < n/\I m s₅) (fun _ _=>False) s₄) (fun _ _=>False) s₃
      else ∃ m,m < n/\I m s₃) (fun _ _=>False) s₂) (fun _ _=>False) s₀) (fun _ _=>False) s₁) (fun _ _=>False) s)
  (n:Nat) (h:I n s):Vz (Ue prog w) A (.compLoop (.ListComp elt [⟨target,iter,ifs,0⟩] scope pos) 0 it acc env) R s:=by
 have no:∀ {E:ET} (x:Value) (s':TV),(fun (_:Value) (_:TV)=>False) x s'->E x s':=fun _ _ z=>z.elim
 refine codeAny_loop U I (fun n s hI=>?_) n h
 refine (show T7 (Ue prog w) A ((compTurn (.ListComp elt [⟨target,iter,ifs,0⟩] scope pos) 0 it acc env).onRaise (fun x=>do ZS x env;abG x)) _ _ s from wpAny_noted ?_)
 rw[compTurn_list]
 refine TF (Xg (TF (Vd (turn n s hI) (fun r s₁ h₁=>?_) no)))
 cases r with
 | none=>exact TX h₁
 | some v =>
  refine TF (Vd h₁ (fun _ s₀ h₀=>TF (Vd h₀ (fun _ s₂ h₂=>TF (Vd h₂ (fun ok s₃ h₃=>?_) no)) no)) no)
  cases ok with
  | false=>exact TX ⟨U,h₃⟩
  | true=>exact TF (TF (Vd h₃ (fun x s₄ h₄=>TF (Vd h₄ (fun _ s₅ h₅=>TX (TX ⟨U,h₅⟩)) no)) no))
def gG (D:Addr)(σ0:St)(J:It)(g:TG)(tt:TT)(te:TE)(H1:Hp)(Q:Hp->Prop):Prop :=
 ∃ W:Nat->Nat->List V->St->Hp->Prop,(∃ m,W 0 m [] σ0 (upd H1 D (.lst []))) ∧
  ∀ i m ys σ' H',W i m ys σ' H'->H' D=some (.lst ys)/\((J.stop i H'/\Q H')∨(J.go i H'/\∃ N:List V->St->Hp->Prop,(∀ zs σ2 H2,N zs σ2 H2->∃ m',m' < m/\W (i+1) m' zs σ2 H2) ∧
   ∀ x H2,J.yld i H' x H2->g x σ' H2 fun σ3 H3=>tt σ3 H3 fun b H4=>if b=true then te σ3 H4 fun y H5=>H5 D=some (.lst ys)/\ys.length < sizeLine/\N (ys++[y]) σ3 (upd H5 D (.lst (ys++[y]))) else N ys σ3 H4))
def DK (n:Nat)(cap:Fa)(σ:St):St:=Uy n none++cap.map fun i=>(σ[i]?).join
def N7 (n:Nat)(cap:Fa)(wi:TI)(g:TG)(tt:TT)(te:TE):TE:=fun σ H Q=>wi σ H fun J H1=>∀ D,H1 D=none->gG D (DK n cap σ) J g tt te H1 fun H2=>Q (.ref D) H2
section
variable {X:Cx}{elt tg iter:Expr}{ifs:E7}{scope:Wo}{pos:Yg}{L F:Fh}{cap:Fa}{wi:TI}{g:TG}{tt:TT}{te:TE}
theorem ou {ZY:EQ}{σ:St}{H:Hp}{s:TV}(I:Inv X ZY σ H s){b:Addr}(h1:b≠X.env.locals)(h2:b ∉ X.fs):b ∉ frs X.stack:=fun z=>(List.mem_cons.mp (I.rm b z)).elim h1 h2
theorem rC {cl:ER}{ZY:EQ}{σ:St}{H:Hp}{s:TV}{fp:E6}{h₁:Va}{tk:Nat}(ok:mj X scope F cap)(I:Inv X ZY σ H s)(hfp:∀ b∈fp,qJ X ZY H b/\b < s.heap.objs.size)
  (sub:∀ n c,cl.lookup n=some c->X.env.cells.lookup n=some c) (all:∀ y∈scope.names,y.2 = .free->∃ c,cl.lookup y.1=some c)
  (ns:h₁.Ns s.heap.objs.size fun _=>none) (kp:∀ b o,s.heap.get? b=some o->h₁.get? b=some o) :
  Inv (aW X scope cl s.heap.objs.size (L++F) s H fp) [] (DK L.length cap σ) H { s with heap:=h₁,toks:=tk }:=by
 have frk:∀ x,scope.names.lookup x=some .free->X.env.kindOf x=some .cell∨X.env.kindOf x=some .free:=fun x e=>ok.fr (x,.free) (U8 e) U
 have okX:(aW X scope cl s.heap.objs.size (L++F) s H fp).Ok:=by
  refine⟨I.ok.mod,ok.kind,I.ok.glob,I.ok.blt,T6 _,fun x y c e1 e2=>I.ok.inj x y c (sub x c e1) (sub y c e2),fun x hx=>?_,fun x c hx _=>?_,I.ok.hd,I.ok.frames,.inl U,fun b hb=>?_,I.bs,UL I.ok.bsz I.sz,fun b o e hb=>?_,fun b hb=>?_,I.stack,I.sG⟩
  ·have e:scope.names.lookup x=some .free:=by
    rcases hx with hx | hx
    ·rcases oh (env:=X.env) (show _=some Zo from hx) with e | e
     ·exact absurd U (ok.cell _ (U8 e))
     ·exact e
    ·rcases oh (env:=X.env) (show _=some Wj from hx) with e | e <;> exact e
   exact all (x,.free) (U8 e) U
  ·exact absurd (show false=true from hx) T5
  ·exact⟨Um (hfp b hb).2,fun x c e=>(hfp b hb).1.2.2.2.2.1 x c (sub x c e)⟩
  ·obtain⟨_,_,_,f3,_⟩:=(hfp b hb).1
   rcases f3 with z | z
   ·exact I.ok.noex b o e z
   ·exact absurd (T4 (Ua e) (UL I.ok.bsz z)) (Vb _)
  ·obtain⟨_,f1,f2,_⟩:=(hfp b hb).1
   exact ou I f1 f2
 refine⟨okX,U,I.bare,Un.kept kp,⟨_,ns,fun i x v e1 e2 e3=>?_⟩,fun x c e=>?_,I.hok.fresh (T6 _),fun x c e=>I.freeC x c (sub x c e),fun p hp=>absurd (show p∈([]:EQ) from hp) (by simp),I.hok.kept kp,?_⟩
 ·have e1:(L++F)[i]? = some x:=e1
  have e2:(Uy L.length none++cap.map fun i=>(σ[i]?).join)[i]? = some (some v):=e2
  have hL:¬ i < L.length:=fun hi=>by
   rw[Z8 (by simpa using hi),XN] at e2
   split at e2 <;> cases e2
  have hi:L.length<=i:=abv hL
  rw[Xl hi] at e1
  rw[Xl (by simpa using hi),Wf,Ux] at e2
  obtain⟨j,hj,hN,hk⟩:=ok.at' _ _ e1
  rw[hj] at e2
  have e4:(σ[j]?).join=some v:=by simpa using e2
  have e5:σ[j]? = some (some v):=by
   cases q:σ[j]? with
   | none=>rw[q] at e4;cases e4
   | some a=>rw[q] at e4;exact congrArg some e4
  obtain⟨m,hn,hl⟩:=I.loc
  have kd:=frk x hk
  obtain⟨u,r,lk⟩:=hl j x v hN e5 (kd.elim (fun z=>.inr (.inl z)) fun z=>.inr (.inr z))
  obtain⟨c,hc,hcell⟩:∃ c,X.env.cells.lookup x=some c/\s.heap.IsCell c (some u):=by
   rcases lk with⟨z,_⟩ | ⟨_,c,z1,z2⟩
   ·rcases kd with y | y <;> (rw[y] at z;cases z)
   ·exact⟨c,z1,z2⟩
  obtain⟨c',hc'⟩:=all (x,.free) (U8 hk) U
  have ec:c'=c:=by
   have:=sub x c' hc'
   rw[hc] at this
   exact (U5 this).symm
  subst ec
  obtain⟨o,ho,hd⟩:=hcell
  exact⟨u,r,.inr ⟨(wK (env:=X.env) hk),c',hc',o,kp _ _ ho,hd⟩⟩
 ·obtain⟨v,o,ho,hd⟩:=I.cell x c (sub x c e)
  exact⟨v,o,kp _ _ ho,hd⟩
 ·show (Uy L.length (none:Option V)++cap.map fun i=>(σ[i]?).join).length=(L++F).length
  rw[Ui,Ui,Wf,TJ,ok.len]
theorem yV {cl:ER}{ZY:EQ}{σ:St}{s2:TV}{H2:Hp}{it:Addr}{fp:E6}{tn:Nat->Va->Prop}{J:It}{use:EL}{QQ:ET}{Z:Hp->Prop}{E:ET}
  (hc:X.calm=true) (ok:mj X scope F cap)
  (sub:∀ n c,cl.lookup n=some c->X.env.cells.lookup n=some c) (all:∀ y∈scope.names,y.2 = .free->∃ c,cl.lookup y.1=some c)
  (hg:∀ cl C s H fp,PG (aW X scope cl C (L++F) s H fp) tg g) (ht:∀ cl C s H fp,PTs (aW X scope cl C (L++F) s H fp) ifs tt) (he:∀ cl C s H fp,PE (aW X scope cl C (L++F) s H fp) elt te)
  (I2:Inv X ZY σ H2 s2) (T:Turn X.prog X.w X.K tg J fp it tn) (st2:tn 0 s2.heap) (f2:∀ b∈fp,qJ X ZY H2 b)
  (q2:gG s2.heap.objs.size (DK L.length cap σ) J g tt te H2 Z)
  (fin:∀ (C:Addr) (s':TV) (H':Hp),Z H'->Inv X ZY σ H' s'->(∃ m,s'.heap.Ns C m)->H' C=none->C≠X.env.locals->X.s₀.heap.objs.size<=C->(∀ x c,X.env.cells.lookup x=some c->c≠C)->(∀ p∈X.pn++ZY,p.1≠C) →
   YM (Ue X.prog X.w) X.A E use QQ (.ref s2.heap.objs.size) C (.ok .next) s') :
  T7 (Ue X.prog X.w) X.A (newList []) (fun acc s₃=>T7 (Ue X.prog X.w) X.A (ZZ scope X.env.globals cl [] X.env.qual none .none (some X.env)) (fun cenv s₄ =>
   Vz (Ue X.prog X.w) X.A (.compStart (.ListComp elt [⟨tg,iter,ifs,0⟩] scope pos) 0 (.ref it) acc { cenv with scope:=relabel scope X.env }) (YM (Ue X.prog X.w) X.A E use QQ acc cenv.locals) s₄) E s₃) E s2:=by
 have hD:H2 s2.heap.objs.size=none:=I2.fresh
 refine U4 (aaJ ok.cell (by intro y hy;simp at hy) (fun h₁ hns₁ hsb₁=>?_) ok.kind)
 dsimp only at hns₁ hsb₁ ⊢
 have I3:Inv X ZY σ (upd H2 s2.heap.objs.size (.lst [])) { s2 with heap:=s2.heap.push { cls:=.type "list",data:=.seq ([]:E4).toArray } }:=I2.O3 (t':=s2.toks) (ys:=[]) (its:=[]) .nil (U9 _)
 have blt:∀ b∈fp,b < s2.heap.objs.size:=fun b hb=>let ⟨_,e,_⟩:=T.obj 0 _ st2 b hb;Ua e
 have szC:(s2.heap.push { cls:=.type "list",data:=.seq ([]:E4).toArray }).objs.size=s2.heap.objs.size+1:=Ve _ _
 generalize hs3:({ s2 with heap:=s2.heap.push { cls:=.type "list",data:=.seq ([]:E4).toArray } }:TV)=s3 at I3
 have es3:s3.heap=s2.heap.push { cls:=.type "list",data:=.seq ([]:E4).toArray }:=by rw[← hs3]
 have eos:s3.os=s2.os:=by rw[← hs3]
 have fok:∀ b∈fp,qJ X ZY (upd H2 s2.heap.objs.size (.lst [])) b/\b < s3.heap.objs.size:=fun b hb=>by
  obtain⟨f0,fr⟩:=f2 b hb
  refine⟨⟨by rw[aD (Um (blt b hb))];exact f0,fr⟩,?_⟩
  rw[es3,szC]
  exact Vv (blt b hb)
 have hkp:∀ b o,s3.heap.get? b=some o->h₁.get? b=some o:=fun b o e=>by
  have e':b < s3.heap.objs.size:=Ua e
  rw[es3] at e e'
  exact (hsb₁.2 b (Um e')).trans (TQ _ e)
 have hns:h₁.Ns s3.heap.objs.size fun _=>none:=by
  rw[es3]
  exact hns₁
 have I4:∀ tk,Inv (aW X scope cl s3.heap.objs.size (L++F) s3 (upd H2 s2.heap.objs.size (.lst [])) fp) [] (DK L.length cap σ) (upd H2 s2.heap.objs.size (.lst [])) { s3 with heap:=h₁,toks:=tk }:=fun tk =>
  rC (L:=L) ok I3 fok sub all hns hkp
 have stat:∀ {H':Hp},(∀ b∈fp,H' b=none)->∀ b∈fp,qJ (aW X scope cl s3.heap.objs.size (L++F) s3 (upd H2 s2.heap.objs.size (.lst [])) fp) [] H' b:=fun {H'} hn b hb=>by
  obtain⟨⟨_,g1,g2,g3,g4,g5⟩,g6⟩:=fok b hb
  exact⟨hn b hb,Um g6,ou I3 g1 g2,.inl hb,fun x c e=>g4 x c (sub x c e),fun p hp=>absurd (show p∈([]:EQ) from hp) (by simp)⟩
 have loop:∀ tk,Vz (Ue X.prog X.w) X.A (.compLoop (.ListComp elt [⟨tg,iter,ifs,0⟩] scope pos) 0 (.ref it) (.ref s2.heap.objs.size) (Z0 scope cl s3.heap.objs.size X.env))
   (YM (Ue X.prog X.w) X.A E use QQ (.ref s2.heap.objs.size) s3.heap.objs.size) { s3 with heap:=h₁,toks:=tk }:=fun tk=>by
  obtain⟨W,⟨m0,w0⟩,turn⟩:=q2
  have st3:tn 0 h₁:=T.keep 0 _ _ st2 fun b hb o e=>hkp b o (by rw[es3];exact TQ _ e)
  refine rD (fun n s'=>∃ i ys σ' H',Inv (aW X scope cl s3.heap.objs.size (L++F) s3 (upd H2 s2.heap.objs.size (.lst [])) fp) [] σ' H' s'/\tn i s'.heap/\(∀ b∈fp,H' b=none)/\W i n ys σ' H') ?_ m0
   ⟨0,[],_,_,I4 tk,st3,fun b hb=>(fok b hb).1.1,w0⟩
  rintro n s5 ⟨i,ys,σ5,H5,I5,st5,fr5,w5⟩
  obtain⟨hDl,alt⟩:=turn i n ys σ5 H5 w5
  rcases alt with⟨stop,qz⟩ | ⟨go,N,hN,step⟩
  ·refine thn (T.done (aW X scope cl s3.heap.objs.size (L++F) s3 (upd H2 s2.heap.objs.size (.lst [])) fp) U U U hc i [] s5 σ5 H5 _ I5 (stat fr5) st5 stop) fun r s6 ⟨hr,I6⟩=>?_
   subst hr
   have un:Un (frs X.stack) fp H2 H5 s2.heap s6.heap:=by
    have u1:Un (frs X.stack) fp H2 (upd H2 s2.heap.objs.size (.lst [])) s2.heap s3.heap:=by
     rw[es3]
     exact Un.laid (fun _ _ q=>TQ _ q) (T6 _) hD
    exact u1.trans I6.base
   have J1:Inv X ZY σ H5 s6:=I2.call' (I6.os.trans eos) un I6.hok I6.bare fun b hb=>by
    obtain⟨_,g1,_,g3,g4,g5⟩:=f2 b hb
    exact⟨g3,g1,g4,g5⟩
   have hC:s2.heap.objs.size<=s3.heap.objs.size:=by rw[es3,szC];exact We _
   obtain⟨m,hm,_⟩:=I6.loc
   refine fin s3.heap.objs.size s6 H5 qz J1 ⟨m,hm⟩ I6.free (Wc (T4 I2.lt hC)) (UL I2.sz hC) (fun x c e z=>?_) (fun p hp z=>?_)
   ·obtain⟨v,q⟩:=I2.cell x c e
    exact absurd (T4 q.lt (by rw[z];exact hC)) (Vb _)
   ·exact absurd (T4 (Ua (I2.pin p hp).1) (by rw[z];exact hC)) (Vb _)
  ·refine thn (T.item (aW X scope cl s3.heap.objs.size (L++F) s3 (upd H2 s2.heap.objs.size (.lst [])) fp) U U U hc i [] s5 σ5 H5 _ I5 (stat fr5) st5 go) fun r s6 ⟨u,hr,h6⟩=>?_
   subst hr
   refine thn h6 fun _ s7 ⟨x,H7,I7,r7,y7,st7,fr7⟩=>?_
   have I7':=I7.pinned (stat fr7) (T.obj _ _ st7)
   refine thn (hg _ _ _ _ _ _ s7 σ5 H7 x u _ I7' r7 (step x H7 y7)) fun _ s8 ⟨σ8,H8,I8,q8⟩=>?_
   have again:∀ {σ9:St} {H9:Hp} {s9:TV} {zs:List V},Inv (aW X scope cl s3.heap.objs.size (L++F) s3 (upd H2 s2.heap.objs.size (.lst [])) fp) ([]++jY fp s7.heap) σ9 H9 s9->N zs σ9 H9 →
     ∃ m,m < n/\∃ i ys σ' H',Inv (aW X scope cl s3.heap.objs.size (L++F) s3 (upd H2 s2.heap.objs.size (.lst [])) fp) [] σ' H' s9/\tn i s9.heap/\(∀ b∈fp,H' b=none)/\W i m ys σ' H':=fun {σ9 H9 s9 zs} I9 n9=>by
    obtain⟨m',hm,w9⟩:=hN zs σ9 H9 n9
    refine⟨m',hm,i+1,zs,σ9,H9,I9.gB,T.keep _ _ _ st7 fun b hb o e=>(I9.pin (b,o) (Uv _ (Uv _ (cj hb e)))).1,fun b hb=>?_,w9⟩
    obtain⟨o,e,d⟩:=T.obj _ _ st7 b hb
    exact (I9.pin (b,o) (Uv _ (Uv _ (cj hb e)))).2.1
   refine thn (ht _ _ _ _ _ _ s8 σ8 H8 _ I8 q8) fun okb s9 ⟨H9,I9,q9⟩=>?_
   cases okb with
   | false =>
    rw[if_neg T5] at q9 ⊢
    exact again I9 q9
   | true =>
    rw[if_pos U] at q9 ⊢
    refine thn (he _ _ _ _ _ _ s9 σ8 H9 _ I9 q9) fun y s10 ⟨yv,H10,I10,r10,e10,z10,n10⟩=>?_
    refine thn (cL _ s10 σ8 H10 (.ref s2.heap.objs.size) [yv] (.ref s2.heap.objs.size) [y] (fun _ H'=>N (ys++[yv]) σ8 H') I10 U (.cons r10 .nil) ⟨_,ys,yv,U,U,e10,z10,n10⟩) fun _ s11 ⟨_,H11,I11,_,n11⟩=>?_
    exact again I11 n11
 have eC:(s2.heap.push { cls:=.type "list",data:=.seq ([]:E4).toArray }).objs.size=s3.heap.objs.size:=by rw[es3]
 have goal:∀ tk,Vz (Ue X.prog X.w) X.A (.compStart (.ListComp elt [⟨tg,iter,ifs,0⟩] scope pos) 0 (.ref it) (.ref s2.heap.objs.size) (Z0 scope cl s3.heap.objs.size X.env))
   (YM (Ue X.prog X.w) X.A E use QQ (.ref s2.heap.objs.size) s3.heap.objs.size) { s3 with heap:=h₁,toks:=tk }:=fun tk =>
  aaq (loop tk) (T.self _ 0 _ _ _ (T.keep 0 _ _ st2 fun b hb o e=>hkp b o (by rw[es3];exact TQ _ e)) (loop tk))
 have g0:=goal (s2.toks+([]:EO).length)
 subst hs3
 exact g0
theorem bj (hc:X.calm=true)(ok:mj X scope F cap)(hi:PI X tg iter wi)
  (hg:∀ cl C s H fp,PG (aW X scope cl C (L++F) s H fp) tg g) (ht:∀ cl C s H fp,PTs (aW X scope cl C (L++F) s H fp) ifs tt) (he:∀ cl C s H fp,PE (aW X scope cl C (L++F) s H fp) elt te)
  (hs:∀ x,Ww iter X.env x=pure x:=by intro _;rfl):PE X (.ListComp elt [⟨tg,iter,ifs,0⟩] scope pos) (N7 L.length cap wi g tt te):=by
 intro ZY s σ H Q I h
 obtain⟨cl,e1,e2,e3⟩:=pO (scope:=scope) (env:=X.env) (fun y hy hf=>I.ok.has _ (ok.fr y hy hf))
 rw[eval_ListComp]
 refine YL (use:=none) U hs e1 ok.kind ok.nms (thn (hi ZY s σ H _ I h) fun v s1 h1=>thn h1 fun itv s2 h2=>?_)
 obtain⟨it,fp,tn,J,H2,e,I2,T,st2,f2,q2⟩:=h2
 subst e
 refine yV (Z:=fun H'=>Q (.ref s2.heap.objs.size) H') hc ok e2 e3 hg ht he I2 T st2 f2 (q2 _ I2.fresh) fun C s' H' z J m hCf hCl hCs hCc hCp=>?_
 ·obtain⟨m,hm⟩:=m
  exact⟨m,hm,fun h' hs'=>⟨.ref _,H',J.turned (t':=s'.toks) (fun b o hb e=>(hs'.2 b hb).trans e) hCf hCl (.inr hCs) hCc hCp,U,z⟩⟩
def NQ (n:Nat)(cap:Fa)(wi:TI)(g:TG)(tt:TT)(te:TE)(j:Nat):TS:=fun D σ H=>wi σ H fun J H1=>∀ d,H1 d=none->gG d (DK n cap σ) J g tt te H1 fun H2=>D.nx (σ.set j (some (.ref d))) H2
theorem wV {j:Nat}{y:Ut}{py spos:Yg}(hN:X.N.Nodup)(hj:X.N[j]? = some y)(hy:Loc X.env.scope y)(hc:X.calm=true)(ok:mj X scope F cap)(hi:PI X tg iter wi)
  (hg:∀ cl C s H fp,PG (aW X scope cl C (L++F) s H fp) tg g) (ht:∀ cl C s H fp,PTs (aW X scope cl C (L++F) s H fp) ifs tt) (he:∀ cl C s H fp,PE (aW X scope cl C (L++F) s H fp) elt te)
  (hsw:ZR (.ListComp elt [⟨tg,iter,ifs,0⟩] scope pos) (some (.Name y py)) spos.line X.env=pure true:=by rfl)
  (hs:∀ x,Ww iter X.env x=pure x:=by intro _;rfl) (hf:X.fn y=true∨X.env.scope.names.lookup y=some .local:=by first | exact .inl rfl | exact .inr rfl | assumption) :
  PS X (.Assign [.Name y py] (.ListComp elt [⟨tg,iter,ifs,0⟩] scope pos) spos) (NQ L.length cap wi g tt te j):=by
 intro ZY s σ H D I h
 obtain⟨cl,e1,e2,e3⟩:=pO (scope:=scope) (env:=X.env) (fun y hy hf=>I.ok.has _ (ok.fr y hy hf))
 rw[exec_Assign_Name_used _ _ _ _ hsw]
 refine TF (Xg (TF ?_))
 show T7 (Ue X.prog X.w) X.A (do let _ ← comprehension (.ListComp elt [⟨tg,iter,ifs,0⟩] scope pos) scope X.env _ (newList []) false (VD iter X.env) (some (aar (.Name y py) X.env))) _ _ s
 refine TF (Vd (YL (use:=some (aar (.Name y py) X.env)) (Q:=fun _ s'=>SP X ZY D .next s') U hs e1 ok.kind ok.nms
  (thn (hi ZY s σ H _ I h) fun v s1 h1=>thn h1 fun itv s2 h2=>?_)) (fun _ s' hq=>TX (TX hq)) fun _ _ e=>e)
 obtain⟨it,fp,tn,J,H2,e,I2,T,st2,f2,q2⟩:=h2
 subst e
 refine yV (Z:=fun H'=>D.nx (σ.set j (some (.ref s2.heap.objs.size))) H') hc ok e2 e3 hg ht he I2 T st2 f2 (q2 _ I2.fresh) fun C s' H' z J m hCf hCl hCs hCc hCp=>?_
 obtain⟨m,hm⟩:=m
 refine wpAny_assign_Name (vM J hN hj hy (v:=.ref s2.heap.objs.size) U (fun s5 I5 hs5=>?_) hf)
 obtain⟨a,sb,ha⟩:=hs5
 have hne:C≠a:=by
  rcases ha with rfl | ha
  ·exact hCl
  ·exact VM (hCc y a ha)
 exact⟨m,hm.sameBut sb hne,fun h' hs'=>⟨_,H',I5.turned (t':=s5.toks) (fun b o hb e=>(hs'.2 b hb).trans e) hCf hCl (.inr hCs) hCc hCp,z⟩⟩
end
structure Df (P:Uq)(w:U3)(K:Ud)(mg:Ut->EW)(base:Va)(x:Ut)(k:Nat)(ps:Fh)(sp:Sp):Prop where
 ex:∃ (f:Addr) (fd:Vn),aY P w K mg base CX0 k f fd ps sp/\mg x=some (.ref f)/\Wa K (.ref f)=true/\Binds K fd ps []
section
variable {X:Cx}{k j:Nat}{x:Ut}{ps:Fh}{sp:Sp}{p pos:Yg}{e:Expr}{es:E7}{t:TA}
theorem aP (D:Df X.prog X.w X.K X.mg X.base x k ps sp)(hr:dF j X.A)(ha:PA X (e::es) t)(hk:k<=j:=by first | decide | exact T6 _ | lia)(hg:Gl X x:=by rfl)
  (hdb:(x == ("__debug__" : Ut))=false:=by decide) (he:Ur (e::es) X.env=(false,VD e X.env)::Ur es X.env:=by rfl) (hpl:(Wt pos (Ur es X.env)).any (·.1)=false:=by rfl) :
  PE X (.Call (.Name x p) (e::es) [] pos) (GK sp [] E0 t):=by
 obtain⟨f,fd,F,hm,hkp,hb⟩:=D.ex
 exact FJ F (hr.mono hk) hg hm hkp hb .nil lF ha hdb he hpl
theorem mR {i:Int}{tk:Tok}(hm:X.mg x=some (.int i tk))(hg:Gl X x:=by rfl)(hd:(x == ("__debug__" : Ut))=false:=by decide):PE X (.Name x pos) (tC (.int i)):=Mu hg hm ⟨_,U⟩ hd
theorem iD {T:String}(hm:X.mg x=none)(hv:Vi x=some (.type T))(hg:Gl X x:=by rfl)(hn:x≠"__name__":=by decide)(hd:(x == ("__debug__" : Ut))=false:=by decide):PE X (.Name x pos) (tC (.ty T)):=Ls hg hm hv U hn hd
inductive uA (K:Uw)(xs:List V)(H:Hp)(Q:VK):Prop where
 | mk (x:V) (T:String) (t:Value) (b:Bool) (_:xs=[x,.ty T]) (_:Bj K H x t) (_:Yn K t (.type T)=some b) (_:Q (.bl b) H)
theorem bM:fZ X (.builtin "isinstance") (uA X.K):=by
 intro ZY s σ H xs us Q I r h
 obtain⟨x,T,t,b,rfl,ty,e,q⟩:=h
 obtain⟨u,v,rfl,ru,rv⟩:=vals2 r
 cases (show v=Yp T from rv)
 exact Ew I ru ty e fun tk=>⟨.bl b,H,I.tok tk,U,q⟩
def RZ (K:Uw):List V->Hp->VK->Prop:=fun xs H Q=>∃ (p:Addr) (ys:List V),xs=[.ref p]/\(SqL K H p ys∨SqT K H p ys)/\Q (.int ys.length) H
theorem Gd:fZ X (.builtin "len") (RZ X.K):=v8
def sV (K:Uw):List V->Hp->VK->Prop:=fun xs H Q=>∃ (p:Addr) (ys:List V),xs=[.ref p]/\(SqL K H p ys∨SqT K H p ys)/\∀ l,H l=none->Q (.ref l) (upd H l (.lst ys))
theorem kh:fZ X (.type "list") (sV X.K):=vf
def gm (K:Uw):List V->Hp->VK->Prop:=fun xs H Q=>∃ (p:Addr) (ys:List V),xs=[.ref p]/\((SqL K H p ys/\∀ l,H l=none->Q (.ref l) (upd H l (.tup ys)))∨(SqT K H p ys/\Q (.ref p) H))
theorem bu:fZ X (.type "tuple") (gm X.K):=ue
theorem jh:∀ bs:List Bool,(VV bs.length).all (fun i=>bs.getD i true)=bs.all fun b=>b
 | []=>rfl
 | b::r=>by
  have ih:=jh r
  rw[Uj,aaw,Zq,abl,Zq,← ih]
  rfl
inductive Jx (K:Uw)(xs:List V)(H:Hp)(Q:VK):Prop where
 | mk (p:Addr) (bs:List Bool) (_:xs=[.ref p]) (_:SqL K H p (bs.map V.bl)) (_:Q (.bl (bs.all fun b=>b)) H)
theorem pN (hc:X.calm=true):fZ X (.builtin "all") (Jx X.K):=by
 intro ZY s σ H xs us Q I r h
 obtain⟨p,bs,rfl,hq,q⟩:=h
 obtain⟨u,rfl,ru⟩:=vals1 r
 cases ru
 obtain⟨its,rv,pl,hz⟩:=I.list hq
 have hlen:bs.length=its.length:=by simpa using rv.length
 refine call_all_walk (Yc pl.isList ?_)
 have I1:Inv X ZY σ H { s with heap:=s.heap.push { cls:=.type "list_iterator",data:=.fields #[.ref p,.int 0 0] } }:=I.kept (t':=s.toks) fun b o e=>TQ _ e
 have hne:p≠s.heap.objs.size:=by
  obtain⟨o,ho,_⟩:=pl.isList
  exact Um (Ua ho)
 refine⟨s.heap.objs.size,_,_,_,_,_,fun i=>bs.getD i true,U,aa5 (A:=X.A.in1) (I.ok.hd hc) s.heap.objs.size p hne its.toArray,⟨⟨_,T9 _ U,U,U⟩,?_⟩,?_,fun h' tk hk=>?_⟩
 ·obtain⟨o,ho,hr⟩:=pl.isList
  exact⟨o,TQ _ ho,hr⟩
 ·intro i v s' Q' E' hP hQ
  have hP:its[i]? = some v:=by simpa using hP
  have hi:i < bs.length:=by
   rw[hlen]
   exact (List.getElem?_eq_some_iff.mp hP).1
  obtain⟨u',hu',ru'⟩:=rv.get (i:=i) (x:=V.bl bs[i]) (by rw[Ux,T8 hi];rfl)
  rw[hP] at hu'
  cases hu'
  cases (show v=aas bs[i] from ru')
  refine Wu ?_
  have eg:bs.getD i true=bs[i]:=by rw[TY,T8 hi];rfl
  have hQ':Q' (bs.getD i true) s':=hQ
  rw[eg] at hQ'
  exact hQ'
 ·have f:=I.Kd (b:=s.heap.objs.size) (H':=H) (T6 _) I.fresh
  have eall:(VV its.toArray.size).all (fun i=>bs.getD i true)=bs.all fun b=>b:=by
   have el:its.toArray.size=bs.length:=by rw[Ul,hlen]
   rw[el]
   exact jh bs
  rw[eall]
  exact⟨.bl _,H,I1.turned (t':=tk) (it:=s.heap.objs.size) (fun b o hb e=>hk b o (by simpa using hb) e) f.1 f.2.1 f.2.2.2.1 f.2.2.2.2.1 f.2.2.2.2.2,U,q⟩
end
def Em (osc:Wo)(oN:Fh)(sc:Wo)(F:Fh)(cap:Fa):Bool :=
 decide (sc.kind = .function) && sc.names.all (fun y=>!decide (y.2 = .cell)) && sc.names.all (fun y=>!decide (y.2 = .local) || decide (sc.names.lookup y.1=some .local)) &&
 sc.names.all (fun y=>!decide (y.2 = .free) || decide (osc.names.lookup y.1=some .cell) || decide (osc.names.lookup y.1=some .free)) && decide (cap.length=F.length) &&
 (VV F.length).all fun k=>(decide (F[k]? = none) || decide ((cap[k]?.bind fun i=>oN[i]?)=F[k]?)) && decide ((F[k]?.bind fun x=>sc.names.lookup x)=some .free)
theorem aV {X:Cx}{osc sc:Wo}{oN F:Fh}{cap:Fa}(ho:X.env.scope=osc)(hN:X.N=oN)(h:Em osc oN sc F cap=true):mj X sc F cap:=by
 unfold Em at h
 simp only[Vt] at h
 obtain⟨⟨⟨⟨⟨h1,h2⟩,h3⟩,h4⟩,h5⟩,h6⟩:=h
 refine⟨of_decide_eq_true h1,fun y hy e=>?_,fun y hy e=>?_,fun y hy e=>?_,of_decide_eq_true h5,fun k x e=>?_⟩
 ·have:=List.all_eq_true.mp h2 y hy
  rw[e] at this
  exact absurd this (by decide)
 ·have:=List.all_eq_true.mp h3 y hy
  rw[decide_eq_true e] at this
  exact of_decide_eq_true (by simpa using this)
 ·have:=List.all_eq_true.mp h4 y hy
  rw[decide_eq_true e] at this
  have z:decide (osc.names.lookup y.1=some .cell)=true∨decide (osc.names.lookup y.1=some .free)=true:=by
   rw[Bool.not_true,aak,Y7] at this
   exact this
  show X.env.scope.names.lookup y.1=_∨X.env.scope.names.lookup y.1=_
  rw[ho]
  exact z.elim (fun q=>.inl (of_decide_eq_true q)) fun q=>.inr (of_decide_eq_true q)
 ·have hk:k < F.length:=(List.getElem?_eq_some_iff.mp e).1
  have q:=List.all_eq_true.mp h6 k (List.mem_range.mpr hk)
  rw[e,Vt] at q
  obtain⟨q1,q2⟩:=q
  have q1:(cap[k]?.bind fun i=>oN[i]?)=some x:=by
   rw[Y7] at q1
   rcases q1 with z | z
   ·exact absurd (of_decide_eq_true z) (by simp)
   ·exact of_decide_eq_true z
  have q2:sc.names.lookup x=some .free:=of_decide_eq_true q2
  cases hc:cap[k]? with
  | none=>rw[hc] at q1;cases q1
  | some i =>
   rw[hc] at q1
   exact⟨i,U,by rw[hN];exact q1,q2⟩
theorem LQ {X:Cx}{scope:Wo}{cl:ER}{C:Addr}{N:Fh}{s:TV}{H:Hp}{fp:E6}(h:N.Nodup):(aW X scope cl C N s H fp).N.Nodup:=h
section
variable {K:Uw}{a D:Addr}{xs:List V}{g:TG}{tt:TT}{te:TE}{H1:Hp}{Q:Hp->Prop}{σ0:St}
theorem bU (Pv:Nat->List V->St->Hp->Prop)(h0:Pv 0 [] σ0 (upd H1 D (.lst [])))(hl:∀ i ys σ H,i<=xs.length->Pv i ys σ H->SqT K H a xs/\H D=some (.lst ys))
  (hs:∀ i ys x σ H,xs[i]? = some x->Pv i ys σ H->g x σ H fun σ3 H3=>tt σ3 H3 fun b H4=>if b=true then te σ3 H4 fun y H5=>H5 D=some (.lst ys)/\ys.length < sizeLine/\Pv (i+1) (ys++[y]) σ3 (upd H5 D (.lst (ys++[y]))) else Pv (i+1) ys σ3 H4)
  (hd:∀ ys σ H,Pv xs.length ys σ H->Q H):gG D σ0 (Itt K a) g tt te H1 Q:=by
 refine⟨fun i m ys σ H=>m=xs.length - i/\i<=xs.length/\Pv i ys σ H,⟨xs.length,by simp,U9 _,h0⟩,?_⟩
 rintro i m ys σ H ⟨rfl,hi,p⟩
 obtain⟨q,qD⟩:=hl i ys σ H hi p
 refine⟨qD,?_⟩
 by_cases hlt:i < xs.length
 ·refine .inr ⟨⟨xs,xs[i],q,by simp [hlt]⟩,Pv (i+1),fun zs σ' H' p'=>⟨xs.length - (i+1),by lia,U,hlt,p'⟩,fun x H' y=>?_⟩
  obtain⟨e,y⟩:=y
  subst e
  exact hs i ys x σ _ (y xs q) p
 ·have e:i=xs.length:=by lia
  subst e
  exact .inl ⟨⟨xs,q,T6 _⟩,hd ys σ H p⟩
theorem eN (Pv:Nat->List V->St->Hp->Prop)(h0:Pv 0 [] σ0 (upd H1 D (.lst [])))(hl:∀ i ys σ H,i<=xs.length->Pv i ys σ H->SqL K H a xs/\H D=some (.lst ys))
  (hs:∀ i ys x σ H,xs[i]? = some x->Pv i ys σ H->g x σ H fun σ3 H3=>tt σ3 H3 fun b H4=>if b=true then te σ3 H4 fun y H5=>H5 D=some (.lst ys)/\ys.length < sizeLine/\Pv (i+1) (ys++[y]) σ3 (upd H5 D (.lst (ys++[y]))) else Pv (i+1) ys σ3 H4)
  (hd:∀ ys σ H,Pv xs.length ys σ H->Q H):gG D σ0 (Itl K a) g tt te H1 Q:=by
 refine⟨fun i m ys σ H=>m=xs.length - i/\i<=xs.length/\Pv i ys σ H,⟨xs.length,by simp,U9 _,h0⟩,?_⟩
 rintro i m ys σ H ⟨rfl,hi,p⟩
 obtain⟨q,qD⟩:=hl i ys σ H hi p
 refine⟨qD,?_⟩
 by_cases hlt:i < xs.length
 ·refine .inr ⟨⟨xs,xs[i],q,by simp [hlt]⟩,Pv (i+1),fun zs σ' H' p'=>⟨xs.length - (i+1),by lia,U,hlt,p'⟩,fun x H' y=>?_⟩
  obtain⟨e,y⟩:=y
  subst e
  exact hs i ys x σ _ (y xs q) p
 ·have e:i=xs.length:=by lia
  subst e
  exact .inl ⟨⟨xs,q,T6 _⟩,hd ys σ H p⟩
theorem dW {lo:Int}{n:Nat}(Pv:Nat->List V->St->Hp->Prop)(h0:Pv 0 [] σ0 (upd H1 D (.lst [])))(hl:∀ i ys σ H,i<=n->Pv i ys σ H->H D=some (.lst ys))
  (hs:∀ i ys σ H,i < n->Pv i ys σ H->g (.int (lo+i)) σ H fun σ3 H3=>tt σ3 H3 fun b H4=>if b=true then te σ3 H4 fun y H5=>H5 D=some (.lst ys)/\ys.length < sizeLine/\Pv (i+1) (ys++[y]) σ3 (upd H5 D (.lst (ys++[y]))) else Pv (i+1) ys σ3 H4)
  (hd:∀ ys σ H,Pv n ys σ H->Q H):gG D σ0 (Itr lo n) g tt te H1 Q:=by
 refine⟨fun i m ys σ H=>m=n - i/\i<=n/\Pv i ys σ H,⟨n,by simp,U9 _,h0⟩,?_⟩
 rintro i m ys σ H ⟨rfl,hi,p⟩
 refine⟨hl i ys σ H hi p,?_⟩
 by_cases hlt:i < n
 ·refine .inr ⟨hlt,Pv (i+1),fun zs σ' H' p'=>⟨n - (i+1),by lia,U,hlt,p'⟩,fun x H' y=>?_⟩
  obtain⟨e,y⟩:=y
  subst e y
  exact hs i ys σ _ hlt p
 ·have e:i=n:=by lia
  subst e
  exact .inl ⟨T6 _,hd ys σ H p⟩
end
structure Bt (mg:Ut->EW):Prop where
 len_:mg "len" = none
 range_:mg "range" = none
 all_:mg "all" = none
 isinstance_:mg "isinstance" = none
 int_:mg "int" = none
 bool_:mg "bool" = none
 str_:mg "str" = none
 list_:mg "list" = none
 tuple_:mg "tuple" = none
 abs_:mg "abs" = none
 max_:mg "max" = none
 min_:mg "min" = none
 sum_:mg "sum" = none
 sorted_:mg "sorted" = none
 zip_:mg "zip" = none
 reversed_:mg "reversed" = none
 divmod_:mg "divmod" = none
 set_:mg "set" = none
 any_:mg "any" = none
 enumerate_:mg "enumerate" = none
theorem Kc:Vi "len" = some (.builtin "len"):=PySem.boot_len
theorem El:Vi "all" = some (.builtin "all"):=by decide+kernel
theorem aO:Vi "isinstance" = some (.builtin "isinstance"):=by decide+kernel
theorem yU:Vi "abs" = some (.builtin "abs"):=by decide+kernel
theorem qQ:Vi "max" = some (.builtin "max"):=by decide+kernel
theorem Ql:Vi "min" = some (.builtin "min"):=by decide+kernel
theorem Gg:Vi "sum" = some (.builtin "sum"):=by decide+kernel
theorem vU:Vi "int" = some (.type "int"):=by decide+kernel
theorem yE:Vi "bool" = some (.type "bool"):=by decide+kernel
theorem Ko:Vi "str" = some (.type "str"):=by decide+kernel
theorem oG:Vi "list" = some (.type "list"):=by decide+kernel
theorem bC:Vi "tuple" = some (.type "tuple"):=by decide+kernel
theorem dD (K:Uw)(T:String):Yn K (.type T) (.type T)=some true:=by
 unfold PySem.W.kitOne
 rw[if_pos (beq_self_eq_true _)]
theorem jD (K:Uw):Yn K (.type "int") (.type "bool")=some false:=by kernel_rfl
theorem oJ (K:Uw):Yn K (.type "bool") (.type "int")=some true:=by kernel_rfl
theorem Br (K:Uw):Yn K (.type "int") (.type "str")=some false:=by kernel_rfl
theorem xm (K:Uw):Yn K (.type "bool") (.type "str")=some false:=by kernel_rfl
theorem vQ (K:Uw):Yn K (.type "tuple") (.type "str")=some false:=by kernel_rfl
theorem xg (K:Uw):Yn K (.type "list") (.type "str")=some false:=by kernel_rfl
theorem wz (K:Uw):Yn K (.type "tuple") (.type "int")=some false:=by kernel_rfl
theorem yt (K:Uw):Yn K (.type "list") (.type "int")=some false:=by kernel_rfl
theorem jX (K:Uw):Yn K (.type "tuple") (.type "list")=some false:=by kernel_rfl
theorem j0 (K:Uw):Yn K (.type "list") (.type "tuple")=some false:=by kernel_rfl
theorem Ai (K:Uw):Yn K (.type "str") (.type "int")=some false:=by kernel_rfl
inductive Dm where
 | non | bl (b:Bool) | int (i:Int) | str (x:Ut) | tup (ds:List Dm) | lst (ds:List Dm)
mutual
def Dm.dep:Dm->Nat
 | .tup ds=>Bs ds+1
 | .lst ds=>Bs ds+1
 | _=>0
def Bs:List Dm->Nat
 | []=>0
 | d::r=>max d.dep (Bs r)
end
mutual
inductive Rep (H:Hp):V->Dm->Prop where
 | non:Rep H .non .non
 | bl (b:Bool):Rep H (.bl b) (.bl b)
 | int (i:Int):Rep H (.int i) (.int i)
 | str (x:Ut):Rep H (.str x) (.str x)
 | tup {a:Addr} {xs:List V} {ds:List Dm}:H a=some (.tup xs)->xs.length<=100000->vA H xs ds->Rep H (.ref a) (.tup ds)
 | lst {a:Addr} {xs:List V} {ds:List Dm}:H a=some (.lst xs)->xs.length<=100000->vA H xs ds->Rep H (.ref a) (.lst ds)
inductive vA (H:Hp):List V->List Dm->Prop where
 | nil:vA H [] []
 | cons {v:V} {d:Dm} {vs:List V} {ds:List Dm}:Rep H v d->vA H vs ds->vA H (v::vs) (d::ds)
end
mutual
theorem Rep.mono {H H':Hp}(e:aH H H'):∀ {v:V} {d:Dm},Rep H v d->Rep H' v d
 | _,_,.non=>.non
 | _,_,.bl b=>.bl b
 | _,_,.int i=>.int i
 | _,_,.str x=>.str x
 | _,_,.tup h l r=>.tup (e _ _ h) l (vA.mono e r)
 | _,_,.lst h l r=>.lst (e _ _ h) l (vA.mono e r)
theorem vA.mono {H H':Hp}(e:aH H H'):∀ {vs:List V} {ds:List Dm},vA H vs ds->vA H' vs ds
 | _,_,.nil=>.nil
 | _,_,.cons h r=>.cons (Rep.mono e h) (vA.mono e r)
end
theorem vA.length {H:Hp}:∀ {vs:List V} {ds:List Dm},vA H vs ds->vs.length=ds.length
 | _,_,.nil=>rfl
 | _,_,.cons _ r=>by rw[Uj,Uj,vA.length r]
theorem vA.get {H:Hp}:∀ {vs:List V} {ds:List Dm} {i:Nat},vA H vs ds->i < vs.length->∃ v d,vs[i]? = some v/\ds[i]? = some d/\Rep H v d
 | _,_,_,.nil,h=>absurd h (aaC _)
 | _,_,0,.cons h _,_=>⟨_,_,U,U,h⟩
 | _,_,i+1,.cons _ r,h=>by
  obtain⟨v,d,e1,e2,e3⟩:=vA.get (i:=i) r (aav h)
  exact⟨v,d,by simpa using e1,by simpa using e2,e3⟩
theorem sS:∀ {ds:List Dm} {i:Nat} {d:Dm},ds[i]? = some d->d.dep<=Bs ds
 | [],_,_,h=>by simp at h
 | d::r,0,_,h=>by
  cases (show some d=some _ from h)
  rw[Bs]
  exact Nat.le_max_left _ _
 | d::r,i+1,_,h=>by
  rw[Bs]
  exact UL (sS (i:=i) (ds:=r) (by simpa using h)) (Nat.le_max_right _ _)
section
variable {X:Cx}
inductive Sq (K:Uw)(x:V)(y:V)(H:Hp)(Q:VK):Prop where
 | mk (a b:Addr) (xs:List V) (_:x = .ref a) (_:y = .ref b) (_:SqL K H a xs) (_:SqL K H b []) (_:Q (.bl xs.isEmpty) H)
theorem QC (hu:X.A.units < cLine):OpR X (WM .Eq) (Sq X.K):=by
 intro ZY s σ H x y v u Q I rx ry h
 obtain⟨a,b,xs,rfl,rfl,ha,hb,q⟩:=h
 cases rx
 cases ry
 obtain⟨its,r1,p1,_⟩:=I.list ha
 obtain⟨its2,r2,p2,_⟩:=I.list hb
 cases r2
 cases r1 with
 | nil=>exact SeqAt.eq_listAt (e:=fun _=>true) p1.isList p2.isList U hu (fun j h1 _=>absurd h1 (by simp)) ⟨.bl true,H,I,U,q⟩
 | cons r t=>exact SeqAt.eq_list_lengthsAt p1.isList p2.isList (by simp) hu ⟨.bl false,H,I,U,q⟩
inductive R8 (K:Uw)(x:V)(y:V)(H:Hp)(Q:VK):Prop where
 | mk (a b:Addr) (xs:List V) (_:x = .ref a) (_:y = .ref b) (_:SqL K H a xs) (_:SqL K H b []) (_:Q (.bl (!xs.isEmpty)) H)
theorem PJ (hu:X.A.units < cLine):OpR X (WM .NotEq) (R8 X.K):=by
 intro ZY s σ H x y v u Q I rx ry h
 obtain⟨a,b,xs,rfl,rfl,ha,hb,q⟩:=h
 cases rx
 cases ry
 obtain⟨its,r1,p1,_⟩:=I.list ha
 obtain⟨its2,r2,p2,_⟩:=I.list hb
 cases r2
 cases r1 with
 | nil=>exact SeqAt.RcNeAt.lists (e:=fun _=>true) p1.isList p2.isList U hu (fun j h1 _=>absurd h1 (by simp)) X.prog X.w X.xe _ ⟨.bl false,H,I,U,q⟩
 | cons r t=>exact SeqAt.RcNeAt.lists_lengths p1.isList p2.isList (by simp) hu X.prog X.w X.xe _ ⟨.bl true,H,I,U,q⟩
end
section
variable {prog:Uq}{w:U3}{A:UW}{E:ET}{s:TV}
theorem FT {it t:Addr}{i:Nat}{its:Array Value}{x:Value}{Q:ET}(j:s.heap.IsTupleIter it t i)(ht:s.heap.IsTuple t its)(hx:its[i]? = some x)
  (k:∀ h',h'.IsTupleIter it t (i+1)->Wl it s.heap h'->Q x { s with heap:=h' }):T7 (Ue prog w) A (VP (.ref it)) Q E s:=by
 obtain⟨o,e1,c1,d1⟩:=id j;obtain⟨o2,e2,_,n2,d2⟩:=ht;unfold VP
 refine TF (Vx (name:=Xd "__next__") j.typeIs Yw (Vs Yw j.typeIs abP ?_ (abN _)))
 show T7 _ _ (field (.ref it) 0 >>= _) _ _ s;refine TF (Vo e1 d1 (x:=.ref t) U ?_)
 show T7 _ _ (if (Uk t == Vr)=true then _ else _) _ _ s;rw[if_neg (show ¬ ((Uk t == Vr)=true) from T5)]
 show T7 _ _ (field (.ref it) 1 >>= _) _ _ s;refine TF (Vo e1 d1 (x:=.int i 0) U ?_)
 show T7 _ _ (aal (.ref t) >>= _) _ _ s;refine TF (V5 e2 d2 ?_);simp only[U7,hx]
 refine TF (V0 e1 d1 (by simp) (TX ⟨x,U,TX (k _ ?_ (Vy ..))⟩))
 exact⟨_,UG _ e1 (Zg (X3 d1 _)),(Obj.cls_mapFields ..).trans c1,by rw[X3 d1];simp [Vh]⟩
theorem PK {it t:Addr}{i:Nat}{its:Array Value}{Q:ET}(hh:A.handled=none)(j:s.heap.IsTupleIter it t i)(ht:s.heap.IsTuple t its)(hx:its[i]? = none)
  (k:∀ h' e,Heap.ExtBut it s.heap h'->(∃ o,h'.get? e=some o/\o.cls = .type "StopIteration")->E (.ref e) { s with heap:=h' }):T7 (Ue prog w) A (VP (.ref it)) Q E s:=by
 obtain⟨o,e1,c1,d1⟩:=id j;obtain⟨o2,e2,_,n2,d2⟩:=ht;unfold VP
 refine TF (Vx (name:=Xd "__next__") j.typeIs Yw (Vs Yw j.typeIs abP ?_ (abN _)))
 show T7 _ _ (field (.ref it) 0 >>= _) _ _ s;refine TF (Vo e1 d1 (x:=.ref t) U ?_)
 show T7 _ _ (if (Uk t == Vr)=true then _ else _) _ _ s;rw[if_neg (show ¬ ((Uk t == Vr)=true) from T5)]
 show T7 _ _ (field (.ref it) 1 >>= _) _ _ s;refine TF (Vo e1 d1 (x:=.int i 0) U ?_)
 show T7 _ _ (aal (.ref t) >>= _) _ _ s;refine TF (V5 e2 d2 ?_);simp only[U7,hx]
 refine TF (Yh (TF (V0 e1 d1 (by simp) ?_)));show T7 _ _ (abr (.type "StopIteration") [] >>= _) _ _ _
 refine TF ?_;simp only[abr,newTuple];refine TF (U4 ?_ (by size_fits))
 refine TF (m:=XJ _ _) (WT (a:=Vr) (by first | rfl | (simp only[XJ];rfl)) ?_);refine U4 ?_ (by size_fits)
 simp only[raiseNew];refine TF (aa1 ?_);first | rw[show A.in1.handled=none from hh] | rw[hh]
 refine TF (TX (abz ?_));exact k _ _ (((Vy ..).extBut.push _).push _) ⟨_,T9 _ U,U⟩
structure Zap (z p q i1 i2 l1 l2:Addr):Prop where
 pz:p≠z
 qz:q≠z
 az:i1≠z
 bz:i2≠z
 pq:p≠q
 pa:p≠i1
 pb:p≠i2
 qa:q≠i1
 qb:q≠i2
 ab:i1≠i2
 xz:l1≠z
 xq:l1≠q
 xa:l1≠i1
 xb:l1≠i2
 yz:l2≠z
 yq:l2≠q
 ya:l2≠i1
 yb:l2≠i2
theorem Cy {h h':Va}{a t:Addr}{its:Array Value}(ht:h.IsTuple t its)(sb:Wl a h h')(ne:t≠a):h'.IsTuple t its:=by
 obtain⟨o,e,r⟩:=ht
 exact⟨o,(sb.2 t ne).trans e,r⟩
theorem pX {h h':Va}{a it t:Addr}{i:Nat}(ht:h.IsTupleIter it t i)(sb:Wl a h h')(ne:it≠a):h'.IsTupleIter it t i:=by
 obtain⟨o,e,r⟩:=ht
 exact⟨o,(sb.2 it ne).trans e,r⟩
abbrev zA (h:Va)(t:Addr):Va:=h.push { cls:=.type "tuple_iterator",data:=.fields #[.ref t,.int 0 0] }
end
theorem Inv.uo {X:Cx}{ZY:EQ}{σ:St}{H:Hp}{s:TV}{h':Va}{t':Nat}{ch:E6}(I:Inv X ZY σ H s)(k:∀ b o,b ∉ ch->s.heap.get? b=some o->h'.get? b=some o)(hf:∀ b∈ch,qJ X ZY H b) :
  Inv X ZY σ H { s with heap:=h',toks:=t' }:=by
 have nit:∀ b u,H b=some u->b ∉ ch:=fun b u e z=>by
  have:=(hf b z).1
  rw[this] at e;cases e
 refine I.step (g':=s.gens) (d':=s.drawn) (ch:=ch) (fun b hb=>let ⟨_,f1,_,f3,f4,f5⟩:=hf b hb;⟨f3,f1,f4,f5⟩) (fun b o _ _ hc e _=>k b o hc e) (fun b o _ _ hc e _=>⟨o.slots,k b o hc e⟩) (fun _ _ _ _ n=>n)
  (fun b o hc e=>⟨o,k b o hc e⟩) (fun _ _ e=>e) (fun _ _ _ e=>e) (fun b ps e=>⟨#[],by rw[e];simp⟩) (fun m hm=>?_) (fun b u e=>?_) I.bare
 ·obtain⟨o,es,ep,ho,r⟩:=hm
  exact⟨o,es,ep,k _ o (fun z=>(hf _ z).2.1 U) ho,r⟩
 ·refine (I.hok b u e).stay (fun c v hc q=>k c v ?_ q) (fun _ q=>q) fun _ _ q=>q
  rcases hc with z | z
  ·rw[z];exact nit b u e
  ·exact nit c _ z
theorem M9 {n c d:Nat}(hc:c < n)(hd:d < n):Zap (n+4) (n+2) (n+3) n (n+1) c d:=by
 constructor <;> (refine (fun (h:¬ @Eq Nat _ _)=>h) ?_) <;> lia
theorem o9:∀ ns ms:E9,((VV (min ns.length ms.length)).all (fun j=>ns.getD j 0 == ms.getD j 0) && ns.length == ms.length)=decide (ns=ms)
 | [],[]=>rfl
 | [],m::ms=>by rw[decide_eq_false (by simp)];rfl
 | n::ns,[]=>by rw[decide_eq_false (by simp)];rfl
 | n::ns,m::ms=>by
  have ih:=o9 ns ms
  have e:min (n::ns).length (m::ms).length=min ns.length ms.length+1:=by rw[Uj,Uj];lia
  have el:((n::ns).length == (m::ms).length)=(ns.length == ms.length):=by simp
  have e3:decide (n::ns=m::ms)=(n == m && decide (ns=ms)):=by
   by_cases h1:n=m
   ·subst h1
    by_cases h2:ns=ms
    ·subst h2;simp
    ·simp [h2]
   ·simp [h1]
  rw[e,aaw,Zq,abl,el,e3,← ih,Bool.and_assoc]
  rfl
theorem dZ {X:Cx}{pos:Yg}{K:Uw}{es:E7}{k:Nat}{t:TGs}(n:Nat)(hK:X.K=K)(hc:X.calm=true)(h:PGs X es t)
  (hn:(Zj es X.env).length=n:=by rfl) (hst:(Zj es X.env).findIdx? (·.1)=none:=by rfl):PG X (.Tuple es k pos) (R9 K n t):=by
 subst hK
 exact O8 hc h hn hst
section
variable {X:Cx}
inductive Nz (K:Uw)(x:V)(y:V)(H:Hp)(Q:VK):Prop where
 | mk (a b:Addr) (ns ms:E9) (_:x = .ref a) (_:y = .ref b) (_:SqT K H a (ns.map V.int)) (_:SqT K H b (ms.map V.int)) (_:Q (.bl (decide (ns=ms))) H)
theorem ints_get {ns:E9}{its:E4}(i:VB its ns){j:Nat}(h:j < its.length):∃ t,its[j] = .int (ns.getD j 0) t:=by
 induction i generalizing j with
 | nil=>exact absurd h (aaC _)
 | cons n t r ih =>
  cases j with
  | zero=>exact⟨t,U⟩
  | succ j =>
   obtain⟨u,e⟩:=ih (j:=j) (aav h)
   exact⟨u,by simpa using e⟩
theorem K8 (hu:X.A.units < cLine):OpR X (WM .Eq) (Nz X.K):=by
 intro ZY s σ H x y v u Q I rx ry h
 obtain⟨a,b,ns,ms,rfl,rfl,ha,hb,q⟩:=h
 cases rx
 cases ry
 obtain⟨its,r1,p1,_⟩:=I.tuple ha
 obtain⟨its2,r2,p2,_⟩:=I.tuple hb
 have i1:VB its ns:=intsAre_of r1
 have i2:VB its2 ms:=intsAre_of r2
 have l1:=i1.length
 have l2:=i2.length
 refine SeqAt.eq_tupleAt (e:=fun j=>ns.getD j 0 == ms.getD j 0) (show s.heap.IsTuple a its.toArray from p1) (show s.heap.IsTuple b its2.toArray from p2) hu (fun j h1 h2=>?_) ?_
 ·obtain⟨t,e1⟩:=ints_get i1 (j:=j) (by simpa using h1)
  obtain⟨t',e2⟩:=ints_get i2 (j:=j) (by simpa using h2)
  rw[Zx,Zx,e1,e2]
  exact aa6 _ _ _ _
 ·refine⟨.bl _,H,I,?_,q⟩
  have e:=o9 ns ms
  have s1:its.toArray.size=ns.length:=by rw[Ul];exact l1
  have s2:its2.toArray.size=ms.length:=by rw[Ul];exact l2
  rw[s1,s2,e]
  rfl
inductive uX (K:Uw)(x:V)(y:V)(H:Hp)(Q:VK):Prop where
 | mk (a b:Addr) (xs ys:List V) (_:x = .ref a) (_:y = .ref b) (_:SqT K H a xs) (_:SqT K H b ys) (_:xs.length+ys.length<=sizeLine) (_:(xs=[]->Q (.ref b) H)) (_:(xs≠[]->ys=[]->Q (.ref a) H)) (_:(xs≠[]->ys≠[]->∀ p,H p=none->Q (.ref p) (upd H p (.tup (xs++ys)))))
theorem tW:OpR X (YQ .Add) (uX X.K):=by
 intro ZY s σ H x y v u Q I rx ry h
 obtain⟨a,b,xs,ys,rfl,rfl,ha,hb,hz,q0,q1,q2⟩:=h
 by_cases hx:xs=[]
 ·subst hx
  cases rx
  cases ry
  obtain⟨its,r1,p1,_⟩:=I.tuple ha
  obtain⟨its2,r2,p2,_⟩:=I.tuple hb
  cases r1
  obtain⟨⟨c1,d1,dt1,sl1⟩,ho,hc,n,hd⟩:=id p1
  obtain⟨⟨c2,d2,dt2,sl2⟩,ho2,hc2,n2,hd2⟩:=id p2
  simp only at hc hd hc2 hd2
  subst hc hd hc2 hd2
  exact concat_meets ⟨_,ho,U⟩ ⟨_,ho2,U⟩ abq seq_tuple_add aat aan (aah _ _) (tuple_addW0 a b _ _ n n2 d1 d2 sl1 sl2 U) ⟨ho,ho2,⟨.ref b,H,I,U,q0 U⟩⟩
 ·exact KN ZY s σ H _ _ v u Q I rx ry ⟨a,b,xs,ys,U,U,ha,hb,hx,hz,q1 hx,q2 hx⟩
end
theorem jf:∀ bs:List Bool,(VV bs.length).any (fun i=>bs.getD i false)=bs.any fun b=>b
 | []=>rfl
 | b::r=>by
  have ih:=jf r
  rw[Uj,aaw,X8,List.any_map,X8,← ih]
  rfl
section
variable {X:Cx}
inductive Jy (K:Uw)(xs:List V)(H:Hp)(Q:VK):Prop where
 | mk (p:Addr) (ns:E9) (_:xs=[.ref p]) (_:SqL K H p (ns.map V.int)) (_:Q (.int ns.sum) H)
theorem oW (hc:X.calm=true):fZ X (.builtin "sum") (Jy X.K):=by
 intro ZY s σ H xs us Q I r h
 obtain⟨p,ns,rfl,hq,q⟩:=h
 obtain⟨u,rfl,ru⟩:=vals1 r
 cases ru
 obtain⟨its,rv,pl,hz⟩:=I.list hq
 have hi:VB its ns:=intsAre_of rv
 obtain⟨zs,hx⟩:=hi.allInts.items
 have hl':s.heap.IsList p (intItems zs):=hx▸pl.isList
 refine sum_intListG (I.ok.hd hc) hl' fun h' tk t' hk=>?_
 have e1:ns=zs.toList.map (·.1):=by
  rw[← nums_intItems,← hx]
  exact (show numsOf its.toArray.toList=ns from hi.numsOf).symm
 have e2:preSum (numAt zs) zs.size=ns.sum:=by
  rw[preSum_eq,List.take_of_length_le (by simp),e1]
 rw[e2]
 exact⟨.int _,H,I.kept (t':=tk) hk,⟨_,U⟩,q⟩
inductive Ov (K:Uw)(xs:List V)(H:Hp)(Q:VK):Prop where
 | mk (p:Addr) (bs:List Bool) (_:xs=[.ref p]) (_:SqL K H p (bs.map V.bl)) (_:Q (.bl (bs.any fun b=>b)) H)
theorem Dl (hc:X.calm=true):fZ X (.builtin "any") (Ov X.K):=by
 intro ZY s σ H xs us Q I r h
 obtain⟨p,bs,rfl,hq,q⟩:=h
 obtain⟨u,rfl,ru⟩:=vals1 r
 cases ru
 obtain⟨its,rv,pl,hz⟩:=I.list hq
 have hlen:bs.length=its.length:=by simpa using rv.length
 refine call_any_walk (Yc pl.isList ?_)
 have I1:Inv X ZY σ H { s with heap:=s.heap.push { cls:=.type "list_iterator",data:=.fields #[.ref p,.int 0 0] } }:=I.kept (t':=s.toks) fun b o e=>TQ _ e
 have hne:p≠s.heap.objs.size:=by
  obtain⟨o,ho,_⟩:=pl.isList
  exact Um (Ua ho)
 refine⟨s.heap.objs.size,_,_,_,_,_,fun i=>bs.getD i false,U,aa5 (A:=X.A.in1) (I.ok.hd hc) s.heap.objs.size p hne its.toArray,⟨⟨_,T9 _ U,U,U⟩,?_⟩,?_,fun h' tk hk=>?_⟩
 ·obtain⟨o,ho,hr⟩:=pl.isList
  exact⟨o,TQ _ ho,hr⟩
 ·intro i v s' Q' E' hP hQ
  have hP:its[i]? = some v:=by simpa using hP
  have hi:i < bs.length:=by
   rw[hlen]
   exact (List.getElem?_eq_some_iff.mp hP).1
  obtain⟨u',hu',ru'⟩:=rv.get (i:=i) (x:=V.bl bs[i]) (by rw[Ux,T8 hi];rfl)
  rw[hP] at hu'
  cases hu'
  cases (show v=aas bs[i] from ru')
  refine Wu ?_
  have eg:bs.getD i false=bs[i]:=by rw[TY,T8 hi];rfl
  have hQ':Q' (bs.getD i false) s':=hQ
  rw[eg] at hQ'
  exact hQ'
 ·have f:=I.Kd (b:=s.heap.objs.size) (H':=H) (T6 _) I.fresh
  have eany:(VV its.toArray.size).any (fun i=>bs.getD i false)=bs.any fun b=>b:=by
   have el:its.toArray.size=bs.length:=by rw[Ul,hlen]
   rw[el]
   exact jf bs
  rw[eany]
  exact⟨.bl _,H,I1.turned (t':=tk) (it:=s.heap.objs.size) (fun b o hb e=>hk b o (by simpa using hb) e) f.1 f.2.1 f.2.2.2.1 f.2.2.2.2.1 f.2.2.2.2.2,U,q⟩
end
theorem Qv:Vi "any" = some (.builtin "any"):=by decide+kernel
def Qs:List V->Hp->VK->Prop:=fun xs H Q=>(∃ i,xs=[.int i]/\Q (.int i) H)∨∃ k,xs=[.bl k]/\Q (.int (if k then 1 else 0)) H
end L2
namespace L2
open PySem
def Ris (xs:Array Nat):Prop:=xs.toList.Pairwise (· < ·)
theorem zW {xs:Array Nat}(h:Ris xs){i j x y:Nat}(hij:i < j)(hi:xs[i]? = some x)(hj:xs[j]? = some y):x < y:=by
 rw[← VG] at hi hj
 obtain⟨li,ei⟩:=List.getElem?_eq_some_iff.mp hi
 obtain⟨lj,ej⟩:=List.getElem?_eq_some_iff.mp hj
 have:=List.pairwise_iff_getElem.mp h i j li lj hij
 rw[ei,ej] at this
 exact this
theorem sy {xs:Array Nat}(h:Ris xs)(j:Nat):∀ (fuel lo hi:Nat),hi - lo<=fuel->lo<=hi->hi<=xs.size->(∀ i x,i < lo->xs[i]? = some x->x < j)->(∀ i x,hi<=i->xs[i]? = some x->j<=x) →
  Zb xs j fuel lo hi<=xs.size/\(∀ i x,i < Zb xs j fuel lo hi->xs[i]? = some x->x < j)/\(∀ i x,Zb xs j fuel lo hi<=i->xs[i]? = some x->j<=x)
 | 0,lo,hi,hf,hl,hs,h1,h2=>by
  rw[Zb]
  have e:lo=hi:=by lia
  subst e
  exact⟨hs,h1,h2⟩
 | fuel+1,lo,hi,hf,hl,hs,h1,h2=>by
  rw[Zb]
  by_cases hlt:lo < hi
  ·rw[if_pos hlt]
   dsimp only
   have hm1:lo<=(lo+hi) / 2:=by lia
   have hm2:(lo+hi) / 2 < hi:=by lia
   have hms:(lo+hi) / 2 < xs.size:=by lia
   generalize (lo+hi) / 2=m at *
   have eg:xs[m]? = some xs[m]:=Uz hms
   have ed:xs.getD m j=xs[m]:=by rw[Xf,eg];rfl
   rw[ed]
   by_cases hc:xs[m] < j
   ·rw[if_pos hc]
    refine sy h j fuel (m+1) hi (by lia) (by lia) hs (fun i x hi' e=>?_) h2
    by_cases hm:i=m
    ·subst hm
     rw[eg] at e
     cases e
     exact hc
    ·exact aau (zW h (show i < m by lia) e eg) hc
   ·rw[if_neg hc]
    refine sy h j fuel lo m (by lia) hm1 (by lia) h1 (fun i x hi' e=>?_)
    by_cases hm:i=m
    ·subst hm
     rw[eg] at e
     cases e
     lia
    ·have:=zW h (show m < i by lia) eg e
     lia
  ·rw[if_neg hlt]
   have e:lo=hi:=by lia
   subst e
   exact⟨hs,h1,h2⟩
theorem tX {xs:Array Nat}(h:Ris xs)(j:Nat):V1 xs j<=xs.size/\(∀ i x,i < V1 xs j->xs[i]? = some x->x < j)/\(∀ i x,V1 xs j<=i->xs[i]? = some x->j<=x):=by
 unfold V1
 refine sy h j xs.size 0 xs.size (by lia) (U9 _) (T6 _) (fun i x hi=>absurd hi (aaC _)) fun i x hi e=>?_
 rw[X6 hi] at e
 cases e
theorem below_at {xs:Array Nat}(h:Ris xs){i x:Nat}(e:xs[i]? = some x):V1 xs (x+1)=i+1:=by
 obtain⟨h1,h2,h3⟩:=tX h (x+1)
 have hi:i < xs.size:=(Array.getElem?_eq_some_iff.mp e).1
 generalize V1 xs (x+1)=p at *
 rcases Nat.lt_trichotomy p (i+1) with hp | hp | hp
 ·have:=h3 i x (by lia) e
  lia
 ·exact hp
 ·have hs:i+1 < xs.size:=by lia
  have:=zW h (Wd i) e (Uz hs)
  have:=h2 (i+1) _ hp (Uz hs)
  lia
theorem Aa {xs:Array Nat}(h:Ris xs):V1 xs 0=0:=by
 obtain⟨h1,h2,h3⟩:=tX h 0
 generalize V1 xs 0=p at *
 rcases Nat.eq_zero_or_pos p with hp | hp
 ·exact hp
 ·have hs:0 < xs.size:=by lia
  have:=h2 0 _ hp (Uz hs)
  lia
theorem LR {xs:Array Nat}(h:Ris xs){j:Nat}(hj:xs[V1 xs j]?≠some j):Ris (SetTable.insertAt xs (V1 xs j) j):=by
 obtain⟨h1,h2,h3⟩:=tX h j
 unfold Ris
 rw[SetTable.toList_insertAt]
 generalize hp:V1 xs j=p at *
 have hh:xs.toList.Pairwise (· < ·):=h
 have hlt:∀ x∈xs.toList.take p,x < j:=fun x hx=>by
  obtain⟨i,hi,e⟩:=Xz hx
  rw[Uo] at hi
  rw[List.getElem_take] at e
  exact h2 i x (by lia) (by rw[← VG,T8 (by lia),e])
 have hgt:∀ x∈xs.toList.drop p,j < x:=fun x hx=>by
  obtain⟨i,hi,e⟩:=Xz hx
  rw[aao] at hi
  rw[List.getElem_drop] at e
  have ex:xs[p+i]? = some x:=by rw[← VG,T8 (by lia),e]
  have:=h3 (p+i) x (by lia) ex
  rcases abj j x with q | q
  ·exact q
  ·have ejx:x=j:=by lia
   subst ejx
   by_cases hi0:i=0
   ·subst hi0
    exact absurd ex hj
   ·have hps:p < xs.size:=by
     have:=(Array.getElem?_eq_some_iff.mp ex).1
     lia
    have:=zW h (show p < p+i by lia) (Uz hps) ex
    have:=h3 p _ (T6 _) (Uz hps)
    lia
 rw[Zv]
 refine⟨hh.sublist (List.take_sublist _ _),List.pairwise_cons.mpr ⟨hgt,hh.sublist (List.drop_sublist _ _)⟩,fun a ha b hb=>?_⟩
 rcases List.mem_cons.mp hb with rfl | hb
 ·exact hlt a ha
 ·exact aau (hlt a ha) (hgt b hb)
def nR (t:Yr)(j:Nat):Prop:=t.place[V1 t.place j]?≠some j
theorem rK {t:Yr}{j:Nat}(h:t.slot j = .empty∨t.slot j = .dummy):nR t j:=by
 intro e
 unfold SetTable.slot at h
 dsimp only at h
 rw[e,if_pos (by exact beq_self_eq_true _)] at h
 rcases h with h | h <;> cases h
theorem kj {t:Yr}{f:Nat->Int}{h:Int}:∀ (fuel:Nat) (p:SetTable.Probe) {j:Nat} {d:Option Nat},(∀ x,p.dummy=some x->nR t x)->abf t f h fuel p=some (.empty j d)->nR t j/\∀ x,d=some x->nR t x
 | 0,_,_,_,_,e=>by rw[abf] at e;cases e
 | fuel+1,p,j,d,hd,e=>by
  rw[abf] at e
  have adv:∀ q:SetTable.Probe,(t.advance q).dummy=q.dummy:=fun q=>by
   unfold SetTable.advance
   split <;> rfl
  cases hs:t.slot p.j with
  | empty =>
   rw[hs] at e
   cases e
   exact⟨rK (.inl hs),hd⟩
  | dummy =>
   rw[hs] at e
   dsimp only at e
   refine kj fuel _ (fun x hx=>?_) e
   rw[adv] at hx
   cases hx
   exact rK (.inr hs)
  | live i =>
   rw[hs] at e
   dsimp only at e
   by_cases hc:(f i == h)=true
   ·rw[if_pos hc] at e
    cases e
   ·rw[if_neg hc] at e
    exact kj fuel _ (fun x hx=>by rw[adv] at hx;exact hd x hx) e
theorem wX {t:Yr}{h:Int}{j:Nat}{b:Bool}(e:t.freeSlot h=some (j,b)):nR t j:=by
 unfold SetTable.freeSlot SetTable.probe at e
 split at e
 ·rename_i j' d hp
  obtain⟨h1,h2⟩:=kj _ _ (fun x hx=>by cases hx) hp
  cases e
  cases d with
  | none=>exact h1
  | some x=>exact h2 x U
 ·cases e
structure TOk (b:Bool)(t:Yr):Prop where
 led:t.led=b
 ris:t.plain=true->Ris t.place
theorem Eh (b:Bool):TOk b (.fresh 0 0 b):=⟨U,fun _=>aad⟩
theorem gY {b:Bool}{t:Yr}(h:TOk b t)(n:Nat):TOk b (t.standIn n):=⟨h.led,fun z=>by cases z⟩
theorem Bg {b:Bool}{t:Yr}(h:TOk b t)(es:Array (Int × Value))(k:Int)(x:Value):TOk b (layNew t es k x).2.1:=by
 unfold layNew
 split
 ·rename_i slot wd e
  dsimp only
  unfold SetTable.orStandIn
  have ht:TOk b (t.put slot).1:=⟨h.led,fun z=>LR (h.ris z) (wX e)⟩
  split
  ·exact ht
  ·exact gY ht _
 ·exact gY h _
theorem Hu (owner:Array (Option Nat)):∀ l:Fa,l.Pairwise (· < ·)->((l.filterMap fun j=>(owner.getD j none).map (j,·)).map (·.1)).Pairwise (· < ·):=fun l hl=>by
 have hs:List.Sublist ((l.filterMap fun j=>(owner.getD j none).map (j,·)).map (·.1)) l:=by
  induction l with
  | nil=>exact List.Sublist.slnil
  | cons a r ih =>
   have ih:=ih (List.pairwise_cons.mp hl).2
   rw[ZP]
   cases e:owner.getD a none with
   | none=>exact ih.cons _
   | some k=>exact ih.cons₂ _
 exact hl.sublist hs
theorem uU {b:Bool}{t:Yr}(h:TOk b t)(es:Array (Int × Value))(m:Nat):TOk b (abb t es m).2.1:=by
 unfold abb
 split
 ·rename_i t' order e
  dsimp only
  split
  ·unfold SetTable.relaid SetTable.laid at e
   cases ho:SetTable.layClean (SetTable.sizeAbove m - 1) (es.map (·.1)) with
   | none=>rw[ho] at e;cases e
   | some owner =>
    rw[ho] at e
    cases e
    exact⟨h.led,fun _=>Hu owner _ List.pairwise_lt_range⟩
  ·exact gY h _
 ·exact gY h _
end L2
namespace L2
open PySem PySem.Spec PyProof.Rows
section
variable {P:Uq}{w:U3}{A:UW}{E:Value->TV->Prop}{s:TV}
def lG (P:Uq)(w:U3)(b:Bool)(h:Va)(a:Addr)(ks:E9):Prop :=
 ∃ o es ep t,h.get? a=some o/\o.ExactSet/\o.data = .set es ep t/\ElemsOf (YC P w) es.toList/\t.fits es.size=true/\TOk b t/\∃ ns,VB (es.toList.map (·.2)) ns/\ns.Perm ks
theorem fc {l l':E4}(p:l.Perm l'):∀ {ns:E9},VB l ns->∃ ms,VB l' ms/\ms.Perm ns:=by
 induction p with
 | nil=>intro ns h;exact⟨ns,h,.refl _⟩
 | cons x p ih =>
  intro ns h
  cases h with
  | cons n t r =>
   obtain⟨ms,h1,h2⟩:=ih r
   exact⟨n::ms,.cons n t h1,h2.cons n⟩
 | swap x y l =>
  intro ns h
  cases h with
  | cons n t r =>
   cases r with
   | cons m u r=>exact⟨m::n::_,.cons m u (.cons n t r),.swap _ _ _⟩
 | trans p q ih1 ih2 =>
  intro ns h
  obtain⟨ms,h1,h2⟩:=ih1 h
  obtain⟨ks,h3,h4⟩:=ih2 h1
  exact⟨ks,h3,h4.trans h2⟩
theorem mC {k:Int}{t:Tok}:∀ {l:E4} {ns:E9},VB l ns->VB (l++[.int k t]) (ns++[k])
 | _,_,.nil=>.cons k t .nil
 | _,_,.cons n u r=>.cons n u (mC r)
theorem nT {k:Int}:∀ {l:E4} {ns:E9},VB l ns->(k∈ns ↔ ∃ v∈l,(YC P w).is k v=true)
 | _,_,.nil=>by simp
 | _,_,.cons n t r=>by
  have ih:=nT (k:=k) r
  have e:(YC P w).is k (.int n t)=decide (k=n):=KeyKind.is_eq_decide (intKind_is _ _ _ _) k
  rw[Wb,ih]
  constructor
  ·rintro (h | ⟨v,hv,q⟩)
   ·exact⟨_,Uc,by rw[e];exact decide_eq_true h⟩
   ·exact⟨v,Ug _ hv,q⟩
  ·rintro⟨v,hv,q⟩
   rcases List.mem_cons.mp hv with rfl | hv
   ·rw[e] at q
    exact .inl (of_decide_eq_true q)
   ·exact .inr ⟨v,hv,q⟩
theorem mG {b:Bool}{h:Va}{a:Addr}{o:WL}{es es':Array (Int × Value)}{ep:Nat}{t t':Yr}{ks:E9}(ho:h.get? a=some o)(hx:o.ExactSet)(hd:o.data = .set es ep t)
  (hel:ElemsOf (YC P w) es'.toList) (hf:t'.fits es'.size=true) (tk:TOk b t') (hn:∃ ns,VB (es'.toList.map (·.2)) ns/\ns.Perm ks) :
  (h.update a (aa7 es' t')).get? a=some { o with data:=.set es' (ep+1) t' }/\lG P w b (h.update a (aa7 es' t')) a ks:=by
 have g:(h.update a (aa7 es' t')).get? a=some { o with data:=.set es' (ep+1) t' }:=by
  have q:=UG (aa7 es' t') ho (by rw[putSet_of es' t' hd];rfl)
  rwa [putSet_of es' t' hd] at q
 exact⟨g,_,es',ep+1,t',g,hx,U,hel,hf,tk,hn⟩
theorem Ly {b:Bool}{a:Addr}{ks:E9}{k:Int}{t0:Tok}{Q:Bool->TV->Prop}(hS:lG P w b s.heap a ks)(hroom:ks.length+1 < scanBound)
  (h:∀ h' r,Wl a s.heap h'->lG P w b h' a (step_dedup ks k)->Q r { s with heap:=h' }):T7 (Ue P w) A (setAddHashed a (.int k t0) ((YC P w).hash k)) Q E s:=by
 obtain⟨o,es,ep,t,ho,hx,hd,hel,hf,tk,ns,hi,hp⟩:=hS
 have key:(YC P w).is k (.int k t0)=true:=intKind_is _ _ _ _
 have hlen:es.size=ks.length:=by
  rw[← hp.length_eq,← hi.length,TJ,Vf]
 have hb:es.size < scanBound:=by lia
 have hm:=nT (P:=P) (w:=w) (k:=k) hi
 unfold setAddHashed setAddHashedIn
 refine VL (TF (Yb ho hd hf ?_))
 dsimp only
 rw[byScan_of U hb hel]
 simp only[↓reduceIte]
 unfold setAddByScan
 refine TF (TF (Yh (TF (wpAny_setScan_of key ho hd hf hel ?_))))
 cases hr:es.toList.findIdx? (fun e=>(YC P w).is k e.2) with
 | some j =>
  dsimp only
  obtain⟨hj,q,_⟩:=List.findIdx?_eq_some_iff_getElem.mp hr
  have hk:k∈ks:=hp.mem_iff.mp (hm.mpr ⟨es.toList[j].2,List.mem_map.mpr ⟨_,Wr hj,U⟩,q⟩)
  have es0:step_dedup ks k=ks:=by
   unfold step_dedup
   have hany:(ks.any fun x=>x == k)=true:=List.any_eq_true.mpr ⟨k,hk,beq_self_eq_true k⟩
   rw[if_pos hany]
  have q':=h s.heap false (Heap.SameBut.refl a s.heap) (by rw[es0];exact⟨o,es,ep,t,ho,hx,hd,hel,hf,tk,ns,hi,hp⟩)
  exact TX (TX q')
 | none =>
  dsimp only
  have hk:k ∉ ks:=fun z=>by
   obtain⟨v,hv,q⟩:=hm.mp (hp.mem_iff.mpr z)
   obtain⟨e,he,rfl⟩:=List.mem_map.mp hv
   rw[List.findIdx?_eq_none_iff.mp hr e he] at q
   cases q
  have es0:step_dedup ks k=ks++[k]:=by
   unfold step_dedup
   rw[if_neg]
   intro z
   obtain⟨x,hx',e⟩:=List.any_eq_true.mp z
   exact hk (by rw[← eq_of_beq e];exact hx')
  rw[es0] at h
  have pm:=layNew_perm t es ((YC P w).hash k) (.int k t0)
  have ft:=layNew_fits t es ((YC P w).hash k) (.int k t0)
  have tk1:=Bg tk es ((YC P w).hash k) (.int k t0)
  generalize layNew t es ((YC P w).hash k) (.int k t0)=L at pm ft tk1 ⊢
  obtain⟨es1,t1,wd,gv⟩:=L
  dsimp only at pm ft tk1 ⊢
  rw[Array.toList_push] at pm
  have hel1:ElemsOf (YC P w) es1.toList:=(hel.push key U).perm pm
  have hn1:∃ ns,VB (es1.toList.map (·.2)) ns/\ns.Perm (ks++[k]):=by
   have i1:VB ((es.toList++[((YC P w).hash k,Xj k t0)]).map (·.2)) (ns++[k]):=by
    rw[Ub]
    exact mC hi
   obtain⟨ms,h1,h2⟩:=fc (pm.symm.map (·.2)) i1
   exact⟨ms,h1,h2.trans (hp.append (.refl _))⟩
  have hs1:es1.size<=sizeLine:=by
   have:es1.size=es.size+1:=by rw[← Vf,pm.length_eq,Ui,Vf];rfl
   exact fits_of_scanBound (by lia)
  have gw:∀ (b:Bool) {s₁:TV} {Q':Unit->TV->Prop},Q' () s₁->T7 (Ue P w) A (match b with | true=>rule "set.scan.the-table-gave-way" | false=>pure ()) Q' E s₁:=fun b s₁ Q' hq=>by
   cases b
   ·exact TX hq
   ·exact Yh hq
  have tail:∀ (g:Bool->Sem Unit) (R:E1->TV->Prop) (t2:Yr),(∀ (b:Bool) (s₁:TV) (Q':Unit->TV->Prop),Q' () s₁->T7 (Ue P w) A (g b) Q' E s₁)->t2.fits es1.size=true->TOk b t2 →
    (∀ h',Wl a s.heap h'->lG P w b h' a (ks++[k])->R (some true) { s with heap:=h' })->T7 (Ue P w) A (do
    storeSet a es1 t2
    if (!wd && t2.tooFull)=true then do
      g (abb t2 es1 (Yq es1.size)).2.2
      storeSet a (abb t2 es1 (Yq es1.size)).1 (abb t2 es1 (Yq es1.size)).2.1
      pure (some true)
     else pure (some true)) R E s:=fun g R t2 hg f2 k2 hR=>by
   refine TF (wpAny_storeSet_of ho hd ?_ hs1)
   obtain⟨ho1,hS1⟩:=mG (P:=P) (w:=w) ho hx hd hel1 f2 k2 hn1
   have sb1:=Vy s.heap a (aa7 es1 t2)
   split
   ·have pr:=relayAll_perm t2 es1 (Yq es1.size)
    have fr:=relayAll_fits t2 es1 (Yq es1.size)
    have tr:=uU k2 es1 (Yq es1.size)
    generalize abb t2 es1 (Yq es1.size)=R at pr fr tr ⊢
    obtain⟨es2,t3,g2⟩:=R
    dsimp only at pr fr tr ⊢
    have hn2:∃ ns,VB (es2.toList.map (·.2)) ns/\ns.Perm (ks++[k]):=by
     obtain⟨ns1,i1,p1⟩:=hn1
     obtain⟨ms,h1,h2⟩:=fc (pr.symm.map (·.2)) i1
     exact⟨ms,h1,h2.trans p1⟩
    have hs2:es2.size<=sizeLine:=by
     have:es2.size=es1.size:=by rw[← Vf,pr.length_eq,Vf]
     lia
    refine TF (hg _ _ _ (TF (wpAny_storeSet_of ho1 U ?_ hs2)))
    obtain⟨_,hS2⟩:=mG (P:=P) (w:=w) ho1 hx U (hel1.perm pr) fr tr hn2
    exact TX (hR _ (sb1.trans (Vy _ a _)) hS2)
   ·exact TX (hR _ sb1 hS1)
  refine TF (gw _ ?_)
  split
  ·refine TF ?_
   rw[hashByValue_scannable 8 U]
   refine TX (tail _ _ _ (fun b s₁ Q' hq=>gw b hq) ?_ ?_ fun h' sb hS=>TX (h h' true sb hS))
   ·exact ft
   ·exact tk1
  ·exact TF (TX (tail _ _ _ (fun b s₁ Q' hq=>gw b hq) ft tk1 fun h' sb hS=>TX (h h' true sb hS)))
end
theorem km {P:Uq}{w:U3}{b:Bool}{h h':Va}{a:Addr}{ks:E9}(hk:∀ o,h.get? a=some o->h'.get? a=some o)(hS:lG P w b h a ks):lG P w b h' a ks:=by
 obtain⟨o,es,ep,t,ho,r⟩:=hS
 exact⟨o,es,ep,t,hk o ho,r⟩
section
variable {P:Uq}{w:U3}{A:UW}{R:Z3->TV->Prop}{I:Addr}{fp wr:List Addr}{G:Array abm->Array abm->Prop}{n:Nat}{Pv:Nat->Value->Prop}{St:Nat->TV->Prop}{b:Bool}
theorem Ia (W:WalksS P w A.in1 I fp wr G n Pv St)(S:Addr)(hS:S ∉ fp)(val:Nat->Int)(hv:∀ i v,Pv i v->∃ t,v = .int (val i) t)(hb:n+1 < scanBound) :
  ∀ (k i:Nat) (s:TV),n - i=k->i<=n->St i s->lG P w b s.heap S (firstMet val i)->(∀ s',Moved (S::wr) G s s'->lG P w b s'.heap S (firstMet val n)->R (.ok (.ret .none)) s') →
   Vz (Ue P w) A (.builtin "set.update.loop" ⟨[.ref S,.ref I],[]⟩) R s:=by
 have nw:S ∉ wr:=fun z=>hS (W.sub _ z)
 have sub:∀ x∈wr,x∈S::wr:=fun x hx=>Ug _ hx
 intro k
 induction k with
 | zero =>
  intro i s hk hi st hs hR
  obtain rfl:i=n:=by lia
  refine WX F.entry_set_update_loop ?_
  rw[Ws aap _]
  refine (show T7 _ A.in1 (Xn (.ref I) >>= _) _ _ s from TF (W.done s _ _ st fun s' hm=>?_))
  exact (show T7 _ A.in1 (ret Vr) _ _ s' from TX (hR s' (hm.mono sub) (km (fun o e=>hm.heap S o nw e) hs)))
 | succ k ih =>
  intro i s hk hi st hs hR
  have lt:i < n:=by lia
  refine WX F.entry_set_update_loop ?_
  rw[Ws aap _]
  refine (show T7 _ A.in1 (Xn (.ref I) >>= _) _ _ s from TF (W.item i s _ _ lt st fun v s' hP st' hm=>?_))
  obtain⟨t,rfl⟩:=hv i v hP
  have hs':=km (h':=s'.heap) (fun o e=>hm.heap S o nw e) hs
  have room:(firstMet val i).length+1 < scanBound:=by
   have:=firstMet_length_le val i
   lia
  refine (show T7 _ A.in1 (YZ [Xj (val i) t] (setAdd S (.int (val i) t)) >>= _) _ _ s' from TF (VL ?_))
  unfold setAdd
  refine VL (TF ((YC P w).pyHash (k:=val i) (intKind_is _ _ _ _) ?_))
  refine Ly (s:={ s' with toks:=s'.toks+1 }) hs' room fun h' r sb hn=>?_
  rw[← firstMet_succ] at hn
  refine TX ⟨Xv aap _,ih (i+1) _ (by lia) lt (W.frame _ s' _ _ st' (We _) fun x hx o e=>?_) hn fun s'' hm'' hs''=>?_⟩
  ·rw[sb.2 x (fun z:x=S=>hS (by rw[← z];exact hx))]
   exact e
  ·refine hR s'' (Moved.trans W.gtrans ((hm.mono sub).then_heap (We _) fun x o hx e=>?_) hm'') hs''
   rw[sb.2 x (fun z:x=S=>hx (by rw[z];exact Uc))]
   exact e
end
section
variable {P:Uq}{w:U3}{A:UW}{E:Value->TV->Prop}{s:TV}
def Jz (w:U3):Bool:=!w.params.followText "set-order"
def newS (w:U3):WL:={ cls:=.type "set",dict:=none,data:=.set #[] 0 (.fresh 0 0 (Jz w)) }
theorem K6 (a:Value){Q₁:ET}(h:Q₁ (.ref s.heap.objs.size) { s with heap:=s.heap.push (newS w) }) :
  Vz (Ue P w) A (.call (.builtin "set.__new__") ⟨[.type "set",a],[]⟩) (wants Q₁ E) s:=by
 refine aaz (show T7 _ A.in1 (do YD "set.__new__" ⟨[.type "set",a],[]⟩;again (.builtin "set.__new__" ⟨[.type "set",a],[]⟩)) _ _ s from ?_)
 refine TF (WT (PySem.F.newCall_set_1 a) (TX ⟨Xv PySem.F.plain_set_new _,WX PySem.F.entry_set_new ?_⟩))
 rw[Ws PySem.F.plain_set_new _]
 unfold XD.«set.__new__» Builtin.Frozenset.newClass;have hsub:=sub_set_self;obtain⟨hp,g,d,tk,os⟩:=s
 dsimp only
 wp_walk
 refine XF (TX ?_)
 dsimp only
 simp only[newObj];refine TF (wpAny_alloc (TX ?_))
 exact TX h
end
section
variable {P:Uq}{w:U3}{A:UW}{E:Value->TV->Prop}{s:TV}
set_option maxRecDepth 100000 in
set_option maxHeartbeats 3200000 in
theorem ye {l:Addr}{items:Array Value}{ns:E9}{Q:ET}(hh:A.handled=none)(hl:s.heap.IsList l items)(hi:VB items.toList ns)(hb:items.size+1 < scanBound)
  (h:∀ (h':Va) (tk:Nat),lG P w (Jz w) h' s.heap.objs.size (firstMet (fun i=>ns.getD i 0) items.size)->(∀ b o,b < s.heap.objs.size->s.heap.get? b=some o->h'.get? b=some o)->Q (.ref s.heap.objs.size) { s with heap:=h',toks:=tk }) :
  T7 (Ue P w) A (call (.type "set") [.ref l]) Q E s:=by
 obtain⟨c,tl,hmro⟩:=PySem.F.called_set.mro
 have hmade:=PySem.F.called_set.made
 have hsub:=PySem.F.called_set.sub
 refine Yi (aaz (show T7 _ _ (callAny (.type "set") _) _ _ _ from TX ⟨aa8 _ (by decide+kernel),WX PySem.F.entry_type_call ?_⟩))
 rw[Around.under_plain (weight_type_call_type "set" [.ref l] []) U]
 have h1:=PySem.F.called_set.notType
 have h2:=PySem.F.called_set.canCreate
 have hct:=PySem.F.typeCall_set_1 (.ref l)
 repeat (any_goals (first | assumption | wp_step))
 refine Xb (K6 (.ref l) (E:=E) (Q₁:=fun obj s₁=>obj = .ref s.heap.objs.size/\s₁={ s with heap:=s.heap.push (newS w) }) ⟨U,U⟩) fun r s₁ hr=>?_
 cases r with
 | error e=>exact hr
 | ok fl =>
  cases fl with
  | ret obj =>
   obtain⟨rfl,rfl⟩:=hr
   have gS:(s.heap.push (newS w)).get? s.heap.objs.size=some (newS w):=T9 _ U
   have hT:Shared.TypeIs { s with heap:=s.heap.push (newS w) } (.ref s.heap.objs.size) "set":=⟨_,gS,U⟩
   have hli:=PySem.F.called_set.init.lookup
   have hbi:=PySem.F.called_set.init.bind (.ref s.heap.objs.size)
   repeat (any_goals (first | assumption | wp_step))
   refine Xb (Yl (R:=wants (fun r s₂=>r = .none/\∃ h' tk,s₂={ s with heap:=h',toks:=tk }/\lG P w (Jz w) h' s.heap.objs.size (firstMet (fun i=>ns.getD i 0) items.size) ∧
     (∀ b o,b < s.heap.objs.size->s.heap.get? b=some o->h'.get? b=some o)) E) PySem.F.called_set.init.plain PySem.F.entry_set_init (check_set_init_1 hT ?_)) fun r₂ s₂ hr₂=>?_
   ·obtain⟨ol,hol,hcl,nl,hdl⟩:=hl
    obtain⟨ocls,odict,odata,oslots⟩:=ol
    simp only at hcl hdl
    subst hcl hdl
    have hol':(s.heap.push (newS w)).get? l=some { cls:=.type "list",dict:=odict,data:=.seq items nl,slots:=oslots }:=TQ _ hol
    have hsls:=PySem.F.sub_list_set
    have hslf:=PySem.F.sub_list_frozenset
    have hne:(Yp "list" == Yp "dict")=false:=by decide
    have hl1:(s.heap.push (newS w)).IsList l items:=⟨_,hol',U,nl,U⟩
    have gS':(s.heap.push (newS w)).get? s.heap.objs.size=some { cls:=.type "set",dict:=none,data:=.set #[] 0 (.fresh 0 0 (Jz w)) }:=gS
    unfold XD.«set.__init__» noKeywords Builtin.Frozenset.updateFrom;generalize hPI:aaK=PI
    wp_walk
    subst hPI
    refine Yc hl1 (TF (wpAny_runValue ?_))
    have hlS:l < s.heap.objs.size:=Ua hol
    have hh3:A.in1.in1.in1.handled=none:=by simp [hh]
    have hneI:l≠(s.heap.push (newS w)).objs.size:=by
     rw[Ve]
     exact Um (Vv hlS)
    have hSf:s.heap.objs.size ∉ [(s.heap.push (newS w)).objs.size,l]:=by
     rw[Ve,Wb,Za]
     rintro (z | z)
     ·exact absurd z (Um (Wd _))
     ·exact absurd z (Wc hlS)
    refine Ia (b:=Jz w) ((aa5 hh3 _ l hneI items).toS) s.heap.objs.size hSf (fun i=>ns.getD i 0) (fun i v hv=>IntsAre.int_at hi i v (by rw[VG];exact hv)) hb (items.size - 0) 0 _ (by lia) (U9 _)
     ⟨⟨_,T9 _ U,U,U⟩,(hl1.push _)⟩ ?hS0 ?hR
    case hS0=>exact⟨newS w,#[],0,_,TQ _ gS,⟨U,U,U⟩,U,(fun e he=>by simp at he),U,Eh _,[],.nil,.refl _⟩
    case hR =>
     intro s' hm hS'
     obtain⟨h',g',d',tk',os'⟩:=s'
     obtain rfl:g'=s.gens:=hm.gens
     obtain rfl:d'=s.drawn:=hm.drawn
     obtain rfl:os'=s.os:=hm.os
     refine (show T7 _ _ _ _ _ _ from TX (show T7 _ _ (ret Vr) _ _ _ from TX ⟨U,h',tk',U,hS',fun b o hb e=>?_⟩))
     refine hm.heap b o ?_ (TQ _ (TQ _ e))
     rw[Wb,Za,Ve]
     rintro (z | z)
     ·exact absurd z (Um hb)
     ·exact absurd z (Um (Vv hb))
   ·cases r₂ with
    | error e=>exact hr₂
    | ok fl₂ =>
     cases fl₂ with
     | ret r =>
      obtain⟨rfl,h',tk,rfl,hS',hk'⟩:=hr₂
      repeat (any_goals (first | assumption | wp_step))
      exact h h' tk hS' hk'
     | _=>exact hr₂.elim
  | _=>exact hr.elim
end
theorem u0:Manifest.owners.lookup (String.ofList ['r','o','t','a','r','e','t','i','_','t','e','s'].reverse)=some Manifest.sig_set_iterator:=by kernel_rfl
theorem aX:Slot "set_iterator" "__next__" "set_iterator.__next__" :=
 .of (owner:="set_iterator") (n:="__next__") (by rw[YX,Xm];kernel_rfl) (by decide+kernel) (by decide+kernel) (by decide+kernel) (by first | exact .inl (by decide+kernel) | exact .inr (by decide+kernel)) (by rw[XH];kernel_rfl)
theorem dI:entryFor table "set_iterator.__next__" = some XD.«set_iterator.__next__»:=entryFor_of_tree (by kernel_rfl)
theorem d9 (a:Value):Z2 "set_iterator.__next__" ⟨[a],[]⟩:=by
 unfold Z2
 rw[aa2 (id:="set_iterator.__next__") (n:=['_','_','t','x','e','n','_','_']) (o:=['r','o','t','a','r','e','t','i','_','t','e','s']) (by kernel_rfl) u0]
 kernel_rfl
theorem iY:Slot "set_iterator" "__iter__" "set_iterator.__iter__" :=
 .of (owner:="set_iterator") (n:="__iter__") (by rw[YX,Xm];kernel_rfl) (by decide+kernel) (by decide+kernel) (by decide+kernel) (by first | exact .inl (by decide+kernel) | exact .inr (by decide+kernel)) (by rw[XH];kernel_rfl)
theorem mL:entryFor table "set_iterator.__iter__" = some XD.«dict_keyiterator.__iter__»:=entryFor_alias (id':="dict_keyiterator.__iter__") (by kernel_rfl) U (by decide+kernel) (by kernel_rfl)
theorem o4 (a:Value):Z2 "set_iterator.__iter__" ⟨[a],[]⟩:=by
 unfold Z2
 rw[aa2 (id:="set_iterator.__iter__") (n:=['_','_','r','e','t','i','_','_']) (o:=['r','o','t','a','r','e','t','i','_','t','e','s']) (by kernel_rfl) u0]
 kernel_rfl
theorem o5:entryFor table "set.__iter__" = some XD.«frozenset.__iter__»:=entryFor_alias (id':="frozenset.__iter__") (by kernel_rfl) U (by decide+kernel) (by kernel_rfl)
theorem lL {α:Type}:∀ (l:List α) (j:Nat) (h:j < l.length),(l[j]::l.eraseIdx j).Perm l
 | a::r,0,_=>.refl _
 | a::r,j+1,h=>by
  have ih:=lL r j (aav h)
  rw[List.getElem_cons_succ,List.eraseIdx_cons_succ]
  exact (List.Perm.swap _ _ _).trans (ih.cons a)
theorem vC {α:Type}(nx:Nat->Nat):∀ (fuel k:Nat) (left:List α) (out:Array α),left.length<=fuel->(pickOrder.go nx fuel k left out).toList.Perm (out.toList++left)
 | 0,k,left,out,h=>by
  rw[pickOrder.go]
  have e:left=[]:=Zy (by lia)
  subst e
  rw[WY]
 | fuel+1,k,left,out,h=>by
  rw[pickOrder.go]
  cases hl:left with
  | nil =>
   simp
  | cons a r =>
   have hlen:nx k % (a::r).length < (a::r).length:=Nat.mod_lt _ (by simp)
   rw[T8 hlen]
   dsimp only
   generalize nx k % (a::r).length=j at hlen ⊢
   have ih:=vC nx fuel (k+1) ((a::r).eraseIdx j) (out.push (a::r)[j]) (by rw[List.length_eraseIdx_of_lt hlen,← hl];lia)
   refine ih.trans ?_
   rw[Array.toList_push,aac]
   refine List.Perm.append (.refl _) ?_
   show ((a::r)[j]::(a::r).eraseIdx j).Perm (a::r)
   exact lL _ j hlen
theorem qe {α:Type}(nx:Nat->Nat)(xs:Array α):(Zh nx xs).toList.Perm xs.toList:=by
 unfold Zh
 have:=vC nx xs.size 0 xs.toList #[] (by rw[Vf];exact T6 _)
 simpa using this
section
variable {P:Uq}{w:U3}{A:UW}{E:Value->TV->Prop}{s:TV}
theorem vL {α:Type}{Q:List α->TV->Prop}:∀ (n:Nat) (xs:List α) (s:TV),xs.length=n->(∀ ys d,ys.Perm xs->Q ys { s with drawn:=d })->T7 (Ue P w) A (drawOrder n xs) Q E s
 | 0,xs,s,h,hq=>by
  rw[drawOrder]
  have e:xs=[]:=Zy h
  subst e
  exact TX (hq [] s.drawn (.refl _))
 | n+1,[],s,h,hq=>by cases h
 | n+1,x::xs,s,h,hq=>by
  rw[drawOrder]
  ·refine TF (fun Γ p hΓ=>?_)
   show Sem.wp _ _ (.choose .order (x::xs).length .pure) _ _ _ _
   rw[Sem.wp_choose]
   refine⟨by simp,?_⟩
   rw[Sem.wp_pure]
   generalize (Ue P w).w.draws .order (s.drawn.get .order)=z
   have hlen:z % (x::xs).length < (x::xs).length:=Nat.mod_lt _ (by simp)
   generalize z % (x::xs).length=j at hlen ⊢
   show T7 _ _ _ _ _ _
   rw[T8 hlen]
   dsimp only
   refine TF (vL n ((x::xs).eraseIdx j) _ (by rw[List.length_eraseIdx_of_lt hlen];rw[Uj] at h ⊢;lia) fun ys d p=>TX ?_)
   exact hq _ d ((p.cons _).trans (lL _ j hlen))
  ·simp
end
def SIt (h:Va)(I S:Addr)(f:Value)(i n ep:Nat):Prop:=h.get? I=some { cls:=.type "set_iterator",dict:=none,data:=.fields #[f,.int i 0,.ref S,.int n 0,.int ep 0],slots:=#[] }
section
variable {P:Uq}{w:U3}{A:UW}{E:Value->TV->Prop}{s:TV}{I S:Addr}{o:WL}{es:Array (Int × Value)}{ep:Nat}{t:Yr}
theorem rQ {sl:Int}{tk:Tok}{i:Nat}{Q:EW->TV->Prop}{r:EM}(hh:A.handled=none)(hI:SIt s.heap I S (.int sl tk) i es.size ep)(hS:s.heap.get? S=some o)(hd:o.data = .set es ep t)(hf:t.fits es.size=true)
  (hn:∀ (A:UW) (E:ET) (Q:EM->TV->Prop),Q r s->T7 (Ue P w) A (abO S sl.toNat i ep) Q E s)
  (hs:∀ x j h',r=some (x,j)->SIt h' I S (.int (j:Nat) 0) (i+1) es.size ep->Wl I s.heap h'->Q (some x) { s with heap:=h' }) (he:∀ h',r=none->Heap.ExtBut I s.heap h'->Q none { s with heap:=h' }):T7 (Ue P w) A (Xn (.ref I)) Q E s:=by
 have hT:s.TypeIs (.ref I) "set_iterator":=⟨_,hI,U⟩
 unfold Xn
 refine TF (Xu (Vx (name:=Xd "__next__") hT aX (Vs aX hT dI ?_ (d9 _))))
 refine (show T7 _ _ (fieldsOf (.ref I) >>= _) _ _ s from TF (wpAny_fieldsOf hI U ?_))
 refine (show T7 _ _ (setEntries S >>= _) _ _ s from TF (ZK hS hd hf ?_))
 rw[if_neg (by simp)]
 refine (show T7 _ _ (abO S sl.toNat (i:Int).toNat (ep:Int).toNat >>= _) _ _ s from TF ?_)
 rw[U7,U7]
 refine hn _ _ _ ?_
 cases hr:r with
 | some xj =>
  obtain⟨x,j⟩:=xj
  dsimp only
  refine TF (V0 hI U (by simp) ?_)
  have g1:=UG (Wi (·.setIfInBounds 0 (Vh (j:Int)))) hI U
  refine TF (V0 g1 U (by simp) ?_)
  have g2:=UG (Wi (·.setIfInBounds 1 (Vh ((i:Int)+1)))) g1 U
  refine TX ⟨x,U,TX (hs x j _ hr ?_ ((Vy ..).trans (Vy ..)))⟩
  exact g2
 | none =>
  dsimp only
  refine TF (V0 hI U (by simp) ?_)
  refine (show T7 _ _ (abr (.type "StopIteration") [] >>= _) _ _ _ from TF ?_)
  simp only[abr,newTuple]
  refine TF (U4 ?_ (by size_fits))
  refine TF (m:=XJ _ _) (WT (a:=Vr) (by first | rfl | (simp only[XJ];rfl)) (U4 ?_ (by size_fits)))
  simp only[raiseNew]
  refine TF (aa1 ?_)
  first | rw[show A.in1.handled=none from hh] | rw[hh]
  refine TF (TX (abz ?_))
  refine TF (Yz (T:="StopIteration") (b:=true) ⟨_,T9 _ U,U⟩ aaL (TX ?_))
  exact he _ hr (((Vy ..).extBut.push _).push _)
end
section
variable {P:Uq}{w:U3}{A:UW}{E:Value->TV->Prop}{s:TV}{I S:Addr}{o:WL}{es:Array (Int × Value)}{ep:Nat}{t:Yr}
theorem uG {sl i:Nat} {Q:EM->TV->Prop} (hb:w.params.followText "set-order" = true) (hS:s.heap.get? S=some o) (hd:o.data = .set es ep t) (hf:t.fits es.size=true)
  (h:Q (((Zh (w.params.setOrder S ep) es)[i]?).map fun e=>(e.2,sl)) s):T7 (Ue P w) A (abO S sl i ep) Q E s:=by
 unfold abO
 refine TF (Yb hS hd hf ?_)
 dsimp only
 unfold setsByText
 refine TF (TF (XF (TX ?_)))
 rw[if_pos (show (Ue P w).w.params.followText "set-order" = true from hb),if_neg (by simp)]
 unfold setWalk
 refine TF (TF (Yb hS hd hf ?_))
 dsimp only
 unfold setsByText
 refine TF (TF (XF (TX ?_)))
 rw[if_pos (show (Ue P w).w.params.followText "set-order" = true from hb)]
 exact TF (XF (TX (TX h)))
theorem qZ {sl i:Nat} {Q:EM->TV->Prop} (hb:w.params.followText "set-order" = false) (hS:s.heap.get? S=some o) (hd:o.data = .set es ep t) (hf:t.fits es.size=true) (hl:t.led=true)
  (hp:t.plain=true∨es.size<=1) (hi:V1 t.place sl=i)
  (h:Q (match es[i]?,t.place[i]? with | some (_,x),some j=>some (x,j+1) | _,_=>none) s):T7 (Ue P w) A (abO S sl i ep) Q E s:=by
 unfold abO
 refine TF (Yb hS hd hf ?_)
 dsimp only
 unfold setsByText
 refine TF (TF (XF (TX ?_)))
 rw[if_neg (show ¬ (Ue P w).w.params.followText "set-order" = true by rw[show (Ue P w).w.params.followText "set-order" = false from hb];exact T5)]
 have hdr:(!t.plain && decide (es.size > 1))=false:=by
  rcases hp with q | q
  ·rw[q]
   rfl
  ·rw[decide_eq_false (by lia),Yy]
 refine aay (show decide ((!t.plain && decide (es.size > 1))=true)=false from decide_eq_false (by rw[hdr];exact T5)) ?_
 refine TF (show T7 _ _ (if (!t.led && !es.isEmpty)=true then unsupported "set:maker-not-led" else pure ()) _ _ _ from ?_)
 rw[hl]
 refine aay (decide_eq_false (by simp)) (TX (TX ?_))
 rw[hi]
 exact h
theorem tu {f:Value}{i n:Nat}{Q:ET}(hI:SIt s.heap I S f i n ep)(h:Q (.ref I) s):T7 (Ue P w) A (aaK (.ref I)) Q E s:=by
 have hT:s.TypeIs (.ref I) "set_iterator":=⟨_,hI,U⟩
 refine aba hT iY (Vs iY hT mL (show T7 _ _ (ret (.ref I)) _ _ s from ?_) (o4 _))
 exact TX ⟨_,U,"set_iterator",_,hT,aX.lookup,h⟩
theorem Ds (hh:A.handled=none) (hne:S≠I) (hb:w.params.followText "set-order" = true) (hd:o.data = .set es ep t) (hf:t.fits es.size=true) :
  Walks P w A I [I,S] [I] es.size (fun i v=>((Zh (w.params.setOrder S ep) es).toList.map (·.2))[i]? = some v) (fun i h=>(∃ (sl:Nat) (tk:Tok),SIt h I S (.int (sl:Int) tk) i es.size ep)/\h.get? S=some o) where
 sub:=fun b hb=>by simp at hb;simp [hb]
 frame:=fun i h h' st hk=>by
  obtain⟨⟨sl,tk,hI⟩,hS⟩:=st
  exact⟨⟨sl,tk,hk I (by simp) _ hI⟩,hk S (by simp) _ hS⟩
 item:=fun i s Q E hi st hQ=>by
  obtain⟨⟨sl,tk,hI⟩,hS⟩:=st
  have pl:(Zh (w.params.setOrder S ep) es).size=es.size:=by
   have:=(qe (w.params.setOrder S ep) es).length_eq
   simpa using this
  have hx:(Zh (w.params.setOrder S ep) es)[i]? = some ((Zh (w.params.setOrder S ep) es)[i]'(by lia)):=Uz _
  generalize (Zh (w.params.setOrder S ep) es)[i]'(by lia)=x at hx
  refine rQ (r:=some (x.2,sl)) hh hI hS hd hf (fun A E Q q=>?_) (fun v j h' hr hI' sb=>?_) (fun h' hr _=>by cases hr)
  ·refine uG hb hS hd hf ?_
   rw[U7,hx]
   exact q
  ·cases hr
   refine hQ _ h' s.toks ?_ ⟨⟨sl,0,hI'⟩,sb.2 S hne▸hS⟩ fun b o' hb' e=>?_
   ·rw[Ux,VG,hx]
    rfl
   ·rw[sb.2 b (fun z=>hb' (by rw[z];exact List.mem_singleton.mpr U))]
    exact e
 done:=fun s Q E st hQ=>by
  obtain⟨⟨sl,tk,hI⟩,hS⟩:=st
  have pl:(Zh (w.params.setOrder S ep) es).size=es.size:=by
   have:=(qe (w.params.setOrder S ep) es).length_eq
   simpa using this
  refine rQ (r:=none) hh hI hS hd hf (fun A E Q q=>?_) (fun v j h' hr=>by cases hr) (fun h' _ hx=>?_)
  ·refine uG hb hS hd hf ?_
   rw[X6 (by lia)]
   exact q
  ·exact hQ h' s.toks fun b o' hb' e=>hx b o' (fun z=>hb' (by rw[z];exact List.mem_singleton.mpr U)) e
 self:=fun i s Q E st hQ=>by
  obtain⟨⟨sl,tk,hI⟩,_⟩:=st
  exact tu hI hQ
def slotAt (pl:Array Nat):Nat->Nat
 | 0=>0
 | i+1=>pl.getD i 0+1
theorem mK {pl:Array Nat}(h:Ris pl):∀ {i:Nat},i<=pl.size->V1 pl (slotAt pl i)=i
 | 0,_=>Aa h
 | i+1,hi=>by
  have e:pl[i]? = some (pl.getD i 0):=by
   rw[Uz (by lia),Xf,Uz (by lia)]
   rfl
  exact below_at h e
theorem Bw (hh:A.handled=none) (hne:S≠I) (hb:w.params.followText "set-order" = false) (hd:o.data = .set es ep t) (hf:t.fits es.size=true) (hl:t.led=true) (hp:t.plain=true∨es.size<=1) (hr:Ris t.place) :
  Walks P w A I [I,S] [I] es.size (fun i v=>(es.toList.map (·.2))[i]? = some v) (fun i h=>(∃ tk:Tok,SIt h I S (.int (slotAt t.place i:Nat) tk) i es.size ep)/\h.get? S=some o) where
 sub:=fun b hb=>by simp at hb;simp [hb]
 frame:=fun i h h' st hk=>by
  obtain⟨⟨tk,hI⟩,hS⟩:=st
  exact⟨⟨tk,hk I (by simp) _ hI⟩,hk S (by simp) _ hS⟩
 item:=fun i s Q E hi st hQ=>by
  obtain⟨⟨tk,hI⟩,hS⟩:=st
  have ps:t.place.size=es.size:=by
   simp only[SetTable.fits,Vt,beq_iff_eq] at hf
   exact hf.1
  have hx:es[i]? = some es[i]:=Uz hi
  have hj:t.place[i]? = some (t.place.getD i 0):=by
   rw[Uz (by lia),Xf,Uz (by lia)]
   rfl
  generalize es[i]=x at hx
  obtain⟨k,v⟩:=x
  refine rQ (r:=some (v,t.place.getD i 0+1)) hh hI hS hd hf (fun A E Q q=>?_) (fun u j h' hr hI' sb=>?_) (fun h' hr _=>by cases hr)
  ·refine qZ hb hS hd hf hl hp (i:=i) (by rw[U7];exact mK hr (by lia)) ?_
   rw[hx,hj]
   exact q
  ·cases hr
   refine hQ _ h' s.toks ?_ ⟨⟨0,hI'⟩,sb.2 S hne▸hS⟩ fun b o' hb' e=>?_
   ·rw[Ux,VG,hx]
    rfl
   ·rw[sb.2 b (fun z=>hb' (by rw[z];exact List.mem_singleton.mpr U))]
    exact e
 done:=fun s Q E st hQ=>by
  obtain⟨⟨tk,hI⟩,hS⟩:=st
  have ps:t.place.size=es.size:=by
   simp only[SetTable.fits,Vt,beq_iff_eq] at hf
   exact hf.1
  refine rQ (r:=none) hh hI hS hd hf (fun A E Q q=>?_) (fun v j h' hr=>by cases hr) (fun h' _ hx=>?_)
  ·refine qZ hb hS hd hf hl hp (i:=es.size) (by rw[U7];exact mK hr (by lia)) ?_
   rw[X6 (T6 _)]
   exact q
  ·exact hQ h' s.toks fun b o' hb' e=>hx b o' (fun z=>hb' (by rw[z];exact List.mem_singleton.mpr U)) e
 self:=fun i s Q E st hQ=>by
  obtain⟨⟨tk,hI⟩,_⟩:=st
  exact tu hI hQ
end
section
variable {P:Uq}{w:U3}{A:UW}{E:Value->TV->Prop}{s:TV}{I S T:Addr}{o:WL}{es:Array (Int × Value)}{ep:Nat}{t:Yr}
def cR (pl:Fa):E4:=pl.map fun j:Nat=>Vh (j:Int)
theorem Av {pl:Fa}(hh:A.handled=none)(hne:S≠I)(hnt:T≠I)(hd:o.data = .set es ep t)(hf:t.fits es.size=true)(hp:pl.Perm (VV es.size)) :
  Walks P w A I [I,S,T] [I] es.size (fun i v=>(pl.map fun j=>(es.getD j (0,.none)).2)[i]? = some v) (fun i h=>SIt h I S (.ref T) i es.size ep/\h.get? S=some o/\h.IsTuple T (cR pl).toArray) where
 sub:=fun b hb=>by simp at hb;simp [hb]
 frame:=fun i h h' st hk=>by
  obtain⟨hI,hS,o',ho',r⟩:=st
  exact⟨hk I (by simp) _ hI,hk S (by simp) _ hS,o',hk T (by simp) _ ho',r⟩
 item:=fun i s Q E hi st hQ=>by
  obtain⟨hI,hS,hT⟩:=st
  have lp:pl.length=es.size:=by rw[hp.length_eq,VN]
  have hT0:s.TypeIs (.ref I) "set_iterator":=⟨_,hI,U⟩
  obtain⟨j,hj⟩:∃ j,pl[i]? = some j:=⟨pl[i],T8 (by lia)⟩
  have hj2:j < es.size:=List.mem_range.mp (hp.mem_iff.mp (UJ hj))
  have hx:es[j]? = some (es.getD j (0,.none)):=by
   rw[Uz hj2,Xf,Uz hj2]
   rfl
  obtain⟨ot,hot,hct,nt,hdt⟩:=id hT
  unfold Xn
  refine TF (Xu (Vx (name:=Xd "__next__") hT0 aX (Vs aX hT0 dI ?_ (d9 _))))
  refine (show T7 _ _ (fieldsOf (.ref I) >>= _) _ _ s from TF (wpAny_fieldsOf hI U ?_))
  refine (show T7 _ _ (setEntries S >>= _) _ _ s from TF (ZK hS hd hf ?_))
  rw[if_neg (by simp)]
  refine (show T7 _ _ (aal (.ref T) >>= _) _ _ s from TF (V5 hot hdt ?_))
  have hpl:(cR pl).toArray[(i:Int).toNat]? = some (.int (j:Int) 0):=by
   rw[U7,aaH]
   show (pl.map fun j:Nat=>Vh (j:Int))[i]? = _
   rw[Ux,hj]
   rfl
  dsimp only
  rw[hpl]
  dsimp only
  refine TF (show T7 _ _ (setNextDrawn S (j:Int).toNat (ep:Int).toNat) _ _ _ from ?_)
  unfold setNextDrawn
  refine TF (Yb hS hd hf ?_)
  dsimp only
  rw[U7,U7,if_neg (by simp),hx]
  refine TX (TF (V0 hI U (by simp) ?_))
  have g1:=UG (Wi (·.setIfInBounds 1 (Vh ((i:Int)+1)))) hI U
  refine TX ⟨_,U,TX (hQ _ _ s.toks ?_ ⟨g1,?_,?_⟩ fun b o' hb' e=>?_)⟩
  ·rw[Ux,hj]
   rfl
  ·rw[Uu _ _ (VM hne)]
   exact hS
  ·exact⟨ot,by rw[Uu _ _ (VM hnt)];exact hot,hct,nt,hdt⟩
  ·rw[Uu _ _ (fun z:I=b=>hb' (by rw[z];exact List.mem_singleton.mpr U))]
   exact e
 done:=fun s Q E st hQ=>by
  obtain⟨hI,hS,hT⟩:=st
  have lp:pl.length=es.size:=by rw[hp.length_eq,VN]
  have hT0:s.TypeIs (.ref I) "set_iterator":=⟨_,hI,U⟩
  obtain⟨ot,hot,hct,nt,hdt⟩:=id hT
  unfold Xn
  refine TF (Xu (Vx (name:=Xd "__next__") hT0 aX (Vs aX hT0 dI ?_ (d9 _))))
  refine (show T7 _ _ (fieldsOf (.ref I) >>= _) _ _ s from TF (wpAny_fieldsOf hI U ?_))
  refine (show T7 _ _ (setEntries S >>= _) _ _ s from TF (ZK hS hd hf ?_))
  rw[if_neg (by simp)]
  refine (show T7 _ _ (aal (.ref T) >>= _) _ _ s from TF (V5 hot hdt ?_))
  have hpl:(cR pl).toArray[(es.size:Int).toNat]? = none:=by
   rw[U7,aaH]
   show (pl.map fun j:Nat=>Vh (j:Int))[es.size]? = _
   rw[Ux,VF (by lia)]
   rfl
  dsimp only
  rw[hpl]
  dsimp only
  refine TF (V0 hI U (by simp) ?_)
  have g1:=UG (Wi (·.setIfInBounds 0 (Vh 0))) hI U
  refine TF (V0 g1 U (by simp) ?_)
  refine (show T7 _ _ (abr (.type "StopIteration") [] >>= _) _ _ _ from TF ?_)
  simp only[abr,newTuple]
  refine TF (U4 ?_ (by size_fits))
  refine TF (m:=XJ _ _) (WT (a:=Vr) (by first | rfl | (simp only[XJ];rfl)) (U4 ?_ (by size_fits)))
  simp only[raiseNew]
  refine TF (aa1 ?_)
  first | rw[show A.in1.handled=none from hh] | rw[hh]
  refine TF (TX (abz ?_))
  refine TF (Yz (T:="StopIteration") (b:=true) ⟨_,T9 _ U,U⟩ aaL (TX ?_))
  refine hQ _ s.toks fun b o' hb' e=>?_
  have hbI:b≠I:=fun z=>hb' (by rw[z];exact List.mem_singleton.mpr U)
  exact ((((Vy ..).trans (Vy ..)).extBut.push _).push _) b o' hbI e
 self:=fun i s Q E st hQ=>tu st.1 hQ
end
section
variable {P:Uq}{w:U3}{A:UW}{E:Value->TV->Prop}{s:TV}{S:Addr}
theorem Je {Q:Bool->TV->Prop} (hT:s.TypeIs (.ref S) "set") (h:Q false s):T7 (Ue P w) A (abR (.ref S)) Q E s:=by
 unfold abR;refine TF (ZD hT PySem.F.slot_set_len.lookup ?_)
 generalize hid:("set.__len__" : String)=id0
 wp_delta
 rw[show splitId id0=some ("set","__len__") from by subst hid;decide+kernel]
 subst hid
 refine TF (Yz (T:="set") (b:=true) hT (by rw[XH];kernel_rfl) ?_)
 refine abF (fun z=>absurd z (by decide)) (fun _=>abF (fun _=>?_) (fun z=>absurd (by decide+kernel) z))
 exact TF (wpAny_typeOf hT (TX h))
theorem Jw {b:Bool}{ks:E9}{Q:ET}(hh:A.handled=none)(hb:b=Jz w)(hS:lG P w b s.heap S ks)(hz:ks.length<=sizeLine)
  (h:∀ (I:Addr) (fp:E6) (n:Nat) (vs:E4) (ns:E9) (St:Nat->Va->Prop) (s':TV),Walks P w A I fp [I] n (fun i v=>vs[i]? = some v) St->St 0 s'.heap->VB vs ns->ns.Perm ks->vs.length=n->(∀ x∈fp,x=S∨s.heap.objs.size<=x)->s.heap.objs.size<=I →
   s'.os=s.os->s'.gens=s.gens->(∀ b o,s.heap.get? b=some o->s'.heap.get? b=some o)->Q (.ref I) s'):T7 (Ue P w) A (aaK (.ref S)) Q E s:=by
 obtain⟨o,es,ep,t,ho,hx,hd,hel,hf,tk,ns,hi,hp⟩:=hS
 have hT:s.TypeIs (.ref S) "set":=⟨o,ho,hx.1⟩
 have hlt:S < s.heap.objs.size:=Ua ho
 refine aba hT PySem.F.slot_set_iter (Vs PySem.F.slot_set_iter hT o5 ?_ (PySem.F.args_set_iter_1 _))
 refine (show T7 _ _ (Builtin.Frozenset.sizeOf S >>= _) _ _ s from ?_)
 unfold Builtin.Frozenset.sizeOf
 refine TF (TF (ZK ho hd hf (TX ?_)))
 unfold setDrawn setsByText
 refine TF (TF (Yb ho hd hf ?_))
 dsimp only
 refine TF (TF (XF (TX (TX ?_))))
 have hps:t.place.size=es.size:=by
  simp only[SetTable.fits,Vt,beq_iff_eq] at hf
  exact hf.1
 have hlen:(es.toList.map (·.2)).length=es.size:=by rw[TJ,Vf]
 have hez:es.size<=sizeLine:=by
  have h1:=hi.length
  have h2:=hp.length_eq
  lia
 have start:∀ (vs:E4) (ns':E9) (St:Nat->Va->Prop),Walks P w A s.heap.objs.size [s.heap.objs.size,S] [s.heap.objs.size] es.size (fun i v=>vs[i]? = some v) St->(∀ h,SIt h s.heap.objs.size S (.int (0:Nat) 0) 0 es.size ep->h.get? S=some o->St 0 h) →
   VB vs ns'->ns'.Perm ks->vs.length=es.size->T7 (Ue P w) A.in1 (do
    let first ← pure (Vh 0)
    let e ← setEpoch S
    let r ← newFields "set_iterator" [first,Vh 0,Uk S,Vh (es.size:Int),Vh (e:Int)]
    ret r) (fun fin s'=>∃ v,fin=Fin.done (Flow.ret v)/\∃ T' r,s'.TypeIs v T'/\ZX (Yp T') (Xd "__next__")=pure (some r)/\Q v s') E s:=fun vs ns' St W hst hi' hp' hl'=>by
  refine TF (TX (TF (wpAny_setEpoch_of ho hd hf (TF (U4 (TX ?_))))))
  have g:(s.heap.push { cls:=.type "set_iterator",data:=.fields [Vh 0,Vh 0,Uk S,Vh (es.size:Int),Vh (ep:Int)].toArray }).get? s.heap.objs.size=some { cls:=.type "set_iterator",data:=.fields [Vh 0,Vh 0,Uk S,Vh (es.size:Int),Vh (ep:Int)].toArray }:=T9 _ U
  refine⟨_,U,"set_iterator",_,⟨_,g,U⟩,aX.lookup,?_⟩
  refine h s.heap.objs.size [s.heap.objs.size,S] es.size vs ns' St _ W (hst _ g (TQ _ ho)) hi' hp' hl' (fun x hx'=>?_) (T6 _) U U fun b' o' e=>TQ _ e
  rcases List.mem_cons.mp hx' with rfl | hx'
  ·exact .inr (T6 _)
  ·exact .inl (List.mem_singleton.mp hx')
 have hne:S≠s.heap.objs.size:=Um hlt
 cases hB:w.params.followText "set-order" with
 | true =>
  refine aay (decide_eq_false (show ¬ (!w.params.followText "set-order" && (!t.plain && decide (es.size > 1)))=true by rw[hB];exact T5)) ?_
  have pp:=qe (w.params.setOrder S ep) es
  obtain⟨ms,h1,h2⟩:=fc (pp.symm.map (·.2)) hi
  exact start _ ms _ (Ds hh hne hB hd hf) (fun h' q1 q2=>⟨⟨0,0,q1⟩,q2⟩) h1 (h2.trans hp) (by rw[TJ,pp.length_eq,Vf])
 | false =>
  have hled:t.led=true:=by
   rw[tk.led,hb]
   unfold Jz
   rw[hB]
   rfl
  cases hD:(!t.plain && decide (es.size > 1)) with
  | false =>
   refine aay (decide_eq_false (show ¬ (!w.params.followText "set-order" && (!t.plain && decide (es.size > 1)))=true by rw[hD,Yy];exact T5)) ?_
   have hpl:t.plain=true∨es.size<=1:=by
    rw[Bool.and_eq_false_iff] at hD
    rcases hD with q | q
    ·exact .inl (by simpa using q)
    ·exact .inr (by have:=of_decide_eq_false q;lia)
   have hris:Ris t.place:=by
    rcases hpl with q | q
    ·exact tk.ris q
    ·unfold Ris
     have hl1:t.place.toList.length<=1:=by rw[Vf];lia
     generalize t.place.toList=l at hl1
     match l,hl1 with
     | [],_=>exact aad
     | [x],_=>exact List.pairwise_singleton _ _
   exact start _ ns _ (Bw hh hne hB hd hf hled hpl hris) (fun h' q1 q2=>⟨⟨0,q1⟩,q2⟩) hi hp hlen
  | true =>
   refine wpAny_ite_true (decide_eq_true (show (!w.params.followText "set-order" && (!t.plain && decide (es.size > 1)))=true by rw[hD,hB];rfl)) ?_
   refine TF (vL es.size (VV es.size) s VN fun pl d pp=>?_)
   simp only[newTuple]
   have lp:pl.length=es.size:=by rw[pp.length_eq,VN]
   refine TF (U4 ?_ (show (cR pl).toArray.size<=sizeLine by unfold cR;rw[Ul,TJ];lia))
   have sz1:(s.heap.push { cls:=.type "tuple",data:=.seq (cR pl).toArray }).objs.size=s.heap.objs.size+1:=Ve _ _
   have gT:(s.heap.push { cls:=.type "tuple",data:=.seq (cR pl).toArray }).get? s.heap.objs.size=some { cls:=.type "tuple",data:=.seq (cR pl).toArray }:=T9 _ U
   have ho1:(s.heap.push { cls:=.type "tuple",data:=.seq (cR pl).toArray }).get? S=some o:=TQ _ ho
   refine TF (wpAny_setEpoch_of (o:=o) (es:=es) (t:=t) ho1 hd hf (TF (U4 (TX ?_))))
   have g:((s.heap.push { cls:=.type "tuple",data:=.seq (cR pl).toArray }).push { cls:=.type "set_iterator",data:=.fields [Uk s.heap.objs.size,Vh 0,Uk S,Vh (es.size:Int),Vh (ep:Int)].toArray }).get? (s.heap.push { cls:=.type "tuple",data:=.seq (cR pl).toArray }).objs.size=some { cls:=.type "set_iterator",data:=.fields [Uk s.heap.objs.size,Vh 0,Uk S,Vh (es.size:Int),Vh (ep:Int)].toArray }:=T9 _ U
   refine⟨_,U,"set_iterator",_,⟨_,g,U⟩,aX.lookup,?_⟩
   have hne1:S≠(s.heap.push { cls:=.type "tuple",data:=.seq (cR pl).toArray }).objs.size:=by
    rw[sz1]
    exact Um (Vv hlt)
   have hne2:s.heap.objs.size≠(s.heap.push { cls:=.type "tuple",data:=.seq (cR pl).toArray }).objs.size:=by
    rw[sz1]
    exact Um (Wd _)
   have hv:(pl.map fun j=>(es.getD j (0,.none)).2).Perm (es.toList.map (·.2)):=by
    refine (pp.map _).trans ?_
    have e:(VV es.size).map (fun j=>(es.getD j (0,Vr)).2)=es.toList.map (·.2):=by
     apply List.ext_getElem?
     intro i
     have ea:es.toList[i]? = es[i]?:=VG
     rw[Ux,Ux,ea]
     by_cases hi':i < es.size
     ·rw[YJ hi',Uz hi']
      simp [Xf,Uz hi']
     ·have er:(VV es.size)[i]? = none:=VF (by rw[VN];lia)
      rw[er,X6 (by lia)]
      rfl
    rw[e]
   have le1:s.heap.objs.size<=(s.heap.push { cls:=.type "tuple",data:=.seq (cR pl).toArray }).objs.size:=by
    rw[sz1]
    exact We _
   obtain⟨ms,h1,h2⟩:=fc hv.symm hi
   refine h _ [(s.heap.push { cls:=.type "tuple",data:=.seq (cR pl).toArray }).objs.size,S,s.heap.objs.size] es.size _ ms _ _ (Av (T:=s.heap.objs.size) hh hne1 hne2 hd hf pp) ⟨g,TQ _ ho1,_,TQ _ gT,U,0,U⟩ h1 (h2.trans hp) (by rw[TJ];exact lp) (fun x hx'=>?_) le1 U U fun b' o' e=>TQ _ (TQ _ e)
   rcases List.mem_cons.mp hx' with rfl | hx'
   ·exact .inr le1
   ·rcases List.mem_cons.mp hx' with rfl | hx'
    ·exact .inl U
    ·exact .inr (by rw[List.mem_singleton.mp hx'];exact T6 _)
theorem yj {ks:E9}{Q:E4->TV->Prop}(hh:A.handled=none)(hS:lG P w (Jz w) s.heap S ks)(hz:ks.length<=sizeLine)
  (h:∀ (vs:E4) (ns:E9) (s':TV),VB vs ns->ns.Perm ks->s.heap.objs.size<=s'.heap.objs.size->s'.os=s.os->s'.gens=s.gens->(∀ b o,s.heap.get? b=some o->s'.heap.get? b=some o)->Q vs s'):T7 (Ue P w) A (collect (.ref S)) Q E s:=by
 obtain⟨o,es,ep,t,ho,hx,_⟩:=id hS
 have hlt:S < s.heap.objs.size:=Ua ho
 have hSl:s.heap.objs.size≠S:=Wc hlt
 unfold collect
 refine TF (wpAny_runValue (WX PySem.F.entry_proto_collect ?_))
 rw[Ws PySem.F.plain_proto_collect _]
 refine (show T7 _ A.in1 (newList [] >>= fun l=>again (.builtin "list.__iadd__" ⟨[l,.ref S],[]⟩)) _ _ s from TF (U4 ?_))
 refine TX ⟨Xv PySem.F.plain_list_iadd _,WX PySem.F.entry_list_iadd ?_⟩
 rw[Ws PySem.F.plain_list_iadd _]
 generalize hN:s.heap.push { cls:=.type "list",data:=.seq ([]:E4).toArray }=h1
 have gL:h1.get? s.heap.objs.size=some { cls:=.type "list",data:=.seq ([]:E4).toArray }:=by rw[← hN];exact T9 _ U
 have k1:∀ b o,s.heap.get? b=some o->h1.get? b=some o:=fun b o e=>by rw[← hN];exact TQ _ e
 have sz1:h1.objs.size=s.heap.objs.size+1:=by rw[← hN];exact Ve _ _
 have hT:Shared.TypeIs { s with heap:=h1 } (.ref S) "set":=⟨o,k1 _ _ ho,hx.1⟩
 refine (show T7 _ A.in1 (abS (.ref s.heap.objs.size) (.ref S) (.ref s.heap.objs.size)) _ _ { s with heap:=h1 } from ?_)
 unfold abS;refine TF (wpAny_typeOf hT ?_)
 have q1:Builtin.List.listSameRef (.ref s.heap.objs.size) (.ref S)=false:=by simp [Builtin.List.listSameRef,hSl]
 have q2:(Yp "set" == Yp "list")=false:=by decide
 have q3:(Yp "set" == Yp "tuple")=false:=by decide
 simp only[q1,q2,q3,Bool.or_false,aa9,if_false]
 refine TF (Jw (s:={ s with heap:=h1 }) hh U (km (fun o e=>k1 S o e) hS) hz fun I fp n vs ns St s2 W st hi hp hl hfp hI os2 gs2 k2=>?_)
 have gL2:=k2 _ _ gL
 have hTs:s2.TypeIs (.ref S) "set":=⟨o,k2 _ _ (k1 _ _ ho),hx.1⟩
 have hLf:s.heap.objs.size ∉ fp:=fun z=>by
  rcases hfp _ z with q | q
  ·exact hSl q
  ·have q':h1.objs.size<=s.heap.objs.size:=q
   rw[sz1] at q'
   exact absurd q' (Nat.not_succ_le_self _)
 have hz':n<=sizeLine:=by
  have e1:=hi.length
  have e2:=hp.length_eq
  lia
 have key:∀ (R:Z3->TV->Prop),(∀ (s':TV) (c':Nat),s'.heap.get? s.heap.objs.size=some { cls:=.type "list",dict:=none,data:=.seq vs.toArray c',slots:=#[] }->s'.os=s.os->s'.gens=s.gens->(∀ b o,s.heap.get? b=some o->s'.heap.get? b=some o)->R (.ok (.ret (.ref s.heap.objs.size))) s') →
   ∀ (h':Va) (c tk:Nat),St 0 h'->(∀ b o,b≠s.heap.objs.size->s2.heap.get? b=some o->h'.get? b=some o)->h'.get? s.heap.objs.size=some { cls:=.type "list",data:=.seq #[] c } →
   Vz (Ue P w) A (.builtin "list.extend.loop" ⟨[.ref s.heap.objs.size,.ref I,.ref s.heap.objs.size],[]⟩) R { s2 with heap:=h',toks:=tk }:=fun R hR h' c tk st' kp gl=>by
  refine codeAny_extend_loopS W.toS hz' s.heap.objs.size hLf _ n 0 _ #[] c U (U9 _) st' gl (ItemsOf.nil _) fun s' acc' c' hm gL' hacc=>?_
  have eacc:acc'=vs.toArray:=by
   apply Array.ext_getElem?
   intro j
   have ev:vs.toArray[j]? = vs[j]?:=aaH
   rw[ev]
   by_cases hj:j < acc'.size
   ·have e:=hacc.2 j acc'[j] (Uz hj)
    rw[Uz hj]
    exact e.symm
   ·rw[X6 (by lia),VF (by have:=hacc.1;lia)]
  rw[eacc] at gL'
  refine hR s' c' gL' (hm.os.trans os2) (hm.gens.trans gs2) fun b o' e=>?_
  have hbl:b < s.heap.objs.size:=Ua e
  refine hm.heap b o' ?_ (kp b o' (Um hbl) (k2 _ _ (k1 _ _ e)))
  rw[Wb,Za]
  rintro (z | z)
  ·exact absurd z (Um hbl)
  ·have q:h1.objs.size<=I:=hI
   rw[sz1,← z] at q
   exact absurd (T4 hbl (Ye q)) (Vb _)
 refine TF (VL (Je hTs ?_))
 have fin:∀ (s':TV) (c':Nat),s'.heap.get? s.heap.objs.size=some { cls:=.type "list",dict:=none,data:=.seq vs.toArray c',slots:=#[] }->s'.os=s.os->s'.gens=s.gens->(∀ b o,s.heap.get? b=some o->s'.heap.get? b=some o) →
   T7 (Ue P w) A (load s.heap.objs.size >>= fun o=>match o.data with | .seq xs _=>pure xs.toList | _=>unsupported "internal:collect") Q E s':=fun s' c' g e1 e2 e3=>TF (wpAny_load g (TX (h vs ns s' hi hp (WR (Ua g)) e1 e2 e3)))
 refine abF (fun _=>?_) (fun _=>TX ⟨Xv PySem.F.plain_extend_loop _,key _ (fun s' c' g e1 e2 e3=>fin s' c' g e1 e2 e3) s2.heap _ s2.toks st (fun b o _ e=>e) gL2⟩)
 refine TF (Yh (TF (show T7 _ _ (updateSeq s.heap.objs.size (·.push .none) >>= fun _=>updateSeq s.heap.objs.size (·.pop)) _ _ _ from ?_)))
 refine TF (ZC gL2 U ?_)
 have g3:=UG (Y9 (·.push Vr)) gL2 U
 refine ZC (hz:=by seq_fits) g3 U ?_
 have g4:=UG (Y9 (·.pop)) g3 U
 have oth:∀ b o',b≠s.heap.objs.size->s2.heap.get? b=some o'->((s2.heap.update s.heap.objs.size (Y9 (·.push Vr))).update s.heap.objs.size (Y9 (·.pop))).get? b=some o':=fun b o' hb e=>by
  rw[Uu _ _ (VM hb),Uu _ _ (VM hb)]
  exact e
 exact TX ⟨Xv PySem.F.plain_extend_loop _,key _ (fun s' c' g e1 e2 e3=>fin s' c' g e1 e2 e3) _ _ s2.toks (W.frame 0 _ _ st fun b hb o' e=>oth b o' (fun z=>hLf (by rw[← z];exact hb)) e) oth g4⟩
end
section
variable {P:Uq}{w:U3}{A:UW}{E:Value->TV->Prop}{s:TV}{S:Addr}
theorem Aj {ks:E9}{Q:ET}(hh:A.handled=none)(hS:lG P w (Jz w) s.heap S ks)(h64:ks.length < 64)
  (h:∀ (l:Addr) (vs:E4) (ns:E9) (c:Nat) (s':TV),VB vs ns->ns.Perm ks->ns.Pairwise (·<=·)->s'.heap.get? l=some { cls:=.type "list",data:=.seq vs.toArray c }->s.heap.objs.size<=l->s'.os=s.os->s'.gens=s.gens →
   (∀ b o,s.heap.get? b=some o->s'.heap.get? b=some o)->Q (.ref l) s'):T7 (Ue P w) A (call (.builtin "sorted") [.ref S]) Q E s:=by
 refine Calls.call_function_entry kind_sorted plain_sorted entry_sorted (args_sorted1 _) ?_
 unfold XD.«sorted»;refine TF (m:=checkCount "sorted" 1 1 _) (TX ?_)
 refine TF (yj hh hS (WR (T4 h64 (by decide))) fun vs ns s1 hi hp hsz os1 gs1 k1=>?_)
 have hl:vs.length < 64:=by
  have e1:=hi.length
  have e2:=hp.length_eq
  lia
 refine TF (wpAny_newList ?_)
 have g1:(s1.heap.push (seqObj "list" vs.toArray 0)).get? s1.heap.objs.size=some (seqObj "list" vs.toArray 0):=T9 _ U
 refine TF (VL (Vs slot_list_sort ⟨_,g1,U⟩ entry_list_sort (list_sort_tree g1 hi hl fun out ns' a1 a2 a3=>⟨_,U,?_⟩) (args_list_sort _)))
 obtain⟨c,hc⟩:=sortedHeap_at (out:=out) g1
 refine TX ⟨_,U,h s1.heap.objs.size out.toList ns' c _ a1 (a2.trans hp) a3 ?_ hsz os1 gs1 fun b o e=>?_⟩
 ·exact hc
 ·have e1:=k1 b o e
  have lt:=Ua e1
  rw[sortedHeap_old (Um lt) (by rw[Ve];exact Vv lt)]
  exact TQ _ e1
end
def ddI (ns:E9):E9:=firstMet (fun i=>ns.getD i 0) ns.length
theorem Inv.M5 {X:Cx}{ZY:EQ}{σ:St}{H:Hp}{s s':TV}{l:Addr}{ys:List V}{its:E4}{c:Nat}(I:Inv X ZY σ H s)(ho:s'.os=s.os)(hg:s'.gens=s.gens)(k:∀ b u,s.heap.get? b=some u->s'.heap.get? b=some u)
  (hl:s.heap.objs.size<=l) (hv:Vals ys its) (hz:ys.length<=sizeLine) (g:s'.heap.get? l=some { cls:=.type "list",data:=.seq its.toArray c }):Inv X ZY σ (upd H l (.lst ys)) s':=by
 have J:=I.laid (t':=s.toks) (o:=.lst ys) k hl ⟨hz,its,c,hv,g⟩
 exact⟨J.ok,ho.trans I.os,by rw[hg];exact I.bare,J.base,J.loc,J.cell,J.free,J.freeC,J.pin,J.hok,J.len⟩
def tSS (K:Uw)(te:TA):TE:=fun σ H Q=>te σ H fun xs H1=>∃ (a:Addr) (ns:E9),xs=[.ref a]/\SqL K H1 a (ns.map V.int)/\ns.length<=4000/\(ddI ns).length < 64/\∀ ms:E9,ms.Perm (ddI ns)->ms.Pairwise (·<=·)->∀ l,H1 l=none->Q (.ref l) (upd H1 l (.lst (ms.map V.int)))
theorem mq {X:Cx} {e:Expr} {te:TA} {p1 p2 q1 q2:Yg} (hc:X.calm=true) (hg1:Gl X "sorted") (hm1:X.mg "sorted" = none) (hg2:Gl X "set") (hm2:X.mg "set" = none) (ha:PA X [e] te)
  (hb1:Vi "sorted" = some (.builtin "sorted"):=by decide+kernel) (hb2:Vi "set" = some (.type "set"):=by decide+kernel)
  (he1:Ur [.Call (.Name "set" p2) [e] [] q2] X.env=(false,VD (.Call (.Name "set" p2) [e] [] q2) X.env)::Ur [] X.env:=by rfl) (hp1:(Wt q1 (Ur [] X.env)).any (·.1)=false:=by rfl)
  (he2:Ur [e] X.env=(false,VD e X.env)::Ur [] X.env:=by rfl) (hp2:(Wt q2 (Ur [] X.env)).any (·.1)=false:=by rfl) :
  PE X (.Call (.Name "sorted" p1) [.Call (.Name "set" p2) [e] [] q2] [] q1) (tSS X.K te):=by
 intro ZY s σ H Q I h
 refine VR (ig I hg1 hm1 hb1 ?_ (by decide) (by decide))
 refine abu ?_ he1 hp1
 rw[he1]
 refine (show T7 _ _ (spliced ((false,VD (.Call (.Name "set" p2) [e] [] q2) X.env)::Wt q1 (Ur [] X.env))) _ _ s from Z6 ?_)
 refine VR (ig I hg2 hm2 hb2 ?_ (by decide) (by decide))
 refine V4 (thn (ha q2 ZY s σ H _ I h) fun us s1 ⟨vs,H1,I1,r1,q⟩=>?_) he2 hp2
 obtain⟨a,ns,rfl,hq,hl,h64,hQ⟩:=q
 obtain⟨u,rfl,ru⟩:=vals1 r1
 cases ru
 obtain⟨its,rv,pl,_⟩:=I1.list hq
 have hi:VB its ns:=intsAre_of rv
 have hsz:its.toArray.size=ns.length:=by rw[Ul];exact hi.length
 refine ye (I1.ok.hd hc) pl.isList hi (by rw[hsz];exact X4 (Nat.succ_le_succ hl) (by decide)) fun h' tk hS hk=>?_
 rw[hsz] at hS
 have I2:Inv X ZY σ H1 { s1 with heap:=h',toks:=tk }:=I1.kept (t':=tk) fun b o e=>hk b o (Ua e) e
 refine (show T7 _ _ (spliced []) _ _ _ from aae ?_)
 refine Aj (I1.ok.hd hc) hS h64 fun l vs ms c s3 hi3 hp3 hw3 g3 hl3 os3 gs3 k3=>?_
 have hml:(ms.map V.int).length<=sizeLine:=by
  rw[TJ,hp3.length_eq]
  exact WR (T4 h64 (by decide))
 exact⟨.ref l,_,I2.M5 os3 gs3 k3 hl3 (iJ hi3) hml g3,U,hQ ms hp3 hw3 l (I2.hok.fresh hl3)⟩
section
variable {X:Cx}{ZY:EQ}{s:TV}{σ:St}{H:Hp}
end
section
variable {X:Cx}{k:Nat}
end
section
variable {X:Cx}{k:Nat}
end
def mxD (d:Int):E9->Int
 | []=>d
 | a::r=>r.foldl max a
theorem eY:∀ (r:E9) (a:Int),a<=r.foldl max a/\∀ b∈r,b<=r.foldl max a
 | [],a=>⟨Xr _,by simp⟩
 | c::r,a=>by
  obtain⟨h1,h2⟩:=eY r (max a c)
  rw[Vl]
  refine⟨by lia,fun b hb=>?_⟩
  rcases List.mem_cons.mp hb with rfl | hb
  ·lia
  ·exact h2 b hb
theorem ud {n:Int}:∀ {l:E4} {ns:E9} {j:Nat},VB l ns->ns[j]? = some n->∃ t,l[j]? = some (.int n t)
 | _,_,j,.nil,h=>by simp at h
 | _,_,0,.cons _ _ _,h=>by
  cases (show some _=some n from h)
  exact⟨_,U⟩
 | _,_,j+1,.cons _ _ r,h=>by
  obtain⟨t,e⟩:=ud (j:=j) r (by simpa using h)
  exact⟨t,by simpa using e⟩
def dkw (dk:EN):EO:=dk.toList.map fun d=>(("default" : Ut),Xj d.1 d.2)
section
variable {prog:Uq}{w:U3}{A:UW}{R:Z3->TV->Prop}{E:ET}{s:TV}
theorem Fo {it l S:Addr}{items:Array Value}{ns:E9}(hh:A.handled=none)(hi:VB items.toList ns)(hne:l≠it)(hS1:S≠it)(hS2:S≠l)(kw:EO) :
  ∀ (k j:Nat) (s:TV) (b:Int) (t:Tok) (c:Nat),ns.length - j=k->j<=ns.length->s.heap.IsListIter it l j->s.heap.IsList l items →
   s.heap.get? S=some { cls:=.type "list",dict:=none,data:=.seq #[.int b t,.int b t] c,slots:=#[] } →
   (∀ t' h' tk,(∀ a o,a≠it->a≠S->s.heap.get? a=some o->h'.get? a=some o)->R (.ok (.ret (.int ((ns.drop j).foldl max b) t'))) { s with heap:=h',toks:=tk }) →
   Vz (Ue prog w) A (.builtin "max.loop" ⟨[.ref it,.none,.ref S],kw⟩) R s:=by
 have W:=aa5 (prog:=prog) (w:=w) (A:=A.in1) hh it l hne items
 have hname:(toString "max"++toString ".loop" : String) = "max.loop":=by decide
 have hsz:items.size=ns.length:=by rw[← Vf];exact hi.length
 intro k
 induction k with
 | zero =>
  intro j s b t c hk hj h1 h2 hS hR
  refine WX aby ?_;rw[Ws XR _]
  show T7 _ A.in1 (aal (.ref S) >>= _) _ _ s;refine TF (V5 hS U ?_)
  have ej:j=items.size:=by lia
  show T7 _ A.in1 (tryCatch (Xn (.ref it)) _ >>= _) _ _ s;refine TF (ZW (W.done s _ _ (by rw[← ej];exact⟨h1,h2⟩) fun h' tk hm=>?_))
  have hS':=hm S _ (by simpa using hS1) hS
  show T7 _ A.in1 (updateSeq S (fun _=>#[]) >>= _) _ _ _;refine TF (ZC hS' U (TF (Zr (TX ?_))))
  rw[List.drop_of_length_le (by lia)] at hR
  exact hR t _ tk fun a o ha hb e=>(Uu _ _ (VM hb)).trans (hm a o (by simpa using ha) e)
 | succ k ih =>
  intro j s b t c hk hj h1 h2 hS hR
  refine WX aby ?_;rw[Ws XR _]
  show T7 _ A.in1 (aal (.ref S) >>= _) _ _ s;refine TF (V5 hS U ?_)
  have hlt:j < ns.length:=by lia
  obtain⟨u,hu⟩:=ud hi (T8 hlt)
  have ed:ns.drop j=ns[j]::ns.drop (j+1):=YG hlt
  show T7 _ A.in1 (tryCatch (Xn (.ref it)) _ >>= _) _ _ s;refine TF (ZW (W.item j s _ _ (by lia) ⟨h1,h2⟩ fun v h' tk hP st hm=>?_))
  obtain⟨g1,g2⟩:=st
  have ev:v = .int ns[j] u:=by
   have e:items[j]? = some v:=hP
   rw[← VG,hu] at e
   exact (U5 e).symm
  subst ev
  have hS':=hm S _ (by simpa using hS1) hS
  show T7 _ A.in1 (tryCatch (YZ [Xj ns[j] u,Xj ns[j] u] (richCompare .Gt (.int ns[j] u) (.int b t) >>= _)) _ >>= _) _ _ _
  refine TF (ZW (VL (TF ((CmpOf.ints_gt (P:=fun i v=>∃ t,v = .int (if i=0 then ns[j] else b) t) (fun i=>if i=0 then ns[j] else b) (fun _ _ h=>h)) 0 1 _ _ _ _ _ ⟨u,U⟩ ⟨t,U⟩ ?_))))
  refine TF (VL (Wu (TF (Zr (TX ?_)))))
  show T7 _ A.in1 (if decide (ns[j] > b)=true then _ else _) _ _ _
  by_cases hb:ns[j] > b
  ·rw[if_pos (decide_eq_true hb)]
   refine TF (ZC hS' U (TF (Zr ?_)))
   rw[hname]
   refine TX ⟨Xv XR _,ih (j+1) _ ns[j] u _ (by lia) hlt ?_ ?_ (UG _ hS' U) fun t' h2 tk2 k2=>?_⟩
   ·exact g1.at fun o e=>(Uu _ _ hS1).trans e
   ·exact g2.at fun o e=>(Uu _ _ hS2).trans e
   ·have q:=hR t' h2 tk2 fun a o ha hb e=>k2 a o ha hb ((Uu _ _ (VM hb)).trans (hm a o (by simpa using ha) e))
    rw[ed,Vl,show max b ns[j]=ns[j] by lia] at q
    exact q
  ·rw[if_neg (by simpa using hb)]
   refine TF (Zr ?_)
   rw[hname]
   refine TX ⟨Xv XR _,ih (j+1) _ b t c (by lia) hlt g1 g2 hS' fun t' h2 tk2 k2=>?_⟩
   have q:=hR t' h2 tk2 fun a o ha hb e=>k2 a o ha hb (hm a o (by simpa using ha) e)
   rw[ed,Vl,show max b ns[j]=b by lia] at q
   exact q
theorem Ac {it l S:Addr}{items:Array Value}{ns:E9}{c:Nat}(hh:A.handled=none)(hi:VB items.toList ns)(hne:l≠it)(hS1:S≠it)(hS2:S≠l)(dk:EN)(hd:ns=[]->dk≠none)
  (h1:s.heap.IsListIter it l 0) (h2:s.heap.IsList l items) (hS:s.heap.get? S=some { cls:=.type "list",dict:=none,data:=.seq #[] c,slots:=#[] })
  (hR:∀ t' h' tk,(∀ a o,a≠it->a≠S->s.heap.get? a=some o->h'.get? a=some o)->R (.ok (.ret (.int (mxD ((dk.map (·.1)).getD 0) ns) t'))) { s with heap:=h',toks:=tk }) :
  Vz (Ue prog w) A (.builtin "max.loop" ⟨[.ref it,.none,.ref S],dkw dk⟩) R s:=by
 have W:=aa5 (prog:=prog) (w:=w) (A:=A.in1) hh it l hne items
 have hname:(toString "max"++toString ".loop" : String) = "max.loop":=by decide
 have hsz:items.size=ns.length:=by rw[← Vf];exact hi.length
 refine WX aby ?_;rw[Ws XR _]
 show T7 _ A.in1 (aal (.ref S) >>= _) _ _ s;refine TF (V5 hS U ?_)
 show T7 _ A.in1 (tryCatch (Xn (.ref it)) _ >>= _) _ _ s
 cases ns with
 | nil =>
  have e0:items.size=0:=hsz
  refine TF (ZW (W.done s _ _ (by rw[e0];exact⟨h1,h2⟩) fun h' tk hm=>?_))
  cases dk with
  | none=>exact absurd U (hd U)
  | some d =>
   refine TF (Yh ?_)
   exact TX (hR d.2 h' tk fun a o ha hb e=>hm a o (by simpa using ha) e)
 | cons n r =>
  obtain⟨u,hu⟩:=ud (n:=n) (j:=0) hi U
  refine TF (ZW (W.item 0 s _ _ (by rw[hsz];exact Nat.succ_pos _) ⟨h1,h2⟩ fun v h' tk hP st hm=>?_))
  obtain⟨g1,g2⟩:=st
  have ev:v = .int n u:=by
   have e:items[0]? = some v:=hP
   rw[← VG,hu] at e
   exact (U5 e).symm
  subst ev
  have hS':=hm S _ (by simpa using hS1) hS
  show T7 _ A.in1 (updateSeq S (fun _=>#[Xj n u,Xj n u]) >>= _) _ _ _
  refine TF (ZC hS' U ?_)
  rw[hname]
  refine TX ⟨Xv XR _,Fo hh hi hne hS1 hS2 _ _ 1 _ n u _ U (Nat.succ_le_succ (U9 _)) ?_ ?_ (UG _ hS' U) fun t' h2 tk2 k2=>?_⟩
  ·exact g1.at fun o e=>(Uu _ _ hS1).trans e
  ·exact g2.at fun o e=>(Uu _ _ hS2).trans e
  ·exact hR t' h2 tk2 fun a o ha hb e=>k2 a o ha hb ((Uu _ _ (VM hb)).trans (hm a o (by simpa using ha) e))
theorem FZ (a v:Value):Z2 "max" ⟨[a],[("default",v)]⟩:=by unfold Z2;kernel_rfl
theorem GQ (v:Value):ZQ "max" ["key","default"] 0 ⟨[],[("default",v)]⟩=pure [none,some v]:=by kernel_rfl
theorem JP {l:Addr}{items:Array Value}{ns:E9}{Q:ET}(hh:A.handled=none)(hl:s.heap.IsList l items)(hi:VB items.toList ns)(dk:EN)(hd:ns=[]->dk≠none)
  (h:∀ t h' tk,(∀ a o,s.heap.get? a=some o->h'.get? a=some o)->Q (.int (mxD ((dk.map (·.1)).getD 0) ns) t) { s with heap:=h',toks:=tk }) :
  T7 (Ue prog w) A (call (.builtin "max") [.ref l] (dkw dk)) Q E s:=by
 have ha:Z2 "max" ⟨[.ref l],dkw dk⟩:=by
  cases dk with
  | none=>exact F.args_max1 _
  | some d=>exact FZ _ _
 have hb:ZQ "max" ["key","default"] 0 ⟨[],dkw dk⟩=pure [none,dk.map fun d=>.int d.1 d.2]:=by
  cases dk with
  | none=>rfl
  | some d=>exact GQ _
 have hname:(toString "max"++toString ".loop" : String) = "max.loop":=by decide
 refine Yi (Yl F.plain_max F.entry_max ?_)
 have main:T7 (Ue prog w) A.in1 (XD.«max» ⟨[.ref l],dkw dk⟩) (fun fin s'=>match fin with
   | .done f=>(match (Except.ok f:Z3) with | .ok (.ret v)=>Q v s' | .ok _=>False | .error e=>E e s')
   | .again c'=>c'.quiet=true/\Vz (Ue prog w) A c' (fun r s'=>match r with | .ok (.ret v)=>Q v s' | .ok _=>False | .error e=>E e s') s') E s:=by
  show T7 _ A.in1 (ZQ "max" ["key","default"] 0 ⟨[],dkw dk⟩ >>= _) _ _ s
  refine TF (WT hb (TF (TX ?_)))
  refine TF (Yc hl (TF (U4 ?_)))
  have lt:l < s.heap.objs.size:=by obtain⟨o,e,_⟩:=hl;exact Ua e
  have hs1:(s.heap.push { cls:=.type "list_iterator",data:=.fields #[.ref l,.int 0 0] }).objs.size=s.heap.objs.size+1:=Ve ..
  rw[hname]
  have ek:(dk.map fun d=>Xj d.1 d.2).toList.map (fun d=>(("default" : Ut),d))=dkw dk:=by cases dk <;> rfl
  refine TX ⟨Xv XR _,?_⟩
  show Vz _ A (.builtin "max.loop" ⟨[.ref s.heap.objs.size,.none,_],(dk.map fun d=>Xj d.1 d.2).toList.map (fun d=>(("default" : Ut),d))⟩) _ _
  rw[ek]
  refine Ac hh hi (Um lt) (by rw[hs1];exact Wc (Wd _)) (by rw[hs1];exact Wc (Vv lt)) dk hd
   ⟨_,TQ _ (T9 _ U),U,U⟩ ((hl.push _).push _) (T9 _ U) fun t h' tk k=>?_
  exact h t h' tk fun a o e=>k a o (Um (Ua e)) (by rw[hs1];exact Um (Vv (Ua e))) (TQ _ (TQ _ e))
 simp only[YD,F.kind_max]
 cases hsig:Manifest.signature? "max" with
 | none=>exact TX main
 | some sig =>
  have ha':Bind.checkArgs "max" sig ⟨[.ref l],dkw dk⟩=pure ():=by simpa only [Z2,hsig] using ha
  simp only[ha']
  exact TX main
end
section
variable {X:Cx}
inductive KC (K:Uw)(xs:List V)(H:Hp)(Q:VK):Prop where
 | mk (p:Addr) (ns:E9) (_:xs=[.ref p]) (_:SqL K H p (ns.map V.int)) (_:ns.length < 64) (_:∀ ms:E9,ms.Perm ns->ms.Pairwise (·<=·)->∀ l,H l=none->Q (.ref l) (upd H l (.lst (ms.map V.int))))
theorem Am:fZ X (.builtin "sorted") (KC X.K):=by
 intro ZY s σ H xs us Q I r h
 obtain⟨p,ns,rfl,hq,h64,q⟩:=h
 obtain⟨u,rfl,ru⟩:=vals1 r
 cases ru
 obtain⟨its,rv,pl,hz⟩:=I.list hq
 have hi:VB its ns:=intsAre_of rv
 refine sorted_ints pl.isList hi (by have:=hi.length;lia) fun out ns' a1 a2 a3=>?_
 obtain⟨e,he⟩:=sortedAll_at s.heap its out
 have hml:(ns'.map V.int).length<=sizeLine:=by
  rw[TJ,a2.length_eq]
  exact WR (T4 h64 (by decide))
 exact⟨.ref _,_,I.M5 U U (fun _ _=>sortedAll_old) (We _) (iJ a1) hml he,U,q ns' a2 a3 _ (I.hok.fresh (We _))⟩
inductive Ck (K:Uw)(xs:List V)(H:Hp)(Q:VK):Prop where
 | mk (p:Addr) (ns:E9) (_:xs=[.ref p]) (_:SqL K H p (ns.map V.int)) (_:ns≠[]) (_:Q (.int (mxD 0 ns)) H)
theorem jO (hc:X.calm=true):fZ X (.builtin "max") (Ck X.K):=by
 intro ZY s σ H xs us Q I r h
 obtain⟨p,ns,rfl,hq,hne,q⟩:=h
 obtain⟨u,rfl,ru⟩:=vals1 r
 cases ru
 obtain⟨its,rv,pl,hz⟩:=I.list hq
 exact JP (I.ok.hd hc) pl.isList (show VB its.toArray.toList ns from intsAre_of rv) none (fun e=>absurd e hne) fun t h' tk k=>⟨.int _,H,I.kept (t':=tk) k,⟨_,U⟩,q⟩
def Rx (K:Uw)(d:Int)(te:TA):TE:=fun σ H Q=>te σ H fun xs H1=>∃ (p:Addr) (ns:E9),xs=[.ref p]/\SqL K H1 p (ns.map V.int)/\Q (.int (mxD d ns)) H1
theorem Dj {e:Expr} {te:TA} {d:Int} {j} {p pos kp cp:Yg} (hc:X.calm=true) (hg:Gl X "max") (hm:X.mg "max" = none) (ha:PA X [e] te)
  (hb:Vi "max" = some (.builtin "max"):=by decide+kernel)
  (he:Wt pos (Ur [e] X.env)=(false,VD e X.env)::Wt pos (Ur [] X.env):=by rfl) (hp:(Wt pos (Ur [e] X.env)).any (·.1)=false:=by rfl) :
  PE X (.Call (.Name "max" p) [e] [⟨some "default",.Constant (.int d) j cp,kp⟩] pos) (Rx X.K d te):=by
 intro ZY s σ H Q I h
 refine VR (ig I hg hm hb ?_ (by decide) (by decide))
 refine callWith_kw (thn (ha pos ZY s σ H _ I h) fun us s1 ⟨vs,H1,I1,r1,q⟩=>?_) he hp
 obtain⟨a,ns,rfl,hq,q⟩:=q
 obtain⟨u,rfl,ru⟩:=vals1 r1
 cases ru
 refine kws_cons (wpAny_Constant_int (kws_nil ?_))
 have I2:Inv X ZY σ H1 { s1 with toks:=s1.toks+1 }:=I1.tok _
 obtain⟨its,rv,pl,hz⟩:=I2.list hq
 exact JP (I.ok.hd hc) pl.isList (show VB its.toArray.toList ns from intsAre_of rv) (some (d,_)) (fun _ z=>nomatch z) fun t h' tk k=>⟨.int _,H1,I2.kept (t':=tk) k,⟨_,U⟩,q⟩
end
theorem Eg:Manifest.owners.lookup (String.ofList ['d','e','s','r','e','v','e','r'].reverse)=some Manifest.sig_reversed:=by kernel_rfl
theorem di:Slot "reversed" "__next__" "reversed.__next__" :=
 .of (owner:="reversed") (n:="__next__") (by rw[YX,Xm];kernel_rfl) (by decide+kernel) (by decide+kernel) (by decide+kernel) (by first | exact .inl (by decide+kernel) | exact .inr (by decide+kernel)) (by rw[XH];kernel_rfl)
theorem uh:Slot "reversed" "__init__" "object.__init__" :=
 .of (owner:="object") (n:="__init__") (by rw[YX,Xm];kernel_rfl) (by decide+kernel) (by decide+kernel) (by decide+kernel) (by first | exact .inl (by decide+kernel) | exact .inr (by decide+kernel)) (by rw[XH];kernel_rfl)
theorem jd:entryFor table "reversed.__next__" = some XD.«reversed.__next__»:=entryFor_of_tree (by kernel_rfl)
theorem jZ (a:Value):Z2 "reversed.__next__" ⟨[a],[]⟩:=by
 unfold Z2
 rw[aa2 (id:="reversed.__next__") (n:=['_','_','t','x','e','n','_','_']) (o:=['d','e','s','r','e','v','e','r']) (by kernel_rfl) Eg]
 kernel_rfl
theorem j7:Slot "reversed" "__iter__" "reversed.__iter__" :=
 .of (owner:="reversed") (n:="__iter__") (by rw[YX,Xm];kernel_rfl) (by decide+kernel) (by decide+kernel) (by decide+kernel) (by first | exact .inl (by decide+kernel) | exact .inr (by decide+kernel)) (by rw[XH];kernel_rfl)
theorem qy:entryFor table "reversed.__iter__" = some XD.«dict_keyiterator.__iter__»:=entryFor_alias (id':="dict_keyiterator.__iter__") (by kernel_rfl) U (by decide+kernel) (by kernel_rfl)
theorem tO (a:Value):Z2 "reversed.__iter__" ⟨[a],[]⟩:=by
 unfold Z2
 rw[aa2 (id:="reversed.__iter__") (n:=['_','_','r','e','t','i','_','_']) (o:=['d','e','s','r','e','v','e','r']) (by kernel_rfl) Eg]
 kernel_rfl
theorem Bq:TypeCalled "reversed" "reversed.__new__" "object.__init__" :=
 ⟨by decide+kernel,by decide+kernel,⟨_,_,F.mro_reversed⟩,F.made_reversed,by decide+kernel,by rw[XH];kernel_rfl,uh⟩
theorem vG:ZX (.type "tuple") "__reversed__" = pure none:=by rw[YX,Xm];kernel_rfl
theorem uI:isSubtype (.type "tuple") (.type "dict")=pure false:=by rw[XH];kernel_rfl
def RIt (h:Va)(I t:Addr)(i:Int):Prop:=h.get? I=some { cls:=.type "reversed",dict:=none,data:=.fields #[.ref t,.int i 0],slots:=#[] }
theorem IV (a:Value):abQ "reversed" ⟨[.type "reversed",a],[]⟩=pure (.type "reversed",[a]):=by
 unfold abQ
 simp only[isType,F.sub_reversed_self,pure_bind,Bool.not_true,aa9,if_false]
theorem Jb (t:Addr)(items:Array Value)(hf:(items.size:Int) < 2 ^ 63) :
  Meets (XD.«reversed.__new__» ⟨[.type "reversed",.ref t],[]⟩) (fun _ R s=>IsTup s.heap t items/\R (.ok (.ret (.ref s.heap.objs.size))) { s with heap:=s.heap.push { cls:=.type "reversed",data:=.fields #[.ref t,.int ((items.size:Int) - 1) 0] },toks:=s.toks+1+1 }) :=
 .of_wp fun prog w A R s h=>by
  obtain⟨ht,h⟩:=h
  unfold XD.«reversed.__new__»
  refine TF (WT (IV _) ?_)
  try dsimp only
  refine TF (WT (a:=()) (by first | rfl | kernel_rfl) (TF (WT (a:=()) (by first | rfl | kernel_rfl) ?_)))
  try dsimp only
  refine TF (ZD ht.typeIs vG ?_)
  try dsimp only
  refine (show T7 _ _ ((isInstance (.ref t) (.type "dict") >>= _) >>= _) _ _ s from TF (TF (Yz ht.typeIs uI ?_)))
  rw[if_neg T5]
  refine TF (ZD ht.typeIs slot_tuple_getitem.lookup ?_)
  dsimp only
  rw[if_pos (by decide+kernel)]
  refine TX ?_
  rw[if_neg (by simp)]
  refine TF (len_tuple ht hf ?_)
  refine TF (WT (a:=some ((items.size:Nat):Int)) U ?_)
  dsimp only
  refine TF ?_
  refine (show T7 _ _ (newObj (.type "reversed") (.fields #[.ref t,Vh ((items.size:Int) - 1)])) _ _ _ from U4 ?_)
  exact TX ⟨_,U,h⟩
section
variable {prog:Uq}{w:U3}{A:UW}{E:ET}{s:TV}
theorem Dt {t:Addr}{items:Array Value}{Q:ET}(ht:IsTup s.heap t items)(hf:(items.size:Int) < 2 ^ 63)
  (h:Q (.ref s.heap.objs.size) { s with heap:=s.heap.push { cls:=.type "reversed",data:=.fields #[.ref t,.int ((items.size:Int) - 1) 0] },toks:=s.toks+1+1 }):T7 (Ue prog w) A (call (.type "reversed") [.ref t]) Q E s:=by
 refine callType_new Bq (by decide) (F.typeCall_reversed_1 _) (F.newCall_reversed_1 _) (fun obj=>F.args_object_init_2 obj _) F.entry_reversed_new (Jb t items hf) ⟨ht,?_⟩
 exact⟨⟨_,T9 _ U,U⟩,h⟩
theorem G9 {it t:Addr}{i:Nat}{items:Array Value}{x:Value}{Q:EW->TV->Prop}(hit:RIt s.heap it t (i:Int))(ht:IsTup s.heap t items)(hi:(i:Int) < 2 ^ 63)(hx:items[i]? = some x)
  (hQ:∀ h',RIt h' it t ((i:Int) - 1)->Wl it s.heap h'->Q (some x) { s with heap:=h',toks:=s.toks+1 }):T7 (Ue prog w) A (Xn (.ref it)) Q E s:=by
 have hT:s.TypeIs (.ref it) "reversed":=⟨_,hit,U⟩
 unfold Xn
 refine TF (Xu (Vx (name:=Xd "__next__") hT di (Vs di hT jd ?_ (jZ _))))
 unfold XD.«reversed.__next__»
 refine TF (WT (a:=(Uk it,[])) U ?_)
 dsimp only
 refine TF (Vo hit U (x:=.ref t) U (TF (Vo hit U (x:=.int (i:Int) 0) U ?_)))
 dsimp only
 rw[if_neg (by lia)]
 refine TF (ZD ht.typeIs slot_tuple_getitem.lookup ?_)
 rw[if_neg (by simp)]
 refine TF (wpAny_mkInt ?_)
 have hsz:i < items.size:=(Array.getElem?_eq_some_iff.mp hx).1
 have hk:seqIndex? (i:Int) items.size=some i:=by
  have e0:¬ ((i:Int) < 0):=by lia
  unfold seqIndex?
  simp only[if_neg e0]
  simp [hsz]
 refine TF (Xu (getItem_tuple (s:={ s with toks:=s.toks+1 }) (show IsTup s.heap t items from ht) (by lia) hi hk hx ?_))
 dsimp only
 refine TF (Vo (s:={ s with toks:=s.toks+1 }) hit U (x:=.int (i:Int) 0) U ?_)
 dsimp only
 refine TF (V0 (s:={ s with toks:=s.toks+1 }) hit U (by simp) ?_)
 refine TX ⟨x,U,TX (hQ _ ?_ (Vy ..))⟩
 exact UG (Wi (·.setIfInBounds 1 (Vh ((i:Int) - 1)))) hit U
theorem Lw {it t:Addr}{Q:EW->TV->Prop}(hh:A.handled=none)(hit:RIt s.heap it t (-1))(hQ:∀ h',Heap.ExtBut it s.heap h'->Q none { s with heap:=h' }):T7 (Ue prog w) A (Xn (.ref it)) Q E s:=by
 have hT:s.TypeIs (.ref it) "reversed":=⟨_,hit,U⟩
 unfold Xn
 refine TF (Xu (Vx (name:=Xd "__next__") hT di (Vs di hT jd ?_ (jZ _))))
 unfold XD.«reversed.__next__»
 refine TF (WT (a:=(Uk it,[])) U ?_)
 dsimp only
 refine TF (Vo hit U (x:=.ref t) U (TF (Vo hit U (x:=.int (-1) 0) U ?_)))
 dsimp only
 rw[if_pos (by decide)]
 refine TF (Yh ?_)
 refine TF ?_
 refine (show T7 _ _ (setField (.ref it) 1 (Vh (-1)) >>= _) _ _ s from TF (V0 hit U (by simp) ?_))
 have g1:=UG (Wi (·.setIfInBounds 1 (Vh (-1)))) hit U
 refine V0 g1 U (by simp) ?_
 refine TF ?_
 refine (show T7 _ _ (abr (.type "StopIteration") [] >>= _) _ _ _ from TF ?_)
 simp only[abr,newTuple]
 refine TF (U4 ?_ (by size_fits))
 refine TF (m:=XJ _ _) (WT (a:=Vr) (by first | rfl | (simp only[XJ];rfl)) (U4 ?_ (by size_fits)))
 simp only[raiseNew]
 refine TF (aa1 ?_)
 first | rw[show A.in1.handled=none from hh] | rw[hh]
 refine TF (TX (abz ?_))
 refine TF (Yz (T:="StopIteration") (b:=true) ⟨_,T9 _ U,U⟩ aaL (TX ?_))
 exact hQ _ ((((Vy ..).trans (Vy ..)).extBut.push _).push _)
theorem zg {it t:Addr}{i:Int}{Q:ET}(hI:RIt s.heap it t i)(h:Q (.ref it) s):T7 (Ue prog w) A (aaK (.ref it)) Q E s:=by
 have hT:s.TypeIs (.ref it) "reversed":=⟨_,hI,U⟩
 refine aba hT j7 (Vs j7 hT qy (show T7 _ _ (ret (.ref it)) _ _ s from ?_) (tO _))
 exact TX ⟨_,U,"reversed",_,hT,di.lookup,h⟩
end
def Itv (K:Uw)(a:Addr)(n:Nat):It :=
 ⟨fun i H=>i < n/\∃ xs x,SqT K H a xs/\xs.length=n/\xs[n - 1 - i]? = some x,fun i H x H'=>H'=H/\∀ xs,SqT K H a xs->xs[n - 1 - i]? = some x,fun i _=>i=n⟩
theorem Jq {P:Uq}{w:U3}{K:Uw}{tg:Expr}(a it:Addr)(n:Nat)(hn:(n:Int) < 2 ^ 63):Turn P w K tg (Itv K a n) [it] it (fun i h=>RIt h it a ((n:Int) - 1 - (i:Int))) where
 mem:=by simp
 obj:=fun i h st b hb=>by
  have e:b=it:=by simpa using hb
  subst e
  exact⟨_,st,fun v z=>by cases (show Data.fields _=Data.cell v from z)⟩
 keep:=fun i h h' st k=>k it (by simp) _ st
 item:=by
  intro X hP hw hK hc i ZY s σ H E I hf st hg
  subst hP hw hK
  obtain⟨hin,xs,x,hq,hlen,hx⟩:=hg
  obtain⟨its,rv,p,hz⟩:=I.tuple hq
  obtain⟨u,hu,ru⟩:=rv.get hx
  obtain⟨f0,f1,f2,f3,f4,f5⟩:=hf it (by simp)
  have e:(n:Int) - 1 - (i:Int)=((n - 1 - i:Nat):Int):=by lia
  have st':RIt s.heap it a ((n - 1 - i:Nat):Int):=by rw[← e];exact st
  refine G9 st' p (by lia) (x:=u) (by simpa using hu) fun h' st2 sb=>?_
  have e2:((n - 1 - i:Nat):Int) - 1=(n:Int) - 1 - ((i+1:Nat):Int):=by lia
  rw[e2] at st2
  have I1:Inv X ZY σ H { s with heap:=h',toks:=s.toks+1 }:=I.turned (t':=s.toks+1) (fun b o hb e=>(sb.2 b hb).trans e) f0 f1 f3 f4 f5
  exact⟨u,U,Hl (s:={ s with heap:=h',toks:=s.toks+1 }) st2 U U (by decide) ⟨x,H,I1,ru,⟨U,fun ys hy=>by rw[I.pI hy hq];exact hx⟩,st2,fun b hb=>(hf b hb).1⟩⟩
 done:=by
  intro X hP hw hK hc i ZY s σ H E I hf st hg
  subst hP hw hK
  cases (show i=n from hg)
  obtain⟨f0,f1,f2,f3,f4,f5⟩:=hf it (by simp)
  have st':RIt s.heap it a (-1):=by
   have e:(n:Int) - 1 - (n:Int) = -1:=by lia
   rw[← e];exact st
  exact Lw (I.ok.hd hc) st' fun h' eb=>⟨U,I.turned (t':=s.toks) (fun b o hb e=>eb b o hb e) f0 f1 f3 f4 f5⟩
 self:=fun _ _ _ _ _ st h=>zg st h
def Tq (K:Uw)(ta:TA):TI:=fun σ H R=>ta σ H fun vs H1=>∃ a xs,vs=[.ref a]/\SqT K H1 a xs/\R (Itv K a xs.length) H1
theorem QH {X:Cx} {tg:Expr} {a:Expr} {ta:TA} {p pos:Yg} (hg:Gl X "reversed") (hm:X.mg "reversed" = none) (ha:PA X [a] ta) (hs:Ur [a] X.env=[(false,VD a X.env)]:=by rfl) :
  PI X tg (.Call (.Name "reversed" p) [a] [] pos) (Tq X.K ta):=by
 intro ZY s σ H R I h
 refine Call_ (ig I hg hm boot_reversed (V4 (thn (ha pos ZY s σ H _ I h) fun us s1 ⟨vs,H1,I1,r1,q1⟩=>?_) hs U))
 obtain⟨c,xs,e,hx,q⟩:=q1
 subst e
 obtain⟨u1,rfl,ru1⟩:=vals1 r1
 cases ru1
 obtain⟨its,rv,tp,hz⟩:=I1.tuple hx
 have hl:=rv.length
 have hn:=rG
 have hsz:((its.toArray.size:Nat):Int) < 2 ^ 63:=by rw[Ul,← hl];lia
 refine Dt tp hsz ?_
 have g:RIt (s1.heap.push { cls:=.type "reversed",data:=.fields #[.ref c,.int ((its.toArray.size:Int) - 1) 0] }) s1.heap.objs.size c ((xs.length:Int) - 1 - ((0:Nat):Int)):=by
  have e:((xs.length:Int) - 1 - ((0:Nat):Int))=(its.toArray.size:Int) - 1:=by rw[Ul,← hl];lia
  rw[e]
  exact T9 _ U
 refine zg g ⟨s1.heap.objs.size,[s1.heap.objs.size],_,_,H1,U,I1.kept (t':=s1.toks+1+1) fun b o e=>TQ _ e,Jq c _ xs.length (by lia),g,fun b hb=>?_,q⟩
 have e:b=s1.heap.objs.size:=by simpa using hb
 subst e
 exact I1.Kd (T6 _) (I1.hok.fresh (T6 _))
theorem Lr {K:Uw}{a:Addr}{xs:List V}{g:TG}{tb:TS}{D:Ends}{σ:St}{H:Hp}(Pv:Nat->St->Hp->Prop)(h0:Pv 0 σ H)(hl:∀ i σ H,i<=xs.length->Pv i σ H->SqT K H a xs)
  (hs:∀ i x σ H,i < xs.length->xs[xs.length - 1 - i]? = some x->Pv i σ H->g x σ H fun σ2 H2=>tb { D with nx:=Pv (i+1),ct:=Pv (i+1),bk:=D.nx } σ2 H2) (hd:∀ σ H,Pv xs.length σ H->D.nx σ H) :
  ∃ W:Nat->Nat->St->Hp->Prop,(∃ m,W 0 m σ H)/\∀ i m σ H,W i m σ H →
   ((Itv K a xs.length).stop i H/\D.nx σ H)∨((Itv K a xs.length).go i H/\∃ N:St->Hp->Prop,(∀ σ' H',N σ' H'->∃ m',m' < m/\W (i+1) m' σ' H')/\∀ x H',(Itv K a xs.length).yld i H x H'->g x σ H' fun σ2 H2=>tb { D with nx:=N,ct:=N,bk:=D.nx } σ2 H2):=by
 refine⟨fun i m σ H=>m=xs.length - i/\i<=xs.length/\Pv i σ H,⟨xs.length,by simp,U9 _,h0⟩,?_⟩
 rintro i m σ H ⟨rfl,hi,p⟩
 have q1:=hl i σ H hi p
 by_cases hlt:i < xs.length
 ·refine .inr ⟨⟨hlt,xs,xs[xs.length - 1 - i],q1,U,T8 (by lia)⟩,Pv (i+1),fun σ' H' p'=>⟨xs.length - (i+1),by lia,U,hlt,p'⟩,fun v H' y=>?_⟩
  obtain⟨rfl,hx⟩:=y
  exact hs i v σ _ hlt (hx xs q1) p
 ·have e:i=xs.length:=by lia
  subst e
  exact .inl ⟨U,hd σ H p⟩
section
variable {prog:Uq}{w:U3}{A:UW}{E:ET}{s:TV}
theorem qN {h h':Va}{a t:Addr}{its:Array Value}(ht:h.IsList t its)(sb:Wl a h h')(ne:t≠a):h'.IsList t its:=by
 obtain⟨o,e,r⟩:=ht
 exact⟨o,(sb.2 t ne).trans e,r⟩
theorem iH {h h':Va}{a it t:Addr}{i:Nat}(ht:h.IsListIter it t i)(sb:Wl a h h')(ne:it≠a):h'.IsListIter it t i:=by
 obtain⟨o,e,r⟩:=ht
 exact⟨o,(sb.2 it ne).trans e,r⟩
theorem Nt {z p q i1 i2 l1 l2:Addr}{k:Nat}{xs ys:Array Value}{x y a b:Value}{Q:EW->TV->Prop}(D:Zap z p q i1 i2 l1 l2)
  (hz:aaF s.heap z p q .none) (hp:YK s.heap p (.ref i1) (.ref i2)) (hq:YK s.heap q a b) (j1:s.heap.IsTupleIter i1 l1 k) (j2:s.heap.IsListIter i2 l2 k) (t1:s.heap.IsTuple l1 xs) (t2:s.heap.IsList l2 ys)
  (hx:xs[k]? = some x) (hy:ys[k]? = some y)
  (hQ:∀ h',aaF h' z p q (Vh s.heap.objs.size)->YK h' q x y->h'.IsTupleIter i1 l1 (k+1)->h'.IsListIter i2 l2 (k+1)->YK h' s.heap.objs.size x y->h'.objs.size=s.heap.objs.size+1 →
   (∀ c o,c≠z->c≠q->c≠i1->c≠i2->s.heap.get? c=some o->h'.get? c=some o)->Q (some (.ref s.heap.objs.size)) { s with heap:=h' }):T7 (Ue prog w) A (Xn (.ref z)) Q E s:=by
 have hT:s.TypeIs (.ref z) "zip":=⟨_,hz,U⟩;unfold Xn
 refine TF (Xu (Vx (name:=Xd "__next__") hT aaG (Vs aaG hT F.entry_zip_next ?_ (F.args_zip_next_1 _))))
 show T7 _ _ (field (.ref z) 2 >>= _) _ _ _;refine TF (Vo hz U (x:=.bool false) U ?_)
 show T7 _ _ (field (.ref z) 3 >>= _) _ _ _;refine TF (Vo hz U (x:=.ref p) U ?_);refine TF (V5 hp U ?_)
 show T7 _ _ (Xi (.ref z) >>= _) _ _ _;refine TF ?_;unfold Xi
 refine TF (Vo hz U (x:=.none) U (TX ?_));simp only[if_true];refine TF (Yh ?_);refine TF (Vo hz U (x:=.ref q) U ?_)
 refine TF (XX hz (by simp) fun h1 z1 b1=>?_);replace z1:aaF h1 z p q .ellipsis:=z1
 refine TF ?_;simp only[List.zipIdx_cons,List.zipIdx_nil,abM,aaQ];refine TF (TF (aag ?_))
 show T7 _ _ (VP (.ref i1) >>= _) _ _ _;refine TF (FT (pX j1 b1 D.az) (Cy t1 b1 D.xz) hx fun h2 u1 b2=>TX ?_)
 have q2:YK h2 q a b:=(b2.2 _ D.qa).trans ((b1.2 _ D.qz).trans hq);refine TF (V5 q2 U ?_);refine TF (aaI q2 fun h3 q3 b3=>?_)
 replace q3:YK h3 q x b:=q3;refine TF (Zr (TX ?_));refine TF (TF (aag ?_))
 show T7 _ _ (VP (.ref i2) >>= _) _ _ _
 refine TF (wpAny_nextOf_list_item (iH (iH (iH j2 b1 D.bz) b2 D.ab.symm) b3 D.qb.symm) (qN (qN (qN t2 b1 D.yz) b2 D.ya) b3 D.yq) hy fun h4 u2 b4=>TX ?_)
 have q4:YK h4 q x b:=(b4.2 _ D.qb).trans q3;refine TF (V5 q4 U ?_);refine TF (aaI q4 fun h5 q5 b5=>?_)
 replace q5:YK h5 q x y:=q5;refine TF (Zr (TX (TX ?_)));refine TF (V5 q5 U ?_);refine TF (wpAny_newTuple ?_)
 have sz:h5.objs.size=s.heap.objs.size:=by rw[b5.1,b4.1,b3.1,b2.1,b1.1]
 have z5:aaF h5 z p q .ellipsis:=(b5.2 _ D.qz.symm).trans ((b4.2 _ D.bz.symm).trans ((b3.2 _ D.qz.symm).trans ((b2.2 _ D.az.symm).trans z1)))
 have kp:∀ c o,c≠z->c≠q->c≠i1->c≠i2->s.heap.get? c=some o->h5.get? c=some o:=fun c o c1 c2 c3 c4 e=>(b5.2 c c2).trans ((b4.2 c c4).trans ((b3.2 c c2).trans ((b2.2 c c3).trans ((b1.2 c c1).trans e))))
 have u15:h5.IsTupleIter i1 l1 (k+1):=pX (pX (pX u1 b3 D.qa.symm) b4 D.ab) b5 D.qa.symm
 have u25:h5.IsListIter i2 l2 (k+1):=iH u2 b5 D.qb.symm
 have zl:z < h5.objs.size:=Ua z5
 show T7 _ _ (aa0 (.ref z) (.ref h5.objs.size) >>= _) _ _ _;refine TF ?_;unfold aa0
 have z6:aaF (h5.push { cls:=.type "tuple",data:=.seq #[x,y] }) z p q .ellipsis:=TQ _ z5
 refine TF (XX z6 (by simp) fun h7 z7 b7=>?_);replace z7:aaF h7 z p q (Vh h5.objs.size):=z7
 refine XX z7 (by simp) fun h8 z8 b8=>?_;replace z8:aaF h8 z p q (Vh h5.objs.size):=z8
 have up:∀ c o,c≠z->h5.get? c=some o->h8.get? c=some o:=fun c o c1 e=>(b8.2 c c1).trans ((b7.2 c c1).trans (TQ _ e))
 have t8:YK h8 h5.objs.size x y:=(b8.2 _ (Wc zl)).trans ((b7.2 _ (Wc zl)).trans (T9 _ U))
 have s8:h8.objs.size=h5.objs.size+1:=by rw[b8.1,b7.1,Ve]
 rw[sz] at z8 t8 s8;refine TX ⟨_,U,?_⟩
 show T7 _ _ _ _ _ _
 rw[sz]
 exact TX (hQ h8 z8 (up _ _ D.qz q5) (by obtain⟨o,e,r⟩:=u15;exact⟨o,up _ o D.az e,r⟩) (by obtain⟨o,e,r⟩:=u25;exact⟨o,up _ o D.bz e,r⟩) t8 s8 fun c o c1 c2 c3 c4 e=>up c o c1 (kp c o c1 c2 c3 c4 e))
theorem Nm {z p q i1 i2 l1 l2:Addr}{k:Nat}{xs ys:Array Value}{a b:Value}{Q:Fin->TV->Prop}(hh:A.handled=none)(D:Zap z p q i1 i2 l1 l2)
  (hz:aaF s.heap z p q .none) (hp:YK s.heap p (.ref i1) (.ref i2)) (hq:YK s.heap q a b) (j1:s.heap.IsTupleIter i1 l1 k) (j2:s.heap.IsListIter i2 l2 k) (t1:s.heap.IsTuple l1 xs) (t2:s.heap.IsList l2 ys)
  (hend:xs[k]? = none∨ys[k]? = none) (hE:∀ h' e,(∀ c o,c≠z->c≠q->c≠i1->c≠i2->s.heap.get? c=some o->h'.get? c=some o)->(∃ o,h'.get? e=some o/\o.cls = .type "StopIteration")->E (.ref e) { s with heap:=h' }) :
  T7 (Ue prog w) A (XD.«zip.__next__» ⟨[.ref z],[]⟩) Q E s:=by
 show T7 _ _ (field (.ref z) 2 >>= _) _ _ _;refine TF (Vo hz U (x:=.bool false) U ?_)
 show T7 _ _ (field (.ref z) 3 >>= _) _ _ _;refine TF (Vo hz U (x:=.ref p) U ?_);refine TF (V5 hp U ?_)
 show T7 _ _ (Xi (.ref z) >>= _) _ _ _;refine TF ?_;unfold Xi
 refine TF (Vo hz U (x:=.none) U (TX ?_));simp only[if_true];refine TF (Yh ?_);refine TF (Vo hz U (x:=.ref q) U ?_)
 refine TF (XX hz (by simp) fun h1 z1 b1=>?_);replace z1:aaF h1 z p q .ellipsis:=z1
 refine TF ?_;simp only[List.zipIdx_cons,List.zipIdx_nil,abM,aaQ];refine TF (TF (aag ?_))
 show T7 _ _ (VP (.ref i1) >>= _) _ _ _
 cases hx:xs[k]? with
 | none =>
  refine TF (PK hh (pX j1 b1 D.az) (Cy t1 b1 D.xz) hx fun h2 e b2 he=>?_)
  obtain⟨oe,ho,hc⟩:=he
  have z2:aaF h2 z p q .ellipsis:=b2 _ _ D.az.symm z1
  have ez:e≠z:=fun u=>by subst u;rw[z2] at ho;cases ho;simp at hc
  exact XX z2 (by simp) fun h3 _ b3=>hE h3 e (fun c o c1 _ c3 _ u=>(b3.2 c c1).trans (b2 _ _ c3 ((b1.2 c c1).trans u))) ⟨oe,(b3.2 e ez).trans ho,hc⟩
 | some x =>
  have hy:ys[k]? = none:=hend.elim (fun u=>by rw[hx] at u;cases u) id
  refine TF (FT (pX j1 b1 D.az) (Cy t1 b1 D.xz) hx fun h2 u1 b2=>TX ?_)
  have q2:YK h2 q a b:=(b2.2 _ D.qa).trans ((b1.2 _ D.qz).trans hq);refine TF (V5 q2 U ?_);refine TF (aaI q2 fun h3 q3 b3=>?_)
  refine TF (Zr (TX ?_));refine TF (TF (aag ?_));show T7 _ _ (VP (.ref i2) >>= _) _ _ _
  refine TF (wpAny_nextOf_list_end hh (iH (iH (iH j2 b1 D.bz) b2 D.ab.symm) b3 D.qb.symm) (qN (qN (qN t2 b1 D.yz) b2 D.ya) b3 D.yq) hy fun h4 e b4 he=>?_)
  obtain⟨oe,ho,hc⟩:=he
  have z4:aaF h4 z p q .ellipsis:=b4 _ _ D.bz.symm ((b3.2 _ D.qz.symm).trans ((b2.2 _ D.az.symm).trans z1))
  have ez:e≠z:=fun u=>by subst u;rw[z4] at ho;cases ho;simp at hc
  exact XX z4 (by simp) fun h5 _ b5=>hE h5 e (fun c o c1 c2 c3 c4 u=>(b5.2 c c1).trans (b4 _ _ c4 ((b3.2 c c2).trans ((b2.2 c c3).trans ((b1.2 c c1).trans u))))) ⟨oe,(b5.2 e ez).trans ho,hc⟩
theorem O6 {z p q i1 i2 l1 l2:Addr}{k:Nat}{xs ys:Array Value}{a b:Value}{Q:EW->TV->Prop}(hh:A.handled=none)(D:Zap z p q i1 i2 l1 l2)
  (hz:aaF s.heap z p q .none) (hp:YK s.heap p (.ref i1) (.ref i2)) (hq:YK s.heap q a b) (j1:s.heap.IsTupleIter i1 l1 k) (j2:s.heap.IsListIter i2 l2 k) (t1:s.heap.IsTuple l1 xs) (t2:s.heap.IsList l2 ys)
  (hend:xs[k]? = none∨ys[k]? = none) (hQ:∀ h',(∀ c o,c≠z->c≠q->c≠i1->c≠i2->s.heap.get? c=some o->h'.get? c=some o)->Q none { s with heap:=h' }):T7 (Ue prog w) A (Xn (.ref z)) Q E s:=by
 have hT:s.TypeIs (.ref z) "zip":=⟨_,hz,U⟩;unfold Xn
 refine TF (Xu (Vx (name:=Xd "__next__") hT aaG (Vs aaG hT F.entry_zip_next (Nm hh D hz hp hq j1 j2 t1 t2 hend fun h' e kp he=>?_) (F.args_zip_next_1 _))))
 obtain⟨o,ho,hc⟩:=he
 exact TF (Yz (T:="StopIteration") (b:=true) ⟨o,ho,hc⟩ aaL (TX (hQ _ kp)))
abbrev uB (h:Va)(t:Addr):Va:=h.push { cls:=.type "list_iterator",data:=.fields #[.ref t,.int 0 0] }
abbrev uC (h:Va)(t u:Addr):Va:=(uB (zA h t) u).push { cls:=.type "tuple",data:=.seq #[.ref h.objs.size,.ref (zA h t).objs.size] }
abbrev uD (h:Va)(t u:Addr):Va:=(uC h t u).push { cls:=.type "tuple",data:=.seq #[.none,.none] }
abbrev uE (h:Va)(t u:Addr):Va:=(uD h t u).push { cls:=.type "zip",data:=.fields #[.none,.bool false,.bool false,.ref (uB (zA h t) u).objs.size,.ref (uC h t u).objs.size] }
theorem OD (l1 l2:Addr)(xs ys:Array Value) :
  Meets (XD.«zip.__new__» ⟨[.type "zip",.ref l1,.ref l2],[]⟩) (fun _ R s=>s.heap.IsTuple l1 xs/\s.heap.IsList l2 ys/\R (.ok (.ret (.ref (uD s.heap l1 l2).objs.size))) { s with heap:=uE s.heap l1 l2 }) :=
 .of_wp fun prog w A R s h=>by
  obtain⟨hp,g,d,tk,os⟩:=s;obtain⟨a1,a2,h⟩:=h;have hsub:=sub_zip
  have T1:Heap.IsTuple (Shared.heap ⟨hp,g,d,tk,os⟩) l1 xs:=a1
  have T2:Heap.IsList (Shared.heap ⟨hp.push { cls:=.type "tuple_iterator",data:=.fields #[.ref l1,.int 0 0] },g,d,tk,os⟩) l2 ys:=by
   obtain⟨o,e,r⟩:=a2
   exact⟨o,TQ _ e,r⟩
  wp_walk using wpAny_pyIter_tuple T1,Yc T2
  exact⟨_,U,h⟩
theorem M7 {l1 l2:Addr}{xs ys:Array Value}{Q:ET}(t1:s.heap.IsTuple l1 xs)(t2:s.heap.IsList l2 ys)
  (h:∀ h',aaF h' (s.heap.objs.size+4) (s.heap.objs.size+2) (s.heap.objs.size+3) .none->YK h' (s.heap.objs.size+2) (.ref s.heap.objs.size) (.ref (s.heap.objs.size+1))->YK h' (s.heap.objs.size+3) .none .none →
   h'.IsTupleIter s.heap.objs.size l1 0->h'.IsListIter (s.heap.objs.size+1) l2 0->(∀ c o,s.heap.get? c=some o->h'.get? c=some o)->Q (.ref (s.heap.objs.size+4)) { s with heap:=h' }) :
  T7 (Ue prog w) A (call (.type "zip") [.ref l1,.ref l2]) Q E s:=by
 refine callType_new F.called_zip (by decide) (F.typeCall_zip_2 _ _) (F.newCall_zip_2 _ _) (fun obj=>F.args_object_init_3 obj _ _) F.entry_zip_new (OD l1 l2 xs ys) ⟨t1,t2,?_⟩
 have y1:(zA s.heap l1).objs.size=s.heap.objs.size+1:=Ve ..
 have y2:(uB (zA s.heap l1) l2).objs.size=s.heap.objs.size+2:=by rw[Ve,y1]
 have y3:(uC s.heap l1 l2).objs.size=s.heap.objs.size+3:=by rw[Ve,y2]
 have y4:(uD s.heap l1 l2).objs.size=s.heap.objs.size+4:=by rw[Ve,y3]
 have w5:(uE s.heap l1 l2).get? (uD s.heap l1 l2).objs.size=some _:=T9 _ U
 have w4:(uE s.heap l1 l2).get? (uC s.heap l1 l2).objs.size=some _:=TQ _ (T9 _ U)
 have w3:(uE s.heap l1 l2).get? (uB (zA s.heap l1) l2).objs.size=some _:=TQ _ (TQ _ (T9 _ U))
 have w2:(uE s.heap l1 l2).get? (zA s.heap l1).objs.size=some _:=TQ _ (TQ _ (TQ _ (T9 _ U)))
 have w1:(uE s.heap l1 l2).get? s.heap.objs.size=some _:=TQ _ (TQ _ (TQ _ (TQ _ (T9 _ U))))
 show _/\_
 rw[y2,y3,y4] at w5;rw[y1,y2] at w3;rw[y3] at w4;rw[y1] at w2;rw[y4]
 exact⟨⟨_,w5,U⟩,h _ w5 w3 w4 ⟨_,w1,U,U⟩ ⟨_,w2,U,U⟩ fun c o u=>TQ _ (TQ _ (TQ _ (TQ _ (TQ _ u))))⟩
end
def Itu (K : Uw)(a b : Addr) : It :=
  ⟨fun i H => ∃ xs ys x y, SqT K H a xs ∧ SqL K H b ys ∧ xs[i]? = some x ∧ ys[i]? = some y,
   fun i H v H' => ∃ p x y, H p = none ∧ v = .ref p ∧ (∀ xs, SqT K H a xs → xs[i]? = some x) ∧ (∀ ys, SqL K H b ys → ys[i]? = some y) ∧ H' = upd H p (.tup [x, y]),
   fun i H => ∃ xs ys, SqT K H a xs ∧ SqL K H b ys ∧ (xs.length ≤ i ∨ ys.length ≤ i)⟩
def tnU (z p q i1 i2 a b:Addr)(i:Nat)(h:Va):Prop:=aaF h z p q .none/\YK h p (.ref i1) (.ref i2)/\(∃ u v,YK h q u v)/\h.IsTupleIter i1 a i/\h.IsListIter i2 b i
theorem HB {P:Uq}{w:U3}{K:Uw}{elts:E7}{x1}{pos:Yg}{z p q i1 i2 a b:Addr}(D:Zap z p q i1 i2 a b) :
  Turn P w K (.Tuple elts x1 pos) (Itu K a b) [z,p,q,i1,i2] z (tnU z p q i1 i2 a b) where
 mem:=by simp
 obj:=fun i h st c hc=>by
  obtain⟨hz,hp,⟨u,v,hq⟩,⟨o1,e1,_,d1⟩,⟨o2,e2,_,d2⟩⟩:=st
  simp only[Wb,Xk,or_false] at hc
  rcases hc with rfl | rfl | rfl | rfl | rfl
  ·exact⟨_,hz,fun v z=>by cases z⟩
  ·exact⟨_,hp,fun v z=>by cases z⟩
  ·exact⟨_,hq,fun v z=>by cases z⟩
  ·exact⟨_,e1,fun v z=>by rw[d1] at z;cases z⟩
  ·exact⟨_,e2,fun v z=>by rw[d2] at z;cases z⟩
 keep:=fun i h h' st k=>by
  obtain⟨hz,hp,⟨u,v,hq⟩,⟨o1,e1,r1⟩,⟨o2,e2,r2⟩⟩:=st
  exact⟨k z (by simp) _ hz,k p (by simp) _ hp,⟨u,v,k q (by simp) _ hq⟩,⟨o1,k i1 (by simp) _ e1,r1⟩,⟨o2,k i2 (by simp) _ e2,r2⟩⟩
 item:=by
  intro X hP hw hK hc i ZY s σ H E I hf st hg
  subst hP hw hK
  obtain⟨xs,ys,x,y,hx,hy,ex,ey⟩:=hg
  obtain⟨hz,hp,⟨u,v,hq⟩,j1,j2⟩:=st
  obtain⟨its,rv,tp,_⟩:=I.tuple hx
  obtain⟨its2,rv2,tp2,_⟩:=I.list hy
  obtain⟨xu,hxu,rx⟩:=rv.get ex
  obtain⟨yu,hyu,ry⟩:=rv2.get ey
  refine Nt D hz hp hq j1 j2 (show s.heap.IsTuple a its.toArray from tp) (show s.heap.IsList b its2.toArray from tp2.isList) (x:=xu) (y:=yu) (by simpa using hxu) (by simpa using hyu) fun h' z' q' u1 u2 t' _ kp=>⟨_,U,?_⟩
  refine wpAny_letOwnedTupleGo_zip z' fun h2 z2 b2=>?_
  have lt:∀ {c o},s.heap.get? c=some o->c < s.heap.objs.size:=fun e=>Ua e
  have zne:s.heap.objs.size≠z:=Wc (lt hz)
  have hfr:H s.heap.objs.size=none:=I.fresh
  have I1:Inv X ZY σ (upd H s.heap.objs.size (.tup [x,y])) { s with heap:=s.heap.push { cls:=.type "tuple",data:=.seq #[xu,yu] } } :=
   I.laid (t':=s.toks) (fun _ _ e=>TQ _ e) (T6 _) ⟨by show 2<=sizeLine;decide,[xu,yu],.cons rx (.cons ry .nil),⟨_,T9 _ U,U,_,U⟩⟩
  have blt:∀ c∈[z,p,q,i1,i2],c < s.heap.objs.size:=fun c hc=>by
   obtain⟨_,e1,_⟩:=j1
   obtain⟨_,e2,_⟩:=j2
   simp only[Wb,Xk,or_false] at hc
   rcases hc with rfl | rfl | rfl | rfl | rfl
   ·exact lt hz
   ·exact lt hp
   ·exact lt hq
   ·exact lt e1
   ·exact lt e2
  have ff:∀ c∈[z,p,q,i1,i2],qJ X ZY (upd H s.heap.objs.size (.tup [x,y])) c:=fun c hc=>by
   obtain⟨f0,fr⟩:=hf c hc
   exact⟨by rw[aD (Um (blt c hc))];exact f0,fr⟩
  have kk:∀ c o,c ∉ [z,q,i1,i2]->(s.heap.push { cls:=.type "tuple",data:=.seq #[xu,yu] }).get? c=some o->h2.get? c=some o:=fun c o hc e=>by
   have c1:c≠z:=fun h=>hc (by simp [h])
   refine (b2.2 c c1).trans ?_
   rcases Heap.get?_push_cases e with⟨ec,eo⟩ | e'
   ·subst ec
    subst eo
    exact t'
   ·exact kp c o c1 (fun h=>hc (by simp [h])) (fun h=>hc (by simp [h])) (fun h=>hc (by simp [h])) e'
  have I2:Inv X ZY σ (upd H s.heap.objs.size (.tup [x,y])) { s with heap:=h2 } :=
   Inv.uo (s:={ s with heap:=s.heap.push { cls:=.type "tuple",data:=.seq #[xu,yu] } }) (h':=h2) (t':=s.toks) (ch:=[z,q,i1,i2]) I1 kk fun c hc=>ff c (by
    simp only[Wb] at hc ⊢
    rcases hc with h | h | h | h
    ·exact .inl h
    ·exact .inr (.inr (.inl h))
    ·exact .inr (.inr (.inr (.inl h)))
    ·exact .inr (.inr (.inr (.inr h))))
  refine⟨.ref s.heap.objs.size,_,I2,U,⟨_,x,y,hfr,U,fun zs hzs=>?_,fun zs hzs=>?_,U⟩,⟨z2,(b2.2 _ D.pz).trans (kp _ _ D.pz D.pq D.pa D.pb hp),⟨_,_,(b2.2 _ D.qz).trans q'⟩,pX u1 b2 D.az,iH u2 b2 D.bz⟩,fun c hc=>(ff c hc).1⟩
  ·rw[I.pI hzs hx];exact ex
  ·rw[I.sJ hzs hy];exact ey
 done:=by
  intro X hP hw hK hc i ZY s σ H E I hf st hg
  subst hP hw hK
  obtain⟨xs,ys,hx,hy,hend⟩:=hg
  obtain⟨hz,hp,⟨u,v,hq⟩,j1,j2⟩:=st
  obtain⟨its,rv,tp,_⟩:=I.tuple hx
  obtain⟨its2,rv2,tp2,_⟩:=I.list hy
  have l1:=rv.length
  have l2:=rv2.length
  refine O6 (I.ok.hd hc) D hz hp hq j1 j2 (show s.heap.IsTuple a its.toArray from tp) (show s.heap.IsList b its2.toArray from tp2.isList) (hend.imp (fun h=>by simp;lia) fun h=>by simp;lia) fun h' kp=>⟨U,?_⟩
  exact I.uo (t':=s.toks) (ch:=[z,q,i1,i2]) (fun c o hc e=>kp c o (fun h=>hc (by simp [h])) (fun h=>hc (by simp [h])) (fun h=>hc (by simp [h])) (fun h=>hc (by simp [h])) e)
   fun c hc=>hf c (by simp only[Wb] at hc ⊢;rcases hc with h | h | h | h;exact .inl h;exact .inr (.inr (.inl h));exact .inr (.inr (.inr (.inl h)));exact .inr (.inr (.inr (.inr h))))
 self:=fun _ _ _ _ _ st h=>wpAny_pyIter_zip st.1 h
def Tc (K:Uw)(ta:TA):TI:=fun σ H R=>ta σ H fun vs H1=>∃ a b xs ys,vs=[.ref a,.ref b]/\SqT K H1 a xs/\SqL K H1 b ys/\R (Itu K a b) H1
theorem Kz {X:Cx} {elts:E7} {x1} {tpos:Yg} {a b:Expr} {ta:TA} {p pos:Yg} (hg:Gl X "zip") (hm:X.mg "zip" = none) (ha:PA X [a,b] ta) (hs:Ur [a,b] X.env=[(false,VD a X.env),(false,VD b X.env)]:=by rfl) (hs2:Ur [b] X.env=[(false,VD b X.env)]:=by rfl) :
  PI X (.Tuple elts x1 tpos) (.Call (.Name "zip" p) [a,b] [] pos) (Tc X.K ta):=by
 intro ZY s σ H R I h
 refine Call_ (ig I hg hm boot_zip (V4 (thn (ha pos ZY s σ H _ I h) fun us s1 ⟨vs,H1,I1,r1,q1⟩=>?_) (by rw[hs,hs2]) (by rw[hs2];rfl)))
 obtain⟨c,d,xs,ys,e,hx,hy,q⟩:=q1
 subst e
 obtain⟨u1,u2,rfl,ru1,ru2⟩:=vals2 r1
 cases ru1
 cases ru2
 obtain⟨its,_,tp,_⟩:=I1.tuple hx
 obtain⟨its2,_,tp2,_⟩:=I1.list hy
 refine M7 (show s1.heap.IsTuple c its.toArray from tp) (show s1.heap.IsList d its2.toArray from tp2.isList) fun h' z' p' q' j1 j2 kp=>?_
 have lc:c < s1.heap.objs.size:=by obtain⟨o,e,_⟩:=tp;exact Ua e
 have ld:d < s1.heap.objs.size:=by obtain⟨o,e,_⟩:=tp2.isList;exact Ua e
 have D:Zap (s1.heap.objs.size+4) (s1.heap.objs.size+2) (s1.heap.objs.size+3) s1.heap.objs.size (s1.heap.objs.size+1) c d:=M9 lc ld
 refine wpAny_pyIter_zip z' ⟨_,_,_,_,H1,U,I1.kept (t':=s1.toks) kp,HB D,⟨z',p',⟨_,_,q'⟩,j1,j2⟩,fun e he=>?_,q⟩
 have hle:s1.heap.objs.size<=e:=by
  simp only[Wb,Xk,or_false] at he
  rcases he with rfl | rfl | rfl | rfl | rfl <;> lia
 exact I1.Kd hle (I1.hok.fresh hle)
theorem yZ {K:Uw}{a b D:Addr}{xs ys:List V}{g:TG}{tt:TT}{te:TE}{H1:Hp}{Q:Hp->Prop}{σ0:St}(hlen:xs.length=ys.length)(Pv:Nat->List V->St->Hp->Prop)(h0:Pv 0 [] σ0 (upd H1 D (.lst [])))
  (hl:∀ i zs σ H,i<=xs.length->Pv i zs σ H->SqT K H a xs/\SqL K H b ys/\H D=some (.lst zs))
  (hs:∀ i zs x y p σ H,xs[i]? = some x->ys[i]? = some y->H p=none->Pv i zs σ H->g (.ref p) σ (upd H p (.tup [x,y])) fun σ3 H3=>tt σ3 H3 fun c H4=>if c=true then te σ3 H4 fun v H5=>H5 D=some (.lst zs)/\zs.length < sizeLine/\Pv (i+1) (zs++[v]) σ3 (upd H5 D (.lst (zs++[v]))) else Pv (i+1) zs σ3 H4)
  (hd:∀ zs σ H,Pv xs.length zs σ H->Q H):gG D σ0 (Itu K a b) g tt te H1 Q:=by
 refine⟨fun i m zs σ H=>m=xs.length - i/\i<=xs.length/\Pv i zs σ H,⟨xs.length,by simp,U9 _,h0⟩,?_⟩
 rintro i m zs σ H ⟨rfl,hi,p⟩
 obtain⟨q1,q2,qD⟩:=hl i zs σ H hi p
 refine⟨qD,?_⟩
 by_cases hlt:i < xs.length
 ·have hlt2:i < ys.length:=by lia
  refine .inr ⟨⟨xs,ys,xs[i],ys[i],q1,q2,by simp [hlt],by simp [hlt2]⟩,Pv (i+1),fun zs' σ' H' p'=>⟨xs.length - (i+1),by lia,U,hlt,p'⟩,fun v H' y=>?_⟩
  obtain⟨pp,x,y,hp,rfl,hx,hy,rfl⟩:=y
  exact hs i zs x y pp σ _ (hx xs q1) (hy ys q2) hp p
 ·have e:i=xs.length:=by lia
  subst e
  exact .inl ⟨⟨xs,ys,q1,q2,.inl (T6 _)⟩,hd zs σ H p⟩
def Itn (K : Uw)(a : Addr) : It :=
  ⟨fun i H => ∃ xs x, SqL K H a xs ∧ xs[i]? = some x,
   fun i H v H' => ∃ p x, H p = none ∧ v = .ref p ∧ (∀ xs, SqL K H a xs → xs[i]? = some x) ∧ H' = upd H p (.tup [.int (i : Int), x]),
   fun i H => ∃ xs, SqL K H a xs ∧ xs.length ≤ i⟩
def tnN (e it a:Addr)(i:Nat)(h:Va):Prop:=(∃ old,IsEnum h e it (i:Int) old)/\h.IsListIter it a i
theorem Cg {P:Uq}{w:U3}{K:Uw}{elts:E7}{x1}{pos:Yg}{e it a:Addr}(hne:e≠it) :
  Turn P w K (.Tuple elts x1 pos) (Itn K a) [e,it] e (tnN e it a) where
 mem:=by simp
 obj:=fun i h st c hc=>by
  obtain⟨⟨old,he⟩,⟨o,ho,_,d⟩⟩:=st
  simp only[Wb,Xk,or_false] at hc
  rcases hc with rfl | rfl
  ·exact⟨_,he,fun v z=>by cases z⟩
  ·exact⟨_,ho,fun v z=>by rw[d] at z;cases z⟩
 keep:=fun i h h' st k=>by
  obtain⟨⟨old,he⟩,j⟩:=st
  exact⟨⟨old,k e (by simp) _ he⟩,j.at fun o q=>k it (by simp) o q⟩
 item:=by
  intro X hP hw hK hc i ZY s σ H E I hf st hg
  subst hP hw hK
  obtain⟨xs,x,hx,ex⟩:=hg
  obtain⟨⟨old,he⟩,j⟩:=st
  obtain⟨its,rv,pl,_⟩:=I.list hx
  obtain⟨xu,hxu,rx⟩:=rv.get ex
  refine wpAny_pyNext_enum_item he j pl.isList (x:=xu) (by simpa using hxu) hne fun h' e1 j1 t1 z1 kp=>⟨_,U,?_⟩
  refine wpAny_letOwnedTupleGo_enum e1 fun h2 e2 b2=>?_
  have el:e < s.heap.objs.size:=Ua he
  have il:it < s.heap.objs.size:=by obtain⟨o,q,_⟩:=j;exact Ua q
  have I1:Inv X ZY σ (upd H s.heap.objs.size (.tup [.int (i:Int),x])) { s with heap:=s.heap.push { cls:=.type "tuple",data:=.seq #[.int i s.toks,xu] },toks:=s.toks+1 } :=
   I.laid (t':=s.toks+1) (fun _ _ q=>TQ _ q) (T6 _) ⟨by show 2<=sizeLine;decide,[.int i s.toks,xu],.cons ⟨_,U⟩ (.cons rx .nil),⟨_,T9 _ U,U,_,U⟩⟩
  have ff:∀ c∈[e,it],qJ X ZY (upd H s.heap.objs.size (.tup [.int (i:Int),x])) c:=fun c hc=>by
   obtain⟨f0,fr⟩:=hf c hc
   have cl:c < s.heap.objs.size:=by
    simp only[Wb,Xk,or_false] at hc
    rcases hc with rfl | rfl
    ·exact el
    ·exact il
   exact⟨by rw[aD (Um cl)];exact f0,fr⟩
  have kk:∀ c o,c ∉ [e,it]->(s.heap.push { cls:=.type "tuple",data:=.seq #[.int i s.toks,xu] }).get? c=some o->h2.get? c=some o:=fun c o hc q=>by
   have c1:c≠e:=fun h=>hc (by simp [h])
   have c2:c≠it:=fun h=>hc (by simp [h])
   refine (b2.2 c c1).trans ?_
   rcases Heap.get?_push_cases q with⟨ec,eo⟩ | q'
   ·subst ec
    subst eo
    exact t1
   ·exact kp c o c1 c2 q'
  have I2:Inv X ZY σ (upd H s.heap.objs.size (.tup [.int (i:Int),x])) { s with heap:=h2,toks:=s.toks+1 } :=
   Inv.uo (s:={ s with heap:=s.heap.push { cls:=.type "tuple",data:=.seq #[.int i s.toks,xu] },toks:=s.toks+1 }) (h':=h2) (t':=s.toks+1) (ch:=[e,it]) I1 kk ff
  refine⟨.ref s.heap.objs.size,_,I2,U,⟨_,x,I.fresh,U,fun zs hzs=>?_,U⟩,⟨⟨_,e2⟩,j1.at fun o q=>(b2.2 it (VM hne)).trans q⟩,fun c hc=>(ff c hc).1⟩
  rw[I.sJ hzs hx];exact ex
 done:=by
  intro X hP hw hK hc i ZY s σ H E I hf st hg
  subst hP hw hK
  obtain⟨xs,hx,hend⟩:=hg
  obtain⟨⟨old,he⟩,j⟩:=st
  obtain⟨its,rv,pl,_⟩:=I.list hx
  have l1:=rv.length
  refine wpAny_pyNext_enum_end (I.ok.hd hc) he j pl.isList (by simp;lia) fun h' eb=>⟨U,?_⟩
  exact I.uo (t':=s.toks) (ch:=[e,it]) (fun c o hc q=>eb c o (fun h=>hc (by simp [h])) q) hf
 self:=fun _ _ _ _ _ st h=>by
  obtain⟨⟨old,he⟩,_⟩:=st
  exact wpAny_pyIter_enum he h
def Ro (K:Uw)(ta:TA):TI:=fun σ H R=>ta σ H fun vs H1=>∃ a xs,vs=[.ref a]/\H1 a=some (.lst xs)/\R (Itn K a) H1
theorem Le {X:Cx} {elts:E7} {x1} {tpos:Yg} {a:Expr} {ta:TA} {p pos:Yg} (hg:Gl X "enumerate") (hm:X.mg "enumerate" = none) (ha:PA X [a] ta) (hs:Ur [a] X.env=[(false,VD a X.env)]:=by rfl) :
  PI X (.Tuple elts x1 tpos) (.Call (.Name "enumerate" p) [a] [] pos) (Ro X.K ta):=by
 intro ZY s σ H R I h
 refine Call_ (ig I hg hm boot_enumerate (V4 (thn (ha pos ZY s σ H _ I h) fun us s1 ⟨vs,H1,I1,r1,q1⟩=>?_) hs U))
 obtain⟨c,xs,e,hx,q⟩:=q1
 subst e
 obtain⟨u1,rfl,ru1⟩:=vals1 r1
 cases ru1
 obtain⟨z,its,n,rv,ho⟩:=I1.hok c _ hx
 refine call_enumerate_1 ho fun h' e1 j1 _ kp=>?_
 have en:s1.heap.objs.size+1≠s1.heap.objs.size:=Wc (Wd _)
 refine wpAny_pyIter_enum e1 ⟨_,_,_,_,H1,U,I1.kept (t':=s1.toks) kp,Cg (a:=c) en,⟨⟨_,e1⟩,j1⟩,fun b hb=>?_,q⟩
 have hle:s1.heap.objs.size<=b:=by
  simp only[Wb,Xk,or_false] at hb
  rcases hb with rfl | rfl
  ·exact We _
  ·exact T6 _
 exact I1.Kd hle (I1.hok.fresh hle)
theorem Ir {K:Uw}{a:Addr}{xs:List V}{g:TG}{tb:TS}{D:Ends}{σ:St}{H:Hp}(Pv:Nat->St->Hp->Prop)(h0:Pv 0 σ H)(hl:∀ i σ H,i<=xs.length->Pv i σ H->SqL K H a xs)
  (hs:∀ i x p σ H,xs[i]? = some x->H p=none->Pv i σ H->g (.ref p) σ (upd H p (.tup [.int (i:Int),x])) fun σ2 H2=>tb { D with nx:=Pv (i+1),ct:=Pv (i+1),bk:=D.nx } σ2 H2) (hd:∀ σ H,Pv xs.length σ H->D.nx σ H) :
  ∃ W:Nat->Nat->St->Hp->Prop,(∃ m,W 0 m σ H)/\∀ i m σ H,W i m σ H →
   ((Itn K a).stop i H/\D.nx σ H)∨((Itn K a).go i H/\∃ N:St->Hp->Prop,(∀ σ' H',N σ' H'->∃ m',m' < m/\W (i+1) m' σ' H')/\∀ x H',(Itn K a).yld i H x H'->g x σ H' fun σ2 H2=>tb { D with nx:=N,ct:=N,bk:=D.nx } σ2 H2):=by
 refine⟨fun i m σ H=>m=xs.length - i/\i<=xs.length/\Pv i σ H,⟨xs.length,by simp,U9 _,h0⟩,?_⟩
 rintro i m σ H ⟨rfl,hi,p⟩
 have q1:=hl i σ H hi p
 by_cases hlt:i < xs.length
 ·refine .inr ⟨⟨xs,xs[i],q1,by simp [hlt]⟩,Pv (i+1),fun σ' H' p'=>⟨xs.length - (i+1),by lia,U,hlt,p'⟩,fun v H' y=>?_⟩
  obtain⟨pp,x,hp,rfl,hx,rfl⟩:=y
  exact hs i x pp σ _ (hx xs q1) hp p
 ·have e:i=xs.length:=by lia
  subst e
  exact .inl ⟨⟨xs,q1,T6 _⟩,hd σ H p⟩
section
variable {X:Cx}{k:Nat}
inductive Qq (K:Uw)(x:V)(y:V)(H:Hp)(Q:VK):Prop where
 | mk (a b:Addr) (ns ms:E9) (_:x = .ref a) (_:y = .ref b) (_:SqT K H a (ns.map V.int)) (_:SqT K H b (ms.map V.int)) (_:Q (.bl (!decide (ns=ms))) H)
theorem K7 (hu:X.A.units < cLine):OpR X (WM .NotEq) (Qq X.K):=by
 intro ZY s σ H x y v u Q I rx ry h
 obtain⟨a,b,ns,ms,rfl,rfl,ha,hb,q⟩:=h
 cases rx
 cases ry
 obtain⟨its,r1,p1,_⟩:=I.tuple ha
 obtain⟨its2,r2,p2,_⟩:=I.tuple hb
 have i1:VB its ns:=intsAre_of r1
 have i2:VB its2 ms:=intsAre_of r2
 have l1:=i1.length
 have l2:=i2.length
 have r:=SeqAt.RcNeAt.tuples (e:=fun j=>ns.getD j 0 == ms.getD j 0) (show s.heap.IsTuple a its.toArray from p1) (show s.heap.IsTuple b its2.toArray from p2) hu fun j h1 h2=>by
  obtain⟨t,e1⟩:=ints_get i1 (j:=j) (by simpa using h1)
  obtain⟨t',e2⟩:=ints_get i2 (j:=j) (by simpa using h2)
  rw[Zx,Zx,e1,e2]
  exact aa6 _ _ _ _
 have e:=o9 ns ms
 have s1:its.toArray.size=ns.length:=by rw[Ul];exact l1
 have s2:its2.toArray.size=ms.length:=by rw[Ul];exact l2
 rw[s1,s2,e] at r
 exact r X.prog X.w X.xe _ ⟨.bl _,H,I,U,q⟩
end
theorem uv {X:Cx}{tg l:Expr}{tl:TE}(K:Uw)(hK:X.K=K)(hl:PE X l tl):PI X tg l (K4 K tl):=by
 subst hK
 exact fV hl
theorem M6 {X:Cx}{tg l:Expr}{tl:TE}(K:Uw)(hK:X.K=K)(hl:PE X l tl):PI X tg l (RV K tl):=by
 subst hK
 exact cH hl
section
variable {prog:Uq}{w:U3}{A:UW}{E:ET}{s:TV}
end
section
variable {X:Cx}
end
theorem wM (elt t0 i0 t1 i1:Expr)(scope:Wo)(pos:Yg)(it acc:Value)(env:Zz) :
  compTurn (.ListComp elt [⟨t0,i0,[],0⟩,⟨t1,i1,[],0⟩] scope pos) 0 it acc env=(do
   YB i0.pos
   match ← Xn it with
   | none=>pure (.done .next)
   | some v =>
    Xo t0 it v
    aar t0 env v
    let x ← VD i1 env
    YB i1.pos
    let x ← Ww i1 env x
    let _ ← runOwn (.compStart (.ListComp elt [⟨t0,i0,[],0⟩,⟨t1,i1,[],0⟩] scope pos) 1 (← YZ [x] (aaK x)) acc env) env
    again (.compLoop (.ListComp elt [⟨t0,i0,[],0⟩,⟨t1,i1,[],0⟩] scope pos) 0 it acc env)):=by rfl
theorem wR (elt t0 i0 t1 i1:Expr)(scope:Wo)(pos:Yg)(it acc:Value)(env:Zz) :
  compTurn (.ListComp elt [⟨t0,i0,[],0⟩,⟨t1,i1,[],0⟩] scope pos) 1 it acc env=(YB i1.pos >>= fun _=>Xn it >>= fun r=>match r with
   | none=>pure (.done .next)
   | some v=>Xo t1 it v >>= fun _=>aar t1 env v >>= fun _ =>
    (VD elt env >>= fun x=>call (.builtin "list.append") [acc,x] >>= fun _=>pure ()) >>= fun _ =>
     again (.compLoop (.ListComp elt [⟨t0,i0,[],0⟩,⟨t1,i1,[],0⟩] scope pos) 1 it acc env)):=by rfl
section
variable {prog:Uq}{w:U3}{A:UW}{R:Z3->TV->Prop}{s:TV}{elt t0 i0 t1 i1:Expr}{scope:Wo}{pos:Yg}{it acc:Value}{env:Zz}
theorem uR (h0:Vz (Ue prog w) A (.compLoop (.ListComp elt [⟨t0,i0,[],0⟩,⟨t1,i1,[],0⟩] scope pos) 1 it acc env) R s)
  (h:T7 (Ue prog w) A (aaK it) (fun it' s'=>Vz (Ue prog w) A (.compLoop (.ListComp elt [⟨t0,i0,[],0⟩,⟨t1,i1,[],0⟩] scope pos) 1 it' acc env) R s') (notedBy (Ue prog w) A env fun x s'=>R (.error x) s') s) :
  Vz (Ue prog w) A (.compStart (.ListComp elt [⟨t0,i0,[],0⟩,⟨t1,i1,[],0⟩] scope pos) 1 it acc env) R s:=by
 refine aaz ?_
 show T7 _ _ ((compStart (.ListComp elt [⟨t0,i0,[],0⟩,⟨t1,i1,[],0⟩] scope pos) 1 it acc env).onRaise (fun x=>do ZS x env;YB theWindowsPlace)) _ _ s
 refine wpAny_notedAt ?_
 unfold compStart
 show T7 _ _ (ask >>= _) _ _ s
 refine TF (XF (wpAny_ite ?_))
 split
 ·first
   | exact TF (TX (TX (And.intro rfl h0)))
   | exact TX (And.intro rfl h0)
 ·first
   | exact TF (Yh (TF (Xg (TF (Vd h (fun it' s' h'=>TX (And.intro rfl h')) fun _ _ x=>x)))))
   | (refine TF (Yh ?_);show T7 _ _ (YB i1.pos >>= _) _ _ s;exact TF (Xg (TF (Vd h (fun it' s' h'=>TX (And.intro rfl h')) fun _ _ x=>x))))
abbrev noX:ET:=fun _ _=>False
theorem fO {E:ET}(x:Value)(s':TV)(z:noX x s'):E x s':=z.elim
theorem vJ (hs1:∀ x,Ww i1 env x=pure x)(I:Nat->TV->Prop)
  (turn:∀ n s,I n s->T7 (Ue prog w) A (Xn it) (fun r s₁=>match r with
   | none=>R (.ok .next) s₁
   | some v=>T7 (Ue prog w) A (Xo t0 it v) (fun _ s₀=>T7 (Ue prog w) A (aar t0 env v) (fun _ s₂=>T7 (Ue prog w) A (VD i1 env) (fun x s₃=>T7 (Ue prog w) A (aaK x) (fun it1 s₄ =>
     Vz (Ue prog w) A (.compStart (.ListComp elt [⟨t0,i0,[],0⟩,⟨t1,i1,[],0⟩] scope pos) 1 it1 acc env) (fun r s'=>match r with | .ok _=>∃ m,m < n/\I m s' | .error _=>False) s₄) noX s₃) noX s₂) noX s₀) noX s₁) noX s)
  (n:Nat) (h:I n s):Vz (Ue prog w) A (.compLoop (.ListComp elt [⟨t0,i0,[],0⟩,⟨t1,i1,[],0⟩] scope pos) 0 it acc env) R s:=by
 refine codeAny_loop U I (fun n s hI=>?_) n h
 refine (show T7 (Ue prog w) A ((compTurn (.ListComp elt [⟨t0,i0,[],0⟩,⟨t1,i1,[],0⟩] scope pos) 0 it acc env).onRaise (fun x=>do ZS x env;abG x)) _ _ s from wpAny_noted ?_)
 rw[wM]
 refine TF (Xg (TF (Vd (turn n s hI) (fun r s₁ h₁=>?_) fO)))
 cases r with
 | none=>exact TX h₁
 | some v =>
  refine TF (Vd h₁ (fun _ s₀ h₀=>TF (Vd h₀ (fun _ s₂ h₂=>TF (Vd h₂ (fun x s₃ h₃=>TF (Xg (TF (WT (hs1 x) (TF (VL (Vd h₃ (fun it1 s₄ h₄=>?_) fO))))))) fO)) fO)) fO)
  refine TF (wpAny_runOwn (Xb h₄ fun r s' hr=>?_))
  cases r with
  | ok f=>exact TX ⟨U,hr⟩
  | error e=>exact hr.elim
theorem vY (I:Nat->TV->Prop)
  (turn:∀ n s,I n s->T7 (Ue prog w) A (Xn it) (fun r s₁=>match r with
   | none=>R (.ok .next) s₁
   | some v=>T7 (Ue prog w) A (Xo t1 it v) (fun _ s₀=>T7 (Ue prog w) A (aar t1 env v) (fun _ s₂=>T7 (Ue prog w) A (VD elt env) (fun x s₄=>T7 (Ue prog w) A (call (.builtin "list.append") [acc,x]) (fun _ s₅=>∃ m,m < n/\I m s₅) noX s₄) noX s₂) noX s₀) noX s₁) noX s)
  (n:Nat) (h:I n s):Vz (Ue prog w) A (.compLoop (.ListComp elt [⟨t0,i0,[],0⟩,⟨t1,i1,[],0⟩] scope pos) 1 it acc env) R s:=by
 refine codeAny_loop U I (fun n s hI=>?_) n h
 refine (show T7 (Ue prog w) A ((compTurn (.ListComp elt [⟨t0,i0,[],0⟩,⟨t1,i1,[],0⟩] scope pos) 1 it acc env).onRaise (fun x=>do ZS x env;abG x)) _ _ s from wpAny_noted ?_)
 rw[wR]
 refine TF (Xg (TF (Vd (turn n s hI) (fun r s₁ h₁=>?_) fO)))
 cases r with
 | none=>exact TX h₁
 | some v =>
  refine TF (Vd h₁ (fun _ s₀ h₀=>TF (Vd h₀ (fun _ s₂ h₂=>TF (TF (Vd h₂ (fun x s₄ h₄=>TF (Vd h₄ (fun _ s₅ h₅=>TX (TX ⟨U,h₅⟩)) fO)) fO))) fO)) fO)
end
def ni (D:Addr)(σ0:St)(J:It)(g:TG)(wi1:TI)(g1:TG)(te:TE)(H1:Hp)(Q:Hp->Prop):Prop :=
 ∃ W:Nat->Nat->List V->St->Hp->Prop,(∃ m,W 0 m [] σ0 (upd H1 D (.lst []))) ∧
  ∀ i m ys σ' H',W i m ys σ' H'->((J.stop i H'/\Q H')∨(J.go i H'/\∃ N:List V->St->Hp->Prop,(∀ zs σ2 H2,N zs σ2 H2->∃ m',m' < m/\W (i+1) m' zs σ2 H2) ∧
   ∀ x H2,J.yld i H' x H2->g x σ' H2 fun σ3 H3=>wi1 σ3 H3 fun J1 H4 =>
    ∃ Y:Nat->Nat->List V->St->Hp->Prop,(∃ m,Y 0 m ys σ3 H4) ∧
     ∀ j m zs σ5 H5,Y j m zs σ5 H5->((J1.stop j H5/\N zs σ5 H5)∨(J1.go j H5/\∃ M:List V->St->Hp->Prop,(∀ zs σ6 H6,M zs σ6 H6->∃ m',m' < m/\Y (j+1) m' zs σ6 H6) ∧
      ∀ y H6,J1.yld j H5 y H6->g1 y σ5 H6 fun σ7 H7=>te σ7 H7 fun v H8=>H8 D=some (.lst zs)/\zs.length < sizeLine/\M (zs++[v]) σ7 (upd H8 D (.lst (zs++[v])))))))
def Qu (n:Nat)(cap:Fa)(wi:TI)(g:TG)(wi1:TI)(g1:TG)(te:TE):TE:=fun σ H Q=>wi σ H fun J H1=>∀ D,H1 D=none->ni D (DK n cap σ) J g wi1 g1 te H1 fun H2=>Q (.ref D) H2
section
variable {X:Cx}{elt t0 i0 t1 i1:Expr}{scope:Wo}{pos:Yg}{L F:Fh}{cap:Fa}{wi wi1:TI}{g g1:TG}{te:TE}
theorem Fw {cl:ER}{ZY:EQ}{σ:St}{s2:TV}{H2:Hp}{it:Addr}{fp:E6}{tn:Nat->Va->Prop}{J:It}{use:EL}{QQ:ET}{Z:Hp->Prop}{E:ET}
  (hc:X.calm=true) (ok:mj X scope F cap)
  (sub:∀ n c,cl.lookup n=some c->X.env.cells.lookup n=some c) (all:∀ y∈scope.names,y.2 = .free->∃ c,cl.lookup y.1=some c)
  (hg:∀ cl C s H fp,PG (aW X scope cl C (L++F) s H fp) t0 g) (hi1:∀ cl C s H fp,PI (aW X scope cl C (L++F) s H fp) t1 i1 wi1) (hg1:∀ cl C s H fp,PG (aW X scope cl C (L++F) s H fp) t1 g1) (he:∀ cl C s H fp,PE (aW X scope cl C (L++F) s H fp) elt te)
  (hs1:∀ (env:Zz) x,Ww i1 env x=pure x)
  (I2:Inv X ZY σ H2 s2) (T:Turn X.prog X.w X.K t0 J fp it tn) (st2:tn 0 s2.heap) (f2:∀ b∈fp,qJ X ZY H2 b)
  (q2:ni s2.heap.objs.size (DK L.length cap σ) J g wi1 g1 te H2 Z)
  (fin:∀ (C:Addr) (s':TV) (H':Hp),Z H'->Inv X ZY σ H' s'->(∃ m,s'.heap.Ns C m)->H' C=none->C≠X.env.locals->X.s₀.heap.objs.size<=C->(∀ x c,X.env.cells.lookup x=some c->c≠C)->(∀ p∈X.pn++ZY,p.1≠C) →
   YM (Ue X.prog X.w) X.A E use QQ (.ref s2.heap.objs.size) C (.ok .next) s') :
  T7 (Ue X.prog X.w) X.A (newList []) (fun acc s₃=>T7 (Ue X.prog X.w) X.A (ZZ scope X.env.globals cl [] X.env.qual none .none (some X.env)) (fun cenv s₄ =>
   Vz (Ue X.prog X.w) X.A (.compStart (.ListComp elt [⟨t0,i0,[],0⟩,⟨t1,i1,[],0⟩] scope pos) 0 (.ref it) acc { cenv with scope:=relabel scope X.env }) (YM (Ue X.prog X.w) X.A E use QQ acc cenv.locals) s₄) E s₃) E s2:=by
 have hD:H2 s2.heap.objs.size=none:=I2.fresh
 refine U4 (aaJ ok.cell (by intro y hy;simp at hy) (fun h₁ hns₁ hsb₁=>?_) ok.kind)
 dsimp only at hns₁ hsb₁ ⊢
 have I3:Inv X ZY σ (upd H2 s2.heap.objs.size (.lst [])) { s2 with heap:=s2.heap.push { cls:=.type "list",data:=.seq ([]:E4).toArray } }:=I2.O3 (t':=s2.toks) (ys:=[]) (its:=[]) .nil (U9 _)
 have blt:∀ b∈fp,b < s2.heap.objs.size:=fun b hb=>let ⟨_,e,_⟩:=T.obj 0 _ st2 b hb;Ua e
 have szC:(s2.heap.push { cls:=.type "list",data:=.seq ([]:E4).toArray }).objs.size=s2.heap.objs.size+1:=Ve _ _
 generalize hs3:({ s2 with heap:=s2.heap.push { cls:=.type "list",data:=.seq ([]:E4).toArray } }:TV)=s3 at I3
 have es3:s3.heap=s2.heap.push { cls:=.type "list",data:=.seq ([]:E4).toArray }:=by rw[← hs3]
 have eos:s3.os=s2.os:=by rw[← hs3]
 have fok:∀ b∈fp,qJ X ZY (upd H2 s2.heap.objs.size (.lst [])) b/\b < s3.heap.objs.size:=fun b hb=>by
  obtain⟨f0,fr⟩:=f2 b hb
  refine⟨⟨by rw[aD (Um (blt b hb))];exact f0,fr⟩,?_⟩
  rw[es3,szC]
  exact Vv (blt b hb)
 have hkp:∀ b o,s3.heap.get? b=some o->h₁.get? b=some o:=fun b o e=>by
  have e':b < s3.heap.objs.size:=Ua e
  rw[es3] at e e'
  exact (hsb₁.2 b (Um e')).trans (TQ _ e)
 have hns:h₁.Ns s3.heap.objs.size fun _=>none:=by
  rw[es3]
  exact hns₁
 have I4:∀ tk,Inv (aW X scope cl s3.heap.objs.size (L++F) s3 (upd H2 s2.heap.objs.size (.lst [])) fp) [] (DK L.length cap σ) (upd H2 s2.heap.objs.size (.lst [])) { s3 with heap:=h₁,toks:=tk }:=fun tk =>
  rC (L:=L) ok I3 fok sub all hns hkp
 have stat:∀ {H':Hp},(∀ b∈fp,H' b=none)->∀ b∈fp,qJ (aW X scope cl s3.heap.objs.size (L++F) s3 (upd H2 s2.heap.objs.size (.lst [])) fp) [] H' b:=fun {H'} hn b hb=>by
  obtain⟨⟨_,g1,g2,g3,g4,g5⟩,g6⟩:=fok b hb
  exact⟨hn b hb,Um g6,ou I3 g1 g2,.inl hb,fun x c e=>g4 x c (sub x c e),fun p hp=>absurd (show p∈([]:EQ) from hp) (by simp)⟩
 have loop:∀ tk,Vz (Ue X.prog X.w) X.A (.compLoop (.ListComp elt [⟨t0,i0,[],0⟩,⟨t1,i1,[],0⟩] scope pos) 0 (.ref it) (.ref s2.heap.objs.size) (Z0 scope cl s3.heap.objs.size X.env))
   (YM (Ue X.prog X.w) X.A E use QQ (.ref s2.heap.objs.size) s3.heap.objs.size) { s3 with heap:=h₁,toks:=tk }:=fun tk=>by
  obtain⟨W,⟨m0,w0⟩,turn⟩:=q2
  have st3:tn 0 h₁:=T.keep 0 _ _ st2 fun b hb o e=>hkp b o (by rw[es3];exact TQ _ e)
  refine vJ (hs1 _) (fun n s'=>∃ i ys σ' H',Inv (aW X scope cl s3.heap.objs.size (L++F) s3 (upd H2 s2.heap.objs.size (.lst [])) fp) [] σ' H' s'/\tn i s'.heap/\(∀ b∈fp,H' b=none)/\W i n ys σ' H') ?_ m0
   ⟨0,[],_,_,I4 tk,st3,fun b hb=>(fok b hb).1.1,w0⟩
  rintro n s5 ⟨i,ys,σ5,H5,I5,st5,fr5,w5⟩
  rcases turn i n ys σ5 H5 w5 with⟨stop,qz⟩ | ⟨go,N,hN,step⟩
  ·refine thn (T.done (aW X scope cl s3.heap.objs.size (L++F) s3 (upd H2 s2.heap.objs.size (.lst [])) fp) U U U hc i [] s5 σ5 H5 _ I5 (stat fr5) st5 stop) fun r s6 ⟨hr,I6⟩=>?_
   subst hr
   have un:Un (frs X.stack) fp H2 H5 s2.heap s6.heap:=by
    have u1:Un (frs X.stack) fp H2 (upd H2 s2.heap.objs.size (.lst [])) s2.heap s3.heap:=by
     rw[es3]
     exact Un.laid (fun _ _ q=>TQ _ q) (T6 _) hD
    exact u1.trans I6.base
   have J1:Inv X ZY σ H5 s6:=I2.call' (I6.os.trans eos) un I6.hok I6.bare fun b hb=>by
    obtain⟨_,g1,_,g3,g4,g5⟩:=f2 b hb
    exact⟨g3,g1,g4,g5⟩
   have hC:s2.heap.objs.size<=s3.heap.objs.size:=by rw[es3,szC];exact We _
   obtain⟨m,hm,_⟩:=I6.loc
   refine fin s3.heap.objs.size s6 H5 qz J1 ⟨m,hm⟩ I6.free (Wc (T4 I2.lt hC)) (UL I2.sz hC) (fun x c e z=>?_) (fun p hp z=>?_)
   ·obtain⟨v,q⟩:=I2.cell x c e
    exact absurd (T4 q.lt (by rw[z];exact hC)) (Vb _)
   ·exact absurd (T4 (Ua (I2.pin p hp).1) (by rw[z];exact hC)) (Vb _)
  ·refine thn (T.item (aW X scope cl s3.heap.objs.size (L++F) s3 (upd H2 s2.heap.objs.size (.lst [])) fp) U U U hc i [] s5 σ5 H5 _ I5 (stat fr5) st5 go) fun r s6 ⟨u,hr,h6⟩=>?_
   subst hr
   refine thn h6 fun _ s7 ⟨x,H7,I7,r7,y7,st7,fr7⟩=>?_
   have I7':=I7.pinned (stat fr7) (T.obj _ _ st7)
   refine thn (hg _ _ _ _ _ _ s7 σ5 H7 x u _ I7' r7 (step x H7 y7)) fun _ s8 ⟨σ8,H8,I8,q8⟩=>?_
   have again:∀ {σ9:St} {H9:Hp} {s9:TV} {zs:List V},Inv (aW X scope cl s3.heap.objs.size (L++F) s3 (upd H2 s2.heap.objs.size (.lst [])) fp) ([]++jY fp s7.heap) σ9 H9 s9->N zs σ9 H9 →
     ∃ m,m < n/\∃ i ys σ' H',Inv (aW X scope cl s3.heap.objs.size (L++F) s3 (upd H2 s2.heap.objs.size (.lst [])) fp) [] σ' H' s9/\tn i s9.heap/\(∀ b∈fp,H' b=none)/\W i m ys σ' H':=fun {σ9 H9 s9 zs} I9 n9=>by
    obtain⟨m',hm,w9⟩:=hN zs σ9 H9 n9
    refine⟨m',hm,i+1,zs,σ9,H9,I9.gB,T.keep _ _ _ st7 fun b hb o e=>(I9.pin (b,o) (Uv _ (Uv _ (cj hb e)))).1,fun b hb=>?_,w9⟩
    obtain⟨o,e,d⟩:=T.obj _ _ st7 b hb
    exact (I9.pin (b,o) (Uv _ (Uv _ (cj hb e)))).2.1
   refine thn (hi1 _ _ _ _ _ _ s8 σ8 H8 _ I8 q8) fun v1 s9 h9=>thn h9 fun itv s10 h10=>?_
   obtain⟨it1,fp1,tn1,J1,H10,e,I10,T1,st10,f10,Y,⟨m1,y0⟩,turn1⟩:=h10
   subst e
   have stat1:∀ {H':Hp},(∀ b∈fp1,H' b=none)->∀ b∈fp1,qJ (aW X scope cl s3.heap.objs.size (L++F) s3 (upd H2 s2.heap.objs.size (.lst [])) fp) ([]++jY fp s7.heap) H' b:=fun hn b hb=>⟨hn b hb,(f10 b hb).2⟩
   have loop1:Vz (Ue X.prog X.w) X.A (.compLoop (.ListComp elt [⟨t0,i0,[],0⟩,⟨t1,i1,[],0⟩] scope pos) 1 (.ref it1) (.ref s2.heap.objs.size) (Z0 scope cl s3.heap.objs.size X.env))
     (fun r s'=>match r with | .ok _=>∃ m,m < n/\∃ i ys σ' H',Inv (aW X scope cl s3.heap.objs.size (L++F) s3 (upd H2 s2.heap.objs.size (.lst [])) fp) [] σ' H' s'/\tn i s'.heap/\(∀ b∈fp,H' b=none)/\W i m ys σ' H' | .error _=>False) s10:=by
    refine vY (fun k s'=>∃ j zs σ' H',Inv (aW X scope cl s3.heap.objs.size (L++F) s3 (upd H2 s2.heap.objs.size (.lst [])) fp) ([]++jY fp s7.heap) σ' H' s'/\tn1 j s'.heap/\(∀ b∈fp1,H' b=none)/\Y j k zs σ' H') ?_ m1
     ⟨0,ys,_,_,I10,st10,fun b hb=>(f10 b hb).1,y0⟩
    rintro k s11 ⟨j,zs,σ11,H11,I11,st11,fr11,w11⟩
    rcases turn1 j k zs σ11 H11 w11 with⟨stop1,n1⟩ | ⟨go1,M,hM,step1⟩
    ·refine thn (T1.done (aW X scope cl s3.heap.objs.size (L++F) s3 (upd H2 s2.heap.objs.size (.lst [])) fp) U U U hc j _ s11 σ11 H11 _ I11 (stat1 fr11) st11 stop1) fun r s12 ⟨hr,I12⟩=>?_
     subst hr
     exact again I12 n1
    ·refine thn (T1.item (aW X scope cl s3.heap.objs.size (L++F) s3 (upd H2 s2.heap.objs.size (.lst [])) fp) U U U hc j _ s11 σ11 H11 _ I11 (stat1 fr11) st11 go1) fun r s12 ⟨u1,hr,h12⟩=>?_
     subst hr
     refine thn h12 fun _ s13 ⟨x1,H13,I13,r13,y13,st13,fr13⟩=>?_
     have I13':=I13.pinned (stat1 fr13) (T1.obj _ _ st13)
     refine thn (hg1 _ _ _ _ _ _ s13 σ11 H13 x1 u1 _ I13' r13 (step1 x1 H13 y13)) fun _ s14 ⟨σ14,H14,I14,q14⟩=>?_
     refine thn (he _ _ _ _ _ _ s14 σ14 H14 _ I14 q14) fun y s15 ⟨yv,H15,I15,r15,e15,z15,n15⟩=>?_
     refine thn (cL _ s15 σ14 H15 (.ref s2.heap.objs.size) [yv] (.ref s2.heap.objs.size) [y] (fun _ H'=>M (zs++[yv]) σ14 H') I15 U (.cons r15 .nil) ⟨_,zs,yv,U,U,e15,z15,n15⟩) fun _ s16 ⟨_,H16,I16,_,n16⟩=>?_
     obtain⟨m',hm,w16⟩:=hM _ _ _ n16
     refine⟨m',hm,j+1,_,σ14,H16,I16.gB,T1.keep _ _ _ st13 fun b hb o e=>(I16.pin (b,o) (Uv _ (Uv _ (cj hb e)))).1,fun b hb=>?_,w16⟩
     obtain⟨o,e,d⟩:=T1.obj _ _ st13 b hb
     exact (I16.pin (b,o) (Uv _ (Uv _ (cj hb e)))).2.1
   exact uR loop1 (T1.self _ 0 _ _ _ st10 loop1)
 have eC:(s2.heap.push { cls:=.type "list",data:=.seq ([]:E4).toArray }).objs.size=s3.heap.objs.size:=by rw[es3]
 have goal:∀ tk,Vz (Ue X.prog X.w) X.A (.compStart (.ListComp elt [⟨t0,i0,[],0⟩,⟨t1,i1,[],0⟩] scope pos) 0 (.ref it) (.ref s2.heap.objs.size) (Z0 scope cl s3.heap.objs.size X.env))
   (YM (Ue X.prog X.w) X.A E use QQ (.ref s2.heap.objs.size) s3.heap.objs.size) { s3 with heap:=h₁,toks:=tk }:=fun tk =>
  aaq (loop tk) (T.self _ 0 _ _ _ (T.keep 0 _ _ st2 fun b hb o e=>hkp b o (by rw[es3];exact TQ _ e)) (loop tk))
 have g0:=goal (s2.toks+([]:EO).length)
 subst hs3
 exact g0
theorem Ht (hc:X.calm=true)(ok:mj X scope F cap)(hi:PI X t0 i0 wi)
  (hg:∀ cl C s H fp,PG (aW X scope cl C (L++F) s H fp) t0 g) (hi1:∀ cl C s H fp,PI (aW X scope cl C (L++F) s H fp) t1 i1 wi1) (hg1:∀ cl C s H fp,PG (aW X scope cl C (L++F) s H fp) t1 g1) (he:∀ cl C s H fp,PE (aW X scope cl C (L++F) s H fp) elt te)
  (hs:∀ x,Ww i0 X.env x=pure x:=by intro _;rfl) (hs1:∀ (env:Zz) x,Ww i1 env x=pure x:=by intro _ _;rfl):PE X (.ListComp elt [⟨t0,i0,[],0⟩,⟨t1,i1,[],0⟩] scope pos) (Qu L.length cap wi g wi1 g1 te):=by
 intro ZY s σ H Q I h
 obtain⟨cl,e1,e2,e3⟩:=pO (scope:=scope) (env:=X.env) (fun y hy hf=>I.ok.has _ (ok.fr y hy hf))
 rw[eval_ListComp]
 refine YL (use:=none) U hs e1 ok.kind ok.nms (thn (hi ZY s σ H _ I h) fun v s1 h1=>thn h1 fun itv s2 h2=>?_)
 obtain⟨it,fp,tn,J,H2,e,I2,T,st2,f2,q2⟩:=h2
 subst e
 refine Fw (Z:=fun H'=>Q (.ref s2.heap.objs.size) H') hc ok e2 e3 hg hi1 hg1 he hs1 I2 T st2 f2 (q2 _ I2.fresh) fun C s' H' z J m hCf hCl hCs hCc hCp=>?_
 obtain⟨m,hm⟩:=m
 exact⟨m,hm,fun h' hs'=>⟨.ref _,H',J.turned (t':=s'.toks) (fun b o hb e=>(hs'.2 b hb).trans e) hCf hCl (.inr hCs) hCc hCp,U,z⟩⟩
end
section
variable {X:Cx}
end
def In2 (D:Addr)(J1:It)(g1:TG)(te:TE)(N:List V->St->Hp->Prop)(ys:List V)(σ3:St)(H4:Hp):Prop :=
 ∃ Y:Nat->Nat->List V->St->Hp->Prop,(∃ m,Y 0 m ys σ3 H4) ∧
  ∀ j m zs σ5 H5,Y j m zs σ5 H5->((J1.stop j H5/\N zs σ5 H5)∨(J1.go j H5/\∃ M:List V->St->Hp->Prop,(∀ zs σ6 H6,M zs σ6 H6->∃ m',m' < m/\Y (j+1) m' zs σ6 H6) ∧
   ∀ y H6,J1.yld j H5 y H6->g1 y σ5 H6 fun σ7 H7=>te σ7 H7 fun v H8=>H8 D=some (.lst zs)/\zs.length < sizeLine/\M (zs++[v]) σ7 (upd H8 D (.lst (zs++[v])))))
theorem Dp {K:Uw}{a D:Addr}{xs:List V}{g:TG}{wi1:TI}{g1:TG}{te:TE}{H1:Hp}{Q:Hp->Prop}{σ0:St}(Pv:Nat->List V->St->Hp->Prop)(h0:Pv 0 [] σ0 (upd H1 D (.lst [])))
  (hl:∀ i ys σ H,i<=xs.length->Pv i ys σ H->SqT K H a xs)
  (hs:∀ i ys x σ H,xs[i]? = some x->Pv i ys σ H->g x σ H fun σ3 H3=>wi1 σ3 H3 fun J1 H4=>In2 D J1 g1 te (Pv (i+1)) ys σ3 H4)
  (hd:∀ ys σ H,Pv xs.length ys σ H->Q H):ni D σ0 (Itt K a) g wi1 g1 te H1 Q:=by
 refine⟨fun i m ys σ H=>m=xs.length - i/\i<=xs.length/\Pv i ys σ H,⟨xs.length,by simp,U9 _,h0⟩,?_⟩
 rintro i m ys σ H ⟨rfl,hi,p⟩
 have q:=hl i ys σ H hi p
 by_cases hlt:i < xs.length
 ·refine .inr ⟨⟨xs,xs[i],q,by simp [hlt]⟩,Pv (i+1),fun zs σ' H' p'=>⟨xs.length - (i+1),by lia,U,hlt,p'⟩,fun x H' y=>?_⟩
  obtain⟨e,y⟩:=y
  subst e
  exact hs i ys x σ _ (y xs q) p
 ·have e:i=xs.length:=by lia
  subst e
  exact .inl ⟨⟨xs,q,T6 _⟩,hd ys σ H p⟩
theorem IW {K:Uw}{b D:Addr}{ws:List V}{g1:TG}{te:TE}{N:List V->St->Hp->Prop}{ys:List V}{σ3:St}{H4:Hp}(Pw:Nat->List V->St->Hp->Prop)(h0:Pw 0 ys σ3 H4)
  (hl:∀ j zs σ H,j<=ws.length->Pw j zs σ H->SqL K H b ws)
  (hs:∀ j zs y σ H,ws[j]? = some y->Pw j zs σ H->g1 y σ H fun σ7 H7=>te σ7 H7 fun v H8=>H8 D=some (.lst zs)/\zs.length < sizeLine/\Pw (j+1) (zs++[v]) σ7 (upd H8 D (.lst (zs++[v]))))
  (hd:∀ zs σ H,Pw ws.length zs σ H->N zs σ H):In2 D (Itl K b) g1 te N ys σ3 H4:=by
 refine⟨fun j m zs σ H=>m=ws.length - j/\j<=ws.length/\Pw j zs σ H,⟨ws.length,by simp,U9 _,h0⟩,?_⟩
 rintro j m zs σ H ⟨rfl,hj,p⟩
 have q:=hl j zs σ H hj p
 by_cases hlt:j < ws.length
 ·refine .inr ⟨⟨ws,ws[j],q,by simp [hlt]⟩,Pw (j+1),fun zs' σ' H' p'=>⟨ws.length - (j+1),by lia,U,hlt,p'⟩,fun y H' z=>?_⟩
  obtain⟨e,z⟩:=z
  subst e
  exact hs j zs y σ _ (z ws q) p
 ·have e:j=ws.length:=by lia
  subst e
  exact .inl ⟨⟨ws,q,T6 _⟩,hd zs σ H p⟩
section
variable {prog:Uq}{w:U3}{A:UW}{E:ET}{s:TV}
end
section
variable {X:Cx}
end
section
variable {X:Cx}{elt t0 i0 t1 i1:Expr}{scope:Wo}{pos:Yg}{L F:Fh}{cap:Fa}{wi wi1:TI}{g g1:TG}{te:TE}
end
section
variable {X:Cx}{tg:Expr}
end
def cJ (X:Cx)(scope:Wo)(cl:ER)(C:Addr)(x0:Ut)(N:Fh)(s:TV)(H:Hp)(fp:E6):Cx :=
 {X with N:=N,s₀:=s,H₀:=H,env:=Z0 scope ((x0,C+1)::cl) C X.env,outer:=X.stack,ex:=fp,fn:=fun y=>y == x0,pn:=[],xe:=fun _ _=>False }
structure tM (X:Cx)(scope:Wo)(x0:Ut)(F:Fh)(cap:Fa):Prop where
 kind:scope.kind = .function
 cf:∀ (n:Nat) (acc:ER),aam n scope.names acc=(x0,n)::acc
 pc:∀ h:Va,pushCells h scope.names=h.push { cls:=.type "cell",data:=.cell none }
 own:∀ x,scope.names.lookup x=some .cell->x=x0
 own0:scope.names.lookup x0=some .cell
 nms:∀ y∈scope.names,y.2 = .local->scope.names.lookup y.1=some .local
 fr:∀ y∈scope.names,y.2 = .free->X.env.kindOf y.1=some .cell∨X.env.kindOf y.1=some .free
 len:cap.length=F.length
 at':∀ (k:Nat) (x:Ut),F[k]? = some x->∃ i,cap[k]? = some i/\X.N[i]? = some x/\scope.names.lookup x=some .free
theorem lkK {x0 x:Ut}{c0 c:Addr}{cl:ER}(h:((x0,c0)::cl).lookup x=some c):(x=x0/\c=c0)∨(x≠x0/\cl.lookup x=some c):=by
 by_cases e:x=x0
 ·subst e
  rw[List.lookup_cons_self] at h
  exact .inl ⟨U,(U5 h).symm⟩
 ·refine .inr ⟨e,?_⟩
  rw[Vk] at h
  have:(x == x0)=false:=beq_eq_false_iff_ne.mpr e
  rw[this] at h
  exact h
theorem CT {x0 x:Ut}{c0 c:Addr}{cl:ER}(e:x≠x0)(h:cl.lookup x=some c):((x0,c0)::cl).lookup x=some c:=by
 rw[Vk]
 have:(x == x0)=false:=beq_eq_false_iff_ne.mpr e
 rw[this]
 exact h
theorem KZ {M:abE}{A:UW}{E:ET}{s:TV}{scope:Wo}{globals:Addr}{cl:ER}{qual:Ut}{outer:Zz}{Q:Zz->TV->Prop}
  (hQ:Q (newEnv scope s.heap.objs.size globals (aam (s.heap.objs.size+1) scope.names cl) qual none .none (some outer) builtinsNs) { s with heap:=pushCells (s.heap.push { cls:=.type "dict",data:=.dict #[] }) scope.names }) :
  T7 M A (ZZ scope globals cl [] qual none .none (some outer)) Q E s:=by
 simp only[ZZ,Option.isSome_some,if_true]
 refine TF (wpAny_alloc ?_)
 refine TF (wpAny_layCells _ (fun name kind cells=>by cases hkc:kind == Zo <;> simp [hkc]) _ _ _ _ ?_)
 rw[show ({ s with heap:=s.heap.push { cls:=.type "dict",data:=.dict #[] } }:TV).heap.objs.size=s.heap.objs.size+1 from Ve ..]
 refine TF ?_
 rw[aaQ]
 exact TX (TX hQ)
section
variable {X:Cx}{elt tg iter:Expr}{ifs:E7}{scope:Wo}{pos:Yg}{x0:Ut}{L F:Fh}{cap:Fa}{wi:TI}{g:TG}{tt:TT}{te:TE}
theorem xV {cl:ER}{ZY:EQ}{σ:St}{H:Hp}{s:TV}{fp:E6}{h₁:Va}{tk:Nat}(ok:tM X scope x0 F cap)(I:Inv X ZY σ H s)(hfp:∀ b∈fp,qJ X ZY H b/\b < s.heap.objs.size)
  (sub:∀ n c,cl.lookup n=some c->X.env.cells.lookup n=some c) (all:∀ y∈scope.names,y.2 = .free->∃ c,cl.lookup y.1=some c)
  (ns:h₁.Ns s.heap.objs.size fun _=>none) (kp:∀ b o,s.heap.get? b=some o->h₁.get? b=some o) (nc:h₁.IsCell (s.heap.objs.size+1) none) :
  Inv (cJ X scope cl s.heap.objs.size x0 (L++F) s H fp) [] (DK L.length cap σ) H { s with heap:=h₁,toks:=tk }:=by
 have frk:∀ x,scope.names.lookup x=some .free->X.env.kindOf x=some .cell∨X.env.kindOf x=some .free:=fun x e=>ok.fr (x,.free) (U8 e) U
 have old:∀ x c,cl.lookup x=some c->c < s.heap.objs.size:=fun x c e=>let ⟨_,q⟩:=I.cell x c (sub x c e);q.lt
 have okX:(cJ X scope cl s.heap.objs.size x0 (L++F) s H fp).Ok:=by
  refine⟨I.ok.mod,ok.kind,I.ok.glob,I.ok.blt,T6 _,fun x y c e1 e2=>?_,fun x hx=>?_,fun x c hx e=>?_,I.ok.hd,I.ok.frames,.inl U,fun b hb=>⟨Um (hfp b hb).2,fun x c e=>?_⟩,I.bs,UL I.ok.bsz I.sz,fun b o e hb=>?_,fun b hb=>?_,I.stack,I.sG⟩
  ·rcases lkK e1 with⟨f1,f2⟩ | ⟨f1,f2⟩ <;> rcases lkK e2 with⟨f3,f4⟩ | ⟨f3,f4⟩
   ·rw[f1,f3]
   ·have:=old _ _ f4
    rw[f2] at this
    exact absurd (aau (Wd _) this) (Vb _)
   ·have:=old _ _ f2
    rw[f4] at this
    exact absurd (aau (Wd _) this) (Vb _)
   ·exact I.ok.inj x y c (sub x c f2) (sub y c f4)
  ·by_cases hx0:x=x0
   ·exact⟨s.heap.objs.size+1,by rw[hx0];exact List.lookup_cons_self⟩
   ·have e:scope.names.lookup x=some .free:=by
     rcases hx with hx | hx
     ·rcases oh (env:=X.env) (show _=some Zo from hx) with e | e
      ·exact absurd (ok.own _ e) hx0
      ·exact e
     ·rcases oh (env:=X.env) (show _=some Wj from hx) with e | e <;> exact e
    obtain⟨c,hc⟩:=all (x,.free) (U8 e) U
    exact⟨c,CT hx0 hc⟩
  ·have hx:(x == x0)=true:=hx
   rcases lkK e with⟨_,f2⟩ | ⟨f1,_⟩
   ·rw[f2]
    exact We _
   ·exact absurd (eq_of_beq hx) f1
  ·rcases lkK e with⟨_,f2⟩ | ⟨_,f2⟩
   ·rw[f2]
    exact Wc (Vv (hfp b hb).2)
   ·exact (hfp b hb).1.2.2.2.2.1 x c (sub x c f2)
  ·obtain⟨_,_,_,f3,_⟩:=(hfp b hb).1
   rcases f3 with z | z
   ·exact I.ok.noex b o e z
   ·exact absurd (T4 (Ua e) (UL I.ok.bsz z)) (Vb _)
  ·obtain⟨_,f1,f2,_⟩:=(hfp b hb).1
   exact ou I f1 f2
 refine⟨okX,U,I.bare,Un.kept kp,⟨_,ns,fun i x v e1 e2 e3=>?_⟩,fun x c e=>?_,I.hok.fresh (T6 _),fun x c e=>?_,fun p hp=>absurd (show p∈([]:EQ) from hp) (by simp),I.hok.kept kp,?_⟩
 ·have e1:(L++F)[i]? = some x:=e1
  have e2:(Uy L.length none++cap.map fun i=>(σ[i]?).join)[i]? = some (some v):=e2
  have hL:¬ i < L.length:=fun hi=>by
   rw[Z8 (by simpa using hi),XN] at e2
   split at e2 <;> cases e2
  have hi:L.length<=i:=abv hL
  rw[Xl hi] at e1
  rw[Xl (by simpa using hi),Wf,Ux] at e2
  obtain⟨j,hj,hN,hk⟩:=ok.at' _ _ e1
  rw[hj] at e2
  have e4:(σ[j]?).join=some v:=by simpa using e2
  have e5:σ[j]? = some (some v):=by
   cases q:σ[j]? with
   | none=>rw[q] at e4;cases e4
   | some a=>rw[q] at e4;exact congrArg some e4
  obtain⟨m,hn,hl⟩:=I.loc
  have kd:=frk x hk
  have hx0:x≠x0:=fun z=>by rw[z,ok.own0] at hk;cases hk
  obtain⟨u,r,lk⟩:=hl j x v hN e5 (kd.elim (fun z=>.inr (.inl z)) fun z=>.inr (.inr z))
  obtain⟨c,hc,hcell⟩:∃ c,X.env.cells.lookup x=some c/\s.heap.IsCell c (some u):=by
   rcases lk with⟨z,_⟩ | ⟨_,c,z1,z2⟩
   ·rcases kd with y | y <;> (rw[y] at z;cases z)
   ·exact⟨c,z1,z2⟩
  obtain⟨c',hc'⟩:=all (x,.free) (U8 hk) U
  have ec:c'=c:=by
   have:=sub x c' hc'
   rw[hc] at this
   exact (U5 this).symm
  subst ec
  obtain⟨o,ho,hd⟩:=hcell
  exact⟨u,r,.inr ⟨(wK (env:=X.env) hk),c',CT hx0 hc',o,kp _ _ ho,hd⟩⟩
 ·rcases lkK e with⟨_,f2⟩ | ⟨_,f2⟩
  ·rw[f2]
   exact⟨none,nc⟩
  ·obtain⟨v,o,ho,hd⟩:=I.cell x c (sub x c f2)
   exact⟨v,o,kp _ _ ho,hd⟩
 ·rcases lkK e with⟨_,f2⟩ | ⟨_,f2⟩
  ·rw[f2]
   exact I.hok.fresh (We _)
  ·exact I.freeC x c (sub x c f2)
 ·show (Uy L.length (none:Option V)++cap.map fun i=>(σ[i]?).join).length=(L++F).length
  rw[Ui,Ui,Wf,TJ,ok.len]
theorem Fj {cl:ER}{ZY:EQ}{σ:St}{s2:TV}{H2:Hp}{it:Addr}{fp:E6}{tn:Nat->Va->Prop}{J:It}{use:EL}{QQ:ET}{Z:Hp->Prop}{E:ET}
  (hc:X.calm=true) (ok:tM X scope x0 F cap)
  (sub:∀ n c,cl.lookup n=some c->X.env.cells.lookup n=some c) (all:∀ y∈scope.names,y.2 = .free->∃ c,cl.lookup y.1=some c)
  (hg:∀ cl C s H fp,PG (cJ X scope cl C x0 (L++F) s H fp) tg g) (ht:∀ cl C s H fp,PTs (cJ X scope cl C x0 (L++F) s H fp) ifs tt) (he:∀ cl C s H fp,PE (cJ X scope cl C x0 (L++F) s H fp) elt te)
  (I2:Inv X ZY σ H2 s2) (T:Turn X.prog X.w X.K tg J fp it tn) (st2:tn 0 s2.heap) (f2:∀ b∈fp,qJ X ZY H2 b)
  (q2:gG s2.heap.objs.size (DK L.length cap σ) J g tt te H2 Z)
  (fin:∀ (C:Addr) (s':TV) (H':Hp),Z H'->Inv X ZY σ H' s'->(∃ m,s'.heap.Ns C m)->H' C=none->C≠X.env.locals->X.s₀.heap.objs.size<=C->(∀ x c,X.env.cells.lookup x=some c->c≠C)->(∀ p∈X.pn++ZY,p.1≠C) →
   YM (Ue X.prog X.w) X.A E use QQ (.ref s2.heap.objs.size) C (.ok .next) s') :
  T7 (Ue X.prog X.w) X.A (newList []) (fun acc s₃=>T7 (Ue X.prog X.w) X.A (ZZ scope X.env.globals cl [] X.env.qual none .none (some X.env)) (fun cenv s₄ =>
   Vz (Ue X.prog X.w) X.A (.compStart (.ListComp elt [⟨tg,iter,ifs,0⟩] scope pos) 0 (.ref it) acc { cenv with scope:=relabel scope X.env }) (YM (Ue X.prog X.w) X.A E use QQ acc cenv.locals) s₄) E s₃) E s2:=by
 have hD:H2 s2.heap.objs.size=none:=I2.fresh
 refine U4 (KZ ?_)
 rw[ok.cf,ok.pc]
 have I3:Inv X ZY σ (upd H2 s2.heap.objs.size (.lst [])) { s2 with heap:=s2.heap.push { cls:=.type "list",data:=.seq ([]:E4).toArray } }:=I2.O3 (t':=s2.toks) (ys:=[]) (its:=[]) .nil (U9 _)
 have blt:∀ b∈fp,b < s2.heap.objs.size:=fun b hb=>let ⟨_,e,_⟩:=T.obj 0 _ st2 b hb;Ua e
 have szC:(s2.heap.push { cls:=.type "list",data:=.seq ([]:E4).toArray }).objs.size=s2.heap.objs.size+1:=Ve _ _
 generalize hs3:({ s2 with heap:=s2.heap.push { cls:=.type "list",data:=.seq ([]:E4).toArray } }:TV)=s3 at I3
 have es3:s3.heap=s2.heap.push { cls:=.type "list",data:=.seq ([]:E4).toArray }:=by rw[← hs3]
 have eos:s3.os=s2.os:=by rw[← hs3]
 have fok:∀ b∈fp,qJ X ZY (upd H2 s2.heap.objs.size (.lst [])) b/\b < s3.heap.objs.size:=fun b hb=>by
  obtain⟨f0,fr⟩:=f2 b hb
  refine⟨⟨by rw[aD (Um (blt b hb))];exact f0,fr⟩,?_⟩
  rw[es3,szC]
  exact Vv (blt b hb)
 obtain⟨h₁,eh₁⟩:∃ h₁:Va,h₁=(s3.heap.push { cls:=.type "dict",data:=.dict #[] }).push { cls:=.type "cell",data:=.cell none }:=⟨_,U⟩
 have hkp:∀ b o,s3.heap.get? b=some o->h₁.get? b=some o:=fun b o e=>by
  rw[eh₁]
  exact TQ _ (TQ _ e)
 have hns:h₁.Ns s3.heap.objs.size fun _=>none:=by
  rw[eh₁]
  exact (Heap.Ns.new s3.heap (.type "dict")).keeps fun b o e=>TQ _ e
 have hnc:h₁.IsCell (s3.heap.objs.size+1) none:=by
  rw[eh₁,← Ve s3.heap { cls:=.type "dict",data:=.dict #[] }]
  exact⟨_,T9 _ U,U⟩
 have I4:∀ tk,Inv (cJ X scope cl s3.heap.objs.size x0 (L++F) s3 (upd H2 s2.heap.objs.size (.lst [])) fp) [] (DK L.length cap σ) (upd H2 s2.heap.objs.size (.lst [])) { s3 with heap:=h₁,toks:=tk }:=fun tk =>
  xV (L:=L) ok I3 fok sub all hns hkp hnc
 have stat:∀ {H':Hp},(∀ b∈fp,H' b=none)->∀ b∈fp,qJ (cJ X scope cl s3.heap.objs.size x0 (L++F) s3 (upd H2 s2.heap.objs.size (.lst [])) fp) [] H' b:=fun {H'} hn b hb=>by
  obtain⟨⟨_,g1,g2,g3,g4,g5⟩,g6⟩:=fok b hb
  exact⟨hn b hb,Um g6,ou I3 g1 g2,.inl hb,fun x c e=>(lkK e).elim (fun z=>by rw[z.2];exact Wc (Vv g6)) (fun z=>g4 x c (sub x c z.2)),fun p hp=>absurd (show p∈([]:EQ) from hp) (by simp)⟩
 have loop:∀ tk,Vz (Ue X.prog X.w) X.A (.compLoop (.ListComp elt [⟨tg,iter,ifs,0⟩] scope pos) 0 (.ref it) (.ref s2.heap.objs.size) (Z0 scope ((x0,s3.heap.objs.size+1)::cl) s3.heap.objs.size X.env))
   (YM (Ue X.prog X.w) X.A E use QQ (.ref s2.heap.objs.size) s3.heap.objs.size) { s3 with heap:=h₁,toks:=tk }:=fun tk=>by
  obtain⟨W,⟨m0,w0⟩,turn⟩:=q2
  have st3:tn 0 h₁:=T.keep 0 _ _ st2 fun b hb o e=>hkp b o (by rw[es3];exact TQ _ e)
  refine rD (fun n s'=>∃ i ys σ' H',Inv (cJ X scope cl s3.heap.objs.size x0 (L++F) s3 (upd H2 s2.heap.objs.size (.lst [])) fp) [] σ' H' s'/\tn i s'.heap/\(∀ b∈fp,H' b=none)/\W i n ys σ' H') ?_ m0
   ⟨0,[],_,_,I4 tk,st3,fun b hb=>(fok b hb).1.1,w0⟩
  rintro n s5 ⟨i,ys,σ5,H5,I5,st5,fr5,w5⟩
  obtain⟨hDl,alt⟩:=turn i n ys σ5 H5 w5
  rcases alt with⟨stop,qz⟩ | ⟨go,N,hN,step⟩
  ·refine thn (T.done (cJ X scope cl s3.heap.objs.size x0 (L++F) s3 (upd H2 s2.heap.objs.size (.lst [])) fp) U U U hc i [] s5 σ5 H5 _ I5 (stat fr5) st5 stop) fun r s6 ⟨hr,I6⟩=>?_
   subst hr
   have un:Un (frs X.stack) fp H2 H5 s2.heap s6.heap:=by
    have u1:Un (frs X.stack) fp H2 (upd H2 s2.heap.objs.size (.lst [])) s2.heap s3.heap:=by
     rw[es3]
     exact Un.laid (fun _ _ q=>TQ _ q) (T6 _) hD
    exact u1.trans I6.base
   have J1:Inv X ZY σ H5 s6:=I2.call' (I6.os.trans eos) un I6.hok I6.bare fun b hb=>by
    obtain⟨_,g1,_,g3,g4,g5⟩:=f2 b hb
    exact⟨g3,g1,g4,g5⟩
   have hC:s2.heap.objs.size<=s3.heap.objs.size:=by rw[es3,szC];exact We _
   obtain⟨m,hm,_⟩:=I6.loc
   refine fin s3.heap.objs.size s6 H5 qz J1 ⟨m,hm⟩ I6.free (Wc (T4 I2.lt hC)) (UL I2.sz hC) (fun x c e z=>?_) (fun p hp z=>?_)
   ·obtain⟨v,q⟩:=I2.cell x c e
    exact absurd (T4 q.lt (by rw[z];exact hC)) (Vb _)
   ·exact absurd (T4 (Ua (I2.pin p hp).1) (by rw[z];exact hC)) (Vb _)
  ·refine thn (T.item (cJ X scope cl s3.heap.objs.size x0 (L++F) s3 (upd H2 s2.heap.objs.size (.lst [])) fp) U U U hc i [] s5 σ5 H5 _ I5 (stat fr5) st5 go) fun r s6 ⟨u,hr,h6⟩=>?_
   subst hr
   refine thn h6 fun _ s7 ⟨x,H7,I7,r7,y7,st7,fr7⟩=>?_
   have I7':=I7.pinned (stat fr7) (T.obj _ _ st7)
   refine thn (hg _ _ _ _ _ _ s7 σ5 H7 x u _ I7' r7 (step x H7 y7)) fun _ s8 ⟨σ8,H8,I8,q8⟩=>?_
   have again:∀ {σ9:St} {H9:Hp} {s9:TV} {zs:List V},Inv (cJ X scope cl s3.heap.objs.size x0 (L++F) s3 (upd H2 s2.heap.objs.size (.lst [])) fp) ([]++jY fp s7.heap) σ9 H9 s9->N zs σ9 H9 →
     ∃ m,m < n/\∃ i ys σ' H',Inv (cJ X scope cl s3.heap.objs.size x0 (L++F) s3 (upd H2 s2.heap.objs.size (.lst [])) fp) [] σ' H' s9/\tn i s9.heap/\(∀ b∈fp,H' b=none)/\W i m ys σ' H':=fun {σ9 H9 s9 zs} I9 n9=>by
    obtain⟨m',hm,w9⟩:=hN zs σ9 H9 n9
    refine⟨m',hm,i+1,zs,σ9,H9,I9.gB,T.keep _ _ _ st7 fun b hb o e=>(I9.pin (b,o) (Uv _ (Uv _ (cj hb e)))).1,fun b hb=>?_,w9⟩
    obtain⟨o,e,d⟩:=T.obj _ _ st7 b hb
    exact (I9.pin (b,o) (Uv _ (Uv _ (cj hb e)))).2.1
   refine thn (ht _ _ _ _ _ _ s8 σ8 H8 _ I8 q8) fun okb s9 ⟨H9,I9,q9⟩=>?_
   cases okb with
   | false =>
    rw[if_neg T5] at q9 ⊢
    exact again I9 q9
   | true =>
    rw[if_pos U] at q9 ⊢
    refine thn (he _ _ _ _ _ _ s9 σ8 H9 _ I9 q9) fun y s10 ⟨yv,H10,I10,r10,e10,z10,n10⟩=>?_
    refine thn (cL _ s10 σ8 H10 (.ref s2.heap.objs.size) [yv] (.ref s2.heap.objs.size) [y] (fun _ H'=>N (ys++[yv]) σ8 H') I10 U (.cons r10 .nil) ⟨_,ys,yv,U,U,e10,z10,n10⟩) fun _ s11 ⟨_,H11,I11,_,n11⟩=>?_
    exact again I11 n11
 have eC:(s2.heap.push { cls:=.type "list",data:=.seq ([]:E4).toArray }).objs.size=s3.heap.objs.size:=by rw[es3]
 have goal:∀ tk,Vz (Ue X.prog X.w) X.A (.compStart (.ListComp elt [⟨tg,iter,ifs,0⟩] scope pos) 0 (.ref it) (.ref s2.heap.objs.size) (Z0 scope ((x0,s3.heap.objs.size+1)::cl) s3.heap.objs.size X.env))
   (YM (Ue X.prog X.w) X.A E use QQ (.ref s2.heap.objs.size) s3.heap.objs.size) { s3 with heap:=h₁,toks:=tk }:=fun tk =>
  aaq (loop tk) (T.self _ 0 _ _ _ (T.keep 0 _ _ st2 fun b hb o e=>hkp b o (by rw[es3];exact TQ _ e)) (loop tk))
 have g0:=goal s2.toks
 subst hs3
 rw[eh₁] at g0
 exact g0
theorem HS (hc:X.calm=true)(ok:tM X scope x0 F cap)(hi:PI X tg iter wi)
  (hg:∀ cl C s H fp,PG (cJ X scope cl C x0 (L++F) s H fp) tg g) (ht:∀ cl C s H fp,PTs (cJ X scope cl C x0 (L++F) s H fp) ifs tt) (he:∀ cl C s H fp,PE (cJ X scope cl C x0 (L++F) s H fp) elt te)
  (hs:∀ x,Ww iter X.env x=pure x:=by intro _;rfl):PE X (.ListComp elt [⟨tg,iter,ifs,0⟩] scope pos) (N7 L.length cap wi g tt te):=by
 intro ZY s σ H Q I h
 obtain⟨cl,e1,e2,e3⟩:=pO (scope:=scope) (env:=X.env) (fun y hy hf=>I.ok.has _ (ok.fr y hy hf))
 rw[eval_ListComp]
 refine YL (use:=none) U hs e1 ok.kind ok.nms (thn (hi ZY s σ H _ I h) fun v s1 h1=>thn h1 fun itv s2 h2=>?_)
 obtain⟨it,fp,tn,J,H2,e,I2,T,st2,f2,q2⟩:=h2
 subst e
 refine Fj (Z:=fun H'=>Q (.ref s2.heap.objs.size) H') hc ok e2 e3 hg ht he I2 T st2 f2 (q2 _ I2.fresh) fun C s' H' z J m hCf hCl hCs hCc hCp=>?_
 ·obtain⟨m,hm⟩:=m
  exact⟨m,hm,fun h' hs'=>⟨.ref _,H',J.turned (t':=s'.toks) (fun b o hb e=>(hs'.2 b hb).trans e) hCf hCl (.inr hCs) hCc hCp,U,z⟩⟩
end
def yW (osc:Wo)(oN:Fh)(sc:Wo)(x0:Ut)(F:Fh)(cap:Fa):Bool :=
 decide (sc.kind = .function) && sc.names.all (fun y=>!decide (y.2 = .cell) || decide (y.1=x0)) && decide (sc.names.lookup x0=some .cell) && sc.names.all (fun y=>!decide (y.2 = .local) || decide (sc.names.lookup y.1=some .local)) &&
 sc.names.all (fun y=>!decide (y.2 = .free) || decide (osc.names.lookup y.1=some .cell) || decide (osc.names.lookup y.1=some .free)) && decide (cap.length=F.length) &&
 (VV F.length).all fun k=>(decide (F[k]? = none) || decide ((cap[k]?.bind fun i=>oN[i]?)=F[k]?)) && decide ((F[k]?.bind fun x=>sc.names.lookup x)=some .free)
theorem Iz {X:Cx}{osc sc:Wo}{x0:Ut}{oN F:Fh}{cap:Fa}(ho:X.env.scope=osc)(hN:X.N=oN)(h:yW osc oN sc x0 F cap=true)
  (cf:∀ (n:Nat) (acc:ER),aam n sc.names acc=(x0,n)::acc) (pc:∀ h:Va,pushCells h sc.names=h.push { cls:=.type "cell",data:=.cell none }):tM X sc x0 F cap:=by
 unfold yW at h
 simp only[Vt] at h
 obtain⟨⟨⟨⟨⟨⟨h1,h2⟩,h0⟩,h3⟩,h4⟩,h5⟩,h6⟩:=h
 refine⟨of_decide_eq_true h1,cf,pc,fun x e=>?_,of_decide_eq_true h0,fun y hy e=>?_,fun y hy e=>?_,of_decide_eq_true h5,fun k x e=>?_⟩
 ·have:=List.all_eq_true.mp h2 _ (U8 e)
  exact of_decide_eq_true (by simpa using this)
 ·have:=List.all_eq_true.mp h3 y hy
  rw[decide_eq_true e] at this
  exact of_decide_eq_true (by simpa using this)
 ·have:=List.all_eq_true.mp h4 y hy
  rw[decide_eq_true e] at this
  have z:decide (osc.names.lookup y.1=some .cell)=true∨decide (osc.names.lookup y.1=some .free)=true:=by
   rw[Bool.not_true,aak,Y7] at this
   exact this
  show X.env.scope.names.lookup y.1=_∨X.env.scope.names.lookup y.1=_
  rw[ho]
  exact z.elim (fun q=>.inl (of_decide_eq_true q)) fun q=>.inr (of_decide_eq_true q)
 ·have hk:k < F.length:=(List.getElem?_eq_some_iff.mp e).1
  have q:=List.all_eq_true.mp h6 k (List.mem_range.mpr hk)
  rw[e,Vt] at q
  obtain⟨q1,q2⟩:=q
  have q1:(cap[k]?.bind fun i=>oN[i]?)=some x:=by
   rw[Y7] at q1
   rcases q1 with z | z
   ·exact absurd (of_decide_eq_true z) (by simp)
   ·exact of_decide_eq_true z
  have q2:sc.names.lookup x=some .free:=of_decide_eq_true q2
  cases hc:cap[k]? with
  | none=>rw[hc] at q1;cases q1
  | some i =>
   rw[hc] at q1
   exact⟨i,U,by rw[hN];exact q1,q2⟩
theorem HR {X:Cx}{scope:Wo}{cl:ER}{C:Addr}{x0:Ut}{N:Fh}{s:TV}{H:Hp}{fp:E6}(h:N.Nodup):(cJ X scope cl C x0 N s H fp).N.Nodup:=h
section
variable {X:Cx}
end
section
variable {X:Cx}{CX:CXT}{k:Nat}{f C:Addr}{fd:Vn}{ps:Fh}{sp:Sp}{dvs:List V}{ds:E4}{E:XK}{c m:Ut}{p pos apos:Yg}{e:Expr}{es:E7}{t:TA}{mc:Value}
structure qK (K:Ud)(C:Addr)(mc:Value)(m:Ut)(f:Addr):Prop where
 ga:PySem.W.specialIn K (.ref C) "__getattribute__" = some (some (.builtin "type.__getattribute__"))
 rd:PySem.W.readsIn K C mc=true
 fd:PySem.W.findCls K (.ref C) mc m=some (.val (.ref f))
 kp:Wa K (.ref f)=true
 hd:abt (.ref f)=true
theorem cW {pl:Sem Bool}(hg:Gl X c)(hm:X.mg c=some (.ref C))(O:qK X.K C mc m f)(F:aY X.prog X.w X.K X.mg X.base CX k f fd ps sp)(hr:dF k X.A)(hb:Binds X.K fd ps ds)(hd:Vals dvs ds)(hx:Passes CX X E)(ha:PA X (e::es) t)
  (hdb:(c == ("__debug__" : Ut))=false:=by decide) (hst:Ur (e::es) X.env=(false,VD e X.env)::Ur es X.env:=by rfl) (hpl:(Wt pos (Ur es X.env)).any (·.1)=false:=by rfl)
  (ht:VD (.Call (.Attribute (.Name c p) m apos) (e::es) [] pos) X.env=(do
   let ov ← VD (.Name c p) X.env
   YB apos.atName
   let (g,first) ← YZ [ov] (Zi ov m pl)
   aaM pos g first (Wt pos (Ur (e::es) X.env)) (Z1 pos (Yk [] X.env))):=by rfl) :
  PE X (.Call (.Attribute (.Name c p) m apos) (e::es) [] pos) (GK sp dvs E t):=by
 intro ZY s σ H Q I h
 refine Zf (pl:=pl) (iT I hg hm ?_ hdb) ht
 refine PySem.W.method_cls I.kIn O.ga (PySem.W.cls_value I.kIn O.rd O.fd O.hd ?_)
 have I1:=I.tok (s.toks+1)
 refine Y8 (first:=[]) (h₀:=X.base) I.ok.mod.kin O.kp (thn (ha pos ZY _ σ H _ I1 h) fun us s1 ⟨vs,H1,I2,r,q⟩=>⟨I2.kIn,?_⟩) hst hpl
 exact zr F hr hb hd hx I2 r q
end
section
variable {P:Uq}{w:U3}{A:UW}{E:Value->TV->Prop}{hp:Va}{g:Array abm}{d:Drawn}{tk:Nat}{os:OsState}
variable {nm q:Ut}{C N:Addr}{bs bm:E4}{hdct:Bool}{sn:Fh}{sub:E4}{ab:Bool}{col:E1}{dd:EZ}{k0 k1 k2 k3 k5:EW}{newId:String}
abbrev mZ (C t:Addr)(D:EZ):WL:={ cls:=.ref C,dict:=D,data:=.fields #[.ref t,.none,.none,.none,.bool false,.none] }
theorem Dv {M:abE} {x t:Addr} {D:EZ} {ys:E4} {Q:Unit->TV->Prop} (hC:hp.get? C=some (XS nm q C N bs bm hdct sn sub ab col dd k0 k1 k2 k3 k5 newId)) (hv:bm.contains (.type "ValueError")=true)
  (hx:hp.get? x=some (mZ C t D)) (hq:Q () ⟨hp,g,d,tk,os⟩):T7 M A (YD "ValueError.__init__" ⟨.ref x::ys,[]⟩) Q E ⟨hp,g,d,tk,os⟩:=by
 have hv':(Uk C::bm).contains (.type "ValueError")=true:=by rw[Wn,hv,X5]
 have F:=PySem.F.excCall_ValueError
 have hns:=F.noStar
 simp only[YD,F.initSplit,F.initKind,F.initRow]
 repeat (first | (with_reducible refine V2 hx ?_) | (with_reducible refine V2 hC ?_) | (with_reducible refine W8 hC ?_;rw[hv']) | wp_step)
 refine aag ?_
 rw[show ∀ (a b:String) (n:Nat),Bind.check ⟨.positional,"*","ValueError",.self,[⟨"args",.varPos,false⟩]⟩ a b n (List.map (fun z=>z.fst) ({ pos:=Uk x::ys }:Args).kw)=pure () from fun a b n=>check_star_args _ _ _ _ _ _]
 exact TX hq
theorem Bc {x t:Addr} {D:EZ} {y:Value} {Q:ET} (hC:hp.get? C=some (XS nm q C N bs bm hdct sn sub ab col dd k0 k1 k2 k3 k5 newId)) (hv:bm.contains (.type "ValueError")=true)
  (hx:hp.get? x=some (mZ C t D)) (h:∀ h',(∀ b o,b≠x->hp.get? b=some o->h'.get? b=some o)->h'.get? x=some (mZ C hp.objs.size D)->Q .none ⟨h',g,d,tk,os⟩) :
  T7 (Ue P w) A (call (.builtin "ValueError.__init__") [.ref x,y]) Q E ⟨hp,g,d,tk,os⟩:=by
 have F:=PySem.F.excCall_ValueError
 refine Yi (Yl F.init.plain F.initEntry (Dv hC hv hx ?_))
 have hx1:=TQ { cls:=.type "tuple",data:=.seq #[y] } hx
 wp_walk
 refine h _ (fun b o hb e=>?_) ?_
 ·rw[Uu _ _ (VM hb)]
  exact TQ _ e
 ·rw[UG _ hx1 U]
  rfl
end
section
variable {P:Uq}{w:U3}{A:UW}{hp:Va}{g:Array abm}{d:Drawn}{tk:Nat}{os:OsState}
variable {nm q:Ut}{C N:Addr}{bs bm:E4}{hdct:Bool}{sn:Fh}{sub:E4}{ab:Bool}{col:E1}{dd:EZ}{k0 k1 k2 k3 k5:EW}
structure NK (bm:E4):Prop where
 v:bm.contains (.type "ValueError")=true
 b:bm.contains (.type "BaseException")=true
 a:bm.contains (.type "AttributeError")=false
 n:bm.contains (.type "NameError")=false
theorem new_exc {R:Z3->TV->Prop} (V:NK bm) (hC:hp.get? C=some (XS nm q C N bs bm hdct sn sub ab col dd k0 k1 k2 k3 k5 "ValueError.__new__"))
  (hq:R (.ok (.ret (.ref (hp.objs.size+1)))) ⟨(hp.push { cls:=.type "tuple",data:=.seq #[] }).push (mZ C hp.objs.size none),g,d,tk,os⟩) :
  Vz (Ue P w) A (.builtin "ValueError.__new__" ⟨[.ref C],[]⟩) R ⟨hp,g,d,tk,os⟩:=by
 have F:=PySem.F.excBase_ValueError
 have he:=F.ends
 have c1:(Uk C::bm).contains (.type "ValueError")=true:=by rw[Wn,V.v,X5]
 have c2:(Uk C::bm).contains (.type "AttributeError")=false:=by rw[Wn,V.a];rfl
 have c3:(Uk C::bm).contains (.type "NameError")=false:=by rw[Wn,V.n];rfl
 refine codeAny_builtinAt F.entry ?_
 unfold XD.«BaseException.__new__»
 refine PySem.wpAt_bind ?_
 show PySem.wpAt _ _ _ (stack >>= _) _ _ _
 refine PySem.wpAt_bind (PySem.wpAt_stack fun p below=>PySem.wpAt_of_wpAny ?_)
 wp_walk
 refine PySem.wpAt_of_wpAny ?_
 rw[F.owner]
 repeat (first | with_reducible refine wpAny_madeHere_exc F.canon hC ?_ | with_reducible refine V2 hC ?_ | (with_reducible refine W8 hC ?_;first | rw[c1] | rw[c2] | rw[c3]) | wp_step)
 show R _ _
 rw[Ve]
 exact hq
theorem Lk {M:abE} {E:ET} {Q:Unit->TV->Prop} (V:NK bm) (hC:hp.get? C=some (XS nm q C N bs bm hdct sn sub ab col dd k0 k1 k2 k3 k5 "ValueError.__new__")) (hq:Q () ⟨hp,g,d,tk,os⟩) :
  T7 M A (YD "ValueError.__new__" ⟨[.ref C],[]⟩) Q E ⟨hp,g,d,tk,os⟩:=by
 have F:=PySem.F.excBase_ValueError
 have c1:(Uk C::bm).contains (.type "ValueError")=true:=by rw[Wn,V.v,X5]
 have hs:=F.noStar
 simp only[YD,F.newSplit,F.newKind,F.newRow]
 repeat (first | (refine W8 hC ?_;rw[c1]) | refine V2 hC ?_ | refine wpAny_madeBy_exc hC ?_ | refine wpAny_staticBase_exc hC ?_ | simp only[bne_self_eq_false,aa9,if_false] | wp_step)
 exact hq
theorem JM {f:Addr} {R:Z3->TV->Prop} (V:NK bm) (hC:hp.get? C=some (XS nm q C N bs bm hdct sn sub ab col dd k0 k1 k2 k3 k5 "ValueError.__new__"))
  (hl:∀ h',(∀ b o,hp.get? b=some o->h'.get? b=some o)->W.Looks (Ue P w) h' (ZX (.ref C) "__init__") (some (.ref f))) (hb:∀ h' self,(∀ b o,hp.get? b=some o->h'.get? b=some o)->W.Looks (Ue P w) h' (bindSpecial (.ref f) self) (.ref f,[self]))
  (hq:Vz (Ue P w) (A.under (.builtin "type.__call__" ⟨[.ref C],[]⟩)) (.call (.ref f) ⟨[.ref (hp.objs.size+1)],[]⟩) (W.InitBack (hp.objs.size+1) R) ⟨(hp.push { cls:=.type "tuple",data:=.seq #[] }).push (mZ C hp.objs.size none),g,d,tk,os⟩) :
  Vz (Ue P w) A (.call (.ref C) ⟨[],[]⟩) R ⟨hp,g,d,tk,os⟩:=by
 have f1:=tc_lookup
 have f2:=tc_bind (.ref C)
 have hT:(⟨hp,g,d,tk,os⟩:TV).TypeIs (.ref C) "type":=⟨_,hC,U⟩
 refine aaz ?_
 show T7 _ _ (callAny (.ref C) _) _ _ _
 repeat (any_goals (first | assumption | with_reducible refine V2 hC ?_ | wp_step))
 refine⟨U,?_⟩
 refine codeAny_call_builtin_at (aa8 _ (by decide+kernel)) entry_typeCall (wpAny_check_type_call_sub hC ?_)
 repeat (first | with_reducible refine V2 hC ?_ | with_reducible refine wpAny_madeBy_exc hC ?_ | wp_step)
 refine codeAny_call_builtin_code (aa8 _ PySem.F.excBase_ValueError.quiet) (Lk V hC ?_)
 refine new_exc V hC ?_
 show T7 _ _ _ _ _ _
 have k1:∀ b o,hp.get? b=some o->((hp.push { cls:=.type "tuple",data:=.seq #[] }).push (mZ C hp.objs.size none)).get? b=some o:=fun b o e=>TQ _ (TQ _ e)
 have hC1:=k1 _ _ hC
 have hx:((hp.push { cls:=.type "tuple",data:=.seq #[] }).push (mZ C hp.objs.size none)).get? (hp.objs.size+1)=some (mZ C hp.objs.size none):=by heap_get
 have cC:(Uk C::bm).contains (.ref C)=true:=by simp
 unfold isInstance
 repeat (first | with_reducible refine V2 hx ?_ | (with_reducible refine W8 hC1 ?_;rw[cC]) | wp_step)
 show T7 _ _ (ZX (.ref C) _) _ _ _
 refine WN (hl _ k1) ?_
 refine VL (TF ((hb _ _ k1).here ?_))
 refine TF (Yi (Xb hq fun r s' z=>?_))
 cases r with
 | error e=>exact z
 | ok fl =>
  cases fl with
  | ret v =>
   obtain⟨ev,z⟩:=z
   subst ev
   exact TX (TX z)
  | next=>exact Vc z
  | brk=>exact Vc z
  | cont=>exact Vc z
end
theorem Iw (self:Value):PySem.refuseLoop self "__setattr__" [.type "ValueError",.type "Exception",.type "BaseException",.type "object"]=pure ():=by kernel_rfl
section
variable {P:Uq}{w:U3}{A:UW}{E:Value->TV->Prop}{K:Uw}{s:TV}
variable {nm q:Ut}{C N x t:Addr}{bs bm:E4}{hdct:Bool}{sn:Fh}{sub:E4}{ab:Bool}{col:E1}{dd:EZ}{k0 k1 k2 k3 k5:EW}{newId:String}
def qI:E4->Bool
 | []=>false
 | a::r=>match a with
  | .ref _=>qI r
  | _=>a::r == [.type "ValueError",.type "Exception",.type "BaseException",.type "object"]
theorem jk {a:Value} {r:E4} (h:qI (a::r)=true):(∃ c,a = .ref c/\qI r=true)∨a::r=[.type "ValueError",.type "Exception",.type "BaseException",.type "object"]:=by
 cases a <;> first | exact .inl ⟨_,rfl,h⟩ | exact .inr (eq_of_beq h)
theorem mD (self:Value):∀ {l:E4},qI l=true->PySem.refuseLoop self "__setattr__" l=pure ()
 | [],h=>by cases h
 | a::r,h=>by
  rcases jk h with⟨c,rfl,h'⟩ | e
  ·rw[refuseLoop_ref]
   exact mD self h'
  ·rw[e]
   exact Iw self
theorem uQ:∀ {l:E4},qI l=true->l.contains (.type "object")=true
 | [],h=>by cases h
 | a::r,h=>by
  rcases jk h with⟨c,rfl,h'⟩ | e
  ·rw[Wn,uQ h',X5]
  ·rw[e]
   rfl
theorem MT {name:Ut} {v:Value} {cd:ClassData} {Q:Unit->TV->Prop} (X:K.In s.heap) (hx:s.heap.get? x=some (mZ C t none)) (hs:Yo K (.ref C) "__setattr__" = some (some (.builtin "object.__setattr__")))
  (hc:W.clsIn K C=some cd) (hu:qI cd.mro=true) (hdc:cd.hasDict=true) (hf:W.takerIn K C name=some none)
  (h:∀ h',(∀ b o,b≠x->s.heap.get? b=some o->h'.get? b=some o)->h'.get? x=some (mZ C t (some s.heap.objs.size))->(∃ o,h'.get? s.heap.objs.size=some o)->h'.Ns1 s.heap.objs.size (fun y=>if y=name then some v else none)->∀ tk,Q () { s with heap:=h',toks:=tk }) :
  T7 (Ue P w) A (setAttr (.ref x) name v) Q E s:=by
 have J:PySem.W.InstAt s.heap x (mZ C t none) C none:=⟨hx,U,U,trivial⟩
 have SF:=PySem.F.store_object
 have ne:cd.mro.isEmpty=false:=by cases q:cd.mro with | nil=>rw[q] at hu;cases hu | cons _ _=>rfl
 refine PySem.W.set_plain X J hs ?_
 have sub:aa4 (Ue P w) s.heap (isInstance (.ref x) (.type "object")) true:=J.type.andThen (PySem.W.looks_mroIn X (by unfold PySem.W.mroIn;rw[hc,Option.bind_some,if_neg (by rw[ne];decide),uQ hu]))
 refine Yl SF.slot.plain SF.entry (@PySem.W.check_slot (Ue P w) _ _ { s with toks:=s.toks+1 } "object.__setattr__" "object" "__setattr__" (.ref x) [.str name s.toks,v] [] _ SF.kind SF.split sub (SF.args (.ref x) (.str name s.toks) v) ?_)
 obtain⟨attr,ha,hr⟩:=Option.bind_eq_some_iff.mp hf
 have hm:aa4 (Ue P w) s.heap (mroOf (.ref C)) cd.mro:=(aaX X hc).andThen .now
 have L3:aa4 (Ue P w) s.heap (Builtin.ObjectAttr.storeTaker? attr) none:=by
  cases attr with
  | none=>exact .now
  | some a =>
   obtain⟨b,hb,e⟩:=Option.map_eq_some_iff.mp hr
   refine (PySem.W.looks_takesIn X hb).andThen ?_
   cases b
   ·exact .now
   ·cases e
 rw[PySem.W.osa_eq,refuse_eq]
 obtain⟨hp,g,d,tk,os⟩:=s
 refine TF (TF (WN (s:=⟨hp,g,d,tk+1,os⟩) J.type (TF (WN (s:=⟨hp,g,d,tk+1,os⟩) hm ?_))))
 rw[mD _ hu]
 refine TX (TF (WN (s:=⟨hp,g,d,tk+1,os⟩) J.type (TF (WN (s:=⟨hp,g,d,tk+1,os⟩) (Ys X ha) (TF (WN (s:=⟨hp,g,d,tk+1,os⟩) L3 ?_))))))
 dsimp only
 unfold Builtin.ObjectAttr.storeInOwnDict
 refine TF (TX ?_)
 unfold Builtin.ObjectAttr.ownDictForStores instanceDict
 refine TF (TF (wpAny_loadPart hx (TF (WN (s:=⟨hp,g,d,tk+1,os⟩) (aaX X hc) ?_))))
 rw[hdc,if_neg (by decide)]
 have hx1:(hp.push { cls:=.type "dict",data:=.dict #[] }).get? x=some (mZ C t none):=TQ _ hx
 have hne:x≠hp.objs.size:=Um (Ua hx)
 show T7 _ _ (do let d ← alloc { cls:=.type "dict",data:=.dict #[] };update x fun o=>{ o with dict:=some d };dictMade (.ref C) x d) _ _ _
 refine TF (wpAny_alloc (TF (wpAny_update hx1 ?_)))
 wp_step
 refine TX ?_
 dsimp only
 generalize eh:(hp.push { cls:=.type "dict",data:=.dict #[] }).update x (fun o=>{ o with dict:=some hp.objs.size })=h2
 have n2:h2.Ns1 hp.objs.size (fun _=>none):=by
  refine Heap.Ns1.at (Heap.Ns1.of_empty (Heap.Ns.new hp (.type "dict"))) fun o e=>?_
  rw[← eh,Uu _ _ hne]
  exact e
 have k2:∀ b o,b≠x->hp.get? b=some o->h2.get? b=some o:=fun b o hb e=>by
  rw[← eh,Uu _ _ (VM hb)]
  exact TQ _ e
 have x2:h2.get? x=some (mZ C t (some hp.objs.size)):=by
  rw[← eh,UG _ hx1 U]
 unfold Builtin.ObjectAttr.storeInDict
 refine TF (TX ?_)
 refine TF (wpAny_nsSet1 (s:=⟨h2,g,d,tk+1,os⟩) n2 fun h' hn2 hs2=>?_)
 obtain⟨oD,esD,epD,hoD,hdD,hcD⟩:=hn2.count (PySem.Within.cons name v PySem.Within.nil)
 refine TF (wpAny_lookBehind hoD (by rw[hdD];exact pastItsLine_dict (UL hcD (by show 1<=sizeLine+1;lia))) ?_)
 refine TX (h _ (fun b o hb e=>?_) ((hs2.2 _ hne).trans x2) ⟨oD,hoD⟩ hn2 _)
 have hbn:b≠hp.objs.size:=Um (Ua e)
 exact (hs2.2 _ hbn).trans (k2 b o hb e)
end
theorem MF (K:Uw):W.findCls K (.type "ValueError") (.type "type") "__init__" = some (.val (.builtin "ValueError.__init__")):=by kernel_rfl
theorem Ld:Vi "ValueError" = some (.type "ValueError"):=by decide+kernel
theorem Np:typeOf (.type "ValueError")=pure (.type "type"):=by kernel_rfl
theorem Mj:Manifest.isStub "ValueError" = false:=by decide+kernel
theorem Ni:W.handedIn (.builtin "ValueError.__init__")=true:=by decide+kernel
def xO (x C:Addr)(D:EZ):HO:=.ext fun h=>∃ t,h.get? x=some (mZ C t D)
theorem Nj {P:Uq}{w:U3}{H:Hp}{h:Va}{x C t:Addr}{D:EZ}(e:h.get? x=some (mZ C t D)):cX P w H h x (xO x C D) :=
 ⟨⟨t,e⟩,⟨_,e⟩,fun h1 h2 ⟨t',e'⟩ k=>⟨t',k _ e'⟩⟩
structure Im (K:Ud)(C f:Addr)(name:Ut):Prop where
 obj:∃ nm q N bs bm hdct sn sub ab col dd k0 k1 k2 k3 k5,K.lookup C=some (XS nm q C N bs bm hdct sn sub ab col dd k0 k1 k2 k3 k5 "ValueError.__new__")/\NK bm
 init:Vw K (.ref C) "__init__" = some (some (.ref f))
 fn:PySem.W.typeIn K (.ref f)=some (.type "function")
 kp:Wa K (.ref C)=true
 set:Vw K (.ref C) "__setattr__" = some (some (.builtin "object.__setattr__"))
 cls:∃ cd,PySem.W.clsIn K C=some cd/\qI cd.mro=true/\cd.hasDict=true
 tak:aaA K C name=some none
section
variable {X:Cx}{p pos apos:Yg}{e:Expr}{es:E7}{t:TA}{f C:Addr}
def N5 (K:Uw)(t:TA):TE:=fun σ H Q=>t σ H fun vs H1=>∃ (x C f:Addr) (n:Ut) (D:EZ) (y:V),vs=[.ref x,y]/\H1 x=some (xO x C D)/\Im K C f n/\Q .non (upd H1 x (xO x C D))
theorem Ho {pl:Sem Bool} (hg:Gl X "ValueError") (hm:X.mg "ValueError" = none) (ha:PA X (e::es) t)
  (hst:Ur (e::es) X.env=(false,VD e X.env)::Ur es X.env:=by rfl) (hpl:(Wt pos (Ur es X.env)).any (·.1)=false:=by rfl)
  (ht:VD (.Call (.Attribute (.Name "ValueError" p) "__init__" apos) (e::es) [] pos) X.env=(do
   let ov ← VD (.Name "ValueError" p) X.env
   YB apos.atName
   let (g,first) ← YZ [ov] (Zi ov "__init__" pl)
   aaM pos g first (Wt pos (Ur (e::es) X.env)) (Z1 pos (Yk [] X.env))):=by rfl) :
  PE X (.Call (.Attribute (.Name "ValueError" p) "__init__" apos) (e::es) [] pos) (N5 X.K t):=by
 intro ZY s σ H Q I h
 refine Zf (pl:=pl) (ig I hg hm Ld ?_) ht
 obtain⟨m,F⟩:=I.fr
 refine PySem.W.method_type F I.ok.mod.kin Np Mj (MF X.K) Ni ?_
 have I1:=I.tok (s.toks+1)
 refine callWith_builtin1 (thn (ha pos ZY _ σ H _ I1 h) fun us s1 ⟨vs,H1,I2,r,x,C,f,n,D,y,ev,hx,XC,q⟩=>?_) hst hpl
 subst ev
 obtain⟨u,v,rfl,ru,rv⟩:=r.two
 obtain rfl:u=Uk x:=ru
 obtain⟨⟨t0,e0⟩,_⟩:=I2.hok x _ hx
 obtain⟨nm,q1,N,bs,bm,hdct,sn,sub,ab,col,dd,k0,k1,k2,k3,k5,lk,V⟩:=XC.obj
 obtain⟨hp,g,d,tk,os⟩:=s1
 refine Bc (I2.kIn _ _ lk) V.v e0 fun h' k' e'=>?_
 exact⟨.non,_,I2.write (x:=x) (e:=x) (by rw[hx];trivial) (.inl U) k' ⟨_,e'⟩ (Nj e'),U,q⟩
end
section
variable {X:Cx}{pos pos':Yg}{o value:Expr}{ta tv:TE}{f:Ut}
def QV (K:Uw)(ta tv:TE)(f:Ut):TS:=fun D σ H=>tv σ H fun y H1=>ta σ H1 fun x H2=>∃ (a C fI:Addr),x = .ref a/\H2 a=some (xO a C none)/\Im K C fI f/\∀ dx,H2 dx=none->D.nx σ (upd (upd H2 dx (.xd [(f,y)])) a (xO a C (some dx)))
theorem K9 (ha:PE X o ta)(hv:PE X value tv)(hs:ZR value (some (.Attribute o f pos')) pos.line X.env=pure false):PS X (.Assign [.Attribute o f pos'] value pos) (QV X.K ta tv f):=by
 intro ZY s σ H D I h
 refine abn (thn (hv ZY s σ H _ I h) fun u s1 ⟨y,H1,I1,ry,q⟩=>thn (ha ZY s1 σ H1 _ I1 q) fun ov s2 ⟨x,H2,I2,rx,a,C,fI,ex,ea,XC,q2⟩=>?_) hs
 subst ex
 obtain rfl:ov=Uk a:=rx
 obtain⟨⟨t0,e0⟩,_⟩:=I2.hok a _ ea
 obtain⟨cd,hc,hu,hd⟩:=XC.cls
 refine MT I2.kIn e0 XC.set hc hu hd XC.tak fun h' k' e' ho hn tk=>?_
 have fr:=I2.fresh
 have hne:a≠s2.heap.objs.size:=Um (Ua e0)
 have e1:(h'.update a fun _=>mZ C t0 none).get? a=some (mZ C t0 none):=UG _ e' U
 have o1:∀ b,b≠a->(h'.update a fun _=>mZ C t0 none).get? b=h'.get? b:=fun b hb=>Uu _ _ (VM hb)
 have I3:=I2.laid (a:=s2.heap.objs.size) (o:=.xd [(f,y)]) (h':=h'.update a fun _=>mZ C t0 none) (t':=tk) (fun b u' q'=>by
  by_cases hb:b=a
  ·subst hb
   rw[e0] at q'
   rw[e1]
   exact q'
  ·rw[o1 b hb]
   exact k' b u' hb q') (T6 _) ⟨_,hn.at (fun o z=>by rw[o1 _ (VM hne)];exact z),fun g=>by
    by_cases hg:g=f
    ·subst hg
     simp [Yu,rB]
     exact ry
    ·have:(g == f)=false:=beq_false_of_ne hg
     simp [Yu,this,hg,rB]⟩
 have I4:=I3.write (x:=a) (e:=a) (h':=h') (o:=xO a C (some s2.heap.objs.size)) (t':=tk) (by rw[aD hne,ea];trivial) (.inl U) (fun b u' hb q'=>by rw[o1 b hb] at q';exact q') ⟨_,e'⟩ (Nj e')
 exact⟨σ,_,I4,q2 _ fr⟩
end
section
variable {M:abE}{A:UW}{E:ET}{env:Zz}
theorem En {s:TV}{z:Sem Value}{Q:Flow->TV->Prop}(hh:A.handled=none)
  (h:T7 M A z (fun v s1=>∃ (e t C:Addr) (D:EZ) (nm q:Ut) (N:Addr) (bs bm:E4) (hdct:Bool) (sn:Fh) (sub:E4) (ab:Bool) (col:E1) (dd:EZ) (k0 k1 k2 k3 k5:EW) (newId:String),v = .ref e/\s1.heap.get? C=some (XS nm q C N bs bm hdct sn sub ab col dd k0 k1 k2 k3 k5 newId)/\bm.contains (.type "BaseException")=true/\s1.heap.get? e=some (mZ C t D)/\E (.ref e) s1) E s):T7 M A (raiseStmt env (some z) none) Q E s:=by
 unfold raiseStmt
 refine TF (Vd h (fun v s1 h1=>?_) fun _ _ y=>y)
 obtain⟨e,t,C,D,nm,q,N,bs,bm,hdct,sn,sub,ab,col,dd,k0,k1,k2,k3,k5,newId,rfl,hC,hb,he,hE⟩:=h1
 have c1:(Uk C::bm).contains (.type "BaseException")=true:=by rw[Wn,hb,X5]
 obtain⟨hp,g,d,tk,os⟩:=s1
 repeat (first | with_reducible refine V2 he ?_ | with_reducible refine V2 hC ?_ | (with_reducible refine W8 hC ?_;rw[c1]) | wp_step)
 exact wpAny_raiseNew_none hh hE
end
section
variable {X:Cx}{CX:CXT}{k:Nat}{f C:Addr}{fd:Vn}{ps:Fh}{sp:Sp}{c n:Ut}{p pos:Yg}{e:Expr}{te:TE}{E:XK}
def Om (C:Addr)(sp:Sp)(E:XK):TE:=fun _ H Q=>∀ x,H x=none->sp [.ref x] (upd H x (xO x C none)) (fun v H2=>v = .non/\Q (.ref x) H2) E
theorem Hc (XC:Im X.K C f n)(F:aY X.prog X.w X.K X.mg X.base CX k f fd ps sp)(hr:dF (k+1) X.A)(hg:Gl X c)(hm:X.mg c=some (.ref C))(hb:Binds X.K fd ps [])(hx:Passes CX X E)
  (hdb:(c == ("__debug__" : Ut))=false:=by decide):PE X (.Call (.Name c p) [] [] pos) (Om C sp E):=by
 intro ZY s σ H Q I h
 refine VR (iT I hg hm ?_ hdb)
 refine aaY I.kIn XC.kp ?_
 obtain⟨nm,q1,N,bs,bm,hdct,sn,sub,ab,col,dd,k0,k1,k2,k3,k5,lk,VE⟩:=XC.obj
 have hq:=h (s.heap.objs.size+1) (I.hok.fresh (We _))
 have kk:∀ b o,s.heap.get? b=some o->((s.heap.push { cls:=.type "tuple",data:=.seq #[] }).push (mZ C s.heap.objs.size none)).get? b=some o:=fun b o z=>TQ _ (TQ _ z)
 have ex:((s.heap.push { cls:=.type "tuple",data:=.seq #[] }).push (mZ C s.heap.objs.size none)).get? (s.heap.objs.size+1)=some (mZ C s.heap.objs.size none):=by
  have:=T9 (s.heap.push { cls:=.type "tuple",data:=.seq #[] }) (o:=mZ C s.heap.objs.size none) U
  rwa [Ve] at this
 have I2:=I.laid (a:=s.heap.objs.size+1) (o:=xO (s.heap.objs.size+1) C none) (t':=s.toks) kk (We _) (Nj ex)
 have r2:Vals [V.ref (s.heap.objs.size+1)] [Uk (s.heap.objs.size+1)]:=.cons U .nil
 have hl:([Uk (s.heap.objs.size+1)]++[]).length=ps.length:=by
  have z:=r2.length
  rw[F.len _ _ _ _ hq] at z
  exact z.symm
 have hk:=I.kIn
 refine Yi ?_
 have mk:=JM (P:=X.prog) (w:=X.w) (A:=X.A) (hp:=s.heap) (g:=s.gens) (d:=s.drawn) (tk:=s.toks) (os:=s.os) (f:=f) (R:=fun r s'=>match r with | .ok (.ret v)=>EP X ZY σ Q v s' | .ok _=>False | .error e=>X.xe e s') VE (hk _ _ lk) (fun h' k'=>Ys (hk.keeps k') XC.init) (fun h' self k'=>PySem.W.bind_fn (hk.keeps k') self XC.fn)
 refine mk (Xb (F.run _ X.stack _ _ ⟨[Uk (s.heap.objs.size+1)],[]⟩ [Uk (s.heap.objs.size+1)] _ _ E (hr.make C [] []) (I2.env0.make C [] []) (hb _ [Uk (s.heap.objs.size+1)] I2.kIn hl) r2 hq) fun r s' hq'=>?_)
 cases r with
 | error e=>exact hx ZY σ _ _ e s' I2 hq'
 | ok fl =>
  cases fl with
  | ret u =>
   obtain⟨v,H',I3,rv,ev,q3⟩:=I2.after hq'
   subst ev
   exact⟨rv,⟨V.ref (s.heap.objs.size+1),H',I3,U,q3⟩⟩
  | next=>exact Vc hq'
  | brk=>exact Vc hq'
  | cont=>exact Vc hq'
def Throws (X:Cx)(W:Addr->Addr->Addr->Hp->Prop):Prop:=∀ (ZY:EQ) (σ:St) (H:Hp) (s:TV) (x C dx:Addr),Inv X ZY σ H s->H x=some (xO x C (some dx))->W x C dx H->X.xe (.ref x) s
def QF (K:Uw)(W:Addr->Addr->Addr->Hp->Prop)(te:TE):TS:=fun _ σ H=>te σ H fun v H1=>∃ (x C f dx:Addr) (n:Ut),v = .ref x/\H1 x=some (xO x C (some dx))/\Im K C f n/\W x C dx H1
theorem HX {W:Addr->Addr->Addr->Hp->Prop}(hc:X.calm=true)(he:PE X e te)(hw:Throws X W):PS X (.Raise (some e) none pos) (QF X.K W te):=by
 intro ZY s σ H D I h
 rw[arm_exec_Raise]
 refine TF (Xg ?_)
 have go:T7 (Ue X.prog X.w) X.A (VD e X.env) (fun v s1=>∃ x C f dx n H1,v=Uk x/\Inv X ZY σ H1 s1/\H1 x=some (xO x C (some dx))/\Im X.K C f n/\W x C dx H1) X.xe s:=thn (he ZY s σ H _ I h) fun u s1 ⟨v,H1,I1,r,x,C,f,dx,n,ev,hx,XC,hW⟩=>by
  subst ev
  exact⟨x,C,f,dx,n,H1,r,I1,hx,XC,hW⟩
 show T7 _ _ (raiseStmt X.env (some (do let v ← VD e X.env;YB pos;pure v)) none) _ _ _
 refine En (I.ok.hd hc) (TF (thn go fun v s1 ⟨x,C,f,dx,n,H1,ev,I1,hx,XC,hW⟩=>TF (Xg (TX ?_))))
 obtain⟨⟨t0,e0⟩,_⟩:=I1.hok x _ hx
 obtain⟨nm,q1,N,bs,bm,hdct,sn,sub,ab,col,dd,k0,k1,k2,k3,k5,lk,VE⟩:=XC.obj
 exact⟨x,t0,C,some dx,nm,q1,N,bs,bm,hdct,sn,sub,ab,col,dd,k0,k1,k2,k3,k5,_,ev,I1.kIn _ _ lk,VE.b,e0,hw ZY σ H1 s1 x C dx I1 hx hW⟩
end
structure Fly (B:Va)(l:Fk)(x C dx:Addr)(fl:Value)(h:Va):Prop where
 stay:B.StaysIn h
 bx:B.get? x=none
 frs:h.FunFrames B l
 tr:∃ vs T oT ts sl,h.get? x=some { cls:=.ref C,dict:=some dx,data:=.fields vs,slots:=sl }/\vs[1]? = some (.ref T)/\B.get? T=none/\T≠x/\h.get? T=some oT/\oT.data = .fields ts/\ts[3]? = some fl
structure Up (h h':Va):Prop where
 sl:h.UpToSlots h'
 th:∀ b o,h.get? b=some o->∃ o',h'.get? b=some o'
theorem Up.trans {h h1 h2:Va}(a:Up h h1)(b:Up h1 h2):Up h h2:=⟨a.sl.trans b.sl,fun c o e=>let ⟨o1,e1⟩:=a.th c o e;b.th c o1 e1⟩
section
variable {M:abE}{A:UW}{E:ET}{s:TV}{B:Va}{env:Zz}{outer:Fk}{L x C dx:Addr}{Q:Unit->TV->Prop}
theorem vK {vs:Array Value}{sl:Array (EW)}{head:Value}{hadNext:Bool}(hfr:A.frames=some (env::outer))(hl:s.heap.FunFrames B (env::outer))(hf:env.frame=some L)
  (ex:s.heap.get? x=some { cls:=.ref C,dict:=some dx,data:=.fields vs,slots:=sl }) (st:B.StaysIn s.heap) (bx:B.get? x=none) (sz:1 < vs.size)
  (h:∀ h',Fly B (env::outer) x C dx (Vh L) h'->Up s.heap h'->Q () { s with heap:=h' }) :
  T7 M A (do let a ← frameOf env;let pl ← entryPlaceOf L hadNext;let b ← EntryCells.newEntry head a .none (Vh L) .none pl;setField (.ref x) 1 b) Q E s:=by
 have nx:x ∉ (env::outer).filterMap (·.frame):=fun hm=>by
  obtain⟨_,o,ho,nf⟩:=hl.mem hm
  rw[ex] at ho
  cases ho
  exact nf vs U
 refine TF (wpAny_frameOf_fun hfr hl hf fun h1 s1=>TF (wpAny_entryPlaceOf fun pl hpl=>?_))
 unfold EntryCells.newEntry newFields
 refine TF (U4 ?_ (hpl.sizeOk5 _ _ _ _ _))
 have e1:h1.get? x=_:=(s1.2.1 x nx).trans ex
 have st1:B.StaysIn h1:=fun b o z=>(s1.2.1 b fun hm=>by rw[(hl.mem hm).1] at z;cases z).trans (st b o z)
 generalize eo:({ cls:=.type "traceback",dict:=none,data:=.fields ([head,.ref L,.none,Vh L,.none]++(if pl.isEmpty then Uy 6 Vr else pl)).toArray }:WL)=oT
 have dT:oT.data = .fields ([head,.ref L,.none,Vh L,.none]++(if pl.isEmpty then Uy 6 Vr else pl)).toArray:=by rw[← eo]
 have e2:=TQ oT e1
 refine V0 e2 U sz (h _ ?_ ?_)
 all_goals
  have hTx:h1.objs.size≠x:=Wc (Ua e1)
  have keep:∀ b o,b≠x->h1.get? b=some o->((h1.push oT).update x (Wi (·.setIfInBounds 1 (Uk h1.objs.size)))).get? b=some o:=fun b o hb z=>by
   rw[Uu _ _ (VM hb)]
   exact TQ _ z
  have nrec:∀ b o,s.heap.get? b=some o->(∀ vs,o.data≠.fields vs)->b≠x:=fun b o z nf q=>by
   rw[q,ex] at z
   cases z
   exact nf vs U
 ·refine⟨fun b o z=>keep b o (fun q=>by rw[q,bx] at z;cases z) (st1 b o z),bx,hl.of_keeps fun b o z nf=>?_,?_⟩
  ·obtain⟨sl',hs⟩:=s1.2.2 b o z
   exact⟨_,keep b _ (nrec b o z nf) hs,U⟩
  ·have e3:=UG (Wi (·.setIfInBounds 1 (Uk h1.objs.size))) e2 U
   have hT:((h1.push oT).update x (Wi (·.setIfInBounds 1 (Uk h1.objs.size)))).get? h1.objs.size=some oT:=by
    rw[Uu _ _ (VM hTx)]
    exact T9 h1 (by rw[← eo];rfl)
   refine⟨vs.setIfInBounds 1 (.ref h1.objs.size),h1.objs.size,oT,_,sl,e3,by simp [sz],st1.fresh,hTx,hT,dT,?_⟩
   rcases hpl with rfl | ⟨_,_,_,_,_,_,_,rfl⟩ <;> simp
 ·refine⟨fun b o z nf=>?_,fun b o z=>?_⟩
  ·obtain⟨sl',hs⟩:=s1.2.2 b o z
   exact⟨sl',keep b _ (nrec b o z nf) hs⟩
  ·by_cases hb:b=x
   ·subst hb
    exact⟨_,UG (Wi (·.setIfInBounds 1 (Uk h1.objs.size))) e2 U⟩
   ·obtain⟨sl',hs⟩:=s1.2.2 b o z
    exact⟨_,keep b _ hb hs⟩
theorem nD {fl:Value}{l:Fk}(F:Fly B l x C dx fl s.heap)(h:∀ h',Fly B l x C dx .none h'->Up s.heap h'->Q () { s with heap:=h' }):T7 M A (setFlight (.ref x) none) Q E s:=by
 obtain⟨st,bx,fr,vs,T,oT,ts,sl,ex,v1,bT,hTx,hT,dT,t3⟩:=F
 unfold setFlight
 refine TF (Vo ex U v1 ?_)
 rw[if_pos (show (Uk T != Vr)=true by simp)]
 have s3:3 < ts.size:=(Array.getElem?_eq_some_iff.mp t3).1
 refine V0 hT dT s3 (h _ ?_ ?_)
 all_goals
  have keep:∀ b o,b≠T->s.heap.get? b=some o->(s.heap.update T (Wi (·.setIfInBounds 3 ((none:EZ).elim Vr fun f=>Vh f)))).get? b=some o:=fun b o hb z=>(Uu _ _ (VM hb)).trans z
  have nrec:∀ b o,s.heap.get? b=some o->(∀ vs,o.data≠.fields vs)->b≠T:=fun b o z nf q=>by
   rw[q,hT] at z
   cases z
   exact nf ts dT
 ·refine⟨fun b o z=>keep b o (fun q=>by rw[q,bT] at z;cases z) (st b o z),bx,fr.of_keeps fun b o z nf=>⟨o,keep b o (nrec b o z nf) z,rfl⟩,vs,T,_,ts.setIfInBounds 3 .none,sl,keep x _ (VM hTx) ex,v1,bT,hTx,UG _ hT (Zg (X3 dT _)),X3 dT _,by simp [s3]⟩
 ·refine⟨fun b o z nf=>⟨o.slots,keep b o (nrec b o z nf) z⟩,fun b o z=>?_⟩
  by_cases hb:b=T
  ·subst hb
   exact⟨_,UG _ hT (Zg (X3 dT _))⟩
  ·exact⟨o,keep b o hb z⟩
theorem Fp {t:Addr}(hfr:A.frames=some (env::outer))(hl:s.heap.FunFrames B (env::outer))(hf:env.frame=some L)(ex:s.heap.get? x=some (mZ C t (some dx)))(st:B.StaysIn s.heap)(bx:B.get? x=none)
  (h:∀ h',Fly B (env::outer) x C dx .none h'->Up s.heap h'->Q () { s with heap:=h' }):T7 M A (leaving env (.ref x)) Q E s:=by
 unfold leaving ZS
 simp only[hf]
 refine TF (TF (Vo ex U (x:=.none) U ?_))
 rw[if_neg (by decide)]
 refine vK hfr hl hf ex st bx (by show 1 < 6;decide) fun h1 F1 u1=>?_
 exact nD (s:={ s with heap:=h1 }) F1 fun h2 F2 u2=>h h2 F2 (u1.trans u2)
theorem yR (hfr:A.frames=some (env::outer))(hf:env.frame=some L)(F:Fly B (env::outer) x C dx .none s.heap)
  (h:∀ h',Fly B (env::outer) x C dx (Vh L) h'->Up s.heap h'->Q () { s with heap:=h' }):T7 M A (ZS (.ref x) env) Q E s:=by
 obtain⟨st,bx,fr,vs,T,oT,ts,sl,ex,v1,bT,hTx,hT,dT,t3⟩:=F
 unfold ZS
 simp only[hf]
 refine TF (Vo ex U v1 ?_)
 rw[if_pos (show (Uk T != Vr)=true by simp)]
 refine TF (Vo hT dT t3 ?_)
 rw[if_neg (show ¬ ((Vr == Vh L)=true) by simp [Vh])]
 refine TF (V0 hT dT (Array.getElem?_eq_some_iff.mp t3).1 ?_)
 have keep:∀ b o,b≠T->s.heap.get? b=some o->(s.heap.update T (Wi (·.setIfInBounds 3 Vr))).get? b=some o:=fun b o hb z=>(Uu _ _ (VM hb)).trans z
 have nrec:∀ b o,s.heap.get? b=some o->(∀ vs,o.data≠.fields vs)->b≠T:=fun b o z nf q=>by
  rw[q,hT] at z
  cases z
  exact nf ts dT
 refine vK (s:={ s with heap:=s.heap.update T (Wi (·.setIfInBounds 3 Vr)) }) hfr (fr.of_keeps fun b o z nf=>⟨o,keep b o (nrec b o z nf) z,U⟩) hf (keep x _ (VM hTx) ex) (fun b o z=>keep b o (fun q=>by rw[q,bT] at z;cases z) (st b o z)) bx (Array.getElem?_eq_some_iff.mp v1).1 fun h1 F1 u1=>h h1 F1 ?_
 refine Up.trans ⟨fun b o z nf=>⟨o.slots,keep b o (nrec b o z nf) z⟩,fun b o z=>?_⟩ u1
 by_cases hb:b=T
 ·subst hb
  exact⟨_,UG _ hT (Zg (X3 dT _))⟩
 ·exact⟨o,keep b o hb z⟩
theorem yX (hfr:A.frames=some (env::outer))(hf:env.frame=some L)(F:Fly B (env::outer) x C dx .none s.heap)
  (h:∀ h',Fly B (env::outer) x C dx .none h'->Up s.heap h'->Q () { s with heap:=h' }):T7 M A (leaving env (.ref x)) Q E s:=by
 unfold leaving
 refine TF (yR hfr hf F fun h1 F1 u1=>?_)
 exact nD (s:={ s with heap:=h1 }) F1 fun h2 F2 u2=>h h2 F2 (u1.trans u2)
end
structure Lie (P:Uq)(w:U3)(outer:Fk)(H:Hp)(s:TV)(x C dx:Addr)(H':Hp)(B:Va)(s':TV):Prop where
 os:s'.os=s.os
 bare:aaf s'.gens
 fly:Fly B outer x C dx .none s'.heap
 un:Un (frs outer) [] H H' s.heap s'.heap
 hok:HOk P w H' s'.heap
 kb:∀ b o,s.heap.get? b=some o->H b=none->b ∉ frs outer->B.get? b=some o
 hb:∀ b u,H' b=some u->∃ o,s'.heap.get? b=some o/\B.get? b=some o
 xn:H' x=none
def XL (P:Uq)(w:U3):CXT:=fun outer H s E e s'=>∃ (x C dx:Addr) (H':Hp) (B:Va),e = .ref x/\Lie P w outer H s x C dx H' B s'/\E (.ref C) (some dx) H'
def off (H:Hp)(x:Addr):Hp:=fun b=>if b=x then none else H b
theorem off_ne {H:Hp}{x b:Addr}(h:b≠x):off H x b=H b:=if_neg h
theorem rR {H:Hp}{x b:Addr}{u:HO}(h:off H x b=some u):b≠x/\H b=some u:=by
 unfold off at h
 split at h
 ·cases h
 ·rename_i z
  exact⟨z,h⟩
theorem nH {P:Uq}{w:U3}{H H':Hp}{h h':Va}(k:HOk P w H h)(sub:∀ b u,H' b=some u->H b=some u)(ow:∀ b a,H b=some (.own a)->H' b=some (.own a))(tp:∀ b xs,H b=some (.tup xs)->H' b=some (.tup xs))(keep:∀ b u o,H' b=some u->h.get? b=some o->h'.get? b=some o):HOk P w H' h':=fun b u e =>
 (k b u (sub b u e)).stay (fun c o hc q=>by
  rcases hc with rfl | hc
  ·exact keep c u o e q
  ·exact keep c _ o (ow c b hc) q) (fun c q=>ow c b q) tp
theorem Hd {P:Uq}{w:U3}{H:Hp}{h:Va}{a:Addr}{u:HO}(x:cX P w H h a u):∃ o,h.get? a=some o:=by
 cases u with
 | lst xs=>obtain⟨_,_,_,_,e⟩:=x;exact⟨_,e⟩
 | tup xs=>obtain⟨_,_,_,ob,e,_⟩:=x;exact⟨_,e⟩
 | dK kvs=>obtain⟨_,_,_,_,ob,_,_,e,_⟩:=x;exact⟨_,e⟩
 | dT kvs=>obtain⟨_,_,_,_,ob,_,_,e,_⟩:=x;exact⟨_,e⟩
 | set S n=>obtain⟨ob,_,_,_,e,_⟩:=x;exact⟨_,e⟩
 | ins C dx fs=>obtain⟨_,_,_,e,_⟩:=x;exact⟨_,e⟩
 | own y=>exact x
 | xd fs=>obtain⟨_,⟨od,_,_,e,_⟩,_⟩:=x;exact⟨_,e⟩
 | rng lo hi=>obtain⟨_,_,_,e⟩:=x;exact⟨_,e⟩
 | frz ob u=>exact⟨_,x.1⟩
 | tbl ps=>exact⟨_,x⟩
 | met f y=>exact⟨_,x⟩
 | ext φ=>exact x.2.1
section
variable {P:Uq}{w:U3}{K:Uw}{mg:Ut->Option Value}{base:Va}{N:List Ut}{qual:Ut}{scope:Wo}{f:Addr}{cd:Value}{A:UW}{outer:List Zz}{s₀:TV}{H₀:Hp}{E:XK}
theorem cN:Throws (wA (XL P w) P w K mg base N qual scope f cd A outer s₀ H₀ E) fun x C dx H=>E (.ref C) (some dx) (off H x):=by
 intro ZY σ H s x C dx I hx hE
 obtain⟨⟨t,ex⟩,_⟩:=I.hok x _ hx
 have stk:=I.stack
 have fre:=I.sG
 have xs:x ∉ frs (envOfC qual scope s₀.heap.objs.size f cd::outer):=fun z=>by rw[fre x z] at hx;cases hx
 have hin:∀ env∈(envOfC qual scope s₀.heap.objs.size f cd::outer),∀ b,env.frame=some b->b∈x::frs (envOfC qual scope s₀.heap.objs.size f cd::outer):=fun env he b hb=>Ug _ (List.mem_filterMap.mpr ⟨env,he,hb⟩)
 have F:=PySem.W.funFrames_hide stk hin
 show T7 (Ue P w) _ (leaving _ (.ref x)) _ _ s
 refine Fp (B:=abI s.heap (x::frs (envOfC qual scope s₀.heap.objs.size f cd::outer))) (outer:=outer) (L:=s₀.heap.objs.size) I.ok.frames F U ex (fun b o e=>PySem.W.of_hideAll _ e) (PySem.W.hideAll_none _ Uc) fun h' F' u'=>?_
 have inB:∀ b o,s.heap.get? b=some o->b≠x->b ∉ frs (envOfC qual scope s₀.heap.objs.size f cd::outer)->(abI s.heap (x::frs (envOfC qual scope s₀.heap.objs.size f cd::outer))).get? b=some o:=fun b o e h1 h2=>PySem.W.hideAll_get _ e fun z=>(List.mem_cons.mp z).elim h1 h2
 have tk:∀ b u,H b=some u->b ∉ frs (envOfC qual scope s₀.heap.objs.size f cd::outer):=fun b u e z=>by rw[fre b z] at e;cases e
 have old:∀ b o,s₀.heap.get? b=some o->H₀ b=none->b ∉ frs outer->s.heap.get? b=some o/\H b=none/\b ∉ frs (envOfC qual scope s₀.heap.objs.size f cd::outer):=fun b o e n hb=>by
  refine⟨I.base.keep b o e n hb (fun z=>nomatch z),I.base.free b o e n (fun z=>nomatch z),fun z=>?_⟩
  rcases List.mem_cons.mp (I.rm b z) with z | z
  ·have:=T4 (Ua e) I.ok.above
   rw[z] at this
   exact Vb _ this
  ·exact hb z
 have nx:∀ b u,H b=some u->u≠xO x C (some dx)->b≠x:=fun b u e ne z=>by
  subst z
  rw[hx] at e
  exact ne (U5 e).symm
 refine⟨x,C,dx,off H x,_,U,⟨I.os,I.bare,⟨F'.stay,F'.bx,F'.frs.2.2,F'.tr⟩,⟨fun b o e n hb _=>?_,fun b o e n hb _=>?_,fun b o e n _=>?_,fun b o e _=>?_,fun b xs' e=>?_,fun b o u e=>?_,fun b ps e=>?_⟩,?_,fun b o e n hb=>?_,fun b u e=>?_,if_pos U⟩,hE⟩
 ·obtain⟨e1,e2,e3⟩:=old b o e n hb
  exact F'.stay b o (inB b o e1 (fun z=>by rw[z,hx] at e2;cases e2) e3)
 ·obtain⟨sl,e1⟩:=I.base.slot b o e n hb (fun z=>nomatch z)
  obtain⟨_,o',ho',nf⟩:=I.ok.qT.mem hb
  have z:some o=some o':=e.symm.trans ho'
  cases z
  obtain⟨sl',e2⟩:=u'.sl b _ e1 nf
  exact⟨sl',e2⟩
 ·have z:=I.base.free b o e n (fun z=>nomatch z)
  unfold off
  split
  ·rfl
  ·exact z
 ·obtain⟨o1,e1⟩:=I.base.there b o e (fun z=>nomatch z)
  exact u'.th b o1 e1
 ·have z:=I.base.tups b xs' e
  rw[off_ne (nx b _ z (fun q=>nomatch q))]
  exact z
 ·have z:=I.base.frzs b o u e
  rw[off_ne (nx b _ z (fun q=>nomatch q))]
  exact z
 ·obtain⟨more,z⟩:=I.base.tbls b ps e
  exact⟨more,by rw[off_ne (nx b _ z (fun q=>nomatch q))];exact z⟩
 ·refine nH I.hok (fun b u e=>(rR e).2) (fun b a e=>by rw[off_ne (nx b _ e (fun q=>nomatch q))];exact e) (fun b xs' e=>by rw[off_ne (nx b _ e (fun q=>nomatch q))];exact e) fun b u o e q=>?_
  obtain⟨h1,h2⟩:=rR e
  exact F'.stay b o (inB b o q h1 (tk b u h2))
 ·obtain⟨e1,e2,e3⟩:=old b o e n hb
  exact inB b o e1 (fun z=>by rw[z,hx] at e2;cases e2) e3
 ·obtain⟨h1,h2⟩:=rR e
  obtain⟨o,e1⟩:=Hd (I.hok b u h2)
  have e2:=inB b o e1 h1 (tk b u h2)
  exact⟨o,F'.stay b o e2,e2⟩
end
section
variable {P:Uq}{w:U3}{K:Uw}{mg:Ut->Option Value}{base:Va}{N:List Ut}{qual:Ut}{scope:Wo}{f:Addr}{cd:Value}{A:UW}{outer:List Zz}{s₀:TV}{H₀:Hp}{E:XK}
theorem dh:Passes (XL P w) (wA (XL P w) P w K mg base N qual scope f cd A outer s₀ H₀ E) E:=by
 intro ZY σ H s e s' I hl
 obtain⟨x,C,dx,H',B,rfl,Li,hE⟩:=hl
 show T7 (Ue P w) _ (leaving _ (.ref x)) _ _ s'
 refine yX (outer:=outer) (L:=s₀.heap.objs.size) I.ok.frames U Li.fly fun h' F' u'=>?_
 have old:∀ b o,s₀.heap.get? b=some o->H₀ b=none->b ∉ frs outer->s.heap.get? b=some o/\H b=none/\b ∉ frs (envOfC qual scope s₀.heap.objs.size f cd::outer):=fun b o e n hb=>by
  refine⟨I.base.keep b o e n hb (fun z=>nomatch z),I.base.free b o e n (fun z=>nomatch z),fun z=>?_⟩
  rcases List.mem_cons.mp (I.rm b z) with z | z
  ·have:=T4 (Ua e) I.ok.above
   rw[z] at this
   exact Vb _ this
  ·exact hb z
 have inS:∀ b,b∈frs outer->b∈frs (envOfC qual scope s₀.heap.objs.size f cd::outer):=fun b hb=>by
  obtain⟨en,h1,h2⟩:=List.mem_filterMap.mp hb
  exact List.mem_filterMap.mpr ⟨en,Ug _ h1,h2⟩
 refine⟨x,C,dx,H',B,U,⟨Li.os.trans I.os,Li.bare,⟨F'.stay,F'.bx,F'.frs.2.2,F'.tr⟩,⟨fun b o e n hb _=>?_,fun b o e n hb _=>?_,fun b o e n _=>?_,fun b o e _=>?_,fun b xs' e=>Li.un.tups b xs' (I.base.tups b xs' e),fun b o u e=>Li.un.frzs b o u (I.base.frzs b o u e),fun b ps e=>?_⟩,?_,fun b o e n hb=>?_,fun b u e=>?_,Li.xn⟩,hE⟩
 ·obtain⟨e1,e2,e3⟩:=old b o e n hb
  exact F'.stay b o (Li.kb b o e1 e2 e3)
 ·obtain⟨sl,e1⟩:=I.base.slot b o e n hb (fun z=>nomatch z)
  have n1:=I.base.free b o e n (fun z=>nomatch z)
  obtain⟨_,o',ho',nf⟩:=I.ok.qT.mem hb
  have z:some o=some o':=e.symm.trans ho'
  cases z
  obtain⟨sl1,e2⟩:=Li.un.slot b _ e1 n1 (inS b hb) (fun z=>nomatch z)
  obtain⟨sl2,e3⟩:=u'.sl b _ e2 nf
  exact⟨sl2,e3⟩
 ·have n1:=I.base.free b o e n (fun z=>nomatch z)
  obtain⟨o1,e1⟩:=I.base.there b o e (fun z=>nomatch z)
  exact Li.un.free b o1 e1 n1 (fun z=>nomatch z)
 ·obtain⟨o1,e1⟩:=I.base.there b o e (fun z=>nomatch z)
  obtain⟨o2,e2⟩:=Li.un.there b o1 e1 (fun z=>nomatch z)
  exact u'.th b o2 e2
 ·obtain⟨m1,z⟩:=I.base.tbls b ps e
  obtain⟨m2,z2⟩:=Li.un.tbls b _ z
  exact⟨m1++m2,by rw[z2,Z7]⟩
 ·refine nH Li.hok (fun _ _ e=>e) (fun _ _ e=>e) (fun _ _ e=>e) fun b u o e q=>?_
  obtain⟨o',e1,e2⟩:=Li.hb b u e
  rw[e1] at q
  cases q
  exact F'.stay b _ e2
 ·obtain⟨e1,e2,e3⟩:=old b o e n hb
  exact Li.kb b o e1 e2 e3
 ·obtain⟨o',e1,e2⟩:=Li.hb b u e
  exact⟨o',F'.stay b _ e2,e2⟩
end
theorem Lie.on {P:Uq}{w:U3}{l:Fk}{H H':Hp}{s s':TV}{x C dx:Addr}{B B0 h':Va}(Li:Lie P w l H s x C dx H' B s')(F':Fly B l x C dx .none h')(u':Up s'.heap h')(ff:s.heap.FunFrames B0 l) :
  Lie P w l H s x C dx H' B { s' with heap:=h' }:=by
 refine⟨Li.os,Li.bare,F',⟨fun b o e n hb _=>F'.stay b o (Li.kb b o e n hb),fun b o e n hb _=>?_,fun b o e n _=>Li.un.free b o e n (fun z=>nomatch z),fun b o e _=>?_,Li.un.tups,Li.un.frzs,Li.un.tbls⟩,?_,Li.kb,fun b u e=>?_,Li.xn⟩
 ·obtain⟨sl,e2⟩:=Li.un.slot b o e n hb (fun z=>nomatch z)
  obtain⟨_,o',ho',nf⟩:=ff.mem hb
  have z:some o=some o':=e.symm.trans ho'
  cases z
  obtain⟨sl2,e3⟩:=u'.sl b _ e2 nf
  exact⟨sl2,e3⟩
 ·obtain⟨o2,e2⟩:=Li.un.there b o e (fun z=>nomatch z)
  exact u'.th b o2 e2
 ·refine nH Li.hok (fun _ _ e=>e) (fun _ _ e=>e) (fun _ _ e=>e) fun b u o e q=>?_
  obtain⟨o',e1,e2⟩:=Li.hb b u e
  rw[e1] at q
  cases q
  exact F'.stay b _ e2
 ·obtain⟨o',e1,e2⟩:=Li.hb b u e
  exact⟨o',F'.stay b _ e2,e2⟩
def cO (x C dx:Addr):HO:=.ext fun h=>∃ vs sl,h.get? x=some { cls:=.ref C,dict:=some dx,data:=.fields vs,slots:=sl }
theorem Rp {P:Uq}{w:U3}{H:Hp}{h:Va}{x C dx:Addr}{vs:Array Value}{sl:Array (EW)}(e:h.get? x=some { cls:=.ref C,dict:=some dx,data:=.fields vs,slots:=sl }):cX P w H h x (cO x C dx) :=
 ⟨⟨vs,sl,e⟩,⟨_,e⟩,fun h1 h2 ⟨vs',sl',e'⟩ k=>⟨vs',sl',k _ e'⟩⟩
abbrev Cx.marked (X:Cx)(x:Addr):Cx:={ X with A:=X.A.mark (some (.ref x)),calm:=false,xe:=fun _ _=>False }
theorem Cx.Ok.marked {X:Cx}(ok:X.Ok)(x:Addr):(X.marked x).Ok :=
 ⟨ok.mod,ok.kind,ok.glob,ok.blt,ok.above,ok.inj,ok.has,ok.cab,(fun z=>nomatch z),ok.frames,ok.stk,ok.exf,ok.bs,ok.bsz,ok.noex,ok.exfs,ok.qT,ok.frf⟩
theorem Cx.Ok.unmarked {X:Cx}{x:Addr}(hd:X.calm=true->X.A.handled=none)(ok:(X.marked x).Ok):X.Ok :=
 ⟨ok.mod,ok.kind,ok.glob,ok.blt,ok.above,ok.inj,ok.has,ok.cab,hd,ok.frames,ok.stk,ok.exf,ok.bs,ok.bsz,ok.noex,ok.exfs,ok.qT,ok.frf⟩
section
variable {X:Cx}{ZY:EQ}{σ:St}{H H':Hp}{s s':TV}{x C dx:Addr}{B:Va}
theorem Inv.marked (I:Inv X ZY σ H s)(x:Addr):Inv (X.marked x) ZY σ H s:=⟨I.ok.marked x,I.os,I.bare,I.base,I.loc,I.cell,I.free,I.freeC,I.pin,I.hok,I.len⟩
theorem Inv.unmarked (I:Inv (X.marked x) ZY σ H s)(hd:X.calm=true->X.A.handled=none):Inv X ZY σ H s:=⟨I.ok.unmarked hd,I.os,I.bare,I.base,I.loc,I.cell,I.free,I.freeC,I.pin,I.hok,I.len⟩
theorem Lie.back (I:Inv X ZY σ H s)(Li:Lie X.prog X.w X.stack H s x C dx H' B s'):Inv X ZY σ (upd H' x (cO x C dx)) s':=by
 have J:=I.call' (s':=s') (ch:=[]) Li.os Li.un Li.hok Li.bare (fun b z=>nomatch z)
 obtain⟨vs,T,oT,ts,sl,ex,_⟩:=Li.fly.tr
 have xs:x ∉ frs X.stack:=fun z=>by
  obtain⟨_,o,ho,nf⟩:=Li.fly.frs.mem z
  rw[ex] at ho
  cases ho
  exact nf vs U
 have xl:x≠X.env.locals:=fun z=>by
  obtain⟨m,⟨o,es,ep,e,d,_⟩,_⟩:=J.loc
  rw[← z,ex] at e
  cases e
  cases d
 have out:∀ b o,s.heap.get? b=some o->H b=none->b≠x:=fun b o e n z=>by
  subst z
  have:=Li.kb b o e n xs
  rw[Li.fly.bx] at this
  cases this
 have hne:∀ b u,H' b=some u->b≠x:=fun b u e z=>by
  rw[z,Li.xn] at e
  cases e
 refine⟨J.ok,J.os,J.bare,⟨J.base.keep,J.base.slot,fun b o e n he=>?_,J.base.there,fun b xs' e=>?_,fun b o u e=>?_,fun b ps e=>?_⟩,J.loc,J.cell,?_,fun y c e=>?_,fun p hp=>?_,?_,J.len⟩
 ·have n1:=I.base.free b o e n he
  obtain⟨o1,e1⟩:=I.base.there b o e he
  rw[aD (out b o1 e1 n1)]
  exact J.base.free b o e n he
 ·have z:=J.base.tups b xs' e
  rw[aD (hne b _ z)]
  exact z
 ·have z:=J.base.frzs b o u e
  rw[aD (hne b _ z)]
  exact z
 ·obtain⟨m,z⟩:=J.base.tbls b ps e
  exact⟨m,by rw[aD (hne b _ z)];exact z⟩
 ·rw[aD (VM xl)]
  exact J.free
 ·obtain⟨v,o,ho,hd⟩:=J.cell y c e
  have:c≠x:=fun z=>by
   rw[z,ex] at ho
   cases ho
   cases hd
  rw[aD this]
  exact J.freeC y c e
 ·obtain⟨e1,e2,e3⟩:=J.pin p hp
  obtain⟨i1,i2,i3⟩:=I.pin p hp
  refine⟨e1,?_,e3⟩
  rw[aD (out _ _ i1 i2)]
  exact e2
 ·intro b u e
  by_cases hb:b=x
  ·subst hb
   rw[aa] at e
   cases e
   exact Rp ex
  ·rw[aD hb] at e
   refine (J.hok b u e).stay (fun _ _ _ q=>q) (fun c q=>?_) fun c xs' q=>?_
   ·rw[aD (hne c _ q)]
    exact q
   ·rw[aD (hne c _ q)]
    exact q
end
structure XRd (K:Ud)(C G:Addr)(f:Ut):Prop where
 obj:∃ nm q N bs bm hdct sn sub ab col dd k0 k1 k2 k3 k5 id,K.lookup C=some (XS nm q C N bs bm hdct sn sub ab col dd k0 k1 k2 k3 k5 id)/\(Uk C::bm).contains (.ref G)=true
 top:∃ nm q N bs bm hdct sn sub ab col dd k0 k1 k2 k3 k5 id,K.lookup G=some (XS nm q G N bs bm hdct sn sub ab col dd k0 k1 k2 k3 k5 id)/\bm.contains (.type "BaseException")=true
 ga:Vw K (.ref C) "__getattribute__" = some (some (.builtin "BaseException.__getattribute__"))
 gh:Vw K (.ref C) "__getattr__" = some none
 up:∃ cd,PySem.W.clsIn K C=some cd/\qI cd.mro=true
 hd:Yd K C=true
 no:Vw K (.ref C) f=some none
section
variable {M:abE}{A:UW}{E:ET}{K:Uw}{s:TV}{C G x dx:Addr}{f:Ut}{vs:Array Value}{sl:Array (EW)}
theorem Di {Q:Bool->TV->Prop}(X:K.In s.heap)(R:XRd K C G f)(he:s.heap.get? x=some { cls:=.ref C,dict:=some dx,data:=.fields vs,slots:=sl })(hq:Q true s):T7 M A (excMatches (.ref x) (.ref G)) Q E s:=by
 obtain⟨n1,q1,N1,bs1,bm1,hd1,sn1,sub1,ab1,col1,dd1,a0,a1,a2,a3,a5,id1,l1,c1⟩:=R.obj
 obtain⟨n2,q2,N2,bs2,bm2,hd2,sn2,sub2,ab2,col2,dd2,b0,b1,b2,b3,b5,id2,l2,c2⟩:=R.top
 have h1:=X _ _ l1
 have h2:=X _ _ l2
 have cB:(Uk G::bm2).contains (.type "BaseException")=true:=by rw[Wn,c2,X5]
 have nt:=tc_notTuple
 obtain⟨hp,g,d,tk,os⟩:=s
 unfold excMatches
 repeat (first | with_reducible refine V2 he ?_ | with_reducible refine V2 h2 ?_ | (with_reducible refine W8 h2 ?_;rw[cB]) | (with_reducible refine W8 h1 ?_;rw[c1]) | wp_step)
 exact hq
end
theorem vI:∀ {l:E4},qI l=true->l.contains (.type "BaseException")=true
 | [],h=>by cases h
 | a::r,h=>by
  rcases jk h with⟨c,rfl,h'⟩ | e
  ·rw[Wn,vI h',X5]
  ·rw[e]
   rfl
section
variable {prog:Uq}{w:U3}{A:UW}{E:ET}{K:Uw}{s:TV}{C G x:Addr}{ox:WL}{od:Option WL}{f:Ut}{expr:Bool}{v:Value}
theorem Lz {Q:ET}(X:K.In s.heap)(R:XRd K C G f)(I:W.InstAt s.heap x ox C od)(hf:W.findObj K C od f=some (.value v))(hh:W.handedIn v=true)(h:Q v { s with toks:=s.toks+1 }) :
  T7 (Ue prog w) A (getAttr (.ref x) f expr) Q E s:=by
 obtain⟨cd,hc,hu⟩:=R.up
 have ne:cd.mro.isEmpty=false:=by cases q:cd.mro with | nil=>rw[q] at hu;cases hu | cons _ _=>rfl
 have sub:aa4 (Ue prog w) s.heap (isInstance (.ref x) (.type "BaseException")) true:=I.type.andThen (PySem.W.looks_mroIn X (by unfold PySem.W.mroIn;rw[hc,Option.bind_some,if_neg (by rw[ne];decide),vI hu]))
 have L0:=I.type (M:=Ue prog w)
 have L1:=Ys (M:=Ue prog w) X R.ga
 have L2:=Ys (M:=Ue prog w) X R.gh
 have L3:=PySem.W.looks_find (M:=Ue prog w) X I hf
 obtain⟨hp,g,d,t,os⟩:=s
 unfold getAttr getAttrBy
 refine TF (wpAny_mkText (VL (TF (L0.at (TF (L1.at ?_))))))
 show T7 _ _ (if (onTheHeap (Uk C) && (aa3 "BaseException.__getattribute__" == aa3 "object.__getattribute__"))=true then _ else getAttrByItsOwn (.ref x) (.str f t) (.ref C) (.builtin "BaseException.__getattribute__") true expr) _ _ _
 have nb:(aa3 "BaseException.__getattribute__" == aa3 "object.__getattribute__")=false:=by decide+kernel
 rw[nb,Yy,if_neg T5]
 unfold getAttrByItsOwn
 refine TF (m:=hookBefore (.ref C)) (show T7 _ _ (ZX (.ref C) "__getattr__") _ _ _ from L2.at ?_)
 refine TF (Xu (VL ?_))
 have ec:callGetattribute (.ref x) (.str f t) (.builtin "BaseException.__getattribute__") expr=boundAndCalled (.builtin "BaseException.__getattribute__") (.ref x) (.str f t):=by
  unfold callGetattribute
  rw[if_neg (by cases expr <;> decide)]
 rw[ec]
 unfold boundAndCalled
 rw[PySem.F.attr_ValueError.ga.bind (.ref x)]
 refine TF (TX (Yi (Yl PySem.F.attr_ValueError.ga.plain PySem.F.entry_bexc_ga (@PySem.W.check_slot (Ue prog w) _ _ ⟨hp,g,d,t+1,os⟩ "BaseException.__getattribute__" "BaseException" "__getattribute__" (.ref x) [.str f t] [] _ (by decide+kernel) (by decide+kernel) sub (PySem.F.args_bexc_ga _ _) ?_))))
 unfold XD.«object.__getattribute__»
 refine TF (TX (TF (TX (TF (L0.at (TF (L3.at ?_)))))))
 refine TX ?_
 show T7 _ _ (handedOut v) _ _ _
 rw[PySem.W.handedOut_of hh]
 exact TX h
end
section
variable {X:Cx}{e:Expr}{f:Ut}{pos:Yg}{ta:TE}
def NP (K:Uw)(ta:TE)(f:Ut):TE:=fun σ H Q=>ta σ H fun x H1=>∃ a C G dx fs v,x = .ref a/\H1 a=some (cO a C dx)/\H1 dx=some (.xd fs)/\XRd K C G f/\fs.lookup f=some v/\Q v H1
theorem K3 (he:PE X e ta)(hb:YS e f X.env (VD e X.env)=VD e X.env):PE X (.Attribute e f pos) (NP X.K ta f):=by
 intro ZY s σ H Q I h
 refine Ei hb (thn (he ZY s σ H _ I h) fun u s1 ⟨x,H1,I1,rx,a,C,G,dx,fs,v,ex,ea,ed,R,l,q⟩=>?_)
 subst ex
 obtain rfl:u=Uk a:=rx
 obtain⟨⟨vs,sl,e0⟩,_⟩:=I1.hok a _ ea
 obtain⟨mA,N,r⟩:=I1.hok dx _ ed
 obtain⟨u,hu,ru⟩:=rB.some_of (v:=v) (o:=mA f) (by rw[← l];exact r f)
 obtain⟨od,ho,hl⟩:=vZ N
 have J:PySem.W.InstAt s1.heap a { cls:=.ref C,dict:=some dx,data:=.fields vs,slots:=sl } C (some od):=⟨e0,U,U,ho⟩
 exact Lz I1.kIn R J (PySem.W.findObj_own R.hd R.no U (by rw[hl,hu])) (vR ru) ⟨v,H1,I1.tok _,ru,q⟩
end
theorem Inv.forget {X:Cx}{ZY:EQ}{σ:St}{H:Hp}{s:TV}{h':Va}{m':Ut->EW}{tk:Nat}(I:Inv X ZY σ H s)(hn:h'.Ns X.env.locals m')(hs:Wl X.env.locals s.heap h') :
  Inv X ZY (Uy X.N.length none) H { s with heap:=h',toks:=tk }:=by
 have old:∀ b o,X.s₀.heap.get? b=some o->b≠X.env.locals:=fun b o e=>Um (T4 (Ua e) I.ok.above)
 refine⟨I.ok,I.os,I.bare,⟨fun b o e n hb hx=>(hs.2 b (old b o e)).trans (I.base.keep b o e n hb hx),fun b o e n hb hx=>?_,I.base.free,fun b o e hx=>?_,I.base.tups,I.base.frzs,I.base.tbls⟩,⟨m',hn,fun j y v e1 e2=>?_⟩,fun y c e=>?_,I.free,I.freeC,fun p hp=>?_,fun b ob e=>?_,by simp⟩
 ·obtain⟨sl,e1⟩:=I.base.slot b o e n hb hx
  exact⟨sl,(hs.2 b (old b o e)).trans e1⟩
 ·obtain⟨o',e1⟩:=I.base.there b o e hx
  exact⟨o',(hs.2 b (old b o e)).trans e1⟩
 ·rw[XN] at e2
  split at e2 <;> cases e2
 ·obtain⟨v,z⟩:=I.cell y c e
  exact⟨v,z.sameBut hs (I.cne y c e)⟩
 ·obtain⟨e1,e2,e3,e4⟩:=I.pin p hp
  exact⟨(hs.2 _ e3).trans e1,e2,e3,e4⟩
 ·refine (I.hok b ob e).stay (fun c o hc q=>(hs.2 c ?_).trans q) (fun _ q=>q) fun _ _ q=>q
  rintro rfl
  rcases hc with rfl | hc
  ·rw[I.free] at e;cases e
  ·rw[I.free] at hc;cases hc
section
variable {X:Cx}{ZY:EQ}{σ:St}{H H':Hp}{s s':TV}{x C G dx:Addr}{B:Va}{c n f:Ut}{p p1 p2 p3 p4 pos:Yg}{k:Nat}{i:Nat}{D:Ends}{fs:List (Ut × V)}{v:V}
theorem FW (I:Inv X ZY σ H s)(Li:Lie X.prog X.w X.stack H s x C dx H' B s')(stk:X.stack=X.env::X.outer/\X.env.frame=some X.env.locals)(R:XRd X.K C G f)(hg:Gl X c)(hm:X.mg c=some (.ref G))(hN:X.N.Nodup)(hi:X.N[i]? = some n)
  (hl:X.env.scope.names.lookup n=some .local) (ed:H' dx=some (.xd fs)) (l:fs.lookup f=some v) (q:∀ (u:HO) (a:Addr),upd H' x u a=none->D.rt (.ref a) (upd (upd H' x u) a (.tup [v])))
  (hd:(c == ("__debug__" : Ut))=false:=by decide) (hd1:(n == ("__debug__" : Ut))=false:=by decide) (hd2:(n == ("__classdict__" : Ut))=false:=by decide) :
  T7 (Ue X.prog X.w) X.A (ZS (.ref x) X.env) (fun _ s2=>T7 (Ue X.prog X.w) X.A (setFlight (.ref x) none) (fun _ s3 =>
   T7 (Ue X.prog X.w) X.A (handleBy (.ref x) X.env [.ExceptHandler (some (.Name c p)) (some n) [.Return (some (.Tuple [.Attribute (.Name n p1) f p2] k p3)) p4] pos]) (SP X ZY D) X.xe s3) X.xe s2) X.xe s':=by
 have fr:X.A.frames=some (X.env::X.outer):=by rw[I.ok.frames,stk.1]
 have fl0:Fly B (X.env::X.outer) x C dx .none s'.heap:=stk.1▸Li.fly
 refine yR fr stk.2 fl0 fun h1 F1 u1=>?_
 refine nD (s:={ s' with heap:=h1 }) F1 fun h2 F2 u2=>?_
 have fl2:Fly B X.stack x C dx .none h2:=stk.1.symm▸F2
 have L2:=Li.on fl2 (u1.trans u2) I.stack
 have I2:=(L2.back I).marked x
 obtain⟨vs,T,oT,ts,sl,ex2,_⟩:=F2.tr
 refine wpAny_handleBy_cons (codeAny_handlers_test ?_) (by intro q;cases q)
 refine iT I2 hg hm ?_ hd
 refine Di I2.kIn R ex2 ?_
 rw[if_pos U]
 refine codeAny_handlers_suite_as ?_
 refine nD (s:={ s' with heap:=h2 }) F2 fun h3 F3 u3=>?_
 have fl3:Fly B X.stack x C dx .none h3:=stk.1.symm▸F3
 have L3:=Li.on fl3 ((u1.trans u2).trans u3) I.stack
 have I3:=(L3.back I).marked x
 refine sH (X:=X.marked x) (v:=.ref x) I3 hN hi (.inl hl) U (fun s4 I4=>?_) (.inr hl)
 have hiσ:i < σ.length:=by
  have:=I.len
  rw[this]
  exact (List.getElem?_eq_some_iff.mp hi).1
 have dxx:dx≠x:=fun z=>by
  rw[z,Li.xn] at ed
  cases ed
 have P:PSs (X.marked x) [.Return (some (.Tuple [.Attribute (.Name n p1) f p2] k p3)) p4] (QS (Sx (ql (NP X.K (Jp i) f) BK))) :=
  aC (Dh (bc (aj (K3 (J7 (X:=X.marked x) hi (.inl hl) hd1 hd2) U) dM)))
 refine Vd (P ZY s4 (σ.set i (some (.ref x))) _ { nx:=fun _ _=>False,rt:=D.rt } I4 ?_) (fun fl s5 h5=>?_) fun _ _ z=>z.elim
 ·refine⟨.ref x,Zd hiσ,⟨x,C,G,dx,fs,v,U,aa,(aD dxx).trans ed,R,l,?_⟩⟩
  exact⟨by rw[abB];show 1<=_;lia,fun a ha=>q _ a ha⟩
 ·cases fl with
  | next=>obtain⟨_,_,_,z⟩:=h5;exact Vc z
  | brk=>obtain⟨_,_,_,z⟩:=h5;exact Vc z
  | cont=>obtain⟨_,_,_,z⟩:=h5;exact Vc z
  | ret u =>
   obtain⟨v5,σ5,H5,I5,r5,q5⟩:=h5
   have J5:Inv X ZY σ5 H5 s5:=I5.unmarked I.ok.hd
   obtain⟨m,hn,_⟩:=id J5.loc
   exact wpAny_nameGoes hl hn (by rw[I.ok.kind];rfl) fun h6 m6 hn6 hs6=>⟨v5,_,H5,J5.forget hn6 hs6,r5,q5⟩
end
abbrev Cx.held (X:Cx)(pn:EQ)(E:ET):Cx:={ X with pn:=pn,xe:=E }
section
variable {X:Cx}{ZY ps qs:EQ}{σ:St}{H:Hp}{s:TV}{E:ET}
theorem Inv.hold (I:Inv X ZY σ H s):Inv (X.held (X.pn++ZY) E) [] σ H s :=
 ⟨⟨I.ok.mod,I.ok.kind,I.ok.glob,I.ok.blt,I.ok.above,I.ok.inj,I.ok.has,I.ok.cab,I.ok.hd,I.ok.frames,I.ok.stk,I.ok.exf,I.ok.bs,I.ok.bsz,I.ok.noex,I.ok.exfs,I.ok.qT,I.ok.frf⟩,I.os,I.bare,I.base,I.loc,I.cell,I.free,I.freeC,fun p hp=>I.pin p (by simpa using hp),I.hok,I.len⟩
theorem Inv.pL (I:Inv (X.held (X.pn++ZY) E) qs σ H s):Inv X ZY σ H s :=
 ⟨⟨I.ok.mod,I.ok.kind,I.ok.glob,I.ok.blt,I.ok.above,I.ok.inj,I.ok.has,I.ok.cab,I.ok.hd,I.ok.frames,I.ok.stk,I.ok.exf,I.ok.bs,I.ok.bsz,I.ok.noex,I.ok.exfs,I.ok.qT,I.ok.frf⟩,I.os,I.bare,I.base,I.loc,I.cell,I.free,I.freeC,fun p hp=>I.pin p (Zw _ hp),I.hok,I.len⟩
theorem SP.pL {D:Ends}{f:Flow}(h:SP (X.held (X.pn++ZY) E) qs D f s):SP X ZY D f s:=by
 cases f with
 | next=>obtain⟨a,b,I,q⟩:=h;exact⟨a,b,I.pL,q⟩
 | brk=>obtain⟨a,b,I,q⟩:=h;exact⟨a,b,I.pL,q⟩
 | cont=>obtain⟨a,b,I,q⟩:=h;exact⟨a,b,I.pL,q⟩
 | ret u=>obtain⟨v,a,b,I,r,q⟩:=h;exact⟨v,a,b,I.pL,r,q⟩
end
def XW (K:Uw)(G:Addr)(f:Ut)(R:VK):XK:=fun Cv dx' H=>∃ C dx fs v,Cv = .ref C/\dx'=some dx/\XRd K C G f/\H dx=some (.xd fs)/\fs.lookup f=some v/\∀ (x:Addr) (u:HO) (a:Addr),H x=none->upd H x u a=none->R (.ref a) (upd (upd H x u) a (.tup [v]))
def Tn (K:Uw)(G:Addr)(f:Ut)(t:XK->TS):TS:=fun D σ H=>t (XW K G f D.rt) D σ H
section
variable {X:Cx}{G:Addr}{c n f:Ut}{p p1 p2 p3 p4 pos pos':Yg}{k:Nat}{body:E8}{t:XK->TS}
theorem Oj (i:Nat)(stk:X.stack=X.env::X.outer/\X.env.frame=some X.env.locals)(hg:Gl X c)(hm:X.mg c=some (.ref G))(hN:X.N.Nodup)(hi:X.N[i]? = some n)(hl:X.env.scope.names.lookup n=some .local)
  (hb:∀ (pn:EQ) (E:ET) (W:XK),Passes (XL X.prog X.w) (X.held pn E) W->PSs (X.held pn E) body (t W))
  (hd:(c == ("__debug__" : Ut))=false:=by decide) (hd1:(n == ("__debug__" : Ut))=false:=by decide) (hd2:(n == ("__classdict__" : Ut))=false:=by decide) :
  PS X (.Try body [.ExceptHandler (some (.Name c p)) (some n) [.Return (some (.Tuple [.Attribute (.Name n p1) f p2] k p3)) p4] pos] [] [] pos') (Tn X.K G f t):=by
 intro ZY s σ H D I h
 refine wpAny_Try_except ?_
 let E:ET:=fun e s'=>∃ (ZY':EQ) (σ':St) (H1:Hp) (s1:TV),Inv X ZY σ' H1 s1/\XL X.prog X.w X.stack H1 s1 (XW X.K G f D.rt) e s'
 have P:Passes (XL X.prog X.w) (X.held (X.pn++ZY) E) (XW X.K G f D.rt):=fun ZY' σ' H1 s1 e s' J q=>⟨ZY',σ',H1,s1,J.pL,q⟩
 refine Vd (hb _ E _ P [] s σ H D I.hold h) (fun fl s1 q=>?_) fun e s1 q=>?_
 ·have q':=q.pL
  cases fl with
  | next=>exact ZF q'
  | brk=>exact q'
  | cont=>exact q'
  | ret u=>exact q'
 ·obtain⟨_,σ',H1,s0,J,x,C,dx,H',B,rfl,Li,C',dx',fs,v,e1,e2,R,ed,l,w⟩:=q
  cases e1
  cases e2
  exact FW J Li stk R hg hm hN hi hl ed l (fun u a ha=>w x u a Li.xn ha) hd hd1 hd2
end
theorem G8 {X:Cx}{E:XK}(st:X.stack=X.env::X.outer/\X.env.frame=some X.env.locals)(hex:X.ex=[])
  (hxe:∀ e s',T7 (Ue X.prog X.w) X.A (leaving X.env e) (fun _ s2=>XL X.prog X.w X.outer X.H₀ X.s₀ E e s2) (fun e2 s2=>XL X.prog X.w X.outer X.H₀ X.s₀ E e2 s2) s'->X.xe e s'):Passes (XL X.prog X.w) X E:=by
 intro ZY σ H s e s' I hl
 obtain⟨x,C,dx,H',B,rfl,Li,hE⟩:=hl
 have nex:∀ b,b ∉ X.ex:=fun b z=>by
  rw[hex] at z
  cases z
 have fl0:Fly B (X.env::X.outer) x C dx .none s'.heap:=st.1▸Li.fly
 refine hxe _ _ (yX (outer:=X.outer) (by rw[I.ok.frames,st.1]) st.2 fl0 fun h' F' u'=>?_)
 have old:∀ b o,X.s₀.heap.get? b=some o->X.H₀ b=none->b ∉ X.fs->s.heap.get? b=some o/\H b=none/\b ∉ frs X.stack:=fun b o e n hb=>by
  refine⟨I.base.keep b o e n hb (nex b),I.base.free b o e n (nex b),fun z=>?_⟩
  rcases List.mem_cons.mp (I.rm b z) with z | z
  ·have:=T4 (Ua e) I.ok.above
   rw[z] at this
   exact Vb _ this
  ·exact hb z
 have inS:∀ b,b∈X.fs->b∈frs X.stack:=fun b hb=>by
  obtain⟨en,h1,h2⟩:=List.mem_filterMap.mp hb
  rw[st.1]
  exact List.mem_filterMap.mpr ⟨en,Ug _ h1,h2⟩
 refine⟨x,C,dx,H',B,U,⟨Li.os.trans I.os,Li.bare,⟨F'.stay,F'.bx,F'.frs.2.2,F'.tr⟩,⟨fun b o e n hb _=>?_,fun b o e n hb _=>?_,fun b o e n _=>?_,fun b o e _=>?_,fun b l e=>Li.un.tups b l (I.base.tups b l e),fun b o u e=>Li.un.frzs b o u (I.base.frzs b o u e),fun b ps e=>?_⟩,?_,fun b o e n hb=>?_,fun b u e=>?_,Li.xn⟩,hE⟩
 ·obtain⟨e1,e2,e3⟩:=old b o e n hb
  exact F'.stay b o (Li.kb b o e1 e2 e3)
 ·obtain⟨sl,e1⟩:=I.base.slot b o e n hb (nex b)
  have n1:=I.base.free b o e n (nex b)
  obtain⟨_,o',ho',nf⟩:=I.ok.qT.mem hb
  have z:some o=some o':=e.symm.trans ho'
  cases z
  obtain⟨sl1,e2⟩:=Li.un.slot b _ e1 n1 (inS b hb) (fun z=>nomatch z)
  obtain⟨sl2,e3⟩:=u'.sl b _ e2 nf
  exact⟨sl2,e3⟩
 ·obtain⟨o1,e1⟩:=I.base.there b o e (nex b)
  exact Li.un.free b o1 e1 (I.base.free b o e n (nex b)) (fun z=>nomatch z)
 ·obtain⟨o1,e1⟩:=I.base.there b o e (nex b)
  obtain⟨o2,e2⟩:=Li.un.there b o1 e1 (fun z=>nomatch z)
  exact u'.th b o2 e2
 ·obtain⟨m1,z⟩:=I.base.tbls b ps e
  obtain⟨m2,z2⟩:=Li.un.tbls b _ z
  exact⟨m1++m2,by rw[z2,Z7]⟩
 ·refine nH Li.hok (fun _ _ e=>e) (fun _ _ e=>e) (fun _ _ e=>e) fun b u o e q=>?_
  obtain⟨o',e1,e2⟩:=Li.hb b u e
  rw[e1] at q
  cases q
  exact F'.stay b _ e2
 ·obtain⟨e1,e2,e3⟩:=old b o e n hb
  exact Li.kb b o e1 e2 e3
 ·obtain⟨o',e1,e2⟩:=Li.hb b u e
  exact⟨o',F'.stay b _ e2,e2⟩
def wZ (CX:CXT)(P:Uq)(w:U3)(K:Uw)(mg:Ut->EW)(base:Va)(N:Fh)(qual:Ut)(scope:Wo)(f:Addr)(cd:Value)(cl:ER)(A:UW)(outer:Fk)(s:TV)(H:Hp)(E:XK):Cx :=
 let env:=PySem.W.envX qual scope s.heap.objs.size f cd cl
 {prog:=P,w:=w,K:=K,mg:=mg,base:=base,A:=A.deeper env,N:=N,s₀:=s,H₀:=H,env:=env,outer:=outer,stack:=env::outer,ex:=[],calm:=true,fn:=fun _=>false,pn:=[],
  xe:=fun e s'=>T7 (Ue P w) (A.deeper env) (leaving env e) (fun _ s2=>CX outer H s E e s2) (fun e2 s2=>CX outer H s E e2 s2) s' }
theorem qP {P:Uq}{w:U3}{K:Uw}{mg:Ut->EW}{base:Va}{N:Fh}{qual:Ut}{scope:Wo}{f:Addr}{cd:Value}{cl:ER}{A:UW}{outer:Fk}{s:TV}{H:Hp}{E:XK} :
  Passes (XL P w) (wZ (XL P w) P w K mg base N qual scope f cd cl A outer s H E) E :=
 G8 (X:=wZ (XL P w) P w K mg base N qual scope f cd cl A outer s H E) ⟨U,U⟩ U fun _ _ z=>z
structure PX (N:Fh)(sc:Wo):Prop where
 kind:sc.kind = .function
 co:sc.isCoroutine=false
 gen:sc.isGenerator=false
 cell:∀ y∈sc.names,y.2≠.cell
 fr:∀ x∈N,sc.names.lookup x=some .free
structure SM (N:Fh)(sc:Wo)(cl:ER)(σ:St)(H:Hp)(h:Va):Prop where
 inj:∀ x y c,cl.lookup x=some c->cl.lookup y=some c->x=y
 has:∀ y∈sc.names,y.2 = .free->∃ c,cl.lookup y.1=some c
 cells:∀ x c,cl.lookup x=some c->(∃ v,h.IsCell c v)/\H c=none
 vals:∀ (i:Nat) (x:Ut) (v:V),N[i]? = some x->σ[i]? = some (some v)->∃ c u,cl.lookup x=some c/\h.IsCell c (some u)/\RelV v u
 len:σ.length=N.length
theorem Ms {CX:CXT}{P:Uq}{w:U3}{K:Uw}{mg:Ut->EW}{base:Va}{k:Nat}{N:Fh}{name qual:Ut}{params:aaV}{body:Expr}{scope:Wo}{cl:ER}{pm ctv:Value}{c' f:Addr}{A:UW}{outer:Fk}{s:TV}{σ:St}{H:Hp}{Q:VK}{E:XK}{te:TE}
  (hr:dF (k+1) A) (e0:GZ P w K mg base A outer s H) (ho:s.heap.get? f=some (W.kla_obj name qual params body scope cl pm c' ctv)) (hcd:s.heap.CodeRec (.ref c') qual)
  (hb:Ym (W.kla_fn name qual params body scope cl pm (.ref c') ctv) ⟨[],[]⟩=pure []) (S:PX N scope) (C:SM N scope cl σ H s.heap)
  (hp:PE (wZ CX P w K mg base N qual scope f (.ref c') cl A outer s H E) body te) (h:te σ H Q):Vz (Ue P w) A (.call (.ref f) ⟨[],[]⟩) (CR CX outer P w H s Q E) s:=by
 have lim:s.heap.NoLimit:=e0.mod.nolimit.keeps fun b o e=>(e0.bs b o e).1
 refine PySem.W.kla_callFunE hr.depth ho U S.co S.gen U hcd ?_
 rw[hb]
 refine TX (aaJ S.cell (fun y hy=>nomatch hy) (fun h1 ns sb=>⟨lim.fresh _ sb,?_⟩) S.kind)
 have kp:∀ b o,s.heap.get? b=some o->h1.get? b=some o:=fun b o e=>sb.extBut b o (Um (Ua e)) (TQ _ e)
 have noA:∀ b:Addr,b ∉ (wZ CX P w K mg base N qual scope f (.ref c') cl A outer s H E).ex:=fun b z=>nomatch z
 have I:Inv (wZ CX P w K mg base N qual scope f (.ref c') cl A outer s H E) [] σ H { s with heap:=h1,toks:=s.toks+0 }:=by
  refine⟨⟨e0.mod,S.kind,U,U,T6 _,C.inj,fun y hy=>?_,fun y c z=>absurd (show false=true from z) T5,fun _=>hr.hd,Around.frames_deeper e0.frames,.inr ⟨U,U⟩,fun b z=>absurd z (noA b),e0.bs,e0.bsz,fun b _ _=>noA b,fun b z=>absurd z (noA b),e0.qT,e0.frf⟩,
   rfl,e0.bare,Un.kept kp,⟨_,ns,fun i y v q1 q2 _=>?_⟩,fun y c e=>?_,e0.hok.fresh (T6 _),fun y c e=>(C.cells y c e).2,(fun p z=>nomatch z),e0.hok.kept kp,C.len⟩
  ·rcases hy with hy | hy
   ·exact absurd U (S.cell _ (U8 (show scope.names.lookup y=some .cell from hy)))
   ·exact C.has _ (U8 (show scope.names.lookup y=some .free from hy)) U
  ·obtain⟨c,u,e1,⟨o,e2,e3⟩,r⟩:=C.vals i y v q1 q2
   exact⟨u,r,.inr ⟨.inr (S.fr y (UJ q1)),c,e1,o,kp _ _ e2,e3⟩⟩
  ·obtain⟨⟨v,o,e1,e2⟩,_⟩:=C.cells y c e
   exact⟨v,o,kp _ _ e1,e2⟩
 refine PySem.W.kla_codeExpr (Vd (hp [] _ σ H Q I h) (fun u s2 z=>?_) fun e s2 z=>z)
 obtain⟨v,H',J,r,q⟩:=z
 exact⟨v,H',J.os,J.bare,J.base,J.hok,r,q⟩
section
variable {CX:CXT}{P:Uq}{w:U3}{K:Uw}{mg:Ut->EW}{base:Va}{k:Nat}
theorem Qg {x qual:Ut}{st:Stmt}{f:Addr}{fd:Vn}{N ps:Fh}{A:UW}{outer:Fk}{s:TV}{H:Hp}{us:E4}{vs:List V}{Q:VK}{E:XK}(F:Fun K x qual st f fd)(S:aB N ps (au st))(hr:dF (k+1) A)(e0:GZ P w K mg base A outer s H)
  (hb:∀ (kV doc pm:Value) (an:EZ) (cdv ct:Value),Ym (aaN x qual (cu st) (aZ st) (au st) .none kV doc pm an cdv ct) ⟨us,[]⟩=pure (ps.zip us)) (r:Vals vs us) (hl:vs.length=ps.length)
  (ht:∀ cdv,∃ t,PSs (wA CX P w K mg base N qual (au st) f cdv A outer s H E) (aZ st) t/\t { nx:=fun _ H'=>Q .non H',rt:=Q } (start N vs) H) :
  Vz (Ue P w) A (.call (.ref f) ⟨us,[]⟩) (CR CX outer P w H s Q E) s:=by
 obtain⟨oc,od,kV,doc,pm,an,cdv,ct,osl,rfl,lk,hc⟩:=F.ex
 have KX:K.In s.heap:=e0.mod.kin.keeps fun b o e=>(e0.bs b o e).1
 have lim:s.heap.NoLimit:=e0.mod.nolimit.keeps fun b o e=>(e0.bs b o e).1
 have hkind:((ps.zip us).all fun y=>(au st).names.lookup y.1 == some .local || (au st).names.lookup y.1 == some .cell)=true:=List.all_eq_true.mpr fun⟨n,v⟩ hy=>by
  rcases S.par n (aaD hy).1 with q | q <;> simp [q]
 refine Att.Mz KX lim lk hc hr.depth (.of_eq (hb kV doc pm an cdv ct)) hkind (fun s1 x=>?_) S.co S.gen S.kind
 obtain⟨t,h1,h2⟩:=ht cdv
 have I:Inv (wA CX P w K mg base N qual (au st) f cdv A outer s H E) [] (start N vs) H s1:=uV S hr.hd e0 hl r x
 refine Vd (h1 [] s1 (start N vs) H _ I h2) (fun fl s2 z=>?_) fun e s2 z=>z
 cases fl with
 | ret u =>
  obtain⟨v,σ',H',J,rv,q⟩:=z
  exact⟨v,H',J.os,J.bare,J.base,J.hok,rv,q⟩
 | next =>
  obtain⟨σ',H',J,q⟩:=z
  exact⟨.non,H',J.os,J.bare,J.base,J.hok,U,q⟩
 | brk=>obtain⟨_,_,_,q⟩:=z;exact Vc q
 | cont=>obtain⟨_,_,_,q⟩:=z;exact Vc q
structure Py (CX:CXT)(P:Uq)(w:U3)(K:Ud)(mg:Ut->EW)(base:Va)(k:Nat)(s₀:TV)(H₀:Hp)(fs:E6)(f:Addr)(sp:Hp->VK->XK->Prop):Prop where
 at_:∃ o fd,s₀.heap.get? f=some o/\o.data = .func fd/\H₀ f=none/\f ∉ fs
 run:∀ (A:UW) (outer:Fk) (s:TV) (H:Hp) (Q:VK) (E:XK),dF k A->GZ P w K mg base A outer s H->(∀ b o,s₀.heap.get? b=some o->H₀ b=none->b ∉ fs->s.heap.get? b=some o)->(∀ b o,s₀.heap.get? b=some o->H₀ b=none->(∃ sl,s.heap.get? b=some { o with slots:=sl })/\H b=none)->(∀ b o u,H₀ b=some (.frz o u)->H b=some (.frz o u))->sp H Q E →
  Vz (Ue P w) A (.call (.ref f) ⟨[],[]⟩) (CR CX outer P w H s Q E) s
end
section
variable {X:Cx}{CX:CXT}{k:Nat}{f:Addr}{sp:Hp->VK->XK->Prop}{E:XK}{x:Ut}{p pos:Yg}{te:TE}
def Ti (f:Addr)(sp:Hp->VK->XK->Prop)(E:XK)(te:TE):TE:=fun σ H Q=>te σ H fun v H1=>v = .ref f/\sp H1 Q E
theorem O9 (L:Py CX X.prog X.w X.K X.mg X.base k X.s₀ X.H₀ X.fs f sp)(hex:X.ex=[])(hr:dF k X.A)(hx:Passes CX X E)(he:PE X (.Name x p) te):PE X (.Call (.Name x p) [] [] pos) (Ti f sp E te):=by
 intro ZY s σ H Q I h
 refine VR (thn (he ZY s σ H _ I h) fun u s1 ⟨v,H1,I1,r,ev,q⟩=>?_)
 subst ev
 obtain rfl:u=Uk f:=r
 have nex:∀ b,b ∉ X.ex:=fun b z=>by
  rw[hex] at z
  cases z
 obtain⟨o,fd,e1,e2,e3,e4⟩:=L.at_
 have e5:=I1.base.keep f o e1 e3 e4 (nex f)
 refine callWith_function_kw (o:=o) (fd:=fd) (evalArgs_kw_nil U (wpAny_evalAll_nil ⟨⟨e5,e2⟩,?_⟩))
 refine Yi (Xb (L.run X.A X.stack s1 H1 Q E hr I1.env0 (fun b o e n hb=>I1.base.keep b o e n hb (nex b)) (fun b o e n=>⟨I1.base.any e n (nex b),I1.base.free b o e n (nex b)⟩) I1.base.frzs q) fun r2 s2 hq=>?_)
 cases r2 with
 | error e=>exact hx ZY σ H1 s1 e s2 I1 hq
 | ok fl =>
  cases fl with
  | ret u=>exact I1.after hq
  | next=>exact Vc hq
  | brk=>exact Vc hq
  | cont=>exact Vc hq
end
def TabOk (H:Hp)(P:Addr)(q:Ut):Prop:=∃ ps,H P=some (.tbl ps)/\Zk ps.toList/\∀ pos cv,ZV pos ps.toList=some cv->∃ c oc u vs t,cv = .ref c/\H c=some (.frz oc u)/\oc.data = .fields vs/\vs[1]? = some (.str q t)
def gf (H H1:Hp):Prop:=∀ b o,(∀ ps,o≠.tbl ps)->H b=some o->H1 b=some o
def Hn (P:Addr)(H H1:Hp):Prop:=∀ b o,b≠P->H b=some o->H1 b=some o
theorem Hn.t {P:Addr}{q:Ut}{H H1:Hp}(h:TabOk H P q)(a:Hn P H H1):gf H H1:=fun b o n e=>a b o (fun z=>by
 obtain⟨ps,e1,_⟩:=h
 rw[z,e1] at e
 exact n ps (U5 e).symm) e
theorem gf.trans {H H1 H2:Hp}(a:gf H H1)(b:gf H1 H2):gf H H2:=fun c o n e=>b c o n (a c o n e)
theorem aH.t {H H1:Hp}(a:aH H H1):gf H H1:=fun c o _ e=>a c o e
theorem TabOk.same {H H1:Hp}{P:Addr}{q:Ut}(a:aH H H1)(h:TabOk H P q):TabOk H1 P q:=by
 obtain⟨ps,e,t,f⟩:=h
 refine⟨ps,a _ _ e,t,fun pos cv z=>?_⟩
 obtain⟨c,oc,u,vs,tk,e1,e2,e3⟩:=f pos cv z
 exact⟨c,oc,u,vs,tk,e1,a _ _ e2,e3⟩
theorem Ce {l:E4}(h:Zk l):l=[]∨∃ i t j u d r,l = .int i t::.int j u::d::r/\Zk r:=by
 unfold Zk at h
 split at h
 ·exact .inl U
 ·exact .inr ⟨_,_,_,_,_,_,U,h⟩
 ·exact h.elim
theorem nG {pos pos':Yg}{c cv:Value}:∀ (n:Nat) (l:E4),l.length<=n->Zk l->(ZV pos' (l++[Vh pos.line,Vh pos.col,c])=some cv->ZV pos' l=some cv∨cv=c)/\Zk (l++[Vh pos.line,Vh pos.col,c])
 | 0,l,hn,h=>by
  cases Zy (Nat.le_zero.mp hn)
  refine⟨fun e=>?_,trivial⟩
  simp only[abK,Vh,ZV] at e
  split at e
  ·exact .inr (U5 e).symm
  ·cases e
 | n+1,l,hn,h=>by
  rcases Ce h with rfl | ⟨i,t,j,u,d,r,rfl,hr⟩
  ·exact nG n [] (U9 _) h
  ·obtain⟨h1,h2⟩:=nG (pos:=pos) (pos':=pos') (c:=c) (cv:=cv) n r (by simp only[Uj] at hn;lia) hr
   refine⟨fun e=>?_,h2⟩
   simp only[abw,ZV] at e ⊢
   split at e
   ·rename_i z
    rw[if_pos z]
    exact .inl e
   ·rename_i z
    rw[if_neg z]
    exact h1 e
theorem Ba {pos pos':Yg}{c cv:Value}(l:E4)(h:Zk l)(e:ZV pos' (l++[Vh pos.line,Vh pos.col,c])=some cv):ZV pos' l=some cv∨cv=c:=(nG l.length l (T6 _) h).1 e
theorem vX {pos:Yg}{c:Value}(l:E4)(h:Zk l):Zk (l++[Vh pos.line,Vh pos.col,c]):=(nG (pos':=pos) (cv:=c) l.length l (T6 _) h).2
section
variable {X:Cx}{ZY:EQ}{σ:St}{H:Hp}{s:TV}{c P:Addr}{params:aaV}{body:Expr}{scope:Wo}{lpos:Yg}{E:ET}{Q:ET}
theorem Jk (I:Inv X ZY σ H s) (hT:TabOk H P (X.env.qual++"<lambda>")) (hcode:X.env.code = .ref c) (C:W.CodeHd X.base c P) (hB:X.base.BuiltinsAt X.mg P) (hdef:defaultsOf params X.env=([],[]))
  (hfr:∀ y∈scope.names,y.2 = .free->X.env.kindOf y.1=some .cell∨X.env.kindOf y.1=some .free)
  (h:∀ (f c':Addr) (ctv pm:Value) (cl:ER) (H1:Hp) (s1:TV),Inv X ZY σ H1 s1->Hn P H H1->TabOk H1 P (X.env.qual++"<lambda>")->(∀ b,H b=none->b < s.heap.objs.size->H1 b=none)->(∀ b o,s.heap.get? b=some o->H b=none->s1.heap.get? b=some o) →
   s1.heap.get? f=some (aaB "<lambda>" (X.env.qual++"<lambda>") params body scope cl pm c' ctv)->H1 f=none->s.heap.objs.size<=f->(∃ oc u vs t,H1 c'=some (.frz oc u)/\oc.data = .fields vs/\vs[1]? = some (.str (X.env.qual++"<lambda>") t)) →
   (∀ n a,cl.lookup n=some a->X.env.cells.lookup n=some a)->(∀ y∈scope.names,y.2 = .free->∃ a,cl.lookup y.1=some a)->Q (.ref f) s1) :
  T7 (Ue X.prog X.w) X.A (VD (.Lambda params body scope lpos) X.env) Q E s:=by
 obtain⟨ps,eP,tr,am⟩:=hT
 obtain⟨cl,hcl,sub,all⟩:=pO (scope:=scope) (env:=X.env) fun y hy z=>I.ok.has _ (hfr y hy z)
 have hP:s.heap.get? P=some (PySem.W.tabObj ps):=I.hok P _ eP
 have hns:s.heap.Ns Us X.mg:=I.mod.glob.keeps I.bk
 have hgP:Us≠P:=fun z=>by
  obtain⟨o,es,ep,e,d,_⟩:=hns
  rw[z,hP] at e
  cases e
  cases d
 refine PySem.W.kla_eval hdef ?_
 cases hit:ZV lpos ps.toList with
 | some cv =>
  obtain⟨c',oc,u,vs,t,rfl,e1,e2,e3⟩:=am _ _ hit
  refine PySem.W.kla_makeFunctionHit hcl I.ok.glob hns hcode (C.keeps I.bk) hP tr hit (hB.keeps I.bk) fun ctv h' tk kp sz=>?_
  have kp':∀ b o,s.heap.get? b=some o->(h'.push (aaB "<lambda>" (X.env.qual++"<lambda>") params body scope cl ((X.mg "__name__").getD .none) c' ctv)).get? b=some o:=fun b o e=>TQ _ (kp b o e)
  refine h h'.objs.size c' ctv ((X.mg "__name__").getD .none) cl H _ (I.un (h':=h'.push (aaB "<lambda>" (X.env.qual++"<lambda>") params body scope cl ((X.mg "__name__").getD .none) c' ctv)) (t':=tk) (Un.kept kp') (I.hok.kept kp')) (fun _ _ _ e=>e) ⟨ps,eP,tr,am⟩ (fun _ n _=>n) (fun b o e _=>kp' b o e) ?_ (I.hok.fresh sz) sz ⟨oc,u,vs,t,e1,e2,e3⟩ sub all
  exact T9 h' U
 | none =>
  refine PySem.W.kla_makeFunction hcl I.ok.glob hns hcode (C.keeps I.bk) hP tr hit hgP (hB.keeps I.bk) fun c' ctv h' tk kp l1 l2 cr hP'=>?_
  obtain⟨c2,oc,vs,t,ec,e1,e2,e3⟩:=cr
  cases ec
  have nP:c'≠P:=fun z=>by
   have:=Ua hP
   rw[← z] at this
   exact Vb _ (T4 this l1)
  have fr:=I.hok.fresh l1
  have lt:∀ b u,H b=some u->b < s.heap.objs.size:=fun b u e=>(I.hok b u e).lt
  have nb:∀ b o,s.heap.get? b=some o->b≠c':=fun b o e z=>by
   have:=Ua e
   rw[z] at this
   exact Vb _ (T4 this l1)
  have sz:s.heap.objs.size<=h'.objs.size:=UL l1 (WR l2)
  generalize ho:aaB "<lambda>" (X.env.qual++"<lambda>") params body scope cl ((X.mg "__name__").getD .none) c' ctv=fo
  have kq:∀ b o,h'.get? b=some o->(h'.push fo).get? b=some o:=fun b o e=>TQ _ e
  have same:∀ b u,H b=some u->b≠P->upd (upd H P (.tbl (ps++#[Vh lpos.line,Vh lpos.col,.ref c']))) c' (.frz oc (.ext fun _=>True)) b=some u:=fun b u e n=>by
   rw[aD (fun z=>by rw[z,fr] at e;cases e),aD n]
   exact e
  have nt:∀ b u,H b=some u->(∀ ps,u≠.tbl ps)->b≠P:=fun b u e n z=>by
   rw[z,eP] at e
   exact n ps (U5 e).symm
  have un:Un X.fs [] H (upd (upd H P (.tbl (ps++#[Vh lpos.line,Vh lpos.col,.ref c']))) c' (.frz oc (.ext fun _=>True))) s.heap (h'.push fo):=by
   refine⟨fun b o e n _ _=>?_,fun b o e n _ _=>⟨o.slots,?_⟩,fun b o e n _=>?_,fun b o e _=>?_,fun b xs e=>same b _ e (nt b _ e (fun _ z=>nomatch z)),fun b o u e=>same b _ e (nt b _ e (fun _ z=>nomatch z)),fun b qs e=>?_⟩
   ·exact kq b o (kp b o (fun z=>by rw[z,eP] at n;cases n) e)
   ·exact kq b o (kp b o (fun z=>by rw[z,eP] at n;cases n) e)
   ·rw[aD (nb b o e),aD (fun z=>by rw[z,eP] at n;cases n)]
    exact n
   ·by_cases hb:b=P
    ·subst hb
     exact⟨_,kq _ _ hP'⟩
    ·exact⟨o,kq b o (kp b o hb e)⟩
   ·by_cases hb:b=P
    ·subst hb
     rw[eP] at e
     cases e
     exact⟨_,by rw[aD (VM nP),aa]⟩
    ·exact⟨#[],by rw[same b _ e hb,Array.append_empty]⟩
  have hok:HOk X.prog X.w (upd (upd H P (.tbl (ps++#[Vh lpos.line,Vh lpos.col,.ref c']))) c' (.frz oc (.ext fun _=>True))) (h'.push fo):=fun b u e=>by
   by_cases hb:b=c'
   ·subst hb
    rw[aa] at e
    cases e
    exact⟨kq _ _ e1,trivial,⟨_,kq _ _ e1⟩,fun _ _ _ _=>trivial⟩
   ·rw[aD hb] at e
    by_cases hp:b=P
    ·subst hp
     rw[aa] at e
     cases e
     exact kq _ _ hP'
    ·rw[aD hp] at e
     refine (I.hok b u e).stay (fun d o hd q=>kq _ _ (kp d o (fun z=>?_) q)) (fun d q=>same d _ q (nt d _ q (fun _ z=>nomatch z))) fun d xs q=>same d _ q (nt d _ q (fun _ z=>nomatch z))
     rcases hd with rfl | hd
     ·exact hp z
     ·rw[z,eP] at hd
      cases hd
  have I1:=I.un (t':=tk) un hok
  have f0:upd (upd H P (.tbl (ps++#[Vh lpos.line,Vh lpos.col,.ref c']))) c' (.frz oc (.ext fun _=>True)) h'.objs.size=none:=by
   rw[aD (VM (Um l2)),aD (VM (Um (T4 (Ua hP) sz)))]
   exact I.hok.fresh sz
  refine h h'.objs.size c' ctv ((X.mg "__name__").getD .none) cl _ _ I1 (fun b o n e=>same b o e n) ⟨_,by rw[aD (VM nP),aa],?_,fun pos cv z=>?_⟩ (fun b n l=>?_) (fun b o e n=>kq b o (kp b o (fun z=>by rw[z,eP] at n;cases n) e)) ?_ f0 sz ⟨oc,_,vs,t,aa,e2,e3⟩ sub all
  ·rw[Array.toList_append]
   exact vX _ tr
  ·rw[Array.toList_append] at z
   rcases Ba _ tr z with z | z
   ·obtain⟨c1,oc1,u1,vs1,t1,a1,a2,a3⟩:=am pos cv z
    exact⟨c1,oc1,u1,vs1,t1,a1,same _ _ a2 (nt _ _ a2 (fun _ z=>nomatch z)),a3⟩
   ·exact⟨c',oc,_,vs,t,z,aa,e2,e3⟩
  ·have n1:b≠c':=fun z=>Vb _ (T4 (show c' < s.heap.objs.size from z▸l) l1)
   have n2:b≠P:=fun z=>by rw[z,eP] at n;cases n
   rw[aD n1,aD n2]
   exact n
  ·rw[← ho]
   exact T9 h' U
end
structure Nf (X:Cx)(scope:Wo)(N:Fh)(cap:Fa):Prop where
 sc:PX N scope
 fr:∀ y∈scope.names,y.2 = .free->X.env.kindOf y.1=some .cell∨X.env.kindOf y.1=some .free
 len:cap.length=N.length
 at':∀ (k:Nat) (x:Ut),N[k]? = some x->∃ i,cap[k]? = some i/\X.N[i]? = some x
def Ng (cap:Fa)(σ:St):St:=cap.map fun i=>(σ[i]?).join
def Rq (P:Addr)(q:Ut)(cap:Fa)(tw:Addr->(Hp->VK->XK->Prop)->VK->Hp->Prop)(te:XK->TE):TE:=fun σ H Q=>TabOk H P q/\∀ f H1,gf H H1->TabOk H1 P q->tw f (fun H2 Q2 E2=>te E2 (Ng cap σ) H2 Q2) Q H1
def RQ (Rl:Hp->Hp->Prop)(P:Addr)(q:Ut)(cap:Fa)(tw:Addr->(Hp->VK->XK->Prop)->VK->Hp->Prop)(te:XK->TE):TE:=fun σ H Q=>TabOk H P q/\∀ f H1,Rl H H1->TabOk H1 P q->tw f (fun H2 Q2 E2=>te E2 (Ng cap σ) H2 Q2) Q H1
section
variable {X:Cx}{c P fW:Addr}{x qual n:Ut}{st:Stmt}{fd:Vn}{N NL:Fh}{cap:Fa}{k:Nat}{params:aaV}{body:Expr}{scope:Wo}{lpos p pos:Yg}{te:XK->TE}{tw:Addr->(Hp->VK->XK->Prop)->VK->Hp->Prop}
theorem M8 {Rl:Hp->Hp->Prop} (hR:∀ {H H1:Hp},TabOk H P (X.env.qual++"<lambda>")->Hn P H H1->Rl H H1) (F:Fun X.K x qual st fW fd) (S:aB N [n] (au st)) (hr:dF (k+1) X.A) (hg:Gl X x) (hm:X.mg x=some (.ref fW)) (L:Nf X scope NL cap)
  (hcode:X.env.code = .ref c) (C:W.CodeHd X.base c P) (hB:X.base.BuiltinsAt X.mg P)
  (hp:∀ (f:Addr) (cd:Value) (cl:ER) (A:UW) (outer:Fk) (s:TV) (H:Hp) (E:XK) (j:Nat),k=j+2->dF j (A.deeper (W.envX (X.env.qual++"<lambda>") scope s.heap.objs.size f cd cl))->PE (wZ (XL X.prog X.w) X.prog X.w X.K X.mg X.base NL (X.env.qual++"<lambda>") scope f cd cl A outer s H E) body (te E))
  (ht:∀ (f:Addr) (cdv:Value) (A:UW) (outer:Fk) (s:TV) (H:Hp) (Q:VK) (j:Nat) (sp:Hp->VK->XK->Prop),k=j+1->dF k (A.deeper (envOfC qual (au st) s.heap.objs.size fW cdv))->Py (XL X.prog X.w) X.prog X.w X.K X.mg X.base k s H (frs outer) f sp->tw f sp Q H →
   ∃ t,PSs (wA CX0 X.prog X.w X.K X.mg X.base N qual (au st) fW cdv A outer s H E0) (aZ st) t/\t { nx:=fun _ H'=>Q .non H',rt:=Q } (start N [.ref f]) H)
  (hdef:defaultsOf params X.env=([],[]):=by rfl) (hla:∀ (pm cd ctv:Value) (cl:ER),Ym (W.kla_fn "<lambda>" (X.env.qual++"<lambda>") params body scope cl pm cd ctv) ⟨[],[]⟩=pure []:=by intros;rfl)
  (hb:∀ (kV doc pm:Value) (an:EZ) (cdv ct:Value) (u:Value),Ym (aaN x qual (cu st) (aZ st) (au st) .none kV doc pm an cdv ct) ⟨[u],[]⟩=pure [(n,u)]:=by intros;rfl) (hk:k=(k - 2)+2:=by rfl)
  (hdb:(x == ("__debug__" : Ut))=false:=by decide):PE X (.Call (.Name x p) [.Lambda params body scope lpos] [] pos) (RQ Rl P (X.env.qual++"<lambda>") cap tw te):=by
 intro ZY s σ H Q I ⟨hT,h⟩
 refine VR (iT I hg hm ?_ hdb)
 refine Y8 (h₀:=X.base) I.ok.mod.kin F.kp ?_
 refine Z6 (Jk I hT hcode C hB hdef L.fr fun f c' ctv pm cl H1 s1 I1 sm tb fre kp ef nf lf cr sub all=>aae ⟨I1.kIn,?_⟩)
 have nfs:f ∉ frs X.stack:=fun z=>by
  obtain⟨_,o,ho,_⟩:=I.stack.mem z
  exact Vb _ (T4 (Ua ho) lf)
 have LB:Py (XL X.prog X.w) X.prog X.w X.K X.mg X.base k s1 H1 (frs X.stack) f fun H2 Q2 E2=>te E2 (Ng cap σ) H2 Q2:=by
  refine⟨⟨_,_,ef,U,nf,nfs⟩,fun A outer s3 H3 Q3 E3 room e3 k1 k2 k3 sp=>?_⟩
  obtain⟨oc,u,vs,t,f1,f2,f3⟩:=cr
  have cr3:s3.heap.CodeRec (.ref c') (X.env.qual++"<lambda>"):=⟨c',oc,vs,t,U,(e3.hok c' _ (k3 _ _ _ f1)).1,f2,f3⟩
  have room':dF ((k - 2)+1+1) A:=by rw[hk] at room;exact room
  have cel:∀ y a v,cl.lookup y=some a->s1.heap.IsCell a v->s3.heap.IsCell a v/\H3 a=none:=fun y a v e ⟨o,ho,hd⟩=>by
   obtain⟨⟨sl,e1⟩,e2⟩:=k2 a o ho (I1.freeC y a (sub y a e))
   exact⟨⟨_,e1,hd⟩,e2⟩
  refine Ms (N:=NL) room' e3 (k1 f _ ef nf nfs) cr3 (hla _ _ _ _) L.sc ⟨fun y z a e1 e2=>I.ok.inj y z a (sub y a e1) (sub z a e2),all,fun y a e=>?_,fun i y v e1 e2=>?_,?_⟩ (hp f (.ref c') cl A outer s3 H3 E3 (k - 2) hk ((room'.mono (We _)).deeper _)) sp
  ·obtain⟨v,z⟩:=I1.cell y a (sub y a e)
   obtain⟨z1,z2⟩:=cel y a v e z
   exact⟨⟨v,z1⟩,z2⟩
  ·unfold Ng at e2
   rw[Ux] at e2
   obtain⟨j,hj,hN⟩:=L.at' i y e1
   rw[hj] at e2
   have e4:(σ[j]?).join=some v:=by simpa using e2
   have e5:σ[j]? = some (some v):=by
    cases q:σ[j]? with
    | none=>rw[q] at e4;cases e4
    | some a=>rw[q] at e4;exact congrArg some e4
   have yf:=L.sc.fr y (UJ e1)
   have kd:=L.fr (y,.free) (U8 yf) U
   obtain⟨m,hn,hl⟩:=I1.loc
   obtain⟨u,r,lk⟩:=hl j y v hN e5 (kd.elim (fun z=>.inr (.inl z)) fun z=>.inr (.inr z))
   obtain⟨a,ha⟩:=all (y,.free) (U8 yf) U
   rcases lk with⟨z,_⟩ | ⟨_,a',z1,z2⟩
   ·rcases kd with w | w <;> (rw[w] at z;cases z)
   ·have:=sub y a ha
    rw[z1] at this
    cases this
    exact⟨a,u,ha,(cel y a _ ha z2).1,r⟩
  ·unfold Ng
   rw[TJ,L.len]
 have hq:=h f H1 (hR hT sm) tb
 refine Yi (Xb (Qg (CX:=CX0) (k:=k) (Q:=Q) (E:=E0) F S hr I1.env0 (hb · · · · · · (.ref f)) (vs:=[.ref f]) (us:=[.ref f]) (.cons U .nil) U fun cdv=>ht f cdv X.A X.stack s1 H1 Q (k - 2+1) _ hk (hr.deeper _) LB hq) fun r s2 z=>?_)
 cases r with
 | error e=>exact Vc z
 | ok fl =>
  cases fl with
  | ret u=>exact I1.after z
  | next=>exact Vc z
  | brk=>exact Vc z
  | cont=>exact Vc z
theorem JS (F:Fun X.K x qual st fW fd)(S:aB N [n] (au st))(hr:dF (k+1) X.A)(hg:Gl X x)(hm:X.mg x=some (.ref fW))(L:Nf X scope NL cap)
  (hcode:X.env.code = .ref c) (C:W.CodeHd X.base c P) (hB:X.base.BuiltinsAt X.mg P)
  (hp:∀ (f:Addr) (cd:Value) (cl:ER) (A:UW) (outer:Fk) (s:TV) (H:Hp) (E:XK) (j:Nat),k=j+2->dF j (A.deeper (W.envX (X.env.qual++"<lambda>") scope s.heap.objs.size f cd cl))->PE (wZ (XL X.prog X.w) X.prog X.w X.K X.mg X.base NL (X.env.qual++"<lambda>") scope f cd cl A outer s H E) body (te E))
  (ht:∀ (f:Addr) (cdv:Value) (A:UW) (outer:Fk) (s:TV) (H:Hp) (Q:VK) (j:Nat) (sp:Hp->VK->XK->Prop),k=j+1->dF k (A.deeper (envOfC qual (au st) s.heap.objs.size fW cdv))->Py (XL X.prog X.w) X.prog X.w X.K X.mg X.base k s H (frs outer) f sp->tw f sp Q H →
   ∃ t,PSs (wA CX0 X.prog X.w X.K X.mg X.base N qual (au st) fW cdv A outer s H E0) (aZ st) t/\t { nx:=fun _ H'=>Q .non H',rt:=Q } (start N [.ref f]) H)
  (hdef:defaultsOf params X.env=([],[]):=by rfl) (hla:∀ (pm cd ctv:Value) (cl:ER),Ym (W.kla_fn "<lambda>" (X.env.qual++"<lambda>") params body scope cl pm cd ctv) ⟨[],[]⟩=pure []:=by intros;rfl)
  (hb:∀ (kV doc pm:Value) (an:EZ) (cdv ct:Value) (u:Value),Ym (aaN x qual (cu st) (aZ st) (au st) .none kV doc pm an cdv ct) ⟨[u],[]⟩=pure [(n,u)]:=by intros;rfl) (hk:k=(k - 2)+2:=by rfl)
  (hdb:(x == ("__debug__" : Ut))=false:=by decide):PE X (.Call (.Name x p) [.Lambda params body scope lpos] [] pos) (Rq P (X.env.qual++"<lambda>") cap tw te):=M8 (fun h s=>s.t h) F S hr hg hm L hcode C hB hp ht hdef hla hb hk hdb
end
structure Bv (mg:Ut->EW)(c T:Addr)(base:Va):Prop where
 code:PySem.W.CodeHd base c T
 blt:base.BuiltinsAt mg T
theorem GR {P:Uq}{w:U3}{K:Uw}{mg mb:Ut->EW}{k:Nat}{fa a c T:Addr}{fd:Vn}{x q:Ut}{sp:Sp}{s1:TV}{vs:E4}{ns:E9}
  (KX:K.In s1.heap) (hG:s1.heap.Ns Us mg) (hB:s1.heap.Ns builtinsNs mb) (hbb:∀ x:Ut,x≠"__name__"->mb x=Vi x) (hlim:s1.heap.NoLimit) (hg:s1.gens = #[])
  (ha:s1.heap.get? a=some { cls:=.type "list",data:=.seq vs.toArray }) (hi:VB vs ns) (hl:ns.length<=sizeLine) (hr:dF k abd)
  (hT:s1.heap.get? T=some (W.tabObj #[])) (hC:W.CodeHd s1.heap c T) (hbm:s1.heap.BuiltinsAt mg T) (hno:W.noTabs K=true)
  (F:∀ base:Va,K.In base->base.Ns Us mg->Bv mg c T base->aY P w K mg base CX0 k fa fd [x] sp) (hbind:∀ (s:TV) (u:Value),aax s fd ⟨[u],[]⟩ [(x,u)])
  (hsp:∀ H:Hp,TabOk H T q->SqL K H a (ns.map V.int)->sp [.ref a] H (fun v _=>v = .bl true) fun _ _ _=>False) :
  Vz (Ue P w) abd (.call (.ref fa) ⟨[.ref a],[]⟩) (fun r s2=>r = .ok (.ret (.bool true))/\OldK s1.heap s2.heap/\s2.os=s1.os/\aaf s2.gens) s1:=by
 have aT:a≠T:=fun z=>by
  rw[z,hT] at ha
  cases ha
 have rv:=iJ hi
 have nl:=hi.length
 have key:∀ Z:Hp,(∀ b u,Z b=some u->b=a/\u = .frz { cls:=.type "list",data:=.seq vs.toArray } (.lst (ns.map V.int)))->SqL K Z a (ns.map V.int)->(Z a≠none->K.lookup a=none) →
   Vz (Ue P w) abd (.call (.ref fa) ⟨[.ref a],[]⟩) (fun r s2=>r = .ok (.ret (.bool true))/\OldK s1.heap s2.heap/\s2.os=s1.os/\aaf s2.gens) s1:=by
  intro Z hZ hS hK
  have H1:∀ b,b≠T->upd Z T (.tbl #[]) b=Z b:=fun b n=>aD n
  have hin:∀ {b:Addr} {o:WL},s1.heap.get? b=some o->b≠T->(Z b=none)->(Jr s1.heap (upd Z T (.tbl #[]))).get? b=some o:=fun e n z=>HD e ((H1 _ n).trans z)
  have seqOnly:∀ {b:Addr} {o:WL},s1.heap.get? b=some o->(∀ its n,o.data≠.seq its n)->Z b=none:=fun {b o} e d=>by
   cases z:Z b with
   | none=>rfl
   | some u =>
    obtain⟨rfl,_⟩:=hZ b u z
    rw[ha] at e
    cases e
    exact absurd U (d _ _)
  have notT:∀ {b:Addr} {o:WL},s1.heap.get? b=some o->(∀ vs,o.data≠.fields vs)->b≠T:=fun {b o} e d z=>by
   rw[z,hT] at e
   cases e
   exact d _ U
  have nsK:∀ {b:Addr} {m:Ut->EW},s1.heap.Ns b m->(Jr s1.heap (upd Z T (.tbl #[]))).Ns b m:=fun {b m} ⟨o,es,ep,e,d,r⟩ =>
   ⟨o,es,ep,hin e (notT e fun _ z=>by rw[d] at z;cases z) (seqOnly e fun _ _ z=>by rw[d] at z;cases z),d,r⟩
  have kb:K.In (Jr s1.heap (upd Z T (.tbl #[]))):=fun b o e=>hin (KX b o e) (fun z=>by
   subst z
   have e2:=KX _ _ e
   rw[hT] at e2
   cases e2
   have:=List.all_eq_true.mp hno (_,PySem.W.tabObj #[]) (PySem.W.mem_of_lookupK e)
   exact absurd (show false=true from this) T5) (by
   cases z:Z b with
   | none=>rfl
   | some u =>
    obtain⟨rfl,_⟩:=hZ b u z
    rw[hK (by rw[z];simp)] at e
    cases e)
  have hd:Bv mg c T (Jr s1.heap (upd Z T (.tbl #[]))):=by
   obtain⟨o,ws,file,tf,flags,tg,inF,text,tt,e1,e2,e3,e4,r⟩:=hC
   obtain⟨bm,ob,b1,b2,b3,b4,b5,b6,b7,b8⟩:=hbm
   refine⟨⟨o,ws,file,tf,flags,tg,inF,text,tt,hin e1 (fun z=>?_) (seqOnly e1 fun _ _ z=>by rw[e3] at z;cases z),e2,e3,e4,r⟩,⟨bm,ob,b1,b2,b3,b4,hin b5 b4 (seqOnly b5 fun _ _ z=>by rw[b8] at z;cases z),b6,b7,b8⟩⟩
   rw[z,hT] at e1
   cases e1
   cases e2
  have hok:HOk P w (upd Z T (.tbl #[])) s1.heap:=fun b u e=>by
   by_cases hb:b=T
   ·subst hb
    rw[aa] at e
    cases e
    exact hT
   ·rw[aD hb] at e
    obtain⟨rfl,rfl⟩:=hZ b u e
    exact⟨ha,by rw[TJ];exact hl,vs,_,rv,ha⟩
  have e0:GZ P w K mg (Jr s1.heap (upd Z T (.tbl #[]))) abd [] s1 (upd Z T (.tbl #[])) :=
   ⟨U,⟨kb,nsK hG,⟨mb,nsK hB,hbb⟩,let ⟨mc,m1,m2⟩:=hlim;⟨mc,nsK m1,m2⟩⟩,fun b o e=>Mp e,abk (Du _ _),trivial,(fun b hb=>absurd (show b∈([]:E6) from hb) Xk),hok,.of_eq hg⟩
  have hS1:SqL K (upd Z T (.tbl #[])) a (ns.map V.int):=by
   rcases hS with (h | ⟨o,h⟩) | h
   ·exact .inl (.inl ((H1 a aT).trans h))
   ·exact .inl (.inr ⟨o,(H1 a aT).trans h⟩)
   ·exact .inr h
  refine Xb ((F _ kb (nsK hG) hd).run abd [] s1 _ ⟨[.ref a],[]⟩ [.ref a] [.ref a] _ _ hr e0 (hbind s1 (.ref a)) (.cons U .nil) (hsp _ ⟨#[],aa,trivial,fun pos cv z=>by cases z⟩ hS1)) fun r s2 z=>?_
  cases r with
  | error e=>exact Vc z
  | ok fl =>
   cases fl with
   | next=>exact Vc z
   | brk=>exact Vc z
   | cont=>exact Vc z
   | ret u =>
    obtain⟨v,H2,os,bare,un,hok2,r2,rfl⟩:=z
    obtain rfl:u=aas true:=r2
    have kept:∀ b o,s1.heap.get? b=some o->b≠T->s2.heap.get? b=some o:=fun b o e n=>by
     cases z:Z b with
     | none=>exact un.keep b o e ((H1 b n).trans z) (fun y=>nomatch y) fun y=>nomatch y
     | some u =>
      have z1:=(H1 b n).trans z
      obtain⟨rfl,rfl⟩:=hZ b u z
      obtain⟨e2,_⟩:=hok2 _ _ (un.frzs _ _ _ z1)
      rw[ha] at e
      cases e
      exact e2
    obtain⟨more,et⟩:=un.tbls T #[] aa
    have gT:s2.heap.get? T=some (PySem.W.tabObj (#[]++more)):=hok2 T _ et
    refine⟨U,⟨fun b o e=>?_,fun b o e=>?_⟩,os,bare⟩
    ·by_cases hb:b=T
     ·subst hb
      rw[hT] at e
      cases e
      exact .inr (.inl ⟨(hC.tab hT).isCodeTable,U,#[],more,U,gT⟩)
     ·exact .inl (kept b o e hb)
    ·by_cases hb:b=T
     ·subst hb
      exact⟨_,gT⟩
     ·exact⟨o,kept b o e hb⟩
 cases hk:K.lookup a with
 | some o =>
  have e:=KX a o hk
  rw[ha] at e
  cases e
  exact key (fun _=>none) (fun b u z=>by cases z) (.inr ⟨_,vs.toArray,_,hk,rfl,rfl,rfl,by rw[Ul,nl];exact hl,by simpa using rv⟩) fun z=>absurd U z
 | none =>
  exact key (upd (fun _=>none) a (.frz { cls:=.type "list",data:=.seq vs.toArray } (.lst (ns.map V.int)))) (fun b u z=>by
   by_cases hb:b=a
   ·subst hb
    rw[aa] at z
    exact⟨U,(U5 z).symm⟩
   ·rw[aD hb] at z
    cases z) (.inl (.inr ⟨{ cls:=.type "list",data:=.seq vs.toArray },aa⟩)) fun _=>hk
theorem Jg {l:W.OpenLaw}{n k:Nat}{qp:Uq}{loose:Fh}{XP:(Ut->EW)->Va->Prop}{YP:U3->Va->Prop}{d:DefRec}{K:Params->Uw}{sp:U3->Sp}{x q:Ut}{T:Addr}
  (hn:l.most=some n) (hn2:n<=sizeLine) (hdf:d.params.defaults=[]) (hr:dF k abd)
  (hY:∀ (w:U3) (h:Va),YP w h->(K w.params).In h/\h.get? T=some (W.tabObj #[])) (hno:∀ w:U3,W.noTabs (K w.params)=true)
  (F:∀ (w:U3) (mg:Ut->EW) (fa:Addr) (h:Va),(K w.params).In h->h.Ns Us mg->mg d.name=some (.ref fa) →
   ∃ (fd:Vn) (c:Addr),PySem.W.codeHdIn (K w.params) c T=true/\(∀ (s:TV) (u:Value),aax s fd ⟨[u],[]⟩ [(x,u)]) ∧
    ∀ base:Va,(K w.params).In base->base.Ns Us mg->Bv mg c T base->aY l.prog w (K w.params) mg base CX0 k fa fd [x] (sp w))
  (hsp:∀ (w:U3) (H:Hp) (a:Addr) (ns:E9),ns.length<=n->TabOk H T q->SqL (K w.params) H a (ns.map V.int)->sp w [.ref a] H (fun v _=>v = .bl true) fun _ _ _=>False) :
  PySem.W.WalkO qp loose XP YP l.row.toRowW d [] (fun f vs=>PySem.call f vs):=by
 refine Att.ym hn hdf fun w s₀ s₁ mg mb fa o pm cd doc a vs ns G Y ho hd hcd hmg hobj hints hlen hg=>?_
 obtain⟨KX,hT⟩:=hY w _ Y
 obtain⟨fd,c,hc,hb,hF⟩:=F w mg fa _ KX G.T.g hmg
 have hC:=PySem.W.codeHd_of_K KX hc
 have hbm:s₁.heap.BuiltinsAt mg T:=by
  obtain⟨bm,ob,b1,b2,b3,b4,b5,b6⟩:=G.T.bmain
  refine⟨bm,ob,b1,b2,fun z=>?_,fun z=>?_,b3,b4,b5,b6⟩
  ·obtain⟨og,es,ep,e,d,_⟩:=G.T.g
   rw[z,e] at b3
   cases b3
   rw[d] at b6
   cases b6
  ·rw[z,hT] at b3
   cases b3
   cases b4
 exact GR KX G.T.g G.T.b G.T.builtins G.T.nolimit hg hobj hints (UL hlen hn2) hr hT hC hbm (hno w) hF hb fun H h1 h2=>hsp w H a ns hlen h1 h2
theorem Qk {X:Cx}{st:Stmt}{t:TS}(h:PS X.nox st t):PS X st t:=fun ZY s σ H D I z =>
 Vd (h ZY s σ H D (I.wish _) z) (fun _ _ q=>q.j9) fun _ _ y=>y.elim
structure Dx (P:Uq)(w:U3)(K:Ud)(mg:Ut->EW)(base:Va)(x:Ut)(k:Nat)(ps:Fh)(sp:Sp):Prop where
 ex:∃ (f:Addr) (fd:Vn),aY P w K mg base (XL P w) k f fd ps sp/\mg x=some (.ref f)/\Wa K (.ref f)=true/\Binds K fd ps []
theorem iB {P:Uq}{w:U3}{X:Cx}:Passes (XL P w) X E0:=fun _ _ _ _ _ _ _ ⟨_,_,_,_,_,_,_,z⟩=>z.elim
section
variable {X:Cx}{k j:Nat}{x:Ut}{ps:Fh}{sp:Sp}{p pos:Yg}{e:Expr}{es:E7}{t:TA}{E:XK}
theorem sO (D:Dx X.prog X.w X.K X.mg X.base x k ps sp)(hr:dF j X.A)(hx:Passes (XL X.prog X.w) X E)(ha:PA X (e::es) t)(hk:k<=j:=by first | decide | exact T6 _ | lia)(hg:Gl X x:=by rfl)
  (hdb:(x == ("__debug__" : Ut))=false:=by decide) (he:Ur (e::es) X.env=(false,VD e X.env)::Ur es X.env:=by rfl) (hpl:(Wt pos (Ur es X.env)).any (·.1)=false:=by rfl) :
  PE X (.Call (.Name x p) (e::es) [] pos) (GK sp [] E t):=by
 obtain⟨f,fd,F,hm,hkp,hb⟩:=D.ex
 exact FJ F (hr.mono hk) hg hm hkp hb .nil hx ha hdb he hpl
end
section
variable {P:Uq}{w:U3}{K:Uw}{mg:Ut->Option Value}{base:Va}
theorem Fun.okX {x qual:Ut}{st:Stmt}{f:Addr}{fd:Vn}{N ps:Fh}{k:Nat}{sp:Sp}(F:Fun K x qual st f fd)(S:aB N ps (au st))(len:∀ vs H Q E,sp vs H Q E->vs.length=ps.length)
  (hb:∀ (cdv:Value) (A:UW) (outer:Fk) (s:TV) (H:Hp) (vs:List V) (Q:VK) (E:XK),dF k (A.deeper (envOfC qual (au st) s.heap.objs.size f cdv))->sp vs H Q E →
   ∃ t,PSs (wA (XL P w) P w K mg base N qual (au st) f cdv A outer s H E) (aZ st) t/\t { nx:=fun _ H2=>Q .non H2,rt:=Q } (start N vs) H):aY P w K mg base (XL P w) (k+1) f fd ps sp:=by
 obtain⟨oc,od,kV,doc,pm,an,cdv,ct,osl,rfl,lk,hc⟩:=F.ex
 exact Lj lk hc S len fun A outer s H vs Q E hr hs=>hb cdv A outer s H vs Q E hr hs
end
theorem J3 {X:Cx}{scope:Wo}{NL:Fh}{cap:Fa}(c:mj X scope NL cap)(co:scope.isCoroutine=false:=by rfl)(gen:scope.isGenerator=false:=by rfl):Nf X scope NL cap :=
 ⟨⟨c.kind,co,gen,c.cell,fun x hx=>let ⟨_,hi⟩:=List.getElem?_of_mem hx;let ⟨_,_,_,z⟩:=c.at' _ x hi;z⟩,c.fr,c.len,fun k x e=>let ⟨i,a,b,_⟩:=c.at' k x e;⟨i,a,b⟩⟩
structure QK (K:Ud)(x qual:Ut)(st:Stmt)(f:Addr)(fd:Vn)(c:Addr):Prop where
 ex:∃ (oc:Value) (od:EZ) (kV doc pm:Value) (an:EZ) (ct:Value) (osl:Array (EW)),
  fd=Xq x qual (cu st) (aZ st) (au st) .none kV doc pm an (.ref c) ct/\K.lookup f=some ⟨oc,od,.func fd,osl⟩/\Yt K (.ref c) qual=true
theorem QK.ok {P:Uq}{w:U3}{K:Uw}{mg:Ut->EW}{base:Va}{x qual:Ut}{st:Stmt}{f c:Addr}{fd:Vn}{N ps:Fh}{k:Nat}{sp:Sp}(F:QK K x qual st f fd c)(S:aB N ps (au st))(len:∀ vs H Q E,sp vs H Q E->vs.length=ps.length)
  (hb:∀ (A:UW) (outer:Fk) (s:TV) (H:Hp) (vs:List V) (Q:VK) (E:XK),dF k (A.deeper (envOfC qual (au st) s.heap.objs.size f (.ref c)))->sp vs H Q E →
   ∃ t,PSs (wA CX0 P w K mg base N qual (au st) f (.ref c) A outer s H E).nox (aZ st) t/\t { nx:=fun _ H2=>Q .non H2,rt:=Q } (start N vs) H):aY P w K mg base CX0 (k+1) f fd ps sp:=by
 obtain⟨oc,od,kV,doc,pm,an,ct,osl,rfl,lk,hc⟩:=F.ex
 refine Lj lk hc S len fun A outer s H vs Q E hr hs=>?_
 obtain⟨t,h1,h2⟩:=hb A outer s H vs Q E hr hs
 exact⟨t,h1.nox,h2⟩
section
variable {prog:Uq}{w:U3}{A:UW}{R:Z3->TV->Prop}{E:ET}{s:TV}
end
section
variable {X:Cx}{k:Nat}
end
end L2
namespace L2
open PySem PySem.Spec PyProof.Rows PySem.W
section
variable {prog:Uq}{w:U3}{A:UW}{E:ET}{κ:SortKind}{it:Array Keyed}{s:TV}
end
section
variable {X:Cx}
end
end L2
namespace L2
open PySem PySem.Spec PyProof.Rows
section
variable {X:Cx}{k:Nat}
end
section
variable {prog:Uq}{w:U3}{A:UW}{R:Z3->TV->Prop}{E:ET}{s:TV}
end
section
variable {X:Cx}
end
section
variable {κ:Type}[DecidableEq κ]
def wH (kvs:List (κ × V))(k:κ):Option V:=(kvs.find? fun kv=>decide (kv.1=k)).map (·.2)
def putK (kvs:List (κ × V))(k:κ)(v:V):List (κ × V) :=
 if (kvs.any fun kv=>decide (kv.1=k))=true then kvs.map (fun kv=>if kv.1=k then (kv.1,v) else kv) else kvs++[(k,v)]
def nY (kvs:List (κ × V))(k:κ):List (κ × V):=kvs.filter fun kv=>decide (kv.1≠k)
theorem m7 {p:κ × V}{r:List (κ × V)}{k:κ}(e:p.1=k):wH (p::r) k=some p.2:=by simp [wH,Y5,e]
theorem j4 {p:κ × V}{r:List (κ × V)}{k:κ}(e:¬ p.1=k):wH (p::r) k=wH r k:=by simp [wH,Y5,e]
theorem rZ (k:κ):∀ kvs:List (κ × V),(kvs.any fun kv=>decide (kv.1=k))=(wH kvs k).isSome
 | []=>rfl
 | p::r=>by
  rw[X8]
  by_cases e:p.1=k
  ·simp only[m7 e,decide_eq_true e,Bool.true_or,Option.isSome_some]
  ·rw[j4 e,decide_eq_false e,aak];exact rZ k r
theorem oX (kvs:List (κ × V))(k:κ)(v:V):(putK kvs k v).length<=kvs.length+1:=by
 unfold putK
 split
 ·rw[TJ];lia
 ·rw[Ui,Uj,List.length_nil];lia
theorem zj {kvs:List (κ × V)}{k:κ}(v:V)(h:wH kvs k=none):putK kvs k v=kvs++[(k,v)]:=by
 unfold putK
 rw[rZ,h]
 exact if_neg (by decide)
theorem rB.Gm {o:Option V}{u:EW}(r:rB o u):o.isSome=u.isSome:=by
 cases o with
 | none=>cases u with
  | none=>rfl
  | some _=>exact (show False from r).elim
 | some _=>cases u with
  | none=>exact (show False from r).elim
  | some _=>rfl
theorem KV.val {kvs:List (κ × V)}{vs:List (κ × Value)}(r:KV kvs vs)(k:κ):rB (wH kvs k) (aaR vs k):=by
 unfold KV at r
 induction r with
 | nil=>exact Xw
 | @cons p q ps qs h t ih =>
  obtain⟨h1,h2⟩:=h
  by_cases e:p.1=k
  ·have e':q.1=k:=h1.symm.trans e
   have b:aaR (q::qs) k=some q.2:=by simp [aaR,Y5,e']
   rw[m7 e,b];exact h2
  ·have e':¬ q.1=k:=fun z=>e (h1.trans z)
   have b:aaR (q::qs) k=aaR qs k:=by simp [aaR,Y5,e']
   rw[j4 e,b];exact ih
theorem KV.any {kvs:List (κ × V)}{vs:List (κ × Value)}(r:KV kvs vs)(k:κ):(kvs.any fun kv=>decide (kv.1=k))=vs.any fun kv=>decide (kv.1=k):=by
 unfold KV at r
 induction r with
 | nil=>rfl
 | cons h t ih=>rw[X8,X8,ih,h.1]
theorem KV.repl {kvs:List (κ × V)}{vs:List (κ × Value)}(r:KV kvs vs)(k:κ){y:V}{u:Value}(ry:RelV y u) :
  KV (kvs.map fun kv=>if kv.1=k then (kv.1,y) else kv) (vs.map fun kv=>if kv.1=k then (kv.1,u) else kv):=by
 unfold KV at r ⊢
 induction r with
 | nil=>exact .nil
 | @cons p q ps qs h t ih =>
  rw[U0,U0]
  refine .cons ?_ ih
  obtain⟨h1,h2⟩:=h
  by_cases e:p.1=k
  ·rw[if_pos e,if_pos (h1.symm.trans e)];exact⟨h1,ry⟩
  ·rw[if_neg e,if_neg (fun z=>e (h1.trans z))];exact⟨h1,h2⟩
theorem KV.put {kvs:List (κ × V)}{vs:List (κ × Value)}(r:KV kvs vs)(k:κ){y:V}{u:Value}(ry:RelV y u):KV (putK kvs k y) (stored vs k u):=by
 unfold putK stored
 rw[r.any k]
 by_cases e:(vs.any fun kv=>decide (kv.1=k))=true
 ·rw[if_pos e,if_pos e];exact r.repl k ry
 ·rw[if_neg e,if_neg e];exact Paired.snoc r ⟨U,ry⟩
theorem KV.drop {kvs:List (κ × V)}{vs:List (κ × Value)}(r:KV kvs vs)(k:κ):KV (nY kvs k) (without vs k):=by
 unfold KV at r ⊢
 unfold nY without
 induction r with
 | nil=>exact .nil
 | @cons p q ps qs h t ih =>
  obtain⟨h1,h2⟩:=h
  rw[XQ,XQ]
  by_cases e:p.1=k
  ·have a:¬ decide (p.1≠k)=true:=by simp [e]
   have b:¬ decide (q.1≠k)=true:=by simp [h1.symm.trans e]
   rw[if_neg a,if_neg b];exact ih
  ·have e':¬ q.1=k:=fun z=>e (h1.trans z)
   have a:decide (p.1≠k)=true:=by simp [e]
   have b:decide (q.1≠k)=true:=by simp [e']
   rw[if_pos a,if_pos b];exact .cons ⟨h1,h2⟩ ih
theorem KV.length {kvs:List (κ × V)}{vs:List (κ × Value)}(r:KV kvs vs):kvs.length=vs.length:=Paired.length r
theorem Ip (kvs:List (κ × V))(k:κ):(nY kvs k).length<=kvs.length:=Vj _ _
end
theorem Jh {P:Uq}{w:U3}{k:Key}{u:Value}(r:RelV (kV k) u):(cU P w).is k u=true:=by
 cases k with
 | inl i=>obtain⟨t,e⟩:=(show ∃ t,u=Xj i t from r);subst e;exact xZ P w i t
 | inr x=>obtain⟨t,e⟩:=(show ∃ t,u=aaU x t from r);subst e;exact yg P w x t
theorem vO {P:Uq}{w:U3}:∀ {ks:List Key} {us:E4},Vals (ks.map kV) us->ItemsAre (cU P w) ks us
 | [],_,r=>by rw[List.map_nil] at r;cases r;exact .nil
 | k::ks,_,r=>by
  rw[U0] at r
  cases r with
  | cons h t=>exact .cons (Jh h) (vO t)
abbrev KT (H:Hp):List (List Key × V)->List (List Key × Addr × Value)->Prop:=Paired fun p q=>p.1=q.1/\H q.2.1=some (.tup (p.1.map kV))/\RelV p.2 q.2.2
theorem KT.val {H:Hp}{kvs:List (List Key × V)}{xs:List (List Key × Addr × Value)}(r:KT H kvs xs)(k:List Key):rB (wH kvs k) ((atKey xs k).map (·.2)):=by
 induction r with
 | nil=>exact Xw
 | @cons p q ps qs h t ih =>
  obtain⟨h1,_,h2⟩:=h
  by_cases e:p.1=k
  ·have e':q.1=k:=h1.symm.trans e
   have b:atKey (q::qs) k=some q.2:=by simp [atKey,Y5,e']
   rw[m7 e,b];exact h2
  ·have e':¬ q.1=k:=fun z=>e (h1.trans z)
   have b:atKey (q::qs) k=atKey qs k:=by simp [atKey,Y5,e']
   rw[j4 e,b];exact ih
theorem KT.repl {H:Hp}{kvs:List (List Key × V)}{xs:List (List Key × Addr × Value)}(r:KT H kvs xs)(k:List Key){y:V}{u:Value}(ry:RelV y u) :
  KT H (kvs.map fun kv=>if kv.1=k then (kv.1,y) else kv) (xs.map (putAt k u)):=by
 induction r with
 | nil=>exact .nil
 | @cons p q ps qs h t ih =>
  rw[U0,U0]
  refine .cons ?_ ih
  obtain⟨h1,h2,h3⟩:=h
  unfold putAt
  by_cases e:p.1=k
  ·rw[if_pos e,if_pos (h1.symm.trans e)];exact⟨h1,h2,ry⟩
  ·rw[if_neg e,if_neg (fun z=>e (h1.trans z))];exact⟨h1,h2,h3⟩
theorem KT.put {H:Hp}{kvs:List (List Key × V)}{xs:List (List Key × Addr × Value)}(r:KT H kvs xs)(k:List Key){b:Addr}{y:V}{u:Value}(hb:H b=some (.tup (k.map kV)))(ry:RelV y u) :
  KT H (putK kvs k y) (storedH xs k b u):=by
 have e:(kvs.any fun kv=>decide (kv.1=k))=(atKey xs k).isSome:=by
  rw[rZ,(r.val k).Gm,Option.isSome_map]
 unfold putK storedH
 rw[e]
 by_cases q:(atKey xs k).isSome=true
 ·rw[if_pos q,if_pos q];exact r.repl k ry
 ·rw[if_neg q,if_neg q];exact Paired.snoc r ⟨U,hb,ry⟩
theorem KT.keeps {H H':Hp}{kvs:List (List Key × V)}{xs:List (List Key × Addr × Value)}(r:KT H kvs xs)(ht:∀ b ys,H b=some (.tup ys)->H' b=some (.tup ys)):KT H' kvs xs :=
 Paired.Ry r fun _ _ z=>⟨z.1,ht _ _ z.2.1,z.2.2⟩
section
variable {P:Uq}{w:U3}{H:Hp}{h:Va}{a:Addr}
theorem Qx {u:HO}(ok:HOk P w H h)(e:Rd H a u):cX P w H h a u:=e.ok ok
theorem CW {kvs:List (Key × V)}(ok:HOk P w H h)(e:Rd H a (.dK kvs)):kvs.length<=sizeLine/\(a == Yj)=false/\∃ vs,KV kvs vs/\h.DictOf (cU P w) a vs :=
 show cX P w H h a (.dK kvs) from Qx ok e
theorem Nq {kvs:List (Key × V)}(ok:HOk P w H h)(e:H a=some (.dK kvs)):kvs.length<=sizeLine/\(a == Yj)=false/\∃ vs,KV kvs vs/\h.DictOf (cU P w) a vs:=CW ok (.inl e)
theorem Eb {ks:List Key}(ok:HOk P w H h)(e:H a=some (.tup (ks.map kV))):(abp (cU P w)).is h ks a:=by
 obtain⟨_,its,r,o,h1,h2,n,h3⟩:=(show cX P w H h a (.tup (ks.map kV)) from ok a _ e)
 exact⟨o,its.toArray,n,h1,h2,h3,by simpa using vO r⟩
theorem JF {kvs:List (List Key × V)}(ok:HOk P w H h)(e:Rd H a (.dT kvs)):kvs.length<=sizeLine/\(a == Yj)=false ∧
  ∃ xs,KT H kvs xs/\h.DictOfH (abp (cU P w)) a xs:=by
 obtain⟨z,y,xs,r,o,es,ep,h1,h2,h3,h4,h5⟩:=(show cX P w H h a (.dT kvs) from Qx ok e)
 refine⟨z,y,xs,r,o,es,ep,h1,h2,h3,h4,fun x hx=>?_,h5⟩
 have all:∀ {l:List (List Key × V)} {m:List (List Key × Addr × Value)},KT H l m->∀ x∈m,(abp (cU P w)).is h x.1 x.2.1:=by
  intro l m q
  induction q with
  | nil=>intro x hx;exact nomatch hx
  | @cons p q ps qs hq t ih =>
   intro x hx
   rcases List.mem_cons.mp hx with e | hx
   ·subst e
    exact Eb ok (by rw[← hq.1];exact hq.2.1)
   ·exact ih x hx
 exact all r x hx
theorem QW {kvs:List (List Key × V)}(ok:HOk P w H h)(e:H a=some (.dT kvs)):kvs.length<=sizeLine/\(a == Yj)=false ∧
  ∃ xs,KT H kvs xs/\h.DictOfH (abp (cU P w)) a xs:=JF ok (.inl e)
end
def Ij (H:Hp)(a:Addr)(y:V)(r:Option V):Prop :=
 (∃ kvs k,Rd H a (.dK kvs)/\y=kV k/\r=wH kvs k)∨∃ kvs k b,Rd H a (.dT kvs)/\y = .ref b/\H b=some (.tup (k.map kV))/\r=wH kvs k
def Nx (H:Hp)(a:Addr)(y v:V)(H':Hp):Prop :=
 (∃ kvs k,H a=some (.dK kvs)/\y=kV k/\kvs.length < sizeLine/\H'=upd H a (.dK (putK kvs k v))) ∨
 ∃ kvs k b,H a=some (.dT kvs)/\y = .ref b/\H b=some (.tup (k.map kV))/\kvs.length < sizeLine/\H'=upd H a (.dT (putK kvs k v))
theorem Ij.k {H:Hp}{a:Addr}{kvs:List (Key × V)}{k:Key}(e:H a=some (.dK kvs)):Ij H a (kV k) (wH kvs k):=.inl ⟨kvs,k,.inl e,U,U⟩
theorem Nx.k {H:Hp}{a:Addr}{kvs:List (Key × V)}{k:Key}{v:V}(e:H a=some (.dK kvs))(hl:kvs.length < sizeLine):Nx H a (kV k) v (upd H a (.dK (putK kvs k v))):=.inl ⟨kvs,k,e,U,hl,U⟩
section
variable {X:Cx}{ZY:EQ}{σ:St}{H:Hp}{s:TV}{a:Addr}{y v:V}{u r:Value}{o:Option V}{A:UW}{E:ET}
theorem Inv.big (I:Inv X ZY σ H s):Yj < s.heap.objs.size:=by
 have h:Us < s.heap.objs.size:=(I.mod.glob.keeps I.bk).lt
 exact aau (by decide) h
theorem Ge {Q:ET}(hu:A.units+1 < cLine)(I:Inv X ZY σ H s)(g:Ij H a y (some v))(ry:RelV y u)(h:∀ w' s',Inv X ZY σ H s'->RelV v w'->Q w' s') :
  T7 (Ue X.prog X.w) A (aaS (.ref a) u) Q E s:=by
 rcases g with⟨kvs,k,e,ey,l⟩ | ⟨kvs,k,b,e,ey,eb,l⟩
 ·subst ey
  obtain⟨z,hd,vs,rel,dd⟩:=CW I.hok e
  obtain⟨w',hw,rw'⟩:=rB.some_of (v:=v) (o:=aaR vs k) (by rw[l];exact rel.val k)
  exact wpAny_getItem_of (Jh ry) dd.mapOf hw (h w' _ (I.tok _) rw')
 ·subst ey
  cases (show u=Uk b from ry)
  obtain⟨z,hd,xs,rel,dd⟩:=JF I.hok e
  obtain⟨w',hw,rw'⟩:=rB.some_of (v:=v) (o:=(atKey xs k).map (·.2)) (by rw[l];exact rel.val k)
  obtain⟨p,hp,hp2⟩:=Option.map_eq_some_iff.mp hw
  refine wpAny_getItem_heap (tupleKind_room_in1 hu) (Eb I.hok eb) dd hp ?_
  rw[hp2]
  exact h w' _ (I.tok _) rw'
theorem yo {h':Va}{t':Nat}{ob:HO}(I:Inv X ZY σ H s)(mu:Mut (H a))(hs:Wl a s.heap h')(he:∃ q,h'.get? a=some q)(new:cX X.prog X.w (upd H a ob) h' a ob) :
  Inv X ZY σ (upd H a ob) { s with heap:=h',toks:=t' } :=
 I.write (x:=a) (e:=a) mu (.inl U) (fun b q hb z=>(hs.2 b hb).trans z) he new
theorem Ku {P:Uq}{w:U3}{H':Hp}{h':Va}{kvs:List (Key × V)}{vs:List (Key × Value)}(z:kvs.length<=sizeLine)(hd:(a == Yj)=false)(rel:KV kvs vs)(dd:h'.DictOf (cU P w) a vs) :
  cX P w H' h' a (.dK kvs):=⟨z,hd,vs,rel,dd⟩
theorem Dk {H':Hp}{Q:Unit->TV->Prop}(hu:A.units+1 < cLine)(I:Inv X ZY σ H s)(g:Nx H a y v H')(ry:RelV y u)(rv:RelV v r)(h:∀ s',Inv X ZY σ H' s'->Q () s') :
  T7 (Ue X.prog X.w) A (setItem (.ref a) u r) Q E s:=by
 rcases g with⟨kvs,k,e,ey,l,eH⟩ | ⟨kvs,k,b,e,ey,eb,l,eH⟩
 ·subst ey eH
  obtain⟨z,hd,vs,rel,dd⟩:=Nq I.hok e
  have hz:vs.length<=sizeLine:=by rw[← rel.length];exact z
  have hl:(putK kvs k v).length<=sizeLine:=by have:=oX kvs k v;lia
  refine wpAny_setItem_pairs (hsz:=hz) (Jh ry) dd fun h' dd' hs=>h _ ?_
  have he:∃ q,h'.get? a=some q:=let ⟨q,_,_,hq,_⟩:=dd';⟨q,hq⟩
  exact yo I (by rw[e];exact Xw) hs he (Ku hl hd (rel.put k rv) dd')
 ·subst ey eH
  cases (show u=Uk b from ry)
  obtain⟨z,hd,xs,rel,dd⟩:=QW I.hok e
  have hz:xs.length<=sizeLine:=by rw[← Paired.length rel];exact z
  have hl:(putK kvs k v).length<=sizeLine:=by have:=oX kvs k v;lia
  refine wpAny_setItem_heap (hsz:=hz) (tupleKind_room_in1 hu) (Eb I.hok eb) dd fun h' dd' hs=>h _ ?_
  obtain⟨q,es,ep,hq,h2,h3,h4,_,h5⟩:=dd'
  refine yo I (by rw[e];exact Xw) hs ⟨q,hq⟩ ⟨hl,hd,_,(rel.put k eb rv).keeps fun c ys ec=>?_,q,es,ep,hq,h2,h3,h4,h5⟩
  rw[aD (Ru ec e (fun z=>nomatch z))]
  exact ec
end
section
variable {X:Cx}{ZY:EQ}{σ:St}{H:Hp}{s:TV}{a:Addr}{kvs:List (Key × V)}{k:Key}{u:Value}{A:UW}{E:ET}
theorem Q9 {v:V}{more:E4}{Q:ET}(I:Inv X ZY σ H s)(e:H a=some (.dK kvs))(ry:RelV (kV k) u)(l:wH kvs k=some v)(hm:more=[]∨∃ x,more=[x])
  (h:∀ w' s',Inv X ZY σ (upd H a (.dK (nY kvs k))) s'->RelV v w'->Q w' s'):T7 (Ue X.prog X.w) A (call (.builtin "dict.pop") (.ref a::u::more)) Q E s:=by
 obtain⟨z,hd,vs,rel,dd⟩:=Nq I.hok e
 obtain⟨w',hw,rw'⟩:=rB.some_of (v:=v) (o:=aaR vs k) (by rw[← l];exact rel.val k)
 have hp:(keyPart u).isSome=true:=by
  cases k with
  | inl i=>obtain⟨t,q⟩:=(show ∃ t,u=Xj i t from ry);subst q;rfl
  | inr x=>obtain⟨t,q⟩:=(show ∃ t,u=aaU x t from ry);subst q;rfl
 have ha:Z2 "dict.pop" ⟨.ref a::u::more,[]⟩:=by
  rcases hm with q | ⟨x,q⟩
  ·subst q;exact PySem.F.args_dict_pop_2 _ _
  ·subst q;exact PySem.F.args_dict_pop_3 _ _ _
 refine call_meetsIn PySem.F.slot_dict_pop dd.typeIs PySem.F.entry_dict_pop ha (meets_dict_pop_there (cU X.prog X.w) a (Jh ry) more hm hp)
  ⟨vs,w',dd,by rw[← rel.length];exact z,hw,fun h' dd' hs=>h w' _ ?_ rw'⟩
 have he:∃ q,h'.get? a=some q:=let ⟨q,_,_,hq,_⟩:=dd';⟨q,hq⟩
 exact yo I (by rw[e];exact Xw) hs he (Ku (UL (Ip kvs k) z) hd (rel.drop k) dd')
theorem Rt {Q:ET} (I:Inv X ZY σ H s) (e:Rd H a (.dK kvs)) (h:∀ t s',Inv X ZY σ H s'->Q (.int kvs.length t) s'):T7 (Ue X.prog X.w) A (call (.builtin "len") [.ref a]) Q E s:=by
 obtain⟨z,hd,vs,rel,dd⟩:=CW I.hok e
 refine call_len_dict hd dd (by rw[← rel.length];rw[abB] at z;lia) ?_
 rw[← rel.length]
 exact h _ _ (I.tok _)
end
def Sy (i:Expr):Prop:=∀ ov iv,abA i false ov iv=operate [ov,iv] (aaS ov iv)
theorem Mh {prog:Uq}{w:U3}{A:UW}{E:ET}{s:TV}{env:Zz}{value slice:Expr}{pos:Yg}{T id:String}{Q:ET}
  (hl:ZX (.type T) "__getitem__" = pure (some (.builtin id))) (hs:Sy slice)
  (h:T7 (Ue prog w) A (VD value env) (fun o s₁=>T7 (Ue prog w) A (VD slice env) (fun i s₂=>s₂.TypeIs o T/\T7 (Ue prog w) A (aaS o i) Q E s₂) E s₁) E s) :
  T7 (Ue prog w) A (VD (.Subscript value slice pos) env) Q E s:=by
 refine Subscript_ (Vd h (fun o s₁ h₁=>Vd h₁ (fun i s₂ h₂=>?_) fun _ _ x=>x) fun _ _ x=>x)
 obtain⟨hT,h₂⟩:=h₂
 unfold subscriptTail
 refine TF ?_
 rw[getitemInPython_of_ne hT.not_modules]
 refine TF (ZD hT hl ?_)
 have fin:T7 (Ue prog w) A (abA slice false o i) (fun r s₃=>T7 (Ue prog w) A (letTemporaryGo value o r >>= fun _=>pure r) Q E s₃) E s₂:=by
  rw[hs o i]
  exact wpAny_operating (Vd h₂ (fun r s₃ h₃=>TF (wpAny_letTemporaryGo (TX h₃))) fun _ _ x=>x)
 first
  | exact TX (TF fin)
  | exact TF (TX (TF fin))
  | exact TF fin
theorem xJ {X:Cx} {ZY:EQ} {σ:St} {H:Hp} {s:TV} {a:Addr} {y:V} {o:Option V} (I:Inv X ZY σ H s) (g:Ij H a y o):s.TypeIs (.ref a) "dict":=by
 rcases g with⟨kvs,k,e,_,_⟩ | ⟨kvs,k,b,e,_,_,_⟩
 ·obtain⟨_,_,vs,_,dd⟩:=CW I.hok e
  exact dd.typeIs
 ·obtain⟨_,_,xs,_,dd⟩:=JF I.hok e
  exact dd.typeIs
def Rn (td ty:TE):TE:=fun σ H Q=>td σ H fun x H1=>ty σ H1 fun y H2=>∃ a v,x = .ref a/\Ij H2 a y (some v)/\Q v H2
def Q4 (td ty tv:TE):TS:=fun D σ H=>tv σ H fun v H1=>td σ H1 fun x H2=>ty σ H2 fun y H3=>∃ a H4,x = .ref a/\Nx H3 a y v H4/\D.nx σ H4
section
variable {X:Cx}{o i e value:Expr}{pos pos' tpos:Yg}{td ty tv:TE}
theorem CK (hu:X.A.units+1 < cLine)(ho:PE X o td)(hi:PE X i ty)(hs:Sy i):PE X (.Subscript o i pos) (Rn td ty):=by
 intro ZY s σ H Q I h
 refine Mh PySem.F.slot_dict_getitem.lookup hs (thn (ho ZY s σ H _ I h) fun u s1 ⟨x,H1,I1,rx,q1⟩=>thn (hi ZY s1 σ H1 _ I1 q1) fun iv s2 ⟨y,H2,I2,ry,a,v,ex,g,q2⟩=>?_)
 subst ex
 obtain rfl:u=Uk a:=rx
 exact⟨xJ I2 g,Ge hu I2 g ry fun w' s3 I3 rw'=>⟨v,H2,I3,rw',q2⟩⟩
theorem Ci (hu:X.A.units+1 < cLine)(ho:PE X o td)(hi:PE X i ty)(hv:PE X value tv)(hs:ZR value (some (.Subscript o i pos')) pos.line X.env=pure false) :
  PS X (.Assign [.Subscript o i pos'] value pos) (Q4 td ty tv):=by
 intro ZY s σ H D I h
 refine wpAny_Assign_Subscript (thn (hv ZY s σ H _ I h) fun r s1 ⟨v,H1,I1,rv,q1⟩=>thn (ho ZY s1 σ H1 _ I1 q1) fun u s2 ⟨x,H2,I2,rx,q2⟩=>thn (hi ZY s2 σ H2 _ I2 q2) fun iv s3 ⟨y,H3,I3,ry,a,H4,ex,g,q3⟩=>?_) hs
 subst ex
 obtain rfl:u=Uk a:=rx
 exact Dk hu I3 g ry rv fun s4 I4=>⟨σ,H4,I4,q3⟩
end
theorem HQ {P:Uq}{w:U3}{H:Hp}(h:Va)(hb:Yj < h.objs.size):cX P w H (h.push { cls:=.type "dict",data:=.dict #[] }) h.objs.size (.dK []) :=
 ⟨U9 _,beq_eq_false_iff_ne.mpr (VM (Um hb)),[],.nil,Heap.DictOf.new h⟩
def Pq:TE:=fun _ H Q=>∀ p,H p=none->Q (.ref p) (upd H p (.dK []))
section
variable {X:Cx}{pos:Yg}
theorem Ji:PE X (.Dict [] [] pos) Pq:=fun ZY s σ H Q I h =>
 wpAny_Dict_empty ⟨.ref s.heap.objs.size,_,I.laid (a:=s.heap.objs.size) (o:=.dK []) (t':=s.toks) (fun _ _ q=>TQ _ q) (T6 _) (HQ s.heap I.big),U,h _ (I.hok.fresh (T6 _))⟩
end
structure M1 (X:Cx)(o:Expr)(m:Ut)(apos:Yg)(e:Expr)(cpos:Yg):Prop where
 base:YS o m X.env (VD o X.env)=VD o X.env
 few:((Wt cpos (Ur [e] X.env)).all (fun x=>!x.1) && (Z1 cpos (Yk [] X.env)).all (fun x=>x.1.isSome)
  && decide (([e]:E7).length+([]:EX).length+(if ([]:EX).isEmpty then 0 else 1) < 30))=true
 line:(apos.endLine == cpos.line)=true
 trees:Wt cpos (Ur [e] X.env)=[(false,VD e X.env)]
def IsD (H:Hp)(a:Addr):Prop:=(∃ kvs,Rd H a (.dK kvs))∨∃ kvs,Rd H a (.dT kvs)
theorem Qj {X:Cx}{ZY:EQ}{σ:St}{H:Hp}{s:TV}{a:Addr}(I:Inv X ZY σ H s)(d:IsD H a) :
  s.TypeIs (.ref a) "dict"/\(∀ b,Uk a = .ref b->∃ ob,s.heap.get? b=some ob/\ob.dict=none)/\(a == Yj)=false:=by
 rcases d with⟨kvs,e⟩ | ⟨kvs,e⟩
 ·obtain⟨_,hd,vs,_,dd⟩:=CW I.hok e
  refine⟨dd.typeIs,fun b q=>?_,hd⟩
  cases q
  obtain⟨ob,_,_,h1,h2,_⟩:=dd
  exact⟨ob,h1,h2.2.1⟩
 ·obtain⟨_,hd,xs,_,dd⟩:=JF I.hok e
  refine⟨dd.typeIs,fun b q=>?_,hd⟩
  cases q
  obtain⟨ob,_,_,h1,h2,_⟩:=dd
  exact⟨ob,h1,h2.2.1⟩
section
variable {X:Cx}{ZY:EQ}{σ:St}{H:Hp}{s:TV}{a:Addr}{y d:V}{u r:Value}{o:Option V}{A:UW}{E:ET}
end
def Qt (td ty:TE):TE:=fun σ H Q=>td σ H fun x H1=>∃ a,x = .ref a/\IsD H1 a/\ty σ H1 fun y H2=>∃ kvs k v,H2 a=some (.dK kvs)/\y=kV k/\wH kvs k=some v/\Q v (upd H2 a (.dK (nY kvs k)))
section
variable {X:Cx}{o e f:Expr}{apos cpos:Yg}{td ty tx:TE}
theorem IK (ho:PE X o td) (he:PE X e ty) (m:M1 X o "pop" apos e cpos):PE X (.Call (.Attribute o "pop" apos) [e] [] cpos) (Qt td ty):=by
 intro ZY s σ H Q I h
 refine wpAny_Call_method m.base m.few m.line PySem.F.plainAttrs_dict PySem.F.slot_dict_pop PySem.F.type_dict_pop (thn (ho ZY s σ H _ I h) fun u s1 ⟨x,H1,I1,rx,a,ex,d,q1⟩=>?_)
 subst ex
 obtain rfl:u=Uk a:=rx
 obtain⟨t1,t2,_⟩:=Qj I1 d
 refine⟨t1,t2,?_⟩
 rw[m.trees]
 refine Calls.callWith_builtin U (Calls.evalArgs_plain (Z6 (thn (he ZY s1 σ H1 _ I1 q1) fun iv s2 ⟨y,H2,I2,ry,kvs,k,v,ea,ey,l,q2⟩=>aae ?_)))
 subst ey
 exact Q9 I2 ea ry l (.inl U) fun w' s3 I3 rw'=>⟨v,_,I3,rw',q2⟩
end
section
variable {X:Cx}{ZY:EQ}{σ:St}{H:Hp}{s:TV}{a:Addr}{kvs:List (Key × V)}{A:UW}{E:ET}
end
section
variable {X:Cx}{ZY:EQ}{σ:St}{H:Hp}{s:TV}{a:Addr}{y:V}{u:Value}{A:UW}{E:ET}
end
theorem dF.yS {k:Nat}{A:UW}(r:dF k A):A.units+1 < cLine:=by have:=r.un;lia
section
variable {X:Cx}{ZY:EQ}{σ:St}{H:Hp}{s:TV}{a b:Addr}{v:V}{r:Value}{A:UW}{E:ET}
end
inductive HasDef (K:Ud)(x:Ut)(st:Stmt)(f:Addr):Prop where
 | mk {od an:EZ} {sl:Array (EW)} {oc kV dc pm cd ct:Value} (a:PySem.W.nsIn K Us x=some (some (.ref f))) (l:K.lookup f=some ⟨oc,od,.func (Xq x x (cu st) (aZ st) (au st) .none kV dc pm an cd ct),sl⟩) (c:Yt K cd x=true) (k:Wa K (.ref f)=true):HasDef K x st f
section
variable {P:Uq}{w:U3}{K:Uw}{mg:Ut->Option Value}{base h:Va}{x:Ut}{st:Stmt}{f:Addr}{ps:List Ut}{sp:Sp}{k:Nat}
theorem HasDef.name (q:HasDef K x st f)(X:K.In h)(G:h.Ns Us mg):mg x=some (.ref f):=by
 obtain⟨a,l,c,k⟩:=q
 exact Zn X G a
theorem HasDef.df (q:HasDef K x st f)(X:K.In h)(G:h.Ns Us mg)(hb:∀ fd,Fun K x x st f fd->Binds K fd ps [])(ok:∀ fd,Fun K x x st f fd->aY P w K mg base CX0 k f fd ps sp):Df P w K mg base x k ps sp:=by
 obtain⟨a,l,c,k⟩:=q
 have F:=pR l c k
 exact⟨⟨_,_,ok _ F,Zn X G a,k,hb _ F⟩⟩
theorem Ft {α:Type}:∀ {us:List α},us.length=1->∃ x0,us=[x0]
 | [x0],_=>⟨x0,U⟩
theorem Oz {α:Type}:∀ {us:List α},us.length=2->∃ x0 x1,us=[x0,x1]
 | [x0,x1],_=>⟨x0,x1,U⟩
theorem RD {α:Type}:∀ {us:List α},us.length=3->∃ x0 x1 x2,us=[x0,x1,x2]
 | [x0,x1,x2],_=>⟨x0,x1,x2,U⟩
theorem Tz {α:Type}:∀ {us:List α},us.length=4->∃ x0 x1 x2 x3,us=[x0,x1,x2,x3]
 | [x0,x1,x2,x3],_=>⟨x0,x1,x2,x3,U⟩
theorem Su {α:Type}:∀ {us:List α},us.length=5->∃ x0 x1 x2 x3 x4,us=[x0,x1,x2,x3,x4]
 | [x0,x1,x2,x3,x4],_=>⟨x0,x1,x2,x3,x4,U⟩
theorem bind1 {q a0:Ut}(h:∀ (kV doc pm:Value) (an:EZ) (cdv ct x0:Value),Ym (aaN x q (cu st) (aZ st) (au st) .none kV doc pm an cdv ct) ⟨[x0],[]⟩=pure [(a0,x0)]:=by intros;rfl):∀ fd,Fun K x q st f fd->Binds K fd [a0] []:=fun _ F=>F.binds fun kV doc pm an cdv ct us hl=>by
 obtain⟨x0,rfl⟩:=Ft hl
 exact h kV doc pm an cdv ct x0
theorem bJ {q a0 a1:Ut}(h:∀ (kV doc pm:Value) (an:EZ) (cdv ct x0 x1:Value),Ym (aaN x q (cu st) (aZ st) (au st) .none kV doc pm an cdv ct) ⟨[x0,x1],[]⟩=pure [(a0,x0),(a1,x1)]:=by intros;rfl):∀ fd,Fun K x q st f fd->Binds K fd [a0,a1] []:=fun _ F=>F.binds fun kV doc pm an cdv ct us hl=>by
 obtain⟨x0,x1,rfl⟩:=Oz hl
 exact h kV doc pm an cdv ct x0 x1
theorem iz {q a0 a1 a2:Ut}(h:∀ (kV doc pm:Value) (an:EZ) (cdv ct x0 x1 x2:Value),Ym (aaN x q (cu st) (aZ st) (au st) .none kV doc pm an cdv ct) ⟨[x0,x1,x2],[]⟩=pure [(a0,x0),(a1,x1),(a2,x2)]:=by intros;rfl):∀ fd,Fun K x q st f fd->Binds K fd [a0,a1,a2] []:=fun _ F=>F.binds fun kV doc pm an cdv ct us hl=>by
 obtain⟨x0,x1,x2,rfl⟩:=RD hl
 exact h kV doc pm an cdv ct x0 x1 x2
theorem Gf {q a0 a1 a2 a3:Ut}(h:∀ (kV doc pm:Value) (an:EZ) (cdv ct x0 x1 x2 x3:Value),Ym (aaN x q (cu st) (aZ st) (au st) .none kV doc pm an cdv ct) ⟨[x0,x1,x2,x3],[]⟩=pure [(a0,x0),(a1,x1),(a2,x2),(a3,x3)]:=by intros;rfl):∀ fd,Fun K x q st f fd->Binds K fd [a0,a1,a2,a3] []:=fun _ F=>F.binds fun kV doc pm an cdv ct us hl=>by
 obtain⟨x0,x1,x2,x3,rfl⟩:=Tz hl
 exact h kV doc pm an cdv ct x0 x1 x2 x3
theorem Ow {q a0 a1 a2 a3 a4:Ut}(h:∀ (kV doc pm:Value) (an:EZ) (cdv ct x0 x1 x2 x3 x4:Value),Ym (aaN x q (cu st) (aZ st) (au st) .none kV doc pm an cdv ct) ⟨[x0,x1,x2,x3,x4],[]⟩=pure [(a0,x0),(a1,x1),(a2,x2),(a3,x3),(a4,x4)]:=by intros;rfl):∀ fd,Fun K x q st f fd->Binds K fd [a0,a1,a2,a3,a4] []:=fun _ F=>F.binds fun kV doc pm an cdv ct us hl=>by
 obtain⟨x0,x1,x2,x3,x4,rfl⟩:=Su hl
 exact h kV doc pm an cdv ct x0 x1 x2 x3 x4
end
structure Dm2 (P:Uq)(w:U3)(K:Ud)(mg:Ut->EW)(base:Va)(C:Addr)(m:Ut)(k:Nat)(ps:Fh)(sp:Sp):Prop where
 ex:∃ (f:Addr) (fd:Vn),aY P w K mg base CX0 k f fd ps sp/\Cls K C/\Meth K C m f/\Binds K fd ps []
structure Dk2 (P:Uq)(w:U3)(K:Ud)(mg:Ut->EW)(base:Va)(x:Ut)(C:Addr)(k:Nat)(ps:Fh)(sp:Sp):Prop where
 ex:∃ (f:Addr) (fd:Vn),aY P w K mg base CX0 k f fd ps sp/\Mk K C f/\mg x=some (.ref C)/\Binds K fd ps []
section
variable {X:Cx}{k j:Nat}{x m:Ut}{C:Addr}{ps:Fh}{sp:Sp}{p pos apos:Yg}{o e:Expr}{es:E7}{to:TE}{t:TA}{f:Ut}
theorem Fy {pl:Sem Bool}(D:Dm2 X.prog X.w X.K X.mg X.base C m k ps sp)(hr:dF j X.A)(ho:PE X o to)(ha:PA X (e::es) t)(hk:k<=j:=by first | decide | exact T6 _ | lia)
  (hst:Ur (e::es) X.env=(false,VD e X.env)::Ur es X.env:=by rfl) (hpl:(Wt pos (Ur es X.env)).any (·.1)=false:=by rfl)
  (ht:VD (.Call (.Attribute o m apos) (e::es) [] pos) X.env=(do
   let ov ← VD o X.env
   YB apos.atName
   let (f,first) ← YZ [ov] (Zi ov m pl)
   aaM pos f first (Wt pos (Ur (e::es) X.env)) (Z1 pos (Yk [] X.env))):=by rfl) :
  PE X (.Call (.Attribute o m apos) (e::es) [] pos) (EY C m sp [] E0 to t):=by
 obtain⟨f,fd,F,c,hm,hb⟩:=D.ex
 exact DY ho c hm F (hr.mono hk) hb .nil lF ha hst hpl ht
theorem Cr (D:Dk2 X.prog X.w X.K X.mg X.base x C k ps sp)(hr:dF j X.A)(ha:PA X (e::es) t)(hk:k+1<=j:=by first | decide | exact T6 _ | lia)(hg:Gl X x:=by rfl)
  (hdb:(x == ("__debug__" : Ut))=false:=by decide) (he:Ur (e::es) X.env=(false,VD e X.env)::Ur es X.env:=by rfl) (hpl:(Wt pos (Ur es X.env)).any (·.1)=false:=by rfl) :
  PE X (.Call (.Name x p) (e::es) [] pos) (Ih C sp [] E0 t):=by
 obtain⟨f,fd,F,M,hm,hb⟩:=D.ex
 exact Lx M F (hr.mono hk) hg hm hb .nil lF ha hdb he hpl
theorem Ox (D:Dk2 X.prog X.w X.K X.mg X.base x C k ps sp)(hr:dF j X.A)(hk:k+1<=j:=by first | decide | exact T6 _ | lia)(hg:Gl X x:=by rfl)
  (hdb:(x == ("__debug__" : Ut))=false:=by decide):PE X (.Call (.Name x p) [] [] pos) (Ih C sp [] E0 BK):=by
 obtain⟨f,fd,F,M,hm,hb⟩:=D.ex
 exact Jf M F (hr.mono hk) hg hm hb .nil lF hdb
theorem kW (K:Uw)(hK:X.K=K)(he:PE X e to)(hb:YS e f X.env (VD e X.env)=VD e X.env:=by rfl):PE X (.Attribute e f pos) (Rf K to f):=by
 subst hK
 exact Qw he hb
end
section
variable {prog:Uq}{w:U3}{A:UW}{E:ET}{s:TV}
end
section
variable {X:Cx}
end
inductive ie (K:Ud)(x:Ut)(C:Addr):Prop where
 | mk (a:PySem.W.nsIn K Us x=some (some (.ref C))) (pg:Zm K C Str.empty=true) (hd:Yd K C=true) (po:abg K C=true) (sa:Vw K (.ref C) "__setattr__" = some (some (.builtin "object.__setattr__"))) (ms:abH K C=true) (kp:Wa K (.ref C)=true):ie K x C
inductive bW (K:Ud)(C:Addr)(m q:Ut)(st:Stmt)(f:Addr):Prop where
 | mk {od an:EZ} {sl:Array (EW)} {oc kV dc pm cd ct:Value} (a:Vw K (.ref C) m=some (some (.ref f))) (fn:abi K (.ref f)=true) (l:K.lookup f=some ⟨oc,od,.func (Xq m q (cu st) (aZ st) (au st) .none kV dc pm an cd ct),sl⟩) (c:Yt K cd q=true) (k:Wa K (.ref f)=true):bW K C m q st f
section
variable {P:Uq}{w:U3}{K:Uw}{mg:Ut->Option Value}{base h:Va}{x m q:Ut}{st:Stmt}{C f:Addr}{ps:List Ut}{sp:Sp}{k:Nat}
theorem ie.cl (c:ie K x C):Cls K C:=by
 obtain⟨_,pg,hd,po,sa,_,_⟩:=c
 exact⟨pg,hd,po,sa⟩
theorem bW.dm (o:bW K C m q st f)(c:ie K x C)(hb:∀ fd,Fun K m q st f fd->Binds K fd ps [])(ok:∀ fd,Fun K m q st f fd->aY P w K mg base CX0 k f fd ps sp):Dm2 P w K mg base C m k ps sp:=by
 obtain⟨a,fn,l,cd,k⟩:=o
 have F:=pR l cd k
 exact⟨⟨_,_,ok _ F,c.cl,⟨a,fn,k⟩,hb _ F⟩⟩
theorem bW.dk (o:bW K C "__init__" q st f) (c:ie K x C) (X:K.In h) (G:h.Ns Us mg) (hb:∀ fd,Fun K "__init__" q st f fd->Binds K fd ps []) (ok:∀ fd,Fun K "__init__" q st f fd->aY P w K mg base CX0 k f fd ps sp):Dk2 P w K mg base x C k ps sp:=by
 obtain⟨a,fn,l,cd,k⟩:=o
 obtain⟨n,_,_,_,_,ms,kp⟩:=c
 have F:=pR l cd k
 exact⟨⟨_,_,ok _ F,⟨ms,a,fn,kp⟩,Zn X G n,hb _ F⟩⟩
end
structure Dmx (P:Uq)(w:U3)(K:Ud)(mg:Ut->EW)(base:Va)(C:Addr)(m:Ut)(k:Nat)(ps:Fh)(sp:Sp):Prop where
 ex:∃ (f:Addr) (fd:Vn),aY P w K mg base (XL P w) k f fd ps sp/\Cls K C/\Meth K C m f/\Binds K fd ps []
section
variable {X:Cx}{k j:Nat}{m:Ut}{C:Addr}{ps:Fh}{sp:Sp}{pos apos:Yg}{o e:Expr}{es:E7}{to:TE}{t:TA}{E:XK}
theorem qL {pl:Sem Bool}(D:Dmx X.prog X.w X.K X.mg X.base C m k ps sp)(hr:dF j X.A)(hx:Passes (XL X.prog X.w) X E)(ho:PE X o to)(ha:PA X (e::es) t)(hk:k<=j:=by first | decide | exact T6 _ | lia)
  (hst:Ur (e::es) X.env=(false,VD e X.env)::Ur es X.env:=by rfl) (hpl:(Wt pos (Ur es X.env)).any (·.1)=false:=by rfl)
  (ht:VD (.Call (.Attribute o m apos) (e::es) [] pos) X.env=(do
   let ov ← VD o X.env
   YB apos.atName
   let (f,first) ← YZ [ov] (Zi ov m pl)
   aaM pos f first (Wt pos (Ur (e::es) X.env)) (Z1 pos (Yk [] X.env))):=by rfl) :
  PE X (.Call (.Attribute o m apos) (e::es) [] pos) (EY C m sp [] E to t):=by
 obtain⟨f,fd,F,c,hm,hb⟩:=D.ex
 exact DY ho c hm F (hr.mono hk) hb .nil hx ha hst hpl ht
theorem Mf {pl:Sem Bool}(D:Dmx X.prog X.w X.K X.mg X.base C m k ps sp)(hr:dF j X.A)(hx:Passes (XL X.prog X.w) X E)(ho:PE X o to)(hk:k<=j:=by first | decide | exact T6 _ | lia)
  (ht:VD (.Call (.Attribute o m apos) [] [] pos) X.env=(do
   let ov ← VD o X.env
   YB apos.atName
   let (f,first) ← YZ [ov] (Zi ov m pl)
   aaM pos f first (Wt pos (Ur [] X.env)) (Z1 pos (Yk [] X.env))):=by rfl) :
  PE X (.Call (.Attribute o m apos) [] [] pos) (EY C m sp [] E to BK):=by
 obtain⟨f,fd,F,c,hm,hb⟩:=D.ex
 exact Hi ho c hm F (hr.mono hk) hb .nil hx ht
end
section
variable {P:Uq}{w:U3}{K:Uw}{mg:Ut->Option Value}{base h:Va}{x m q:Ut}{st:Stmt}{C f:Addr}{ps:List Ut}{sp:Sp}{k:Nat}
theorem bW.dmx (o:bW K C m q st f)(c:ie K x C)(hb:∀ fd,Fun K m q st f fd->Binds K fd ps [])(ok:∀ fd,Fun K m q st f fd->aY P w K mg base (XL P w) k f fd ps sp):Dmx P w K mg base C m k ps sp:=by
 obtain⟨a,fn,l,cd,k⟩:=o
 have F:=pR l cd k
 exact⟨⟨_,_,ok _ F,c.cl,⟨a,fn,k⟩,hb _ F⟩⟩
theorem HasDef.dx (q:HasDef K x st f)(X:K.In h)(G:h.Ns Us mg)(hb:∀ fd,Fun K x x st f fd->Binds K fd ps [])(ok:∀ fd,Fun K x x st f fd->aY P w K mg base (XL P w) k f fd ps sp):Dx P w K mg base x k ps sp:=by
 obtain⟨a,l,c,k⟩:=q
 have F:=pR l c k
 exact⟨⟨_,_,ok _ F,Zn X G a,k,hb _ F⟩⟩
end
section
variable {X:Cx}
end
inductive cY (K:Ud)(x q:Ut)(C fi:Addr)(st:Stmt)(bm:E4):Prop where
 | mk {nm qn:Ut} {N:Addr} {bs sub:E4} {hdct ab:Bool} {sn:Fh} {col:E1} {dd odi ani:EZ} {k0 k1 k2 k3 k5:EW} {cd:ClassData} {sli:Array (EW)} {oci kVi dci pmi cdi cti:Value}
  (ac:WK K Us x=some (some (.ref C))) (oc:K.lookup C=some (XS nm qn C N bs bm hdct sn sub ab col dd k0 k1 k2 k3 k5 "ValueError.__new__")) (ve:NK bm) (ic:Yo K (.ref C) "__init__" = some (some (.ref fi))) (tc:W.typeIn K (.ref fi)=some (.type "function")) (pc:W.keepIn K (.ref C)=true)
  (sc:Yo K (.ref C) "__setattr__" = some (some (.builtin "object.__setattr__"))) (dc:W.clsIn K C=some cd) (uc:qI cd.mro=true) (hc:cd.hasDict=true) (kc:W.takerIn K C "word" = some none) (gc:Yo K (.ref C) "__getattribute__" = some (some (.builtin "BaseException.__getattribute__")))
  (gh:Yo K (.ref C) "__getattr__" = some none) (nc:Yo K (.ref C) "word" = some none) (li:K.lookup fi=some ⟨oci,odi,.func (aaN "__init__" q (cu st) (aZ st) (au st) .none kVi dci pmi ani cdi cti),sli⟩) (ci:W.codeIn K cdi q=true) (ki:W.keepIn K (.ref fi)=true):cY K x q C fi st bm
inductive gZ (K:Ud)(x:Ut)(st:Stmt)(f c T:Addr):Prop where
 | mk {od an:EZ} {sl:Array (EW)} {oc kV dc pm ct:Value} (a:PySem.W.nsIn K Us x=some (some (.ref f))) (l:K.lookup f=some ⟨oc,od,.func (Xq x x (cu st) (aZ st) (au st) .none kV dc pm an (.ref c) ct),sl⟩) (cc:Yt K (.ref c) x=true) (k:Wa K (.ref f)=true) (hd:PySem.W.codeHdIn K c T=true):gZ K x st f c T
section
variable {K:Uw}{mg:Ut->EW}{h:Va}{x q x' q':Ut}{C fi C' fi' f c T:Addr}{st st':Stmt}{bm bm':E4}
theorem cY.name (o:cY K x q C fi st bm)(X:K.In h)(G:h.Ns Us mg):mg x=some (.ref C):=by
 obtain⟨ac⟩:=o
 exact Zn X G ac
theorem cY.Ka (o:cY K x q C fi st bm):Im K C fi "word":=by
 obtain⟨ac,oc,ve,ic,tc,pc,sc,dc,uc,hc,kc⟩:=o
 exact⟨⟨_,_,_,_,_,_,_,_,_,_,_,_,_,_,_,_,oc,ve⟩,ic,tc,pc,sc,⟨_,dc,uc,hc⟩,kc⟩
theorem cY.fn (o:cY K x q C fi st bm):∃ fd,Fun K "__init__" q st fi fd:=by
 obtain⟨_,_,_,_,_,_,_,_,_,_,_,_,_,_,li,ci,ki⟩:=o
 exact⟨_,pR li ci ki⟩
theorem cY.kp (o:cY K x q C fi st bm):W.keepIn K (.ref fi)=true:=by
 obtain⟨_,_,_,_,_,_,_,_,_,_,_,_,_,_,_,_,ki⟩:=o
 exact ki
theorem cY.xrd (o:cY K x q C fi st bm) (b:cY K x' q' C' fi' st' bm') (mr:(Uk C::bm).contains (.ref C')=true):XRd K C C' "word":=by
 obtain⟨_,oc,_,_,_,_,_,dc,uc,hc,_,gc,gh,nc⟩:=o
 obtain⟨_,oc',ve'⟩:=b
 exact⟨⟨_,_,_,_,_,_,_,_,_,_,_,_,_,_,_,_,_,oc,mr⟩,⟨_,_,_,_,_,_,_,_,_,_,_,_,_,_,_,_,_,oc',ve'.b⟩,gc,gh,⟨_,dc,uc⟩,by unfold Yd;rw[dc];exact hc,nc⟩
theorem HasDef.fn (o:HasDef K x st f):∃ fd,Fun K x x st f fd:=by
 obtain⟨a,l,c,k⟩:=o
 exact⟨_,pR l c k⟩
theorem gZ.name (o:gZ K x st f c T)(X:K.In h)(G:h.Ns Us mg):mg x=some (.ref f):=by
 obtain⟨a⟩:=o
 exact Zn X G a
theorem gZ.hd (o:gZ K x st f c T):W.codeHdIn K c T=true:=by
 obtain⟨_,_,_,_,hd⟩:=o
 exact hd
theorem gZ.law {y:Ut}(o:gZ K x st f c T)(hb:∀ (kV dc pm:Value) (an:EZ) (cd ct:Value) (s:TV) (v:Value),aax s (aaN x x (cu st) (aZ st) (au st) .none kV dc pm an cd ct) ⟨[v],[]⟩ [(y,v)]):∃ fd,QK K x x st f fd c/\∀ (s:TV) (v:Value),aax s fd ⟨[v],[]⟩ [(y,v)]:=by
 obtain⟨a,l,cc,k,hd⟩:=o
 exact⟨_,⟨⟨_,_,_,_,_,_,_,_,U,l,cc⟩⟩,hb _ _ _ _ _ _⟩
end
section
variable {X:Cx}
theorem QX {kvs:List (Key × V)}{vs:List (Key × Value)}(r:KV kvs vs):kvs.map (·.1)=vs.map (·.1):=by
 induction r with
 | nil=>rfl
 | cons h _ ih =>
  rw[U0,U0,ih,h.1]
theorem Dq {ks:E9}{acc:E4}(hl:acc.length=ks.length)(h:∀ (j:Nat) (v:Value),acc[j]? = some v->∃ i:Int,ks[j]? = some i/\∃ t,v = .int i t):VB acc ks:=by
 induction ks generalizing acc with
 | nil =>
  cases acc with
  | nil=>exact .nil
  | cons _ _=>cases hl
 | cons k ks ih =>
  cases acc with
  | nil=>cases hl
  | cons a acc =>
   obtain⟨i,e,t,rfl⟩:=h 0 a U
   cases (show some k=some i from e)
   exact .cons _ _ (ih (Nat.succ.inj hl) fun j v e=>h (j+1) v e)
inductive BV (xs:List V)(H:Hp)(Q:VK):Prop where
 | mk (p:Addr) (kvs:List (Key × V)) (ns:E9) (_:xs=[.ref p]) (_:H p=some (.dK kvs)) (_:kvs.map (·.1)=ns.map V3) (_:ns.length < 64) (_:∀ ms:E9,ms.Perm ns->ms.Pairwise (·<=·)->∀ l,H l=none->Q (.ref l) (upd H l (.lst (ms.map V.int))))
theorem qW (hc:X.calm=true):fZ X (.builtin "sorted") BV:=by
 intro ZY s σ H xs us Q I r h
 obtain⟨p,kvs,ns,rfl,hp,hk,h64,q⟩:=h
 obtain⟨u,rfl,ru⟩:=vals1 r
 cases ru
 obtain⟨z,hd,vs,rel,dd⟩:=Nq I.hok hp
 obtain⟨ep,hat⟩:=dd.dictAt
 have ek:=(QX rel).symm.trans hk
 have lv:vs.length=ns.length:=by
  have:=congrArg aaP ek
  rwa [TJ,TJ] at this
 refine Calls.call_function_entry kind_sorted plain_sorted entry_sorted (args_sorted1 _) ?_
 unfold XD.«sorted»
 refine TF (m:=checkCount "sorted" 1 1 _) (TX ?_)
 refine TF (PySem.W.kdu_collect (A:=X.A.in1) (PySem.W.kdl_dict (knd:=cU X.prog X.w) (kvs:=vs) (ep:=ep) hd) (I.ok.hd hc) hat (by rw[lv];exact WR (T4 h64 (by decide))) fun h' tk acc hkp hacc=>?_)
 have I1:Inv X ZY σ H { s with heap:=h',toks:=tk }:=I.kept (t':=tk) hkp
 have la:acc.toList.length=ns.length:=by rw[Vf];exact hacc.1.trans lv
 have hi:VB acc.toList ns:=Dq la fun j v e=>by
  obtain⟨k,x,hx,hkv⟩:=hacc.2 j v (by rw[← VG];exact e)
  have e1:(vs.map (·.1))[j]? = some k:=by rw[Ux,hx];rfl
  rw[ek,Ux] at e1
  cases z:ns[j]? with
  | none=>rw[z] at e1;cases e1
  | some i =>
   rw[z] at e1
   cases e1
   rcases bO (show wY (V3 i) v=true from hkv) with⟨i',t,e2,e3⟩ | ⟨x',t,e2,_⟩
   ·cases e2
    exact⟨i,U,t,e3⟩
   ·cases e2
 refine TF (wpAny_newList ?_ (by rw[la];exact WR (T4 h64 (by decide))))
 have top:(h'.push (seqObj "list" acc.toList.toArray 0)).get? h'.objs.size=some (seqObj "list" acc.toList.toArray 0):=T9 _ U
 show T7 _ _ _ _ _ { s with heap:=h'.push (seqObj "list" acc.toList.toArray 0),toks:=tk }
 apply TF
 apply VL
 refine Vs slot_list_sort ⟨_,top,U⟩ entry_list_sort ?_ (args_list_sort _)
 refine list_sort_tree top hi (by rw[la];exact h64) fun out ms a1 a2 a3=>⟨_,U,TX ⟨_,U,?_⟩⟩
 obtain⟨e,he⟩:=sortedHeap_at (out:=out) top
 have hml:(ms.map V.int).length<=sizeLine:=by
  rw[TJ,a2.length_eq]
  exact WR (T4 h64 (by decide))
 have old:∀ b o,h'.get? b=some o->(sortedHeap (h'.push (seqObj "list" acc.toList.toArray 0)) h'.objs.size acc.toList out).get? b=some o:=fun b o hb=>by
  have hlt:=Ua hb
  rw[sortedHeap_old (Um hlt) (by rw[size_push'];exact Vv hlt),Heap.get?_push_ne _ _ _ (Um hlt)]
  exact hb
 exact⟨.ref _,_,I1.M5 U U old (T6 _) (iJ a1) hml he,U,q ms a2 a3 _ (I1.hok.fresh (T6 _))⟩
inductive NB (xs:List V)(H:Hp)(Q:VK):Prop where
 | mk (a:Addr) (kvs:List (Key × V)) (_:xs=[.ref a]) (_:H a=some (.dK kvs)) (_:Q (.int kvs.length) H)
theorem An:fZ X (.builtin "len") NB:=by
 intro ZY s σ H xs us Q I r h
 obtain⟨a,kvs,rfl,ha,q⟩:=h
 obtain⟨u,rfl,ru⟩:=vals1 r
 cases ru
 exact Rt I (.inl ha) fun t s' I'=>⟨.int kvs.length,H,I',⟨t,U⟩,q⟩
end
section
variable {X:Cx}{ZY:EQ}{σ:St}{H H':Hp}{s s':TV}{x C G dx:Addr}{B:Va}{c f:Ut}{p p1 p4 pos:Yg}{k:Nat}{D:Ends}{b:Bool}
end
section
variable {X:Cx}{G:Addr}{c f:Ut}{p p1 p4 pos pos':Yg}{k:Nat}{body:E8}{t:XK->TS}{b:Bool}
end
section
variable {X:Cx}
end
end L2
namespace My
open PySem L2
abbrev GS := List (Key × V)
abbrev GT := List (Ut × V)
abbrev GU := Option V
abbrev G1 := List V
abbrev WS : Fc := ["_law_cell_here","_law_n","_law_one","_law_deep","_law_most"]
abbrev WU : Fc := ["_law_cell_here","_law_n","_law_deep","_law_most"]
abbrev WV : Fc := ["self","green","gone","standing","coming"]
abbrev WZ : Fc := ["many","one","thing","lowest_step"]
abbrev Xs : Fc := ["_law_pledge_here","_law_giving"]
abbrev Xt : Fc := ["_law_term_here","_law_giving"]
abbrev XB : Fc := ["_law_cell_here","_law_parts"]
abbrev XE : Fc := ["_law_term_here","_law_row"]
abbrev XG : Fc := ["_law_cell_here","_law_k"]
abbrev XI : Fc := ["standing","one","giving"]
abbrev XO : Fc := ["stand","one","standing"]
abbrev XT : Fc := ["self","number","pledge"]
abbrev XU : Fc := ["_law_found","_law_due"]
abbrev XV : Fc := ["book","floor","giving"]
abbrev XY : Fc := ["many","thing","fewest"]
abbrev XZ : Fc := ["_law_script","_law_k"]
abbrev X0 : Fc := ["_law_number","_law_n"]
abbrev X1 : Fc := ["stand","one","pledge"]
abbrev X2 : Fc := ["many","thing","deep"]
abbrev X9 : Fc := ["self","one","pledge"]
abbrev Ya : Fc := ["_law_n","_law_picks"]
abbrev Yf : Fc := ["thing","low","high"]
abbrev YA : Fc := ["many","one","thing"]
abbrev YE : Fc := ["pledge","giving"]
abbrev YI : Fc := ["parts","giving"]
abbrev YN : Fc := ["_law_asked","e"]
abbrev YO : Fc := ["stand","number"]
abbrev YR : Fc := ["term","giving"]
abbrev YU : Fc := ["stand","rises"]
abbrev YV : Fc := ["self","number"]
abbrev YY : Fc := ["book","floor"]
abbrev Zl : Fc := ["self","stand"]
abbrev Zp : Fc := ["self","rises"]
abbrev Zs : Fc := ["self","word"]
abbrev ZA : Fc := ["many","term"]
abbrev ZB : Fc := ["stand","one"]
abbrev ZE : Fc := ["_law_script"]
abbrev ZH : Fc := ["boon","one"]
abbrev ZI : Fc := ["_law_one"]
abbrev ZN : Fc := ["pledge"]
abbrev ZO : Fc := ["self"]
abbrev ZT : Fc := ["term"]
abbrev ZU : Fc := ["boon"]
variable {P:Uq}{w:U3}{K:Uw}{mg:Ut->Option Value}{base:Va}{f:Addr}{fd:Vn}
def top (i:Nat):Stmt:=PySem.Challenge.pw_loveboon_k58_whole_several_pledges_of_on.main.body.getD i (.Pass ⟨0,0,0,0⟩)
theorem aA {H:Hp}{p:Addr}(h:H p=none)(o:HO):aH H (upd H p o):=fun b u q=>by rw[aD (cg q h)];exact q
theorem aL {H H':Hp}{p:Addr}(s:aH H H')(h:H p=none)(o:HO):aH H (upd H' p o):=fun b u q=>by rw[aD (cg q h)];exact s b u q
theorem eV {K:Uw}{H H':Hp}{a:Addr}{xs:G1}(e:aH H H')(h:SqT K H a xs):SqT K H' a xs:=by
 rcases h with (h | ⟨o,h⟩) | h
 ·exact .inl (.inl (e _ _ h))
 ·exact .inl (.inr ⟨o,e _ _ h⟩)
 ·exact .inr h
theorem CJ {H:Hp}{p:Addr}{o o':HO}:upd (upd H p o) p o'=upd H p o':=by
 funext b
 unfold upd
 by_cases e:b=p
 ·rw[if_pos e,if_pos e]
 ·rw[if_neg e,if_neg e,if_neg e]
theorem small {n:Nat}(h:n<=1000):n<=sizeLine:=WR (aF h)
theorem int_at {ns:E9}{i:Nat}{x:V}(h:(ns.map V.int)[i]? = some x):∃ n,ns[i]? = some n/\x = .int n:=by
 rw[Ux] at h
 cases e:ns[i]? with
 | none=>rw[e] at h;cases h
 | some n=>rw[e] at h;exact⟨n,U,(U5 h).symm⟩
theorem tQ {α β:Type}(f:α->β){xs:List α}{i:Nat}{x:α}(h:xs[i]? = some x):(xs.take i).map f++[f x]=(xs.take (i+1)).map f:=by
 rw[UT,h,Ub]
 rfl
theorem lY {ns:E9}{i:Nat}(h:i < ns.length):atI (ns.map V.int) (i:Int)=some (.int ns[i]):=jw (by rw[Ux,T8 h];rfl)
theorem gT {i:Nat}{x:V}{σ:St}{H:Hp}{A B:St->Hp->Prop}(h:A (σ.set i (some x)) H):pY i x σ H (fun σ3 H3=>JC σ3 H3 (fun b H4=>if b=true then A σ3 H4 else B σ3 H4)):=by
 show if true=true then A (σ.set i (some x)) H else B (σ.set i (some x)) H
 rw[if_pos U]
 exact h
theorem aG {H H1:Hp}{p:Addr}{o:HO}(e:upd H p o=H1)(h:H p=none):aH H H1/\H1 p=some o:=by
 subst e
 exact⟨aA h _,aa⟩
theorem eO {xs:G1}{k:Nat}{v:V}(h:xs[k]? = some v):atI xs (k:Int)=some v:=jw h
theorem gW {ns:E9}{k:Nat}{n:Int}(h:ns[k]? = some n):(ns.map V.int)[k]? = some (.int n):=by rw[Ux,h];rfl
theorem tT {σ:St}{H:Hp}{A B:Hp->Prop}(h:A H):JC σ H (fun b H4=>if b=true then A H4 else B H4):=by
 show if true=true then A H else B H
 rw[if_pos U]
 exact h
def vN (i:Nat):V:=.int (i:Int)
theorem lB (c:Fa):c.map vN=(c.map fun i:Nat=>(i:Int)).map V.int:=by rw[Xe];rfl
theorem uz {c:Fa}{j:Nat}{x:V}(h:(c.map vN)[j]? = some x):∃ i,c[j]? = some i/\x=vN i:=by
 rw[Ux] at h
 cases e:c[j]? with
 | none=>rw[e] at h;cases h
 | some i=>rw[e] at h;exact⟨i,U,(U5 h).symm⟩
theorem cz {H:Hp}{D:Addr}{zs zs':G1}(h:H D=some (.lst zs)):∀ a xs,H a=some (HO.tup xs)->upd H D (.lst zs') a=some (HO.tup xs):=fun a xs q=>by
 rw[aD (fun z=>by rw[z,h] at q;cases q)]
 exact q
theorem Oi {α:Type}{xs:List α}{v:α}(h:xs[xs.length - 1]? = some v):atI xs (-1)=some v:=by
 have hl:xs.length - 1 < xs.length:=(List.getElem?_eq_some_iff.mp h).1
 have hne:xs≠[]:=fun z=>by rw[z] at hl;exact absurd hl (Vb _)
 have e:xs=xs.dropLast++[v]:=by
  rw[← List.getLast?_eq_getElem?,List.getLast?_eq_some_getLast hne] at h
  rw[← U5 h]
  exact (List.dropLast_concat_getLast hne).symm
 rw[e]
 exact Jm _ _
theorem cM {N P:Fh}{sc:Wo}(h1:sc.kind = .function:=by rfl)(h2:sc.isCoroutine=false:=by rfl)(h3:sc.isGenerator=false:=by rfl)(h4:N.Nodup:=by decide+kernel)(h5:N.take P.length=P:=by rfl)(h6:∀ x∈P,sc.names.lookup x=some .local∨sc.names.lookup x=some .cell:=by decide+kernel)(h7:∀ y∈sc.names,y.2≠.free:=by decide+kernel):aB N P sc:=⟨h1,h2,h3,h4,h5,h6,h7⟩
theorem smN (n:Nat)(h:n<=1000:=by decide):n<=sizeLine:=small h
theorem gt0 {x:V}{r:G1}:atI (x::r) 0=some x:=eO (k:=0) U
theorem gt1 {x y:V}{r:G1}:atI (y::x::r) 1=some x:=eO (k:=1) U
theorem gt2 {x y z:V}{r:G1}:atI (z::y::x::r) 2=some x:=eO (k:=2) U
theorem dcT {p:Prop}[Decidable p](h:p):decide p=true:=decide_eq_true h
theorem dcF {p:Prop}[Decidable p](h:¬ p):decide p=false:=decide_eq_false h
theorem sqT {K:Uw}{H:Hp}{a:Addr}{xs:G1}(h:H a=some (.tup xs)):SqT K H a xs:=SqT.of h
theorem sqL {K:Uw}{H:Hp}{a:Addr}{xs:G1}(h:H a=some (.lst xs)):SqL K H a xs:=SqL.of h
theorem geS {α:Type}{l:List α}{i:Nat}{a:α}(h:l[i]? = some a):∃ h:i < l.length,l[i]=a:=List.getElem?_eq_some_iff.mp h
theorem iPo {c:Prop}{h:Decidable c}(hc:c){α:Sort u}{t e:α}:@ite α c h t e=t:=if_pos hc
theorem iNe {c:Prop}{h:Decidable c}(hc:¬ c){α:Sort u}{t e:α}:@ite α c h t e=e:=if_neg hc
abbrev oR (a:Addr):GU:=some (.ref a)
abbrev oI (i:Int):GU:=some (.int i)
section
variable {X:Cx}{a b:Expr}{ta tb:TE}{pos:Yg}{op:CmpOp}{r:R2}
theorem pix (hr:IxR X r)(ha:PE X a ta)(hb:PE X b tb)(hs:tU b:=by exact fun _ _=>U):PE X (.Subscript a b pos) (tOp r ta tb):=Nb hr ha hb hs
theorem cD (ho:OpR X (WM op) r)(ha:PE X a ta)(hb:PE X b tb)(hm:Xh op b=false:=by exact Ky _):PE X (.Compare a [op] [b] pos) (tOp r ta tb):=Dw ho ha hb hm
theorem aK (ho:OpR X (WM op) r)(ha:PE X a ta)(hb:PE X b tb)(hm:Xh op b=false:=by exact Ky _):PT X (.Compare a [op] [b] pos) (Pu (tOp r ta tb)):=jK ho ha hb hm
end
section
variable {x qual:Ut}{st:Stmt}{N ps:Fh}{k:Nat}{sp:Sp}
theorem okA (F:Fun K x qual st f fd)(S:aB N ps (au st))
  (hb:∀ {cdv:Value} {A:UW} {outer:Fk} {s:TV} {vs:G1} (H:Hp) (Q:VK) (E:XK),dF k (A.deeper (aaZ qual (au st) s.heap.objs.size f cdv))->sp vs H Q E →
   ∃ t,PSs (wA CX0 P w K mg base N qual (au st) f cdv A outer s H E).nox (aZ st) t/\t { nx:=fun _ H2=>Q .non H2,rt:=Q } (start N vs) H)
  (len:∀ vs H Q E,sp vs H Q E->vs.length=ps.length:=by intro _ _ _ _ h;first | (cases h;subst_vars;rfl) | ((repeat obtain⟨_,h⟩:=h) <;> subst_vars <;> rfl)):aY P w K mg base CX0 (k+1) f fd ps sp:=F.ok S len fun _ _ _ _ H _ Q E hr h=>hb H Q E hr h
theorem G6 (F:Fun K x qual st f fd)(S:aB N ps (au st))
  (hb:∀ {cdv:Value} {A:UW} {outer:Fk} {s:TV} {vs:G1} (H:Hp) (Q:VK) (E:XK),dF k (A.deeper (aaZ qual (au st) s.heap.objs.size f cdv))->sp vs H Q E →
   ∃ t,PSs (wA (XL P w) P w K mg base N qual (au st) f cdv A outer s H E) (aZ st) t/\t { nx:=fun _ H2=>Q .non H2,rt:=Q } (start N vs) H)
  (len:∀ vs H Q E,sp vs H Q E->vs.length=ps.length:=by intro _ _ _ _ h;first | (cases h;subst_vars;rfl) | ((repeat obtain⟨_,h⟩:=h) <;> subst_vars <;> rfl)):aY P w K mg base (XL P w) (k+1) f fd ps sp:=F.okX S len fun _ _ _ _ H _ Q E hr h=>hb H Q E hr h
end
section
variable {X:Cx}{a b:Expr}{ta tb:TE}{pos:Yg}
theorem pxL (K:Uw)(ha:PE X a ta)(hb:PE X b tb)(hs:tU b:=by exact fun _ _=>U)(hK:X.K=K:=by rfl):PE X (.Subscript a b pos) (tOp (RL K) ta tb):=Nb (hK▸Gj) ha hb hs
theorem pxT (K:Uw)(ha:PE X a ta)(hb:PE X b tb)(hs:tU b:=by exact fun _ _=>U)(hK:X.K=K:=by rfl):PE X (.Subscript a b pos) (tOp (Rv K) ta tb):=Nb (hK▸JQ) ha hb hs
end
section
variable {X:Cx}{a b c:Expr}{ta tb tc:TE}{pos:Yg}{x y z:Ut}{p q r:Yg}
theorem a1 (ha:PE X a ta)(hs:Ur [a] X.env=(false,VD a X.env)::Ur [] X.env:=by rfl):PA X [a] (ql ta BK):=aj ha dM hs
theorem a2 (ha:PE X a ta)(hb:PE X b tb)(hs:Ur [a,b] X.env=(false,VD a X.env)::Ur [b] X.env:=by rfl)(ht:Ur [b] X.env=(false,VD b X.env)::Ur [] X.env:=by rfl):PA X [a,b] (ql ta (ql tb BK)):=aj ha (a1 hb ht) hs
theorem v1 (i:Nat)(hN:X.N[i]? = some x:=by rfl)(hv:Vis X.env.scope x:=by first | exact ZG rfl | exact Zc (ZG rfl) | exact Zc (Zc rfl))(hd:(x == ("__debug__" : Ut))=false:=by decide)(hc:(x == ("__classdict__" : Ut))=false:=by decide):PA X [.Name x p] (ql (Jp i) BK):=a1 (pv i hN hv hd hc) rfl
theorem v2 (i j:Nat)(hN:X.N[i]? = some x:=by rfl)(hv:Vis X.env.scope x:=by first | exact ZG rfl | exact Zc (ZG rfl) | exact Zc (Zc rfl))(hM:X.N[j]? = some y:=by rfl)(hw:Vis X.env.scope y:=by first | exact ZG rfl | exact Zc (ZG rfl) | exact Zc (Zc rfl))(hd:(x == ("__debug__" : Ut))=false:=by decide)(hc:(x == ("__classdict__" : Ut))=false:=by decide)(he:(y == ("__debug__" : Ut))=false:=by decide)(hf:(y == ("__classdict__" : Ut))=false:=by decide):PA X [.Name x p,.Name y q] (ql (Jp i) (ql (Jp j) BK)):=a2 (pv i hN hv hd hc) (pv j hM hw he hf) rfl rfl
theorem sR (h:PE X a ta):PSs X [.Return (some a) pos] (QS ta):=aC (Dh h)
theorem ifR {tt:TT}(ht:PT X a tt)(h:PE X b tb):PS X (.If a [.Return (some b) p] [] pos) (G3 tt (QS tb) Mv):=c7 ht (sR h) bh
theorem sT (i:Nat)(hN:X.N.Nodup)(he:PE X a ta)(hi:X.N[i]? = some x:=by rfl)(hx:X.env.scope.names.lookup x=some .local:=by rfl)(hs:ZR a (some (.Name x p)) pos.line X.env=pure false:=by rfl):PS X (.Assign [.Name x p] a pos) (QL ta (pY i)):=J8 hN hi (.inl hx) he hs (.inr hx)
theorem pgN (i:Nat)(hN:X.N.Nodup)(hi:X.N[i]? = some x:=by rfl)(hx:X.env.scope.names.lookup x=some .local:=by rfl):PG X (.Name x pos) (pY i):=xQ hN hi (.inl hx) (.inr hx)
theorem sTc (i:Nat)(hN:X.N.Nodup)(he:PE X a ta)(hi:X.N[i]? = some x:=by rfl)(hx:X.env.scope.names.lookup x=some .cell:=by rfl)(hs:ZR a (some (.Name x p)) pos.line X.env=pure false:=by rfl)(hf:X.fn x=true∨X.env.scope.names.lookup x=some .local:=by first | exact .inl rfl | exact .inr rfl | assumption):PS X (.Assign [.Name x p] a pos) (QL ta (pY i)):=J8 hN hi (.inr hx) he hs hf
theorem pgC (i:Nat)(hN:X.N.Nodup:=by exact LQ (by decide+kernel))(hi:X.N[i]? = some x:=by rfl)(hx:Loc X.env.scope x:=by exact ZG U)(hf:X.fn x=true∨X.env.scope.names.lookup x=some .local:=by first | exact .inl rfl | exact .inr rfl | assumption):PG X (.Name x pos) (pY i):=xQ hN hi hx hf
theorem pln (K:Uw) (hm:X.mg "len" = none) (he:PE X a ta) (hg:Gl X "len":=by rfl) (hs:Ur [a] X.env=(false,VD a X.env)::Ur [] X.env:=by rfl) (hK:X.K=K:=by rfl):PE X (.Call (.Name "len" p) [a] [] pos) (tCB (RZ K) (ql ta BK)):=by
 subst hK
 exact aJ Gd hg hm Kc (a1 he hs) (by decide) (by decide) hs
theorem pfd {f:Ut}(K:Uw)(i:Nat)(hN:X.N[i]? = some x:=by rfl)(hv:Vis X.env.scope x:=by first | exact ZG rfl | exact Zc (ZG rfl) | exact Zc (Zc rfl))(hb:YS (.Name x p) f X.env (VD (.Name x p) X.env)=VD (.Name x p) X.env:=by rfl)(hd:(x == ("__debug__" : Ut))=false:=by decide)(hc:(x == ("__classdict__" : Ut))=false:=by decide)(hK:X.K=K:=by rfl):PE X (.Attribute (.Name x p) f pos) (Rf K (Jp i) f):=kW K hK (pv i hN hv hd hc) hb
end
abbrev jt:Stmt:=top 64
theorem bK:aB ["_law_cell_here","_law_parts","_law_one","_law_two","_law_six","_law_found","_law_part"] XB (au jt):=cM
def uf (c:Int):Int:=(c * 48271+11) % 2147483647
def Ie (c:Int):Int:=(uf c * uf c+40692 * uf c+c) % 2147483399
def RM (c:Int):Int:=(Ie c * 16807+uf c) % 1000000007
def mX (c:Int):Int:=if decide ((if c < 0 then -c else c) < 10 ^ (18:Int).toNat)=true then Ie c+2147483399 * (RM c+1000000007 * uf c) else (if c < 0 then -c else c) - 10 ^ (18:Int).toNat
def uT:Int->E9->E9
 | _,[]=>[]
 | c,p::ps=>c % p::uT (c / p) ps
def divC:Int->E9->Int
 | c,[]=>c
 | c,p::ps=>divC (c / p) ps
theorem o7 (p:Int):∀ (ps:E9) (c:Int),uT c (ps++[p])=uT c ps++[divC c ps % p]
 | [],_=>rfl
 | q::ps,c=>by
  show c % q::uT (c / q) (ps++[p])=c % q::(uT (c / q) ps++[divC (c / q) ps % p])
  rw[o7 p ps]
theorem jV (p:Int):∀ (ps:E9) (c:Int),divC c (ps++[p])=divC c ps / p
 | [],_=>rfl
 | q::ps,c=>jV p ps (c / q)
theorem jj:∀ (ps:E9) (c:Int),(uT c ps).length=ps.length
 | [],_=>rfl
 | _::ps,_=>congrArg Nat.succ (jj ps _)
theorem bR:∀ {ps:E9} {c:Int} {i:Nat} {p:Int},(∀ q∈ps,0 < q)->ps[i]? = some p->∃ v,(uT c ps)[i]? = some v/\0<=v/\v < p
 | [],_,_,_,_,h=>by simp at h
 | q::ps,c,0,p,hp,h=>by
  cases (show some q=some p from h)
  exact⟨c % q,U,Vg _ (by have:=hp q Uc;lia),U6 _ (hp q Uc)⟩
 | q::ps,c,i+1,p,hp,h=>by
  obtain⟨v,e,r⟩:=bR (ps:=ps) (c:=c / q) (i:=i) (fun z hz=>hp z (Ug _ hz)) (by simpa using h)
  exact⟨v,by simpa [uT] using e,r⟩
def Og (c:Int)(ps:E9):E9:=uT (mX c) ps
theorem Mr (c:Int):0<=uf c/\uf c < 2147483647:=⟨Vg _ (by decide),U6 _ (by decide)⟩
theorem Nr (c:Int):0<=Ie c/\Ie c < 2147483399:=⟨Vg _ (by decide),U6 _ (by decide)⟩
inductive uq (K:Uw)(vs:G1)(H:Hp)(Q:VK)(e3:XK):Prop where
 | mk (c:Int) (p:Addr) (ps:E9) (_:vs=[.int c,.ref p]) (_:SqL K H p (ps.map V.int)) (_:(∀ q∈ps,0 < q/\q < 1073741824)) (_:ps.length<=1000) (_:∀ r,H r=none->Q (.ref r) (upd H r (.lst ((Og c ps).map V.int))))
theorem wj (F:Fun K "_law_draws" "_law_draws" jt f fd) (B:Bt mg) :
  aY P w K mg base CX0 1 f fd XB (uq K):=by
 refine okA F bK fun H Q E hr h=>?_
 obtain⟨c,p,ps,rfl,hS,hp,hl,q⟩:=h
 refine⟨_,(ao (c7 (aK yr (aJ nJ U B.abs_ yU (v1 0)) (aM rH aq aq)) (ao (sT 2 bK.nd (aM cI (aM bA (aM je (pv 0) aq) aq) aq))
 (ao (sT 3 bK.nd (aM cI (aM bA (aM bA (aM je (pv 2) (pv 2)) (aM je aq (pv 2))) (pv 0)) aq))
 (ao (sT 4 bK.nd (aM cI (aM bA (aM je (pv 3) aq) (pv 2)) aq))
 (aC (sT 0 bK.nd (aM bA (pv 3) (aM je aq (aM bA (pv 4) (aM je aq (pv 2)))))))))) (aC (sT 0 bK.nd (aM fG (aJ nJ U B.abs_ yU (v1 0)) (aM rH aq aq)))))
 (ao (sT 5 bK.nd (bI dM))
 (ao (dC Vu U (fV (pv 1)) (pgN 6 bK.nd) (ao (aU (yH Wq Wh Wg cL (pv 5) (a1 (aM cI (pv 0) (pv 6)))))
 (aC (sT 0 bK.nd (aM yh (pv 0) (pv 6))))))
 (sR (pv 5))))),?_⟩
 have b1:=Mr c
 have b2:=Nr c
 refine⟨_,U,_,U,_,_,U,U,⟨by decide,by decide,by decide⟩,_,_,U,U,_,U,?_⟩
 refine wI (fun h=>?_) (fun h=>?_)
 ·refine⟨_,U,_,_,U,U,.inr ⟨by decide,by decide⟩,_,_,U,U,_,_,U,U,(by show (0:Int) < 2147483647;decide),_,U,_,U,_,_,U,U,.inl (show -(2 ^ 64) < uf c/\uf c < 2 ^ 64 from ⟨by lia,by lia⟩),_,U,_,_,U,U,.inl ⟨by decide,by decide⟩,_,_,U,U,_,U,_,_,U,U,_,_,U,U,(by show (0:Int) < 2147483399;decide),_,U,_,_,U,U,.inr ⟨by decide,by decide⟩,_,U,_,_,U,U,_,_,U,U,(by show (0:Int) < 1000000007;decide),_,U,_,U,_,U,_,_,U,U,.inl ⟨by decide,by decide⟩,_,_,U,U,_,_,U,U,.inl ⟨by decide,by decide⟩,_,_,U,U,small (U9 _),fun r hr0=>?_⟩
  refine⟨_,U,p,U,⟨_,(aA hr0 _).seq hS⟩,j8 (K:=K) (a:=p) (xs:=ps.map V.int) (fun i σ H2=>∃ (z:Int) (o t u v:GU),z=divC (mX c) (ps.take i)/\σ=[oI z,oR p,o,t,u,oR r,v] ∧
   H2=upd H r (.lst ((uT (mX c) (ps.take i)).map V.int))) ⟨_,_,_,_,_,(iPo h).symm,U,U⟩ ?_ ?_ ?_⟩
  ·rintro i σ H2 hi ⟨z,o,t,u,v,_,_,e⟩
   subst e
   exact (aA hr0 _).seq hS
  ·rintro i x σ H2 hx ⟨z,o,t,u,v,ez,rfl,rfl⟩
   obtain⟨d,hd,rfl⟩:=int_at hx
   obtain⟨h1,h2⟩:=hp d (UJ hd)
   have et:ps.take (i+1)=ps.take i++[d]:=by rw[UT,hd];rfl
   refine⟨_,U,.inl ⟨U,_,sqL aa⟩,_,U,_,U,_,_,U,U,h1,r,_,_,U,U,aa,?_,_,U,_,U,_,_,U,U,⟨h1,h2⟩,_,_,_,_,_,?_,U,?_⟩
   ·rw[TJ,jj,Uo]
    exact aF (by lia)
   ·rw[et,jV,ez]
   ·rw[CJ,et,o7,Ub,ez]
    rfl
  ·rintro σ H2 ⟨z,o,t,u,v,_,rfl,rfl⟩
   refine⟨_,U,?_⟩
   have q':=q r hr0
   rw[TJ,Uh]
   exact q'
 ·refine⟨_,U,_,U,_,_,U,U,⟨by decide,by decide,by decide⟩,_,_,U,U,small (U9 _),fun r hr0=>?_⟩
  refine⟨_,U,p,U,⟨_,(aA hr0 _).seq hS⟩,j8 (K:=K) (a:=p) (xs:=ps.map V.int) (fun i σ H2=>∃ (z:Int) (o t u v:GU),z=divC (mX c) (ps.take i)/\σ=[oI z,oR p,o,t,u,oR r,v] ∧
   H2=upd H r (.lst ((uT (mX c) (ps.take i)).map V.int))) ⟨_,_,_,_,_,(iNe h).symm,U,U⟩ ?_ ?_ ?_⟩
  ·rintro i σ H2 hi ⟨z,o,t,u,v,_,_,e⟩
   subst e
   exact (aA hr0 _).seq hS
  ·rintro i x σ H2 hx ⟨z,o,t,u,v,ez,rfl,rfl⟩
   obtain⟨d,hd,rfl⟩:=int_at hx
   obtain⟨h1,h2⟩:=hp d (UJ hd)
   have et:ps.take (i+1)=ps.take i++[d]:=by rw[UT,hd];rfl
   refine⟨_,U,.inl ⟨U,_,sqL aa⟩,_,U,_,U,_,_,U,U,h1,r,_,_,U,U,aa,?_,_,U,_,U,_,_,U,U,⟨h1,h2⟩,_,_,_,_,_,?_,U,?_⟩
   ·rw[TJ,jj,Uo]
    exact aF (by lia)
   ·rw[et,jV,ez]
   ·rw[CJ,et,o7,Ub,ez]
    rfl
  ·rintro σ H2 ⟨z,o,t,u,v,_,rfl,rfl⟩
   refine⟨_,U,?_⟩
   have q':=q r hr0
   rw[TJ,Uh]
   exact q'
abbrev kO:Stmt:=top 63
theorem xU:aB XZ XZ (au kO):=cM
inductive KD (K:Uw)(vs:G1)(H:Hp)(Q:VK)(e3:XK):Prop where
 | mk (a:Addr) (ns:E9) (k:Nat) (_:vs=[.ref a,.int (k:Int)]) (_:SqL K H a (ns.map V.int)) (_:Q (.int (ns.getD k 0)) H)
theorem wW (F:Fun K "_law_cell" "_law_cell" kO f fd) (B:Bt mg) :
  aY P w K mg base CX0 1 f fd XZ (KD K):=by
 refine okA F xU fun H Q E hr h=>?_
 obtain⟨a,ns,k,rfl,hS,q⟩:=h
 refine⟨_,(ao (ifR (aK yr (pv 1) (pln K B.len_ (pv 0))) (pxL K (pv 0) (pv 1)))
 (sR aq)),?_⟩
 refine⟨_,U,_,U,a,_,U,.inl hS,_,_,U,U,_,U,?_⟩
 have el:(((ns.map V.int).length:Nat):Int)=(ns.length:Int):=by rw[TJ]
 rw[el]
 refine wI (fun c=>?_) (fun c=>?_)
 ·have c':(k:Int) < (ns.length:Int):=of_decide_eq_true c
  have hk:k < ns.length:=by lia
  refine⟨_,U,_,U,a,_,_,_,U,U,hS,lY hk,?_⟩
  rw[TY,T8 hk] at q
  exact q
 ·have c':¬ (k:Int) < (ns.length:Int):=fun z=>c (dcT z)
  have hk:ns.length<=k:=by lia
  rw[TY,VF hk] at q
  exact q
abbrev lH:Stmt:=top 73
theorem yx:aB XU XU (au lH):=cM
inductive rA (n:Nat)(vs:G1)(H:Hp)(Q:VK)(e3:XK):Prop where
 | mk (x y:V) (d:Dm) (_:vs=[x,y]) (_:Rep H x d) (_:Rep H y d) (_:d.dep < n) (_:∀ H',aH H H'->Q (.bl true) H')
theorem Rb {x:V}:decide (x=x)=true:=dcT U
theorem yL (n:Nat):(Uy n true).all (fun b=>b)=true:=by
 induction n with
 | zero=>rfl
 | succ n ih=>rw[Xy,Zq,ih];rfl
theorem zQ (n:Nat):(Uy n true).map V.bl=Uy n (V.bl true):=List.map_replicate
theorem gK {n:Nat} (F:Fun K "_law_same" "_law_same" lH f fd) (B:Bt mg)
  (SO:Df P w K mg base "_law_same" n XU (rA n)):aY P w K mg base CX0 (n+1) f fd XU (rA (n+1)):=by
 refine okA F yx fun H Q E hr h=>?_
 obtain⟨x,y,d,rfl,rx,ry,hd,q⟩:=h
 refine⟨_,(ao (ifR (OJ (Kg (pv 1))) (Pa (Kg (pv 0))))
 (ao (ifR (bV (aJ (r:=uA K) bM U B.isinstance_ aO (aj (pv 1) (a1 (iD B.str_ Ko))))) (dJ (aJ (r:=uA K) bM U B.isinstance_ aO (aj (pv 0) (a1 (iD B.str_ Ko)))) (iM (cD bw (pv 0) (pv 1)))))
 (ao (ifR (bV (aJ (r:=uA K) bM U B.isinstance_ aO (aj (pv 1) (a1 (iD B.int_ vU))))) (dJ (aJ (r:=uA K) bM U B.isinstance_ aO (aj (pv 0) (a1 (iD B.int_ vU)))) (dJ (cD bw (aJ (r:=uA K) bM U B.isinstance_ aO (aj (pv 0) (a1 (iD B.bool_ yE)))) (aJ (r:=uA K) bM U B.isinstance_ aO (aj (pv 1) (a1 (iD B.bool_ yE))))) (iM (cD bw (pv 0) (pv 1))))))
 (ao (ifR (PW.pt (lO (aK Aq (aJ (r:=uA K) bM U B.isinstance_ aO (aj (pv 1) (a1 (iD B.list_ oG)))) (aJ (r:=uA K) bM U B.isinstance_ aO (aj (pv 0) (a1 (iD B.list_ oG))))) (ir (aK Aq (aJ (r:=uA K) bM U B.isinstance_ aO (aj (pv 1) (a1 (iD B.tuple_ bC)))) (aJ (r:=uA K) bM U B.isinstance_ aO (aj (pv 0) (a1 (iD B.tuple_ bC)))))))) iw)
 (sR (dJ (cD bw (pln K B.len_ (pv 0)) (pln K B.len_ (pv 1))) (iM (aJ (r:=Jx K) (pN U) U B.all_ El (a1 (bj (L:=["_law_k"]) (F:=XU) (cap:=[0,1]) U (aV U U (by kernel_rfl)) (cZ U B.range_ (a1 (pln K B.len_ (pv 1)))) (fun _ _ _ _ _=>(pgC 0)) (fun _ _ _ _ _=>bF) (fun _ _ _ _ _=>(aP SO hr (aj (pix (r:=rIx K) Kp (pv 1) (pv 0)) (a1 (pix (r:=rIx K) Kp (pv 2) (pv 0)))))))))))))))),?_⟩
 cases rx with
 | non =>
  cases ry
  exact⟨_,U,_,U,dq ⟨_,U,q H (aH.refl H)⟩⟩
 | bl b =>
  cases ry
  refine⟨_,U,_,U,bZ ⟨_,U,_,_,_,_,U,.bl b,xm _,_,U,bZ ⟨_,U,_,_,_,_,U,.bl b,oJ _,_,U,dq ⟨_,U,_,_,_,_,U,.bl b,oJ _,_,U,dq ⟨_,U,_,_,_,_,U,.bl b,dD _ _,_,U,_,_,_,_,U,.bl b,dD _ _,U,_,U,dq ⟨_,U,_,U,U,?_⟩⟩⟩⟩⟩⟩
  have q':=q H (aH.refl H)
  rw[← Rb (x:=V.bl b)] at q'
  exact q'
 | int i =>
  cases ry
  refine⟨_,U,_,U,bZ ⟨_,U,_,_,_,_,U,.int i,Br _,_,U,bZ ⟨_,U,_,_,_,_,U,.int i,dD _ _,_,U,dq ⟨_,U,_,_,_,_,U,.int i,dD _ _,_,U,dq ⟨_,U,_,_,_,_,U,.int i,jD _,_,U,_,_,_,_,U,.int i,jD _,U,_,U,dq ⟨_,U,_,U,U,?_⟩⟩⟩⟩⟩⟩
  have q':=q H (aH.refl H)
  rw[← Rb (x:=V.int i)] at q'
  exact q'
 | str z =>
  cases ry
  refine⟨_,U,_,U,bZ ⟨_,U,_,_,_,_,U,.str z,dD _ _,_,U,dq ⟨_,U,_,_,_,_,U,.str z,dD _ _,_,U,dq ⟨_,U,_,U,U,?_⟩⟩⟩⟩
  have q':=q H (aH.refl H)
  rw[← Rb (x:=V.str z)] at q'
  exact q'
 | @tup a xs ds ha la ra =>
  cases ry with
  | @tup b ys _ hb lb rb =>
   have ex:=ra.length
   have ey:=rb.length
   have hdl:Bs ds < n:=by
    have hd':Bs ds+1 < n+1:=by rw[Dm.dep] at hd;exact hd
    lia
   refine⟨_,U,_,U,bZ ⟨_,U,_,_,_,_,U,.tup hb,vQ _,_,U,bZ ⟨_,U,_,_,_,_,U,.tup hb,wz _,_,U,bZ ⟨_,U,_,_,_,_,U,.tup hb,jX _,_,U,_,_,_,_,U,.tup ha,jX _,U,_,U,bZ ⟨_,U,_,_,_,_,U,.tup hb,dD _ _,_,U,_,_,_,_,U,.tup ha,dD _ _,U,_,U,bZ ⟨_,U,a,_,U,.inr (sqT ha),_,U,b,_,U,.inr (sqT hb),U,_,U,?_⟩⟩⟩⟩⟩⟩
   have ec:decide (V.int (xs.length:Int)=V.int (ys.length:Int))=true:=dcT (by rw[ex,ey])
   rw[ec]
   refine dq ?_
   refine⟨_,U,b,_,U,.inr (sqT hb),_,U,by lia,by lia,fun D hD=>dW (lo:=0) (n:=ys.length) (fun i zs σ' H2=>(∃ v,σ'=[v,oR a,oR b])/\zs=Uy i (V.bl true)/\aH H H2/\H2 D=some (.lst zs))
    ⟨⟨_,U⟩,U,aA hD _,aa⟩ (fun i zs σ' H2 _ h=>h.2.2.2) ?_ ?_⟩
   ·rintro i zs σ' H2 hi ⟨⟨v,rfl⟩,rfl,sm,hDl⟩
    obtain⟨v1,d1,e1,e2,r1⟩:=ra.get (i:=i) (by lia)
    obtain⟨v2,d2,e3,e4,r2⟩:=rb.get (i:=i) hi
    rw[e2] at e4
    cases e4
    have at1:atI xs (0+(i:Int))=some v1:=by rw[Ze];exact jw e1
    have at2:atI ys (0+(i:Int))=some v2:=by rw[Ze];exact jw e3
    refine gT ?_
    refine⟨_,U,_,U,.inr (.inl ⟨a,xs,_,v1,U,U,sqT (sm _ _ ha),at1,_,U,_,U,.inr (.inl ⟨b,ys,_,v2,U,U,sqT (sm _ _ hb),at2,v1,v2,d1,U,r1.mono sm,r2.mono sm,?_,fun H3 s3=>⟨s3 _ _ hDl,?_,⟨_,U⟩,?_,aL (sm.trans s3) hD _,aa⟩⟩)⟩)⟩
    ·exact X4 (sS e2) hdl
    ·rw[Wf]
     exact T4 (show i < 100000 by lia) (by decide)
    ·rw[Zu]
   ·rintro zs σ' H2 ⟨_,rfl,sm,hDl⟩
    refine⟨D,Uy ys.length true,U,sqL (by rw[hDl,zQ]),?_⟩
    rw[yL]
    exact q _ sm
 | @lst a xs ds ha la ra =>
  cases ry with
  | @lst b ys _ hb lb rb =>
   have ex:=ra.length
   have ey:=rb.length
   have hdl:Bs ds < n:=by
    have hd':Bs ds+1 < n+1:=by rw[Dm.dep] at hd;exact hd
    lia
   refine⟨_,U,_,U,bZ ⟨_,U,_,_,_,_,U,.lst hb,xg _,_,U,bZ ⟨_,U,_,_,_,_,U,.lst hb,yt _,_,U,bZ ⟨_,U,_,_,_,_,U,.lst hb,dD _ _,_,U,_,_,_,_,U,.lst ha,dD _ _,U,_,U,bZ ⟨_,U,_,_,_,_,U,.lst hb,j0 _,_,U,_,_,_,_,U,.lst ha,j0 _,U,_,U,bZ ⟨_,U,a,_,U,.inl (sqL ha),_,U,b,_,U,.inl (sqL hb),U,_,U,?_⟩⟩⟩⟩⟩⟩
   have ec:decide (V.int (xs.length:Int)=V.int (ys.length:Int))=true:=dcT (by rw[ex,ey])
   rw[ec]
   refine dq ?_
   refine⟨_,U,b,_,U,.inl (sqL hb),_,U,by lia,by lia,fun D hD=>dW (lo:=0) (n:=ys.length) (fun i zs σ' H2=>(∃ v,σ'=[v,oR a,oR b])/\zs=Uy i (V.bl true)/\aH H H2/\H2 D=some (.lst zs))
    ⟨⟨_,U⟩,U,aA hD _,aa⟩ (fun i zs σ' H2 _ h=>h.2.2.2) ?_ ?_⟩
   ·rintro i zs σ' H2 hi ⟨⟨v,rfl⟩,rfl,sm,hDl⟩
    obtain⟨v1,d1,e1,e2,r1⟩:=ra.get (i:=i) (by lia)
    obtain⟨v2,d2,e3,e4,r2⟩:=rb.get (i:=i) hi
    rw[e2] at e4
    cases e4
    have at1:atI xs (0+(i:Int))=some v1:=by rw[Ze];exact jw e1
    have at2:atI ys (0+(i:Int))=some v2:=by rw[Ze];exact jw e3
    refine gT ?_
    refine⟨_,U,_,U,.inl ( ⟨a,xs,_,v1,U,U,sqL (sm _ _ ha),at1,_,U,_,U,.inl ( ⟨b,ys,_,v2,U,U,sqL (sm _ _ hb),at2,v1,v2,d1,U,r1.mono sm,r2.mono sm,?_,fun H3 s3=>⟨s3 _ _ hDl,?_,⟨_,U⟩,?_,aL (sm.trans s3) hD _,aa⟩⟩)⟩)⟩
    ·exact X4 (sS e2) hdl
    ·rw[Wf]
     exact T4 (show i < 100000 by lia) (by decide)
    ·rw[Zu]
   ·rintro zs σ' H2 ⟨_,rfl,sm,hDl⟩
    refine⟨D,Uy ys.length true,U,sqL (by rw[hDl,zQ]),?_⟩
    rw[yL]
    exact q _ sm
theorem same_none:aY P w K mg base CX0 0 f fd XU (rA 0):=by
 have no:∀ vs H Q E,¬ rA 0 vs H Q E:=fun vs H Q E h=>by
  obtain⟨x,y,d,_,_,_,h1,_⟩:=h
  lia
 exact⟨fun vs H Q E h=>absurd h (no vs H Q E),fun A outer s H args us vs Q E _ _ _ _ h=>absurd h (no vs H Q E)⟩
abbrev jA:Stmt:=top 65
theorem fC:aB ["_law_cell_here","_law_k","_law_rest","_law_turn"] XG (au jA):=cM
def Qc (c:Int)(k:Nat):Int:=if decide ((if c < 0 then -c else c) < 10 ^ (18:Int).toNat)=true then (c * 48271+7919 * (k:Int)+13) % 2147483647 else 10 ^ (18:Int).toNat+divC ((if c < 0 then -c else c) - 10 ^ (18:Int).toNat) (Uy (k+1) (10 ^ (9:Int).toNat))
inductive tY (vs:G1)(H:Hp)(Q:VK)(e3:XK):Prop where
 | mk (c:Int) (k:Nat) (_:vs=[.int c,.int (k:Int)]) (_:k<=1000) (_:Q (.int (Qc c k)) H)
theorem vD (F:Fun K "_law_under" "_law_under" jA f fd) (B:Bt mg) :
  aY P w K mg base CX0 1 f fd XG tY:=by
 refine okA F fC fun H Q E hr h=>?_
 obtain⟨c,k,rfl,hk,q⟩:=h
 refine⟨_,(ao (ifR (aK yr (aJ nJ U B.abs_ yU (v1 0)) (aM rH aq aq)) (aM cI (aM bA (aM bA (aM je (pv 0) aq) (aM je aq (pv 1))) aq) aq))
 (ao (sT 2 fC.nd (aM fG (aJ nJ U B.abs_ yU (v1 0)) (aM rH aq aq)))
 (ao (dC Vu U (cZ U B.range_ (a1 (aM bA (pv 1) aq))) (pgN 3 fC.nd) (aC (sT 2 fC.nd (aM yh (pv 2) (aM rH aq aq)))))
 (sR (aM bA (aM rH aq aq) (pv 2)))))),?_⟩
 refine⟨_,U,_,U,_,_,U,U,⟨by decide,by decide,by decide⟩,_,_,U,U,_,U,?_⟩
 refine wI (fun h=>?_) (fun h=>?_)
 ·refine⟨_,U,_,_,U,U,.inr ⟨by decide,by decide⟩,_,U,_,_,U,U,.inl ⟨by decide,by decide⟩,_,_,U,U,_,_,U,U,_,_,U,U,(by show (0:Int) < 2147483647;decide),?_⟩
  unfold Qc at q
  rw[iPo h] at q
  exact q
 ·unfold Qc at q
  rw[iNe h] at q
  refine⟨_,U,_,U,_,_,U,U,⟨by decide,by decide,by decide⟩,_,_,U,U,?_⟩
  have ek:((k:Int)+1).toNat=k+1:=by lia
  refine⟨_,U,_,_,U,U,_,U,by lia,by lia,iK (lo:=0) (n:=((k:Int)+1).toNat) (fun i σ H2=>(∃ t:GU,σ=[oI c,some (.int (k:Int)),some (.int (divC ((if c < 0 then -c else c) - 10 ^ (18:Int).toNat) (Uy i (10 ^ (9:Int).toNat)))),t])/\H2=H) ⟨⟨_,U⟩,U⟩ ?_ ?_⟩
  ·rintro i σ H2 hi ⟨⟨t,rfl⟩,rfl⟩
   refine⟨_,U,_,_,U,U,⟨by decide,by decide,by decide⟩,_,_,U,U,⟨by show (0:Int) < 10 ^ 9;decide,by show (10 ^ 9:Int) < 1073741824;decide⟩,⟨some (.int (0+(i:Int))),?_⟩,U⟩
   rw[Zu,jV]
   rfl
  ·rintro σ H2 ⟨⟨t,rfl⟩,rfl⟩
   refine⟨_,_,U,U,⟨by decide,by decide,by decide⟩,_,U,_,_,U,U,?_⟩
   rw[ek]
   exact q
abbrev jr:Stmt:=top 66
theorem fD:aB ["_law_number","_law_n","_law_found","_law_one"] X0 (au jr):=cM
inductive wO (vs:G1)(H:Hp)(Q:VK)(e3:XK):Prop where
 | mk (m:Int) (n:Nat) (_:vs=[.int m,.int (n:Int)]) (_:n<=100) (_:∀ (c:Fa) (r:Addr) (H':Hp),(∀ i∈c,i < n)->c.Pairwise (· < ·)->c.length<=n->aH H H'->H r=none->H' r=some (.tup (c.map vN))->Q (.ref r) H')
theorem wu (F:Fun K "_law_crowd" "_law_crowd" jr f fd) (B:Bt mg) :
  aY P w K mg base CX0 1 f fd X0 wO:=by
 refine okA F fD fun H Q E hr h=>?_
 obtain⟨m,n,rfl,hn,q⟩:=h
 refine⟨_,(ao (sT 2 fD.nd (bI dM))
 (ao (dC Vu U (cZ U B.range_ (v1 1)) (pgN 3 fD.nd) (ao (c7 (aK bw (aM cI (pv 0) aq) aq) (aC (aU (yH Wq Wh Wg cL (pv 2) (v1 3)))) bh)
 (aC (sT 0 fD.nd (aM yh (pv 0) aq)))))
 (sR (bf (r:=gm K) bu U B.tuple_ bC (v1 2))))),?_⟩
 refine⟨smN 0,fun r hr0=>?_⟩
 have en:((n:Int)).toNat=n:=U7 n
 refine⟨_,U,_,U,by lia,by lia,iK (lo:=0) (n:=((n:Int)).toNat) (fun i σ H2=>∃ (z:Int) (t:GU) (c:Fa),σ=[oI z,some (.int (n:Int)),oR r,t]/\H2=upd H r (.lst (c.map vN))/\(∀ j∈c,j < i)/\c.Pairwise (· < ·)/\c.length<=i)
  ⟨_,_,[],U,U,by simp,by simp,T6 _⟩ ?_ ?_⟩
 ·rintro i σ H2 hi ⟨z,t,c,rfl,rfl,hc,hp,hl⟩
  refine⟨_,U,_,_,U,U,(by show (0:Int) < 2;decide),U,_,U,?_⟩
  refine wI (fun _=>?_) (fun _=>?_)
  ·refine⟨_,U,.inl ⟨U,_,sqL aa⟩,_,U,r,_,_,U,U,aa,?_,_,U,_,_,U,U,⟨by decide,by decide⟩,_,_,c++[i],U,?_,?_,?_,?_⟩
   ·rw[TJ]
    exact aF (by lia)
   ·rw[CJ,Ub,Ze]
    rfl
   ·intro j hj
    rcases List.mem_append.mp hj with h | h
    ·have:=hc j h
     lia
    ·have:=List.mem_singleton.mp h
     lia
   ·rw[Zv]
    refine⟨hp,by simp,fun a ha b hb=>?_⟩
    rw[List.mem_singleton.mp hb]
    exact hc a ha
   ·rw[Ui]
    show c.length+1<=i+1
    lia
  ·refine⟨_,U,_,_,U,U,⟨by decide,by decide⟩,_,_,c,U,U,fun j hj=>Vv (hc j hj),hp,by lia⟩
 ·rintro σ H2 ⟨z,t,c,rfl,rfl,hc,hp,hl⟩
  refine⟨_,U,r,_,U,.inl ⟨sqL aa,fun l hl'=>?_⟩⟩
  rw[en] at hc hl
  exact q c l _ hc hp hl ((aA hr0 _).trans (aA hl' _)) ((aA hr0 _).free hl') aa
inductive Tm where
 | free | never | gives (i:Nat) (k:Int) | sum (c:Fa) (k:Int) | crowd (c:Fa) (k m:Int) | all (ts:List Tm) | any (ts:List Tm)
mutual
def Tm.dep:Tm->Nat
 | .all ts=>tdL ts+1
 | .any ts=>tdL ts+1
 | _=>1
def tdL:List Tm->Nat
 | []=>0
 | t::r=>max t.dep (tdL r)
end
mutual
def hF (g:E9):Tm->Bool
 | .free=>true
 | .never=>false
 | .gives i k=>decide (k<=g.getD i 0)
 | .sum c k=>decide (k<=(c.map fun i=>g.getD i 0).sum)
 | .crowd c k m=>decide (m<=((c.filter fun i=>decide (k<=g.getD i 0)).length:Int))
 | .all ts=>mH g ts
 | .any ts=>mz g ts
def mH (g:E9):List Tm->Bool
 | []=>true
 | t::r=>hF g t && mH g r
def mz (g:E9):List Tm->Bool
 | []=>false
 | t::r=>hF g t || mz g r
end
mutual
inductive gq (n:Nat)(H:Hp):V->Tm->Prop where
 | free {a:Addr}:H a=some (.tup [.str "free"])->gq n H (.ref a) .free
 | never {a:Addr}:H a=some (.tup [.str "never"])->gq n H (.ref a) .never
 | gives {a:Addr} {i:Nat} {k:Int}:H a=some (.tup [.str "gives",vN i,.int k])->i < n->1<=k->k<=9->gq n H (.ref a) (.gives i k)
 | sum {a b:Addr} {c:Fa} {k:Int}:H a=some (.tup [.str "sum",.ref b,.int k])->H b=some (.tup (c.map vN))->(∀ i∈c,i < n)->c.Pairwise (· < ·)->c.length<=20->2<=c.length->1<=k->k<=99->gq n H (.ref a) (.sum c k)
 | crowd {a b:Addr} {c:Fa} {k m:Int}:H a=some (.tup [.str "crowd",.ref b,.int k,.int m])->H b=some (.tup (c.map vN))->(∀ i∈c,i < n)->c.Pairwise (· < ·)->c.length<=20->1<=c.length->1<=k->k<=9->1<=m->m<=12->gq n H (.ref a) (.crowd c k m)
 | all {a b:Addr} {vs:G1} {ts:List Tm}:H a=some (.tup [.str "all",.ref b])->H b=some (.tup vs)->2<=vs.length->vs.length<=6->bQ n H vs ts->gq n H (.ref a) (.all ts)
 | any {a b:Addr} {vs:G1} {ts:List Tm}:H a=some (.tup [.str "any",.ref b])->H b=some (.tup vs)->2<=vs.length->vs.length<=6->bQ n H vs ts->gq n H (.ref a) (.any ts)
inductive bQ (n:Nat)(H:Hp):G1->List Tm->Prop where
 | nil:bQ n H [] []
 | cons {v:V} {t:Tm} {vs:G1} {ts:List Tm}:gq n H v t->bQ n H vs ts->bQ n H (v::vs) (t::ts)
end
mutual
theorem gq.aN {n:Nat}{H H':Hp}(e:∀ a xs,H a=some (HO.tup xs)->H' a=some (HO.tup xs)):∀ {v:V} {t:Tm},gq n H v t->gq n H' v t
 | _,_,.free h=>.free (e _ _ h)
 | _,_,.never h=>.never (e _ _ h)
 | _,_,.gives h a b c=>.gives (e _ _ h) a b c
 | _,_,.sum h h2 a b c d f g=>.sum (e _ _ h) (e _ _ h2) a b c d f g
 | _,_,.crowd h h2 a b c d f g i j=>.crowd (e _ _ h) (e _ _ h2) a b c d f g i j
 | _,_,.all h h2 a b r=>.all (e _ _ h) (e _ _ h2) a b (bQ.aN e r)
 | _,_,.any h h2 a b r=>.any (e _ _ h) (e _ _ h2) a b (bQ.aN e r)
theorem bQ.aN {n:Nat}{H H':Hp}(e:∀ a xs,H a=some (HO.tup xs)->H' a=some (HO.tup xs)):∀ {vs:G1} {ts:List Tm},bQ n H vs ts->bQ n H' vs ts
 | _,_,.nil=>.nil
 | _,_,.cons h r=>.cons (gq.aN e h) (bQ.aN e r)
end
theorem gq.mono {n:Nat}{H H':Hp}(e:aH H H'){v:V}{t:Tm}(h:gq n H v t):gq n H' v t:=h.aN fun a xs q=>e a _ q
theorem bQ.mono {n:Nat}{H H':Hp}(e:aH H H'){vs:G1}{ts:List Tm}(h:bQ n H vs ts):bQ n H' vs ts:=h.aN fun a xs q=>e a _ q
theorem bQ.length {n:Nat}{H:Hp}:∀ {vs:G1} {ts:List Tm},bQ n H vs ts->vs.length=ts.length
 | _,_,.nil=>rfl
 | _,_,.cons _ r=>by rw[Uj,Uj,bQ.length r]
theorem bQ.get {n:Nat}{H:Hp}:∀ {vs:G1} {ts:List Tm} {i:Nat} {v:V},bQ n H vs ts->vs[i]? = some v->∃ t,ts[i]? = some t/\gq n H v t
 | _,_,_,_,.nil,h=>by simp at h
 | _,_,0,_,.cons h _,e=>by
  cases (show some _=some _ from e)
  exact⟨_,U,h⟩
 | _,_,i+1,_,.cons _ r,e=>by
  obtain⟨t,e1,e2⟩:=bQ.get (i:=i) r (by simpa using e)
  exact⟨t,by simpa using e1,e2⟩
theorem bQ.snoc {n:Nat}{H:Hp}:∀ {vs:G1} {ts:List Tm} {v:V} {t:Tm},bQ n H vs ts->gq n H v t->bQ n H (vs++[v]) (ts++[t])
 | _,_,_,_,.nil,h=>.cons h .nil
 | _,_,_,_,.cons a r,h=>.cons a (bQ.snoc r h)
theorem iR:∀ {ts:List Tm} {i:Nat} {t:Tm},ts[i]? = some t->t.dep<=tdL ts
 | [],_,_,h=>by simp at h
 | d::r,0,_,h=>by
  cases (show some d=some _ from h)
  rw[tdL]
  exact Nat.le_max_left _ _
 | d::r,i+1,_,h=>by
  rw[tdL]
  exact UL (iR (i:=i) (ts:=r) (by simpa using h)) (Nat.le_max_right _ _)
theorem yP {m:Nat}{t:Tm}(h:t.dep<=m):∀ {ts:List Tm},tdL ts<=m->tdL (ts++[t])<=m
 | [],_=>by simp only[abK,tdL];lia
 | d::r,h2=>by
  rw[tdL] at h2
  rw[abw,tdL]
  have:=yP (m:=m) h (ts:=r) (by lia)
  lia
theorem Tm.lQ:∀ t:Tm,1<=t.dep
 | .free | .never | .gives .. | .sum .. | .crowd ..=>T6 1
 | .all ts=>by rw[Tm.dep];lia
 | .any ts=>by rw[Tm.dep];lia
theorem wC:∀ {g:E9} {ts:List Tm} {i:Nat} {t:Tm},ts[i]? = some t->mH g (ts.take (i+1))=(mH g (ts.take i) && hF g t)
 | _,[],_,_,h=>by simp at h
 | g,d::r,0,t,h=>by
  cases (show some d=some _ from h)
  rw[Xx,mH,Vp,Vp,mH,Bool.and_true,YW]
 | g,d::r,i+1,t,h=>by
  rw[Xx,mH,wC (i:=i) (ts:=r) (by simpa using h),Xx,mH,Bool.and_assoc]
theorem vV:∀ {g:E9} {ts:List Tm} {i:Nat} {t:Tm},ts[i]? = some t->mz g (ts.take (i+1))=(mz g (ts.take i) || hF g t)
 | _,[],_,_,h=>by simp at h
 | g,d::r,0,t,h=>by
  cases (show some d=some _ from h)
  rw[Xx,mz,Vp,Vp,mz,Bool.or_false,aak]
 | g,d::r,i+1,t,h=>by
  rw[Xx,mz,vV (i:=i) (ts:=r) (by simpa using h),Xx,mz,Bool.or_assoc]
theorem qU:∀ {g:E9} {ts:List Tm} {i:Nat} {t:Tm},ts[i]? = some t->hF g t=false->mH g ts=false
 | _,[],_,_,h,_=>by simp at h
 | g,d::r,0,t,h,e=>by
  cases (show some d=some _ from h)
  rw[mH,e,Yx]
 | g,d::r,i+1,t,h,e=>by rw[mH,qU (i:=i) (ts:=r) (by simpa using h) e,Yy]
theorem uP:∀ {g:E9} {ts:List Tm} {i:Nat} {t:Tm},ts[i]? = some t->hF g t=true->mz g ts=true
 | _,[],_,_,h,_=>by simp at h
 | g,d::r,0,t,h,e=>by
  cases (show some d=some _ from h)
  rw[mz,e,Bool.true_or]
 | g,d::r,i+1,t,h,e=>by rw[mz,uP (i:=i) (ts:=r) (by simpa using h) e,X5]
def LeG (g g':E9):Prop:=∀ i,g.getD i 0<=g'.getD i 0
theorem qO (f f':Nat->Int)(h:∀ i,f i<=f' i):∀ c:Fa,(c.map f).sum<=(c.map f').sum
 | []=>Xr _
 | i::c=>by
  have:=qO f f' h c
  have:=h i
  simp only[U0,aai]
  lia
theorem filter_le (f f':Nat->Bool)(h:∀ i,f i=true->f' i=true):∀ c:Fa,(c.filter f).length<=(c.filter f').length
 | []=>T6 _
 | i::c=>by
  have ih:=filter_le f f' h c
  rw[XQ,XQ]
  by_cases e:f i=true
  ·rw[iPo e,iPo (h i e),Uj,Uj]
   lia
  ·rw[iNe e]
   split
   ·rw[Uj]
    lia
   ·exact ih
mutual
theorem xW {g g':E9}(l:LeG g g'):∀ t:Tm,hF g t=true->hF g' t=true
 | .free,_=>by rw[hF]
 | .never,h=>by rw[hF] at h;cases h
 | .gives i k,h=>by
  rw[hF] at h ⊢
  have:=of_decide_eq_true h
  have:=l i
  exact dcT (by lia)
 | .sum c k,h=>by
  rw[hF] at h ⊢
  have:=of_decide_eq_true h
  have:=qO _ _ l c
  exact dcT (by lia)
 | .crowd c k m,h=>by
  rw[hF] at h ⊢
  have:=of_decide_eq_true h
  have:=filter_le (fun i=>decide (k<=g.getD i 0)) (fun i=>decide (k<=g'.getD i 0)) (fun i e=>dcT (Int.le_trans (of_decide_eq_true e) (l i))) c
  exact dcT (by lia)
 | .all ts,h=>by
  rw[hF] at h ⊢
  exact wB l ts h
 | .any ts,h=>by
  rw[hF] at h ⊢
  exact uO l ts h
theorem wB {g g':E9}(l:LeG g g'):∀ ts:List Tm,mH g ts=true->mH g' ts=true
 | [],_=>by rw[mH]
 | t::r,h=>by
  rw[mH,Vt] at h
  rw[mH,xW l t h.1,wB l r h.2]
  rfl
theorem uO {g g':E9}(l:LeG g g'):∀ ts:List Tm,mz g ts=true->mz g' ts=true
 | [],h=>by rw[mz] at h;cases h
 | t::r,h=>by
  rw[mz,Y7] at h
  rw[mz]
  rcases h with h | h
  ·rw[xW l t h,Bool.true_or]
  ·rw[uO l r h,X5]
end
theorem bG {c A B:Prop}[Decidable c](hc:¬ c)(h:B):if decide c=true then A else B:=by
 rw[dcF hc]
 exact bZ h
theorem jR {c A B:Prop}[Decidable c](hc:c)(h:A):if decide c=true then A else B:=by
 rw[dcT hc]
 exact dq h
theorem Oh {a b:Ut}(h:a≠b):¬ V.str a=V.str b:=fun z=>h (by cases z;rfl)
theorem bL {a b:Ut}(h:a≠b:=by decide):¬ V.str a=V.str b:=Oh h
theorem atD {g:E9}{i:Nat}(h:i < g.length):atI (g.map V.int) (i:Int)=some (.int (g.getD i 0)):=by
 rw[lY h,TY,T8 h]
 rfl
abbrev lJ:Stmt:=top 25
abbrev jm:Stmt:=top 26
abbrev xY:Stmt:=top 27
theorem nU:aB ["parts","giving","part"] YI (au lJ):=cM
theorem my:aB ["parts","giving","part"] YI (au jm):=cM
theorem zL:aB ["term","giving","kind"] YR (au xY):=cM
inductive dw (K:Uw)(d:Nat)(vs:G1)(H:Hp)(Q:VK)(e3:XK):Prop where
 | mk (v:V) (g:Addr) (n:Nat) (t:Tm) (ns:E9) (_:vs=[v,.ref g]) (_:gq n H v t) (_:t.dep<=d) (_:SqT K H g (ns.map V.int)) (_:n<=ns.length) (_:∀ H',aH H H'->Q (.bl (hF ns t)) H')
inductive Km (K:Uw)(d:Nat)(vs:G1)(H:Hp)(Q:VK)(e3:XK):Prop where
 | mk (b g:Addr) (n:Nat) (us:G1) (ts:List Tm) (ns:E9) (_:vs=[.ref b,.ref g]) (_:H b=some (.tup us)) (_:bQ n H us ts) (_:tdL ts<=d) (_:SqT K H g (ns.map V.int)) (_:n<=ns.length) (_:∀ H',aH H H'->Q (.bl (mH ns ts)) H')
inductive J9 (K:Uw)(d:Nat)(vs:G1)(H:Hp)(Q:VK)(e3:XK):Prop where
 | mk (b g:Addr) (n:Nat) (us:G1) (ts:List Tm) (ns:E9) (_:vs=[.ref b,.ref g]) (_:H b=some (.tup us)) (_:bQ n H us ts) (_:tdL ts<=d) (_:SqT K H g (ns.map V.int)) (_:n<=ns.length) (_:∀ H',aH H H'->Q (.bl (mz ns ts)) H')
theorem Az:aY P w K mg base CX0 0 f fd YR (dw K 0):=by
 have no:∀ vs H Q E,¬ dw K 0 vs H Q E:=fun vs H Q E h=>by
  obtain⟨v,g,n,t,ns,_,_,h1,_⟩:=h
  have:=t.lQ
  lia
 exact⟨fun vs H Q E h=>absurd h (no vs H Q E),fun A outer s H args us vs Q E _ _ _ _ h=>absurd h (no vs H Q E)⟩
theorem gP {d k:Nat} (F:Fun K "all_hold" "all_hold" lJ f fd) (B:Bt mg)
  (Sj:Df P w K mg base "holds" k YR (dw K d)):aY P w K mg base CX0 (k+1) f fd YI (Km K d):=by
 refine okA F nU fun H Q E hr h=>?_
 obtain⟨b,g,n,us,ts,ns,rfl,hb,rp,hd,hg,hn,q⟩:=h
 refine⟨_,(ao (dC Vu U (cH (pv 0)) (pgN 2 nU.nd) (aC (ifR (dG (bV (aP Sj hr (v2 2 1)))) iw)))
 (sR iw)),?_⟩
 have el:=rp.length
 refine⟨_,U,b,U,⟨_,sqT hb⟩,kZ (K:=K) (a:=b) (xs:=us) (fun i σ H2=>(∃ u,σ=[oR b,oR g,u])/\aH H H2/\mH ns (ts.take i)=true) ⟨⟨_,U⟩,aH.refl H,by rw[Vp,mH]⟩ (fun i σ H2 _ h=>eV h.2.1 (sqT hb)) ?_ ?_⟩
 ·rintro i x σ H2 hx ⟨⟨u,rfl⟩,sm,ab⟩
  obtain⟨t,ht,rt⟩:=rp.get hx
  refine⟨_,U,_,U,x,g,n,t,ns,U,rt.mono sm,UL (iR ht) hd,eV sm hg,hn,fun H3 s3=>⟨_,U,?_⟩⟩
  cases e:hF ns t with
  | false =>
   have q':=q H3 (sm.trans s3)
   rw[qU ht e] at q'
   exact dq q'
  | true=>exact bZ ⟨⟨_,U⟩,sm.trans s3,by rw[wC ht,ab,e];rfl⟩
 ·rintro σ H2 ⟨⟨u,rfl⟩,sm,ab⟩
  have q':=q H2 sm
  rw[el,Uh] at ab
  rw[ab] at q'
  exact q'
theorem fj {d k:Nat} (F:Fun K "any_holds" "any_holds" jm f fd) (B:Bt mg)
  (Sj:Df P w K mg base "holds" k YR (dw K d)):aY P w K mg base CX0 (k+1) f fd YI (J9 K d):=by
 refine okA F my fun H Q E hr h=>?_
 obtain⟨b,g,n,us,ts,ns,rfl,hb,rp,hd,hg,hn,q⟩:=h
 refine⟨_,(ao (dC Vu U (cH (pv 0)) (pgN 2 my.nd) (aC (ifR (bV (aP Sj hr (v2 2 1))) iw)))
 (sR iw)),?_⟩
 have el:=rp.length
 refine⟨_,U,b,U,⟨_,sqT hb⟩,kZ (K:=K) (a:=b) (xs:=us) (fun i σ H2=>(∃ u,σ=[oR b,oR g,u])/\aH H H2/\mz ns (ts.take i)=false) ⟨⟨_,U⟩,aH.refl H,by rw[Vp,mz]⟩ (fun i σ H2 _ h=>eV h.2.1 (sqT hb)) ?_ ?_⟩
 ·rintro i x σ H2 hx ⟨⟨u,rfl⟩,sm,ab⟩
  obtain⟨t,ht,rt⟩:=rp.get hx
  refine⟨_,U,_,U,x,g,n,t,ns,U,rt.mono sm,UL (iR ht) hd,eV sm hg,hn,fun H3 s3=>⟨_,U,?_⟩⟩
  cases e:hF ns t with
  | true =>
   have q':=q H3 (sm.trans s3)
   rw[uP ht e] at q'
   exact dq q'
  | false=>exact bZ ⟨⟨_,U⟩,sm.trans s3,by rw[vV ht,ab,e];rfl⟩
 ·rintro σ H2 ⟨⟨u,rfl⟩,sm,ab⟩
  have q':=q H2 sm
  rw[el,Uh] at ab
  rw[ab] at q'
  exact q'
theorem m8 {d k:Nat} (F:Fun K "holds" "holds" xY f fd) (B:Bt mg)
  (RR:Df P w K mg base "all_hold" k YI (Km K d)) (RS:Df P w K mg base "any_holds" k YI (J9 K d)):aY P w K mg base CX0 (k+1) f fd YR (dw K (d+1)):=by
 refine okA F zL fun H Q E hr h=>?_
 obtain⟨v,g,n,t,ns,rfl,rt,hd,hg,hn,q⟩:=h
 refine⟨_,(ao (sT 2 zL.nd (pxT K (pv 0) aq))
 (ao (ifR (aK bw (pv 2) aQ) (cD lA (pxT K (pv 1) (pxT K (pv 0) aq)) (pxT K (pv 0) aq)))
 (ao (ifR (aK bw (pv 2) aQ) (cD lA (aJ (r:=Jy K) (oW U) U B.sum_ Gg (a1 (bj (L:=["one"]) (F:=["giving"]) (cap:=[1]) U (aV U U (by kernel_rfl)) (cH (pxT K (pv 0) aq)) (fun _ _ _ _ _=>(pgC 0)) (fun _ _ _ _ _=>bF) (fun _ _ _ _ _=>(pxT K (pv 1) (pv 0)))))) (pxT K (pv 0) aq)))
 (ao (ifR (aK bw (pv 2) aQ) (cD lA (pln K B.len_ (bj (L:=["one"]) (F:=["giving","term"]) (cap:=[1,0]) U (aV U U (by kernel_rfl)) (cH (pxT K (pv 0) aq)) (fun _ _ _ _ _=>(pgC 0)) (fun _ _ _ _ _=>(pZ (aK lA (pxT K (pv 1) (pv 0)) (pxT K (pv 2) aq)))) (fun _ _ _ _ _=>(pv 0)))) (pxT K (pv 0) aq)))
 (ao (ifR (aK bw (pv 2) aQ) (aP RR hr (aj (pxT K (pv 0) aq) (v1 1))))
 (ao (ifR (aK bw (pv 2) aQ) (aP RS hr (aj (pxT K (pv 0) aq) (v1 1))))
 (sR (cD bw (pv 2) aQ)))))))),?_⟩
 cases rt with
 | @free a ha =>
  refine⟨_,U,a,_,_,_,U,U,sqT ha,gt0,_,U,U,_,U,bG bL ⟨_,U,U,_,U,bG bL ⟨_,U,U,_,U,bG bL ⟨_,U,U,_,U,bG bL ⟨_,U,U,_,U,bG bL ⟨_,U,U,?_⟩⟩⟩⟩⟩⟩
  have q':=q H (aH.refl H)
  rw[hF] at q'
  rw[dcT U]
  exact q'
 | @never a ha =>
  refine⟨_,U,a,_,_,_,U,U,sqT ha,gt0,_,U,U,_,U,bG bL ⟨_,U,U,_,U,bG bL ⟨_,U,U,_,U,bG bL ⟨_,U,U,_,U,bG bL ⟨_,U,U,_,U,bG bL ⟨_,U,U,?_⟩⟩⟩⟩⟩⟩
  have q':=q H (aH.refl H)
  rw[hF] at q'
  rw[dcF bL]
  exact q'
 | @gives a i k ha hi _ _ =>
  refine⟨_,U,a,_,_,_,U,U,sqT ha,gt0,_,U,U,_,U,jR U ⟨_,U,_,U,a,_,_,_,U,U,sqT ha,gt1,g,_,_,_,U,U,hg,atD (by lia),_,U,a,_,_,_,U,U,sqT ha,gt2,_,_,U,U,?_⟩⟩
  have q':=q H (aH.refl H)
  rw[hF] at q'
  exact q'
 | @sum a b c k ha hb hc _ hl _ _ _ =>
  refine⟨_,U,a,_,_,_,U,U,sqT ha,gt0,_,U,U,_,U,bG bL ⟨_,U,U,_,U,jR U ?_⟩⟩
  refine⟨_,U,a,_,_,_,U,U,sqT ha,gt1,b,U,⟨_,sqT hb⟩,fun D hD=>bU (K:=K) (a:=b) (xs:=c.map vN) (fun i zs σ' H2=>(∃ u,σ'=[u,oR g])/\zs=((c.take i).map fun i=>ns.getD i 0).map V.int/\aH H H2/\H2 D=some (.lst zs))
   ⟨⟨_,U⟩,U,aA hD _,aa⟩ (fun i zs σ' H2 _ h=>⟨eV h.2.2.1 (sqT hb),h.2.2.2⟩) ?_ ?_⟩
  ·rintro j zs x σ' H2 hx ⟨⟨u,rfl⟩,e1,sm,hDl⟩
   obtain⟨i,hi,rfl⟩:=uz hx
   have hin:i < n:=hc i (UJ hi)
   refine gT ?_
   refine⟨_,U,_,U,g,_,_,_,U,U,eV sm hg,atD (by lia),hDl,?_,⟨_,U⟩,?_,aL sm hD _,aa⟩
   ·rw[e1,TJ,TJ,Uo]
    exact aF (by lia)
   ·rw[e1,UT,hi,Ub,Ub]
    rfl
  ·rintro zs σ' H2 ⟨⟨u,rfl⟩,e1,sm,hDl⟩
   rw[TJ,Uh] at e1
   refine⟨D,_,U,sqL (by rw[hDl,e1]),_,U,a,_,_,_,U,U,sqT (sm _ _ ha),gt2,_,_,U,U,?_⟩
   have q':=q H2 sm
   rw[hF] at q'
   exact q'
 | @crowd a b c k m ha hb hc _ hl _ _ _ _ _ =>
  refine⟨_,U,a,_,_,_,U,U,sqT ha,gt0,_,U,U,_,U,bG bL ⟨_,U,U,_,U,bG bL ⟨_,U,U,_,U,jR U ?_⟩⟩⟩
  refine⟨_,U,a,_,_,_,U,U,sqT ha,gt1,b,U,⟨_,sqT hb⟩,fun D hD=>bU (K:=K) (a:=b) (xs:=c.map vN) (fun i zs σ' H2=>(∃ u,σ'=[u,oR g,oR a])/\zs=((c.take i).filter fun i=>decide (k<=ns.getD i 0)).map vN/\aH H H2/\H2 D=some (.lst zs))
   ⟨⟨_,U⟩,U,aA hD _,aa⟩ (fun i zs σ' H2 _ h=>⟨eV h.2.2.1 (sqT hb),h.2.2.2⟩) ?_ ?_⟩
  ·rintro j zs x σ' H2 hx ⟨⟨u,rfl⟩,e1,sm,hDl⟩
   obtain⟨i,hi,rfl⟩:=uz hx
   have hin:i < n:=hc i (UJ hi)
   have et:c.take (j+1)=c.take j++[i]:=by rw[UT,hi];rfl
   refine⟨_,U,_,U,g,_,_,_,U,U,eV sm hg,atD (by lia),_,U,a,_,_,_,U,U,sqT (sm _ _ ha),gt2,_,_,U,U,_,U,?_⟩
   refine wI (fun cc=>?_) (fun cc=>?_)
   ·refine⟨_,U,hDl,?_,⟨_,U⟩,?_,aL sm hD _,aa⟩
    ·rw[e1,TJ]
     have:=Vj (fun i=>decide (k<=ns.getD i 0)) (c.take j)
     rw[Uo] at this
     exact aF (by lia)
    ·rw[e1,et,WQ,Ub,XQ,iPo cc]
     rfl
   ·refine⟨⟨_,U⟩,?_,sm,hDl⟩
    rw[e1,et,WQ,XQ,iNe cc]
    simp
  ·rintro zs σ' H2 ⟨⟨u,rfl⟩,e1,sm,hDl⟩
   rw[TJ,Uh] at e1
   refine⟨D,_,U,.inl (sqL (by rw[hDl,e1])),_,U,a,_,_,_,U,U,sqT (sm _ _ ha),eO (k:=3) U,_,_,U,U,?_⟩
   have q':=q H2 sm
   rw[hF] at q'
   rw[TJ]
   exact q'
 | @all a b us ts ha hb _ _ rl =>
  refine⟨_,U,a,_,_,_,U,U,sqT ha,gt0,_,U,U,_,U,bG bL ⟨_,U,U,_,U,bG bL ⟨_,U,U,_,U,bG bL ⟨_,U,U,_,U,jR U ⟨_,U,a,_,_,_,U,U,sqT ha,gt1,_,U,b,g,n,us,ts,ns,U,hb,rl,?_,hg,hn,fun H' s'=>?_⟩⟩⟩⟩⟩
  ·rw[Tm.dep] at hd
   lia
  ·have q':=q H' s'
   rw[hF] at q'
   exact q'
 | @any a b us ts ha hb _ _ rl =>
  refine⟨_,U,a,_,_,_,U,U,sqT ha,gt0,_,U,U,_,U,bG bL ⟨_,U,U,_,U,bG bL ⟨_,U,U,_,U,bG bL ⟨_,U,U,_,U,bG bL ⟨_,U,U,_,U,jR U ⟨_,U,a,_,_,_,U,U,sqT ha,gt1,_,U,b,g,n,us,ts,ns,U,hb,rl,?_,hg,hn,fun H' s'=>?_⟩⟩⟩⟩⟩⟩
  ·rw[Tm.dep] at hd
   lia
  ·have q':=q H' s'
   rw[hF] at q'
   exact q'
theorem lD {t u:TS}{D:Ends}{σ:St}{H:Hp}(P:St->Hp->Prop)(h2:∀ σ H,P σ H->u D σ H)(h1:∀ N:St->Hp->Prop,(∀ σ H,P σ H->N σ H)->t { D with nx:=N } σ H):G4 t u D σ H:=h1 (u D) h2
theorem ug {A B:TT}{t u:TS}{D:Ends}{σ:St}{H:Hp}(b1 b2:Bool)(R:Hp->Prop)(hA:∀ Q:Bool->Hp->Prop,(∀ H1,R H1->Q b1 H1)->A σ H Q)(hB:∀ H1,R H1->∀ Q:Bool->Hp->Prop,Q b2 H1->B σ H1 Q)
  (ht:∀ H1,R H1->b1=true->b2=true->t D σ H1) (hu:∀ H1,R H1->(b1=true->b2=false)->u D σ H1):G3 (Sd A B) t u D σ H:=by
 refine hA _ fun H1 r1=>?_
 show if b1=true then B σ H1 (fun b H2=>if b=true then t D σ H2 else u D σ H2) else (if false=true then t D σ H1 else u D σ H1)
 cases b1 with
 | false=>exact bZ (bZ (hu H1 r1 fun z=>by cases z))
 | true =>
  refine dq (hB H1 r1 _ ?_)
  cases b2 with
  | false=>exact bZ (hu H1 r1 fun _=>U)
  | true=>exact dq (ht H1 r1 U U)
theorem gN {i:Nat}{x:V}{σ:St}{H:Hp}{P:St->Hp->Prop}(h:P (σ.set i (some x)) H):pY i x σ H P:=h
theorem nN {D:Ends}{σ:St}{H:Hp}(h:D.nx σ H):Mv D σ H:=h
abbrev lM:Stmt:=top 67
theorem dY:aB ["_law_cell_here","_law_n","_law_deep","_law_most","_law_drawn","_law_parts","_law_crowd_here"] WU (au lM):=cM
inductive qY (d:Nat)(vs:G1)(H:Hp)(Q:VK)(e3:XK):Prop where
 | mk (c:Int) (n:Nat) (deep most:Int) (_:vs=[.int c,.int (n:Int),.int deep,.int most]) (_:1<=n) (_:n<=12) (_:1<=deep) (_:deep<=(d:Int)) (_:1<=most) (_:most<=9) (_:∀ (v:V) (t:Tm) (H':Hp),aH H H'->gq n H' v t->(t.dep:Int)<=deep->Q v H')
theorem term_none:aY P w K mg base CX0 1 f fd WU (qY 0):=by
 have no:∀ vs H Q E,¬ qY 0 vs H Q E:=fun vs H Q E h=>by
  obtain⟨c,n,deep,most,_,_,_,h1,h2,_⟩:=h
  lia
 exact⟨fun vs H Q E h=>absurd h (no vs H Q E),fun A outer s H args us vs Q E _ _ _ _ h=>absurd h (no vs H Q E)⟩
theorem jq {d:Nat} (F:Fun K "_law_term" "_law_term" lM f fd) (B:Bt mg)
  (SD:Df P w K mg base "_law_draws" 1 XB (uq K)) (SS:Df P w K mg base "_law_under" 1 XG tY) (SC:Df P w K mg base "_law_crowd" 1 X0 wO)
  (SR:Df P w K mg base "_law_term" (d+1) WU (qY d)):aY P w K mg base CX0 (d+2) f fd WU (qY (d+1)):=by
 refine okA F dY fun H Q E hr h=>?_
 obtain⟨c,n,deep,most,rfl,n1,n12,de1,ded,m1,m9,q⟩:=h
 refine⟨_,(ao (sT 4 dY.nd (aP SD hr (aj (pv 0) (a1 (bI (aj aq (aj aq (aj aq (aj aq (a1 aq))))))))))
 (ao (c7 (PW.pt (rE (aK yr (pxL K (pv 4) aq) aq) (lX (aK xP (pv 2) aq)))) (ao (wV (L:=["_law_k"]) (F:=["_law_n","_law_most","_law_cell_here","_law_deep"]) (cap:=[1,3,0,2]) (j:=5) dY.nd U (ZG U) U (aV U U (by kernel_rfl)) (cZ U B.range_ (a1 (aM bA aq (aM cI (pxL K (pv 4) aq) aq)))) (fun _ _ _ _ _=>(pgC 0)) (fun _ _ _ _ _=>bF) (fun _ _ _ _ _=>(aP SR hr (aj (aP SS hr (v2 3 0)) (aj (pv 1) (aj (aM fG (pv 4) aq) (v1 2)))))))
 (sR (bc (aj (pxL K (bI (aj aQ (a1 aQ))) (pxL K (pv 4) aq)) (a1 (bf (r:=gm K) bu U B.tuple_ bC (v1 5))))))) bh)
 (ao (sT 6 dY.nd (aP SC hr (aj (pxL K (pv 4) aq) (v1 1))))
 (ao (c7 (aK (r:=Nz K) (K8 hr.zB) (pv 6) (bc dM)) (aC (sT 6 dY.nd (bc (a1 (aM cI (pxL K (pv 4) aq) (pv 1)))))) bh)
 (ao (ifR (PW.pt (rE (jK (r:=rIn K false) fY (pxL K (pv 4) aq) (bc (aj aq (a1 aq))) U) (lX (aK xP (pln K B.len_ (pv 6)) aq)))) (bc (aj aQ (aj (pv 6) (a1 (aM bA aq (aM cI (aM bA (aM je aq (pxL K (pv 4) aq)) (pxL K (pv 4) aq)) (aJ (Gz U) U B.min_ Ql (aj aq (a1 (aM je (pv 3) (pln K B.len_ (pv 6)))))))))))))
 (ao (ifR (aK bw (pxL K (pv 4) aq) aq) (bc (aj aQ (aj (pv 6) (aj (aM bA aq (aM cI (pxL K (pv 4) aq) (pv 3))) (a1 (aM bA aq (aM cI (pxL K (pv 4) aq) (pln K B.len_ (pv 6))))))))))
 (ao (ifR (aK bw (pxL K (pv 4) aq) aq) (bc (a1 (pxL K (bI (aj aQ (aj aQ (a1 aQ)))) (aM cI (pxL K (pv 4) aq) aq)))))
 (sR (bc (aj aQ (aj (aM cI (pxL K (pv 4) aq) (pv 1)) (a1 (aM bA aq (aM cI (pxL K (pv 4) aq) (pv 3))))))))))))))),?_⟩
 refine⟨_,U,smN 5,fun p1 h1=>?_⟩
 generalize eH1:upd H p1 _=H1
 obtain⟨g1,e1⟩:=aG eH1 h1
 refine⟨c,p1,[9,12,9,4096,12],U,sqL e1,by decide,by decide,fun p2 h2=>?_⟩
 generalize eH2:upd H1 p2 _=H2
 obtain⟨g2,e2⟩:=aG eH2 h2
 have hps:∀ q∈([9,12,9,4096,12]:E9),0 < q:=by decide
 obtain⟨d0,k0,b0⟩:=bR (c:=mX c) (i:=0) hps U
 obtain⟨d1,k1,b1⟩:=bR (c:=mX c) (i:=1) hps U
 obtain⟨d2,k2,b2⟩:=bR (c:=mX c) (i:=2) hps U
 obtain⟨d3,k3,b3⟩:=bR (c:=mX c) (i:=3) hps U
 obtain⟨d4,k4,b4⟩:=bR (c:=mX c) (i:=4) hps U
 have a0:=eO (gW k0)
 have a1:=eO (gW k1)
 have a2:=eO (gW k2)
 have a3:=eO (gW k3)
 have a4:=eO (gW k4)
 change _=some (HO.lst ((uT (mX c) [9,12,9,4096,12]).map V.int)) at e2
 generalize uT (mX c) [9,12,9,4096,12]=ds at *
 have gH:aH H H2:=g1.trans g2
 refine gN ?_
 dsimp only
 show G4 (G3 _ _ _) _ _ _ _
 refine lD (fun σ H3=>σ=[oI c,some (.int (n:Int)),oI deep,oI most,oR p2,none,none]/\H2=H3) ?rest (fun _ R=>?_)
 case rest =>
  rintro σ H3 ⟨rfl,rfl⟩
  refine⟨_,U,p2,_,_,_,U,U,sqL e2,a3,_,U,d3,n,U,by lia,fun cs r3 H3 hc hp hl s3 f3 e3=>?_⟩
  refine gN ?_
  dsimp only
  show G4 (G3 _ _ _) _ _ _ _
  refine lD (fun σ H5=>∃ (rc:Addr) (cs:Fa),σ=[oI c,some (.int (n:Int)),oI deep,oI most,oR p2,none,oR rc]/\aH H2 H5/\H5 rc=some (.tup (cs.map vN))/\(∀ i∈cs,i < n)/\cs.Pairwise (· < ·)/\cs.length<=n/\1<=cs.length) ?rest2 (fun _ R=>?_)
  case rest2 =>
   rintro σ H5 ⟨rc,cs,rfl,s5,e5,hc,hp,hl,h1l⟩
   have e2':=s5 _ _ e2
   have lenr:((cs.map vN).length:Int)=(cs.length:Int):=by rw[TJ]
   show G4 (G3 _ _ _) _ _ _ _
   refine lD (fun σ H6=>σ=[oI c,some (.int (n:Int)),oI deep,oI most,oR p2,none,oR rc]/\aH H5 H6) ?rest3 (fun _ R=>?_)
   case rest3 =>
    rintro σ H6 ⟨rfl,s6⟩
    have e2':=s6 _ _ e2'
    have e5:=s6 _ _ e5
    have s56:aH H H6:=gH.trans (s5.trans s6)
    refine⟨_,U,p2,_,_,_,U,U,sqL e2',a0,U,_,U,?_⟩
    refine wI (fun _=>?_) (fun _=>?_)
    ·refine⟨_,U,_,U,p2,_,_,_,U,U,sqL e2',a2,_,U,_,_,U,U,(by show (0:Int) < most;lia),_,_,U,U,_,U,p2,_,_,_,U,U,sqL e2',a4,_,U,rc,_,U,.inr (sqT e5),_,_,U,U,?_,_,_,U,U,smN 4,fun p7 h7=>?_⟩
     ·rw[lenr]
      lia
     ·have u1:0<=d2 % most:=Vg _ (by lia)
      have u2:d2 % most < most:=U6 _ (by lia)
      have u3:0<=d4 % ((cs.map vN).length:Int):=Vg _ (by rw[lenr];lia)
      have u4:d4 % ((cs.map vN).length:Int) < (cs.length:Int):=by
       have:=U6 d4 (b:=((cs.map vN).length:Int)) (by rw[lenr];lia)
       rw[lenr] at this ⊢
       exact this
      refine q (.ref p7) (.crowd cs (1+d2 % most) (1+d4 % ((cs.map vN).length:Int))) _ (s56.trans (aA h7 _)) (.crowd aa (aA h7 _ _ _ e5) hc hp (by lia) h1l (by lia) (by lia) (by lia) (by lia)) ?_
      exact de1
    ·refine⟨_,U,p2,_,_,_,U,U,sqL e2',a0,U,_,U,?_⟩
     refine wI (fun _=>?_) (fun _=>?_)
     ·refine⟨smN 3,fun p7 h7=>?_⟩
      generalize eH7:upd H6 p7 _=H7
      obtain⟨g7,e7⟩:=aG eH7 h7
      have u1:0<=d1 % 3:=Vg _ (by lia)
      have u2:d1 % 3 < 3:=U6 _ (by lia)
      have fin:∀ p8 (x:Ut),H7 p8=none->(x = "free"∨x = "never")->Q (.ref p8) (upd H7 p8 (.tup [.str x])):=fun p8 x h8 hx=>by
       rcases hx with rfl | rfl
       ·refine q (.ref p8) .free _ (s56.trans (g7.trans (aA h8 _))) (.free aa) ?_
        exact de1
       ·refine q (.ref p8) .never _ (s56.trans (g7.trans (aA h8 _))) (.never aa) ?_
        exact de1
      refine⟨_,U,p2,_,_,_,U,U,sqL (g7 _ _ e2'),a1,_,_,U,U,(by show (0:Int) < 3;decide),?_⟩
      rcases (show d1 % 3=0∨d1 % 3=1∨d1 % 3=2 by lia) with z | z | z
      ·exact⟨p7,_,_,_,U,U,sqL e7,by rw[z];rfl,smN 1,fun p8 h8=>fin p8 _ h8 (.inl U)⟩
      ·exact⟨p7,_,_,_,U,U,sqL e7,by rw[z];rfl,smN 1,fun p8 h8=>fin p8 _ h8 (.inl U)⟩
      ·exact⟨p7,_,_,_,U,U,sqL e7,by rw[z];rfl,smN 1,fun p8 h8=>fin p8 _ h8 (.inr U)⟩
     ·have u1:0<=d1 % (n:Int):=Vg _ (by lia)
      have u2:d1 % (n:Int) < (n:Int):=U6 _ (by lia)
      have u3:0<=d2 % most:=Vg _ (by lia)
      have u4:d2 % most < most:=U6 _ (by lia)
      refine⟨_,U,p2,_,_,_,U,U,sqL e2',a1,_,U,_,_,U,U,(by show (0:Int) < (n:Int);lia),_,U,p2,_,_,_,U,U,sqL e2',a2,_,U,_,_,U,U,(by show (0:Int) < most;lia),_,_,U,U,smN 3,fun p7 h7=>?_⟩
      obtain⟨i,hi⟩:=WW u1
      rw[hi] at u2
      refine q (.ref p7) (.gives i (1+d2 % most)) _ (s56.trans (aA h7 _)) (.gives (aa.trans (by show some (HO.tup [V.str "gives",V.int (d1 % (n:Int)),V.int (1+d2 % most)])=some (HO.tup [V.str "gives",V.int (i:Int),V.int (1+d2 % most)]);rw[hi])) (by lia) (by lia) (by lia)) ?_
      exact de1
   ·refine ug (inV (.int d0) [.int 3,.int 4]) (decide (1 < (cs.length:Int))) (fun H6=>aH H5 H6) (fun Q' hQ=>?_) (fun H6 s6 Q' hQ=>?_) (fun H6 s6 _ hl2=>?_) (fun H6 s6 _=>R _ _ ⟨U,s6⟩)
    ·refine⟨_,U,p2,_,_,_,U,U,sqL e2',a0,smN 2,fun p6 h6=>⟨p6,_,U,.inr (sqT aa),U,U,_,U,hQ _ (aA h6 _)⟩⟩
    ·refine⟨_,U,rc,_,U,.inr (sqT (s6 _ _ e5)),_,_,U,U,_,U,?_⟩
     rw[lenr]
     exact hQ
    ·have e2':=s6 _ _ e2'
     have e5:=s6 _ _ e5
     have s56:aH H H6:=gH.trans (s5.trans s6)
     have hl3:(1:Int) < (cs.length:Int):=of_decide_eq_true hl2
     refine⟨_,U,_,U,p2,_,_,_,U,U,sqL e2',a1,_,_,U,U,.inl ⟨by decide,by decide⟩,_,U,p2,_,_,_,U,U,sqL e2',a2,_,_,U,U,_,U,_,U,rc,_,U,.inr (sqT e5),_,_,U,U,.inl ⟨by lia,by lia⟩,_,_,U,?_⟩
     have pz:0 < most * ((cs.map vN).length:Int):=by
      rw[lenr]
      exact Int.mul_pos (by lia) (by lia)
     generalize hz:(if most * ((cs.map vN).length:Int) < 99 then most * ((cs.map vN).length:Int) else 99)=z
     have z1:0 < z:=by
      rw[← hz]
      split <;> lia
     have z2:z<=99:=by
      rw[← hz]
      split <;> lia
     have u3:0<=(9 * d1+d2) % z:=Vg _ (by lia)
     have u4:(9 * d1+d2) % z < z:=U6 _ z1
     refine⟨_,_,U,U,z1,_,_,U,U,smN 3,fun p7 h7=>?_⟩
     refine q (.ref p7) (.sum cs (1+(9 * d1+d2) % z)) _ (s56.trans (aA h7 _)) (.sum aa (aA h7 _ _ _ e5) hc hp (by lia) (by lia) (by lia) (by lia)) ?_
     exact de1
  ·refine⟨_,U,smN 0,fun p4 h4=>?_⟩
   have e3':SqT K H3 r3 ((cs.map fun i:Nat=>(i:Int)).map V.int):=by rw[← lB];exact sqT e3
   have g4:aH H3 (upd H3 p4 (.tup [])):=aA h4 _
   refine⟨r3,p4,cs.map (fun i:Nat=>(i:Int)),[],U,U,eV g4 e3',sqT aa,_,U,?_⟩
   refine wI (fun ce=>?_) (fun ce=>?_)
   ·have u1:0<=d4 % (n:Int):=Vg _ (by lia)
    have u2:d4 % (n:Int) < (n:Int):=U6 _ (by lia)
    refine⟨_,U,p2,_,_,_,U,U,sqL (g4 _ _ (s3 _ _ e2)),a4,_,U,_,_,U,U,(by show (0:Int) < (n:Int);lia),smN 1,fun p5 h5=>?_⟩
    obtain⟨i,hi⟩:=WW u1
    rw[hi] at u2
    refine R _ _ ⟨p5,[i],U,s3.trans (g4.trans (aA h5 _)),aa.trans (by show some (HO.tup [V.int (d4 % (n:Int))])=some (HO.tup [V.int (i:Int)]);rw[hi]),?_,by simp,n1,T6 _⟩
    intro j hj
    rw[Za] at hj
    lia
   ·refine R _ _ ⟨r3,cs,U,s3.trans g4,g4 _ _ e3,hc,hp,hl,?_⟩
    cases cs with
    | nil=>exact absurd (dcT U) ce
    | cons x xs=>rw[Uj];lia
 ·refine ug (decide (d0 < 2)) (decide (1 < deep)) (fun H3=>H2=H3) (fun Q' hQ=>?_) (fun H3 e Q' hQ=>?_) (fun H3 e c1 c2=>?_) (fun H3 e _=>R _ _ ⟨U,e⟩)
  ·exact⟨_,U,p2,_,_,_,U,U,sqL e2,a0,_,_,U,U,_,U,hQ _ U⟩
  ·exact⟨_,U,_,_,U,U,_,U,hQ⟩
  ·subst e
   have c1:d0 < 2:=of_decide_eq_true c1
   have c2:1 < deep:=of_decide_eq_true c2
   have u1:0<=d4 % 5:=Vg _ (by lia)
   have u2:d4 % 5 < 5:=U6 _ (by lia)
   refine⟨_,U,p2,_,_,_,U,U,sqL e2,a4,_,_,U,U,(by show (0:Int) < 5;decide),_,_,U,U,_,U,by lia,by lia,fun D hD=>dW (lo:=0) (n:=(2+d4 % 5).toNat)
    (fun i zs σ' H5=>(∃ u,σ'=[u,some (.int (n:Int)),oI most,oI c,oI deep])/\aH H2 H5/\H5 D=some (.lst zs)/\zs.length=i/\∃ ts,bQ n H5 zs ts/\(tdL ts:Int)<=deep - 1)
    ⟨⟨_,U⟩,aA hD _,aa,U,[],.nil,by rw[tdL];lia⟩ (fun i zs σ' H5 _ h=>h.2.2.1) ?_ ?_⟩
   ·rintro i zs σ' H5 hi ⟨⟨u,rfl⟩,s5,eD,lz,ts,rt,td⟩
    refine gT ?_
    refine⟨_,U,_,U,c,i,by rw[Ze];rfl,by lia,_,U,_,U,_,_,U,U,_,U,Qc c i,n,deep - 1,most,U,n1,n12,by lia,by lia,m1,m9,fun v t H6 s6 r6 d6=>?_⟩
    refine⟨s6 _ _ eD,?_,⟨_,U⟩,aL (s5.trans s6) hD _,aa,?_,ts++[t],?_,?_⟩
    ·exact aF (by lia)
    ·rw[Ui,lz]
     rfl
    ·have s7:=cz (zs':=zs++[v]) (s6 _ _ eD)
     exact ((rt.mono s6).aN s7).snoc (r6.aN s7)
    ·have:=yP (m:=(deep - 1).toNat) (t:=t) (by lia) (ts:=ts) (by lia)
     lia
   ·rintro zs σ' H5 ⟨⟨u,rfl⟩,s5,eD,lz,ts,rt,td⟩
    refine⟨smN 2,fun p6 h6=>?_⟩
    generalize eH6:upd H5 p6 _=H6
    obtain⟨g6,e6⟩:=aG eH6 h6
    refine⟨_,U,p2,_,_,_,U,U,sqL (g6 _ _ (s5 _ _ e2)),a0,?_⟩
    rcases (show d0=0∨d0=1 by lia) with z | z
    ·subst z
     refine⟨p6,_,_,_,U,U,sqL e6,U,_,U,D,_,U,.inl ⟨sqL (g6 _ _ eD),fun p7 h7=>?_⟩⟩
     generalize eH7:upd H6 p7 _=H7
     obtain⟨g7,e7⟩:=aG eH7 h7
     refine⟨smN 2,fun p8 h8=>?_⟩
     refine q (.ref p8) (.all ts) _ (gH.trans (s5.trans (g6.trans (g7.trans (aA h8 _))))) (.all aa (aA h8 _ _ _ e7) (by lia) (by lia) (rt.mono (g6.trans (g7.trans (aA h8 _))))) ?_
     rw[Tm.dep]
     lia
    ·subst z
     refine⟨p6,_,_,_,U,U,sqL e6,U,_,U,D,_,U,.inl ⟨sqL (g6 _ _ eD),fun p7 h7=>?_⟩⟩
     generalize eH7:upd H6 p7 _=H7
     obtain⟨g7,e7⟩:=aG eH7 h7
     refine⟨smN 2,fun p8 h8=>?_⟩
     refine q (.ref p8) (.any ts) _ (gH.trans (s5.trans (g6.trans (g7.trans (aA h8 _))))) (.any aa (aA h8 _ _ _ e7) (by lia) (by lia) (rt.mono (g6.trans (g7.trans (aA h8 _))))) ?_
     rw[Tm.dep]
     lia
abbrev jL:Stmt:=top 71
theorem uW:aB Xt Xt (au jL):=cM
theorem Gv (g:E9):∀ ts:List Tm,(ts.map (hF g)).all (fun b=>b)=mH g ts
 | []=>by rw[mH];rfl
 | t::r=>by rw[mH,← Gv g r];rfl
theorem GP (g:E9):∀ ts:List Tm,(ts.map (hF g)).any (fun b=>b)=mz g ts
 | []=>by rw[mz];rfl
 | t::r=>by rw[mz,← GP g r];rfl
theorem zT (f:Nat->Bool):∀ c:Fa,(c.map fun i=>if f i=true then (1:Int) else 0).sum=((c.filter f).length:Int)
 | []=>rfl
 | i::c=>by
  have ih:=zT f c
  rw[U0,aai,ih,XQ]
  split
  ·rw[Uj]
   lia
  ·lia
theorem yJ:aY P w K mg base CX0 0 f fd Xt (dw K 0):=by
 have no:∀ vs H Q E,¬ dw K 0 vs H Q E:=fun vs H Q E h=>by
  obtain⟨v,g,n,t,ns,_,_,h1,_⟩:=h
  have:=t.lQ
  lia
 exact⟨fun vs H Q E h=>absurd h (no vs H Q E),fun A outer s H args us vs Q E _ _ _ _ h=>absurd h (no vs H Q E)⟩
theorem fJ {d:Nat} (F:Fun K "_law_holds" "_law_holds" jL f fd) (B:Bt mg)
  (SG:Df P w K mg base "_law_holds" d Xt (dw K d)):aY P w K mg base CX0 (d+1) f fd Xt (dw K (d+1)):=by
 refine okA F uW fun H Q E hr h=>?_
 obtain⟨v,g,n,t,ns,rfl,rt,hd,hg,hn,q⟩:=h
 refine⟨_,(ao (ifR (aK bw (pxT K (pv 0) aq) aQ) (cD lA (pxT K (pv 1) (pxT K (pv 0) aq)) (pxT K (pv 0) aq)))
 (ao (ifR (aK bw (pxT K (pv 0) aq) aQ) (cD lA (aJ (r:=Jy K) (oW U) U B.sum_ Gg (a1 (bj (L:=ZI) (F:=["_law_giving"]) (cap:=[1]) U (aV U U (by kernel_rfl)) (cH (pxT K (pv 0) aq)) (fun _ _ _ _ _=>(pgC 0)) (fun _ _ _ _ _=>bF) (fun _ _ _ _ _=>(pxT K (pv 1) (pv 0)))))) (pxT K (pv 0) aq)))
 (ao (ifR (aK bw (pxT K (pv 0) aq) aQ) (cD lA (aJ (r:=Jy K) (oW U) U B.sum_ Gg (a1 (bj (L:=ZI) (F:=["_law_giving","_law_term_here"]) (cap:=[1,0]) U (aV U U (by kernel_rfl)) (cH (pxT K (pv 0) aq)) (fun _ _ _ _ _=>(pgC 0)) (fun _ _ _ _ _=>bF) (fun _ _ _ _ _=>(bf (r:=Qs) wk U B.int_ vU (a1 (cD lA (pxT K (pv 1) (pv 0)) (pxT K (pv 2) aq)))))))) (pxT K (pv 0) aq)))
 (ao (ifR (aK bw (pxT K (pv 0) aq) aQ) (aJ (r:=Jx K) (pN U) U B.all_ El (a1 (bj (L:=["_law_part"]) (F:=["_law_giving"]) (cap:=[1]) U (aV U U (by kernel_rfl)) (cH (pxT K (pv 0) aq)) (fun _ _ _ _ _=>(pgC 0)) (fun _ _ _ _ _=>bF) (fun _ _ _ _ _=>(aP SG hr (v2 0 1)))))))
 (sR (Q6 (cD bw (pxT K (pv 0) aq) aQ) (iM (dJ (cD bw (pxT K (pv 0) aq) aQ) (iM (aJ (r:=Ov K) (Dl U) U B.any_ Qv (a1 (bj (L:=["_law_part"]) (F:=["_law_giving"]) (cap:=[1]) U (aV U U (by kernel_rfl)) (cH (pxT K (pv 0) aq)) (fun _ _ _ _ _=>(pgC 0)) (fun _ _ _ _ _=>bF) (fun _ _ _ _ _=>(aP SG hr (v2 0 1))))))))))))))),?_⟩
 have parts:∀ (D:Addr),H D=none->∀ (b:Addr) (us:G1) (ts:List Tm) (Z:Hp->Prop) (te:TE),us.length<=6->H b=some (.tup us)->bQ n H us ts->tdL ts<=d →
   (∀ (x:V) (t:Tm) (σ':St) (H2:Hp) (R:V->Hp->Prop),gq n H2 x t->aH H H2->t.dep<=d->σ'=[some x,oR g]->(∀ H3,aH H2 H3->R (.bl (hF ns t)) H3)->te σ' H2 R) →
   (∀ H2:Hp,aH H H2->H2 D=some (.lst ((ts.map (hF ns)).map V.bl))->Z H2)->gG D [none,some (.ref g)] (Itt K b) (pY 0) JC te H Z:=fun D hD b us ts Z te lu hb rl td hte hQ=>by
  have el:=rl.length
  refine bU (K:=K) (a:=b) (xs:=us) (fun i zs σ' H2=>(∃ u,σ'=[u,oR g])/\zs=((ts.take i).map (hF ns)).map V.bl/\aH H H2/\H2 D=some (.lst zs))
   ⟨⟨_,U⟩,U,aA hD _,aa⟩ (fun i zs σ' H2 _ h=>⟨eV h.2.2.1 (sqT hb),h.2.2.2⟩) ?_ ?_
  ·rintro j zs x σ' H2 hx ⟨⟨u,rfl⟩,e1,sm,hDl⟩
   obtain⟨t,ht,rt⟩:=rl.get hx
   have hj:j < us.length:=(geS hx).1
   refine gT ?_
   refine hte x t _ H2 _ (rt.mono sm) sm (UL (iR ht) td) U fun H3 s3=>⟨s3 _ _ hDl,?_,⟨_,U⟩,?_,aL (sm.trans s3) hD _,aa⟩
   ·rw[e1,TJ,TJ,Uo]
    exact aF (by lia)
   ·rw[e1,UT,ht,Ub,Ub]
    rfl
  ·rintro zs σ' H2 ⟨⟨u,rfl⟩,e1,sm,hDl⟩
   rw[el,Uh] at e1
   exact hQ H2 sm (by rw[hDl,e1])
 cases rt with
 | @free a ha =>
  refine⟨_,U,a,_,_,_,U,U,sqT ha,gt0,U,_,U,bG bL ⟨_,U,a,_,_,_,U,U,sqT ha,gt0,U,_,U,bG bL ⟨_,U,a,_,_,_,U,U,sqT ha,gt0,U,_,U,bG bL ⟨_,U,a,_,_,_,U,U,sqT ha,gt0,U,_,U,bG bL ⟨_,U,a,_,_,_,U,U,sqT ha,gt0,U,_,U,jR U ?_⟩⟩⟩⟩⟩
  have q':=q H (aH.refl H)
  rw[hF] at q'
  exact q'
 | @never a ha =>
  refine⟨_,U,a,_,_,_,U,U,sqT ha,gt0,U,_,U,bG bL ⟨_,U,a,_,_,_,U,U,sqT ha,gt0,U,_,U,bG bL ⟨_,U,a,_,_,_,U,U,sqT ha,gt0,U,_,U,bG bL ⟨_,U,a,_,_,_,U,U,sqT ha,gt0,U,_,U,bG bL ⟨_,U,a,_,_,_,U,U,sqT ha,gt0,U,_,U,bG bL ⟨_,U,a,_,_,_,U,U,sqT ha,gt0,U,_,U,bG bL ?_⟩⟩⟩⟩⟩⟩
  have q':=q H (aH.refl H)
  rw[hF] at q'
  exact q'
 | @gives a i k ha hi _ _ =>
  refine⟨_,U,a,_,_,_,U,U,sqT ha,gt0,U,_,U,jR U ⟨_,U,_,U,a,_,_,_,U,U,sqT ha,gt1,g,_,_,_,U,U,hg,atD (by lia),_,U,a,_,_,_,U,U,sqT ha,gt2,_,_,U,U,?_⟩⟩
  have q':=q H (aH.refl H)
  rw[hF] at q'
  exact q'
 | @sum a b c k ha hb hc _ hl _ _ _ =>
  refine⟨_,U,a,_,_,_,U,U,sqT ha,gt0,U,_,U,bG bL ⟨_,U,a,_,_,_,U,U,sqT ha,gt0,U,_,U,jR U ?_⟩⟩
  refine⟨_,U,a,_,_,_,U,U,sqT ha,gt1,b,U,⟨_,sqT hb⟩,fun D hD=>bU (K:=K) (a:=b) (xs:=c.map vN) (fun i zs σ' H2=>(∃ u,σ'=[u,oR g])/\zs=((c.take i).map fun i=>ns.getD i 0).map V.int/\aH H H2/\H2 D=some (.lst zs))
   ⟨⟨_,U⟩,U,aA hD _,aa⟩ (fun i zs σ' H2 _ h=>⟨eV h.2.2.1 (sqT hb),h.2.2.2⟩) ?_ ?_⟩
  ·rintro j zs x σ' H2 hx ⟨⟨u,rfl⟩,e1,sm,hDl⟩
   obtain⟨i,hi,rfl⟩:=uz hx
   have hin:i < n:=hc i (UJ hi)
   refine gT ?_
   refine⟨_,U,_,U,g,_,_,_,U,U,eV sm hg,atD (by lia),hDl,?_,⟨_,U⟩,?_,aL sm hD _,aa⟩
   ·rw[e1,TJ,TJ,Uo]
    exact aF (by lia)
   ·rw[e1,UT,hi,Ub,Ub]
    rfl
  ·rintro zs σ' H2 ⟨⟨u,rfl⟩,e1,sm,hDl⟩
   rw[TJ,Uh] at e1
   refine⟨D,_,U,sqL (by rw[hDl,e1]),_,U,a,_,_,_,U,U,sqT (sm _ _ ha),gt2,_,_,U,U,?_⟩
   have q':=q H2 sm
   rw[hF] at q'
   exact q'
 | @crowd a b c k m ha hb hc _ hl _ _ _ _ _ =>
  refine⟨_,U,a,_,_,_,U,U,sqT ha,gt0,U,_,U,bG bL ⟨_,U,a,_,_,_,U,U,sqT ha,gt0,U,_,U,bG bL ⟨_,U,a,_,_,_,U,U,sqT ha,gt0,U,_,U,jR U ?_⟩⟩⟩
  refine⟨_,U,a,_,_,_,U,U,sqT ha,gt1,b,U,⟨_,sqT hb⟩,fun D hD=>bU (K:=K) (a:=b) (xs:=c.map vN) (fun i zs σ' H2=>(∃ u,σ'=[u,oR g,oR a])/\zs=((c.take i).map fun i=>if decide (k<=ns.getD i 0)=true then (1:Int) else 0).map V.int/\aH H H2/\H2 D=some (.lst zs))
   ⟨⟨_,U⟩,U,aA hD _,aa⟩ (fun i zs σ' H2 _ h=>⟨eV h.2.2.1 (sqT hb),h.2.2.2⟩) ?_ ?_⟩
  ·rintro j zs x σ' H2 hx ⟨⟨u,rfl⟩,e1,sm,hDl⟩
   obtain⟨i,hi,rfl⟩:=uz hx
   have hin:i < n:=hc i (UJ hi)
   refine gT ?_
   refine⟨_,U,_,U,g,_,_,_,U,U,eV sm hg,atD (by lia),_,U,a,_,_,_,U,U,sqT (sm _ _ ha),gt2,_,_,U,U,.inr ⟨_,U,hDl,?_,⟨_,U⟩,?_,aL sm hD _,aa⟩⟩
   ·rw[e1,TJ,TJ,Uo]
    exact aF (by lia)
   ·rw[e1,UT,hi,Ub,Ub]
    rfl
  ·rintro zs σ' H2 ⟨⟨u,rfl⟩,e1,sm,hDl⟩
   rw[TJ,Uh] at e1
   refine⟨D,_,U,sqL (by rw[hDl,e1]),_,U,a,_,_,_,U,U,sqT (sm _ _ ha),eO (k:=3) U,_,_,U,U,?_⟩
   have q':=q H2 sm
   rw[hF] at q'
   rw[zT]
   exact q'
 | @all a b us ts ha hb _ lu rl =>
  refine⟨_,U,a,_,_,_,U,U,sqT ha,gt0,U,_,U,bG bL ⟨_,U,a,_,_,_,U,U,sqT ha,gt0,U,_,U,bG bL ⟨_,U,a,_,_,_,U,U,sqT ha,gt0,U,_,U,bG bL ⟨_,U,a,_,_,_,U,U,sqT ha,gt0,U,_,U,jR U ⟨_,U,a,_,_,_,U,U,sqT ha,gt1,b,U,⟨_,sqT hb⟩,fun D hD=>parts D hD b us ts _ _ lu hb rl (by rw[Tm.dep] at hd;lia) (fun x t σ' H2 R rt sm dt eσ hR=>?_) fun H2 sm hDl=>?_⟩⟩⟩⟩⟩
  ·subst eσ
   exact⟨_,U,_,U,x,g,n,t,ns,U,rt,dt,eV sm hg,hn,hR⟩
  ·refine⟨D,_,U,sqL hDl,?_⟩
   rw[Gv]
   have q':=q H2 sm
   rw[hF] at q'
   exact q'
 | @any a b us ts ha hb _ lu rl =>
  refine⟨_,U,a,_,_,_,U,U,sqT ha,gt0,U,_,U,bG bL ⟨_,U,a,_,_,_,U,U,sqT ha,gt0,U,_,U,bG bL ⟨_,U,a,_,_,_,U,U,sqT ha,gt0,U,_,U,bG bL ⟨_,U,a,_,_,_,U,U,sqT ha,gt0,U,_,U,bG bL ⟨_,U,a,_,_,_,U,U,sqT ha,gt0,U,_,U,bG bL ⟨_,U,a,_,_,_,U,U,sqT ha,gt0,U,_,U,jR U ⟨_,U,a,_,_,_,U,U,sqT ha,gt1,b,U,⟨_,sqT hb⟩,fun D hD=>parts D hD b us ts _ _ lu hb rl (by rw[Tm.dep] at hd;lia) (fun x t σ' H2 R rt sm dt eσ hR=>?_) fun H2 sm hDl=>?_⟩⟩⟩⟩⟩⟩⟩
  ·subst eσ
   exact⟨_,U,_,U,x,g,n,t,ns,U,rt,dt,eV sm hg,hn,hR⟩
  ·refine⟨D,_,U,sqL hDl,?_⟩
   rw[GP]
   have q':=q H2 sm
   rw[hF] at q'
   exact q'
theorem yN (ns:E9)(lo hi:E5):∃ ks:E9,G7 (ns.map V.int) lo hi=ks.map V.int/\ks.length<=ns.length:=by
 unfold G7
 generalize HT.sIx _ _ lo=x
 generalize HT.sIx _ _ hi=y
 refine⟨(ns.drop x).take (y - x),by rw[List.map_take,List.map_drop],?_⟩
 rw[Uo,aao]
 lia
theorem sI:∀ (ns acc:E9),acc.Nodup->(ns.foldl VH acc).Nodup
 | [],acc,h=>h
 | n::r,acc,h=>by
  rw[Vl]
  refine sI r _ ?_
  unfold VH
  split
  ·exact h
  ·rename_i z
   rw[List.nodup_append]
   refine⟨h,by simp,fun a ha b hb e=>?_⟩
   rw[Za] at hb
   subst hb
   subst e
   exact z (List.any_eq_true.mpr ⟨a,ha,beq_self_eq_true a⟩)
theorem Ed:∀ (ns acc:E9),(ns.foldl VH acc).length<=acc.length+ns.length
 | [],acc=>by simp
 | n::r,acc=>by
  rw[Vl]
  refine UL (Ed r _) ?_
  unfold VH
  split
  ·rw[Uj];lia
  ·simp only[Ui,Uj,List.length_nil];lia
theorem vW (ns:E9):ddI ns=ns.foldl VH []:=by
 unfold ddI PyProof.Rows.firstMet
 congr 1
 apply List.ext_getElem?
 intro i
 rw[Ux]
 by_cases h:i < ns.length
 ·rw[YJ h,T8 h]
  simp [TY,T8 h]
 ·have e1:(VV ns.length)[i]? = none:=VF (by rw[VN];lia)
  rw[e1,VF (by lia)]
  rfl
theorem rn:∀ {a b:E9},a.Perm b->a.Pairwise (·<=·)->b.Pairwise (·<=·)->a=b
 | [],b,p,_,_=>(List.Perm.nil_eq p)
 | x::a,[],p,_,_=>absurd p.length_eq (by simp)
 | x::a,y::b,p,ha,hb=>by
  rw[Wm] at ha hb
  have h1:x<=y:=by
   rcases List.mem_cons.mp (p.mem_iff.mpr Uc) with h | h
   ·lia
   ·exact ha.1 y h
  have h2:y<=x:=by
   rcases List.mem_cons.mp (p.mem_iff.mp Uc) with h | h
   ·lia
   ·exact hb.1 x h
  have e:x=y:=by lia
  subst e
  rw[rn (List.Perm.cons_inv p) ha.2 hb.2]
abbrev Pl:=List (Int × Tm)
inductive cT (n:Nat)(H:Hp):G1->Pl->Prop where
 | nil:cT n H [] []
 | cons {r:Addr} {k:Int} {v:V} {t:Tm} {vs:G1} {ps:Pl}:H r=some (.tup [.int k,v])->gq n H v t->cT n H vs ps->cT n H (.ref r::vs) ((k,t)::ps)
theorem cT.aN {n:Nat}{H H':Hp}(e:∀ a xs,H a=some (HO.tup xs)->H' a=some (HO.tup xs)):∀ {vs:G1} {ps:Pl},cT n H vs ps->cT n H' vs ps
 | _,_,.nil=>.nil
 | _,_,.cons h t r=>.cons (e _ _ h) (t.aN e) (cT.aN e r)
theorem cT.length {n:Nat}{H:Hp}:∀ {vs:G1} {ps:Pl},cT n H vs ps->vs.length=ps.length
 | _,_,.nil=>rfl
 | _,_,.cons _ _ r=>by rw[Uj,Uj,cT.length r]
theorem cT.get {n:Nat}{H:Hp}:∀ {vs:G1} {ps:Pl} {i:Nat} {v:V},cT n H vs ps->vs[i]? = some v->∃ r k u t,v = .ref r/\H r=some (.tup [.int k,u])/\gq n H u t/\ps[i]? = some (k,t)
 | _,_,_,_,.nil,h=>by simp at h
 | _,_,0,_,.cons h t _,e=>by
  cases (show some _=some _ from e)
  exact⟨_,_,_,_,U,h,t,U⟩
 | _,_,i+1,_,.cons _ _ r,e=>by
  obtain⟨a,k,u,t,h1,h2,h3,h4⟩:=cT.get (i:=i) r (by simpa using e)
  exact⟨a,k,u,t,h1,h2,h3,by simpa using h4⟩
theorem cT.snoc {n:Nat}{H:Hp}{r:Addr}{k:Int}{v:V}{t:Tm}(h:H r=some (.tup [.int k,v]))(ht:gq n H v t):∀ {vs:G1} {ps:Pl},cT n H vs ps->cT n H (vs++[.ref r]) (ps++[(k,t)])
 | _,_,.nil=>.cons h ht .nil
 | _,_,.cons a b c=>.cons a b (cT.snoc h ht c)
def okP (p:Pl):Prop:=p≠[]/\p.length<=9/\(p.map (·.1)).Pairwise (· < ·)/\∀ x∈p,1<=x.1/\x.1<=9/\x.2.dep<=4
def j6 (n:Nat)(H:Hp)(a:Addr)(p:Pl):Prop:=okP p/\∃ vs,H a=some (.tup vs)/\cT n H vs p
theorem j6.aN {n:Nat}{H H':Hp}{a:Addr}{p:Pl}(e:∀ a xs,H a=some (HO.tup xs)->H' a=some (HO.tup xs))(h:j6 n H a p):j6 n H' a p:=by
 obtain⟨ok,vs,h1,h2⟩:=h
 exact⟨ok,vs,e _ _ h1,h2.aN e⟩
theorem j6.mono {n:Nat}{H H':Hp}{a:Addr}{p:Pl}(e:aH H H')(h:j6 n H a p):j6 n H' a p:=h.aN fun a xs q=>e a _ q
inductive dj (n:Nat)(H:Hp):E6->List Pl->Prop where
 | nil:dj n H [] []
 | cons {a:Addr} {p:Pl} {as:E6} {ps:List Pl}:j6 n H a p->dj n H as ps->dj n H (a::as) (p::ps)
theorem dj.aN {n:Nat}{H H':Hp}(e:∀ a xs,H a=some (HO.tup xs)->H' a=some (HO.tup xs)):∀ {as:E6} {ps:List Pl},dj n H as ps->dj n H' as ps
 | _,_,.nil=>.nil
 | _,_,.cons h r=>.cons (h.aN e) (dj.aN e r)
theorem dj.length {n:Nat}{H:Hp}:∀ {as:E6} {ps:List Pl},dj n H as ps->as.length=ps.length
 | _,_,.nil=>rfl
 | _,_,.cons _ r=>by rw[Uj,Uj,dj.length r]
theorem dj.get {n:Nat}{H:Hp}:∀ {as:E6} {ps:List Pl} {i:Nat} {a:Addr},dj n H as ps->as[i]? = some a->∃ p,ps[i]? = some p/\j6 n H a p
 | _,_,_,_,.nil,h=>by simp at h
 | _,_,0,_,.cons h _,e=>by
  cases (show some _=some _ from e)
  exact⟨_,U,h⟩
 | _,_,i+1,_,.cons _ r,e=>by
  obtain⟨p,h1,h2⟩:=dj.get (i:=i) r (by simpa using e)
  exact⟨p,by simpa using h1,h2⟩
theorem dj.snoc {n:Nat}{H:Hp}{a:Addr}{p:Pl}(h:j6 n H a p):∀ {as:E6} {ps:List Pl},dj n H as ps->dj n H (as++[a]) (ps++[p])
 | _,_,.nil=>.cons h .nil
 | _,_,.cons x r=>.cons x (dj.snoc h r)
inductive du (n:Nat)(H:Hp):G1->List (List Pl)->Prop where
 | nil:du n H [] []
 | cons {c:Addr} {as:E6} {ps:List Pl} {us:G1} {bs:List (List Pl)}:H c=some (.lst (as.map V.ref))->as.length<=100->dj n H as ps->du n H us bs->du n H (.ref c::us) (ps::bs)
theorem du.mono {n:Nat}{H H':Hp}(e:aH H H'):∀ {us:G1} {bs:List (List Pl)},du n H us bs->du n H' us bs
 | _,_,.nil=>.nil
 | _,_,.cons h l p r=>.cons (e _ _ h) l (p.aN fun a xs q=>e a _ q) (du.mono e r)
theorem du.length {n:Nat}{H:Hp}:∀ {us:G1} {bs:List (List Pl)},du n H us bs->us.length=bs.length
 | _,_,.nil=>rfl
 | _,_,.cons _ _ _ r=>by rw[Uj,Uj,du.length r]
theorem du.get {n:Nat}{H:Hp}:∀ {us:G1} {bs:List (List Pl)} {i:Nat} {u:V},du n H us bs->us[i]? = some u->∃ c as ps,u = .ref c/\bs[i]? = some ps/\H c=some (.lst (as.map V.ref))/\as.length<=100/\dj n H as ps
 | _,_,_,_,.nil,h=>by simp at h
 | _,_,0,_,.cons h l p _,e=>by
  cases (show some _=some _ from e)
  exact⟨_,_,_,U,U,h,l,p⟩
 | _,_,i+1,_,.cons _ _ _ r,e=>by
  obtain⟨c,as,ps,h1,h2,h3⟩:=du.get (i:=i) r (by simpa using e)
  exact⟨c,as,ps,h1,by simpa using h2,h3⟩
theorem du.snoc {n:Nat}{H:Hp}{c:Addr}{as:E6}{ps:List Pl}(h:H c=some (.lst (as.map V.ref)))(hl:as.length<=100)(hp:dj n H as ps):∀ {us:G1} {bs:List (List Pl)},du n H us bs->du n H (us++[.ref c]) (bs++[ps])
 | _,_,.nil=>.cons h hl hp .nil
 | _,_,.cons x y z r=>.cons x y z (du.snoc h hl hp r)
def Cw (n:Nat)(H:Hp)(b:Addr)(bk:List (List Pl)):Prop:=∃ us,H b=some (.lst us)/\du n H us bk/\bk.length<=12
theorem Cw.mono {n:Nat}{H H':Hp}{b:Addr}{bk:List (List Pl)}(e:aH H H')(h:Cw n H b bk):Cw n H' b bk:=by
 obtain⟨us,h1,h2,h3⟩:=h
 exact⟨us,e _ _ h1,h2.mono e,h3⟩
def owS (g:E9)(f:Int)(x:Int × Tm):Int:=if hF g x.2=true then x.1 else f
def owF (g:E9)(p:Pl):Int:=p.foldl (owS g) 0
theorem zN {g:E9}{p:Pl}{i:Nat}{x:Int × Tm}(h:p[i]? = some x):owF g (p.take (i+1))=if hF g x.2=true then x.1 else owF g (p.take i):=by
 unfold owF
 rw[UT,h]
 show ((p.take i)++[x]).foldl (owS g) 0=_
 rw[List.foldl_append]
 rfl
def lsF (p:Pl):Int:=mxD 0 (p.map (·.1))
theorem j5:∀ (l:E9) (a b:Int),l.foldl max (max a b)=max a (l.foldl max b)
 | [],a,b=>rfl
 | y::l,a,b=>by
  rw[Vl,Vl,show max (max a b) y=max a (max b y) by lia]
  exact j5 l a (max b y)
def duF (g:E9)(f:Int)(ps:List Pl):Int:=(ps.map (owF g)).foldl max f
theorem Iv (g:E9){f:Int}(hf:0<=f)(ps:List Pl):duF g f ps=max f (duF g 0 ps):=by
 unfold duF
 rw[← j5,show max f 0=f by lia]
def iy (g:E9)(fl:E9)(bk:List (List Pl)):E9:=YF (duF g) fl bk
def rfS (f:Int)(ps:List Pl):Int:=(ps.map lsF).foldl max f
def rfF (fl:E9)(bk:List (List Pl)):E9:=YF rfS fl bk
theorem zz {α β γ:Type}(f:α->β->γ){xs:List α}{ys:List β}{i:Nat}{x:α}{y:β}(h1:xs[i]? = some x)(h2:ys[i]? = some y):YF f (xs.take (i+1)) (ys.take (i+1))=YF f (xs.take i) (ys.take i)++[f x y]:=by
 have l1:i < xs.length:=(geS h1).1
 have l2:i < ys.length:=(geS h2).1
 rw[UT,UT,h1,h2]
 show YF f (xs.take i++[x]) (ys.take i++[y])=_
 rw[List.zipWith_append (by rw[Uo,Uo];lia)]
 rfl
theorem Kr {as:E6}{i:Nat}{x:V}(h:(as.map V.ref)[i]? = some x):∃ a,as[i]? = some a/\x = .ref a:=by
 rw[Ux] at h
 cases e:as[i]? with
 | none=>rw[e] at h;cases h
 | some a=>rw[e] at h;exact⟨a,U,(U5 h).symm⟩
theorem take_snoc {α β:Type}(f:α->β){xs:List α}{i:Nat}{x:α}(h:xs[i]? = some x):(xs.take (i+1)).map f=(xs.take i).map f++[f x]:=(tQ f h).symm
abbrev Eu:Stmt:=top 34
theorem yC:aB ["pledge","giving","step","term"] YE (au Eu):=cM
inductive wF (K:Uw)(vs:G1)(H:Hp)(Q:VK)(e3:XK):Prop where
 | mk (a g:Addr) (n:Nat) (p:Pl) (ns:E9) (_:vs=[.ref a,.ref g]) (_:j6 n H a p) (_:SqT K H g (ns.map V.int)) (_:n<=ns.length) (_:∀ H',aH H H'->Q (.int (owF ns p)) H')
theorem Nu {k:Nat} (F:Fun K "owes" "owes" Eu f fd) (B:Bt mg)
  (Sj:Df P w K mg base "holds" k YR (dw K 4)):aY P w K mg base CX0 (k+1) f fd YE (wF K):=by
 refine okA F yC fun H Q E hr h=>?_
 obtain⟨a,g,n,p,ns,rfl,⟨ok,vs,ha,rp⟩,hg,hn,q⟩:=h
 refine⟨_,(ao (dC Vu U (QH U B.reversed_ (v1 0)) (dZ (K:=K) 2 U U (aR (pgN 2 yC.nd) (aR (pgN 3 yC.nd) eF))) (aC (ifR (bV (aP Sj hr (v2 3 1))) (pv 2))))
 (sR aq)),?_⟩
 have el:=rp.length
 refine⟨_,U,a,vs,U,sqT ha,Lr (K:=K) (a:=a) (xs:=vs) (fun i σ H2=>(∃ u v,σ=[oR a,oR g,u,v])/\aH H H2/\owF ns p=owF ns (p.take (p.length - i)))
  ⟨⟨_,_,U⟩,aH.refl H,by rw[Nat.sub_zero,Uh]⟩ (fun i σ H2 _ h=>sqT (h.2.1 _ _ ha)) ?_ ?_⟩
 ·rintro i x σ H2 hi hx ⟨⟨u,v,rfl⟩,sm,ow⟩
  obtain⟨r,k0,y,t,rfl,hr0,rt,hp⟩:=rp.get hx
  have hm:=UJ hp
  have e1:p.length - i=vs.length - 1 - i+1:=by lia
  have e2:p.length - (i+1)=vs.length - 1 - i:=by lia
  rw[e1,zN hp] at ow
  refine⟨r,_,U,sqT (sm _ _ hr0),U,_,_,U,_,_,U,U,_,U,_,U,y,g,n,t,ns,U,rt.mono sm,(ok.2.2.2 _ hm).2.2,eV sm hg,hn,fun H3 s3=>⟨_,U,?_⟩⟩
  cases e:hF ns t with
  | true =>
   refine dq ⟨_,U,?_⟩
   rw[iPo e] at ow
   have q':=q H3 (sm.trans s3)
   rw[ow] at q'
   exact q'
  | false =>
   refine bZ ⟨⟨_,_,U⟩,sm.trans s3,?_⟩
   rw[iNe (by rw[e];exact T5)] at ow
   rw[e2]
   exact ow
 ·rintro σ H2 ⟨⟨u,v,rfl⟩,sm,ow⟩
  rw[el,Nat.sub_self,Vp] at ow
  have q':=q H2 sm
  rw[ow] at q'
  exact q'
abbrev jn:Stmt:=top 35
theorem vd:aB ZN ZN (au jn):=cM
inductive JX (vs:G1)(H:Hp)(Q:VK)(e3:XK):Prop where
 | mk (a:Addr) (n:Nat) (p:Pl) (_:vs=[.ref a]) (_:j6 n H a p) (_:∀ H',aH H H'->Q (.int (lsF p)) H')
theorem uK (F:Fun K "last_step" "last_step" jn f fd) (B:Bt mg) :
  aY P w K mg base CX0 1 f fd ZN JX:=by
 refine okA F vd fun H Q E hr h=>?_
 obtain⟨a,n,p,rfl,⟨ok,vs,ha,rp⟩,q⟩:=h
 refine⟨_,(sR (Dj U U B.max_ (a1 (bj (L:=["step","term"]) (F:=[]) (cap:=[]) U (aV U U (by kernel_rfl)) (cH (pv 0)) (fun _ _ _ _ _=>(dZ (K:=K) 2 U U (aR (pgC 0) (aR (pgC 1) eF)))) (fun _ _ _ _ _=>bF) (fun _ _ _ _ _=>(pv 0)))))),?_⟩
 have el:=rp.length
 have l9:=ok.2.1
 refine⟨_,U,a,U,⟨_,sqT ha⟩,fun D hD=>bU (K:=K) (a:=a) (xs:=vs) (fun i zs σ' H2=>(∃ u v,σ'=[u,v])/\zs=((p.take i).map (·.1)).map V.int/\aH H H2/\H2 D=some (.lst zs))
  ⟨⟨_,_,U⟩,U,aA hD _,aa⟩ (fun i zs σ' H2 _ h=>⟨sqT (h.2.2.1 _ _ ha),h.2.2.2⟩) ?_ ?_⟩
 ·rintro j zs x σ' H2 hx ⟨⟨u,v,rfl⟩,e1,sm,hDl⟩
  obtain⟨r,k0,y,t,rfl,hr0,rt,hp⟩:=rp.get hx
  refine⟨r,_,U,sqT (sm _ _ hr0),U,_,_,U,_,_,U,U,?_⟩
  refine tT ?_
  refine⟨_,U,hDl,?_,⟨_,_,U⟩,?_,aL sm hD _,aa⟩
  ·rw[e1,TJ,TJ,Uo]
   exact aF (by lia)
  ·rw[e1,take_snoc (·.1) hp,Ub]
   rfl
 ·rintro zs σ' H2 ⟨_,e1,sm,hDl⟩
  rw[el,Uh] at e1
  refine⟨D,p.map (·.1),U,sqL (by rw[hDl,e1]),?_⟩
  exact q H2 sm
abbrev gC:Stmt:=top 47
theorem qt:aB XV XV (au gC):=cM
inductive PN (K:Uw)(vs:G1)(H:Hp)(Q:VK)(e3:XK):Prop where
 | mk (b f g:Addr) (n:Nat) (bk:List (List Pl)) (fl ns:E9) (_:vs=[.ref b,.ref f,.ref g]) (_:Cw n H b bk) (_:SqT K H f (fl.map V.int)) (_:SqT K H g (ns.map V.int)) (_:fl.length=bk.length) (_:n<=ns.length) (_:(∀ x∈fl,0<=x)) (_:∀ (r:Addr) (H':Hp),aH H H'->H' r=some (.tup ((iy ns fl bk).map V.int))->Q (.ref r) H')
theorem qw {k:Nat} (F:Fun K "what_is_due" "what_is_due" gC f fd) (B:Bt mg)
  (SZ:Df P w K mg base "owes" k YE (wF K)):aY P w K mg base CX0 (k+1) f fd XV (PN K):=by
 refine okA F qt fun H Q E hr h=>?_
 obtain⟨b,f,g,n,bk,fl,ns,rfl,⟨us,hb,rb,l12⟩,hf,hg,hl,hn,h0,q⟩:=h
 refine⟨_,(sR (bf (r:=gm K) bu U B.tuple_ bC (a1 (bj (L:=["step","pledges"]) (F:=["giving"]) (cap:=[2]) U (aV U U (by kernel_rfl)) (Kz U B.zip_ (v2 1 0)) (fun _ _ _ _ _=>(dZ (K:=K) 2 U U (aR (pgC 0) (aR (pgC 1) eF)))) (fun _ _ _ _ _=>bF) (fun _ _ _ _ _=>(aJ (r:=Ck K) (jO U) U B.max_ qQ (a1 (aM rN (bI (v1 0)) (bj (L:=ZN) (F:=["giving"]) (cap:=[2]) U (aV U U (by kernel_rfl)) (uv K U (pv 1)) (fun _ _ _ _ _=>(pgC 0)) (fun _ _ _ _ _=>bF) (fun _ _ _ _ _=>(aP SZ hr (v2 0 1)))))))))))),?_⟩
 have el:=rb.length
 refine⟨_,U,_,U,f,b,_,_,U,hf,sqL hb,fun D hD=>yZ (K:=K) (a:=f) (b:=b) (xs:=fl.map V.int) (ys:=us) (by rw[TJ];lia)
  (fun i zs σ H2=>(∃ u v,σ=[u,v,oR g])/\zs=(YF (duF ns) (fl.take i) (bk.take i)).map V.int/\aH H H2/\H2 D=some (.lst zs)) ⟨⟨_,_,U⟩,U,aA hD _,aa⟩ (fun i zs σ H2 _ h=>⟨eV h.2.2.1 hf,sqL (h.2.2.1 _ _ hb),h.2.2.2⟩) ?_ ?_⟩
 ·rintro i zs x y p σ H2 hx hy hp ⟨⟨u,v,rfl⟩,e1,sm,hDl⟩
  obtain⟨m,hm,rfl⟩:=int_at hx
  obtain⟨c,as,ps,rfl,hps,hc,l100,rps⟩:=rb.get hy
  have ell:=rps.length
  generalize eH3:upd H2 p _=H3
  obtain⟨g3,e3⟩:=aG eH3 hp
  refine⟨p,_,U,sqT e3,U,_,_,U,_,_,U,U,?_⟩
  refine tT ?_
  refine⟨_,U,smN 1,fun p4 h4=>?_⟩
  generalize eH4:upd H3 p4 _=H4
  obtain⟨g4,e4⟩:=aG eH4 h4
  have s4:aH H H4:=sm.trans (g3.trans g4)
  refine⟨_,U,c,U,⟨_,sqL (s4 _ _ hc)⟩,fun D2 hD2=>eN (K:=K) (a:=c) (xs:=as.map V.ref) (fun j ws σ' H5=>(∃ u,σ'=[u,oR g])/\ws=((ps.take j).map (owF ns)).map V.int/\aH H4 H5/\H5 D2=some (.lst ws))
   ⟨⟨_,U⟩,U,aA hD2 _,aa⟩ (fun j ws σ' H5 _ h=>⟨sqL (h.2.2.1 _ _ (s4 _ _ hc)),h.2.2.2⟩) ?_ ?_⟩
  ·rintro j ws x σ' H5 hx ⟨⟨u,rfl⟩,e5,s5,hD5⟩
   obtain⟨a,ha,rfl⟩:=Kr hx
   obtain⟨pl,hpl,rpl⟩:=rps.get ha
   refine gT ?_
   refine⟨_,U,_,U,a,g,n,pl,ns,U,rpl.mono (s4.trans s5),eV (s4.trans s5) hg,hn,fun H6 s6=>⟨s6 _ _ hD5,?_,⟨_,U⟩,?_,aL (s5.trans s6) hD2 _,aa⟩⟩
   ·rw[e5,TJ,TJ,Uo]
    exact aF (by lia)
   ·rw[e5,take_snoc (owF ns) hpl,Ub]
    rfl
  ·rintro ws σ' H5 ⟨_,e5,s5,hD5⟩
   rw[TJ,ell,Uh] at e5
   subst e5
   refine⟨p4,D2,_,_,U,U,s5 _ _ e4,hD5,small ?_,fun p6 h6=>?_⟩
   ·rw[TJ,TJ]
    show 1+ps.length<=1000
    lia
   generalize eH6:upd H5 p6 _=H6
   obtain⟨g6,e6⟩:=aG eH6 h6
   have sall:aH H2 H6:=g3.trans (g4.trans (s5.trans g6))
   refine⟨p6,m::ps.map (owF ns),U,sqL e6,by simp,sall _ _ hDl,?_,⟨_,_,U⟩,?_,aL (sm.trans sall) hD _,aa⟩
   ·rw[e1,TJ,ZM,Uo]
    exact aF (by lia)
   ·rw[e1,zz (duF ns) hm hps,Ub]
    rfl
 ·rintro zs σ H2 ⟨_,e1,sm,hDl⟩
  refine⟨D,_,U,.inl ⟨sqL hDl,fun l hl'=>?_⟩⟩
  refine q l _ (sm.trans (aA hl' _)) ?_
  rw[aa,e1,TJ,Uh,hl,Uh]
  rfl
theorem xx {g fl:E9}{bk:List (List Pl)}(h:fl.length=bk.length):(iy g fl bk).length=bk.length:=by
 unfold iy
 rw[ZM]
 lia
abbrev BZ:Stmt:=top 48
theorem Lf:aB YY YY (au BZ):=cM
inductive J6 (K:Uw)(vs:G1)(H:Hp)(Q:VK)(e3:XK):Prop where
 | mk (b f:Addr) (n:Nat) (bk:List (List Pl)) (fl:E9) (_:vs=[.ref b,.ref f]) (_:Cw n H b bk) (_:SqT K H f (fl.map V.int)) (_:fl.length=bk.length) (_:∀ (r:Addr) (H':Hp),aH H H'->H' r=some (.tup ((rfF fl bk).map V.int))->Q (.ref r) H')
theorem Lg (F:Fun K "roof" "roof" BZ f fd) (B:Bt mg)
  (SA:Df P w K mg base "last_step" 1 ZN JX):aY P w K mg base CX0 2 f fd YY (J6 K):=by
 refine okA F Lf fun H Q E hr h=>?_
 obtain⟨b,f,n,bk,fl,rfl,⟨us,hb,rb,l12⟩,hf,hl,q⟩:=h
 refine⟨_,(sR (bf (r:=gm K) bu U B.tuple_ bC (a1 (bj (L:=["step","pledges"]) (F:=[]) (cap:=[]) U (aV U U (by kernel_rfl)) (Kz U B.zip_ (v2 1 0)) (fun _ _ _ _ _=>(dZ (K:=K) 2 U U (aR (pgC 0) (aR (pgC 1) eF)))) (fun _ _ _ _ _=>bF) (fun _ _ _ _ _=>(aJ (r:=Ck K) (jO U) U B.max_ qQ (a1 (aM rN (bI (v1 0)) (bj (L:=ZN) (F:=[]) (cap:=[]) U (aV U U (by kernel_rfl)) (uv K U (pv 1)) (fun _ _ _ _ _=>(pgC 0)) (fun _ _ _ _ _=>bF) (fun _ _ _ _ _=>(aP SA hr (v1 0)))))))))))),?_⟩
 have el:=rb.length
 refine⟨_,U,_,U,f,b,_,_,U,hf,sqL hb,fun D hD=>yZ (K:=K) (a:=f) (b:=b) (xs:=fl.map V.int) (ys:=us) (by rw[TJ];lia)
  (fun i zs σ H2=>(∃ u v,σ=[u,v])/\zs=(YF rfS (fl.take i) (bk.take i)).map V.int/\aH H H2/\H2 D=some (.lst zs)) ⟨⟨_,_,U⟩,U,aA hD _,aa⟩ (fun i zs σ H2 _ h=>⟨eV h.2.2.1 hf,sqL (h.2.2.1 _ _ hb),h.2.2.2⟩) ?_ ?_⟩
 ·rintro i zs x y p σ H2 hx hy hp ⟨⟨u,v,rfl⟩,e1,sm,hDl⟩
  obtain⟨m,hm,rfl⟩:=int_at hx
  obtain⟨c,as,ps,rfl,hps,hc,l100,rps⟩:=rb.get hy
  have ell:=rps.length
  generalize eH3:upd H2 p _=H3
  obtain⟨g3,e3⟩:=aG eH3 hp
  refine⟨p,_,U,sqT e3,U,_,_,U,_,_,U,U,?_⟩
  refine tT ?_
  refine⟨_,U,smN 1,fun p4 h4=>?_⟩
  generalize eH4:upd H3 p4 _=H4
  obtain⟨g4,e4⟩:=aG eH4 h4
  have s4:aH H H4:=sm.trans (g3.trans g4)
  refine⟨_,U,c,U,⟨_,sqL (s4 _ _ hc)⟩,fun D2 hD2=>eN (K:=K) (a:=c) (xs:=as.map V.ref) (fun j ws σ' H5=>(∃ u,σ'=[u])/\ws=((ps.take j).map lsF).map V.int/\aH H4 H5/\H5 D2=some (.lst ws))
   ⟨⟨_,U⟩,U,aA hD2 _,aa⟩ (fun j ws σ' H5 _ h=>⟨sqL (h.2.2.1 _ _ (s4 _ _ hc)),h.2.2.2⟩) ?_ ?_⟩
  ·rintro j ws x σ' H5 hx ⟨⟨u,rfl⟩,e5,s5,hD5⟩
   obtain⟨a,ha,rfl⟩:=Kr hx
   obtain⟨pl,hpl,rpl⟩:=rps.get ha
   refine gT ?_
   refine⟨_,U,a,n,pl,U,rpl.mono (s4.trans s5),fun H6 s6=>⟨s6 _ _ hD5,?_,⟨_,U⟩,?_,aL (s5.trans s6) hD2 _,aa⟩⟩
   ·rw[e5,TJ,TJ,Uo]
    exact aF (by lia)
   ·rw[e5,take_snoc lsF hpl,Ub]
    rfl
  ·rintro ws σ' H5 ⟨_,e5,s5,hD5⟩
   rw[TJ,ell,Uh] at e5
   subst e5
   refine⟨p4,D2,_,_,U,U,s5 _ _ e4,hD5,small ?_,fun p6 h6=>?_⟩
   ·rw[TJ,TJ]
    show 1+ps.length<=1000
    lia
   generalize eH6:upd H5 p6 _=H6
   obtain⟨g6,e6⟩:=aG eH6 h6
   have sall:aH H2 H6:=g3.trans (g4.trans (s5.trans g6))
   refine⟨p6,m::ps.map lsF,U,sqL e6,by simp,sall _ _ hDl,?_,⟨_,_,U⟩,?_,aL (sm.trans sall) hD _,aa⟩
   ·rw[e1,TJ,ZM,Uo]
    exact aF (by lia)
   ·rw[e1,zz rfS hm hps,Ub]
    rfl
 ·rintro zs σ H2 ⟨_,e1,sm,hDl⟩
  refine⟨D,_,U,.inl ⟨sqL hDl,fun l hl'=>?_⟩⟩
  refine q l _ (sm.trans (aA hl' _)) ?_
  rw[aa,e1,TJ,Uh,hl,Uh]
  rfl
def itF (f:E9->E9)(x:E9):Nat->E9
 | 0=>x
 | k+1=>f (itF f x k)
def Stops (f:E9->E9)(x:E9)(m:Nat):Prop:=f (itF f x m)=itF f x m/\∀ j < m,f (itF f x j)≠itF f x j
def mY (f:E9->E9)(x:E9)(m:Nat):EU:=(VV (m+1)).map (itF f x)
theorem mJ (f:E9->E9)(x:E9)(m:Nat):(mY f x m).length=m+1:=by
 unfold mY
 rw[TJ,VN]
theorem Ab (f:E9->E9)(x:E9)(m:Nat):mY f x (m+1)=mY f x m++[itF f x (m+1)]:=by
 unfold mY
 rw[abJ,Ub]
 rfl
theorem Ah (f:E9->E9)(x:E9)(m:Nat):(mY f x m)[(mY f x m).length - 1]? = some (itF f x m):=by
 rw[mJ,Nat.add_sub_cancel]
 unfold mY
 rw[Ux,YJ (Wd m)]
 rfl
theorem za {f:E9->E9}{x:E9}(φ:E9->Int)(N:Nat)(b0:∀ k,0<=φ (itF f x k))(bN:∀ k,φ (itF f x k)<=(N:Int))(up:∀ k,f (itF f x k)≠itF f x k->φ (itF f x k) < φ (itF f x (k+1))):∃ m,m<=N/\Stops f x m:=by
 have key:∀ k,(∃ m,m < k/\Stops f x m)∨((∀ j < k,f (itF f x j)≠itF f x j)/\(k:Int)<=φ (itF f x k)):=by
  intro k
  induction k with
  | zero=>exact .inr ⟨fun j h=>absurd h (aaC _),by simpa using b0 0⟩
  | succ k ih =>
   rcases ih with⟨m,h1,h2⟩ | ⟨h1,h2⟩
   ·exact .inl ⟨m,by lia,h2⟩
   ·by_cases e:f (itF f x k)=itF f x k
    ·exact .inl ⟨k,Wd k,e,h1⟩
    ·refine .inr ⟨fun j hj=>?_,by have:=up k e;lia⟩
     rcases abj j k with z | z
     ·exact h1 j z
     ·have:j=k:=by lia
      subst this
      exact e
 rcases key (N+1) with⟨m,h1,h2⟩ | ⟨_,h2⟩
 ·exact⟨m,by lia,h2⟩
 ·have:=bN (N+1)
  lia
theorem Ca {g g':E9}(hl:g.length=g'.length)(h:∀ i,i < g.length->g.getD i 0<=g'.getD i 0):LeG g g':=fun i=>by
 by_cases hi:i < g.length
 ·exact h i hi
 ·rw[TY,VF (by lia),TY,VF (by lia)]
  exact Xr _
theorem qM {g:E9}{p:Pl}(h:∀ x∈p,0<=x.1):0<=owF g p:=by
 have key:∀ (p:Pl) (f:Int),0<=f->(∀ x∈p,0<=x.1)->0<=p.foldl (owS g) f:=by
  intro p
  induction p with
  | nil=>intro f hf _;exact hf
  | cons x r ih =>
   intro f hf hx
   rw[Vl]
   refine ih _ ?_ fun y hy=>hx y (Ug _ hy)
   unfold owS
   split
   ·exact hx x Uc
   ·exact hf
 exact key p 0 (Xr _) h
theorem Dd {g:E9}{p:Pl}{b:Int}(h0:0<=b)(h:∀ x∈p,x.1<=b):owF g p<=b:=by
 have key:∀ (p:Pl) (f:Int),f<=b->(∀ x∈p,x.1<=b)->p.foldl (owS g) f<=b:=by
  intro p
  induction p with
  | nil=>intro f hf _;exact hf
  | cons x r ih =>
   intro f hf hx
   rw[Vl]
   refine ih _ ?_ fun y hy=>hx y (Ug _ hy)
   unfold owS
   split
   ·exact hx x Uc
   ·exact hf
 exact key p 0 h0 h
theorem Hr {g g':E9}(l:LeG g g'){p:Pl}(ok:okP p):owF g p<=owF g' p:=by
 have key:∀ (p:Pl) (f f':Int),f<=f'->(∀ x∈p,f' < x.1)->(p.map (·.1)).Pairwise (· < ·)->p.foldl (owS g) f<=p.foldl (owS g') f':=by
  intro p
  induction p with
  | nil=>intro f f' hf _ _;exact hf
  | cons x r ih =>
   intro f f' hf hx hp
   rw[U0,Wm] at hp
   rw[Vl,Vl]
   have hr:∀ y∈r,x.1 < y.1:=fun y hy=>hp.1 y.1 (List.mem_map.mpr ⟨y,hy,U⟩)
   have hx0:=hx x Uc
   have hfr:∀ y∈r,f' < y.1:=fun y hy=>by have:=hr y hy;lia
   unfold owS
   by_cases c:hF g x.2=true
   ·rw[iPo c,iPo (xW l _ c)]
    exact ih _ _ (Xr _) hr hp.2
   ·rw[iNe c]
    by_cases c':hF g' x.2=true
    ·rw[iPo c']
     exact ih _ _ (by lia) hr hp.2
    ·rw[iNe c']
     exact ih _ _ hf hfr hp.2
 exact key p 0 0 (Xr _) (fun x hx=>by have:=(ok.2.2.2 x hx).1;lia) ok.2.2.1
theorem eZ {b:Int}:∀ (l:E9) (a:Int),a<=b->(∀ x∈l,x<=b)->l.foldl max a<=b
 | [],a,h,_=>h
 | y::l,a,h,hl=>by
  rw[Vl]
  exact eZ l _ (by have:=hl y Uc;lia) fun x hx=>hl x (Ug _ hx)
theorem fP {α:Type}(u v:α->Int):∀ (l:List α) (a b:Int),a<=b->(∀ x∈l,u x<=v x)->(l.map u).foldl max a<=(l.map v).foldl max b
 | [],a,b,h,_=>h
 | y::l,a,b,h,hl=>by
  rw[U0,U0,Vl,Vl]
  exact fP u v l _ _ (by have:=hl y Uc;lia) fun x hx=>hl x (Ug _ hx)
def okB (bk:List (List Pl)):Prop:=∀ ps∈bk,∀ p∈ps,okP p
theorem HH {g g':E9}(l:LeG g g'){ps:List Pl}(ok:∀ p∈ps,okP p){f f':Int}(h:f<=f'):duF g f ps<=duF g' f' ps:=fP _ _ ps f f' h fun p hp=>Hr l (ok p hp)
theorem JN (g:E9)(f:Int)(ps:List Pl):f<=duF g f ps:=(eY _ f).1
theorem LK (g:E9){f:Int}(h:f<=9){ps:List Pl}(ok:∀ p∈ps,okP p):duF g f ps<=9:=by
 refine eZ _ f h fun x hx=>?_
 obtain⟨p,hp,rfl⟩:=List.mem_map.mp hx
 exact Dd (by decide) fun y hy=>((ok p hp).2.2.2 y hy).2.1
theorem J0 {p:Pl}{x:Int × Tm}(h:x∈p):x.1<=lsF p:=by
 unfold lsF
 cases p with
 | nil=>cases h
 | cons y r =>
  show x.1<=(r.map (·.1)).foldl max y.1
  obtain⟨h1,h2⟩:=eY (r.map (·.1)) y.1
  rcases List.mem_cons.mp h with rfl | h
  ·exact h1
  ·exact h2 x.1 (List.mem_map.mpr ⟨x,h,U⟩)
theorem K1 {g:E9}{p:Pl}(ok:okP p):owF g p<=lsF p:=by
 have hne:=ok.1
 refine Dd ?_ fun x hx=>J0 hx
 cases p with
 | nil=>exact absurd U hne
 | cons y r =>
  have:=J0 (p:=y::r) (x:=y) Uc
  have:=(ok.2.2.2 y Uc).1
  lia
theorem Nk (g:E9)(f:Int){ps:List Pl}(ok:∀ p∈ps,okP p):duF g f ps<=rfS f ps:=fP _ _ ps f f (Xr _) fun p hp=>K1 (ok p hp)
theorem Lh {p:Pl}(ok:okP p):lsF p<=9:=by
 cases p with
 | nil=>exact absurd U ok.1
 | cons y r =>
  show (r.map (·.1)).foldl max y.1<=9
  refine eZ _ _ (ok.2.2.2 y Uc).2.1 fun x hx=>?_
  obtain⟨z,hz,rfl⟩:=List.mem_map.mp hx
  exact (ok.2.2.2 z (Ug _ hz)).2.1
theorem MN {f:Int}(h:f<=9){ps:List Pl}(ok:∀ p∈ps,okP p):rfS f ps<=9:=by
 refine eZ _ f h fun x hx=>?_
 obtain⟨p,hp,rfl⟩:=List.mem_map.mp hx
 exact Lh (ok p hp)
theorem Qm (f:Int)(ps:List Pl):f<=rfS f ps:=(eY _ f).1
theorem gJ {α:Type}(f:Int->α->Int){xs:E9}{ys:List α}{i:Nat}(h1:i < xs.length)(h2:i < ys.length):(YF f xs ys).getD i 0=f (xs.getD i 0) ys[i]:=by
 rw[TY,List.getElem?_zipWith,T8 h1,T8 h2,TY,T8 h1]
 rfl
theorem nW:∀ {g g':E9},g.length=g'.length->(∀ i,i < g.length->g.getD i 0<=g'.getD i 0)->g.sum<=g'.sum/\(g.sum=g'.sum->g=g')
 | [],[],_,_=>⟨Xr _,fun _=>U⟩
 | a::g,b::g',hl,h=>by
  have h0:a<=b:=h 0 (Nat.succ_pos _)
  obtain⟨h1,h2⟩:=nW (g:=g) (g':=g') (by simpa using hl) fun i hi=>by
   have:=h (i+1) (by rw[Uj];lia)
   simpa using this
  rw[aai,aai]
  refine⟨by lia,fun e=>?_⟩
  have e1:a=b:=by lia
  have e2:g.sum=g'.sum:=by lia
  rw[e1,h2 e2]
theorem sum_bound {g:E9}(h:∀ x∈g,0<=x/\x<=9):0<=g.sum/\g.sum<=9 * (g.length:Int):=by
 induction g with
 | nil=>exact⟨Xr _,by simp⟩
 | cons a g ih =>
  have:=h a Uc
  have:=ih fun x hx=>h x (Ug _ hx)
  rw[aai,Uj]
  lia
def okG (n:Nat)(g:E9):Prop:=g.length=n/\∀ x∈g,0<=x/\x<=9
theorem yQ {n:Nat}{g:E9}(h:okG n g){i:Nat}(hi:i < n):0<=g.getD i 0/\g.getD i 0<=9:=by
 have hi':i < g.length:=by rw[h.1];exact hi
 rw[TY,T8 hi']
 exact h.2 _ (Wr hi')
theorem Kq {n:Nat}{g:E9}(hl:g.length=n)(h:∀ i,i < n->0<=g.getD i 0/\g.getD i 0<=9):okG n g:=by
 refine⟨hl,fun x hx=>?_⟩
 obtain⟨i,hi,e⟩:=Xz hx
 have:=h i (by lia)
 rw[TY,T8 hi,e] at this
 exact this
section
variable {n:Nat}{fl:E9}{bk:List (List Pl)}
theorem oE (hb:bk.length=n)(ok:okB bk)(hf:okG n fl)(g:E9):okG n (iy g fl bk):=by
 refine Kq (by rw[xx (by rw[hf.1,hb])];exact hb) fun i hi=>?_
 have h1:i < fl.length:=by rw[hf.1];exact hi
 have h2:i < bk.length:=by lia
 unfold iy
 rw[gJ (duF g) h1 h2]
 have:=yQ hf hi
 have:=JN g (fl.getD i 0) bk[i]
 have:=LK g (f:=fl.getD i 0) (by lia) (ok bk[i] (Wr h2))
 lia
theorem nj (hb:bk.length=n)(ok:okB bk)(hf:okG n fl){g g':E9}(l:LeG g g'):LeG (iy g fl bk) (iy g' fl bk):=by
 have l1:=(oE hb ok hf g).1
 have l2:=(oE hb ok hf g').1
 refine Ca (by lia) fun i hi=>?_
 have h1:i < fl.length:=by rw[hf.1];lia
 have h2:i < bk.length:=by lia
 unfold iy
 rw[gJ (duF g) h1 h2,gJ (duF g') h1 h2]
 exact HH l (ok bk[i] (Wr h2)) (Xr _)
theorem uY (hb:bk.length=n)(ok:okB bk)(hf:okG n fl)(g:E9):LeG fl (iy g fl bk):=by
 have l1:=(oE hb ok hf g).1
 refine Ca (by rw[hf.1];lia) fun i hi=>?_
 have h2:i < bk.length:=by rw[hf.1] at hi;lia
 unfold iy
 rw[gJ (duF g) hi h2]
 exact JN _ _ _
theorem nM (hb:bk.length=n)(ok:okB bk)(hf:okG n fl):okG n (rfF fl bk):=by
 have hl:(rfF fl bk).length=n:=by
  unfold rfF
  rw[ZM,hf.1,hb,Nat.min_self]
 refine Kq hl fun i hi=>?_
 have h1:i < fl.length:=by rw[hf.1];exact hi
 have h2:i < bk.length:=by lia
 unfold rfF
 rw[gJ rfS h1 h2]
 have:=yQ hf hi
 have:=Qm (fl.getD i 0) bk[i]
 have:=MN (f:=fl.getD i 0) (by lia) (ok bk[i] (Wr h2))
 lia
theorem zu (hb:bk.length=n)(ok:okB bk)(hf:okG n fl)(g:E9):LeG (iy g fl bk) (rfF fl bk):=by
 have l1:=(oE hb ok hf g).1
 have l2:=(nM hb ok hf).1
 refine Ca (by lia) fun i hi=>?_
 have h1:i < fl.length:=by rw[hf.1];lia
 have h2:i < bk.length:=by lia
 unfold iy rfF
 rw[gJ (duF g) h1 h2,gJ rfS h1 h2]
 exact Nk g _ (ok bk[i] (Wr h2))
theorem fX (hb:bk.length=n)(ok:okB bk)(hf:okG n fl){x:E9}(hx:okG n x):∀ k,okG n (itF (fun g=>iy g fl bk) x k)
 | 0=>hx
 | k+1=>oE hb ok hf _
theorem O5 (hb:bk.length=n)(ok:okB bk)(hf:okG n fl){x:E9}(h:LeG x (iy x fl bk)):∀ k,LeG (itF (fun g=>iy g fl bk) x k) (itF (fun g=>iy g fl bk) x (k+1))
 | 0=>h
 | k+1=>nj hb ok hf (O5 hb ok hf h k)
theorem DP (hb:bk.length=n)(ok:okB bk)(hf:okG n fl){x:E9}(h:LeG (iy x fl bk) x):∀ k,LeG (itF (fun g=>iy g fl bk) x (k+1)) (itF (fun g=>iy g fl bk) x k)
 | 0=>h
 | k+1=>nj hb ok hf (DP hb ok hf h k)
theorem JG (hb:bk.length=n)(ok:okB bk)(hf:okG n fl){x:E9}(hx:okG n x)(h:LeG x (iy x fl bk)):∃ m,m<=9 * n/\Stops (fun g=>iy g fl bk) x m:=by
 refine za Z5 (9 * n) (fun k=>(sum_bound (fX hb ok hf hx k).2).1) (fun k=>?_) (fun k ne=>?_)
 ·have:=(sum_bound (fX hb ok hf hx k).2).2
  rw[(fX hb ok hf hx k).1] at this
  lia
 ·obtain⟨h1,h2⟩:=nW ((fX hb ok hf hx k).1.trans (fX hb ok hf hx (k+1)).1.symm) fun i _=>O5 hb ok hf h k i
  have:Z5 (itF (fun g=>iy g fl bk) x k)≠Z5 (itF (fun g=>iy g fl bk) x (k+1)):=fun e=>ne (h2 e).symm
  lia
theorem z9 (hb:bk.length=n)(ok:okB bk)(hf:okG n fl){x:E9}(hx:okG n x)(h:LeG (iy x fl bk) x):∃ m,m<=9 * n/\Stops (fun g=>iy g fl bk) x m:=by
 refine za (fun g=>9 * (n:Int) - g.sum) (9 * n) (fun k=>?_) (fun k=>?_) (fun k ne=>?_)
 ·have:=(sum_bound (fX hb ok hf hx k).2).2
  rw[(fX hb ok hf hx k).1] at this
  show 0<=9 * (n:Int) - Z5 _
  lia
 ·have:=(sum_bound (fX hb ok hf hx k).2).1
  show 9 * (n:Int) - Z5 _<=_
  lia
 ·obtain⟨h1,h2⟩:=nW ((fX hb ok hf hx (k+1)).1.trans (fX hb ok hf hx k).1.symm) fun i _=>DP hb ok hf h k i
  have:Z5 (itF (fun g=>iy g fl bk) x (k+1))≠Z5 (itF (fun g=>iy g fl bk) x k):=fun e=>ne (h2 e)
  show 9 * (n:Int) - Z5 _ < 9 * (n:Int) - Z5 _
  lia
end
inductive nq (H:Hp):G1->EU->Prop where
 | nil:nq H [] []
 | cons {a:Addr} {g:E9} {us:G1} {gs:EU}:H a=some (.tup (g.map V.int))->g.length<=1000->nq H us gs->nq H (.ref a::us) (g::gs)
theorem nq.aN {H H':Hp}(e:∀ a xs,H a=some (HO.tup xs)->H' a=some (HO.tup xs)):∀ {us:G1} {gs:EU},nq H us gs->nq H' us gs
 | _,_,.nil=>.nil
 | _,_,.cons h l r=>.cons (e _ _ h) l (nq.aN e r)
theorem nq.mono {H H':Hp}(e:aH H H'){us:G1}{gs:EU}(h:nq H us gs):nq H' us gs:=h.aN fun a xs q=>e a _ q
theorem nq.length {H:Hp}:∀ {us:G1} {gs:EU},nq H us gs->us.length=gs.length
 | _,_,.nil=>rfl
 | _,_,.cons _ _ r=>by rw[Uj,Uj,nq.length r]
theorem nq.get {H:Hp}:∀ {us:G1} {gs:EU} {i:Nat} {g:E9},nq H us gs->gs[i]? = some g->∃ a,us[i]? = some (.ref a)/\H a=some (.tup (g.map V.int))
 | _,_,_,_,.nil,h=>by simp at h
 | _,_,0,_,.cons h _ _,e=>by
  cases (show some _=some _ from e)
  exact⟨_,U,h⟩
 | _,_,i+1,_,.cons _ _ r,e=>by
  obtain⟨a,h1,h2⟩:=nq.get (i:=i) r (by simpa using e)
  exact⟨a,by simpa using h1,h2⟩
theorem nq.snoc {H:Hp}{a:Addr}{g:E9}(h:H a=some (.tup (g.map V.int)))(hl:g.length<=1000):∀ {us:G1} {gs:EU},nq H us gs->nq H (us++[.ref a]) (gs++[g])
 | _,_,.nil=>.cons h hl .nil
 | _,_,.cons x y r=>.cons x y (nq.snoc h hl r)
theorem du.okB {n:Nat}{H:Hp}:∀ {us:G1} {bk:List (List Pl)},du n H us bk->okB bk
 | _,_,.nil=>fun ps h=>by cases h
 | _,_,.cons _ _ p r=>fun ps h q hq=>by
  rcases List.mem_cons.mp h with rfl | h
  ·obtain⟨i,hi,e⟩:=Xz hq
   have hlen:=p.length
   obtain⟨q',e1,e2⟩:=p.get (i:=i) (T8 (by lia))
   rw[T8 hi,e] at e1
   cases e1
   exact e2.1
  ·exact du.okB r ps h q hq
theorem Cw.okB {n:Nat}{H:Hp}{b:Addr}{bk:List (List Pl)}(h:Cw n H b bk):okB bk:=by
 obtain⟨us,_,h2,_⟩:=h
 exact h2.okB
abbrev Fd (fl:E9)(bk:List (List Pl)):E9->E9:=fun g=>iy g fl bk
abbrev pH:Stmt:=top 49
theorem iZ:aB ["book","floor","giving","row","due"] XV (au pH):=cM
inductive pG (K:Uw)(vs:G1)(H:Hp)(Q:VK)(e3:XK):Prop where
 | mk (b f g:Addr) (n:Nat) (bk:List (List Pl)) (fl x:E9) (m:Nat) (_:vs=[.ref b,.ref f,.ref g]) (_:Cw n H b bk) (_:bk.length=n) (_:H f=some (.tup (fl.map V.int))) (_:okG n fl) (_:H g=some (.tup (x.map V.int))) (_:okG n x) (_:m<=9 * n) (_:Stops (Fd fl bk) x m) (_:∀ (r:Addr) (us:G1) (H':Hp),aH H H'->H r=none->H' r=some (.lst us)->nq H' us (mY (Fd fl bk) x m)->Q (.ref r) H')
theorem sU {H:Hp}{us:G1}{F:E9->E9}{x:E9}{j:Nat}(h:nq H us (mY F x j)):∃ a,atI us (-1)=some (.ref a)/\H a=some (.tup ((itF F x j).map V.int)):=by
 have hl:=h.length
 obtain⟨a,h1,h2⟩:=h.get (Ah F x j)
 rw[← hl] at h1
 exact⟨a,Oi h1,h2⟩
def GF (H:Hp)(r:Addr):Nat:=match H r with
 | some (.lst us)=>us.length
 | _=>0
theorem zH {H:Hp}{r:Addr}{us:G1}(h:H r=some (.lst us)):GF H r=us.length:=by unfold GF;rw[h]
theorem Bp {k:Nat} (F:Fun K "settled" "settled" pH f fd) (B:Bt mg)
  (Ty:Df P w K mg base "what_is_due" k XV (PN K)):aY P w K mg base CX0 (k+1) f fd XV (pG K):=by
 refine okA F iZ fun H Q E hr h=>?_
 obtain⟨b,f,g,n,bk,fl,x,m,rfl,hb,lb,hf,of,hg,ox,hm,st,q⟩:=h
 refine⟨_,(ao (sT 3 iZ.nd (bI (v1 2)))
 (ao (sT 4 iZ.nd (aP Ty hr (aj (pv 0) (v2 1 2))))
 (ao (Ju Vu (aK (r:=Qq K) (K7 hr.zB) (pv 4) (pxL K (pv 3) (Mg Dc aq))) (ao (aU (yH Wq Wh Wg cL (pv 3) (v1 4)))
 (aC (sT 4 iZ.nd (aP Ty hr (aj (pv 0) (v2 1 4)))))))
 (sR (pv 3))))),?_⟩
 have okb:=hb.okB
 have b12:n<=12:=by obtain⟨_,_,_,h⟩:=hb;lia
 have og:∀ j,okG n (itF (Fd fl bk) x j):=fX lb okb of ox
 have f0:∀ y∈fl,0<=y:=fun y hy=>(of.2 y hy).1
 have hlb:fl.length=bk.length:=by rw[of.1,lb]
 refine⟨_,U,smN 1,fun r hr0=>?_⟩
 generalize eH1:upd H r _=H1
 obtain⟨g1,e1⟩:=aG eH1 hr0
 refine⟨_,U,_,U,_,U,b,f,g,n,bk,fl,x,U,hb.mono g1,sqT (g1 _ _ hf),sqT (g1 _ _ hg),hlb,by rw[ox.1];lia,f0,fun r1 H2 s2 er1=>?_⟩
 refine gN ?_
 refine Il (fun σ H3=>∃ (j:Nat) (us:G1) (d:Addr),j<=m/\σ=[oR b,oR f,oR g,oR r,oR d]/\aH H H3/\H3 r=some (.lst us)/\nq H3 us (mY (Fd fl bk) x j)/\H3 d=some (.tup ((itF (Fd fl bk) x (j+1)).map V.int)))
  (fun _ H3=>m+2 - GF H3 r) ⟨0,[.ref g],r1,U9 _,U,g1.trans s2,s2 _ _ e1,.cons (s2 _ _ (g1 _ _ hg)) (by rw[(og 0).1];lia) .nil,er1⟩ ?_ ?_
 ·rintro σ H3 ⟨j,us,d,hj,rfl,s3,er,gr,ed⟩
  obtain⟨a,ha,ea⟩:=sU gr
  have lu:=gr.length
  rw[mJ] at lu
  refine⟨_,U,_,U,_,U,r,_,_,_,U,U,sqL er,ha,d,a,_,_,U,U,sqT ed,sqT ea,_,U,?_⟩
  by_cases e:itF (Fd fl bk) x (j+1)=itF (Fd fl bk) x j
  ·rw[dcT e]
   refine bZ ?_
   have ej:j=m:=by
    rcases abj j m with z | z
    ·exact absurd e (st.2 j z)
    ·lia
   subst ej
   exact⟨_,U,q r us H3 s3 hr0 er gr⟩
  ·rw[dcF e]
   refine dq ?_
   have hjm:j < m:=by
    rcases abj j m with z | z
    ·exact z
    ·have:j=m:=by lia
     subst this
     exact absurd st.1 e
   refine⟨_,U,.inl ⟨U,_,sqL er⟩,_,U,r,_,_,U,U,er,aF (by lia),?_⟩
   have tk:=cz (zs':=us++[.ref d]) er
   have s4:aH H (upd H3 r (.lst (us++[.ref d]))):=aL s3 hr0 _
   refine⟨_,U,_,U,_,U,b,f,d,n,bk,fl,_,U,hb.mono s4,sqT (s4 _ _ hf),sqT (tk _ _ ed),hlb,by rw[(og (j+1)).1];lia,f0,fun r5 H5 s5 er5=>?_⟩
   have er':H5 r=some (.lst (us++[.ref d])):=s5 _ _ aa
   refine⟨⟨j+1,us++[.ref d],r5,hjm,U,s4.trans s5,er',?_,er5⟩,?_⟩
   ·rw[Ab]
    exact ((gr.aN tk).snoc (tk _ _ ed) (by rw[(og (j+1)).1];lia)).mono s5
   ·show m+2 - GF H5 r < m+2 - GF H3 r
    rw[zH er',zH er,Ui]
    show m+2 - (us.length+1) < m+2 - us.length
    lia
 ·rintro σ H3 Q1 Q2 hQ ⟨v1,h1,v2,h2,i0,h3,p,xs,i,z,h4,h5,h6,h7,a1,a2,ns,ms,h8,h9,h10,h11,c,h12,qq⟩
  exact⟨v1,h1,v2,h2,i0,h3,p,xs,i,z,h4,h5,h6,h7,a1,a2,ns,ms,h8,h9,h10,h11,c,h12,hQ _ _ qq⟩
def tH (st:E9->List (List Pl)->E9):Sp:=fun vs H Q _=>∃ (b f:Addr) (n:Nat) (bk:List (List Pl)) (fl:E9),vs=[.ref b,.ref f]/\Cw n H b bk/\bk.length=n/\H f=some (.tup (fl.map V.int))/\okG n fl ∧
 ∀ (m:Nat) (r:Addr) (us:G1) (H':Hp),m<=9 * n->Stops (Fd fl bk) (st fl bk) m->aH H H'->H r=none->H' r=some (.lst us)->nq H' us (mY (Fd fl bk) (st fl bk) m)->Q (.ref r) H'
def JH (st:E9->List (List Pl)->E9):Sp:=fun vs H Q _=>∃ (b f:Addr) (n:Nat) (bk:List (List Pl)) (fl:E9),vs=[.ref b,.ref f]/\Cw n H b bk/\bk.length=n/\H f=some (.tup (fl.map V.int))/\okG n fl ∧
 ∀ (m:Nat) (a:Addr) (H':Hp),m<=9 * n->Stops (Fd fl bk) (st fl bk) m->aH H H'->H' a=some (.tup ((itF (Fd fl bk) (st fl bk) m).map V.int))->Q (.ref a) H'
abbrev QR:E9->List (List Pl)->E9:=fun fl _=>fl
theorem Bk {n:Nat}{fl:E9}{bk:List (List Pl)}(hb:bk.length=n)(ok:okB bk)(hf:okG n fl):∃ m,m<=9 * n/\Stops (Fd fl bk) fl m:=JG hb ok hf hf (uY hb ok hf fl)
theorem Aw {n:Nat}{fl:E9}{bk:List (List Pl)}(hb:bk.length=n)(ok:okB bk)(hf:okG n fl):∃ m,m<=9 * n/\Stops (Fd fl bk) (rfF fl bk) m:=z9 hb ok hf (nM hb ok hf) (zu hb ok hf _)
abbrev Cm:Stmt:=top 50
abbrev wQ:Stmt:=top 52
theorem Mt:aB YY YY (au Cm):=cM
theorem Jv:aB YY YY (au wQ):=cM
theorem Ma {k:Nat} (F:Fun K "rise" "rise" Cm f fd) (B:Bt mg)
  (Ts:Df P w K mg base "settled" k XV (pG K)):aY P w K mg base CX0 (k+1) f fd YY (tH QR):=by
 refine okA F Mt fun H Q E hr h=>?_
 obtain⟨b,f,n,bk,fl,rfl,hb,lb,hf,of,q⟩:=h
 refine⟨_,(sR (aP Ts hr (aj (pv 0) (v2 1 1)))),?_⟩
 obtain⟨m,hm,st⟩:=Bk lb hb.okB of
 exact⟨_,U,_,U,_,U,b,f,f,n,bk,fl,fl,m,U,hb,lb,hf,of,hf,of,hm,st,fun r us H' s1 fr er gr=>q m r us H' hm st s1 fr er gr⟩
theorem JB {k:Nat} (F:Fun K "least" "least" wQ f fd) (B:Bt mg)
  (Tl:Df P w K mg base "rise" k YY (tH QR)):aY P w K mg base CX0 (k+1) f fd YY (JH QR):=by
 refine okA F Jv fun H Q E hr h=>?_
 obtain⟨b,f,n,bk,fl,rfl,hb,lb,hf,of,q⟩:=h
 refine⟨_,(sR (pxL K (aP Tl hr (v2 0 1)) (Mg Dc aq))),_,U,_,U,b,f,n,bk,fl,U,hb,lb,hf,of,fun m r us H' hm st s1 fr er gr=>?_⟩
 obtain⟨a,ha,ea⟩:=sU gr
 exact⟨_,U,r,_,_,_,U,U,sqL er,ha,q m a H' hm st s1 ea⟩
abbrev Ex:Stmt:=top 51
abbrev lE:Stmt:=top 53
theorem KR:aB YY YY (au Ex):=cM
theorem yl:aB YY YY (au lE):=cM
theorem Mm {k:Nat} (hk:2<=k) (F:Fun K "fall" "fall" Ex f fd) (B:Bt mg)
  (Ts:Df P w K mg base "settled" k XV (pG K)) (To:Df P w K mg base "roof" 2 YY (J6 K)):aY P w K mg base CX0 (k+1) f fd YY (tH rfF):=by
 refine okA F KR fun H Q E hr h=>?_
 obtain⟨b,f,n,bk,fl,rfl,hb,lb,hf,of,q⟩:=h
 refine⟨_,(sR (aP Ts hr (aj (pv 0) (aj (pv 1) (a1 (aP To hr (v2 0 1))))))),?_⟩
 obtain⟨m,hm,st⟩:=Aw lb hb.okB of
 exact⟨_,U,_,U,_,U,_,U,b,f,n,bk,fl,U,hb,sqT hf,by rw[of.1,lb],fun r1 H1 s1 e1=>⟨b,f,r1,n,bk,fl,rfF fl bk,m,U,hb.mono s1,lb,s1 _ _ hf,of,e1,nM lb hb.okB of,hm,st,fun r us H' s2 fr er gr=>q m r us H' hm st (s1.trans s2) (s1.free fr) er gr⟩⟩
theorem xH {k:Nat} (F:Fun K "greatest" "greatest" lE f fd) (B:Bt mg)
  (Sb:Df P w K mg base "fall" k YY (tH rfF)):aY P w K mg base CX0 (k+1) f fd YY (JH rfF):=by
 refine okA F yl fun H Q E hr h=>?_
 obtain⟨b,f,n,bk,fl,rfl,hb,lb,hf,of,q⟩:=h
 refine⟨_,(sR (pxL K (aP Sb hr (v2 0 1)) (Mg Dc aq))),_,U,_,U,b,f,n,bk,fl,U,hb,lb,hf,of,fun m r us H' hm st s1 fr er gr=>?_⟩
 obtain⟨a,ha,ea⟩:=sU gr
 exact⟨_,U,r,_,_,_,U,U,sqL er,ha,q m a H' hm st s1 ea⟩
theorem LeG.trans {a b c:E9}(h:LeG a b)(k:LeG b c):LeG a c:=fun i=>Int.le_trans (h i) (k i)
section
variable {n:Nat}{fl:E9}{bk:List (List Pl)}
theorem uL (hb:bk.length=n)(ok:okB bk)(hf:okG n fl){g:E9}(h:LeG (iy g fl bk) g):∀ k,LeG (itF (Fd fl bk) fl k) g
 | 0=>(uY hb ok hf g).trans h
 | k+1=>(nj hb ok hf (uL hb ok hf h k)).trans h
theorem uJ (hb:bk.length=n)(ok:okB bk)(hf:okG n fl){g:E9}(h:LeG g (iy g fl bk)):∀ k,LeG g (itF (Fd fl bk) (rfF fl bk) k)
 | 0=>h.trans (zu hb ok hf g)
 | k+1=>h.trans (nj hb ok hf (uJ hb ok hf h k))
end
section
variable {K:Uw}{σ:St}{H:Hp}{Q:V->Hp->Prop}{i j:Nat}{a:Addr}{k:Nat}{xs:G1}
end
section
variable {n:Nat}{fl:E9}{bk:List (List Pl)}
end
section
variable {n:Nat}{fl fl':E9}{bk:List (List Pl)}
end
def KQ (x:Nat):Fa->Fa
 | []=>[x]
 | y::r=>if x<=y then x::y::r else y::KQ x r
def CQ:Fa->Fa
 | []=>[]
 | x::r=>KQ x (CQ r)
theorem qd (x:Nat):∀ l:Fa,(KQ x l).Perm (x::l)
 | []=>.refl _
 | y::r=>by
  rw[KQ]
  split
  ·exact .refl _
  ·exact ((qd x r).cons y).trans (.swap x y r)
theorem iI:∀ l:Fa,(CQ l).Perm l
 | []=>.refl _
 | x::r=>(qd x _).trans ((iI r).cons x)
theorem oO (x:Nat):∀ {l:Fa},l.Pairwise (·<=·)->(KQ x l).Pairwise (·<=·)
 | [],_=>by rw[KQ];simp
 | y::r,h=>by
  rw[KQ]
  rw[Wm] at h
  split
  ·rw[Wm,Wm]
   refine⟨fun z hz=>?_,h⟩
   rcases List.mem_cons.mp hz with rfl | hz
   ·assumption
   ·have:=h.1 z hz
    lia
  ·rw[Wm]
   refine⟨fun z hz=>?_,oO x h.2⟩
   rcases List.mem_cons.mp ((qd x r).mem_iff.mp hz) with rfl | hz
   ·lia
   ·exact h.1 z hz
theorem jJ:∀ l:Fa,(CQ l).Pairwise (·<=·)
 | []=>by rw[CQ];simp
 | x::r=>oO x (jJ r)
theorem Fq {l:Fa}{ms:E9}(p:ms.Perm (l.map fun i:Nat=>(i:Int)))(h:ms.Pairwise (·<=·)):ms=(CQ l).map fun i:Nat=>(i:Int):=by
 refine rn (p.trans ((iI l).map _).symm) h ?_
 rw[aaa]
 exact (jJ l).imp fun h=>by lia
mutual
def ren (f:Nat->Nat):Tm->Tm
 | .free=>.free
 | .never=>.never
 | .gives i k=>.gives (f i) k
 | .sum c k=>.sum (CQ (c.map f)) k
 | .crowd c k m=>.crowd (CQ (c.map f)) k m
 | .all ts=>.all (wJ f ts)
 | .any ts=>.any (wJ f ts)
def wJ (f:Nat->Nat):List Tm->List Tm
 | []=>[]
 | t::r=>ren f t::wJ f r
end
theorem jP (f:Nat->Nat):∀ ts:List Tm,wJ f ts=ts.map (ren f)
 | []=>by rw[wJ];rfl
 | t::r=>by rw[wJ,jP f r];rfl
mutual
theorem Es (f:Nat->Nat):∀ t:Tm,(ren f t).dep=t.dep
 | .free=>by rw[ren]
 | .never=>by rw[ren]
 | .gives i k=>by rw[ren,Tm.dep,Tm.dep] <;> simp
 | .sum c k=>by rw[ren,Tm.dep,Tm.dep] <;> simp
 | .crowd c k m=>by rw[ren,Tm.dep,Tm.dep] <;> simp
 | .all ts=>by rw[ren,Tm.dep,Tm.dep,sX f ts]
 | .any ts=>by rw[ren,Tm.dep,Tm.dep,sX f ts]
theorem sX (f:Nat->Nat):∀ ts:List Tm,tdL (wJ f ts)=tdL ts
 | []=>by rw[wJ]
 | t::r=>by rw[wJ,tdL,tdL,Es f t,sX f r]
end
def lq (rs:Fa)(i:Nat):Nat:=rs.getD i 0
theorem zV {rs:Fa}{i:Nat}(h:i < rs.length):lq rs i∈rs:=by
 unfold lq
 rw[TY,T8 h]
 exact Wr h
theorem Js {rs:Fa}(nd:rs.Nodup){i j:Nat}(hi:i < rs.length)(hj:j < rs.length)(hij:i < j):lq rs i≠lq rs j:=by
 unfold lq
 rw[TY,T8 hi,TY,T8 hj]
 exact List.pairwise_iff_getElem.mp nd i j hi hj hij
theorem vP {rs c:Fa}{m n:Nat}(nd:rs.Nodup)(hm:m<=rs.length)(hv:∀ x∈rs,x < n)(hc:∀ i∈c,i < m)(hp:c.Pairwise (· < ·)) :
  (∀ i∈CQ (c.map (lq rs)),i < n)/\(CQ (c.map (lq rs))).Pairwise (· < ·)/\(CQ (c.map (lq rs))).length=c.length:=by
 have pm:=iI (c.map (lq rs))
 refine⟨fun i hi=>?_,?_,by rw[pm.length_eq,TJ]⟩
 ·obtain⟨j,hj,rfl⟩:=List.mem_map.mp (pm.mem_iff.mp hi)
  exact hv _ (zV (T4 (hc j hj) hm))
 ·have nd2:(c.map (lq rs)).Nodup:=by
   show (c.map (lq rs)).Pairwise (·≠·)
   rw[aaa]
   exact List.Pairwise.imp_of_mem (fun {a b} ha hb h=>Js nd (T4 (hc a ha) hm) (T4 (hc b hb) hm) h) hp
  have nd3:(CQ (c.map (lq rs))).Nodup:=pm.nodup_iff.mpr nd2
  exact ((jJ _).and nd3).imp fun h=>by lia
theorem Gk {rs:Fa}{i:Nat}(h:i < rs.length):atI (rs.map vN) (i:Int)=some (vN (lq rs i)):=by
 refine jw ?_
 unfold lq
 rw[Ux,TY,T8 h]
 rfl
theorem Pz {b:Bool}{A B:Prop}(h:b=true)(a:A):if b=true then A else B:=by rw[iPo h];exact a
theorem qg {b:Bool}{A B:Prop}(h:b=false)(a:B):if b=true then A else B:=by rw[iNe (by rw[h];exact T5)];exact a
abbrev gA:Stmt:=top 68
theorem qG:aB XE XE (au gA):=cM
inductive BJ (K:Uw)(d:Nat)(vs:G1)(H:Hp)(Q:VK)(e3:XK):Prop where
 | mk (v:V) (row:Addr) (m n:Nat) (t:Tm) (rs:Fa) (_:vs=[v,.ref row]) (_:gq m H v t) (_:t.dep<=d) (_:SqL K H row (rs.map vN)) (_:m<=rs.length) (_:rs.Nodup) (_:(∀ x∈rs,x < n)) (_:∀ (v':V) (H':Hp),aH H H'->gq n H' v' (ren (lq rs) t)->Q v' H')
theorem Jd:aY P w K mg base CX0 0 f fd XE (BJ K 0):=by
 have no:∀ vs H Q E,¬ BJ K 0 vs H Q E:=fun vs H Q E h=>by
  obtain⟨v,row,m,n,t,rs,_,_,h1,_⟩:=h
  have:=t.lQ
  lia
 exact⟨fun vs H Q E h=>absurd h (no vs H Q E),fun A outer s H args us vs Q E _ _ _ _ h=>absurd h (no vs H Q E)⟩
theorem HW {K:Uw}{H H':Hp}{a:Addr}{xs:G1}(e:aH H H')(h:SqL K H a xs):SqL K H' a xs:=e.seq h
theorem fL {d:Nat} (F:Fun K "_law_renamed" "_law_renamed" gA f fd) (B:Bt mg)
  (SL:Df P w K mg base "_law_renamed" d XE (BJ K d)):aY P w K mg base CX0 (d+1) f fd XE (BJ K (d+1)):=by
 refine okA F qG fun H Q E hr h=>?_
 obtain⟨v,row,m,n,t,rs,rfl,rt,hd,hR,hm,nd,hv,q⟩:=h
 refine⟨_,(ao (ifR (aK bw (pxT K (pv 0) aq) aQ) (bc (aj aQ (aj (pxL K (pv 1) (pxT K (pv 0) aq)) (a1 (pxT K (pv 0) aq))))))
 (ao (ifR (jK (r:=rIn K false) fY (pxT K (pv 0) aq) (bc (aj aQ (a1 aQ))) U) (aM (r:=uX K) tW (bc (aj (pxT K (pv 0) aq) (a1 (bf (r:=gm K) bu U B.tuple_ bC (a1 (aJ (r:=KC K) Am U B.sorted_ (by decide+kernel) (a1 (bj (L:=ZI) (F:=["_law_row"]) (cap:=[1]) U (aV U U (by kernel_rfl)) (cH (pxT K (pv 0) aq)) (fun _ _ _ _ _=>(pgC 0)) (fun _ _ _ _ _=>bF) (fun _ _ _ _ _=>(pxL K (pv 1) (pv 0))))))))))) (nA (r:=Sg K) QB (pv 0) (tZ aq) rP)))
 (ao (ifR (jK (r:=rIn K false) fY (pxT K (pv 0) aq) (bc (aj aQ (a1 aQ))) U) (bc (aj (pxT K (pv 0) aq) (a1 (bf (r:=gm K) bu U B.tuple_ bC (a1 (bj (L:=["_law_part"]) (F:=["_law_row"]) (cap:=[1]) U (aV U U (by kernel_rfl)) (cH (pxT K (pv 0) aq)) (fun _ _ _ _ _=>(pgC 0)) (fun _ _ _ _ _=>bF) (fun _ _ _ _ _=>(aP SL hr (v2 0 1))))))))))
 (sR (pv 0))))),?_⟩
 cases rt with
 | @free a ha =>
  refine⟨_,U,a,_,_,_,U,U,sqT ha,gt0,U,_,U,bG bL ⟨_,U,a,_,_,_,U,U,sqT ha,gt0,smN 2,fun p1 h1=>⟨p1,_,U,.inr (sqT aa),U,U,_,U,qg (by decide+kernel) ?_⟩⟩⟩
  generalize eH1:upd H p1 _=H1
  obtain⟨g1,_⟩:=aG eH1 h1
  refine⟨_,U,a,_,_,_,U,U,sqT (g1 _ _ ha),gt0,smN 2,fun p2 h2=>⟨p2,_,U,.inr (sqT aa),U,U,_,U,qg (by decide+kernel) ?_⟩⟩
  generalize eH2:upd H1 p2 _=H2
  obtain⟨g2,_⟩:=aG eH2 h2
  refine⟨_,U,?_⟩
  have q':=q (.ref a) H2 (g1.trans g2) (by rw[ren];exact .free (g2 _ _ (g1 _ _ ha)))
  exact q'
 | @never a ha =>
  refine⟨_,U,a,_,_,_,U,U,sqT ha,gt0,U,_,U,bG bL ⟨_,U,a,_,_,_,U,U,sqT ha,gt0,smN 2,fun p1 h1=>⟨p1,_,U,.inr (sqT aa),U,U,_,U,qg (by decide+kernel) ?_⟩⟩⟩
  generalize eH1:upd H p1 _=H1
  obtain⟨g1,_⟩:=aG eH1 h1
  refine⟨_,U,a,_,_,_,U,U,sqT (g1 _ _ ha),gt0,smN 2,fun p2 h2=>⟨p2,_,U,.inr (sqT aa),U,U,_,U,qg (by decide+kernel) ?_⟩⟩
  generalize eH2:upd H1 p2 _=H2
  obtain⟨g2,_⟩:=aG eH2 h2
  refine⟨_,U,?_⟩
  have q':=q (.ref a) H2 (g1.trans g2) (by rw[ren];exact .never (g2 _ _ (g1 _ _ ha)))
  exact q'
 | @gives a i k ha hi k1 k9 =>
  refine⟨_,U,a,_,_,_,U,U,sqT ha,gt0,U,_,U,jR U ⟨_,U,_,U,a,_,_,_,U,U,sqT ha,gt1,row,_,_,_,U,U,hR,Gk (by lia),_,U,a,_,_,_,U,U,sqT ha,gt2,smN 3,fun p1 h1=>?_⟩⟩
  refine q (.ref p1) _ (aA h1 _) ?_
  rw[ren]
  exact .gives aa (hv _ (zV (by lia))) k1 k9
 | @sum a b c k ha hb hc hp l20 l2 k1 k99 =>
  obtain⟨x1,x2,x3⟩:=vP nd hm hv hc hp
  refine⟨_,U,a,_,_,_,U,U,sqT ha,gt0,U,_,U,bG bL ⟨_,U,a,_,_,_,U,U,sqT ha,gt0,smN 2,fun p1 h1=>⟨p1,_,U,.inr (sqT aa),U,U,_,U,Pz (by decide+kernel) ?_⟩⟩⟩
  generalize eH1:upd H p1 _=H1
  obtain⟨g1,_⟩:=aG eH1 h1
  refine⟨_,U,a,_,_,_,U,U,sqT (g1 _ _ ha),gt0,?_⟩
  refine⟨_,U,a,_,_,_,U,U,sqT (g1 _ _ ha),gt1,b,U,⟨_,sqT (g1 _ _ hb)⟩,fun D hD=>bU (K:=K) (a:=b) (xs:=c.map vN) (fun i zs σ' H2=>(∃ u,σ'=[u,oR row])/\zs=((c.take i).map (lq rs)).map vN/\aH H1 H2/\H2 D=some (.lst zs))
   ⟨⟨_,U⟩,U,aA hD _,aa⟩ (fun i zs σ' H2 _ h=>⟨sqT (h.2.2.1 _ _ (g1 _ _ hb)),h.2.2.2⟩) ?_ ?_⟩
  ·rintro j zs x σ' H2 hx ⟨⟨u,rfl⟩,e1,sm,hDl⟩
   obtain⟨i,hi,rfl⟩:=uz hx
   have him:=hc i (UJ hi)
   refine gT ?_
   refine⟨_,U,_,U,row,_,_,_,U,U,HW (g1.trans sm) hR,Gk (by lia),hDl,?_,⟨_,U⟩,?_,aL sm hD _,aa⟩
   ·rw[e1,TJ,TJ,Uo]
    exact aF (by lia)
   ·rw[e1,take_snoc (lq rs) hi,Ub]
    rfl
  ·rintro zs σ' H2 ⟨_,e1,sm,hDl⟩
   rw[TJ,Uh] at e1
   refine⟨D,(c.map (lq rs)).map fun i:Nat=>(i:Int),U,sqL (by rw[hDl,e1,lB]),by rw[TJ,TJ];lia,fun ms pm so l hl=>?_⟩
   rw[Fq pm so,← lB]
   generalize eH3:upd H2 l _=H3
   obtain⟨g3,e3⟩:=aG eH3 hl
   refine⟨l,_,U,.inl ⟨sqL e3,fun p4 h4=>?_⟩⟩
   generalize eH4:upd H3 p4 _=H4
   obtain⟨g4,e4⟩:=aG eH4 h4
   refine⟨smN 2,fun p5 h5=>?_⟩
   generalize eH5:upd H4 p5 _=H5
   obtain⟨g5,e5⟩:=aG eH5 h5
   have s5:aH H H5:=g1.trans (sm.trans (g3.trans (g4.trans g5)))
   refine⟨_,U,_,U,a,_,U,sqT (s5 _ _ ha),(by show ¬ (HT.sIx 3 0 (some 2)=0/\HT.sIx 3 3 none=3);decide),fun p6 h6=>?_⟩
   have ec:G7 [V.str "sum",.ref b,.int k] (some 2) none=[.int k]:=rfl
   rw[ec]
   generalize eH6:upd H5 p6 _=H6
   obtain⟨g6,e6⟩:=aG eH6 h6
   refine⟨p5,p6,_,_,U,U,sqT (g6 _ _ e5),sqT e6,smN 3,fun z=>(by cases z),fun _ z=>(by cases z),fun _ _ p7 h7=>?_⟩
   refine q (.ref p7) _ (s5.trans (g6.trans (aA h7 _))) ?_
   rw[ren]
   exact .sum aa (aA h7 _ _ _ (g6 _ _ (g5 _ _ e4))) x1 x2 (by lia) (by lia) k1 k99
 | @crowd a b c k mm ha hb hc hp l20 l1 k1 k9 m1 m12 =>
  obtain⟨x1,x2,x3⟩:=vP nd hm hv hc hp
  refine⟨_,U,a,_,_,_,U,U,sqT ha,gt0,U,_,U,bG bL ⟨_,U,a,_,_,_,U,U,sqT ha,gt0,smN 2,fun p1 h1=>⟨p1,_,U,.inr (sqT aa),U,U,_,U,Pz (by decide+kernel) ?_⟩⟩⟩
  generalize eH1:upd H p1 _=H1
  obtain⟨g1,_⟩:=aG eH1 h1
  refine⟨_,U,a,_,_,_,U,U,sqT (g1 _ _ ha),gt0,?_⟩
  refine⟨_,U,a,_,_,_,U,U,sqT (g1 _ _ ha),gt1,b,U,⟨_,sqT (g1 _ _ hb)⟩,fun D hD=>bU (K:=K) (a:=b) (xs:=c.map vN) (fun i zs σ' H2=>(∃ u,σ'=[u,oR row])/\zs=((c.take i).map (lq rs)).map vN/\aH H1 H2/\H2 D=some (.lst zs))
   ⟨⟨_,U⟩,U,aA hD _,aa⟩ (fun i zs σ' H2 _ h=>⟨sqT (h.2.2.1 _ _ (g1 _ _ hb)),h.2.2.2⟩) ?_ ?_⟩
  ·rintro j zs x σ' H2 hx ⟨⟨u,rfl⟩,e1,sm,hDl⟩
   obtain⟨i,hi,rfl⟩:=uz hx
   have him:=hc i (UJ hi)
   refine gT ?_
   refine⟨_,U,_,U,row,_,_,_,U,U,HW (g1.trans sm) hR,Gk (by lia),hDl,?_,⟨_,U⟩,?_,aL sm hD _,aa⟩
   ·rw[e1,TJ,TJ,Uo]
    exact aF (by lia)
   ·rw[e1,take_snoc (lq rs) hi,Ub]
    rfl
  ·rintro zs σ' H2 ⟨_,e1,sm,hDl⟩
   rw[TJ,Uh] at e1
   refine⟨D,(c.map (lq rs)).map fun i:Nat=>(i:Int),U,sqL (by rw[hDl,e1,lB]),by rw[TJ,TJ];lia,fun ms pm so l hl=>?_⟩
   rw[Fq pm so,← lB]
   generalize eH3:upd H2 l _=H3
   obtain⟨g3,e3⟩:=aG eH3 hl
   refine⟨l,_,U,.inl ⟨sqL e3,fun p4 h4=>?_⟩⟩
   generalize eH4:upd H3 p4 _=H4
   obtain⟨g4,e4⟩:=aG eH4 h4
   refine⟨smN 2,fun p5 h5=>?_⟩
   generalize eH5:upd H4 p5 _=H5
   obtain⟨g5,e5⟩:=aG eH5 h5
   have s5:aH H H5:=g1.trans (sm.trans (g3.trans (g4.trans g5)))
   refine⟨_,U,_,U,a,_,U,sqT (s5 _ _ ha),(by show ¬ (HT.sIx 4 0 (some 2)=0/\HT.sIx 4 4 none=4);decide),fun p6 h6=>?_⟩
   have ec:G7 [V.str "crowd",.ref b,.int k,.int mm] (some 2) none=[.int k,.int mm]:=rfl
   rw[ec]
   generalize eH6:upd H5 p6 _=H6
   obtain⟨g6,e6⟩:=aG eH6 h6
   refine⟨p5,p6,_,_,U,U,sqT (g6 _ _ e5),sqT e6,smN 4,fun z=>(by cases z),fun _ z=>(by cases z),fun _ _ p7 h7=>?_⟩
   refine q (.ref p7) _ (s5.trans (g6.trans (aA h7 _))) ?_
   rw[ren]
   exact .crowd aa (aA h7 _ _ _ (g6 _ _ (g5 _ _ e4))) x1 x2 (by lia) (by lia) k1 k9 m1 m12
 | @all a b us ts ha hb l2 l6 rl =>
  have hdl:tdL ts<=d:=by rw[Tm.dep] at hd;lia
  have el:=rl.length
  refine⟨_,U,a,_,_,_,U,U,sqT ha,gt0,U,_,U,bG bL ⟨_,U,a,_,_,_,U,U,sqT ha,gt0,smN 2,fun p1 h1=>⟨p1,_,U,.inr (sqT aa),U,U,_,U,qg (by decide+kernel) ?_⟩⟩⟩
  generalize eH1:upd H p1 _=H1
  obtain⟨g1,_⟩:=aG eH1 h1
  refine⟨_,U,a,_,_,_,U,U,sqT (g1 _ _ ha),gt0,smN 2,fun p2 h2=>⟨p2,_,U,.inr (sqT aa),U,U,_,U,Pz (by decide+kernel) ?_⟩⟩
  generalize eH2:upd H1 p2 _=H2
  obtain⟨g2,_⟩:=aG eH2 h2
  have s2:aH H H2:=g1.trans g2
  refine⟨_,U,a,_,_,_,U,U,sqT (s2 _ _ ha),gt0,?_⟩
  refine⟨_,U,a,_,_,_,U,U,sqT (s2 _ _ ha),gt1,b,U,⟨_,sqT (s2 _ _ hb)⟩,fun D hD=>bU (K:=K) (a:=b) (xs:=us) (fun i zs σ' H3=>(∃ u,σ'=[u,oR row])/\zs.length=i/\aH H2 H3/\H3 D=some (.lst zs)/\bQ n H3 zs (wJ (lq rs) (ts.take i)))
   ⟨⟨_,U⟩,U,aA hD _,aa,by rw[Vp,wJ];exact .nil⟩ (fun i zs σ' H3 _ h=>⟨sqT (h.2.2.1 _ _ (s2 _ _ hb)),h.2.2.2.1⟩) ?_ ?_⟩
  ·rintro j zs x σ' H3 hx ⟨⟨u,rfl⟩,lz,sm,hDl,rz⟩
   obtain⟨t,ht,rt⟩:=rl.get hx
   have hj:=(geS hx).1
   refine gT ?_
   refine⟨_,U,_,U,x,row,m,n,t,rs,U,rt.mono (s2.trans sm),UL (iR ht) hdl,HW (s2.trans sm) hR,hm,nd,hv,fun v' H4 s4 r4=>?_⟩
   have s7:=cz (zs':=zs++[v']) (s4 _ _ hDl)
   refine⟨s4 _ _ hDl,aF (by lia),⟨_,U⟩,by rw[Ui,lz];rfl,aL (sm.trans s4) hD _,aa,?_⟩
   rw[jP,take_snoc (ren (lq rs)) ht,← jP]
   exact ((rz.mono s4).aN s7).snoc (r4.aN s7)
  ·rintro zs σ' H3 ⟨_,lz,sm,hDl,rz⟩
   rw[el,Uh] at rz
   refine⟨D,_,U,.inl ⟨sqL hDl,fun p4 h4=>?_⟩⟩
   generalize eH4:upd H3 p4 _=H4
   obtain⟨g4,e4⟩:=aG eH4 h4
   refine⟨smN 2,fun p5 h5=>?_⟩
   refine q (.ref p5) _ (s2.trans (sm.trans (g4.trans (aA h5 _)))) ?_
   rw[ren]
   exact .all aa (aA h5 _ _ _ e4) (by lia) (by lia) (rz.mono (g4.trans (aA h5 _)))
 | @any a b us ts ha hb l2 l6 rl =>
  have hdl:tdL ts<=d:=by rw[Tm.dep] at hd;lia
  have el:=rl.length
  refine⟨_,U,a,_,_,_,U,U,sqT ha,gt0,U,_,U,bG bL ⟨_,U,a,_,_,_,U,U,sqT ha,gt0,smN 2,fun p1 h1=>⟨p1,_,U,.inr (sqT aa),U,U,_,U,qg (by decide+kernel) ?_⟩⟩⟩
  generalize eH1:upd H p1 _=H1
  obtain⟨g1,_⟩:=aG eH1 h1
  refine⟨_,U,a,_,_,_,U,U,sqT (g1 _ _ ha),gt0,smN 2,fun p2 h2=>⟨p2,_,U,.inr (sqT aa),U,U,_,U,Pz (by decide+kernel) ?_⟩⟩
  generalize eH2:upd H1 p2 _=H2
  obtain⟨g2,_⟩:=aG eH2 h2
  have s2:aH H H2:=g1.trans g2
  refine⟨_,U,a,_,_,_,U,U,sqT (s2 _ _ ha),gt0,?_⟩
  refine⟨_,U,a,_,_,_,U,U,sqT (s2 _ _ ha),gt1,b,U,⟨_,sqT (s2 _ _ hb)⟩,fun D hD=>bU (K:=K) (a:=b) (xs:=us) (fun i zs σ' H3=>(∃ u,σ'=[u,oR row])/\zs.length=i/\aH H2 H3/\H3 D=some (.lst zs)/\bQ n H3 zs (wJ (lq rs) (ts.take i)))
   ⟨⟨_,U⟩,U,aA hD _,aa,by rw[Vp,wJ];exact .nil⟩ (fun i zs σ' H3 _ h=>⟨sqT (h.2.2.1 _ _ (s2 _ _ hb)),h.2.2.2.1⟩) ?_ ?_⟩
  ·rintro j zs x σ' H3 hx ⟨⟨u,rfl⟩,lz,sm,hDl,rz⟩
   obtain⟨t,ht,rt⟩:=rl.get hx
   have hj:=(geS hx).1
   refine gT ?_
   refine⟨_,U,_,U,x,row,m,n,t,rs,U,rt.mono (s2.trans sm),UL (iR ht) hdl,HW (s2.trans sm) hR,hm,nd,hv,fun v' H4 s4 r4=>?_⟩
   have s7:=cz (zs':=zs++[v']) (s4 _ _ hDl)
   refine⟨s4 _ _ hDl,aF (by lia),⟨_,U⟩,by rw[Ui,lz];rfl,aL (sm.trans s4) hD _,aa,?_⟩
   rw[jP,take_snoc (ren (lq rs)) ht,← jP]
   exact ((rz.mono s4).aN s7).snoc (r4.aN s7)
  ·rintro zs σ' H3 ⟨_,lz,sm,hDl,rz⟩
   rw[el,Uh] at rz
   refine⟨D,_,U,.inl ⟨sqL hDl,fun p4 h4=>?_⟩⟩
   generalize eH4:upd H3 p4 _=H4
   obtain⟨g4,e4⟩:=aG eH4 h4
   refine⟨smN 2,fun p5 h5=>?_⟩
   refine q (.ref p5) _ (s2.trans (sm.trans (g4.trans (aA h5 _)))) ?_
   rw[ren]
   exact .any aa (aA h5 _ _ _ e4) (by lia) (by lia) (rz.mono (g4.trans (aA h5 _)))
mutual
def nn (one:Nat):Tm->Bool
 | .free=>true
 | .never=>true
 | .gives i _=>decide (i≠one)
 | .sum c _=>decide (one ∉ c)
 | .crowd c _ _=>decide (one ∉ c)
 | .all ts=>nnL one ts
 | .any ts=>nnL one ts
def nnL (one:Nat):List Tm->Bool
 | []=>true
 | t::r=>nn one t && nnL one r
end
section
variable {one:Nat}{g g':E9}(ag:∀ j,j≠one->g.getD j 0=g'.getD j 0)
include ag
theorem PQ {c:Fa}(h:one ∉ c):(c.map fun i=>g.getD i 0)=c.map fun i=>g'.getD i 0:=Xa fun i hi=>ag i fun z=>h (z▸hi)
mutual
theorem Ln:∀ t:Tm,nn one t=true->hF g t=hF g' t
 | .free,_=>by simp only[hF]
 | .never,_=>by simp only[hF]
 | .gives i k,h=>by
  have:=of_decide_eq_true (show decide (i≠one)=true by simpa [nn] using h)
  simp only[hF]
  rw[ag i this]
 | .sum c k,h=>by
  have hc:one ∉ c:=by simpa [nn] using h
  simp only[hF]
  rw[PQ ag hc]
 | .crowd c k m,h=>by
  have hc:one ∉ c:=by simpa [nn] using h
  simp only[hF]
  have:∀ i∈c,g.getD i 0=g'.getD i 0:=fun i hi=>ag i fun z=>hc (z▸hi)
  rw[show (c.filter fun i=>decide (g.getD i 0 ≥ k))=c.filter fun i=>decide (g'.getD i 0 ≥ k) from List.filter_congr fun i hi=>by rw[this i hi]]
 | .all ts,h=>by
  simp only[hF]
  exact Fx ts (by simpa [nn] using h)
 | .any ts,h=>by
  simp only[hF]
  exact Gy ts (by simpa [nn] using h)
theorem Fx:∀ ts:List Tm,nnL one ts=true->mH g ts=mH g' ts
 | [],_=>by simp only[mH]
 | t::r,h=>by
  have h':nn one t=true/\nnL one r=true:=by simpa [nnL] using h
  simp only[mH]
  rw[Ln t h'.1,Fx r h'.2]
theorem Gy:∀ ts:List Tm,nnL one ts=true->mz g ts=mz g' ts
 | [],_=>by simp only[mz]
 | t::r,h=>by
  have h':nn one t=true/\nnL one r=true:=by simpa [nnL] using h
  simp only[mz]
  rw[Ln t h'.1,Gy r h'.2]
end
end
theorem yI {one:Nat}{g g':E9}(ag:∀ j,j≠one->g.getD j 0=g'.getD j 0):∀ (p:Pl) (f:Int),(∀ x∈p,nn one x.2=true)->p.foldl (owS g) f=p.foldl (owS g') f
 | [],_,_=>rfl
 | x::p,f,h=>by
  show p.foldl (owS g) (owS g f x)=p.foldl (owS g') (owS g' f x)
  have e:owS g f x=owS g' f x:=by
   unfold owS
   rw[Ln ag x.2 (h x Uc)]
  rw[e]
  exact yI ag p _ fun y hy=>h y (Ug _ hy)
mutual
theorem J4 {one m:Nat}{H:Hp}{f:Nat->Nat}(hf:∀ j < m,f j≠one):∀ {v:V} {t:Tm},gq m H v t->nn one (ren f t)=true
 | _,_,.free _=>by simp [ren,nn]
 | _,_,.never _=>by simp [ren,nn]
 | _,_,.gives _ a _ _=>by
  simp only[ren,nn]
  exact dcT (hf _ a)
 | _,_,.sum _ _ a _ _ _ _ _=>by
  simp only[ren,nn]
  refine dcT fun z=>?_
  obtain⟨j,hj,e⟩:=List.mem_map.mp ((iI _).mem_iff.mp z)
  exact hf j (a j hj) e
 | _,_,.crowd _ _ a _ _ _ _ _ _ _=>by
  simp only[ren,nn]
  refine dcT fun z=>?_
  obtain⟨j,hj,e⟩:=List.mem_map.mp ((iI _).mem_iff.mp z)
  exact hf j (a j hj) e
 | _,_,.all _ _ _ _ r=>by
  simp only[ren,nn]
  exact xR hf r
 | _,_,.any _ _ _ _ r=>by
  simp only[ren,nn]
  exact xR hf r
theorem xR {one m:Nat}{H:Hp}{f:Nat->Nat}(hf:∀ j < m,f j≠one):∀ {vs:G1} {ts:List Tm},bQ m H vs ts->nnL one (wJ f ts)=true
 | _,_,.nil=>by simp [wJ,nnL]
 | _,_,.cons h r=>by
  simp only[wJ,nnL]
  rw[J4 hf h,xR hf r]
  rfl
end
def shN (one k:Nat):Nat:=k+if one<=k then 1 else 0
def shR (one m:Nat):Fa:=(VV m).map (shN one)
theorem Cj (one m:Nat):(shR one m).Nodup:=by
 unfold shR
 show ((VV m).map (shN one)).Pairwise (·≠·)
 rw[aaa]
 refine List.pairwise_lt_range.imp fun {a b} h=>?_
 unfold shN
 split <;> split <;> lia
theorem Qy {one m:Nat}:∀ x∈shR one m,x < m+1:=fun x hx=>by
 unfold shR at hx
 obtain⟨k,hk,rfl⟩:=List.mem_map.mp hx
 have:=List.mem_range.mp hk
 unfold shN
 split <;> lia
theorem QG {one m j:Nat}(hj:j < m):lq (shR one m) j≠one:=by
 unfold lq shR
 rw[TY,Ux,YJ hj]
 show shN one j≠one
 unfold shN
 split <;> lia
abbrev kY:Stmt:=top 69
theorem xr:aB WS WS (au kY):=cM
inductive Kf (vs:G1)(H:Hp)(Q:VK)(e3:XK):Prop where
 | mk (c:Int) (n one:Nat) (deep:Int) (mo:Nat) (_:vs=[.int c,.int (n:Int),.int (one:Int),.int deep,.int (mo:Int)]) (_:1<=n) (_:n<=12) (_:one < n) (_:1<=deep) (_:deep<=3) (_:1<=mo) (_:mo<=9) (_:∀ (v:V) (t:Tm) (H':Hp),aH H H'->gq n H' v t->t.dep<=3->nn one t=true->Q v H')
theorem xK (F:Fun K "_law_mine" "_law_mine" kY f fd) (B:Bt mg)
  (SR:Df P w K mg base "_law_term" 4 WU (qY 3)) (SL:Df P w K mg base "_law_renamed" 3 XE (BJ K 3)):aY P w K mg base CX0 5 f fd WS Kf:=by
 refine okA F xr fun H Q E hr h=>?_
 obtain⟨c,n,one,deep,mo,rfl,n1,n12,hone,de1,de3,m1,m9,q⟩:=h
 refine⟨_,(ao (ifR (aK bw (pv 1) aq) (bc (a1 (pxL K (bI (aj aQ (aj aQ (a1 aQ)))) (aM cI (pv 0) aq)))))
 (sR (aP SL hr (aj (aP SR hr (aj (pv 0) (aj (aM fG (pv 1) aq) (v2 3 4)))) (a1 (bj (L:=["_law_k"]) (F:=ZI) (cap:=[2]) U (aV U U (by kernel_rfl)) (cZ U B.range_ (a1 (aM fG (pv 1) aq))) (fun _ _ _ _ _=>(pgC 0)) (fun _ _ _ _ _=>bF) (fun _ _ _ _ _=>(aM bA (pv 0) (bf (r:=Qs) wk U B.int_ vU (a1 (cD lA (pv 0) (pv 1)))))))))))),?_⟩
 refine⟨_,U,U,_,U,?_⟩
 refine wI (fun c1=>?_) (fun c1=>?_)
 ·have en:n=1:=by
   have:=of_decide_eq_true c1
   cases n with
   | zero=>lia
   | succ n=>injection this with z;lia
  subst en
  refine⟨smN 3,fun p7 h7=>?_⟩
  generalize eH7:upd H p7 _=H7
  obtain⟨g7,e7⟩:=aG eH7 h7
  have fin:∀ p8 (x:Ut),H7 p8=none->(x = "free"∨x = "never")->Q (.ref p8) (upd H7 p8 (.tup [.str x])):=fun p8 x h8 hx=>by
   rcases hx with rfl | rfl
   ·exact q (.ref p8) .free _ (g7.trans (aA h8 _)) (.free aa) (by decide) (by simp [nn])
   ·exact q (.ref p8) .never _ (g7.trans (aA h8 _)) (.never aa) (by decide) (by simp [nn])
  refine⟨_,U,_,_,U,U,(by show (0:Int) < 3;decide),?_⟩
  have u1:0<=c % 3:=Vg _ (by lia)
  have u2:c % 3 < 3:=U6 _ (by lia)
  rcases (show c % 3=0∨c % 3=1∨c % 3=2 by lia) with z | z | z
  ·exact⟨p7,_,_,_,U,U,sqL e7,by rw[z];rfl,smN 1,fun p8 h8=>fin p8 _ h8 (.inl U)⟩
  ·exact⟨p7,_,_,_,U,U,sqL e7,by rw[z];rfl,smN 1,fun p8 h8=>fin p8 _ h8 (.inr U)⟩
  ·exact⟨p7,_,_,_,U,U,sqL e7,by rw[z];rfl,smN 1,fun p8 h8=>fin p8 _ h8 (.inl U)⟩
 ·have en:n≠1:=fun z=>c1 (dcT (by rw[z];rfl))
  obtain⟨m,rfl⟩:∃ m,n=m+1:=⟨n - 1,by lia⟩
  have em:((m+1:Nat):Int) - 1=(m:Int):=by lia
  have et:(((m+1:Nat):Int) - 1).toNat=m:=by lia
  refine⟨_,U,_,U,_,_,U,U,_,U,_,U,c,m,deep,(mo:Int),(by show[V.int c,V.int (((m+1:Nat):Int) - 1),V.int deep,V.int (mo:Int)]=_;rw[em]),by lia,by lia,de1,by lia,by lia,by lia,fun v t H1 s1 rt td=>?_⟩
  refine⟨_,U,_,_,U,U,_,U,by lia,by lia,fun D hD=>dW (lo:=0) (n:=(((m+1:Nat):Int) - 1).toNat) (fun i zs σ' H2=>(∃ u,σ'=[u,some (.int (one:Int))])/\zs=((VV i).map (shN one)).map vN/\aH H1 H2/\H2 D=some (.lst zs))
   ⟨⟨_,U⟩,U,aA hD _,aa⟩ (fun i zs σ' H2 _ h=>h.2.2.2) ?_ ?_⟩
  ·rintro i zs σ' H2 hi ⟨⟨u,rfl⟩,e1,sm,hDl⟩
   refine gT ?_
   refine⟨_,U,_,U,_,U,_,_,U,U,.inr ⟨_,U,_,_,U,U,hDl,?_,⟨_,U⟩,?_,aL sm hD _,aa⟩⟩
   ·rw[e1,TJ,TJ,VN]
    exact aF (by lia)
   ·rw[e1,abJ,Ub,Ub]
    congr 1
    show[V.int (0+(i:Int)+_)]=[V.int ((shN one i:Nat):Int)]
    congr 2
    unfold shN
    by_cases hc:one<=i
    ·rw[dcT (by lia),iPo hc]
     simp
    ·rw[dcF (by lia),iNe hc]
     simp
  ·rintro zs σ' H2 ⟨_,e1,sm,hDl⟩
   rw[et] at e1
   refine⟨v,D,m,m+1,t,shR one m,U,rt.mono sm,by lia,sqL (by rw[hDl,e1];rfl),by unfold shR;rw[TJ,VN];lia,Cj one m,Qy,fun v' H3 s3 r3=>?_⟩
   exact q v' _ H3 (s1.trans (sm.trans s3)) r3 (by rw[Es];lia) (J4 (fun j hj=>QG hj) rt)
theorem zX {x:Int}:∀ (ns acc:E9),x∈ns.foldl VH acc ↔ x∈acc∨x∈ns
 | [],acc=>by simp
 | n::r,acc=>by
  rw[Vl,zX r _]
  unfold VH
  split
  ·rename_i h
   obtain⟨y,hy,ey⟩:=List.any_eq_true.mp h
   have e:=eq_of_beq ey
   constructor
   ·rintro (h | h)
    ·exact .inl h
    ·exact .inr (Ug _ h)
   ·rintro (h | h)
    ·exact .inl h
    ·rcases List.mem_cons.mp h with rfl | h
     ·exact .inl (by rw[← e];exact hy)
     ·exact .inr h
  ·constructor
   ·rintro (h | h)
    ·rcases List.mem_append.mp h with h | h
     ·exact .inl h
     ·exact .inr (by rw[List.mem_singleton.mp h];exact Uc)
    ·exact .inr (Ug _ h)
   ·rintro (h | h)
    ·exact .inl (Zw _ h)
    ·rcases List.mem_cons.mp h with rfl | h
     ·exact .inl (Uv _ Uc)
     ·exact .inr h
def okS (ms:E9):Prop:=ms≠[]/\ms.length<=9/\ms.Pairwise (· < ·)/\∀ x∈ms,1<=x/\x<=9
theorem Ny {ns ms:E9}(p:ms.Perm (ddI ns))(so:ms.Pairwise (·<=·))(h0:ns≠[])(h9:ns.length<=9)(hb:∀ x∈ns,1<=x/\x<=9):okS ms:=by
 rw[vW] at p
 have mem:∀ x,x∈ms ↔ x∈ns:=fun x=>by rw[p.mem_iff,zX];simp
 refine⟨fun z=>?_,?_,?_,fun x hx=>hb x ((mem x).mp hx)⟩
 ·cases ns with
  | nil=>exact h0 U
  | cons a r =>
   have:=(mem a).mpr Uc
   rw[z] at this
   cases this
 ·have:=Ed ns []
  rw[p.length_eq]
  simp at this
  lia
 ·have nd:ms.Nodup:=p.nodup_iff.mpr (sI ns [] (by simp))
  exact (so.and nd).imp fun h=>by lia
theorem Qi {ns ms:E9}(p:ms.Perm (ddI ns)){x:Int}(h:x∈ms):x∈ns:=by
 rw[vW] at p
 have:=p.mem_iff.mp h
 rw[zX] at this
 simpa using this
theorem DW {ms:E9}(h:okS ms){p:Pl}(e:p.map (·.1)=ms)(hd:∀ x∈p,x.2.dep<=4):okP p:=by
 refine⟨fun z=>?_,?_,by rw[e];exact h.2.2.1,fun x hx=>?_⟩
 ·subst z
  exact h.1 e.symm
 ·have:=congrArg aaP e
  rw[TJ] at this
  have:=h.2.1
  lia
 ·have hm:x.1∈ms:=by rw[← e];exact List.mem_map.mpr ⟨x,hx,U⟩
  exact⟨(h.2.2.2 _ hm).1,(h.2.2.2 _ hm).2,hd x hx⟩
theorem Kv {one n:Nat}{d:Int}(h:one < n)(d0:0<=d)(d1:d < (n:Int) - 1){j:Nat}(e:((one:Int)+1+d) % (n:Int)=(j:Int)):j≠one:=fun z=>by
 subst z
 by_cases c:(j:Int)+1+d < (n:Int)
 ·rw[Int.emod_eq_of_lt (by lia) c] at e
  lia
 ·rw[← Int.sub_emod_right,Int.emod_eq_of_lt (by lia) (by lia)] at e
  lia
abbrev iQ:Stmt:=top 70
theorem bD:aB ["_law_cell_here","_law_n","_law_one","_law_deep","_law_most","_law_drawn","_law_steps","_law_other_one","_law_found","_law_k","_law_step"] WS (au iQ):=cM
inductive zU (vs:G1)(H:Hp)(Q:VK)(e3:XK):Prop where
 | mk (c:Int) (n one:Nat) (deep:Int) (mo:Nat) (_:vs=[.int c,.int (n:Int),.int (one:Int),.int deep,.int (mo:Int)]) (_:1<=n) (_:n<=12) (_:one < n) (_:1<=deep) (_:deep<=3) (_:1<=mo) (_:mo<=9) (_:∀ (a:Addr) (p:Pl) (H':Hp),aH H H'->j6 n H' a p->(∀ x∈p,x.1<=(mo:Int))->(∀ x∈p,nn one x.2=true)->Q (.ref a) H')
theorem tK (F:Fun K "_law_pledge" "_law_pledge" iQ f fd) (B:Bt mg)
  (SD:Df P w K mg base "_law_draws" 1 XB (uq K)) (SS:Df P w K mg base "_law_under" 1 XG tY) (SC:Df P w K mg base "_law_crowd" 1 X0 wO)
  (SH:Df P w K mg base "_law_mine" 5 WS Kf):aY P w K mg base CX0 6 f fd WS zU:=by
 refine okA F bD fun H Q E hr h=>?_
 obtain⟨c,n,one,deep,mo,rfl,n1,n12,hone,de1,de3,m1,m9,q⟩:=h
 refine⟨_,(ao (sTc 5 bD.nd (aP SD hr (aj (pv 0) (a1 (bI (aj aq (aj aq (aj aq (aj aq (aj aq (a1 aq)))))))))))
 (ao (sT 6 bD.nd (mq U U B.sorted_ U B.set_ (a1 (bj (L:=["_law_k"]) (F:=["_law_most","_law_drawn"]) (cap:=[4,5]) U (aV U U (by kernel_rfl)) (cZ U B.range_ (a1 (aM bA aq (aM cI (pxL K (pv 5) aq) aq)))) (fun _ _ _ _ _=>(pgC 0)) (fun _ _ _ _ _=>bF) (fun _ _ _ _ _=>(aM bA aq (aM cI (pxL K (pv 2) (aM bA aq (pv 0))) (pv 1))))))))
 (ao (c7 (aK bw (pxL K (pv 5) aq) aq) (ao (wV (L:=["_law_step"]) (F:=[]) (cap:=[]) (j:=6) bD.nd U (ZG U) U (aV U U (by kernel_rfl)) (cH (aP SC hr (aj (pxL K (pv 5) aq) (v1 4)))) (fun _ _ _ _ _=>(pgC 0)) (fun _ _ _ _ _=>bF) (fun _ _ _ _ _=>(aM bA aq (pv 0))))
 (aC (c7 (aK (r:=Sq K) (QC hr.zB) (pv 6) (bI dM)) (aC (sT 6 bD.nd (bI (v1 4)))) bh))) bh)
 (ao (ifR (PW.pt (rE (aK bw (pxL K (pv 5) aq) aq) (lX (aK xP (pv 1) aq)))) (bf (r:=gm K) bu U B.tuple_ bC (a1 (bj (L:=["_law_step"]) (F:=["_law_n","_law_one"]) (cap:=[1,2]) U (aV U U (by kernel_rfl)) (fV (pv 6)) (fun _ _ _ _ _=>(pgC 0)) (fun _ _ _ _ _=>bF) (fun _ _ _ _ _=>(bc (aj (pv 0) (a1 (bc (aj aQ (aj (aM cI (aM bA (pv 2) aq) (pv 1)) (v1 0))))))))))))
 (ao (c7 (PW.pt (rE (aK bw (pxL K (pv 5) aq) aq) (lX (aK xP (pv 1) aq)))) (ao (sTc 7 bD.nd (aM cI (aM bA (aM bA (pv 2) aq) (aM cI (pxL K (pv 5) aq) (aM fG (pv 1) aq))) (pv 1)))
 (sR (bf (r:=gm K) bu U B.tuple_ bC (a1 (bj (L:=["_law_step"]) (F:=["_law_other_one"]) (cap:=[7]) U (aV U U (by kernel_rfl)) (fV (pv 6)) (fun _ _ _ _ _=>(pgC 0)) (fun _ _ _ _ _=>bF) (fun _ _ _ _ _=>(bc (aj (pv 0) (a1 (bc (aj aQ (aj (pv 1) (a1 (aJ (vp U) U B.max_ qQ (aj aq (a1 (aM fG (pv 0) aq))))))))))))))))) bh)
 (ao (sT 8 bD.nd (bI dM))
 (ao (dC Vu U (Le U B.enumerate_ (v1 6)) (dZ (K:=K) 2 U U (aR (pgN 9 bD.nd) (aR (pgN 10 bD.nd) eF))) (aC (aU (yH Wq Wh Wg cL (pv 8) (a1 (bc (aj (pv 10) (a1 (aP SH hr (aj (aP SS hr (v2 0 9)) (aj (pv 1) (aj (pv 2) (v2 3 4)))))))))))))
 (sR (bf (r:=gm K) bu U B.tuple_ bC (v1 8)))))))))),?_⟩
 refine⟨_,U,smN 6,fun p1 h1=>?_⟩
 generalize eH1:upd H p1 _=H1
 obtain⟨g1,e1⟩:=aG eH1 h1
 refine⟨c,p1,[7,9,9,9,12,512],U,sqL e1,by decide,by decide,fun p2 h2=>?_⟩
 generalize eH2:upd H1 p2 _=H2
 obtain⟨g2,e2⟩:=aG eH2 h2
 have hps:∀ q∈([7,9,9,9,12,512]:E9),0 < q:=by decide
 obtain⟨d0,k0,b0⟩:=bR (c:=mX c) (i:=0) hps U
 obtain⟨d1,k1,b1⟩:=bR (c:=mX c) (i:=1) hps U
 obtain⟨d2,k2,b2⟩:=bR (c:=mX c) (i:=2) hps U
 obtain⟨d3,k3,b3⟩:=bR (c:=mX c) (i:=3) hps U
 obtain⟨d4,k4,b4⟩:=bR (c:=mX c) (i:=4) hps U
 obtain⟨d5,k5,b5⟩:=bR (c:=mX c) (i:=5) hps U
 have a0:=eO (gW k0)
 have a4:=eO (gW k4)
 have a5:=eO (gW k5)
 have kk:∀ k:Nat,k < 3->∃ d,(uT (mX c) [7,9,9,9,12,512])[1+k]? = some d:=fun k hk=>by
  match k,hk with
  | 0,_=>exact⟨_,k1⟩
  | 1,_=>exact⟨_,k2⟩
  | 2,_=>exact⟨_,k3⟩
 change _=some (HO.lst ((uT (mX c) [7,9,9,9,12,512]).map V.int)) at e2
 generalize uT (mX c) [7,9,9,9,12,512]=ds at *
 have gH:aH H H2:=g1.trans g2
 have u1:0<=d0 % 3:=Vg _ (by lia)
 have u2:d0 % 3 < 3:=U6 _ (by lia)
 refine⟨_,U,p2,_,_,_,U,U,sqL e2,a0,_,_,U,U,(by show (0:Int) < 3;decide),_,_,U,U,_,U,by lia,by lia,fun D hD=>dW (lo:=0) (n:=(1+d0 % 3).toNat)
  (fun i zs σ' H3=>(∃ u,σ'=[u,some (.int (mo:Int)),oR p2])/\aH H2 H3/\H3 D=some (.lst zs)/\∃ ns:E9,zs=ns.map V.int/\ns.length=i/\∀ x∈ns,1<=x/\x<=(mo:Int))
  ⟨⟨_,U⟩,aA hD _,aa,[],U,U,by simp⟩ (fun i zs σ' H3 _ h=>h.2.2.1) ?_ ?_⟩
 ·rintro i zs σ' H3 hi ⟨⟨u,rfl⟩,s3,eD,ns,e3,ln,hb⟩
  obtain⟨dk,hk⟩:=kk i (by lia)
  have ak:atI (ds.map V.int) (1+(0+(i:Int)))=some (.int dk):=by
   rw[show (1:Int)+(0+(i:Int))=((1+i:Nat):Int) by lia]
   exact eO (gW hk)
  have v1:0<=dk % (mo:Int):=Vg _ (by lia)
  have v2:dk % (mo:Int) < (mo:Int):=U6 _ (by lia)
  refine gT ?_
  refine⟨_,U,_,U,_,_,U,U,p2,_,_,_,U,U,sqL (s3 _ _ e2),ak,_,U,_,_,U,U,(by show (0:Int) < (mo:Int);lia),_,_,U,U,eD,?_,⟨_,U⟩,aL s3 hD _,aa,ns++[1+dk % (mo:Int)],?_,?_,?_⟩
  ·rw[e3,TJ]
   exact aF (by lia)
  ·rw[e3,Ub]
   rfl
  ·rw[Ui,ln]
   rfl
  ·intro x hx
   rcases List.mem_append.mp hx with h | h
   ·exact hb x h
   ·rw[List.mem_singleton.mp h]
    lia
 ·rintro zs σ' H3 ⟨_,s3,eD,ns,e3,ln,hb⟩
  have ln3:1<=ns.length/\ns.length<=3:=by lia
  have dl:(ddI ns).length<=ns.length:=by
   have:=Ed ns []
   rw[vW]
   simpa using this
  refine⟨D,ns,U,sqL (by rw[eD,e3]),by lia,by lia,fun ms pm so l hl=>?_⟩
  have okm:okS ms:=Ny pm so (fun z=>by rw[z] at ln3;simp at ln3) (by lia) fun x hx=>⟨(hb x hx).1,by have:=(hb x hx).2;lia⟩
  have okM:∀ x∈ms,x<=(mo:Int):=fun x hx=>(hb x (Qi pm hx)).2
  generalize eH4:upd H3 l _=H4
  obtain⟨g4,e4⟩:=aG eH4 hl
  have s4:aH H2 H4:=s3.trans g4
  refine gN ?_
  dsimp only
  show G4 (G3 _ _ _) _ _ _ _
  refine lD (fun σ H5=>∃ (l:Addr) (ms:E9),σ=[oI c,some (.int (n:Int)),some (.int (one:Int)),oI deep,some (.int (mo:Int)),oR p2,oR l,none,none,none,none]/\aH H2 H5/\H5 l=some (.lst (ms.map V.int))/\okS ms/\∀ x∈ms,x<=(mo:Int)) ?rest (fun _ R=>?_)
  case rest =>
   clear e4 hl so pm okm okM eH4 g4 s4 H4 l ms
   rintro σ H5 ⟨l,ms,rfl,s5,e5,okm,okM⟩
   have l9:=okm.2.1
   have e2':=s5 _ _ e2
   have sH5:aH H H5:=gH.trans s5
   show G4 (G3 _ _ _) _ _ _ _
   refine lD (fun σ H6=>σ=[oI c,some (.int (n:Int)),some (.int (one:Int)),oI deep,some (.int (mo:Int)),oR p2,oR l,none,none,none,none]/\H5=H6) ?rest2 (fun _ R=>?_)
   case rest2 =>
    rintro σ H6 ⟨rfl,rfl⟩
    show G4 (G3 _ _ _) _ _ _ _
    refine lD (fun σ H6=>σ=[oI c,some (.int (n:Int)),some (.int (one:Int)),oI deep,some (.int (mo:Int)),oR p2,oR l,none,none,none,none]/\H5=H6) ?rest3 (fun _ R=>?_)
    case rest3 =>
     rintro σ H6 ⟨rfl,rfl⟩
     refine⟨small (U9 _),fun r hr0=>?_⟩
     generalize eH6:upd H5 r _=H6
     obtain⟨g6,e6⟩:=aG eH6 hr0
     refine⟨_,U,l,_,U,g6 _ _ e5,Ir (K:=K) (a:=l) (xs:=ms.map V.int) (fun i σ H7=>(∃ u v,σ=[oI c,some (.int (n:Int)),some (.int (one:Int)),oI deep,some (.int (mo:Int)),oR p2,oR l,none,oR r,u,v])/\aH H5 H7 ∧
      ∃ (vs:G1) (p:Pl),H7 r=some (.lst vs)/\cT n H7 vs p/\p.map (·.1)=ms.take i/\∀ x∈p,x.2.dep<=4/\nn one x.2=true) ⟨⟨_,_,U⟩,g6,[],[],e6,.nil,U,by simp⟩ (fun i σ H7 _ h=>sqL (h.2.1 _ _ e5)) ?_ ?_⟩
     ·rintro i x pp σ H7 hx hpp ⟨⟨u,v,rfl⟩,s7,vs,p,er,rp,ep,hd⟩
      obtain⟨st,hst,rfl⟩:=int_at hx
      have hi:i < ms.length:=(geS hst).1
      generalize eH8:upd H7 pp _=H8
      obtain⟨g8,e8⟩:=aG eH8 hpp
      refine⟨pp,_,U,sqT e8,U,_,_,U,_,_,U,U,_,U,.inl ⟨U,_,sqL (g8 _ _ er)⟩,_,U,_,U,_,U,c,i,U,by lia,_,U,_,U,_,U,_,U,Qc c i,n,one,deep,mo,U,n1,n12,hone,de1,de3,m1,m9,fun v' t H9 s9 rt td tn=>?_⟩
      refine⟨smN 2,fun pa ha=>?_⟩
      generalize eHa:upd H9 pa _=Ha
      obtain⟨ga,ea⟩:=aG eHa ha
      have s8a:aH H7 Ha:=g8.trans (s9.trans ga)
      have lv:=rp.length
      have lp:p.length<=ms.length:=by
       have:=congrArg aaP ep
       rw[TJ,Uo] at this
       lia
      have tk:=cz (zs':=vs++[.ref pa]) (s8a _ _ er)
      refine⟨r,_,_,U,U,s8a _ _ er,aF (by lia),⟨_,_,U⟩,aL (s7.trans s8a) hr0 _,vs++[.ref pa],p++[(st,t)],aa,?_,?_,?_⟩
      ·exact cT.snoc (tk _ _ ea) ((rt.mono ga).aN tk) ((rp.aN fun a xs q=>s8a a _ q).aN tk)
      ·rw[Ub,ep,UT,hst]
       rfl
      ·intro x hx
       rcases List.mem_append.mp hx with h | h
       ·exact hd x h
       ·rw[List.mem_singleton.mp h]
        exact⟨by show t.dep<=4;lia,tn⟩
     ·rintro σ H7 ⟨⟨u,v,rfl⟩,s7,vs,p,er,rp,ep,hd⟩
      rw[TJ,Uh] at ep
      refine⟨_,U,r,_,U,.inl ⟨sqL er,fun pa ha=>?_⟩⟩
      have sn:=aA ha (.tup vs)
      exact q pa p _ (sH5.trans (s7.trans sn)) ⟨DW okm ep fun x hx=>(hd x hx).1,vs,aa,rp.aN fun a xs q=>sn a _ q⟩ (fun x hx=>okM _ (ep▸ZL hx)) fun x hx=>(hd x hx).2
    ·refine ug (decide (V.int d0=V.int 5)) (decide (1 < (n:Int))) (fun H6=>H5=H6) (fun Q' hQ=>?_) (fun H6 e Q' hQ=>?_) (fun H6 e c1 c2=>?_) (fun H6 e _=>R _ _ ⟨U,e⟩)
     ·exact⟨_,U,p2,_,_,_,U,U,sqL e2',a0,U,_,U,hQ _ U⟩
     ·subst e
      exact⟨_,U,_,_,U,U,_,U,hQ⟩
     ·subst e
      have c2:1 < (n:Int):=of_decide_eq_true c2
      have w1:0<=((one:Int)+1+d4 % ((n:Int) - 1)) % (n:Int):=Vg _ (by lia)
      have w2:((one:Int)+1+d4 % ((n:Int) - 1)) % (n:Int) < (n:Int):=U6 _ (by lia)
      obtain⟨j,hj⟩:=WW w1
      have hjo:=Kv hone (Vg _ (by lia)) (U6 _ (by lia)) hj
      refine⟨_,U,_,_,U,U,_,U,p2,_,_,_,U,U,sqL e2',a4,_,U,_,_,U,U,_,_,U,U,(by show (0:Int) < (n:Int) - 1;lia),_,_,U,U,_,U,_,_,U,U,(by show (0:Int) < (n:Int);lia),?_⟩
      refine gN ?_
      have es:(fun i j:Int=>V.int (i % j)) ((one:Int)+1+d4 % ((n:Int) - 1)) (n:Int)=V.int (j:Int):=by
       show V.int (((one:Int)+1+d4 % ((n:Int) - 1)) % (n:Int))=_
       rw[hj]
      refine⟨_,U,l,U,⟨_,sqL e5⟩,fun D hD=>eN (K:=K) (a:=l) (xs:=ms.map V.int) (fun i zs σ' H7=>(∃ u,σ'=[u,some (.int (j:Int))])/\aH H5 H7/\H7 D=some (.lst zs) ∧
       cT n H7 zs ((ms.take i).map fun st=>(st,Tm.gives j (if st - 1 > 1 then st - 1 else 1)))) ⟨⟨none,?_⟩,aA hD _,aa,.nil⟩ (fun i zs σ' H7 _ h=>⟨sqL (h.2.1 _ _ e5),h.2.2.1⟩) ?_ ?_⟩
      ·rw[← es]
       rfl
      ·rintro i zs x σ' H7 hx ⟨⟨u,rfl⟩,s7,er,rp⟩
       obtain⟨st,hst,rfl⟩:=int_at hx
       have hb:=okm.2.2.2 st (UJ hst)
       have lv:=rp.length
       rw[TJ,Uo] at lv
       refine gT ?_
       refine⟨_,U,_,U,_,U,_,_,U,U,_,_,U,smN 3,fun pa ha=>?_⟩
       generalize eHa:upd H7 pa _=Ha
       obtain⟨ga,ea⟩:=aG eHa ha
       refine⟨smN 2,fun pb hb'=>?_⟩
       generalize eHb:upd Ha pb _=Hb
       obtain⟨gb,eb⟩:=aG eHb hb'
       have s7b:aH H7 Hb:=ga.trans gb
       have tk:=cz (zs':=zs++[.ref pb]) (s7b _ _ er)
       refine⟨s7b _ _ er,aF (by lia),⟨_,U⟩,aL (s7.trans s7b) hD _,aa,?_⟩
       rw[take_snoc (fun st=>(st,Tm.gives j (if st - 1 > 1 then st - 1 else 1))) hst]
       exact cT.snoc (tk _ _ eb) (.gives (tk _ _ (gb _ _ ea)) (by lia) (by split <;> lia) (by split <;> lia)) ((rp.aN fun a xs q=>s7b a _ q).aN tk)
      ·rintro zs σ' H7 ⟨_,s7,er,rp⟩
       rw[TJ,Uh] at rp
       refine⟨D,_,U,.inl ⟨sqL er,fun pa ha=>?_⟩⟩
       have sn:=aA ha (.tup zs)
       refine q pa _ _ (sH5.trans (s7.trans sn)) ⟨DW okm ?_ ?_,zs,aa,rp.aN fun a xs q=>sn a _ q⟩ (fun x hx=>by obtain⟨st,hs,rfl⟩:=List.mem_map.mp hx;exact okM st hs) fun x hx=>by obtain⟨st,_,rfl⟩:=List.mem_map.mp hx;simp only[nn];exact dcT hjo
       ·rw[Xe]
        exact List.map_id' ms
       ·intro x hx
        obtain⟨st,_,rfl⟩:=List.mem_map.mp hx
        show (1:Nat)<=4
        decide
   ·refine ug (decide (V.int d0=V.int 6)) (decide (1 < (n:Int))) (fun H6=>H5=H6) (fun Q' hQ=>?_) (fun H6 e Q' hQ=>?_) (fun H6 e c1 c2=>?_) (fun H6 e _=>R _ _ ⟨U,e⟩)
    ·exact⟨_,U,p2,_,_,_,U,U,sqL e2',a0,U,_,U,hQ _ U⟩
    ·subst e
     exact⟨_,U,_,_,U,U,_,U,hQ⟩
    ·subst e
     have w1:0<=((one:Int)+1) % (n:Int):=Vg _ (by lia)
     have w2:((one:Int)+1) % (n:Int) < (n:Int):=U6 _ (by lia)
     obtain⟨j,hj⟩:=WW w1
     have hjo:=Kv (d:=0) hone (by decide) (by have:=of_decide_eq_true c2;lia) (by rw[Int.add_zero];exact hj)
     refine⟨_,U,l,U,⟨_,sqL e5⟩,fun D hD=>eN (K:=K) (a:=l) (xs:=ms.map V.int) (fun i zs σ' H7=>(∃ u,σ'=[u,some (.int (n:Int)),some (.int (one:Int))])/\aH H5 H7/\H7 D=some (.lst zs) ∧
      cT n H7 zs ((ms.take i).map fun st=>(st,Tm.gives j st))) ⟨⟨_,U⟩,aA hD _,aa,.nil⟩ (fun i zs σ' H7 _ h=>⟨sqL (h.2.1 _ _ e5),h.2.2.1⟩) ?_ ?_⟩
     ·rintro i zs x σ' H7 hx ⟨⟨u,rfl⟩,s7,er,rp⟩
      obtain⟨st,hst,rfl⟩:=int_at hx
      have hb:=okm.2.2.2 st (UJ hst)
      have lv:=rp.length
      rw[TJ,Uo] at lv
      refine gT ?_
      refine⟨_,U,_,U,_,_,U,U,_,U,_,_,U,U,(by show (0:Int) < (n:Int);lia),_,U,smN 3,fun pa ha=>?_⟩
      generalize eHa:upd H7 pa _=Ha
      obtain⟨ga,ea⟩:=aG eHa ha
      have ea:Ha pa=some (.tup [.str "gives",vN j,.int st]):=by
       rw[ea]
       show some (HO.tup [V.str "gives",V.int (((one:Int)+1) % (n:Int)),V.int st])=some (HO.tup [V.str "gives",V.int (j:Int),V.int st])
       rw[hj]
      refine⟨smN 2,fun pb hb'=>?_⟩
      generalize eHb:upd Ha pb _=Hb
      obtain⟨gb,eb⟩:=aG eHb hb'
      have s7b:aH H7 Hb:=ga.trans gb
      have tk:=cz (zs':=zs++[.ref pb]) (s7b _ _ er)
      refine⟨s7b _ _ er,aF (by lia),⟨_,U⟩,aL (s7.trans s7b) hD _,aa,?_⟩
      rw[take_snoc (fun st=>(st,Tm.gives j st)) hst]
      exact cT.snoc (tk _ _ eb) (.gives (tk _ _ (gb _ _ ea)) (by lia) (by lia) (by lia)) ((rp.aN fun a xs q=>s7b a _ q).aN tk)
     ·rintro zs σ' H7 ⟨_,s7,er,rp⟩
      rw[TJ,Uh] at rp
      refine⟨D,_,U,.inl ⟨sqL er,fun pa ha=>?_⟩⟩
      have sn:=aA ha (.tup zs)
      refine q pa _ _ (sH5.trans (s7.trans sn)) ⟨DW okm ?_ ?_,zs,aa,rp.aN fun a xs q=>sn a _ q⟩ (fun x hx=>by obtain⟨st,hs,rfl⟩:=List.mem_map.mp hx;exact okM st hs) fun x hx=>by obtain⟨st,_,rfl⟩:=List.mem_map.mp hx;simp only[nn];exact dcT hjo
      ·rw[Xe]
       exact List.map_id' ms
      ·intro x hx
       obtain⟨st,_,rfl⟩:=List.mem_map.mp hx
       show (1:Nat)<=4
       decide
  ·refine⟨_,U,p2,_,_,_,U,U,sqL (s4 _ _ e2),a0,U,_,U,?_⟩
   refine wI (fun _=>?_) (fun _=>R _ _ ⟨l,ms,U,s4,e4,okm,okM⟩)
   refine⟨_,U,p2,_,_,_,U,U,sqL (s4 _ _ e2),a5,_,U,d5,mo,U,by lia,fun cs r3 H5 hc hp hl5 s5 f5 e5=>?_⟩
   refine⟨r3,U,⟨_,sqT e5⟩,fun D5 hD5=>bU (K:=K) (a:=r3) (xs:=cs.map vN) (fun i zs σ' H6=>(∃ u,σ'=[u])/\zs=((cs.take i).map fun j:Nat=>(1:Int)+(j:Int)).map V.int/\aH H5 H6/\H6 D5=some (.lst zs))
    ⟨⟨_,U⟩,U,aA hD5 _,aa⟩ (fun i zs σ' H6 _ h=>⟨sqT (h.2.2.1 _ _ e5),h.2.2.2⟩) ?_ ?_⟩
   ·rintro i zs x σ' H6 hx ⟨⟨u,rfl⟩,e6,s6,eD6⟩
    obtain⟨j,hj,rfl⟩:=uz hx
    refine gT ?_
    refine⟨_,U,_,_,U,U,eD6,?_,⟨_,U⟩,?_,aL s6 hD5 _,aa⟩
    ·rw[e6,TJ,TJ,Uo]
     exact aF (by lia)
    ·rw[e6,take_snoc (fun j:Nat=>(1:Int)+(j:Int)) hj,Ub]
     rfl
   ·rintro zs σ' H6 ⟨_,e6,s6,eD6⟩
    rw[TJ,Uh] at e6
    rw[e6] at eD6
    have s46:aH H2 H6:=s4.trans (s5.trans s6)
    refine⟨_,U,smN 0,fun p7 h7=>?_⟩
    have g7:aH H6 (upd H6 p7 (.lst [])):=aA h7 _
    refine⟨D5,p7,_,U,U,sqL (g7 _ _ eD6),sqL aa,_,U,?_⟩
    refine wI (fun ce=>?_) (fun ce=>?_)
    ·refine⟨_,U,smN 1,fun p8 h8=>?_⟩
     refine R _ _ ⟨p8,[(mo:Int)],U,s46.trans (g7.trans (aA h8 _)),aa,⟨by simp,by show 1<=9;decide,by simp,?_⟩,fun x hx=>by rw[List.mem_singleton.mp hx];exact Xr _⟩
     intro x hx
     rw[List.mem_singleton.mp hx]
     lia
    ·refine R _ _ ⟨D5,cs.map fun j:Nat=>(1:Int)+(j:Int),U,s46.trans g7,g7 _ _ eD6,⟨?_,?_,?_,?_⟩,fun x hx=>by obtain⟨j,hj,rfl⟩:=List.mem_map.mp hx;have:=hc j hj;lia⟩
     ·intro z
      apply ce
      rw[z]
      rfl
     ·rw[TJ]
      lia
     ·rw[aaa]
      exact hp.imp fun h=>by lia
     ·intro x hx
      obtain⟨j,hj,rfl⟩:=List.mem_map.mp hx
      have:=hc j hj
      lia
theorem dU {t u:TS}{D:Ends}{σ:St}{H:Hp}(P:St->Hp->Prop)(h2:∀ σ H,P σ H->u D σ H)(h1:∀ N:St->Hp->Prop,(∀ σ H,P σ H->N σ H)->t { D with nx:=N } σ H):G4 t u D σ H:=h1 (u D) h2
theorem eX {t u:TS}{D:Ends}{σ:St}{H:Hp}(P:St->Hp->Prop)(h1:∀ N:St->Hp->Prop,(∀ σ H,P σ H->N σ H)->t { D with nx:=N } σ H)(h2:∀ σ H,P σ H->u D σ H):G4 t u D σ H:=h1 (u D) h2
abbrev lr:Stmt:=top 72
theorem d8:aB ["_law_pledge_here","_law_giving","_law_found","_law_step","_law_term_here"] Xs (au lr):=cM
theorem xf {k:Nat} (F:Fun K "_law_owes" "_law_owes" lr f fd) (B:Bt mg)
  (SG:Df P w K mg base "_law_holds" k Xt (dw K 4)):aY P w K mg base CX0 (k+1) f fd Xs (wF K):=by
 refine okA F d8 fun H Q E hr h=>?_
 obtain⟨a,g,n,p,ns,rfl,⟨ok,vs,ha,rp⟩,hg,hn,q⟩:=h
 refine⟨_,(ao (sT 2 d8.nd aq)
 (ao (dC Vu U (cH (pv 0)) (dZ (K:=K) 2 U U (aR (pgN 3 d8.nd) (aR (pgN 4 d8.nd) eF))) (aC (c7 (bV (aP SG hr (v2 4 1))) (aC (sT 2 d8.nd (pv 3))) bh)))
 (sR (pv 2)))),?_⟩
 have el:=rp.length
 refine⟨_,U,a,U,⟨_,sqT ha⟩,kZ (K:=K) (a:=a) (xs:=vs) (fun i σ H2=>(∃ u v,σ=[oR a,oR g,some (.int (owF ns (p.take i))),u,v])/\aH H H2)
  ⟨⟨_,_,U⟩,aH.refl H⟩ (fun i σ H2 _ h=>sqT (h.2 _ _ ha)) ?_ ?_⟩
 ·rintro i x σ H2 hx ⟨⟨u,v,rfl⟩,sm⟩
  obtain⟨r,k0,y,t,rfl,hr0,rt,hp⟩:=rp.get hx
  have hm:=UJ hp
  have ow:=zN (g:=ns) hp
  refine⟨r,_,U,sqT (sm _ _ hr0),U,_,_,U,_,_,U,U,_,U,_,U,y,g,n,t,ns,U,rt.mono sm,(ok.2.2.2 _ hm).2.2,eV sm hg,hn,fun H3 s3=>⟨_,U,?_⟩⟩
  cases e:hF ns t with
  | true =>
   rw[iPo e] at ow
   refine dq ⟨_,U,⟨some (.int k0),some y,?_⟩,sm.trans s3⟩
   rw[ow]
   rfl
  | false =>
   rw[iNe (by rw[e];exact T5)] at ow
   refine bZ ⟨⟨some (.int k0),some y,?_⟩,sm.trans s3⟩
   rw[ow]
   rfl
 ·rintro σ H2 ⟨⟨u,v,rfl⟩,sm⟩
  have q':=q H2 sm
  refine⟨_,U,?_⟩
  rw[el,Uh]
  exact q'
abbrev jo:Stmt:=top 2
def Qh (H:Hp)(x C dx:Addr)(w:Ut):Hp:=upd (upd (upd H x (xO x C none)) dx (.xd [("word",.str w)])) x (xO x C (some dx))
theorem Pg {H:Hp}{x C dx:Addr}{w:Ut}:Qh H x C dx w x=some (xO x C (some dx)):=aa
theorem Ot {H:Hp} {x C dx:Addr} {w:Ut} (h:dx≠x):Qh H x C dx w dx=some (.xd [("word",.str w)]):=(aD h).trans aa
theorem Ig:aB Zs Zs (au (inClass jo 0)):=cM
inductive gD (K:Uw)(vs:G1)(H:Hp)(Q:VK)(e3:XK):Prop where
 | mk (x C f:Addr) (w:Ut) (_:vs=[.ref x,.str w]) (_:H x=some (xO x C none)) (_:Im K C f "word") (_:∀ dx,dx≠x->H dx=none->Q .non (Qh H x C dx w))
theorem Hj (F:Fun K "__init__" "BoonError.__init__" (inClass jo 0) f fd) (hv:mg "ValueError" = none):aY P w K mg base CX0 1 f fd Zs (gD K):=by
 refine okA F Ig fun H Q E hr h=>?_
 obtain⟨x,C,f,w,rfl,hx,XC,q⟩:=h
 refine⟨_,ao (aU (Ho U hv (v2 0 1))) (aC (K9 (pv 0) (pv 1) U)),_,U,_,U,x,C,f,"word",none,_,U,hx,XC,_,U,_,U,x,C,f,U,aa,XC,fun dx hd=>?_⟩
 have n:dx≠x:=fun z=>by rw[z,aa] at hd;cases hd
 rw[aD n] at hd
 exact q dx n hd
inductive gF (K:Uw)(w:Ut)(vs:G1)(H:Hp)(Q:VK)(e3:XK):Prop where
 | mk (x C f:Addr) (_:vs=[.ref x]) (_:H x=some (xO x C none)) (_:Im K C f "word") (_:∀ dx,dx≠x->H dx=none->Q .non (Qh H x C dx w))
structure Xc (P:Uq)(w:U3)(K:Uw)(mg:Ut->EW)(base:Va)(c:Ut)(C:Addr)(wd:Ut):Prop where
 ex:∃ (f:Addr) (fd:Vn),aY P w K mg base CX0 2 f fd ZO (gF K wd)/\mg c=some (.ref C)/\Im K C f "word"/\Binds K fd ZO []
def thrown (C:Addr)(w:Ut)(H:Hp)(E:XK):Prop:=∀ dx H1,aH H H1->H1 dx=some (.xd [("word",.str w)])->E (.ref C) (some dx) H1
section
variable {X:Cx}{c wd:Ut}{C:Addr}{p pos pos':Yg}{E:XK}{j:Nat}
def Qa (C:Addr)(w:Ut)(E:XK):TS:=fun _ _ H=>thrown C w H E
theorem dB (D:Xc X.prog X.w X.K X.mg X.base c C wd)(hr:dF j X.A)(hc:X.calm=true)(hw:Throws X fun x C dx H=>E (.ref C) (some dx) (off H x))(hk:3<=j:=by decide)(hg:Gl X c:=by rfl)(hdb:(c == ("__debug__" : Ut))=false:=by decide) :
  PS X (.Raise (some (.Call (.Name c p) [] [] pos)) none pos') (Qa C wd E):=by
 obtain⟨f,fd,F,hm,XC,hb⟩:=D.ex
 intro ZY s σ H De I h
 refine HX (W:=fun x C dx H=>E (.ref C) (some dx) (off H x)) hc (Hc XC F (hr.mono hk) hg hm hb lF hdb) hw ZY s σ H De I fun x hx=>?_
 refine⟨x,C,f,U,aa,XC,fun dx n hd=>⟨U,x,C,f,dx,"word",U,Pg,XC,?_⟩⟩
 rw[aD n] at hd
 refine h dx _ (fun b u e=>?_) ?_
 ·have e1:upd H x (xO x C none) b=some u:=by rw[aD (cg e hx)];exact e
  have n1:b≠x:=cg e hx
  have n2:b≠dx:=cg e hd
  rw[off_ne n1]
  unfold Qh
  rw[aD n1,aD n2,aD n1]
  exact e1
 ·rw[off_ne n]
  exact Ot n
end
abbrev jC:Stmt:=top 3
theorem Cu:aB ZO ZO (au (inClass jC 0)):=cM
theorem Ec {f fB CB:Addr} {mc:Value} {fd fdB:Vn} (F:Fun K "__init__" "BadPledge.__init__" (inClass jC 0) f fd) (hB:mg "BoonError" = some (.ref CB)) (O:qK K CB mc "__init__" fB)
  (FB:aY P w K mg base CX0 1 fB fdB Zs (gD K)) (bB:Binds K fdB Zs []):aY P w K mg base CX0 2 f fd ZO (gF K "bad pledge"):=by
 refine okA F Cu fun H Q E hr h=>?_
 obtain⟨x,C,f,rfl,hx,XC,q⟩:=h
 exact⟨_,aC (aU (cW U hB O FB hr bB .nil lF (aj (pv 0) (a1 aQ)))),_,U,x,C,f,_,U,hx,XC,fun dx n hd=>q dx n hd⟩
abbrev um:Stmt:=top 4
theorem Eo:aB ZO ZO (au (inClass um 0)):=cM
theorem FN {f fB CB:Addr} {mc:Value} {fd fdB:Vn} (F:Fun K "__init__" "NoFolk.__init__" (inClass um 0) f fd) (hB:mg "BoonError" = some (.ref CB)) (O:qK K CB mc "__init__" fB)
  (FB:aY P w K mg base CX0 1 fB fdB Zs (gD K)) (bB:Binds K fdB Zs []):aY P w K mg base CX0 2 f fd ZO (gF K "no folk"):=by
 refine okA F Eo fun H Q E hr h=>?_
 obtain⟨x,C,f,rfl,hx,XC,q⟩:=h
 exact⟨_,aC (aU (cW U hB O FB hr bB .nil lF (aj (pv 0) (a1 aQ)))),_,U,x,C,f,_,U,hx,XC,fun dx n hd=>q dx n hd⟩
abbrev BX:Stmt:=top 5
theorem Et:aB ZO ZO (au (inClass BX 0)):=cM
theorem FP {f fB CB:Addr} {mc:Value} {fd fdB:Vn} (F:Fun K "__init__" "Gone.__init__" (inClass BX 0) f fd) (hB:mg "BoonError" = some (.ref CB)) (O:qK K CB mc "__init__" fB)
  (FB:aY P w K mg base CX0 1 fB fdB Zs (gD K)) (bB:Binds K fdB Zs []):aY P w K mg base CX0 2 f fd ZO (gF K "gone"):=by
 refine okA F Et fun H Q E hr h=>?_
 obtain⟨x,C,f,rfl,hx,XC,q⟩:=h
 exact⟨_,aC (aU (cW U hB O FB hr bB .nil lF (aj (pv 0) (a1 aQ)))),_,U,x,C,f,_,U,hx,XC,fun dx n hd=>q dx n hd⟩
abbrev lK:Stmt:=top 6
theorem Dz:aB ZO ZO (au (inClass lK 0)):=cM
theorem Ek {f fB CB:Addr} {mc:Value} {fd fdB:Vn} (F:Fun K "__init__" "NoPledge.__init__" (inClass lK 0) f fd) (hB:mg "BoonError" = some (.ref CB)) (O:qK K CB mc "__init__" fB)
  (FB:aY P w K mg base CX0 1 fB fdB Zs (gD K)) (bB:Binds K fdB Zs []):aY P w K mg base CX0 2 f fd ZO (gF K "no pledge"):=by
 refine okA F Dz fun H Q E hr h=>?_
 obtain⟨x,C,f,rfl,hx,XC,q⟩:=h
 exact⟨_,aC (aU (cW U hB O FB hr bB .nil lF (aj (pv 0) (a1 aQ)))),_,U,x,C,f,_,U,hx,XC,fun dx n hd=>q dx n hd⟩
abbrev wL:Stmt:=top 7
theorem Gw:aB ZO ZO (au (inClass wL 0)):=cM
theorem Cd {f fB CB:Addr} {mc:Value} {fd fdB:Vn} (F:Fun K "__init__" "Bound.__init__" (inClass wL 0) f fd) (hB:mg "BoonError" = some (.ref CB)) (O:qK K CB mc "__init__" fB)
  (FB:aY P w K mg base CX0 1 fB fdB Zs (gD K)) (bB:Binds K fdB Zs []):aY P w K mg base CX0 2 f fd ZO (gF K "bound"):=by
 refine okA F Gw fun H Q E hr h=>?_
 obtain⟨x,C,f,rfl,hx,XC,q⟩:=h
 exact⟨_,aC (aU (cW U hB O FB hr bB .nil lF (aj (pv 0) (a1 aQ)))),_,U,x,C,f,_,U,hx,XC,fun dx n hd=>q dx n hd⟩
abbrev Dy:Stmt:=top 10
theorem Dg:aB ZO ZO (au (inClass Dy 0)):=cM
theorem Gu {f fB CB:Addr} {mc:Value} {fd fdB:Vn} (F:Fun K "__init__" "Full.__init__" (inClass Dy 0) f fd) (hB:mg "BoonError" = some (.ref CB)) (O:qK K CB mc "__init__" fB)
  (FB:aY P w K mg base CX0 1 fB fdB Zs (gD K)) (bB:Binds K fdB Zs []):aY P w K mg base CX0 2 f fd ZO (gF K "full"):=by
 refine okA F Dg fun H Q E hr h=>?_
 obtain⟨x,C,f,rfl,hx,XC,q⟩:=h
 exact⟨_,aC (aU (cW U hB O FB hr bB .nil lF (aj (pv 0) (a1 aQ)))),_,U,x,C,f,_,U,hx,XC,fun dx n hd=>q dx n hd⟩
abbrev pF:Stmt:=top 9
theorem Ep:aB ZO ZO (au (inClass pF 0)):=cM
theorem Ej {f fB CB:Addr} {mc:Value} {fd fdB:Vn} (F:Fun K "__init__" "BadRise.__init__" (inClass pF 0) f fd) (hB:mg "BoonError" = some (.ref CB)) (O:qK K CB mc "__init__" fB)
  (FB:aY P w K mg base CX0 1 fB fdB Zs (gD K)) (bB:Binds K fdB Zs []):aY P w K mg base CX0 2 f fd ZO (gF K "bad rise"):=by
 refine okA F Ep fun H Q E hr h=>?_
 obtain⟨x,C,f,rfl,hx,XC,q⟩:=h
 exact⟨_,aC (aU (cW U hB O FB hr bB .nil lF (aj (pv 0) (a1 aQ)))),_,U,x,C,f,_,U,hx,XC,fun dx n hd=>q dx n hd⟩
abbrev tL:Stmt:=top 8
theorem Gs:aB ZO ZO (au (inClass tL 0)):=cM
theorem GX {f fB CB:Addr} {mc:Value} {fd fdB:Vn} (F:Fun K "__init__" "NotDue.__init__" (inClass tL 0) f fd) (hB:mg "BoonError" = some (.ref CB)) (O:qK K CB mc "__init__" fB)
  (FB:aY P w K mg base CX0 1 fB fdB Zs (gD K)) (bB:Binds K fdB Zs []):aY P w K mg base CX0 2 f fd ZO (gF K "not due"):=by
 refine okA F Gs fun H Q E hr h=>?_
 obtain⟨x,C,f,rfl,hx,XC,q⟩:=h
 exact⟨_,aC (aU (cW U hB O FB hr bB .nil lF (aj (pv 0) (a1 aQ)))),_,U,x,C,f,_,U,hx,XC,fun dx n hd=>q dx n hd⟩
abbrev dX:Stmt:=top 74
theorem ji:aB YN ["_law_asked"] (au dX):=cM
def twWord (K:Uw)(G:Addr):Addr->(Hp->VK->XK->Prop)->VK->Hp->Prop:=fun _ sp Q H=>sp H (fun v H2=>[V.str "told",v].length<=sizeLine/\∀ a,H2 a=none->Q (.ref a) (upd H2 a (.tup [.str "told",v]))) (XW K G "word" Q)
theorem Gb {fW G:Addr} {k:Nat} (VA:mg "BoonError" = some (.ref G)) (f:Addr) (cdv:Value) (A:UW) (outer:Fk) (s:TV) (H:Hp) (Q:VK) (j:Nat) (sp:Hp->VK->XK->Prop) (_:k=j+1)
  (hr:dF k (A.deeper (aaZ "_law_word" (au dX) s.heap.objs.size fW cdv))) (L:Py (XL P w) P w K mg base k s H (frs outer) f sp) (h:twWord K G f sp Q H) :
  ∃ t,PSs (wA CX0 P w K mg base YN "_law_word" (au dX) fW cdv A outer s H E0) (aZ dX) t/\t { nx:=fun _ H'=>Q .non H',rt:=Q } (start YN [.ref f]) H:=by
 exact⟨_,aC (Oj 1 ⟨U,U⟩ U VA ji.nd U U fun pn E W hx=>aC (Dh (bc (aj aQ (a1 (O9 L U hr hx (pv 0))))))),_,U,U,h⟩
mutual
def mnF:Tm->Fa
 | .free=>[]
 | .never=>[]
 | .gives i _=>[i]
 | .sum c _=>c
 | .crowd c _ _=>c
 | .all ts=>mnL ts
 | .any ts=>mnL ts
def mnL:List Tm->Fa
 | []=>[]
 | t::r=>mnF t++mnL r
end
theorem lR:∀ (ts us:List Tm),mnL (ts++us)=mnL ts++mnL us
 | [],us=>by rw[mnL];rfl
 | t::r,us=>by rw[abw,mnL,mnL,lR r us,aac]
theorem zq {ts:List Tm}{i:Nat}{t:Tm}(h:ts[i]? = some t):mnL (ts.take (i+1))=mnL (ts.take i)++mnF t:=by
 rw[UT,h,lR]
 show _++mnL [t]=_
 rw[mnL,mnL,WY]
theorem zc:∀ {c:Fa} {n:Nat},c.Pairwise (· < ·)->(∀ i∈c,i < n)->c.length<=n:=by
 have key:∀ (c:Fa) (a n:Nat),c.Pairwise (· < ·)->(∀ i∈c,a<=i/\i < n)->c.length<=n - a:=by
  intro c
  induction c with
  | nil=>intro a n _ _;exact U9 _
  | cons x r ih =>
   intro a n hp hb
   rw[Wm] at hp
   have hx:=hb x Uc
   have:=ih (x+1) n hp.2 fun i hi=>⟨hp.1 i hi,(hb i (Ug _ hi)).2⟩
   rw[Uj]
   lia
 intro c n hp hb
 have:=key c 0 n hp fun i hi=>⟨U9 _,hb i hi⟩
 lia
mutual
theorem JZ {n:Nat}{H:Hp}(hn:n<=12):∀ (d:Nat) {v:V} {t:Tm},gq n H v t->t.dep<=d+1->(mnF t).length<=12 * 6 ^ d
 | d,_,_,.free _,_=>by rw[mnF];exact U9 _
 | d,_,_,.never _,_=>by rw[mnF];exact U9 _
 | d,_,_,.gives _ _ _ _,_=>by
  rw[mnF]
  have:0 < 6 ^ d:=Nat.pow_pos (by decide)
  show 1<=_
  lia
 | d,_,_,.sum _ _ hc hp _ _ _ _,_=>by
  rw[mnF]
  have:=zc hp hc
  have:0 < 6 ^ d:=Nat.pow_pos (by decide)
  lia
 | d,_,_,.crowd _ _ hc hp _ _ _ _ _ _,_=>by
  rw[mnF]
  have:=zc hp hc
  have:0 < 6 ^ d:=Nat.pow_pos (by decide)
  lia
 | 0,_,_,.all (vs:=vs) (ts:=ts) _ _ l2 _ rl,hd=>by
  have:=rY rl l2
  rw[Tm.dep] at hd
  lia
 | d+1,_,_,.all (ts:=ts) _ _ _ l6 rl,hd=>by
  rw[mnF]
  rw[Tm.dep] at hd
  have h1:=yd hn d rl (by lia)
  have h2:=rl.length
  have h3:ts.length * (12 * 6 ^ d)<=6 * (12 * 6 ^ d):=Nat.mul_le_mul_right _ (by lia)
  rw[Nat.pow_succ]
  lia
 | 0,_,_,.any (vs:=vs) (ts:=ts) _ _ l2 _ rl,hd=>by
  have:=rY rl l2
  rw[Tm.dep] at hd
  lia
 | d+1,_,_,.any (ts:=ts) _ _ _ l6 rl,hd=>by
  rw[mnF]
  rw[Tm.dep] at hd
  have h1:=yd hn d rl (by lia)
  have h2:=rl.length
  have h3:ts.length * (12 * 6 ^ d)<=6 * (12 * 6 ^ d):=Nat.mul_le_mul_right _ (by lia)
  rw[Nat.pow_succ]
  lia
theorem yd {n:Nat}{H:Hp}(hn:n<=12):∀ (d:Nat) {vs:G1} {ts:List Tm},bQ n H vs ts->tdL ts<=d+1->(mnL ts).length<=ts.length * (12 * 6 ^ d)
 | d,_,_,.nil,_=>by rw[mnL];exact U9 _
 | d,_,_,.cons (ts:=ts) h r,hd=>by
  rw[tdL] at hd
  have h1:=JZ hn d h (by lia)
  have h2:=yd hn d r (by lia)
  rw[mnL,Ui,Uj,Nat.add_mul,Nat.one_mul]
  lia
theorem rY {n:Nat}{H:Hp}:∀ {vs:G1} {ts:List Tm},bQ n H vs ts->2<=vs.length->1<=tdL ts
 | _,_,.nil,h=>by simp at h
 | _,_,.cons (t:=t) _ _,_=>by
  rw[tdL]
  have:=t.lQ
  lia
end
mutual
theorem NZ {n:Nat}{H:Hp}:∀ {v:V} {t:Tm},gq n H v t->∀ i∈mnF t,i < n
 | _,_,.free _=>fun i hi=>by rw[mnF] at hi;cases hi
 | _,_,.never _=>fun i hi=>by rw[mnF] at hi;cases hi
 | _,_,.gives _ h _ _=>fun i hi=>by rw[mnF] at hi;rw[List.mem_singleton.mp hi];exact h
 | _,_,.sum _ _ hc _ _ _ _ _=>fun i hi=>by rw[mnF] at hi;exact hc i hi
 | _,_,.crowd _ _ hc _ _ _ _ _ _ _=>fun i hi=>by rw[mnF] at hi;exact hc i hi
 | _,_,.all _ _ _ _ rl=>fun i hi=>by rw[mnF] at hi;exact DN rl i hi
 | _,_,.any _ _ _ _ rl=>fun i hi=>by rw[mnF] at hi;exact DN rl i hi
theorem DN {n:Nat}{H:Hp}:∀ {vs:G1} {ts:List Tm},bQ n H vs ts->∀ i∈mnL ts,i < n
 | _,_,.nil=>fun i hi=>by rw[mnL] at hi;cases hi
 | _,_,.cons h r=>fun i hi=>by
  rw[mnL] at hi
  rcases List.mem_append.mp hi with z | z
  ·exact NZ h i z
  ·exact DN r i z
end
theorem Tu {d:Nat}(h:d<=4):12 * 6 ^ (d - 1)<=2592:=by
 have:6 ^ (d - 1)<=6 ^ 3:=Nat.pow_le_pow_right (by decide) (by lia)
 have:(6:Nat) ^ 3=216:=by decide
 lia
theorem zb {n d:Nat}{H:Hp}{v:V}{t:Tm}(hn:n<=12)(h4:d<=4)(r:gq n H v t)(hd:t.dep<=d):(mnF t).length<=2592:=by
 have:=t.lQ
 exact UL (JZ hn (d - 1) r (by lia)) (Tu h4)
theorem O7 {ts:List Tm}(i:Nat):(mnL (ts.take i)).length<=(mnL ts).length:=by
 have:=congrArg aaP (lR (ts.take i) (ts.drop i))
 rw[List.take_append_drop,Ui] at this
 lia
inductive oU (d:Nat)(vs:G1)(H:Hp)(Q:VK)(e3:XK):Prop where
 | mk (v:V) (n:Nat) (t:Tm) (_:vs=[v]) (_:gq n H v t) (_:t.dep<=d) (_:d<=4) (_:n<=12) (_:∀ (r:Addr) (H':Hp),aH H H'->H r=none->H' r=some (.lst ((mnF t).map vN))->Q (.ref r) H')
theorem DQ {ps:Fh}:aY P w K mg base CX0 0 f fd ps (oU 0):=by
 have no:∀ vs H Q E,¬ oU 0 vs H Q E:=fun vs H Q E h=>by
  obtain⟨v,n,t,_,_,h1,_⟩:=h
  have:=t.lQ
  lia
 exact⟨fun vs H Q E h=>absurd h (no vs H Q E),fun A outer s H args us vs Q E _ _ _ _ h=>absurd h (no vs H Q E)⟩
abbrev lC:Stmt:=top 28
theorem oF:aB ["term","kind"] ZT (au lC):=cM
theorem gM {d:Nat} (F:Fun K "mentions" "mentions" lC f fd) (B:Bt mg)
  (SU:Df P w K mg base "mentions" d ZT (oU d)):aY P w K mg base CX0 (d+1) f fd ZT (oU (d+1)):=by
 refine okA F oF fun H Q E hr h=>?_
 obtain⟨v,n,t,rfl,rt,hd,h4,hn,q⟩:=h
 refine⟨_,(ao (sT 1 oF.nd (pxT K (pv 0) aq))
 (ao (ifR (aK bw (pv 1) aQ) (bI (a1 (pxT K (pv 0) aq))))
 (ao (ifR (PW.pt (lO (aK bw (pv 1) aQ) (ir (aK bw (pv 1) aQ)))) (bf (r:=sV K) kh U B.list_ oG (a1 (pxT K (pv 0) aq))))
 (ao (ifR (PW.pt (lO (aK bw (pv 1) aQ) (ir (aK bw (pv 1) aQ)))) (Ht (L:=["part","one"]) (F:=[]) (cap:=[]) U (aV U U (by kernel_rfl)) (cH (pxT K (pv 0) aq)) (fun _ _ _ _ _=>(pgC 0)) (fun _ _ _ _ _=>(uv K U (aP SU hr (v1 0)))) (fun _ _ _ _ _=>(pgC 1)) (fun _ _ _ _ _=>(pv 1))))
 (sR (bI dM)))))),?_⟩
 have small':=zb hn h4 rt hd
 have parts:∀ {b:Addr} {us:G1} {ts:List Tm},H b=some (.tup us)->bQ n H us ts->tdL ts<=d->(mnL ts).length<=2592->∀ {σ':St} {D:Addr},H D=none->(∀ H2,aH H H2->H2 D=some (.lst ((mnL ts).map vN))->Q (.ref D) H2) →
   ni D [none,none] (Itt K b) (pY 0) (K4 K (GK (oU d) [] E0 (ql (Jp 0) BK))) (pY 1) (Jp 1) H (fun H2=>Q (.ref D) H2):=by
  intro b us ts hb rl hdl lm σ' D hD hq
  have el:=rl.length
  refine Dp (K:=K) (a:=b) (xs:=us) (fun i zs σ' H2=>(∃ u v,σ'=[u,v])/\aH H H2/\H2 D=some (.lst zs)/\zs=(mnL (ts.take i)).map vN) ⟨⟨_,_,U⟩,aA hD _,aa,by rw[Vp,mnL];rfl⟩ (fun i zs σ' H2 _ h=>sqT (h.2.1 _ _ hb)) ?_ ?_
  ·rintro i zs x σ' H2 hx ⟨⟨u,v,rfl⟩,sm,eD,ez⟩
   obtain⟨t',ht,rt'⟩:=rl.get hx
   refine⟨_,U,x,n,t',U,rt'.mono sm,UL (iR ht) hdl,by lia,hn,fun r H3 s3 fr er=>?_⟩
   have hrD:r≠D:=fun z=>by rw[z,eD] at fr;cases fr
   refine⟨r,U,⟨_,sqL er⟩,IW (K:=K) (b:=r) (ws:=(mnF t').map vN) (fun j ws σ' H4=>(∃ u,σ'=[some x,u])/\aH H H4/\H4 r=some (.lst ((mnF t').map vN))/\H4 D=some (.lst ws)/\ws=(mnL (ts.take i)++(mnF t').take j).map vN)
    ⟨⟨_,U⟩,sm.trans s3,er,s3 _ _ eD,by rw[Vp,WY];exact ez⟩ (fun j ws σ' H4 _ h=>sqL h.2.2.1) ?_ ?_⟩
   ·rintro j ws y σ' H4 hy ⟨⟨u,rfl⟩,s4,er4,eD4,ew⟩
    obtain⟨m,hm,rfl⟩:=uz hy
    have hlen:ws.length<=2592:=by
     have h1:=O7 (ts:=ts) (i+1)
     rw[zq ht,Ui] at h1
     rw[ew,TJ,Ui,Uo]
     lia
    refine⟨_,U,eD4,X4 hlen (by decide),⟨_,U⟩,aL s4 hD _,?_,aa,?_⟩
    ·rw[aD hrD]
     exact er4
    ·rw[ew,UT,hm,← aac]
     show _=List.map vN ((mnL (ts.take i)++(mnF t').take j)++[m])
     rw[Ub (l₁:=mnL (ts.take i)++(mnF t').take j)]
     rfl
   ·rintro ws σ' H4 ⟨⟨u,rfl⟩,s4,er4,eD4,ew⟩
    rw[TJ,Uh,← zq ht] at ew
    exact⟨⟨_,_,U⟩,s4,eD4,ew⟩
  ·rintro zs σ' H2 ⟨_,sm,eD,ez⟩
   rw[el,Uh] at ez
   exact hq H2 sm (by rw[eD,ez])
 cases rt with
 | @free a ha =>
  exact⟨_,U,a,_,_,_,U,U,sqT ha,gt0,_,U,U,_,U,bG bL ⟨_,U,U,_,U,bG bL ⟨_,U,U,_,U,bG bL ⟨_,U,U,_,U,bG bL ⟨_,U,U,_,U,bG bL ⟨smN 0,fun r h0=>q r _ (aA h0 _) h0 (by rw[aa,mnF];rfl)⟩⟩⟩⟩⟩⟩
 | @never a ha =>
  exact⟨_,U,a,_,_,_,U,U,sqT ha,gt0,_,U,U,_,U,bG bL ⟨_,U,U,_,U,bG bL ⟨_,U,U,_,U,bG bL ⟨_,U,U,_,U,bG bL ⟨_,U,U,_,U,bG bL ⟨smN 0,fun r h0=>q r _ (aA h0 _) h0 (by rw[aa,mnF];rfl)⟩⟩⟩⟩⟩⟩
 | @gives a i k ha hi k1 k9 =>
  exact⟨_,U,a,_,_,_,U,U,sqT ha,gt0,_,U,U,_,U,jR U ⟨_,U,a,_,_,_,U,U,sqT ha,gt1,smN 1,fun r h0=>q r _ (aA h0 _) h0 (by rw[aa,mnF];rfl)⟩⟩
 | @sum a b c k ha hb hc hp l20 l2 k1 k99 =>
  exact⟨_,U,a,_,_,_,U,U,sqT ha,gt0,_,U,U,_,U,bG bL ⟨_,U,U,_,U,jR U (dq ⟨_,U,a,_,_,_,U,U,sqT ha,gt1,b,_,U,.inr (sqT hb),fun r h0=>q r _ (aA h0 _) h0 (by rw[aa,mnF])⟩)⟩⟩
 | @crowd a b c k mm ha hb hc hp l20 l1 k1 k9 m1 m12 =>
  exact⟨_,U,a,_,_,_,U,U,sqT ha,gt0,_,U,U,_,U,bG bL ⟨_,U,U,_,U,bG bL ⟨_,U,U,_,U,jR U ⟨_,U,a,_,_,_,U,U,sqT ha,gt1,b,_,U,.inr (sqT hb),fun r h0=>q r _ (aA h0 _) h0 (by rw[aa,mnF])⟩⟩⟩⟩
 | @all a b us ts ha hb l2 l6 rl =>
  have hdl:tdL ts<=d:=by rw[Tm.dep] at hd;lia
  rw[mnF] at small'
  exact⟨_,U,a,_,_,_,U,U,sqT ha,gt0,_,U,U,_,U,bG bL ⟨_,U,U,_,U,bG bL ⟨_,U,U,_,U,bG bL ⟨_,U,U,_,U,jR U (dq ⟨_,U,a,_,_,_,U,U,sqT ha,gt1,b,U,⟨_,sqT hb⟩,fun D hD=>parts (σ':=[]) hb rl hdl small' hD fun H2 sm eD=>q D H2 sm hD (by rw[eD,mnF])⟩)⟩⟩⟩⟩
 | @any a b us ts ha hb l2 l6 rl =>
  have hdl:tdL ts<=d:=by rw[Tm.dep] at hd;lia
  rw[mnF] at small'
  exact⟨_,U,a,_,_,_,U,U,sqT ha,gt0,_,U,U,_,U,bG bL ⟨_,U,U,_,U,bG bL ⟨_,U,U,_,U,bG bL ⟨_,U,U,_,U,bG bL ⟨_,U,U,_,U,jR U ⟨_,U,a,_,_,_,U,U,sqT ha,gt1,b,U,⟨_,sqT hb⟩,fun D hD=>parts (σ':=[]) hb rl hdl small' hD fun H2 sm eD=>q D H2 sm hD (by rw[eD,mnF])⟩⟩⟩⟩⟩⟩
def nmI (c:Fa)(ms:E9):Prop:=ms.Perm (ddI (c.map fun i:Nat=>(i:Int)))/\ms.Pairwise (·<=·)
theorem Ea:∀ (ns acc:E9) (x:Int),x∈ns.foldl VH acc->x∈acc∨x∈ns
 | [],acc,x,h=>.inl h
 | n::r,acc,x,h=>by
  rw[Vl] at h
  rcases Ea r _ x h with z | z
  ·unfold VH at z
   split at z
   ·exact .inl z
   ·rcases List.mem_append.mp z with y | y
    ·exact .inl y
    ·rw[List.mem_singleton.mp y]
     exact .inr Uc
  ·exact .inr (Ug _ z)
theorem wD:∀ (n:Nat) (l:E9),l.Nodup->(∀ x∈l,0<=x/\x < (n:Int))->l.length<=n
 | 0,l,_,h=>by
  cases l with
  | nil=>exact U9 _
  | cons x r =>
   have:=h x Uc
   lia
 | n+1,l,nd,h=>by
  have h1:=wD n (l.erase (n:Int)) (nd.erase _) fun x hx=>by
   have hx':=List.mem_of_mem_erase hx
   have b:=h x hx'
   have ne:x≠(n:Int):=fun z=>by
    rw[z] at hx
    exact (List.Nodup.mem_erase_iff nd).mp hx |>.1 rfl
   lia
  have h2:l.length<=(l.erase (n:Int)).length+1:=by
   rw[List.length_erase]
   split <;> lia
  lia
theorem PL {c:Fa}{n:Nat}(h:∀ i∈c,i < n):(ddI (c.map fun i:Nat=>(i:Int))).length<=n:=by
 rw[vW]
 refine wD n _ (sI _ [] List.nodup_nil) fun x hx=>?_
 rcases Ea _ [] x hx with z | z
 ·cases z
 ·obtain⟨i,hi,rfl⟩:=List.mem_map.mp z
  have:=h i hi
  lia
abbrev xF:Stmt:=top 29
theorem HF:aB ZT ZT (au xF):=cM
inductive Fl (vs:G1)(H:Hp)(Q:VK)(e3:XK):Prop where
 | mk (v:V) (n:Nat) (t:Tm) (_:vs=[v]) (_:gq n H v t) (_:t.dep<=4) (_:n<=12) (_:∀ (r:Addr) (ms:E9) (H':Hp),aH H H'->H r=none->nmI (mnF t) ms->H' r=some (.lst (ms.map V.int))->Q (.ref r) H')
theorem Jl {k:Nat} (F:Fun K "named" "named" xF f fd) (B:Bt mg)
  (SU:Df P w K mg base "mentions" k ZT (oU 4)):aY P w K mg base CX0 (k+1) f fd ZT Fl:=by
 refine okA F HF fun H Q E hr h=>?_
 obtain⟨v,n,t,rfl,rt,hd,hn,q⟩:=h
 refine⟨_,(sR (mq U U B.sorted_ U B.set_ (a1 (aP SU hr (v1 0))))),_,U,v,n,t,U,rt,hd,by decide,hn,fun r H1 s1 fr er=>?_⟩
 have lm:=zb hn (T6 4) rt hd
 have ld:=PL (NZ rt)
 refine⟨r,(mnF t).map fun i:Nat=>(i:Int),U,sqL (by rw[er,lB]),by rw[TJ];lia,by lia,fun ms pm so l hl=>?_⟩
 exact q l ms _ (s1.trans (aA hl _)) (s1.free hl) ⟨pm,so⟩ aa
abbrev jz:Stmt:=top 15
abbrev lV:Stmt:=top 21
abbrev jE:Stmt:=top 22
abbrev dH:Stmt:=top 23
abbrev n8:Stmt:=top 24
theorem uM:aB Yf Yf (au jz):=cM
theorem gQ:aB ["many","thing","fewest","lowest_left","one"] XY (au lV):=cM
theorem uH:aB X2 X2 (au jE):=cM
theorem f9:aB ["many","thing","deep","kind"] X2 (au dH):=cM
theorem Ad:aB ZA ZA (au n8):=cM
def isNum:V->Int->Int->Bool
 | .int i,lo,hi=>decide (lo<=i) && decide (i<=hi)
 | _,_,_=>false
inductive NV:V->Prop where
 | int (i:Int):NV (.int i)
 | str (x:Ut):NV (.str x)
inductive fU (vs:G1)(H:Hp)(Q:VK)(e3:XK):Prop where
 | mk (x:V) (lo hi:Int) (_:vs=[x,.int lo,.int hi]) (_:NV x) (_:Q (.bl (isNum x lo hi)) H)
theorem vg (F:Fun K "is_number" "is_number" jz f fd) (B:Bt mg) :
  aY P w K mg base CX0 1 f fd Yf fU:=by
 refine okA F uM fun H Q E hr h=>?_
 obtain⟨x,lo,hi,rfl,pl,q⟩:=h
 refine⟨_,(sR (dJ (aJ (r:=uA K) bM U B.isinstance_ aO (aj (pv 0) (a1 (iD B.int_ vU)))) (dJ (O2 (aJ (r:=uA K) bM U B.isinstance_ aO (aj (pv 0) (a1 (iD B.bool_ yE))))) (dJ (cD Ol (pv 1) (pv 0)) (iM (cD Ol (pv 0) (pv 2))))))),?_⟩
 cases pl with
 | int i =>
  refine⟨_,U,_,_,_,_,U,.int i,dD _ _,_,U,dq ⟨_,U,_,_,_,_,U,.int i,jD _,_,U,_,U,dq ⟨_,U,_,U,_,_,U,U,_,U,?_⟩⟩⟩
  have e:isNum (.int i) lo hi=(decide (lo<=i) && decide (i<=hi)):=rfl
  rw[e] at q
  cases c:decide (lo<=i) with
  | true =>
   rw[c] at q
   exact dq ⟨_,U,_,U,_,_,U,U,q⟩
  | false =>
   rw[c] at q
   exact bZ q
 | str y=>exact⟨_,U,_,_,_,_,U,.str y,Ai _,_,U,bZ q⟩
theorem iW {k lo hi:Int}(h1:lo<=k)(h2:k<=hi):isNum (.int k) lo hi=true:=by
 show (decide (lo<=k) && decide (k<=hi))=true
 rw[dcT h1,dcT h2]
 rfl
theorem zx {i m:Nat}{lo:Int}(h:lo<=(i:Int)):isNum (.int (i:Int)) lo ((m:Int) - 1)=decide (i < m):=by
 show (decide (lo<=(i:Int)) && decide ((i:Int)<=(m:Int) - 1))=decide (i < m)
 rw[dcT h,YW]
 exact decide_eq_decide.mpr ⟨fun z=>by lia,fun z=>by lia⟩
def ltF (m:Nat)(c:Fa):Bool:=c.all fun i=>decide (i < m)
theorem Cp (m:Nat)(a b:Fa):ltF m (a++b)=(ltF m a && ltF m b):=List.all_append
theorem Fe {m:Nat}{c:Fa}:ltF m c=true ↔ ∀ i∈c,i < m:=by
 unfold ltF
 rw[List.all_eq_true]
 exact⟨fun h i hi=>of_decide_eq_true (h i hi),fun h i hi=>dcT (h i hi)⟩
theorem Qp {m i:Nat}{c:Fa}(h:i∈c)(hm:¬ i < m):ltF m c=false:=by
 cases e:ltF m c with
 | false=>rfl
 | true=>exact absurd (Fe.mp e i h) hm
inductive JV (vs:G1)(H:Hp)(Q:VK)(e3:XK):Prop where
 | mk (b:Addr) (c:Fa) (m:Nat) (few:Int) (_:vs=[.int (m:Int),.ref b,.int few]) (_:H b=some (.tup (c.map vN))) (_:c.Pairwise (· < ·)) (_:few<=(c.length:Int)) (_:Q (.bl (ltF m c)) H)
theorem yG (F:Fun K "is_crowd" "is_crowd" lV f fd) (B:Bt mg)
  (Sm:Df P w K mg base "is_number" 1 Yf fU):aY P w K mg base CX0 2 f fd XY JV:=by
 refine okA F gQ fun H Q E hr h=>?_
 obtain⟨b,c,m,few,rfl,hb,hp,hf,q⟩:=h
 refine⟨_,(ao (ifR (PW.pt (lO (dG (bV (aJ (r:=uA K) bM U B.isinstance_ aO (aj (pv 1) (a1 (iD B.tuple_ bC)))))) (ir (aK yr (pln K B.len_ (pv 1)) (pv 2))))) iw)
 (ao (sT 3 gQ.nd aq)
 (ao (dC Vu U (cH (pv 1)) (pgN 4 gQ.nd) (ao (ifR (dG (bV (aP Sm hr (aj (pv 4) (aj (pv 3) (a1 (aM fG (pv 0) aq))))))) iw)
 (aC (sT 3 gQ.nd (aM bA (pv 4) aq)))))
 (sR iw)))),?_⟩
 refine⟨_,U,_,_,_,_,U,.tup hb,dD _ _,_,U,bZ ⟨_,U,b,_,U,.inr (sqT hb),_,U,_,_,U,U,_,U,?_⟩⟩
 refine bG (by rw[TJ];lia) ?_
 refine⟨_,U,b,U,⟨_,sqT hb⟩,kZ (K:=K) (a:=b) (xs:=c.map vN) (fun i σ H2=>H2=H/\∃ (lo:Int) (u:GU),σ=[some (.int (m:Int)),oR b,oI few,oI lo,u]/\(∀ x∈c.drop i,lo<=((x:Nat):Int))/\ltF m (c.take i)=true) ⟨U,0,_,U,fun x _=>by lia,by rw[Vp];rfl⟩ (fun i σ H2 _ h2=>by rw[h2.1];exact sqT hb) ?_ ?_⟩
 ·rintro i x σ H2 hx ⟨rfl,lo,u,rfl,hlo,hlt⟩
  obtain⟨y,hy,rfl⟩:=uz hx
  have hi:i < c.length:=(geS hy).1
  have ey:c[i]=y:=(geS hy).2
  have ed:c.drop i=y::c.drop (i+1):=by rw[YG hi,ey]
  have hl:=hlo y (by rw[ed];exact Uc)
  refine⟨_,U,_,U,_,U,_,_,U,U,vN y,lo,(m:Int) - 1,U,.int _,_,U,?_⟩
  rw[show vN y=V.int (y:Int) from U,zx hl]
  by_cases hm:y < m
  ·rw[dcT hm]
   refine bZ ⟨_,U,_,_,U,U,U,(y:Int)+1,_,U,fun x hx=>?_,?_⟩
   ·have h1:=hp.drop (i:=i)
    rw[ed,Wm] at h1
    have:=h1.1 x hx
    lia
   ·rw[UT,hy,Cp,hlt,YW]
    show (decide (y < m) && true)=true
    rw[dcT hm]
    rfl
  ·rw[dcF hm]
   refine dq ?_
   rw[Qp (UJ hy) hm] at q
   exact q
 ·rintro σ H2 ⟨rfl,lo,u,rfl,hlo,hlt⟩
  rw[TJ,Uh] at hlt
  rw[hlt] at q
  exact q
theorem ne0 {n:Nat}(h:n≠0):¬ V.int (n:Int)=V.int 0:=fun z=>h (by injection z with z;lia)
inductive jb (k:Nat)(vs:G1)(H:Hp)(Q:VK)(e3:XK):Prop where
 | mk (v:V) (m dp:Nat) (_:vs=[.int (m:Int),v,.int (dp:Int)]) (_:1<=dp) (_:dp<=k) (_:((∃ (n:Nat) (t:Tm),gq n H v t/\t.dep<=dp/\∀ H',aH H H'->Q (.bl (ltF m (mnF t))) H')∨(∃ e:Addr,v = .ref e/\H e=some (.tup [])/\Q (.bl false) H)))
inductive FQ (k:Nat)(vs:G1)(H:Hp)(Q:VK)(e3:XK):Prop where
 | mk (b:Addr) (us:G1) (ts:List Tm) (n m dp:Nat) (_:vs=[.int (m:Int),.ref b,.int (dp:Int)]) (_:dp<=k) (_:H b=some (.tup us)) (_:2<=us.length) (_:us.length<=6) (_:bQ n H us ts) (_:tdL ts<=dp) (_:1<=dp) (_:∀ H',aH H H'->Q (.bl (ltF m (mnL ts))) H')
theorem DG (m:Nat):∀ ts:List Tm,(ts.map fun t=>ltF m (mnF t)).all (fun b=>b)=ltF m (mnL ts)
 | []=>by rw[mnL];rfl
 | t::r=>by
  have ih:=DG m r
  rw[mnL,Cp,← ih]
  rfl
theorem fH {n k:Nat} {t1 t2:Tok} (F:Fun K "are_parts" "are_parts" jE f fd) (B:Bt mg) (UI:mg "FEWEST_PARTS" = some (.int 2 t1)) (UN:mg "MOST_PARTS" = some (.int 6 t2))
  (hk:1<=k) (Sm:Df P w K mg base "is_number" 1 Yf fU) (Sz:Df P w K mg base "is_term_within" k X2 (jb n)):aY P w K mg base CX0 (k+1) f fd X2 (FQ n):=by
 refine okA F uH fun H Q E hr h=>?_
 obtain⟨b,us,ts,n0,m,dp,rfl,hdp,hb,l2,l6,rl,hd,d1,q⟩:=h
 refine⟨_,(ao (ifR (PW.pt (lO (dG (bV (aJ (r:=uA K) bM U B.isinstance_ aO (aj (pv 1) (a1 (iD B.tuple_ bC)))))) (ir (dG (bV (aP Sm hr (aj (pln K B.len_ (pv 1)) (aj (mR UI) (a1 (mR UN)))))))))) iw)
 (sR (aJ (r:=Jx K) (pN U) U B.all_ El (a1 (bj (L:=["part"]) (F:=["many","deep"]) (cap:=[0,2]) U (aV U U (by kernel_rfl)) (cH (pv 1)) (fun _ _ _ _ _=>(pgC 0)) (fun _ _ _ _ _=>bF) (fun _ _ _ _ _=>(aP Sz hr (aj (pv 1) (v2 0 2))))))))),?_⟩
 have el:=rl.length
 refine⟨_,U,_,_,_,_,U,.tup hb,dD _ _,_,U,bZ ⟨_,U,b,_,U,.inr (sqT hb),.int (us.length:Int),2,6,U,.int _,_,U,?_⟩⟩
 rw[iW (by lia) (by lia)]
 refine bZ ⟨_,U,b,U,⟨_,sqT hb⟩,fun D hD=>bU (K:=K) (a:=b) (xs:=us) (fun i zs σ' H2=>(∃ u,σ'=[u,some (.int (m:Int)),some (.int (dp:Int))])/\zs=((ts.take i).map fun t=>ltF m (mnF t)).map V.bl/\aH H H2/\H2 D=some (.lst zs))
  ⟨⟨_,U⟩,U,aA hD _,aa⟩ (fun i zs σ' H2 _ h2=>⟨eV h2.2.2.1 (sqT hb),h2.2.2.2⟩) ?_ ?_⟩
 ·rintro i zs x σ' H2 hx ⟨⟨u,rfl⟩,e1,sm,hDl⟩
  have hi:i < us.length:=(geS hx).1
  obtain⟨t,ht,rt⟩:=rl.get hx
  refine gT ?_
  refine⟨_,U,_,U,_,U,x,m,dp,U,d1,hdp,.inl ⟨n0,t,rt.mono sm,UL (iR ht) hd,fun H3 s3=>⟨s3 _ _ hDl,?_,⟨_,U⟩,?_,aL (sm.trans s3) hD _,aa⟩⟩⟩
  ·rw[e1,TJ,TJ,Uo]
   exact aF (by lia)
  ·rw[e1,UT,ht,Ub,Ub]
   rfl
 ·rintro zs σ' H2 ⟨_,e1,sm,hDl⟩
  rw[el,Uh] at e1
  refine⟨D,ts.map fun t=>ltF m (mnF t),U,sqL (by rw[hDl,e1]),?_⟩
  rw[DG]
  exact q H2 sm
theorem yK:aY P w K mg base CX0 1 f fd X2 (jb 0):=by
 have no:∀ vs H Q E,¬ jb 0 vs H Q E:=fun vs H Q E h=>by
  obtain⟨v,m,dp,_,h1,h2,_⟩:=h
  lia
 exact⟨fun vs H Q E h=>absurd h (no vs H Q E),fun A outer s H args us vs Q E _ _ _ _ h=>absurd h (no vs H Q E)⟩
theorem cG {n k:Nat} {t1 t2 t3:Tok} (F:Fun K "is_term_within" "is_term_within" dH f fd) (B:Bt mg)
  (UQ:mg "MOST_STEP" = some (.int 9 t1)) (UR:mg "MOST_SUM" = some (.int 99 t2)) (UM:mg "MOST_FOLK" = some (.int 12 t3)) (hk:2<=k) (Sm:Df P w K mg base "is_number" 1 Yf fU) (Sl:Df P w K mg base "is_crowd" 2 XY JV)
  (RU:Df P w K mg base "are_parts" k X2 (FQ n)):aY P w K mg base CX0 (k+1) f fd X2 (jb (n+1)):=by
 refine okA F f9 fun H Q E hr h=>?_
 obtain⟨v,m,dp,rfl,d1,dk,h⟩:=h
 refine⟨_,(ao (ifR (PW.pt (lO (aK yr (pv 2) aq) (lO (dG (bV (aJ (r:=uA K) bM U B.isinstance_ aO (aj (pv 1) (a1 (iD B.tuple_ bC)))))) (ir (aK bw (pln K B.len_ (pv 1)) aq))))) iw)
 (ao (sT 3 f9.nd (pxT K (pv 1) aq))
 (ao (ifR (PW.pt (lO (aK bw (pv 3) aQ) (ir (aK bw (pv 3) aQ)))) (cD bw (pln K B.len_ (pv 1)) aq))
 (ao (ifR (aK bw (pv 3) aQ) (dJ (cD bw (pln K B.len_ (pv 1)) aq) (dJ (aP Sm hr (aj (pxT K (pv 1) aq) (aj aq (a1 (aM fG (pv 0) aq))))) (iM (aP Sm hr (aj (pxT K (pv 1) aq) (aj aq (a1 (mR UQ)))))))))
 (ao (ifR (aK bw (pv 3) aQ) (dJ (cD bw (pln K B.len_ (pv 1)) aq) (dJ (aP Sl hr (aj (pv 0) (aj (pxT K (pv 1) aq) (a1 aq)))) (iM (aP Sm hr (aj (pxT K (pv 1) aq) (aj aq (a1 (mR UR)))))))))
 (ao (c7 (aK bw (pv 3) aQ) (ao (ifR (PW.pt (lO (aK Aq (pln K B.len_ (pv 1)) aq) (ir (dG (bV (aP Sl hr (aj (pv 0) (aj (pxT K (pv 1) aq) (a1 aq))))))))) iw)
 (sR (dJ (aP Sm hr (aj (pxT K (pv 1) aq) (aj aq (a1 (mR UQ))))) (iM (aP Sm hr (aj (pxT K (pv 1) aq) (aj aq (a1 (mR UM))))))))) bh)
 (ao (ifR (PW.pt (lO (aK bw (pv 3) aQ) (ir (aK bw (pv 3) aQ)))) (dJ (cD bw (pln K B.len_ (pv 1)) aq) (iM (aP RU hr (aj (pv 0) (aj (pxT K (pv 1) aq) (a1 (aM fG (pv 2) aq))))))))
 (sR iw)))))))),?_⟩
 refine⟨_,U,_,_,U,U,_,U,bG (by lia) ?_⟩
 rcases h with⟨n0,t,rt,hd,q⟩ | ⟨e,rfl,he,q⟩
 ·have q0:=q H (aH.refl H)
  cases rt with
  | @free a ha =>
   refine⟨_,U,_,_,_,_,U,.tup ha,dD _ _,_,U,bZ ⟨_,U,a,_,U,.inr (sqT ha),U,_,U,bG (ne0 (XM _)) ⟨_,U,a,_,_,_,U,U,sqT ha,gt0,⟨_,U,U,_,U,jR U (dq ?_)⟩⟩⟩⟩
   rw[mnF] at q0
   exact⟨_,U,a,_,U,.inr (sqT ha),U,q0⟩
  | @never a ha =>
   refine⟨_,U,_,_,_,_,U,.tup ha,dD _ _,_,U,bZ ⟨_,U,a,_,U,.inr (sqT ha),U,_,U,bG (ne0 (XM _)) ⟨_,U,a,_,_,_,U,U,sqT ha,gt0,⟨_,U,U,_,U,bG bL ⟨_,U,U,_,U,jR U ?_⟩⟩⟩⟩⟩
   rw[mnF] at q0
   exact⟨_,U,a,_,U,.inr (sqT ha),U,q0⟩
  | @gives a i kk ha hi k1 k9 =>
   refine⟨_,U,_,_,_,_,U,.tup ha,dD _ _,_,U,bZ ⟨_,U,a,_,U,.inr (sqT ha),U,_,U,bG (ne0 (XM _)) ⟨_,U,a,_,_,_,U,U,sqT ha,gt0,⟨_,U,U,_,U,bG bL ⟨_,U,U,_,U,bG bL ⟨_,U,U,_,U,jR U ⟨_,U,a,_,U,.inr (sqT ha),U,_,U,jR U ⟨_,U,a,_,_,_,U,U,sqT ha,gt1,_,U,_,_,U,U,vN i,0,(m:Int) - 1,U,.int _,_,U,?_⟩⟩⟩⟩⟩⟩⟩⟩
   rw[show vN i=V.int (i:Int) from U,zx (by lia)]
   rw[mnF] at q0
   have e:ltF m [i]=decide (i < m):=by
    show (decide (i < m) && true)=_
    rw[Bool.and_true]
   rw[e] at q0
   refine wI (fun c=>?_) (fun c=>?_)
   ·rw[c] at q0
    refine⟨_,U,a,_,_,_,U,U,sqT ha,gt2,.int kk,1,9,U,.int _,?_⟩
    rw[iW k1 k9]
    exact q0
   ·rw[Bool.eq_false_iff.mpr c] at q0
    exact q0
  | @sum a b c kk ha hb hc hp l20 l2 k1 k99 =>
   refine⟨_,U,_,_,_,_,U,.tup ha,dD _ _,_,U,bZ ⟨_,U,a,_,U,.inr (sqT ha),U,_,U,bG (ne0 (XM _)) ⟨_,U,a,_,_,_,U,U,sqT ha,gt0,⟨_,U,U,_,U,bG bL ⟨_,U,U,_,U,bG bL ⟨_,U,U,_,U,bG bL ⟨_,U,U,_,U,jR U ⟨_,U,a,_,U,.inr (sqT ha),U,_,U,jR U ⟨_,U,_,U,a,_,_,_,U,U,sqT ha,gt1,b,c,m,2,U,hb,hp,by lia,_,U,?_⟩⟩⟩⟩⟩⟩⟩⟩⟩
   rw[mnF] at q0
   refine wI (fun c=>?_) (fun c=>?_)
   ·rw[c] at q0
    refine⟨_,U,a,_,_,_,U,U,sqT ha,gt2,.int kk,1,99,U,.int _,?_⟩
    rw[iW k1 k99]
    exact q0
   ·rw[Bool.eq_false_iff.mpr c] at q0
    exact q0
  | @crowd a b c kk mm ha hb hc hp l20 l1 k1 k9 m1 m12 =>
   refine⟨_,U,_,_,_,_,U,.tup ha,dD _ _,_,U,bZ ⟨_,U,a,_,U,.inr (sqT ha),U,_,U,bG (ne0 (XM _)) ⟨_,U,a,_,_,_,U,U,sqT ha,gt0,⟨_,U,U,_,U,bG bL ⟨_,U,U,_,U,bG bL ⟨_,U,U,_,U,bG bL ⟨_,U,U,_,U,bG bL ⟨_,U,U,_,U,jR U ⟨_,U,a,_,U,.inr (sqT ha),U,_,U,qg U ⟨_,U,_,U,a,_,_,_,U,U,sqT ha,gt1,b,c,m,1,U,hb,hp,by lia,_,U,?_⟩⟩⟩⟩⟩⟩⟩⟩⟩⟩
   rw[mnF] at q0
   cases z:ltF m c with
   | false =>
    rw[z] at q0
    exact dq q0
   | true =>
    rw[z] at q0
    refine bZ ⟨_,U,a,_,_,_,U,U,sqT ha,gt2,.int kk,1,9,U,.int _,_,U,?_⟩
    rw[iW k1 k9]
    refine dq ⟨_,U,a,_,_,_,U,U,sqT ha,eO (k:=3) U,.int mm,1,12,U,.int _,?_⟩
    rw[iW m1 m12]
    exact q0
  | @all a b us ts ha hb l2 l6 rl =>
   have hdl:tdL ts+1<=dp:=by rw[Tm.dep] at hd;exact hd
   have t1:=rY rl l2
   refine⟨_,U,_,_,_,_,U,.tup ha,dD _ _,_,U,bZ ⟨_,U,a,_,U,.inr (sqT ha),U,_,U,bG (ne0 (XM _)) ⟨_,U,a,_,_,_,U,U,sqT ha,gt0,⟨_,U,U,_,U,bG bL ⟨_,U,U,_,U,bG bL ⟨_,U,U,_,U,bG bL ⟨_,U,U,_,U,bG bL ⟨_,U,U,_,U,bG bL ⟨_,U,U,_,U,jR U (dq ⟨_,U,a,_,U,.inr (sqT ha),U,_,U,jR U ⟨_,U,_,U,a,_,_,_,U,U,sqT ha,gt1,_,U,_,_,U,U,b,us,ts,n0,m,dp - 1,?_,by lia,hb,l2,l6,rl,by lia,by lia,fun H' s'=>?_⟩⟩)⟩⟩⟩⟩⟩⟩⟩⟩⟩
   ·rw[show ((dp - 1:Nat):Int)=(dp:Int) - 1 by lia]
    rfl
   ·have q1:=q H' s'
    rw[mnF] at q1
    exact q1
  | @any a b us ts ha hb l2 l6 rl =>
   have hdl:tdL ts+1<=dp:=by rw[Tm.dep] at hd;exact hd
   have t1:=rY rl l2
   refine⟨_,U,_,_,_,_,U,.tup ha,dD _ _,_,U,bZ ⟨_,U,a,_,U,.inr (sqT ha),U,_,U,bG (ne0 (XM _)) ⟨_,U,a,_,_,_,U,U,sqT ha,gt0,⟨_,U,U,_,U,bG bL ⟨_,U,U,_,U,bG bL ⟨_,U,U,_,U,bG bL ⟨_,U,U,_,U,bG bL ⟨_,U,U,_,U,bG bL ⟨_,U,U,_,U,bG bL ⟨_,U,U,_,U,jR U ⟨_,U,a,_,U,.inr (sqT ha),U,_,U,jR U ⟨_,U,_,U,a,_,_,_,U,U,sqT ha,gt1,_,U,_,_,U,U,b,us,ts,n0,m,dp - 1,?_,by lia,hb,l2,l6,rl,by lia,by lia,fun H' s'=>?_⟩⟩⟩⟩⟩⟩⟩⟩⟩⟩⟩⟩
   ·rw[show ((dp - 1:Nat):Int)=(dp:Int) - 1 by lia]
    rfl
   ·have q1:=q H' s'
    rw[mnF] at q1
    exact q1
 ·refine⟨_,U,_,_,_,_,U,.tup he,dD _ _,_,U,bZ ⟨_,U,e,_,U,.inr (sqT he),U,_,U,jR U q⟩⟩
inductive zP (vs:G1)(H:Hp)(Q:VK)(e3:XK):Prop where
 | mk (v:V) (m:Nat) (_:vs=[.int (m:Int),v]) (_:((∃ (n:Nat) (t:Tm),gq n H v t/\t.dep<=4/\∀ H',aH H H'->Q (.bl (ltF m (mnF t))) H')∨(∃ e:Addr,v = .ref e/\H e=some (.tup [])/\Q (.bl false) H)))
theorem Bd {k:Nat} {t1:Tok} (F:Fun K "is_term" "is_term" n8 f fd) (B:Bt mg) (UK:mg "MOST_DEPTH" = some (.int 4 t1))
  (Sz:Df P w K mg base "is_term_within" k X2 (jb 4)):aY P w K mg base CX0 (k+1) f fd ZA zP:=by
 refine okA F Ad fun H Q E hr h=>?_
 obtain⟨v,m,rfl,h⟩:=h
 exact⟨_,(sR (aP Sz hr (aj (pv 0) (aj (pv 1) (a1 (mR UK)))))),_,U,_,U,v,m,4,U,by decide,by decide,h⟩
inductive Rg where
 | rung (k:Int) (t:Tm) | bad
inductive jx (n:Nat)(H:Hp):V->Rg->Prop where
 | rung {r:Addr} {k:Int} {v:V} {t:Tm}:H r=some (.tup [.int k,v])->gq n H v t->t.dep<=4->jx n H (.ref r) (.rung k t)
 | odd {r:Addr} {xs:G1}:H r=some (.tup xs)->xs.length≠2->jx n H (.ref r) .bad
 | text {r:Addr} {x:Ut} {v:V}:H r=some (.tup [.str x,v])->jx n H (.ref r) .bad
 | hollow {r e:Addr} {k:Int}:H r=some (.tup [.int k,.ref e])->H e=some (.tup [])->jx n H (.ref r) .bad
theorem jx.aN {n:Nat}{H H':Hp}{v:V}{g:Rg}(e:∀ a xs,H a=some (HO.tup xs)->H' a=some (HO.tup xs)):jx n H v g->jx n H' v g
 | .rung h t d=>.rung (e _ _ h) (t.aN e) d
 | .odd h l=>.odd (e _ _ h) l
 | .text h=>.text (e _ _ h)
 | .hollow h h2=>.hollow (e _ _ h) (e _ _ h2)
theorem jx.mono {n:Nat}{H H':Hp}{v:V}{g:Rg}(e:aH H H')(h:jx n H v g):jx n H' v g:=h.aN fun a xs q=>e a _ q
inductive jF (n:Nat)(H:Hp):G1->List Rg->Prop where
 | nil:jF n H [] []
 | cons {v:V} {g:Rg} {vs:G1} {gs:List Rg}:jx n H v g->jF n H vs gs->jF n H (v::vs) (g::gs)
theorem jF.aN {n:Nat}{H H':Hp}(e:∀ a xs,H a=some (HO.tup xs)->H' a=some (HO.tup xs)):∀ {vs:G1} {gs:List Rg},jF n H vs gs->jF n H' vs gs
 | _,_,.nil=>.nil
 | _,_,.cons h r=>.cons (h.aN e) (jF.aN e r)
theorem jF.length {n:Nat}{H:Hp}:∀ {vs:G1} {gs:List Rg},jF n H vs gs->vs.length=gs.length
 | _,_,.nil=>rfl
 | _,_,.cons _ r=>by rw[Uj,Uj,jF.length r]
theorem jF.get {n:Nat}{H:Hp}:∀ {vs:G1} {gs:List Rg} {i:Nat} {v:V},jF n H vs gs->vs[i]? = some v->∃ g,gs[i]? = some g/\jx n H v g
 | _,_,_,_,.nil,h=>by simp at h
 | _,_,0,_,.cons h _,e=>by
  cases (show some _=some _ from e)
  exact⟨_,U,h⟩
 | _,_,i+1,_,.cons _ r,e=>by
  obtain⟨g,e1,e2⟩:=jF.get (i:=i) r (by simpa using e)
  exact⟨g,by simpa using e1,e2⟩
def rgF (m who:Nat)(lo:Int):Rg->Bool
 | .rung k t=>(decide (lo<=k) && decide (k<=9)) && (ltF m (mnF t) && !decide (who∈mnF t))
 | .bad=>false
def rgK:Rg->Int
 | .rung k _=>k
 | .bad=>0
def plF (m who:Nat):Int->List Rg->Bool
 | _,[]=>true
 | lo,g::r=>rgF m who lo g && plF m who (rgK g+1) r
def Nv (m who:Nat)(gs:List Rg):Bool:=(decide (1<=gs.length) && decide (gs.length<=9)) && plF m who 1 gs
theorem zE (x:Int):∀ ns:E9,inV (.int x) (ns.map V.int)=decide (x∈ns)
 | []=>by rw[dcF (by simp)];rfl
 | n::r=>by
  have ih:=zE x r
  show (eqV (.int n) (.int x) || inV (.int x) (r.map V.int))=_
  rw[ih]
  have e:eqV (.int n) (.int x)=(n == x):=rfl
  rw[e,ZJ]
  simp only[Y7,decide_eq_true_eq,Wb,beq_iff_eq]
  exact⟨fun h=>h.elim (fun z=>.inl z.symm) .inr,fun h=>h.elim (fun z=>.inl z.symm) .inr⟩
theorem Ou {c:Fa}{ms:E9}(h:nmI c ms)(x:Nat):(x:Int)∈ms ↔ x∈c:=by
 obtain⟨p,_⟩:=h
 rw[p.mem_iff,vW,zX]
 constructor
 ·rintro (h | h)
  ·cases h
  ·obtain⟨y,hy,e⟩:=List.mem_map.mp h
   have:x=y:=by lia
   rw[this]
   exact hy
 ·exact fun h=>.inr (List.mem_map.mpr ⟨x,h,U⟩)
theorem Ii (ns:E9):(ns.map V.int).all qx=true:=by
 rw[abl]
 exact List.all_eq_true.mpr fun _ _=>U
abbrev oY:Stmt:=top 32
abbrev jH:Stmt:=top 33
theorem kI:aB ["many","one","thing","lowest_step","step","term"] WZ (au oY):=cM
theorem fK:aB ["many","one","thing","lowest_step","rung"] YA (au jH):=cM
inductive yO (vs:G1)(H:Hp)(Q:VK)(e3:XK):Prop where
 | mk (v:V) (g:Rg) (n m who:Nat) (lo:Int) (_:vs=[.int (m:Int),.int (who:Int),v,.int lo]) (_:jx n H v g) (_:n<=12) (_:∀ H',aH H H'->Q (.bl (rgF m who lo g)) H')
theorem ne2 {n:Nat}(h:n≠2):(!decide (V.int (n:Int)=V.int 2))=true:=by
 rw[dcF fun z=>h (by injection z with z;lia)]
 rfl
theorem Bx {k:Nat} {t1:Tok} (F:Fun K "is_rung" "is_rung" oY f fd) (B:Bt mg) (UQ:mg "MOST_STEP" = some (.int 9 t1)) (hk:5<=k)
  (Sm:Df P w K mg base "is_number" 1 Yf fU) (Sr:Df P w K mg base "is_term" k ZA zP) (SV:Df P w K mg base "named" 5 ZT Fl):aY P w K mg base CX0 (k+1) f fd WZ yO:=by
 refine okA F kI fun H Q E hr h=>?_
 obtain⟨v,g,n,m,who,lo,rfl,rg,hn,q⟩:=h
 refine⟨_,(ao (ifR (PW.pt (lO (dG (bV (aJ (r:=uA K) bM U B.isinstance_ aO (aj (pv 2) (a1 (iD B.tuple_ bC)))))) (ir (aK Aq (pln K B.len_ (pv 2)) aq)))) iw)
 (ao (Kl (pv 2) (dZ (K:=K) 2 U U (aR (pgN 4 kI.nd) (aR (pgN 5 kI.nd) eF))))
 (sR (dJ (aP Sm hr (aj (pv 4) (aj (pv 3) (a1 (mR UQ))))) (dJ (aP Sr hr (v2 0 5)) (iM (Dw (r:=rIn K true) vh (pv 1) (aP SV hr (v1 5)) U))))))),?_⟩
 have q0:=q H (aH.refl H)
 cases rg with
 | @rung r kk u t hr0 rt hd =>
  refine⟨_,U,_,_,_,_,U,.tup hr0,dD _ _,_,U,bZ ⟨_,U,r,_,U,.inr (sqT hr0),U,_,U,qg U ⟨_,U,r,_,U,sqT hr0,U,_,_,U,_,_,U,U,⟨_,U,_,U,.int kk,lo,9,U,.int _,_,U,?_⟩⟩⟩⟩
  have er:rgF m who lo (.rung kk t)=(isNum (.int kk) lo 9 && (ltF m (mnF t) && !decide (who∈mnF t))):=rfl
  rw[er] at q q0
  refine wI (fun c=>?_) (fun c=>?_)
  ·rw[c,YW] at q
   refine⟨_,U,_,U,u,m,U,.inl ⟨n,t,rt,hd,fun H1 s1=>⟨_,U,?_⟩⟩⟩
   refine wI (fun c2=>?_) (fun c2=>?_)
   ·rw[c2,YW] at q
    refine⟨_,U,_,U,u,n,t,U,rt.mono s1,hd,hn,fun r1 ms H2 s2 f2 nm e2=>⟨r1,_,U,.inl (sqL e2),U,Ii ms,?_⟩⟩
    have q':=q H2 (s1.trans s2)
    rw[show (decide (who∈mnF t))=inV (.int (who:Int)) (ms.map V.int) by rw[zE];exact decide_eq_decide.mpr (Ou nm who).symm] at q'
    exact q'
   ·have q':=q H1 s1
    rw[Bool.eq_false_iff.mpr c2,Yx] at q'
    exact q'
  ·rw[Bool.eq_false_iff.mpr c,Yx] at q0
   exact q0
 | @odd r xs hr0 hl =>
  exact⟨_,U,_,_,_,_,U,.tup hr0,dD _ _,_,U,bZ ⟨_,U,r,_,U,.inr (sqT hr0),U,_,U,Pz (ne2 hl) q0⟩⟩
 | @text r x u hr0 =>
  exact⟨_,U,_,_,_,_,U,.tup hr0,dD _ _,_,U,bZ ⟨_,U,r,_,U,.inr (sqT hr0),U,_,U,qg U ⟨_,U,r,_,U,sqT hr0,U,_,_,U,_,_,U,U,⟨_,U,_,U,.str x,lo,9,U,.str _,_,U,bZ q0⟩⟩⟩⟩
 | @hollow r e kk hr0 he =>
  refine⟨_,U,_,_,_,_,U,.tup hr0,dD _ _,_,U,bZ ⟨_,U,r,_,U,.inr (sqT hr0),U,_,U,qg U ⟨_,U,r,_,U,sqT hr0,U,_,_,U,_,_,U,U,⟨_,U,_,U,.int kk,lo,9,U,.int _,_,U,?_⟩⟩⟩⟩
  refine wI (fun c=>?_) (fun c=>?_)
  ·exact⟨_,U,_,U,.ref e,m,U,.inr ⟨e,U,he,_,U,bZ q0⟩⟩
  ·exact q0
inductive qX (vs:G1)(H:Hp)(Q:VK)(e3:XK):Prop where
 | mk (a:Addr) (us:G1) (gs:List Rg) (n m who:Nat) (_:vs=[.int (m:Int),.int (who:Int),.ref a]) (_:H a=some (.tup us)) (_:jF n H us gs) (_:n<=12) (_:us.length<=20) (_:1<=m) (_:∀ H',aH H H'->Q (.bl (Nv m who gs)) H')
theorem jx.good {n:Nat}{H:Hp}{v:V}{g:Rg}{m who:Nat}{lo:Int}(h:jx n H v g)(e:rgF m who lo g=true):∃ r kk u t,v = .ref r/\H r=some (.tup [.int kk,u])/\gq n H u t/\t.dep<=4/\g = .rung kk t:=by
 cases h with
 | rung h1 h2 h3=>exact⟨_,_,_,_,U,h1,h2,h3,U⟩
 | odd=>cases e
 | text=>cases e
 | hollow=>cases e
theorem uF {k:Nat} {t1:Tok} (F:Fun K "is_pledge" "is_pledge" jH f fd) (B:Bt mg) (UP:mg "MOST_RUNGS" = some (.int 9 t1)) (hk:1<=k)
  (Sm:Df P w K mg base "is_number" 1 Yf fU) (So:Df P w K mg base "is_rung" k WZ yO):aY P w K mg base CX0 (k+1) f fd YA qX:=by
 refine okA F fK fun H Q E hr h=>?_
 obtain⟨a,us,gs,n,m,who,rfl,ha,rg,hn,l20,hm,q⟩:=h
 refine⟨_,(ao (ifR (PW.pt (lO (dG (bV (aJ (r:=uA K) bM U B.isinstance_ aO (aj (pv 2) (a1 (iD B.tuple_ bC)))))) (ir (dG (bV (aP Sm hr (aj (pln K B.len_ (pv 2)) (aj aq (a1 (mR UP)))))))))) iw)
 (ao (sT 3 fK.nd aq)
 (ao (dC Vu U (cH (pv 2)) (pgN 4 fK.nd) (ao (ifR (dG (bV (aP So hr (aj (pv 0) (aj (pv 1) (v2 4 3)))))) iw)
 (aC (sT 3 fK.nd (aM bA (pxT K (pv 4) aq) aq)))))
 (sR iw)))),?_⟩
 have el:=rg.length
 have q0:=q H (aH.refl H)
 refine⟨_,U,_,_,_,_,U,.tup ha,dD _ _,_,U,bZ ⟨_,U,a,_,U,.inr (sqT ha),.int (us.length:Int),1,9,U,.int _,_,U,?_⟩⟩
 have en:isNum (.int (us.length:Int)) 1 9=(decide (1<=gs.length) && decide (gs.length<=9)):=by
  show (decide ((1:Int)<=(us.length:Int)) && decide ((us.length:Int)<=9))=_
  rw[el]
  congr 1
  ·exact decide_eq_decide.mpr ⟨fun z=>by lia,fun z=>by lia⟩
  ·exact decide_eq_decide.mpr ⟨fun z=>by lia,fun z=>by lia⟩
 rw[en]
 unfold Nv at q q0
 cases hc:(decide (1<=gs.length) && decide (gs.length<=9)) with
 | false =>
  rw[hc,Yx] at q0
  exact dq q0
 | true =>
  rw[hc,YW] at q
  refine bZ ⟨_,U,a,U,⟨_,sqT ha⟩,kZ (K:=K) (a:=a) (xs:=us) (fun i σ H2=>aH H H2/\∃ (lo:Int) (u:GU),σ=[some (.int (m:Int)),some (.int (who:Int)),oR a,oI lo,u]/\plF m who lo (gs.drop i)=plF m who 1 gs)
   ⟨aH.refl H,1,_,U,by rw[List.drop_zero]⟩ (fun i σ H2 _ h=>sqT (h.1 _ _ ha)) ?_ ?_⟩
  ·rintro i x σ H2 hx ⟨sm,lo,u,rfl,er⟩
   obtain⟨g,hg,rx⟩:=rg.get hx
   have hi:i < gs.length:=(geS hg).1
   have eg:gs[i]=g:=(geS hg).2
   have ed:gs.drop i=g::gs.drop (i+1):=by rw[YG hi,eg]
   rw[ed,plF] at er
   refine⟨_,U,_,U,_,U,_,U,x,g,n,m,who,lo,U,rx.mono sm,hn,fun H3 s3=>⟨_,U,?_⟩⟩
   cases e:rgF m who lo g with
   | false =>
    rw[e,Yx] at er
    have q':=q H3 (sm.trans s3)
    rw[← er] at q'
    exact dq q'
   | true =>
    rw[e,YW] at er
    obtain⟨r,kk,y,t,rfl,h1,_,_,rfl⟩:=rx.good e
    refine bZ ⟨_,U,r,_,_,_,U,U,sqT (s3 _ _ (sm _ _ h1)),gt0,_,_,U,U,sm.trans s3,kk+1,_,U,er⟩
  ·rintro σ H2 ⟨sm,lo,u,rfl,er⟩
   rw[el,List.drop_length,plF] at er
   have q':=q H2 sm
   rw[← er] at q'
   exact q'
abbrev Ent:=Nat × Nat × Pl
inductive cF (n:Nat)(H:Hp):G1->List Ent->Prop where
 | nil:cF n H [] []
 | cons {e p:Addr} {num one:Nat} {pl:Pl} {us:G1} {es:List Ent}:H e=some (.tup [vN num,vN one,.ref p])->j6 n H p pl->cF n H us es->cF n H (.ref e::us) ((num,one,pl)::es)
theorem cF.aN {n:Nat}{H H':Hp}(e:∀ a xs,H a=some (HO.tup xs)->H' a=some (HO.tup xs)):∀ {us:G1} {es:List Ent},cF n H us es->cF n H' us es
 | _,_,.nil=>.nil
 | _,_,.cons h p r=>.cons (e _ _ h) (p.aN e) (cF.aN e r)
theorem cF.length {n:Nat}{H:Hp}:∀ {us:G1} {es:List Ent},cF n H us es->us.length=es.length
 | _,_,.nil=>rfl
 | _,_,.cons _ _ r=>by rw[Uj,Uj,cF.length r]
theorem cF.get {n:Nat}{H:Hp}:∀ {us:G1} {es:List Ent} {i:Nat} {u:V},cF n H us es->us[i]? = some u->∃ (e p:Addr) (num one:Nat) (pl:Pl),u = .ref e/\es[i]? = some (num,one,pl)/\H e=some (.tup [vN num,vN one,.ref p])/\j6 n H p pl
 | _,_,_,_,.nil,h=>by simp at h
 | _,_,0,_,.cons h p _,e=>by
  cases (show some _=some _ from e)
  exact⟨_,_,_,_,_,U,U,h,p⟩
 | _,_,i+1,_,.cons _ _ r,e=>by
  obtain⟨a,p,x,y,z,h1,h2,h3⟩:=cF.get (i:=i) r (by simpa using e)
  exact⟨a,p,x,y,z,h1,by simpa using h2,h3⟩
theorem cF.snoc {n:Nat}{H:Hp}{e p:Addr}{num one:Nat}{pl:Pl}(h:H e=some (.tup [vN num,vN one,.ref p]))(hp:j6 n H p pl):∀ {us:G1} {es:List Ent},cF n H us es->cF n H (us++[.ref e]) (es++[(num,one,pl)])
 | _,_,.nil=>.cons h hp .nil
 | _,_,.cons a b r=>.cons a b (cF.snoc h hp r)
def Ks (CS:Addr)(H H':Hp):Prop:=(∀ a xs,H a=some (HO.tup xs)->H' a=some (HO.tup xs))/\∀ a dx fs,H a=some (HO.ins CS dx fs)->H' a=some (HO.ins CS dx fs)
theorem ksS {CS:Addr}{H H':Hp}(s:aH H H'):Ks CS H H':=⟨fun a xs h=>s a _ h,fun a dx fs h=>s a _ h⟩
def stF (ga goa sa:Addr)(co:Nat):GT:=[("green",.ref ga),("gone",.ref goa),("standing",.ref sa),("coming",vN co)]
def eQ (CS:Addr)(n:Nat)(H:Hp)(a:Addr)(g:E9)(go:Fa)(es:List Ent)(co:Nat):Prop :=
 ∃ (dx ga goa sa:Addr) (us:G1),H a=some (.ins CS dx (stF ga goa sa co))/\H ga=some (.tup (g.map V.int))/\H goa=some (.tup (go.map vN))/\H sa=some (.tup us)/\cF n H us es
theorem eQ.ks {CS:Addr}{n:Nat}{H H':Hp}{a:Addr}{g:E9}{go:Fa}{es:List Ent}{co:Nat}(k:Ks CS H H')(h:eQ CS n H a g go es co):eQ CS n H' a g go es co:=by
 obtain⟨dx,ga,goa,sa,us,h1,h2,h3,h4,h5⟩:=h
 exact⟨dx,ga,goa,sa,us,k.2 _ _ _ h1,k.1 _ _ h2,k.1 _ _ h3,k.1 _ _ h4,h5.aN k.1⟩
def bnF (nw be ah:Addr):GT:=[("now",.ref nw),("behind",.ref be),("ahead",.ref ah)]
def ph (CS CB:Addr)(n:Nat)(H:Hp)(b be:Addr)(d:Nat)(g:E9)(go:Fa)(es:List Ent)(co:Nat):Prop :=
 ∃ (dx nw ah:Addr) (xs:G1),H b=some (.ins CB dx (bnF nw be ah))/\H be=some (.lst xs)/\xs.length=d/\eQ CS n H nw g go es co
def But (b be:Addr)(H H':Hp):Prop:=∀ a o,a≠b->a≠be->H a=some o->H' a=some o
theorem But.ks {CS CB b be dx:Addr}{fs:GT}{xs:G1}{H H':Hp}(h:But b be H H')(ne:CB≠CS)(hb:H b=some (.ins CB dx fs))(hl:H be=some (.lst xs)):Ks CS H H':=by
 refine⟨fun a ys q=>h a _ (fun z=>?_) (fun z=>?_) q,fun a dx' fs' q=>h a _ (fun z=>?_) (fun z=>?_) q⟩
 ·rw[z,hb] at q;cases q
 ·rw[z,hl] at q;cases q
 ·rw[z,hb] at q
  injection q with q
  injection q with q1
  exact ne q1
 ·rw[z,hl] at q;cases q
theorem Sv {b be:Addr}{H H':Hp}(s:aH H H'):But b be H H':=fun a o _ _ q=>s a o q
theorem But.trans {b be:Addr}{H H1 H2:Hp}(h:But b be H H1)(k:But b be H1 H2):But b be H H2:=fun a o x y q=>k a o x y (h a o x y q)
theorem ph.same {CS CB:Addr}{n:Nat}{H H':Hp}{b be:Addr}{d:Nat}{g:E9}{go:Fa}{es:List Ent}{co:Nat}(s:aH H H')(h:ph CS CB n H b be d g go es co):ph CS CB n H' b be d g go es co:=by
 obtain⟨dx,nw,ah,xs,h1,h2,h3,h4⟩:=h
 exact⟨dx,nw,ah,xs,s _ _ h1,s _ _ h2,h3,h4.ks (ksS s)⟩
structure uZ (K:Uw)(CS:Addr):Prop where
 cl:Cls K CS
 green:gk K CS "green"
 gone:gk K CS "gone"
 standing:gk K CS "standing"
 coming:gk K CS "coming"
structure Ax (K:Uw)(CB:Addr):Prop where
 cl:Cls K CB
 now:gk K CB "now"
 behind:gk K CB "behind"
 ahead:gk K CB "ahead"
abbrev iV:Stmt:=inClass (top 38) 0
theorem kJ:aB WV WV (au iV):=cM
inductive gU (CS:Addr)(vs:G1)(H:Hp)(Q:VK)(e3:XK):Prop where
 | mk (x dx:Addr) (g go sd co:V) (_:vs=[.ref x,g,go,sd,co]) (_:H x=some (.ins CS dx [])) (_:Q .non (upd H x (.ins CS dx [("green",g),("gone",go),("standing",sd),("coming",co)])))
theorem tR {CS:Addr} (F:Fun K "__init__" "Stand.__init__" iV f fd) (S:uZ K CS):aY P w K mg base CX0 1 f fd WV (gU CS):=by
 refine okA F kJ fun H Q E hr h=>?_
 obtain⟨x,dx,g,go,sd,co,rfl,hx,q⟩:=h
 refine⟨_,(ao (jQ (pv 0) (pv 1) U)
 (ao (jQ (pv 0) (pv 2) U)
 (ao (jQ (pv 0) (pv 3) U)
 (aC (jQ (pv 0) (pv 4) U))))),?_⟩
 refine⟨_,U,_,U,x,CS,dx,_,U,hx,S.cl,S.green,by show 0 < 1000;decide,?_⟩
 refine⟨_,U,_,U,x,CS,dx,_,U,aa,S.cl,S.gone,by show 1 < 1000;decide,?_⟩
 refine⟨_,U,_,U,x,CS,dx,_,U,aa,S.cl,S.standing,by show 2 < 1000;decide,?_⟩
 refine⟨_,U,_,U,x,CS,dx,_,U,aa,S.cl,S.coming,by show 3 < 1000;decide,?_⟩
 rw[uy,uy,uy]
 exact q
abbrev jB:Stmt:=inClass (top 45) 0
theorem mV:aB ZO ZO (au jB):=cM
abbrev iC:Stmt:=inClass (top 45) 1
theorem sY:aB Zl Zl (au iC):=cM
theorem Ss {K:Uw}{H:Hp}{a b:Addr}{xs ys:G1}{Q:VK}(ha:H a=some (.tup xs))(hb:H b=some (.tup ys))(hl:xs.length+ys.length<=1000)(q:∀ (p:Addr) (H':Hp),aH H H'->H' p=some (.tup (xs++ys))->Q (.ref p) H'):uX K (.ref a) (.ref b) H Q:=by
 refine⟨a,b,xs,ys,U,U,sqT ha,sqT hb,small hl,fun e=>?_,fun _ e=>?_,fun _ _ p hp=>q p _ (aA hp _) aa⟩
 ·subst e
  exact q b H (aH.refl _) hb
 ·subst e
  exact q a H (aH.refl _) (by rw[WY];exact ha)
theorem jW {CS x dx:Addr} {H:Hp} {g go sd co:V} {Q:VK} {E:XK} (hx:H x=none) (hdx:H dx=none) (hne:dx≠x) (q:∀ H',aH H H'->H' x=some (.ins CS dx [("green",g),("gone",go),("standing",sd),("coming",co)])->Q .non H') :
  gU CS [.ref x,g,go,sd,co] (upd (upd H dx (.own x)) x (.ins CS dx [])) Q E:=by
 refine⟨x,dx,g,go,sd,co,U,aa,?_⟩
 rw[uy]
 exact q _ ((aA hdx _).trans (aA (by rw[aD hne.symm];exact hx) _)) aa
abbrev jM:Stmt:=inClass (top 45) 2
theorem lZ:aB ["self","now"] ZO (au jM):=cM
theorem nF (x:Nat):∀ c:Fa,inV (.int (x:Int)) (c.map vN)=decide (x∈c)
 | []=>rfl
 | y::c=>by
  have ih:=nF x c
  unfold inV at ih ⊢
  rw[U0,X8,ih]
  by_cases e:x=y
  ·subst e
   rw[dcT Uc]
   simp [vN,eqV]
  ·have:eqV (vN y) (.int (x:Int))=false:=by
    simp [vN,eqV]
    lia
   rw[this,aak]
   exact decide_eq_decide.mpr (by simp [e])
theorem pM (c:Fa):(c.map vN).all qx=true:=by
 rw[abl,List.all_eq_true]
 intro x _
 rfl
mutual
theorem Qo {one:Nat}:∀ t:Tm,nn one t=true->one ∉ mnF t
 | .free,_=>by simp [mnF]
 | .never,_=>by simp [mnF]
 | .gives i k,h=>by
  have:=of_decide_eq_true (show decide (i≠one)=true by simpa [nn] using h)
  simp only[mnF]
  exact fun z=>this (List.mem_singleton.mp z).symm
 | .sum c k,h=>by simpa [nn,mnF] using h
 | .crowd c k m,h=>by simpa [nn,mnF] using h
 | .all ts,h=>by
  simp only[mnF]
  exact Ga ts (by simpa [nn] using h)
 | .any ts,h=>by
  simp only[mnF]
  exact Ga ts (by simpa [nn] using h)
theorem Ga {one:Nat}:∀ ts:List Tm,nnL one ts=true->one ∉ mnL ts
 | [],_=>by simp [mnL]
 | t::r,h=>by
  have h':nn one t=true/\nnL one r=true:=by simpa [nnL] using h
  rw[mnL,abL]
  rintro (z | z)
  ·exact Qo t h'.1 z
  ·exact Ga r h'.2 z
end
mutual
theorem Oc {n:Nat}{H:Hp}:∀ {v:V} {t:Tm},gq n H v t->∀ i∈mnF t,i < n
 | _,_,.free _,i,h=>by simp [mnF] at h
 | _,_,.never _,i,h=>by simp [mnF] at h
 | _,_,.gives _ a _ _,i,h=>by
  simp only[mnF] at h
  rw[List.mem_singleton.mp h]
  exact a
 | _,_,.sum _ _ a _ _ _ _ _,i,h=>by
  simp only[mnF] at h
  exact a i h
 | _,_,.crowd _ _ a _ _ _ _ _ _ _,i,h=>by
  simp only[mnF] at h
  exact a i h
 | _,_,.all _ _ _ _ r,i,h=>by
  simp only[mnF] at h
  exact Gi r i h
 | _,_,.any _ _ _ _ r,i,h=>by
  simp only[mnF] at h
  exact Gi r i h
theorem Gi {n:Nat}{H:Hp}:∀ {vs:G1} {ts:List Tm},bQ n H vs ts->∀ i∈mnL ts,i < n
 | _,_,.nil,i,h=>by simp [mnL] at h
 | _,_,.cons t r,i,h=>by
  rw[mnL,abL] at h
  rcases h with z | z
  ·exact Oc t i z
  ·exact Gi r i z
end
theorem Pn {n:Nat}{H:Hp}:∀ {us:G1} {p:Pl},cT n H us p->(∀ x∈p,x.2.dep<=4)->jF n H us (p.map fun x=>Rg.rung x.1 x.2)
 | _,_,.nil,_=>.nil
 | _,_,.cons h t r,d=>.cons (.rung h t (d _ Uc)) (Pn r fun x hx=>d x (Ug _ hx))
theorem Ke {n who:Nat}{H:Hp}:∀ {us:G1} {p:Pl} {lo:Int},cT n H us p->(p.map (·.1)).Pairwise (· < ·)->(∀ x∈p,lo<=x.1/\x.1<=9)->(∀ x∈p,nn who x.2=true)->plF n who lo (p.map fun x=>Rg.rung x.1 x.2)=true
 | _,_,_,.nil,_,_,_=>rfl
 | _,_,lo,.cons (k:=k) (t:=t) (ps:=ps) h tr r,pw,hb,hn=>by
  rw[U0,Wm] at pw
  show (rgF n who lo (.rung k t) && plF n who (k+1) (ps.map fun x=>Rg.rung x.1 x.2))=true
  have h1:=hb (k,t) Uc
  have h2:=Qo t (hn (k,t) Uc)
  rw[Vt]
  refine⟨?_,Ke r pw.2 (fun x hx=>⟨?_,(hb x (Ug _ hx)).2⟩) fun x hx=>hn x (Ug _ hx)⟩
  ·show ((decide (lo<=k) && decide (k<=9)) && (ltF n (mnF t) && !decide (who∈mnF t)))=true
   rw[dcT h1.1,dcT h1.2,Fe.mpr (Oc tr),dcF h2]
   rfl
  ·have:=pw.1 x.1 (ZL hx)
   lia
theorem Mi {n who:Nat}{H:Hp}{us:G1}{p:Pl}(ok:okP p)(r:cT n H us p)(hn:∀ x∈p,nn who x.2=true):Nv n who (p.map fun x=>Rg.rung x.1 x.2)=true:=by
 obtain⟨h1,h2,h3,h4⟩:=ok
 have l:1<=p.length:=by
  cases p with
  | nil=>exact absurd U h1
  | cons _ _=>rw[Uj];lia
 unfold Nv
 rw[TJ,dcT l,dcT h2,Ke r h3 (fun x hx=>⟨(h4 x hx).1,(h4 x hx).2.1⟩) hn]
 rfl
abbrev dR:Stmt:=top 39
abbrev fQ:Stmt:=top 42
theorem jc:aB ZB ZB (au dR):=cM
theorem oA:aB X1 X1 (au fQ):=cM
inductive Fv (CS:Addr)(vs:G1)(H:Hp)(Q:VK)(e3:XK):Prop where
 | mk (st:Addr) (one n co:Nat) (g:E9) (go:Fa) (es:List Ent) (_:vs=[.ref st,vN one]) (_:eQ CS n H st g go es co) (_:one < g.length) (_:one ∉ go) (_:Q .non H)
theorem qu {CS:Addr} (F:Fun K "check_there" "check_there" dR f fd) (B:Bt mg) (S:uZ K CS) (Sm:Df P w K mg base "is_number" 1 Yf fU) :
  aY P w K mg base CX0 2 f fd ZB (Fv CS):=by
 refine okA F jc fun H Q E hr h=>?_
 obtain⟨st,one,n,co,g,go,es,rfl,⟨dx,ga,goa,sa,us,hs,hga,hgo,hsa,hes⟩,lo,hg,q⟩:=h
 refine⟨_,(ao (c7 (dG (bV (aP Sm hr (aj (pv 1) (aj aq (a1 (aM fG (pln K B.len_ (pfd K 0)) aq))))))) (aC yM) bh)
 (aC (c7 (jK (r:=rIn K false) fY (pv 1) (pfd K 0) U) (aC yM) bh))),?_⟩
 refine eX (fun σ H1=>σ=[oR st,some (vN one)]/\H1=H) ?_ ?_
 ·intro N Rc
  refine⟨_,U,_,U,st,CS,dx,_,_,U,hs,S.cl,S.green,U,ga,_,U,.inr (sqT hga),_,_,U,U,vN one,0,_,U,.int _,_,U,?_⟩
  rw[show isNum (vN one) 0 ((((g.map V.int).length:Nat):Int) - 1)=true by
   show (decide ((0:Int)<=(one:Int)) && decide ((one:Int)<=(((g.map V.int).length:Nat):Int) - 1))=true
   rw[TJ,dcT (by lia),dcT (by lia)]
   rfl]
  exact bZ (Rc _ _ ⟨U,U⟩)
 rintro σ H1 ⟨rfl,rfl⟩
 refine⟨_,U,_,U,st,CS,dx,_,_,U,hs,S.cl,S.gone,U,goa,_,U,.inr (sqT hgo),U,pM go,_,U,?_⟩
 have e:inV (vN one) (go.map vN)=false:=by
  rw[show vN one=V.int (one:Int) from U,nF]
  exact dcF hg
 rw[iNe (show ¬ false=true from T5),e]
 exact bZ q
abbrev gR:Stmt:=inClass (top 45) 4
theorem jg:aB ["self","one","pledge","now"] X9 (au gR):=cM
abbrev pP:Stmt:=top 40
theorem Ay:aB XI XI (au pP):=cM
def owL (es:List Ent)(one:Nat)(g:E9):E9:=(es.filter fun e=>decide (e.2.1=one)).map fun e=>owF g e.2.2
theorem zZ {es:List Ent}{one:Nat}{g:E9}{e:Ent}:owL (es++[e]) one g=owL es one g++if e.2.1=one then [owF g e.2.2] else []:=by
 unfold owL
 rw[WQ,Ub]
 congr 1
 by_cases h:e.2.1=one
 ·rw[iPo h,Vm (by exact dcT h)]
  rfl
 ·rw[iNe h,VJ (by rw[dcF h];exact T5)]
  rfl
inductive nC (vs:G1)(H:Hp)(Q:VK)(e3:XK):Prop where
 | mk (sa ga:Addr) (one n:Nat) (us:G1) (es:List Ent) (g:E9) (_:vs=[.ref sa,vN one,.ref ga]) (_:H sa=some (.tup us)) (_:cF n H us es) (_:es.length<=100) (_:H ga=some (.tup (g.map V.int))) (_:g.length=n) (_:∀ H',aH H H'->Q (.int (mxD 0 (owL es one g))) H')
theorem Ar {k:Nat} (F:Fun K "owed_of" "owed_of" pP f fd) (B:Bt mg) (SZ:Df P w K mg base "owes" k YE (wF K)) :
  aY P w K mg base CX0 (k+1) f fd XI nC:=by
 refine okA F Ay fun H Q E hr h=>?_
 obtain⟨sa,ga,one,n,us,es,g,rfl,hsa,hes,l100,hga,lg,q⟩:=h
 refine⟨_,(sR (Dj U U B.max_ (a1 (bj (L:=["number","other","pledge"]) (F:=["giving","one"]) (cap:=[2,1]) U (aV U U (by kernel_rfl)) (cH (pv 0)) (fun _ _ _ _ _=>(dZ (K:=K) 3 U U (aR (pgC 0) (aR (pgC 1) (aR (pgC 2) eF))))) (fun _ _ _ _ _=>(pZ (aK bw (pv 1) (pv 4)))) (fun _ _ _ _ _=>(aP SZ hr (v2 2 3))))))),?_⟩
 have les:=hes.length
 refine⟨_,U,sa,U,⟨_,sqT hsa⟩,fun D hD=>bU (K:=K) (a:=sa) (xs:=us) (fun i zs σ' H2=>(∃ u v w,σ'=[u,v,w,oR ga,some (vN one)])/\aH H H2/\H2 D=some (.lst zs)/\zs=(owL (es.take i) one g).map V.int)
  ⟨⟨_,_,_,U⟩,aA hD _,aa,by rw[Vp];rfl⟩ (fun i zs σ' H2 _ h=>⟨sqT (h.2.1 _ _ hsa),h.2.2.1⟩) ?_ ?_⟩
 ·rintro i zs x σ' H2 hx ⟨⟨u,v,w,rfl⟩,sm,eD,rfl⟩
  obtain⟨e,p,num,o2,pl,rfl,he,hent,hpr⟩:=hes.get hx
  have nx:owL (es.take (i+1)) one g=owL (es.take i) one g++if o2=one then [owF g pl] else []:=by
   rw[UT,he]
   exact zZ
  have ll:(owL (es.take i) one g).length<=100:=by
   unfold owL
   rw[TJ]
   refine UL (Vj _ _) ?_
   rw[Uo]
   lia
  refine⟨e,_,U,sqT (sm _ _ hent),U,_,_,U,_,_,U,_,_,U,U,_,U,_,U,U,_,U,?_⟩
  by_cases z:o2=one
  ·rw[dcT (show vN o2=vN one by rw[z])]
   refine dq ⟨_,U,_,U,p,ga,n,pl,g,U,hpr.aN (fun a xs q=>sm a _ q),sqT (sm _ _ hga),by lia,fun H3 s3=>?_⟩
   refine⟨s3 _ _ eD,aF (by rw[TJ];lia),⟨_,_,_,U⟩,aL (sm.trans s3) hD _,aa,?_⟩
   rw[nx,iPo z,Ub]
   rfl
  ·rw[dcF (show ¬ vN o2=vN one from fun y=>z (by injection y with y;lia))]
   refine bZ ⟨⟨_,_,_,U⟩,sm,eD,?_⟩
   rw[nx,iNe z,WY]
 ·rintro zs σ' H2 ⟨_,sm,eD,rfl⟩
  rw[les,Uh] at eD
  exact⟨D,_,U,sqL eD,q H2 sm⟩
theorem cF.SN {n:Nat}{p:Ent->Bool}{e:Ent}{es:List Ent}{i:Nat}(h:es[i]? = some e):(es.take (i+1)).filter p=(es.take i).filter p++if p e=true then [e] else []:=by
 rw[UT,h,WQ]
 congr 1
 show List.filter p [e]=_
 by_cases z:p e=true
 ·rw[iPo z,Vm z]
  rfl
 ·rw[iNe z,VJ z]
  rfl
theorem stT {H H1:Hp}{a:Addr}{xs:G1}(s:gf H H1)(h:H a=some (.tup xs)):H1 a=some (.tup xs):=s a (.tup xs) (fun _ z=>nomatch z) h
theorem stL {H H1:Hp}{a:Addr}{xs:G1}(s:gf H H1)(h:H a=some (.lst xs)):H1 a=some (.lst xs):=s a (.lst xs) (fun _ z=>nomatch z) h
theorem thrown.mono {C:Addr}{w:Ut}{H H1:Hp}{E:XK}(s:aH H H1)(h:thrown C w H E):thrown C w H1 E:=fun dx H2 s2 e=>h dx H2 (s.trans s2) e
theorem wN {K:Uw} {C G:Addr} {w:Ut} {H:Hp} {Q:VK} (R:XRd K C G "word") (q:∀ (a:Addr) (H':Hp),aH H H'->H' a=some (.tup [.str w])->Q (.ref a) H'):thrown C w H (XW K G "word" Q):=by
 intro dx H1 s ed
 refine⟨C,dx,_,_,U,U,R,ed,U,fun x u a hx ha=>q a _ ?_ aa⟩
 exact s.trans ((aA hx _).trans (aA ha _))
inductive nO (CS CN CG:Addr)(vs:G1)(H:Hp)(Q:VK)(E:XK):Prop where
 | mk (st:Addr) (one:Int) (n co:Nat) (g:E9) (go:Fa) (es:List Ent) (_:vs=[.ref st,.int one]) (_:eQ CS n H st g go es co) (_:((one < 0∨(g.length:Int)<=one)->thrown CN "no folk" H E)) (_:(∀ i:Nat,one=i->i < g.length->i∈go->thrown CG "gone" H E)) (_:(∀ i:Nat,one=i->i < g.length->i ∉ go->Q .non H))
theorem mQ {CS CN CG:Addr} (F:Fun K "check_there" "check_there" dR f fd) (B:Bt mg) (S:uZ K CS) (Sm:Df P w K mg base "is_number" 1 Yf fU)
  (UE:Xc P w K mg base "NoFolk" CN "no folk") (UD:Xc P w K mg base "Gone" CG "gone"):aY P w K mg base (XL P w) 4 f fd ZB (nO CS CN CG):=by
 refine G6 F jc fun H Q E hr h=>?_
 obtain⟨st,one,n,co,g,go,es,rfl,⟨dx,ga,goa,sa,us,hs,hga,hgo,hsa,hes⟩,hN,hG,q⟩:=h
 refine⟨_,(ao (c7 (dG (bV (aP Sm hr (aj (pv 1) (aj aq (a1 (aM fG (pln K B.len_ (pfd K 0)) aq))))))) (aC (dB UE hr U cN)) bh)
 (aC (c7 (jK (r:=rIn K false) fY (pv 1) (pfd K 0) U) (aC (dB UD hr U cN)) bh))),?_⟩
 refine eX (fun σ H1=>∃ i:Nat,one=i/\i < g.length/\σ=[oR st,some (vN i)]/\H1=H) ?_ ?_
 ·intro N Rc
  refine⟨_,U,_,U,st,CS,dx,_,_,U,hs,S.cl,S.green,U,ga,_,U,.inr (sqT hga),_,_,U,U,.int one,0,_,U,.int _,_,U,?_⟩
  by_cases hz:0<=one/\one < g.length
  ·rw[show isNum (.int one) 0 ((((g.map V.int).length:Nat):Int) - 1)=true by
    show (decide ((0:Int)<=one) && decide (one<=(((g.map V.int).length:Nat):Int) - 1))=true
    rw[TJ,dcT (by lia),dcT (by lia)]
    rfl]
   refine bZ (Rc _ _ ⟨one.toNat,by lia,by lia,?_,U⟩)
   show[some (V.ref st),some (V.int one)]=[some (.ref st),some (.int (one.toNat:Int))]
   rw[Int.toNat_of_nonneg hz.1]
  ·rw[show isNum (.int one) 0 ((((g.map V.int).length:Nat):Int) - 1)=false by
    show (decide ((0:Int)<=one) && decide (one<=(((g.map V.int).length:Nat):Int) - 1))=false
    rw[TJ]
    by_cases h0:0<=one
    ·rw[dcF (show ¬ one<=(g.length:Int) - 1 by lia),Yy]
    ·rw[dcF h0,Yx]]
   exact dq (hN (by lia))
 rintro σ H1 ⟨i,rfl,hi,rfl,rfl⟩
 refine⟨_,U,_,U,st,CS,dx,_,_,U,hs,S.cl,S.gone,U,goa,_,U,.inr (sqT hgo),U,pM go,_,U,?_⟩
 have e:inV (vN i) (go.map vN)=decide (i∈go):=by
  rw[show vN i=V.int (i:Int) from U,nF]
 rw[iNe (show ¬ false=true from T5),e]
 by_cases z:i∈go
 ·rw[dcT z]
  exact dq (hG i U hi z)
 ·rw[dcF z]
  exact bZ (q i U hi z)
mutual
theorem NT {one:Nat}:∀ t:Tm,one ∉ mnF t->nn one t=true
 | .free,_=>by simp [nn]
 | .never,_=>by simp [nn]
 | .gives i k,h=>by
  simp only[mnF] at h
  simp only[nn]
  exact dcT fun z=>h (by rw[z];exact List.mem_singleton.mpr U)
 | .sum c k,h=>by simpa [nn,mnF] using h
 | .crowd c k m,h=>by simpa [nn,mnF] using h
 | .all ts,h=>by
  simp only[mnF] at h
  simp only[nn]
  exact Fb ts h
 | .any ts,h=>by
  simp only[mnF] at h
  simp only[nn]
  exact Fb ts h
theorem Fb {one:Nat}:∀ ts:List Tm,one ∉ mnL ts->nnL one ts=true
 | [],_=>by simp [nnL]
 | t::r,h=>by
  rw[mnL,abL,not_or] at h
  rw[nnL,NT t h.1,Fb r h.2]
  rfl
end
theorem Er {n who:Nat}{x:Int × Tm}:∀ {p:Pl} {lo:Int},x∈p->nn who x.2=false->plF n who lo (p.map fun x=>Rg.rung x.1 x.2)=false
 | [],_,h,_=>by cases h
 | y::r,lo,h,e=>by
  show (rgF n who lo (.rung y.1 y.2) && plF n who (y.1+1) (r.map fun x=>Rg.rung x.1 x.2))=false
  rcases List.mem_cons.mp h with z | z
  ·have hm:who∈mnF y.2:=Classical.byContradiction fun q=>by
    rw[← z,NT x.2 (by rw[z];exact q)] at *
    cases e
   show (((decide (lo<=y.1) && decide (y.1<=9)) && (ltF n (mnF y.2) && !decide (who∈mnF y.2))) && _)=false
   rw[dcT hm]
   simp
  ·rw[Er z e,Yy]
theorem Oa {n who:Nat}{x:Int × Tm}{p:Pl}(h:x∈p)(e:nn who x.2=false):Nv n who (p.map fun x=>Rg.rung x.1 x.2)=false:=by
 unfold Nv
 rw[Er h e,Yy]
inductive xN (CS CP:Addr)(vs:G1)(H:Hp)(Q:VK)(E:XK):Prop where
 | mk (st p:Addr) (one n co:Nat) (g:E9) (go:Fa) (es:List Ent) (pl:Pl) (_:vs=[.ref st,vN one,.ref p]) (_:eQ CS n H st g go es co) (_:g.length=n) (_:1<=n) (_:n<=12) (_:j6 n H p pl) (_:((∃ x∈pl,nn one x.2=false)->thrown CP "bad pledge" H E)) (_:((∀ x∈pl,nn one x.2=true)->∀ H',aH H H'->Q .non H'))
theorem lW {CS CP:Addr} {k:Nat} (hk:3<=k) (F:Fun K "check_pledge" "check_pledge" fQ f fd) (B:Bt mg) (S:uZ K CS) (Sn:Df P w K mg base "is_pledge" k YA qX)
  (Uf:Xc P w K mg base "BadPledge" CP "bad pledge"):aY P w K mg base (XL P w) (k+1) f fd X1 (xN CS CP):=by
 refine G6 F oA fun H Q E hr h=>?_
 obtain⟨st,p,one,n,co,g,go,es,pl,rfl,⟨dx,ga,goa,sa,us,hs,hga,hgo,hsa,hes⟩,lg,n1,n12,⟨okp,vs0,hp,rv⟩,hbad,q⟩:=h
 refine⟨_,(aC (c7 (dG (bV (aP Sn hr (aj (pln K B.len_ (pfd K 0)) (v2 1 2))))) (aC (dB Uf hr U cN (hk:=hk))) bh)),?_⟩
 have lv:=rv.length
 have p9:=okp.2.1
 refine⟨_,U,st,CS,dx,_,_,U,hs,S.cl,S.green,U,ga,_,U,.inr (sqT hga),_,U,_,U,p,vs0,_,n,n,one,?_,hp,Pn rv fun x hx=>(okp.2.2.2 x hx).2.2,n12,by lia,n1,fun H1 s1=>?_⟩
 ·show[V.int (((g.map V.int).length:Nat):Int),vN one,V.ref p]=_
  rw[TJ,lg]
  rfl
 ·by_cases hn:∀ x∈pl,nn one x.2=true
  ·rw[Mi okp rv hn]
   exact⟨_,U,bZ (q hn H1 s1)⟩
  ·obtain⟨x,hx,e⟩:∃ x∈pl,nn one x.2=false:=Classical.byContradiction fun z=>hn fun x hx=>by
    cases e:nn one x.2 with
    | true=>rfl
    | false=>exact absurd ⟨x,hx,e⟩ z
   rw[Oa hx e]
   exact⟨_,U,dq ((hbad ⟨x,hx,e⟩).mono s1)⟩
theorem Gx {T:TT}{a b:TS}{D:Ends}{σ:St}{H:Hp}(R:Bool->Hp->Prop)(hT:∀ Q:Bool->Hp->Prop,(∀ c H1,R c H1->Q c H1)->T σ H Q)(ha:∀ H1,R true H1->a D σ H1)(hb:∀ H1,R false H1->b D σ H1):G3 T a b D σ H:=by
 refine hT _ fun c H1 r=>?_
 cases c
 ·exact hb _ r
 ·exact ha _ r
mutual
theorem gq.le {n m:Nat}{H:Hp}(h:n<=m):∀ {v:V} {t:Tm},gq n H v t->gq m H v t
 | _,_,.free e=>.free e
 | _,_,.never e=>.never e
 | _,_,.gives e a b c=>.gives e (T4 a h) b c
 | _,_,.sum e e2 a b c d f g=>.sum e e2 (fun i hi=>T4 (a i hi) h) b c d f g
 | _,_,.crowd e e2 a b c d f g i j=>.crowd e e2 (fun i hi=>T4 (a i hi) h) b c d f g i j
 | _,_,.all e e2 a b r=>.all e e2 a b (bQ.le h r)
 | _,_,.any e e2 a b r=>.any e e2 a b (bQ.le h r)
theorem bQ.le {n m:Nat}{H:Hp}(h:n<=m):∀ {vs:G1} {ts:List Tm},bQ n H vs ts->bQ m H vs ts
 | _,_,.nil=>.nil
 | _,_,.cons a r=>.cons (gq.le h a) (bQ.le h r)
end
theorem cT.le {n m:Nat}{H:Hp}(h:n<=m):∀ {vs:G1} {p:Pl},cT n H vs p->cT m H vs p
 | _,_,.nil=>.nil
 | _,_,.cons a t r=>.cons a (t.le h) (cT.le h r)
theorem j6.le {n m:Nat}{H:Hp}{a:Addr}{p:Pl}(h:n<=m)(r:j6 n H a p):j6 m H a p:=⟨r.1,r.2.choose,r.2.choose_spec.1,r.2.choose_spec.2.le h⟩
theorem cF.le {n m:Nat}{H:Hp}(h:n<=m):∀ {us:G1} {es:List Ent},cF n H us es->cF m H us es
 | _,_,.nil=>.nil
 | _,_,.cons a p r=>.cons a (p.le h) (cF.le h r)
structure Bn (CS CB:Addr)(n:Nat)(H:Hp)(b be ah dx nw:Addr)(xs zs:G1)(g:E9)(go:Fa)(es:List Ent)(co:Nat):Prop where
 hb:H b=some (.ins CB dx (bnF nw be ah))
 hbe:H be=some (.lst xs)
 hah:H ah=some (.lst zs)
 st:eQ CS n H nw g go es co
 nb:be≠ah
 lg:g.length=n
 n12:n<=12
 l40:es.length<=40
 gn:go.Nodup
 gl:∀ x∈go,x < n
section
variable {CS CB:Addr}{n:Nat}{H H':Hp}{b be ah dx nw:Addr}{xs zs:G1}{g:E9}{go:Fa}{es:List Ent}{co:Nat}
theorem Bn.same (B:Bn CS CB n H b be ah dx nw xs zs g go es co)(s:aH H H'):Bn CS CB n H' b be ah dx nw xs zs g go es co :=
 ⟨s _ _ B.hb,s _ _ B.hbe,s _ _ B.hah,B.st.ks (ksS s),B.nb,B.lg,B.n12,B.l40,B.gn,B.gl⟩
theorem Bn.sT (B:Bn CS CB n H b be ah dx nw xs zs g go es co)(s:gf H H'):Bn CS CB n H' b be ah dx nw xs zs g go es co :=
 ⟨s _ _ (fun _ z=>nomatch z) B.hb,s _ _ (fun _ z=>nomatch z) B.hbe,s _ _ (fun _ z=>nomatch z) B.hah,B.st.ks ⟨fun a ys q=>s _ _ (fun _ z=>nomatch z) q,fun a dx fs q=>s _ _ (fun _ z=>nomatch z) q⟩,B.nb,B.lg,B.n12,B.l40,B.gn,B.gl⟩
theorem Bn.Qz (B:Bn CS CB n H b be ah dx nw xs zs g go es co):ph CS CB n H b be xs.length g go es co:=⟨dx,nw,ah,xs,B.hb,B.hbe,U,B.st⟩
end
inductive jG (CB:Addr)(vs:G1)(H:Hp)(Q:VK)(e3:XK):Prop where
 | mk (b be st dx nw ah:Addr) (xs:G1) (_:vs=[.ref b,.ref st]) (_:H b=some (.ins CB dx (bnF nw be ah))) (_:H be=some (.lst xs)) (_:xs.length<=900) (_:∀ (ah':Addr) (H':Hp),H ah'=none->H' b=some (.ins CB dx (bnF st be ah'))->H' be=some (.lst (xs++[.ref nw]))->H' ah'=some (.lst [])->But b be H H'->Q .non H')
theorem qH {CB:Addr} (F:Fun K "go_on" "Boon.go_on" iC f fd) (S:Ax K CB):aY P w K mg base CX0 1 f fd Zl (jG CB):=by
 refine okA F sY fun H Q E hr h=>?_
 obtain⟨b,be,st,dx,nw,ah,xs,rfl,hb,hbe,l9,q⟩:=h
 refine⟨_,(ao (aU (yH Wq Wh Wg cL (pfd K 0) (a1 (pfd K 0))))
 (ao (jQ (pv 0) (bI dM) U)
 (aC (jQ (pv 0) (pv 1) U)))),?_⟩
 have bb:be≠b:=fun z=>by rw[z,hb] at hbe;cases hbe
 refine⟨_,U,b,CB,dx,_,_,U,hb,S.cl,S.behind,U,.inl ⟨U,_,sqL hbe⟩,_,U,b,CB,dx,_,_,U,hb,S.cl,S.now,U,be,_,_,U,U,hbe,aF (by lia),?_⟩
 have k1:But b be H (upd H be (.lst (xs++[.ref nw]))):=fun a o _ h z=>by rw[aD h];exact z
 generalize eH1:upd H be _=H1 at k1
 have e1:H1 be=some (.lst (xs++[.ref nw])):=by rw[← eH1];exact aa
 have e1b:H1 b=some (.ins CB dx (bnF nw be ah)):=by rw[← eH1,aD bb.symm];exact hb
 refine⟨smN 0,fun a2 h2=>?_⟩
 have n2:a2≠be:=fun z=>by rw[z,e1] at h2;cases h2
 have n2b:a2≠b:=fun z=>by rw[z,e1b] at h2;cases h2
 have fr:H a2=none:=by rw[← eH1,aD n2] at h2;exact h2
 generalize eH2:upd H1 a2 _=H2
 obtain⟨g2,e2⟩:=aG eH2 h2
 refine⟨_,U,b,CB,dx,_,U,g2 _ _ e1b,S.cl,S.ahead,by show 3 < 1000;decide,?_⟩
 have k3:∀ a o,a≠b->H2 a=some o->upd H2 b (.ins CB dx (rM "ahead" (.ref a2) (bnF nw be ah))) a=some o:=fun a o h z=>by rw[aD h];exact z
 generalize eH3:upd H2 b _=H3 at k3
 have e3:H3 b=some (.ins CB dx (bnF nw be a2)):=by rw[← eH3];exact aa
 refine⟨_,U,_,U,b,CB,dx,_,U,e3,S.cl,S.now,by show 3 < 1000;decide,?_⟩
 refine q a2 _ fr aa (by rw[aD bb];exact k3 _ _ bb (g2 _ _ e1)) (by rw[aD n2b];exact k3 _ _ n2b e2) fun a o h h' z=>?_
 rw[aD h]
 exact k3 _ _ h (g2 _ _ (k1 a o h h' z))
theorem Gp {CS CB:Addr}{n n':Nat}{H H1:Hp}{b be ah dx nw x:Addr}{xs zs:G1}{g g':E9}{go go':Fa}{es es':List Ent}{co co':Nat}{Q:VK}(B:Bn CS CB n H b be ah dx nw xs zs g go es co)(ne:CB≠CS)(l9:xs.length<=900)(s:aH H H1)(st:eQ CS n' H1 x g' go' es' co')
  (lg:g'.length=n') (n12:n'<=12) (l40:es'.length<=40) (gn:go'.Nodup) (gl:∀ x∈go',x < n') (q:∀ (H':Hp) (ah':Addr),But b be H H'->H ah'=none->Bn CS CB n' H' b be ah' dx x (xs++[.ref nw]) [] g' go' es' co'->Q .non H'):jG CB [.ref b,.ref x] H1 Q E0:=by
 refine⟨b,be,x,dx,nw,ah,xs,U,s _ _ B.hb,s _ _ B.hbe,l9,fun ah' H' fa e1 e2 e3 bt=>?_⟩
 refine q H' ah' ((Sv s).trans bt) (s.free fa) ⟨e1,e2,e3,st.ks (bt.ks ne (s _ _ B.hb) (s _ _ B.hbe)),fun z=>?_,lg,n12,l40,gn,gl⟩
 rw[← z,s _ _ B.hbe] at fa
 cases fa
inductive zF (CS CB:Addr)(vs:G1)(H:Hp)(Q:VK)(e3:XK):Prop where
 | mk (b dx:Addr) (_:vs=[.ref b]) (_:H b=some (.ins CB dx [])) (_:∀ (be ah nw:Addr) (H':Hp),H be=none->H ah=none->(∀ a o,a≠b->H a=some o->H' a=some o)->Bn CS CB 0 H' b be ah dx nw [] [] [] [] [] 0->Q .non H')
theorem sW {CS CB:Addr} (F:Fun K "__init__" "Boon.__init__" jB f fd) (S:Ax K CB) (RO:Dk2 P w K mg base "Stand" CS 1 WV (gU CS)) :
  aY P w K mg base CX0 3 f fd ZO (zF CS CB):=by
 refine okA F mV fun H Q E hr h=>?_
 obtain⟨b,dx,rfl,hb,q⟩:=h
 refine⟨_,(ao (jQ (pv 0) (Cr RO hr (aj (bc dM) (aj (bc dM) (aj (bc dM) (a1 aq))))) U)
 (ao (jQ (pv 0) (bI dM) U)
 (aC (jQ (pv 0) (bI dM) U)))),?_⟩
 refine⟨smN 0,fun p1 h1=>?_⟩
 generalize eH1:upd H p1 _=H1
 obtain⟨g1,e1⟩:=aG eH1 h1
 refine⟨smN 0,fun p2 h2=>?_⟩
 generalize eH2:upd H1 p2 _=H2
 obtain⟨g2,e2⟩:=aG eH2 h2
 refine⟨smN 0,fun p3 h3=>?_⟩
 generalize eH3:upd H2 p3 _=H3
 obtain⟨g3,e3⟩:=aG eH3 h3
 have s3:=g1.trans (g2.trans g3)
 intro x dx2 hx hdx hne
 refine jW hx hdx hne fun H4 sB e4=>⟨U,?_⟩
 have s4:=s3.trans sB
 refine⟨_,U,b,CB,dx,_,U,s4 _ _ hb,S.cl,S.now,by show 0 < 1000;decide,?_⟩
 have k1:∀ a o,a≠b->H4 a=some o->upd H4 b (.ins CB dx (rM "now" (.ref x) [])) a=some o:=fun a o h z=>by rw[aD h];exact z
 generalize eH5:upd H4 b _=H5 at k1
 have e5:H5 b=some (.ins CB dx [("now",.ref x)]):=by rw[← eH5];exact aa
 refine⟨smN 0,fun be hbe=>?_⟩
 generalize eH6:upd H5 be _=H6
 obtain⟨g6,e6⟩:=aG eH6 hbe
 refine⟨_,U,b,CB,dx,_,U,g6 _ _ e5,S.cl,S.behind,by show 1 < 1000;decide,?_⟩
 have bb:be≠b:=fun z=>by rw[z,e5] at hbe;cases hbe
 have k2:∀ a o,a≠b->H6 a=some o->upd H6 b (.ins CB dx (rM "behind" (.ref be) [("now",.ref x)])) a=some o:=fun a o h z=>by rw[aD h];exact z
 generalize eH7:upd H6 b _=H7 at k2
 have e7:H7 b=some (.ins CB dx [("now",.ref x),("behind",.ref be)]):=by rw[← eH7];exact aa
 refine⟨smN 0,fun ah hah=>?_⟩
 have ab:ah≠b:=fun z=>by rw[z,e7] at hah;cases hah
 generalize eH8:upd H7 ah _=H8
 obtain⟨g8,e8⟩:=aG eH8 hah
 refine⟨_,U,b,CB,dx,_,U,g8 _ _ e7,S.cl,S.ahead,by show 2 < 1000;decide,?_⟩
 have k3:∀ a o,a≠b->H8 a=some o->upd H8 b (.ins CB dx (rM "ahead" (.ref ah) [("now",.ref x),("behind",.ref be)])) a=some o:=fun a o h z=>by rw[aD h];exact z
 generalize eH9:upd H8 b _=H9 at k3
 have e9:H9 b=some (.ins CB dx (bnF x be ah)):=by rw[← eH9];exact aa
 have all:∀ a o,a≠b->H4 a=some o->H9 a=some o:=fun a o h z=>k3 a o h (g8 _ _ (k2 a o h (g6 _ _ (k1 a o h z))))
 have tp:∀ (p:Addr) (xs:G1),H4 p=some (HO.tup xs)->H9 p=some (HO.tup xs):=fun p xs z=>all p _ (fun y=>by rw[y,s4 _ _ hb] at z;cases z) z
 have xb:x≠b:=fun z=>by rw[z] at hx;rw[s3 _ _ hb] at hx;cases hx
 have e6':H7 be=some (.lst []):=k2 _ _ bb e6
 have old:∀ a,a≠b->H5 a=none->H a=none:=fun a hn h=>by
  cases hq:H a with
  | none=>rfl
  | some o =>
   have:=k1 a o hn (s4 _ _ hq)
   rw[h] at this
   cases this
 refine q be ah x H9 (old be bb hbe) ?_ (fun a o h z=>all a o h (s4 _ _ z)) ⟨e9,k3 _ _ bb (g8 _ _ e6'),k3 _ _ ab e8,⟨dx2,p1,p2,p3,[],all _ _ xb e4,tp _ _ (sB _ _ (g3 _ _ (g2 _ _ e1))),tp _ _ (sB _ _ (g3 _ _ e2)),tp _ _ (sB _ _ e3),.nil⟩,fun z=>?_,U,by decide,by decide,.nil,by simp⟩
 ·refine old ah ab ?_
  cases hq:H5 ah with
  | none=>rfl
  | some o =>
   have:=k2 ah o ab (g6 _ _ hq)
   rw[hah] at this
   cases this
 ·rw[← z,e6'] at hah
  cases hah
inductive BP (CS CB CF:Addr)(vs:G1)(H:Hp)(Q:VK)(E:XK):Prop where
 | mk (b be ah dx nw:Addr) (n co:Nat) (xs zs:G1) (g:E9) (go:Fa) (es:List Ent) (_:vs=[.ref b]) (_:Bn CS CB n H b be ah dx nw xs zs g go es co) (_:xs.length<=900) (_:(12<=n->thrown CF "full" H E)) (_:(n < 12->∀ (H':Hp) (nw' ah':Addr),But b be H H'->H ah'=none->Bn CS CB (n+1) H' b be ah' dx nw' (xs++[.ref nw]) [] (g++[0]) go es co->Q (vN n) H'))
theorem qi {CS CB CF:Addr} {t1:Tok} (ne:CB≠CS) (F:Fun K "come" "Boon.come" jM f fd) (B:Bt mg) (S:uZ K CS) (T:Ax K CB) (UM:mg "MOST_FOLK" = some (.int 12 t1))
  (RO:Dk2 P w K mg base "Stand" CS 1 WV (gU CS)) (RI:Dm2 P w K mg base CB "go_on" 1 Zl (jG CB)) (UC:Xc P w K mg base "Full" CF "full") :
  aY P w K mg base (XL P w) 4 f fd ZO (BP CS CB CF):=by
 refine G6 F lZ fun H Q E hr h=>?_
 obtain⟨b,be,ah,dx,nw,n,co,xs,zs,g,go,es,rfl,hB,l9,hF,q⟩:=h
 refine⟨_,(ao (sT 1 lZ.nd (pfd K 0))
 (ao (c7 (aK lA (pln K B.len_ (pfd K 1)) (mR UM)) (aC (dB UC hr U cN)) bh)
 (ao (aU (Fy RI hr (pv 0) (a1 (Cr RO hr (aj (aM (r:=uX K) tW (pfd K 1) (bc (a1 aq))) (aj (pfd K 1) (aj (pfd K 1) (a1 (pfd K 1)))))))))
 (sR (pln K B.len_ (pfd K 1)))))),?_⟩
 have hb:=hB.hb
 have lg:=hB.lg
 obtain⟨dx2,ga,goa,sa,us,hs,hga,hgoa,hsa,hes⟩:=id hB.st
 refine eX (fun σ H1=>σ=[oR b,oR nw]/\H1=H) ?_ ?_
 ·intro N Rc
  exact⟨_,U,b,CB,dx,_,_,U,hb,T.cl,T.now,U,Rc _ _ ⟨U,U⟩⟩
 rintro σ H0 ⟨rfl,rfl⟩
 refine eX (fun σ H1=>σ=[oR b,oR nw]/\H1=H0/\n < 12) ?_ ?_
 ·intro N Rc
  refine⟨_,U,nw,CS,dx2,_,_,U,hs,S.cl,S.green,U,ga,_,U,.inr (sqT hga),_,_,U,U,_,U,?_⟩
  by_cases z:12<=n
  ·rw[dcT (show ((12:Int)<=(((g.map V.int).length:Nat):Int)) by rw[TJ];lia)]
   exact dq (hF z)
  ·rw[dcF (show ¬ ((12:Int)<=(((g.map V.int).length:Nat):Int)) by rw[TJ];lia)]
   exact bZ (Rc _ _ ⟨U,U,by lia⟩)
 rintro σ H1 ⟨rfl,rfl,h12⟩
 replace q:=q h12
 refine eX (fun σ H2=>∃ (nw' ah':Addr),σ=[oR b,oR nw]/\But b be H1 H2/\H1 ah'=none/\Bn CS CB (n+1) H2 b be ah' dx nw' (xs++[.ref nw]) [] (g++[0]) go es co) ?_ ?_
 ·intro N Rc
  refine⟨_,U,b,dx,_,U,hb,U,_,U,nw,CS,dx2,_,_,U,hs,S.cl,S.green,U,smN 1,fun p1 h1=>?_⟩
  generalize eH2:upd H1 p1 _=H2
  obtain⟨g2,e2⟩:=aG eH2 h1
  refine Ss (g2 _ _ hga) e2 (by rw[TJ];show g.length+1<=1000;lia) fun p H3 s3 e3=>?_
  have s13:=g2.trans s3
  have e3:H3 p=some (.tup ((g++[0]).map V.int)):=by rw[e3,Ub];rfl
  have hs3:=s13 _ _ hs
  refine⟨_,U,nw,CS,dx2,_,_,U,hs3,S.cl,S.gone,U,_,U,nw,CS,dx2,_,_,U,hs3,S.cl,S.standing,U,_,U,nw,CS,dx2,_,_,U,hs3,S.cl,S.coming,U,fun x dx3 hx hdx hne=>?_⟩
  refine jW hx hdx hne fun H4 s4 e4=>⟨U,?_⟩
  have s14:=s13.trans s4
  exact Gp (Q:=fun _ H1=>N [some (.ref b),some (.ref nw)] H1) hB ne l9 s14 ⟨dx3,p,goa,sa,us,e4,s4 _ _ e3,s14 _ _ hgoa,s14 _ _ hsa,(hes.aN fun a ys z=>s14 _ _ z).le (We n)⟩ (by rw[Ui,lg];rfl) (by lia) hB.l40 hB.gn (fun x hx=>Vv (hB.gl x hx)) fun H' ah' bt fa hB'=>Rc _ _ ⟨_,ah',U,bt,fa,hB'⟩
 rintro σ H2 ⟨nw',ah',rfl,bt,fa,hB'⟩
 have ks:=bt.ks ne hb hB.hbe
 refine⟨_,U,nw,CS,dx2,_,_,U,ks.2 _ _ _ hs,S.cl,S.green,U,ga,_,U,.inr (sqT (ks.1 _ _ hga)),?_⟩
 rw[TJ,lg]
 exact q H2 nw' ah' bt fa hB'
structure XA where
 nf:Addr
 go:Addr
 bp:Addr
 fu:Addr
 np:Addr
 bd:Addr
 nd:Addr
 br:Addr
 nl:Addr
def XA.of (x:XA)(w:Ut):Addr:=if w = "no folk" then x.nf else if w = "gone" then x.go else if w = "bad pledge" then x.bp else if w = "full" then x.fu else if w = "no pledge" then x.np else if w = "bound" then x.bd else if w = "not due" then x.nd else if w = "bad rise" then x.br else x.nl
def Th (x:XA)(w:Ut)(H:Hp)(E:XK):Prop:=thrown (x.of w) w H E
theorem Th.mono {x:XA}{w:Ut}{H H1:Hp}{E:XK}(s:aH H H1)(h:Th x w H E):Th x w H1 E:=thrown.mono s h
section
variable {x:XA}
theorem RP:x.of "no folk" = x.nf:=by unfold XA.of;rw[iPo U]
theorem Q7:x.of "gone" = x.go:=by unfold XA.of;rw[iNe (by decide),iPo U]
theorem Pr:x.of "bad pledge" = x.bp:=by unfold XA.of;rw[iNe (by decide),iNe (by decide),iPo U]
theorem Rh:x.of "full" = x.fu:=by unfold XA.of;rw[iNe (by decide),iNe (by decide),iNe (by decide),iPo U]
theorem Rm:x.of "not due" = x.nd:=by unfold XA.of;rw[iNe (by decide),iNe (by decide),iNe (by decide),iNe (by decide),iNe (by decide),iNe (by decide),iPo U]
theorem O4:x.of "bad rise" = x.br:=by unfold XA.of;rw[iNe (by decide),iNe (by decide),iNe (by decide),iNe (by decide),iNe (by decide),iNe (by decide),iNe (by decide),iPo U]
end
def miW (n:Nat)(go:Fa)(o:Int):Ut:=if o < 0∨(n:Int)<=o then "no folk" else if o.toNat∈go then "gone" else ""
theorem iG {n i:Nat} {go:Fa} (hi:i < n):miW n go (i:Int)=if i∈go then ("gone" : Ut) else "":=by
 unfold miW
 rw[iNe (by lia),U7]
theorem rF {CS:Addr} {x:XA} {st:Addr} {one:Int} {n co:Nat} {g:E9} {go:Fa} {es:List Ent} {H:Hp} {Q:VK} {E:XK} (hst:eQ CS n H st g go es co) (lg:g.length=n) (hw:miW n go one≠""->Th x (miW n go one) H E) (q:∀ i:Nat,one=i->i < n->i ∉ go->Q .non H):nO CS x.nf x.go [.ref st,.int one] H Q E:=by
 refine⟨st,one,n,co,g,go,es,U,hst,fun z=>?_,fun i e hi hg=>?_,fun i e hi hg=>q i e (by lia) hg⟩
 ·have e:miW n go one = "no folk":=by unfold miW;rw[iPo (by lia)]
  have:=hw (by rw[e];decide)
  unfold Th at this
  rw[e,RP] at this
  exact this
 ·have e:miW n go one = "gone":=by rw[e,iG (by lia),iPo hg]
  have:=hw (by rw[e];decide)
  unfold Th at this
  rw[e,Q7] at this
  exact this
def plW (n:Nat)(go:Fa)(es:List Ent)(o:Int)(pl:Pl):Ut:=if miW n go o≠"" then miW n go o else if ∃ x∈pl,nn o.toNat x.2=false then "bad pledge" else if 40<=es.length then "full" else ""
inductive nZ (CS CB:Addr)(x:XA)(vs:G1)(H:Hp)(Q:VK)(E:XK):Prop where
 | mk (b be ah dx nw p:Addr) (one:Int) (n co:Nat) (xs zs:G1) (g:E9) (go:Fa) (es:List Ent) (pl:Pl) (_:vs=[.ref b,.int one,.ref p]) (_:Bn CS CB n H b be ah dx nw xs zs g go es co) (_:j6 n H p pl) (_:xs.length<=900) (_:(plW n go es one pl≠""->Th x (plW n go es one pl) H E)) (_:(plW n go es one pl = ""->∀ (H':Hp) (nw' ah':Addr),But b be H H'->H ah'=none->Bn CS CB n H' b be ah' dx nw' (xs++[.ref nw]) [] g go (es++[(co,one.toNat,pl)]) (co+1)->Q (vN co) H'))
theorem mO {CS CB:Addr} {x:XA} {t1:Tok} {k:Nat} (hk:4<=k) (ne:CB≠CS) (F:Fun K "pledge" "Boon.pledge" gR f fd) (B:Bt mg) (S:uZ K CS) (T:Ax K CB) (UO:mg "MOST_PLEDGES" = some (.int 40 t1))
  (Sa:Dx P w K mg base "check_there" 4 ZB (nO CS x.nf x.go)) (RY:Dx P w K mg base "check_pledge" k X1 (xN CS x.bp))
  (RO:Dk2 P w K mg base "Stand" CS 1 WV (gU CS)) (RI:Dm2 P w K mg base CB "go_on" 1 Zl (jG CB)) (UC:Xc P w K mg base "Full" x.fu "full") :
  aY P w K mg base (XL P w) (k+1) f fd X9 (nZ CS CB x):=by
 refine G6 F jg fun H Q E hr h=>?_
 obtain⟨b,be,ah,dx,nw,p,one,n,co,xs,zs,g,go,es,pl,rfl,hB,hp,l9,hw,q⟩:=h
 refine⟨_,(ao (sT 3 jg.nd (pfd K 0))
 (ao (aU (sO Sa hr dh (v2 3 1)))
 (ao (aU (sO RY hr dh (aj (pv 3) (v2 1 2))))
 (ao (c7 (aK lA (pln K B.len_ (pfd K 3)) (mR UO)) (aC (dB UC hr U cN (hk:=(Ye hk)))) bh)
 (ao (aU (Fy RI hr (pv 0) (a1 (Cr RO hr (aj (pfd K 3) (aj (pfd K 3) (aj (aM (r:=uX K) tW (pfd K 3) (bc (a1 (bc (aj (pfd K 3) (v2 1 2)))))) (a1 (aM bA (pfd K 3) aq)))))))))
 (sR (pfd K 3))))))),?_⟩
 have hb:=hB.hb
 have hst:=hB.st
 refine eX (fun σ H1=>σ=[oR b,oI one,oR p,oR nw]/\H1=H) ?_ ?_
 ·intro N Rc
  exact⟨_,U,b,CB,dx,_,_,U,hb,T.cl,T.now,U,Rc _ _ ⟨U,U⟩⟩
 rintro σ H0 ⟨rfl,rfl⟩
 refine eX (fun σ H1=>∃ i:Nat,one=i/\i < n/\i ∉ go/\σ=[oR b,some (vN i),oR p,oR nw]/\H1=H0) ?_ ?_
 ·intro N Rc
  refine⟨_,U,_,U,rF (Q:=fun _ H1=>N [some (.ref b),some (.int one),some (.ref p),some (.ref nw)] H1) hst hB.lg (fun z=>?_) fun i e hi hg=>Rc _ _ ⟨i,e,hi,hg,by rw[e];rfl,U⟩⟩
  have e:plW n go es one pl=miW n go one:=by unfold plW;rw[iPo z]
  rw[← e]
  exact hw (by rw[e];exact z)
 rintro σ H1 ⟨i,rfl,hone,hgo,rfl,rfl⟩
 have e0:plW n go es (i:Int) pl=if ∃ x∈pl,nn i x.2=false then ("bad pledge" : Ut) else if 40<=es.length then "full" else "":=by
  unfold plW
  rw[iG hone,iNe hgo,iNe (fun z=>z U),U7]
 rw[e0] at hw q
 rw[U7] at q
 refine eX (fun σ H2=>σ=[oR b,some (vN i),oR p,oR nw]/\aH H1 H2/\∀ x∈pl,nn i x.2=true) ?_ ?_
 ·intro N Rc
  refine⟨_,U,_,U,_,U,nw,p,i,n,co,g,go,es,pl,U,hst,hB.lg,by lia,hB.n12,hp,fun z=>?_,fun hn H2 s2=>Rc _ _ ⟨U,s2,hn⟩⟩
  rw[iPo z] at hw
  have:=hw (by decide)
  unfold Th at this
  rw[Pr] at this
  exact this
 rintro σ H2 ⟨rfl,s2,hn⟩
 rw[iNe (fun⟨y,hy,z⟩=>by rw[hn y hy] at z;cases z)] at hw q
 replace hB:=hB.same s2
 obtain⟨dx2,ga,goa,sa,us,hs,hga,hgoa,hsa,hes⟩:=id hB.st
 have les:=hes.length
 refine eX (fun σ H3=>σ=[oR b,some (vN i),oR p,oR nw]/\H3=H2/\es.length < 40) ?_ ?_
 ·intro N Rc
  refine⟨_,U,nw,CS,dx2,_,_,U,hs,S.cl,S.standing,U,sa,_,U,.inr (sqT hsa),_,_,U,U,_,U,?_⟩
  by_cases z:40<=es.length
  ·rw[dcT (show ((40:Int)<=((us.length:Nat):Int)) by lia)]
   rw[iPo z] at hw
   have:=hw (by decide)
   unfold Th at this
   rw[Rh] at this
   exact dq (this.mono s2)
  ·rw[dcF (show ¬ ((40:Int)<=((us.length:Nat):Int)) by lia)]
   exact bZ (Rc _ _ ⟨U,U,by lia⟩)
 rintro σ H3 ⟨rfl,rfl,l40'⟩
 rw[iNe (by lia)] at q
 replace q:=q U
 have hb3:=hB.hb
 refine eX (fun σ H4=>∃ (nw' ah':Addr),σ=[oR b,some (vN i),oR p,oR nw]/\But b be H3 H4/\H3 ah'=none/\Bn CS CB n H4 b be ah' dx nw' (xs++[.ref nw]) [] g go (es++[(co,i,pl)]) (co+1)) ?_ ?_
 ·intro N Rc
  refine⟨_,U,b,dx,_,U,hb3,U,_,U,nw,CS,dx2,_,_,U,hs,S.cl,S.green,U,_,U,nw,CS,dx2,_,_,U,hs,S.cl,S.gone,U,_,U,nw,CS,dx2,_,_,U,hs,S.cl,S.standing,U,_,U,nw,CS,dx2,_,_,U,hs,S.cl,S.coming,U,_,U,_,U,smN 3,fun p1 h1=>?_⟩
  generalize eH5:upd H3 p1 _=H5
  obtain⟨g5,e5⟩:=aG eH5 h1
  refine⟨smN 1,fun p2 h2=>?_⟩
  generalize eH6:upd H5 p2 _=H6
  obtain⟨g6,e6⟩:=aG eH6 h2
  have s36:=g5.trans g6
  refine Ss (s36 _ _ hsa) e6 (by show us.length+1<=1000;lia) fun p3 H7 s7 e7=>?_
  have s37:=s36.trans s7
  refine⟨_,U,nw,CS,dx2,_,_,U,s37 _ _ hs,S.cl,S.coming,U,_,_,U,U,fun y dx3 hx hdx hne=>?_⟩
  refine jW hx hdx hne fun H8 s8 e8=>⟨U,?_⟩
  have s38:=s37.trans s8
  have t38:∀ a ys,H3 a=some (HO.tup ys)->H8 a=some (HO.tup ys):=fun a ys q=>s38 a _ q
  exact Gp (Q:=fun _ H1=>N [some (.ref b),some (vN i),some (.ref p),some (.ref nw)] H1) hB ne l9 s38 ⟨dx3,ga,goa,p3,us++[.ref p1],e8,s38 _ _ hga,s38 _ _ hgoa,s8 _ _ e7,cF.snoc (s8 _ _ (s7 _ _ (g6 _ _ e5))) ((hp.aN fun a ys q=>s2 a _ q).aN t38) (hes.aN t38)⟩ hB.lg hB.n12 (by rw[Ui];show es.length+1<=40;lia) hB.gn hB.gl fun H' ah' bt fa hB'=>Rc _ _ ⟨_,ah',U,bt,fa,hB'⟩
 rintro σ H4 ⟨nw',ah',rfl,bt,fa,hB4⟩
 have ks:=bt.ks ne hb3 hB.hbe
 exact⟨_,U,nw,CS,dx2,_,_,U,ks.2 _ _ _ hs,S.cl,S.coming,U,q H4 nw' ah' ((Sv s2).trans bt) (s2.free fa) hB4⟩
abbrev ju:Stmt:=top 44
abbrev jy:Stmt:=inClass (top 45) 7
theorem cA:aB ["stand","rises","steps","crowd","one","step","green"] YU (au ju):=cM
theorem vH:aB Zp Zp (au jy):=cM
inductive RiI (H:Hp):G1->ES->Prop where
 | nil:RiI H [] []
 | cons {us:G1} {ps:ES} {e:Addr} {o s:Int} (h:H e=some (.tup [.int o,.int s])) (r:RiI H us ps):RiI H (.ref e::us) ((o,s)::ps)
theorem RiI.aN {H H':Hp}(t:∀ a xs,H a=some (HO.tup xs)->H' a=some (HO.tup xs)):∀ {us:G1} {ps:ES},RiI H us ps->RiI H' us ps
 | _,_,.nil=>.nil
 | _,_,.cons h r=>.cons (t _ _ h) (r.aN t)
theorem RiI.length {H:Hp}:∀ {us:G1} {ps:ES},RiI H us ps->us.length=ps.length
 | _,_,.nil=>rfl
 | _,_,.cons _ r=>congrArg (· + 1) r.length
theorem RiI.get {H:Hp}:∀ {us:G1} {ps:ES} {i:Nat} {u:V},RiI H us ps->us[i]? = some u->∃ (e:Addr) (o s:Int),u = .ref e/\ps[i]? = some (o,s)/\H e=some (.tup [.int o,.int s])
 | _,_,0,_,.cons h _,q=>by
  cases q
  exact⟨_,_,_,U,U,h⟩
 | _,_,i+1,_,.cons _ r,q=>r.get (i:=i) q
def seI (g:E9)(ps:ES):E9:=ps.foldl (fun g x=>g.set x.1.toNat x.2) g
theorem yD (ps:ES):∀ g:E9,(seI g ps).length=g.length:=by
 induction ps with
 | nil=>intro g;rfl
 | cons x r ih =>
  intro g
  show (seI (g.set x.1.toNat x.2) r).length=_
  rw[ih,Y0]
theorem Iu (g:E9)(ps:ES)(x:Int × Int):seI g (ps++[x])=(seI g ps).set x.1.toNat x.2:=by
 unfold seI
 rw[List.foldl_append]
 rfl
theorem BL {ps:ES}{j:Nat}:∀ {g:E9},(∀ x∈ps,x.1.toNat≠j)->(seI g ps).getD j 0=g.getD j 0:=by
 induction ps with
 | nil=>intro g _;rfl
 | cons x r ih =>
  intro g h
  show (seI (g.set x.1.toNat x.2) r).getD j 0=_
  rw[ih fun y hy=>h y (Ug _ hy),TY,Yv (h x Uc),← TY]
theorem Oq {ps:ES}:∀ {g:E9} {x:Int × Int},(ps.map (·.1.toNat)).Nodup->x∈ps->x.1.toNat < g.length->(seI g ps).getD x.1.toNat 0=x.2:=by
 induction ps with
 | nil=>intro g x _ h;cases h
 | cons y r ih =>
  intro g x nd h hl
  rw[U0,aaE] at nd
  show (seI (g.set y.1.toNat y.2) r).getD x.1.toNat 0=_
  rcases List.mem_cons.mp h with z | z
  ·rw[z] at hl ⊢
   rw[BL fun w hw e=>nd.1 (by rw[← e];exact ZL hw),TY,Zd hl]
   rfl
  ·exact ih nd.2 z (by rw[Y0];exact hl)
def riW (n:Nat)(g:E9)(go:Fa):Fa->ES->Ut
 | _,[]=>""
 | seen,x::r=>if miW n go x.1≠"" then miW n go x.1 else if x.1.toNat∈seen∨¬ (g.getD x.1.toNat 0 < x.2/\x.2<=9) then "bad rise" else riW n g go (seen++[x.1.toNat]) r
def haW (n:Nat)(g:E9)(go:Fa)(es:List Ent)(ps:ES):Ut:=if ps=[] then "bad rise" else if riW n g go [] ps≠"" then riW n g go [] ps else if ∃ x∈ps,mxD 0 (owL es x.1.toNat (seI g ps)) < x.2 then "not due" else ""
structure HY (n:Nat)(g:E9)(go:Fa)(ps:ES)(i:Nat):Prop where
 on:riW n g go ((ps.take i).map (·.1.toNat)) (ps.drop i)=riW n g go [] ps
 nd:((ps.take i).map (·.1.toNat)).Nodup
 al:∀ x∈ps.take i,∃ j:Nat,x.1=j/\j < n/\j ∉ go/\g.getD j 0 < x.2/\x.2<=9
theorem HY.zero (n:Nat)(g:E9)(go:Fa)(ps:ES):HY n g go ps 0:=⟨U,aad,fun x hx=>by rw[Vp] at hx;cases hx⟩
section
variable {n:Nat}{g:E9}{go:Fa}{ps:ES}{i:Nat}{o s:Int}
theorem HY.word (h:HY n g go ps i) (hp:ps[i]? = some (o,s)):riW n g go [] ps=if miW n go o≠"" then miW n go o else if o.toNat∈(ps.take i).map (·.1.toNat)∨¬ (g.getD o.toNat 0 < s/\s<=9) then ("bad rise" : Ut) else riW n g go ((ps.take i).map (·.1.toNat)++[o.toNat]) (ps.drop (i+1)):=by
 have ip:=(geS hp).1
 rw[← h.on,YG ip,(geS hp).2]
 rfl
theorem HY.step (h:HY n g go ps i)(hp:ps[i]? = some (o,s)){j:Nat}(ej:o=j)(hj:j < n)(hg:j ∉ go)(hs:j ∉ (ps.take i).map (·.1.toNat))(h1:g.getD j 0 < s)(h9:s<=9):HY n g go ps (i+1):=by
 have nx:ps.take (i+1)=ps.take i++[(o,s)]:=by rw[UT,hp];rfl
 have w:=h.word hp
 rw[ej,iG hj,iNe hg,iNe (fun z=>z U),U7,iNe (fun z=>z.elim hs fun z=>z ⟨h1,h9⟩)] at w
 refine⟨?_,?_,fun x hx=>?_⟩
 ·rw[w,nx,Ub,ej]
  rfl
 ·rw[nx,Ub,List.nodup_append]
  refine⟨h.nd,by simp,fun x hx y hy z=>hs ?_⟩
  have hy':y=j:=by
   rw[ej] at hy
   simpa using hy
  rw[← hy',← z]
  exact hx
 ·rw[nx] at hx
  rcases List.mem_append.mp hx with z | z
  ·exact h.al x z
  ·rw[List.mem_singleton.mp z]
   exact⟨j,ej,hj,hg,h1,h9⟩
end
inductive uN (CS:Addr)(x:XA)(vs:G1)(H:Hp)(Q:VK)(E:XK):Prop where
 | mk (st ra:Addr) (n co:Nat) (g:E9) (go:Fa) (es:List Ent) (us:G1) (ps:ES) (_:vs=[.ref st,.ref ra]) (_:eQ CS n H st g go es co) (_:g.length=n) (_:es.length<=40) (_:H ra=some (.lst us)) (_:RiI H us ps) (_:ps.length<=100) (_:(haW n g go es ps≠""->Th x (haW n g go es ps) H E)) (_:(haW n g go es ps = ""->∀ (st':Addr) (H':Hp),aH H H'->eQ CS n H' st' (seI g ps) go es co->Q (.ref st') H'))
theorem qj {CS:Addr} {x:XA} {t1:Tok} {k:Nat} (hk:4<=k) (F:Fun K "handed_in" "handed_in" ju f fd) (B:Bt mg) (S:uZ K CS) (UQ:mg "MOST_STEP" = some (.int 9 t1))
  (Sa:Dx P w K mg base "check_there" 4 ZB (nO CS x.nf x.go)) (Sm:Df P w K mg base "is_number" 1 Yf fU) (SY:Df P w K mg base "owed_of" k XI nC) (RO:Dk2 P w K mg base "Stand" CS 1 WV (gU CS))
  (UA:Xc P w K mg base "BadRise" x.br "bad rise") (UH:Xc P w K mg base "NotDue" x.nd "not due") :
  aY P w K mg base (XL P w) (k+1) f fd YU (uN CS x):=by
 refine G6 F cA fun H Q E hr h=>?_
 obtain⟨st,ra,n,co,g,go,es,us,ps,rfl,hst,lg,l40,hra,hri,p100,hw,q⟩:=h
 refine⟨_,(ao (c7 (aK bw (pln K B.len_ (pv 1)) aq) (aC (dB UA hr U cN (hk:=(Ye hk)))) bh)
 (ao (sT 2 cA.nd (bf (r:=sV K) kh U B.list_ oG (a1 (pfd K 0))))
 (ao (sT 3 cA.nd (bI dM))
 (ao (dC PassesOwn.leaving U (fV (pv 1)) (dZ (K:=K) 2 U U (aR (pgN 4 cA.nd) (aR (pgN 5 cA.nd) eF))) (ao (aU (sO Sa hr dh (v2 0 4)))
 (ao (c7 (PW.pt (lO (jK (r:=rIn K false) fY (pv 4) (pv 3) U) (ir (dG (bV (aP Sm hr (aj (pv 5) (aj (aM bA (pxL K (pv 2) (pv 4)) aq) (a1 (mR UQ)))))))))) (aC (dB UA hr U cN (hk:=(Ye hk)))) bh)
 (ao (Kl (pv 5) (Ob (pv 2) (pv 4) set_list))
 (aC (aU (yH Wq Wh Wg cL (pv 3) (v1 4))))))))
 (ao (sT 6 cA.nd (bf (r:=gm K) bu U B.tuple_ bC (v1 2)))
 (ao (dC PassesOwn.leaving U (fV (pv 3)) (pgN 4 cA.nd) (aC (c7 (aK xP (pxT K (pv 6) (pv 4)) (aP SY hr (aj (pfd K 0) (v2 4 6)))) (aC (dB UH hr U cN (hk:=(Ye hk)))) bh)))
 (sR (Cr RO hr (aj (pv 6) (aj (pfd K 0) (aj (pfd K 0) (a1 (pfd K 0))))))))))))),?_⟩
 obtain⟨dx,ga,goa,sa,es0,hs,hga,hgoa,hsa,hes⟩:=id hst
 have lus:=hri.length
 refine eX (fun σ H1=>σ=[oR st,oR ra,none,none,none,none,none]/\H1=H/\ps≠[]) ?_ ?_
 ·intro N Rc
  refine⟨_,U,ra,_,U,.inl (sqL hra),U,_,U,?_⟩
  by_cases z:ps=[]
  ·rw[show decide (V.int ((us.length:Nat):Int)=V.int 0)=true from dcT (by rw[lus,z];rfl)]
   have e:haW n g go es ps = "bad rise":=by unfold haW;rw[iPo z]
   rw[e] at hw
   have:=hw (by decide)
   unfold Th at this
   rw[O4] at this
   exact dq this
  ·have p0:0 < ps.length:=List.length_pos_iff.mpr z
   rw[show decide (V.int ((us.length:Nat):Int)=V.int 0)=false from dcF fun y=>by injection y with y;lia]
   exact bZ (Rc _ _ ⟨U,U,z⟩)
 rintro σ H1 ⟨rfl,rfl,pne⟩
 have eha:haW n g go es ps=if riW n g go [] ps≠"" then riW n g go [] ps else if ∃ x∈ps,mxD 0 (owL es x.1.toNat (seI g ps)) < x.2 then ("not due" : Ut) else "":=by unfold haW;rw[iNe pne]
 rw[eha] at hw q
 refine eX (fun σ F1=>∃ a1:Addr,σ=[oR st,oR ra,oR a1,none,none,none,none]/\aH H1 F1/\F1 a1=some (.lst (g.map V.int))/\H1 a1=none) ?_ ?_
 ·intro N Rc
  exact⟨_,U,st,CS,dx,_,_,U,hs,S.cl,S.green,U,ga,_,U,.inr (sqT hga),fun a1 h1=>Rc _ _ ⟨a1,U,aA h1 _,aa,h1⟩⟩
 rintro σ F1 ⟨a1,rfl,gf1,ef1,h1⟩
 refine eX (fun σ F2=>∃ a2:Addr,σ=[oR st,oR ra,oR a1,oR a2,none,none,none]/\aH F1 F2/\F2 a2=some (.lst [])/\F1 a2=none) ?_ ?_
 ·intro N Rc
  exact⟨smN 0,fun a2 h2=>Rc _ _ ⟨a2,U,aA h2 _,aa,h2⟩⟩
 rintro σ F2 ⟨a2,rfl,gf2,ef2,h2⟩
 have n12':a1≠a2:=fun z=>by rw[z,h2] at ef1;cases ef1
 have ef1':=gf2 _ _ ef1
 have h2':H1 a2=none:=gf1.free h2
 refine eX (fun σ H3=>∃ (u v:GU),σ=[oR st,oR ra,oR a1,oR a2,u,v,none]/\aH H1 H3/\H3 a1=some (.lst ((seI g ps).map V.int))/\H3 a2=some (.lst ((ps.map (·.1.toNat)).map vN))/\HY n g go ps ps.length) ?_ ?_
 ·intro N Rc
  refine⟨_,U,ra,U,⟨_,sqL ((gf1.trans gf2) _ _ hra)⟩,j8 (K:=K) (a:=ra) (xs:=us) (fun i σ H3=>∃ (u v:GU),σ=[oR st,oR ra,oR a1,oR a2,u,v,none]/\aH H1 H3/\H3 a1=some (.lst ((seI g (ps.take i)).map V.int))/\H3 a2=some (.lst (((ps.take i).map (·.1.toNat)).map vN))/\HY n g go ps i)
   ⟨_,_,U,gf1.trans gf2,ef1',ef2,.zero n g go ps⟩ (fun i σ H3 _ h=>by obtain⟨_,_,_,z,_⟩:=h;exact sqL (z _ _ hra)) ?_ ?_⟩
  ·rintro i y σ H3 hx ⟨u,v,rfl,sm,e1,e2,ok⟩
   obtain⟨e,o,sp,rfl,hp,hent⟩:=hri.get hx
   have ip:=(geS hp).1
   have nx:ps.take (i+1)=ps.take i++[(o,sp)]:=by rw[UT,hp];rfl
   have wd:=ok.word hp
   refine⟨e,_,U,sqT (sm _ _ hent),U,_,_,U,_,_,U,U,?_⟩
   refine eX (fun σ H4=>∃ j:Nat,o=j/\j < n/\j ∉ go/\σ=[oR st,oR ra,oR a1,oR a2,some (vN j),oI sp,none]/\H4=H3) ?_ ?_
   ·intro N' Rc'
    refine⟨_,U,_,U,rF (Q:=fun _ H1=>N' [some (.ref st),some (.ref ra),some (.ref a1),some (.ref a2),some (.int o),some (.int sp),none] H1) (hst.ks (ksS sm)) lg (fun z=>?_) fun j ej hj hg=>Rc' _ _ ⟨j,ej,hj,hg,by rw[ej];rfl,U⟩⟩
    rw[iPo z] at wd
    rw[iPo (by rw[wd];exact z),wd] at hw
    exact (hw z).mono sm
   rintro σ H4 ⟨j,rfl,hj,hg,rfl,rfl⟩
   rw[iG hj,iNe hg,iNe (fun z=>z U),U7] at wd
   have hol:j < (seI g (ps.take i)).length:=by rw[yD];lia
   have bad:(j∈(ps.take i).map (·.1.toNat)∨¬ (g.getD j 0 < sp/\sp<=9))->thrown x.br "bad rise" H4 E:=fun z=>by
    rw[iPo z] at wd
    rw[iPo (by rw[wd];decide),wd] at hw
    have:=hw (by decide)
    unfold Th at this
    rw[O4] at this
    exact this.mono sm
   refine eX (fun σ H5=>σ=[oR st,oR ra,oR a1,oR a2,some (vN j),oI sp,none]/\H5=H4/\j ∉ (ps.take i).map (·.1.toNat)/\g.getD j 0 < sp/\sp<=9) ?_ ?_
   ·intro N' Rc'
    refine⟨_,U,_,U,a2,_,U,.inl (sqL e2),U,pM _,_,U,?_⟩
    rw[show vN j=V.int (j:Int) from U,nF]
    by_cases z:j∈(ps.take i).map (·.1.toNat)
    ·rw[iNe (show ¬ false=true from T5),dcT z]
     exact dq (bad (.inl z))
    ·rw[iNe (show ¬ false=true from T5),dcF z]
     have ge:(seI g (ps.take i)).getD j 0=g.getD j 0:=BL fun y hy e=>z (by rw[← e];exact ZL hy)
     have gei:(seI g (ps.take i)).getD j 0=(seI g (ps.take i))[j]:=by rw[TY,T8 hol];rfl
     refine bZ ?_
     refine⟨_,U,_,U,_,U,a1,_,_,_,U,U,sqL e1,lY hol,_,_,U,U,.int sp,_,9,U,.int _,_,U,?_⟩
     rw[show isNum (.int sp) ((seI g (ps.take i))[j]+1) 9=decide (g.getD j 0 < sp/\sp<=9) by
      show (decide ((seI g (ps.take i))[j]+1<=sp) && decide (sp<=9))=_
      rw[← gei,ge,Bool.decide_and]
      rfl]
     by_cases y:g.getD j 0 < sp/\sp<=9
     ·rw[dcT y]
      exact bZ (Rc' _ _ ⟨U,U,z,y⟩)
     ·rw[dcF y]
      exact dq (bad (.inr y))
   rintro σ H5 ⟨rfl,rfl,nin,h1',h9'⟩
   refine⟨_,U,_,U,_,U,a1,_,_,j,U,U,e1,?_,?_⟩
   ·unfold ixN
    rw[iPo (by lia),iPo (by rw[TJ];lia)]
    rfl
   ·generalize eU:upd _ a1 _=H6
    have e16:H6 a1=some (.lst ((seI g (ps.take (i+1))).map V.int)):=by
     rw[← eU,aa,nx,Iu,List.map_set]
     rfl
    have e26:H6 a2=some (.lst (((ps.take i).map (·.1.toNat)).map vN)):=by
     rw[← eU,aD n12'.symm]
     exact e2
    have s6:aH H1 H6:=by
     rw[← eU]
     exact aL sm h1 _
    refine⟨_,U,.inl ⟨U,_,sqL e26⟩,_,U,a2,_,_,U,U,e26,aF (by rw[TJ,TJ,Uo];lia),_,_,U,aL s6 h2' _,?_,?_,ok.step hp U hj hg nin h1' h9'⟩
    ·rw[aD n12']
     exact e16
    ·rw[aa,nx,Ub,Ub]
     rfl
  ·rintro σ H3 ⟨u,v,rfl,sm,e1,e2,ok⟩
   rw[lus] at ok
   rw[lus,Uh] at e1 e2
   exact Rc _ _ ⟨u,v,U,sm,e1,e2,ok⟩
 rintro σ H3 ⟨u,v,rfl,sm,e1,e2,ok⟩
 have ri:riW n g go [] ps = "":=by
  rw[← ok.on,List.drop_length]
  rfl
 have al:=ok.al
 have ndu:=ok.nd
 rw[Uh] at al ndu
 rw[iNe (by rw[ri];decide)] at hw q
 refine eX (fun σ H4=>∃ gr:Addr,σ=[oR st,oR ra,oR a1,oR a2,u,v,oR gr]/\aH H3 H4/\H4 gr=some (.tup ((seI g ps).map V.int))) ?_ ?_
 ·intro N Rc
  refine⟨_,U,a1,_,U,.inl ⟨sqL e1,fun l hl=>Rc _ _ ⟨l,U,aA hl _,?_⟩⟩⟩
  rw[aa]
 rintro σ H4 ⟨gr,rfl,s4,egr⟩
 have sm4:=sm.trans s4
 have sl:(seI g ps).length=n:=by rw[yD];exact lg
 refine eX (fun σ H5=>∃ u:GU,σ=[oR st,oR ra,oR a1,oR a2,u,v,oR gr]/\aH H4 H5/\∀ x∈ps,¬ mxD 0 (owL es x.1.toNat (seI g ps)) < x.2) ?_ ?_
 ·intro N Rc
  refine⟨_,U,a2,U,⟨_,sqL (s4 _ _ e2)⟩,j8 (K:=K) (a:=a2) (xs:=(ps.map (·.1.toNat)).map vN) (fun i σ H5=>∃ u:GU,σ=[oR st,oR ra,oR a1,oR a2,u,v,oR gr]/\aH H4 H5/\∀ x∈ps.take i,¬ mxD 0 (owL es x.1.toNat (seI g ps)) < x.2)
   ⟨_,U,aH.refl _,fun x hx=>by rw[Vp] at hx;cases hx⟩ (fun i σ H5 _ h=>by obtain⟨_,_,z,_⟩:=h;exact sqL (z _ _ (s4 _ _ e2))) ?_ ?_⟩
  ·rintro i y σ H5 hx ⟨u,rfl,s5,hno⟩
   rw[Ux,Ux] at hx
   obtain⟨z,hz,rfl⟩:∃ z,ps[i]? = some z/\y=vN z.1.toNat:=by
    cases w:ps[i]? with
    | none=>rw[w] at hx;cases hx
    | some z=>rw[w] at hx;cases hx;exact⟨z,U,U⟩
   have hm:=UJ hz
   obtain⟨j,ej,hj,_⟩:=al z hm
   have ejn:z.1.toNat=j:=by lia
   have hol:z.1.toNat < (seI g ps).length:=by rw[sl,ejn];exact hj
   have gei:(seI g ps)[z.1.toNat]=z.2:=by
    have h1:=Oq ndu hm (by rw[lg,ejn];exact hj)
    rw[TY,T8 hol] at h1
    exact h1
   have sm5:=sm4.trans s5
   refine⟨_,U,_,U,gr,_,_,_,U,U,sqT (s5 _ _ egr),lY hol,_,U,st,CS,dx,_,_,U,sm5 _ _ hs,S.cl,S.standing,U,_,U,_,U,sa,gr,z.1.toNat,n,es0,es,_,U,sm5 _ _ hsa,hes.aN fun a xs q=>sm5 a _ q,by lia,s5 _ _ egr,sl,fun H6 s6=>?_⟩
   refine⟨_,_,U,U,_,U,?_⟩
   rw[gei]
   by_cases y:mxD 0 (owL es z.1.toNat (seI g ps)) < z.2
   ·rw[dcT y]
    rw[iPo ⟨z,hm,y⟩] at hw
    have:=hw (by decide)
    unfold Th at this
    rw[Rm] at this
    exact dq (this.mono (sm5.trans s6))
   ·rw[dcF y]
    refine bZ ⟨_,U,s5.trans s6,fun x hx=>?_⟩
    rw[UT,hz] at hx
    rcases List.mem_append.mp hx with w | w
    ·exact hno x w
    ·rw[List.mem_singleton.mp w]
     exact y
  ·rintro σ H5 ⟨u,rfl,s5,hno⟩
   rw[TJ,TJ,Uh] at hno
   exact Rc _ _ ⟨u,U,s5,hno⟩
 rintro σ H5 ⟨u,rfl,s5,hno⟩
 rw[iNe fun⟨x,hx,z⟩=>hno x hx z] at q
 have sm5:=sm4.trans s5
 have hs5:=sm5 _ _ hs
 refine⟨_,U,_,U,st,CS,dx,_,_,U,hs5,S.cl,S.gone,U,_,U,st,CS,dx,_,_,U,hs5,S.cl,S.standing,U,_,U,st,CS,dx,_,_,U,hs5,S.cl,S.coming,U,fun y dx3 hx hdx hne=>?_⟩
 refine jW hx hdx hne fun H6 s6 e6=>⟨U,?_⟩
 have s16:=sm5.trans s6
 exact q U y H6 s16 ⟨dx3,gr,goa,sa,es0,e6,s6 _ _ (s5 _ _ egr),s16 _ _ hgoa,s16 _ _ hsa,hes.aN fun a xs q=>s16 a _ q⟩
inductive xT (CS CB:Addr)(x:XA)(vs:G1)(H:Hp)(Q:VK)(E:XK):Prop where
 | mk (b be ah dx nw ra:Addr) (n co:Nat) (xs zs us:G1) (g:E9) (go:Fa) (es:List Ent) (ps:ES) (_:vs=[.ref b,.ref ra]) (_:Bn CS CB n H b be ah dx nw xs zs g go es co) (_:xs.length<=900) (_:H ra=some (.lst us)) (_:RiI H us ps) (_:ps.length<=100) (_:(haW n g go es ps≠""->Th x (haW n g go es ps) H E)) (_:(haW n g go es ps = ""->∀ (H':Hp) (nw' ah':Addr),But b be H H'->H ah'=none->Bn CS CB n H' b be ah' dx nw' (xs++[.ref nw]) [] (seI g ps) go es co->Q .non H'))
theorem qm {CS CB:Addr} {x:XA} {k:Nat} (hk:2<=k) (ne:CB≠CS) (F:Fun K "hand" "Boon.hand" jy f fd) (B:Bt mg) (T:Ax K CB)
  (Si:Dx P w K mg base "handed_in" k YU (uN CS x)) (RI:Dm2 P w K mg base CB "go_on" 1 Zl (jG CB)):aY P w K mg base (XL P w) (k+1) f fd Zp (xT CS CB x):=by
 refine G6 F vH fun H Q E hr h=>?_
 obtain⟨b,be,ah,dx,nw,ra,n,co,xs,zs,us,g,go,es,ps,rfl,hB,l9,hra,hri,p100,hw,q⟩:=h
 refine⟨_,(aC (aU (Fy RI hr (pv 0) (a1 (sO Si hr dh (aj (pfd K 0) (v1 1))))))),_,U,b,dx,_,U,hB.hb,U,_,U,b,CB,dx,_,_,U,hB.hb,T.cl,T.now,U,_,U,nw,ra,n,co,g,go,es,us,ps,U,hB.st,hB.lg,hB.l40,hra,hri,p100,hw,fun z st' H1 s1 hst1=>?_⟩
 exact Gp hB ne l9 s1 hst1 (by rw[yD];exact hB.lg) hB.n12 hB.l40 hB.gn hB.gl fun H' ah' bt fa hB'=>q z H' _ ah' bt fa hB'
abbrev iU:Stmt:=top 41
abbrev fM:Stmt:=top 43
abbrev gO:Stmt:=inClass (top 45) 5
abbrev eE:Stmt:=inClass (top 45) 6
theorem dN:aB ["stand","number","found","one","pledge"] YO (au iU):=cM
theorem o6:aB XO XO (au fM):=cM
theorem dz:aB ["self","number","pledge","now","one","changed"] XT (au gO):=cM
theorem cQ:aB ["self","number","now","one","left"] YV (au eE):=cM
section
variable {x:XA}
theorem Qf:x.of "no pledge" = x.np:=by unfold XA.of;rw[iNe (by decide),iNe (by decide),iNe (by decide),iNe (by decide),iPo U]
theorem RJ:x.of "bound" = x.bd:=by unfold XA.of;rw[iNe (by decide),iNe (by decide),iNe (by decide),iNe (by decide),iNe (by decide),iPo U]
end
def fnE (es:List Ent)(k:Int):Option Ent:=es.find? fun e=>decide ((e.1:Int)=k)
def chE (es:List Ent)(k:Int)(pl:Pl):List Ent:=es.map fun e=>if (e.1:Int)=k then (e.1,e.2.1,pl) else e
def wiE (es:List Ent)(k:Int):List Ent:=es.filter fun e=>decide ((e.1:Int)≠k)
def bdW (g:E9)(es:List Ent)(one:Nat):Ut:=if mxD 0 (owL es one g) < g.getD one 0 then "bound" else ""
def chW (g:E9)(es:List Ent)(k:Int)(pl:Pl):Ut:=match fnE es k with
 | none=>"no pledge"
 | some e=>if ∃ x∈pl,nn e.2.1 x.2=false then "bad pledge" else bdW g (chE es k pl) e.2.1
def wiW (g:E9)(es:List Ent)(k:Int):Ut:=match fnE es k with
 | none=>"no pledge"
 | some e=>bdW g (wiE es k) e.2.1
theorem ur {es:List Ent}{k:Int}{e:Ent}(h:fnE es k=some e):e∈es/\(e.1:Int)=k:=⟨List.mem_of_find?_eq_some h,by simpa using List.find?_some h⟩
theorem Jt {es:List Ent}{i:Nat}{e:Ent}{k:Int}(he:es[i]? = some e)(h:fnE (es.take i) k=none):fnE (es.take (i+1)) k=if (e.1:Int)=k then some e else none:=by
 unfold fnE at h ⊢
 rw[UT,he,List.find?_append,h,Option.none_or]
 show List.find? _ [e]=_
 by_cases z:(e.1:Int)=k
 ·rw[iPo z,List.find?_cons_of_pos (by exact dcT z)]
 ·rw[iNe z,List.find?_cons_of_neg (by rw[dcF z];exact T5)]
  rfl
theorem Ja {es:List Ent}{i:Nat}{e:Ent}{k:Int}(h:fnE (es.take i) k=some e):fnE es k=some e:=by
 unfold fnE at h ⊢
 rw[← List.take_append_drop i es,List.find?_append,h]
 rfl
inductive kE (CS:Addr)(x:XA)(vs:G1)(H:Hp)(Q:VK)(E:XK):Prop where
 | mk (st:Addr) (num:Int) (n co:Nat) (g:E9) (go:Fa) (es:List Ent) (_:vs=[.ref st,.int num]) (_:eQ CS n H st g go es co) (_:(∀ e∈es,e.1 < co)) (_:(fnE es num=none->thrown x.np "no pledge" H E)) (_:∀ e,fnE es num=some e->Q (vN e.2.1) H)
theorem pQ {CS:Addr} {x:XA} (F:Fun K "pledger_of" "pledger_of" iU f fd) (B:Bt mg) (S:uZ K CS) (Sm:Df P w K mg base "is_number" 1 Yf fU) (UF:Xc P w K mg base "NoPledge" x.np "no pledge") :
  aY P w K mg base (XL P w) 4 f fd YO (kE CS x):=by
 refine G6 F dN fun H Q E hr h=>?_
 obtain⟨st,num,n,co,g,go,es,rfl,⟨dx,ga,goa,sa,us,hs,hga,hgo,hsa,hes⟩,hco,hN,q⟩:=h
 refine⟨_,(ao (c7 (bV (aP Sm hr (aj (pv 1) (aj aq (a1 (aM fG (pfd K 0) aq)))))) (aC (Qk (dC Vu U (cH (pfd K 0)) (dZ (K:=K) 3 U U (aR (pgN 2 dN.nd) (aR (pgN 3 dN.nd) (aR (pgN 4 dN.nd) eF)))) (aC (ifR (aK bw (pv 2) (pv 1)) (pv 3)))))) bh)
 (aC (dB UF hr U cN))),?_⟩
 refine dU (fun σ H1=>H1=H/\fnE es num=none) (fun σ H1 z=>by obtain⟨rfl,z⟩:=z;exact hN z) fun N Rc=>?_
 refine⟨_,U,_,U,st,CS,dx,_,_,U,hs,S.cl,S.coming,U,_,_,U,U,.int num,0,_,U,.int _,_,U,?_⟩
 have ei:isNum (.int num) 0 ((co:Int) - 1)=decide (0<=num/\num < co):=by
  show (decide ((0:Int)<=num) && decide (num<=(co:Int) - 1))=_
  rw[← Bool.decide_and]
  exact decide_eq_decide.mpr ⟨fun h=>⟨h.1,by lia⟩,fun h=>⟨h.1,by lia⟩⟩
 rw[ei]
 by_cases z:0<=num/\num < co
 ·rw[dcT z]
  refine dq ?_
  refine⟨_,U,st,CS,dx,_,_,U,hs,S.cl,S.standing,U,sa,U,⟨_,sqT hsa⟩,kZ (K:=K) (a:=sa) (xs:=us) (fun i σ H2=>(∃ u v w,σ=[oR st,oI num,u,v,w])/\H2=H/\fnE (es.take i) num=none) ⟨⟨_,_,_,U⟩,U,U⟩
   (fun i σ H2 _ h=>by rw[h.2.1];exact sqT hsa) ?_ ?_⟩
  ·rintro i y σ H2 hx ⟨⟨u,v,w,rfl⟩,rfl,hno⟩
   obtain⟨e,p,nu,o2,pl2,rfl,he,hent,hpr⟩:=hes.get hx
   have nx:=Jt he hno
   refine⟨e,_,U,sqT hent,U,_,_,U,_,_,U,_,_,U,U,_,U,_,U,U,_,U,?_⟩
   by_cases y:(nu:Int)=num
   ·rw[dcT (show vN nu=V.int num by rw[← y];rfl)]
    rw[iPo y] at nx
    exact dq ⟨_,U,q _ (Ja nx)⟩
   ·rw[dcF (show ¬ vN nu=V.int num from fun t=>y (by injection t))]
    rw[iNe y] at nx
    exact bZ ⟨⟨_,_,_,U⟩,U,nx⟩
  ·rintro σ H2 ⟨_,rfl,hno⟩
   rw[hes.length,Uh] at hno
   exact Rc _ _ ⟨U,hno⟩
 ·rw[dcF z]
  refine bZ (Rc _ _ ⟨U,?_⟩)
  unfold fnE
  refine List.find?_eq_none.mpr fun e he=>?_
  have:=hco e he
  simp
  lia
inductive yw (CS:Addr)(x:XA)(vs:G1)(H:Hp)(Q:VK)(E:XK):Prop where
 | mk (st sa:Addr) (one n co:Nat) (g:E9) (go:Fa) (es es':List Ent) (us':G1) (_:vs=[.ref st,vN one,.ref sa]) (_:eQ CS n H st g go es co) (_:g.length=n) (_:one < n) (_:H sa=some (.tup us')) (_:cF n H us' es') (_:es'.length<=100) (_:(bdW g es' one≠""->Th x (bdW g es' one) H E)) (_:(bdW g es' one = ""->∀ (st':Addr) (H':Hp),aH H H'->eQ CS n H' st' g go es' co->Q (.ref st') H'))
theorem gj {CS:Addr} {x:XA} {k:Nat} (hk:4<=k) (F:Fun K "pledged_anew" "pledged_anew" fM f fd) (B:Bt mg) (S:uZ K CS) (SY:Df P w K mg base "owed_of" k XI nC)
  (RO:Dk2 P w K mg base "Stand" CS 1 WV (gU CS)) (UB:Xc P w K mg base "Bound" x.bd "bound"):aY P w K mg base (XL P w) (k+1) f fd XO (yw CS x):=by
 refine G6 F o6 fun H Q E hr h=>?_
 obtain⟨st,sa,one,n,co,g,go,es,es',us',rfl,⟨dx,ga,goa,sa0,us,hs,hga,hgo,hsa0,hes⟩,lg,hone,hsa,hes',l100,hw,q⟩:=h
 refine⟨_,(ao (c7 (aK xP (pxT K (pfd K 0) (pv 1)) (aP SY hr (aj (pv 2) (aj (pv 1) (a1 (pfd K 0)))))) (aC (dB UB hr U cN (hk:=(Ye hk)))) bh)
 (sR (Cr RO hr (aj (pfd K 0) (aj (pfd K 0) (aj (pv 2) (a1 (pfd K 0)))))))),?_⟩
 have h1:one < g.length:=by lia
 have gei:g.getD one 0=g[one]:=by rw[TY,T8 h1];rfl
 refine eX (fun σ H1=>σ=[oR st,some (vN one),oR sa]/\aH H H1/\bdW g es' one = "") ?_ ?_
 ·intro N Rc
  refine⟨_,U,st,CS,dx,_,_,U,hs,S.cl,S.green,U,_,U,ga,_,_,_,U,U,sqT hga,lY h1,_,U,_,U,_,U,st,CS,dx,_,_,U,hs,S.cl,S.green,U,sa,ga,one,n,us',es',g,U,hsa,hes',l100,hga,lg,fun H1 s1=>⟨_,_,U,U,_,U,?_⟩⟩
  by_cases z:mxD 0 (owL es' one g) < g[one]
  ·rw[dcT z]
   have e:bdW g es' one = "bound":=by unfold bdW;rw[iPo (by rw[gei];exact z)]
   rw[e] at hw
   have:=hw (by decide)
   unfold Th at this
   rw[RJ] at this
   exact dq (this.mono s1)
  ·rw[dcF z]
   exact bZ (Rc _ _ ⟨U,s1,by unfold bdW;rw[iNe (by rw[gei];exact z)]⟩)
 rintro σ H1 ⟨rfl,s1,hbd⟩
 have hs1:=s1 _ _ hs
 refine⟨_,U,st,CS,dx,_,_,U,hs1,S.cl,S.green,U,_,U,st,CS,dx,_,_,U,hs1,S.cl,S.gone,U,_,U,_,U,st,CS,dx,_,_,U,hs1,S.cl,S.coming,U,fun y dx3 hx hdx hne=>?_⟩
 refine jW hx hdx hne fun H2 s2 e2=>⟨U,?_⟩
 have s12:=s1.trans s2
 exact q hbd y H2 s12 ⟨dx3,ga,goa,sa,us',e2,s12 _ _ hga,s12 _ _ hgo,s12 _ _ hsa,hes'.aN fun a xs q=>s12 a _ q⟩
inductive pW (CS CB:Addr)(x:XA)(vs:G1)(H:Hp)(Q:VK)(E:XK):Prop where
 | mk (b be ah dx nw:Addr) (num:Int) (n co:Nat) (xs zs:G1) (g:E9) (go:Fa) (es:List Ent) (_:vs=[.ref b,.int num]) (_:Bn CS CB n H b be ah dx nw xs zs g go es co) (_:(∀ e∈es,e.1 < co/\e.2.1 < n)) (_:xs.length<=900) (_:(wiW g es num≠""->Th x (wiW g es num) H E)) (_:(wiW g es num = ""->∀ (H':Hp) (nw' ah':Addr),But b be H H'->H ah'=none->Bn CS CB n H' b be ah' dx nw' (xs++[.ref nw]) [] g go (wiE es num) co->Q .non H'))
theorem jU {CS CB:Addr} {x:XA} {k:Nat} (hk:4<=k) (ne:CB≠CS) (F:Fun K "withdraw" "Boon.withdraw" eE f fd) (B:Bt mg) (S:uZ K CS) (T:Ax K CB)
  (Tb:Dx P w K mg base "pledger_of" 4 YO (kE CS x)) (Ta:Dx P w K mg base "pledged_anew" k XO (yw CS x)) (RI:Dm2 P w K mg base CB "go_on" 1 Zl (jG CB)) :
  aY P w K mg base (XL P w) (k+1) f fd YV (pW CS CB x):=by
 refine G6 F cQ fun H Q E hr h=>?_
 obtain⟨b,be,ah,dx,nw,num,n,co,xs,zs,g,go,es,rfl,hB,hlt,l9,hw,q⟩:=h
 refine⟨_,(ao (sT 2 cQ.nd (pfd K 0))
 (ao (sT 3 cQ.nd (sO Tb hr dh (v2 2 1)))
 (ao (sT 4 cQ.nd (bf (r:=gm K) bu U B.tuple_ bC (a1 (bj (L:=["entry"]) (F:=["number"]) (cap:=[1]) U (aV U U (by kernel_rfl)) (cH (pfd K 2)) (fun _ _ _ _ _=>(pgC 0)) (fun _ _ _ _ _=>(pZ (aK Aq (pxT K (pv 0) aq) (pv 1)))) (fun _ _ _ _ _=>(pv 0))))))
 (aC (aU (Fy RI hr (pv 0) (a1 (sO Ta hr dh (aj (pv 2) (v2 3 4)))))))))),?_⟩
 have hb:=hB.hb
 have l40:=hB.l40
 obtain⟨dx2,ga,goa,sa,us,hs,hga,hgoa,hsa,hes⟩:=id hB.st
 have les:=hes.length
 refine eX (fun σ H1=>σ=[oR b,oI num,oR nw,none,none]/\H1=H) ?_ ?_
 ·intro N Rc
  exact⟨_,U,b,CB,dx,_,_,U,hb,T.cl,T.now,U,Rc _ _ ⟨U,U⟩⟩
 rintro σ H0 ⟨rfl,rfl⟩
 refine eX (fun σ H1=>∃ e:Ent,fnE es num=some e/\σ=[oR b,oI num,oR nw,some (vN e.2.1),none]/\H1=H0) ?_ ?_
 ·intro N Rc
  refine⟨_,U,_,U,nw,num,n,co,g,go,es,U,hB.st,fun e he=>(hlt e he).1,fun z=>?_,fun e z=>Rc _ _ ⟨e,z,U,U⟩⟩
  have e:wiW g es num = "no pledge":=by unfold wiW;rw[z]
  rw[e] at hw
  have:=hw (by decide)
  unfold Th at this
  rw[Qf] at this
  exact this
 rintro σ H2 ⟨e0,hf,rfl,rfl⟩
 obtain⟨m0,k0⟩:=ur hf
 have ew:wiW g es num=bdW g (wiE es num) e0.2.1:=by unfold wiW;rw[hf]
 rw[ew] at hw q
 refine eX (fun σ H3=>∃ (ch:Addr) (us':G1),σ=[oR b,oI num,oR nw,some (vN e0.2.1),oR ch]/\aH H2 H3/\H3 ch=some (.tup us')/\cF n H3 us' (wiE es num)) ?_ ?_
 ·intro N Rc
  refine⟨_,U,nw,CS,dx2,_,_,U,hs,S.cl,S.standing,U,sa,U,⟨_,sqT hsa⟩,fun D hD=>bU (K:=K) (a:=sa) (xs:=us) (fun i zs σ' H3=>(∃ u,σ'=[u,oI num])/\aH H2 H3/\H3 D=some (.lst zs)/\cF n H3 zs (wiE (es.take i) num))
   ⟨⟨_,U⟩,aA hD _,aa,by rw[Vp];exact .nil⟩ (fun i zs σ' H3 _ h=>⟨sqT (h.2.1 _ _ hsa),h.2.2.1⟩) ?_ ?_⟩
  ·rintro i zs y σ' H3 hx ⟨⟨u,rfl⟩,sm,eD,ez⟩
   obtain⟨e,p2,nu,o2,pl2,rfl,he,hent,hpr⟩:=hes.get hx
   have lz:=ez.length
   have lf:=Vj (fun e:Ent=>decide ((e.1:Int)≠num)) (es.take i)
   rw[Uo] at lf
   have lz':(wiE (es.take i) num).length<=min i es.length:=lf
   have nx:wiE (es.take (i+1)) num=wiE (es.take i) num++if decide ((nu:Int)≠num)=true then [(nu,o2,pl2)] else []:=cF.SN (n:=n) (p:=fun e:Ent=>decide ((e.1:Int)≠num)) he
   refine⟨_,U,e,_,_,_,U,U,sqT (sm _ _ hent),U,_,U,U,_,U,?_⟩
   by_cases z:(nu:Int)=num
   ·rw[show decide (vN nu=V.int num)=true from dcT (by rw[← z];rfl)]
    show if (!true)=true then _ else _
    refine bZ ⟨⟨_,U⟩,sm,eD,?_⟩
    rw[nx,iNe (by rw[dcF (not_not_intro z)];exact T5),WY]
    exact ez
   ·rw[show decide (vN nu=V.int num)=false from dcF fun y=>z (by injection y)]
    show if (!false)=true then _ else _
    have tk:=cz (zs':=zs++[.ref e]) eD
    refine dq ⟨_,U,eD,aF (by lia),⟨_,U⟩,aL sm hD _,aa,?_⟩
    rw[nx,iPo (dcT z)]
    exact cF.snoc (tk _ _ (sm _ _ hent)) ((hpr.aN fun a ys q=>sm a _ q).aN tk) (ez.aN tk)
  ·rintro zs σ' H3 ⟨_,sm,eD,ez⟩
   rw[les,Uh] at ez
   refine⟨D,_,U,.inl ⟨sqL eD,fun a ha=>?_⟩⟩
   have sn:=aA ha (.tup zs)
   exact Rc _ _ ⟨a,zs,U,sm.trans sn,aa,ez.aN fun a ys q=>sn a _ q⟩
 rintro σ H3 ⟨ch,us',rfl,s3,ech,ees⟩
 have lw:=Vj (fun e:Ent=>decide ((e.1:Int)≠num)) es
 have lw':(wiE es num).length<=es.length:=lw
 refine⟨_,U,b,dx,_,U,s3 _ _ hb,U,_,U,_,U,_,U,nw,ch,e0.2.1,n,co,g,go,es,_,us',U,hB.st.ks (ksS s3),hB.lg,(hlt e0 m0).2,ech,ees,by lia,fun z=>(hw z).mono s3,fun z st' H4 s4 hst4=>?_⟩
 exact Gp hB ne l9 (s3.trans s4) hst4 hB.lg hB.n12 (by lia) hB.gn hB.gl fun H' ah' bt fa hB'=>q z H' _ ah' bt fa hB'
theorem xM {es:List Ent}(nd:(es.map (·.1)).Nodup){e e':Ent}(h:e∈es)(h':e'∈es)(z:e.1=e'.1):e=e':=by
 obtain⟨i,hi,rfl⟩:=Xz h
 obtain⟨j,hj,rfl⟩:=Xz h'
 have e1:(es.map (·.1))[i]'(by rw[TJ];exact hi)=(es.map (·.1))[j]'(by rw[TJ];exact hj):=by rw[List.getElem_map,List.getElem_map,z]
 have:=(List.getElem_inj nd).mp e1
 subst this
 rfl
inductive vy (CS CB:Addr)(x:XA)(vs:G1)(H:Hp)(Q:VK)(E:XK):Prop where
 | mk (b be ah dx nw p:Addr) (num:Int) (n co:Nat) (xs zs:G1) (g:E9) (go:Fa) (es:List Ent) (pl:Pl) (_:vs=[.ref b,.int num,.ref p]) (_:Bn CS CB n H b be ah dx nw xs zs g go es co) (_:(∀ e∈es,e.1 < co/\e.2.1 < n)) (_:(es.map (·.1)).Nodup) (_:j6 n H p pl) (_:xs.length<=900) (_:(chW g es num pl≠""->Th x (chW g es num pl) H E)) (_:(chW g es num pl = ""->∀ (H':Hp) (nw' ah':Addr),But b be H H'->H ah'=none->Bn CS CB n H' b be ah' dx nw' (xs++[.ref nw]) [] g go (chE es num pl) co->Q .non H'))
theorem m5 {CS CB:Addr} {x:XA} {k:Nat} (hk:4<=k) (ne:CB≠CS) (F:Fun K "change" "Boon.change" gO f fd) (B:Bt mg) (S:uZ K CS) (T:Ax K CB)
  (Tb:Dx P w K mg base "pledger_of" 4 YO (kE CS x)) (RY:Dx P w K mg base "check_pledge" k X1 (xN CS x.bp)) (Ta:Dx P w K mg base "pledged_anew" k XO (yw CS x)) (RI:Dm2 P w K mg base CB "go_on" 1 Zl (jG CB)) :
  aY P w K mg base (XL P w) (k+1) f fd XT (vy CS CB x):=by
 refine G6 F dz fun H Q E hr h=>?_
 obtain⟨b,be,ah,dx,nw,p,num,n,co,xs,zs,g,go,es,pl,rfl,hB,hlt,nd,hp,l9,hw,q⟩:=h
 refine⟨_,(ao (sT 3 dz.nd (pfd K 0))
 (ao (sTc 4 dz.nd (sO Tb hr dh (v2 3 1)))
 (ao (aU (sO RY hr dh (aj (pv 3) (v2 4 2))))
 (ao (sT 5 dz.nd (bf (r:=gm K) bu U B.tuple_ bC (a1 (bj (L:=["entry"]) (F:=["number","one","pledge"]) (cap:=[1,4,2]) U (aV U U (by kernel_rfl)) (cH (pfd K 3)) (fun _ _ _ _ _=>(pgC 0)) (fun _ _ _ _ _=>bF) (fun _ _ _ _ _=>(zK (aK bw (pxT K (pv 0) aq) (pv 1)) (bc (aj (pv 1) (v2 2 3))) (pv 0)))))))
 (aC (aU (Fy RI hr (pv 0) (a1 (sO Ta hr dh (aj (pv 3) (v2 4 5))))))))))),?_⟩
 have hb:=hB.hb
 have l40:=hB.l40
 refine eX (fun σ H1=>σ=[oR b,oI num,oR p,oR nw,none,none]/\H1=H) ?_ ?_
 ·intro N Rc
  exact⟨_,U,b,CB,dx,_,_,U,hb,T.cl,T.now,U,Rc _ _ ⟨U,U⟩⟩
 rintro σ H0 ⟨rfl,rfl⟩
 refine eX (fun σ H1=>∃ e:Ent,fnE es num=some e/\σ=[oR b,oI num,oR p,oR nw,some (vN e.2.1),none]/\H1=H0) ?_ ?_
 ·intro N Rc
  refine⟨_,U,_,U,nw,num,n,co,g,go,es,U,hB.st,fun e he=>(hlt e he).1,fun z=>?_,fun e z=>Rc _ _ ⟨e,z,U,U⟩⟩
  have e:chW g es num pl = "no pledge":=by unfold chW;rw[z]
  rw[e] at hw
  have:=hw (by decide)
  unfold Th at this
  rw[Qf] at this
  exact this
 rintro σ H2 ⟨e0,hf,rfl,rfl⟩
 obtain⟨m0,k0⟩:=ur hf
 have n12:=hB.n12
 have o0:=(hlt e0 m0).2
 have ew:chW g es num pl=if ∃ x∈pl,nn e0.2.1 x.2=false then ("bad pledge" : Ut) else bdW g (chE es num pl) e0.2.1:=by unfold chW;rw[hf]
 rw[ew] at hw q
 refine eX (fun σ H3=>σ=[oR b,oI num,oR p,oR nw,some (vN e0.2.1),none]/\aH H2 H3/\∀ x∈pl,nn e0.2.1 x.2=true) ?_ ?_
 ·intro N Rc
  refine⟨_,U,_,U,_,U,nw,p,e0.2.1,n,co,g,go,es,pl,U,hB.st,hB.lg,by lia,n12,hp,fun z=>?_,fun hn H3 s3=>Rc _ _ ⟨U,s3,hn⟩⟩
  rw[iPo z] at hw
  have:=hw (by decide)
  unfold Th at this
  rw[Pr] at this
  exact this
 rintro σ H3 ⟨rfl,s3,hn⟩
 rw[iNe (fun⟨y,hy,z⟩=>by rw[hn y hy] at z;cases z)] at hw q
 have hB3:=hB.same s3
 have hp3:=hp.mono s3
 obtain⟨dx2,ga,goa,sa,us,hs,hga,hgoa,hsa,hes⟩:=id hB3.st
 have les:=hes.length
 refine eX (fun σ H4=>∃ (ch:Addr) (us':G1),σ=[oR b,oI num,oR p,oR nw,some (vN e0.2.1),oR ch]/\aH H3 H4/\H4 ch=some (.tup us')/\cF n H4 us' (chE es num pl)) ?_ ?_
 ·intro N Rc
  refine⟨_,U,nw,CS,dx2,_,_,U,hs,S.cl,S.standing,U,sa,U,⟨_,sqT hsa⟩,fun D hD=>bU (K:=K) (a:=sa) (xs:=us) (fun i zs σ' H4=>(∃ u,σ'=[u,oI num,some (vN e0.2.1),oR p])/\aH H3 H4/\H4 D=some (.lst zs)/\cF n H4 zs (chE (es.take i) num pl))
   ⟨⟨_,U⟩,aA hD _,aa,by rw[Vp];exact .nil⟩ (fun i zs σ' H4 _ h=>⟨sqT (h.2.1 _ _ hsa),h.2.2.1⟩) ?_ ?_⟩
  ·rintro i zs y σ' H4 hx ⟨⟨u,rfl⟩,sm,eD,ez⟩
   obtain⟨e,p2,nu,o2,pl2,rfl,he,hent,hpr⟩:=hes.get hx
   have lz:=ez.length
   have il:=(geS he).1
   unfold chE at lz
   rw[TJ,Uo] at lz
   have nx:∀ y:Ent,(if (nu:Int)=num then (nu,o2,pl) else (nu,o2,pl2))=y->chE (es.take (i+1)) num pl=chE (es.take i) num pl++[y]:=fun y hy=>by
    rw[UT,he]
    unfold chE
    rw[Ub,← hy]
    rfl
   refine gT ?_
   refine⟨_,U,e,_,_,_,U,U,sqT (sm _ _ hent),U,_,U,U,_,U,?_⟩
   by_cases z:(nu:Int)=num
   ·rw[dcT (show vN nu=V.int num by rw[← z];rfl)]
    have eo:(nu,o2,pl2)=e0:=xM nd (UJ he) m0 (by show nu=e0.1;lia)
    have eo2:e0.2.1=o2:=by rw[← eo]
    refine dq ⟨_,U,_,U,_,U,smN 3,fun pb hb'=>?_⟩
    generalize eHb:upd H4 pb _=Hb
    obtain⟨gb,eb⟩:=aG eHb hb'
    rw[← z,eo2] at eb
    have tk:=cz (zs':=zs++[.ref pb]) (gb _ _ eD)
    refine⟨gb _ _ eD,aF (by lia),⟨_,U⟩,aL (sm.trans gb) hD _,aa,?_⟩
    rw[nx _ (iPo z)]
    exact cF.snoc (tk _ _ eb) ((hp3.aN fun a ys q=>(sm.trans gb) a _ q).aN tk) ((ez.aN fun a ys q=>gb a _ q).aN tk)
   ·rw[dcF (show ¬ vN nu=V.int num from fun y=>z (by injection y))]
    have tk:=cz (zs':=zs++[.ref e]) eD
    refine bZ ⟨_,U,eD,aF (by lia),⟨_,U⟩,aL sm hD _,aa,?_⟩
    rw[nx _ (iNe z)]
    exact cF.snoc (tk _ _ (sm _ _ hent)) ((hpr.aN fun a ys q=>sm a _ q).aN tk) (ez.aN tk)
  ·rintro zs σ' H4 ⟨_,sm,eD,ez⟩
   rw[les,Uh] at ez
   refine⟨D,_,U,.inl ⟨sqL eD,fun a ha=>?_⟩⟩
   have sn:=aA ha (.tup zs)
   exact Rc _ _ ⟨a,zs,U,sm.trans sn,aa,ez.aN fun a ys q=>sn a _ q⟩
 rintro σ H4 ⟨ch,us',rfl,s4,ech,ees⟩
 have lw:(chE es num pl).length=es.length:=TJ _
 refine⟨_,U,b,dx,_,U,(s3.trans s4) _ _ hb,U,_,U,_,U,_,U,nw,ch,e0.2.1,n,co,g,go,es,_,us',U,hB3.st.ks (ksS s4),hB.lg,o0,ech,ees,by lia,fun z=>(hw z).mono (s3.trans s4),fun z st' H5 s5 hst5=>?_⟩
 exact Gp hB ne l9 (s3.trans (s4.trans s5)) hst5 hB.lg hB.n12 (by lia) hB.gn hB.gl fun H' ah' bt fa hB'=>q z H' _ ah' bt fa hB'
def Low (n:Nat)(fl:E9)(bk:List (List Pl))(lo:E9):Prop:=okG n lo/\iy lo fl bk=lo/\∀ g,LeG (iy g fl bk) g->LeG lo g
section
variable {n:Nat}{fl:E9}{bk:List (List Pl)}
theorem v7 (hb:bk.length=n)(ok:okB bk)(hf:okG n fl){m:Nat}(st:Stops (Fd fl bk) fl m):Low n fl bk (itF (Fd fl bk) fl m) :=
 ⟨fX hb ok hf hf m,st.1,fun _ h=>uL hb ok hf h m⟩
end
def Sh (n:Nat)(fl:E9)(bk:List (List Pl))(hi:E9):Prop:=okG n hi/\iy hi fl bk=hi/\∀ g,LeG g (iy g fl bk)->LeG g hi
open Classical in
def cl (n:Nat)(bk:List (List Pl))(x:E9):E9:=if h:∃ y,Low n x bk y then Classical.choose h else []
section
variable {n:Nat}{fl hi:E9}{bk:List (List Pl)}
theorem uw (hb:bk.length=n)(ok:okB bk)(hf:okG n fl){m:Nat}(st:Stops (Fd fl bk) (rfF fl bk) m):Sh n fl bk (itF (Fd fl bk) (rfF fl bk) m) :=
 ⟨fX hb ok hf (nM hb ok hf) m,st.1,fun _ h=>uJ hb ok hf h m⟩
end
theorem du.Pj {n:Nat}{H:Hp}{D:Addr}{zs zs':G1}(hD:H D=some (.lst zs)):∀ {us:G1} {bs:List (List Pl)},du n H us bs->(∀ u∈us,u≠.ref D)->du n (upd H D (.lst zs')) us bs
 | _,_,.nil,_=>.nil
 | _,_,.cons h l p r,hne=>.cons (by rw[aD fun z=>hne _ Uc (by rw[z])];exact h) l (p.aN (cz hD)) (du.Pj hD r fun u hu=>hne u (Ug _ hu))
abbrev GD:Stmt:=top 55
abbrev yF:Stmt:=top 56
abbrev pJ:Stmt:=top 58
theorem K5:aB ZU ZU (au GD):=cM
theorem JL:aB ZU ZU (au yF):=cM
theorem Ag:aB ZU ZU (au pJ):=cM
inductive J2 (CS CB:Addr)(vs:G1)(H:Hp)(Q:VK)(e3:XK):Prop where
 | mk (b be:Addr) (n d co:Nat) (g:E9) (go:Fa) (es:List Ent) (_:vs=[.ref b]) (_:ph CS CB n H b be d g go es co) (_:Q (.int (g.length:Int)) H)
inductive oV (CS CB:Addr)(vs:G1)(H:Hp)(Q:VK)(e3:XK):Prop where
 | mk (b be:Addr) (n d co:Nat) (g:E9) (go:Fa) (es:List Ent) (_:vs=[.ref b]) (_:ph CS CB n H b be d g go es co) (_:∀ a,H a=some (.tup (g.map V.int))->Q (.ref a) H)
theorem LC {CS CB:Addr} (F:Fun K "folk" "folk" GD f fd) (B:Bt mg) (S:uZ K CS) (T:Ax K CB):aY P w K mg base CX0 1 f fd ZU (J2 CS CB):=by
 refine okA F K5 fun H Q E hr h=>?_
 obtain⟨b,be,n,d,co,g,go,es,rfl,⟨dx,nw,ah,xs,hb,hbe,lx,dx2,ga,goa,sa,us,hs,hga,hgoa,hsa,hes⟩,q⟩:=h
 refine⟨_,(sR (pln K B.len_ (kW K U (pfd K 0)))),_,U,b,CB,dx,_,_,U,hb,T.cl,T.now,U,nw,CS,dx2,_,_,U,hs,S.cl,S.green,U,ga,_,U,.inr (sqT hga),?_⟩
 rw[TJ]
 exact q
theorem HJ {CS CB:Addr} (F:Fun K "green" "green" yF f fd) (B:Bt mg) (S:uZ K CS) (T:Ax K CB):aY P w K mg base CX0 1 f fd ZU (oV CS CB):=by
 refine okA F JL fun H Q E hr h=>?_
 obtain⟨b,be,n,d,co,g,go,es,rfl,⟨dx,nw,ah,xs,hb,hbe,lx,dx2,ga,goa,sa,us,hs,hga,hgoa,hsa,hes⟩,q⟩:=h
 exact⟨_,(sR (kW K U (pfd K 0))),_,U,b,CB,dx,_,_,U,hb,T.cl,T.now,U,nw,CS,dx2,_,_,U,hs,S.cl,S.green,U,q ga hga⟩
def iu (es:List Ent)(i:Nat):List Pl:=(es.filter fun e=>decide (e.2.1=i)).map fun e=>e.2.2
def sZ (n:Nat)(es:List Ent):List (List Pl):=(VV n).map (iu es)
theorem Bo {es:List Ent}{i:Nat}{e:Ent}:iu (es++[e]) i=iu es i++if e.2.1=i then [e.2.2] else []:=by
 unfold iu
 rw[WQ,Ub]
 congr 1
 by_cases h:e.2.1=i
 ·rw[iPo h,Vm (by exact dcT h)]
  rfl
 ·rw[iNe h,VJ (by rw[dcF h];exact T5)]
  rfl
inductive su (CS CB:Addr)(vs:G1)(H:Hp)(Q:VK)(e3:XK):Prop where
 | mk (b be:Addr) (n d co:Nat) (g:E9) (go:Fa) (es:List Ent) (_:vs=[.ref b]) (_:ph CS CB n H b be d g go es co) (_:g.length=n) (_:n<=12) (_:es.length<=40) (_:∀ (a:Addr) (H':Hp),aH H H'->Cw n H' a (sZ n es)->Q (.ref a) H')
theorem Bh {CS CB:Addr} (F:Fun K "book_of" "book_of" pJ f fd) (B:Bt mg) (S:uZ K CS) (T:Ax K CB) (Sc:Df P w K mg base "folk" 1 ZU (J2 CS CB)):aY P w K mg base CX0 2 f fd ZU (su CS CB):=by
 refine okA F Ag fun H Q E hr h=>?_
 obtain⟨b,be,n,d,co,g,go,es,rfl,hB,lg,n12,l40,q⟩:=h
 refine⟨_,(sR (HS (x0:="one") (L:=["one"]) (F:=ZU) (cap:=[0]) U (Iz U U (by kernel_rfl) (fun _ _=>U) (fun _=>U)) (cZ U B.range_ (a1 (aP Sc hr (v1 0)))) (fun _ _ _ _ _=>(xQ (i:=0) (HR (by decide+kernel)) U (Zc U))) (fun _ _ _ _ _=>bF) (fun _ _ _ _ _=>(bj (L:=["number","other","pledge"]) (F:=["one"]) (cap:=[0]) U (aV U U (by kernel_rfl)) (M6 K U (kW K U (pfd K 1))) (fun _ _ _ _ _=>(dZ (K:=K) 3 U U (aR (pgC 0) (aR (pgC 1) (aR (pgC 2) eF))))) (fun _ _ _ _ _=>(pZ (aK bw (pv 1) (pv 3)))) (fun _ _ _ _ _=>(pv 2)))))),?_⟩
 obtain⟨dx,nw,ah,xs,hb,hbe,lx,dx2,ga,goa,sa,us,hs,hga,hgoa,hsa,hes⟩:=id hB
 have les:=hes.length
 refine⟨_,U,b,be,n,d,co,g,go,es,U,hB,_,U,by lia,by lia,fun D hD=>dW (lo:=0) (n:=((g.length:Int)).toNat) (fun i zs σ' H2=>(∃ u,σ'=[u,oR b])/\aH H H2/\H2 D=some (.lst zs)/\du n H2 zs ((VV i).map (iu es))/\∀ u∈zs,u≠.ref D)
  ⟨⟨_,U⟩,aA hD _,aa,.nil,by simp⟩ (fun i zs σ' H2 _ h=>h.2.2.1) ?_ ?_⟩
 ·rintro i zs σ' H2 hi ⟨⟨u,rfl⟩,sm,eD,rb,hne⟩
  have lz:=rb.length
  rw[TJ,VN] at lz
  rw[Ze]
  refine gT ?_
  have hb2:=sm _ _ hb
  have hs2:=sm _ _ hs
  have hsa2:=sm _ _ hsa
  have hes2:=hes.aN fun a ys q=>sm a _ q
  refine⟨_,U,b,CB,dx,_,_,U,hb2,T.cl,T.now,U,nw,CS,dx2,_,_,U,hs2,S.cl,S.standing,U,sa,U,⟨_,sqT hsa2⟩,fun D2 hD2=>bU (K:=K) (a:=sa) (xs:=us) (fun j ys σ' H3=>(∃ u v w,σ'=[u,v,w,some (vN i)])/\aH H2 H3/\H3 D2=some (.lst ys)/\∃ as:E6,ys=as.map V.ref/\dj n H3 as (iu (es.take j) i))
   ⟨⟨_,_,_,U⟩,aA hD2 _,aa,[],U,by rw[Vp];exact .nil⟩ (fun j ys σ' H3 _ h=>⟨sqT (h.2.1 _ _ hsa2),h.2.2.1⟩) ?_ ?_⟩
  ·rintro j ys x σ' H3 hx ⟨⟨u,v,w,rfl⟩,s3,eD2,as,rfl,ra⟩
   obtain⟨e,p,num,o2,pl,rfl,he,hent,hpr⟩:=hes2.get hx
   have la:=ra.length
   have ll:(iu (es.take j) i).length<=40:=by
    unfold iu
    rw[TJ]
    refine UL (Vj _ _) ?_
    rw[Uo]
    lia
   have nx:iu (es.take (j+1)) i=iu (es.take j) i++if o2=i then [pl] else []:=by
    rw[UT,he]
    exact Bo
   refine⟨e,_,U,sqT (s3 _ _ hent),U,_,_,U,_,_,U,_,_,U,U,_,U,_,U,U,_,U,?_⟩
   by_cases z:o2=i
   ·rw[show decide (vN o2=vN i)=true from dcT (by rw[z])]
    have tk:=cz (zs':=as.map V.ref++[.ref p]) eD2
    refine dq ⟨_,U,eD2,aF (by rw[TJ];lia),⟨_,_,_,U⟩,aL s3 hD2 _,aa,as++[p],by rw[Ub];rfl,?_⟩
    rw[nx,iPo z]
    exact dj.snoc ((hpr.aN fun a ys q=>s3 a _ q).aN tk) (ra.aN tk)
   ·rw[show decide (vN o2=vN i)=false from dcF fun y=>z (by injection y with y;lia)]
    refine bZ ⟨⟨_,_,_,U⟩,s3,eD2,as,U,?_⟩
    rw[nx,iNe z,WY]
    exact ra
  ·rintro ys σ' H3 ⟨_,s3,eD2,as,rfl,ra⟩
   rw[les,Uh] at ra
   have la:=ra.length
   have ll:(iu es i).length<=40:=by
    unfold iu
    rw[TJ]
    exact UL (Vj _ _) l40
   have dd:D2≠D:=fun z=>by rw[z,eD] at hD2;cases hD2
   have eD3:=s3 _ _ eD
   refine⟨eD3,aF (by lia),⟨_,U⟩,aL (sm.trans s3) hD _,aa,?_,fun u hu=>?_⟩
   ·rw[abJ,Ub]
    refine (du.snoc eD2 (by lia) ra (rb.mono s3)).Pj eD3 fun u hu=>?_
    rcases List.mem_append.mp hu with h | h
    ·exact hne u h
    ·rw[List.mem_singleton.mp h]
     exact fun z=>dd (by cases z;rfl)
   ·rcases List.mem_append.mp hu with h | h
    ·exact hne u h
    ·rw[List.mem_singleton.mp h]
     exact fun z=>dd (by cases z;rfl)
 ·rintro zs σ' H2 ⟨_,sm,eD,rb,hne⟩
  have e:((g.length:Int)).toNat=n:=by lia
  rw[e] at rb
  exact q D H2 sm ⟨zs,eD,rb,by unfold sZ;rw[TJ,VN];lia⟩
abbrev Gr:Stmt:=top 59
abbrev xX:Stmt:=top 60
theorem MK:aB ZU ZU (au Gr):=cM
theorem Ik:aB ZU ZU (au xX):=cM
theorem jT (n:Nat)(es:List Ent):(sZ n es).length=n:=by unfold sZ;rw[TJ,VN]
inductive Kw (CS CB:Addr)(vs:G1)(H:Hp)(Q:VK)(e3:XK):Prop where
 | mk (b be:Addr) (n d co:Nat) (g:E9) (go:Fa) (es:List Ent) (_:vs=[.ref b]) (_:ph CS CB n H b be d g go es co) (_:okG n g) (_:n<=12) (_:es.length<=40) (_:∀ (a:Addr) (lo:E9) (H':Hp),aH H H'->Low n g (sZ n es) lo->H' a=some (.tup (lo.map V.int))->Q (.ref a) H')
inductive Cq (CS CB:Addr)(vs:G1)(H:Hp)(Q:VK)(e3:XK):Prop where
 | mk (b be:Addr) (n d co:Nat) (g:E9) (go:Fa) (es:List Ent) (_:vs=[.ref b]) (_:ph CS CB n H b be d g go es co) (_:okG n g) (_:n<=12) (_:es.length<=40) (_:∀ (a:Addr) (hi:E9) (H':Hp),aH H H'->Sh n g (sZ n es) hi->H' a=some (.tup (hi.map V.int))->Q (.ref a) H')
theorem KY {CS CB:Addr} {k:Nat} (hk:2<=k) (F:Fun K "sure" "sure" Gr f fd) (B:Bt mg) (ST:Df P w K mg base "least" k YY (JH QR)) (RW:Df P w K mg base "book_of" 2 ZU (su CS CB)) (Sf:Df P w K mg base "green" 1 ZU (oV CS CB)) :
  aY P w K mg base CX0 (k+1) f fd ZU (Kw CS CB):=by
 refine okA F MK fun H Q E hr h=>?_
 obtain⟨b,be,n,d,co,g,go,es,rfl,hB,og,n12,l40,q⟩:=h
 exact⟨_,(sR (aP ST hr (aj (aP RW hr (v1 0)) (a1 (aP Sf hr (v1 0)))))),_,U,b,be,n,d,co,g,go,es,U,hB,og.1,n12,l40,fun a H1 s1 hBk=>⟨_,U,b,be,n,d,co,g,go,es,U,hB.same s1,fun ga hga=>⟨a,ga,n,_,g,U,hBk,jT n es,hga,og,fun m a1 H2 _ st s2 e2=>q a1 _ H2 (s1.trans s2) (v7 (jT n es) hBk.okB og st) e2⟩⟩⟩
theorem Io {CS CB:Addr} {k:Nat} (hk:2<=k) (F:Fun K "hoped" "hoped" xX f fd) (B:Bt mg) (Se:Df P w K mg base "greatest" k YY (JH rfF)) (RW:Df P w K mg base "book_of" 2 ZU (su CS CB)) (Sf:Df P w K mg base "green" 1 ZU (oV CS CB)) :
  aY P w K mg base CX0 (k+1) f fd ZU (Cq CS CB):=by
 refine okA F Ik fun H Q E hr h=>?_
 obtain⟨b,be,n,d,co,g,go,es,rfl,hB,og,n12,l40,q⟩:=h
 exact⟨_,(sR (aP Se hr (aj (aP RW hr (v1 0)) (a1 (aP Sf hr (v1 0)))))),_,U,b,be,n,d,co,g,go,es,U,hB,og.1,n12,l40,fun a H1 s1 hBk=>⟨_,U,b,be,n,d,co,g,go,es,U,hB.same s1,fun ga hga=>⟨a,ga,n,_,g,U,hBk,jT n es,hga,og,fun m a1 H2 _ st s2 e2=>q a1 _ H2 (s1.trans s2) (uw (jT n es) hBk.okB og st) e2⟩⟩⟩
abbrev o8:Stmt:=top 57
abbrev GC:Stmt:=top 61
theorem Bb:aB ZU ZU (au o8):=cM
theorem Lp:aB ZH ZH (au GC):=cM
inductive vB (CS CB:Addr)(vs:G1)(H:Hp)(Q:VK)(e3:XK):Prop where
 | mk (b be:Addr) (n d co:Nat) (g:E9) (go:Fa) (es:List Ent) (_:vs=[.ref b]) (_:ph CS CB n H b be d g go es co) (_:es.length<=40) (_:∀ (a:Addr) (us:G1) (H':Hp),aH H H'->us.length=es.length->H' a=some (.lst us)->Q (.ref a) H')
theorem Bu {CS CB:Addr} (F:Fun K "pledges" "pledges" o8 f fd) (B:Bt mg) (S:uZ K CS) (T:Ax K CB):aY P w K mg base CX0 1 f fd ZU (vB CS CB):=by
 refine okA F Bb fun H Q E hr h=>?_
 obtain⟨b,be,n,d,co,g,go,es,rfl,⟨dx,nw,ah,xs,hb,hbe,lx,dx2,ga,goa,sa,us,hs,hga,hgoa,hsa,hes⟩,l40,q⟩:=h
 refine⟨_,(sR (bf (r:=sV K) kh U B.list_ oG (a1 (kW K U (pfd K 0))))),?_⟩
 have les:=hes.length
 refine⟨_,U,b,CB,dx,_,_,U,hb,T.cl,T.now,U,nw,CS,dx2,_,_,U,hs,S.cl,S.standing,U,sa,_,U,.inr (sqT hsa),fun r hr'=>q r _ _ (aA hr' _) les aa⟩
inductive Gh (CS CB:Addr)(vs:G1)(H:Hp)(Q:VK)(e3:XK):Prop where
 | mk (b be:Addr) (one n d co:Nat) (g:E9) (go:Fa) (es:List Ent) (_:vs=[.ref b,vN one]) (_:ph CS CB n H b be d g go es co) (_:g.length=n) (_:one < n) (_:one ∉ go) (_:es.length<=40) (_:∀ H',aH H H'->Q (.int (mxD 0 (owL es one g))) H')
theorem Mq {CS CB:Addr} {k:Nat} (hk:2<=k) (F:Fun K "owed" "owed" GC f fd) (B:Bt mg) (S:uZ K CS) (T:Ax K CB) (Sa:Df P w K mg base "check_there" 2 ZB (Fv CS)) (SY:Df P w K mg base "owed_of" k XI nC) (Sf:Df P w K mg base "green" 1 ZU (oV CS CB)) :
  aY P w K mg base CX0 (k+1) f fd ZH (Gh CS CB):=by
 refine okA F Lp fun H Q E hr h=>?_
 obtain⟨b,be,one,n,d,co,g,go,es,rfl,hB,lg,hone,hgo,l40,q⟩:=h
 refine⟨_,(ao (aU (aP Sa hr (aj (pfd K 0) (v1 1))))
 (sR (aP SY hr (aj (kW K U (pfd K 0)) (aj (pv 1) (a1 (aP Sf hr (v1 0)))))))),?_⟩
 obtain⟨dx,nw,ah,xs,hb,hbe,lx,hst⟩:=id hB
 obtain⟨dx2,ga,goa,sa,us,hs,hga,hgoa,hsa,hes⟩:=id hst
 refine⟨_,U,b,CB,dx,_,_,U,hb,T.cl,T.now,U,_,U,nw,one,n,co,g,go,es,U,hst,by lia,hgo,?_⟩
 exact⟨_,U,b,CB,dx,_,_,U,hb,T.cl,T.now,U,nw,CS,dx2,_,_,U,hs,S.cl,S.standing,U,_,U,_,U,b,be,n,d,co,g,go,es,U,hB,fun ga' hga'=>⟨sa,ga',one,n,us,es,g,U,hsa,hes,by lia,hga',lg,q⟩⟩
theorem Rz {es:List Ent}(ok:∀ e∈es,okP e.2.2)(one:Nat)(g:E9):mxD 0 (owL es one g)=duF g 0 (iu es one):=by
 have e:owL es one g=(iu es one).map (owF g):=by
  unfold owL iu
  rw[Xe]
  rfl
 unfold duF
 rw[← e]
 have all:∀ x∈owL es one g,0<=x:=fun x hx=>by
  obtain⟨e,he,rfl⟩:=List.mem_map.mp hx
  exact qM fun y hy=>by have:=((ok e (List.mem_filter.mp he).1).2.2.2 y hy).1;lia
 cases h:owL es one g with
 | nil=>rfl
 | cons a r =>
  have:=all a (by rw[h];exact Uc)
  show r.foldl max a=r.foldl max (max 0 a)
  rw[show max 0 a=a by lia]
structure EsU (n:Nat)(go:Fa)(es:List Ent)(co:Nat):Prop where
 up:(es.map (·.1)).Pairwise (· < ·)
 lt:∀ e∈es,e.1 < co/\e.2.1 < n/\e.2.1 ∉ go
section
variable {n:Nat}{go:Fa}{es:List Ent}{co:Nat}
theorem EsU.nd (h:EsU n go es co):(es.map (·.1)).Nodup:=h.up.imp fun z=>Um z
end
structure Fz (n:Nat)(g:E9)(es:List Ent):Prop where
 lg:g.length=n
 fr:∀ e∈es,e.2.1≠0->∃ p:Int,e.2.2=[(p,.free)]/\g.getD e.2.1 0=p
 own:∀ e∈es,e.2.1=0->∀ x∈e.2.2,nn 0 x.2=true
theorem zG (g:E9)(p:Int):owF g [(p,.free)]=p:=by
 show owS g 0 (p,.free)=p
 simp [owS,hF]
theorem fold_same {f:Int}:∀ {l:E9},(∀ x∈l,x=f)->l.foldl max f=f
 | [],_=>rfl
 | x::r,h=>by
  rw[Vl,h x Uc,Int.max_self]
  exact fold_same fun y hy=>h y (Ug _ hy)
theorem wG {es:List Ent}{i:Nat}{p:Pl}(h:p∈iu es i):∃ e∈es,e.2.1=i/\e.2.2=p:=by
 obtain⟨e,he,rfl⟩:=List.mem_map.mp h
 have:=List.mem_filter.mp he
 exact⟨e,this.1,of_decide_eq_true this.2,U⟩
theorem Qn {z g:E9}{n i:Nat}{es:List Ent}(lg:g.length=n)(hi:i < n):(iy z g (sZ n es)).getD i 0=duF z (g.getD i 0) (iu es i):=by
 unfold iy sZ
 rw[TY,List.getElem?_zipWith,Ux,YJ hi,TY,T8 (by lia)]
 rfl
theorem Fz.fix {n:Nat}{g z:E9}{es:List Ent}(F:Fz n g es)(hn:1<=n)(ok:∀ e∈es,okP e.2.2)(g0:0<=g.getD 0 0)(lz:z.length=n)(hz:iy z g (sZ n es)=z):z.getD 0 0=max (g.getD 0 0) (mxD 0 (owL es 0 g)):=by
 have at_:∀ i,i < n->z.getD i 0=duF z (g.getD i 0) (iu es i):=fun i hi=>by rw[← Qn F.lg hi,hz]
 have ag:∀ j,j≠0->z.getD j 0=g.getD j 0:=fun j hj=>by
  by_cases h:j < n
  ·rw[at_ j h]
   unfold duF
   refine fold_same fun x hx=>?_
   obtain⟨p,hp,rfl⟩:=List.mem_map.mp hx
   obtain⟨e,he,e1,rfl⟩:=wG hp
   obtain⟨p,ep,eg⟩:=F.fr e he (by rw[e1];exact hj)
   rw[ep,zG,← eg,e1]
  ·rw[TY,TY,VF (by lia),VF (by have:=F.lg;lia)]
 rw[at_ 0 hn,Rz ok,← Iv g g0]
 unfold duF
 congr 1
 refine Xa fun p hp=>?_
 obtain⟨e,he,e1,rfl⟩:=wG hp
 unfold owF
 exact yI ag _ 0 (F.own e he e1)
abbrev eG:Stmt:=top 75
theorem cP:aB ["_law_n","_law_picks","_law_boon_here","_law_one"] Ya (au eG):=cM
structure Fi (n i:Nat)(g:E9)(es:List Ent)(co:Nat):Prop where
 fz:Fz n g es
 on:∀ e∈es,1<=e.2.1/\e.2.1 < 1+i
 g0:g.getD 0 0=0
 up:∀ j,1+i<=j->g.getD j 0=0
 eu:EsU n [] es co
 le:es.length<=i
 okg:∀ x∈g,0<=x/\x<=9
 okp:∀ e∈es,okP e.2.2
theorem Jo {es:List Ent}{one:Nat}{g:E9}(h:∀ e∈es,e.2.1≠one):owL es one g=[]:=by
 unfold owL
 rw[List.filter_eq_nil_iff.mpr fun e he=>by simpa using h e he]
 rfl
theorem Fi.step {n i:Nat}{g:E9}{es:List Ent}{co:Nat}{p:Int}(F:Fi n i g es co)(hi:1+i < n)(p1:1<=p)(p9:p<=9) :
  plW n [] es ((1+i:Nat):Int) [(p,.free)] = ""∨40<=es.length:=by
 by_cases h:40<=es.length
 ·exact .inr h
 ·refine .inl ?_
  have e:miW n [] ((1+i:Nat):Int) = "":=by rw[iG hi,iNe (by simp)]
  unfold plW
  rw[e,iNe (by simp),iNe (by simp [nn]),iNe h]
theorem Fi.hand {n i:Nat}{g:E9}{es:List Ent}{co:Nat}{p:Int}(F:Fi n i g es co)(hi:1+i < n)(p1:1<=p)(p9:p<=9) :
  haW n g [] (es++[(co,1+i,[(p,.free)])]) [(((1+i:Nat):Int),p)] = "":=by
 unfold haW
 have r:riW n g [] [] [(((1+i:Nat):Int),p)] = "":=by
  have e:miW n [] ((1+i:Nat):Int) = "":=by rw[iG hi,iNe (by simp)]
  unfold riW
  rw[e,iNe (by simp)]
  have:=F.up (1+i) (T6 _)
  rw[U7,this,iNe (fun z=>z.elim (fun y=>by simp at y) fun y=>y ⟨by lia,p9⟩)]
  rfl
 rw[iNe (by simp),r,iNe (by simp),iNe]
 rintro⟨x,hx,z⟩
 rw[List.mem_singleton.mp hx] at z
 rw[U7,zZ,iPo U,Jo (fun e he=>by have:=(F.on e he).2;lia),zG] at z
 exact absurd z (by show ¬ p < p;lia)
theorem Fi.next {n i:Nat}{g:E9}{es:List Ent}{co:Nat}{p:Int}(F:Fi n i g es co)(hi:1+i < n)(p1:1<=p)(p9:p<=9):Fi n (i+1) (g.set (1+i) p) (es++[(co,1+i,[(p,.free)])]) (co+1):=by
 have gs:∀ j,(g.set (1+i) p).getD j 0=if j=1+i then p else g.getD j 0:=fun j=>by
  have lg:=F.fz.lg
  rw[TY,List.getElem?_set,TY]
  by_cases h:1+i=j
  ·rw[iPo h,iPo (by lia),iPo h.symm]
   rfl
  ·rw[iNe h,iNe fun z=>h z.symm]
 refine⟨⟨by rw[Y0];exact F.fz.lg,fun e he h0=>?_,fun e he h0=>?_⟩,fun e he=>?_,?_,fun j hj=>?_,⟨?_,fun e he=>?_⟩,?_,fun x hx=>?_,fun e he=>?_⟩
 ·rcases List.mem_append.mp he with y | y
  ·obtain⟨q,e1,e2⟩:=F.fz.fr e y h0
   refine⟨q,e1,?_⟩
   rw[gs,iNe (by have:=(F.on e y).2;lia)]
   exact e2
  ·rw[List.mem_singleton.mp y]
   exact⟨p,U,by rw[gs,iPo U]⟩
 ·rcases List.mem_append.mp he with y | y
  ·exact F.fz.own e y h0
  ·rw[List.mem_singleton.mp y] at h0
   exact absurd h0 (by show ¬ (1+i=0);lia)
 ·rcases List.mem_append.mp he with y | y
  ·have:=F.on e y
   lia
  ·rw[List.mem_singleton.mp y]
   show 1<=1+i/\1+i < 1+(i+1)
   lia
 ·rw[gs,iNe (by lia)]
  exact F.g0
 ·rw[gs,iNe (by lia)]
  exact F.up j (by lia)
 ·rw[Ub,Zv]
  refine⟨F.eu.up,by simp,fun x hx y hy=>?_⟩
  obtain⟨e,he,rfl⟩:=List.mem_map.mp hx
  have:=(F.eu.lt e he).1
  rw[List.mem_singleton.mp hy]
  exact this
 ·rcases List.mem_append.mp he with y | y
  ·have:=F.eu.lt e y
   exact⟨by lia,this.2⟩
  ·rw[List.mem_singleton.mp y]
   exact⟨by show co < co+1;lia,hi,by simp⟩
 ·have:=F.le
  rw[Ui]
  show es.length+1<=i+1
  lia
 ·rcases List.mem_or_eq_of_mem_set hx with y | y
  ·exact F.okg x y
  ·rw[y]
   lia
 ·rcases List.mem_append.mp he with y | y
  ·exact F.okp e y
  ·rw[List.mem_singleton.mp y]
   exact⟨by simp,by show 1<=9;decide,by simp,fun x hx=>by rw[List.mem_singleton.mp hx];exact⟨p1,p9,by show Tm.dep .free<=4;decide⟩⟩
theorem Fi.skip {n i:Nat}{g:E9}{es:List Ent}{co:Nat}(F:Fi n i g es co):Fi n (i+1) g es co:=⟨F.fz,fun e he=>by have:=F.on e he;lia,F.g0,fun j hj=>F.up j (by lia),F.eu,by have:=F.le;lia,F.okg,F.okp⟩
theorem Fi.zero (n:Nat):Fi n 0 (Uy n 0) [] 0:=by
 have z:∀ j,(Uy n (0:Int)).getD j 0=0:=fun j=>by
  rw[TY,XN]
  split <;> rfl
 exact⟨⟨Wf,(fun _ h=>nomatch h),(fun _ h=>nomatch h)⟩,(fun _ h=>nomatch h),z 0,(fun j _=>z j),⟨.nil,(fun _ h=>nomatch h)⟩,T6 _,(fun x hx=>by rw[(List.mem_replicate.mp hx).2];decide),(fun _ h=>nomatch h)⟩
inductive KH (CS CB:Addr)(vs:G1)(H:Hp)(Q:VK)(e3:XK):Prop where
 | mk (n:Nat) (l:Addr) (ps:E9) (_:vs=[.int (n:Int),.ref l]) (_:1<=n) (_:n<=12) (_:H l=some (.lst (ps.map V.int))) (_:n<=ps.length) (_:(∀ p∈ps,0<=p/\p<=9)) (_:∀ (b be ah dx nw:Addr) (xs zs:G1) (g:E9) (es:List Ent) (co:Nat) (H':Hp),aH H H'->H b=none->H be=none->Bn CS CB n H' b be ah dx nw xs zs g [] es co->xs.length<=60->Fi n n g es co->Q (.ref b) H')
theorem mU {CS CB:Addr} {x:XA} {k:Nat} (hk:4<=k) (F:Fun K "_law_free_boon" "_law_free_boon" eG f fd) (B:Bt mg) (RH:Dk2 P w K mg base "Boon" CB 3 ZO (zF CS CB)) (TR:Dmx P w K mg base CB "come" 4 ZO (BP CS CB x.fu)) (TW:Dmx P w K mg base CB "pledge" k X9 (nZ CS CB x))
  (TU:Dmx P w K mg base CB "hand" k Zp (xT CS CB x)):aY P w K mg base CX0 (k+1) f fd Ya (KH CS CB):=by
 refine okA F cP fun H Q E hr h=>?_
 obtain⟨n,l,ps,rfl,n1,n12,hl,ln,hp,q⟩:=h
 refine⟨_,(ao (sT 2 cP.nd (Ox RH hr))
 (ao (dC Vu U (cZ U B.range_ (v1 0)) (pgN 3 cP.nd) (aC (aU (Mf TR hr iB (pv 2)))))
 (ao (dC Vu U (Dn U B.range_ (aj aq (v1 0))) (pgN 3 cP.nd) (aC (c7 (aK xP (pxL K (pv 1) (pv 3)) aq) (ao (aU (qL TW hr iB (pv 2) (aj (pv 3) (a1 (bc (a1 (bc (aj (pxL K (pv 1) (pv 3)) (a1 (bc (a1 aQ)))))))))))
 (aC (aU (qL TU hr iB (pv 2) (a1 (bI (a1 (bc (aj (pv 3) (a1 (pxL K (pv 1) (pv 3)))))))))))) bh)))
 (sR (pv 2))))),?_⟩
 refine eX (fun σ H2=>∃ (b be ah dx nw:Addr),σ=[some (.int (n:Int)),oR l,oR b,none]/\aH H H2/\H b=none/\H be=none/\Bn CS CB 0 H2 b be ah dx nw [] [] [] [] [] 0) ?_ ?_
 ·intro N Rc x dx hx hdx hne
  have fr0:∀ c,H c≠none->c≠x/\c≠dx:=fun c h=>⟨fun z=>h (by rw[z];exact hx),fun z=>h (by rw[z];exact hdx)⟩
  have old:∀ {c:Addr} {o1 o2:HO},upd (upd H dx o1) x o2 c=none->H c=none:=fun {c} {o1 o2} y=>by
   cases hq:H c with
   | none=>rfl
   | some o =>
    obtain⟨ax,ad⟩:=fr0 c (by rw[hq];simp)
    rw[aD ax,aD ad,hq] at y
    cases y
  refine⟨x,dx,U,aa,fun be ah nw H4 fbe fah fr hB=>⟨U,Rc _ _ ⟨x,be,ah,dx,nw,U,fun a o h=>?_,hx,old fbe,hB⟩⟩⟩
  obtain⟨ax,ad⟩:=fr0 a (by rw[h];simp)
  exact fr a o ax (by rw[aD ax,aD ad];exact h)
 rintro σ H2 ⟨b,be,ah,dx,nw,rfl,s2,fb,fbe,hB⟩
 have sb:∀ {Hx H':Hp},aH H Hx->But b be Hx H'->aH H H':=fun sx bt a o y=>bt a o (fun z=>by rw[z,fb] at y;cases y) (fun z=>by rw[z,fbe] at y;cases y) (sx _ _ y)
 refine eX (fun σ H3=>∃ (u3:GU) (ah nw:Addr) (xs zs:G1),σ=[some (.int (n:Int)),oR l,oR b,u3]/\aH H H3/\Bn CS CB n H3 b be ah dx nw xs zs (Uy n 0) [] [] 0/\xs.length<=n) ?_ ?_
 ·intro N Rc
  refine⟨_,U,_,U,by lia,by lia,iK (lo:=0) (n:=((n:Nat):Int).toNat) (fun j σ Hx=>∃ (u3:GU) (ah nw:Addr) (xs zs:G1),σ=[some (.int (n:Int)),oR l,oR b,u3]/\aH H Hx/\Bn CS CB j Hx b be ah dx nw xs zs (Uy j 0) [] [] 0/\xs.length<=j) ⟨_,ah,nw,[],[],U,s2,hB,T6 _⟩ ?_ ?_⟩
  ·rintro j σ Hx hj ⟨u3,ah,nw,xs,zs,rfl,sx,hBx,lx⟩
   refine gN ?_
   refine⟨_,U,b,dx,_,U,hBx.hb,U,b,be,ah,dx,nw,j,0,xs,zs,_,_,_,U,hBx,by lia,fun z=>absurd z (by lia),fun _ H' nw' ah' bt fa hB'=>⟨_,ah',nw',xs++[.ref nw],[],U,sb sx bt,?_,by rw[Ui];show xs.length+1<=j+1;lia⟩⟩
   rw[Zu]
   exact hB'
  ·rintro σ Hx ⟨u3,ah,nw,xs,zs,rfl,sx,hBx,lx⟩
   rw[U7] at hBx lx
   exact Rc _ _ ⟨u3,ah,nw,xs,zs,U,sx,hBx,lx⟩
 clear hB s2
 rintro σ H3 ⟨u3,ah,nw,xs,zs,rfl,s3,hB3,lx3⟩
 have f0:=Fi.zero n
 refine dU (fun σ H4=>∃ (u3:GU) (ah nw:Addr) (xs zs:G1) (g:E9) (es:List Ent) (co:Nat),σ=[some (.int (n:Int)),oR l,oR b,u3]/\aH H H4/\Bn CS CB n H4 b be ah dx nw xs zs g [] es co/\xs.length<=60/\Fi n n g es co) ?q3 ?t3
 case q3 =>
  rintro σ H4 ⟨u3,ah,nw,xs,zs,g,es,co,rfl,s4,hB4,lx4,fi4⟩
  exact⟨_,U,q b be ah dx nw xs zs g es co H4 s4 fb fbe hB4 lx4 fi4⟩
 case t3 =>
 intro N Rc
 refine⟨_,U,1,_,U,⟨by decide,by decide,by lia,by lia⟩,iK (lo:=1) (n:=((n:Int) - 1).toNat) (fun i σ Hx=>∃ (u3:GU) (ah nw:Addr) (xs zs:G1) (g:E9) (es:List Ent) (co:Nat),σ=[some (.int (n:Int)),oR l,oR b,u3]/\aH H Hx/\Bn CS CB n Hx b be ah dx nw xs zs g [] es co/\xs.length<=n+2 * i/\Fi n i g es co) ⟨_,ah,nw,xs,zs,_,_,_,U,s3,hB3,lx3,f0⟩ ?_ ?_⟩
 ·rintro i σ Hx hi ⟨u3,ah,nw,xs,zs,g,es,co,rfl,sx,hBx,lx,fi⟩
  have hi':1+i < n:=by lia
  rw[show (1:Int)+(i:Int)=((1+i:Nat):Int) by lia]
  have hl':=sx _ _ hl
  have ip:1+i < ps.length:=by lia
  have hat:=lY ip
  obtain⟨p0,p9⟩:=hp ps[1+i] (Wr ip)
  refine gN ?_
  refine⟨_,U,_,U,l,_,_,_,U,U,sqL hl',hat,_,_,U,U,_,U,?_⟩
  by_cases z:0 < ps[1+i]
  case neg =>
   rw[dcF z]
   exact bZ (nN ⟨_,ah,nw,xs,zs,g,es,co,U,sx,hBx,by lia,fi.skip⟩)
  rw[dcT z]
  refine dq ?_
  generalize ps[1+i]=p at hat p0 p9 z
  refine eX (fun σ H4=>∃ (ah nw:Addr) (xs zs:G1),σ=[some (.int (n:Int)),oR l,oR b,some (vN (1+i))]/\aH H H4/\Bn CS CB n H4 b be ah dx nw xs zs g [] (es++[(co,1+i,[(p,.free)])]) (co+1)/\xs.length<=n+2 * i+1) ?_ ?_
  ·intro N4 R4
   refine⟨_,U,b,dx,_,U,hBx.hb,U,_,U,_,U,_,U,l,_,_,_,U,U,sqL hl',hat,smN 1,fun t1 h1=>?_⟩
   generalize eF1:upd Hx t1 _=F1
   obtain⟨g1,f1⟩:=aG eF1 h1
   refine⟨smN 2,fun t2 h2=>?_⟩
   generalize eF2:upd F1 t2 _=F2
   obtain⟨g2,f2⟩:=aG eF2 h2
   refine⟨smN 1,fun t3 h3=>?_⟩
   generalize eF3:upd F2 t3 _=F3
   obtain⟨g3,f3⟩:=aG eF3 h3
   have s13:=g1.trans (g2.trans g3)
   have hpr:j6 n F3 t3 [(p,.free)]:=⟨⟨by simp,by show 1<=9;decide,by simp,fun x hx=>by rw[List.mem_singleton.mp hx];exact⟨by show 1<=p;lia,p9,by show Tm.dep .free<=4;decide⟩⟩,_,f3,.cons (g3 _ _ f2) (.free ((g2.trans g3) _ _ f1)) .nil⟩
   have hw:plW n [] es ((1+i:Nat):Int) [(p,.free)] = "":=(fi.step hi' (by lia) p9).resolve_right (by have:=fi.le;lia)
   refine⟨b,be,ah,dx,nw,t3,((1+i:Nat):Int),n,co,xs,zs,g,[],es,_,U,hBx.same s13,hpr,by lia,fun z=>absurd hw z,fun _ H' nw' ah' bt fa hB'=>R4 _ _ ⟨ah',nw',_,_,U,sb (sx.trans s13) bt,hB',by rw[Ui];show xs.length+1<=_;lia⟩⟩
  clear hBx lx sx hl'
  rintro σ H4 ⟨ah,nw,xs,zs,rfl,s4,hB4,lx4⟩
  refine⟨_,U,b,dx,_,U,hB4.hb,U,_,U,_,U,_,U,l,_,_,_,U,U,sqL (s4 _ _ hl),hat,smN 2,fun t1 h1=>?_⟩
  generalize eF1:upd H4 t1 _=F1
  obtain⟨g1,f1⟩:=aG eF1 h1
  refine⟨smN 1,fun t2 h2=>?_⟩
  generalize eF2:upd F1 t2 _=F2
  obtain⟨g2,f2⟩:=aG eF2 h2
  have s12:=g1.trans g2
  have hh:=fi.hand hi' (show 1<=p by lia) p9
  refine⟨b,be,ah,dx,nw,t2,n,co+1,xs,zs,_,g,[],_,[(((1+i:Nat):Int),p)],U,hB4.same s12,by lia,f2,.cons (g2 _ _ f1) .nil,by show 1<=100;decide,fun z=>absurd hh z,fun _ H' nw' ah' bt fa hB'=>⟨_,ah',nw',_,_,_,_,_,U,sb (s4.trans s12) bt,hB',by rw[Ui];show xs.length+1<=_;lia,fi.next hi' (by lia) p9⟩⟩
 ·rintro σ Hx ⟨u3,ah,nw,xs,zs,g,es,co,rfl,sx,hBx,lx,fi⟩
  have e:((n:Int) - 1).toNat=n - 1:=by lia
  rw[e] at lx fi
  refine Rc _ _ ⟨u3,ah,nw,xs,zs,g,es,co,U,sx,hBx,by lia,?_⟩
  have:=fi.skip
  rw[show n - 1+1=n by lia] at this
  exact this
inductive TbP (n:Nat)(H:Hp):GS->List (Nat × Pl)->Prop where
 | nil:TbP n H [] []
 | cons {p:Addr} {num:Nat} {pl:Pl} {kvs:GS} {tb:List (Nat × Pl)} (q:j6 n H p pl) (r:TbP n H kvs tb):TbP n H ((V3 (num:Int),.ref p)::kvs) ((num,pl)::tb)
section
variable {n:Nat}{H H':Hp}
theorem TbP.aN (e:∀ a xs,H a=some (HO.tup xs)->H' a=some (HO.tup xs)):∀ {kvs:GS} {tb:List (Nat × Pl)},TbP n H kvs tb->TbP n H' kvs tb
 | _,_,.nil=>.nil
 | _,_,.cons q r=>.cons (q.aN e) (TbP.aN e r)
theorem TbP.length:∀ {kvs:GS} {tb:List (Nat × Pl)},TbP n H kvs tb->kvs.length=tb.length
 | _,_,.nil=>rfl
 | _,_,.cons _ r=>congrArg (· + 1) (TbP.length r)
theorem TbP.keys:∀ {kvs:GS} {tb:List (Nat × Pl)},TbP n H kvs tb->kvs.map (·.1)=(tb.map fun e=>(e.1:Int)).map V3
 | _,_,.nil=>rfl
 | _,_,.cons _ r=>congrArg (_::·) (TbP.keys r)
theorem TbP.snoc {p:Addr}{num:Nat}{pl:Pl}(q:j6 n H p pl):∀ {kvs:GS} {tb:List (Nat × Pl)},TbP n H kvs tb->TbP n H (kvs++[(V3 (num:Int),.ref p)]) (tb++[(num,pl)])
 | _,_,.nil=>.cons q .nil
 | _,_,.cons b r=>.cons b (TbP.snoc q r)
theorem TbP.val {e:Nat × Pl}:∀ {kvs:GS} {tb:List (Nat × Pl)},TbP n H kvs tb->(tb.map (·.1)).Nodup->e∈tb->∃ p:Addr,wH kvs (V3 (e.1:Int))=some (.ref p)/\j6 n H p e.2
 | _,_,.nil,_,h=>nomatch h
 | _,_,.cons (num:=num) (tb:=tb) q r,nd,he=>by
  rw[U0,aaE] at nd
  rcases List.mem_cons.mp he with rfl | he
  ·exact⟨_,m7 U,q⟩
  ·obtain⟨p,h1,h2⟩:=TbP.val r nd.2 he
   refine⟨p,?_,h2⟩
   rw[j4 fun z=>nd.1 ?_]
   ·exact h1
   ·have:(num:Int)=(e.1:Int):=abD z
    rw[show num=e.1 by lia]
    exact List.mem_map.mpr ⟨e,he,U⟩
theorem TbP.none {k:Int}:∀ {kvs:GS} {tb:List (Nat × Pl)},TbP n H kvs tb->(∀ e∈tb,(e.1:Int)≠k)->wH kvs (V3 k)=none
 | _,_,.nil,_=>rfl
 | _,_,.cons _ r,h=>by
  rw[j4 fun z=>h _ Uc (abD z)]
  exact TbP.none r fun e he=>h e (Ug _ he)
def dpE (tb:List (Nat × Pl))(k:Int):List (Nat × Pl):=tb.filter fun e=>decide ((e.1:Int)≠k)
theorem TbP.drop {k:Int}:∀ {kvs:GS} {tb:List (Nat × Pl)},TbP n H kvs tb->TbP n H (nY kvs (V3 k)) (dpE tb k)
 | _,_,.nil=>.nil
 | _,_,.cons (num:=num) q r=>by
  unfold nY dpE
  by_cases z:(num:Int)=k
  ·rw[VJ (by rw[z];simp),VJ (by rw[z];simp)]
   exact TbP.drop r
  ·rw[Vm (by exact dcT fun y=>z (abD y)),Vm (by exact dcT z)]
   exact .cons q (TbP.drop r)
end
def zeE (es:List Ent):List (Nat × Pl):=(es.filter fun e=>decide (e.2.1=0)).map fun e=>(e.1,e.2.2)
theorem GJ (es:List Ent)(g:E9):owL es 0 g=(zeE es).map fun e=>owF g e.2:=by
 unfold owL zeE
 rw[Xe]
 rfl
theorem Jc {a b:E9}(h:a.Perm b)(na:∀ x∈a,0<=x):mxD 0 a=mxD 0 b:=by
 have m0:∀ l:E9,(∀ x∈l,0<=x)->mxD 0 l=l.foldl max 0:=fun l hl=>by
  cases l with
  | nil=>rfl
  | cons x r =>
   have:=hl x Uc
   show r.foldl max x=r.foldl max (max 0 x)
   rw[show max 0 x=x by lia]
 rw[m0 a na,m0 b fun x hx=>na x (h.mem_iff.mpr hx)]
 exact h.foldl_eq' (fun x _ y _ z=>by lia) 0
theorem Gq (es:List Ent)(k:Int):zeE (wiE es k)=dpE (zeE es) k:=by
 unfold zeE wiE dpE
 rw[List.filter_map,List.filter_filter,List.filter_filter]
 congr 1
 refine List.filter_congr fun e _=>?_
 show (decide _ && decide _)=(decide _ && decide _)
 rw[Bool.and_comm]
theorem mF {es:List Ent}{k:Int}{pl:Pl}{e:Ent}(nd:(es.map (·.1)).Nodup)(he:e∈es)(ek:(e.1:Int)=k)(e0:e.2.1=0):(zeE (chE es k pl)).Perm (dpE (zeE es) k++[(e.1,pl)]):=by
 induction es with
 | nil=>cases he
 | cons x r ih =>
  rw[U0,aaE] at nd
  have hx:∀ y∈r,(y.1:Int)=k->x.1≠y.1:=fun y hy _ z=>nd.1 (z▸List.mem_map.mpr ⟨y,hy,U⟩)
  rcases List.mem_cons.mp he with rfl | he'
  ·have rest:chE r k pl=r/\dpE (zeE r) k=zeE r:=by
    constructor
    ·unfold chE
     refine (Xa fun y hy=>?_).trans (List.map_id _)
     exact iNe fun z=>hx y hy z (by lia)
    ·unfold dpE
     refine List.filter_eq_self.mpr fun y hy=>?_
     obtain⟨q,hq,rfl⟩:=List.mem_map.mp hy
     have hq:=(List.mem_filter.mp hq).1
     exact dcT fun z=>hx q hq z (by lia)
   have e1:zeE (chE (e::r) k pl)=(e.1,pl)::zeE r:=by
    unfold chE zeE
    rw[U0,iPo ek,Vm (by exact dcT e0),U0]
    have:=rest.1
    unfold chE at this
    rw[this]
   have e2:dpE (zeE (e::r)) k=zeE r:=by
    have:zeE (e::r)=(e.1,e.2.2)::zeE r:=by
     unfold zeE
     rw[Vm (by exact dcT e0),U0]
    rw[this]
    unfold dpE
    rw[VJ (by simp [ek])]
    exact rest.2
   rw[e1,e2]
   exact List.perm_append_singleton _ _ |>.symm
  ·have ih:=ih nd.2 he'
   have xk:(x.1:Int)≠k:=fun z=>hx e he' ek (by lia)
   by_cases x0:x.2.1=0
   ·have e1:zeE (chE (x::r) k pl)=(x.1,x.2.2)::zeE (chE r k pl):=by
     unfold chE zeE
     rw[U0,iNe xk,Vm (by exact dcT x0),U0]
    have e2:dpE (zeE (x::r)) k=(x.1,x.2.2)::dpE (zeE r) k:=by
     unfold zeE
     rw[Vm (by exact dcT x0),U0]
     unfold dpE
     rw[Vm (by exact dcT xk)]
    rw[e1,e2]
    exact ih.cons _
   ·have e1:zeE (chE (x::r) k pl)=zeE (chE r k pl):=by
     unfold chE zeE
     rw[U0,iNe xk,VJ (by simp [x0])]
    have e2:zeE (x::r)=zeE r:=by
     unfold zeE
     rw[VJ (by simp [x0])]
    rw[e1,e2]
    exact ih
theorem ux {es:List Ent}{e:Nat × Pl}(h:e∈zeE es):(e.1,0,e.2)∈es:=by
 obtain⟨q,hq,rfl⟩:=List.mem_map.mp h
 obtain⟨h1,h2⟩:=List.mem_filter.mp hq
 have:q.2.1=0:=by simpa using h2
 rw[← this]
 exact h1
theorem Hh {l:E9}(h:∀ x∈l,0<=x):mxD 0 (0::l)=mxD 0 l:=by
 cases l with
 | nil=>rfl
 | cons x r =>
  have:=h x Uc
  show r.foldl max (max 0 x)=r.foldl max x
  rw[show max 0 x=x by lia]
theorem Fg {es:List Ent}{g:E9}{pls:List Pl}(okp:∀ e∈es,okP e.2.2)(pm:pls.Perm ((zeE es).map (·.2))):mxD 0 (0::pls.map (owF g))=mxD 0 (owL es 0 g):=by
 have pp:(pls.map (owF g)).Perm (owL es 0 g):=by
  rw[GJ,show ((zeE es).map fun e=>owF g e.2)=((zeE es).map (·.2)).map (owF g) by rw[Xe];rfl]
  exact pm.map _
 have nn0:∀ x∈pls.map (owF g),0<=x:=fun x hx=>by
  have hx:=pp.mem_iff.mp hx
  rw[GJ] at hx
  obtain⟨e,he,rfl⟩:=List.mem_map.mp hx
  exact qM fun y hy=>by have:=((okp _ (ux he)).2.2.2 y hy).1;lia
 rw[Hh nn0]
 exact Jc pp nn0
theorem Ri {l:E9}{b:Int}(h0:0<=b)(h:∀ x∈l,x<=b):mxD 0 l<=b:=by
 cases l with
 | nil=>exact h0
 | cons x r =>
  have hx:=h x Uc
  have hr:∀ y∈r,y<=b:=fun y hy=>h y (Ug _ hy)
  show r.foldl max x<=b
  clear h
  induction r generalizing x with
  | nil=>exact hx
  | cons y r ih=>exact ih (x:=max x y) (by have:=hr y Uc;lia) fun z hz=>hr z (Ug _ hz)
theorem RN {es:List Ent}{g:E9}(okp:∀ e∈es,okP e.2.2):mxD 0 (owL es 0 g)<=9:=by
 refine Ri (by decide) fun x hx=>?_
 rw[GJ] at hx
 obtain⟨e,he,rfl⟩:=List.mem_map.mp hx
 exact Dd (by decide) fun y hy=>((okp _ (ux he)).2.2.2 y hy).2.1
theorem t6 {es:List Ent}{k:Int}{pl:Pl}{e:Ent}(h:e∈chE es k pl):∃ e0∈es,e.1=e0.1/\e.2.1=e0.2.1/\(((e0.1:Int)=k/\e.2.2=pl)∨e=e0):=by
 obtain⟨e0,h0,rfl⟩:=List.mem_map.mp h
 refine⟨e0,h0,?_⟩
 by_cases z:(e0.1:Int)=k
 ·rw[iPo z]
  exact⟨U,U,.inl ⟨z,U⟩⟩
 ·rw[iNe z]
  exact⟨U,U,.inr U⟩
theorem JR {es:List Ent}{k:Int}{e:Ent}(nd:(es.map (·.1)).Nodup)(he:e∈es)(ek:(e.1:Int)=k):fnE es k=some e:=by
 cases h:fnE es k with
 | none=>exact absurd (List.find?_eq_none.mp h e he) (by simp [ek])
 | some e' =>
  obtain⟨m,k'⟩:=ur h
  rw[xM nd he m (by lia)]
structure Ez (n:Nat)(g:E9)(es:List Ent)(co:Nat):Prop where
 fz:Fz n g es
 eu:EsU n [] es co
 okg:okG n g
 okp:∀ e∈es,okP e.2.2
 l13:es.length<=13
section
variable {n co num:Nat}{g:E9}{es:List Ent}{pl pl0:Pl}
theorem Ez.wi (x:Ez n g es co)(k:Int):Ez n g (wiE es k) co :=
 ⟨⟨x.fz.lg,fun e he=>x.fz.fr e (List.mem_filter.mp he).1,fun e he=>x.fz.own e (List.mem_filter.mp he).1⟩,⟨x.eu.up.sublist (List.filter_sublist.map _),fun e he=>x.eu.lt e (List.mem_filter.mp he).1⟩,x.okg,fun e he=>x.okp e (List.mem_filter.mp he).1,UL (Vj _ _) x.l13⟩
theorem Ez.ch (x:Ez n g es co)(he:(num,0,pl0)∈es)(ok:okP pl)(ow:∀ y∈pl,nn 0 y.2=true):Ez n g (chE es (num:Int) pl) co:=by
 have nd:=x.eu.nd
 have one:∀ e0∈es,(e0.1:Int)=(num:Int)->e0.2.1=0:=fun e0 h0 z=>by
  have:e0=(num,0,pl0):=xM nd h0 he (by show e0.1=num;lia)
  rw[this]
 have up:(chE es (num:Int) pl).map (·.1)=es.map (·.1):=by
  unfold chE
  rw[Xe]
  refine Xa fun e _=>?_
  show (if _ then _ else _:Ent).1=_
  split <;> rfl
 refine⟨⟨x.fz.lg,fun e h h0=>?_,fun e h h0=>?_⟩,⟨by rw[up];exact x.eu.up,fun e h=>?_⟩,x.okg,fun e h=>?_,by unfold chE;rw[TJ];exact x.l13⟩
 ·obtain⟨e0,m0,_,e2,z | z⟩:=t6 h
  ·exact absurd (e2.trans (one e0 m0 z.1)) h0
  ·rw[z] at h0 ⊢
   exact x.fz.fr e0 m0 h0
 ·obtain⟨e0,m0,_,e2,z | z⟩:=t6 h
  ·rw[z.2]
   exact ow
  ·rw[z] at h0 ⊢
   exact x.fz.own e0 m0 h0
 ·obtain⟨e0,m0,e1,e2,_⟩:=t6 h
  rw[e1,e2]
  exact x.eu.lt e0 m0
 ·obtain⟨e0,m0,e1,e2,z | z⟩:=t6 h
  ·rw[z.2]
   exact ok
  ·rw[z]
   exact x.okp e0 m0
theorem Ez.wiW (x:Ez n g es co)(he:(num,0,pl0)∈es):wiW g es (num:Int)=bdW g (wiE es num) 0:=by
 unfold My.wiW
 rw[JR x.eu.nd he U]
theorem Ez.chW (x:Ez n g es co)(he:(num,0,pl0)∈es)(ow:∀ y∈pl,nn 0 y.2=true):chW g es (num:Int) pl=bdW g (chE es num pl) 0:=by
 unfold My.chW
 rw[JR x.eu.nd he U]
 show (if ∃ y∈pl,nn 0 y.2=false then _ else _)=_
 rw[iNe (fun⟨y,hy,z⟩=>by rw[ow y hy] at z;cases z)]
theorem Ez.set (x:Ez n g es co){v:Int}(v0:g.getD 0 0 < v)(v9:v<=9):Ez n (g.set 0 v) es co:=by
 have z0:0<=v:=by
  rw[TY] at v0
  cases h:g[0]? with
  | none=>rw[h] at v0;have:(0:Int) < v:=v0;lia
  | some y =>
   rw[h] at v0
   have:=(x.okg.2 y (UJ h)).1
   have:y < v:=v0
   lia
 refine⟨⟨by rw[Y0];exact x.fz.lg,fun e he h0=>?_,x.fz.own⟩,x.eu,⟨by rw[Y0];exact x.okg.1,fun y hy=>?_⟩,x.okp,x.l13⟩
 ·obtain⟨p,e1,e2⟩:=x.fz.fr e he h0
  refine⟨p,e1,?_⟩
  rw[TY,Yv (VM h0),← TY]
  exact e2
 ·rcases List.mem_or_eq_of_mem_set hy with z | z
  ·exact x.okg.2 y z
  ·rw[z]
   exact⟨z0,v9⟩
theorem Ez.haW (x:Ez n g es co) (n1:1<=n) {v:Int} (v0:g.getD 0 0 < v) (v9:v<=9) (vm:v<=mxD 0 (owL es 0 g)):haW n g [] es [(0,v)] = "":=by
 unfold My.haW
 have r:riW n g [] [] [(0,v)] = "":=by
  have e:miW n [] (0:Int) = "":=by
   have:=iG (n:=n) (i:=0) (go:=[]) (by lia)
   simpa using this
  unfold riW
  rw[e,iNe (by simp),iNe (fun z=>z.elim (fun y=>by simp at y) fun y=>y ⟨v0,v9⟩)]
  rfl
 rw[iNe (by simp),r,iNe (by simp),iNe]
 rintro⟨y,hy,z⟩
 rw[List.mem_singleton.mp hy] at z
 have e:owL es 0 (g.set 0 v)=owL es 0 g:=by
  unfold owL
  refine Xa fun e he=>?_
  obtain⟨h1,h2⟩:=List.mem_filter.mp he
  refine yI (one:=0) (fun j hj=>?_) _ _ (x.fz.own e h1 (by simpa using h2))
  rw[TY,Yv (VM hj),← TY]
 have z:mxD 0 (owL es 0 (g.set 0 v)) < v:=z
 rw[e] at z
 lia
end
def plO (tb:List (Nat × Pl))(m:Int):Pl:=((tb.find? fun e=>decide ((e.1:Int)=m)).map (·.2)).getD []
theorem pK {e:Nat × Pl}:∀ {tb:List (Nat × Pl)},(tb.map (·.1)).Nodup->e∈tb->plO tb (e.1:Int)=e.2
 | [],_,h=>nomatch h
 | x::r,nd,h=>by
  rw[U0,aaE] at nd
  unfold plO
  rcases List.mem_cons.mp h with rfl | h
  ·rw[List.find?_cons_of_pos (by simp)]
   rfl
  ·rw[List.find?_cons_of_neg (by
    have:x.1≠e.1:=fun z=>nd.1 (z▸List.mem_map.mpr ⟨e,h,U⟩)
    simp
    lia)]
   exact pK nd.2 h
theorem Kh {n:Nat}{go:Fa}{es:List Ent}{co:Nat}{tb:List (Nat × Pl)}(eu:EsU n go es co)(pm:tb.Perm (zeE es)):(tb.map (·.1)).Nodup:=by
 refine (pm.map (·.1)).nodup_iff.mpr ?_
 unfold zeE
 rw[Xe]
 exact (List.filter_sublist.map _).nodup eu.nd
theorem MJ {es:List Ent}{tb:List (Nat × Pl)}{g ms:E9}(nd:(tb.map (·.1)).Nodup)(okp:∀ e∈es,okP e.2.2)(pm:tb.Perm (zeE es))(ps:ms.Perm (tb.map fun e=>(e.1:Int))):mxD 0 (0::ms.map fun m=>owF g (plO tb m))=mxD 0 (owL es 0 g):=by
 rw[← Fg (pls:=ms.map (plO tb)) okp ?_,Xe]
 ·rfl
 ·refine (ps.map _).trans ?_
  rw[Xe,Xa (g:=fun e:Nat × Pl=>e.2) fun e he=>by show plO tb (e.1:Int)=_;exact pK nd he]
  exact pm.map _
theorem Ml {es:List Ent}{tb:List (Nat × Pl)}{ms:E9}(nd:(tb.map (·.1)).Nodup)(pm:tb.Perm (zeE es))(ps:ms.Perm (tb.map fun e=>(e.1:Int)))(m:Int):((ms.filter fun k=>decide (k≠m)).map (plO tb)).Perm ((zeE (wiE es m)).map (·.2)):=by
 refine ((ps.filter fun k=>decide (k≠m)).map (plO tb)).trans ?_
 rw[List.filter_map,Xe,Xa (g:=fun e:Nat × Pl=>e.2) fun e he=>by show plO tb (e.1:Int)=_;exact pK nd (List.mem_filter.mp he).1,Gq]
 exact (pm.filter _).map _
section
variable {K:Uw}{G C T:Addr}{q w:Ut}{cap:Fa}{te:XK->TE}{σ:St}{H:Hp}{Q:VK}
theorem rO (hT:TabOk H T q) (R:XRd K C G "word") (h:∀ H1,gf H H1->TabOk H1 T q->∀ (Q2:VK) (E2:XK),thrown C w H1 E2->te E2 (Ng cap σ) H1 Q2)
  (k:∀ a H',gf H H'->TabOk H' T q->H' a=some (.tup [.str w])->Q (.ref a) H'):Rq T q cap (twWord K G) te σ H Q :=
 ⟨hT,fun _ H1 sm tb=>h H1 sm tb _ _ (wN R fun a H' s e=>k a H' (sm.trans s.t) (tb.same s) e)⟩
theorem zp {P:V->Hp->Prop}(hT:TabOk H T q)(h:∀ H1,gf H H1->TabOk H1 T q->∀ (Q2:VK) (E2:XK),(∀ v H2,P v H2->Q2 v H2)->te E2 (Ng cap σ) H1 Q2)
  (k:∀ a v H2 H',P v H2->aH H2 H'->H' a=some (.tup [.str "told",v])->Q (.ref a) H'):Rq T q cap (twWord K G) te σ H Q :=
 ⟨hT,fun _ H1 sm tb=>h H1 sm tb _ _ fun v H2 p=>⟨smN 2,fun a ha=>k a v H2 _ p (aA ha _) aa⟩⟩
end
theorem zO {H:Hp}{a:Addr}{w:Ut}(h:H a=some (.tup [.str w])):Rep H (.ref a) (.tup [.str w]):=.tup h (by show 1<=100000;decide) (.cons (.str _) .nil)
theorem zY {H:Hp} {a:Addr} {v:V} {d:Dm} (h:H a=some (.tup [.str "told",v])) (r:Rep H v d):Rep H (.ref a) (.tup [.str "told",d]):=.tup h (by show 2<=100000;decide) (.cons (.str _) (.cons r .nil))
theorem Hs {w:Ut}{n:Nat}(h:1 < n):(Dm.tup [.str w]).dep < n:=by simpa [Dm.dep,Bs] using h
theorem tab_keep {H H':Hp}{T:Addr}{q:Ut}(h:TabOk H T q)(k1:∀ a ps,H a=some (.tbl ps)->H' a=some (.tbl ps))(k2:∀ a o u,H a=some (.frz o u)->H' a=some (.frz o u)):TabOk H' T q:=by
 obtain⟨ps,e,t,f⟩:=h
 refine⟨ps,k1 _ _ e,t,fun pos cv z=>?_⟩
 obtain⟨c,oc,u,vs,tk,e1,e2,e3⟩:=f pos cv z
 exact⟨c,oc,u,vs,tk,e1,k2 _ _ _ e2,e3⟩
def G5:Ut:=("law" : Ut)++".<locals>."++"<lambda>"
structure Wz (CS CB:Addr)(H:Hp)(b be dx ta:Addr)(n:Nat)(g:E9)(es:List Ent)(co N:Nat):Prop where
 bn:∃ (ah nw:Addr) (xs zs:G1),Bn CS CB n H b be ah dx nw xs zs g [] es co/\xs.length<=N
 fz:Fz n g es
 eu:EsU n [] es co
 tb:∃ (kvs:GS) (tb:List (Nat × Pl)),H ta=some (.dK kvs)/\TbP n H kvs tb/\tb.Perm (zeE es)
 okg:okG n g
 okp:∀ e∈es,okP e.2.2
 l13:es.length<=13
theorem Wz.same {CS CB:Addr}{H H':Hp}{b be dx ta:Addr}{n:Nat}{g:E9}{es:List Ent}{co N:Nat}(s:aH H H')(x:Wz CS CB H b be dx ta n g es co N):Wz CS CB H' b be dx ta n g es co N:=by
 obtain⟨⟨ah,nw,xs,zs,hB,lx⟩,fz,eu,⟨kvs,tb,h1,h2,h3⟩,okg,okp,l13⟩:=x
 exact⟨⟨ah,nw,xs,zs,hB.same s,lx⟩,fz,eu,⟨kvs,tb,s _ _ h1,h2.aN (fun a xs z=>s _ _ z),h3⟩,okg,okp,l13⟩
theorem zm {H:Hp}{ta:Addr}{kvs kvs':GS}(h:H ta=some (.dK kvs)){a:Addr}{o:HO}(no:∀ kv,o≠.dK kv)(y:H a=some o):upd H ta (.dK kvs') a=some o:=by
 rw[aD (fun z=>by rw[z,h] at y;cases y;exact no _ U)]
 exact y
theorem Bn.zm {CS CB:Addr}{n:Nat}{H:Hp}{b be ah dx nw ta:Addr}{xs zs:G1}{g:E9}{go:Fa}{es:List Ent}{co:Nat}{kvs kvs':GS}(B:Bn CS CB n H b be ah dx nw xs zs g go es co)(h:H ta=some (.dK kvs)):Bn CS CB n (upd H ta (.dK kvs')) b be ah dx nw xs zs g go es co :=
 ⟨My.zm h (fun _ z=>nomatch z) B.hb,My.zm h (fun _ z=>nomatch z) B.hbe,My.zm h (fun _ z=>nomatch z) B.hah,B.st.ks ⟨fun _ _ q=>My.zm h (fun _ z=>nomatch z) q,fun _ _ _ q=>My.zm h (fun _ z=>nomatch z) q⟩,B.nb,B.lg,B.n12,B.l40,B.gn,B.gl⟩
theorem S6 {H:Hp}{ta T:Addr}{q:Ut}{kvs kvs':GS}(h:H ta=some (.dK kvs))(t:TabOk H T q):TabOk (upd H ta (.dK kvs')) T q:=tab_keep t (fun _ _ y=>zm h (fun _ z=>nomatch z) y) fun _ _ _ y=>zm h (fun _ z=>nomatch z) y
theorem Wz.sT {CS CB:Addr}{H H':Hp}{b be dx ta:Addr}{n:Nat}{g:E9}{es:List Ent}{co N:Nat}(s:gf H H')(x:Wz CS CB H b be dx ta n g es co N):Wz CS CB H' b be dx ta n g es co N:=by
 obtain⟨⟨ah,nw,xs,zs,B,lx⟩,fz,eu,⟨kvs,tb,h1,h2,h3⟩,okg,okp,l13⟩:=x
 exact⟨⟨ah,nw,xs,zs,⟨s _ _ (fun _ z=>nomatch z) B.hb,s _ _ (fun _ z=>nomatch z) B.hbe,s _ _ (fun _ z=>nomatch z) B.hah,B.st.ks ⟨fun _ _ q=>s _ _ (fun _ z=>nomatch z) q,fun _ _ _ q=>s _ _ (fun _ z=>nomatch z) q⟩,B.nb,B.lg,B.n12,B.l40,B.gn,B.gl⟩,lx⟩,fz,eu,⟨kvs,tb,s _ _ (fun _ z=>nomatch z) h1,h2.aN (fun a xs z=>s _ _ (fun _ z=>nomatch z) z),h3⟩,okg,okp,l13⟩
structure Wy (CS CB T:Addr)(H:Hp)(b be dx ta p6:Addr)(cs:G1)(n:Nat)(g:E9)(es:List Ent)(co N:Nat):Prop where
 w:Wz CS CB H b be dx ta n g es co N
 tb:TabOk H T G5
 h6:H p6=some (.lst cs)
 n6:p6≠be
theorem Wy.sT {CS CB T:Addr}{H H':Hp}{b be dx ta p6:Addr}{cs:G1}{n:Nat}{g:E9}{es:List Ent}{co N:Nat}(s:gf H H')(t:TabOk H' T G5)(x:Wy CS CB T H b be dx ta p6 cs n g es co N):Wy CS CB T H' b be dx ta p6 cs n g es co N:=⟨x.w.sT s,t,s _ _ (fun _ z=>nomatch z) x.h6,x.n6⟩
theorem Wy.same {CS CB T:Addr}{H H':Hp}{b be dx ta p6:Addr}{cs:G1}{n:Nat}{g:E9}{es:List Ent}{co N:Nat}(s:aH H H')(x:Wy CS CB T H b be dx ta p6 cs n g es co N):Wy CS CB T H' b be dx ta p6 cs n g es co N:=x.sT s.t (x.tb.same s)
theorem Wy.len {CS CB T:Addr}{H:Hp}{b be dx ta p6:Addr}{cs:G1}{n:Nat}{g:E9}{es:List Ent}{co N:Nat}{kvs:GS}(x:Wy CS CB T H b be dx ta p6 cs n g es co N)(et:H ta=some (.dK kvs)):kvs.length<=es.length:=by
 obtain⟨kvs0,tb0,h1,h2,h3⟩:=x.w.tb
 rw[et] at h1
 cases h1
 rw[h2.length,h3.length_eq]
 unfold zeE
 rw[TJ]
 exact Vj _ _
theorem Wy.up {CS CB T:Addr}{H:Hp}{b be dx ta p6:Addr}{cs:G1}{n:Nat}{g:E9}{es:List Ent}{co N:Nat}(x:Wy CS CB T H b be dx ta p6 cs n g es co N):Wy CS CB T H b be dx ta p6 cs n g es co (N+1):=by
 obtain⟨⟨⟨ah,nw,xs,zs,hB,lx⟩,w2,w3,w4,w5,w6,w7⟩,t,h6,n6⟩:=x
 exact⟨⟨⟨ah,nw,xs,zs,hB,by lia⟩,w2,w3,w4,w5,w6,w7⟩,t,h6,n6⟩
theorem EsU.snoc {n:Nat}{go:Fa}{es:List Ent}{co i:Nat}{pl:Pl}(h:EsU n go es co)(hi:i < n)(hg:i ∉ go):EsU n go (es++[(co,i,pl)]) (co+1):=by
 refine⟨?_,fun e he=>?_⟩
 ·rw[Ub,Zv]
  refine⟨h.up,by simp,fun x hx y hy=>?_⟩
  obtain⟨e,he,rfl⟩:=List.mem_map.mp hx
  have:=(h.lt e he).1
  rw[List.mem_singleton.mp hy]
  exact this
 ·rcases List.mem_append.mp he with y | y
  ·have:=h.lt e y
   exact⟨by lia,this.2⟩
  ·rw[List.mem_singleton.mp y]
   exact⟨by show co < co+1;lia,hi,hg⟩
theorem Hk (es:List Ent)(co:Nat)(pl:Pl):zeE (es++[(co,0,pl)])=zeE es++[(co,pl)]:=by
 unfold zeE
 rw[WQ,Ub]
 rfl
theorem Wz.put {CS CB:Addr}{H H':Hp}{b be ah dx nw ta p:Addr}{n:Nat}{g:E9}{es:List Ent}{co N:Nat}{pl:Pl}{xs:G1}{kvs:GS}(W:Wz CS CB H b be dx ta n g es co N)(n1:1<=n)(l12:es.length<=12)(et:H ta=some (.dK kvs))(bt:But b be H H')(ks:∀ a xs,H a=some (HO.tup xs)->H' a=some (HO.tup xs))(et':H' ta=some (.dK kvs))(hp:j6 n H p pl)(ow:∀ x∈pl,nn 0 x.2=true)(hB:Bn CS CB n H' b be ah dx nw xs [] g [] (es++[(co,0,pl)]) (co+1))(lx:xs.length<=N+1) :
  Wz CS CB (upd H' ta (.dK (putK kvs (V3 (co:Int)) (.ref p)))) b be dx ta n g (es++[(co,0,pl)]) (co+1) (N+1):=by
 obtain⟨_,fz,eu,⟨kvs0,tb,h1,h2,h3⟩,okg,okp,l13⟩:=W
 rw[et] at h1
 cases h1
 have pk:putK kvs (V3 (co:Int)) (.ref p)=kvs++[(V3 (co:Int),.ref p)]:=zj _ (h2.none fun e he=>by
  have:e.1 < co:=(eu.lt _ (ux (h3.mem_iff.mp he))).1
  lia)
 rw[pk]
 have up:∀ (a:Addr) (xs:G1),H' a=some (HO.tup xs)->upd H' ta (.dK (kvs++[(V3 (co:Int),.ref p)])) a=some (HO.tup xs):=fun a xs y=>zm et' (fun _ z=>nomatch z) y
 refine⟨⟨ah,nw,xs,[],hB.zm et',lx⟩,⟨fz.lg,fun e he h0=>?_,fun e he h0=>?_⟩,eu.snoc n1 (by simp),⟨_,tb++[(co,pl)],aa,?_,?_⟩,okg,fun e he=>?_,by rw[Ui];show es.length+1<=13;lia⟩
 ·rcases List.mem_append.mp he with y | y
  ·exact fz.fr e y h0
  ·rw[List.mem_singleton.mp y] at h0
   exact absurd U h0
 ·rcases List.mem_append.mp he with y | y
  ·exact fz.own e y h0
  ·rw[List.mem_singleton.mp y]
   exact ow
 ·exact .snoc (hp.aN fun a xs z=>up _ _ (ks _ _ z)) (h2.aN fun a xs z=>up _ _ (ks _ _ z))
 ·rw[Hk]
  exact h3.append_right _
 ·rcases List.mem_append.mp he with y | y
  ·exact okp e y
  ·rw[List.mem_singleton.mp y]
   exact hp.1
theorem Wz.ez {CS CB:Addr}{H:Hp}{b be dx ta:Addr}{n:Nat}{g:E9}{es:List Ent}{co N:Nat}(x:Wz CS CB H b be dx ta n g es co N):Ez n g es co:=⟨x.fz,x.eu,x.okg,x.okp,x.l13⟩
theorem at0 {l:E9}{n:Nat}(h:l.length=n)(h1:1<=n):atI (l.map V.int) 0=some (V.int (l.getD 0 0)):=by
 have l0:0 < l.length:=by lia
 have:=lY l0
 rw[TY,T8 l0]
 exact this
theorem Wy.hand {CS CB T:Addr}{H H':Hp}{b be dx ta p6:Addr}{cs xs:G1}{fs:GT}{n:Nat}{g g':E9}{es:List Ent}{co N M:Nat}(x:Wy CS CB T H b be dx ta p6 cs n g es co N)(hb:H b=some (.ins CB dx fs))(hbe:H be=some (.lst xs))(bt:But b be H H')(B:∃ (ah nw:Addr) (xs zs:G1),Bn CS CB n H' b be ah dx nw xs zs g' [] es co/\xs.length<=M)(ez:Ez n g' es co):Wy CS CB T H' b be dx ta p6 cs n g' es co M:=by
 obtain⟨⟨_,_,_,⟨kvs,tb,et,etb,pm⟩,_⟩,t,h6,n6⟩:=x
 have kb:∀ {a o},a≠be->H a=some o->(∀ fs,o≠.ins CB dx fs)->H' a=some o:=fun {a o} h1 h2 h3=>bt _ _ (fun z=>by rw[z,hb] at h2;cases h2;exact h3 _ U) h1 h2
 exact⟨⟨B,ez.fz,ez.eu,⟨kvs,tb,kb (fun z=>by rw[z,hbe] at et;cases et) et (fun _ z=>nomatch z),etb.aN (fun a ys y=>kb (fun z=>by rw[z,hbe] at y;cases y) y (fun _ z=>nomatch z)),pm⟩,ez.okg,ez.okp,ez.l13⟩,tab_keep t (fun a ps y=>kb (fun z=>by rw[z,hbe] at y;cases y) y (fun _ z=>nomatch z)) (fun a o u y=>kb (fun z=>by rw[z,hbe] at y;cases y) y (fun _ z=>nomatch z)),kb n6 h6 (fun _ z=>nomatch z),n6⟩
structure Wv (CS CB T:Addr)(H:Hp)(b be dx ta p6 pk p:Addr)(cs ks:G1)(n:Nat)(g:E9)(es:List Ent)(co N:Nat)(kvs:GS)(tb:List (Nat × Pl))(pl:Pl):Prop where
 bn:∃ (ah nw:Addr) (xs zs:G1),Bn CS CB n H b be ah dx nw xs zs g [] es co/\xs.length<=N
 t:TabOk H T G5
 h6:H p6=some (.lst cs)
 hta:H ta=some (.dK kvs)
 htb:TbP n H kvs tb
 hpk:H pk=some (.lst ks)
 hp:j6 n H p pl
section
variable {CS CB T:Addr}{H H':Hp}{b be dx ta p6 pk p:Addr}{cs ks:G1}{n:Nat}{g:E9}{es es':List Ent}{co N:Nat}{kvs:GS}{tb:List (Nat × Pl)}{pl:Pl}
theorem Wv.sT (s:gf H H')(t:TabOk H' T G5)(x:Wv CS CB T H b be dx ta p6 pk p cs ks n g es co N kvs tb pl):Wv CS CB T H' b be dx ta p6 pk p cs ks n g es co N kvs tb pl:=by
 obtain⟨⟨ah,nw,xs,zs,hB,lx⟩,_,h6,hta,htb,hpk,hp⟩:=x
 exact⟨⟨ah,nw,xs,zs,hB.sT s,lx⟩,t,stL s h6,s _ _ (fun _ z=>nomatch z) hta,htb.aN fun a xs z=>stT s z,stL s hpk,hp.aN fun a xs z=>stT s z⟩
theorem Wv.same (s:aH H H')(x:Wv CS CB T H b be dx ta p6 pk p cs ks n g es co N kvs tb pl):Wv CS CB T H' b be dx ta p6 pk p cs ks n g es co N kvs tb pl:=x.sT s.t (x.t.same s)
theorem Wv.but {xs:G1}{fs:GT}(x:Wv CS CB T H b be dx ta p6 pk p cs ks n g es co N kvs tb pl)(hb:H b=some (.ins CB dx fs))(hbe:H be=some (.lst xs))(n6:p6≠be)(npk:pk≠be)(bt:But b be H H'){M:Nat}(B:∃ (ah nw:Addr) (xs zs:G1),Bn CS CB n H' b be ah dx nw xs zs g [] es' co/\xs.length<=M):Wv CS CB T H' b be dx ta p6 pk p cs ks n g es' co M kvs tb pl:=by
 obtain⟨_,t,h6,hta,htb,hpk,hp⟩:=x
 have kb:∀ {a o},a≠be->H a=some o->(∀ fs,o≠.ins CB dx fs)->H' a=some o:=fun {a o} h1 h2 h3=>bt _ _ (fun z=>by rw[z,hb] at h2;cases h2;exact h3 _ U) h1 h2
 have kt:∀ a ys,H a=some (HO.tup ys)->H' a=some (HO.tup ys):=fun a ys y=>kb (fun z=>by rw[z,hbe] at y;cases y) y (fun _ z=>nomatch z)
 exact⟨B,tab_keep t (fun a ps y=>kb (fun z=>by rw[z,hbe] at y;cases y) y (fun _ z=>nomatch z)) (fun a o u y=>kb (fun z=>by rw[z,hbe] at y;cases y) y (fun _ z=>nomatch z)),kb n6 h6 (fun _ z=>nomatch z),kb (fun z=>by rw[z,hbe] at hta;cases hta) hta (fun _ z=>nomatch z),htb.aN kt,kb npk hpk (fun _ z=>nomatch z),hp.aN kt⟩
theorem Wv.up (x:Wv CS CB T H b be dx ta p6 pk p cs ks n g es co N kvs tb pl):Wv CS CB T H b be dx ta p6 pk p cs ks n g es co (N+1) kvs tb pl:=by
 obtain⟨⟨ah,nw,xs,zs,hB,lx⟩,t,h6,hta,htb,hpk,hp⟩:=x
 exact⟨⟨ah,nw,xs,zs,hB,by lia⟩,t,h6,hta,htb,hpk,hp⟩
theorem Wv.put {kvs':GS}{tb':List (Nat × Pl)}(x:Wv CS CB T H b be dx ta p6 pk p cs ks n g es co N kvs tb pl)(h:TbP n H kvs' tb'):Wv CS CB T (upd H ta (.dK kvs')) b be dx ta p6 pk p cs ks n g es co N kvs' tb' pl:=by
 obtain⟨⟨ah,nw,xs,zs,hB,lx⟩,t,h6,hta,htb,hpk,hp⟩:=x
 have up:∀ (a:Addr) (xs:G1),H a=some (HO.tup xs)->upd H ta (.dK kvs') a=some (HO.tup xs):=fun a xs y=>zm hta (fun _ z=>nomatch z) y
 exact⟨⟨ah,nw,xs,zs,hB.zm hta,lx⟩,S6 hta t,zm hta (fun _ z=>nomatch z) h6,aa,h.aN up,zm hta (fun _ z=>nomatch z) hpk,hp.aN up⟩
theorem Wv.end_ (x:Wv CS CB T H b be dx ta p6 pk p cs ks n g es co N kvs tb pl)(ez:Ez n g es co)(pm:tb.Perm (zeE es))(n6:p6≠be):Wy CS CB T H b be dx ta p6 cs n g es co N:=⟨⟨x.bn,ez.fz,ez.eu,⟨kvs,tb,x.hta,x.htb,pm⟩,ez.okg,ez.okp,ez.l13⟩,x.t,x.h6,n6⟩
end
abbrev Nh:Stmt:=top 76
theorem cV:aB ["_law_script","_law_drawn","_law_n","_law_boon_here","_law_table","_law_k","_law_pledge_here","_law_cell_here","_law_pick","_law_lies","_law_most","_law_want","_law_numbers","_law_number","_law_fresh","_law_left","_law_good","_law_found"] ZE (au Nh):=cM
inductive JK (K:Uw)(T:Addr)(vs:G1)(H:Hp)(Q:VK)(e3:XK):Prop where
 | mk (a:Addr) (ns:E9) (_:vs=[.ref a]) (_:SqL K H a (ns.map V.int)) (_:ns.length<=63) (_:TabOk H T G5) (_:∀ H',Q (.bl true) H')
theorem O1 {f c T fW G CS CB:Addr} {x:XA} {fd fdW:Vn} (F:QK K "law" "law" Nh f fd c) (B:Bt mg) (HP:Bv mg c T base) (VA:mg "BoonError" = some (.ref G)) (RX:∀ w:Ut,XRd K (x.of w) G "word")
  (TM:Fun K "_law_word" "_law_word" dX fW fdW) (m_law_word:mg "_law_word" = some (.ref fW)) (SD:Df P w K mg base "_law_draws" 1 XB (uq K)) (SB:Df P w K mg base "_law_cell" 1 XZ (KD K)) (SS:Df P w K mg base "_law_under" 1 XG tY) (SK:Df P w K mg base "_law_pledge" 6 WS zU) (SI:Df P w K mg base "_law_owes" 5 Xs (wF K))
  (SE:Df P w K mg base "_law_free_boon" 15 Ya (KH CS CB)) (TW:Dmx P w K mg base CB "pledge" 14 X9 (nZ CS CB x)) (TU:Dmx P w K mg base CB "hand" 14 Zp (xT CS CB x)) (TN:Dmx P w K mg base CB "change" 14 XT (vy CS CB x)) (TZ:Dmx P w K mg base CB "withdraw" 14 YV (pW CS CB x))
  (Sf:Df P w K mg base "green" 1 ZU (oV CS CB)) (SW:Df P w K mg base "owed" 12 ZH (Gh CS CB)) (Tx:Df P w K mg base "sure" 15 ZU (Kw CS CB)) (Sk:Df P w K mg base "hoped" 15 ZU (Cq CS CB)) (Tk:Df P w K mg base "pledges" 1 ZU (vB CS CB)) (SO:Df P w K mg base "_law_same" 3 XU (rA 3)) :
  aY P w K mg base CX0 19 f fd ZE (JK K T):=by
 refine F.ok cV (fun vs H Q E h=>?_) (fun A outer s H vs Q E hr h=>?_)
 ·obtain⟨a,ns,rfl,_⟩:=h
  rfl
 ·obtain⟨a,ns0,rfl,hS,lN,hT,q⟩:=h
  refine⟨_,(ao (sT 0 cV.nd (nA (r:=QM K) wU (pv 0) rP (tZ aq)))
 (ao (sT 1 cV.nd (aP SD hr (aj (aP SB hr (aj (pv 0) (a1 aq))) (a1 (aM rN (bI (aj aq (a1 aq))) (aM Oe (bI (a1 aq)) aq))))))
 (ao (sT 2 cV.nd (aM bA aq (pxL K (pv 1) aq)))
 (ao (sTc 3 cV.nd (aP SE hr (aj (pv 2) (a1 (nA (r:=QM K) wU (pv 1) (tZ aq) rP)))))
 (ao (sTc 4 cV.nd Ji)
 (ao (dC Vu U (cZ U B.range_ (a1 (aM bA aq (pxL K (pv 1) aq)))) (pgN 5 cV.nd) (ao (sT 6 cV.nd (aP SK hr (aj (aP SS hr (aj (aP SB hr (aj (pv 0) (a1 (aM bA aq (pv 5))))) (a1 aq))) (aj (pv 2) (aj aq (aj aq (a1 aq)))))))
 (aC (Ci hr.yS (pv 4) (qL TW hr iB (pv 3) (aj aq (v1 6))) (pv 6) U))))
 (ao (dC Vu U (fV (aM rN (nA (r:=QM K) wU (pv 0) (tZ aq) rP) (bI (aj aq (a1 aq))))) (pgN 7 cV.nd) (ao (sT 8 cV.nd (aP SD hr (aj (pv 7) (a1 (bI (aj aq (aj aq (a1 aq))))))))
 (ao (sTc 9 cV.nd (aP Sf hr (v1 3)))
 (ao (sT 10 cV.nd (aJ (r:=Ck K) (jO U) U B.max_ qQ (a1 (aM rN (bI (a1 aq)) (bj (L:=["_law_number"]) (F:=["_law_lies","_law_table"]) (cap:=[9,4]) U (aV U U (by kernel_rfl)) (fV (aJ (r:=BV) (qW U) U B.sorted_ (by decide+kernel) (v1 4))) (fun _ _ _ _ _=>(pgC 0)) (fun _ _ _ _ _=>bF) (fun _ _ _ _ _=>(aP SI hr (aj (CK hr.yS (pv 2) (pv 0) (fun _ _=>U)) (v1 1)))))))))
 (ao (sT 11 cV.nd (aJ (vp U) U B.max_ qQ (aj (pv 10) (a1 (pxT K (pv 9) aq)))))
 (ao (ifR (dG (bV (aP SO hr (aj (bI (aj (aP SW hr (aj (pv 3) (a1 aq))) (aj (pxT K (aP Tx hr (v1 3)) aq) (a1 (pxT K (aP Sk hr (v1 3)) aq))))) (a1 (bI (aj (pv 10) (v2 11 11)))))))) iw)
 (ao (sT 12 cV.nd (aJ (r:=BV) (qW U) U B.sorted_ (by decide+kernel) (v1 4)))
 (aC (c7 (PW.pt (rE (aK bw (pxL K (pv 8) aq) aq) (lX (aK yr (pxT K (pv 9) aq) (pv 10))))) (aC (aU (qL TU hr iB (pv 3) (a1 (bI (a1 (bc (aj aq (a1 (aM bA (aM bA (pxT K (pv 9) aq) aq) (aM cI (pxL K (pv 8) aq) (aM fG (pv 10) (pxT K (pv 9) aq))))))))))))) (aC (c7 (aK (r:=R8 K) (PJ hr.zB) (pv 12) (bI dM)) (ao (sTc 13 cV.nd (pxL K (pv 12) (aM cI (pxL K (pv 8) aq) (pln K B.len_ (pv 12)))))
 (ao (sTc 14 cV.nd (aP SK hr (aj (aP SS hr (aj (pv 7) (a1 aq))) (aj (pv 2) (aj aq (aj aq (a1 aq)))))))
 (ao (wV (L:=["_law_other"]) (F:=["_law_table","_law_number"]) (cap:=[4,13]) (j:=15) cV.nd U (ZG U) U (aV U U (by kernel_rfl)) (fV (pv 12)) (fun _ _ _ _ _=>(pgC 0)) (fun _ _ _ _ _=>(pZ (aK Aq (pv 0) (pv 2)))) (fun _ _ _ _ _=>(CK hr.yS (pv 1) (pv 0) (fun _ _=>U))))
 (ao (c7 (aK bw (pxL K (pv 8) aq) aq) (aC (aU (yH Wq Wh Wg cL (pv 15) (v1 14)))) bh)
 (ao (sT 16 cV.nd (cD lA (aJ (r:=Ck K) (jO U) U B.max_ qQ (a1 (aM rN (bI (a1 aq)) (bj (L:=["_law_pledge_here"]) (F:=["_law_lies"]) (cap:=[9]) U (aV U U (by kernel_rfl)) (fV (pv 15)) (fun _ _ _ _ _=>(pgC 0)) (fun _ _ _ _ _=>bF) (fun _ _ _ _ _=>(aP SI hr (v2 0 1))))))) (pxT K (pv 9) aq)))
 (ao (c7 (aK bw (pxL K (pv 8) aq) aq) (aC (sT 17 cV.nd (JS (k:=17) (NL:=["_law_number","_law_fresh","_law_boon_here"]) (cap:=[13,14,3]) TM ji hr U m_law_word (J3 (aV U U (by kernel_rfl))) U HP.code HP.blt (fun f cd cl A outer s H E j hj hr=>(qL TN hr qP (pv 2) (v2 0 1))) (Gb VA)))) (aC (sT 17 cV.nd (JS (k:=17) (NL:=["_law_number","_law_boon_here"]) (cap:=[13,3]) TM ji hr U m_law_word (J3 (aV U U (by kernel_rfl))) U HP.code HP.blt (fun f cd cl A outer s H E j hj hr=>(qL TZ hr qP (pv 1) (v1 0))) (Gb VA)))))
 (ao (ifR (dG (bV (aP SO hr (aj (pv 17) (a1 (zK (bV (pv 16)) (bc (aj aQ (a1 N8))) (bc (a1 aQ)))))))) iw)
 (ao (c7 (bV (pv 16)) (aC (aU (IK (pv 4) (pv 13) ⟨U,U,U,U⟩))) bh)
 (aC (c7 (PW.pt (rE (bV (pv 16)) (lX (aK bw (pxL K (pv 8) aq) aq)))) (aC (Ci hr.yS (pv 4) (pv 13) (pv 14) U)) bh)))))))))) bh)))))))))))
 (sR (cD lA (pln K B.len_ (aP Tk hr (v1 3))) (aJ (r:=NB) An U B.len_ Kc (v1 4))))))))))),?_⟩
  refine eX (fun σ H1=>∃ (p1:Addr) (ss:E9),σ=[oR p1,none,none,none,none,none,none,none,none,none,none,none,none,none,none,none,none,none]/\aH H H1/\H1 p1=some (.lst (ss.map V.int))/\ss.length<=63) ?_ ?_
  ·intro N Rc
   refine⟨_,U,_,U,a,_,U,hS,fun p1 h1=>?_⟩
   obtain⟨ss,es,ls⟩:=yN ns0 none (some 63)
   rw[es]
   exact Rc _ _ ⟨p1,ss,U,aA h1 _,aa,by lia⟩
  rintro σ H1 ⟨p1,ss,rfl,g1,e1,ls⟩
  have hps:∀ q∈([5,7,10,10,10,10,10,10]:E9),0 < q:=by decide
  refine eX (fun σ H2=>∃ (dr:Addr) (d0 d1 d2 d3 d4 d5 d6 d7:Int),σ=[oR p1,oR dr,none,none,none,none,none,none,none,none,none,none,none,none,none,none,none,none]/\aH H1 H2/\H2 dr=some (.lst [.int d0,.int d1,.int d2,.int d3,.int d4,.int d5,.int d6,.int d7])/\(0<=d0/\d0 < 5)/\(0<=d1/\d1 < 7)/\∀ p∈[d2,d3,d4,d5,d6,d7],0<=p/\p<=9) ?_ ?_
  ·intro N Rc
   refine⟨_,U,p1,ss,0,U,sqL e1,smN 2,fun pA hA=>?_⟩
   generalize eF1:upd H1 pA _=F1
   obtain⟨gf1,ef1⟩:=aG eF1 hA
   refine⟨smN 1,fun pB hB=>?_⟩
   generalize eF2:upd F1 pB _=F2
   obtain⟨gf2,ef2⟩:=aG eF2 hB
   refine⟨pB,6,_,U,U,ef2,by decide,by decide,small (by show 1 * 6<=1000;decide),fun pC hC=>?_⟩
   generalize eF3:upd F2 pC _=F3
   obtain⟨gf3,ef3⟩:=aG eF3 hC
   refine⟨pA,pC,_,_,U,U,(gf2.trans gf3) _ _ ef1,ef3,small (by show 2+6<=1000;decide),fun pD hD=>?_⟩
   generalize eF4:upd F3 pD _=F4
   obtain⟨gf4,ef4⟩:=aG eF4 hD
   refine⟨_,pD,[5,7,10,10,10,10,10,10],U,sqL ef4,by decide,by decide,fun p2 hp2=>?_⟩
   have bd:∀ (i:Nat) (p:Int),([5,7,10,10,10,10,10,10]:E9)[i]? = some p->∃ v,(uT (mX (ss.getD 0 0)) [5,7,10,10,10,10,10,10])[i]? = some v/\0<=v/\v < p:=fun i p h=>bR hps h
   obtain⟨d0,k0,b0⟩:=bd 0 _ U
   obtain⟨d1,k1,b1⟩:=bd 1 _ U
   obtain⟨d2,k2,b2⟩:=bd 2 _ U
   obtain⟨d3,k3,b3⟩:=bd 3 _ U
   obtain⟨d4,k4,b4⟩:=bd 4 _ U
   obtain⟨d5,k5,b5⟩:=bd 5 _ U
   obtain⟨d6,k6,b6⟩:=bd 6 _ U
   obtain⟨d7,k7,b7⟩:=bd 7 _ U
   cases k0
   cases k1
   cases k2
   cases k3
   cases k4
   cases k5
   cases k6
   cases k7
   refine Rc _ _ ⟨p2,_,_,_,_,_,_,_,_,U,(gf1.trans (gf2.trans (gf3.trans gf4))).trans (aA hp2 _),aa,b0,b1,fun p hp=>?_⟩
   simp only[Wb,Xk,or_false] at hp
   rcases hp with rfl | rfl | rfl | rfl | rfl | rfl <;> lia
  rintro σ H2 ⟨dr,d0,d1,d2,d3,d4,d5,d6,d7,rfl,s2,e2,b0,b1,bs⟩
  obtain⟨m0,em0⟩:=WW b0.1
  obtain⟨m1,em1⟩:=WW b1.1
  subst em0 em1
  refine eX (fun σ H3=>σ=[oR p1,oR dr,some (vN (2+m0)),none,none,none,none,none,none,none,none,none,none,none,none,none,none,none]/\H3=H2) ?_ ?_
  ·intro N Rc
   refine⟨_,U,dr,_,_,_,U,U,sqL e2,gt0,_,_,U,U,Rc _ _ ⟨?_,U⟩⟩
   show[some (V.ref p1),some (V.ref dr),some (V.int (2+(m0:Int))),none,none,none,none,none,none,none,none,none,none,none,none,none,none,none]=_
   rw[show (2:Int)+(m0:Int)=((2+m0:Nat):Int) by lia]
   rfl
  rintro σ H3 ⟨rfl,rfl⟩
  have n6:2+m0<=6:=by lia
  generalize en:2+m0=n at n6
  have n2:2<=n:=by lia
  refine eX (fun σ H4=>∃ (b be ah dx nw:Addr) (xs zs:G1) (g:E9) (es:List Ent) (co:Nat),σ=[oR p1,oR dr,some (vN n),oR b,none,none,none,none,none,none,none,none,none,none,none,none,none,none]/\aH H3 H4/\H3 b=none/\H3 be=none/\Bn CS CB n H4 b be ah dx nw xs zs g [] es co/\xs.length<=60/\Fi n n g es co) ?_ ?_
  ·intro N Rc
   refine⟨_,U,_,U,_,U,dr,_,U,sqL e2,fun p3 hp3=>?_⟩
   have sn:=aA hp3 (.lst ([d2,d3,d4,d5,d6,d7].map V.int))
   refine⟨n,p3,[d2,d3,d4,d5,d6,d7],U,by lia,by lia,aa,n6,bs,fun b be ah dx nw xs zs g es co H4 s4 fb fbe hB lx fi=>Rc _ _ ⟨b,be,ah,dx,nw,xs,zs,g,es,co,U,sn.trans s4,sn.free fb,sn.free fbe,hB,lx,fi⟩⟩
  rintro σ H4 ⟨b,be,ah,dx,nw,xs,zs,g,es,co,rfl,s4,fb,fbe,hB,lx,fi⟩
  have hT3:=hT.same (g1.trans s2)
  have le6:es.length<=6:=UL fi.le n6
  have sb:∀ {Hx H':Hp},aH H3 Hx->But b be Hx H'->aH H3 H':=fun sx bt a o y=>bt a o (fun z=>by rw[z,fb] at y;cases y) (fun z=>by rw[z,fbe] at y;cases y) (sx _ _ y)
  refine eX (fun σ H5=>∃ ta:Addr,σ=[oR p1,oR dr,some (vN n),oR b,oR ta,none,none,none,none,none,none,none,none,none,none,none,none,none]/\aH H3 H5/\H3 ta=none/\Wz CS CB H5 b be dx ta n g es co 60) ?_ ?_
  ·intro N Rc
   intro ta hta
   have sn:=aA hta (.dK [])
   refine Rc _ _ ⟨ta,U,s4.trans sn,s4.free hta,⟨⟨ah,nw,xs,zs,hB.same sn,lx⟩,fi.fz,fi.eu,⟨[],[],aa,.nil,?_⟩,⟨fi.fz.lg,fi.okg⟩,fi.okp,by lia⟩⟩
   have:zeE es=[]:=by
    unfold zeE
    rw[List.filter_eq_nil_iff.mpr fun e he=>by have:=(fi.on e he).1;simp;lia]
    rfl
   rw[this]
  clear hB fi lx
  rintro σ H5 ⟨ta,rfl,s5,fta,W5⟩
  refine eX (fun σ H6=>∃ (u5 u6:GU) (es:List Ent) (co:Nat),σ=[oR p1,oR dr,some (vN n),oR b,oR ta,u5,u6,none,none,none,none,none,none,none,none,none,none,none]/\aH H3 H6/\Wz CS CB H6 b be dx ta n g es co 67) ?_ ?_
  ·intro N Rc
   refine⟨_,U,dr,_,_,_,U,U,sqL (s5 _ _ e2),gt1,_,_,U,U,_,U,by lia,by lia,iK (lo:=0) (n:=(1+(m1:Int)).toNat) (fun j σ Hx=>∃ (u5 u6:GU) (es:List Ent) (co:Nat),σ=[oR p1,oR dr,some (vN n),oR b,oR ta,u5,u6,none,none,none,none,none,none,none,none,none,none,none]/\aH H3 Hx/\es.length<=6+j/\Wz CS CB Hx b be dx ta n g es co (60+j)) ⟨_,_,es,co,U,s5,le6,W5⟩ ?_ ?_⟩
   ·rintro j σ Hx hj ⟨u5,u6,es,co,rfl,sx,lj,W⟩
    rw[show (0:Int)+(j:Int)=(j:Int) by lia]
    refine gN ?_
    refine eX (fun σ H7=>∃ (p:Addr) (pl:Pl),σ=[oR p1,oR dr,some (vN n),oR b,oR ta,some (.int (j:Int)),oR p,none,none,none,none,none,none,none,none,none,none,none]/\aH Hx H7/\j6 n H7 p pl/\∀ x∈pl,nn 0 x.2=true) ?_ ?_
    ·intro N6 R6
     refine⟨_,U,_,U,_,_,U,U,p1,ss,1+j,?_,sqL (sx _ _ (s2 _ _ e1)),_,0,U,by decide,_,U,_,n,0,3,9,U,by lia,by lia,by lia,by decide,by decide,by decide,by decide,fun p pl H7 s7 hp _ ow=>R6 _ _ ⟨p,pl,U,s7,hp,ow⟩⟩
     show[V.ref p1,V.int (1+(j:Int))]=_
     rw[show (1:Int)+(j:Int)=((1+j:Nat):Int) by lia]
    rintro σ H7 ⟨p,pl,rfl,s7,hp,ow⟩
    have W7:=W.same s7
    have sx7:=sx.trans s7
    clear W sx
    obtain⟨ah,nw,xs,zs,hB,lx⟩:=W7.bn
    obtain⟨kvs,tb,et,etb,_⟩:=W7.tb
    have hw:plW n [] es 0 pl = "":=by
     have e:miW n [] (0:Int) = "":=by
      have:=iG (n:=n) (i:=0) (go:=[]) (by lia)
      simpa using this
     unfold plW
     rw[e,iNe (by simp),iNe (fun⟨x,hx,z⟩=>by have:nn 0 x.2=false:=z;rw[ow x hx] at this;cases this),iNe (by lia)]
    refine⟨_,U,_,U,_,U,b,dx,_,U,hB.hb,U,_,U,b,be,ah,dx,nw,p,0,n,co,xs,zs,g,[],es,pl,U,hB,hp,by lia,fun z=>absurd hw z,fun _ H' nw' ah' bt fa hB'=>?_⟩
    have et':H' ta=some (.dK kvs):=bt _ _ (fun z=>by rw[z,hB.hb] at et;cases et) (fun z=>by rw[z,hB.hbe] at et;cases et) et
    have lk:kvs.length<=13:=by
     have:=W7.l13
     obtain⟨kvs0,tb0,h1,h2,h3⟩:=W7.tb
     rw[et] at h1
     cases h1
     rw[h2.length,h3.length_eq]
     unfold zeE
     rw[TJ]
     exact UL (Vj _ _) this
    refine⟨ta,_,U,Nx.k (k:=V3 (co:Int)) et' (T4 (show kvs.length < 1000 by lia) (by decide)),_,_,es++[(co,0,pl)],co+1,U,aL (sb sx7 bt) fta _,by rw[Ui];show es.length+1<=6+(j+1);lia,?_⟩
    exact W7.put (by lia) (by lia) et bt (fun a xs y=>bt _ _ (fun z=>by rw[z,hB.hb] at y;cases y) (fun z=>by rw[z,hB.hbe] at y;cases y) y) et' hp ow hB' (by rw[Ui];show xs.length+1<=_;lia)
   ·rintro σ Hx ⟨u5,u6,es,co,rfl,sx,lj,W⟩
    refine Rc _ _ ⟨u5,u6,es,co,U,sx,W.bn.elim fun ah ⟨nw,xs,zs,hB,lx⟩=>⟨⟨ah,nw,xs,zs,hB,by lia⟩,W.fz,W.eu,W.tb,W.okg,W.okp,W.l13⟩⟩
  clear W5 s5
  rintro σ H6 ⟨u5,u6,es,co,rfl,s6,W6⟩
  refine dU (fun σ H9=>∃ (u5 u6 u7 u8 u9 u10 u11 u12 u13 u14 u15 u16 u17:GU) (p6:Addr) (cs:G1) (g:E9) (es:List Ent) (co:Nat),σ=[oR p1,oR dr,some (vN n),oR b,oR ta,u5,u6,u7,u8,u9,u10,u11,u12,u13,u14,u15,u16,u17]/\Wy CS CB T H9 b be dx ta p6 cs n g es co 140) ?q7 ?t7
  case q7 =>
   rintro σ H9 ⟨u5,u6,u7,u8,u9,u10,u11,u12,u13,u14,u15,u16,u17,p6,cs,g,es,co,rfl,W9⟩
   obtain⟨⟨ah,nw,xs,zs,hB,lx⟩,w2,w3,⟨kvs,tb,et,etb,pm⟩,w5,w6,w7⟩:=W9.w
   have lk:=W9.len et
   refine⟨_,U,b,be,n,_,co,g,[],es,U,hB.Qz,hB.l40,fun a us H' s lu ea=>⟨a,us,U,.inl (sqL ea),_,U,ta,kvs,U,s _ _ et,_,_,U,U,?_⟩⟩
   show Q (V.bl (decide ((kvs.length:Int)<=(us.length:Int)))) _
   rw[dcT (by lia)]
   exact q _
  case t7 =>
  intro N Rc
  refine⟨_,U,_,U,p1,_,U,sqL (s6 _ _ (s2 _ _ e1)),fun p4 h4=>?_⟩
  obtain⟨ks,ek,lk⟩:=yN ss (some 9) none
  rw[ek]
  generalize eH7:upd H6 p4 _=H7
  obtain⟨g7,e7⟩:=aG eH7 h4
  refine⟨smN 2,fun p5 h5=>?_⟩
  generalize eH8:upd H7 p5 _=H8
  obtain⟨g8,e8⟩:=aG eH8 h5
  refine⟨p4,p5,_,_,U,U,g8 _ _ e7,e8,small (by rw[TJ];show ks.length+2<=1000;lia),fun p6 h6=>?_⟩
  have ec:ks.map V.int++[V.int 0,V.int 1]=(ks++[0,1]).map V.int:=by rw[Ub];rfl
  rw[ec]
  generalize eH9:upd H8 p6 _=H9
  obtain⟨g9,e9⟩:=aG eH9 h6
  have s79:=(g7.trans g8).trans g9
  have W9:Wy CS CB T H9 b be dx ta p6 ((ks++[0,1]).map V.int) n g es co 67:=by
   refine⟨W6.same s79,hT3.same (s6.trans s79),e9,fun z=>?_⟩
   obtain⟨ah,nw,xs,zs,hB,_⟩:=W6.bn
   rw[z,(g7.trans g8) _ _ hB.hbe] at h6
   cases h6
  clear W6
  refine⟨p6,U,⟨_,sqL e9⟩,j8 (K:=K) (a:=p6) (xs:=(ks++[0,1]).map V.int) (fun i σ Hx=>∃ (u5 u6 u7 u8 u9 u10 u11 u12 u13 u14 u15 u16 u17:GU) (g:E9) (es:List Ent) (co:Nat),σ=[oR p1,oR dr,some (vN n),oR b,oR ta,u5,u6,u7,u8,u9,u10,u11,u12,u13,u14,u15,u16,u17]/\Wy CS CB T Hx b be dx ta p6 ((ks++[0,1]).map V.int) n g es co (67+i))
   ⟨_,_,_,_,_,_,_,_,_,_,_,_,_,g,es,co,U,W9⟩ (fun i σ Hx _ h=>by obtain⟨_,_,_,_,_,_,_,_,_,_,_,_,_,_,_,_,_,Wx⟩:=h;exact sqL Wx.h6) ?_ (fun σ Hx h=>?_)⟩
  ·clear W9 Rc
   rintro i x σ Hx hx ⟨u5,u6,u7,u8,u9,u10,u11,u12,u13,u14,u15,u16,u17,g,es,co,rfl,Wx⟩
   obtain⟨cv,hcv,rfl⟩:=int_at hx
   have il:=(geS hcv).1
   rw[Ui] at il
   have il:i < ks.length+2:=il
   refine gN ?_
   refine dU (fun σ Hy=>∃ (pk:Addr) (d0 d1 d2:Int),σ=[oR p1,oR dr,some (vN n),oR b,oR ta,u5,u6,oI cv,oR pk,u9,u10,u11,u12,u13,u14,u15,u16,u17]/\aH Hx Hy/\Hy pk=some (.lst [.int d0,.int d1,.int d2])/\(0<=d0/\d0 < 3)/\(0<=d1/\d1 < 60)/\(0<=d2/\d2 < 10)/\pk≠be) ?qA ?tA
   case tA =>
    intro N Rc
    refine⟨_,U,smN 3,fun p7 h7=>?_⟩
    generalize eHa:upd Hx p7 _=Ha
    obtain⟨ga,ea⟩:=aG eHa h7
    refine⟨cv,p7,[3,60,10],U,sqL ea,by decide,by decide,fun p8 h8=>?_⟩
    have fr:Hx p8=none:=ga.free h8
    obtain⟨d0,k0,b0⟩:=bR (c:=mX cv) (i:=0) (ps:=[3,60,10]) (by decide) U
    obtain⟨d1,k1,b1⟩:=bR (c:=mX cv) (i:=1) (ps:=[3,60,10]) (by decide) U
    obtain⟨d2,k2,b2⟩:=bR (c:=mX cv) (i:=2) (ps:=[3,60,10]) (by decide) U
    cases k0
    cases k1
    cases k2
    obtain⟨ah,nw,xs,zs,hB,lx⟩:=Wx.w.bn
    exact Rc _ _ ⟨p8,_,_,_,U,ga.trans (aA h8 _),aa,b0,b1,b2,fun z=>by rw[z,hB.hbe] at fr;cases fr⟩
   case qA =>
   rintro σ Hy ⟨pk,d0,d1,d2,rfl,sA,epk,b0,b1,b2,npk⟩
   replace Wx:=Wx.same sA
   clear sA hx
   refine dU (fun σ Hz=>∃ li:Addr,σ=[oR p1,oR dr,some (vN n),oR b,oR ta,u5,u6,oI cv,oR pk,oR li,u10,u11,u12,u13,u14,u15,u16,u17]/\Hz=Hy/\Hy li=some (.tup (g.map V.int))) ?qB ?tB
   case tB =>
    intro N Rc
    obtain⟨ah,nw,xs,zs,hB,lx⟩:=Wx.w.bn
    exact⟨_,U,b,be,n,_,co,g,[],es,U,hB.Qz,fun li hli=>Rc _ _ ⟨li,U,U,hli⟩⟩
   case qB =>
   rintro σ Hz ⟨li,rfl,rfl,hli⟩
   refine dU (fun σ Hw=>σ=[oR p1,oR dr,some (vN n),oR b,oR ta,u5,u6,oI cv,oR pk,oR li,some (.int (mxD 0 (owL es 0 g))),u11,u12,u13,u14,u15,u16,u17]/\aH Hz Hw) ?qC ?tC
   case tC =>
    intro N Rc
    obtain⟨⟨ah,nw,xs,zs,hB,lx⟩,w2,w3,⟨kvs,tb,et,etb,pm⟩,w5,w6,w7⟩:=Wx.w
    have lk:=Wx.len et
    have nd:=Kh w3 pm
    refine⟨smN 1,fun q1 hq1=>?_⟩
    generalize eF1:upd Hz q1 _=F1
    obtain⟨gf1,ef1⟩:=aG eF1 hq1
    refine⟨_,U,ta,kvs,tb.map fun e=>(e.1:Int),U,gf1 _ _ et,etb.keys,by rw[TJ,← etb.length];lia,fun ms ps sr l hl=>?_⟩
    generalize eF2:upd F1 l _=F2
    obtain⟨gf2,ef2⟩:=aG eF2 hl
    have lm:ms.length<=13:=by rw[ps.length_eq,TJ,← etb.length];lia
    have s12:=gf1.trans gf2
    refine⟨l,U,⟨_,sqL ef2⟩,fun D hD=>eN (K:=K) (a:=l) (xs:=ms.map V.int) (fun j ws σ' H5=>(∃ u,σ'=[u,oR li,oR ta])/\ws=((ms.take j).map fun m=>owF g (plO tb m)).map V.int/\aH F2 H5/\H5 D=some (.lst ws))
     ⟨⟨_,U⟩,U,aA hD _,aa⟩ (fun j ws σ' H5 _ h=>⟨sqL (h.2.2.1 _ _ ef2),h.2.2.2⟩) ?_ ?_⟩
    ·rintro j ws x σ' H5 hx ⟨⟨u,rfl⟩,e5,s5,hD5⟩
     obtain⟨m,hm,rfl⟩:=int_at hx
     obtain⟨e,he,em⟩:=List.mem_map.mp (ps.mem_iff.mp (UJ hm))
     have em:(e.1:Int)=m:=em
     obtain⟨p,hv,hp⟩:=etb.val nd he
     have s25:=s12.trans s5
     have dg:Ij H5 ta (.int m) (some (.ref p)):=by
      rw[← em,← hv]
      exact Ij.k (k:=V3 (e.1:Int)) (s25 _ _ et)
     refine gT ?_
     refine⟨_,U,_,U,ta,_,U,dg,_,U,p,li,n,e.2,g,U,hp.mono s25,sqT (s25 _ _ hli),abk hB.lg.symm,fun H6 s6=>⟨s6 _ _ hD5,?_,⟨_,U⟩,?_,aL (s5.trans s6) hD _,aa⟩⟩
     ·rw[e5,TJ,TJ,Uo]
      exact aF (by lia)
     ·rw[e5,take_snoc (fun m=>owF g (plO tb m)) hm,Ub,← em,pK nd he]
      rfl
    ·rintro ws σ' H5 ⟨_,e5,s5,hD5⟩
     rw[TJ,Uh] at e5
     subst e5
     refine⟨q1,D,_,_,U,U,s5 _ _ (gf2 _ _ ef1),hD5,small ?_,fun p6' h6'=>?_⟩
     ·rw[TJ,TJ]
      show 1+ms.length<=1000
      lia
     generalize eF6:upd H5 p6' _=F6
     obtain⟨gf6,ef6⟩:=aG eF6 h6'
     refine⟨p6',0::ms.map fun m=>owF g (plO tb m),U,sqL ef6,by simp,?_⟩
     rw[MJ nd w6 pm ps]
     exact Rc _ _ ⟨U,s12.trans (s5.trans gf6)⟩
   case qC =>
   rintro σ Hw ⟨rfl,sC⟩
   replace Wx:=Wx.same sC
   have hg0:=at0 Wx.w.okg.1 (by lia)
   refine dU (fun σ Hv=>σ=[oR p1,oR dr,some (vN n),oR b,oR ta,u5,u6,oI cv,oR pk,oR li,some (.int (mxD 0 (owL es 0 g))),some (.int (max (g.getD 0 0) (mxD 0 (owL es 0 g)))),u12,u13,u14,u15,u16,u17]/\Hv=Hw) ?qD ?tD
   case tD =>
    intro N Rc
    refine⟨_,U,_,U,li,_,_,_,U,U,sqT (sC _ _ hli),hg0,_,_,U,?_⟩
    rw[show (if g.getD 0 0 > mxD 0 (owL es 0 g) then g.getD 0 0 else mxD 0 (owL es 0 g))=max (g.getD 0 0) (mxD 0 (owL es 0 g)) by lia]
    exact Rc _ _ ⟨U,U⟩
   case qD =>
   rintro σ Hv ⟨rfl,rfl⟩
   replace hli:=sC _ _ hli
   replace epk:=sC _ _ epk
   clear sC
   obtain⟨⟨ah,nw,xs,zs,hB,lx⟩,fz,eu,⟨kvs,tb,et,etb,pm⟩,okg,okp,l13⟩:=id Wx.w
   have lk:=Wx.len et
   have nd:=Kh eu pm
   have g0:0<=g.getD 0 0:=by
    have l0:0 < g.length:=by rw[okg.1];lia
    rw[TY,T8 l0]
    exact (okg.2 _ (Wr l0)).1
   refine dU (fun σ He=>σ=[oR p1,oR dr,some (vN n),oR b,oR ta,u5,u6,oI cv,oR pk,oR li,some (.int (mxD 0 (owL es 0 g))),some (.int (max (g.getD 0 0) (mxD 0 (owL es 0 g)))),u12,u13,u14,u15,u16,u17]/\aH Hv He) ?qE ?tE
   case tE =>
    intro N Rc
    refine⟨_,U,b,be,0,n,_,co,g,[],es,U,hB.Qz,hB.lg,by lia,by simp,hB.l40,fun F1 f1=>?_⟩
    refine⟨_,U,b,be,n,_,co,g,[],es,U,(hB.same f1).Qz,okg,hB.n12,hB.l40,fun a1 lo F2 f2 hlo e1=>⟨a1,_,_,_,U,U,sqT e1,at0 hlo.1.1 (by lia),?_⟩⟩
    rw[fz.fix (by lia) okp g0 hlo.1.1 hlo.2.1]
    refine⟨_,U,b,be,n,_,co,g,[],es,U,(hB.same (f1.trans f2)).Qz,okg,hB.n12,hB.l40,fun a2 hi F3 f3 hhi e2=>⟨a2,_,_,_,U,U,sqT e2,at0 hhi.1.1 (by lia),?_⟩⟩
    rw[fz.fix (by lia) okp g0 hhi.1.1 hhi.2.1]
    refine⟨smN 3,fun q1 hq1=>?_⟩
    generalize eF4:upd F3 q1 _=F4
    obtain⟨f4,e4⟩:=aG eF4 hq1
    refine⟨_,U,_,U,_,U,smN 3,fun q2 hq2=>?_⟩
    generalize eF5:upd F4 q2 _=F5
    obtain⟨f5,e5⟩:=aG eF5 hq2
    refine⟨_,_,_,U,.lst (f5 _ _ e4) (by show 3<=100000;decide) (.cons (.int _) (.cons (.int _) (.cons (.int _) .nil))),.lst e5 (by show 3<=100000;decide) (.cons (.int _) (.cons (.int _) (.cons (.int _) .nil))),by simp [Dm.dep,Bs],fun Hz sz=>⟨true,U,?_⟩⟩
    show if (!true)=true then _ else _
    exact bZ (Rc _ _ ⟨U,f1.trans (f2.trans (f3.trans (f4.trans (f5.trans sz))))⟩)
   case qE =>
   rintro σ He ⟨rfl,sE⟩
   refine dU (fun σ Hf=>∃ (na:Addr) (ms:E9),σ=[oR p1,oR dr,some (vN n),oR b,oR ta,u5,u6,oI cv,oR pk,oR li,some (.int (mxD 0 (owL es 0 g))),some (.int (max (g.getD 0 0) (mxD 0 (owL es 0 g)))),oR na,u13,u14,u15,u16,u17]/\aH Hv Hf/\Hf na=some (.lst (ms.map V.int))/\ms.Perm (tb.map fun e=>(e.1:Int))) ?qF ?tF
   case tF =>
    intro N Rc
    exact⟨_,U,ta,kvs,tb.map fun e=>(e.1:Int),U,sE _ _ et,etb.keys,by rw[TJ,← etb.length];lia,fun ms ps sr l hl=>Rc _ _ ⟨l,ms,U,sE.trans (aA hl _),aa,ps⟩⟩
   case qF =>
   clear sE
   rintro σ Hf ⟨na,ms,rfl,sF,hna,ps⟩
   replace Wx:=Wx.same sF
   replace hB:=hB.same sF
   replace et:=sF _ _ et
   replace etb:=etb.aN fun a xs z=>sF _ _ z
   replace hli:=sF _ _ hli
   replace epk:=sF _ _ epk
   clear sF
   have hg0:=at0 okg.1 (show 1<=n by lia)
   have ez:=Wx.w.ez
   refine Gx (fun c H1=>H1=Hf/\(c=true->g.getD 0 0 < mxD 0 (owL es 0 g))) (fun Q hQ=>?tG) ?hand ?elif
   case tG =>
    refine⟨_,U,pk,_,_,_,U,U,sqL epk,gt0,U,_,U,?_⟩
    by_cases z:d0=0
    ·rw[dcT (show V.int d0=V.int 0 by rw[z])]
     exact dq ⟨_,U,li,_,_,_,U,U,sqT hli,hg0,_,U,_,_,U,U,_,U,hQ _ _ ⟨U,fun c=>of_decide_eq_true c⟩⟩
    ·rw[dcF (show ¬ V.int d0=V.int 0 from fun y=>z (by injection y))]
     exact bZ (hQ _ _ ⟨U,fun c=>nomatch c⟩)
   case hand =>
    rintro H1 ⟨rfl,hm⟩
    replace hm:=hm U
    refine⟨_,U,b,dx,_,U,hB.hb,U,_,U,li,_,_,_,U,U,sqT hli,hg0,_,_,U,U,_,U,pk,_,_,_,U,U,sqL epk,gt2,_,U,_,U,li,_,_,_,U,U,sqT hli,hg0,_,_,U,U,_,_,U,U,by lia,_,_,U,U,?_⟩
    obtain⟨v,ev⟩:∃ v,g.getD 0 0+1+d2 % (mxD 0 (owL es 0 g) - g.getD 0 0)=v:=⟨_,U⟩
    have vb:g.getD 0 0 < v/\v<=mxD 0 (owL es 0 g):=by
     have a1:=Vg d2 (show mxD 0 (owL es 0 g) - g.getD 0 0≠0 by lia)
     have a2:=U6 d2 (show 0 < mxD 0 (owL es 0 g) - g.getD 0 0 by lia)
     lia
    have v9:v<=9:=Int.le_trans vb.2 (RN okp)
    refine⟨smN 2,fun t1 h1=>?_⟩
    generalize eF1:upd H1 t1 _=F1
    obtain⟨g1,f1⟩:=aG eF1 h1
    replace f1:F1 t1=some (.tup [.int 0,.int v]):=by rw[f1,← ev]
    refine⟨smN 1,fun t2 h2=>?_⟩
    generalize eF2:upd F1 t2 _=F2
    obtain⟨g2,f2⟩:=aG eF2 h2
    have s12:=g1.trans g2
    have hh:=ez.haW (by lia) vb.1 v9 vb.2
    refine⟨b,be,ah,dx,nw,t2,n,co,xs,zs,_,g,[],es,[(0,v)],U,hB.same s12,by lia,f2,.cons (g2 _ _ f1) .nil,by show 1<=100;decide,fun z=>absurd hh z,fun _ H' nw' ah' bt fa hB'=>⟨_,_,_,_,_,_,_,_,_,_,_,_,_,g.set 0 v,es,co,U,?_⟩⟩
    exact (Wx.same s12).hand (hB.same s12).hb (hB.same s12).hbe bt ⟨ah',nw',_,_,hB',by rw[Ui];show xs.length+1<=_;lia⟩ (ez.set vb.1 v9)
   case elif =>
   rintro Hf2 ⟨e2,_⟩
   subst e2
   refine Gx (fun c H1=>aH Hf2 H1/\(c=true->ms≠[])) (fun Q hQ=>?tG2) ?some ?none
   case tG2 =>
    refine⟨_,U,smN 0,fun e0 he0=>⟨na,e0,_,U,U,sqL (aA he0 _ _ _ hna),sqL aa,_,U,hQ _ _ ⟨aA he0 _,fun c z=>?_⟩⟩⟩
    rw[z] at c
    cases c
   case none =>
    rintro H1 ⟨s1,_⟩
    exact nN ⟨_,_,_,_,_,_,_,_,_,_,_,_,_,g,es,co,U,(Wx.same s1).up⟩
   case some =>
   rintro Hg ⟨sg,nm⟩
   replace nm:=nm U
   have l0:0 < ms.length:=List.length_pos_iff.mpr nm
   have lm:ms.length<=13:=by rw[ps.length_eq,TJ,← etb.length];lia
   refine eX (fun σ H2=>∃ (num:Nat) (pl0:Pl),σ=[oR p1,oR dr,some (vN n),oR b,oR ta,u5,u6,oI cv,oR pk,oR li,some (.int (mxD 0 (owL es 0 g))),some (.int (max (g.getD 0 0) (mxD 0 (owL es 0 g)))),oR na,some (vN num),u14,u15,u16,u17]/\H2=Hg/\(num,pl0)∈tb) ?_ ?_
   ·intro N Rc
    have b1:0<=d1 % (ms.length:Int)/\d1 % (ms.length:Int) < ms.length:=⟨Vg _ (by lia),U6 _ (by lia)⟩
    have ik:(d1 % (ms.length:Int)).toNat < ms.length:=by lia
    have hat:=lY ik
    rw[Int.toNat_of_nonneg b1.1] at hat
    obtain⟨e,he,em⟩:=List.mem_map.mp (ps.mem_iff.mp (Wr ik))
    rw[← em] at hat
    exact⟨_,U,_,U,pk,_,_,_,U,U,sqL (sg _ _ epk),gt1,_,U,na,_,U,.inl (sqL (sg _ _ hna)),_,_,U,U,by rw[TJ];lia,na,_,_,.int (e.1:Int),U,U,sqL (sg _ _ hna),by rw[TJ];exact hat,Rc _ _ ⟨e.1,e.2,U,U,he⟩⟩
   rintro σ H2 ⟨num,pl0,rfl,rfl,hnum⟩
   have he0:=ux (pm.mem_iff.mp hnum)
   refine eX (fun σ H3=>∃ (p:Addr) (pl:Pl),σ=[oR p1,oR dr,some (vN n),oR b,oR ta,u5,u6,oI cv,oR pk,oR li,some (.int (mxD 0 (owL es 0 g))),some (.int (max (g.getD 0 0) (mxD 0 (owL es 0 g)))),oR na,some (vN num),oR p,u15,u16,u17]/\aH H2 H3/\j6 n H3 p pl/\∀ x∈pl,nn 0 x.2=true) ?_ ?_
   ·intro N Rc
    exact⟨_,U,_,1,U,by decide,_,U,_,n,0,3,9,U,by lia,by lia,by lia,by decide,by decide,by decide,by decide,fun p pl H7 s7 hp _ ow=>Rc _ _ ⟨p,pl,U,s7,hp,ow⟩⟩
   rintro σ H3 ⟨p,pl,rfl,s3,hp,ow⟩
   replace s3:=sg.trans s3
   replace Wx:=Wx.same s3
   replace hB:=hB.same s3
   replace et:=s3 _ _ et
   replace etb:=etb.aN fun a xs z=>s3 _ _ z
   replace hli:=s3 _ _ hli
   replace epk:=s3 _ _ epk
   replace hna:=s3 _ _ hna
   clear s3 sg
   refine eX (fun σ H4=>∃ (lf:Addr) (as:E6),σ=[oR p1,oR dr,some (vN n),oR b,oR ta,u5,u6,oI cv,oR pk,oR li,some (.int (mxD 0 (owL es 0 g))),some (.int (max (g.getD 0 0) (mxD 0 (owL es 0 g)))),oR na,some (vN num),oR p,oR lf,u16,u17]/\aH H3 H4/\H3 lf=none/\H4 lf=some (.lst (as.map V.ref))/\dj n H4 as ((ms.filter fun k=>decide (k≠(num:Int))).map (plO tb))) ?_ ?_
   ·intro N Rc
    refine⟨_,U,na,U,⟨_,sqL hna⟩,fun D hD=>eN (K:=K) (a:=na) (xs:=ms.map V.int) (fun j ws σ' H5=>(∃ u,σ'=[u,oR ta,some (vN num)])/\aH H3 H5/\H5 D=some (.lst ws)/\∃ as:E6,ws=as.map V.ref/\dj n H5 as (((ms.take j).filter fun k=>decide (k≠(num:Int))).map (plO tb)))
     ⟨⟨_,U⟩,aA hD _,aa,[],U,.nil⟩ (fun j ws σ' H5 _ h=>⟨sqL (h.2.1 _ _ hna),h.2.2.1⟩) ?_ ?_⟩
    ·rintro j ws x σ' H5 hx ⟨⟨u,rfl⟩,s5,eD,as,rfl,ez5⟩
     obtain⟨m,hm,rfl⟩:=int_at hx
     obtain⟨e,he,em⟩:=List.mem_map.mp (ps.mem_iff.mp (UJ hm))
     have em:(e.1:Int)=m:=em
     obtain⟨q,hv,hq⟩:=etb.val nd he
     have tk1:ms.take (j+1)=ms.take j++[m]:=by rw[UT,hm];rfl
     refine⟨_,U,_,U,U,_,U,?_⟩
     by_cases z:m=(num:Int)
     ·rw[show decide (V.int m=vN num)=true from dcT (by rw[z];rfl)]
      show if (!true)=true then _ else _
      refine bZ ⟨⟨_,U⟩,s5,eD,as,U,?_⟩
      rw[tk1,WQ,VJ (by simp [z]),List.filter_nil,WY]
      exact ez5
     ·rw[show decide (V.int m=vN num)=false from dcF fun y=>z (by injection y)]
      show if (!false)=true then _ else _
      have dg:Ij H5 ta (.int m) (some (.ref q)):=by
       rw[← em,← hv]
       exact Ij.k (k:=V3 (e.1:Int)) (s5 _ _ et)
      have tk:=cz (zs':=as.map V.ref++[.ref q]) eD
      have la:=ez5.length
      rw[TJ] at la
      have lf:=Vj (fun k=>decide (k≠(num:Int))) (ms.take j)
      rw[Uo] at lf
      refine dq ⟨_,U,_,U,ta,_,U,dg,eD,aF (by rw[TJ];lia),⟨_,U⟩,aL s5 hD _,aa,as++[q],by rw[Ub];rfl,?_⟩
      rw[tk1,WQ,Vm (by simp [z]),List.filter_nil,Ub,← em]
      show dj n _ _ (_++[plO tb (e.1:Int)])
      rw[pK nd he]
      exact dj.snoc ((hq.mono s5).aN tk) (ez5.aN tk)
    ·rintro ws σ' H5 ⟨_,s5,eD,as,rfl,ez5⟩
     rw[TJ,Uh] at ez5
     exact Rc _ _ ⟨D,as,U,s5,hD,eD,ez5⟩
   rintro σ H4 ⟨lf,as,rfl,s4,flf,hlf,hls⟩
   have la:=hls.length
   rw[TJ] at la
   have lfl:=Vj (fun k=>decide (k≠(num:Int))) ms
   have lpm:=Ml nd pm ps (num:Int)
   refine eX (fun σ H5=>∃ (as:E6) (pls:List Pl),σ=[oR p1,oR dr,some (vN n),oR b,oR ta,u5,u6,oI cv,oR pk,oR li,some (.int (mxD 0 (owL es 0 g))),some (.int (max (g.getD 0 0) (mxD 0 (owL es 0 g)))),oR na,some (vN num),oR p,oR lf,u16,u17]/\aH H3 H5/\H5 lf=some (.lst (as.map V.ref))/\dj n H5 as pls/\as.length<=14/\pls.Perm ((zeE (if d0=1 then chE es num pl else wiE es num)).map (·.2))) ?_ ?_
   ·intro N Rc
    refine⟨_,U,pk,_,_,_,U,U,sqL (s4 _ _ epk),gt0,U,_,U,?_⟩
    by_cases z:d0=1
    ·rw[dcT (show V.int d0=V.int 1 by rw[z])]
     have tk:=cz (zs':=as.map V.ref++[.ref p]) hlf
     refine dq ⟨_,U,.inl ⟨U,_,sqL hlf⟩,_,U,lf,_,_,U,U,hlf,aF (by rw[TJ];lia),Rc _ _ ⟨as++[p],_,U,aL s4 flf _,by rw[aa,Ub];rfl,dj.snoc ((hp.mono s4).aN tk) (hls.aN tk),by rw[Ui];show as.length+1<=14;lia,?_⟩⟩
     rw[iPo z]
     refine (lpm.append_right [pl]).trans ?_
     rw[Gq]
     have:=(mF (pl:=pl) eu.nd he0 U U).map (·.2)
     rw[Ub] at this
     exact this.symm
    ·rw[dcF (show ¬ V.int d0=V.int 1 from fun y=>z (by injection y))]
     refine bZ (Rc _ _ ⟨as,_,U,s4,hlf,hls,by lia,?_⟩)
     rw[iNe z]
     exact lpm
   clear hls hlf s4 la lfl
   rintro σ H5 ⟨as,pls,rfl,s5,hlf,hls,l14,pmL⟩
   generalize hes1:(if d0=1 then chE es num pl else wiE es num)=es1 at pmL
   have ez1:Ez n g es1 co:=by
    rw[← hes1]
    split
    ·exact ez.ch he0 hp.1 ow
    ·exact ez.wi _
   refine eX (fun σ H6=>σ=[oR p1,oR dr,some (vN n),oR b,oR ta,u5,u6,oI cv,oR pk,oR li,some (.int (mxD 0 (owL es 0 g))),some (.int (max (g.getD 0 0) (mxD 0 (owL es 0 g)))),oR na,some (vN num),oR p,oR lf,some (.bl (decide (g.getD 0 0<=mxD 0 (owL es1 0 g)))),u17]/\aH H5 H6) ?_ ?_
   ·intro N Rc
    refine⟨smN 1,fun q1 hq1=>?_⟩
    generalize eF1:upd H5 q1 _=F1
    obtain⟨gf1,ef1⟩:=aG eF1 hq1
    have lp:=hls.length
    refine⟨_,U,lf,U,⟨_,sqL (gf1 _ _ hlf)⟩,fun D hD=>eN (K:=K) (a:=lf) (xs:=as.map V.ref) (fun j ws σ' H6=>(∃ u,σ'=[u,oR li])/\ws=((pls.take j).map (owF g)).map V.int/\aH F1 H6/\H6 D=some (.lst ws)) ⟨⟨_,U⟩,U,aA hD _,aa⟩ (fun j ws σ' H6 _ h=>⟨sqL (h.2.2.1 _ _ (gf1 _ _ hlf)),h.2.2.2⟩) ?_ ?_⟩
    ·rintro j ws y σ' H6 hx ⟨⟨u,rfl⟩,e6,s6,hD6⟩
     rw[Ux] at hx
     obtain⟨q,hq,rfl⟩:=Option.map_eq_some_iff.mp hx
     obtain⟨pq,hpq,hr⟩:=hls.get hq
     have jl:=(geS hpq).1
     refine gT ?_
     refine⟨_,U,_,U,q,li,n,pq,g,U,(hr.mono gf1).mono s6,sqT (s6 _ _ (gf1 _ _ (s5 _ _ hli))),abk hB.lg.symm,fun H7 s7=>⟨s7 _ _ hD6,?_,⟨_,U⟩,?_,aL (s6.trans s7) hD _,aa⟩⟩
     ·rw[e6,TJ,TJ,Uo]
      exact aF (by lia)
     ·rw[e6,take_snoc (owF g) hpq,Ub]
      rfl
    ·rintro ws σ' H6 ⟨_,e6,s6,hD6⟩
     rw[TJ,lp,Uh] at e6
     subst e6
     refine⟨q1,D,_,_,U,U,s6 _ _ ef1,hD6,small ?_,fun q3 h3=>?_⟩
     ·rw[TJ,TJ]
      show 1+pls.length<=1000
      lia
     generalize eF3:upd H6 q3 _=F3
     obtain⟨gf3,ef3⟩:=aG eF3 h3
     refine⟨q3,0::pls.map (owF g),U,sqL ef3,by simp,?_⟩
     rw[Fg ez1.okp pmL]
     have s53:=gf1.trans (s6.trans gf3)
     exact⟨_,U,li,_,_,_,U,U,sqT (s53 _ _ (s5 _ _ hli)),hg0,_,_,U,U,Rc _ _ ⟨U,s53⟩⟩
   rintro σ H6 ⟨rfl,s6⟩
   have s36:=s5.trans s6
   replace hB:=hB.same s36
   have V6:Wv CS CB T H6 b be dx ta p6 pk p ((ks++[0,1]).map V.int) [.int d0,.int d1,.int d2] n g es co (67+i) kvs tb pl:=⟨⟨ah,nw,xs,zs,hB,by lia⟩,(Wx.same s36).tb,(Wx.same s36).h6,s36 _ _ et,etb.aN fun a xs z=>s36 _ _ z,s36 _ _ epk,hp.mono s36⟩
   have n6:=Wx.n6
   have hlt:∀ e∈es,e.1 < co/\e.2.1 < n:=fun e he=>⟨(eu.lt e he).1,(eu.lt e he).2.1⟩
   clear hls hlf s5 s6 s36 et etb hli epk hna Wx hp
   refine eX (fun σ H7=>∃ fa:Addr,σ=[oR p1,oR dr,some (vN n),oR b,oR ta,u5,u6,oI cv,oR pk,oR li,some (.int (mxD 0 (owL es 0 g))),some (.int (max (g.getD 0 0) (mxD 0 (owL es 0 g)))),oR na,some (vN num),oR p,oR lf,some (.bl (decide (g.getD 0 0<=mxD 0 (owL es1 0 g)))),oR fa]/\H7 fa=some (.tup (if g.getD 0 0<=mxD 0 (owL es1 0 g) then [.str "told",.non] else [.str "bound"]))/\Wv CS CB T H7 b be dx ta p6 pk p ((ks++[0,1]).map V.int) [.int d0,.int d1,.int d2] n g (if g.getD 0 0<=mxD 0 (owL es1 0 g) then es1 else es) co (67+(i+1)) kvs tb pl) ?_ ?_
   ·intro N Rc
    refine⟨_,U,pk,_,_,_,U,U,sqL V6.hpk,gt0,U,_,U,?_⟩
    have told:∀ {a:Addr} {H2 H' Hq:Hp} {nw' ah':Addr},gf H6 Hq->TabOk Hq T G5->But b be Hq H2->Bn CS CB n H2 b be ah' dx nw' (xs++[.ref nw]) [] g [] es1 co->aH H2 H'->g.getD 0 0<=mxD 0 (owL es1 0 g)->H' a=some (.tup [.str "told",.non])->N [some (.ref p1),some (.ref dr),some (vN n),some (.ref b),some (.ref ta),u5,u6,some (.int cv),some (.ref pk),some (.ref li),some (.int (mxD 0 (owL es 0 g))),some (.int (max (g.getD 0 0) (mxD 0 (owL es 0 g)))),some (.ref na),some (vN num),some (.ref p),some (.ref lf),some (.bl (decide (g.getD 0 0<=mxD 0 (owL es1 0 g)))),some (.ref a)] H':=fun {a H2 H' Hq nw' ah'} sq tq bt hB2 s' hG ea =>
     Rc _ _ ⟨a,U,by rw[iPo hG];exact ea,by
      rw[iPo hG]
      exact ((V6.sT sq tq).but (hB.sT sq).hb (hB.sT sq).hbe n6 npk bt ⟨ah',nw',_,_,hB2,by rw[Ui];show xs.length+1<=_;lia⟩).same s'⟩
    have thr:∀ {a:Addr} {H':Hp},gf H6 H'->TabOk H' T G5->¬ g.getD 0 0<=mxD 0 (owL es1 0 g)->H' a=some (.tup [.str "bound"])->N [some (.ref p1),some (.ref dr),some (vN n),some (.ref b),some (.ref ta),u5,u6,some (.int cv),some (.ref pk),some (.ref li),some (.int (mxD 0 (owL es 0 g))),some (.int (max (g.getD 0 0) (mxD 0 (owL es 0 g)))),some (.ref na),some (vN num),some (.ref p),some (.ref lf),some (.bl (decide (g.getD 0 0<=mxD 0 (owL es1 0 g)))),some (.ref a)] H':=fun {a H'} s' t' hG ea =>
     Rc _ _ ⟨a,U,by rw[iNe hG];exact ea,by
      rw[iNe hG]
      exact ((V6.sT s' t').up)⟩
    by_cases z:d0=1
    ·rw[dcT (show V.int d0=V.int 1 by rw[z])]
     have hw:=ez.chW he0 ow
     rw[show chE es num pl=es1 by rw[← hes1,iPo z]] at hw
     have hE:chE es (num:Int) pl=es1:=by rw[← hes1,iPo z]
     refine dq ?_
     by_cases hG:g.getD 0 0<=mxD 0 (owL es1 0 g)
     ·unfold bdW at hw
      rw[iNe (by lia)] at hw
      refine zp (P:=fun v H2=>v = .non/\∃ (Hq:Hp) (nw' ah':Addr),gf H6 Hq/\TabOk Hq T G5/\But b be Hq H2/\Bn CS CB n H2 b be ah' dx nw' (xs++[.ref nw]) [] g [] es1 co) V6.t (fun H1 s1 t1 Q2 E2 th=>?_) (fun a v H2 H' ⟨ev,Hq,nw',ah',sq,tq,bt,hB2⟩ s' ea=>told sq tq bt hB2 s' hG (by rw[ev] at ea;exact ea))
      exact⟨_,U,b,dx,_,U,(hB.sT s1).hb,U,_,U,_,U,b,be,ah,dx,nw,p,(num:Int),n,co,xs,zs,g,[],es,pl,U,hB.sT s1,hlt,eu.nd,(V6.sT s1 t1).hp,by lia,fun y=>absurd hw y,fun _ H2 nw' ah' bt _ hB'=>th _ _ ⟨U,H1,nw',ah',s1,t1,bt,by rw[← hE];exact hB'⟩⟩
     ·unfold bdW at hw
      rw[iPo (by lia)] at hw
      refine rO (C:=x.of "bound") (w:="bound") V6.t (RX "bound") (fun H1 s1 t1 Q2 E2 th=>?_) (fun a H' s' t' ea=>thr s' t' hG ea)
      exact⟨_,U,b,dx,_,U,(hB.sT s1).hb,U,_,U,_,U,b,be,ah,dx,nw,p,(num:Int),n,co,xs,zs,g,[],es,pl,U,hB.sT s1,hlt,eu.nd,(V6.sT s1 t1).hp,by lia,fun _=>by rw[hw];exact th,fun y=>by rw[hw] at y;exact absurd y (by decide)⟩
    ·rw[dcF (show ¬ V.int d0=V.int 1 from fun y=>z (by injection y))]
     have hw:=ez.wiW he0
     have hE:wiE es (num:Int)=es1:=by rw[← hes1,iNe z]
     rw[hE] at hw
     refine bZ ?_
     by_cases hG:g.getD 0 0<=mxD 0 (owL es1 0 g)
     ·unfold bdW at hw
      rw[iNe (by lia)] at hw
      refine zp (P:=fun v H2=>v = .non/\∃ (Hq:Hp) (nw' ah':Addr),gf H6 Hq/\TabOk Hq T G5/\But b be Hq H2/\Bn CS CB n H2 b be ah' dx nw' (xs++[.ref nw]) [] g [] es1 co) V6.t (fun H1 s1 t1 Q2 E2 th=>?_) (fun a v H2 H' ⟨ev,Hq,nw',ah',sq,tq,bt,hB2⟩ s' ea=>told sq tq bt hB2 s' hG (by rw[ev] at ea;exact ea))
      exact⟨_,U,b,dx,_,U,(hB.sT s1).hb,U,_,U,b,be,ah,dx,nw,(num:Int),n,co,xs,zs,g,[],es,U,hB.sT s1,hlt,by lia,fun y=>absurd hw y,fun _ H2 nw' ah' bt _ hB'=>th _ _ ⟨U,H1,nw',ah',s1,t1,bt,by rw[← hE];exact hB'⟩⟩
     ·unfold bdW at hw
      rw[iPo (by lia)] at hw
      refine rO (C:=x.of "bound") (w:="bound") V6.t (RX "bound") (fun H1 s1 t1 Q2 E2 th=>?_) (fun a H' s' t' ea=>thr s' t' hG ea)
      exact⟨_,U,b,dx,_,U,(hB.sT s1).hb,U,_,U,b,be,ah,dx,nw,(num:Int),n,co,xs,zs,g,[],es,U,hB.sT s1,hlt,by lia,fun _=>by rw[hw];exact th,fun y=>by rw[hw] at y;exact absurd y (by decide)⟩
   clear V6 hB
   rintro σ H7 ⟨fa,rfl,hfa,V7⟩
   refine eX (fun σ H8=>σ=[oR p1,oR dr,some (vN n),oR b,oR ta,u5,u6,oI cv,oR pk,oR li,some (.int (mxD 0 (owL es 0 g))),some (.int (max (g.getD 0 0) (mxD 0 (owL es 0 g)))),oR na,some (vN num),oR p,oR lf,some (.bl (decide (g.getD 0 0<=mxD 0 (owL es1 0 g)))),oR fa]/\Wv CS CB T H8 b be dx ta p6 pk p ((ks++[0,1]).map V.int) [.int d0,.int d1,.int d2] n g (if g.getD 0 0<=mxD 0 (owL es1 0 g) then es1 else es) co (67+(i+1)) kvs tb pl) ?_ ?_
   ·intro N Rc
    refine⟨_,U,_,U,_,U,?_⟩
    by_cases hG:g.getD 0 0<=mxD 0 (owL es1 0 g)
    ·rw[iPo hG] at hfa
     rw[dcT hG]
     refine dq ⟨smN 2,fun q hq=>?_⟩
     have sn:=aA hq (.tup [.str "told",.non])
     refine⟨_,_,_,U,zY (sn _ _ hfa) .non,zY aa .non,by simp [Dm.dep,Bs],fun Hz sz=>⟨true,U,?_⟩⟩
     show if (!true)=true then _ else _
     exact bZ (Rc _ _ ⟨by rw[dcT hG],V7.same (sn.trans sz)⟩)
    ·rw[iNe hG] at hfa
     rw[dcF hG]
     refine bZ ⟨smN 1,fun q hq=>?_⟩
     have sn:=aA hq (.tup [.str "bound"])
     refine⟨_,_,_,U,zO (sn _ _ hfa),zO aa,Hs (by decide),fun Hz sz=>⟨true,U,?_⟩⟩
     show if (!true)=true then _ else _
     exact bZ (Rc _ _ ⟨by rw[dcF hG],V7.same (sn.trans sz)⟩)
   clear V7 hfa
   rintro σ H8 ⟨rfl,V8⟩
   by_cases hG:g.getD 0 0<=mxD 0 (owL es1 0 g)
   ·rw[iPo hG] at V8
    rw[dcT hG]
    refine eX (fun σ H9=>σ=[oR p1,oR dr,some (vN n),oR b,oR ta,u5,u6,oI cv,oR pk,oR li,some (.int (mxD 0 (owL es 0 g))),some (.int (max (g.getD 0 0) (mxD 0 (owL es 0 g)))),oR na,some (vN num),oR p,oR lf,some (.bl true),oR fa]/\Wv CS CB T H9 b be dx ta p6 pk p ((ks++[0,1]).map V.int) [.int d0,.int d1,.int d2] n g es1 co (67+(i+1)) (nY kvs (V3 (num:Int))) (dpE tb (num:Int)) pl) ?_ ?_
    ·intro N Rc
     obtain⟨q,hv,_⟩:=V8.htb.val nd hnum
     refine⟨_,U,_,U,?_⟩
     exact dq ⟨_,U,ta,U,.inl ⟨_,.inl V8.hta⟩,_,U,kvs,V3 (num:Int),.ref q,V8.hta,U,hv,Rc _ _ ⟨U,V8.put V8.htb.drop⟩⟩
    clear V8
    rintro σ H9 ⟨rfl,V9⟩
    refine⟨_,U,_,U,dq ⟨_,U,pk,_,_,_,U,U,sqL V9.hpk,gt0,U,_,U,?_⟩⟩
    have pmd:=pm.filter fun e:Nat × Pl=>decide ((e.1:Int)≠(num:Int))
    by_cases z:d0=1
    ·rw[dcT (show V.int d0=V.int 1 by rw[z])]
     have pk':putK (nY kvs (V3 (num:Int))) (V3 (num:Int)) (.ref p)=nY kvs (V3 (num:Int))++[(V3 (num:Int),.ref p)]:=zj _ (V9.htb.none fun e he=>of_decide_eq_true (List.mem_filter.mp he).2)
     have hE:chE es (num:Int) pl=es1:=by rw[← hes1,iPo z]
     have ld:=Vj (fun e:Key × V=>decide (e.1≠V3 (num:Int))) kvs
     refine dq ⟨_,U,_,U,_,U,ta,_,U,Nx.k (k:=V3 (num:Int)) V9.hta (T4 (show (nY kvs (V3 (num:Int))).length < 1000 from ?_) (by decide)),_,_,_,_,_,_,_,_,_,_,_,_,_,g,es1,co,U,?_⟩
     ·exact X4 ld (by lia)
     rw[pk']
     refine (V9.put (V9.htb.snoc V9.hp)).end_ ez1 ?_ n6
     refine (pmd.append_right [(num,pl)]).trans ?_
     rw[← hE]
     exact (mF (pl:=pl) eu.nd he0 U U).symm
    ·rw[dcF (show ¬ V.int d0=V.int 1 from fun y=>z (by injection y))]
     have hE:wiE es (num:Int)=es1:=by rw[← hes1,iNe z]
     refine bZ (nN ⟨_,_,_,_,_,_,_,_,_,_,_,_,_,g,es1,co,U,V9.end_ ez1 ?_ n6⟩)
     rw[← hE,Gq]
     exact pmd
   ·rw[iNe hG] at V8
    rw[dcF hG]
    refine eX (fun σ H9=>σ=[oR p1,oR dr,some (vN n),oR b,oR ta,u5,u6,oI cv,oR pk,oR li,some (.int (mxD 0 (owL es 0 g))),some (.int (max (g.getD 0 0) (mxD 0 (owL es 0 g)))),oR na,some (vN num),oR p,oR lf,some (.bl false),oR fa]/\H9=H8) ?_ ?_
    ·intro N Rc
     exact⟨_,U,_,U,bZ (Rc _ _ ⟨U,U⟩)⟩
    rintro σ H9 ⟨rfl,rfl⟩
    exact⟨_,U,_,U,bZ (nN ⟨_,_,_,_,_,_,_,_,_,_,_,_,_,g,es,co,U,V8.end_ ez pm n6⟩)⟩
  ·obtain⟨u5,u6,u7,u8,u9,u10,u11,u12,u13,u14,u15,u16,u17,g,es,co,rfl,Wx⟩:=h
   obtain⟨⟨ah,nw,xs,zs,hB,lx⟩,w2,w3,w4,w5,w6,w7⟩:=Wx.w
   rw[TJ,Ui] at lx
   have lx:xs.length<=67+(ks.length+2):=lx
   exact Rc _ _ ⟨u5,u6,u7,u8,u9,u10,u11,u12,u13,u14,u15,u16,u17,p6,_,g,es,co,U,⟨⟨ah,nw,xs,zs,hB,by lia⟩,w2,w3,w4,w5,w6,w7⟩,Wx.tb,Wx.h6,Wx.n6⟩
theorem all_mk {l:W.OpenLaw} {w:U3} {K:Uw} {h:Va} {mg:Ut->EW} {fa fq1 fq2 fq3 fq4 fq5 fq6 fq7 fq8 fq9 fq10 fq11 fq12 fq13 fq14 fq15 fq16 fq17 fq18 fq19 fq20 fq21 fq22 fq23 fq24 fq25 fq26 fq27 fq28 fq29 fq30 fq31 fq32 fq33 fq34 fq35 fq36 fq37 fq38 fq39 fq40 fq41 fq42 fq43 fq44 fq45 fq46 fq47 fq48:Addr} (X:K.In h) (G:h.Ns Us mg) (hfa:mg "law" = some (.ref fa)) {tk_MOST_FOLK tk_MOST_STEP tk_MOST_SUM tk_MOST_DEPTH tk_FEWEST_PARTS tk_MOST_PARTS tk_MOST_RUNGS tk_MOST_PLEDGES:Tok} {Cw10 Cw11:Addr} {U2 UY UV UU UZ US U1 UX:Addr} {Cw0 fiw0 Cw1 fiw1 Cw2 fiw2 Cw3 fiw3 Cw4 fiw4 Cw5 fiw5 Cw8 fiw8 Cw7 fiw7 Cw6 fiw6:Addr} {bmw0 bmw1 bmw2 bmw3 bmw4 bmw5 bmw8 bmw7 bmw6:E4} {mc:Value} {cLaw:Addr}
  (qw0:cY K "BoonError" "BoonError.__init__" Cw0 fiw0 (inClass jo 0) bmw0)
  (xga:W.specialIn K (.ref Cw0) "__getattribute__" = some (some (.builtin "type.__getattribute__")))
  (xty:W.typeIn K (.ref Cw0)=some mc)
  (xrd:W.readsIn K Cw0 mc=true)
  (xfd:W.findCls K (.ref Cw0) mc "__init__" = some (.val (.ref fiw0)))
  (qw1:cY K "BadPledge" "BadPledge.__init__" Cw1 fiw1 (inClass jC 0) bmw1)
  (mrw1:(Uk Cw1::bmw1).contains (.ref Cw0)=true)
  (qw2:cY K "NoFolk" "NoFolk.__init__" Cw2 fiw2 (inClass um 0) bmw2)
  (mrw2:(Uk Cw2::bmw2).contains (.ref Cw0)=true)
  (qw3:cY K "Gone" "Gone.__init__" Cw3 fiw3 (inClass BX 0) bmw3)
  (mrw3:(Uk Cw3::bmw3).contains (.ref Cw0)=true)
  (qw4:cY K "NoPledge" "NoPledge.__init__" Cw4 fiw4 (inClass lK 0) bmw4)
  (mrw4:(Uk Cw4::bmw4).contains (.ref Cw0)=true)
  (qw5:cY K "Bound" "Bound.__init__" Cw5 fiw5 (inClass wL 0) bmw5)
  (mrw5:(Uk Cw5::bmw5).contains (.ref Cw0)=true)
  (qw8:cY K "Full" "Full.__init__" Cw8 fiw8 (inClass Dy 0) bmw8)
  (mrw8:(Uk Cw8::bmw8).contains (.ref Cw0)=true)
  (qw7:cY K "BadRise" "BadRise.__init__" Cw7 fiw7 (inClass pF 0) bmw7)
  (mrw7:(Uk Cw7::bmw7).contains (.ref Cw0)=true)
  (qw6:cY K "NotDue" "NotDue.__init__" Cw6 fiw6 (inClass tL 0) bmw6)
  (mrw6:(Uk Cw6::bmw6).contains (.ref Cw0)=true)
  (qw10:ie K "Stand" Cw10)
  (VT:Yo K (.ref Cw10) "green" = some none)
  (VS:Yo K (.ref Cw10) "gone" = some none)
  (VU:Yo K (.ref Cw10) "standing" = some none)
  (VQ:Yo K (.ref Cw10) "coming" = some none)
  (WC:bW K Cw10 "__init__" "Stand.__init__" iV U2)
  (qw11:ie K "Boon" Cw11)
  (VO:Yo K (.ref Cw11) "now" = some none)
  (VI:Yo K (.ref Cw11) "behind" = some none)
  (VC:Yo K (.ref Cw11) "ahead" = some none)
  (Wp:bW K Cw11 "__init__" "Boon.__init__" jB UY)
  (VY:bW K Cw11 "go_on" "Boon.go_on" iC UV)
  (VX:bW K Cw11 "come" "Boon.come" jM UU)
  (WA:bW K Cw11 "pledge" "Boon.pledge" gR UZ)
  (VW:bW K Cw11 "change" "Boon.change" gO US)
  (WB:bW K Cw11 "withdraw" "Boon.withdraw" eE U1)
  (VZ:bW K Cw11 "hand" "Boon.hand" jy UX)
  (ne_Boonw10:Cw11≠Cw10)
  (qq1:HasDef K "is_number" jz fq1)
  (qq2:HasDef K "is_crowd" lV fq2)
  (qq3:HasDef K "are_parts" jE fq3)
  (qq4:HasDef K "is_term_within" dH fq4)
  (qq5:HasDef K "is_term" n8 fq5)
  (qq6:HasDef K "all_hold" lJ fq6)
  (qq7:HasDef K "any_holds" jm fq7)
  (qq8:HasDef K "holds" xY fq8)
  (qq9:HasDef K "mentions" lC fq9)
  (qq10:HasDef K "named" xF fq10)
  (qq11:HasDef K "is_rung" oY fq11)
  (qq12:HasDef K "is_pledge" jH fq12)
  (qq13:HasDef K "owes" Eu fq13)
  (qq14:HasDef K "last_step" jn fq14)
  (qq15:HasDef K "check_there" dR fq15)
  (qq16:HasDef K "owed_of" pP fq16)
  (qq17:HasDef K "pledger_of" iU fq17)
  (qq18:HasDef K "check_pledge" fQ fq18)
  (qq19:HasDef K "pledged_anew" fM fq19)
  (qq20:HasDef K "handed_in" ju fq20)
  (qq21:HasDef K "what_is_due" gC fq21)
  (qq22:HasDef K "roof" BZ fq22)
  (qq23:HasDef K "settled" pH fq23)
  (qq24:HasDef K "rise" Cm fq24)
  (qq25:HasDef K "fall" Ex fq25)
  (qq26:HasDef K "least" wQ fq26)
  (qq27:HasDef K "greatest" lE fq27)
  (qq28:HasDef K "folk" GD fq28)
  (qq29:HasDef K "green" yF fq29)
  (qq30:HasDef K "pledges" o8 fq30)
  (qq31:HasDef K "book_of" pJ fq31)
  (qq32:HasDef K "sure" Gr fq32)
  (qq33:HasDef K "hoped" xX fq33)
  (qq34:HasDef K "owed" GC fq34)
  (qq35:HasDef K "_law_cell" kO fq35)
  (qq36:HasDef K "_law_draws" jt fq36)
  (qq37:HasDef K "_law_under" jA fq37)
  (qq38:HasDef K "_law_crowd" jr fq38)
  (qq39:HasDef K "_law_term" lM fq39)
  (qq40:HasDef K "_law_renamed" gA fq40)
  (qq41:HasDef K "_law_mine" kY fq41)
  (qq42:HasDef K "_law_pledge" iQ fq42)
  (qq43:HasDef K "_law_holds" jL fq43)
  (qq44:HasDef K "_law_owes" lr fq44)
  (qq45:HasDef K "_law_same" lH fq45)
  (qq46:HasDef K "_law_word" dX fq46)
  (qq47:HasDef K "_law_free_boon" eG fq47)
  (qq48:gZ K "law" Nh fq48 cLaw 637)
  (WG:WK K Us "MOST_FOLK" = some (some (.int 12 tk_MOST_FOLK)))
  (WO:WK K Us "MOST_STEP" = some (some (.int 9 tk_MOST_STEP)))
  (WP:WK K Us "MOST_SUM" = some (some (.int 99 tk_MOST_SUM)))
  (WF:WK K Us "MOST_DEPTH" = some (some (.int 4 tk_MOST_DEPTH)))
  (WE:WK K Us "FEWEST_PARTS" = some (some (.int 2 tk_FEWEST_PARTS)))
  (WH:WK K Us "MOST_PARTS" = some (some (.int 6 tk_MOST_PARTS)))
  (WJ:WK K Us "MOST_RUNGS" = some (some (.int 9 tk_MOST_RUNGS)))
  (WI:WK K Us "MOST_PLEDGES" = some (some (.int 40 tk_MOST_PLEDGES)))
  (z_len:WK K Us "len" = some none)
  (z_range:WK K Us "range" = some none)
  (z_all:WK K Us "all" = some none)
  (z_isinstance:WK K Us "isinstance" = some none)
  (z_int:WK K Us "int" = some none)
  (z_bool:WK K Us "bool" = some none)
  (z_str:WK K Us "str" = some none)
  (z_list:WK K Us "list" = some none)
  (z_tuple:WK K Us "tuple" = some none)
  (z_abs:WK K Us "abs" = some none)
  (z_max:WK K Us "max" = some none)
  (z_min:WK K Us "min" = some none)
  (z_sum:WK K Us "sum" = some none)
  (z_sorted:WK K Us "sorted" = some none)
  (z_zip:WK K Us "zip" = some none)
  (z_reversed:WK K Us "reversed" = some none)
  (z_divmod:WK K Us "divmod" = some none)
  (z_set:WK K Us "set" = some none)
  (z_any:WK K Us "any" = some none)
  (z_enumerate:WK K Us "enumerate" = some none)
  (z_ValueError:WK K Us "ValueError" = some none)
  : ∃ (fd:Vn) (c:Addr),W.codeHdIn K c 637=true/\(∀ (s:TV) (v:Value),aax s fd ⟨[v],[]⟩ [("_law_script",v)])/\∀ base:Va,K.In base->base.Ns Us mg->Bv mg c 637 base->aY l.prog w K mg base CX0 19 fa fd ZE (JK K 637):=by
 have e:=hfa.symm.trans (qq48.name X G)
 cases e
 have B:Bt mg:=⟨Vq X G z_len,Vq X G z_range,Vq X G z_all,Vq X G z_isinstance,Vq X G z_int,Vq X G z_bool,Vq X G z_str,Vq X G z_list,Vq X G z_tuple,Vq X G z_abs,Vq X G z_max,Vq X G z_min,Vq X G z_sum,Vq X G z_sorted,Vq X G z_zip,Vq X G z_reversed,Vq X G z_divmod,Vq X G z_set,Vq X G z_any,Vq X G z_enumerate⟩
 have UM:=aaT X G WG
 have UQ:=aaT X G WO
 have UR:=aaT X G WP
 have UK:=aaT X G WF
 have UI:=aaT X G WE
 have UN:=aaT X G WH
 have UP:=aaT X G WJ
 have UO:=aaT X G WI
 obtain⟨_,Fq48,bq48⟩:=qq48.law (y:="_law_script") fun _ _ _ _ _ _ s v=>.of_eq U
 refine⟨_,cLaw,qq48.hd,bq48,fun base _ _ HP=>?_⟩
 have mw0:=qw0.name X G
 obtain⟨_,Fiw0⟩:=qw0.fn
 have biw0:=Fiw0.binds (ps:=Zs) fun _ _ _ _ _ _ us hl=>by obtain⟨x0,x1,rfl⟩:=Oz hl;rfl
 have z_V:=Vq X G z_ValueError
 have Ow0:qK K Cw0 mc "__init__" fiw0:=⟨xga,xrd,xfd,qw0.kp,U⟩
 have FB:=Hj (P:=l.prog) (w:=w) (mg:=mg) (base:=base) Fiw0 z_V
 have mw1:=qw1.name X G
 obtain⟨_,Fiw1⟩:=qw1.fn
 have biw1:=Fiw1.binds (ps:=ZO) fun _ _ _ _ _ _ us hl=>by obtain⟨x0,rfl⟩:=Ft hl;rfl
 have Rw1:=qw1.xrd qw0 mrw1
 have Xw1:Xc l.prog w K mg base "BadPledge" Cw1 "bad pledge":=⟨⟨_,_,Ec Fiw1 mw0 Ow0 FB biw0,mw1,qw1.Ka,biw1⟩⟩
 have mw2:=qw2.name X G
 obtain⟨_,Fiw2⟩:=qw2.fn
 have biw2:=Fiw2.binds (ps:=ZO) fun _ _ _ _ _ _ us hl=>by obtain⟨x0,rfl⟩:=Ft hl;rfl
 have Rw2:=qw2.xrd qw0 mrw2
 have Xw2:Xc l.prog w K mg base "NoFolk" Cw2 "no folk":=⟨⟨_,_,FN Fiw2 mw0 Ow0 FB biw0,mw2,qw2.Ka,biw2⟩⟩
 have mw3:=qw3.name X G
 obtain⟨_,Fiw3⟩:=qw3.fn
 have biw3:=Fiw3.binds (ps:=ZO) fun _ _ _ _ _ _ us hl=>by obtain⟨x0,rfl⟩:=Ft hl;rfl
 have Rw3:=qw3.xrd qw0 mrw3
 have Xw3:Xc l.prog w K mg base "Gone" Cw3 "gone":=⟨⟨_,_,FP Fiw3 mw0 Ow0 FB biw0,mw3,qw3.Ka,biw3⟩⟩
 have mw4:=qw4.name X G
 obtain⟨_,Fiw4⟩:=qw4.fn
 have biw4:=Fiw4.binds (ps:=ZO) fun _ _ _ _ _ _ us hl=>by obtain⟨x0,rfl⟩:=Ft hl;rfl
 have Rw4:=qw4.xrd qw0 mrw4
 have Xw4:Xc l.prog w K mg base "NoPledge" Cw4 "no pledge":=⟨⟨_,_,Ek Fiw4 mw0 Ow0 FB biw0,mw4,qw4.Ka,biw4⟩⟩
 have mw5:=qw5.name X G
 obtain⟨_,Fiw5⟩:=qw5.fn
 have biw5:=Fiw5.binds (ps:=ZO) fun _ _ _ _ _ _ us hl=>by obtain⟨x0,rfl⟩:=Ft hl;rfl
 have Rw5:=qw5.xrd qw0 mrw5
 have Xw5:Xc l.prog w K mg base "Bound" Cw5 "bound":=⟨⟨_,_,Cd Fiw5 mw0 Ow0 FB biw0,mw5,qw5.Ka,biw5⟩⟩
 have mw8:=qw8.name X G
 obtain⟨_,Fiw8⟩:=qw8.fn
 have biw8:=Fiw8.binds (ps:=ZO) fun _ _ _ _ _ _ us hl=>by obtain⟨x0,rfl⟩:=Ft hl;rfl
 have Rw8:=qw8.xrd qw0 mrw8
 have Xw8:Xc l.prog w K mg base "Full" Cw8 "full":=⟨⟨_,_,Gu Fiw8 mw0 Ow0 FB biw0,mw8,qw8.Ka,biw8⟩⟩
 have mw7:=qw7.name X G
 obtain⟨_,Fiw7⟩:=qw7.fn
 have biw7:=Fiw7.binds (ps:=ZO) fun _ _ _ _ _ _ us hl=>by obtain⟨x0,rfl⟩:=Ft hl;rfl
 have Rw7:=qw7.xrd qw0 mrw7
 have Xw7:Xc l.prog w K mg base "BadRise" Cw7 "bad rise":=⟨⟨_,_,Ej Fiw7 mw0 Ow0 FB biw0,mw7,qw7.Ka,biw7⟩⟩
 have mw6:=qw6.name X G
 obtain⟨_,Fiw6⟩:=qw6.fn
 have biw6:=Fiw6.binds (ps:=ZO) fun _ _ _ _ _ _ us hl=>by obtain⟨x0,rfl⟩:=Ft hl;rfl
 have Rw6:=qw6.xrd qw0 mrw6
 have Xw6:Xc l.prog w K mg base "NotDue" Cw6 "not due":=⟨⟨_,_,GX Fiw6 mw0 Ow0 FB biw0,mw6,qw6.Ka,biw6⟩⟩
 have dd:=fun {x:Ut} {st:Stmt} {f:Addr} {ps:Fh} {sp:Sp} {k:Nat} (q:HasDef K x st f)=>q.df (P:=l.prog) (w:=w) (mg:=mg) (base:=base) (ps:=ps) (sp:=sp) (k:=k) X G
 have dx:=fun {x:Ut} {st:Stmt} {f:Addr} {ps:Fh} {sp:Sp} {k:Nat} (q:HasDef K x st f)=>q.dx (P:=l.prog) (w:=w) (mg:=mg) (base:=base) (ps:=ps) (sp:=sp) (k:=k) X G
 have dmx:=fun {x m q:Ut} {C:Addr} {st:Stmt} {f:Addr} {ps:Fh} {sp:Sp} {k:Nat} (o:bW K C m q st f) (c:ie K x C)=>o.dmx (P:=l.prog) (w:=w) (mg:=mg) (base:=base) (ps:=ps) (sp:=sp) (k:=k) c
 have dm:=fun {x m q:Ut} {C:Addr} {st:Stmt} {f:Addr} {ps:Fh} {sp:Sp} {k:Nat} (o:bW K C m q st f) (c:ie K x C)=>o.dm (P:=l.prog) (w:=w) (mg:=mg) (base:=base) (ps:=ps) (sp:=sp) (k:=k) c
 have Dq35:=dd qq35 bJ fun _ F=>wW F B
 have Dq36:=dd qq36 bJ fun _ F=>wj F B
 have Dq37:=dd qq37 bJ fun _ F=>vD F B
 have Dq38:=dd qq38 bJ fun _ F=>wu F B
 have S0:Df l.prog w K mg base "_law_same" 0 XU (rA 0):=dd qq45 bJ fun _ _=>same_none
 have S1:=dd qq45 bJ fun _ F=>gK F B S0
 have S2:=dd qq45 bJ fun _ F=>gK F B S1
 have S3:=dd qq45 bJ fun _ F=>gK F B S2
 have S4:=dd qq45 bJ fun _ F=>gK F B S3
 have T0:Df l.prog w K mg base "_law_term" 1 WU (qY 0):=dd qq39 Gf fun _ _=>term_none
 have T1:=dd qq39 Gf fun _ F=>jq F B Dq36 Dq37 Dq38 T0
 have T2:=dd qq39 Gf fun _ F=>jq F B Dq36 Dq37 Dq38 T1
 have T3:=dd qq39 Gf fun _ F=>jq F B Dq36 Dq37 Dq38 T2
 have R0:Df l.prog w K mg base "_law_renamed" 0 XE (BJ K 0):=dd qq40 bJ fun _ _=>Jd
 have R1:=dd qq40 bJ fun _ F=>fL F B R0
 have R2:=dd qq40 bJ fun _ F=>fL F B R1
 have R3:=dd qq40 bJ fun _ F=>fL F B R2
 have Dq41:=dd qq41 Ow fun _ F=>xK F B T3 R3
 have Dq42:=dd qq42 Ow fun _ F=>tK F B Dq36 Dq37 Dq38 Dq41
 have L0:Df l.prog w K mg base "_law_holds" 0 Xt (dw K 0):=dd qq43 bJ fun _ _=>yJ
 have L1:=dd qq43 bJ fun _ F=>fJ F B L0
 have L2:=dd qq43 bJ fun _ F=>fJ F B L1
 have L3:=dd qq43 bJ fun _ F=>fJ F B L2
 have L4:=dd qq43 bJ fun _ F=>fJ F B L3
 have Dq44:=dd qq44 bJ fun _ F=>xf F B L4
 have H0:Df l.prog w K mg base "holds" 0 YR (dw K 0):=dd qq8 bJ fun _ _=>Az
 have A1:=dd qq6 bJ fun _ F=>gP F B H0
 have Y1:=dd qq7 bJ fun _ F=>fj F B H0
 have H1:=dd qq8 bJ fun _ F=>m8 F B A1 Y1
 have A2:=dd qq6 bJ fun _ F=>gP F B H1
 have Y2:=dd qq7 bJ fun _ F=>fj F B H1
 have H2:=dd qq8 bJ fun _ F=>m8 F B A2 Y2
 have A3:=dd qq6 bJ fun _ F=>gP F B H2
 have Y3:=dd qq7 bJ fun _ F=>fj F B H2
 have H3:=dd qq8 bJ fun _ F=>m8 F B A3 Y3
 have A4:=dd qq6 bJ fun _ F=>gP F B H3
 have Y4:=dd qq7 bJ fun _ F=>fj F B H3
 have H4:=dd qq8 bJ fun _ F=>m8 F B A4 Y4
 have Dq13:=dd qq13 bJ fun _ F=>Nu F B H4
 have Dq14:=dd qq14 bind1 fun _ F=>uK F B
 have Dq21:=dd qq21 iz fun _ F=>qw F B Dq13
 have Dq22:=dd qq22 bJ fun _ F=>Lg F B Dq14
 have Dq23:=dd qq23 iz fun _ F=>Bp F B Dq21
 have Dq24:=dd qq24 bJ fun _ F=>Ma F B Dq23
 have Dq25:=dd qq25 bJ fun _ F=>Mm (by decide) F B Dq23 Dq22
 have Dq26:=dd qq26 bJ fun _ F=>JB F B Dq24
 have Dq27:=dd qq27 bJ fun _ F=>xH F B Dq25
 have S:uZ K Cw10:=⟨qw10.cl,VT,VS,VU,VQ⟩
 have T:Ax K Cw11:=⟨qw11.cl,VO,VI,VC⟩
 have ne:=ne_Boonw10
 let xa:XA:=⟨Cw2,Cw3,Cw1,Cw8,Cw4,Cw5,Cw6,Cw7,Cw2⟩
 have RX:∀ w:Ut,XRd K (xa.of w) Cw0 "word":=fun w=>by unfold XA.of;(repeat' split) <;> first | exact Rw2 | exact Rw3 | exact Rw1 | exact Rw8 | exact Rw6 | exact Rw7 | exact Rw4 | exact Rw5
 have Dq1:=dd qq1 iz fun _ F=>vg F B
 have Dq2:=dd qq2 iz fun _ F=>yG F B Dq1
 have W0:Df l.prog w K mg base "is_term_within" 1 X2 (jb 0):=dd qq4 iz fun _ _=>yK
 have P0:=dd qq3 iz fun _ F=>fH F B UI UN (by decide) Dq1 W0
 have W1:=dd qq4 iz fun _ F=>cG F B UQ UR UM (by decide) Dq1 Dq2 P0
 have P1:=dd qq3 iz fun _ F=>fH F B UI UN (by decide) Dq1 W1
 have W2:=dd qq4 iz fun _ F=>cG F B UQ UR UM (by decide) Dq1 Dq2 P1
 have P2:=dd qq3 iz fun _ F=>fH F B UI UN (by decide) Dq1 W2
 have W3:=dd qq4 iz fun _ F=>cG F B UQ UR UM (by decide) Dq1 Dq2 P2
 have P3:=dd qq3 iz fun _ F=>fH F B UI UN (by decide) Dq1 W3
 have W4:=dd qq4 iz fun _ F=>cG F B UQ UR UM (by decide) Dq1 Dq2 P3
 have Dq5:=dd qq5 bJ fun _ F=>Bd F B UK W4
 have M0:Df l.prog w K mg base "mentions" 0 ZT (oU 0):=dd qq9 bind1 fun _ _=>DQ
 have M1:=dd qq9 bind1 fun _ F=>gM F B M0
 have M2:=dd qq9 bind1 fun _ F=>gM F B M1
 have M3:=dd qq9 bind1 fun _ F=>gM F B M2
 have M4:=dd qq9 bind1 fun _ F=>gM F B M3
 have Dq10:=dd qq10 bind1 fun _ F=>Jl F B M4
 have Dq11:=dd qq11 Gf fun _ F=>Bx F B UQ (by decide) Dq1 Dq5 Dq10
 have Dq12:=dd qq12 iz fun _ F=>uF F B UP (by decide) Dq1 Dq11
 have Dw10:=WC.dk (P:=l.prog) (w:=w) (base:=base) (ps:=WV) qw10 X G (fun _ F=>F.binds fun _ _ _ _ _ _ us hl=>by obtain⟨x0,x1,x2,x3,x4,rfl⟩:=Su hl;rfl) fun _ F=>tR F S
 have Dw11:=Wp.dk (P:=l.prog) (w:=w) (base:=base) (ps:=ZO) qw11 X G (fun _ F=>F.binds fun _ _ _ _ _ _ us hl=>by obtain⟨x0,rfl⟩:=Ft hl;rfl) fun _ F=>sW F T Dw10
 have RI:=dm (ps:=Zl) VY qw11 (fun _ F=>F.binds fun _ _ _ _ _ _ us hl=>by obtain⟨x0,x1,rfl⟩:=Oz hl;rfl) fun _ F=>qH F T
 have TR:=dmx (ps:=ZO) VX qw11 (fun _ F=>F.binds fun _ _ _ _ _ _ us hl=>by obtain⟨x0,rfl⟩:=Ft hl;rfl) fun _ F=>qi ne F B S T UM Dw10 RI Xw8
 have TD:=dx qq15 bJ fun _ F=>mQ F B S Dq1 Xw2 Xw3
 have TC:=dx qq18 iz fun _ F=>lW (by decide) F B S Dq12 Xw1
 have TW:=dmx (ps:=X9) WA qw11 (fun _ F=>F.binds fun _ _ _ _ _ _ us hl=>by obtain⟨x0,x1,x2,rfl⟩:=RD hl;rfl) fun _ F=>mO (x:=xa) (by decide) ne F B S T UO TD TC Dw10 RI Xw8
 have Dq16:=dd qq16 iz fun _ F=>Ar F B Dq13
 have TL:=dx qq17 bJ fun _ F=>pQ (x:=xa) F B S Dq1 Xw4
 have TK:=dx qq19 iz fun _ F=>gj (x:=xa) (by decide) F B S Dq16 Dw10 Xw5
 have TB:=dx qq19 iz fun _ F=>(gj (x:=xa) (by decide) F B S Dq16 Dw10 Xw5).mono (show 11<=13 by decide)
 have TN:=dmx (ps:=XT) VW qw11 (fun _ F=>F.binds fun _ _ _ _ _ _ us hl=>by obtain⟨x0,x1,x2,rfl⟩:=RD hl;rfl) fun _ F=>m5 (x:=xa) (by decide) ne F B S T TL TC TB RI
 have TZ:=dmx (ps:=YV) WB qw11 (fun _ F=>F.binds fun _ _ _ _ _ _ us hl=>by obtain⟨x0,x1,rfl⟩:=Oz hl;rfl) fun _ F=>(jU (x:=xa) (by decide) ne F B S T TL TK RI).mono (show 12<=14 by decide)
 have TH:=dx qq20 bJ fun _ F=>qj (x:=xa) (by decide) F B S UQ TD Dq1 Dq16 Dw10 Xw7 Xw6
 have TU:=dmx (ps:=Zp) VZ qw11 (fun _ F=>F.binds fun _ _ _ _ _ _ us hl=>by obtain⟨x0,x1,rfl⟩:=Oz hl;rfl) fun _ F=>(qm (x:=xa) (by decide) ne F B T TH RI).mono (show 12<=14 by decide)
 have Dq28:=dd qq28 bind1 fun _ F=>LC F B S T
 have Dq29:=dd qq29 bind1 fun _ F=>HJ F B S T
 have Dq30:=dd qq30 bind1 fun _ F=>Bu F B S T
 have Dq15:=dd qq15 bJ fun _ F=>qu F B S Dq1
 have Dq34:=dd qq34 bJ fun _ F=>(Mq (by decide) F B S T Dq15 Dq16 Dq29).mono (show 11<=12 by decide)
 have Dq31:=dd qq31 bind1 fun _ F=>Bh F B S T Dq28
 have Dq32:=dd qq32 bind1 fun _ F=>(KY (by decide) F B Dq26 Dq31 Dq29).mono (show 14<=15 by decide)
 have Dq33:=dd qq33 bind1 fun _ F=>(Io (by decide) F B Dq27 Dq31 Dq29).mono (show 14<=15 by decide)
 have Dq47:=dd qq47 bJ fun _ F=>mU (x:=xa) (by decide) F B Dw11 TR TW TU
 obtain⟨_,Fq46⟩:=qq46.fn
 have mq46:=qq46.name X G
 exact O1 Fq48 B HP mw0 RX Fq46 mq46 Dq36 Dq35 Dq37 Dq42 Dq44 Dq47 TW TU TN TZ Dq29 Dq34 Dq32 Dq33 Dq30 S3
theorem walk {l:W.OpenLaw}{q:Uq}{loose:Fh}{XP:(Ut->EW)->Va->Prop}{YP:U3->Va->Prop}{d:DefRec}{K:Params->Uw}(hn:l.most=some 63)(hdf:d.params.defaults=[])
  (hY:∀ (w:U3) (h:Va),YP w h->(K w.params).In h/\h.get? 637=some (W.tabObj #[])) (hno:∀ w:U3,W.noTabs (K w.params)=true)
  (F:∀ (w:U3) (mg:Ut->EW) (fa:Addr) (h:Va),(K w.params).In h->h.Ns Us mg->mg d.name=some (.ref fa)->∃ (fd:Vn) (c:Addr),W.codeHdIn (K w.params) c 637=true/\(∀ (s:TV) (u:Value),aax s fd ⟨[u],[]⟩ [("_law_script",u)]) ∧
   ∀ base:Va,(K w.params).In base->base.Ns Us mg->Bv mg c 637 base->aY l.prog w (K w.params) mg base CX0 19 fa fd ZE (JK (K w.params) 637)) :
  W.WalkO q loose XP YP l.row.toRowW d [] (fun f vs=>PySem.call f vs) :=
 L2.Jg (n:=63) (k:=19) (x:="_law_script") (q:=G5) (T:=637) (sp:=fun w=>JK (K w.params) 637) hn (by decide) hdf ⟨U,by decide,by decide⟩ hY hno F fun _ _ a ns hl hT hS=>⟨a,ns,U,hS,hl,hT,fun _=>U⟩
end My
end
open PySem PySem.W PyProof.Rows
namespace PySem.Challenge.cw_loveboon_k58_whole_several_pledges_of_on_holds
theorem tw3810560886557040630:True:=trivial
theorem tw7396266702121522609:True:=trivial
theorem tw10630928933695091248:True:=trivial
theorem tw3639308224535683890:True:=trivial
theorem tw8419280115194607435:True:=trivial
theorem tw12475503406720818336:True:=trivial
theorem tw15272283256503353295:True:=trivial
theorem tw12689137422323332018:True:=trivial
theorem tw3942996102435701316:True:=trivial
theorem tw10600062460644760563:True:=trivial
theorem tw16993053757668455522:True:=trivial
theorem tw17571222431809868676:True:=trivial
theorem tw8188264614397648414:True:=trivial
theorem tw5272907462334647754:True:=trivial
theorem tw75675604384495558:True:=trivial
theorem tw12261498704633682603:True:=trivial
theorem tw6547597894032877183:True:=trivial
theorem tw6120584424088286822:True:=trivial
theorem tw9407414735962875000:True:=trivial
theorem tw9559284412212501910:True:=trivial
theorem tw10268078753831688849:True:=trivial
theorem tw14608107533253791537:True:=trivial
theorem tw10112391582253535193:True:=trivial
theorem tw1282875629813472509:True:=trivial
theorem tw12503394642152098761:True:=trivial
theorem tw4216195557963139598:True:=trivial
theorem tw476875001037575481:True:=trivial
theorem tw277062269226169533:True:=trivial
theorem tw8170638910602878770:True:=trivial
theorem tw16452150825651740347:True:=trivial
theorem tw14755434597105360933:True:=trivial
theorem tw5686734151390885138:True:=trivial
theorem tw4573609181735418863:True:=trivial
theorem tw9685863072170008888:True:=trivial
theorem tw12536744040939319514:True:=trivial
theorem tw6579956669120752278:True:=trivial
theorem tw12454776683408896517:True:=trivial
theorem tw4326362613815671127:True:=trivial
theorem tw9600888614223413673:True:=trivial
theorem tw14554850136735208676:True:=trivial
theorem tw5341164116999313034:True:=trivial
end PySem.Challenge.cw_loveboon_k58_whole_several_pledges_of_on_holds
set_option maxRecDepth 100000 in
set_option maxHeartbeats 0 in
theorem PySem.Challenge.cw_loveboon_k58_whole_several_pledges_of_on_holds : PySem.Challenge.rw_loveboon_k58_whole_several_pledges_of_on.Holds := by
 w_on;o_law;k_head;(case hw=>w_witness2)
 k_fill
 refine My.walk (l:=PySem.Challenge.rw_loveboon_k58_whole_several_pledges_of_on) U U (fun w h Y=>⟨W.km_in_of Y,W.km_tabs_of Y 637 (by simp)⟩) (fun w=>by kernel_rfl) ?F
 case F =>
  intro w mg fa h KX G hmg
  refine' My.all_mk KX G hmg ?qw0 ?xga ?xty ?xrd ?xfd ?qw1 ?mrw1 ?qw2 ?mrw2 ?qw3 ?mrw3 ?qw4 ?mrw4 ?qw5 ?mrw5 ?qw8 ?mrw8 ?qw7 ?mrw7 ?qw6 ?mrw6 ?qw10 ?VT ?VS ?VU ?VQ ?WC ?qw11 ?VO ?VI ?VC ?Wp ?VY ?VX ?WA ?VW ?WB ?VZ ?ne_Boonw10 ?qq1 ?qq2 ?qq3 ?qq4 ?qq5 ?qq6 ?qq7 ?qq8 ?qq9 ?qq10 ?qq11 ?qq12 ?qq13 ?qq14 ?qq15 ?qq16 ?qq17 ?qq18 ?qq19 ?qq20 ?qq21 ?qq22 ?qq23 ?qq24 ?qq25 ?qq26 ?qq27 ?qq28 ?qq29 ?qq30 ?qq31 ?qq32 ?qq33 ?qq34 ?qq35 ?qq36 ?qq37 ?qq38 ?qq39 ?qq40 ?qq41 ?qq42 ?qq43 ?qq44 ?qq45 ?qq46 ?qq47 ?qq48 ?WG ?WO ?WP ?WF ?WE ?WH ?WJ ?WI ?z_len ?z_range ?z_all ?z_isinstance ?z_int ?z_bool ?z_str ?z_list ?z_tuple ?z_abs ?z_max ?z_min ?z_sum ?z_sorted ?z_zip ?z_reversed ?z_divmod ?z_set ?z_any ?z_enumerate ?z_ValueError
  (case qw0=>apply L2.cY.mk <;> first | exact⟨rfl,rfl,rfl,rfl⟩ | k_is | rfl)
  (case xga|xty|xrd|xfd=>k_is)
  (case qw1=>apply L2.cY.mk <;> first | exact⟨rfl,rfl,rfl,rfl⟩ | k_is | rfl)
  (case mrw1=>rfl)
  (case qw2=>apply L2.cY.mk <;> first | exact⟨rfl,rfl,rfl,rfl⟩ | k_is | rfl)
  (case mrw2=>rfl)
  (case qw3=>apply L2.cY.mk <;> first | exact⟨rfl,rfl,rfl,rfl⟩ | k_is | rfl)
  (case mrw3=>rfl)
  (case qw4=>apply L2.cY.mk <;> first | exact⟨rfl,rfl,rfl,rfl⟩ | k_is | rfl)
  (case mrw4=>rfl)
  (case qw5=>apply L2.cY.mk <;> first | exact⟨rfl,rfl,rfl,rfl⟩ | k_is | rfl)
  (case mrw5=>rfl)
  (case qw8=>apply L2.cY.mk <;> first | exact⟨rfl,rfl,rfl,rfl⟩ | k_is | rfl)
  (case mrw8=>rfl)
  (case qw7=>apply L2.cY.mk <;> first | exact⟨rfl,rfl,rfl,rfl⟩ | k_is | rfl)
  (case mrw7=>rfl)
  (case qw6=>apply L2.cY.mk <;> first | exact⟨rfl,rfl,rfl,rfl⟩ | k_is | rfl)
  (case mrw6=>rfl)
  (case qw10=>apply L2.ie.mk <;> k_is)
  (case VT|VS|VU|VQ=>k_is)
  (case WC=>apply L2.bW.mk <;> k_is)
  (case qw11=>apply L2.ie.mk <;> k_is)
  (case VO|VI|VC=>k_is)
  (case Wp|VY|VX|WA|VW|WB|VZ=>apply L2.bW.mk <;> k_is)
  (case ne_Boonw10=>decide)
  (case qq1|qq2|qq3|qq4|qq5|qq6|qq7|qq8|qq9|qq10|qq11|qq12|qq13|qq14|qq15|qq16|qq17|qq18|qq19|qq20|qq21|qq22|qq23|qq24|qq25|qq26|qq27|qq28|qq29|qq30|qq31|qq32|qq33|qq34|qq35|qq36|qq37|qq38|qq39|qq40|qq41|qq42|qq43|qq44|qq45|qq46|qq47=>apply L2.HasDef.mk <;> k_is)
  (case qq48=>apply L2.gZ.mk <;> first | k_is | kernel_rfl)
  (case WG|WO|WP|WF|WE|WH|WJ|WI|z_len|z_range|z_all|z_isinstance|z_int|z_bool|z_str|z_list|z_tuple|z_abs|z_max|z_min|z_sum|z_sorted|z_zip|z_reversed|z_divmod|z_set|z_any|z_enumerate|z_ValueError=>k_is)
