import PyProof.Rows.All
import Wide.All
import OpenK.AllK
import Wide.FinOn
import Lean
import PyProof.EqAt
import PyProof.EqKinds
import PyProof.TupleCall
import PyProof.NeKinds
import PySem.Challenge.RW_loveboon_k35_gifts_handed_in
noncomputable section
def U {α : Sort _}{a : α} : a = a := rfl
open Array renaming getElem?_eq_getElem→We,length_toList→Wz,getElem?_toList→W6,getD_eq_getD_getElem?→Yn,getElem?_eq_none→Y0,append_assoc→aaH
open Bool renaming false_ne_true→Vy,and_eq_true→Xp,true_and→Y7,false_and→Zv,and_false→Zw,or_true→ZC,eq_iff_iff→aap,false_or→abJ,false_eq_true→abO,or_eq_true→acz,decide_and→acA
open False renaming elim→Wu
open ForInStep renaming yield→ZS
open Int renaming toNat_natCast→Wg,emod_lt_of_pos→Wl,emod_nonneg→Wt,eq_ofNat_of_zero_le→W8,zero_add→Xw
open List renaming length_map→Vs,getElem?_eq_getElem→Vz,map_append→VD,length_append→VH,take_length→VJ,mem_cons_self→VP,mem_cons_of_mem→VR,length_take→V0,size_toArray→V1,length_cons→V2,getElem?_map→V7,take_add_one→V8,mem_of_getElem?→Wd,getD_eq_getElem?_getD→Wi,mem_append_right→Wj,take_zero→Ws,map_cons→WL,length_filter_le→WT,lookup_cons→WX,range→Xb,replicate→Xd,append_nil→Xn,length_range→XD,mem_singleton→XN,contains_cons→XQ,pairwise_cons→Yb,eq_nil_of_length_eq_zero→Yc,filter_cons_of_pos→Yh,filter_cons_of_neg→Yi,filterMap_cons→Yk,getElem?_append_right→Yu,foldl_cons→Yy,take_succ_cons→YG,length_drop→YL,filter_append→YW,mem_cons→Y5,any_cons→Y6,length_replicate→Y9,getElem?_eq_none→Za,pairwise_map→Ze,lookup→Zu,drop_eq_getElem_cons→ZF,getElem_of_mem→ZJ,mem_append→ZQ,find?_cons→ZR,range_succ_eq_map→Z3,getElem?_set_self→Z4,filter_cons→aad,all_cons→aag,pairwise_append→aah,mem_append_left→aai,reverse_cons→aaK,append_assoc→aaL,not_mem_nil→aaU,getElem_map→aaV,getElem?_replicate→aaW,cons_append→aaX,zipWith→aa4,map_map→aa5,range_succ→abb,of_mem_zip→abd,length_set→abe,getElem?_toArray→abg,replicate_succ'→abn,length→abo,getElem?_set_ne→abp,mem_map_of_mem→abB,getElem?_range→abC,filterMap_map→abN,nodup_append→ab0,all_map→ab3,getElem_mem→acf,getElem_inj→acg,drop_length→ach,getLast?_eq_some_getLast→acq,nil_append→acx,dropLast_concat_getLast→acy
open List.Pairwise renaming nil→aaM
open Nat renaming le_refl→Vw,lt_of_lt_of_le→Vx,ne_of_lt→V5,le_trans→Wf,zero_le→Wr,lt_irrefl→WK,lt_succ_of_lt→WY,le_succ→Xq,le_of_lt→Xz,lt_succ_self→Yt,succ_ne_zero→YK,ne_of_gt→YT,le_of_succ_le→Zd,lt_of_le_of_lt→ZW,not_lt_zero→aao,lt_trans→aa2,lt_of_succ_lt_succ→aa3,eq_zero_or_pos→abM,succ_le_succ→ace
open Ne renaming symm→Xl
open Option renaming isSome_map→abZ
open Option.some renaming inj→Wo
open Or renaming inl→VF,inr→aaC
open PyProof.Rows renaming IntsAre→Xa,step_dedup→Xh,callWith_type1→Ym,seqObj→aan,AllBare→aaO,envOfC→abA,subscriptTail→abE,slot_tuple_getitem→ab6,callWith_builtin1→acd,entry_list_sort→acu
open PyProof.Rows.F renaming plain_set_update_loop→aaY
open PySem renaming wpAny_bind→Vr,Shared→Vt,wpAny_pure→Vv,wpAny→VG,model→VM,Program→V4,mainGlobals→V6,Str→Wb,starEach→Wc,Around→Wm,World→Wn,wpAny_newObj_type→Wv,wpAny_mono→Ww,bootBuiltins→Wy,Heap→WD,rawInt→WM,FuncData→WR,mem_of_lookup→WW,wpAny_holding→Xe,codeAny→Xi,wpAny_Call_Name_kw→Xj,wpAny_call_entry→Xo,wpAny_loadPart_at→Xu,eval→Xv,wpAny_setField→XF,codeAny_builtin→XJ,compareOp→XR,backTo→XX,wpAny_truthy_bool→X4,Obj→X8,wpAny_callSpecial?_slot→Yd,foldedSetIterable→Ye,Scope→Yg,wpAny_isSubtype_exc→Yj,codeAny_mono→Yl,wpAny_standAt→Yo,wpAny_of_eq→Yp,wpAny_field→Yq,behindInMarks→Yr,builtinLookup_eq_fast→Yv,letOwnedTupleGo→Yw,sliceBounds→Yz,plainId_quiet→YC,wpAny_askSetting→YH,isSubtype_type→YJ,excClassObj→YQ,Builtin→YZ,pyNext→Y8,wpAny_setState_of→Zb,wpAny_call→Zg,sysModules→Zh,keywordEach→Zi,codeAny_call_builtin→Zj,bindArgs→Zk,SetTable→Zq,standAt→Zx,intKind→Zy,checkBuiltinCall→Zz,Pos→ZD,wpAny_attempt→ZK,typeLookup_type→ZM,holding→ZP,wpAny_pyIter_list→ZX,firstArgMember→ZZ,binaryOp→Z0,wpAny_isInstance→Z6,pickOrder→Z7,noteFrame→Z8,getMethod→Z9,assignEach→aaa,TriplesOk→aab,attributeBase→aae,wpAny_updateSeq→aaj,wpAny_specialOf→aak,wpAny_passesOwn→aal,wpAny_execs_nil→aam,wpAny_setEntries_of→aaq,codeAmong→aat,wpAny_tryCatch→aau,wpAny_seqItems→aav,wpAny_rule→aaw,typeLookup→aax,tupleKind_room_in1→aay,backToKw→aaz,argsOk→aaA,Result→aaB,NameKind→aaE,wpAny_comprehension_free→aaP,slicePick→aaR,compPost→aaS,assign→aaZ,BindsTo→aa6,wpAny_ite_false→aa7,codeAny_of_tree→aa8,wpAny_newFunctionEnv→abh,pyIter→abi,callWith→abj,valueAt→abq,swapsWith→abr,getItem→abt,Arguments→abw,wpAny_newList→abD,signature?_of→abF,wpAny_typeOf→abP,wpAny_pyIter_slot→abQ,relayAll→abR,compEnvC→abS,callerA→abT,GenState→ab4,plainObj_wpAny_Assign_Attribute→ab5,tupleKind→ab7,seqItems?→ab8,seqIndex?→ab9,noFill_tuple_add→aca,IsPart→aci,wpAny_letGo→ack,subscripted→acn,sizeLine_eq→aco,wpAny_ite_split→acr,theTreesLotGoes→acs,setNext→acB
open PySem.Around renaming under_plainId→XS
open PySem.Builtin.Builtins renaming bindParams→aas
open PySem.Builtin.List renaming listExtendWith→Zf,listLengthHint→acD
open PySem.Builtin.Slice renaming slicePlaces→ZG,sliceAdjust→aaJ
open PySem.Builtin.SmallTypes renaming newClass→acC
open PySem.Builtin.Tuple renaming tupleExact→ZL
open PySem.Calls renaming spliced_cons→aaG,call_function_entry→aaI,spliced_nil→aaN
open PySem.Code renaming quiet_builtin→aaF
open PySem.F renaming plainAttrs_list→W7,type_list_append→Xf,slot_list_append→Xg,plain_max_loop→YM,args_tuple_add_2→aaQ,entry_tuple_add→aaT,slot_tuple_add→aa1,entry_max_loop→acj
open PySem.Heap renaming get?_push_of_some→Vu,lt_size→VL,get?_push_size→VN,get?_update_other→V9,get?_update_self→Wh,size_push→Xy,SameBut→YX
open PySem.Heap.SameBut renaming update→Xr
open PySem.NameKind renaming free→X3,cell→abI
open PySem.Obj renaming mapFields→XH,mapSeq→YS,data_mapFields→aaD,isFreed_of_fields→abf,putSet→abL
open PySem.PassesOwn renaming never→Wq
open PySem.SetTable renaming below→Xm,grown→Zo
open PySem.SetTable.below renaming go→Z2
open PySem.SetTable.probe renaming go→abV
open PySem.Str renaming ofString→Z1
open PySem.Value renaming ref→VV,none→Xk,int→Ys,type→YD,bool→aa0,str→abv,builtin→abG
open PySem.W renaming Frag→VB,Frag→V3,mg_none_of→WQ,findIn→W5,keepIn→Xx,kia_one→XM,nsIn→X5,emptyDict→X6,instObj→Yx,fnOf→YB,hasDictIn→Zc,kitOne→Zm,findIn→Zn,looks_findIn→Zr,codeIn→Zt,callWith_K→ZV,methodCall_KW→Z5,plainGet→aac,mg_of→aaf,takerIn→aa9,kla_obj→aba,fnOf→abk,lookIn→abm,mg_of→abu,plainGet_of→abx,looks_clsIn→aby,callWith_K0→abz,Looks→abH,plainOver→abW,methodObj→abX,isFn→abY,handedIn→acb,makesIn→acv,hideAll→acw
open PySem.W.Looks renaming here→X7
open PySem.Walks renaming list→abK
open Sum renaming inl→WN,inr→abU
open Sum.inl renaming inj→abl
open True renaming intro→YF
open PySem
abbrev DE := Option (Value × Nat)
abbrev DF := Option (Int × Tok)
abbrev DH := List (Wb × Value)
abbrev DI := List (Addr × X8)
abbrev DJ := List (Wb × Addr)
abbrev DL := List (Int × Int)
abbrev DM := Value->Vt->Prop
abbrev DO := Option Value
abbrev DS := List Keyword
abbrev DT := Option Addr
abbrev DU := Option Bool
abbrev DV := List Value
abbrev DZ := Option Int
abbrev D0 := List Addr
abbrev D1 := List Expr
abbrev D3 := List Stmt
abbrev D4 := List Env
abbrev D6 := List Int
abbrev D7 := List Nat
abbrev D8 := List Str
abbrev D9 := List Wb
set_option Elab.async false
set_option linter.all false
set_option maxRecDepth 100000
namespace L2
open PySem PySem.Spec PyProof.Rows
abbrev Key:=Sum Int Wb
def zG:Key->Value->Bool
 | .inl k,v=>Value.isInt k v
 | .inr x,v=>Value.isStrOf x v
def Vo (w:Wn):Key->Int
 | .inl k=>hashInt k
 | .inr x=>hashStr w x
theorem cN:∀ {k:Key} {v:Value},zG k v=true->(∃ i t,k=WN i/\v=Ys i t)∨(∃ x t,k=abU x/\v=abv x t)
 | .inl i,v,h=>by
  obtain⟨t,e⟩:=Value.isInt_shape (k:=i) (v:=v) h
  exact .inl ⟨i,t,U,e⟩
 | .inr x,v,h=>by
  obtain⟨t,e⟩:=Value.isStrOf_shape (x:=x) (v:=v) h
  exact .inr ⟨x,t,U,e⟩
def Fy (i:Int)(t:Tok):zG (.inl i) (.int i t)=true:=by simp [zG,Value.isInt]
def Ja (x:Wb)(t:Tok):zG (.inr x) (.str x t)=true:=by simp [zG,Value.isStrOf]
def R7 (a b:Int):decide ((WN a:Key)=WN b)=(a == b):=by
 by_cases e:a=b
 ·subst e;simp
 ·have h:¬ (WN a:Key)=WN b:=fun q=>e (abl q)
  rw[decide_eq_false h]
  exact (beq_eq_false_iff_ne.mpr e).symm
def RZ (a b:Wb):decide ((abU a:Key)=abU b)=decide (a=b):=by
 by_cases e:a=b
 ·subst e;simp
 ·have h:¬ (abU a:Key)=abU b:=fun q=>e (Sum.inr.inj q)
  rw[decide_eq_false h,decide_eq_false e]
def Rn (a:Int)(b:Wb):decide ((WN a:Key)=abU b)=false:=decide_eq_false (fun q=>nomatch q)
def QH (a:Wb)(b:Int):decide ((abU a:Key)=WN b)=false:=decide_eq_false (fun q=>nomatch q)
def dI (prog:V4)(w:Wn):PySem.KeyKind prog w Key where
 is:=zG
 hash:=Vo w
 inj:=fun v a b ha hb=>by
  rcases cN ha with⟨i,t,rfl,rfl⟩ | ⟨x,t,rfl,rfl⟩
  ·rcases cN hb with⟨j,u,rfl,e⟩ | ⟨y,u,rfl,e⟩
   ·injection e with e1 _;rw[e1]
   ·exact nomatch e
  ·rcases cN hb with⟨j,u,rfl,e⟩ | ⟨y,u,rfl,e⟩
   ·exact nomatch e
   ·injection e with e1 _;rw[e1]
 byValue:=fun k v h=>by
  rcases cN h with⟨i,t,rfl,rfl⟩ | ⟨x,t,rfl,rfl⟩ <;> rfl
 pyHash:=fun hv h=>by
  rcases cN hv with⟨i,t,rfl,rfl⟩ | ⟨x,t,rfl,rfl⟩
  ·exact wpAny_pyHash_int h
  ·exact wpAny_pyHash_str h
 eqBool:=fun hu hv h=>by
  rcases cN hu with⟨i,t,rfl,rfl⟩ | ⟨x,t,rfl,rfl⟩
  ·rcases cN hv with⟨j,u,rfl,rfl⟩ | ⟨y,u,rfl,rfl⟩
   ·rw[R7] at h;exact wpAny_eqBool_int h
   ·rw[Rn] at h;exact SeqAt.EqAt.int_str i t y u _ _ _ _ h
  ·rcases cN hv with⟨j,u,rfl,rfl⟩ | ⟨y,u,rfl,rfl⟩
   ·rw[QH] at h;exact SeqAt.EqAt.str_int x t j u _ _ _ _ h
   ·rw[RZ] at h;exact wpAny_eqBool_str h
 «strs»:=fun k x t v h=>by
  rcases cN h with⟨i,u,rfl,e⟩ | ⟨y,u,rfl,e⟩
  ·exact nomatch e
  ·injection e with e1 _
   subst e1
   cases v <;> rfl
def zx (prog:V4)(w:Wn)(i:Int)(t:Tok):(dI prog w).is (.inl i) (.int i t)=true:=Fy i t
def Ae (prog:V4)(w:Wn)(x:Wb)(t:Tok):(dI prog w).is (.inr x) (.str x t)=true:=Ja x t
inductive V where
 | non | bl (b:Bool) | int (i:Int) | str (x:Wb) | byt (b:Array UInt8) | flt (b:UInt64) | ref (a:Addr) | ty (n:String)
 deriving DecidableEq
def RelV:V->Value->Prop
 | .non,u=>u=Xk
 | .bl b,u=>u=aa0 b
 | .int i,u=>∃ t,u=Ys i t
 | .str x,u=>∃ t,u=abv x t
 | .byt b,u=>∃ t,u=Value.bytes b t
 | .flt b,u=>∃ t,u=Value.float b t
 | .ref a,u=>u=VV a
 | .ty n,u=>u=YD n
abbrev Vals:List V->DV->Prop:=Paired RelV
def Vals.length {xs:List V}{us:DV}(r:Vals xs us):xs.length=us.length:=Paired.length r
theorem Vals.get:∀ {xs:List V} {us:DV} {i:Nat} {x:V},Vals xs us->xs[i]? = some x->∃ u,us[i]? = some u/\RelV x u
 | _,_,_,_,.nil,e=>by simp at e
 | _,_,0,_,.cons r _,e=>by simp at e;subst e;exact⟨_,U,r⟩
 | _,_,i+1,x,.cons _ t,e=>by
  obtain⟨u,h1,h2⟩:=Vals.get (i:=i) (x:=x) t (by simpa using e)
  exact⟨u,by simpa using h1,h2⟩
theorem Vals.set {x:V}{u:Value}(r:RelV x u):∀ {xs:List V} {us:DV} (i:Nat),Vals xs us->Vals (xs.set i x) (us.set i u)
 | _,_,_,.nil=>.nil
 | _,_,0,.cons _ t=>.cons r t
 | _,_,i+1,.cons q t=>.cons q (Vals.set r i t)
theorem Vals.append:∀ {xs ys:List V} {us ws:DV},Vals xs us->Vals ys ws->Vals (xs++ys) (us++ws)
 | _,_,_,_,.nil,s=>s
 | _,_,_,_,.cons r t,s=>.cons r (Vals.append t s)
theorem Vals.take:∀ {xs:List V} {us:DV} (n:Nat),Vals xs us->Vals (xs.take n) (us.take n)
 | _,_,0,_=>.nil
 | _,_,_+1,.nil=>.nil
 | _,_,n+1,.cons r t=>.cons r (Vals.take n t)
theorem Vals.drop:∀ {xs:List V} {us:DV} (n:Nat),Vals xs us->Vals (xs.drop n) (us.drop n)
 | _,_,0,r=>r
 | _,_,_+1,.nil=>.nil
 | _,_,n+1,.cons _ t=>Vals.drop n t
def t7:Option V->DO->Prop
 | some v,some u=>RelV v u
 | none,none=>True
 | _,_=>False
def KV {κ:Type}:List (κ × V)->List (κ × Value)->Prop:=Paired fun (p:κ × V) (q:κ × Value)=>p.1=q.1/\RelV p.2 q.2
def kV:Key->V
 | .inl i=>.int i
 | .inr x=>.str x
inductive HO where
 /-- a list -/
 | lst (xs:List V)
 /-- a tuple (never changes) -/
 | tup (xs:List V)
 /-- a dict whose keys are ints and texts;one whose keys are tuples of ints and texts (the empty one is both) -/
 | dK (kvs:List (Key × V)) | dT (kvs:List (List Key × V))
 /-- a set of ints: its members,its size -/
 | set (S:Int->Bool) (n:Nat)
 /-- an instance of the class at C,its dict at dx,its attributes -/
 | ins (C dx:Addr) (fs:List (Wb × V))
 /-- the dict of the instance at x -/
 | own (x:Addr)
 /-- the dict of an exception -/
 | xd (fs:List (Wb × V))
 /-- a bound method,f of x -/
 | met (f x:Addr)
 /-- a range object lo,lo+1,.. below hi -/
 | rng (lo hi:Int)
 /-- a thing that is known to the object (the script;a dict while a loop walks it): read,never written while it is so -/
 | frz (o:X8) (u:HO)
 /-- a code object's table -/
 | tbl (ps:Array Value)
 /-- any other thing,by what is true of its one object (a def of one's own: SetO a S n:=HO.ext fun h=>..) -/
 | ext (φ:WD->Prop)
abbrev Hp:=Addr->Option HO
def upd (H:Hp)(a:Addr)(o:HO):Hp:=fun b=>if b=a then some o else H b
def aj {H:Hp}{a:Addr}{o:HO}:upd H a o a=some o:=by unfold upd;rw[if_pos U]
def aM {H:Hp}{a b:Addr}{o:HO}(h:b≠a):upd H a o b=H b:=by unfold upd;rw[if_neg h]
def uJ {H:Hp}{a:Addr}{o u:HO}:upd (upd H a o) a u=upd H a u:=by
 funext b;unfold upd;split <;> rfl
def Ti {H:Hp}{a b:Addr}{o u:HO}(h:H a=some o)(h':H b=some u)(d:o≠u):a≠b:=by
 intro e;subst e;rw[h] at h';exact d (Wo h')
def cZ {H:Hp}{a b:Addr}{o:HO}(h:H a=some o)(h':H b=none):a≠b:=by
 intro e;subst e;rw[h] at h';cases h'
section
variable (P:V4)(w:Wn)
def dU (H:Hp)(h:WD)(a:Addr):HO->Prop
 | .lst xs=>xs.length<=sizeLine/\∃ (its:DV) (n:Nat),Vals xs its/\h.get? a=some { cls:=.type "list",data:=.seq its.toArray n }
 | .tup xs=>xs.length<=sizeLine/\∃ its:DV,Vals xs its/\IsTup h a its.toArray
 | .dK kvs=>kvs.length<=sizeLine/\(a == Zh)=false/\∃ vs,KV kvs vs/\h.DictOf (dI P w) a vs
 | .dT kvs=>kvs.length<=sizeLine/\(a == Zh)=false/\∃ xs:List (List Key × Addr × Value),
   Paired (fun (p:List Key × V) (q:List Key × Addr × Value)=>p.1=q.1/\H q.2.1=some (.tup (p.1.map kV))/\RelV p.2 q.2.2) kvs xs ∧
   ∃ o es ep,h.get? a=some o/\o.ExactDict/\o.data = .dict es ep/\es.toList=xs.map (entryOfKey (ab7 (dI P w)))/\(xs.map (·.1)).Nodup
 | .set S n=>h.SetOf (Zy P w) a S n
 | .ins C dx fs=>H dx=some (.own a)/\fs.length<=1000/\dx≠a/\h.get? a=some (Yx C dx) ∧
   ∃ mA,h.Ns1 dx mA/\(∀ f,t7 (fs.lookup f) (mA f))/\PySem.Within mA (fs.map (·.1))
 | .own _=>∃ o,h.get? a=some o
 | .xd fs=>∃ mA,h.Ns1 a mA/\∀ f,t7 (fs.lookup f) (mA f)
 | .rng lo hi=>∃ t u v,h.get? a=some { cls:=.type "range",data:=.fields #[.int lo t,.int hi u,.int 1 v] }
 | .frz o u=>h.get? a=some o/\dU H h a u
 | .tbl ps=>h.get? a=some { cls:=.none,data:=.fields ps }
 | .met f x=>h.get? a=some (abX (.ref f) (.ref x))
 | .ext φ=>φ h/\(∃ o,h.get? a=some o)/\∀ h1 h2:WD,φ h1->(∀ o,h1.get? a=some o->h2.get? a=some o)->φ h2
def HOk (H:Hp)(h:WD):Prop:=∀ a o,H a=some o->dU P w H h a o
end
section
variable {P:V4}{w:Wn}{H H':Hp}{h h':WD}{a:Addr}{o:HO}
def dU.lt (x:dU P w H h a o):a < h.objs.size:=by
 cases o with
 | lst xs=>obtain⟨_,_,_,_,e⟩:=x;exact VL e
 | tup xs=>obtain⟨_,_,_,p⟩:=x;exact p.lt
 | dK kvs=>obtain⟨_,_,_,_,o,_,_,e,_⟩:=x;exact VL e
 | dT kvs=>obtain⟨_,_,_,_,o,_,_,e,_⟩:=x;exact VL e
 | set S n=>obtain⟨o,_,_,_,e,_⟩:=x;exact VL e
 | ins C dx fs=>obtain⟨_,_,_,e,_⟩:=x;exact VL e
 | own y=>obtain⟨_,e⟩:=x;exact VL e
 | xd fs=>obtain⟨_,⟨_,_,_,e,_⟩,_⟩:=x;exact VL e
 | rng lo hi=>obtain⟨_,_,_,e⟩:=x;exact VL e
 | frz ob u=>obtain⟨e,_⟩:=x;exact VL e
 | tbl ps=>exact VL (show h.get? a=some _ from x)
 | met f y=>exact VL (show h.get? a=some _ from x)
 | ext φ=>obtain⟨_,⟨_,e⟩,_⟩:=x;exact VL e
theorem Paired.Ue {α β:Type}{F G:α->β->Prop}:∀ {l₁:List α} {l₂:List β},Paired F l₁ l₂->(∀ a b,F a b->G a b)->Paired G l₁ l₂
 | _,_,.nil,_=>.nil
 | _,_,.cons r t,f=>.cons (f _ _ r) (Paired.Ue t f)
def dU.stay (x:dU P w H h a o)(k:∀ b u,(b=a∨H b=some (.own a))->h.get? b=some u->h'.get? b=some u)
  (ho:∀ b,H b=some (.own a)->H' b=some (.own a)) (ht:∀ b xs,H b=some (.tup xs)->H' b=some (.tup xs)):dU P w H' h' a o:=by
 induction o with
 | lst xs=>obtain⟨z,its,n,r,e⟩:=x;exact⟨z,its,n,r,k _ _ (.inl U) e⟩
 | tup xs=>obtain⟨z,its,r,ob,e,c⟩:=x;exact⟨z,its,r,ob,k _ _ (.inl U) e,c⟩
 | dK kvs=>obtain⟨z,y,vs,r,ob,es,ep,e,c⟩:=x;exact⟨z,y,vs,r,ob,es,ep,k _ _ (.inl U) e,c⟩
 | dT kvs =>
  obtain⟨z,y,xs,r,ob,es,ep,e,c⟩:=x
  exact⟨z,y,xs,Paired.Ue r fun p q z=>⟨z.1,ht _ _ z.2.1,z.2.2⟩,ob,es,ep,k _ _ (.inl U) e,c⟩
 | set S n=>obtain⟨ob,es,ep,t,e,c⟩:=x;exact⟨ob,es,ep,t,k _ _ (.inl U) e,c⟩
 | ins C dx fs =>
  obtain⟨d,z,ne,e,mA,⟨od,es,ep,e2,c⟩,r⟩:=x
  exact⟨ho _ d,z,ne,k _ _ (.inl U) e,mA,⟨od,es,ep,k _ _ (.inr d) e2,c⟩,r⟩
 | own y=>obtain⟨ob,e⟩:=x;exact⟨ob,k _ _ (.inl U) e⟩
 | xd fs=>obtain⟨mA,⟨od,es,ep,e,c⟩,r⟩:=x;exact⟨mA,⟨od,es,ep,k _ _ (.inl U) e,c⟩,r⟩
 | rng lo hi=>obtain⟨t,u,v,e⟩:=x;exact⟨t,u,v,k _ _ (.inl U) e⟩
 | frz ob u ih=>obtain⟨e,q⟩:=x;exact⟨k _ _ (.inl U) e,ih q⟩
 | tbl ps =>
  have e:h.get? a=some { cls:=.none,data:=.fields ps }:=x
  show h'.get? a=some { cls:=.none,data:=.fields ps }
  exact k a _ (.inl U) e
 | met f y =>
  have e:h.get? a=some (abX (.ref f) (.ref y)):=x
  show h'.get? a=some (abX (.ref f) (.ref y))
  exact k a _ (.inl U) e
 | ext φ=>obtain⟨p,⟨o,e⟩,st⟩:=x;exact⟨st _ _ p fun o q=>k _ _ (.inl U) q,⟨o,k _ _ (.inl U) e⟩,st⟩
def HOk.lt (x:HOk P w H h)(e:H a=some o):a < h.objs.size:=(x a o e).lt
def HOk.fresh (x:HOk P w H h)(e:h.objs.size<=a):H a=none:=by
 cases q:H a with
 | none=>rfl
 | some u=>exact absurd (Vx (x.lt q) e) (WK _)
def HOk.kept (x:HOk P w H h)(k:∀ b u,h.get? b=some u->h'.get? b=some u):HOk P w H h':=fun a o e =>
 (x a o e).stay (fun b u _ q=>k b u q) (fun _ q=>q) fun _ _ q=>q
def HOk.laid (x:HOk P w H h)(k:∀ b u,h.get? b=some u->h'.get? b=some u)(hp:h.objs.size<=a)(new:dU P w (upd H a o) h' a o):HOk P w (upd H a o) h':=fun b u e=>by
 have hn:=x.fresh hp
 by_cases hb:b=a
 ·subst hb;rw[aj] at e;cases e;exact new
 ·rw[aM hb] at e
  exact (x b u e).stay (fun c v _ q=>k c v q) (fun c q=>by rw[aM (cZ q hn)];exact q) fun c xs q=>by rw[aM (cZ q hn)];exact q
end
def Rd (H:Hp)(a:Addr)(u:HO):Prop:=H a=some u∨∃ o,H a=some (.frz o u)
def Rd.ok {P:V4}{w:Wn}{H:Hp}{h:WD}{a:Addr}{u:HO}(r:Rd H a u)(x:HOk P w H h):dU P w H h a u:=by
 rcases r with r | ⟨o,r⟩
 ·exact x a u r
 ·obtain⟨_,q⟩:=x a _ r
  exact q
def Mut:Option HO->Prop
 | some (.lst _)=>True
 | some (.dK _)=>True
 | some (.dT _)=>True
 | some (.set _ _)=>True
 | some (.ins _ _ _)=>True
 | some (.ext _)=>True
 | _=>False
section
variable {P:V4}{w:Wn}{H:Hp}{h h':WD}{x e:Addr}{o':HO}
def HOk.write (ok:HOk P w H h)(mu:Mut (H x))(he:e=x∨H e=some (.own x))(k:∀ b u,b≠e->h.get? b=some u->h'.get? b=some u)(heo:∃ u,h'.get? e=some u)
  (new:dU P w (upd H x o') h' x o'):HOk P w (upd H x o') h':=fun b u q=>by
 have nown:∀ c y,H c=some (.own y)->c≠x:=fun c y r z=>by subst z;rw[r] at mu;exact mu
 have ntup:∀ c xs,H c=some (.tup xs)->c≠x:=fun c xs r z=>by subst z;rw[r] at mu;exact mu
 by_cases hb:b=x
 ·subst hb;rw[aj] at q;cases q;exact new
 ·rw[aM hb] at q
  by_cases hbe:b=e
  ·have q':H b=some (.own x):=by
    rcases he with z | z
    ·exact absurd (hbe.trans z) hb
    ·rw[hbe];exact z
   rw[q] at q';cases q'
   obtain⟨v,hv⟩:=heo
   exact⟨v,by rw[hbe];exact hv⟩
  ·refine (ok b u q).stay (fun c v hc r=>k c v ?_ r) (fun c r=>by rw[aM (nown c b r)];exact r) fun c xs r=>by rw[aM (ntup c xs r)];exact r
   rcases hc with rfl | hc
   ·exact hbe
   ·rintro rfl
    rcases he with z | z
    ·exact nown c b hc z
    ·rw[hc] at z;cases z;exact hb U
end
structure Un (fs ex:D0)(H H':Hp)(h h':WD):Prop where
 keep:∀ b o,h.get? b=some o->H b=none->b ∉ fs->b ∉ ex->h'.get? b=some o
 slot:∀ b o,h.get? b=some o->H b=none->b∈fs->b ∉ ex->∃ sl,h'.get? b=some { o with slots:=sl }
 free:∀ b o,h.get? b=some o->H b=none->b ∉ ex->H' b=none
 there:∀ b o,h.get? b=some o->b ∉ ex->∃ o',h'.get? b=some o'
 tups:∀ b xs,H b=some (.tup xs)->H' b=some (.tup xs)
 frzs:∀ b o u,H b=some (.frz o u)->H' b=some (.frz o u)
 tbls:∀ b ps,H b=some (.tbl ps)->∃ more,H' b=some (.tbl (ps++more))
section
variable {fs fs' ex ex':D0}{H H1 H2:Hp}{h h1 h2 h':WD}{a x e:Addr}{o:HO}
def Un.any (u:Un fs ex H H1 h h1){b:Addr}{ob:X8}(q:h.get? b=some ob)(n:H b=none)(hx:b ∉ ex):∃ sl,h1.get? b=some { ob with slots:=sl }:=by
 by_cases hb:b∈fs
 ·exact u.slot b ob q n hb hx
 ·exact⟨ob.slots,u.keep b ob q n hb hx⟩
def Un.trans (a:Un fs ex H H1 h h1)(b:Un fs ex H1 H2 h1 h2):Un fs ex H H2 h h2 where
 keep:=fun c ob q n hc hx=>b.keep c ob (a.keep c ob q n hc hx) (a.free c ob q n hx) hc hx
 slot:=fun c ob q n hc hx=>by
  obtain⟨sl,e1⟩:=a.slot c ob q n hc hx
  obtain⟨sl',e2⟩:=b.slot c _ e1 (a.free c ob q n hx) hc hx
  exact⟨sl',e2⟩
 free:=fun c ob q n hx=>by
  obtain⟨o',e1⟩:=a.there c ob q hx
  exact b.free c o' e1 (a.free c ob q n hx) hx
 there:=fun c ob q hx=>by
  obtain⟨o',e1⟩:=a.there c ob q hx
  exact b.there c o' e1 hx
 tups:=fun c xs q=>b.tups c xs (a.tups c xs q)
 frzs:=fun c ob xs q=>b.frzs c ob xs (a.frzs c ob xs q)
 tbls:=fun c ps q=>by
  obtain⟨m1,e1⟩:=a.tbls c ps q
  obtain⟨m2,e2⟩:=b.tbls c _ e1
  exact⟨m1++m2,by rw[e2,aaH]⟩
def Un.kept (k:∀ b u,h.get? b=some u->h'.get? b=some u):Un fs ex H H h h' :=
 ⟨fun b ob q _ _ _=>k b ob q,fun b ob q _ _ _=>⟨ob.slots,k b ob q⟩,fun _ _ _ n _=>n,fun b ob q _=>⟨ob,k b ob q⟩,fun _ _ q=>q,fun _ _ _ q=>q,fun _ ps q=>⟨#[],by rw[q];simp⟩⟩
def Un.refl:Un fs ex H H h h:=Un.kept fun _ _ q=>q
def Un.laid (k:∀ b u,h.get? b=some u->h'.get? b=some u)(hp:h.objs.size<=a)(hn:H a=none):Un fs ex H (upd H a o) h h' where
 keep:=fun b u q _ _ _=>k b u q
 slot:=fun b u q _ _ _=>⟨u.slots,k b u q⟩
 free:=fun b u q n _=>by rw[aM (V5 (Vx (VL q) hp))];exact n
 there:=fun b u q _=>⟨u,k b u q⟩
 tups:=fun b xs q=>by rw[aM (cZ q hn)];exact q
 frzs:=fun b u xs q=>by rw[aM (cZ q hn)];exact q
 tbls:=fun b ps q=>⟨#[],by rw[aM (cZ q hn),q];simp⟩
def Un.write (mu:Mut (H x))(he:e=x∨H e=some (.own x))(k:∀ b u,b≠e->h.get? b=some u->h'.get? b=some u)(heo:∃ u,h'.get? e=some u):Un fs ex H (upd H x o) h h':=by
 have hx:∀ b,H b=none->b≠x:=fun b n z=>by subst z;rw[n] at mu;exact mu
 have hb:∀ b,H b=none->b≠e:=fun b n z=>by
  subst z
  rcases he with r | r
  ·exact hx b n r
  ·rw[n] at r;cases r
 have hm:∀ b u,H b=some u->¬ Mut (some u)->b≠x:=fun b u q nm z=>by subst z;rw[q] at mu;exact nm mu
 refine⟨fun b u q n _ _=>k b u (hb b n) q,fun b u q n _ _=>⟨u.slots,k b u (hb b n) q⟩,fun b u q n _=>by rw[aM (hx b n)];exact n,fun b u q _=>?_,
  fun b xs q=>by rw[aM (hm b _ q fun z=>z)];exact q,fun b u xs q=>by rw[aM (hm b _ q fun z=>z)];exact q,fun b ps q=>⟨#[],by rw[aM (hm b _ q fun z=>z),q];simp⟩⟩
 by_cases hbe:b=e
 ·subst hbe;exact heo
 ·exact⟨u,k b u hbe q⟩
end
def trk (h:WD)(H:Hp):D0:=(Xb h.objs.size).filter fun a=>(H a).isSome
def Kw (h:WD)(H:Hp):WD:=acw h (trk h H)
def Im (h:WD)(H:Hp):(Kw h H).objs.size=h.objs.size:=PySem.W.hideAll_size _ _
def JW {h:WD}{H:Hp}{b:Addr}{o:X8}(e:h.get? b=some o)(n:H b=none):(Kw h H).get? b=some o :=
 PySem.W.hideAll_get _ e fun hm=>by
  have q:(H b).isSome=true:=(List.mem_filter.mp hm).2
  rw[n] at q;simp at q
def PL {h:WD}{H:Hp}{b:Addr}{o:X8}(e:(Kw h H).get? b=some o):h.get? b=some o/\H b=none:=by
 have e':h.get? b=some o:=PySem.W.of_hideAll (trk h H) e
 refine⟨e',?_⟩
 cases q:H b with
 | none=>rfl
 | some x =>
  have hm:b∈trk h H:=List.mem_filter.mpr ⟨List.mem_range.mpr (VL e'),by simp [q]⟩
  have z:(Kw h H).get? b=none:=PySem.W.hideAll_none (trk h H) hm
  rw[z] at e;cases e
def OD (g h:WD)(L:Addr):DI:=(Xb h.objs.size).filterMap fun a=>if a=L∨(g.get? a).isSome=true then none else (h.get? a).map fun o=>(a,o)
def rest (g h:WD)(L d:Addr):DI:=(OD g h L).filter fun p=>decide (p.1≠d)
structure Mod (K:VB)(mg:Wb->DO)(base:WD):Prop where
 kin:K.In base
 glob:base.Ns V6 mg
 blt:∃ mb,base.Ns builtinsNs mb/\∀ x:Wb,x≠"__name__"->mb x=Wy x
 nolimit:base.NoLimit
structure Cx where
 prog:V4
 w:Wn
 K:VB
 mg:Wb->DO
 base:WD
 A:Wm
 N:D9
 s₀:Vt
 H₀:Hp
 env:Env
 outer:D4
 stack:D4
 ex:D0
 fn:Wb->Bool
 calm:Bool
 pn:DI
 xe:DM
def frs (l:D4):D0:=l.filterMap (·.frame)
abbrev Cx.fs (X:Cx):D0:=frs X.outer
def Vis (sc:Yg)(x:Wb):Prop:=sc.names.lookup x=some .local∨sc.names.lookup x=some .cell∨sc.names.lookup x=some .free
def Loc (sc:Yg)(x:Wb):Prop:=sc.names.lookup x=some .local∨sc.names.lookup x=some .cell
def Look (env:Env)(h:WD)(m:Wb->DO)(x:Wb)(u:Value):Prop :=
 (env.kindOf x=some .local/\m x=some u)∨((env.kindOf x=some .cell∨env.kindOf x=some .free)/\∃ c,env.cells.lookup x=some c/\h.IsCell c (some u))
structure Cx.Ok (X:Cx):Prop where
 mod:Mod X.K X.mg X.base
 kind:X.env.scope.kind = .function
 glob:X.env.globals=V6
 blt:X.env.builtins=builtinsNs
 above:X.s₀.heap.objs.size<=X.env.locals
 inj:∀ x y c,X.env.cells.lookup x=some c->X.env.cells.lookup y=some c->x=y
 has:∀ x,(X.env.kindOf x=some .cell∨X.env.kindOf x=some .free)->∃ c,X.env.cells.lookup x=some c
 cab:∀ x c,X.fn x=true->X.env.cells.lookup x=some c->X.s₀.heap.objs.size<=c
 hd:X.calm=true->X.A.handled=none
 frames:X.A.frames=some X.stack
 stk:X.stack=X.outer∨(X.stack=X.env::X.outer/\X.env.frame=some X.env.locals)
 exf:∀ b∈X.ex,b≠X.env.locals/\∀ x c,X.env.cells.lookup x=some c->c≠b
 bs:∀ b o,X.base.get? b=some o->X.s₀.heap.get? b=some o/\X.H₀ b=none
 bsz:X.base.objs.size<=X.s₀.heap.objs.size
 noex:∀ b o,X.base.get? b=some o->b ∉ X.ex
 exfs:∀ b∈X.ex,b ∉ X.fs
 um:X.s₀.heap.FunFrames X.base X.outer
 frf:∀ b∈X.fs,X.H₀ b=none
structure Inv (X:Cx)(ZY:DI)(σ:List (Option V))(H:Hp)(s:Vt):Prop where
 ok:X.Ok
 os:s.os=X.s₀.os
 bare:aaO s.gens
 base:Un X.fs X.ex X.H₀ H X.s₀.heap s.heap
 loc:∃ m,s.heap.Ns X.env.locals m/\∀ (i:Nat) (x:Wb) (v:V),X.N[i]? = some x->σ[i]? = some (some v)->Vis X.env.scope x->∃ u,RelV v u/\Look X.env s.heap m x u
 cell:∀ x c,X.env.cells.lookup x=some c->∃ v,s.heap.IsCell c v
 free:H X.env.locals=none
 freeC:∀ x c,X.env.cells.lookup x=some c->H c=none
 pin:∀ p∈X.pn++ZY,s.heap.get? p.1=some p.2/\H p.1=none/\p.1≠X.env.locals/\p.1 ∉ X.fs/\∀ v,p.2.data≠.cell v
 hok:HOk X.prog X.w H s.heap
 len:σ.length=X.N.length
section
variable {X:Cx}{ZY:DI}{σ:List (Option V)}{H H':Hp}{s:Vt}{h':WD}
def Cx.Ok.U7 (ok:X.Ok){b:Addr}{o:X8}(e:X.base.get? b=some o):b ∉ X.fs:=fun hb=>by
 have:=(ok.um.mem hb).1
 rw[e] at this;cases this
def Inv.bs (I:Inv X ZY σ H s):∀ b o,X.base.get? b=some o->s.heap.get? b=some o/\H b=none:=fun b o e =>
 ⟨I.base.keep b o (I.ok.bs b o e).1 (I.ok.bs b o e).2 (I.ok.U7 e) (I.ok.noex b o e),I.base.free b o (I.ok.bs b o e).1 (I.ok.bs b o e).2 (I.ok.noex b o e)⟩
def Inv.bk (I:Inv X ZY σ H s):∀ b o,X.base.get? b=some o->s.heap.get? b=some o:=fun b o e=>(I.bs b o e).1
def Inv.mod (I:Inv X ZY σ H s):Mod X.K X.mg X.base:=I.ok.mod
def Inv.kIn (I:Inv X ZY σ H s):X.K.In s.heap:=I.ok.mod.kin.keeps I.bk
def Inv.fr (I:Inv X ZY σ H s):∃ m,Fr X.base X.env.locals s.heap m :=
 let ⟨m,hn,_⟩:=I.loc
 ⟨m,hn,I.bk,Wf I.ok.bsz I.ok.above⟩
def Inv.lt (I:Inv X ZY σ H s):X.env.locals < s.heap.objs.size:=let ⟨_,hn,_⟩:=I.loc;hn.lt
def Inv.sz (I:Inv X ZY σ H s):X.s₀.heap.objs.size<=s.heap.objs.size:=Wf I.ok.above (Xz I.lt)
def Inv.Vb (I:Inv X ZY σ H s){a:Addr}(h:s.heap.objs.size<=a):a ∉ X.fs:=fun hb=>by
 obtain⟨_,o,ho,_⟩:=I.ok.um.mem hb
 exact absurd (Vx (VL ho) (Wf I.sz h)) (WK _)
def Inv.cne (I:Inv X ZY σ H s):∀ x c,X.env.cells.lookup x=some c->c≠X.env.locals:=fun x c e z=>by
 obtain⟨v,o,ho,hd⟩:=I.cell x c e
 obtain⟨m,⟨o',es,ep,ho',hd',_⟩,_⟩:=I.loc
 rw[z,ho'] at ho;cases ho;rw[hd'] at hd;cases hd
def Inv.um (I:Inv X ZY σ H s):s.heap.FunFrames X.base X.outer:=by
 have all:∀ (l:D4),(∀ b∈frs l,b∈X.fs)->X.s₀.heap.FunFrames X.base l->s.heap.FunFrames X.base l:=by
  intro l
  induction l with
  | nil=>intro _ _;trivial
  | cons env r ih =>
   intro hs hl
   obtain⟨hk,⟨L,o,hf,hn,ho,hd⟩,hr⟩:=hl
   have hL:L∈X.fs:=hs L (by unfold frs;rw[Yk,hf];exact VP)
   obtain⟨sl,e⟩:=I.base.slot L o ho (I.ok.frf L hL) hL fun z=>I.ok.exfs L z hL
   exact⟨hk,⟨L,_,hf,hn,e,hd⟩,ih (fun b hb=>hs b (by unfold frs;rw[Yk,hf];exact VR _ hb)) hr⟩
 exact all X.outer (fun _ hb=>hb) I.ok.um
def Inv.stack (I:Inv X ZY σ H s):s.heap.FunFrames X.base X.stack:=by
 rcases I.ok.stk with e | ⟨e,hf⟩
 ·rw[e];exact I.um
 ·rw[e]
  obtain⟨m,hn,_⟩:=I.loc
  refine .cons (by rw[I.ok.kind];decide) hf hn ?_ I.um
  exact Heap.get?_none_of_le (Wf I.ok.bsz I.ok.above)
def Inv.tM (I:Inv X ZY σ H s):∀ b∈frs X.stack,b∈X.env.locals::X.fs:=fun b hb=>by
 rcases I.ok.stk with e | ⟨e,hf⟩
 ·rw[e] at hb;exact VR _ hb
 ·rw[e] at hb
  unfold frs at hb
  rw[Yk,hf] at hb
  exact hb
def Inv.Ah (I:Inv X ZY σ H s):∀ b∈frs X.stack,H b=none:=fun b hb=>by
 rcases List.mem_cons.mp (I.tM b hb) with e | hb
 ·rw[e];exact I.free
 ·obtain⟨_,o,ho,_⟩:=I.ok.um.mem hb
  exact I.base.free b o ho (I.ok.frf b hb) fun z=>I.ok.exfs b z hb
def Inv.step {g':Array ab4}{t':Nat}{d':Drawn}{ch:D0}(I:Inv X ZY σ H s)
  (hch:∀ b∈ch,(b∈X.ex∨X.s₀.heap.objs.size<=b)/\b≠X.env.locals/\(∀ x c,X.env.cells.lookup x=some c->c≠b)/\∀ p∈X.pn++ZY,p.1≠b)
  (keep:∀ b o,b≠X.env.locals->b ∉ X.fs->b ∉ ch->s.heap.get? b=some o->H b=none->h'.get? b=some o)
  (slot:∀ b o,b≠X.env.locals->b∈X.fs->b ∉ ch->s.heap.get? b=some o->H b=none->∃ sl,h'.get? b=some { o with slots:=sl }) (free:∀ b o,b ∉ ch->s.heap.get? b=some o->H b=none->H' b=none)
  (there:∀ b o,b ∉ ch->s.heap.get? b=some o->∃ o',h'.get? b=some o')
  (tups:∀ b xs,H b=some (.tup xs)->H' b=some (.tup xs)) (frzs:∀ b o u,H b=some (.frz o u)->H' b=some (.frz o u)) (tbls:∀ b ps,H b=some (.tbl ps)->∃ more,H' b=some (.tbl (ps++more)))
  (ns:∀ m,s.heap.Ns X.env.locals m->h'.Ns X.env.locals m) (hok:HOk X.prog X.w H' h') (hg:aaO g') :
  Inv X ZY σ H' { s with heap:=h',gens:=g',drawn:=d',toks:=t' }:=by
 have neL:∀ b o,X.s₀.heap.get? b=some o->b≠X.env.locals:=fun b o e=>V5 (Vx (VL e) I.ok.above)
 have neC:∀ b o,X.s₀.heap.get? b=some o->b ∉ X.ex->b ∉ ch:=fun b o e hx hb=>by
  rcases (hch b hb).1 with z | z
  ·exact hx z
  ·exact absurd (Vx (VL e) z) (WK _)
 have cellK:∀ x c,X.env.cells.lookup x=some c->∀ v,s.heap.IsCell c v->h'.IsCell c v:=fun x c e v ⟨o,ho,hd⟩=>by
  have nch:c ∉ ch:=fun z=>(hch c z).2.2.1 x c e U
  by_cases hc:c∈X.fs
  ·obtain⟨sl,q⟩:=slot c o (I.cne x c e) hc nch ho (I.freeC x c e)
   exact⟨_,q,hd⟩
  ·exact⟨o,keep c o (I.cne x c e) hc nch ho (I.freeC x c e),hd⟩
 refine⟨I.ok,I.os,hg,⟨fun b o e n hb hx=>?_,fun b o e n hb hx=>?_,fun b o e n hx=>?_,fun b o e hx=>?_,fun b xs e=>tups b xs (I.base.tups b xs e),fun b o xs e=>frzs b o xs (I.base.frzs b o xs e),fun b ps e=>?_⟩,?_,fun x c e=>?_,?_,fun x c e=>?_,fun p hp=>?_,hok,I.len⟩
 ·exact keep b o (neL b o e) hb (neC b o e hx) (I.base.keep b o e n hb hx) (I.base.free b o e n hx)
 ·obtain⟨sl,e1⟩:=I.base.slot b o e n hb hx
  obtain⟨sl',e2⟩:=slot b _ (neL b o e) hb (neC b o e hx) e1 (I.base.free b o e n hx)
  exact⟨sl',e2⟩
 ·obtain⟨o',e1⟩:=I.base.there b o e hx
  exact free b o' (neC b o e hx) e1 (I.base.free b o e n hx)
 ·obtain⟨o',e1⟩:=I.base.there b o e hx
  exact there b o' (neC b o e hx) e1
 ·obtain⟨m1,e1⟩:=I.base.tbls b ps e
  obtain⟨m2,e2⟩:=tbls b _ e1
  exact⟨m1++m2,by rw[e2,aaH]⟩
 ·obtain⟨m,hn,hl⟩:=I.loc
  refine⟨m,ns m hn,fun i x v e1 e2 e3=>?_⟩
  obtain⟨u,r,l⟩:=hl i x v e1 e2 e3
  refine⟨u,r,?_⟩
  rcases l with l | ⟨k,c,e,z⟩
  ·exact .inl l
  ·exact .inr ⟨k,c,e,cellK x c e _ z⟩
 ·obtain⟨v,z⟩:=I.cell x c e
  exact⟨v,cellK x c e v z⟩
 ·obtain⟨m,⟨o,_,_,ho,_⟩,_⟩:=I.loc
  exact free _ o (fun z=>(hch _ z).2.1 U) ho I.free
 ·obtain⟨v,o,ho,hd⟩:=I.cell x c e
  exact free c o (fun z=>(hch c z).2.2.1 x c e U) ho (I.freeC x c e)
 ·obtain⟨e,n,ne,nf,d⟩:=I.pin p hp
  have nch:p.1 ∉ ch:=fun z=>(hch p.1 z).2.2.2 p hp U
  exact⟨keep p.1 p.2 ne nf nch e n,free p.1 p.2 nch e n,ne,nf,d⟩
def Inv.un {t':Nat}(I:Inv X ZY σ H s)(u:Un X.fs [] H H' s.heap h')(hok:HOk X.prog X.w H' h'):Inv X ZY σ H' { s with heap:=h',toks:=t' }:=by
 obtain⟨m,⟨o,es,ep,ho,r⟩,_⟩:=id I.loc
 obtain⟨sl,hL⟩:=u.any ho I.free (by simp)
 exact I.step (g':=s.gens) (d':=s.drawn) (ch:=[]) (fun _ z=>nomatch z) (fun b o _ hb _ e n=>u.keep b o e n hb (by simp)) (fun b o _ hb _ e n=>u.slot b o e n hb (by simp)) (fun b o _ e n=>u.free b o e n (by simp)) (fun b o _ e=>u.there b o e (by simp)) u.tups u.frzs u.tbls (fun m' hm=>by
  obtain⟨o',es',ep',ho',r'⟩:=hm
  rw[ho] at ho';cases ho'
  exact⟨_,es',ep',hL,r'⟩) hok I.bare
def Inv.call {g':Array ab4}{t':Nat}{d':Drawn}{ch:D0}(I:Inv X ZY σ H s)(u:Un (frs X.stack) ch H H' s.heap h')(hok:HOk X.prog X.w H' h')(hg:aaO g')
  (hch:∀ b∈ch,(b∈X.ex∨X.s₀.heap.objs.size<=b)/\b≠X.env.locals/\(∀ x c,X.env.cells.lookup x=some c->c≠b)/\∀ p∈X.pn++ZY,p.1≠b) :
  Inv X ZY σ H' { s with heap:=h',gens:=g',drawn:=d',toks:=t' }:=by
 obtain⟨m,⟨o,es,ep,ho,r⟩,_⟩:=id I.loc
 obtain⟨sl,hL⟩:=u.any ho I.free fun z=>(hch _ z).2.1 U
 exact I.step (ch:=ch) hch (fun b o hL hb hc e n=>u.keep b o e n (fun z=>(List.mem_cons.mp (I.tM b z)).elim hL hb) hc) (fun b o _ _ hc e n=>u.any e n hc) (fun b o hc e n=>u.free b o e n hc) (fun b o hc e=>u.there b o e hc) u.tups u.frzs u.tbls (fun m' hm=>by
  obtain⟨o',es',ep',ho',r'⟩:=hm
  rw[ho] at ho';cases ho'
  exact⟨_,es',ep',hL,r'⟩) hok hg
def Inv.turned {t':Nat}{it:Addr}(I:Inv X ZY σ H s)(k:∀ b o,b≠it->s.heap.get? b=some o->h'.get? b=some o)(hn:H it=none)(hL:it≠X.env.locals)
  (h1:it∈X.ex∨X.s₀.heap.objs.size<=it) (h2:∀ x c,X.env.cells.lookup x=some c->c≠it) (h3:∀ p∈X.pn++ZY,p.1≠it):Inv X ZY σ H { s with heap:=h',toks:=t' }:=by
 have nit:∀ b u,H b=some u->b≠it:=fun b u e z=>by rw[z,hn] at e;cases e
 refine I.step (g':=s.gens) (d':=s.drawn) (ch:=[it]) (fun b hb=>?_) (fun b o _ _ hc e _=>k b o (fun z=>hc (by simp [z])) e) (fun b o _ _ hc e _=>⟨o.slots,k b o (fun z=>hc (by simp [z])) e⟩) (fun _ _ _ _ n=>n)
  (fun b o hc e=>⟨o,k b o (fun z=>hc (by simp [z])) e⟩) (fun _ _ e=>e) (fun _ _ _ e=>e) (fun b ps e=>⟨#[],by rw[e];simp⟩) (fun m hm=>?_) (fun b u e=>?_) I.bare
 ·have e:b=it:=by simpa using hb
  subst e
  exact⟨h1,hL,h2,h3⟩
 ·obtain⟨o,es,ep,ho,r⟩:=hm
  exact⟨o,es,ep,k _ o (Xl hL) ho,r⟩
 ·refine (I.hok b u e).stay (fun c v hc q=>k c v ?_ q) (fun _ q=>q) fun _ _ q=>q
  rcases hc with z | z
  ·rw[z];exact nit b u e
  ·exact nit c _ z
def Inv.tok (I:Inv X ZY σ H s)(t:Nat):Inv X ZY σ H { s with toks:=t }:=I.un (h':=s.heap) (t':=t) Un.refl I.hok
def Inv.kept {t':Nat}(I:Inv X ZY σ H s)(k:∀ b u,s.heap.get? b=some u->h'.get? b=some u):Inv X ZY σ H { s with heap:=h',toks:=t' }:=I.un (Un.kept k) (I.hok.kept k)
def Inv.laid {a:Addr}{o:HO}{t':Nat}(I:Inv X ZY σ H s)(k:∀ b u,s.heap.get? b=some u->h'.get? b=some u)(hp:s.heap.objs.size<=a)(new:dU X.prog X.w (upd H a o) h' a o) :
  Inv X ZY σ (upd H a o) { s with heap:=h',toks:=t' }:=I.un (Un.laid k hp (I.hok.fresh hp)) (I.hok.laid k hp new)
def Inv.write {x e:Addr}{o:HO}{t':Nat}(I:Inv X ZY σ H s)(mu:Mut (H x))(he:e=x∨H e=some (.own x))(k:∀ b u,b≠e->s.heap.get? b=some u->h'.get? b=some u)(heo:∃ u,h'.get? e=some u)
  (new:dU X.prog X.w (upd H x o) h' x o):Inv X ZY σ (upd H x o) { s with heap:=h',toks:=t' }:=I.un (Un.write mu he k heo) (I.hok.write mu he k heo new)
def Inv.FZ {ZY':DI}(I:Inv X ZY σ H s)(h:∀ p∈ZY',s.heap.get? p.1=some p.2/\H p.1=none/\p.1≠X.env.locals/\p.1 ∉ X.fs/\∀ v,p.2.data≠.cell v):Inv X ZY' σ H s :=
 ⟨I.ok,I.os,I.bare,I.base,I.loc,I.cell,I.free,I.freeC,fun p hp=>(List.mem_append.mp hp).elim (fun z=>I.pin p (aai _ z)) (h p),I.hok,I.len⟩
def CJ {N:D9}(hN:N.Nodup){i j:Nat}{x:Wb}(a:N[i]? = some x)(b:N[j]? = some x):i=j:=by
 obtain⟨h1,e1⟩:=List.getElem?_eq_some_iff.mp a
 obtain⟨h2,e2⟩:=List.getElem?_eq_some_iff.mp b
 exact (acg hN).mp (e1.trans e2.symm)
def yH {M:Model}{A:Wm}{E:DM}{i:Nat}{x:Wb}{v:V}{u:Value}{Q:Unit->Vt->Prop}(I:Inv X ZY σ H s)(hN:X.N.Nodup)(hi:X.N[i]? = some x)(hx:Loc X.env.scope x)(r:RelV v u)
  (h:∀ s',Inv X ZY (σ.set i (some v)) H s'->(∃ a,YX a s.heap s'.heap/\(a=X.env.locals∨X.env.cells.lookup x=some a))->Q () s') (hf:X.fn x=true∨X.env.scope.names.lookup x=some .local:=by first | exact .inl rfl | exact .inr rfl | assumption):VG M A (storeName X.env x u) Q E s:=by
 obtain⟨m,hn,hl⟩:=id I.loc
 have hcls:(X.env.scope.kind == .class || (X.env.scope.kind == .module && X.env.locals != X.env.globals))=false:=by rw[I.ok.kind];rfl
 have hiσ:i < σ.length:=by rw[I.len];exact (List.getElem?_eq_some_iff.mp hi).1
 have cne:=I.cne
 have tracked:∀ {a:Addr} {h':WD},(∃ o,s.heap.get? a=some o/\H a=none)->YX a s.heap h'->HOk X.prog X.w H h':=fun {a h'} ha hs b ob e=>by
  obtain⟨_,_,hfree⟩:=ha
  refine (I.hok b ob e).stay (fun c w' hc q=>(hs.2 c ?_).trans q) (fun _ q=>q) fun _ _ q=>q
  rintro rfl
  rcases hc with rfl | hc
  ·rw[hfree] at e;cases e
  ·rw[hfree] at hc;cases hc
 rcases hx with hk | hk
 ·refine wpAny_storeName_local hk hn (fun h' hn' hs=>?_) hcls
  obtain⟨oL,_,_,hoL,_⟩:=id hn
  refine h _ ⟨I.ok,I.os,I.bare,⟨fun b o e n hb hx=>?_,fun b o e n hb hx=>?_,I.base.free,fun b o e hx=>?_,I.base.tups,I.base.frzs,I.base.tbls⟩,⟨_,hn',fun j y v' e1 e2 e3=>?_⟩,fun y c e=>?_,I.free,I.freeC,fun p hp=>?_,tracked ⟨oL,hoL,I.free⟩ hs,by simpa using I.len⟩ ⟨_,hs,.inl U⟩
  ·exact (hs.2 b (V5 (Vx (VL e) I.ok.above))).trans (I.base.keep b o e n hb hx)
  ·obtain⟨sl,e1⟩:=I.base.slot b o e n hb hx
   exact⟨sl,(hs.2 b (V5 (Vx (VL e) I.ok.above))).trans e1⟩
  ·obtain⟨o',e1⟩:=I.base.there b o e hx
   exact⟨o',(hs.2 b (V5 (Vx (VL e) I.ok.above))).trans e1⟩
  ·by_cases hj:j=i
   ·subst hj
    rw[hi] at e1;cases e1
    rw[Z4 hiσ] at e2
    cases e2
    exact⟨u,r,.inl ⟨hk,by simp⟩⟩
   ·rw[abp (Xl hj)] at e2
    obtain⟨u',r',q⟩:=hl j y v' e1 e2 e3
    refine⟨u',r',?_⟩
    rcases q with⟨k,e⟩ | ⟨k,c,e,z⟩
    ·refine .inl ⟨k,?_⟩
     have:y≠x:=fun e=>hj (CJ hN e1 (e▸hi))
     simp [this,e]
    ·exact .inr ⟨k,c,e,z.sameBut hs (cne y c e)⟩
  ·obtain⟨w',z⟩:=I.cell y c e
   exact⟨w',z.sameBut hs (cne y c e)⟩
  ·obtain⟨e,n,ne,nf,d⟩:=I.pin p hp
   exact⟨(hs.2 p.1 ne).trans e,n,ne,nf,d⟩
 ·have hfn:X.fn x=true:=by
   rcases hf with z | z
   ·exact z
   ·rw[z] at hk;cases hk
  obtain⟨c,hc⟩:=I.ok.has x (.inl hk)
  obtain⟨w',z⟩:=I.cell x c hc
  refine wpAny_storeName_cell I.ok.kind hk hc z (fun h' hc' hs=>?_)
  obtain⟨oc,hoc,hocd⟩:=id z
  refine h { s with heap:=h' } ⟨I.ok,I.os,I.bare,⟨fun b o e n hb hx=>?_,fun b o e n hb hx=>?_,I.base.free,fun b o e hx=>?_,I.base.tups,I.base.frzs,I.base.tbls⟩,⟨m,hn.sameBut hs (Xl (cne x c hc)),fun j y v' e1 e2 e3=>?_⟩,fun y c' e=>?_,I.free,I.freeC,fun p hp=>?_,tracked ⟨oc,hoc,I.freeC x c hc⟩ hs,by simpa using I.len⟩ ⟨c,hs,.inr hc⟩
  ·exact (hs.2 b (V5 (Vx (VL e) (I.ok.cab x c hfn hc)))).trans (I.base.keep b o e n hb hx)
  ·obtain⟨sl,e1⟩:=I.base.slot b o e n hb hx
   exact⟨sl,(hs.2 b (V5 (Vx (VL e) (I.ok.cab x c hfn hc)))).trans e1⟩
  ·obtain⟨o',e1⟩:=I.base.there b o e hx
   exact⟨o',(hs.2 b (V5 (Vx (VL e) (I.ok.cab x c hfn hc)))).trans e1⟩
  ·by_cases hj:j=i
   ·subst hj
    rw[hi] at e1;cases e1
    rw[Z4 hiσ] at e2
    cases e2
    exact⟨u,r,.inr ⟨.inl hk,c,hc,hc'⟩⟩
   ·rw[abp (Xl hj)] at e2
    obtain⟨u',r',q⟩:=hl j y v' e1 e2 e3
    refine⟨u',r',?_⟩
    rcases q with q | ⟨k,c',e,z'⟩
    ·exact .inl q
    ·refine .inr ⟨k,c',e,z'.sameBut hs ?_⟩
     rintro rfl
     exact hj (CJ hN e1 (I.ok.inj _ _ _ e hc▸hi))
  ·by_cases hcc:c'=c
   ·subst hcc;exact⟨_,hc'⟩
   ·obtain⟨w2,z2⟩:=I.cell y c' e
    exact⟨w2,z2.sameBut hs hcc⟩
  ·obtain⟨e,n,ne,nf,d⟩:=I.pin p hp
   refine⟨(hs.2 p.1 ?_).trans e,n,ne,nf,d⟩
   intro q
   rw[q,hoc] at e
   have q':oc=p.2:=Wo e
   exact d w' (by rw[← q'];exact hocd)
def uB {M:Model}{A:Wm}{E:DM}{i:Nat}{x:Wb}{v:V}{u:Value}{Q:Unit->Vt->Prop}(I:Inv X ZY σ H s)(hN:X.N.Nodup)(hi:X.N[i]? = some x)(hx:Loc X.env.scope x)(r:RelV v u)
  (h:∀ s',Inv X ZY (σ.set i (some v)) H s'->Q () s') (hf:X.fn x=true∨X.env.scope.names.lookup x=some .local:=by first | exact .inl rfl | exact .inr rfl | assumption):VG M A (storeName X.env x u) Q E s :=
 yH I hN hi hx r (fun s' I' _=>h s' I') hf
def Inv.call' {s':Vt}{ch:D0}(I:Inv X ZY σ H s)(ho:s'.os=s.os)(u:Un (frs X.stack) ch H H' s.heap s'.heap)(hok:HOk X.prog X.w H' s'.heap)(hg:aaO s'.gens)
  (hch:∀ b∈ch,(b∈X.ex∨X.s₀.heap.objs.size<=b)/\b≠X.env.locals/\(∀ x c,X.env.cells.lookup x=some c->c≠b)/\∀ p∈X.pn++ZY,p.1≠b):Inv X ZY σ H' s':=by
 obtain⟨h',g',d',t',o'⟩:=s'
 have e:o'=s.os:=ho
 subst e
 exact I.call (g':=g') (t':=t') (d':=d') u hok hg hch
end
abbrev XK:=Value->DT->Hp->Prop
abbrev St:=List (Option V)
abbrev VK:=V->Hp->Prop
abbrev TE:=St->Hp->VK->Prop
abbrev TT:=St->Hp->(Bool->Hp->Prop)->Prop
abbrev TA:=St->Hp->(List V->Hp->Prop)->Prop
structure Ends where
 nx:St->Hp->Prop
 rt:VK
 bk:St->Hp->Prop:=fun _ _=>False
 ct:St->Hp->Prop:=fun _ _=>False
abbrev TS:=Ends->St->Hp->Prop
inductive EP (X:Cx)(ZY:DI)(σ:St)(Q:VK)(u:Value)(s':Vt):Prop where
 | mk (v:V) (H':Hp) (z0:Inv X ZY σ H' s') (z1:RelV v u) (z2:Q v H'):EP X ZY σ Q u s'
def TP (X:Cx)(ZY:DI)(σ:St)(Q:Bool->Hp->Prop)(b:Bool)(s':Vt):Prop:=∃ H',Inv X ZY σ H' s'/\Q b H'
inductive AP (X:Cx)(ZY:DI)(σ:St)(Q:List V->Hp->Prop)(us:DV)(s':Vt):Prop where
 | mk (vs:List V) (H':Hp) (z0:Inv X ZY σ H' s') (z1:Vals vs us) (z2:Q vs H'):AP X ZY σ Q us s'
def SP (X:Cx)(ZY:DI)(D:Ends)(f:Flow)(s':Vt):Prop :=
 match f with
 | .next=>∃ σ' H',Inv X ZY σ' H' s'/\D.nx σ' H'
 | .brk=>∃ σ' H',Inv X ZY σ' H' s'/\D.bk σ' H'
 | .cont=>∃ σ' H',Inv X ZY σ' H' s'/\D.ct σ' H'
 | .ret u=>∃ v σ' H',Inv X ZY σ' H' s'/\RelV v u/\D.rt v H'
def PE (X:Cx)(e:Expr)(t:TE):Prop :=
 ∀ (ZY:DI) (s:Vt) (σ:St) (H:Hp) (Q:VK),Inv X ZY σ H s->t σ H Q->VG (VM X.prog X.w) X.A (Xv e X.env) (EP X ZY σ Q) X.xe s
def PT (X:Cx)(e:Expr)(t:TT):Prop :=
 ∀ (ZY:DI) (s:Vt) (σ:St) (H:Hp) (Q:Bool->Hp->Prop),Inv X ZY σ H s->t σ H Q->VG (VM X.prog X.w) X.A (isTrue e X.env (Xv e X.env)) (TP X ZY σ Q) X.xe s
def PW (X:Cx)(e:Expr)(t:TT):Prop :=
 ∀ (whole:Sem Value) (ZY:DI) (s:Vt) (σ:St) (H:Hp) (Q:Bool->Hp->Prop),Inv X ZY σ H s->t σ H Q->VG (VM X.prog X.w) X.A (isTrue e X.env whole) (TP X ZY σ Q) X.xe s
def PW.pt {X:Cx}{e:Expr}{t:TT}(h:PW X e t):PT X e t:=h _
def PA (X:Cx)(es:D1)(t:TA):Prop :=
 ∀ (pos:ZD) (ZY:DI) (s:Vt) (σ:St) (H:Hp) (Q:List V->Hp->Prop),Inv X ZY σ H s->t σ H Q->VG (VM X.prog X.w) X.A (spliced (XX pos (Wc es X.env))) (AP X ZY σ Q) X.xe s
def PS (X:Cx)(st:Stmt)(t:TS):Prop :=
 ∀ (ZY:DI) (s:Vt) (σ:St) (H:Hp) (D:Ends),Inv X ZY σ H s->t D σ H->VG (VM X.prog X.w) X.A (exec st X.env) (SP X ZY D) X.xe s
def PSs (X:Cx)(st:D3)(t:TS):Prop :=
 ∀ (ZY:DI) (s:Vt) (σ:St) (H:Hp) (D:Ends),Inv X ZY σ H s->t D σ H->VG (VM X.prog X.w) X.A (execs st X.env) (SP X ZY D) X.xe s
def thn {α:Type}{t:Sem α}{Q Q':α->Vt->Prop}{M:Model}{A:Wm}{E:DM}{s:Vt}(h:VG M A t Q E s)(hQ:∀ a s,Q a s->Q' a s):VG M A t Q' E s:=Ww h hQ fun _ _ x=>x
section
variable {X:Cx}
inductive ExB (x:V)(P:Bool->Prop):Prop where
 | mk (c:Bool) (z0:x = .bl c) (z1:P c):ExB x P
inductive QV (i:Nat)(σ:St)(H:Hp)(Q:VK):Prop where
 | mk (v:V) (z0:σ[i]? = some (some v)) (z1:Q v H):QV i σ H Q
def CW (i:Nat):TE:=fun σ H Q=>QV i σ H Q
def tC (v:V):TE:=fun _ H Q=>Q v H
def Mu {i:Nat} {x:Wb} {pos:ZD} (hN:X.N[i]? = some x) (hv:Vis X.env.scope x) (hd:(x == ("__debug__" : Wb))=false:=by decide) (hcd:(x == ("__classdict__" : Wb))=false:=by decide):PE X (.Name x pos) (CW i):=by
 intro ZY s σ H Q I h
 obtain⟨v,e,h⟩:=h
 obtain⟨m,hn,hl⟩:=I.loc
 obtain⟨u,r,l⟩:=hl i x v hN e hv
 have fin:EP X ZY σ Q u s:=⟨v,H,I,r,h⟩
 rcases l with⟨hk,hm⟩ | ⟨hk,c,hc,hcell⟩
 ·exact wpAny_Name (wpAny_loadName_local I.ok.kind hk hn hm fin) hd
 ·rcases hk with hk | hk
  ·exact wpAny_Name (wpAny_loadName_cell I.ok.kind hk hc hcell fin) hd
  ·exact wpAny_Name (wpAny_loadName_free I.ok.kind hk hc hcell fin hcd) hd
def aq {i j pos}:PE X (.Constant (.int i) j pos) (tC (.int i)):=fun _ _ _ H _ I h=>wpAny_Constant_int ⟨.int i,H,I.tok _,⟨_,U⟩,h⟩
def fK {b j pos}:PE X (.Constant (.bool b) j pos) (tC (.bl b)):=fun _ _ _ H _ I h=>Constant_bool ⟨.bl b,H,I,U,h⟩
def Qz {j pos}:PE X (.Constant .none j pos) (tC .non):=fun _ _ _ H _ I h=>Constant_none ⟨.non,H,I,U,h⟩
def aL {x j pos}:PE X (.Constant (.str x) j pos) (tC (.str x)):=fun _ _ _ H _ I h=>Calls.Constant_str ⟨.str x,H,I.tok _,⟨_,U⟩,h⟩
def Gl (X:Cx)(x:Wb):Prop:=X.env.kindOf x=some .globalImplicit
def jt {E:DM}{ZY:DI}{s:Vt}{σ:St}{H:Hp}{x:Wb}{u:Value}{pos:ZD}{Q:DM}(I:Inv X ZY σ H s)(hg:Gl X x)(hm:X.mg x=some u)(h:Q u s)
  (hd:(x == ("__debug__" : Wb))=false:=by decide):VG (VM X.prog X.w) X.A (Xv (.Name x pos) X.env) Q E s :=
 Calls.Name_function_global I.ok.kind hg (Calls.loadGlobal_global (by rw[I.ok.glob];exact I.mod.glob.keeps I.bk) hm h) hd
def kJ {E:DM}{ZY:DI}{s:Vt}{σ:St}{H:Hp}{x:Wb}{u:Value}{pos:ZD}{Q:DM}(I:Inv X ZY σ H s)(hg:Gl X x)(hm:X.mg x=none)(hv:Wy x=some u)(h:Q u s)
  (hn:x≠"__name__":=by decide) (hd:(x == ("__debug__" : Wb))=false:=by decide):VG (VM X.prog X.w) X.A (Xv (.Name x pos) X.env) Q E s:=by
 obtain⟨mb,h1,h2⟩:=I.mod.blt
 exact Calls.Name_function_global I.ok.kind hg (Calls.loadGlobal_builtin (by rw[I.ok.glob];exact I.mod.glob.keeps I.bk) hm (by rw[I.ok.blt];exact h1.keeps I.bk) ((h2 x hn).trans hv) h) hd
def PN {x:Wb} {v:V} {u:Value} {pos:ZD} (hg:Gl X x) (hm:X.mg x=some u) (r:RelV v u) (hd:(x == ("__debug__" : Wb))=false:=by decide):PE X (.Name x pos) (tC v) :=
 fun _ _ _ H _ I h=>jt I hg hm ⟨v,H,I,r,h⟩ hd
def Np {x:Wb} {v:V} {u:Value} {pos:ZD} (hg:Gl X x) (hm:X.mg x=none) (hv:Wy x=some u) (r:RelV v u) (hn:x≠"__name__":=by decide) (hd:(x == ("__debug__" : Wb))=false:=by decide):PE X (.Name x pos) (tC v) :=
 fun _ _ _ H _ I h=>kJ I hg hm hv ⟨v,H,I,r,h⟩ hn hd
variable {a b:Expr}{ta tb:TE}{pos:ZD}
def PC (X:Cx)(op:CmpOp)(a b:Expr)(t:TE):Prop :=
 ∀ (ZY:DI) (s:Vt) (σ:St) (H:Hp) (Q:VK),Inv X ZY σ H s->t σ H Q →
  VG (VM X.prog X.w) X.A (Xv a X.env) (fun v s₁=>VG (VM X.prog X.w) X.A (Xv b X.env) (fun u s₂=>VG (VM X.prog X.w) X.A (XR op v u) (EP X ZY σ Q) X.xe s₂) X.xe s₁) X.xe s
def BX (b:Expr){op:CmpOp}(h:op≠.In)(h2:op≠.NotIn):Yr op b=false:=by
 have e1:(op == CmpOp.In)=false:=by cases op <;> first | rfl | exact absurd rfl h
 have e2:(op == CmpOp.NotIn)=false:=by cases op <;> first | rfl | exact absurd rfl h2
 cases b <;> simp [Yr,e1,e2]
def U5 (ta:TE):TE:=fun σ H Q=>ta σ H fun x H1=>Q (.bl (decide (x = .non))) H1
def RelV.K8 {x:V}{v:Value}(r:RelV x v):(v == Xk)=decide (x = .non):=by
 cases x with
 | non=>cases r;rfl
 | bl _=>cases r;rfl
 | int _=>obtain⟨t,rfl⟩:=r;rfl
 | str _=>obtain⟨t,rfl⟩:=r;rfl
 | byt _=>obtain⟨t,rfl⟩:=r;rfl
 | flt _=>obtain⟨t,rfl⟩:=r;rfl
 | ref _=>cases r;rfl
 | ty _=>cases r;rfl
def Ng {j pos'}(ha:PE X a ta):PC X .Is a (.Constant .none j pos') (U5 ta):=by
 intro ZY s σ H Q I h
 refine thn (ha ZY s σ H _ I h) fun v s1 ⟨x,H1,I1,r1,q1⟩=>?_
 exact Constant_none (is_none_gen ⟨.bl _,H1,I1,by rw[r1.K8];rfl,q1⟩)
def tB (t:TE):TT:=fun σ H Q=>t σ H fun x H1=>ExB x fun c=>Q c H1
def Qj {op:CmpOp}{t:TE}(h:PC X op a b t)(h1:Yr op b=false:=by first | exact BX _ (by decide) (by decide) | rfl):PE X (.Compare a [op] [b] pos) t:=fun ZY s σ H Q I hw=>wpAny_Compare1 (h ZY s σ H Q I hw) h1
def Ji {op:CmpOp}{t:TE}(h:PC X op a b t)(h1:Yr op b=false:=by first | exact BX _ (by decide) (by decide) | rfl):PT X (.Compare a [op] [b] pos) (tB t):=by
 intro ZY s σ H Q I hw
 refine wpAny_isTrue_Compare1 (thn (h ZY s σ H _ I hw) fun v s1 h1=>thn h1 fun u s2 h2=>thn h2 fun c s3 ⟨x,H1,I1,r1,q1⟩=>?_) h1
 obtain⟨d,rfl,q⟩:=q1
 cases r1
 exact X4 ⟨H1,I1,q⟩
def cI {e:Expr}{t:TE}(h:PE X e t)(he:∀ whole,isTrue e X.env whole=(do let v ← whole;Zx e.pos;ZP [v] (truthy v)):=by intro _;rfl):PT X e (tB t):=by
 intro ZY s σ H Q I hw
 refine isTrue_plain (thn (h ZY s σ H _ I hw) fun v s1 ⟨x,H1,I1,r1,q1⟩=>?_) (he _)
 obtain⟨d,rfl,q⟩:=q1
 cases r1
 exact X4 ⟨H1,I1,q⟩
variable {tA tB':TT}{rest:D1}
def Uv (t u:TT):TT:=fun σ H Q=>t σ H fun c H1=>if c=true then u σ H1 Q else Q false H1
def tOr (t u:TT):TT:=fun σ H Q=>t σ H fun c H1=>if c=true then Q true H1 else u σ H1 Q
def Vk (t:TT):TT:=fun σ H Q=>t σ H fun c H1=>Q (!c) H1
def gP (ha:PT X a tA):PW X (.BoolOp .And [a] pos) tA:=by
 intro wh ZY s σ H Q I h
 refine isTrue_and (thn (ha ZY s σ H Q I h) fun c s1 e=>?_)
 cases c with
 | true=>exact isTrue_and_nil e
 | false=>exact e
def d7 (ha:PT X a tA):PW X (.BoolOp .Or [a] pos) tA:=by
 intro wh ZY s σ H Q I h
 refine isTrue_or (thn (ha ZY s σ H Q I h) fun c s1 e=>?_)
 cases c with
 | false=>exact isTrue_or_nil e
 | true=>exact e
def kO (ha:PT X a tA)(hb:PW X (.BoolOp .And (b::rest) pos) tB'):PW X (.BoolOp .And (a::b::rest) pos) (Uv tA tB'):=by
 intro wh ZY s σ H Q I h
 refine isTrue_and (thn (ha ZY s σ H _ I h) fun c s1 ⟨H1,I1,q1⟩=>?_)
 cases c with
 | true=>exact hb wh ZY s1 σ H1 Q I1 q1
 | false=>exact⟨H1,I1,q1⟩
def iI (ha:PT X a tA)(hb:PW X (.BoolOp .Or (b::rest) pos) tB'):PW X (.BoolOp .Or (a::b::rest) pos) (tOr tA tB'):=by
 intro wh ZY s σ H Q I h
 refine isTrue_or (thn (ha ZY s σ H _ I h) fun c s1 ⟨H1,I1,q1⟩=>?_)
 cases c with
 | true=>exact⟨H1,I1,q1⟩
 | false=>exact hb wh ZY s1 σ H1 Q I1 q1
def dR (ha:PT X a tA):PT X (.UnaryOp .Not a pos) (Vk tA):=by
 intro ZY s σ H Q I h
 exact isTrue_not (ha ZY s σ H (fun c H1=>Q (!c) H1) I h)
def T6 (ta tb:TE):TE:=fun σ H Q=>ta σ H fun x H1=>ExB x fun c=>if c=true then tb σ H1 Q else Q (.bl false) H1
def U3 (ta tb:TE):TE:=fun σ H Q=>ta σ H fun x H1=>ExB x fun c=>if c=true then Q (.bl true) H1 else tb σ H1 Q
def T8 (ta:TE):TE:=fun σ H Q=>ta σ H fun x H1=>ExB x fun c=>Q (.bl (!c)) H1
def jz {op}{t:TE}(h:PE X a t):PE X (.BoolOp op [a] pos) t:=fun ZY s σ H Q I hw=>BoolOp_one (h ZY s σ H Q I hw)
def eX (ha:PE X a ta)(hb:PE X (.BoolOp .And (b::rest) pos) tb):PE X (.BoolOp .And (a::b::rest) pos) (T6 ta tb):=by
 intro ZY s σ H Q I h
 refine BoolOp_and (thn (ha ZY s σ H _ I h) fun v s1 ⟨x,H1,I1,r1,q1⟩=>?_)
 obtain⟨c,rfl,q1⟩:=q1
 cases r1
 refine X4 ?_
 cases c with
 | true=>exact hb ZY s1 σ H1 Q I1 q1
 | false=>exact⟨.bl false,H1,I1,U,q1⟩
def Sx (ha:PE X a ta)(hb:PE X (.BoolOp .Or (b::rest) pos) tb):PE X (.BoolOp .Or (a::b::rest) pos) (U3 ta tb):=by
 intro ZY s σ H Q I h
 refine BoolOp_or (thn (ha ZY s σ H _ I h) fun v s1 ⟨x,H1,I1,r1,q1⟩=>?_)
 obtain⟨c,rfl,q1⟩:=q1
 cases r1
 refine X4 ?_
 cases c with
 | false=>exact hb ZY s1 σ H1 Q I1 q1
 | true=>exact⟨.bl true,H1,I1,U,q1⟩
def Ql (ha:PE X a ta):PE X (.UnaryOp .Not a pos) (T8 ta):=by
 intro ZY s σ H Q I h
 refine UnaryOp_ (thn (ha ZY s σ H _ I h) fun v s1 ⟨x,H1,I1,r1,q1⟩=>?_)
 obtain⟨c,rfl,q1⟩:=q1
 cases r1
 exact not_of (X4 ⟨.bl (!c),H1,I1,U,q1⟩)
def tIf (t:TT)(ta tb:TE):TE:=fun σ H Q=>t σ H fun c H1=>if c=true then ta σ H1 Q else tb σ H1 Q
def ni {c:Expr}(hc:PT X c tA)(ha:PE X a ta)(hb:PE X b tb):PE X (.IfExp c a b pos) (tIf tA ta tb):=by
 intro ZY s σ H Q I h
 refine wpAny_IfExp (thn (hc ZY s σ H _ I h) fun d s1 ⟨H1,I1,q1⟩=>?_)
 cases d with
 | true=>exact ha ZY s1 σ H1 Q I1 q1
 | false=>exact hb ZY s1 σ H1 Q I1 q1
end
def SqL (K:VB)(H:Hp)(a:Addr)(xs:List V):Prop :=
 Rd H a (.lst xs) ∨
  ∃ (o:X8) (its:Array Value) (n:Nat),K.lookup a=some o/\o.cls = .type "list"/\o.dict=none/\o.data = .seq its n/\its.size<=sizeLine/\Vals xs its.toList
def SqT (K:VB)(H:Hp)(a:Addr)(xs:List V):Prop :=
 Rd H a (.tup xs) ∨
  ∃ (o:X8) (its:Array Value) (n:Nat),K.lookup a=some o/\o.cls = .type "tuple"/\o.data = .seq its n/\its.size<=sizeLine/\Vals xs its.toList
def Va:Value->Option V
 | .none=>some .non
 | .bool b=>some (.bl b)
 | .int i _=>some (.int i)
 | .str x _=>some (.str x)
 | .bytes b _=>some (.byt b)
 | .float b _=>some (.flt b)
 | .ref a=>some (.ref a)
 | .type n=>some (.ty n)
 | _=>none
def RelV.abs {x:V}{u:Value}(r:RelV x u):Va u=some x:=by
 cases x with
 | non=>cases r;rfl
 | bl _=>cases r;rfl
 | int _=>obtain⟨t,rfl⟩:=r;rfl
 | str _=>obtain⟨t,rfl⟩:=r;rfl
 | byt _=>obtain⟨t,rfl⟩:=r;rfl
 | flt _=>obtain⟨t,rfl⟩:=r;rfl
 | ref _=>cases r;rfl
 | ty _=>cases r;rfl
def RelV.inj {x y:V}{u:Value}(r:RelV x u)(q:RelV y u):x=y:=Wo (r.abs.symm.trans q.abs)
theorem Vals.inj:∀ {xs ys:List V} {us:DV},Vals xs us->Vals ys us->xs=ys
 | _,_,_,.nil,.nil=>rfl
 | _,_,_,.cons r t,.cons r' t'=>by rw[r.inj r',Vals.inj t t']
section
variable {X:Cx}{ZY:DI}{σ:St}{H:Hp}{s:Vt}{a:Addr}{xs ys:List V}
def SqL.of {K:VB}(h:H a=some (.lst xs)):SqL K H a xs:=.inl (.inl h)
def SqT.of {K:VB}(h:H a=some (.tup xs)):SqT K H a xs:=.inl (.inl h)
def Inv.list (I:Inv X ZY σ H s)(h:SqL X.K H a xs):∃ its:DV,Vals xs its/\PlainL s.heap a its.toArray/\xs.length<=sizeLine:=by
 rcases h with h | ⟨o,its,n,hk,hc,hd,hs,hz,r⟩
 ·obtain⟨z,its,n,r,e⟩:=h.ok I.hok
  exact⟨its,r,⟨_,n,e,U,U,U⟩,z⟩
 ·refine⟨its.toList,r,⟨o,n,I.kIn a o hk,hc,hd,by simpa using hs⟩,?_⟩
  have e:=r.length
  simp only[Wz] at e
  lia
def Inv.tuple (I:Inv X ZY σ H s)(h:SqT X.K H a xs):∃ its:DV,Vals xs its/\IsTup s.heap a its.toArray/\xs.length<=sizeLine:=by
 rcases h with h | ⟨o,its,n,hk,hc,hs,hz,r⟩
 ·obtain⟨z,its,r,p⟩:=h.ok I.hok
  exact⟨its,r,p,z⟩
 ·refine⟨its.toList,r,⟨o,I.kIn a o hk,hc,n,by simpa using hs⟩,?_⟩
  have e:=r.length
  simp only[Wz] at e
  lia
def Inv.Aq (I:Inv X ZY σ H s)(h:SqL X.K H a xs)(h':SqL X.K H a ys):xs=ys:=by
 obtain⟨its,r,⟨o,n,e,_,_,d⟩,_⟩:=I.list h
 obtain⟨its',r',⟨o',n',e',_,_,d'⟩,_⟩:=I.list h'
 rw[e] at e';cases e'
 rw[d] at d'
 injection d' with d1 _
 have:its=its':=by simpa using congrArg Array.toList d1
 subst this
 exact r.inj r'
def Inv.vX (I:Inv X ZY σ H s)(h:SqT X.K H a xs)(h':SqT X.K H a ys):xs=ys:=by
 obtain⟨its,r,⟨o,e,_,n,d⟩,_⟩:=I.tuple h
 obtain⟨its',r',⟨o',e',_,n',d'⟩,_⟩:=I.tuple h'
 rw[e] at e';cases e'
 rw[d] at d'
 injection d' with d1 _
 have:its=its':=by simpa using congrArg Array.toList d1
 subst this
 exact r.inj r'
end
abbrev Cx.wish (X:Cx)(E:DM):Cx:={ X with xe:=E }
abbrev Cx.nox (X:Cx):Cx:=X.wish fun _ _=>False
def Cx.Ok.wish {X:Cx}(ok:X.Ok)(E:DM):(X.wish E).Ok :=
 ⟨ok.mod,ok.kind,ok.glob,ok.blt,ok.above,ok.inj,ok.has,ok.cab,ok.hd,ok.frames,ok.stk,ok.exf,ok.bs,ok.bsz,ok.noex,ok.exfs,ok.um,ok.frf⟩
def Cx.Ok.mY {X:Cx}{E:DM}(ok:(X.wish E).Ok):X.Ok :=
 ⟨ok.mod,ok.kind,ok.glob,ok.blt,ok.above,ok.inj,ok.has,ok.cab,ok.hd,ok.frames,ok.stk,ok.exf,ok.bs,ok.bsz,ok.noex,ok.exfs,ok.um,ok.frf⟩
section
variable {X:Cx}{ZY:DI}{σ:St}{H:Hp}{s:Vt}{E:DM}
def Inv.wish (I:Inv X ZY σ H s)(E:DM):Inv (X.wish E) ZY σ H s:=⟨I.ok.wish E,I.os,I.bare,I.base,I.loc,I.cell,I.free,I.freeC,I.pin,I.hok,I.len⟩
def Inv.mY (I:Inv (X.wish E) ZY σ H s):Inv X ZY σ H s:=⟨I.ok.mY,I.os,I.bare,I.base,I.loc,I.cell,I.free,I.freeC,I.pin,I.hok,I.len⟩
def SP.mY {D:Ends}{f:Flow}{s':Vt}(h:SP (X.wish E) ZY D f s'):SP X ZY D f s':=by
 cases f with
 | next=>obtain⟨σ',H',I,q⟩:=h;exact⟨σ',H',I.mY,q⟩
 | brk=>obtain⟨σ',H',I,q⟩:=h;exact⟨σ',H',I.mY,q⟩
 | cont=>obtain⟨σ',H',I,q⟩:=h;exact⟨σ',H',I.mY,q⟩
 | ret u=>obtain⟨v,σ',H',I,r,q⟩:=h;exact⟨v,σ',H',I.mY,r,q⟩
def PSs.nox {st:D3}{t:TS}(h:PSs X.nox st t):PSs X st t:=fun ZY s σ H D I hw =>
 Ww (h ZY s σ H D (I.wish _) hw) (fun _ _ q=>q.mY) fun _ _ z=>Wu z
end
section
variable {X:Cx}{st:Stmt}{rest:D3}{t u:TS}{e:Expr}{te:TE}{pos:ZD}
def Ni:TS:=fun D σ H=>D.nx σ H
def Jx (t u:TS):TS:=fun D σ H=>t { D with nx:=u D } σ H
def aC:PSs X [] Ni:=fun _ _ σ H _ I h=>aam ⟨σ,H,I,h⟩
def au (h1:PS X st t)(h2:PSs X rest u):PSs X (st::rest) (Jx t u):=by
 intro ZY s σ H D I h
 refine wpAny_execs_cons (thn (h1 ZY s σ H { D with nx:=u D } I h) fun f s1 q=>?_)
 cases f with
 | next =>
  obtain⟨σ',H',I',q⟩:=q
  exact h2 ZY s1 σ' H' D I' q
 | ret v=>exact q
 | brk=>exact q
 | cont=>exact q
def az (h1:PS X st t):PSs X [st] t:=by
 intro ZY s σ H D I h
 refine wpAny_execs_cons (thn (h1 ZY s σ H D I h) fun f s1 q=>?_)
 cases f with
 | next=>exact aam q
 | ret v=>exact q
 | brk=>exact q
 | cont=>exact q
def Inv.quiet {ZY:DI}{σ:St}{H:Hp}{s:Vt}(I:Inv X ZY σ H s):interactive X.env=false:=by simp [interactive,I.ok.kind]
def T7 (te:TE):TS:=fun D σ H=>te σ H fun _ H1=>D.nx σ H1
def bD (he:PE X e te)(hs:abr e none pos.line X.env=pure false:=by rfl):PS X (.Expr e pos) (T7 te):=by
 intro ZY s σ H D I h
 exact wpAny_Expr_any (thn (he ZY s σ H _ I h) fun v s1 ⟨x,H1,I1,r1,q1⟩=>⟨σ,H1,I1,q1⟩) I.quiet hs
def SN (te:TE):TS:=fun D σ H=>te σ H D.rt
def aD (he:PE X e te):PS X (.Return (some e) pos) (SN te):=by
 intro ZY s σ H D I h
 exact wpAny_Return_some (thn (he ZY s σ H _ I h) fun v s1 ⟨x,H1,I1,r1,q1⟩=>⟨x,σ,H1,I1,r1,q1⟩)
def JL (c:TT)(t u:TS):TS:=fun D σ H=>c σ H fun b H1=>if b=true then t D σ H1 else u D σ H1
def aW {c:Expr}{a b:D3}{tc:TT}(hc:PT X c tc)(ha:PSs X a t)(hb:PSs X b u):PS X (.If c a b pos) (JL tc t u):=by
 intro ZY s σ H D I h
 refine wpAny_If (thn (hc ZY s σ H _ I h) fun d s1 ⟨H1,I1,q1⟩=>?_)
 cases d with
 | true=>exact ha ZY s1 σ H1 D I1 q1
 | false=>exact hb ZY s1 σ H1 D I1 q1
def QS:TS:=fun _ _ _=>False
def Ao:PS X st QS:=fun _ _ _ _ _ _ h=>h.elim
end
abbrev TG:=V->St->Hp->(St->Hp->Prop)->Prop
abbrev TGs:=List V->St->Hp->(St->Hp->Prop)->Prop
def PG (X:Cx)(target:Expr)(t:TG):Prop :=
 ∀ (ZY:DI) (s:Vt) (σ:St) (H:Hp) (v:V) (u:Value) (Q:St->Hp->Prop),Inv X ZY σ H s->RelV v u->t v σ H Q →
  VG (VM X.prog X.w) X.A (aaZ target X.env u) (fun _ s'=>∃ σ' H',Inv X ZY σ' H' s'/\Q σ' H') X.xe s
def PGs (X:Cx)(ts:D1)(t:TGs):Prop :=
 ∀ (ZY:DI) (s:Vt) (σ:St) (H:Hp) (vs:List V) (us:DV) (Q:St->Hp->Prop),Inv X ZY σ H s->Vals vs us->t vs σ H Q →
  VG (VM X.prog X.w) X.A (assignInOrder ((aaa ts X.env).map (·.2)) us) (fun _ s'=>∃ σ' H',Inv X ZY σ' H' s'/\Q σ' H') X.xe s
abbrev Tt:=V->V->V->Hp->(Hp->Prop)->Prop
def Uz (X:Cx)(t:Tt):Prop :=
 ∀ (ZY:DI) (s:Vt) (σ:St) (H:Hp) (o i v:V) (ov iv u:Value) (Q:Hp->Prop),Inv X ZY σ H s->RelV o ov->RelV i iv->RelV v u->t o i v H Q →
  VG (VM X.prog X.w) X.A (setItem ov iv u) (fun _ s'=>∃ H',Inv X ZY σ H' s'/\Q H') X.xe s
section
variable {X:Cx}{pos:ZD}
def zg (i:Nat):TG:=fun v σ H Q=>Q (σ.set i (some v)) H
def aJ {i:Nat}{x:Wb}(hN:X.N.Nodup)(hi:X.N[i]? = some x)(hx:Loc X.env.scope x)(hf:X.fn x=true∨X.env.scope.names.lookup x=some .local:=by first | exact .inl rfl | exact .inr rfl | assumption):PG X (.Name x pos) (zg i):=by
 intro ZY s σ H v u Q I r h
 exact wpAny_assign_Name (uB I hN hi hx r (fun s' I'=>⟨_,H,I',h⟩) hf)
def Vh:TGs:=fun vs σ H Q=>vs=[]/\Q σ H
inductive M6 (t:TG)(u:TGs)(vs:List V)(σ:St)(H:Hp)(Q:St->Hp->Prop):Prop where
 | mk (v:V) (r:List V) (z0:vs=v::r) (z1:t v σ H fun σ' H'=>u r σ' H' Q):M6 t u vs σ H Q
def Te (t:TG)(u:TGs):TGs:=fun vs σ H Q=>M6 t u vs σ H Q
def eG:PGs X [] Vh:=by
 intro ZY s σ H vs us Q I r h
 obtain⟨e,h⟩:=h
 subst e
 cases r
 exact assignInOrder_nil ⟨σ,H,I,h⟩
def bf {e:Expr}{es:D1}{t:TG}{u:TGs}(h1:PG X e t)(h2:PGs X es u)
  (hs:(aaa (e::es) X.env).map (·.2)=aaZ e X.env::(aaa es X.env).map (·.2):=by rfl):PGs X (e::es) (Te t u):=by
 intro ZY s σ H vs us Q I r h
 obtain⟨v,vr,e1,h⟩:=h
 subst e1
 cases r with
 | cons r rr =>
  rw[hs]
  refine assignInOrder_cons (thn (h1 ZY s σ H _ _ _ I r h) fun _ s1 ⟨σ1,H1,I1,q1⟩=>?_)
  exact h2 ZY s1 σ1 H1 _ _ Q I1 rr q1
inductive Qo (K:VB)(n:Nat)(t:TGs)(v:V)(σ:St)(H:Hp)(Q:St->Hp->Prop):Prop where
 | mk (a:Addr) (xs:List V) (z0:v = .ref a) (z1:SqT K H a xs) (z2:xs.length=n) (z3:t xs σ H Q):Qo K n t v σ H Q
def UG (K:VB)(n:Nat)(t:TGs):TG:=fun v σ H Q=>Qo K n t v σ H Q
def Q7 {es:D1}{k:Nat}{t:TGs}{n:Nat}(hc:X.calm=true)(h:PGs X es t)
  (hn:(aaa es X.env).length=n:=by rfl) (hst:(aaa es X.env).findIdx? (·.1)=none:=by rfl):PG X (.Tuple es k pos) (UG X.K n t):=by
 intro ZY s σ H v u Q I r hw
 obtain⟨a,xs,e1,hq,hl,hw⟩:=hw
 subst e1
 cases r
 obtain⟨its,rv,ht,hz⟩:=I.tuple hq
 refine assign_Tuple_tuple (I.ok.hd hc) ht (by simp [hn,← hl,rv.length]) hst fun h' hx=>?_
 have I1:Inv X ZY σ H { s with heap:=h' }:=I.kept (t':=s.toks) fun b o e=>hx b o (V5 (VL e)) e
 exact h ZY _ σ H xs _ Q I1 (by simpa using rv) hw
def Vj (to ti:TE)(t:Tt):TG:=fun v σ H Q=>to σ H fun o H1=>ti σ H1 fun i H2=>t o i v H2 fun H3=>Q σ H3
def Mx {o i:Expr}{to ti:TE}{t:Tt}(ho:PE X o to)(hi:PE X i ti)(hs:Uz X t)
  (ha:∀ v,aaZ (.Subscript o i pos) X.env v=(do
   let ov ← ZP [v] (Xv o X.env)
   let iv ← ZP [v,ov] (Xv i X.env)
   Zx pos
   ZP [v,ov,iv] (setItem ov iv v)
   release [v,ov,iv] []):=by intro _;rfl):PG X (.Subscript o i pos) (Vj to ti t):=by
 intro ZY s σ H v u Q I r h
 rw[ha]
 refine Vr (Xe (thn (ho ZY s σ H _ I h) fun ov s1 ⟨x,H1,I1,r1,q1⟩=>?_))
 refine Vr (Xe (thn (hi ZY s1 σ H1 _ I1 q1) fun iv s2 ⟨y,H2,I2,r2,q2⟩=>?_))
 refine Vr (Yo (Vr (Xe (thn (hs ZY s2 σ H2 x y v ov iv u _ I2 r1 r2 r q2) fun _ s3 ⟨H3,I3,q3⟩=>?_))))
 exact wpAny_release ⟨σ,H3,I3,q3⟩
def UJ (te:TE)(g:TG):TS:=fun D σ H=>te σ H fun x H1=>g x σ H1 D.nx
def xN {tg e:Expr}{te:TE}{g:TG}(he:PE X e te)(hg:PG X tg g)(hs:swapsWithSole [tg] e pos.line X.env=pure false:=by rfl)(hw:swappedStores [tg] e X.env=pure none:=by rfl)
  (h1:(aaa [tg] X.env).map (·.2)=[aaZ tg X.env]:=by rfl):PS X (.Assign [tg] e pos) (UJ te g):=by
 intro ZY s σ H D I h
 refine wpAny_Assign_stores (thn (he ZY s σ H _ I h) fun v s1 ⟨x,H1,I1,r1,q1⟩=>?_) hs hw
 rw[h1]
 exact thn (hg ZY s1 σ H1 x v _ I1 r1 q1) fun _ s2 q=>q
def aP {i:Nat}{x:Wb}{e:Expr}{te:TE}{pos':ZD}(hN:X.N.Nodup)(hi:X.N[i]? = some x)(hx:Loc X.env.scope x)(he:PE X e te)(hs:abr e (some (.Name x pos')) pos.line X.env=pure false:=by rfl)(hf:X.fn x=true∨X.env.scope.names.lookup x=some .local:=by first | exact .inl rfl | exact .inr rfl | assumption) :
  PS X (.Assign [.Name x pos'] e pos) (UJ te (zg i)):=by
 intro ZY s σ H D I h
 refine wpAny_Assign_Name (thn (he ZY s σ H _ I h) fun v s1 ⟨y,H1,I1,r1,q1⟩=>?_) hs
 exact uB I1 hN hi hx r1 (fun s2 I2=>⟨_,H1,I2,q1⟩) hf
end
section
variable {X:Cx}{pos:ZD}
end
structure It where
 go:Nat->Hp->Prop
 yld:Nat->Hp->V->Hp->Prop
 stop:Nat->Hp->Prop
def yM (X:Cx)(ZY:DI)(H:Hp)(b:Addr):Prop :=
 H b=none/\b≠X.env.locals/\b ∉ X.fs/\(b∈X.ex∨X.s₀.heap.objs.size<=b)/\(∀ x c,X.env.cells.lookup x=some c->c≠b)/\∀ p∈X.pn++ZY,p.1≠b
def Inv.Pz {X:Cx}{ZY:DI}{σ:St}{H H':Hp}{s:Vt}{b:Addr}(I:Inv X ZY σ H s)(hb:s.heap.objs.size<=b)(hn:H' b=none):yM X ZY H' b:=by
 refine⟨hn,YT (Vx I.lt hb),I.Vb hb,.inr (Wf I.sz hb),fun x c e z=>?_,fun p hp z=>?_⟩
 ·obtain⟨v,q⟩:=I.cell x c e
  exact absurd (Vx q.lt (by rw[z];exact hb)) (WK _)
 ·exact absurd (Vx (VL (I.pin p hp).1) (by rw[z];exact hb)) (WK _)
structure Turn (P:V4)(w:Wn)(K:VB)(tg:Expr)(J:It)(fp:D0)(it:Addr)(tn:Nat->WD->Prop):Prop where
 mem:it∈fp
 obj:∀ i h,tn i h->∀ b∈fp,∃ o,h.get? b=some o/\∀ v,o.data≠.cell v
 keep:∀ i h h',tn i h->(∀ b∈fp,∀ o,h.get? b=some o->h'.get? b=some o)->tn i h'
 item:∀ (X:Cx),X.prog=P->X.w=w->X.K=K->X.calm=true->∀ (i:Nat) (ZY:DI) (s:Vt) (σ:St) (H:Hp) (E:DM),Inv X ZY σ H s->(∀ b∈fp,yM X ZY H b)->tn i s.heap->J.go i H →
  VG (VM P w) X.A (Y8 (.ref it)) (fun r s1=>∃ u,r=some u ∧
   VG (VM P w) X.A (Yw tg (.ref it) u) (fun _ s2=>∃ x H',Inv X ZY σ H' s2/\RelV x u/\J.yld i H x H'/\tn (i+1) s2.heap/\∀ b∈fp,H' b=none) E s1) E s
 done:∀ (X:Cx),X.prog=P->X.w=w->X.K=K->X.calm=true->∀ (i:Nat) (ZY:DI) (s:Vt) (σ:St) (H:Hp) (E:DM),Inv X ZY σ H s->(∀ b∈fp,yM X ZY H b)->tn i s.heap->J.stop i H →
  VG (VM P w) X.A (Y8 (.ref it)) (fun r s1=>r=none/\Inv X ZY σ H s1) E s
 self:∀ (A:Wm) (i:Nat) (s:Vt) (Q:DM) (E:DM),tn i s.heap->Q (.ref it) s->VG (VM P w) A (abi (.ref it)) Q E s
abbrev TI:=St->Hp->(It->Hp->Prop)->Prop
def PIE (X:Cx)(ZY:DI)(σ:St)(tg:Expr)(R:It->Hp->Prop)(itv:Value)(s2:Vt):Prop :=
 ∃ (it:Addr) (fp:D0) (tn:Nat->WD->Prop) (J:It) (H':Hp),itv = .ref it/\Inv X ZY σ H' s2/\Turn X.prog X.w X.K tg J fp it tn/\tn 0 s2.heap/\(∀ b∈fp,yM X ZY H' b)/\R J H'
def PI (X:Cx)(tg iter:Expr)(wi:TI):Prop :=
 ∀ (ZY:DI) (s:Vt) (σ:St) (H:Hp) (R:It->Hp->Prop),Inv X ZY σ H s->wi σ H R →
  VG (VM X.prog X.w) X.A (Xv iter X.env) (fun v s1=>VG (VM X.prog X.w) X.A (abi v) (PIE X ZY σ tg R) X.xe s1) X.xe s
def Kl {M : Model}{A : Wm}{E : Value → Vt → Prop}{s : Vt}{tg : Expr}{it : Addr}{u : Value}{o : X8}{n : String}{vs : Array Value}{Q : Unit → Vt → Prop}(ho : s.heap.get? it = some o)(hc : o.cls = .type n)(hd : o.data = .fields vs)
    (hn : ["enumerate", "zip", "dict_itemiterator", "dict_reverseitemiterator", "odict_iterator", "itertools.zip_longest", "itertools.pairwise"].contains n = false) (hQ : Q () s) : VG M A (Yw tg (.ref it) u) Q E s := by
  unfold Yw
  cases tg <;> first
    | exact Vv hQ
    | (cases u <;> first
        | exact Vv hQ
        | (refine Vr (wpAny_load ho ?_)
           rw [hc, hd]
           show VG M A (if (["enumerate", "zip", "dict_itemiterator", "dict_reverseitemiterator", "odict_iterator", "itertools.zip_longest", "itertools.pairwise"].contains n && vs[0]? == some (WM _)) = true then _ else _) Q E s
           rw [if_neg (by intro h;rw [hn, Zv] at h;cases h)]
           exact Vv hQ))
def Itl (K:VB)(a:Addr):It :=
 ⟨fun i H=>∃ xs x,SqL K H a xs/\xs[i]? = some x,fun i H x H'=>H'=H/\∀ xs,SqL K H a xs->xs[i]? = some x,fun i H=>∃ xs,SqL K H a xs/\xs.length<=i⟩
def Itt (K:VB)(a:Addr):It :=
 ⟨fun i H=>∃ xs x,SqT K H a xs/\xs[i]? = some x,fun i H x H'=>H'=H/\∀ xs,SqT K H a xs->xs[i]? = some x,fun i H=>∃ xs,SqT K H a xs/\xs.length<=i⟩
def Itr (lo:Int)(n:Nat):It:=⟨fun i _=>i < n,fun i H x H'=>H'=H/\x = .int (lo+i),fun i _=>n<=i⟩
def Io {P:V4}{w:Wn}{K:VB}{tg:Expr}(a it:Addr):Turn P w K tg (Itl K a) [it] it (fun i h=>h.IsListIter it a i) where
 mem:=by simp
 obj:=fun i h st b hb=>by
  have e:b=it:=by simpa using hb
  subst e
  obtain⟨o,e,c,d⟩:=st
  exact⟨o,e,fun v z=>by rw[d] at z;cases z⟩
 keep:=fun i h h' st k=>st.at fun o e=>k it (by simp) o e
 item:=by
  intro X hP hw hK hc i ZY s σ H E I hf st hg
  subst hP hw hK
  obtain⟨xs,x,hq,hx⟩:=hg
  obtain⟨its,rv,p,hz⟩:=I.list hq
  obtain⟨u,hu,ru⟩:=rv.get hx
  obtain⟨f0,f1,f2,f3,f4,f5⟩:=hf it (by simp)
  refine wpAny_pyNext_list_item st p.isList (x:=u) (by simpa using hu) fun h' st' sb=>?_
  have I1:Inv X ZY σ H { s with heap:=h' }:=I.turned (t':=s.toks) (fun b o hb e=>(sb.2 b hb).trans e) f0 f1 f3 f4 f5
  obtain⟨o,e,c,d⟩:=id st'
  exact⟨u,U,Kl (s:={ s with heap:=h' }) e c d (by decide) ⟨x,H,I1,ru,⟨U,fun ys hy=>by rw[I.Aq hy hq];exact hx⟩,st',fun b hb=>(hf b hb).1⟩⟩
 done:=by
  intro X hP hw hK hc i ZY s σ H E I hf st hg
  subst hP hw hK
  obtain⟨xs,hq,hx⟩:=hg
  obtain⟨its,rv,p,hz⟩:=I.list hq
  obtain⟨f0,f1,f2,f3,f4,f5⟩:=hf it (by simp)
  have hl:=rv.length
  exact wpAny_pyNext_list_end (I.ok.hd hc) st p.isList (by simp;lia) fun h' eb=>⟨U,I.turned (t':=s.toks) (fun b o hb e=>eb b o hb e) f0 f1 f3 f4 f5⟩
 self:=fun _ _ _ _ _ st h=>wpAny_pyIter_listiter st h
def DW {P:V4}{w:Wn}{K:VB}{tg:Expr}(a it:Addr):Turn P w K tg (Itt K a) [it] it (fun i h=>h.IsTupleIter it a i) where
 mem:=by simp
 obj:=fun i h st b hb=>by
  have e:b=it:=by simpa using hb
  subst e
  obtain⟨o,e,c,d⟩:=st
  exact⟨o,e,fun v z=>by rw[d] at z;cases z⟩
 keep:=fun i h h' st k=>st.at fun o e=>k it (by simp) o e
 item:=by
  intro X hP hw hK hc i ZY s σ H E I hf st hg
  subst hP hw hK
  obtain⟨xs,x,hq,hx⟩:=hg
  obtain⟨its,rv,p,hz⟩:=I.tuple hq
  obtain⟨u,hu,ru⟩:=rv.get hx
  obtain⟨f0,f1,f2,f3,f4,f5⟩:=hf it (by simp)
  refine wpAny_pyNext_tuple_item st (show s.heap.IsTuple a its.toArray from p) (x:=u) (by simpa using hu) fun h' st' sb=>?_
  have I1:Inv X ZY σ H { s with heap:=h' }:=I.turned (t':=s.toks) (fun b o hb e=>(sb.2 b hb).trans e) f0 f1 f3 f4 f5
  obtain⟨o,e,c,d⟩:=id st'
  exact⟨u,U,Kl (s:={ s with heap:=h' }) e c d (by decide) ⟨x,H,I1,ru,⟨U,fun ys hy=>by rw[I.vX hy hq];exact hx⟩,st',fun b hb=>(hf b hb).1⟩⟩
 done:=by
  intro X hP hw hK hc i ZY s σ H E I hf st hg
  subst hP hw hK
  obtain⟨xs,hq,hx⟩:=hg
  obtain⟨its,rv,p,hz⟩:=I.tuple hq
  obtain⟨f0,f1,f2,f3,f4,f5⟩:=hf it (by simp)
  have hl:=rv.length
  exact wpAny_pyNext_tuple_end (I.ok.hd hc) st (show s.heap.IsTuple a its.toArray from p) (by simp;lia) fun h' eb=>⟨U,I.turned (t':=s.toks) (fun b o hb e=>eb b o hb e) f0 f1 f3 f4 f5⟩
 self:=fun _ _ _ _ _ st h=>wpAny_pyIter_tupleiter st h
def Ea {P:V4}{w:Wn}{K:VB}{tg:Expr}(it:Addr)(lo:Int)(n:Nat):Turn P w K tg (Itr lo n) [it] it (fun i h=>IsRangeIter h it (lo+(i:Nat) * 1) ((n:Int) - (i:Nat)) 1) where
 mem:=by simp
 obj:=fun i h st b hb=>by
  have e:b=it:=by simpa using hb
  subst e
  exact⟨_,st,fun v z=>by
   have z':Data.fields _=Data.cell v:=z
   cases z'⟩
 keep:=fun i h h' st k=>k it (by simp) _ st
 item:=by
  intro X hP hw hK hc i ZY s σ H E I hf st hg
  subst hP hw hK
  obtain⟨f0,f1,f2,f3,f4,f5⟩:=hf it (by simp)
  have W:=Walks.range (prog:=X.prog) (w:=X.w) (I.ok.hd hc) it lo 1 n
  refine W.item i s _ _ hg st fun v h' tk hv st' kk=>?_
  obtain⟨t,rfl⟩:=hv
  have I1:Inv X ZY σ H { s with heap:=h',toks:=tk }:=I.turned (fun b o hb e=>kk b o (by simpa using hb) e) f0 f1 f3 f4 f5
  refine⟨_,U,Kl (s:={ s with heap:=h',toks:=tk }) (n:="range_iterator") st' U U (by decide) ⟨.int (lo+i),H,I1,⟨t,?_⟩,⟨U,U⟩,st',fun b hb=>(hf b hb).1⟩⟩
  rw[Int.mul_one]
 done:=by
  intro X hP hw hK hc i ZY s σ H E I hf st hg
  subst hP hw hK
  obtain⟨f0,f1,f2,f3,f4,f5⟩:=hf it (by simp)
  exact wpAny_pyNext_range_end (I.ok.hd hc) st (by have:n<=i:=hg;lia) fun h' eb=>⟨U,I.turned (t':=s.toks) (fun b o hb e=>eb b o hb e) f0 f1 f3 f4 f5⟩
 self:=fun _ _ _ _ _ st h=>wpAny_pyIter_rangeiter st h
section
variable {X:Cx}{tg:Expr}
def Nt (K:VB)(tl:TE):TI:=fun σ H R=>tl σ H fun x H1=>∃ a,x = .ref a/\(∃ xs,SqL K H1 a xs)/\R (Itl K a) H1
def UW (K:VB)(tl:TE):TI:=fun σ H R=>tl σ H fun x H1=>∃ a,x = .ref a/\(∃ xs,SqT K H1 a xs)/\R (Itt K a) H1
def dC {l:Expr}{tl:TE}(hl:PE X l tl):PI X tg l (Nt X.K tl):=by
 intro ZY s σ H R I h
 refine thn (hl ZY s σ H _ I h) fun v s1 ⟨x,H1,I1,r1,q1⟩=>?_
 obtain⟨a,e,⟨xs,hq⟩,q⟩:=q1
 subst e
 cases r1
 obtain⟨its,rv,p,hz⟩:=I1.list hq
 refine ZX p.isList ?_
 refine⟨s1.heap.objs.size,[s1.heap.objs.size],_,_,H1,U,I1.kept (t':=s1.toks) fun b o e=>Vu _ e,Io a _,⟨_,VN _ U,U,U⟩,fun b hb=>?_,q⟩
 have e:b=s1.heap.objs.size:=by simpa using hb
 subst e
 exact I1.Pz (Vw _) (I1.hok.fresh (Vw _))
def dq {l:Expr}{tl:TE}(hl:PE X l tl):PI X tg l (UW X.K tl):=by
 intro ZY s σ H R I h
 refine thn (hl ZY s σ H _ I h) fun v s1 ⟨x,H1,I1,r1,q1⟩=>?_
 obtain⟨a,e,⟨xs,hq⟩,q⟩:=q1
 subst e
 cases r1
 obtain⟨its,rv,p,hz⟩:=I1.tuple hq
 refine wpAny_pyIter_tuple (show s1.heap.IsTuple a its.toArray from p) ?_
 refine⟨s1.heap.objs.size,[s1.heap.objs.size],_,_,H1,U,I1.kept (t':=s1.toks) fun b o e=>Vu _ e,DW a _,⟨_,VN _ U,U,U⟩,fun b hb=>?_,q⟩
 have e:b=s1.heap.objs.size:=by simpa using hb
 subst e
 exact I1.Pz (Vw _) (I1.hok.fresh (Vw _))
def Lk {ZY:DI}{σ:St}{H:Hp}{s:Vt}{R:It->Hp->Prop}{E:DM}{lo hi:Int}{t u v:Tok}{tk:Nat}(I:Inv X ZY σ H s)(h1 : -(2 ^ 62)<=lo)(h2:lo < 2 ^ 62)(h3 : -(2 ^ 62)<=hi)(h4:hi < 2 ^ 62)
  (q:R (Itr lo (hi - lo).toNat) H):VG (VM X.prog X.w) X.A (abi (.ref s.heap.objs.size)) (PIE X ZY σ tg R) E { s with heap:=s.heap.push { cls:=.type "range",data:=.fields #[.int lo t,.int hi u,.int 1 v] },toks:=tk }:=by
 refine wpAny_pyIter_range (IsRange.new ..) (small_one h1 h2 h3 h4) ?_
 have I1:Inv X ZY σ H { s with heap:=s.heap.push { cls:=.type "range",data:=.fields #[.int lo t,.int hi u,.int 1 v] },toks:=tk }:=I.kept fun b o e=>Vu _ e
 refine⟨(s.heap.push { cls:=.type "range",data:=.fields #[.int lo t,.int hi u,.int 1 v] }).objs.size,[(s.heap.push { cls:=.type "range",data:=.fields #[.int lo t,.int hi u,.int 1 v] }).objs.size],_,_,H,U,
  I1.kept (t':=tk) fun b o e=>Vu _ e,Ea _ lo (hi - lo).toNat,?_,fun b hb=>?_,q⟩
 ·have e1:lo+((0:Nat):Int) * 1=lo:=by simp
  have e2:(((hi - lo).toNat:Nat):Int) - ((0:Nat):Int)=Builtin.Range.rangeSize lo hi 1:=by rw[rangeSize_one];split <;> lia
  show IsRangeIter _ _ (lo+((0:Nat):Int) * 1) ((((hi - lo).toNat:Nat):Int) - ((0:Nat):Int)) 1
  rw[e1,e2]
  exact VN _ U
 ·have e:b=(s.heap.push { cls:=.type "range",data:=.fields #[.int lo t,.int hi u,.int 1 v] }).objs.size:=by simpa using hb
  subst e
  exact I1.Pz (Vw _) (I1.hok.fresh (Vw _))
def Td (ta:TA):TI:=fun σ H R=>ta σ H fun vs H1=>∃ j:Int,vs=[.int j]/\-(2 ^ 62)<=j/\j < 2 ^ 62/\R (Itr 0 j.toNat) H1
def bW {a:Expr} {ta:TA} {p pos:ZD} (hg:Gl X "range") (hm:X.mg "range" = none) (ha:PA X [a] ta) (hs:Wc [a] X.env=[(false,Xv a X.env)]:=by rfl):PI X tg (.Call (.Name "range" p) [a] [] pos) (Td ta):=by
 intro ZY s σ H R I h
 refine Call_ (kJ I hg hm boot_range (Ym (thn (ha pos ZY s σ H _ I h) fun us s1 ⟨vs,H1,I1,r1,q1⟩=>?_) hs U))
 obtain⟨j,e,q1,q2,q⟩:=q1
 subst e
 cases r1 with
 | cons r rr =>
  cases rr
  obtain⟨t,rfl⟩:=r
  exact call_range_1 (Lk I1 (by lia) (by lia) q1 q2 (by simpa using q))
def Vp (wi:TI)(g:TG)(tb:TS):TS:=fun D σ H=>wi σ H fun J H1=>∃ W:Nat->Nat->St->Hp->Prop,(∃ m,W 0 m σ H1)/\∀ i m σ H,W i m σ H →
 (J.stop i H/\D.nx σ H)∨(J.go i H/\∃ N:St->Hp->Prop,(∀ σ' H',N σ' H'->∃ m',m' < m/\W (i+1) m' σ' H')/\∀ x H',J.yld i H x H'->g x σ H' fun σ2 H2=>tb { D with nx:=N,ct:=N,bk:=D.nx } σ2 H2)
def o5 (fp:D0)(h:WD):DI:=fp.filterMap fun b=>(h.get? b).map fun o=>(b,o)
def dN {fp:D0}{h:WD}{b:Addr}{o:X8}(hb:b∈fp)(e:h.get? b=some o):(b,o)∈o5 fp h:=List.mem_filterMap.mpr ⟨b,hb,by rw[e];rfl⟩
def Gi {fp:D0}{h:WD}{p:Addr × X8}(hp:p∈o5 fp h):p.1∈fp/\h.get? p.1=some p.2:=by
 obtain⟨b,hb,e⟩:=List.mem_filterMap.mp hp
 cases q:h.get? b with
 | none=>rw[q] at e;cases e
 | some o =>
  rw[q] at e
  have e':(b,o)=p:=Wo e
  subst e'
  exact⟨hb,q⟩
def Inv.pinned {ZY:DI}{σ:St}{H:Hp}{s:Vt}{fp:D0}(I:Inv X ZY σ H s)(hf:∀ b∈fp,yM X ZY H b)(ho:∀ b∈fp,∃ o,s.heap.get? b=some o/\∀ v,o.data≠.cell v):Inv X (ZY++o5 fp s.heap) σ H s :=
 I.FZ fun p hp=>(List.mem_append.mp hp).elim (fun z=>I.pin p (Wj _ z)) fun z=>by
  obtain⟨hb,e⟩:=Gi z
  obtain⟨f0,f1,f2,_⟩:=hf p.1 hb
  obtain⟨o,e',d⟩:=ho p.1 hb
  rw[e] at e';cases e'
  exact⟨e,f0,f1,f2,d⟩
def Inv.j0 {ZY pl:DI}{σ:St}{H:Hp}{s:Vt}(I:Inv X (ZY++pl) σ H s):Inv X ZY σ H s:=I.FZ fun p hp=>I.pin p (Wj _ (aai _ hp))
def cV {iter:Expr}{body:D3}{wi:TI}{g:TG}{tb:TS}{pos:ZD}(hp:PassesOwn (VM X.prog X.w) X.A X.env X.xe)(hc:X.calm=true)(hi:PI X tg iter wi)(hg:PG X tg g)(hb:PSs X body tb)
  (hs:∀ x,Ye iter X.env x=pure x:=by intro _;rfl):PS X (.For tg iter body [] pos) (Vp wi g tb):=by
 intro ZY s σ H D I h
 refine wpAny_For (thn (hi ZY s σ H _ I h) fun v s1 h1=>thn h1 fun itv s2 h2=>?_) hs
 obtain⟨it,fp,tn,J,H2,e,I2,T,st2,f2,W,⟨m0,w0⟩,turn⟩:=h2
 subst e
 have stat:∀ {H':Hp},(∀ b∈fp,H' b=none)->∀ b∈fp,yM X ZY H' b:=fun hn b hb=>⟨hn b hb,(f2 b hb).2⟩
 refine codeAny_forLoop_any (fun n s'=>∃ i σ' H',Inv X ZY σ' H' s'/\tn i s'.heap/\(∀ b∈fp,H' b=none)/\W i n σ' H') ?_ m0 ⟨0,σ,H2,I2,st2,fun b hb=>(f2 b hb).1,w0⟩
 rintro n s3 ⟨i,σ3,H3,I3,st3,fr3,w3⟩
 rcases turn i n σ3 H3 w3 with⟨stop,qn⟩ | ⟨go,N,hN,step⟩
 ·refine aal hp (thn (T.done X U U U hc i ZY s3 σ3 H3 X.xe I3 (stat fr3) st3 stop) fun r s4 ⟨hr,I4⟩=>?_)
  subst hr
  exact aam ⟨σ3,H3,I4,qn⟩
 ·refine aal hp (thn (T.item X U U U hc i ZY s3 σ3 H3 X.xe I3 (stat fr3) st3 go) fun r s4 ⟨u,hr,h4⟩=>?_)
  subst hr
  refine aal hp (thn h4 fun _ s5 ⟨x,H5,I5,r5,y5,st5,fr5⟩=>?_)
  have I5':=I5.pinned (stat fr5) (T.obj _ _ st5)
  refine aal hp (thn (hg _ s5 σ3 H5 x u _ I5' r5 (step x H5 y5)) fun _ s6 ⟨σ6,H6,I6,q6⟩=>?_)
  refine aal hp (thn (hb _ s6 σ6 H6 _ I6 q6) fun f s7 q7=>?_)
  have again:∀ {σ7:St} {H7:Hp},Inv X (ZY++o5 fp s5.heap) σ7 H7 s7->N σ7 H7->∃ m,m < n/\∃ i σ' H',Inv X ZY σ' H' s7/\tn i s7.heap/\(∀ b∈fp,H' b=none)/\W i m σ' H':=fun {σ7 H7} I7 n7=>by
   obtain⟨m',hm,w7⟩:=hN σ7 H7 n7
   refine⟨m',hm,i+1,σ7,H7,I7.j0,T.keep _ _ _ st5 fun b hb o e=>(I7.pin (b,o) (Wj _ (Wj _ (dN hb e)))).1,fun b hb=>?_,w7⟩
   obtain⟨o,e,d⟩:=T.obj _ _ st5 b hb
   exact (I7.pin (b,o) (Wj _ (Wj _ (dN hb e)))).2.1
  cases f with
  | next=>obtain⟨σ7,H7,I7,n7⟩:=q7;exact again I7 n7
  | cont=>obtain⟨σ7,H7,I7,n7⟩:=q7;exact again I7 n7
  | brk=>obtain⟨σ7,H7,I7,q7⟩:=q7;exact⟨σ7,H7,I7.j0,q7⟩
  | ret v=>obtain⟨x7,σ7,H7,I7,r7,q7⟩:=q7;exact⟨x7,σ7,H7,I7.j0,r7,q7⟩
end
def eV {K:VB}{a:Addr}{xs:List V}{g:TG}{tb:TS}{D:Ends}{σ:St}{H:Hp}(Pv:Nat->St->Hp->Prop)(h0:Pv 0 σ H)(hl:∀ i σ H,i<=xs.length->Pv i σ H->SqL K H a xs)
  (hs:∀ i x σ H,xs[i]? = some x->Pv i σ H->g x σ H fun σ2 H2=>tb { D with nx:=Pv (i+1),ct:=Pv (i+1),bk:=D.nx } σ2 H2) (hd:∀ σ H,Pv xs.length σ H->D.nx σ H) :
  ∃ W:Nat->Nat->St->Hp->Prop,(∃ m,W 0 m σ H)/\∀ i m σ H,W i m σ H →
   ((Itl K a).stop i H/\D.nx σ H)∨((Itl K a).go i H/\∃ N:St->Hp->Prop,(∀ σ' H',N σ' H'->∃ m',m' < m/\W (i+1) m' σ' H')/\∀ x H',(Itl K a).yld i H x H'->g x σ H' fun σ2 H2=>tb { D with nx:=N,ct:=N,bk:=D.nx } σ2 H2):=by
 refine⟨fun i m σ H=>m=xs.length - i/\i<=xs.length/\Pv i σ H,⟨xs.length,by simp,Wr _,h0⟩,?_⟩
 rintro i m σ H ⟨rfl,hi,p⟩
 have q:=hl i σ H hi p
 by_cases hlt:i < xs.length
 ·refine .inr ⟨⟨xs,xs[i],q,by simp [hlt]⟩,Pv (i+1),fun σ' H' p'=>⟨xs.length - (i+1),by lia,U,hlt,p'⟩,fun x H' y=>?_⟩
  obtain⟨e,y⟩:=y
  subst e
  exact hs i x σ _ (y xs q) p
 ·have e:i=xs.length:=by lia
  subst e
  exact .inl ⟨⟨xs,q,Vw _⟩,hd σ H p⟩
def eF {K:VB}{a:Addr}{xs:List V}{g:TG}{tb:TS}{D:Ends}{σ:St}{H:Hp}(Pv:Nat->St->Hp->Prop)(h0:Pv 0 σ H)(hl:∀ i σ H,i<=xs.length->Pv i σ H->SqT K H a xs)
  (hs:∀ i x σ H,xs[i]? = some x->Pv i σ H->g x σ H fun σ2 H2=>tb { D with nx:=Pv (i+1),ct:=Pv (i+1),bk:=D.nx } σ2 H2) (hd:∀ σ H,Pv xs.length σ H->D.nx σ H) :
  ∃ W:Nat->Nat->St->Hp->Prop,(∃ m,W 0 m σ H)/\∀ i m σ H,W i m σ H →
   ((Itt K a).stop i H/\D.nx σ H)∨((Itt K a).go i H/\∃ N:St->Hp->Prop,(∀ σ' H',N σ' H'->∃ m',m' < m/\W (i+1) m' σ' H')/\∀ x H',(Itt K a).yld i H x H'->g x σ H' fun σ2 H2=>tb { D with nx:=N,ct:=N,bk:=D.nx } σ2 H2):=by
 refine⟨fun i m σ H=>m=xs.length - i/\i<=xs.length/\Pv i σ H,⟨xs.length,by simp,Wr _,h0⟩,?_⟩
 rintro i m σ H ⟨rfl,hi,p⟩
 have q:=hl i σ H hi p
 by_cases hlt:i < xs.length
 ·refine .inr ⟨⟨xs,xs[i],q,by simp [hlt]⟩,Pv (i+1),fun σ' H' p'=>⟨xs.length - (i+1),by lia,U,hlt,p'⟩,fun x H' y=>?_⟩
  obtain⟨e,y⟩:=y
  subst e
  exact hs i x σ _ (y xs q) p
 ·have e:i=xs.length:=by lia
  subst e
  exact .inl ⟨⟨xs,q,Vw _⟩,hd σ H p⟩
def iH {lo:Int}{n:Nat}{g:TG}{tb:TS}{D:Ends}{σ:St}{H:Hp}(Pv:Nat->St->Hp->Prop)(h0:Pv 0 σ H)
  (hs:∀ i σ H,i < n->Pv i σ H->g (.int (lo+i)) σ H fun σ2 H2=>tb { D with nx:=Pv (i+1),ct:=Pv (i+1),bk:=D.nx } σ2 H2) (hd:∀ σ H,Pv n σ H->D.nx σ H) :
  ∃ W:Nat->Nat->St->Hp->Prop,(∃ m,W 0 m σ H)/\∀ i m σ H,W i m σ H →
   ((Itr lo n).stop i H/\D.nx σ H)∨((Itr lo n).go i H/\∃ N:St->Hp->Prop,(∀ σ' H',N σ' H'->∃ m',m' < m/\W (i+1) m' σ' H')/\∀ x H',(Itr lo n).yld i H x H'->g x σ H' fun σ2 H2=>tb { D with nx:=N,ct:=N,bk:=D.nx } σ2 H2):=by
 refine⟨fun i m σ H=>m=n - i/\i<=n/\Pv i σ H,⟨n,by simp,Wr _,h0⟩,?_⟩
 rintro i m σ H ⟨rfl,hi,p⟩
 by_cases hlt:i < n
 ·refine .inr ⟨hlt,Pv (i+1),fun σ' H' p'=>⟨n - (i+1),by lia,U,hlt,p'⟩,fun x H' y=>?_⟩
  obtain⟨e,y⟩:=y
  subst e y
  exact hs i σ _ hlt p
 ·have e:i=n:=by lia
  subst e
  exact .inl ⟨Vw _,hd σ H p⟩
abbrev R2:=V->V->Hp->VK->Prop
def OpR (X:Cx)(f:Value->Value->Sem Value)(r:R2):Prop :=
 ∀ (ZY:DI) (s:Vt) (σ:St) (H:Hp) (x y:V) (v u:Value) (Q:VK),Inv X ZY σ H s->RelV x v->RelV y u->r x y H Q →
  VG (VM X.prog X.w) X.A (f v u) (EP X ZY σ Q) X.xe s
def UnR (X:Cx)(f:Value->Sem Value)(r:V->Hp->VK->Prop):Prop :=
 ∀ (ZY:DI) (s:Vt) (σ:St) (H:Hp) (x:V) (v:Value) (Q:VK),Inv X ZY σ H s->RelV x v->r x H Q →
  VG (VM X.prog X.w) X.A (f v) (EP X ZY σ Q) X.xe s
def gf (X:Cx)(f:Value)(r:List V->Hp->VK->Prop):Prop :=
 ∀ (ZY:DI) (s:Vt) (σ:St) (H:Hp) (xs:List V) (us:DV) (Q:VK),Inv X ZY σ H s->Vals xs us->r xs H Q →
  VG (VM X.prog X.w) X.A (call f us) (EP X ZY σ Q) X.xe s
def tOp (r:R2)(ta tb:TE):TE:=fun σ H Q=>ta σ H fun x H1=>tb σ H1 fun y H2=>r x y H2 Q
def tUn (r:V->Hp->VK->Prop)(ta:TE):TE:=fun σ H Q=>ta σ H fun x H1=>r x H1 Q
inductive RII (C:Int->Int->Prop)(g:Int->Int->V)(x:V)(y:V)(H:Hp)(Q:VK):Prop where
 | mk (i:Int) (j:Int) (z0:x = .int i) (z1:y = .int j) (z2:C i j) (z3:Q (g i j) H):RII C g x y H Q
def rI (C:Int->Int->Prop)(g:Int->Int->V):R2:=fun x y H Q=>RII C g x y H Q
inductive Ux (g:Int->Int->V)(x:V)(y:V)(H:Hp)(Q:VK):Prop where
 | mk (i:Int) (j:Int) (z0:x = .int i) (z1:y = .int j) (z2:Q (g i j) H):Ux g x y H Q
def rI0 (g:Int->Int->V):R2:=fun x y H Q=>Ux g x y H Q
inductive RUI (g:Int->V)(x:V)(H:Hp)(Q:VK):Prop where
 | mk (i:Int) (z0:x = .int i) (z1:Q (g i) H):RUI g x H Q
def rU (g:Int->V):V->Hp->VK->Prop:=fun x H Q=>RUI g x H Q
section
variable {X:Cx}{a b c:Expr}{ta tb tc:TE}{pos:ZD}
def Uj (ha:PE X a ta)(hb:PE X b tb){ZY:DI}{s:Vt}{σ:St}{H:Hp}{R:V->V->Hp->Prop}(I:Inv X ZY σ H s)
  (h:ta σ H fun x H1=>tb σ H1 fun y H2=>R x y H2) {Q:DM} {f:Value->Value->Sem Value}
  (hf:∀ v u s2 x y H2,Inv X ZY σ H2 s2->RelV x v->RelV y u->R x y H2->VG (VM X.prog X.w) X.A (f v u) Q X.xe s2) :
  VG (VM X.prog X.w) X.A (Xv a X.env) (fun v s₁=>VG (VM X.prog X.w) X.A (Xv b X.env) (fun u s₂=>VG (VM X.prog X.w) X.A (f v u) Q X.xe s₂) X.xe s₁) X.xe s:=by
 refine thn (ha ZY s σ H _ I h) fun v s1 ⟨x,H1,I1,r1,q1⟩=>?_
 refine thn (hb ZY s1 σ H1 _ I1 q1) fun u s2 ⟨y,H2,I2,r2,q2⟩=>?_
 exact hf v u s2 x y H2 I2 r1 r2 q2
def aR {op:Operator}{r:R2}(ho:OpR X (Z0 op) r)(ha:PE X a ta)(hb:PE X b tb):PE X (.BinOp a op b pos) (tOp r ta tb):=by
 intro ZY s σ H Q I h
 exact wpAny_BinOp (Uj ha hb I h fun v u s2 x y H2 I2 rx ry q=>ho ZY s2 σ H2 x y v u Q I2 rx ry q)
def yN {op:UnaryOp}{r:V->Hp->VK->Prop}(ho:UnR X (unaryOp op) r)(ha:PE X a ta):PE X (.UnaryOp op a pos) (tUn r ta):=by
 intro ZY s σ H Q I h
 exact UnaryOp_ (thn (ha ZY s σ H _ I h) fun v s1 ⟨x,H1,I1,r1,q1⟩=>ho ZY s1 σ H1 x v Q I1 r1 q1)
def opI {f:Value->Value->Sem Value}{C:Int->Int->Prop}{g:Int->Int->Int}
  (rule:∀ (i j:Int) (t u:Tok) (s:Vt) (Q:DM) (E:DM),C i j->Q (.int (g i j) s.toks) { s with toks:=s.toks+1 }->VG (VM X.prog X.w) X.A (f (.int i t) (.int j u)) Q E s) :
  OpR X f (rI C fun i j=>.int (g i j)):=by
 intro ZY s σ H x y v u Q I rx ry h
 obtain⟨i,j,rfl,rfl,hc,q⟩:=h
 obtain⟨t,rfl⟩:=rx
 obtain⟨t',rfl⟩:=ry
 exact rule i j t t' s _ _ hc ⟨.int (g i j),H,I.tok _,⟨_,U⟩,q⟩
def Ur {f:Value->Value->Sem Value}{g:Int->Int->Int}
  (rule:∀ (i j:Int) (t u:Tok) (s:Vt) (Q:DM) (E:DM),Q (.int (g i j) s.toks) { s with toks:=s.toks+1 }->VG (VM X.prog X.w) X.A (f (.int i t) (.int j u)) Q E s) :
  OpR X f (rI0 fun i j=>.int (g i j)):=by
 intro ZY s σ H x y v u Q I rx ry h
 obtain⟨i,j,rfl,rfl,q⟩:=h
 obtain⟨t,rfl⟩:=rx
 obtain⟨t',rfl⟩:=ry
 exact rule i j t t' s _ _ ⟨.int (g i j),H,I.tok _,⟨_,U⟩,q⟩
def Sw {f:Value->Value->Sem Value}{g:Int->Int->Bool}
  (rule:∀ (i j:Int) (t u:Tok) (s:Vt) (Q:DM) (E:DM),Q (.bool (g i j)) s->VG (VM X.prog X.w) X.A (f (.int i t) (.int j u)) Q E s) :
  OpR X f (rI0 fun i j=>.bl (g i j)):=by
 intro ZY s σ H x y v u Q I rx ry h
 obtain⟨i,j,rfl,rfl,q⟩:=h
 obtain⟨t,rfl⟩:=rx
 obtain⟨t',rfl⟩:=ry
 exact rule i j t t' s _ _ ⟨.bl (g i j),H,I,U,q⟩
def UL (i j:Int):Prop:=0 < j/\j < 1073741824
def Vg (i j:Int):Prop:=0<=j/\j<=1000000/\i.natAbs < 2 ^ 64
def SJ (i j:Int):Prop:=(-(2 ^ 64) < i/\i < 2 ^ 64)∨(-(2 ^ 64) < j/\j < 2 ^ 64)
def SJ.ok {i j:Int}(h:SJ i j):IntMulOk i j:=by
 rcases h with⟨h1,h2⟩ | ⟨h1,h2⟩
 ·exact .of_left (intBits_le_64 h1 h2)
 ·exact .of_right (intBits_le_64 h1 h2)
def bR:OpR X (Z0 .Add) (rI0 fun i j=>.int (i+j)):=Ur fun _ _ _ _ _ _ _ q=>add_int q
def fc:OpR X (Z0 .Sub) (rI0 fun i j=>.int (i - j)):=Ur fun _ _ _ _ _ _ _ q=>sub_int q
def iQ:OpR X (Z0 .Mult) (rI SJ fun i j=>.int (i * j)):=opI fun _ _ _ _ _ _ _ hc q=>mul_int q hc.ok
def uY:OpR X (Z0 .FloorDiv) (rI UL fun i j=>.int (i / j)):=opI fun i j _ _ _ _ _ hc q=>by
 have h1:(0:Int) < j:=hc.1
 have h2:j < 1073741824:=hc.2
 exact floordiv_int (by lia) (by rw[Int.fdiv_eq_ediv_of_nonneg i (by lia)];exact q) (.inl (PyProof.noPylong_small (by lia)))
def cA:OpR X (Z0 .Mod) (rI (fun _ j=>0 < j) fun i j=>.int (i % j)):=opI fun i j _ _ _ _ _ hc q=>by
 have h1:(0:Int) < j:=hc
 exact mod_int' (by lia) (by rw[Int.fmod_eq_emod_of_nonneg i (by lia)];exact q)
def qi:OpR X (Z0 .Pow) (rI Vg fun i j=>.int (i ^ j.toNat)):=opI fun _ _ _ _ _ _ _ hc q=>pow_int_small hc.1 hc.2.1 hc.2.2 q
def unI {f:Value->Sem Value}{g:Int->Int}
  (rule:∀ (i:Int) (t:Tok) (s:Vt) (Q:DM) (E:DM),Q (.int (g i) s.toks) { s with toks:=s.toks+1 }->VG (VM X.prog X.w) X.A (f (.int i t)) Q E s) :
  UnR X f (rU fun i=>.int (g i)):=by
 intro ZY s σ H x v Q I rx h
 obtain⟨i,rfl,q⟩:=h
 obtain⟨t,rfl⟩:=rx
 exact rule i t s _ _ ⟨.int (g i),H,I.tok _,⟨_,U⟩,q⟩
def rO:UnR X (unaryOp .USub) (rU fun i=>.int (-i)):=unI fun _ _ _ _ _ q=>neg_int q
end
def Us:V->V->Bool
 | .non,.non=>true | .non,.int _=>true | .int _,.non=>true | .non,.bl _=>true | .bl _,.non=>true | .non,.str _=>true | .str _,.non=>true
 | .int _,.int _=>true | .bl _,.bl _=>true | .str _,.str _=>true | .byt _,.byt _=>true
 | .int _,.str _=>true | .str _,.int _=>true | .bl _,.str _=>true | .str _,.bl _=>true
 | _,_=>false
def rEq:R2:=fun x y H Q=>Us x y=true/\Q (.bl (decide (x=y))) H
def rNe:R2:=fun x y H Q=>Us x y=true/\Q (.bl (!decide (x=y))) H
def Ip {i j:Int}:decide (V.int i=V.int j)=(i == j):=by
 rw[aap]
 simp
def M8 {i j:Bool}:decide (V.bl i=V.bl j)=(i == j):=by
 rw[aap]
 simp
def Jc {i j:Wb}:decide (V.str i=V.str j)=(i == j):=by
 rw[aap]
 simp
def HY {i j:Array UInt8}:decide (V.byt i=V.byt j)=(i.toList == j.toList):=by
 rw[aap]
 cases i
 cases j
 simp
section
variable {X:Cx}{a b c:Expr}{ta tb tc:TE}{pos:ZD}
def cF {ZY:DI}{σ:St}{H:Hp}{s:Vt}{Q:VK}{k k':Bool}(I:Inv X ZY σ H s)(q:Q (.bl k) H)(e:k=k'):EP X ZY σ Q (.bool k') s:=by
 subst e
 exact⟨.bl k,H,I,U,q⟩
def bj:OpR X (XR .Eq) rEq:=by
 intro ZY s σ H x y v u Q I rx ry h
 obtain⟨hs,q⟩:=h
 cases x with
 | non =>
  cases rx
  cases y with
  | non=>cases ry;exact PySem.EqNone.eq_none_none (cF I q (by simp))
  | bl j=>cases ry;exact PySem.EqNone.eq_none_bool (cF I q (by simp))
  | int j=>obtain⟨t',rfl⟩:=ry;exact PySem.EqNone.eq_none_int (cF I q (by simp))
  | str j=>obtain⟨t',rfl⟩:=ry;exact PySem.EqNone.eq_none_str (cF I q (by simp))
  | _=>exact absurd (show false=true from hs) Vy
 | bl i =>
  cases rx
  cases y with
  | non=>cases ry;exact PySem.EqNone.eq_bool_none (cF I q (by simp))
  | bl j=>cases ry;exact eq_bool (cF I q M8)
  | str j=>obtain⟨t',rfl⟩:=ry;exact PySem.EqMixed.eq_bool_str (cF I q (by simp))
  | _=>exact absurd (show false=true from hs) Vy
 | int i =>
  obtain⟨t,rfl⟩:=rx
  cases y with
  | non=>cases ry;exact PySem.EqNone.eq_int_none (cF I q (by simp))
  | int j=>obtain⟨t',rfl⟩:=ry;exact eq_int (cF I q Ip)
  | str j=>obtain⟨t',rfl⟩:=ry;exact PySem.EqMixed.eq_int_str (cF I q (by simp))
  | _=>exact absurd (show false=true from hs) Vy
 | str i =>
  obtain⟨t,rfl⟩:=rx
  cases y with
  | non=>cases ry;exact PySem.EqNone.eq_str_none (cF I q (by simp))
  | bl j=>cases ry;exact PySem.EqMixed.eq_str_bool (cF I q (by simp))
  | int j=>obtain⟨t',rfl⟩:=ry;exact PySem.EqMixed.eq_str_int (cF I q (by simp))
  | str j=>obtain⟨t',rfl⟩:=ry;exact eq_str (cF I q Jc)
  | _=>exact absurd (show false=true from hs) Vy
 | byt i =>
  obtain⟨t,rfl⟩:=rx
  cases y with
  | byt j=>obtain⟨t',rfl⟩:=ry;exact PySem.W.eq_bytes (cF I q HY)
  | _=>exact absurd (show false=true from hs) Vy
 | _=>cases y <;> exact absurd (show false=true from hs) Vy
def sI:OpR X (XR .NotEq) rNe:=by
 intro ZY s σ H x y v u Q I rx ry h
 obtain⟨hs,q⟩:=h
 cases x with
 | non =>
  cases rx
  cases y with
  | non=>cases ry;exact PySem.EqNone.ne_none_none (cF I q (by simp))
  | bl j=>cases ry;exact PySem.EqNone.ne_none_bool (cF I q (by simp))
  | int j=>obtain⟨t',rfl⟩:=ry;exact PySem.EqNone.ne_none_int (cF I q (by simp))
  | str j=>obtain⟨t',rfl⟩:=ry;exact PySem.EqNone.ne_none_str (cF I q (by simp))
  | _=>exact absurd (show false=true from hs) Vy
 | bl i =>
  cases rx
  cases y with
  | non=>cases ry;exact PySem.EqNone.ne_bool_none (cF I q (by simp))
  | bl j=>cases ry;exact ne_bool (cF I q (congrArg not M8))
  | str j=>obtain⟨t',rfl⟩:=ry;exact PySem.EqMixed.ne_bool_str (cF I q (by simp))
  | _=>exact absurd (show false=true from hs) Vy
 | int i =>
  obtain⟨t,rfl⟩:=rx
  cases y with
  | non=>cases ry;exact PySem.EqNone.ne_int_none (cF I q (by simp))
  | int j=>obtain⟨t',rfl⟩:=ry;exact ne_int (cF I q (congrArg not Ip))
  | str j=>obtain⟨t',rfl⟩:=ry;exact PySem.EqMixed.ne_int_str (cF I q (by simp))
  | _=>exact absurd (show false=true from hs) Vy
 | str i =>
  obtain⟨t,rfl⟩:=rx
  cases y with
  | non=>cases ry;exact PySem.EqNone.ne_str_none (cF I q (by simp))
  | bl j=>cases ry;exact PySem.EqMixed.ne_str_bool (cF I q (by simp))
  | int j=>obtain⟨t',rfl⟩:=ry;exact PySem.EqMixed.ne_str_int (cF I q (by simp))
  | str j=>obtain⟨t',rfl⟩:=ry;exact ne_str (cF I q (congrArg not Jc))
  | _=>exact absurd (show false=true from hs) Vy
 | byt i =>
  obtain⟨t,rfl⟩:=rx
  cases y with
  | byt j=>obtain⟨t',rfl⟩:=ry;exact PySem.W.ne_bytes (cF I q (congrArg not HY))
  | _=>exact absurd (show false=true from hs) Vy
 | _=>cases y <;> exact absurd (show false=true from hs) Vy
def uW:OpR X (XR .Lt) (rI0 fun i j=>.bl (decide (i < j))):=Sw fun _ _ _ _ _ _ _ q=>lt_int q
def PQ:OpR X (XR .LtE) (rI0 fun i j=>.bl (decide (i<=j))):=Sw fun _ _ _ _ _ _ _ q=>le_int q
def lC:OpR X (XR .Gt) (rI0 fun i j=>.bl (decide (j < i))):=Sw fun _ _ _ _ _ _ _ q=>gt_int q
def lJ:OpR X (XR .GtE) (rI0 fun i j=>.bl (decide (j<=i))):=Sw fun _ _ _ _ _ _ _ q=>ge_int q
def MN (b:Expr){op:CmpOp}(h:op≠.In:=by decide)(h2:op≠.NotIn:=by decide):Yr op b=false:=by
 have e1:(op == CmpOp.In)=false:=by cases op <;> first | rfl | exact absurd rfl h
 have e2:(op == CmpOp.NotIn)=false:=by cases op <;> first | rfl | exact absurd rfl h2
 cases b <;> simp [Yr,e1,e2]
def Fg {op:CmpOp}{r:R2}(ho:OpR X (XR op) r)(ha:PE X a ta)(hb:PE X b tb)(hm:Yr op b=false):PE X (.Compare a [op] [b] pos) (tOp r ta tb):=by
 intro ZY s σ H Q I h
 exact wpAny_Compare1 (Uj ha hb I h fun v u s2 x y H2 I2 rx ry q=>ho ZY s2 σ H2 x y v u Q I2 rx ry q) hm
def QJ (t:TE):TT:=fun σ H Q=>t σ H fun x H'=>ExB x fun k=>Q k H'
def fU {op:CmpOp}{r:R2}(ho:OpR X (XR op) r)(ha:PE X a ta)(hb:PE X b tb)(hm:Yr op b=false):PT X (.Compare a [op] [b] pos) (QJ (tOp r ta tb)):=by
 intro ZY s σ H Q I h
 refine wpAny_isTrue_Compare1 (thn (ha ZY s σ H _ I h) fun v s1 ⟨x,H1,I1,r1,q1⟩=>thn (hb ZY s1 σ H1 _ I1 q1) fun u s2 ⟨y,H2,I2,r2,q2⟩ =>
  thn (ho ZY s2 σ H2 x y v u _ I2 r1 r2 q2) fun c s3 ⟨z,H3,I3,r3,k,e,q3⟩=>?_) hm
 subst e
 cases r3
 exact X4 ⟨H3,I3,q3⟩
def uh:(sizeLine:Nat) < 2 ^ 63:=by rw[aco];decide
def vals1 {x:V}{us:DV}(r:Vals [x] us):∃ u,us=[u]/\RelV x u:=by
 cases r with
 | cons r1 r2=>cases r2;exact⟨_,U,r1⟩
def vals2 {x y:V}{us:DV}(r:Vals [x,y] us):∃ u w',us=[u,w']/\RelV x u/\RelV y w':=by
 cases r with
 | cons r1 r2 =>
  cases r2 with
  | cons r3 r4=>cases r4;exact⟨_,_,U,r1,r3⟩
def pW:gf X (.builtin "abs") (fun xs H Q=>∃ i,xs=[.int i]/\Q (.int (if i < 0 then -i else i)) H):=by
 intro ZY s σ H xs us Q I r h
 obtain⟨i,rfl,q⟩:=h
 obtain⟨u,rfl,t,rfl⟩:=vals1 r
 exact call_abs_int fun u tk=>⟨.int (if i < 0 then -i else i),H,I.tok _,⟨_,U⟩,q⟩
def rJ (hc:X.calm=true):gf X (.builtin "max") (fun xs H Q=>∃ i j,xs=[.int i,.int j]/\Q (.int (if j > i then j else i)) H):=by
 intro ZY s σ H xs us Q I r h
 obtain⟨i,j,rfl,q⟩:=h
 obtain⟨u,w',rfl,⟨t,rfl⟩,⟨t',rfl⟩⟩:=vals2 r
 refine max_two_ints (I.ok.hd hc) fun h' tk k=>⟨_,H,I.kept k,?_,q⟩
 by_cases hj:j > i
 ·rw[if_pos hj,if_pos hj];exact⟨_,U⟩
 ·rw[if_neg hj,if_neg hj];exact⟨_,U⟩
def GR (hc:X.calm=true):gf X (.builtin "min") (fun xs H Q=>∃ i j,xs=[.int i,.int j]/\Q (.int (if j < i then j else i)) H):=by
 intro ZY s σ H xs us Q I r h
 obtain⟨i,j,rfl,q⟩:=h
 obtain⟨u,w',rfl,⟨t,rfl⟩,⟨t',rfl⟩⟩:=vals2 r
 refine min_two_ints (I.ok.hd hc) fun h' tk k=>⟨_,H,I.kept k,?_,q⟩
 by_cases hj:j < i
 ·rw[if_pos hj,if_pos hj];exact⟨_,U⟩
 ·rw[if_neg hj,if_neg hj];exact⟨_,U⟩
def qu:gf X (.type "int") (fun xs H Q=>(∃ i,xs=[.int i]/\Q (.int i) H)∨∃ k,xs=[.bl k]/\Q (.int (if k then 1 else 0)) H):=by
 intro ZY s σ H xs us Q I r h
 rcases h with⟨i,rfl,q⟩ | ⟨k,rfl,q⟩
 ·obtain⟨u,rfl,t,rfl⟩:=vals1 r
  exact call_int_int ⟨.int i,H,I,⟨_,U⟩,q⟩
 ·obtain⟨u,rfl,r1⟩:=vals1 r
  cases r1
  exact call_int_bool ⟨.int (if k then 1 else 0),H,I.tok _,⟨_,U⟩,q⟩
end
structure Oo (h:WD)(x dx C:Addr)(mA:Wb->DO):Prop where
 obj:h.get? x=some (Yx C dx)
 ns:h.Ns1 dx mA
 ne:dx≠x
def yx {h:WD}{dx:Addr}{mA:Wb->DO}(n:h.Ns1 dx mA):∃ od,h.get? dx=some od/\∀ name,abm name od=some (mA name):=by
 obtain⟨o,es,ep,ho,hd,hk,_,hm⟩:=n
 refine⟨o,ho,fun name=>?_⟩
 have e:=hm name
 unfold nsFind findBy at e
 rw[← Array.find?_toList] at e
 unfold abm
 rw[hd]
 dsimp only
 split
 ·rename_i y q
  rw[q] at e
  exact congrArg some e
 ·rename_i q
  rw[q] at e
  have a:es.toList.any (·.refKey)=false:=by
   rw[List.any_eq_false]
   intro y hy
   obtain⟨z,t,hkey⟩:=hk y (Array.mem_toList_iff.mp hy)
   simp [DictEntry.refKey,hkey]
  have a':¬ es.toList.any (·.refKey)=true:=by rw[a];exact Vy
  rw[if_neg a']
  exact congrArg some e
def Oo.look {h:WD}{x dx C:Addr}{mA:Wb->DO}(I:Oo h x dx C mA):∃ od,PySem.W.InstAt h x (Yx C dx) C (some od)/\∀ name,abm name od=some (mA name) :=
 let ⟨od,ho,hl⟩:=yx I.ns
 ⟨od,⟨I.obj,U,U,ho⟩,hl⟩
section
variable {prog:V4}{w:Wn}{A:Wm}{E:DM}{s:Vt}{K:VB}{x dx C f:Addr}{mA:Wb->DO}{name:Wb}{v:Value}
def get_map {expr:Bool}{Q:DM}(X:K.In s.heap)(I:Oo s.heap x dx C mA)(hg:aac K C name=true)(hh:Zc K C=true)
  (ha:W5 K (.ref C) name=some none) (hv:mA name=some v) (hv':acb v=true) (h:Q v { s with toks:=s.toks+1 }) :
  VG (VM prog w) A (getAttr (.ref x) name expr) Q E s:=by
 obtain⟨od,J,hl⟩:=I.look
 exact PySem.W.get_value X J (abx hg).1 (PySem.W.findObj_own hh ha U (by rw[hl,hv])) hv' h
def Ku {pl:Sem Bool}{Q:Value × DV->Vt->Prop}(X:K.In s.heap)(I:Oo s.heap x dx C mA)(hg:aac K C name=true)
  (hf:W5 K (.ref C) name=some (some (.ref f))) (ht:abY K (.ref f)=true) (hv:mA name=none) (h:Q (.ref f,[.ref x]) s) :
  VG (VM prog w) A (Z9 (.ref x) name pl) Q E s:=by
 obtain⟨od,J,hl⟩:=I.look
 exact PySem.W.method_fn X J (abx hg).1 (abx hg).2 hf (beq_iff_eq.mp ht) (by show (abm name od).map (·.isSome)=some false;rw[hl,hv];rfl) h
def Ou {ns:D9}{Q:Unit->Vt->Prop}(X:K.In s.heap)(I:Oo s.heap x dx C mA)
  (hs:W5 K (.ref C) "__setattr__" = some (some (.builtin "object.__setattr__"))) (hp:abW K C=true) (ht:aa9 K C name=some none) (hh:Zc K C=true)
  (hw:PySem.Within mA ns) (hsz:ns.length<=sizeLine)
  (h:∀ h',Oo h' x dx C (fun y=>if y=name then some v else mA y)->YX dx s.heap h'->Q () { s with heap:=h',toks:=s.toks+2 }) :
  VG (VM prog w) A (setAttr (.ref x) name v) Q E s:=by
 obtain⟨od,J,hl⟩:=I.look
 refine PySem.W.set_plain X J hs (PySem.W.osa_open (s:={ s with toks:=s.toks+1 }) (r:=none) X J hp ht fun b=>?_)
 obtain⟨cd,hc,hd'⟩:=PySem.W.any_some hh
 have hx:s.heap.get? x=some ⟨.ref C,some dx,.plain,#[]⟩:=I.obj
 refine Vr (Vv (Vr (Vr (wpAny_loadPart hx (Vr (X7 (s:={ s with toks:=s.toks+1 }) (aby X hc) ?_))))))
 rw[hd']
 refine Vv (a:=some dx) (Vr (Vv (Vr ?_)))
 refine wpAny_nsSet1 (s:={ s with toks:=s.toks+1 }) I.ns fun h' hn2 hs2=>?_
 obtain⟨oD,esD,epD,hoD,hdD,hcD⟩:=hn2.count (PySem.Within.cons name v hw)
 refine Vr (wpAny_lookBehind hoD (by rw[hdD];exact pastItsLine_dict (Wf hcD (by rw[V2];lia))) ?_)
 exact Vv (h _ ⟨(hs2.2 _ (Xl I.ne)).trans I.obj,hn2,I.ne⟩ hs2)
def Lx {R:aaB->Vt->Prop}{vs:DV}{kw:DH}(X:K.In s.heap)(hm:acv K C=true)
  (hi:W5 K (.ref C) "__init__" = some (some (.ref f))) (hf:PySem.W.typeIn K (.ref f)=some (.type "function"))
  (h:Xi (VM prog w) (A.under (.builtin "type.__call__" ⟨.ref C::vs,kw⟩)) (.call (.ref f) ⟨.ref (s.heap.objs.size+1)::vs,kw⟩) (PySem.W.InitBack (s.heap.objs.size+1) R)
   {s with heap:=(s.heap.push X6).push (Yx C s.heap.objs.size) }) :
  Xi (VM prog w) A (.call (.ref C) ⟨vs,kw⟩) R s:=by
 obtain⟨hh,g,d,t,os⟩:=s
 exact PySem.W.make_core (PySem.W.makes_of X hm) (Zr X hi) (fun self=>PySem.W.bind_fn X self hf) (.inl U) h
end
def tW (f:Wb)(v:V):List (Wb × V)->List (Wb × V)
 | []=>[(f,v)]
 | (g,x)::r=>if g=f then (g,v)::r else (g,x)::tW f v r
theorem qm (f g:Wb)(v:V):∀ fs:List (Wb × V),(tW f v fs).lookup g=if g=f then some v else fs.lookup g
 | []=>by
  show Zu g [(f,v)]=_
  by_cases h:g=f
  ·have hb:(g == f)=true:=beq_iff_eq.mpr h
   simp only[Zu,hb,if_pos h]
  ·have hb:(g == f)=false:=beq_eq_false_iff_ne.mpr h
   simp only[Zu,hb,if_neg h]
 | (k,x)::r=>by
  have ih:=qm f g v r
  rw[show tW f v ((k,x)::r)=(if k=f then (k,v)::r else (k,x)::tW f v r) from U]
  by_cases hk:k=f
  ·rw[if_pos hk]
   by_cases h:g=k
   ·have hb:(g == k)=true:=beq_iff_eq.mpr h
    simp only[Zu,hb,if_pos (h.trans hk)]
   ·have hb:(g == k)=false:=beq_eq_false_iff_ne.mpr h
    simp only[Zu,hb,if_neg (fun e:g=f=>h (e.trans hk.symm))]
  ·rw[if_neg hk]
   by_cases h:g=k
   ·have hb:(g == k)=true:=beq_iff_eq.mpr h
    simp only[Zu,hb,if_neg (fun e:g=f=>hk (h.symm.trans e))]
   ·have hb:(g == k)=false:=beq_eq_false_iff_ne.mpr h
    simp only[Zu,hb]
    exact ih
theorem rD (f:Wb)(v:V):∀ fs:List (Wb × V),f∈(tW f v fs).map (·.1)/\∀ g,g∈fs.map (·.1)->g∈(tW f v fs).map (·.1)
 | []=>⟨by simp [tW],fun g h=>by simp at h⟩
 | (k,x)::r=>by
  obtain⟨i1,i2⟩:=rD f v r
  rw[show tW f v ((k,x)::r)=(if k=f then (k,v)::r else (k,x)::tW f v r) from U]
  by_cases hk:k=f
  ·rw[if_pos hk]
   subst hk
   exact⟨by simp,fun g h=>by simpa using h⟩
  ·rw[if_neg hk]
   refine⟨?_,fun g h=>?_⟩
   ·rw[WL]
    exact VR _ i1
   ·rw[WL] at h ⊢
    rcases List.mem_cons.mp h with e | e
    ·exact List.mem_cons.mpr (.inl e)
    ·exact VR _ (i2 g e)
theorem qL (f:Wb)(v:V):∀ fs:List (Wb × V),(tW f v fs).length<=fs.length+1
 | []=>by simp [tW]
 | (k,x)::r=>by
  have ih:=qL f v r
  rw[show tW f v ((k,x)::r)=(if k=f then (k,v)::r else (k,x)::tW f v r) from U]
  by_cases hk:k=f
  ·rw[if_pos hk,V2,V2];lia
  ·rw[if_neg hk,V2,V2];lia
def t7.some_of {v:V}{o:DO}(r:t7 (some v) o):∃ u,o=some u/\RelV v u:=by
 cases o with
 | none=>exact (show False from r).elim
 | some u=>exact⟨u,U,r⟩
def t7.none_of {o:DO}(r:t7 none o):o=none:=by
 cases o with
 | none=>rfl
 | some u=>exact (show False from r).elim
def xT {v:V}{u:Value}(r:RelV v u):acb u=true:=by
 cases v with
 | non=>cases (show u=Xk from r);rfl
 | bl b=>cases (show u=aa0 b from r);rfl
 | int i=>obtain⟨t,e⟩:=(show ∃ t,u=Ys i t from r);cases e;rfl
 | str x=>obtain⟨t,e⟩:=(show ∃ t,u=abv x t from r);cases e;rfl
 | byt b=>obtain⟨t,e⟩:=(show ∃ t,u=Value.bytes b t from r);cases e;rfl
 | flt b=>obtain⟨t,e⟩:=(show ∃ t,u=Value.float b t from r);cases e;rfl
 | ref a=>cases (show u=VV a from r);rfl
 | ty n=>cases (show u=YD n from r);rfl
section
variable {P:V4}{w:Wn}{H H':Hp}{h h':WD}{a C dx:Addr}{fs fs':List (Wb × V)}
def uz (hok:HOk P w H h)(e:H a=some (.ins C dx fs)):∃ mA,Oo h a dx C mA/\(∀ f,t7 (fs.lookup f) (mA f))/\PySem.Within mA (fs.map (·.1))/\fs.length<=1000/\H dx=some (.own a):=by
 obtain⟨d,z,ne,ob,mA,n,r,q⟩:=(show dU P w H h a (.ins C dx fs) from hok a _ e)
 exact⟨mA,⟨ob,n,ne⟩,r,q,z,d⟩
end
structure Cls (K:VB)(C:Addr):Prop where
 pg:aac K C Str.empty=true
 hd:Zc K C=true
 po:abW K C=true
 sa:W5 K (.ref C) "__setattr__" = some (some (.builtin "object.__setattr__"))
def Cls.get {K:VB}{C:Addr}(c:Cls K C)(f:Wb):aac K C f=true:=c.pg
def iD (K:VB)(C:Addr)(f:Wb):Prop:=W5 K (.ref C) f=some none
def iD.taker {K:VB}{C:Addr}{f:Wb}(n:iD K C f):aa9 K C f=some none:=by
 unfold aa9
 rw[show W5 K (.ref C) f=some none from n]
 rfl
structure Meth (K:VB)(C:Addr)(m:Wb)(f:Addr):Prop where
 at_:W5 K (.ref C) m=some (some (.ref f))
 fn:abY K (.ref f)=true
 kp:Xx K (.ref f)=true
section
variable {X:Cx}{ZY:DI}{σ:St}{H:Hp}{s:Vt}{a C dx:Addr}{fs:List (Wb × V)}{f:Wb}{v:V}{A:Wm}{E:DM}
def Di {b:Bool}{Q:DM}(I:Inv X ZY σ H s)(e:H a=some (.ins C dx fs))(c:Cls X.K C)(n:iD X.K C f)(l:fs.lookup f=some v)
  (h:∀ u s',Inv X ZY σ H s'->RelV v u->Q u s'):VG (VM X.prog X.w) A (getAttr (.ref a) f b) Q E s:=by
 obtain⟨mA,O,r,_,_,_⟩:=uz I.hok e
 obtain⟨u,hu,ru⟩:=t7.some_of (v:=v) (o:=mA f) (by rw[← l];exact r f)
 exact get_map I.kIn O (c.get f) c.hd n hu (xT ru) (h u _ (I.tok _) ru)
def tH {m:Wb}{g:Addr}{pl:Sem Bool}{Q:Value × DV->Vt->Prop}(I:Inv X ZY σ H s)(e:H a=some (.ins C dx fs))(c:Cls X.K C)(k:Meth X.K C m g)(l:fs.lookup m=none)
  (h:Q (.ref g,[.ref a]) s):VG (VM X.prog X.w) A (Z9 (.ref a) m pl) Q E s:=by
 obtain⟨mA,O,r,_,_,_⟩:=uz I.hok e
 have hn:mA m=none:=t7.none_of (by rw[← l];exact r m)
 exact Ku I.kIn O (c.get m) k.at_ k.fn hn h
def DK {y:V}{u:Value}{Q:Unit->Vt->Prop}(I:Inv X ZY σ H s)(e:H a=some (.ins C dx fs))(c:Cls X.K C)(n:iD X.K C f)(hl:fs.length < 1000)(ry:RelV y u)
  (h:∀ s',Inv X ZY σ (upd H a (.ins C dx (tW f y fs))) s'->Q () s'):VG (VM X.prog X.w) A (setAttr (.ref a) f u) Q E s:=by
 obtain⟨mA,O,r,wi,_,ho⟩:=uz I.hok e
 have hz:(fs.map (·.1)).length<=sizeLine:=by rw[Vs,aco];lia
 refine Ou I.kIn O c.sa c.po n.taker c.hd wi hz fun h' O' sb=>h _ ?_
 have hd:∃ o,h'.get? dx=some o:=let ⟨o,_,_,e',_⟩:=O'.ns;⟨o,e'⟩
 refine I.write (x:=a) (e:=dx) (by rw[e];exact YF) (.inr ho) (fun b q hb z=>(sb.2 b hb).trans z) hd ?_
 refine⟨by rw[aM O.ne];exact ho,?_,O.ne,O'.obj,_,O'.ns,fun g=>?_,fun g hg=>?_⟩
 ·have:=qL f y fs;lia
 ·show t7 ((tW f y fs).lookup g) (if g=f then some u else mA g)
  rw[qm]
  by_cases q:g=f
  ·rw[if_pos q,if_pos q];exact ry
  ·rw[if_neg q,if_neg q];exact r g
 ·by_cases q:g=f
  ·rw[q];exact (rD f y fs).1
  ·refine (rD f y fs).2 g (wi g fun z=>hg ?_)
   show (if g=f then some u else mA g)=none
   rw[if_neg q];exact z
def Inv.made (I:Inv X ZY σ H s):Inv X ZY σ (upd (upd H s.heap.objs.size (.own (s.heap.objs.size+1))) (s.heap.objs.size+1) (.ins C s.heap.objs.size []))
  {s with heap:=(s.heap.push X6).push (Yx C s.heap.objs.size) }:=by
 have e1:(s.heap.push X6).get? s.heap.objs.size=some X6:=VN s.heap U
 have e2:((s.heap.push X6).push (Yx C s.heap.objs.size)).get? (s.heap.objs.size+1)=some (Yx C s.heap.objs.size):=by
  have:=VN (s.heap.push X6) (o:=Yx C s.heap.objs.size) U
  rwa [Xy] at this
 have e3:(s.heap.push X6).Ns s.heap.objs.size (fun _=>none):=⟨X6,#[],_,e1,U,(fun e he=>absurd he (by simp)),fun _=>U⟩
 have I1:=I.laid (a:=s.heap.objs.size) (o:=.own (s.heap.objs.size+1)) (h':=s.heap.push X6) (t':=s.toks) (fun b u q=>Vu _ q) (Vw _) ⟨_,e1⟩
 refine I1.laid (a:=s.heap.objs.size+1) (o:=.ins C s.heap.objs.size []) (t':=s.toks) (fun b u q=>Vu _ q) (Nat.le_of_eq (Xy _ _)) ?_
 have ne:s.heap.objs.size≠s.heap.objs.size+1:=V5 (Yt _)
 refine⟨by rw[aM ne,aj],Wr _,ne,e2,fun _=>none,(Heap.Ns1.of_empty e3).at fun o q=>Vu _ q,fun _=>YF,fun y hy=>absurd U hy⟩
def Fz {prog:V4}{w:Wn}{env:Env}{e:Expr}{f:Wb}{pos:ZD}{s:Vt}{Q:DM}(hb:aae e f env (Xv e env)=Xv e env)
  (h:VG (VM prog w) A (Xv e env) (fun o s₁=>VG (VM prog w) A (getAttr o f true) Q E s₁) E s):VG (VM prog w) A (Xv (.Attribute e f pos) env) Q E s :=
 Attribute_any_ h (by rw[arm_eval_Attribute,hb])
end
def Uy (K:VB)(ta:TE)(f:Wb):TE:=fun σ H Q=>ta σ H fun x H1=>∃ a C dx fs v,x = .ref a/\H1 a=some (.ins C dx fs)/\Cls K C/\iD K C f/\fs.lookup f=some v/\Q v H1
def UT (K:VB)(ta tv:TE)(f:Wb):TS:=fun D σ H=>tv σ H fun y H1=>ta σ H1 fun x H2=>∃ a C dx fs,x = .ref a/\H2 a=some (.ins C dx fs)/\Cls K C/\iD K C f/\fs.length < 1000 ∧
 D.nx σ (upd H2 a (.ins C dx (tW f y fs)))
section
variable {X:Cx}{o e value:Expr}{f:Wb}{pos pos' tpos:ZD}{ta tv:TE}
def RC (he:PE X e ta)(hb:aae e f X.env (Xv e X.env)=Xv e X.env):PE X (.Attribute e f pos) (Uy X.K ta f):=by
 intro ZY s σ H Q I h
 refine Fz hb (thn (he ZY s σ H _ I h) fun u s1 ⟨x,H1,I1,rx,a,C,dx,fs,v,ex,ea,c,n,l,q⟩=>?_)
 subst ex
 obtain rfl:u=VV a:=rx
 exact Di I1 ea c n l fun u' s2 I2 ru=>⟨v,H1,I2,ru,q⟩
def mW (ha:PE X o ta)(hv:PE X value tv)(hs:abr value (some (.Attribute o f pos')) pos.line X.env=pure false):PS X (.Assign [.Attribute o f pos'] value pos) (UT X.K ta tv f):=by
 intro ZY s σ H D I h
 refine ab5 (thn (hv ZY s σ H _ I h) fun u s1 ⟨y,H1,I1,ry,q⟩=>thn (ha ZY s1 σ H1 _ I1 q) fun ov s2 ⟨x,H2,I2,rx,a,C,dx,fs,ex,ea,c,n,l,q2⟩=>?_) hs
 subst ex
 obtain rfl:ov=VV a:=rx
 exact DK I2 ea c n l ry fun s3 I3=>⟨σ,_,I3,q2⟩
end
section
variable {X:Cx}{ZY:DI}{σ:St}{H:Hp}{s:Vt}{A:Wm}{E:DM}{Q:DM}{c:Value}{b:Bool}
inductive Ei (K:VB)(H:Hp):V->Value->Prop where
 | non:Ei K H .non (.type "NoneType")
 | bl (x:Bool):Ei K H (.bl x) (.type "bool")
 | int (i:Int):Ei K H (.int i) (.type "int")
 | str (x:Wb):Ei K H (.str x) (.type "str")
 | flt (x:UInt64):Ei K H (.flt x) (.type "float")
 | lst {a:Addr} {xs:List V} (e:H a=some (.lst xs)):Ei K H (.ref a) (.type "list")
 | frz {a:Addr} {o:X8} {xs:List V} (e:H a=some (.frz o (.lst xs))):Ei K H (.ref a) (.type "list")
 | tup {a:Addr} {xs:List V} (e:H a=some (.tup xs)):Ei K H (.ref a) (.type "tuple")
 | dK {a:Addr} {kvs:List (Key × V)} (e:H a=some (.dK kvs)):Ei K H (.ref a) (.type "dict")
 | dT {a:Addr} {kvs:List (List Key × V)} (e:H a=some (.dT kvs)):Ei K H (.ref a) (.type "dict")
 | ins {a C dx:Addr} {fs:List (Wb × V)} (e:H a=some (.ins C dx fs)) (cl:Cls K C) (ha:W5 K (.ref C) "__class__" = some (some (.builtin "object.__class__")))
   (hn:PySem.W.specialIn K (.builtin "object.__class__") "__get__" = some (some (.builtin "getset_descriptor.__get__"))) (htk:PySem.W.takesIn K (.builtin "object.__class__")=some true)
   (hm:PySem.W.mroIn K C (.type "object")=some true):Ei K H (.ref a) (.ref C)
def HD {x:V}{u t:Value}(I:Inv X ZY σ H s)(rx:RelV x u)(ty:Ei X.K H x t)(e:PySem.W.kitOne X.K t c=some b)(h:∀ tk,Q (.bool b) { s with toks:=tk }) :
  VG (VM X.prog X.w) A (call (.builtin "isinstance") [u,c]) Q E s:=by
 cases ty with
 | non=>cases (show u=Xk from rx);exact XM PySem.W.kitx_none I.kIn YF e (fun z=>nomatch z) h
 | bl y=>cases (show u=aa0 y from rx);exact XM PySem.W.kitx_bool I.kIn YF e (fun z=>nomatch z) h
 | int i=>obtain⟨t,q⟩:=(show ∃ t,u=Ys i t from rx);cases q;exact XM PySem.W.kitx_int I.kIn YF e (fun z=>nomatch z) h
 | str y=>obtain⟨t,q⟩:=(show ∃ t,u=abv y t from rx);cases q;exact XM PySem.W.kitx_str I.kIn YF e (fun z=>nomatch z) h
 | flt y=>obtain⟨t,q⟩:=(show ∃ t,u=Value.float y t from rx);cases q;exact XM PySem.W.kitx_float I.kIn YF e (fun z=>nomatch z) h
 | @lst a xs ea =>
  cases (show u=VV a from rx)
  obtain⟨_,_,n,_,h1⟩:=(show dU X.prog X.w H s.heap a (.lst xs) from I.hok a _ ea)
  exact XM PySem.W.kitx_list I.kIn ⟨_,h1,U⟩ e (fun z=>nomatch z) h
 | @frz a ob xs ea =>
  cases (show u=VV a from rx)
  obtain⟨_,_,_,n,_,h1⟩:=(show dU X.prog X.w H s.heap a (.frz ob (.lst xs)) from I.hok a _ ea)
  exact XM PySem.W.kitx_list I.kIn ⟨_,h1,U⟩ e (fun z=>nomatch z) h
 | @tup a xs ea =>
  cases (show u=VV a from rx)
  obtain⟨_,_,_,p⟩:=(show dU X.prog X.w H s.heap a (.tup xs) from I.hok a _ ea)
  obtain⟨o,h1,h2,_⟩:=p
  exact XM PySem.W.kitx_tuple I.kIn ⟨o,h1,h2⟩ e (fun z=>nomatch z) h
 | @dK a kvs ea =>
  cases (show u=VV a from rx)
  obtain⟨_,_,vs,_,p⟩:=(show dU X.prog X.w H s.heap a (.dK kvs) from I.hok a _ ea)
  obtain⟨o,es,ep,h1,h2,_⟩:=p
  exact XM PySem.W.kitx_dict I.kIn ⟨o,h1,h2.1⟩ e (fun z=>nomatch z) h
 | @dT a kvs ea =>
  cases (show u=VV a from rx)
  obtain⟨_,_,xs,_,o,es,ep,h1,h2,_⟩:=(show dU X.prog X.w H s.heap a (.dT kvs) from I.hok a _ ea)
  exact XM PySem.W.kitx_dict I.kIn ⟨o,h1,h2.1⟩ e (fun z=>nomatch z) h
 | @ins a C dx fs ea cl ha hn htk hm =>
  cases (show u=VV a from rx)
  obtain⟨mA,O,_⟩:=uz I.hok ea
  obtain⟨od,J,_⟩:=O.look
  exact XM (PySem.W.kitx_own (cl.get _) cl.hd ha hn htk hm) I.kIn J e (fun z=>nomatch z) h
end
structure fj (k:Nat)(A:Wm):Prop where
 hd:A.handled=none
 dp:A.depth+3 * k+5 < recursionLimit
 un:A.units+16 * k+200 < cLine
def fj.mono {j k:Nat}{A:Wm}(r:fj k A)(h:j<=k):fj j A:=⟨r.hd,by have:=r.dp;lia,by have:=r.un;lia⟩
def fj.deeper {k:Nat}{A:Wm}(r:fj (k+1) A)(env:Env):fj k (A.deeper env) :=
 ⟨r.hd,by have:=r.dp;show A.depth+1+3 * k+5 < _;lia,by have:=r.un;show A.units+3+16 * k+200 < _;lia⟩
def Dv {A:Wm} {C:Addr} {us:DV} {kw:DH}:(A.under (.builtin "type.__call__" ⟨.ref C::us,kw⟩)).depth=A.depth+1:=by
 first | rfl | simp [Around.under,Code.weight,Code.isCreation,Code.isGuard,Code.isCaller,Code.frames,Code.isFrame,guardIds]
def Eg {A:Wm} {C:Addr} {us:DV} {kw:DH}:(A.under (.builtin "type.__call__" ⟨.ref C::us,kw⟩)).units=A.units+1:=by
 first | rfl | simp [Around.under,Code.cUnits,Code.frames,Code.isFrame]
def fj.make {k:Nat} {A:Wm} (r:fj (k+1) A) (C:Addr) (us:DV) (kw:DH):fj k (A.under (.builtin "type.__call__" ⟨.ref C::us,kw⟩)) :=
 ⟨r.hd,by have:=r.dp;rw[Dv];lia,by have:=r.un;rw[Eg];lia⟩
def fj.depth {k:Nat}{A:Wm}(r:fj k A):A.depth < recursionLimit:=by have:=r.dp;lia
def fj.o9 {k:Nat}{A:Wm}(r:fj k A):A.units < cLine:=by have:=r.un;lia
def Kv:TA:=fun _ H Q=>Q [] H
def JX (ta:TE)(tr:TA):TA:=fun σ H Q=>ta σ H fun x H1=>tr σ H1 fun xs H2=>Q (x::xs) H2
section
variable {X:Cx}{e:Expr}{es:D1}{te:TE}{t:TA}{pos:ZD}
def ao:PA X [] Kv:=fun _ _ _ _ H Q I h=>aaN ⟨[],H,I,.nil,h⟩
def aa (ha:PE X e te)(hr:PA X es t)(hs:Wc (e::es) X.env=(false,Xv e X.env)::Wc es X.env:=by rfl):PA X (e::es) (JX te t):=by
 intro pos ZY s σ H Q I h
 rw[hs]
 show VG _ _ (spliced ((false,Xv e X.env)::XX pos (Wc es X.env))) _ _ s
 refine aaG (thn (ha ZY s σ H _ I h) fun u s1 ⟨x,H1,I1,r1,q1⟩=>?_)
 exact thn (hr pos ZY s1 σ H1 _ I1 q1) fun us s2 ⟨xs,H2,I2,r2,q2⟩=>⟨x::xs,H2,I2,.cons r1 r2,q2⟩
def TY (t:TA):TE:=fun σ H Q=>t σ H fun xs H1=>xs.length<=sizeLine/\∀ p,H1 p=none->Q (.ref p) (upd H1 p (.tup xs))
def U6 (t:TA):TE:=fun σ H Q=>t σ H fun xs H1=>xs.length<=sizeLine/\∀ p,H1 p=none->Q (.ref p) (upd H1 p (.lst xs))
def aZ {x1}(h:PA X es t):PE X (.Tuple es x1 pos) (TY t):=by
 intro ZY s σ H Q I hq
 refine wpAny_Tuple_spliced (thn (h pos ZY s σ H _ I hq) fun us s1 ⟨xs,H1,I1,r,z,q⟩=>⟨by rw[← r.length];exact z,?_⟩)
 have hf:H1 s1.heap.objs.size=none:=I1.hok.fresh (Vw _)
 refine⟨.ref s1.heap.objs.size,upd H1 s1.heap.objs.size (.tup xs),I1.laid (t':=s1.toks) (fun b u e=>Vu _ e) (Vw _) ?_,U,q _ hf⟩
 exact⟨z,us,r,⟨_,VN _ U,U,_,U⟩⟩
def bA (h:PA X es t):PE X (.List es pos) (U6 t):=by
 intro ZY s σ H Q I hq
 refine wpAny_List_spliced (thn (h pos ZY s σ H _ I hq) fun us s1 ⟨xs,H1,I1,r,z,q⟩=>⟨by rw[← r.length];exact z,?_⟩)
 have hf:H1 s1.heap.objs.size=none:=I1.hok.fresh (Vw _)
 refine⟨.ref s1.heap.objs.size,upd H1 s1.heap.objs.size (.lst xs),I1.laid (t':=s1.toks) (fun b u e=>Vu _ e) (Vw _) ?_,U,q _ hf⟩
 exact⟨z,us,0,r,VN _ U⟩
end
abbrev Sp:=List V->Hp->VK->XK->Prop
abbrev CXT:=D4->Hp->Vt->XK->DM
structure Jw (P:V4)(w:Wn)(K:VB)(mg:Wb->DO)(base:WD)(A:Wm)(outer:D4)(s:Vt)(H:Hp):Prop where
 frames:A.frames=some outer
 mod:Mod K mg base
 bs:∀ b o,base.get? b=some o->s.heap.get? b=some o/\H b=none
 bsz:base.objs.size<=s.heap.objs.size
 um:s.heap.FunFrames base outer
 frf:∀ b∈frs outer,H b=none
 hok:HOk P w H s.heap
 bare:aaO s.gens
def CE (outer:D4)(P:V4)(w:Wn)(H:Hp)(s:Vt)(Q:VK)(u:Value)(s':Vt):Prop :=
 ∃ v H',s'.os=s.os/\aaO s'.gens/\Un (frs outer) [] H H' s.heap s'.heap/\HOk P w H' s'.heap/\RelV v u/\Q v H'
def CR (CX:CXT)(outer:D4)(P:V4)(w:Wn)(H:Hp)(s:Vt)(Q:VK)(E:XK)(r:aaB)(s':Vt):Prop :=
 match r with
 | .ok (.ret u)=>CE outer P w H s Q u s'
 | .ok _=>False
 | .error e=>CX outer H s E e s'
structure bH (P:V4)(w:Wn)(K:VB)(mg:Wb->DO)(base:WD)(CX:CXT)(k:Nat)(f:Addr)(fd:WR)(ps:D9)(sp:Sp):Prop where
 len:∀ vs H Q E,sp vs H Q E->vs.length=ps.length
 run:∀ (A:Wm) (outer:D4) (s:Vt) (H:Hp) (args:Args) (us:DV) (vs:List V) (Q:VK) (E:XK),fj k A->Jw P w K mg base A outer s H->aa6 s fd args (ps.zip us)->Vals vs us->sp vs H Q E →
  Xi (VM P w) A (.call (.ref f) args) (CR CX outer P w H s Q E) s
def bH.mono {P:V4}{w:Wn}{K:VB}{mg:Wb->DO}{base:WD}{CX:CXT}{j k:Nat}{f:Addr}{fd:WR}{ps:D9}{sp:Sp}(F:bH P w K mg base CX j f fd ps sp)(h:j<=k) :
  bH P w K mg base CX k f fd ps sp:=⟨F.len,fun A outer s H args us vs Q E hr=>F.run A outer s H args us vs Q E (hr.mono h)⟩
def Jw.make {P:V4}{w:Wn}{K:VB}{mg:Wb->DO}{base:WD}{A:Wm}{outer:D4}{s:Vt}{H:Hp}(e:Jw P w K mg base A outer s H)(C:Addr)(us:DV)(kw:DH) :
  Jw P w K mg base (A.under (.builtin "type.__call__" ⟨.ref C::us,kw⟩)) outer s H:=⟨by first | exact e.frames | (simpa [Around.under,Code.envs,Code.isFrame,pushEnvs] using e.frames),e.mod,e.bs,e.bsz,e.um,e.frf,e.hok,e.bare⟩
section
variable {X:Cx}{ZY:DI}{σ:St}{H:Hp}{s s':Vt}
def Inv.env0 (I:Inv X ZY σ H s):Jw X.prog X.w X.K X.mg X.base X.A X.stack s H :=
 ⟨I.ok.frames,I.ok.mod,I.bs,Wf I.ok.bsz I.sz,I.stack,I.Ah,I.hok,I.bare⟩
def Inv.after {Q:VK}{u:Value}(I:Inv X ZY σ H s)(h:CE X.stack X.prog X.w H s Q u s'):EP X ZY σ Q u s':=by
 obtain⟨v,H',os,bare,un,hok,r,q⟩:=h
 obtain⟨hh,g,d,t,os'⟩:=s'
 obtain rfl:os'=s.os:=os
 exact⟨v,H',I.call (h':=hh) (g':=g) (d':=d) (t':=t) (ch:=[]) un hok bare (fun b z=>absurd z (by simp)),r,q⟩
end
def G5 (sp:Sp)(dvs:List V)(E:XK)(t:TA):TE:=fun σ H Q=>t σ H fun vs H1=>sp (vs++dvs) H1 Q E
def FT (C:Addr)(m:Wb)(sp:Sp)(dvs:List V)(E:XK)(ta:TE)(t:TA):TE:=fun σ H Q=>ta σ H fun x H1=>∃ a dx fs,x = .ref a/\H1 a=some (.ins C dx fs)/\fs.lookup m=none ∧
 t σ H1 fun vs H2=>sp (x::(vs++dvs)) H2 Q E
def JK (C:Addr)(sp:Sp)(dvs:List V)(E:XK)(t:TA):TE:=fun σ H Q=>t σ H fun vs H1=>∀ x dx,H1 x=none->H1 dx=none->dx≠x →
 sp (.ref x::(vs++dvs)) (upd (upd H1 dx (.own x)) x (.ins C dx [])) (fun v H2=>v = .non/\Q (.ref x) H2) E
def Binds (K:VB)(fd:WR)(ps:D9)(ds:DV):Prop :=
 ∀ (s:Vt) (us:DV),K.In s.heap->(us++ds).length=ps.length->aa6 s fd ⟨us,[]⟩ (ps.zip (us++ds))
def Binds.all {K:VB}{fd:WR}{ps:D9}(h:∀ us:DV,us.length=ps.length->Zk fd ⟨us,[]⟩=pure (ps.zip us)):Binds K fd ps []:=fun s us _ hl=>by
 rw[Xn] at hl ⊢
 exact .of_eq (h us hl)
def Passes (CX:CXT)(X:Cx)(E:XK):Prop:=∀ (ZY:DI) (σ:St) (H:Hp) (s:Vt) (e:Value) (s':Vt),Inv X ZY σ H s->CX X.stack H s E e s'->X.xe e s'
section
variable {X:Cx}{CX:CXT}{k:Nat}{f C:Addr}{fd:WR}{ps:D9}{sp:Sp}{dvs:List V}{ds:DV}{E:XK}{x m:Wb}{p pos apos:ZD}{e o:Expr}{es:D1}{ta:TE}{t:TA}
def Bo {ZY:DI}{σ:St}{H:Hp}{s:Vt}{Q:VK}{us:DV}{vs:List V}(F:bH X.prog X.w X.K X.mg X.base CX k f fd ps sp)(hr:fj k X.A)(hb:Binds X.K fd ps ds)(hd:Vals dvs ds)(hx:Passes CX X E)
  (I:Inv X ZY σ H s) (r:Vals vs us) (h:sp (vs++dvs) H Q E):VG (VM X.prog X.w) X.A (call (.ref f) us) (EP X ZY σ Q) X.xe s:=by
 have r2:Vals (vs++dvs) (us++ds):=r.append hd
 have hl:(us++ds).length=ps.length:=by rw[← r2.length];exact F.len _ _ _ _ h
 refine Zg (Yl (F.run X.A X.stack s H ⟨us,[]⟩ (us++ds) (vs++dvs) Q E hr I.env0 (hb s us I.kIn hl) r2 h) fun r s' hq=>?_)
 cases r with
 | error e=>exact hx ZY σ H s e s' I hq
 | ok fl =>
  cases fl with
  | ret u=>exact I.after hq
  | next=>exact Wu hq
  | brk=>exact Wu hq
  | cont=>exact Wu hq
def Hg (F:bH X.prog X.w X.K X.mg X.base CX k f fd ps sp)(hr:fj k X.A)(hg:Gl X x)(hm:X.mg x=some (.ref f))(hk:Xx X.K (.ref f)=true)(hb:Binds X.K fd ps ds)(hd:Vals dvs ds)(hx:Passes CX X E)
  (ha:PA X (e::es) t) (hdb:(x == ("__debug__" : Wb))=false:=by decide) (he:Wc (e::es) X.env=(false,Xv e X.env)::Wc es X.env:=by rfl) (hpl:(XX pos (Wc es X.env)).any (·.1)=false:=by rfl) :
  PE X (.Call (.Name x p) (e::es) [] pos) (G5 sp dvs E t):=by
 intro ZY s σ H Q I h
 refine Xj (jt I hg hm ?_ hdb)
 refine ZV (h₀:=X.base) I.ok.mod.kin hk (thn (ha pos ZY s σ H _ I h) fun us s1 ⟨vs,H1,I1,r,q⟩=>⟨I1.kIn,?_⟩) he hpl
 exact Bo F hr hb hd hx I1 r q
def Fj {pl:Sem Bool}(he:PE X o ta)(c:Cls X.K C)(hm:Meth X.K C m f)(F:bH X.prog X.w X.K X.mg X.base CX k f fd ps sp)(hr:fj k X.A)(hb:Binds X.K fd ps ds)(hd:Vals dvs ds)(hx:Passes CX X E)(ha:PA X (e::es) t)
  (hst:Wc (e::es) X.env=(false,Xv e X.env)::Wc es X.env:=by rfl) (hpl:(XX pos (Wc es X.env)).any (·.1)=false:=by rfl)
  (ht:Xv (.Call (.Attribute o m apos) (e::es) [] pos) X.env=(do
   let ov ← Xv o X.env
   Zx apos.atName
   let (f,first) ← ZP [ov] (Z9 ov m pl)
   abj pos f first (XX pos (Wc (e::es) X.env)) (aaz pos (Zi [] X.env))):=by rfl) :
  PE X (.Call (.Attribute o m apos) (e::es) [] pos) (FT C m sp dvs E ta t):=by
 intro ZY s σ H Q I h
 refine Z5 (pl:=pl) (thn (he ZY s σ H _ I h) fun u s1 ⟨x,H1,I1,rx,a,dx,fs,ex,ea,l,q⟩=>?_) ht
 subst ex
 obtain rfl:u=VV a:=rx
 refine tH I1 ea c hm l ?_
 refine ZV (first:=[.ref a]) (h₀:=X.base) I.ok.mod.kin hm.kp (thn (ha pos ZY s1 σ H1 _ I1 q) fun us s2 ⟨vs,H2,I2,r,q2⟩=>⟨I2.kIn,?_⟩) hst hpl
 exact Bo (us:=.ref a::us) (vs:=.ref a::vs) F hr hb hd hx I2 (.cons U r) q2
def La {pl:Sem Bool}(he:PE X o ta)(c:Cls X.K C)(hm:Meth X.K C m f)(F:bH X.prog X.w X.K X.mg X.base CX k f fd ps sp)(hr:fj k X.A)(hb:Binds X.K fd ps ds)(hd:Vals dvs ds)(hx:Passes CX X E)
  (ht:Xv (.Call (.Attribute o m apos) [] [] pos) X.env=(do
   let ov ← Xv o X.env
   Zx apos.atName
   let (f,first) ← ZP [ov] (Z9 ov m pl)
   abj pos f first (XX pos (Wc [] X.env)) (aaz pos (Zi [] X.env))):=by rfl) :
  PE X (.Call (.Attribute o m apos) [] [] pos) (FT C m sp dvs E ta Kv):=by
 intro ZY s σ H Q I h
 refine Z5 (pl:=pl) (thn (he ZY s σ H _ I h) fun u s1 ⟨x,H1,I1,rx,a,dx,fs,ex,ea,l,q⟩=>?_) ht
 subst ex
 obtain rfl:u=VV a:=rx
 refine tH I1 ea c hm l ?_
 exact abz (first:=[.ref a]) I1.kIn hm.kp (Bo (us:=[.ref a]) (vs:=[.ref a]) F hr hb hd hx I1 (.cons U .nil) q)
structure Mk (K:VB)(C f:Addr):Prop where
 makes:acv K C=true
 init:W5 K (.ref C) "__init__" = some (some (.ref f))
 fn:abY K (.ref f)=true
 kp:Xx K (.ref C)=true
def Bd {ZY:DI}{σ:St}{H:Hp}{s:Vt}{Q:VK}{us:DV}{vs:List V}(M:Mk X.K C f)(F:bH X.prog X.w X.K X.mg X.base CX k f fd ps sp)(hr:fj (k+1) X.A)(hb:Binds X.K fd ps ds)(hd:Vals dvs ds)
  (hx:Passes CX X E) (I:Inv X ZY σ H s) (r:Vals vs us)
  (h:∀ x dx,H x=none->H dx=none->dx≠x->sp (.ref x::(vs++dvs)) (upd (upd H dx (.own x)) x (.ins C dx [])) (fun v H2=>v = .non/\Q (.ref x) H2) E) :
  VG (VM X.prog X.w) X.A (call (.ref C) us) (EP X ZY σ Q) X.xe s:=by
 have hq:=h (s.heap.objs.size+1) s.heap.objs.size (I.hok.fresh (Xq _)) (I.hok.fresh (Vw _)) (V5 (Yt _))
 have I2:=Inv.made (C:=C) I
 have r2:Vals (V.ref (s.heap.objs.size+1)::(vs++dvs)) (VV (s.heap.objs.size+1)::(us++ds)):=.cons U (r.append hd)
 have hl:(VV (s.heap.objs.size+1)::us++ds).length=ps.length:=by
  have e:=r2.length
  rw[F.len _ _ _ _ hq] at e
  exact e.symm
 refine Zg (Lx (f:=f) I.kIn M.makes M.init (beq_iff_eq.mp M.fn) (Yl (F.run _ X.stack _ _ ⟨VV (s.heap.objs.size+1)::us,[]⟩ (VV (s.heap.objs.size+1)::(us++ds)) _ _ E (hr.make C us [])
  (I2.env0.make C us []) (hb _ (VV (s.heap.objs.size+1)::us) I2.kIn hl) r2 hq) fun r s' hq'=>?_))
 cases r with
 | error e=>exact hx ZY σ _ _ e s' I2 hq'
 | ok fl =>
  cases fl with
  | ret u =>
   obtain⟨v,H',I3,rv,ev,q3⟩:=I2.after hq'
   subst ev
   exact⟨rv,⟨V.ref (s.heap.objs.size+1),H',I3,U,q3⟩⟩
  | next=>exact Wu hq'
  | brk=>exact Wu hq'
  | cont=>exact Wu hq'
def Oa (M:Mk X.K C f)(F:bH X.prog X.w X.K X.mg X.base CX k f fd ps sp)(hr:fj (k+1) X.A)(hg:Gl X x)(hm:X.mg x=some (.ref C))(hb:Binds X.K fd ps ds)(hd:Vals dvs ds)(hx:Passes CX X E)
  (ha:PA X (e::es) t) (hdb:(x == ("__debug__" : Wb))=false:=by decide) (he:Wc (e::es) X.env=(false,Xv e X.env)::Wc es X.env:=by rfl) (hpl:(XX pos (Wc es X.env)).any (·.1)=false:=by rfl) :
  PE X (.Call (.Name x p) (e::es) [] pos) (JK C sp dvs E t):=by
 intro ZY s σ H Q I h
 refine Xj (jt I hg hm ?_ hdb)
 refine ZV (h₀:=X.base) I.ok.mod.kin M.kp (thn (ha pos ZY s σ H _ I h) fun us s1 ⟨vs,H1,I1,r,q⟩=>⟨I1.kIn,?_⟩) he hpl
 exact Bd M F hr hb hd hx I1 r q
def J9 (M:Mk X.K C f)(F:bH X.prog X.w X.K X.mg X.base CX k f fd ps sp)(hr:fj (k+1) X.A)(hg:Gl X x)(hm:X.mg x=some (.ref C))(hb:Binds X.K fd ps ds)(hd:Vals dvs ds)(hx:Passes CX X E)
  (hdb:(x == ("__debug__" : Wb))=false:=by decide):PE X (.Call (.Name x p) [] [] pos) (JK C sp dvs E Kv):=by
 intro ZY s σ H Q I h
 refine Xj (jt I hg hm ?_ hdb)
 exact abz I.kIn M.kp (Bd (us:=[]) M F hr hb hd hx I .nil h)
end
section
variable {X:Cx}{CX:CXT}{k:Nat}{f C:Addr}{fd:WR}{ps ks:D9}{sp:Sp}{E:XK}{x m:Wb}{p pos apos kpos:ZD}{e o:Expr}{es:D1}{kws:DS}{te ta:TE}{t tk:TA}{nm:Option Wb}
variable {g:DV->DV->DV}{gV:List V->List V->List V}
end
structure aG (N P:D9)(sc:Yg):Prop where
 kind:sc.kind = .function
 co:sc.isCoroutine=false
 gen:sc.isGenerator=false
 nd:N.Nodup
 pre:N.take P.length=P
 par:∀ x∈P,sc.names.lookup x=some .local∨sc.names.lookup x=some .cell
 nofree:∀ y∈sc.names,y.2≠.free
theorem yz {kindOf:Wb->Option aaE}{x:Wb}:∀ {binds:DH} {m:Wb->DO},(∀ v,(x,v) ∉ binds)->bindL kindOf binds m x=m x
 | [],_,_=>rfl
 | (n,v)::r,m,h=>by
  unfold bindL
  rw[yz fun w hw=>h w (VR _ hw)]
  split
  ·have:x≠n:=by rintro rfl;exact h v VP
   simp [this]
  ·rfl
theorem yp {kindOf:Wb->Option aaE}{x:Wb}:∀ {binds:DH} {m:Wb->DO},(∀ v,(x,v) ∉ binds)->bindC kindOf binds m x=m x
 | [],_,_=>rfl
 | (n,v)::r,m,h=>by
  unfold bindC
  rw[yp fun w hw=>h w (VR _ hw)]
  split
  ·rfl
  ·have:x≠n:=by rintro rfl;exact h v VP
   simp [this]
theorem vU {kindOf:Wb->Option aaE}{x:Wb}{v:Value}:∀ {P:D9} {vs:DV} {i:Nat} {m:Wb->DO},P.Nodup->P[i]? = some x->vs[i]? = some v->kindOf x=some .local →
  bindL kindOf (P.zip vs) m x=some v
 | [],_,_,_,_,h,_,_=>by simp at h
 | _::_,[],_,_,_,_,h,_=>by simp at h
 | p::P,w::vs,0,m,nd,h1,h2,hk=>by
  simp at h1 h2;subst h1;subst h2
  show bindL kindOf ((p,w)::P.zip vs) m p=_
  unfold bindL
  rw[yz fun v hv=>(List.nodup_cons.mp nd).1 (abd hv).1,if_pos hk]
  simp
 | p::P,w::vs,i+1,m,nd,h1,h2,hk=>by
  show bindL kindOf ((p,w)::P.zip vs) m x=_
  unfold bindL
  exact vU (i:=i) (List.nodup_cons.mp nd).2 (by simpa using h1) (by simpa using h2) hk
theorem xm {kindOf:Wb->Option aaE}{x:Wb}{v:Value}:∀ {P:D9} {vs:DV} {i:Nat} {m:Wb->DO},P.Nodup->P[i]? = some x->vs[i]? = some v->kindOf x≠some .local →
  bindC kindOf (P.zip vs) m x=some v
 | [],_,_,_,_,h,_,_=>by simp at h
 | _::_,[],_,_,_,_,h,_=>by simp at h
 | p::P,w::vs,0,m,nd,h1,h2,hk=>by
  simp at h1 h2;subst h1;subst h2
  show bindC kindOf ((p,w)::P.zip vs) m p=_
  unfold bindC
  rw[yp fun v hv=>(List.nodup_cons.mp nd).1 (abd hv).1,if_neg hk]
  simp
 | p::P,w::vs,i+1,m,nd,h1,h2,hk=>by
  show bindC kindOf ((p,w)::P.zip vs) m x=_
  unfold bindC
  exact xm (i:=i) (List.nodup_cons.mp nd).2 (by simpa using h1) (by simpa using h2) hk
def start (N:D9)(vs:List V):St:=vs.map some++Xd (N.length - vs.length) none
def wW (CX:CXT)(P:V4)(w:Wn)(K:VB)(mg:Wb->DO)(base:WD)(N:D9)(qual:Wb)(scope:Yg)(f:Addr)(cd:Value)(A:Wm)(outer:D4)(s:Vt)(H:Hp)(E:XK):Cx where
 prog:=P
 w:=w
 K:=K
 mg:=mg
 base:=base
 A:=A.deeper (envOfC qual scope s.heap.objs.size f cd)
 N:=N
 s₀:=s
 H₀:=H
 env:=envOfC qual scope s.heap.objs.size f cd
 outer:=outer
 stack:=envOfC qual scope s.heap.objs.size f cd::outer
 ex:=[]
 calm:=true
 fn:=fun _=>true
 pn:=[]
 xe:=fun e s'=>VG (VM P w) (A.deeper (envOfC qual scope s.heap.objs.size f cd)) (leaving (envOfC qual scope s.heap.objs.size f cd) e) (fun _ s''=>CX outer H s E e s'') (fun e' s''=>CX outer H s E e' s'') s'
def Ar {sc:Yg}{n:Nat}{x:Wb}(h:sc.names.lookup x=some .cell):∃ c,(cellsFrom n sc.names []).lookup x=some c:=by
 have q:=PySem.W.cellsFrom_some sc.names n [] (.inl h)
 exact Option.isSome_iff_exists.mp q
def wG {CX:CXT}{P:V4}{w:Wn}{K:VB}{mg:Wb->DO}{base:WD}{N ps:D9}{qual:Wb}{scope:Yg}{f:Addr}{cd:Value}{A:Wm}{outer:D4}{s s1:Vt}{H:Hp}{E:XK}{us:DV}{vs:List V}
  (S:aG N ps scope) (hd:A.handled=none) (e0:Jw P w K mg base A outer s H) (hl:vs.length=ps.length) (r:Vals vs us)
  (x:InCallC s s.heap.objs.size (bindL (envOfC qual scope s.heap.objs.size f cd).kindOf (ps.zip us) fun _=>none) (cellsFrom (s.heap.objs.size+1) scope.names []) (bindC (envOfC qual scope s.heap.objs.size f cd).kindOf (ps.zip us) fun _=>none) s1) :
  Inv (wW CX P w K mg base N qual scope f cd A outer s H E) [] (start N vs) H s1:=by
 have hpl:ps.length<=N.length:=by have:=congrArg abo S.pre;rw[V0] at this;lia
 obtain⟨h1,tk,rfl,hk⟩:=x.done
 have noA:∀ b:Addr,b ∉ (wW CX P w K mg base N qual scope f cd A outer s H E).ex:=fun b z=>absurd (show b∈([]:D0) from z) (by simp)
 refine⟨⟨e0.mod,S.kind,U,U,Vw _,fun y z c h1 h2=>?_,fun y hy=>?_,fun y c _ h=>?_,fun _=>hd,Around.frames_deeper e0.frames,.inr ⟨U,U⟩,fun b z=>absurd z (noA b),e0.bs,e0.bsz,fun b _ _=>noA b,fun b z=>absurd z (noA b),e0.um,e0.frf⟩,
  rfl,e0.bare,Un.kept hk,⟨_,x.toInCall.ns,fun i y v h1 h2 h3=>?_⟩,fun y c h=>⟨_,x.cell y c h⟩,e0.hok.fresh (Vw _),fun y c h=>?_,fun p hp=>absurd (show p∈([]:DI) from hp) (by simp),e0.hok.kept hk,?_⟩
 ·exact name_of_addr x.apart (WW h1) (WW h2)
 ·have hy:scope.names.lookup y=some .cell∨scope.names.lookup y=some .free:=hy
  rcases hy with hy | hy
  ·exact Ar hy
  ·exact absurd U (S.nofree _ (WW hy))
 ·exact Xz (x.above y c (WW h))
 ·have hi:i < vs.length:=by
   unfold start at h2
   by_cases hi:i < vs.length
   ·exact hi
   ·rw[Yu (by simpa using hi)] at h2
    rw[aaW] at h2
    split at h2 <;> cases h2
  have ha:vs[i]? = some v:=by
   unfold start at h2
   rw[List.getElem?_append_left (by simpa using hi),V7] at h2
   cases e:vs[i]? with
   | none=>rw[e] at h2;cases h2
   | some a=>rw[e] at h2;cases h2;rfl
  obtain⟨u,hu,rv⟩:=r.get ha
  have hp:ps[i]? = some y:=by
   rw[← S.pre,List.getElem?_take_of_lt (by lia)];exact h1
  have ndP:ps.Nodup:=by rw[← S.pre];exact S.nd.sublist (List.take_sublist _ _)
  refine⟨u,rv,?_⟩
  rcases S.par y (Wd hp) with k | k
  ·exact .inl ⟨k,vU ndP hp hu k⟩
  ·obtain⟨c,e⟩:=Ar (n:=s.heap.objs.size+1) k
   refine .inr ⟨.inl k,c,e,?_⟩
   have q:=x.cell y c e
   rw[xm ndP hp hu (by show scope.names.lookup y≠_;rw[k];decide)] at q
   exact q
 ·exact e0.hok.fresh (Xz (x.above y c (WW h)))
 ·unfold start
  show _=N.length
  rw[VH,Vs,Y9]
  lia
def NB {CX:CXT}{P:V4}{w:Wn}{K:VB}{mg:Wb->DO}{base:WD}{k:Nat}{f:Addr}{name qual:Wb}{params:abw}{body:D3}{scope:Yg}{dV kV doc pm cdv ct oc:Value}{an od:DT}
  {osl:Array (DO)} {N ps:D9} {sp:Sp} (lk:K.lookup f=some ⟨oc,od,.func (YB name qual params body scope dV kV doc pm an cdv ct),osl⟩) (hcd:Zt K cdv qual=true) (S:aG N ps scope)
  (len:∀ vs H Q E,sp vs H Q E->vs.length=ps.length)
  (hbody:∀ (A:Wm) (outer:D4) (s:Vt) (H:Hp) (vs:List V) (Q:VK) (E:XK),fj k (A.deeper (envOfC qual scope s.heap.objs.size f cdv))->sp vs H Q E →
   ∃ t,PSs (wW CX P w K mg base N qual scope f cdv A outer s H E) body t/\t { nx:=fun _ H'=>Q .non H',rt:=Q } (start N vs) H) :
  bH P w K mg base CX (k+1) f (YB name qual params body scope dV kV doc pm an cdv ct) ps sp:=by
 refine⟨len,fun A outer s H args us vs Q E hr e0 hb r hsp=>?_⟩
 have hl:=len _ _ _ _ hsp
 have KX:K.In s.heap:=e0.mod.kin.keeps fun b o e=>(e0.bs b o e).1
 have lim:s.heap.NoLimit:=e0.mod.nolimit.keeps fun b o e=>(e0.bs b o e).1
 have hkind:∀ y∈ps.zip us,scope.names.lookup y.1=some .local∨(scope.names.lookup y.1=some .cell/\((cellsFrom (s.heap.objs.size+1) scope.names []).lookup y.1).isSome=true):=fun⟨n,v⟩ hy=>by
  rcases S.par n (abd hy).1 with q | q
  ·exact .inl q
  ·exact .inr ⟨q,PySem.W.cellsFrom_some _ _ _ (.inl q)⟩
 refine codeAny_call_function hr.depth (KX _ _ lk) U S.co S.gen U (PySem.W.codeRec_of KX hcd) (hb _ _ _ _ ?_)
 refine wpAny_newFunctionEnv_cells S.kind hkind fun env he s1 x=>?_
 subst he
 refine⟨lim.keeps x.toInCall.keep,codeAny_func ?_⟩
 obtain⟨t,ht,hq⟩:=hbody A outer s H vs Q E (hr.deeper _) hsp
 have I:Inv (wW CX P w K mg base N qual scope f cdv A outer s H E) [] (start N vs) H s1:=wG S hr.hd e0 hl r x
 refine Ww (ht [] s1 (start N vs) H _ I hq) (fun fl s' hs=>?_) fun e s' hs=>hs
 have fin:∀ {σ':St} {H':Hp} {v:V} {u:Value},Inv (wW CX P w K mg base N qual scope f cdv A outer s H E) [] σ' H' s'->RelV v u->Q v H'->CE outer P w H s Q u s' :=
  fun {σ' H' v u} J rv q=>⟨v,H',J.os,J.bare,J.base,J.hok,rv,q⟩
 cases fl with
 | ret u =>
  obtain⟨v,σ',H',J,rv,q⟩:=hs
  exact fin J rv q
 | next =>
  obtain⟨σ',H',J,q⟩:=hs
  exact fin (v:=V.non) (u:=Xk) J U q
 | brk =>
  obtain⟨_,_,_,q⟩:=hs
  exact Wu q
 | cont =>
  obtain⟨_,_,_,q⟩:=hs
  exact Wu q
section
variable {X:Cx}{x:Wb}{p pos:ZD}{e:Expr}{es:D1}{t:TA}{id T:String}{r:List V->Hp->VK->Prop}
def tCB (r:List V->Hp->VK->Prop)(t:TA):TE:=fun σ H Q=>t σ H fun vs H1=>r vs H1 Q
def aF (hc:gf X (.builtin id) r) (hg:Gl X x) (hm:X.mg x=none) (hv:Wy x=some (.builtin id)) (ha:PA X (e::es) t) (hn:x≠"__name__":=by decide) (hdb:(x == ("__debug__" : Wb))=false:=by decide)
  (he:Wc (e::es) X.env=(false,Xv e X.env)::Wc es X.env:=by rfl) (hpl:(XX pos (Wc es X.env)).any (·.1)=false:=by rfl):PE X (.Call (.Name x p) (e::es) [] pos) (tCB r t):=by
 intro ZY s σ H Q I h
 refine Xj (kJ I hg hm hv ?_ hn hdb)
 exact acd (thn (ha pos ZY s σ H _ I h) fun us s1 ⟨vs,H1,I1,r1,q1⟩=>hc ZY s1 σ H1 vs us Q I1 r1 q1) he hpl
def bh (hc:gf X (.type T) r) (hg:Gl X x) (hm:X.mg x=none) (hv:Wy x=some (.type T)) (ha:PA X (e::es) t) (hn:x≠"__name__":=by decide) (hdb:(x == ("__debug__" : Wb))=false:=by decide)
  (he:Wc (e::es) X.env=(false,Xv e X.env)::Wc es X.env:=by rfl) (hpl:(XX pos (Wc es X.env)).any (·.1)=false:=by rfl):PE X (.Call (.Name x p) (e::es) [] pos) (tCB r t):=by
 intro ZY s σ H Q I h
 refine Xj (kJ I hg hm hv ?_ hn hdb)
 exact Ym (thn (ha pos ZY s σ H _ I h) fun us s1 ⟨vs,H1,I1,r1,q1⟩=>hc ZY s1 σ H1 vs us Q I1 r1 q1) he hpl
end
end L2
namespace HT
open PySem PyProof.Rows
section
open PySem.SeqAt
open PySem.AutoSeq1 (wpAny_loadPart')
open PySem.MeetsSeq PySem.MeetsSeq2 PySem.MeetsSeq3
end
section
variable {prog:V4}{w:Wn}{A:Wm}{E:DM}{s:Vt}
def O6 {t b:Addr}{vs ws:DV}{Q:DM}(ht:IsTup s.heap t vs.toArray)(hb:IsTup s.heap b ws.toArray)(hv:vs≠[])
  (h1:ws=[]->Q (.ref t) s) (h2:ws≠[]->Q (.ref s.heap.objs.size) { s with heap:=s.heap.push { cls:=.type "tuple",data:=.seq (vs++ws).toArray } })
  (hsz:vs.length+ws.length<=sizeLine):VG (VM prog w) A (Z0 .Add (.ref t) (.ref b)) Q E s:=by
 obtain⟨⟨cls,dd,data,sl⟩,ho,hc,n,hd⟩:=id ht
 obtain⟨⟨cls2,dd2,data2,sl2⟩,ho2,hc2,n2,hd2⟩:=id hb
 simp only at hc hd hc2 hd2
 subst hc hd hc2 hd2
 have e:vs.toArray++ws.toArray=(vs++ws).toArray:=by simp
 by_cases hw:ws=[]
 ·exact concat_meets ⟨_,ho,U⟩ ⟨_,ho2,U⟩ aca seq_tuple_add aa1 aaT (aaQ _ _)
   (tuple_addW1 t b vs.toArray ws.toArray n n2 dd dd2 sl sl2 (by simpa using hv) (by simp [hw])) ⟨ho,ho2,h1 hw⟩
 ·refine concat_meets ⟨_,ho,U⟩ ⟨_,ho2,U⟩ aca seq_tuple_add aa1 aaT (aaQ _ _)
   (tuple_addW2 t b vs.toArray ws.toArray n n2 dd dd2 sl sl2 (by simpa using hv) (by simpa using hw) (by rw[V1,V1];exact hsz)) ⟨ho,ho2,?_⟩
  rw[e]
  exact h2 hw
def sIx (n d:Nat):DZ->Nat
 | none=>d
 | some v=>if v < 0 then (v+(n:Int)).toNat else min v.toNat n
def Dd (n d:Nat):sIx n d none=d:=rfl
def uy (n d k:Nat):sIx n d (some (k:Int))=min k n:=by
 show (if (k:Int) < 0 then ((k:Int)+(n:Int)).toNat else min (k:Int).toNat n)=min k n
 rw[if_neg (by lia),Wg]
def Q9 (n d:Nat)(hd:d<=n)(o:DZ):sIx n d o<=n:=by
 cases o with
 | none=>exact hd
 | some v =>
  show (if v < 0 then (v+(n:Int)).toNat else min v.toNat n)<=n
  by_cases hv:v < 0
  ·rw[if_pos hv];lia
  ·rw[if_neg hv];exact Nat.min_le_right _ _
def GD (v:Int)(n d:Nat):(if v < 0 then max (v+(n:Int)) 0 else min v (n:Int))=((sIx n d (some v):Nat):Int):=by
 show (if v < 0 then max (v+(n:Int)) 0 else min v (n:Int))=(((if v < 0 then (v+(n:Int)).toNat else min v.toNat n):Nat):Int)
 by_cases hv:v < 0
 ·simp only[if_pos hv];lia
 ·simp only[if_neg hv];lia
def DR (lo hi:DZ)(n:Nat):aaJ lo hi 1 (n:Int)=(((sIx n 0 lo:Nat):Int),((sIx n n hi:Nat):Int)):=by
 have h1:¬ ((1:Int) < 0):=by lia
 unfold aaJ
 simp only[h1,if_false]
 refine Prod.ext ?_ ?_
 ·cases lo with
  | none=>rfl
  | some v=>exact GD v n 0
 ·cases hi with
  | none=>rfl
  | some v=>exact GD v n n
def Ds (i j:Nat):ZG (i:Int) (j:Int) 1=j - i:=by
 unfold ZG
 have h1:(1:Int) > 0:=by lia
 simp only[h1,if_true,Int.ediv_one]
 split <;> lia
def tY {v:Value}{o:DZ}{Q:DZ->Vt->Prop}(p:aci v o)(h:Q o s):VG (VM prog w) A (Builtin.Slice.slicePartIndex v) Q E s:=by
 cases p with
 | none=>exact slicePart_none h
 | int i t=>exact slicePart_int h
def pM {sl:Addr}{vl vu:Value}{lo hi:DZ}{n:Nat}{Q:Int × Int × Nat->Vt->Prop}(hs:s.heap.IsSliceOf sl vl vu .none)(pl:aci vl lo)(pu:aci vu hi)
  (h:Q (((sIx n 0 lo:Nat):Int),1,sIx n n hi - sIx n 0 lo) s):VG (VM prog w) A (Builtin.Slice.sliceApplied (.ref sl) (pure (n:Int))) Q E s:=by
 obtain⟨os,hos,hcs,hds⟩:=id hs
 unfold Builtin.Slice.sliceApplied Builtin.Slice.sliceFields
 refine Vr (Vr (Yq hos hds (x:=vl) U (Vr (Yq hos hds (x:=vu) U (Vr (Yq hos hds (x:=.none) U (Vv ?_)))))))
 refine Vr (slicePart_none ?_)
 show VG _ _ (if ((1:Int) == 0)=true then _ else _) _ _ s
 rw[if_neg (by decide)]
 refine Vr (tY pl (Vr (tY pu (Vr (Vv ?_)))))
 show VG _ _ (match aaJ lo hi 1 (n:Int) with | (lo,hi)=>pure (lo,(1:Int),ZG lo hi 1)) _ _ s
 rw[DR lo hi n]
 show VG _ _ (pure (((sIx n 0 lo:Nat):Int),(1:Int),ZG ((sIx n 0 lo:Nat):Int) ((sIx n n hi:Nat):Int) 1)) _ _ s
 rw[Ds]
 exact Vv h
def K3 (xs:Array Value)(i k:Nat):((Xb k).filterMap fun (m:Nat)=>xs[((i:Int)+(m:Int) * 1).toNat]?).toArray=((xs.toList.drop i).take k).toArray:=by
 have e:(fun (m:Nat)=>xs[((i:Int)+(m:Int) * 1).toNat]?)=fun m=>xs[i+m]?:=by
  funext m
  have:((i:Int)+(m:Int) * 1).toNat=i+m:=by lia
  rw[this]
 rw[e]
 have:=pick_run xs i k
 rw[abN] at this
 have e2:((fun x=>xs[x]?) ∘ fun x=>i+x)=fun m=>xs[i+m]?:=rfl
 rw[e2] at this
 rw[this]
def oW {t sl:Addr}{items:Array Value}{vl vu:Value}{lo hi:DZ}{Q:DM}(ht:IsTup s.heap t items)(hs:s.heap.IsSliceOf sl vl vu .none)(pl:aci vl lo)(pu:aci vu hi)
  (hw:¬ (sIx items.size 0 lo=0/\sIx items.size items.size hi=items.size))
  (h:Q (.ref s.heap.objs.size) { s with heap:=s.heap.push { cls:=.type "tuple",data:=.seq ((items.toList.drop (sIx items.size 0 lo)).take (sIx items.size items.size hi - sIx items.size 0 lo)).toArray } })
  (hsz:items.size<=sizeLine):VG (VM prog w) A (abt (.ref t) (.ref sl)) Q E s:=by
 have htake:sizeOk (.seq ((items.toList.drop (sIx items.size 0 lo)).take (sIx items.size items.size hi - sIx items.size 0 lo)).toArray):=by
  show ((items.toList.drop (sIx items.size 0 lo)).take (sIx items.size items.size hi - sIx items.size 0 lo)).toArray.size<=sizeLine
  rw[V1,V0,YL,Wz]
  lia
 have hj:sIx items.size items.size hi<=items.size:=Q9 _ _ (Vw _) hi
 obtain⟨os,hos,hcs,hds⟩:=id hs
 have hTs:s.TypeIs (.ref sl) "slice":=⟨os,hos,hcs⟩
 unfold abt
 try with_reducible refine Xe ?_
 first | refine Vr (Vv ?_) | skip
 refine Vr (wpAny_sequenceKey ht.typeIs (by decide) ?_)
 refine Vr (Yd (name:=Z1 "__getitem__") ht.typeIs ab6
  (Xo ab6 ht.typeIs entry_tuple_getitem ?_ (args_tuple_getitem _ _)))
 show VG _ _ (Builtin.Tuple.tupleItemsOf (.ref t) >>= _) _ _ s
 refine Vr (tupleItemsOf_ ht ?_)
 refine Vr (abP hTs ?_)
 rw[if_pos (by decide)]
 refine Vr (pM hs pl pu ?_)
 have hno:¬ ((((sIx items.size 0 lo:Nat):Int) == 0 && (1:Int) == 1 && (sIx items.size items.size hi - sIx items.size 0 lo) == items.size)=true):=by
  intro q
  rw[Xp,Xp] at q
  have q1:((sIx items.size 0 lo:Nat):Int)=0:=eq_of_beq q.1.1
  have q2:sIx items.size items.size hi - sIx items.size 0 lo=items.size:=eq_of_beq q.2
  exact hw ⟨by lia,by lia⟩
 show VG _ _ (if (((sIx items.size 0 lo:Nat):Int) == 0 && (1:Int) == 1 && (sIx items.size items.size hi - sIx items.size 0 lo) == items.size)=true then _ else _) _ _ s
 rw[if_neg hno,K3]
 first
  | exact Vr (m:=ZL _) (Wv (Vv ⟨_,rfl,Vv h⟩) htake)
  | exact Vr (m:=ZL _) (Wv (Vr (Vv (Vv ⟨_,rfl,Vv h⟩))) htake)
  | exact Vr (Vr (m:=ZL _) (Wv (Vv (Vv ⟨_,rfl,Vv h⟩)) htake))
  | exact Vr (Vr (m:=ZL _) (Wv (Vv ⟨_,rfl,Vv h⟩) htake))
end
end HT
namespace L2
open PySem PySem.Spec PyProof.Rows
abbrev TO:=St->Hp->(DZ->Hp->Prop)->Prop
def PO (X:Cx)(e:Option Expr)(t:TO):Prop :=
 ∀ (ZY:DI) (s:Vt) (σ:St) (H:Hp) (Q:DZ->Hp->Prop),Inv X ZY σ H s->t σ H Q →
  VG (VM X.prog X.w) X.A (evalPart e X.env) (fun u s'=>∃ o H',Inv X ZY σ H' s'/\aci u o/\Q o H') X.xe s
def rn:TO:=fun _ H Q=>Q none H
def Fp (t:TE):TO:=fun σ H Q=>t σ H fun x H1=>∃ i,x = .int i/\Q (some i) H1
def intsAre_of {ns:D6}:∀ {us:DV},Vals (ns.map V.int) us->Xa us ns:=by
 induction ns with
 | nil=>intro us r;rw[List.map_nil] at r;cases r;exact .nil
 | cons n ns ih =>
  intro us r
  rw[WL] at r
  cases r with
  | cons r1 r2 =>
   obtain⟨t,e⟩:=r1
   subst e
   exact .cons n t (ih r2)
section
variable {X:Cx}{e:Expr}{te:TE}{lo hi:Option Expr}{tl th:TO}{pos p2:ZD}
def jj:PO X none rn:=by
 intro ZY s σ H Q I h
 rw[evalPart_none]
 exact Vv ⟨none,H,I,.none,h⟩
def iw (h:PE X e te):PO X (some e) (Fp te):=by
 intro ZY s σ H Q I hw
 rw[evalPart_some]
 refine thn (h ZY s σ H _ I hw) fun u s1 ⟨x,H1,I1,r1,q1⟩=>?_
 obtain⟨i,rfl,q⟩:=q1
 obtain⟨t,rfl⟩:=r1
 exact⟨some i,H1,I1,.int i t,q⟩
def SlR (X:Cx)(r:V->DZ->DZ->Hp->VK->Prop):Prop :=
 ∀ (ZY:DI) (s:Vt) (σ:St) (H:Hp) (x:V) (v vl vu:Value) (lo hi:DZ) (sl:Addr) (Q:VK),Inv X ZY σ H s->RelV x v->s.heap.IsSliceOf sl vl vu .none->aci vl lo->aci vu hi->r x lo hi H Q →
  ∃ T id,aax (.type T) "__getitem__" = pure (some (.builtin id))/\s.TypeIs v T/\VG (VM X.prog X.w) X.A (abt v (.ref sl)) (EP X ZY σ Q) X.xe s
def tSl (r:V->DZ->DZ->Hp->VK->Prop)(te:TE)(tl th:TO):TE:=fun σ H Q=>te σ H fun x H1=>tl σ H1 fun l H2=>th σ H2 fun u H3=>r x l u H3 Q
def fM {r:V->DZ->DZ->Hp->VK->Prop}(hr:SlR X r)(he:PE X e te)(hl:PO X lo tl)(hu:PO X hi th):PE X (.Subscript e (.Slice lo hi none p2) pos) (tSl r te tl th):=by
 intro ZY s σ H Q I h
 refine Subscript_ (thn (he ZY s σ H _ I h) fun v s1 ⟨x,H1,I1,r1,q1⟩=>?_)
 refine wpAny_Slice (thn (hl ZY s1 σ H1 _ I1 q1) fun vl s2 ⟨l,H2,I2,pl,q2⟩=>thn (hu ZY s2 σ H2 _ I2 q2) fun vu s3 ⟨u,H3,I3,pu,q3⟩=>?_)
 rw[evalPart_none]
 refine Vv ?_
 have I4:Inv X ZY σ H3 { s3 with heap:=s3.heap.push { cls:=.type "slice",data:=.fields #[vl,vu,.none] } }:=I3.kept (t':=s3.toks) fun b ob q=>Vu _ q
 obtain⟨T,id,hT,ht,hg⟩:=hr ZY { s3 with heap:=s3.heap.push { cls:=.type "slice",data:=.fields #[vl,vu,.none] } } σ H3 x v vl vu l u s3.heap.objs.size Q I4 r1 (Heap.IsSliceOf.new ..) pl pu q3
 show VG (VM X.prog X.w) X.A (abE e (.Slice lo hi none p2) v (.ref s3.heap.objs.size)) (EP X ZY σ Q) X.xe { s3 with heap:=s3.heap.push { cls:=.type "slice",data:=.fields #[vl,vu,.none] } }
 exact tail_any (ops:=[.ref s3.heap.objs.size,v]) ht hT hg (by with_unfolding_all rfl)
def pZ (xs:List V)(lo hi:DZ):List V:=(xs.drop (HT.sIx xs.length 0 lo)).take (HT.sIx xs.length xs.length hi - HT.sIx xs.length 0 lo)
def qQ (xs:List V)(lo hi:DZ):(pZ xs lo hi).length<=xs.length:=by
 unfold pZ
 rw[V0,YL]
 lia
inductive Q8 (K:VB)(x:V)(lo:DZ)(hi:DZ)(H:Hp)(Q:VK):Prop where
 | mk (a:Addr) (xs:List V) (z0:x = .ref a) (z1:SqT K H a xs) (z2:¬ (HT.sIx xs.length 0 lo=0/\HT.sIx xs.length xs.length hi=xs.length)) (z3:∀ p,H p=none->Q (.ref p) (upd H p (.tup (pZ xs lo hi)))):Q8 K x lo hi H Q
def KJ (K:VB):V->DZ->DZ->Hp->VK->Prop:=fun x lo hi H Q=>Q8 K x lo hi H Q
def Ba:SlR X (KJ X.K):=by
 intro ZY s σ H x v vl vu lo hi sl Q I rx hs pl pu h
 obtain⟨a,xs,rfl,hx,hw,q⟩:=h
 cases rx
 obtain⟨its,r,ht,hz⟩:=I.tuple hx
 have hlen:its.toArray.size=xs.length:=by rw[V1];exact r.length.symm
 refine⟨"tuple",_,PyProof.Rows.slot_tuple_getitem.lookup,ht.typeIs,?_⟩
 refine HT.oW ht hs pl pu (by rw[hlen];exact hw) ?_ (by rw[hlen];exact hz)
 rw[hlen]
 refine⟨.ref s.heap.objs.size,_,I.laid (t':=s.toks) (o:=.tup (pZ xs lo hi)) (fun b ob q=>Vu _ q) (Vw _) ?_,U,q _ (I.hok.fresh (Vw _))⟩
 exact⟨Wf (qQ xs lo hi) hz,_,(r.drop (HT.sIx xs.length 0 lo)).take (HT.sIx xs.length xs.length hi - HT.sIx xs.length 0 lo),IsTup.new _ _⟩
def Ub (K:VB):R2:=fun x y H Q=>∃ a b xs ys,x = .ref a/\y = .ref b/\SqT K H a xs/\SqT K H b ys/\xs≠[]/\xs.length+ys.length<=sizeLine ∧
 (ys=[]->Q (.ref a) H)/\(ys≠[]->∀ p,H p=none->Q (.ref p) (upd H p (.tup (xs++ys))))
def Vals.zV {xs:List V}{us:DV}(r:Vals xs us):us=[] ↔ xs=[]:=by
 cases r with
 | nil=>simp
 | cons _ _=>simp
def Nx:OpR X (Z0 .Add) (Ub X.K):=by
 intro ZY s σ H x y v u Q I rx ry h
 obtain⟨a,b,xs,ys,rfl,rfl,ha,hb,hx,hz,q1,q2⟩:=h
 cases rx
 cases ry
 obtain⟨its,r1,p1,_⟩:=I.tuple ha
 obtain⟨its2,r2,p2,_⟩:=I.tuple hb
 refine HT.O6 p1 p2 (fun z=>hx (r1.zV.mp z)) (fun z=>⟨.ref a,H,I,U,q1 (r2.zV.mp z)⟩) (fun z=>?_) (by rw[← r1.length,← r2.length];exact hz)
 refine⟨.ref s.heap.objs.size,_,I.laid (t':=s.toks) (o:=.tup (xs++ys)) (fun b ob q=>Vu _ q) (Vw _) ?_,U,q2 (fun w=>z (r2.zV.mpr w)) _ (I.hok.fresh (Vw _))⟩
 exact⟨by rw[VH];exact hz,_,r1.append r2,IsTup.new _ _⟩
end
def ixN (n:Nat)(i:Int):Option Nat:=if 0<=i then (if i < n then some i.toNat else none) else if -(n:Int)<=i then some (i+n).toNat else none
def atI {α:Type}(xs:List α)(i:Int):Option α:=(ixN xs.length i).bind fun j=>xs[j]?
def Je {n:Nat}{i:Int}{j:Nat}(h:ixN n i=some j):ab9 i n=some j/\j < n/\-(n:Int)<=i/\i < n:=by
 unfold ixN at h
 by_cases h0:0<=i
 ·rw[if_pos h0] at h
  by_cases h1:i < n
  ·rw[if_pos h1] at h
   have e:i.toNat=j:=Wo h
   exact⟨by rw[seqIndex_of h0 h1,e],by lia,by lia,h1⟩
  ·rw[if_neg h1] at h;cases h
 ·rw[if_neg h0] at h
  by_cases h1 : -(n:Int)<=i
  ·rw[if_pos h1] at h
   have e:(i+n).toNat=j:=Wo h
   exact⟨by rw[seqIndex_neg (by lia) h1,e],by lia,h1,by lia⟩
  ·rw[if_neg h1] at h;cases h
def za {α:Type}{xs:List α}{i:Int}{v:α}(h:atI xs i=some v):∃ j,ab9 i xs.length=some j/\xs[j]? = some v/\j < xs.length/\-(xs.length:Int)<=i/\i < xs.length:=by
 unfold atI at h
 cases e:ixN xs.length i with
 | none=>rw[e] at h;cases h
 | some j =>
  rw[e] at h
  obtain⟨h1,h2,h3,h4⟩:=Je e
  exact⟨j,h1,h,h2,h3,h4⟩
def dh {α:Type}{xs:List α}{j:Nat}{v:α}(h:xs[j]? = some v):atI xs (j:Int)=some v:=by
 have hj:j < xs.length:=(List.getElem?_eq_some_iff.mp h).1
 have e:ixN xs.length (j:Int)=some j:=by
  unfold ixN
  rw[if_pos (by lia),if_pos (by lia)];simp
 unfold atI;rw[e];exact h
def JC {α:Type}(xs:List α)(v:α):atI (xs++[v]) (-1)=some v:=by
 have hl:(xs++[v]).length=xs.length+1:=by simp
 have e:ixN (xs++[v]).length (-1)=some xs.length:=by
  unfold ixN
  rw[hl,if_neg (by decide),if_pos (by lia)]
  congr 1
  lia
 unfold atI
 rw[e]
 show (xs++[v])[xs.length]? = some v
 simp
def vp (b:Expr):Prop:=∀ o i,acn b false o i=operate [o,i] (abt o i)
def IxR (X:Cx)(r:R2):Prop :=
 ∀ (value slice:Expr) (ZY:DI) (s:Vt) (σ:St) (H:Hp) (x y:V) (v u:Value) (Q:VK),Inv X ZY σ H s->RelV x v->RelV y u->r x y H Q →
  acn slice false v u=operate [v,u] (abt v u)->VG (VM X.prog X.w) X.A (abE value slice v u) (EP X ZY σ Q) X.xe s
def MtR (X:Cx)(id:String)(r:V->List V->Hp->VK->Prop):Prop :=
 ∀ (ZY:DI) (s:Vt) (σ:St) (H:Hp) (x:V) (xs:List V) (v:Value) (us:DV) (Q:VK),Inv X ZY σ H s->RelV x v->Vals xs us->r x xs H Q →
  VG (VM X.prog X.w) X.A (call (.builtin id) (v::us)) (EP X ZY σ Q) X.xe s
section
variable {X:Cx}{a b:Expr}{ta tb:TE}{pos:ZD}
def IxR.or {r r':R2}(h:IxR X r)(h':IxR X r'):IxR X (fun x y H Q=>r x y H Q∨r' x y H Q):=by
 intro value slice ZY s σ H x y v u Q I rx ry q hs
 rcases q with q | q
 ·exact h value slice ZY s σ H x y v u Q I rx ry q hs
 ·exact h' value slice ZY s σ H x y v u Q I rx ry q hs
def Ph {r:R2}(hr:IxR X r)(ha:PE X a ta)(hb:PE X b tb)(hs:vp b):PE X (.Subscript a b pos) (tOp r ta tb):=by
 intro ZY s σ H Q I h
 exact Subscript_ (Uj ha hb I h fun v u s2 x y H2 I2 rx ry q=>hr a b ZY s2 σ H2 x y v u Q I2 rx ry q (hs _ _))
inductive Q6 (K:VB)(x:V)(y:V)(H:Hp)(Q:VK):Prop where
 | mk (p:Addr) (xs:List V) (i:Int) (v:V) (z0:x = .ref p) (z1:y = .int i) (z2:SqL K H p xs) (z3:atI xs i=some v) (z4:Q v H):Q6 K x y H Q
def Tr (K:VB):R2:=fun x y H Q=>Q6 K x y H Q
inductive QT (K:VB)(x:V)(y:V)(H:Hp)(Q:VK):Prop where
 | mk (p:Addr) (xs:List V) (i:Int) (v:V) (z0:x = .ref p) (z1:y = .int i) (z2:SqT K H p xs) (z3:atI xs i=some v) (z4:Q v H):QT K x y H Q
def Uk (K:VB):R2:=fun x y H Q=>QT K x y H Q
def Ul:R2:=fun x y H Q=>∃ z i c,x = .str z/\y = .int i/\z.length<=sizeLine/\atI z.cps.toList i=some c/\Q (.str ⟨#[c]⟩) H
def Jf:IxR X (Tr X.K):=by
 intro value slice ZY s σ H x y v u Q I rx ry h hs
 obtain⟨p,xs,i,z,rfl,rfl,hq,he,q⟩:=h
 cases rx
 obtain⟨t,rfl⟩:=ry
 obtain⟨its,r,pl,hz⟩:=I.list hq
 obtain⟨j,h1,h2,h3,h4,h5⟩:=za he
 obtain⟨w,ew,rw'⟩:=r.get h2
 have hl:=r.length
 have hn:=uh
 have fin:EP X ZY σ Q w s:=⟨z,H,I,rw',q⟩
 by_cases h0:0<=i
 ·have hj:i.toNat=j:=by
   rw[seqIndex_of h0 h5] at h1
   exact Wo h1
  exact item_listR pl.isList h0 (by lia) (by rw[hj];simpa using ew) fin hs
 ·have hj:(i+(its.toArray.size:Int)).toNat=j:=by
   rw[seqIndex_neg (by lia) h4] at h1
   rw[V1,← hl]
   exact Wo h1
  exact subscriptTail_builtinR (x:=w) pl.isList.typeIs slot_list_getitem.lookup
   (wpAny_getItem_list_neg (Q:=fun r s'=>r=w/\EP X ZY σ Q r s') pl.isList (by lia) (by rw[V1] <;> lia) (by lia) (by rw[hj];simpa using ew) ⟨U,fin⟩) hs
def M5:IxR X (Uk X.K):=by
 intro value slice ZY s σ H x y v u Q I rx ry h hs
 obtain⟨p,xs,i,z,rfl,rfl,hq,he,q⟩:=h
 cases rx
 obtain⟨t,rfl⟩:=ry
 obtain⟨its,r,pl,hz⟩:=I.tuple hq
 obtain⟨j,h1,h2,h3,h4,h5⟩:=za he
 obtain⟨w,ew,rw'⟩:=r.get h2
 have hl:=r.length
 have hn:=uh
 have fin:EP X ZY σ Q w s:=⟨z,H,I,rw',q⟩
 exact subscriptTail_builtinR (x:=w) pl.typeIs slot_tuple_getitem.lookup
  (getItem_tuple (j:=j) (Q:=fun r s'=>r=w/\EP X ZY σ Q r s') pl (by lia) (by lia) (by rw[V1,← hl];exact h1) (by simpa using ew) ⟨U,fin⟩) hs
def Rv:IxR X Ul:=by
 intro value slice ZY s σ H x y v u Q I rx ry h hs
 obtain⟨z,i,c,rfl,rfl,hz,he,q⟩:=h
 obtain⟨t,rfl⟩:=rx
 obtain⟨t',rfl⟩:=ry
 obtain⟨j,h1,h2,h3,h4,h5⟩:=za he
 have hl:z.cps.toList.length=z.length:=by simp [Str.length]
 rw[hl] at h1 h4 h5
 have hn:=uh
 exact tail_any (typeIs_str s z t) slot_str_getitem.lookup (getItem_str (c:=c) (by
  have e1:decide (i < -(2 ^ 63:Int))=false:=decide_eq_false (by lia)
  have e2:decide (i ≥ 2 ^ 63)=false:=decide_eq_false (by lia)
  rw[e1,e2,Bool.or_false]) (by rw[h1];simpa using h2) ⟨.str ⟨#[c]⟩,H,I.tok _,⟨_,U⟩,q⟩) hs
def rIx (K:VB):R2:=fun x y H Q=>Tr K x y H Q∨Uk K x y H Q∨Ul x y H Q
def Mg:IxR X (rIx X.K):=Jf.or (M5.or Rv)
def Ex (its:DV)(n j:Nat)(u:Value):YS (·.setIfInBounds j u) { cls:=.type "list",data:=.seq its.toArray n }={ cls:=.type "list",data:=.seq (its.set j u).toArray n }:=by
 simp [YS]
def Inv.lst {ZY:DI}{σ:St}{H:Hp}{s:Vt}{p:Addr}{xs:List V}(I:Inv X ZY σ H s)(h:H p=some (.lst xs)) :
  ∃ (its:DV) (n:Nat),Vals xs its/\s.heap.get? p=some { cls:=.type "list",data:=.seq its.toArray n }/\xs.length<=sizeLine:=by
 obtain⟨z,its,n,r,e⟩:=I.hok p _ h
 exact⟨its,n,r,e,z⟩
def Inv.Rj {ZY:DI}{σ:St}{H:Hp}{s:Vt}{p:Addr}{xs ys:List V}{its its':DV}{n n':Nat}{f:X8->X8}(I:Inv X ZY σ H s)(h:H p=some (.lst xs))
  (ho:s.heap.get? p=some { cls:=.type "list",data:=.seq its.toArray n }) (hf:f { cls:=.type "list",data:=.seq its.toArray n }={ cls:=.type "list",data:=.seq its'.toArray n' }) (r:Vals ys its') (hz:ys.length<=sizeLine) (t:Nat) :
  Inv X ZY σ (upd H p (.lst ys)) { s with heap:=s.heap.update p f,toks:=t }:=by
 have e:(s.heap.update p f).get? p=some { cls:=.type "list",data:=.seq its'.toArray n' }:=by
  rw[Wh f ho (by rw[hf] <;> rfl),hf]
 refine I.write (x:=p) (e:=p) (by rw[h];trivial) (.inl U) (fun b u hb q=>(V9 _ _ (Xl hb)).trans q) ⟨_,e⟩ ?_
 exact⟨hz,its',n',r,e⟩
def T5:V->V->V->Hp->(Hp->Prop)->Prop:=fun o i v H Q=>∃ p xs k j,o = .ref p/\i = .int k/\H p=some (.lst xs)/\ixN xs.length k=some j/\Q (upd H p (.lst (xs.set j v)))
def set_list:Uz X T5:=by
 intro ZY s σ H o i v ov iv u Q I ro ri rv h
 obtain⟨p,xs,k,j,rfl,rfl,hp,hj,q⟩:=h
 cases ro
 obtain⟨t,rfl⟩:=ri
 obtain⟨its,n,r,ho,hz⟩:=I.lst hp
 obtain⟨h1,h2,h3,h4⟩:=Je hj
 have hl:=r.length
 have hn:=uh
 have I':Inv X ZY σ (upd H p (.lst (xs.set j v))) { s with heap:=s.heap.update p (YS (·.setIfInBounds j u)) } :=
  I.Rj hp ho (Ex its n j u) (r.set rv j) (by rw[abe];exact hz) s.toks
 by_cases h0:0<=k
 ·have hk:k.toNat=j:=by
   rw[seqIndex_of h0 h4] at h1
   exact Wo h1
  exact PySem.W.ki_setAt ho h0 (by lia) (by rw[V1,← hl];exact h4) (by rw[hk];exact⟨_,I',q⟩)
 ·have hk:(k+(its.toArray.size:Int)).toNat=j:=by
   rw[seqIndex_neg (by lia) h3] at h1
   rw[V1,← hl]
   exact Wo h1
  exact PySem.W.ki_setBack ho (by lia) (by rw[V1,← hl];exact h3) (by lia) (by rw[hk];exact⟨_,I',q⟩)
def vP (lo hi:DZ)(n:Nat):(Yz lo hi none n).1=((HT.sIx n 0 lo:Nat):Int)/\(Yz lo hi none n).2.1=((HT.sIx n n hi:Nat):Int)/\(Yz lo hi none n).2.2=1:=by
 refine⟨?_,?_,U⟩
 ·cases lo with
  | none=>simp [Yz,HT.sIx]
  | some i =>
   simp only[Yz,HT.sIx,Option.getD_none,show (1:Int) > 0 by decide,if_true]
   by_cases h:i < 0
   ·simp only[h,if_true] <;> lia
   ·simp only[h,if_false] <;> lia
 ·cases hi with
  | none=>simp [Yz,HT.sIx]
  | some i =>
   simp only[Yz,HT.sIx,Option.getD_none,show (1:Int) > 0 by decide,if_true]
   by_cases h:i < 0
   ·simp only[h,if_true] <;> lia
   ·simp only[h,if_false] <;> lia
def vo (its:DV)(lo hi:DZ):aaR its.toArray lo hi none=((its.drop (HT.sIx its.length 0 lo)).take (HT.sIx its.length its.length hi - HT.sIx its.length 0 lo)).toArray:=by
 obtain⟨h1,h2,h3⟩:=vP lo hi its.toArray.size
 unfold aaR
 rw[h1,h2,h3]
 simp only[sliceRange_one,pick_run,V1] <;> rfl
inductive Qx (K:VB)(x:V)(lo:DZ)(hi:DZ)(H:Hp)(Q:VK):Prop where
 | mk (a:Addr) (xs:List V) (z0:x = .ref a) (z1:SqL K H a xs) (z2:∀ p,H p=none->Q (.ref p) (upd H p (.lst (pZ xs lo hi)))):Qx K x lo hi H Q
def Qe (K:VB):V->DZ->DZ->Hp->VK->Prop:=fun x lo hi H Q=>Qx K x lo hi H Q
def rN:SlR X (Qe X.K):=by
 intro ZY s σ H x v vl vu lo hi sl Q I rx hs pl pu h
 obtain⟨a,xs,rfl,hx,q⟩:=h
 cases rx
 obtain⟨its,r,ht,hz⟩:=I.list hx
 have hlen:=r.length
 refine⟨"list",_,slot_list_getitem.lookup,ht.isList.typeIs,?_⟩
 refine wpAny_getItem_list_slice ht.isList hs pl pu .none (by simp) ?_ (by rw[V1] <;> lia)
 rw[vo,← hlen]
 refine⟨.ref s.heap.objs.size,_,I.laid (t':=s.toks) (o:=.lst (pZ xs lo hi)) (fun b ob q=>Vu _ q) (Vw _) ?_,U,q _ (I.hok.fresh (Vw _))⟩
 exact⟨Wf (qQ xs lo hi) hz,_,0,(r.drop (HT.sIx xs.length 0 lo)).take (HT.sIx xs.length xs.length hi - HT.sIx xs.length 0 lo),VN _ U⟩
def sE:V->Bool
 | .non=>true
 | .bl _=>true
 | .int _=>true
 | .str _=>true
 | _=>false
def eqV:V->V->Bool
 | .non,.non=>true
 | .bl a,.bl b=>a == b
 | .bl a,.int b=>(if a then 1 else 0) == b
 | .int a,.bl b=>a == (if b then 1 else 0)
 | .int a,.int b=>a == b
 | .str a,.str b=>a == b
 | _,_=>false
def Rt {A:Wm}{s:Vt}{y x:V}{u v:Value}(ry:RelV y u)(rx:RelV x v)(fy:sE y=true)(fx:sE x=true):SeqAt.EqAt A s u v (eqV y x):=by
 cases y with
 | non =>
  cases ry
  cases x with
  | non=>cases rx;exact SeqAt.EqAt.same _
  | bl b=>cases rx;exact SeqAt.EqAt.none_bool b
  | int b=>obtain⟨t,rfl⟩:=rx;exact SeqAt.EqAt.none_int b t
  | str b=>obtain⟨t,rfl⟩:=rx;exact SeqAt.EqAt.none_str b t
  | _=>exact absurd (show false=true from fx) Vy
 | bl a =>
  cases ry
  cases x with
  | non=>cases rx;exact SeqAt.EqAt.bool_none a
  | bl b=>cases rx;exact SeqAt.EqAt.bool_bool a b
  | int b=>obtain⟨t,rfl⟩:=rx;exact SeqAt.EqAt.bool_int a b t
  | str b=>obtain⟨t,rfl⟩:=rx;exact SeqAt.EqAt.bool_str a b t
  | _=>exact absurd (show false=true from fx) Vy
 | int a =>
  obtain⟨t',rfl⟩:=ry
  cases x with
  | non=>cases rx;exact SeqAt.EqAt.int_none a t'
  | bl b=>cases rx;exact SeqAt.EqAt.int_bool a t' b
  | int b=>obtain⟨t,rfl⟩:=rx;exact SeqAt.EqAt.int_int a t' b t
  | str b=>obtain⟨t,rfl⟩:=rx;exact SeqAt.EqAt.int_str a t' b t
  | _=>exact absurd (show false=true from fx) Vy
 | str a =>
  obtain⟨t',rfl⟩:=ry
  cases x with
  | non=>cases rx;exact SeqAt.EqAt.str_none a t'
  | bl b=>cases rx;exact SeqAt.EqAt.str_bool a t' b
  | int b=>obtain⟨t,rfl⟩:=rx;exact SeqAt.EqAt.str_int a t' b t
  | str b=>obtain⟨t,rfl⟩:=rx;exact SeqAt.EqAt.str_str a t' b t
  | _=>exact absurd (show false=true from fx) Vy
 | _=>exact absurd (show false=true from fy) Vy
def eqU (x:V)(u:Value):Bool:=match u with
 | .none=>eqV .non x
 | .bool b=>eqV (.bl b) x
 | .int i _=>eqV (.int i) x
 | .str z _=>eqV (.str z) x
 | _=>false
def Ms {x y:V}{u:Value}(r:RelV y u)(f:sE y=true):eqU x u=eqV y x:=by
 cases y with
 | non=>cases r;rfl
 | bl b=>cases r;rfl
 | int i=>obtain⟨t,rfl⟩:=r;rfl
 | str z=>obtain⟨t,rfl⟩:=r;rfl
 | _=>exact absurd (show false=true from f) Vy
theorem rK {x:V}:∀ {xs:List V} {us:DV},Vals xs us->xs.all sE=true->us.any (eqU x)=xs.any fun y=>eqV y x
 | _,_,.nil,_=>rfl
 | y::xs,u::us,.cons r t,f=>by
  rw[aag,Xp] at f
  rw[Y6,Y6,Ms r f.1,rK t f.2]
theorem mO {A:Wm}{s:Vt}{x:V}{v:Value}(rx:RelV x v)(fx:sE x=true):∀ {xs:List V} {us:DV},Vals xs us->xs.all sE=true->∀ u∈us,SeqAt.EqAt A s u v (eqU x u)
 | _,_,.nil,_=>fun u hu=>by cases hu
 | y::xs,u::us,.cons r t,f=>fun u' hu=>by
  rw[aag,Xp] at f
  rcases List.mem_cons.mp hu with rfl | hu
  ·rw[Ms r f.1];exact Rt r rx f.1 fx
  ·exact mO rx fx t f.2 u' hu
def inV (x:V)(xs:List V):Bool:=xs.any fun y=>eqV y x
inductive Ut (K:VB)(neg:Bool)(x:V)(y:V)(H:Hp)(Q:VK):Prop where
 | mk (p:Addr) (xs:List V) (z0:y = .ref p) (z1:(SqL K H p xs∨SqT K H p xs)) (z2:sE x=true) (z3:xs.all sE=true) (z4:Q (.bl (if neg then !inV x xs else inV x xs)) H):Ut K neg x y H Q
def rIn (K:VB)(neg:Bool):R2:=fun x y H Q=>Ut K neg x y H Q
def dY:OpR X (XR .In) (rIn X.K false):=by
 intro ZY s σ H x y v u Q I rx ry h
 obtain⟨p,xs,rfl,hq,fx,fs,q⟩:=h
 cases ry
 rcases hq with hq | hq
 ·obtain⟨its,r,pl,hz⟩:=I.list hq
  refine SeqAt.in_listAt (eqU x) pl.isList (fun w hw=>mO rx fx r fs w (by simpa using hw)) ⟨.bl _,H,I,U,?_⟩
  rw[show its.toArray.any (eqU x)=its.any (eqU x) by simp,rK r fs]
  exact q
 ·obtain⟨its,r,pl,hz⟩:=I.tuple hq
  refine SeqAt.in_tupleAt (eqU x) pl (fun w hw=>mO rx fx r fs w (by simpa using hw)) ⟨.bl _,H,I,U,?_⟩
  rw[show its.toArray.any (eqU x)=its.any (eqU x) by simp,rK r fs]
  exact q
def ph:OpR X (XR .NotIn) (rIn X.K true):=by
 intro ZY s σ H x y v u Q I rx ry h
 obtain⟨p,xs,rfl,hq,fx,fs,q⟩:=h
 cases ry
 rcases hq with hq | hq
 ·obtain⟨its,r,pl,hz⟩:=I.list hq
  refine SeqAt.notIn_listAt (eqU x) pl.isList (fun w hw=>mO rx fx r fs w (by simpa using hw)) ⟨.bl _,H,I,U,?_⟩
  rw[show its.toArray.any (eqU x)=its.any (eqU x) by simp,rK r fs]
  exact q
 ·obtain⟨its,r,pl,hz⟩:=I.tuple hq
  refine SeqAt.notIn_tupleAt (eqU x) pl (fun w hw=>mO rx fx r fs w (by simpa using hw)) ⟨.bl _,H,I,U,?_⟩
  rw[show its.toArray.any (eqU x)=its.any (eqU x) by simp,rK r fs]
  exact q
def vO:gf X (.builtin "len") (fun xs H Q=>∃ p ys,xs=[.ref p]/\(SqL X.K H p ys∨SqT X.K H p ys)/\Q (.int ys.length) H):=by
 intro ZY s σ H xs us Q I r h
 obtain⟨p,ys,rfl,hq,q⟩:=h
 obtain⟨u,rfl,rx⟩:=vals1 r
 cases rx
 have hn:=uh
 rcases hq with hq | hq
 ·obtain⟨its,r',pl,hz⟩:=I.list hq
  have hlen:=r'.length
  exact Calls.call_len_list pl.isList (by simp only[V1] <;> lia) ⟨.int ys.length,H,I.tok _,⟨s.toks+1,by rw[V1,hlen]⟩,q⟩
 ·obtain⟨its,r',pl,hz⟩:=I.tuple hq
  have hlen:=r'.length
  exact len_tuple pl (by simp only[V1] <;> lia) ⟨.int ys.length,H,I.tok _,⟨s.toks+1,by rw[V1,hlen]⟩,q⟩
def vM:gf X (.type "list") (fun xs H Q=>∃ p ys,xs=[.ref p]/\(SqL X.K H p ys∨SqT X.K H p ys)/\∀ l,H l=none->Q (.ref l) (upd H l (.lst ys))):=by
 intro ZY s σ H xs us Q I r h
 obtain⟨p,ys,rfl,hq,q⟩:=h
 obtain⟨u,rfl,rx⟩:=vals1 r
 cases rx
 have fin:∀ (its:DV),Vals ys its->ys.length<=sizeLine->∀ (h':WD) (c':Nat),(∀ b o',s.heap.get? b=some o'->h'.get? b=some o') →
   h'.get? s.heap.objs.size=some { cls:=.type "list",dict:=none,data:=.seq its.toArray c',slots:=#[] }->EP X ZY σ Q (.ref s.heap.objs.size) { s with heap:=h' }:=fun its r' hz h' c' kp e =>
  ⟨.ref s.heap.objs.size,_,I.laid (t':=s.toks) kp (Vw _) (show dU X.prog X.w _ h' _ (.lst ys) from ⟨hz,its,c',r',e⟩),U,q _ (I.hok.fresh (Vw _))⟩
 rcases hq with hq | hq
 ·obtain⟨its,r',pl,hz⟩:=I.list hq
  have hlen:=r'.length
  obtain⟨o,ho,hc,n,hd⟩:=pl.isList
  exact call_list_seq p (.inl U) ho hc hd (fun h' c' kp e=>fin its r' hz h' c' kp e) (by simp only[V1] <;> lia)
 ·obtain⟨its,r',pl,hz⟩:=I.tuple hq
  have hlen:=r'.length
  obtain⟨o,ho,hc,n,hd⟩:=pl
  exact call_list_seq p (.inr U) ho hc hd (fun h' c' kp e=>fin its r' hz h' c' kp e) (by simp only[V1] <;> lia)
def uX:gf X (.type "tuple") (fun xs H Q=>∃ p ys,xs=[.ref p]/\((SqL X.K H p ys/\∀ l,H l=none->Q (.ref l) (upd H l (.tup ys)))∨(SqT X.K H p ys/\Q (.ref p) H))):=by
 intro ZY s σ H xs us Q I r h
 obtain⟨p,ys,rfl,h⟩:=h
 obtain⟨u,rfl,rx⟩:=vals1 r
 cases rx
 rcases h with⟨hq,q⟩ | ⟨hq,q⟩
 ·obtain⟨its,r',pl,hz⟩:=I.list hq
  have hlen:=r'.length
  refine call_tuple_list pl.isList (fun h' kp=>?_) (by simp only[V1] <;> lia)
  have I1:Inv X ZY σ H { s with heap:=h' }:=I.kept (t':=s.toks) kp
  have I2:Inv X ZY σ (upd H h'.objs.size (.tup ys)) { s with heap:=h'.push { cls:=.type "tuple",data:=.seq its.toArray } } :=
   I1.laid (t':=s.toks) (fun b o e=>Vu _ e) (Vw _) (show dU X.prog X.w _ _ _ (.tup ys) from ⟨hz,its,r',IsTup.new _ _⟩)
  exact⟨.ref h'.objs.size,_,I2,U,q _ (I1.hok.fresh (Vw _))⟩
 ·obtain⟨its,r',pl,hz⟩:=I.tuple hq
  exact call_tuple_same pl ⟨.ref p,H,I,U,q⟩
def tyV (K:VB)(T:String)(x:V)(H:Hp):Prop:=match x with
 | .str _=>T = "str"
 | .int _=>T = "int"
 | .ref p=>(T = "list"/\∃ xs,SqL K H p xs)∨(T = "tuple"/\∃ o,K.lookup p=some o/\o.cls = .type "tuple"/\o.dict=none) ∨
   (T = "dict"/\((∃ kvs,H p=some (.dK kvs))∨∃ kvs,H p=some (.dT kvs)))∨(T = "set"/\∃ S n,H p=some (.set S n))
 | _=>False
def Rm {ZY:DI}{σ:St}{H:Hp}{s:Vt}{T:String}{x:V}{v:Value}(I:Inv X ZY σ H s)(r:RelV x v)(ty:tyV X.K T x H) :
  s.TypeIs v T/\∀ a,v = .ref a->∃ ob,s.heap.get? a=some ob/\ob.dict=none:=by
 cases x with
 | str z =>
  obtain⟨t,rfl⟩:=r
  cases (show T = "str" from ty)
  exact⟨typeIs_str s z t,fun _ e=>nomatch e⟩
 | int i =>
  obtain⟨t,rfl⟩:=r
  cases (show T = "int" from ty)
  exact⟨typeIs_int s i t,fun _ e=>nomatch e⟩
 | ref p =>
  cases r
  rcases ty with⟨rfl,xs,hq⟩ | ⟨rfl,o,hk,hc,hd⟩ | ⟨rfl,hk⟩ | ⟨rfl,S,n,hk⟩
  ·obtain⟨its,_,pl,_⟩:=I.list hq
   refine⟨pl.isList.typeIs,fun a e=>?_⟩
   cases e
   obtain⟨o,n,e,c,hd,_⟩:=pl
   exact⟨o,e,hd⟩
  ·refine⟨⟨o,I.kIn p o hk,hc⟩,fun a e=>?_⟩
   cases e
   exact⟨o,I.kIn _ o hk,hd⟩
  ·have z:∃ o,s.heap.get? p=some o/\o.ExactDict:=by
    rcases hk with⟨kvs,hk⟩ | ⟨kvs,hk⟩
    ·obtain⟨_,_,_,_,o,_,_,e,ex,_⟩:=I.hok p _ hk
     exact⟨o,e,ex⟩
    ·obtain⟨_,_,_,_,o,_,_,e,ex,_⟩:=I.hok p _ hk
     exact⟨o,e,ex⟩
   obtain⟨o,e,ex⟩:=z
   refine⟨⟨o,e,ex.1⟩,fun a e2=>?_⟩
   cases e2
   exact⟨o,e,ex.2.1⟩
  ·obtain⟨o,_,_,_,e,ex,_⟩:=I.hok p _ hk
   refine⟨⟨o,e,ex.1⟩,fun a e2=>?_⟩
   cases e2
   exact⟨o,e,ex.2.1⟩
 | _=>exact Wu ty
def tBM (K:VB)(T:String)(r:V->List V->Hp->VK->Prop)(to:TE)(t:TA):TE:=fun σ H Q=>to σ H fun x H1=>tyV K T x H1/\t σ H1 fun xs H2=>r x xs H2 Q
variable {o e:Expr}{es:D1}{to:TE}{t:TA}{name:Wb}{apos cpos:ZD}{T id:String}{r:V->List V->Hp->VK->Prop}
def tu (pa:PlainAttrs T) (slot:Slot T name id) (hty:typeOf (.builtin id)=pure (.type "method_descriptor")) (hm:MtR X id r) (ho:PE X o to) (ha:PA X (e::es) t)
  (hbase:aae o name X.env (Xv o X.env)=Xv o X.env:=by rfl)
  (hfew:((XX cpos (Wc (e::es) X.env)).all (fun x=>!x.1) && (aaz cpos (Zi [] X.env)).all (fun x=>x.1.isSome)
   && decide ((e::es).length+([]:DS).length+(if ([]:DS).isEmpty then 0 else 1) < 30))=true:=by rfl)
  (hline:(apos.endLine == cpos.line)=true:=by rfl) (hs:Wc (e::es) X.env=(false,Xv e X.env)::Wc es X.env:=by rfl) (hplain:(XX cpos (Wc es X.env)).any (·.1)=false:=by rfl) :
  PE X (.Call (.Attribute o name apos) (e::es) [] cpos) (tBM X.K T r to t):=by
 intro ZY s σ H Q I h
 refine wpAny_Call_method_late hbase hfew hline U (thn (ho ZY s σ H _ I h) fun v s1 ⟨x,H1,I1,r1,ty,q1⟩=>?_)
 obtain⟨h1,h2⟩:=Rm I1 r1 ty
 refine⟨T,id,pa,slot,hty,h1,h2,?_⟩
 have hA:=ha cpos ZY s1 σ H1 _ I1 q1
 rw[hs] at hA ⊢
 refine Calls.callWith_builtin (by show (false || (XX cpos (Wc es X.env)).any (·.1))=false;rw[hplain] <;> rfl) (Calls.evalArgs_plain ?_)
 exact thn hA fun us s2 ⟨vs,H2,I2,r2,q2⟩=>hm ZY s2 σ H2 x vs v us Q I2 r1 r2 q2
/- xs.append(e),list.index on a module's tuple .. are MtR facts of 06m -/
end
def MtM (X:Cx)(id:String)(r:V->List V->Hp->VK->Prop):Prop :=
 ∀ (ZY:DI) (s:Vt) (σ:St) (H:Hp) (x:V) (xs:List V) (v:Value) (us:DV) (Q:VK),Inv X ZY σ H s->RelV x v->Vals xs us->r x xs H Q →
  VG (VM X.prog X.w) X.A (call (.builtin id) (v::us)) (EP X ZY σ Q) X.xe s
theorem Vals.one:∀ {x:V} {us:DV},Vals [x] us->∃ u,us=[u]/\RelV x u
 | _,_,.cons r .nil=>⟨_,U,r⟩
theorem Vals.two:∀ {x y:V} {us:DV},Vals [x,y] us->∃ u v,us=[u,v]/\RelV x u/\RelV y v
 | _,_,_,.cons r (.cons q .nil)=>⟨_,_,U,r,q⟩
theorem Vals.eraseIdx:∀ {xs:List V} {us:DV} (i:Nat),Vals xs us->Vals (xs.eraseIdx i) (us.eraseIdx i)
 | _,_,_,.nil=>.nil
 | _,_,0,.cons _ t=>t
 | _,_,i+1,.cons r t=>.cons r (Vals.eraseIdx i t)
def Vals.reverse {xs:List V}{us:DV}(h:Vals xs us):Vals xs.reverse us.reverse:=by
 induction h with
 | nil=>exact .nil
 | cons r t ih=>rw[aaK,aaK];exact Vals.append ih (.cons r .nil)
theorem xP {α:Type}:∀ (l:List α) (i:Nat),(l.eraseIdx i).length<=l.length
 | [],_=>Vw _
 | _::_,0=>Xq _
 | _::r,i+1=>ace (xP r i)
section
variable {X:Cx}{ZY:DI}{σ:St}{H:Hp}{s:Vt}{l b:Addr}{xs ys zs:List V}
def Inv.Uu {its its':DV}{n:Nat}{f:Array Value->Array Value}{t':Nat}(I:Inv X ZY σ H s)(hH:H l=some (.lst xs))
  (e:s.heap.get? l=some { cls:=.type "list",data:=.seq its.toArray n }) (hf:f its.toArray=its'.toArray) (hv:Vals ys its') (hz:ys.length<=sizeLine) :
  Inv X ZY σ (upd H l (.lst ys)) { s with heap:=s.heap.update l (YS f),toks:=t' }:=by
 have q:=PySem.IsL.update e f
 rw[hf] at q
 refine I.write (x:=l) (e:=l) (by rw[hH];exact trivial) (.inl U) (fun b' u hb hu=>(V9 s.heap (YS f) (Xl hb)).trans hu) ⟨_,q⟩ ?_
 exact⟨hz,its',_,hv,q⟩
def Inv.SQ {its:DV}{t':Nat}(I:Inv X ZY σ H s)(hv:Vals ys its)(hz:ys.length<=sizeLine) :
  Inv X ZY σ (upd H s.heap.objs.size (.lst ys)) { s with heap:=s.heap.push { cls:=.type "list",data:=.seq its.toArray },toks:=t' } :=
 I.laid (fun _ _ q=>Vu _ q) (Vw _) ⟨hz,its,0,hv,VN _ U⟩
def Inv.fresh (I:Inv X ZY σ H s):H s.heap.objs.size=none:=I.hok.fresh (Vw _)
def Inv.Su (I:Inv X ZY σ H s)(hH:H l=some (.lst xs)):xs.length<=sizeLine/\∃ (its:DV) (n:Nat),Vals xs its/\xs.length=its.length/\s.heap.get? l=some { cls:=.type "list",data:=.seq its.toArray n }:=by
 obtain⟨z,its,n,r,e⟩:=I.hok l _ hH
 exact⟨z,its,n,r,r.length,e⟩
end
section
variable {X:Cx}
inductive Cm (x:V)(vs:List V)(H:Hp)(Q:VK):Prop where
 | mk (l:Addr) (xs:List V) (y:V) (z0:x = .ref l) (z1:vs=[y]) (z2:H l=some (.lst xs)) (z3:xs.length < sizeLine) (z4:Q .non (upd H l (.lst (xs++[y])))):Cm  x vs H Q
def PX:V->List V->Hp->VK->Prop:=fun x vs H Q=>Cm  x vs H Q
def du:MtM X "list.append" PX:=by
 intro ZY s σ H x vs v us Q I rx rv h
 obtain⟨l,xs,y,rfl,rfl,hH,hz,q⟩:=h
 cases rx
 obtain⟨u,rfl,ru⟩:=rv.one
 obtain⟨z,its,n,r,hl,e⟩:=I.Su hH
 refine call_meets F.slot_list_append ⟨_,e,U⟩ F.entry_list_append (F.args_list_append_2 _ _) (PySem.list_append l its.toArray n u (by rw[V1];lia)) ⟨e,?_⟩
 refine⟨.non,_,I.Uu (its':=its++[u]) hH e (by simp) (r.append (.cons ru .nil)) ?_,U,q⟩
 rw[VH,List.length_singleton]
 lia
def LC:V->List V->Hp->VK->Prop:=fun x vs H Q=>∃ l xs i k y,x = .ref l/\vs=[.int i]/\H l=some (.lst xs)/\-(2 ^ 63)<=i/\i < 2 ^ 63/\ab9 i xs.length=some k/\xs[k]? = some y/\Q y (upd H l (.lst (xs.eraseIdx k)))
def JH:MtM X "list.pop" LC:=by
 intro ZY s σ H x vs v us Q I rx rv h
 obtain⟨l,xs,i,k,y,rfl,rfl,hH,h1,h2,hk,hy,q⟩:=h
 cases rx
 obtain⟨u,rfl,ru⟩:=rv.one
 obtain⟨t,rfl⟩:=ru
 obtain⟨z,its,n,r,hl,e⟩:=I.Su hH
 obtain⟨w,hw,rw'⟩:=r.get hy
 refine call_meets F.slot_list_pop ⟨_,e,U⟩ F.entry_list_pop (F.args_list_pop_2 _ _)
  (MeetsSeq.list_pop_at l its.toArray n i t k w (fitsIndex_both h1 h2) (by rw[V1,← hl];exact hk) (by rw[← W6];exact hw) (by rw[V1];lia)) ⟨e,?_⟩
 refine⟨y,_,I.Uu (its':=its.eraseIdx k) hH e ?_ (r.eraseIdx k) ?_,rw',q⟩
 ·show its.toArray.eraseIdxIfInBounds k=(its.eraseIdx k).toArray
  rw[List.eraseIdxIfInBounds_toArray]
 ·have:=xP xs k
  lia
inductive RB (x:V)(y:V)(H:Hp)(Q:VK):Prop where
 | mk (l:Addr) (b:Addr) (xs:List V) (zs:List V) (z0:x = .ref l) (z1:y = .ref b) (z2:H l=some (.lst xs)) (z3:H b=some (.lst zs)) (z4:xs.length+zs.length<=sizeLine) (z5:∀ p,H p=none->Q (.ref p) (upd H p (.lst (xs++zs)))):RB  x y H Q
def Vn:R2:=fun x y H Q=>RB  x y H Q
def kh:OpR X (Z0 .Add) Vn:=by
 intro ZY s σ H x y v u Q I rx ry h
 obtain⟨l,b,xs,zs,rfl,rfl,hH,hB,hz,q⟩:=h
 cases rx
 cases ry
 obtain⟨z,its,n,r,hl,e⟩:=I.Su hH
 obtain⟨z2,its2,n2,r2,hl2,e2⟩:=I.Su hB
 refine PySem.P.add_list e e2 ?_ (by rw[V1,V1];lia)
 have ea:its.toArray++its2.toArray=(its++its2).toArray:=by simp
 rw[ea]
 exact⟨.ref _,_,I.SQ (t':=s.toks) (r.append r2) (by rw[VH];lia),U,q _ I.fresh⟩
end
section
variable {prog:V4}{w:Wn}{A:Wm}{E:DM}{s:Vt}
set_option maxRecDepth 100000 in
end
section
variable {X:Cx}
end
end L2
namespace Att
open PySem PySem.W PySem.Calls PyProof.Rows
def ql {P:Params}{h:WD}:∀ (ns:D6) (vs:DV),WellAll P h vs (ns.map WData.int)->Xa vs ns:=by
 intro ns
 induction ns with
 | nil =>
  intro vs w
  rw[List.map_nil] at w
  cases w
  exact .nil
 | cons n ns ih =>
  intro vs w
  rw[WL] at w
  cases w with
  | cons a b =>
   cases a
   exact .cons _ _ (ih _ b)
def Jm {l:OpenLaw}{n:Nat}(hn:l.most=some n){P:Params}{h:WD}{args:List WData}{vals:DV}
  (hpre:l.row.toRowW.claim.pre args=true) (hwl:WellAll P h vals args) :
  ∃ a vs ns,vals=[VV a]/\args=[WData.list (ns.map WData.int)]/\h.get? a=some { cls:=.type "list",data:=.seq vs.toArray }/\Xa vs ns/\ns.length<=n:=by
 have hsh:WShape.hasAll [] args [.list .int]=true:=(pre_splitW hpre).1
 have hc:l.pre.holds [] { args:=args }=true:=(pre_splitW hpre).2
 obtain⟨d,r,rfl,h1,h2⟩:=hasAllW_cons hsh
 obtain rfl:=hasAllW_nil h2
 obtain⟨xs,rfl,h3⟩:=hasW_list h1
 obtain⟨ns,rfl⟩:=items_int h3
 have hlen:ns.length<=n:=by
  unfold OpenLaw.pre at hc
  have h4:(WTm.not (.lt (.lit (.int (n:Int))) (.len (.arg 0)))).holds [] { args:=[.list (ns.map .int)] }=true:=by
   have h4:=(holds_andW hc).1
   rw[hn] at h4
   exact h4
  have h5:=condW_of h4 (w_not (w_lt w_lit (w_len_list (w_arg U))))
  rw[Vs] at h5
  refine Nat.le_of_not_lt fun q=>?_
  have q':(n:Int) < ((ns.length:Nat):Int):=by lia
  first
   | (rw[decide_eq_true q'] at h5;exact absurd h5 (by decide))
   | (simp at h5;lia)
 cases hwl with
 | cons w1 w2 =>
  cases w2
  cases w1 with
  | list ho hall=>exact⟨_,_,ns,U,U,ho,ql ns _ hall,hlen⟩
def G4 (l:OpenLaw)(args:List WData):l.row.toRowW.claim.post args (.bool true) args=true :=
 postW_of (r:=l.row.toRowW) (X:=(true == true))
  (show WShape.has [] (.bool true) .bool=true by first | rfl | decide | simp [WShape.has,WShape.arms,WShape.armsAll])
  (show (WTm.eq .res (.lit (.bool true))).value [] { args:=args,res:=some (.bool true),after:=args }=some (.bool (true == true)) from w_eq_bool (w_res U) w_lit) U
def zp {l:OpenLaw}{n:Nat}{q:V4}{loose:D9}{XP:(Wb->DO)->WD->Prop}{YP:Wn->WD->Prop}{d:DefRec}
  (hn:l.most=some n) (hdf:d.params.defaults=[])
  (call:∀ (w:Wn) (s₀ s₁:Vt) (mg mb:Wb->DO) (fa:Addr) (o:X8) (pm cd doc:Value) (a:Addr) (vs:DV) (ns:D6),
   Ground q loose [] XP w s₀ mg mb s₁.heap->YP w s₁.heap →
   s₁.heap.get? fa=some o->o.data = .func (docDef d.name d.params d.body d.scope pm cd doc)->s₁.heap.CodeRec cd d.name->mg d.name=some (.ref fa) →
   s₁.heap.get? a=some { cls:=.type "list",data:=.seq vs.toArray }->Xa vs ns->ns.length<=n->s₁.gens = #[] →
   Xi (VM l.prog w) abT (.call (.ref fa) ⟨[.ref a],[]⟩) (fun r s'=>r = .ok (.ret (.bool true))/\OldK s₁.heap s'.heap/\s'.os=s₁.os/\aaO s'.gens) s₁) :
  WalkO q loose XP YP l.row.toRowW d [] (fun f vs=>PySem.call f vs):=by
 intro w s₀ s₁ mg mb G Y fa o pm cd doc dV kV ho hd hcd hD hmg hg args vals as hpre hlay hrd hwl hlo
 obtain rfl:dV = .none:=Dflts.none hD hdf
 obtain rfl:kV = .none:=Dflts.noKw hD
 obtain⟨a,vs,ns,rfl,rfl,hobj,hints,hlen⟩:=Jm hn hpre hwl
 refine enter_call (Yl (call w s₀ s₁ mg mb fa o pm cd doc a vs ns G Y ho (fd_plain hd) hcd hmg hobj hints hlen hg) fun r s' hq=>?_)
 obtain⟨rfl,h2,h3,h4⟩:=hq
 exact⟨.inl ⟨.bool true,.bool true,[],U,fun _=>U,.bool true,G4 l _,fun _=>⟨aaM,fun _ hm=>(nomatch hm)⟩⟩,h2,h3,h4⟩
section
variable {prog:V4}{w:Wn}{A:Wm}{E:DM}{s:Vt}{K:Frag}
def Nr {R:aaB->Vt->Prop}{name qual:Wb}{params:abw}{body:D3}{scope:Yg}{dV kV doc pm cdv ct oc:Value}{an od:DT}{osl:Array (DO)}{f:Addr}{args:Args}{binds:DH}
  (X:K.In s.heap) (hlim:s.heap.NoLimit) (ho:K.lookup f=some ⟨oc,od,.func (fnOf name qual params body scope dV kV doc pm an cdv ct),osl⟩) (hcd:codeIn K cdv qual=true) (hroom:A.depth < recursionLimit)
  (hbind:aa6 s (fnOf name qual params body scope dV kV doc pm an cdv ct) args binds)
  (hkind:(binds.all fun y=>scope.names.lookup y.1 == some .local || scope.names.lookup y.1 == some .cell)=true)
  (h:∀ s₁,InCallC s s.heap.objs.size (bindL (envOfC qual scope s.heap.objs.size f cdv).kindOf binds fun _=>none) (cellsFrom (s.heap.objs.size+1) scope.names [])
    (bindC (envOfC qual scope s.heap.objs.size f cdv).kindOf binds fun _=>none) s₁ →
   VG (VM prog w) (A.deeper (envOfC qual scope s.heap.objs.size f cdv)) (execs body (envOfC qual scope s.heap.objs.size f cdv))
    (fun fl s'=>R (.ok (.ret (match fl with | .ret v=>v | _=>.none))) s')
    (fun e s'=>VG (VM prog w) (A.deeper (envOfC qual scope s.heap.objs.size f cdv)) (leaving (envOfC qual scope s.heap.objs.size f cdv) e) (fun _ s''=>R (.error e) s'') (fun e' s''=>R (.error e') s'') s') s₁)
  (hco:scope.isCoroutine=false) (hgen:scope.isGenerator=false) (hk:scope.kind = .function):Xi (VM prog w) A (.call (.ref f) args) R s:=by
 refine codeAny_call_function hroom (X _ _ ho) U hco hgen U (codeRec_of X hcd) (hbind _ _ _ _ ?_)
 refine wpAny_newFunctionEnv_cells hk (kindsX hkind _) fun env he s₁ x=>?_
 subst he
 exact⟨hlim.keeps x.toInCall.keep,codeAny_func (h s₁ x)⟩
end
end Att
namespace L2
open PySem PySem.Spec PyProof.Rows
theorem iM:∀ {vs:DV} {ns:D6},Xa vs ns->Vals (ns.map V.int) vs
 | _,_,.nil=>.nil
 | _,_,.cons n t h=>.cons ⟨t,U⟩ (iM h)
def inClass (s:Stmt)(j:Nat):Stmt:=match s with
 | .ClassDef _ _ _ body _ _ _ _ _ _ _=>body.getD j (.Pass ⟨0,0,0,0⟩)
 | _=>.Pass ⟨0,0,0,0⟩
def di (s:Stmt):abw:=match s with
 | .FunctionDef _ a _ _ _ _ _ _ _ _=>a
 | _=>{ posonlyargs:=[],args:=[],vararg:=none,kwonlyargs:=[],kw_defaults:=[],kwarg:=none,defaults:=[] }
def bO (s:Stmt):D3:=match s with
 | .FunctionDef _ _ b _ _ _ _ _ _ _=>b
 | _=>[]
def aB (s:Stmt):Yg:=match s with
 | .FunctionDef _ _ _ _ _ _ sc _ _ _=>sc
 | _=>{ kind:=.function,names:=[],isGenerator:=false,isCoroutine:=false }
abbrev CX0:CXT:=fun _ _ _ _ _ _=>False
abbrev E0:XK:=fun _ _ _=>False
def nH {X:Cx}:Passes CX0 X E0:=fun _ _ _ _ _ _ _ h=>h.elim
structure Fun (K:VB)(x qual:Wb)(st:Stmt)(f:Addr)(fd:WR):Prop where
 ex:∃ (oc:Value) (od:DT) (kV doc pm:Value) (an:DT) (cdv ct:Value) (osl:Array (DO)),
  fd=YB x qual (di st) (bO st) (aB st) .none kV doc pm an cdv ct/\K.lookup f=some ⟨oc,od,.func fd,osl⟩/\Zt K cdv qual=true
 kp:Xx K (.ref f)=true
section
variable {P:V4}{w:Wn}{K:VB}{mg:Wb->Option Value}{base:WD}
def Fun.ok {x qual:Wb}{st:Stmt}{f:Addr}{fd:WR}{N ps:D9}{k:Nat}{sp:Sp}(F:Fun K x qual st f fd)(S:aG N ps (aB st))(len:∀ vs H Q E,sp vs H Q E->vs.length=ps.length)
  (hbody:∀ (cdv:Value) (A:Wm) (outer:D4) (s:Vt) (H:Hp) (vs:List V) (Q:VK) (E:XK),fj k (A.deeper (envOfC qual (aB st) s.heap.objs.size f cdv))->sp vs H Q E →
   ∃ t,PSs (wW CX0 P w K mg base N qual (aB st) f cdv A outer s H E).nox (bO st) t/\t { nx:=fun _ H'=>Q .non H',rt:=Q } (start N vs) H):bH P w K mg base CX0 (k+1) f fd ps sp:=by
 obtain⟨oc,od,kV,doc,pm,an,cdv,ct,osl,rfl,lk,hcd⟩:=F.ex
 refine NB lk hcd S len fun A outer s H vs Q E hr hsp=>?_
 obtain⟨t,h,q⟩:=hbody cdv A outer s H vs Q E hr hsp
 exact⟨t,h.nox,q⟩
def Fun.binds {x qual:Wb}{st:Stmt}{f:Addr}{fd:WR}{ps:D9}(F:Fun K x qual st f fd)
  (h:∀ (kV doc pm:Value) (an:DT) (cdv ct:Value) (us:DV),us.length=ps.length->Zk (YB x qual (di st) (bO st) (aB st) .none kV doc pm an cdv ct) ⟨us,[]⟩=pure (ps.zip us)):Binds K fd ps []:=by
 obtain⟨oc,od,kV,doc,pm,an,cdv,ct,osl,rfl,lk,hcd⟩:=F.ex
 exact .all (h kV doc pm an cdv ct)
def rE {x qual:Wb}{st:Stmt}{f:Addr}{oc:Value}{od an:DT}{osl:Array (DO)}{kV doc pm cdv ct:Value}(l:K.lookup f=some ⟨oc,od,.func (YB x qual (di st) (bO st) (aB st) .none kV doc pm an cdv ct),osl⟩)
  (c:Zt K cdv qual=true) (k:Xx K (.ref f)=true):Fun K x qual st f (YB x qual (di st) (bO st) (aB st) .none kV doc pm an cdv ct):=⟨⟨oc,od,kV,doc,pm,an,cdv,ct,osl,U,l,c⟩,k⟩
end
def aQ {n:Nat}(h:n<=1000):n < sizeLine:=ZW h (by decide)
section
variable {X:Cx}
def pv (i:Nat){x:Wb}{pos:ZD}(hN:X.N[i]? = some x:=by rfl)(hv:Vis X.env.scope x:=by first | exact VF rfl | exact aaC (VF rfl) | exact aaC (aaC rfl))(hd:(x == ("__debug__" : Wb))=false:=by decide)
  (hcd:(x == ("__classdict__" : Wb))=false:=by decide):PE X (.Name x pos) (CW i):=Mu hN hv hd hcd
end
def bZ {A B:Prop}(h:B):if false=true then A else B:=by
 rw[if_neg Vy]
 exact h
def cW {A B:Prop}(h:A):if true=true then A else B:=by
 rw[if_pos U]
 exact h
def jE {c A B:Prop}[Decidable c](h1:c->A)(h2:¬ c->B):if c then A else B:=by
 by_cases h:c
 ·rw[if_pos h]
  exact h1 h
 ·rw[if_neg h]
  exact h2 h
def aN (H H':Hp):Prop:=∀ b o,H b=some o->H' b=some o
def aN.refl (H:Hp):aN H H:=fun _ _ h=>h
def aN.trans {H H1 H2:Hp}(a:aN H H1)(b:aN H1 H2):aN H H2:=fun c o h=>b c o (a c o h)
def aN.free {H H':Hp}(e:aN H H'){l:Addr}(h:H' l=Option.none):H l=Option.none:=by
 cases q:H l with
 | none=>rfl
 | some o =>
  rw[e l o q] at h
  cases h
def aN.seq {K:VB}{H H':Hp}{a:Addr}{xs:List V}(e:aN H H')(h:SqL K H a xs):SqL K H' a xs:=by
 rcases h with (h | ⟨o,h⟩) | h
 ·exact .inl (.inl (e _ _ h))
 ·exact .inl (.inr ⟨o,e _ _ h⟩)
 ·exact .inr h
end L2
set_option maxHeartbeats 4000000
namespace L2
open PySem PySem.Spec PyProof.Rows
theorem Gq {env:Env}:∀ {names:List (Wb × aaE)} {x:Wb},names.lookup x=some .free →
  (names.map fun (n,k)=>if (k == X3 && env.scope.kind == .function && env.kindOf n == some .cell) then (n,abI) else (n,k)).lookup x=some .cell ∨
  (names.map fun (n,k)=>if (k == X3 && env.scope.kind == .function && env.kindOf n == some .cell) then (n,abI) else (n,k)).lookup x=some .free
 | [],_,h=>by simp at h
 | (n,k)::r,x,h=>by
  have ih:=@Gq env r x
  rw[WL]
  cases hx:x == n with
  | true =>
   rw[WX,hx] at h
   cases h
   by_cases hc:(X3 == X3 && env.scope.kind == .function && env.kindOf n == some .cell)=true
   ·refine .inl ?_
    dsimp only
    rw[if_pos hc,WX,hx]
   ·refine .inr ?_
    dsimp only
    rw[if_neg hc,WX,hx]
  | false =>
   rw[WX,hx] at h
   dsimp only
   by_cases hc:(k == X3 && env.scope.kind == .function && env.kindOf n == some .cell)=true
   ·rw[if_pos hc,WX,hx];exact ih h
   ·rw[if_neg hc,WX,hx];exact ih h
theorem zP {env:Env}:∀ {names:List (Wb × aaE)} {x:Wb} {k':aaE},
  (names.map fun (n,k)=>if (k == X3 && env.scope.kind == .function && env.kindOf n == some .cell) then (n,abI) else (n,k)).lookup x=some k'->names.lookup x=some k'∨names.lookup x=some .free
 | [],_,_,h=>by simp at h
 | (n,k)::r,x,k',h=>by
  have ih:=@zP env r x k'
  rw[WL] at h
  dsimp only at h
  cases hx:x == n with
  | true =>
   rw[WX,hx]
   by_cases hc:(k == X3 && env.scope.kind == .function && env.kindOf n == some .cell)=true
   ·have hk:k = .free:=by
     rw[Xp,Xp] at hc
     exact eq_of_beq hc.1.1
    exact .inr (by rw[hk])
   ·rw[if_neg hc,WX,hx] at h
    exact .inl h
  | false =>
   rw[WX,hx]
   by_cases hc:(k == X3 && env.scope.kind == .function && env.kindOf n == some .cell)=true
   ·rw[if_pos hc,WX,hx] at h;exact ih h
   ·rw[if_neg hc,WX,hx] at h;exact ih h
theorem yV {env:Env}:∀ (names:List (Wb × aaE)) (acc:DJ),(∀ y∈names,y.2 = .free->∃ c,env.cells.lookup y.1=some c)->(∀ n c,acc.lookup n=some c->env.cells.lookup n=some c) →
  ∃ cl,(forIn names acc (fun (x:Wb × aaE) (r:DJ)=>(match x with | (name,kind)=>if (kind == X3)=true then (do let c ← cellOf env name;pure (ZS ((name,c)::r))) else pure (ZS r):Sem (ForInStep (DJ)))))=pure cl ∧
   (∀ n c,cl.lookup n=some c->env.cells.lookup n=some c)/\(∀ n c,acc.lookup n=some c->∃ c',cl.lookup n=some c')/\∀ y∈names,y.2 = .free->∃ c,cl.lookup y.1=some c
 | [],acc,_,h=>⟨acc,by rw[List.forIn_nil],h,fun _ c e=>⟨c,e⟩,fun y hy=>by simp at hy⟩
 | (n,k)::r,acc,hf,h=>by
  rw[List.forIn_cons]
  dsimp only
  by_cases hk:(k == X3)=true
  ·rw[if_pos hk]
   have hk':k = .free:=eq_of_beq hk
   obtain⟨c,hc⟩:=hf (n,k) VP hk'
   have hc:env.cells.lookup n=some c:=hc
   have ec:cellOf env n=pure c:=by unfold cellOf;rw[hc]
   have h2:∀ m d,((n,c)::acc).lookup m=some d->env.cells.lookup m=some d:=fun m d e=>by
    rw[WX] at e
    cases hx:m == n with
    | true=>rw[hx] at e;cases e;rw[eq_of_beq hx];exact hc
    | false=>rw[hx] at e;exact h m d e
   obtain⟨cl,e1,e2,e3,e4⟩:=yV r ((n,c)::acc) (fun y hy=>hf y (VR _ hy)) h2
   refine⟨cl,by rw[ec,pure_bind,pure_bind];exact e1,e2,fun m d e=>?_,fun y hy hyf=>?_⟩
   ·refine (match hx:m == n with | true=>e3 m c (by rw[WX,hx]) | false=>e3 m d (by rw[WX,hx];exact e))
   ·rcases List.mem_cons.mp hy with rfl | hy
    ·exact e3 n c (by rw[WX,beq_self_eq_true])
    ·exact e4 y hy hyf
  ·rw[if_neg hk]
   obtain⟨cl,e1,e2,e3,e4⟩:=yV r acc (fun y hy=>hf y (VR _ hy)) h
   refine⟨cl,by rw[pure_bind];exact e1,e2,e3,fun y hy hyf=>?_⟩
   rcases List.mem_cons.mp hy with rfl | hy
   ·exact absurd (by rw[show k=X3 from hyf];rfl) hk
   ·exact e4 y hy hyf
def uD {scope:Yg}{env:Env}(h:∀ y∈scope.names,y.2 = .free->∃ c,env.cells.lookup y.1=some c) :
  ∃ cl,closureFor scope env=pure cl/\(∀ n c,cl.lookup n=some c->env.cells.lookup n=some c)/\∀ y∈scope.names,y.2 = .free->∃ c,cl.lookup y.1=some c:=by
 obtain⟨cl,e1,e2,_,e4⟩:=yV scope.names [] h (fun _ _ e=>by simp at e)
 refine⟨cl,?_,e2,e4⟩
 unfold closureFor
 first
  | exact e1
  | (rw[← bind_pure (x:=pure cl),← e1];rfl)
  | (simp only[bind_pure];exact e1)
def bN (X:Cx)(scope:Yg)(cl:DJ)(C:Addr)(N:D9)(s:Vt)(H:Hp)(fp:D0):Cx :=
 {X with N:=N,s₀:=s,H₀:=H,env:=abS scope cl C X.env,outer:=X.stack,ex:=fp,fn:=fun _=>false,pn:=[],xe:=fun _ _=>False }
structure oY (X:Cx)(scope:Yg)(F:D9)(cap:D7):Prop where
 kind:scope.kind = .function
 cell:∀ y∈scope.names,y.2≠.cell
 nms:∀ y∈scope.names,y.2 = .local->scope.names.lookup y.1=some .local
 fr:∀ y∈scope.names,y.2 = .free->X.env.kindOf y.1=some .cell∨X.env.kindOf y.1=some .free
 len:cap.length=F.length
 at':∀ (k:Nat) (x:Wb),F[k]? = some x->∃ i,cap[k]? = some i/\X.N[i]? = some x/\scope.names.lookup x=some .free
def PTs (X:Cx)(ifs:D1)(t:TT):Prop :=
 ∀ (ZY:DI) (s:Vt) (σ:St) (H:Hp) (Q:Bool->Hp->Prop),Inv X ZY σ H s->t σ H Q →
  VG (VM X.prog X.w) X.A (forIn ifs true fun c r=>if r=true then do let ok ← isTrue c X.env (Xv c X.env);pure (ZS ok) else pure (ZS r)) (TP X ZY σ Q) X.xe s
def Oh:TT:=fun _ H Q=>Q true H
def cQ {X:Cx}:PTs X [] Oh:=fun _ _ _ H _ I h=>wpAny_tests_nil ⟨H,I,h⟩
def jf {X:Cx}{c:Expr}{t:TT}(hc:PT X c t):PTs X [c] t:=fun ZY s σ H Q I h=>wpAny_tests_one (hc ZY s σ H Q I h)
def Dt {prog:V4}{w:Wn}{A:Wm}{R:aaB->Vt->Prop}{s:Vt}{elt target iter:Expr}{ifs:D1}{scope:Yg}{pos:ZD}{it acc:Value}{env:Env}(I:Nat->Vt->Prop)
  (turn:∀ n s,I n s->VG (VM prog w) A (Y8 it) (fun r s₁=>match r with
   | none=>R (.ok .next) s₁
   | some v=>VG (VM prog w) A (Yw target it v) (fun _ s₀=>VG (VM prog w) A (aaZ target env v) (fun _ s₂ =>
     VG (VM prog w) A (forIn ifs true fun c r=>if r=true then do let ok ← isTrue c env (Xv c env);pure (ZS ok) else pure (ZS r)) (fun ok s₃ =>
      if ok=true then VG (VM prog w) A (Xv elt env) (fun x s₄=>VG (VM prog w) A (call (.builtin "list.append") [acc,x]) (fun _ s₅=>∃ m,m < n/\I m s₅) (fun _ _=>False) s₄) (fun _ _=>False) s₃
      else ∃ m,m < n/\I m s₃) (fun _ _=>False) s₂) (fun _ _=>False) s₀) (fun _ _=>False) s₁) (fun _ _=>False) s)
  (n:Nat) (h:I n s):Xi (VM prog w) A (.compLoop (.ListComp elt [⟨target,iter,ifs,0⟩] scope pos) 0 it acc env) R s:=by
 have no:∀ {E:DM} (x:Value) (s':Vt),(fun (_:Value) (_:Vt)=>False) x s'->E x s':=fun _ _ z=>z.elim
 refine codeAny_loop U I (fun n s hI=>?_) n h
 refine (show VG (VM prog w) A ((compTurn (.ListComp elt [⟨target,iter,ifs,0⟩] scope pos) 0 it acc env).onRaise (fun x=>do Z8 x env;acs x)) _ _ s from wpAny_noted ?_)
 rw[compTurn_list]
 refine Vr (Yo (Vr (Ww (turn n s hI) (fun r s₁ h₁=>?_) no)))
 cases r with
 | none=>exact Vv h₁
 | some v =>
  refine Vr (Ww h₁ (fun _ s₀ h₀=>Vr (Ww h₀ (fun _ s₂ h₂=>Vr (Ww h₂ (fun ok s₃ h₃=>?_) no)) no)) no)
  cases ok with
  | false=>exact Vv ⟨U,h₃⟩
  | true=>exact Vr (Vr (Ww h₃ (fun x s₄ h₄=>Vr (Ww h₄ (fun _ s₅ h₅=>Vv (Vv ⟨U,h₅⟩)) no)) no))
def mD (D:Addr)(σ0:St)(J:It)(g:TG)(tt:TT)(te:TE)(H1:Hp)(Q:Hp->Prop):Prop :=
 ∃ W:Nat->Nat->List V->St->Hp->Prop,(∃ m,W 0 m [] σ0 (upd H1 D (.lst []))) ∧
  ∀ i m ys σ' H',W i m ys σ' H'->H' D=some (.lst ys)/\((J.stop i H'/\Q H')∨(J.go i H'/\∃ N:List V->St->Hp->Prop,(∀ zs σ2 H2,N zs σ2 H2->∃ m',m' < m/\W (i+1) m' zs σ2 H2) ∧
   ∀ x H2,J.yld i H' x H2->g x σ' H2 fun σ3 H3=>tt σ3 H3 fun b H4=>if b=true then te σ3 H4 fun y H5=>H5 D=some (.lst ys)/\ys.length < sizeLine/\N (ys++[y]) σ3 (upd H5 D (.lst (ys++[y]))) else N ys σ3 H4))
def MK (n:Nat)(cap:D7)(σ:St):St:=Xd n none++cap.map fun i=>(σ[i]?).join
def Ug (n:Nat)(cap:D7)(wi:TI)(g:TG)(tt:TT)(te:TE):TE:=fun σ H Q=>wi σ H fun J H1=>∀ D,H1 D=none->mD D (MK n cap σ) J g tt te H1 fun H2=>Q (.ref D) H2
section
variable {X:Cx}{elt tg iter:Expr}{ifs:D1}{scope:Yg}{pos:ZD}{L F:D9}{cap:D7}{wi:TI}{g:TG}{tt:TT}{te:TE}
def Ac {ZY:DI}{σ:St}{H:Hp}{s:Vt}(I:Inv X ZY σ H s){b:Addr}(h1:b≠X.env.locals)(h2:b ∉ X.fs):b ∉ frs X.stack:=fun z=>(List.mem_cons.mp (I.tM b z)).elim h1 h2
def tO {cl:DJ}{ZY:DI}{σ:St}{H:Hp}{s:Vt}{fp:D0}{h₁:WD}{tk:Nat}(ok:oY X scope F cap)(I:Inv X ZY σ H s)(hfp:∀ b∈fp,yM X ZY H b/\b < s.heap.objs.size)
  (sub:∀ n c,cl.lookup n=some c->X.env.cells.lookup n=some c) (all:∀ y∈scope.names,y.2 = .free->∃ c,cl.lookup y.1=some c)
  (ns:h₁.Ns s.heap.objs.size fun _=>none) (kp:∀ b o,s.heap.get? b=some o->h₁.get? b=some o) :
  Inv (bN X scope cl s.heap.objs.size (L++F) s H fp) [] (MK L.length cap σ) H { s with heap:=h₁,toks:=tk }:=by
 have frk:∀ x,scope.names.lookup x=some .free->X.env.kindOf x=some .cell∨X.env.kindOf x=some .free:=fun x e=>ok.fr (x,.free) (WW e) U
 have okX:(bN X scope cl s.heap.objs.size (L++F) s H fp).Ok:=by
  refine⟨I.ok.mod,ok.kind,I.ok.glob,I.ok.blt,Vw _,fun x y c e1 e2=>I.ok.inj x y c (sub x c e1) (sub y c e2),fun x hx=>?_,fun x c hx _=>?_,I.ok.hd,I.ok.frames,.inl U,fun b hb=>?_,I.bs,Wf I.ok.bsz I.sz,fun b o e hb=>?_,fun b hb=>?_,I.stack,I.Ah⟩
  ·have e:scope.names.lookup x=some .free:=by
    rcases hx with hx | hx
    ·rcases zP (env:=X.env) (show _=some abI from hx) with e | e
     ·exact absurd U (ok.cell _ (WW e))
     ·exact e
    ·rcases zP (env:=X.env) (show _=some X3 from hx) with e | e <;> exact e
   exact all (x,.free) (WW e) U
  ·exact absurd (show false=true from hx) Vy
  ·exact⟨V5 (hfp b hb).2,fun x c e=>(hfp b hb).1.2.2.2.2.1 x c (sub x c e)⟩
  ·obtain⟨_,_,_,f3,_⟩:=(hfp b hb).1
   rcases f3 with z | z
   ·exact I.ok.noex b o e z
   ·exact absurd (Vx (VL e) (Wf I.ok.bsz z)) (WK _)
  ·obtain⟨_,f1,f2,_⟩:=(hfp b hb).1
   exact Ac I f1 f2
 refine⟨okX,U,I.bare,Un.kept kp,⟨_,ns,fun i x v e1 e2 e3=>?_⟩,fun x c e=>?_,I.hok.fresh (Vw _),fun x c e=>I.freeC x c (sub x c e),fun p hp=>absurd (show p∈([]:DI) from hp) (by simp),I.hok.kept kp,?_⟩
 ·have e1:(L++F)[i]? = some x:=e1
  have e2:(Xd L.length none++cap.map fun i=>(σ[i]?).join)[i]? = some (some v):=e2
  have hL:¬ i < L.length:=fun hi=>by
   rw[List.getElem?_append_left (by simpa using hi),aaW] at e2
   split at e2 <;> cases e2
  have hi:L.length<=i:=Nat.le_of_not_lt hL
  rw[Yu hi] at e1
  rw[Yu (by simpa using hi),Y9,V7] at e2
  obtain⟨j,hj,hN,hk⟩:=ok.at' _ _ e1
  rw[hj] at e2
  have e4:(σ[j]?).join=some v:=by simpa using e2
  have e5:σ[j]? = some (some v):=by
   cases q:σ[j]? with
   | none=>rw[q] at e4;cases e4
   | some a=>rw[q] at e4;exact congrArg some e4
  obtain⟨m,hn,hl⟩:=I.loc
  have kd:=frk x hk
  obtain⟨u,r,lk⟩:=hl j x v hN e5 (kd.elim (fun z=>.inr (.inl z)) fun z=>.inr (.inr z))
  obtain⟨c,hc,hcell⟩:∃ c,X.env.cells.lookup x=some c/\s.heap.IsCell c (some u):=by
   rcases lk with⟨z,_⟩ | ⟨_,c,z1,z2⟩
   ·rcases kd with y | y <;> (rw[y] at z;cases z)
   ·exact⟨c,z1,z2⟩
  obtain⟨c',hc'⟩:=all (x,.free) (WW hk) U
  have ec:c'=c:=by
   have:=sub x c' hc'
   rw[hc] at this
   exact (Wo this).symm
  subst ec
  obtain⟨o,ho,hd⟩:=hcell
  exact⟨u,r,.inr ⟨(Gq (env:=X.env) hk),c',hc',o,kp _ _ ho,hd⟩⟩
 ·obtain⟨v,o,ho,hd⟩:=I.cell x c (sub x c e)
  exact⟨v,o,kp _ _ ho,hd⟩
 ·show (Xd L.length (none:Option V)++cap.map fun i=>(σ[i]?).join).length=(L++F).length
  rw[VH,VH,Y9,Vs,ok.len]
def Cq {cl:DJ}{ZY:DI}{σ:St}{s2:Vt}{H2:Hp}{it:Addr}{fp:D0}{tn:Nat->WD->Prop}{J:It}{use:Option (Value->Sem Unit)}{QQ:DM}{Z:Hp->Prop}{E:DM}
  (hc:X.calm=true) (ok:oY X scope F cap)
  (sub:∀ n c,cl.lookup n=some c->X.env.cells.lookup n=some c) (all:∀ y∈scope.names,y.2 = .free->∃ c,cl.lookup y.1=some c)
  (hg:∀ cl C s H fp,PG (bN X scope cl C (L++F) s H fp) tg g) (ht:∀ cl C s H fp,PTs (bN X scope cl C (L++F) s H fp) ifs tt) (he:∀ cl C s H fp,PE (bN X scope cl C (L++F) s H fp) elt te)
  (I2:Inv X ZY σ H2 s2) (T:Turn X.prog X.w X.K tg J fp it tn) (st2:tn 0 s2.heap) (f2:∀ b∈fp,yM X ZY H2 b)
  (q2:mD s2.heap.objs.size (MK L.length cap σ) J g tt te H2 Z)
  (fin:∀ (C:Addr) (s':Vt) (H':Hp),Z H'->Inv X ZY σ H' s'->(∃ m,s'.heap.Ns C m)->H' C=none->C≠X.env.locals->X.s₀.heap.objs.size<=C->(∀ x c,X.env.cells.lookup x=some c->c≠C)->(∀ p∈X.pn++ZY,p.1≠C) →
   aaS (VM X.prog X.w) X.A E use QQ (.ref s2.heap.objs.size) C (.ok .next) s') :
  VG (VM X.prog X.w) X.A (newList []) (fun acc s₃=>VG (VM X.prog X.w) X.A (newFunctionEnv scope X.env.globals cl [] X.env.qual none .none (some X.env)) (fun cenv s₄ =>
   Xi (VM X.prog X.w) X.A (.compStart (.ListComp elt [⟨tg,iter,ifs,0⟩] scope pos) 0 (.ref it) acc { cenv with scope:=relabel scope X.env }) (aaS (VM X.prog X.w) X.A E use QQ acc cenv.locals) s₄) E s₃) E s2:=by
 have hD:H2 s2.heap.objs.size=none:=I2.fresh
 refine Wv (abh ok.cell (by intro y hy;simp at hy) (fun h₁ hns₁ hsb₁=>?_) ok.kind)
 dsimp only at hns₁ hsb₁ ⊢
 have I3:Inv X ZY σ (upd H2 s2.heap.objs.size (.lst [])) { s2 with heap:=s2.heap.push { cls:=.type "list",data:=.seq ([]:DV).toArray } }:=I2.SQ (t':=s2.toks) (ys:=[]) (its:=[]) .nil (Wr _)
 have blt:∀ b∈fp,b < s2.heap.objs.size:=fun b hb=>let ⟨_,e,_⟩:=T.obj 0 _ st2 b hb;VL e
 have szC:(s2.heap.push { cls:=.type "list",data:=.seq ([]:DV).toArray }).objs.size=s2.heap.objs.size+1:=Xy _ _
 generalize hs3:({ s2 with heap:=s2.heap.push { cls:=.type "list",data:=.seq ([]:DV).toArray } }:Vt)=s3 at I3
 have es3:s3.heap=s2.heap.push { cls:=.type "list",data:=.seq ([]:DV).toArray }:=by rw[← hs3]
 have eos:s3.os=s2.os:=by rw[← hs3]
 have fok:∀ b∈fp,yM X ZY (upd H2 s2.heap.objs.size (.lst [])) b/\b < s3.heap.objs.size:=fun b hb=>by
  obtain⟨f0,fr⟩:=f2 b hb
  refine⟨⟨by rw[aM (V5 (blt b hb))];exact f0,fr⟩,?_⟩
  rw[es3,szC]
  exact WY (blt b hb)
 have hkp:∀ b o,s3.heap.get? b=some o->h₁.get? b=some o:=fun b o e=>by
  have e':b < s3.heap.objs.size:=VL e
  rw[es3] at e e'
  exact (hsb₁.2 b (V5 e')).trans (Vu _ e)
 have hns:h₁.Ns s3.heap.objs.size fun _=>none:=by
  rw[es3]
  exact hns₁
 have I4:∀ tk,Inv (bN X scope cl s3.heap.objs.size (L++F) s3 (upd H2 s2.heap.objs.size (.lst [])) fp) [] (MK L.length cap σ) (upd H2 s2.heap.objs.size (.lst [])) { s3 with heap:=h₁,toks:=tk }:=fun tk =>
  tO (L:=L) ok I3 fok sub all hns hkp
 have stat:∀ {H':Hp},(∀ b∈fp,H' b=none)->∀ b∈fp,yM (bN X scope cl s3.heap.objs.size (L++F) s3 (upd H2 s2.heap.objs.size (.lst [])) fp) [] H' b:=fun {H'} hn b hb=>by
  obtain⟨⟨_,g1,g2,g3,g4,g5⟩,g6⟩:=fok b hb
  exact⟨hn b hb,V5 g6,Ac I3 g1 g2,.inl hb,fun x c e=>g4 x c (sub x c e),fun p hp=>absurd (show p∈([]:DI) from hp) (by simp)⟩
 have loop:∀ tk,Xi (VM X.prog X.w) X.A (.compLoop (.ListComp elt [⟨tg,iter,ifs,0⟩] scope pos) 0 (.ref it) (.ref s2.heap.objs.size) (abS scope cl s3.heap.objs.size X.env))
   (aaS (VM X.prog X.w) X.A E use QQ (.ref s2.heap.objs.size) s3.heap.objs.size) { s3 with heap:=h₁,toks:=tk }:=fun tk=>by
  obtain⟨W,⟨m0,w0⟩,turn⟩:=q2
  have st3:tn 0 h₁:=T.keep 0 _ _ st2 fun b hb o e=>hkp b o (by rw[es3];exact Vu _ e)
  refine Dt (fun n s'=>∃ i ys σ' H',Inv (bN X scope cl s3.heap.objs.size (L++F) s3 (upd H2 s2.heap.objs.size (.lst [])) fp) [] σ' H' s'/\tn i s'.heap/\(∀ b∈fp,H' b=none)/\W i n ys σ' H') ?_ m0
   ⟨0,[],_,_,I4 tk,st3,fun b hb=>(fok b hb).1.1,w0⟩
  rintro n s5 ⟨i,ys,σ5,H5,I5,st5,fr5,w5⟩
  obtain⟨hDl,alt⟩:=turn i n ys σ5 H5 w5
  rcases alt with⟨stop,qz⟩ | ⟨go,N,hN,step⟩
  ·refine thn (T.done (bN X scope cl s3.heap.objs.size (L++F) s3 (upd H2 s2.heap.objs.size (.lst [])) fp) U U U hc i [] s5 σ5 H5 _ I5 (stat fr5) st5 stop) fun r s6 ⟨hr,I6⟩=>?_
   subst hr
   have un:Un (frs X.stack) fp H2 H5 s2.heap s6.heap:=by
    have u1:Un (frs X.stack) fp H2 (upd H2 s2.heap.objs.size (.lst [])) s2.heap s3.heap:=by
     rw[es3]
     exact Un.laid (fun _ _ q=>Vu _ q) (Vw _) hD
    exact u1.trans I6.base
   have J1:Inv X ZY σ H5 s6:=I2.call' (I6.os.trans eos) un I6.hok I6.bare fun b hb=>by
    obtain⟨_,g1,_,g3,g4,g5⟩:=f2 b hb
    exact⟨g3,g1,g4,g5⟩
   have hC:s2.heap.objs.size<=s3.heap.objs.size:=by rw[es3,szC];exact Xq _
   obtain⟨m,hm,_⟩:=I6.loc
   refine fin s3.heap.objs.size s6 H5 qz J1 ⟨m,hm⟩ I6.free (YT (Vx I2.lt hC)) (Wf I2.sz hC) (fun x c e z=>?_) (fun p hp z=>?_)
   ·obtain⟨v,q⟩:=I2.cell x c e
    exact absurd (Vx q.lt (by rw[z];exact hC)) (WK _)
   ·exact absurd (Vx (VL (I2.pin p hp).1) (by rw[z];exact hC)) (WK _)
  ·refine thn (T.item (bN X scope cl s3.heap.objs.size (L++F) s3 (upd H2 s2.heap.objs.size (.lst [])) fp) U U U hc i [] s5 σ5 H5 _ I5 (stat fr5) st5 go) fun r s6 ⟨u,hr,h6⟩=>?_
   subst hr
   refine thn h6 fun _ s7 ⟨x,H7,I7,r7,y7,st7,fr7⟩=>?_
   have I7':=I7.pinned (stat fr7) (T.obj _ _ st7)
   refine thn (hg _ _ _ _ _ _ s7 σ5 H7 x u _ I7' r7 (step x H7 y7)) fun _ s8 ⟨σ8,H8,I8,q8⟩=>?_
   have again:∀ {σ9:St} {H9:Hp} {s9:Vt} {zs:List V},Inv (bN X scope cl s3.heap.objs.size (L++F) s3 (upd H2 s2.heap.objs.size (.lst [])) fp) ([]++o5 fp s7.heap) σ9 H9 s9->N zs σ9 H9 →
     ∃ m,m < n/\∃ i ys σ' H',Inv (bN X scope cl s3.heap.objs.size (L++F) s3 (upd H2 s2.heap.objs.size (.lst [])) fp) [] σ' H' s9/\tn i s9.heap/\(∀ b∈fp,H' b=none)/\W i m ys σ' H':=fun {σ9 H9 s9 zs} I9 n9=>by
    obtain⟨m',hm,w9⟩:=hN zs σ9 H9 n9
    refine⟨m',hm,i+1,zs,σ9,H9,I9.j0,T.keep _ _ _ st7 fun b hb o e=>(I9.pin (b,o) (Wj _ (Wj _ (dN hb e)))).1,fun b hb=>?_,w9⟩
    obtain⟨o,e,d⟩:=T.obj _ _ st7 b hb
    exact (I9.pin (b,o) (Wj _ (Wj _ (dN hb e)))).2.1
   refine thn (ht _ _ _ _ _ _ s8 σ8 H8 _ I8 q8) fun okb s9 ⟨H9,I9,q9⟩=>?_
   cases okb with
   | false =>
    rw[if_neg Vy] at q9 ⊢
    exact again I9 q9
   | true =>
    rw[if_pos U] at q9 ⊢
    refine thn (he _ _ _ _ _ _ s9 σ8 H9 _ I9 q9) fun y s10 ⟨yv,H10,I10,r10,e10,z10,n10⟩=>?_
    refine thn (du _ s10 σ8 H10 (.ref s2.heap.objs.size) [yv] (.ref s2.heap.objs.size) [y] (fun _ H'=>N (ys++[yv]) σ8 H') I10 U (.cons r10 .nil) ⟨_,ys,yv,U,U,e10,z10,n10⟩) fun _ s11 ⟨_,H11,I11,_,n11⟩=>?_
    exact again I11 n11
 have eC:(s2.heap.push { cls:=.type "list",data:=.seq ([]:DV).toArray }).objs.size=s3.heap.objs.size:=by rw[es3]
 have goal:∀ tk,Xi (VM X.prog X.w) X.A (.compStart (.ListComp elt [⟨tg,iter,ifs,0⟩] scope pos) 0 (.ref it) (.ref s2.heap.objs.size) (abS scope cl s3.heap.objs.size X.env))
   (aaS (VM X.prog X.w) X.A E use QQ (.ref s2.heap.objs.size) s3.heap.objs.size) { s3 with heap:=h₁,toks:=tk }:=fun tk =>
  codeAny_compStart_list (loop tk) (T.self _ 0 _ _ _ (T.keep 0 _ _ st2 fun b hb o e=>hkp b o (by rw[es3];exact Vu _ e)) (loop tk))
 have g0:=goal (s2.toks+([]:DH).length)
 subst hs3
 exact g0
def cz (hc:X.calm=true)(ok:oY X scope F cap)(hi:PI X tg iter wi)
  (hg:∀ cl C s H fp,PG (bN X scope cl C (L++F) s H fp) tg g) (ht:∀ cl C s H fp,PTs (bN X scope cl C (L++F) s H fp) ifs tt) (he:∀ cl C s H fp,PE (bN X scope cl C (L++F) s H fp) elt te)
  (hs:∀ x,Ye iter X.env x=pure x:=by intro _;rfl):PE X (.ListComp elt [⟨tg,iter,ifs,0⟩] scope pos) (Ug L.length cap wi g tt te):=by
 intro ZY s σ H Q I h
 obtain⟨cl,e1,e2,e3⟩:=uD (scope:=scope) (env:=X.env) (fun y hy hf=>I.ok.has _ (ok.fr y hy hf))
 rw[eval_ListComp]
 refine aaP (use:=none) U hs e1 ok.kind ok.nms (thn (hi ZY s σ H _ I h) fun v s1 h1=>thn h1 fun itv s2 h2=>?_)
 obtain⟨it,fp,tn,J,H2,e,I2,T,st2,f2,q2⟩:=h2
 subst e
 refine Cq (Z:=fun H'=>Q (.ref s2.heap.objs.size) H') hc ok e2 e3 hg ht he I2 T st2 f2 (q2 _ I2.fresh) fun C s' H' z J m hCf hCl hCs hCc hCp=>?_
 ·obtain⟨m,hm⟩:=m
  exact⟨m,hm,fun h' hs'=>⟨.ref _,H',J.turned (t':=s'.toks) (fun b o hb e=>(hs'.2 b hb).trans e) hCf hCl (.inr hCs) hCc hCp,U,z⟩⟩
def Ro (n:Nat)(cap:D7)(wi:TI)(g:TG)(tt:TT)(te:TE)(j:Nat):TS:=fun D σ H=>wi σ H fun J H1=>∀ d,H1 d=none->mD d (MK n cap σ) J g tt te H1 fun H2=>D.nx (σ.set j (some (.ref d))) H2
def lX {j:Nat}{y:Wb}{py spos:ZD}(hN:X.N.Nodup)(hj:X.N[j]? = some y)(hy:Loc X.env.scope y)(hc:X.calm=true)(ok:oY X scope F cap)(hi:PI X tg iter wi)
  (hg:∀ cl C s H fp,PG (bN X scope cl C (L++F) s H fp) tg g) (ht:∀ cl C s H fp,PTs (bN X scope cl C (L++F) s H fp) ifs tt) (he:∀ cl C s H fp,PE (bN X scope cl C (L++F) s H fp) elt te)
  (hsw:abr (.ListComp elt [⟨tg,iter,ifs,0⟩] scope pos) (some (.Name y py)) spos.line X.env=pure true:=by rfl)
  (hs:∀ x,Ye iter X.env x=pure x:=by intro _;rfl) (hf:X.fn y=true∨X.env.scope.names.lookup y=some .local:=by first | exact .inl rfl | exact .inr rfl | assumption) :
  PS X (.Assign [.Name y py] (.ListComp elt [⟨tg,iter,ifs,0⟩] scope pos) spos) (Ro L.length cap wi g tt te j):=by
 intro ZY s σ H D I h
 obtain⟨cl,e1,e2,e3⟩:=uD (scope:=scope) (env:=X.env) (fun y hy hf=>I.ok.has _ (ok.fr y hy hf))
 rw[exec_Assign_Name_used _ _ _ _ hsw]
 refine Vr (Yo (Vr ?_))
 show VG (VM X.prog X.w) X.A (do let _ ← comprehension (.ListComp elt [⟨tg,iter,ifs,0⟩] scope pos) scope X.env _ (newList []) false (Xv iter X.env) (some (aaZ (.Name y py) X.env))) _ _ s
 refine Vr (Ww (aaP (use:=some (aaZ (.Name y py) X.env)) (Q:=fun _ s'=>SP X ZY D .next s') U hs e1 ok.kind ok.nms
  (thn (hi ZY s σ H _ I h) fun v s1 h1=>thn h1 fun itv s2 h2=>?_)) (fun _ s' hq=>Vv (Vv hq)) fun _ _ e=>e)
 obtain⟨it,fp,tn,J,H2,e,I2,T,st2,f2,q2⟩:=h2
 subst e
 refine Cq (Z:=fun H'=>D.nx (σ.set j (some (.ref s2.heap.objs.size))) H') hc ok e2 e3 hg ht he I2 T st2 f2 (q2 _ I2.fresh) fun C s' H' z J m hCf hCl hCs hCc hCp=>?_
 obtain⟨m,hm⟩:=m
 refine wpAny_assign_Name (yH J hN hj hy (v:=.ref s2.heap.objs.size) U (fun s5 I5 hs5=>?_) hf)
 obtain⟨a,sb,ha⟩:=hs5
 have hne:C≠a:=by
  rcases ha with rfl | ha
  ·exact hCl
  ·exact Xl (hCc y a ha)
 exact⟨m,hm.sameBut sb hne,fun h' hs'=>⟨_,H',I5.turned (t':=s5.toks) (fun b o hb e=>(hs'.2 b hb).trans e) hCf hCl (.inr hCs) hCc hCp,z⟩⟩
end
structure Df (P:V4)(w:Wn)(K:VB)(mg:Wb->DO)(base:WD)(x:Wb)(k:Nat)(ps:D9)(sp:Sp):Prop where
 ex:∃ (f:Addr) (fd:WR),bH P w K mg base CX0 k f fd ps sp/\mg x=some (.ref f)/\Xx K (.ref f)=true/\Binds K fd ps []
section
variable {X:Cx}{k j:Nat}{x:Wb}{ps:D9}{sp:Sp}{p pos:ZD}{e:Expr}{es:D1}{t:TA}
def aY (D:Df X.prog X.w X.K X.mg X.base x k ps sp)(hr:fj j X.A)(ha:PA X (e::es) t)(hk:k<=j:=by first | decide | exact Vw _ | lia)(hg:Gl X x:=by rfl)
  (hdb:(x == ("__debug__" : Wb))=false:=by decide) (he:Wc (e::es) X.env=(false,Xv e X.env)::Wc es X.env:=by rfl) (hpl:(XX pos (Wc es X.env)).any (·.1)=false:=by rfl) :
  PE X (.Call (.Name x p) (e::es) [] pos) (G5 sp [] E0 t):=by
 obtain⟨f,fd,F,hm,hkp,hb⟩:=D.ex
 exact Hg F (hr.mono hk) hg hm hkp hb .nil nH ha hdb he hpl
def pG {i:Int}{tk:Tok}(hm:X.mg x=some (.int i tk))(hg:Gl X x:=by rfl)(hd:(x == ("__debug__" : Wb))=false:=by decide):PE X (.Name x pos) (tC (.int i)):=PN hg hm ⟨_,U⟩ hd
def jN {T:String}(hm:X.mg x=none)(hv:Wy x=some (.type T))(hg:Gl X x:=by rfl)(hn:x≠"__name__":=by decide)(hd:(x == ("__debug__" : Wb))=false:=by decide):PE X (.Name x pos) (tC (.ty T)):=Np hg hm hv U hn hd
inductive RL (K:V3)(xs:List V)(H:Hp)(Q:VK):Prop where
 | mk (x:V) (T:String) (t:Value) (b:Bool) (z0:xs=[x,.ty T]) (z1:Ei K H x t) (z2:Zm K t (.type T)=some b) (z3:Q (.bl b) H):RL K xs H Q
def vK (K:V3):List V->Hp->VK->Prop:=fun xs H Q=>RL K xs H Q
def cL:gf X (.builtin "isinstance") (vK X.K):=by
 intro ZY s σ H xs us Q I r h
 obtain⟨x,T,t,b,rfl,ty,e,q⟩:=h
 obtain⟨u,v,rfl,ru,rv⟩:=vals2 r
 cases (show v=YD T from rv)
 exact HD I ru ty e fun tk=>⟨.bl b,H,I.tok tk,U,q⟩
def iR (K:V3):List V->Hp->VK->Prop:=fun xs H Q=>∃ (p:Addr) (ys:List V),xs=[.ref p]/\(SqL K H p ys∨SqT K H p ys)/\Q (.int ys.length) H
def aU:gf X (.builtin "len") (iR X.K):=vO
def jL (K:V3):List V->Hp->VK->Prop:=fun xs H Q=>∃ (p:Addr) (ys:List V),xs=[.ref p]/\(SqL K H p ys∨SqT K H p ys)/\∀ l,H l=none->Q (.ref l) (upd H l (.lst ys))
def d9:gf X (.type "list") (jL X.K):=vM
def fY (K:V3):List V->Hp->VK->Prop:=fun xs H Q=>∃ (p:Addr) (ys:List V),xs=[.ref p]/\((SqL K H p ys/\∀ l,H l=none->Q (.ref l) (upd H l (.tup ys)))∨(SqT K H p ys/\Q (.ref p) H))
def bK:gf X (.type "tuple") (fY X.K):=uX
theorem km:∀ bs:List Bool,(Xb bs.length).all (fun i=>bs.getD i true)=bs.all fun b=>b
 | []=>rfl
 | b::r=>by
  have ih:=km r
  rw[V2,Z3,aag,ab3,aag,← ih]
  rfl
inductive Mp (K:V3)(xs:List V)(H:Hp)(Q:VK):Prop where
 | mk (p:Addr) (bs:List Bool) (z0:xs=[.ref p]) (z1:SqL K H p (bs.map V.bl)) (z2:Q (.bl (bs.all fun b=>b)) H):Mp K xs H Q
def K7 (K:V3):List V->Hp->VK->Prop:=fun xs H Q=>Mp K xs H Q
def qx (hc:X.calm=true):gf X (.builtin "all") (K7 X.K):=by
 intro ZY s σ H xs us Q I r h
 obtain⟨p,bs,rfl,hq,q⟩:=h
 obtain⟨u,rfl,ru⟩:=vals1 r
 cases ru
 obtain⟨its,rv,pl,hz⟩:=I.list hq
 have hlen:bs.length=its.length:=by simpa using rv.length
 refine call_all_walk (ZX pl.isList ?_)
 have I1:Inv X ZY σ H { s with heap:=s.heap.push { cls:=.type "list_iterator",data:=.fields #[.ref p,.int 0 0] } }:=I.kept (t':=s.toks) fun b o e=>Vu _ e
 have hne:p≠s.heap.objs.size:=by
  obtain⟨o,ho,_⟩:=pl.isList
  exact V5 (VL ho)
 refine⟨s.heap.objs.size,_,_,_,_,_,fun i=>bs.getD i true,U,abK (A:=X.A.in1) (I.ok.hd hc) s.heap.objs.size p hne its.toArray,⟨⟨_,VN _ U,U,U⟩,?_⟩,?_,fun h' tk hk=>?_⟩
 ·obtain⟨o,ho,hr⟩:=pl.isList
  exact⟨o,Vu _ ho,hr⟩
 ·intro i v s' Q' E' hP hQ
  have hP:its[i]? = some v:=by simpa using hP
  have hi:i < bs.length:=by
   rw[hlen]
   exact (List.getElem?_eq_some_iff.mp hP).1
  obtain⟨u',hu',ru'⟩:=rv.get (i:=i) (x:=V.bl bs[i]) (by rw[V7,Vz hi];rfl)
  rw[hP] at hu'
  cases hu'
  cases (show v=aa0 bs[i] from ru')
  refine X4 ?_
  have eg:bs.getD i true=bs[i]:=by rw[Wi,Vz hi];rfl
  have hQ':Q' (bs.getD i true) s':=hQ
  rw[eg] at hQ'
  exact hQ'
 ·have f:=I.Pz (b:=s.heap.objs.size) (H':=H) (Vw _) I.fresh
  have eall:(Xb its.toArray.size).all (fun i=>bs.getD i true)=bs.all fun b=>b:=by
   have el:its.toArray.size=bs.length:=by rw[V1,hlen]
   rw[el]
   exact km bs
  rw[eall]
  exact⟨.bl _,H,I1.turned (t':=tk) (it:=s.heap.objs.size) (fun b o hb e=>hk b o (by simpa using hb) e) f.1 f.2.1 f.2.2.2.1 f.2.2.2.2.1 f.2.2.2.2.2,U,q⟩
end
def Hm (osc:Yg)(oN:D9)(sc:Yg)(F:D9)(cap:D7):Bool :=
 decide (sc.kind = .function) && sc.names.all (fun y=>!decide (y.2 = .cell)) && sc.names.all (fun y=>!decide (y.2 = .local) || decide (sc.names.lookup y.1=some .local)) &&
 sc.names.all (fun y=>!decide (y.2 = .free) || decide (osc.names.lookup y.1=some .cell) || decide (osc.names.lookup y.1=some .free)) && decide (cap.length=F.length) &&
 (Xb F.length).all fun k=>(decide (F[k]? = none) || decide ((cap[k]?.bind fun i=>oN[i]?)=F[k]?)) && decide ((F[k]?.bind fun x=>sc.names.lookup x)=some .free)
def bF {X:Cx}{osc sc:Yg}{oN F:D9}{cap:D7}(ho:X.env.scope=osc)(hN:X.N=oN)(h:Hm osc oN sc F cap=true):oY X sc F cap:=by
 unfold Hm at h
 simp only[Xp] at h
 obtain⟨⟨⟨⟨⟨h1,h2⟩,h3⟩,h4⟩,h5⟩,h6⟩:=h
 refine⟨of_decide_eq_true h1,fun y hy e=>?_,fun y hy e=>?_,fun y hy e=>?_,of_decide_eq_true h5,fun k x e=>?_⟩
 ·have:=List.all_eq_true.mp h2 y hy
  rw[e] at this
  exact absurd this (by decide)
 ·have:=List.all_eq_true.mp h3 y hy
  rw[decide_eq_true e] at this
  exact of_decide_eq_true (by simpa using this)
 ·have:=List.all_eq_true.mp h4 y hy
  rw[decide_eq_true e] at this
  have z:decide (osc.names.lookup y.1=some .cell)=true∨decide (osc.names.lookup y.1=some .free)=true:=by
   rw[Bool.not_true,abJ,acz] at this
   exact this
  show X.env.scope.names.lookup y.1=_∨X.env.scope.names.lookup y.1=_
  rw[ho]
  exact z.elim (fun q=>.inl (of_decide_eq_true q)) fun q=>.inr (of_decide_eq_true q)
 ·have hk:k < F.length:=(List.getElem?_eq_some_iff.mp e).1
  have q:=List.all_eq_true.mp h6 k (List.mem_range.mpr hk)
  rw[e,Xp] at q
  obtain⟨q1,q2⟩:=q
  have q1:(cap[k]?.bind fun i=>oN[i]?)=some x:=by
   rw[acz] at q1
   rcases q1 with z | z
   ·exact absurd (of_decide_eq_true z) (by simp)
   ·exact of_decide_eq_true z
  have q2:sc.names.lookup x=some .free:=of_decide_eq_true q2
  cases hc:cap[k]? with
  | none=>rw[hc] at q1;cases q1
  | some i =>
   rw[hc] at q1
   exact⟨i,U,by rw[hN];exact q1,q2⟩
def bw {X:Cx}{scope:Yg}{cl:DJ}{C:Addr}{N:D9}{s:Vt}{H:Hp}{fp:D0}(h:N.Nodup):(bN X scope cl C N s H fp).N.Nodup:=h
section
variable {K:V3}{a D:Addr}{xs:List V}{g:TG}{tt:TT}{te:TE}{H1:Hp}{Q:Hp->Prop}{σ0:St}
def cX (Pv:Nat->List V->St->Hp->Prop)(h0:Pv 0 [] σ0 (upd H1 D (.lst [])))(hl:∀ i ys σ H,i<=xs.length->Pv i ys σ H->SqT K H a xs/\H D=some (.lst ys))
  (hs:∀ i ys x σ H,xs[i]? = some x->Pv i ys σ H->g x σ H fun σ3 H3=>tt σ3 H3 fun b H4=>if b=true then te σ3 H4 fun y H5=>H5 D=some (.lst ys)/\ys.length < sizeLine/\Pv (i+1) (ys++[y]) σ3 (upd H5 D (.lst (ys++[y]))) else Pv (i+1) ys σ3 H4)
  (hd:∀ ys σ H,Pv xs.length ys σ H->Q H):mD D σ0 (Itt K a) g tt te H1 Q:=by
 refine⟨fun i m ys σ H=>m=xs.length - i/\i<=xs.length/\Pv i ys σ H,⟨xs.length,by simp,Wr _,h0⟩,?_⟩
 rintro i m ys σ H ⟨rfl,hi,p⟩
 obtain⟨q,qD⟩:=hl i ys σ H hi p
 refine⟨qD,?_⟩
 by_cases hlt:i < xs.length
 ·refine .inr ⟨⟨xs,xs[i],q,by simp [hlt]⟩,Pv (i+1),fun zs σ' H' p'=>⟨xs.length - (i+1),by lia,U,hlt,p'⟩,fun x H' y=>?_⟩
  obtain⟨e,y⟩:=y
  subst e
  exact hs i ys x σ _ (y xs q) p
 ·have e:i=xs.length:=by lia
  subst e
  exact .inl ⟨⟨xs,q,Vw _⟩,hd ys σ H p⟩
def iK (Pv:Nat->List V->St->Hp->Prop)(h0:Pv 0 [] σ0 (upd H1 D (.lst [])))(hl:∀ i ys σ H,i<=xs.length->Pv i ys σ H->SqL K H a xs/\H D=some (.lst ys))
  (hs:∀ i ys x σ H,xs[i]? = some x->Pv i ys σ H->g x σ H fun σ3 H3=>tt σ3 H3 fun b H4=>if b=true then te σ3 H4 fun y H5=>H5 D=some (.lst ys)/\ys.length < sizeLine/\Pv (i+1) (ys++[y]) σ3 (upd H5 D (.lst (ys++[y]))) else Pv (i+1) ys σ3 H4)
  (hd:∀ ys σ H,Pv xs.length ys σ H->Q H):mD D σ0 (Itl K a) g tt te H1 Q:=by
 refine⟨fun i m ys σ H=>m=xs.length - i/\i<=xs.length/\Pv i ys σ H,⟨xs.length,by simp,Wr _,h0⟩,?_⟩
 rintro i m ys σ H ⟨rfl,hi,p⟩
 obtain⟨q,qD⟩:=hl i ys σ H hi p
 refine⟨qD,?_⟩
 by_cases hlt:i < xs.length
 ·refine .inr ⟨⟨xs,xs[i],q,by simp [hlt]⟩,Pv (i+1),fun zs σ' H' p'=>⟨xs.length - (i+1),by lia,U,hlt,p'⟩,fun x H' y=>?_⟩
  obtain⟨e,y⟩:=y
  subst e
  exact hs i ys x σ _ (y xs q) p
 ·have e:i=xs.length:=by lia
  subst e
  exact .inl ⟨⟨xs,q,Vw _⟩,hd ys σ H p⟩
def cT {lo:Int}{n:Nat}(Pv:Nat->List V->St->Hp->Prop)(h0:Pv 0 [] σ0 (upd H1 D (.lst [])))(hl:∀ i ys σ H,i<=n->Pv i ys σ H->H D=some (.lst ys))
  (hs:∀ i ys σ H,i < n->Pv i ys σ H->g (.int (lo+i)) σ H fun σ3 H3=>tt σ3 H3 fun b H4=>if b=true then te σ3 H4 fun y H5=>H5 D=some (.lst ys)/\ys.length < sizeLine/\Pv (i+1) (ys++[y]) σ3 (upd H5 D (.lst (ys++[y]))) else Pv (i+1) ys σ3 H4)
  (hd:∀ ys σ H,Pv n ys σ H->Q H):mD D σ0 (Itr lo n) g tt te H1 Q:=by
 refine⟨fun i m ys σ H=>m=n - i/\i<=n/\Pv i ys σ H,⟨n,by simp,Wr _,h0⟩,?_⟩
 rintro i m ys σ H ⟨rfl,hi,p⟩
 refine⟨hl i ys σ H hi p,?_⟩
 by_cases hlt:i < n
 ·refine .inr ⟨hlt,Pv (i+1),fun zs σ' H' p'=>⟨n - (i+1),by lia,U,hlt,p'⟩,fun x H' y=>?_⟩
  obtain⟨e,y⟩:=y
  subst e y
  exact hs i ys σ _ hlt p
 ·have e:i=n:=by lia
  subst e
  exact .inl ⟨Vw _,hd ys σ H p⟩
end
structure Bt (mg:Wb->DO):Prop where
 len_:mg "len" = none
 range_:mg "range" = none
 all_:mg "all" = none
 isinstance_:mg "isinstance" = none
 int_:mg "int" = none
 bool_:mg "bool" = none
 str_:mg "str" = none
 list_:mg "list" = none
 tuple_:mg "tuple" = none
 abs_:mg "abs" = none
 max_:mg "max" = none
 min_:mg "min" = none
 sum_:mg "sum" = none
 sorted_:mg "sorted" = none
 zip_:mg "zip" = none
 reversed_:mg "reversed" = none
 divmod_:mg "divmod" = none
 set_:mg "set" = none
 any_:mg "any" = none
 enumerate_:mg "enumerate" = none
def bJ:Wy "len" = some (.builtin "len"):=PySem.boot_len
def Fd:Wy "all" = some (.builtin "all"):=by decide+kernel
def bc:Wy "isinstance" = some (.builtin "isinstance"):=by decide+kernel
def Dg:Wy "abs" = some (.builtin "abs"):=by decide+kernel
def tX:Wy "max" = some (.builtin "max"):=by decide+kernel
def QF:Wy "min" = some (.builtin "min"):=by decide+kernel
def Gf:Wy "sum" = some (.builtin "sum"):=by decide+kernel
def t8:Wy "int" = some (.type "int"):=by decide+kernel
def zE:Wy "bool" = some (.type "bool"):=by decide+kernel
def Mh:Wy "str" = some (.type "str"):=by decide+kernel
def jg:Wy "list" = some (.type "list"):=by decide+kernel
def bQ:Wy "tuple" = some (.type "tuple"):=by decide+kernel
def eY (K:V3)(T:String):Zm K (.type T) (.type T)=some true:=by
 unfold PySem.W.kitOne
 rw[if_pos (beq_self_eq_true _)]
def lW (K:V3):Zm K (.type "int") (.type "bool")=some false:=by kernel_rfl
def qZ (K:V3):Zm K (.type "bool") (.type "int")=some true:=by kernel_rfl
def Ep (K:V3):Zm K (.type "int") (.type "str")=some false:=by kernel_rfl
def Aa (K:V3):Zm K (.type "bool") (.type "str")=some false:=by kernel_rfl
def wL (K:V3):Zm K (.type "tuple") (.type "str")=some false:=by kernel_rfl
def zm (K:V3):Zm K (.type "list") (.type "str")=some false:=by kernel_rfl
def vQ (K:V3):Zm K (.type "tuple") (.type "int")=some false:=by kernel_rfl
def zN (K:V3):Zm K (.type "list") (.type "int")=some false:=by kernel_rfl
def mU (K:V3):Zm K (.type "tuple") (.type "list")=some false:=by kernel_rfl
def nj (K:V3):Zm K (.type "list") (.type "tuple")=some false:=by kernel_rfl
def El (K:V3):Zm K (.type "str") (.type "int")=some false:=by kernel_rfl
inductive Dm where
 | non | bl (b:Bool) | int (i:Int) | str (x:Wb) | tup (ds:List Dm) | lst (ds:List Dm)
mutual
def Dm.dep:Dm->Nat
 | .tup ds=>iJ ds+1
 | .lst ds=>iJ ds+1
 | _=>0
def iJ:List Dm->Nat
 | []=>0
 | d::r=>max d.dep (iJ r)
end
mutual
inductive Rep (H:Hp):V->Dm->Prop where
 | non:Rep H .non .non
 | bl (b:Bool):Rep H (.bl b) (.bl b)
 | int (i:Int):Rep H (.int i) (.int i)
 | str (x:Wb):Rep H (.str x) (.str x)
 | tup {a:Addr} {xs:List V} {ds:List Dm}:H a=some (.tup xs)->xs.length<=100000->su H xs ds->Rep H (.ref a) (.tup ds)
 | lst {a:Addr} {xs:List V} {ds:List Dm}:H a=some (.lst xs)->xs.length<=100000->su H xs ds->Rep H (.ref a) (.lst ds)
inductive su (H:Hp):List V->List Dm->Prop where
 | nil:su H [] []
 | cons {v:V} {d:Dm} {vs:List V} {ds:List Dm}:Rep H v d->su H vs ds->su H (v::vs) (d::ds)
end
mutual
theorem Rep.mono {H H':Hp}(e:aN H H'):∀ {v:V} {d:Dm},Rep H v d->Rep H' v d
 | _,_,.non=>.non
 | _,_,.bl b=>.bl b
 | _,_,.int i=>.int i
 | _,_,.str x=>.str x
 | _,_,.tup h l r=>.tup (e _ _ h) l (su.mono e r)
 | _,_,.lst h l r=>.lst (e _ _ h) l (su.mono e r)
theorem su.mono {H H':Hp}(e:aN H H'):∀ {vs:List V} {ds:List Dm},su H vs ds->su H' vs ds
 | _,_,.nil=>.nil
 | _,_,.cons h r=>.cons (Rep.mono e h) (su.mono e r)
end
theorem su.length {H:Hp}:∀ {vs:List V} {ds:List Dm},su H vs ds->vs.length=ds.length
 | _,_,.nil=>rfl
 | _,_,.cons _ r=>by rw[V2,V2,su.length r]
theorem su.get {H:Hp}:∀ {vs:List V} {ds:List Dm} {i:Nat},su H vs ds->i < vs.length->∃ v d,vs[i]? = some v/\ds[i]? = some d/\Rep H v d
 | _,_,_,.nil,h=>absurd h (aao _)
 | _,_,0,.cons h _,_=>⟨_,_,U,U,h⟩
 | _,_,i+1,.cons _ r,h=>by
  obtain⟨v,d,e1,e2,e3⟩:=su.get (i:=i) r (aa3 h)
  exact⟨v,d,by simpa using e1,by simpa using e2,e3⟩
theorem vJ:∀ {ds:List Dm} {i:Nat} {d:Dm},ds[i]? = some d->d.dep<=iJ ds
 | [],_,_,h=>by simp at h
 | d::r,0,_,h=>by
  cases (show some d=some _ from h)
  rw[iJ]
  exact Nat.le_max_left _ _
 | d::r,i+1,_,h=>by
  rw[iJ]
  exact Wf (vJ (i:=i) (ds:=r) (by simpa using h)) (Nat.le_max_right _ _)
theorem wg {H:Hp}:∀ ns:D6,su H (ns.map V.int) (ns.map Dm.int)
 | []=>.nil
 | n::r=>.cons (.int n) (wg r)
section
variable {X:Cx}
inductive QC (K:V3)(x:V)(y:V)(H:Hp)(Q:VK):Prop where
 | mk (a b:Addr) (xs:List V) (z0:x = .ref a) (z1:y = .ref b) (z2:SqL K H a xs) (z3:SqL K H b []) (z4:Q (.bl xs.isEmpty) H):QC K x y H Q
def Tf (K:V3):R2:=fun x y H Q=>QC K x y H Q
def Mj (hu:X.A.units < cLine):OpR X (XR .Eq) (Tf X.K):=by
 intro ZY s σ H x y v u Q I rx ry h
 obtain⟨a,b,xs,rfl,rfl,ha,hb,q⟩:=h
 cases rx
 cases ry
 obtain⟨its,r1,p1,_⟩:=I.list ha
 obtain⟨its2,r2,p2,_⟩:=I.list hb
 cases r2
 cases r1 with
 | nil=>exact SeqAt.eq_listAt (e:=fun _=>true) p1.isList p2.isList U hu (fun j h1 _=>absurd h1 (by simp)) ⟨.bl true,H,I,U,q⟩
 | cons r t=>exact SeqAt.eq_list_lengthsAt p1.isList p2.isList (by simp) hu ⟨.bl false,H,I,U,q⟩
inductive Qn (K:V3)(x:V)(y:V)(H:Hp)(Q:VK):Prop where
 | mk (a b:Addr) (xs:List V) (z0:x = .ref a) (z1:y = .ref b) (z2:SqL K H a xs) (z3:SqL K H b []) (z4:Q (.bl (!xs.isEmpty)) H):Qn K x y H Q
def Sv (K:V3):R2:=fun x y H Q=>Qn K x y H Q
def Gb (hu:X.A.units < cLine):OpR X (XR .NotEq) (Sv X.K):=by
 intro ZY s σ H x y v u Q I rx ry h
 obtain⟨a,b,xs,rfl,rfl,ha,hb,q⟩:=h
 cases rx
 cases ry
 obtain⟨its,r1,p1,_⟩:=I.list ha
 obtain⟨its2,r2,p2,_⟩:=I.list hb
 cases r2
 cases r1 with
 | nil=>exact SeqAt.RcNeAt.lists (e:=fun _=>true) p1.isList p2.isList U hu (fun j h1 _=>absurd h1 (by simp)) X.prog X.w X.xe _ ⟨.bl false,H,I,U,q⟩
 | cons r t=>exact SeqAt.RcNeAt.lists_lengths p1.isList p2.isList (by simp) hu X.prog X.w X.xe _ ⟨.bl true,H,I,U,q⟩
end
section
variable {prog:V4}{w:Wn}{A:Wm}{E:DM}{s:Vt}
end
def Inv.Hw {X:Cx}{ZY:DI}{σ:St}{H:Hp}{s:Vt}{h':WD}{t':Nat}{ch:D0}(I:Inv X ZY σ H s)(k:∀ b o,b ∉ ch->s.heap.get? b=some o->h'.get? b=some o)(hf:∀ b∈ch,yM X ZY H b) :
  Inv X ZY σ H { s with heap:=h',toks:=t' }:=by
 have nit:∀ b u,H b=some u->b ∉ ch:=fun b u e z=>by
  have:=(hf b z).1
  rw[this] at e;cases e
 refine I.step (g':=s.gens) (d':=s.drawn) (ch:=ch) (fun b hb=>let ⟨_,f1,_,f3,f4,f5⟩:=hf b hb;⟨f3,f1,f4,f5⟩) (fun b o _ _ hc e _=>k b o hc e) (fun b o _ _ hc e _=>⟨o.slots,k b o hc e⟩) (fun _ _ _ _ n=>n)
  (fun b o hc e=>⟨o,k b o hc e⟩) (fun _ _ e=>e) (fun _ _ _ e=>e) (fun b ps e=>⟨#[],by rw[e];simp⟩) (fun m hm=>?_) (fun b u e=>?_) I.bare
 ·obtain⟨o,es,ep,ho,r⟩:=hm
  exact⟨o,es,ep,k _ o (fun z=>(hf _ z).2.1 U) ho,r⟩
 ·refine (I.hok b u e).stay (fun c v hc q=>k c v ?_ q) (fun _ q=>q) fun _ _ q=>q
  rcases hc with z | z
  ·rw[z];exact nit b u e
  ·exact nit c _ z
theorem xM:∀ ns ms:D6,((Xb (min ns.length ms.length)).all (fun j=>ns.getD j 0 == ms.getD j 0) && ns.length == ms.length)=decide (ns=ms)
 | [],[]=>rfl
 | [],m::ms=>by rw[decide_eq_false (by simp)];rfl
 | n::ns,[]=>by rw[decide_eq_false (by simp)];rfl
 | n::ns,m::ms=>by
  have ih:=xM ns ms
  have e:min (n::ns).length (m::ms).length=min ns.length ms.length+1:=by rw[V2,V2];lia
  have el:((n::ns).length == (m::ms).length)=(ns.length == ms.length):=by simp
  have e3:decide (n::ns=m::ms)=(n == m && decide (ns=ms)):=by
   by_cases h1:n=m
   ·subst h1
    by_cases h2:ns=ms
    ·subst h2;simp
    ·simp [h2]
   ·simp [h1]
  rw[e,Z3,aag,ab3,el,e3,← ih,Bool.and_assoc]
  rfl
def d8 {X:Cx}{pos:ZD}{K:V3}{es:D1}{k:Nat}{t:TGs}(n:Nat)(hK:X.K=K)(hc:X.calm=true)(h:PGs X es t)
  (hn:(aaa es X.env).length=n:=by rfl) (hst:(aaa es X.env).findIdx? (·.1)=none:=by rfl):PG X (.Tuple es k pos) (UG K n t):=by
 subst hK
 exact Q7 hc h hn hst
section
variable {X:Cx}
inductive Mw (K:V3)(x:V)(y:V)(H:Hp)(Q:VK):Prop where
 | mk (a b:Addr) (ns ms:D6) (z0:x = .ref a) (z1:y = .ref b) (z2:SqT K H a (ns.map V.int)) (z3:SqT K H b (ms.map V.int)) (z4:Q (.bl (decide (ns=ms))) H):Mw K x y H Q
def Px (K:V3):R2:=fun x y H Q=>Mw K x y H Q
def ints_get {ns:D6}{its:DV}(i:Xa its ns){j:Nat}(h:j < its.length):∃ t,its[j] = .int (ns.getD j 0) t:=by
 induction i generalizing j with
 | nil=>exact absurd h (aao _)
 | cons n t r ih =>
  cases j with
  | zero=>exact⟨t,U⟩
  | succ j =>
   obtain⟨u,e⟩:=ih (j:=j) (aa3 h)
   exact⟨u,by simpa using e⟩
def FW (hu:X.A.units < cLine):OpR X (XR .Eq) (Px X.K):=by
 intro ZY s σ H x y v u Q I rx ry h
 obtain⟨a,b,ns,ms,rfl,rfl,ha,hb,q⟩:=h
 cases rx
 cases ry
 obtain⟨its,r1,p1,_⟩:=I.tuple ha
 obtain⟨its2,r2,p2,_⟩:=I.tuple hb
 have i1:Xa its ns:=intsAre_of r1
 have i2:Xa its2 ms:=intsAre_of r2
 have l1:=i1.length
 have l2:=i2.length
 refine SeqAt.eq_tupleAt (e:=fun j=>ns.getD j 0 == ms.getD j 0) (show s.heap.IsTuple a its.toArray from p1) (show s.heap.IsTuple b its2.toArray from p2) hu (fun j h1 h2=>?_) ?_
 ·obtain⟨t,e1⟩:=ints_get i1 (j:=j) (by simpa using h1)
  obtain⟨t',e2⟩:=ints_get i2 (j:=j) (by simpa using h2)
  rw[List.getElem_toArray,List.getElem_toArray,e1,e2]
  exact SeqAt.EqAt.int_int _ _ _ _
 ·refine⟨.bl _,H,I,?_,q⟩
  have e:=xM ns ms
  have s1:its.toArray.size=ns.length:=by rw[V1];exact l1
  have s2:its2.toArray.size=ms.length:=by rw[V1];exact l2
  rw[s1,s2,e]
  rfl
inductive Fo (K:V3)(x:V)(y:V)(H:Hp)(Q:VK):Prop where
 | mk (a b:Addr) (xs ys:List V) (z0:x = .ref a) (z1:y = .ref b) (z2:SqT K H a xs) (z3:SqT K H b ys) (z4:xs.length+ys.length<=sizeLine) (z5:(xs=[]->Q (.ref b) H)) (z6:(xs≠[]->ys=[]->Q (.ref a) H)) (z7:(xs≠[]->ys≠[]->∀ p,H p=none->Q (.ref p) (upd H p (.tup (xs++ys))))):Fo K x y H Q
def iB (K:V3):R2:=fun x y H Q=>Fo K x y H Q
def gM:OpR X (Z0 .Add) (iB X.K):=by
 intro ZY s σ H x y v u Q I rx ry h
 obtain⟨a,b,xs,ys,rfl,rfl,ha,hb,hz,q0,q1,q2⟩:=h
 by_cases hx:xs=[]
 ·subst hx
  cases rx
  cases ry
  obtain⟨its,r1,p1,_⟩:=I.tuple ha
  obtain⟨its2,r2,p2,_⟩:=I.tuple hb
  cases r1
  obtain⟨⟨c1,d1,dt1,sl1⟩,ho,hc,n,hd⟩:=id p1
  obtain⟨⟨c2,d2,dt2,sl2⟩,ho2,hc2,n2,hd2⟩:=id p2
  simp only at hc hd hc2 hd2
  subst hc hd hc2 hd2
  exact concat_meets ⟨_,ho,U⟩ ⟨_,ho2,U⟩ aca seq_tuple_add aa1 aaT (aaQ _ _) (tuple_addW0 a b _ _ n n2 d1 d2 sl1 sl2 U) ⟨ho,ho2,⟨.ref b,H,I,U,q0 U⟩⟩
 ·exact Nx ZY s σ H _ _ v u Q I rx ry ⟨a,b,xs,ys,U,U,ha,hb,hx,hz,q1 hx,q2 hx⟩
end
theorem j9:∀ bs:List Bool,(Xb bs.length).any (fun i=>bs.getD i false)=bs.any fun b=>b
 | []=>rfl
 | b::r=>by
  have ih:=j9 r
  rw[V2,Z3,Y6,List.any_map,Y6,← ih]
  rfl
section
variable {X:Cx}
inductive Mi (K:V3)(xs:List V)(H:Hp)(Q:VK):Prop where
 | mk (p:Addr) (ns:D6) (z0:xs=[.ref p]) (z1:SqL K H p (ns.map V.int)) (z2:Q (.int ns.sum) H):Mi K xs H Q
def Kz (K:V3):List V->Hp->VK->Prop:=fun xs H Q=>Mi K xs H Q
def qj (hc:X.calm=true):gf X (.builtin "sum") (Kz X.K):=by
 intro ZY s σ H xs us Q I r h
 obtain⟨p,ns,rfl,hq,q⟩:=h
 obtain⟨u,rfl,ru⟩:=vals1 r
 cases ru
 obtain⟨its,rv,pl,hz⟩:=I.list hq
 have hi:Xa its ns:=intsAre_of rv
 obtain⟨zs,hx⟩:=hi.allInts.items
 have hl':s.heap.IsList p (intItems zs):=hx▸pl.isList
 refine sum_intListG (I.ok.hd hc) hl' fun h' tk t' hk=>?_
 have e1:ns=zs.toList.map (·.1):=by
  rw[← nums_intItems,← hx]
  exact (show numsOf its.toArray.toList=ns from hi.numsOf).symm
 have e2:preSum (numAt zs) zs.size=ns.sum:=by
  rw[preSum_eq,List.take_of_length_le (by simp),e1]
 rw[e2]
 exact⟨.int _,H,I.kept (t':=tk) hk,⟨_,U⟩,q⟩
inductive Mm (K:V3)(xs:List V)(H:Hp)(Q:VK):Prop where
 | mk (p:Addr) (bs:List Bool) (z0:xs=[.ref p]) (z1:SqL K H p (bs.map V.bl)) (z2:Q (.bl (bs.any fun b=>b)) H):Mm K xs H Q
def RM (K:V3):List V->Hp->VK->Prop:=fun xs H Q=>Mm K xs H Q
def Jr (hc:X.calm=true):gf X (.builtin "any") (RM X.K):=by
 intro ZY s σ H xs us Q I r h
 obtain⟨p,bs,rfl,hq,q⟩:=h
 obtain⟨u,rfl,ru⟩:=vals1 r
 cases ru
 obtain⟨its,rv,pl,hz⟩:=I.list hq
 have hlen:bs.length=its.length:=by simpa using rv.length
 refine call_any_walk (ZX pl.isList ?_)
 have I1:Inv X ZY σ H { s with heap:=s.heap.push { cls:=.type "list_iterator",data:=.fields #[.ref p,.int 0 0] } }:=I.kept (t':=s.toks) fun b o e=>Vu _ e
 have hne:p≠s.heap.objs.size:=by
  obtain⟨o,ho,_⟩:=pl.isList
  exact V5 (VL ho)
 refine⟨s.heap.objs.size,_,_,_,_,_,fun i=>bs.getD i false,U,abK (A:=X.A.in1) (I.ok.hd hc) s.heap.objs.size p hne its.toArray,⟨⟨_,VN _ U,U,U⟩,?_⟩,?_,fun h' tk hk=>?_⟩
 ·obtain⟨o,ho,hr⟩:=pl.isList
  exact⟨o,Vu _ ho,hr⟩
 ·intro i v s' Q' E' hP hQ
  have hP:its[i]? = some v:=by simpa using hP
  have hi:i < bs.length:=by
   rw[hlen]
   exact (List.getElem?_eq_some_iff.mp hP).1
  obtain⟨u',hu',ru'⟩:=rv.get (i:=i) (x:=V.bl bs[i]) (by rw[V7,Vz hi];rfl)
  rw[hP] at hu'
  cases hu'
  cases (show v=aa0 bs[i] from ru')
  refine X4 ?_
  have eg:bs.getD i false=bs[i]:=by rw[Wi,Vz hi];rfl
  have hQ':Q' (bs.getD i false) s':=hQ
  rw[eg] at hQ'
  exact hQ'
 ·have f:=I.Pz (b:=s.heap.objs.size) (H':=H) (Vw _) I.fresh
  have eany:(Xb its.toArray.size).any (fun i=>bs.getD i false)=bs.any fun b=>b:=by
   have el:its.toArray.size=bs.length:=by rw[V1,hlen]
   rw[el]
   exact j9 bs
  rw[eany]
  exact⟨.bl _,H,I1.turned (t':=tk) (it:=s.heap.objs.size) (fun b o hb e=>hk b o (by simpa using hb) e) f.1 f.2.1 f.2.2.2.1 f.2.2.2.2.1 f.2.2.2.2.2,U,q⟩
end
def Qt:Wy "any" = some (.builtin "any"):=by decide+kernel
def Pn:List V->Hp->VK->Prop:=fun xs H Q=>(∃ i,xs=[.int i]/\Q (.int i) H)∨∃ k,xs=[.bl k]/\Q (.int (if k then 1 else 0)) H
end L2
namespace L2
open PySem
def Ris (xs:Array Nat):Prop:=xs.toList.Pairwise (· < ·)
def Dc {xs:Array Nat}(h:Ris xs){i j x y:Nat}(hij:i < j)(hi:xs[i]? = some x)(hj:xs[j]? = some y):x < y:=by
 rw[← W6] at hi hj
 obtain⟨li,ei⟩:=List.getElem?_eq_some_iff.mp hi
 obtain⟨lj,ej⟩:=List.getElem?_eq_some_iff.mp hj
 have:=List.pairwise_iff_getElem.mp h i j li lj hij
 rw[ei,ej] at this
 exact this
theorem vh {xs:Array Nat}(h:Ris xs)(j:Nat):∀ (fuel lo hi:Nat),hi - lo<=fuel->lo<=hi->hi<=xs.size->(∀ i x,i < lo->xs[i]? = some x->x < j)->(∀ i x,hi<=i->xs[i]? = some x->j<=x) →
  Z2 xs j fuel lo hi<=xs.size/\(∀ i x,i < Z2 xs j fuel lo hi->xs[i]? = some x->x < j)/\(∀ i x,Z2 xs j fuel lo hi<=i->xs[i]? = some x->j<=x)
 | 0,lo,hi,hf,hl,hs,h1,h2=>by
  rw[Z2]
  have e:lo=hi:=by lia
  subst e
  exact⟨hs,h1,h2⟩
 | fuel+1,lo,hi,hf,hl,hs,h1,h2=>by
  rw[Z2]
  by_cases hlt:lo < hi
  ·rw[if_pos hlt]
   dsimp only
   have hm1:lo<=(lo+hi) / 2:=by lia
   have hm2:(lo+hi) / 2 < hi:=by lia
   have hms:(lo+hi) / 2 < xs.size:=by lia
   generalize (lo+hi) / 2=m at *
   have eg:xs[m]? = some xs[m]:=We hms
   have ed:xs.getD m j=xs[m]:=by rw[Yn,eg];rfl
   rw[ed]
   by_cases hc:xs[m] < j
   ·rw[if_pos hc]
    refine vh h j fuel (m+1) hi (by lia) (by lia) hs (fun i x hi' e=>?_) h2
    by_cases hm:i=m
    ·subst hm
     rw[eg] at e
     cases e
     exact hc
    ·exact aa2 (Dc h (show i < m by lia) e eg) hc
   ·rw[if_neg hc]
    refine vh h j fuel lo m (by lia) hm1 (by lia) h1 (fun i x hi' e=>?_)
    by_cases hm:i=m
    ·subst hm
     rw[eg] at e
     cases e
     lia
    ·have:=Dc h (show m < i by lia) eg e
     lia
  ·rw[if_neg hlt]
   have e:lo=hi:=by lia
   subst e
   exact⟨hs,h1,h2⟩
def vz {xs:Array Nat}(h:Ris xs)(j:Nat):Xm xs j<=xs.size/\(∀ i x,i < Xm xs j->xs[i]? = some x->x < j)/\(∀ i x,Xm xs j<=i->xs[i]? = some x->j<=x):=by
 unfold Xm
 refine vh h j xs.size 0 xs.size (by lia) (Wr _) (Vw _) (fun i x hi=>absurd hi (aao _)) fun i x hi e=>?_
 rw[Y0 hi] at e
 cases e
def below_at {xs:Array Nat}(h:Ris xs){i x:Nat}(e:xs[i]? = some x):Xm xs (x+1)=i+1:=by
 obtain⟨h1,h2,h3⟩:=vz h (x+1)
 have hi:i < xs.size:=(Array.getElem?_eq_some_iff.mp e).1
 generalize Xm xs (x+1)=p at *
 rcases Nat.lt_trichotomy p (i+1) with hp | hp | hp
 ·have:=h3 i x (by lia) e
  lia
 ·exact hp
 ·have hs:i+1 < xs.size:=by lia
  have:=Dc h (Yt i) e (We hs)
  have:=h2 (i+1) _ hp (We hs)
  lia
def Em {xs:Array Nat}(h:Ris xs):Xm xs 0=0:=by
 obtain⟨h1,h2,h3⟩:=vz h 0
 generalize Xm xs 0=p at *
 rcases abM p with hp | hp
 ·exact hp
 ·have hs:0 < xs.size:=by lia
  have:=h2 0 _ hp (We hs)
  lia
def Qa {xs:Array Nat}(h:Ris xs){j:Nat}(hj:xs[Xm xs j]?≠some j):Ris (SetTable.insertAt xs (Xm xs j) j):=by
 obtain⟨h1,h2,h3⟩:=vz h j
 unfold Ris
 rw[SetTable.toList_insertAt]
 generalize hp:Xm xs j=p at *
 have hh:xs.toList.Pairwise (· < ·):=h
 have hlt:∀ x∈xs.toList.take p,x < j:=fun x hx=>by
  obtain⟨i,hi,e⟩:=ZJ hx
  rw[V0] at hi
  rw[List.getElem_take] at e
  exact h2 i x (by lia) (by rw[← W6,Vz (by lia),e])
 have hgt:∀ x∈xs.toList.drop p,j < x:=fun x hx=>by
  obtain⟨i,hi,e⟩:=ZJ hx
  rw[YL] at hi
  rw[List.getElem_drop] at e
  have ex:xs[p+i]? = some x:=by rw[← W6,Vz (by lia),e]
  have:=h3 (p+i) x (by lia) ex
  rcases Nat.lt_or_ge j x with q | q
  ·exact q
  ·have ejx:x=j:=by lia
   subst ejx
   by_cases hi0:i=0
   ·subst hi0
    exact absurd ex hj
   ·have hps:p < xs.size:=by
     have:=(Array.getElem?_eq_some_iff.mp ex).1
     lia
    have:=Dc h (show p < p+i by lia) (We hps) ex
    have:=h3 p _ (Vw _) (We hps)
    lia
 rw[aah]
 refine⟨hh.sublist (List.take_sublist _ _),List.pairwise_cons.mpr ⟨hgt,hh.sublist (List.drop_sublist _ _)⟩,fun a ha b hb=>?_⟩
 rcases List.mem_cons.mp hb with rfl | hb
 ·exact hlt a ha
 ·exact aa2 (hlt a ha) (hgt b hb)
def rY (t:Zq)(j:Nat):Prop:=t.place[Xm t.place j]?≠some j
def tK {t:Zq}{j:Nat}(h:t.slot j = .empty∨t.slot j = .dummy):rY t j:=by
 intro e
 unfold SetTable.slot at h
 dsimp only at h
 rw[e,if_pos (by exact beq_self_eq_true _)] at h
 rcases h with h | h <;> cases h
theorem oU {t:Zq}{f:Nat->Int}{h:Int}:∀ (fuel:Nat) (p:SetTable.Probe) {j:Nat} {d:Option Nat},(∀ x,p.dummy=some x->rY t x)->abV t f h fuel p=some (.empty j d)->rY t j/\∀ x,d=some x->rY t x
 | 0,_,_,_,_,e=>by rw[abV] at e;cases e
 | fuel+1,p,j,d,hd,e=>by
  rw[abV] at e
  have adv:∀ q:SetTable.Probe,(t.advance q).dummy=q.dummy:=fun q=>by
   unfold SetTable.advance
   split <;> rfl
  cases hs:t.slot p.j with
  | empty =>
   rw[hs] at e
   cases e
   exact⟨tK (.inl hs),hd⟩
  | dummy =>
   rw[hs] at e
   dsimp only at e
   refine oU fuel _ (fun x hx=>?_) e
   rw[adv] at hx
   cases hx
   exact tK (.inr hs)
  | live i =>
   rw[hs] at e
   dsimp only at e
   by_cases hc:(f i == h)=true
   ·rw[if_pos hc] at e
    cases e
   ·rw[if_neg hc] at e
    exact oU fuel _ (fun x hx=>by rw[adv] at hx;exact hd x hx) e
def Ab {t:Zq}{h:Int}{j:Nat}{b:Bool}(e:t.freeSlot h=some (j,b)):rY t j:=by
 unfold SetTable.freeSlot SetTable.probe at e
 split at e
 ·rename_i j' d hp
  obtain⟨h1,h2⟩:=oU _ _ (fun x hx=>by cases hx) hp
  cases e
  cases d with
  | none=>exact h1
  | some x=>exact h2 x U
 ·cases e
structure TOk (b:Bool)(t:Zq):Prop where
 led:t.led=b
 ris:t.plain=true->Ris t.place
def Ga (b:Bool):TOk b (.fresh 0 0 b):=⟨U,fun _=>aaM⟩
def ji {b:Bool}{t:Zq}(h:TOk b t)(n:Nat):TOk b (t.standIn n):=⟨h.led,fun z=>by cases z⟩
def DX {b:Bool}{t:Zq}(h:TOk b t)(es:Array (Int × Value))(k:Int)(x:Value):TOk b (layNew t es k x).2.1:=by
 unfold layNew
 split
 ·rename_i slot wd e
  dsimp only
  unfold SetTable.orStandIn
  have ht:TOk b (t.put slot).1:=⟨h.led,fun z=>Qa (h.ris z) (Ab e)⟩
  split
  ·exact ht
  ·exact ji ht _
 ·exact ji h _
def Kp (owner:Array (Option Nat)):∀ l:D7,l.Pairwise (· < ·)->((l.filterMap fun j=>(owner.getD j none).map (j,·)).map (·.1)).Pairwise (· < ·):=fun l hl=>by
 have hs:List.Sublist ((l.filterMap fun j=>(owner.getD j none).map (j,·)).map (·.1)) l:=by
  induction l with
  | nil=>exact List.Sublist.slnil
  | cons a r ih =>
   have ih:=ih (List.pairwise_cons.mp hl).2
   rw[Yk]
   cases e:owner.getD a none with
   | none=>exact ih.cons _
   | some k=>exact ih.cons₂ _
 exact hl.sublist hs
def wN {b:Bool}{t:Zq}(h:TOk b t)(es:Array (Int × Value))(m:Nat):TOk b (abR t es m).2.1:=by
 unfold abR
 split
 ·rename_i t' order e
  dsimp only
  split
  ·unfold SetTable.relaid SetTable.laid at e
   cases ho:SetTable.layClean (SetTable.sizeAbove m - 1) (es.map (·.1)) with
   | none=>rw[ho] at e;cases e
   | some owner =>
    rw[ho] at e
    cases e
    exact⟨h.led,fun _=>Kp owner _ List.pairwise_lt_range⟩
  ·exact ji h _
 ·exact ji h _
end L2
namespace L2
open PySem PySem.Spec PyProof.Rows
section
variable {P:V4}{w:Wn}{A:Wm}{E:Value->Vt->Prop}{s:Vt}
def oE (P:V4)(w:Wn)(b:Bool)(h:WD)(a:Addr)(ks:D6):Prop :=
 ∃ o es ep t,h.get? a=some o/\o.ExactSet/\o.data = .set es ep t/\ElemsOf (Zy P w) es.toList/\t.fits es.size=true/\TOk b t/\∃ ns,Xa (es.toList.map (·.2)) ns/\ns.Perm ks
def gm {l l':DV}(p:l.Perm l'):∀ {ns:D6},Xa l ns->∃ ms,Xa l' ms/\ms.Perm ns:=by
 induction p with
 | nil=>intro ns h;exact⟨ns,h,.refl _⟩
 | cons x p ih =>
  intro ns h
  cases h with
  | cons n t r =>
   obtain⟨ms,h1,h2⟩:=ih r
   exact⟨n::ms,.cons n t h1,h2.cons n⟩
 | swap x y l =>
  intro ns h
  cases h with
  | cons n t r =>
   cases r with
   | cons m u r=>exact⟨m::n::_,.cons m u (.cons n t r),.swap _ _ _⟩
 | trans p q ih1 ih2 =>
  intro ns h
  obtain⟨ms,h1,h2⟩:=ih1 h
  obtain⟨ks,h3,h4⟩:=ih2 h1
  exact⟨ks,h3,h4.trans h2⟩
theorem pB {k:Int}{t:Tok}:∀ {l:DV} {ns:D6},Xa l ns->Xa (l++[.int k t]) (ns++[k])
 | _,_,.nil=>.cons k t .nil
 | _,_,.cons n u r=>.cons n u (pB r)
theorem qK {k:Int}:∀ {l:DV} {ns:D6},Xa l ns->(k∈ns ↔ ∃ v∈l,(Zy P w).is k v=true)
 | _,_,.nil=>by simp
 | _,_,.cons n t r=>by
  have ih:=qK (k:=k) r
  have e:(Zy P w).is k (.int n t)=decide (k=n):=KeyKind.is_eq_decide (intKind_is _ _ _ _) k
  rw[Y5,ih]
  constructor
  ·rintro (h | ⟨v,hv,q⟩)
   ·exact⟨_,VP,by rw[e];exact decide_eq_true h⟩
   ·exact⟨v,VR _ hv,q⟩
  ·rintro⟨v,hv,q⟩
   rcases List.mem_cons.mp hv with rfl | hv
   ·rw[e] at q
    exact .inl (of_decide_eq_true q)
   ·exact .inr ⟨v,hv,q⟩
def o6 {b:Bool}{h:WD}{a:Addr}{o:X8}{es es':Array (Int × Value)}{ep:Nat}{t t':Zq}{ks:D6}(ho:h.get? a=some o)(hx:o.ExactSet)(hd:o.data = .set es ep t)
  (hel:ElemsOf (Zy P w) es'.toList) (hf:t'.fits es'.size=true) (tk:TOk b t') (hn:∃ ns,Xa (es'.toList.map (·.2)) ns/\ns.Perm ks) :
  (h.update a (abL es' t')).get? a=some { o with data:=.set es' (ep+1) t' }/\oE P w b (h.update a (abL es' t')) a ks:=by
 have g:(h.update a (abL es' t')).get? a=some { o with data:=.set es' (ep+1) t' }:=by
  have q:=Wh (abL es' t') ho (by rw[putSet_of es' t' hd];rfl)
  rwa [putSet_of es' t' hd] at q
 exact⟨g,_,es',ep+1,t',g,hx,U,hel,hf,tk,hn⟩
def Oq {b:Bool}{a:Addr}{ks:D6}{k:Int}{t0:Tok}{Q:Bool->Vt->Prop}(hS:oE P w b s.heap a ks)(hroom:ks.length+1 < scanBound)
  (h:∀ h' r,YX a s.heap h'->oE P w b h' a (step_dedup ks k)->Q r { s with heap:=h' }):VG (VM P w) A (setAddHashed a (.int k t0) ((Zy P w).hash k)) Q E s:=by
 obtain⟨o,es,ep,t,ho,hx,hd,hel,hf,tk,ns,hi,hp⟩:=hS
 have key:(Zy P w).is k (.int k t0)=true:=intKind_is _ _ _ _
 have hlen:es.size=ks.length:=by
  rw[← hp.length_eq,← hi.length,Vs,Wz]
 have hb:es.size < scanBound:=by lia
 have hm:=qK (P:=P) (w:=w) (k:=k) hi
 unfold setAddHashed setAddHashedIn
 refine Xe (Vr (Zb ho hd hf ?_))
 dsimp only
 rw[byScan_of U hb hel]
 simp only[↓reduceIte]
 unfold setAddByScan
 refine Vr (Vr (aaw (Vr (wpAny_setScan_of key ho hd hf hel ?_))))
 cases hr:es.toList.findIdx? (fun e=>(Zy P w).is k e.2) with
 | some j =>
  dsimp only
  obtain⟨hj,q,_⟩:=List.findIdx?_eq_some_iff_getElem.mp hr
  have hk:k∈ks:=hp.mem_iff.mp (hm.mpr ⟨es.toList[j].2,List.mem_map.mpr ⟨_,acf hj,U⟩,q⟩)
  have es0:step_dedup ks k=ks:=by
   unfold step_dedup
   have hany:(ks.any fun x=>x == k)=true:=List.any_eq_true.mpr ⟨k,hk,beq_self_eq_true k⟩
   rw[if_pos hany]
  have q':=h s.heap false (Heap.SameBut.refl a s.heap) (by rw[es0];exact⟨o,es,ep,t,ho,hx,hd,hel,hf,tk,ns,hi,hp⟩)
  exact Vv (Vv q')
 | none =>
  dsimp only
  have hk:k ∉ ks:=fun z=>by
   obtain⟨v,hv,q⟩:=hm.mp (hp.mem_iff.mpr z)
   obtain⟨e,he,rfl⟩:=List.mem_map.mp hv
   rw[List.findIdx?_eq_none_iff.mp hr e he] at q
   cases q
  have es0:step_dedup ks k=ks++[k]:=by
   unfold step_dedup
   rw[if_neg]
   intro z
   obtain⟨x,hx',e⟩:=List.any_eq_true.mp z
   exact hk (by rw[← eq_of_beq e];exact hx')
  rw[es0] at h
  have pm:=layNew_perm t es ((Zy P w).hash k) (.int k t0)
  have ft:=layNew_fits t es ((Zy P w).hash k) (.int k t0)
  have tk1:=DX tk es ((Zy P w).hash k) (.int k t0)
  generalize layNew t es ((Zy P w).hash k) (.int k t0)=L at pm ft tk1 ⊢
  obtain⟨es1,t1,wd,gv⟩:=L
  dsimp only at pm ft tk1 ⊢
  rw[Array.toList_push] at pm
  have hel1:ElemsOf (Zy P w) es1.toList:=(hel.push key U).perm pm
  have hn1:∃ ns,Xa (es1.toList.map (·.2)) ns/\ns.Perm (ks++[k]):=by
   have i1:Xa ((es.toList++[((Zy P w).hash k,Ys k t0)]).map (·.2)) (ns++[k]):=by
    rw[VD]
    exact pB hi
   obtain⟨ms,h1,h2⟩:=gm (pm.symm.map (·.2)) i1
   exact⟨ms,h1,h2.trans (hp.append (.refl _))⟩
  have hs1:es1.size<=sizeLine:=by
   have:es1.size=es.size+1:=by rw[← Wz,pm.length_eq,VH,Wz];rfl
   exact fits_of_scanBound (by lia)
  have gw:∀ (b:Bool) {s₁:Vt} {Q':Unit->Vt->Prop},Q' () s₁->VG (VM P w) A (match b with | true=>rule "set.scan.the-table-gave-way" | false=>pure ()) Q' E s₁:=fun b s₁ Q' hq=>by
   cases b
   ·exact Vv hq
   ·exact aaw hq
  have tail:∀ (g:Bool->Sem Unit) (R:DU->Vt->Prop) (t2:Zq),(∀ (b:Bool) (s₁:Vt) (Q':Unit->Vt->Prop),Q' () s₁->VG (VM P w) A (g b) Q' E s₁)->t2.fits es1.size=true->TOk b t2 →
    (∀ h',YX a s.heap h'->oE P w b h' a (ks++[k])->R (some true) { s with heap:=h' })->VG (VM P w) A (do
    storeSet a es1 t2
    if (!wd && t2.tooFull)=true then do
      g (abR t2 es1 (Zo es1.size)).2.2
      storeSet a (abR t2 es1 (Zo es1.size)).1 (abR t2 es1 (Zo es1.size)).2.1
      pure (some true)
     else pure (some true)) R E s:=fun g R t2 hg f2 k2 hR=>by
   refine Vr (wpAny_storeSet_of ho hd ?_ hs1)
   obtain⟨ho1,hS1⟩:=o6 (P:=P) (w:=w) ho hx hd hel1 f2 k2 hn1
   have sb1:=Xr s.heap a (abL es1 t2)
   split
   ·have pr:=relayAll_perm t2 es1 (Zo es1.size)
    have fr:=relayAll_fits t2 es1 (Zo es1.size)
    have tr:=wN k2 es1 (Zo es1.size)
    generalize abR t2 es1 (Zo es1.size)=R at pr fr tr ⊢
    obtain⟨es2,t3,g2⟩:=R
    dsimp only at pr fr tr ⊢
    have hn2:∃ ns,Xa (es2.toList.map (·.2)) ns/\ns.Perm (ks++[k]):=by
     obtain⟨ns1,i1,p1⟩:=hn1
     obtain⟨ms,h1,h2⟩:=gm (pr.symm.map (·.2)) i1
     exact⟨ms,h1,h2.trans p1⟩
    have hs2:es2.size<=sizeLine:=by
     have:es2.size=es1.size:=by rw[← Wz,pr.length_eq,Wz]
     lia
    refine Vr (hg _ _ _ (Vr (wpAny_storeSet_of ho1 U ?_ hs2)))
    obtain⟨_,hS2⟩:=o6 (P:=P) (w:=w) ho1 hx U (hel1.perm pr) fr tr hn2
    exact Vv (hR _ (sb1.trans (Xr _ a _)) hS2)
   ·exact Vv (hR _ sb1 hS1)
  refine Vr (gw _ ?_)
  split
  ·refine Vr ?_
   rw[hashByValue_scannable 8 U]
   refine Vv (tail _ _ _ (fun b s₁ Q' hq=>gw b hq) ?_ ?_ fun h' sb hS=>Vv (h h' true sb hS))
   ·exact ft
   ·exact tk1
  ·exact Vr (Vv (tail _ _ _ (fun b s₁ Q' hq=>gw b hq) ft tk1 fun h' sb hS=>Vv (h h' true sb hS)))
end
def nT {P:V4}{w:Wn}{b:Bool}{h h':WD}{a:Addr}{ks:D6}(hk:∀ o,h.get? a=some o->h'.get? a=some o)(hS:oE P w b h a ks):oE P w b h' a ks:=by
 obtain⟨o,es,ep,t,ho,r⟩:=hS
 exact⟨o,es,ep,t,hk o ho,r⟩
section
variable {P:V4}{w:Wn}{A:Wm}{R:aaB->Vt->Prop}{I:Addr}{fp wr:List Addr}{G:Array ab4->Array ab4->Prop}{n:Nat}{Pv:Nat->Value->Prop}{St:Nat->Vt->Prop}{b:Bool}
def Lb (W:WalksS P w A.in1 I fp wr G n Pv St)(S:Addr)(hS:S ∉ fp)(val:Nat->Int)(hv:∀ i v,Pv i v->∃ t,v = .int (val i) t)(hb:n+1 < scanBound) :
  ∀ (k i:Nat) (s:Vt),n - i=k->i<=n->St i s->oE P w b s.heap S (firstMet val i)->(∀ s',Moved (S::wr) G s s'->oE P w b s'.heap S (firstMet val n)->R (.ok (.ret .none)) s') →
   Xi (VM P w) A (.builtin "set.update.loop" ⟨[.ref S,.ref I],[]⟩) R s:=by
 have nw:S ∉ wr:=fun z=>hS (W.sub _ z)
 have sub:∀ x∈wr,x∈S::wr:=fun x hx=>VR _ hx
 intro k
 induction k with
 | zero =>
  intro i s hk hi st hs hR
  obtain rfl:i=n:=by lia
  refine XJ F.entry_set_update_loop ?_
  rw[XS aaY _]
  refine (show VG _ A.in1 (Y8 (.ref I) >>= _) _ _ s from Vr (W.done s _ _ st fun s' hm=>?_))
  exact (show VG _ A.in1 (ret Xk) _ _ s' from Vv (hR s' (hm.mono sub) (nT (fun o e=>hm.heap S o nw e) hs)))
 | succ k ih =>
  intro i s hk hi st hs hR
  have lt:i < n:=by lia
  refine XJ F.entry_set_update_loop ?_
  rw[XS aaY _]
  refine (show VG _ A.in1 (Y8 (.ref I) >>= _) _ _ s from Vr (W.item i s _ _ lt st fun v s' hP st' hm=>?_))
  obtain⟨t,rfl⟩:=hv i v hP
  have hs':=nT (h':=s'.heap) (fun o e=>hm.heap S o nw e) hs
  have room:(firstMet val i).length+1 < scanBound:=by
   have:=firstMet_length_le val i
   lia
  refine (show VG _ A.in1 (ZP [Ys (val i) t] (setAdd S (.int (val i) t)) >>= _) _ _ s' from Vr (Xe ?_))
  unfold setAdd
  refine Xe (Vr ((Zy P w).pyHash (k:=val i) (intKind_is _ _ _ _) ?_))
  refine Oq (s:={ s' with toks:=s'.toks+1 }) hs' room fun h' r sb hn=>?_
  rw[← firstMet_succ] at hn
  refine Vv ⟨YC aaY _,ih (i+1) _ (by lia) lt (W.frame _ s' _ _ st' (Xq _) fun x hx o e=>?_) hn fun s'' hm'' hs''=>?_⟩
  ·rw[sb.2 x (fun z:x=S=>hS (by rw[← z];exact hx))]
   exact e
  ·refine hR s'' (Moved.trans W.gtrans ((hm.mono sub).then_heap (Xq _) fun x o hx e=>?_) hm'') hs''
   rw[sb.2 x (fun z:x=S=>hx (by rw[z];exact VP))]
   exact e
end
section
variable {P:V4}{w:Wn}{A:Wm}{E:Value->Vt->Prop}{s:Vt}
def Ky (w:Wn):Bool:=!w.params.followText "set-order"
def newS (w:Wn):X8:={ cls:=.type "set",dict:=none,data:=.set #[] 0 (.fresh 0 0 (Ky w)) }
def Pj (a:Value){Q₁:DM}(h:Q₁ (.ref s.heap.objs.size) { s with heap:=s.heap.push (newS w) }) :
  Xi (VM P w) A (.call (.builtin "set.__new__") ⟨[.type "set",a],[]⟩) (wants Q₁ E) s:=by
 refine aa8 (show VG _ A.in1 (do Zz "set.__new__" ⟨[.type "set",a],[]⟩;again (.builtin "set.__new__" ⟨[.type "set",a],[]⟩)) _ _ s from ?_)
 refine Vr (Yp (PySem.F.newCall_set_1 a) (Vv ⟨YC PySem.F.plain_set_new _,XJ PySem.F.entry_set_new ?_⟩))
 rw[XS PySem.F.plain_set_new _]
 unfold YZ.«set.__new__» Builtin.Frozenset.newClass;have hsub:=sub_set_self;obtain⟨hp,g,d,tk,os⟩:=s
 dsimp only
 wp_walk
 refine YH (Vv ?_)
 dsimp only
 simp only[newObj];refine Vr (wpAny_alloc (Vv ?_))
 exact Vv h
end
section
variable {P:V4}{w:Wn}{A:Wm}{E:Value->Vt->Prop}{s:Vt}
set_option maxRecDepth 100000 in
set_option maxHeartbeats 3200000 in
def zj {l:Addr}{items:Array Value}{ns:D6}{Q:DM}(hh:A.handled=none)(hl:s.heap.IsList l items)(hi:Xa items.toList ns)(hb:items.size+1 < scanBound)
  (h:∀ (h':WD) (tk:Nat),oE P w (Ky w) h' s.heap.objs.size (firstMet (fun i=>ns.getD i 0) items.size)->(∀ b o,b < s.heap.objs.size->s.heap.get? b=some o->h'.get? b=some o)->Q (.ref s.heap.objs.size) { s with heap:=h',toks:=tk }) :
  VG (VM P w) A (call (.type "set") [.ref l]) Q E s:=by
 obtain⟨c,tl,hmro⟩:=PySem.F.called_set.mro
 have hmade:=PySem.F.called_set.made
 have hsub:=PySem.F.called_set.sub
 refine Zg (aa8 (show VG _ _ (callAny (.type "set") _) _ _ _ from Vv ⟨aaF _ (by decide+kernel),XJ PySem.F.entry_type_call ?_⟩))
 rw[Around.under_plain (weight_type_call_type "set" [.ref l] []) U]
 have h1:=PySem.F.called_set.notType
 have h2:=PySem.F.called_set.canCreate
 have hct:=PySem.F.typeCall_set_1 (.ref l)
 repeat (any_goals (first | assumption | wp_step))
 refine Yl (Pj (.ref l) (E:=E) (Q₁:=fun obj s₁=>obj = .ref s.heap.objs.size/\s₁={ s with heap:=s.heap.push (newS w) }) ⟨U,U⟩) fun r s₁ hr=>?_
 cases r with
 | error e=>exact hr
 | ok fl =>
  cases fl with
  | ret obj =>
   obtain⟨rfl,rfl⟩:=hr
   have gS:(s.heap.push (newS w)).get? s.heap.objs.size=some (newS w):=VN _ U
   have hT:Shared.TypeIs { s with heap:=s.heap.push (newS w) } (.ref s.heap.objs.size) "set":=⟨_,gS,U⟩
   have hli:=PySem.F.called_set.init.lookup
   have hbi:=PySem.F.called_set.init.bind (.ref s.heap.objs.size)
   repeat (any_goals (first | assumption | wp_step))
   refine Yl (Zj (R:=wants (fun r s₂=>r = .none/\∃ h' tk,s₂={ s with heap:=h',toks:=tk }/\oE P w (Ky w) h' s.heap.objs.size (firstMet (fun i=>ns.getD i 0) items.size) ∧
     (∀ b o,b < s.heap.objs.size->s.heap.get? b=some o->h'.get? b=some o)) E) PySem.F.called_set.init.plain PySem.F.entry_set_init (check_set_init_1 hT ?_)) fun r₂ s₂ hr₂=>?_
   ·obtain⟨ol,hol,hcl,nl,hdl⟩:=hl
    obtain⟨ocls,odict,odata,oslots⟩:=ol
    simp only at hcl hdl
    subst hcl hdl
    have hol':(s.heap.push (newS w)).get? l=some { cls:=.type "list",dict:=odict,data:=.seq items nl,slots:=oslots }:=Vu _ hol
    have hsls:=PySem.F.sub_list_set
    have hslf:=PySem.F.sub_list_frozenset
    have hne:(YD "list" == YD "dict")=false:=by decide
    have hl1:(s.heap.push (newS w)).IsList l items:=⟨_,hol',U,nl,U⟩
    have gS':(s.heap.push (newS w)).get? s.heap.objs.size=some { cls:=.type "set",dict:=none,data:=.set #[] 0 (.fresh 0 0 (Ky w)) }:=gS
    unfold YZ.«set.__init__» noKeywords Builtin.Frozenset.updateFrom;generalize hPI:abi=PI
    wp_walk
    subst hPI
    refine ZX hl1 (Vr (wpAny_runValue ?_))
    have hlS:l < s.heap.objs.size:=VL hol
    have hh3:A.in1.in1.in1.handled=none:=by simp [hh]
    have hneI:l≠(s.heap.push (newS w)).objs.size:=by
     rw[Xy]
     exact V5 (WY hlS)
    have hSf:s.heap.objs.size ∉ [(s.heap.push (newS w)).objs.size,l]:=by
     rw[Xy,Y5,XN]
     rintro (z | z)
     ·exact absurd z (V5 (Yt _))
     ·exact absurd z (YT hlS)
    refine Lb (b:=Ky w) ((abK hh3 _ l hneI items).toS) s.heap.objs.size hSf (fun i=>ns.getD i 0) (fun i v hv=>IntsAre.int_at hi i v (by rw[W6];exact hv)) hb (items.size - 0) 0 _ (by lia) (Wr _)
     ⟨⟨_,VN _ U,U,U⟩,(hl1.push _)⟩ ?hS0 ?hR
    case hS0=>exact⟨newS w,#[],0,_,Vu _ gS,⟨U,U,U⟩,U,(fun e he=>by simp at he),U,Ga _,[],.nil,.refl _⟩
    case hR =>
     intro s' hm hS'
     obtain⟨h',g',d',tk',os'⟩:=s'
     obtain rfl:g'=s.gens:=hm.gens
     obtain rfl:d'=s.drawn:=hm.drawn
     obtain rfl:os'=s.os:=hm.os
     refine (show VG _ _ _ _ _ _ from Vv (show VG _ _ (ret Xk) _ _ _ from Vv ⟨U,h',tk',U,hS',fun b o hb e=>?_⟩))
     refine hm.heap b o ?_ (Vu _ (Vu _ e))
     rw[Y5,XN,Xy]
     rintro (z | z)
     ·exact absurd z (V5 hb)
     ·exact absurd z (V5 (WY hb))
   ·cases r₂ with
    | error e=>exact hr₂
    | ok fl₂ =>
     cases fl₂ with
     | ret r =>
      obtain⟨rfl,h',tk,rfl,hS',hk'⟩:=hr₂
      repeat (any_goals (first | assumption | wp_step))
      exact h h' tk hS' hk'
     | _=>exact hr₂.elim
  | _=>exact hr.elim
end
def wB:Manifest.owners.lookup (String.ofList ['r','o','t','a','r','e','t','i','_','t','e','s'].reverse)=some Manifest.sig_set_iterator:=by kernel_rfl
def bL:Slot "set_iterator" "__next__" "set_iterator.__next__" :=
 .of (owner:="set_iterator") (n:="__next__") (by rw[ZM,Yv];kernel_rfl) (by decide+kernel) (by decide+kernel) (by decide+kernel) (by first | exact .inl (by decide+kernel) | exact .inr (by decide+kernel)) (by rw[YJ];kernel_rfl)
def fJ:entryFor table "set_iterator.__next__" = some YZ.«set_iterator.__next__»:=entryFor_of_tree (by kernel_rfl)
def fX (a:Value):aaA "set_iterator.__next__" ⟨[a],[]⟩:=by
 unfold aaA
 rw[abF (id:="set_iterator.__next__") (n:=['_','_','t','x','e','n','_','_']) (o:=['r','o','t','a','r','e','t','i','_','t','e','s']) (by kernel_rfl) wB]
 kernel_rfl
def jQ:Slot "set_iterator" "__iter__" "set_iterator.__iter__" :=
 .of (owner:="set_iterator") (n:="__iter__") (by rw[ZM,Yv];kernel_rfl) (by decide+kernel) (by decide+kernel) (by decide+kernel) (by first | exact .inl (by decide+kernel) | exact .inr (by decide+kernel)) (by rw[YJ];kernel_rfl)
def pF:entryFor table "set_iterator.__iter__" = some YZ.«dict_keyiterator.__iter__»:=entryFor_alias (id':="dict_keyiterator.__iter__") (by kernel_rfl) U (by decide+kernel) (by kernel_rfl)
def qC (a:Value):aaA "set_iterator.__iter__" ⟨[a],[]⟩:=by
 unfold aaA
 rw[abF (id:="set_iterator.__iter__") (n:=['_','_','r','e','t','i','_','_']) (o:=['r','o','t','a','r','e','t','i','_','t','e','s']) (by kernel_rfl) wB]
 kernel_rfl
def qU:entryFor table "set.__iter__" = some YZ.«frozenset.__iter__»:=entryFor_alias (id':="frozenset.__iter__") (by kernel_rfl) U (by decide+kernel) (by kernel_rfl)
theorem oM {α:Type}:∀ (l:List α) (j:Nat) (h:j < l.length),(l[j]::l.eraseIdx j).Perm l
 | a::r,0,_=>.refl _
 | a::r,j+1,h=>by
  have ih:=oM r j (aa3 h)
  rw[List.getElem_cons_succ,List.eraseIdx_cons_succ]
  exact (List.Perm.swap _ _ _).trans (ih.cons a)
theorem yc {α:Type}(nx:Nat->Nat):∀ (fuel k:Nat) (left:List α) (out:Array α),left.length<=fuel->(pickOrder.go nx fuel k left out).toList.Perm (out.toList++left)
 | 0,k,left,out,h=>by
  rw[pickOrder.go]
  have e:left=[]:=Yc (by lia)
  subst e
  rw[Xn]
 | fuel+1,k,left,out,h=>by
  rw[pickOrder.go]
  cases hl:left with
  | nil =>
   simp
  | cons a r =>
   have hlen:nx k % (a::r).length < (a::r).length:=Nat.mod_lt _ (by simp)
   rw[Vz hlen]
   dsimp only
   generalize nx k % (a::r).length=j at hlen ⊢
   have ih:=yc nx fuel (k+1) ((a::r).eraseIdx j) (out.push (a::r)[j]) (by rw[List.length_eraseIdx_of_lt hlen,← hl];lia)
   refine ih.trans ?_
   rw[Array.toList_push,aaL]
   refine List.Perm.append (.refl _) ?_
   show ((a::r)[j]::(a::r).eraseIdx j).Perm (a::r)
   exact oM _ j hlen
def qT {α:Type}(nx:Nat->Nat)(xs:Array α):(Z7 nx xs).toList.Perm xs.toList:=by
 unfold Z7
 have:=yc nx xs.size 0 xs.toList #[] (by rw[Wz];exact Vw _)
 simpa using this
section
variable {P:V4}{w:Wn}{A:Wm}{E:Value->Vt->Prop}{s:Vt}
theorem wH {α:Type}{Q:List α->Vt->Prop}:∀ (n:Nat) (xs:List α) (s:Vt),xs.length=n->(∀ ys d,ys.Perm xs->Q ys { s with drawn:=d })->VG (VM P w) A (drawOrder n xs) Q E s
 | 0,xs,s,h,hq=>by
  rw[drawOrder]
  have e:xs=[]:=Yc h
  subst e
  exact Vv (hq [] s.drawn (.refl _))
 | n+1,[],s,h,hq=>by cases h
 | n+1,x::xs,s,h,hq=>by
  rw[drawOrder]
  ·refine Vr (fun Γ p hΓ=>?_)
   show Sem.wp _ _ (.choose .order (x::xs).length .pure) _ _ _ _
   rw[Sem.wp_choose]
   refine⟨by simp,?_⟩
   rw[Sem.wp_pure]
   generalize (VM P w).w.draws .order (s.drawn.get .order)=z
   have hlen:z % (x::xs).length < (x::xs).length:=Nat.mod_lt _ (by simp)
   generalize z % (x::xs).length=j at hlen ⊢
   show VG _ _ _ _ _ _
   rw[Vz hlen]
   dsimp only
   refine Vr (wH n ((x::xs).eraseIdx j) _ (by rw[List.length_eraseIdx_of_lt hlen];rw[V2] at h ⊢;lia) fun ys d p=>Vv ?_)
   exact hq _ d ((p.cons _).trans (oM _ j hlen))
  ·simp
end
def SIt (h:WD)(I S:Addr)(f:Value)(i n ep:Nat):Prop:=h.get? I=some { cls:=.type "set_iterator",dict:=none,data:=.fields #[f,.int i 0,.ref S,.int n 0,.int ep 0],slots:=#[] }
section
variable {P:V4}{w:Wn}{A:Wm}{E:Value->Vt->Prop}{s:Vt}{I S:Addr}{o:X8}{es:Array (Int × Value)}{ep:Nat}{t:Zq}
def vd {sl:Int}{tk:Tok}{i:Nat}{Q:DO->Vt->Prop}{r:DE}(hh:A.handled=none)(hI:SIt s.heap I S (.int sl tk) i es.size ep)(hS:s.heap.get? S=some o)(hd:o.data = .set es ep t)(hf:t.fits es.size=true)
  (hn:∀ (A:Wm) (E:DM) (Q:DE->Vt->Prop),Q r s->VG (VM P w) A (acB S sl.toNat i ep) Q E s)
  (hs:∀ x j h',r=some (x,j)->SIt h' I S (.int (j:Nat) 0) (i+1) es.size ep->YX I s.heap h'->Q (some x) { s with heap:=h' }) (he:∀ h',r=none->Heap.ExtBut I s.heap h'->Q none { s with heap:=h' }):VG (VM P w) A (Y8 (.ref I)) Q E s:=by
 have hT:s.TypeIs (.ref I) "set_iterator":=⟨_,hI,U⟩
 unfold Y8
 refine Vr (ZK (Yd (name:=Z1 "__next__") hT bL (Xo bL hT fJ ?_ (fX _))))
 refine (show VG _ _ (fieldsOf (.ref I) >>= _) _ _ s from Vr (wpAny_fieldsOf hI U ?_))
 refine (show VG _ _ (setEntries S >>= _) _ _ s from Vr (aaq hS hd hf ?_))
 rw[if_neg (by simp)]
 refine (show VG _ _ (acB S sl.toNat (i:Int).toNat (ep:Int).toNat >>= _) _ _ s from Vr ?_)
 rw[Wg,Wg]
 refine hn _ _ _ ?_
 cases hr:r with
 | some xj =>
  obtain⟨x,j⟩:=xj
  dsimp only
  refine Vr (XF hI U (by simp) ?_)
  have g1:=Wh (XH (·.setIfInBounds 0 (WM (j:Int)))) hI U
  refine Vr (XF g1 U (by simp) ?_)
  have g2:=Wh (XH (·.setIfInBounds 1 (WM ((i:Int)+1)))) g1 U
  refine Vv ⟨x,U,Vv (hs x j _ hr ?_ ((Xr ..).trans (Xr ..)))⟩
  exact g2
 | none =>
  dsimp only
  refine Vr (XF hI U (by simp) ?_)
  refine (show VG _ _ (newExc (.type "StopIteration") [] >>= _) _ _ _ from Vr ?_)
  simp only[newExc,newTuple]
  refine Vr (Wv ?_ (by size_fits))
  refine Vr (m:=ZZ _ _) (Yp (a:=Xk) (by first | rfl | (simp only[ZZ];rfl)) (Wv ?_ (by size_fits)))
  simp only[raiseNew]
  refine Vr (wpAny_handled ?_)
  first | rw[show A.in1.handled=none from hh] | rw[hh]
  refine Vr (Vv (wpAny_throw ?_))
  refine Vr (Z6 (T:="StopIteration") (b:=true) ⟨_,VN _ U,U⟩ isSubtype_stop (Vv ?_))
  exact he _ hr (((Xr ..).extBut.push _).push _)
end
section
variable {P:V4}{w:Wn}{A:Wm}{E:Value->Vt->Prop}{s:Vt}{I S:Addr}{o:X8}{es:Array (Int × Value)}{ep:Nat}{t:Zq}
def yE {sl i:Nat} {Q:DE->Vt->Prop} (hb:w.params.followText "set-order" = true) (hS:s.heap.get? S=some o) (hd:o.data = .set es ep t) (hf:t.fits es.size=true)
  (h:Q (((Z7 (w.params.setOrder S ep) es)[i]?).map fun e=>(e.2,sl)) s):VG (VM P w) A (acB S sl i ep) Q E s:=by
 unfold acB
 refine Vr (Zb hS hd hf ?_)
 dsimp only
 unfold setsByText
 refine Vr (Vr (YH (Vv ?_)))
 rw[if_pos (show (VM P w).w.params.followText "set-order" = true from hb),if_neg (by simp)]
 unfold setWalk
 refine Vr (Vr (Zb hS hd hf ?_))
 dsimp only
 unfold setsByText
 refine Vr (Vr (YH (Vv ?_)))
 rw[if_pos (show (VM P w).w.params.followText "set-order" = true from hb)]
 exact Vr (YH (Vv (Vv h)))
def tL {sl i:Nat} {Q:DE->Vt->Prop} (hb:w.params.followText "set-order" = false) (hS:s.heap.get? S=some o) (hd:o.data = .set es ep t) (hf:t.fits es.size=true) (hl:t.led=true)
  (hp:t.plain=true∨es.size<=1) (hi:Xm t.place sl=i)
  (h:Q (match es[i]?,t.place[i]? with | some (_,x),some j=>some (x,j+1) | _,_=>none) s):VG (VM P w) A (acB S sl i ep) Q E s:=by
 unfold acB
 refine Vr (Zb hS hd hf ?_)
 dsimp only
 unfold setsByText
 refine Vr (Vr (YH (Vv ?_)))
 rw[if_neg (show ¬ (VM P w).w.params.followText "set-order" = true by rw[show (VM P w).w.params.followText "set-order" = false from hb];exact Vy)]
 have hdr:(!t.plain && decide (es.size > 1))=false:=by
  rcases hp with q | q
  ·rw[q]
   rfl
  ·rw[decide_eq_false (by lia),Zw]
 refine aa7 (show decide ((!t.plain && decide (es.size > 1))=true)=false from decide_eq_false (by rw[hdr];exact Vy)) ?_
 refine Vr (show VG _ _ (if (!t.led && !es.isEmpty)=true then unsupported "set:maker-not-led" else pure ()) _ _ _ from ?_)
 rw[hl]
 refine aa7 (decide_eq_false (by simp)) (Vv (Vv ?_))
 rw[hi]
 exact h
def uA {f:Value}{i n:Nat}{Q:DM}(hI:SIt s.heap I S f i n ep)(h:Q (.ref I) s):VG (VM P w) A (abi (.ref I)) Q E s:=by
 have hT:s.TypeIs (.ref I) "set_iterator":=⟨_,hI,U⟩
 refine abQ hT jQ (Xo jQ hT pF (show VG _ _ (ret (.ref I)) _ _ s from ?_) (qC _))
 exact Vv ⟨_,U,"set_iterator",_,hT,bL.lookup,h⟩
def Iw (hh:A.handled=none) (hne:S≠I) (hb:w.params.followText "set-order" = true) (hd:o.data = .set es ep t) (hf:t.fits es.size=true) :
  Walks P w A I [I,S] [I] es.size (fun i v=>((Z7 (w.params.setOrder S ep) es).toList.map (·.2))[i]? = some v) (fun i h=>(∃ (sl:Nat) (tk:Tok),SIt h I S (.int (sl:Int) tk) i es.size ep)/\h.get? S=some o) where
 sub:=fun b hb=>by simp at hb;simp [hb]
 frame:=fun i h h' st hk=>by
  obtain⟨⟨sl,tk,hI⟩,hS⟩:=st
  exact⟨⟨sl,tk,hk I (by simp) _ hI⟩,hk S (by simp) _ hS⟩
 item:=fun i s Q E hi st hQ=>by
  obtain⟨⟨sl,tk,hI⟩,hS⟩:=st
  have pl:(Z7 (w.params.setOrder S ep) es).size=es.size:=by
   have:=(qT (w.params.setOrder S ep) es).length_eq
   simpa using this
  have hx:(Z7 (w.params.setOrder S ep) es)[i]? = some ((Z7 (w.params.setOrder S ep) es)[i]'(by lia)):=We _
  generalize (Z7 (w.params.setOrder S ep) es)[i]'(by lia)=x at hx
  refine vd (r:=some (x.2,sl)) hh hI hS hd hf (fun A E Q q=>?_) (fun v j h' hr hI' sb=>?_) (fun h' hr _=>by cases hr)
  ·refine yE hb hS hd hf ?_
   rw[Wg,hx]
   exact q
  ·cases hr
   refine hQ _ h' s.toks ?_ ⟨⟨sl,0,hI'⟩,sb.2 S hne▸hS⟩ fun b o' hb' e=>?_
   ·rw[V7,W6,hx]
    rfl
   ·rw[sb.2 b (fun z=>hb' (by rw[z];exact List.mem_singleton.mpr U))]
    exact e
 done:=fun s Q E st hQ=>by
  obtain⟨⟨sl,tk,hI⟩,hS⟩:=st
  have pl:(Z7 (w.params.setOrder S ep) es).size=es.size:=by
   have:=(qT (w.params.setOrder S ep) es).length_eq
   simpa using this
  refine vd (r:=none) hh hI hS hd hf (fun A E Q q=>?_) (fun v j h' hr=>by cases hr) (fun h' _ hx=>?_)
  ·refine yE hb hS hd hf ?_
   rw[Y0 (by lia)]
   exact q
  ·exact hQ h' s.toks fun b o' hb' e=>hx b o' (fun z=>hb' (by rw[z];exact List.mem_singleton.mpr U)) e
 self:=fun i s Q E st hQ=>by
  obtain⟨⟨sl,tk,hI⟩,_⟩:=st
  exact uA hI hQ
def slotAt (pl:Array Nat):Nat->Nat
 | 0=>0
 | i+1=>pl.getD i 0+1
theorem pC {pl:Array Nat}(h:Ris pl):∀ {i:Nat},i<=pl.size->Xm pl (slotAt pl i)=i
 | 0,_=>Em h
 | i+1,hi=>by
  have e:pl[i]? = some (pl.getD i 0):=by
   rw[We (by lia),Yn,We (by lia)]
   rfl
  exact below_at h e
def Ey (hh:A.handled=none) (hne:S≠I) (hb:w.params.followText "set-order" = false) (hd:o.data = .set es ep t) (hf:t.fits es.size=true) (hl:t.led=true) (hp:t.plain=true∨es.size<=1) (hr:Ris t.place) :
  Walks P w A I [I,S] [I] es.size (fun i v=>(es.toList.map (·.2))[i]? = some v) (fun i h=>(∃ tk:Tok,SIt h I S (.int (slotAt t.place i:Nat) tk) i es.size ep)/\h.get? S=some o) where
 sub:=fun b hb=>by simp at hb;simp [hb]
 frame:=fun i h h' st hk=>by
  obtain⟨⟨tk,hI⟩,hS⟩:=st
  exact⟨⟨tk,hk I (by simp) _ hI⟩,hk S (by simp) _ hS⟩
 item:=fun i s Q E hi st hQ=>by
  obtain⟨⟨tk,hI⟩,hS⟩:=st
  have ps:t.place.size=es.size:=by
   simp only[SetTable.fits,Xp,beq_iff_eq] at hf
   exact hf.1
  have hx:es[i]? = some es[i]:=We hi
  have hj:t.place[i]? = some (t.place.getD i 0):=by
   rw[We (by lia),Yn,We (by lia)]
   rfl
  generalize es[i]=x at hx
  obtain⟨k,v⟩:=x
  refine vd (r:=some (v,t.place.getD i 0+1)) hh hI hS hd hf (fun A E Q q=>?_) (fun u j h' hr hI' sb=>?_) (fun h' hr _=>by cases hr)
  ·refine tL hb hS hd hf hl hp (i:=i) (by rw[Wg];exact pC hr (by lia)) ?_
   rw[hx,hj]
   exact q
  ·cases hr
   refine hQ _ h' s.toks ?_ ⟨⟨0,hI'⟩,sb.2 S hne▸hS⟩ fun b o' hb' e=>?_
   ·rw[V7,W6,hx]
    rfl
   ·rw[sb.2 b (fun z=>hb' (by rw[z];exact List.mem_singleton.mpr U))]
    exact e
 done:=fun s Q E st hQ=>by
  obtain⟨⟨tk,hI⟩,hS⟩:=st
  have ps:t.place.size=es.size:=by
   simp only[SetTable.fits,Xp,beq_iff_eq] at hf
   exact hf.1
  refine vd (r:=none) hh hI hS hd hf (fun A E Q q=>?_) (fun v j h' hr=>by cases hr) (fun h' _ hx=>?_)
  ·refine tL hb hS hd hf hl hp (i:=es.size) (by rw[Wg];exact pC hr (by lia)) ?_
   rw[Y0 (Vw _)]
   exact q
  ·exact hQ h' s.toks fun b o' hb' e=>hx b o' (fun z=>hb' (by rw[z];exact List.mem_singleton.mpr U)) e
 self:=fun i s Q E st hQ=>by
  obtain⟨⟨tk,hI⟩,_⟩:=st
  exact uA hI hQ
end
section
variable {P:V4}{w:Wn}{A:Wm}{E:Value->Vt->Prop}{s:Vt}{I S T:Addr}{o:X8}{es:Array (Int × Value)}{ep:Nat}{t:Zq}
def dJ (pl:D7):DV:=pl.map fun j:Nat=>WM (j:Int)
def Ew {pl:D7}(hh:A.handled=none)(hne:S≠I)(hnt:T≠I)(hd:o.data = .set es ep t)(hf:t.fits es.size=true)(hp:pl.Perm (Xb es.size)) :
  Walks P w A I [I,S,T] [I] es.size (fun i v=>(pl.map fun j=>(es.getD j (0,.none)).2)[i]? = some v) (fun i h=>SIt h I S (.ref T) i es.size ep/\h.get? S=some o/\h.IsTuple T (dJ pl).toArray) where
 sub:=fun b hb=>by simp at hb;simp [hb]
 frame:=fun i h h' st hk=>by
  obtain⟨hI,hS,o',ho',r⟩:=st
  exact⟨hk I (by simp) _ hI,hk S (by simp) _ hS,o',hk T (by simp) _ ho',r⟩
 item:=fun i s Q E hi st hQ=>by
  obtain⟨hI,hS,hT⟩:=st
  have lp:pl.length=es.size:=by rw[hp.length_eq,XD]
  have hT0:s.TypeIs (.ref I) "set_iterator":=⟨_,hI,U⟩
  obtain⟨j,hj⟩:∃ j,pl[i]? = some j:=⟨pl[i],Vz (by lia)⟩
  have hj2:j < es.size:=List.mem_range.mp (hp.mem_iff.mp (Wd hj))
  have hx:es[j]? = some (es.getD j (0,.none)):=by
   rw[We hj2,Yn,We hj2]
   rfl
  obtain⟨ot,hot,hct,nt,hdt⟩:=id hT
  unfold Y8
  refine Vr (ZK (Yd (name:=Z1 "__next__") hT0 bL (Xo bL hT0 fJ ?_ (fX _))))
  refine (show VG _ _ (fieldsOf (.ref I) >>= _) _ _ s from Vr (wpAny_fieldsOf hI U ?_))
  refine (show VG _ _ (setEntries S >>= _) _ _ s from Vr (aaq hS hd hf ?_))
  rw[if_neg (by simp)]
  refine (show VG _ _ (ab8 (.ref T) >>= _) _ _ s from Vr (aav hot hdt ?_))
  have hpl:(dJ pl).toArray[(i:Int).toNat]? = some (.int (j:Int) 0):=by
   rw[Wg,abg]
   show (pl.map fun j:Nat=>WM (j:Int))[i]? = _
   rw[V7,hj]
   rfl
  dsimp only
  rw[hpl]
  dsimp only
  refine Vr (show VG _ _ (setNextDrawn S (j:Int).toNat (ep:Int).toNat) _ _ _ from ?_)
  unfold setNextDrawn
  refine Vr (Zb hS hd hf ?_)
  dsimp only
  rw[Wg,Wg,if_neg (by simp),hx]
  refine Vv (Vr (XF hI U (by simp) ?_))
  have g1:=Wh (XH (·.setIfInBounds 1 (WM ((i:Int)+1)))) hI U
  refine Vv ⟨_,U,Vv (hQ _ _ s.toks ?_ ⟨g1,?_,?_⟩ fun b o' hb' e=>?_)⟩
  ·rw[V7,hj]
   rfl
  ·rw[V9 _ _ (Xl hne)]
   exact hS
  ·exact⟨ot,by rw[V9 _ _ (Xl hnt)];exact hot,hct,nt,hdt⟩
  ·rw[V9 _ _ (fun z:I=b=>hb' (by rw[z];exact List.mem_singleton.mpr U))]
   exact e
 done:=fun s Q E st hQ=>by
  obtain⟨hI,hS,hT⟩:=st
  have lp:pl.length=es.size:=by rw[hp.length_eq,XD]
  have hT0:s.TypeIs (.ref I) "set_iterator":=⟨_,hI,U⟩
  obtain⟨ot,hot,hct,nt,hdt⟩:=id hT
  unfold Y8
  refine Vr (ZK (Yd (name:=Z1 "__next__") hT0 bL (Xo bL hT0 fJ ?_ (fX _))))
  refine (show VG _ _ (fieldsOf (.ref I) >>= _) _ _ s from Vr (wpAny_fieldsOf hI U ?_))
  refine (show VG _ _ (setEntries S >>= _) _ _ s from Vr (aaq hS hd hf ?_))
  rw[if_neg (by simp)]
  refine (show VG _ _ (ab8 (.ref T) >>= _) _ _ s from Vr (aav hot hdt ?_))
  have hpl:(dJ pl).toArray[(es.size:Int).toNat]? = none:=by
   rw[Wg,abg]
   show (pl.map fun j:Nat=>WM (j:Int))[es.size]? = _
   rw[V7,Za (by lia)]
   rfl
  dsimp only
  rw[hpl]
  dsimp only
  refine Vr (XF hI U (by simp) ?_)
  have g1:=Wh (XH (·.setIfInBounds 0 (WM 0))) hI U
  refine Vr (XF g1 U (by simp) ?_)
  refine (show VG _ _ (newExc (.type "StopIteration") [] >>= _) _ _ _ from Vr ?_)
  simp only[newExc,newTuple]
  refine Vr (Wv ?_ (by size_fits))
  refine Vr (m:=ZZ _ _) (Yp (a:=Xk) (by first | rfl | (simp only[ZZ];rfl)) (Wv ?_ (by size_fits)))
  simp only[raiseNew]
  refine Vr (wpAny_handled ?_)
  first | rw[show A.in1.handled=none from hh] | rw[hh]
  refine Vr (Vv (wpAny_throw ?_))
  refine Vr (Z6 (T:="StopIteration") (b:=true) ⟨_,VN _ U,U⟩ isSubtype_stop (Vv ?_))
  refine hQ _ s.toks fun b o' hb' e=>?_
  have hbI:b≠I:=fun z=>hb' (by rw[z];exact List.mem_singleton.mpr U)
  exact ((((Xr ..).trans (Xr ..)).extBut.push _).push _) b o' hbI e
 self:=fun i s Q E st hQ=>uA st.1 hQ
end
section
variable {P:V4}{w:Wn}{A:Wm}{E:Value->Vt->Prop}{s:Vt}{S:Addr}
def K1 {Q:Bool->Vt->Prop} (hT:s.TypeIs (.ref S) "set") (h:Q false s):VG (VM P w) A (acD (.ref S)) Q E s:=by
 unfold acD;refine Vr (aak hT PySem.F.slot_set_len.lookup ?_)
 generalize hid:("set.__len__" : String)=id0
 wp_delta
 rw[show splitId id0=some ("set","__len__") from by subst hid;decide+kernel]
 subst hid
 refine Vr (Z6 (T:="set") (b:=true) hT (by rw[YJ];kernel_rfl) ?_)
 refine acr (fun z=>absurd z (by decide)) (fun _=>acr (fun _=>?_) (fun z=>absurd (by decide+kernel) z))
 exact Vr (abP hT (Vv h))
def JP {b:Bool}{ks:D6}{Q:DM}(hh:A.handled=none)(hb:b=Ky w)(hS:oE P w b s.heap S ks)(hz:ks.length<=sizeLine)
  (h:∀ (I:Addr) (fp:D0) (n:Nat) (vs:DV) (ns:D6) (St:Nat->WD->Prop) (s':Vt),Walks P w A I fp [I] n (fun i v=>vs[i]? = some v) St->St 0 s'.heap->Xa vs ns->ns.Perm ks->vs.length=n->(∀ x∈fp,x=S∨s.heap.objs.size<=x)->s.heap.objs.size<=I →
   s'.os=s.os->s'.gens=s.gens->(∀ b o,s.heap.get? b=some o->s'.heap.get? b=some o)->Q (.ref I) s'):VG (VM P w) A (abi (.ref S)) Q E s:=by
 obtain⟨o,es,ep,t,ho,hx,hd,hel,hf,tk,ns,hi,hp⟩:=hS
 have hT:s.TypeIs (.ref S) "set":=⟨o,ho,hx.1⟩
 have hlt:S < s.heap.objs.size:=VL ho
 refine abQ hT PySem.F.slot_set_iter (Xo PySem.F.slot_set_iter hT qU ?_ (PySem.F.args_set_iter_1 _))
 refine (show VG _ _ (Builtin.Frozenset.sizeOf S >>= _) _ _ s from ?_)
 unfold Builtin.Frozenset.sizeOf
 refine Vr (Vr (aaq ho hd hf (Vv ?_)))
 unfold setDrawn setsByText
 refine Vr (Vr (Zb ho hd hf ?_))
 dsimp only
 refine Vr (Vr (YH (Vv (Vv ?_))))
 have hps:t.place.size=es.size:=by
  simp only[SetTable.fits,Xp,beq_iff_eq] at hf
  exact hf.1
 have hlen:(es.toList.map (·.2)).length=es.size:=by rw[Vs,Wz]
 have hez:es.size<=sizeLine:=by
  have h1:=hi.length
  have h2:=hp.length_eq
  lia
 have start:∀ (vs:DV) (ns':D6) (St:Nat->WD->Prop),Walks P w A s.heap.objs.size [s.heap.objs.size,S] [s.heap.objs.size] es.size (fun i v=>vs[i]? = some v) St->(∀ h,SIt h s.heap.objs.size S (.int (0:Nat) 0) 0 es.size ep->h.get? S=some o->St 0 h) →
   Xa vs ns'->ns'.Perm ks->vs.length=es.size->VG (VM P w) A.in1 (do
    let first ← pure (WM 0)
    let e ← setEpoch S
    let r ← newFields "set_iterator" [first,WM 0,VV S,WM (es.size:Int),WM (e:Int)]
    ret r) (fun fin s'=>∃ v,fin=Fin.done (Flow.ret v)/\∃ T' r,s'.TypeIs v T'/\aax (YD T') (Z1 "__next__")=pure (some r)/\Q v s') E s:=fun vs ns' St W hst hi' hp' hl'=>by
  refine Vr (Vv (Vr (wpAny_setEpoch_of ho hd hf (Vr (Wv (Vv ?_))))))
  have g:(s.heap.push { cls:=.type "set_iterator",data:=.fields [WM 0,WM 0,VV S,WM (es.size:Int),WM (ep:Int)].toArray }).get? s.heap.objs.size=some { cls:=.type "set_iterator",data:=.fields [WM 0,WM 0,VV S,WM (es.size:Int),WM (ep:Int)].toArray }:=VN _ U
  refine⟨_,U,"set_iterator",_,⟨_,g,U⟩,bL.lookup,?_⟩
  refine h s.heap.objs.size [s.heap.objs.size,S] es.size vs ns' St _ W (hst _ g (Vu _ ho)) hi' hp' hl' (fun x hx'=>?_) (Vw _) U U fun b' o' e=>Vu _ e
  rcases List.mem_cons.mp hx' with rfl | hx'
  ·exact .inr (Vw _)
  ·exact .inl (List.mem_singleton.mp hx')
 have hne:S≠s.heap.objs.size:=V5 hlt
 cases hB:w.params.followText "set-order" with
 | true =>
  refine aa7 (decide_eq_false (show ¬ (!w.params.followText "set-order" && (!t.plain && decide (es.size > 1)))=true by rw[hB];exact Vy)) ?_
  have pp:=qT (w.params.setOrder S ep) es
  obtain⟨ms,h1,h2⟩:=gm (pp.symm.map (·.2)) hi
  exact start _ ms _ (Iw hh hne hB hd hf) (fun h' q1 q2=>⟨⟨0,0,q1⟩,q2⟩) h1 (h2.trans hp) (by rw[Vs,pp.length_eq,Wz])
 | false =>
  have hled:t.led=true:=by
   rw[tk.led,hb]
   unfold Ky
   rw[hB]
   rfl
  cases hD:(!t.plain && decide (es.size > 1)) with
  | false =>
   refine aa7 (decide_eq_false (show ¬ (!w.params.followText "set-order" && (!t.plain && decide (es.size > 1)))=true by rw[hD,Zw];exact Vy)) ?_
   have hpl:t.plain=true∨es.size<=1:=by
    rw[Bool.and_eq_false_iff] at hD
    rcases hD with q | q
    ·exact .inl (by simpa using q)
    ·exact .inr (by have:=of_decide_eq_false q;lia)
   have hris:Ris t.place:=by
    rcases hpl with q | q
    ·exact tk.ris q
    ·unfold Ris
     have hl1:t.place.toList.length<=1:=by rw[Wz];lia
     generalize t.place.toList=l at hl1
     match l,hl1 with
     | [],_=>exact aaM
     | [x],_=>exact List.pairwise_singleton _ _
   exact start _ ns _ (Ey hh hne hB hd hf hled hpl hris) (fun h' q1 q2=>⟨⟨0,q1⟩,q2⟩) hi hp hlen
  | true =>
   refine wpAny_ite_true (decide_eq_true (show (!w.params.followText "set-order" && (!t.plain && decide (es.size > 1)))=true by rw[hD,hB];rfl)) ?_
   refine Vr (wH es.size (Xb es.size) s XD fun pl d pp=>?_)
   simp only[newTuple]
   have lp:pl.length=es.size:=by rw[pp.length_eq,XD]
   refine Vr (Wv ?_ (show (dJ pl).toArray.size<=sizeLine by unfold dJ;rw[V1,Vs];lia))
   have sz1:(s.heap.push { cls:=.type "tuple",data:=.seq (dJ pl).toArray }).objs.size=s.heap.objs.size+1:=Xy _ _
   have gT:(s.heap.push { cls:=.type "tuple",data:=.seq (dJ pl).toArray }).get? s.heap.objs.size=some { cls:=.type "tuple",data:=.seq (dJ pl).toArray }:=VN _ U
   have ho1:(s.heap.push { cls:=.type "tuple",data:=.seq (dJ pl).toArray }).get? S=some o:=Vu _ ho
   refine Vr (wpAny_setEpoch_of (o:=o) (es:=es) (t:=t) ho1 hd hf (Vr (Wv (Vv ?_))))
   have g:((s.heap.push { cls:=.type "tuple",data:=.seq (dJ pl).toArray }).push { cls:=.type "set_iterator",data:=.fields [VV s.heap.objs.size,WM 0,VV S,WM (es.size:Int),WM (ep:Int)].toArray }).get? (s.heap.push { cls:=.type "tuple",data:=.seq (dJ pl).toArray }).objs.size=some { cls:=.type "set_iterator",data:=.fields [VV s.heap.objs.size,WM 0,VV S,WM (es.size:Int),WM (ep:Int)].toArray }:=VN _ U
   refine⟨_,U,"set_iterator",_,⟨_,g,U⟩,bL.lookup,?_⟩
   have hne1:S≠(s.heap.push { cls:=.type "tuple",data:=.seq (dJ pl).toArray }).objs.size:=by
    rw[sz1]
    exact V5 (WY hlt)
   have hne2:s.heap.objs.size≠(s.heap.push { cls:=.type "tuple",data:=.seq (dJ pl).toArray }).objs.size:=by
    rw[sz1]
    exact V5 (Yt _)
   have hv:(pl.map fun j=>(es.getD j (0,.none)).2).Perm (es.toList.map (·.2)):=by
    refine (pp.map _).trans ?_
    have e:(Xb es.size).map (fun j=>(es.getD j (0,Xk)).2)=es.toList.map (·.2):=by
     apply List.ext_getElem?
     intro i
     have ea:es.toList[i]? = es[i]?:=W6
     rw[V7,V7,ea]
     by_cases hi':i < es.size
     ·rw[abC hi',We hi']
      simp [Yn,We hi']
     ·have er:(Xb es.size)[i]? = none:=Za (by rw[XD];lia)
      rw[er,Y0 (by lia)]
      rfl
    rw[e]
   have le1:s.heap.objs.size<=(s.heap.push { cls:=.type "tuple",data:=.seq (dJ pl).toArray }).objs.size:=by
    rw[sz1]
    exact Xq _
   obtain⟨ms,h1,h2⟩:=gm hv.symm hi
   refine h _ [(s.heap.push { cls:=.type "tuple",data:=.seq (dJ pl).toArray }).objs.size,S,s.heap.objs.size] es.size _ ms _ _ (Ew (T:=s.heap.objs.size) hh hne1 hne2 hd hf pp) ⟨g,Vu _ ho1,_,Vu _ gT,U,0,U⟩ h1 (h2.trans hp) (by rw[Vs];exact lp) (fun x hx'=>?_) le1 U U fun b' o' e=>Vu _ (Vu _ e)
   rcases List.mem_cons.mp hx' with rfl | hx'
   ·exact .inr le1
   ·rcases List.mem_cons.mp hx' with rfl | hx'
    ·exact .inl U
    ·exact .inr (by rw[List.mem_singleton.mp hx'];exact Vw _)
def zQ {ks:D6}{Q:DV->Vt->Prop}(hh:A.handled=none)(hS:oE P w (Ky w) s.heap S ks)(hz:ks.length<=sizeLine)
  (h:∀ (vs:DV) (ns:D6) (s':Vt),Xa vs ns->ns.Perm ks->s.heap.objs.size<=s'.heap.objs.size->s'.os=s.os->s'.gens=s.gens->(∀ b o,s.heap.get? b=some o->s'.heap.get? b=some o)->Q vs s'):VG (VM P w) A (collect (.ref S)) Q E s:=by
 obtain⟨o,es,ep,t,ho,hx,_⟩:=id hS
 have hlt:S < s.heap.objs.size:=VL ho
 have hSl:s.heap.objs.size≠S:=YT hlt
 unfold collect
 refine Vr (wpAny_runValue (XJ PySem.F.entry_proto_collect ?_))
 rw[XS PySem.F.plain_proto_collect _]
 refine (show VG _ A.in1 (newList [] >>= fun l=>again (.builtin "list.__iadd__" ⟨[l,.ref S],[]⟩)) _ _ s from Vr (Wv ?_))
 refine Vv ⟨YC PySem.F.plain_list_iadd _,XJ PySem.F.entry_list_iadd ?_⟩
 rw[XS PySem.F.plain_list_iadd _]
 generalize hN:s.heap.push { cls:=.type "list",data:=.seq ([]:DV).toArray }=h1
 have gL:h1.get? s.heap.objs.size=some { cls:=.type "list",data:=.seq ([]:DV).toArray }:=by rw[← hN];exact VN _ U
 have k1:∀ b o,s.heap.get? b=some o->h1.get? b=some o:=fun b o e=>by rw[← hN];exact Vu _ e
 have sz1:h1.objs.size=s.heap.objs.size+1:=by rw[← hN];exact Xy _ _
 have hT:Shared.TypeIs { s with heap:=h1 } (.ref S) "set":=⟨o,k1 _ _ ho,hx.1⟩
 refine (show VG _ A.in1 (Zf (.ref s.heap.objs.size) (.ref S) (.ref s.heap.objs.size)) _ _ { s with heap:=h1 } from ?_)
 unfold Zf;refine Vr (abP hT ?_)
 have q1:Builtin.List.listSameRef (.ref s.heap.objs.size) (.ref S)=false:=by simp [Builtin.List.listSameRef,hSl]
 have q2:(YD "set" == YD "list")=false:=by decide
 have q3:(YD "set" == YD "tuple")=false:=by decide
 simp only[q1,q2,q3,Bool.or_false,abO,if_false]
 refine Vr (JP (s:={ s with heap:=h1 }) hh U (nT (fun o e=>k1 S o e) hS) hz fun I fp n vs ns St s2 W st hi hp hl hfp hI os2 gs2 k2=>?_)
 have gL2:=k2 _ _ gL
 have hTs:s2.TypeIs (.ref S) "set":=⟨o,k2 _ _ (k1 _ _ ho),hx.1⟩
 have hLf:s.heap.objs.size ∉ fp:=fun z=>by
  rcases hfp _ z with q | q
  ·exact hSl q
  ·have q':h1.objs.size<=s.heap.objs.size:=q
   rw[sz1] at q'
   exact absurd q' (Nat.not_succ_le_self _)
 have hz':n<=sizeLine:=by
  have e1:=hi.length
  have e2:=hp.length_eq
  lia
 have key:∀ (R:aaB->Vt->Prop),(∀ (s':Vt) (c':Nat),s'.heap.get? s.heap.objs.size=some { cls:=.type "list",dict:=none,data:=.seq vs.toArray c',slots:=#[] }->s'.os=s.os->s'.gens=s.gens->(∀ b o,s.heap.get? b=some o->s'.heap.get? b=some o)->R (.ok (.ret (.ref s.heap.objs.size))) s') →
   ∀ (h':WD) (c tk:Nat),St 0 h'->(∀ b o,b≠s.heap.objs.size->s2.heap.get? b=some o->h'.get? b=some o)->h'.get? s.heap.objs.size=some { cls:=.type "list",data:=.seq #[] c } →
   Xi (VM P w) A (.builtin "list.extend.loop" ⟨[.ref s.heap.objs.size,.ref I,.ref s.heap.objs.size],[]⟩) R { s2 with heap:=h',toks:=tk }:=fun R hR h' c tk st' kp gl=>by
  refine codeAny_extend_loopS W.toS hz' s.heap.objs.size hLf _ n 0 _ #[] c U (Wr _) st' gl (ItemsOf.nil _) fun s' acc' c' hm gL' hacc=>?_
  have eacc:acc'=vs.toArray:=by
   apply Array.ext_getElem?
   intro j
   have ev:vs.toArray[j]? = vs[j]?:=abg
   rw[ev]
   by_cases hj:j < acc'.size
   ·have e:=hacc.2 j acc'[j] (We hj)
    rw[We hj]
    exact e.symm
   ·rw[Y0 (by lia),Za (by have:=hacc.1;lia)]
  rw[eacc] at gL'
  refine hR s' c' gL' (hm.os.trans os2) (hm.gens.trans gs2) fun b o' e=>?_
  have hbl:b < s.heap.objs.size:=VL e
  refine hm.heap b o' ?_ (kp b o' (V5 hbl) (k2 _ _ (k1 _ _ e)))
  rw[Y5,XN]
  rintro (z | z)
  ·exact absurd z (V5 hbl)
  ·have q:h1.objs.size<=I:=hI
   rw[sz1,← z] at q
   exact absurd (Vx hbl (Zd q)) (WK _)
 refine Vr (Xe (K1 hTs ?_))
 have fin:∀ (s':Vt) (c':Nat),s'.heap.get? s.heap.objs.size=some { cls:=.type "list",dict:=none,data:=.seq vs.toArray c',slots:=#[] }->s'.os=s.os->s'.gens=s.gens->(∀ b o,s.heap.get? b=some o->s'.heap.get? b=some o) →
   VG (VM P w) A (load s.heap.objs.size >>= fun o=>match o.data with | .seq xs _=>pure xs.toList | _=>unsupported "internal:collect") Q E s':=fun s' c' g e1 e2 e3=>Vr (wpAny_load g (Vv (h vs ns s' hi hp (Xz (VL g)) e1 e2 e3)))
 refine acr (fun _=>?_) (fun _=>Vv ⟨YC PySem.F.plain_extend_loop _,key _ (fun s' c' g e1 e2 e3=>fin s' c' g e1 e2 e3) s2.heap _ s2.toks st (fun b o _ e=>e) gL2⟩)
 refine Vr (aaw (Vr (show VG _ _ (updateSeq s.heap.objs.size (·.push .none) >>= fun _=>updateSeq s.heap.objs.size (·.pop)) _ _ _ from ?_)))
 refine Vr (aaj gL2 U ?_)
 have g3:=Wh (YS (·.push Xk)) gL2 U
 refine aaj (hz:=by seq_fits) g3 U ?_
 have g4:=Wh (YS (·.pop)) g3 U
 have oth:∀ b o',b≠s.heap.objs.size->s2.heap.get? b=some o'->((s2.heap.update s.heap.objs.size (YS (·.push Xk))).update s.heap.objs.size (YS (·.pop))).get? b=some o':=fun b o' hb e=>by
  rw[V9 _ _ (Xl hb),V9 _ _ (Xl hb)]
  exact e
 exact Vv ⟨YC PySem.F.plain_extend_loop _,key _ (fun s' c' g e1 e2 e3=>fin s' c' g e1 e2 e3) _ _ s2.toks (W.frame 0 _ _ st fun b hb o' e=>oth b o' (fun z=>hLf (by rw[← z];exact hb)) e) oth g4⟩
end
section
variable {P:V4}{w:Wn}{A:Wm}{E:Value->Vt->Prop}{s:Vt}{S:Addr}
def En {ks:D6}{Q:DM}(hh:A.handled=none)(hS:oE P w (Ky w) s.heap S ks)(h64:ks.length < 64)
  (h:∀ (l:Addr) (vs:DV) (ns:D6) (c:Nat) (s':Vt),Xa vs ns->ns.Perm ks->ns.Pairwise (·<=·)->s'.heap.get? l=some { cls:=.type "list",data:=.seq vs.toArray c }->s.heap.objs.size<=l->s'.os=s.os->s'.gens=s.gens →
   (∀ b o,s.heap.get? b=some o->s'.heap.get? b=some o)->Q (.ref l) s'):VG (VM P w) A (call (.builtin "sorted") [.ref S]) Q E s:=by
 refine aaI kind_sorted plain_sorted entry_sorted (args_sorted1 _) ?_
 unfold YZ.«sorted»;refine Vr (m:=checkCount "sorted" 1 1 _) (Vv ?_)
 refine Vr (zQ hh hS (Xz (Vx h64 (by decide))) fun vs ns s1 hi hp hsz os1 gs1 k1=>?_)
 have hl:vs.length < 64:=by
  have e1:=hi.length
  have e2:=hp.length_eq
  lia
 refine Vr (abD ?_)
 have g1:(s1.heap.push (aan "list" vs.toArray 0)).get? s1.heap.objs.size=some (aan "list" vs.toArray 0):=VN _ U
 refine Vr (Xe (Xo slot_list_sort ⟨_,g1,U⟩ acu (list_sort_tree g1 hi hl fun out ns' a1 a2 a3=>⟨_,U,?_⟩) (args_list_sort _)))
 obtain⟨c,hc⟩:=sortedHeap_at (out:=out) g1
 refine Vv ⟨_,U,h s1.heap.objs.size out.toList ns' c _ a1 (a2.trans hp) a3 ?_ hsz os1 gs1 fun b o e=>?_⟩
 ·exact hc
 ·have e1:=k1 b o e
  have lt:=VL e1
  rw[sortedHeap_old (V5 lt) (by rw[Xy];exact WY lt)]
  exact Vu _ e1
end
def ddI (ns:D6):D6:=firstMet (fun i=>ns.getD i 0) ns.length
def Inv.Km {X:Cx}{ZY:DI}{σ:St}{H:Hp}{s s':Vt}{l:Addr}{ys:List V}{its:DV}{c:Nat}(I:Inv X ZY σ H s)(ho:s'.os=s.os)(hg:s'.gens=s.gens)(k:∀ b u,s.heap.get? b=some u->s'.heap.get? b=some u)
  (hl:s.heap.objs.size<=l) (hv:Vals ys its) (hz:ys.length<=sizeLine) (g:s'.heap.get? l=some { cls:=.type "list",data:=.seq its.toArray c }):Inv X ZY σ (upd H l (.lst ys)) s':=by
 have J:=I.laid (t':=s.toks) (o:=.lst ys) k hl ⟨hz,its,c,hv,g⟩
 exact⟨J.ok,ho.trans I.os,by rw[hg];exact I.bare,J.base,J.loc,J.cell,J.free,J.freeC,J.pin,J.hok,J.len⟩
def tSS (K:V3)(te:TA):TE:=fun σ H Q=>te σ H fun xs H1=>∃ (a:Addr) (ns:D6),xs=[.ref a]/\SqL K H1 a (ns.map V.int)/\ns.length<=4000/\(ddI ns).length < 64/\∀ ms:D6,ms.Perm (ddI ns)->ms.Pairwise (·<=·)->∀ l,H1 l=none->Q (.ref l) (upd H1 l (.lst (ms.map V.int)))
def o4 {X:Cx} {e:Expr} {te:TA} {p1 p2 q1 q2:ZD} (hc:X.calm=true) (hg1:Gl X "sorted") (hm1:X.mg "sorted" = none) (hg2:Gl X "set") (hm2:X.mg "set" = none) (ha:PA X [e] te)
  (hb1:Wy "sorted" = some (.builtin "sorted"):=by decide+kernel) (hb2:Wy "set" = some (.type "set"):=by decide+kernel)
  (he1:Wc [.Call (.Name "set" p2) [e] [] q2] X.env=(false,Xv (.Call (.Name "set" p2) [e] [] q2) X.env)::Wc [] X.env:=by rfl) (hp1:(XX q1 (Wc [] X.env)).any (·.1)=false:=by rfl)
  (he2:Wc [e] X.env=(false,Xv e X.env)::Wc [] X.env:=by rfl) (hp2:(XX q2 (Wc [] X.env)).any (·.1)=false:=by rfl) :
  PE X (.Call (.Name "sorted" p1) [.Call (.Name "set" p2) [e] [] q2] [] q1) (tSS X.K te):=by
 intro ZY s σ H Q I h
 refine Xj (kJ I hg1 hm1 hb1 ?_ (by decide) (by decide))
 refine acd ?_ he1 hp1
 rw[he1]
 refine (show VG _ _ (spliced ((false,Xv (.Call (.Name "set" p2) [e] [] q2) X.env)::XX q1 (Wc [] X.env))) _ _ s from aaG ?_)
 refine Xj (kJ I hg2 hm2 hb2 ?_ (by decide) (by decide))
 refine Ym (thn (ha q2 ZY s σ H _ I h) fun us s1 ⟨vs,H1,I1,r1,q⟩=>?_) he2 hp2
 obtain⟨a,ns,rfl,hq,hl,h64,hQ⟩:=q
 obtain⟨u,rfl,ru⟩:=vals1 r1
 cases ru
 obtain⟨its,rv,pl,_⟩:=I1.list hq
 have hi:Xa its ns:=intsAre_of rv
 have hsz:its.toArray.size=ns.length:=by rw[V1];exact hi.length
 refine zj (I1.ok.hd hc) pl.isList hi (by rw[hsz];exact ZW (ace hl) (by decide)) fun h' tk hS hk=>?_
 rw[hsz] at hS
 have I2:Inv X ZY σ H1 { s1 with heap:=h',toks:=tk }:=I1.kept (t':=tk) fun b o e=>hk b o (VL e) e
 refine (show VG _ _ (spliced []) _ _ _ from aaN ?_)
 refine En (I1.ok.hd hc) hS h64 fun l vs ms c s3 hi3 hp3 hw3 g3 hl3 os3 gs3 k3=>?_
 have hml:(ms.map V.int).length<=sizeLine:=by
  rw[Vs,hp3.length_eq]
  exact Xz (Vx h64 (by decide))
 exact⟨.ref l,_,I2.Km os3 gs3 k3 hl3 (iM hi3) hml g3,U,hQ ms hp3 hw3 l (I2.hok.fresh hl3)⟩
section
variable {X:Cx}{ZY:DI}{s:Vt}{σ:St}{H:Hp}
end
section
variable {X:Cx}{k:Nat}
end
section
variable {X:Cx}{k:Nat}
end
def mxD (d:Int):D6->Int
 | []=>d
 | a::r=>r.foldl max a
theorem uT {n:Int}:∀ {l:DV} {ns:D6} {j:Nat},Xa l ns->ns[j]? = some n->∃ t,l[j]? = some (.int n t)
 | _,_,j,.nil,h=>by simp at h
 | _,_,0,.cons _ _ _,h=>by
  cases (show some _=some n from h)
  exact⟨_,U⟩
 | _,_,j+1,.cons _ _ r,h=>by
  obtain⟨t,e⟩:=uT (j:=j) r (by simpa using h)
  exact⟨t,by simpa using e⟩
def dkw (dk:DF):DH:=dk.toList.map fun d=>(("default" : Wb),Ys d.1 d.2)
section
variable {prog:V4}{w:Wn}{A:Wm}{R:aaB->Vt->Prop}{E:DM}{s:Vt}
def GJ {it l S:Addr}{items:Array Value}{ns:D6}(hh:A.handled=none)(hi:Xa items.toList ns)(hne:l≠it)(hS1:S≠it)(hS2:S≠l)(kw:DH) :
  ∀ (k j:Nat) (s:Vt) (b:Int) (t:Tok) (c:Nat),ns.length - j=k->j<=ns.length->s.heap.IsListIter it l j->s.heap.IsList l items →
   s.heap.get? S=some { cls:=.type "list",dict:=none,data:=.seq #[.int b t,.int b t] c,slots:=#[] } →
   (∀ t' h' tk,(∀ a o,a≠it->a≠S->s.heap.get? a=some o->h'.get? a=some o)->R (.ok (.ret (.int ((ns.drop j).foldl max b) t'))) { s with heap:=h',toks:=tk }) →
   Xi (VM prog w) A (.builtin "max.loop" ⟨[.ref it,.none,.ref S],kw⟩) R s:=by
 have W:=abK (prog:=prog) (w:=w) (A:=A.in1) hh it l hne items
 have hname:(toString "max"++toString ".loop" : String) = "max.loop":=by decide
 have hsz:items.size=ns.length:=by rw[← Wz];exact hi.length
 intro k
 induction k with
 | zero =>
  intro j s b t c hk hj h1 h2 hS hR
  refine XJ acj ?_;rw[XS YM _]
  show VG _ A.in1 (ab8 (.ref S) >>= _) _ _ s;refine Vr (aav hS U ?_)
  have ej:j=items.size:=by lia
  show VG _ A.in1 (tryCatch (Y8 (.ref it)) _ >>= _) _ _ s;refine Vr (aau (W.done s _ _ (by rw[← ej];exact⟨h1,h2⟩) fun h' tk hm=>?_))
  have hS':=hm S _ (by simpa using hS1) hS
  show VG _ A.in1 (updateSeq S (fun _=>#[]) >>= _) _ _ _;refine Vr (aaj hS' U (Vr (ack (Vv ?_))))
  rw[List.drop_of_length_le (by lia)] at hR
  exact hR t _ tk fun a o ha hb e=>(V9 _ _ (Xl hb)).trans (hm a o (by simpa using ha) e)
 | succ k ih =>
  intro j s b t c hk hj h1 h2 hS hR
  refine XJ acj ?_;rw[XS YM _]
  show VG _ A.in1 (ab8 (.ref S) >>= _) _ _ s;refine Vr (aav hS U ?_)
  have hlt:j < ns.length:=by lia
  obtain⟨u,hu⟩:=uT hi (Vz hlt)
  have ed:ns.drop j=ns[j]::ns.drop (j+1):=ZF hlt
  show VG _ A.in1 (tryCatch (Y8 (.ref it)) _ >>= _) _ _ s;refine Vr (aau (W.item j s _ _ (by lia) ⟨h1,h2⟩ fun v h' tk hP st hm=>?_))
  obtain⟨g1,g2⟩:=st
  have ev:v = .int ns[j] u:=by
   have e:items[j]? = some v:=hP
   rw[← W6,hu] at e
   exact (Wo e).symm
  subst ev
  have hS':=hm S _ (by simpa using hS1) hS
  show VG _ A.in1 (tryCatch (ZP [Ys ns[j] u,Ys ns[j] u] (richCompare .Gt (.int ns[j] u) (.int b t) >>= _)) _ >>= _) _ _ _
  refine Vr (aau (Xe (Vr ((CmpOf.ints_gt (P:=fun i v=>∃ t,v = .int (if i=0 then ns[j] else b) t) (fun i=>if i=0 then ns[j] else b) (fun _ _ h=>h)) 0 1 _ _ _ _ _ ⟨u,U⟩ ⟨t,U⟩ ?_))))
  refine Vr (Xe (X4 (Vr (ack (Vv ?_)))))
  show VG _ A.in1 (if decide (ns[j] > b)=true then _ else _) _ _ _
  by_cases hb:ns[j] > b
  ·rw[if_pos (decide_eq_true hb)]
   refine Vr (aaj hS' U (Vr (ack ?_)))
   rw[hname]
   refine Vv ⟨YC YM _,ih (j+1) _ ns[j] u _ (by lia) hlt ?_ ?_ (Wh _ hS' U) fun t' h2 tk2 k2=>?_⟩
   ·exact g1.at fun o e=>(V9 _ _ hS1).trans e
   ·exact g2.at fun o e=>(V9 _ _ hS2).trans e
   ·have q:=hR t' h2 tk2 fun a o ha hb e=>k2 a o ha hb ((V9 _ _ (Xl hb)).trans (hm a o (by simpa using ha) e))
    rw[ed,Yy,show max b ns[j]=ns[j] by lia] at q
    exact q
  ·rw[if_neg (by simpa using hb)]
   refine Vr (ack ?_)
   rw[hname]
   refine Vv ⟨YC YM _,ih (j+1) _ b t c (by lia) hlt g1 g2 hS' fun t' h2 tk2 k2=>?_⟩
   have q:=hR t' h2 tk2 fun a o ha hb e=>k2 a o ha hb (hm a o (by simpa using ha) e)
   rw[ed,Yy,show max b ns[j]=b by lia] at q
   exact q
def DP {it l S:Addr}{items:Array Value}{ns:D6}{c:Nat}(hh:A.handled=none)(hi:Xa items.toList ns)(hne:l≠it)(hS1:S≠it)(hS2:S≠l)(dk:DF)(hd:ns=[]->dk≠none)
  (h1:s.heap.IsListIter it l 0) (h2:s.heap.IsList l items) (hS:s.heap.get? S=some { cls:=.type "list",dict:=none,data:=.seq #[] c,slots:=#[] })
  (hR:∀ t' h' tk,(∀ a o,a≠it->a≠S->s.heap.get? a=some o->h'.get? a=some o)->R (.ok (.ret (.int (mxD ((dk.map (·.1)).getD 0) ns) t'))) { s with heap:=h',toks:=tk }) :
  Xi (VM prog w) A (.builtin "max.loop" ⟨[.ref it,.none,.ref S],dkw dk⟩) R s:=by
 have W:=abK (prog:=prog) (w:=w) (A:=A.in1) hh it l hne items
 have hname:(toString "max"++toString ".loop" : String) = "max.loop":=by decide
 have hsz:items.size=ns.length:=by rw[← Wz];exact hi.length
 refine XJ acj ?_;rw[XS YM _]
 show VG _ A.in1 (ab8 (.ref S) >>= _) _ _ s;refine Vr (aav hS U ?_)
 show VG _ A.in1 (tryCatch (Y8 (.ref it)) _ >>= _) _ _ s
 cases ns with
 | nil =>
  have e0:items.size=0:=hsz
  refine Vr (aau (W.done s _ _ (by rw[e0];exact⟨h1,h2⟩) fun h' tk hm=>?_))
  cases dk with
  | none=>exact absurd U (hd U)
  | some d =>
   refine Vr (aaw ?_)
   exact Vv (hR d.2 h' tk fun a o ha hb e=>hm a o (by simpa using ha) e)
 | cons n r =>
  obtain⟨u,hu⟩:=uT (n:=n) (j:=0) hi U
  refine Vr (aau (W.item 0 s _ _ (by rw[hsz];exact Nat.succ_pos _) ⟨h1,h2⟩ fun v h' tk hP st hm=>?_))
  obtain⟨g1,g2⟩:=st
  have ev:v = .int n u:=by
   have e:items[0]? = some v:=hP
   rw[← W6,hu] at e
   exact (Wo e).symm
  subst ev
  have hS':=hm S _ (by simpa using hS1) hS
  show VG _ A.in1 (updateSeq S (fun _=>#[Ys n u,Ys n u]) >>= _) _ _ _
  refine Vr (aaj hS' U ?_)
  rw[hname]
  refine Vv ⟨YC YM _,GJ hh hi hne hS1 hS2 _ _ 1 _ n u _ U (ace (Wr _)) ?_ ?_ (Wh _ hS' U) fun t' h2 tk2 k2=>?_⟩
  ·exact g1.at fun o e=>(V9 _ _ hS1).trans e
  ·exact g2.at fun o e=>(V9 _ _ hS2).trans e
  ·exact hR t' h2 tk2 fun a o ha hb e=>k2 a o ha hb ((V9 _ _ (Xl hb)).trans (hm a o (by simpa using ha) e))
def GZ (a v:Value):aaA "max" ⟨[a],[("default",v)]⟩:=by unfold aaA;kernel_rfl
def HR (v:Value):aas "max" ["key","default"] 0 ⟨[],[("default",v)]⟩=pure [none,some v]:=by kernel_rfl
def Nh {l:Addr}{items:Array Value}{ns:D6}{Q:DM}(hh:A.handled=none)(hl:s.heap.IsList l items)(hi:Xa items.toList ns)(dk:DF)(hd:ns=[]->dk≠none)
  (h:∀ t h' tk,(∀ a o,s.heap.get? a=some o->h'.get? a=some o)->Q (.int (mxD ((dk.map (·.1)).getD 0) ns) t) { s with heap:=h',toks:=tk }) :
  VG (VM prog w) A (call (.builtin "max") [.ref l] (dkw dk)) Q E s:=by
 have ha:aaA "max" ⟨[.ref l],dkw dk⟩:=by
  cases dk with
  | none=>exact F.args_max1 _
  | some d=>exact GZ _ _
 have hb:aas "max" ["key","default"] 0 ⟨[],dkw dk⟩=pure [none,dk.map fun d=>.int d.1 d.2]:=by
  cases dk with
  | none=>rfl
  | some d=>exact HR _
 have hname:(toString "max"++toString ".loop" : String) = "max.loop":=by decide
 refine Zg (Zj F.plain_max F.entry_max ?_)
 have main:VG (VM prog w) A.in1 (YZ.«max» ⟨[.ref l],dkw dk⟩) (fun fin s'=>match fin with
   | .done f=>(match (Except.ok f:aaB) with | .ok (.ret v)=>Q v s' | .ok _=>False | .error e=>E e s')
   | .again c'=>c'.quiet=true/\Xi (VM prog w) A c' (fun r s'=>match r with | .ok (.ret v)=>Q v s' | .ok _=>False | .error e=>E e s') s') E s:=by
  show VG _ A.in1 (aas "max" ["key","default"] 0 ⟨[],dkw dk⟩ >>= _) _ _ s
  refine Vr (Yp hb (Vr (Vv ?_)))
  refine Vr (ZX hl (Vr (Wv ?_)))
  have lt:l < s.heap.objs.size:=by obtain⟨o,e,_⟩:=hl;exact VL e
  have hs1:(s.heap.push { cls:=.type "list_iterator",data:=.fields #[.ref l,.int 0 0] }).objs.size=s.heap.objs.size+1:=Xy ..
  rw[hname]
  have ek:(dk.map fun d=>Ys d.1 d.2).toList.map (fun d=>(("default" : Wb),d))=dkw dk:=by cases dk <;> rfl
  refine Vv ⟨YC YM _,?_⟩
  show Xi _ A (.builtin "max.loop" ⟨[.ref s.heap.objs.size,.none,_],(dk.map fun d=>Ys d.1 d.2).toList.map (fun d=>(("default" : Wb),d))⟩) _ _
  rw[ek]
  refine DP hh hi (V5 lt) (by rw[hs1];exact YT (Yt _)) (by rw[hs1];exact YT (WY lt)) dk hd
   ⟨_,Vu _ (VN _ U),U,U⟩ ((hl.push _).push _) (VN _ U) fun t h' tk k=>?_
  exact h t h' tk fun a o e=>k a o (V5 (VL e)) (by rw[hs1];exact V5 (WY (VL e))) (Vu _ (Vu _ e))
 simp only[Zz,F.kind_max]
 cases hsig:Manifest.signature? "max" with
 | none=>exact Vv main
 | some sig =>
  have ha':Bind.checkArgs "max" sig ⟨[.ref l],dkw dk⟩=pure ():=by simpa only [aaA,hsig] using ha
  simp only[ha']
  exact Vv main
end
section
variable {X:Cx}
inductive FN (K:V3)(xs:List V)(H:Hp)(Q:VK):Prop where
 | mk (p:Addr) (ns:D6) (z0:xs=[.ref p]) (z1:SqL K H p (ns.map V.int)) (z2:ns.length < 64) (z3:∀ ms:D6,ms.Perm ns->ms.Pairwise (·<=·)->∀ l,H l=none->Q (.ref l) (upd H l (.lst (ms.map V.int)))):FN K xs H Q
def M9 (K:V3):List V->Hp->VK->Prop:=fun xs H Q=>FN K xs H Q
def Es:gf X (.builtin "sorted") (M9 X.K):=by
 intro ZY s σ H xs us Q I r h
 obtain⟨p,ns,rfl,hq,h64,q⟩:=h
 obtain⟨u,rfl,ru⟩:=vals1 r
 cases ru
 obtain⟨its,rv,pl,hz⟩:=I.list hq
 have hi:Xa its ns:=intsAre_of rv
 refine sorted_ints pl.isList hi (by have:=hi.length;lia) fun out ns' a1 a2 a3=>?_
 obtain⟨e,he⟩:=sortedAll_at s.heap its out
 have hml:(ns'.map V.int).length<=sizeLine:=by
  rw[Vs,a2.length_eq]
  exact Xz (Vx h64 (by decide))
 exact⟨.ref _,_,I.Km U U (fun _ _=>sortedAll_old) (Xq _) (iM a1) hml he,U,q ns' a2 a3 _ (I.hok.fresh (Xq _))⟩
inductive Ly (K:V3)(xs:List V)(H:Hp)(Q:VK):Prop where
 | mk (p:Addr) (ns:D6) (z0:xs=[.ref p]) (z1:SqL K H p (ns.map V.int)) (z2:ns≠[]) (z3:Q (.int (mxD 0 ns)) H):Ly K xs H Q
def KZ (K:V3):List V->Hp->VK->Prop:=fun xs H Q=>Ly K xs H Q
def qX (hc:X.calm=true):gf X (.builtin "max") (KZ X.K):=by
 intro ZY s σ H xs us Q I r h
 obtain⟨p,ns,rfl,hq,hne,q⟩:=h
 obtain⟨u,rfl,ru⟩:=vals1 r
 cases ru
 obtain⟨its,rv,pl,hz⟩:=I.list hq
 exact Nh (I.ok.hd hc) pl.isList (show Xa its.toArray.toList ns from intsAre_of rv) none (fun e=>absurd e hne) fun t h' tk k=>⟨.int _,H,I.kept (t':=tk) k,⟨_,U⟩,q⟩
def Tq (K:V3)(d:Int)(te:TA):TE:=fun σ H Q=>te σ H fun xs H1=>∃ (p:Addr) (ns:D6),xs=[.ref p]/\SqL K H1 p (ns.map V.int)/\Q (.int (mxD d ns)) H1
def Nz {e:Expr} {te:TA} {d:Int} {j} {p pos kp cp:ZD} (hc:X.calm=true) (hg:Gl X "max") (hm:X.mg "max" = none) (ha:PA X [e] te)
  (hb:Wy "max" = some (.builtin "max"):=by decide+kernel)
  (he:XX pos (Wc [e] X.env)=(false,Xv e X.env)::XX pos (Wc [] X.env):=by rfl) (hp:(XX pos (Wc [e] X.env)).any (·.1)=false:=by rfl) :
  PE X (.Call (.Name "max" p) [e] [⟨some "default",.Constant (.int d) j cp,kp⟩] pos) (Tq X.K d te):=by
 intro ZY s σ H Q I h
 refine Xj (kJ I hg hm hb ?_ (by decide) (by decide))
 refine callWith_kw (thn (ha pos ZY s σ H _ I h) fun us s1 ⟨vs,H1,I1,r1,q⟩=>?_) he hp
 obtain⟨a,ns,rfl,hq,q⟩:=q
 obtain⟨u,rfl,ru⟩:=vals1 r1
 cases ru
 refine kws_cons (wpAny_Constant_int (kws_nil ?_))
 have I2:Inv X ZY σ H1 { s1 with toks:=s1.toks+1 }:=I1.tok _
 obtain⟨its,rv,pl,hz⟩:=I2.list hq
 exact Nh (I.ok.hd hc) pl.isList (show Xa its.toArray.toList ns from intsAre_of rv) (some (d,_)) (fun _ z=>nomatch z) fun t h' tk k=>⟨.int _,H1,I2.kept (t':=tk) k,⟨_,U⟩,q⟩
end
def G7:Manifest.owners.lookup (String.ofList ['d','e','s','r','e','v','e','r'].reverse)=some Manifest.sig_reversed:=by kernel_rfl
def dX:Slot "reversed" "__next__" "reversed.__next__" :=
 .of (owner:="reversed") (n:="__next__") (by rw[ZM,Yv];kernel_rfl) (by decide+kernel) (by decide+kernel) (by decide+kernel) (by first | exact .inl (by decide+kernel) | exact .inr (by decide+kernel)) (by rw[YJ];kernel_rfl)
def uV:Slot "reversed" "__init__" "object.__init__" :=
 .of (owner:="object") (n:="__init__") (by rw[ZM,Yv];kernel_rfl) (by decide+kernel) (by decide+kernel) (by decide+kernel) (by first | exact .inl (by decide+kernel) | exact .inr (by decide+kernel)) (by rw[YJ];kernel_rfl)
def kj:entryFor table "reversed.__next__" = some YZ.«reversed.__next__»:=entryFor_of_tree (by kernel_rfl)
def mZ (a:Value):aaA "reversed.__next__" ⟨[a],[]⟩:=by
 unfold aaA
 rw[abF (id:="reversed.__next__") (n:=['_','_','t','x','e','n','_','_']) (o:=['d','e','s','r','e','v','e','r']) (by kernel_rfl) G7]
 kernel_rfl
def mX:Slot "reversed" "__iter__" "reversed.__iter__" :=
 .of (owner:="reversed") (n:="__iter__") (by rw[ZM,Yv];kernel_rfl) (by decide+kernel) (by decide+kernel) (by decide+kernel) (by first | exact .inl (by decide+kernel) | exact .inr (by decide+kernel)) (by rw[YJ];kernel_rfl)
def sJ:entryFor table "reversed.__iter__" = some YZ.«dict_keyiterator.__iter__»:=entryFor_alias (id':="dict_keyiterator.__iter__") (by kernel_rfl) U (by decide+kernel) (by kernel_rfl)
def vy (a:Value):aaA "reversed.__iter__" ⟨[a],[]⟩:=by
 unfold aaA
 rw[abF (id:="reversed.__iter__") (n:=['_','_','r','e','t','i','_','_']) (o:=['d','e','s','r','e','v','e','r']) (by kernel_rfl) G7]
 kernel_rfl
def Du:TypeCalled "reversed" "reversed.__new__" "object.__init__" :=
 ⟨by decide+kernel,by decide+kernel,⟨_,_,F.mro_reversed⟩,F.made_reversed,by decide+kernel,by rw[YJ];kernel_rfl,uV⟩
def yG:aax (.type "tuple") "__reversed__" = pure none:=by rw[ZM,Yv];kernel_rfl
def v9:isSubtype (.type "tuple") (.type "dict")=pure false:=by rw[YJ];kernel_rfl
def RIt (h:WD)(I t:Addr)(i:Int):Prop:=h.get? I=some { cls:=.type "reversed",dict:=none,data:=.fields #[.ref t,.int i 0],slots:=#[] }
def Kq (a:Value):acC "reversed" ⟨[.type "reversed",a],[]⟩=pure (.type "reversed",[a]):=by
 unfold acC
 simp only[isType,F.sub_reversed_self,pure_bind,Bool.not_true,abO,if_false]
def KN (t:Addr)(items:Array Value)(hf:(items.size:Int) < 2 ^ 63) :
  Meets (YZ.«reversed.__new__» ⟨[.type "reversed",.ref t],[]⟩) (fun _ R s=>IsTup s.heap t items/\R (.ok (.ret (.ref s.heap.objs.size))) { s with heap:=s.heap.push { cls:=.type "reversed",data:=.fields #[.ref t,.int ((items.size:Int) - 1) 0] },toks:=s.toks+1+1 }) :=
 .of_wp fun prog w A R s h=>by
  obtain⟨ht,h⟩:=h
  unfold YZ.«reversed.__new__»
  refine Vr (Yp (Kq _) ?_)
  try dsimp only
  refine Vr (Yp (a:=()) (by first | rfl | kernel_rfl) (Vr (Yp (a:=()) (by first | rfl | kernel_rfl) ?_)))
  try dsimp only
  refine Vr (aak ht.typeIs yG ?_)
  try dsimp only
  refine (show VG _ _ ((isInstance (.ref t) (.type "dict") >>= _) >>= _) _ _ s from Vr (Vr (Z6 ht.typeIs v9 ?_)))
  rw[if_neg Vy]
  refine Vr (aak ht.typeIs slot_tuple_getitem.lookup ?_)
  dsimp only
  rw[if_pos (by decide+kernel)]
  refine Vv ?_
  rw[if_neg (by simp)]
  refine Vr (len_tuple ht hf ?_)
  refine Vr (Yp (a:=some ((items.size:Nat):Int)) U ?_)
  dsimp only
  refine Vr ?_
  refine (show VG _ _ (newObj (.type "reversed") (.fields #[.ref t,WM ((items.size:Int) - 1)])) _ _ _ from Wv ?_)
  exact Vv ⟨_,U,h⟩
section
variable {prog:V4}{w:Wn}{A:Wm}{E:DM}{s:Vt}
def Ib {t:Addr}{items:Array Value}{Q:DM}(ht:IsTup s.heap t items)(hf:(items.size:Int) < 2 ^ 63)
  (h:Q (.ref s.heap.objs.size) { s with heap:=s.heap.push { cls:=.type "reversed",data:=.fields #[.ref t,.int ((items.size:Int) - 1) 0] },toks:=s.toks+1+1 }):VG (VM prog w) A (call (.type "reversed") [.ref t]) Q E s:=by
 refine callType_new Du (by decide) (F.typeCall_reversed_1 _) (F.newCall_reversed_1 _) (fun obj=>F.args_object_init_2 obj _) F.entry_reversed_new (KN t items hf) ⟨ht,?_⟩
 exact⟨⟨_,VN _ U,U⟩,h⟩
def JS {it t:Addr}{i:Nat}{items:Array Value}{x:Value}{Q:DO->Vt->Prop}(hit:RIt s.heap it t (i:Int))(ht:IsTup s.heap t items)(hi:(i:Int) < 2 ^ 63)(hx:items[i]? = some x)
  (hQ:∀ h',RIt h' it t ((i:Int) - 1)->YX it s.heap h'->Q (some x) { s with heap:=h',toks:=s.toks+1 }):VG (VM prog w) A (Y8 (.ref it)) Q E s:=by
 have hT:s.TypeIs (.ref it) "reversed":=⟨_,hit,U⟩
 unfold Y8
 refine Vr (ZK (Yd (name:=Z1 "__next__") hT dX (Xo dX hT kj ?_ (mZ _))))
 unfold YZ.«reversed.__next__»
 refine Vr (Yp (a:=(VV it,[])) U ?_)
 dsimp only
 refine Vr (Yq hit U (x:=.ref t) U (Vr (Yq hit U (x:=.int (i:Int) 0) U ?_)))
 dsimp only
 rw[if_neg (by lia)]
 refine Vr (aak ht.typeIs slot_tuple_getitem.lookup ?_)
 rw[if_neg (by simp)]
 refine Vr (wpAny_mkInt ?_)
 have hsz:i < items.size:=(Array.getElem?_eq_some_iff.mp hx).1
 have hk:ab9 (i:Int) items.size=some i:=by
  have e0:¬ ((i:Int) < 0):=by lia
  unfold ab9
  simp only[if_neg e0]
  simp [hsz]
 refine Vr (ZK (getItem_tuple (s:={ s with toks:=s.toks+1 }) (show IsTup s.heap t items from ht) (by lia) hi hk hx ?_))
 dsimp only
 refine Vr (Yq (s:={ s with toks:=s.toks+1 }) hit U (x:=.int (i:Int) 0) U ?_)
 dsimp only
 refine Vr (XF (s:={ s with toks:=s.toks+1 }) hit U (by simp) ?_)
 refine Vv ⟨x,U,Vv (hQ _ ?_ (Xr ..))⟩
 exact Wh (XH (·.setIfInBounds 1 (WM ((i:Int) - 1)))) hit U
def O9 {it t:Addr}{Q:DO->Vt->Prop}(hh:A.handled=none)(hit:RIt s.heap it t (-1))(hQ:∀ h',Heap.ExtBut it s.heap h'->Q none { s with heap:=h' }):VG (VM prog w) A (Y8 (.ref it)) Q E s:=by
 have hT:s.TypeIs (.ref it) "reversed":=⟨_,hit,U⟩
 unfold Y8
 refine Vr (ZK (Yd (name:=Z1 "__next__") hT dX (Xo dX hT kj ?_ (mZ _))))
 unfold YZ.«reversed.__next__»
 refine Vr (Yp (a:=(VV it,[])) U ?_)
 dsimp only
 refine Vr (Yq hit U (x:=.ref t) U (Vr (Yq hit U (x:=.int (-1) 0) U ?_)))
 dsimp only
 rw[if_pos (by decide)]
 refine Vr (aaw ?_)
 refine Vr ?_
 refine (show VG _ _ (setField (.ref it) 1 (WM (-1)) >>= _) _ _ s from Vr (XF hit U (by simp) ?_))
 have g1:=Wh (XH (·.setIfInBounds 1 (WM (-1)))) hit U
 refine XF g1 U (by simp) ?_
 refine Vr ?_
 refine (show VG _ _ (newExc (.type "StopIteration") [] >>= _) _ _ _ from Vr ?_)
 simp only[newExc,newTuple]
 refine Vr (Wv ?_ (by size_fits))
 refine Vr (m:=ZZ _ _) (Yp (a:=Xk) (by first | rfl | (simp only[ZZ];rfl)) (Wv ?_ (by size_fits)))
 simp only[raiseNew]
 refine Vr (wpAny_handled ?_)
 first | rw[show A.in1.handled=none from hh] | rw[hh]
 refine Vr (Vv (wpAny_throw ?_))
 refine Vr (Z6 (T:="StopIteration") (b:=true) ⟨_,VN _ U,U⟩ isSubtype_stop (Vv ?_))
 exact hQ _ ((((Xr ..).trans (Xr ..)).extBut.push _).push _)
def Bm {it t:Addr}{i:Int}{Q:DM}(hI:RIt s.heap it t i)(h:Q (.ref it) s):VG (VM prog w) A (abi (.ref it)) Q E s:=by
 have hT:s.TypeIs (.ref it) "reversed":=⟨_,hI,U⟩
 refine abQ hT mX (Xo mX hT sJ (show VG _ _ (ret (.ref it)) _ _ s from ?_) (vy _))
 exact Vv ⟨_,U,"reversed",_,hT,dX.lookup,h⟩
end
def Itv (K:V3)(a:Addr)(n:Nat):It :=
 ⟨fun i H=>i < n/\∃ xs x,SqT K H a xs/\xs.length=n/\xs[n - 1 - i]? = some x,fun i H x H'=>H'=H/\∀ xs,SqT K H a xs->xs[n - 1 - i]? = some x,fun i _=>i=n⟩
def Kh {P:V4}{w:Wn}{K:V3}{tg:Expr}(a it:Addr)(n:Nat)(hn:(n:Int) < 2 ^ 63):Turn P w K tg (Itv K a n) [it] it (fun i h=>RIt h it a ((n:Int) - 1 - (i:Int))) where
 mem:=by simp
 obj:=fun i h st b hb=>by
  have e:b=it:=by simpa using hb
  subst e
  exact⟨_,st,fun v z=>by cases (show Data.fields _=Data.cell v from z)⟩
 keep:=fun i h h' st k=>k it (by simp) _ st
 item:=by
  intro X hP hw hK hc i ZY s σ H E I hf st hg
  subst hP hw hK
  obtain⟨hin,xs,x,hq,hlen,hx⟩:=hg
  obtain⟨its,rv,p,hz⟩:=I.tuple hq
  obtain⟨u,hu,ru⟩:=rv.get hx
  obtain⟨f0,f1,f2,f3,f4,f5⟩:=hf it (by simp)
  have e:(n:Int) - 1 - (i:Int)=((n - 1 - i:Nat):Int):=by lia
  have st':RIt s.heap it a ((n - 1 - i:Nat):Int):=by rw[← e];exact st
  refine JS st' p (by lia) (x:=u) (by simpa using hu) fun h' st2 sb=>?_
  have e2:((n - 1 - i:Nat):Int) - 1=(n:Int) - 1 - ((i+1:Nat):Int):=by lia
  rw[e2] at st2
  have I1:Inv X ZY σ H { s with heap:=h',toks:=s.toks+1 }:=I.turned (t':=s.toks+1) (fun b o hb e=>(sb.2 b hb).trans e) f0 f1 f3 f4 f5
  exact⟨u,U,Kl (s:={ s with heap:=h',toks:=s.toks+1 }) st2 U U (by decide) ⟨x,H,I1,ru,⟨U,fun ys hy=>by rw[I.vX hy hq];exact hx⟩,st2,fun b hb=>(hf b hb).1⟩⟩
 done:=by
  intro X hP hw hK hc i ZY s σ H E I hf st hg
  subst hP hw hK
  cases (show i=n from hg)
  obtain⟨f0,f1,f2,f3,f4,f5⟩:=hf it (by simp)
  have st':RIt s.heap it a (-1):=by
   have e:(n:Int) - 1 - (n:Int) = -1:=by lia
   rw[← e];exact st
  exact O9 (I.ok.hd hc) st' fun h' eb=>⟨U,I.turned (t':=s.toks) (fun b o hb e=>eb b o hb e) f0 f1 f3 f4 f5⟩
 self:=fun _ _ _ _ _ st h=>Bm st h
def Vf (K:V3)(ta:TA):TI:=fun σ H R=>ta σ H fun vs H1=>∃ a xs,vs=[.ref a]/\SqT K H1 a xs/\R (Itv K a xs.length) H1
def Sg {X:Cx} {tg:Expr} {a:Expr} {ta:TA} {p pos:ZD} (hg:Gl X "reversed") (hm:X.mg "reversed" = none) (ha:PA X [a] ta) (hs:Wc [a] X.env=[(false,Xv a X.env)]:=by rfl) :
  PI X tg (.Call (.Name "reversed" p) [a] [] pos) (Vf X.K ta):=by
 intro ZY s σ H R I h
 refine Call_ (kJ I hg hm boot_reversed (Ym (thn (ha pos ZY s σ H _ I h) fun us s1 ⟨vs,H1,I1,r1,q1⟩=>?_) hs U))
 obtain⟨c,xs,e,hx,q⟩:=q1
 subst e
 obtain⟨u1,rfl,ru1⟩:=vals1 r1
 cases ru1
 obtain⟨its,rv,tp,hz⟩:=I1.tuple hx
 have hl:=rv.length
 have hn:=uh
 have hsz:((its.toArray.size:Nat):Int) < 2 ^ 63:=by rw[V1,← hl];lia
 refine Ib tp hsz ?_
 have g:RIt (s1.heap.push { cls:=.type "reversed",data:=.fields #[.ref c,.int ((its.toArray.size:Int) - 1) 0] }) s1.heap.objs.size c ((xs.length:Int) - 1 - ((0:Nat):Int)):=by
  have e:((xs.length:Int) - 1 - ((0:Nat):Int))=(its.toArray.size:Int) - 1:=by rw[V1,← hl];lia
  rw[e]
  exact VN _ U
 refine Bm g ⟨s1.heap.objs.size,[s1.heap.objs.size],_,_,H1,U,I1.kept (t':=s1.toks+1+1) fun b o e=>Vu _ e,Kh c _ xs.length (by lia),g,fun b hb=>?_,q⟩
 have e:b=s1.heap.objs.size:=by simpa using hb
 subst e
 exact I1.Pz (Vw _) (I1.hok.fresh (Vw _))
def Ot {K:V3}{a:Addr}{xs:List V}{g:TG}{tb:TS}{D:Ends}{σ:St}{H:Hp}(Pv:Nat->St->Hp->Prop)(h0:Pv 0 σ H)(hl:∀ i σ H,i<=xs.length->Pv i σ H->SqT K H a xs)
  (hs:∀ i x σ H,i < xs.length->xs[xs.length - 1 - i]? = some x->Pv i σ H->g x σ H fun σ2 H2=>tb { D with nx:=Pv (i+1),ct:=Pv (i+1),bk:=D.nx } σ2 H2) (hd:∀ σ H,Pv xs.length σ H->D.nx σ H) :
  ∃ W:Nat->Nat->St->Hp->Prop,(∃ m,W 0 m σ H)/\∀ i m σ H,W i m σ H →
   ((Itv K a xs.length).stop i H/\D.nx σ H)∨((Itv K a xs.length).go i H/\∃ N:St->Hp->Prop,(∀ σ' H',N σ' H'->∃ m',m' < m/\W (i+1) m' σ' H')/\∀ x H',(Itv K a xs.length).yld i H x H'->g x σ H' fun σ2 H2=>tb { D with nx:=N,ct:=N,bk:=D.nx } σ2 H2):=by
 refine⟨fun i m σ H=>m=xs.length - i/\i<=xs.length/\Pv i σ H,⟨xs.length,by simp,Wr _,h0⟩,?_⟩
 rintro i m σ H ⟨rfl,hi,p⟩
 have q1:=hl i σ H hi p
 by_cases hlt:i < xs.length
 ·refine .inr ⟨⟨hlt,xs,xs[xs.length - 1 - i],q1,U,Vz (by lia)⟩,Pv (i+1),fun σ' H' p'=>⟨xs.length - (i+1),by lia,U,hlt,p'⟩,fun v H' y=>?_⟩
  obtain⟨rfl,hx⟩:=y
  exact hs i v σ _ hlt (hx xs q1) p
 ·have e:i=xs.length:=by lia
  subst e
  exact .inl ⟨U,hd σ H p⟩
section
variable {prog:V4}{w:Wn}{A:Wm}{E:DM}{s:Vt}
end
def Itn (K : V3)(a : Addr) : It :=
  ⟨fun i H => ∃ xs x, SqL K H a xs ∧ xs[i]? = some x,
   fun i H v H' => ∃ p x, H p = none ∧ v = .ref p ∧ (∀ xs, SqL K H a xs → xs[i]? = some x) ∧ H' = upd H p (.tup [.int (i : Int), x]),
   fun i H => ∃ xs, SqL K H a xs ∧ xs.length ≤ i⟩
def tnN (e it a:Addr)(i:Nat)(h:WD):Prop:=(∃ old,IsEnum h e it (i:Int) old)/\h.IsListIter it a i
def IK {P:V4}{w:Wn}{K:V3}{elts:D1}{x1}{pos:ZD}{e it a:Addr}(hne:e≠it) :
  Turn P w K (.Tuple elts x1 pos) (Itn K a) [e,it] e (tnN e it a) where
 mem:=by simp
 obj:=fun i h st c hc=>by
  obtain⟨⟨old,he⟩,⟨o,ho,_,d⟩⟩:=st
  simp only[Y5,aaU,or_false] at hc
  rcases hc with rfl | rfl
  ·exact⟨_,he,fun v z=>by cases z⟩
  ·exact⟨_,ho,fun v z=>by rw[d] at z;cases z⟩
 keep:=fun i h h' st k=>by
  obtain⟨⟨old,he⟩,j⟩:=st
  exact⟨⟨old,k e (by simp) _ he⟩,j.at fun o q=>k it (by simp) o q⟩
 item:=by
  intro X hP hw hK hc i ZY s σ H E I hf st hg
  subst hP hw hK
  obtain⟨xs,x,hx,ex⟩:=hg
  obtain⟨⟨old,he⟩,j⟩:=st
  obtain⟨its,rv,pl,_⟩:=I.list hx
  obtain⟨xu,hxu,rx⟩:=rv.get ex
  refine wpAny_pyNext_enum_item he j pl.isList (x:=xu) (by simpa using hxu) hne fun h' e1 j1 t1 z1 kp=>⟨_,U,?_⟩
  refine wpAny_letOwnedTupleGo_enum e1 fun h2 e2 b2=>?_
  have el:e < s.heap.objs.size:=VL he
  have il:it < s.heap.objs.size:=by obtain⟨o,q,_⟩:=j;exact VL q
  have I1:Inv X ZY σ (upd H s.heap.objs.size (.tup [.int (i:Int),x])) { s with heap:=s.heap.push { cls:=.type "tuple",data:=.seq #[.int i s.toks,xu] },toks:=s.toks+1 } :=
   I.laid (t':=s.toks+1) (fun _ _ q=>Vu _ q) (Vw _) ⟨by show 2<=sizeLine;decide,[.int i s.toks,xu],.cons ⟨_,U⟩ (.cons rx .nil),⟨_,VN _ U,U,_,U⟩⟩
  have ff:∀ c∈[e,it],yM X ZY (upd H s.heap.objs.size (.tup [.int (i:Int),x])) c:=fun c hc=>by
   obtain⟨f0,fr⟩:=hf c hc
   have cl:c < s.heap.objs.size:=by
    simp only[Y5,aaU,or_false] at hc
    rcases hc with rfl | rfl
    ·exact el
    ·exact il
   exact⟨by rw[aM (V5 cl)];exact f0,fr⟩
  have kk:∀ c o,c ∉ [e,it]->(s.heap.push { cls:=.type "tuple",data:=.seq #[.int i s.toks,xu] }).get? c=some o->h2.get? c=some o:=fun c o hc q=>by
   have c1:c≠e:=fun h=>hc (by simp [h])
   have c2:c≠it:=fun h=>hc (by simp [h])
   refine (b2.2 c c1).trans ?_
   rcases Heap.get?_push_cases q with⟨ec,eo⟩ | q'
   ·subst ec
    subst eo
    exact t1
   ·exact kp c o c1 c2 q'
  have I2:Inv X ZY σ (upd H s.heap.objs.size (.tup [.int (i:Int),x])) { s with heap:=h2,toks:=s.toks+1 } :=
   Inv.Hw (s:={ s with heap:=s.heap.push { cls:=.type "tuple",data:=.seq #[.int i s.toks,xu] },toks:=s.toks+1 }) (h':=h2) (t':=s.toks+1) (ch:=[e,it]) I1 kk ff
  refine⟨.ref s.heap.objs.size,_,I2,U,⟨_,x,I.fresh,U,fun zs hzs=>?_,U⟩,⟨⟨_,e2⟩,j1.at fun o q=>(b2.2 it (Xl hne)).trans q⟩,fun c hc=>(ff c hc).1⟩
  rw[I.Aq hzs hx];exact ex
 done:=by
  intro X hP hw hK hc i ZY s σ H E I hf st hg
  subst hP hw hK
  obtain⟨xs,hx,hend⟩:=hg
  obtain⟨⟨old,he⟩,j⟩:=st
  obtain⟨its,rv,pl,_⟩:=I.list hx
  have l1:=rv.length
  refine wpAny_pyNext_enum_end (I.ok.hd hc) he j pl.isList (by simp;lia) fun h' eb=>⟨U,?_⟩
  exact I.Hw (t':=s.toks) (ch:=[e,it]) (fun c o hc q=>eb c o (fun h=>hc (by simp [h])) q) hf
 self:=fun _ _ _ _ _ st h=>by
  obtain⟨⟨old,he⟩,_⟩:=st
  exact wpAny_pyIter_enum he h
def Uh (K:V3)(ta:TA):TI:=fun σ H R=>ta σ H fun vs H1=>∃ a xs,vs=[.ref a]/\H1 a=some (.lst xs)/\R (Itn K a) H1
def Om {X:Cx} {elts:D1} {x1} {tpos:ZD} {a:Expr} {ta:TA} {p pos:ZD} (hg:Gl X "enumerate") (hm:X.mg "enumerate" = none) (ha:PA X [a] ta) (hs:Wc [a] X.env=[(false,Xv a X.env)]:=by rfl) :
  PI X (.Tuple elts x1 tpos) (.Call (.Name "enumerate" p) [a] [] pos) (Uh X.K ta):=by
 intro ZY s σ H R I h
 refine Call_ (kJ I hg hm boot_enumerate (Ym (thn (ha pos ZY s σ H _ I h) fun us s1 ⟨vs,H1,I1,r1,q1⟩=>?_) hs U))
 obtain⟨c,xs,e,hx,q⟩:=q1
 subst e
 obtain⟨u1,rfl,ru1⟩:=vals1 r1
 cases ru1
 obtain⟨z,its,n,rv,ho⟩:=I1.hok c _ hx
 refine call_enumerate_1 ho fun h' e1 j1 _ kp=>?_
 have en:s1.heap.objs.size+1≠s1.heap.objs.size:=YT (Yt _)
 refine wpAny_pyIter_enum e1 ⟨_,_,_,_,H1,U,I1.kept (t':=s1.toks) kp,IK (a:=c) en,⟨⟨_,e1⟩,j1⟩,fun b hb=>?_,q⟩
 have hle:s1.heap.objs.size<=b:=by
  simp only[Y5,aaU,or_false] at hb
  rcases hb with rfl | rfl
  ·exact Xq _
  ·exact Vw _
 exact I1.Pz hle (I1.hok.fresh hle)
def JM {K:V3}{a:Addr}{xs:List V}{g:TG}{tb:TS}{D:Ends}{σ:St}{H:Hp}(Pv:Nat->St->Hp->Prop)(h0:Pv 0 σ H)(hl:∀ i σ H,i<=xs.length->Pv i σ H->SqL K H a xs)
  (hs:∀ i x p σ H,xs[i]? = some x->H p=none->Pv i σ H->g (.ref p) σ (upd H p (.tup [.int (i:Int),x])) fun σ2 H2=>tb { D with nx:=Pv (i+1),ct:=Pv (i+1),bk:=D.nx } σ2 H2) (hd:∀ σ H,Pv xs.length σ H->D.nx σ H) :
  ∃ W:Nat->Nat->St->Hp->Prop,(∃ m,W 0 m σ H)/\∀ i m σ H,W i m σ H →
   ((Itn K a).stop i H/\D.nx σ H)∨((Itn K a).go i H/\∃ N:St->Hp->Prop,(∀ σ' H',N σ' H'->∃ m',m' < m/\W (i+1) m' σ' H')/\∀ x H',(Itn K a).yld i H x H'->g x σ H' fun σ2 H2=>tb { D with nx:=N,ct:=N,bk:=D.nx } σ2 H2):=by
 refine⟨fun i m σ H=>m=xs.length - i/\i<=xs.length/\Pv i σ H,⟨xs.length,by simp,Wr _,h0⟩,?_⟩
 rintro i m σ H ⟨rfl,hi,p⟩
 have q1:=hl i σ H hi p
 by_cases hlt:i < xs.length
 ·refine .inr ⟨⟨xs,xs[i],q1,by simp [hlt]⟩,Pv (i+1),fun σ' H' p'=>⟨xs.length - (i+1),by lia,U,hlt,p'⟩,fun v H' y=>?_⟩
  obtain⟨pp,x,hp,rfl,hx,rfl⟩:=y
  exact hs i x pp σ _ (hx xs q1) hp p
 ·have e:i=xs.length:=by lia
  subst e
  exact .inl ⟨⟨xs,q1,Vw _⟩,hd σ H p⟩
section
variable {X:Cx}{k:Nat}
end
def JG {X:Cx}{tg l:Expr}{tl:TE}(K:V3)(hK:X.K=K)(hl:PE X l tl):PI X tg l (Nt K tl):=by
 subst hK
 exact dC hl
section
variable {prog:V4}{w:Wn}{A:Wm}{E:DM}{s:Vt}
end
section
variable {X:Cx}
end
theorem Bh {α β:Type}{f g:α->Option β}:∀ {l:List α},(∀ a∈l,f a=g a)->l.filterMap f=l.filterMap g
 | [],_=>rfl
 | a::l,h=>by rw[Yk,Yk,h a VP,Bh (fun b hb=>h b (VR _ hb))]
def K4 {α:Type}(l:List α):((Xb l.length).map fun k=>l.length - 1 - k).filterMap (fun i=>l[i]?)=l.reverse:=by
 rw[abN]
 have h:∀ k∈Xb l.length,((fun i=>l[i]?) ∘ fun k=>l.length - 1 - k) k=(fun k=>l.reverse[k]?) k:=fun k hk=>by
  have:=List.mem_range.mp hk
  show l[l.length - 1 - k]? = l.reverse[k]?
  rw[List.getElem?_reverse this]
 rw[Bh h]
 have e:l.length=l.reverse.length:=List.length_reverse.symm
 rw[e]
 generalize l.reverse=r
 clear h e
 induction r with
 | nil=>rfl
 | cons a r ih =>
  rw[V2,Z3,Yk]
  show a::_=a::r
  congr 1
  rw[abN]
  exact ih
def Ka (its:DV):aaR its.toArray none none (some (-1))=its.reverse.toArray:=by
 unfold aaR
 congr 1
 rw[← K4 its]
 have hb:Yz none none (some (-1)) its.toArray.size=((its.length:Int) - 1,-1,-1):=by
  unfold Yz
  simp
 rw[hb]
 have hr:sliceRange ((its.length:Int) - 1) (-1) (-1)=(Xb its.length).map fun k=>its.length - 1 - k:=by
  unfold sliceRange
  have hc:(if (-1:Int) > 0 then (if (its.length:Int) - 1 < -1 then (-1 - ((its.length:Int) - 1) + -1 - 1) / -1 else 0) else (if (its.length:Int) - 1 > -1 then ((its.length:Int) - 1 - -1 - -1 - 1) / (- -1) else 0)).toNat=its.length:=by
   rw[if_neg (by decide)]
   split
   ·rw[show (- -1:Int)=1 by decide,Int.ediv_one]
    lia
   ·lia
  dsimp only
  rw[hc]
  refine List.map_congr_left fun k hk=>?_
  have:=List.mem_range.mp hk
  lia
 dsimp only
 rw[hr]
 simp
section
variable {X:Cx}
end
def zu (elt t0 i0 t1 i1:Expr)(scope:Yg)(pos:ZD)(it acc:Value)(env:Env) :
  compTurn (.ListComp elt [⟨t0,i0,[],0⟩,⟨t1,i1,[],0⟩] scope pos) 0 it acc env=(do
   Zx i0.pos
   match ← Y8 it with
   | none=>pure (.done .next)
   | some v =>
    Yw t0 it v
    aaZ t0 env v
    let x ← Xv i1 env
    Zx i1.pos
    let x ← Ye i1 env x
    let _ ← runOwn (.compStart (.ListComp elt [⟨t0,i0,[],0⟩,⟨t1,i1,[],0⟩] scope pos) 1 (← ZP [x] (abi x)) acc env) env
    again (.compLoop (.ListComp elt [⟨t0,i0,[],0⟩,⟨t1,i1,[],0⟩] scope pos) 0 it acc env)):=by rfl
def zX (elt t0 i0 t1 i1:Expr)(scope:Yg)(pos:ZD)(it acc:Value)(env:Env) :
  compTurn (.ListComp elt [⟨t0,i0,[],0⟩,⟨t1,i1,[],0⟩] scope pos) 1 it acc env=(Zx i1.pos >>= fun _=>Y8 it >>= fun r=>match r with
   | none=>pure (.done .next)
   | some v=>Yw t1 it v >>= fun _=>aaZ t1 env v >>= fun _ =>
    (Xv elt env >>= fun x=>call (.builtin "list.append") [acc,x] >>= fun _=>pure ()) >>= fun _ =>
     again (.compLoop (.ListComp elt [⟨t0,i0,[],0⟩,⟨t1,i1,[],0⟩] scope pos) 1 it acc env)):=by rfl
section
variable {prog:V4}{w:Wn}{A:Wm}{R:aaB->Vt->Prop}{s:Vt}{elt t0 i0 t1 i1:Expr}{scope:Yg}{pos:ZD}{it acc:Value}{env:Env}
def yK (h0:Xi (VM prog w) A (.compLoop (.ListComp elt [⟨t0,i0,[],0⟩,⟨t1,i1,[],0⟩] scope pos) 1 it acc env) R s)
  (h:VG (VM prog w) A (abi it) (fun it' s'=>Xi (VM prog w) A (.compLoop (.ListComp elt [⟨t0,i0,[],0⟩,⟨t1,i1,[],0⟩] scope pos) 1 it' acc env) R s') (notedBy (VM prog w) A env fun x s'=>R (.error x) s') s) :
  Xi (VM prog w) A (.compStart (.ListComp elt [⟨t0,i0,[],0⟩,⟨t1,i1,[],0⟩] scope pos) 1 it acc env) R s:=by
 refine aa8 ?_
 show VG _ _ ((compStart (.ListComp elt [⟨t0,i0,[],0⟩,⟨t1,i1,[],0⟩] scope pos) 1 it acc env).onRaise (fun x=>do Z8 x env;Zx theWindowsPlace)) _ _ s
 refine wpAny_notedAt ?_
 unfold compStart
 show VG _ _ (ask >>= _) _ _ s
 refine Vr (YH (wpAny_ite ?_))
 split
 ·first
   | exact Vr (Vv (Vv (And.intro rfl h0)))
   | exact Vv (And.intro rfl h0)
 ·first
   | exact Vr (aaw (Vr (Yo (Vr (Ww h (fun it' s' h'=>Vv (And.intro rfl h')) fun _ _ x=>x)))))
   | (refine Vr (aaw ?_);show VG _ _ (Zx i1.pos >>= _) _ _ s;exact Vr (Yo (Vr (Ww h (fun it' s' h'=>Vv (And.intro rfl h')) fun _ _ x=>x))))
abbrev noX:DM:=fun _ _=>False
def gQ {E:DM}(x:Value)(s':Vt)(z:noX x s'):E x s':=z.elim
def xf (hs1:∀ x,Ye i1 env x=pure x)(I:Nat->Vt->Prop)
  (turn:∀ n s,I n s->VG (VM prog w) A (Y8 it) (fun r s₁=>match r with
   | none=>R (.ok .next) s₁
   | some v=>VG (VM prog w) A (Yw t0 it v) (fun _ s₀=>VG (VM prog w) A (aaZ t0 env v) (fun _ s₂=>VG (VM prog w) A (Xv i1 env) (fun x s₃=>VG (VM prog w) A (abi x) (fun it1 s₄ =>
     Xi (VM prog w) A (.compStart (.ListComp elt [⟨t0,i0,[],0⟩,⟨t1,i1,[],0⟩] scope pos) 1 it1 acc env) (fun r s'=>match r with | .ok _=>∃ m,m < n/\I m s' | .error _=>False) s₄) noX s₃) noX s₂) noX s₀) noX s₁) noX s)
  (n:Nat) (h:I n s):Xi (VM prog w) A (.compLoop (.ListComp elt [⟨t0,i0,[],0⟩,⟨t1,i1,[],0⟩] scope pos) 0 it acc env) R s:=by
 refine codeAny_loop U I (fun n s hI=>?_) n h
 refine (show VG (VM prog w) A ((compTurn (.ListComp elt [⟨t0,i0,[],0⟩,⟨t1,i1,[],0⟩] scope pos) 0 it acc env).onRaise (fun x=>do Z8 x env;acs x)) _ _ s from wpAny_noted ?_)
 rw[zu]
 refine Vr (Yo (Vr (Ww (turn n s hI) (fun r s₁ h₁=>?_) gQ)))
 cases r with
 | none=>exact Vv h₁
 | some v =>
  refine Vr (Ww h₁ (fun _ s₀ h₀=>Vr (Ww h₀ (fun _ s₂ h₂=>Vr (Ww h₂ (fun x s₃ h₃=>Vr (Yo (Vr (Yp (hs1 x) (Vr (Xe (Ww h₃ (fun it1 s₄ h₄=>?_) gQ))))))) gQ)) gQ)) gQ)
  refine Vr (wpAny_runOwn (Yl h₄ fun r s' hr=>?_))
  cases r with
  | ok f=>exact Vv ⟨U,hr⟩
  | error e=>exact hr.elim
def wV (I:Nat->Vt->Prop)
  (turn:∀ n s,I n s->VG (VM prog w) A (Y8 it) (fun r s₁=>match r with
   | none=>R (.ok .next) s₁
   | some v=>VG (VM prog w) A (Yw t1 it v) (fun _ s₀=>VG (VM prog w) A (aaZ t1 env v) (fun _ s₂=>VG (VM prog w) A (Xv elt env) (fun x s₄=>VG (VM prog w) A (call (.builtin "list.append") [acc,x]) (fun _ s₅=>∃ m,m < n/\I m s₅) noX s₄) noX s₂) noX s₀) noX s₁) noX s)
  (n:Nat) (h:I n s):Xi (VM prog w) A (.compLoop (.ListComp elt [⟨t0,i0,[],0⟩,⟨t1,i1,[],0⟩] scope pos) 1 it acc env) R s:=by
 refine codeAny_loop U I (fun n s hI=>?_) n h
 refine (show VG (VM prog w) A ((compTurn (.ListComp elt [⟨t0,i0,[],0⟩,⟨t1,i1,[],0⟩] scope pos) 1 it acc env).onRaise (fun x=>do Z8 x env;acs x)) _ _ s from wpAny_noted ?_)
 rw[zX]
 refine Vr (Yo (Vr (Ww (turn n s hI) (fun r s₁ h₁=>?_) gQ)))
 cases r with
 | none=>exact Vv h₁
 | some v =>
  refine Vr (Ww h₁ (fun _ s₀ h₀=>Vr (Ww h₀ (fun _ s₂ h₂=>Vr (Vr (Ww h₂ (fun x s₄ h₄=>Vr (Ww h₄ (fun _ s₅ h₅=>Vv (Vv ⟨U,h₅⟩)) gQ)) gQ))) gQ)) gQ)
end
def pQ (D:Addr)(σ0:St)(J:It)(g:TG)(wi1:TI)(g1:TG)(te:TE)(H1:Hp)(Q:Hp->Prop):Prop :=
 ∃ W:Nat->Nat->List V->St->Hp->Prop,(∃ m,W 0 m [] σ0 (upd H1 D (.lst []))) ∧
  ∀ i m ys σ' H',W i m ys σ' H'->((J.stop i H'/\Q H')∨(J.go i H'/\∃ N:List V->St->Hp->Prop,(∀ zs σ2 H2,N zs σ2 H2->∃ m',m' < m/\W (i+1) m' zs σ2 H2) ∧
   ∀ x H2,J.yld i H' x H2->g x σ' H2 fun σ3 H3=>wi1 σ3 H3 fun J1 H4 =>
    ∃ Y:Nat->Nat->List V->St->Hp->Prop,(∃ m,Y 0 m ys σ3 H4) ∧
     ∀ j m zs σ5 H5,Y j m zs σ5 H5->((J1.stop j H5/\N zs σ5 H5)∨(J1.go j H5/\∃ M:List V->St->Hp->Prop,(∀ zs σ6 H6,M zs σ6 H6->∃ m',m' < m/\Y (j+1) m' zs σ6 H6) ∧
      ∀ y H6,J1.yld j H5 y H6->g1 y σ5 H6 fun σ7 H7=>te σ7 H7 fun v H8=>H8 D=some (.lst zs)/\zs.length < sizeLine/\M (zs++[v]) σ7 (upd H8 D (.lst (zs++[v])))))))
def RP (n:Nat)(cap:D7)(wi:TI)(g:TG)(wi1:TI)(g1:TG)(te:TE):TE:=fun σ H Q=>wi σ H fun J H1=>∀ D,H1 D=none->pQ D (MK n cap σ) J g wi1 g1 te H1 fun H2=>Q (.ref D) H2
section
variable {X:Cx}{elt t0 i0 t1 i1:Expr}{scope:Yg}{pos:ZD}{L F:D9}{cap:D7}{wi wi1:TI}{g g1:TG}{te:TE}
def G8 {cl:DJ}{ZY:DI}{σ:St}{s2:Vt}{H2:Hp}{it:Addr}{fp:D0}{tn:Nat->WD->Prop}{J:It}{use:Option (Value->Sem Unit)}{QQ:DM}{Z:Hp->Prop}{E:DM}
  (hc:X.calm=true) (ok:oY X scope F cap)
  (sub:∀ n c,cl.lookup n=some c->X.env.cells.lookup n=some c) (all:∀ y∈scope.names,y.2 = .free->∃ c,cl.lookup y.1=some c)
  (hg:∀ cl C s H fp,PG (bN X scope cl C (L++F) s H fp) t0 g) (hi1:∀ cl C s H fp,PI (bN X scope cl C (L++F) s H fp) t1 i1 wi1) (hg1:∀ cl C s H fp,PG (bN X scope cl C (L++F) s H fp) t1 g1) (he:∀ cl C s H fp,PE (bN X scope cl C (L++F) s H fp) elt te)
  (hs1:∀ (env:Env) x,Ye i1 env x=pure x)
  (I2:Inv X ZY σ H2 s2) (T:Turn X.prog X.w X.K t0 J fp it tn) (st2:tn 0 s2.heap) (f2:∀ b∈fp,yM X ZY H2 b)
  (q2:pQ s2.heap.objs.size (MK L.length cap σ) J g wi1 g1 te H2 Z)
  (fin:∀ (C:Addr) (s':Vt) (H':Hp),Z H'->Inv X ZY σ H' s'->(∃ m,s'.heap.Ns C m)->H' C=none->C≠X.env.locals->X.s₀.heap.objs.size<=C->(∀ x c,X.env.cells.lookup x=some c->c≠C)->(∀ p∈X.pn++ZY,p.1≠C) →
   aaS (VM X.prog X.w) X.A E use QQ (.ref s2.heap.objs.size) C (.ok .next) s') :
  VG (VM X.prog X.w) X.A (newList []) (fun acc s₃=>VG (VM X.prog X.w) X.A (newFunctionEnv scope X.env.globals cl [] X.env.qual none .none (some X.env)) (fun cenv s₄ =>
   Xi (VM X.prog X.w) X.A (.compStart (.ListComp elt [⟨t0,i0,[],0⟩,⟨t1,i1,[],0⟩] scope pos) 0 (.ref it) acc { cenv with scope:=relabel scope X.env }) (aaS (VM X.prog X.w) X.A E use QQ acc cenv.locals) s₄) E s₃) E s2:=by
 have hD:H2 s2.heap.objs.size=none:=I2.fresh
 refine Wv (abh ok.cell (by intro y hy;simp at hy) (fun h₁ hns₁ hsb₁=>?_) ok.kind)
 dsimp only at hns₁ hsb₁ ⊢
 have I3:Inv X ZY σ (upd H2 s2.heap.objs.size (.lst [])) { s2 with heap:=s2.heap.push { cls:=.type "list",data:=.seq ([]:DV).toArray } }:=I2.SQ (t':=s2.toks) (ys:=[]) (its:=[]) .nil (Wr _)
 have blt:∀ b∈fp,b < s2.heap.objs.size:=fun b hb=>let ⟨_,e,_⟩:=T.obj 0 _ st2 b hb;VL e
 have szC:(s2.heap.push { cls:=.type "list",data:=.seq ([]:DV).toArray }).objs.size=s2.heap.objs.size+1:=Xy _ _
 generalize hs3:({ s2 with heap:=s2.heap.push { cls:=.type "list",data:=.seq ([]:DV).toArray } }:Vt)=s3 at I3
 have es3:s3.heap=s2.heap.push { cls:=.type "list",data:=.seq ([]:DV).toArray }:=by rw[← hs3]
 have eos:s3.os=s2.os:=by rw[← hs3]
 have fok:∀ b∈fp,yM X ZY (upd H2 s2.heap.objs.size (.lst [])) b/\b < s3.heap.objs.size:=fun b hb=>by
  obtain⟨f0,fr⟩:=f2 b hb
  refine⟨⟨by rw[aM (V5 (blt b hb))];exact f0,fr⟩,?_⟩
  rw[es3,szC]
  exact WY (blt b hb)
 have hkp:∀ b o,s3.heap.get? b=some o->h₁.get? b=some o:=fun b o e=>by
  have e':b < s3.heap.objs.size:=VL e
  rw[es3] at e e'
  exact (hsb₁.2 b (V5 e')).trans (Vu _ e)
 have hns:h₁.Ns s3.heap.objs.size fun _=>none:=by
  rw[es3]
  exact hns₁
 have I4:∀ tk,Inv (bN X scope cl s3.heap.objs.size (L++F) s3 (upd H2 s2.heap.objs.size (.lst [])) fp) [] (MK L.length cap σ) (upd H2 s2.heap.objs.size (.lst [])) { s3 with heap:=h₁,toks:=tk }:=fun tk =>
  tO (L:=L) ok I3 fok sub all hns hkp
 have stat:∀ {H':Hp},(∀ b∈fp,H' b=none)->∀ b∈fp,yM (bN X scope cl s3.heap.objs.size (L++F) s3 (upd H2 s2.heap.objs.size (.lst [])) fp) [] H' b:=fun {H'} hn b hb=>by
  obtain⟨⟨_,g1,g2,g3,g4,g5⟩,g6⟩:=fok b hb
  exact⟨hn b hb,V5 g6,Ac I3 g1 g2,.inl hb,fun x c e=>g4 x c (sub x c e),fun p hp=>absurd (show p∈([]:DI) from hp) (by simp)⟩
 have loop:∀ tk,Xi (VM X.prog X.w) X.A (.compLoop (.ListComp elt [⟨t0,i0,[],0⟩,⟨t1,i1,[],0⟩] scope pos) 0 (.ref it) (.ref s2.heap.objs.size) (abS scope cl s3.heap.objs.size X.env))
   (aaS (VM X.prog X.w) X.A E use QQ (.ref s2.heap.objs.size) s3.heap.objs.size) { s3 with heap:=h₁,toks:=tk }:=fun tk=>by
  obtain⟨W,⟨m0,w0⟩,turn⟩:=q2
  have st3:tn 0 h₁:=T.keep 0 _ _ st2 fun b hb o e=>hkp b o (by rw[es3];exact Vu _ e)
  refine xf (hs1 _) (fun n s'=>∃ i ys σ' H',Inv (bN X scope cl s3.heap.objs.size (L++F) s3 (upd H2 s2.heap.objs.size (.lst [])) fp) [] σ' H' s'/\tn i s'.heap/\(∀ b∈fp,H' b=none)/\W i n ys σ' H') ?_ m0
   ⟨0,[],_,_,I4 tk,st3,fun b hb=>(fok b hb).1.1,w0⟩
  rintro n s5 ⟨i,ys,σ5,H5,I5,st5,fr5,w5⟩
  rcases turn i n ys σ5 H5 w5 with⟨stop,qz⟩ | ⟨go,N,hN,step⟩
  ·refine thn (T.done (bN X scope cl s3.heap.objs.size (L++F) s3 (upd H2 s2.heap.objs.size (.lst [])) fp) U U U hc i [] s5 σ5 H5 _ I5 (stat fr5) st5 stop) fun r s6 ⟨hr,I6⟩=>?_
   subst hr
   have un:Un (frs X.stack) fp H2 H5 s2.heap s6.heap:=by
    have u1:Un (frs X.stack) fp H2 (upd H2 s2.heap.objs.size (.lst [])) s2.heap s3.heap:=by
     rw[es3]
     exact Un.laid (fun _ _ q=>Vu _ q) (Vw _) hD
    exact u1.trans I6.base
   have J1:Inv X ZY σ H5 s6:=I2.call' (I6.os.trans eos) un I6.hok I6.bare fun b hb=>by
    obtain⟨_,g1,_,g3,g4,g5⟩:=f2 b hb
    exact⟨g3,g1,g4,g5⟩
   have hC:s2.heap.objs.size<=s3.heap.objs.size:=by rw[es3,szC];exact Xq _
   obtain⟨m,hm,_⟩:=I6.loc
   refine fin s3.heap.objs.size s6 H5 qz J1 ⟨m,hm⟩ I6.free (YT (Vx I2.lt hC)) (Wf I2.sz hC) (fun x c e z=>?_) (fun p hp z=>?_)
   ·obtain⟨v,q⟩:=I2.cell x c e
    exact absurd (Vx q.lt (by rw[z];exact hC)) (WK _)
   ·exact absurd (Vx (VL (I2.pin p hp).1) (by rw[z];exact hC)) (WK _)
  ·refine thn (T.item (bN X scope cl s3.heap.objs.size (L++F) s3 (upd H2 s2.heap.objs.size (.lst [])) fp) U U U hc i [] s5 σ5 H5 _ I5 (stat fr5) st5 go) fun r s6 ⟨u,hr,h6⟩=>?_
   subst hr
   refine thn h6 fun _ s7 ⟨x,H7,I7,r7,y7,st7,fr7⟩=>?_
   have I7':=I7.pinned (stat fr7) (T.obj _ _ st7)
   refine thn (hg _ _ _ _ _ _ s7 σ5 H7 x u _ I7' r7 (step x H7 y7)) fun _ s8 ⟨σ8,H8,I8,q8⟩=>?_
   have again:∀ {σ9:St} {H9:Hp} {s9:Vt} {zs:List V},Inv (bN X scope cl s3.heap.objs.size (L++F) s3 (upd H2 s2.heap.objs.size (.lst [])) fp) ([]++o5 fp s7.heap) σ9 H9 s9->N zs σ9 H9 →
     ∃ m,m < n/\∃ i ys σ' H',Inv (bN X scope cl s3.heap.objs.size (L++F) s3 (upd H2 s2.heap.objs.size (.lst [])) fp) [] σ' H' s9/\tn i s9.heap/\(∀ b∈fp,H' b=none)/\W i m ys σ' H':=fun {σ9 H9 s9 zs} I9 n9=>by
    obtain⟨m',hm,w9⟩:=hN zs σ9 H9 n9
    refine⟨m',hm,i+1,zs,σ9,H9,I9.j0,T.keep _ _ _ st7 fun b hb o e=>(I9.pin (b,o) (Wj _ (Wj _ (dN hb e)))).1,fun b hb=>?_,w9⟩
    obtain⟨o,e,d⟩:=T.obj _ _ st7 b hb
    exact (I9.pin (b,o) (Wj _ (Wj _ (dN hb e)))).2.1
   refine thn (hi1 _ _ _ _ _ _ s8 σ8 H8 _ I8 q8) fun v1 s9 h9=>thn h9 fun itv s10 h10=>?_
   obtain⟨it1,fp1,tn1,J1,H10,e,I10,T1,st10,f10,Y,⟨m1,y0⟩,turn1⟩:=h10
   subst e
   have stat1:∀ {H':Hp},(∀ b∈fp1,H' b=none)->∀ b∈fp1,yM (bN X scope cl s3.heap.objs.size (L++F) s3 (upd H2 s2.heap.objs.size (.lst [])) fp) ([]++o5 fp s7.heap) H' b:=fun hn b hb=>⟨hn b hb,(f10 b hb).2⟩
   have loop1:Xi (VM X.prog X.w) X.A (.compLoop (.ListComp elt [⟨t0,i0,[],0⟩,⟨t1,i1,[],0⟩] scope pos) 1 (.ref it1) (.ref s2.heap.objs.size) (abS scope cl s3.heap.objs.size X.env))
     (fun r s'=>match r with | .ok _=>∃ m,m < n/\∃ i ys σ' H',Inv (bN X scope cl s3.heap.objs.size (L++F) s3 (upd H2 s2.heap.objs.size (.lst [])) fp) [] σ' H' s'/\tn i s'.heap/\(∀ b∈fp,H' b=none)/\W i m ys σ' H' | .error _=>False) s10:=by
    refine wV (fun k s'=>∃ j zs σ' H',Inv (bN X scope cl s3.heap.objs.size (L++F) s3 (upd H2 s2.heap.objs.size (.lst [])) fp) ([]++o5 fp s7.heap) σ' H' s'/\tn1 j s'.heap/\(∀ b∈fp1,H' b=none)/\Y j k zs σ' H') ?_ m1
     ⟨0,ys,_,_,I10,st10,fun b hb=>(f10 b hb).1,y0⟩
    rintro k s11 ⟨j,zs,σ11,H11,I11,st11,fr11,w11⟩
    rcases turn1 j k zs σ11 H11 w11 with⟨stop1,n1⟩ | ⟨go1,M,hM,step1⟩
    ·refine thn (T1.done (bN X scope cl s3.heap.objs.size (L++F) s3 (upd H2 s2.heap.objs.size (.lst [])) fp) U U U hc j _ s11 σ11 H11 _ I11 (stat1 fr11) st11 stop1) fun r s12 ⟨hr,I12⟩=>?_
     subst hr
     exact again I12 n1
    ·refine thn (T1.item (bN X scope cl s3.heap.objs.size (L++F) s3 (upd H2 s2.heap.objs.size (.lst [])) fp) U U U hc j _ s11 σ11 H11 _ I11 (stat1 fr11) st11 go1) fun r s12 ⟨u1,hr,h12⟩=>?_
     subst hr
     refine thn h12 fun _ s13 ⟨x1,H13,I13,r13,y13,st13,fr13⟩=>?_
     have I13':=I13.pinned (stat1 fr13) (T1.obj _ _ st13)
     refine thn (hg1 _ _ _ _ _ _ s13 σ11 H13 x1 u1 _ I13' r13 (step1 x1 H13 y13)) fun _ s14 ⟨σ14,H14,I14,q14⟩=>?_
     refine thn (he _ _ _ _ _ _ s14 σ14 H14 _ I14 q14) fun y s15 ⟨yv,H15,I15,r15,e15,z15,n15⟩=>?_
     refine thn (du _ s15 σ14 H15 (.ref s2.heap.objs.size) [yv] (.ref s2.heap.objs.size) [y] (fun _ H'=>M (zs++[yv]) σ14 H') I15 U (.cons r15 .nil) ⟨_,zs,yv,U,U,e15,z15,n15⟩) fun _ s16 ⟨_,H16,I16,_,n16⟩=>?_
     obtain⟨m',hm,w16⟩:=hM _ _ _ n16
     refine⟨m',hm,j+1,_,σ14,H16,I16.j0,T1.keep _ _ _ st13 fun b hb o e=>(I16.pin (b,o) (Wj _ (Wj _ (dN hb e)))).1,fun b hb=>?_,w16⟩
     obtain⟨o,e,d⟩:=T1.obj _ _ st13 b hb
     exact (I16.pin (b,o) (Wj _ (Wj _ (dN hb e)))).2.1
   exact yK loop1 (T1.self _ 0 _ _ _ st10 loop1)
 have eC:(s2.heap.push { cls:=.type "list",data:=.seq ([]:DV).toArray }).objs.size=s3.heap.objs.size:=by rw[es3]
 have goal:∀ tk,Xi (VM X.prog X.w) X.A (.compStart (.ListComp elt [⟨t0,i0,[],0⟩,⟨t1,i1,[],0⟩] scope pos) 0 (.ref it) (.ref s2.heap.objs.size) (abS scope cl s3.heap.objs.size X.env))
   (aaS (VM X.prog X.w) X.A E use QQ (.ref s2.heap.objs.size) s3.heap.objs.size) { s3 with heap:=h₁,toks:=tk }:=fun tk =>
  codeAny_compStart_list (loop tk) (T.self _ 0 _ _ _ (T.keep 0 _ _ st2 fun b hb o e=>hkp b o (by rw[es3];exact Vu _ e)) (loop tk))
 have g0:=goal (s2.toks+([]:DH).length)
 subst hs3
 exact g0
def Ld (hc:X.calm=true)(ok:oY X scope F cap)(hi:PI X t0 i0 wi)
  (hg:∀ cl C s H fp,PG (bN X scope cl C (L++F) s H fp) t0 g) (hi1:∀ cl C s H fp,PI (bN X scope cl C (L++F) s H fp) t1 i1 wi1) (hg1:∀ cl C s H fp,PG (bN X scope cl C (L++F) s H fp) t1 g1) (he:∀ cl C s H fp,PE (bN X scope cl C (L++F) s H fp) elt te)
  (hs:∀ x,Ye i0 X.env x=pure x:=by intro _;rfl) (hs1:∀ (env:Env) x,Ye i1 env x=pure x:=by intro _ _;rfl):PE X (.ListComp elt [⟨t0,i0,[],0⟩,⟨t1,i1,[],0⟩] scope pos) (RP L.length cap wi g wi1 g1 te):=by
 intro ZY s σ H Q I h
 obtain⟨cl,e1,e2,e3⟩:=uD (scope:=scope) (env:=X.env) (fun y hy hf=>I.ok.has _ (ok.fr y hy hf))
 rw[eval_ListComp]
 refine aaP (use:=none) U hs e1 ok.kind ok.nms (thn (hi ZY s σ H _ I h) fun v s1 h1=>thn h1 fun itv s2 h2=>?_)
 obtain⟨it,fp,tn,J,H2,e,I2,T,st2,f2,q2⟩:=h2
 subst e
 refine G8 (Z:=fun H'=>Q (.ref s2.heap.objs.size) H') hc ok e2 e3 hg hi1 hg1 he hs1 I2 T st2 f2 (q2 _ I2.fresh) fun C s' H' z J m hCf hCl hCs hCc hCp=>?_
 obtain⟨m,hm⟩:=m
 exact⟨m,hm,fun h' hs'=>⟨.ref _,H',J.turned (t':=s'.toks) (fun b o hb e=>(hs'.2 b hb).trans e) hCf hCl (.inr hCs) hCc hCp,U,z⟩⟩
end
section
variable {X:Cx}
end
def In2 (D:Addr)(J1:It)(g1:TG)(te:TE)(N:List V->St->Hp->Prop)(ys:List V)(σ3:St)(H4:Hp):Prop :=
 ∃ Y:Nat->Nat->List V->St->Hp->Prop,(∃ m,Y 0 m ys σ3 H4) ∧
  ∀ j m zs σ5 H5,Y j m zs σ5 H5->((J1.stop j H5/\N zs σ5 H5)∨(J1.go j H5/\∃ M:List V->St->Hp->Prop,(∀ zs σ6 H6,M zs σ6 H6->∃ m',m' < m/\Y (j+1) m' zs σ6 H6) ∧
   ∀ y H6,J1.yld j H5 y H6->g1 y σ5 H6 fun σ7 H7=>te σ7 H7 fun v H8=>H8 D=some (.lst zs)/\zs.length < sizeLine/\M (zs++[v]) σ7 (upd H8 D (.lst (zs++[v])))))
def Js {K:V3}{a D:Addr}{xs:List V}{g:TG}{wi1:TI}{g1:TG}{te:TE}{H1:Hp}{Q:Hp->Prop}{σ0:St}(Pv:Nat->List V->St->Hp->Prop)(h0:Pv 0 [] σ0 (upd H1 D (.lst [])))
  (hl:∀ i ys σ H,i<=xs.length->Pv i ys σ H->SqT K H a xs)
  (hs:∀ i ys x σ H,xs[i]? = some x->Pv i ys σ H->g x σ H fun σ3 H3=>wi1 σ3 H3 fun J1 H4=>In2 D J1 g1 te (Pv (i+1)) ys σ3 H4)
  (hd:∀ ys σ H,Pv xs.length ys σ H->Q H):pQ D σ0 (Itt K a) g wi1 g1 te H1 Q:=by
 refine⟨fun i m ys σ H=>m=xs.length - i/\i<=xs.length/\Pv i ys σ H,⟨xs.length,by simp,Wr _,h0⟩,?_⟩
 rintro i m ys σ H ⟨rfl,hi,p⟩
 have q:=hl i ys σ H hi p
 by_cases hlt:i < xs.length
 ·refine .inr ⟨⟨xs,xs[i],q,by simp [hlt]⟩,Pv (i+1),fun zs σ' H' p'=>⟨xs.length - (i+1),by lia,U,hlt,p'⟩,fun x H' y=>?_⟩
  obtain⟨e,y⟩:=y
  subst e
  exact hs i ys x σ _ (y xs q) p
 ·have e:i=xs.length:=by lia
  subst e
  exact .inl ⟨⟨xs,q,Vw _⟩,hd ys σ H p⟩
def JT {K:V3}{b D:Addr}{ws:List V}{g1:TG}{te:TE}{N:List V->St->Hp->Prop}{ys:List V}{σ3:St}{H4:Hp}(Pw:Nat->List V->St->Hp->Prop)(h0:Pw 0 ys σ3 H4)
  (hl:∀ j zs σ H,j<=ws.length->Pw j zs σ H->SqL K H b ws)
  (hs:∀ j zs y σ H,ws[j]? = some y->Pw j zs σ H->g1 y σ H fun σ7 H7=>te σ7 H7 fun v H8=>H8 D=some (.lst zs)/\zs.length < sizeLine/\Pw (j+1) (zs++[v]) σ7 (upd H8 D (.lst (zs++[v]))))
  (hd:∀ zs σ H,Pw ws.length zs σ H->N zs σ H):In2 D (Itl K b) g1 te N ys σ3 H4:=by
 refine⟨fun j m zs σ H=>m=ws.length - j/\j<=ws.length/\Pw j zs σ H,⟨ws.length,by simp,Wr _,h0⟩,?_⟩
 rintro j m zs σ H ⟨rfl,hj,p⟩
 have q:=hl j zs σ H hj p
 by_cases hlt:j < ws.length
 ·refine .inr ⟨⟨ws,ws[j],q,by simp [hlt]⟩,Pw (j+1),fun zs' σ' H' p'=>⟨ws.length - (j+1),by lia,U,hlt,p'⟩,fun y H' z=>?_⟩
  obtain⟨e,z⟩:=z
  subst e
  exact hs j zs y σ _ (z ws q) p
 ·have e:j=ws.length:=by lia
  subst e
  exact .inl ⟨⟨ws,q,Vw _⟩,hd zs σ H p⟩
section
variable {prog:V4}{w:Wn}{A:Wm}{E:DM}{s:Vt}
end
section
variable {X:Cx}
end
section
variable {X:Cx}{elt t0 i0 t1 i1:Expr}{scope:Yg}{pos:ZD}{L F:D9}{cap:D7}{wi wi1:TI}{g g1:TG}{te:TE}
end
section
variable {X:Cx}{tg:Expr}
end
section
variable {X:Cx}{elt tg iter:Expr}{ifs:D1}{scope:Yg}{pos:ZD}{x0:Wb}{L F:D9}{cap:D7}{wi:TI}{g:TG}{tt:TT}{te:TE}
end
section
variable {X:Cx}
end
section
variable {X:Cx}{CX:CXT}{k:Nat}{f C:Addr}{fd:WR}{ps:D9}{sp:Sp}{dvs:List V}{ds:DV}{E:XK}{c m:Wb}{p pos apos:ZD}{e:Expr}{es:D1}{t:TA}{mc:Value}
structure sS (K:VB)(C:Addr)(mc:Value)(m:Wb)(f:Addr):Prop where
 ga:PySem.W.specialIn K (.ref C) "__getattribute__" = some (some (.builtin "type.__getattribute__"))
 rd:PySem.W.readsIn K C mc=true
 fd:PySem.W.findCls K (.ref C) mc m=some (.val (.ref f))
 kp:Xx K (.ref f)=true
 hd:acb (.ref f)=true
def dM {pl:Sem Bool}(hg:Gl X c)(hm:X.mg c=some (.ref C))(O:sS X.K C mc m f)(F:bH X.prog X.w X.K X.mg X.base CX k f fd ps sp)(hr:fj k X.A)(hb:Binds X.K fd ps ds)(hd:Vals dvs ds)(hx:Passes CX X E)(ha:PA X (e::es) t)
  (hdb:(c == ("__debug__" : Wb))=false:=by decide) (hst:Wc (e::es) X.env=(false,Xv e X.env)::Wc es X.env:=by rfl) (hpl:(XX pos (Wc es X.env)).any (·.1)=false:=by rfl)
  (ht:Xv (.Call (.Attribute (.Name c p) m apos) (e::es) [] pos) X.env=(do
   let ov ← Xv (.Name c p) X.env
   Zx apos.atName
   let (g,first) ← ZP [ov] (Z9 ov m pl)
   abj pos g first (XX pos (Wc (e::es) X.env)) (aaz pos (Zi [] X.env))):=by rfl) :
  PE X (.Call (.Attribute (.Name c p) m apos) (e::es) [] pos) (G5 sp dvs E t):=by
 intro ZY s σ H Q I h
 refine Z5 (pl:=pl) (jt I hg hm ?_ hdb) ht
 refine PySem.W.method_cls I.kIn O.ga (PySem.W.cls_value I.kIn O.rd O.fd O.hd ?_)
 have I1:=I.tok (s.toks+1)
 refine ZV (first:=[]) (h₀:=X.base) I.ok.mod.kin O.kp (thn (ha pos ZY _ σ H _ I1 h) fun us s1 ⟨vs,H1,I2,r,q⟩=>⟨I2.kIn,?_⟩) hst hpl
 exact Bo F hr hb hd hx I2 r q
end
section
variable {P:V4}{w:Wn}{A:Wm}{E:Value->Vt->Prop}{hp:WD}{g:Array ab4}{d:Drawn}{tk:Nat}{os:OsState}
variable {nm q:Wb}{C N:Addr}{bs bm:DV}{hdct:Bool}{sn:D9}{sub:DV}{ab:Bool}{col:DU}{dd:DT}{k0 k1 k2 k3 k5:DO}{newId:String}
abbrev pJ (C t:Addr)(D:DT):X8:={ cls:=.ref C,dict:=D,data:=.fields #[.ref t,.none,.none,.none,.bool false,.none] }
def Ih {M:Model} {x t:Addr} {D:DT} {ys:DV} {Q:Unit->Vt->Prop} (hC:hp.get? C=some (YQ nm q C N bs bm hdct sn sub ab col dd k0 k1 k2 k3 k5 newId)) (hv:bm.contains (.type "ValueError")=true)
  (hx:hp.get? x=some (pJ C t D)) (hq:Q () ⟨hp,g,d,tk,os⟩):VG M A (Zz "ValueError.__init__" ⟨.ref x::ys,[]⟩) Q E ⟨hp,g,d,tk,os⟩:=by
 have hv':(VV C::bm).contains (.type "ValueError")=true:=by rw[XQ,hv,ZC]
 have F:=PySem.F.excCall_ValueError
 have hns:=F.noStar
 simp only[Zz,F.initSplit,F.initKind,F.initRow]
 repeat (first | (with_reducible refine Xu hx ?_) | (with_reducible refine Xu hC ?_) | (with_reducible refine Yj hC ?_;rw[hv']) | wp_step)
 refine wpAny_onRaise ?_
 rw[show ∀ (a b:String) (n:Nat),Bind.check ⟨.positional,"*","ValueError",.self,[⟨"args",.varPos,false⟩]⟩ a b n (List.map (fun z=>z.fst) ({ pos:=VV x::ys }:Args).kw)=pure () from fun a b n=>check_star_args _ _ _ _ _ _]
 exact Vv hq
def Et {x t:Addr} {D:DT} {y:Value} {Q:DM} (hC:hp.get? C=some (YQ nm q C N bs bm hdct sn sub ab col dd k0 k1 k2 k3 k5 newId)) (hv:bm.contains (.type "ValueError")=true)
  (hx:hp.get? x=some (pJ C t D)) (h:∀ h',(∀ b o,b≠x->hp.get? b=some o->h'.get? b=some o)->h'.get? x=some (pJ C hp.objs.size D)->Q .none ⟨h',g,d,tk,os⟩) :
  VG (VM P w) A (call (.builtin "ValueError.__init__") [.ref x,y]) Q E ⟨hp,g,d,tk,os⟩:=by
 have F:=PySem.F.excCall_ValueError
 refine Zg (Zj F.init.plain F.initEntry (Ih hC hv hx ?_))
 have hx1:=Vu { cls:=.type "tuple",data:=.seq #[y] } hx
 wp_walk
 refine h _ (fun b o hb e=>?_) ?_
 ·rw[V9 _ _ (Xl hb)]
  exact Vu _ e
 ·rw[Wh _ hx1 U]
  rfl
end
section
variable {P:V4}{w:Wn}{A:Wm}{hp:WD}{g:Array ab4}{d:Drawn}{tk:Nat}{os:OsState}
variable {nm q:Wb}{C N:Addr}{bs bm:DV}{hdct:Bool}{sn:D9}{sub:DV}{ab:Bool}{col:DU}{dd:DT}{k0 k1 k2 k3 k5:DO}
structure QR (bm:DV):Prop where
 v:bm.contains (.type "ValueError")=true
 b:bm.contains (.type "BaseException")=true
 a:bm.contains (.type "AttributeError")=false
 n:bm.contains (.type "NameError")=false
def new_exc {R:aaB->Vt->Prop} (V:QR bm) (hC:hp.get? C=some (YQ nm q C N bs bm hdct sn sub ab col dd k0 k1 k2 k3 k5 "ValueError.__new__"))
  (hq:R (.ok (.ret (.ref (hp.objs.size+1)))) ⟨(hp.push { cls:=.type "tuple",data:=.seq #[] }).push (pJ C hp.objs.size none),g,d,tk,os⟩) :
  Xi (VM P w) A (.builtin "ValueError.__new__" ⟨[.ref C],[]⟩) R ⟨hp,g,d,tk,os⟩:=by
 have F:=PySem.F.excBase_ValueError
 have he:=F.ends
 have c1:(VV C::bm).contains (.type "ValueError")=true:=by rw[XQ,V.v,ZC]
 have c2:(VV C::bm).contains (.type "AttributeError")=false:=by rw[XQ,V.a];rfl
 have c3:(VV C::bm).contains (.type "NameError")=false:=by rw[XQ,V.n];rfl
 refine codeAny_builtinAt F.entry ?_
 unfold YZ.«BaseException.__new__»
 refine PySem.wpAt_bind ?_
 show PySem.wpAt _ _ _ (stack >>= _) _ _ _
 refine PySem.wpAt_bind (PySem.wpAt_stack fun p below=>PySem.wpAt_of_wpAny ?_)
 wp_walk
 refine PySem.wpAt_of_wpAny ?_
 rw[F.owner]
 repeat (first | with_reducible refine wpAny_madeHere_exc F.canon hC ?_ | with_reducible refine Xu hC ?_ | (with_reducible refine Yj hC ?_;first | rw[c1] | rw[c2] | rw[c3]) | wp_step)
 show R _ _
 rw[Xy]
 exact hq
def N7 {M:Model} {E:DM} {Q:Unit->Vt->Prop} (V:QR bm) (hC:hp.get? C=some (YQ nm q C N bs bm hdct sn sub ab col dd k0 k1 k2 k3 k5 "ValueError.__new__")) (hq:Q () ⟨hp,g,d,tk,os⟩) :
  VG M A (Zz "ValueError.__new__" ⟨[.ref C],[]⟩) Q E ⟨hp,g,d,tk,os⟩:=by
 have F:=PySem.F.excBase_ValueError
 have c1:(VV C::bm).contains (.type "ValueError")=true:=by rw[XQ,V.v,ZC]
 have hs:=F.noStar
 simp only[Zz,F.newSplit,F.newKind,F.newRow]
 repeat (first | (refine Yj hC ?_;rw[c1]) | refine Xu hC ?_ | refine wpAny_madeBy_exc hC ?_ | refine wpAny_staticBase_exc hC ?_ | simp only[bne_self_eq_false,abO,if_false] | wp_step)
 exact hq
def J3 {f:Addr} {R:aaB->Vt->Prop} (V:QR bm) (hC:hp.get? C=some (YQ nm q C N bs bm hdct sn sub ab col dd k0 k1 k2 k3 k5 "ValueError.__new__"))
  (hl:∀ h',(∀ b o,hp.get? b=some o->h'.get? b=some o)->W.Looks (VM P w) h' (aax (.ref C) "__init__") (some (.ref f))) (hb:∀ h' self,(∀ b o,hp.get? b=some o->h'.get? b=some o)->W.Looks (VM P w) h' (bindSpecial (.ref f) self) (.ref f,[self]))
  (hq:Xi (VM P w) (A.under (.builtin "type.__call__" ⟨[.ref C],[]⟩)) (.call (.ref f) ⟨[.ref (hp.objs.size+1)],[]⟩) (W.InitBack (hp.objs.size+1) R) ⟨(hp.push { cls:=.type "tuple",data:=.seq #[] }).push (pJ C hp.objs.size none),g,d,tk,os⟩) :
  Xi (VM P w) A (.call (.ref C) ⟨[],[]⟩) R ⟨hp,g,d,tk,os⟩:=by
 have f1:=tc_lookup
 have f2:=tc_bind (.ref C)
 have hT:(⟨hp,g,d,tk,os⟩:Vt).TypeIs (.ref C) "type":=⟨_,hC,U⟩
 refine aa8 ?_
 show VG _ _ (callAny (.ref C) _) _ _ _
 repeat (any_goals (first | assumption | with_reducible refine Xu hC ?_ | wp_step))
 refine⟨U,?_⟩
 refine codeAny_call_builtin_at (aaF _ (by decide+kernel)) entry_typeCall (wpAny_check_type_call_sub hC ?_)
 repeat (first | with_reducible refine Xu hC ?_ | with_reducible refine wpAny_madeBy_exc hC ?_ | wp_step)
 refine codeAny_call_builtin_code (aaF _ PySem.F.excBase_ValueError.quiet) (N7 V hC ?_)
 refine new_exc V hC ?_
 show VG _ _ _ _ _ _
 have k1:∀ b o,hp.get? b=some o->((hp.push { cls:=.type "tuple",data:=.seq #[] }).push (pJ C hp.objs.size none)).get? b=some o:=fun b o e=>Vu _ (Vu _ e)
 have hC1:=k1 _ _ hC
 have hx:((hp.push { cls:=.type "tuple",data:=.seq #[] }).push (pJ C hp.objs.size none)).get? (hp.objs.size+1)=some (pJ C hp.objs.size none):=by heap_get
 have cC:(VV C::bm).contains (.ref C)=true:=by simp
 unfold isInstance
 repeat (first | with_reducible refine Xu hx ?_ | (with_reducible refine Yj hC1 ?_;rw[cC]) | wp_step)
 show VG _ _ (aax (.ref C) _) _ _ _
 refine X7 (hl _ k1) ?_
 refine Xe (Vr ((hb _ _ k1).here ?_))
 refine Vr (Zg (Yl hq fun r s' z=>?_))
 cases r with
 | error e=>exact z
 | ok fl =>
  cases fl with
  | ret v =>
   obtain⟨ev,z⟩:=z
   subst ev
   exact Vv (Vv z)
  | next=>exact Wu z
  | brk=>exact Wu z
  | cont=>exact Wu z
end
def Lg (self:Value):PySem.refuseLoop self "__setattr__" [.type "ValueError",.type "Exception",.type "BaseException",.type "object"]=pure ():=by kernel_rfl
section
variable {P:V4}{w:Wn}{A:Wm}{E:Value->Vt->Prop}{K:V3}{s:Vt}
variable {nm q:Wb}{C N x t:Addr}{bs bm:DV}{hdct:Bool}{sn:D9}{sub:DV}{ab:Bool}{col:DU}{dd:DT}{k0 k1 k2 k3 k5:DO}{newId:String}
def tD:DV->Bool
 | []=>false
 | a::r=>match a with
  | .ref _=>tD r
  | _=>a::r == [.type "ValueError",.type "Exception",.type "BaseException",.type "object"]
def mG {a:Value} {r:DV} (h:tD (a::r)=true):(∃ c,a = .ref c/\tD r=true)∨a::r=[.type "ValueError",.type "Exception",.type "BaseException",.type "object"]:=by
 cases a <;> first | exact .inl ⟨_,rfl,h⟩ | exact .inr (eq_of_beq h)
theorem o7 (self:Value):∀ {l:DV},tD l=true->PySem.refuseLoop self "__setattr__" l=pure ()
 | [],h=>by cases h
 | a::r,h=>by
  rcases mG h with⟨c,rfl,h'⟩ | e
  ·rw[refuseLoop_ref]
   exact o7 self h'
  ·rw[e]
   exact Lg self
theorem yJ:∀ {l:DV},tD l=true->l.contains (.type "object")=true
 | [],h=>by cases h
 | a::r,h=>by
  rcases mG h with⟨c,rfl,h'⟩ | e
  ·rw[XQ,yJ h',ZC]
  ·rw[e]
   rfl
def Nv {name:Wb} {v:Value} {cd:ClassData} {Q:Unit->Vt->Prop} (X:K.In s.heap) (hx:s.heap.get? x=some (pJ C t none)) (hs:Zn K (.ref C) "__setattr__" = some (some (.builtin "object.__setattr__")))
  (hc:W.clsIn K C=some cd) (hu:tD cd.mro=true) (hdc:cd.hasDict=true) (hf:W.takerIn K C name=some none)
  (h:∀ h',(∀ b o,b≠x->s.heap.get? b=some o->h'.get? b=some o)->h'.get? x=some (pJ C t (some s.heap.objs.size))->(∃ o,h'.get? s.heap.objs.size=some o)->h'.Ns1 s.heap.objs.size (fun y=>if y=name then some v else none)->∀ tk,Q () { s with heap:=h',toks:=tk }) :
  VG (VM P w) A (setAttr (.ref x) name v) Q E s:=by
 have J:PySem.W.InstAt s.heap x (pJ C t none) C none:=⟨hx,U,U,trivial⟩
 have SF:=PySem.F.store_object
 have ne:cd.mro.isEmpty=false:=by cases q:cd.mro with | nil=>rw[q] at hu;cases hu | cons _ _=>rfl
 refine PySem.W.set_plain X J hs ?_
 have sub:abH (VM P w) s.heap (isInstance (.ref x) (.type "object")) true:=J.type.andThen (PySem.W.looks_mroIn X (by unfold PySem.W.mroIn;rw[hc,Option.bind_some,if_neg (by rw[ne];decide),yJ hu]))
 refine Zj SF.slot.plain SF.entry (@PySem.W.check_slot (VM P w) _ _ { s with toks:=s.toks+1 } "object.__setattr__" "object" "__setattr__" (.ref x) [.str name s.toks,v] [] _ SF.kind SF.split sub (SF.args (.ref x) (.str name s.toks) v) ?_)
 obtain⟨attr,ha,hr⟩:=Option.bind_eq_some_iff.mp hf
 have hm:abH (VM P w) s.heap (mroOf (.ref C)) cd.mro:=(aby X hc).andThen .now
 have L3:abH (VM P w) s.heap (Builtin.ObjectAttr.storeTaker? attr) none:=by
  cases attr with
  | none=>exact .now
  | some a =>
   obtain⟨b,hb,e⟩:=Option.map_eq_some_iff.mp hr
   refine (PySem.W.looks_takesIn X hb).andThen ?_
   cases b
   ·exact .now
   ·cases e
 rw[PySem.W.osa_eq,refuse_eq]
 obtain⟨hp,g,d,tk,os⟩:=s
 refine Vr (Vr (X7 (s:=⟨hp,g,d,tk+1,os⟩) J.type (Vr (X7 (s:=⟨hp,g,d,tk+1,os⟩) hm ?_))))
 rw[o7 _ hu]
 refine Vv (Vr (X7 (s:=⟨hp,g,d,tk+1,os⟩) J.type (Vr (X7 (s:=⟨hp,g,d,tk+1,os⟩) (Zr X ha) (Vr (X7 (s:=⟨hp,g,d,tk+1,os⟩) L3 ?_))))))
 dsimp only
 unfold Builtin.ObjectAttr.storeInOwnDict
 refine Vr (Vv ?_)
 unfold Builtin.ObjectAttr.ownDictForStores instanceDict
 refine Vr (Vr (wpAny_loadPart hx (Vr (X7 (s:=⟨hp,g,d,tk+1,os⟩) (aby X hc) ?_))))
 rw[hdc,if_neg (by decide)]
 have hx1:(hp.push { cls:=.type "dict",data:=.dict #[] }).get? x=some (pJ C t none):=Vu _ hx
 have hne:x≠hp.objs.size:=V5 (VL hx)
 show VG _ _ (do let d ← alloc { cls:=.type "dict",data:=.dict #[] };update x fun o=>{ o with dict:=some d };dictMade (.ref C) x d) _ _ _
 refine Vr (wpAny_alloc (Vr (wpAny_update hx1 ?_)))
 wp_step
 refine Vv ?_
 dsimp only
 generalize eh:(hp.push { cls:=.type "dict",data:=.dict #[] }).update x (fun o=>{ o with dict:=some hp.objs.size })=h2
 have n2:h2.Ns1 hp.objs.size (fun _=>none):=by
  refine Heap.Ns1.at (Heap.Ns1.of_empty (Heap.Ns.new hp (.type "dict"))) fun o e=>?_
  rw[← eh,V9 _ _ hne]
  exact e
 have k2:∀ b o,b≠x->hp.get? b=some o->h2.get? b=some o:=fun b o hb e=>by
  rw[← eh,V9 _ _ (Xl hb)]
  exact Vu _ e
 have x2:h2.get? x=some (pJ C t (some hp.objs.size)):=by
  rw[← eh,Wh _ hx1 U]
 unfold Builtin.ObjectAttr.storeInDict
 refine Vr (Vv ?_)
 refine Vr (wpAny_nsSet1 (s:=⟨h2,g,d,tk+1,os⟩) n2 fun h' hn2 hs2=>?_)
 obtain⟨oD,esD,epD,hoD,hdD,hcD⟩:=hn2.count (PySem.Within.cons name v PySem.Within.nil)
 refine Vr (wpAny_lookBehind hoD (by rw[hdD];exact pastItsLine_dict (Wf hcD (by show 1<=sizeLine+1;lia))) ?_)
 refine Vv (h _ (fun b o hb e=>?_) ((hs2.2 _ hne).trans x2) ⟨oD,hoD⟩ hn2 _)
 have hbn:b≠hp.objs.size:=V5 (VL e)
 exact (hs2.2 _ hbn).trans (k2 b o hb e)
end
def Nk (K:V3):W.findCls K (.type "ValueError") (.type "type") "__init__" = some (.val (.builtin "ValueError.__init__")):=by kernel_rfl
def Pb:Wy "ValueError" = some (.type "ValueError"):=by decide+kernel
def O1:typeOf (.type "ValueError")=pure (.type "type"):=by kernel_rfl
def PB:Manifest.isStub "ValueError" = false:=by decide+kernel
def Pr:W.handedIn (.builtin "ValueError.__init__")=true:=by decide+kernel
def xO (x C:Addr)(D:DT):HO:=.ext fun h=>∃ t,h.get? x=some (pJ C t D)
def Ny {P:V4}{w:Wn}{H:Hp}{h:WD}{x C t:Addr}{D:DT}(e:h.get? x=some (pJ C t D)):dU P w H h x (xO x C D) :=
 ⟨⟨t,e⟩,⟨_,e⟩,fun h1 h2 ⟨t',e'⟩ k=>⟨t',k _ e'⟩⟩
structure Lf (K:VB)(C f:Addr)(name:Wb):Prop where
 obj:∃ nm q N bs bm hdct sn sub ab col dd k0 k1 k2 k3 k5,K.lookup C=some (YQ nm q C N bs bm hdct sn sub ab col dd k0 k1 k2 k3 k5 "ValueError.__new__")/\QR bm
 init:W5 K (.ref C) "__init__" = some (some (.ref f))
 fn:PySem.W.typeIn K (.ref f)=some (.type "function")
 kp:Xx K (.ref C)=true
 set:W5 K (.ref C) "__setattr__" = some (some (.builtin "object.__setattr__"))
 cls:∃ cd,PySem.W.clsIn K C=some cd/\tD cd.mro=true/\cd.hasDict=true
 tak:aa9 K C name=some none
section
variable {X:Cx}{p pos apos:ZD}{e:Expr}{es:D1}{t:TA}{f C:Addr}
def Qp (K:V3)(t:TA):TE:=fun σ H Q=>t σ H fun vs H1=>∃ (x C f:Addr) (n:Wb) (D:DT) (y:V),vs=[.ref x,y]/\H1 x=some (xO x C D)/\Lf K C f n/\Q .non (upd H1 x (xO x C D))
def KQ {pl:Sem Bool} (hg:Gl X "ValueError") (hm:X.mg "ValueError" = none) (ha:PA X (e::es) t)
  (hst:Wc (e::es) X.env=(false,Xv e X.env)::Wc es X.env:=by rfl) (hpl:(XX pos (Wc es X.env)).any (·.1)=false:=by rfl)
  (ht:Xv (.Call (.Attribute (.Name "ValueError" p) "__init__" apos) (e::es) [] pos) X.env=(do
   let ov ← Xv (.Name "ValueError" p) X.env
   Zx apos.atName
   let (g,first) ← ZP [ov] (Z9 ov "__init__" pl)
   abj pos g first (XX pos (Wc (e::es) X.env)) (aaz pos (Zi [] X.env))):=by rfl) :
  PE X (.Call (.Attribute (.Name "ValueError" p) "__init__" apos) (e::es) [] pos) (Qp X.K t):=by
 intro ZY s σ H Q I h
 refine Z5 (pl:=pl) (kJ I hg hm Pb ?_) ht
 obtain⟨m,F⟩:=I.fr
 refine PySem.W.method_type F I.ok.mod.kin O1 PB (Nk X.K) Pr ?_
 have I1:=I.tok (s.toks+1)
 refine callWith_builtin1 (thn (ha pos ZY _ σ H _ I1 h) fun us s1 ⟨vs,H1,I2,r,x,C,f,n,D,y,ev,hx,XC,q⟩=>?_) hst hpl
 subst ev
 obtain⟨u,v,rfl,ru,rv⟩:=r.two
 obtain rfl:u=VV x:=ru
 obtain⟨⟨t0,e0⟩,_⟩:=I2.hok x _ hx
 obtain⟨nm,q1,N,bs,bm,hdct,sn,sub,ab,col,dd,k0,k1,k2,k3,k5,lk,V⟩:=XC.obj
 obtain⟨hp,g,d,tk,os⟩:=s1
 refine Et (I2.kIn _ _ lk) V.v e0 fun h' k' e'=>?_
 exact⟨.non,_,I2.write (x:=x) (e:=x) (by rw[hx];trivial) (.inl U) k' ⟨_,e'⟩ (Ny e'),U,q⟩
end
section
variable {X:Cx}{pos pos':ZD}{o value:Expr}{ta tv:TE}{f:Wb}
def TJ (K:V3)(ta tv:TE)(f:Wb):TS:=fun D σ H=>tv σ H fun y H1=>ta σ H1 fun x H2=>∃ (a C fI:Addr),x = .ref a/\H2 a=some (xO a C none)/\Lf K C fI f/\∀ dx,H2 dx=none->D.nx σ (upd (upd H2 dx (.xd [(f,y)])) a (xO a C (some dx)))
def O8 (ha:PE X o ta)(hv:PE X value tv)(hs:abr value (some (.Attribute o f pos')) pos.line X.env=pure false):PS X (.Assign [.Attribute o f pos'] value pos) (TJ X.K ta tv f):=by
 intro ZY s σ H D I h
 refine ab5 (thn (hv ZY s σ H _ I h) fun u s1 ⟨y,H1,I1,ry,q⟩=>thn (ha ZY s1 σ H1 _ I1 q) fun ov s2 ⟨x,H2,I2,rx,a,C,fI,ex,ea,XC,q2⟩=>?_) hs
 subst ex
 obtain rfl:ov=VV a:=rx
 obtain⟨⟨t0,e0⟩,_⟩:=I2.hok a _ ea
 obtain⟨cd,hc,hu,hd⟩:=XC.cls
 refine Nv I2.kIn e0 XC.set hc hu hd XC.tak fun h' k' e' ho hn tk=>?_
 have fr:=I2.fresh
 have hne:a≠s2.heap.objs.size:=V5 (VL e0)
 have e1:(h'.update a fun _=>pJ C t0 none).get? a=some (pJ C t0 none):=Wh _ e' U
 have o1:∀ b,b≠a->(h'.update a fun _=>pJ C t0 none).get? b=h'.get? b:=fun b hb=>V9 _ _ (Xl hb)
 have I3:=I2.laid (a:=s2.heap.objs.size) (o:=.xd [(f,y)]) (h':=h'.update a fun _=>pJ C t0 none) (t':=tk) (fun b u' q'=>by
  by_cases hb:b=a
  ·subst hb
   rw[e0] at q'
   rw[e1]
   exact q'
  ·rw[o1 b hb]
   exact k' b u' hb q') (Vw _) ⟨_,hn.at (fun o z=>by rw[o1 _ (Xl hne)];exact z),fun g=>by
    by_cases hg:g=f
    ·subst hg
     simp [Zu,t7]
     exact ry
    ·have:(g == f)=false:=beq_false_of_ne hg
     simp [Zu,this,hg,t7]⟩
 have I4:=I3.write (x:=a) (e:=a) (h':=h') (o:=xO a C (some s2.heap.objs.size)) (t':=tk) (by rw[aM hne,ea];trivial) (.inl U) (fun b u' hb q'=>by rw[o1 b hb] at q';exact q') ⟨_,e'⟩ (Ny e')
 exact⟨σ,_,I4,q2 _ fr⟩
end
section
variable {M:Model}{A:Wm}{E:DM}{env:Env}
def Gr {s:Vt}{z:Sem Value}{Q:Flow->Vt->Prop}(hh:A.handled=none)
  (h:VG M A z (fun v s1=>∃ (e t C:Addr) (D:DT) (nm q:Wb) (N:Addr) (bs bm:DV) (hdct:Bool) (sn:D9) (sub:DV) (ab:Bool) (col:DU) (dd:DT) (k0 k1 k2 k3 k5:DO) (newId:String),v = .ref e/\s1.heap.get? C=some (YQ nm q C N bs bm hdct sn sub ab col dd k0 k1 k2 k3 k5 newId)/\bm.contains (.type "BaseException")=true/\s1.heap.get? e=some (pJ C t D)/\E (.ref e) s1) E s):VG M A (raiseStmt env (some z) none) Q E s:=by
 unfold raiseStmt
 refine Vr (Ww h (fun v s1 h1=>?_) fun _ _ y=>y)
 obtain⟨e,t,C,D,nm,q,N,bs,bm,hdct,sn,sub,ab,col,dd,k0,k1,k2,k3,k5,newId,rfl,hC,hb,he,hE⟩:=h1
 have c1:(VV C::bm).contains (.type "BaseException")=true:=by rw[XQ,hb,ZC]
 obtain⟨hp,g,d,tk,os⟩:=s1
 repeat (first | with_reducible refine Xu he ?_ | with_reducible refine Xu hC ?_ | (with_reducible refine Yj hC ?_;rw[c1]) | wp_step)
 exact wpAny_raiseNew_none hh hE
end
section
variable {X:Cx}{CX:CXT}{k:Nat}{f C:Addr}{fd:WR}{ps:D9}{sp:Sp}{c n:Wb}{p pos:ZD}{e:Expr}{te:TE}{E:XK}
def Qs (C:Addr)(sp:Sp)(E:XK):TE:=fun _ H Q=>∀ x,H x=none->sp [.ref x] (upd H x (xO x C none)) (fun v H2=>v = .non/\Q (.ref x) H2) E
def KH (XC:Lf X.K C f n)(F:bH X.prog X.w X.K X.mg X.base CX k f fd ps sp)(hr:fj (k+1) X.A)(hg:Gl X c)(hm:X.mg c=some (.ref C))(hb:Binds X.K fd ps [])(hx:Passes CX X E)
  (hdb:(c == ("__debug__" : Wb))=false:=by decide):PE X (.Call (.Name c p) [] [] pos) (Qs C sp E):=by
 intro ZY s σ H Q I h
 refine Xj (jt I hg hm ?_ hdb)
 refine abz I.kIn XC.kp ?_
 obtain⟨nm,q1,N,bs,bm,hdct,sn,sub,ab,col,dd,k0,k1,k2,k3,k5,lk,VE⟩:=XC.obj
 have hq:=h (s.heap.objs.size+1) (I.hok.fresh (Xq _))
 have kk:∀ b o,s.heap.get? b=some o->((s.heap.push { cls:=.type "tuple",data:=.seq #[] }).push (pJ C s.heap.objs.size none)).get? b=some o:=fun b o z=>Vu _ (Vu _ z)
 have ex:((s.heap.push { cls:=.type "tuple",data:=.seq #[] }).push (pJ C s.heap.objs.size none)).get? (s.heap.objs.size+1)=some (pJ C s.heap.objs.size none):=by
  have:=VN (s.heap.push { cls:=.type "tuple",data:=.seq #[] }) (o:=pJ C s.heap.objs.size none) U
  rwa [Xy] at this
 have I2:=I.laid (a:=s.heap.objs.size+1) (o:=xO (s.heap.objs.size+1) C none) (t':=s.toks) kk (Xq _) (Ny ex)
 have r2:Vals [V.ref (s.heap.objs.size+1)] [VV (s.heap.objs.size+1)]:=.cons U .nil
 have hl:([VV (s.heap.objs.size+1)]++[]).length=ps.length:=by
  have z:=r2.length
  rw[F.len _ _ _ _ hq] at z
  exact z.symm
 have hk:=I.kIn
 refine Zg ?_
 have mk:=J3 (P:=X.prog) (w:=X.w) (A:=X.A) (hp:=s.heap) (g:=s.gens) (d:=s.drawn) (tk:=s.toks) (os:=s.os) (f:=f) (R:=fun r s'=>match r with | .ok (.ret v)=>EP X ZY σ Q v s' | .ok _=>False | .error e=>X.xe e s') VE (hk _ _ lk) (fun h' k'=>Zr (hk.keeps k') XC.init) (fun h' self k'=>PySem.W.bind_fn (hk.keeps k') self XC.fn)
 refine mk (Yl (F.run _ X.stack _ _ ⟨[VV (s.heap.objs.size+1)],[]⟩ [VV (s.heap.objs.size+1)] _ _ E (hr.make C [] []) (I2.env0.make C [] []) (hb _ [VV (s.heap.objs.size+1)] I2.kIn hl) r2 hq) fun r s' hq'=>?_)
 cases r with
 | error e=>exact hx ZY σ _ _ e s' I2 hq'
 | ok fl =>
  cases fl with
  | ret u =>
   obtain⟨v,H',I3,rv,ev,q3⟩:=I2.after hq'
   subst ev
   exact⟨rv,⟨V.ref (s.heap.objs.size+1),H',I3,U,q3⟩⟩
  | next=>exact Wu hq'
  | brk=>exact Wu hq'
  | cont=>exact Wu hq'
def Throws (X:Cx)(W:Addr->Addr->Addr->Hp->Prop):Prop:=∀ (ZY:DI) (σ:St) (H:Hp) (s:Vt) (x C dx:Addr),Inv X ZY σ H s->H x=some (xO x C (some dx))->W x C dx H->X.xe (.ref x) s
def QL (K:V3)(W:Addr->Addr->Addr->Hp->Prop)(te:TE):TS:=fun _ σ H=>te σ H fun v H1=>∃ (x C f dx:Addr) (n:Wb),v = .ref x/\H1 x=some (xO x C (some dx))/\Lf K C f n/\W x C dx H1
def K9 {W:Addr->Addr->Addr->Hp->Prop}(hc:X.calm=true)(he:PE X e te)(hw:Throws X W):PS X (.Raise (some e) none pos) (QL X.K W te):=by
 intro ZY s σ H D I h
 rw[arm_exec_Raise]
 refine Vr (Yo ?_)
 have go:VG (VM X.prog X.w) X.A (Xv e X.env) (fun v s1=>∃ x C f dx n H1,v=VV x/\Inv X ZY σ H1 s1/\H1 x=some (xO x C (some dx))/\Lf X.K C f n/\W x C dx H1) X.xe s:=thn (he ZY s σ H _ I h) fun u s1 ⟨v,H1,I1,r,x,C,f,dx,n,ev,hx,XC,hW⟩=>by
  subst ev
  exact⟨x,C,f,dx,n,H1,r,I1,hx,XC,hW⟩
 show VG _ _ (raiseStmt X.env (some (do let v ← Xv e X.env;Zx pos;pure v)) none) _ _ _
 refine Gr (I.ok.hd hc) (Vr (thn go fun v s1 ⟨x,C,f,dx,n,H1,ev,I1,hx,XC,hW⟩=>Vr (Yo (Vv ?_))))
 obtain⟨⟨t0,e0⟩,_⟩:=I1.hok x _ hx
 obtain⟨nm,q1,N,bs,bm,hdct,sn,sub,ab,col,dd,k0,k1,k2,k3,k5,lk,VE⟩:=XC.obj
 exact⟨x,t0,C,some dx,nm,q1,N,bs,bm,hdct,sn,sub,ab,col,dd,k0,k1,k2,k3,k5,_,ev,I1.kIn _ _ lk,VE.b,e0,hw ZY σ H1 s1 x C dx I1 hx hW⟩
end
structure Fly (B:WD)(l:D4)(x C dx:Addr)(fl:Value)(h:WD):Prop where
 stay:B.StaysIn h
 bx:B.get? x=none
 frs:h.FunFrames B l
 tr:∃ vs T oT ts sl,h.get? x=some { cls:=.ref C,dict:=some dx,data:=.fields vs,slots:=sl }/\vs[1]? = some (.ref T)/\B.get? T=none/\T≠x/\h.get? T=some oT/\oT.data = .fields ts/\ts[3]? = some fl
structure Up (h h':WD):Prop where
 sl:h.UpToSlots h'
 th:∀ b o,h.get? b=some o->∃ o',h'.get? b=some o'
def Up.trans {h h1 h2:WD}(a:Up h h1)(b:Up h1 h2):Up h h2:=⟨a.sl.trans b.sl,fun c o e=>let ⟨o1,e1⟩:=a.th c o e;b.th c o1 e1⟩
section
variable {M:Model}{A:Wm}{E:DM}{s:Vt}{B:WD}{env:Env}{outer:D4}{L x C dx:Addr}{Q:Unit->Vt->Prop}
def wI {vs:Array Value}{sl:Array (DO)}{head:Value}{hadNext:Bool}(hfr:A.frames=some (env::outer))(hl:s.heap.FunFrames B (env::outer))(hf:env.frame=some L)
  (ex:s.heap.get? x=some { cls:=.ref C,dict:=some dx,data:=.fields vs,slots:=sl }) (st:B.StaysIn s.heap) (bx:B.get? x=none) (sz:1 < vs.size)
  (h:∀ h',Fly B (env::outer) x C dx (WM L) h'->Up s.heap h'->Q () { s with heap:=h' }) :
  VG M A (do let a ← frameOf env;let pl ← entryPlaceOf L hadNext;let b ← EntryCells.newEntry head a .none (WM L) .none pl;setField (.ref x) 1 b) Q E s:=by
 have nx:x ∉ (env::outer).filterMap (·.frame):=fun hm=>by
  obtain⟨_,o,ho,nf⟩:=hl.mem hm
  rw[ex] at ho
  cases ho
  exact nf vs U
 refine Vr (wpAny_frameOf_fun hfr hl hf fun h1 s1=>Vr (wpAny_entryPlaceOf fun pl hpl=>?_))
 unfold EntryCells.newEntry newFields
 refine Vr (Wv ?_ (hpl.sizeOk5 _ _ _ _ _))
 have e1:h1.get? x=_:=(s1.2.1 x nx).trans ex
 have st1:B.StaysIn h1:=fun b o z=>(s1.2.1 b fun hm=>by rw[(hl.mem hm).1] at z;cases z).trans (st b o z)
 generalize eo:({ cls:=.type "traceback",dict:=none,data:=.fields ([head,.ref L,.none,WM L,.none]++(if pl.isEmpty then Xd 6 Xk else pl)).toArray }:X8)=oT
 have dT:oT.data = .fields ([head,.ref L,.none,WM L,.none]++(if pl.isEmpty then Xd 6 Xk else pl)).toArray:=by rw[← eo]
 have e2:=Vu oT e1
 refine XF e2 U sz (h _ ?_ ?_)
 all_goals
  have hTx:h1.objs.size≠x:=YT (VL e1)
  have keep:∀ b o,b≠x->h1.get? b=some o->((h1.push oT).update x (XH (·.setIfInBounds 1 (VV h1.objs.size)))).get? b=some o:=fun b o hb z=>by
   rw[V9 _ _ (Xl hb)]
   exact Vu _ z
  have nrec:∀ b o,s.heap.get? b=some o->(∀ vs,o.data≠.fields vs)->b≠x:=fun b o z nf q=>by
   rw[q,ex] at z
   cases z
   exact nf vs U
 ·refine⟨fun b o z=>keep b o (fun q=>by rw[q,bx] at z;cases z) (st1 b o z),bx,hl.of_keeps fun b o z nf=>?_,?_⟩
  ·obtain⟨sl',hs⟩:=s1.2.2 b o z
   exact⟨_,keep b _ (nrec b o z nf) hs,U⟩
  ·have e3:=Wh (XH (·.setIfInBounds 1 (VV h1.objs.size))) e2 U
   have hT:((h1.push oT).update x (XH (·.setIfInBounds 1 (VV h1.objs.size)))).get? h1.objs.size=some oT:=by
    rw[V9 _ _ (Xl hTx)]
    exact VN h1 (by rw[← eo];rfl)
   refine⟨vs.setIfInBounds 1 (.ref h1.objs.size),h1.objs.size,oT,_,sl,e3,by simp [sz],st1.fresh,hTx,hT,dT,?_⟩
   rcases hpl with rfl | ⟨_,_,_,_,_,_,_,rfl⟩ <;> simp
 ·refine⟨fun b o z nf=>?_,fun b o z=>?_⟩
  ·obtain⟨sl',hs⟩:=s1.2.2 b o z
   exact⟨sl',keep b _ (nrec b o z nf) hs⟩
  ·by_cases hb:b=x
   ·subst hb
    exact⟨_,Wh (XH (·.setIfInBounds 1 (VV h1.objs.size))) e2 U⟩
   ·obtain⟨sl',hs⟩:=s1.2.2 b o z
    exact⟨_,keep b _ hb hs⟩
def jV {fl:Value}{l:D4}(F:Fly B l x C dx fl s.heap)(h:∀ h',Fly B l x C dx .none h'->Up s.heap h'->Q () { s with heap:=h' }):VG M A (setFlight (.ref x) none) Q E s:=by
 obtain⟨st,bx,fr,vs,T,oT,ts,sl,ex,v1,bT,hTx,hT,dT,t3⟩:=F
 unfold setFlight
 refine Vr (Yq ex U v1 ?_)
 rw[if_pos (show (VV T != Xk)=true by simp)]
 have s3:3 < ts.size:=(Array.getElem?_eq_some_iff.mp t3).1
 refine XF hT dT s3 (h _ ?_ ?_)
 all_goals
  have keep:∀ b o,b≠T->s.heap.get? b=some o->(s.heap.update T (XH (·.setIfInBounds 3 ((none:DT).elim Xk fun f=>WM f)))).get? b=some o:=fun b o hb z=>(V9 _ _ (Xl hb)).trans z
  have nrec:∀ b o,s.heap.get? b=some o->(∀ vs,o.data≠.fields vs)->b≠T:=fun b o z nf q=>by
   rw[q,hT] at z
   cases z
   exact nf ts dT
 ·refine⟨fun b o z=>keep b o (fun q=>by rw[q,bT] at z;cases z) (st b o z),bx,fr.of_keeps fun b o z nf=>⟨o,keep b o (nrec b o z nf) z,rfl⟩,vs,T,_,ts.setIfInBounds 3 .none,sl,keep x _ (Xl hTx) ex,v1,bT,hTx,Wh _ hT (abf (aaD dT _)),aaD dT _,by simp [s3]⟩
 ·refine⟨fun b o z nf=>⟨o.slots,keep b o (nrec b o z nf) z⟩,fun b o z=>?_⟩
  by_cases hb:b=T
  ·subst hb
   exact⟨_,Wh _ hT (abf (aaD dT _))⟩
  ·exact⟨o,keep b o hb z⟩
def Gy {t:Addr}(hfr:A.frames=some (env::outer))(hl:s.heap.FunFrames B (env::outer))(hf:env.frame=some L)(ex:s.heap.get? x=some (pJ C t (some dx)))(st:B.StaysIn s.heap)(bx:B.get? x=none)
  (h:∀ h',Fly B (env::outer) x C dx .none h'->Up s.heap h'->Q () { s with heap:=h' }):VG M A (leaving env (.ref x)) Q E s:=by
 unfold leaving Z8
 simp only[hf]
 refine Vr (Vr (Yq ex U (x:=.none) U ?_))
 rw[if_neg (by decide)]
 refine wI hfr hl hf ex st bx (by show 1 < 6;decide) fun h1 F1 u1=>?_
 exact jV (s:={ s with heap:=h1 }) F1 fun h2 F2 u2=>h h2 F2 (u1.trans u2)
def vD (hfr:A.frames=some (env::outer))(hf:env.frame=some L)(F:Fly B (env::outer) x C dx .none s.heap)
  (h:∀ h',Fly B (env::outer) x C dx (WM L) h'->Up s.heap h'->Q () { s with heap:=h' }):VG M A (Z8 (.ref x) env) Q E s:=by
 obtain⟨st,bx,fr,vs,T,oT,ts,sl,ex,v1,bT,hTx,hT,dT,t3⟩:=F
 unfold Z8
 simp only[hf]
 refine Vr (Yq ex U v1 ?_)
 rw[if_pos (show (VV T != Xk)=true by simp)]
 refine Vr (Yq hT dT t3 ?_)
 rw[if_neg (show ¬ ((Xk == WM L)=true) by simp [WM])]
 refine Vr (XF hT dT (Array.getElem?_eq_some_iff.mp t3).1 ?_)
 have keep:∀ b o,b≠T->s.heap.get? b=some o->(s.heap.update T (XH (·.setIfInBounds 3 Xk))).get? b=some o:=fun b o hb z=>(V9 _ _ (Xl hb)).trans z
 have nrec:∀ b o,s.heap.get? b=some o->(∀ vs,o.data≠.fields vs)->b≠T:=fun b o z nf q=>by
  rw[q,hT] at z
  cases z
  exact nf ts dT
 refine wI (s:={ s with heap:=s.heap.update T (XH (·.setIfInBounds 3 Xk)) }) hfr (fr.of_keeps fun b o z nf=>⟨o,keep b o (nrec b o z nf) z,U⟩) hf (keep x _ (Xl hTx) ex) (fun b o z=>keep b o (fun q=>by rw[q,bT] at z;cases z) (st b o z)) bx (Array.getElem?_eq_some_iff.mp v1).1 fun h1 F1 u1=>h h1 F1 ?_
 refine Up.trans ⟨fun b o z nf=>⟨o.slots,keep b o (nrec b o z nf) z⟩,fun b o z=>?_⟩ u1
 by_cases hb:b=T
 ·subst hb
  exact⟨_,Wh _ hT (abf (aaD dT _))⟩
 ·exact⟨o,keep b o hb z⟩
def Cg (hfr:A.frames=some (env::outer))(hf:env.frame=some L)(F:Fly B (env::outer) x C dx .none s.heap)
  (h:∀ h',Fly B (env::outer) x C dx .none h'->Up s.heap h'->Q () { s with heap:=h' }):VG M A (leaving env (.ref x)) Q E s:=by
 unfold leaving
 refine Vr (vD hfr hf F fun h1 F1 u1=>?_)
 exact jV (s:={ s with heap:=h1 }) F1 fun h2 F2 u2=>h h2 F2 (u1.trans u2)
end
structure Lie (P:V4)(w:Wn)(outer:D4)(H:Hp)(s:Vt)(x C dx:Addr)(H':Hp)(B:WD)(s':Vt):Prop where
 os:s'.os=s.os
 bare:aaO s'.gens
 fly:Fly B outer x C dx .none s'.heap
 un:Un (frs outer) [] H H' s.heap s'.heap
 hok:HOk P w H' s'.heap
 kb:∀ b o,s.heap.get? b=some o->H b=none->b ∉ frs outer->B.get? b=some o
 hb:∀ b u,H' b=some u->∃ o,s'.heap.get? b=some o/\B.get? b=some o
 xn:H' x=none
def XL (P:V4)(w:Wn):CXT:=fun outer H s E e s'=>∃ (x C dx:Addr) (H':Hp) (B:WD),e = .ref x/\Lie P w outer H s x C dx H' B s'/\E (.ref C) (some dx) H'
def off (H:Hp)(x:Addr):Hp:=fun b=>if b=x then none else H b
def off_ne {H:Hp}{x b:Addr}(h:b≠x):off H x b=H b:=if_neg h
def uM {H:Hp}{x b:Addr}{u:HO}(h:off H x b=some u):b≠x/\H b=some u:=by
 unfold off at h
 split at h
 ·cases h
 ·rename_i z
  exact⟨z,h⟩
def qb {P:V4}{w:Wn}{H H':Hp}{h h':WD}(k:HOk P w H h)(sub:∀ b u,H' b=some u->H b=some u)(ow:∀ b a,H b=some (.own a)->H' b=some (.own a))(tp:∀ b xs,H b=some (.tup xs)->H' b=some (.tup xs))(keep:∀ b u o,H' b=some u->h.get? b=some o->h'.get? b=some o):HOk P w H' h':=fun b u e =>
 (k b u (sub b u e)).stay (fun c o hc q=>by
  rcases hc with rfl | hc
  ·exact keep c u o e q
  ·exact keep c _ o (ow c b hc) q) (fun c q=>ow c b q) tp
def uw {P:V4}{w:Wn}{H:Hp}{h:WD}{a:Addr}{u:HO}(x:dU P w H h a u):∃ o,h.get? a=some o:=by
 cases u with
 | lst xs=>obtain⟨_,_,_,_,e⟩:=x;exact⟨_,e⟩
 | tup xs=>obtain⟨_,_,_,ob,e,_⟩:=x;exact⟨_,e⟩
 | dK kvs=>obtain⟨_,_,_,_,ob,_,_,e,_⟩:=x;exact⟨_,e⟩
 | dT kvs=>obtain⟨_,_,_,_,ob,_,_,e,_⟩:=x;exact⟨_,e⟩
 | set S n=>obtain⟨ob,_,_,_,e,_⟩:=x;exact⟨_,e⟩
 | ins C dx fs=>obtain⟨_,_,_,e,_⟩:=x;exact⟨_,e⟩
 | own y=>exact x
 | xd fs=>obtain⟨_,⟨od,_,_,e,_⟩,_⟩:=x;exact⟨_,e⟩
 | rng lo hi=>obtain⟨_,_,_,e⟩:=x;exact⟨_,e⟩
 | frz ob u=>exact⟨_,x.1⟩
 | tbl ps=>exact⟨_,x⟩
 | met f y=>exact⟨_,x⟩
 | ext φ=>exact x.2.1
section
variable {P:V4}{w:Wn}{K:V3}{mg:Wb->Option Value}{base:WD}{N:List Wb}{qual:Wb}{scope:Yg}{f:Addr}{cd:Value}{A:Wm}{outer:List Env}{s₀:Vt}{H₀:Hp}{E:XK}
def dF:Throws (wW (XL P w) P w K mg base N qual scope f cd A outer s₀ H₀ E) fun x C dx H=>E (.ref C) (some dx) (off H x):=by
 intro ZY σ H s x C dx I hx hE
 obtain⟨⟨t,ex⟩,_⟩:=I.hok x _ hx
 have stk:=I.stack
 have fre:=I.Ah
 have xs:x ∉ frs (envOfC qual scope s₀.heap.objs.size f cd::outer):=fun z=>by rw[fre x z] at hx;cases hx
 have hin:∀ env∈(envOfC qual scope s₀.heap.objs.size f cd::outer),∀ b,env.frame=some b->b∈x::frs (envOfC qual scope s₀.heap.objs.size f cd::outer):=fun env he b hb=>VR _ (List.mem_filterMap.mpr ⟨env,he,hb⟩)
 have F:=PySem.W.funFrames_hide stk hin
 show VG (VM P w) _ (leaving _ (.ref x)) _ _ s
 refine Gy (B:=acw s.heap (x::frs (envOfC qual scope s₀.heap.objs.size f cd::outer))) (outer:=outer) (L:=s₀.heap.objs.size) I.ok.frames F U ex (fun b o e=>PySem.W.of_hideAll _ e) (PySem.W.hideAll_none _ VP) fun h' F' u'=>?_
 have inB:∀ b o,s.heap.get? b=some o->b≠x->b ∉ frs (envOfC qual scope s₀.heap.objs.size f cd::outer)->(acw s.heap (x::frs (envOfC qual scope s₀.heap.objs.size f cd::outer))).get? b=some o:=fun b o e h1 h2=>PySem.W.hideAll_get _ e fun z=>(List.mem_cons.mp z).elim h1 h2
 have tk:∀ b u,H b=some u->b ∉ frs (envOfC qual scope s₀.heap.objs.size f cd::outer):=fun b u e z=>by rw[fre b z] at e;cases e
 have old:∀ b o,s₀.heap.get? b=some o->H₀ b=none->b ∉ frs outer->s.heap.get? b=some o/\H b=none/\b ∉ frs (envOfC qual scope s₀.heap.objs.size f cd::outer):=fun b o e n hb=>by
  refine⟨I.base.keep b o e n hb (fun z=>nomatch z),I.base.free b o e n (fun z=>nomatch z),fun z=>?_⟩
  rcases List.mem_cons.mp (I.tM b z) with z | z
  ·have:=Vx (VL e) I.ok.above
   rw[z] at this
   exact WK _ this
  ·exact hb z
 have nx:∀ b u,H b=some u->u≠xO x C (some dx)->b≠x:=fun b u e ne z=>by
  subst z
  rw[hx] at e
  exact ne (Wo e).symm
 refine⟨x,C,dx,off H x,_,U,⟨I.os,I.bare,⟨F'.stay,F'.bx,F'.frs.2.2,F'.tr⟩,⟨fun b o e n hb _=>?_,fun b o e n hb _=>?_,fun b o e n _=>?_,fun b o e _=>?_,fun b xs' e=>?_,fun b o u e=>?_,fun b ps e=>?_⟩,?_,fun b o e n hb=>?_,fun b u e=>?_,if_pos U⟩,hE⟩
 ·obtain⟨e1,e2,e3⟩:=old b o e n hb
  exact F'.stay b o (inB b o e1 (fun z=>by rw[z,hx] at e2;cases e2) e3)
 ·obtain⟨sl,e1⟩:=I.base.slot b o e n hb (fun z=>nomatch z)
  obtain⟨_,o',ho',nf⟩:=I.ok.um.mem hb
  have z:some o=some o':=e.symm.trans ho'
  cases z
  obtain⟨sl',e2⟩:=u'.sl b _ e1 nf
  exact⟨sl',e2⟩
 ·have z:=I.base.free b o e n (fun z=>nomatch z)
  unfold off
  split
  ·rfl
  ·exact z
 ·obtain⟨o1,e1⟩:=I.base.there b o e (fun z=>nomatch z)
  exact u'.th b o1 e1
 ·have z:=I.base.tups b xs' e
  rw[off_ne (nx b _ z (fun q=>nomatch q))]
  exact z
 ·have z:=I.base.frzs b o u e
  rw[off_ne (nx b _ z (fun q=>nomatch q))]
  exact z
 ·obtain⟨more,z⟩:=I.base.tbls b ps e
  exact⟨more,by rw[off_ne (nx b _ z (fun q=>nomatch q))];exact z⟩
 ·refine qb I.hok (fun b u e=>(uM e).2) (fun b a e=>by rw[off_ne (nx b _ e (fun q=>nomatch q))];exact e) (fun b xs' e=>by rw[off_ne (nx b _ e (fun q=>nomatch q))];exact e) fun b u o e q=>?_
  obtain⟨h1,h2⟩:=uM e
  exact F'.stay b o (inB b o q h1 (tk b u h2))
 ·obtain⟨e1,e2,e3⟩:=old b o e n hb
  exact inB b o e1 (fun z=>by rw[z,hx] at e2;cases e2) e3
 ·obtain⟨h1,h2⟩:=uM e
  obtain⟨o,e1⟩:=uw (I.hok b u h2)
  have e2:=inB b o e1 h1 (tk b u h2)
  exact⟨o,F'.stay b o e2,e2⟩
end
section
variable {P:V4}{w:Wn}{K:V3}{mg:Wb->Option Value}{base:WD}{N:List Wb}{qual:Wb}{scope:Yg}{f:Addr}{cd:Value}{A:Wm}{outer:List Env}{s₀:Vt}{H₀:Hp}{E:XK}
def cg:Passes (XL P w) (wW (XL P w) P w K mg base N qual scope f cd A outer s₀ H₀ E) E:=by
 intro ZY σ H s e s' I hl
 obtain⟨x,C,dx,H',B,rfl,Li,hE⟩:=hl
 show VG (VM P w) _ (leaving _ (.ref x)) _ _ s'
 refine Cg (outer:=outer) (L:=s₀.heap.objs.size) I.ok.frames U Li.fly fun h' F' u'=>?_
 have old:∀ b o,s₀.heap.get? b=some o->H₀ b=none->b ∉ frs outer->s.heap.get? b=some o/\H b=none/\b ∉ frs (envOfC qual scope s₀.heap.objs.size f cd::outer):=fun b o e n hb=>by
  refine⟨I.base.keep b o e n hb (fun z=>nomatch z),I.base.free b o e n (fun z=>nomatch z),fun z=>?_⟩
  rcases List.mem_cons.mp (I.tM b z) with z | z
  ·have:=Vx (VL e) I.ok.above
   rw[z] at this
   exact WK _ this
  ·exact hb z
 have inS:∀ b,b∈frs outer->b∈frs (envOfC qual scope s₀.heap.objs.size f cd::outer):=fun b hb=>by
  obtain⟨en,h1,h2⟩:=List.mem_filterMap.mp hb
  exact List.mem_filterMap.mpr ⟨en,VR _ h1,h2⟩
 refine⟨x,C,dx,H',B,U,⟨Li.os.trans I.os,Li.bare,⟨F'.stay,F'.bx,F'.frs.2.2,F'.tr⟩,⟨fun b o e n hb _=>?_,fun b o e n hb _=>?_,fun b o e n _=>?_,fun b o e _=>?_,fun b xs' e=>Li.un.tups b xs' (I.base.tups b xs' e),fun b o u e=>Li.un.frzs b o u (I.base.frzs b o u e),fun b ps e=>?_⟩,?_,fun b o e n hb=>?_,fun b u e=>?_,Li.xn⟩,hE⟩
 ·obtain⟨e1,e2,e3⟩:=old b o e n hb
  exact F'.stay b o (Li.kb b o e1 e2 e3)
 ·obtain⟨sl,e1⟩:=I.base.slot b o e n hb (fun z=>nomatch z)
  have n1:=I.base.free b o e n (fun z=>nomatch z)
  obtain⟨_,o',ho',nf⟩:=I.ok.um.mem hb
  have z:some o=some o':=e.symm.trans ho'
  cases z
  obtain⟨sl1,e2⟩:=Li.un.slot b _ e1 n1 (inS b hb) (fun z=>nomatch z)
  obtain⟨sl2,e3⟩:=u'.sl b _ e2 nf
  exact⟨sl2,e3⟩
 ·have n1:=I.base.free b o e n (fun z=>nomatch z)
  obtain⟨o1,e1⟩:=I.base.there b o e (fun z=>nomatch z)
  exact Li.un.free b o1 e1 n1 (fun z=>nomatch z)
 ·obtain⟨o1,e1⟩:=I.base.there b o e (fun z=>nomatch z)
  obtain⟨o2,e2⟩:=Li.un.there b o1 e1 (fun z=>nomatch z)
  exact u'.th b o2 e2
 ·obtain⟨m1,z⟩:=I.base.tbls b ps e
  obtain⟨m2,z2⟩:=Li.un.tbls b _ z
  exact⟨m1++m2,by rw[z2,aaH]⟩
 ·refine qb Li.hok (fun _ _ e=>e) (fun _ _ e=>e) (fun _ _ e=>e) fun b u o e q=>?_
  obtain⟨o',e1,e2⟩:=Li.hb b u e
  rw[e1] at q
  cases q
  exact F'.stay b _ e2
 ·obtain⟨e1,e2,e3⟩:=old b o e n hb
  exact Li.kb b o e1 e2 e3
 ·obtain⟨o',e1,e2⟩:=Li.hb b u e
  exact⟨o',F'.stay b _ e2,e2⟩
end
def Lie.on {P:V4}{w:Wn}{l:D4}{H H':Hp}{s s':Vt}{x C dx:Addr}{B B0 h':WD}(Li:Lie P w l H s x C dx H' B s')(F':Fly B l x C dx .none h')(u':Up s'.heap h')(ff:s.heap.FunFrames B0 l) :
  Lie P w l H s x C dx H' B { s' with heap:=h' }:=by
 refine⟨Li.os,Li.bare,F',⟨fun b o e n hb _=>F'.stay b o (Li.kb b o e n hb),fun b o e n hb _=>?_,fun b o e n _=>Li.un.free b o e n (fun z=>nomatch z),fun b o e _=>?_,Li.un.tups,Li.un.frzs,Li.un.tbls⟩,?_,Li.kb,fun b u e=>?_,Li.xn⟩
 ·obtain⟨sl,e2⟩:=Li.un.slot b o e n hb (fun z=>nomatch z)
  obtain⟨_,o',ho',nf⟩:=ff.mem hb
  have z:some o=some o':=e.symm.trans ho'
  cases z
  obtain⟨sl2,e3⟩:=u'.sl b _ e2 nf
  exact⟨sl2,e3⟩
 ·obtain⟨o2,e2⟩:=Li.un.there b o e (fun z=>nomatch z)
  exact u'.th b o2 e2
 ·refine qb Li.hok (fun _ _ e=>e) (fun _ _ e=>e) (fun _ _ e=>e) fun b u o e q=>?_
  obtain⟨o',e1,e2⟩:=Li.hb b u e
  rw[e1] at q
  cases q
  exact F'.stay b _ e2
 ·obtain⟨o',e1,e2⟩:=Li.hb b u e
  exact⟨o',F'.stay b _ e2,e2⟩
def cO (x C dx:Addr):HO:=.ext fun h=>∃ vs sl,h.get? x=some { cls:=.ref C,dict:=some dx,data:=.fields vs,slots:=sl }
def Tg {P:V4}{w:Wn}{H:Hp}{h:WD}{x C dx:Addr}{vs:Array Value}{sl:Array (DO)}(e:h.get? x=some { cls:=.ref C,dict:=some dx,data:=.fields vs,slots:=sl }):dU P w H h x (cO x C dx) :=
 ⟨⟨vs,sl,e⟩,⟨_,e⟩,fun h1 h2 ⟨vs',sl',e'⟩ k=>⟨vs',sl',k _ e'⟩⟩
abbrev Cx.marked (X:Cx)(x:Addr):Cx:={ X with A:=X.A.mark (some (.ref x)),calm:=false,xe:=fun _ _=>False }
def Cx.Ok.marked {X:Cx}(ok:X.Ok)(x:Addr):(X.marked x).Ok :=
 ⟨ok.mod,ok.kind,ok.glob,ok.blt,ok.above,ok.inj,ok.has,ok.cab,(fun z=>nomatch z),ok.frames,ok.stk,ok.exf,ok.bs,ok.bsz,ok.noex,ok.exfs,ok.um,ok.frf⟩
def Cx.Ok.unmarked {X:Cx}{x:Addr}(hd:X.calm=true->X.A.handled=none)(ok:(X.marked x).Ok):X.Ok :=
 ⟨ok.mod,ok.kind,ok.glob,ok.blt,ok.above,ok.inj,ok.has,ok.cab,hd,ok.frames,ok.stk,ok.exf,ok.bs,ok.bsz,ok.noex,ok.exfs,ok.um,ok.frf⟩
section
variable {X:Cx}{ZY:DI}{σ:St}{H H':Hp}{s s':Vt}{x C dx:Addr}{B:WD}
def Inv.marked (I:Inv X ZY σ H s)(x:Addr):Inv (X.marked x) ZY σ H s:=⟨I.ok.marked x,I.os,I.bare,I.base,I.loc,I.cell,I.free,I.freeC,I.pin,I.hok,I.len⟩
def Inv.unmarked (I:Inv (X.marked x) ZY σ H s)(hd:X.calm=true->X.A.handled=none):Inv X ZY σ H s:=⟨I.ok.unmarked hd,I.os,I.bare,I.base,I.loc,I.cell,I.free,I.freeC,I.pin,I.hok,I.len⟩
def Lie.back (I:Inv X ZY σ H s)(Li:Lie X.prog X.w X.stack H s x C dx H' B s'):Inv X ZY σ (upd H' x (cO x C dx)) s':=by
 have J:=I.call' (s':=s') (ch:=[]) Li.os Li.un Li.hok Li.bare (fun b z=>nomatch z)
 obtain⟨vs,T,oT,ts,sl,ex,_⟩:=Li.fly.tr
 have xs:x ∉ frs X.stack:=fun z=>by
  obtain⟨_,o,ho,nf⟩:=Li.fly.frs.mem z
  rw[ex] at ho
  cases ho
  exact nf vs U
 have xl:x≠X.env.locals:=fun z=>by
  obtain⟨m,⟨o,es,ep,e,d,_⟩,_⟩:=J.loc
  rw[← z,ex] at e
  cases e
  cases d
 have out:∀ b o,s.heap.get? b=some o->H b=none->b≠x:=fun b o e n z=>by
  subst z
  have:=Li.kb b o e n xs
  rw[Li.fly.bx] at this
  cases this
 have hne:∀ b u,H' b=some u->b≠x:=fun b u e z=>by
  rw[z,Li.xn] at e
  cases e
 refine⟨J.ok,J.os,J.bare,⟨J.base.keep,J.base.slot,fun b o e n he=>?_,J.base.there,fun b xs' e=>?_,fun b o u e=>?_,fun b ps e=>?_⟩,J.loc,J.cell,?_,fun y c e=>?_,fun p hp=>?_,?_,J.len⟩
 ·have n1:=I.base.free b o e n he
  obtain⟨o1,e1⟩:=I.base.there b o e he
  rw[aM (out b o1 e1 n1)]
  exact J.base.free b o e n he
 ·have z:=J.base.tups b xs' e
  rw[aM (hne b _ z)]
  exact z
 ·have z:=J.base.frzs b o u e
  rw[aM (hne b _ z)]
  exact z
 ·obtain⟨m,z⟩:=J.base.tbls b ps e
  exact⟨m,by rw[aM (hne b _ z)];exact z⟩
 ·rw[aM (Xl xl)]
  exact J.free
 ·obtain⟨v,o,ho,hd⟩:=J.cell y c e
  have:c≠x:=fun z=>by
   rw[z,ex] at ho
   cases ho
   cases hd
  rw[aM this]
  exact J.freeC y c e
 ·obtain⟨e1,e2,e3⟩:=J.pin p hp
  obtain⟨i1,i2,i3⟩:=I.pin p hp
  refine⟨e1,?_,e3⟩
  rw[aM (out _ _ i1 i2)]
  exact e2
 ·intro b u e
  by_cases hb:b=x
  ·subst hb
   rw[aj] at e
   cases e
   exact Tg ex
  ·rw[aM hb] at e
   refine (J.hok b u e).stay (fun _ _ _ q=>q) (fun c q=>?_) fun c xs' q=>?_
   ·rw[aM (hne c _ q)]
    exact q
   ·rw[aM (hne c _ q)]
    exact q
end
structure XRd (K:VB)(C G:Addr)(f:Wb):Prop where
 obj:∃ nm q N bs bm hdct sn sub ab col dd k0 k1 k2 k3 k5 id,K.lookup C=some (YQ nm q C N bs bm hdct sn sub ab col dd k0 k1 k2 k3 k5 id)/\(VV C::bm).contains (.ref G)=true
 top:∃ nm q N bs bm hdct sn sub ab col dd k0 k1 k2 k3 k5 id,K.lookup G=some (YQ nm q G N bs bm hdct sn sub ab col dd k0 k1 k2 k3 k5 id)/\bm.contains (.type "BaseException")=true
 ga:W5 K (.ref C) "__getattribute__" = some (some (.builtin "BaseException.__getattribute__"))
 gh:W5 K (.ref C) "__getattr__" = some none
 up:∃ cd,PySem.W.clsIn K C=some cd/\tD cd.mro=true
 hd:Zc K C=true
 no:W5 K (.ref C) f=some none
section
variable {M:Model}{A:Wm}{E:DM}{K:V3}{s:Vt}{C G x dx:Addr}{f:Wb}{vs:Array Value}{sl:Array (DO)}
def yh {Q:Bool->Vt->Prop}(X:K.In s.heap)(R:XRd K C G f)(he:s.heap.get? x=some { cls:=.ref C,dict:=some dx,data:=.fields vs,slots:=sl })(hq:Q true s):VG M A (excMatches (.ref x) (.ref G)) Q E s:=by
 obtain⟨n1,q1,N1,bs1,bm1,hd1,sn1,sub1,ab1,col1,dd1,a0,a1,a2,a3,a5,id1,l1,c1⟩:=R.obj
 obtain⟨n2,q2,N2,bs2,bm2,hd2,sn2,sub2,ab2,col2,dd2,b0,b1,b2,b3,b5,id2,l2,c2⟩:=R.top
 have h1:=X _ _ l1
 have h2:=X _ _ l2
 have cB:(VV G::bm2).contains (.type "BaseException")=true:=by rw[XQ,c2,ZC]
 have nt:=tc_notTuple
 obtain⟨hp,g,d,tk,os⟩:=s
 unfold excMatches
 repeat (first | with_reducible refine Xu he ?_ | with_reducible refine Xu h2 ?_ | (with_reducible refine Yj h2 ?_;rw[cB]) | (with_reducible refine Yj h1 ?_;rw[c1]) | wp_step)
 exact hq
end
theorem wM:∀ {l:DV},tD l=true->l.contains (.type "BaseException")=true
 | [],h=>by cases h
 | a::r,h=>by
  rcases mG h with⟨c,rfl,h'⟩ | e
  ·rw[XQ,wM h',ZC]
  ·rw[e]
   rfl
section
variable {prog:V4}{w:Wn}{A:Wm}{E:DM}{K:V3}{s:Vt}{C G x:Addr}{ox:X8}{od:Option X8}{f:Wb}{expr:Bool}{v:Value}
def O4 {Q:DM}(X:K.In s.heap)(R:XRd K C G f)(I:W.InstAt s.heap x ox C od)(hf:W.findObj K C od f=some (.value v))(hh:W.handedIn v=true)(h:Q v { s with toks:=s.toks+1 }) :
  VG (VM prog w) A (getAttr (.ref x) f expr) Q E s:=by
 obtain⟨cd,hc,hu⟩:=R.up
 have ne:cd.mro.isEmpty=false:=by cases q:cd.mro with | nil=>rw[q] at hu;cases hu | cons _ _=>rfl
 have sub:abH (VM prog w) s.heap (isInstance (.ref x) (.type "BaseException")) true:=I.type.andThen (PySem.W.looks_mroIn X (by unfold PySem.W.mroIn;rw[hc,Option.bind_some,if_neg (by rw[ne];decide),wM hu]))
 have L0:=I.type (M:=VM prog w)
 have L1:=Zr (M:=VM prog w) X R.ga
 have L2:=Zr (M:=VM prog w) X R.gh
 have L3:=PySem.W.looks_find (M:=VM prog w) X I hf
 obtain⟨hp,g,d,t,os⟩:=s
 unfold getAttr getAttrBy
 refine Vr (wpAny_mkText (Xe (Vr (L0.at (Vr (L1.at ?_))))))
 show VG _ _ (if (onTheHeap (VV C) && (abG "BaseException.__getattribute__" == abG "object.__getattribute__"))=true then _ else getAttrByItsOwn (.ref x) (.str f t) (.ref C) (.builtin "BaseException.__getattribute__") true expr) _ _ _
 have nb:(abG "BaseException.__getattribute__" == abG "object.__getattribute__")=false:=by decide+kernel
 rw[nb,Zw,if_neg Vy]
 unfold getAttrByItsOwn
 refine Vr (m:=hookBefore (.ref C)) (show VG _ _ (aax (.ref C) "__getattr__") _ _ _ from L2.at ?_)
 refine Vr (ZK (Xe ?_))
 have ec:callGetattribute (.ref x) (.str f t) (.builtin "BaseException.__getattribute__") expr=boundAndCalled (.builtin "BaseException.__getattribute__") (.ref x) (.str f t):=by
  unfold callGetattribute
  rw[if_neg (by cases expr <;> decide)]
 rw[ec]
 unfold boundAndCalled
 rw[PySem.F.attr_ValueError.ga.bind (.ref x)]
 refine Vr (Vv (Zg (Zj PySem.F.attr_ValueError.ga.plain PySem.F.entry_bexc_ga (@PySem.W.check_slot (VM prog w) _ _ ⟨hp,g,d,t+1,os⟩ "BaseException.__getattribute__" "BaseException" "__getattribute__" (.ref x) [.str f t] [] _ (by decide+kernel) (by decide+kernel) sub (PySem.F.args_bexc_ga _ _) ?_))))
 unfold YZ.«object.__getattribute__»
 refine Vr (Vv (Vr (Vv (Vr (L0.at (Vr (L3.at ?_)))))))
 refine Vv ?_
 show VG _ _ (handedOut v) _ _ _
 rw[PySem.W.handedOut_of hh]
 exact Vv h
end
section
variable {X:Cx}{e:Expr}{f:Wb}{pos:ZD}{ta:TE}
def Qu (K:V3)(ta:TE)(f:Wb):TE:=fun σ H Q=>ta σ H fun x H1=>∃ a C G dx fs v,x = .ref a/\H1 a=some (cO a C dx)/\H1 dx=some (.xd fs)/\XRd K C G f/\fs.lookup f=some v/\Q v H1
def NZ (he:PE X e ta)(hb:aae e f X.env (Xv e X.env)=Xv e X.env):PE X (.Attribute e f pos) (Qu X.K ta f):=by
 intro ZY s σ H Q I h
 refine Fz hb (thn (he ZY s σ H _ I h) fun u s1 ⟨x,H1,I1,rx,a,C,G,dx,fs,v,ex,ea,ed,R,l,q⟩=>?_)
 subst ex
 obtain rfl:u=VV a:=rx
 obtain⟨⟨vs,sl,e0⟩,_⟩:=I1.hok a _ ea
 obtain⟨mA,N,r⟩:=I1.hok dx _ ed
 obtain⟨u,hu,ru⟩:=t7.some_of (v:=v) (o:=mA f) (by rw[← l];exact r f)
 obtain⟨od,ho,hl⟩:=yx N
 have J:PySem.W.InstAt s1.heap a { cls:=.ref C,dict:=some dx,data:=.fields vs,slots:=sl } C (some od):=⟨e0,U,U,ho⟩
 exact O4 I1.kIn R J (PySem.W.findObj_own R.hd R.no U (by rw[hl,hu])) (xT ru) ⟨v,H1,I1.tok _,ru,q⟩
end
def Inv.forget {X:Cx}{ZY:DI}{σ:St}{H:Hp}{s:Vt}{h':WD}{m':Wb->DO}{tk:Nat}(I:Inv X ZY σ H s)(hn:h'.Ns X.env.locals m')(hs:YX X.env.locals s.heap h') :
  Inv X ZY (Xd X.N.length none) H { s with heap:=h',toks:=tk }:=by
 have old:∀ b o,X.s₀.heap.get? b=some o->b≠X.env.locals:=fun b o e=>V5 (Vx (VL e) I.ok.above)
 refine⟨I.ok,I.os,I.bare,⟨fun b o e n hb hx=>(hs.2 b (old b o e)).trans (I.base.keep b o e n hb hx),fun b o e n hb hx=>?_,I.base.free,fun b o e hx=>?_,I.base.tups,I.base.frzs,I.base.tbls⟩,⟨m',hn,fun j y v e1 e2=>?_⟩,fun y c e=>?_,I.free,I.freeC,fun p hp=>?_,fun b ob e=>?_,by simp⟩
 ·obtain⟨sl,e1⟩:=I.base.slot b o e n hb hx
  exact⟨sl,(hs.2 b (old b o e)).trans e1⟩
 ·obtain⟨o',e1⟩:=I.base.there b o e hx
  exact⟨o',(hs.2 b (old b o e)).trans e1⟩
 ·rw[aaW] at e2
  split at e2 <;> cases e2
 ·obtain⟨v,z⟩:=I.cell y c e
  exact⟨v,z.sameBut hs (I.cne y c e)⟩
 ·obtain⟨e1,e2,e3,e4⟩:=I.pin p hp
  exact⟨(hs.2 _ e3).trans e1,e2,e3,e4⟩
 ·refine (I.hok b ob e).stay (fun c o hc q=>(hs.2 c ?_).trans q) (fun _ q=>q) fun _ _ q=>q
  rintro rfl
  rcases hc with rfl | hc
  ·rw[I.free] at e;cases e
  ·rw[I.free] at hc;cases hc
section
variable {X:Cx}{ZY:DI}{σ:St}{H H':Hp}{s s':Vt}{x C G dx:Addr}{B:WD}{c n f:Wb}{p p1 p2 p3 p4 pos:ZD}{k:Nat}{i:Nat}{D:Ends}{fs:List (Wb × V)}{v:V}
def Gs (I:Inv X ZY σ H s)(Li:Lie X.prog X.w X.stack H s x C dx H' B s')(stk:X.stack=X.env::X.outer/\X.env.frame=some X.env.locals)(R:XRd X.K C G f)(hg:Gl X c)(hm:X.mg c=some (.ref G))(hN:X.N.Nodup)(hi:X.N[i]? = some n)
  (hl:X.env.scope.names.lookup n=some .local) (ed:H' dx=some (.xd fs)) (l:fs.lookup f=some v) (q:∀ (u:HO) (a:Addr),upd H' x u a=none->D.rt (.ref a) (upd (upd H' x u) a (.tup [v])))
  (hd:(c == ("__debug__" : Wb))=false:=by decide) (hd1:(n == ("__debug__" : Wb))=false:=by decide) (hd2:(n == ("__classdict__" : Wb))=false:=by decide) :
  VG (VM X.prog X.w) X.A (Z8 (.ref x) X.env) (fun _ s2=>VG (VM X.prog X.w) X.A (setFlight (.ref x) none) (fun _ s3 =>
   VG (VM X.prog X.w) X.A (handleBy (.ref x) X.env [.ExceptHandler (some (.Name c p)) (some n) [.Return (some (.Tuple [.Attribute (.Name n p1) f p2] k p3)) p4] pos]) (SP X ZY D) X.xe s3) X.xe s2) X.xe s':=by
 have fr:X.A.frames=some (X.env::X.outer):=by rw[I.ok.frames,stk.1]
 have fl0:Fly B (X.env::X.outer) x C dx .none s'.heap:=stk.1▸Li.fly
 refine vD fr stk.2 fl0 fun h1 F1 u1=>?_
 refine jV (s:={ s' with heap:=h1 }) F1 fun h2 F2 u2=>?_
 have fl2:Fly B X.stack x C dx .none h2:=stk.1.symm▸F2
 have L2:=Li.on fl2 (u1.trans u2) I.stack
 have I2:=(L2.back I).marked x
 obtain⟨vs,T,oT,ts,sl,ex2,_⟩:=F2.tr
 refine wpAny_handleBy_cons (codeAny_handlers_test ?_) (by intro q;cases q)
 refine jt I2 hg hm ?_ hd
 refine yh I2.kIn R ex2 ?_
 rw[if_pos U]
 refine codeAny_handlers_suite_as ?_
 refine jV (s:={ s' with heap:=h2 }) F2 fun h3 F3 u3=>?_
 have fl3:Fly B X.stack x C dx .none h3:=stk.1.symm▸F3
 have L3:=Li.on fl3 ((u1.trans u2).trans u3) I.stack
 have I3:=(L3.back I).marked x
 refine uB (X:=X.marked x) (v:=.ref x) I3 hN hi (.inl hl) U (fun s4 I4=>?_) (.inr hl)
 have hiσ:i < σ.length:=by
  have:=I.len
  rw[this]
  exact (List.getElem?_eq_some_iff.mp hi).1
 have dxx:dx≠x:=fun z=>by
  rw[z,Li.xn] at ed
  cases ed
 have P:PSs (X.marked x) [.Return (some (.Tuple [.Attribute (.Name n p1) f p2] k p3)) p4] (SN (TY (JX (Qu X.K (CW i) f) Kv))) :=
  az (aD (aZ (aa (NZ (Mu (X:=X.marked x) hi (.inl hl) hd1 hd2) U) ao)))
 refine Ww (P ZY s4 (σ.set i (some (.ref x))) _ { nx:=fun _ _=>False,rt:=D.rt } I4 ?_) (fun fl s5 h5=>?_) fun _ _ z=>z.elim
 ·refine⟨.ref x,Z4 hiσ,⟨x,C,G,dx,fs,v,U,aj,(aM dxx).trans ed,R,l,?_⟩⟩
  exact⟨by rw[aco];show 1<=_;lia,fun a ha=>q _ a ha⟩
 ·cases fl with
  | next=>obtain⟨_,_,_,z⟩:=h5;exact Wu z
  | brk=>obtain⟨_,_,_,z⟩:=h5;exact Wu z
  | cont=>obtain⟨_,_,_,z⟩:=h5;exact Wu z
  | ret u =>
   obtain⟨v5,σ5,H5,I5,r5,q5⟩:=h5
   have J5:Inv X ZY σ5 H5 s5:=I5.unmarked I.ok.hd
   obtain⟨m,hn,_⟩:=id J5.loc
   exact wpAny_nameGoes hl hn (by rw[I.ok.kind];rfl) fun h6 m6 hn6 hs6=>⟨v5,_,H5,J5.forget hn6 hs6,r5,q5⟩
end
abbrev Cx.held (X:Cx)(pn:DI)(E:DM):Cx:={ X with pn:=pn,xe:=E }
section
variable {X:Cx}{ZY ps qs:DI}{σ:St}{H:Hp}{s:Vt}{E:DM}
def Inv.hold (I:Inv X ZY σ H s):Inv (X.held (X.pn++ZY) E) [] σ H s :=
 ⟨⟨I.ok.mod,I.ok.kind,I.ok.glob,I.ok.blt,I.ok.above,I.ok.inj,I.ok.has,I.ok.cab,I.ok.hd,I.ok.frames,I.ok.stk,I.ok.exf,I.ok.bs,I.ok.bsz,I.ok.noex,I.ok.exfs,I.ok.um,I.ok.frf⟩,I.os,I.bare,I.base,I.loc,I.cell,I.free,I.freeC,fun p hp=>I.pin p (by simpa using hp),I.hok,I.len⟩
def Inv.mR (I:Inv (X.held (X.pn++ZY) E) qs σ H s):Inv X ZY σ H s :=
 ⟨⟨I.ok.mod,I.ok.kind,I.ok.glob,I.ok.blt,I.ok.above,I.ok.inj,I.ok.has,I.ok.cab,I.ok.hd,I.ok.frames,I.ok.stk,I.ok.exf,I.ok.bs,I.ok.bsz,I.ok.noex,I.ok.exfs,I.ok.um,I.ok.frf⟩,I.os,I.bare,I.base,I.loc,I.cell,I.free,I.freeC,fun p hp=>I.pin p (aai _ hp),I.hok,I.len⟩
def SP.mR {D:Ends}{f:Flow}(h:SP (X.held (X.pn++ZY) E) qs D f s):SP X ZY D f s:=by
 cases f with
 | next=>obtain⟨a,b,I,q⟩:=h;exact⟨a,b,I.mR,q⟩
 | brk=>obtain⟨a,b,I,q⟩:=h;exact⟨a,b,I.mR,q⟩
 | cont=>obtain⟨a,b,I,q⟩:=h;exact⟨a,b,I.mR,q⟩
 | ret u=>obtain⟨v,a,b,I,r,q⟩:=h;exact⟨v,a,b,I.mR,r,q⟩
end
def XW (K:V3)(G:Addr)(f:Wb)(R:VK):XK:=fun Cv dx' H=>∃ C dx fs v,Cv = .ref C/\dx'=some dx/\XRd K C G f/\H dx=some (.xd fs)/\fs.lookup f=some v/\∀ (x:Addr) (u:HO) (a:Addr),H x=none->upd H x u a=none->R (.ref a) (upd (upd H x u) a (.tup [v]))
def U0 (K:V3)(G:Addr)(f:Wb)(t:XK->TS):TS:=fun D σ H=>t (XW K G f D.rt) D σ H
section
variable {X:Cx}{G:Addr}{c n f:Wb}{p p1 p2 p3 p4 pos pos':ZD}{k:Nat}{body:D3}{t:XK->TS}
def RK (i:Nat)(stk:X.stack=X.env::X.outer/\X.env.frame=some X.env.locals)(hg:Gl X c)(hm:X.mg c=some (.ref G))(hN:X.N.Nodup)(hi:X.N[i]? = some n)(hl:X.env.scope.names.lookup n=some .local)
  (hb:∀ (pn:DI) (E:DM) (W:XK),Passes (XL X.prog X.w) (X.held pn E) W->PSs (X.held pn E) body (t W))
  (hd:(c == ("__debug__" : Wb))=false:=by decide) (hd1:(n == ("__debug__" : Wb))=false:=by decide) (hd2:(n == ("__classdict__" : Wb))=false:=by decide) :
  PS X (.Try body [.ExceptHandler (some (.Name c p)) (some n) [.Return (some (.Tuple [.Attribute (.Name n p1) f p2] k p3)) p4] pos] [] [] pos') (U0 X.K G f t):=by
 intro ZY s σ H D I h
 refine wpAny_Try_except ?_
 let E:DM:=fun e s'=>∃ (ZY':DI) (σ':St) (H1:Hp) (s1:Vt),Inv X ZY σ' H1 s1/\XL X.prog X.w X.stack H1 s1 (XW X.K G f D.rt) e s'
 have P:Passes (XL X.prog X.w) (X.held (X.pn++ZY) E) (XW X.K G f D.rt):=fun ZY' σ' H1 s1 e s' J q=>⟨ZY',σ',H1,s1,J.mR,q⟩
 refine Ww (hb _ E _ P [] s σ H D I.hold h) (fun fl s1 q=>?_) fun e s1 q=>?_
 ·have q':=q.mR
  cases fl with
  | next=>exact aam q'
  | brk=>exact q'
  | cont=>exact q'
  | ret u=>exact q'
 ·obtain⟨_,σ',H1,s0,J,x,C,dx,H',B,rfl,Li,C',dx',fs,v,e1,e2,R,ed,l,w⟩:=q
  cases e1
  cases e2
  exact Gs J Li stk R hg hm hN hi hl ed l (fun u a ha=>w x u a Li.xn ha) hd hd1 hd2
end
def KR {X:Cx}{E:XK}(st:X.stack=X.env::X.outer/\X.env.frame=some X.env.locals)(hex:X.ex=[])
  (hxe:∀ e s',VG (VM X.prog X.w) X.A (leaving X.env e) (fun _ s2=>XL X.prog X.w X.outer X.H₀ X.s₀ E e s2) (fun e2 s2=>XL X.prog X.w X.outer X.H₀ X.s₀ E e2 s2) s'->X.xe e s'):Passes (XL X.prog X.w) X E:=by
 intro ZY σ H s e s' I hl
 obtain⟨x,C,dx,H',B,rfl,Li,hE⟩:=hl
 have nex:∀ b,b ∉ X.ex:=fun b z=>by
  rw[hex] at z
  cases z
 have fl0:Fly B (X.env::X.outer) x C dx .none s'.heap:=st.1▸Li.fly
 refine hxe _ _ (Cg (outer:=X.outer) (by rw[I.ok.frames,st.1]) st.2 fl0 fun h' F' u'=>?_)
 have old:∀ b o,X.s₀.heap.get? b=some o->X.H₀ b=none->b ∉ X.fs->s.heap.get? b=some o/\H b=none/\b ∉ frs X.stack:=fun b o e n hb=>by
  refine⟨I.base.keep b o e n hb (nex b),I.base.free b o e n (nex b),fun z=>?_⟩
  rcases List.mem_cons.mp (I.tM b z) with z | z
  ·have:=Vx (VL e) I.ok.above
   rw[z] at this
   exact WK _ this
  ·exact hb z
 have inS:∀ b,b∈X.fs->b∈frs X.stack:=fun b hb=>by
  obtain⟨en,h1,h2⟩:=List.mem_filterMap.mp hb
  rw[st.1]
  exact List.mem_filterMap.mpr ⟨en,VR _ h1,h2⟩
 refine⟨x,C,dx,H',B,U,⟨Li.os.trans I.os,Li.bare,⟨F'.stay,F'.bx,F'.frs.2.2,F'.tr⟩,⟨fun b o e n hb _=>?_,fun b o e n hb _=>?_,fun b o e n _=>?_,fun b o e _=>?_,fun b l e=>Li.un.tups b l (I.base.tups b l e),fun b o u e=>Li.un.frzs b o u (I.base.frzs b o u e),fun b ps e=>?_⟩,?_,fun b o e n hb=>?_,fun b u e=>?_,Li.xn⟩,hE⟩
 ·obtain⟨e1,e2,e3⟩:=old b o e n hb
  exact F'.stay b o (Li.kb b o e1 e2 e3)
 ·obtain⟨sl,e1⟩:=I.base.slot b o e n hb (nex b)
  have n1:=I.base.free b o e n (nex b)
  obtain⟨_,o',ho',nf⟩:=I.ok.um.mem hb
  have z:some o=some o':=e.symm.trans ho'
  cases z
  obtain⟨sl1,e2⟩:=Li.un.slot b _ e1 n1 (inS b hb) (fun z=>nomatch z)
  obtain⟨sl2,e3⟩:=u'.sl b _ e2 nf
  exact⟨sl2,e3⟩
 ·obtain⟨o1,e1⟩:=I.base.there b o e (nex b)
  exact Li.un.free b o1 e1 (I.base.free b o e n (nex b)) (fun z=>nomatch z)
 ·obtain⟨o1,e1⟩:=I.base.there b o e (nex b)
  obtain⟨o2,e2⟩:=Li.un.there b o1 e1 (fun z=>nomatch z)
  exact u'.th b o2 e2
 ·obtain⟨m1,z⟩:=I.base.tbls b ps e
  obtain⟨m2,z2⟩:=Li.un.tbls b _ z
  exact⟨m1++m2,by rw[z2,aaH]⟩
 ·refine qb Li.hok (fun _ _ e=>e) (fun _ _ e=>e) (fun _ _ e=>e) fun b u o e q=>?_
  obtain⟨o',e1,e2⟩:=Li.hb b u e
  rw[e1] at q
  cases q
  exact F'.stay b _ e2
 ·obtain⟨e1,e2,e3⟩:=old b o e n hb
  exact Li.kb b o e1 e2 e3
 ·obtain⟨o',e1,e2⟩:=Li.hb b u e
  exact⟨o',F'.stay b _ e2,e2⟩
def zK (CX:CXT)(P:V4)(w:Wn)(K:V3)(mg:Wb->DO)(base:WD)(N:D9)(qual:Wb)(scope:Yg)(f:Addr)(cd:Value)(cl:DJ)(A:Wm)(outer:D4)(s:Vt)(H:Hp)(E:XK):Cx :=
 let env:=PySem.W.envX qual scope s.heap.objs.size f cd cl
 {prog:=P,w:=w,K:=K,mg:=mg,base:=base,A:=A.deeper env,N:=N,s₀:=s,H₀:=H,env:=env,outer:=outer,stack:=env::outer,ex:=[],calm:=true,fn:=fun _=>false,pn:=[],
  xe:=fun e s'=>VG (VM P w) (A.deeper env) (leaving env e) (fun _ s2=>CX outer H s E e s2) (fun e2 s2=>CX outer H s E e2 s2) s' }
def Dy {P:V4}{w:Wn}{K:V3}{mg:Wb->DO}{base:WD}{N:D9}{qual:Wb}{scope:Yg}{f:Addr}{cd:Value}{cl:DJ}{A:Wm}{outer:D4}{s:Vt}{H:Hp}{E:XK} :
  Passes (XL P w) (zK (XL P w) P w K mg base N qual scope f cd cl A outer s H E) E :=
 KR (X:=zK (XL P w) P w K mg base N qual scope f cd cl A outer s H E) ⟨U,U⟩ U fun _ _ z=>z
structure QB (N:D9)(sc:Yg):Prop where
 kind:sc.kind = .function
 co:sc.isCoroutine=false
 gen:sc.isGenerator=false
 cell:∀ y∈sc.names,y.2≠.cell
 fr:∀ x∈N,sc.names.lookup x=some .free
structure Vd (N:D9)(sc:Yg)(cl:DJ)(σ:St)(H:Hp)(h:WD):Prop where
 inj:∀ x y c,cl.lookup x=some c->cl.lookup y=some c->x=y
 has:∀ y∈sc.names,y.2 = .free->∃ c,cl.lookup y.1=some c
 cells:∀ x c,cl.lookup x=some c->(∃ v,h.IsCell c v)/\H c=none
 vals:∀ (i:Nat) (x:Wb) (v:V),N[i]? = some x->σ[i]? = some (some v)->∃ c u,cl.lookup x=some c/\h.IsCell c (some u)/\RelV v u
 len:σ.length=N.length
def Ow {CX:CXT}{P:V4}{w:Wn}{K:V3}{mg:Wb->DO}{base:WD}{k:Nat}{N:D9}{name qual:Wb}{params:abw}{body:Expr}{scope:Yg}{cl:DJ}{pm ctv:Value}{c' f:Addr}{A:Wm}{outer:D4}{s:Vt}{σ:St}{H:Hp}{Q:VK}{E:XK}{te:TE}
  (hr:fj (k+1) A) (e0:Jw P w K mg base A outer s H) (ho:s.heap.get? f=some (W.kla_obj name qual params body scope cl pm c' ctv)) (hcd:s.heap.CodeRec (.ref c') qual)
  (hb:Zk (W.kla_fn name qual params body scope cl pm (.ref c') ctv) ⟨[],[]⟩=pure []) (S:QB N scope) (C:Vd N scope cl σ H s.heap)
  (hp:PE (zK CX P w K mg base N qual scope f (.ref c') cl A outer s H E) body te) (h:te σ H Q):Xi (VM P w) A (.call (.ref f) ⟨[],[]⟩) (CR CX outer P w H s Q E) s:=by
 have lim:s.heap.NoLimit:=e0.mod.nolimit.keeps fun b o e=>(e0.bs b o e).1
 refine PySem.W.kla_callFunE hr.depth ho U S.co S.gen U hcd ?_
 rw[hb]
 refine Vv (abh S.cell (fun y hy=>nomatch hy) (fun h1 ns sb=>⟨lim.fresh _ sb,?_⟩) S.kind)
 have kp:∀ b o,s.heap.get? b=some o->h1.get? b=some o:=fun b o e=>sb.extBut b o (V5 (VL e)) (Vu _ e)
 have noA:∀ b:Addr,b ∉ (zK CX P w K mg base N qual scope f (.ref c') cl A outer s H E).ex:=fun b z=>nomatch z
 have I:Inv (zK CX P w K mg base N qual scope f (.ref c') cl A outer s H E) [] σ H { s with heap:=h1,toks:=s.toks+0 }:=by
  refine⟨⟨e0.mod,S.kind,U,U,Vw _,C.inj,fun y hy=>?_,fun y c z=>absurd (show false=true from z) Vy,fun _=>hr.hd,Around.frames_deeper e0.frames,.inr ⟨U,U⟩,fun b z=>absurd z (noA b),e0.bs,e0.bsz,fun b _ _=>noA b,fun b z=>absurd z (noA b),e0.um,e0.frf⟩,
   rfl,e0.bare,Un.kept kp,⟨_,ns,fun i y v q1 q2 _=>?_⟩,fun y c e=>?_,e0.hok.fresh (Vw _),fun y c e=>(C.cells y c e).2,(fun p z=>nomatch z),e0.hok.kept kp,C.len⟩
  ·rcases hy with hy | hy
   ·exact absurd U (S.cell _ (WW (show scope.names.lookup y=some .cell from hy)))
   ·exact C.has _ (WW (show scope.names.lookup y=some .free from hy)) U
  ·obtain⟨c,u,e1,⟨o,e2,e3⟩,r⟩:=C.vals i y v q1 q2
   exact⟨u,r,.inr ⟨.inr (S.fr y (Wd q1)),c,e1,o,kp _ _ e2,e3⟩⟩
  ·obtain⟨⟨v,o,e1,e2⟩,_⟩:=C.cells y c e
   exact⟨v,o,kp _ _ e1,e2⟩
 refine PySem.W.kla_codeExpr (Ww (hp [] _ σ H Q I h) (fun u s2 z=>?_) fun e s2 z=>z)
 obtain⟨v,H',J,r,q⟩:=z
 exact⟨v,H',J.os,J.bare,J.base,J.hok,r,q⟩
section
variable {CX:CXT}{P:V4}{w:Wn}{K:V3}{mg:Wb->DO}{base:WD}{k:Nat}
def Qw {x qual:Wb}{st:Stmt}{f:Addr}{fd:WR}{N ps:D9}{A:Wm}{outer:D4}{s:Vt}{H:Hp}{us:DV}{vs:List V}{Q:VK}{E:XK}(F:Fun K x qual st f fd)(S:aG N ps (aB st))(hr:fj (k+1) A)(e0:Jw P w K mg base A outer s H)
  (hb:∀ (kV doc pm:Value) (an:DT) (cdv ct:Value),Zk (abk x qual (di st) (bO st) (aB st) .none kV doc pm an cdv ct) ⟨us,[]⟩=pure (ps.zip us)) (r:Vals vs us) (hl:vs.length=ps.length)
  (ht:∀ cdv,∃ t,PSs (wW CX P w K mg base N qual (aB st) f cdv A outer s H E) (bO st) t/\t { nx:=fun _ H'=>Q .non H',rt:=Q } (start N vs) H) :
  Xi (VM P w) A (.call (.ref f) ⟨us,[]⟩) (CR CX outer P w H s Q E) s:=by
 obtain⟨oc,od,kV,doc,pm,an,cdv,ct,osl,rfl,lk,hc⟩:=F.ex
 have KX:K.In s.heap:=e0.mod.kin.keeps fun b o e=>(e0.bs b o e).1
 have lim:s.heap.NoLimit:=e0.mod.nolimit.keeps fun b o e=>(e0.bs b o e).1
 have hkind:((ps.zip us).all fun y=>(aB st).names.lookup y.1 == some .local || (aB st).names.lookup y.1 == some .cell)=true:=List.all_eq_true.mpr fun⟨n,v⟩ hy=>by
  rcases S.par n (abd hy).1 with q | q <;> simp [q]
 refine Att.Nr KX lim lk hc hr.depth (.of_eq (hb kV doc pm an cdv ct)) hkind (fun s1 x=>?_) S.co S.gen S.kind
 obtain⟨t,h1,h2⟩:=ht cdv
 have I:Inv (wW CX P w K mg base N qual (aB st) f cdv A outer s H E) [] (start N vs) H s1:=wG S hr.hd e0 hl r x
 refine Ww (h1 [] s1 (start N vs) H _ I h2) (fun fl s2 z=>?_) fun e s2 z=>z
 cases fl with
 | ret u =>
  obtain⟨v,σ',H',J,rv,q⟩:=z
  exact⟨v,H',J.os,J.bare,J.base,J.hok,rv,q⟩
 | next =>
  obtain⟨σ',H',J,q⟩:=z
  exact⟨.non,H',J.os,J.bare,J.base,J.hok,U,q⟩
 | brk=>obtain⟨_,_,_,q⟩:=z;exact Wu q
 | cont=>obtain⟨_,_,_,q⟩:=z;exact Wu q
structure Rh (CX:CXT)(P:V4)(w:Wn)(K:VB)(mg:Wb->DO)(base:WD)(k:Nat)(s₀:Vt)(H₀:Hp)(fs:D0)(f:Addr)(sp:Hp->VK->XK->Prop):Prop where
 at_:∃ o fd,s₀.heap.get? f=some o/\o.data = .func fd/\H₀ f=none/\f ∉ fs
 run:∀ (A:Wm) (outer:D4) (s:Vt) (H:Hp) (Q:VK) (E:XK),fj k A->Jw P w K mg base A outer s H->(∀ b o,s₀.heap.get? b=some o->H₀ b=none->b ∉ fs->s.heap.get? b=some o)->(∀ b o,s₀.heap.get? b=some o->H₀ b=none->(∃ sl,s.heap.get? b=some { o with slots:=sl })/\H b=none)->(∀ b o u,H₀ b=some (.frz o u)->H b=some (.frz o u))->sp H Q E →
  Xi (VM P w) A (.call (.ref f) ⟨[],[]⟩) (CR CX outer P w H s Q E) s
end
section
variable {X:Cx}{CX:CXT}{k:Nat}{f:Addr}{sp:Hp->VK->XK->Prop}{E:XK}{x:Wb}{p pos:ZD}{te:TE}
def Vm (f:Addr)(sp:Hp->VK->XK->Prop)(E:XK)(te:TE):TE:=fun σ H Q=>te σ H fun v H1=>v = .ref f/\sp H1 Q E
def Ra (L:Rh CX X.prog X.w X.K X.mg X.base k X.s₀ X.H₀ X.fs f sp)(hex:X.ex=[])(hr:fj k X.A)(hx:Passes CX X E)(he:PE X (.Name x p) te):PE X (.Call (.Name x p) [] [] pos) (Vm f sp E te):=by
 intro ZY s σ H Q I h
 refine Xj (thn (he ZY s σ H _ I h) fun u s1 ⟨v,H1,I1,r,ev,q⟩=>?_)
 subst ev
 obtain rfl:u=VV f:=r
 have nex:∀ b,b ∉ X.ex:=fun b z=>by
  rw[hex] at z
  cases z
 obtain⟨o,fd,e1,e2,e3,e4⟩:=L.at_
 have e5:=I1.base.keep f o e1 e3 e4 (nex f)
 refine callWith_function_kw (o:=o) (fd:=fd) (evalArgs_kw_nil U (wpAny_evalAll_nil ⟨⟨e5,e2⟩,?_⟩))
 refine Zg (Yl (L.run X.A X.stack s1 H1 Q E hr I1.env0 (fun b o e n hb=>I1.base.keep b o e n hb (nex b)) (fun b o e n=>⟨I1.base.any e n (nex b),I1.base.free b o e n (nex b)⟩) I1.base.frzs q) fun r2 s2 hq=>?_)
 cases r2 with
 | error e=>exact hx ZY σ H1 s1 e s2 I1 hq
 | ok fl =>
  cases fl with
  | ret u=>exact I1.after hq
  | next=>exact Wu hq
  | brk=>exact Wu hq
  | cont=>exact Wu hq
end
def TabOk (H:Hp)(P:Addr)(q:Wb):Prop:=∃ ps,H P=some (.tbl ps)/\aab ps.toList/\∀ pos cv,aat pos ps.toList=some cv->∃ c oc u vs t,cv = .ref c/\H c=some (.frz oc u)/\oc.data = .fields vs/\vs[1]? = some (.str q t)
def jP (H H1:Hp):Prop:=∀ b o,(∀ ps,o≠.tbl ps)->H b=some o->H1 b=some o
def J8 (P:Addr)(H H1:Hp):Prop:=∀ b o,b≠P->H b=some o->H1 b=some o
def J8.t {P:Addr}{q:Wb}{H H1:Hp}(h:TabOk H P q)(a:J8 P H H1):jP H H1:=fun b o n e=>a b o (fun z=>by
 obtain⟨ps,e1,_⟩:=h
 rw[z,e1] at e
 exact n ps (Wo e).symm) e
def jP.trans {H H1 H2:Hp}(a:jP H H1)(b:jP H1 H2):jP H H2:=fun c o n e=>b c o n (a c o n e)
def aN.t {H H1:Hp}(a:aN H H1):jP H H1:=fun c o _ e=>a c o e
def TabOk.same {H H1:Hp}{P:Addr}{q:Wb}(a:aN H H1)(h:TabOk H P q):TabOk H1 P q:=by
 obtain⟨ps,e,t,f⟩:=h
 refine⟨ps,a _ _ e,t,fun pos cv z=>?_⟩
 obtain⟨c,oc,u,vs,tk,e1,e2,e3⟩:=f pos cv z
 exact⟨c,oc,u,vs,tk,e1,a _ _ e2,e3⟩
def G9 {l:DV}(h:aab l):l=[]∨∃ i t j u d r,l = .int i t::.int j u::d::r/\aab r:=by
 unfold aab at h
 split at h
 ·exact .inl U
 ·exact .inr ⟨_,_,_,_,_,_,U,h⟩
 ·exact h.elim
theorem qd {pos pos':ZD}{c cv:Value}:∀ (n:Nat) (l:DV),l.length<=n->aab l->(aat pos' (l++[WM pos.line,WM pos.col,c])=some cv->aat pos' l=some cv∨cv=c)/\aab (l++[WM pos.line,WM pos.col,c])
 | 0,l,hn,h=>by
  cases Yc (Nat.le_zero.mp hn)
  refine⟨fun e=>?_,trivial⟩
  simp only[acx,WM,aat] at e
  split at e
  ·exact .inr (Wo e).symm
  ·cases e
 | n+1,l,hn,h=>by
  rcases G9 h with rfl | ⟨i,t,j,u,d,r,rfl,hr⟩
  ·exact qd n [] (Wr _) h
  ·obtain⟨h1,h2⟩:=qd (pos:=pos) (pos':=pos') (c:=c) (cv:=cv) n r (by simp only[V2] at hn;lia) hr
   refine⟨fun e=>?_,h2⟩
   simp only[aaX,aat] at e ⊢
   split at e
   ·rename_i z
    rw[if_pos z]
    exact .inl e
   ·rename_i z
    rw[if_neg z]
    exact h1 e
def Ed {pos pos':ZD}{c cv:Value}(l:DV)(h:aab l)(e:aat pos' (l++[WM pos.line,WM pos.col,c])=some cv):aat pos' l=some cv∨cv=c:=(qd l.length l (Vw _) h).1 e
def xq {pos:ZD}{c:Value}(l:DV)(h:aab l):aab (l++[WM pos.line,WM pos.col,c]):=(qd (pos':=pos) (cv:=c) l.length l (Vw _) h).2
section
variable {X:Cx}{ZY:DI}{σ:St}{H:Hp}{s:Vt}{c P:Addr}{params:abw}{body:Expr}{scope:Yg}{lpos:ZD}{E:DM}{Q:DM}
def JQ (I:Inv X ZY σ H s) (hT:TabOk H P (X.env.qual++"<lambda>")) (hcode:X.env.code = .ref c) (C:W.CodeHd X.base c P) (hB:X.base.BuiltinsAt X.mg P) (hdef:defaultsOf params X.env=([],[]))
  (hfr:∀ y∈scope.names,y.2 = .free->X.env.kindOf y.1=some .cell∨X.env.kindOf y.1=some .free)
  (h:∀ (f c':Addr) (ctv pm:Value) (cl:DJ) (H1:Hp) (s1:Vt),Inv X ZY σ H1 s1->J8 P H H1->TabOk H1 P (X.env.qual++"<lambda>")->(∀ b,H b=none->b < s.heap.objs.size->H1 b=none)->(∀ b o,s.heap.get? b=some o->H b=none->s1.heap.get? b=some o) →
   s1.heap.get? f=some (aba "<lambda>" (X.env.qual++"<lambda>") params body scope cl pm c' ctv)->H1 f=none->s.heap.objs.size<=f->(∃ oc u vs t,H1 c'=some (.frz oc u)/\oc.data = .fields vs/\vs[1]? = some (.str (X.env.qual++"<lambda>") t)) →
   (∀ n a,cl.lookup n=some a->X.env.cells.lookup n=some a)->(∀ y∈scope.names,y.2 = .free->∃ a,cl.lookup y.1=some a)->Q (.ref f) s1) :
  VG (VM X.prog X.w) X.A (Xv (.Lambda params body scope lpos) X.env) Q E s:=by
 obtain⟨ps,eP,tr,am⟩:=hT
 obtain⟨cl,hcl,sub,all⟩:=uD (scope:=scope) (env:=X.env) fun y hy z=>I.ok.has _ (hfr y hy z)
 have hP:s.heap.get? P=some (PySem.W.tabObj ps):=I.hok P _ eP
 have hns:s.heap.Ns V6 X.mg:=I.mod.glob.keeps I.bk
 have hgP:V6≠P:=fun z=>by
  obtain⟨o,es,ep,e,d,_⟩:=hns
  rw[z,hP] at e
  cases e
  cases d
 refine PySem.W.kla_eval hdef ?_
 cases hit:aat lpos ps.toList with
 | some cv =>
  obtain⟨c',oc,u,vs,t,rfl,e1,e2,e3⟩:=am _ _ hit
  refine PySem.W.kla_makeFunctionHit hcl I.ok.glob hns hcode (C.keeps I.bk) hP tr hit (hB.keeps I.bk) fun ctv h' tk kp sz=>?_
  have kp':∀ b o,s.heap.get? b=some o->(h'.push (aba "<lambda>" (X.env.qual++"<lambda>") params body scope cl ((X.mg "__name__").getD .none) c' ctv)).get? b=some o:=fun b o e=>Vu _ (kp b o e)
  refine h h'.objs.size c' ctv ((X.mg "__name__").getD .none) cl H _ (I.un (h':=h'.push (aba "<lambda>" (X.env.qual++"<lambda>") params body scope cl ((X.mg "__name__").getD .none) c' ctv)) (t':=tk) (Un.kept kp') (I.hok.kept kp')) (fun _ _ _ e=>e) ⟨ps,eP,tr,am⟩ (fun _ n _=>n) (fun b o e _=>kp' b o e) ?_ (I.hok.fresh sz) sz ⟨oc,u,vs,t,e1,e2,e3⟩ sub all
  exact VN h' U
 | none =>
  refine PySem.W.kla_makeFunction hcl I.ok.glob hns hcode (C.keeps I.bk) hP tr hit hgP (hB.keeps I.bk) fun c' ctv h' tk kp l1 l2 cr hP'=>?_
  obtain⟨c2,oc,vs,t,ec,e1,e2,e3⟩:=cr
  cases ec
  have nP:c'≠P:=fun z=>by
   have:=VL hP
   rw[← z] at this
   exact WK _ (Vx this l1)
  have fr:=I.hok.fresh l1
  have lt:∀ b u,H b=some u->b < s.heap.objs.size:=fun b u e=>(I.hok b u e).lt
  have nb:∀ b o,s.heap.get? b=some o->b≠c':=fun b o e z=>by
   have:=VL e
   rw[z] at this
   exact WK _ (Vx this l1)
  have sz:s.heap.objs.size<=h'.objs.size:=Wf l1 (Xz l2)
  generalize ho:aba "<lambda>" (X.env.qual++"<lambda>") params body scope cl ((X.mg "__name__").getD .none) c' ctv=fo
  have kq:∀ b o,h'.get? b=some o->(h'.push fo).get? b=some o:=fun b o e=>Vu _ e
  have same:∀ b u,H b=some u->b≠P->upd (upd H P (.tbl (ps++#[WM lpos.line,WM lpos.col,.ref c']))) c' (.frz oc (.ext fun _=>True)) b=some u:=fun b u e n=>by
   rw[aM (fun z=>by rw[z,fr] at e;cases e),aM n]
   exact e
  have nt:∀ b u,H b=some u->(∀ ps,u≠.tbl ps)->b≠P:=fun b u e n z=>by
   rw[z,eP] at e
   exact n ps (Wo e).symm
  have un:Un X.fs [] H (upd (upd H P (.tbl (ps++#[WM lpos.line,WM lpos.col,.ref c']))) c' (.frz oc (.ext fun _=>True))) s.heap (h'.push fo):=by
   refine⟨fun b o e n _ _=>?_,fun b o e n _ _=>⟨o.slots,?_⟩,fun b o e n _=>?_,fun b o e _=>?_,fun b xs e=>same b _ e (nt b _ e (fun _ z=>nomatch z)),fun b o u e=>same b _ e (nt b _ e (fun _ z=>nomatch z)),fun b qs e=>?_⟩
   ·exact kq b o (kp b o (fun z=>by rw[z,eP] at n;cases n) e)
   ·exact kq b o (kp b o (fun z=>by rw[z,eP] at n;cases n) e)
   ·rw[aM (nb b o e),aM (fun z=>by rw[z,eP] at n;cases n)]
    exact n
   ·by_cases hb:b=P
    ·subst hb
     exact⟨_,kq _ _ hP'⟩
    ·exact⟨o,kq b o (kp b o hb e)⟩
   ·by_cases hb:b=P
    ·subst hb
     rw[eP] at e
     cases e
     exact⟨_,by rw[aM (Xl nP),aj]⟩
    ·exact⟨#[],by rw[same b _ e hb,Array.append_empty]⟩
  have hok:HOk X.prog X.w (upd (upd H P (.tbl (ps++#[WM lpos.line,WM lpos.col,.ref c']))) c' (.frz oc (.ext fun _=>True))) (h'.push fo):=fun b u e=>by
   by_cases hb:b=c'
   ·subst hb
    rw[aj] at e
    cases e
    exact⟨kq _ _ e1,trivial,⟨_,kq _ _ e1⟩,fun _ _ _ _=>trivial⟩
   ·rw[aM hb] at e
    by_cases hp:b=P
    ·subst hp
     rw[aj] at e
     cases e
     exact kq _ _ hP'
    ·rw[aM hp] at e
     refine (I.hok b u e).stay (fun d o hd q=>kq _ _ (kp d o (fun z=>?_) q)) (fun d q=>same d _ q (nt d _ q (fun _ z=>nomatch z))) fun d xs q=>same d _ q (nt d _ q (fun _ z=>nomatch z))
     rcases hd with rfl | hd
     ·exact hp z
     ·rw[z,eP] at hd
      cases hd
  have I1:=I.un (t':=tk) un hok
  have f0:upd (upd H P (.tbl (ps++#[WM lpos.line,WM lpos.col,.ref c']))) c' (.frz oc (.ext fun _=>True)) h'.objs.size=none:=by
   rw[aM (Xl (V5 l2)),aM (Xl (V5 (Vx (VL hP) sz)))]
   exact I.hok.fresh sz
  refine h h'.objs.size c' ctv ((X.mg "__name__").getD .none) cl _ _ I1 (fun b o n e=>same b o e n) ⟨_,by rw[aM (Xl nP),aj],?_,fun pos cv z=>?_⟩ (fun b n l=>?_) (fun b o e n=>kq b o (kp b o (fun z=>by rw[z,eP] at n;cases n) e)) ?_ f0 sz ⟨oc,_,vs,t,aj,e2,e3⟩ sub all
  ·rw[Array.toList_append]
   exact xq _ tr
  ·rw[Array.toList_append] at z
   rcases Ed _ tr z with z | z
   ·obtain⟨c1,oc1,u1,vs1,t1,a1,a2,a3⟩:=am pos cv z
    exact⟨c1,oc1,u1,vs1,t1,a1,same _ _ a2 (nt _ _ a2 (fun _ z=>nomatch z)),a3⟩
   ·exact⟨c',oc,_,vs,t,z,aj,e2,e3⟩
  ·have n1:b≠c':=fun z=>WK _ (Vx (show c' < s.heap.objs.size from z▸l) l1)
   have n2:b≠P:=fun z=>by rw[z,eP] at n;cases n
   rw[aM n1,aM n2]
   exact n
  ·rw[← ho]
   exact VN h' U
end
structure OJ (X:Cx)(scope:Yg)(N:D9)(cap:D7):Prop where
 sc:QB N scope
 fr:∀ y∈scope.names,y.2 = .free->X.env.kindOf y.1=some .cell∨X.env.kindOf y.1=some .free
 len:cap.length=N.length
 at':∀ (k:Nat) (x:Wb),N[k]? = some x->∃ i,cap[k]? = some i/\X.N[i]? = some x
def Pq (cap:D7)(σ:St):St:=cap.map fun i=>(σ[i]?).join
def TF (P:Addr)(q:Wb)(cap:D7)(tw:Addr->(Hp->VK->XK->Prop)->VK->Hp->Prop)(te:XK->TE):TE:=fun σ H Q=>TabOk H P q/\∀ f H1,jP H H1->TabOk H1 P q->tw f (fun H2 Q2 E2=>te E2 (Pq cap σ) H2 Q2) Q H1
def Tp (Rl:Hp->Hp->Prop)(P:Addr)(q:Wb)(cap:D7)(tw:Addr->(Hp->VK->XK->Prop)->VK->Hp->Prop)(te:XK->TE):TE:=fun σ H Q=>TabOk H P q/\∀ f H1,Rl H H1->TabOk H1 P q->tw f (fun H2 Q2 E2=>te E2 (Pq cap σ) H2 Q2) Q H1
section
variable {X:Cx}{c P fW:Addr}{x qual n:Wb}{st:Stmt}{fd:WR}{N NL:D9}{cap:D7}{k:Nat}{params:abw}{body:Expr}{scope:Yg}{lpos p pos:ZD}{te:XK->TE}{tw:Addr->(Hp->VK->XK->Prop)->VK->Hp->Prop}
def O2 {Rl:Hp->Hp->Prop} (hR:∀ {H H1:Hp},TabOk H P (X.env.qual++"<lambda>")->J8 P H H1->Rl H H1) (F:Fun X.K x qual st fW fd) (S:aG N [n] (aB st)) (hr:fj (k+1) X.A) (hg:Gl X x) (hm:X.mg x=some (.ref fW)) (L:OJ X scope NL cap)
  (hcode:X.env.code = .ref c) (C:W.CodeHd X.base c P) (hB:X.base.BuiltinsAt X.mg P)
  (hp:∀ (f:Addr) (cd:Value) (cl:DJ) (A:Wm) (outer:D4) (s:Vt) (H:Hp) (E:XK) (j:Nat),k=j+2->fj j (A.deeper (W.envX (X.env.qual++"<lambda>") scope s.heap.objs.size f cd cl))->PE (zK (XL X.prog X.w) X.prog X.w X.K X.mg X.base NL (X.env.qual++"<lambda>") scope f cd cl A outer s H E) body (te E))
  (ht:∀ (f:Addr) (cdv:Value) (A:Wm) (outer:D4) (s:Vt) (H:Hp) (Q:VK) (j:Nat) (sp:Hp->VK->XK->Prop),k=j+1->fj k (A.deeper (envOfC qual (aB st) s.heap.objs.size fW cdv))->Rh (XL X.prog X.w) X.prog X.w X.K X.mg X.base k s H (frs outer) f sp->tw f sp Q H →
   ∃ t,PSs (wW CX0 X.prog X.w X.K X.mg X.base N qual (aB st) fW cdv A outer s H E0) (bO st) t/\t { nx:=fun _ H'=>Q .non H',rt:=Q } (start N [.ref f]) H)
  (hdef:defaultsOf params X.env=([],[]):=by rfl) (hla:∀ (pm cd ctv:Value) (cl:DJ),Zk (W.kla_fn "<lambda>" (X.env.qual++"<lambda>") params body scope cl pm cd ctv) ⟨[],[]⟩=pure []:=by intros;rfl)
  (hb:∀ (kV doc pm:Value) (an:DT) (cdv ct:Value) (u:Value),Zk (abk x qual (di st) (bO st) (aB st) .none kV doc pm an cdv ct) ⟨[u],[]⟩=pure [(n,u)]:=by intros;rfl) (hk:k=(k - 2)+2:=by rfl)
  (hdb:(x == ("__debug__" : Wb))=false:=by decide):PE X (.Call (.Name x p) [.Lambda params body scope lpos] [] pos) (Tp Rl P (X.env.qual++"<lambda>") cap tw te):=by
 intro ZY s σ H Q I ⟨hT,h⟩
 refine Xj (jt I hg hm ?_ hdb)
 refine ZV (h₀:=X.base) I.ok.mod.kin F.kp ?_
 refine aaG (JQ I hT hcode C hB hdef L.fr fun f c' ctv pm cl H1 s1 I1 sm tb fre kp ef nf lf cr sub all=>aaN ⟨I1.kIn,?_⟩)
 have nfs:f ∉ frs X.stack:=fun z=>by
  obtain⟨_,o,ho,_⟩:=I.stack.mem z
  exact WK _ (Vx (VL ho) lf)
 have LB:Rh (XL X.prog X.w) X.prog X.w X.K X.mg X.base k s1 H1 (frs X.stack) f fun H2 Q2 E2=>te E2 (Pq cap σ) H2 Q2:=by
  refine⟨⟨_,_,ef,U,nf,nfs⟩,fun A outer s3 H3 Q3 E3 room e3 k1 k2 k3 sp=>?_⟩
  obtain⟨oc,u,vs,t,f1,f2,f3⟩:=cr
  have cr3:s3.heap.CodeRec (.ref c') (X.env.qual++"<lambda>"):=⟨c',oc,vs,t,U,(e3.hok c' _ (k3 _ _ _ f1)).1,f2,f3⟩
  have room':fj ((k - 2)+1+1) A:=by rw[hk] at room;exact room
  have cel:∀ y a v,cl.lookup y=some a->s1.heap.IsCell a v->s3.heap.IsCell a v/\H3 a=none:=fun y a v e ⟨o,ho,hd⟩=>by
   obtain⟨⟨sl,e1⟩,e2⟩:=k2 a o ho (I1.freeC y a (sub y a e))
   exact⟨⟨_,e1,hd⟩,e2⟩
  refine Ow (N:=NL) room' e3 (k1 f _ ef nf nfs) cr3 (hla _ _ _ _) L.sc ⟨fun y z a e1 e2=>I.ok.inj y z a (sub y a e1) (sub z a e2),all,fun y a e=>?_,fun i y v e1 e2=>?_,?_⟩ (hp f (.ref c') cl A outer s3 H3 E3 (k - 2) hk ((room'.mono (Xq _)).deeper _)) sp
  ·obtain⟨v,z⟩:=I1.cell y a (sub y a e)
   obtain⟨z1,z2⟩:=cel y a v e z
   exact⟨⟨v,z1⟩,z2⟩
  ·unfold Pq at e2
   rw[V7] at e2
   obtain⟨j,hj,hN⟩:=L.at' i y e1
   rw[hj] at e2
   have e4:(σ[j]?).join=some v:=by simpa using e2
   have e5:σ[j]? = some (some v):=by
    cases q:σ[j]? with
    | none=>rw[q] at e4;cases e4
    | some a=>rw[q] at e4;exact congrArg some e4
   have yf:=L.sc.fr y (Wd e1)
   have kd:=L.fr (y,.free) (WW yf) U
   obtain⟨m,hn,hl⟩:=I1.loc
   obtain⟨u,r,lk⟩:=hl j y v hN e5 (kd.elim (fun z=>.inr (.inl z)) fun z=>.inr (.inr z))
   obtain⟨a,ha⟩:=all (y,.free) (WW yf) U
   rcases lk with⟨z,_⟩ | ⟨_,a',z1,z2⟩
   ·rcases kd with w | w <;> (rw[w] at z;cases z)
   ·have:=sub y a ha
    rw[z1] at this
    cases this
    exact⟨a,u,ha,(cel y a _ ha z2).1,r⟩
  ·unfold Pq
   rw[Vs,L.len]
 have hq:=h f H1 (hR hT sm) tb
 refine Zg (Yl (Qw (CX:=CX0) (k:=k) (Q:=Q) (E:=E0) F S hr I1.env0 (hb · · · · · · (.ref f)) (vs:=[.ref f]) (us:=[.ref f]) (.cons U .nil) U fun cdv=>ht f cdv X.A X.stack s1 H1 Q (k - 2+1) _ hk (hr.deeper _) LB hq) fun r s2 z=>?_)
 cases r with
 | error e=>exact Wu z
 | ok fl =>
  cases fl with
  | ret u=>exact I1.after z
  | next=>exact Wu z
  | brk=>exact Wu z
  | cont=>exact Wu z
def Rx (F:Fun X.K x qual st fW fd)(S:aG N [n] (aB st))(hr:fj (k+1) X.A)(hg:Gl X x)(hm:X.mg x=some (.ref fW))(L:OJ X scope NL cap)
  (hcode:X.env.code = .ref c) (C:W.CodeHd X.base c P) (hB:X.base.BuiltinsAt X.mg P)
  (hp:∀ (f:Addr) (cd:Value) (cl:DJ) (A:Wm) (outer:D4) (s:Vt) (H:Hp) (E:XK) (j:Nat),k=j+2->fj j (A.deeper (W.envX (X.env.qual++"<lambda>") scope s.heap.objs.size f cd cl))->PE (zK (XL X.prog X.w) X.prog X.w X.K X.mg X.base NL (X.env.qual++"<lambda>") scope f cd cl A outer s H E) body (te E))
  (ht:∀ (f:Addr) (cdv:Value) (A:Wm) (outer:D4) (s:Vt) (H:Hp) (Q:VK) (j:Nat) (sp:Hp->VK->XK->Prop),k=j+1->fj k (A.deeper (envOfC qual (aB st) s.heap.objs.size fW cdv))->Rh (XL X.prog X.w) X.prog X.w X.K X.mg X.base k s H (frs outer) f sp->tw f sp Q H →
   ∃ t,PSs (wW CX0 X.prog X.w X.K X.mg X.base N qual (aB st) fW cdv A outer s H E0) (bO st) t/\t { nx:=fun _ H'=>Q .non H',rt:=Q } (start N [.ref f]) H)
  (hdef:defaultsOf params X.env=([],[]):=by rfl) (hla:∀ (pm cd ctv:Value) (cl:DJ),Zk (W.kla_fn "<lambda>" (X.env.qual++"<lambda>") params body scope cl pm cd ctv) ⟨[],[]⟩=pure []:=by intros;rfl)
  (hb:∀ (kV doc pm:Value) (an:DT) (cdv ct:Value) (u:Value),Zk (abk x qual (di st) (bO st) (aB st) .none kV doc pm an cdv ct) ⟨[u],[]⟩=pure [(n,u)]:=by intros;rfl) (hk:k=(k - 2)+2:=by rfl)
  (hdb:(x == ("__debug__" : Wb))=false:=by decide):PE X (.Call (.Name x p) [.Lambda params body scope lpos] [] pos) (TF P (X.env.qual++"<lambda>") cap tw te):=O2 (fun h s=>s.t h) F S hr hg hm L hcode C hB hp ht hdef hla hb hk hdb
end
structure Ez (mg:Wb->DO)(c T:Addr)(base:WD):Prop where
 code:PySem.W.CodeHd base c T
 blt:base.BuiltinsAt mg T
def IW {P:V4}{w:Wn}{K:V3}{mg mb:Wb->DO}{k:Nat}{fa a c T:Addr}{fd:WR}{x q:Wb}{sp:Sp}{s1:Vt}{vs:DV}{ns:D6}
  (KX:K.In s1.heap) (hG:s1.heap.Ns V6 mg) (hB:s1.heap.Ns builtinsNs mb) (hbb:∀ x:Wb,x≠"__name__"->mb x=Wy x) (hlim:s1.heap.NoLimit) (hg:s1.gens = #[])
  (ha:s1.heap.get? a=some { cls:=.type "list",data:=.seq vs.toArray }) (hi:Xa vs ns) (hl:ns.length<=sizeLine) (hr:fj k abT)
  (hT:s1.heap.get? T=some (W.tabObj #[])) (hC:W.CodeHd s1.heap c T) (hbm:s1.heap.BuiltinsAt mg T) (hno:W.noTabs K=true)
  (F:∀ base:WD,K.In base->base.Ns V6 mg->Ez mg c T base->bH P w K mg base CX0 k fa fd [x] sp) (hbind:∀ (s:Vt) (u:Value),aa6 s fd ⟨[u],[]⟩ [(x,u)])
  (hsp:∀ H:Hp,TabOk H T q->SqL K H a (ns.map V.int)->sp [.ref a] H (fun v _=>v = .bl true) fun _ _ _=>False) :
  Xi (VM P w) abT (.call (.ref fa) ⟨[.ref a],[]⟩) (fun r s2=>r = .ok (.ret (.bool true))/\OldK s1.heap s2.heap/\s2.os=s1.os/\aaO s2.gens) s1:=by
 have aT:a≠T:=fun z=>by
  rw[z,hT] at ha
  cases ha
 have rv:=iM hi
 have nl:=hi.length
 have key:∀ Z:Hp,(∀ b u,Z b=some u->b=a/\u = .frz { cls:=.type "list",data:=.seq vs.toArray } (.lst (ns.map V.int)))->SqL K Z a (ns.map V.int)->(Z a≠none->K.lookup a=none) →
   Xi (VM P w) abT (.call (.ref fa) ⟨[.ref a],[]⟩) (fun r s2=>r = .ok (.ret (.bool true))/\OldK s1.heap s2.heap/\s2.os=s1.os/\aaO s2.gens) s1:=by
  intro Z hZ hS hK
  have H1:∀ b,b≠T->upd Z T (.tbl #[]) b=Z b:=fun b n=>aM n
  have hin:∀ {b:Addr} {o:X8},s1.heap.get? b=some o->b≠T->(Z b=none)->(Kw s1.heap (upd Z T (.tbl #[]))).get? b=some o:=fun e n z=>JW e ((H1 _ n).trans z)
  have seqOnly:∀ {b:Addr} {o:X8},s1.heap.get? b=some o->(∀ its n,o.data≠.seq its n)->Z b=none:=fun {b o} e d=>by
   cases z:Z b with
   | none=>rfl
   | some u =>
    obtain⟨rfl,_⟩:=hZ b u z
    rw[ha] at e
    cases e
    exact absurd U (d _ _)
  have notT:∀ {b:Addr} {o:X8},s1.heap.get? b=some o->(∀ vs,o.data≠.fields vs)->b≠T:=fun {b o} e d z=>by
   rw[z,hT] at e
   cases e
   exact d _ U
  have nsK:∀ {b:Addr} {m:Wb->DO},s1.heap.Ns b m->(Kw s1.heap (upd Z T (.tbl #[]))).Ns b m:=fun {b m} ⟨o,es,ep,e,d,r⟩ =>
   ⟨o,es,ep,hin e (notT e fun _ z=>by rw[d] at z;cases z) (seqOnly e fun _ _ z=>by rw[d] at z;cases z),d,r⟩
  have kb:K.In (Kw s1.heap (upd Z T (.tbl #[]))):=fun b o e=>hin (KX b o e) (fun z=>by
   subst z
   have e2:=KX _ _ e
   rw[hT] at e2
   cases e2
   have:=List.all_eq_true.mp hno (_,PySem.W.tabObj #[]) (PySem.W.mem_of_lookupK e)
   exact absurd (show false=true from this) Vy) (by
   cases z:Z b with
   | none=>rfl
   | some u =>
    obtain⟨rfl,_⟩:=hZ b u z
    rw[hK (by rw[z];simp)] at e
    cases e)
  have hd:Ez mg c T (Kw s1.heap (upd Z T (.tbl #[]))):=by
   obtain⟨o,ws,file,tf,flags,tg,inF,text,tt,e1,e2,e3,e4,r⟩:=hC
   obtain⟨bm,ob,b1,b2,b3,b4,b5,b6,b7,b8⟩:=hbm
   refine⟨⟨o,ws,file,tf,flags,tg,inF,text,tt,hin e1 (fun z=>?_) (seqOnly e1 fun _ _ z=>by rw[e3] at z;cases z),e2,e3,e4,r⟩,⟨bm,ob,b1,b2,b3,b4,hin b5 b4 (seqOnly b5 fun _ _ z=>by rw[b8] at z;cases z),b6,b7,b8⟩⟩
   rw[z,hT] at e1
   cases e1
   cases e2
  have hok:HOk P w (upd Z T (.tbl #[])) s1.heap:=fun b u e=>by
   by_cases hb:b=T
   ·subst hb
    rw[aj] at e
    cases e
    exact hT
   ·rw[aM hb] at e
    obtain⟨rfl,rfl⟩:=hZ b u e
    exact⟨ha,by rw[Vs];exact hl,vs,_,rv,ha⟩
  have e0:Jw P w K mg (Kw s1.heap (upd Z T (.tbl #[]))) abT [] s1 (upd Z T (.tbl #[])) :=
   ⟨U,⟨kb,nsK hG,⟨mb,nsK hB,hbb⟩,let ⟨mc,m1,m2⟩:=hlim;⟨mc,nsK m1,m2⟩⟩,fun b o e=>PL e,Nat.le_of_eq (Im _ _),trivial,(fun b hb=>absurd (show b∈([]:D0) from hb) aaU),hok,.of_eq hg⟩
  have hS1:SqL K (upd Z T (.tbl #[])) a (ns.map V.int):=by
   rcases hS with (h | ⟨o,h⟩) | h
   ·exact .inl (.inl ((H1 a aT).trans h))
   ·exact .inl (.inr ⟨o,(H1 a aT).trans h⟩)
   ·exact .inr h
  refine Yl ((F _ kb (nsK hG) hd).run abT [] s1 _ ⟨[.ref a],[]⟩ [.ref a] [.ref a] _ _ hr e0 (hbind s1 (.ref a)) (.cons U .nil) (hsp _ ⟨#[],aj,trivial,fun pos cv z=>by cases z⟩ hS1)) fun r s2 z=>?_
  cases r with
  | error e=>exact Wu z
  | ok fl =>
   cases fl with
   | next=>exact Wu z
   | brk=>exact Wu z
   | cont=>exact Wu z
   | ret u =>
    obtain⟨v,H2,os,bare,un,hok2,r2,rfl⟩:=z
    obtain rfl:u=aa0 true:=r2
    have kept:∀ b o,s1.heap.get? b=some o->b≠T->s2.heap.get? b=some o:=fun b o e n=>by
     cases z:Z b with
     | none=>exact un.keep b o e ((H1 b n).trans z) (fun y=>nomatch y) fun y=>nomatch y
     | some u =>
      have z1:=(H1 b n).trans z
      obtain⟨rfl,rfl⟩:=hZ b u z
      obtain⟨e2,_⟩:=hok2 _ _ (un.frzs _ _ _ z1)
      rw[ha] at e
      cases e
      exact e2
    obtain⟨more,et⟩:=un.tbls T #[] aj
    have gT:s2.heap.get? T=some (PySem.W.tabObj (#[]++more)):=hok2 T _ et
    refine⟨U,⟨fun b o e=>?_,fun b o e=>?_⟩,os,bare⟩
    ·by_cases hb:b=T
     ·subst hb
      rw[hT] at e
      cases e
      exact .inr (.inl ⟨(hC.tab hT).isCodeTable,U,#[],more,U,gT⟩)
     ·exact .inl (kept b o e hb)
    ·by_cases hb:b=T
     ·subst hb
      exact⟨_,gT⟩
     ·exact⟨o,kept b o e hb⟩
 cases hk:K.lookup a with
 | some o =>
  have e:=KX a o hk
  rw[ha] at e
  cases e
  exact key (fun _=>none) (fun b u z=>by cases z) (.inr ⟨_,vs.toArray,_,hk,rfl,rfl,rfl,by rw[V1,nl];exact hl,by simpa using rv⟩) fun z=>absurd U z
 | none =>
  exact key (upd (fun _=>none) a (.frz { cls:=.type "list",data:=.seq vs.toArray } (.lst (ns.map V.int)))) (fun b u z=>by
   by_cases hb:b=a
   ·subst hb
    rw[aj] at z
    exact⟨U,(Wo z).symm⟩
   ·rw[aM hb] at z
    cases z) (.inl (.inr ⟨{ cls:=.type "list",data:=.seq vs.toArray },aj⟩)) fun _=>hk
def K5 {l:W.OpenLaw}{n k:Nat}{qp:V4}{loose:D9}{XP:(Wb->DO)->WD->Prop}{YP:Wn->WD->Prop}{d:DefRec}{K:Params->V3}{sp:Wn->Sp}{x q:Wb}{T:Addr}
  (hn:l.most=some n) (hn2:n<=sizeLine) (hdf:d.params.defaults=[]) (hr:fj k abT)
  (hY:∀ (w:Wn) (h:WD),YP w h->(K w.params).In h/\h.get? T=some (W.tabObj #[])) (hno:∀ w:Wn,W.noTabs (K w.params)=true)
  (F:∀ (w:Wn) (mg:Wb->DO) (fa:Addr) (h:WD),(K w.params).In h->h.Ns V6 mg->mg d.name=some (.ref fa) →
   ∃ (fd:WR) (c:Addr),PySem.W.codeHdIn (K w.params) c T=true/\(∀ (s:Vt) (u:Value),aa6 s fd ⟨[u],[]⟩ [(x,u)]) ∧
    ∀ base:WD,(K w.params).In base->base.Ns V6 mg->Ez mg c T base->bH l.prog w (K w.params) mg base CX0 k fa fd [x] (sp w))
  (hsp:∀ (w:Wn) (H:Hp) (a:Addr) (ns:D6),ns.length<=n->TabOk H T q->SqL (K w.params) H a (ns.map V.int)->sp w [.ref a] H (fun v _=>v = .bl true) fun _ _ _=>False) :
  PySem.W.WalkO qp loose XP YP l.row.toRowW d [] (fun f vs=>PySem.call f vs):=by
 refine Att.zp hn hdf fun w s₀ s₁ mg mb fa o pm cd doc a vs ns G Y ho hd hcd hmg hobj hints hlen hg=>?_
 obtain⟨KX,hT⟩:=hY w _ Y
 obtain⟨fd,c,hc,hb,hF⟩:=F w mg fa _ KX G.T.g hmg
 have hC:=PySem.W.codeHd_of_K KX hc
 have hbm:s₁.heap.BuiltinsAt mg T:=by
  obtain⟨bm,ob,b1,b2,b3,b4,b5,b6⟩:=G.T.bmain
  refine⟨bm,ob,b1,b2,fun z=>?_,fun z=>?_,b3,b4,b5,b6⟩
  ·obtain⟨og,es,ep,e,d,_⟩:=G.T.g
   rw[z,e] at b3
   cases b3
   rw[d] at b6
   cases b6
  ·rw[z,hT] at b3
   cases b3
   cases b4
 exact IW KX G.T.g G.T.b G.T.builtins G.T.nolimit hg hobj hints (Wf hlen hn2) hr hT hC hbm (hno w) hF hb fun H h1 h2=>hsp w H a ns hlen h1 h2
def RJ {X:Cx}{st:Stmt}{t:TS}(h:PS X.nox st t):PS X st t:=fun ZY s σ H D I z =>
 Ww (h ZY s σ H D (I.wish _) z) (fun _ _ q=>q.mY) fun _ _ y=>y.elim
structure Dx (P:V4)(w:Wn)(K:VB)(mg:Wb->DO)(base:WD)(x:Wb)(k:Nat)(ps:D9)(sp:Sp):Prop where
 ex:∃ (f:Addr) (fd:WR),bH P w K mg base (XL P w) k f fd ps sp/\mg x=some (.ref f)/\Xx K (.ref f)=true/\Binds K fd ps []
def Fv {P:V4}{w:Wn}{X:Cx}:Passes (XL P w) X E0:=fun _ _ _ _ _ _ _ ⟨_,_,_,_,_,_,_,z⟩=>z.elim
section
variable {X:Cx}{k j:Nat}{x:Wb}{ps:D9}{sp:Sp}{p pos:ZD}{e:Expr}{es:D1}{t:TA}{E:XK}
def pK (D:Dx X.prog X.w X.K X.mg X.base x k ps sp)(hr:fj j X.A)(hx:Passes (XL X.prog X.w) X E)(ha:PA X (e::es) t)(hk:k<=j:=by first | decide | exact Vw _ | lia)(hg:Gl X x:=by rfl)
  (hdb:(x == ("__debug__" : Wb))=false:=by decide) (he:Wc (e::es) X.env=(false,Xv e X.env)::Wc es X.env:=by rfl) (hpl:(XX pos (Wc es X.env)).any (·.1)=false:=by rfl) :
  PE X (.Call (.Name x p) (e::es) [] pos) (G5 sp [] E t):=by
 obtain⟨f,fd,F,hm,hkp,hb⟩:=D.ex
 exact Hg F (hr.mono hk) hg hm hkp hb .nil hx ha hdb he hpl
end
section
variable {P:V4}{w:Wn}{K:V3}{mg:Wb->Option Value}{base:WD}
def Fun.okX {x qual:Wb}{st:Stmt}{f:Addr}{fd:WR}{N ps:D9}{k:Nat}{sp:Sp}(F:Fun K x qual st f fd)(S:aG N ps (aB st))(len:∀ vs H Q E,sp vs H Q E->vs.length=ps.length)
  (hb:∀ (cdv:Value) (A:Wm) (outer:D4) (s:Vt) (H:Hp) (vs:List V) (Q:VK) (E:XK),fj k (A.deeper (envOfC qual (aB st) s.heap.objs.size f cdv))->sp vs H Q E →
   ∃ t,PSs (wW (XL P w) P w K mg base N qual (aB st) f cdv A outer s H E) (bO st) t/\t { nx:=fun _ H2=>Q .non H2,rt:=Q } (start N vs) H):bH P w K mg base (XL P w) (k+1) f fd ps sp:=by
 obtain⟨oc,od,kV,doc,pm,an,cdv,ct,osl,rfl,lk,hc⟩:=F.ex
 exact NB lk hc S len fun A outer s H vs Q E hr hs=>hb cdv A outer s H vs Q E hr hs
end
def Ru {X:Cx}{scope:Yg}{NL:D9}{cap:D7}(c:oY X scope NL cap)(co:scope.isCoroutine=false:=by rfl)(gen:scope.isGenerator=false:=by rfl):OJ X scope NL cap :=
 ⟨⟨c.kind,co,gen,c.cell,fun x hx=>let ⟨_,hi⟩:=List.getElem?_of_mem hx;let ⟨_,_,_,z⟩:=c.at' _ x hi;z⟩,c.fr,c.len,fun k x e=>let ⟨i,a,b,_⟩:=c.at' k x e;⟨i,a,b⟩⟩
structure Ss (K:VB)(x qual:Wb)(st:Stmt)(f:Addr)(fd:WR)(c:Addr):Prop where
 ex:∃ (oc:Value) (od:DT) (kV doc pm:Value) (an:DT) (ct:Value) (osl:Array (DO)),
  fd=YB x qual (di st) (bO st) (aB st) .none kV doc pm an (.ref c) ct/\K.lookup f=some ⟨oc,od,.func fd,osl⟩/\Zt K (.ref c) qual=true
def Ss.ok {P:V4}{w:Wn}{K:V3}{mg:Wb->DO}{base:WD}{x qual:Wb}{st:Stmt}{f c:Addr}{fd:WR}{N ps:D9}{k:Nat}{sp:Sp}(F:Ss K x qual st f fd c)(S:aG N ps (aB st))(len:∀ vs H Q E,sp vs H Q E->vs.length=ps.length)
  (hb:∀ (A:Wm) (outer:D4) (s:Vt) (H:Hp) (vs:List V) (Q:VK) (E:XK),fj k (A.deeper (envOfC qual (aB st) s.heap.objs.size f (.ref c)))->sp vs H Q E →
   ∃ t,PSs (wW CX0 P w K mg base N qual (aB st) f (.ref c) A outer s H E).nox (bO st) t/\t { nx:=fun _ H2=>Q .non H2,rt:=Q } (start N vs) H):bH P w K mg base CX0 (k+1) f fd ps sp:=by
 obtain⟨oc,od,kV,doc,pm,an,ct,osl,rfl,lk,hc⟩:=F.ex
 refine NB lk hc S len fun A outer s H vs Q E hr hs=>?_
 obtain⟨t,h1,h2⟩:=hb A outer s H vs Q E hr hs
 exact⟨t,h1.nox,h2⟩
section
variable {prog:V4}{w:Wn}{A:Wm}{R:aaB->Vt->Prop}{E:DM}{s:Vt}
end
section
variable {X:Cx}{k:Nat}
end
end L2
namespace L2
open PySem PySem.Spec PyProof.Rows PySem.W
section
variable {prog:V4}{w:Wn}{A:Wm}{E:DM}{κ:SortKind}{it:Array Keyed}{s:Vt}
end
section
variable {X:Cx}
end
end L2
namespace L2
open PySem PySem.Spec PyProof.Rows
section
variable {X:Cx}{k:Nat}
end
section
variable {prog:V4}{w:Wn}{A:Wm}{R:aaB->Vt->Prop}{E:DM}{s:Vt}
end
section
variable {X:Cx}
end
section
variable {κ:Type}[DecidableEq κ]
def rZ (kvs:List (κ × V))(k:κ):Option V:=(kvs.find? fun kv=>decide (kv.1=k)).map (·.2)
def putK (kvs:List (κ × V))(k:κ)(v:V):List (κ × V) :=
 if (kvs.any fun kv=>decide (kv.1=k))=true then kvs.map (fun kv=>if kv.1=k then (kv.1,v) else kv) else kvs++[(k,v)]
def yS (kvs:List (κ × V))(k:κ):List (κ × V):=kvs.filter fun kv=>decide (kv.1≠k)
def pX {p:κ × V}{r:List (κ × V)}{k:κ}(e:p.1=k):rZ (p::r) k=some p.2:=by simp [rZ,ZR,e]
def m7 {p:κ × V}{r:List (κ × V)}{k:κ}(e:¬ p.1=k):rZ (p::r) k=rZ r k:=by simp [rZ,ZR,e]
theorem pR (k:κ):∀ kvs:List (κ × V),(kvs.any fun kv=>decide (kv.1=k))=(rZ kvs k).isSome
 | []=>rfl
 | p::r=>by
  rw[Y6]
  by_cases e:p.1=k
  ·simp only[pX e,decide_eq_true e,Bool.true_or,Option.isSome_some]
  ·rw[m7 e,decide_eq_false e,abJ];exact pR k r
def qJ (kvs:List (κ × V))(k:κ)(v:V):(putK kvs k v).length<=kvs.length+1:=by
 unfold putK
 split
 ·rw[Vs];lia
 ·rw[VH,V2,List.length_nil];lia
def Br {kvs:List (κ × V)}{k:κ}(v:V)(h:rZ kvs k=none):putK kvs k v=kvs++[(k,v)]:=by
 unfold putK
 rw[pR,h]
 exact if_neg (by decide)
def t7.jF {o:Option V}{u:DO}(r:t7 o u):o.isSome=u.isSome:=by
 cases o with
 | none=>cases u with
  | none=>rfl
  | some _=>exact (show False from r).elim
 | some _=>cases u with
  | none=>exact (show False from r).elim
  | some _=>rfl
def KV.val {kvs:List (κ × V)}{vs:List (κ × Value)}(r:KV kvs vs)(k:κ):t7 (rZ kvs k) (abq vs k):=by
 unfold KV at r
 induction r with
 | nil=>exact YF
 | @cons p q ps qs h t ih =>
  obtain⟨h1,h2⟩:=h
  by_cases e:p.1=k
  ·have e':q.1=k:=h1.symm.trans e
   have b:abq (q::qs) k=some q.2:=by simp [abq,ZR,e']
   rw[pX e,b];exact h2
  ·have e':¬ q.1=k:=fun z=>e (h1.trans z)
   have b:abq (q::qs) k=abq qs k:=by simp [abq,ZR,e']
   rw[m7 e,b];exact ih
def KV.any {kvs:List (κ × V)}{vs:List (κ × Value)}(r:KV kvs vs)(k:κ):(kvs.any fun kv=>decide (kv.1=k))=vs.any fun kv=>decide (kv.1=k):=by
 unfold KV at r
 induction r with
 | nil=>rfl
 | cons h t ih=>rw[Y6,Y6,ih,h.1]
def KV.repl {kvs:List (κ × V)}{vs:List (κ × Value)}(r:KV kvs vs)(k:κ){y:V}{u:Value}(ry:RelV y u) :
  KV (kvs.map fun kv=>if kv.1=k then (kv.1,y) else kv) (vs.map fun kv=>if kv.1=k then (kv.1,u) else kv):=by
 unfold KV at r ⊢
 induction r with
 | nil=>exact .nil
 | @cons p q ps qs h t ih =>
  rw[WL,WL]
  refine .cons ?_ ih
  obtain⟨h1,h2⟩:=h
  by_cases e:p.1=k
  ·rw[if_pos e,if_pos (h1.symm.trans e)];exact⟨h1,ry⟩
  ·rw[if_neg e,if_neg (fun z=>e (h1.trans z))];exact⟨h1,h2⟩
def KV.put {kvs:List (κ × V)}{vs:List (κ × Value)}(r:KV kvs vs)(k:κ){y:V}{u:Value}(ry:RelV y u):KV (putK kvs k y) (stored vs k u):=by
 unfold putK stored
 rw[r.any k]
 by_cases e:(vs.any fun kv=>decide (kv.1=k))=true
 ·rw[if_pos e,if_pos e];exact r.repl k ry
 ·rw[if_neg e,if_neg e];exact Paired.snoc r ⟨U,ry⟩
def KV.drop {kvs:List (κ × V)}{vs:List (κ × Value)}(r:KV kvs vs)(k:κ):KV (yS kvs k) (without vs k):=by
 unfold KV at r ⊢
 unfold yS without
 induction r with
 | nil=>exact .nil
 | @cons p q ps qs h t ih =>
  obtain⟨h1,h2⟩:=h
  rw[aad,aad]
  by_cases e:p.1=k
  ·have a:¬ decide (p.1≠k)=true:=by simp [e]
   have b:¬ decide (q.1≠k)=true:=by simp [h1.symm.trans e]
   rw[if_neg a,if_neg b];exact ih
  ·have e':¬ q.1=k:=fun z=>e (h1.trans z)
   have a:decide (p.1≠k)=true:=by simp [e]
   have b:decide (q.1≠k)=true:=by simp [e']
   rw[if_pos a,if_pos b];exact .cons ⟨h1,h2⟩ ih
def KV.length {kvs:List (κ × V)}{vs:List (κ × Value)}(r:KV kvs vs):kvs.length=vs.length:=Paired.length r
def Ls (kvs:List (κ × V))(k:κ):(yS kvs k).length<=kvs.length:=WT _ _
end
def DG {P:V4}{w:Wn}{k:Key}{u:Value}(r:RelV (kV k) u):(dI P w).is k u=true:=by
 cases k with
 | inl i=>obtain⟨t,e⟩:=(show ∃ t,u=Ys i t from r);subst e;exact zx P w i t
 | inr x=>obtain⟨t,e⟩:=(show ∃ t,u=abv x t from r);subst e;exact Ae P w x t
theorem xX {P:V4}{w:Wn}:∀ {ks:List Key} {us:DV},Vals (ks.map kV) us->ItemsAre (dI P w) ks us
 | [],_,r=>by rw[List.map_nil] at r;cases r;exact .nil
 | k::ks,_,r=>by
  rw[WL] at r
  cases r with
  | cons h t=>exact .cons (DG h) (xX t)
abbrev KT (H:Hp):List (List Key × V)->List (List Key × Addr × Value)->Prop:=Paired fun p q=>p.1=q.1/\H q.2.1=some (.tup (p.1.map kV))/\RelV p.2 q.2.2
def KT.val {H:Hp}{kvs:List (List Key × V)}{xs:List (List Key × Addr × Value)}(r:KT H kvs xs)(k:List Key):t7 (rZ kvs k) ((atKey xs k).map (·.2)):=by
 induction r with
 | nil=>exact YF
 | @cons p q ps qs h t ih =>
  obtain⟨h1,_,h2⟩:=h
  by_cases e:p.1=k
  ·have e':q.1=k:=h1.symm.trans e
   have b:atKey (q::qs) k=some q.2:=by simp [atKey,ZR,e']
   rw[pX e,b];exact h2
  ·have e':¬ q.1=k:=fun z=>e (h1.trans z)
   have b:atKey (q::qs) k=atKey qs k:=by simp [atKey,ZR,e']
   rw[m7 e,b];exact ih
def KT.repl {H:Hp}{kvs:List (List Key × V)}{xs:List (List Key × Addr × Value)}(r:KT H kvs xs)(k:List Key){y:V}{u:Value}(ry:RelV y u) :
  KT H (kvs.map fun kv=>if kv.1=k then (kv.1,y) else kv) (xs.map (putAt k u)):=by
 induction r with
 | nil=>exact .nil
 | @cons p q ps qs h t ih =>
  rw[WL,WL]
  refine .cons ?_ ih
  obtain⟨h1,h2,h3⟩:=h
  unfold putAt
  by_cases e:p.1=k
  ·rw[if_pos e,if_pos (h1.symm.trans e)];exact⟨h1,h2,ry⟩
  ·rw[if_neg e,if_neg (fun z=>e (h1.trans z))];exact⟨h1,h2,h3⟩
def KT.put {H:Hp}{kvs:List (List Key × V)}{xs:List (List Key × Addr × Value)}(r:KT H kvs xs)(k:List Key){b:Addr}{y:V}{u:Value}(hb:H b=some (.tup (k.map kV)))(ry:RelV y u) :
  KT H (putK kvs k y) (storedH xs k b u):=by
 have e:(kvs.any fun kv=>decide (kv.1=k))=(atKey xs k).isSome:=by
  rw[pR,(r.val k).jF,abZ]
 unfold putK storedH
 rw[e]
 by_cases q:(atKey xs k).isSome=true
 ·rw[if_pos q,if_pos q];exact r.repl k ry
 ·rw[if_neg q,if_neg q];exact Paired.snoc r ⟨U,hb,ry⟩
def KT.keeps {H H':Hp}{kvs:List (List Key × V)}{xs:List (List Key × Addr × Value)}(r:KT H kvs xs)(ht:∀ b ys,H b=some (.tup ys)->H' b=some (.tup ys)):KT H' kvs xs :=
 Paired.Ue r fun _ _ z=>⟨z.1,ht _ _ z.2.1,z.2.2⟩
section
variable {P:V4}{w:Wn}{H:Hp}{h:WD}{a:Addr}
def QX {u:HO}(ok:HOk P w H h)(e:Rd H a u):dU P w H h a u:=e.ok ok
def yd {kvs:List (Key × V)}(ok:HOk P w H h)(e:Rd H a (.dK kvs)):kvs.length<=sizeLine/\(a == Zh)=false/\∃ vs,KV kvs vs/\h.DictOf (dI P w) a vs :=
 show dU P w H h a (.dK kvs) from QX ok e
def Pk {kvs:List (Key × V)}(ok:HOk P w H h)(e:H a=some (.dK kvs)):kvs.length<=sizeLine/\(a == Zh)=false/\∃ vs,KV kvs vs/\h.DictOf (dI P w) a vs:=yd ok (.inl e)
def vW {ks:List Key}(ok:HOk P w H h)(e:H a=some (.tup (ks.map kV))):(ab7 (dI P w)).is h ks a:=by
 obtain⟨_,its,r,o,h1,h2,n,h3⟩:=(show dU P w H h a (.tup (ks.map kV)) from ok a _ e)
 exact⟨o,its.toArray,n,h1,h2,h3,by simpa using xX r⟩
def Ek {kvs:List (List Key × V)}(ok:HOk P w H h)(e:Rd H a (.dT kvs)):kvs.length<=sizeLine/\(a == Zh)=false ∧
  ∃ xs,KT H kvs xs/\h.DictOfH (ab7 (dI P w)) a xs:=by
 obtain⟨z,y,xs,r,o,es,ep,h1,h2,h3,h4,h5⟩:=(show dU P w H h a (.dT kvs) from QX ok e)
 refine⟨z,y,xs,r,o,es,ep,h1,h2,h3,h4,fun x hx=>?_,h5⟩
 have all:∀ {l:List (List Key × V)} {m:List (List Key × Addr × Value)},KT H l m->∀ x∈m,(ab7 (dI P w)).is h x.1 x.2.1:=by
  intro l m q
  induction q with
  | nil=>intro x hx;exact nomatch hx
  | @cons p q ps qs hq t ih =>
   intro x hx
   rcases List.mem_cons.mp hx with e | hx
   ·subst e
    exact vW ok (by rw[← hq.1];exact hq.2.1)
   ·exact ih x hx
 exact all r x hx
def Sy {kvs:List (List Key × V)}(ok:HOk P w H h)(e:H a=some (.dT kvs)):kvs.length<=sizeLine/\(a == Zh)=false ∧
  ∃ xs,KT H kvs xs/\h.DictOfH (ab7 (dI P w)) a xs:=Ek ok (.inl e)
end
def rA (H:Hp)(a:Addr)(y:V)(r:Option V):Prop :=
 (∃ kvs k,Rd H a (.dK kvs)/\y=kV k/\r=rZ kvs k)∨∃ kvs k b,Rd H a (.dT kvs)/\y = .ref b/\H b=some (.tup (k.map kV))/\r=rZ kvs k
def Og (H:Hp)(a:Addr)(y v:V)(H':Hp):Prop :=
 (∃ kvs k,H a=some (.dK kvs)/\y=kV k/\kvs.length < sizeLine/\H'=upd H a (.dK (putK kvs k v))) ∨
 ∃ kvs k b,H a=some (.dT kvs)/\y = .ref b/\H b=some (.tup (k.map kV))/\kvs.length < sizeLine/\H'=upd H a (.dT (putK kvs k v))
theorem rA.k {H:Hp}{a:Addr}{kvs:List (Key × V)}{k:Key}(e:H a=some (.dK kvs)):rA H a (kV k) (rZ kvs k):=.inl ⟨kvs,k,.inl e,U,U⟩
theorem Og.k {H:Hp}{a:Addr}{kvs:List (Key × V)}{k:Key}{v:V}(e:H a=some (.dK kvs))(hl:kvs.length < sizeLine):Og H a (kV k) v (upd H a (.dK (putK kvs k v))):=.inl ⟨kvs,k,e,U,hl,U⟩
section
variable {X:Cx}{ZY:DI}{σ:St}{H:Hp}{s:Vt}{a:Addr}{y v:V}{u r:Value}{o:Option V}{A:Wm}{E:DM}
def Inv.big (I:Inv X ZY σ H s):Zh < s.heap.objs.size:=by
 have h:V6 < s.heap.objs.size:=(I.mod.glob.keeps I.bk).lt
 exact aa2 (by decide) h
def Fi {Q:DM}(hu:A.units+1 < cLine)(I:Inv X ZY σ H s)(g:rA H a y (some v))(ry:RelV y u)(h:∀ w' s',Inv X ZY σ H s'->RelV v w'->Q w' s') :
  VG (VM X.prog X.w) A (abt (.ref a) u) Q E s:=by
 rcases g with⟨kvs,k,e,ey,l⟩ | ⟨kvs,k,b,e,ey,eb,l⟩
 ·subst ey
  obtain⟨z,hd,vs,rel,dd⟩:=yd I.hok e
  obtain⟨w',hw,rw'⟩:=t7.some_of (v:=v) (o:=abq vs k) (by rw[l];exact rel.val k)
  exact wpAny_getItem_of (DG ry) dd.mapOf hw (h w' _ (I.tok _) rw')
 ·subst ey
  cases (show u=VV b from ry)
  obtain⟨z,hd,xs,rel,dd⟩:=Ek I.hok e
  obtain⟨w',hw,rw'⟩:=t7.some_of (v:=v) (o:=(atKey xs k).map (·.2)) (by rw[l];exact rel.val k)
  obtain⟨p,hp,hp2⟩:=Option.map_eq_some_iff.mp hw
  refine wpAny_getItem_heap (aay hu) (vW I.hok eb) dd hp ?_
  rw[hp2]
  exact h w' _ (I.tok _) rw'
def Ve {Q:DM}(hu:A.units+1 < cLine)(I:Inv X ZY σ H s)(g:rA H a y o)(ry:RelV y u)(h:∀ s',Inv X ZY σ H s'->Q (.bool o.isSome) s') :
  VG (VM X.prog X.w) A (XR .In u (.ref a)) Q E s:=by
 rcases g with⟨kvs,k,e,ey,l⟩ | ⟨kvs,k,b,e,ey,eb,l⟩
 ·subst ey
  obtain⟨z,hd,vs,rel,dd⟩:=yd I.hok e
  refine wpAny_in_of (DG ry) hd dd.mapOf ?_
  rw[← (rel.val k).jF,← l]
  exact h _ (I.tok _)
 ·subst ey
  cases (show u=VV b from ry)
  obtain⟨z,hd,xs,rel,dd⟩:=Ek I.hok e
  refine wpAny_in_heap (aay hu) (vW I.hok eb) hd dd ?_
  have q:=(rel.val k).jF
  rw[abZ] at q
  rw[← q,← l]
  exact h _ (I.tok _)
def Nu {Q:DM}(hu:A.units+1 < cLine)(I:Inv X ZY σ H s)(g:rA H a y o)(ry:RelV y u)(h:∀ s',Inv X ZY σ H s'->Q (.bool (!o.isSome)) s') :
  VG (VM X.prog X.w) A (XR .NotIn u (.ref a)) Q E s:=by
 rcases g with⟨kvs,k,e,ey,l⟩ | ⟨kvs,k,b,e,ey,eb,l⟩
 ·subst ey
  obtain⟨z,hd,vs,rel,dd⟩:=yd I.hok e
  refine wpAny_notIn_of (DG ry) hd dd.mapOf ?_
  rw[← (rel.val k).jF,← l]
  exact h _ (I.tok _)
 ·subst ey
  cases (show u=VV b from ry)
  obtain⟨z,hd,xs,rel,dd⟩:=Ek I.hok e
  refine wpAny_notIn_heap (aay hu) (vW I.hok eb) hd dd ?_
  have q:=(rel.val k).jF
  rw[abZ] at q
  rw[← q,← l]
  exact h _ (I.tok _)
def Ak {h':WD}{t':Nat}{ob:HO}(I:Inv X ZY σ H s)(mu:Mut (H a))(hs:YX a s.heap h')(he:∃ q,h'.get? a=some q)(new:dU X.prog X.w (upd H a ob) h' a ob) :
  Inv X ZY σ (upd H a ob) { s with heap:=h',toks:=t' } :=
 I.write (x:=a) (e:=a) mu (.inl U) (fun b q hb z=>(hs.2 b hb).trans z) he new
def Ig {P:V4}{w:Wn}{H':Hp}{h':WD}{kvs:List (Key × V)}{vs:List (Key × Value)}(z:kvs.length<=sizeLine)(hd:(a == Zh)=false)(rel:KV kvs vs)(dd:h'.DictOf (dI P w) a vs) :
  dU P w H' h' a (.dK kvs):=⟨z,hd,vs,rel,dd⟩
def HQ {H':Hp}{Q:Unit->Vt->Prop}(hu:A.units+1 < cLine)(I:Inv X ZY σ H s)(g:Og H a y v H')(ry:RelV y u)(rv:RelV v r)(h:∀ s',Inv X ZY σ H' s'->Q () s') :
  VG (VM X.prog X.w) A (setItem (.ref a) u r) Q E s:=by
 rcases g with⟨kvs,k,e,ey,l,eH⟩ | ⟨kvs,k,b,e,ey,eb,l,eH⟩
 ·subst ey eH
  obtain⟨z,hd,vs,rel,dd⟩:=Pk I.hok e
  have hz:vs.length<=sizeLine:=by rw[← rel.length];exact z
  have hl:(putK kvs k v).length<=sizeLine:=by have:=qJ kvs k v;lia
  refine wpAny_setItem_pairs (hsz:=hz) (DG ry) dd fun h' dd' hs=>h _ ?_
  have he:∃ q,h'.get? a=some q:=let ⟨q,_,_,hq,_⟩:=dd';⟨q,hq⟩
  exact Ak I (by rw[e];exact YF) hs he (Ig hl hd (rel.put k rv) dd')
 ·subst ey eH
  cases (show u=VV b from ry)
  obtain⟨z,hd,xs,rel,dd⟩:=Sy I.hok e
  have hz:xs.length<=sizeLine:=by rw[← Paired.length rel];exact z
  have hl:(putK kvs k v).length<=sizeLine:=by have:=qJ kvs k v;lia
  refine wpAny_setItem_heap (hsz:=hz) (aay hu) (vW I.hok eb) dd fun h' dd' hs=>h _ ?_
  obtain⟨q,es,ep,hq,h2,h3,h4,_,h5⟩:=dd'
  refine Ak I (by rw[e];exact YF) hs ⟨q,hq⟩ ⟨hl,hd,_,(rel.put k eb rv).keeps fun c ys ec=>?_,q,es,ep,hq,h2,h3,h4,h5⟩
  rw[aM (Ti ec e (fun z=>nomatch z))]
  exact ec
end
section
variable {X:Cx}{ZY:DI}{σ:St}{H:Hp}{s:Vt}{a:Addr}{kvs:List (Key × V)}{k:Key}{u:Value}{A:Wm}{E:DM}
def T9 {v:V}{more:DV}{Q:DM}(I:Inv X ZY σ H s)(e:H a=some (.dK kvs))(ry:RelV (kV k) u)(l:rZ kvs k=some v)(hm:more=[]∨∃ x,more=[x])
  (h:∀ w' s',Inv X ZY σ (upd H a (.dK (yS kvs k))) s'->RelV v w'->Q w' s'):VG (VM X.prog X.w) A (call (.builtin "dict.pop") (.ref a::u::more)) Q E s:=by
 obtain⟨z,hd,vs,rel,dd⟩:=Pk I.hok e
 obtain⟨w',hw,rw'⟩:=t7.some_of (v:=v) (o:=abq vs k) (by rw[← l];exact rel.val k)
 have hp:(keyPart u).isSome=true:=by
  cases k with
  | inl i=>obtain⟨t,q⟩:=(show ∃ t,u=Ys i t from ry);subst q;rfl
  | inr x=>obtain⟨t,q⟩:=(show ∃ t,u=abv x t from ry);subst q;rfl
 have ha:aaA "dict.pop" ⟨.ref a::u::more,[]⟩:=by
  rcases hm with q | ⟨x,q⟩
  ·subst q;exact PySem.F.args_dict_pop_2 _ _
  ·subst q;exact PySem.F.args_dict_pop_3 _ _ _
 refine call_meetsIn PySem.F.slot_dict_pop dd.typeIs PySem.F.entry_dict_pop ha (meets_dict_pop_there (dI X.prog X.w) a (DG ry) more hm hp)
  ⟨vs,w',dd,by rw[← rel.length];exact z,hw,fun h' dd' hs=>h w' _ ?_ rw'⟩
 have he:∃ q,h'.get? a=some q:=let ⟨q,_,_,hq,_⟩:=dd';⟨q,hq⟩
 exact Ak I (by rw[e];exact YF) hs he (Ig (Wf (Ls kvs k) z) hd (rel.drop k) dd')
def SX {Q:DM} (I:Inv X ZY σ H s) (e:Rd H a (.dK kvs)) (h:∀ t s',Inv X ZY σ H s'->Q (.int kvs.length t) s'):VG (VM X.prog X.w) A (call (.builtin "len") [.ref a]) Q E s:=by
 obtain⟨z,hd,vs,rel,dd⟩:=yd I.hok e
 refine call_len_dict hd dd (by rw[← rel.length];rw[aco] at z;lia) ?_
 rw[← rel.length]
 exact h _ _ (I.tok _)
end
def Um (i:Expr):Prop:=∀ ov iv,acn i false ov iv=operate [ov,iv] (abt ov iv)
def Oi {prog:V4}{w:Wn}{A:Wm}{E:DM}{s:Vt}{env:Env}{value slice:Expr}{pos:ZD}{T id:String}{Q:DM}
  (hl:aax (.type T) "__getitem__" = pure (some (.builtin id))) (hs:Um slice)
  (h:VG (VM prog w) A (Xv value env) (fun o s₁=>VG (VM prog w) A (Xv slice env) (fun i s₂=>s₂.TypeIs o T/\VG (VM prog w) A (abt o i) Q E s₂) E s₁) E s) :
  VG (VM prog w) A (Xv (.Subscript value slice pos) env) Q E s:=by
 refine Subscript_ (Ww h (fun o s₁ h₁=>Ww h₁ (fun i s₂ h₂=>?_) fun _ _ x=>x) fun _ _ x=>x)
 obtain⟨hT,h₂⟩:=h₂
 unfold abE
 refine Vr ?_
 rw[getitemInPython_of_ne hT.not_modules]
 refine Vr (aak hT hl ?_)
 have fin:VG (VM prog w) A (acn slice false o i) (fun r s₃=>VG (VM prog w) A (letTemporaryGo value o r >>= fun _=>pure r) Q E s₃) E s₂:=by
  rw[hs o i]
  exact wpAny_operating (Ww h₂ (fun r s₃ h₃=>Vr (wpAny_letTemporaryGo (Vv h₃))) fun _ _ x=>x)
 first
  | exact Vv (Vr fin)
  | exact Vr (Vv (Vr fin))
  | exact Vr fin
def zO {X:Cx} {ZY:DI} {σ:St} {H:Hp} {s:Vt} {a:Addr} {y:V} {o:Option V} (I:Inv X ZY σ H s) (g:rA H a y o):s.TypeIs (.ref a) "dict":=by
 rcases g with⟨kvs,k,e,_,_⟩ | ⟨kvs,k,b,e,_,_,_⟩
 ·obtain⟨_,_,vs,_,dd⟩:=yd I.hok e
  exact dd.typeIs
 ·obtain⟨_,_,xs,_,dd⟩:=Ek I.hok e
  exact dd.typeIs
def Ua (td ty:TE):TE:=fun σ H Q=>td σ H fun x H1=>ty σ H1 fun y H2=>∃ a v,x = .ref a/\rA H2 a y (some v)/\Q v H2
def U9 (ty td:TE):TE:=fun σ H Q=>ty σ H fun y H1=>td σ H1 fun x H2=>∃ a o,x = .ref a/\rA H2 a y o/\Q (.bl o.isSome) H2
def Py (ty td:TE):TE:=fun σ H Q=>ty σ H fun y H1=>td σ H1 fun x H2=>∃ a o,x = .ref a/\rA H2 a y o/\Q (.bl (!o.isSome)) H2
def Tw (td ty tv:TE):TS:=fun D σ H=>tv σ H fun v H1=>td σ H1 fun x H2=>ty σ H2 fun y H3=>∃ a H4,x = .ref a/\Og H3 a y v H4/\D.nx σ H4
section
variable {X:Cx}{o i e value:Expr}{pos pos' tpos:ZD}{td ty tv:TE}
def jT (hu:X.A.units+1 < cLine)(ho:PE X o td)(hi:PE X i ty)(hs:Um i):PE X (.Subscript o i pos) (Ua td ty):=by
 intro ZY s σ H Q I h
 refine Oi PySem.F.slot_dict_getitem.lookup hs (thn (ho ZY s σ H _ I h) fun u s1 ⟨x,H1,I1,rx,q1⟩=>thn (hi ZY s1 σ H1 _ I1 q1) fun iv s2 ⟨y,H2,I2,ry,a,v,ex,g,q2⟩=>?_)
 subst ex
 obtain rfl:u=VV a:=rx
 exact⟨zO I2 g,Fi hu I2 g ry fun w' s3 I3 rw'=>⟨v,H2,I3,rw',q2⟩⟩
def QD (hu:X.A.units+1 < cLine)(hi:PE X i ty)(ho:PE X o td):PC X .In i o (U9 ty td):=by
 intro ZY s σ H Q I h
 refine thn (hi ZY s σ H _ I h) fun iv s1 ⟨y,H1,I1,ry,q1⟩=>thn (ho ZY s1 σ H1 _ I1 q1) fun u s2 ⟨x,H2,I2,rx,a,ov,ex,g,q2⟩=>?_
 subst ex
 obtain rfl:u=VV a:=rx
 exact Ve hu I2 g ry fun s3 I3=>⟨.bl ov.isSome,H2,I3,U,q2⟩
def Hj (hu:X.A.units+1 < cLine)(hi:PE X i ty)(ho:PE X o td):PC X .NotIn i o (Py ty td):=by
 intro ZY s σ H Q I h
 refine thn (hi ZY s σ H _ I h) fun iv s1 ⟨y,H1,I1,ry,q1⟩=>thn (ho ZY s1 σ H1 _ I1 q1) fun u s2 ⟨x,H2,I2,rx,a,ov,ex,g,q2⟩=>?_
 subst ex
 obtain rfl:u=VV a:=rx
 exact Nu hu I2 g ry fun s3 I3=>⟨.bl (!ov.isSome),H2,I3,U,q2⟩
def zW (hu:X.A.units+1 < cLine)(ho:PE X o td)(hi:PE X i ty)(hv:PE X value tv)(hs:abr value (some (.Subscript o i pos')) pos.line X.env=pure false) :
  PS X (.Assign [.Subscript o i pos'] value pos) (Tw td ty tv):=by
 intro ZY s σ H D I h
 refine wpAny_Assign_Subscript (thn (hv ZY s σ H _ I h) fun r s1 ⟨v,H1,I1,rv,q1⟩=>thn (ho ZY s1 σ H1 _ I1 q1) fun u s2 ⟨x,H2,I2,rx,q2⟩=>thn (hi ZY s2 σ H2 _ I2 q2) fun iv s3 ⟨y,H3,I3,ry,a,H4,ex,g,q3⟩=>?_) hs
 subst ex
 obtain rfl:u=VV a:=rx
 exact HQ hu I3 g ry rv fun s4 I4=>⟨σ,H4,I4,q3⟩
end
def Lr {P:V4}{w:Wn}{H:Hp}(h:WD)(hb:Zh < h.objs.size):dU P w H (h.push { cls:=.type "dict",data:=.dict #[] }) h.objs.size (.dK []) :=
 ⟨Wr _,beq_eq_false_iff_ne.mpr (Xl (V5 hb)),[],.nil,Heap.DictOf.new h⟩
def Rf:TE:=fun _ H Q=>∀ p,H p=none->Q (.ref p) (upd H p (.dK []))
section
variable {X:Cx}{pos:ZD}
def Cr:PE X (.Dict [] [] pos) Rf:=fun ZY s σ H Q I h =>
 wpAny_Dict_empty ⟨.ref s.heap.objs.size,_,I.laid (a:=s.heap.objs.size) (o:=.dK []) (t':=s.toks) (fun _ _ q=>Vu _ q) (Vw _) (Lr s.heap I.big),U,h _ (I.hok.fresh (Vw _))⟩
end
structure M1 (X:Cx)(o:Expr)(m:Wb)(apos:ZD)(e:Expr)(cpos:ZD):Prop where
 base:aae o m X.env (Xv o X.env)=Xv o X.env
 few:((XX cpos (Wc [e] X.env)).all (fun x=>!x.1) && (aaz cpos (Zi [] X.env)).all (fun x=>x.1.isSome)
  && decide (([e]:D1).length+([]:DS).length+(if ([]:DS).isEmpty then 0 else 1) < 30))=true
 line:(apos.endLine == cpos.line)=true
 trees:XX cpos (Wc [e] X.env)=[(false,Xv e X.env)]
def IsD (H:Hp)(a:Addr):Prop:=(∃ kvs,Rd H a (.dK kvs))∨∃ kvs,Rd H a (.dT kvs)
def RV {X:Cx}{ZY:DI}{σ:St}{H:Hp}{s:Vt}{a:Addr}(I:Inv X ZY σ H s)(d:IsD H a) :
  s.TypeIs (.ref a) "dict"/\(∀ b,VV a = .ref b->∃ ob,s.heap.get? b=some ob/\ob.dict=none)/\(a == Zh)=false:=by
 rcases d with⟨kvs,e⟩ | ⟨kvs,e⟩
 ·obtain⟨_,hd,vs,_,dd⟩:=yd I.hok e
  refine⟨dd.typeIs,fun b q=>?_,hd⟩
  cases q
  obtain⟨ob,_,_,h1,h2,_⟩:=dd
  exact⟨ob,h1,h2.2.1⟩
 ·obtain⟨_,hd,xs,_,dd⟩:=Ek I.hok e
  refine⟨dd.typeIs,fun b q=>?_,hd⟩
  cases q
  obtain⟨ob,_,_,h1,h2,_⟩:=dd
  exact⟨ob,h1,h2.2.1⟩
section
variable {X:Cx}{ZY:DI}{σ:St}{H:Hp}{s:Vt}{a:Addr}{y d:V}{u r:Value}{o:Option V}{A:Wm}{E:DM}
end
def QG (td ty:TE):TE:=fun σ H Q=>td σ H fun x H1=>∃ a,x = .ref a/\IsD H1 a/\ty σ H1 fun y H2=>∃ kvs k v,H2 a=some (.dK kvs)/\y=kV k/\rZ kvs k=some v/\Q v (upd H2 a (.dK (yS kvs k)))
section
variable {X:Cx}{o e f:Expr}{apos cpos:ZD}{td ty tx:TE}
def J6 (ho:PE X o td) (he:PE X e ty) (m:M1 X o "pop" apos e cpos):PE X (.Call (.Attribute o "pop" apos) [e] [] cpos) (QG td ty):=by
 intro ZY s σ H Q I h
 refine wpAny_Call_method m.base m.few m.line PySem.F.plainAttrs_dict PySem.F.slot_dict_pop PySem.F.type_dict_pop (thn (ho ZY s σ H _ I h) fun u s1 ⟨x,H1,I1,rx,a,ex,d,q1⟩=>?_)
 subst ex
 obtain rfl:u=VV a:=rx
 obtain⟨t1,t2,_⟩:=RV I1 d
 refine⟨t1,t2,?_⟩
 rw[m.trees]
 refine Calls.callWith_builtin U (Calls.evalArgs_plain (aaG (thn (he ZY s1 σ H1 _ I1 q1) fun iv s2 ⟨y,H2,I2,ry,kvs,k,v,ea,ey,l,q2⟩=>aaN ?_)))
 subst ey
 exact T9 I2 ea ry l (.inl U) fun w' s3 I3 rw'=>⟨v,_,I3,rw',q2⟩
end
section
variable {X:Cx}{ZY:DI}{σ:St}{H:Hp}{s:Vt}{a:Addr}{kvs:List (Key × V)}{A:Wm}{E:DM}
def Kc {Q:DM} (I:Inv X ZY σ H s) (e:Rd H a (.dK kvs)) (h:∀ p s',H p=none->Inv X ZY σ (upd H p (.dK kvs)) s'->Q (.ref p) s'):VG (VM X.prog X.w) A (call (.type "dict") [.ref a]) Q E s:=by
 obtain⟨z,hd,vs,rel,dd⟩:=yd I.hok e
 refine kt_call_dict hd dd (by rw[← rel.length];exact z) fun h' dd' hs=>?_
 refine h _ _ (I.hok.fresh (Vw _)) (I.laid (a:=s.heap.objs.size) (o:=.dK kvs) (t':=s.toks) (fun b q hq=>?_) (Vw _) (Ig z (beq_eq_false_iff_ne.mpr (Xl (V5 I.big))) rel dd'))
 exact (hs.2 b (V5 (VL hq))).trans (Vu _ hq)
end
section
variable {X:Cx}{ZY:DI}{σ:St}{H:Hp}{s:Vt}{a:Addr}{y:V}{u:Value}{A:Wm}{E:DM}
end
def fj.iz {k:Nat}{A:Wm}(r:fj k A):A.units+1 < cLine:=by have:=r.un;lia
section
variable {X:Cx}{ZY:DI}{σ:St}{H:Hp}{s:Vt}{a b:Addr}{v:V}{r:Value}{A:Wm}{E:DM}
end
inductive HasDef (K:VB)(x:Wb)(st:Stmt)(f:Addr):Prop where
 | mk {od an:DT} {sl:Array (DO)} {oc kV dc pm cd ct:Value} (a:PySem.W.nsIn K V6 x=some (some (.ref f))) (l:K.lookup f=some ⟨oc,od,.func (YB x x (di st) (bO st) (aB st) .none kV dc pm an cd ct),sl⟩) (c:Zt K cd x=true) (k:Xx K (.ref f)=true):HasDef K x st f
section
variable {P:V4}{w:Wn}{K:V3}{mg:Wb->Option Value}{base h:WD}{x:Wb}{st:Stmt}{f:Addr}{ps:List Wb}{sp:Sp}{k:Nat}
def HasDef.name (q:HasDef K x st f)(X:K.In h)(G:h.Ns V6 mg):mg x=some (.ref f):=by
 obtain⟨a,l,c,k⟩:=q
 exact aaf X G a
def HasDef.df (q:HasDef K x st f)(X:K.In h)(G:h.Ns V6 mg)(hb:∀ fd,Fun K x x st f fd->Binds K fd ps [])(ok:∀ fd,Fun K x x st f fd->bH P w K mg base CX0 k f fd ps sp):Df P w K mg base x k ps sp:=by
 obtain⟨a,l,c,k⟩:=q
 have F:=rE l c k
 exact⟨⟨_,_,ok _ F,aaf X G a,k,hb _ F⟩⟩
theorem Jk {α:Type}:∀ {us:List α},us.length=1->∃ x0,us=[x0]
 | [x0],_=>⟨x0,U⟩
theorem Qg {α:Type}:∀ {us:List α},us.length=2->∃ x0 x1,us=[x0,x1]
 | [x0,x1],_=>⟨x0,x1,U⟩
theorem Tv {α:Type}:∀ {us:List α},us.length=3->∃ x0 x1 x2,us=[x0,x1,x2]
 | [x0,x1,x2],_=>⟨x0,x1,x2,U⟩
theorem Vc {α:Type}:∀ {us:List α},us.length=4->∃ x0 x1 x2 x3,us=[x0,x1,x2,x3]
 | [x0,x1,x2,x3],_=>⟨x0,x1,x2,x3,U⟩
theorem Uq {α:Type}:∀ {us:List α},us.length=5->∃ x0 x1 x2 x3 x4,us=[x0,x1,x2,x3,x4]
 | [x0,x1,x2,x3,x4],_=>⟨x0,x1,x2,x3,x4,U⟩
def bind1 {a0:Wb}(h:∀ (kV doc pm:Value) (an:DT) (cdv ct x0:Value),Zk (abk x x (di st) (bO st) (aB st) .none kV doc pm an cdv ct) ⟨[x0],[]⟩=pure [(a0,x0)]:=by intros;rfl):∀ fd,Fun K x x st f fd->Binds K fd [a0] []:=fun _ F=>F.binds fun kV doc pm an cdv ct us hl=>by
 obtain⟨x0,rfl⟩:=Jk hl
 exact h kV doc pm an cdv ct x0
def bI {a0 a1:Wb}(h:∀ (kV doc pm:Value) (an:DT) (cdv ct x0 x1:Value),Zk (abk x x (di st) (bO st) (aB st) .none kV doc pm an cdv ct) ⟨[x0,x1],[]⟩=pure [(a0,x0),(a1,x1)]:=by intros;rfl):∀ fd,Fun K x x st f fd->Binds K fd [a0,a1] []:=fun _ F=>F.binds fun kV doc pm an cdv ct us hl=>by
 obtain⟨x0,x1,rfl⟩:=Qg hl
 exact h kV doc pm an cdv ct x0 x1
def iu {a0 a1 a2:Wb}(h:∀ (kV doc pm:Value) (an:DT) (cdv ct x0 x1 x2:Value),Zk (abk x x (di st) (bO st) (aB st) .none kV doc pm an cdv ct) ⟨[x0,x1,x2],[]⟩=pure [(a0,x0),(a1,x1),(a2,x2)]:=by intros;rfl):∀ fd,Fun K x x st f fd->Binds K fd [a0,a1,a2] []:=fun _ F=>F.binds fun kV doc pm an cdv ct us hl=>by
 obtain⟨x0,x1,x2,rfl⟩:=Tv hl
 exact h kV doc pm an cdv ct x0 x1 x2
def Fe {a0 a1 a2 a3:Wb}(h:∀ (kV doc pm:Value) (an:DT) (cdv ct x0 x1 x2 x3:Value),Zk (abk x x (di st) (bO st) (aB st) .none kV doc pm an cdv ct) ⟨[x0,x1,x2,x3],[]⟩=pure [(a0,x0),(a1,x1),(a2,x2),(a3,x3)]:=by intros;rfl):∀ fd,Fun K x x st f fd->Binds K fd [a0,a1,a2,a3] []:=fun _ F=>F.binds fun kV doc pm an cdv ct us hl=>by
 obtain⟨x0,x1,x2,x3,rfl⟩:=Vc hl
 exact h kV doc pm an cdv ct x0 x1 x2 x3
def Qy {a0 a1 a2 a3 a4:Wb}(h:∀ (kV doc pm:Value) (an:DT) (cdv ct x0 x1 x2 x3 x4:Value),Zk (abk x x (di st) (bO st) (aB st) .none kV doc pm an cdv ct) ⟨[x0,x1,x2,x3,x4],[]⟩=pure [(a0,x0),(a1,x1),(a2,x2),(a3,x3),(a4,x4)]:=by intros;rfl):∀ fd,Fun K x x st f fd->Binds K fd [a0,a1,a2,a3,a4] []:=fun _ F=>F.binds fun kV doc pm an cdv ct us hl=>by
 obtain⟨x0,x1,x2,x3,x4,rfl⟩:=Uq hl
 exact h kV doc pm an cdv ct x0 x1 x2 x3 x4
end
structure Dm2 (P:V4)(w:Wn)(K:VB)(mg:Wb->DO)(base:WD)(C:Addr)(m:Wb)(k:Nat)(ps:D9)(sp:Sp):Prop where
 ex:∃ (f:Addr) (fd:WR),bH P w K mg base CX0 k f fd ps sp/\Cls K C/\Meth K C m f/\Binds K fd ps []
structure Dk2 (P:V4)(w:Wn)(K:VB)(mg:Wb->DO)(base:WD)(x:Wb)(C:Addr)(k:Nat)(ps:D9)(sp:Sp):Prop where
 ex:∃ (f:Addr) (fd:WR),bH P w K mg base CX0 k f fd ps sp/\Mk K C f/\mg x=some (.ref C)/\Binds K fd ps []
section
variable {X:Cx}{k j:Nat}{x m:Wb}{C:Addr}{ps:D9}{sp:Sp}{p pos apos:ZD}{o e:Expr}{es:D1}{to:TE}{t:TA}{f:Wb}
def DQ {pl:Sem Bool}(D:Dm2 X.prog X.w X.K X.mg X.base C m k ps sp)(hr:fj j X.A)(ho:PE X o to)(ha:PA X (e::es) t)(hk:k<=j:=by first | decide | exact Vw _ | lia)
  (hst:Wc (e::es) X.env=(false,Xv e X.env)::Wc es X.env:=by rfl) (hpl:(XX pos (Wc es X.env)).any (·.1)=false:=by rfl)
  (ht:Xv (.Call (.Attribute o m apos) (e::es) [] pos) X.env=(do
   let ov ← Xv o X.env
   Zx apos.atName
   let (f,first) ← ZP [ov] (Z9 ov m pl)
   abj pos f first (XX pos (Wc (e::es) X.env)) (aaz pos (Zi [] X.env))):=by rfl) :
  PE X (.Call (.Attribute o m apos) (e::es) [] pos) (FT C m sp [] E0 to t):=by
 obtain⟨f,fd,F,c,hm,hb⟩:=D.ex
 exact Fj ho c hm F (hr.mono hk) hb .nil nH ha hst hpl ht
def Eu (D:Dk2 X.prog X.w X.K X.mg X.base x C k ps sp)(hr:fj j X.A)(ha:PA X (e::es) t)(hk:k+1<=j:=by first | decide | exact Vw _ | lia)(hg:Gl X x:=by rfl)
  (hdb:(x == ("__debug__" : Wb))=false:=by decide) (he:Wc (e::es) X.env=(false,Xv e X.env)::Wc es X.env:=by rfl) (hpl:(XX pos (Wc es X.env)).any (·.1)=false:=by rfl) :
  PE X (.Call (.Name x p) (e::es) [] pos) (JK C sp [] E0 t):=by
 obtain⟨f,fd,F,M,hm,hb⟩:=D.ex
 exact Oa M F (hr.mono hk) hg hm hb .nil nH ha hdb he hpl
def Q4 (D:Dk2 X.prog X.w X.K X.mg X.base x C k ps sp)(hr:fj j X.A)(hk:k+1<=j:=by first | decide | exact Vw _ | lia)(hg:Gl X x:=by rfl)
  (hdb:(x == ("__debug__" : Wb))=false:=by decide):PE X (.Call (.Name x p) [] [] pos) (JK C sp [] E0 Kv):=by
 obtain⟨f,fd,F,M,hm,hb⟩:=D.ex
 exact J9 M F (hr.mono hk) hg hm hb .nil nH hdb
def aX (K:V3)(hK:X.K=K)(he:PE X e to)(hb:aae e f X.env (Xv e X.env)=Xv e X.env:=by rfl):PE X (.Attribute e f pos) (Uy K to f):=by
 subst hK
 exact RC he hb
end
section
variable {prog:V4}{w:Wn}{A:Wm}{E:DM}{s:Vt}
def Lq {t:Addr}{zs:DV}{R:DV->Vt->Prop}(ht:s.heap.IsTuple t zs.toArray)(hz:zs.length<=sizeLine)
  (k:R zs { s with heap:=(s.heap.push (aan "list" #[] 0)).update s.heap.objs.size (YS (·++zs.toArray)) }):VG (VM prog w) A (collect (.ref t)) R E s:=by
 obtain⟨o,ho,hc,m,hd⟩:=id ht
 have old:(s.heap.push (aan "list" #[] 0)).get? t=some o:=Vu _ ho
 have new:(s.heap.push (aan "list" #[] 0)).get? s.heap.objs.size=some (aan "list" #[] 0):=VN _ U
 unfold collect
 apply Vr
 apply wpAny_runValue
 apply XJ entry_proto_collect'
 apply Vr (m:=newList [])
 refine abD ?_
 apply Vv
 refine⟨aaF _ (by decide+kernel),?_⟩
 apply XJ entry_list_iadd'
 show VG _ _ (Zf _ _ _) _ _ _
 unfold Zf
 apply Vr
 refine abP (T:="tuple") ⟨o,old,hc⟩ ?_
 rw[if_pos (by rw[show (YD "tuple" == YD "tuple")=true from U];simp)]
 apply Vr
 apply listItems_at old hd
 apply Vr
 apply listItems_at (xs:=#[]) (n:=0) new U
 rw[if_neg (by simp)]
 apply Vr
 refine listUpdate_at (xs:=#[]) (n:=0) new U ?_ (Wr _) ?_
 ·apply Vv
  apply Vr (m:=load s.heap.objs.size)
  apply wpAny_load (get?_update_seq new _)
  show VG _ _ (pure ((#[]:Array Value)++zs.toArray).toList) R E _
  have e:((#[]:Array Value)++zs.toArray).toList=zs:=by simp
  rw[e]
  exact Vv k
 ·have e:((#[]:Array Value)++zs.toArray).size=zs.length:=by simp
  show ((#[]:Array Value)++zs.toArray).size<=sizeLine+1
  rw[e]
  exact Nat.le_succ_of_le hz
def Dn {t:Addr}{zs:DV}{ns:D6}{R:DM}(ht:s.heap.IsTuple t zs.toArray)(hi:Xa zs ns)(h64:zs.length < 64)
  (k:∀ (out:Array Value) (ms:D6),Xa out.toList ms->ms.Perm ns->ms.Pairwise (·<=·)->R (.ref (s.heap.objs.size+1)) { s with heap:=sortedAll s.heap zs out }):VG (VM prog w) A (call (.builtin "sorted") [.ref t]) R E s:=by
 apply aaI kind_sorted plain_sorted entry_sorted (args_sorted1 _)
 unfold YZ.«sorted»
 apply Vr (m:=checkCount "sorted" 1 1 _)
 apply Vv
 apply Vr
 apply Lq ht (Xz (aa2 h64 (by decide)))
 apply Vr
 refine abD ?_ (hsz:=Xz (aa2 h64 (by decide)))
 generalize eg:(s.heap.push (aan "list" #[] 0)).update s.heap.objs.size (YS (·++zs.toArray))=g
 have hg:g.objs.size=s.heap.objs.size+1:=by rw[← eg,Heap.size_update,size_push']
 have top:(g.push (aan "list" zs.toArray 0)).get? (s.heap.objs.size+1)=some (aan "list" zs.toArray 0):=by
  rw[← hg]
  exact VN _ U
 show VG _ _ _ _ _ { s with heap:=g.push (aan "list" zs.toArray 0) }
 rw[hg]
 apply Vr
 apply Xe
 refine Xo slot_list_sort ⟨_,top,U⟩ acu ?_ (args_list_sort _)
 ·refine list_sort_tree top hi h64 fun out ms a1 a2 a3=>⟨_,U,?_⟩
  have:=k out ms a1 a2 a3
  unfold sortedAll at this
  rw[eg] at this
  exact Vv ⟨_,U,this⟩
end
section
variable {X:Cx}
inductive GF (K:V3)(xs:List V)(H:Hp)(Q:VK):Prop where
 | mk (p:Addr) (ns:D6) (z0:xs=[.ref p]) (z1:SqT K H p (ns.map V.int)) (z2:ns.length < 64) (z3:∀ ms:D6,ms.Perm ns->ms.Pairwise (·<=·)->∀ l,H l=none->Q (.ref l) (upd H l (.lst (ms.map V.int)))):GF K xs H Q
def LK (K:V3):List V->Hp->VK->Prop:=fun xs H Q=>GF K xs H Q
def Ef:gf X (.builtin "sorted") (LK X.K):=by
 intro ZY s σ H xs us Q I r h
 obtain⟨p,ns,rfl,hq,h64,q⟩:=h
 obtain⟨u,rfl,ru⟩:=vals1 r
 cases ru
 obtain⟨its,rv,pl,hz⟩:=I.tuple hq
 have hi:Xa its ns:=intsAre_of rv
 refine Dn pl hi (by have:=hi.length;lia) fun out ns' a1 a2 a3=>?_
 obtain⟨e,he⟩:=sortedAll_at s.heap its out
 have hml:(ns'.map V.int).length<=sizeLine:=by
  rw[Vs,a2.length_eq]
  exact Xz (Vx h64 (by decide))
 exact⟨.ref _,_,I.Km U U (fun _ _=>sortedAll_old) (Xq _) (iM a1) hml he,U,q ns' a2 a3 _ (I.hok.fresh (Xq _))⟩
end
inductive jx (K:VB)(x:Wb)(C:Addr):Prop where
 | mk (a:PySem.W.nsIn K V6 x=some (some (.ref C))) (pg:aac K C Str.empty=true) (hd:Zc K C=true) (po:abW K C=true) (sa:W5 K (.ref C) "__setattr__" = some (some (.builtin "object.__setattr__"))) (ms:acv K C=true) (kp:Xx K (.ref C)=true):jx K x C
inductive cU (K:VB)(C:Addr)(m q:Wb)(st:Stmt)(f:Addr):Prop where
 | mk {od an:DT} {sl:Array (DO)} {oc kV dc pm cd ct:Value} (a:W5 K (.ref C) m=some (some (.ref f))) (fn:abY K (.ref f)=true) (l:K.lookup f=some ⟨oc,od,.func (YB m q (di st) (bO st) (aB st) .none kV dc pm an cd ct),sl⟩) (c:Zt K cd q=true) (k:Xx K (.ref f)=true):cU K C m q st f
section
variable {P:V4}{w:Wn}{K:V3}{mg:Wb->Option Value}{base h:WD}{x m q:Wb}{st:Stmt}{C f:Addr}{ps:List Wb}{sp:Sp}{k:Nat}
def jx.cl (c:jx K x C):Cls K C:=by
 obtain⟨_,pg,hd,po,sa,_,_⟩:=c
 exact⟨pg,hd,po,sa⟩
def cU.dm (o:cU K C m q st f)(c:jx K x C)(hb:∀ fd,Fun K m q st f fd->Binds K fd ps [])(ok:∀ fd,Fun K m q st f fd->bH P w K mg base CX0 k f fd ps sp):Dm2 P w K mg base C m k ps sp:=by
 obtain⟨a,fn,l,cd,k⟩:=o
 have F:=rE l cd k
 exact⟨⟨_,_,ok _ F,c.cl,⟨a,fn,k⟩,hb _ F⟩⟩
def cU.dk (o:cU K C "__init__" q st f) (c:jx K x C) (X:K.In h) (G:h.Ns V6 mg) (hb:∀ fd,Fun K "__init__" q st f fd->Binds K fd ps []) (ok:∀ fd,Fun K "__init__" q st f fd->bH P w K mg base CX0 k f fd ps sp):Dk2 P w K mg base x C k ps sp:=by
 obtain⟨a,fn,l,cd,k⟩:=o
 obtain⟨n,_,_,_,_,ms,kp⟩:=c
 have F:=rE l cd k
 exact⟨⟨_,_,ok _ F,⟨ms,a,fn,kp⟩,aaf X G n,hb _ F⟩⟩
end
structure Dmx (P:V4)(w:Wn)(K:VB)(mg:Wb->DO)(base:WD)(C:Addr)(m:Wb)(k:Nat)(ps:D9)(sp:Sp):Prop where
 ex:∃ (f:Addr) (fd:WR),bH P w K mg base (XL P w) k f fd ps sp/\Cls K C/\Meth K C m f/\Binds K fd ps []
section
variable {X:Cx}{k j:Nat}{m:Wb}{C:Addr}{ps:D9}{sp:Sp}{pos apos:ZD}{o e:Expr}{es:D1}{to:TE}{t:TA}{E:XK}
def ue {pl:Sem Bool}(D:Dmx X.prog X.w X.K X.mg X.base C m k ps sp)(hr:fj j X.A)(hx:Passes (XL X.prog X.w) X E)(ho:PE X o to)(ha:PA X (e::es) t)(hk:k<=j:=by first | decide | exact Vw _ | lia)
  (hst:Wc (e::es) X.env=(false,Xv e X.env)::Wc es X.env:=by rfl) (hpl:(XX pos (Wc es X.env)).any (·.1)=false:=by rfl)
  (ht:Xv (.Call (.Attribute o m apos) (e::es) [] pos) X.env=(do
   let ov ← Xv o X.env
   Zx apos.atName
   let (f,first) ← ZP [ov] (Z9 ov m pl)
   abj pos f first (XX pos (Wc (e::es) X.env)) (aaz pos (Zi [] X.env))):=by rfl) :
  PE X (.Call (.Attribute o m apos) (e::es) [] pos) (FT C m sp [] E to t):=by
 obtain⟨f,fd,F,c,hm,hb⟩:=D.ex
 exact Fj ho c hm F (hr.mono hk) hb .nil hx ha hst hpl ht
def Od {pl:Sem Bool}(D:Dmx X.prog X.w X.K X.mg X.base C m k ps sp)(hr:fj j X.A)(hx:Passes (XL X.prog X.w) X E)(ho:PE X o to)(hk:k<=j:=by first | decide | exact Vw _ | lia)
  (ht:Xv (.Call (.Attribute o m apos) [] [] pos) X.env=(do
   let ov ← Xv o X.env
   Zx apos.atName
   let (f,first) ← ZP [ov] (Z9 ov m pl)
   abj pos f first (XX pos (Wc [] X.env)) (aaz pos (Zi [] X.env))):=by rfl) :
  PE X (.Call (.Attribute o m apos) [] [] pos) (FT C m sp [] E to Kv):=by
 obtain⟨f,fd,F,c,hm,hb⟩:=D.ex
 exact La ho c hm F (hr.mono hk) hb .nil hx ht
end
section
variable {P:V4}{w:Wn}{K:V3}{mg:Wb->Option Value}{base h:WD}{x m q:Wb}{st:Stmt}{C f:Addr}{ps:List Wb}{sp:Sp}{k:Nat}
def cU.dmx (o:cU K C m q st f)(c:jx K x C)(hb:∀ fd,Fun K m q st f fd->Binds K fd ps [])(ok:∀ fd,Fun K m q st f fd->bH P w K mg base (XL P w) k f fd ps sp):Dmx P w K mg base C m k ps sp:=by
 obtain⟨a,fn,l,cd,k⟩:=o
 have F:=rE l cd k
 exact⟨⟨_,_,ok _ F,c.cl,⟨a,fn,k⟩,hb _ F⟩⟩
def HasDef.dx (q:HasDef K x st f)(X:K.In h)(G:h.Ns V6 mg)(hb:∀ fd,Fun K x x st f fd->Binds K fd ps [])(ok:∀ fd,Fun K x x st f fd->bH P w K mg base (XL P w) k f fd ps sp):Dx P w K mg base x k ps sp:=by
 obtain⟨a,l,c,k⟩:=q
 have F:=rE l c k
 exact⟨⟨_,_,ok _ F,aaf X G a,k,hb _ F⟩⟩
end
section
variable {X:Cx}
end
inductive dW (K:VB)(x q:Wb)(C fi:Addr)(st:Stmt)(bm:DV):Prop where
 | mk {nm qn:Wb} {N:Addr} {bs sub:DV} {hdct ab:Bool} {sn:D9} {col:DU} {dd odi ani:DT} {k0 k1 k2 k3 k5:DO} {cd:ClassData} {sli:Array (DO)} {oci kVi dci pmi cdi cti:Value}
  (ac:X5 K V6 x=some (some (.ref C))) (oc:K.lookup C=some (YQ nm qn C N bs bm hdct sn sub ab col dd k0 k1 k2 k3 k5 "ValueError.__new__")) (ve:QR bm) (ic:Zn K (.ref C) "__init__" = some (some (.ref fi))) (tc:W.typeIn K (.ref fi)=some (.type "function")) (pc:W.keepIn K (.ref C)=true)
  (sc:Zn K (.ref C) "__setattr__" = some (some (.builtin "object.__setattr__"))) (dc:W.clsIn K C=some cd) (uc:tD cd.mro=true) (hc:cd.hasDict=true) (kc:W.takerIn K C "word" = some none) (gc:Zn K (.ref C) "__getattribute__" = some (some (.builtin "BaseException.__getattribute__")))
  (gh:Zn K (.ref C) "__getattr__" = some none) (nc:Zn K (.ref C) "word" = some none) (li:K.lookup fi=some ⟨oci,odi,.func (abk "__init__" q (di st) (bO st) (aB st) .none kVi dci pmi ani cdi cti),sli⟩) (ci:W.codeIn K cdi q=true) (ki:W.keepIn K (.ref fi)=true):dW K x q C fi st bm
inductive jo (K:VB)(x:Wb)(st:Stmt)(f c T:Addr):Prop where
 | mk {od an:DT} {sl:Array (DO)} {oc kV dc pm ct:Value} (a:PySem.W.nsIn K V6 x=some (some (.ref f))) (l:K.lookup f=some ⟨oc,od,.func (YB x x (di st) (bO st) (aB st) .none kV dc pm an (.ref c) ct),sl⟩) (cc:Zt K (.ref c) x=true) (k:Xx K (.ref f)=true) (hd:PySem.W.codeHdIn K c T=true):jo K x st f c T
section
variable {K:V3}{mg:Wb->DO}{h:WD}{x q x' q':Wb}{C fi C' fi' f c T:Addr}{st st':Stmt}{bm bm':DV}
def dW.name (o:dW K x q C fi st bm)(X:K.In h)(G:h.Ns V6 mg):mg x=some (.ref C):=by
 obtain⟨ac⟩:=o
 exact aaf X G ac
def dW.Mf (o:dW K x q C fi st bm):Lf K C fi "word":=by
 obtain⟨ac,oc,ve,ic,tc,pc,sc,dc,uc,hc,kc⟩:=o
 exact⟨⟨_,_,_,_,_,_,_,_,_,_,_,_,_,_,_,_,oc,ve⟩,ic,tc,pc,sc,⟨_,dc,uc,hc⟩,kc⟩
def dW.fn (o:dW K x q C fi st bm):∃ fd,Fun K "__init__" q st fi fd:=by
 obtain⟨_,_,_,_,_,_,_,_,_,_,_,_,_,_,li,ci,ki⟩:=o
 exact⟨_,rE li ci ki⟩
def dW.kp (o:dW K x q C fi st bm):W.keepIn K (.ref fi)=true:=by
 obtain⟨_,_,_,_,_,_,_,_,_,_,_,_,_,_,_,_,ki⟩:=o
 exact ki
def dW.xrd (o:dW K x q C fi st bm) (b:dW K x' q' C' fi' st' bm') (mr:(VV C::bm).contains (.ref C')=true):XRd K C C' "word":=by
 obtain⟨_,oc,_,_,_,_,_,dc,uc,hc,_,gc,gh,nc⟩:=o
 obtain⟨_,oc',ve'⟩:=b
 exact⟨⟨_,_,_,_,_,_,_,_,_,_,_,_,_,_,_,_,_,oc,mr⟩,⟨_,_,_,_,_,_,_,_,_,_,_,_,_,_,_,_,_,oc',ve'.b⟩,gc,gh,⟨_,dc,uc⟩,by unfold Zc;rw[dc];exact hc,nc⟩
def HasDef.fn (o:HasDef K x st f):∃ fd,Fun K x x st f fd:=by
 obtain⟨a,l,c,k⟩:=o
 exact⟨_,rE l c k⟩
def jo.name (o:jo K x st f c T)(X:K.In h)(G:h.Ns V6 mg):mg x=some (.ref f):=by
 obtain⟨a⟩:=o
 exact aaf X G a
theorem jo.hd (o:jo K x st f c T):W.codeHdIn K c T=true:=by
 obtain⟨_,_,_,_,hd⟩:=o
 exact hd
def jo.law {y:Wb}(o:jo K x st f c T)(hb:∀ (kV dc pm:Value) (an:DT) (cd ct:Value) (s:Vt) (v:Value),aa6 s (abk x x (di st) (bO st) (aB st) .none kV dc pm an cd ct) ⟨[v],[]⟩ [(y,v)]):∃ fd,Ss K x x st f fd c/\∀ (s:Vt) (v:Value),aa6 s fd ⟨[v],[]⟩ [(y,v)]:=by
 obtain⟨a,l,cc,k,hd⟩:=o
 exact⟨_,⟨⟨_,_,_,_,_,_,_,_,U,l,cc⟩⟩,hb _ _ _ _ _ _⟩
end
section
variable {X:Cx}
def TV {kvs:List (Key × V)}{vs:List (Key × Value)}(r:KV kvs vs):kvs.map (·.1)=vs.map (·.1):=by
 induction r with
 | nil=>rfl
 | cons h _ ih =>
  rw[WL,WL,ih,h.1]
def Gm {ks:D6}{acc:DV}(hl:acc.length=ks.length)(h:∀ (j:Nat) (v:Value),acc[j]? = some v->∃ i:Int,ks[j]? = some i/\∃ t,v = .int i t):Xa acc ks:=by
 induction ks generalizing acc with
 | nil =>
  cases acc with
  | nil=>exact .nil
  | cons _ _=>cases hl
 | cons k ks ih =>
  cases acc with
  | nil=>cases hl
  | cons a acc =>
   obtain⟨i,e,t,rfl⟩:=h 0 a U
   cases (show some k=some i from e)
   exact .cons _ _ (ih (Nat.succ.inj hl) fun j v e=>h (j+1) v e)
inductive Ik (xs:List V)(H:Hp)(Q:VK):Prop where
 | mk (p:Addr) (kvs:List (Key × V)) (ns:D6) (z0:xs=[.ref p]) (z1:H p=some (.dK kvs)) (z2:kvs.map (·.1)=ns.map WN) (z3:ns.length < 64) (z4:∀ ms:D6,ms.Perm ns->ms.Pairwise (·<=·)->∀ l,H l=none->Q (.ref l) (upd H l (.lst (ms.map V.int)))):Ik  xs H Q
def xU:List V->Hp->VK->Prop:=fun xs H Q=>Ik  xs H Q
def j6 (hc:X.calm=true):gf X (.builtin "sorted") xU:=by
 intro ZY s σ H xs us Q I r h
 obtain⟨p,kvs,ns,rfl,hp,hk,h64,q⟩:=h
 obtain⟨u,rfl,ru⟩:=vals1 r
 cases ru
 obtain⟨z,hd,vs,rel,dd⟩:=Pk I.hok hp
 obtain⟨ep,hat⟩:=dd.dictAt
 have ek:=(TV rel).symm.trans hk
 have lv:vs.length=ns.length:=by
  have:=congrArg abo ek
  rwa [Vs,Vs] at this
 refine aaI kind_sorted plain_sorted entry_sorted (args_sorted1 _) ?_
 unfold YZ.«sorted»
 refine Vr (m:=checkCount "sorted" 1 1 _) (Vv ?_)
 refine Vr (PySem.W.kdu_collect (A:=X.A.in1) (PySem.W.kdl_dict (knd:=dI X.prog X.w) (kvs:=vs) (ep:=ep) hd) (I.ok.hd hc) hat (by rw[lv];exact Xz (Vx h64 (by decide))) fun h' tk acc hkp hacc=>?_)
 have I1:Inv X ZY σ H { s with heap:=h',toks:=tk }:=I.kept (t':=tk) hkp
 have la:acc.toList.length=ns.length:=by rw[Wz];exact hacc.1.trans lv
 have hi:Xa acc.toList ns:=Gm la fun j v e=>by
  obtain⟨k,x,hx,hkv⟩:=hacc.2 j v (by rw[← W6];exact e)
  have e1:(vs.map (·.1))[j]? = some k:=by rw[V7,hx];rfl
  rw[ek,V7] at e1
  cases z:ns[j]? with
  | none=>rw[z] at e1;cases e1
  | some i =>
   rw[z] at e1
   cases e1
   rcases cN (show zG (WN i) v=true from hkv) with⟨i',t,e2,e3⟩ | ⟨x',t,e2,_⟩
   ·cases e2
    exact⟨i,U,t,e3⟩
   ·cases e2
 refine Vr (abD ?_ (by rw[la];exact Xz (Vx h64 (by decide))))
 have top:(h'.push (aan "list" acc.toList.toArray 0)).get? h'.objs.size=some (aan "list" acc.toList.toArray 0):=VN _ U
 show VG _ _ _ _ _ { s with heap:=h'.push (aan "list" acc.toList.toArray 0),toks:=tk }
 apply Vr
 apply Xe
 refine Xo slot_list_sort ⟨_,top,U⟩ acu ?_ (args_list_sort _)
 refine list_sort_tree top hi (by rw[la];exact h64) fun out ms a1 a2 a3=>⟨_,U,Vv ⟨_,U,?_⟩⟩
 obtain⟨e,he⟩:=sortedHeap_at (out:=out) top
 have hml:(ms.map V.int).length<=sizeLine:=by
  rw[Vs,a2.length_eq]
  exact Xz (Vx h64 (by decide))
 have old:∀ b o,h'.get? b=some o->(sortedHeap (h'.push (aan "list" acc.toList.toArray 0)) h'.objs.size acc.toList out).get? b=some o:=fun b o hb=>by
  have hlt:=VL hb
  rw[sortedHeap_old (V5 hlt) (by rw[size_push'];exact WY hlt),Heap.get?_push_ne _ _ _ (V5 hlt)]
  exact hb
 exact⟨.ref _,_,I1.Km U U old (Vw _) (iM a1) hml he,U,q ms a2 a3 _ (I1.hok.fresh (Vw _))⟩
inductive MP (xs:List V)(H:Hp)(Q:VK):Prop where
 | mk (a:Addr) (kvs:List (Key × V)) (z0:xs=[.ref a]) (z1:H a=some (.dK kvs)) (z2:Q (.int kvs.length) H):MP  xs H Q
def Rb:List V->Hp->VK->Prop:=fun xs H Q=>MP  xs H Q
def Dj:gf X (.builtin "len") Rb:=by
 intro ZY s σ H xs us Q I r h
 obtain⟨a,kvs,rfl,ha,q⟩:=h
 obtain⟨u,rfl,ru⟩:=vals1 r
 cases ru
 exact SX I (.inl ha) fun t s' I'=>⟨.int kvs.length,H,I',⟨t,U⟩,q⟩
inductive Ci (xs:List V)(H:Hp)(Q:VK):Prop where
 | mk (a:Addr) (kvs:List (Key × V)) (z0:xs=[.ref a]) (z1:H a=some (.dK kvs)) (z2:∀ p,H p=none->Q (.ref p) (upd H p (.dK kvs))):Ci  xs H Q
def yO:List V->Hp->VK->Prop:=fun xs H Q=>Ci  xs H Q
def rm:gf X (.type "dict") yO:=by
 intro ZY s σ H xs us Q I r h
 obtain⟨a,kvs,rfl,ha,q⟩:=h
 obtain⟨u,rfl,ru⟩:=vals1 r
 cases ru
 exact Kc I (.inl ha) fun p s' hp I'=>⟨.ref p,_,I',U,q p hp⟩
def Fx:Wy "dict" = some (.type "dict"):=by decide+kernel
end
def JN (its:DV):aaR its.toArray none none (some 1)=its.toArray:=by
 have h:Yz none none (some 1) its.toArray.size=(((0:Nat):Int),((its.length:Nat):Int),1):=by
  unfold Yz
  simp
 unfold aaR
 rw[h]
 simp only[sliceRange_one,pick_run]
 simp
def Ec {α:Type}(s:Int)(xs:List α):List α:=if s=1 then xs else xs.reverse
def qN {α:Type}(s:Int)(xs:List α):(Ec s xs).length=xs.length:=by
 unfold Ec
 split
 ·rfl
 ·exact List.length_reverse
def KC {s:Int}(h:s=1∨s = -1)(its:DV):aaR its.toArray none none (some s)=(Ec s its).toArray:=by
 rcases h with rfl | rfl
 ·exact JN its
 ·exact Ka its
def U8 (K:V3)(te:TE)(ts:TO):TE:=fun σ H Q=>te σ H fun x H1=>ts σ H1 fun o H2=>∃ (s:Int) (a:Addr) (xs:List V),o=some s/\(s=1∨s = -1)/\x = .ref a/\SqL K H2 a xs/\∀ p,H2 p=none->Q (.ref p) (upd H2 p (.lst (Ec s xs)))
def Kd {s:Int}{xs:List V}{us:DV}(r:Vals xs us):Vals (Ec s xs) (Ec s us):=by
 unfold Ec
 split
 ·exact r
 ·exact r.reverse
section
variable {X:Cx}
def Jy {e es:Expr}{te:TE}{ts:TO}{p2 pos:ZD}(he:PE X e te)(hs:PO X (some es) ts):PE X (.Subscript e (.Slice none none (some es) p2) pos) (U8 X.K te ts):=by
 intro ZY s σ H Q I h
 refine Subscript_ (thn (he ZY s σ H _ I h) fun v s1 ⟨x,H1,I1,r1,q1⟩=>?_)
 refine wpAny_Slice ?_
 rw[evalPart_none]
 refine Vv (Vv ?_)
 refine thn (hs ZY s1 σ H1 _ I1 q1) fun vs s3 ⟨o,H3,I3,ps,st,a,xs,eo,hst,ex,hx,q⟩=>?_
 subst eo ex
 have I4:Inv X ZY σ H3 { s3 with heap:=s3.heap.push { cls:=.type "slice",data:=.fields #[.none,.none,vs] } }:=I3.kept (t':=s3.toks) fun b ob q=>Vu _ q
 cases r1
 obtain⟨its,r,ht,hz⟩:=I4.list hx
 have hlen:=r.length
 show VG (VM X.prog X.w) X.A (abE e (.Slice none none (some es) p2) (.ref a) (.ref s3.heap.objs.size)) (EP X ZY σ Q) X.xe { s3 with heap:=s3.heap.push { cls:=.type "slice",data:=.fields #[.none,.none,vs] } }
 refine tail_any (ops:=[.ref a,.ref s3.heap.objs.size]) ht.isList.typeIs slot_list_getitem.lookup ?_ (by with_unfolding_all rfl)
 refine wpAny_getItem_list_slice ht.isList (Heap.IsSliceOf.new ..) .none .none ps (by rcases hst with rfl | rfl <;> simp) ?_ (by rw[V1];lia)
 rw[KC hst]
 refine⟨.ref _,_,I4.laid (t':=s3.toks) (o:=.lst (Ec st xs)) (fun b ob q=>Vu _ q) (Vw _) ?_,U,q _ (I4.hok.fresh (Vw _))⟩
 exact⟨by rw[qN];exact hz,_,0,Kd r,VN _ U⟩
end
section
variable {X:Cx}{ZY:DI}{σ:St}{H H':Hp}{s s':Vt}{x C G dx:Addr}{B:WD}{c f:Wb}{p p1 p4 pos:ZD}{k:Nat}{D:Ends}{b:Bool}
def KD (I:Inv X ZY σ H s)(Li:Lie X.prog X.w X.stack H s x C dx H' B s')(stk:X.stack=X.env::X.outer/\X.env.frame=some X.env.locals)(R:XRd X.K C G f)(hg:Gl X c)(hm:X.mg c=some (.ref G))
  (q:∀ (u:HO),D.rt (.bl b) (upd H' x u)) (hd:(c == ("__debug__" : Wb))=false:=by decide) :
  VG (VM X.prog X.w) X.A (Z8 (.ref x) X.env) (fun _ s2=>VG (VM X.prog X.w) X.A (setFlight (.ref x) none) (fun _ s3 =>
   VG (VM X.prog X.w) X.A (handleBy (.ref x) X.env [.ExceptHandler (some (.Name c p)) none [.Return (some (.Constant (.bool b) k p1)) p4] pos]) (SP X ZY D) X.xe s3) X.xe s2) X.xe s':=by
 have fr:X.A.frames=some (X.env::X.outer):=by rw[I.ok.frames,stk.1]
 have fl0:Fly B (X.env::X.outer) x C dx .none s'.heap:=stk.1▸Li.fly
 refine vD fr stk.2 fl0 fun h1 F1 u1=>?_
 refine jV (s:={ s' with heap:=h1 }) F1 fun h2 F2 u2=>?_
 have fl2:Fly B X.stack x C dx .none h2:=stk.1.symm▸F2
 have L2:=Li.on fl2 (u1.trans u2) I.stack
 have I2:=(L2.back I).marked x
 obtain⟨vs,T,oT,ts,sl,ex2,_⟩:=F2.tr
 refine wpAny_handleBy_cons (codeAny_handlers_test ?_) (by intro q;cases q)
 refine jt I2 hg hm ?_ hd
 refine yh I2.kIn R ex2 ?_
 rw[if_pos U]
 refine codeAny_handlers_suite ?_
 refine jV (s:={ s' with heap:=h2 }) F2 fun h3 F3 u3=>?_
 have fl3:Fly B X.stack x C dx .none h3:=stk.1.symm▸F3
 have L3:=Li.on fl3 ((u1.trans u2).trans u3) I.stack
 have I3:=(L3.back I).marked x
 have P:PSs (X.marked x) [.Return (some (.Constant (.bool b) k p1)) p4] (SN (tC (.bl b))):=az (aD fK)
 refine Ww (P ZY _ σ _ { nx:=fun _ _=>False,rt:=D.rt } I3 (q _)) (fun fl s5 h5=>?_) fun _ _ z=>z.elim
 cases fl with
 | next=>obtain⟨_,_,_,z⟩:=h5;exact Wu z
 | brk=>obtain⟨_,_,_,z⟩:=h5;exact Wu z
 | cont=>obtain⟨_,_,_,z⟩:=h5;exact Wu z
 | ret u =>
  obtain⟨v5,σ5,H5,I5,r5,q5⟩:=h5
  exact⟨v5,_,H5,I5.unmarked I.ok.hd,r5,q5⟩
end
def XB (K:V3)(G:Addr)(f:Wb)(b:Bool)(R:VK):XK:=fun Cv dx' H=>∃ C dx,Cv = .ref C/\dx'=some dx/\XRd K C G f/\∀ (x:Addr) (u:HO),H x=none->R (.bl b) (upd H x u)
def TX (K:V3)(G:Addr)(f:Wb)(b:Bool)(t:XK->TS):TS:=fun D σ H=>t (XB K G f b D.rt) D σ H
section
variable {X:Cx}{G:Addr}{c f:Wb}{p p1 p4 pos pos':ZD}{k:Nat}{body:D3}{t:XK->TS}{b:Bool}
def Oe (stk:X.stack=X.env::X.outer/\X.env.frame=some X.env.locals)(hg:Gl X c)(hm:X.mg c=some (.ref G))
  (hb:∀ (pn:DI) (E:DM) (W:XK),Passes (XL X.prog X.w) (X.held pn E) W->PSs (X.held pn E) body (t W))
  (hd:(c == ("__debug__" : Wb))=false:=by decide) :
  PS X (.Try body [.ExceptHandler (some (.Name c p)) none [.Return (some (.Constant (.bool b) k p1)) p4] pos] [] [] pos') (TX X.K G f b t):=by
 intro ZY s σ H D I h
 refine wpAny_Try_except ?_
 let E:DM:=fun e s'=>∃ (ZY':DI) (σ':St) (H1:Hp) (s1:Vt),Inv X ZY σ' H1 s1/\XL X.prog X.w X.stack H1 s1 (XB X.K G f b D.rt) e s'
 have P:Passes (XL X.prog X.w) (X.held (X.pn++ZY) E) (XB X.K G f b D.rt):=fun ZY' σ' H1 s1 e s' J q=>⟨ZY',σ',H1,s1,J.mR,q⟩
 refine Ww (hb _ E _ P [] s σ H D I.hold h) (fun fl s1 q=>?_) fun e s1 q=>?_
 ·have q':=q.mR
  cases fl with
  | next=>exact aam q'
  | brk=>exact q'
  | cont=>exact q'
  | ret u=>exact q'
 ·obtain⟨_,σ',H1,s0,J,x,C,dx,H',B,rfl,Li,C',dx',e1,e2,R,w⟩:=q
  cases e1
  cases e2
  exact KD J Li stk R hg hm (fun u=>w x u Li.xn) hd
end
theorem rR:∀ {as:D0} {its:DV},Vals (as.map V.ref) its->its=as.map VV
 | [],_,.nil=>rfl
 | _::_,_,.cons r t=>by rw[show _=VV _ from r,rR t];rfl
section
variable {X:Cx}
inductive Mz (x:V)(y:V)(H:Hp)(Q:VK):Prop where
 | mk (a b:Addr) (as:D0) (z0:x = .ref a) (z1:y = .ref b) (z2:H a=some (.lst (as.map V.ref))) (z3:H b=some (.lst (as.map V.ref))) (z4:Q (.bl false) H):Mz  x y H Q
def Qk:R2:=fun x y H Q=>Mz  x y H Q
def NK (hu:X.A.units < cLine):OpR X (XR .NotEq) Qk:=by
 intro ZY s σ H x y v u Q I rx ry h
 obtain⟨a,b,as,rfl,rfl,ha,hb,q⟩:=h
 cases rx
 cases ry
 obtain⟨its,vl,p,_⟩:=I.list (SqL.of ha)
 obtain⟨its',vl',p',_⟩:=I.list (SqL.of hb)
 obtain rfl:=rR vl
 obtain rfl:=rR vl'
 have r:=SeqAt.RcNeAt.lists (e:=fun _=>true) p.isList p'.isList U hu fun j h1 h2=>SeqAt.EqAt.same _
 rw[show (Xb (as.map VV).toArray.size).all (fun _=>true)=true by simp] at r
 exact r X.prog X.w X.xe _ ⟨.bl _,H,I,U,q⟩
end
end L2
namespace My
open PySem L2
abbrev Fu := List (Key × V)
abbrev FA := List (Wb × V)
abbrev FC := Option V
abbrev FH := List V
abbrev VX : D8 := ["_law_cell","_law_n","_law_one","_law_deep","_law_most"]
abbrev VY : D8 := ["_law_cell","_law_n","_law_deep","_law_most"]
abbrev VZ : D8 := ["_law_state","_law_one","_law_pledge_here"]
abbrev Wp : D8 := ["self","green","gone","standing","coming"]
abbrev WA : D8 := ["_law_boon_here","_law_cells","_law_most"]
abbrev WB : D8 := ["_law_book","_law_floor","_law_giving"]
abbrev WC : D8 := ["_law_state","_law_one","_law_table"]
abbrev WE : D8 := ["_law_cell","_law_state","_law_most"]
abbrev WF : D8 := ["many","one","thing","lowest_step"]
abbrev WG : D8 := ["_law_boon_here","_law_deed_here"]
abbrev WH : D8 := ["_law_pledge_here","_law_giving"]
abbrev WI : D8 := ["_law_term_here","_law_giving"]
abbrev WJ : D8 := ["_law_state","_law_rises_here"]
abbrev WO : D8 := ["_law_state","_law_deed_here"]
abbrev WP : D8 := ["_law_boon_here","_law_state"]
abbrev WS : D8 := ["_law_term_here","_law_row"]
abbrev WU : D8 := ["_law_some","_law_giving"]
abbrev WV : D8 := ["standing","one","giving"]
abbrev WZ : D8 := ["_law_cell","_law_parts"]
abbrev Xs : D8 := ["stand","one","standing"]
abbrev Xt : D8 := ["self","number","pledge"]
abbrev XE : D8 := ["_law_book","_law_floor"]
abbrev XG : D8 := ["_law_cell","_law_state"]
abbrev XI : D8 := ["_law_found","_law_due"]
abbrev XO : D8 := ["many","thing","fewest"]
abbrev XT : D8 := ["_law_state","_law_one"]
abbrev XU : D8 := ["_law_table","_law_one"]
abbrev XV : D8 := ["_law_number","_law_n"]
abbrev XY : D8 := ["stand","one","pledge"]
abbrev XZ : D8 := ["many","thing","deep"]
abbrev X0 : D8 := ["self","one","pledge"]
abbrev X1 : D8 := ["_law_cell","_law_k"]
abbrev X2 : D8 := ["thing","low","high"]
abbrev X9 : D8 := ["many","one","thing"]
abbrev Ya : D8 := ["_law_pick","_law_n"]
abbrev Yf : D8 := ["pledge","giving"]
abbrev YA : D8 := ["parts","giving"]
abbrev YE : D8 := ["_law_asked","e"]
abbrev YI : D8 := ["_law_term_here"]
abbrev YN : D8 := ["stand","number"]
abbrev YO : D8 := ["term","giving"]
abbrev YR : D8 := ["stand","rises"]
abbrev YU : D8 := ["self","number"]
abbrev YV : D8 := ["self","stand"]
abbrev YY : D8 := ["self","rises"]
abbrev Zl : D8 := ["boon","rises"]
abbrev Zp : D8 := ["self","word"]
abbrev Zs : D8 := ["many","term"]
abbrev ZA : D8 := ["_law_giving"]
abbrev ZB : D8 := ["stand","one"]
abbrev ZE : D8 := ["_law_script"]
abbrev ZH : D8 := ["self","one"]
abbrev ZI : D8 := ["_law_state"]
abbrev ZN : D8 := ["_law_one"]
abbrev ZO : D8 := ["self"]
abbrev ZT : D8 := ["term"]
abbrev ZU : D8 := ["boon"]
variable {P:V4}{w:Wn}{K:V3}{mg:Wb->Option Value}{base:WD}{f:Addr}{fd:WR}
def top (i:Nat):Stmt:=PySem.Challenge.pw_loveboon_k35_gifts_handed_in.main.body.getD i (.Pass ⟨0,0,0,0⟩)
def aA {H:Hp}{p:Addr}(h:H p=none)(o:HO):aN H (upd H p o):=fun b u q=>by rw[aM (cZ q h)];exact q
def aV {H H':Hp}{p:Addr}(s:aN H H')(h:H p=none)(o:HO):aN H (upd H' p o):=fun b u q=>by rw[aM (cZ q h)];exact s b u q
def ik {K:V3}{H H':Hp}{a:Addr}{xs:FH}(e:aN H H')(h:SqT K H a xs):SqT K H' a xs:=by
 rcases h with (h | ⟨o,h⟩) | h
 ·exact .inl (.inl (e _ _ h))
 ·exact .inl (.inr ⟨o,e _ _ h⟩)
 ·exact .inr h
def G3 {H:Hp}{p:Addr}{o o':HO}:upd (upd H p o) p o'=upd H p o':=by
 funext b
 unfold upd
 by_cases e:b=p
 ·rw[if_pos e,if_pos e]
 ·rw[if_neg e,if_neg e,if_neg e]
def small {n:Nat}(h:n<=1000):n<=sizeLine:=Xz (aQ h)
def int_at {ns:D6}{i:Nat}{x:V}(h:(ns.map V.int)[i]? = some x):∃ n,ns[i]? = some n/\x = .int n:=by
 rw[V7] at h
 cases e:ns[i]? with
 | none=>rw[e] at h;cases h
 | some n=>rw[e] at h;exact⟨n,U,(Wo h).symm⟩
def vH {α β:Type}(f:α->β){xs:List α}{i:Nat}{x:α}(h:xs[i]? = some x):(xs.take i).map f++[f x]=(xs.take (i+1)).map f:=by
 rw[V8,h,VD]
 rfl
def kI {ns:D6}{i:Nat}(h:i < ns.length):atI (ns.map V.int) (i:Int)=some (.int ns[i]):=dh (by rw[V7,Vz h];rfl)
def gT {i:Nat}{x:V}{σ:St}{H:Hp}{A B:St->Hp->Prop}(h:A (σ.set i (some x)) H):zg i x σ H (fun σ3 H3=>Oh σ3 H3 (fun b H4=>if b=true then A σ3 H4 else B σ3 H4)):=by
 show if true=true then A (σ.set i (some x)) H else B (σ.set i (some x)) H
 rw[if_pos U]
 exact h
def aK {H H1:Hp}{p:Addr}{o:HO}(e:upd H p o=H1)(h:H p=none):aN H H1/\H1 p=some o:=by
 subst e
 exact⟨aA h _,aj⟩
def dD {xs:FH}{k:Nat}{v:V}(h:xs[k]? = some v):atI xs (k:Int)=some v:=dh h
def jq {ns:D6}{k:Nat}{n:Int}(h:ns[k]? = some n):(ns.map V.int)[k]? = some (.int n):=by rw[V7,h];rfl
theorem wD:∀ ns:D6,iJ (ns.map Dm.int)=0
 | []=>by simp [iJ]
 | n::r=>by simp [iJ,Dm.dep,wD r]
def u9 {H:Hp}{a:Addr}{ns:D6}(h:H a=some (.tup (ns.map V.int)))(l:ns.length<=1000):Rep H (.ref a) (.tup (ns.map Dm.int)):=.tup h (by rw[Vs];lia) (wg ns)
def Jj (ns:D6):(Dm.tup (ns.map Dm.int)).dep=1:=by rw[Dm.dep,wD]
def vN (i:Nat):V:=.int (i:Int)
def gY (c:D7):c.map vN=(c.map fun i:Nat=>(i:Int)).map V.int:=by rw[aa5];rfl
def uG {c:D7}{j:Nat}{x:V}(h:(c.map vN)[j]? = some x):∃ i,c[j]? = some i/\x=vN i:=by
 rw[V7] at h
 cases e:c[j]? with
 | none=>rw[e] at h;cases h
 | some i=>rw[e] at h;exact⟨i,U,(Wo h).symm⟩
def cR {H:Hp}{D:Addr}{zs zs':FH}(h:H D=some (.lst zs)):∀ a xs,H a=some (HO.tup xs)->upd H D (.lst zs') a=some (HO.tup xs):=fun a xs q=>by
 rw[aM (fun z=>by rw[z,h] at q;cases q)]
 exact q
def Fb {α:Type}{xs:List α}{v:α}(h:xs[xs.length - 1]? = some v):atI xs (-1)=some v:=by
 have hl:xs.length - 1 < xs.length:=(List.getElem?_eq_some_iff.mp h).1
 have hne:xs≠[]:=fun z=>by rw[z] at hl;exact absurd hl (WK _)
 have e:xs=xs.dropLast++[v]:=by
  rw[← List.getLast?_eq_getElem?,acq hne] at h
  rw[← Wo h]
  exact (acy hne).symm
 rw[e]
 exact JC _ _
def c7 {N P:D9}{sc:Yg}(h1:sc.kind = .function:=by rfl)(h2:sc.isCoroutine=false:=by rfl)(h3:sc.isGenerator=false:=by rfl)(h4:N.Nodup:=by decide+kernel)(h5:N.take P.length=P:=by rfl)(h6:∀ x∈P,sc.names.lookup x=some .local∨sc.names.lookup x=some .cell:=by decide+kernel)(h7:∀ y∈sc.names,y.2≠.free:=by decide+kernel):aG N P sc:=⟨h1,h2,h3,h4,h5,h6,h7⟩
def smN (n:Nat)(h:n<=1000:=by decide):n<=sizeLine:=small h
def gt0 {x:V}{r:FH}:atI (x::r) 0=some x:=dD (k:=0) U
def gt1 {x y:V}{r:FH}:atI (y::x::r) 1=some x:=dD (k:=1) U
def gt2 {x y z:V}{r:FH}:atI (z::y::x::r) 2=some x:=dD (k:=2) U
def dcT {p:Prop}[Decidable p](h:p):decide p=true:=decide_eq_true h
def dcF {p:Prop}[Decidable p](h:¬ p):decide p=false:=decide_eq_false h
def sqT {K:V3}{H:Hp}{a:Addr}{xs:FH}(h:H a=some (.tup xs)):SqT K H a xs:=SqT.of h
def sqL {K:V3}{H:Hp}{a:Addr}{xs:FH}(h:H a=some (.lst xs)):SqL K H a xs:=SqL.of h
def geS {α:Type}{l:List α}{i:Nat}{a:α}(h:l[i]? = some a):∃ h:i < l.length,l[i]=a:=List.getElem?_eq_some_iff.mp h
def iPo {c:Prop}{h:Decidable c}(hc:c){α:Sort u}{t e:α}:@ite α c h t e=t:=if_pos hc
def iNe {c:Prop}{h:Decidable c}(hc:¬ c){α:Sort u}{t e:α}:@ite α c h t e=e:=if_neg hc
abbrev oR (a:Addr):FC:=some (.ref a)
abbrev oI (i:Int):FC:=some (.int i)
section
variable {X:Cx}{a b:Expr}{ta tb:TE}{pos:ZD}{op:CmpOp}{r:R2}
def pix (hr:IxR X r)(ha:PE X a ta)(hb:PE X b tb)(hs:vp b:=by exact fun _ _=>U):PE X (.Subscript a b pos) (tOp r ta tb):=Ph hr ha hb hs
def cY (ho:OpR X (XR op) r)(ha:PE X a ta)(hb:PE X b tb)(hm:Yr op b=false:=by exact MN _):PE X (.Compare a [op] [b] pos) (tOp r ta tb):=Fg ho ha hb hm
def aH (ho:OpR X (XR op) r)(ha:PE X a ta)(hb:PE X b tb)(hm:Yr op b=false:=by exact MN _):PT X (.Compare a [op] [b] pos) (QJ (tOp r ta tb)):=fU ho ha hb hm
end
section
variable {x qual:Wb}{st:Stmt}{N ps:D9}{k:Nat}{sp:Sp}
def okA (F:Fun K x qual st f fd)(S:aG N ps (aB st))
  (hb:∀ (cdv:Value) (A:Wm) (outer:D4) (s:Vt) (H:Hp) (vs:FH) (Q:VK) (E:XK),fj k (A.deeper (abA qual (aB st) s.heap.objs.size f cdv))->sp vs H Q E →
   ∃ t,PSs (wW CX0 P w K mg base N qual (aB st) f cdv A outer s H E).nox (bO st) t/\t { nx:=fun _ H2=>Q .non H2,rt:=Q } (start N vs) H)
  (len:∀ vs H Q E,sp vs H Q E->vs.length=ps.length:=by intro _ _ _ _ h;first | (cases h;subst_vars;rfl) | ((repeat obtain⟨_,h⟩:=h) <;> subst_vars <;> rfl)):bH P w K mg base CX0 (k+1) f fd ps sp:=F.ok S len hb
def EY (F:Fun K x qual st f fd)(S:aG N ps (aB st))
  (hb:∀ (cdv:Value) (A:Wm) (outer:D4) (s:Vt) (H:Hp) (vs:FH) (Q:VK) (E:XK),fj k (A.deeper (abA qual (aB st) s.heap.objs.size f cdv))->sp vs H Q E →
   ∃ t,PSs (wW (XL P w) P w K mg base N qual (aB st) f cdv A outer s H E) (bO st) t/\t { nx:=fun _ H2=>Q .non H2,rt:=Q } (start N vs) H)
  (len:∀ vs H Q E,sp vs H Q E->vs.length=ps.length:=by intro _ _ _ _ h;first | (cases h;subst_vars;rfl) | ((repeat obtain⟨_,h⟩:=h) <;> subst_vars <;> rfl)):bH P w K mg base (XL P w) (k+1) f fd ps sp:=F.okX S len hb
end
section
variable {X:Cx}{a b:Expr}{ta tb:TE}{pos:ZD}
def pxL (K:V3)(ha:PE X a ta)(hb:PE X b tb)(hs:vp b:=by exact fun _ _=>U)(hK:X.K=K:=by rfl):PE X (.Subscript a b pos) (tOp (Tr K) ta tb):=Ph (hK▸Jf) ha hb hs
def pxT (K:V3)(ha:PE X a ta)(hb:PE X b tb)(hs:vp b:=by exact fun _ _=>U)(hK:X.K=K:=by rfl):PE X (.Subscript a b pos) (tOp (Uk K) ta tb):=Ph (hK▸M5) ha hb hs
end
abbrev mH:Stmt:=top 53
def cJ:aG ["_law_cell","_law_parts","_law_one","_law_two","_law_six","_law_found","_law_part"] WZ (aB mH):=c7
def uP (c:Int):Int:=(c * 48271+11) % 2147483647
def JV (c:Int):Int:=(uP c * uP c+40692 * uP c+c) % 2147483399
def Tj (c:Int):Int:=(JV c * 16807+uP c) % 1000000007
def qY (c:Int):Int:=if decide ((if c < 0 then -c else c) < 10 ^ (18:Int).toNat)=true then JV c+2147483399 * (Tj c+1000000007 * uP c) else (if c < 0 then -c else c) - 10 ^ (18:Int).toNat
def yL:Int->D6->D6
 | _,[]=>[]
 | c,p::ps=>c % p::yL (c / p) ps
def divC:Int->D6->Int
 | c,[]=>c
 | c,p::ps=>divC (c / p) ps
theorem rP (p:Int):∀ (ps:D6) (c:Int),yL c (ps++[p])=yL c ps++[divC c ps % p]
 | [],_=>rfl
 | q::ps,c=>by
  show c % q::yL (c / q) (ps++[p])=c % q::(yL (c / q) ps++[divC (c / q) ps % p])
  rw[rP p ps]
theorem m5 (p:Int):∀ (ps:D6) (c:Int),divC c (ps++[p])=divC c ps / p
 | [],_=>rfl
 | q::ps,c=>m5 p ps (c / q)
theorem lZ:∀ (ps:D6) (c:Int),(yL c ps).length=ps.length
 | [],_=>rfl
 | _::ps,_=>congrArg Nat.succ (lZ ps _)
theorem dj:∀ {ps:D6} {c:Int} {i:Nat} {p:Int},(∀ q∈ps,0 < q)->ps[i]? = some p->∃ v,(yL c ps)[i]? = some v/\0<=v/\v < p
 | [],_,_,_,_,h=>by simp at h
 | q::ps,c,0,p,hp,h=>by
  cases (show some q=some p from h)
  exact⟨c % q,U,Wt _ (by have:=hp q VP;lia),Wl _ (hp q VP)⟩
 | q::ps,c,i+1,p,hp,h=>by
  obtain⟨v,e,r⟩:=dj (ps:=ps) (c:=c / q) (i:=i) (fun z hz=>hp z (VR _ hz)) (by simpa using h)
  exact⟨v,by simpa [yL] using e,r⟩
def QZ (c:Int)(ps:D6):D6:=yL (qY c) ps
def Pa (c:Int):0<=uP c/\uP c < 2147483647:=⟨Wt _ (by decide),Wl _ (by decide)⟩
def Nj (c:Int):0<=JV c/\JV c < 2147483399:=⟨Wt _ (by decide),Wl _ (by decide)⟩
inductive BR (K:V3)(vs:FH)(H:Hp)(Q:VK):Prop where
 | mk (c:Int) (p:Addr) (ps:D6) (z0:vs=[.int c,.ref p]) (z1:SqL K H p (ps.map V.int)) (z2:(∀ q∈ps,0 < q/\q < 1073741824)) (z3:ps.length<=1000) (z4:∀ r,H r=none->Q (.ref r) (upd H r (.lst ((QZ c ps).map V.int)))):BR K vs H Q
def oH (K:V3):Sp:=fun vs H Q _=>BR K vs H Q
def wR (F:Fun K "_law_draws" "_law_draws" mH f fd) (B:Bt mg) :
  bH P w K mg base CX0 1 f fd WZ (oH K):=by
 refine okA F cJ fun _ _ _ _ H _ Q E hr h=>?_
 obtain⟨c,p,ps,rfl,hS,hp,hl,q⟩:=h
 refine⟨_,(au (aW (aH uW (aF pW U B.abs_ Dg (aa (pv 0) ao)) (aR qi aq aq)) (au (aP (i:=2) cJ.nd U (VF U) (aR cA (aR bR (aR iQ (pv 0) aq) aq) aq))
 (au (aP (i:=3) cJ.nd U (VF U) (aR cA (aR bR (aR bR (aR iQ (pv 2) (pv 2)) (aR iQ aq (pv 2))) (pv 0)) aq))
 (au (aP (i:=4) cJ.nd U (VF U) (aR cA (aR bR (aR iQ (pv 3) aq) (pv 2)) aq))
 (az (aP (i:=0) cJ.nd U (VF U) (aR bR (pv 3) (aR iQ aq (aR bR (pv 4) (aR iQ aq (pv 2)))))))))) (az (aP (i:=0) cJ.nd U (VF U) (aR fc (aF pW U B.abs_ Dg (aa (pv 0) ao)) (aR qi aq aq)))))
 (au (aP (i:=5) cJ.nd U (VF U) (bA ao))
 (au (cV Wq U (dC (pv 1)) (aJ (i:=6) cJ.nd U (VF U)) (au (bD (tu W7 Xg Xf du (pv 5) (aa (aR cA (pv 0) (pv 6)) ao)))
 (az (aP (i:=0) cJ.nd U (VF U) (aR uY (pv 0) (pv 6))))))
 (az (aD (pv 5)))))),?_⟩
 have b1:=Pa c
 have b2:=Nj c
 refine⟨_,U,_,U,_,_,U,U,⟨by decide,by decide,by decide⟩,_,_,U,U,_,U,?_⟩
 refine jE (fun h=>?_) (fun h=>?_)
 ·refine⟨_,U,_,_,U,U,.inr ⟨by decide,by decide⟩,_,_,U,U,_,_,U,U,(by show (0:Int) < 2147483647;decide),?_⟩
  refine⟨_,U,_,U,_,_,U,U,.inl (show -(2 ^ 64) < uP c/\uP c < 2 ^ 64 from ⟨by lia,by lia⟩),_,U,_,_,U,U,.inl ⟨by decide,by decide⟩,_,_,U,U,_,U,_,_,U,U,_,_,U,U,(by show (0:Int) < 2147483399;decide),?_⟩
  refine⟨_,U,_,_,U,U,.inr ⟨by decide,by decide⟩,_,U,_,_,U,U,_,_,U,U,(by show (0:Int) < 1000000007;decide),?_⟩
  refine⟨_,U,_,U,_,U,_,_,U,U,.inl ⟨by decide,by decide⟩,_,_,U,U,_,_,U,U,.inl ⟨by decide,by decide⟩,_,_,U,U,?_⟩
  refine⟨small (Wr _),fun r hr0=>?_⟩
  refine⟨_,U,p,U,⟨_,(aA hr0 _).seq hS⟩,eV (K:=K) (a:=p) (xs:=ps.map V.int) (fun i σ H2=>∃ (z:Int) (o t u v:FC),z=divC (qY c) (ps.take i)/\σ=[oI z,oR p,o,t,u,oR r,v] ∧
   H2=upd H r (.lst ((yL (qY c) (ps.take i)).map V.int))) ⟨_,_,_,_,_,(iPo h).symm,U,U⟩ ?_ ?_ ?_⟩
  ·rintro i σ H2 hi ⟨z,o,t,u,v,_,_,e⟩
   subst e
   exact (aA hr0 _).seq hS
  ·rintro i x σ H2 hx ⟨z,o,t,u,v,ez,rfl,rfl⟩
   obtain⟨d,hd,rfl⟩:=int_at hx
   obtain⟨h1,h2⟩:=hp d (Wd hd)
   have et:ps.take (i+1)=ps.take i++[d]:=by rw[V8,hd];rfl
   refine⟨_,U,.inl ⟨U,_,sqL aj⟩,_,U,_,U,_,_,U,U,h1,r,_,_,U,U,aj,?_,_,U,_,U,_,_,U,U,⟨h1,h2⟩,_,_,_,_,_,?_,U,?_⟩
   ·rw[Vs,lZ,V0]
    exact aQ (by lia)
   ·rw[et,m5,ez]
   ·rw[G3,et,rP,VD,ez]
    rfl
  ·rintro σ H2 ⟨z,o,t,u,v,_,rfl,rfl⟩
   refine⟨_,U,?_⟩
   have q':=q r hr0
   rw[Vs,VJ]
   exact q'
 ·refine⟨_,U,_,U,_,_,U,U,⟨by decide,by decide,by decide⟩,_,_,U,U,?_⟩
  refine⟨small (Wr _),fun r hr0=>?_⟩
  refine⟨_,U,p,U,⟨_,(aA hr0 _).seq hS⟩,eV (K:=K) (a:=p) (xs:=ps.map V.int) (fun i σ H2=>∃ (z:Int) (o t u v:FC),z=divC (qY c) (ps.take i)/\σ=[oI z,oR p,o,t,u,oR r,v] ∧
   H2=upd H r (.lst ((yL (qY c) (ps.take i)).map V.int))) ⟨_,_,_,_,_,(iNe h).symm,U,U⟩ ?_ ?_ ?_⟩
  ·rintro i σ H2 hi ⟨z,o,t,u,v,_,_,e⟩
   subst e
   exact (aA hr0 _).seq hS
  ·rintro i x σ H2 hx ⟨z,o,t,u,v,ez,rfl,rfl⟩
   obtain⟨d,hd,rfl⟩:=int_at hx
   obtain⟨h1,h2⟩:=hp d (Wd hd)
   have et:ps.take (i+1)=ps.take i++[d]:=by rw[V8,hd];rfl
   refine⟨_,U,.inl ⟨U,_,sqL aj⟩,_,U,_,U,_,_,U,U,h1,r,_,_,U,U,aj,?_,_,U,_,U,_,_,U,U,⟨h1,h2⟩,_,_,_,_,_,?_,U,?_⟩
   ·rw[Vs,lZ,V0]
    exact aQ (by lia)
   ·rw[et,m5,ez]
   ·rw[G3,et,rP,VD,ez]
    rfl
  ·rintro σ H2 ⟨z,o,t,u,v,_,rfl,rfl⟩
   refine⟨_,U,?_⟩
   have q':=q r hr0
   rw[Vs,VJ]
   exact q'
abbrev oK:Stmt:=top 54
def Al:aG XI XI (aB oK):=c7
inductive Gp (n:Nat)(vs:FH)(H:Hp)(Q:VK):Prop where
 | mk (x y:V) (d:Dm) (z0:vs=[x,y]) (z1:Rep H x d) (z2:Rep H y d) (z3:d.dep < n) (z4:∀ H',aN H H'->Q (.bl true) H'):Gp n vs H Q
def qM (n:Nat):Sp:=fun vs H Q _=>Gp n vs H Q
def Tc {x:V}:decide (x=x)=true:=dcT U
def Am (n:Nat):(Xd n true).all (fun b=>b)=true:=by
 induction n with
 | zero=>rfl
 | succ n ih=>rw[List.replicate_succ,aag,ih];rfl
def BL (n:Nat):(Xd n true).map V.bl=Xd n (V.bl true):=List.map_replicate
def bM {n:Nat} (F:Fun K "_law_same" "_law_same" oK f fd) (B:Bt mg)
  (Sk:Df P w K mg base "_law_same" n XI (qM n)):bH P w K mg base CX0 (n+1) f fd XI (qM (n+1)):=by
 refine okA F Al fun _ _ _ _ H _ Q E hr h=>?_
 obtain⟨x,y,d,rfl,rx,ry,hd,q⟩:=h
 refine⟨_,(au (aW (Ji (Ng (pv 1))) (az (aD (Qj (Ng (pv 0))))) aC)
 (au (aW (cI (aF (r:=vK K) cL U B.isinstance_ bc (aa (pv 1) (aa (jN B.str_ Mh) ao)))) (az (aD (eX (aF (r:=vK K) cL U B.isinstance_ bc (aa (pv 0) (aa (jN B.str_ Mh) ao))) (jz (cY bj (pv 0) (pv 1)))))) aC)
 (au (aW (cI (aF (r:=vK K) cL U B.isinstance_ bc (aa (pv 1) (aa (jN B.int_ t8) ao)))) (az (aD (eX (aF (r:=vK K) cL U B.isinstance_ bc (aa (pv 0) (aa (jN B.int_ t8) ao))) (eX (cY bj (aF (r:=vK K) cL U B.isinstance_ bc (aa (pv 0) (aa (jN B.bool_ zE) ao))) (aF (r:=vK K) cL U B.isinstance_ bc (aa (pv 1) (aa (jN B.bool_ zE) ao)))) (jz (cY bj (pv 0) (pv 1))))))) aC)
 (au (aW (PW.pt (iI (aH sI (aF (r:=vK K) cL U B.isinstance_ bc (aa (pv 1) (aa (jN B.list_ jg) ao))) (aF (r:=vK K) cL U B.isinstance_ bc (aa (pv 0) (aa (jN B.list_ jg) ao)))) (d7 (aH sI (aF (r:=vK K) cL U B.isinstance_ bc (aa (pv 1) (aa (jN B.tuple_ bQ) ao))) (aF (r:=vK K) cL U B.isinstance_ bc (aa (pv 0) (aa (jN B.tuple_ bQ) ao))))))) (az (aD fK)) aC)
 (az (aD (eX (cY bj (aF (r:=iR K) aU U B.len_ bJ (aa (pv 0) ao)) (aF (r:=iR K) aU U B.len_ bJ (aa (pv 1) ao))) (jz (aF (r:=K7 K) (qx U) U B.all_ Fd (aa (cz (L:=["_law_k"]) (F:=XI) (cap:=[0,1]) U (bF U U (by kernel_rfl)) (bW U B.range_ (aa (aF (r:=iR K) aU U B.len_ bJ (aa (pv 1) ao)) ao)) (fun _ _ _ _ _=>(aJ (i:=0) (bw (by decide+kernel)) U (VF U))) (fun _ _ _ _ _=>cQ) (fun _ _ _ _ _=>(aY Sk hr (aa (pix (r:=rIx K) Mg (pv 1) (pv 0)) (aa (pix (r:=rIx K) Mg (pv 2) (pv 0)) ao))))) ao)))))))))),?_⟩
 cases rx with
 | non =>
  cases ry
  refine⟨_,U,_,U,cW ?_⟩
  exact⟨_,U,q H (aN.refl H)⟩
 | bl b =>
  cases ry
  refine⟨_,U,_,U,bZ ?_⟩
  refine⟨_,U,_,_,_,_,U,.bl b,Aa _,_,U,bZ ?_⟩
  refine⟨_,U,_,_,_,_,U,.bl b,qZ _,_,U,cW ?_⟩
  refine⟨_,U,_,_,_,_,U,.bl b,qZ _,_,U,cW ?_⟩
  refine⟨_,U,_,_,_,_,U,.bl b,eY _ _,_,U,_,_,_,_,U,.bl b,eY _ _,U,_,U,cW ?_⟩
  refine⟨_,U,_,U,U,?_⟩
  have q':=q H (aN.refl H)
  rw[← Tc (x:=V.bl b)] at q'
  exact q'
 | int i =>
  cases ry
  refine⟨_,U,_,U,bZ ?_⟩
  refine⟨_,U,_,_,_,_,U,.int i,Ep _,_,U,bZ ?_⟩
  refine⟨_,U,_,_,_,_,U,.int i,eY _ _,_,U,cW ?_⟩
  refine⟨_,U,_,_,_,_,U,.int i,eY _ _,_,U,cW ?_⟩
  refine⟨_,U,_,_,_,_,U,.int i,lW _,_,U,_,_,_,_,U,.int i,lW _,U,_,U,cW ?_⟩
  refine⟨_,U,_,U,U,?_⟩
  have q':=q H (aN.refl H)
  rw[← Tc (x:=V.int i)] at q'
  exact q'
 | str z =>
  cases ry
  refine⟨_,U,_,U,bZ ?_⟩
  refine⟨_,U,_,_,_,_,U,.str z,eY _ _,_,U,cW ?_⟩
  refine⟨_,U,_,_,_,_,U,.str z,eY _ _,_,U,cW ?_⟩
  refine⟨_,U,_,U,U,?_⟩
  have q':=q H (aN.refl H)
  rw[← Tc (x:=V.str z)] at q'
  exact q'
 | @tup a xs ds ha la ra =>
  cases ry with
  | @tup b ys _ hb lb rb =>
   have ex:=ra.length
   have ey:=rb.length
   have hdl:iJ ds < n:=by
    have hd':iJ ds+1 < n+1:=by rw[Dm.dep] at hd;exact hd
    lia
   refine⟨_,U,_,U,bZ ?_⟩
   refine⟨_,U,_,_,_,_,U,.tup hb,wL _,_,U,bZ ?_⟩
   refine⟨_,U,_,_,_,_,U,.tup hb,vQ _,_,U,bZ ?_⟩
   refine⟨_,U,_,_,_,_,U,.tup hb,mU _,_,U,_,_,_,_,U,.tup ha,mU _,U,_,U,bZ ?_⟩
   refine⟨_,U,_,_,_,_,U,.tup hb,eY _ _,_,U,_,_,_,_,U,.tup ha,eY _ _,U,_,U,bZ ?_⟩
   refine⟨_,U,a,_,U,.inr (sqT ha),_,U,b,_,U,.inr (sqT hb),U,_,U,?_⟩
   have ec:decide (V.int (xs.length:Int)=V.int (ys.length:Int))=true:=dcT (by rw[ex,ey])
   rw[ec]
   refine cW ?_
   refine⟨_,U,b,_,U,.inr (sqT hb),_,U,by lia,by lia,fun D hD=>cT (lo:=0) (n:=ys.length) (fun i zs σ' H2=>(∃ v,σ'=[v,oR a,oR b])/\zs=Xd i (V.bl true)/\aN H H2/\H2 D=some (.lst zs))
    ⟨⟨_,U⟩,U,aA hD _,aj⟩ (fun i zs σ' H2 _ h=>h.2.2.2) ?_ ?_⟩
   ·rintro i zs σ' H2 hi ⟨⟨v,rfl⟩,rfl,sm,hDl⟩
    obtain⟨v1,d1,e1,e2,r1⟩:=ra.get (i:=i) (by lia)
    obtain⟨v2,d2,e3,e4,r2⟩:=rb.get (i:=i) hi
    rw[e2] at e4
    cases e4
    have at1:atI xs (0+(i:Int))=some v1:=by rw[Xw];exact dh e1
    have at2:atI ys (0+(i:Int))=some v2:=by rw[Xw];exact dh e3
    refine gT ?_
    refine⟨_,U,_,U,.inr (.inl ⟨a,xs,_,v1,U,U,sqT (sm _ _ ha),at1,_,U,_,U,.inr (.inl ⟨b,ys,_,v2,U,U,sqT (sm _ _ hb),at2,v1,v2,d1,U,r1.mono sm,r2.mono sm,?_,fun H3 s3=>⟨s3 _ _ hDl,?_,⟨_,U⟩,?_,aV (sm.trans s3) hD _,aj⟩⟩)⟩)⟩
    ·exact ZW (vJ e2) hdl
    ·rw[Y9]
     exact Vx (show i < 100000 by lia) (by decide)
    ·rw[abn]
   ·rintro zs σ' H2 ⟨_,rfl,sm,hDl⟩
    refine⟨D,Xd ys.length true,U,sqL (by rw[hDl,BL]),?_⟩
    rw[Am]
    exact q _ sm
 | @lst a xs ds ha la ra =>
  cases ry with
  | @lst b ys _ hb lb rb =>
   have ex:=ra.length
   have ey:=rb.length
   have hdl:iJ ds < n:=by
    have hd':iJ ds+1 < n+1:=by rw[Dm.dep] at hd;exact hd
    lia
   refine⟨_,U,_,U,bZ ?_⟩
   refine⟨_,U,_,_,_,_,U,.lst hb,zm _,_,U,bZ ?_⟩
   refine⟨_,U,_,_,_,_,U,.lst hb,zN _,_,U,bZ ?_⟩
   refine⟨_,U,_,_,_,_,U,.lst hb,eY _ _,_,U,_,_,_,_,U,.lst ha,eY _ _,U,_,U,bZ ?_⟩
   refine⟨_,U,_,_,_,_,U,.lst hb,nj _,_,U,_,_,_,_,U,.lst ha,nj _,U,_,U,bZ ?_⟩
   refine⟨_,U,a,_,U,.inl (sqL ha),_,U,b,_,U,.inl (sqL hb),U,_,U,?_⟩
   have ec:decide (V.int (xs.length:Int)=V.int (ys.length:Int))=true:=dcT (by rw[ex,ey])
   rw[ec]
   refine cW ?_
   refine⟨_,U,b,_,U,.inl (sqL hb),_,U,by lia,by lia,fun D hD=>cT (lo:=0) (n:=ys.length) (fun i zs σ' H2=>(∃ v,σ'=[v,oR a,oR b])/\zs=Xd i (V.bl true)/\aN H H2/\H2 D=some (.lst zs))
    ⟨⟨_,U⟩,U,aA hD _,aj⟩ (fun i zs σ' H2 _ h=>h.2.2.2) ?_ ?_⟩
   ·rintro i zs σ' H2 hi ⟨⟨v,rfl⟩,rfl,sm,hDl⟩
    obtain⟨v1,d1,e1,e2,r1⟩:=ra.get (i:=i) (by lia)
    obtain⟨v2,d2,e3,e4,r2⟩:=rb.get (i:=i) hi
    rw[e2] at e4
    cases e4
    have at1:atI xs (0+(i:Int))=some v1:=by rw[Xw];exact dh e1
    have at2:atI ys (0+(i:Int))=some v2:=by rw[Xw];exact dh e3
    refine gT ?_
    refine⟨_,U,_,U,.inl ( ⟨a,xs,_,v1,U,U,sqL (sm _ _ ha),at1,_,U,_,U,.inl ( ⟨b,ys,_,v2,U,U,sqL (sm _ _ hb),at2,v1,v2,d1,U,r1.mono sm,r2.mono sm,?_,fun H3 s3=>⟨s3 _ _ hDl,?_,⟨_,U⟩,?_,aV (sm.trans s3) hD _,aj⟩⟩)⟩)⟩
    ·exact ZW (vJ e2) hdl
    ·rw[Y9]
     exact Vx (show i < 100000 by lia) (by decide)
    ·rw[abn]
   ·rintro zs σ' H2 ⟨_,rfl,sm,hDl⟩
    refine⟨D,Xd ys.length true,U,sqL (by rw[hDl,BL]),?_⟩
    rw[Am]
    exact q _ sm
def same_none:bH P w K mg base CX0 0 f fd XI (qM 0):=by
 have no:∀ vs H Q E,¬ qM 0 vs H Q E:=fun vs H Q E h=>by
  obtain⟨x,y,d,_,_,_,h1,_⟩:=h
  lia
 exact⟨fun vs H Q E h=>absurd h (no vs H Q E),fun A outer s H args us vs Q E _ _ _ _ h=>absurd h (no vs H Q E)⟩
abbrev lH:Stmt:=top 57
def gC:aG ["_law_cell","_law_k","_law_rest","_law_turn"] X1 (aB lH):=c7
def PJ (c:Int)(k:Nat):Int:=if decide ((if c < 0 then -c else c) < 10 ^ (18:Int).toNat)=true then (c * 48271+7919 * (k:Int)+13) % 2147483647 else 10 ^ (18:Int).toNat+divC ((if c < 0 then -c else c) - 10 ^ (18:Int).toNat) (Xd (k+1) (10 ^ (9:Int).toNat))
inductive Cd (vs:FH)(H:Hp)(Q:VK):Prop where
 | mk (c:Int) (k:Nat) (z0:vs=[.int c,.int (k:Int)]) (z1:k<=1000) (z2:Q (.int (PJ c k)) H):Cd  vs H Q
def uL:Sp:=fun vs H Q _=>Cd  vs H Q
def wz (F:Fun K "_law_under" "_law_under" lH f fd) (B:Bt mg) :
  bH P w K mg base CX0 1 f fd X1 uL:=by
 refine okA F gC fun _ _ _ _ H _ Q E hr h=>?_
 obtain⟨c,k,rfl,hk,q⟩:=h
 refine⟨_,(au (aW (aH uW (aF pW U B.abs_ Dg (aa (pv 0) ao)) (aR qi aq aq)) (az (aD (aR cA (aR bR (aR bR (aR iQ (pv 0) aq) (aR iQ aq (pv 1))) aq) aq))) aC)
 (au (aP (i:=2) gC.nd U (VF U) (aR fc (aF pW U B.abs_ Dg (aa (pv 0) ao)) (aR qi aq aq)))
 (au (cV Wq U (bW U B.range_ (aa (aR bR (pv 1) aq) ao)) (aJ (i:=3) gC.nd U (VF U)) (az (aP (i:=2) gC.nd U (VF U) (aR uY (pv 2) (aR qi aq aq)))))
 (az (aD (aR bR (aR qi aq aq) (pv 2))))))),?_⟩
 refine⟨_,U,_,U,_,_,U,U,⟨by decide,by decide,by decide⟩,_,_,U,U,_,U,?_⟩
 refine jE (fun h=>?_) (fun h=>?_)
 ·refine⟨_,U,_,_,U,U,.inr ⟨by decide,by decide⟩,_,U,_,_,U,U,.inl ⟨by decide,by decide⟩,_,_,U,U,_,_,U,U,_,_,U,U,(by show (0:Int) < 2147483647;decide),?_⟩
  unfold PJ at q
  rw[iPo h] at q
  exact q
 ·unfold PJ at q
  rw[iNe h] at q
  refine⟨_,U,_,U,_,_,U,U,⟨by decide,by decide,by decide⟩,_,_,U,U,?_⟩
  have ek:((k:Int)+1).toNat=k+1:=by lia
  refine⟨_,U,_,_,U,U,_,U,by lia,by lia,iH (lo:=0) (n:=((k:Int)+1).toNat) (fun i σ H2=>(∃ t:FC,σ=[oI c,some (.int (k:Int)),some (.int (divC ((if c < 0 then -c else c) - 10 ^ (18:Int).toNat) (Xd i (10 ^ (9:Int).toNat)))),t])/\H2=H) ⟨⟨_,U⟩,U⟩ ?_ ?_⟩
  ·rintro i σ H2 hi ⟨⟨t,rfl⟩,rfl⟩
   refine⟨_,U,_,_,U,U,⟨by decide,by decide,by decide⟩,_,_,U,U,⟨by show (0:Int) < 10 ^ 9;decide,by show (10 ^ 9:Int) < 1073741824;decide⟩,⟨some (.int (0+(i:Int))),?_⟩,U⟩
   rw[abn,m5]
   rfl
  ·rintro σ H2 ⟨⟨t,rfl⟩,rfl⟩
   refine⟨_,_,U,U,⟨by decide,by decide,by decide⟩,_,U,_,_,U,U,?_⟩
   rw[ek]
   exact q
abbrev mq:Stmt:=top 58
def gk:aG ["_law_number","_law_n","_law_found","_law_one"] XV (aB mq):=c7
inductive Bv (vs:FH)(H:Hp)(Q:VK):Prop where
 | mk (m:Int) (n:Nat) (z0:vs=[.int m,.int (n:Int)]) (z1:n<=100) (z2:∀ (c:D7) (r:Addr) (H':Hp),(∀ i∈c,i < n)->c.Pairwise (· < ·)->c.length<=n->aN H H'->H r=none->H' r=some (.tup (c.map vN))->Q (.ref r) H'):Bv  vs H Q
def zf:Sp:=fun vs H Q _=>Bv  vs H Q
def xQ (F:Fun K "_law_crowd" "_law_crowd" mq f fd) (B:Bt mg) :
  bH P w K mg base CX0 1 f fd XV zf:=by
 refine okA F gk fun _ _ _ _ H _ Q E hr h=>?_
 obtain⟨m,n,rfl,hn,q⟩:=h
 refine⟨_,(au (aP (i:=2) gk.nd U (VF U) (bA ao))
 (au (cV Wq U (bW U B.range_ (aa (pv 1) ao)) (aJ (i:=3) gk.nd U (VF U)) (au (aW (aH bj (aR cA (pv 0) aq) aq) (az (bD (tu W7 Xg Xf du (pv 2) (aa (pv 3) ao)))) aC)
 (az (aP (i:=0) gk.nd U (VF U) (aR uY (pv 0) aq)))))
 (az (aD (bh (r:=fY K) bK U B.tuple_ bQ (aa (pv 2) ao)))))),?_⟩
 refine⟨smN 0,fun r hr0=>?_⟩
 have en:((n:Int)).toNat=n:=Wg n
 refine⟨_,U,_,U,by lia,by lia,iH (lo:=0) (n:=((n:Int)).toNat) (fun i σ H2=>∃ (z:Int) (t:FC) (c:D7),σ=[oI z,some (.int (n:Int)),oR r,t]/\H2=upd H r (.lst (c.map vN))/\(∀ j∈c,j < i)/\c.Pairwise (· < ·)/\c.length<=i)
  ⟨_,_,[],U,U,by simp,by simp,Vw _⟩ ?_ ?_⟩
 ·rintro i σ H2 hi ⟨z,t,c,rfl,rfl,hc,hp,hl⟩
  refine⟨_,U,_,_,U,U,(by show (0:Int) < 2;decide),U,_,U,?_⟩
  refine jE (fun _=>?_) (fun _=>?_)
  ·refine⟨_,U,.inl ⟨U,_,sqL aj⟩,_,U,r,_,_,U,U,aj,?_,_,U,_,_,U,U,⟨by decide,by decide⟩,_,_,c++[i],U,?_,?_,?_,?_⟩
   ·rw[Vs]
    exact aQ (by lia)
   ·rw[G3,VD,Xw]
    rfl
   ·intro j hj
    rcases List.mem_append.mp hj with h | h
    ·have:=hc j h
     lia
    ·have:=List.mem_singleton.mp h
     lia
   ·rw[aah]
    refine⟨hp,by simp,fun a ha b hb=>?_⟩
    rw[List.mem_singleton.mp hb]
    exact hc a ha
   ·rw[VH]
    show c.length+1<=i+1
    lia
  ·refine⟨_,U,_,_,U,U,⟨by decide,by decide⟩,_,_,c,U,U,fun j hj=>WY (hc j hj),hp,by lia⟩
 ·rintro σ H2 ⟨z,t,c,rfl,rfl,hc,hp,hl⟩
  refine⟨_,U,r,_,U,.inl ⟨sqL aj,fun l hl'=>?_⟩⟩
  rw[en] at hc hl
  exact q c l _ hc hp hl ((aA hr0 _).trans (aA hl' _)) ((aA hr0 _).free hl') aj
inductive Tm where
 | free | never | gives (i:Nat) (k:Int) | sum (c:D7) (k:Int) | crowd (c:D7) (k m:Int) | all (ts:List Tm) | any (ts:List Tm)
mutual
def Tm.dep:Tm->Nat
 | .all ts=>tdL ts+1
 | .any ts=>tdL ts+1
 | _=>1
def tdL:List Tm->Nat
 | []=>0
 | t::r=>max t.dep (tdL r)
end
mutual
def hF (g:D6):Tm->Bool
 | .free=>true
 | .never=>false
 | .gives i k=>decide (k<=g.getD i 0)
 | .sum c k=>decide (k<=(c.map fun i=>g.getD i 0).sum)
 | .crowd c k m=>decide (m<=((c.filter fun i=>decide (k<=g.getD i 0)).length:Int))
 | .all ts=>xW g ts
 | .any ts=>xZ g ts
def xW (g:D6):List Tm->Bool
 | []=>true
 | t::r=>hF g t && xW g r
def xZ (g:D6):List Tm->Bool
 | []=>false
 | t::r=>hF g t || xZ g r
end
mutual
inductive gZ (n:Nat)(H:Hp):V->Tm->Prop where
 | free {a:Addr}:H a=some (.tup [.str "free"])->gZ n H (.ref a) .free
 | never {a:Addr}:H a=some (.tup [.str "never"])->gZ n H (.ref a) .never
 | gives {a:Addr} {i:Nat} {k:Int}:H a=some (.tup [.str "gives",vN i,.int k])->i < n->1<=k->k<=9->gZ n H (.ref a) (.gives i k)
 | sum {a b:Addr} {c:D7} {k:Int}:H a=some (.tup [.str "sum",.ref b,.int k])->H b=some (.tup (c.map vN))->(∀ i∈c,i < n)->c.Pairwise (· < ·)->c.length<=20->2<=c.length->1<=k->k<=99->gZ n H (.ref a) (.sum c k)
 | crowd {a b:Addr} {c:D7} {k m:Int}:H a=some (.tup [.str "crowd",.ref b,.int k,.int m])->H b=some (.tup (c.map vN))->(∀ i∈c,i < n)->c.Pairwise (· < ·)->c.length<=20->1<=c.length->1<=k->k<=9->1<=m->m<=12->gZ n H (.ref a) (.crowd c k m)
 | all {a b:Addr} {vs:FH} {ts:List Tm}:H a=some (.tup [.str "all",.ref b])->H b=some (.tup vs)->2<=vs.length->vs.length<=6->cu n H vs ts->gZ n H (.ref a) (.all ts)
 | any {a b:Addr} {vs:FH} {ts:List Tm}:H a=some (.tup [.str "any",.ref b])->H b=some (.tup vs)->2<=vs.length->vs.length<=6->cu n H vs ts->gZ n H (.ref a) (.any ts)
inductive cu (n:Nat)(H:Hp):FH->List Tm->Prop where
 | nil:cu n H [] []
 | cons {v:V} {t:Tm} {vs:FH} {ts:List Tm}:gZ n H v t->cu n H vs ts->cu n H (v::vs) (t::ts)
end
mutual
theorem gZ.aO {n:Nat}{H H':Hp}(e:∀ a xs,H a=some (HO.tup xs)->H' a=some (HO.tup xs)):∀ {v:V} {t:Tm},gZ n H v t->gZ n H' v t
 | _,_,.free h=>.free (e _ _ h)
 | _,_,.never h=>.never (e _ _ h)
 | _,_,.gives h a b c=>.gives (e _ _ h) a b c
 | _,_,.sum h h2 a b c d f g=>.sum (e _ _ h) (e _ _ h2) a b c d f g
 | _,_,.crowd h h2 a b c d f g i j=>.crowd (e _ _ h) (e _ _ h2) a b c d f g i j
 | _,_,.all h h2 a b r=>.all (e _ _ h) (e _ _ h2) a b (cu.aO e r)
 | _,_,.any h h2 a b r=>.any (e _ _ h) (e _ _ h2) a b (cu.aO e r)
theorem cu.aO {n:Nat}{H H':Hp}(e:∀ a xs,H a=some (HO.tup xs)->H' a=some (HO.tup xs)):∀ {vs:FH} {ts:List Tm},cu n H vs ts->cu n H' vs ts
 | _,_,.nil=>.nil
 | _,_,.cons h r=>.cons (gZ.aO e h) (cu.aO e r)
end
def gZ.mono {n:Nat}{H H':Hp}(e:aN H H'){v:V}{t:Tm}(h:gZ n H v t):gZ n H' v t:=h.aO fun a xs q=>e a _ q
def cu.mono {n:Nat}{H H':Hp}(e:aN H H'){vs:FH}{ts:List Tm}(h:cu n H vs ts):cu n H' vs ts:=h.aO fun a xs q=>e a _ q
theorem cu.length {n:Nat}{H:Hp}:∀ {vs:FH} {ts:List Tm},cu n H vs ts->vs.length=ts.length
 | _,_,.nil=>rfl
 | _,_,.cons _ r=>by rw[V2,V2,cu.length r]
theorem cu.get {n:Nat}{H:Hp}:∀ {vs:FH} {ts:List Tm} {i:Nat} {v:V},cu n H vs ts->vs[i]? = some v->∃ t,ts[i]? = some t/\gZ n H v t
 | _,_,_,_,.nil,h=>by simp at h
 | _,_,0,_,.cons h _,e=>by
  cases (show some _=some _ from e)
  exact⟨_,U,h⟩
 | _,_,i+1,_,.cons _ r,e=>by
  obtain⟨t,e1,e2⟩:=cu.get (i:=i) r (by simpa using e)
  exact⟨t,by simpa using e1,e2⟩
theorem cu.snoc {n:Nat}{H:Hp}:∀ {vs:FH} {ts:List Tm} {v:V} {t:Tm},cu n H vs ts->gZ n H v t->cu n H (vs++[v]) (ts++[t])
 | _,_,_,_,.nil,h=>.cons h .nil
 | _,_,_,_,.cons a r,h=>.cons a (cu.snoc r h)
theorem gU:∀ {ts:List Tm} {i:Nat} {t:Tm},ts[i]? = some t->t.dep<=tdL ts
 | [],_,_,h=>by simp at h
 | d::r,0,_,h=>by
  cases (show some d=some _ from h)
  rw[tdL]
  exact Nat.le_max_left _ _
 | d::r,i+1,_,h=>by
  rw[tdL]
  exact Wf (gU (i:=i) (ts:=r) (by simpa using h)) (Nat.le_max_right _ _)
theorem Bx {m:Nat}{t:Tm}(h:t.dep<=m):∀ {ts:List Tm},tdL ts<=m->tdL (ts++[t])<=m
 | [],_=>by simp only[acx,tdL];lia
 | d::r,h2=>by
  rw[tdL] at h2
  rw[aaX,tdL]
  have:=Bx (m:=m) h (ts:=r) (by lia)
  lia
theorem Tm.nC:∀ t:Tm,1<=t.dep
 | .free | .never | .gives .. | .sum .. | .crowd ..=>Vw 1
 | .all ts=>by rw[Tm.dep];lia
 | .any ts=>by rw[Tm.dep];lia
theorem wK:∀ {g:D6} {ts:List Tm} {i:Nat} {t:Tm},ts[i]? = some t->xW g (ts.take (i+1))=(xW g (ts.take i) && hF g t)
 | _,[],_,_,h=>by simp at h
 | g,d::r,0,t,h=>by
  cases (show some d=some _ from h)
  rw[YG,xW,Ws,Ws,xW,Bool.and_true,Y7]
 | g,d::r,i+1,t,h=>by
  rw[YG,xW,wK (i:=i) (ts:=r) (by simpa using h),YG,xW,Bool.and_assoc]
theorem xJ:∀ {g:D6} {ts:List Tm} {i:Nat} {t:Tm},ts[i]? = some t->xZ g (ts.take (i+1))=(xZ g (ts.take i) || hF g t)
 | _,[],_,_,h=>by simp at h
 | g,d::r,0,t,h=>by
  cases (show some d=some _ from h)
  rw[YG,xZ,Ws,Ws,xZ,Bool.or_false,abJ]
 | g,d::r,i+1,t,h=>by
  rw[YG,xZ,xJ (i:=i) (ts:=r) (by simpa using h),YG,xZ,Bool.or_assoc]
theorem tG:∀ {g:D6} {ts:List Tm} {i:Nat} {t:Tm},ts[i]? = some t->hF g t=false->xW g ts=false
 | _,[],_,_,h,_=>by simp at h
 | g,d::r,0,t,h,e=>by
  cases (show some d=some _ from h)
  rw[xW,e,Zv]
 | g,d::r,i+1,t,h,e=>by rw[xW,tG (i:=i) (ts:=r) (by simpa using h) e,Zw]
theorem wF:∀ {g:D6} {ts:List Tm} {i:Nat} {t:Tm},ts[i]? = some t->hF g t=true->xZ g ts=true
 | _,[],_,_,h,_=>by simp at h
 | g,d::r,0,t,h,e=>by
  cases (show some d=some _ from h)
  rw[xZ,e,Bool.true_or]
 | g,d::r,i+1,t,h,e=>by rw[xZ,wF (i:=i) (ts:=r) (by simpa using h) e,ZC]
def bu {c A B:Prop}[Decidable c](hc:¬ c)(h:B):if decide c=true then A else B:=by
 rw[dcF hc]
 exact bZ h
def gR {c A B:Prop}[Decidable c](hc:c)(h:A):if decide c=true then A else B:=by
 rw[dcT hc]
 exact cW h
def tV {a b:Wb}(h:a≠b):¬ V.str a=V.str b:=fun z=>h (by cases z;rfl)
def bz {a b:Wb}(h:a≠b:=by decide):¬ V.str a=V.str b:=tV h
def atD {g:D6}{i:Nat}(h:i < g.length):atI (g.map V.int) (i:Int)=some (.int (g.getD i 0)):=by
 rw[kI h,Wi,Vz h]
 rfl
abbrev nQ:Stmt:=top 25
abbrev lF:Stmt:=top 26
abbrev yZ:Stmt:=top 27
def qG:aG ["parts","giving","part"] YA (aB nQ):=c7
def pD:aG ["parts","giving","part"] YA (aB lF):=c7
def CK:aG ["term","giving","kind"] YO (aB yZ):=c7
inductive Bl (K:V3)(d:Nat)(vs:FH)(H:Hp)(Q:VK):Prop where
 | mk (v:V) (g:Addr) (n:Nat) (t:Tm) (ns:D6) (z0:vs=[v,.ref g]) (z1:gZ n H v t) (z2:t.dep<=d) (z3:SqT K H g (ns.map V.int)) (z4:n<=ns.length) (z5:∀ H',aN H H'->Q (.bl (hF ns t)) H'):Bl K d vs H Q
def eE (K:V3)(d:Nat):Sp:=fun vs H Q _=>Bl K d vs H Q
inductive Ir (K:V3)(d:Nat)(vs:FH)(H:Hp)(Q:VK):Prop where
 | mk (b g:Addr) (n:Nat) (us:FH) (ts:List Tm) (ns:D6) (z0:vs=[.ref b,.ref g]) (z1:H b=some (.tup us)) (z2:cu n H us ts) (z3:tdL ts<=d) (z4:SqT K H g (ns.map V.int)) (z5:n<=ns.length) (z6:∀ H',aN H H'->Q (.bl (xW ns ts)) H'):Ir K d vs H Q
def Mt (K:V3)(d:Nat):Sp:=fun vs H Q _=>Ir K d vs H Q
inductive Ht (K:V3)(d:Nat)(vs:FH)(H:Hp)(Q:VK):Prop where
 | mk (b g:Addr) (n:Nat) (us:FH) (ts:List Tm) (ns:D6) (z0:vs=[.ref b,.ref g]) (z1:H b=some (.tup us)) (z2:cu n H us ts) (z3:tdL ts<=d) (z4:SqT K H g (ns.map V.int)) (z5:n<=ns.length) (z6:∀ H',aN H H'->Q (.bl (xZ ns ts)) H'):Ht K d vs H Q
def MT (K:V3)(d:Nat):Sp:=fun vs H Q _=>Ht K d vs H Q
def Dr:bH P w K mg base CX0 0 f fd YO (eE K 0):=by
 have no:∀ vs H Q E,¬ eE K 0 vs H Q E:=fun vs H Q E h=>by
  obtain⟨v,g,n,t,ns,_,_,h1,_⟩:=h
  have:=t.nC
  lia
 exact⟨fun vs H Q E h=>absurd h (no vs H Q E),fun A outer s H args us vs Q E _ _ _ _ h=>absurd h (no vs H Q E)⟩
def jm {d k:Nat} (F:Fun K "all_hold" "all_hold" nQ f fd) (B:Bt mg)
  (P9:Df P w K mg base "holds" k YO (eE K d)):bH P w K mg base CX0 (k+1) f fd YA (Mt K d):=by
 refine okA F qG fun _ _ _ _ H _ Q E hr h=>?_
 obtain⟨b,g,n,us,ts,ns,rfl,hb,rp,hd,hg,hn,q⟩:=h
 refine⟨_,(au (cV Wq U (dq (pv 0)) (aJ (i:=2) qG.nd U (VF U)) (az (aW (dR (cI (aY P9 hr (aa (pv 2) (aa (pv 1) ao))))) (az (aD fK)) aC)))
 (az (aD fK))),?_⟩
 have el:=rp.length
 refine⟨_,U,b,U,⟨_,sqT hb⟩,eF (K:=K) (a:=b) (xs:=us) (fun i σ H2=>(∃ u,σ=[oR b,oR g,u])/\aN H H2/\xW ns (ts.take i)=true) ⟨⟨_,U⟩,aN.refl H,by rw[Ws,xW]⟩ (fun i σ H2 _ h=>ik h.2.1 (sqT hb)) ?_ ?_⟩
 ·rintro i x σ H2 hx ⟨⟨u,rfl⟩,sm,ab⟩
  obtain⟨t,ht,rt⟩:=rp.get hx
  refine⟨_,U,_,U,x,g,n,t,ns,U,rt.mono sm,Wf (gU ht) hd,ik sm hg,hn,fun H3 s3=>⟨_,U,?_⟩⟩
  cases e:hF ns t with
  | false =>
   have q':=q H3 (sm.trans s3)
   rw[tG ht e] at q'
   exact cW q'
  | true=>exact bZ ⟨⟨_,U⟩,sm.trans s3,by rw[wK ht,ab,e];rfl⟩
 ·rintro σ H2 ⟨⟨u,rfl⟩,sm,ab⟩
  have q':=q H2 sm
  rw[el,VJ] at ab
  rw[ab] at q'
  exact q'
def gB {d k:Nat} (F:Fun K "any_holds" "any_holds" lF f fd) (B:Bt mg)
  (P9:Df P w K mg base "holds" k YO (eE K d)):bH P w K mg base CX0 (k+1) f fd YA (MT K d):=by
 refine okA F pD fun _ _ _ _ H _ Q E hr h=>?_
 obtain⟨b,g,n,us,ts,ns,rfl,hb,rp,hd,hg,hn,q⟩:=h
 refine⟨_,(au (cV Wq U (dq (pv 0)) (aJ (i:=2) pD.nd U (VF U)) (az (aW (cI (aY P9 hr (aa (pv 2) (aa (pv 1) ao)))) (az (aD fK)) aC)))
 (az (aD fK))),?_⟩
 have el:=rp.length
 refine⟨_,U,b,U,⟨_,sqT hb⟩,eF (K:=K) (a:=b) (xs:=us) (fun i σ H2=>(∃ u,σ=[oR b,oR g,u])/\aN H H2/\xZ ns (ts.take i)=false) ⟨⟨_,U⟩,aN.refl H,by rw[Ws,xZ]⟩ (fun i σ H2 _ h=>ik h.2.1 (sqT hb)) ?_ ?_⟩
 ·rintro i x σ H2 hx ⟨⟨u,rfl⟩,sm,ab⟩
  obtain⟨t,ht,rt⟩:=rp.get hx
  refine⟨_,U,_,U,x,g,n,t,ns,U,rt.mono sm,Wf (gU ht) hd,ik sm hg,hn,fun H3 s3=>⟨_,U,?_⟩⟩
  cases e:hF ns t with
  | true =>
   have q':=q H3 (sm.trans s3)
   rw[wF ht e] at q'
   exact cW q'
  | false=>exact bZ ⟨⟨_,U⟩,sm.trans s3,by rw[xJ ht,ab,e];rfl⟩
 ·rintro σ H2 ⟨⟨u,rfl⟩,sm,ab⟩
  have q':=q H2 sm
  rw[el,VJ] at ab
  rw[ab] at q'
  exact q'
def pP {d k:Nat} (F:Fun K "holds" "holds" yZ f fd) (B:Bt mg)
  (PU:Df P w K mg base "all_hold" k YA (Mt K d)) (PV:Df P w K mg base "any_holds" k YA (MT K d)):bH P w K mg base CX0 (k+1) f fd YO (eE K (d+1)):=by
 refine okA F CK fun _ _ _ _ H _ Q E hr h=>?_
 obtain⟨v,g,n,t,ns,rfl,rt,hd,hg,hn,q⟩:=h
 refine⟨_,(au (aP (i:=2) CK.nd U (VF U) (pxT K (pv 0) aq))
 (au (aW (aH bj (pv 2) aL) (az (aD (cY lJ (pxT K (pv 1) (pxT K (pv 0) aq)) (pxT K (pv 0) aq)))) aC)
 (au (aW (aH bj (pv 2) aL) (az (aD (cY lJ (aF (r:=Kz K) (qj U) U B.sum_ Gf (aa (cz (L:=["one"]) (F:=["giving"]) (cap:=[1]) U (bF U U (by kernel_rfl)) (dq (pxT K (pv 0) aq)) (fun _ _ _ _ _=>(aJ (i:=0) (bw (by decide+kernel)) U (VF U))) (fun _ _ _ _ _=>cQ) (fun _ _ _ _ _=>(pxT K (pv 1) (pv 0)))) ao)) (pxT K (pv 0) aq)))) aC)
 (au (aW (aH bj (pv 2) aL) (az (aD (cY lJ (aF (r:=iR K) aU U B.len_ bJ (aa (cz (L:=["one"]) (F:=["giving","term"]) (cap:=[1,0]) U (bF U U (by kernel_rfl)) (dq (pxT K (pv 0) aq)) (fun _ _ _ _ _=>(aJ (i:=0) (bw (by decide+kernel)) U (VF U))) (fun _ _ _ _ _=>(jf (aH lJ (pxT K (pv 1) (pv 0)) (pxT K (pv 2) aq)))) (fun _ _ _ _ _=>(pv 0))) ao)) (pxT K (pv 0) aq)))) aC)
 (au (aW (aH bj (pv 2) aL) (az (aD (aY PU hr (aa (pxT K (pv 0) aq) (aa (pv 1) ao))))) aC)
 (au (aW (aH bj (pv 2) aL) (az (aD (aY PV hr (aa (pxT K (pv 0) aq) (aa (pv 1) ao))))) aC)
 (az (aD (cY bj (pv 2) aL))))))))),?_⟩
 cases rt with
 | @free a ha =>
  refine⟨_,U,a,_,_,_,U,U,sqT ha,gt0,?_⟩
  refine⟨_,U,U,_,U,bu bz ?_⟩
  refine⟨_,U,U,_,U,bu bz ?_⟩
  refine⟨_,U,U,_,U,bu bz ?_⟩
  refine⟨_,U,U,_,U,bu bz ?_⟩
  refine⟨_,U,U,_,U,bu bz ?_⟩
  refine⟨_,U,U,?_⟩
  have q':=q H (aN.refl H)
  rw[hF] at q'
  rw[dcT U]
  exact q'
 | @never a ha =>
  refine⟨_,U,a,_,_,_,U,U,sqT ha,gt0,?_⟩
  refine⟨_,U,U,_,U,bu bz ?_⟩
  refine⟨_,U,U,_,U,bu bz ?_⟩
  refine⟨_,U,U,_,U,bu bz ?_⟩
  refine⟨_,U,U,_,U,bu bz ?_⟩
  refine⟨_,U,U,_,U,bu bz ?_⟩
  refine⟨_,U,U,?_⟩
  have q':=q H (aN.refl H)
  rw[hF] at q'
  rw[dcF bz]
  exact q'
 | @gives a i k ha hi _ _ =>
  refine⟨_,U,a,_,_,_,U,U,sqT ha,gt0,?_⟩
  refine⟨_,U,U,_,U,gR U ?_⟩
  refine⟨_,U,_,U,a,_,_,_,U,U,sqT ha,gt1,g,_,_,_,U,U,hg,atD (by lia),_,U,a,_,_,_,U,U,sqT ha,gt2,_,_,U,U,?_⟩
  have q':=q H (aN.refl H)
  rw[hF] at q'
  exact q'
 | @sum a b c k ha hb hc _ hl _ _ _ =>
  refine⟨_,U,a,_,_,_,U,U,sqT ha,gt0,?_⟩
  refine⟨_,U,U,_,U,bu bz ?_⟩
  refine⟨_,U,U,_,U,gR U ?_⟩
  refine⟨_,U,a,_,_,_,U,U,sqT ha,gt1,b,U,⟨_,sqT hb⟩,fun D hD=>cX (K:=K) (a:=b) (xs:=c.map vN) (fun i zs σ' H2=>(∃ u,σ'=[u,oR g])/\zs=((c.take i).map fun i=>ns.getD i 0).map V.int/\aN H H2/\H2 D=some (.lst zs))
   ⟨⟨_,U⟩,U,aA hD _,aj⟩ (fun i zs σ' H2 _ h=>⟨ik h.2.2.1 (sqT hb),h.2.2.2⟩) ?_ ?_⟩
  ·rintro j zs x σ' H2 hx ⟨⟨u,rfl⟩,e1,sm,hDl⟩
   obtain⟨i,hi,rfl⟩:=uG hx
   have hin:i < n:=hc i (Wd hi)
   refine gT ?_
   refine⟨_,U,_,U,g,_,_,_,U,U,ik sm hg,atD (by lia),hDl,?_,⟨_,U⟩,?_,aV sm hD _,aj⟩
   ·rw[e1,Vs,Vs,V0]
    exact aQ (by lia)
   ·rw[e1,V8,hi,VD,VD]
    rfl
  ·rintro zs σ' H2 ⟨⟨u,rfl⟩,e1,sm,hDl⟩
   rw[Vs,VJ] at e1
   refine⟨D,_,U,sqL (by rw[hDl,e1]),_,U,a,_,_,_,U,U,sqT (sm _ _ ha),gt2,_,_,U,U,?_⟩
   have q':=q H2 sm
   rw[hF] at q'
   exact q'
 | @crowd a b c k m ha hb hc _ hl _ _ _ _ _ =>
  refine⟨_,U,a,_,_,_,U,U,sqT ha,gt0,?_⟩
  refine⟨_,U,U,_,U,bu bz ?_⟩
  refine⟨_,U,U,_,U,bu bz ?_⟩
  refine⟨_,U,U,_,U,gR U ?_⟩
  refine⟨_,U,a,_,_,_,U,U,sqT ha,gt1,b,U,⟨_,sqT hb⟩,fun D hD=>cX (K:=K) (a:=b) (xs:=c.map vN) (fun i zs σ' H2=>(∃ u,σ'=[u,oR g,oR a])/\zs=((c.take i).filter fun i=>decide (k<=ns.getD i 0)).map vN/\aN H H2/\H2 D=some (.lst zs))
   ⟨⟨_,U⟩,U,aA hD _,aj⟩ (fun i zs σ' H2 _ h=>⟨ik h.2.2.1 (sqT hb),h.2.2.2⟩) ?_ ?_⟩
  ·rintro j zs x σ' H2 hx ⟨⟨u,rfl⟩,e1,sm,hDl⟩
   obtain⟨i,hi,rfl⟩:=uG hx
   have hin:i < n:=hc i (Wd hi)
   have et:c.take (j+1)=c.take j++[i]:=by rw[V8,hi];rfl
   refine⟨_,U,_,U,g,_,_,_,U,U,ik sm hg,atD (by lia),_,U,a,_,_,_,U,U,sqT (sm _ _ ha),gt2,_,_,U,U,_,U,?_⟩
   refine jE (fun cc=>?_) (fun cc=>?_)
   ·refine⟨_,U,hDl,?_,⟨_,U⟩,?_,aV sm hD _,aj⟩
    ·rw[e1,Vs]
     have:=WT (fun i=>decide (k<=ns.getD i 0)) (c.take j)
     rw[V0] at this
     exact aQ (by lia)
    ·rw[e1,et,YW,VD,aad,iPo cc]
     rfl
   ·refine⟨⟨_,U⟩,?_,sm,hDl⟩
    rw[e1,et,YW,aad,iNe cc]
    simp
  ·rintro zs σ' H2 ⟨⟨u,rfl⟩,e1,sm,hDl⟩
   rw[Vs,VJ] at e1
   refine⟨D,_,U,.inl (sqL (by rw[hDl,e1])),_,U,a,_,_,_,U,U,sqT (sm _ _ ha),dD (k:=3) U,_,_,U,U,?_⟩
   have q':=q H2 sm
   rw[hF] at q'
   rw[Vs]
   exact q'
 | @all a b us ts ha hb _ _ rl =>
  refine⟨_,U,a,_,_,_,U,U,sqT ha,gt0,?_⟩
  refine⟨_,U,U,_,U,bu bz ?_⟩
  refine⟨_,U,U,_,U,bu bz ?_⟩
  refine⟨_,U,U,_,U,bu bz ?_⟩
  refine⟨_,U,U,_,U,gR U ?_⟩
  refine⟨_,U,a,_,_,_,U,U,sqT ha,gt1,_,U,b,g,n,us,ts,ns,U,hb,rl,?_,hg,hn,fun H' s'=>?_⟩
  ·rw[Tm.dep] at hd
   lia
  ·have q':=q H' s'
   rw[hF] at q'
   exact q'
 | @any a b us ts ha hb _ _ rl =>
  refine⟨_,U,a,_,_,_,U,U,sqT ha,gt0,?_⟩
  refine⟨_,U,U,_,U,bu bz ?_⟩
  refine⟨_,U,U,_,U,bu bz ?_⟩
  refine⟨_,U,U,_,U,bu bz ?_⟩
  refine⟨_,U,U,_,U,bu bz ?_⟩
  refine⟨_,U,U,_,U,gR U ?_⟩
  refine⟨_,U,a,_,_,_,U,U,sqT ha,gt1,_,U,b,g,n,us,ts,ns,U,hb,rl,?_,hg,hn,fun H' s'=>?_⟩
  ·rw[Tm.dep] at hd
   lia
  ·have q':=q H' s'
   rw[hF] at q'
   exact q'
def oO {t u:TS}{D:Ends}{σ:St}{H:Hp}(P:St->Hp->Prop)(h2:∀ σ H,P σ H->u D σ H)(h1:∀ N:St->Hp->Prop,(∀ σ H,P σ H->N σ H)->t { D with nx:=N } σ H):Jx t u D σ H:=h1 (u D) h2
def ux {A B:TT}{t u:TS}{D:Ends}{σ:St}{H:Hp}(b1 b2:Bool)(R:Hp->Prop)(hA:∀ Q:Bool->Hp->Prop,(∀ H1,R H1->Q b1 H1)->A σ H Q)(hB:∀ H1,R H1->∀ Q:Bool->Hp->Prop,Q b2 H1->B σ H1 Q)
  (ht:∀ H1,R H1->b1=true->b2=true->t D σ H1) (hu:∀ H1,R H1->(b1=true->b2=false)->u D σ H1):JL (Uv A B) t u D σ H:=by
 refine hA _ fun H1 r1=>?_
 show if b1=true then B σ H1 (fun b H2=>if b=true then t D σ H2 else u D σ H2) else (if false=true then t D σ H1 else u D σ H1)
 cases b1 with
 | false=>exact bZ (bZ (hu H1 r1 fun z=>by cases z))
 | true =>
  refine cW (hB H1 r1 _ ?_)
  cases b2 with
  | false=>exact bZ (hu H1 r1 fun _=>U)
  | true=>exact cW (ht H1 r1 U U)
def gN {i:Nat}{x:V}{σ:St}{H:Hp}{P:St->Hp->Prop}(h:P (σ.set i (some x)) H):zg i x σ H P:=h
def nN {D:Ends}{σ:St}{H:Hp}(h:D.nx σ H):Ni D σ H:=h
abbrev nR:Stmt:=top 59
def fQ:aG ["_law_cell","_law_n","_law_deep","_law_most","_law_drawn","_law_parts","_law_crowd_here"] VY (aB nR):=c7
inductive Fl (d:Nat)(vs:FH)(H:Hp)(Q:VK):Prop where
 | mk (c:Int) (n:Nat) (deep most:Int) (z0:vs=[.int c,.int (n:Int),.int deep,.int most]) (z1:1<=n) (z2:n<=12) (z3:1<=deep) (z4:deep<=(d:Int)) (z5:1<=most) (z6:most<=9) (z7:∀ (v:V) (t:Tm) (H':Hp),aN H H'->gZ n H' v t->(t.dep:Int)<=deep->Q v H'):Fl d vs H Q
def tR (d:Nat):Sp:=fun vs H Q _=>Fl d vs H Q
def term_none:bH P w K mg base CX0 1 f fd VY (tR 0):=by
 have no:∀ vs H Q E,¬ tR 0 vs H Q E:=fun vs H Q E h=>by
  obtain⟨c,n,deep,most,_,_,_,h1,h2,_⟩:=h
  lia
 exact⟨fun vs H Q E h=>absurd h (no vs H Q E),fun A outer s H args us vs Q E _ _ _ _ h=>absurd h (no vs H Q E)⟩
def lL {d:Nat} (F:Fun K "_law_term" "_law_term" nR f fd) (B:Bt mg)
  (Rs:Df P w K mg base "_law_draws" 1 WZ (oH K)) (Sr:Df P w K mg base "_law_under" 1 X1 uL) (QY:Df P w K mg base "_law_crowd" 1 XV zf)
  (So:Df P w K mg base "_law_term" (d+1) VY (tR d)):bH P w K mg base CX0 (d+2) f fd VY (tR (d+1)):=by
 refine okA F fQ fun _ _ _ _ H _ Q E hr h=>?_
 obtain⟨c,n,deep,most,rfl,n1,n12,de1,ded,m1,m9,q⟩:=h
 refine⟨_,(au (aP (i:=4) fQ.nd U (VF U) (aY Rs hr (aa (pv 0) (aa (bA (aa aq (aa aq (aa aq (aa aq (aa aq ao)))))) ao))))
 (au (aW (PW.pt (kO (aH uW (pxL K (pv 4) aq) aq) (gP (aH lC (pv 2) aq)))) (au (lX (L:=["_law_k"]) (F:=["_law_n","_law_most","_law_cell","_law_deep"]) (cap:=[1,3,0,2]) (j:=5) fQ.nd U (VF U) U (bF U U (by kernel_rfl)) (bW U B.range_ (aa (aR bR aq (aR cA (pxL K (pv 4) aq) aq)) ao)) (fun _ _ _ _ _=>(aJ (i:=0) (bw (by decide+kernel)) U (VF U))) (fun _ _ _ _ _=>cQ) (fun _ _ _ _ _=>(aY So hr (aa (aY Sr hr (aa (pv 3) (aa (pv 0) ao))) (aa (pv 1) (aa (aR fc (pv 4) aq) (aa (pv 2) ao)))))))
 (az (aD (aZ (aa (pxL K (bA (aa aL (aa aL ao))) (pxL K (pv 4) aq)) (aa (bh (r:=fY K) bK U B.tuple_ bQ (aa (pv 5) ao)) ao)))))) aC)
 (au (aP (i:=6) fQ.nd U (VF U) (aY QY hr (aa (pxL K (pv 4) aq) (aa (pv 1) ao))))
 (au (aW (aH (r:=Px K) (FW hr.o9) (pv 6) (aZ ao)) (az (aP (i:=6) fQ.nd U (VF U) (aZ (aa (aR cA (pxL K (pv 4) aq) (pv 1)) ao)))) aC)
 (au (aW (PW.pt (kO (fU (r:=rIn K false) dY (pxL K (pv 4) aq) (aZ (aa aq (aa aq ao))) U) (gP (aH lC (aF (r:=iR K) aU U B.len_ bJ (aa (pv 6) ao)) aq)))) (az (aD (aZ (aa aL (aa (pv 6) (aa (aR bR aq (aR cA (aR bR (aR iQ aq (pxL K (pv 4) aq)) (pxL K (pv 4) aq)) (aF (GR U) U B.min_ QF (aa aq (aa (aR iQ (pv 3) (aF (r:=iR K) aU U B.len_ bJ (aa (pv 6) ao))) ao))))) ao)))))) aC)
 (au (aW (aH bj (pxL K (pv 4) aq) aq) (az (aD (aZ (aa aL (aa (pv 6) (aa (aR bR aq (aR cA (pxL K (pv 4) aq) (pv 3))) (aa (aR bR aq (aR cA (pxL K (pv 4) aq) (aF (r:=iR K) aU U B.len_ bJ (aa (pv 6) ao)))) ao))))))) aC)
 (au (aW (aH bj (pxL K (pv 4) aq) aq) (az (aD (aZ (aa (pxL K (bA (aa aL (aa aL (aa aL ao)))) (aR cA (pxL K (pv 4) aq) aq)) ao)))) aC)
 (az (aD (aZ (aa aL (aa (aR cA (pxL K (pv 4) aq) (pv 1)) (aa (aR bR aq (aR cA (pxL K (pv 4) aq) (pv 3))) ao))))))))))))),?_⟩
 refine⟨_,U,smN 5,fun p1 h1=>?_⟩
 generalize eH1:upd H p1 _=H1
 obtain⟨g1,e1⟩:=aK eH1 h1
 refine⟨c,p1,[9,12,9,4096,12],U,sqL e1,by decide,by decide,fun p2 h2=>?_⟩
 generalize eH2:upd H1 p2 _=H2
 obtain⟨g2,e2⟩:=aK eH2 h2
 have hps:∀ q∈([9,12,9,4096,12]:D6),0 < q:=by decide
 obtain⟨d0,k0,b0⟩:=dj (c:=qY c) (i:=0) hps U
 obtain⟨d1,k1,b1⟩:=dj (c:=qY c) (i:=1) hps U
 obtain⟨d2,k2,b2⟩:=dj (c:=qY c) (i:=2) hps U
 obtain⟨d3,k3,b3⟩:=dj (c:=qY c) (i:=3) hps U
 obtain⟨d4,k4,b4⟩:=dj (c:=qY c) (i:=4) hps U
 have a0:=dD (jq k0)
 have a1:=dD (jq k1)
 have a2:=dD (jq k2)
 have a3:=dD (jq k3)
 have a4:=dD (jq k4)
 change _=some (HO.lst ((yL (qY c) [9,12,9,4096,12]).map V.int)) at e2
 generalize yL (qY c) [9,12,9,4096,12]=ds at *
 have gH:aN H H2:=g1.trans g2
 refine gN ?_
 dsimp only
 show Jx (JL _ _ _) _ _ _ _
 refine oO (fun σ H3=>σ=[oI c,some (.int (n:Int)),oI deep,oI most,oR p2,none,none]/\H2=H3) ?rest (fun _ R=>?_)
 case rest =>
  rintro σ H3 ⟨rfl,rfl⟩
  refine⟨_,U,p2,_,_,_,U,U,sqL e2,a3,_,U,d3,n,U,by lia,fun cs r3 H3 hc hp hl s3 f3 e3=>?_⟩
  refine gN ?_
  dsimp only
  show Jx (JL _ _ _) _ _ _ _
  refine oO (fun σ H5=>∃ (rc:Addr) (cs:D7),σ=[oI c,some (.int (n:Int)),oI deep,oI most,oR p2,none,oR rc]/\aN H2 H5/\H5 rc=some (.tup (cs.map vN))/\(∀ i∈cs,i < n)/\cs.Pairwise (· < ·)/\cs.length<=n/\1<=cs.length) ?rest2 (fun _ R=>?_)
  case rest2 =>
   rintro σ H5 ⟨rc,cs,rfl,s5,e5,hc,hp,hl,h1l⟩
   have e2':=s5 _ _ e2
   have lenr:((cs.map vN).length:Int)=(cs.length:Int):=by rw[Vs]
   show Jx (JL _ _ _) _ _ _ _
   refine oO (fun σ H6=>σ=[oI c,some (.int (n:Int)),oI deep,oI most,oR p2,none,oR rc]/\aN H5 H6) ?rest3 (fun _ R=>?_)
   case rest3 =>
    rintro σ H6 ⟨rfl,s6⟩
    have e2':=s6 _ _ e2'
    have e5:=s6 _ _ e5
    have s56:aN H H6:=gH.trans (s5.trans s6)
    refine⟨_,U,p2,_,_,_,U,U,sqL e2',a0,U,_,U,?_⟩
    refine jE (fun _=>?_) (fun _=>?_)
    ·refine⟨_,U,_,U,p2,_,_,_,U,U,sqL e2',a2,_,U,_,_,U,U,(by show (0:Int) < most;lia),_,_,U,U,?_⟩
     refine⟨_,U,p2,_,_,_,U,U,sqL e2',a4,_,U,rc,_,U,.inr (sqT e5),_,_,U,U,?_,_,_,U,U,smN 4,fun p7 h7=>?_⟩
     ·rw[lenr]
      lia
     ·have u1:0<=d2 % most:=Wt _ (by lia)
      have u2:d2 % most < most:=Wl _ (by lia)
      have u3:0<=d4 % ((cs.map vN).length:Int):=Wt _ (by rw[lenr];lia)
      have u4:d4 % ((cs.map vN).length:Int) < (cs.length:Int):=by
       have:=Wl d4 (b:=((cs.map vN).length:Int)) (by rw[lenr];lia)
       rw[lenr] at this ⊢
       exact this
      refine q (.ref p7) (.crowd cs (1+d2 % most) (1+d4 % ((cs.map vN).length:Int))) _ (s56.trans (aA h7 _)) (.crowd aj (aA h7 _ _ _ e5) hc hp (by lia) h1l (by lia) (by lia) (by lia) (by lia)) ?_
      exact de1
    ·refine⟨_,U,p2,_,_,_,U,U,sqL e2',a0,U,_,U,?_⟩
     refine jE (fun _=>?_) (fun _=>?_)
     ·refine⟨smN 3,fun p7 h7=>?_⟩
      generalize eH7:upd H6 p7 _=H7
      obtain⟨g7,e7⟩:=aK eH7 h7
      have u1:0<=d1 % 3:=Wt _ (by lia)
      have u2:d1 % 3 < 3:=Wl _ (by lia)
      have fin:∀ p8 (x:Wb),H7 p8=none->(x = "free"∨x = "never")->Q (.ref p8) (upd H7 p8 (.tup [.str x])):=fun p8 x h8 hx=>by
       rcases hx with rfl | rfl
       ·refine q (.ref p8) .free _ (s56.trans (g7.trans (aA h8 _))) (.free aj) ?_
        exact de1
       ·refine q (.ref p8) .never _ (s56.trans (g7.trans (aA h8 _))) (.never aj) ?_
        exact de1
      refine⟨_,U,p2,_,_,_,U,U,sqL (g7 _ _ e2'),a1,_,_,U,U,(by show (0:Int) < 3;decide),?_⟩
      rcases (show d1 % 3=0∨d1 % 3=1∨d1 % 3=2 by lia) with z | z | z
      ·exact⟨p7,_,_,_,U,U,sqL e7,by rw[z];rfl,smN 1,fun p8 h8=>fin p8 _ h8 (.inl U)⟩
      ·exact⟨p7,_,_,_,U,U,sqL e7,by rw[z];rfl,smN 1,fun p8 h8=>fin p8 _ h8 (.inl U)⟩
      ·exact⟨p7,_,_,_,U,U,sqL e7,by rw[z];rfl,smN 1,fun p8 h8=>fin p8 _ h8 (.inr U)⟩
     ·have u1:0<=d1 % (n:Int):=Wt _ (by lia)
      have u2:d1 % (n:Int) < (n:Int):=Wl _ (by lia)
      have u3:0<=d2 % most:=Wt _ (by lia)
      have u4:d2 % most < most:=Wl _ (by lia)
      refine⟨_,U,p2,_,_,_,U,U,sqL e2',a1,_,U,_,_,U,U,(by show (0:Int) < (n:Int);lia),?_⟩
      refine⟨_,U,p2,_,_,_,U,U,sqL e2',a2,_,U,_,_,U,U,(by show (0:Int) < most;lia),_,_,U,U,smN 3,fun p7 h7=>?_⟩
      obtain⟨i,hi⟩:=W8 u1
      rw[hi] at u2
      refine q (.ref p7) (.gives i (1+d2 % most)) _ (s56.trans (aA h7 _)) (.gives (aj.trans (by show some (HO.tup [V.str "gives",V.int (d1 % (n:Int)),V.int (1+d2 % most)])=some (HO.tup [V.str "gives",V.int (i:Int),V.int (1+d2 % most)]);rw[hi])) (by lia) (by lia) (by lia)) ?_
      exact de1
   ·refine ux (inV (.int d0) [.int 3,.int 4]) (decide (1 < (cs.length:Int))) (fun H6=>aN H5 H6) (fun Q' hQ=>?_) (fun H6 s6 Q' hQ=>?_) (fun H6 s6 _ hl2=>?_) (fun H6 s6 _=>R _ _ ⟨U,s6⟩)
    ·refine⟨_,U,p2,_,_,_,U,U,sqL e2',a0,smN 2,fun p6 h6=>⟨p6,_,U,.inr (sqT aj),U,U,_,U,hQ _ (aA h6 _)⟩⟩
    ·refine⟨_,U,rc,_,U,.inr (sqT (s6 _ _ e5)),_,_,U,U,_,U,?_⟩
     rw[lenr]
     exact hQ
    ·have e2':=s6 _ _ e2'
     have e5:=s6 _ _ e5
     have s56:aN H H6:=gH.trans (s5.trans s6)
     have hl3:(1:Int) < (cs.length:Int):=of_decide_eq_true hl2
     refine⟨_,U,_,U,p2,_,_,_,U,U,sqL e2',a1,_,_,U,U,.inl ⟨by decide,by decide⟩,_,U,p2,_,_,_,U,U,sqL e2',a2,_,_,U,U,?_⟩
     refine⟨_,U,_,U,rc,_,U,.inr (sqT e5),_,_,U,U,.inl ⟨by lia,by lia⟩,_,_,U,?_⟩
     have pz:0 < most * ((cs.map vN).length:Int):=by
      rw[lenr]
      exact Int.mul_pos (by lia) (by lia)
     generalize hz:(if most * ((cs.map vN).length:Int) < 99 then most * ((cs.map vN).length:Int) else 99)=z
     have z1:0 < z:=by
      rw[← hz]
      split <;> lia
     have z2:z<=99:=by
      rw[← hz]
      split <;> lia
     have u3:0<=(9 * d1+d2) % z:=Wt _ (by lia)
     have u4:(9 * d1+d2) % z < z:=Wl _ z1
     refine⟨_,_,U,U,z1,_,_,U,U,smN 3,fun p7 h7=>?_⟩
     refine q (.ref p7) (.sum cs (1+(9 * d1+d2) % z)) _ (s56.trans (aA h7 _)) (.sum aj (aA h7 _ _ _ e5) hc hp (by lia) (by lia) (by lia) (by lia)) ?_
     exact de1
  ·refine⟨_,U,smN 0,fun p4 h4=>?_⟩
   have e3':SqT K H3 r3 ((cs.map fun i:Nat=>(i:Int)).map V.int):=by rw[← gY];exact sqT e3
   have g4:aN H3 (upd H3 p4 (.tup [])):=aA h4 _
   refine⟨r3,p4,cs.map (fun i:Nat=>(i:Int)),[],U,U,ik g4 e3',sqT aj,_,U,?_⟩
   refine jE (fun ce=>?_) (fun ce=>?_)
   ·have u1:0<=d4 % (n:Int):=Wt _ (by lia)
    have u2:d4 % (n:Int) < (n:Int):=Wl _ (by lia)
    refine⟨_,U,p2,_,_,_,U,U,sqL (g4 _ _ (s3 _ _ e2)),a4,_,U,_,_,U,U,(by show (0:Int) < (n:Int);lia),smN 1,fun p5 h5=>?_⟩
    obtain⟨i,hi⟩:=W8 u1
    rw[hi] at u2
    refine R _ _ ⟨p5,[i],U,s3.trans (g4.trans (aA h5 _)),aj.trans (by show some (HO.tup [V.int (d4 % (n:Int))])=some (HO.tup [V.int (i:Int)]);rw[hi]),?_,by simp,n1,Vw _⟩
    intro j hj
    rw[XN] at hj
    lia
   ·refine R _ _ ⟨r3,cs,U,s3.trans g4,g4 _ _ e3,hc,hp,hl,?_⟩
    cases cs with
    | nil=>exact absurd (dcT U) ce
    | cons x xs=>rw[V2];lia
 ·refine ux (decide (d0 < 2)) (decide (1 < deep)) (fun H3=>H2=H3) (fun Q' hQ=>?_) (fun H3 e Q' hQ=>?_) (fun H3 e c1 c2=>?_) (fun H3 e _=>R _ _ ⟨U,e⟩)
  ·exact⟨_,U,p2,_,_,_,U,U,sqL e2,a0,_,_,U,U,_,U,hQ _ U⟩
  ·exact⟨_,U,_,_,U,U,_,U,hQ⟩
  ·subst e
   have c1:d0 < 2:=of_decide_eq_true c1
   have c2:1 < deep:=of_decide_eq_true c2
   have u1:0<=d4 % 5:=Wt _ (by lia)
   have u2:d4 % 5 < 5:=Wl _ (by lia)
   refine⟨_,U,p2,_,_,_,U,U,sqL e2,a4,_,_,U,U,(by show (0:Int) < 5;decide),_,_,U,U,_,U,by lia,by lia,fun D hD=>cT (lo:=0) (n:=(2+d4 % 5).toNat)
    (fun i zs σ' H5=>(∃ u,σ'=[u,some (.int (n:Int)),oI most,oI c,oI deep])/\aN H2 H5/\H5 D=some (.lst zs)/\zs.length=i/\∃ ts,cu n H5 zs ts/\(tdL ts:Int)<=deep - 1)
    ⟨⟨_,U⟩,aA hD _,aj,U,[],.nil,by rw[tdL];lia⟩ (fun i zs σ' H5 _ h=>h.2.2.1) ?_ ?_⟩
   ·rintro i zs σ' H5 hi ⟨⟨u,rfl⟩,s5,eD,lz,ts,rt,td⟩
    refine gT ?_
    refine⟨_,U,_,U,c,i,by rw[Xw];rfl,by lia,_,U,_,U,_,_,U,U,_,U,PJ c i,n,deep - 1,most,U,n1,n12,by lia,by lia,m1,m9,fun v t H6 s6 r6 d6=>?_⟩
    refine⟨s6 _ _ eD,?_,⟨_,U⟩,aV (s5.trans s6) hD _,aj,?_,ts++[t],?_,?_⟩
    ·exact aQ (by lia)
    ·rw[VH,lz]
     rfl
    ·have s7:=cR (zs':=zs++[v]) (s6 _ _ eD)
     exact ((rt.mono s6).aO s7).snoc (r6.aO s7)
    ·have:=Bx (m:=(deep - 1).toNat) (t:=t) (by lia) (ts:=ts) (by lia)
     lia
   ·rintro zs σ' H5 ⟨⟨u,rfl⟩,s5,eD,lz,ts,rt,td⟩
    refine⟨smN 2,fun p6 h6=>?_⟩
    generalize eH6:upd H5 p6 _=H6
    obtain⟨g6,e6⟩:=aK eH6 h6
    refine⟨_,U,p2,_,_,_,U,U,sqL (g6 _ _ (s5 _ _ e2)),a0,?_⟩
    rcases (show d0=0∨d0=1 by lia) with z | z
    ·subst z
     refine⟨p6,_,_,_,U,U,sqL e6,U,_,U,D,_,U,.inl ⟨sqL (g6 _ _ eD),fun p7 h7=>?_⟩⟩
     generalize eH7:upd H6 p7 _=H7
     obtain⟨g7,e7⟩:=aK eH7 h7
     refine⟨smN 2,fun p8 h8=>?_⟩
     refine q (.ref p8) (.all ts) _ (gH.trans (s5.trans (g6.trans (g7.trans (aA h8 _))))) (.all aj (aA h8 _ _ _ e7) (by lia) (by lia) (rt.mono (g6.trans (g7.trans (aA h8 _))))) ?_
     rw[Tm.dep]
     lia
    ·subst z
     refine⟨p6,_,_,_,U,U,sqL e6,U,_,U,D,_,U,.inl ⟨sqL (g6 _ _ eD),fun p7 h7=>?_⟩⟩
     generalize eH7:upd H6 p7 _=H7
     obtain⟨g7,e7⟩:=aK eH7 h7
     refine⟨smN 2,fun p8 h8=>?_⟩
     refine q (.ref p8) (.any ts) _ (gH.trans (s5.trans (g6.trans (g7.trans (aA h8 _))))) (.any aj (aA h8 _ _ _ e7) (by lia) (by lia) (rt.mono (g6.trans (g7.trans (aA h8 _))))) ?_
     rw[Tm.dep]
     lia
def vq (ns:D6)(lo hi:DZ):∃ ks:D6,pZ (ns.map V.int) lo hi=ks.map V.int/\ks.length<=ns.length:=by
 unfold pZ
 generalize HT.sIx _ _ lo=x
 generalize HT.sIx _ _ hi=y
 refine⟨(ns.drop x).take (y - x),by rw[List.map_take,List.map_drop],?_⟩
 rw[V0,YL]
 lia
theorem uC:∀ (ns acc:D6),acc.Nodup->(ns.foldl Xh acc).Nodup
 | [],acc,h=>h
 | n::r,acc,h=>by
  rw[Yy]
  refine uC r _ ?_
  unfold Xh
  split
  ·exact h
  ·rename_i z
   rw[ab0]
   refine⟨h,by simp,fun a ha b hb e=>?_⟩
   rw[XN] at hb
   subst hb
   subst e
   exact z (List.any_eq_true.mpr ⟨a,ha,beq_self_eq_true a⟩)
theorem Gz:∀ (ns acc:D6),(ns.foldl Xh acc).length<=acc.length+ns.length
 | [],acc=>by simp
 | n::r,acc=>by
  rw[Yy]
  refine Wf (Gz r _) ?_
  unfold Xh
  split
  ·rw[V2];lia
  ·simp only[VH,V2,List.length_nil];lia
def Dh (ns:D6):ddI ns=ns.foldl Xh []:=by
 unfold ddI PyProof.Rows.firstMet
 congr 1
 apply List.ext_getElem?
 intro i
 rw[V7]
 by_cases h:i < ns.length
 ·rw[abC h,Vz h]
  simp [Wi,Vz h]
 ·have e1:(Xb ns.length)[i]? = none:=Za (by rw[XD];lia)
  rw[e1,Za (by lia)]
  rfl
theorem j4:∀ {a b:D6},a.Perm b->a.Pairwise (·<=·)->b.Pairwise (·<=·)->a=b
 | [],b,p,_,_=>(List.Perm.nil_eq p)
 | x::a,[],p,_,_=>absurd p.length_eq (by simp)
 | x::a,y::b,p,ha,hb=>by
  rw[Yb] at ha hb
  have h1:x<=y:=by
   rcases List.mem_cons.mp (p.mem_iff.mpr VP) with h | h
   ·lia
   ·exact ha.1 y h
  have h2:y<=x:=by
   rcases List.mem_cons.mp (p.mem_iff.mp VP) with h | h
   ·lia
   ·exact hb.1 x h
  have e:x=y:=by lia
  subst e
  rw[j4 (List.Perm.cons_inv p) ha.2 hb.2]
abbrev Pl:=List (Int × Tm)
inductive dB (n:Nat)(H:Hp):FH->Pl->Prop where
 | nil:dB n H [] []
 | cons {r:Addr} {k:Int} {v:V} {t:Tm} {vs:FH} {ps:Pl}:H r=some (.tup [.int k,v])->gZ n H v t->dB n H vs ps->dB n H (.ref r::vs) ((k,t)::ps)
theorem dB.aO {n:Nat}{H H':Hp}(e:∀ a xs,H a=some (HO.tup xs)->H' a=some (HO.tup xs)):∀ {vs:FH} {ps:Pl},dB n H vs ps->dB n H' vs ps
 | _,_,.nil=>.nil
 | _,_,.cons h t r=>.cons (e _ _ h) (t.aO e) (dB.aO e r)
theorem dB.length {n:Nat}{H:Hp}:∀ {vs:FH} {ps:Pl},dB n H vs ps->vs.length=ps.length
 | _,_,.nil=>rfl
 | _,_,.cons _ _ r=>by rw[V2,V2,dB.length r]
theorem dB.get {n:Nat}{H:Hp}:∀ {vs:FH} {ps:Pl} {i:Nat} {v:V},dB n H vs ps->vs[i]? = some v->∃ r k u t,v = .ref r/\H r=some (.tup [.int k,u])/\gZ n H u t/\ps[i]? = some (k,t)
 | _,_,_,_,.nil,h=>by simp at h
 | _,_,0,_,.cons h t _,e=>by
  cases (show some _=some _ from e)
  exact⟨_,_,_,_,U,h,t,U⟩
 | _,_,i+1,_,.cons _ _ r,e=>by
  obtain⟨a,k,u,t,h1,h2,h3,h4⟩:=dB.get (i:=i) r (by simpa using e)
  exact⟨a,k,u,t,h1,h2,h3,by simpa using h4⟩
theorem dB.snoc {n:Nat}{H:Hp}{r:Addr}{k:Int}{v:V}{t:Tm}(h:H r=some (.tup [.int k,v]))(ht:gZ n H v t):∀ {vs:FH} {ps:Pl},dB n H vs ps->dB n H (vs++[.ref r]) (ps++[(k,t)])
 | _,_,.nil=>.cons h ht .nil
 | _,_,.cons a b c=>.cons a b (dB.snoc h ht c)
def okP (p:Pl):Prop:=p≠[]/\p.length<=9/\(p.map (·.1)).Pairwise (· < ·)/\∀ x∈p,1<=x.1/\x.1<=9/\x.2.dep<=4
def kE (n:Nat)(H:Hp)(a:Addr)(p:Pl):Prop:=okP p/\∃ vs,H a=some (.tup vs)/\dB n H vs p
def kE.aO {n:Nat}{H H':Hp}{a:Addr}{p:Pl}(e:∀ a xs,H a=some (HO.tup xs)->H' a=some (HO.tup xs))(h:kE n H a p):kE n H' a p:=by
 obtain⟨ok,vs,h1,h2⟩:=h
 exact⟨ok,vs,e _ _ h1,h2.aO e⟩
def kE.mono {n:Nat}{H H':Hp}{a:Addr}{p:Pl}(e:aN H H')(h:kE n H a p):kE n H' a p:=h.aO fun a xs q=>e a _ q
inductive fC (n:Nat)(H:Hp):D0->List Pl->Prop where
 | nil:fC n H [] []
 | cons {a:Addr} {p:Pl} {as:D0} {ps:List Pl}:kE n H a p->fC n H as ps->fC n H (a::as) (p::ps)
theorem fC.aO {n:Nat}{H H':Hp}(e:∀ a xs,H a=some (HO.tup xs)->H' a=some (HO.tup xs)):∀ {as:D0} {ps:List Pl},fC n H as ps->fC n H' as ps
 | _,_,.nil=>.nil
 | _,_,.cons h r=>.cons (h.aO e) (fC.aO e r)
theorem fC.length {n:Nat}{H:Hp}:∀ {as:D0} {ps:List Pl},fC n H as ps->as.length=ps.length
 | _,_,.nil=>rfl
 | _,_,.cons _ r=>by rw[V2,V2,fC.length r]
theorem fC.get {n:Nat}{H:Hp}:∀ {as:D0} {ps:List Pl} {i:Nat} {a:Addr},fC n H as ps->as[i]? = some a->∃ p,ps[i]? = some p/\kE n H a p
 | _,_,_,_,.nil,h=>by simp at h
 | _,_,0,_,.cons h _,e=>by
  cases (show some _=some _ from e)
  exact⟨_,U,h⟩
 | _,_,i+1,_,.cons _ r,e=>by
  obtain⟨p,h1,h2⟩:=fC.get (i:=i) r (by simpa using e)
  exact⟨p,by simpa using h1,h2⟩
theorem fC.snoc {n:Nat}{H:Hp}{a:Addr}{p:Pl}(h:kE n H a p):∀ {as:D0} {ps:List Pl},fC n H as ps->fC n H (as++[a]) (ps++[p])
 | _,_,.nil=>.cons h .nil
 | _,_,.cons x r=>.cons x (fC.snoc h r)
inductive fL (n:Nat)(H:Hp):FH->List (List Pl)->Prop where
 | nil:fL n H [] []
 | cons {c:Addr} {as:D0} {ps:List Pl} {us:FH} {bs:List (List Pl)}:H c=some (.lst (as.map V.ref))->as.length<=100->fC n H as ps->fL n H us bs->fL n H (.ref c::us) (ps::bs)
theorem fL.mono {n:Nat}{H H':Hp}(e:aN H H'):∀ {us:FH} {bs:List (List Pl)},fL n H us bs->fL n H' us bs
 | _,_,.nil=>.nil
 | _,_,.cons h l p r=>.cons (e _ _ h) l (p.aO fun a xs q=>e a _ q) (fL.mono e r)
theorem fL.length {n:Nat}{H:Hp}:∀ {us:FH} {bs:List (List Pl)},fL n H us bs->us.length=bs.length
 | _,_,.nil=>rfl
 | _,_,.cons _ _ _ r=>by rw[V2,V2,fL.length r]
theorem fL.get {n:Nat}{H:Hp}:∀ {us:FH} {bs:List (List Pl)} {i:Nat} {u:V},fL n H us bs->us[i]? = some u->∃ c as ps,u = .ref c/\bs[i]? = some ps/\H c=some (.lst (as.map V.ref))/\as.length<=100/\fC n H as ps
 | _,_,_,_,.nil,h=>by simp at h
 | _,_,0,_,.cons h l p _,e=>by
  cases (show some _=some _ from e)
  exact⟨_,_,_,U,U,h,l,p⟩
 | _,_,i+1,_,.cons _ _ _ r,e=>by
  obtain⟨c,as,ps,h1,h2,h3⟩:=fL.get (i:=i) r (by simpa using e)
  exact⟨c,as,ps,h1,by simpa using h2,h3⟩
theorem fL.snoc {n:Nat}{H:Hp}{c:Addr}{as:D0}{ps:List Pl}(h:H c=some (.lst (as.map V.ref)))(hl:as.length<=100)(hp:fC n H as ps):∀ {us:FH} {bs:List (List Pl)},fL n H us bs->fL n H (us++[.ref c]) (bs++[ps])
 | _,_,.nil=>.cons h hl hp .nil
 | _,_,.cons x y z r=>.cons x y z (fL.snoc h hl hp r)
def Ob (n:Nat)(H:Hp)(b:Addr)(bk:List (List Pl)):Prop:=∃ us,H b=some (.lst us)/\fL n H us bk/\bk.length<=12
def Ob.mono {n:Nat}{H H':Hp}{b:Addr}{bk:List (List Pl)}(e:aN H H')(h:Ob n H b bk):Ob n H' b bk:=by
 obtain⟨us,h1,h2,h3⟩:=h
 exact⟨us,e _ _ h1,h2.mono e,h3⟩
def owS (g:D6)(f:Int)(x:Int × Tm):Int:=if hF g x.2=true then x.1 else f
def owF (g:D6)(p:Pl):Int:=p.foldl (owS g) 0
def Bg {g:D6}{p:Pl}{i:Nat}{x:Int × Tm}(h:p[i]? = some x):owF g (p.take (i+1))=if hF g x.2=true then x.1 else owF g (p.take i):=by
 unfold owF
 rw[V8,h]
 show ((p.take i)++[x]).foldl (owS g) 0=_
 rw[List.foldl_append]
 rfl
def lsF (p:Pl):Int:=mxD 0 (p.map (·.1))
theorem o8:∀ (l:D6) (a x:Int),(∀ y∈l,y<=x)->a<=x->(l++[x]).foldl max a=x
 | [],a,x,_,h=>by show max a x=x;lia
 | y::l,a,x,hl,h=>by
  rw[aaX,Yy]
  exact o8 l (max a y) x (fun z hz=>hl z (VR _ hz)) (by have:=hl y VP;lia)
def zZ {l:D6}{x:Int}(h:(l++[x]).Pairwise (· < ·)):∀ y∈l,y<=x:=fun y hy=>by
 rw[aah] at h
 have:=h.2.2 y hy x VP
 lia
def JZ {q:Pl}{x:Int × Tm}(h:((q++[x]).map (·.1)).Pairwise (· < ·)):lsF (q++[x])=x.1:=by
 rw[VD] at h
 have hl:=zZ (l:=q.map (·.1)) (x:=x.1) h
 unfold lsF
 rw[VD]
 cases q with
 | nil=>rfl
 | cons y q =>
  show ((q.map (·.1))++[x.1]).foldl max y.1=x.1
  exact o8 _ _ _ (fun z hz=>hl z (VR _ hz)) (hl y.1 VP)
def duF (g:D6)(f:Int)(ps:List Pl):Int:=(ps.map (owF g)).foldl max f
def rfS (f:Int)(ps:List Pl):Int:=(ps.map lsF).foldl max f
def rfF (fl:D6)(bk:List (List Pl)):D6:=aa4 rfS fl bk
def Ko {α β γ:Type}(f:α->β->γ){xs:List α}{ys:List β}{i:Nat}{x:α}{y:β}(h1:xs[i]? = some x)(h2:ys[i]? = some y):aa4 f (xs.take (i+1)) (ys.take (i+1))=aa4 f (xs.take i) (ys.take i)++[f x y]:=by
 have l1:i < xs.length:=(geS h1).1
 have l2:i < ys.length:=(geS h2).1
 rw[V8,V8,h1,h2]
 show aa4 f (xs.take i++[x]) (ys.take i++[y])=_
 rw[List.zipWith_append (by rw[V0,V0];lia)]
 rfl
def Ml {as:D0}{i:Nat}{x:V}(h:(as.map V.ref)[i]? = some x):∃ a,as[i]? = some a/\x = .ref a:=by
 rw[V7] at h
 cases e:as[i]? with
 | none=>rw[e] at h;cases h
 | some a=>rw[e] at h;exact⟨a,U,(Wo h).symm⟩
def take_snoc {α β:Type}(f:α->β){xs:List α}{i:Nat}{x:α}(h:xs[i]? = some x):(xs.take (i+1)).map f=(xs.take i).map f++[f x]:=(vH f h).symm
abbrev HJ:Stmt:=top 34
def yU:aG ["pledge","giving","step","term"] Yf (aB HJ):=c7
inductive Jg (K:V3)(vs:FH)(H:Hp)(Q:VK):Prop where
 | mk (a g:Addr) (n:Nat) (p:Pl) (ns:D6) (z0:vs=[.ref a,.ref g]) (z1:kE n H a p) (z2:SqT K H g (ns.map V.int)) (z3:n<=ns.length) (z4:∀ H',aN H H'->Q (.int (owF ns p)) H'):Jg K vs H Q
def BW (K:V3):Sp:=fun vs H Q _=>Jg K vs H Q
def Oz {k:Nat} (F:Fun K "owes" "owes" HJ f fd) (B:Bt mg)
  (P9:Df P w K mg base "holds" k YO (eE K 4)):bH P w K mg base CX0 (k+1) f fd Yf (BW K):=by
 refine okA F yU fun _ _ _ _ H _ Q E hr h=>?_
 obtain⟨a,g,n,p,ns,rfl,⟨ok,vs,ha,rp⟩,hg,hn,q⟩:=h
 refine⟨_,(au (cV Wq U (Sg U B.reversed_ (aa (pv 0) ao)) (d8 (K:=K) 2 U U (bf (aJ (i:=2) yU.nd U (VF U)) (bf (aJ (i:=3) yU.nd U (VF U)) eG))) (az (aW (cI (aY P9 hr (aa (pv 3) (aa (pv 1) ao)))) (az (aD (pv 2))) aC)))
 (az (aD aq))),?_⟩
 have el:=rp.length
 refine⟨_,U,a,vs,U,sqT ha,Ot (K:=K) (a:=a) (xs:=vs) (fun i σ H2=>(∃ u v,σ=[oR a,oR g,u,v])/\aN H H2/\owF ns p=owF ns (p.take (p.length - i)))
  ⟨⟨_,_,U⟩,aN.refl H,by rw[Nat.sub_zero,VJ]⟩ (fun i σ H2 _ h=>sqT (h.2.1 _ _ ha)) ?_ ?_⟩
 ·rintro i x σ H2 hi hx ⟨⟨u,v,rfl⟩,sm,ow⟩
  obtain⟨r,k0,y,t,rfl,hr0,rt,hp⟩:=rp.get hx
  have hm:=Wd hp
  have e1:p.length - i=vs.length - 1 - i+1:=by lia
  have e2:p.length - (i+1)=vs.length - 1 - i:=by lia
  rw[e1,Bg hp] at ow
  refine⟨r,_,U,sqT (sm _ _ hr0),U,_,_,U,_,_,U,U,?_⟩
  refine⟨_,U,_,U,y,g,n,t,ns,U,rt.mono sm,(ok.2.2.2 _ hm).2.2,ik sm hg,hn,fun H3 s3=>⟨_,U,?_⟩⟩
  cases e:hF ns t with
  | true =>
   refine cW ⟨_,U,?_⟩
   rw[iPo e] at ow
   have q':=q H3 (sm.trans s3)
   rw[ow] at q'
   exact q'
  | false =>
   refine bZ ⟨⟨_,_,U⟩,sm.trans s3,?_⟩
   rw[iNe (by rw[e];exact Vy)] at ow
   rw[e2]
   exact ow
 ·rintro σ H2 ⟨⟨u,v,rfl⟩,sm,ow⟩
  rw[el,Nat.sub_self,Ws] at ow
  have q':=q H2 sm
  rw[ow] at q'
  exact q'
def NP (x:Nat):D7->D7
 | []=>[x]
 | y::r=>if x<=y then x::y::r else y::NP x r
def mL:D7->D7
 | []=>[]
 | x::r=>NP x (mL r)
theorem rT (x:Nat):∀ l:D7,(NP x l).Perm (x::l)
 | []=>.refl _
 | y::r=>by
  rw[NP]
  split
  ·exact .refl _
  ·exact ((rT x r).cons y).trans (.swap x y r)
theorem fZ:∀ l:D7,(mL l).Perm l
 | []=>.refl _
 | x::r=>(rT x _).trans ((fZ r).cons x)
theorem qF (x:Nat):∀ {l:D7},l.Pairwise (·<=·)->(NP x l).Pairwise (·<=·)
 | [],_=>by rw[NP];simp
 | y::r,h=>by
  rw[NP]
  rw[Yb] at h
  split
  ·rw[Yb,Yb]
   refine⟨fun z hz=>?_,h⟩
   rcases List.mem_cons.mp hz with rfl | hz
   ·assumption
   ·have:=h.1 z hz
    lia
  ·rw[Yb]
   refine⟨fun z hz=>?_,qF x h.2⟩
   rcases List.mem_cons.mp ((rT x r).mem_iff.mp hz) with rfl | hz
   ·lia
   ·exact h.1 z hz
theorem lG:∀ l:D7,(mL l).Pairwise (·<=·)
 | []=>by rw[mL];simp
 | x::r=>qF x (lG r)
def yP {l:D7}{ms:D6}(p:ms.Perm (l.map fun i:Nat=>(i:Int)))(h:ms.Pairwise (·<=·)):ms=(mL l).map fun i:Nat=>(i:Int):=by
 refine j4 (p.trans ((fZ l).map _).symm) h ?_
 rw[Ze]
 exact (lG l).imp fun h=>by lia
mutual
def ren (f:Nat->Nat):Tm->Tm
 | .free=>.free
 | .never=>.never
 | .gives i k=>.gives (f i) k
 | .sum c k=>.sum (mL (c.map f)) k
 | .crowd c k m=>.crowd (mL (c.map f)) k m
 | .all ts=>.all (Eb f ts)
 | .any ts=>.any (Eb f ts)
def Eb (f:Nat->Nat):List Tm->List Tm
 | []=>[]
 | t::r=>ren f t::Eb f r
end
theorem m8 (f:Nat->Nat):∀ ts:List Tm,Eb f ts=ts.map (ren f)
 | []=>by rw[Eb];rfl
 | t::r=>by rw[Eb,m8 f r];rfl
mutual
theorem Gk (f:Nat->Nat):∀ t:Tm,(ren f t).dep=t.dep
 | .free=>by rw[ren]
 | .never=>by rw[ren]
 | .gives i k=>by rw[ren,Tm.dep,Tm.dep] <;> simp
 | .sum c k=>by rw[ren,Tm.dep,Tm.dep] <;> simp
 | .crowd c k m=>by rw[ren,Tm.dep,Tm.dep] <;> simp
 | .all ts=>by rw[ren,Tm.dep,Tm.dep,vB f ts]
 | .any ts=>by rw[ren,Tm.dep,Tm.dep,vB f ts]
theorem vB (f:Nat->Nat):∀ ts:List Tm,tdL (Eb f ts)=tdL ts
 | []=>by rw[Eb]
 | t::r=>by rw[Eb,tdL,tdL,Gk f t,vB f r]
end
def pN (rs:D7)(i:Nat):Nat:=rs.getD i 0
def Bk {rs:D7}{i:Nat}(h:i < rs.length):pN rs i∈rs:=by
 unfold pN
 rw[Wi,Vz h]
 exact acf h
def KY {rs:D7}(nd:rs.Nodup){i j:Nat}(hi:i < rs.length)(hj:j < rs.length)(hij:i < j):pN rs i≠pN rs j:=by
 unfold pN
 rw[Wi,Vz hi,Wi,Vz hj]
 exact List.pairwise_iff_getElem.mp nd i j hi hj hij
def vY {rs c:D7}{m n:Nat}(nd:rs.Nodup)(hm:m<=rs.length)(hv:∀ x∈rs,x < n)(hc:∀ i∈c,i < m)(hp:c.Pairwise (· < ·)) :
  (∀ i∈mL (c.map (pN rs)),i < n)/\(mL (c.map (pN rs))).Pairwise (· < ·)/\(mL (c.map (pN rs))).length=c.length:=by
 have pm:=fZ (c.map (pN rs))
 refine⟨fun i hi=>?_,?_,by rw[pm.length_eq,Vs]⟩
 ·obtain⟨j,hj,rfl⟩:=List.mem_map.mp (pm.mem_iff.mp hi)
  exact hv _ (Bk (Vx (hc j hj) hm))
 ·have nd2:(c.map (pN rs)).Nodup:=by
   show (c.map (pN rs)).Pairwise (·≠·)
   rw[Ze]
   exact List.Pairwise.imp_of_mem (fun {a b} ha hb h=>KY nd (Vx (hc a ha) hm) (Vx (hc b hb) hm) h) hp
  have nd3:(mL (c.map (pN rs))).Nodup:=pm.nodup_iff.mpr nd2
  exact ((lG _).and nd3).imp fun h=>by lia
def Iu {rs:D7}{i:Nat}(h:i < rs.length):atI (rs.map vN) (i:Int)=some (vN (pN rs i)):=by
 refine dh ?_
 unfold pN
 rw[V7,Wi,Vz h]
 rfl
def JR {b:Bool}{A B:Prop}(h:b=true)(a:A):if b=true then A else B:=by rw[iPo h];exact a
def j8 {b:Bool}{A B:Prop}(h:b=false)(a:B):if b=true then A else B:=by rw[iNe (by rw[h];exact Vy)];exact a
abbrev jb:Stmt:=top 60
def sW:aG WS WS (aB jb):=c7
inductive Mq (K:V3)(d:Nat)(vs:FH)(H:Hp)(Q:VK):Prop where
 | mk (v:V) (row:Addr) (m n:Nat) (t:Tm) (rs:D7) (z0:vs=[v,.ref row]) (z1:gZ m H v t) (z2:t.dep<=d) (z3:SqL K H row (rs.map vN)) (z4:m<=rs.length) (z5:rs.Nodup) (z6:(∀ x∈rs,x < n)) (z7:∀ (v':V) (H':Hp),aN H H'->gZ n H' v' (ren (pN rs) t)->Q v' H'):Mq K d vs H Q
def Dq (K:V3)(d:Nat):Sp:=fun vs H Q _=>Mq K d vs H Q
def JD:bH P w K mg base CX0 0 f fd WS (Dq K 0):=by
 have no:∀ vs H Q E,¬ Dq K 0 vs H Q E:=fun vs H Q E h=>by
  obtain⟨v,row,m,n,t,rs,_,_,h1,_⟩:=h
  have:=t.nC
  lia
 exact⟨fun vs H Q E h=>absurd h (no vs H Q E),fun A outer s H args us vs Q E _ _ _ _ h=>absurd h (no vs H Q E)⟩
def Ke {K:V3}{H H':Hp}{a:Addr}{xs:FH}(e:aN H H')(h:SqL K H a xs):SqL K H' a xs:=e.seq h
def gW {d:Nat} (F:Fun K "_law_renamed" "_law_renamed" jb f fd) (B:Bt mg)
  (Se:Df P w K mg base "_law_renamed" d WS (Dq K d)):bH P w K mg base CX0 (d+1) f fd WS (Dq K (d+1)):=by
 refine okA F sW fun _ _ _ _ H _ Q E hr h=>?_
 obtain⟨v,row,m,n,t,rs,rfl,rt,hd,hR,hm,nd,hv,q⟩:=h
 refine⟨_,(au (aW (aH bj (pxT K (pv 0) aq) aL) (az (aD (aZ (aa aL (aa (pxL K (pv 1) (pxT K (pv 0) aq)) (aa (pxT K (pv 0) aq) ao)))))) aC)
 (au (aW (fU (r:=rIn K false) dY (pxT K (pv 0) aq) (aZ (aa aL (aa aL ao))) U) (az (aD (aR (r:=iB K) gM (aZ (aa (pxT K (pv 0) aq) (aa (bh (r:=fY K) bK U B.tuple_ bQ (aa (aF (r:=M9 K) Es U B.sorted_ (by decide+kernel) (aa (cz (L:=ZN) (F:=["_law_row"]) (cap:=[1]) U (bF U U (by kernel_rfl)) (dq (pxT K (pv 0) aq)) (fun _ _ _ _ _=>(aJ (i:=0) (bw (by decide+kernel)) U (VF U))) (fun _ _ _ _ _=>cQ) (fun _ _ _ _ _=>(pxL K (pv 1) (pv 0)))) ao)) ao)) ao))) (fM (r:=KJ K) Ba (pv 0) (iw aq) jj)))) aC)
 (au (aW (fU (r:=rIn K false) dY (pxT K (pv 0) aq) (aZ (aa aL (aa aL ao))) U) (az (aD (aZ (aa (pxT K (pv 0) aq) (aa (bh (r:=fY K) bK U B.tuple_ bQ (aa (cz (L:=["_law_part"]) (F:=["_law_row"]) (cap:=[1]) U (bF U U (by kernel_rfl)) (dq (pxT K (pv 0) aq)) (fun _ _ _ _ _=>(aJ (i:=0) (bw (by decide+kernel)) U (VF U))) (fun _ _ _ _ _=>cQ) (fun _ _ _ _ _=>(aY Se hr (aa (pv 0) (aa (pv 1) ao))))) ao)) ao))))) aC)
 (az (aD (pv 0)))))),?_⟩
 cases rt with
 | @free a ha =>
  refine⟨_,U,a,_,_,_,U,U,sqT ha,gt0,U,_,U,bu bz ?_⟩
  refine⟨_,U,a,_,_,_,U,U,sqT ha,gt0,smN 2,fun p1 h1=>⟨p1,_,U,.inr (sqT aj),U,U,_,U,j8 (by decide+kernel) ?_⟩⟩
  generalize eH1:upd H p1 _=H1
  obtain⟨g1,_⟩:=aK eH1 h1
  refine⟨_,U,a,_,_,_,U,U,sqT (g1 _ _ ha),gt0,smN 2,fun p2 h2=>⟨p2,_,U,.inr (sqT aj),U,U,_,U,j8 (by decide+kernel) ?_⟩⟩
  generalize eH2:upd H1 p2 _=H2
  obtain⟨g2,_⟩:=aK eH2 h2
  refine⟨_,U,?_⟩
  have q':=q (.ref a) H2 (g1.trans g2) (by rw[ren];exact .free (g2 _ _ (g1 _ _ ha)))
  exact q'
 | @never a ha =>
  refine⟨_,U,a,_,_,_,U,U,sqT ha,gt0,U,_,U,bu bz ?_⟩
  refine⟨_,U,a,_,_,_,U,U,sqT ha,gt0,smN 2,fun p1 h1=>⟨p1,_,U,.inr (sqT aj),U,U,_,U,j8 (by decide+kernel) ?_⟩⟩
  generalize eH1:upd H p1 _=H1
  obtain⟨g1,_⟩:=aK eH1 h1
  refine⟨_,U,a,_,_,_,U,U,sqT (g1 _ _ ha),gt0,smN 2,fun p2 h2=>⟨p2,_,U,.inr (sqT aj),U,U,_,U,j8 (by decide+kernel) ?_⟩⟩
  generalize eH2:upd H1 p2 _=H2
  obtain⟨g2,_⟩:=aK eH2 h2
  refine⟨_,U,?_⟩
  have q':=q (.ref a) H2 (g1.trans g2) (by rw[ren];exact .never (g2 _ _ (g1 _ _ ha)))
  exact q'
 | @gives a i k ha hi k1 k9 =>
  refine⟨_,U,a,_,_,_,U,U,sqT ha,gt0,U,_,U,gR U ?_⟩
  refine⟨_,U,_,U,a,_,_,_,U,U,sqT ha,gt1,row,_,_,_,U,U,hR,Iu (by lia),_,U,a,_,_,_,U,U,sqT ha,gt2,smN 3,fun p1 h1=>?_⟩
  refine q (.ref p1) _ (aA h1 _) ?_
  rw[ren]
  exact .gives aj (hv _ (Bk (by lia))) k1 k9
 | @sum a b c k ha hb hc hp l20 l2 k1 k99 =>
  obtain⟨x1,x2,x3⟩:=vY nd hm hv hc hp
  refine⟨_,U,a,_,_,_,U,U,sqT ha,gt0,U,_,U,bu bz ?_⟩
  refine⟨_,U,a,_,_,_,U,U,sqT ha,gt0,smN 2,fun p1 h1=>⟨p1,_,U,.inr (sqT aj),U,U,_,U,JR (by decide+kernel) ?_⟩⟩
  generalize eH1:upd H p1 _=H1
  obtain⟨g1,_⟩:=aK eH1 h1
  refine⟨_,U,a,_,_,_,U,U,sqT (g1 _ _ ha),gt0,?_⟩
  refine⟨_,U,a,_,_,_,U,U,sqT (g1 _ _ ha),gt1,b,U,⟨_,sqT (g1 _ _ hb)⟩,fun D hD=>cX (K:=K) (a:=b) (xs:=c.map vN) (fun i zs σ' H2=>(∃ u,σ'=[u,oR row])/\zs=((c.take i).map (pN rs)).map vN/\aN H1 H2/\H2 D=some (.lst zs))
   ⟨⟨_,U⟩,U,aA hD _,aj⟩ (fun i zs σ' H2 _ h=>⟨sqT (h.2.2.1 _ _ (g1 _ _ hb)),h.2.2.2⟩) ?_ ?_⟩
  ·rintro j zs x σ' H2 hx ⟨⟨u,rfl⟩,e1,sm,hDl⟩
   obtain⟨i,hi,rfl⟩:=uG hx
   have him:=hc i (Wd hi)
   refine gT ?_
   refine⟨_,U,_,U,row,_,_,_,U,U,Ke (g1.trans sm) hR,Iu (by lia),hDl,?_,⟨_,U⟩,?_,aV sm hD _,aj⟩
   ·rw[e1,Vs,Vs,V0]
    exact aQ (by lia)
   ·rw[e1,take_snoc (pN rs) hi,VD]
    rfl
  ·rintro zs σ' H2 ⟨_,e1,sm,hDl⟩
   rw[Vs,VJ] at e1
   refine⟨D,(c.map (pN rs)).map fun i:Nat=>(i:Int),U,sqL (by rw[hDl,e1,gY]),by rw[Vs,Vs];lia,fun ms pm so l hl=>?_⟩
   rw[yP pm so,← gY]
   generalize eH3:upd H2 l _=H3
   obtain⟨g3,e3⟩:=aK eH3 hl
   refine⟨l,_,U,.inl ⟨sqL e3,fun p4 h4=>?_⟩⟩
   generalize eH4:upd H3 p4 _=H4
   obtain⟨g4,e4⟩:=aK eH4 h4
   refine⟨smN 2,fun p5 h5=>?_⟩
   generalize eH5:upd H4 p5 _=H5
   obtain⟨g5,e5⟩:=aK eH5 h5
   have s5:aN H H5:=g1.trans (sm.trans (g3.trans (g4.trans g5)))
   refine⟨_,U,_,U,a,_,U,sqT (s5 _ _ ha),(by show ¬ (HT.sIx 3 0 (some 2)=0/\HT.sIx 3 3 none=3);decide),fun p6 h6=>?_⟩
   have ec:pZ [V.str "sum",.ref b,.int k] (some 2) none=[.int k]:=rfl
   rw[ec]
   generalize eH6:upd H5 p6 _=H6
   obtain⟨g6,e6⟩:=aK eH6 h6
   refine⟨p5,p6,_,_,U,U,sqT (g6 _ _ e5),sqT e6,smN 3,fun z=>(by cases z),fun _ z=>(by cases z),fun _ _ p7 h7=>?_⟩
   refine q (.ref p7) _ (s5.trans (g6.trans (aA h7 _))) ?_
   rw[ren]
   exact .sum aj (aA h7 _ _ _ (g6 _ _ (g5 _ _ e4))) x1 x2 (by lia) (by lia) k1 k99
 | @crowd a b c k mm ha hb hc hp l20 l1 k1 k9 m1 m12 =>
  obtain⟨x1,x2,x3⟩:=vY nd hm hv hc hp
  refine⟨_,U,a,_,_,_,U,U,sqT ha,gt0,U,_,U,bu bz ?_⟩
  refine⟨_,U,a,_,_,_,U,U,sqT ha,gt0,smN 2,fun p1 h1=>⟨p1,_,U,.inr (sqT aj),U,U,_,U,JR (by decide+kernel) ?_⟩⟩
  generalize eH1:upd H p1 _=H1
  obtain⟨g1,_⟩:=aK eH1 h1
  refine⟨_,U,a,_,_,_,U,U,sqT (g1 _ _ ha),gt0,?_⟩
  refine⟨_,U,a,_,_,_,U,U,sqT (g1 _ _ ha),gt1,b,U,⟨_,sqT (g1 _ _ hb)⟩,fun D hD=>cX (K:=K) (a:=b) (xs:=c.map vN) (fun i zs σ' H2=>(∃ u,σ'=[u,oR row])/\zs=((c.take i).map (pN rs)).map vN/\aN H1 H2/\H2 D=some (.lst zs))
   ⟨⟨_,U⟩,U,aA hD _,aj⟩ (fun i zs σ' H2 _ h=>⟨sqT (h.2.2.1 _ _ (g1 _ _ hb)),h.2.2.2⟩) ?_ ?_⟩
  ·rintro j zs x σ' H2 hx ⟨⟨u,rfl⟩,e1,sm,hDl⟩
   obtain⟨i,hi,rfl⟩:=uG hx
   have him:=hc i (Wd hi)
   refine gT ?_
   refine⟨_,U,_,U,row,_,_,_,U,U,Ke (g1.trans sm) hR,Iu (by lia),hDl,?_,⟨_,U⟩,?_,aV sm hD _,aj⟩
   ·rw[e1,Vs,Vs,V0]
    exact aQ (by lia)
   ·rw[e1,take_snoc (pN rs) hi,VD]
    rfl
  ·rintro zs σ' H2 ⟨_,e1,sm,hDl⟩
   rw[Vs,VJ] at e1
   refine⟨D,(c.map (pN rs)).map fun i:Nat=>(i:Int),U,sqL (by rw[hDl,e1,gY]),by rw[Vs,Vs];lia,fun ms pm so l hl=>?_⟩
   rw[yP pm so,← gY]
   generalize eH3:upd H2 l _=H3
   obtain⟨g3,e3⟩:=aK eH3 hl
   refine⟨l,_,U,.inl ⟨sqL e3,fun p4 h4=>?_⟩⟩
   generalize eH4:upd H3 p4 _=H4
   obtain⟨g4,e4⟩:=aK eH4 h4
   refine⟨smN 2,fun p5 h5=>?_⟩
   generalize eH5:upd H4 p5 _=H5
   obtain⟨g5,e5⟩:=aK eH5 h5
   have s5:aN H H5:=g1.trans (sm.trans (g3.trans (g4.trans g5)))
   refine⟨_,U,_,U,a,_,U,sqT (s5 _ _ ha),(by show ¬ (HT.sIx 4 0 (some 2)=0/\HT.sIx 4 4 none=4);decide),fun p6 h6=>?_⟩
   have ec:pZ [V.str "crowd",.ref b,.int k,.int mm] (some 2) none=[.int k,.int mm]:=rfl
   rw[ec]
   generalize eH6:upd H5 p6 _=H6
   obtain⟨g6,e6⟩:=aK eH6 h6
   refine⟨p5,p6,_,_,U,U,sqT (g6 _ _ e5),sqT e6,smN 4,fun z=>(by cases z),fun _ z=>(by cases z),fun _ _ p7 h7=>?_⟩
   refine q (.ref p7) _ (s5.trans (g6.trans (aA h7 _))) ?_
   rw[ren]
   exact .crowd aj (aA h7 _ _ _ (g6 _ _ (g5 _ _ e4))) x1 x2 (by lia) (by lia) k1 k9 m1 m12
 | @all a b us ts ha hb l2 l6 rl =>
  have hdl:tdL ts<=d:=by rw[Tm.dep] at hd;lia
  have el:=rl.length
  refine⟨_,U,a,_,_,_,U,U,sqT ha,gt0,U,_,U,bu bz ?_⟩
  refine⟨_,U,a,_,_,_,U,U,sqT ha,gt0,smN 2,fun p1 h1=>⟨p1,_,U,.inr (sqT aj),U,U,_,U,j8 (by decide+kernel) ?_⟩⟩
  generalize eH1:upd H p1 _=H1
  obtain⟨g1,_⟩:=aK eH1 h1
  refine⟨_,U,a,_,_,_,U,U,sqT (g1 _ _ ha),gt0,smN 2,fun p2 h2=>⟨p2,_,U,.inr (sqT aj),U,U,_,U,JR (by decide+kernel) ?_⟩⟩
  generalize eH2:upd H1 p2 _=H2
  obtain⟨g2,_⟩:=aK eH2 h2
  have s2:aN H H2:=g1.trans g2
  refine⟨_,U,a,_,_,_,U,U,sqT (s2 _ _ ha),gt0,?_⟩
  refine⟨_,U,a,_,_,_,U,U,sqT (s2 _ _ ha),gt1,b,U,⟨_,sqT (s2 _ _ hb)⟩,fun D hD=>cX (K:=K) (a:=b) (xs:=us) (fun i zs σ' H3=>(∃ u,σ'=[u,oR row])/\zs.length=i/\aN H2 H3/\H3 D=some (.lst zs)/\cu n H3 zs (Eb (pN rs) (ts.take i)))
   ⟨⟨_,U⟩,U,aA hD _,aj,by rw[Ws,Eb];exact .nil⟩ (fun i zs σ' H3 _ h=>⟨sqT (h.2.2.1 _ _ (s2 _ _ hb)),h.2.2.2.1⟩) ?_ ?_⟩
  ·rintro j zs x σ' H3 hx ⟨⟨u,rfl⟩,lz,sm,hDl,rz⟩
   obtain⟨t,ht,rt⟩:=rl.get hx
   have hj:=(geS hx).1
   refine gT ?_
   refine⟨_,U,_,U,x,row,m,n,t,rs,U,rt.mono (s2.trans sm),Wf (gU ht) hdl,Ke (s2.trans sm) hR,hm,nd,hv,fun v' H4 s4 r4=>?_⟩
   have s7:=cR (zs':=zs++[v']) (s4 _ _ hDl)
   refine⟨s4 _ _ hDl,aQ (by lia),⟨_,U⟩,by rw[VH,lz];rfl,aV (sm.trans s4) hD _,aj,?_⟩
   rw[m8,take_snoc (ren (pN rs)) ht,← m8]
   exact ((rz.mono s4).aO s7).snoc (r4.aO s7)
  ·rintro zs σ' H3 ⟨_,lz,sm,hDl,rz⟩
   rw[el,VJ] at rz
   refine⟨D,_,U,.inl ⟨sqL hDl,fun p4 h4=>?_⟩⟩
   generalize eH4:upd H3 p4 _=H4
   obtain⟨g4,e4⟩:=aK eH4 h4
   refine⟨smN 2,fun p5 h5=>?_⟩
   refine q (.ref p5) _ (s2.trans (sm.trans (g4.trans (aA h5 _)))) ?_
   rw[ren]
   exact .all aj (aA h5 _ _ _ e4) (by lia) (by lia) (rz.mono (g4.trans (aA h5 _)))
 | @any a b us ts ha hb l2 l6 rl =>
  have hdl:tdL ts<=d:=by rw[Tm.dep] at hd;lia
  have el:=rl.length
  refine⟨_,U,a,_,_,_,U,U,sqT ha,gt0,U,_,U,bu bz ?_⟩
  refine⟨_,U,a,_,_,_,U,U,sqT ha,gt0,smN 2,fun p1 h1=>⟨p1,_,U,.inr (sqT aj),U,U,_,U,j8 (by decide+kernel) ?_⟩⟩
  generalize eH1:upd H p1 _=H1
  obtain⟨g1,_⟩:=aK eH1 h1
  refine⟨_,U,a,_,_,_,U,U,sqT (g1 _ _ ha),gt0,smN 2,fun p2 h2=>⟨p2,_,U,.inr (sqT aj),U,U,_,U,JR (by decide+kernel) ?_⟩⟩
  generalize eH2:upd H1 p2 _=H2
  obtain⟨g2,_⟩:=aK eH2 h2
  have s2:aN H H2:=g1.trans g2
  refine⟨_,U,a,_,_,_,U,U,sqT (s2 _ _ ha),gt0,?_⟩
  refine⟨_,U,a,_,_,_,U,U,sqT (s2 _ _ ha),gt1,b,U,⟨_,sqT (s2 _ _ hb)⟩,fun D hD=>cX (K:=K) (a:=b) (xs:=us) (fun i zs σ' H3=>(∃ u,σ'=[u,oR row])/\zs.length=i/\aN H2 H3/\H3 D=some (.lst zs)/\cu n H3 zs (Eb (pN rs) (ts.take i)))
   ⟨⟨_,U⟩,U,aA hD _,aj,by rw[Ws,Eb];exact .nil⟩ (fun i zs σ' H3 _ h=>⟨sqT (h.2.2.1 _ _ (s2 _ _ hb)),h.2.2.2.1⟩) ?_ ?_⟩
  ·rintro j zs x σ' H3 hx ⟨⟨u,rfl⟩,lz,sm,hDl,rz⟩
   obtain⟨t,ht,rt⟩:=rl.get hx
   have hj:=(geS hx).1
   refine gT ?_
   refine⟨_,U,_,U,x,row,m,n,t,rs,U,rt.mono (s2.trans sm),Wf (gU ht) hdl,Ke (s2.trans sm) hR,hm,nd,hv,fun v' H4 s4 r4=>?_⟩
   have s7:=cR (zs':=zs++[v']) (s4 _ _ hDl)
   refine⟨s4 _ _ hDl,aQ (by lia),⟨_,U⟩,by rw[VH,lz];rfl,aV (sm.trans s4) hD _,aj,?_⟩
   rw[m8,take_snoc (ren (pN rs)) ht,← m8]
   exact ((rz.mono s4).aO s7).snoc (r4.aO s7)
  ·rintro zs σ' H3 ⟨_,lz,sm,hDl,rz⟩
   rw[el,VJ] at rz
   refine⟨D,_,U,.inl ⟨sqL hDl,fun p4 h4=>?_⟩⟩
   generalize eH4:upd H3 p4 _=H4
   obtain⟨g4,e4⟩:=aK eH4 h4
   refine⟨smN 2,fun p5 h5=>?_⟩
   refine q (.ref p5) _ (s2.trans (sm.trans (g4.trans (aA h5 _)))) ?_
   rw[ren]
   exact .any aj (aA h5 _ _ _ e4) (by lia) (by lia) (rz.mono (g4.trans (aA h5 _)))
def shN (one k:Nat):Nat:=k+if one<=k then 1 else 0
def shR (one m:Nat):D7:=(Xb m).map (shN one)
def Hf (one m:Nat):(shR one m).Nodup:=by
 unfold shR
 show ((Xb m).map (shN one)).Pairwise (·≠·)
 rw[Ze]
 refine List.pairwise_lt_range.imp fun {a b} h=>?_
 unfold shN
 split <;> split <;> lia
def Rz {one m:Nat}:∀ x∈shR one m,x < m+1:=fun x hx=>by
 unfold shR at hx
 obtain⟨k,hk,rfl⟩:=List.mem_map.mp hx
 have:=List.mem_range.mp hk
 unfold shN
 split <;> lia
abbrev oA:Stmt:=top 61
def zB:aG VX VX (aB oA):=c7
inductive Gw (vs:FH)(H:Hp)(Q:VK):Prop where
 | mk (c:Int) (n one:Nat) (deep:Int) (mo:Nat) (z0:vs=[.int c,.int (n:Int),.int (one:Int),.int deep,.int (mo:Int)]) (z1:1<=n) (z2:n<=12) (z3:one < n) (z4:1<=deep) (z5:deep<=3) (z6:1<=mo) (z7:mo<=9) (z8:∀ (v:V) (t:Tm) (H':Hp),aN H H'->gZ n H' v t->t.dep<=3->Q v H'):Gw  vs H Q
def LQ:Sp:=fun vs H Q _=>Gw  vs H Q
def z9 (F:Fun K "_law_mine" "_law_mine" oA f fd) (B:Bt mg)
  (So:Df P w K mg base "_law_term" 4 VY (tR 3)) (Se:Df P w K mg base "_law_renamed" 3 WS (Dq K 3)):bH P w K mg base CX0 5 f fd VX LQ:=by
 refine okA F zB fun _ _ _ _ H _ Q E hr h=>?_
 obtain⟨c,n,one,deep,mo,rfl,n1,n12,hone,de1,de3,m1,m9,q⟩:=h
 refine⟨_,(au (aW (aH bj (pv 1) aq) (az (aD (aZ (aa (pxL K (bA (aa aL (aa aL (aa aL ao)))) (aR cA (pv 0) aq)) ao)))) aC)
 (az (aD (aY Se hr (aa (aY So hr (aa (pv 0) (aa (aR fc (pv 1) aq) (aa (pv 3) (aa (pv 4) ao))))) (aa (cz (L:=["_law_k"]) (F:=ZN) (cap:=[2]) U (bF U U (by kernel_rfl)) (bW U B.range_ (aa (aR fc (pv 1) aq) ao)) (fun _ _ _ _ _=>(aJ (i:=0) (bw (by decide+kernel)) U (VF U))) (fun _ _ _ _ _=>cQ) (fun _ _ _ _ _=>(aR bR (pv 0) (bh (r:=Pn) qu U B.int_ t8 (aa (cY lJ (pv 0) (pv 1)) ao))))) ao)))))),?_⟩
 refine⟨_,U,U,_,U,?_⟩
 refine jE (fun c1=>?_) (fun c1=>?_)
 ·have en:n=1:=by
   have:=of_decide_eq_true c1
   cases n with
   | zero=>lia
   | succ n=>injection this with z;lia
  subst en
  refine⟨smN 3,fun p7 h7=>?_⟩
  generalize eH7:upd H p7 _=H7
  obtain⟨g7,e7⟩:=aK eH7 h7
  have fin:∀ p8 (x:Wb),H7 p8=none->(x = "free"∨x = "never")->Q (.ref p8) (upd H7 p8 (.tup [.str x])):=fun p8 x h8 hx=>by
   rcases hx with rfl | rfl
   ·exact q (.ref p8) .free _ (g7.trans (aA h8 _)) (.free aj) (by decide)
   ·exact q (.ref p8) .never _ (g7.trans (aA h8 _)) (.never aj) (by decide)
  refine⟨_,U,_,_,U,U,(by show (0:Int) < 3;decide),?_⟩
  have u1:0<=c % 3:=Wt _ (by lia)
  have u2:c % 3 < 3:=Wl _ (by lia)
  rcases (show c % 3=0∨c % 3=1∨c % 3=2 by lia) with z | z | z
  ·exact⟨p7,_,_,_,U,U,sqL e7,by rw[z];rfl,smN 1,fun p8 h8=>fin p8 _ h8 (.inl U)⟩
  ·exact⟨p7,_,_,_,U,U,sqL e7,by rw[z];rfl,smN 1,fun p8 h8=>fin p8 _ h8 (.inr U)⟩
  ·exact⟨p7,_,_,_,U,U,sqL e7,by rw[z];rfl,smN 1,fun p8 h8=>fin p8 _ h8 (.inl U)⟩
 ·have en:n≠1:=fun z=>c1 (dcT (by rw[z];rfl))
  obtain⟨m,rfl⟩:∃ m,n=m+1:=⟨n - 1,by lia⟩
  have em:((m+1:Nat):Int) - 1=(m:Int):=by lia
  have et:(((m+1:Nat):Int) - 1).toNat=m:=by lia
  refine⟨_,U,_,U,_,_,U,U,_,U,_,U,c,m,deep,(mo:Int),(by show[V.int c,V.int (((m+1:Nat):Int) - 1),V.int deep,V.int (mo:Int)]=_;rw[em]),by lia,by lia,de1,by lia,by lia,by lia,fun v t H1 s1 rt td=>?_⟩
  refine⟨_,U,_,_,U,U,_,U,by lia,by lia,fun D hD=>cT (lo:=0) (n:=(((m+1:Nat):Int) - 1).toNat) (fun i zs σ' H2=>(∃ u,σ'=[u,some (.int (one:Int))])/\zs=((Xb i).map (shN one)).map vN/\aN H1 H2/\H2 D=some (.lst zs))
   ⟨⟨_,U⟩,U,aA hD _,aj⟩ (fun i zs σ' H2 _ h=>h.2.2.2) ?_ ?_⟩
  ·rintro i zs σ' H2 hi ⟨⟨u,rfl⟩,e1,sm,hDl⟩
   refine gT ?_
   refine⟨_,U,_,U,_,U,_,_,U,U,.inr ⟨_,U,_,_,U,U,hDl,?_,⟨_,U⟩,?_,aV sm hD _,aj⟩⟩
   ·rw[e1,Vs,Vs,XD]
    exact aQ (by lia)
   ·rw[e1,abb,VD,VD]
    congr 1
    show[V.int (0+(i:Int)+_)]=[V.int ((shN one i:Nat):Int)]
    congr 2
    unfold shN
    by_cases hc:one<=i
    ·rw[dcT (by lia),iPo hc]
     simp
    ·rw[dcF (by lia),iNe hc]
     simp
  ·rintro zs σ' H2 ⟨_,e1,sm,hDl⟩
   rw[et] at e1
   refine⟨v,D,m,m+1,t,shR one m,U,rt.mono sm,by lia,sqL (by rw[hDl,e1];rfl),by unfold shR;rw[Vs,XD];lia,Hf one m,Rz,fun v' H3 s3 r3=>?_⟩
   exact q v' _ H3 (s1.trans (sm.trans s3)) r3 (by rw[Gk];lia)
theorem Hs {x:Int}:∀ (ns acc:D6),x∈ns.foldl Xh acc ↔ x∈acc∨x∈ns
 | [],acc=>by simp
 | n::r,acc=>by
  rw[Yy,Hs r _]
  unfold Xh
  split
  ·rename_i h
   obtain⟨y,hy,ey⟩:=List.any_eq_true.mp h
   have e:=eq_of_beq ey
   constructor
   ·rintro (h | h)
    ·exact .inl h
    ·exact .inr (VR _ h)
   ·rintro (h | h)
    ·exact .inl h
    ·rcases List.mem_cons.mp h with rfl | h
     ·exact .inl (by rw[← e];exact hy)
     ·exact .inr h
  ·constructor
   ·rintro (h | h)
    ·rcases List.mem_append.mp h with h | h
     ·exact .inl h
     ·exact .inr (by rw[List.mem_singleton.mp h];exact VP)
    ·exact .inr (VR _ h)
   ·rintro (h | h)
    ·exact .inl (aai _ h)
    ·rcases List.mem_cons.mp h with rfl | h
     ·exact .inl (Wj _ VP)
     ·exact .inr h
def okS (ms:D6):Prop:=ms≠[]/\ms.length<=9/\ms.Pairwise (· < ·)/\∀ x∈ms,1<=x/\x<=9
def QK {ns ms:D6}(p:ms.Perm (ddI ns))(so:ms.Pairwise (·<=·))(h0:ns≠[])(h9:ns.length<=9)(hb:∀ x∈ns,1<=x/\x<=9):okS ms:=by
 rw[Dh] at p
 have mem:∀ x,x∈ms ↔ x∈ns:=fun x=>by rw[p.mem_iff,Hs];simp
 refine⟨fun z=>?_,?_,?_,fun x hx=>hb x ((mem x).mp hx)⟩
 ·cases ns with
  | nil=>exact h0 U
  | cons a r =>
   have:=(mem a).mpr VP
   rw[z] at this
   cases this
 ·have:=Gz ns []
  rw[p.length_eq]
  simp at this
  lia
 ·have nd:ms.Nodup:=p.nodup_iff.mpr (uC ns [] (by simp))
  exact (so.and nd).imp fun h=>by lia
def Jh {ms:D6}(h:okS ms){p:Pl}(e:p.map (·.1)=ms)(hd:∀ x∈p,x.2.dep<=4):okP p:=by
 refine⟨fun z=>?_,?_,by rw[e];exact h.2.2.1,fun x hx=>?_⟩
 ·subst z
  exact h.1 e.symm
 ·have:=congrArg abo e
  rw[Vs] at this
  have:=h.2.1
  lia
 ·have hm:x.1∈ms:=by rw[← e];exact List.mem_map.mpr ⟨x,hx,U⟩
  exact⟨(h.2.2.2 _ hm).1,(h.2.2.2 _ hm).2,hd x hx⟩
abbrev jM:Stmt:=top 62
def cj:aG ["_law_cell","_law_n","_law_one","_law_deep","_law_most","_law_drawn","_law_steps","_law_other_one","_law_found","_law_k","_law_step"] VX (aB jM):=c7
inductive v7 (vs:FH)(H:Hp)(Q:VK):Prop where
 | mk (c:Int) (n one:Nat) (deep:Int) (mo:Nat) (z0:vs=[.int c,.int (n:Int),.int (one:Int),.int deep,.int (mo:Int)]) (z1:1<=n) (z2:n<=12) (z3:one < n) (z4:1<=deep) (z5:deep<=3) (z6:1<=mo) (z7:mo<=9) (z8:∀ (a:Addr) (p:Pl) (H':Hp),aN H H'->kE n H' a p->Q (.ref a) H'):v7  vs H Q
def Bu:Sp:=fun vs H Q _=>v7  vs H Q
def uI (F:Fun K "_law_pledge" "_law_pledge" jM f fd) (B:Bt mg)
  (Rs:Df P w K mg base "_law_draws" 1 WZ (oH K)) (Sr:Df P w K mg base "_law_under" 1 X1 uL) (QY:Df P w K mg base "_law_crowd" 1 XV zf)
  (RR:Df P w K mg base "_law_mine" 5 VX LQ):bH P w K mg base CX0 6 f fd VX Bu:=by
 refine okA F cj fun _ _ _ _ H _ Q E hr h=>?_
 obtain⟨c,n,one,deep,mo,rfl,n1,n12,hone,de1,de3,m1,m9,q⟩:=h
 refine⟨_,(au (aP (i:=5) cj.nd U (aaC U) (aY Rs hr (aa (pv 0) (aa (bA (aa aq (aa aq (aa aq (aa aq (aa aq (aa aq ao))))))) ao))))
 (au (aP (i:=6) cj.nd U (VF U) (o4 U U B.sorted_ U B.set_ (aa (cz (L:=["_law_k"]) (F:=["_law_most","_law_drawn"]) (cap:=[4,5]) U (bF U U (by kernel_rfl)) (bW U B.range_ (aa (aR bR aq (aR cA (pxL K (pv 5) aq) aq)) ao)) (fun _ _ _ _ _=>(aJ (i:=0) (bw (by decide+kernel)) U (VF U))) (fun _ _ _ _ _=>cQ) (fun _ _ _ _ _=>(aR bR aq (aR cA (pxL K (pv 2) (aR bR aq (pv 0))) (pv 1))))) ao)))
 (au (aW (aH bj (pxL K (pv 5) aq) aq) (au (lX (L:=["_law_step"]) (F:=[]) (cap:=[]) (j:=6) cj.nd U (VF U) U (bF U U (by kernel_rfl)) (dq (aY QY hr (aa (pxL K (pv 5) aq) (aa (pv 4) ao)))) (fun _ _ _ _ _=>(aJ (i:=0) (bw (by decide+kernel)) U (VF U))) (fun _ _ _ _ _=>cQ) (fun _ _ _ _ _=>(aR bR aq (pv 0))))
 (az (aW (aH (r:=Tf K) (Mj hr.o9) (pv 6) (bA ao)) (az (aP (i:=6) cj.nd U (VF U) (bA (aa (pv 4) ao)))) aC))) aC)
 (au (aW (PW.pt (kO (aH bj (pxL K (pv 5) aq) aq) (gP (aH lC (pv 1) aq)))) (az (aD (bh (r:=fY K) bK U B.tuple_ bQ (aa (cz (L:=["_law_step"]) (F:=["_law_n","_law_one"]) (cap:=[1,2]) U (bF U U (by kernel_rfl)) (dC (pv 6)) (fun _ _ _ _ _=>(aJ (i:=0) (bw (by decide+kernel)) U (VF U))) (fun _ _ _ _ _=>cQ) (fun _ _ _ _ _=>(aZ (aa (pv 0) (aa (aZ (aa aL (aa (aR cA (aR bR (pv 2) aq) (pv 1)) (aa (pv 0) ao)))) ao))))) ao)))) aC)
 (au (aW (PW.pt (kO (aH bj (pxL K (pv 5) aq) aq) (gP (aH lC (pv 1) aq)))) (au (aP (i:=7) cj.nd U (aaC U) (aR cA (aR bR (aR bR (pv 2) aq) (aR cA (pxL K (pv 5) aq) (aR fc (pv 1) aq))) (pv 1)))
 (az (aD (bh (r:=fY K) bK U B.tuple_ bQ (aa (cz (L:=["_law_step"]) (F:=["_law_other_one"]) (cap:=[7]) U (bF U U (by kernel_rfl)) (dC (pv 6)) (fun _ _ _ _ _=>(aJ (i:=0) (bw (by decide+kernel)) U (VF U))) (fun _ _ _ _ _=>cQ) (fun _ _ _ _ _=>(aZ (aa (pv 0) (aa (aZ (aa aL (aa (pv 1) (aa (aF (rJ U) U B.max_ tX (aa aq (aa (aR fc (pv 0) aq) ao))) ao)))) ao))))) ao))))) aC)
 (au (aP (i:=8) cj.nd U (VF U) (bA ao))
 (au (cV Wq U (Om U B.enumerate_ (aa (pv 6) ao)) (d8 (K:=K) 2 U U (bf (aJ (i:=9) cj.nd U (VF U)) (bf (aJ (i:=10) cj.nd U (VF U)) eG))) (az (bD (tu W7 Xg Xf du (pv 8) (aa (aZ (aa (pv 10) (aa (aY RR hr (aa (aY Sr hr (aa (pv 0) (aa (pv 9) ao))) (aa (pv 1) (aa (pv 2) (aa (pv 3) (aa (pv 4) ao)))))) ao))) ao)))))
 (az (aD (bh (r:=fY K) bK U B.tuple_ bQ (aa (pv 8) ao))))))))))),?_⟩
 refine⟨_,U,smN 6,fun p1 h1=>?_⟩
 generalize eH1:upd H p1 _=H1
 obtain⟨g1,e1⟩:=aK eH1 h1
 refine⟨c,p1,[7,9,9,9,12,512],U,sqL e1,by decide,by decide,fun p2 h2=>?_⟩
 generalize eH2:upd H1 p2 _=H2
 obtain⟨g2,e2⟩:=aK eH2 h2
 have hps:∀ q∈([7,9,9,9,12,512]:D6),0 < q:=by decide
 obtain⟨d0,k0,b0⟩:=dj (c:=qY c) (i:=0) hps U
 obtain⟨d1,k1,b1⟩:=dj (c:=qY c) (i:=1) hps U
 obtain⟨d2,k2,b2⟩:=dj (c:=qY c) (i:=2) hps U
 obtain⟨d3,k3,b3⟩:=dj (c:=qY c) (i:=3) hps U
 obtain⟨d4,k4,b4⟩:=dj (c:=qY c) (i:=4) hps U
 obtain⟨d5,k5,b5⟩:=dj (c:=qY c) (i:=5) hps U
 have a0:=dD (jq k0)
 have a4:=dD (jq k4)
 have a5:=dD (jq k5)
 have kk:∀ k:Nat,k < 3->∃ d,(yL (qY c) [7,9,9,9,12,512])[1+k]? = some d:=fun k hk=>by
  match k,hk with
  | 0,_=>exact⟨_,k1⟩
  | 1,_=>exact⟨_,k2⟩
  | 2,_=>exact⟨_,k3⟩
 change _=some (HO.lst ((yL (qY c) [7,9,9,9,12,512]).map V.int)) at e2
 generalize yL (qY c) [7,9,9,9,12,512]=ds at *
 have gH:aN H H2:=g1.trans g2
 have u1:0<=d0 % 3:=Wt _ (by lia)
 have u2:d0 % 3 < 3:=Wl _ (by lia)
 refine⟨_,U,p2,_,_,_,U,U,sqL e2,a0,_,_,U,U,(by show (0:Int) < 3;decide),_,_,U,U,_,U,by lia,by lia,fun D hD=>cT (lo:=0) (n:=(1+d0 % 3).toNat)
  (fun i zs σ' H3=>(∃ u,σ'=[u,some (.int (mo:Int)),oR p2])/\aN H2 H3/\H3 D=some (.lst zs)/\∃ ns:D6,zs=ns.map V.int/\ns.length=i/\∀ x∈ns,1<=x/\x<=9)
  ⟨⟨_,U⟩,aA hD _,aj,[],U,U,by simp⟩ (fun i zs σ' H3 _ h=>h.2.2.1) ?_ ?_⟩
 ·rintro i zs σ' H3 hi ⟨⟨u,rfl⟩,s3,eD,ns,e3,ln,hb⟩
  obtain⟨dk,hk⟩:=kk i (by lia)
  have ak:atI (ds.map V.int) (1+(0+(i:Int)))=some (.int dk):=by
   rw[show (1:Int)+(0+(i:Int))=((1+i:Nat):Int) by lia]
   exact dD (jq hk)
  have v1:0<=dk % (mo:Int):=Wt _ (by lia)
  have v2:dk % (mo:Int) < (mo:Int):=Wl _ (by lia)
  refine gT ?_
  refine⟨_,U,_,U,_,_,U,U,p2,_,_,_,U,U,sqL (s3 _ _ e2),ak,_,U,_,_,U,U,(by show (0:Int) < (mo:Int);lia),_,_,U,U,eD,?_,⟨_,U⟩,aV s3 hD _,aj,ns++[1+dk % (mo:Int)],?_,?_,?_⟩
  ·rw[e3,Vs]
   exact aQ (by lia)
  ·rw[e3,VD]
   rfl
  ·rw[VH,ln]
   rfl
  ·intro x hx
   rcases List.mem_append.mp hx with h | h
   ·exact hb x h
   ·rw[List.mem_singleton.mp h]
    lia
 ·rintro zs σ' H3 ⟨_,s3,eD,ns,e3,ln,hb⟩
  have ln3:1<=ns.length/\ns.length<=3:=by lia
  have dl:(ddI ns).length<=ns.length:=by
   have:=Gz ns []
   rw[Dh]
   simpa using this
  refine⟨D,ns,U,sqL (by rw[eD,e3]),by lia,by lia,fun ms pm so l hl=>?_⟩
  have okm:okS ms:=QK pm so (fun z=>by rw[z] at ln3;simp at ln3) (by lia) hb
  generalize eH4:upd H3 l _=H4
  obtain⟨g4,e4⟩:=aK eH4 hl
  have s4:aN H2 H4:=s3.trans g4
  refine gN ?_
  dsimp only
  show Jx (JL _ _ _) _ _ _ _
  refine oO (fun σ H5=>∃ (l:Addr) (ms:D6),σ=[oI c,some (.int (n:Int)),some (.int (one:Int)),oI deep,some (.int (mo:Int)),oR p2,oR l,none,none,none,none]/\aN H2 H5/\H5 l=some (.lst (ms.map V.int))/\okS ms) ?rest (fun _ R=>?_)
  case rest =>
   clear e4 hl so pm okm eH4 g4 s4 H4 l ms
   rintro σ H5 ⟨l,ms,rfl,s5,e5,okm⟩
   have l9:=okm.2.1
   have e2':=s5 _ _ e2
   have sH5:aN H H5:=gH.trans s5
   show Jx (JL _ _ _) _ _ _ _
   refine oO (fun σ H6=>σ=[oI c,some (.int (n:Int)),some (.int (one:Int)),oI deep,some (.int (mo:Int)),oR p2,oR l,none,none,none,none]/\H5=H6) ?rest2 (fun _ R=>?_)
   case rest2 =>
    rintro σ H6 ⟨rfl,rfl⟩
    show Jx (JL _ _ _) _ _ _ _
    refine oO (fun σ H6=>σ=[oI c,some (.int (n:Int)),some (.int (one:Int)),oI deep,some (.int (mo:Int)),oR p2,oR l,none,none,none,none]/\H5=H6) ?rest3 (fun _ R=>?_)
    case rest3 =>
     rintro σ H6 ⟨rfl,rfl⟩
     refine⟨small (Wr _),fun r hr0=>?_⟩
     generalize eH6:upd H5 r _=H6
     obtain⟨g6,e6⟩:=aK eH6 hr0
     refine⟨_,U,l,_,U,g6 _ _ e5,JM (K:=K) (a:=l) (xs:=ms.map V.int) (fun i σ H7=>(∃ u v,σ=[oI c,some (.int (n:Int)),some (.int (one:Int)),oI deep,some (.int (mo:Int)),oR p2,oR l,none,oR r,u,v])/\aN H5 H7 ∧
      ∃ (vs:FH) (p:Pl),H7 r=some (.lst vs)/\dB n H7 vs p/\p.map (·.1)=ms.take i/\∀ x∈p,x.2.dep<=4) ⟨⟨_,_,U⟩,g6,[],[],e6,.nil,U,by simp⟩ (fun i σ H7 _ h=>sqL (h.2.1 _ _ e5)) ?_ ?_⟩
     ·rintro i x pp σ H7 hx hpp ⟨⟨u,v,rfl⟩,s7,vs,p,er,rp,ep,hd⟩
      obtain⟨st,hst,rfl⟩:=int_at hx
      have hi:i < ms.length:=(geS hst).1
      generalize eH8:upd H7 pp _=H8
      obtain⟨g8,e8⟩:=aK eH8 hpp
      refine⟨pp,_,U,sqT e8,U,_,_,U,_,_,U,U,?_⟩
      refine⟨_,U,.inl ⟨U,_,sqL (g8 _ _ er)⟩,_,U,_,U,_,U,c,i,U,by lia,_,U,_,U,_,U,_,U,PJ c i,n,one,deep,mo,U,n1,n12,hone,de1,de3,m1,m9,fun v' t H9 s9 rt td=>?_⟩
      refine⟨smN 2,fun pa ha=>?_⟩
      generalize eHa:upd H9 pa _=Ha
      obtain⟨ga,ea⟩:=aK eHa ha
      have s8a:aN H7 Ha:=g8.trans (s9.trans ga)
      have lv:=rp.length
      have lp:p.length<=ms.length:=by
       have:=congrArg abo ep
       rw[Vs,V0] at this
       lia
      have tk:=cR (zs':=vs++[.ref pa]) (s8a _ _ er)
      refine⟨r,_,_,U,U,s8a _ _ er,aQ (by lia),⟨_,_,U⟩,aV (s7.trans s8a) hr0 _,vs++[.ref pa],p++[(st,t)],aj,?_,?_,?_⟩
      ·exact dB.snoc (tk _ _ ea) ((rt.mono ga).aO tk) ((rp.aO fun a xs q=>s8a a _ q).aO tk)
      ·rw[VD,ep,V8,hst]
       rfl
      ·intro x hx
       rcases List.mem_append.mp hx with h | h
       ·exact hd x h
       ·rw[List.mem_singleton.mp h]
        show t.dep<=4
        lia
     ·rintro σ H7 ⟨⟨u,v,rfl⟩,s7,vs,p,er,rp,ep,hd⟩
      rw[Vs,VJ] at ep
      refine⟨_,U,r,_,U,.inl ⟨sqL er,fun pa ha=>?_⟩⟩
      have sn:=aA ha (.tup vs)
      exact q pa p _ (sH5.trans (s7.trans sn)) ⟨Jh okm ep hd,vs,aj,rp.aO fun a xs q=>sn a _ q⟩
    ·refine ux (decide (V.int d0=V.int 5)) (decide (1 < (n:Int))) (fun H6=>H5=H6) (fun Q' hQ=>?_) (fun H6 e Q' hQ=>?_) (fun H6 e c1 c2=>?_) (fun H6 e _=>R _ _ ⟨U,e⟩)
     ·exact⟨_,U,p2,_,_,_,U,U,sqL e2',a0,U,_,U,hQ _ U⟩
     ·subst e
      exact⟨_,U,_,_,U,U,_,U,hQ⟩
     ·subst e
      have c2:1 < (n:Int):=of_decide_eq_true c2
      have w1:0<=((one:Int)+1+d4 % ((n:Int) - 1)) % (n:Int):=Wt _ (by lia)
      have w2:((one:Int)+1+d4 % ((n:Int) - 1)) % (n:Int) < (n:Int):=Wl _ (by lia)
      obtain⟨j,hj⟩:=W8 w1
      refine⟨_,U,_,_,U,U,_,U,p2,_,_,_,U,U,sqL e2',a4,_,U,_,_,U,U,_,_,U,U,(by show (0:Int) < (n:Int) - 1;lia),_,_,U,U,_,U,_,_,U,U,(by show (0:Int) < (n:Int);lia),?_⟩
      refine gN ?_
      have es:(fun i j:Int=>V.int (i % j)) ((one:Int)+1+d4 % ((n:Int) - 1)) (n:Int)=V.int (j:Int):=by
       show V.int (((one:Int)+1+d4 % ((n:Int) - 1)) % (n:Int))=_
       rw[hj]
      refine⟨_,U,l,U,⟨_,sqL e5⟩,fun D hD=>iK (K:=K) (a:=l) (xs:=ms.map V.int) (fun i zs σ' H7=>(∃ u,σ'=[u,some (.int (j:Int))])/\aN H5 H7/\H7 D=some (.lst zs) ∧
       dB n H7 zs ((ms.take i).map fun st=>(st,Tm.gives j (if st - 1 > 1 then st - 1 else 1)))) ⟨⟨none,?_⟩,aA hD _,aj,.nil⟩ (fun i zs σ' H7 _ h=>⟨sqL (h.2.1 _ _ e5),h.2.2.1⟩) ?_ ?_⟩
      ·rw[← es]
       rfl
      ·rintro i zs x σ' H7 hx ⟨⟨u,rfl⟩,s7,er,rp⟩
       obtain⟨st,hst,rfl⟩:=int_at hx
       have hb:=okm.2.2.2 st (Wd hst)
       have lv:=rp.length
       rw[Vs,V0] at lv
       refine gT ?_
       refine⟨_,U,_,U,_,U,_,_,U,U,_,_,U,smN 3,fun pa ha=>?_⟩
       generalize eHa:upd H7 pa _=Ha
       obtain⟨ga,ea⟩:=aK eHa ha
       refine⟨smN 2,fun pb hb'=>?_⟩
       generalize eHb:upd Ha pb _=Hb
       obtain⟨gb,eb⟩:=aK eHb hb'
       have s7b:aN H7 Hb:=ga.trans gb
       have tk:=cR (zs':=zs++[.ref pb]) (s7b _ _ er)
       refine⟨s7b _ _ er,aQ (by lia),⟨_,U⟩,aV (s7.trans s7b) hD _,aj,?_⟩
       rw[take_snoc (fun st=>(st,Tm.gives j (if st - 1 > 1 then st - 1 else 1))) hst]
       exact dB.snoc (tk _ _ eb) (.gives (tk _ _ (gb _ _ ea)) (by lia) (by split <;> lia) (by split <;> lia)) ((rp.aO fun a xs q=>s7b a _ q).aO tk)
      ·rintro zs σ' H7 ⟨_,s7,er,rp⟩
       rw[Vs,VJ] at rp
       refine⟨D,_,U,.inl ⟨sqL er,fun pa ha=>?_⟩⟩
       have sn:=aA ha (.tup zs)
       refine q pa _ _ (sH5.trans (s7.trans sn)) ⟨Jh okm ?_ ?_,zs,aj,rp.aO fun a xs q=>sn a _ q⟩
       ·rw[aa5]
        exact List.map_id' ms
       ·intro x hx
        obtain⟨st,_,rfl⟩:=List.mem_map.mp hx
        show (1:Nat)<=4
        decide
   ·refine ux (decide (V.int d0=V.int 6)) (decide (1 < (n:Int))) (fun H6=>H5=H6) (fun Q' hQ=>?_) (fun H6 e Q' hQ=>?_) (fun H6 e c1 c2=>?_) (fun H6 e _=>R _ _ ⟨U,e⟩)
    ·exact⟨_,U,p2,_,_,_,U,U,sqL e2',a0,U,_,U,hQ _ U⟩
    ·subst e
     exact⟨_,U,_,_,U,U,_,U,hQ⟩
    ·subst e
     have w1:0<=((one:Int)+1) % (n:Int):=Wt _ (by lia)
     have w2:((one:Int)+1) % (n:Int) < (n:Int):=Wl _ (by lia)
     obtain⟨j,hj⟩:=W8 w1
     refine⟨_,U,l,U,⟨_,sqL e5⟩,fun D hD=>iK (K:=K) (a:=l) (xs:=ms.map V.int) (fun i zs σ' H7=>(∃ u,σ'=[u,some (.int (n:Int)),some (.int (one:Int))])/\aN H5 H7/\H7 D=some (.lst zs) ∧
      dB n H7 zs ((ms.take i).map fun st=>(st,Tm.gives j st))) ⟨⟨_,U⟩,aA hD _,aj,.nil⟩ (fun i zs σ' H7 _ h=>⟨sqL (h.2.1 _ _ e5),h.2.2.1⟩) ?_ ?_⟩
     ·rintro i zs x σ' H7 hx ⟨⟨u,rfl⟩,s7,er,rp⟩
      obtain⟨st,hst,rfl⟩:=int_at hx
      have hb:=okm.2.2.2 st (Wd hst)
      have lv:=rp.length
      rw[Vs,V0] at lv
      refine gT ?_
      refine⟨_,U,_,U,_,_,U,U,_,U,_,_,U,U,(by show (0:Int) < (n:Int);lia),_,U,smN 3,fun pa ha=>?_⟩
      generalize eHa:upd H7 pa _=Ha
      obtain⟨ga,ea⟩:=aK eHa ha
      have ea:Ha pa=some (.tup [.str "gives",vN j,.int st]):=by
       rw[ea]
       show some (HO.tup [V.str "gives",V.int (((one:Int)+1) % (n:Int)),V.int st])=some (HO.tup [V.str "gives",V.int (j:Int),V.int st])
       rw[hj]
      refine⟨smN 2,fun pb hb'=>?_⟩
      generalize eHb:upd Ha pb _=Hb
      obtain⟨gb,eb⟩:=aK eHb hb'
      have s7b:aN H7 Hb:=ga.trans gb
      have tk:=cR (zs':=zs++[.ref pb]) (s7b _ _ er)
      refine⟨s7b _ _ er,aQ (by lia),⟨_,U⟩,aV (s7.trans s7b) hD _,aj,?_⟩
      rw[take_snoc (fun st=>(st,Tm.gives j st)) hst]
      exact dB.snoc (tk _ _ eb) (.gives (tk _ _ (gb _ _ ea)) (by lia) (by lia) (by lia)) ((rp.aO fun a xs q=>s7b a _ q).aO tk)
     ·rintro zs σ' H7 ⟨_,s7,er,rp⟩
      rw[Vs,VJ] at rp
      refine⟨D,_,U,.inl ⟨sqL er,fun pa ha=>?_⟩⟩
      have sn:=aA ha (.tup zs)
      refine q pa _ _ (sH5.trans (s7.trans sn)) ⟨Jh okm ?_ ?_,zs,aj,rp.aO fun a xs q=>sn a _ q⟩
      ·rw[aa5]
       exact List.map_id' ms
      ·intro x hx
       obtain⟨st,_,rfl⟩:=List.mem_map.mp hx
       show (1:Nat)<=4
       decide
  ·refine⟨_,U,p2,_,_,_,U,U,sqL (s4 _ _ e2),a0,U,_,U,?_⟩
   refine jE (fun _=>?_) (fun _=>R _ _ ⟨l,ms,U,s4,e4,okm⟩)
   refine⟨_,U,p2,_,_,_,U,U,sqL (s4 _ _ e2),a5,_,U,d5,mo,U,by lia,fun cs r3 H5 hc hp hl5 s5 f5 e5=>?_⟩
   refine⟨r3,U,⟨_,sqT e5⟩,fun D5 hD5=>cX (K:=K) (a:=r3) (xs:=cs.map vN) (fun i zs σ' H6=>(∃ u,σ'=[u])/\zs=((cs.take i).map fun j:Nat=>(1:Int)+(j:Int)).map V.int/\aN H5 H6/\H6 D5=some (.lst zs))
    ⟨⟨_,U⟩,U,aA hD5 _,aj⟩ (fun i zs σ' H6 _ h=>⟨sqT (h.2.2.1 _ _ e5),h.2.2.2⟩) ?_ ?_⟩
   ·rintro i zs x σ' H6 hx ⟨⟨u,rfl⟩,e6,s6,eD6⟩
    obtain⟨j,hj,rfl⟩:=uG hx
    refine gT ?_
    refine⟨_,U,_,_,U,U,eD6,?_,⟨_,U⟩,?_,aV s6 hD5 _,aj⟩
    ·rw[e6,Vs,Vs,V0]
     exact aQ (by lia)
    ·rw[e6,take_snoc (fun j:Nat=>(1:Int)+(j:Int)) hj,VD]
     rfl
   ·rintro zs σ' H6 ⟨_,e6,s6,eD6⟩
    rw[Vs,VJ] at e6
    rw[e6] at eD6
    have s46:aN H2 H6:=s4.trans (s5.trans s6)
    refine⟨_,U,smN 0,fun p7 h7=>?_⟩
    have g7:aN H6 (upd H6 p7 (.lst [])):=aA h7 _
    refine⟨D5,p7,_,U,U,sqL (g7 _ _ eD6),sqL aj,_,U,?_⟩
    refine jE (fun ce=>?_) (fun ce=>?_)
    ·refine⟨_,U,smN 1,fun p8 h8=>?_⟩
     refine R _ _ ⟨p8,[(mo:Int)],U,s46.trans (g7.trans (aA h8 _)),aj,by simp,by show 1<=9;decide,by simp,?_⟩
     intro x hx
     rw[List.mem_singleton.mp hx]
     lia
    ·refine R _ _ ⟨D5,cs.map fun j:Nat=>(1:Int)+(j:Int),U,s46.trans g7,g7 _ _ eD6,?_,?_,?_,?_⟩
     ·intro z
      apply ce
      rw[z]
      rfl
     ·rw[Vs]
      lia
     ·rw[Ze]
      exact hp.imp fun h=>by lia
     ·intro x hx
      obtain⟨j,hj,rfl⟩:=List.mem_map.mp hx
      have:=hc j hj
      lia
def eQ {t u:TS}{D:Ends}{σ:St}{H:Hp}(P:St->Hp->Prop)(h2:∀ σ H,P σ H->u D σ H)(h1:∀ N:St->Hp->Prop,(∀ σ H,P σ H->N σ H)->t { D with nx:=N } σ H):Jx t u D σ H:=h1 (u D) h2
def bV {t u:TS}{D:Ends}{σ:St}{H:Hp}(P:St->Hp->Prop)(h1:∀ N:St->Hp->Prop,(∀ σ H,P σ H->N σ H)->t { D with nx:=N } σ H)(h2:∀ σ H,P σ H->u D σ H):Jx t u D σ H:=h1 (u D) h2
abbrev lA:Stmt:=top 2
def Ry (H:Hp)(x C dx:Addr)(w:Wb):Hp:=upd (upd (upd H x (xO x C none)) dx (.xd [("word",.str w)])) x (xO x C (some dx))
def Qm {H:Hp}{x C dx:Addr}{w:Wb}:Ry H x C dx w x=some (xO x C (some dx)):=aj
def RT {H:Hp} {x C dx:Addr} {w:Wb} (h:dx≠x):Ry H x C dx w dx=some (.xd [("word",.str w)]):=(aM h).trans aj
def J0:aG Zp Zp (aB (inClass lA 0)):=c7
inductive Bw (K:V3)(vs:FH)(H:Hp)(Q:VK):Prop where
 | mk (x C f:Addr) (w:Wb) (z0:vs=[.ref x,.str w]) (z1:H x=some (xO x C none)) (z2:Lf K C f "word") (z3:∀ dx,dx≠x->H dx=none->Q .non (Ry H x C dx w)):Bw K vs H Q
def jk (K:V3):Sp:=fun vs H Q _=>Bw K vs H Q
def Kf (F:Fun K "__init__" "BoonError.__init__" (inClass lA 0) f fd) (hv:mg "ValueError" = none):bH P w K mg base CX0 1 f fd Zp (jk K):=by
 refine okA F J0 fun _ _ _ _ H _ Q E hr h=>?_
 obtain⟨x,C,f,w,rfl,hx,XC,q⟩:=h
 refine⟨_,au (bD (KQ U hv (aa (pv 0) (aa (pv 1) ao)))) (az (O8 (pv 0) (pv 1) U)),?_⟩
 refine⟨_,U,_,U,x,C,f,"word",none,_,U,hx,XC,?_⟩
 refine⟨_,U,_,U,x,C,f,U,aj,XC,fun dx hd=>?_⟩
 have n:dx≠x:=fun z=>by rw[z,aj] at hd;cases hd
 rw[aM n] at hd
 exact q dx n hd
inductive Az (K:V3)(w:Wb)(vs:FH)(H:Hp)(Q:VK):Prop where
 | mk (x C f:Addr) (z0:vs=[.ref x]) (z1:H x=some (xO x C none)) (z2:Lf K C f "word") (z3:∀ dx,dx≠x->H dx=none->Q .non (Ry H x C dx w)):Az K w vs H Q
def jd (K:V3)(w:Wb):Sp:=fun vs H Q _=>Az K w vs H Q
structure Xc (P:V4)(w:Wn)(K:V3)(mg:Wb->DO)(base:WD)(c:Wb)(C:Addr)(wd:Wb):Prop where
 ex:∃ (f:Addr) (fd:WR),bH P w K mg base CX0 2 f fd ZO (jd K wd)/\mg c=some (.ref C)/\Lf K C f "word"/\Binds K fd ZO []
def thrown (C:Addr)(w:Wb)(H:Hp)(E:XK):Prop:=∀ dx H1,aN H H1->H1 dx=some (.xd [("word",.str w)])->E (.ref C) (some dx) H1
section
variable {X:Cx}{c wd:Wb}{C:Addr}{p pos pos':ZD}{E:XK}{j:Nat}
def QM (C:Addr)(w:Wb)(E:XK):TS:=fun _ _ H=>thrown C w H E
def eO (D:Xc X.prog X.w X.K X.mg X.base c C wd)(hr:fj j X.A)(hc:X.calm=true)(hw:Throws X fun x C dx H=>E (.ref C) (some dx) (off H x))(hk:3<=j:=by decide)(hg:Gl X c:=by rfl)(hdb:(c == ("__debug__" : Wb))=false:=by decide) :
  PS X (.Raise (some (.Call (.Name c p) [] [] pos)) none pos') (QM C wd E):=by
 obtain⟨f,fd,F,hm,XC,hb⟩:=D.ex
 intro ZY s σ H De I h
 refine K9 (W:=fun x C dx H=>E (.ref C) (some dx) (off H x)) hc (KH XC F (hr.mono hk) hg hm hb nH hdb) hw ZY s σ H De I fun x hx=>?_
 refine⟨x,C,f,U,aj,XC,fun dx n hd=>⟨U,x,C,f,dx,"word",U,Qm,XC,?_⟩⟩
 rw[aM n] at hd
 refine h dx _ (fun b u e=>?_) ?_
 ·have e1:upd H x (xO x C none) b=some u:=by rw[aM (cZ e hx)];exact e
  have n1:b≠x:=cZ e hx
  have n2:b≠dx:=cZ e hd
  rw[off_ne n1]
  unfold Ry
  rw[aM n1,aM n2,aM n1]
  exact e1
 ·rw[off_ne n]
  exact RT n
end
abbrev lR:Stmt:=top 3
def Jl:aG ZO ZO (aB (inClass lR 0)):=c7
def HX {f fB CB:Addr} {mc:Value} {fd fdB:WR} (F:Fun K "__init__" "BadPledge.__init__" (inClass lR 0) f fd) (hB:mg "BoonError" = some (.ref CB)) (O:sS K CB mc "__init__" fB)
  (FB:bH P w K mg base CX0 1 fB fdB Zp (jk K)) (bB:Binds K fdB Zp []):bH P w K mg base CX0 2 f fd ZO (jd K "bad pledge"):=by
 refine okA F Jl fun _ _ _ _ H _ Q E hr h=>?_
 obtain⟨x,C,f,rfl,hx,XC,q⟩:=h
 refine⟨_,az (bD (dM U hB O FB hr bB .nil nH (aa (pv 0) (aa aL ao)))),?_⟩
 exact⟨_,U,x,C,f,_,U,hx,XC,fun dx n hd=>q dx n hd⟩
abbrev vm:Stmt:=top 4
def Gh:aG ZO ZO (aB (inClass vm 0)):=c7
def G6 {f fB CB:Addr} {mc:Value} {fd fdB:WR} (F:Fun K "__init__" "NoFolk.__init__" (inClass vm 0) f fd) (hB:mg "BoonError" = some (.ref CB)) (O:sS K CB mc "__init__" fB)
  (FB:bH P w K mg base CX0 1 fB fdB Zp (jk K)) (bB:Binds K fdB Zp []):bH P w K mg base CX0 2 f fd ZO (jd K "no folk"):=by
 refine okA F Gh fun _ _ _ _ H _ Q E hr h=>?_
 obtain⟨x,C,f,rfl,hx,XC,q⟩:=h
 refine⟨_,az (bD (dM U hB O FB hr bB .nil nH (aa (pv 0) (aa aL ao)))),?_⟩
 exact⟨_,U,x,C,f,_,U,hx,XC,fun dx n hd=>q dx n hd⟩
abbrev Ii:Stmt:=top 5
def Il:aG ZO ZO (aB (inClass Ii 0)):=c7
def GP {f fB CB:Addr} {mc:Value} {fd fdB:WR} (F:Fun K "__init__" "Gone.__init__" (inClass Ii 0) f fd) (hB:mg "BoonError" = some (.ref CB)) (O:sS K CB mc "__init__" fB)
  (FB:bH P w K mg base CX0 1 fB fdB Zp (jk K)) (bB:Binds K fdB Zp []):bH P w K mg base CX0 2 f fd ZO (jd K "gone"):=by
 refine okA F Il fun _ _ _ _ H _ Q E hr h=>?_
 obtain⟨x,C,f,rfl,hx,XC,q⟩:=h
 refine⟨_,az (bD (dM U hB O FB hr bB .nil nH (aa (pv 0) (aa aL ao)))),?_⟩
 exact⟨_,U,x,C,f,_,U,hx,XC,fun dx n hd=>q dx n hd⟩
abbrev nU:Stmt:=top 6
def Gu:aG ZO ZO (aB (inClass nU 0)):=c7
def Hi {f fB CB:Addr} {mc:Value} {fd fdB:WR} (F:Fun K "__init__" "NoPledge.__init__" (inClass nU 0) f fd) (hB:mg "BoonError" = some (.ref CB)) (O:sS K CB mc "__init__" fB)
  (FB:bH P w K mg base CX0 1 fB fdB Zp (jk K)) (bB:Binds K fdB Zp []):bH P w K mg base CX0 2 f fd ZO (jd K "no pledge"):=by
 refine okA F Gu fun _ _ _ _ H _ Q E hr h=>?_
 obtain⟨x,C,f,rfl,hx,XC,q⟩:=h
 refine⟨_,az (bD (dM U hB O FB hr bB .nil nH (aa (pv 0) (aa aL ao)))),?_⟩
 exact⟨_,U,x,C,f,_,U,hx,XC,fun dx n hd=>q dx n hd⟩
abbrev zY:Stmt:=top 7
def FP:aG ZO ZO (aB (inClass zY 0)):=c7
def HW {f fB CB:Addr} {mc:Value} {fd fdB:WR} (F:Fun K "__init__" "Bound.__init__" (inClass zY 0) f fd) (hB:mg "BoonError" = some (.ref CB)) (O:sS K CB mc "__init__" fB)
  (FB:bH P w K mg base CX0 1 fB fdB Zp (jk K)) (bB:Binds K fdB Zp []):bH P w K mg base CX0 2 f fd ZO (jd K "bound"):=by
 refine okA F FP fun _ _ _ _ H _ Q E hr h=>?_
 obtain⟨x,C,f,rfl,hx,XC,q⟩:=h
 refine⟨_,az (bD (dM U hB O FB hr bB .nil nH (aa (pv 0) (aa aL ao)))),?_⟩
 exact⟨_,U,x,C,f,_,U,hx,XC,fun dx n hd=>q dx n hd⟩
abbrev HF:Stmt:=top 10
def Gn:aG ZO ZO (aB (inClass HF 0)):=c7
def Ft {f fB CB:Addr} {mc:Value} {fd fdB:WR} (F:Fun K "__init__" "Full.__init__" (inClass HF 0) f fd) (hB:mg "BoonError" = some (.ref CB)) (O:sS K CB mc "__init__" fB)
  (FB:bH P w K mg base CX0 1 fB fdB Zp (jk K)) (bB:Binds K fdB Zp []):bH P w K mg base CX0 2 f fd ZO (jd K "full"):=by
 refine okA F Gn fun _ _ _ _ H _ Q E hr h=>?_
 obtain⟨x,C,f,rfl,hx,XC,q⟩:=h
 refine⟨_,az (bD (dM U hB O FB hr bB .nil nH (aa (pv 0) (aa aL ao)))),?_⟩
 exact⟨_,U,x,C,f,_,U,hx,XC,fun dx n hd=>q dx n hd⟩
abbrev rF:Stmt:=top 9
def Hv:aG ZO ZO (aB (inClass rF 0)):=c7
def Jo {f fB CB:Addr} {mc:Value} {fd fdB:WR} (F:Fun K "__init__" "BadRise.__init__" (inClass rF 0) f fd) (hB:mg "BoonError" = some (.ref CB)) (O:sS K CB mc "__init__" fB)
  (FB:bH P w K mg base CX0 1 fB fdB Zp (jk K)) (bB:Binds K fdB Zp []):bH P w K mg base CX0 2 f fd ZO (jd K "bad rise"):=by
 refine okA F Hv fun _ _ _ _ H _ Q E hr h=>?_
 obtain⟨x,C,f,rfl,hx,XC,q⟩:=h
 refine⟨_,az (bD (dM U hB O FB hr bB .nil nH (aa (pv 0) (aa aL ao)))),?_⟩
 exact⟨_,U,x,C,f,_,U,hx,XC,fun dx n hd=>q dx n hd⟩
abbrev uR:Stmt:=top 8
def Ge:aG ZO ZO (aB (inClass uR 0)):=c7
def Hl {f fB CB:Addr} {mc:Value} {fd fdB:WR} (F:Fun K "__init__" "NotDue.__init__" (inClass uR 0) f fd) (hB:mg "BoonError" = some (.ref CB)) (O:sS K CB mc "__init__" fB)
  (FB:bH P w K mg base CX0 1 fB fdB Zp (jk K)) (bB:Binds K fdB Zp []):bH P w K mg base CX0 2 f fd ZO (jd K "not due"):=by
 refine okA F Ge fun _ _ _ _ H _ Q E hr h=>?_
 obtain⟨x,C,f,rfl,hx,XC,q⟩:=h
 refine⟨_,az (bD (dM U hB O FB hr bB .nil nH (aa (pv 0) (aa aL ao)))),?_⟩
 exact⟨_,U,x,C,f,_,U,hx,XC,fun dx n hd=>q dx n hd⟩
abbrev fP:Stmt:=top 55
def qt:aG YE ["_law_asked"] (aB fP):=c7
def twWord (K:V3)(G:Addr):Addr->(Hp->VK->XK->Prop)->VK->Hp->Prop:=fun _ sp Q H=>sp H (fun v H2=>[V.str "told",v].length<=sizeLine/\∀ a,H2 a=none->Q (.ref a) (upd H2 a (.tup [.str "told",v]))) (XW K G "word" Q)
def O7 {fW G:Addr} {k:Nat} (UI:mg "BoonError" = some (.ref G)) (f:Addr) (cdv:Value) (A:Wm) (outer:D4) (s:Vt) (H:Hp) (Q:VK) (j:Nat) (sp:Hp->VK->XK->Prop) (_:k=j+1)
  (hr:fj k (A.deeper (abA "_law_word" (aB fP) s.heap.objs.size fW cdv))) (L:Rh (XL P w) P w K mg base k s H (frs outer) f sp) (h:twWord K G f sp Q H) :
  ∃ t,PSs (wW CX0 P w K mg base YE "_law_word" (aB fP) fW cdv A outer s H E0) (bO fP) t/\t { nx:=fun _ H'=>Q .non H',rt:=Q } (start YE [.ref f]) H:=by
 refine⟨_,az (RK 1 ⟨U,U⟩ U UI qt.nd U U fun pn E W hx=>az (aD (aZ (aa aL (aa (Ra L U hr hx (pv 0)) ao))))),?_⟩
 exact⟨_,U,U,h⟩
mutual
def mnF:Tm->D7
 | .free=>[]
 | .never=>[]
 | .gives i _=>[i]
 | .sum c _=>c
 | .crowd c _ _=>c
 | .all ts=>mnL ts
 | .any ts=>mnL ts
def mnL:List Tm->D7
 | []=>[]
 | t::r=>mnF t++mnL r
end
theorem ou:∀ (ts us:List Tm),mnL (ts++us)=mnL ts++mnL us
 | [],us=>by rw[mnL];rfl
 | t::r,us=>by rw[aaX,mnL,mnL,ou r us,aaL]
def jZ {ts:List Tm}{i:Nat}{t:Tm}(h:ts[i]? = some t):mnL (ts.take (i+1))=mnL (ts.take i)++mnF t:=by
 rw[V8,h,ou]
 show _++mnL [t]=_
 rw[mnL,mnL,Xn]
def BJ:∀ {c:D7} {n:Nat},c.Pairwise (· < ·)->(∀ i∈c,i < n)->c.length<=n:=by
 have key:∀ (c:D7) (a n:Nat),c.Pairwise (· < ·)->(∀ i∈c,a<=i/\i < n)->c.length<=n - a:=by
  intro c
  induction c with
  | nil=>intro a n _ _;exact Wr _
  | cons x r ih =>
   intro a n hp hb
   rw[Yb] at hp
   have hx:=hb x VP
   have:=ih (x+1) n hp.2 fun i hi=>⟨hp.1 i hi,(hb i (VR _ hi)).2⟩
   rw[V2]
   lia
 intro c n hp hb
 have:=key c 0 n hp fun i hi=>⟨Wr _,hb i hi⟩
 lia
mutual
theorem LR {n:Nat}{H:Hp}(hn:n<=12):∀ (d:Nat) {v:V} {t:Tm},gZ n H v t->t.dep<=d+1->(mnF t).length<=12 * 6 ^ d
 | d,_,_,.free _,_=>by rw[mnF];exact Wr _
 | d,_,_,.never _,_=>by rw[mnF];exact Wr _
 | d,_,_,.gives _ _ _ _,_=>by
  rw[mnF]
  have:0 < 6 ^ d:=Nat.pow_pos (by decide)
  show 1<=_
  lia
 | d,_,_,.sum _ _ hc hp _ _ _ _,_=>by
  rw[mnF]
  have:=BJ hp hc
  have:0 < 6 ^ d:=Nat.pow_pos (by decide)
  lia
 | d,_,_,.crowd _ _ hc hp _ _ _ _ _ _,_=>by
  rw[mnF]
  have:=BJ hp hc
  have:0 < 6 ^ d:=Nat.pow_pos (by decide)
  lia
 | 0,_,_,.all (vs:=vs) (ts:=ts) _ _ l2 _ rl,hd=>by
  have:=uH rl l2
  rw[Tm.dep] at hd
  lia
 | d+1,_,_,.all (ts:=ts) _ _ _ l6 rl,hd=>by
  rw[mnF]
  rw[Tm.dep] at hd
  have h1:=Ag hn d rl (by lia)
  have h2:=rl.length
  have h3:ts.length * (12 * 6 ^ d)<=6 * (12 * 6 ^ d):=Nat.mul_le_mul_right _ (by lia)
  rw[Nat.pow_succ]
  lia
 | 0,_,_,.any (vs:=vs) (ts:=ts) _ _ l2 _ rl,hd=>by
  have:=uH rl l2
  rw[Tm.dep] at hd
  lia
 | d+1,_,_,.any (ts:=ts) _ _ _ l6 rl,hd=>by
  rw[mnF]
  rw[Tm.dep] at hd
  have h1:=Ag hn d rl (by lia)
  have h2:=rl.length
  have h3:ts.length * (12 * 6 ^ d)<=6 * (12 * 6 ^ d):=Nat.mul_le_mul_right _ (by lia)
  rw[Nat.pow_succ]
  lia
theorem Ag {n:Nat}{H:Hp}(hn:n<=12):∀ (d:Nat) {vs:FH} {ts:List Tm},cu n H vs ts->tdL ts<=d+1->(mnL ts).length<=ts.length * (12 * 6 ^ d)
 | d,_,_,.nil,_=>by rw[mnL];exact Wr _
 | d,_,_,.cons (ts:=ts) h r,hd=>by
  rw[tdL] at hd
  have h1:=LR hn d h (by lia)
  have h2:=Ag hn d r (by lia)
  rw[mnL,VH,V2,Nat.add_mul,Nat.one_mul]
  lia
theorem uH {n:Nat}{H:Hp}:∀ {vs:FH} {ts:List Tm},cu n H vs ts->2<=vs.length->1<=tdL ts
 | _,_,.nil,h=>by simp at h
 | _,_,.cons (t:=t) _ _,_=>by
  rw[tdL]
  have:=t.nC
  lia
end
mutual
theorem R4 {n:Nat}{H:Hp}:∀ {v:V} {t:Tm},gZ n H v t->∀ i∈mnF t,i < n
 | _,_,.free _=>fun i hi=>by rw[mnF] at hi;cases hi
 | _,_,.never _=>fun i hi=>by rw[mnF] at hi;cases hi
 | _,_,.gives _ h _ _=>fun i hi=>by rw[mnF] at hi;rw[List.mem_singleton.mp hi];exact h
 | _,_,.sum _ _ hc _ _ _ _ _=>fun i hi=>by rw[mnF] at hi;exact hc i hi
 | _,_,.crowd _ _ hc _ _ _ _ _ _ _=>fun i hi=>by rw[mnF] at hi;exact hc i hi
 | _,_,.all _ _ _ _ rl=>fun i hi=>by rw[mnF] at hi;exact Gx rl i hi
 | _,_,.any _ _ _ _ rl=>fun i hi=>by rw[mnF] at hi;exact Gx rl i hi
theorem Gx {n:Nat}{H:Hp}:∀ {vs:FH} {ts:List Tm},cu n H vs ts->∀ i∈mnL ts,i < n
 | _,_,.nil=>fun i hi=>by rw[mnL] at hi;cases hi
 | _,_,.cons h r=>fun i hi=>by
  rw[mnL] at hi
  rcases List.mem_append.mp hi with z | z
  ·exact R4 h i z
  ·exact Gx r i z
end
def Vq {d:Nat}(h:d<=4):12 * 6 ^ (d - 1)<=2592:=by
 have:6 ^ (d - 1)<=6 ^ 3:=Nat.pow_le_pow_right (by decide) (by lia)
 have:(6:Nat) ^ 3=216:=by decide
 lia
def pY {n d:Nat}{H:Hp}{v:V}{t:Tm}(hn:n<=12)(h4:d<=4)(r:gZ n H v t)(hd:t.dep<=d):(mnF t).length<=2592:=by
 have:=t.nC
 exact Wf (LR hn (d - 1) r (by lia)) (Vq h4)
def Ie {ts:List Tm}(i:Nat):(mnL (ts.take i)).length<=(mnL ts).length:=by
 have:=congrArg abo (ou (ts.take i) (ts.drop i))
 rw[List.take_append_drop,VH] at this
 lia
inductive Hk (d:Nat)(vs:FH)(H:Hp)(Q:VK):Prop where
 | mk (v:V) (n:Nat) (t:Tm) (z0:vs=[v]) (z1:gZ n H v t) (z2:t.dep<=d) (z3:d<=4) (z4:n<=12) (z5:∀ (r:Addr) (H':Hp),aN H H'->H r=none->H' r=some (.lst ((mnF t).map vN))->Q (.ref r) H'):Hk d vs H Q
def jG (d:Nat):Sp:=fun vs H Q _=>Hk d vs H Q
def yF {ps:D9}:bH P w K mg base CX0 0 f fd ps (jG 0):=by
 have no:∀ vs H Q E,¬ jG 0 vs H Q E:=fun vs H Q E h=>by
  obtain⟨v,n,t,_,_,h1,_⟩:=h
  have:=t.nC
  lia
 exact⟨fun vs H Q E h=>absurd h (no vs H Q E),fun A outer s H args us vs Q E _ _ _ _ h=>absurd h (no vs H Q E)⟩
abbrev nY:Stmt:=top 28
def rH:aG ["term","kind"] ZT (aB nY):=c7
def iV {d:Nat} (F:Fun K "mentions" "mentions" nY f fd) (B:Bt mg)
  (SB:Df P w K mg base "mentions" d ZT (jG d)):bH P w K mg base CX0 (d+1) f fd ZT (jG (d+1)):=by
 refine okA F rH fun _ _ _ _ H _ Q E hr h=>?_
 obtain⟨v,n,t,rfl,rt,hd,h4,hn,q⟩:=h
 refine⟨_,(au (aP (i:=1) rH.nd U (VF U) (pxT K (pv 0) aq))
 (au (aW (aH bj (pv 1) aL) (az (aD (bA (aa (pxT K (pv 0) aq) ao)))) aC)
 (au (aW (PW.pt (iI (aH bj (pv 1) aL) (d7 (aH bj (pv 1) aL)))) (az (aD (bh (r:=jL K) d9 U B.list_ jg (aa (pxT K (pv 0) aq) ao)))) aC)
 (au (aW (PW.pt (iI (aH bj (pv 1) aL) (d7 (aH bj (pv 1) aL)))) (az (aD (Ld (L:=["part","one"]) (F:=[]) (cap:=[]) U (bF U U (by kernel_rfl)) (dq (pxT K (pv 0) aq)) (fun _ _ _ _ _=>(aJ (i:=0) (bw (by decide+kernel)) U (VF U))) (fun _ _ _ _ _=>(JG K U (aY SB hr (aa (pv 0) ao)))) (fun _ _ _ _ _=>(aJ (i:=1) (bw (by decide+kernel)) U (VF U))) (fun _ _ _ _ _=>(pv 1))))) aC)
 (az (aD (bA ao))))))),?_⟩
 have small':=pY hn h4 rt hd
 have parts:∀ {b:Addr} {us:FH} {ts:List Tm},H b=some (.tup us)->cu n H us ts->tdL ts<=d->(mnL ts).length<=2592->∀ {σ':St} {D:Addr},H D=none->(∀ H2,aN H H2->H2 D=some (.lst ((mnL ts).map vN))->Q (.ref D) H2) →
   pQ D [none,none] (Itt K b) (zg 0) (Nt K (G5 (jG d) [] E0 (JX (CW 0) Kv))) (zg 1) (CW 1) H (fun H2=>Q (.ref D) H2):=by
  intro b us ts hb rl hdl lm σ' D hD hq
  have el:=rl.length
  refine Js (K:=K) (a:=b) (xs:=us) (fun i zs σ' H2=>(∃ u v,σ'=[u,v])/\aN H H2/\H2 D=some (.lst zs)/\zs=(mnL (ts.take i)).map vN) ⟨⟨_,_,U⟩,aA hD _,aj,by rw[Ws,mnL];rfl⟩ (fun i zs σ' H2 _ h=>sqT (h.2.1 _ _ hb)) ?_ ?_
  ·rintro i zs x σ' H2 hx ⟨⟨u,v,rfl⟩,sm,eD,ez⟩
   obtain⟨t',ht,rt'⟩:=rl.get hx
   refine⟨_,U,x,n,t',U,rt'.mono sm,Wf (gU ht) hdl,by lia,hn,fun r H3 s3 fr er=>?_⟩
   have hrD:r≠D:=fun z=>by rw[z,eD] at fr;cases fr
   refine⟨r,U,⟨_,sqL er⟩,JT (K:=K) (b:=r) (ws:=(mnF t').map vN) (fun j ws σ' H4=>(∃ u,σ'=[some x,u])/\aN H H4/\H4 r=some (.lst ((mnF t').map vN))/\H4 D=some (.lst ws)/\ws=(mnL (ts.take i)++(mnF t').take j).map vN)
    ⟨⟨_,U⟩,sm.trans s3,er,s3 _ _ eD,by rw[Ws,Xn];exact ez⟩ (fun j ws σ' H4 _ h=>sqL h.2.2.1) ?_ ?_⟩
   ·rintro j ws y σ' H4 hy ⟨⟨u,rfl⟩,s4,er4,eD4,ew⟩
    obtain⟨m,hm,rfl⟩:=uG hy
    have hlen:ws.length<=2592:=by
     have h1:=Ie (ts:=ts) (i+1)
     rw[jZ ht,VH] at h1
     rw[ew,Vs,VH,V0]
     lia
    refine⟨_,U,eD4,ZW hlen (by decide),⟨_,U⟩,aV s4 hD _,?_,aj,?_⟩
    ·rw[aM hrD]
     exact er4
    ·rw[ew,V8,hm,← aaL]
     show _=List.map vN ((mnL (ts.take i)++(mnF t').take j)++[m])
     rw[VD (l₁:=mnL (ts.take i)++(mnF t').take j)]
     rfl
   ·rintro ws σ' H4 ⟨⟨u,rfl⟩,s4,er4,eD4,ew⟩
    rw[Vs,VJ,← jZ ht] at ew
    exact⟨⟨_,_,U⟩,s4,eD4,ew⟩
  ·rintro zs σ' H2 ⟨_,sm,eD,ez⟩
   rw[el,VJ] at ez
   exact hq H2 sm (by rw[eD,ez])
 cases rt with
 | @free a ha =>
  refine⟨_,U,a,_,_,_,U,U,sqT ha,gt0,?_⟩
  refine⟨_,U,U,_,U,bu bz ?_⟩
  refine⟨_,U,U,_,U,bu bz ⟨_,U,U,_,U,bu bz ?_⟩⟩
  refine⟨_,U,U,_,U,bu bz ⟨_,U,U,_,U,bu bz ?_⟩⟩
  exact⟨smN 0,fun r h0=>q r _ (aA h0 _) h0 (by rw[aj,mnF];rfl)⟩
 | @never a ha =>
  refine⟨_,U,a,_,_,_,U,U,sqT ha,gt0,?_⟩
  refine⟨_,U,U,_,U,bu bz ?_⟩
  refine⟨_,U,U,_,U,bu bz ⟨_,U,U,_,U,bu bz ?_⟩⟩
  refine⟨_,U,U,_,U,bu bz ⟨_,U,U,_,U,bu bz ?_⟩⟩
  exact⟨smN 0,fun r h0=>q r _ (aA h0 _) h0 (by rw[aj,mnF];rfl)⟩
 | @gives a i k ha hi k1 k9 =>
  refine⟨_,U,a,_,_,_,U,U,sqT ha,gt0,?_⟩
  refine⟨_,U,U,_,U,gR U ?_⟩
  exact⟨_,U,a,_,_,_,U,U,sqT ha,gt1,smN 1,fun r h0=>q r _ (aA h0 _) h0 (by rw[aj,mnF];rfl)⟩
 | @sum a b c k ha hb hc hp l20 l2 k1 k99 =>
  refine⟨_,U,a,_,_,_,U,U,sqT ha,gt0,?_⟩
  refine⟨_,U,U,_,U,bu bz ?_⟩
  refine⟨_,U,U,_,U,gR U (cW ?_)⟩
  exact⟨_,U,a,_,_,_,U,U,sqT ha,gt1,b,_,U,.inr (sqT hb),fun r h0=>q r _ (aA h0 _) h0 (by rw[aj,mnF])⟩
 | @crowd a b c k mm ha hb hc hp l20 l1 k1 k9 m1 m12 =>
  refine⟨_,U,a,_,_,_,U,U,sqT ha,gt0,?_⟩
  refine⟨_,U,U,_,U,bu bz ?_⟩
  refine⟨_,U,U,_,U,bu bz ⟨_,U,U,_,U,gR U ?_⟩⟩
  exact⟨_,U,a,_,_,_,U,U,sqT ha,gt1,b,_,U,.inr (sqT hb),fun r h0=>q r _ (aA h0 _) h0 (by rw[aj,mnF])⟩
 | @all a b us ts ha hb l2 l6 rl =>
  have hdl:tdL ts<=d:=by rw[Tm.dep] at hd;lia
  rw[mnF] at small'
  refine⟨_,U,a,_,_,_,U,U,sqT ha,gt0,?_⟩
  refine⟨_,U,U,_,U,bu bz ?_⟩
  refine⟨_,U,U,_,U,bu bz ⟨_,U,U,_,U,bu bz ?_⟩⟩
  refine⟨_,U,U,_,U,gR U (cW ?_)⟩
  exact⟨_,U,a,_,_,_,U,U,sqT ha,gt1,b,U,⟨_,sqT hb⟩,fun D hD=>parts (σ':=[]) hb rl hdl small' hD fun H2 sm eD=>q D H2 sm hD (by rw[eD,mnF])⟩
 | @any a b us ts ha hb l2 l6 rl =>
  have hdl:tdL ts<=d:=by rw[Tm.dep] at hd;lia
  rw[mnF] at small'
  refine⟨_,U,a,_,_,_,U,U,sqT ha,gt0,?_⟩
  refine⟨_,U,U,_,U,bu bz ?_⟩
  refine⟨_,U,U,_,U,bu bz ⟨_,U,U,_,U,bu bz ?_⟩⟩
  refine⟨_,U,U,_,U,bu bz ⟨_,U,U,_,U,gR U ?_⟩⟩
  exact⟨_,U,a,_,_,_,U,U,sqT ha,gt1,b,U,⟨_,sqT hb⟩,fun D hD=>parts (σ':=[]) hb rl hdl small' hD fun H2 sm eD=>q D H2 sm hD (by rw[eD,mnF])⟩
def nmI (c:D7)(ms:D6):Prop:=ms.Perm (ddI (c.map fun i:Nat=>(i:Int)))/\ms.Pairwise (·<=·)
theorem GX:∀ (ns acc:D6) (x:Int),x∈ns.foldl Xh acc->x∈acc∨x∈ns
 | [],acc,x,h=>.inl h
 | n::r,acc,x,h=>by
  rw[Yy] at h
  rcases GX r _ x h with z | z
  ·unfold Xh at z
   split at z
   ·exact .inl z
   ·rcases List.mem_append.mp z with y | y
    ·exact .inl y
    ·rw[List.mem_singleton.mp y]
     exact .inr VP
  ·exact .inr (VR _ z)
theorem xR:∀ (n:Nat) (l:D6),l.Nodup->(∀ x∈l,0<=x/\x < (n:Int))->l.length<=n
 | 0,l,_,h=>by
  cases l with
  | nil=>exact Wr _
  | cons x r =>
   have:=h x VP
   lia
 | n+1,l,nd,h=>by
  have h1:=xR n (l.erase (n:Int)) (nd.erase _) fun x hx=>by
   have hx':=List.mem_of_mem_erase hx
   have b:=h x hx'
   have ne:x≠(n:Int):=fun z=>by
    rw[z] at hx
    exact (List.Nodup.mem_erase_iff nd).mp hx |>.1 rfl
   lia
  have h2:l.length<=(l.erase (n:Int)).length+1:=by
   rw[List.length_erase]
   split <;> lia
  lia
def RN {c:D7}{n:Nat}(h:∀ i∈c,i < n):(ddI (c.map fun i:Nat=>(i:Int))).length<=n:=by
 rw[Dh]
 refine xR n _ (uC _ [] List.nodup_nil) fun x hx=>?_
 rcases GX _ [] x hx with z | z
 ·cases z
 ·obtain⟨i,hi,rfl⟩:=List.mem_map.mp z
  have:=h i hi
  lia
abbrev zU:Stmt:=top 29
def Lp:aG ZT ZT (aB zU):=c7
inductive Bp (vs:FH)(H:Hp)(Q:VK):Prop where
 | mk (v:V) (n:Nat) (t:Tm) (z0:vs=[v]) (z1:gZ n H v t) (z2:t.dep<=4) (z3:n<=12) (z4:∀ (r:Addr) (ms:D6) (H':Hp),aN H H'->H r=none->nmI (mnF t) ms->H' r=some (.lst (ms.map V.int))->Q (.ref r) H'):Bp  vs H Q
def Fq:Sp:=fun vs H Q _=>Bp  vs H Q
def Kr {k:Nat} (F:Fun K "named" "named" zU f fd) (B:Bt mg)
  (SB:Df P w K mg base "mentions" k ZT (jG 4)):bH P w K mg base CX0 (k+1) f fd ZT Fq:=by
 refine okA F Lp fun _ _ _ _ H _ Q E hr h=>?_
 obtain⟨v,n,t,rfl,rt,hd,hn,q⟩:=h
 refine⟨_,(az (aD (o4 U U B.sorted_ U B.set_ (aa (aY SB hr (aa (pv 0) ao)) ao)))),?_⟩
 refine⟨_,U,v,n,t,U,rt,hd,by decide,hn,fun r H1 s1 fr er=>?_⟩
 have lm:=pY hn (Vw 4) rt hd
 have ld:=RN (R4 rt)
 refine⟨r,(mnF t).map fun i:Nat=>(i:Int),U,sqL (by rw[er,gY]),by rw[Vs];lia,by lia,fun ms pm so l hl=>?_⟩
 exact q l ms _ (s1.trans (aA hl _)) (s1.free hl) ⟨pm,so⟩ aj
abbrev my:Stmt:=top 15
abbrev nM:Stmt:=top 21
abbrev lO:Stmt:=top 22
abbrev fH:Stmt:=top 23
abbrev qR:Stmt:=top 24
def wX:aG X2 X2 (aB my):=c7
def jl:aG ["many","thing","fewest","lowest_left","one"] XO (aB nM):=c7
def wJ:aG XZ XZ (aB lO):=c7
def iG:aG ["many","thing","deep","kind"] XZ (aB fH):=c7
def DN:aG Zs Zs (aB qR):=c7
def isNum:V->Int->Int->Bool
 | .int i,lo,hi=>decide (lo<=i) && decide (i<=hi)
 | _,_,_=>false
inductive NV:V->Prop where
 | int (i:Int):NV (.int i)
 | str (x:Wb):NV (.str x)
inductive BZ (vs:FH)(H:Hp)(Q:VK):Prop where
 | mk (x:V) (lo hi:Int) (z0:vs=[x,.int lo,.int hi]) (z1:NV x) (z2:Q (.bl (isNum x lo hi)) H):BZ  vs H Q
def ju:Sp:=fun vs H Q _=>BZ  vs H Q
def xr (F:Fun K "is_number" "is_number" my f fd) (B:Bt mg) :
  bH P w K mg base CX0 1 f fd X2 ju:=by
 refine okA F wX fun _ _ _ _ H _ Q E hr h=>?_
 obtain⟨x,lo,hi,rfl,pl,q⟩:=h
 refine⟨_,(az (aD (eX (aF (r:=vK K) cL U B.isinstance_ bc (aa (pv 0) (aa (jN B.int_ t8) ao))) (eX (Ql (aF (r:=vK K) cL U B.isinstance_ bc (aa (pv 0) (aa (jN B.bool_ zE) ao)))) (eX (cY PQ (pv 1) (pv 0)) (jz (cY PQ (pv 0) (pv 2)))))))),?_⟩
 cases pl with
 | int i =>
  refine⟨_,U,_,_,_,_,U,.int i,eY _ _,_,U,cW ?_⟩
  refine⟨_,U,_,_,_,_,U,.int i,lW _,_,U,_,U,cW ?_⟩
  refine⟨_,U,_,U,_,_,U,U,_,U,?_⟩
  have e:isNum (.int i) lo hi=(decide (lo<=i) && decide (i<=hi)):=rfl
  rw[e] at q
  cases c:decide (lo<=i) with
  | true =>
   rw[c] at q
   exact cW ⟨_,U,_,U,_,_,U,U,q⟩
  | false =>
   rw[c] at q
   exact bZ q
 | str y=>exact⟨_,U,_,_,_,_,U,.str y,El _,_,U,bZ q⟩
def jK {k lo hi:Int}(h1:lo<=k)(h2:k<=hi):isNum (.int k) lo hi=true:=by
 show (decide (lo<=k) && decide (k<=hi))=true
 rw[dcT h1,dcT h2]
 rfl
def CQ {i m:Nat}{lo:Int}(h:lo<=(i:Int)):isNum (.int (i:Int)) lo ((m:Int) - 1)=decide (i < m):=by
 show (decide (lo<=(i:Int)) && decide ((i:Int)<=(m:Int) - 1))=decide (i < m)
 rw[dcT h,Y7]
 exact decide_eq_decide.mpr ⟨fun z=>by lia,fun z=>by lia⟩
def ltF (m:Nat)(c:D7):Bool:=c.all fun i=>decide (i < m)
def Jd (m:Nat)(a b:D7):ltF m (a++b)=(ltF m a && ltF m b):=List.all_append
def Gv {m:Nat}{c:D7}:ltF m c=true ↔ ∀ i∈c,i < m:=by
 unfold ltF
 rw[List.all_eq_true]
 exact⟨fun h i hi=>of_decide_eq_true (h i hi),fun h i hi=>dcT (h i hi)⟩
def Q5 {m i:Nat}{c:D7}(h:i∈c)(hm:¬ i < m):ltF m c=false:=by
 cases e:ltF m c with
 | false=>rfl
 | true=>exact absurd (Gv.mp e i h) hm
inductive FQ (vs:FH)(H:Hp)(Q:VK):Prop where
 | mk (b:Addr) (c:D7) (m:Nat) (few:Int) (z0:vs=[.int (m:Int),.ref b,.int few]) (z1:H b=some (.tup (c.map vN))) (z2:c.Pairwise (· < ·)) (z3:few<=(c.length:Int)) (z4:Q (.bl (ltF m c)) H):FQ  vs H Q
def Mv:Sp:=fun vs H Q _=>FQ  vs H Q
def yQ (F:Fun K "is_crowd" "is_crowd" nM f fd) (B:Bt mg)
  (Qr:Df P w K mg base "is_number" 1 X2 ju):bH P w K mg base CX0 2 f fd XO Mv:=by
 refine okA F jl fun _ _ _ _ H _ Q E hr h=>?_
 obtain⟨b,c,m,few,rfl,hb,hp,hf,q⟩:=h
 refine⟨_,(au (aW (PW.pt (iI (dR (cI (aF (r:=vK K) cL U B.isinstance_ bc (aa (pv 1) (aa (jN B.tuple_ bQ) ao))))) (d7 (aH uW (aF (r:=iR K) aU U B.len_ bJ (aa (pv 1) ao)) (pv 2))))) (az (aD fK)) aC)
 (au (aP (i:=3) jl.nd U (VF U) aq)
 (au (cV Wq U (dq (pv 1)) (aJ (i:=4) jl.nd U (VF U)) (au (aW (dR (cI (aY Qr hr (aa (pv 4) (aa (pv 3) (aa (aR fc (pv 0) aq) ao)))))) (az (aD fK)) aC)
 (az (aP (i:=3) jl.nd U (VF U) (aR bR (pv 4) aq)))))
 (az (aD fK))))),?_⟩
 refine⟨_,U,_,_,_,_,U,.tup hb,eY _ _,_,U,bZ ?_⟩
 refine⟨_,U,b,_,U,.inr (sqT hb),_,U,_,_,U,U,_,U,?_⟩
 refine bu (by rw[Vs];lia) ?_
 refine⟨_,U,b,U,⟨_,sqT hb⟩,eF (K:=K) (a:=b) (xs:=c.map vN) (fun i σ H2=>H2=H/\∃ (lo:Int) (u:FC),σ=[some (.int (m:Int)),oR b,oI few,oI lo,u]/\(∀ x∈c.drop i,lo<=((x:Nat):Int))/\ltF m (c.take i)=true) ⟨U,0,_,U,fun x _=>by lia,by rw[Ws];rfl⟩ (fun i σ H2 _ h2=>by rw[h2.1];exact sqT hb) ?_ ?_⟩
 ·rintro i x σ H2 hx ⟨rfl,lo,u,rfl,hlo,hlt⟩
  obtain⟨y,hy,rfl⟩:=uG hx
  have hi:i < c.length:=(geS hy).1
  have ey:c[i]=y:=(geS hy).2
  have ed:c.drop i=y::c.drop (i+1):=by rw[ZF hi,ey]
  have hl:=hlo y (by rw[ed];exact VP)
  refine⟨_,U,_,U,_,U,_,_,U,U,vN y,lo,(m:Int) - 1,U,.int _,_,U,?_⟩
  rw[show vN y=V.int (y:Int) from U,CQ hl]
  by_cases hm:y < m
  ·rw[dcT hm]
   refine bZ ⟨_,U,_,_,U,U,U,(y:Int)+1,_,U,fun x hx=>?_,?_⟩
   ·have h1:=hp.drop (i:=i)
    rw[ed,Yb] at h1
    have:=h1.1 x hx
    lia
   ·rw[V8,hy,Jd,hlt,Y7]
    show (decide (y < m) && true)=true
    rw[dcT hm]
    rfl
  ·rw[dcF hm]
   refine cW ?_
   rw[Q5 (Wd hy) hm] at q
   exact q
 ·rintro σ H2 ⟨rfl,lo,u,rfl,hlo,hlt⟩
  rw[Vs,VJ] at hlt
  rw[hlt] at q
  exact q
def ne0 {n:Nat}(h:n≠0):¬ V.int (n:Int)=V.int 0:=fun z=>h (by injection z with z;lia)
inductive yw (k:Nat)(vs:FH)(H:Hp)(Q:VK):Prop where
 | mk (v:V) (m dp:Nat) (z0:vs=[.int (m:Int),v,.int (dp:Int)]) (z1:1<=dp) (z2:dp<=k) (z3:((∃ (n:Nat) (t:Tm),gZ n H v t/\t.dep<=dp/\∀ H',aN H H'->Q (.bl (ltF m (mnF t))) H')∨(∃ e:Addr,v = .ref e/\H e=some (.tup [])/\Q (.bl false) H))):yw k vs H Q
def jX (k:Nat):Sp:=fun vs H Q _=>yw k vs H Q
inductive Aw (k:Nat)(vs:FH)(H:Hp)(Q:VK):Prop where
 | mk (b:Addr) (us:FH) (ts:List Tm) (n m dp:Nat) (z0:vs=[.int (m:Int),.ref b,.int (dp:Int)]) (z1:dp<=k) (z2:H b=some (.tup us)) (z3:2<=us.length) (z4:us.length<=6) (z5:cu n H us ts) (z6:tdL ts<=dp) (z7:1<=dp) (z8:∀ H',aN H H'->Q (.bl (ltF m (mnL ts))) H'):Aw k vs H Q
def Ju (k:Nat):Sp:=fun vs H Q _=>Aw k vs H Q
theorem Fw (m:Nat):∀ ts:List Tm,(ts.map fun t=>ltF m (mnF t)).all (fun b=>b)=ltF m (mnL ts)
 | []=>by rw[mnL];rfl
 | t::r=>by
  have ih:=Fw m r
  rw[mnL,Jd,← ih]
  rfl
def gq {n k:Nat} {t1 t2:Tok} (F:Fun K "are_parts" "are_parts" lO f fd) (B:Bt mg) (TH:mg "FEWEST_PARTS" = some (.int 2 t1)) (TM:mg "MOST_PARTS" = some (.int 6 t2))
  (hk:1<=k) (Qr:Df P w K mg base "is_number" 1 X2 ju) (QN:Df P w K mg base "is_term_within" k XZ (jX n)):bH P w K mg base CX0 (k+1) f fd XZ (Ju n):=by
 refine okA F wJ fun _ _ _ _ H _ Q E hr h=>?_
 obtain⟨b,us,ts,n0,m,dp,rfl,hdp,hb,l2,l6,rl,hd,d1,q⟩:=h
 refine⟨_,(au (aW (PW.pt (iI (dR (cI (aF (r:=vK K) cL U B.isinstance_ bc (aa (pv 1) (aa (jN B.tuple_ bQ) ao))))) (d7 (dR (cI (aY Qr hr (aa (aF (r:=iR K) aU U B.len_ bJ (aa (pv 1) ao)) (aa (pG TH) (aa (pG TM) ao))))))))) (az (aD fK)) aC)
 (az (aD (aF (r:=K7 K) (qx U) U B.all_ Fd (aa (cz (L:=["part"]) (F:=["many","deep"]) (cap:=[0,2]) U (bF U U (by kernel_rfl)) (dq (pv 1)) (fun _ _ _ _ _=>(aJ (i:=0) (bw (by decide+kernel)) U (VF U))) (fun _ _ _ _ _=>cQ) (fun _ _ _ _ _=>(aY QN hr (aa (pv 1) (aa (pv 0) (aa (pv 2) ao)))))) ao))))),?_⟩
 have el:=rl.length
 refine⟨_,U,_,_,_,_,U,.tup hb,eY _ _,_,U,bZ ?_⟩
 refine⟨_,U,b,_,U,.inr (sqT hb),.int (us.length:Int),2,6,U,.int _,_,U,?_⟩
 rw[jK (by lia) (by lia)]
 refine bZ ⟨_,U,b,U,⟨_,sqT hb⟩,fun D hD=>cX (K:=K) (a:=b) (xs:=us) (fun i zs σ' H2=>(∃ u,σ'=[u,some (.int (m:Int)),some (.int (dp:Int))])/\zs=((ts.take i).map fun t=>ltF m (mnF t)).map V.bl/\aN H H2/\H2 D=some (.lst zs))
  ⟨⟨_,U⟩,U,aA hD _,aj⟩ (fun i zs σ' H2 _ h2=>⟨ik h2.2.2.1 (sqT hb),h2.2.2.2⟩) ?_ ?_⟩
 ·rintro i zs x σ' H2 hx ⟨⟨u,rfl⟩,e1,sm,hDl⟩
  have hi:i < us.length:=(geS hx).1
  obtain⟨t,ht,rt⟩:=rl.get hx
  refine gT ?_
  refine⟨_,U,_,U,_,U,x,m,dp,U,d1,hdp,.inl ⟨n0,t,rt.mono sm,Wf (gU ht) hd,fun H3 s3=>⟨s3 _ _ hDl,?_,⟨_,U⟩,?_,aV (sm.trans s3) hD _,aj⟩⟩⟩
  ·rw[e1,Vs,Vs,V0]
   exact aQ (by lia)
  ·rw[e1,V8,ht,VD,VD]
   rfl
 ·rintro zs σ' H2 ⟨_,e1,sm,hDl⟩
  rw[el,VJ] at e1
  refine⟨D,ts.map fun t=>ltF m (mnF t),U,sqL (by rw[hDl,e1]),?_⟩
  rw[Fw]
  exact q H2 sm
def zA:bH P w K mg base CX0 1 f fd XZ (jX 0):=by
 have no:∀ vs H Q E,¬ jX 0 vs H Q E:=fun vs H Q E h=>by
  obtain⟨v,m,dp,_,h1,h2,_⟩:=h
  lia
 exact⟨fun vs H Q E h=>absurd h (no vs H Q E),fun A outer s H args us vs Q E _ _ _ _ h=>absurd h (no vs H Q E)⟩
def dz {n k:Nat} {t1 t2 t3:Tok} (F:Fun K "is_term_within" "is_term_within" fH f fd) (B:Bt mg)
  (TU:mg "MOST_STEP" = some (.int 9 t1)) (TW:mg "MOST_SUM" = some (.int 99 t2)) (TL:mg "MOST_FOLK" = some (.int 12 t3)) (hk:2<=k) (Qr:Df P w K mg base "is_number" 1 X2 ju) (Qb:Df P w K mg base "is_crowd" 2 XO Mv)
  (PY:Df P w K mg base "are_parts" k XZ (Ju n)):bH P w K mg base CX0 (k+1) f fd XZ (jX (n+1)):=by
 refine okA F iG fun _ _ _ _ H _ Q E hr h=>?_
 obtain⟨v,m,dp,rfl,d1,dk,h⟩:=h
 refine⟨_,(au (aW (PW.pt (iI (aH uW (pv 2) aq) (iI (dR (cI (aF (r:=vK K) cL U B.isinstance_ bc (aa (pv 1) (aa (jN B.tuple_ bQ) ao))))) (d7 (aH bj (aF (r:=iR K) aU U B.len_ bJ (aa (pv 1) ao)) aq))))) (az (aD fK)) aC)
 (au (aP (i:=3) iG.nd U (VF U) (pxT K (pv 1) aq))
 (au (aW (PW.pt (iI (aH bj (pv 3) aL) (d7 (aH bj (pv 3) aL)))) (az (aD (cY bj (aF (r:=iR K) aU U B.len_ bJ (aa (pv 1) ao)) aq))) aC)
 (au (aW (aH bj (pv 3) aL) (az (aD (eX (cY bj (aF (r:=iR K) aU U B.len_ bJ (aa (pv 1) ao)) aq) (eX (aY Qr hr (aa (pxT K (pv 1) aq) (aa aq (aa (aR fc (pv 0) aq) ao)))) (jz (aY Qr hr (aa (pxT K (pv 1) aq) (aa aq (aa (pG TU) ao))))))))) aC)
 (au (aW (aH bj (pv 3) aL) (az (aD (eX (cY bj (aF (r:=iR K) aU U B.len_ bJ (aa (pv 1) ao)) aq) (eX (aY Qb hr (aa (pv 0) (aa (pxT K (pv 1) aq) (aa aq ao)))) (jz (aY Qr hr (aa (pxT K (pv 1) aq) (aa aq (aa (pG TW) ao))))))))) aC)
 (au (aW (aH bj (pv 3) aL) (au (aW (PW.pt (iI (aH sI (aF (r:=iR K) aU U B.len_ bJ (aa (pv 1) ao)) aq) (d7 (dR (cI (aY Qb hr (aa (pv 0) (aa (pxT K (pv 1) aq) (aa aq ao))))))))) (az (aD fK)) aC)
 (az (aD (eX (aY Qr hr (aa (pxT K (pv 1) aq) (aa aq (aa (pG TU) ao)))) (jz (aY Qr hr (aa (pxT K (pv 1) aq) (aa aq (aa (pG TL) ao))))))))) aC)
 (au (aW (PW.pt (iI (aH bj (pv 3) aL) (d7 (aH bj (pv 3) aL)))) (az (aD (eX (cY bj (aF (r:=iR K) aU U B.len_ bJ (aa (pv 1) ao)) aq) (jz (aY PY hr (aa (pv 0) (aa (pxT K (pv 1) aq) (aa (aR fc (pv 2) aq) ao)))))))) aC)
 (az (aD fK))))))))),?_⟩
 refine⟨_,U,_,_,U,U,_,U,bu (by lia) ?_⟩
 rcases h with⟨n0,t,rt,hd,q⟩ | ⟨e,rfl,he,q⟩
 ·have q0:=q H (aN.refl H)
  cases rt with
  | @free a ha =>
   refine⟨_,U,_,_,_,_,U,.tup ha,eY _ _,_,U,bZ ⟨_,U,a,_,U,.inr (sqT ha),U,_,U,bu (ne0 (YK _)) ?_⟩⟩
   refine⟨_,U,a,_,_,_,U,U,sqT ha,gt0,?_⟩
   refine⟨_,U,U,_,U,gR U (cW ?_)⟩
   rw[mnF] at q0
   exact⟨_,U,a,_,U,.inr (sqT ha),U,q0⟩
  | @never a ha =>
   refine⟨_,U,_,_,_,_,U,.tup ha,eY _ _,_,U,bZ ⟨_,U,a,_,U,.inr (sqT ha),U,_,U,bu (ne0 (YK _)) ?_⟩⟩
   refine⟨_,U,a,_,_,_,U,U,sqT ha,gt0,?_⟩
   refine⟨_,U,U,_,U,bu bz ⟨_,U,U,_,U,gR U ?_⟩⟩
   rw[mnF] at q0
   exact⟨_,U,a,_,U,.inr (sqT ha),U,q0⟩
  | @gives a i kk ha hi k1 k9 =>
   refine⟨_,U,_,_,_,_,U,.tup ha,eY _ _,_,U,bZ ⟨_,U,a,_,U,.inr (sqT ha),U,_,U,bu (ne0 (YK _)) ?_⟩⟩
   refine⟨_,U,a,_,_,_,U,U,sqT ha,gt0,?_⟩
   refine⟨_,U,U,_,U,bu bz ⟨_,U,U,_,U,bu bz ?_⟩⟩
   refine⟨_,U,U,_,U,gR U ?_⟩
   refine⟨_,U,a,_,U,.inr (sqT ha),U,_,U,gR U ?_⟩
   refine⟨_,U,a,_,_,_,U,U,sqT ha,gt1,_,U,_,_,U,U,vN i,0,(m:Int) - 1,U,.int _,_,U,?_⟩
   rw[show vN i=V.int (i:Int) from U,CQ (by lia)]
   rw[mnF] at q0
   have e:ltF m [i]=decide (i < m):=by
    show (decide (i < m) && true)=_
    rw[Bool.and_true]
   rw[e] at q0
   refine jE (fun c=>?_) (fun c=>?_)
   ·rw[c] at q0
    refine⟨_,U,a,_,_,_,U,U,sqT ha,gt2,.int kk,1,9,U,.int _,?_⟩
    rw[jK k1 k9]
    exact q0
   ·rw[Bool.eq_false_iff.mpr c] at q0
    exact q0
  | @sum a b c kk ha hb hc hp l20 l2 k1 k99 =>
   refine⟨_,U,_,_,_,_,U,.tup ha,eY _ _,_,U,bZ ⟨_,U,a,_,U,.inr (sqT ha),U,_,U,bu (ne0 (YK _)) ?_⟩⟩
   refine⟨_,U,a,_,_,_,U,U,sqT ha,gt0,?_⟩
   refine⟨_,U,U,_,U,bu bz ⟨_,U,U,_,U,bu bz ?_⟩⟩
   refine⟨_,U,U,_,U,bu bz ?_⟩
   refine⟨_,U,U,_,U,gR U ?_⟩
   refine⟨_,U,a,_,U,.inr (sqT ha),U,_,U,gR U ?_⟩
   refine⟨_,U,_,U,a,_,_,_,U,U,sqT ha,gt1,b,c,m,2,U,hb,hp,by lia,_,U,?_⟩
   rw[mnF] at q0
   refine jE (fun c=>?_) (fun c=>?_)
   ·rw[c] at q0
    refine⟨_,U,a,_,_,_,U,U,sqT ha,gt2,.int kk,1,99,U,.int _,?_⟩
    rw[jK k1 k99]
    exact q0
   ·rw[Bool.eq_false_iff.mpr c] at q0
    exact q0
  | @crowd a b c kk mm ha hb hc hp l20 l1 k1 k9 m1 m12 =>
   refine⟨_,U,_,_,_,_,U,.tup ha,eY _ _,_,U,bZ ⟨_,U,a,_,U,.inr (sqT ha),U,_,U,bu (ne0 (YK _)) ?_⟩⟩
   refine⟨_,U,a,_,_,_,U,U,sqT ha,gt0,?_⟩
   refine⟨_,U,U,_,U,bu bz ⟨_,U,U,_,U,bu bz ?_⟩⟩
   refine⟨_,U,U,_,U,bu bz ?_⟩
   refine⟨_,U,U,_,U,bu bz ?_⟩
   refine⟨_,U,U,_,U,gR U ?_⟩
   refine⟨_,U,a,_,U,.inr (sqT ha),U,_,U,j8 U ?_⟩
   refine⟨_,U,_,U,a,_,_,_,U,U,sqT ha,gt1,b,c,m,1,U,hb,hp,by lia,_,U,?_⟩
   rw[mnF] at q0
   cases z:ltF m c with
   | false =>
    rw[z] at q0
    exact cW q0
   | true =>
    rw[z] at q0
    refine bZ ⟨_,U,a,_,_,_,U,U,sqT ha,gt2,.int kk,1,9,U,.int _,_,U,?_⟩
    rw[jK k1 k9]
    refine cW ⟨_,U,a,_,_,_,U,U,sqT ha,dD (k:=3) U,.int mm,1,12,U,.int _,?_⟩
    rw[jK m1 m12]
    exact q0
  | @all a b us ts ha hb l2 l6 rl =>
   have hdl:tdL ts+1<=dp:=by rw[Tm.dep] at hd;exact hd
   have t1:=uH rl l2
   refine⟨_,U,_,_,_,_,U,.tup ha,eY _ _,_,U,bZ ⟨_,U,a,_,U,.inr (sqT ha),U,_,U,bu (ne0 (YK _)) ?_⟩⟩
   refine⟨_,U,a,_,_,_,U,U,sqT ha,gt0,?_⟩
   refine⟨_,U,U,_,U,bu bz ⟨_,U,U,_,U,bu bz ?_⟩⟩
   refine⟨_,U,U,_,U,bu bz ?_⟩
   refine⟨_,U,U,_,U,bu bz ?_⟩
   refine⟨_,U,U,_,U,bu bz ?_⟩
   refine⟨_,U,U,_,U,gR U (cW ?_)⟩
   refine⟨_,U,a,_,U,.inr (sqT ha),U,_,U,gR U ?_⟩
   refine⟨_,U,_,U,a,_,_,_,U,U,sqT ha,gt1,_,U,_,_,U,U,b,us,ts,n0,m,dp - 1,?_,by lia,hb,l2,l6,rl,by lia,by lia,fun H' s'=>?_⟩
   ·rw[show ((dp - 1:Nat):Int)=(dp:Int) - 1 by lia]
    rfl
   ·have q1:=q H' s'
    rw[mnF] at q1
    exact q1
  | @any a b us ts ha hb l2 l6 rl =>
   have hdl:tdL ts+1<=dp:=by rw[Tm.dep] at hd;exact hd
   have t1:=uH rl l2
   refine⟨_,U,_,_,_,_,U,.tup ha,eY _ _,_,U,bZ ⟨_,U,a,_,U,.inr (sqT ha),U,_,U,bu (ne0 (YK _)) ?_⟩⟩
   refine⟨_,U,a,_,_,_,U,U,sqT ha,gt0,?_⟩
   refine⟨_,U,U,_,U,bu bz ⟨_,U,U,_,U,bu bz ?_⟩⟩
   refine⟨_,U,U,_,U,bu bz ?_⟩
   refine⟨_,U,U,_,U,bu bz ?_⟩
   refine⟨_,U,U,_,U,bu bz ?_⟩
   refine⟨_,U,U,_,U,bu bz ⟨_,U,U,_,U,gR U ?_⟩⟩
   refine⟨_,U,a,_,U,.inr (sqT ha),U,_,U,gR U ?_⟩
   refine⟨_,U,_,U,a,_,_,_,U,U,sqT ha,gt1,_,U,_,_,U,U,b,us,ts,n0,m,dp - 1,?_,by lia,hb,l2,l6,rl,by lia,by lia,fun H' s'=>?_⟩
   ·rw[show ((dp - 1:Nat):Int)=(dp:Int) - 1 by lia]
    rfl
   ·have q1:=q H' s'
    rw[mnF] at q1
    exact q1
 ·refine⟨_,U,_,_,_,_,U,.tup he,eY _ _,_,U,bZ ⟨_,U,e,_,U,.inr (sqT he),U,_,U,gR U q⟩⟩
inductive vV (vs:FH)(H:Hp)(Q:VK):Prop where
 | mk (v:V) (m:Nat) (z0:vs=[.int (m:Int),v]) (z1:((∃ (n:Nat) (t:Tm),gZ n H v t/\t.dep<=4/\∀ H',aN H H'->Q (.bl (ltF m (mnF t))) H')∨(∃ e:Addr,v = .ref e/\H e=some (.tup [])/\Q (.bl false) H))):vV  vs H Q
def Cu:Sp:=fun vs H Q _=>vV  vs H Q
def Eo {k:Nat} {t1:Tok} (F:Fun K "is_term" "is_term" qR f fd) (B:Bt mg) (TK:mg "MOST_DEPTH" = some (.int 4 t1))
  (QN:Df P w K mg base "is_term_within" k XZ (jX 4)):bH P w K mg base CX0 (k+1) f fd Zs Cu:=by
 refine okA F DN fun _ _ _ _ H _ Q E hr h=>?_
 obtain⟨v,m,rfl,h⟩:=h
 refine⟨_,(az (aD (aY QN hr (aa (pv 0) (aa (pv 1) (aa (pG TK) ao)))))),?_⟩
 exact⟨_,U,_,U,v,m,4,U,by decide,by decide,h⟩
inductive Rg where
 | rung (k:Int) (t:Tm) | bad
inductive lD (n:Nat)(H:Hp):V->Rg->Prop where
 | rung {r:Addr} {k:Int} {v:V} {t:Tm}:H r=some (.tup [.int k,v])->gZ n H v t->t.dep<=4->lD n H (.ref r) (.rung k t)
 | odd {r:Addr} {xs:FH}:H r=some (.tup xs)->xs.length≠2->lD n H (.ref r) .bad
 | text {r:Addr} {x:Wb} {v:V}:H r=some (.tup [.str x,v])->lD n H (.ref r) .bad
 | hollow {r e:Addr} {k:Int}:H r=some (.tup [.int k,.ref e])->H e=some (.tup [])->lD n H (.ref r) .bad
theorem lD.aO {n:Nat}{H H':Hp}{v:V}{g:Rg}(e:∀ a xs,H a=some (HO.tup xs)->H' a=some (HO.tup xs)):lD n H v g->lD n H' v g
 | .rung h t d=>.rung (e _ _ h) (t.aO e) d
 | .odd h l=>.odd (e _ _ h) l
 | .text h=>.text (e _ _ h)
 | .hollow h h2=>.hollow (e _ _ h) (e _ _ h2)
def lD.mono {n:Nat}{H H':Hp}{v:V}{g:Rg}(e:aN H H')(h:lD n H v g):lD n H' v g:=h.aO fun a xs q=>e a _ q
inductive lB (n:Nat)(H:Hp):FH->List Rg->Prop where
 | nil:lB n H [] []
 | cons {v:V} {g:Rg} {vs:FH} {gs:List Rg}:lD n H v g->lB n H vs gs->lB n H (v::vs) (g::gs)
theorem lB.aO {n:Nat}{H H':Hp}(e:∀ a xs,H a=some (HO.tup xs)->H' a=some (HO.tup xs)):∀ {vs:FH} {gs:List Rg},lB n H vs gs->lB n H' vs gs
 | _,_,.nil=>.nil
 | _,_,.cons h r=>.cons (h.aO e) (lB.aO e r)
theorem lB.length {n:Nat}{H:Hp}:∀ {vs:FH} {gs:List Rg},lB n H vs gs->vs.length=gs.length
 | _,_,.nil=>rfl
 | _,_,.cons _ r=>by rw[V2,V2,lB.length r]
theorem lB.get {n:Nat}{H:Hp}:∀ {vs:FH} {gs:List Rg} {i:Nat} {v:V},lB n H vs gs->vs[i]? = some v->∃ g,gs[i]? = some g/\lD n H v g
 | _,_,_,_,.nil,h=>by simp at h
 | _,_,0,_,.cons h _,e=>by
  cases (show some _=some _ from e)
  exact⟨_,U,h⟩
 | _,_,i+1,_,.cons _ r,e=>by
  obtain⟨g,e1,e2⟩:=lB.get (i:=i) r (by simpa using e)
  exact⟨g,by simpa using e1,e2⟩
def rgF (m who:Nat)(lo:Int):Rg->Bool
 | .rung k t=>(decide (lo<=k) && decide (k<=9)) && (ltF m (mnF t) && !decide (who∈mnF t))
 | .bad=>false
def rgK:Rg->Int
 | .rung k _=>k
 | .bad=>0
def plF (m who:Nat):Int->List Rg->Bool
 | _,[]=>true
 | lo,g::r=>rgF m who lo g && plF m who (rgK g+1) r
def Qh (m who:Nat)(gs:List Rg):Bool:=(decide (1<=gs.length) && decide (gs.length<=9)) && plF m who 1 gs
theorem Cp (x:Int):∀ ns:D6,inV (.int x) (ns.map V.int)=decide (x∈ns)
 | []=>by rw[dcF (by simp)];rfl
 | n::r=>by
  have ih:=Cp x r
  show (eqV (.int n) (.int x) || inV (.int x) (r.map V.int))=_
  rw[ih]
  have e:eqV (.int n) (.int x)=(n == x):=rfl
  rw[e,aap]
  simp only[acz,decide_eq_true_eq,Y5,beq_iff_eq]
  exact⟨fun h=>h.elim (fun z=>.inl z.symm) .inr,fun h=>h.elim (fun z=>.inl z.symm) .inr⟩
def Rr {c:D7}{ms:D6}(h:nmI c ms)(x:Nat):(x:Int)∈ms ↔ x∈c:=by
 obtain⟨p,_⟩:=h
 rw[p.mem_iff,Dh,Hs]
 constructor
 ·rintro (h | h)
  ·cases h
  ·obtain⟨y,hy,e⟩:=List.mem_map.mp h
   have:x=y:=by lia
   rw[this]
   exact hy
 ·exact fun h=>.inr (List.mem_map.mpr ⟨x,h,U⟩)
def Ln (ns:D6):(ns.map V.int).all sE=true:=by
 rw[ab3]
 exact List.all_eq_true.mpr fun _ _=>U
abbrev qH:Stmt:=top 32
abbrev lY:Stmt:=top 33
def nF:aG ["many","one","thing","lowest_step","step","term"] WF (aB qH):=c7
def gA:aG ["many","one","thing","lowest_step","rung"] X9 (aB lY):=c7
inductive yl (vs:FH)(H:Hp)(Q:VK):Prop where
 | mk (v:V) (g:Rg) (n m who:Nat) (lo:Int) (z0:vs=[.int (m:Int),.int (who:Int),v,.int lo]) (z1:lD n H v g) (z2:n<=12) (z3:∀ H',aN H H'->Q (.bl (rgF m who lo g)) H'):yl  vs H Q
def Bj:Sp:=fun vs H Q _=>yl  vs H Q
def ne2 {n:Nat}(h:n≠2):(!decide (V.int (n:Int)=V.int 2))=true:=by
 rw[dcF fun z=>h (by injection z with z;lia)]
 rfl
def Dw {k:Nat} {t1:Tok} (F:Fun K "is_rung" "is_rung" qH f fd) (B:Bt mg) (TU:mg "MOST_STEP" = some (.int 9 t1)) (hk:5<=k)
  (Qr:Df P w K mg base "is_number" 1 X2 ju) (QI:Df P w K mg base "is_term" k Zs Cu) (SC:Df P w K mg base "named" 5 ZT Fq):bH P w K mg base CX0 (k+1) f fd WF Bj:=by
 refine okA F nF fun _ _ _ _ H _ Q E hr h=>?_
 obtain⟨v,g,n,m,who,lo,rfl,rg,hn,q⟩:=h
 refine⟨_,(au (aW (PW.pt (iI (dR (cI (aF (r:=vK K) cL U B.isinstance_ bc (aa (pv 2) (aa (jN B.tuple_ bQ) ao))))) (d7 (aH sI (aF (r:=iR K) aU U B.len_ bJ (aa (pv 2) ao)) aq)))) (az (aD fK)) aC)
 (au (xN (pv 2) (d8 (K:=K) 2 U U (bf (aJ (i:=4) nF.nd U (VF U)) (bf (aJ (i:=5) nF.nd U (VF U)) eG))))
 (az (aD (eX (aY Qr hr (aa (pv 4) (aa (pv 3) (aa (pG TU) ao)))) (eX (aY QI hr (aa (pv 0) (aa (pv 5) ao))) (jz (Fg (r:=rIn K true) ph (pv 1) (aY SC hr (aa (pv 5) ao)) U)))))))),?_⟩
 have q0:=q H (aN.refl H)
 cases rg with
 | @rung r kk u t hr0 rt hd =>
  refine⟨_,U,_,_,_,_,U,.tup hr0,eY _ _,_,U,bZ ⟨_,U,r,_,U,.inr (sqT hr0),U,_,U,j8 U ?_⟩⟩
  refine⟨_,U,r,_,U,sqT hr0,U,_,_,U,_,_,U,U,?_⟩
  refine⟨_,U,_,U,.int kk,lo,9,U,.int _,_,U,?_⟩
  have er:rgF m who lo (.rung kk t)=(isNum (.int kk) lo 9 && (ltF m (mnF t) && !decide (who∈mnF t))):=rfl
  rw[er] at q q0
  refine jE (fun c=>?_) (fun c=>?_)
  ·rw[c,Y7] at q
   refine⟨_,U,_,U,u,m,U,.inl ⟨n,t,rt,hd,fun H1 s1=>⟨_,U,?_⟩⟩⟩
   refine jE (fun c2=>?_) (fun c2=>?_)
   ·rw[c2,Y7] at q
    refine⟨_,U,_,U,u,n,t,U,rt.mono s1,hd,hn,fun r1 ms H2 s2 f2 nm e2=>?_⟩
    refine⟨r1,_,U,.inl (sqL e2),U,Ln ms,?_⟩
    have q':=q H2 (s1.trans s2)
    rw[show (decide (who∈mnF t))=inV (.int (who:Int)) (ms.map V.int) by rw[Cp];exact decide_eq_decide.mpr (Rr nm who).symm] at q'
    exact q'
   ·have q':=q H1 s1
    rw[Bool.eq_false_iff.mpr c2,Zv] at q'
    exact q'
  ·rw[Bool.eq_false_iff.mpr c,Zv] at q0
   exact q0
 | @odd r xs hr0 hl =>
  exact⟨_,U,_,_,_,_,U,.tup hr0,eY _ _,_,U,bZ ⟨_,U,r,_,U,.inr (sqT hr0),U,_,U,JR (ne2 hl) q0⟩⟩
 | @text r x u hr0 =>
  refine⟨_,U,_,_,_,_,U,.tup hr0,eY _ _,_,U,bZ ⟨_,U,r,_,U,.inr (sqT hr0),U,_,U,j8 U ?_⟩⟩
  refine⟨_,U,r,_,U,sqT hr0,U,_,_,U,_,_,U,U,?_⟩
  exact⟨_,U,_,U,.str x,lo,9,U,.str _,_,U,bZ q0⟩
 | @hollow r e kk hr0 he =>
  refine⟨_,U,_,_,_,_,U,.tup hr0,eY _ _,_,U,bZ ⟨_,U,r,_,U,.inr (sqT hr0),U,_,U,j8 U ?_⟩⟩
  refine⟨_,U,r,_,U,sqT hr0,U,_,_,U,_,_,U,U,?_⟩
  refine⟨_,U,_,U,.int kk,lo,9,U,.int _,_,U,?_⟩
  refine jE (fun c=>?_) (fun c=>?_)
  ·exact⟨_,U,_,U,.ref e,m,U,.inr ⟨e,U,he,_,U,bZ q0⟩⟩
  ·exact q0
inductive qy (vs:FH)(H:Hp)(Q:VK):Prop where
 | mk (a:Addr) (us:FH) (gs:List Rg) (n m who:Nat) (z0:vs=[.int (m:Int),.int (who:Int),.ref a]) (z1:H a=some (.tup us)) (z2:lB n H us gs) (z3:n<=12) (z4:us.length<=20) (z5:1<=m) (z6:∀ H',aN H H'->Q (.bl (Qh m who gs)) H'):qy  vs H Q
def tZ:Sp:=fun vs H Q _=>qy  vs H Q
def lD.good {n:Nat}{H:Hp}{v:V}{g:Rg}{m who:Nat}{lo:Int}(h:lD n H v g)(e:rgF m who lo g=true):∃ r kk u t,v = .ref r/\H r=some (.tup [.int kk,u])/\gZ n H u t/\t.dep<=4/\g = .rung kk t:=by
 cases h with
 | rung h1 h2 h3=>exact⟨_,_,_,_,U,h1,h2,h3,U⟩
 | odd=>cases e
 | text=>cases e
 | hollow=>cases e
def xx {k:Nat} {t1:Tok} (F:Fun K "is_pledge" "is_pledge" lY f fd) (B:Bt mg) (TR:mg "MOST_RUNGS" = some (.int 9 t1)) (hk:1<=k)
  (Qr:Df P w K mg base "is_number" 1 X2 ju) (QE:Df P w K mg base "is_rung" k WF Bj):bH P w K mg base CX0 (k+1) f fd X9 tZ:=by
 refine okA F gA fun _ _ _ _ H _ Q E hr h=>?_
 obtain⟨a,us,gs,n,m,who,rfl,ha,rg,hn,l20,hm,q⟩:=h
 refine⟨_,(au (aW (PW.pt (iI (dR (cI (aF (r:=vK K) cL U B.isinstance_ bc (aa (pv 2) (aa (jN B.tuple_ bQ) ao))))) (d7 (dR (cI (aY Qr hr (aa (aF (r:=iR K) aU U B.len_ bJ (aa (pv 2) ao)) (aa aq (aa (pG TR) ao))))))))) (az (aD fK)) aC)
 (au (aP (i:=3) gA.nd U (VF U) aq)
 (au (cV Wq U (dq (pv 2)) (aJ (i:=4) gA.nd U (VF U)) (au (aW (dR (cI (aY QE hr (aa (pv 0) (aa (pv 1) (aa (pv 4) (aa (pv 3) ao))))))) (az (aD fK)) aC)
 (az (aP (i:=3) gA.nd U (VF U) (aR bR (pxT K (pv 4) aq) aq)))))
 (az (aD fK))))),?_⟩
 have el:=rg.length
 have q0:=q H (aN.refl H)
 refine⟨_,U,_,_,_,_,U,.tup ha,eY _ _,_,U,bZ ⟨_,U,a,_,U,.inr (sqT ha),.int (us.length:Int),1,9,U,.int _,_,U,?_⟩⟩
 have en:isNum (.int (us.length:Int)) 1 9=(decide (1<=gs.length) && decide (gs.length<=9)):=by
  show (decide ((1:Int)<=(us.length:Int)) && decide ((us.length:Int)<=9))=_
  rw[el]
  congr 1
  ·exact decide_eq_decide.mpr ⟨fun z=>by lia,fun z=>by lia⟩
  ·exact decide_eq_decide.mpr ⟨fun z=>by lia,fun z=>by lia⟩
 rw[en]
 unfold Qh at q q0
 cases hc:(decide (1<=gs.length) && decide (gs.length<=9)) with
 | false =>
  rw[hc,Zv] at q0
  exact cW q0
 | true =>
  rw[hc,Y7] at q
  refine bZ ⟨_,U,a,U,⟨_,sqT ha⟩,eF (K:=K) (a:=a) (xs:=us) (fun i σ H2=>aN H H2/\∃ (lo:Int) (u:FC),σ=[some (.int (m:Int)),some (.int (who:Int)),oR a,oI lo,u]/\plF m who lo (gs.drop i)=plF m who 1 gs)
   ⟨aN.refl H,1,_,U,by rw[List.drop_zero]⟩ (fun i σ H2 _ h=>sqT (h.1 _ _ ha)) ?_ ?_⟩
  ·rintro i x σ H2 hx ⟨sm,lo,u,rfl,er⟩
   obtain⟨g,hg,rx⟩:=rg.get hx
   have hi:i < gs.length:=(geS hg).1
   have eg:gs[i]=g:=(geS hg).2
   have ed:gs.drop i=g::gs.drop (i+1):=by rw[ZF hi,eg]
   rw[ed,plF] at er
   refine⟨_,U,_,U,_,U,_,U,x,g,n,m,who,lo,U,rx.mono sm,hn,fun H3 s3=>⟨_,U,?_⟩⟩
   cases e:rgF m who lo g with
   | false =>
    rw[e,Zv] at er
    have q':=q H3 (sm.trans s3)
    rw[← er] at q'
    exact cW q'
   | true =>
    rw[e,Y7] at er
    obtain⟨r,kk,y,t,rfl,h1,_,_,rfl⟩:=rx.good e
    refine bZ ⟨_,U,r,_,_,_,U,U,sqT (s3 _ _ (sm _ _ h1)),gt0,_,_,U,U,sm.trans s3,kk+1,_,U,er⟩
  ·rintro σ H2 ⟨sm,lo,u,rfl,er⟩
   rw[el,ach,plF] at er
   have q':=q H2 sm
   rw[← er] at q'
   exact q'
abbrev lK:Stmt:=top 64
def wZ:aG WI WI (aB lK):=c7
theorem Hu (g:D6):∀ ts:List Tm,(ts.map (hF g)).all (fun b=>b)=xW g ts
 | []=>by rw[xW];rfl
 | t::r=>by rw[xW,← Hu g r];rfl
theorem Iv (g:D6):∀ ts:List Tm,(ts.map (hF g)).any (fun b=>b)=xZ g ts
 | []=>by rw[xZ];rfl
 | t::r=>by rw[xZ,← Iv g r];rfl
theorem Be (f:Nat->Bool):∀ c:D7,(c.map fun i=>if f i=true then (1:Int) else 0).sum=((c.filter f).length:Int)
 | []=>rfl
 | i::c=>by
  have ih:=Be f c
  rw[WL,List.sum_cons,ih,aad]
  split
  ·rw[V2]
   lia
  ·lia
def yW:bH P w K mg base CX0 0 f fd WI (eE K 0):=by
 have no:∀ vs H Q E,¬ eE K 0 vs H Q E:=fun vs H Q E h=>by
  obtain⟨v,g,n,t,ns,_,_,h1,_⟩:=h
  have:=t.nC
  lia
 exact⟨fun vs H Q E h=>absurd h (no vs H Q E),fun A outer s H args us vs Q E _ _ _ _ h=>absurd h (no vs H Q E)⟩
def gG {d:Nat} (F:Fun K "_law_holds" "_law_holds" lK f fd) (B:Bt mg)
  (RI:Df P w K mg base "_law_holds" d WI (eE K d)):bH P w K mg base CX0 (d+1) f fd WI (eE K (d+1)):=by
 refine okA F wZ fun _ _ _ _ H _ Q E hr h=>?_
 obtain⟨v,g,n,t,ns,rfl,rt,hd,hg,hn,q⟩:=h
 refine⟨_,(au (aW (aH bj (pxT K (pv 0) aq) aL) (az (aD (cY lJ (pxT K (pv 1) (pxT K (pv 0) aq)) (pxT K (pv 0) aq)))) aC)
 (au (aW (aH bj (pxT K (pv 0) aq) aL) (az (aD (cY lJ (aF (r:=Kz K) (qj U) U B.sum_ Gf (aa (cz (L:=ZN) (F:=ZA) (cap:=[1]) U (bF U U (by kernel_rfl)) (dq (pxT K (pv 0) aq)) (fun _ _ _ _ _=>(aJ (i:=0) (bw (by decide+kernel)) U (VF U))) (fun _ _ _ _ _=>cQ) (fun _ _ _ _ _=>(pxT K (pv 1) (pv 0)))) ao)) (pxT K (pv 0) aq)))) aC)
 (au (aW (aH bj (pxT K (pv 0) aq) aL) (az (aD (cY lJ (aF (r:=Kz K) (qj U) U B.sum_ Gf (aa (cz (L:=ZN) (F:=["_law_giving","_law_term_here"]) (cap:=[1,0]) U (bF U U (by kernel_rfl)) (dq (pxT K (pv 0) aq)) (fun _ _ _ _ _=>(aJ (i:=0) (bw (by decide+kernel)) U (VF U))) (fun _ _ _ _ _=>cQ) (fun _ _ _ _ _=>(bh (r:=Pn) qu U B.int_ t8 (aa (cY lJ (pxT K (pv 1) (pv 0)) (pxT K (pv 2) aq)) ao)))) ao)) (pxT K (pv 0) aq)))) aC)
 (au (aW (aH bj (pxT K (pv 0) aq) aL) (az (aD (aF (r:=K7 K) (qx U) U B.all_ Fd (aa (cz (L:=["_law_part"]) (F:=ZA) (cap:=[1]) U (bF U U (by kernel_rfl)) (dq (pxT K (pv 0) aq)) (fun _ _ _ _ _=>(aJ (i:=0) (bw (by decide+kernel)) U (VF U))) (fun _ _ _ _ _=>cQ) (fun _ _ _ _ _=>(aY RI hr (aa (pv 0) (aa (pv 1) ao))))) ao)))) aC)
 (az (aD (Sx (cY bj (pxT K (pv 0) aq) aL) (jz (eX (cY bj (pxT K (pv 0) aq) aL) (jz (aF (r:=RM K) (Jr U) U B.any_ Qt (aa (cz (L:=["_law_part"]) (F:=ZA) (cap:=[1]) U (bF U U (by kernel_rfl)) (dq (pxT K (pv 0) aq)) (fun _ _ _ _ _=>(aJ (i:=0) (bw (by decide+kernel)) U (VF U))) (fun _ _ _ _ _=>cQ) (fun _ _ _ _ _=>(aY RI hr (aa (pv 0) (aa (pv 1) ao))))) ao)))))))))))),?_⟩
 have parts:∀ (D:Addr),H D=none->∀ (b:Addr) (us:FH) (ts:List Tm) (Z:Hp->Prop) (te:TE),us.length<=6->H b=some (.tup us)->cu n H us ts->tdL ts<=d →
   (∀ (x:V) (t:Tm) (σ':St) (H2:Hp) (R:V->Hp->Prop),gZ n H2 x t->aN H H2->t.dep<=d->σ'=[some x,oR g]->(∀ H3,aN H2 H3->R (.bl (hF ns t)) H3)->te σ' H2 R) →
   (∀ H2:Hp,aN H H2->H2 D=some (.lst ((ts.map (hF ns)).map V.bl))->Z H2)->mD D [none,some (.ref g)] (Itt K b) (zg 0) Oh te H Z:=fun D hD b us ts Z te lu hb rl td hte hQ=>by
  have el:=rl.length
  refine cX (K:=K) (a:=b) (xs:=us) (fun i zs σ' H2=>(∃ u,σ'=[u,oR g])/\zs=((ts.take i).map (hF ns)).map V.bl/\aN H H2/\H2 D=some (.lst zs))
   ⟨⟨_,U⟩,U,aA hD _,aj⟩ (fun i zs σ' H2 _ h=>⟨ik h.2.2.1 (sqT hb),h.2.2.2⟩) ?_ ?_
  ·rintro j zs x σ' H2 hx ⟨⟨u,rfl⟩,e1,sm,hDl⟩
   obtain⟨t,ht,rt⟩:=rl.get hx
   have hj:j < us.length:=(geS hx).1
   refine gT ?_
   refine hte x t _ H2 _ (rt.mono sm) sm (Wf (gU ht) td) U fun H3 s3=>⟨s3 _ _ hDl,?_,⟨_,U⟩,?_,aV (sm.trans s3) hD _,aj⟩
   ·rw[e1,Vs,Vs,V0]
    exact aQ (by lia)
   ·rw[e1,V8,ht,VD,VD]
    rfl
  ·rintro zs σ' H2 ⟨⟨u,rfl⟩,e1,sm,hDl⟩
   rw[el,VJ] at e1
   exact hQ H2 sm (by rw[hDl,e1])
 cases rt with
 | @free a ha =>
  refine⟨_,U,a,_,_,_,U,U,sqT ha,gt0,U,_,U,bu bz ?_⟩
  refine⟨_,U,a,_,_,_,U,U,sqT ha,gt0,U,_,U,bu bz ?_⟩
  refine⟨_,U,a,_,_,_,U,U,sqT ha,gt0,U,_,U,bu bz ?_⟩
  refine⟨_,U,a,_,_,_,U,U,sqT ha,gt0,U,_,U,bu bz ?_⟩
  refine⟨_,U,a,_,_,_,U,U,sqT ha,gt0,U,_,U,gR U ?_⟩
  have q':=q H (aN.refl H)
  rw[hF] at q'
  exact q'
 | @never a ha =>
  refine⟨_,U,a,_,_,_,U,U,sqT ha,gt0,U,_,U,bu bz ?_⟩
  refine⟨_,U,a,_,_,_,U,U,sqT ha,gt0,U,_,U,bu bz ?_⟩
  refine⟨_,U,a,_,_,_,U,U,sqT ha,gt0,U,_,U,bu bz ?_⟩
  refine⟨_,U,a,_,_,_,U,U,sqT ha,gt0,U,_,U,bu bz ?_⟩
  refine⟨_,U,a,_,_,_,U,U,sqT ha,gt0,U,_,U,bu bz ?_⟩
  refine⟨_,U,a,_,_,_,U,U,sqT ha,gt0,U,_,U,bu bz ?_⟩
  have q':=q H (aN.refl H)
  rw[hF] at q'
  exact q'
 | @gives a i k ha hi _ _ =>
  refine⟨_,U,a,_,_,_,U,U,sqT ha,gt0,U,_,U,gR U ?_⟩
  refine⟨_,U,_,U,a,_,_,_,U,U,sqT ha,gt1,g,_,_,_,U,U,hg,atD (by lia),_,U,a,_,_,_,U,U,sqT ha,gt2,_,_,U,U,?_⟩
  have q':=q H (aN.refl H)
  rw[hF] at q'
  exact q'
 | @sum a b c k ha hb hc _ hl _ _ _ =>
  refine⟨_,U,a,_,_,_,U,U,sqT ha,gt0,U,_,U,bu bz ?_⟩
  refine⟨_,U,a,_,_,_,U,U,sqT ha,gt0,U,_,U,gR U ?_⟩
  refine⟨_,U,a,_,_,_,U,U,sqT ha,gt1,b,U,⟨_,sqT hb⟩,fun D hD=>cX (K:=K) (a:=b) (xs:=c.map vN) (fun i zs σ' H2=>(∃ u,σ'=[u,oR g])/\zs=((c.take i).map fun i=>ns.getD i 0).map V.int/\aN H H2/\H2 D=some (.lst zs))
   ⟨⟨_,U⟩,U,aA hD _,aj⟩ (fun i zs σ' H2 _ h=>⟨ik h.2.2.1 (sqT hb),h.2.2.2⟩) ?_ ?_⟩
  ·rintro j zs x σ' H2 hx ⟨⟨u,rfl⟩,e1,sm,hDl⟩
   obtain⟨i,hi,rfl⟩:=uG hx
   have hin:i < n:=hc i (Wd hi)
   refine gT ?_
   refine⟨_,U,_,U,g,_,_,_,U,U,ik sm hg,atD (by lia),hDl,?_,⟨_,U⟩,?_,aV sm hD _,aj⟩
   ·rw[e1,Vs,Vs,V0]
    exact aQ (by lia)
   ·rw[e1,V8,hi,VD,VD]
    rfl
  ·rintro zs σ' H2 ⟨⟨u,rfl⟩,e1,sm,hDl⟩
   rw[Vs,VJ] at e1
   refine⟨D,_,U,sqL (by rw[hDl,e1]),_,U,a,_,_,_,U,U,sqT (sm _ _ ha),gt2,_,_,U,U,?_⟩
   have q':=q H2 sm
   rw[hF] at q'
   exact q'
 | @crowd a b c k m ha hb hc _ hl _ _ _ _ _ =>
  refine⟨_,U,a,_,_,_,U,U,sqT ha,gt0,U,_,U,bu bz ?_⟩
  refine⟨_,U,a,_,_,_,U,U,sqT ha,gt0,U,_,U,bu bz ?_⟩
  refine⟨_,U,a,_,_,_,U,U,sqT ha,gt0,U,_,U,gR U ?_⟩
  refine⟨_,U,a,_,_,_,U,U,sqT ha,gt1,b,U,⟨_,sqT hb⟩,fun D hD=>cX (K:=K) (a:=b) (xs:=c.map vN) (fun i zs σ' H2=>(∃ u,σ'=[u,oR g,oR a])/\zs=((c.take i).map fun i=>if decide (k<=ns.getD i 0)=true then (1:Int) else 0).map V.int/\aN H H2/\H2 D=some (.lst zs))
   ⟨⟨_,U⟩,U,aA hD _,aj⟩ (fun i zs σ' H2 _ h=>⟨ik h.2.2.1 (sqT hb),h.2.2.2⟩) ?_ ?_⟩
  ·rintro j zs x σ' H2 hx ⟨⟨u,rfl⟩,e1,sm,hDl⟩
   obtain⟨i,hi,rfl⟩:=uG hx
   have hin:i < n:=hc i (Wd hi)
   refine gT ?_
   refine⟨_,U,_,U,g,_,_,_,U,U,ik sm hg,atD (by lia),_,U,a,_,_,_,U,U,sqT (sm _ _ ha),gt2,_,_,U,U,.inr ⟨_,U,hDl,?_,⟨_,U⟩,?_,aV sm hD _,aj⟩⟩
   ·rw[e1,Vs,Vs,V0]
    exact aQ (by lia)
   ·rw[e1,V8,hi,VD,VD]
    rfl
  ·rintro zs σ' H2 ⟨⟨u,rfl⟩,e1,sm,hDl⟩
   rw[Vs,VJ] at e1
   refine⟨D,_,U,sqL (by rw[hDl,e1]),_,U,a,_,_,_,U,U,sqT (sm _ _ ha),dD (k:=3) U,_,_,U,U,?_⟩
   have q':=q H2 sm
   rw[hF] at q'
   rw[Be]
   exact q'
 | @all a b us ts ha hb _ lu rl =>
  refine⟨_,U,a,_,_,_,U,U,sqT ha,gt0,U,_,U,bu bz ?_⟩
  refine⟨_,U,a,_,_,_,U,U,sqT ha,gt0,U,_,U,bu bz ?_⟩
  refine⟨_,U,a,_,_,_,U,U,sqT ha,gt0,U,_,U,bu bz ?_⟩
  refine⟨_,U,a,_,_,_,U,U,sqT ha,gt0,U,_,U,gR U ?_⟩
  refine⟨_,U,a,_,_,_,U,U,sqT ha,gt1,b,U,⟨_,sqT hb⟩,fun D hD=>parts D hD b us ts _ _ lu hb rl (by rw[Tm.dep] at hd;lia) (fun x t σ' H2 R rt sm dt eσ hR=>?_) fun H2 sm hDl=>?_⟩
  ·subst eσ
   exact⟨_,U,_,U,x,g,n,t,ns,U,rt,dt,ik sm hg,hn,hR⟩
  ·refine⟨D,_,U,sqL hDl,?_⟩
   rw[Hu]
   have q':=q H2 sm
   rw[hF] at q'
   exact q'
 | @any a b us ts ha hb _ lu rl =>
  refine⟨_,U,a,_,_,_,U,U,sqT ha,gt0,U,_,U,bu bz ?_⟩
  refine⟨_,U,a,_,_,_,U,U,sqT ha,gt0,U,_,U,bu bz ?_⟩
  refine⟨_,U,a,_,_,_,U,U,sqT ha,gt0,U,_,U,bu bz ?_⟩
  refine⟨_,U,a,_,_,_,U,U,sqT ha,gt0,U,_,U,bu bz ?_⟩
  refine⟨_,U,a,_,_,_,U,U,sqT ha,gt0,U,_,U,bu bz ?_⟩
  refine⟨_,U,a,_,_,_,U,U,sqT ha,gt0,U,_,U,gR U ?_⟩
  refine⟨_,U,a,_,_,_,U,U,sqT ha,gt1,b,U,⟨_,sqT hb⟩,fun D hD=>parts D hD b us ts _ _ lu hb rl (by rw[Tm.dep] at hd;lia) (fun x t σ' H2 R rt sm dt eσ hR=>?_) fun H2 sm hDl=>?_⟩
  ·subst eσ
   exact⟨_,U,_,U,x,g,n,t,ns,U,rt,dt,ik sm hg,hn,hR⟩
  ·refine⟨D,_,U,sqL hDl,?_⟩
   rw[Iv]
   have q':=q H2 sm
   rw[hF] at q'
   exact q'
abbrev nW:Stmt:=top 65
def fV:aG ["_law_pledge_here","_law_giving","_law_found","_law_step","_law_term_here"] WH (aB nW):=c7
def Ad {k:Nat} (F:Fun K "_law_owes" "_law_owes" nW f fd) (B:Bt mg)
  (RI:Df P w K mg base "_law_holds" k WI (eE K 4)):bH P w K mg base CX0 (k+1) f fd WH (BW K):=by
 refine okA F fV fun _ _ _ _ H _ Q E hr h=>?_
 obtain⟨a,g,n,p,ns,rfl,⟨ok,vs,ha,rp⟩,hg,hn,q⟩:=h
 refine⟨_,(au (aP (i:=2) fV.nd U (VF U) aq)
 (au (cV Wq U (dq (pv 0)) (d8 (K:=K) 2 U U (bf (aJ (i:=3) fV.nd U (VF U)) (bf (aJ (i:=4) fV.nd U (VF U)) eG))) (az (aW (cI (aY RI hr (aa (pv 4) (aa (pv 1) ao)))) (az (aP (i:=2) fV.nd U (VF U) (pv 3))) aC)))
 (az (aD (pv 2))))),?_⟩
 have el:=rp.length
 refine⟨_,U,a,U,⟨_,sqT ha⟩,eF (K:=K) (a:=a) (xs:=vs) (fun i σ H2=>(∃ u v,σ=[oR a,oR g,some (.int (owF ns (p.take i))),u,v])/\aN H H2)
  ⟨⟨_,_,U⟩,aN.refl H⟩ (fun i σ H2 _ h=>sqT (h.2 _ _ ha)) ?_ ?_⟩
 ·rintro i x σ H2 hx ⟨⟨u,v,rfl⟩,sm⟩
  obtain⟨r,k0,y,t,rfl,hr0,rt,hp⟩:=rp.get hx
  have hm:=Wd hp
  have ow:=Bg (g:=ns) hp
  refine⟨r,_,U,sqT (sm _ _ hr0),U,_,_,U,_,_,U,U,?_⟩
  refine⟨_,U,_,U,y,g,n,t,ns,U,rt.mono sm,(ok.2.2.2 _ hm).2.2,ik sm hg,hn,fun H3 s3=>⟨_,U,?_⟩⟩
  cases e:hF ns t with
  | true =>
   rw[iPo e] at ow
   refine cW ⟨_,U,⟨some (.int k0),some y,?_⟩,sm.trans s3⟩
   rw[ow]
   rfl
  | false =>
   rw[iNe (by rw[e];exact Vy)] at ow
   refine bZ ⟨⟨some (.int k0),some y,?_⟩,sm.trans s3⟩
   rw[ow]
   rfl
 ·rintro σ H2 ⟨⟨u,v,rfl⟩,sm⟩
  have q':=q H2 sm
  refine⟨_,U,?_⟩
  rw[el,VJ]
  exact q'
abbrev oG:Stmt:=top 66
def yR:aG WU WU (aB oG):=c7
inductive Ij (K:V3)(vs:FH)(H:Hp)(Q:VK):Prop where
 | mk (c g:Addr) (n:Nat) (as:D0) (ps:List Pl) (ns:D6) (z0:vs=[.ref c,.ref g]) (z1:H c=some (.lst (as.map V.ref))) (z2:as.length<=100) (z3:fC n H as ps) (z4:SqT K H g (ns.map V.int)) (z5:n<=ns.length) (z6:∀ H',aN H H'->Q (.int (duF ns 0 ps)) H'):Ij K vs H Q
def vR (K:V3):Sp:=fun vs H Q _=>Ij K vs H Q
def zr {k:Nat} (F:Fun K "_law_owed" "_law_owed" oG f fd) (B:Bt mg)
  (RY:Df P w K mg base "_law_owes" k WH (BW K)):bH P w K mg base CX0 (k+1) f fd WU (vR K):=by
 refine okA F yR fun _ _ _ _ H _ Q E hr h=>?_
 obtain⟨c,g,n,as,ps,ns,rfl,hc,l100,rps,hg,hn,q⟩:=h
 refine⟨_,(az (aD (aF (r:=KZ K) (qX U) U B.max_ tX (aa (aR kh (bA (aa aq ao)) (cz (L:=["_law_pledge_here"]) (F:=ZA) (cap:=[1]) U (bF U U (by kernel_rfl)) (dC (pv 0)) (fun _ _ _ _ _=>(aJ (i:=0) (bw (by decide+kernel)) U (VF U))) (fun _ _ _ _ _=>cQ) (fun _ _ _ _ _=>(aY RY hr (aa (pv 0) (aa (pv 1) ao)))))) ao)))),?_⟩
 have ell:=rps.length
 refine⟨smN 1,fun p4 h4=>?_⟩
 generalize eH4:upd H p4 _=H4
 obtain⟨g4,e4⟩:=aK eH4 h4
 refine⟨_,U,c,U,⟨_,sqL (g4 _ _ hc)⟩,fun D2 hD2=>iK (K:=K) (a:=c) (xs:=as.map V.ref) (fun j ws σ' H5=>(∃ u,σ'=[u,oR g])/\ws=((ps.take j).map (owF ns)).map V.int/\aN H4 H5/\H5 D2=some (.lst ws))
  ⟨⟨_,U⟩,U,aA hD2 _,aj⟩ (fun j ws σ' H5 _ h=>⟨sqL (h.2.2.1 _ _ (g4 _ _ hc)),h.2.2.2⟩) ?_ ?_⟩
 ·rintro j ws x σ' H5 hx ⟨⟨u,rfl⟩,e5,s5,hD5⟩
  obtain⟨a,ha,rfl⟩:=Ml hx
  obtain⟨pl,hpl,rpl⟩:=rps.get ha
  refine gT ?_
  refine⟨_,U,_,U,a,g,n,pl,ns,U,rpl.mono (g4.trans s5),ik (g4.trans s5) hg,hn,fun H6 s6=>?_⟩
  refine⟨s6 _ _ hD5,?_,⟨_,U⟩,?_,aV (s5.trans s6) hD2 _,aj⟩
  ·rw[e5,Vs,Vs,V0]
   exact aQ (by lia)
  ·rw[e5,take_snoc (owF ns) hpl,VD]
   rfl
 ·rintro ws σ' H5 ⟨_,e5,s5,hD5⟩
  rw[Vs,ell,VJ] at e5
  subst e5
  refine⟨p4,D2,_,_,U,U,s5 _ _ e4,hD5,small ?_,fun p6 h6=>?_⟩
  ·rw[Vs,Vs]
   show 1+ps.length<=1000
   lia
  generalize eH6:upd H5 p6 _=H6
  obtain⟨g6,e6⟩:=aK eH6 h6
  refine⟨p6,0::ps.map (owF ns),U,sqL e6,by simp,?_⟩
  exact q H6 (g4.trans (s5.trans g6))
abbrev mJ:Stmt:=top 63
def eZ:aG ["_law_term_here","_law_found","_law_parts","_law_one"] YI (aB mJ):=c7
def gJ {d:Nat} (F:Fun K "_law_named" "_law_named" mJ f fd) (B:Bt mg)
  (RU:Df P w K mg base "_law_named" d YI (jG d)):bH P w K mg base CX0 (d+1) f fd YI (jG (d+1)):=by
 refine okA F eZ fun _ _ _ _ H _ Q E hr h=>?_
 obtain⟨v,n,t,rfl,rt,hd,h4,hn,q⟩:=h
 refine⟨_,(au (aW (aH bj (pxT K (pv 0) aq) aL) (az (aD (bA (aa (pxT K (pv 0) aq) ao)))) aC)
 (au (aW (fU (r:=rIn K false) dY (pxT K (pv 0) aq) (aZ (aa aL (aa aL ao))) U) (az (aD (bh (r:=jL K) d9 U B.list_ jg (aa (pxT K (pv 0) aq) ao)))) aC)
 (au (aP (i:=1) eZ.nd U (VF U) (bA ao))
 (au (cV Wq U (dq (fM (r:=KJ K) Ba (pv 0) (iw aq) jj)) (aJ (i:=2) eZ.nd U (VF U)) (az (cV Wq U (dq (pv 2)) (aJ (i:=3) eZ.nd U (VF U)) (az (aP (i:=1) eZ.nd U (VF U) (aR kh (pv 1) (aY RU hr (aa (pv 3) ao))))))))
 (az (aD (pv 1))))))),?_⟩
 have small':=pY hn h4 rt hd
 cases rt with
 | @free a ha =>
  refine⟨_,U,a,_,_,_,U,U,sqT ha,gt0,U,_,U,bu bz ?_⟩
  refine⟨_,U,a,_,_,_,U,U,sqT ha,gt0,smN 2,fun p1 h1=>⟨p1,_,U,.inr (sqT aj),U,U,_,U,j8 (by decide+kernel) ?_⟩⟩
  generalize eH1:upd H p1 _=H1
  obtain⟨g1,_⟩:=aK eH1 h1
  refine⟨smN 0,fun r h0=>?_⟩
  generalize eH2:upd H1 r _=H2
  obtain⟨g2,e2⟩:=aK eH2 h0
  refine⟨_,U,_,U,a,_,U,sqT (g2 _ _ (g1 _ _ ha)),(by show ¬ (HT.sIx 1 0 (some 1)=0/\HT.sIx 1 1 none=1);decide),fun p3 h3=>?_⟩
  have ec:pZ [V.str "free"] (some 1) none=[]:=rfl
  rw[ec]
  generalize eH3:upd H2 p3 _=H3
  obtain⟨g3,e3⟩:=aK eH3 h3
  refine⟨p3,U,⟨_,sqT e3⟩,eF (K:=K) (a:=p3) (xs:=[]) (fun _ σ H4=>σ=[oR a,oR r,none,none]/\H3=H4) ⟨U,U⟩ (fun i σ H4 _ h=>by obtain⟨_,rfl⟩:=h;exact sqT e3) (fun i x σ H4 hx=>by simp at hx) ?_⟩
  rintro σ H4 ⟨rfl,rfl⟩
  exact⟨_,U,q r H3 (g1.trans (g2.trans g3)) (g1.free h0) (by rw[g3 _ _ e2,mnF];rfl)⟩
 | @never a ha =>
  refine⟨_,U,a,_,_,_,U,U,sqT ha,gt0,U,_,U,bu bz ?_⟩
  refine⟨_,U,a,_,_,_,U,U,sqT ha,gt0,smN 2,fun p1 h1=>⟨p1,_,U,.inr (sqT aj),U,U,_,U,j8 (by decide+kernel) ?_⟩⟩
  generalize eH1:upd H p1 _=H1
  obtain⟨g1,_⟩:=aK eH1 h1
  refine⟨smN 0,fun r h0=>?_⟩
  generalize eH2:upd H1 r _=H2
  obtain⟨g2,e2⟩:=aK eH2 h0
  refine⟨_,U,_,U,a,_,U,sqT (g2 _ _ (g1 _ _ ha)),(by show ¬ (HT.sIx 1 0 (some 1)=0/\HT.sIx 1 1 none=1);decide),fun p3 h3=>?_⟩
  have ec:pZ [V.str "never"] (some 1) none=[]:=rfl
  rw[ec]
  generalize eH3:upd H2 p3 _=H3
  obtain⟨g3,e3⟩:=aK eH3 h3
  refine⟨p3,U,⟨_,sqT e3⟩,eF (K:=K) (a:=p3) (xs:=[]) (fun _ σ H4=>σ=[oR a,oR r,none,none]/\H3=H4) ⟨U,U⟩ (fun i σ H4 _ h=>by obtain⟨_,rfl⟩:=h;exact sqT e3) (fun i x σ H4 hx=>by simp at hx) ?_⟩
  rintro σ H4 ⟨rfl,rfl⟩
  exact⟨_,U,q r H3 (g1.trans (g2.trans g3)) (g1.free h0) (by rw[g3 _ _ e2,mnF];rfl)⟩
 | @gives a i k ha hi k1 k9 =>
  refine⟨_,U,a,_,_,_,U,U,sqT ha,gt0,U,_,U,gR U ?_⟩
  exact⟨_,U,a,_,_,_,U,U,sqT ha,gt1,smN 1,fun r h0=>q r _ (aA h0 _) h0 (by rw[aj,mnF];rfl)⟩
 | @sum a b c k ha hb hc hp l20 l2 k1 k99 =>
  refine⟨_,U,a,_,_,_,U,U,sqT ha,gt0,U,_,U,bu bz ?_⟩
  refine⟨_,U,a,_,_,_,U,U,sqT ha,gt0,smN 2,fun p1 h1=>⟨p1,_,U,.inr (sqT aj),U,U,_,U,JR (by decide+kernel) ?_⟩⟩
  generalize eH1:upd H p1 _=H1
  obtain⟨g1,_⟩:=aK eH1 h1
  exact⟨_,U,a,_,_,_,U,U,sqT (g1 _ _ ha),gt1,b,_,U,.inr (sqT (g1 _ _ hb)),fun r h0=>q r _ (g1.trans (aA h0 _)) (g1.free h0) (by rw[aj,mnF])⟩
 | @crowd a b c k mm ha hb hc hp l20 l1 k1 k9 m1 m12 =>
  refine⟨_,U,a,_,_,_,U,U,sqT ha,gt0,U,_,U,bu bz ?_⟩
  refine⟨_,U,a,_,_,_,U,U,sqT ha,gt0,smN 2,fun p1 h1=>⟨p1,_,U,.inr (sqT aj),U,U,_,U,JR (by decide+kernel) ?_⟩⟩
  generalize eH1:upd H p1 _=H1
  obtain⟨g1,_⟩:=aK eH1 h1
  exact⟨_,U,a,_,_,_,U,U,sqT (g1 _ _ ha),gt1,b,_,U,.inr (sqT (g1 _ _ hb)),fun r h0=>q r _ (g1.trans (aA h0 _)) (g1.free h0) (by rw[aj,mnF])⟩
 | @all a b us ts ha hb l2 l6 rl =>
  have hdl:tdL ts<=d:=by rw[Tm.dep] at hd;lia
  rw[mnF] at small'
  have el:=rl.length
  refine⟨_,U,a,_,_,_,U,U,sqT ha,gt0,U,_,U,bu bz ?_⟩
  refine⟨_,U,a,_,_,_,U,U,sqT ha,gt0,smN 2,fun p1 h1=>⟨p1,_,U,.inr (sqT aj),U,U,_,U,j8 (by decide+kernel) ?_⟩⟩
  generalize eH1:upd H p1 _=H1
  obtain⟨g1,_⟩:=aK eH1 h1
  refine⟨smN 0,fun r h0=>?_⟩
  generalize eH2:upd H1 r _=H2
  obtain⟨g2,e2⟩:=aK eH2 h0
  refine⟨_,U,_,U,a,_,U,sqT (g2 _ _ (g1 _ _ ha)),(by show ¬ (HT.sIx 2 0 (some 1)=0/\HT.sIx 2 2 none=2);decide),fun p3 h3=>?_⟩
  have ec:pZ [V.str "all",.ref b] (some 1) none=[.ref b]:=rfl
  rw[ec]
  generalize eH3:upd H2 p3 _=H3
  obtain⟨g3,e3⟩:=aK eH3 h3
  have s3:aN H H3:=g1.trans (g2.trans g3)
  refine⟨p3,U,⟨_,sqT e3⟩,eF (K:=K) (a:=p3) (xs:=[.ref b]) (fun i σ H4=>∃ (l:Addr) (u v:FC),σ=[oR a,oR l,u,v]/\aN H3 H4/\H l=none/\H4 l=some (.lst ((if i=0 then [] else mnL ts).map vN))) ⟨r,_,_,U,aN.refl _,g1.free h0,g3 _ _ e2⟩ (fun i σ H4 _ h=>by obtain⟨_,_,_,_,z,_⟩:=h;exact sqT (z _ _ e3)) ?_ ?_⟩
  ·rintro i x σ H4 hx ⟨l,u,v,rfl,s4,fl,el4⟩
   have hi0:i=0:=by
    have:=(geS hx).1
    simpa using this
   subst hi0
   cases hx
   rw[iPo U] at el4
   have s04:aN H H4:=s3.trans s4
   refine⟨_,U,b,U,⟨_,sqT (s04 _ _ hb)⟩,eF (K:=K) (a:=b) (xs:=us) (fun j σ H5=>∃ (l:Addr) (u:FC),σ=[oR a,oR l,oR b,u]/\aN H4 H5/\H l=none/\H5 l=some (.lst ((mnL (ts.take j)).map vN))) ⟨l,_,U,aN.refl _,fl,by rw[Ws,mnL];exact el4⟩ (fun j σ H5 _ h=>by obtain⟨_,_,_,z,_⟩:=h;exact sqT (z _ _ (s04 _ _ hb))) ?_ ?_⟩
   ·rintro j y σ H5 hy ⟨l',u',rfl,s5,fl',el5⟩
    obtain⟨t',ht,rt'⟩:=rl.get hy
    have s05:aN H H5:=s04.trans s5
    refine⟨_,U,_,U,y,n,t',U,rt'.mono s05,Wf (gU ht) hdl,by lia,hn,fun r' H6 s6 fr er=>?_⟩
    have hlen:(mnL (ts.take j)).length+(mnF t').length<=2592:=by
     have h1:=Ie (ts:=ts) (j+1)
     rw[jZ ht,VH] at h1
     lia
    refine⟨l',r',_,_,U,U,s6 _ _ el5,er,by rw[Vs,Vs];exact Wf hlen (by decide),fun p h=>?_⟩
    have sn:=aA h (.lst ((mnL (ts.take j)).map vN++(mnF t').map vN))
    exact⟨p,_,U,s5.trans (s6.trans sn),(s05.trans s6).free h,by rw[aj,jZ ht,VD]⟩
   ·rintro σ H5 ⟨l',u',rfl,s5,fl',el5⟩
    rw[el,VJ] at el5
    exact⟨l',_,_,U,s4.trans s5,fl',by rw[iNe (by decide)];exact el5⟩
  ·rintro σ H4 ⟨l,u,v,rfl,s4,fl,el4⟩
   exact⟨_,U,q l H4 (s3.trans s4) fl (by rw[el4,mnF];rfl)⟩
 | @any a b us ts ha hb l2 l6 rl =>
  have hdl:tdL ts<=d:=by rw[Tm.dep] at hd;lia
  rw[mnF] at small'
  have el:=rl.length
  refine⟨_,U,a,_,_,_,U,U,sqT ha,gt0,U,_,U,bu bz ?_⟩
  refine⟨_,U,a,_,_,_,U,U,sqT ha,gt0,smN 2,fun p1 h1=>⟨p1,_,U,.inr (sqT aj),U,U,_,U,j8 (by decide+kernel) ?_⟩⟩
  generalize eH1:upd H p1 _=H1
  obtain⟨g1,_⟩:=aK eH1 h1
  refine⟨smN 0,fun r h0=>?_⟩
  generalize eH2:upd H1 r _=H2
  obtain⟨g2,e2⟩:=aK eH2 h0
  refine⟨_,U,_,U,a,_,U,sqT (g2 _ _ (g1 _ _ ha)),(by show ¬ (HT.sIx 2 0 (some 1)=0/\HT.sIx 2 2 none=2);decide),fun p3 h3=>?_⟩
  have ec:pZ [V.str "any",.ref b] (some 1) none=[.ref b]:=rfl
  rw[ec]
  generalize eH3:upd H2 p3 _=H3
  obtain⟨g3,e3⟩:=aK eH3 h3
  have s3:aN H H3:=g1.trans (g2.trans g3)
  refine⟨p3,U,⟨_,sqT e3⟩,eF (K:=K) (a:=p3) (xs:=[.ref b]) (fun i σ H4=>∃ (l:Addr) (u v:FC),σ=[oR a,oR l,u,v]/\aN H3 H4/\H l=none/\H4 l=some (.lst ((if i=0 then [] else mnL ts).map vN))) ⟨r,_,_,U,aN.refl _,g1.free h0,g3 _ _ e2⟩ (fun i σ H4 _ h=>by obtain⟨_,_,_,_,z,_⟩:=h;exact sqT (z _ _ e3)) ?_ ?_⟩
  ·rintro i x σ H4 hx ⟨l,u,v,rfl,s4,fl,el4⟩
   have hi0:i=0:=by
    have:=(geS hx).1
    simpa using this
   subst hi0
   cases hx
   rw[iPo U] at el4
   have s04:aN H H4:=s3.trans s4
   refine⟨_,U,b,U,⟨_,sqT (s04 _ _ hb)⟩,eF (K:=K) (a:=b) (xs:=us) (fun j σ H5=>∃ (l:Addr) (u:FC),σ=[oR a,oR l,oR b,u]/\aN H4 H5/\H l=none/\H5 l=some (.lst ((mnL (ts.take j)).map vN))) ⟨l,_,U,aN.refl _,fl,by rw[Ws,mnL];exact el4⟩ (fun j σ H5 _ h=>by obtain⟨_,_,_,z,_⟩:=h;exact sqT (z _ _ (s04 _ _ hb))) ?_ ?_⟩
   ·rintro j y σ H5 hy ⟨l',u',rfl,s5,fl',el5⟩
    obtain⟨t',ht,rt'⟩:=rl.get hy
    have s05:aN H H5:=s04.trans s5
    refine⟨_,U,_,U,y,n,t',U,rt'.mono s05,Wf (gU ht) hdl,by lia,hn,fun r' H6 s6 fr er=>?_⟩
    have hlen:(mnL (ts.take j)).length+(mnF t').length<=2592:=by
     have h1:=Ie (ts:=ts) (j+1)
     rw[jZ ht,VH] at h1
     lia
    refine⟨l',r',_,_,U,U,s6 _ _ el5,er,by rw[Vs,Vs];exact Wf hlen (by decide),fun p h=>?_⟩
    have sn:=aA h (.lst ((mnL (ts.take j)).map vN++(mnF t').map vN))
    exact⟨p,_,U,s5.trans (s6.trans sn),(s05.trans s6).free h,by rw[aj,jZ ht,VD]⟩
   ·rintro σ H5 ⟨l',u',rfl,s5,fl',el5⟩
    rw[el,VJ] at el5
    exact⟨l',_,_,U,s4.trans s5,fl',by rw[iNe (by decide)];exact el5⟩
  ·rintro σ H4 ⟨l,u,v,rfl,s4,fl,el4⟩
   exact⟨_,U,q l H4 (s3.trans s4) fl (by rw[el4,mnF];rfl)⟩
abbrev Ent:=Nat × Nat × Pl
inductive cD (n:Nat)(H:Hp):FH->List Ent->Prop where
 | nil:cD n H [] []
 | cons {e p:Addr} {num one:Nat} {pl:Pl} {us:FH} {es:List Ent}:H e=some (.tup [vN num,vN one,.ref p])->kE n H p pl->cD n H us es->cD n H (.ref e::us) ((num,one,pl)::es)
theorem cD.aO {n:Nat}{H H':Hp}(e:∀ a xs,H a=some (HO.tup xs)->H' a=some (HO.tup xs)):∀ {us:FH} {es:List Ent},cD n H us es->cD n H' us es
 | _,_,.nil=>.nil
 | _,_,.cons h p r=>.cons (e _ _ h) (p.aO e) (cD.aO e r)
theorem cD.length {n:Nat}{H:Hp}:∀ {us:FH} {es:List Ent},cD n H us es->us.length=es.length
 | _,_,.nil=>rfl
 | _,_,.cons _ _ r=>by rw[V2,V2,cD.length r]
theorem cD.get {n:Nat}{H:Hp}:∀ {us:FH} {es:List Ent} {i:Nat} {u:V},cD n H us es->us[i]? = some u->∃ (e p:Addr) (num one:Nat) (pl:Pl),u = .ref e/\es[i]? = some (num,one,pl)/\H e=some (.tup [vN num,vN one,.ref p])/\kE n H p pl
 | _,_,_,_,.nil,h=>by simp at h
 | _,_,0,_,.cons h p _,e=>by
  cases (show some _=some _ from e)
  exact⟨_,_,_,_,_,U,U,h,p⟩
 | _,_,i+1,_,.cons _ _ r,e=>by
  obtain⟨a,p,x,y,z,h1,h2,h3⟩:=cD.get (i:=i) r (by simpa using e)
  exact⟨a,p,x,y,z,h1,by simpa using h2,h3⟩
theorem cD.snoc {n:Nat}{H:Hp}{e p:Addr}{num one:Nat}{pl:Pl}(h:H e=some (.tup [vN num,vN one,.ref p]))(hp:kE n H p pl):∀ {us:FH} {es:List Ent},cD n H us es->cD n H (us++[.ref e]) (es++[(num,one,pl)])
 | _,_,.nil=>.cons h hp .nil
 | _,_,.cons a b r=>.cons a b (cD.snoc h hp r)
def Ks (CS:Addr)(H H':Hp):Prop:=(∀ a xs,H a=some (HO.tup xs)->H' a=some (HO.tup xs))/\∀ a dx fs,H a=some (HO.ins CS dx fs)->H' a=some (HO.ins CS dx fs)
def ksS {CS:Addr}{H H':Hp}(s:aN H H'):Ks CS H H':=⟨fun a xs h=>s a _ h,fun a dx fs h=>s a _ h⟩
def stF (ga goa sa:Addr)(co:Nat):FA:=[("green",.ref ga),("gone",.ref goa),("standing",.ref sa),("coming",vN co)]
def gj (CS:Addr)(n:Nat)(H:Hp)(a:Addr)(g:D6)(go:D7)(es:List Ent)(co:Nat):Prop :=
 ∃ (dx ga goa sa:Addr) (us:FH),H a=some (.ins CS dx (stF ga goa sa co))/\H ga=some (.tup (g.map V.int))/\H goa=some (.tup (go.map vN))/\H sa=some (.tup us)/\cD n H us es
def gj.ks {CS:Addr}{n:Nat}{H H':Hp}{a:Addr}{g:D6}{go:D7}{es:List Ent}{co:Nat}(k:Ks CS H H')(h:gj CS n H a g go es co):gj CS n H' a g go es co:=by
 obtain⟨dx,ga,goa,sa,us,h1,h2,h3,h4,h5⟩:=h
 exact⟨dx,ga,goa,sa,us,k.2 _ _ _ h1,k.1 _ _ h2,k.1 _ _ h3,k.1 _ _ h4,h5.aO k.1⟩
def bnF (nw be ah:Addr):FA:=[("now",.ref nw),("behind",.ref be),("ahead",.ref ah)]
def uv (CS CB:Addr)(n:Nat)(H:Hp)(b be:Addr)(d:Nat)(g:D6)(go:D7)(es:List Ent)(co:Nat):Prop :=
 ∃ (dx nw ah:Addr) (xs:FH),H b=some (.ins CB dx (bnF nw be ah))/\H be=some (.lst xs)/\xs.length=d/\gj CS n H nw g go es co
def But (b be:Addr)(H H':Hp):Prop:=∀ a o,a≠b->a≠be->H a=some o->H' a=some o
def But.ks {CS CB b be dx:Addr}{fs:FA}{xs:FH}{H H':Hp}(h:But b be H H')(ne:CB≠CS)(hb:H b=some (.ins CB dx fs))(hl:H be=some (.lst xs)):Ks CS H H':=by
 refine⟨fun a ys q=>h a _ (fun z=>?_) (fun z=>?_) q,fun a dx' fs' q=>h a _ (fun z=>?_) (fun z=>?_) q⟩
 ·rw[z,hb] at q;cases q
 ·rw[z,hl] at q;cases q
 ·rw[z,hb] at q
  injection q with q
  injection q with q1
  exact ne q1
 ·rw[z,hl] at q;cases q
def Qf {b be:Addr}{H H':Hp}(s:aN H H'):But b be H H':=fun a o _ _ q=>s a o q
def But.trans {b be:Addr}{H H1 H2:Hp}(h:But b be H H1)(k:But b be H1 H2):But b be H H2:=fun a o x y q=>k a o x y (h a o x y q)
def uv.same {CS CB:Addr}{n:Nat}{H H':Hp}{b be:Addr}{d:Nat}{g:D6}{go:D7}{es:List Ent}{co:Nat}(s:aN H H')(h:uv CS CB n H b be d g go es co):uv CS CB n H' b be d g go es co:=by
 obtain⟨dx,nw,ah,xs,h1,h2,h3,h4⟩:=h
 exact⟨dx,nw,ah,xs,s _ _ h1,s _ _ h2,h3,h4.ks (ksS s)⟩
structure yo (K:V3)(CS:Addr):Prop where
 cl:Cls K CS
 green:iD K CS "green"
 gone:iD K CS "gone"
 standing:iD K CS "standing"
 coming:iD K CS "coming"
structure zF (K:V3)(CB:Addr):Prop where
 cl:Cls K CB
 now:iD K CB "now"
 behind:iD K CB "behind"
 ahead:iD K CB "ahead"
abbrev jB:Stmt:=inClass (top 37) 0
def nJ:aG Wp Wp (aB jB):=c7
inductive wY (CS:Addr)(vs:FH)(H:Hp)(Q:VK):Prop where
 | mk (x dx:Addr) (g go sd co:V) (z0:vs=[.ref x,g,go,sd,co]) (z1:H x=some (.ins CS dx [])) (z2:Q .non (upd H x (.ins CS dx [("green",g),("gone",go),("standing",sd),("coming",co)]))):wY CS vs H Q
def gD (CS:Addr):Sp:=fun vs H Q _=>wY CS vs H Q
def ur {CS:Addr} (F:Fun K "__init__" "Stand.__init__" jB f fd) (S:yo K CS):bH P w K mg base CX0 1 f fd Wp (gD CS):=by
 refine okA F nJ fun _ _ _ _ H _ Q E hr h=>?_
 obtain⟨x,dx,g,go,sd,co,rfl,hx,q⟩:=h
 refine⟨_,(au (mW (pv 0) (pv 1) U)
 (au (mW (pv 0) (pv 2) U)
 (au (mW (pv 0) (pv 3) U)
 (az (mW (pv 0) (pv 4) U))))),?_⟩
 refine⟨_,U,_,U,x,CS,dx,_,U,hx,S.cl,S.green,by show 0 < 1000;decide,?_⟩
 refine⟨_,U,_,U,x,CS,dx,_,U,aj,S.cl,S.gone,by show 1 < 1000;decide,?_⟩
 refine⟨_,U,_,U,x,CS,dx,_,U,aj,S.cl,S.standing,by show 2 < 1000;decide,?_⟩
 refine⟨_,U,_,U,x,CS,dx,_,U,aj,S.cl,S.coming,by show 3 < 1000;decide,?_⟩
 rw[uJ,uJ,uJ]
 exact q
abbrev kZ:Stmt:=inClass (top 44) 0
def pI:aG ZO ZO (aB kZ):=c7
abbrev jR:Stmt:=inClass (top 44) 1
def vf:aG YV YV (aB jR):=c7
def RD {K:V3}{H:Hp}{a b:Addr}{xs ys:FH}{Q:VK}(ha:H a=some (.tup xs))(hb:H b=some (.tup ys))(hl:xs.length+ys.length<=1000)(q:∀ (p:Addr) (H':Hp),aN H H'->H' p=some (.tup (xs++ys))->Q (.ref p) H'):iB K (.ref a) (.ref b) H Q:=by
 refine⟨a,b,xs,ys,U,U,sqT ha,sqT hb,small hl,fun e=>?_,fun _ e=>?_,fun _ _ p hp=>q p _ (aA hp _) aj⟩
 ·subst e
  exact q b H (aN.refl _) hb
 ·subst e
  exact q a H (aN.refl _) (by rw[Xn];exact ha)
def j5 {CS x dx:Addr} {H:Hp} {g go sd co:V} {Q:VK} {E:XK} (hx:H x=none) (hdx:H dx=none) (hne:dx≠x) (q:∀ H',aN H H'->H' x=some (.ins CS dx [("green",g),("gone",go),("standing",sd),("coming",co)])->Q .non H') :
  gD CS [.ref x,g,go,sd,co] (upd (upd H dx (.own x)) x (.ins CS dx [])) Q E:=by
 refine⟨x,dx,g,go,sd,co,U,aj,?_⟩
 rw[uJ]
 exact q _ ((aA hdx _).trans (aA (by rw[aM hne.symm];exact hx) _)) aj
abbrev lV:Stmt:=inClass (top 44) 2
def oZ:aG ["self","now"] ZO (aB lV):=c7
mutual
def nn (one:Nat):Tm->Bool
 | .free=>true
 | .never=>true
 | .gives i _=>decide (i≠one)
 | .sum c _=>decide (one ∉ c)
 | .crowd c _ _=>decide (one ∉ c)
 | .all ts=>nnL one ts
 | .any ts=>nnL one ts
def nnL (one:Nat):List Tm->Bool
 | []=>true
 | t::r=>nn one t && nnL one r
end
theorem jY (x:Nat):∀ c:D7,inV (.int (x:Int)) (c.map vN)=decide (x∈c)
 | []=>rfl
 | y::c=>by
  have ih:=jY x c
  unfold inV at ih ⊢
  rw[WL,Y6,ih]
  by_cases e:x=y
  ·subst e
   rw[dcT VP]
   simp [vN,eqV]
  ·have:eqV (vN y) (.int (x:Int))=false:=by
    simp [vN,eqV]
    lia
   rw[this,abJ]
   exact decide_eq_decide.mpr (by simp [e])
def jJ (c:D7):(c.map vN).all sE=true:=by
 rw[ab3,List.all_eq_true]
 intro x _
 rfl
mutual
theorem Pg {one:Nat}:∀ t:Tm,nn one t=true->one ∉ mnF t
 | .free,_=>by simp [mnF]
 | .never,_=>by simp [mnF]
 | .gives i k,h=>by
  have:=of_decide_eq_true (show decide (i≠one)=true by simpa [nn] using h)
  simp only[mnF]
  exact fun z=>this (List.mem_singleton.mp z).symm
 | .sum c k,h=>by simpa [nn,mnF] using h
 | .crowd c k m,h=>by simpa [nn,mnF] using h
 | .all ts,h=>by
  simp only[mnF]
  exact Iz ts (by simpa [nn] using h)
 | .any ts,h=>by
  simp only[mnF]
  exact Iz ts (by simpa [nn] using h)
theorem Iz {one:Nat}:∀ ts:List Tm,nnL one ts=true->one ∉ mnL ts
 | [],_=>by simp [mnL]
 | t::r,h=>by
  have h':nn one t=true/\nnL one r=true:=by simpa [nnL] using h
  rw[mnL,ZQ]
  rintro (z | z)
  ·exact Pg t h'.1 z
  ·exact Iz r h'.2 z
end
mutual
theorem Oc {n:Nat}{H:Hp}:∀ {v:V} {t:Tm},gZ n H v t->∀ i∈mnF t,i < n
 | _,_,.free _,i,h=>by simp [mnF] at h
 | _,_,.never _,i,h=>by simp [mnF] at h
 | _,_,.gives _ a _ _,i,h=>by
  simp only[mnF] at h
  rw[List.mem_singleton.mp h]
  exact a
 | _,_,.sum _ _ a _ _ _ _ _,i,h=>by
  simp only[mnF] at h
  exact a i h
 | _,_,.crowd _ _ a _ _ _ _ _ _ _,i,h=>by
  simp only[mnF] at h
  exact a i h
 | _,_,.all _ _ _ _ r,i,h=>by
  simp only[mnF] at h
  exact GQ r i h
 | _,_,.any _ _ _ _ r,i,h=>by
  simp only[mnF] at h
  exact GQ r i h
theorem GQ {n:Nat}{H:Hp}:∀ {vs:FH} {ts:List Tm},cu n H vs ts->∀ i∈mnL ts,i < n
 | _,_,.nil,i,h=>by simp [mnL] at h
 | _,_,.cons t r,i,h=>by
  rw[mnL,ZQ] at h
  rcases h with z | z
  ·exact Oc t i z
  ·exact GQ r i z
end
theorem Rp {n:Nat}{H:Hp}:∀ {us:FH} {p:Pl},dB n H us p->(∀ x∈p,x.2.dep<=4)->lB n H us (p.map fun x=>Rg.rung x.1 x.2)
 | _,_,.nil,_=>.nil
 | _,_,.cons h t r,d=>.cons (.rung h t (d _ VP)) (Rp r fun x hx=>d x (VR _ hx))
theorem MJ {n who:Nat}{H:Hp}:∀ {us:FH} {p:Pl} {lo:Int},dB n H us p->(p.map (·.1)).Pairwise (· < ·)->(∀ x∈p,lo<=x.1/\x.1<=9)->(∀ x∈p,nn who x.2=true)->plF n who lo (p.map fun x=>Rg.rung x.1 x.2)=true
 | _,_,_,.nil,_,_,_=>rfl
 | _,_,lo,.cons (k:=k) (t:=t) (ps:=ps) h tr r,pw,hb,hn=>by
  rw[WL,Yb] at pw
  show (rgF n who lo (.rung k t) && plF n who (k+1) (ps.map fun x=>Rg.rung x.1 x.2))=true
  have h1:=hb (k,t) VP
  have h2:=Pg t (hn (k,t) VP)
  rw[Xp]
  refine⟨?_,MJ r pw.2 (fun x hx=>⟨?_,(hb x (VR _ hx)).2⟩) fun x hx=>hn x (VR _ hx)⟩
  ·show ((decide (lo<=k) && decide (k<=9)) && (ltF n (mnF t) && !decide (who∈mnF t)))=true
   rw[dcT h1.1,dcT h1.2,Gv.mpr (Oc tr),dcF h2]
   rfl
  ·have:=pw.1 x.1 (abB hx)
   lia
def Ol {n who:Nat}{H:Hp}{us:FH}{p:Pl}(ok:okP p)(r:dB n H us p)(hn:∀ x∈p,nn who x.2=true):Qh n who (p.map fun x=>Rg.rung x.1 x.2)=true:=by
 obtain⟨h1,h2,h3,h4⟩:=ok
 have l:1<=p.length:=by
  cases p with
  | nil=>exact absurd U h1
  | cons _ _=>rw[V2];lia
 unfold Qh
 rw[Vs,dcT l,dcT h2,MJ r h3 (fun x hx=>⟨(h4 x hx).1,(h4 x hx).2.1⟩) hn]
 rfl
abbrev jh:Stmt:=top 38
abbrev ir:Stmt:=top 41
def sO:aG ZB ZB (aB jh):=c7
def rC:aG XY XY (aB ir):=c7
abbrev jw:Stmt:=inClass (top 44) 4
def kW:aG ["self","one","pledge","now"] X0 (aB jw):=c7
def Dz {g:D6}{p:Pl}(h:∀ x∈p,0<=x.1):0<=owF g p:=by
 have key:∀ (p:Pl) (f:Int),0<=f->(∀ x∈p,0<=x.1)->0<=p.foldl (owS g) f:=by
  intro p
  induction p with
  | nil=>intro f hf _;exact hf
  | cons x r ih =>
   intro f hf hx
   rw[Yy]
   refine ih _ ?_ fun y hy=>hx y (VR _ hy)
   unfold owS
   split
   ·exact hx x VP
   ·exact hf
 exact key p 0 (Int.le_refl _) h
abbrev qW:Stmt:=top 39
def DY:aG WV WV (aB qW):=c7
def owL (es:List Ent)(one:Nat)(g:D6):D6:=(es.filter fun e=>decide (e.2.1=one)).map fun e=>owF g e.2.2
def K6 {es:List Ent}{one:Nat}{g:D6}{e:Ent}:owL (es++[e]) one g=owL es one g++if e.2.1=one then [owF g e.2.2] else []:=by
 unfold owL
 rw[YW,VD]
 congr 1
 by_cases h:e.2.1=one
 ·rw[iPo h,Yh (by exact dcT h)]
  rfl
 ·rw[iNe h,Yi (by rw[dcF h];exact Vy)]
  rfl
inductive yj (vs:FH)(H:Hp)(Q:VK):Prop where
 | mk (sa ga:Addr) (one n:Nat) (us:FH) (es:List Ent) (g:D6) (z0:vs=[.ref sa,vN one,.ref ga]) (z1:H sa=some (.tup us)) (z2:cD n H us es) (z3:es.length<=100) (z4:H ga=some (.tup (g.map V.int))) (z5:g.length=n) (z6:∀ H',aN H H'->Q (.int (mxD 0 (owL es one g))) H'):yj  vs H Q
def uZ:Sp:=fun vs H Q _=>yj  vs H Q
def Ej {k:Nat} (F:Fun K "owed_of" "owed_of" qW f fd) (B:Bt mg) (SE:Df P w K mg base "owes" k Yf (BW K)) :
  bH P w K mg base CX0 (k+1) f fd WV uZ:=by
 refine okA F DY fun _ _ _ _ H _ Q E hr h=>?_
 obtain⟨sa,ga,one,n,us,es,g,rfl,hsa,hes,l100,hga,lg,q⟩:=h
 refine⟨_,(az (aD (Nz U U B.max_ (aa (cz (L:=["number","other","pledge"]) (F:=["giving","one"]) (cap:=[2,1]) U (bF U U (by kernel_rfl)) (dq (pv 0)) (fun _ _ _ _ _=>(d8 (K:=K) 3 U U (bf (aJ (i:=0) (bw (by decide+kernel)) U (VF U)) (bf (aJ (i:=1) (bw (by decide+kernel)) U (VF U)) (bf (aJ (i:=2) (bw (by decide+kernel)) U (VF U)) eG))))) (fun _ _ _ _ _=>(jf (aH bj (pv 1) (pv 4)))) (fun _ _ _ _ _=>(aY SE hr (aa (pv 2) (aa (pv 3) ao))))) ao)))),?_⟩
 have les:=hes.length
 refine⟨_,U,sa,U,⟨_,sqT hsa⟩,fun D hD=>cX (K:=K) (a:=sa) (xs:=us) (fun i zs σ' H2=>(∃ u v w,σ'=[u,v,w,oR ga,some (vN one)])/\aN H H2/\H2 D=some (.lst zs)/\zs=(owL (es.take i) one g).map V.int)
  ⟨⟨_,_,_,U⟩,aA hD _,aj,by rw[Ws];rfl⟩ (fun i zs σ' H2 _ h=>⟨sqT (h.2.1 _ _ hsa),h.2.2.1⟩) ?_ ?_⟩
 ·rintro i zs x σ' H2 hx ⟨⟨u,v,w,rfl⟩,sm,eD,rfl⟩
  obtain⟨e,p,num,o2,pl,rfl,he,hent,hpr⟩:=hes.get hx
  have nx:owL (es.take (i+1)) one g=owL (es.take i) one g++if o2=one then [owF g pl] else []:=by
   rw[V8,he]
   exact K6
  have ll:(owL (es.take i) one g).length<=100:=by
   unfold owL
   rw[Vs]
   refine Wf (WT _ _) ?_
   rw[V0]
   lia
  refine⟨e,_,U,sqT (sm _ _ hent),U,_,_,U,_,_,U,_,_,U,U,?_⟩
  refine⟨_,U,_,U,U,_,U,?_⟩
  by_cases z:o2=one
  ·rw[dcT (show vN o2=vN one by rw[z])]
   refine cW ⟨_,U,_,U,p,ga,n,pl,g,U,hpr.aO (fun a xs q=>sm a _ q),sqT (sm _ _ hga),by lia,fun H3 s3=>?_⟩
   refine⟨s3 _ _ eD,aQ (by rw[Vs];lia),⟨_,_,_,U⟩,aV (sm.trans s3) hD _,aj,?_⟩
   rw[nx,iPo z,VD]
   rfl
  ·rw[dcF (show ¬ vN o2=vN one from fun y=>z (by injection y with y;lia))]
   refine bZ ⟨⟨_,_,_,U⟩,sm,eD,?_⟩
   rw[nx,iNe z,Xn]
 ·rintro zs σ' H2 ⟨_,sm,eD,rfl⟩
  rw[les,VJ] at eD
  exact⟨D,_,U,sqL eD,q H2 sm⟩
def cD.SM {n:Nat}{p:Ent->Bool}{e:Ent}{es:List Ent}{i:Nat}(h:es[i]? = some e):(es.take (i+1)).filter p=(es.take i).filter p++if p e=true then [e] else []:=by
 rw[V8,h,YW]
 congr 1
 show List.filter p [e]=_
 by_cases z:p e=true
 ·rw[iPo z,Yh z]
  rfl
 ·rw[iNe z,Yi z]
  rfl
def stT {H H1:Hp}{a:Addr}{xs:FH}(s:jP H H1)(h:H a=some (.tup xs)):H1 a=some (.tup xs):=s a (.tup xs) (fun _ z=>nomatch z) h
def stL {H H1:Hp}{a:Addr}{xs:FH}(s:jP H H1)(h:H a=some (.lst xs)):H1 a=some (.lst xs):=s a (.lst xs) (fun _ z=>nomatch z) h
def thrown.mono {C:Addr}{w:Wb}{H H1:Hp}{E:XK}(s:aN H H1)(h:thrown C w H E):thrown C w H1 E:=fun dx H2 s2 e=>h dx H2 (s.trans s2) e
def zJ {K:V3} {C G:Addr} {w:Wb} {H:Hp} {Q:VK} (R:XRd K C G "word") (q:∀ (a:Addr) (H':Hp),aN H H'->H' a=some (.tup [.str w])->Q (.ref a) H'):thrown C w H (XW K G "word" Q):=by
 intro dx H1 s ed
 refine⟨C,dx,_,_,U,U,R,ed,U,fun x u a hx ha=>q a _ ?_ aj⟩
 exact s.trans ((aA hx _).trans (aA ha _))
inductive wA (CS CN CG:Addr)(vs:FH)(H:Hp)(Q:VK)(E:XK):Prop where
 | mk (st:Addr) (one:Int) (n co:Nat) (g:D6) (go:D7) (es:List Ent) (z0:vs=[.ref st,.int one]) (z1:gj CS n H st g go es co) (z2:((one < 0∨(g.length:Int)<=one)->thrown CN "no folk" H E)) (z3:(∀ i:Nat,one=i->i < g.length->i∈go->thrown CG "gone" H E)) (z4:(∀ i:Nat,one=i->i < g.length->i ∉ go->Q .non H)):wA CS CN CG vs H Q E
def mV (CS CN CG:Addr):Sp:=fun vs H Q E=>wA CS CN CG vs H Q E
def pH {CS CN CG:Addr} (F:Fun K "check_there" "check_there" jh f fd) (B:Bt mg) (S:yo K CS) (Qr:Df P w K mg base "is_number" 1 X2 ju)
  (TB:Xc P w K mg base "NoFolk" CN "no folk") (Ty:Xc P w K mg base "Gone" CG "gone"):bH P w K mg base (XL P w) 4 f fd ZB (mV CS CN CG):=by
 refine EY F sO fun _ _ _ _ H _ Q E hr h=>?_
 obtain⟨st,one,n,co,g,go,es,rfl,⟨dx,ga,goa,sa,us,hs,hga,hgo,hsa,hes⟩,hN,hG,q⟩:=h
 refine⟨_,(au (aW (dR (cI (aY Qr hr (aa (pv 1) (aa aq (aa (aR fc (aF (r:=iR K) aU U B.len_ bJ (aa (aX K U (pv 0)) ao)) aq) ao)))))) (az (eO TB hr U dF)) aC)
 (az (aW (fU (r:=rIn K false) dY (pv 1) (aX K U (pv 0)) U) (az (eO Ty hr U dF)) aC))),?_⟩
 refine bV (fun σ H1=>∃ i:Nat,one=i/\i < g.length/\σ=[oR st,some (vN i)]/\H1=H) ?_ ?_
 ·intro N Rc
  refine⟨_,U,_,U,st,CS,dx,_,_,U,hs,S.cl,S.green,U,ga,_,U,.inr (sqT hga),_,_,U,U,.int one,0,_,U,.int _,_,U,?_⟩
  by_cases hz:0<=one/\one < g.length
  ·rw[show isNum (.int one) 0 ((((g.map V.int).length:Nat):Int) - 1)=true by
    show (decide ((0:Int)<=one) && decide (one<=(((g.map V.int).length:Nat):Int) - 1))=true
    rw[Vs,dcT (by lia),dcT (by lia)]
    rfl]
   refine bZ (Rc _ _ ⟨one.toNat,by lia,by lia,?_,U⟩)
   show[some (V.ref st),some (V.int one)]=[some (.ref st),some (.int (one.toNat:Int))]
   rw[Int.toNat_of_nonneg hz.1]
  ·rw[show isNum (.int one) 0 ((((g.map V.int).length:Nat):Int) - 1)=false by
    show (decide ((0:Int)<=one) && decide (one<=(((g.map V.int).length:Nat):Int) - 1))=false
    rw[Vs]
    by_cases h0:0<=one
    ·rw[dcF (show ¬ one<=(g.length:Int) - 1 by lia),Zw]
    ·rw[dcF h0,Zv]]
   exact cW (hN (by lia))
 rintro σ H1 ⟨i,rfl,hi,rfl,rfl⟩
 refine⟨_,U,_,U,st,CS,dx,_,_,U,hs,S.cl,S.gone,U,goa,_,U,.inr (sqT hgo),U,jJ go,_,U,?_⟩
 have e:inV (vN i) (go.map vN)=decide (i∈go):=by
  rw[show vN i=V.int (i:Int) from U,jY]
 rw[iNe (show ¬ false=true from Vy),e]
 by_cases z:i∈go
 ·rw[dcT z]
  exact cW (hG i U hi z)
 ·rw[dcF z]
  exact bZ (q i U hi z)
mutual
theorem Qc {one:Nat}:∀ t:Tm,one ∉ mnF t->nn one t=true
 | .free,_=>by simp [nn]
 | .never,_=>by simp [nn]
 | .gives i k,h=>by
  simp only[mnF] at h
  simp only[nn]
  exact dcT fun z=>h (by rw[z];exact List.mem_singleton.mpr U)
 | .sum c k,h=>by simpa [nn,mnF] using h
 | .crowd c k m,h=>by simpa [nn,mnF] using h
 | .all ts,h=>by
  simp only[mnF] at h
  simp only[nn]
  exact Jq ts h
 | .any ts,h=>by
  simp only[mnF] at h
  simp only[nn]
  exact Jq ts h
theorem Jq {one:Nat}:∀ ts:List Tm,one ∉ mnL ts->nnL one ts=true
 | [],_=>by simp [nnL]
 | t::r,h=>by
  rw[mnL,ZQ,not_or] at h
  rw[nnL,Qc t h.1,Jq r h.2]
  rfl
end
theorem Hr {n who:Nat}{x:Int × Tm}:∀ {p:Pl} {lo:Int},x∈p->nn who x.2=false->plF n who lo (p.map fun x=>Rg.rung x.1 x.2)=false
 | [],_,h,_=>by cases h
 | y::r,lo,h,e=>by
  show (rgF n who lo (.rung y.1 y.2) && plF n who (y.1+1) (r.map fun x=>Rg.rung x.1 x.2))=false
  rcases List.mem_cons.mp h with z | z
  ·have hm:who∈mnF y.2:=Classical.byContradiction fun q=>by
    rw[← z,Qc x.2 (by rw[z];exact q)] at *
    cases e
   show (((decide (lo<=y.1) && decide (y.1<=9)) && (ltF n (mnF y.2) && !decide (who∈mnF y.2))) && _)=false
   rw[dcT hm]
   simp
  ·rw[Hr z e,Zw]
def Sd {n who:Nat}{x:Int × Tm}{p:Pl}(h:x∈p)(e:nn who x.2=false):Qh n who (p.map fun x=>Rg.rung x.1 x.2)=false:=by
 unfold Qh
 rw[Hr h e,Zw]
inductive Ax (CS CP:Addr)(vs:FH)(H:Hp)(Q:VK)(E:XK):Prop where
 | mk (st p:Addr) (one n co:Nat) (g:D6) (go:D7) (es:List Ent) (pl:Pl) (z0:vs=[.ref st,vN one,.ref p]) (z1:gj CS n H st g go es co) (z2:g.length=n) (z3:1<=n) (z4:n<=12) (z5:kE n H p pl) (z6:((∃ x∈pl,nn one x.2=false)->thrown CP "bad pledge" H E)) (z7:((∀ x∈pl,nn one x.2=true)->∀ H',aN H H'->Q .non H')):Ax CS CP vs H Q E
def zM (CS CP:Addr):Sp:=fun vs H Q E=>Ax CS CP vs H Q E
def nq {CS CP:Addr} {k:Nat} (hk:3<=k) (F:Fun K "check_pledge" "check_pledge" ir f fd) (B:Bt mg) (S:yo K CS) (QA:Df P w K mg base "is_pledge" k X9 tZ)
  (Tl:Xc P w K mg base "BadPledge" CP "bad pledge"):bH P w K mg base (XL P w) (k+1) f fd XY (zM CS CP):=by
 refine EY F rC fun _ _ _ _ H _ Q E hr h=>?_
 obtain⟨st,p,one,n,co,g,go,es,pl,rfl,⟨dx,ga,goa,sa,us,hs,hga,hgo,hsa,hes⟩,lg,n1,n12,⟨okp,vs0,hp,rv⟩,hbad,q⟩:=h
 refine⟨_,(az (aW (dR (cI (aY QA hr (aa (aF (r:=iR K) aU U B.len_ bJ (aa (aX K U (pv 0)) ao)) (aa (pv 1) (aa (pv 2) ao)))))) (az (eO Tl hr U dF (hk:=hk))) aC)),?_⟩
 have lv:=rv.length
 have p9:=okp.2.1
 refine⟨_,U,st,CS,dx,_,_,U,hs,S.cl,S.green,U,ga,_,U,.inr (sqT hga),_,U,_,U,p,vs0,_,n,n,one,?_,hp,Rp rv fun x hx=>(okp.2.2.2 x hx).2.2,n12,by lia,n1,fun H1 s1=>?_⟩
 ·show[V.int (((g.map V.int).length:Nat):Int),vN one,V.ref p]=_
  rw[Vs,lg]
  rfl
 ·by_cases hn:∀ x∈pl,nn one x.2=true
  ·rw[Ol okp rv hn]
   exact⟨_,U,bZ (q hn H1 s1)⟩
  ·obtain⟨x,hx,e⟩:∃ x∈pl,nn one x.2=false:=Classical.byContradiction fun z=>hn fun x hx=>by
    cases e:nn one x.2 with
    | true=>rfl
    | false=>exact absurd ⟨x,hx,e⟩ z
   rw[Sd hx e]
   exact⟨_,U,cW ((hbad ⟨x,hx,e⟩).mono s1)⟩
theorem xF:∀ (n:Nat) (go:D7),go.Nodup->(∀ x∈go,x < n)->go.length<=n
 | 0,go,_,h=>by
  cases go with
  | nil=>exact Vw _
  | cons a r=>exact absurd (h a VP) (aao _)
 | n+1,go,nd,h=>by
  have:=xF n (go.filter fun x=>decide (x≠n)) (nd.filter _) fun x hx=>by
   have h1:=List.mem_filter.mp hx
   have h2:=h x h1.1
   have h3:x≠n:=of_decide_eq_true h1.2
   lia
  have c:=List.length_eq_countP_add_countP (p:=fun x=>decide (x≠n)) (l:=go)
  rw[List.countP_eq_length_filter] at c
  have c2:List.countP (fun a=>decide ¬decide (a≠n)=true) go<=1:=by
   have:=List.nodup_iff_count.mp nd n
   refine Wf (Nat.le_of_eq ?_) this
   unfold List.count
   congr 1
   funext x
   by_cases z:x=n <;> simp [z]
  lia
def mz {T:TT}{a b:TS}{D:Ends}{σ:St}{H:Hp}(R:Bool->Hp->Prop)(hT:∀ Q:Bool->Hp->Prop,(∀ c H1,R c H1->Q c H1)->T σ H Q)(ha:∀ H1,R true H1->a D σ H1)(hb:∀ H1,R false H1->b D σ H1):JL T a b D σ H:=by
 refine hT _ fun c H1 r=>?_
 cases c
 ·exact hb _ r
 ·exact ha _ r
mutual
theorem gZ.le {n m:Nat}{H:Hp}(h:n<=m):∀ {v:V} {t:Tm},gZ n H v t->gZ m H v t
 | _,_,.free e=>.free e
 | _,_,.never e=>.never e
 | _,_,.gives e a b c=>.gives e (Vx a h) b c
 | _,_,.sum e e2 a b c d f g=>.sum e e2 (fun i hi=>Vx (a i hi) h) b c d f g
 | _,_,.crowd e e2 a b c d f g i j=>.crowd e e2 (fun i hi=>Vx (a i hi) h) b c d f g i j
 | _,_,.all e e2 a b r=>.all e e2 a b (cu.le h r)
 | _,_,.any e e2 a b r=>.any e e2 a b (cu.le h r)
theorem cu.le {n m:Nat}{H:Hp}(h:n<=m):∀ {vs:FH} {ts:List Tm},cu n H vs ts->cu m H vs ts
 | _,_,.nil=>.nil
 | _,_,.cons a r=>.cons (gZ.le h a) (cu.le h r)
end
theorem dB.le {n m:Nat}{H:Hp}(h:n<=m):∀ {vs:FH} {p:Pl},dB n H vs p->dB m H vs p
 | _,_,.nil=>.nil
 | _,_,.cons a t r=>.cons a (t.le h) (dB.le h r)
def kE.le {n m:Nat}{H:Hp}{a:Addr}{p:Pl}(h:n<=m)(r:kE n H a p):kE m H a p:=⟨r.1,r.2.choose,r.2.choose_spec.1,r.2.choose_spec.2.le h⟩
theorem cD.le {n m:Nat}{H:Hp}(h:n<=m):∀ {us:FH} {es:List Ent},cD n H us es->cD m H us es
 | _,_,.nil=>.nil
 | _,_,.cons a p r=>.cons a (p.le h) (cD.le h r)
structure Bn (CS CB:Addr)(n:Nat)(H:Hp)(b be ah dx nw:Addr)(xs zs:FH)(g:D6)(go:D7)(es:List Ent)(co:Nat):Prop where
 hb:H b=some (.ins CB dx (bnF nw be ah))
 hbe:H be=some (.lst xs)
 hah:H ah=some (.lst zs)
 st:gj CS n H nw g go es co
 nb:be≠ah
 lg:g.length=n
 n12:n<=12
 l40:es.length<=40
 gn:go.Nodup
 gl:∀ x∈go,x < n
section
variable {CS CB:Addr}{n:Nat}{H H':Hp}{b be ah dx nw:Addr}{xs zs:FH}{g:D6}{go:D7}{es:List Ent}{co:Nat}
def Bn.same (B:Bn CS CB n H b be ah dx nw xs zs g go es co)(s:aN H H'):Bn CS CB n H' b be ah dx nw xs zs g go es co :=
 ⟨s _ _ B.hb,s _ _ B.hbe,s _ _ B.hah,B.st.ks (ksS s),B.nb,B.lg,B.n12,B.l40,B.gn,B.gl⟩
def Bn.sT (B:Bn CS CB n H b be ah dx nw xs zs g go es co)(s:jP H H'):Bn CS CB n H' b be ah dx nw xs zs g go es co :=
 ⟨s _ _ (fun _ z=>nomatch z) B.hb,s _ _ (fun _ z=>nomatch z) B.hbe,s _ _ (fun _ z=>nomatch z) B.hah,B.st.ks ⟨fun a ys q=>s _ _ (fun _ z=>nomatch z) q,fun a dx fs q=>s _ _ (fun _ z=>nomatch z) q⟩,B.nb,B.lg,B.n12,B.l40,B.gn,B.gl⟩
def Bn.U4 (B:Bn CS CB n H b be ah dx nw xs zs g go es co):uv CS CB n H b be xs.length g go es co:=⟨dx,nw,ah,xs,B.hb,B.hbe,U,B.st⟩
def Bn.few (B:Bn CS CB n H b be ah dx nw xs zs g go es co):go.length<=12:=Wf (xF n go B.gn B.gl) B.n12
end
inductive Bb (CB:Addr)(vs:FH)(H:Hp)(Q:VK):Prop where
 | mk (b be st dx nw ah:Addr) (xs:FH) (z0:vs=[.ref b,.ref st]) (z1:H b=some (.ins CB dx (bnF nw be ah))) (z2:H be=some (.lst xs)) (z3:xs.length<=900) (z4:∀ (ah':Addr) (H':Hp),H ah'=none->H' b=some (.ins CB dx (bnF st be ah'))->H' be=some (.lst (xs++[.ref nw]))->H' ah'=some (.lst [])->But b be H H'->Q .non H'):Bb CB vs H Q
def jH (CB:Addr):Sp:=fun vs H Q _=>Bb CB vs H Q
def sy {CB:Addr} (F:Fun K "go_on" "Boon.go_on" jR f fd) (S:zF K CB):bH P w K mg base CX0 1 f fd YV (jH CB):=by
 refine okA F vf fun _ _ _ _ H _ Q E hr h=>?_
 obtain⟨b,be,st,dx,nw,ah,xs,rfl,hb,hbe,l9,q⟩:=h
 refine⟨_,(au (bD (tu W7 Xg Xf du (aX K U (pv 0)) (aa (aX K U (pv 0)) ao)))
 (au (mW (pv 0) (bA ao) U)
 (az (mW (pv 0) (pv 1) U)))),?_⟩
 have bb:be≠b:=fun z=>by rw[z,hb] at hbe;cases hbe
 refine⟨_,U,b,CB,dx,_,_,U,hb,S.cl,S.behind,U,.inl ⟨U,_,sqL hbe⟩,_,U,b,CB,dx,_,_,U,hb,S.cl,S.now,U,be,_,_,U,U,hbe,aQ (by lia),?_⟩
 have k1:But b be H (upd H be (.lst (xs++[.ref nw]))):=fun a o _ h z=>by rw[aM h];exact z
 generalize eH1:upd H be _=H1 at k1
 have e1:H1 be=some (.lst (xs++[.ref nw])):=by rw[← eH1];exact aj
 have e1b:H1 b=some (.ins CB dx (bnF nw be ah)):=by rw[← eH1,aM bb.symm];exact hb
 refine⟨smN 0,fun a2 h2=>?_⟩
 have n2:a2≠be:=fun z=>by rw[z,e1] at h2;cases h2
 have n2b:a2≠b:=fun z=>by rw[z,e1b] at h2;cases h2
 have fr:H a2=none:=by rw[← eH1,aM n2] at h2;exact h2
 generalize eH2:upd H1 a2 _=H2
 obtain⟨g2,e2⟩:=aK eH2 h2
 refine⟨_,U,b,CB,dx,_,U,g2 _ _ e1b,S.cl,S.ahead,by show 3 < 1000;decide,?_⟩
 have k3:∀ a o,a≠b->H2 a=some o->upd H2 b (.ins CB dx (tW "ahead" (.ref a2) (bnF nw be ah))) a=some o:=fun a o h z=>by rw[aM h];exact z
 generalize eH3:upd H2 b _=H3 at k3
 have e3:H3 b=some (.ins CB dx (bnF nw be a2)):=by rw[← eH3];exact aj
 refine⟨_,U,_,U,b,CB,dx,_,U,e3,S.cl,S.now,by show 3 < 1000;decide,?_⟩
 refine q a2 _ fr aj (by rw[aM bb];exact k3 _ _ bb (g2 _ _ e1)) (by rw[aM n2b];exact k3 _ _ n2b e2) fun a o h h' z=>?_
 rw[aM h]
 exact k3 _ _ h (g2 _ _ (k1 a o h h' z))
def Dp {CS CB:Addr}{n n':Nat}{H H1:Hp}{b be ah dx nw x:Addr}{xs zs:FH}{g g':D6}{go go':D7}{es es':List Ent}{co co':Nat}{Q:VK}(B:Bn CS CB n H b be ah dx nw xs zs g go es co)(ne:CB≠CS)(l9:xs.length<=900)(s:aN H H1)(st:gj CS n' H1 x g' go' es' co')
  (lg:g'.length=n') (n12:n'<=12) (l40:es'.length<=40) (gn:go'.Nodup) (gl:∀ x∈go',x < n') (q:∀ (H':Hp) (ah':Addr),But b be H H'->H ah'=none->Bn CS CB n' H' b be ah' dx x (xs++[.ref nw]) [] g' go' es' co'->Q .non H'):jH CB [.ref b,.ref x] H1 Q E0:=by
 refine⟨b,be,x,dx,nw,ah,xs,U,s _ _ B.hb,s _ _ B.hbe,l9,fun ah' H' fa e1 e2 e3 bt=>?_⟩
 refine q H' ah' ((Qf s).trans bt) (s.free fa) ⟨e1,e2,e3,st.ks (bt.ks ne (s _ _ B.hb) (s _ _ B.hbe)),fun z=>?_,lg,n12,l40,gn,gl⟩
 rw[← z,s _ _ B.hbe] at fa
 cases fa
inductive vZ (CS CB:Addr)(vs:FH)(H:Hp)(Q:VK):Prop where
 | mk (b dx:Addr) (z0:vs=[.ref b]) (z1:H b=some (.ins CB dx [])) (z2:∀ (be ah nw:Addr) (H':Hp),H be=none->H ah=none->(∀ a o,a≠b->H a=some o->H' a=some o)->Bn CS CB 0 H' b be ah dx nw [] [] [] [] [] 0->Q .non H'):vZ CS CB vs H Q
def Ca (CS CB:Addr):Sp:=fun vs H Q _=>vZ CS CB vs H Q
def uF {CS CB:Addr} (F:Fun K "__init__" "Boon.__init__" kZ f fd) (S:zF K CB) (PR:Dk2 P w K mg base "Stand" CS 1 Wp (gD CS)) :
  bH P w K mg base CX0 3 f fd ZO (Ca CS CB):=by
 refine okA F pI fun _ _ _ _ H _ Q E hr h=>?_
 obtain⟨b,dx,rfl,hb,q⟩:=h
 refine⟨_,(au (mW (pv 0) (Eu PR hr (aa (aZ ao) (aa (aZ ao) (aa (aZ ao) (aa aq ao))))) U)
 (au (mW (pv 0) (bA ao) U)
 (az (mW (pv 0) (bA ao) U)))),?_⟩
 refine⟨smN 0,fun p1 h1=>?_⟩
 generalize eH1:upd H p1 _=H1
 obtain⟨g1,e1⟩:=aK eH1 h1
 refine⟨smN 0,fun p2 h2=>?_⟩
 generalize eH2:upd H1 p2 _=H2
 obtain⟨g2,e2⟩:=aK eH2 h2
 refine⟨smN 0,fun p3 h3=>?_⟩
 generalize eH3:upd H2 p3 _=H3
 obtain⟨g3,e3⟩:=aK eH3 h3
 have s3:=g1.trans (g2.trans g3)
 intro x dx2 hx hdx hne
 refine j5 hx hdx hne fun H4 sB e4=>⟨U,?_⟩
 have s4:=s3.trans sB
 refine⟨_,U,b,CB,dx,_,U,s4 _ _ hb,S.cl,S.now,by show 0 < 1000;decide,?_⟩
 have k1:∀ a o,a≠b->H4 a=some o->upd H4 b (.ins CB dx (tW "now" (.ref x) [])) a=some o:=fun a o h z=>by rw[aM h];exact z
 generalize eH5:upd H4 b _=H5 at k1
 have e5:H5 b=some (.ins CB dx [("now",.ref x)]):=by rw[← eH5];exact aj
 refine⟨smN 0,fun be hbe=>?_⟩
 generalize eH6:upd H5 be _=H6
 obtain⟨g6,e6⟩:=aK eH6 hbe
 refine⟨_,U,b,CB,dx,_,U,g6 _ _ e5,S.cl,S.behind,by show 1 < 1000;decide,?_⟩
 have bb:be≠b:=fun z=>by rw[z,e5] at hbe;cases hbe
 have k2:∀ a o,a≠b->H6 a=some o->upd H6 b (.ins CB dx (tW "behind" (.ref be) [("now",.ref x)])) a=some o:=fun a o h z=>by rw[aM h];exact z
 generalize eH7:upd H6 b _=H7 at k2
 have e7:H7 b=some (.ins CB dx [("now",.ref x),("behind",.ref be)]):=by rw[← eH7];exact aj
 refine⟨smN 0,fun ah hah=>?_⟩
 have ab:ah≠b:=fun z=>by rw[z,e7] at hah;cases hah
 generalize eH8:upd H7 ah _=H8
 obtain⟨g8,e8⟩:=aK eH8 hah
 refine⟨_,U,b,CB,dx,_,U,g8 _ _ e7,S.cl,S.ahead,by show 2 < 1000;decide,?_⟩
 have k3:∀ a o,a≠b->H8 a=some o->upd H8 b (.ins CB dx (tW "ahead" (.ref ah) [("now",.ref x),("behind",.ref be)])) a=some o:=fun a o h z=>by rw[aM h];exact z
 generalize eH9:upd H8 b _=H9 at k3
 have e9:H9 b=some (.ins CB dx (bnF x be ah)):=by rw[← eH9];exact aj
 have all:∀ a o,a≠b->H4 a=some o->H9 a=some o:=fun a o h z=>k3 a o h (g8 _ _ (k2 a o h (g6 _ _ (k1 a o h z))))
 have tp:∀ (p:Addr) (xs:FH),H4 p=some (HO.tup xs)->H9 p=some (HO.tup xs):=fun p xs z=>all p _ (fun y=>by rw[y,s4 _ _ hb] at z;cases z) z
 have xb:x≠b:=fun z=>by rw[z] at hx;rw[s3 _ _ hb] at hx;cases hx
 have e6':H7 be=some (.lst []):=k2 _ _ bb e6
 have old:∀ a,a≠b->H5 a=none->H a=none:=fun a hn h=>by
  cases hq:H a with
  | none=>rfl
  | some o =>
   have:=k1 a o hn (s4 _ _ hq)
   rw[h] at this
   cases this
 refine q be ah x H9 (old be bb hbe) ?_ (fun a o h z=>all a o h (s4 _ _ z)) ⟨e9,k3 _ _ bb (g8 _ _ e6'),k3 _ _ ab e8,⟨dx2,p1,p2,p3,[],all _ _ xb e4,tp _ _ (sB _ _ (g3 _ _ (g2 _ _ e1))),tp _ _ (sB _ _ (g3 _ _ e2)),tp _ _ (sB _ _ e3),.nil⟩,fun z=>?_,U,by decide,by decide,.nil,by simp⟩
 ·refine old ah ab ?_
  cases hq:H5 ah with
  | none=>rfl
  | some o =>
   have:=k2 ah o ab (g6 _ _ hq)
   rw[hah] at this
   cases this
 ·rw[← z,e6'] at hah
  cases hah
inductive CV (CS CB CF:Addr)(vs:FH)(H:Hp)(Q:VK)(E:XK):Prop where
 | mk (b be ah dx nw:Addr) (n co:Nat) (xs zs:FH) (g:D6) (go:D7) (es:List Ent) (z0:vs=[.ref b]) (z1:Bn CS CB n H b be ah dx nw xs zs g go es co) (z2:xs.length<=900) (z3:(12<=n->thrown CF "full" H E)) (z4:(n < 12->∀ (H':Hp) (nw' ah':Addr),But b be H H'->H ah'=none->Bn CS CB (n+1) H' b be ah' dx nw' (xs++[.ref nw]) [] (g++[0]) go es co->Q (vN n) H')):CV CS CB CF vs H Q E
def Hh (CS CB CF:Addr):Sp:=fun vs H Q E=>CV CS CB CF vs H Q E
def sY {CS CB CF:Addr} {t1:Tok} (ne:CB≠CS) (F:Fun K "come" "Boon.come" lV f fd) (B:Bt mg) (S:yo K CS) (T:zF K CB) (TL:mg "MOST_FOLK" = some (.int 12 t1))
  (PR:Dk2 P w K mg base "Stand" CS 1 Wp (gD CS)) (PP:Dm2 P w K mg base CB "go_on" 1 YV (jH CB)) (Tx:Xc P w K mg base "Full" CF "full") :
  bH P w K mg base (XL P w) 4 f fd ZO (Hh CS CB CF):=by
 refine EY F oZ fun _ _ _ _ H _ Q E hr h=>?_
 obtain⟨b,be,ah,dx,nw,n,co,xs,zs,g,go,es,rfl,hB,l9,hF,q⟩:=h
 refine⟨_,(au (aP (i:=1) oZ.nd U (VF U) (aX K U (pv 0)))
 (au (aW (aH lJ (aF (r:=iR K) aU U B.len_ bJ (aa (aX K U (pv 1)) ao)) (pG TL)) (az (eO Tx hr U dF)) aC)
 (au (bD (DQ PP hr (pv 0) (aa (Eu PR hr (aa (aR (r:=iB K) gM (aX K U (pv 1)) (aZ (aa aq ao))) (aa (aX K U (pv 1)) (aa (aX K U (pv 1)) (aa (aX K U (pv 1)) ao))))) ao)))
 (az (aD (aF (r:=iR K) aU U B.len_ bJ (aa (aX K U (pv 1)) ao))))))),?_⟩
 have hb:=hB.hb
 have lg:=hB.lg
 obtain⟨dx2,ga,goa,sa,us,hs,hga,hgoa,hsa,hes⟩:=id hB.st
 refine bV (fun σ H1=>σ=[oR b,oR nw]/\H1=H) ?_ ?_
 ·intro N Rc
  exact⟨_,U,b,CB,dx,_,_,U,hb,T.cl,T.now,U,Rc _ _ ⟨U,U⟩⟩
 rintro σ H0 ⟨rfl,rfl⟩
 refine bV (fun σ H1=>σ=[oR b,oR nw]/\H1=H0/\n < 12) ?_ ?_
 ·intro N Rc
  refine⟨_,U,nw,CS,dx2,_,_,U,hs,S.cl,S.green,U,ga,_,U,.inr (sqT hga),_,_,U,U,_,U,?_⟩
  by_cases z:12<=n
  ·rw[dcT (show ((12:Int)<=(((g.map V.int).length:Nat):Int)) by rw[Vs];lia)]
   exact cW (hF z)
  ·rw[dcF (show ¬ ((12:Int)<=(((g.map V.int).length:Nat):Int)) by rw[Vs];lia)]
   exact bZ (Rc _ _ ⟨U,U,by lia⟩)
 rintro σ H1 ⟨rfl,rfl,h12⟩
 replace q:=q h12
 refine bV (fun σ H2=>∃ (nw' ah':Addr),σ=[oR b,oR nw]/\But b be H1 H2/\H1 ah'=none/\Bn CS CB (n+1) H2 b be ah' dx nw' (xs++[.ref nw]) [] (g++[0]) go es co) ?_ ?_
 ·intro N Rc
  refine⟨_,U,b,dx,_,U,hb,U,?_⟩
  refine⟨_,U,nw,CS,dx2,_,_,U,hs,S.cl,S.green,U,smN 1,fun p1 h1=>?_⟩
  generalize eH2:upd H1 p1 _=H2
  obtain⟨g2,e2⟩:=aK eH2 h1
  refine RD (g2 _ _ hga) e2 (by rw[Vs];show g.length+1<=1000;lia) fun p H3 s3 e3=>?_
  have s13:=g2.trans s3
  have e3:H3 p=some (.tup ((g++[0]).map V.int)):=by rw[e3,VD];rfl
  have hs3:=s13 _ _ hs
  refine⟨_,U,nw,CS,dx2,_,_,U,hs3,S.cl,S.gone,U,_,U,nw,CS,dx2,_,_,U,hs3,S.cl,S.standing,U,_,U,nw,CS,dx2,_,_,U,hs3,S.cl,S.coming,U,fun x dx3 hx hdx hne=>?_⟩
  refine j5 hx hdx hne fun H4 s4 e4=>⟨U,?_⟩
  have s14:=s13.trans s4
  exact Dp (Q:=fun _ H1=>N [some (.ref b),some (.ref nw)] H1) hB ne l9 s14 ⟨dx3,p,goa,sa,us,e4,s4 _ _ e3,s14 _ _ hgoa,s14 _ _ hsa,(hes.aO fun a ys z=>s14 _ _ z).le (Xq n)⟩ (by rw[VH,lg];rfl) (by lia) hB.l40 hB.gn (fun x hx=>WY (hB.gl x hx)) fun H' ah' bt fa hB'=>Rc _ _ ⟨_,ah',U,bt,fa,hB'⟩
 rintro σ H2 ⟨nw',ah',rfl,bt,fa,hB'⟩
 have ks:=bt.ks ne hb hB.hbe
 refine⟨_,U,nw,CS,dx2,_,_,U,ks.2 _ _ _ hs,S.cl,S.green,U,ga,_,U,.inr (sqT (ks.1 _ _ hga)),?_⟩
 rw[Vs,lg]
 exact q H2 nw' ah' bt fa hB'
structure XA where
 nf:Addr
 go:Addr
 bp:Addr
 fu:Addr
 np:Addr
 bd:Addr
 nd:Addr
 br:Addr
 nl:Addr
def XA.of (x:XA)(w:Wb):Addr:=if w = "no folk" then x.nf else if w = "gone" then x.go else if w = "bad pledge" then x.bp else if w = "full" then x.fu else if w = "no pledge" then x.np else if w = "bound" then x.bd else if w = "not due" then x.nd else if w = "bad rise" then x.br else x.nl
def Th (x:XA)(w:Wb)(H:Hp)(E:XK):Prop:=thrown (x.of w) w H E
def Th.mono {x:XA}{w:Wb}{H H1:Hp}{E:XK}(s:aN H H1)(h:Th x w H E):Th x w H1 E:=thrown.mono s h
section
variable {x:XA}
def Ud:x.of "no folk" = x.nf:=by unfold XA.of;rw[iPo U]
def TQ:x.of "gone" = x.go:=by unfold XA.of;rw[iNe (by decide),iPo U]
def Ri:x.of "bad pledge" = x.bp:=by unfold XA.of;rw[iNe (by decide),iNe (by decide),iPo U]
def Qi:x.of "full" = x.fu:=by unfold XA.of;rw[iNe (by decide),iNe (by decide),iNe (by decide),iPo U]
def T4:x.of "not due" = x.nd:=by unfold XA.of;rw[iNe (by decide),iNe (by decide),iNe (by decide),iNe (by decide),iNe (by decide),iNe (by decide),iPo U]
def QW:x.of "bad rise" = x.br:=by unfold XA.of;rw[iNe (by decide),iNe (by decide),iNe (by decide),iNe (by decide),iNe (by decide),iNe (by decide),iNe (by decide),iPo U]
end
def miW (n:Nat)(go:D7)(o:Int):Wb:=if o < 0∨(n:Int)<=o then "no folk" else if o.toNat∈go then "gone" else ""
def yq (n:Nat) (go:D7) (o:Int):(miW n go o = "no folk"/\(o < 0∨(n:Int)<=o))∨(∃ i:Nat,o=i/\i < n/\((i∈go/\miW n go o = "gone")∨(i ∉ go/\miW n go o = ""))):=by
 unfold miW
 by_cases h:o < 0∨(n:Int)<=o
 ·exact .inl ⟨iPo h,h⟩
 ·refine .inr ⟨o.toNat,by lia,by lia,?_⟩
  rw[iNe h]
  by_cases g:o.toNat∈go
  ·exact .inl ⟨g,iPo g⟩
  ·exact .inr ⟨g,iNe g⟩
def xg {n:Nat} {go:D7} {o:Int} (h:miW n go o = ""):∃ i:Nat,o=i/\i < n/\i ∉ go:=by
 rcases yq n go o with⟨e,_⟩ | ⟨i,e,hi,⟨_,e2⟩ | ⟨g,_⟩⟩
 ·rw[e] at h;exact absurd h (by decide)
 ·rw[e2] at h;exact absurd h (by decide)
 ·exact⟨i,e,hi,g⟩
def oh {n i:Nat} {go:D7} (hi:i < n):miW n go (i:Int)=if i∈go then ("gone" : Wb) else "":=by
 unfold miW
 rw[iNe (by lia),Wg]
def nO {CS:Addr} {x:XA} {st:Addr} {one:Int} {n co:Nat} {g:D6} {go:D7} {es:List Ent} {H:Hp} {Q:VK} {E:XK} (hst:gj CS n H st g go es co) (lg:g.length=n) (hw:miW n go one≠""->Th x (miW n go one) H E) (q:∀ i:Nat,one=i->i < n->i ∉ go->Q .non H):mV CS x.nf x.go [.ref st,.int one] H Q E:=by
 refine⟨st,one,n,co,g,go,es,U,hst,fun z=>?_,fun i e hi hg=>?_,fun i e hi hg=>q i e (by lia) hg⟩
 ·have e:miW n go one = "no folk":=by unfold miW;rw[iPo (by lia)]
  have:=hw (by rw[e];decide)
  unfold Th at this
  rw[e,Ud] at this
  exact this
 ·have e:miW n go one = "gone":=by rw[e,oh (by lia),iPo hg]
  have:=hw (by rw[e];decide)
  unfold Th at this
  rw[e,TQ] at this
  exact this
def plW (n:Nat)(go:D7)(es:List Ent)(o:Int)(pl:Pl):Wb:=if miW n go o≠"" then miW n go o else if ∃ x∈pl,nn o.toNat x.2=false then "bad pledge" else if 40<=es.length then "full" else ""
inductive t6 (CS CB:Addr)(x:XA)(vs:FH)(H:Hp)(Q:VK)(E:XK):Prop where
 | mk (b be ah dx nw p:Addr) (one:Int) (n co:Nat) (xs zs:FH) (g:D6) (go:D7) (es:List Ent) (pl:Pl) (z0:vs=[.ref b,.int one,.ref p]) (z1:Bn CS CB n H b be ah dx nw xs zs g go es co) (z2:kE n H p pl) (z3:xs.length<=900) (z4:(plW n go es one pl≠""->Th x (plW n go es one pl) H E)) (z5:(plW n go es one pl = ""->∀ (H':Hp) (nw' ah':Addr),But b be H H'->H ah'=none->Bn CS CB n H' b be ah' dx nw' (xs++[.ref nw]) [] g go (es++[(co,one.toNat,pl)]) (co+1)->Q (vN co) H')):t6 CS CB x vs H Q E
def yD (CS CB:Addr)(x:XA):Sp:=fun vs H Q E=>t6 CS CB x vs H Q E
def pO {CS CB:Addr} {x:XA} {t1:Tok} {k:Nat} (hk:4<=k) (ne:CB≠CS) (F:Fun K "pledge" "Boon.pledge" jw f fd) (B:Bt mg) (S:yo K CS) (T:zF K CB) (TN:mg "MOST_PLEDGES" = some (.int 40 t1))
  (P4:Dx P w K mg base "check_there" 4 ZB (mV CS x.nf x.go)) (PZ:Dx P w K mg base "check_pledge" k XY (zM CS x.bp))
  (PR:Dk2 P w K mg base "Stand" CS 1 Wp (gD CS)) (PP:Dm2 P w K mg base CB "go_on" 1 YV (jH CB)) (Tx:Xc P w K mg base "Full" x.fu "full") :
  bH P w K mg base (XL P w) (k+1) f fd X0 (yD CS CB x):=by
 refine EY F kW fun _ _ _ _ H _ Q E hr h=>?_
 obtain⟨b,be,ah,dx,nw,p,one,n,co,xs,zs,g,go,es,pl,rfl,hB,hp,l9,hw,q⟩:=h
 refine⟨_,(au (aP (i:=3) kW.nd U (VF U) (aX K U (pv 0)))
 (au (bD (pK P4 hr cg (aa (pv 3) (aa (pv 1) ao))))
 (au (bD (pK PZ hr cg (aa (pv 3) (aa (pv 1) (aa (pv 2) ao)))))
 (au (aW (aH lJ (aF (r:=iR K) aU U B.len_ bJ (aa (aX K U (pv 3)) ao)) (pG TN)) (az (eO Tx hr U dF (hk:=(Zd hk)))) aC)
 (au (bD (DQ PP hr (pv 0) (aa (Eu PR hr (aa (aX K U (pv 3)) (aa (aX K U (pv 3)) (aa (aR (r:=iB K) gM (aX K U (pv 3)) (aZ (aa (aZ (aa (aX K U (pv 3)) (aa (pv 1) (aa (pv 2) ao)))) ao))) (aa (aR bR (aX K U (pv 3)) aq) ao))))) ao)))
 (az (aD (aX K U (pv 3))))))))),?_⟩
 have hb:=hB.hb
 have hst:=hB.st
 refine bV (fun σ H1=>σ=[oR b,oI one,oR p,oR nw]/\H1=H) ?_ ?_
 ·intro N Rc
  exact⟨_,U,b,CB,dx,_,_,U,hb,T.cl,T.now,U,Rc _ _ ⟨U,U⟩⟩
 rintro σ H0 ⟨rfl,rfl⟩
 refine bV (fun σ H1=>∃ i:Nat,one=i/\i < n/\i ∉ go/\σ=[oR b,some (vN i),oR p,oR nw]/\H1=H0) ?_ ?_
 ·intro N Rc
  refine⟨_,U,_,U,nO (Q:=fun _ H1=>N [some (.ref b),some (.int one),some (.ref p),some (.ref nw)] H1) hst hB.lg (fun z=>?_) fun i e hi hg=>Rc _ _ ⟨i,e,hi,hg,by rw[e];rfl,U⟩⟩
  have e:plW n go es one pl=miW n go one:=by unfold plW;rw[iPo z]
  rw[← e]
  exact hw (by rw[e];exact z)
 rintro σ H1 ⟨i,rfl,hone,hgo,rfl,rfl⟩
 have e0:plW n go es (i:Int) pl=if ∃ x∈pl,nn i x.2=false then ("bad pledge" : Wb) else if 40<=es.length then "full" else "":=by
  unfold plW
  rw[oh hone,iNe hgo,iNe (fun z=>z U),Wg]
 rw[e0] at hw q
 rw[Wg] at q
 refine bV (fun σ H2=>σ=[oR b,some (vN i),oR p,oR nw]/\aN H1 H2/\∀ x∈pl,nn i x.2=true) ?_ ?_
 ·intro N Rc
  refine⟨_,U,_,U,_,U,nw,p,i,n,co,g,go,es,pl,U,hst,hB.lg,by lia,hB.n12,hp,fun z=>?_,fun hn H2 s2=>Rc _ _ ⟨U,s2,hn⟩⟩
  rw[iPo z] at hw
  have:=hw (by decide)
  unfold Th at this
  rw[Ri] at this
  exact this
 rintro σ H2 ⟨rfl,s2,hn⟩
 rw[iNe (fun⟨y,hy,z⟩=>by rw[hn y hy] at z;cases z)] at hw q
 replace hB:=hB.same s2
 obtain⟨dx2,ga,goa,sa,us,hs,hga,hgoa,hsa,hes⟩:=id hB.st
 have les:=hes.length
 refine bV (fun σ H3=>σ=[oR b,some (vN i),oR p,oR nw]/\H3=H2/\es.length < 40) ?_ ?_
 ·intro N Rc
  refine⟨_,U,nw,CS,dx2,_,_,U,hs,S.cl,S.standing,U,sa,_,U,.inr (sqT hsa),_,_,U,U,_,U,?_⟩
  by_cases z:40<=es.length
  ·rw[dcT (show ((40:Int)<=((us.length:Nat):Int)) by lia)]
   rw[iPo z] at hw
   have:=hw (by decide)
   unfold Th at this
   rw[Qi] at this
   exact cW (this.mono s2)
  ·rw[dcF (show ¬ ((40:Int)<=((us.length:Nat):Int)) by lia)]
   exact bZ (Rc _ _ ⟨U,U,by lia⟩)
 rintro σ H3 ⟨rfl,rfl,l40'⟩
 rw[iNe (by lia)] at q
 replace q:=q U
 have hb3:=hB.hb
 refine bV (fun σ H4=>∃ (nw' ah':Addr),σ=[oR b,some (vN i),oR p,oR nw]/\But b be H3 H4/\H3 ah'=none/\Bn CS CB n H4 b be ah' dx nw' (xs++[.ref nw]) [] g go (es++[(co,i,pl)]) (co+1)) ?_ ?_
 ·intro N Rc
  refine⟨_,U,b,dx,_,U,hb3,U,?_⟩
  refine⟨_,U,nw,CS,dx2,_,_,U,hs,S.cl,S.green,U,_,U,nw,CS,dx2,_,_,U,hs,S.cl,S.gone,U,_,U,nw,CS,dx2,_,_,U,hs,S.cl,S.standing,U,?_⟩
  refine⟨_,U,nw,CS,dx2,_,_,U,hs,S.cl,S.coming,U,_,U,_,U,smN 3,fun p1 h1=>?_⟩
  generalize eH5:upd H3 p1 _=H5
  obtain⟨g5,e5⟩:=aK eH5 h1
  refine⟨smN 1,fun p2 h2=>?_⟩
  generalize eH6:upd H5 p2 _=H6
  obtain⟨g6,e6⟩:=aK eH6 h2
  have s36:=g5.trans g6
  refine RD (s36 _ _ hsa) e6 (by show us.length+1<=1000;lia) fun p3 H7 s7 e7=>?_
  have s37:=s36.trans s7
  refine⟨_,U,nw,CS,dx2,_,_,U,s37 _ _ hs,S.cl,S.coming,U,_,_,U,U,fun y dx3 hx hdx hne=>?_⟩
  refine j5 hx hdx hne fun H8 s8 e8=>⟨U,?_⟩
  have s38:=s37.trans s8
  have t38:∀ a ys,H3 a=some (HO.tup ys)->H8 a=some (HO.tup ys):=fun a ys q=>s38 a _ q
  exact Dp (Q:=fun _ H1=>N [some (.ref b),some (vN i),some (.ref p),some (.ref nw)] H1) hB ne l9 s38 ⟨dx3,ga,goa,p3,us++[.ref p1],e8,s38 _ _ hga,s38 _ _ hgoa,s8 _ _ e7,cD.snoc (s8 _ _ (s7 _ _ (g6 _ _ e5))) ((hp.aO fun a ys q=>s2 a _ q).aO t38) (hes.aO t38)⟩ hB.lg hB.n12 (by rw[VH];show es.length+1<=40;lia) hB.gn hB.gl fun H' ah' bt fa hB'=>Rc _ _ ⟨_,ah',U,bt,fa,hB'⟩
 rintro σ H4 ⟨nw',ah',rfl,bt,fa,hB4⟩
 have ks:=bt.ks ne hb3 hB.hbe
 exact⟨_,U,nw,CS,dx2,_,_,U,ks.2 _ _ _ hs,S.cl,S.coming,U,q H4 nw' ah' ((Qf s2).trans bt) (s2.free fa) hB4⟩
inductive wj (CS CB:Addr)(x:XA)(vs:FH)(H:Hp)(Q:VK)(E:XK):Prop where
 | mk (b be ah dx nw:Addr) (one:Int) (n co:Nat) (xs zs:FH) (g:D6) (go:D7) (es:List Ent) (z0:vs=[.ref b,.int one]) (z1:Bn CS CB n H b be ah dx nw xs zs g go es co) (z2:xs.length<=900) (z3:(miW n go one≠""->Th x (miW n go one) H E)) (z4:(miW n go one = ""->∀ (H':Hp) (nw' ah':Addr),But b be H H'->H ah'=none->Bn CS CB n H' b be ah' dx nw' (xs++[.ref nw]) [] g (mL (go++[one.toNat])) (es.filter fun e=>decide (e.2.1≠one.toNat)) co->Q .non H')):wj CS CB x vs H Q E
def Bs (CS CB:Addr)(x:XA):Sp:=fun vs H Q E=>wj CS CB x vs H Q E
abbrev jO:Stmt:=inClass (top 44) 3
def iW:aG ["self","one","now","left"] ZH (aB jO):=c7
def rM {CS CB:Addr} {x:XA} (ne:CB≠CS) (F:Fun K "leave" "Boon.leave" jO f fd) (B:Bt mg) (S:yo K CS) (T:zF K CB)
  (P4:Dx P w K mg base "check_there" 4 ZB (mV CS x.nf x.go)) (PR:Dk2 P w K mg base "Stand" CS 1 Wp (gD CS)) (PP:Dm2 P w K mg base CB "go_on" 1 YV (jH CB)) :
  bH P w K mg base (XL P w) 5 f fd ZH (Bs CS CB x):=by
 refine EY F iW fun _ _ _ _ H _ Q E hr h=>?_
 obtain⟨b,be,ah,dx,nw,one,n,co,xs,zs,g,go,es,rfl,hB,l9,hw,q⟩:=h
 refine⟨_,(au (aP (i:=2) iW.nd U (VF U) (aX K U (pv 0)))
 (au (bD (pK P4 hr cg (aa (pv 2) (aa (pv 1) ao))))
 (au (aP (i:=3) iW.nd U (VF U) (bh (r:=fY K) bK U B.tuple_ bQ (aa (cz (L:=["entry"]) (F:=["one"]) (cap:=[1]) U (bF U U (by kernel_rfl)) (dq (aX K U (pv 2))) (fun _ _ _ _ _=>(aJ (i:=0) (bw (by decide+kernel)) U (VF U))) (fun _ _ _ _ _=>(jf (aH sI (pxT K (pv 0) aq) (pv 1)))) (fun _ _ _ _ _=>(pv 0))) ao)))
 (az (bD (DQ PP hr (pv 0) (aa (Eu PR hr (aa (aX K U (pv 2)) (aa (bh (r:=fY K) bK U B.tuple_ bQ (aa (aF (r:=LK K) Ef U B.sorted_ (by decide+kernel) (aa (aR (r:=iB K) gM (aX K U (pv 2)) (aZ (aa (pv 1) ao))) ao)) ao)) (aa (pv 3) (aa (aX K U (pv 2)) ao))))) ao))))))),?_⟩
 have hb:=hB.hb
 have lgo:=hB.few
 have l40:=hB.l40
 obtain⟨dx2,ga,goa,sa,us,hs,hga,hgoa,hsa,hes⟩:=id hB.st
 have les:=hes.length
 refine bV (fun σ H1=>σ=[oR b,oI one,oR nw,none]/\H1=H) ?_ ?_
 ·intro N Rc
  exact⟨_,U,b,CB,dx,_,_,U,hb,T.cl,T.now,U,Rc _ _ ⟨U,U⟩⟩
 rintro σ H0 ⟨rfl,rfl⟩
 refine bV (fun σ H1=>∃ i:Nat,one=i/\i < n/\i ∉ go/\σ=[oR b,some (vN i),oR nw,none]/\H1=H0) ?_ ?_
 ·intro N Rc
  exact⟨_,U,_,U,nO (Q:=fun _ H1=>N [some (.ref b),some (.int one),some (.ref nw),none] H1) hB.st hB.lg hw fun i e hi hg=>Rc _ _ ⟨i,e,hi,hg,by rw[e];rfl,U⟩⟩
 rintro σ H2 ⟨i,rfl,hone,hgo,rfl,rfl⟩
 rw[oh hone,iNe hgo,Wg] at q
 replace q:=q U
 refine bV (fun σ H3=>∃ (ch:Addr) (us':FH),σ=[oR b,some (vN i),oR nw,oR ch]/\aN H2 H3/\H3 ch=some (.tup us')/\cD n H3 us' (es.filter fun e=>decide (e.2.1≠i))) ?_ ?_
 ·intro N Rc
  refine⟨_,U,nw,CS,dx2,_,_,U,hs,S.cl,S.standing,U,sa,U,⟨_,sqT hsa⟩,fun D hD=>cX (K:=K) (a:=sa) (xs:=us) (fun j zs σ' H3=>(∃ u,σ'=[u,some (vN i)])/\aN H2 H3/\H3 D=some (.lst zs)/\cD n H3 zs ((es.take j).filter fun e=>decide (e.2.1≠i)))
   ⟨⟨_,U⟩,aA hD _,aj,by rw[Ws];exact .nil⟩ (fun j zs σ' H3 _ h=>⟨sqT (h.2.1 _ _ hsa),h.2.2.1⟩) ?_ ?_⟩
  ·rintro j zs y σ' H3 hx ⟨⟨u,rfl⟩,sm,eD,ez⟩
   obtain⟨e,p2,nu,o2,pl2,rfl,he,hent,hpr⟩:=hes.get hx
   have lz:=ez.length
   have lf:=WT (fun e:Ent=>decide (e.2.1≠i)) (es.take j)
   rw[V0] at lf
   have nx:=cD.SM (n:=n) (p:=fun e:Ent=>decide (e.2.1≠i)) he
   refine⟨_,U,e,_,_,_,U,U,sqT (sm _ _ hent),U,_,U,U,_,U,?_⟩
   by_cases z:o2=i
   ·rw[show decide (vN o2=vN i)=true from dcT (by rw[z])]
    show if (!true)=true then _ else _
    refine bZ ⟨⟨_,U⟩,sm,eD,?_⟩
    rw[nx,iNe (by rw[dcF (not_not_intro z)];exact Vy),Xn]
    exact ez
   ·rw[show decide (vN o2=vN i)=false from dcF fun y=>z (by injection y with y;lia)]
    show if (!false)=true then _ else _
    have tk:=cR (zs':=zs++[.ref e]) eD
    refine cW ⟨_,U,eD,aQ (by lia),⟨_,U⟩,aV sm hD _,aj,?_⟩
    rw[nx,iPo (dcT z)]
    exact cD.snoc (tk _ _ (sm _ _ hent)) ((hpr.aO fun a ys q=>sm a _ q).aO tk) (ez.aO tk)
  ·rintro zs σ' H3 ⟨_,sm,eD,ez⟩
   rw[les,VJ] at ez
   refine⟨D,_,U,.inl ⟨sqL eD,fun a ha=>?_⟩⟩
   have sn:=aA ha (.tup zs)
   exact Rc _ _ ⟨a,zs,U,sm.trans sn,aj,ez.aO fun a ys q=>sn a _ q⟩
 rintro σ H3 ⟨ch,us',rfl,s3,ech,ees⟩
 have hs3:=s3 _ _ hs
 refine⟨_,U,b,dx,_,U,s3 _ _ hb,U,?_⟩
 refine⟨_,U,nw,CS,dx2,_,_,U,hs3,S.cl,S.green,U,?_⟩
 refine⟨_,U,nw,CS,dx2,_,_,U,hs3,S.cl,S.gone,U,_,U,smN 1,fun p1 h1=>?_⟩
 generalize eH4:upd H3 p1 _=H4
 obtain⟨g4,e4⟩:=aK eH4 h1
 refine RD (g4 _ _ (s3 _ _ hgoa)) e4 (by rw[Vs];show go.length+1<=1000;lia) fun p2 H5 s5 e5=>?_
 have e5:H5 p2=some (.tup ((go++[i]).map vN)):=by rw[e5,VD];rfl
 have ep:SqT K H5 p2 (((go++[i]).map fun i:Nat=>(i:Int)).map V.int):=sqT (e5.trans (by rw[gY]))
 refine⟨p2,_,U,ep,by rw[Vs,VH];show go.length+1 < 64;lia,fun ms pms so l hl=>?_⟩
 have ems:=yP pms so
 subst ems
 generalize eH6:upd H5 l _=H6
 obtain⟨g6,e6⟩:=aK eH6 hl
 refine⟨l,_,U,.inl ⟨sqL e6,fun tt htt=>?_⟩⟩
 generalize eH7:upd H6 tt _=H7
 obtain⟨g7,e7⟩:=aK eH7 htt
 have s37:=g4.trans (s5.trans (g6.trans g7))
 have s27:=s3.trans s37
 refine⟨_,U,_,U,nw,CS,dx2,_,_,U,s37 _ _ hs3,S.cl,S.coming,U,fun y dx3 hx hdx hne=>?_⟩
 refine j5 hx hdx hne fun H8 s8 e8=>⟨U,?_⟩
 have s28:=s27.trans s8
 have mem:∀ y,y∈mL (go++[i]) ↔ y∈go∨y=i:=fun y=>by rw[(fZ _).mem_iff,ZQ,XN]
 refine Dp hB ne l9 s28 ⟨dx3,ga,tt,ch,us',e8,s28 _ _ hga,s8 _ _ (e7.trans (by rw[gY])),(s37.trans s8) _ _ ech,ees.aO fun a ys q=>(s37.trans s8) a _ q⟩ hB.lg hB.n12 (Wf (WT _ _) l40) ?_ (fun y hy=>?_) fun H' ah' bt fa hB'=>q H' _ ah' bt fa hB'
 ·refine (fZ _).nodup_iff.mpr ?_
  rw[ab0]
  refine⟨hB.gn,by simp,fun y hy z hz e=>hgo ?_⟩
  rw[XN] at hz
  rw[← hz,← e]
  exact hy
 ·rcases (mem y).mp hy with z | z
  ·exact hB.gl y z
  ·rw[z]
   exact hone
abbrev mK:Stmt:=top 43
abbrev lE:Stmt:=inClass (top 44) 7
def dw:aG ["stand","rises","steps","crowd","one","step","green"] YR (aB mK):=c7
def wU:aG YY YY (aB lE):=c7
inductive RiI (H:Hp):FH->DL->Prop where
 | nil:RiI H [] []
 | cons {us:FH} {ps:DL} {e:Addr} {o s:Int} (h:H e=some (.tup [.int o,.int s])) (r:RiI H us ps):RiI H (.ref e::us) ((o,s)::ps)
theorem RiI.aO {H H':Hp}(t:∀ a xs,H a=some (HO.tup xs)->H' a=some (HO.tup xs)):∀ {us:FH} {ps:DL},RiI H us ps->RiI H' us ps
 | _,_,.nil=>.nil
 | _,_,.cons h r=>.cons (t _ _ h) (r.aO t)
theorem RiI.length {H:Hp}:∀ {us:FH} {ps:DL},RiI H us ps->us.length=ps.length
 | _,_,.nil=>rfl
 | _,_,.cons _ r=>congrArg (· + 1) r.length
theorem RiI.get {H:Hp}:∀ {us:FH} {ps:DL} {i:Nat} {u:V},RiI H us ps->us[i]? = some u->∃ (e:Addr) (o s:Int),u = .ref e/\ps[i]? = some (o,s)/\H e=some (.tup [.int o,.int s])
 | _,_,0,_,.cons h _,q=>by
  cases q
  exact⟨_,_,_,U,U,h⟩
 | _,_,i+1,_,.cons _ r,q=>r.get (i:=i) q
def seI (g:D6)(ps:DL):D6:=ps.foldl (fun g x=>g.set x.1.toNat x.2) g
def n8 (ps:DL):∀ g:D6,(seI g ps).length=g.length:=by
 induction ps with
 | nil=>intro g;rfl
 | cons x r ih =>
  intro g
  show (seI (g.set x.1.toNat x.2) r).length=_
  rw[ih,abe]
def Ce (g:D6)(ps:DL)(x:Int × Int):seI g (ps++[x])=(seI g ps).set x.1.toNat x.2:=by
 unfold seI
 rw[List.foldl_append]
 rfl
def GK {ps:DL}{j:Nat}:∀ {g:D6},(∀ x∈ps,x.1.toNat≠j)->(seI g ps).getD j 0=g.getD j 0:=by
 induction ps with
 | nil=>intro g _;rfl
 | cons x r ih =>
  intro g h
  show (seI (g.set x.1.toNat x.2) r).getD j 0=_
  rw[ih fun y hy=>h y (VR _ hy),Wi,abp (h x VP),← Wi]
def Sq {ps:DL}:∀ {g:D6} {x:Int × Int},(ps.map (·.1.toNat)).Nodup->x∈ps->x.1.toNat < g.length->(seI g ps).getD x.1.toNat 0=x.2:=by
 induction ps with
 | nil=>intro g x _ h;cases h
 | cons y r ih =>
  intro g x nd h hl
  rw[WL,List.nodup_cons] at nd
  show (seI (g.set y.1.toNat y.2) r).getD x.1.toNat 0=_
  rcases List.mem_cons.mp h with z | z
  ·rw[z] at hl ⊢
   rw[GK fun w hw e=>nd.1 (by rw[← e];exact abB hw),Wi,Z4 hl]
   rfl
  ·exact ih nd.2 z (by rw[abe];exact hl)
def riW (n:Nat)(g:D6)(go:D7):D7->DL->Wb
 | _,[]=>""
 | seen,x::r=>if miW n go x.1≠"" then miW n go x.1 else if x.1.toNat∈seen∨¬ (g.getD x.1.toNat 0 < x.2/\x.2<=9) then "bad rise" else riW n g go (seen++[x.1.toNat]) r
def haW (n:Nat)(g:D6)(go:D7)(es:List Ent)(ps:DL):Wb:=if ps=[] then "bad rise" else if riW n g go [] ps≠"" then riW n g go [] ps else if ∃ x∈ps,mxD 0 (owL es x.1.toNat (seI g ps)) < x.2 then "not due" else ""
structure Jt (n:Nat)(g:D6)(go:D7)(ps:DL)(i:Nat):Prop where
 on:riW n g go ((ps.take i).map (·.1.toNat)) (ps.drop i)=riW n g go [] ps
 nd:((ps.take i).map (·.1.toNat)).Nodup
 al:∀ x∈ps.take i,∃ j:Nat,x.1=j/\j < n/\j ∉ go/\g.getD j 0 < x.2/\x.2<=9
def Jt.zero (n:Nat)(g:D6)(go:D7)(ps:DL):Jt n g go ps 0:=⟨U,aaM,fun x hx=>by rw[Ws] at hx;cases hx⟩
section
variable {n:Nat}{g:D6}{go:D7}{ps:DL}{i:Nat}{o s:Int}
def Jt.word (h:Jt n g go ps i) (hp:ps[i]? = some (o,s)):riW n g go [] ps=if miW n go o≠"" then miW n go o else if o.toNat∈(ps.take i).map (·.1.toNat)∨¬ (g.getD o.toNat 0 < s/\s<=9) then ("bad rise" : Wb) else riW n g go ((ps.take i).map (·.1.toNat)++[o.toNat]) (ps.drop (i+1)):=by
 have ip:=(geS hp).1
 rw[← h.on,ZF ip,(geS hp).2]
 rfl
def Jt.step (h:Jt n g go ps i)(hp:ps[i]? = some (o,s)){j:Nat}(ej:o=j)(hj:j < n)(hg:j ∉ go)(hs:j ∉ (ps.take i).map (·.1.toNat))(h1:g.getD j 0 < s)(h9:s<=9):Jt n g go ps (i+1):=by
 have nx:ps.take (i+1)=ps.take i++[(o,s)]:=by rw[V8,hp];rfl
 have w:=h.word hp
 rw[ej,oh hj,iNe hg,iNe (fun z=>z U),Wg,iNe (fun z=>z.elim hs fun z=>z ⟨h1,h9⟩)] at w
 refine⟨?_,?_,fun x hx=>?_⟩
 ·rw[w,nx,VD,ej]
  rfl
 ·rw[nx,VD,ab0]
  refine⟨h.nd,by simp,fun x hx y hy z=>hs ?_⟩
  have hy':y=j:=by
   rw[ej] at hy
   simpa using hy
  rw[← hy',← z]
  exact hx
 ·rw[nx] at hx
  rcases List.mem_append.mp hx with z | z
  ·exact h.al x z
  ·rw[List.mem_singleton.mp z]
   exact⟨j,ej,hj,hg,h1,h9⟩
end
inductive tU (CS:Addr)(x:XA)(vs:FH)(H:Hp)(Q:VK)(E:XK):Prop where
 | mk (st ra:Addr) (n co:Nat) (g:D6) (go:D7) (es:List Ent) (us:FH) (ps:DL) (z0:vs=[.ref st,.ref ra]) (z1:gj CS n H st g go es co) (z2:g.length=n) (z3:es.length<=40) (z4:H ra=some (.lst us)) (z5:RiI H us ps) (z6:ps.length<=100) (z7:(haW n g go es ps≠""->Th x (haW n g go es ps) H E)) (z8:(haW n g go es ps = ""->∀ (st':Addr) (H':Hp),aN H H'->gj CS n H' st' (seI g ps) go es co->Q (.ref st') H')):tU CS x vs H Q E
def qe (CS:Addr)(x:XA):Sp:=fun vs H Q E=>tU CS x vs H Q E
def sG {CS:Addr} {x:XA} {t1:Tok} {k:Nat} (hk:4<=k) (F:Fun K "handed_in" "handed_in" mK f fd) (B:Bt mg) (S:yo K CS) (TU:mg "MOST_STEP" = some (.int 9 t1))
  (P4:Dx P w K mg base "check_there" 4 ZB (mV CS x.nf x.go)) (Qr:Df P w K mg base "is_number" 1 X2 ju) (SD:Df P w K mg base "owed_of" k WV uZ) (PR:Dk2 P w K mg base "Stand" CS 1 Wp (gD CS))
  (To:Xc P w K mg base "BadRise" x.br "bad rise") (TD:Xc P w K mg base "NotDue" x.nd "not due") :
  bH P w K mg base (XL P w) (k+1) f fd YR (qe CS x):=by
 refine EY F dw fun _ _ _ _ H _ Q E hr h=>?_
 obtain⟨st,ra,n,co,g,go,es,us,ps,rfl,hst,lg,l40,hra,hri,p100,hw,q⟩:=h
 refine⟨_,(au (aW (aH bj (aF (r:=iR K) aU U B.len_ bJ (aa (pv 1) ao)) aq) (az (eO To hr U dF (hk:=(Zd hk)))) aC)
 (au (aP (i:=2) dw.nd U (VF U) (bh (r:=jL K) d9 U B.list_ jg (aa (aX K U (pv 0)) ao)))
 (au (aP (i:=3) dw.nd U (VF U) (bA ao))
 (au (cV PassesOwn.leaving U (dC (pv 1)) (d8 (K:=K) 2 U U (bf (aJ (i:=4) dw.nd U (VF U)) (bf (aJ (i:=5) dw.nd U (VF U)) eG))) (au (bD (pK P4 hr cg (aa (pv 0) (aa (pv 4) ao))))
 (au (aW (PW.pt (iI (fU (r:=rIn K false) dY (pv 4) (pv 3) U) (d7 (dR (cI (aY Qr hr (aa (pv 5) (aa (aR bR (pxL K (pv 2) (pv 4)) aq) (aa (pG TU) ao))))))))) (az (eO To hr U dF (hk:=(Zd hk)))) aC)
 (au (xN (pv 5) (Mx (pv 2) (pv 4) set_list))
 (az (bD (tu W7 Xg Xf du (pv 3) (aa (pv 4) ao))))))))
 (au (aP (i:=6) dw.nd U (VF U) (bh (r:=fY K) bK U B.tuple_ bQ (aa (pv 2) ao)))
 (au (cV PassesOwn.leaving U (dC (pv 3)) (aJ (i:=4) dw.nd U (VF U)) (az (aW (aH lC (pxT K (pv 6) (pv 4)) (aY SD hr (aa (aX K U (pv 0)) (aa (pv 4) (aa (pv 6) ao))))) (az (eO TD hr U dF (hk:=(Zd hk)))) aC)))
 (az (aD (Eu PR hr (aa (pv 6) (aa (aX K U (pv 0)) (aa (aX K U (pv 0)) (aa (aX K U (pv 0)) ao))))))))))))),?_⟩
 obtain⟨dx,ga,goa,sa,es0,hs,hga,hgoa,hsa,hes⟩:=id hst
 have lus:=hri.length
 refine bV (fun σ H1=>σ=[oR st,oR ra,none,none,none,none,none]/\H1=H/\ps≠[]) ?_ ?_
 ·intro N Rc
  refine⟨_,U,ra,_,U,.inl (sqL hra),U,_,U,?_⟩
  by_cases z:ps=[]
  ·rw[show decide (V.int ((us.length:Nat):Int)=V.int 0)=true from dcT (by rw[lus,z];rfl)]
   have e:haW n g go es ps = "bad rise":=by unfold haW;rw[iPo z]
   rw[e] at hw
   have:=hw (by decide)
   unfold Th at this
   rw[QW] at this
   exact cW this
  ·have p0:0 < ps.length:=List.length_pos_iff.mpr z
   rw[show decide (V.int ((us.length:Nat):Int)=V.int 0)=false from dcF fun y=>by injection y with y;lia]
   exact bZ (Rc _ _ ⟨U,U,z⟩)
 rintro σ H1 ⟨rfl,rfl,pne⟩
 have eha:haW n g go es ps=if riW n g go [] ps≠"" then riW n g go [] ps else if ∃ x∈ps,mxD 0 (owL es x.1.toNat (seI g ps)) < x.2 then ("not due" : Wb) else "":=by unfold haW;rw[iNe pne]
 rw[eha] at hw q
 refine bV (fun σ F1=>∃ a1:Addr,σ=[oR st,oR ra,oR a1,none,none,none,none]/\aN H1 F1/\F1 a1=some (.lst (g.map V.int))/\H1 a1=none) ?_ ?_
 ·intro N Rc
  exact⟨_,U,st,CS,dx,_,_,U,hs,S.cl,S.green,U,ga,_,U,.inr (sqT hga),fun a1 h1=>Rc _ _ ⟨a1,U,aA h1 _,aj,h1⟩⟩
 rintro σ F1 ⟨a1,rfl,gf1,ef1,h1⟩
 refine bV (fun σ F2=>∃ a2:Addr,σ=[oR st,oR ra,oR a1,oR a2,none,none,none]/\aN F1 F2/\F2 a2=some (.lst [])/\F1 a2=none) ?_ ?_
 ·intro N Rc
  exact⟨smN 0,fun a2 h2=>Rc _ _ ⟨a2,U,aA h2 _,aj,h2⟩⟩
 rintro σ F2 ⟨a2,rfl,gf2,ef2,h2⟩
 have n12':a1≠a2:=fun z=>by rw[z,h2] at ef1;cases ef1
 have ef1':=gf2 _ _ ef1
 have h2':H1 a2=none:=gf1.free h2
 refine bV (fun σ H3=>∃ (u v:FC),σ=[oR st,oR ra,oR a1,oR a2,u,v,none]/\aN H1 H3/\H3 a1=some (.lst ((seI g ps).map V.int))/\H3 a2=some (.lst ((ps.map (·.1.toNat)).map vN))/\Jt n g go ps ps.length) ?_ ?_
 ·intro N Rc
  refine⟨_,U,ra,U,⟨_,sqL ((gf1.trans gf2) _ _ hra)⟩,eV (K:=K) (a:=ra) (xs:=us) (fun i σ H3=>∃ (u v:FC),σ=[oR st,oR ra,oR a1,oR a2,u,v,none]/\aN H1 H3/\H3 a1=some (.lst ((seI g (ps.take i)).map V.int))/\H3 a2=some (.lst (((ps.take i).map (·.1.toNat)).map vN))/\Jt n g go ps i)
   ⟨_,_,U,gf1.trans gf2,ef1',ef2,.zero n g go ps⟩ (fun i σ H3 _ h=>by obtain⟨_,_,_,z,_⟩:=h;exact sqL (z _ _ hra)) ?_ ?_⟩
  ·rintro i y σ H3 hx ⟨u,v,rfl,sm,e1,e2,ok⟩
   obtain⟨e,o,sp,rfl,hp,hent⟩:=hri.get hx
   have ip:=(geS hp).1
   have nx:ps.take (i+1)=ps.take i++[(o,sp)]:=by rw[V8,hp];rfl
   have wd:=ok.word hp
   refine⟨e,_,U,sqT (sm _ _ hent),U,_,_,U,_,_,U,U,?_⟩
   refine bV (fun σ H4=>∃ j:Nat,o=j/\j < n/\j ∉ go/\σ=[oR st,oR ra,oR a1,oR a2,some (vN j),oI sp,none]/\H4=H3) ?_ ?_
   ·intro N' Rc'
    refine⟨_,U,_,U,nO (Q:=fun _ H1=>N' [some (.ref st),some (.ref ra),some (.ref a1),some (.ref a2),some (.int o),some (.int sp),none] H1) (hst.ks (ksS sm)) lg (fun z=>?_) fun j ej hj hg=>Rc' _ _ ⟨j,ej,hj,hg,by rw[ej];rfl,U⟩⟩
    rw[iPo z] at wd
    rw[iPo (by rw[wd];exact z),wd] at hw
    exact (hw z).mono sm
   rintro σ H4 ⟨j,rfl,hj,hg,rfl,rfl⟩
   rw[oh hj,iNe hg,iNe (fun z=>z U),Wg] at wd
   have hol:j < (seI g (ps.take i)).length:=by rw[n8];lia
   have bad:(j∈(ps.take i).map (·.1.toNat)∨¬ (g.getD j 0 < sp/\sp<=9))->thrown x.br "bad rise" H4 E:=fun z=>by
    rw[iPo z] at wd
    rw[iPo (by rw[wd];decide),wd] at hw
    have:=hw (by decide)
    unfold Th at this
    rw[QW] at this
    exact this.mono sm
   refine bV (fun σ H5=>σ=[oR st,oR ra,oR a1,oR a2,some (vN j),oI sp,none]/\H5=H4/\j ∉ (ps.take i).map (·.1.toNat)/\g.getD j 0 < sp/\sp<=9) ?_ ?_
   ·intro N' Rc'
    refine⟨_,U,_,U,a2,_,U,.inl (sqL e2),U,jJ _,_,U,?_⟩
    rw[show vN j=V.int (j:Int) from U,jY]
    by_cases z:j∈(ps.take i).map (·.1.toNat)
    ·rw[iNe (show ¬ false=true from Vy),dcT z]
     exact cW (bad (.inl z))
    ·rw[iNe (show ¬ false=true from Vy),dcF z]
     have ge:(seI g (ps.take i)).getD j 0=g.getD j 0:=GK fun y hy e=>z (by rw[← e];exact abB hy)
     have gei:(seI g (ps.take i)).getD j 0=(seI g (ps.take i))[j]:=by rw[Wi,Vz hol];rfl
     refine bZ ?_
     refine⟨_,U,_,U,_,U,a1,_,_,_,U,U,sqL e1,kI hol,_,_,U,U,.int sp,_,9,U,.int _,_,U,?_⟩
     rw[show isNum (.int sp) ((seI g (ps.take i))[j]+1) 9=decide (g.getD j 0 < sp/\sp<=9) by
      show (decide ((seI g (ps.take i))[j]+1<=sp) && decide (sp<=9))=_
      rw[← gei,ge,acA]
      rfl]
     by_cases y:g.getD j 0 < sp/\sp<=9
     ·rw[dcT y]
      exact bZ (Rc' _ _ ⟨U,U,z,y⟩)
     ·rw[dcF y]
      exact cW (bad (.inr y))
   rintro σ H5 ⟨rfl,rfl,nin,h1',h9'⟩
   refine⟨_,U,_,U,_,U,a1,_,_,j,U,U,e1,?_,?_⟩
   ·unfold ixN
    rw[iPo (by lia),iPo (by rw[Vs];lia)]
    rfl
   ·generalize eU:upd _ a1 _=H6
    have e16:H6 a1=some (.lst ((seI g (ps.take (i+1))).map V.int)):=by
     rw[← eU,aj,nx,Ce,List.map_set]
     rfl
    have e26:H6 a2=some (.lst (((ps.take i).map (·.1.toNat)).map vN)):=by
     rw[← eU,aM n12'.symm]
     exact e2
    have s6:aN H1 H6:=by
     rw[← eU]
     exact aV sm h1 _
    refine⟨_,U,.inl ⟨U,_,sqL e26⟩,_,U,a2,_,_,U,U,e26,aQ (by rw[Vs,Vs,V0];lia),_,_,U,aV s6 h2' _,?_,?_,ok.step hp U hj hg nin h1' h9'⟩
    ·rw[aM n12']
     exact e16
    ·rw[aj,nx,VD,VD]
     rfl
  ·rintro σ H3 ⟨u,v,rfl,sm,e1,e2,ok⟩
   rw[lus] at ok
   rw[lus,VJ] at e1 e2
   exact Rc _ _ ⟨u,v,U,sm,e1,e2,ok⟩
 rintro σ H3 ⟨u,v,rfl,sm,e1,e2,ok⟩
 have ri:riW n g go [] ps = "":=by
  rw[← ok.on,ach]
  rfl
 have al:=ok.al
 have ndu:=ok.nd
 rw[VJ] at al ndu
 rw[iNe (by rw[ri];decide)] at hw q
 refine bV (fun σ H4=>∃ gr:Addr,σ=[oR st,oR ra,oR a1,oR a2,u,v,oR gr]/\aN H3 H4/\H4 gr=some (.tup ((seI g ps).map V.int))) ?_ ?_
 ·intro N Rc
  refine⟨_,U,a1,_,U,.inl ⟨sqL e1,fun l hl=>Rc _ _ ⟨l,U,aA hl _,?_⟩⟩⟩
  rw[aj]
 rintro σ H4 ⟨gr,rfl,s4,egr⟩
 have sm4:=sm.trans s4
 have sl:(seI g ps).length=n:=by rw[n8];exact lg
 refine bV (fun σ H5=>∃ u:FC,σ=[oR st,oR ra,oR a1,oR a2,u,v,oR gr]/\aN H4 H5/\∀ x∈ps,¬ mxD 0 (owL es x.1.toNat (seI g ps)) < x.2) ?_ ?_
 ·intro N Rc
  refine⟨_,U,a2,U,⟨_,sqL (s4 _ _ e2)⟩,eV (K:=K) (a:=a2) (xs:=(ps.map (·.1.toNat)).map vN) (fun i σ H5=>∃ u:FC,σ=[oR st,oR ra,oR a1,oR a2,u,v,oR gr]/\aN H4 H5/\∀ x∈ps.take i,¬ mxD 0 (owL es x.1.toNat (seI g ps)) < x.2)
   ⟨_,U,aN.refl _,fun x hx=>by rw[Ws] at hx;cases hx⟩ (fun i σ H5 _ h=>by obtain⟨_,_,z,_⟩:=h;exact sqL (z _ _ (s4 _ _ e2))) ?_ ?_⟩
  ·rintro i y σ H5 hx ⟨u,rfl,s5,hno⟩
   rw[V7,V7] at hx
   obtain⟨z,hz,rfl⟩:∃ z,ps[i]? = some z/\y=vN z.1.toNat:=by
    cases w:ps[i]? with
    | none=>rw[w] at hx;cases hx
    | some z=>rw[w] at hx;cases hx;exact⟨z,U,U⟩
   have hm:=Wd hz
   obtain⟨j,ej,hj,_⟩:=al z hm
   have ejn:z.1.toNat=j:=by lia
   have hol:z.1.toNat < (seI g ps).length:=by rw[sl,ejn];exact hj
   have gei:(seI g ps)[z.1.toNat]=z.2:=by
    have h1:=Sq ndu hm (by rw[lg,ejn];exact hj)
    rw[Wi,Vz hol] at h1
    exact h1
   have sm5:=sm4.trans s5
   refine⟨_,U,_,U,gr,_,_,_,U,U,sqT (s5 _ _ egr),kI hol,?_⟩
   refine⟨_,U,st,CS,dx,_,_,U,sm5 _ _ hs,S.cl,S.standing,U,_,U,_,U,sa,gr,z.1.toNat,n,es0,es,_,U,sm5 _ _ hsa,hes.aO fun a xs q=>sm5 a _ q,by lia,s5 _ _ egr,sl,fun H6 s6=>?_⟩
   refine⟨_,_,U,U,_,U,?_⟩
   rw[gei]
   by_cases y:mxD 0 (owL es z.1.toNat (seI g ps)) < z.2
   ·rw[dcT y]
    rw[iPo ⟨z,hm,y⟩] at hw
    have:=hw (by decide)
    unfold Th at this
    rw[T4] at this
    exact cW (this.mono (sm5.trans s6))
   ·rw[dcF y]
    refine bZ ⟨_,U,s5.trans s6,fun x hx=>?_⟩
    rw[V8,hz] at hx
    rcases List.mem_append.mp hx with w | w
    ·exact hno x w
    ·rw[List.mem_singleton.mp w]
     exact y
  ·rintro σ H5 ⟨u,rfl,s5,hno⟩
   rw[Vs,Vs,VJ] at hno
   exact Rc _ _ ⟨u,U,s5,hno⟩
 rintro σ H5 ⟨u,rfl,s5,hno⟩
 rw[iNe fun⟨x,hx,z⟩=>hno x hx z] at q
 have sm5:=sm4.trans s5
 have hs5:=sm5 _ _ hs
 refine⟨_,U,_,U,st,CS,dx,_,_,U,hs5,S.cl,S.gone,U,_,U,st,CS,dx,_,_,U,hs5,S.cl,S.standing,U,_,U,st,CS,dx,_,_,U,hs5,S.cl,S.coming,U,fun y dx3 hx hdx hne=>?_⟩
 refine j5 hx hdx hne fun H6 s6 e6=>⟨U,?_⟩
 have s16:=sm5.trans s6
 exact q U y H6 s16 ⟨dx3,gr,goa,sa,es0,e6,s6 _ _ (s5 _ _ egr),s16 _ _ hgoa,s16 _ _ hsa,hes.aO fun a xs q=>s16 a _ q⟩
inductive An (CS CB:Addr)(x:XA)(vs:FH)(H:Hp)(Q:VK)(E:XK):Prop where
 | mk (b be ah dx nw ra:Addr) (n co:Nat) (xs zs us:FH) (g:D6) (go:D7) (es:List Ent) (ps:DL) (z0:vs=[.ref b,.ref ra]) (z1:Bn CS CB n H b be ah dx nw xs zs g go es co) (z2:xs.length<=900) (z3:H ra=some (.lst us)) (z4:RiI H us ps) (z5:ps.length<=100) (z6:(haW n g go es ps≠""->Th x (haW n g go es ps) H E)) (z7:(haW n g go es ps = ""->∀ (H':Hp) (nw' ah':Addr),But b be H H'->H ah'=none->Bn CS CB n H' b be ah' dx nw' (xs++[.ref nw]) [] (seI g ps) go es co->Q .non H')):An CS CB x vs H Q E
def zy (CS CB:Addr)(x:XA):Sp:=fun vs H Q E=>An CS CB x vs H Q E
def tE {CS CB:Addr} {x:XA} {k:Nat} (hk:2<=k) (ne:CB≠CS) (F:Fun K "hand" "Boon.hand" lE f fd) (B:Bt mg) (T:zF K CB)
  (P8:Dx P w K mg base "handed_in" k YR (qe CS x)) (PP:Dm2 P w K mg base CB "go_on" 1 YV (jH CB)):bH P w K mg base (XL P w) (k+1) f fd YY (zy CS CB x):=by
 refine EY F wU fun _ _ _ _ H _ Q E hr h=>?_
 obtain⟨b,be,ah,dx,nw,ra,n,co,xs,zs,us,g,go,es,ps,rfl,hB,l9,hra,hri,p100,hw,q⟩:=h
 refine⟨_,(az (bD (DQ PP hr (pv 0) (aa (pK P8 hr cg (aa (aX K U (pv 0)) (aa (pv 1) ao))) ao)))),?_⟩
 refine⟨_,U,b,dx,_,U,hB.hb,U,?_⟩
 refine⟨_,U,b,CB,dx,_,_,U,hB.hb,T.cl,T.now,U,_,U,nw,ra,n,co,g,go,es,us,ps,U,hB.st,hB.lg,hB.l40,hra,hri,p100,hw,fun z st' H1 s1 hst1=>?_⟩
 exact Dp hB ne l9 s1 hst1 (by rw[n8];exact hB.lg) hB.n12 hB.l40 hB.gn hB.gl fun H' ah' bt fa hB'=>q z H' _ ah' bt fa hB'
abbrev jU:Stmt:=top 40
abbrev ig:Stmt:=top 42
abbrev iU:Stmt:=inClass (top 44) 5
abbrev f9:Stmt:=inClass (top 44) 6
def fO:aG ["stand","number","found","one","pledge"] YN (aB jU):=c7
def qg:aG Xs Xs (aB ig):=c7
def eN:aG ["self","number","pledge","now","one","changed"] Xt (aB iU):=c7
def dG:aG ["self","number","now","one","left"] YU (aB f9):=c7
section
variable {x:XA}
def Qq:x.of "no pledge" = x.np:=by unfold XA.of;rw[iNe (by decide),iNe (by decide),iNe (by decide),iNe (by decide),iPo U]
def Uc:x.of "bound" = x.bd:=by unfold XA.of;rw[iNe (by decide),iNe (by decide),iNe (by decide),iNe (by decide),iNe (by decide),iPo U]
end
def fnE (es:List Ent)(k:Int):Option Ent:=es.find? fun e=>decide ((e.1:Int)=k)
def chE (es:List Ent)(k:Int)(pl:Pl):List Ent:=es.map fun e=>if (e.1:Int)=k then (e.1,e.2.1,pl) else e
def wiE (es:List Ent)(k:Int):List Ent:=es.filter fun e=>decide ((e.1:Int)≠k)
def bdW (g:D6)(es:List Ent)(one:Nat):Wb:=if mxD 0 (owL es one g) < g.getD one 0 then "bound" else ""
def chW (g:D6)(es:List Ent)(k:Int)(pl:Pl):Wb:=match fnE es k with
 | none=>"no pledge"
 | some e=>if ∃ x∈pl,nn e.2.1 x.2=false then "bad pledge" else bdW g (chE es k pl) e.2.1
def wiW (g:D6)(es:List Ent)(k:Int):Wb:=match fnE es k with
 | none=>"no pledge"
 | some e=>bdW g (wiE es k) e.2.1
def jW {es:List Ent}{k:Int}{e:Ent}(h:fnE es k=some e):e∈es/\(e.1:Int)=k:=⟨List.mem_of_find?_eq_some h,by simpa using List.find?_some h⟩
def uO {es:List Ent}{k:Int}(h:fnE es k=none):∀ e∈es,(e.1:Int)≠k:=fun e he=>by simpa using List.find?_eq_none.mp h e he
def Le {es:List Ent}{i:Nat}{e:Ent}{k:Int}(he:es[i]? = some e)(h:fnE (es.take i) k=none):fnE (es.take (i+1)) k=if (e.1:Int)=k then some e else none:=by
 unfold fnE at h ⊢
 rw[V8,he,List.find?_append,h,Option.none_or]
 show List.find? _ [e]=_
 by_cases z:(e.1:Int)=k
 ·rw[iPo z,List.find?_cons_of_pos (by exact dcT z)]
 ·rw[iNe z,List.find?_cons_of_neg (by rw[dcF z];exact Vy)]
  rfl
def Kg {es:List Ent}{i:Nat}{e:Ent}{k:Int}(h:fnE (es.take i) k=some e):fnE es k=some e:=by
 unfold fnE at h ⊢
 rw[← List.take_append_drop i es,List.find?_append,h]
 rfl
inductive rG (CS:Addr)(x:XA)(vs:FH)(H:Hp)(Q:VK)(E:XK):Prop where
 | mk (st:Addr) (num:Int) (n co:Nat) (g:D6) (go:D7) (es:List Ent) (z0:vs=[.ref st,.int num]) (z1:gj CS n H st g go es co) (z2:(∀ e∈es,e.1 < co)) (z3:(fnE es num=none->thrown x.np "no pledge" H E)) (z4:∀ e,fnE es num=some e->Q (vN e.2.1) H):rG CS x vs H Q E
def nG (CS:Addr)(x:XA):Sp:=fun vs H Q E=>rG CS x vs H Q E
def qP {CS:Addr} {x:XA} (F:Fun K "pledger_of" "pledger_of" jU f fd) (B:Bt mg) (S:yo K CS) (Qr:Df P w K mg base "is_number" 1 X2 ju) (TC:Xc P w K mg base "NoPledge" x.np "no pledge") :
  bH P w K mg base (XL P w) 4 f fd YN (nG CS x):=by
 refine EY F fO fun _ _ _ _ H _ Q E hr h=>?_
 obtain⟨st,num,n,co,g,go,es,rfl,⟨dx,ga,goa,sa,us,hs,hga,hgo,hsa,hes⟩,hco,hN,q⟩:=h
 refine⟨_,(au (aW (cI (aY Qr hr (aa (pv 1) (aa aq (aa (aR fc (aX K U (pv 0)) aq) ao))))) (az (RJ (cV Wq U (dq (aX K U (pv 0))) (d8 (K:=K) 3 U U (bf (aJ (i:=2) fO.nd U (VF U)) (bf (aJ (i:=3) fO.nd U (VF U)) (bf (aJ (i:=4) fO.nd U (VF U)) eG)))) (az (aW (aH bj (pv 2) (pv 1)) (az (aD (pv 3))) aC))))) aC)
 (az (eO TC hr U dF))),?_⟩
 refine eQ (fun σ H1=>H1=H/\fnE es num=none) (fun σ H1 z=>by obtain⟨rfl,z⟩:=z;exact hN z) fun N Rc=>?_
 refine⟨_,U,_,U,st,CS,dx,_,_,U,hs,S.cl,S.coming,U,_,_,U,U,.int num,0,_,U,.int _,_,U,?_⟩
 have ei:isNum (.int num) 0 ((co:Int) - 1)=decide (0<=num/\num < co):=by
  show (decide ((0:Int)<=num) && decide (num<=(co:Int) - 1))=_
  rw[← acA]
  exact decide_eq_decide.mpr ⟨fun h=>⟨h.1,by lia⟩,fun h=>⟨h.1,by lia⟩⟩
 rw[ei]
 by_cases z:0<=num/\num < co
 ·rw[dcT z]
  refine cW ?_
  refine⟨_,U,st,CS,dx,_,_,U,hs,S.cl,S.standing,U,sa,U,⟨_,sqT hsa⟩,eF (K:=K) (a:=sa) (xs:=us) (fun i σ H2=>(∃ u v w,σ=[oR st,oI num,u,v,w])/\H2=H/\fnE (es.take i) num=none) ⟨⟨_,_,_,U⟩,U,U⟩
   (fun i σ H2 _ h=>by rw[h.2.1];exact sqT hsa) ?_ ?_⟩
  ·rintro i y σ H2 hx ⟨⟨u,v,w,rfl⟩,rfl,hno⟩
   obtain⟨e,p,nu,o2,pl2,rfl,he,hent,hpr⟩:=hes.get hx
   have nx:=Le he hno
   refine⟨e,_,U,sqT hent,U,_,_,U,_,_,U,_,_,U,U,?_⟩
   refine⟨_,U,_,U,U,_,U,?_⟩
   by_cases y:(nu:Int)=num
   ·rw[dcT (show vN nu=V.int num by rw[← y];rfl)]
    rw[iPo y] at nx
    exact cW ⟨_,U,q _ (Kg nx)⟩
   ·rw[dcF (show ¬ vN nu=V.int num from fun t=>y (by injection t))]
    rw[iNe y] at nx
    exact bZ ⟨⟨_,_,_,U⟩,U,nx⟩
  ·rintro σ H2 ⟨_,rfl,hno⟩
   rw[hes.length,VJ] at hno
   exact Rc _ _ ⟨U,hno⟩
 ·rw[dcF z]
  refine bZ (Rc _ _ ⟨U,?_⟩)
  unfold fnE
  refine List.find?_eq_none.mpr fun e he=>?_
  have:=hco e he
  simp
  lia
inductive Cj (CS:Addr)(x:XA)(vs:FH)(H:Hp)(Q:VK)(E:XK):Prop where
 | mk (st sa:Addr) (one n co:Nat) (g:D6) (go:D7) (es es':List Ent) (us':FH) (z0:vs=[.ref st,vN one,.ref sa]) (z1:gj CS n H st g go es co) (z2:g.length=n) (z3:one < n) (z4:H sa=some (.tup us')) (z5:cD n H us' es') (z6:es'.length<=100) (z7:(bdW g es' one≠""->Th x (bdW g es' one) H E)) (z8:(bdW g es' one = ""->∀ (st':Addr) (H':Hp),aN H H'->gj CS n H' st' g go es' co->Q (.ref st') H')):Cj CS x vs H Q E
def zq (CS:Addr)(x:XA):Sp:=fun vs H Q E=>Cj CS x vs H Q E
def iy {CS:Addr} {x:XA} {k:Nat} (hk:4<=k) (F:Fun K "pledged_anew" "pledged_anew" ig f fd) (B:Bt mg) (S:yo K CS) (SD:Df P w K mg base "owed_of" k WV uZ)
  (PR:Dk2 P w K mg base "Stand" CS 1 Wp (gD CS)) (Ts:Xc P w K mg base "Bound" x.bd "bound"):bH P w K mg base (XL P w) (k+1) f fd Xs (zq CS x):=by
 refine EY F qg fun _ _ _ _ H _ Q E hr h=>?_
 obtain⟨st,sa,one,n,co,g,go,es,es',us',rfl,⟨dx,ga,goa,sa0,us,hs,hga,hgo,hsa0,hes⟩,lg,hone,hsa,hes',l100,hw,q⟩:=h
 refine⟨_,(au (aW (aH lC (pxT K (aX K U (pv 0)) (pv 1)) (aY SD hr (aa (pv 2) (aa (pv 1) (aa (aX K U (pv 0)) ao))))) (az (eO Ts hr U dF (hk:=(Zd hk)))) aC)
 (az (aD (Eu PR hr (aa (aX K U (pv 0)) (aa (aX K U (pv 0)) (aa (pv 2) (aa (aX K U (pv 0)) ao)))))))),?_⟩
 have h1:one < g.length:=by lia
 have gei:g.getD one 0=g[one]:=by rw[Wi,Vz h1];rfl
 refine bV (fun σ H1=>σ=[oR st,some (vN one),oR sa]/\aN H H1/\bdW g es' one = "") ?_ ?_
 ·intro N Rc
  refine⟨_,U,st,CS,dx,_,_,U,hs,S.cl,S.green,U,_,U,ga,_,_,_,U,U,sqT hga,kI h1,?_⟩
  refine⟨_,U,_,U,_,U,st,CS,dx,_,_,U,hs,S.cl,S.green,U,sa,ga,one,n,us',es',g,U,hsa,hes',l100,hga,lg,fun H1 s1=>?_⟩
  refine⟨_,_,U,U,_,U,?_⟩
  by_cases z:mxD 0 (owL es' one g) < g[one]
  ·rw[dcT z]
   have e:bdW g es' one = "bound":=by unfold bdW;rw[iPo (by rw[gei];exact z)]
   rw[e] at hw
   have:=hw (by decide)
   unfold Th at this
   rw[Uc] at this
   exact cW (this.mono s1)
  ·rw[dcF z]
   exact bZ (Rc _ _ ⟨U,s1,by unfold bdW;rw[iNe (by rw[gei];exact z)]⟩)
 rintro σ H1 ⟨rfl,s1,hbd⟩
 have hs1:=s1 _ _ hs
 refine⟨_,U,st,CS,dx,_,_,U,hs1,S.cl,S.green,U,_,U,st,CS,dx,_,_,U,hs1,S.cl,S.gone,U,_,U,_,U,st,CS,dx,_,_,U,hs1,S.cl,S.coming,U,fun y dx3 hx hdx hne=>?_⟩
 refine j5 hx hdx hne fun H2 s2 e2=>⟨U,?_⟩
 have s12:=s1.trans s2
 exact q hbd y H2 s12 ⟨dx3,ga,goa,sa,us',e2,s12 _ _ hga,s12 _ _ hgo,s12 _ _ hsa,hes'.aO fun a xs q=>s12 a _ q⟩
inductive pA (CS CB:Addr)(x:XA)(vs:FH)(H:Hp)(Q:VK)(E:XK):Prop where
 | mk (b be ah dx nw:Addr) (num:Int) (n co:Nat) (xs zs:FH) (g:D6) (go:D7) (es:List Ent) (z0:vs=[.ref b,.int num]) (z1:Bn CS CB n H b be ah dx nw xs zs g go es co) (z2:(∀ e∈es,e.1 < co/\e.2.1 < n)) (z3:xs.length<=900) (z4:(wiW g es num≠""->Th x (wiW g es num) H E)) (z5:(wiW g es num = ""->∀ (H':Hp) (nw' ah':Addr),But b be H H'->H ah'=none->Bn CS CB n H' b be ah' dx nw' (xs++[.ref nw]) [] g go (wiE es num) co->Q .non H')):pA CS CB x vs H Q E
def rB (CS CB:Addr)(x:XA):Sp:=fun vs H Q E=>pA CS CB x vs H Q E
def mQ {CS CB:Addr} {x:XA} {k:Nat} (hk:4<=k) (ne:CB≠CS) (F:Fun K "withdraw" "Boon.withdraw" f9 f fd) (B:Bt mg) (S:yo K CS) (T:zF K CB)
  (SH:Dx P w K mg base "pledger_of" 4 YN (nG CS x)) (SG:Dx P w K mg base "pledged_anew" k Xs (zq CS x)) (PP:Dm2 P w K mg base CB "go_on" 1 YV (jH CB)) :
  bH P w K mg base (XL P w) (k+1) f fd YU (rB CS CB x):=by
 refine EY F dG fun _ _ _ _ H _ Q E hr h=>?_
 obtain⟨b,be,ah,dx,nw,num,n,co,xs,zs,g,go,es,rfl,hB,hlt,l9,hw,q⟩:=h
 refine⟨_,(au (aP (i:=2) dG.nd U (VF U) (aX K U (pv 0)))
 (au (aP (i:=3) dG.nd U (VF U) (pK SH hr cg (aa (pv 2) (aa (pv 1) ao))))
 (au (aP (i:=4) dG.nd U (VF U) (bh (r:=fY K) bK U B.tuple_ bQ (aa (cz (L:=["entry"]) (F:=["number"]) (cap:=[1]) U (bF U U (by kernel_rfl)) (dq (aX K U (pv 2))) (fun _ _ _ _ _=>(aJ (i:=0) (bw (by decide+kernel)) U (VF U))) (fun _ _ _ _ _=>(jf (aH sI (pxT K (pv 0) aq) (pv 1)))) (fun _ _ _ _ _=>(pv 0))) ao)))
 (az (bD (DQ PP hr (pv 0) (aa (pK SG hr cg (aa (pv 2) (aa (pv 3) (aa (pv 4) ao)))) ao))))))),?_⟩
 have hb:=hB.hb
 have l40:=hB.l40
 obtain⟨dx2,ga,goa,sa,us,hs,hga,hgoa,hsa,hes⟩:=id hB.st
 have les:=hes.length
 refine bV (fun σ H1=>σ=[oR b,oI num,oR nw,none,none]/\H1=H) ?_ ?_
 ·intro N Rc
  exact⟨_,U,b,CB,dx,_,_,U,hb,T.cl,T.now,U,Rc _ _ ⟨U,U⟩⟩
 rintro σ H0 ⟨rfl,rfl⟩
 refine bV (fun σ H1=>∃ e:Ent,fnE es num=some e/\σ=[oR b,oI num,oR nw,some (vN e.2.1),none]/\H1=H0) ?_ ?_
 ·intro N Rc
  refine⟨_,U,_,U,nw,num,n,co,g,go,es,U,hB.st,fun e he=>(hlt e he).1,fun z=>?_,fun e z=>Rc _ _ ⟨e,z,U,U⟩⟩
  have e:wiW g es num = "no pledge":=by unfold wiW;rw[z]
  rw[e] at hw
  have:=hw (by decide)
  unfold Th at this
  rw[Qq] at this
  exact this
 rintro σ H2 ⟨e0,hf,rfl,rfl⟩
 obtain⟨m0,k0⟩:=jW hf
 have ew:wiW g es num=bdW g (wiE es num) e0.2.1:=by unfold wiW;rw[hf]
 rw[ew] at hw q
 refine bV (fun σ H3=>∃ (ch:Addr) (us':FH),σ=[oR b,oI num,oR nw,some (vN e0.2.1),oR ch]/\aN H2 H3/\H3 ch=some (.tup us')/\cD n H3 us' (wiE es num)) ?_ ?_
 ·intro N Rc
  refine⟨_,U,nw,CS,dx2,_,_,U,hs,S.cl,S.standing,U,sa,U,⟨_,sqT hsa⟩,fun D hD=>cX (K:=K) (a:=sa) (xs:=us) (fun i zs σ' H3=>(∃ u,σ'=[u,oI num])/\aN H2 H3/\H3 D=some (.lst zs)/\cD n H3 zs (wiE (es.take i) num))
   ⟨⟨_,U⟩,aA hD _,aj,by rw[Ws];exact .nil⟩ (fun i zs σ' H3 _ h=>⟨sqT (h.2.1 _ _ hsa),h.2.2.1⟩) ?_ ?_⟩
  ·rintro i zs y σ' H3 hx ⟨⟨u,rfl⟩,sm,eD,ez⟩
   obtain⟨e,p2,nu,o2,pl2,rfl,he,hent,hpr⟩:=hes.get hx
   have lz:=ez.length
   have lf:=WT (fun e:Ent=>decide ((e.1:Int)≠num)) (es.take i)
   rw[V0] at lf
   have lz':(wiE (es.take i) num).length<=min i es.length:=lf
   have nx:wiE (es.take (i+1)) num=wiE (es.take i) num++if decide ((nu:Int)≠num)=true then [(nu,o2,pl2)] else []:=cD.SM (n:=n) (p:=fun e:Ent=>decide ((e.1:Int)≠num)) he
   refine⟨_,U,e,_,_,_,U,U,sqT (sm _ _ hent),U,_,U,U,_,U,?_⟩
   by_cases z:(nu:Int)=num
   ·rw[show decide (vN nu=V.int num)=true from dcT (by rw[← z];rfl)]
    show if (!true)=true then _ else _
    refine bZ ⟨⟨_,U⟩,sm,eD,?_⟩
    rw[nx,iNe (by rw[dcF (not_not_intro z)];exact Vy),Xn]
    exact ez
   ·rw[show decide (vN nu=V.int num)=false from dcF fun y=>z (by injection y)]
    show if (!false)=true then _ else _
    have tk:=cR (zs':=zs++[.ref e]) eD
    refine cW ⟨_,U,eD,aQ (by lia),⟨_,U⟩,aV sm hD _,aj,?_⟩
    rw[nx,iPo (dcT z)]
    exact cD.snoc (tk _ _ (sm _ _ hent)) ((hpr.aO fun a ys q=>sm a _ q).aO tk) (ez.aO tk)
  ·rintro zs σ' H3 ⟨_,sm,eD,ez⟩
   rw[les,VJ] at ez
   refine⟨D,_,U,.inl ⟨sqL eD,fun a ha=>?_⟩⟩
   have sn:=aA ha (.tup zs)
   exact Rc _ _ ⟨a,zs,U,sm.trans sn,aj,ez.aO fun a ys q=>sn a _ q⟩
 rintro σ H3 ⟨ch,us',rfl,s3,ech,ees⟩
 have lw:=WT (fun e:Ent=>decide ((e.1:Int)≠num)) es
 have lw':(wiE es num).length<=es.length:=lw
 refine⟨_,U,b,dx,_,U,s3 _ _ hb,U,?_⟩
 refine⟨_,U,_,U,_,U,nw,ch,e0.2.1,n,co,g,go,es,_,us',U,hB.st.ks (ksS s3),hB.lg,(hlt e0 m0).2,ech,ees,by lia,fun z=>(hw z).mono s3,fun z st' H4 s4 hst4=>?_⟩
 exact Dp hB ne l9 (s3.trans s4) hst4 hB.lg hB.n12 (by lia) hB.gn hB.gl fun H' ah' bt fa hB'=>q z H' _ ah' bt fa hB'
def GC {es:List Ent}(nd:(es.map (·.1)).Nodup){e e':Ent}(h:e∈es)(h':e'∈es)(z:e.1=e'.1):e=e':=by
 obtain⟨i,hi,rfl⟩:=ZJ h
 obtain⟨j,hj,rfl⟩:=ZJ h'
 have e1:(es.map (·.1))[i]'(by rw[Vs];exact hi)=(es.map (·.1))[j]'(by rw[Vs];exact hj):=by rw[aaV,aaV,z]
 have:=(acg nd).mp e1
 subst this
 rfl
inductive ug (CS CB:Addr)(x:XA)(vs:FH)(H:Hp)(Q:VK)(E:XK):Prop where
 | mk (b be ah dx nw p:Addr) (num:Int) (n co:Nat) (xs zs:FH) (g:D6) (go:D7) (es:List Ent) (pl:Pl) (z0:vs=[.ref b,.int num,.ref p]) (z1:Bn CS CB n H b be ah dx nw xs zs g go es co) (z2:(∀ e∈es,e.1 < co/\e.2.1 < n)) (z3:(es.map (·.1)).Nodup) (z4:kE n H p pl) (z5:xs.length<=900) (z6:(chW g es num pl≠""->Th x (chW g es num pl) H E)) (z7:(chW g es num pl = ""->∀ (H':Hp) (nw' ah':Addr),But b be H H'->H ah'=none->Bn CS CB n H' b be ah' dx nw' (xs++[.ref nw]) [] g go (chE es num pl) co->Q .non H')):ug CS CB x vs H Q E
def yr (CS CB:Addr)(x:XA):Sp:=fun vs H Q E=>ug CS CB x vs H Q E
def pL {CS CB:Addr} {x:XA} {k:Nat} (hk:4<=k) (ne:CB≠CS) (F:Fun K "change" "Boon.change" iU f fd) (B:Bt mg) (S:yo K CS) (T:zF K CB)
  (SH:Dx P w K mg base "pledger_of" 4 YN (nG CS x)) (PZ:Dx P w K mg base "check_pledge" k XY (zM CS x.bp)) (SG:Dx P w K mg base "pledged_anew" k Xs (zq CS x)) (PP:Dm2 P w K mg base CB "go_on" 1 YV (jH CB)) :
  bH P w K mg base (XL P w) (k+1) f fd Xt (yr CS CB x):=by
 refine EY F eN fun _ _ _ _ H _ Q E hr h=>?_
 obtain⟨b,be,ah,dx,nw,p,num,n,co,xs,zs,g,go,es,pl,rfl,hB,hlt,nd,hp,l9,hw,q⟩:=h
 refine⟨_,(au (aP (i:=3) eN.nd U (VF U) (aX K U (pv 0)))
 (au (aP (i:=4) eN.nd U (aaC U) (pK SH hr cg (aa (pv 3) (aa (pv 1) ao))))
 (au (bD (pK PZ hr cg (aa (pv 3) (aa (pv 4) (aa (pv 2) ao)))))
 (au (aP (i:=5) eN.nd U (VF U) (bh (r:=fY K) bK U B.tuple_ bQ (aa (cz (L:=["entry"]) (F:=["number","one","pledge"]) (cap:=[1,4,2]) U (bF U U (by kernel_rfl)) (dq (aX K U (pv 3))) (fun _ _ _ _ _=>(aJ (i:=0) (bw (by decide+kernel)) U (VF U))) (fun _ _ _ _ _=>cQ) (fun _ _ _ _ _=>(ni (aH bj (pxT K (pv 0) aq) (pv 1)) (aZ (aa (pv 1) (aa (pv 2) (aa (pv 3) ao)))) (pv 0)))) ao)))
 (az (bD (DQ PP hr (pv 0) (aa (pK SG hr cg (aa (pv 3) (aa (pv 4) (aa (pv 5) ao)))) ao)))))))),?_⟩
 have hb:=hB.hb
 have l40:=hB.l40
 refine bV (fun σ H1=>σ=[oR b,oI num,oR p,oR nw,none,none]/\H1=H) ?_ ?_
 ·intro N Rc
  exact⟨_,U,b,CB,dx,_,_,U,hb,T.cl,T.now,U,Rc _ _ ⟨U,U⟩⟩
 rintro σ H0 ⟨rfl,rfl⟩
 refine bV (fun σ H1=>∃ e:Ent,fnE es num=some e/\σ=[oR b,oI num,oR p,oR nw,some (vN e.2.1),none]/\H1=H0) ?_ ?_
 ·intro N Rc
  refine⟨_,U,_,U,nw,num,n,co,g,go,es,U,hB.st,fun e he=>(hlt e he).1,fun z=>?_,fun e z=>Rc _ _ ⟨e,z,U,U⟩⟩
  have e:chW g es num pl = "no pledge":=by unfold chW;rw[z]
  rw[e] at hw
  have:=hw (by decide)
  unfold Th at this
  rw[Qq] at this
  exact this
 rintro σ H2 ⟨e0,hf,rfl,rfl⟩
 obtain⟨m0,k0⟩:=jW hf
 have n12:=hB.n12
 have o0:=(hlt e0 m0).2
 have ew:chW g es num pl=if ∃ x∈pl,nn e0.2.1 x.2=false then ("bad pledge" : Wb) else bdW g (chE es num pl) e0.2.1:=by unfold chW;rw[hf]
 rw[ew] at hw q
 refine bV (fun σ H3=>σ=[oR b,oI num,oR p,oR nw,some (vN e0.2.1),none]/\aN H2 H3/\∀ x∈pl,nn e0.2.1 x.2=true) ?_ ?_
 ·intro N Rc
  refine⟨_,U,_,U,_,U,nw,p,e0.2.1,n,co,g,go,es,pl,U,hB.st,hB.lg,by lia,n12,hp,fun z=>?_,fun hn H3 s3=>Rc _ _ ⟨U,s3,hn⟩⟩
  rw[iPo z] at hw
  have:=hw (by decide)
  unfold Th at this
  rw[Ri] at this
  exact this
 rintro σ H3 ⟨rfl,s3,hn⟩
 rw[iNe (fun⟨y,hy,z⟩=>by rw[hn y hy] at z;cases z)] at hw q
 have hB3:=hB.same s3
 have hp3:=hp.mono s3
 obtain⟨dx2,ga,goa,sa,us,hs,hga,hgoa,hsa,hes⟩:=id hB3.st
 have les:=hes.length
 refine bV (fun σ H4=>∃ (ch:Addr) (us':FH),σ=[oR b,oI num,oR p,oR nw,some (vN e0.2.1),oR ch]/\aN H3 H4/\H4 ch=some (.tup us')/\cD n H4 us' (chE es num pl)) ?_ ?_
 ·intro N Rc
  refine⟨_,U,nw,CS,dx2,_,_,U,hs,S.cl,S.standing,U,sa,U,⟨_,sqT hsa⟩,fun D hD=>cX (K:=K) (a:=sa) (xs:=us) (fun i zs σ' H4=>(∃ u,σ'=[u,oI num,some (vN e0.2.1),oR p])/\aN H3 H4/\H4 D=some (.lst zs)/\cD n H4 zs (chE (es.take i) num pl))
   ⟨⟨_,U⟩,aA hD _,aj,by rw[Ws];exact .nil⟩ (fun i zs σ' H4 _ h=>⟨sqT (h.2.1 _ _ hsa),h.2.2.1⟩) ?_ ?_⟩
  ·rintro i zs y σ' H4 hx ⟨⟨u,rfl⟩,sm,eD,ez⟩
   obtain⟨e,p2,nu,o2,pl2,rfl,he,hent,hpr⟩:=hes.get hx
   have lz:=ez.length
   have il:=(geS he).1
   unfold chE at lz
   rw[Vs,V0] at lz
   have nx:∀ y:Ent,(if (nu:Int)=num then (nu,o2,pl) else (nu,o2,pl2))=y->chE (es.take (i+1)) num pl=chE (es.take i) num pl++[y]:=fun y hy=>by
    rw[V8,he]
    unfold chE
    rw[VD,← hy]
    rfl
   refine gT ?_
   refine⟨_,U,e,_,_,_,U,U,sqT (sm _ _ hent),U,_,U,U,_,U,?_⟩
   by_cases z:(nu:Int)=num
   ·rw[dcT (show vN nu=V.int num by rw[← z];rfl)]
    have eo:(nu,o2,pl2)=e0:=GC nd (Wd he) m0 (by show nu=e0.1;lia)
    have eo2:e0.2.1=o2:=by rw[← eo]
    refine cW ⟨_,U,_,U,_,U,smN 3,fun pb hb'=>?_⟩
    generalize eHb:upd H4 pb _=Hb
    obtain⟨gb,eb⟩:=aK eHb hb'
    rw[← z,eo2] at eb
    have tk:=cR (zs':=zs++[.ref pb]) (gb _ _ eD)
    refine⟨gb _ _ eD,aQ (by lia),⟨_,U⟩,aV (sm.trans gb) hD _,aj,?_⟩
    rw[nx _ (iPo z)]
    exact cD.snoc (tk _ _ eb) ((hp3.aO fun a ys q=>(sm.trans gb) a _ q).aO tk) ((ez.aO fun a ys q=>gb a _ q).aO tk)
   ·rw[dcF (show ¬ vN nu=V.int num from fun y=>z (by injection y))]
    have tk:=cR (zs':=zs++[.ref e]) eD
    refine bZ ⟨_,U,eD,aQ (by lia),⟨_,U⟩,aV sm hD _,aj,?_⟩
    rw[nx _ (iNe z)]
    exact cD.snoc (tk _ _ (sm _ _ hent)) ((hpr.aO fun a ys q=>sm a _ q).aO tk) (ez.aO tk)
  ·rintro zs σ' H4 ⟨_,sm,eD,ez⟩
   rw[les,VJ] at ez
   refine⟨D,_,U,.inl ⟨sqL eD,fun a ha=>?_⟩⟩
   have sn:=aA ha (.tup zs)
   exact Rc _ _ ⟨a,zs,U,sm.trans sn,aj,ez.aO fun a ys q=>sn a _ q⟩
 rintro σ H4 ⟨ch,us',rfl,s4,ech,ees⟩
 have lw:(chE es num pl).length=es.length:=Vs _
 refine⟨_,U,b,dx,_,U,(s3.trans s4) _ _ hb,U,?_⟩
 refine⟨_,U,_,U,_,U,nw,ch,e0.2.1,n,co,g,go,es,_,us',U,hB3.st.ks (ksS s4),hB.lg,o0,ech,ees,by lia,fun z=>(hw z).mono (s3.trans s4),fun z st' H5 s5 hst5=>?_⟩
 exact Dp hB ne l9 (s3.trans (s4.trans s5)) hst5 hB.lg hB.n12 (by lia) hB.gn hB.gl fun H' ah' bt fa hB'=>q z H' _ ah' bt fa hB'
def prF (n:Nat)(go:D7):FH:=(Xb n).map fun i=>.bl (decide (i ∉ go))
def cP (n:Nat)(go:D7):(prF n go).length=n:=by unfold prF;rw[Vs,XD]
def Ia {n i:Nat}{go:D7}(h:i < n):(prF n go)[i]? = some (.bl (decide (i ∉ go))):=by
 unfold prF
 rw[V7,abC h]
 rfl
inductive TbR (n:Nat)(H:Hp):Fu->List Ent->Prop where
 | nil:TbR n H [] []
 | cons {t p:Addr} {num one:Nat} {pl:Pl} {kvs:Fu} {es:List Ent} (h:H t=some (.tup [vN one,.ref p])) (q:kE n H p pl) (r:TbR n H kvs es):TbR n H ((WN (num:Int),.ref t)::kvs) ((num,one,pl)::es)
section
variable {n m:Nat}{H H':Hp}
theorem TbR.aO (e:∀ a xs,H a=some (HO.tup xs)->H' a=some (HO.tup xs)):∀ {kvs:Fu} {es:List Ent},TbR n H kvs es->TbR n H' kvs es
 | _,_,.nil=>.nil
 | _,_,.cons h q r=>.cons (e _ _ h) (q.aO e) (TbR.aO e r)
theorem TbR.le (h:n<=m):∀ {kvs:Fu} {es:List Ent},TbR n H kvs es->TbR m H kvs es
 | _,_,.nil=>.nil
 | _,_,.cons a q r=>.cons a (q.le h) (TbR.le h r)
theorem TbR.length:∀ {kvs:Fu} {es:List Ent},TbR n H kvs es->kvs.length=es.length
 | _,_,.nil=>rfl
 | _,_,.cons _ _ r=>congrArg (· + 1) (TbR.length r)
theorem TbR.keys:∀ {kvs:Fu} {es:List Ent},TbR n H kvs es->kvs.map (·.1)=(es.map fun e=>(e.1:Int)).map WN
 | _,_,.nil=>rfl
 | _,_,.cons _ _ r=>congrArg (_::·) (TbR.keys r)
theorem TbR.snoc {t p:Addr}{num one:Nat}{pl:Pl}(h:H t=some (.tup [vN one,.ref p]))(q:kE n H p pl):∀ {kvs:Fu} {es:List Ent},TbR n H kvs es->TbR n H (kvs++[(WN (num:Int),.ref t)]) (es++[(num,one,pl)])
 | _,_,.nil=>.cons h q .nil
 | _,_,.cons a b r=>.cons a b (TbR.snoc h q r)
theorem TbR.val {i:Nat}{e:Ent}:∀ {kvs:Fu} {es:List Ent},TbR n H kvs es->(es.map (·.1)).Nodup->es[i]? = some e->∃ (t p:Addr),rZ kvs (WN (e.1:Int))=some (.ref t)/\H t=some (.tup [vN e.2.1,.ref p])/\kE n H p e.2.2
 | _,_,.nil,_,h=>by simp at h
 | _,_,.cons (num:=num) (es:=es) h q r,nd,he=>by
  rw[WL,List.nodup_cons] at nd
  cases i with
  | zero =>
   cases (show some _=some _ from he)
   exact⟨_,_,pX U,h,q⟩
  | succ i =>
   have he':es[i]? = some e:=by simpa using he
   obtain⟨t,p,h1,h2,h3⟩:=TbR.val (i:=i) r nd.2 he'
   refine⟨t,p,?_,h2,h3⟩
   rw[m7 fun z=>nd.1 ?_]
   ·exact h1
   ·have:(num:Int)=(e.1:Int):=abl z
    rw[show num=e.1 by lia]
    exact List.mem_map.mpr ⟨e,Wd he',U⟩
theorem TbR.none {k:Int}:∀ {kvs:Fu} {es:List Ent},TbR n H kvs es->(∀ e∈es,(e.1:Int)≠k)->rZ kvs (WN k)=none
 | _,_,.nil,_=>rfl
 | _,_,.cons _ _ r,h=>by
  rw[m7 fun z=>h _ VP (abl z)]
  exact TbR.none r fun e he=>h e (VR _ he)
end
structure EsU (n:Nat)(go:D7)(es:List Ent)(co:Nat):Prop where
 up:(es.map (·.1)).Pairwise (· < ·)
 lt:∀ e∈es,e.1 < co/\e.2.1 < n/\e.2.1 ∉ go
section
variable {n:Nat}{go:D7}{es:List Ent}{co:Nat}
def EsU.nd (h:EsU n go es co):(es.map (·.1)).Nodup:=h.up.imp fun z=>V5 z
def EsU.sort (h:EsU n go es co){ms:D6}(p:ms.Perm (es.map fun e=>(e.1:Int)))(so:ms.Pairwise (·<=·)):ms=es.map fun e=>(e.1:Int):=by
 refine j4 p so ?_
 have:=h.up
 rw[Ze] at this ⊢
 exact this.imp fun z=>by lia
end
def StR (be:Addr)(n:Nat)(H:Hp)(a:Addr)(g:D6)(go:D7)(es:List Ent)(co:Nat):Prop :=
 ∃ (pa ga ta:Addr) (kvs:Fu),H a=some (.tup [.ref pa,.ref ga,.ref ta,vN co])/\H pa=some (.lst (prF n go))/\H ga=some (.tup (g.map V.int))/\H ta=some (.dK kvs)/\TbR n H kvs es/\pa≠be
def StR.same {be:Addr}{n:Nat}{H H':Hp}{a:Addr}{g:D6}{go:D7}{es:List Ent}{co:Nat}(s:aN H H')(h:StR be n H a g go es co):StR be n H' a g go es co:=by
 obtain⟨pa,ga,ta,kvs,h1,h2,h3,h4,h5,h6⟩:=h
 exact⟨pa,ga,ta,kvs,s _ _ h1,s _ _ h2,s _ _ h3,s _ _ h4,h5.aO fun a xs z=>s _ _ z,h6⟩
def StR.sT {be:Addr}{n:Nat}{H H':Hp}{a:Addr}{g:D6}{go:D7}{es:List Ent}{co:Nat}(s:jP H H')(h:StR be n H a g go es co):StR be n H' a g go es co:=by
 obtain⟨pa,ga,ta,kvs,h1,h2,h3,h4,h5,h6⟩:=h
 exact⟨pa,ga,ta,kvs,stT s h1,stL s h2,stT s h3,s _ _ (fun _ z=>nomatch z) h4,h5.aO fun a xs z=>stT s z,h6⟩
def StR.but {CB:Addr}{be b dx:Addr}{fs:FA}{xs:FH}{n:Nat}{H H':Hp}{a:Addr}{g:D6}{go:D7}{es:List Ent}{co:Nat}(hb:H b=some (.ins CB dx fs))(hbe:H be=some (.lst xs))(s:But b be H H')(h:StR be n H a g go es co):StR be n H' a g go es co:=by
 obtain⟨pa,ga,ta,kvs,h1,h2,h3,h4,h5,h6⟩:=h
 have tp:∀ a ys,H a=some (HO.tup ys)->H' a=some (HO.tup ys):=fun a ys q=>s a _ (fun z=>by rw[z,hb] at q;cases q) (fun z=>by rw[z,hbe] at q;cases q) q
 exact⟨pa,ga,ta,kvs,tp _ _ h1,s _ _ (fun z=>by rw[z,hb] at h2;cases h2) h6 h2,tp _ _ h3,s _ _ (fun z=>by rw[z,hb] at h4;cases h4) (fun z=>by rw[z,hbe] at h4;cases h4) h4,h5.aO tp,h6⟩
abbrev iT:Stmt:=top 68
def sX:aG XT XT (aB iT):=c7
inductive uo (vs:FH)(H:Hp)(Q:VK):Prop where
 | mk (be a:Addr) (o:Int) (n:Nat) (g:D6) (go:D7) (es:List Ent) (co:Nat) (z0:vs=[.ref a,.int o]) (z1:StR be n H a g go es co) (z2:Q (.str (miW n go o)) H):uo  vs H Q
def qO:Sp:=fun vs H Q _=>uo  vs H Q
def sV (F:Fun K "_law_missing" "_law_missing" iT f fd) (B:Bt mg):bH P w K mg base CX0 1 f fd XT qO:=by
 refine okA F sX fun _ _ _ _ H _ Q E hr h=>?_
 obtain⟨be,a,o,n,g,go,es,co,rfl,⟨pa,ga,ta,kvs,h1,h2,h3,h4,h5,h6⟩,q⟩:=h
 refine⟨_,(au (aW (PW.pt (iI (aH uW (pv 1) aq) (d7 (aH lJ (pv 1) (aF (r:=iR K) aU U B.len_ bJ (aa (pxT K (pv 0) aq) ao)))))) (az (aD aL)) aC)
 (az (aD (ni (cI (pxL K (pxT K (pv 0) aq) (pv 1))) aL aL)))),?_⟩
 refine bV (fun σ H1=>σ=[oR a,oI o]/\H1=H/\¬ (o < 0∨(n:Int)<=o)) ?_ ?_
 ·intro N Rc
  have e1:(o < 0∨(n:Int)<=o)->Q (.str "no folk") H:=fun z=>by
   have:miW n go o = "no folk":=by unfold miW;rw[iPo z]
   rw[← this]
   exact q
  refine⟨_,U,_,_,U,U,_,U,?_⟩
  refine jE (fun z=>cW (e1 (.inl (of_decide_eq_true z)))) (fun z=>?_)
  refine⟨_,U,_,U,a,_,_,_,U,U,sqT h1,gt0,pa,_,U,.inl (sqL h2),_,_,U,U,_,U,?_⟩
  rw[cP]
  refine jE (fun y=>e1 (.inr (of_decide_eq_true y))) (fun y=>Rc _ _ ⟨U,U,fun x=>x.elim (fun v=>z (dcT v)) (fun v=>y (dcT v))⟩)
 rintro σ H1 ⟨rfl,rfl,hn⟩
 have hi:o.toNat < n:=by lia
 have eo:o=((o.toNat:Nat):Int):=by lia
 have em:miW n go o=if o.toNat∈go then ("gone" : Wb) else "":=by unfold miW;rw[iNe hn]
 rw[em] at q
 refine⟨_,U,a,_,_,_,U,U,sqT h1,gt0,_,U,pa,_,_,.bl (decide (o.toNat ∉ go)),U,U,sqL h2,?_,_,U,?_⟩
 ·rw[eo]
  exact dh (by rw[Wg];exact Ia hi)
 ·by_cases z:o.toNat∈go
  ·rw[dcF (not_not_intro z)]
   rw[iPo z] at q
   exact bZ q
  ·rw[dcT z]
   rw[iNe z] at q
   exact cW q
abbrev jD:Stmt:=top 67
def uq:aG XU XU (aB jD):=c7
def miP (es:List Ent)(o:Int):List Pl:=(es.filter fun e=>decide ((e.2.1:Int)=o)).map fun e=>e.2.2
inductive wk (vs:FH)(H:Hp)(Q:VK):Prop where
 | mk (ta:Addr) (o:Int) (n:Nat) (kvs:Fu) (es:List Ent) (z0:vs=[.ref ta,.int o]) (z1:H ta=some (.dK kvs)) (z2:TbR n H kvs es) (z3:(es.map (·.1)).Pairwise (· < ·)) (z4:es.length<=40) (z5:∀ (l:Addr) (as:D0) (H':Hp),aN H H'->H l=none->H' l=some (.lst (as.map V.ref))->as.length<=40->fC n H' as (miP es o)->Q (.ref l) H'):wk  vs H Q
def pU:Sp:=fun vs H Q _=>wk  vs H Q
def uN (F:Fun K "_law_listed" "_law_listed" jD f fd) (B:Bt mg):bH P w K mg base CX0 2 f fd XU pU:=by
 refine okA F uq fun _ _ _ _ H _ Q E hr h=>?_
 obtain⟨ta,o,n,kvs,es,rfl,hta,tb,up,l40,q⟩:=h
 refine⟨_,(az (aD (cz (L:=["_law_number"]) (F:=XU) (cap:=[0,1]) U (bF U U (by kernel_rfl)) (dC (aF (r:=xU) (j6 U) U B.sorted_ (by decide+kernel) (aa (pv 0) ao))) (fun _ _ _ _ _=>(aJ (i:=0) (bw (by decide+kernel)) U (VF U))) (fun _ _ _ _ _=>(jf (aH bj (pxT K (jT hr.iz (pv 1) (pv 0) (fun _ _=>U)) aq) (pv 2)))) (fun _ _ _ _ _=>(pxT K (jT hr.iz (pv 1) (pv 0) (fun _ _=>U)) aq))))),?_⟩
 have nd:(es.map (·.1)).Nodup:=up.imp fun z=>V5 z
 refine⟨_,U,ta,kvs,es.map fun e=>(e.1:Int),U,hta,tb.keys,by rw[Vs];lia,fun ms pm so l hl=>?_⟩
 have em:ms=es.map fun e=>(e.1:Int):=j4 pm so (by rw[Ze] at up ⊢;exact up.imp fun z=>by lia)
 subst em
 generalize eH1:upd H l _=H1
 obtain⟨s1,e1⟩:=aK eH1 hl
 refine⟨l,U,⟨_,sqL e1⟩,fun D hD=>iK (K:=K) (a:=l) (xs:=(es.map fun e=>(e.1:Int)).map V.int) (fun i zs σ' H2=>(∃ u,σ'=[u,oR ta,oI o])/\aN H1 H2/\H2 D=some (.lst zs)/\∃ as:D0,zs=as.map V.ref/\as.length<=i/\fC n H2 as (miP (es.take i) o))
  ⟨⟨_,U⟩,aA hD _,aj,[],U,Vw _,by rw[Ws];exact .nil⟩ (fun i zs σ' H2 _ h=>⟨sqL (h.2.1 _ _ e1),h.2.2.1⟩) ?_ ?_⟩
 ·rintro i zs x σ' H2 hx ⟨⟨u,rfl⟩,sm,eD,as,rfl,las,ps⟩
  rw[V7,V7] at hx
  obtain⟨e,he,rfl⟩:∃ e,es[i]? = some e/\x = .int (e.1:Int):=by
   cases z:es[i]? with
   | none=>rw[z] at hx;cases hx
   | some e=>rw[z] at hx;cases hx;exact⟨e,U,U⟩
  have ie:=(geS he).1
  have s02:=s1.trans sm
  obtain⟨t,p,hv,ht,hp⟩:=tb.val nd he
  have nx:miP (es.take (i+1)) o=miP (es.take i) o++if (e.2.1:Int)=o then [e.2.2] else []:=by
   unfold miP
   rw[V8,he,YW,VD]
   congr 1
   by_cases z:(e.2.1:Int)=o
   ·rw[iPo z,show (Option.toList (some e))=[e] from U,Yh (by exact dcT z)]
    rfl
   ·rw[iNe z,show (Option.toList (some e))=[e] from U,Yi (by rw[dcF z];exact Vy)]
    rfl
  have dg:rA H2 ta (.int (e.1:Int)) (some (.ref t)):=by
   rw[← hv]
   exact rA.k (k:=WN (e.1:Int)) (s02 _ _ hta)
  refine⟨_,U,_,U,ta,_,U,dg,t,_,_,_,U,U,sqT (s02 _ _ ht),gt0,_,U,U,_,U,?_⟩
  by_cases z:(e.2.1:Int)=o
  ·rw[show decide (vN e.2.1=V.int o)=true from dcT (by rw[← z];rfl)]
   refine cW ⟨_,U,_,U,ta,_,U,dg,t,_,_,_,U,U,sqT (s02 _ _ ht),gt1,eD,aQ (by rw[Vs];lia),⟨_,U⟩,aV sm hD _,aj,as++[p],?_,?_,?_⟩
   ·rw[VD]
    rfl
   ·rw[VH]
    show as.length+1<=_
    lia
   ·rw[nx,iPo z]
    have tk:=cR (zs':=as.map V.ref++[.ref p]) eD
    exact fC.snoc ((hp.aO fun a xs w=>s02 _ _ w).aO tk) (ps.aO tk)
  ·rw[show decide (vN e.2.1=V.int o)=false from dcF fun y=>z (by injection y)]
   refine bZ ⟨⟨_,U⟩,sm,eD,as,U,by lia,?_⟩
   rw[nx,iNe z,Xn]
   exact ps
 ·rintro zs σ' H2 ⟨_,sm,eD,as,rfl,las,ps⟩
  rw[Vs,Vs] at las ps
  rw[VJ] at ps
  exact q D as H2 (s1.trans sm) (s1.free hD) eD (by lia) ps
def Rk {es:List Ent}(ok:∀ e∈es,okP e.2.2)(one:Nat)(g:D6):duF g 0 (miP es (one:Int))=mxD 0 (owL es one g):=by
 have e:owL es one g=(miP es (one:Int)).map (owF g):=by
  unfold owL miP
  rw[aa5]
  have:(fun e:Ent=>decide (e.2.1=one))=fun e:Ent=>decide ((e.2.1:Int)=(one:Int)):=by
   funext e
   exact decide_eq_decide.mpr ⟨fun h=>by rw[h],fun h=>by lia⟩
  rw[this]
  rfl
 unfold duF
 rw[← e]
 have all:∀ x∈owL es one g,0<=x:=fun x hx=>by
  obtain⟨e,he,rfl⟩:=List.mem_map.mp hx
  exact Dz fun y hy=>by have:=((ok e (List.mem_filter.mp he).1).2.2.2 y hy).1;lia
 cases h:owL es one g with
 | nil=>rfl
 | cons a r =>
  have:=all a (by rw[h];exact VP)
  show r.foldl max (max 0 a)=r.foldl max a
  rw[show max 0 a=a by lia]
theorem TbR.ok {n:Nat}{H:Hp}:∀ {kvs:Fu} {es:List Ent},TbR n H kvs es->∀ e∈es,okP e.2.2
 | _,_,.nil,e,h=>by cases h
 | _,_,.cons _ p r,e,h=>by
  rcases List.mem_cons.mp h with z | z
  ·rw[z]
   exact p.1
  ·exact TbR.ok r e z
abbrev nZ:Stmt:=top 69
def jc:aG ["_law_state","_law_one","_law_pledge_here","_law_step","_law_term_here","_law_names"] VZ (aB nZ):=c7
inductive Ff (vs:FH)(H:Hp)(Q:VK):Prop where
 | mk (be a p:Addr) (i n:Nat) (g:D6) (go:D7) (es:List Ent) (co:Nat) (pl:Pl) (z0:vs=[.ref a,vN i,.ref p]) (z1:StR be n H a g go es co) (z2:kE n H p pl) (z3:1<=n) (z4:n<=12) (z5:((∃ x∈pl,nn i x.2=false)->∀ H',aN H H'->Q (.bl false) H')) (z6:((¬ ∃ x∈pl,nn i x.2=false)->∀ H',aN H H'->Q (.bl true) H')):Ff  vs H Q
def M7:Sp:=fun vs H Q _=>Ff  vs H Q
def Qv {n:Nat}{c:D7}(hn:1<=n)(h:∀ i∈c,i < n):mxD 0 (0::c.map fun i:Nat=>(i:Int)) < (n:Int):=by
 show (c.map fun i:Nat=>(i:Int)).foldl max 0 < (n:Int)
 have:∀ (l:D7) (a:Int),a < n->(∀ i∈l,i < n)->(l.map fun i:Nat=>(i:Int)).foldl max a < (n:Int):=by
  intro l
  induction l with
  | nil=>intro a ha _;exact ha
  | cons b r ih =>
   intro a ha hl
   refine ih _ ?_ fun i hi=>hl i (VR _ hi)
   have:=hl b VP
   show max a (b:Int) < (n:Int)
   lia
 exact this c 0 (by lia) h
def zT (F:Fun K "_law_good" "_law_good" nZ f fd) (B:Bt mg) (RU:Df P w K mg base "_law_named" 4 YI (jG 4)):bH P w K mg base CX0 5 f fd VZ M7:=by
 refine okA F jc fun _ _ _ _ H _ Q E hr h=>?_
 obtain⟨be,a,p,i,n,g,go,es,co,pl,rfl,⟨pa,ga,ta,kvs,h1,h2,h3,h4,h5,h6⟩,⟨okp,vs,hp,rv⟩,n1,n12,q0,q1⟩:=h
 refine⟨_,(au (cV Wq U (dq (pv 2)) (d8 (K:=K) 2 U U (bf (aJ (i:=3) jc.nd U (VF U)) (bf (aJ (i:=4) jc.nd U (VF U)) eG))) (au (aP (i:=5) jc.nd U (VF U) (aY RU hr (aa (pv 4) ao)))
 (az (aW (PW.pt (iI (fU (r:=rIn K false) dY (pv 1) (pv 5) U) (d7 (aH lJ (aF (r:=KZ K) (qX U) U B.max_ tX (aa (aR kh (bA (aa aq ao)) (pv 5)) ao)) (aF (rJ U) U B.max_ tX (aa aq (aa (aF (r:=iR K) aU U B.len_ bJ (aa (pxT K (pv 0) aq) ao)) ao))))))) (az (aD fK)) aC))))
 (az (aD fK))),?_⟩
 have lv:=rv.length
 refine eQ (fun σ H1=>aN H H1/\¬ ∃ x∈pl,nn i x.2=false) (fun σ H1 z=>q1 z.2 H1 z.1) fun N Rc=>?_
 refine⟨_,U,p,U,⟨_,sqT hp⟩,eF (K:=K) (a:=p) (xs:=vs) (fun k σ H1=>(∃ u v w,σ=[oR a,some (vN i),oR p,u,v,w])/\aN H H1/\∀ x∈pl.take k,nn i x.2=true) ⟨⟨_,_,_,U⟩,aN.refl _,fun x hx=>by rw[Ws] at hx;cases hx⟩ (fun k σ H1 _ z=>sqT (z.2.1 _ _ hp)) ?_ ?_⟩
 ·rintro k x σ H1 hx ⟨⟨u,v,w',rfl⟩,s1,hno⟩
  obtain⟨r,st,y,t,rfl,hr',tr,hk⟩:=rv.get hx
  have hm:=Wd hk
  have hd:=(okp.2.2.2 _ hm).2.2
  refine⟨r,_,U,sqT (s1 _ _ hr'),U,_,_,U,_,_,U,U,?_⟩
  refine bV (fun σ H2=>∃ l:Addr,σ=[oR a,some (vN i),oR p,oI st,some y,oR l]/\aN H1 H2/\H2 l=some (.lst ((mnF t).map vN))) ?_ ?_
  ·intro N' Rc'
   exact⟨_,U,y,n,t,U,tr.mono s1,hd,by decide,n12,fun l H2 s2 _ e2=>Rc' _ _ ⟨l,U,s2,e2⟩⟩
  rintro σ H2 ⟨l,rfl,s2,el⟩
  have s12:=s1.trans s2
  refine⟨_,U,_,U,l,_,U,.inl (sqL el),U,jJ _,_,U,?_⟩
  rw[iNe (show ¬ false=true from Vy),show vN i=V.int (i:Int) from U,jY]
  by_cases z:i∈mnF t
  ·rw[dcT z]
   refine cW (cW (q0 ⟨_,hm,?_⟩ H2 s12))
   cases e:nn i t with
   | false=>rfl
   | true=>exact absurd z (Pg t e)
  ·rw[dcF z]
   refine bZ ⟨smN 1,fun p4 hp4=>?_⟩
   generalize eH4:upd H2 p4 _=H4
   obtain⟨g4,e4⟩:=aK eH4 hp4
   have sml:=pY n12 (Vw 4) tr hd
   refine⟨_,U,p4,l,_,_,U,U,e4,g4 _ _ el,?_,fun p6 hp6=>?_⟩
   ·rw[Vs]
    exact Wf (show 1+(mnF t).length<=100000 by lia) (by decide)
   generalize eH6:upd H4 p6 _=H6
   obtain⟨g6,e6⟩:=aK eH6 hp6
   have s26:=g4.trans g6
   refine⟨p6,0::(mnF t).map (fun i:Nat=>(i:Int)),U,sqL (e6.trans (by rw[WL,← gY];rfl)),by simp,?_⟩
   refine⟨_,U,a,_,_,_,U,U,sqT ((s12.trans s26) _ _ h1),gt0,pa,_,U,.inl (sqL ((s12.trans s26) _ _ h2)),_,_,U,?_⟩
   rw[cP]
   have lt:=Qv n1 (Oc tr)
   refine⟨_,_,U,U,_,U,?_⟩
   rw[dcF (by split <;> lia)]
   refine bZ ⟨⟨_,_,_,U⟩,s12.trans s26,fun x hx'=>?_⟩
   rw[V8,hk] at hx'
   rcases List.mem_append.mp hx' with w | w
   ·exact hno x w
   ·rw[List.mem_singleton.mp w]
    exact Qc t z
 ·rintro σ H1 ⟨⟨u,v,w',rfl⟩,s1,hno⟩
  rw[lv,VJ] at hno
  exact Rc _ _ ⟨s1,fun⟨x,hx,z⟩=>by rw[hno x hx] at z;cases z⟩
abbrev lM:Stmt:=top 71
def gF:aG ["_law_state","_law_rises_here","_law_green_there","_law_one","_law_step"] WJ (aB lM):=c7
inductive xG (vs:FH)(H:Hp)(Q:VK):Prop where
 | mk (be a ra:Addr) (n:Nat) (g:D6) (go:D7) (es:List Ent) (co:Nat) (us:FH) (ps:DL) (z0:vs=[.ref a,.ref ra]) (z1:StR be n H a g go es co) (z2:g.length=n) (z3:H ra=some (.lst us)) (z4:RiI H us ps) (z5:(∀ x∈ps,∃ j:Nat,x.1=j/\j < n)) (z6:∀ (r:Addr) (H':Hp),aN H H'->H' r=some (.tup ((seI g ps).map V.int))->Q (.ref r) H'):xG  vs H Q
def vG:Sp:=fun vs H Q _=>xG  vs H Q
def yg (F:Fun K "_law_green" "_law_green" lM f fd) (B:Bt mg):bH P w K mg base CX0 1 f fd WJ vG:=by
 refine okA F gF fun _ _ _ _ H _ Q E hr h=>?_
 obtain⟨be,a,ra,n,g,go,es,co,us,ps,rfl,⟨pa,ga,ta,kvs,h1,h2,h3,h4,h5,h6⟩,lg,hra,hri,hin,q⟩:=h
 refine⟨_,(au (aP (i:=2) gF.nd U (VF U) (bh (r:=jL K) d9 U B.list_ jg (aa (pxT K (pv 0) aq) ao)))
 (au (cV Wq U (dC (pv 1)) (d8 (K:=K) 2 U U (bf (aJ (i:=3) gF.nd U (VF U)) (bf (aJ (i:=4) gF.nd U (VF U)) eG))) (az (xN (pv 4) (Mx (pv 2) (pv 3) set_list))))
 (az (aD (bh (r:=fY K) bK U B.tuple_ bQ (aa (pv 2) ao)))))),?_⟩
 have lus:=hri.length
 refine bV (fun σ F1=>∃ a1:Addr,σ=[oR a,oR ra,oR a1,none,none]/\aN H F1/\F1 a1=some (.lst (g.map V.int))/\H a1=none) ?_ ?_
 ·intro N Rc
  exact⟨_,U,a,_,_,_,U,U,sqT h1,gt1,ga,_,U,.inr (sqT h3),fun a1 hn=>Rc _ _ ⟨a1,U,aA hn _,aj,hn⟩⟩
 rintro σ F1 ⟨a1,rfl,gf1,ef1,hn1⟩
 refine bV (fun σ H3=>∃ (u v:FC),σ=[oR a,oR ra,oR a1,u,v]/\aN H H3/\H3 a1=some (.lst ((seI g ps).map V.int))) ?_ ?_
 ·intro N Rc
  refine⟨_,U,ra,U,⟨_,sqL (gf1 _ _ hra)⟩,eV (K:=K) (a:=ra) (xs:=us) (fun i σ H3=>∃ (u v:FC),σ=[oR a,oR ra,oR a1,u,v]/\aN H H3/\H3 a1=some (.lst ((seI g (ps.take i)).map V.int)))
   ⟨_,_,U,gf1,ef1⟩ (fun i σ H3 _ h=>by obtain⟨_,_,_,z,_⟩:=h;exact sqL (z _ _ hra)) ?_ ?_⟩
  ·rintro i y σ H3 hx ⟨u,v,rfl,sm,e1⟩
   obtain⟨e,o,sp,rfl,hp,hent⟩:=hri.get hx
   obtain⟨j,ej,hj⟩:=hin _ (Wd hp)
   have ej:o=j:=ej
   have nx:ps.take (i+1)=ps.take i++[(o,sp)]:=by rw[V8,hp];rfl
   refine⟨e,_,U,sqT (sm _ _ hent),U,_,_,U,_,_,U,U,?_⟩
   refine⟨_,U,_,U,_,U,a1,_,_,j,U,U,e1,?_,_,_,U,aV sm hn1 _,?_⟩
   ·unfold ixN
    rw[iPo (by lia),iPo (by rw[Vs,n8];lia),ej]
    rfl
   ·rw[aj,nx,Ce,List.map_set]
    show _=some (HO.lst ((List.map V.int (seI g (ps.take i))).set o.toNat (.int sp)))
    rw[ej,Wg]
  ·rintro σ H3 ⟨u,v,rfl,sm,e1⟩
   rw[lus,VJ] at e1
   exact Rc _ _ ⟨u,v,U,sm,e1⟩
 rintro σ H3 ⟨u,v,rfl,sm,e1⟩
 exact⟨_,U,a1,_,U,.inl ⟨sqL e1,fun l hl=>q l _ (sm.trans (aA hl _)) aj⟩⟩
abbrev dH:Stmt:=top 72
def bC:aG ["_law_state","_law_rises_here","_law_seen","_law_one","_law_step","_law_behind_them"] WJ (aB dH):=c7
inductive yI (vs:FH)(H:Hp)(Q:VK):Prop where
 | mk (be a ra:Addr) (n:Nat) (g:D6) (go:D7) (es:List Ent) (co:Nat) (us:FH) (ps:DL) (z0:vs=[.ref a,.ref ra]) (z1:StR be n H a g go es co) (z2:g.length=n) (z3:EsU n go es co) (z4:es.length<=40) (z5:H ra=some (.lst us)) (z6:RiI H us ps) (z7:ps.length<=100) (z8:∀ H',aN H H'->Q (.str (haW n g go es ps)) H'):yI  vs H Q
def uK:Sp:=fun vs H Q _=>yI  vs H Q
def j7 {k:Nat} (hk:2<=k) (F:Fun K "_law_rises_refusal" "_law_rises_refusal" dH f fd) (B:Bt mg) (RS:Df P w K mg base "_law_missing" 1 XT qO) (RE:Df P w K mg base "_law_green" 1 WJ vG)
  (RO:Df P w K mg base "_law_listed" 2 XU pU) (RW:Df P w K mg base "_law_owed" k WU (vR K)):bH P w K mg base CX0 (k+1) f fd WJ uK:=by
 refine okA F bC fun _ _ _ _ H _ Q E hr h=>?_
 obtain⟨be,a,ra,n,g,go,es,co,us,ps,rfl,hst,lg,eu,l40,hra,hri,p100,q⟩:=h
 refine⟨_,(au (aP (i:=2) bC.nd U (VF U) (bA ao))
 (au (cV Wq U (dC (pv 1)) (d8 (K:=K) 2 U U (bf (aJ (i:=3) bC.nd U (VF U)) (bf (aJ (i:=4) bC.nd U (VF U)) eG))) (au (aW (aH sI (aY RS hr (aa (pv 0) (aa (pv 3) ao))) aL) (az (aD (aY RS hr (aa (pv 0) (aa (pv 3) ao))))) aC)
 (au (aW (PW.pt (iI (fU (r:=rIn K false) dY (pv 3) (pv 2) U) (iI (aH PQ (pv 4) (pxT K (pxT K (pv 0) aq) (pv 3))) (d7 (aH lC (pv 4) aq))))) (az (aD aL)) aC)
 (az (bD (tu W7 Xg Xf du (pv 2) (aa (pv 3) ao)))))))
 (au (aW (aH (r:=Tf K) (Mj hr.o9) (pv 1) (bA ao)) (az (aD aL)) aC)
 (au (aP (i:=5) bC.nd U (VF U) (aY RE hr (aa (pv 0) (aa (pv 1) ao))))
 (au (cV Wq U (dC (pv 1)) (d8 (K:=K) 2 U U (bf (aJ (i:=3) bC.nd U (VF U)) (bf (aJ (i:=4) bC.nd U (VF U)) eG))) (az (aW (aH lC (pv 4) (aY RW hr (aa (aY RO hr (aa (pxT K (pv 0) aq) (aa (pv 3) ao))) (aa (pv 5) ao)))) (az (aD aL)) aC)))
 (az (aD aL))))))),?_⟩
 have lus:=hri.length
 have st_:∀ {H':Hp},aN H H'->∃ (pa ga ta:Addr) (kvs:Fu),H' a=some (.tup [.ref pa,.ref ga,.ref ta,vN co])/\H' ga=some (.tup (g.map V.int))/\H' ta=some (.dK kvs)/\TbR n H' kvs es:=fun s=>by
  obtain⟨pa,ga,ta,kvs,h1,h2,h3,h4,h5,h6⟩:=hst.same s
  exact⟨pa,ga,ta,kvs,h1,h3,h4,h5⟩
 refine bV (fun σ F2=>∃ a2:Addr,σ=[oR a,oR ra,oR a2,none,none,none]/\aN H F2/\F2 a2=some (.lst [])/\H a2=none) ?_ ?_
 ·intro N Rc
  exact⟨smN 0,fun a2 h2=>Rc _ _ ⟨a2,U,aA h2 _,aj,h2⟩⟩
 rintro σ F2 ⟨a2,rfl,gf2,ef2,h2⟩
 refine bV (fun σ H3=>∃ (u v:FC),σ=[oR a,oR ra,oR a2,u,v,none]/\aN H H3/\Jt n g go ps ps.length) ?_ ?_
 ·intro N Rc
  refine⟨_,U,ra,U,⟨_,sqL (gf2 _ _ hra)⟩,eV (K:=K) (a:=ra) (xs:=us) (fun i σ H3=>∃ (u v:FC),σ=[oR a,oR ra,oR a2,u,v,none]/\aN H H3/\H3 a2=some (.lst (((ps.take i).map (·.1.toNat)).map vN))/\Jt n g go ps i)
   ⟨_,_,U,gf2,ef2,.zero n g go ps⟩ (fun i σ H3 _ h=>by obtain⟨_,_,_,z,_⟩:=h;exact sqL (z _ _ hra)) ?_ ?_⟩
  ·rintro i y σ H3 hx ⟨u,v,rfl,sm,e2,ok⟩
   obtain⟨e,o,sp,rfl,hp,hent⟩:=hri.get hx
   have ip:=(geS hp).1
   have pne:ps≠[]:=fun z=>by rw[z] at ip;exact absurd ip (aao _)
   have eha:riW n g go [] ps≠""->haW n g go es ps=riW n g go [] ps:=fun z=>by unfold haW;rw[iNe pne,iPo z]
   have nx:ps.take (i+1)=ps.take i++[(o,sp)]:=by rw[V8,hp];rfl
   have wd:=ok.word hp
   have hst3:=hst.same sm
   refine⟨e,_,U,sqT (sm _ _ hent),U,_,_,U,_,_,U,U,?_⟩
   refine bV (fun σ H4=>∃ j:Nat,o=j/\j < n/\j ∉ go/\σ=[oR a,oR ra,oR a2,some (vN j),oI sp,none]/\H4=H3) ?_ ?_
   ·intro N' Rc'
    refine⟨_,U,_,U,be,a,o,n,g,go,es,co,U,hst3,U,_,U,?_⟩
    rcases yq n go o with⟨em,_⟩ | ⟨j,ej,hj,⟨hg,em⟩ | ⟨hg,em⟩⟩
    ·rw[em,show decide (V.str "no folk" = V.str "")=false from dcF bz]
     refine cW ⟨_,U,_,U,be,a,o,n,g,go,es,co,U,hst3,?_⟩
     rw[iPo (by rw[em];decide)] at wd
     rw[← wd,← eha (by rw[wd,em];decide)]
     exact q H3 sm
    ·rw[em,show decide (V.str "gone" = V.str "")=false from dcF bz]
     refine cW ⟨_,U,_,U,be,a,o,n,g,go,es,co,U,hst3,?_⟩
     rw[iPo (by rw[em];decide)] at wd
     rw[← wd,← eha (by rw[wd,em];decide)]
     exact q H3 sm
    ·rw[em,show decide (V.str "" = V.str "")=true from dcT U]
     exact bZ (Rc' _ _ ⟨j,ej,hj,hg,by rw[ej];rfl,U⟩)
   rintro σ H4 ⟨j,rfl,hj,hg,rfl,rfl⟩
   rw[oh hj,iNe hg,iNe (fun z=>z U),Wg] at wd
   obtain⟨pa,ga,ta,kvs,h1',h3',h4',h5'⟩:=st_ sm
   have hjg:j < g.length:=by lia
   have gei:g.getD j 0=g[j]:=by rw[Wi,Vz hjg];rfl
   have bad:(j∈(ps.take i).map (·.1.toNat)∨¬ (g.getD j 0 < sp/\sp<=9))->Q (.str "bad rise") H4:=fun z=>by
    rw[iPo z] at wd
    rw[← wd,← eha (by rw[wd];decide)]
    exact q H4 sm
   refine bV (fun σ H5=>σ=[oR a,oR ra,oR a2,some (vN j),oI sp,none]/\H5=H4/\j ∉ (ps.take i).map (·.1.toNat)/\g.getD j 0 < sp/\sp<=9) ?_ ?_
   ·intro N' Rc'
    refine⟨_,U,_,U,a2,_,U,.inl (sqL e2),U,jJ _,_,U,?_⟩
    rw[iNe (show ¬ false=true from Vy),show vN j=V.int (j:Int) from U,jY]
    by_cases z:j∈(ps.take i).map (·.1.toNat)
    ·rw[dcT z]
     exact cW (cW (bad (.inl z)))
    ·rw[dcF z]
     refine bZ ⟨_,U,_,U,a,_,_,_,U,U,sqT h1',gt1,_,U,ga,_,_,_,U,U,sqT h3',kI hjg,_,_,U,U,_,U,?_⟩
     by_cases y:sp<=g[j]
     ·rw[dcT y]
      exact cW (cW (bad (.inr (by rw[gei];lia))))
     ·rw[dcF y]
      refine bZ ⟨_,U,_,_,U,U,_,U,?_⟩
      by_cases y9:9 < sp
      ·rw[dcT y9]
       exact cW (bad (.inr (by lia)))
      ·rw[dcF y9]
       exact bZ (Rc' _ _ ⟨U,U,z,by rw[gei];lia,by lia⟩)
   rintro σ H5 ⟨rfl,rfl,nin,h1'',h9''⟩
   refine⟨_,U,.inl ⟨U,_,sqL e2⟩,_,U,a2,_,_,U,U,e2,aQ (by rw[Vs,Vs,V0];lia),_,_,U,aV sm h2 _,?_,ok.step hp U hj hg nin h1'' h9''⟩
   rw[aj,nx,VD,VD]
   rfl
  ·rintro σ H3 ⟨u,v,rfl,sm,e2,ok⟩
   rw[lus] at ok
   exact Rc _ _ ⟨u,v,U,sm,ok⟩
 rintro σ H3 ⟨u,v,rfl,sm,ok⟩
 have ri:riW n g go [] ps = "":=by
  rw[← ok.on,ach]
  rfl
 have al:=ok.al
 rw[VJ] at al
 refine bV (fun σ H4=>σ=[oR a,oR ra,oR a2,u,v,none]/\aN H H4/\ps≠[]) ?_ ?_
 ·intro N Rc
  refine⟨_,U,smN 0,fun pe he=>?_⟩
  have sn:=aA he (.lst [])
  refine⟨ra,pe,us,U,U,sqL (sn _ _ (sm _ _ hra)),sqL aj,_,U,?_⟩
  by_cases z:ps=[]
  ·have:us=[]:=Yc (by rw[lus,z];rfl)
   rw[this]
   have e:haW n g go es ps = "bad rise":=by unfold haW;rw[iPo z]
   rw[e] at q
   exact cW (q _ (sm.trans sn))
  ·have:us.isEmpty=false:=by
    cases us with
    | nil=>exact absurd (Yc lus.symm) z
    | cons _ _=>rfl
   rw[this]
   exact bZ (Rc _ _ ⟨U,sm.trans sn,z⟩)
 rintro σ H4 ⟨rfl,s4,pne⟩
 have eha:haW n g go es ps=if ∃ x∈ps,mxD 0 (owL es x.1.toNat (seI g ps)) < x.2 then ("not due" : Wb) else "":=by unfold haW;rw[iNe pne,iNe (by rw[ri];decide)]
 rw[eha] at q
 refine bV (fun σ H5=>∃ gr:Addr,σ=[oR a,oR ra,oR a2,u,v,oR gr]/\aN H H5/\H5 gr=some (.tup ((seI g ps).map V.int))) ?_ ?_
 ·intro N Rc
  exact⟨_,U,_,U,be,a,ra,n,g,go,es,co,us,ps,U,hst.same s4,lg,s4 _ _ hra,hri.aO fun a xs z=>s4 _ _ z,fun x hx=>by obtain⟨j,ej,hj,_⟩:=al x hx;exact⟨j,ej,hj⟩,fun gr H5 s5 e5=>Rc _ _ ⟨gr,U,s4.trans s5,e5⟩⟩
 rintro σ H5 ⟨gr,rfl,s5,egr⟩
 have sl:(seI g ps).length=n:=by rw[n8];exact lg
 refine eQ (fun σ H6=>aN H H6/\∀ x∈ps,¬ mxD 0 (owL es x.1.toNat (seI g ps)) < x.2) ?q4 ?t4
 case q4 =>
  rintro σ H6 ⟨s6,hno⟩
  rw[iNe fun⟨x,hx,z⟩=>hno x hx z] at q
  exact q H6 s6
 case t4 =>
 intro N Rc
 refine⟨_,U,ra,U,⟨_,sqL (s5 _ _ hra)⟩,eV (K:=K) (a:=ra) (xs:=us) (fun i σ H6=>(∃ u v:FC,σ=[oR a,oR ra,oR a2,u,v,oR gr])/\aN H5 H6/\∀ x∈ps.take i,¬ mxD 0 (owL es x.1.toNat (seI g ps)) < x.2)
  ⟨⟨_,_,U⟩,aN.refl _,fun x hx=>by rw[Ws] at hx;cases hx⟩ (fun i σ H6 _ h=>sqL (h.2.1 _ _ (s5 _ _ hra))) ?_ ?_⟩
 ·rintro i y σ H6 hx ⟨⟨u,v,rfl⟩,s6,hno⟩
  obtain⟨e,o,sp,rfl,hp,hent⟩:=hri.get hx
  have hm:=Wd hp
  obtain⟨j,ej,hj,_⟩:=al _ hm
  have ej:o=j:=ej
  subst ej
  have s06:=s5.trans s6
  obtain⟨pa,ga,ta,kvs,h1',h3',h4',h5'⟩:=st_ s06
  refine⟨e,_,U,sqT (s06 _ _ hent),U,_,_,U,_,_,U,U,?_⟩
  refine⟨_,U,_,U,a,_,_,_,U,U,sqT h1',gt2,_,U,ta,(j:Int),n,kvs,es,U,h4',h5',eu.up,l40,fun l as H7 s7 _ e7 las ps7=>?_⟩
  refine⟨_,U,l,gr,n,as,_,_,U,e7,by lia,ps7,sqT (s7 _ _ (s6 _ _ egr)),by lia,fun H8 s8=>?_⟩
  refine⟨_,_,U,U,_,U,?_⟩
  rw[Rk h5'.ok]
  by_cases z:mxD 0 (owL es j (seI g ps)) < sp
  ·rw[dcT z]
   rw[iPo ⟨_,hm,by rw[Wg];exact z⟩] at q
   exact cW (q _ (s06.trans (s7.trans s8)))
  ·rw[dcF z]
   refine bZ ⟨⟨_,_,U⟩,s6.trans (s7.trans s8),fun x hx'=>?_⟩
   rw[V8,hp] at hx'
   rcases List.mem_append.mp hx' with w | w
   ·exact hno x w
   ·rw[List.mem_singleton.mp w,Wg]
    exact z
 ·rintro σ H6 ⟨_,s6,hno⟩
  rw[lus,VJ] at hno
  exact Rc _ _ ⟨s5.trans s6,hno⟩
structure Sa where
 n:Nat
 g:D6
 go:D7
 es:List Ent
 co:Nat
inductive vL where
 | come
 | leave (o:Int)
 | pledge (o:Int) (pl:Pl)
 | hand (ps:DL)
 | change (k:Int) (pl:Pl)
 | withdraw (k:Int)
def Sa.aft (A:Sa):vL->Sa
 | .come=>⟨A.n+1,A.g++[0],A.go,A.es,A.co⟩
 | .leave o=>⟨A.n,A.g,mL (A.go++[o.toNat]),A.es.filter fun e=>decide (e.2.1≠o.toNat),A.co⟩
 | .pledge o pl=>⟨A.n,A.g,A.go,A.es++[(A.co,o.toNat,pl)],A.co+1⟩
 | .hand ps=>⟨A.n,seI A.g ps,A.go,A.es,A.co⟩
 | .change k pl=>⟨A.n,A.g,A.go,chE A.es k pl,A.co⟩
 | .withdraw k=>⟨A.n,A.g,A.go,wiE A.es k,A.co⟩
def reW (A:Sa):vL->Wb
 | .come=>if 12<=A.n then "full" else ""
 | .leave o=>miW A.n A.go o
 | .pledge o pl=>plW A.n A.go A.es o pl
 | .hand ps=>haW A.n A.g A.go A.es ps
 | .change k pl=>chW A.g A.es k pl
 | .withdraw k=>wiW A.g A.es k
def vaV (A:Sa):vL->V
 | .come=>vN A.n
 | .pledge _ _=>vN A.co
 | _=>.non
inductive DeR (n:Nat)(H:Hp)(a:Addr):vL->Prop where
 | come (h:H a=some (.tup [.str "come"])):DeR n H a .come
 | leave {o:Int} (h:H a=some (.tup [.str "leave",.int o])):DeR n H a (.leave o)
 | pledge {o:Int} {p:Addr} {pl:Pl} (h:H a=some (.tup [.str "pledge",.int o,.ref p])) (q:kE n H p pl):DeR n H a (.pledge o pl)
 | hand {r:Addr} {us:FH} {ps:DL} (h:H a=some (.tup [.str "hand",.ref r])) (hr:H r=some (.lst us)) (q:RiI H us ps) (l:ps.length<=100):DeR n H a (.hand ps)
 | change {k:Int} {p:Addr} {pl:Pl} (h:H a=some (.tup [.str "change",.int k,.ref p])) (q:kE n H p pl):DeR n H a (.change k pl)
 | withdraw {k:Int} (h:H a=some (.tup [.str "withdraw",.int k])):DeR n H a (.withdraw k)
def DeR.kp {be:Addr} {n:Nat} {H H':Hp} {a:Addr} {d:vL} (tp:∀ a ys,H a=some (HO.tup ys)->H' a=some (HO.tup ys)) (lp:∀ a ys,a≠be->H a=some (HO.lst ys)->H' a=some (HO.lst ys)) (nr:∀ r,H a=some (.tup [.str "hand",.ref r])->r≠be) (h:DeR n H a d):DeR n H' a d:=by
 cases h with
 | come h=>exact .come (tp _ _ h)
 | leave h=>exact .leave (tp _ _ h)
 | pledge h q=>exact .pledge (tp _ _ h) (q.aO tp)
 | hand h hr q l=>exact .hand (tp _ _ h) (lp _ _ (nr _ h) hr) (q.aO tp) l
 | change h q=>exact .change (tp _ _ h) (q.aO tp)
 | withdraw h=>exact .withdraw (tp _ _ h)
def DeR.sT {n:Nat}{H H':Hp}{a:Addr}{d:vL}(s:jP H H')(h:DeR n H a d):DeR n H' a d:=by
 cases h with
 | come h=>exact .come (stT s h)
 | leave h=>exact .leave (stT s h)
 | pledge h q=>exact .pledge (stT s h) (q.aO fun a xs z=>stT s z)
 | hand h hr q l=>exact .hand (stT s h) (stL s hr) (q.aO fun a xs z=>stT s z) l
 | change h q=>exact .change (stT s h) (q.aO fun a xs z=>stT s z)
 | withdraw h=>exact .withdraw (stT s h)
def DeR.same {n:Nat}{H H':Hp}{a:Addr}{d:vL}(s:aN H H')(h:DeR n H a d):DeR n H' a d:=h.sT s.t
def DeR.live {n:Nat}{H:Hp}{a:Addr}{d:vL}(h:DeR n H a d):∃ ys,H a=some (.tup ys):=by
 cases h <;> exact⟨_,by assumption⟩
structure AOk (A:Sa):Prop where
 lg:A.g.length=A.n
 n12:A.n<=12
 l40:A.es.length<=40
 eu:EsU A.n A.go A.es A.co
 gl:∀ x∈A.go,x < A.n
def Nf {n:Nat} {go:D7} {es:List Ent} {o:Int} {pl:Pl} (h:plW n go es o pl = ""):∃ i:Nat,o=i/\i < n/\i ∉ go/\es.length < 40:=by
 unfold plW at h
 by_cases z:miW n go o≠""
 ·rw[iPo z] at h
  exact absurd h z
 ·rw[iNe z] at h
  obtain⟨i,e,hi,hg⟩:=xg (Classical.not_not.mp z)
  refine⟨i,e,hi,hg,?_⟩
  by_cases y:∃ x∈pl,nn o.toNat x.2=false
  ·rw[iPo y] at h
   exact absurd h (by decide)
  ·rw[iNe y] at h
   by_cases q:40<=es.length
   ·rw[iPo q] at h
    exact absurd h (by decide)
   ·lia
def BV (es:List Ent)(k:Int)(pl:Pl):(chE es k pl).map (·.1)=es.map (·.1):=by
 unfold chE
 rw[aa5]
 refine List.map_congr_left fun e _=>?_
 show (if (e.1:Int)=k then (e.1,e.2.1,pl) else e).1=e.1
 split <;> rfl
def Nq {es:List Ent}{k:Int}{pl:Pl}{e:Ent}(h:e∈chE es k pl):∃ e'∈es,e.1=e'.1/\e.2.1=e'.2.1:=by
 obtain⟨e',he',rfl⟩:=List.mem_map.mp h
 refine⟨e',he',?_⟩
 show (if (e'.1:Int)=k then (e'.1,e'.2.1,pl) else e').1=e'.1/\(if (e'.1:Int)=k then (e'.1,e'.2.1,pl) else e').2.1=e'.2.1
 split <;> exact⟨U,U⟩
def AOk.aft {A:Sa} {d:vL} (k:AOk A) (h:reW A d = ""):AOk (A.aft d):=by
 cases d with
 | come =>
  have h12:¬ 12<=A.n:=fun z=>by
   have e:reW A .come = "full":=iPo z
   rw[e] at h
   exact absurd h (by decide)
  exact⟨by show (A.g++[0]).length=A.n+1;rw[VH,k.lg];rfl,by show A.n+1<=12;lia,k.l40,⟨k.eu.up,fun e he=>by have:=k.eu.lt e he;exact⟨this.1,WY this.2.1,this.2.2⟩⟩,fun x hx=>WY (k.gl x hx)⟩
 | leave o =>
  obtain⟨i,e,hi,hg⟩:=xg (show miW A.n A.go o = "" from h)
  have eo:o.toNat=i:=by lia
  have mem:∀ y,y∈mL (A.go++[o.toNat]) ↔ y∈A.go∨y=i:=fun y=>by rw[(fZ _).mem_iff,ZQ,XN,eo]
  refine⟨k.lg,k.n12,Wf (WT _ _) k.l40,⟨k.eu.up.sublist (List.filter_sublist.map _),fun e he=>?_⟩,fun x hx=>?_⟩
  ·have h1:=List.mem_filter.mp he
   have h2:=k.eu.lt e h1.1
   have h3:e.2.1≠o.toNat:=of_decide_eq_true h1.2
   exact⟨h2.1,h2.2.1,fun z=>((mem _).mp z).elim h2.2.2 fun y=>h3 (by lia)⟩
  ·rcases (mem x).mp hx with z | z
   ·exact k.gl x z
   ·rw[z]
    exact hi
 | pledge o pl =>
  obtain⟨i,e,hi,hg,hl⟩:=Nf (show plW A.n A.go A.es o pl = "" from h)
  have eo:o.toNat=i:=by lia
  refine⟨k.lg,k.n12,by show (A.es++[_]).length<=40;rw[VH];show A.es.length+1<=40;lia,⟨?_,fun e he=>?_⟩,k.gl⟩
  ·show (List.map _ (A.es++[(A.co,o.toNat,pl)])).Pairwise _
   rw[VD,aah]
   refine⟨k.eu.up,by simp,fun x hx y hy=>?_⟩
   obtain⟨e,he,rfl⟩:=List.mem_map.mp hx
   have hy':y=A.co:=by simpa using hy
   rw[hy']
   exact (k.eu.lt e he).1
  ·rcases List.mem_append.mp he with z | z
   ·have:=k.eu.lt e z
    exact⟨WY this.1,this.2⟩
   ·rw[List.mem_singleton.mp z]
    exact⟨Yt _,by rw[eo];exact hi,by rw[eo];exact hg⟩
 | hand ps=>exact⟨by show (seI A.g ps).length=A.n;rw[n8];exact k.lg,k.n12,k.l40,k.eu,k.gl⟩
 | change j pl =>
  refine⟨k.lg,k.n12,by show (chE A.es j pl).length<=40;unfold chE;rw[Vs];exact k.l40,⟨by show ((chE A.es j pl).map _).Pairwise _;rw[BV];exact k.eu.up,fun e he=>?_⟩,k.gl⟩
  obtain⟨e',h1,h2,h3⟩:=Nq he
  rw[h2,h3]
  exact k.eu.lt e' h1
 | withdraw j=>exact⟨k.lg,k.n12,Wf (WT _ _) k.l40,⟨k.eu.up.sublist (List.filter_sublist.map _),fun e he=>k.eu.lt e (List.mem_filter.mp he).1⟩,k.gl⟩
section
variable {n:Nat}{H:Hp}
theorem TbR.drop {k:Int}:∀ {kvs:Fu} {es:List Ent},TbR n H kvs es->TbR n H (yS kvs (WN k)) (wiE es k)
 | _,_,.nil=>.nil
 | _,_,.cons (num:=num) h q r=>by
  unfold yS wiE
  by_cases z:(num:Int)=k
  ·rw[Yi (by rw[z];simp),Yi (by rw[z];simp)]
   exact TbR.drop r
  ·rw[Yh (by exact dcT fun y=>z (abl y)),Yh (by exact dcT z)]
   exact .cons h q (TbR.drop r)
theorem TbR.put {k:Int}{t p:Addr}{one:Nat}{pl:Pl}(ht:H t=some (.tup [vN one,.ref p]))(hp:kE n H p pl):∀ {kvs:Fu} {es:List Ent},TbR n H kvs es->(∀ e∈es,(e.1:Int)=k->e.2.1=one)->TbR n H (kvs.map fun kv=>if kv.1=WN k then (kv.1,.ref t) else kv) (chE es k pl)
 | _,_,.nil,_=>.nil
 | _,_,.cons (num:=num) (one:=o2) (pl:=pl2) (es:=es) h q r,he=>by
  have ih:=TbR.put (k:=k) ht hp r fun e hm=>he e (VR _ hm)
  unfold chE at ih ⊢
  rw[WL,WL]
  by_cases z:(num:Int)=k
  ·rw[iPo (show (WN (num:Int):Key)=WN k by rw[z]),iPo (show ((num,o2,pl2):Ent).1=(k:Int) from z)]
   have eo:o2=one:=he _ VP z
   exact .cons (by rw[eo];exact ht) hp ih
  ·rw[iNe (show ¬ (WN (num:Int):Key)=WN k from fun y=>z (abl y)),iNe (show ¬ ((num,o2,pl2):Ent).1=(k:Int) from z)]
   exact .cons h q ih
def TbR.find {k:Int}{e:Ent}{kvs:Fu}{es:List Ent}(r:TbR n H kvs es)(nd:(es.map (·.1)).Nodup)(h:fnE es k=some e):∃ (t p:Addr),rZ kvs (WN k)=some (.ref t)/\H t=some (.tup [vN e.2.1,.ref p])/\kE n H p e.2.2:=by
 obtain⟨hm,hk⟩:=jW h
 obtain⟨i,hi⟩:=List.getElem?_of_mem hm
 obtain⟨t,p,h1,h2,h3⟩:=r.val nd hi
 rw[hk] at h1
 exact⟨t,p,h1,h2,h3⟩
end
abbrev kY:Stmt:=top 70
def wO:aG WC WC (aB kY):=c7
inductive w6 (vs:FH)(H:Hp)(Q:VK):Prop where
 | mk (be a ta:Addr) (one n:Nat) (g:D6) (go:D7) (es:List Ent) (co:Nat) (kv:Fu) (es':List Ent) (z0:vs=[.ref a,vN one,.ref ta]) (z1:StR be n H a g go es co) (z2:g.length=n) (z3:one < n) (z4:H ta=some (.dK kv)) (z5:TbR n H kv es') (z6:(es'.map (·.1)).Pairwise (· < ·)) (z7:es'.length<=40) (z8:∀ (c:Bool) (H':Hp),aN H H'->(c=true ↔ bdW g es' one≠"")->Q (.bl c) H'):w6  vs H Q
def BP:Sp:=fun vs H Q _=>w6  vs H Q
def wu {k:Nat} (hk:2<=k) (F:Fun K "_law_bound" "_law_bound" kY f fd) (B:Bt mg) (RO:Df P w K mg base "_law_listed" 2 XU pU) (RW:Df P w K mg base "_law_owed" k WU (vR K)):bH P w K mg base CX0 (k+1) f fd WC BP:=by
 refine okA F wO fun _ _ _ _ H _ Q E hr h=>?_
 obtain⟨be,a,ta,one,n,g,go,es,co,kv,es',rfl,hst,lg,hone,hta,tb,up,l40,q⟩:=h
 refine⟨_,(az (aD (cY lC (pxT K (pxT K (pv 0) aq) (pv 1)) (aY RW hr (aa (aY RO hr (aa (pv 2) (aa (pv 1) ao))) (aa (pxT K (pv 0) aq) ao)))))),?_⟩
 obtain⟨pa,ga,ta0,kvs,h1,h2,h3,h4,h5,h6⟩:=hst
 have hol:one < g.length:=by lia
 have gei:g.getD one 0=g[one]:=by rw[Wi,Vz hol];rfl
 refine⟨_,U,a,_,_,_,U,U,sqT h1,gt1,_,U,ga,_,_,_,U,U,sqT h3,kI hol,?_⟩
 refine⟨_,U,_,U,ta,(one:Int),n,kv,es',U,hta,tb,up,l40,fun l as H1 s1 _ e1 las ps=>?_⟩
 refine⟨_,U,a,_,_,_,U,U,sqT (s1 _ _ h1),gt1,l,ga,n,as,_,_,U,e1,by lia,ps,sqT (s1 _ _ h3),by lia,fun H2 s2=>?_⟩
 refine⟨_,_,U,U,q _ _ (s1.trans s2) ?_⟩
 rw[Rk tb.ok]
 unfold bdW
 rw[gei]
 by_cases z:mxD 0 (owL es' one g) < g[one]
 ·rw[iPo z,dcT z]
  exact⟨fun _=>by decide,fun _=>U⟩
 ·rw[iNe z,dcF z]
  exact⟨fun y=>(by cases y),fun y=>absurd rfl y⟩
abbrev fG:Stmt:=top 73
def iC:aG ["_law_state","_law_deed_here","_law_table"] WO (aB fG):=c7
def twE (es:List Ent):vL->List Ent
 | .change k pl=>chE es k pl
 | .withdraw k=>wiE es k
 | _=>es
def twK:vL->DZ
 | .change k _=>some k
 | .withdraw k=>some k
 | _=>none
inductive Bq (vs:FH)(H:Hp)(Q:VK):Prop where
 | mk (be a da:Addr) (A:Sa) (d:vL) (k:Int) (e:Ent) (z0:vs=[.ref a,.ref da]) (z1:StR be A.n H a A.g A.go A.es A.co) (z2:AOk A) (z3:DeR A.n H da d) (z4:twK d=some k) (z5:fnE A.es k=some e) (z6:∀ (ta:Addr) (kv:Fu) (H':Hp),aN H H'->H' ta=some (.dK kv)->TbR A.n H' kv (twE A.es d)->Q (.ref ta) H'):Bq  vs H Q
def zb:Sp:=fun vs H Q _=>Bq  vs H Q
def nA (F:Fun K "_law_table_with" "_law_table_with" fG f fd) (B:Bt mg) (PH:mg "dict" = none):bH P w K mg base CX0 1 f fd WO zb:=by
 refine okA F iC fun _ _ _ _ H _ Q E hr h=>?_
 obtain⟨be,a,da,S,d,k,e,rfl,hst,ok,hd,hk,hf,q⟩:=h
 refine⟨_,(au (aP (i:=2) iC.nd U (VF U) (bh (r:=yO) rm U PH Fx (aa (pxT K (pv 0) aq) ao)))
 (au (aW (aH bj (pxT K (pv 1) aq) aL) (az (zW hr.iz (pv 2) (pxT K (pv 1) aq) (aZ (aa (pxT K (jT hr.iz (pv 2) (pxT K (pv 1) aq) (fun _ _=>U)) aq) (aa (pxT K (pv 1) aq) ao))) U)) (az (bD (J6 (pv 2) (pxT K (pv 1) aq) ⟨U,U,U,U⟩))))
 (az (aD (pv 2))))),?_⟩
 obtain⟨pa,ga,ta,kvs,h1,h2,h3,h4,h5,h6⟩:=hst
 have nd:=ok.eu.nd
 have l40:=ok.l40
 have lk:=h5.length
 obtain⟨t,p0,hv,ht,hp0⟩:=h5.find nd hf
 obtain⟨hm,hek⟩:=jW hf
 refine bV (fun σ H1=>∃ tb:Addr,σ=[oR a,oR da,oR tb]/\aN H H1/\H tb=none/\H1 tb=some (.dK kvs)) ?_ ?_
 ·intro N Rc
  exact⟨_,U,a,_,_,_,U,U,sqT h1,gt2,ta,kvs,U,h4,fun tb htb=>Rc _ _ ⟨tb,U,aA htb _,htb,aj⟩⟩
 rintro σ H1 ⟨tb,rfl,s1,ftb,etb⟩
 refine eQ (fun σ H2=>∃ kv:Fu,σ=[oR a,oR da,oR tb]/\aN H H2/\H2 tb=some (.dK kv)/\TbR S.n H2 kv (twE S.es d)) ?q1 ?t1
 case q1 =>
  rintro σ H2 ⟨kv,rfl,s2,e2,r2⟩
  exact⟨_,U,q tb kv H2 s2 e2 r2⟩
 case t1 =>
 intro N Rc
 cases hd with
 | come h=>cases hk
 | leave h=>cases hk
 | pledge h _=>cases hk
 | hand h _ _ _=>cases hk
 | change hda hp =>
  rename_i k' p pl
  obtain rfl:k'=k:=Wo hk
  refine⟨_,U,da,_,_,_,U,U,sqT (s1 _ _ hda),gt0,U,_,U,?_⟩
  rw[show decide (V.str "change" = V.str "change")=true from dcT U]
  have dg:rA H1 tb (.int k') (some (.ref t)):=by
   rw[← hv]
   exact rA.k (k:=WN k') etb
  refine cW ⟨_,U,_,U,da,_,_,_,U,U,sqT (s1 _ _ hda),gt1,tb,_,U,dg,t,_,_,_,U,U,sqT (s1 _ _ ht),gt0,_,U,da,_,_,_,U,U,sqT (s1 _ _ hda),gt2,smN 2,fun t2 ht2=>?_⟩
  have sn:=aA ht2 (.tup [vN e.2.1,.ref p])
  have etb':=sn _ _ etb
  have ntt:tb≠t2:=fun z=>by rw[z,ht2] at etb;cases etb
  have tk:∀ b ys,upd H1 t2 (.tup [vN e.2.1,.ref p]) b=some (HO.tup ys)->upd (upd H1 t2 (.tup [vN e.2.1,.ref p])) tb (.dK (putK kvs (WN k') (.ref t2))) b=some (HO.tup ys):=fun b ys hb=>by rw[aM fun y=>by rw[y,etb'] at hb;cases hb];exact hb
  have eput:putK kvs (WN k') (.ref t2)=kvs.map fun kv=>if kv.1=WN k' then (kv.1,.ref t2) else kv:=by
   unfold putK
   rw[iPo (by rw[pR,hv];rfl)]
  refine⟨_,U,_,U,da,_,_,_,U,U,sqT (sn _ _ (s1 _ _ hda)),gt1,tb,_,U,Og.k (k:=WN k') etb' (Vx (show kvs.length < 1000 by lia) (by decide)),Rc _ _ ⟨_,U,aV (s1.trans sn) ftb _,aj,?_⟩⟩
  have mono:∀ b ys,H b=some (HO.tup ys)->upd (upd H1 t2 (.tup [vN e.2.1,.ref p])) tb (.dK (putK kvs (WN k') (.ref t2))) b=some (HO.tup ys):=fun b ys hb=>tk _ _ (sn _ _ (s1 _ _ hb))
  have r1:TbR S.n (upd (upd H1 t2 (.tup [vN e.2.1,.ref p])) tb (.dK (putK kvs (WN k') (.ref t2)))) kvs S.es:=h5.aO mono
  rw[eput] at r1 mono tk ⊢
  exact TbR.put (k:=k') (tk _ _ aj) (hp.aO mono) r1 fun e' he' z=>by rw[GC nd he' hm (by lia)]
 | withdraw hda =>
  rename_i k'
  obtain rfl:k'=k:=Wo hk
  refine⟨_,U,da,_,_,_,U,U,sqT (s1 _ _ hda),gt0,U,_,U,?_⟩
  rw[show decide (V.str "withdraw" = V.str "change")=false from dcF bz]
  refine bZ ⟨_,U,tb,U,?_,_,U,da,_,_,_,U,U,sqT (s1 _ _ hda),gt1,kvs,WN k',_,etb,U,hv,Rc _ _ ⟨_,U,aV s1 ftb _,aj,?_⟩⟩
  ·exact .inl ⟨kvs,.inl etb⟩
  ·refine TbR.drop (h5.aO fun b ys hb=>?_)
   have hb1:=s1 _ _ hb
   rw[aM fun y=>by rw[y,etb] at hb1;cases hb1]
   exact hb1
def nNx {N:St->Hp->Prop}{r:V->Hp->Prop}{σ:St}{H:Hp}(h:N σ H):Ni { nx:=N,rt:=r } σ H:=h
abbrev iZ:Stmt:=top 74
def gO:aG ["_law_state","_law_deed_here","_law_word_here","_law_one"] WO (aB iZ):=c7
inductive uf (vs:FH)(H:Hp)(Q:VK):Prop where
 | mk (be a da:Addr) (A:Sa) (d:vL) (z0:vs=[.ref a,.ref da]) (z1:StR be A.n H a A.g A.go A.es A.co) (z2:AOk A) (z3:DeR A.n H da d) (z4:∀ H',aN H H'->Q (.str (reW A d)) H'):uf  vs H Q
def xH:Sp:=fun vs H Q _=>uf  vs H Q
def sZ {k:Nat} (hk:5<=k) (F:Fun K "_law_refusal" "_law_refusal" iZ f fd) (B:Bt mg) (RS:Df P w K mg base "_law_missing" 1 XT qO) (Rw:Df P w K mg base "_law_good" 5 VZ M7)
  (Si:Df P w K mg base "_law_rises_refusal" k WJ uK) (QU:Df P w K mg base "_law_bound" k WC BP) (Sn:Df P w K mg base "_law_table_with" 1 WO zb):bH P w K mg base CX0 (k+1) f fd WO xH:=by
 refine okA F gO fun _ _ _ _ H _ Q E hr h=>?_
 obtain⟨be,a,da,S,d,rfl,hst,ok,hd,q⟩:=h
 refine⟨_,(au (aW (aH bj (pxT K (pv 1) aq) aL) (az (aD (ni (aH lJ (aF (r:=iR K) aU U B.len_ bJ (aa (pxT K (pv 0) aq) ao)) aq) aL aL))) aC)
 (au (aW (aH bj (pxT K (pv 1) aq) aL) (az (aD (aY Si hr (aa (pv 0) (aa (pxT K (pv 1) aq) ao))))) aC)
 (au (aW (fU (r:=rIn K false) dY (pxT K (pv 1) aq) (aZ (aa aL (aa aL ao))) U) (au (aP (i:=2) gO.nd U (VF U) (aY RS hr (aa (pv 0) (aa (pxT K (pv 1) aq) ao))))
 (au (aW (PW.pt (kO (aH bj (pv 2) aL) (gP (aH bj (pxT K (pv 1) aq) aL)))) (au (aW (dR (cI (aY Rw hr (aa (pv 0) (aa (pxT K (pv 1) aq) (aa (pxT K (pv 1) aq) ao)))))) (az (aD aL)) aC)
 (az (aD (ni (aH lJ (aF (r:=Rb) Dj U B.len_ bJ (aa (pxT K (pv 0) aq) ao)) aq) aL aL)))) aC)
 (az (aD (pv 2))))) aC)
 (au (aW (Ji (Hj hr.iz (pxT K (pv 1) aq) (pxT K (pv 0) aq))) (az (aD aL)) aC)
 (au (aP (i:=3) gO.nd U (VF U) (pxT K (jT hr.iz (pxT K (pv 0) aq) (pxT K (pv 1) aq) (fun _ _=>U)) aq))
 (au (aW (PW.pt (kO (aH bj (pxT K (pv 1) aq) aL) (gP (dR (cI (aY Rw hr (aa (pv 0) (aa (pv 3) (aa (pxT K (pv 1) aq) ao))))))))) (az (aD aL)) aC)
 (az (aD (ni (cI (aY QU hr (aa (pv 0) (aa (pv 3) (aa (aY Sn hr (aa (pv 0) (aa (pv 1) ao))) ao))))) aL aL))))))))),?_⟩
 obtain⟨pa,ga,ta,kvs,h1,h2,h3,h4,h5,h6⟩:=id hst
 cases hd with
 | come hda =>
  refine⟨_,U,da,_,_,_,U,U,sqT hda,gt0,U,_,U,gR U ?_⟩
  refine⟨_,U,a,_,_,_,U,U,sqT h1,gt0,pa,_,U,.inl (sqL h2),_,_,U,U,_,U,?_⟩
  rw[cP]
  have qq:=q H (aN.refl H)
  by_cases z:12<=S.n
  ·rw[dcT (by lia)]
   rw[show reW S .come = "full" from iPo z] at qq
   exact cW qq
  ·rw[dcF (by lia)]
   rw[show reW S .come = "" from iNe z] at qq
   exact bZ qq
 | leave hda =>
  rename_i o
  refine⟨_,U,da,_,_,_,U,U,sqT hda,gt0,U,_,U,bu bz (nN ?_)⟩
  refine⟨_,U,da,_,_,_,U,U,sqT hda,gt0,U,_,U,bu bz (nN ?_)⟩
  refine⟨_,U,da,_,_,_,U,U,sqT hda,gt0,smN 2,fun p1 hp1=>?_⟩
  have sn:=aA hp1 (.tup [.str "leave",.str "pledge"])
  refine⟨p1,_,U,.inr (sqT aj),U,U,_,U,JR (by decide+kernel) ?_⟩
  refine bV (fun σ H1=>σ=[oR a,oR da,some (.str (miW S.n S.go o)),none]/\H1=upd H p1 (.tup [.str "leave",.str "pledge"])) ?_ ?_
  ·intro N Rc
   exact⟨_,U,_,U,da,_,_,_,U,U,sqT (sn _ _ hda),gt1,be,a,o,S.n,S.g,S.go,S.es,S.co,U,hst.same sn,Rc _ _ ⟨U,U⟩⟩
  rintro σ H1 ⟨rfl,rfl⟩
  refine eQ (fun σ H1=>σ=[oR a,oR da,some (.str (miW S.n S.go o)),none]/\H1=upd H p1 (.tup [.str "leave",.str "pledge"])) (fun σ H1 z=>by obtain⟨rfl,rfl⟩:=z;exact⟨_,U,q _ sn⟩) fun N Rc=>?_
  refine mz (fun c H1=>c=false/\H1=upd H p1 (.tup [.str "leave",.str "pledge"])) (fun Q' Rq=>?_) (fun H1 z=>by cases z.1) (fun H1 z=>by obtain⟨-,rfl⟩:=z;exact Rc _ _ ⟨U,U⟩)
  refine⟨_,U,U,_,U,?_⟩
  refine jE (fun _=>?_) (fun z=>Rq _ _ ⟨U,U⟩)
  refine⟨_,U,da,_,_,_,U,U,sqT (sn _ _ hda),gt0,U,_,U,?_⟩
  rw[show decide (V.str "leave" = V.str "pledge")=false from dcF bz]
  exact Rq _ _ ⟨U,U⟩
 | pledge hda hp =>
  rename_i o p pl
  refine⟨_,U,da,_,_,_,U,U,sqT hda,gt0,U,_,U,bu bz (nN ?_)⟩
  refine⟨_,U,da,_,_,_,U,U,sqT hda,gt0,U,_,U,bu bz (nN ?_)⟩
  refine⟨_,U,da,_,_,_,U,U,sqT hda,gt0,smN 2,fun p1 hp1=>?_⟩
  have sn:=aA hp1 (.tup [.str "leave",.str "pledge"])
  refine⟨p1,_,U,.inr (sqT aj),U,U,_,U,JR (by decide+kernel) ?_⟩
  refine eQ (fun σ H1=>σ=[oR a,oR da,some (.str (miW S.n S.go o)),none]/\H1=upd H p1 (.tup [.str "leave",.str "pledge"])) ?qP0 ?tP0
  case tP0 =>
   intro N Rc
   exact⟨_,U,_,U,da,_,_,_,U,U,sqT (sn _ _ hda),gt1,be,a,o,S.n,S.g,S.go,S.es,S.co,U,hst.same sn,Rc _ _ ⟨U,U⟩⟩
  case qP0 =>
  rintro σ H1 ⟨rfl,rfl⟩
  refine eQ (fun σ H1=>σ=[oR a,oR da,some (.str (miW S.n S.go o)),none]/\H1=upd H p1 (.tup [.str "leave",.str "pledge"])/\¬ miW S.n S.go o = "") ?qP1 ?tP1
  case qP1 =>
   rintro σ H1 ⟨rfl,rfl,z⟩
   have e:reW S (.pledge o pl)=miW S.n S.go o:=by
    show plW _ _ _ _ _=_
    unfold plW
    rw[iPo z]
   rw[e] at q
   exact⟨_,U,q _ sn⟩
  case tP1 =>
  intro N Rc
  refine mz (fun c H1=>H1=upd H p1 (.tup [.str "leave",.str "pledge"])/\c=decide (miW S.n S.go o = "")) (fun Q' Rq=>?_) ?pl (fun H1 z=>by obtain⟨rfl,y⟩:=z;exact Rc _ _ ⟨U,U,of_decide_eq_false y.symm⟩)
  ·refine⟨_,U,U,_,U,?_⟩
   by_cases z:miW S.n S.go o = ""
   ·rw[show decide (V.str (miW S.n S.go o)=V.str "")=true from dcT (by rw[z])]
    refine cW ⟨_,U,da,_,_,_,U,U,sqT (sn _ _ hda),gt0,U,_,U,?_⟩
    rw[show decide (V.str "pledge" = V.str "pledge")=true from dcT U]
    exact Rq _ _ ⟨U,(dcT z).symm⟩
   ·rw[show decide (V.str (miW S.n S.go o)=V.str "")=false from dcF (tV z)]
    exact bZ (Rq _ _ ⟨U,(dcF z).symm⟩)
  case pl =>
   rintro H1 ⟨rfl,z⟩
   have z:=of_decide_eq_true z.symm
   obtain⟨i,rfl,hi,hg⟩:=xg z
   have e0:reW S (.pledge (i:Int) pl)=if ∃ x∈pl,nn i x.2=false then ("bad pledge" : Wb) else if 40<=S.es.length then "full" else "":=by
    show plW _ _ _ _ _=_
    unfold plW
    rw[z,iNe (fun y=>y U),Wg]
   rw[e0] at q
   have n12:=ok.n12
   refine bV (fun σ H2=>σ=[oR a,oR da,some (.str (miW S.n S.go (i:Int))),none]/\aN H H2/\¬ ∃ x∈pl,nn i x.2=false) ?_ ?_
   ·intro N Rc
    refine⟨_,U,_,U,da,_,_,_,U,U,sqT (sn _ _ hda),gt1,_,U,da,_,_,_,U,U,sqT (sn _ _ hda),gt2,be,a,p,i,S.n,S.g,S.go,S.es,S.co,pl,U,hst.same sn,hp.mono sn,by lia,n12,fun y H2 s2=>?_,fun y H2 s2=>?_⟩
    ·refine⟨false,U,?_⟩
     show if (!false)=true then _ else _
     rw[iPo y] at q
     exact cW (q _ (sn.trans s2))
    ·refine⟨true,U,?_⟩
     show if (!true)=true then _ else _
     exact bZ (Rc _ _ ⟨U,sn.trans s2,y⟩)
   rintro σ H2 ⟨rfl,s2,hn⟩
   rw[iNe hn] at q
   refine⟨_,U,a,_,_,_,U,U,sqT (s2 _ _ h1),gt2,ta,kvs,U,s2 _ _ h4,_,_,U,U,_,U,?_⟩
   rw[h5.length]
   by_cases y:40<=S.es.length
   ·rw[dcT (by lia)]
    rw[iPo y] at q
    exact cW (q _ s2)
   ·rw[dcF (by lia)]
    rw[iNe y] at q
    exact bZ (q _ s2)
 | hand hda hr' hri lp =>
  rename_i r us ps
  refine⟨_,U,da,_,_,_,U,U,sqT hda,gt0,U,_,U,bu bz (nN ?_)⟩
  refine⟨_,U,da,_,_,_,U,U,sqT hda,gt0,U,_,U,gR U ?_⟩
  exact⟨_,U,_,U,da,_,_,_,U,U,sqT hda,gt1,be,a,r,S.n,S.g,S.go,S.es,S.co,us,ps,U,hst,ok.lg,ok.eu,ok.l40,hr',hri,lp,q⟩
 | change hda hp =>
  rename_i k' p pl
  refine⟨_,U,da,_,_,_,U,U,sqT hda,gt0,U,_,U,bu bz (nN ?_)⟩
  refine⟨_,U,da,_,_,_,U,U,sqT hda,gt0,U,_,U,bu bz (nN ?_)⟩
  refine⟨_,U,da,_,_,_,U,U,sqT hda,gt0,smN 2,fun p1 hp1=>?_⟩
  have sn:=aA hp1 (.tup [.str "leave",.str "pledge"])
  refine⟨p1,_,U,.inr (sqT aj),U,U,_,U,j8 (by decide+kernel) (nN ?_)⟩
  generalize eH1:upd H p1 _=H1 at sn ⊢
  have ew:reW S (.change k' pl)=chW S.g S.es k' pl:=rfl
  rw[ew] at q
  have dg:∀ (o:FC),rZ kvs (WN k')=o->rA H1 ta (.int k') o:=fun o ho=>by
   rw[← ho]
   exact rA.k (k:=WN k') (sn _ _ h4)
  cases hf:fnE S.es k' with
  | none =>
   have e0:chW S.g S.es k' pl = "no pledge":=by unfold chW;rw[hf]
   rw[e0] at q
   exact⟨_,U,da,_,_,_,U,U,sqT (sn _ _ hda),gt1,_,U,a,_,_,_,U,U,sqT (sn _ _ h1),gt2,ta,none,U,dg none (h5.none (uO hf)),_,U,cW (q _ sn)⟩
  | some e =>
   obtain⟨t,p0,hv,ht,hp0⟩:=h5.find ok.eu.nd hf
   obtain⟨hm,hek⟩:=jW hf
   have hlt:=ok.eu.lt e hm
   have n12:=ok.n12
   refine⟨_,U,da,_,_,_,U,U,sqT (sn _ _ hda),gt1,_,U,a,_,_,_,U,U,sqT (sn _ _ h1),gt2,ta,some (.ref t),U,dg _ hv,_,U,bZ (nNx ?_)⟩
   refine bV (fun σ H2=>σ=[oR a,oR da,none,some (vN e.2.1)]/\H2=H1) ?_ ?_
   ·intro N Rc
    exact⟨_,U,a,_,_,_,U,U,sqT (sn _ _ h1),gt2,_,U,da,_,_,_,U,U,sqT (sn _ _ hda),gt1,ta,_,U,dg _ hv,t,_,_,_,U,U,sqT (sn _ _ ht),gt0,Rc _ _ ⟨U,U⟩⟩
   rintro σ H2 ⟨rfl,rfl⟩
   have e0:chW S.g S.es k' pl=if ∃ x∈pl,nn e.2.1 x.2=false then ("bad pledge" : Wb) else bdW S.g (chE S.es k' pl) e.2.1:=by unfold chW;rw[hf]
   rw[e0] at q
   refine bV (fun σ H3=>σ=[oR a,oR da,none,some (vN e.2.1)]/\aN H2 H3/\¬ ∃ x∈pl,nn e.2.1 x.2=false) ?_ ?_
   ·intro N Rc
    refine⟨_,U,da,_,_,_,U,U,sqT (sn _ _ hda),gt0,U,_,U,gR U ?_⟩
    refine⟨_,U,_,U,_,U,da,_,_,_,U,U,sqT (sn _ _ hda),gt2,be,a,p,(e.2.1:Nat),S.n,S.g,S.go,S.es,S.co,pl,U,hst.same sn,hp.mono sn,by lia,n12,fun y H3 s3=>?_,fun y H3 s3=>?_⟩
    ·refine⟨false,U,?_⟩
     show if (!false)=true then _ else _
     rw[iPo y] at q
     exact cW (q _ (sn.trans s3))
    ·refine⟨true,U,?_⟩
     show if (!true)=true then _ else _
     exact bZ (Rc _ _ ⟨U,s3,y⟩)
   rintro σ H3 ⟨rfl,s3,hn⟩
   rw[iNe hn] at q
   have s03:=sn.trans s3
   refine⟨_,U,_,U,_,U,_,U,be,a,da,S,(.change k' pl),k',e,U,hst.same s03,ok,.change (s03 _ _ hda) (hp.mono s03),U,hf,fun tb kv H4 s4 e4 r4=>?_⟩
   refine⟨be,a,tb,e.2.1,S.n,S.g,S.go,S.es,S.co,kv,_,U,hst.same (s03.trans s4),ok.lg,hlt.2.1,e4,r4,?_,?_,fun c H5 s5 hc=>⟨c,U,?_⟩⟩
   ·show ((chE S.es k' pl).map _).Pairwise _
    rw[BV]
    exact ok.eu.up
   ·show (chE S.es k' pl).length<=40
    unfold chE
    rw[Vs]
    exact ok.l40
   ·have hb:bdW S.g (chE S.es k' pl) e.2.1=if mxD 0 (owL (chE S.es k' pl) e.2.1 S.g) < S.g.getD e.2.1 0 then ("bound" : Wb) else "":=rfl
    by_cases y:mxD 0 (owL (chE S.es k' pl) e.2.1 S.g) < S.g.getD e.2.1 0
    ·rw[iPo y] at hb
     rw[hb] at q
     have:c=true:=hc.mpr (by show bdW S.g (chE S.es k' pl) e.2.1≠"";rw[hb];decide)
     rw[this]
     exact cW (q _ (s03.trans (s4.trans s5)))
    ·rw[iNe y] at hb
     rw[hb] at q
     have:c=false:=by
      cases c with
      | false=>rfl
      | true=>exact absurd hb (hc.mp U)
     rw[this]
     exact bZ (q _ (s03.trans (s4.trans s5)))
 | withdraw hda =>
  rename_i k'
  refine⟨_,U,da,_,_,_,U,U,sqT hda,gt0,U,_,U,bu bz (nN ?_)⟩
  refine⟨_,U,da,_,_,_,U,U,sqT hda,gt0,U,_,U,bu bz (nN ?_)⟩
  refine⟨_,U,da,_,_,_,U,U,sqT hda,gt0,smN 2,fun p1 hp1=>?_⟩
  have sn:=aA hp1 (.tup [.str "leave",.str "pledge"])
  refine⟨p1,_,U,.inr (sqT aj),U,U,_,U,j8 (by decide+kernel) (nN ?_)⟩
  generalize eH1:upd H p1 _=H1 at sn ⊢
  have ew:reW S (.withdraw k')=wiW S.g S.es k':=rfl
  rw[ew] at q
  have dg:∀ (o:FC),rZ kvs (WN k')=o->rA H1 ta (.int k') o:=fun o ho=>by
   rw[← ho]
   exact rA.k (k:=WN k') (sn _ _ h4)
  cases hf:fnE S.es k' with
  | none =>
   have e0:wiW S.g S.es k' = "no pledge":=by unfold wiW;rw[hf]
   rw[e0] at q
   exact⟨_,U,da,_,_,_,U,U,sqT (sn _ _ hda),gt1,_,U,a,_,_,_,U,U,sqT (sn _ _ h1),gt2,ta,none,U,dg none (h5.none (uO hf)),_,U,cW (q _ sn)⟩
  | some e =>
   obtain⟨t,p0,hv,ht,hp0⟩:=h5.find ok.eu.nd hf
   obtain⟨hm,hek⟩:=jW hf
   have hlt:=ok.eu.lt e hm
   have n12:=ok.n12
   refine⟨_,U,da,_,_,_,U,U,sqT (sn _ _ hda),gt1,_,U,a,_,_,_,U,U,sqT (sn _ _ h1),gt2,ta,some (.ref t),U,dg _ hv,_,U,bZ (nNx ?_)⟩
   refine bV (fun σ H2=>σ=[oR a,oR da,none,some (vN e.2.1)]/\H2=H1) ?_ ?_
   ·intro N Rc
    exact⟨_,U,a,_,_,_,U,U,sqT (sn _ _ h1),gt2,_,U,da,_,_,_,U,U,sqT (sn _ _ hda),gt1,ta,_,U,dg _ hv,t,_,_,_,U,U,sqT (sn _ _ ht),gt0,Rc _ _ ⟨U,U⟩⟩
   rintro σ H2 ⟨rfl,rfl⟩
   have e0:wiW S.g S.es k'=bdW S.g (wiE S.es k') e.2.1:=by unfold wiW;rw[hf]
   rw[e0] at q
   refine bV (fun σ H3=>σ=[oR a,oR da,none,some (vN e.2.1)]/\aN H2 H3) ?_ ?_
   ·intro N Rc
    refine⟨_,U,da,_,_,_,U,U,sqT (sn _ _ hda),gt0,U,_,U,?_⟩
    rw[show decide (V.str "withdraw" = V.str "change")=false from dcF bz]
    exact bZ (bZ (Rc _ _ ⟨U,aN.refl _⟩))
   rintro σ H3 ⟨rfl,s3⟩
   have s03:=sn.trans s3
   refine⟨_,U,_,U,_,U,_,U,be,a,da,S,(.withdraw k'),k',e,U,hst.same s03,ok,.withdraw (s03 _ _ hda),U,hf,fun tb kv H4 s4 e4 r4=>?_⟩
   refine⟨be,a,tb,e.2.1,S.n,S.g,S.go,S.es,S.co,kv,_,U,hst.same (s03.trans s4),ok.lg,hlt.2.1,e4,r4,?_,?_,fun c H5 s5 hc=>⟨c,U,?_⟩⟩
   ·exact ok.eu.up.sublist (List.filter_sublist.map _)
   ·exact Wf (WT _ _) ok.l40
   ·have hb:bdW S.g (wiE S.es k') e.2.1=if mxD 0 (owL (wiE S.es k') e.2.1 S.g) < S.g.getD e.2.1 0 then ("bound" : Wb) else "":=rfl
    by_cases y:mxD 0 (owL (wiE S.es k') e.2.1 S.g) < S.g.getD e.2.1 0
    ·rw[iPo y] at hb
     rw[hb] at q
     have:c=true:=hc.mpr (by show bdW S.g (wiE S.es k') e.2.1≠"";rw[hb];decide)
     rw[this]
     exact cW (q _ (s03.trans (s4.trans s5)))
    ·rw[iNe y] at hb
     rw[hb] at q
     have:c=false:=by
      cases c with
      | false=>rfl
      | true=>exact absurd hb (hc.mp U)
     rw[this]
     exact bZ (q _ (s03.trans (s4.trans s5)))
abbrev mC:Stmt:=top 75
def cM:aG ["_law_state","_law_deed_here","_law_present","_law_green_there","_law_table","_law_coming_number","_law_left","_law_some","_law_number"] WO (aB mC):=c7
inductive Ck (vs:FH)(H:Hp)(Q:VK):Prop where
 | mk (be a da:Addr) (A:Sa) (d:vL) (o:HO) (z0:vs=[.ref a,.ref da]) (z1:StR be A.n H a A.g A.go A.es A.co) (z2:H be=some o) (z3:AOk A) (z4:DeR A.n H da d) (z5:reW A d = "") (z6:∀ (a':Addr) (H':Hp),aN H H'->StR be (A.aft d).n H' a' (A.aft d).g (A.aft d).go (A.aft d).es (A.aft d).co->Q (.ref a') H'):Ck  vs H Q
def zL:Sp:=fun vs H Q _=>Ck  vs H Q
def Lh {n:Nat}{go:D7}(h:∀ x∈go,x < n):prF (n+1) go=prF n go++[.bl true]:=by
 unfold prF
 rw[abb,VD]
 congr 1
 show[V.bl (decide (n ∉ go))]=_
 rw[dcT (show n ∉ go from fun z=>WK _ (h n z))]
theorem FJ {n:Nat} {g:D6} {go:D7}:∀ {ps:DL} {seen:D7},riW n g go seen ps = ""->∀ x∈ps,∃ j:Nat,x.1=j/\j < n
 | [],_,_,x,hx=>by cases hx
 | y::r,seen,h,x,hx=>by
  rw[riW] at h
  by_cases z:miW n go y.1≠""
  ·rw[iPo z] at h
   exact absurd h z
  ·rw[iNe z] at h
   split at h
   ·exact absurd h (by decide)
   ·rcases List.mem_cons.mp hx with e | e
    ·obtain⟨j,ej,hj,_⟩:=xg (Classical.not_not.mp z)
     rw[e]
     exact⟨j,ej,hj⟩
    ·exact FJ h x e
def O3 {n:Nat} {g:D6} {go:D7} {es:List Ent} {ps:DL} (h:haW n g go es ps = ""):∀ x∈ps,∃ j:Nat,x.1=j/\j < n:=by
 unfold haW at h
 by_cases z:ps=[]
 ·rw[iPo z] at h
  exact absurd h (by decide)
 ·rw[iNe z] at h
  by_cases y:riW n g go [] ps≠""
  ·rw[iPo y] at h
   exact absurd h y
  ·exact FJ (Classical.not_not.mp y)
def v8 (F:Fun K "_law_after" "_law_after" mC f fd) (B:Bt mg) (PH:mg "dict" = none) (RE:Df P w K mg base "_law_green" 1 WJ vG) (Sn:Df P w K mg base "_law_table_with" 1 WO zb):bH P w K mg base CX0 2 f fd WO zL:=by
 refine okA F cM fun _ _ _ _ H _ Q E hr h=>?_
 obtain⟨be,a,da,S,d,ob,rfl,hst,hbe,ok,hd,hw,q⟩:=h
 refine⟨_,(au (xN (pv 0) (d8 (K:=K) 4 U U (bf (aJ (i:=2) cM.nd U (aaC U)) (bf (aJ (i:=3) cM.nd U (VF U)) (bf (aJ (i:=4) cM.nd U (VF U)) (bf (aJ (i:=5) cM.nd U (VF U)) eG))))))
 (au (aW (aH bj (pxT K (pv 1) aq) aL) (az (aD (aZ (aa (aR kh (pv 2) (bA (aa fK ao))) (aa (aR (r:=iB K) gM (pv 3) (aZ (aa aq ao))) (aa (pv 4) (aa (pv 5) ao))))))) aC)
 (au (aW (aH bj (pxT K (pv 1) aq) aL) (au (lX (L:=["_law_at"]) (F:=["_law_present","_law_deed_here"]) (cap:=[2,1]) (j:=6) cM.nd U (VF U) U (bF U U (by kernel_rfl)) (bW U B.range_ (aa (aF (r:=iR K) aU U B.len_ bJ (aa (pv 2) ao)) ao)) (fun _ _ _ _ _=>(aJ (i:=0) (bw (by decide+kernel)) U (VF U))) (fun _ _ _ _ _=>cQ) (fun _ _ _ _ _=>(eX (pxL K (pv 1) (pv 0)) (jz (cY sI (pv 0) (pxT K (pv 2) aq))))))
 (au (aP (i:=7) cM.nd U (VF U) Cr)
 (au (cV Wq U (dC (aF (r:=xU) (j6 U) U B.sorted_ (by decide+kernel) (aa (pv 4) ao))) (aJ (i:=8) cM.nd U (VF U)) (az (aW (aH sI (pxT K (jT hr.iz (pv 4) (pv 8) (fun _ _=>U)) aq) (pxT K (pv 1) aq)) (az (zW hr.iz (pv 7) (pv 8) (jT hr.iz (pv 4) (pv 8) (fun _ _=>U)) U)) aC)))
 (az (aD (aZ (aa (pv 6) (aa (pv 3) (aa (pv 7) (aa (pv 5) ao)))))))))) aC)
 (au (aW (aH bj (pxT K (pv 1) aq) aL) (au (aP (i:=7) cM.nd U (VF U) (bh (r:=yO) rm U PH Fx (aa (pv 4) ao)))
 (au (zW hr.iz (pv 7) (pv 5) (aZ (aa (pxT K (pv 1) aq) (aa (pxT K (pv 1) aq) ao))) U)
 (az (aD (aZ (aa (pv 2) (aa (pv 3) (aa (pv 7) (aa (aR bR (pv 5) aq) ao))))))))) aC)
 (au (aW (aH bj (pxT K (pv 1) aq) aL) (az (aD (aZ (aa (pv 2) (aa (aY RE hr (aa (pv 0) (aa (pxT K (pv 1) aq) ao))) (aa (pv 4) (aa (pv 5) ao))))))) aC)
 (az (aD (aZ (aa (pv 2) (aa (pv 3) (aa (aY Sn hr (aa (pv 0) (aa (pv 1) ao))) (aa (pv 5) ao)))))))))))),?_⟩
 obtain⟨pa,ga,ta,kvs,h1,h2,h3,h4,h5,h6⟩:=id hst
 have new:∀ {H1:Hp} {l:Addr},aN H H1->H1 l=none->l≠be:=fun s hl z=>by rw[z,s _ _ hbe] at hl;cases hl
 have l40:=ok.l40
 refine bV (fun σ H1=>σ=[oR a,oR da,oR pa,oR ga,oR ta,some (vN S.co),none,none,none]/\H1=H) ?_ ?_
 ·intro N Rc
  exact⟨_,U,a,_,U,sqT h1,U,_,_,U,_,_,U,_,_,U,_,_,U,U,Rc _ _ ⟨U,U⟩⟩
 rintro σ H1 ⟨rfl,rfl⟩
 cases hd with
 | come hda =>
  refine⟨_,U,da,_,_,_,U,U,sqT hda,gt0,U,_,U,gR U ?_⟩
  refine⟨_,U,smN 1,fun p1 hp1=>?_⟩
  generalize eF1:upd H1 p1 _=F1
  obtain⟨gf1,ef1⟩:=aK eF1 hp1
  have n12:=ok.n12
  have lg:=ok.lg
  refine⟨pa,p1,_,_,U,U,gf1 _ _ h2,ef1,small (by rw[cP];show S.n+1<=1000;lia),fun p2 hp2=>?_⟩
  generalize eF2:upd F1 p2 _=F2
  obtain⟨gf2,ef2⟩:=aK eF2 hp2
  rw[← Lh ok.gl] at ef2
  refine⟨_,U,smN 1,fun p3 hp3=>?_⟩
  generalize eF3:upd F2 p3 _=F3
  obtain⟨gf3,ef3⟩:=aK eF3 hp3
  have s13:=gf1.trans (gf2.trans gf3)
  refine RD (s13 _ _ h3) ef3 (by rw[Vs];show S.g.length+1<=1000;lia) fun p4 F4 s4 e4=>?_
  refine⟨_,U,_,U,smN 4,fun p5 hp5=>?_⟩
  generalize eF5:upd F4 p5 _=F5
  obtain⟨gf5,ef5⟩:=aK eF5 hp5
  have s15:=s13.trans (s4.trans gf5)
  refine q p5 F5 s15 ⟨p2,p4,ta,kvs,ef5,(gf3.trans (s4.trans gf5)) _ _ ef2,gf5 _ _ (e4.trans (by show _=some (HO.tup ((S.g++[0]).map V.int));rw[VD];rfl)),s15 _ _ h4,(h5.aO fun a xs z=>s15 _ _ z).le (Xq _),new gf1 hp2⟩
 | leave hda =>
  rename_i o
  obtain⟨i,rfl,hi,hg⟩:=xg (show miW S.n S.go o = "" from hw)
  refine⟨_,U,da,_,_,_,U,U,sqT hda,gt0,U,_,U,bu bz (nN ?_)⟩
  refine⟨_,U,da,_,_,_,U,U,sqT hda,gt0,U,_,U,gR U ?_⟩
  refine ?_
  have n12:=ok.n12
  refine bV (fun σ H2=>∃ pl:Addr,σ=[oR a,oR da,oR pa,oR ga,oR ta,some (vN S.co),oR pl,none,none]/\aN H1 H2/\H1 pl=none/\H2 pl=some (.lst (prF S.n (mL (S.go++[i]))))) ?_ ?_
  ·intro N Rc
   refine⟨_,U,pa,_,U,.inl (sqL h2),_,U,by rw[cP];lia,by rw[cP];lia,fun D hD=>cT (lo:=0) (n:=(((prF S.n S.go).length:Nat):Int).toNat) (fun j zs σ' H2=>(∃ u,σ'=[u,oR pa,oR da])/\aN H1 H2/\H2 D=some (.lst zs)/\zs=prF j (mL (S.go++[i])))
    ⟨⟨_,U⟩,aA hD _,aj,U⟩ (fun j zs σ' H2 _ h=>h.2.2.1) ?_ ?_⟩
   ·rintro j zs σ' H2 hj ⟨⟨u,rfl⟩,sm,eD,rfl⟩
    rw[cP] at hj
    have hj':j < S.n:=by lia
    rw[Xw]
    have nx:prF (j+1) (mL (S.go++[i]))=prF j (mL (S.go++[i]))++[.bl (decide (j ∉ S.go) && decide (j≠i))]:=by
     unfold prF
     rw[abb,VD]
     congr 1
     show[V.bl (decide (j ∉ mL (S.go++[i])))]=_
     rw[← acA]
     congr 2
     refine decide_eq_decide.mpr ?_
     rw[(fZ _).mem_iff,ZQ,XN]
     exact⟨fun h=>⟨fun z=>h (.inl z),fun z=>h (.inr z)⟩,fun h z=>z.elim h.1 h.2⟩
    refine gT ?_
    refine⟨_,U,_,U,pa,_,_,.bl (decide (j ∉ S.go)),U,U,sqL (sm _ _ h2),dh (Ia hj'),?_⟩
    have fin:∀ c:Bool,c=(decide (j ∉ S.go) && decide (j≠i))->H2 D=some (.lst (prF j (mL (S.go++[i]))))/\(prF j (mL (S.go++[i]))).length < sizeLine/\(∃ u:FC,[some (V.int (j:Int)),some (V.ref pa),some (V.ref da)]=[u,some (V.ref pa),some (V.ref da)])/\aN H1 (upd H2 D (.lst (prF j (mL (S.go++[i]))++[.bl c])))/\upd H2 D (.lst (prF j (mL (S.go++[i]))++[.bl c])) D=some (.lst (prF j (mL (S.go++[i]))++[.bl c]))/\prF j (mL (S.go++[i]))++[.bl c]=prF (j+1) (mL (S.go++[i])):=fun c hc =>
     ⟨eD,aQ (by rw[cP];lia),⟨_,U⟩,aV sm hD _,aj,by rw[nx,hc]⟩
    by_cases z:j∈S.go
    ·rw[dcF (not_not_intro z)] at fin ⊢
     exact⟨false,U,bZ (fin false U)⟩
    ·rw[dcT z] at fin ⊢
     refine⟨true,U,cW ⟨_,U,_,U,da,_,_,_,U,U,sqT (sm _ _ hda),gt1,U,fin _ ?_⟩⟩
     rw[Y7]
     by_cases y:j=i
     ·rw[dcT (show V.int (j:Int)=V.int (i:Int) by rw[y]),dcF (not_not_intro y)]
      rfl
     ·rw[dcF (show ¬ V.int (j:Int)=V.int (i:Int) from fun x=>y (by injection x with x;lia)),dcT y]
      rfl
   ·rintro zs σ' H2 ⟨_,sm,eD,rfl⟩
    have e:(((prF S.n S.go).length:Nat):Int).toNat=S.n:=by rw[cP];lia
    rw[e] at eD
    exact Rc _ _ ⟨D,U,sm,hD,eD⟩
  rintro σ H2 ⟨pl,rfl,s2,fpl,epl⟩
  have up:=ok.eu.up
  have nd:=ok.eu.nd
  refine bV (fun σ H3=>∃ so:Addr,σ=[oR a,oR da,oR pa,oR ga,oR ta,some (vN S.co),oR pl,oR so,none]/\aN H2 H3/\H2 so=none/\H3 so=some (.dK [])) ?_ ?_
  ·intro N Rc so hso
   exact Rc _ _ ⟨so,U,aA hso _,hso,aj⟩
  rintro σ H3 ⟨so,rfl,s3,fso,eso⟩
  have s13:=s2.trans s3
  have fso1:=s2.free fso
  refine bV (fun σ H4=>∃ (u:FC) (kv:Fu),σ=[oR a,oR da,oR pa,oR ga,oR ta,some (vN S.co),oR pl,oR so,u]/\aN H1 H4/\H4 pl=some (.lst (prF S.n (mL (S.go++[i]))))/\H4 so=some (.dK kv)/\TbR S.n H4 kv (S.es.filter fun e=>decide (e.2.1≠i))) ?_ ?_
  ·intro N Rc
   refine⟨_,U,ta,kvs,S.es.map fun e=>(e.1:Int),U,s13 _ _ h4,h5.keys,by rw[Vs];lia,fun ms pm sr l hl=>?_⟩
   have em:=ok.eu.sort pm sr
   subst em
   generalize eH4:upd H3 l _=H4
   obtain⟨s4,e4⟩:=aK eH4 hl
   have nsl:so≠l:=fun z=>by rw[z,hl] at eso;cases eso
   have eso4:=s4 _ _ eso
   have s14:=s13.trans s4
   refine⟨l,U,⟨_,sqL e4⟩,eV (K:=K) (a:=l) (xs:=(S.es.map fun e=>(e.1:Int)).map V.int) (fun j σ H5=>∃ (u:FC) (kv:Fu),σ=[oR a,oR da,oR pa,oR ga,oR ta,some (vN S.co),oR pl,oR so,u]/\aN H1 H5/\H5 pl=some (.lst (prF S.n (mL (S.go++[i]))))/\H5 l=some (.lst ((S.es.map fun e=>(e.1:Int)).map V.int))/\H5 so=some (.dK kv)/\TbR S.n H5 kv ((S.es.take j).filter fun e=>decide (e.2.1≠i)))
    ⟨_,[],U,s14,s4 _ _ (s3 _ _ epl),e4,eso4,by rw[Ws];exact .nil⟩ (fun j σ H5 _ z=>by obtain⟨_,_,_,_,_,y,_⟩:=z;exact sqL y) ?_ ?_⟩
   ·rintro j x σ H5 hx ⟨u,kv,rfl,s5,epl5,el5,eso5,tb5⟩
    rw[V7,V7] at hx
    obtain⟨e,he,rfl⟩:∃ e,S.es[j]? = some e/\x = .int (e.1:Int):=by
     cases z:S.es[j]? with
     | none=>rw[z] at hx;cases hx
     | some e=>rw[z] at hx;cases hx;exact⟨e,U,U⟩
    obtain⟨t,p,hv,ht,hpp⟩:=h5.val nd he
    have nx:=cD.SM (n:=S.n) (p:=fun e:Ent=>decide (e.2.1≠i)) he
    have dg:rA H5 ta (.int (e.1:Int)) (some (.ref t)):=by
     rw[← hv]
     exact rA.k (k:=WN (e.1:Int)) (s5 _ _ h4)
    have lkv:=tb5.length
    have lf:=WT (fun e:Ent=>decide (e.2.1≠i)) (S.es.take j)
    rw[V0] at lf
    refine gN ?_
    refine⟨_,U,_,U,ta,_,U,dg,t,_,_,_,U,U,sqT (s5 _ _ ht),gt0,_,U,da,_,_,_,U,U,sqT (s5 _ _ hda),gt1,U,_,U,?_⟩
    by_cases z:e.2.1=i
    ·rw[show decide (vN e.2.1=V.int (i:Int))=true from dcT (by rw[z];rfl)]
     show if (!true)=true then _ else _
     refine bZ (nN ⟨_,kv,U,s5,epl5,el5,eso5,?_⟩)
     rw[nx,iNe (by rw[dcF (not_not_intro z)];exact Vy),Xn]
     exact tb5
    ·rw[show decide (vN e.2.1=V.int (i:Int))=false from dcF fun y=>z (by injection y with y;lia)]
     show if (!false)=true then _ else _
     have hno:rZ kv (WN (e.1:Int))=none:=tb5.none fun e' he' y=>by
      have m1:=List.mem_filter.mp he'
      obtain⟨k',hk',ek'⟩:=ZJ m1.1
      rw[V0] at hk'
      rw[List.getElem_take] at ek'
      have je:=List.getElem?_eq_some_iff.mp he
      have e1:(S.es.map (·.1))[k']'(by rw[Vs];lia)=(S.es.map (·.1))[j]'(by rw[Vs];exact je.1):=by
       rw[aaV,aaV,ek',je.2]
       lia
      have:=(acg nd).mp e1
      lia
     refine cW ⟨_,U,_,U,ta,_,U,dg,_,U,_,U,so,_,U,Og.k (k:=WN (e.1:Int)) eso5 (Vx (show kv.length < 1000 by lia) (by decide)),?_⟩
     have tk:∀ b ys,H5 b=some (HO.tup ys)->upd H5 so (.dK (putK kv (WN (e.1:Int)) (.ref t))) b=some (HO.tup ys):=fun b ys hb=>by rw[aM fun y=>by rw[y,eso5] at hb;cases hb];exact hb
     refine⟨_,_,U,aV s5 fso1 _,?_,?_,aj,?_⟩
     ·rw[aM fun y=>by rw[y,eso5] at epl5;cases epl5]
      exact epl5
     ·rw[aM nsl.symm]
      exact el5
     ·rw[Br _ hno,nx,iPo (dcT z)] at *
      exact TbR.snoc (num:=e.1) (one:=e.2.1) (pl:=e.2.2) (tk _ _ (s5 _ _ ht)) ((hpp.aO fun a xs y=>s5 _ _ y).aO tk) (tb5.aO tk)
   ·rintro σ H5 ⟨u,kv,rfl,s5,epl5,_,eso5,tb5⟩
    rw[Vs,Vs,VJ] at tb5
    exact Rc _ _ ⟨u,kv,U,s5,epl5,eso5,tb5⟩
  rintro σ H4 ⟨u,kv,rfl,s4,epl4,eso4,tb4⟩
  refine⟨_,U,_,U,_,U,_,U,smN 4,fun p5 hp5=>?_⟩
  have sn:=aA hp5 (.tup [.ref pl,.ref ga,.ref so,vN S.co])
  have s5:=s4.trans sn
  refine q p5 _ s5 ⟨pl,ga,so,kv,aj,?_,s5 _ _ h3,sn _ _ eso4,?_,new (aN.refl _) fpl⟩
  ·show _=some (HO.lst (prF S.n (mL (S.go++[((i:Nat):Int).toNat]))))
   rw[Wg]
   exact sn _ _ epl4
  ·show TbR S.n _ kv (S.es.filter fun e=>decide (e.2.1≠((i:Nat):Int).toNat))
   rw[Wg]
   exact tb4.aO fun a xs y=>sn _ _ y
 | pledge hda hp =>
  rename_i o p pl
  obtain⟨i,rfl,hi,hg,hl⟩:=Nf (show plW S.n S.go S.es o pl = "" from hw)
  refine⟨_,U,da,_,_,_,U,U,sqT hda,gt0,U,_,U,bu bz (nN ?_)⟩
  refine⟨_,U,da,_,_,_,U,U,sqT hda,gt0,U,_,U,bu bz (nN ?_)⟩
  refine⟨_,U,da,_,_,_,U,U,sqT hda,gt0,U,_,U,gR U ?_⟩
  refine ?_
  refine bV (fun σ H2=>∃ so:Addr,σ=[oR a,oR da,oR pa,oR ga,oR ta,some (vN S.co),none,oR so,none]/\aN H1 H2/\H1 so=none/\H2 so=some (.dK kvs)) ?_ ?_
  ·intro N Rc
   exact⟨_,U,ta,kvs,U,h4,fun so hso=>Rc _ _ ⟨so,U,aA hso _,hso,aj⟩⟩
  rintro σ H2 ⟨so,rfl,s2,fso,eso⟩
  have lk:=h5.length
  have hno:rZ kvs (WN (S.co:Int))=none:=h5.none fun e he=>by have:=(ok.eu.lt e he).1;lia
  refine bV (fun σ H3=>∃ t:Addr,σ=[oR a,oR da,oR pa,oR ga,oR ta,some (vN S.co),none,oR so,none]/\aN H1 H3/\H3 so=some (.dK (kvs++[(WN (S.co:Int),.ref t)]))/\H3 t=some (.tup [vN i,.ref p])) ?_ ?_
  ·intro N Rc
   refine⟨_,U,da,_,_,_,U,U,sqT (s2 _ _ hda),gt1,_,U,da,_,_,_,U,U,sqT (s2 _ _ hda),gt2,smN 2,fun t ht=>?_⟩
   have sn:=aA ht (.tup [.int (i:Int),.ref p])
   have eso':=sn _ _ eso
   have nst:so≠t:=fun z=>by rw[z,ht] at eso;cases eso
   refine⟨_,U,_,U,so,_,U,Og.k (k:=WN (S.co:Int)) eso' (Vx (show kvs.length < 1000 by lia) (by decide)),Rc _ _ ⟨t,U,aV (s2.trans sn) fso _,?_,?_⟩⟩
   ·rw[aj,Br _ hno]
   ·rw[aM nst.symm]
    exact aj
  rintro σ H3 ⟨t,rfl,s3,eso3,et⟩
  refine⟨_,U,_,U,_,U,_,U,_,_,U,U,smN 4,fun p5 hp5=>?_⟩
  have sn:=aA hp5 (.tup [.ref pa,.ref ga,.ref so,.int ((S.co:Int)+1)])
  have s4:=s3.trans sn
  refine q p5 _ s4 ⟨pa,ga,so,_,aj,s4 _ _ h2,s4 _ _ h3,sn _ _ eso3,?_,h6⟩
  show TbR S.n _ _ (S.es++[(S.co,((i:Nat):Int).toNat,pl)])
  rw[Wg]
  exact TbR.snoc (sn _ _ et) (hp.aO fun a xs z=>s4 _ _ z) (h5.aO fun a xs z=>s4 _ _ z)
 | hand hda hr' hri lp =>
  rename_i r us ps
  refine⟨_,U,da,_,_,_,U,U,sqT hda,gt0,U,_,U,bu bz (nN ?_)⟩
  refine⟨_,U,da,_,_,_,U,U,sqT hda,gt0,U,_,U,bu bz (nN ?_)⟩
  refine⟨_,U,da,_,_,_,U,U,sqT hda,gt0,U,_,U,bu bz (nN ?_)⟩
  refine⟨_,U,da,_,_,_,U,U,sqT hda,gt0,U,_,U,gR U ?_⟩
  refine⟨_,U,_,U,_,U,da,_,_,_,U,U,sqT hda,gt1,be,a,r,S.n,S.g,S.go,S.es,S.co,us,ps,U,hst,ok.lg,hr',hri,O3 (show haW S.n S.g S.go S.es ps = "" from hw),fun r2 H2 s2 e2=>?_⟩
  refine⟨_,U,_,U,smN 4,fun p5 hp5=>?_⟩
  have sn:=aA hp5 (.tup [.ref pa,.ref r2,.ref ta,vN S.co])
  have s5:=s2.trans sn
  exact q p5 _ s5 ⟨pa,r2,ta,kvs,aj,s5 _ _ h2,sn _ _ e2,s5 _ _ h4,h5.aO fun a xs y=>s5 _ _ y,h6⟩
 | change hda hp =>
  rename_i k' p pl
  refine⟨_,U,da,_,_,_,U,U,sqT hda,gt0,U,_,U,bu bz (nN ?_)⟩
  refine⟨_,U,da,_,_,_,U,U,sqT hda,gt0,U,_,U,bu bz (nN ?_)⟩
  refine⟨_,U,da,_,_,_,U,U,sqT hda,gt0,U,_,U,bu bz (nN ?_)⟩
  refine⟨_,U,da,_,_,_,U,U,sqT hda,gt0,U,_,U,bu bz (nN ?_)⟩
  cases hf:fnE S.es k' with
  | none =>
   rw[show reW S (.change k' pl) = "no pledge" by show chW _ _ _ _=_;unfold chW;rw[hf]] at hw
   exact absurd hw (by decide)
  | some e =>
   refine⟨_,U,_,U,_,U,_,U,be,a,da,S,(.change k' pl),k',e,U,hst,ok,.change hda hp,U,hf,fun tb kv H2 s2 e2 r2=>⟨_,U,smN 4,fun p5 hp5=>?_⟩⟩
   have sn:=aA hp5 (.tup [.ref pa,.ref ga,.ref tb,vN S.co])
   have s5:=s2.trans sn
   exact q p5 _ s5 ⟨pa,ga,tb,kv,aj,s5 _ _ h2,s5 _ _ h3,sn _ _ e2,r2.aO fun a xs y=>sn _ _ y,h6⟩
 | withdraw hda =>
  rename_i k'
  refine⟨_,U,da,_,_,_,U,U,sqT hda,gt0,U,_,U,bu bz (nN ?_)⟩
  refine⟨_,U,da,_,_,_,U,U,sqT hda,gt0,U,_,U,bu bz (nN ?_)⟩
  refine⟨_,U,da,_,_,_,U,U,sqT hda,gt0,U,_,U,bu bz (nN ?_)⟩
  refine⟨_,U,da,_,_,_,U,U,sqT hda,gt0,U,_,U,bu bz (nN ?_)⟩
  cases hf:fnE S.es k' with
  | none =>
   rw[show reW S (.withdraw k') = "no pledge" by show wiW _ _ _=_;unfold wiW;rw[hf]] at hw
   exact absurd hw (by decide)
  | some e =>
   refine⟨_,U,_,U,_,U,_,U,be,a,da,S,(.withdraw k'),k',e,U,hst,ok,.withdraw hda,U,hf,fun tb kv H2 s2 e2 r2=>⟨_,U,smN 4,fun p5 hp5=>?_⟩⟩
   have sn:=aA hp5 (.tup [.ref pa,.ref ga,.ref tb,vN S.co])
   have s5:=s2.trans sn
   exact q p5 _ s5 ⟨pa,ga,tb,kv,aj,s5 _ _ h2,s5 _ _ h3,sn _ _ e2,r2.aO fun a xs y=>sn _ _ y,h6⟩
mutual
def tmD:Tm->Dm
 | .free=>.tup [.str "free"]
 | .never=>.tup [.str "never"]
 | .gives i k=>.tup [.str "gives",.int (i:Int),.int k]
 | .sum c k=>.tup [.str "sum",.tup ((c.map fun i:Nat=>(i:Int)).map Dm.int),.int k]
 | .crowd c k m=>.tup [.str "crowd",.tup ((c.map fun i:Nat=>(i:Int)).map Dm.int),.int k,.int m]
 | .all ts=>.tup [.str "all",.tup (Jz ts)]
 | .any ts=>.tup [.str "any",.tup (Jz ts)]
def Jz:List Tm->List Dm
 | []=>[]
 | t::r=>tmD t::Jz r
end
def xV {H:Hp}{b:Addr}{c:D7}(h:H b=some (.tup (c.map vN)))(l:c.length<=20):Rep H (.ref b) (.tup ((c.map fun i:Nat=>(i:Int)).map Dm.int)):=by
 rw[gY] at h
 exact u9 h (by rw[Vs];lia)
mutual
theorem gZ.rep {n:Nat}{H:Hp}:∀ {v:V} {t:Tm},gZ n H v t->Rep H v (tmD t)
 | _,_,.free h=>by rw[tmD];exact .tup h (by show 1<=100000;decide) (.cons (.str _) .nil)
 | _,_,.never h=>by rw[tmD];exact .tup h (by show 1<=100000;decide) (.cons (.str _) .nil)
 | _,_,.gives h _ _ _=>by rw[tmD];exact .tup h (by show 3<=100000;decide) (.cons (.str _) (.cons (.int _) (.cons (.int _) .nil)))
 | _,_,.sum h hb _ _ l _ _ _=>by rw[tmD];exact .tup h (by show 3<=100000;decide) (.cons (.str _) (.cons (xV hb l) (.cons (.int _) .nil)))
 | _,_,.crowd h hb _ _ l _ _ _ _ _=>by rw[tmD];exact .tup h (by show 4<=100000;decide) (.cons (.str _) (.cons (xV hb l) (.cons (.int _) (.cons (.int _) .nil))))
 | _,_,.all h hb _ l6 rl=>by rw[tmD];exact .tup h (by show 2<=100000;decide) (.cons (.str _) (.cons (.tup hb (by lia) (cu.rep rl)) .nil))
 | _,_,.any h hb _ l6 rl=>by rw[tmD];exact .tup h (by show 2<=100000;decide) (.cons (.str _) (.cons (.tup hb (by lia) (cu.rep rl)) .nil))
theorem cu.rep {n:Nat}{H:Hp}:∀ {vs:FH} {ts:List Tm},cu n H vs ts->su H vs (Jz ts)
 | _,_,.nil=>by rw[Jz];exact .nil
 | _,_,.cons h r=>by rw[Jz];exact .cons (gZ.rep h) (cu.rep r)
end
mutual
theorem HS:∀ t:Tm,(tmD t).dep<=2 * t.dep
 | .free=>by rw[tmD];decide
 | .never=>by rw[tmD];decide
 | .gives i k=>by rw[tmD];simp [Dm.dep,iJ,Tm.dep]
 | .sum c k=>by
  rw[tmD,Dm.dep,iJ,iJ,Jj]
  simp [Dm.dep,iJ,Tm.dep]
 | .crowd c k m=>by
  rw[tmD,Dm.dep,iJ,iJ,Jj]
  simp [Dm.dep,iJ,Tm.dep]
 | .all ts=>by
  have:=uE ts
  rw[tmD,Dm.dep,iJ,iJ,Dm.dep,Tm.dep]
  simp [Dm.dep,iJ]
  lia
 | .any ts=>by
  have:=uE ts
  rw[tmD,Dm.dep,iJ,iJ,Dm.dep,Tm.dep]
  simp [Dm.dep,iJ]
  lia
theorem uE:∀ ts:List Tm,iJ (Jz ts)<=2 * tdL ts
 | []=>by rw[Jz,tdL,iJ];decide
 | t::r=>by
  have h1:=HS t
  have h2:=uE r
  rw[Jz,iJ,tdL]
  lia
end
abbrev Hn:Stmt:=top 46
abbrev Aj:Stmt:=top 48
def NQ:aG ZU ZU (aB Hn):=c7
def JB:aG ZU ZU (aB Aj):=c7
inductive Gg (CS CB:Addr)(vs:FH)(H:Hp)(Q:VK):Prop where
 | mk (b be:Addr) (n d co:Nat) (g:D6) (go:D7) (es:List Ent) (z0:vs=[.ref b]) (z1:uv CS CB n H b be d g go es co) (z2:Q (.int (g.length:Int)) H):Gg CS CB vs H Q
def Gd (CS CB:Addr):Sp:=fun vs H Q _=>Gg CS CB vs H Q
inductive Cy (CS CB:Addr)(vs:FH)(H:Hp)(Q:VK):Prop where
 | mk (b be:Addr) (n d co:Nat) (g:D6) (go:D7) (es:List Ent) (z0:vs=[.ref b]) (z1:uv CS CB n H b be d g go es co) (z2:∀ a,H a=some (.tup (g.map V.int))->Q (.ref a) H):Cy CS CB vs H Q
def Gj (CS CB:Addr):Sp:=fun vs H Q _=>Cy CS CB vs H Q
def Ox {CS CB:Addr} (F:Fun K "folk" "folk" Hn f fd) (B:Bt mg) (S:yo K CS) (T:zF K CB):bH P w K mg base CX0 1 f fd ZU (Gd CS CB):=by
 refine okA F NQ fun _ _ _ _ H _ Q E hr h=>?_
 obtain⟨b,be,n,d,co,g,go,es,rfl,⟨dx,nw,ah,xs,hb,hbe,lx,dx2,ga,goa,sa,us,hs,hga,hgoa,hsa,hes⟩,q⟩:=h
 refine⟨_,(az (aD (aF (r:=iR K) aU U B.len_ bJ (aa (aX K U (aX K U (pv 0))) ao)))),?_⟩
 refine⟨_,U,b,CB,dx,_,_,U,hb,T.cl,T.now,U,nw,CS,dx2,_,_,U,hs,S.cl,S.green,U,ga,_,U,.inr (sqT hga),?_⟩
 rw[Vs]
 exact q
def J4 {CS CB:Addr} (F:Fun K "green" "green" Aj f fd) (B:Bt mg) (S:yo K CS) (T:zF K CB):bH P w K mg base CX0 1 f fd ZU (Gj CS CB):=by
 refine okA F JB fun _ _ _ _ H _ Q E hr h=>?_
 obtain⟨b,be,n,d,co,g,go,es,rfl,⟨dx,nw,ah,xs,hb,hbe,lx,dx2,ga,goa,sa,us,hs,hga,hgoa,hsa,hes⟩,q⟩:=h
 refine⟨_,(az (aD (aX K U (aX K U (pv 0))))),?_⟩
 exact⟨_,U,b,CB,dx,_,_,U,hb,T.cl,T.now,U,nw,CS,dx2,_,_,U,hs,S.cl,S.green,U,q ga hga⟩
abbrev zH:Stmt:=top 47
def J2:aG ZU ZU (aB zH):=c7
def thF (n:Nat)(go:D7):D7:=(Xb n).filter fun i=>decide (i ∉ go)
def Ay (n:Nat)(go:D7):thF (n+1) go=thF n go++if n∈go then [] else [n]:=by
 unfold thF
 rw[abb,YW]
 congr 1
 by_cases h:n∈go
 ·rw[iPo h,Yi (by rw[dcF (fun y=>y h)];exact Vy)]
  rfl
 ·rw[iNe h,Yh (by exact dcT h)]
  rfl
def Ai (n:Nat)(go:D7):(thF n go).length<=n:=by
 have:=WT (fun i=>decide (i ∉ go)) (Xb n)
 rw[XD] at this
 exact this
inductive ym (CS CB:Addr)(vs:FH)(H:Hp)(Q:VK):Prop where
 | mk (b be:Addr) (n d co:Nat) (g:D6) (go:D7) (es:List Ent) (z0:vs=[.ref b]) (z1:uv CS CB n H b be d g go es co) (z2:g.length<=12) (z3:∀ (a:Addr) (H':Hp),aN H H'->H a=none->H' a=some (.lst ((thF g.length go).map vN))->Q (.ref a) H'):ym CS CB vs H Q
def Cw (CS CB:Addr):Sp:=fun vs H Q _=>ym CS CB vs H Q
def uw {CS CB:Addr} (F:Fun K "there" "there" zH f fd) (B:Bt mg) (S:yo K CS) (T:zF K CB) (P6:Df P w K mg base "folk" 1 ZU (Gd CS CB)):bH P w K mg base CX0 2 f fd ZU (Cw CS CB):=by
 refine okA F J2 fun _ _ _ _ H _ Q E hr h=>?_
 obtain⟨b,be,n,d,co,g,go,es,rfl,hB,n12,q⟩:=h
 refine⟨_,(az (aD (cz (L:=["one"]) (F:=ZU) (cap:=[0]) U (bF U U (by kernel_rfl)) (bW U B.range_ (aa (aY P6 hr (aa (pv 0) ao)) ao)) (fun _ _ _ _ _=>(aJ (i:=0) (bw (by decide+kernel)) U (VF U))) (fun _ _ _ _ _=>(jf (fU (r:=rIn K true) ph (pv 0) (aX K U (aX K U (pv 1))) U))) (fun _ _ _ _ _=>(pv 0))))),?_⟩
 obtain⟨dx,nw,ah,xs,hb,hbe,lx,dx2,ga,goa,sa,us,hs,hga,hgoa,hsa,hes⟩:=id hB
 refine⟨_,U,b,be,n,d,co,g,go,es,U,hB,_,U,by lia,by lia,fun D hD=>cT (lo:=0) (n:=((g.length:Int)).toNat) (fun i zs σ' H2=>(∃ u,σ'=[u,oR b])/\aN H H2/\H2 D=some (.lst zs)/\zs=(thF i go).map vN)
  ⟨⟨_,U⟩,aA hD _,aj,U⟩ (fun i zs σ' H2 _ h=>h.2.2.1) ?_ ?_⟩
 ·rintro i zs σ' H2 hi ⟨⟨u,rfl⟩,sm,eD,rfl⟩
  rw[Xw]
  have li:=Ai i go
  have nx:=Ay i go
  refine⟨_,U,_,U,b,CB,dx,_,_,U,sm _ _ hb,T.cl,T.now,U,nw,CS,dx2,_,_,U,sm _ _ hs,S.cl,S.gone,U,goa,_,U,.inr (sqT (sm _ _ hgoa)),U,jJ go,_,U,?_⟩
  have e:inV (.int (i:Int)) (go.map vN)=decide (i∈go):=jY i go
  rw[iPo U,e]
  by_cases z:i∈go
  ·rw[dcT z]
   refine bZ ⟨⟨_,U⟩,sm,eD,?_⟩
   rw[nx,iPo z,Xn]
  ·rw[dcF z]
   refine cW ⟨_,U,eD,aQ (by rw[Vs];lia),⟨_,U⟩,aV sm hD _,aj,?_⟩
   rw[nx,iNe z,VD]
   rfl
 ·rintro zs σ' H2 ⟨_,sm,eD,rfl⟩
  exact q D H2 sm hD eD
abbrev qI:Stmt:=top 49
def Dl:aG ZU ZU (aB qI):=c7
abbrev vI:Stmt:=top 50
def Jb:aG ZU ZU (aB vI):=c7
inductive rQ (CS CB:Addr)(vs:FH)(H:Hp)(Q:VK):Prop where
 | mk (b be:Addr) (n d co:Nat) (g:D6) (go:D7) (es:List Ent) (z0:vs=[.ref b]) (z1:uv CS CB n H b be d g go es co) (z2:∀ (a:Addr) (us:FH) (H':Hp),aN H H'->H a=none->cD n H us es->H' a=some (.lst us)->Q (.ref a) H'):rQ CS CB vs H Q
def tQ (CS CB:Addr):Sp:=fun vs H Q _=>rQ CS CB vs H Q
def zz {CS CB:Addr} (F:Fun K "pledges" "pledges" qI f fd) (B:Bt mg) (S:yo K CS) (T:zF K CB):bH P w K mg base CX0 1 f fd ZU (tQ CS CB):=by
 refine okA F Dl fun _ _ _ _ H _ Q E hr h=>?_
 obtain⟨b,be,n,d,co,g,go,es,rfl,⟨dx,nw,ah,xs,hb,hbe,lx,dx2,ga,goa,sa,us,hs,hga,hgoa,hsa,hes⟩,q⟩:=h
 refine⟨_,(az (aD (bh (r:=jL K) d9 U B.list_ jg (aa (aX K U (aX K U (pv 0))) ao)))),?_⟩
 exact⟨_,U,b,CB,dx,_,_,U,hb,T.cl,T.now,U,nw,CS,dx2,_,_,U,hs,S.cl,S.standing,U,sa,_,U,.inr (sqT hsa),fun l hl=>q l us _ (aA hl _) hl hes aj⟩
inductive ye (CS CB:Addr)(vs:FH)(H:Hp)(Q:VK):Prop where
 | mk (b be:Addr) (n d co:Nat) (g:D6) (go:D7) (es:List Ent) (z0:vs=[.ref b]) (z1:uv CS CB n H b be d g go es co) (z2:Q (vN co) H):ye CS CB vs H Q
def CZ (CS CB:Addr):Sp:=fun vs H Q _=>ye CS CB vs H Q
def Ho {CS CB:Addr} (F:Fun K "coming" "coming" vI f fd) (B:Bt mg) (S:yo K CS) (T:zF K CB):bH P w K mg base CX0 1 f fd ZU (CZ CS CB):=by
 refine okA F Jb fun _ _ _ _ H _ Q E hr h=>?_
 obtain⟨b,be,n,d,co,g,go,es,rfl,⟨dx,nw,ah,xs,hb,hbe,lx,dx2,ga,goa,sa,us,hs,hga,hgoa,hsa,hes⟩,q⟩:=h
 refine⟨_,(az (aD (aX K U (aX K U (pv 0))))),?_⟩
 exact⟨_,U,b,CB,dx,_,_,U,hb,T.cl,T.now,U,nw,CS,dx2,_,_,U,hs,S.cl,S.coming,U,q⟩
abbrev uU:Stmt:=top 82
def IV:aG WG WG (aB uU):=c7
inductive RQ (CS CB:Addr)(x:XA)(vs:FH)(H:Hp)(Q:VK)(E:XK):Prop where
 | mk (b be ah dx nw da:Addr) (xs zs:FH) (A:Sa) (d:vL) (z0:vs=[.ref b,.ref da]) (z1:Bn CS CB A.n H b be ah dx nw xs zs A.g A.go A.es A.co) (z2:xs.length<=900) (z3:EsU A.n A.go A.es A.co) (z4:DeR A.n H da d) (z5:(reW A d≠""->Th x (reW A d) H E)) (z6:(reW A d = ""->∀ (H':Hp) (nw' ah':Addr),But b be H H'->H ah'=none->Bn CS CB (A.aft d).n H' b be ah' dx nw' (xs++[.ref nw]) [] (A.aft d).g (A.aft d).go (A.aft d).es (A.aft d).co->Q (vaV A d) H')):RQ CS CB x vs H Q E
def Uo (CS CB:Addr)(x:XA):Sp:=fun vs H Q E=>RQ CS CB x vs H Q E
def HH {CS CB:Addr} {x:XA} {k:Nat} (hk:5<=k) (F:Fun K "_law_do" "_law_do" uU f fd) (B:Bt mg) (SY:Dmx P w K mg base CB "come" 4 ZO (Hh CS CB x.fu)) (Ta:Dmx P w K mg base CB "leave" 5 ZH (Bs CS CB x))
  (Tb:Dmx P w K mg base CB "pledge" k X0 (yD CS CB x)) (SW:Dmx P w K mg base CB "change" k Xt (yr CS CB x)) (Tk:Dmx P w K mg base CB "withdraw" k YU (rB CS CB x)) (SZ:Dmx P w K mg base CB "hand" k YY (zy CS CB x)):bH P w K mg base (XL P w) (k+1) f fd WG (Uo CS CB x):=by
 refine EY F IV fun _ _ _ _ H _ Q E hr h=>?_
 obtain⟨b,be,ah,dx,nw,da,xs,zs,S,d,rfl,hB,l9,eu,hd,hw,q⟩:=h
 refine⟨_,(au (aW (aH bj (pxT K (pv 1) aq) aL) (az (aD (Od SY hr cg (pv 0)))) aC)
 (au (aW (aH bj (pxT K (pv 1) aq) aL) (az (aD (ue Ta hr cg (pv 0) (aa (pxT K (pv 1) aq) ao)))) aC)
 (au (aW (aH bj (pxT K (pv 1) aq) aL) (az (aD (ue Tb hr cg (pv 0) (aa (pxT K (pv 1) aq) (aa (pxT K (pv 1) aq) ao))))) aC)
 (au (aW (aH bj (pxT K (pv 1) aq) aL) (az (aD (ue SW hr cg (pv 0) (aa (pxT K (pv 1) aq) (aa (pxT K (pv 1) aq) ao))))) aC)
 (au (aW (aH bj (pxT K (pv 1) aq) aL) (az (aD (ue Tk hr cg (pv 0) (aa (pxT K (pv 1) aq) ao)))) aC)
 (au (aW (aH bj (pxT K (pv 1) aq) aL) (az (aD (ue SZ hr cg (pv 0) (aa (bh (r:=jL K) d9 U B.list_ jg (aa (pxT K (pv 1) aq) ao)) ao)))) aC)
 (au (aW (aH bj (pxT K (pv 1) aq) aL) (az Ao) aC)
 (az Ao)))))))),?_⟩
 have hb:=hB.hb
 cases hd with
 | come hda =>
  refine⟨_,U,da,_,_,_,U,U,sqT hda,gt0,U,_,U,gR U ?_⟩
  refine⟨_,U,b,dx,_,U,hb,U,b,be,ah,dx,nw,S.n,S.co,xs,zs,S.g,S.go,S.es,U,hB,l9,fun z=>?_,fun z=>q (iNe (by lia))⟩
  rw[show reW S .come = "full" from iPo z] at hw
  have:=hw (by decide)
  unfold Th at this
  rw[Qi] at this
  exact this
 | leave hda =>
  rename_i o
  refine⟨_,U,da,_,_,_,U,U,sqT hda,gt0,U,_,U,bu bz (nN ?_)⟩
  refine⟨_,U,da,_,_,_,U,U,sqT hda,gt0,U,_,U,gR U ?_⟩
  exact⟨_,U,b,dx,_,U,hb,U,_,U,da,_,_,_,U,U,sqT hda,gt1,b,be,ah,dx,nw,o,S.n,S.co,xs,zs,S.g,S.go,S.es,U,hB,l9,hw,q⟩
 | pledge hda hp =>
  rename_i o p pl
  refine⟨_,U,da,_,_,_,U,U,sqT hda,gt0,U,_,U,bu bz (nN ?_)⟩
  refine⟨_,U,da,_,_,_,U,U,sqT hda,gt0,U,_,U,bu bz (nN ?_)⟩
  refine⟨_,U,da,_,_,_,U,U,sqT hda,gt0,U,_,U,gR U ?_⟩
  exact⟨_,U,b,dx,_,U,hb,U,_,U,da,_,_,_,U,U,sqT hda,gt1,_,U,da,_,_,_,U,U,sqT hda,gt2,b,be,ah,dx,nw,p,o,S.n,S.co,xs,zs,S.g,S.go,S.es,pl,U,hB,hp,l9,hw,q⟩
 | hand hda hr' hri lp =>
  rename_i r us ps
  refine⟨_,U,da,_,_,_,U,U,sqT hda,gt0,U,_,U,bu bz (nN ?_)⟩
  refine⟨_,U,da,_,_,_,U,U,sqT hda,gt0,U,_,U,bu bz (nN ?_)⟩
  refine⟨_,U,da,_,_,_,U,U,sqT hda,gt0,U,_,U,bu bz (nN ?_)⟩
  refine⟨_,U,da,_,_,_,U,U,sqT hda,gt0,U,_,U,bu bz (nN ?_)⟩
  refine⟨_,U,da,_,_,_,U,U,sqT hda,gt0,U,_,U,bu bz (nN ?_)⟩
  refine⟨_,U,da,_,_,_,U,U,sqT hda,gt0,U,_,U,gR U ?_⟩
  refine⟨_,U,b,dx,_,U,hb,U,_,U,da,_,_,_,U,U,sqT hda,gt1,r,_,U,.inl (sqL hr'),fun r2 h2=>?_⟩
  have sn:=aA h2 (.lst us)
  exact⟨b,be,ah,dx,nw,r2,S.n,S.co,xs,zs,us,S.g,S.go,S.es,ps,U,hB.same sn,l9,aj,hri.aO fun a xs z=>sn _ _ z,lp,fun z=>(hw z).mono sn,fun z H' nw' ah' bt fa hB'=>q z H' nw' ah' ((Qf sn).trans bt) (sn.free fa) hB'⟩
 | change hda hp =>
  rename_i k' p pl
  refine⟨_,U,da,_,_,_,U,U,sqT hda,gt0,U,_,U,bu bz (nN ?_)⟩
  refine⟨_,U,da,_,_,_,U,U,sqT hda,gt0,U,_,U,bu bz (nN ?_)⟩
  refine⟨_,U,da,_,_,_,U,U,sqT hda,gt0,U,_,U,bu bz (nN ?_)⟩
  refine⟨_,U,da,_,_,_,U,U,sqT hda,gt0,U,_,U,gR U ?_⟩
  exact⟨_,U,b,dx,_,U,hb,U,_,U,da,_,_,_,U,U,sqT hda,gt1,_,U,da,_,_,_,U,U,sqT hda,gt2,b,be,ah,dx,nw,p,k',S.n,S.co,xs,zs,S.g,S.go,S.es,pl,U,hB,fun e he=>⟨(eu.lt e he).1,(eu.lt e he).2.1⟩,eu.nd,hp,l9,hw,q⟩
 | withdraw hda =>
  rename_i k'
  refine⟨_,U,da,_,_,_,U,U,sqT hda,gt0,U,_,U,bu bz (nN ?_)⟩
  refine⟨_,U,da,_,_,_,U,U,sqT hda,gt0,U,_,U,bu bz (nN ?_)⟩
  refine⟨_,U,da,_,_,_,U,U,sqT hda,gt0,U,_,U,bu bz (nN ?_)⟩
  refine⟨_,U,da,_,_,_,U,U,sqT hda,gt0,U,_,U,bu bz (nN ?_)⟩
  refine⟨_,U,da,_,_,_,U,U,sqT hda,gt0,U,_,U,gR U ?_⟩
  exact⟨_,U,b,dx,_,U,hb,U,_,U,da,_,_,_,U,U,sqT hda,gt1,b,be,ah,dx,nw,k',S.n,S.co,xs,zs,S.g,S.go,S.es,U,hB,fun e he=>⟨(eu.lt e he).1,(eu.lt e he).2.1⟩,l9,hw,q⟩
def rgD (x:Int × Tm):Dm:=.tup [.int x.1,tmD x.2]
def plD (p:Pl):Dm:=.tup (p.map rgD)
def enD (e:Ent):Dm:=.tup [.int (e.1:Int),.int (e.2.1:Int),plD e.2.2]
theorem dB.rep {n:Nat}{H:Hp}:∀ {vs:FH} {p:Pl},dB n H vs p->su H vs (p.map rgD)
 | _,_,.nil=>.nil
 | _,_,.cons h t r=>.cons (.tup h (by show 2<=100000;decide) (.cons (.int _) (.cons t.rep .nil))) (dB.rep r)
def kE.rep {n:Nat}{H:Hp}{a:Addr}{p:Pl}(h:kE n H a p):Rep H (.ref a) (plD p):=by
 obtain⟨ok,vs,hv,rv⟩:=h
 exact .tup hv (by have:=rv.length;have:=ok.2.1;lia) rv.rep
theorem cD.Ui {n:Nat}{H:Hp}:∀ {us:FH} {es:List Ent},cD n H us es->su H us (es.map enD)
 | _,_,.nil=>.nil
 | _,_,.cons h p r=>.cons (.tup h (by show 3<=100000;decide) (.cons (.int _) (.cons (.int _) (.cons p.rep .nil)))) (cD.Ui r)
def vA {ds:List Dm}{k:Nat}(h:∀ d∈ds,d.dep<=k):iJ ds<=k:=by
 induction ds with
 | nil=>rw[iJ];exact Wr _
 | cons d r ih =>
  rw[iJ]
  have h1:=h d VP
  have h2:=ih fun x hx=>h x (VR _ hx)
  lia
def NT {p:Pl}(ok:okP p):(plD p).dep<=10:=by
 have:iJ (p.map rgD)<=9:=vA fun d hd=>by
  obtain⟨x,hx,rfl⟩:=List.mem_map.mp hd
  have h1:=HS x.2
  have h2:=(ok.2.2.2 x hx).2.2
  unfold rgD
  simp only[Dm.dep,iJ]
  lia
 unfold plD
 rw[Dm.dep]
 lia
def Oj {es:List Ent}(ok:∀ e∈es,okP e.2.2):iJ (es.map enD)<=11:=vA fun d hd=>by
 obtain⟨e,he,rfl⟩:=List.mem_map.mp hd
 have:=NT (ok e he)
 unfold enD
 simp only[Dm.dep,iJ]
 lia
theorem oJ {H:Hp}:∀ c:D7,su H (c.map vN) (c.map fun i:Nat=>Dm.int (i:Int))
 | []=>.nil
 | i::r=>.cons (.int _) (oJ r)
abbrev jA:Stmt:=top 56
def cG:aG ["_law_boon_here","_law_state","_law_found","_law_present","_law_lies","_law_table","_law_after_here","_law_here","_law_rows"] WP (aB jA):=c7
inductive wQ (CS CB:Addr)(vs:FH)(H:Hp)(Q:VK):Prop where
 | mk (b be ah dx nw a:Addr) (xs zs:FH) (A:Sa) (z0:vs=[.ref b,.ref a]) (z1:Bn CS CB A.n H b be ah dx nw xs zs A.g A.go A.es A.co) (z2:StR be A.n H a A.g A.go A.es A.co) (z3:AOk A) (z4:∀ H',aN H H'->Q (.bl true) H'):wQ CS CB vs H Q
def Bf (CS CB:Addr):Sp:=fun vs H Q _=>wQ CS CB vs H Q
def uQ {CS CB:Addr} (F:Fun K "_law_stands" "_law_stands" jA f fd) (B:Bt mg) (P6:Df P w K mg base "folk" 1 ZU (Gd CS CB)) (SK:Df P w K mg base "there" 2 ZU (Cw CS CB)) (P7:Df P w K mg base "green" 1 ZU (Gj CS CB))
  (SI:Df P w K mg base "pledges" 1 ZU (tQ CS CB)) (P5:Df P w K mg base "coming" 1 ZU (CZ CS CB)) (Sk:Df P w K mg base "_law_same" 14 XI (qM 14)):bH P w K mg base CX0 15 f fd WP (Bf CS CB):=by
 refine okA F cG fun _ _ _ _ H _ Q E hr h=>?_
 obtain⟨b,be,ah,dx,nw,a,xs,zs,S,rfl,hB,hst,ok,q⟩:=h
 refine⟨_,(au (aP (i:=2) cG.nd U (VF U) (bA (aa (aY P6 hr (aa (pv 0) ao)) (aa (aY SK hr (aa (pv 0) ao)) (aa (aY P7 hr (aa (pv 0) ao)) (aa (aY SI hr (aa (pv 0) ao)) (aa (aY P5 hr (aa (pv 0) ao)) ao)))))))
 (au (xN (pv 1) (d8 (K:=K) 4 U U (bf (aJ (i:=3) cG.nd U (aaC U)) (bf (aJ (i:=4) cG.nd U (VF U)) (bf (aJ (i:=5) cG.nd U (aaC U)) (bf (aJ (i:=6) cG.nd U (VF U)) eG))))))
 (au (lX (L:=ZN) (F:=["_law_present"]) (cap:=[3]) (j:=7) cG.nd U (VF U) U (bF U U (by kernel_rfl)) (bW U B.range_ (aa (aF (r:=iR K) aU U B.len_ bJ (aa (pv 3) ao)) ao)) (fun _ _ _ _ _=>(aJ (i:=0) (bw (by decide+kernel)) U (VF U))) (fun _ _ _ _ _=>(jf (cI (pxL K (pv 1) (pv 0))))) (fun _ _ _ _ _=>(pv 0)))
 (au (lX (L:=["_law_number"]) (F:=["_law_table"]) (cap:=[5]) (j:=8) cG.nd U (VF U) U (bF U U (by kernel_rfl)) (dC (aF (r:=xU) (j6 U) U B.sorted_ (by decide+kernel) (aa (pv 5) ao))) (fun _ _ _ _ _=>(aJ (i:=0) (bw (by decide+kernel)) U (VF U))) (fun _ _ _ _ _=>cQ) (fun _ _ _ _ _=>(aR (r:=iB K) gM (aZ (aa (pv 0) ao)) (jT hr.iz (pv 1) (pv 0) (fun _ _=>U)))))
 (az (aD (aY Sk hr (aa (pv 2) (aa (bA (aa (aF (r:=iR K) aU U B.len_ bJ (aa (pv 3) ao)) (aa (pv 7) (aa (pv 4) (aa (pv 8) (aa (pv 6) ao)))))) ao))))))))),?_⟩
 have lg:=ok.lg
 have n12:=ok.n12
 have l40:=ok.l40
 have lth:=Ai S.n S.go
 have hBn:=hB.U4
 refine bV (fun σ H1=>∃ (l:Addr),σ=[oR b,oR a,oR l,none,none,none,none,none,none]/\aN H H1/\Rep H1 (.ref l) (.lst [.int (S.n:Int),.lst ((thF S.n S.go).map fun i:Nat=>.int (i:Int)),.tup (S.g.map Dm.int),.lst (S.es.map enD),.int (S.co:Int)])) ?_ ?_
 ·intro N Rc
  refine⟨_,U,b,be,S.n,_,S.co,S.g,S.go,S.es,U,hBn,_,U,b,be,S.n,_,S.co,S.g,S.go,S.es,U,hBn,by lia,fun th H1 s1 _ eth=>?_⟩
  rw[lg] at eth
  refine⟨_,U,b,be,S.n,_,S.co,S.g,S.go,S.es,U,hBn.same s1,fun ga hga=>⟨_,U,b,be,S.n,_,S.co,S.g,S.go,S.es,U,hBn.same s1,fun pa us H2 s2 _ hes epa=>?_⟩⟩
  refine⟨_,U,b,be,S.n,_,S.co,S.g,S.go,S.es,U,hBn.same (s1.trans s2),smN 5,fun l hl=>?_⟩
  generalize eH3:upd H2 l _=H3
  obtain⟨s3,e3⟩:=aK eH3 hl
  have s23:=s2.trans s3
  have les:=hes.length
  refine Rc _ _ ⟨l,U,s1.trans s23,.lst e3 (by show 5<=100000;decide) ?_⟩
  rw[lg]
  exact .cons (.int _) (.cons (.lst (s23 _ _ eth) (by rw[Vs];lia) (oJ _)) (.cons (u9 (s23 _ _ hga) (by lia)) (.cons (.lst (s3 _ _ epa) (by lia) (hes.aO fun a xs z=>s23 _ _ z).Ui) (.cons (.int _) .nil))))
 rintro σ H1 ⟨l,rfl,s1,rl⟩
 obtain⟨pa,ga,ta,kvs,h1,h2,h3,h4,h5,h6⟩:=hst.same s1
 refine bV (fun σ H2=>σ=[oR b,oR a,oR l,oR pa,oR ga,oR ta,some (vN S.co),none,none]/\H2=H1) ?_ ?_
 ·intro N Rc
  exact⟨_,U,a,_,U,sqT h1,U,_,_,U,_,_,U,_,_,U,_,_,U,U,Rc _ _ ⟨U,U⟩⟩
 rintro σ H2 ⟨rfl,rfl⟩
 refine bV (fun σ H3=>∃ (hl:Addr),σ=[oR b,oR a,oR l,oR pa,oR ga,oR ta,some (vN S.co),oR hl,none]/\aN H2 H3/\H3 hl=some (.lst ((thF S.n S.go).map vN))) ?_ ?_
 ·intro N Rc
  refine⟨_,U,pa,_,U,.inl (sqL h2),_,U,by rw[cP];lia,by rw[cP];lia,fun D hD=>cT (lo:=0) (n:=(((prF S.n S.go).length:Nat):Int).toNat) (fun j zs σ' H3=>(∃ u,σ'=[u,oR pa])/\aN H2 H3/\H3 D=some (.lst zs)/\zs=(thF j S.go).map vN)
   ⟨⟨_,U⟩,aA hD _,aj,U⟩ (fun j zs σ' H3 _ h=>h.2.2.1) ?_ ?_⟩
  ·rintro j zs σ' H3 hj ⟨⟨u,rfl⟩,sm,eD,rfl⟩
   rw[cP] at hj
   have hj':j < S.n:=by lia
   rw[Xw]
   have nx:=Ay j S.go
   have lj:=Ai j S.go
   refine⟨_,U,_,U,pa,_,_,.bl (decide (j ∉ S.go)),U,U,sqL (sm _ _ h2),dh (Ia hj'),_,U,?_⟩
   by_cases z:j∈S.go
   ·rw[dcF (not_not_intro z)]
    refine bZ ⟨⟨_,U⟩,sm,eD,?_⟩
    rw[nx,iPo z,Xn]
   ·rw[dcT z]
    refine cW ⟨_,U,eD,aQ (by rw[Vs];lia),⟨_,U⟩,aV sm hD _,aj,?_⟩
    rw[nx,iNe z,VD]
    rfl
  ·rintro zs σ' H3 ⟨_,sm,eD,rfl⟩
   have e:(((prF S.n S.go).length:Nat):Int).toNat=S.n:=by rw[cP];lia
   rw[e] at eD
   exact Rc _ _ ⟨D,U,sm,eD⟩
 rintro σ H3 ⟨hl,rfl,s3,ehl⟩
 have nd:=ok.eu.nd
 refine bV (fun σ H4=>∃ (rw':Addr) (us:FH),σ=[oR b,oR a,oR l,oR pa,oR ga,oR ta,some (vN S.co),oR hl,oR rw']/\aN H3 H4/\H4 rw'=some (.lst us)/\cD S.n H4 us S.es) ?_ ?_
 ·intro N Rc
  refine⟨_,U,ta,kvs,S.es.map fun e=>(e.1:Int),U,s3 _ _ h4,h5.keys,by rw[Vs];lia,fun ms pm sr l2 hl2=>?_⟩
  have em:=ok.eu.sort pm sr
  subst em
  generalize eH4:upd H3 l2 _=H4
  obtain⟨s4,e4⟩:=aK eH4 hl2
  refine⟨l2,U,⟨_,sqL e4⟩,fun D hD=>iK (K:=K) (a:=l2) (xs:=(S.es.map fun e=>(e.1:Int)).map V.int) (fun j zs σ' H5=>(∃ u,σ'=[u,oR ta])/\aN H4 H5/\H5 D=some (.lst zs)/\cD S.n H5 zs (S.es.take j))
   ⟨⟨_,U⟩,aA hD _,aj,by rw[Ws];exact .nil⟩ (fun j zs σ' H5 _ h=>⟨sqL (h.2.1 _ _ e4),h.2.2.1⟩) ?_ ?_⟩
  ·rintro j zs y σ' H5 hx ⟨⟨u,rfl⟩,sm,eD,ez⟩
   rw[V7,V7] at hx
   obtain⟨e,he,rfl⟩:∃ e,S.es[j]? = some e/\y = .int (e.1:Int):=by
    cases z:S.es[j]? with
    | none=>rw[z] at hx;cases hx
    | some e=>rw[z] at hx;cases hx;exact⟨e,U,U⟩
   obtain⟨t,p,hv,ht,hpp⟩:=h5.val nd he
   have s25:=s3.trans (s4.trans sm)
   have lz:=ez.length
   rw[V0] at lz
   refine gT ?_
   refine⟨_,U,smN 1,fun p1 hp1=>?_⟩
   generalize eH6:upd H5 p1 _=H6
   obtain⟨s6,e6⟩:=aK eH6 hp1
   have s26:=s25.trans s6
   have dg:rA H6 ta (.int (e.1:Int)) (some (.ref t)):=by
    rw[← hv]
    exact rA.k (k:=WN (e.1:Int)) (s26 _ _ h4)
   refine⟨_,U,_,U,ta,_,U,dg,?_⟩
   refine RD e6 (s26 _ _ ht) (by show 1+2<=1000;decide) fun p2 H7 s7 e7=>?_
   have eD7:=s7 _ _ (s6 _ _ eD)
   have s27:=s26.trans s7
   have tk:=cR (zs':=zs++[.ref p2]) eD7
   refine⟨eD7,aQ (by lia),⟨_,U⟩,aV (sm.trans (s6.trans s7)) hD _,aj,?_⟩
   rw[V8,he]
   exact cD.snoc (num:=e.1) (one:=e.2.1) (pl:=e.2.2) (tk _ _ e7) ((hpp.aO fun a xs z=>s27 _ _ z).aO tk) ((ez.aO fun a xs z=>(s6.trans s7) _ _ z).aO tk)
  ·rintro zs σ' H5 ⟨_,sm,eD,ez⟩
   rw[Vs,Vs,VJ] at ez
   exact Rc _ _ ⟨D,zs,U,s4.trans sm,eD,ez⟩
 rintro σ H4 ⟨rw',us,rfl,s4,erw,ees⟩
 have s24:=s3.trans s4
 have les:=ees.length
 refine⟨_,U,_,U,pa,_,U,.inl (sqL (s24 _ _ h2)),_,U,_,U,_,U,_,U,smN 5,fun l5 hl5=>?_⟩
 rw[cP]
 generalize eH5:upd H4 l5 _=H5
 obtain⟨s5,e5⟩:=aK eH5 hl5
 have s25:=s24.trans s5
 refine⟨_,_,_,U,rl.mono s25,.lst e5 (by show 5<=100000;decide) (.cons (.int _) (.cons (.lst ((s4.trans s5) _ _ ehl) (by rw[Vs];lia) (oJ _)) (.cons (u9 (s25 _ _ h3) (by lia)) (.cons (.lst (s5 _ _ erw) (by lia) (ees.aO fun a xs z=>s5 _ _ z).Ui) (.cons (.int _) .nil))))),?_,fun H6 s6=>q H6 (s1.trans (s25.trans s6))⟩
 have d1:=Oj h5.ok
 have d2:iJ ((thF S.n S.go).map fun i:Nat=>Dm.int (i:Int))<=0:=vA fun d hd=>by obtain⟨i,_,rfl⟩:=List.mem_map.mp hd;simp [Dm.dep]
 have d3:iJ (S.g.map Dm.int)<=0:=vA fun d hd=>by obtain⟨i,_,rfl⟩:=List.mem_map.mp hd;simp [Dm.dep]
 simp only[Dm.dep,iJ]
 lia
theorem fL.Q0 {n:Nat}{H:Hp}{D:Addr}{zs zs':FH}(hD:H D=some (.lst zs)):∀ {us:FH} {bs:List (List Pl)},fL n H us bs->(∀ u∈us,u≠.ref D)->fL n (upd H D (.lst zs')) us bs
 | _,_,.nil,_=>.nil
 | _,_,.cons h l p r,hne=>.cons (by rw[aM fun z=>hne _ VP (by rw[z])];exact h) l (p.aO (cR hD)) (fL.Q0 hD r fun u hu=>hne u (VR _ hu))
abbrev qw:Stmt:=top 78
def Dk:aG Ya Ya (aB qw):=c7
inductive Lz (vs:FH)(H:Hp)(Q:VK):Prop where
 | mk (c n:Int) (z0:vs=[.int c,.int n]) (z1:0 < n) (z2:∀ (z:Int) (H':Hp),aN H H'->Q (.int z) H'):Lz  vs H Q
def Nm:Sp:=fun vs H Q _=>Lz  vs H Q
def Er (F:Fun K "_law_who" "_law_who" qw f fd) (B:Bt mg):bH P w K mg base CX0 1 f fd Ya Nm:=by
 refine okA F Dk fun _ _ _ _ H _ Q E hr h=>?_
 obtain⟨c,n,rfl,hn,q⟩:=h
 refine⟨_,(az (aD (pxL K (bA (aa (aR cA (pv 0) (pv 1)) (aa (aR cA (pv 0) (pv 1)) (aa (aR cA (pv 0) (pv 1)) (aa (pv 1) (aa (yN rO aq) (aa (aR cA (pv 0) (pv 1)) ao))))))) (aR cA (aR uY (pv 0) aq) aq)))),?_⟩
 refine⟨_,U,_,U,_,_,U,U,hn,_,U,_,U,_,_,U,U,hn,_,U,_,U,_,_,U,U,hn,_,U,_,U,_,U,_,U,_,_,U,U,hn,smN 6,fun p hp=>?_⟩
 have sn:=aA hp (.lst [.int (c % n),.int (c % n),.int (c % n),.int n,.int (-1),.int (c % n)])
 obtain⟨k,ek⟩:=W8 (Wt (c / 7) (show (6:Int)≠0 by decide))
 have k6:k < 6:=by have:=Wl (c / 7) (show (0:Int) < 6 by decide);lia
 have hz:∃ z:Int,([.int (c % n),.int (c % n),.int (c % n),.int n,.int (-1),.int (c % n)]:FH)[k]? = some (.int z):=by
  match k,k6 with
  | 0,_=>exact⟨_,U⟩
  | 1,_=>exact⟨_,U⟩
  | 2,_=>exact⟨_,U⟩
  | 3,_=>exact⟨_,U⟩
  | 4,_=>exact⟨_,U⟩
  | 5,_=>exact⟨_,U⟩
 obtain⟨z,hz⟩:=hz
 refine⟨_,U,_,_,U,U,⟨by decide,by decide⟩,_,_,U,U,(by show (0:Int) < 6;decide),p,_,_,_,U,U,sqL aj,?_,q z _ sn⟩
 show atI _ (c / 7 % 6)=_
 rw[ek]
 exact dh hz
abbrev jr:Stmt:=top 79
def sH:aG ZI ZI (aB jr):=c7
inductive wC (vs:FH)(H:Hp)(Q:VK):Prop where
 | mk (be a:Addr) (A:Sa) (z0:vs=[.ref a]) (z1:StR be A.n H a A.g A.go A.es A.co) (z2:AOk A) (z3:∀ (b:Addr) (bk:List (List Pl)) (H':Hp),aN H H'->Ob A.n H' b bk->bk.length=A.n->Q (.ref b) H'):wC  vs H Q
def Cz:Sp:=fun vs H Q _=>wC  vs H Q
def sU (F:Fun K "_law_book_of" "_law_book_of" jr f fd) (B:Bt mg) (RO:Df P w K mg base "_law_listed" 2 XU pU):bH P w K mg base CX0 3 f fd ZI Cz:=by
 refine okA F sH fun _ _ _ _ H _ Q E hr h=>?_
 obtain⟨be,a,S,rfl,⟨pa,ga,ta,kvs,h1,h2,h3,h4,h5,h6⟩,ok,q⟩:=h
 refine⟨_,(az (aD (cz (L:=ZN) (F:=ZI) (cap:=[0]) U (bF U U (by kernel_rfl)) (bW U B.range_ (aa (aF (r:=iR K) aU U B.len_ bJ (aa (pxT K (pv 0) aq) ao)) ao)) (fun _ _ _ _ _=>(aJ (i:=0) (bw (by decide+kernel)) U (VF U))) (fun _ _ _ _ _=>cQ) (fun _ _ _ _ _=>(aY RO hr (aa (pxT K (pv 1) aq) (aa (pv 0) ao))))))),?_⟩
 have n12:=ok.n12
 have l40:=ok.l40
 refine⟨_,U,a,_,_,_,U,U,sqT h1,gt0,pa,_,U,.inl (sqL h2),_,U,by rw[cP];lia,by rw[cP];lia,fun D hD=>cT (lo:=0) (n:=(((prF S.n S.go).length:Nat):Int).toNat) (fun j zs σ' H2=>(∃ u,σ'=[u,oR a])/\aN H H2/\H2 D=some (.lst zs)/\(∀ u∈zs,u≠.ref D)/\∃ bs,fL S.n H2 zs bs/\bs.length=j)
  ⟨⟨_,U⟩,aA hD _,aj,by simp,[],.nil,U⟩ (fun j zs σ' H2 _ h=>h.2.2.1) ?_ ?_⟩
 ·rintro j zs σ' H2 hj ⟨⟨u,rfl⟩,sm,eD,nD,bs,hb,lb⟩
  rw[cP] at hj
  refine gT ?_
  refine⟨_,U,a,_,_,_,U,U,sqT (sm _ _ h1),gt2,_,U,ta,_,S.n,kvs,S.es,U,sm _ _ h4,h5.aO fun a xs y=>sm _ _ y,ok.eu.up,l40,fun l as H3 s3 fl el las ps=>?_⟩
  have eD3:=s3 _ _ eD
  have hz:=hb.length
  have nl:l≠D:=fun z=>by rw[z,eD] at fl;cases fl
  refine⟨eD3,aQ (by lia),⟨_,U⟩,aV (sm.trans s3) hD _,aj,?_,bs++[miP S.es (0+(j:Int))],?_,by rw[VH,lb];rfl⟩
  ·intro u hu
   rcases List.mem_append.mp hu with y | y
   ·exact nD u y
   ·rw[List.mem_singleton.mp y]
    exact fun x=>nl (by injection x)
  ·refine fL.snoc ?_ (by lia) (ps.aO (cR eD3)) ((hb.mono s3).Q0 eD3 nD)
   rw[aM nl]
   exact el
 ·rintro zs σ' H2 ⟨_,sm,eD,_,bs,hb,lb⟩
  have e:(((prF S.n S.go).length:Nat):Int).toNat=S.n:=by rw[cP];lia
  rw[e] at lb
  exact q D bs H2 sm ⟨zs,eD,hb,by lia⟩ lb
def Uw {K:V3}{a b:Addr}{xs ys:FH}{H:Hp}{Q:V->Hp->Prop}(ha:H a=some (.tup xs))(hb:H b=some (.tup ys))(hz:xs.length+ys.length<=1000)(h:∀ p H',aN H H'->H' p=some (.tup (xs++ys))->Q (.ref p) H'):iB K (.ref a) (.ref b) H Q :=
 ⟨a,b,xs,ys,U,U,sqT ha,sqT hb,small hz,fun e=>h b H (aN.refl H) (by rw[e,acx];exact hb),fun _ e=>h a H (aN.refl H) (by rw[e,Xn];exact ha),fun _ _ p hp=>h p _ (aA hp _) aj⟩
def Vi {xs:FH}{k:Nat}(h:k<=xs.length):pZ xs none (some (k:Int))=xs.take k:=by
 unfold pZ
 rw[HT.Dd,HT.uy,List.drop_zero,Nat.sub_zero,Nat.min_eq_left h]
def Tz {xs:FH}{k:Nat}(h:k<=xs.length):pZ xs (some (k:Int)) none=xs.drop k:=by
 unfold pZ
 rw[HT.Dd,HT.uy,Nat.min_eq_left h,List.take_of_length_le (by rw[YL];lia)]
section
variable {K:V3}{σ:St}{H:Hp}{Q:V->Hp->Prop}{i j:Nat}{a:Addr}{k:Nat}{xs:FH}
def slT (hi:σ[i]? = some (some (.ref a)))(hj:σ[j]? = some (some (.int (k:Int))))(ha:H a=some (.tup xs))(hk:k < xs.length)(h:∀ p H',aN H H'->H' p=some (.tup (xs.take k))->Q (.ref p) H'):tSl (KJ K) (CW i) rn (Fp (CW j)) σ H Q:=by
 refine⟨_,hi,_,hj,_,U,a,xs,U,sqT ha,?_,fun p hp=>?_⟩
 ·rintro⟨_,z⟩
  have z':HT.sIx xs.length xs.length (some (k:Int))=xs.length:=z
  rw[HT.uy] at z'
  lia
 ·refine h p _ (aA hp _) ?_
  rw[aj,Vi (by lia)]
def slD (hi:σ[i]? = some (some (.ref a)))(hj:σ[j]? = some (some (.int (k:Int))))(ha:H a=some (.tup xs))(hk:k < xs.length)(h:∀ p H',aN H H'->H' p=some (.tup (xs.drop (k+1)))->Q (.ref p) H') :
  tSl (KJ K) (CW i) (Fp (tOp (rI0 fun i j=>.int (i+j)) (CW j) (tC (.int 1)))) rn σ H Q:=by
 refine⟨_,hi,_,hj,_,_,U,U,_,U,a,xs,U,sqT ha,?_,fun p hp=>?_⟩
 ·rintro⟨z,_⟩
  have z':HT.sIx xs.length 0 (some ((k:Int)+1))=0:=z
  rw[show (k:Int)+1=((k+1:Nat):Int) by lia,HT.uy] at z'
  lia
 ·refine h p _ (aA hp _) ?_
  rw[aj,show pZ xs (some ((k:Int)+1)) none=xs.drop (k+1) by rw[show (k:Int)+1=((k+1:Nat):Int) by lia];exact Tz (by lia)]
def Vl {l:Nat}{v:V}(hi:σ[i]? = some (some (.ref a)))(hj:σ[j]? = some (some (.int (k:Int))))(hv:σ[l]? = some (some v))(ha:H a=some (.tup xs))(hk:k < xs.length)(hl:xs.length<=40)(h:∀ p H',aN H H'->H' p=some (.tup (xs.set k v))->Q (.ref p) H') :
  tOp (iB K) (tOp (iB K) (tSl (KJ K) (CW i) rn (Fp (CW j))) (TY (JX (CW l) Kv))) (tSl (KJ K) (CW i) (Fp (tOp (rI0 fun i j=>.int (i+j)) (CW j) (tC (.int 1)))) rn) σ H Q:=by
 refine slT hi hj ha hk fun p1 H1 s1 e1=>?_
 refine⟨_,hv,smN 1,fun p2 h2=>?_⟩
 generalize eH3:upd H1 p2 _=H3
 obtain⟨g3,e3⟩:=aK eH3 h2
 refine Uw (g3 _ _ e1) e3 (by rw[V0];show min k xs.length+1<=1000;lia) fun p4 H4 s4 e4=>?_
 have s14:aN H H4:=s1.trans (g3.trans s4)
 refine slD hi hj (s14 _ _ ha) hk fun p5 H5 s5 e5=>?_
 refine Uw (s5 _ _ e4) e5 (by rw[VH,V0,YL];show min k xs.length+1+(xs.length - (k+1))<=1000;lia) fun p6 H6 s6 e6=>?_
 refine h p6 H6 (s14.trans (s5.trans s6)) ?_
 rw[e6,List.set_eq_take_append_cons_drop,iPo hk,aaL]
 rfl
end
abbrev dZ:Stmt:=top 76
def bG:aG ["_law_book","_law_floor","_law_giving","_law_here","_law_turn","_law_ahead","_law_one","_law_step"] WB (aB dZ):=c7
inductive yC (vs:FH)(H:Hp)(Q:VK):Prop where
 | mk (b f g:Addr) (n:Nat) (bk:List (List Pl)) (fl x:D6) (z0:vs=[.ref b,.ref f,.ref g]) (z1:Ob n H b bk) (z2:bk.length=n) (z3:H f=some (.tup (fl.map V.int))) (z4:fl.length=n) (z5:H g=some (.tup (x.map V.int))) (z6:x.length=n) (z7:∀ (r:Addr) (z:D6) (H':Hp),aN H H'->H' r=some (.tup (z.map V.int))->z.length=n->Q (.ref r) H'):yC  vs H Q
def BK:Sp:=fun vs H Q _=>yC  vs H Q
def mF {k:Nat} (F:Fun K "_law_step_by_step" "_law_step_by_step" dZ f fd) (B:Bt mg)
  (RW:Df P w K mg base "_law_owed" k WU (vR K)):bH P w K mg base CX0 (k+1) f fd WB BK:=by
 refine okA F bG fun _ _ _ _ H _ Q E hr h=>?_
 obtain⟨b,f,g,n,bk,fl,x,rfl,hB,lb,hf,lf,hg,lx,q⟩:=h
 refine⟨_,(au (aP (i:=3) bG.nd U (VF U) (pv 2))
 (au (cV Wq U (bW U B.range_ (aa (aR bR (aR iQ aq (aF (r:=iR K) aU U B.len_ bJ (aa (pv 0) ao))) aq) ao)) (aJ (i:=4) bG.nd U (VF U)) (au (aP (i:=5) bG.nd U (VF U) (pv 3))
 (au (cV Wq U (bW U B.range_ (aa (aF (r:=iR K) aU U B.len_ bJ (aa (pv 0) ao)) ao)) (aJ (i:=6) bG.nd U (VF U)) (au (aP (i:=7) bG.nd U (VF U) (aF (rJ U) U B.max_ tX (aa (pxT K (pv 1) (pv 6)) (aa (aY RW hr (aa (pxL K (pv 0) (pv 6)) (aa (pv 3) ao))) ao))))
 (az (aP (i:=3) bG.nd U (VF U) (aR (r:=iB K) gM (aR (r:=iB K) gM (fM (r:=KJ K) Ba (pv 3) jj (iw (pv 6))) (aZ (aa (pv 7) ao))) (fM (r:=KJ K) Ba (pv 3) (iw (aR bR (pv 6) aq)) jj))))))
 (az (aW (aH (r:=Px K) (FW hr.o9) (pv 3) (pv 5)) (az (aD (pv 3))) aC)))))
 (az (aD (pv 3))))),?_⟩
 obtain⟨us0,hb,rb,l12⟩:=id hB
 have lu0:=rb.length
 refine⟨_,U,_,U,b,_,U,.inl (sqL hb),_,_,U,U,.inl ⟨by decide,by decide⟩,_,_,U,U,_,U,by lia,by lia,iH (lo:=0) (n:=(9 * (us0.length:Int)+1).toNat) (fun t σ H3=>∃ (hh:Addr) (u0 u1 u2 u3:FC) (z:D6),σ=[oR b,oR f,oR g,oR hh,u0,u1,u2,u3]/\aN H H3/\H3 hh=some (.tup (z.map V.int))/\z.length=n)
  ⟨g,_,_,_,_,x,U,aN.refl _,hg,lx⟩ ?_ ?_⟩
 ·rintro t σ H3 ht ⟨hh,u0,u1,u2,u3,z,rfl,s3,eh,lz⟩
  refine⟨_,U,?_⟩
  refine⟨_,U,b,_,U,.inl (sqL (s3 _ _ hb)),_,U,by lia,by lia,iH (lo:=0) (n:=us0.length) (fun i σ H4=>∃ (h2:Addr) (v0 v1:FC) (gs:D6),σ=[oR b,oR f,oR g,oR h2,some (.int (0+(t:Int))),oR hh,v0,v1]/\aN H3 H4/\H4 h2=some (.tup (gs.map V.int))/\gs.length=n)
   ⟨hh,_,_,z,U,aN.refl _,eh,lz⟩ ?_ ?_⟩
  ·rintro i σ H4 hi ⟨h2,v0,v1,gs,rfl,s4,e2,lg⟩
   have hfi:i < fl.length:=by lia
   have at1:atI (fl.map V.int) (0+(i:Int))=some (.int fl[i]):=by rw[Xw];exact kI hfi
   have hy:us0[i]? = some us0[i]:=Vz hi
   obtain⟨c,as,ps,ec,hps,hc,l100,rps⟩:=rb.get hy
   have at2:atI us0 (0+(i:Int))=some (.ref c):=by rw[Xw,← ec];exact dh hy
   have s34:aN H H4:=s3.trans s4
   refine⟨_,U,_,U,f,_,_,_,U,U,sqT (s34 _ _ hf),at1,_,U,_,U,b,_,_,_,U,U,sqL (s34 _ _ hb),at2,_,U,c,h2,n,as,ps,gs,U,s34 _ _ hc,l100,rps.aO (fun a xs q=>s34 a _ q),sqT e2,by lia,fun H5 s5=>?_⟩
   refine⟨_,_,U,?_⟩
   generalize (if duF gs 0 ps > fl[i] then duF gs 0 ps else fl[i])=y
   refine gN ?_
   dsimp only
   refine Vl (k:=i) (v:=.int y) U (by rw[Xw (i:Int)];rfl) U (s5 _ _ e2) (by rw[Vs];lia) (by rw[Vs];lia) fun p6 H6 s6 e6=>?_
   refine⟨p6,_,_,gs.set i y,U,s4.trans (s5.trans s6),?_,by rw[abe];exact lg⟩
   rw[e6,List.map_set]
  ·rintro σ H4 ⟨h2,v0,v1,gs,rfl,s4,e2,lg⟩
   refine⟨_,U,_,U,h2,hh,_,_,U,U,sqT e2,sqT (s4 _ _ eh),_,U,?_⟩
   exact jE (fun _=>⟨_,U,q h2 gs H4 (s3.trans s4) e2 lg⟩) (fun _=>⟨h2,_,_,_,_,gs,U,s3.trans s4,e2,lg⟩)
 ·rintro σ H3 ⟨hh,u0,u1,u2,u3,z,rfl,s3,eh,lz⟩
  exact⟨_,U,q hh z H3 s3 eh lz⟩
inductive HB (K:V3)(vs:FH)(H:Hp)(Q:VK):Prop where
 | mk (b f:Addr) (n:Nat) (bk:List (List Pl)) (fl:D6) (z0:vs=[.ref b,.ref f]) (z1:Ob n H b bk) (z2:SqT K H f (fl.map V.int)) (z3:fl.length=bk.length) (z4:∀ (r:Addr) (H':Hp),aN H H'->H' r=some (.tup ((rfF fl bk).map V.int))->Q (.ref r) H'):HB K vs H Q
def Nb (K:V3):Sp:=fun vs H Q _=>HB K vs H Q
def PK {p:Pl}{x:Int × Tm}(ok:okP p)(h:p[p.length - 1]? = some x):lsF p=x.1:=by
 have hne:=ok.1
 have e:p=p.dropLast++[x]:=by
  rw[← List.getLast?_eq_getElem?,acq hne] at h
  rw[← Wo h]
  exact (acy hne).symm
 have hp:=ok.2.2.1
 rw[e] at hp ⊢
 exact JZ hp
abbrev oF:Stmt:=top 77
def lQ:aG ["_law_book","_law_floor","_law_found","_law_at"] XE (aB oF):=c7
def zc (F:Fun K "_law_roof" "_law_roof" oF f fd) (B:Bt mg) :
  bH P w K mg base CX0 1 f fd XE (Nb K):=by
 refine okA F lQ fun _ _ _ _ H _ Q E hr h=>?_
 obtain⟨b,f,n,bk,fl,rfl,⟨us,hb,rb,l12⟩,hf,hl,q⟩:=h
 refine⟨_,(au (aP (i:=2) lQ.nd U (VF U) (bA ao))
 (au (cV Wq U (bW U B.range_ (aa (aF (r:=iR K) aU U B.len_ bJ (aa (pv 0) ao)) ao)) (aJ (i:=3) lQ.nd U (VF U)) (az (bD (tu W7 Xg Xf du (pv 2) (aa (aF (r:=KZ K) (qX U) U B.max_ tX (aa (aR kh (bA (aa (pxT K (pv 1) (pv 3)) ao)) (cz (L:=["_law_pledge_here"]) (F:=[]) (cap:=[]) U (bF U U (by kernel_rfl)) (dC (pxL K (pv 0) (pv 3))) (fun _ _ _ _ _=>(aJ (i:=0) (bw (by decide+kernel)) U (VF U))) (fun _ _ _ _ _=>cQ) (fun _ _ _ _ _=>(pxT K (pxT K (pv 0) (yN rO aq)) aq)))) ao)) ao)))))
 (az (aD (bh (r:=fY K) bK U B.tuple_ bQ (aa (pv 2) ao)))))),?_⟩
 have el:=rb.length
 refine⟨small (Wr _),fun r hr0=>?_⟩
 generalize eH1:upd H r _=H1
 obtain⟨g1,e1⟩:=aK eH1 hr0
 refine⟨_,U,b,_,U,.inl (sqL (g1 _ _ hb)),_,U,by lia,by lia,iH (lo:=0) (n:=us.length) (fun i σ H2=>(∃ u,σ=[oR b,oR f,oR r,u])/\aN H H2/\H2 r=some (.lst ((aa4 rfS (fl.take i) (bk.take i)).map V.int)))
  ⟨⟨_,U⟩,g1,e1⟩ ?_ ?_⟩
 ·rintro i σ H2 hi ⟨⟨u,rfl⟩,sm,hr2⟩
  have jn:i < fl.length:=by lia
  have at1:atI (fl.map V.int) (0+(i:Int))=some (.int fl[i]):=by rw[Xw];exact kI jn
  have hy:us[i]? = some us[i]:=Vz hi
  obtain⟨c,as,ps,ec,hps,hc,l100,rps⟩:=rb.get hy
  have ell:=rps.length
  have at2:atI us (0+(i:Int))=some (.ref c):=by rw[Xw,← ec];exact dh hy
  refine⟨_,U,.inl ⟨U,_,sqL hr2⟩,_,U,_,U,f,_,_,_,U,U,ik sm hf,at1,smN 1,fun p4 h4=>?_⟩
  generalize eH4:upd H2 p4 _=H4
  obtain⟨g4,e4⟩:=aK eH4 h4
  have s4:aN H H4:=sm.trans g4
  refine⟨_,U,_,U,b,_,_,_,U,U,sqL (s4 _ _ hb),at2,c,U,⟨_,sqL (s4 _ _ hc)⟩,fun D2 hD2=>iK (K:=K) (a:=c) (xs:=as.map V.ref) (fun j ws σ' H5=>(∃ u,σ'=[u])/\ws=((ps.take j).map lsF).map V.int/\aN H4 H5/\H5 D2=some (.lst ws))
   ⟨⟨_,U⟩,U,aA hD2 _,aj⟩ (fun j ws σ' H5 _ h=>⟨sqL (h.2.2.1 _ _ (s4 _ _ hc)),h.2.2.2⟩) ?_ ?_⟩
  ·rintro j ws x σ' H5 hx ⟨⟨u,rfl⟩,e5,s5,hD5⟩
   obtain⟨a,ha,rfl⟩:=Ml hx
   obtain⟨pl,hpl,ok,vs,hav,rv⟩:=rps.get ha
   have lv:=rv.length
   have lne:0 < pl.length:=List.length_pos_iff.mpr ok.1
   have hlast:vs[vs.length - 1]? = some (vs[vs.length - 1]'(by lia)):=Vz (by lia)
   obtain⟨r0,k0,y,t,er,hr0',rt,hp⟩:=rv.get hlast
   rw[er] at hlast
   rw[lv] at hp
   have s45:=s4.trans s5
   refine gT ?_
   refine⟨_,U,_,U,a,_,_,_,U,U,sqT (s45 _ _ hav),Fb hlast,r0,_,_,_,U,U,sqT (s45 _ _ hr0'),gt0,hD5,?_,⟨_,U⟩,?_,aV s5 hD2 _,aj⟩
   ·rw[e5,Vs,Vs,V0]
    exact aQ (by lia)
   ·rw[e5,take_snoc lsF hpl,VD,PK ok hp]
    rfl
  ·rintro ws σ' H5 ⟨_,e5,s5,hD5⟩
   rw[Vs,ell,VJ] at e5
   subst e5
   refine⟨p4,D2,_,_,U,U,s5 _ _ e4,hD5,small ?_,fun p6 h6=>?_⟩
   ·rw[Vs,Vs]
    show 1+ps.length<=1000
    lia
   generalize eH6:upd H5 p6 _=H6
   obtain⟨g6,e6⟩:=aK eH6 h6
   have sall:aN H2 H6:=g4.trans (s5.trans g6)
   refine⟨p6,fl[i]::ps.map lsF,U,sqL e6,by simp,r,_,_,U,U,sall _ _ hr2,?_,⟨_,U⟩,aV (sm.trans sall) hr0 _,?_⟩
   ·rw[Vs,List.length_zipWith,V0]
    exact aQ (by lia)
   ·rw[aj,Ko rfS (Vz jn) hps,VD]
    rfl
 ·rintro σ H2 ⟨⟨u,rfl⟩,sm,hr2⟩
  refine⟨_,U,r,_,U,.inl ⟨sqL hr2,fun l hl'=>?_⟩⟩
  refine q l _ (sm.trans (aA hl' _)) ?_
  rw[aj,el,VJ,← hl,VJ]
  rfl
def Lj {l:Addr}{xs:FH}{k:Nat}{y:V}{H:Hp}{Q:VK}(hl:H l=some (.lst xs))(hk:k < xs.length)(h5:xs.length<=100)(hy:xs[k]? = some y)(q:Q y (upd H l (.lst (xs.eraseIdx k)))):LC (.ref l) [.int (k:Int)] H Q:=by
 refine⟨l,xs,(k:Int),k,y,U,U,hl,by lia,by lia,?_,hy,q⟩
 have hj:(if (k:Int) < 0 then (k:Int)+(xs.length:Int) else (k:Int))=(k:Int):=iNe (by lia)
 have hd:((decide (0<=(k:Int)) && decide ((k:Int) < (xs.length:Int)))=true):=by
  rw[dcT (by lia),dcT (by lia)]
  rfl
 show (if (decide (0<=if (k:Int) < 0 then (k:Int)+(xs.length:Int) else (k:Int)) && decide ((if (k:Int) < 0 then (k:Int)+(xs.length:Int) else (k:Int)) < (xs.length:Int)))=true then some (if (k:Int) < 0 then (k:Int)+(xs.length:Int) else (k:Int)).toNat else none)=some k
 rw[hj,iPo hd,Wg]
abbrev lU:Stmt:=top 80
def cH:aG ["_law_cell","_law_state","_law_drawn","_law_n","_law_book","_law_some","_law_one","_law_high","_law_first"] XG (aB lU):=c7
theorem RiI.snoc {H:Hp}{e:Addr}{o s:Int}(h:H e=some (.tup [.int o,.int s])):∀ {us:FH} {ps:DL},RiI H us ps->RiI H (us++[.ref e]) (ps++[(o,s)])
 | _,_,.nil=>.cons h .nil
 | _,_,.cons h' r=>.cons h' (RiI.snoc h r)
theorem RiI.erase {H:Hp}:∀ {us:FH} {ps:DL} (k:Nat),RiI H us ps->RiI H (us.eraseIdx k) (ps.eraseIdx k)
 | _,_,_,.nil=>.nil
 | _,_,0,.cons _ r=>r
 | _,_,k+1,.cons h r=>.cons h (RiI.erase k r)
theorem RiI.rev {H:Hp}:∀ {us:FH} {ps:DL},RiI H us ps->RiI H us.reverse ps.reverse
 | _,_,.nil=>.nil
 | _,_,.cons h r=>by
  rw[aaK,aaK]
  exact RiI.snoc h (RiI.rev r)
def RiI.way {H:Hp}{us:FH}{ps:DL}(s:Int)(h:RiI H us ps):RiI H (Ec s us) (Ec s ps):=by
 unfold Ec
 split
 ·exact h
 ·exact h.rev
inductive xK (vs:FH)(H:Hp)(Q:VK):Prop where
 | mk (c:Int) (be a:Addr) (A:Sa) (z0:vs=[.int c,.ref a]) (z1:StR be A.n H a A.g A.go A.es A.co) (z2:AOk A) (z3:1<=A.n) (z4:∀ (r:Addr) (us:FH) (ps:DL) (H':Hp),aN H H'->H r=none->H' r=some (.lst us)->RiI H' us ps->ps.length<=50->Q (.ref r) H'):xK  vs H Q
def vC:Sp:=fun vs H Q _=>xK  vs H Q
def xY {k:Nat} (hk:3<=k) (F:Fun K "_law_rises" "_law_rises" lU f fd) (B:Bt mg) (Rs:Df P w K mg base "_law_draws" 1 WZ (oH K)) (QP:Df P w K mg base "_law_book_of" 3 ZI Cz) (RW:Df P w K mg base "_law_owed" k WU (vR K))
  (Sm:Df P w K mg base "_law_step_by_step" (k+1) WB BK) (Sj:Df P w K mg base "_law_roof" 1 XE (Nb K)) (Sz:Df P w K mg base "_law_who" 1 Ya Nm):bH P w K mg base CX0 (k+2) f fd XG vC:=by
 refine okA F cH fun _ _ _ _ H _ Q E hr h=>?_
 obtain⟨c,be,a,S,rfl,hst,ok,n1,q⟩:=h
 refine⟨_,(au (aP (i:=2) cH.nd U (VF U) (aY Rs hr (aa (aR bR (pv 0) aq) (aa (bA (aa aq (aa aq (aa aq (aa aq (aa aq ao)))))) ao))))
 (au (aP (i:=3) cH.nd U (VF U) (aF (r:=iR K) aU U B.len_ bJ (aa (pxT K (pv 1) aq) ao)))
 (au (aP (i:=4) cH.nd U (aaC U) (aY QP hr (aa (pv 1) ao)))
 (au (aW (aH uW (pxL K (pv 2) aq) aq) (au (lX (L:=ZN) (F:=["_law_book","_law_state"]) (cap:=[4,1]) (j:=5) cH.nd U (VF U) U (bF U U (by kernel_rfl)) (bW U B.range_ (aa (pv 3) ao)) (fun _ _ _ _ _=>(aJ (i:=0) (bw (by decide+kernel)) U (VF U))) (fun _ _ _ _ _=>(jf (aH lC (aY RW hr (aa (pxL K (pv 1) (pv 0)) (aa (pxT K (pv 2) aq) ao))) (pxT K (pxT K (pv 2) aq) (pv 0))))) (fun _ _ _ _ _=>(pv 0)))
 (az (aW (aH (r:=Sv K) (Gb hr.o9) (pv 5) (bA ao)) (au (aP (i:=6) cH.nd U (VF U) (pxL K (pv 5) (aR cA (pxL K (pv 2) aq) (aF (r:=iR K) aU U B.len_ bJ (aa (pv 5) ao)))))
 (az (aD (bA (aa (aZ (aa (pv 6) (aa (aY RW hr (aa (pxL K (pv 4) (pv 6)) (aa (pxT K (pv 1) aq) ao))) ao))) ao))))) aC))) aC)
 (au (aW (aH uW (pxL K (pv 2) aq) aq) (au (aP (i:=7) cH.nd U (aaC U) (aY Sm hr (aa (pv 4) (aa (pxT K (pv 1) aq) (aa (aY Sj hr (aa (pv 4) (aa (pxT K (pv 1) aq) ao))) ao)))))
 (au (lX (L:=ZN) (F:=["_law_high","_law_state"]) (cap:=[7,1]) (j:=5) cH.nd U (VF U) U (bF U U (by kernel_rfl)) (bW U B.range_ (aa (pv 3) ao)) (fun _ _ _ _ _=>(aJ (i:=0) (bw (by decide+kernel)) U (VF U))) (fun _ _ _ _ _=>(jf (aH lC (pxT K (pv 1) (pv 0)) (pxT K (pxT K (pv 2) aq) (pv 0))))) (fun _ _ _ _ _=>(aZ (aa (pv 0) (aa (pxT K (pv 1) (pv 0)) ao)))))
 (au (aW (PW.pt (kO (aH bj (pxL K (pv 2) aq) aq) (gP (aH (r:=Sv K) (Gb hr.o9) (pv 5) (bA ao))))) (az (bD (tu W7 PySem.F.slot_list_pop PySem.F.type_list_pop JH (pv 5) (aa (aR cA (pxL K (pv 2) aq) (aF (r:=iR K) aU U B.len_ bJ (aa (pv 5) ao))) ao)))) aC)
 (az (aD (Jy (pv 5) (iw (aR fc aq (aR iQ aq (aR cA (pxL K (pv 2) aq) aq)))))))))) aC)
 (au (aP (i:=8) cH.nd U (VF U) (aZ (aa (aY Sz hr (aa (pxL K (pv 2) aq) (aa (pv 3) ao))) (aa (pxL K (pv 2) aq) ao))))
 (az (aD (pxL K (bA (aa (bA (aa (pv 8) ao)) (aa (bA (aa (pv 8) (aa (aZ (aa (aY Sz hr (aa (pxL K (pv 2) aq) (aa (pv 3) ao))) (aa (pxL K (pv 2) aq) ao))) ao))) ao))) (aR fc (pxL K (pv 2) aq) aq)))))))))),?_⟩
 obtain⟨pa,ga,ta,kvs,h1,h2,h3,h4,h5,h6⟩:=id hst
 have n12:=ok.n12
 have lg:=ok.lg
 have hps:∀ q∈([8,997,997,10,10]:D6),0 < q:=by decide
 refine bV (fun σ H1=>∃ (dr:Addr) (d0 d1 d2 d3 d4:Int),σ=[oI c,oR a,oR dr,none,none,none,none,none,none]/\aN H H1/\H1 dr=some (.lst [.int d0,.int d1,.int d2,.int d3,.int d4])/\0<=d0/\d0 < 8) ?_ ?_
 ·intro N Rc
  refine⟨_,U,_,_,U,U,smN 5,fun p1 hp1=>⟨_,p1,[8,997,997,10,10],U,sqL aj,by decide,by decide,fun p2 hp2=>?_⟩⟩
  obtain⟨d0,k0,b0⟩:=dj (c:=qY (c+3)) (i:=0) hps U
  cases k0
  exact Rc _ _ ⟨p2,_,_,_,_,_,U,(aA hp1 _).trans (aA hp2 _),aj,b0.1,b0.2⟩
 rintro σ H1 ⟨dr,d0,d1,d2,d3,d4,rfl,s1,e1,b0,b8⟩
 refine bV (fun σ H2=>σ=[oI c,oR a,oR dr,some (vN S.n),none,none,none,none,none]/\H2=H1) ?_ ?_
 ·intro N Rc
  refine⟨_,U,a,_,_,_,U,U,sqT (s1 _ _ h1),gt0,pa,_,U,.inl (sqL (s1 _ _ h2)),Rc _ _ ⟨?_,U⟩⟩
  rw[cP]
  rfl
 rintro σ H2 ⟨rfl,rfl⟩
 refine bV (fun σ H3=>∃ (b:Addr) (bk:List (List Pl)),σ=[oI c,oR a,oR dr,some (vN S.n),oR b,none,none,none,none]/\aN H2 H3/\Ob S.n H3 b bk/\bk.length=S.n) ?_ ?_
 ·intro N Rc
  exact⟨_,U,be,a,S,U,hst.same s1,ok,fun b bk H3 s3 hb lb=>Rc _ _ ⟨b,bk,U,s3,hb,lb⟩⟩
 rintro σ H3 ⟨b,bk,rfl,s3,hB,lb⟩
 have e3:=s3 _ _ e1
 have s03:=s1.trans s3
 obtain⟨us0,hb,rb,l12⟩:=id hB
 have lu0:=rb.length
 have hst3:=hst.same s03
 have bat:∀ j:Nat,j < S.n->∃ (c:Addr) (as:D0) (ps:List Pl),us0[j]? = some (.ref c)/\H3 c=some (.lst (as.map V.ref))/\as.length<=100/\fC S.n H3 as ps:=fun j hj=>by
  have hy:us0[j]? = some us0[j]:=Vz (by lia)
  obtain⟨cc,as,ps,ec,hps,hc,l100,rps⟩:=rb.get hy
  exact⟨cc,as,ps,by rw[hy,ec],hc,l100,rps⟩
 have gat:∀ j:Nat,j < S.n->∃ z:Int,atI (S.g.map V.int) (j:Int)=some (.int z):=fun j hj=>⟨_,kI (by lia)⟩
 refine bV (fun σ H4=>∃ (u:FC),σ=[oI c,oR a,oR dr,some (vN S.n),oR b,u,none,none,none]/\aN H3 H4) ?_ ?_
 ·intro N Rc
  refine⟨_,U,dr,_,_,_,U,U,sqL e3,gt0,_,_,U,U,_,U,jE (fun _=>?_) (fun _=>Rc _ _ ⟨_,U,aN.refl _⟩)⟩
  refine bV (fun σ H4=>∃ (D:Addr) (ms:D7),σ=[oI c,oR a,oR dr,some (vN S.n),oR b,oR D,none,none,none]/\aN H3 H4/\H4 D=some (.lst (ms.map vN))/\ms.length<=S.n/\∀ x∈ms,x < S.n) ?_ ?_
  ·intro N5 R5
   refine⟨_,U,_,U,by lia,by lia,fun D hD=>cT (lo:=0) (n:=((S.n:Nat):Int).toNat) (fun j zs σ' H5=>(∃ u,σ'=[u,oR b,oR a])/\aN H3 H5/\H5 D=some (.lst zs)/\∃ ms:D7,zs=ms.map vN/\ms.length<=j/\∀ x∈ms,x < S.n)
    ⟨⟨_,U⟩,aA hD _,aj,[],U,Vw _,by simp⟩ (fun j zs σ' H5 _ h=>h.2.2.1) ?_ ?_⟩
   ·rintro j zs σ' H5 hj ⟨⟨u,rfl⟩,sm,eD,ms,rfl,lm,hm⟩
    have hj':j < S.n:=by lia
    rw[Xw]
    obtain⟨cc,as,ps,hcc,hc,l100,rps⟩:=bat j hj'
    obtain⟨z,hz⟩:=gat j hj'
    refine⟨_,U,_,U,b,_,_,_,U,U,sqL (sm _ _ hb),dh hcc,_,U,a,_,_,_,U,U,sqT ((s03.trans sm) _ _ h1),gt1,cc,ga,S.n,as,ps,S.g,U,sm _ _ hc,l100,rps.aO (fun a xs y=>sm _ _ y),sqT ((s03.trans sm) _ _ h3),by lia,fun H6 s6=>?_⟩
    have s36:=s03.trans (sm.trans s6)
    refine⟨_,U,a,_,_,_,U,U,sqT (s36 _ _ h1),gt1,_,U,ga,_,_,_,U,U,sqT (s36 _ _ h3),hz,_,_,U,U,_,U,?_⟩
    refine jE (fun _=>?_) (fun _=>⟨⟨_,U⟩,sm.trans s6,s6 _ _ eD,ms,U,by lia,hm⟩)
    refine⟨_,U,s6 _ _ eD,aQ (by rw[Vs];lia),⟨_,U⟩,aV (sm.trans s6) hD _,aj,ms++[j],?_,by rw[VH];show ms.length+1<=j+1;lia,?_⟩
    ·rw[VD]
     rfl
    ·intro x hx
     rcases List.mem_append.mp hx with y | y
     ·exact hm x y
     ·rw[List.mem_singleton.mp y]
      exact hj'
   ·rintro zs σ' H5 ⟨_,sm,eD,ms,rfl,lm,hm⟩
    exact R5 _ _ ⟨D,ms,U,sm,eD,by lia,hm⟩
  rintro σ H4 ⟨D,ms,rfl,s4,eD,lm,hm⟩
  have e4:=s4 _ _ e3
  refine⟨_,U,small (Wr _),fun p hp=>?_⟩
  generalize eH5:upd H4 p _=H5
  obtain⟨g5,e5⟩:=aK eH5 hp
  have s5:=s4.trans g5
  refine⟨D,p,_,U,U,sqL (g5 _ _ eD),sqL e5,_,U,?_⟩
  cases ms with
  | nil=>exact bZ (nN (Rc _ _ ⟨_,U,s5⟩))
  | cons m0 mr =>
   refine cW ?_
   have lp:0 < (((m0::mr).map vN).length:Int):=by rw[Vs,V2];lia
   obtain⟨kk,ek⟩:=W8 (Wt d1 (show (((m0::mr).map vN).length:Int)≠0 by lia))
   have hkk:kk < (m0::mr).length:=by have:=Wl d1 lp;rw[Vs] at this ek;lia
   have hm0:=hm (m0::mr)[kk] (acf hkk)
   obtain⟨cc,as,ps,hcc,hc,l100,rps⟩:=bat _ hm0
   refine bV (fun σ H6=>σ=[oI c,oR a,oR dr,some (vN S.n),oR b,oR D,some (vN (m0::mr)[kk]),none,none]/\H6=H5) ?_ ?_
   ·intro N6 R6
    refine⟨_,U,_,U,dr,_,_,_,U,U,sqL (g5 _ _ e4),gt1,_,U,D,_,U,.inl (sqL (g5 _ _ eD)),_,_,U,U,lp,D,_,_,_,U,U,sqL (g5 _ _ eD),?_,R6 _ _ ⟨U,U⟩⟩
    show atI _ (d1 % (((m0::mr).map vN).length:Int))=_
    rw[ek]
    refine dh ?_
    rw[V7,Vz hkk]
    rfl
   rintro σ H6 ⟨rfl,rfl⟩
   have s06:=s03.trans s5
   refine⟨_,U,_,U,_,U,b,_,_,_,U,U,sqL (s5 _ _ hb),dh hcc,_,U,a,_,_,_,U,U,sqT (s06 _ _ h1),gt1,cc,ga,S.n,as,ps,S.g,U,s5 _ _ hc,l100,rps.aO (fun a xs y=>s5 _ _ y),sqT (s06 _ _ h3),by lia,fun H7 s7=>?_⟩
   refine⟨smN 2,fun t ht=>⟨smN 1,fun r hr0=>?_⟩⟩
   have st:=aA ht (.tup [vN (m0::mr)[kk],.int (duF S.g 0 ps)])
   have s67:=s7.trans st
   refine q r _ [((m0::mr)[kk],duF S.g 0 ps)] _ (s06.trans (s67.trans (aA hr0 _))) ((s06.trans s67).free hr0) aj (.cons ?_ .nil) (by show 1<=50;decide)
   exact aA hr0 _ _ _ aj
 rintro σ H4 ⟨u,rfl,s4⟩
 have e4:=s4 _ _ e3
 have s04:=s03.trans s4
 refine bV (fun σ H5=>σ=[oI c,oR a,oR dr,some (vN S.n),oR b,u,none,none,none]/\H5=H4/\6<=d0) ?_ ?_
 ·intro N Rc
  refine⟨_,U,dr,_,_,_,U,U,sqL e4,gt0,_,_,U,U,_,U,?_⟩
  by_cases z6:d0 < 6
  case neg =>
   rw[dcF z6]
   exact bZ (nN (Rc _ _ ⟨U,U,by lia⟩))
  rw[dcT z6]
  refine cW ?_
  refine bV (fun σ H5=>∃ (hi:Addr) (z:D6),σ=[oI c,oR a,oR dr,some (vN S.n),oR b,u,none,oR hi,none]/\aN H4 H5/\H5 hi=some (.tup (z.map V.int))/\z.length=S.n) ?_ ?_
  ·intro N8 R8
   refine⟨_,U,_,U,a,_,_,_,U,U,sqT (s04 _ _ h1),gt1,_,U,_,U,a,_,_,_,U,U,sqT (s04 _ _ h1),gt1,b,ga,S.n,bk,S.g,U,hB.mono s4,sqT (s04 _ _ h3),by lia,fun r5 H5 s5 e5=>?_⟩
   exact⟨b,ga,r5,S.n,bk,S.g,rfF S.g bk,U,hB.mono (s4.trans s5),lb,(s04.trans s5) _ _ h3,lg,e5,by unfold rfF;rw[List.length_zipWith];lia,fun r6 z H6 s6 e6 lz=>R8 _ _ ⟨r6,z,U,s5.trans s6,e6,lz⟩⟩
  rintro σ H5 ⟨hi,z,rfl,s5,ehi,lz⟩
  have zat:∀ j:Nat,j < S.n->∃ y:Int,atI (z.map V.int) (j:Int)=some (.int y):=fun j hj=>⟨_,kI (by lia)⟩
  have s05:=s04.trans s5
  refine bV (fun σ H6=>∃ (D:Addr) (us:FH) (ps:DL),σ=[oI c,oR a,oR dr,some (vN S.n),oR b,oR D,none,oR hi,none]/\aN H5 H6/\H5 D=none/\H6 D=some (.lst us)/\RiI H6 us ps/\ps.length<=S.n) ?_ ?_
  ·intro N9 R9
   refine⟨_,U,_,U,by lia,by lia,fun D hD=>cT (lo:=0) (n:=((S.n:Nat):Int).toNat) (fun j zs σ' H6=>(∃ u,σ'=[u,oR hi,oR a])/\aN H5 H6/\H6 D=some (.lst zs)/\∃ ps:DL,RiI H6 zs ps/\ps.length<=j)
    ⟨⟨_,U⟩,aA hD _,aj,[],.nil,Vw _⟩ (fun j zs σ' H6 _ h=>h.2.2.1) ?_ ?_⟩
   ·rintro j zs σ' H6 hj ⟨⟨u,rfl⟩,sm,eD,ps,hri,lm⟩
    have hj':j < S.n:=by lia
    rw[Xw]
    obtain⟨y,hy⟩:=zat j hj'
    obtain⟨y2,hy2⟩:=gat j hj'
    have s06:=s05.trans sm
    refine⟨_,U,_,U,hi,_,_,_,U,U,sqT (sm _ _ ehi),hy,_,U,a,_,_,_,U,U,sqT (s06 _ _ h1),gt1,_,U,ga,_,_,_,U,U,sqT (s06 _ _ h3),hy2,_,_,U,U,_,U,?_⟩
    refine jE (fun _=>?_) (fun _=>⟨⟨_,U⟩,sm,eD,ps,hri,by lia⟩)
    refine⟨_,U,_,U,_,U,hi,_,_,_,U,U,sqT (sm _ _ ehi),hy,smN 2,fun t ht=>?_⟩
    have st:=aA ht (.tup [.int (j:Int),.int y])
    have eDt:=st _ _ eD
    have tk:=cR (zs':=zs++[.ref t]) eDt
    have lz':=hri.length
    refine⟨eDt,aQ (by lia),⟨_,U⟩,aV (sm.trans st) hD _,aj,ps++[((j:Int),y)],RiI.snoc (tk _ _ aj) ((hri.aO fun a xs q=>st _ _ q).aO tk),by rw[VH];show ps.length+1<=j+1;lia⟩
   ·rintro zs σ' H6 ⟨_,sm,eD,ps,hri,lm⟩
    exact R9 _ _ ⟨D,zs,ps,U,sm,hD,eD,hri,by lia⟩
  rintro σ H6 ⟨D,us,ps,rfl,s6,fD,eD,hri,lps⟩
  have fD4:=s5.free fD
  have lus:=hri.length
  have e6:=(s5.trans s6) _ _ e4
  refine bV (fun σ H7=>∃ (us:FH) (ps:DL),σ=[oI c,oR a,oR dr,some (vN S.n),oR b,oR D,none,oR hi,none]/\aN H4 H7/\H7 D=some (.lst us)/\RiI H7 us ps/\ps.length<=S.n) ?_ ?_
  ·intro NA RA
   have out:∀ H7,aN H6 H7->NA [some (.int c),some (.ref a),some (.ref dr),some (vN S.n),some (.ref b),some (.ref D),none,some (.ref hi),none] H7:=fun H7 s7=>RA _ _ ⟨us,ps,U,s5.trans (s6.trans s7),s7 _ _ eD,hri.aO (fun a xs y=>s7 _ _ y),lps⟩
   refine mz (fun cc H7=>aN H6 H7/\(cc=true->us≠[])) (fun Q' Rq=>?_) ?pp (fun H7 z=>out H7 z.1)
   ·refine⟨_,U,dr,_,_,_,U,U,sqL e6,gt0,U,_,U,?_⟩
    refine jE (fun _=>?_) (fun _=>Rq _ _ ⟨aN.refl _,fun z=>by cases z⟩)
    refine⟨_,U,small (Wr _),fun p hp=>?_⟩
    generalize eH7:upd H6 p _=H7
    obtain⟨g7,e7⟩:=aK eH7 hp
    refine⟨D,p,_,U,U,sqL (g7 _ _ eD),sqL e7,_,U,Rq _ _ ⟨g7,fun y x=>?_⟩⟩
    rw[x] at y
    cases y
   case pp =>
    rintro H7 ⟨s7,hne⟩
    have hne:=hne U
    have eD7:=s7 _ _ eD
    have lpo:0 < us.length:=List.length_pos_iff.mpr hne
    obtain⟨kk,ek⟩:=W8 (Wt d1 (show ((us.length:Nat):Int)≠0 by lia))
    have hkk:kk < us.length:=by have:=Wl d1 (show (0:Int) < ((us.length:Nat):Int) by lia);lia
    refine⟨_,U,.inl ⟨U,_,sqL eD7⟩,_,U,dr,_,_,_,U,U,sqL (s7 _ _ e6),gt1,_,U,D,us,U,.inl (sqL eD7),_,_,U,U,(show (0:Int) < ((us.length:Nat):Int) by lia),?_⟩
    dsimp only [Kv]
    rw[ek]
    refine Lj eD7 hkk (by lia) (Vz hkk) ?_
    refine RA _ _ ⟨us.eraseIdx kk,ps.eraseIdx kk,U,aV (s5.trans (s6.trans s7)) fD4 _,aj,((hri.aO fun a xs y=>s7 _ _ y).aO (cR eD7)).erase kk,?_⟩
    have:=List.length_eraseIdx_le ps kk
    lia
  rintro σ H7 ⟨us,ps,rfl,s7,eD7,hri,lps⟩
  have wy:(1:Int) - 2 * (d2 % 2)=1∨(1:Int) - 2 * (d2 % 2) = -1:=by lia
  have s07:=s04.trans s7
  refine⟨_,U,_,U,dr,_,_,_,U,U,sqL (s7 _ _ e4),gt2,_,_,U,U,(show (0:Int) < 2 by decide),_,_,U,U,.inl ⟨by decide,by decide⟩,_,_,U,U,_,U,_,D,us,U,wy,U,sqL eD7,fun r hr0=>?_⟩
  have sr:=aA hr0 (.lst (Ec (1 - 2 * (d2 % 2)) us))
  refine q r _ (Ec (1 - 2 * (d2 % 2)) ps) _ (s07.trans sr) (s07.free hr0) aj ((hri.aO fun a xs y=>sr _ _ y).way _) (by rw[qN];lia)
 rintro σ H5 ⟨rfl,rfl,b6⟩
 refine bV (fun σ H6=>∃ (fi:Addr) (o0:Int),σ=[oI c,oR a,oR dr,some (vN S.n),oR b,u,none,none,oR fi]/\aN H5 H6/\H6 fi=some (.tup [.int o0,.int d3])) ?_ ?_
 ·intro N Rc
  refine⟨_,U,dr,_,_,_,U,U,sqL e4,gt1,_,U,d1,_,U,(show (0:Int) < ((S.n:Nat):Int) by lia),fun z H6 s6=>?_⟩
  refine⟨_,U,dr,_,_,_,U,U,sqL (s6 _ _ e4),dD (k:=3) U,smN 2,fun t ht=>Rc _ _ ⟨t,z,U,s6.trans (aA ht _),aj⟩⟩
 rintro σ H6 ⟨fi,o0,rfl,s6,efi⟩
 refine⟨_,U,smN 1,fun l1 hl1=>?_⟩
 generalize eF1:upd H6 l1 _=F1
 obtain⟨g1,f1⟩:=aK eF1 hl1
 have s61:=s6.trans g1
 refine⟨_,U,_,U,dr,_,_,_,U,U,sqL (s61 _ _ e4),gt2,_,U,d2,_,U,(show (0:Int) < ((S.n:Nat):Int) by lia),fun z F2 g2=>?_⟩
 refine⟨_,U,dr,_,_,_,U,U,sqL ((s61.trans g2) _ _ e4),dD (k:=4) U,smN 2,fun t ht=>?_⟩
 generalize eF3:upd F2 t _=F3
 obtain⟨g3,f3⟩:=aK eF3 ht
 refine⟨smN 2,fun l2 hl2=>?_⟩
 generalize eF4:upd F3 l2 _=F4
 obtain⟨g4,f4⟩:=aK eF4 hl2
 refine⟨smN 2,fun l3 hl3=>?_⟩
 generalize eF5:upd F4 l3 _=F5
 obtain⟨g5,f5⟩:=aK eF5 hl3
 have s15:=g2.trans (g3.trans (g4.trans g5))
 have sall:=s04.trans (s61.trans s15)
 have hl:∃ (r:Addr) (us:FH) (ps:DL),([.ref l1,.ref l2]:FH)[(d0 - 6).toNat]? = some (.ref r)/\H r=none/\F5 r=some (.lst us)/\RiI F5 us ps/\ps.length<=2:=by
  have efi5:=(g1.trans s15) _ _ efi
  rcases (show d0=6∨d0=7 by lia) with rfl | rfl
  ·exact⟨l1,_,[(o0,d3)],U,(s04.trans s6).free hl1,s15 _ _ f1,.cons efi5 .nil,(by show 1<=2;decide)⟩
  ·exact⟨l2,_,[(o0,d3),(z,d4)],U,(s04.trans (s61.trans (g2.trans g3))).free hl2,g5 _ _ f4,.cons efi5 (.cons ((g4.trans g5) _ _ f3) .nil),Vw 2⟩
 obtain⟨r,us,ps,hr1,fr,er,hri,lps⟩:=hl
 refine⟨_,U,dr,_,_,_,U,U,sqL ((s61.trans s15) _ _ e4),gt0,_,_,U,U,l3,_,_,_,U,U,sqL f5,?_,q r us ps F5 sall fr er hri (by lia)⟩
 show atI _ (d0 - 6)=_
 rw[show d0 - 6=(((d0 - 6).toNat:Nat):Int) by lia]
 exact dh hr1
abbrev oV:Stmt:=top 81
def bU:aG ["_law_cell","_law_state","_law_most","_law_drawn","_law_n","_law_one","_law_numbers","_law_number","_law_who_here","_law_pledge_here"] WE (aB oV):=c7
inductive HN (vs:FH)(H:Hp)(Q:VK):Prop where
 | mk (c:Int) (mo:Nat) (be a:Addr) (A:Sa) (z0:vs=[.int c,.ref a,.int (mo:Int)]) (z1:1<=mo) (z2:mo<=9) (z3:StR be A.n H a A.g A.go A.es A.co) (z4:AOk A) (z5:∀ (da:Addr) (d:vL) (H':Hp),aN H H'->DeR A.n H' da d->(∀ r,H' da=some (.tup [.str "hand",.ref r])->H r=none)->(A.n=0->d = .come)->Q (.ref da) H'):HN  vs H Q
def Mr:Sp:=fun vs H Q _=>HN  vs H Q
def Af {k:Nat} (hk:6<=k) (F:Fun K "_law_deed" "_law_deed" oV f fd) (B:Bt mg) (Rs:Df P w K mg base "_law_draws" 1 WZ (oH K)) (Sz:Df P w K mg base "_law_who" 1 Ya Nm) (Sf:Df P w K mg base "_law_rises" k XG vC)
  (Sr:Df P w K mg base "_law_under" 1 X1 uL) (Sb:Df P w K mg base "_law_pledge" 6 VX Bu):bH P w K mg base CX0 (k+1) f fd WE Mr:=by
 refine okA F bU fun _ _ _ _ H _ Q E hr h=>?_
 obtain⟨c,mo,be,a,S,rfl,m1,m9,hst,ok,q⟩:=h
 refine⟨_,(au (aP (i:=3) bU.nd U (VF U) (aY Rs hr (aa (pv 0) (aa (bA (aa aq (aa aq (aa aq (aa aq (aa aq ao)))))) ao))))
 (au (aP (i:=4) bU.nd U (VF U) (aF (r:=iR K) aU U B.len_ bJ (aa (pxT K (pv 1) aq) ao)))
 (au (aW (PW.pt (iI (aH bj (pv 4) aq) (d7 (aH uW (pxL K (pv 3) aq) (aR fc aq (aR iQ aq (bh (r:=Pn) qu U B.int_ t8 (aa (cY lC (pv 4) aq) ao)))))))) (az (aD (aZ (aa aL ao)))) aC)
 (au (aP (i:=5) bU.nd U (VF U) (aY Sz hr (aa (pxL K (pv 3) aq) (aa (pv 4) ao))))
 (au (aP (i:=6) bU.nd U (VF U) (aF (r:=xU) (j6 U) U B.sorted_ (by decide+kernel) (aa (pxT K (pv 1) aq) ao)))
 (au (aP (i:=7) bU.nd U (VF U) (aR fc (pxL K (pv 3) aq) aq))
 (au (aW (PW.pt (kO (aH (r:=Sv K) (Gb hr.o9) (pv 6) (bA ao)) (gP (aH lC (pxL K (pv 3) aq) aq)))) (az (aP (i:=7) bU.nd U (VF U) (pxL K (pv 6) (aR cA (pxL K (pv 3) aq) (aF (r:=iR K) aU U B.len_ bJ (aa (pv 6) ao)))))) aC)
 (au (aW (aH bj (pxL K (pv 3) aq) aq) (az (aD (aZ (aa aL (aa (pv 5) ao))))) aC)
 (au (aW (aH lC (pxL K (pv 3) aq) aq) (az (aD (aZ (aa aL (aa (aY Sf hr (aa (pv 0) (aa (pv 1) ao))) ao))))) aC)
 (au (aW (aH bj (pxL K (pv 3) aq) aq) (az (aD (aZ (aa aL (aa (pv 7) ao))))) aC)
 (au (aP (i:=8) bU.nd U (VF U) (pv 5))
 (au (aW (PW.pt (kO (aH bj (pxL K (pv 3) aq) aq) (gP (Ji (QD hr.iz (pv 7) (pxT K (pv 1) aq)))))) (az (aP (i:=8) bU.nd U (VF U) (pxT K (jT hr.iz (pxT K (pv 1) aq) (pv 7) (fun _ _=>U)) aq))) aC)
 (au (aP (i:=8) bU.nd U (VF U) (aR cA (pv 8) (pv 4)))
 (au (aP (i:=9) bU.nd U (VF U) (aY Sb hr (aa (aY Sr hr (aa (pv 0) (aa aq ao))) (aa (pv 4) (aa (pv 8) (aa aq (aa (pv 2) ao)))))))
 (au (aW (PW.pt (kO (aH bj (pxL K (pv 3) aq) aq) (gP (aH lC (pv 4) aq)))) (az (aP (i:=9) bU.nd U (VF U) (aY Sb hr (aa (aY Sr hr (aa (pv 0) (aa aq ao))) (aa (pv 4) (aa (aR cA (aR bR (pv 8) aq) (pv 4)) (aa aq (aa (pv 2) ao)))))))) aC)
 (au (aW (aH bj (pxL K (pv 3) aq) aq) (az (aD (aZ (aa aL (aa (pv 7) (aa (pv 9) ao)))))) aC)
 (az (aD (aZ (aa aL (aa (pv 5) (aa (pv 9) ao)))))))))))))))))))))),?_⟩
 obtain⟨pa,ga,ta,kvs,h1,h2,h3,h4,h5,h6⟩:=id hst
 have n12:=ok.n12
 have l40:=ok.l40
 have hps:∀ q∈([18,997,40,12,9]:D6),0 < q:=by decide
 refine bV (fun σ H1=>∃ (dr:Addr) (d0 d1 d2 d3 d4:Int),σ=[oI c,oR a,some (.int (mo:Int)),oR dr,none,none,none,none,none,none]/\aN H H1/\H1 dr=some (.lst [.int d0,.int d1,.int d2,.int d3,.int d4])) ?_ ?_
 ·intro N Rc
  refine⟨_,U,smN 5,fun p1 hp1=>⟨_,p1,[18,997,40,12,9],U,sqL aj,by decide,by decide,fun p2 hp2=>?_⟩⟩
  exact Rc _ _ ⟨p2,_,_,_,_,_,U,(aA hp1 _).trans (aA hp2 _),aj⟩
 rintro σ H1 ⟨dr,d0,d1,d2,d3,d4,rfl,s1,e1⟩
 refine bV (fun σ H2=>σ=[oI c,oR a,some (.int (mo:Int)),oR dr,some (vN S.n),none,none,none,none,none]/\H2=H1) ?_ ?_
 ·intro N Rc
  refine⟨_,U,a,_,_,_,U,U,sqT (s1 _ _ h1),gt0,pa,_,U,.inl (sqL (s1 _ _ h2)),Rc _ _ ⟨?_,U⟩⟩
  rw[cP]
  rfl
 rintro σ H2 ⟨rfl,rfl⟩
 refine bV (fun σ H3=>σ=[oI c,oR a,some (.int (mo:Int)),oR dr,some (vN S.n),none,none,none,none,none]/\H3=H2/\1<=S.n) ?_ ?_
 ·intro N Rc
  refine mz (fun cc H3=>H3=H2/\(cc=false->1<=S.n)) (fun Q' Rq=>?_) (fun H3 z=>?_) (fun H3 z=>nN (Rc _ _ ⟨U,z.1,z.2 U⟩))
  ·refine⟨_,U,U,_,U,jE (fun _=>Rq _ _ ⟨U,fun z=>by cases z⟩) (fun y=>?_)⟩
   have n1:1<=S.n:=Nat.pos_of_ne_zero fun x=>y (dcT (by rw[x];rfl))
   exact⟨_,U,dr,_,_,_,U,U,sqL e1,gt0,_,U,_,_,U,U,.inr ⟨_,U,_,_,U,U,.inl ⟨by decide,by decide⟩,_,_,U,U,_,_,U,U,_,U,Rq _ _ ⟨U,fun _=>n1⟩⟩⟩
  ·obtain⟨rfl,_⟩:=z
   refine⟨smN 1,fun p hp=>?_⟩
   have sn:=aA hp (.tup [.str "come"])
   refine q p .come _ (s1.trans sn) (.come aj) (fun r hr0=>?_) fun _=>U
   rw[aj] at hr0
   cases hr0
 rintro σ H3 ⟨rfl,rfl,n1⟩
 refine bV (fun σ H4=>∃ z1:Int,σ=[oI c,oR a,some (.int (mo:Int)),oR dr,some (vN S.n),oI z1,none,none,none,none]/\aN H3 H4) ?_ ?_
 ·intro N Rc
  exact⟨_,U,dr,_,_,_,U,U,sqL e1,gt1,_,U,d1,_,U,(show (0:Int) < ((S.n:Nat):Int) by lia),fun z H6 s6=>Rc _ _ ⟨z,U,s6⟩⟩
 rintro σ H4 ⟨z1,rfl,s4⟩
 have s04:=s1.trans s4
 refine bV (fun σ H5=>∃ (l:Addr) (ms:D6),σ=[oI c,oR a,some (.int (mo:Int)),oR dr,some (vN S.n),oI z1,oR l,none,none,none]/\aN H4 H5/\H5 l=some (.lst (ms.map V.int))) ?_ ?_
 ·intro N Rc
  exact⟨_,U,a,_,_,_,U,U,sqT (s04 _ _ h1),gt2,ta,kvs,S.es.map fun e=>(e.1:Int),U,s04 _ _ h4,h5.keys,by rw[Vs];lia,fun ms pm sr l hl=>Rc _ _ ⟨l,ms,U,aA hl _,aj⟩⟩
 rintro σ H5 ⟨l,ms,rfl,s5,el⟩
 have s05:=s04.trans s5
 have e5:=(s4.trans s5) _ _ e1
 refine bV (fun σ H6=>∃ z2:Int,σ=[oI c,oR a,some (.int (mo:Int)),oR dr,some (vN S.n),oI z1,oR l,oI z2,none,none]/\H6=H5) ?_ ?_
 ·intro N Rc
  exact⟨_,U,dr,_,_,_,U,U,sqL e5,gt2,_,_,U,U,Rc _ _ ⟨_,U,U⟩⟩
 rintro σ H6 ⟨z2,rfl,rfl⟩
 refine bV (fun σ H7=>∃ z3:Int,σ=[oI c,oR a,some (.int (mo:Int)),oR dr,some (vN S.n),oI z1,oR l,oI z3,none,none]/\aN H6 H7) ?_ ?_
 ·intro N Rc
  refine mz (fun cc H7=>aN H6 H7/\(cc=true->ms≠[])) (fun Q' Rq=>?_) ?pp (fun H7 z=>nN (Rc _ _ ⟨_,U,z.1⟩))
  ·refine⟨_,U,small (Wr _),fun p hp=>?_⟩
   generalize eH7:upd H6 p _=H7
   obtain⟨g7,e7⟩:=aK eH7 hp
   refine⟨l,p,_,U,U,sqL (g7 _ _ el),sqL e7,_,U,?_⟩
   refine jE (fun y=>?_) (fun _=>Rq _ _ ⟨g7,fun z=>by cases z⟩)
   exact⟨_,U,dr,_,_,_,U,U,sqL (g7 _ _ e5),dD (k:=3) U,_,_,U,U,_,U,Rq _ _ ⟨g7,fun _ x=>by rw[x] at y;cases y⟩⟩
  case pp =>
   rintro H7 ⟨s7,hne⟩
   have hne:=hne U
   have lpo:0 < ms.length:=List.length_pos_iff.mpr hne
   have lp:(0:Int) < (((ms.map V.int).length:Nat):Int):=by rw[Vs];lia
   obtain⟨kk,ek⟩:=W8 (Wt d2 (show (((ms.map V.int).length:Nat):Int)≠0 by lia))
   have hkk:kk < ms.length:=by have:=Wl d2 lp;rw[Vs] at this ek;lia
   refine⟨_,U,_,U,dr,_,_,_,U,U,sqL (s7 _ _ e5),gt2,_,U,l,_,U,.inl (sqL (s7 _ _ el)),_,_,U,U,lp,l,_,_,_,U,U,sqL (s7 _ _ el),?_,Rc _ _ ⟨ms[kk],U,s7⟩⟩
   show atI _ (d2 % (((ms.map V.int).length:Nat):Int))=_
   rw[ek]
   refine dh ?_
   rw[V7,Vz hkk]
   rfl
 rintro σ H7 ⟨z3,rfl,s7⟩
 have s07:=s05.trans s7
 have e7:=s7 _ _ e5
 have hst7:=hst.same s07
 refine bV (fun σ H8=>σ=[oI c,oR a,some (.int (mo:Int)),oR dr,some (vN S.n),oI z1,oR l,oI z3,none,none]/\H8=H7) ?_ ?_
 ·intro N Rc
  refine⟨_,U,dr,_,_,_,U,U,sqL e7,gt0,U,_,U,jE (fun _=>?_) (fun _=>Rc _ _ ⟨U,U⟩)⟩
  refine⟨_,U,smN 2,fun p hp=>?_⟩
  have sn:=aA hp (.tup [.str "leave",.int z1])
  refine q p _ _ (s07.trans sn) (.leave aj) (fun r hr0=>?_) fun z=>by lia
  rw[aj] at hr0
  cases hr0
 rintro σ H8 ⟨rfl,rfl⟩
 refine bV (fun σ H9=>σ=[oI c,oR a,some (.int (mo:Int)),oR dr,some (vN S.n),oI z1,oR l,oI z3,none,none]/\H9=H8) ?_ ?_
 ·intro N Rc
  refine⟨_,U,dr,_,_,_,U,U,sqL e7,gt0,_,_,U,U,_,U,jE (fun _=>?_) (fun _=>Rc _ _ ⟨U,U⟩)⟩
  refine⟨_,U,_,U,c,be,a,S,U,hst7,ok,n1,fun r us ps H9 s9 fr er hri lps=>⟨smN 2,fun p hp=>?_⟩⟩
  have sn:=aA hp (.tup [.str "hand",.ref r])
  refine q p _ _ (s07.trans (s9.trans sn)) (.hand aj (sn _ _ er) (hri.aO fun a xs y=>sn _ _ y) (by lia)) (fun r' hr0=>?_) fun z=>by lia
  rw[aj] at hr0
  cases hr0
  exact s07.free fr
 rintro σ H9 ⟨rfl,rfl⟩
 refine bV (fun σ H10=>σ=[oI c,oR a,some (.int (mo:Int)),oR dr,some (vN S.n),oI z1,oR l,oI z3,none,none]/\H10=H9) ?_ ?_
 ·intro N Rc
  refine⟨_,U,dr,_,_,_,U,U,sqL e7,gt0,U,_,U,jE (fun _=>?_) (fun _=>Rc _ _ ⟨U,U⟩)⟩
  refine⟨_,U,smN 2,fun p hp=>?_⟩
  have sn:=aA hp (.tup [.str "withdraw",.int z3])
  refine q p _ _ (s07.trans sn) (.withdraw aj) (fun r hr0=>?_) fun z=>by lia
  rw[aj] at hr0
  cases hr0
 rintro σ H10 ⟨rfl,rfl⟩
 refine bV (fun σ H11=>∃ z4:Int,σ=[oI c,oR a,some (.int (mo:Int)),oR dr,some (vN S.n),oI z1,oR l,oI z3,oI z4,none]/\H11=H10) ?_ ?_
 ·intro N Rc
  exact⟨_,U,Rc _ _ ⟨z1,U,U⟩⟩
 rintro σ H11 ⟨z4,rfl,rfl⟩
 have h4':=s07 _ _ h4
 have dg:∀ (o:FC),rZ kvs (WN z3)=o->rA H11 ta (.int z3) o:=fun o ho=>by
  rw[← ho]
  exact rA.k (k:=WN z3) h4'
 refine bV (fun σ H12=>∃ z5:Int,σ=[oI c,oR a,some (.int (mo:Int)),oR dr,some (vN S.n),oI z1,oR l,oI z3,oI z5,none]/\H12=H11) ?_ ?_
 ·intro N Rc
  refine mz (fun cc H12=>H12=H11/\(cc=true->∃ e,fnE S.es z3=some e)) (fun Q' Rq=>?_) ?pq (fun H12 z=>nN (Rc _ _ ⟨_,U,z.1⟩))
  ·refine⟨_,U,dr,_,_,_,U,U,sqL e7,gt0,U,_,U,jE (fun _=>?_) (fun _=>Rq _ _ ⟨U,fun z=>by cases z⟩)⟩
   cases hf:fnE S.es z3 with
   | none=>exact⟨_,U,_,U,a,_,_,_,U,U,sqT (s07 _ _ h1),gt2,ta,none,U,dg none (h5.none (uO hf)),_,U,Rq _ _ ⟨U,fun z=>by cases z⟩⟩
   | some e =>
    obtain⟨t,p0,hv,ht,hp0⟩:=h5.find ok.eu.nd hf
    exact⟨_,U,_,U,a,_,_,_,U,U,sqT (s07 _ _ h1),gt2,ta,_,U,dg _ hv,_,U,Rq _ _ ⟨U,fun _=>⟨e,hf⟩⟩⟩
  case pq =>
   rintro H12 ⟨rfl,hf⟩
   obtain⟨e,hf⟩:=hf U
   obtain⟨t,p0,hv,ht,hp0⟩:=h5.find ok.eu.nd hf
   exact⟨_,U,a,_,_,_,U,U,sqT (s07 _ _ h1),gt2,_,U,ta,_,U,dg _ hv,t,_,_,_,U,U,sqT (s07 _ _ ht),gt0,Rc _ _ ⟨_,U,U⟩⟩
 rintro σ H12 ⟨z5,rfl,rfl⟩
 refine bV (fun σ H13=>∃ i:Nat,σ=[oI c,oR a,some (.int (mo:Int)),oR dr,some (vN S.n),oI z1,oR l,oI z3,some (vN i),none]/\H13=H12/\i < S.n) ?_ ?_
 ·intro N Rc
  obtain⟨i,ei⟩:=W8 (Wt z5 (show ((S.n:Nat):Int)≠0 by lia))
  have hi:i < S.n:=by have:=Wl z5 (show (0:Int) < ((S.n:Nat):Int) by lia);lia
  refine⟨_,U,_,U,_,_,U,U,(show (0:Int) < ((S.n:Nat):Int) by lia),Rc _ _ ⟨i,?_,U,hi⟩⟩
  show[some (.int c),some (.ref a),some (.int (mo:Int)),some (.ref dr),some (vN S.n),some (.int z1),some (.ref l),some (.int z3),some (.int (z5 % ((S.n:Nat):Int))),none]=_
  rw[ei]
  rfl
 rintro σ H13 ⟨i,rfl,rfl,hi⟩
 refine bV (fun σ H14=>∃ (pd:Addr) (pl:Pl),σ=[oI c,oR a,some (.int (mo:Int)),oR dr,some (vN S.n),oI z1,oR l,oI z3,some (vN i),oR pd]/\aN H13 H14/\kE S.n H14 pd pl) ?_ ?_
 ·intro N Rc
  refine⟨_,U,c,1,U,by decide,_,U,_,U,_,U,_,S.n,i,2,mo,U,n1,n12,hi,by decide,by decide,m1,m9,fun pd pl H14 s14 hp=>Rc _ _ ⟨pd,pl,U,s14,hp⟩⟩
 rintro σ H14 ⟨pd,pl,rfl,s14,hpd⟩
 have e14:=s14 _ _ e7
 refine bV (fun σ H15=>∃ (pd:Addr) (pl:Pl),σ=[oI c,oR a,some (.int (mo:Int)),oR dr,some (vN S.n),oI z1,oR l,oI z3,some (vN i),oR pd]/\aN H13 H15/\kE S.n H15 pd pl) ?_ ?_
 ·intro N Rc
  refine mz (fun cc H15=>H15=H14) (fun Q' Rq=>?_) ?pr (fun H15 z=>nN (Rc _ _ ⟨pd,pl,U,by rw[z];exact s14,by rw[z];exact hpd⟩))
  ·refine⟨_,U,dr,_,_,_,U,U,sqL e14,dD (k:=4) U,U,_,U,jE (fun _=>?_) (fun _=>Rq _ _ U)⟩
   exact⟨_,U,_,_,U,U,_,U,Rq _ _ U⟩
  case pr =>
   rintro H15 rfl
   obtain⟨i2,ei⟩:=W8 (Wt ((i:Int)+1) (show ((S.n:Nat):Int)≠0 by lia))
   have hi2:i2 < S.n:=by have:=Wl ((i:Int)+1) (show (0:Int) < ((S.n:Nat):Int) by lia);lia
   refine⟨_,U,c,1,U,by decide,_,U,_,U,_,_,U,U,_,U,_,_,U,U,(show (0:Int) < ((S.n:Nat):Int) by lia),_,U,PJ c 1,S.n,i2,2,mo,?_,n1,n12,hi2,by decide,by decide,m1,m9,fun pd pl H16 s16 hp=>Rc _ _ ⟨pd,pl,U,s14.trans s16,hp⟩⟩
   show[V.int (PJ c 1),V.int (S.n:Int),V.int (((i:Int)+1) % ((S.n:Nat):Int)),V.int 2,V.int (mo:Int)]=_
   rw[ei]
 rintro σ H15 ⟨pd,pl,rfl,s15,hpd⟩
 have e15:=s15 _ _ e7
 have s015:=s07.trans s15
 refine bV (fun σ H16=>σ=[oI c,oR a,some (.int (mo:Int)),oR dr,some (vN S.n),oI z1,oR l,oI z3,some (vN i),oR pd]/\H16=H15) ?_ ?_
 ·intro N Rc
  refine⟨_,U,dr,_,_,_,U,U,sqL e15,gt0,U,_,U,jE (fun _=>?_) (fun _=>Rc _ _ ⟨U,U⟩)⟩
  refine⟨_,U,_,U,smN 3,fun p hp=>?_⟩
  have sn:=aA hp (.tup [.str "change",.int z3,.ref pd])
  refine q p _ _ (s015.trans sn) (.change aj (hpd.mono sn)) (fun r hr0=>?_) fun z=>by lia
  rw[aj] at hr0
  cases hr0
 rintro σ H16 ⟨rfl,rfl⟩
 refine⟨_,U,_,U,smN 3,fun p hp=>?_⟩
 have sn:=aA hp (.tup [.str "pledge",.int z1,.ref pd])
 refine q p _ _ (s015.trans sn) (.pledge aj (hpd.mono sn)) (fun r hr0=>?_) fun z=>by lia
 rw[aj] at hr0
 cases hr0
abbrev oX:Stmt:=top 51
def yX:aG Zl Zl (aB oX):=c7
inductive MF (CS CB:Addr)(vs:FH)(H:Hp)(Q:VK):Prop where
 | mk (b be ah dx nw ra:Addr) (n co:Nat) (xs zs us:FH) (g:D6) (go:D7) (es:List Ent) (ps:DL) (z0:vs=[.ref b,.ref ra]) (z1:Bn CS CB n H b be ah dx nw xs zs g go es co) (z2:H ra=some (.lst us)) (z3:RiI H us ps) (z4:ps.length<=100) (z5:∀ H',aN H H'->Q (.bl (decide (haW n g go es ps = ""))) H'):MF CS CB vs H Q
def RG (CS CB:Addr):Sp:=fun vs H Q _=>MF CS CB vs H Q
def zR {CS CB G:Addr} {x:XA} {k:Nat} (F:Fun K "may_hand" "may_hand" oX f fd) (T:zF K CB) (UI:mg "BoonError" = some (.ref G)) (RX:∀ w:Wb,XRd K (x.of w) G "word") (P8:Dx P w K mg base "handed_in" k YR (qe CS x)):bH P w K mg base CX0 (k+1) f fd Zl (RG CS CB):=by
 refine okA F yX fun _ _ _ _ H _ Q E hr h=>?_
 obtain⟨b,be,ah,dx,nw,ra,n,co,xs,zs,us,g,go,es,ps,rfl,hB,hra,hri,p100,q⟩:=h
 refine⟨_,au (Oe (G:=G) (f:="word") ⟨U,U⟩ U UI fun pn E W hx=>az (bD (pK P8 hr hx (aa (aX K U (pv 0)) (aa (pv 1) ao))))) (az (aD fK)),?_⟩
 refine⟨_,U,b,CB,dx,_,_,U,hB.hb,T.cl,T.now,U,_,U,nw,ra,n,co,g,go,es,us,ps,U,hB.st,hB.lg,hB.l40,hra,hri,p100,fun z dx' H1 s1 e1=>⟨_,dx',U,U,RX _,fun x u hx=>?_⟩,fun z st' H1 s1 hst1=>?_⟩
 ·have:=q (upd H1 x u) (s1.trans (aA hx u))
  rw[dcF z] at this
  exact this
 ·have:=q H1 s1
  rw[dcT z] at this
  exact this
section
variable {CS CB:Addr}{n:Nat}{H:Hp}{b be ah dx nw l st:Addr}{xs zs us vs:FH}{g:D6}{go:D7}{es:List Ent}{co:Nat}
def Tn (h:H l=some (.lst us)):Ks CS H (upd H l (.lst vs)):=⟨fun a _ q=>by rw[aM (fun z=>by rw[z,h] at q;cases q)];exact q,fun a _ _ q=>by rw[aM (fun z=>by rw[z,h] at q;cases q)];exact q⟩
def Bn.Qd (B:Bn CS CB n H b be ah dx nw xs zs g go es co)(h:H l=some (.lst us))(n1:l≠be)(n2:l≠ah):Bn CS CB n (upd H l (.lst vs)) b be ah dx nw xs zs g go es co:=by
 have hb:=B.hb
 exact⟨by rw[aM (fun z=>by rw[z,h] at hb;cases hb)];exact hb,by rw[aM n1.symm];exact B.hbe,by rw[aM n2.symm];exact B.hah,B.st.ks (Tn h),B.nb,B.lg,B.n12,B.l40,B.gn,B.gl⟩
def StR.Qd (B:StR be n H st g go es co)(h:H l=some (.lst us))(ne:us≠prF n go):StR be n (upd H l (.lst vs)) st g go es co:=by
 obtain⟨pa,ga,ta,kvs,h1,h2,h3,h4,h5,h6⟩:=B
 have k:=Tn (CS:=0) (vs:=vs) h
 exact⟨pa,ga,ta,kvs,k.1 _ _ h1,by rw[aM (fun z=>by rw[z,h] at h2;cases h2;exact ne U)];exact h2,k.1 _ _ h3,by rw[aM (fun z=>by rw[z,h] at h4;cases h4)];exact h4,h5.aO k.1,h6⟩
def Pu {ws:FH}{z:Addr}:ws++[V.ref z]≠prF n go:=fun e=>by
 have:V.ref z∈prF n go:=by rw[← e];simp
 obtain⟨i,_,y⟩:=List.mem_map.mp this
 cases y
end
def Tu {A:Sa}{d:vL}:A.n<=(A.aft d).n:=by
 cases d with
 | come=>exact Xq _
 | leave=>exact Vw _
 | pledge=>exact Vw _
 | hand=>exact Vw _
 | change=>exact Vw _
 | withdraw=>exact Vw _
abbrev mj:Stmt:=top 83
def gK:aG ["_law_boon_here","_law_cells","_law_most","_law_past","_law_cell","_law_deed_here"] WA (aB mj):=c7
inductive CT (CS CB:Addr)(vs:FH)(H:Hp)(Q:VK):Prop where
 | mk (b be ah dx nw l:Addr) (mo:Nat) (cs:D6) (z0:vs=[.ref b,.ref l,.int (mo:Int)]) (z1:1<=mo) (z2:mo<=9) (z3:Bn CS CB 0 H b be ah dx nw [] [] [] [] [] 0) (z4:H l=some (.lst (cs.map V.int))) (z5:l≠be) (z6:0 < cs.length) (z7:cs.length<=200) (z8:∀ (pl st ah nw:Addr) (ws xs zs:FH) (A:Sa) (H':Hp),But b be H H'->H' pl=some (.lst (ws++[.ref st]))->Bn CS CB A.n H' b be ah dx nw xs zs A.g A.go A.es A.co->xs.length<=cs.length->StR be A.n H' st A.g A.go A.es A.co->AOk A->1<=A.n->Q (.ref pl) H'):CT CS CB vs H Q
def Jv (CS CB:Addr):Sp:=fun vs H Q _=>CT CS CB vs H Q
def yt {CS CB:Addr} {x:XA} {k:Nat} (hk:10<=k) (F:Fun K "_law_grown" "_law_grown" mj f fd) (B:Bt mg) (Q1:Df P w K mg base "_law_deed" 9 WE Mr) (Sc:Df P w K mg base "_law_refusal" 8 WO xH)
  (Re:Dx P w K mg base "_law_do" k WG (Uo CS CB x)) (QO:Df P w K mg base "_law_after" 2 WO zL):bH P w K mg base CX0 (k+1) f fd WA (Jv CS CB):=by
 refine okA F gK fun _ _ _ _ H _ Q E hr h=>?_
 obtain⟨b,be,ah,dx,nw,l,mo,cs,rfl,m1,m9,hB,hl,nl,c0,c2,q⟩:=h
 refine⟨_,(au (aP (i:=3) gK.nd U (VF U) (bA (aa (aZ (aa (bA ao) (aa (aZ ao) (aa Cr (aa aq ao))))) ao)))
 (au (cV Wq U (dC (pv 1)) (aJ (i:=4) gK.nd U (VF U)) (au (aP (i:=5) gK.nd U (VF U) (aY Q1 hr (aa (pv 4) (aa (pxL K (pv 3) (yN rO aq)) (aa (pv 2) ao)))))
 (az (aW (aH bj (aY Sc hr (aa (pxL K (pv 3) (yN rO aq)) (aa (pv 5) ao))) aL) (au (bD (pK Re hr Fv (aa (pv 0) (aa (pv 5) ao))))
 (az (bD (tu W7 Xg Xf du (pv 3) (aa (aY QO hr (aa (pxL K (pv 3) (yN rO aq)) (aa (pv 5) ao))) ao))))) aC))))
 (az (aD (pv 3))))),?_⟩
 refine bV (fun σ H1=>∃ (pt st:Addr),σ=[oR b,oR l,some (.int (mo:Int)),oR pt,none,none]/\aN H H1/\H pt=none/\H1 pt=some (.lst [.ref st])/\StR be 0 H1 st [] [] [] 0) ?_ ?_
 ·intro N Rc
  refine⟨smN 0,fun a1 h1=>?_⟩
  generalize eF1:upd H a1 _=F1
  obtain⟨gf1,ef1⟩:=aK eF1 h1
  refine⟨smN 0,fun a2 h2=>?_⟩
  generalize eF2:upd F1 a2 _=F2
  obtain⟨gf2,ef2⟩:=aK eF2 h2
  intro a3 h3
  generalize eF3:upd F2 a3 _=F3
  obtain⟨gf3,ef3⟩:=aK eF3 h3
  refine⟨smN 4,fun st hst=>?_⟩
  generalize eF4:upd F3 st _=F4
  obtain⟨gf4,ef4⟩:=aK eF4 hst
  refine⟨smN 1,fun pt hpt=>?_⟩
  generalize eF5:upd F4 pt _=F5
  obtain⟨gf5,ef5⟩:=aK eF5 hpt
  have s14:=gf2.trans (gf3.trans gf4)
  refine Rc _ _ ⟨pt,st,U,gf1.trans (s14.trans gf5),(gf1.trans s14).free hpt,ef5,⟨a1,a2,a3,[],gf5 _ _ ef4,(s14.trans gf5) _ _ ef1,(gf3.trans (gf4.trans gf5)) _ _ ef2,(gf4.trans gf5) _ _ ef3,.nil,fun z=>?_⟩⟩
  rw[z,hB.hbe] at h1
  cases h1
 rintro σ H1 ⟨pt,st,rfl,s1,fpt,ept,hst⟩
 have npl:pt≠l:=fun z=>by rw[z,hl] at fpt;cases fpt
 have npb:pt≠b:=fun z=>by rw[z,hB.hb] at fpt;cases fpt
 have npe:pt≠be:=fun z=>by rw[z,hB.hbe] at fpt;cases fpt
 have nlb:l≠b:=fun z=>by rw[z,hB.hb] at hl;cases hl
 refine eQ (fun σ Hx=>∃ (u4 u5:FC) (st ah nw:Addr) (ws xs zs:FH) (S:Sa),σ=[oR b,oR l,some (.int (mo:Int)),oR pt,u4,u5]/\But b be H Hx/\Hx pt=some (.lst (ws++[.ref st]))/\Bn CS CB S.n Hx b be ah dx nw xs zs S.g S.go S.es S.co/\xs.length<=cs.length/\StR be S.n Hx st S.g S.go S.es S.co/\AOk S/\1<=S.n) ?q2 ?t2
 case q2 =>
  rintro σ Hx ⟨u4,u5,st,ah,nw,ws,xs,zs,S,rfl,bt,ep,hBx,lx,hs,ok,n1⟩
  exact⟨_,U,q pt st ah nw ws xs zs S Hx bt ep hBx lx hs ok n1⟩
 case t2 =>
 intro N Rc
 refine⟨_,U,l,U,⟨_,sqL (s1 _ _ hl)⟩,eV (K:=K) (a:=l) (xs:=cs.map V.int) (fun i σ Hx=>∃ (u4 u5:FC) (st ah nw:Addr) (ws xs zs:FH) (S:Sa),σ=[oR b,oR l,some (.int (mo:Int)),oR pt,u4,u5]/\But b be H Hx/\Hx pt=some (.lst (ws++[.ref st]))/\ws.length<=i/\Bn CS CB S.n Hx b be ah dx nw xs zs S.g S.go S.es S.co/\xs.length<=i/\StR be S.n Hx st S.g S.go S.es S.co/\AOk S/\(0 < i->1<=S.n))
  ⟨_,_,st,ah,nw,[],[],[],⟨0,[],[],[],0⟩,U,Qf s1,ept,Vw _,hB.same s1,Vw _,hst,⟨U,by decide,by decide,⟨.nil,by simp⟩,by simp⟩,fun z=>absurd z (WK _)⟩
  (fun i σ Hx _ h=>by obtain⟨_,_,_,_,_,_,_,_,_,_,bt,_⟩:=h;exact sqL (bt _ _ nlb nl hl)) ?_ ?_⟩
 ·clear hst hB
  rintro i y σ Hx hx ⟨u4,u5,st,ah,nw,ws,xs,zs,S,rfl,bt,ep,lw,hBx,lx,hs,ok,n1⟩
  obtain⟨cv,hcv,rfl⟩:=int_at hx
  have il:=(geS hcv).1
  refine gN ?_
  have m1':∀ {Hy:Hp},Hy pt=some (.lst (ws++[.ref st]))->atI (ws++[V.ref st]) (-1)=some (.ref st):=fun _=>Fb (by rw[VH];show (ws++[V.ref st])[ws.length+1 - 1]? = _;rw[Nat.add_sub_cancel,Yu (Vw _),Nat.sub_self];rfl)
  have am:=m1' ep
  refine eQ (fun σ H5=>∃ (da:Addr) (d:vL),σ=[oR b,oR l,some (.int (mo:Int)),oR pt,oI cv,oR da]/\aN Hx H5/\DeR S.n H5 da d/\(∀ r,H5 da=some (.tup [.str "hand",.ref r])->r≠be)/\(S.n=0->d = .come)) ?q9 ?t9
  case t9 =>
   intro N Rc
   exact⟨_,U,_,U,_,U,pt,_,_,_,U,U,sqL ep,am,_,U,cv,mo,be,st,S,U,m1,m9,hs,ok,fun da d H5 s5 hd nr nz=>Rc _ _ ⟨da,d,U,s5,hd,(fun r z y=>by have:=nr r z;rw[y,hBx.hbe] at this;cases this),nz⟩⟩
  case q9 =>
  rintro σ H5 ⟨da,d,rfl,s5,hd,nr,nz⟩
  have ep5:=s5 _ _ ep
  refine⟨_,U,_,U,pt,_,_,_,U,U,sqL ep5,am,_,U,be,st,da,S,d,U,hs.same s5,ok,hd,fun H6 s6=>?_⟩
  have s56:=s5.trans s6
  refine⟨U,_,U,?_⟩
  by_cases z:reW S d = ""
  case neg =>
   rw[show decide (V.str (reW S d)=V.str "")=false from dcF (tV z)]
   refine bZ ⟨_,_,st,ah,nw,ws,xs,zs,S,U,bt.trans (Qf s56),s56 _ _ ep,by lia,hBx.same s56,by lia,hs.same s56,ok,fun _=>?_⟩
   rcases abM S.n with y | y
   ·refine absurd ?_ z
    rw[nz y]
    exact iNe (by lia)
   ·exact y
  rw[show decide (V.str (reW S d)=V.str "")=true from dcT (by rw[z])]
  refine cW ?_
  have hB6:=hBx.same s56
  have hd6:=hd.same s6
  have nr6:∀ r,H6 da=some (.tup [.str "hand",.ref r])->r≠be:=fun r y=>nr r (by
   obtain⟨ys,hy⟩:=hd.live
   rw[s6 _ _ hy] at y
   rw[hy]
   exact y)
  refine⟨_,U,_,U,b,be,ah,dx,nw,da,xs,zs,S,d,U,hB6,by lia,ok.eu,hd6,fun y=>absurd z y,fun _ H7 nw' ah' bt7 fa hB7=>?_⟩
  have tp:∀ a ys,H6 a=some (HO.tup ys)->H7 a=some (HO.tup ys):=fun a ys y=>bt7 a _ (fun w=>by rw[w] at y;rw[hB6.hb] at y;cases y) (fun w=>by rw[w] at y;rw[hB6.hbe] at y;cases y) y
  have lp:∀ a ys,a≠be->H6 a=some (HO.lst ys)->H7 a=some (HO.lst ys):=fun a ys hn y=>bt7 a _ (fun w=>by rw[w] at y;rw[hB6.hb] at y;cases y) hn y
  have ep7:=lp _ _ npe (s56 _ _ ep)
  have bt07:=bt.trans ((Qf s56).trans bt7)
  refine⟨_,U,.inl ⟨U,_,sqL ep7⟩,_,U,_,U,pt,_,_,_,U,U,sqL ep7,am,_,U,be,st,da,S,d,_,U,StR.but hB6.hb hB6.hbe bt7 (hs.same s56),hB7.hbe,ok,hd6.kp tp lp nr6,z,fun st' H8 s8 hst'=>?_⟩
  have ep8:=s8 _ _ ep7
  have na:pt≠ah':=fun y=>by rw[← y,s56 _ _ ep] at fa;cases fa
  refine⟨pt,_,_,U,U,ep8,aQ (by rw[VH];show ws.length+1<=1000;lia),?_⟩
  refine⟨_,_,st',ah',nw',ws++[.ref st],_,_,S.aft d,U,fun a o ab ae y=>?_,aj,by rw[VH];show ws.length+1<=_;lia,(hB7.same s8).Qd ep8 npe na,by rw[VH];show xs.length+1<=_;lia,hst'.Qd ep8 Pu,ok.aft z,fun _=>?_⟩
  ·rw[aM (fun w=>by rw[w,fpt] at y;cases y)]
   exact s8 _ _ (bt07 a o ab ae y)
  ·have:=Tu (A:=S) (d:=d)
   rcases abM S.n with y | y
   ·rw[nz y]
    exact Nat.succ_pos _
   ·lia
 ·rintro σ Hx ⟨u4,u5,st,ah,nw,ws,xs,zs,S,rfl,bt,ep,lw,hBx,lx,hs,ok,n1⟩
  rw[Vs] at lx n1
  exact Rc _ _ ⟨u4,u5,st,ah,nw,ws,xs,zs,S,U,bt,ep,hBx,lx,hs,ok,n1 c0⟩
theorem RiI.app {H:Hp}:∀ {us:FH} {ps:DL},RiI H us ps->∀ {vs:FH} {qs:DL},RiI H vs qs->RiI H (us++vs) (ps++qs)
 | _,_,.nil,_,_,r=>r
 | _,_,.cons h a,_,_,r=>.cons h (RiI.app a r)
theorem RiI.drop {H:Hp}:∀ (k:Nat) {us:FH} {ps:DL},RiI H us ps->RiI H (us.drop k) (ps.drop k)
 | 0,_,_,r=>r
 | _+1,_,_,.nil=>.nil
 | k+1,_,_,.cons _ r=>RiI.drop k r
theorem RiI.take {H:Hp}:∀ (k:Nat) {us:FH} {ps:DL},RiI H us ps->RiI H (us.take k) (ps.take k)
 | 0,_,_,_=>.nil
 | _+1,_,_,.nil=>.nil
 | k+1,_,_,.cons h r=>.cons h (RiI.take k r)
def RiI.cut {H:Hp}{us:FH}{ps:DL}(lo hi:DZ)(h:RiI H us ps):∃ qs,RiI H (pZ us lo hi) qs/\qs.length<=ps.length:=by
 unfold pZ
 generalize HT.sIx _ _ lo=x
 generalize HT.sIx _ _ hi=y
 exact⟨(ps.drop x).take (y - x),(h.drop x).take _,by rw[V0,YL];lia⟩
abbrev jC:Stmt:=top 84
def iY:aG ["_law_cell","_law_state","_law_drawn","_law_rises_here"] XG (aB jC):=c7
inductive ud (vs:FH)(H:Hp)(Q:VK):Prop where
 | mk (c:Int) (be a:Addr) (A:Sa) (z0:vs=[.int c,.ref a]) (z1:StR be A.n H a A.g A.go A.es A.co) (z2:AOk A) (z3:1<=A.n) (z4:∀ (r:Addr) (us:FH) (ps:DL) (H':Hp),aN H H'->H r=none->H' r=some (.lst us)->RiI H' us ps->ps.length<=100->Q (.ref r) H'):ud  vs H Q
def yu:Sp:=fun vs H Q _=>ud  vs H Q
def vg {k:Nat} (hk:1<=k) (F:Fun K "_law_handed" "_law_handed" jC f fd) (B:Bt mg) (Rs:Df P w K mg base "_law_draws" 1 WZ (oH K)) (Sf:Df P w K mg base "_law_rises" k XG vC):bH P w K mg base CX0 (k+1) f fd XG yu:=by
 refine okA F iY fun _ _ _ _ H _ Q E hr h=>?_
 obtain⟨c,be,a,S,rfl,hst,ok,n1,q⟩:=h
 refine⟨_,(au (aP (i:=2) iY.nd U (VF U) (aY Rs hr (aa (pv 0) (aa (bA (aa aq (aa aq (aa aq (aa aq ao))))) ao))))
 (au (aP (i:=3) iY.nd U (VF U) (aY Sf hr (aa (aR bR (pv 0) aq) (aa (pv 1) ao))))
 (au (aW (aH bj (pxL K (pv 2) aq) aq) (az (aD (aR kh (pv 3) (fM (r:=Qe K) rN (pv 3) jj (iw aq))))) aC)
 (au (aW (aH bj (pxL K (pv 2) aq) aq) (az (aD (aR kh (pv 3) (bA (aa (aZ (aa (aR fc (pxL K (pv 2) aq) aq) (aa (pxL K (bA (aa aq (aa (yN rO aq) (aa (aR qi aq aq) ao)))) (pxL K (pv 2) aq)) ao))) ao))))) aC)
 (au (aW (aH bj (pxL K (pv 2) aq) aq) (az (aD (aR kh (bA (aa (aZ (aa (pxL K (pv 2) aq) (aa aq ao))) ao)) (pv 3)))) aC)
 (au (aW (aH bj (pxL K (pv 2) aq) aq) (az (aD (fM (r:=Qe K) rN (pv 3) (iw (pxL K (pv 2) aq)) jj))) aC)
 (az (aD (pv 3))))))))),?_⟩
 have hps:∀ q∈([7,12,12,3]:D6),0 < q:=by decide
 refine bV (fun σ H1=>∃ (dr:Addr) (d0 d1 d2 d3:Int),σ=[oI c,oR a,oR dr,none]/\aN H H1/\H1 dr=some (.lst [.int d0,.int d1,.int d2,.int d3])/\0<=d3/\d3 < 3) ?_ ?_
 ·intro N Rc
  refine⟨_,U,smN 4,fun p1 hp1=>⟨_,p1,[7,12,12,3],U,sqL aj,by decide,by decide,fun p2 hp2=>?_⟩⟩
  obtain⟨d3,k3,b3⟩:=dj (c:=qY c) (i:=3) hps U
  cases k3
  exact Rc _ _ ⟨p2,_,_,_,_,U,(aA hp1 _).trans (aA hp2 _),aj,b3.1,b3.2⟩
 rintro σ H1 ⟨dr,d0,d1,d2,d3,rfl,s1,e1,l0,l3⟩
 refine bV (fun σ H2=>∃ (r:Addr) (us:FH) (ps:DL),σ=[oI c,oR a,oR dr,oR r]/\aN H1 H2/\H1 r=none/\H2 r=some (.lst us)/\RiI H2 us ps/\ps.length<=50) ?_ ?_
 ·intro N Rc
  exact⟨_,U,_,_,U,U,_,U,c+1,be,a,S,U,hst.same s1,ok,n1,fun r us ps H2 s2 fr er hri lps=>Rc _ _ ⟨r,us,ps,U,s2,fr,er,hri,lps⟩⟩
 rintro σ H2 ⟨r,us,ps,rfl,s2,fr,er,hri,lps⟩
 have e2:=s2 _ _ e1
 have s02:=s1.trans s2
 have lus:=hri.length
 refine bV (fun σ H3=>σ=[oI c,oR a,oR dr,oR r]/\H3=H2) ?_ ?_
 ·intro N Rc
  refine⟨_,U,dr,_,_,_,U,U,sqL e2,gt0,U,_,U,jE (fun _=>?_) (fun _=>Rc _ _ ⟨U,U⟩)⟩
  obtain⟨qs,hq,lq⟩:=hri.cut none (some 1)
  have lc:=hq.length
  refine⟨_,U,_,U,_,U,r,us,U,sqL er,fun p hp=>?_⟩
  have sn:=aA hp (.lst (pZ us none (some 1)))
  refine⟨r,p,us,_,U,U,sn _ _ er,aj,small (by lia),fun p3 hp3=>?_⟩
  have s3:=sn.trans (aA hp3 (.lst (us++pZ us none (some 1))))
  exact q p3 _ _ _ (s02.trans s3) ((s02.trans sn).free hp3) aj ((hri.app hq).aO fun a xs y=>s3 _ _ y) (by rw[VH];lia)
 rintro σ H3 ⟨rfl,rfl⟩
 refine bV (fun σ H4=>σ=[oI c,oR a,oR dr,oR r]/\H4=H3) ?_ ?_
 ·intro N Rc
  refine⟨_,U,dr,_,_,_,U,U,sqL e2,gt0,U,_,U,jE (fun _=>?_) (fun _=>Rc _ _ ⟨U,U⟩)⟩
  refine⟨_,U,_,U,dr,_,_,_,U,U,sqL e2,gt1,_,_,U,U,_,U,_,_,U,U,⟨by decide,by decide,by decide⟩,smN 3,fun l3 h3=>?_⟩
  obtain⟨v,hv⟩:∃ v:Int,atI [V.int 10,V.int (-1),V.int (10 ^ (40:Int).toNat)] d3=some (.int v):=by
   rcases (show d3=0∨d3=1∨d3=2 by lia) with rfl | rfl | rfl <;> exact⟨_,rfl⟩
  generalize eF0:upd _ l3 _=F0
  obtain⟨g0,f0⟩:=aK eF0 h3
  refine⟨_,U,dr,_,_,_,U,U,sqL (g0 _ _ e2),dD (k:=3) U,l3,_,_,_,U,U,sqL f0,hv,smN 2,fun t ht=>⟨smN 1,fun l hl=>?_⟩⟩
  generalize eF1:upd F0 t _=F1 at hl
  obtain⟨g1,f1⟩:=aK eF1 ht
  generalize eF2:upd F1 l _=F2
  obtain⟨g2,f2⟩:=aK eF2 hl
  have s4:=g0.trans (g1.trans g2)
  refine⟨r,l,us,_,U,U,s4 _ _ er,f2,small (by show us.length+1<=1000;lia),fun p hp=>?_⟩
  have sn:=s4.trans (aA hp (.lst (us++[.ref t])))
  exact q p _ (ps++[(d1 - 1,v)]) _ (s02.trans sn) ((s02.trans s4).free hp) aj (RiI.snoc ((g2.trans (aA hp _)) _ _ f1) (hri.aO fun a xs y=>sn _ _ y)) (by rw[VH];show ps.length+1<=100;lia)
 rintro σ H4 ⟨rfl,rfl⟩
 refine bV (fun σ H5=>σ=[oI c,oR a,oR dr,oR r]/\H5=H4) ?_ ?_
 ·intro N Rc
  refine⟨_,U,dr,_,_,_,U,U,sqL e2,gt0,U,_,U,jE (fun _=>?_) (fun _=>Rc _ _ ⟨U,U⟩)⟩
  refine⟨_,U,dr,_,_,_,U,U,sqL e2,gt1,smN 2,fun t ht=>⟨smN 1,fun l hl=>?_⟩⟩
  have st:=aA ht (.tup [.int d1,.int 1])
  generalize eF1:upd _ t _=F1 at hl st
  have et:F1 t=some (.tup [.int d1,.int 1]):=by rw[← eF1];exact aj
  generalize eF2:upd F1 l _=F2
  obtain⟨g2,f2⟩:=aK eF2 hl
  have s4:=st.trans g2
  refine⟨_,U,l,r,_,us,U,U,f2,s4 _ _ er,small (by show 1+us.length<=1000;lia),fun p hp=>?_⟩
  have sn:=s4.trans (aA hp (.lst ([.ref t]++us)))
  exact q p _ ((d1,1)::ps) _ (s02.trans sn) ((s02.trans s4).free hp) aj (.cons ((g2.trans (aA hp _)) _ _ et) (hri.aO fun a xs y=>sn _ _ y)) (by rw[V2];lia)
 rintro σ H5 ⟨rfl,rfl⟩
 refine bV (fun σ H6=>σ=[oI c,oR a,oR dr,oR r]/\H6=H5) ?_ ?_
 ·intro N Rc
  refine⟨_,U,dr,_,_,_,U,U,sqL e2,gt0,U,_,U,jE (fun _=>?_) (fun _=>Rc _ _ ⟨U,U⟩)⟩
  obtain⟨qs,hq,lq⟩:=hri.cut (some d3) none
  refine⟨_,U,_,U,dr,_,_,_,U,U,sqL e2,dD (k:=3) U,_,U,r,us,U,sqL er,fun p hp=>?_⟩
  have sn:=aA hp (.lst (pZ us (some d3) none))
  exact q p _ _ _ (s02.trans sn) (s02.free hp) aj (hq.aO fun a xs y=>sn _ _ y) (by lia)
 rintro σ H6 ⟨rfl,rfl⟩
 exact⟨_,U,q r us ps _ s02 (s1.free fr) er hri (by lia)⟩
section
variable {K:V3}{G C T:Addr}{q w:Wb}{cap:D7}{te:XK->TE}{σ:St}{H:Hp}{Q:VK}
def Eh (hT:TabOk H T q) (R:XRd K C G "word") (h:∀ H1,jP H H1->TabOk H1 T q->∀ (Q2:VK) (E2:XK),thrown C w H1 E2->te E2 (Pq cap σ) H1 Q2)
  (k:∀ a H',jP H H'->TabOk H' T q->H' a=some (.tup [.str w])->Q (.ref a) H'):TF T q cap (twWord K G) te σ H Q :=
 ⟨hT,fun _ H1 sm tb=>h H1 sm tb _ _ (zJ R fun a H' s e=>k a H' (sm.trans s.t) (tb.same s) e)⟩
def JF {P:V->Hp->Prop}(hT:TabOk H T q)(h:∀ H1,jP H H1->TabOk H1 T q->∀ (Q2:VK) (E2:XK),(∀ v H2,P v H2->Q2 v H2)->te E2 (Pq cap σ) H1 Q2)
  (k:∀ a v H2 H',P v H2->aN H2 H'->H' a=some (.tup [.str "told",v])->Q (.ref a) H'):TF T q cap (twWord K G) te σ H Q :=
 ⟨hT,fun _ H1 sm tb=>h H1 sm tb _ _ fun v H2 p=>⟨smN 2,fun a ha=>k a v H2 _ p (aA ha _) aj⟩⟩
end
def Av {H:Hp}{a:Addr}{w:Wb}(h:H a=some (.tup [.str w])):Rep H (.ref a) (.tup [.str w]):=.tup h (by show 1<=100000;decide) (.cons (.str _) .nil)
def Bc {H:Hp} {a:Addr} {v:V} {d:Dm} (h:H a=some (.tup [.str "told",v])) (r:Rep H v d):Rep H (.ref a) (.tup [.str "told",d]):=.tup h (by show 2<=100000;decide) (.cons (.str _) (.cons r .nil))
def Lw {w:Wb}{n:Nat}(h:1 < n):(Dm.tup [.str w]).dep < n:=by simpa [Dm.dep,iJ] using h
def Ov:Wb:=("law" : Wb)++".<locals>."++"<lambda>"
def tab_keep {H H':Hp}{T:Addr}{q:Wb}(h:TabOk H T q)(k1:∀ a ps,H a=some (.tbl ps)->H' a=some (.tbl ps))(k2:∀ a o u,H a=some (.frz o u)->H' a=some (.frz o u)):TabOk H' T q:=by
 obtain⟨ps,e,t,f⟩:=h
 refine⟨ps,k1 _ _ e,t,fun pos cv z=>?_⟩
 obtain⟨c,oc,u,vs,tk,e1,e2,e3⟩:=f pos cv z
 exact⟨c,oc,u,vs,tk,e1,k2 _ _ _ e2,e3⟩
def Jp {CB b be dx T:Addr}{fs:FA}{xs:FH}{H H':Hp}{q:Wb}(h1:H b=some (.ins CB dx fs))(h2:H be=some (.lst xs))(x:But b be H H')(t:TabOk H T q):TabOk H' T q :=
 tab_keep t (fun a ps ha=>x _ _ (fun z=>by rw[z,h1] at ha;cases ha) (fun z=>by rw[z,h2] at ha;cases ha) ha) fun a o u ha=>x _ _ (fun z=>by rw[z,h1] at ha;cases ha) (fun z=>by rw[z,h2] at ha;cases ha) ha
structure Wk (CS CB T:Addr)(H:Hp)(b be dx a:Addr)(A:Sa)(k:Nat):Prop where
 bn:∃ (ah nw:Addr) (xs zs:FH),Bn CS CB A.n H b be ah dx nw xs zs A.g A.go A.es A.co/\xs.length<=k
 st:StR be A.n H a A.g A.go A.es A.co
 ok:AOk A
 tb:TabOk H T Ov
section
variable {CS CB T:Addr}{H H':Hp}{b be dx a:Addr}{A:Sa}{k:Nat}
def Wk.sT (h:Wk CS CB T H b be dx a A k)(s:jP H H')(t:TabOk H' T Ov):Wk CS CB T H' b be dx a A k:=by
 obtain⟨⟨ah,nw,xs,zs,hB,l⟩,st,ok,_⟩:=h
 exact⟨⟨ah,nw,xs,zs,hB.sT s,l⟩,st.sT s,ok,t⟩
def Wk.same (h:Wk CS CB T H b be dx a A k)(s:aN H H'):Wk CS CB T H' b be dx a A k:=h.sT s.t (h.tb.same s)
end
theorem RiI.refs {H:Hp}:∀ {us:FH} {ps:DL},RiI H us ps->∃ as:D0,us=as.map V.ref
 | _,_,.nil=>⟨[],U⟩
 | _,_,.cons (e:=e) _ r=>by
  obtain⟨as,h⟩:=RiI.refs r
  exact⟨e::as,by rw[h];rfl⟩
def RiI.npr {H:Hp}{us:FH}{ps:DL}{n:Nat}{go:D7}(h:RiI H us ps)(hn:1<=n):us≠prF n go:=fun e=>by
 have:=cP n go
 cases h with
 | nil=>rw[← e] at this;cases this;cases hn
 | @cons us ps x o s h r =>
  have:V.ref x∈prF n go:=by rw[← e];exact VP
  obtain⟨i,_,y⟩:=List.mem_map.mp this
  cases y
abbrev O5:Stmt:=top 85
def jy:aG ["_law_script","_law_boon_here","_law_state","_law_cell","_law_rises_here","_law_handed_here","_law_word_here","_law_want","_law_turn"] ZE (aB O5):=c7
inductive Ma (K:V3)(T:Addr)(vs:FH)(H:Hp)(Q:VK):Prop where
 | mk (a:Addr) (ns:D6) (z0:vs=[.ref a]) (z1:SqL K H a (ns.map V.int)) (z2:ns.length<=63) (z3:TabOk H T Ov) (z4:∀ H',Q (.bl true) H'):Ma K T vs H Q
def J7 (K:V3)(T:Addr):Sp:=fun vs H Q _=>Ma K T vs H Q
def Sh {f c T fW G CS CB:Addr} {x:XA} {fd fdW:WR} (F:Ss K "law" "law" O5 f fd c) (B:Bt mg) (HP:Ez mg c T base) (UI:mg "BoonError" = some (.ref G)) (RX:∀ w:Wb,XRd K (x.of w) G "word")
  (SV:Fun K "_law_word" "_law_word" fP fW fdW) (m_law_word:mg "_law_word" = some (.ref fW)) (PM:Dk2 P w K mg base "Boon" CB 3 ZO (Ca CS CB)) (RF:Df P w K mg base "_law_grown" 16 WA (Jv CS CB)) (RH:Df P w K mg base "_law_handed" 9 XG yu)
  (Si:Df P w K mg base "_law_rises_refusal" 7 WJ uK) (SA:Df P w K mg base "may_hand" 12 Zl (RG CS CB)) (SZ:Dmx P w K mg base CB "hand" 14 YY (zy CS CB x)) (QO:Df P w K mg base "_law_after" 2 WO zL) (Sl:Df P w K mg base "_law_stands" 15 WP (Bf CS CB)) (Sk:Df P w K mg base "_law_same" 3 XI (qM 3)) :
  bH P w K mg base CX0 19 f fd ZE (J7 K T):=by
 refine F.ok jy (fun vs H Q E h=>?_) (fun A outer s H vs Q E hr h=>?_)
 ·obtain⟨a,ns,rfl,_⟩:=h
  rfl
 ·obtain⟨a,ns0,rfl,hS,lN,hT,q⟩:=h
  refine⟨_,(au (aP (i:=0) jy.nd U (VF U) (fM (r:=Qe K) rN (pv 0) jj (iw aq)))
 (au (aP (i:=1) jy.nd U (aaC U) (Q4 PM hr))
 (au (aP (i:=2) jy.nd U (VF U) (pxL K (aY RF hr (aa (pv 1) (aa (aR kh (fM (r:=Qe K) rN (pv 0) jj (iw aq)) (bA (aa aq (aa aq (aa aq ao))))) (aa aq ao)))) (yN rO aq)))
 (au (cV Wq U (dC (aR kh (fM (r:=Qe K) rN (pv 0) (iw aq) jj) (bA (aa aq (aa aq ao))))) (aJ (i:=3) jy.nd U (VF U)) (au (aP (i:=4) jy.nd U (VF U) (aY RH hr (aa (pv 3) (aa (pv 2) ao))))
 (au (aP (i:=5) jy.nd U (aaC U) (bh (r:=jL K) d9 U B.list_ jg (aa (pv 4) ao)))
 (au (aP (i:=6) jy.nd U (VF U) (aY Si hr (aa (pv 2) (aa (pv 4) ao))))
 (au (aP (i:=7) jy.nd U (VF U) (aZ (aa aL (aa Qz ao))))
 (au (aW (aH sI (pv 6) aL) (az (aP (i:=7) jy.nd U (VF U) (aZ (aa (pv 6) ao)))) aC)
 (au (cV Wq U (bW U B.range_ (aa aq ao)) (aJ (i:=8) jy.nd U (VF U)) (az (aW (PW.pt (iI (dR (cI (aY Sk hr (aa (aY SA hr (aa (pv 1) (aa (pv 5) ao))) (aa (cY bj (pv 6) aL) ao))))) (d7 (dR (cI (aY Sl hr (aa (pv 1) (aa (pv 2) ao)))))))) (az (aD fK)) aC)))
 (au (aW (PW.pt (iI (dR (cI (aY Sk hr (aa (Rx (k:=17) (NL:=["_law_handed_here","_law_boon_here"]) (cap:=[5,1]) SV qt hr U m_law_word (Ru (bF U U (by kernel_rfl))) U HP.code HP.blt (fun f cd cl A outer s H E j hj hr=>(ue SZ hr Dy (pv 1) (aa (pv 0) ao))) (O7 UI)) (aa (pv 7) ao))))) (d7 (aH (r:=Qk) (NK hr.o9) (pv 5) (pv 4))))) (az (aD fK)) aC)
 (au (bD (tu W7 Xg Xf du (pv 5) (aa (aZ (aa aq (aa aq ao))) ao)))
 (au (aW (aH bj (pv 6) aL) (az (aP (i:=2) jy.nd U (VF U) (aY QO hr (aa (pv 2) (aa (aZ (aa aL (aa (pv 4) ao))) ao))))) aC)
 (az (aW (dR (cI (aY Sl hr (aa (pv 1) (aa (pv 2) ao))))) (az (aD fK)) aC))))))))))))
 (az (aD fK)))))),?_⟩
  refine bV (fun σ H1=>∃ (p1:Addr) (ss:D6),σ=[oR p1,none,none,none,none,none,none,none,none]/\aN H H1/\H1 p1=some (.lst (ss.map V.int))/\ss.length<=63) ?_ ?_
  ·intro N Rc
   refine⟨_,U,_,U,a,_,U,hS,fun p1 h1=>?_⟩
   obtain⟨ss,es,ls⟩:=vq ns0 none (some 63)
   rw[es]
   exact Rc _ _ ⟨p1,ss,U,aA h1 _,aj,by lia⟩
  rintro σ H1 ⟨p1,ss,rfl,g1,e1,ls⟩
  refine bV (fun σ H2=>∃ (b be ah dx nw:Addr),σ=[oR p1,oR b,none,none,none,none,none,none,none]/\aN H1 H2/\H1 be=none/\H1 b=none/\Bn CS CB 0 H2 b be ah dx nw [] [] [] [] [] 0) ?_ ?_
  ·intro N Rc x dx hx hdx hne
   have fr0:∀ c,H1 c≠none->c≠x/\c≠dx:=fun c h=>⟨fun z=>h (by rw[z];exact hx),fun z=>h (by rw[z];exact hdx)⟩
   refine⟨x,dx,U,aj,fun be ah nw H4 fbe fah fr hB=>⟨U,Rc _ _ ⟨x,be,ah,dx,nw,U,fun a o h=>?_,?_,hx,hB⟩⟩⟩
   ·obtain⟨ax,ad⟩:=fr0 a (by rw[h];simp)
    exact fr a o ax (by rw[aM ax,aM ad];exact h)
   ·cases hq:H1 be with
    | none=>rfl
    | some o =>
     obtain⟨ax,ad⟩:=fr0 be (by rw[hq];simp)
     rw[aM ax,aM ad,hq] at fbe
     cases fbe
  rintro σ H2 ⟨b,be,ah,dx,nw,rfl,s2,fbe,fb,hB⟩
  have nb1:p1≠b:=fun z=>by rw[z,fb] at e1;cases e1
  have ne1:p1≠be:=fun z=>by rw[z,fbe] at e1;cases e1
  refine bV (fun σ H3=>∃ (st:Addr) (S:Sa),σ=[oR p1,oR b,oR st,none,none,none,none,none,none]/\H3 p1=some (.lst (ss.map V.int))/\Wk CS CB T H3 b be dx st S 66/\1<=S.n) ?_ ?_
  ·intro N Rc
   obtain⟨cs,ec,lc⟩:=vq ss none (some 30)
   refine⟨_,U,_,U,_,U,p1,_,U,sqL (s2 _ _ e1),fun p4 h4=>?_⟩
   rw[ec]
   generalize eH4:upd H2 p4 _=H4
   obtain⟨g4,e4⟩:=aK eH4 h4
   refine⟨smN 3,fun p5 h5=>?_⟩
   generalize eH8:upd H4 p5 _=H8
   obtain⟨g8,e8⟩:=aK eH8 h5
   refine⟨p4,p5,_,_,U,U,g8 _ _ e4,e8,small (by rw[Vs];show cs.length+3<=1000;lia),fun p6 h6=>?_⟩
   have ec2:cs.map V.int++[V.int 0,V.int 1,V.int 2]=(cs++[0,1,2]).map V.int:=by rw[VD];rfl
   rw[ec2]
   generalize eH9:upd H8 p6 _=H9
   obtain⟨g9,e9⟩:=aK eH9 h6
   have s29:=g4.trans (g8.trans g9)
   have n6:p6≠be:=fun z=>by rw[z,(g4.trans g8) _ _ hB.hbe] at h6;cases h6
   have l6:(cs++[0,1,2]).length=cs.length+3:=by rw[VH];rfl
   have hB9:=hB.same s29
   refine⟨b,be,ah,dx,nw,p6,3,cs++[0,1,2],U,by decide,by decide,hB9,e9,n6,by lia,by lia,fun pl st ah' nw' ws xs zs A H' bt ep hBx lx hs ok n1=>?_⟩
   refine⟨_,U,pl,_,_,_,U,U,sqL ep,Fb (v:=.ref st) ?_,Rc _ _ ⟨st,A,U,bt _ _ nb1 ne1 ((s2.trans s29) _ _ e1),⟨⟨ah',nw',xs,zs,hBx,by lia⟩,hs,ok,Jp hB9.hb hB9.hbe bt (hT.same (g1.trans (s2.trans s29)))⟩,n1⟩⟩
   rw[VH]
   show (ws++[V.ref st])[ws.length+1 - 1]? = _
   rw[Nat.add_sub_cancel,Yu (Vw _),Nat.sub_self]
   rfl
  clear hB
  rintro σ H3 ⟨st,S0,rfl,e3,W3,n3⟩
  refine eQ (fun _ _=>True) (fun _ _ _=>q _) fun N Rc=>?_
  obtain⟨cs,ec,lc⟩:=vq ss (some 30) none
  refine⟨_,U,_,U,p1,_,U,sqL e3,fun p4 h4=>?_⟩
  rw[ec]
  generalize eH4:upd H3 p4 _=H4
  obtain⟨g4,e4⟩:=aK eH4 h4
  refine⟨smN 2,fun p5 h5=>?_⟩
  generalize eH8:upd H4 p5 _=H8
  obtain⟨g8,e8⟩:=aK eH8 h5
  refine⟨p4,p5,_,_,U,U,g8 _ _ e4,e8,small (by rw[Vs];show cs.length+2<=1000;lia),fun p6 h6=>?_⟩
  have ec2:cs.map V.int++[V.int 0,V.int 1]=(cs++[0,1]).map V.int:=by rw[VD];rfl
  rw[ec2]
  generalize eH9:upd H8 p6 _=H9
  obtain⟨g9,e9⟩:=aK eH9 h6
  have W9:=W3.same (g4.trans (g8.trans g9))
  obtain⟨_,_,_,_,hB3,_⟩:=W3.bn
  have n6:p6≠be:=fun z=>by rw[z,(g4.trans g8) _ _ hB3.hbe] at h6;cases h6
  have m6:p6≠b:=fun z=>by rw[z,(g4.trans g8) _ _ hB3.hb] at h6;cases h6
  refine⟨p6,U,⟨_,sqL e9⟩,eV (K:=K) (a:=p6) (xs:=(cs++[0,1]).map V.int) (fun i σ Hx=>∃ (u3 u4 u5 u6 u7 u8:FC) (st:Addr) (S:Sa),σ=[oR p1,oR b,oR st,u3,u4,u5,u6,u7,u8]/\Hx p6=some (.lst ((cs++[0,1]).map V.int))/\Wk CS CB T Hx b be dx st S (66+i)/\1<=S.n)
   ⟨_,_,_,_,_,_,st,_,U,e9,W9,n3⟩ (fun i σ Hx _ h=>by obtain⟨_,_,_,_,_,_,_,_,_,z,_⟩:=h;exact sqL z) ?_ (fun _ _ _=>Rc _ _ trivial)⟩
  clear W9 W3 Rc hB3
  rintro i y σ Hx hx ⟨u3,u4,u5,u6,u7,u8,st,S',rfl,e6,Wx,nS⟩
  obtain⟨cv,hcv,rfl⟩:=int_at hx
  have il:=(geS hcv).1
  rw[VH] at il
  have il:i < cs.length+2:=il
  refine gN ?_
  obtain⟨_,_,_,_,hB0,_⟩:=Wx.bn
  refine bV (fun σ H5=>∃ (r:Addr) (us:FH) (ps:DL),σ=[oR p1,oR b,oR st,oI cv,oR r,u5,u6,u7,u8]/\aN Hx H5/\Hx r=none/\H5 r=some (.lst us)/\RiI H5 us ps/\ps.length<=100) ?_ ?_
  ·intro N Rc
   exact⟨_,U,_,U,cv,be,st,S',U,Wx.st,Wx.ok,nS,fun r us ps H5 s5 fr er hri lps=>Rc _ _ ⟨r,us,ps,U,s5,fr,er,hri,lps⟩⟩
  rintro σ H5 ⟨r,us,ps,rfl,s5,fr,er,hri,lps⟩
  have nr:r≠be:=fun z=>by rw[z,hB0.hbe] at fr;cases fr
  have mr:r≠b:=fun z=>by rw[z,hB0.hb] at fr;cases fr
  replace Wx:=Wx.same s5
  replace e6:=s5 _ _ e6
  clear s5 hB0 hx fr
  obtain⟨⟨ah,nw,xs,zs,hB,lx⟩,hst,ok,tb⟩:=id Wx
  refine bV (fun σ H6=>∃ l:Addr,σ=[oR p1,oR b,oR st,oI cv,oR r,oR l,u6,u7,u8]/\aN H5 H6/\H5 l=none/\H6 l=some (.lst us)) ?_ ?_
  ·intro N Rc
   exact⟨_,U,r,us,U,.inl (sqL er),fun l hl=>Rc _ _ ⟨l,U,aA hl _,hl,aj⟩⟩
  rintro σ H6 ⟨l,rfl,s6,fl,el⟩
  have nl:l≠be:=fun z=>by rw[z,hB.hbe] at fl;cases fl
  have ml:l≠b:=fun z=>by rw[z,hB.hb] at fl;cases fl
  have al:l≠ah:=fun z=>by rw[z,hB.hah] at fl;cases fl
  have l6:l≠p6:=fun z=>by rw[z,e6] at fl;cases fl
  have lr:l≠r:=fun z=>by rw[z,er] at fl;cases fl
  refine bV (fun σ H7=>∃ wd:Wb,σ=[oR p1,oR b,oR st,oI cv,oR r,oR l,some (.str wd),u7,u8]/\aN H6 H7/\wd=haW S'.n S'.g S'.go S'.es ps) ?_ ?_
  ·intro N Rc
   exact⟨_,U,_,U,be,st,r,S'.n,S'.g,S'.go,S'.es,S'.co,us,ps,U,hst.same s6,ok.lg,ok.eu,ok.l40,s6 _ _ er,hri.aO (fun a xs z=>s6 _ _ z),lps,fun H7 s7=>Rc _ _ ⟨_,U,s7,U⟩⟩
  rintro σ H7 ⟨wd,rfl,s7,ew⟩
  refine bV (fun σ H8=>∃ wa:Addr,σ=[oR p1,oR b,oR st,oI cv,oR r,oR l,some (.str wd),oR wa,u8]/\aN H6 H8/\H8 wa=some (.tup [.str "told",.non])) ?_ ?_
  ·intro N Rc
   exact⟨smN 2,fun wa hwa=>Rc _ _ ⟨wa,U,s7.trans (aA hwa _),aj⟩⟩
  rintro σ H8 ⟨wa,rfl,s8,ewa⟩
  refine bV (fun σ H9=>∃ wa:Addr,σ=[oR p1,oR b,oR st,oI cv,oR r,oR l,some (.str wd),oR wa,u8]/\aN H6 H9/\H9 wa=some (.tup (if wd = "" then [.str "told",.non] else [.str wd]))) ?_ ?_
  ·intro N Rc
   refine⟨_,U,U,_,U,?_⟩
   by_cases z:wd = ""
   ·rw[show decide (V.str wd=V.str "")=true from dcT (by rw[z])]
    show if (!true)=true then _ else _
    exact bZ (Rc _ _ ⟨wa,U,s8,by rw[iPo z];exact ewa⟩)
   ·rw[show decide (V.str wd=V.str "")=false from dcF (tV z)]
    show if (!false)=true then _ else _
    refine cW ⟨_,U,smN 1,fun p hp=>Rc _ _ ⟨p,U,s8.trans (aA hp _),?_⟩⟩
    rw[aj,iNe z]
  clear ewa s8 s7
  rintro σ H9 ⟨wa,rfl,s9,ewa⟩
  have s59:=s6.trans s9
  have el9:=s9 _ _ el
  refine bV (fun σ Ha=>∃ u8:FC,σ=[oR p1,oR b,oR st,oI cv,oR r,oR l,some (.str wd),oR wa,u8]/\aN H9 Ha) ?_ ?_
  ·intro N Rc
   refine⟨2,U,by decide,by decide,iH (lo:=0) (n:=2) (fun i σ Ha=>∃ u8:FC,σ=[oR p1,oR b,oR st,oI cv,oR r,oR l,some (.str wd),oR wa,u8]/\aN H9 Ha) ⟨_,U,aN.refl _⟩ ?_ (fun σ Ha h=>Rc _ _ h)⟩
   rintro i σ Ha hi ⟨u8,rfl,sa⟩
   refine gN ?_
   have s5a:=s59.trans sa
   refine⟨_,U,_,U,b,be,ah,dx,nw,l,S'.n,S'.co,xs,zs,us,S'.g,S'.go,S'.es,ps,U,hB.same s5a,sa _ _ el9,hri.aO (fun a xs z=>s5a _ _ z),lps,fun Hb sb=>?_⟩
   refine⟨_,U,U,_,_,.bl (decide (wd = "")),U,?_,?_,by simp [Dm.dep],fun Hc sc=>⟨true,U,?_⟩⟩
   ·rw[ew]
    exact .bl _
   ·have:decide (V.str wd=V.str "")=decide (wd = ""):=by
     by_cases z:wd = ""
     ·rw[dcT z,z]
      exact dcT U
     ·rw[dcF z]
      exact dcF (tV z)
    rw[this]
    exact .bl _
   show if (!true)=true then _ else _
   have s5c:=s5a.trans (sb.trans sc)
   refine bZ ⟨_,U,_,U,b,be,ah,dx,nw,st,xs,zs,S',U,hB.same s5c,hst.same s5c,ok,fun Hd sd=>⟨true,U,?_⟩⟩
   show if (!true)=true then _ else _
   exact bZ ⟨_,U,sa.trans (sb.trans (sc.trans sd))⟩
  rintro σ Ha ⟨u8,rfl,sa⟩
  replace ewa:=sa _ _ ewa
  replace el:=sa _ _ el9
  replace s59:=s59.trans sa
  have hBa:=hB.same s59
  have hra:=s59 _ _ er
  clear s9 el9 sa s6
  refine bV (fun σ Hb=>σ=[oR p1,oR b,oR st,oI cv,oR r,oR l,some (.str wd),oR wa,u8]/\Hb p6=some (.lst ((cs++[0,1]).map V.int))/\Hb r=some (.lst us)/\RiI Hb us ps/\Hb l=some (.lst us)/\StR be S'.n Hb st S'.g S'.go S'.es S'.co/\TabOk Hb T Ov/\((wd≠""/\Bn CS CB S'.n Hb b be ah dx nw xs zs S'.g S'.go S'.es S'.co)∨(wd = ""/\∃ (ah nw:Addr) (xs zs:FH),l≠ah/\Bn CS CB S'.n Hb b be ah dx nw xs zs (seI S'.g ps) S'.go S'.es S'.co/\xs.length<=66+i+1))) ?_ ?_
  ·intro N Rc
   have hri':=hri.aO fun a xs z=>s59 _ _ z
   obtain⟨as,rfl⟩:=hri.refs
   have e6':=s59 _ _ e6
   have hst':=hst.same s59
   by_cases z:wd = ""
   ·rw[iPo z] at ewa
    refine JF (P:=fun v H2=>v = .non/\∃ (Hq:Hp) (nw' ah':Addr),jP Ha Hq/\TabOk Hq T Ov/\But b be Hq H2/\Hq ah'=none/\Bn CS CB S'.n H2 b be ah' dx nw' (xs++[.ref nw]) [] (seI S'.g ps) S'.go S'.es S'.co) (tb.same s59) (fun H1 s1 t1 Q2 E2 th=>?_) (fun a v H2 H' p s' ea=>?_)
    ·exact⟨_,U,b,dx,_,U,(hBa.sT s1).hb,U,_,U,b,be,ah,dx,nw,l,S'.n,S'.co,xs,zs,_,S'.g,S'.go,S'.es,ps,U,hBa.sT s1,by lia,stL s1 el,hri.aO (fun a xs z=>stT s1 (s59 _ _ z)),lps,fun y=>absurd (ew.symm.trans z) y,fun _ H2 nw' ah' bt fa hB'=>th _ _ ⟨U,H1,nw',ah',s1,t1,bt,fa,hB'⟩⟩
    ·obtain⟨rfl,Hq,nw',ah',sq,tq,bt,fa,hB2⟩:=p
     have hBq:=hBa.sT sq
     have tp:∀ a ys,Ha a=some (HO.tup ys)->H' a=some (HO.tup ys):=fun a ys y=>s' _ _ (bt a _ (fun w=>by rw[w] at y;rw[hBa.hb] at y;cases y) (fun w=>by rw[w] at y;rw[hBa.hbe] at y;cases y) (stT sq y))
     have lp:∀ a ys,a≠be->Ha a=some (HO.lst ys)->H' a=some (HO.lst ys):=fun a ys hn y=>s' _ _ (bt a _ (fun w=>by rw[w] at y;rw[hBa.hb] at y;cases y) hn (stL sq y))
     refine⟨_,U,_,_,_,U,Bc ea .non,Bc (tp _ _ ewa) .non,by simp only[Dm.dep,iJ];lia,fun Hz sz=>⟨true,U,?_⟩⟩
     show if (!true)=true then _ else _
     have tpz:∀ a ys,Ha a=some (HO.tup ys)->Hz a=some (HO.tup ys):=fun a ys y=>sz _ _ (tp _ _ y)
     have lpz:∀ a ys,a≠be->Ha a=some (HO.lst ys)->Hz a=some (HO.lst ys):=fun a ys hn y=>sz _ _ (lp _ _ hn y)
     have hz:=hri'.aO tpz
     refine bZ ⟨_,U,_,U,l,r,as,U,U,lpz _ _ nl el,lpz _ _ nr hra,?_⟩
     refine⟨false,U,bZ (Rc _ _ ⟨U,lpz _ _ n6 e6',lpz _ _ nr hra,hz,lpz _ _ nl el,((StR.but hBq.hb hBq.hbe bt (hst'.sT sq)).same s').same sz,((Jp hBq.hb hBq.hbe bt tq).same s').same sz,.inr ⟨z,ah',nw',_,_,fun y=>?_,(hB2.same s').same sz,by rw[VH];show xs.length+1<=_;lia⟩⟩)⟩
     rw[← y,stL sq el] at fa
     cases fa
   ·rw[iNe z] at ewa
    refine Eh (C:=x.of wd) (w:=wd) (tb.same s59) (RX wd) (fun H1 s1 t1 Q2 E2 th=>?_) (fun a H' s' t' ea=>?_)
    ·exact⟨_,U,b,dx,_,U,(hBa.sT s1).hb,U,_,U,b,be,ah,dx,nw,l,S'.n,S'.co,xs,zs,_,S'.g,S'.go,S'.es,ps,U,hBa.sT s1,by lia,stL s1 el,hri.aO (fun a xs z=>stT s1 (s59 _ _ z)),lps,fun _=>by rw[← ew];exact th,fun y=>absurd (ew.trans y) z⟩
    ·refine⟨_,U,_,_,_,U,Av ea,Av (stT s' ewa),Lw (by decide),fun Hz sz=>⟨true,U,?_⟩⟩
     show if (!true)=true then _ else _
     have sz':=s'.trans sz.t
     have hz:=hri'.aO fun a xs y=>stT sz' y
     refine bZ ⟨_,U,_,U,l,r,as,U,U,stL sz' el,stL sz' hra,?_⟩
     exact⟨false,U,bZ (Rc _ _ ⟨U,stL sz' e6',stL sz' hra,hz,stL sz' el,hst'.sT sz',t'.same sz,.inl ⟨z,hBa.sT sz'⟩⟩)⟩
  clear hri hB hst tb e6 er hBa hra el ewa s59
  rintro σ Hb ⟨rfl,e6,er,hri,el,hst,tb,hc⟩
  refine bV (fun σ Hc=>σ=[oR p1,oR b,oR st,oI cv,oR r,oR l,some (.str wd),oR wa,u8]/\Hc p6=some (.lst ((cs++[0,1]).map V.int))/\Hc r=some (.lst us)/\RiI Hc us ps/\StR be S'.n Hc st S'.g S'.go S'.es S'.co/\TabOk Hc T Ov/\((wd≠""/\Bn CS CB S'.n Hc b be ah dx nw xs zs S'.g S'.go S'.es S'.co)∨(wd = ""/\∃ (ah nw:Addr) (xs zs:FH),Bn CS CB S'.n Hc b be ah dx nw xs zs (seI S'.g ps) S'.go S'.es S'.co/\xs.length<=66+i+1))) ?_ ?_
  ·intro N Rc
   have lus:=hri.length
   refine⟨_,U,.inl ⟨U,_,sqL el⟩,smN 2,fun t ht=>?_⟩
   generalize eF1:upd Hb t _=F1
   obtain⟨g1',f1⟩:=aK eF1 ht
   have el1:=g1' _ _ el
   have k:=Tn (CS:=CS) (vs:=us++[.ref t]) el1
   refine⟨l,_,_,U,U,el1,aQ (by lia),Rc _ _ ⟨U,by rw[aM l6.symm];exact g1' _ _ e6,by rw[aM lr.symm];exact g1' _ _ er,(hri.aO fun a xs y=>g1' _ _ y).aO k.1,(hst.same g1').Qd el1 (hri.npr nS),tab_keep (tb.same g1') (fun a ps ha=>?_) (fun a o u ha=>?_),?_⟩⟩
   ·rw[aM (fun z=>by rw[z,el1] at ha;cases ha)]
    exact ha
   ·rw[aM (fun z=>by rw[z,el1] at ha;cases ha)]
    exact ha
   ·rcases hc with⟨z,hB⟩ | ⟨z,ah,nw,xs,zs,al,hB,lx⟩
    ·exact .inl ⟨z,(hB.same g1').Qd el1 nl al⟩
    ·exact .inr ⟨z,ah,nw,xs,zs,(hB.same g1').Qd el1 nl al,lx⟩
  clear hri hst tb e6 er el hc
  rintro σ Hc ⟨rfl,e6,er,hri,hst,tb,hc⟩
  refine bV (fun σ Hd=>∃ (st:Addr) (S'':Sa),σ=[oR p1,oR b,oR st,oI cv,oR r,oR l,some (.str wd),oR wa,u8]/\aN Hc Hd/\Wk CS CB T Hd b be dx st S'' (66+(i+1))/\1<=S''.n) ?_ ?_
  ·intro N Rc
   refine⟨_,U,U,_,U,?_⟩
   rcases hc with⟨z,hB⟩ | ⟨z,ah,nw,xs,zs,hB,lx⟩
   ·rw[show decide (V.str wd=V.str "")=false from dcF (tV z)]
    exact bZ (Rc _ _ ⟨st,S',U,aN.refl _,⟨⟨ah,nw,xs,zs,hB,by lia⟩,hst,ok,tb⟩,nS⟩)
   ·rw[show decide (V.str wd=V.str "")=true from dcT (by rw[z])]
    refine cW ⟨_,U,_,U,smN 2,fun da hda=>?_⟩
    have zw:reW S' (.hand ps) = "":=ew.symm.trans z
    have sn:=aA hda (.tup [.str "hand",.ref r])
    refine⟨be,st,da,S',.hand ps,_,U,hst.same sn,sn _ _ hB.hbe,ok,.hand aj (sn _ _ er) (hri.aO fun a xs y=>sn _ _ y) lps,zw,fun a' Hd sd hst'=>?_⟩
    have sd':=sn.trans sd
    exact Rc _ _ ⟨a',S'.aft (.hand ps),U,sd',⟨⟨ah,nw,xs,zs,hB.same sd',by lia⟩,hst',ok.aft zw,tb.same sd'⟩,nS⟩
  rintro σ Hd ⟨st',S'',rfl,sd,Wa,nS''⟩
  obtain⟨⟨ah2,nw2,xs2,zs2,hB2,lx2⟩,hst2,ok2,tb2⟩:=id Wa
  refine⟨_,U,_,U,b,be,ah2,dx,nw2,st',xs2,zs2,S'',U,hB2,hst2,ok2,fun He se=>⟨true,U,?_⟩⟩
  show if (!true)=true then _ else _
  exact bZ ⟨_,_,_,_,_,_,st',S'',U,(sd.trans se) _ _ e6,Wa.same se,nS''⟩
def all_mk {l:W.OpenLaw} {w:Wn} {K:V3} {h:WD} {mg:Wb->DO} {fa fq1 fq2 fq3 fq4 fq5 fq6 fq7 fq8 fq9 fq10 fq11 fq12 fq13 fq14 fq15 fq16 fq17 fq18 fq19 fq20 fq21 fq22 fq23 fq24 fq25 fq26 fq27 fq28 fq29 fq30 fq31 fq32 fq33 fq34 fq35 fq36 fq37 fq38 fq39 fq40 fq41 fq42 fq43 fq44 fq45 fq46 fq47 fq48 fq49 fq50 fq51 fq52 fq53 fq54 fq55 fq56 fq57 fq58:Addr} (X:K.In h) (G:h.Ns V6 mg) (hfa:mg "law" = some (.ref fa)) {tk_MOST_FOLK tk_MOST_STEP tk_MOST_SUM tk_MOST_DEPTH tk_FEWEST_PARTS tk_MOST_PARTS tk_MOST_RUNGS tk_MOST_PLEDGES:Tok} {Cw10 Cw11:Addr} {UH UC UA Uf UD UE TZ UF UB:Addr} {Cw0 fiw0 Cw1 fiw1 Cw2 fiw2 Cw3 fiw3 Cw4 fiw4 Cw5 fiw5 Cw8 fiw8 Cw7 fiw7 Cw6 fiw6:Addr} {bmw0 bmw1 bmw2 bmw3 bmw4 bmw5 bmw8 bmw7 bmw6:DV} {mc:Value} {cLaw:Addr}
  (qw0:dW K "BoonError" "BoonError.__init__" Cw0 fiw0 (inClass lA 0) bmw0)
  (xga:W.specialIn K (.ref Cw0) "__getattribute__" = some (some (.builtin "type.__getattribute__")))
  (xty:W.typeIn K (.ref Cw0)=some mc)
  (xrd:W.readsIn K Cw0 mc=true)
  (xfd:W.findCls K (.ref Cw0) mc "__init__" = some (.val (.ref fiw0)))
  (qw1:dW K "BadPledge" "BadPledge.__init__" Cw1 fiw1 (inClass lR 0) bmw1)
  (mrw1:(VV Cw1::bmw1).contains (.ref Cw0)=true)
  (qw2:dW K "NoFolk" "NoFolk.__init__" Cw2 fiw2 (inClass vm 0) bmw2)
  (mrw2:(VV Cw2::bmw2).contains (.ref Cw0)=true)
  (qw3:dW K "Gone" "Gone.__init__" Cw3 fiw3 (inClass Ii 0) bmw3)
  (mrw3:(VV Cw3::bmw3).contains (.ref Cw0)=true)
  (qw4:dW K "NoPledge" "NoPledge.__init__" Cw4 fiw4 (inClass nU 0) bmw4)
  (mrw4:(VV Cw4::bmw4).contains (.ref Cw0)=true)
  (qw5:dW K "Bound" "Bound.__init__" Cw5 fiw5 (inClass zY 0) bmw5)
  (mrw5:(VV Cw5::bmw5).contains (.ref Cw0)=true)
  (qw8:dW K "Full" "Full.__init__" Cw8 fiw8 (inClass HF 0) bmw8)
  (mrw8:(VV Cw8::bmw8).contains (.ref Cw0)=true)
  (qw7:dW K "BadRise" "BadRise.__init__" Cw7 fiw7 (inClass rF 0) bmw7)
  (mrw7:(VV Cw7::bmw7).contains (.ref Cw0)=true)
  (qw6:dW K "NotDue" "NotDue.__init__" Cw6 fiw6 (inClass uR 0) bmw6)
  (mrw6:(VV Cw6::bmw6).contains (.ref Cw0)=true)
  (qw10:jx K "Stand" Cw10)
  (UQ:Zn K (.ref Cw10) "green" = some none)
  (UP:Zn K (.ref Cw10) "gone" = some none)
  (UR:Zn K (.ref Cw10) "standing" = some none)
  (UO:Zn K (.ref Cw10) "coming" = some none)
  (VA:cU K Cw10 "__init__" "Stand.__init__" jB UH)
  (qw11:jx K "Boon" Cw11)
  (UN:Zn K (.ref Cw11) "now" = some none)
  (UM:Zn K (.ref Cw11) "behind" = some none)
  (UK:Zn K (.ref Cw11) "ahead" = some none)
  (UY:cU K Cw11 "__init__" "Boon.__init__" kZ UC)
  (UV:cU K Cw11 "go_on" "Boon.go_on" jR UA)
  (UU:cU K Cw11 "come" "Boon.come" lV Uf)
  (UZ:cU K Cw11 "leave" "Boon.leave" jO UD)
  (U1:cU K Cw11 "pledge" "Boon.pledge" jw UE)
  (US:cU K Cw11 "change" "Boon.change" iU TZ)
  (U2:cU K Cw11 "withdraw" "Boon.withdraw" f9 UF)
  (UX:cU K Cw11 "hand" "Boon.hand" lE UB)
  (ne_Boonw10:Cw11≠Cw10)
  (qq1:HasDef K "is_number" my fq1)
  (qq2:HasDef K "is_crowd" nM fq2)
  (qq3:HasDef K "are_parts" lO fq3)
  (qq4:HasDef K "is_term_within" fH fq4)
  (qq5:HasDef K "is_term" qR fq5)
  (qq6:HasDef K "all_hold" nQ fq6)
  (qq7:HasDef K "any_holds" lF fq7)
  (qq8:HasDef K "holds" yZ fq8)
  (qq9:HasDef K "mentions" nY fq9)
  (qq10:HasDef K "named" zU fq10)
  (qq11:HasDef K "is_rung" qH fq11)
  (qq12:HasDef K "is_pledge" lY fq12)
  (qq13:HasDef K "owes" HJ fq13)
  (qq14:HasDef K "check_there" jh fq14)
  (qq15:HasDef K "owed_of" qW fq15)
  (qq16:HasDef K "pledger_of" jU fq16)
  (qq17:HasDef K "check_pledge" ir fq17)
  (qq18:HasDef K "pledged_anew" ig fq18)
  (qq19:HasDef K "handed_in" mK fq19)
  (qq20:HasDef K "folk" Hn fq20)
  (qq21:HasDef K "there" zH fq21)
  (qq22:HasDef K "green" Aj fq22)
  (qq23:HasDef K "pledges" qI fq23)
  (qq24:HasDef K "coming" vI fq24)
  (qq25:HasDef K "may_hand" oX fq25)
  (qq26:HasDef K "_law_draws" mH fq26)
  (qq27:HasDef K "_law_same" oK fq27)
  (qq28:HasDef K "_law_word" fP fq28)
  (qq29:HasDef K "_law_stands" jA fq29)
  (qq30:HasDef K "_law_under" lH fq30)
  (qq31:HasDef K "_law_crowd" mq fq31)
  (qq32:HasDef K "_law_term" nR fq32)
  (qq33:HasDef K "_law_renamed" jb fq33)
  (qq34:HasDef K "_law_mine" oA fq34)
  (qq35:HasDef K "_law_pledge" jM fq35)
  (qq36:HasDef K "_law_named" mJ fq36)
  (qq37:HasDef K "_law_holds" lK fq37)
  (qq38:HasDef K "_law_owes" nW fq38)
  (qq39:HasDef K "_law_owed" oG fq39)
  (qq40:HasDef K "_law_listed" jD fq40)
  (qq41:HasDef K "_law_missing" iT fq41)
  (qq42:HasDef K "_law_good" nZ fq42)
  (qq43:HasDef K "_law_bound" kY fq43)
  (qq44:HasDef K "_law_green" lM fq44)
  (qq45:HasDef K "_law_rises_refusal" dH fq45)
  (qq46:HasDef K "_law_table_with" fG fq46)
  (qq47:HasDef K "_law_refusal" iZ fq47)
  (qq48:HasDef K "_law_after" mC fq48)
  (qq49:HasDef K "_law_step_by_step" dZ fq49)
  (qq50:HasDef K "_law_roof" oF fq50)
  (qq51:HasDef K "_law_who" qw fq51)
  (qq52:HasDef K "_law_book_of" jr fq52)
  (qq53:HasDef K "_law_rises" lU fq53)
  (qq54:HasDef K "_law_deed" oV fq54)
  (qq55:HasDef K "_law_do" uU fq55)
  (qq56:HasDef K "_law_grown" mj fq56)
  (qq57:HasDef K "_law_handed" jC fq57)
  (qq58:jo K "law" O5 fq58 cLaw 697)
  (VO:X5 K V6 "MOST_FOLK" = some (some (.int 12 tk_MOST_FOLK)))
  (VU:X5 K V6 "MOST_STEP" = some (some (.int 9 tk_MOST_STEP)))
  (VW:X5 K V6 "MOST_SUM" = some (some (.int 99 tk_MOST_SUM)))
  (VI:X5 K V6 "MOST_DEPTH" = some (some (.int 4 tk_MOST_DEPTH)))
  (VC:X5 K V6 "FEWEST_PARTS" = some (some (.int 2 tk_FEWEST_PARTS)))
  (VQ:X5 K V6 "MOST_PARTS" = some (some (.int 6 tk_MOST_PARTS)))
  (VT:X5 K V6 "MOST_RUNGS" = some (some (.int 9 tk_MOST_RUNGS)))
  (VS:X5 K V6 "MOST_PLEDGES" = some (some (.int 40 tk_MOST_PLEDGES)))
  (z_len:X5 K V6 "len" = some none)
  (z_range:X5 K V6 "range" = some none)
  (z_all:X5 K V6 "all" = some none)
  (z_isinstance:X5 K V6 "isinstance" = some none)
  (z_int:X5 K V6 "int" = some none)
  (z_bool:X5 K V6 "bool" = some none)
  (z_str:X5 K V6 "str" = some none)
  (z_list:X5 K V6 "list" = some none)
  (z_tuple:X5 K V6 "tuple" = some none)
  (z_abs:X5 K V6 "abs" = some none)
  (z_max:X5 K V6 "max" = some none)
  (z_min:X5 K V6 "min" = some none)
  (z_sum:X5 K V6 "sum" = some none)
  (z_sorted:X5 K V6 "sorted" = some none)
  (z_zip:X5 K V6 "zip" = some none)
  (z_reversed:X5 K V6 "reversed" = some none)
  (z_divmod:X5 K V6 "divmod" = some none)
  (z_set:X5 K V6 "set" = some none)
  (z_any:X5 K V6 "any" = some none)
  (z_enumerate:X5 K V6 "enumerate" = some none)
  (z_ValueError:X5 K V6 "ValueError" = some none)
  (z_dict:X5 K V6 "dict" = some none)
  : ∃ (fd:WR) (c:Addr),W.codeHdIn K c 697=true/\(∀ (s:Vt) (v:Value),aa6 s fd ⟨[v],[]⟩ [("_law_script",v)])/\∀ base:WD,K.In base->base.Ns V6 mg->Ez mg c 697 base->bH l.prog w K mg base CX0 19 fa fd ZE (J7 K 697):=by
 have e:=hfa.symm.trans (qq58.name X G)
 cases e
 have B:Bt mg:=⟨WQ X G z_len,WQ X G z_range,WQ X G z_all,WQ X G z_isinstance,WQ X G z_int,WQ X G z_bool,WQ X G z_str,WQ X G z_list,WQ X G z_tuple,WQ X G z_abs,WQ X G z_max,WQ X G z_min,WQ X G z_sum,WQ X G z_sorted,WQ X G z_zip,WQ X G z_reversed,WQ X G z_divmod,WQ X G z_set,WQ X G z_any,WQ X G z_enumerate⟩
 have TL:=abu X G VO
 have TU:=abu X G VU
 have TW:=abu X G VW
 have TK:=abu X G VI
 have TH:=abu X G VC
 have TM:=abu X G VQ
 have TR:=abu X G VT
 have TN:=abu X G VS
 have c_dict:=WQ X G z_dict
 obtain⟨_,Fq58,bq58⟩:=qq58.law (y:="_law_script") fun _ _ _ _ _ _ s v=>.of_eq U
 refine⟨_,cLaw,qq58.hd,bq58,fun base _ _ HP=>?_⟩
 have mw0:=qw0.name X G
 obtain⟨_,Fiw0⟩:=qw0.fn
 have biw0:=Fiw0.binds (ps:=Zp) fun _ _ _ _ _ _ us hl=>by obtain⟨x0,x1,rfl⟩:=Qg hl;rfl
 have z_V:=WQ X G z_ValueError
 have Ow0:sS K Cw0 mc "__init__" fiw0:=⟨xga,xrd,xfd,qw0.kp,U⟩
 have FB:=Kf (P:=l.prog) (w:=w) (mg:=mg) (base:=base) Fiw0 z_V
 have mw1:=qw1.name X G
 obtain⟨_,Fiw1⟩:=qw1.fn
 have biw1:=Fiw1.binds (ps:=ZO) fun _ _ _ _ _ _ us hl=>by obtain⟨x0,rfl⟩:=Jk hl;rfl
 have Rw1:=qw1.xrd qw0 mrw1
 have Xw1:Xc l.prog w K mg base "BadPledge" Cw1 "bad pledge":=⟨⟨_,_,HX Fiw1 mw0 Ow0 FB biw0,mw1,qw1.Mf,biw1⟩⟩
 have mw2:=qw2.name X G
 obtain⟨_,Fiw2⟩:=qw2.fn
 have biw2:=Fiw2.binds (ps:=ZO) fun _ _ _ _ _ _ us hl=>by obtain⟨x0,rfl⟩:=Jk hl;rfl
 have Rw2:=qw2.xrd qw0 mrw2
 have Xw2:Xc l.prog w K mg base "NoFolk" Cw2 "no folk":=⟨⟨_,_,G6 Fiw2 mw0 Ow0 FB biw0,mw2,qw2.Mf,biw2⟩⟩
 have mw3:=qw3.name X G
 obtain⟨_,Fiw3⟩:=qw3.fn
 have biw3:=Fiw3.binds (ps:=ZO) fun _ _ _ _ _ _ us hl=>by obtain⟨x0,rfl⟩:=Jk hl;rfl
 have Rw3:=qw3.xrd qw0 mrw3
 have Xw3:Xc l.prog w K mg base "Gone" Cw3 "gone":=⟨⟨_,_,GP Fiw3 mw0 Ow0 FB biw0,mw3,qw3.Mf,biw3⟩⟩
 have mw4:=qw4.name X G
 obtain⟨_,Fiw4⟩:=qw4.fn
 have biw4:=Fiw4.binds (ps:=ZO) fun _ _ _ _ _ _ us hl=>by obtain⟨x0,rfl⟩:=Jk hl;rfl
 have Rw4:=qw4.xrd qw0 mrw4
 have Xw4:Xc l.prog w K mg base "NoPledge" Cw4 "no pledge":=⟨⟨_,_,Hi Fiw4 mw0 Ow0 FB biw0,mw4,qw4.Mf,biw4⟩⟩
 have mw5:=qw5.name X G
 obtain⟨_,Fiw5⟩:=qw5.fn
 have biw5:=Fiw5.binds (ps:=ZO) fun _ _ _ _ _ _ us hl=>by obtain⟨x0,rfl⟩:=Jk hl;rfl
 have Rw5:=qw5.xrd qw0 mrw5
 have Xw5:Xc l.prog w K mg base "Bound" Cw5 "bound":=⟨⟨_,_,HW Fiw5 mw0 Ow0 FB biw0,mw5,qw5.Mf,biw5⟩⟩
 have mw8:=qw8.name X G
 obtain⟨_,Fiw8⟩:=qw8.fn
 have biw8:=Fiw8.binds (ps:=ZO) fun _ _ _ _ _ _ us hl=>by obtain⟨x0,rfl⟩:=Jk hl;rfl
 have Rw8:=qw8.xrd qw0 mrw8
 have Xw8:Xc l.prog w K mg base "Full" Cw8 "full":=⟨⟨_,_,Ft Fiw8 mw0 Ow0 FB biw0,mw8,qw8.Mf,biw8⟩⟩
 have mw7:=qw7.name X G
 obtain⟨_,Fiw7⟩:=qw7.fn
 have biw7:=Fiw7.binds (ps:=ZO) fun _ _ _ _ _ _ us hl=>by obtain⟨x0,rfl⟩:=Jk hl;rfl
 have Rw7:=qw7.xrd qw0 mrw7
 have Xw7:Xc l.prog w K mg base "BadRise" Cw7 "bad rise":=⟨⟨_,_,Jo Fiw7 mw0 Ow0 FB biw0,mw7,qw7.Mf,biw7⟩⟩
 have mw6:=qw6.name X G
 obtain⟨_,Fiw6⟩:=qw6.fn
 have biw6:=Fiw6.binds (ps:=ZO) fun _ _ _ _ _ _ us hl=>by obtain⟨x0,rfl⟩:=Jk hl;rfl
 have Rw6:=qw6.xrd qw0 mrw6
 have Xw6:Xc l.prog w K mg base "NotDue" Cw6 "not due":=⟨⟨_,_,Hl Fiw6 mw0 Ow0 FB biw0,mw6,qw6.Mf,biw6⟩⟩
 have dd:=fun {x:Wb} {st:Stmt} {f:Addr} {ps:D9} {sp:Sp} {k:Nat} (q:HasDef K x st f)=>q.df (P:=l.prog) (w:=w) (mg:=mg) (base:=base) (ps:=ps) (sp:=sp) (k:=k) X G
 have dx:=fun {x:Wb} {st:Stmt} {f:Addr} {ps:D9} {sp:Sp} {k:Nat} (q:HasDef K x st f)=>q.dx (P:=l.prog) (w:=w) (mg:=mg) (base:=base) (ps:=ps) (sp:=sp) (k:=k) X G
 have dmx:=fun {x m q:Wb} {C:Addr} {st:Stmt} {f:Addr} {ps:D9} {sp:Sp} {k:Nat} (o:cU K C m q st f) (c:jx K x C)=>o.dmx (P:=l.prog) (w:=w) (mg:=mg) (base:=base) (ps:=ps) (sp:=sp) (k:=k) c
 have dm:=fun {x m q:Wb} {C:Addr} {st:Stmt} {f:Addr} {ps:D9} {sp:Sp} {k:Nat} (o:cU K C m q st f) (c:jx K x C)=>o.dm (P:=l.prog) (w:=w) (mg:=mg) (base:=base) (ps:=ps) (sp:=sp) (k:=k) c
 have S:yo K Cw10:=⟨qw10.cl,UQ,UP,UR,UO⟩
 have T:zF K Cw11:=⟨qw11.cl,UN,UM,UK⟩
 have ne:=ne_Boonw10
 let xa:XA:=⟨Cw2,Cw3,Cw1,Cw8,Cw4,Cw5,Cw6,Cw7,Cw2⟩
 have RX:∀ w:Wb,XRd K (xa.of w) Cw0 "word":=fun w=>by unfold XA.of;(repeat' split) <;> first | exact Rw2 | exact Rw3 | exact Rw1 | exact Rw8 | exact Rw6 | exact Rw7 | exact Rw4 | exact Rw5
 have Dq26:=dd qq26 bI fun _ F=>wR F B
 have Dq30:=dd qq30 bI fun _ F=>wz F B
 have Dq31:=dd qq31 bI fun _ F=>xQ F B
 have T0:Df l.prog w K mg base "_law_term" 1 VY (tR 0):=dd qq32 Fe fun _ _=>term_none
 have T1:=dd qq32 Fe fun _ F=>lL F B Dq26 Dq30 Dq31 T0
 have T2:=dd qq32 Fe fun _ F=>lL F B Dq26 Dq30 Dq31 T1
 have T3:=dd qq32 Fe fun _ F=>lL F B Dq26 Dq30 Dq31 T2
 have R0:Df l.prog w K mg base "_law_renamed" 0 WS (Dq K 0):=dd qq33 bI fun _ _=>JD
 have R1:=dd qq33 bI fun _ F=>gW F B R0
 have R2:=dd qq33 bI fun _ F=>gW F B R1
 have R3:=dd qq33 bI fun _ F=>gW F B R2
 have Dq34:=dd qq34 Qy fun _ F=>z9 F B T3 R3
 have Dq35:=dd qq35 Qy fun _ F=>uI F B Dq26 Dq30 Dq31 Dq34
 have S0:Df l.prog w K mg base "_law_same" 0 XI (qM 0):=dd qq27 bI fun _ _=>same_none
 have S1:=dd qq27 bI fun _ F=>bM F B S0
 have S2:=dd qq27 bI fun _ F=>bM F B S1
 have S3:=dd qq27 bI fun _ F=>bM F B S2
 have S4:=dd qq27 bI fun _ F=>bM F B S3
 have S5:=dd qq27 bI fun _ F=>bM F B S4
 have S6:=dd qq27 bI fun _ F=>bM F B S5
 have S7:=dd qq27 bI fun _ F=>bM F B S6
 have S8:=dd qq27 bI fun _ F=>bM F B S7
 have S9:=dd qq27 bI fun _ F=>bM F B S8
 have S10:=dd qq27 bI fun _ F=>bM F B S9
 have S11:=dd qq27 bI fun _ F=>bM F B S10
 have S12:=dd qq27 bI fun _ F=>bM F B S11
 have S13:=dd qq27 bI fun _ F=>bM F B S12
 have S14:=dd qq27 bI fun _ F=>bM F B S13
 have H0:Df l.prog w K mg base "holds" 0 YO (eE K 0):=dd qq8 bI fun _ _=>Dr
 have A1:=dd qq6 bI fun _ F=>jm F B H0
 have Y1:=dd qq7 bI fun _ F=>gB F B H0
 have H1:=dd qq8 bI fun _ F=>pP F B A1 Y1
 have A2:=dd qq6 bI fun _ F=>jm F B H1
 have Y2:=dd qq7 bI fun _ F=>gB F B H1
 have H2:=dd qq8 bI fun _ F=>pP F B A2 Y2
 have A3:=dd qq6 bI fun _ F=>jm F B H2
 have Y3:=dd qq7 bI fun _ F=>gB F B H2
 have H3:=dd qq8 bI fun _ F=>pP F B A3 Y3
 have A4:=dd qq6 bI fun _ F=>jm F B H3
 have Y4:=dd qq7 bI fun _ F=>gB F B H3
 have H4:=dd qq8 bI fun _ F=>pP F B A4 Y4
 have Dq13:=dd qq13 bI fun _ F=>Oz F B H4
 have L0:Df l.prog w K mg base "_law_holds" 0 WI (eE K 0):=dd qq37 bI fun _ _=>yW
 have L1:=dd qq37 bI fun _ F=>gG F B L0
 have L2:=dd qq37 bI fun _ F=>gG F B L1
 have L3:=dd qq37 bI fun _ F=>gG F B L2
 have L4:=dd qq37 bI fun _ F=>gG F B L3
 have Dq38:=dd qq38 bI fun _ F=>Ad F B L4
 have Dq39:=dd qq39 bI fun _ F=>zr F B Dq38
 have Dq1:=dd qq1 iu fun _ F=>xr F B
 have Dq2:=dd qq2 iu fun _ F=>yQ F B Dq1
 have W0:Df l.prog w K mg base "is_term_within" 1 XZ (jX 0):=dd qq4 iu fun _ _=>zA
 have P0:=dd qq3 iu fun _ F=>gq F B TH TM (by decide) Dq1 W0
 have W1:=dd qq4 iu fun _ F=>dz F B TU TW TL (by decide) Dq1 Dq2 P0
 have P1:=dd qq3 iu fun _ F=>gq F B TH TM (by decide) Dq1 W1
 have W2:=dd qq4 iu fun _ F=>dz F B TU TW TL (by decide) Dq1 Dq2 P1
 have P2:=dd qq3 iu fun _ F=>gq F B TH TM (by decide) Dq1 W2
 have W3:=dd qq4 iu fun _ F=>dz F B TU TW TL (by decide) Dq1 Dq2 P2
 have P3:=dd qq3 iu fun _ F=>gq F B TH TM (by decide) Dq1 W3
 have W4:=dd qq4 iu fun _ F=>dz F B TU TW TL (by decide) Dq1 Dq2 P3
 have Dq5:=dd qq5 bI fun _ F=>Eo F B TK W4
 have M0:Df l.prog w K mg base "mentions" 0 ZT (jG 0):=dd qq9 bind1 fun _ _=>yF
 have M1:=dd qq9 bind1 fun _ F=>iV F B M0
 have M2:=dd qq9 bind1 fun _ F=>iV F B M1
 have M3:=dd qq9 bind1 fun _ F=>iV F B M2
 have M4:=dd qq9 bind1 fun _ F=>iV F B M3
 have Dq10:=dd qq10 bind1 fun _ F=>Kr F B M4
 have N0:Df l.prog w K mg base "_law_named" 0 YI (jG 0):=dd qq36 bind1 fun _ _=>yF
 have N1:=dd qq36 bind1 fun _ F=>gJ F B N0
 have N2:=dd qq36 bind1 fun _ F=>gJ F B N1
 have N3:=dd qq36 bind1 fun _ F=>gJ F B N2
 have N4:=dd qq36 bind1 fun _ F=>gJ F B N3
 have Dq11:=dd qq11 Fe fun _ F=>Dw F B TU (by decide) Dq1 Dq5 Dq10
 have Dq12:=dd qq12 iu fun _ F=>xx F B TR (by decide) Dq1 Dq11
 have Dw10:=VA.dk (P:=l.prog) (w:=w) (base:=base) (ps:=Wp) qw10 X G (fun _ F=>F.binds fun _ _ _ _ _ _ us hl=>by obtain⟨x0,x1,x2,x3,x4,rfl⟩:=Uq hl;rfl) fun _ F=>ur F S
 have Dw11:=UY.dk (P:=l.prog) (w:=w) (base:=base) (ps:=ZO) qw11 X G (fun _ F=>F.binds fun _ _ _ _ _ _ us hl=>by obtain⟨x0,rfl⟩:=Jk hl;rfl) fun _ F=>uF F T Dw10
 have PP:=dm (ps:=YV) UV qw11 (fun _ F=>F.binds fun _ _ _ _ _ _ us hl=>by obtain⟨x0,x1,rfl⟩:=Qg hl;rfl) fun _ F=>sy F T
 have SY:=dmx (ps:=ZO) UU qw11 (fun _ F=>F.binds fun _ _ _ _ _ _ us hl=>by obtain⟨x0,rfl⟩:=Jk hl;rfl) fun _ F=>sY ne F B S T TL Dw10 PP Xw8
 have SR:=dx qq14 bI fun _ F=>pH F B S Dq1 Xw2 Xw3
 have SO:=dx qq17 iu fun _ F=>nq (by decide) F B S Dq12 Xw1
 have Tb:=dmx (ps:=X0) U1 qw11 (fun _ F=>F.binds fun _ _ _ _ _ _ us hl=>by obtain⟨x0,x1,x2,rfl⟩:=Tv hl;rfl) fun _ F=>pO (x:=xa) (by decide) ne F B S T TN SR SO Dw10 PP Xw8
 have Ta:=dmx (ps:=ZH) UZ qw11 (fun _ F=>F.binds fun _ _ _ _ _ _ us hl=>by obtain⟨x0,x1,rfl⟩:=Qg hl;rfl) fun _ F=>rM (x:=xa) ne F B S T SR Dw10 PP
 have Dq15:=dd qq15 iu fun _ F=>Ej F B Dq13
 have SU:=dx qq16 bI fun _ F=>qP (x:=xa) F B S Dq1 Xw4
 have ST:=dx qq18 iu fun _ F=>iy (x:=xa) (by decide) F B S Dq15 Dw10 Xw5
 have SL:=dx qq18 iu fun _ F=>(iy (x:=xa) (by decide) F B S Dq15 Dw10 Xw5).mono (show 11<=13 by decide)
 have SW:=dmx (ps:=Xt) US qw11 (fun _ F=>F.binds fun _ _ _ _ _ _ us hl=>by obtain⟨x0,x1,x2,rfl⟩:=Tv hl;rfl) fun _ F=>pL (x:=xa) (by decide) ne F B S T SU SO SL PP
 have Tk:=dmx (ps:=YU) U2 qw11 (fun _ F=>F.binds fun _ _ _ _ _ _ us hl=>by obtain⟨x0,x1,rfl⟩:=Qg hl;rfl) fun _ F=>(mQ (x:=xa) (by decide) ne F B S T SU ST PP).mono (show 12<=14 by decide)
 have SS:=dx qq19 bI fun _ F=>sG (x:=xa) (by decide) F B S TU SR Dq1 Dq15 Dw10 Xw7 Xw6
 have SZ:=dmx (ps:=YY) UX qw11 (fun _ F=>F.binds fun _ _ _ _ _ _ us hl=>by obtain⟨x0,x1,rfl⟩:=Qg hl;rfl) fun _ F=>(tE (x:=xa) (by decide) ne F B T SS PP).mono (show 12<=14 by decide)
 have Dq20:=dd qq20 bind1 fun _ F=>Ox F B S T
 have Dq22:=dd qq22 bind1 fun _ F=>J4 F B S T
 have Dq21:=dd qq21 bind1 fun _ F=>uw F B S T Dq20
 have Dq23:=dd qq23 bind1 fun _ F=>zz F B S T
 have Dq24:=dd qq24 bind1 fun _ F=>Ho F B S T
 have Dq41:=dd qq41 bI fun _ F=>sV F B
 have Dq40:=dd qq40 bI fun _ F=>uN F B
 have Dq42:=dd qq42 iu fun _ F=>zT F B N4
 have Dq44:=dd qq44 bI fun _ F=>yg F B
 have Dq45:=dd qq45 bI fun _ F=>j7 (by decide) F B Dq41 Dq44 Dq40 Dq39
 have Dq43:=dd qq43 iu fun _ F=>wu (by decide) F B Dq40 Dq39
 have Dq46:=dd qq46 bI fun _ F=>nA F B c_dict
 have Dq47:=dd qq47 bI fun _ F=>sZ (by decide) F B Dq41 Dq42 Dq45 Dq43 Dq46
 have Dq48:=dd qq48 bI fun _ F=>v8 F B c_dict Dq44 Dq46
 have Dq55:=dx qq55 bI fun _ F=>HH (x:=xa) (by decide) F B SY Ta Tb SW Tk SZ
 have Dq29:=dd qq29 bI fun _ F=>uQ F B Dq20 Dq21 Dq22 Dq23 Dq24 S14
 have Dq51:=dd qq51 bI fun _ F=>Er F B
 have Dq52:=dd qq52 bind1 fun _ F=>sU F B Dq40
 have Dq49:=dd qq49 iu fun _ F=>mF F B Dq39
 have Dq50:=dd qq50 bI fun _ F=>zc F B
 have Dq53:=dd qq53 bI fun _ F=>xY (by decide) F B Dq26 Dq52 Dq39 Dq49 Dq50 Dq51
 have Dq54:=dd qq54 iu fun _ F=>Af (by decide) F B Dq26 Dq51 Dq53 Dq30 Dq35
 obtain⟨_,Fq28⟩:=qq28.fn
 have mq28:=qq28.name X G
 have Dq57:=dd qq57 bI fun _ F=>vg (by decide) F B Dq26 Dq53
 have Dq56:=dd qq56 iu fun _ F=>yt (x:=xa) (by decide) F B Dq54 Dq47 Dq55 Dq48
 have Dq25:=dd qq25 bI fun _ F=>zR (x:=xa) F T mw0 RX SS
 exact Sh Fq58 B HP mw0 RX Fq28 mq28 Dw11 Dq56 Dq57 Dq45 Dq25 SZ Dq48 Dq29 S3
def walk {l:W.OpenLaw}{q:V4}{loose:D9}{XP:(Wb->DO)->WD->Prop}{YP:Wn->WD->Prop}{d:DefRec}{K:Params->V3}(hn:l.most=some 63)(hdf:d.params.defaults=[])
  (hY:∀ (w:Wn) (h:WD),YP w h->(K w.params).In h/\h.get? 697=some (W.tabObj #[])) (hno:∀ w:Wn,W.noTabs (K w.params)=true)
  (F:∀ (w:Wn) (mg:Wb->DO) (fa:Addr) (h:WD),(K w.params).In h->h.Ns V6 mg->mg d.name=some (.ref fa)->∃ (fd:WR) (c:Addr),W.codeHdIn (K w.params) c 697=true/\(∀ (s:Vt) (u:Value),aa6 s fd ⟨[u],[]⟩ [("_law_script",u)]) ∧
   ∀ base:WD,(K w.params).In base->base.Ns V6 mg->Ez mg c 697 base->bH l.prog w (K w.params) mg base CX0 19 fa fd ZE (J7 (K w.params) 697)) :
  W.WalkO q loose XP YP l.row.toRowW d [] (fun f vs=>PySem.call f vs) :=
 L2.K5 (n:=63) (k:=19) (x:="_law_script") (q:=Ov) (T:=697) (sp:=fun w=>J7 (K w.params) 697) hn (by decide) hdf ⟨U,by decide,by decide⟩ hY hno F fun _ _ a ns hl hT hS=>⟨a,ns,U,hS,hl,hT,fun _=>U⟩
end My
end
open PySem PySem.W PyProof.Rows
namespace PySem.Challenge.cw_loveboon_k35_gifts_handed_in_holds
def tw1982124494198045473:True:=trivial
def tw7552002275836298836:True:=trivial
def tw1085797899525633282:True:=trivial
def tw15636902820670520142:True:=trivial
def tw5204794165936558787:True:=trivial
def tw10510717885752658330:True:=trivial
def tw13124883916784888787:True:=trivial
def tw17971166659579224905:True:=trivial
def tw2034686446573896970:True:=trivial
def tw4923105754848975753:True:=trivial
def tw13532807151642976273:True:=trivial
def tw6992697928446488668:True:=trivial
def tw5749833476060900304:True:=trivial
def tw8410447387142456147:True:=trivial
def tw5413234347192171726:True:=trivial
def tw1936451649141926270:True:=trivial
def tw17414169023168927597:True:=trivial
def tw11883635608689633548:True:=trivial
def tw4462499184352958348:True:=trivial
def tw9761164037203014629:True:=trivial
def tw10430564039089298535:True:=trivial
def tw5632448997425644446:True:=trivial
def tw1524129181724260472:True:=trivial
def tw10566563376612081197:True:=trivial
def tw524863039242523812:True:=trivial
def tw15347232919740623960:True:=trivial
def tw10487365366446405908:True:=trivial
def tw7042566926430781188:True:=trivial
def tw16691758959035221120:True:=trivial
def tw17498409311494121570:True:=trivial
def tw9018263194488068016:True:=trivial
def tw6030811885455657632:True:=trivial
def tw9371743807432608820:True:=trivial
def tw314868602156842752:True:=trivial
def tw11425382244726543963:True:=trivial
def tw3510275984335436491:True:=trivial
def tw17852242773713520218:True:=trivial
def tw7564903480619827795:True:=trivial
def tw7282686697343621889:True:=trivial
def tw8215798612734715685:True:=trivial
def tw2339093263797838220:True:=trivial
def tw10670579607699956374:True:=trivial
def tw2874077570603312112:True:=trivial
def tw9810300947454240199:True:=trivial
def tw11619937969942253194:True:=trivial
def tw195361345896762018:True:=trivial
def tw8420847326664646052:True:=trivial
def tw14859648693792956563:True:=trivial
def tw3492416242649312346:True:=trivial
def tw9177698655196397082:True:=trivial
def tw18107964407478485220:True:=trivial
def tw4363205787449279928:True:=trivial
def tw4302136080260997323:True:=trivial
def tw7300397307283882380:True:=trivial
def tw10377020053176826263:True:=trivial
def tw12002903042176918369:True:=trivial
def tw6837135475022447571:True:=trivial
def tw2643486844222168275:True:=trivial
def tw1700199794568665431:True:=trivial
def tw11277487868668493171:True:=trivial
def tw2645147170162958165:True:=trivial
def tw18018738335025284504:True:=trivial
def tw4358738993175232286:True:=trivial
def tw11767431676373157473:True:=trivial
def tw3964133385703957725:True:=trivial
def tw1695353841380970187:True:=trivial
def tw15406078796439077860:True:=trivial
def tw6516304193830675546:True:=trivial
def tw5010765039238805135:True:=trivial
def tw12716812503549601373:True:=trivial
def tw6541415935714049661:True:=trivial
def tw16918440114064720072:True:=trivial
def tw14740357117330718248:True:=trivial
def tw15517587353178864120:True:=trivial
def tw5392311939541746763:True:=trivial
def tw6400339131489076239:True:=trivial
def tw12292170728467699453:True:=trivial
def tw9789821124313029615:True:=trivial
def tw4958229785407582854:True:=trivial
def tw2921940093596355496:True:=trivial
def tw15990237424687886363:True:=trivial
def tw17904765142646049546:True:=trivial
def tw16660111104165614919:True:=trivial
def tw14559295218007218271:True:=trivial
def tw9782507074285107355:True:=trivial
def tw4854065226179353909:True:=trivial
def tw541056938244360843:True:=trivial
def tw11051936860507040014:True:=trivial
def tw4976774489346645448:True:=trivial
end PySem.Challenge.cw_loveboon_k35_gifts_handed_in_holds
set_option maxRecDepth 100000 in
set_option maxHeartbeats 0 in
theorem PySem.Challenge.cw_loveboon_k35_gifts_handed_in_holds : PySem.Challenge.rw_loveboon_k35_gifts_handed_in.Holds := by
 w_on;o_law;k_head;(case hw=>w_witness2)
 k_fill
 refine My.walk (l:=PySem.Challenge.rw_loveboon_k35_gifts_handed_in) U U (fun w h Y=>⟨W.km_in_of Y,W.km_tabs_of Y 697 (by simp)⟩) (fun w=>by kernel_rfl) ?F
 case F =>
  intro w mg fa h KX G hmg
  refine' My.all_mk KX G hmg ?qw0 ?xga ?xty ?xrd ?xfd ?qw1 ?mrw1 ?qw2 ?mrw2 ?qw3 ?mrw3 ?qw4 ?mrw4 ?qw5 ?mrw5 ?qw8 ?mrw8 ?qw7 ?mrw7 ?qw6 ?mrw6 ?qw10 ?UQ ?UP ?UR ?UO ?VA ?qw11 ?UN ?UM ?UK ?UY ?UV ?UU ?UZ ?U1 ?US ?U2 ?UX ?ne_Boonw10 ?qq1 ?qq2 ?qq3 ?qq4 ?qq5 ?qq6 ?qq7 ?qq8 ?qq9 ?qq10 ?qq11 ?qq12 ?qq13 ?qq14 ?qq15 ?qq16 ?qq17 ?qq18 ?qq19 ?qq20 ?qq21 ?qq22 ?qq23 ?qq24 ?qq25 ?qq26 ?qq27 ?qq28 ?qq29 ?qq30 ?qq31 ?qq32 ?qq33 ?qq34 ?qq35 ?qq36 ?qq37 ?qq38 ?qq39 ?qq40 ?qq41 ?qq42 ?qq43 ?qq44 ?qq45 ?qq46 ?qq47 ?qq48 ?qq49 ?qq50 ?qq51 ?qq52 ?qq53 ?qq54 ?qq55 ?qq56 ?qq57 ?qq58 ?VO ?VU ?VW ?VI ?VC ?VQ ?VT ?VS ?z_len ?z_range ?z_all ?z_isinstance ?z_int ?z_bool ?z_str ?z_list ?z_tuple ?z_abs ?z_max ?z_min ?z_sum ?z_sorted ?z_zip ?z_reversed ?z_divmod ?z_set ?z_any ?z_enumerate ?z_ValueError ?z_dict
  (case qw0=>apply L2.dW.mk <;> first | exact⟨rfl,rfl,rfl,rfl⟩ | k_is | rfl)
  (case xga|xty|xrd|xfd=>k_is)
  (case qw1=>apply L2.dW.mk <;> first | exact⟨rfl,rfl,rfl,rfl⟩ | k_is | rfl)
  (case mrw1=>rfl)
  (case qw2=>apply L2.dW.mk <;> first | exact⟨rfl,rfl,rfl,rfl⟩ | k_is | rfl)
  (case mrw2=>rfl)
  (case qw3=>apply L2.dW.mk <;> first | exact⟨rfl,rfl,rfl,rfl⟩ | k_is | rfl)
  (case mrw3=>rfl)
  (case qw4=>apply L2.dW.mk <;> first | exact⟨rfl,rfl,rfl,rfl⟩ | k_is | rfl)
  (case mrw4=>rfl)
  (case qw5=>apply L2.dW.mk <;> first | exact⟨rfl,rfl,rfl,rfl⟩ | k_is | rfl)
  (case mrw5=>rfl)
  (case qw8=>apply L2.dW.mk <;> first | exact⟨rfl,rfl,rfl,rfl⟩ | k_is | rfl)
  (case mrw8=>rfl)
  (case qw7=>apply L2.dW.mk <;> first | exact⟨rfl,rfl,rfl,rfl⟩ | k_is | rfl)
  (case mrw7=>rfl)
  (case qw6=>apply L2.dW.mk <;> first | exact⟨rfl,rfl,rfl,rfl⟩ | k_is | rfl)
  (case mrw6=>rfl)
  (case qw10=>apply L2.jx.mk <;> k_is)
  (case UQ|UP|UR|UO=>k_is)
  (case VA=>apply L2.cU.mk <;> k_is)
  (case qw11=>apply L2.jx.mk <;> k_is)
  (case UN|UM|UK=>k_is)
  (case UY|UV|UU|UZ|U1|US|U2|UX=>apply L2.cU.mk <;> k_is)
  (case ne_Boonw10=>decide)
  (case qq1|qq2|qq3|qq4|qq5|qq6|qq7|qq8|qq9|qq10|qq11|qq12|qq13|qq14|qq15|qq16|qq17|qq18|qq19|qq20|qq21|qq22|qq23|qq24|qq25|qq26|qq27|qq28|qq29|qq30|qq31|qq32|qq33|qq34|qq35|qq36|qq37|qq38|qq39|qq40|qq41|qq42|qq43|qq44|qq45|qq46|qq47|qq48|qq49|qq50|qq51|qq52|qq53|qq54|qq55|qq56|qq57=>apply L2.HasDef.mk <;> k_is)
  (case qq58=>apply L2.jo.mk <;> first | k_is | kernel_rfl)
  (case VO|VU|VW|VI|VC|VQ|VT|VS|z_len|z_range|z_all|z_isinstance|z_int|z_bool|z_str|z_list|z_tuple|z_abs|z_max|z_min|z_sum|z_sorted|z_zip|z_reversed|z_divmod|z_set|z_any|z_enumerate|z_ValueError|z_dict=>k_is)
