import PyProof.Rows.All
import Wide.All
import OpenK.AllK
import Wide.FinOn
import Lean
import PyProof.EqAt
import PyProof.EqKinds
import PyProof.TupleCall
import PyProof.NeKinds
import PySem.Challenge.RW_loveboon_k36_whole_deeds_undone_and_redo
noncomputable section
def U {α : Sort _}{a : α} : a = a := rfl
open Array renaming getElem?_eq_getElem→VJ,length_toList→Wf,getElem?_toList→Wr,getD_eq_getD_getElem?→XX,getElem?_eq_none→Yx,append_assoc→aas
open Bool renaming false_ne_true→Ve,and_eq_true→WX,true_and→YB,false_and→Zd,and_false→Ze,or_true→Zj,eq_iff_iff→aab,false_or→abx,false_eq_true→abB,or_eq_true→acj,decide_and→ack
open False renaming elim→V9
open ForInStep renaming yield→Zx
open Int renaming toNat_natCast→VL,emod_lt_of_pos→VN,emod_nonneg→V5,eq_ofNat_of_zero_le→Wo,zero_add→WN
open List renaming length_map→U7,map_append→Vd,length_append→Vf,getElem?_eq_getElem→Vg,take_length→Vk,mem_cons_self→Vm,size_toArray→Vo,mem_cons_of_mem→Vp,getElem?_map→Vr,length_take→Vs,length_cons→Vv,mem_of_getElem?→Vy,getD_eq_getElem?_getD→Vz,take_add_one→VD,replicate→VM,mem_append_right→V0,take_zero→V6,eq_nil_of_length_eq_zero→V8,map_cons→Wk,length_filter_le→Wq,lookup_cons→Wt,range→Wx,append_nil→WR,length_range→Xd,mem_cons→Xg,mem_singleton→Xk,contains_cons→Xl,pairwise_cons→Xx,not_mem_nil→Xy,filter_cons_of_pos→XH,filter_cons_of_neg→XJ,foldl_cons→XM,filterMap_cons→XQ,getElem?_eq_none→Yb,take_succ_cons→Yk,replicate_succ→Yl,filter_append→Yu,any_cons→Yz,length_replicate→YG,pairwise_map→YM,lookup→Zb,getElem?_append_right→Zc,length_drop→Zi,drop_eq_getElem_cons→Zk,getElem_of_mem→Zo,mem_append→Zv,find?_cons→Zw,range_succ_eq_map→ZK,getElem?_set_self→ZL,append_assoc→ZM,filter_cons→ZZ,all_cons→Z1,pairwise_append→Z3,mem_append_left→Z4,length→Z5,reverse_cons→aav,flatten_cons→aaw,getElem_map→aaH,getElem?_replicate→aaI,cons_append→aaJ,zipWith→aaR,map_map→aaS,range_succ→aa0,of_mem_zip→aa1,nil_append→aa2,length_set→aa3,getElem?_toArray→aa5,replicate_succ'→abb,getElem?_set_ne→abd,dropLast_concat→abe,mem_map_of_mem→abo,getElem?_range→abp,filterMap_map→abA,nodup_append→abN,all_map→abO,eraseIdxIfInBounds_toArray→abS,getElem_mem→ab0,getElem_inj→ab3,drop_length→ab4,getLast?_eq_some_getLast→acb,dropLast_concat_getLast→aci
open List.Pairwise renaming nil→aax
open Nat renaming le_refl→Vb,lt_of_lt_of_le→Vc,ne_of_lt→Vw,le_trans→VH,zero_le→V3,lt_irrefl→Wj,lt_succ_of_lt→Wn,le_succ→WY,le_of_lt→Xb,lt_succ_self→Xw,succ_ne_zero→Yo,ne_of_gt→Yt,le_of_succ_le→YL,lt_of_le_of_lt→Zz,not_lt_zero→aaa,lt_trans→aaP,lt_of_succ_lt_succ→aaQ,succ_le_succ→abZ
open Ne renaming symm→Wz
open Option renaming isSome_map→abM
open Option.some renaming inj→VV
open Or renaming inl→Za,inr→Zn
open PyProof.Rows renaming IntsAre→Wv,step_dedup→WD,callWith_type1→XS,seqObj→Z9,AllBare→aaz,envOfC→abn,subscriptTail→abr,slot_tuple_getitem→abR,callWith_builtin1→abY,entry_list_sort→acf
open PyProof.Rows.F renaming plain_set_update_loop→aaK
open PySem renaming wpAny_bind→U6,Shared→U8,wpAny_pure→Va,wpAny→Vh,model→Vl,Program→Vt,mainGlobals→Vu,starEach→Vx,Str→VB,Around→V1,World→V2,wpAny_newObj_type→V7,wpAny_mono→Wc,bootBuiltins→We,Heap→Wg,FuncData→Wh,rawInt→Wl,mem_of_lookup→Ws,wpAny_holding→Ww,eval→Wy,codeAny→WK,wpAny_Call_Name_kw→WL,wpAny_call_entry→WW,wpAny_loadPart_at→W9,wpAny_setField→Xe,codeAny_builtin→Xh,backTo→Xj,compareOp→Xm,wpAny_truthy_bool→Xp,foldedSetIterable→Xq,Obj→Xz,wpAny_callSpecial?_slot→XD,Scope→XF,wpAny_isSubtype_exc→XN,codeAny_mono→XR,wpAny_standAt→X3,wpAny_of_eq→X4,wpAny_field→X5,behindInMarks→X6,builtinLookup_eq_fast→X8,letOwnedTupleGo→Yc,sliceBounds→Ye,plainId_quiet→Yh,wpAny_askSetting→Ym,isSubtype_type→Yn,keywordEach→Yq,excClassObj→Yr,Builtin→Yw,attributeBase→Yy,pyNext→YC,wpAny_setState_of→YH,standAt→YJ,Pos→YS,wpAny_call→YT,sysModules→YW,codeAny_call_builtin→YX,bindArgs→YZ,SetTable→Y7,intKind→Zf,holding→Zg,checkBuiltinCall→Zh,wpAny_attempt→Zq,binaryOp→Zr,typeLookup_type→Zu,getMethod→ZC,wpAny_pyIter_list→ZD,firstArgMember→ZF,wpAny_isInstance→ZQ,swapsWith→ZR,pickOrder→ZS,assignEach→ZV,TriplesOk→ZW,backToKw→Z2,wpAny_updateSeq→Z6,wpAny_specialOf→Z7,wpAny_passesOwn→Z8,wpAny_setEntries_of→aac,noteFrame→aaf,codeAmong→aag,wpAny_tryCatch→aah,wpAny_seqItems→aai,wpAny_rule→aaj,typeLookup→aak,tupleKind_room_in1→aal,argsOk→aam,Result→aan,NameKind→aap,wpAny_comprehension_free→aaA,slicePick→aaD,compPost→aaE,callWith→aaF,call_meets→aaL,assign→aaM,BindsTo→aaU,wpAny_ite_false→aaV,wpAny_execs_nil→aaW,codeAny_of_tree→aaX,wpAny_newFunctionEnv→aa6,pyIter→aa7,valueAt→abf,getItem→abg,Arguments→abj,wpAny_newList→abq,signature?_of→abt,wpAny_typeOf→abC,wpAny_pyIter_slot→abD,relayAll→abE,compEnvC→abF,callerA→abG,GenState→abP,plainObj_wpAny_Assign_Attribute→abQ,tupleKind→abT,seqItems?→abU,seqIndex?→abV,noFill_tuple_add→abW,IsPart→ab5,wpAny_letGo→ab7,subscripted→ab8,sizeLine_eq→ab9,wpAny_ite_split→acd,theTreesLotGoes→ace,setNext→acn
open PySem.Around renaming under_plainId→Xn
open PySem.Builtin.Builtins renaming bindParams→aae
open PySem.Builtin.List renaming listExtendWith→YQ,listTooLong→aaC,listLengthHint→acp
open PySem.Builtin.Slice renaming slicePlaces→Zm,sliceAdjust→aau
open PySem.Builtin.SmallTypes renaming newClass→aco
open PySem.Builtin.Tuple renaming tupleExact→Zt
open PySem.Calls renaming spliced_cons→aar,call_function_entry→aat,spliced_nil→aay,callWith_builtin→aaT
open PySem.Code renaming quiet_builtin→aaq
open PySem.F renaming plainAttrs_list→VR,type_list_append→Wa,slot_list_append→Wb,plain_max_loop→Yp,type_list_pop→YD,slot_list_pop→YF,args_tuple_add_2→aaB,entry_tuple_add→aaG,slot_tuple_add→aaO,entry_max_loop→ab6
open PySem.Heap renaming get?_push_of_some→U9,lt_size→Vj,get?_push_size→Vn,get?_update_other→VF,get?_update_self→VP,size_push→WT,SameBut→Yv
open PySem.Heap.SameBut renaming update→W8
open PySem.NameKind renaming free→Xo,cell→abw
open PySem.Obj renaming mapFields→Xf,mapSeq→Ys,data_mapFields→aao,isFreed_of_fields→aa4,putSet→abz
open PySem.PassesOwn renaming never→V4
open PySem.SetTable renaming below→WQ,grown→Y6
open PySem.SetTable.below renaming go→ZJ
open PySem.SetTable.probe renaming go→abI
open PySem.Str renaming ofString→ZG
open PySem.Value renaming ref→Vq,none→WM,int→X7,type→Yi,bool→aaN,str→abi,builtin→abu
open PySem.W renaming Frag→Vi,Frag→VG,mg_none_of→Wm,findIn→Wu,keepIn→Xa,kia_one→Xi,nsIn→Xr,emptyDict→Xu,instObj→Yd,fnOf→Yg,hasDictIn→YK,kitOne→Y0,findIn→Y5,looks_findIn→Y8,codeIn→Y9,callWith_K→Zy,methodCall_KW→ZP,plainGet→ZX,mg_of→Z0,takerIn→aaY,kla_obj→aaZ,fnOf→aa8,lookIn→aba,mg_of→abh,plainGet_of→abk,looks_clsIn→abl,callWith_K0→abm,Looks→abv,plainOver→abJ,methodObj→abK,isFn→abL,handedIn→abX,makesIn→acg,hideAll→ach
open PySem.W.Looks renaming here→Xv
open PySem.Walks renaming list→aby
open Sum renaming inl→Wi,inr→abH
open Sum.inl renaming inj→aa9
open True renaming intro→Yj
open PySem
abbrev CU := Option (Value × Nat)
abbrev CY := Option (Int × Tok)
abbrev C0 := List (VB × Value)
abbrev C1 := List (Addr × Xz)
abbrev C2 := List (VB × Addr)
abbrev C3 := List (Int × Int)
abbrev C4 := Value->U8->Prop
abbrev C5 := Option Value
abbrev C6 := List Keyword
abbrev C7 := Option Addr
abbrev C8 := Option Bool
abbrev C9 := List Value
abbrev Da := Option Int
abbrev Db := List Addr
abbrev Do := List Expr
abbrev DA := List Stmt
abbrev DB := List Env
abbrev DC := List Int
abbrev DD := List Nat
abbrev DE := List Str
abbrev DF := List VB
set_option Elab.async false
set_option linter.all false
set_option maxRecDepth 100000
namespace L2
open PySem PySem.Spec PyProof.Rows
abbrev Key:=Sum Int VB
def wj:Key->Value->Bool
 | .inl k,v=>Value.isInt k v
 | .inr x,v=>Value.isStrOf x v
def UW (w:V2):Key->Int
 | .inl k=>hashInt k
 | .inr x=>hashStr w x
theorem bV:∀ {k:Key} {v:Value},wj k v=true->(∃ i t,k=Wi i/\v=X7 i t)∨(∃ x t,k=abH x/\v=abi x t)
 | .inl i,v,h=>by
  obtain⟨t,e⟩:=Value.isInt_shape (k:=i) (v:=v) h;exact .inl ⟨i,t,U,e⟩
 | .inr x,v,h=>by
  obtain⟨t,e⟩:=Value.isStrOf_shape (x:=x) (v:=v) h;exact .inr ⟨x,t,U,e⟩
def Gg (i:Int)(t:Tok):wj (.inl i) (.int i t)=true:=by simp [wj,Value.isInt]
def Fd (x:VB)(t:Tok):wj (.inr x) (.str x t)=true:=by simp [wj,Value.isStrOf]
def QF (a b:Int):decide ((Wi a:Key)=Wi b)=(a == b):=by
 by_cases e:a=b;{subst e;simp};{have h:¬ (Wi a:Key)=Wi b:=fun q=>e (aa9 q);rw[decide_eq_false h];exact (beq_eq_false_iff_ne.mpr e).symm}
def QC (a b:VB):decide ((abH a:Key)=abH b)=decide (a=b):=by
 by_cases e:a=b;{subst e;simp};{have h:¬ (abH a:Key)=abH b:=fun q=>e (Sum.inr.inj q);rw[decide_eq_false h,decide_eq_false e]}
def QW (a:Int)(b:VB):decide ((Wi a:Key)=abH b)=false:=decide_eq_false (fun q=>nomatch q)
def QV (a:VB)(b:Int):decide ((abH a:Key)=Wi b)=false:=decide_eq_false (fun q=>nomatch q)
def c7 (prog:Vt)(w:V2):PySem.KeyKind prog w Key where
 is:=wj
 hash:=UW w
 inj:=fun v a b ha hb=>by
  rcases bV ha with⟨i,t,rfl,rfl⟩ | ⟨x,t,rfl,rfl⟩
  ·rcases bV hb with⟨j,u,rfl,e⟩ | ⟨y,u,rfl,e⟩;{injection e with e1 _;rw[e1]};{exact nomatch e}
  ·rcases bV hb with⟨j,u,rfl,e⟩ | ⟨y,u,rfl,e⟩;{exact nomatch e};{injection e with e1 _;rw[e1]}
 byValue:=fun k v h=>by
  rcases bV h with⟨i,t,rfl,rfl⟩ | ⟨x,t,rfl,rfl⟩ <;> rfl
 pyHash:=fun hv h=>by
  rcases bV hv with⟨i,t,rfl,rfl⟩ | ⟨x,t,rfl,rfl⟩;{exact wpAny_pyHash_int h};{exact wpAny_pyHash_str h}
 eqBool:=fun hu hv h=>by
  rcases bV hu with⟨i,t,rfl,rfl⟩ | ⟨x,t,rfl,rfl⟩
  ·rcases bV hv with⟨j,u,rfl,rfl⟩ | ⟨y,u,rfl,rfl⟩;{rw[QF] at h;exact wpAny_eqBool_int h};{rw[QW] at h;exact SeqAt.EqAt.int_str i t y u _ _ _ _ h}
  ·rcases bV hv with⟨j,u,rfl,rfl⟩ | ⟨y,u,rfl,rfl⟩;{rw[QV] at h;exact SeqAt.EqAt.str_int x t j u _ _ _ _ h};{rw[QC] at h;exact wpAny_eqBool_str h}
 «strs»:=fun k x t v h=>by
  rcases bV h with⟨i,u,rfl,e⟩ | ⟨y,u,rfl,e⟩;{exact nomatch e};{injection e with e1 _;subst e1;cases v <;> rfl}
def zc (prog:Vt)(w:V2)(i:Int)(t:Tok):(c7 prog w).is (.inl i) (.int i t)=true:=Gg i t
def zL (prog:Vt)(w:V2)(x:VB)(t:Tok):(c7 prog w).is (.inr x) (.str x t)=true:=Fd x t
inductive V where
 | non | bl (b:Bool) | int (i:Int) | str (x:VB) | byt (b:Array UInt8) | flt (b:UInt64) | ref (a:Addr) | ty (n:String)
 deriving DecidableEq
def RelV:V->Value->Prop
 | .non,u=>u=WM
 | .bl b,u=>u=aaN b
 | .int i,u=>∃ t,u=X7 i t
 | .str x,u=>∃ t,u=abi x t
 | .byt b,u=>∃ t,u=Value.bytes b t
 | .flt b,u=>∃ t,u=Value.float b t
 | .ref a,u=>u=Vq a
 | .ty n,u=>u=Yi n
abbrev Vals:List V->C9->Prop:=Paired RelV
def Vals.length {xs:List V}{us:C9}(r:Vals xs us):xs.length=us.length:=Paired.length r
theorem Vals.get:∀ {xs:List V} {us:C9} {i:Nat} {x:V},Vals xs us->xs[i]? = some x->∃ u,us[i]? = some u/\RelV x u
 | _,_,_,_,.nil,e=>by simp at e
 | _,_,0,_,.cons r _,e=>by simp at e;subst e;exact⟨_,U,r⟩
 | _,_,i+1,x,.cons _ t,e=>by
  obtain⟨u,h1,h2⟩:=Vals.get (i:=i) (x:=x) t (by simpa using e);exact⟨u,by simpa using h1,h2⟩
theorem Vals.set {x:V}{u:Value}(r:RelV x u):∀ {xs:List V} {us:C9} (i:Nat),Vals xs us->Vals (xs.set i x) (us.set i u)
 | _,_,_,.nil=>.nil
 | _,_,0,.cons _ t=>.cons r t
 | _,_,i+1,.cons q t=>.cons q (Vals.set r i t)
theorem Vals.append:∀ {xs ys:List V} {us ws:C9},Vals xs us->Vals ys ws->Vals (xs++ys) (us++ws)
 | _,_,_,_,.nil,s=>s
 | _,_,_,_,.cons r t,s=>.cons r (Vals.append t s)
theorem Vals.take:∀ {xs:List V} {us:C9} (n:Nat),Vals xs us->Vals (xs.take n) (us.take n)
 | _,_,0,_=>.nil
 | _,_,_+1,.nil=>.nil
 | _,_,n+1,.cons r t=>.cons r (Vals.take n t)
theorem Vals.drop:∀ {xs:List V} {us:C9} (n:Nat),Vals xs us->Vals (xs.drop n) (us.drop n)
 | _,_,0,r=>r
 | _,_,_+1,.nil=>.nil
 | _,_,n+1,.cons _ t=>Vals.drop n t
def ue:Option V->C5->Prop
 | some v,some u=>RelV v u
 | none,none=>True
 | _,_=>False
def KV {κ:Type}:List (κ × V)->List (κ × Value)->Prop:=Paired fun (p:κ × V) (q:κ × Value)=>p.1=q.1/\RelV p.2 q.2
def kV:Key->V
 | .inl i=>.int i
 | .inr x=>.str x
inductive HO where
 /-- a list -/
 | lst (xs:List V)
 /-- a tuple (never changes) -/
 | tup (xs:List V)
 /-- a dict whose keys are ints and texts;one whose keys are tuples of ints and texts (the empty one is both) -/
 | dK (kvs:List (Key × V)) | dT (kvs:List (List Key × V))
 /-- a set of ints: its members,its size -/
 | set (S:Int->Bool) (n:Nat)
 /-- an instance of the class at C,its dict at dx,its attributes -/
 | ins (C dx:Addr) (fs:List (VB × V))
 /-- the dict of the instance at x -/
 | own (x:Addr)
 /-- the dict of an exception -/
 | xd (fs:List (VB × V))
 /-- a bound method,f of x -/
 | met (f x:Addr)
 /-- a range object lo,lo+1,.. below hi -/
 | rng (lo hi:Int)
 /-- a thing that is known to the object (the script;a dict while a loop walks it): read,never written while it is so -/
 | frz (o:Xz) (u:HO)
 /-- a code object's table -/
 | tbl (ps:Array Value)
 /-- any other thing,by what is true of its one object (a def of one's own: SetO a S n:=HO.ext fun h=>..) -/
 | ext (φ:Wg->Prop)
abbrev Hp:=Addr->Option HO
def upd (H:Hp)(a:Addr)(o:HO):Hp:=fun b=>if b=a then some o else H b
def aa {H:Hp}{a:Addr}{o:HO}:upd H a o a=some o:=by unfold upd;rw[if_pos U]
def aF {H:Hp}{a b:Addr}{o:HO}(h:b≠a):upd H a o b=H b:=by unfold upd;rw[if_neg h]
def uY {H:Hp}{a:Addr}{o u:HO}:upd (upd H a o) a u=upd H a u:=by
 funext b;unfold upd;split <;> rfl
def SX {H:Hp}{a b:Addr}{o u:HO}(h:H a=some o)(h':H b=some u)(d:o≠u):a≠b:=by
 intro e;subst e;rw[h] at h';exact d (VV h')
def cW {H:Hp}{a b:Addr}{o:HO}(h:H a=some o)(h':H b=none):a≠b:=by
 intro e;subst e;rw[h] at h';cases h'
section
variable (P:Vt)(w:V2)
def dN (H:Hp)(h:Wg)(a:Addr):HO->Prop
 | .lst xs=>xs.length<=sizeLine/\∃ (its:C9) (n:Nat),Vals xs its/\h.get? a=some { cls:=.type "list",data:=.seq its.toArray n }
 | .tup xs=>xs.length<=sizeLine/\∃ its:C9,Vals xs its/\IsTup h a its.toArray
 | .dK kvs=>kvs.length<=sizeLine/\(a == YW)=false/\∃ vs,KV kvs vs/\h.DictOf (c7 P w) a vs
 | .dT kvs=>kvs.length<=sizeLine/\(a == YW)=false/\∃ xs:List (List Key × Addr × Value),
   Paired (fun (p:List Key × V) (q:List Key × Addr × Value)=>p.1=q.1/\H q.2.1=some (.tup (p.1.map kV))/\RelV p.2 q.2.2) kvs xs ∧
   ∃ o es ep,h.get? a=some o/\o.ExactDict/\o.data = .dict es ep/\es.toList=xs.map (entryOfKey (abT (c7 P w)))/\(xs.map (·.1)).Nodup
 | .set S n=>h.SetOf (Zf P w) a S n
 | .ins C dx fs=>H dx=some (.own a)/\fs.length<=1000/\dx≠a/\h.get? a=some (Yd C dx) ∧
   ∃ mA,h.Ns1 dx mA/\(∀ f,ue (fs.lookup f) (mA f))/\PySem.Within mA (fs.map (·.1))
 | .own _=>∃ o,h.get? a=some o
 | .xd fs=>∃ mA,h.Ns1 a mA/\∀ f,ue (fs.lookup f) (mA f)
 | .rng lo hi=>∃ t u v,h.get? a=some { cls:=.type "range",data:=.fields #[.int lo t,.int hi u,.int 1 v] }
 | .frz o u=>h.get? a=some o/\dN H h a u
 | .tbl ps=>h.get? a=some { cls:=.none,data:=.fields ps }
 | .met f x=>h.get? a=some (abK (.ref f) (.ref x))
 | .ext φ=>φ h/\(∃ o,h.get? a=some o)/\∀ h1 h2:Wg,φ h1->(∀ o,h1.get? a=some o->h2.get? a=some o)->φ h2
def HOk (H:Hp)(h:Wg):Prop:=∀ a o,H a=some o->dN P w H h a o
end
section
variable {P:Vt}{w:V2}{H H':Hp}{h h':Wg}{a:Addr}{o:HO}
def dN.lt (x:dN P w H h a o):a < h.objs.size:=by
 cases o with
 | lst xs=>obtain⟨_,_,_,_,e⟩:=x;exact Vj e
 | tup xs=>obtain⟨_,_,_,p⟩:=x;exact p.lt
 | dK kvs=>obtain⟨_,_,_,_,o,_,_,e,_⟩:=x;exact Vj e
 | dT kvs=>obtain⟨_,_,_,_,o,_,_,e,_⟩:=x;exact Vj e
 | set S n=>obtain⟨o,_,_,_,e,_⟩:=x;exact Vj e
 | ins C dx fs=>obtain⟨_,_,_,e,_⟩:=x;exact Vj e
 | own y=>obtain⟨_,e⟩:=x;exact Vj e
 | xd fs=>obtain⟨_,⟨_,_,_,e,_⟩,_⟩:=x;exact Vj e
 | rng lo hi=>obtain⟨_,_,_,e⟩:=x;exact Vj e
 | frz ob u=>obtain⟨e,_⟩:=x;exact Vj e
 | tbl ps=>exact Vj (show h.get? a=some _ from x)
 | met f y=>exact Vj (show h.get? a=some _ from x)
 | ext φ=>obtain⟨_,⟨_,e⟩,_⟩:=x;exact Vj e
theorem Paired.RK {α β:Type}{F G:α->β->Prop}:∀ {l₁:List α} {l₂:List β},Paired F l₁ l₂->(∀ a b,F a b->G a b)->Paired G l₁ l₂
 | _,_,.nil,_=>.nil
 | _,_,.cons r t,f=>.cons (f _ _ r) (Paired.RK t f)
def dN.stay (x:dN P w H h a o)(k:∀ b u,(b=a∨H b=some (.own a))->h.get? b=some u->h'.get? b=some u)
  (ho:∀ b,H b=some (.own a)->H' b=some (.own a)) (ht:∀ b xs,H b=some (.tup xs)->H' b=some (.tup xs)):dN P w H' h' a o:=by
 induction o with
 | lst xs=>obtain⟨z,its,n,r,e⟩:=x;exact⟨z,its,n,r,k _ _ (.inl U) e⟩
 | tup xs=>obtain⟨z,its,r,ob,e,c⟩:=x;exact⟨z,its,r,ob,k _ _ (.inl U) e,c⟩
 | dK kvs=>obtain⟨z,y,vs,r,ob,es,ep,e,c⟩:=x;exact⟨z,y,vs,r,ob,es,ep,k _ _ (.inl U) e,c⟩
 | dT kvs =>
  obtain⟨z,y,xs,r,ob,es,ep,e,c⟩:=x;exact⟨z,y,xs,Paired.RK r fun p q z=>⟨z.1,ht _ _ z.2.1,z.2.2⟩,ob,es,ep,k _ _ (.inl U) e,c⟩
 | set S n=>obtain⟨ob,es,ep,t,e,c⟩:=x;exact⟨ob,es,ep,t,k _ _ (.inl U) e,c⟩
 | ins C dx fs =>
  obtain⟨d,z,ne,e,mA,⟨od,es,ep,e2,c⟩,r⟩:=x;exact⟨ho _ d,z,ne,k _ _ (.inl U) e,mA,⟨od,es,ep,k _ _ (.inr d) e2,c⟩,r⟩
 | own y=>obtain⟨ob,e⟩:=x;exact⟨ob,k _ _ (.inl U) e⟩
 | xd fs=>obtain⟨mA,⟨od,es,ep,e,c⟩,r⟩:=x;exact⟨mA,⟨od,es,ep,k _ _ (.inl U) e,c⟩,r⟩
 | rng lo hi=>obtain⟨t,u,v,e⟩:=x;exact⟨t,u,v,k _ _ (.inl U) e⟩
 | frz ob u ih=>obtain⟨e,q⟩:=x;exact⟨k _ _ (.inl U) e,ih q⟩
 | tbl ps =>
  have e:h.get? a=some { cls:=.none,data:=.fields ps }:=x;show h'.get? a=some { cls:=.none,data:=.fields ps };exact k a _ (.inl U) e
 | met f y =>
  have e:h.get? a=some (abK (.ref f) (.ref y)):=x;show h'.get? a=some (abK (.ref f) (.ref y));exact k a _ (.inl U) e
 | ext φ=>obtain⟨p,⟨o,e⟩,st⟩:=x;exact⟨st _ _ p fun o q=>k _ _ (.inl U) q,⟨o,k _ _ (.inl U) e⟩,st⟩
def HOk.lt (x:HOk P w H h)(e:H a=some o):a < h.objs.size:=(x a o e).lt
def HOk.fresh (x:HOk P w H h)(e:h.objs.size<=a):H a=none:=by
 cases q:H a with
 | none=>rfl
 | some u=>exact absurd (Vc (x.lt q) e) (Wj _)
def HOk.kept (x:HOk P w H h)(k:∀ b u,h.get? b=some u->h'.get? b=some u):HOk P w H h':=fun a o e =>
 (x a o e).stay (fun b u _ q=>k b u q) (fun _ q=>q) fun _ _ q=>q
def HOk.laid (x:HOk P w H h)(k:∀ b u,h.get? b=some u->h'.get? b=some u)(hp:h.objs.size<=a)(new:dN P w (upd H a o) h' a o):HOk P w (upd H a o) h':=fun b u e=>by
 have hn:=x.fresh hp;by_cases hb:b=a;{subst hb;rw[aa] at e;cases e;exact new};{rw[aF hb] at e;exact (x b u e).stay (fun c v _ q=>k c v q) (fun c q=>by rw[aF (cW q hn)];exact q) fun c xs q=>by rw[aF (cW q hn)];exact q}
end
def Rd (H:Hp)(a:Addr)(u:HO):Prop:=H a=some u∨∃ o,H a=some (.frz o u)
def Rd.ok {P:Vt}{w:V2}{H:Hp}{h:Wg}{a:Addr}{u:HO}(r:Rd H a u)(x:HOk P w H h):dN P w H h a u:=by
 rcases r with r | ⟨o,r⟩;{exact x a u r};{obtain⟨_,q⟩:=x a _ r;exact q}
def Mut:Option HO->Prop
 | some (.lst _)=>True
 | some (.dK _)=>True
 | some (.dT _)=>True
 | some (.set _ _)=>True
 | some (.ins _ _ _)=>True
 | some (.ext _)=>True
 | _=>False
section
variable {P:Vt}{w:V2}{H:Hp}{h h':Wg}{x e:Addr}{o':HO}
def HOk.write (ok:HOk P w H h)(mu:Mut (H x))(he:e=x∨H e=some (.own x))(k:∀ b u,b≠e->h.get? b=some u->h'.get? b=some u)(heo:∃ u,h'.get? e=some u)
  (new:dN P w (upd H x o') h' x o'):HOk P w (upd H x o') h':=fun b u q=>by
 have nown:∀ c y,H c=some (.own y)->c≠x:=fun c y r z=>by subst z;rw[r] at mu;exact mu
 have ntup:∀ c xs,H c=some (.tup xs)->c≠x:=fun c xs r z=>by subst z;rw[r] at mu;exact mu
 by_cases hb:b=x;{subst hb;rw[aa] at q;cases q;exact new}
 ·rw[aF hb] at q;by_cases hbe:b=e
  ·have q':H b=some (.own x):=by
    rcases he with z | z;{exact absurd (hbe.trans z) hb};{rw[hbe];exact z}
   rw[q] at q';cases q';obtain⟨v,hv⟩:=heo;exact⟨v,by rw[hbe];exact hv⟩
  ·refine (ok b u q).stay (fun c v hc r=>k c v ?_ r) (fun c r=>by rw[aF (nown c b r)];exact r) fun c xs r=>by rw[aF (ntup c xs r)];exact r
   rcases hc with rfl | hc;{exact hbe}
   ·rintro rfl;rcases he with z | z;{exact nown c b hc z};{rw[hc] at z;cases z;exact hb U}
end
structure Un (fs ex:Db)(H H':Hp)(h h':Wg):Prop where
 keep:∀ b o,h.get? b=some o->H b=none->b ∉ fs->b ∉ ex->h'.get? b=some o
 slot:∀ b o,h.get? b=some o->H b=none->b∈fs->b ∉ ex->∃ sl,h'.get? b=some { o with slots:=sl }
 free:∀ b o,h.get? b=some o->H b=none->b ∉ ex->H' b=none
 there:∀ b o,h.get? b=some o->b ∉ ex->∃ o',h'.get? b=some o'
 tups:∀ b xs,H b=some (.tup xs)->H' b=some (.tup xs)
 frzs:∀ b o u,H b=some (.frz o u)->H' b=some (.frz o u)
 tbls:∀ b ps,H b=some (.tbl ps)->∃ more,H' b=some (.tbl (ps++more))
section
variable {fs fs' ex ex':Db}{H H1 H2:Hp}{h h1 h2 h':Wg}{a x e:Addr}{o:HO}
def Un.any (u:Un fs ex H H1 h h1){b:Addr}{ob:Xz}(q:h.get? b=some ob)(n:H b=none)(hx:b ∉ ex):∃ sl,h1.get? b=some { ob with slots:=sl }:=by
 by_cases hb:b∈fs;{exact u.slot b ob q n hb hx};{exact⟨ob.slots,u.keep b ob q n hb hx⟩}
def Un.trans (a:Un fs ex H H1 h h1)(b:Un fs ex H1 H2 h1 h2):Un fs ex H H2 h h2 where
 keep:=fun c ob q n hc hx=>b.keep c ob (a.keep c ob q n hc hx) (a.free c ob q n hx) hc hx
 slot:=fun c ob q n hc hx=>by
  obtain⟨sl,e1⟩:=a.slot c ob q n hc hx;obtain⟨sl',e2⟩:=b.slot c _ e1 (a.free c ob q n hx) hc hx;exact⟨sl',e2⟩
 free:=fun c ob q n hx=>by
  obtain⟨o',e1⟩:=a.there c ob q hx;exact b.free c o' e1 (a.free c ob q n hx) hx
 there:=fun c ob q hx=>by
  obtain⟨o',e1⟩:=a.there c ob q hx;exact b.there c o' e1 hx
 tups:=fun c xs q=>b.tups c xs (a.tups c xs q)
 frzs:=fun c ob xs q=>b.frzs c ob xs (a.frzs c ob xs q)
 tbls:=fun c ps q=>by
  obtain⟨m1,e1⟩:=a.tbls c ps q;obtain⟨m2,e2⟩:=b.tbls c _ e1;exact⟨m1++m2,by rw[e2,aas]⟩
def Un.kept (k:∀ b u,h.get? b=some u->h'.get? b=some u):Un fs ex H H h h' :=
 ⟨fun b ob q _ _ _=>k b ob q,fun b ob q _ _ _=>⟨ob.slots,k b ob q⟩,fun _ _ _ n _=>n,fun b ob q _=>⟨ob,k b ob q⟩,fun _ _ q=>q,fun _ _ _ q=>q,fun _ ps q=>⟨#[],by rw[q];simp⟩⟩
def Un.refl:Un fs ex H H h h:=Un.kept fun _ _ q=>q
def Un.laid (k:∀ b u,h.get? b=some u->h'.get? b=some u)(hp:h.objs.size<=a)(hn:H a=none):Un fs ex H (upd H a o) h h' where
 keep:=fun b u q _ _ _=>k b u q
 slot:=fun b u q _ _ _=>⟨u.slots,k b u q⟩
 free:=fun b u q n _=>by rw[aF (Vw (Vc (Vj q) hp))];exact n
 there:=fun b u q _=>⟨u,k b u q⟩
 tups:=fun b xs q=>by rw[aF (cW q hn)];exact q
 frzs:=fun b u xs q=>by rw[aF (cW q hn)];exact q
 tbls:=fun b ps q=>⟨#[],by rw[aF (cW q hn),q];simp⟩
def Un.write (mu:Mut (H x))(he:e=x∨H e=some (.own x))(k:∀ b u,b≠e->h.get? b=some u->h'.get? b=some u)(heo:∃ u,h'.get? e=some u):Un fs ex H (upd H x o) h h':=by
 have hx:∀ b,H b=none->b≠x:=fun b n z=>by subst z;rw[n] at mu;exact mu
 have hb:∀ b,H b=none->b≠e:=fun b n z=>by
  subst z;rcases he with r | r;{exact hx b n r};{rw[n] at r;cases r}
 have hm:∀ b u,H b=some u->¬ Mut (some u)->b≠x:=fun b u q nm z=>by subst z;rw[q] at mu;exact nm mu
 refine⟨fun b u q n _ _=>k b u (hb b n) q,fun b u q n _ _=>⟨u.slots,k b u (hb b n) q⟩,fun b u q n _=>by rw[aF (hx b n)];exact n,fun b u q _=>?_,
  fun b xs q=>by rw[aF (hm b _ q fun z=>z)];exact q,fun b u xs q=>by rw[aF (hm b _ q fun z=>z)];exact q,fun b ps q=>⟨#[],by rw[aF (hm b _ q fun z=>z),q];simp⟩⟩
 by_cases hbe:b=e;{subst hbe;exact heo};{exact⟨u,k b u hbe q⟩}
end
def trk (h:Wg)(H:Hp):Db:=(Wx h.objs.size).filter fun a=>(H a).isSome
def JZ (h:Wg)(H:Hp):Wg:=ach h (trk h H)
def Fy (h:Wg)(H:Hp):(JZ h H).objs.size=h.objs.size:=PySem.W.hideAll_size _ _
def J6 {h:Wg}{H:Hp}{b:Addr}{o:Xz}(e:h.get? b=some o)(n:H b=none):(JZ h H).get? b=some o :=
 PySem.W.hideAll_get _ e fun hm=>by
  have q:(H b).isSome=true:=(List.mem_filter.mp hm).2;rw[n] at q;simp at q
def Ow {h:Wg}{H:Hp}{b:Addr}{o:Xz}(e:(JZ h H).get? b=some o):h.get? b=some o/\H b=none:=by
 have e':h.get? b=some o:=PySem.W.of_hideAll (trk h H) e;refine⟨e',?_⟩;cases q:H b with
 | none=>rfl
 | some x =>
  have hm:b∈trk h H:=List.mem_filter.mpr ⟨List.mem_range.mpr (Vj e'),by simp [q]⟩;have z:(JZ h H).get? b=none:=PySem.W.hideAll_none (trk h H) hm;rw[z] at e;cases e
structure Mod (K:Vi)(mg:VB->C5)(base:Wg):Prop where
 kin:K.In base
 glob:base.Ns Vu mg
 blt:∃ mb,base.Ns builtinsNs mb/\∀ x:VB,x≠"__name__"->mb x=We x
 nolimit:base.NoLimit
structure Cx where
 prog:Vt
 w:V2
 K:Vi
 mg:VB->C5
 base:Wg
 A:V1
 N:DF
 s₀:U8
 H₀:Hp
 env:Env
 outer:DB
 stack:DB
 ex:Db
 fn:VB->Bool
 calm:Bool
 pn:C1
 xe:C4
def frs (l:DB):Db:=l.filterMap (·.frame)
abbrev Cx.fs (X:Cx):Db:=frs X.outer
def Vis (sc:XF)(x:VB):Prop:=sc.names.lookup x=some .local∨sc.names.lookup x=some .cell∨sc.names.lookup x=some .free
def Loc (sc:XF)(x:VB):Prop:=sc.names.lookup x=some .local∨sc.names.lookup x=some .cell
def Look (env:Env)(h:Wg)(m:VB->C5)(x:VB)(u:Value):Prop :=
 (env.kindOf x=some .local/\m x=some u)∨((env.kindOf x=some .cell∨env.kindOf x=some .free)/\∃ c,env.cells.lookup x=some c/\h.IsCell c (some u))
structure Cx.Ok (X:Cx):Prop where
 mod:Mod X.K X.mg X.base
 kind:X.env.scope.kind = .function
 glob:X.env.globals=Vu
 blt:X.env.builtins=builtinsNs
 above:X.s₀.heap.objs.size<=X.env.locals
 inj:∀ x y c,X.env.cells.lookup x=some c->X.env.cells.lookup y=some c->x=y
 has:∀ x,(X.env.kindOf x=some .cell∨X.env.kindOf x=some .free)->∃ c,X.env.cells.lookup x=some c
 cab:∀ x c,X.fn x=true->X.env.cells.lookup x=some c->X.s₀.heap.objs.size<=c
 hd:X.calm=true->X.A.handled=none
 frames:X.A.frames=some X.stack
 stk:X.stack=X.outer∨(X.stack=X.env::X.outer/\X.env.frame=some X.env.locals)
 exf:∀ b∈X.ex,b≠X.env.locals/\∀ x c,X.env.cells.lookup x=some c->c≠b
 bs:∀ b o,X.base.get? b=some o->X.s₀.heap.get? b=some o/\X.H₀ b=none
 bsz:X.base.objs.size<=X.s₀.heap.objs.size
 noex:∀ b o,X.base.get? b=some o->b ∉ X.ex
 exfs:∀ b∈X.ex,b ∉ X.fs
 uf:X.s₀.heap.FunFrames X.base X.outer
 frf:∀ b∈X.fs,X.H₀ b=none
structure Inv (X:Cx)(ZY:C1)(σ:List (Option V))(H:Hp)(s:U8):Prop where
 ok:X.Ok
 os:s.os=X.s₀.os
 bare:aaz s.gens
 base:Un X.fs X.ex X.H₀ H X.s₀.heap s.heap
 loc:∃ m,s.heap.Ns X.env.locals m/\∀ (i:Nat) (x:VB) (v:V),X.N[i]? = some x->σ[i]? = some (some v)->Vis X.env.scope x->∃ u,RelV v u/\Look X.env s.heap m x u
 cell:∀ x c,X.env.cells.lookup x=some c->∃ v,s.heap.IsCell c v
 free:H X.env.locals=none
 freeC:∀ x c,X.env.cells.lookup x=some c->H c=none
 pin:∀ p∈X.pn++ZY,s.heap.get? p.1=some p.2/\H p.1=none/\p.1≠X.env.locals/\p.1 ∉ X.fs/\∀ v,p.2.data≠.cell v
 hok:HOk X.prog X.w H s.heap
 len:σ.length=X.N.length
section
variable {X:Cx}{ZY:C1}{σ:List (Option V)}{H H':Hp}{s:U8}{h':Wg}
def Cx.Ok.Uv (ok:X.Ok){b:Addr}{o:Xz}(e:X.base.get? b=some o):b ∉ X.fs:=fun hb=>by
 have:=(ok.uf.mem hb).1;rw[e] at this;cases this
def Inv.bs (I:Inv X ZY σ H s):∀ b o,X.base.get? b=some o->s.heap.get? b=some o/\H b=none:=fun b o e =>
 ⟨I.base.keep b o (I.ok.bs b o e).1 (I.ok.bs b o e).2 (I.ok.Uv e) (I.ok.noex b o e),I.base.free b o (I.ok.bs b o e).1 (I.ok.bs b o e).2 (I.ok.noex b o e)⟩
def Inv.bk (I:Inv X ZY σ H s):∀ b o,X.base.get? b=some o->s.heap.get? b=some o:=fun b o e=>(I.bs b o e).1
def Inv.mod (I:Inv X ZY σ H s):Mod X.K X.mg X.base:=I.ok.mod
def Inv.kIn (I:Inv X ZY σ H s):X.K.In s.heap:=I.ok.mod.kin.keeps I.bk
def Inv.fr (I:Inv X ZY σ H s):∃ m,Fr X.base X.env.locals s.heap m :=
 let ⟨m,hn,_⟩:=I.loc
 ⟨m,hn,I.bk,VH I.ok.bsz I.ok.above⟩
def Inv.lt (I:Inv X ZY σ H s):X.env.locals < s.heap.objs.size:=let ⟨_,hn,_⟩:=I.loc;hn.lt
def Inv.sz (I:Inv X ZY σ H s):X.s₀.heap.objs.size<=s.heap.objs.size:=VH I.ok.above (Xb I.lt)
def Inv.T9 (I:Inv X ZY σ H s){a:Addr}(h:s.heap.objs.size<=a):a ∉ X.fs:=fun hb=>by
 obtain⟨_,o,ho,_⟩:=I.ok.uf.mem hb;exact absurd (Vc (Vj ho) (VH I.sz h)) (Wj _)
def Inv.cne (I:Inv X ZY σ H s):∀ x c,X.env.cells.lookup x=some c->c≠X.env.locals:=fun x c e z=>by
 obtain⟨v,o,ho,hd⟩:=I.cell x c e;obtain⟨m,⟨o',es,ep,ho',hd',_⟩,_⟩:=I.loc;rw[z,ho'] at ho;cases ho;rw[hd'] at hd;cases hd
def Inv.uf (I:Inv X ZY σ H s):s.heap.FunFrames X.base X.outer:=by
 have all:∀ (l:DB),(∀ b∈frs l,b∈X.fs)->X.s₀.heap.FunFrames X.base l->s.heap.FunFrames X.base l:=by
  intro l
  induction l with
  | nil=>intro _ _;trivial
  | cons env r ih =>
   intro hs hl;obtain⟨hk,⟨L,o,hf,hn,ho,hd⟩,hr⟩:=hl;have hL:L∈X.fs:=hs L (by unfold frs;rw[XQ,hf];exact Vm);obtain⟨sl,e⟩:=I.base.slot L o ho (I.ok.frf L hL) hL fun z=>I.ok.exfs L z hL;exact⟨hk,⟨L,_,hf,hn,e,hd⟩,ih (fun b hb=>hs b (by unfold frs;rw[XQ,hf];exact Vp _ hb)) hr⟩
 exact all X.outer (fun _ hb=>hb) I.ok.uf
def Inv.stack (I:Inv X ZY σ H s):s.heap.FunFrames X.base X.stack:=by
 rcases I.ok.stk with e | ⟨e,hf⟩;{rw[e];exact I.uf};{rw[e];obtain⟨m,hn,_⟩:=I.loc;refine .cons (by rw[I.ok.kind];decide) hf hn ?_ I.uf;exact Heap.get?_none_of_le (VH I.ok.bsz I.ok.above)}
def Inv.ux (I:Inv X ZY σ H s):∀ b∈frs X.stack,b∈X.env.locals::X.fs:=fun b hb=>by
 rcases I.ok.stk with e | ⟨e,hf⟩;{rw[e] at hb;exact Vp _ hb};{rw[e] at hb;unfold frs at hb;rw[XQ,hf] at hb;exact hb}
def Inv.zG (I:Inv X ZY σ H s):∀ b∈frs X.stack,H b=none:=fun b hb=>by
 rcases List.mem_cons.mp (I.ux b hb) with e | hb;{rw[e];exact I.free};{obtain⟨_,o,ho,_⟩:=I.ok.uf.mem hb;exact I.base.free b o ho (I.ok.frf b hb) fun z=>I.ok.exfs b z hb}
def Inv.step {g':Array abP}{t':Nat}{d':Drawn}{ch:Db}(I:Inv X ZY σ H s)
  (hch:∀ b∈ch,(b∈X.ex∨X.s₀.heap.objs.size<=b)/\b≠X.env.locals/\(∀ x c,X.env.cells.lookup x=some c->c≠b)/\∀ p∈X.pn++ZY,p.1≠b)
  (keep:∀ b o,b≠X.env.locals->b ∉ X.fs->b ∉ ch->s.heap.get? b=some o->H b=none->h'.get? b=some o)
  (slot:∀ b o,b≠X.env.locals->b∈X.fs->b ∉ ch->s.heap.get? b=some o->H b=none->∃ sl,h'.get? b=some { o with slots:=sl }) (free:∀ b o,b ∉ ch->s.heap.get? b=some o->H b=none->H' b=none)
  (there:∀ b o,b ∉ ch->s.heap.get? b=some o->∃ o',h'.get? b=some o')
  (tups:∀ b xs,H b=some (.tup xs)->H' b=some (.tup xs)) (frzs:∀ b o u,H b=some (.frz o u)->H' b=some (.frz o u)) (tbls:∀ b ps,H b=some (.tbl ps)->∃ more,H' b=some (.tbl (ps++more)))
  (ns:∀ m,s.heap.Ns X.env.locals m->h'.Ns X.env.locals m) (hok:HOk X.prog X.w H' h') (hg:aaz g') :
  Inv X ZY σ H' { s with heap:=h',gens:=g',drawn:=d',toks:=t' }:=by
 have neL:∀ b o,X.s₀.heap.get? b=some o->b≠X.env.locals:=fun b o e=>Vw (Vc (Vj e) I.ok.above);have neC:∀ b o,X.s₀.heap.get? b=some o->b ∉ X.ex->b ∉ ch:=fun b o e hx hb=>by
  rcases (hch b hb).1 with z | z;{exact hx z};{exact absurd (Vc (Vj e) z) (Wj _)}
 have cellK:∀ x c,X.env.cells.lookup x=some c->∀ v,s.heap.IsCell c v->h'.IsCell c v:=fun x c e v ⟨o,ho,hd⟩=>by
  have nch:c ∉ ch:=fun z=>(hch c z).2.2.1 x c e U;by_cases hc:c∈X.fs;{obtain⟨sl,q⟩:=slot c o (I.cne x c e) hc nch ho (I.freeC x c e);exact⟨_,q,hd⟩};{exact⟨o,keep c o (I.cne x c e) hc nch ho (I.freeC x c e),hd⟩}
 refine⟨I.ok,I.os,hg,⟨fun b o e n hb hx=>?_,fun b o e n hb hx=>?_,fun b o e n hx=>?_,fun b o e hx=>?_,fun b xs e=>tups b xs (I.base.tups b xs e),fun b o xs e=>frzs b o xs (I.base.frzs b o xs e),fun b ps e=>?_⟩,?_,fun x c e=>?_,?_,fun x c e=>?_,fun p hp=>?_,hok,I.len⟩;{exact keep b o (neL b o e) hb (neC b o e hx) (I.base.keep b o e n hb hx) (I.base.free b o e n hx)};{obtain⟨sl,e1⟩:=I.base.slot b o e n hb hx;obtain⟨sl',e2⟩:=slot b _ (neL b o e) hb (neC b o e hx) e1 (I.base.free b o e n hx);exact⟨sl',e2⟩};{obtain⟨o',e1⟩:=I.base.there b o e hx;exact free b o' (neC b o e hx) e1 (I.base.free b o e n hx)};{obtain⟨o',e1⟩:=I.base.there b o e hx;exact there b o' (neC b o e hx) e1};{obtain⟨m1,e1⟩:=I.base.tbls b ps e;obtain⟨m2,e2⟩:=tbls b _ e1;exact⟨m1++m2,by rw[e2,aas]⟩}
 ·obtain⟨m,hn,hl⟩:=I.loc;refine⟨m,ns m hn,fun i x v e1 e2 e3=>?_⟩;obtain⟨u,r,l⟩:=hl i x v e1 e2 e3;refine⟨u,r,?_⟩;rcases l with l | ⟨k,c,e,z⟩;{exact .inl l};{exact .inr ⟨k,c,e,cellK x c e _ z⟩}
 ·obtain⟨v,z⟩:=I.cell x c e;exact⟨v,cellK x c e v z⟩
 ·obtain⟨m,⟨o,_,_,ho,_⟩,_⟩:=I.loc;exact free _ o (fun z=>(hch _ z).2.1 U) ho I.free
 ·obtain⟨v,o,ho,hd⟩:=I.cell x c e;exact free c o (fun z=>(hch c z).2.2.1 x c e U) ho (I.freeC x c e)
 ·obtain⟨e,n,ne,nf,d⟩:=I.pin p hp;have nch:p.1 ∉ ch:=fun z=>(hch p.1 z).2.2.2 p hp U;exact⟨keep p.1 p.2 ne nf nch e n,free p.1 p.2 nch e n,ne,nf,d⟩
def Inv.un {t':Nat}(I:Inv X ZY σ H s)(u:Un X.fs [] H H' s.heap h')(hok:HOk X.prog X.w H' h'):Inv X ZY σ H' { s with heap:=h',toks:=t' }:=by
 obtain⟨m,⟨o,es,ep,ho,r⟩,_⟩:=id I.loc;obtain⟨sl,hL⟩:=u.any ho I.free (by simp)
 exact I.step (g':=s.gens) (d':=s.drawn) (ch:=[]) (fun _ z=>nomatch z) (fun b o _ hb _ e n=>u.keep b o e n hb (by simp)) (fun b o _ hb _ e n=>u.slot b o e n hb (by simp)) (fun b o _ e n=>u.free b o e n (by simp)) (fun b o _ e=>u.there b o e (by simp)) u.tups u.frzs u.tbls (fun m' hm=>by
  obtain⟨o',es',ep',ho',r'⟩:=hm;rw[ho] at ho';cases ho'
  exact⟨_,es',ep',hL,r'⟩) hok I.bare
def Inv.call {g':Array abP}{t':Nat}{d':Drawn}{ch:Db}(I:Inv X ZY σ H s)(u:Un (frs X.stack) ch H H' s.heap h')(hok:HOk X.prog X.w H' h')(hg:aaz g')
  (hch:∀ b∈ch,(b∈X.ex∨X.s₀.heap.objs.size<=b)/\b≠X.env.locals/\(∀ x c,X.env.cells.lookup x=some c->c≠b)/\∀ p∈X.pn++ZY,p.1≠b) :
  Inv X ZY σ H' { s with heap:=h',gens:=g',drawn:=d',toks:=t' }:=by
 obtain⟨m,⟨o,es,ep,ho,r⟩,_⟩:=id I.loc;obtain⟨sl,hL⟩:=u.any ho I.free fun z=>(hch _ z).2.1 U
 exact I.step (ch:=ch) hch (fun b o hL hb hc e n=>u.keep b o e n (fun z=>(List.mem_cons.mp (I.ux b z)).elim hL hb) hc) (fun b o _ _ hc e n=>u.any e n hc) (fun b o hc e n=>u.free b o e n hc) (fun b o hc e=>u.there b o e hc) u.tups u.frzs u.tbls (fun m' hm=>by
  obtain⟨o',es',ep',ho',r'⟩:=hm;rw[ho] at ho';cases ho'
  exact⟨_,es',ep',hL,r'⟩) hok hg
def Inv.turned {t':Nat}{it:Addr}(I:Inv X ZY σ H s)(k:∀ b o,b≠it->s.heap.get? b=some o->h'.get? b=some o)(hn:H it=none)(hL:it≠X.env.locals)
  (h1:it∈X.ex∨X.s₀.heap.objs.size<=it) (h2:∀ x c,X.env.cells.lookup x=some c->c≠it) (h3:∀ p∈X.pn++ZY,p.1≠it):Inv X ZY σ H { s with heap:=h',toks:=t' }:=by
 have nit:∀ b u,H b=some u->b≠it:=fun b u e z=>by rw[z,hn] at e;cases e
 refine I.step (g':=s.gens) (d':=s.drawn) (ch:=[it]) (fun b hb=>?_) (fun b o _ _ hc e _=>k b o (fun z=>hc (by simp [z])) e) (fun b o _ _ hc e _=>⟨o.slots,k b o (fun z=>hc (by simp [z])) e⟩) (fun _ _ _ _ n=>n)
  (fun b o hc e=>⟨o,k b o (fun z=>hc (by simp [z])) e⟩) (fun _ _ e=>e) (fun _ _ _ e=>e) (fun b ps e=>⟨#[],by rw[e];simp⟩) (fun m hm=>?_) (fun b u e=>?_) I.bare
 ·have e:b=it:=by simpa using hb
  subst e;exact⟨h1,hL,h2,h3⟩
 ·obtain⟨o,es,ep,ho,r⟩:=hm;exact⟨o,es,ep,k _ o (Wz hL) ho,r⟩
 ·refine (I.hok b u e).stay (fun c v hc q=>k c v ?_ q) (fun _ q=>q) fun _ _ q=>q;rcases hc with z | z;{rw[z];exact nit b u e};{exact nit c _ z}
def Inv.tok (I:Inv X ZY σ H s)(t:Nat):Inv X ZY σ H { s with toks:=t }:=I.un (h':=s.heap) (t':=t) Un.refl I.hok
def Inv.kept {t':Nat}(I:Inv X ZY σ H s)(k:∀ b u,s.heap.get? b=some u->h'.get? b=some u):Inv X ZY σ H { s with heap:=h',toks:=t' }:=I.un (Un.kept k) (I.hok.kept k)
def Inv.laid {a:Addr}{o:HO}{t':Nat}(I:Inv X ZY σ H s)(k:∀ b u,s.heap.get? b=some u->h'.get? b=some u)(hp:s.heap.objs.size<=a)(new:dN X.prog X.w (upd H a o) h' a o) :
  Inv X ZY σ (upd H a o) { s with heap:=h',toks:=t' }:=I.un (Un.laid k hp (I.hok.fresh hp)) (I.hok.laid k hp new)
def Inv.write {x e:Addr}{o:HO}{t':Nat}(I:Inv X ZY σ H s)(mu:Mut (H x))(he:e=x∨H e=some (.own x))(k:∀ b u,b≠e->s.heap.get? b=some u->h'.get? b=some u)(heo:∃ u,h'.get? e=some u)
  (new:dN X.prog X.w (upd H x o) h' x o):Inv X ZY σ (upd H x o) { s with heap:=h',toks:=t' }:=I.un (Un.write mu he k heo) (I.hok.write mu he k heo new)
def Inv.G4 {ZY':C1}(I:Inv X ZY σ H s)(h:∀ p∈ZY',s.heap.get? p.1=some p.2/\H p.1=none/\p.1≠X.env.locals/\p.1 ∉ X.fs/\∀ v,p.2.data≠.cell v):Inv X ZY' σ H s :=
 ⟨I.ok,I.os,I.bare,I.base,I.loc,I.cell,I.free,I.freeC,fun p hp=>(List.mem_append.mp hp).elim (fun z=>I.pin p (Z4 _ z)) (h p),I.hok,I.len⟩
def Bd {N:DF}(hN:N.Nodup){i j:Nat}{x:VB}(a:N[i]? = some x)(b:N[j]? = some x):i=j:=by
 obtain⟨h1,e1⟩:=List.getElem?_eq_some_iff.mp a;obtain⟨h2,e2⟩:=List.getElem?_eq_some_iff.mp b;exact (ab3 hN).mp (e1.trans e2.symm)
def yE {M:Model}{A:V1}{E:C4}{i:Nat}{x:VB}{v:V}{u:Value}{Q:Unit->U8->Prop}(I:Inv X ZY σ H s)(hN:X.N.Nodup)(hi:X.N[i]? = some x)(hx:Loc X.env.scope x)(r:RelV v u)
  (h:∀ s',Inv X ZY (σ.set i (some v)) H s'->(∃ a,Yv a s.heap s'.heap/\(a=X.env.locals∨X.env.cells.lookup x=some a))->Q () s') (hf:X.fn x=true∨X.env.scope.names.lookup x=some .local:=by first | exact .inl rfl | exact .inr rfl | assumption):Vh M A (storeName X.env x u) Q E s:=by
 obtain⟨m,hn,hl⟩:=id I.loc;have hcls:(X.env.scope.kind == .class || (X.env.scope.kind == .module && X.env.locals != X.env.globals))=false:=by rw[I.ok.kind];rfl
 have hiσ:i < σ.length:=by rw[I.len];exact (List.getElem?_eq_some_iff.mp hi).1
 have cne:=I.cne;have tracked:∀ {a:Addr} {h':Wg},(∃ o,s.heap.get? a=some o/\H a=none)->Yv a s.heap h'->HOk X.prog X.w H h':=fun {a h'} ha hs b ob e=>by
  obtain⟨_,_,hfree⟩:=ha;refine (I.hok b ob e).stay (fun c w' hc q=>(hs.2 c ?_).trans q) (fun _ q=>q) fun _ _ q=>q;rintro rfl;rcases hc with rfl | hc;{rw[hfree] at e;cases e};{rw[hfree] at hc;cases hc}
 rcases hx with hk | hk
 ·refine wpAny_storeName_local hk hn (fun h' hn' hs=>?_) hcls;obtain⟨oL,_,_,hoL,_⟩:=id hn;refine h _ ⟨I.ok,I.os,I.bare,⟨fun b o e n hb hx=>?_,fun b o e n hb hx=>?_,I.base.free,fun b o e hx=>?_,I.base.tups,I.base.frzs,I.base.tbls⟩,⟨_,hn',fun j y v' e1 e2 e3=>?_⟩,fun y c e=>?_,I.free,I.freeC,fun p hp=>?_,tracked ⟨oL,hoL,I.free⟩ hs,by simpa using I.len⟩ ⟨_,hs,.inl U⟩;{exact (hs.2 b (Vw (Vc (Vj e) I.ok.above))).trans (I.base.keep b o e n hb hx)};{obtain⟨sl,e1⟩:=I.base.slot b o e n hb hx;exact⟨sl,(hs.2 b (Vw (Vc (Vj e) I.ok.above))).trans e1⟩};{obtain⟨o',e1⟩:=I.base.there b o e hx;exact⟨o',(hs.2 b (Vw (Vc (Vj e) I.ok.above))).trans e1⟩}
  ·by_cases hj:j=i;{subst hj;rw[hi] at e1;cases e1;rw[ZL hiσ] at e2;cases e2;exact⟨u,r,.inl ⟨hk,by simp⟩⟩}
   ·rw[abd (Wz hj)] at e2;obtain⟨u',r',q⟩:=hl j y v' e1 e2 e3;refine⟨u',r',?_⟩;rcases q with⟨k,e⟩ | ⟨k,c,e,z⟩;{refine .inl ⟨k,?_⟩;have:y≠x:=fun e=>hj (Bd hN e1 (e▸hi));simp [this,e]};{exact .inr ⟨k,c,e,z.sameBut hs (cne y c e)⟩}
  ·obtain⟨w',z⟩:=I.cell y c e;exact⟨w',z.sameBut hs (cne y c e)⟩
  ·obtain⟨e,n,ne,nf,d⟩:=I.pin p hp;exact⟨(hs.2 p.1 ne).trans e,n,ne,nf,d⟩
 ·have hfn:X.fn x=true:=by
   rcases hf with z | z;{exact z};{rw[z] at hk;cases hk}
  obtain⟨c,hc⟩:=I.ok.has x (.inl hk);obtain⟨w',z⟩:=I.cell x c hc;refine wpAny_storeName_cell I.ok.kind hk hc z (fun h' hc' hs=>?_);obtain⟨oc,hoc,hocd⟩:=id z;refine h { s with heap:=h' } ⟨I.ok,I.os,I.bare,⟨fun b o e n hb hx=>?_,fun b o e n hb hx=>?_,I.base.free,fun b o e hx=>?_,I.base.tups,I.base.frzs,I.base.tbls⟩,⟨m,hn.sameBut hs (Wz (cne x c hc)),fun j y v' e1 e2 e3=>?_⟩,fun y c' e=>?_,I.free,I.freeC,fun p hp=>?_,tracked ⟨oc,hoc,I.freeC x c hc⟩ hs,by simpa using I.len⟩ ⟨c,hs,.inr hc⟩;{exact (hs.2 b (Vw (Vc (Vj e) (I.ok.cab x c hfn hc)))).trans (I.base.keep b o e n hb hx)};{obtain⟨sl,e1⟩:=I.base.slot b o e n hb hx;exact⟨sl,(hs.2 b (Vw (Vc (Vj e) (I.ok.cab x c hfn hc)))).trans e1⟩};{obtain⟨o',e1⟩:=I.base.there b o e hx;exact⟨o',(hs.2 b (Vw (Vc (Vj e) (I.ok.cab x c hfn hc)))).trans e1⟩}
  ·by_cases hj:j=i;{subst hj;rw[hi] at e1;cases e1;rw[ZL hiσ] at e2;cases e2;exact⟨u,r,.inr ⟨.inl hk,c,hc,hc'⟩⟩}
   ·rw[abd (Wz hj)] at e2;obtain⟨u',r',q⟩:=hl j y v' e1 e2 e3;refine⟨u',r',?_⟩;rcases q with q | ⟨k,c',e,z'⟩;{exact .inl q};{refine .inr ⟨k,c',e,z'.sameBut hs ?_⟩;rintro rfl;exact hj (Bd hN e1 (I.ok.inj _ _ _ e hc▸hi))}
  ·by_cases hcc:c'=c;{subst hcc;exact⟨_,hc'⟩};{obtain⟨w2,z2⟩:=I.cell y c' e;exact⟨w2,z2.sameBut hs hcc⟩}
  ·obtain⟨e,n,ne,nf,d⟩:=I.pin p hp;refine⟨(hs.2 p.1 ?_).trans e,n,ne,nf,d⟩;intro q;rw[q,hoc] at e;have q':oc=p.2:=VV e;exact d w' (by rw[← q'];exact hocd)
def uF {M:Model}{A:V1}{E:C4}{i:Nat}{x:VB}{v:V}{u:Value}{Q:Unit->U8->Prop}(I:Inv X ZY σ H s)(hN:X.N.Nodup)(hi:X.N[i]? = some x)(hx:Loc X.env.scope x)(r:RelV v u)
  (h:∀ s',Inv X ZY (σ.set i (some v)) H s'->Q () s') (hf:X.fn x=true∨X.env.scope.names.lookup x=some .local:=by first | exact .inl rfl | exact .inr rfl | assumption):Vh M A (storeName X.env x u) Q E s :=
 yE I hN hi hx r (fun s' I' _=>h s' I') hf
def Inv.call' {s':U8}{ch:Db}(I:Inv X ZY σ H s)(ho:s'.os=s.os)(u:Un (frs X.stack) ch H H' s.heap s'.heap)(hok:HOk X.prog X.w H' s'.heap)(hg:aaz s'.gens)
  (hch:∀ b∈ch,(b∈X.ex∨X.s₀.heap.objs.size<=b)/\b≠X.env.locals/\(∀ x c,X.env.cells.lookup x=some c->c≠b)/\∀ p∈X.pn++ZY,p.1≠b):Inv X ZY σ H' s':=by
 obtain⟨h',g',d',t',o'⟩:=s';have e:o'=s.os:=ho;subst e;exact I.call (g':=g') (t':=t') (d':=d') u hok hg hch
end
abbrev XK:=Value->C7->Hp->Prop
abbrev St:=List (Option V)
abbrev VK:=V->Hp->Prop
abbrev TE:=St->Hp->VK->Prop
abbrev TT:=St->Hp->(Bool->Hp->Prop)->Prop
abbrev TA:=St->Hp->(List V->Hp->Prop)->Prop
structure Ends where
 nx:St->Hp->Prop
 rt:VK
 bk:St->Hp->Prop:=fun _ _=>False
 ct:St->Hp->Prop:=fun _ _=>False
abbrev TS:=Ends->St->Hp->Prop
inductive EP (X:Cx)(ZY:C1)(σ:St)(Q:VK)(u:Value)(s':U8):Prop where
 | mk (v:V) (H':Hp) (z0:Inv X ZY σ H' s') (z1:RelV v u) (z2:Q v H'):EP X ZY σ Q u s'
def TP (X:Cx)(ZY:C1)(σ:St)(Q:Bool->Hp->Prop)(b:Bool)(s':U8):Prop:=∃ H',Inv X ZY σ H' s'/\Q b H'
inductive AP (X:Cx)(ZY:C1)(σ:St)(Q:List V->Hp->Prop)(us:C9)(s':U8):Prop where
 | mk (vs:List V) (H':Hp) (z0:Inv X ZY σ H' s') (z1:Vals vs us) (z2:Q vs H'):AP X ZY σ Q us s'
def SP (X:Cx)(ZY:C1)(D:Ends)(f:Flow)(s':U8):Prop :=
 match f with
 | .next=>∃ σ' H',Inv X ZY σ' H' s'/\D.nx σ' H'
 | .brk=>∃ σ' H',Inv X ZY σ' H' s'/\D.bk σ' H'
 | .cont=>∃ σ' H',Inv X ZY σ' H' s'/\D.ct σ' H'
 | .ret u=>∃ v σ' H',Inv X ZY σ' H' s'/\RelV v u/\D.rt v H'
def PE (X:Cx)(e:Expr)(t:TE):Prop :=
 ∀ (ZY:C1) (s:U8) (σ:St) (H:Hp) (Q:VK),Inv X ZY σ H s->t σ H Q->Vh (Vl X.prog X.w) X.A (Wy e X.env) (EP X ZY σ Q) X.xe s
def PT (X:Cx)(e:Expr)(t:TT):Prop :=
 ∀ (ZY:C1) (s:U8) (σ:St) (H:Hp) (Q:Bool->Hp->Prop),Inv X ZY σ H s->t σ H Q->Vh (Vl X.prog X.w) X.A (isTrue e X.env (Wy e X.env)) (TP X ZY σ Q) X.xe s
def PW (X:Cx)(e:Expr)(t:TT):Prop :=
 ∀ (whole:Sem Value) (ZY:C1) (s:U8) (σ:St) (H:Hp) (Q:Bool->Hp->Prop),Inv X ZY σ H s->t σ H Q->Vh (Vl X.prog X.w) X.A (isTrue e X.env whole) (TP X ZY σ Q) X.xe s
def PW.pt {X:Cx}{e:Expr}{t:TT}(h:PW X e t):PT X e t:=h _
def PA (X:Cx)(es:Do)(t:TA):Prop :=
 ∀ (pos:YS) (ZY:C1) (s:U8) (σ:St) (H:Hp) (Q:List V->Hp->Prop),Inv X ZY σ H s->t σ H Q->Vh (Vl X.prog X.w) X.A (spliced (Xj pos (Vx es X.env))) (AP X ZY σ Q) X.xe s
def PS (X:Cx)(st:Stmt)(t:TS):Prop :=
 ∀ (ZY:C1) (s:U8) (σ:St) (H:Hp) (D:Ends),Inv X ZY σ H s->t D σ H->Vh (Vl X.prog X.w) X.A (exec st X.env) (SP X ZY D) X.xe s
def PSs (X:Cx)(st:DA)(t:TS):Prop :=
 ∀ (ZY:C1) (s:U8) (σ:St) (H:Hp) (D:Ends),Inv X ZY σ H s->t D σ H->Vh (Vl X.prog X.w) X.A (execs st X.env) (SP X ZY D) X.xe s
def thn {α:Type}{t:Sem α}{Q Q':α->U8->Prop}{M:Model}{A:V1}{E:C4}{s:U8}(h:Vh M A t Q E s)(hQ:∀ a s,Q a s->Q' a s):Vh M A t Q' E s:=Wc h hQ fun _ _ x=>x
section
variable {X:Cx}
inductive ExB (x:V)(P:Bool->Prop):Prop where
 | mk (c:Bool) (z0:x = .bl c) (z1:P c):ExB x P
inductive vW (i:Nat)(σ:St)(H:Hp)(Q:VK):Prop where
 | mk (v:V) (_:σ[i]? = some (some v)) (_:Q v H)
def tC (v:V):TE:=fun _ H Q=>Q v H
def Mu {i:Nat} {x:VB} {pos:YS} (hN:X.N[i]? = some x) (hv:Vis X.env.scope x) (hd:(x == ("__debug__" : VB))=false:=by decide) (hcd:(x == ("__classdict__" : VB))=false:=by decide):PE X (.Name x pos) (vW i):=by
 intro ZY s σ H Q I h;obtain⟨v,e,h⟩:=h;obtain⟨m,hn,hl⟩:=I.loc;obtain⟨u,r,l⟩:=hl i x v hN e hv;have fin:EP X ZY σ Q u s:=⟨v,H,I,r,h⟩;rcases l with⟨hk,hm⟩ | ⟨hk,c,hc,hcell⟩;{exact wpAny_Name (wpAny_loadName_local I.ok.kind hk hn hm fin) hd}
 ·rcases hk with hk | hk;{exact wpAny_Name (wpAny_loadName_cell I.ok.kind hk hc hcell fin) hd};{exact wpAny_Name (wpAny_loadName_free I.ok.kind hk hc hcell fin hcd) hd}
def ao {i j pos}:PE X (.Constant (.int i) j pos) (tC (.int i)):=fun _ _ _ H _ I h=>wpAny_Constant_int ⟨.int i,H,I.tok _,⟨_,U⟩,h⟩
def fG {b j pos}:PE X (.Constant (.bool b) j pos) (tC (.bl b)):=fun _ _ _ H _ I h=>Constant_bool ⟨.bl b,H,I,U,h⟩
def LK {j pos}:PE X (.Constant .none j pos) (tC .non):=fun _ _ _ H _ I h=>Constant_none ⟨.non,H,I,U,h⟩
def aC {x j pos}:PE X (.Constant (.str x) j pos) (tC (.str x)):=fun _ _ _ H _ I h=>Calls.Constant_str ⟨.str x,H,I.tok _,⟨_,U⟩,h⟩
def Gl (X:Cx)(x:VB):Prop:=X.env.kindOf x=some .globalImplicit
def jQ {E:C4}{ZY:C1}{s:U8}{σ:St}{H:Hp}{x:VB}{u:Value}{pos:YS}{Q:C4}(I:Inv X ZY σ H s)(hg:Gl X x)(hm:X.mg x=some u)(h:Q u s)
  (hd:(x == ("__debug__" : VB))=false:=by decide):Vh (Vl X.prog X.w) X.A (Wy (.Name x pos) X.env) Q E s :=
 Calls.Name_function_global I.ok.kind hg (Calls.loadGlobal_global (by rw[I.ok.glob];exact I.mod.glob.keeps I.bk) hm h) hd
def kO {E:C4}{ZY:C1}{s:U8}{σ:St}{H:Hp}{x:VB}{u:Value}{pos:YS}{Q:C4}(I:Inv X ZY σ H s)(hg:Gl X x)(hm:X.mg x=none)(hv:We x=some u)(h:Q u s)
  (hn:x≠"__name__":=by decide) (hd:(x == ("__debug__" : VB))=false:=by decide):Vh (Vl X.prog X.w) X.A (Wy (.Name x pos) X.env) Q E s:=by
 obtain⟨mb,h1,h2⟩:=I.mod.blt;exact Calls.Name_function_global I.ok.kind hg (Calls.loadGlobal_builtin (by rw[I.ok.glob];exact I.mod.glob.keeps I.bk) hm (by rw[I.ok.blt];exact h1.keeps I.bk) ((h2 x hn).trans hv) h) hd
def M9 {x:VB} {v:V} {u:Value} {pos:YS} (hg:Gl X x) (hm:X.mg x=some u) (r:RelV v u) (hd:(x == ("__debug__" : VB))=false:=by decide):PE X (.Name x pos) (tC v) :=
 fun _ _ _ H _ I h=>jQ I hg hm ⟨v,H,I,r,h⟩ hd
def Mx {x:VB} {v:V} {u:Value} {pos:YS} (hg:Gl X x) (hm:X.mg x=none) (hv:We x=some u) (r:RelV v u) (hn:x≠"__name__":=by decide) (hd:(x == ("__debug__" : VB))=false:=by decide):PE X (.Name x pos) (tC v) :=
 fun _ _ _ H _ I h=>kO I hg hm hv ⟨v,H,I,r,h⟩ hn hd
variable {a b:Expr}{ta tb:TE}{pos:YS}
def PC (X:Cx)(op:CmpOp)(a b:Expr)(t:TE):Prop :=
 ∀ (ZY:C1) (s:U8) (σ:St) (H:Hp) (Q:VK),Inv X ZY σ H s->t σ H Q →
  Vh (Vl X.prog X.w) X.A (Wy a X.env) (fun v s₁=>Vh (Vl X.prog X.w) X.A (Wy b X.env) (fun u s₂=>Vh (Vl X.prog X.w) X.A (Xm op v u) (EP X ZY σ Q) X.xe s₂) X.xe s₁) X.xe s
def BV (b:Expr){op:CmpOp}(h:op≠.In)(h2:op≠.NotIn):X6 op b=false:=by
 have e1:(op == CmpOp.In)=false:=by cases op <;> first | rfl | exact absurd rfl h
 have e2:(op == CmpOp.NotIn)=false:=by cases op <;> first | rfl | exact absurd rfl h2
 cases b <;> simp [X6,e1,e2]
def U0 (ta:TE):TE:=fun σ H Q=>ta σ H fun x H1=>Q (.bl (decide (x = .non))) H1
def RelV.Ju {x:V}{v:Value}(r:RelV x v):(v == WM)=decide (x = .non):=by
 cases x with
 | non=>cases r;rfl
 | bl _=>cases r;rfl
 | int _=>obtain⟨t,rfl⟩:=r;rfl
 | str _=>obtain⟨t,rfl⟩:=r;rfl
 | byt _=>obtain⟨t,rfl⟩:=r;rfl
 | flt _=>obtain⟨t,rfl⟩:=r;rfl
 | ref _=>cases r;rfl
 | ty _=>cases r;rfl
def Mi {j pos'}(ha:PE X a ta):PC X .Is a (.Constant .none j pos') (U0 ta):=by
 intro ZY s σ H Q I h;refine thn (ha ZY s σ H _ I h) fun v s1 ⟨x,H1,I1,r1,q1⟩=>?_;exact Constant_none (is_none_gen ⟨.bl _,H1,I1,by rw[r1.Ju];rfl,q1⟩)
def tB (t:TE):TT:=fun σ H Q=>t σ H fun x H1=>ExB x fun c=>Q c H1
def Qd {op:CmpOp}{t:TE}(h:PC X op a b t)(h1:X6 op b=false:=by first | exact BV _ (by decide) (by decide) | rfl):PE X (.Compare a [op] [b] pos) t:=fun ZY s σ H Q I hw=>wpAny_Compare1 (h ZY s σ H Q I hw) h1
def EY {op:CmpOp}{t:TE}(h:PC X op a b t)(h1:X6 op b=false:=by first | exact BV _ (by decide) (by decide) | rfl):PT X (.Compare a [op] [b] pos) (tB t):=by
 intro ZY s σ H Q I hw;refine wpAny_isTrue_Compare1 (thn (h ZY s σ H _ I hw) fun v s1 h1=>thn h1 fun u s2 h2=>thn h2 fun c s3 ⟨x,H1,I1,r1,q1⟩=>?_) h1;obtain⟨d,rfl,q⟩:=q1;cases r1;exact Xp ⟨H1,I1,q⟩
def cj {e:Expr}{t:TE}(h:PE X e t)(he:∀ whole,isTrue e X.env whole=(do let v ← whole;YJ e.pos;Zg [v] (truthy v)):=by intro _;rfl):PT X e (tB t):=by
 intro ZY s σ H Q I hw;refine isTrue_plain (thn (h ZY s σ H _ I hw) fun v s1 ⟨x,H1,I1,r1,q1⟩=>?_) (he _);obtain⟨d,rfl,q⟩:=q1;cases r1;exact Xp ⟨H1,I1,q⟩
variable {tA tB':TT}{rest:Do}
def TY (t u:TT):TT:=fun σ H Q=>t σ H fun c H1=>if c=true then u σ H1 Q else Q false H1
def tOr (t u:TT):TT:=fun σ H Q=>t σ H fun c H1=>if c=true then Q true H1 else u σ H1 Q
def UG (t:TT):TT:=fun σ H Q=>t σ H fun c H1=>Q (!c) H1
def fP (ha:PT X a tA):PW X (.BoolOp .And [a] pos) tA:=by
 intro wh ZY s σ H Q I h;refine isTrue_and (thn (ha ZY s σ H Q I h) fun c s1 e=>?_);cases c with
 | true=>exact isTrue_and_nil e
 | false=>exact e
def fH (ha:PT X a tA):PW X (.BoolOp .Or [a] pos) tA:=by
 intro wh ZY s σ H Q I h;refine isTrue_or (thn (ha ZY s σ H Q I h) fun c s1 e=>?_);cases c with
 | false=>exact isTrue_or_nil e
 | true=>exact e
def jU (ha:PT X a tA)(hb:PW X (.BoolOp .And (b::rest) pos) tB'):PW X (.BoolOp .And (a::b::rest) pos) (TY tA tB'):=by
 intro wh ZY s σ H Q I h;refine isTrue_and (thn (ha ZY s σ H _ I h) fun c s1 ⟨H1,I1,q1⟩=>?_);cases c with
 | true=>exact hb wh ZY s1 σ H1 Q I1 q1
 | false=>exact⟨H1,I1,q1⟩
def jw (ha:PT X a tA)(hb:PW X (.BoolOp .Or (b::rest) pos) tB'):PW X (.BoolOp .Or (a::b::rest) pos) (tOr tA tB'):=by
 intro wh ZY s σ H Q I h;refine isTrue_or (thn (ha ZY s σ H _ I h) fun c s1 ⟨H1,I1,q1⟩=>?_);cases c with
 | true=>exact⟨H1,I1,q1⟩
 | false=>exact hb wh ZY s1 σ H1 Q I1 q1
def dC (ha:PT X a tA):PT X (.UnaryOp .Not a pos) (UG tA):=by
 intro ZY s σ H Q I h;exact isTrue_not (ha ZY s σ H (fun c H1=>Q (!c) H1) I h)
def Td (ta tb:TE):TE:=fun σ H Q=>ta σ H fun x H1=>ExB x fun c=>if c=true then tb σ H1 Q else Q (.bl false) H1
def Uz (ta tb:TE):TE:=fun σ H Q=>ta σ H fun x H1=>ExB x fun c=>if c=true then Q (.bl true) H1 else tb σ H1 Q
def S9 (ta:TE):TE:=fun σ H Q=>ta σ H fun x H1=>ExB x fun c=>Q (.bl (!c)) H1
def iK {op}{t:TE}(h:PE X a t):PE X (.BoolOp op [a] pos) t:=fun ZY s σ H Q I hw=>BoolOp_one (h ZY s σ H Q I hw)
def dX (ha:PE X a ta)(hb:PE X (.BoolOp .And (b::rest) pos) tb):PE X (.BoolOp .And (a::b::rest) pos) (Td ta tb):=by
 intro ZY s σ H Q I h;refine BoolOp_and (thn (ha ZY s σ H _ I h) fun v s1 ⟨x,H1,I1,r1,q1⟩=>?_);obtain⟨c,rfl,q1⟩:=q1;cases r1;refine Xp ?_;cases c with
 | true=>exact hb ZY s1 σ H1 Q I1 q1
 | false=>exact⟨.bl false,H1,I1,U,q1⟩
def Tp (ha:PE X a ta)(hb:PE X (.BoolOp .Or (b::rest) pos) tb):PE X (.BoolOp .Or (a::b::rest) pos) (Uz ta tb):=by
 intro ZY s σ H Q I h;refine BoolOp_or (thn (ha ZY s σ H _ I h) fun v s1 ⟨x,H1,I1,r1,q1⟩=>?_);obtain⟨c,rfl,q1⟩:=q1;cases r1;refine Xp ?_;cases c with
 | false=>exact hb ZY s1 σ H1 Q I1 q1
 | true=>exact⟨.bl true,H1,I1,U,q1⟩
def Q0 (ha:PE X a ta):PE X (.UnaryOp .Not a pos) (S9 ta):=by
 intro ZY s σ H Q I h;refine UnaryOp_ (thn (ha ZY s σ H _ I h) fun v s1 ⟨x,H1,I1,r1,q1⟩=>?_);obtain⟨c,rfl,q1⟩:=q1;cases r1;exact not_of (Xp ⟨.bl (!c),H1,I1,U,q1⟩)
def tIf (t:TT)(ta tb:TE):TE:=fun σ H Q=>t σ H fun c H1=>if c=true then ta σ H1 Q else tb σ H1 Q
def jj {c:Expr}(hc:PT X c tA)(ha:PE X a ta)(hb:PE X b tb):PE X (.IfExp c a b pos) (tIf tA ta tb):=by
 intro ZY s σ H Q I h;refine wpAny_IfExp (thn (hc ZY s σ H _ I h) fun d s1 ⟨H1,I1,q1⟩=>?_);cases d with
 | true=>exact ha ZY s1 σ H1 Q I1 q1
 | false=>exact hb ZY s1 σ H1 Q I1 q1
end
def SqL (K:Vi)(H:Hp)(a:Addr)(xs:List V):Prop :=
 Rd H a (.lst xs) ∨
  ∃ (o:Xz) (its:Array Value) (n:Nat),K.lookup a=some o/\o.cls = .type "list"/\o.dict=none/\o.data = .seq its n/\its.size<=sizeLine/\Vals xs its.toList
def SqT (K:Vi)(H:Hp)(a:Addr)(xs:List V):Prop :=
 Rd H a (.tup xs) ∨
  ∃ (o:Xz) (its:Array Value) (n:Nat),K.lookup a=some o/\o.cls = .type "tuple"/\o.data = .seq its n/\its.size<=sizeLine/\Vals xs its.toList
def Um:Value->Option V
 | .none=>some .non
 | .bool b=>some (.bl b)
 | .int i _=>some (.int i)
 | .str x _=>some (.str x)
 | .bytes b _=>some (.byt b)
 | .float b _=>some (.flt b)
 | .ref a=>some (.ref a)
 | .type n=>some (.ty n)
 | _=>none
def RelV.abs {x:V}{u:Value}(r:RelV x u):Um u=some x:=by
 cases x with
 | non=>cases r;rfl
 | bl _=>cases r;rfl
 | int _=>obtain⟨t,rfl⟩:=r;rfl
 | str _=>obtain⟨t,rfl⟩:=r;rfl
 | byt _=>obtain⟨t,rfl⟩:=r;rfl
 | flt _=>obtain⟨t,rfl⟩:=r;rfl
 | ref _=>cases r;rfl
 | ty _=>cases r;rfl
def RelV.inj {x y:V}{u:Value}(r:RelV x u)(q:RelV y u):x=y:=VV (r.abs.symm.trans q.abs)
theorem Vals.inj:∀ {xs ys:List V} {us:C9},Vals xs us->Vals ys us->xs=ys
 | _,_,_,.nil,.nil=>rfl
 | _,_,_,.cons r t,.cons r' t'=>by rw[r.inj r',Vals.inj t t']
section
variable {X:Cx}{ZY:C1}{σ:St}{H:Hp}{s:U8}{a:Addr}{xs ys:List V}
def SqL.of {K:Vi}(h:H a=some (.lst xs)):SqL K H a xs:=.inl (.inl h)
def SqT.of {K:Vi}(h:H a=some (.tup xs)):SqT K H a xs:=.inl (.inl h)
def Inv.list (I:Inv X ZY σ H s)(h:SqL X.K H a xs):∃ its:C9,Vals xs its/\PlainL s.heap a its.toArray/\xs.length<=sizeLine:=by
 rcases h with h | ⟨o,its,n,hk,hc,hd,hs,hz,r⟩;{obtain⟨z,its,n,r,e⟩:=h.ok I.hok;exact⟨its,r,⟨_,n,e,U,U,U⟩,z⟩};{refine⟨its.toList,r,⟨o,n,I.kIn a o hk,hc,hd,by simpa using hs⟩,?_⟩;have e:=r.length;simp only[Wf] at e;lia}
def Inv.tuple (I:Inv X ZY σ H s)(h:SqT X.K H a xs):∃ its:C9,Vals xs its/\IsTup s.heap a its.toArray/\xs.length<=sizeLine:=by
 rcases h with h | ⟨o,its,n,hk,hc,hs,hz,r⟩;{obtain⟨z,its,r,p⟩:=h.ok I.hok;exact⟨its,r,p,z⟩};{refine⟨its.toList,r,⟨o,I.kIn a o hk,hc,n,by simpa using hs⟩,?_⟩;have e:=r.length;simp only[Wf] at e;lia}
def Inv.Cw (I:Inv X ZY σ H s)(h:SqL X.K H a xs)(h':SqL X.K H a ys):xs=ys:=by
 obtain⟨its,r,⟨o,n,e,_,_,d⟩,_⟩:=I.list h;obtain⟨its',r',⟨o',n',e',_,_,d'⟩,_⟩:=I.list h';rw[e] at e';cases e';rw[d] at d';injection d' with d1 _;have:its=its':=by simpa using congrArg Array.toList d1
 subst this;exact r.inj r'
def Inv.xY (I:Inv X ZY σ H s)(h:SqT X.K H a xs)(h':SqT X.K H a ys):xs=ys:=by
 obtain⟨its,r,⟨o,e,_,n,d⟩,_⟩:=I.tuple h;obtain⟨its',r',⟨o',e',_,n',d'⟩,_⟩:=I.tuple h';rw[e] at e';cases e';rw[d] at d';injection d' with d1 _;have:its=its':=by simpa using congrArg Array.toList d1
 subst this;exact r.inj r'
end
abbrev Cx.wish (X:Cx)(E:C4):Cx:={ X with xe:=E }
abbrev Cx.nox (X:Cx):Cx:=X.wish fun _ _=>False
def Cx.Ok.wish {X:Cx}(ok:X.Ok)(E:C4):(X.wish E).Ok :=
 ⟨ok.mod,ok.kind,ok.glob,ok.blt,ok.above,ok.inj,ok.has,ok.cab,ok.hd,ok.frames,ok.stk,ok.exf,ok.bs,ok.bsz,ok.noex,ok.exfs,ok.uf,ok.frf⟩
def Cx.Ok.mY {X:Cx}{E:C4}(ok:(X.wish E).Ok):X.Ok :=
 ⟨ok.mod,ok.kind,ok.glob,ok.blt,ok.above,ok.inj,ok.has,ok.cab,ok.hd,ok.frames,ok.stk,ok.exf,ok.bs,ok.bsz,ok.noex,ok.exfs,ok.uf,ok.frf⟩
section
variable {X:Cx}{ZY:C1}{σ:St}{H:Hp}{s:U8}{E:C4}
def Inv.wish (I:Inv X ZY σ H s)(E:C4):Inv (X.wish E) ZY σ H s:=⟨I.ok.wish E,I.os,I.bare,I.base,I.loc,I.cell,I.free,I.freeC,I.pin,I.hok,I.len⟩
def Inv.mY (I:Inv (X.wish E) ZY σ H s):Inv X ZY σ H s:=⟨I.ok.mY,I.os,I.bare,I.base,I.loc,I.cell,I.free,I.freeC,I.pin,I.hok,I.len⟩
def SP.mY {D:Ends}{f:Flow}{s':U8}(h:SP (X.wish E) ZY D f s'):SP X ZY D f s':=by
 cases f with
 | next=>obtain⟨σ',H',I,q⟩:=h;exact⟨σ',H',I.mY,q⟩
 | brk=>obtain⟨σ',H',I,q⟩:=h;exact⟨σ',H',I.mY,q⟩
 | cont=>obtain⟨σ',H',I,q⟩:=h;exact⟨σ',H',I.mY,q⟩
 | ret u=>obtain⟨v,σ',H',I,r,q⟩:=h;exact⟨v,σ',H',I.mY,r,q⟩
def PSs.nox {st:DA}{t:TS}(h:PSs X.nox st t):PSs X st t:=fun ZY s σ H D I hw =>
 Wc (h ZY s σ H D (I.wish _) hw) (fun _ _ q=>q.mY) fun _ _ z=>V9 z
end
section
variable {X:Cx}{st:Stmt}{rest:DA}{t u:TS}{e:Expr}{te:TE}{pos:YS}
def KH:TS:=fun D σ H=>D.nx σ H
def Gj (t u:TS):TS:=fun D σ H=>t { D with nx:=u D } σ H
def aR:PSs X [] KH:=fun _ _ σ H _ I h=>aaW ⟨σ,H,I,h⟩
def aj (h1:PS X st t)(h2:PSs X rest u):PSs X (st::rest) (Gj t u):=by
 intro ZY s σ H D I h;refine wpAny_execs_cons (thn (h1 ZY s σ H { D with nx:=u D } I h) fun f s1 q=>?_);cases f with
 | next =>
  obtain⟨σ',H',I',q⟩:=q;exact h2 ZY s1 σ' H' D I' q
 | ret v=>exact q
 | brk=>exact q
 | cont=>exact q
def aB (h1:PS X st t):PSs X [st] t:=by
 intro ZY s σ H D I h;refine wpAny_execs_cons (thn (h1 ZY s σ H D I h) fun f s1 q=>?_);cases f with
 | next=>exact aaW q
 | ret v=>exact q
 | brk=>exact q
 | cont=>exact q
def Inv.quiet {ZY:C1}{σ:St}{H:Hp}{s:U8}(I:Inv X ZY σ H s):interactive X.env=false:=by simp [interactive,I.ok.kind]
def RN (te:TE):TS:=fun D σ H=>te σ H fun _ H1=>D.nx σ H1
def aX (he:PE X e te)(hs:ZR e none pos.line X.env=pure false:=by rfl):PS X (.Expr e pos) (RN te):=by
 intro ZY s σ H D I h;exact wpAny_Expr_any (thn (he ZY s σ H _ I h) fun v s1 ⟨x,H1,I1,r1,q1⟩=>⟨σ,H1,I1,q1⟩) I.quiet hs
def RC (te:TE):TS:=fun D σ H=>te σ H D.rt
def FT (he:PE X e te):PS X (.Return (some e) pos) (RC te):=by
 intro ZY s σ H D I h;exact wpAny_Return_some (thn (he ZY s σ H _ I h) fun v s1 ⟨x,H1,I1,r1,q1⟩=>⟨x,σ,H1,I1,r1,q1⟩)
def Jj (c:TT)(t u:TS):TS:=fun D σ H=>c σ H fun b H1=>if b=true then t D σ H1 else u D σ H1
def bR {c:Expr}{a b:DA}{tc:TT}(hc:PT X c tc)(ha:PSs X a t)(hb:PSs X b u):PS X (.If c a b pos) (Jj tc t u):=by
 intro ZY s σ H D I h;refine wpAny_If (thn (hc ZY s σ H _ I h) fun d s1 ⟨H1,I1,q1⟩=>?_);cases d with
 | true=>exact ha ZY s1 σ H1 D I1 q1
 | false=>exact hb ZY s1 σ H1 D I1 q1
def Qj:TS:=fun _ _ _=>False
def gQ:PS X st Qj:=fun _ _ _ _ _ _ h=>h.elim
end
abbrev TG:=V->St->Hp->(St->Hp->Prop)->Prop
abbrev TGs:=List V->St->Hp->(St->Hp->Prop)->Prop
def PG (X:Cx)(target:Expr)(t:TG):Prop :=
 ∀ (ZY:C1) (s:U8) (σ:St) (H:Hp) (v:V) (u:Value) (Q:St->Hp->Prop),Inv X ZY σ H s->RelV v u->t v σ H Q →
  Vh (Vl X.prog X.w) X.A (aaM target X.env u) (fun _ s'=>∃ σ' H',Inv X ZY σ' H' s'/\Q σ' H') X.xe s
def PGs (X:Cx)(ts:Do)(t:TGs):Prop :=
 ∀ (ZY:C1) (s:U8) (σ:St) (H:Hp) (vs:List V) (us:C9) (Q:St->Hp->Prop),Inv X ZY σ H s->Vals vs us->t vs σ H Q →
  Vh (Vl X.prog X.w) X.A (assignInOrder ((ZV ts X.env).map (·.2)) us) (fun _ s'=>∃ σ' H',Inv X ZY σ' H' s'/\Q σ' H') X.xe s
abbrev Tq:=V->V->V->Hp->(Hp->Prop)->Prop
def Tt (X:Cx)(t:Tq):Prop :=
 ∀ (ZY:C1) (s:U8) (σ:St) (H:Hp) (o i v:V) (ov iv u:Value) (Q:Hp->Prop),Inv X ZY σ H s->RelV o ov->RelV i iv->RelV v u->t o i v H Q →
  Vh (Vl X.prog X.w) X.A (setItem ov iv u) (fun _ s'=>∃ H',Inv X ZY σ H' s'/\Q H') X.xe s
section
variable {X:Cx}{pos:YS}
def pQ (i:Nat):TG:=fun v σ H Q=>Q (σ.set i (some v)) H
def rO {i:Nat}{x:VB}(hN:X.N.Nodup)(hi:X.N[i]? = some x)(hx:Loc X.env.scope x)(hf:X.fn x=true∨X.env.scope.names.lookup x=some .local:=by first | exact .inl rfl | exact .inr rfl | assumption):PG X (.Name x pos) (pQ i):=by
 intro ZY s σ H v u Q I r h;exact wpAny_assign_Name (uF I hN hi hx r (fun s' I'=>⟨_,H,I',h⟩) hf)
def Uo:TGs:=fun vs σ H Q=>vs=[]/\Q σ H
inductive S8 (t:TG)(u:TGs)(vs:List V)(σ:St)(H:Hp)(Q:St->Hp->Prop):Prop where
 | mk (v:V) (r:List V) (_:vs=v::r) (_:t v σ H fun σ' H'=>u r σ' H' Q)
def dY:PGs X [] Uo:=by
 intro ZY s σ H vs us Q I r h;obtain⟨e,h⟩:=h;subst e;cases r;exact assignInOrder_nil ⟨σ,H,I,h⟩
def aV {e:Expr}{es:Do}{t:TG}{u:TGs}(h1:PG X e t)(h2:PGs X es u)
  (hs:(ZV (e::es) X.env).map (·.2)=aaM e X.env::(ZV es X.env).map (·.2):=by rfl):PGs X (e::es) (S8 t u):=by
 intro ZY s σ H vs us Q I r h;obtain⟨v,vr,e1,h⟩:=h;subst e1;cases r with
 | cons r rr =>
  rw[hs];refine assignInOrder_cons (thn (h1 ZY s σ H _ _ _ I r h) fun _ s1 ⟨σ1,H1,I1,q1⟩=>?_);exact h2 ZY s1 σ1 H1 _ _ Q I1 rr q1
inductive TV (K:Vi)(n:Nat)(t:TGs)(v:V)(σ:St)(H:Hp)(Q:St->Hp->Prop):Prop where
 | mk (a:Addr) (xs:List V) (_:v = .ref a) (_:SqT K H a xs) (_:xs.length=n) (_:t xs σ H Q)
def QT {es:Do}{k:Nat}{t:TGs}{n:Nat}(hc:X.calm=true)(h:PGs X es t)
  (hn:(ZV es X.env).length=n:=by rfl) (hst:(ZV es X.env).findIdx? (·.1)=none:=by rfl):PG X (.Tuple es k pos) (TV X.K n t):=by
 intro ZY s σ H v u Q I r hw;obtain⟨a,xs,e1,hq,hl,hw⟩:=hw;subst e1;cases r;obtain⟨its,rv,ht,hz⟩:=I.tuple hq;refine assign_Tuple_tuple (I.ok.hd hc) ht (by simp [hn,← hl,rv.length]) hst fun h' hx=>?_;have I1:Inv X ZY σ H { s with heap:=h' }:=I.kept (t':=s.toks) fun b o e=>hx b o (Vw (Vj e)) e;exact h ZY _ σ H xs _ Q I1 (by simpa using rv) hw
def Ug (to ti:TE)(t:Tq):TG:=fun v σ H Q=>to σ H fun o H1=>ti σ H1 fun i H2=>t o i v H2 fun H3=>Q σ H3
def Mr {o i:Expr}{to ti:TE}{t:Tq}(ho:PE X o to)(hi:PE X i ti)(hs:Tt X t)
  (ha:∀ v,aaM (.Subscript o i pos) X.env v=(do
   let ov ← Zg [v] (Wy o X.env)
   let iv ← Zg [v,ov] (Wy i X.env)
   YJ pos
   Zg [v,ov,iv] (setItem ov iv v)
   release [v,ov,iv] []):=by intro _;rfl):PG X (.Subscript o i pos) (Ug to ti t):=by
 intro ZY s σ H v u Q I r h;rw[ha];refine U6 (Ww (thn (ho ZY s σ H _ I h) fun ov s1 ⟨x,H1,I1,r1,q1⟩=>?_));refine U6 (Ww (thn (hi ZY s1 σ H1 _ I1 q1) fun iv s2 ⟨y,H2,I2,r2,q2⟩=>?_));refine U6 (X3 (U6 (Ww (thn (hs ZY s2 σ H2 x y v ov iv u _ I2 r1 r2 r q2) fun _ s3 ⟨H3,I3,q3⟩=>?_))));exact wpAny_release ⟨σ,H3,I3,q3⟩
def QX (te:TE)(g:TG):TS:=fun D σ H=>te σ H fun x H1=>g x σ H1 D.nx
def yp {tg e:Expr}{te:TE}{g:TG}(he:PE X e te)(hg:PG X tg g)(hs:swapsWithSole [tg] e pos.line X.env=pure false:=by rfl)(hw:swappedStores [tg] e X.env=pure none:=by rfl)
  (h1:(ZV [tg] X.env).map (·.2)=[aaM tg X.env]:=by rfl):PS X (.Assign [tg] e pos) (QX te g):=by
 intro ZY s σ H D I h;refine wpAny_Assign_stores (thn (he ZY s σ H _ I h) fun v s1 ⟨x,H1,I1,r1,q1⟩=>?_) hs hw;rw[h1];exact thn (hg ZY s1 σ H1 x v _ I1 r1 q1) fun _ s2 q=>q
def Ir {i:Nat}{x:VB}{e:Expr}{te:TE}{pos':YS}(hN:X.N.Nodup)(hi:X.N[i]? = some x)(hx:Loc X.env.scope x)(he:PE X e te)(hs:ZR e (some (.Name x pos')) pos.line X.env=pure false:=by rfl)(hf:X.fn x=true∨X.env.scope.names.lookup x=some .local:=by first | exact .inl rfl | exact .inr rfl | assumption) :
  PS X (.Assign [.Name x pos'] e pos) (QX te (pQ i)):=by
 intro ZY s σ H D I h;refine wpAny_Assign_Name (thn (he ZY s σ H _ I h) fun v s1 ⟨y,H1,I1,r1,q1⟩=>?_) hs;exact uF I1 hN hi hx r1 (fun s2 I2=>⟨_,H1,I2,q1⟩) hf
end
section
variable {X:Cx}{pos:YS}
end
structure It where
 go:Nat->Hp->Prop
 yld:Nat->Hp->V->Hp->Prop
 stop:Nat->Hp->Prop
def yQ (X:Cx)(ZY:C1)(H:Hp)(b:Addr):Prop :=
 H b=none/\b≠X.env.locals/\b ∉ X.fs/\(b∈X.ex∨X.s₀.heap.objs.size<=b)/\(∀ x c,X.env.cells.lookup x=some c->c≠b)/\∀ p∈X.pn++ZY,p.1≠b
def Inv.O8 {X:Cx}{ZY:C1}{σ:St}{H H':Hp}{s:U8}{b:Addr}(I:Inv X ZY σ H s)(hb:s.heap.objs.size<=b)(hn:H' b=none):yQ X ZY H' b:=by
 refine⟨hn,Yt (Vc I.lt hb),I.T9 hb,.inr (VH I.sz hb),fun x c e z=>?_,fun p hp z=>?_⟩;{obtain⟨v,q⟩:=I.cell x c e;exact absurd (Vc q.lt (by rw[z];exact hb)) (Wj _)};{exact absurd (Vc (Vj (I.pin p hp).1) (by rw[z];exact hb)) (Wj _)}
structure Turn (P:Vt)(w:V2)(K:Vi)(tg:Expr)(J:It)(fp:Db)(it:Addr)(tn:Nat->Wg->Prop):Prop where
 mem:it∈fp
 obj:∀ i h,tn i h->∀ b∈fp,∃ o,h.get? b=some o/\∀ v,o.data≠.cell v
 keep:∀ i h h',tn i h->(∀ b∈fp,∀ o,h.get? b=some o->h'.get? b=some o)->tn i h'
 item:∀ (X:Cx),X.prog=P->X.w=w->X.K=K->X.calm=true->∀ (i:Nat) (ZY:C1) (s:U8) (σ:St) (H:Hp) (E:C4),Inv X ZY σ H s->(∀ b∈fp,yQ X ZY H b)->tn i s.heap->J.go i H →
  Vh (Vl P w) X.A (YC (.ref it)) (fun r s1=>∃ u,r=some u ∧
   Vh (Vl P w) X.A (Yc tg (.ref it) u) (fun _ s2=>∃ x H',Inv X ZY σ H' s2/\RelV x u/\J.yld i H x H'/\tn (i+1) s2.heap/\∀ b∈fp,H' b=none) E s1) E s
 done:∀ (X:Cx),X.prog=P->X.w=w->X.K=K->X.calm=true->∀ (i:Nat) (ZY:C1) (s:U8) (σ:St) (H:Hp) (E:C4),Inv X ZY σ H s->(∀ b∈fp,yQ X ZY H b)->tn i s.heap->J.stop i H →
  Vh (Vl P w) X.A (YC (.ref it)) (fun r s1=>r=none/\Inv X ZY σ H s1) E s
 self:∀ (A:V1) (i:Nat) (s:U8) (Q:C4) (E:C4),tn i s.heap->Q (.ref it) s->Vh (Vl P w) A (aa7 (.ref it)) Q E s
abbrev TI:=St->Hp->(It->Hp->Prop)->Prop
def PIE (X:Cx)(ZY:C1)(σ:St)(tg:Expr)(R:It->Hp->Prop)(itv:Value)(s2:U8):Prop :=
 ∃ (it:Addr) (fp:Db) (tn:Nat->Wg->Prop) (J:It) (H':Hp),itv = .ref it/\Inv X ZY σ H' s2/\Turn X.prog X.w X.K tg J fp it tn/\tn 0 s2.heap/\(∀ b∈fp,yQ X ZY H' b)/\R J H'
def PI (X:Cx)(tg iter:Expr)(wi:TI):Prop :=
 ∀ (ZY:C1) (s:U8) (σ:St) (H:Hp) (R:It->Hp->Prop),Inv X ZY σ H s->wi σ H R →
  Vh (Vl X.prog X.w) X.A (Wy iter X.env) (fun v s1=>Vh (Vl X.prog X.w) X.A (aa7 v) (PIE X ZY σ tg R) X.xe s1) X.xe s
def JK {M : Model}{A : V1}{E : Value → U8 → Prop}{s : U8}{tg : Expr}{it : Addr}{u : Value}{o : Xz}{n : String}{vs : Array Value}{Q : Unit → U8 → Prop}(ho : s.heap.get? it = some o)(hc : o.cls = .type n)(hd : o.data = .fields vs)
    (hn : ["enumerate", "zip", "dict_itemiterator", "dict_reverseitemiterator", "odict_iterator", "itertools.zip_longest", "itertools.pairwise"].contains n = false) (hQ : Q () s) : Vh M A (Yc tg (.ref it) u) Q E s := by
  unfold Yc;cases tg <;> first
    | exact Va hQ
    | (cases u <;> first
        | exact Va hQ
        | (refine U6 (wpAny_load ho ?_)
           rw [hc, hd];show Vh M A (if (["enumerate", "zip", "dict_itemiterator", "dict_reverseitemiterator", "odict_iterator", "itertools.zip_longest", "itertools.pairwise"].contains n && vs[0]? == some (Wl _)) = true then _ else _) Q E s
           rw [if_neg (by intro h;rw [hn, Zd] at h;cases h)]
           exact Va hQ))
def Itl (K:Vi)(a:Addr):It :=
 ⟨fun i H=>∃ xs x,SqL K H a xs/\xs[i]? = some x,fun i H x H'=>H'=H/\∀ xs,SqL K H a xs->xs[i]? = some x,fun i H=>∃ xs,SqL K H a xs/\xs.length<=i⟩
def Itt (K:Vi)(a:Addr):It :=
 ⟨fun i H=>∃ xs x,SqT K H a xs/\xs[i]? = some x,fun i H x H'=>H'=H/\∀ xs,SqT K H a xs->xs[i]? = some x,fun i H=>∃ xs,SqT K H a xs/\xs.length<=i⟩
def Itr (lo:Int)(n:Nat):It:=⟨fun i _=>i < n,fun i H x H'=>H'=H/\x = .int (lo+i),fun i _=>n<=i⟩
def Ji {P:Vt}{w:V2}{K:Vi}{tg:Expr}(a it:Addr):Turn P w K tg (Itl K a) [it] it (fun i h=>h.IsListIter it a i) where
 mem:=by simp
 obj:=fun i h st b hb=>by
  have e:b=it:=by simpa using hb
  subst e;obtain⟨o,e,c,d⟩:=st;exact⟨o,e,fun v z=>by rw[d] at z;cases z⟩
 keep:=fun i h h' st k=>st.at fun o e=>k it (by simp) o e
 item:=by
  intro X hP hw hK hc i ZY s σ H E I hf st hg;subst hP hw hK;obtain⟨xs,x,hq,hx⟩:=hg;obtain⟨its,rv,p,hz⟩:=I.list hq;obtain⟨u,hu,ru⟩:=rv.get hx;obtain⟨f0,f1,f2,f3,f4,f5⟩:=hf it (by simp);refine wpAny_pyNext_list_item st p.isList (x:=u) (by simpa using hu) fun h' st' sb=>?_;have I1:Inv X ZY σ H { s with heap:=h' }:=I.turned (t':=s.toks) (fun b o hb e=>(sb.2 b hb).trans e) f0 f1 f3 f4 f5;obtain⟨o,e,c,d⟩:=id st';exact⟨u,U,JK (s:={ s with heap:=h' }) e c d (by decide) ⟨x,H,I1,ru,⟨U,fun ys hy=>by rw[I.Cw hy hq];exact hx⟩,st',fun b hb=>(hf b hb).1⟩⟩
 done:=by
  intro X hP hw hK hc i ZY s σ H E I hf st hg;subst hP hw hK;obtain⟨xs,hq,hx⟩:=hg;obtain⟨its,rv,p,hz⟩:=I.list hq;obtain⟨f0,f1,f2,f3,f4,f5⟩:=hf it (by simp);have hl:=rv.length;exact wpAny_pyNext_list_end (I.ok.hd hc) st p.isList (by simp;lia) fun h' eb=>⟨U,I.turned (t':=s.toks) (fun b o hb e=>eb b o hb e) f0 f1 f3 f4 f5⟩
 self:=fun _ _ _ _ _ st h=>wpAny_pyIter_listiter st h
def Em {P:Vt}{w:V2}{K:Vi}{tg:Expr}(a it:Addr):Turn P w K tg (Itt K a) [it] it (fun i h=>h.IsTupleIter it a i) where
 mem:=by simp
 obj:=fun i h st b hb=>by
  have e:b=it:=by simpa using hb
  subst e;obtain⟨o,e,c,d⟩:=st;exact⟨o,e,fun v z=>by rw[d] at z;cases z⟩
 keep:=fun i h h' st k=>st.at fun o e=>k it (by simp) o e
 item:=by
  intro X hP hw hK hc i ZY s σ H E I hf st hg;subst hP hw hK;obtain⟨xs,x,hq,hx⟩:=hg;obtain⟨its,rv,p,hz⟩:=I.tuple hq;obtain⟨u,hu,ru⟩:=rv.get hx;obtain⟨f0,f1,f2,f3,f4,f5⟩:=hf it (by simp);refine wpAny_pyNext_tuple_item st (show s.heap.IsTuple a its.toArray from p) (x:=u) (by simpa using hu) fun h' st' sb=>?_;have I1:Inv X ZY σ H { s with heap:=h' }:=I.turned (t':=s.toks) (fun b o hb e=>(sb.2 b hb).trans e) f0 f1 f3 f4 f5;obtain⟨o,e,c,d⟩:=id st';exact⟨u,U,JK (s:={ s with heap:=h' }) e c d (by decide) ⟨x,H,I1,ru,⟨U,fun ys hy=>by rw[I.xY hy hq];exact hx⟩,st',fun b hb=>(hf b hb).1⟩⟩
 done:=by
  intro X hP hw hK hc i ZY s σ H E I hf st hg;subst hP hw hK;obtain⟨xs,hq,hx⟩:=hg;obtain⟨its,rv,p,hz⟩:=I.tuple hq;obtain⟨f0,f1,f2,f3,f4,f5⟩:=hf it (by simp);have hl:=rv.length;exact wpAny_pyNext_tuple_end (I.ok.hd hc) st (show s.heap.IsTuple a its.toArray from p) (by simp;lia) fun h' eb=>⟨U,I.turned (t':=s.toks) (fun b o hb e=>eb b o hb e) f0 f1 f3 f4 f5⟩
 self:=fun _ _ _ _ _ st h=>wpAny_pyIter_tupleiter st h
def Dh {P:Vt}{w:V2}{K:Vi}{tg:Expr}(it:Addr)(lo:Int)(n:Nat):Turn P w K tg (Itr lo n) [it] it (fun i h=>IsRangeIter h it (lo+(i:Nat) * 1) ((n:Int) - (i:Nat)) 1) where
 mem:=by simp
 obj:=fun i h st b hb=>by
  have e:b=it:=by simpa using hb
  subst e
  exact⟨_,st,fun v z=>by
   have z':Data.fields _=Data.cell v:=z
   cases z'⟩
 keep:=fun i h h' st k=>k it (by simp) _ st
 item:=by
  intro X hP hw hK hc i ZY s σ H E I hf st hg;subst hP hw hK;obtain⟨f0,f1,f2,f3,f4,f5⟩:=hf it (by simp);have W:=Walks.range (prog:=X.prog) (w:=X.w) (I.ok.hd hc) it lo 1 n;refine W.item i s _ _ hg st fun v h' tk hv st' kk=>?_;obtain⟨t,rfl⟩:=hv;have I1:Inv X ZY σ H { s with heap:=h',toks:=tk }:=I.turned (fun b o hb e=>kk b o (by simpa using hb) e) f0 f1 f3 f4 f5;refine⟨_,U,JK (s:={ s with heap:=h',toks:=tk }) (n:="range_iterator") st' U U (by decide) ⟨.int (lo+i),H,I1,⟨t,?_⟩,⟨U,U⟩,st',fun b hb=>(hf b hb).1⟩⟩;rw[Int.mul_one]
 done:=by
  intro X hP hw hK hc i ZY s σ H E I hf st hg;subst hP hw hK;obtain⟨f0,f1,f2,f3,f4,f5⟩:=hf it (by simp);exact wpAny_pyNext_range_end (I.ok.hd hc) st (by have:n<=i:=hg;lia) fun h' eb=>⟨U,I.turned (t':=s.toks) (fun b o hb e=>eb b o hb e) f0 f1 f3 f4 f5⟩
 self:=fun _ _ _ _ _ st h=>wpAny_pyIter_rangeiter st h
section
variable {X:Cx}{tg:Expr}
def Ng (K:Vi)(tl:TE):TI:=fun σ H R=>tl σ H fun x H1=>∃ a,x = .ref a/\(∃ xs,SqL K H1 a xs)/\R (Itl K a) H1
def Tu (K:Vi)(tl:TE):TI:=fun σ H R=>tl σ H fun x H1=>∃ a,x = .ref a/\(∃ xs,SqT K H1 a xs)/\R (Itt K a) H1
def dB {l:Expr}{tl:TE}(hl:PE X l tl):PI X tg l (Ng X.K tl):=by
 intro ZY s σ H R I h;refine thn (hl ZY s σ H _ I h) fun v s1 ⟨x,H1,I1,r1,q1⟩=>?_;obtain⟨a,e,⟨xs,hq⟩,q⟩:=q1;subst e;cases r1;obtain⟨its,rv,p,hz⟩:=I1.list hq;refine ZD p.isList ?_;refine⟨s1.heap.objs.size,[s1.heap.objs.size],_,_,H1,U,I1.kept (t':=s1.toks) fun b o e=>U9 _ e,Ji a _,⟨_,Vn _ U,U,U⟩,fun b hb=>?_,q⟩;have e:b=s1.heap.objs.size:=by simpa using hb
 subst e;exact I1.O8 (Vb _) (I1.hok.fresh (Vb _))
def cU {l:Expr}{tl:TE}(hl:PE X l tl):PI X tg l (Tu X.K tl):=by
 intro ZY s σ H R I h;refine thn (hl ZY s σ H _ I h) fun v s1 ⟨x,H1,I1,r1,q1⟩=>?_;obtain⟨a,e,⟨xs,hq⟩,q⟩:=q1;subst e;cases r1;obtain⟨its,rv,p,hz⟩:=I1.tuple hq;refine wpAny_pyIter_tuple (show s1.heap.IsTuple a its.toArray from p) ?_;refine⟨s1.heap.objs.size,[s1.heap.objs.size],_,_,H1,U,I1.kept (t':=s1.toks) fun b o e=>U9 _ e,Em a _,⟨_,Vn _ U,U,U⟩,fun b hb=>?_,q⟩;have e:b=s1.heap.objs.size:=by simpa using hb
 subst e;exact I1.O8 (Vb _) (I1.hok.fresh (Vb _))
def K3 {ZY:C1}{σ:St}{H:Hp}{s:U8}{R:It->Hp->Prop}{E:C4}{lo hi:Int}{t u v:Tok}{tk:Nat}(I:Inv X ZY σ H s)(h1 : -(2 ^ 62)<=lo)(h2:lo < 2 ^ 62)(h3 : -(2 ^ 62)<=hi)(h4:hi < 2 ^ 62)
  (q:R (Itr lo (hi - lo).toNat) H):Vh (Vl X.prog X.w) X.A (aa7 (.ref s.heap.objs.size)) (PIE X ZY σ tg R) E { s with heap:=s.heap.push { cls:=.type "range",data:=.fields #[.int lo t,.int hi u,.int 1 v] },toks:=tk }:=by
 refine wpAny_pyIter_range (IsRange.new ..) (small_one h1 h2 h3 h4) ?_;have I1:Inv X ZY σ H { s with heap:=s.heap.push { cls:=.type "range",data:=.fields #[.int lo t,.int hi u,.int 1 v] },toks:=tk }:=I.kept fun b o e=>U9 _ e
 refine⟨(s.heap.push { cls:=.type "range",data:=.fields #[.int lo t,.int hi u,.int 1 v] }).objs.size,[(s.heap.push { cls:=.type "range",data:=.fields #[.int lo t,.int hi u,.int 1 v] }).objs.size],_,_,H,U,
  I1.kept (t':=tk) fun b o e=>U9 _ e,Dh _ lo (hi - lo).toNat,?_,fun b hb=>?_,q⟩
 ·have e1:lo+((0:Nat):Int) * 1=lo:=by simp
  have e2:(((hi - lo).toNat:Nat):Int) - ((0:Nat):Int)=Builtin.Range.rangeSize lo hi 1:=by rw[rangeSize_one];split <;> lia
  show IsRangeIter _ _ (lo+((0:Nat):Int) * 1) ((((hi - lo).toNat:Nat):Int) - ((0:Nat):Int)) 1;rw[e1,e2];exact Vn _ U
 ·have e:b=(s.heap.push { cls:=.type "range",data:=.fields #[.int lo t,.int hi u,.int 1 v] }).objs.size:=by simpa using hb
  subst e;exact I1.O8 (Vb _) (I1.hok.fresh (Vb _))
def Sw (ta:TA):TI:=fun σ H R=>ta σ H fun vs H1=>∃ j:Int,vs=[.int j]/\-(2 ^ 62)<=j/\j < 2 ^ 62/\R (Itr 0 j.toNat) H1
def bN {a:Expr} {ta:TA} {p pos:YS} (hg:Gl X "range") (hm:X.mg "range" = none) (ha:PA X [a] ta) (hs:Vx [a] X.env=[(false,Wy a X.env)]:=by rfl):PI X tg (.Call (.Name "range" p) [a] [] pos) (Sw ta):=by
 intro ZY s σ H R I h;refine Call_ (kO I hg hm boot_range (XS (thn (ha pos ZY s σ H _ I h) fun us s1 ⟨vs,H1,I1,r1,q1⟩=>?_) hs U));obtain⟨j,e,q1,q2,q⟩:=q1;subst e;cases r1 with
 | cons r rr =>
  cases rr;obtain⟨t,rfl⟩:=r;exact call_range_1 (K3 I1 (by lia) (by lia) q1 q2 (by simpa using q))
def T4 (wi:TI)(g:TG)(tb:TS):TS:=fun D σ H=>wi σ H fun J H1=>∃ W:Nat->Nat->St->Hp->Prop,(∃ m,W 0 m σ H1)/\∀ i m σ H,W i m σ H →
 (J.stop i H/\D.nx σ H)∨(J.go i H/\∃ N:St->Hp->Prop,(∀ σ' H',N σ' H'->∃ m',m' < m/\W (i+1) m' σ' H')/\∀ x H',J.yld i H x H'->g x σ H' fun σ2 H2=>tb { D with nx:=N,ct:=N,bk:=D.nx } σ2 H2)
def pP (fp:Db)(h:Wg):C1:=fp.filterMap fun b=>(h.get? b).map fun o=>(b,o)
def dJ {fp:Db}{h:Wg}{b:Addr}{o:Xz}(hb:b∈fp)(e:h.get? b=some o):(b,o)∈pP fp h:=List.mem_filterMap.mpr ⟨b,hb,by rw[e];rfl⟩
def Gi {fp:Db}{h:Wg}{p:Addr × Xz}(hp:p∈pP fp h):p.1∈fp/\h.get? p.1=some p.2:=by
 obtain⟨b,hb,e⟩:=List.mem_filterMap.mp hp;cases q:h.get? b with
 | none=>rw[q] at e;cases e
 | some o =>
  rw[q] at e;have e':(b,o)=p:=VV e;subst e';exact⟨hb,q⟩
def Inv.pinned {ZY:C1}{σ:St}{H:Hp}{s:U8}{fp:Db}(I:Inv X ZY σ H s)(hf:∀ b∈fp,yQ X ZY H b)(ho:∀ b∈fp,∃ o,s.heap.get? b=some o/\∀ v,o.data≠.cell v):Inv X (ZY++pP fp s.heap) σ H s :=
 I.G4 fun p hp=>(List.mem_append.mp hp).elim (fun z=>I.pin p (V0 _ z)) fun z=>by
  obtain⟨hb,e⟩:=Gi z;obtain⟨f0,f1,f2,_⟩:=hf p.1 hb;obtain⟨o,e',d⟩:=ho p.1 hb;rw[e] at e';cases e';exact⟨e,f0,f1,f2,d⟩
def Inv.j6 {ZY pl:C1}{σ:St}{H:Hp}{s:U8}(I:Inv X (ZY++pl) σ H s):Inv X ZY σ H s:=I.G4 fun p hp=>I.pin p (V0 _ (Z4 _ hp))
def cP {iter:Expr}{body:DA}{wi:TI}{g:TG}{tb:TS}{pos:YS}(hp:PassesOwn (Vl X.prog X.w) X.A X.env X.xe)(hc:X.calm=true)(hi:PI X tg iter wi)(hg:PG X tg g)(hb:PSs X body tb)
  (hs:∀ x,Xq iter X.env x=pure x:=by intro _;rfl):PS X (.For tg iter body [] pos) (T4 wi g tb):=by
 intro ZY s σ H D I h;refine wpAny_For (thn (hi ZY s σ H _ I h) fun v s1 h1=>thn h1 fun itv s2 h2=>?_) hs;obtain⟨it,fp,tn,J,H2,e,I2,T,st2,f2,W,⟨m0,w0⟩,turn⟩:=h2;subst e;have stat:∀ {H':Hp},(∀ b∈fp,H' b=none)->∀ b∈fp,yQ X ZY H' b:=fun hn b hb=>⟨hn b hb,(f2 b hb).2⟩;refine codeAny_forLoop_any (fun n s'=>∃ i σ' H',Inv X ZY σ' H' s'/\tn i s'.heap/\(∀ b∈fp,H' b=none)/\W i n σ' H') ?_ m0 ⟨0,σ,H2,I2,st2,fun b hb=>(f2 b hb).1,w0⟩;rintro n s3 ⟨i,σ3,H3,I3,st3,fr3,w3⟩;rcases turn i n σ3 H3 w3 with⟨stop,qn⟩ | ⟨go,N,hN,step⟩;{refine Z8 hp (thn (T.done X U U U hc i ZY s3 σ3 H3 X.xe I3 (stat fr3) st3 stop) fun r s4 ⟨hr,I4⟩=>?_);subst hr;exact aaW ⟨σ3,H3,I4,qn⟩}
 ·refine Z8 hp (thn (T.item X U U U hc i ZY s3 σ3 H3 X.xe I3 (stat fr3) st3 go) fun r s4 ⟨u,hr,h4⟩=>?_);subst hr;refine Z8 hp (thn h4 fun _ s5 ⟨x,H5,I5,r5,y5,st5,fr5⟩=>?_);have I5':=I5.pinned (stat fr5) (T.obj _ _ st5);refine Z8 hp (thn (hg _ s5 σ3 H5 x u _ I5' r5 (step x H5 y5)) fun _ s6 ⟨σ6,H6,I6,q6⟩=>?_);refine Z8 hp (thn (hb _ s6 σ6 H6 _ I6 q6) fun f s7 q7=>?_);have again:∀ {σ7:St} {H7:Hp},Inv X (ZY++pP fp s5.heap) σ7 H7 s7->N σ7 H7->∃ m,m < n/\∃ i σ' H',Inv X ZY σ' H' s7/\tn i s7.heap/\(∀ b∈fp,H' b=none)/\W i m σ' H':=fun {σ7 H7} I7 n7=>by
   obtain⟨m',hm,w7⟩:=hN σ7 H7 n7;refine⟨m',hm,i+1,σ7,H7,I7.j6,T.keep _ _ _ st5 fun b hb o e=>(I7.pin (b,o) (V0 _ (V0 _ (dJ hb e)))).1,fun b hb=>?_,w7⟩;obtain⟨o,e,d⟩:=T.obj _ _ st5 b hb;exact (I7.pin (b,o) (V0 _ (V0 _ (dJ hb e)))).2.1
  cases f with
  | next=>obtain⟨σ7,H7,I7,n7⟩:=q7;exact again I7 n7
  | cont=>obtain⟨σ7,H7,I7,n7⟩:=q7;exact again I7 n7
  | brk=>obtain⟨σ7,H7,I7,q7⟩:=q7;exact⟨σ7,H7,I7.j6,q7⟩
  | ret v=>obtain⟨x7,σ7,H7,I7,r7,q7⟩:=q7;exact⟨x7,σ7,H7,I7.j6,r7,q7⟩
end
def d8 {K:Vi}{a:Addr}{xs:List V}{g:TG}{tb:TS}{D:Ends}{σ:St}{H:Hp}(Pv:Nat->St->Hp->Prop)(h0:Pv 0 σ H)(hl:∀ i σ H,i<=xs.length->Pv i σ H->SqL K H a xs)
  (hs:∀ i x σ H,xs[i]? = some x->Pv i σ H->g x σ H fun σ2 H2=>tb { D with nx:=Pv (i+1),ct:=Pv (i+1),bk:=D.nx } σ2 H2) (hd:∀ σ H,Pv xs.length σ H->D.nx σ H) :
  ∃ W:Nat->Nat->St->Hp->Prop,(∃ m,W 0 m σ H)/\∀ i m σ H,W i m σ H →
   ((Itl K a).stop i H/\D.nx σ H)∨((Itl K a).go i H/\∃ N:St->Hp->Prop,(∀ σ' H',N σ' H'->∃ m',m' < m/\W (i+1) m' σ' H')/\∀ x H',(Itl K a).yld i H x H'->g x σ H' fun σ2 H2=>tb { D with nx:=N,ct:=N,bk:=D.nx } σ2 H2):=by
 refine⟨fun i m σ H=>m=xs.length - i/\i<=xs.length/\Pv i σ H,⟨xs.length,by simp,V3 _,h0⟩,?_⟩;rintro i m σ H ⟨rfl,hi,p⟩;have q:=hl i σ H hi p;by_cases hlt:i < xs.length;{refine .inr ⟨⟨xs,xs[i],q,by simp [hlt]⟩,Pv (i+1),fun σ' H' p'=>⟨xs.length - (i+1),by lia,U,hlt,p'⟩,fun x H' y=>?_⟩;obtain⟨e,y⟩:=y;subst e;exact hs i x σ _ (y xs q) p}
 ·have e:i=xs.length:=by lia
  subst e;exact .inl ⟨⟨xs,q,Vb _⟩,hd σ H p⟩
def dR {K:Vi}{a:Addr}{xs:List V}{g:TG}{tb:TS}{D:Ends}{σ:St}{H:Hp}(Pv:Nat->St->Hp->Prop)(h0:Pv 0 σ H)(hl:∀ i σ H,i<=xs.length->Pv i σ H->SqT K H a xs)
  (hs:∀ i x σ H,xs[i]? = some x->Pv i σ H->g x σ H fun σ2 H2=>tb { D with nx:=Pv (i+1),ct:=Pv (i+1),bk:=D.nx } σ2 H2) (hd:∀ σ H,Pv xs.length σ H->D.nx σ H) :
  ∃ W:Nat->Nat->St->Hp->Prop,(∃ m,W 0 m σ H)/\∀ i m σ H,W i m σ H →
   ((Itt K a).stop i H/\D.nx σ H)∨((Itt K a).go i H/\∃ N:St->Hp->Prop,(∀ σ' H',N σ' H'->∃ m',m' < m/\W (i+1) m' σ' H')/\∀ x H',(Itt K a).yld i H x H'->g x σ H' fun σ2 H2=>tb { D with nx:=N,ct:=N,bk:=D.nx } σ2 H2):=by
 refine⟨fun i m σ H=>m=xs.length - i/\i<=xs.length/\Pv i σ H,⟨xs.length,by simp,V3 _,h0⟩,?_⟩;rintro i m σ H ⟨rfl,hi,p⟩;have q:=hl i σ H hi p;by_cases hlt:i < xs.length;{refine .inr ⟨⟨xs,xs[i],q,by simp [hlt]⟩,Pv (i+1),fun σ' H' p'=>⟨xs.length - (i+1),by lia,U,hlt,p'⟩,fun x H' y=>?_⟩;obtain⟨e,y⟩:=y;subst e;exact hs i x σ _ (y xs q) p}
 ·have e:i=xs.length:=by lia
  subst e;exact .inl ⟨⟨xs,q,Vb _⟩,hd σ H p⟩
def iV {lo:Int}{n:Nat}{g:TG}{tb:TS}{D:Ends}{σ:St}{H:Hp}(Pv:Nat->St->Hp->Prop)(h0:Pv 0 σ H)
  (hs:∀ i σ H,i < n->Pv i σ H->g (.int (lo+i)) σ H fun σ2 H2=>tb { D with nx:=Pv (i+1),ct:=Pv (i+1),bk:=D.nx } σ2 H2) (hd:∀ σ H,Pv n σ H->D.nx σ H) :
  ∃ W:Nat->Nat->St->Hp->Prop,(∃ m,W 0 m σ H)/\∀ i m σ H,W i m σ H →
   ((Itr lo n).stop i H/\D.nx σ H)∨((Itr lo n).go i H/\∃ N:St->Hp->Prop,(∀ σ' H',N σ' H'->∃ m',m' < m/\W (i+1) m' σ' H')/\∀ x H',(Itr lo n).yld i H x H'->g x σ H' fun σ2 H2=>tb { D with nx:=N,ct:=N,bk:=D.nx } σ2 H2):=by
 refine⟨fun i m σ H=>m=n - i/\i<=n/\Pv i σ H,⟨n,by simp,V3 _,h0⟩,?_⟩;rintro i m σ H ⟨rfl,hi,p⟩;by_cases hlt:i < n;{refine .inr ⟨hlt,Pv (i+1),fun σ' H' p'=>⟨n - (i+1),by lia,U,hlt,p'⟩,fun x H' y=>?_⟩;obtain⟨e,y⟩:=y;subst e y;exact hs i σ _ hlt p}
 ·have e:i=n:=by lia
  subst e;exact .inl ⟨Vb _,hd σ H p⟩
abbrev R2:=V->V->Hp->VK->Prop
def OpR (X:Cx)(f:Value->Value->Sem Value)(r:R2):Prop :=
 ∀ (ZY:C1) (s:U8) (σ:St) (H:Hp) (x y:V) (v u:Value) (Q:VK),Inv X ZY σ H s->RelV x v->RelV y u->r x y H Q →
  Vh (Vl X.prog X.w) X.A (f v u) (EP X ZY σ Q) X.xe s
def UnR (X:Cx)(f:Value->Sem Value)(r:V->Hp->VK->Prop):Prop :=
 ∀ (ZY:C1) (s:U8) (σ:St) (H:Hp) (x:V) (v:Value) (Q:VK),Inv X ZY σ H s->RelV x v->r x H Q →
  Vh (Vl X.prog X.w) X.A (f v) (EP X ZY σ Q) X.xe s
def fY (X:Cx)(f:Value)(r:List V->Hp->VK->Prop):Prop :=
 ∀ (ZY:C1) (s:U8) (σ:St) (H:Hp) (xs:List V) (us:C9) (Q:VK),Inv X ZY σ H s->Vals xs us->r xs H Q →
  Vh (Vl X.prog X.w) X.A (call f us) (EP X ZY σ Q) X.xe s
def tOp (r:R2)(ta tb:TE):TE:=fun σ H Q=>ta σ H fun x H1=>tb σ H1 fun y H2=>r x y H2 Q
def tUn (r:V->Hp->VK->Prop)(ta:TE):TE:=fun σ H Q=>ta σ H fun x H1=>r x H1 Q
inductive rI (C:Int->Int->Prop)(g:Int->Int->V)(x:V)(y:V)(H:Hp)(Q:VK):Prop where
 | mk (i:Int) (j:Int) (_:x = .int i) (_:y = .int j) (_:C i j) (_:Q (g i j) H)
inductive rI0 (g:Int->Int->V)(x:V)(y:V)(H:Hp)(Q:VK):Prop where
 | mk (i:Int) (j:Int) (_:x = .int i) (_:y = .int j) (_:Q (g i j) H)
inductive rU (g:Int->V)(x:V)(H:Hp)(Q:VK):Prop where
 | mk (i:Int) (_:x = .int i) (_:Q (g i) H)
section
variable {X:Cx}{a b c:Expr}{ta tb tc:TE}{pos:YS}
def Sq (ha:PE X a ta)(hb:PE X b tb){ZY:C1}{s:U8}{σ:St}{H:Hp}{R:V->V->Hp->Prop}(I:Inv X ZY σ H s)
  (h:ta σ H fun x H1=>tb σ H1 fun y H2=>R x y H2) {Q:C4} {f:Value->Value->Sem Value}
  (hf:∀ v u s2 x y H2,Inv X ZY σ H2 s2->RelV x v->RelV y u->R x y H2->Vh (Vl X.prog X.w) X.A (f v u) Q X.xe s2) :
  Vh (Vl X.prog X.w) X.A (Wy a X.env) (fun v s₁=>Vh (Vl X.prog X.w) X.A (Wy b X.env) (fun u s₂=>Vh (Vl X.prog X.w) X.A (f v u) Q X.xe s₂) X.xe s₁) X.xe s:=by
 refine thn (ha ZY s σ H _ I h) fun v s1 ⟨x,H1,I1,r1,q1⟩=>?_;refine thn (hb ZY s1 σ H1 _ I1 q1) fun u s2 ⟨y,H2,I2,r2,q2⟩=>?_;exact hf v u s2 x y H2 I2 r1 r2 q2
def aK {op:Operator}{r:R2}(ho:OpR X (Zr op) r)(ha:PE X a ta)(hb:PE X b tb):PE X (.BinOp a op b pos) (tOp r ta tb):=by
 intro ZY s σ H Q I h;exact wpAny_BinOp (Sq ha hb I h fun v u s2 x y H2 I2 rx ry q=>ho ZY s2 σ H2 x y v u Q I2 rx ry q)
def xH {op:UnaryOp}{r:V->Hp->VK->Prop}(ho:UnR X (unaryOp op) r)(ha:PE X a ta):PE X (.UnaryOp op a pos) (tUn r ta):=by
 intro ZY s σ H Q I h;exact UnaryOp_ (thn (ha ZY s σ H _ I h) fun v s1 ⟨x,H1,I1,r1,q1⟩=>ho ZY s1 σ H1 x v Q I1 r1 q1)
def opI {f:Value->Value->Sem Value}{C:Int->Int->Prop}{g:Int->Int->Int}
  (rule:∀ (i j:Int) (t u:Tok) (s:U8) (Q:C4) (E:C4),C i j->Q (.int (g i j) s.toks) { s with toks:=s.toks+1 }->Vh (Vl X.prog X.w) X.A (f (.int i t) (.int j u)) Q E s) :
  OpR X f (rI C fun i j=>.int (g i j)):=by
 intro ZY s σ H x y v u Q I rx ry h;obtain⟨i,j,rfl,rfl,hc,q⟩:=h;obtain⟨t,rfl⟩:=rx;obtain⟨t',rfl⟩:=ry;exact rule i j t t' s _ _ hc ⟨.int (g i j),H,I.tok _,⟨_,U⟩,q⟩
def Tz {f:Value->Value->Sem Value}{g:Int->Int->Int}
  (rule:∀ (i j:Int) (t u:Tok) (s:U8) (Q:C4) (E:C4),Q (.int (g i j) s.toks) { s with toks:=s.toks+1 }->Vh (Vl X.prog X.w) X.A (f (.int i t) (.int j u)) Q E s) :
  OpR X f (rI0 fun i j=>.int (g i j)):=by
 intro ZY s σ H x y v u Q I rx ry h;obtain⟨i,j,rfl,rfl,q⟩:=h;obtain⟨t,rfl⟩:=rx;obtain⟨t',rfl⟩:=ry;exact rule i j t t' s _ _ ⟨.int (g i j),H,I.tok _,⟨_,U⟩,q⟩
def Rz {f:Value->Value->Sem Value}{g:Int->Int->Bool}
  (rule:∀ (i j:Int) (t u:Tok) (s:U8) (Q:C4) (E:C4),Q (.bool (g i j)) s->Vh (Vl X.prog X.w) X.A (f (.int i t) (.int j u)) Q E s) :
  OpR X f (rI0 fun i j=>.bl (g i j)):=by
 intro ZY s σ H x y v u Q I rx ry h;obtain⟨i,j,rfl,rfl,q⟩:=h;obtain⟨t,rfl⟩:=rx;obtain⟨t',rfl⟩:=ry;exact rule i j t t' s _ _ ⟨.bl (g i j),H,I,U,q⟩
def Uj (i j:Int):Prop:=0 < j/\j < 1073741824
def Ux (i j:Int):Prop:=0<=j/\j<=1000000/\i.natAbs < 2 ^ 64
def Ti (i j:Int):Prop:=(-(2 ^ 64) < i/\i < 2 ^ 64)∨(-(2 ^ 64) < j/\j < 2 ^ 64)
def Ti.ok {i j:Int}(h:Ti i j):IntMulOk i j:=by
 rcases h with⟨h1,h2⟩ | ⟨h1,h2⟩;{exact .of_left (intBits_le_64 h1 h2)};{exact .of_right (intBits_le_64 h1 h2)}
def bD:OpR X (Zr .Add) (rI0 fun i j=>.int (i+j)):=Tz fun _ _ _ _ _ _ _ q=>add_int q
def eO:OpR X (Zr .Sub) (rI0 fun i j=>.int (i - j)):=Tz fun _ _ _ _ _ _ _ q=>sub_int q
def gG:OpR X (Zr .Mult) (rI Ti fun i j=>.int (i * j)):=opI fun _ _ _ _ _ _ _ hc q=>mul_int q hc.ok
def vK:OpR X (Zr .FloorDiv) (rI Uj fun i j=>.int (i / j)):=opI fun i j _ _ _ _ _ hc q=>by
 have h1:(0:Int) < j:=hc.1;have h2:j < 1073741824:=hc.2;exact floordiv_int (by lia) (by rw[Int.fdiv_eq_ediv_of_nonneg i (by lia)];exact q) (.inl (PyProof.noPylong_small (by lia)))
def bI:OpR X (Zr .Mod) (rI (fun _ j=>0 < j) fun i j=>.int (i % j)):=opI fun i j _ _ _ _ _ hc q=>by
 have h1:(0:Int) < j:=hc;exact mod_int' (by lia) (by rw[Int.fmod_eq_emod_of_nonneg i (by lia)];exact q)
def uh:OpR X (Zr .Pow) (rI Ux fun i j=>.int (i ^ j.toNat)):=opI fun _ _ _ _ _ _ _ hc q=>pow_int_small hc.1 hc.2.1 hc.2.2 q
def unI {f:Value->Sem Value}{g:Int->Int}
  (rule:∀ (i:Int) (t:Tok) (s:U8) (Q:C4) (E:C4),Q (.int (g i) s.toks) { s with toks:=s.toks+1 }->Vh (Vl X.prog X.w) X.A (f (.int i t)) Q E s) :
  UnR X f (rU fun i=>.int (g i)):=by
 intro ZY s σ H x v Q I rx h;obtain⟨i,rfl,q⟩:=h;obtain⟨t,rfl⟩:=rx;exact rule i t s _ _ ⟨.int (g i),H,I.tok _,⟨_,U⟩,q⟩
def pD:UnR X (unaryOp .USub) (rU fun i=>.int (-i)):=unI fun _ _ _ _ _ q=>neg_int q
end
def T5:V->V->Bool
 | .non,.non=>true | .non,.int _=>true | .int _,.non=>true | .non,.bl _=>true | .bl _,.non=>true | .non,.str _=>true | .str _,.non=>true
 | .int _,.int _=>true | .bl _,.bl _=>true | .str _,.str _=>true | .byt _,.byt _=>true
 | .int _,.str _=>true | .str _,.int _=>true | .bl _,.str _=>true | .str _,.bl _=>true
 | _,_=>false
def rEq:R2:=fun x y H Q=>T5 x y=true/\Q (.bl (decide (x=y))) H
def rNe:R2:=fun x y H Q=>T5 x y=true/\Q (.bl (!decide (x=y))) H
def Gs {i j:Int}:decide (V.int i=V.int j)=(i == j):=by
 rw[aab];simp
def LC {i j:Bool}:decide (V.bl i=V.bl j)=(i == j):=by
 rw[aab];simp
def Hd {i j:VB}:decide (V.str i=V.str j)=(i == j):=by
 rw[aab];simp
def GJ {i j:Array UInt8}:decide (V.byt i=V.byt j)=(i.toList == j.toList):=by
 rw[aab];cases i;cases j;simp
section
variable {X:Cx}{a b c:Expr}{ta tb tc:TE}{pos:YS}
def cg {ZY:C1}{σ:St}{H:Hp}{s:U8}{Q:VK}{k k':Bool}(I:Inv X ZY σ H s)(q:Q (.bl k) H)(e:k=k'):EP X ZY σ Q (.bool k') s:=by
 subst e;exact⟨.bl k,H,I,U,q⟩
def aQ:OpR X (Xm .Eq) rEq:=by
 intro ZY s σ H x y v u Q I rx ry h;obtain⟨hs,q⟩:=h;cases x with
 | non =>
  cases rx;cases y with
  | non=>cases ry;exact PySem.EqNone.eq_none_none (cg I q (by simp))
  | bl j=>cases ry;exact PySem.EqNone.eq_none_bool (cg I q (by simp))
  | int j=>obtain⟨t',rfl⟩:=ry;exact PySem.EqNone.eq_none_int (cg I q (by simp))
  | str j=>obtain⟨t',rfl⟩:=ry;exact PySem.EqNone.eq_none_str (cg I q (by simp))
  | _=>exact absurd (show false=true from hs) Ve
 | bl i =>
  cases rx;cases y with
  | non=>cases ry;exact PySem.EqNone.eq_bool_none (cg I q (by simp))
  | bl j=>cases ry;exact eq_bool (cg I q LC)
  | str j=>obtain⟨t',rfl⟩:=ry;exact PySem.EqMixed.eq_bool_str (cg I q (by simp))
  | _=>exact absurd (show false=true from hs) Ve
 | int i =>
  obtain⟨t,rfl⟩:=rx;cases y with
  | non=>cases ry;exact PySem.EqNone.eq_int_none (cg I q (by simp))
  | int j=>obtain⟨t',rfl⟩:=ry;exact eq_int (cg I q Gs)
  | str j=>obtain⟨t',rfl⟩:=ry;exact PySem.EqMixed.eq_int_str (cg I q (by simp))
  | _=>exact absurd (show false=true from hs) Ve
 | str i =>
  obtain⟨t,rfl⟩:=rx;cases y with
  | non=>cases ry;exact PySem.EqNone.eq_str_none (cg I q (by simp))
  | bl j=>cases ry;exact PySem.EqMixed.eq_str_bool (cg I q (by simp))
  | int j=>obtain⟨t',rfl⟩:=ry;exact PySem.EqMixed.eq_str_int (cg I q (by simp))
  | str j=>obtain⟨t',rfl⟩:=ry;exact eq_str (cg I q Hd)
  | _=>exact absurd (show false=true from hs) Ve
 | byt i =>
  obtain⟨t,rfl⟩:=rx;cases y with
  | byt j=>obtain⟨t',rfl⟩:=ry;exact PySem.W.eq_bytes (cg I q GJ)
  | _=>exact absurd (show false=true from hs) Ve
 | _=>cases y <;> exact absurd (show false=true from hs) Ve
def vm:OpR X (Xm .NotEq) rNe:=by
 intro ZY s σ H x y v u Q I rx ry h;obtain⟨hs,q⟩:=h;cases x with
 | non =>
  cases rx;cases y with
  | non=>cases ry;exact PySem.EqNone.ne_none_none (cg I q (by simp))
  | bl j=>cases ry;exact PySem.EqNone.ne_none_bool (cg I q (by simp))
  | int j=>obtain⟨t',rfl⟩:=ry;exact PySem.EqNone.ne_none_int (cg I q (by simp))
  | str j=>obtain⟨t',rfl⟩:=ry;exact PySem.EqNone.ne_none_str (cg I q (by simp))
  | _=>exact absurd (show false=true from hs) Ve
 | bl i =>
  cases rx;cases y with
  | non=>cases ry;exact PySem.EqNone.ne_bool_none (cg I q (by simp))
  | bl j=>cases ry;exact ne_bool (cg I q (congrArg not LC))
  | str j=>obtain⟨t',rfl⟩:=ry;exact PySem.EqMixed.ne_bool_str (cg I q (by simp))
  | _=>exact absurd (show false=true from hs) Ve
 | int i =>
  obtain⟨t,rfl⟩:=rx;cases y with
  | non=>cases ry;exact PySem.EqNone.ne_int_none (cg I q (by simp))
  | int j=>obtain⟨t',rfl⟩:=ry;exact ne_int (cg I q (congrArg not Gs))
  | str j=>obtain⟨t',rfl⟩:=ry;exact PySem.EqMixed.ne_int_str (cg I q (by simp))
  | _=>exact absurd (show false=true from hs) Ve
 | str i =>
  obtain⟨t,rfl⟩:=rx;cases y with
  | non=>cases ry;exact PySem.EqNone.ne_str_none (cg I q (by simp))
  | bl j=>cases ry;exact PySem.EqMixed.ne_str_bool (cg I q (by simp))
  | int j=>obtain⟨t',rfl⟩:=ry;exact PySem.EqMixed.ne_str_int (cg I q (by simp))
  | str j=>obtain⟨t',rfl⟩:=ry;exact ne_str (cg I q (congrArg not Hd))
  | _=>exact absurd (show false=true from hs) Ve
 | byt i =>
  obtain⟨t,rfl⟩:=rx;cases y with
  | byt j=>obtain⟨t',rfl⟩:=ry;exact PySem.W.ne_bytes (cg I q (congrArg not GJ))
  | _=>exact absurd (show false=true from hs) Ve
 | _=>cases y <;> exact absurd (show false=true from hs) Ve
def pZ:OpR X (Xm .Lt) (rI0 fun i j=>.bl (decide (i < j))):=Rz fun _ _ _ _ _ _ _ q=>lt_int q
def Nv:OpR X (Xm .LtE) (rI0 fun i j=>.bl (decide (i<=j))):=Rz fun _ _ _ _ _ _ _ q=>le_int q
def jL:OpR X (Xm .Gt) (rI0 fun i j=>.bl (decide (j < i))):=Rz fun _ _ _ _ _ _ _ q=>gt_int q
def mC:OpR X (Xm .GtE) (rI0 fun i j=>.bl (decide (j<=i))):=Rz fun _ _ _ _ _ _ _ q=>ge_int q
def Lh (b:Expr){op:CmpOp}(h:op≠.In:=by decide)(h2:op≠.NotIn:=by decide):X6 op b=false:=by
 have e1:(op == CmpOp.In)=false:=by cases op <;> first | rfl | exact absurd rfl h
 have e2:(op == CmpOp.NotIn)=false:=by cases op <;> first | rfl | exact absurd rfl h2
 cases b <;> simp [X6,e1,e2]
def Ia {op:CmpOp}{r:R2}(ho:OpR X (Xm op) r)(ha:PE X a ta)(hb:PE X b tb)(hm:X6 op b=false):PE X (.Compare a [op] [b] pos) (tOp r ta tb):=by
 intro ZY s σ H Q I h;exact wpAny_Compare1 (Sq ha hb I h fun v u s2 x y H2 I2 rx ry q=>ho ZY s2 σ H2 x y v u Q I2 rx ry q) hm
def Qy (t:TE):TT:=fun σ H Q=>t σ H fun x H'=>ExB x fun k=>Q k H'
def eQ {op:CmpOp}{r:R2}(ho:OpR X (Xm op) r)(ha:PE X a ta)(hb:PE X b tb)(hm:X6 op b=false):PT X (.Compare a [op] [b] pos) (Qy (tOp r ta tb)):=by
 intro ZY s σ H Q I h
 refine wpAny_isTrue_Compare1 (thn (ha ZY s σ H _ I h) fun v s1 ⟨x,H1,I1,r1,q1⟩=>thn (hb ZY s1 σ H1 _ I1 q1) fun u s2 ⟨y,H2,I2,r2,q2⟩ =>
  thn (ho ZY s2 σ H2 x y v u _ I2 r1 r2 q2) fun c s3 ⟨z,H3,I3,r3,k,e,q3⟩=>?_) hm
 subst e;cases r3;exact Xp ⟨H3,I3,q3⟩
def ud:(sizeLine:Nat) < 2 ^ 63:=by rw[ab9];decide
def vals1 {x:V}{us:C9}(r:Vals [x] us):∃ u,us=[u]/\RelV x u:=by
 cases r with
 | cons r1 r2=>cases r2;exact⟨_,U,r1⟩
def vals2 {x y:V}{us:C9}(r:Vals [x,y] us):∃ u w',us=[u,w']/\RelV x u/\RelV y w':=by
 cases r with
 | cons r1 r2 =>
  cases r2 with
  | cons r3 r4=>cases r4;exact⟨_,_,U,r1,r3⟩
def qu:fY X (.builtin "abs") (fun xs H Q=>∃ i,xs=[.int i]/\Q (.int (if i < 0 then -i else i)) H):=by
 intro ZY s σ H xs us Q I r h;obtain⟨i,rfl,q⟩:=h;obtain⟨u,rfl,t,rfl⟩:=vals1 r;exact call_abs_int fun u tk=>⟨.int (if i < 0 then -i else i),H,I.tok _,⟨_,U⟩,q⟩
def rE (hc:X.calm=true):fY X (.builtin "max") (fun xs H Q=>∃ i j,xs=[.int i,.int j]/\Q (.int (if j > i then j else i)) H):=by
 intro ZY s σ H xs us Q I r h;obtain⟨i,j,rfl,q⟩:=h;obtain⟨u,w',rfl,⟨t,rfl⟩,⟨t',rfl⟩⟩:=vals2 r;refine max_two_ints (I.ok.hd hc) fun h' tk k=>⟨_,H,I.kept k,?_,q⟩;by_cases hj:j > i;{rw[if_pos hj,if_pos hj];exact⟨_,U⟩};{rw[if_neg hj,if_neg hj];exact⟨_,U⟩}
def Fv (hc:X.calm=true):fY X (.builtin "min") (fun xs H Q=>∃ i j,xs=[.int i,.int j]/\Q (.int (if j < i then j else i)) H):=by
 intro ZY s σ H xs us Q I r h;obtain⟨i,j,rfl,q⟩:=h;obtain⟨u,w',rfl,⟨t,rfl⟩,⟨t',rfl⟩⟩:=vals2 r;refine min_two_ints (I.ok.hd hc) fun h' tk k=>⟨_,H,I.kept k,?_,q⟩;by_cases hj:j < i;{rw[if_pos hj,if_pos hj];exact⟨_,U⟩};{rw[if_neg hj,if_neg hj];exact⟨_,U⟩}
def nq:fY X (.type "int") (fun xs H Q=>(∃ i,xs=[.int i]/\Q (.int i) H)∨∃ k,xs=[.bl k]/\Q (.int (if k then 1 else 0)) H):=by
 intro ZY s σ H xs us Q I r h;rcases h with⟨i,rfl,q⟩ | ⟨k,rfl,q⟩;{obtain⟨u,rfl,t,rfl⟩:=vals1 r;exact call_int_int ⟨.int i,H,I,⟨_,U⟩,q⟩};{obtain⟨u,rfl,r1⟩:=vals1 r;cases r1;exact call_int_bool ⟨.int (if k then 1 else 0),H,I.tok _,⟨_,U⟩,q⟩}
end
structure Nx (h:Wg)(x dx C:Addr)(mA:VB->C5):Prop where
 obj:h.get? x=some (Yd C dx)
 ns:h.Ns1 dx mA
 ne:dx≠x
def xW {h:Wg}{dx:Addr}{mA:VB->C5}(n:h.Ns1 dx mA):∃ od,h.get? dx=some od/\∀ name,aba name od=some (mA name):=by
 obtain⟨o,es,ep,ho,hd,hk,_,hm⟩:=n;refine⟨o,ho,fun name=>?_⟩;have e:=hm name;unfold nsFind findBy at e;rw[← Array.find?_toList] at e;unfold aba;rw[hd];dsimp only;split;{rename_i y q;rw[q] at e;exact congrArg some e}
 ·rename_i q;rw[q] at e;have a:es.toList.any (·.refKey)=false:=by
   rw[List.any_eq_false];intro y hy;obtain⟨z,t,hkey⟩:=hk y (Array.mem_toList_iff.mp hy);simp [DictEntry.refKey,hkey]
  have a':¬ es.toList.any (·.refKey)=true:=by rw[a];exact Ve
  rw[if_neg a'];exact congrArg some e
def Nx.look {h:Wg}{x dx C:Addr}{mA:VB->C5}(I:Nx h x dx C mA):∃ od,PySem.W.InstAt h x (Yd C dx) C (some od)/\∀ name,aba name od=some (mA name) :=
 let ⟨od,ho,hl⟩:=xW I.ns
 ⟨od,⟨I.obj,U,U,ho⟩,hl⟩
section
variable {prog:Vt}{w:V2}{A:V1}{E:C4}{s:U8}{K:Vi}{x dx C f:Addr}{mA:VB->C5}{name:VB}{v:Value}
def get_map {expr:Bool}{Q:C4}(X:K.In s.heap)(I:Nx s.heap x dx C mA)(hg:ZX K C name=true)(hh:YK K C=true)
  (ha:Wu K (.ref C) name=some none) (hv:mA name=some v) (hv':abX v=true) (h:Q v { s with toks:=s.toks+1 }) :
  Vh (Vl prog w) A (getAttr (.ref x) name expr) Q E s:=by
 obtain⟨od,J,hl⟩:=I.look;exact PySem.W.get_value X J (abk hg).1 (PySem.W.findObj_own hh ha U (by rw[hl,hv])) hv' h
def KR {pl:Sem Bool}{Q:Value × C9->U8->Prop}(X:K.In s.heap)(I:Nx s.heap x dx C mA)(hg:ZX K C name=true)
  (hf:Wu K (.ref C) name=some (some (.ref f))) (ht:abL K (.ref f)=true) (hv:mA name=none) (h:Q (.ref f,[.ref x]) s) :
  Vh (Vl prog w) A (ZC (.ref x) name pl) Q E s:=by
 obtain⟨od,J,hl⟩:=I.look;exact PySem.W.method_fn X J (abk hg).1 (abk hg).2 hf (beq_iff_eq.mp ht) (by show (aba name od).map (·.isSome)=some false;rw[hl,hv];rfl) h
def MF {ns:DF}{Q:Unit->U8->Prop}(X:K.In s.heap)(I:Nx s.heap x dx C mA)
  (hs:Wu K (.ref C) "__setattr__" = some (some (.builtin "object.__setattr__"))) (hp:abJ K C=true) (ht:aaY K C name=some none) (hh:YK K C=true)
  (hw:PySem.Within mA ns) (hsz:ns.length<=sizeLine)
  (h:∀ h',Nx h' x dx C (fun y=>if y=name then some v else mA y)->Yv dx s.heap h'->Q () { s with heap:=h',toks:=s.toks+2 }) :
  Vh (Vl prog w) A (setAttr (.ref x) name v) Q E s:=by
 obtain⟨od,J,hl⟩:=I.look;refine PySem.W.set_plain X J hs (PySem.W.osa_open (s:={ s with toks:=s.toks+1 }) (r:=none) X J hp ht fun b=>?_);obtain⟨cd,hc,hd'⟩:=PySem.W.any_some hh;have hx:s.heap.get? x=some ⟨.ref C,some dx,.plain,#[]⟩:=I.obj;refine U6 (Va (U6 (U6 (wpAny_loadPart hx (U6 (Xv (s:={ s with toks:=s.toks+1 }) (abl X hc) ?_))))));rw[hd'];refine Va (a:=some dx) (U6 (Va (U6 ?_)));refine wpAny_nsSet1 (s:={ s with toks:=s.toks+1 }) I.ns fun h' hn2 hs2=>?_;obtain⟨oD,esD,epD,hoD,hdD,hcD⟩:=hn2.count (PySem.Within.cons name v hw);refine U6 (wpAny_lookBehind hoD (by rw[hdD];exact pastItsLine_dict (VH hcD (by rw[Vv];lia))) ?_);exact Va (h _ ⟨(hs2.2 _ (Wz I.ne)).trans I.obj,hn2,I.ne⟩ hs2)
def Ld {R:aan->U8->Prop}{vs:C9}{kw:C0}(X:K.In s.heap)(hm:acg K C=true)
  (hi:Wu K (.ref C) "__init__" = some (some (.ref f))) (hf:PySem.W.typeIn K (.ref f)=some (.type "function"))
  (h:WK (Vl prog w) (A.under (.builtin "type.__call__" ⟨.ref C::vs,kw⟩)) (.call (.ref f) ⟨.ref (s.heap.objs.size+1)::vs,kw⟩) (PySem.W.InitBack (s.heap.objs.size+1) R)
   {s with heap:=(s.heap.push Xu).push (Yd C s.heap.objs.size) }) :
  WK (Vl prog w) A (.call (.ref C) ⟨vs,kw⟩) R s:=by
 obtain⟨hh,g,d,t,os⟩:=s;exact PySem.W.make_core (PySem.W.makes_of X hm) (Y8 X hi) (fun self=>PySem.W.bind_fn X self hf) (.inl U) h
end
def ur (f:VB)(v:V):List (VB × V)->List (VB × V)
 | []=>[(f,v)]
 | (g,x)::r=>if g=f then (g,v)::r else (g,x)::ur f v r
theorem sY (f g:VB)(v:V):∀ fs:List (VB × V),(ur f v fs).lookup g=if g=f then some v else fs.lookup g
 | []=>by
  show Zb g [(f,v)]=_;by_cases h:g=f;{have hb:(g == f)=true:=beq_iff_eq.mpr h;simp only[Zb,hb,if_pos h]};{have hb:(g == f)=false:=beq_eq_false_iff_ne.mpr h;simp only[Zb,hb,if_neg h]}
 | (k,x)::r=>by
  have ih:=sY f g v r;rw[show ur f v ((k,x)::r)=(if k=f then (k,v)::r else (k,x)::ur f v r) from U]
  by_cases hk:k=f
  ·rw[if_pos hk];by_cases h:g=k;{have hb:(g == k)=true:=beq_iff_eq.mpr h;simp only[Zb,hb,if_pos (h.trans hk)]};{have hb:(g == k)=false:=beq_eq_false_iff_ne.mpr h;simp only[Zb,hb,if_neg (fun e:g=f=>h (e.trans hk.symm))]}
  ·rw[if_neg hk];by_cases h:g=k;{have hb:(g == k)=true:=beq_iff_eq.mpr h;simp only[Zb,hb,if_neg (fun e:g=f=>hk (h.symm.trans e))]};{have hb:(g == k)=false:=beq_eq_false_iff_ne.mpr h;simp only[Zb,hb];exact ih}
theorem rK (f:VB)(v:V):∀ fs:List (VB × V),f∈(ur f v fs).map (·.1)/\∀ g,g∈fs.map (·.1)->g∈(ur f v fs).map (·.1)
 | []=>⟨by simp [ur],fun g h=>by simp at h⟩
 | (k,x)::r=>by
  obtain⟨i1,i2⟩:=rK f v r;rw[show ur f v ((k,x)::r)=(if k=f then (k,v)::r else (k,x)::ur f v r) from U]
  by_cases hk:k=f;{rw[if_pos hk];subst hk;exact⟨by simp,fun g h=>by simpa using h⟩}
  ·rw[if_neg hk];refine⟨?_,fun g h=>?_⟩;{rw[Wk];exact Vp _ i1}
   ·rw[Wk] at h ⊢;rcases List.mem_cons.mp h with e | e;{exact List.mem_cons.mpr (.inl e)};{exact Vp _ (i2 g e)}
theorem rA (f:VB)(v:V):∀ fs:List (VB × V),(ur f v fs).length<=fs.length+1
 | []=>by simp [ur]
 | (k,x)::r=>by
  have ih:=rA f v r;rw[show ur f v ((k,x)::r)=(if k=f then (k,v)::r else (k,x)::ur f v r) from U]
  by_cases hk:k=f;{rw[if_pos hk,Vv,Vv];lia};{rw[if_neg hk,Vv,Vv];lia}
def ue.some_of {v:V}{o:C5}(r:ue (some v) o):∃ u,o=some u/\RelV v u:=by
 cases o with
 | none=>exact (show False from r).elim
 | some u=>exact⟨u,U,r⟩
def ue.none_of {o:C5}(r:ue none o):o=none:=by
 cases o with
 | none=>rfl
 | some u=>exact (show False from r).elim
def wV {v:V}{u:Value}(r:RelV v u):abX u=true:=by
 cases v with
 | non=>cases (show u=WM from r);rfl
 | bl b=>cases (show u=aaN b from r);rfl
 | int i=>obtain⟨t,e⟩:=(show ∃ t,u=X7 i t from r);cases e;rfl
 | str x=>obtain⟨t,e⟩:=(show ∃ t,u=abi x t from r);cases e;rfl
 | byt b=>obtain⟨t,e⟩:=(show ∃ t,u=Value.bytes b t from r);cases e;rfl
 | flt b=>obtain⟨t,e⟩:=(show ∃ t,u=Value.float b t from r);cases e;rfl
 | ref a=>cases (show u=Vq a from r);rfl
 | ty n=>cases (show u=Yi n from r);rfl
section
variable {P:Vt}{w:V2}{H H':Hp}{h h':Wg}{a C dx:Addr}{fs fs':List (VB × V)}
def uK (hok:HOk P w H h)(e:H a=some (.ins C dx fs)):∃ mA,Nx h a dx C mA/\(∀ f,ue (fs.lookup f) (mA f))/\PySem.Within mA (fs.map (·.1))/\fs.length<=1000/\H dx=some (.own a):=by
 obtain⟨d,z,ne,ob,mA,n,r,q⟩:=(show dN P w H h a (.ins C dx fs) from hok a _ e);exact⟨mA,⟨ob,n,ne⟩,r,q,z,d⟩
end
structure Cls (K:Vi)(C:Addr):Prop where
 pg:ZX K C Str.empty=true
 hd:YK K C=true
 po:abJ K C=true
 sa:Wu K (.ref C) "__setattr__" = some (some (.builtin "object.__setattr__"))
def Cls.get {K:Vi}{C:Addr}(c:Cls K C)(f:VB):ZX K C f=true:=c.pg
def iQ (K:Vi)(C:Addr)(f:VB):Prop:=Wu K (.ref C) f=some none
def iQ.taker {K:Vi}{C:Addr}{f:VB}(n:iQ K C f):aaY K C f=some none:=by
 unfold aaY;rw[show Wu K (.ref C) f=some none from n];rfl
structure Meth (K:Vi)(C:Addr)(m:VB)(f:Addr):Prop where
 at_:Wu K (.ref C) m=some (some (.ref f))
 fn:abL K (.ref f)=true
 kp:Xa K (.ref f)=true
section
variable {X:Cx}{ZY:C1}{σ:St}{H:Hp}{s:U8}{a C dx:Addr}{fs:List (VB × V)}{f:VB}{v:V}{A:V1}{E:C4}
def Du {b:Bool}{Q:C4}(I:Inv X ZY σ H s)(e:H a=some (.ins C dx fs))(c:Cls X.K C)(n:iQ X.K C f)(l:fs.lookup f=some v)
  (h:∀ u s',Inv X ZY σ H s'->RelV v u->Q u s'):Vh (Vl X.prog X.w) A (getAttr (.ref a) f b) Q E s:=by
 obtain⟨mA,O,r,_,_,_⟩:=uK I.hok e;obtain⟨u,hu,ru⟩:=ue.some_of (v:=v) (o:=mA f) (by rw[← l];exact r f);exact get_map I.kIn O (c.get f) c.hd n hu (wV ru) (h u _ (I.tok _) ru)
def uD {m:VB}{g:Addr}{pl:Sem Bool}{Q:Value × C9->U8->Prop}(I:Inv X ZY σ H s)(e:H a=some (.ins C dx fs))(c:Cls X.K C)(k:Meth X.K C m g)(l:fs.lookup m=none)
  (h:Q (.ref g,[.ref a]) s):Vh (Vl X.prog X.w) A (ZC (.ref a) m pl) Q E s:=by
 obtain⟨mA,O,r,_,_,_⟩:=uK I.hok e;have hn:mA m=none:=ue.none_of (by rw[← l];exact r m);exact KR I.kIn O (c.get m) k.at_ k.fn hn h
def Dz {y:V}{u:Value}{Q:Unit->U8->Prop}(I:Inv X ZY σ H s)(e:H a=some (.ins C dx fs))(c:Cls X.K C)(n:iQ X.K C f)(hl:fs.length < 1000)(ry:RelV y u)
  (h:∀ s',Inv X ZY σ (upd H a (.ins C dx (ur f y fs))) s'->Q () s'):Vh (Vl X.prog X.w) A (setAttr (.ref a) f u) Q E s:=by
 obtain⟨mA,O,r,wi,_,ho⟩:=uK I.hok e;have hz:(fs.map (·.1)).length<=sizeLine:=by rw[U7,ab9];lia
 refine MF I.kIn O c.sa c.po n.taker c.hd wi hz fun h' O' sb=>h _ ?_;have hd:∃ o,h'.get? dx=some o:=let ⟨o,_,_,e',_⟩:=O'.ns;⟨o,e'⟩;refine I.write (x:=a) (e:=dx) (by rw[e];exact Yj) (.inr ho) (fun b q hb z=>(sb.2 b hb).trans z) hd ?_;refine⟨by rw[aF O.ne];exact ho,?_,O.ne,O'.obj,_,O'.ns,fun g=>?_,fun g hg=>?_⟩;{have:=rA f y fs;lia}
 ·show ue ((ur f y fs).lookup g) (if g=f then some u else mA g)
  rw[sY];by_cases q:g=f;{rw[if_pos q,if_pos q];exact ry};{rw[if_neg q,if_neg q];exact r g}
 ·by_cases q:g=f;{rw[q];exact (rK f y fs).1}
  ·refine (rK f y fs).2 g (wi g fun z=>hg ?_);show (if g=f then some u else mA g)=none
   rw[if_neg q];exact z
def Inv.made (I:Inv X ZY σ H s):Inv X ZY σ (upd (upd H s.heap.objs.size (.own (s.heap.objs.size+1))) (s.heap.objs.size+1) (.ins C s.heap.objs.size []))
  {s with heap:=(s.heap.push Xu).push (Yd C s.heap.objs.size) }:=by
 have e1:(s.heap.push Xu).get? s.heap.objs.size=some Xu:=Vn s.heap U;have e2:((s.heap.push Xu).push (Yd C s.heap.objs.size)).get? (s.heap.objs.size+1)=some (Yd C s.heap.objs.size):=by
  have:=Vn (s.heap.push Xu) (o:=Yd C s.heap.objs.size) U;rwa [WT] at this
 have e3:(s.heap.push Xu).Ns s.heap.objs.size (fun _=>none):=⟨Xu,#[],_,e1,U,(fun e he=>absurd he (by simp)),fun _=>U⟩;have I1:=I.laid (a:=s.heap.objs.size) (o:=.own (s.heap.objs.size+1)) (h':=s.heap.push Xu) (t':=s.toks) (fun b u q=>U9 _ q) (Vb _) ⟨_,e1⟩;refine I1.laid (a:=s.heap.objs.size+1) (o:=.ins C s.heap.objs.size []) (t':=s.toks) (fun b u q=>U9 _ q) (Nat.le_of_eq (WT _ _)) ?_;have ne:s.heap.objs.size≠s.heap.objs.size+1:=Vw (Xw _);refine⟨by rw[aF ne,aa],V3 _,ne,e2,fun _=>none,(Heap.Ns1.of_empty e3).at fun o q=>U9 _ q,fun _=>Yj,fun y hy=>absurd U hy⟩
def Gh {prog:Vt}{w:V2}{env:Env}{e:Expr}{f:VB}{pos:YS}{s:U8}{Q:C4}(hb:Yy e f env (Wy e env)=Wy e env)
  (h:Vh (Vl prog w) A (Wy e env) (fun o s₁=>Vh (Vl prog w) A (getAttr o f true) Q E s₁) E s):Vh (Vl prog w) A (Wy (.Attribute e f pos) env) Q E s :=
 Attribute_any_ h (by rw[arm_eval_Attribute,hb])
end
def SM (K:Vi)(ta:TE)(f:VB):TE:=fun σ H Q=>ta σ H fun x H1=>∃ a C dx fs v,x = .ref a/\H1 a=some (.ins C dx fs)/\Cls K C/\iQ K C f/\fs.lookup f=some v/\Q v H1
def Us (K:Vi)(ta tv:TE)(f:VB):TS:=fun D σ H=>tv σ H fun y H1=>ta σ H1 fun x H2=>∃ a C dx fs,x = .ref a/\H2 a=some (.ins C dx fs)/\Cls K C/\iQ K C f/\fs.length < 1000 ∧
 D.nx σ (upd H2 a (.ins C dx (ur f y fs)))
section
variable {X:Cx}{o e value:Expr}{f:VB}{pos pos' tpos:YS}{ta tv:TE}
def Px (he:PE X e ta)(hb:Yy e f X.env (Wy e X.env)=Wy e X.env):PE X (.Attribute e f pos) (SM X.K ta f):=by
 intro ZY s σ H Q I h;refine Gh hb (thn (he ZY s σ H _ I h) fun u s1 ⟨x,H1,I1,rx,a,C,dx,fs,v,ex,ea,c,n,l,q⟩=>?_);subst ex;obtain rfl:u=Vq a:=rx;exact Du I1 ea c n l fun u' s2 I2 ru=>⟨v,H1,I2,ru,q⟩
def jK (ha:PE X o ta)(hv:PE X value tv)(hs:ZR value (some (.Attribute o f pos')) pos.line X.env=pure false):PS X (.Assign [.Attribute o f pos'] value pos) (Us X.K ta tv f):=by
 intro ZY s σ H D I h;refine abQ (thn (hv ZY s σ H _ I h) fun u s1 ⟨y,H1,I1,ry,q⟩=>thn (ha ZY s1 σ H1 _ I1 q) fun ov s2 ⟨x,H2,I2,rx,a,C,dx,fs,ex,ea,c,n,l,q2⟩=>?_) hs;subst ex;obtain rfl:ov=Vq a:=rx;exact Dz I2 ea c n l ry fun s3 I3=>⟨σ,_,I3,q2⟩
end
section
variable {X:Cx}{ZY:C1}{σ:St}{H:Hp}{s:U8}{A:V1}{E:C4}{Q:C4}{c:Value}{b:Bool}
inductive DR (K:Vi)(H:Hp):V->Value->Prop where
 | non:DR K H .non (.type "NoneType")
 | bl (x:Bool):DR K H (.bl x) (.type "bool")
 | int (i:Int):DR K H (.int i) (.type "int")
 | str (x:VB):DR K H (.str x) (.type "str")
 | flt (x:UInt64):DR K H (.flt x) (.type "float")
 | lst {a:Addr} {xs:List V} (e:H a=some (.lst xs)):DR K H (.ref a) (.type "list")
 | frz {a:Addr} {o:Xz} {xs:List V} (e:H a=some (.frz o (.lst xs))):DR K H (.ref a) (.type "list")
 | tup {a:Addr} {xs:List V} (e:H a=some (.tup xs)):DR K H (.ref a) (.type "tuple")
 | dK {a:Addr} {kvs:List (Key × V)} (e:H a=some (.dK kvs)):DR K H (.ref a) (.type "dict")
 | dT {a:Addr} {kvs:List (List Key × V)} (e:H a=some (.dT kvs)):DR K H (.ref a) (.type "dict")
 | ins {a C dx:Addr} {fs:List (VB × V)} (e:H a=some (.ins C dx fs)) (cl:Cls K C) (ha:Wu K (.ref C) "__class__" = some (some (.builtin "object.__class__")))
   (hn:PySem.W.specialIn K (.builtin "object.__class__") "__get__" = some (some (.builtin "getset_descriptor.__get__"))) (htk:PySem.W.takesIn K (.builtin "object.__class__")=some true)
   (hm:PySem.W.mroIn K C (.type "object")=some true):DR K H (.ref a) (.ref C)
def Ik {x:V}{u t:Value}(I:Inv X ZY σ H s)(rx:RelV x u)(ty:DR X.K H x t)(e:PySem.W.kitOne X.K t c=some b)(h:∀ tk,Q (.bool b) { s with toks:=tk }) :
  Vh (Vl X.prog X.w) A (call (.builtin "isinstance") [u,c]) Q E s:=by
 cases ty with
 | non=>cases (show u=WM from rx);exact Xi PySem.W.kitx_none I.kIn Yj e (fun z=>nomatch z) h
 | bl y=>cases (show u=aaN y from rx);exact Xi PySem.W.kitx_bool I.kIn Yj e (fun z=>nomatch z) h
 | int i=>obtain⟨t,q⟩:=(show ∃ t,u=X7 i t from rx);cases q;exact Xi PySem.W.kitx_int I.kIn Yj e (fun z=>nomatch z) h
 | str y=>obtain⟨t,q⟩:=(show ∃ t,u=abi y t from rx);cases q;exact Xi PySem.W.kitx_str I.kIn Yj e (fun z=>nomatch z) h
 | flt y=>obtain⟨t,q⟩:=(show ∃ t,u=Value.float y t from rx);cases q;exact Xi PySem.W.kitx_float I.kIn Yj e (fun z=>nomatch z) h
 | @lst a xs ea =>
  cases (show u=Vq a from rx);obtain⟨_,_,n,_,h1⟩:=(show dN X.prog X.w H s.heap a (.lst xs) from I.hok a _ ea);exact Xi PySem.W.kitx_list I.kIn ⟨_,h1,U⟩ e (fun z=>nomatch z) h
 | @frz a ob xs ea =>
  cases (show u=Vq a from rx);obtain⟨_,_,_,n,_,h1⟩:=(show dN X.prog X.w H s.heap a (.frz ob (.lst xs)) from I.hok a _ ea);exact Xi PySem.W.kitx_list I.kIn ⟨_,h1,U⟩ e (fun z=>nomatch z) h
 | @tup a xs ea =>
  cases (show u=Vq a from rx);obtain⟨_,_,_,p⟩:=(show dN X.prog X.w H s.heap a (.tup xs) from I.hok a _ ea);obtain⟨o,h1,h2,_⟩:=p;exact Xi PySem.W.kitx_tuple I.kIn ⟨o,h1,h2⟩ e (fun z=>nomatch z) h
 | @dK a kvs ea =>
  cases (show u=Vq a from rx);obtain⟨_,_,vs,_,p⟩:=(show dN X.prog X.w H s.heap a (.dK kvs) from I.hok a _ ea);obtain⟨o,es,ep,h1,h2,_⟩:=p;exact Xi PySem.W.kitx_dict I.kIn ⟨o,h1,h2.1⟩ e (fun z=>nomatch z) h
 | @dT a kvs ea =>
  cases (show u=Vq a from rx);obtain⟨_,_,xs,_,o,es,ep,h1,h2,_⟩:=(show dN X.prog X.w H s.heap a (.dT kvs) from I.hok a _ ea);exact Xi PySem.W.kitx_dict I.kIn ⟨o,h1,h2.1⟩ e (fun z=>nomatch z) h
 | @ins a C dx fs ea cl ha hn htk hm =>
  cases (show u=Vq a from rx);obtain⟨mA,O,_⟩:=uK I.hok ea;obtain⟨od,J,_⟩:=O.look;exact Xi (PySem.W.kitx_own (cl.get _) cl.hd ha hn htk hm) I.kIn J e (fun z=>nomatch z) h
end
structure d9 (k:Nat)(A:V1):Prop where
 hd:A.handled=none
 dp:A.depth+3 * k+5 < recursionLimit
 un:A.units+16 * k+200 < cLine
def d9.mono {j k:Nat}{A:V1}(r:d9 k A)(h:j<=k):d9 j A:=⟨r.hd,by have:=r.dp;lia,by have:=r.un;lia⟩
def d9.deeper {k:Nat}{A:V1}(r:d9 (k+1) A)(env:Env):d9 k (A.deeper env) :=
 ⟨r.hd,by have:=r.dp;show A.depth+1+3 * k+5 < _;lia,by have:=r.un;show A.units+3+16 * k+200 < _;lia⟩
def Dy {A:V1} {C:Addr} {us:C9} {kw:C0}:(A.under (.builtin "type.__call__" ⟨.ref C::us,kw⟩)).depth=A.depth+1:=by
 first | rfl | simp [Around.under,Code.weight,Code.isCreation,Code.isGuard,Code.isCaller,Code.frames,Code.isFrame,guardIds]
def Ej {A:V1} {C:Addr} {us:C9} {kw:C0}:(A.under (.builtin "type.__call__" ⟨.ref C::us,kw⟩)).units=A.units+1:=by
 first | rfl | simp [Around.under,Code.cUnits,Code.frames,Code.isFrame]
def d9.make {k:Nat} {A:V1} (r:d9 (k+1) A) (C:Addr) (us:C9) (kw:C0):d9 k (A.under (.builtin "type.__call__" ⟨.ref C::us,kw⟩)) :=
 ⟨r.hd,by have:=r.dp;rw[Dy];lia,by have:=r.un;rw[Ej];lia⟩
def d9.depth {k:Nat}{A:V1}(r:d9 k A):A.depth < recursionLimit:=by have:=r.dp;lia
def d9.kj {k:Nat}{A:V1}(r:d9 k A):A.units < cLine:=by have:=r.un;lia
def wM:TA:=fun _ H Q=>Q [] H
def o4 (ta:TE)(tr:TA):TA:=fun σ H Q=>ta σ H fun x H1=>tr σ H1 fun xs H2=>Q (x::xs) H2
section
variable {X:Cx}{e:Expr}{es:Do}{te:TE}{t:TA}{pos:YS}
def cQ:PA X [] wM:=fun _ _ _ _ H Q I h=>aay ⟨[],H,I,.nil,h⟩
def aq (ha:PE X e te)(hr:PA X es t)(hs:Vx (e::es) X.env=(false,Wy e X.env)::Vx es X.env:=by rfl):PA X (e::es) (o4 te t):=by
 intro pos ZY s σ H Q I h;rw[hs];show Vh _ _ (spliced ((false,Wy e X.env)::Xj pos (Vx es X.env))) _ _ s;refine aar (thn (ha ZY s σ H _ I h) fun u s1 ⟨x,H1,I1,r1,q1⟩=>?_);exact thn (hr pos ZY s1 σ H1 _ I1 q1) fun us s2 ⟨xs,H2,I2,r2,q2⟩=>⟨x::xs,H2,I2,.cons r1 r2,q2⟩
def Rn (t:TA):TE:=fun σ H Q=>t σ H fun xs H1=>xs.length<=sizeLine/\∀ p,H1 p=none->Q (.ref p) (upd H1 p (.tup xs))
def TQ (t:TA):TE:=fun σ H Q=>t σ H fun xs H1=>xs.length<=sizeLine/\∀ p,H1 p=none->Q (.ref p) (upd H1 p (.lst xs))
def aP {x1}(h:PA X es t):PE X (.Tuple es x1 pos) (Rn t):=by
 intro ZY s σ H Q I hq;refine wpAny_Tuple_spliced (thn (h pos ZY s σ H _ I hq) fun us s1 ⟨xs,H1,I1,r,z,q⟩=>⟨by rw[← r.length];exact z,?_⟩);have hf:H1 s1.heap.objs.size=none:=I1.hok.fresh (Vb _);refine⟨.ref s1.heap.objs.size,upd H1 s1.heap.objs.size (.tup xs),I1.laid (t':=s1.toks) (fun b u e=>U9 _ e) (Vb _) ?_,U,q _ hf⟩;exact⟨z,us,r,⟨_,Vn _ U,U,_,U⟩⟩
def bc (h:PA X es t):PE X (.List es pos) (TQ t):=by
 intro ZY s σ H Q I hq;refine wpAny_List_spliced (thn (h pos ZY s σ H _ I hq) fun us s1 ⟨xs,H1,I1,r,z,q⟩=>⟨by rw[← r.length];exact z,?_⟩);have hf:H1 s1.heap.objs.size=none:=I1.hok.fresh (Vb _);refine⟨.ref s1.heap.objs.size,upd H1 s1.heap.objs.size (.lst xs),I1.laid (t':=s1.toks) (fun b u e=>U9 _ e) (Vb _) ?_,U,q _ hf⟩;exact⟨z,us,0,r,Vn _ U⟩
end
abbrev Sp:=List V->Hp->VK->XK->Prop
abbrev CXT:=DB->Hp->U8->XK->C4
structure Jk (P:Vt)(w:V2)(K:Vi)(mg:VB->C5)(base:Wg)(A:V1)(outer:DB)(s:U8)(H:Hp):Prop where
 frames:A.frames=some outer
 mod:Mod K mg base
 bs:∀ b o,base.get? b=some o->s.heap.get? b=some o/\H b=none
 bsz:base.objs.size<=s.heap.objs.size
 uf:s.heap.FunFrames base outer
 frf:∀ b∈frs outer,H b=none
 hok:HOk P w H s.heap
 bare:aaz s.gens
def CE (outer:DB)(P:Vt)(w:V2)(H:Hp)(s:U8)(Q:VK)(u:Value)(s':U8):Prop :=
 ∃ v H',s'.os=s.os/\aaz s'.gens/\Un (frs outer) [] H H' s.heap s'.heap/\HOk P w H' s'.heap/\RelV v u/\Q v H'
def CR (CX:CXT)(outer:DB)(P:Vt)(w:V2)(H:Hp)(s:U8)(Q:VK)(E:XK)(r:aan)(s':U8):Prop :=
 match r with
 | .ok (.ret u)=>CE outer P w H s Q u s'
 | .ok _=>False
 | .error e=>CX outer H s E e s'
structure aZ (P:Vt)(w:V2)(K:Vi)(mg:VB->C5)(base:Wg)(CX:CXT)(k:Nat)(f:Addr)(fd:Wh)(ps:DF)(sp:Sp):Prop where
 len:∀ vs H Q E,sp vs H Q E->vs.length=ps.length
 run:∀ (A:V1) (outer:DB) (s:U8) (H:Hp) (args:Args) (us:C9) (vs:List V) (Q:VK) (E:XK),d9 k A->Jk P w K mg base A outer s H->aaU s fd args (ps.zip us)->Vals vs us->sp vs H Q E →
  WK (Vl P w) A (.call (.ref f) args) (CR CX outer P w H s Q E) s
def aZ.mono {P:Vt}{w:V2}{K:Vi}{mg:VB->C5}{base:Wg}{CX:CXT}{j k:Nat}{f:Addr}{fd:Wh}{ps:DF}{sp:Sp}(F:aZ P w K mg base CX j f fd ps sp)(h:j<=k) :
  aZ P w K mg base CX k f fd ps sp:=⟨F.len,fun A outer s H args us vs Q E hr=>F.run A outer s H args us vs Q E (hr.mono h)⟩
def aZ.imp {P:Vt}{w:V2}{K:Vi}{mg:VB->C5}{base:Wg}{CX:CXT}{k:Nat}{f:Addr}{fd:Wh}{ps:DF}{sp sp':Sp}(F:aZ P w K mg base CX k f fd ps sp)
  (h:∀ vs H Q E,sp' vs H Q E->sp vs H Q E):aZ P w K mg base CX k f fd ps sp' :=
 ⟨fun vs H Q E q=>F.len vs H Q E (h _ _ _ _ q),fun A outer s H args us vs Q E hr he hb hv hs=>F.run A outer s H args us vs Q E hr he hb hv (h _ _ _ _ hs)⟩
def Jk.make {P:Vt}{w:V2}{K:Vi}{mg:VB->C5}{base:Wg}{A:V1}{outer:DB}{s:U8}{H:Hp}(e:Jk P w K mg base A outer s H)(C:Addr)(us:C9)(kw:C0) :
  Jk P w K mg base (A.under (.builtin "type.__call__" ⟨.ref C::us,kw⟩)) outer s H:=⟨by first | exact e.frames | (simpa [Around.under,Code.envs,Code.isFrame,pushEnvs] using e.frames),e.mod,e.bs,e.bsz,e.uf,e.frf,e.hok,e.bare⟩
section
variable {X:Cx}{ZY:C1}{σ:St}{H:Hp}{s s':U8}
def Inv.env0 (I:Inv X ZY σ H s):Jk X.prog X.w X.K X.mg X.base X.A X.stack s H :=
 ⟨I.ok.frames,I.ok.mod,I.bs,VH I.ok.bsz I.sz,I.stack,I.zG,I.hok,I.bare⟩
def Inv.after {Q:VK}{u:Value}(I:Inv X ZY σ H s)(h:CE X.stack X.prog X.w H s Q u s'):EP X ZY σ Q u s':=by
 obtain⟨v,H',os,bare,un,hok,r,q⟩:=h;obtain⟨hh,g,d,t,os'⟩:=s';obtain rfl:os'=s.os:=os;exact⟨v,H',I.call (h':=hh) (g':=g) (d':=d) (t':=t) (ch:=[]) un hok bare (fun b z=>absurd z (by simp)),r,q⟩
end
def Gd (sp:Sp)(dvs:List V)(E:XK)(t:TA):TE:=fun σ H Q=>t σ H fun vs H1=>sp (vs++dvs) H1 Q E
def DN (C:Addr)(m:VB)(sp:Sp)(dvs:List V)(E:XK)(ta:TE)(t:TA):TE:=fun σ H Q=>ta σ H fun x H1=>∃ a dx fs,x = .ref a/\H1 a=some (.ins C dx fs)/\fs.lookup m=none ∧
 t σ H1 fun vs H2=>sp (x::(vs++dvs)) H2 Q E
def Jo (C:Addr)(sp:Sp)(dvs:List V)(E:XK)(t:TA):TE:=fun σ H Q=>t σ H fun vs H1=>∀ x dx,H1 x=none->H1 dx=none->dx≠x →
 sp (.ref x::(vs++dvs)) (upd (upd H1 dx (.own x)) x (.ins C dx [])) (fun v H2=>v = .non/\Q (.ref x) H2) E
def Binds (K:Vi)(fd:Wh)(ps:DF)(ds:C9):Prop :=
 ∀ (s:U8) (us:C9),K.In s.heap->(us++ds).length=ps.length->aaU s fd ⟨us,[]⟩ (ps.zip (us++ds))
def Binds.all {K:Vi}{fd:Wh}{ps:DF}(h:∀ us:C9,us.length=ps.length->YZ fd ⟨us,[]⟩=pure (ps.zip us)):Binds K fd ps []:=fun s us _ hl=>by
 rw[WR] at hl ⊢;exact .of_eq (h us hl)
def Passes (CX:CXT)(X:Cx)(E:XK):Prop:=∀ (ZY:C1) (σ:St) (H:Hp) (s:U8) (e:Value) (s':U8),Inv X ZY σ H s->CX X.stack H s E e s'->X.xe e s'
section
variable {X:Cx}{CX:CXT}{k:Nat}{f C:Addr}{fd:Wh}{ps:DF}{sp:Sp}{dvs:List V}{ds:C9}{E:XK}{x m:VB}{p pos apos:YS}{e o:Expr}{es:Do}{ta:TE}{t:TA}
def Cd {ZY:C1}{σ:St}{H:Hp}{s:U8}{Q:VK}{us:C9}{vs:List V}(F:aZ X.prog X.w X.K X.mg X.base CX k f fd ps sp)(hr:d9 k X.A)(hb:Binds X.K fd ps ds)(hd:Vals dvs ds)(hx:Passes CX X E)
  (I:Inv X ZY σ H s) (r:Vals vs us) (h:sp (vs++dvs) H Q E):Vh (Vl X.prog X.w) X.A (call (.ref f) us) (EP X ZY σ Q) X.xe s:=by
 have r2:Vals (vs++dvs) (us++ds):=r.append hd;have hl:(us++ds).length=ps.length:=by rw[← r2.length];exact F.len _ _ _ _ h
 refine YT (XR (F.run X.A X.stack s H ⟨us,[]⟩ (us++ds) (vs++dvs) Q E hr I.env0 (hb s us I.kIn hl) r2 h) fun r s' hq=>?_);cases r with
 | error e=>exact hx ZY σ H s e s' I hq
 | ok fl =>
  cases fl with
  | ret u=>exact I.after hq
  | next=>exact V9 hq
  | brk=>exact V9 hq
  | cont=>exact V9 hq
def HS (F:aZ X.prog X.w X.K X.mg X.base CX k f fd ps sp)(hr:d9 k X.A)(hg:Gl X x)(hm:X.mg x=some (.ref f))(hk:Xa X.K (.ref f)=true)(hb:Binds X.K fd ps ds)(hd:Vals dvs ds)(hx:Passes CX X E)
  (ha:PA X (e::es) t) (hdb:(x == ("__debug__" : VB))=false:=by decide) (he:Vx (e::es) X.env=(false,Wy e X.env)::Vx es X.env:=by rfl) (hpl:(Xj pos (Vx es X.env)).any (·.1)=false:=by rfl) :
  PE X (.Call (.Name x p) (e::es) [] pos) (Gd sp dvs E t):=by
 intro ZY s σ H Q I h;refine WL (jQ I hg hm ?_ hdb);refine Zy (h₀:=X.base) I.ok.mod.kin hk (thn (ha pos ZY s σ H _ I h) fun us s1 ⟨vs,H1,I1,r,q⟩=>⟨I1.kIn,?_⟩) he hpl;exact Cd F hr hb hd hx I1 r q
def Hn {pl:Sem Bool}(he:PE X o ta)(c:Cls X.K C)(hm:Meth X.K C m f)(F:aZ X.prog X.w X.K X.mg X.base CX k f fd ps sp)(hr:d9 k X.A)(hb:Binds X.K fd ps ds)(hd:Vals dvs ds)(hx:Passes CX X E)(ha:PA X (e::es) t)
  (hst:Vx (e::es) X.env=(false,Wy e X.env)::Vx es X.env:=by rfl) (hpl:(Xj pos (Vx es X.env)).any (·.1)=false:=by rfl)
  (ht:Wy (.Call (.Attribute o m apos) (e::es) [] pos) X.env=(do
   let ov ← Wy o X.env
   YJ apos.atName
   let (f,first) ← Zg [ov] (ZC ov m pl)
   aaF pos f first (Xj pos (Vx (e::es) X.env)) (Z2 pos (Yq [] X.env))):=by rfl) :
  PE X (.Call (.Attribute o m apos) (e::es) [] pos) (DN C m sp dvs E ta t):=by
 intro ZY s σ H Q I h;refine ZP (pl:=pl) (thn (he ZY s σ H _ I h) fun u s1 ⟨x,H1,I1,rx,a,dx,fs,ex,ea,l,q⟩=>?_) ht;subst ex;obtain rfl:u=Vq a:=rx;refine uD I1 ea c hm l ?_;refine Zy (first:=[.ref a]) (h₀:=X.base) I.ok.mod.kin hm.kp (thn (ha pos ZY s1 σ H1 _ I1 q) fun us s2 ⟨vs,H2,I2,r,q2⟩=>⟨I2.kIn,?_⟩) hst hpl;exact Cd (us:=.ref a::us) (vs:=.ref a::vs) F hr hb hd hx I2 (.cons U r) q2
def Bx {pl:Sem Bool}(he:PE X o ta)(c:Cls X.K C)(hm:Meth X.K C m f)(F:aZ X.prog X.w X.K X.mg X.base CX k f fd ps sp)(hr:d9 k X.A)(hb:Binds X.K fd ps ds)(hd:Vals dvs ds)(hx:Passes CX X E)
  (ht:Wy (.Call (.Attribute o m apos) [] [] pos) X.env=(do
   let ov ← Wy o X.env
   YJ apos.atName
   let (f,first) ← Zg [ov] (ZC ov m pl)
   aaF pos f first (Xj pos (Vx [] X.env)) (Z2 pos (Yq [] X.env))):=by rfl) :
  PE X (.Call (.Attribute o m apos) [] [] pos) (DN C m sp dvs E ta wM):=by
 intro ZY s σ H Q I h;refine ZP (pl:=pl) (thn (he ZY s σ H _ I h) fun u s1 ⟨x,H1,I1,rx,a,dx,fs,ex,ea,l,q⟩=>?_) ht;subst ex;obtain rfl:u=Vq a:=rx;refine uD I1 ea c hm l ?_;exact abm (first:=[.ref a]) I1.kIn hm.kp (Cd (us:=[.ref a]) (vs:=[.ref a]) F hr hb hd hx I1 (.cons U .nil) q)
structure Mk (K:Vi)(C f:Addr):Prop where
 makes:acg K C=true
 init:Wu K (.ref C) "__init__" = some (some (.ref f))
 fn:abL K (.ref f)=true
 kp:Xa K (.ref C)=true
def BR {ZY:C1}{σ:St}{H:Hp}{s:U8}{Q:VK}{us:C9}{vs:List V}(M:Mk X.K C f)(F:aZ X.prog X.w X.K X.mg X.base CX k f fd ps sp)(hr:d9 (k+1) X.A)(hb:Binds X.K fd ps ds)(hd:Vals dvs ds)
  (hx:Passes CX X E) (I:Inv X ZY σ H s) (r:Vals vs us)
  (h:∀ x dx,H x=none->H dx=none->dx≠x->sp (.ref x::(vs++dvs)) (upd (upd H dx (.own x)) x (.ins C dx [])) (fun v H2=>v = .non/\Q (.ref x) H2) E) :
  Vh (Vl X.prog X.w) X.A (call (.ref C) us) (EP X ZY σ Q) X.xe s:=by
 have hq:=h (s.heap.objs.size+1) s.heap.objs.size (I.hok.fresh (WY _)) (I.hok.fresh (Vb _)) (Vw (Xw _));have I2:=Inv.made (C:=C) I;have r2:Vals (V.ref (s.heap.objs.size+1)::(vs++dvs)) (Vq (s.heap.objs.size+1)::(us++ds)):=.cons U (r.append hd);have hl:(Vq (s.heap.objs.size+1)::us++ds).length=ps.length:=by
  have e:=r2.length;rw[F.len _ _ _ _ hq] at e;exact e.symm
 refine YT (Ld (f:=f) I.kIn M.makes M.init (beq_iff_eq.mp M.fn) (XR (F.run _ X.stack _ _ ⟨Vq (s.heap.objs.size+1)::us,[]⟩ (Vq (s.heap.objs.size+1)::(us++ds)) _ _ E (hr.make C us [])
  (I2.env0.make C us []) (hb _ (Vq (s.heap.objs.size+1)::us) I2.kIn hl) r2 hq) fun r s' hq'=>?_))
 cases r with
 | error e=>exact hx ZY σ _ _ e s' I2 hq'
 | ok fl =>
  cases fl with
  | ret u =>
   obtain⟨v,H',I3,rv,ev,q3⟩:=I2.after hq';subst ev;exact⟨rv,⟨V.ref (s.heap.objs.size+1),H',I3,U,q3⟩⟩
  | next=>exact V9 hq'
  | brk=>exact V9 hq'
  | cont=>exact V9 hq'
def Ni (M:Mk X.K C f)(F:aZ X.prog X.w X.K X.mg X.base CX k f fd ps sp)(hr:d9 (k+1) X.A)(hg:Gl X x)(hm:X.mg x=some (.ref C))(hb:Binds X.K fd ps ds)(hd:Vals dvs ds)(hx:Passes CX X E)
  (ha:PA X (e::es) t) (hdb:(x == ("__debug__" : VB))=false:=by decide) (he:Vx (e::es) X.env=(false,Wy e X.env)::Vx es X.env:=by rfl) (hpl:(Xj pos (Vx es X.env)).any (·.1)=false:=by rfl) :
  PE X (.Call (.Name x p) (e::es) [] pos) (Jo C sp dvs E t):=by
 intro ZY s σ H Q I h;refine WL (jQ I hg hm ?_ hdb);refine Zy (h₀:=X.base) I.ok.mod.kin M.kp (thn (ha pos ZY s σ H _ I h) fun us s1 ⟨vs,H1,I1,r,q⟩=>⟨I1.kIn,?_⟩) he hpl;exact BR M F hr hb hd hx I1 r q
def Jp (M:Mk X.K C f)(F:aZ X.prog X.w X.K X.mg X.base CX k f fd ps sp)(hr:d9 (k+1) X.A)(hg:Gl X x)(hm:X.mg x=some (.ref C))(hb:Binds X.K fd ps ds)(hd:Vals dvs ds)(hx:Passes CX X E)
  (hdb:(x == ("__debug__" : VB))=false:=by decide):PE X (.Call (.Name x p) [] [] pos) (Jo C sp dvs E wM):=by
 intro ZY s σ H Q I h;refine WL (jQ I hg hm ?_ hdb);exact abm I.kIn M.kp (BR (us:=[]) M F hr hb hd hx I .nil h)
end
section
variable {X:Cx}{CX:CXT}{k:Nat}{f C:Addr}{fd:Wh}{ps ks:DF}{sp:Sp}{E:XK}{x m:VB}{p pos apos kpos:YS}{e o:Expr}{es:Do}{kws:C6}{te ta:TE}{t tk:TA}{nm:Option VB}
variable {g:C9->C9->C9}{gV:List V->List V->List V}
end
structure aD (N P:DF)(sc:XF):Prop where
 kind:sc.kind = .function
 co:sc.isCoroutine=false
 gen:sc.isGenerator=false
 nd:N.Nodup
 pre:N.take P.length=P
 par:∀ x∈P,sc.names.lookup x=some .local∨sc.names.lookup x=some .cell
 nofree:∀ y∈sc.names,y.2≠.free
theorem wW {kindOf:VB->Option aap}{x:VB}:∀ {binds:C0} {m:VB->C5},(∀ v,(x,v) ∉ binds)->bindL kindOf binds m x=m x
 | [],_,_=>rfl
 | (n,v)::r,m,h=>by
  unfold bindL;rw[wW fun w hw=>h w (Vp _ hw)];split
  ·have:x≠n:=by rintro rfl;exact h v Vm
   simp [this]
  ·rfl
theorem wu {kindOf:VB->Option aap}{x:VB}:∀ {binds:C0} {m:VB->C5},(∀ v,(x,v) ∉ binds)->bindC kindOf binds m x=m x
 | [],_,_=>rfl
 | (n,v)::r,m,h=>by
  unfold bindC;rw[wu fun w hw=>h w (Vp _ hw)];split;{rfl}
  ·have:x≠n:=by rintro rfl;exact h v Vm
   simp [this]
theorem xf {kindOf:VB->Option aap}{x:VB}{v:Value}:∀ {P:DF} {vs:C9} {i:Nat} {m:VB->C5},P.Nodup->P[i]? = some x->vs[i]? = some v->kindOf x=some .local →
  bindL kindOf (P.zip vs) m x=some v
 | [],_,_,_,_,h,_,_=>by simp at h
 | _::_,[],_,_,_,_,h,_=>by simp at h
 | p::P,w::vs,0,m,nd,h1,h2,hk=>by
  simp at h1 h2;subst h1;subst h2;show bindL kindOf ((p,w)::P.zip vs) m p=_;unfold bindL;rw[wW fun v hv=>(List.nodup_cons.mp nd).1 (aa1 hv).1,if_pos hk];simp
 | p::P,w::vs,i+1,m,nd,h1,h2,hk=>by
  show bindL kindOf ((p,w)::P.zip vs) m x=_;unfold bindL;exact xf (i:=i) (List.nodup_cons.mp nd).2 (by simpa using h1) (by simpa using h2) hk
theorem v9 {kindOf:VB->Option aap}{x:VB}{v:Value}:∀ {P:DF} {vs:C9} {i:Nat} {m:VB->C5},P.Nodup->P[i]? = some x->vs[i]? = some v->kindOf x≠some .local →
  bindC kindOf (P.zip vs) m x=some v
 | [],_,_,_,_,h,_,_=>by simp at h
 | _::_,[],_,_,_,_,h,_=>by simp at h
 | p::P,w::vs,0,m,nd,h1,h2,hk=>by
  simp at h1 h2;subst h1;subst h2;show bindC kindOf ((p,w)::P.zip vs) m p=_;unfold bindC;rw[wu fun v hv=>(List.nodup_cons.mp nd).1 (aa1 hv).1,if_neg hk];simp
 | p::P,w::vs,i+1,m,nd,h1,h2,hk=>by
  show bindC kindOf ((p,w)::P.zip vs) m x=_;unfold bindC;exact v9 (i:=i) (List.nodup_cons.mp nd).2 (by simpa using h1) (by simpa using h2) hk
def start (N:DF)(vs:List V):St:=vs.map some++VM (N.length - vs.length) none
def wG (CX:CXT)(P:Vt)(w:V2)(K:Vi)(mg:VB->C5)(base:Wg)(N:DF)(qual:VB)(scope:XF)(f:Addr)(cd:Value)(A:V1)(outer:DB)(s:U8)(H:Hp)(E:XK):Cx where
 prog:=P
 w:=w
 K:=K
 mg:=mg
 base:=base
 A:=A.deeper (envOfC qual scope s.heap.objs.size f cd)
 N:=N
 s₀:=s
 H₀:=H
 env:=envOfC qual scope s.heap.objs.size f cd
 outer:=outer
 stack:=envOfC qual scope s.heap.objs.size f cd::outer
 ex:=[]
 calm:=true
 fn:=fun _=>true
 pn:=[]
 xe:=fun e s'=>Vh (Vl P w) (A.deeper (envOfC qual scope s.heap.objs.size f cd)) (leaving (envOfC qual scope s.heap.objs.size f cd) e) (fun _ s''=>CX outer H s E e s'') (fun e' s''=>CX outer H s E e' s'') s'
def Cr {sc:XF}{n:Nat}{x:VB}(h:sc.names.lookup x=some .cell):∃ c,(cellsFrom n sc.names []).lookup x=some c:=by
 have q:=PySem.W.cellsFrom_some sc.names n [] (.inl h);exact Option.isSome_iff_exists.mp q
def yJ {CX:CXT}{P:Vt}{w:V2}{K:Vi}{mg:VB->C5}{base:Wg}{N ps:DF}{qual:VB}{scope:XF}{f:Addr}{cd:Value}{A:V1}{outer:DB}{s s1:U8}{H:Hp}{E:XK}{us:C9}{vs:List V}
  (S:aD N ps scope) (hd:A.handled=none) (e0:Jk P w K mg base A outer s H) (hl:vs.length=ps.length) (r:Vals vs us)
  (x:InCallC s s.heap.objs.size (bindL (envOfC qual scope s.heap.objs.size f cd).kindOf (ps.zip us) fun _=>none) (cellsFrom (s.heap.objs.size+1) scope.names []) (bindC (envOfC qual scope s.heap.objs.size f cd).kindOf (ps.zip us) fun _=>none) s1) :
  Inv (wG CX P w K mg base N qual scope f cd A outer s H E) [] (start N vs) H s1:=by
 have hpl:ps.length<=N.length:=by have:=congrArg Z5 S.pre;rw[Vs] at this;lia
 obtain⟨h1,tk,rfl,hk⟩:=x.done;have noA:∀ b:Addr,b ∉ (wG CX P w K mg base N qual scope f cd A outer s H E).ex:=fun b z=>absurd (show b∈([]:Db) from z) (by simp)
 refine⟨⟨e0.mod,S.kind,U,U,Vb _,fun y z c h1 h2=>?_,fun y hy=>?_,fun y c _ h=>?_,fun _=>hd,Around.frames_deeper e0.frames,.inr ⟨U,U⟩,fun b z=>absurd z (noA b),e0.bs,e0.bsz,fun b _ _=>noA b,fun b z=>absurd z (noA b),e0.uf,e0.frf⟩,
  rfl,e0.bare,Un.kept hk,⟨_,x.toInCall.ns,fun i y v h1 h2 h3=>?_⟩,fun y c h=>⟨_,x.cell y c h⟩,e0.hok.fresh (Vb _),fun y c h=>?_,fun p hp=>absurd (show p∈([]:C1) from hp) (by simp),e0.hok.kept hk,?_⟩
 ·exact name_of_addr x.apart (Ws h1) (Ws h2)
 ·have hy:scope.names.lookup y=some .cell∨scope.names.lookup y=some .free:=hy;rcases hy with hy | hy;{exact Cr hy};{exact absurd U (S.nofree _ (Ws hy))}
 ·exact Xb (x.above y c (Ws h))
 ·have hi:i < vs.length:=by
   unfold start at h2;by_cases hi:i < vs.length;{exact hi};{rw[Zc (by simpa using hi)] at h2;rw[aaI] at h2;split at h2 <;> cases h2}
  have ha:vs[i]? = some v:=by
   unfold start at h2;rw[List.getElem?_append_left (by simpa using hi),Vr] at h2;cases e:vs[i]? with
   | none=>rw[e] at h2;cases h2
   | some a=>rw[e] at h2;cases h2;rfl
  obtain⟨u,hu,rv⟩:=r.get ha;have hp:ps[i]? = some y:=by
   rw[← S.pre,List.getElem?_take_of_lt (by lia)];exact h1
  have ndP:ps.Nodup:=by rw[← S.pre];exact S.nd.sublist (List.take_sublist _ _)
  refine⟨u,rv,?_⟩;rcases S.par y (Vy hp) with k | k;{exact .inl ⟨k,xf ndP hp hu k⟩};{obtain⟨c,e⟩:=Cr (n:=s.heap.objs.size+1) k;refine .inr ⟨.inl k,c,e,?_⟩;have q:=x.cell y c e;rw[v9 ndP hp hu (by show scope.names.lookup y≠_;rw[k];decide)] at q;exact q}
 ·exact e0.hok.fresh (Xb (x.above y c (Ws h)))
 ·unfold start;show _=N.length;rw[Vf,U7,YG];lia
def M6 {CX:CXT}{P:Vt}{w:V2}{K:Vi}{mg:VB->C5}{base:Wg}{k:Nat}{f:Addr}{name qual:VB}{params:abj}{body:DA}{scope:XF}{dV kV doc pm cdv ct oc:Value}{an od:C7}
  {osl:Array (C5)} {N ps:DF} {sp:Sp} (lk:K.lookup f=some ⟨oc,od,.func (Yg name qual params body scope dV kV doc pm an cdv ct),osl⟩) (hcd:Y9 K cdv qual=true) (S:aD N ps scope)
  (len:∀ vs H Q E,sp vs H Q E->vs.length=ps.length)
  (hbody:∀ (A:V1) (outer:DB) (s:U8) (H:Hp) (vs:List V) (Q:VK) (E:XK),d9 k (A.deeper (envOfC qual scope s.heap.objs.size f cdv))->sp vs H Q E →
   ∃ t,PSs (wG CX P w K mg base N qual scope f cdv A outer s H E) body t/\t { nx:=fun _ H'=>Q .non H',rt:=Q } (start N vs) H) :
  aZ P w K mg base CX (k+1) f (Yg name qual params body scope dV kV doc pm an cdv ct) ps sp:=by
 refine⟨len,fun A outer s H args us vs Q E hr e0 hb r hsp=>?_⟩;have hl:=len _ _ _ _ hsp;have KX:K.In s.heap:=e0.mod.kin.keeps fun b o e=>(e0.bs b o e).1;have lim:s.heap.NoLimit:=e0.mod.nolimit.keeps fun b o e=>(e0.bs b o e).1;have hkind:∀ y∈ps.zip us,scope.names.lookup y.1=some .local∨(scope.names.lookup y.1=some .cell/\((cellsFrom (s.heap.objs.size+1) scope.names []).lookup y.1).isSome=true):=fun⟨n,v⟩ hy=>by
  rcases S.par n (aa1 hy).1 with q | q;{exact .inl q};{exact .inr ⟨q,PySem.W.cellsFrom_some _ _ _ (.inl q)⟩}
 refine codeAny_call_function hr.depth (KX _ _ lk) U S.co S.gen U (PySem.W.codeRec_of KX hcd) (hb _ _ _ _ ?_);refine wpAny_newFunctionEnv_cells S.kind hkind fun env he s1 x=>?_;subst he;refine⟨lim.keeps x.toInCall.keep,codeAny_func ?_⟩;obtain⟨t,ht,hq⟩:=hbody A outer s H vs Q E (hr.deeper _) hsp;have I:Inv (wG CX P w K mg base N qual scope f cdv A outer s H E) [] (start N vs) H s1:=yJ S hr.hd e0 hl r x;refine Wc (ht [] s1 (start N vs) H _ I hq) (fun fl s' hs=>?_) fun e s' hs=>hs;have fin:∀ {σ':St} {H':Hp} {v:V} {u:Value},Inv (wG CX P w K mg base N qual scope f cdv A outer s H E) [] σ' H' s'->RelV v u->Q v H'->CE outer P w H s Q u s' :=
  fun {σ' H' v u} J rv q=>⟨v,H',J.os,J.bare,J.base,J.hok,rv,q⟩
 cases fl with
 | ret u =>
  obtain⟨v,σ',H',J,rv,q⟩:=hs;exact fin J rv q
 | next =>
  obtain⟨σ',H',J,q⟩:=hs;exact fin (v:=V.non) (u:=WM) J U q
 | brk =>
  obtain⟨_,_,_,q⟩:=hs;exact V9 q
 | cont =>
  obtain⟨_,_,_,q⟩:=hs;exact V9 q
section
variable {X:Cx}{x:VB}{p pos:YS}{e:Expr}{es:Do}{t:TA}{id T:String}{r:List V->Hp->VK->Prop}
def tCB (r:List V->Hp->VK->Prop)(t:TA):TE:=fun σ H Q=>t σ H fun vs H1=>r vs H1 Q
def aN (hc:fY X (.builtin id) r) (hg:Gl X x) (hm:X.mg x=none) (hv:We x=some (.builtin id)) (ha:PA X (e::es) t) (hn:x≠"__name__":=by decide) (hdb:(x == ("__debug__" : VB))=false:=by decide)
  (he:Vx (e::es) X.env=(false,Wy e X.env)::Vx es X.env:=by rfl) (hpl:(Xj pos (Vx es X.env)).any (·.1)=false:=by rfl):PE X (.Call (.Name x p) (e::es) [] pos) (tCB r t):=by
 intro ZY s σ H Q I h;refine WL (kO I hg hm hv ?_ hn hdb);exact abY (thn (ha pos ZY s σ H _ I h) fun us s1 ⟨vs,H1,I1,r1,q1⟩=>hc ZY s1 σ H1 vs us Q I1 r1 q1) he hpl
def aW (hc:fY X (.type T) r) (hg:Gl X x) (hm:X.mg x=none) (hv:We x=some (.type T)) (ha:PA X (e::es) t) (hn:x≠"__name__":=by decide) (hdb:(x == ("__debug__" : VB))=false:=by decide)
  (he:Vx (e::es) X.env=(false,Wy e X.env)::Vx es X.env:=by rfl) (hpl:(Xj pos (Vx es X.env)).any (·.1)=false:=by rfl):PE X (.Call (.Name x p) (e::es) [] pos) (tCB r t):=by
 intro ZY s σ H Q I h;refine WL (kO I hg hm hv ?_ hn hdb);exact XS (thn (ha pos ZY s σ H _ I h) fun us s1 ⟨vs,H1,I1,r1,q1⟩=>hc ZY s1 σ H1 vs us Q I1 r1 q1) he hpl
end
end L2
namespace HT
open PySem PyProof.Rows
section
open PySem.SeqAt
open PySem.AutoSeq1 (wpAny_loadPart')
open PySem.MeetsSeq PySem.MeetsSeq2 PySem.MeetsSeq3
end
section
variable {prog:Vt}{w:V2}{A:V1}{E:C4}{s:U8}
def Oc {t b:Addr}{vs ws:C9}{Q:C4}(ht:IsTup s.heap t vs.toArray)(hb:IsTup s.heap b ws.toArray)(hv:vs≠[])
  (h1:ws=[]->Q (.ref t) s) (h2:ws≠[]->Q (.ref s.heap.objs.size) { s with heap:=s.heap.push { cls:=.type "tuple",data:=.seq (vs++ws).toArray } })
  (hsz:vs.length+ws.length<=sizeLine):Vh (Vl prog w) A (Zr .Add (.ref t) (.ref b)) Q E s:=by
 obtain⟨⟨cls,dd,data,sl⟩,ho,hc,n,hd⟩:=id ht;obtain⟨⟨cls2,dd2,data2,sl2⟩,ho2,hc2,n2,hd2⟩:=id hb;simp only at hc hd hc2 hd2;subst hc hd hc2 hd2;have e:vs.toArray++ws.toArray=(vs++ws).toArray:=by simp
 by_cases hw:ws=[]
 ·exact concat_meets ⟨_,ho,U⟩ ⟨_,ho2,U⟩ abW seq_tuple_add aaO aaG (aaB _ _)
   (tuple_addW1 t b vs.toArray ws.toArray n n2 dd dd2 sl sl2 (by simpa using hv) (by simp [hw])) ⟨ho,ho2,h1 hw⟩
 ·refine concat_meets ⟨_,ho,U⟩ ⟨_,ho2,U⟩ abW seq_tuple_add aaO aaG (aaB _ _)
   (tuple_addW2 t b vs.toArray ws.toArray n n2 dd dd2 sl sl2 (by simpa using hv) (by simpa using hw) (by rw[Vo,Vo];exact hsz)) ⟨ho,ho2,?_⟩
  rw[e];exact h2 hw
def sIx (n d:Nat):Da->Nat
 | none=>d
 | some v=>if v < 0 then (v+(n:Int)).toNat else min v.toNat n
def BX (n d:Nat):sIx n d none=d:=rfl
def uM (n d k:Nat):sIx n d (some (k:Int))=min k n:=by
 show (if (k:Int) < 0 then ((k:Int)+(n:Int)).toNat else min (k:Int).toNat n)=min k n
 rw[if_neg (by lia),VL]
def Rp (n d:Nat)(hd:d<=n)(o:Da):sIx n d o<=n:=by
 cases o with
 | none=>exact hd
 | some v =>
  show (if v < 0 then (v+(n:Int)).toNat else min v.toNat n)<=n
  by_cases hv:v < 0;{rw[if_pos hv];lia};{rw[if_neg hv];exact Nat.min_le_right _ _}
def HJ (v:Int)(n d:Nat):(if v < 0 then max (v+(n:Int)) 0 else min v (n:Int))=((sIx n d (some v):Nat):Int):=by
 show (if v < 0 then max (v+(n:Int)) 0 else min v (n:Int))=(((if v < 0 then (v+(n:Int)).toNat else min v.toNat n):Nat):Int)
 by_cases hv:v < 0;{simp only[if_pos hv];lia};{simp only[if_neg hv];lia}
def CZ (lo hi:Da)(n:Nat):aau lo hi 1 (n:Int)=(((sIx n 0 lo:Nat):Int),((sIx n n hi:Nat):Int)):=by
 have h1:¬ ((1:Int) < 0):=by lia
 unfold aau;simp only[h1,if_false];refine Prod.ext ?_ ?_
 ·cases lo with
  | none=>rfl
  | some v=>exact HJ v n 0
 ·cases hi with
  | none=>rfl
  | some v=>exact HJ v n n
def Er (i j:Nat):Zm (i:Int) (j:Int) 1=j - i:=by
 unfold Zm;have h1:(1:Int) > 0:=by lia
 simp only[h1,if_true,Int.ediv_one];split <;> lia
def uB {v:Value}{o:Da}{Q:Da->U8->Prop}(p:ab5 v o)(h:Q o s):Vh (Vl prog w) A (Builtin.Slice.slicePartIndex v) Q E s:=by
 cases p with
 | none=>exact slicePart_none h
 | int i t=>exact slicePart_int h
def pW {sl:Addr}{vl vu:Value}{lo hi:Da}{n:Nat}{Q:Int × Int × Nat->U8->Prop}(hs:s.heap.IsSliceOf sl vl vu .none)(pl:ab5 vl lo)(pu:ab5 vu hi)
  (h:Q (((sIx n 0 lo:Nat):Int),1,sIx n n hi - sIx n 0 lo) s):Vh (Vl prog w) A (Builtin.Slice.sliceApplied (.ref sl) (pure (n:Int))) Q E s:=by
 obtain⟨os,hos,hcs,hds⟩:=id hs;unfold Builtin.Slice.sliceApplied Builtin.Slice.sliceFields;refine U6 (U6 (X5 hos hds (x:=vl) U (U6 (X5 hos hds (x:=vu) U (U6 (X5 hos hds (x:=.none) U (Va ?_)))))));refine U6 (slicePart_none ?_);show Vh _ _ (if ((1:Int) == 0)=true then _ else _) _ _ s
 rw[if_neg (by decide)];refine U6 (uB pl (U6 (uB pu (U6 (Va ?_)))));show Vh _ _ (match aau lo hi 1 (n:Int) with | (lo,hi)=>pure (lo,(1:Int),Zm lo hi 1)) _ _ s
 rw[CZ lo hi n];show Vh _ _ (pure (((sIx n 0 lo:Nat):Int),(1:Int),Zm ((sIx n 0 lo:Nat):Int) ((sIx n n hi:Nat):Int) 1)) _ _ s;rw[Er];exact Va h
def JT (xs:Array Value)(i k:Nat):((Wx k).filterMap fun (m:Nat)=>xs[((i:Int)+(m:Int) * 1).toNat]?).toArray=((xs.toList.drop i).take k).toArray:=by
 have e:(fun (m:Nat)=>xs[((i:Int)+(m:Int) * 1).toNat]?)=fun m=>xs[i+m]?:=by
  funext m;have:((i:Int)+(m:Int) * 1).toNat=i+m:=by lia
  rw[this]
 rw[e];have:=pick_run xs i k;rw[abA] at this;have e2:((fun x=>xs[x]?) ∘ fun x=>i+x)=fun m=>xs[i+m]?:=rfl;rw[e2] at this;rw[this]
def oK {t sl:Addr}{items:Array Value}{vl vu:Value}{lo hi:Da}{Q:C4}(ht:IsTup s.heap t items)(hs:s.heap.IsSliceOf sl vl vu .none)(pl:ab5 vl lo)(pu:ab5 vu hi)
  (hw:¬ (sIx items.size 0 lo=0/\sIx items.size items.size hi=items.size))
  (h:Q (.ref s.heap.objs.size) { s with heap:=s.heap.push { cls:=.type "tuple",data:=.seq ((items.toList.drop (sIx items.size 0 lo)).take (sIx items.size items.size hi - sIx items.size 0 lo)).toArray } })
  (hsz:items.size<=sizeLine):Vh (Vl prog w) A (abg (.ref t) (.ref sl)) Q E s:=by
 have htake:sizeOk (.seq ((items.toList.drop (sIx items.size 0 lo)).take (sIx items.size items.size hi - sIx items.size 0 lo)).toArray):=by
  show ((items.toList.drop (sIx items.size 0 lo)).take (sIx items.size items.size hi - sIx items.size 0 lo)).toArray.size<=sizeLine;rw[Vo,Vs,Zi,Wf];lia
 have hj:sIx items.size items.size hi<=items.size:=Rp _ _ (Vb _) hi;obtain⟨os,hos,hcs,hds⟩:=id hs;have hTs:s.TypeIs (.ref sl) "slice":=⟨os,hos,hcs⟩;unfold abg
 try with_reducible refine Ww ?_
 first | refine U6 (Va ?_) | skip
 refine U6 (wpAny_sequenceKey ht.typeIs (by decide) ?_)
 refine U6 (XD (name:=ZG "__getitem__") ht.typeIs abR
  (WW abR ht.typeIs entry_tuple_getitem ?_ (args_tuple_getitem _ _)))
 show Vh _ _ (Builtin.Tuple.tupleItemsOf (.ref t) >>= _) _ _ s;refine U6 (tupleItemsOf_ ht ?_);refine U6 (abC hTs ?_);rw[if_pos (by decide)];refine U6 (pW hs pl pu ?_);have hno:¬ ((((sIx items.size 0 lo:Nat):Int) == 0 && (1:Int) == 1 && (sIx items.size items.size hi - sIx items.size 0 lo) == items.size)=true):=by
  intro q;rw[WX,WX] at q;have q1:((sIx items.size 0 lo:Nat):Int)=0:=eq_of_beq q.1.1;have q2:sIx items.size items.size hi - sIx items.size 0 lo=items.size:=eq_of_beq q.2;exact hw ⟨by lia,by lia⟩
 show Vh _ _ (if (((sIx items.size 0 lo:Nat):Int) == 0 && (1:Int) == 1 && (sIx items.size items.size hi - sIx items.size 0 lo) == items.size)=true then _ else _) _ _ s
 rw[if_neg hno,JT]
 first
  | exact U6 (m:=Zt _) (V7 (Va ⟨_,rfl,Va h⟩) htake)
  | exact U6 (m:=Zt _) (V7 (U6 (Va (Va ⟨_,rfl,Va h⟩))) htake)
  | exact U6 (U6 (m:=Zt _) (V7 (Va (Va ⟨_,rfl,Va h⟩)) htake))
  | exact U6 (U6 (m:=Zt _) (V7 (Va ⟨_,rfl,Va h⟩) htake))
end
end HT
namespace L2
open PySem PySem.Spec PyProof.Rows
abbrev TO:=St->Hp->(Da->Hp->Prop)->Prop
def PO (X:Cx)(e:Option Expr)(t:TO):Prop :=
 ∀ (ZY:C1) (s:U8) (σ:St) (H:Hp) (Q:Da->Hp->Prop),Inv X ZY σ H s->t σ H Q →
  Vh (Vl X.prog X.w) X.A (evalPart e X.env) (fun u s'=>∃ o H',Inv X ZY σ H' s'/\ab5 u o/\Q o H') X.xe s
def rY:TO:=fun _ H Q=>Q none H
def HY (t:TE):TO:=fun σ H Q=>t σ H fun x H1=>∃ i,x = .int i/\Q (some i) H1
def intsAre_of {ns:DC}:∀ {us:C9},Vals (ns.map V.int) us->Wv us ns:=by
 induction ns with
 | nil=>intro us r;rw[List.map_nil] at r;cases r;exact .nil
 | cons n ns ih =>
  intro us r;rw[Wk] at r;cases r with
  | cons r1 r2 =>
   obtain⟨t,e⟩:=r1;subst e;exact .cons n t (ih r2)
section
variable {X:Cx}{e:Expr}{te:TE}{lo hi:Option Expr}{tl th:TO}{pos p2:YS}
def qW:PO X none rY:=by
 intro ZY s σ H Q I h;rw[evalPart_none];exact Va ⟨none,H,I,.none,h⟩
def oY (h:PE X e te):PO X (some e) (HY te):=by
 intro ZY s σ H Q I hw;rw[evalPart_some];refine thn (h ZY s σ H _ I hw) fun u s1 ⟨x,H1,I1,r1,q1⟩=>?_;obtain⟨i,rfl,q⟩:=q1;obtain⟨t,rfl⟩:=r1;exact⟨some i,H1,I1,.int i t,q⟩
def SlR (X:Cx)(r:V->Da->Da->Hp->VK->Prop):Prop :=
 ∀ (ZY:C1) (s:U8) (σ:St) (H:Hp) (x:V) (v vl vu:Value) (lo hi:Da) (sl:Addr) (Q:VK),Inv X ZY σ H s->RelV x v->s.heap.IsSliceOf sl vl vu .none->ab5 vl lo->ab5 vu hi->r x lo hi H Q →
  ∃ T id,aak (.type T) "__getitem__" = pure (some (.builtin id))/\s.TypeIs v T/\Vh (Vl X.prog X.w) X.A (abg v (.ref sl)) (EP X ZY σ Q) X.xe s
def tSl (r:V->Da->Da->Hp->VK->Prop)(te:TE)(tl th:TO):TE:=fun σ H Q=>te σ H fun x H1=>tl σ H1 fun l H2=>th σ H2 fun u H3=>r x l u H3 Q
def mW {r:V->Da->Da->Hp->VK->Prop}(hr:SlR X r)(he:PE X e te)(hl:PO X lo tl)(hu:PO X hi th):PE X (.Subscript e (.Slice lo hi none p2) pos) (tSl r te tl th):=by
 intro ZY s σ H Q I h;refine Subscript_ (thn (he ZY s σ H _ I h) fun v s1 ⟨x,H1,I1,r1,q1⟩=>?_);refine wpAny_Slice (thn (hl ZY s1 σ H1 _ I1 q1) fun vl s2 ⟨l,H2,I2,pl,q2⟩=>thn (hu ZY s2 σ H2 _ I2 q2) fun vu s3 ⟨u,H3,I3,pu,q3⟩=>?_);rw[evalPart_none];refine Va ?_;have I4:Inv X ZY σ H3 { s3 with heap:=s3.heap.push { cls:=.type "slice",data:=.fields #[vl,vu,.none] } }:=I3.kept (t':=s3.toks) fun b ob q=>U9 _ q;obtain⟨T,id,hT,ht,hg⟩:=hr ZY { s3 with heap:=s3.heap.push { cls:=.type "slice",data:=.fields #[vl,vu,.none] } } σ H3 x v vl vu l u s3.heap.objs.size Q I4 r1 (Heap.IsSliceOf.new ..) pl pu q3;show Vh (Vl X.prog X.w) X.A (abr e (.Slice lo hi none p2) v (.ref s3.heap.objs.size)) (EP X ZY σ Q) X.xe { s3 with heap:=s3.heap.push { cls:=.type "slice",data:=.fields #[vl,vu,.none] } };exact tail_any (ops:=[.ref s3.heap.objs.size,v]) ht hT hg (by with_unfolding_all rfl)
def uP (xs:List V)(lo hi:Da):List V:=(xs.drop (HT.sIx xs.length 0 lo)).take (HT.sIx xs.length xs.length hi - HT.sIx xs.length 0 lo)
def rC (xs:List V)(lo hi:Da):(uP xs lo hi).length<=xs.length:=by
 unfold uP;rw[Vs,Zi];lia
inductive JQ (K:Vi)(x:V)(lo:Da)(hi:Da)(H:Hp)(Q:VK):Prop where
 | mk (a:Addr) (xs:List V) (_:x = .ref a) (_:SqT K H a xs) (_:¬ (HT.sIx xs.length 0 lo=0/\HT.sIx xs.length xs.length hi=xs.length)) (_:∀ p,H p=none->Q (.ref p) (upd H p (.tup (uP xs lo hi))))
def Cy:SlR X (JQ X.K):=by
 intro ZY s σ H x v vl vu lo hi sl Q I rx hs pl pu h;obtain⟨a,xs,rfl,hx,hw,q⟩:=h;cases rx;obtain⟨its,r,ht,hz⟩:=I.tuple hx;have hlen:its.toArray.size=xs.length:=by rw[Vo];exact r.length.symm
 refine⟨"tuple",_,PyProof.Rows.slot_tuple_getitem.lookup,ht.typeIs,?_⟩;refine HT.oK ht hs pl pu (by rw[hlen];exact hw) ?_ (by rw[hlen];exact hz);rw[hlen];refine⟨.ref s.heap.objs.size,_,I.laid (t':=s.toks) (o:=.tup (uP xs lo hi)) (fun b ob q=>U9 _ q) (Vb _) ?_,U,q _ (I.hok.fresh (Vb _))⟩;exact⟨VH (rC xs lo hi) hz,_,(r.drop (HT.sIx xs.length 0 lo)).take (HT.sIx xs.length xs.length hi - HT.sIx xs.length 0 lo),IsTup.new _ _⟩
def S6 (K:Vi):R2:=fun x y H Q=>∃ a b xs ys,x = .ref a/\y = .ref b/\SqT K H a xs/\SqT K H b ys/\xs≠[]/\xs.length+ys.length<=sizeLine ∧
 (ys=[]->Q (.ref a) H)/\(ys≠[]->∀ p,H p=none->Q (.ref p) (upd H p (.tup (xs++ys))))
def Vals.yZ {xs:List V}{us:C9}(r:Vals xs us):us=[] ↔ xs=[]:=by
 cases r with
 | nil=>simp
 | cons _ _=>simp
def Pj:OpR X (Zr .Add) (S6 X.K):=by
 intro ZY s σ H x y v u Q I rx ry h;obtain⟨a,b,xs,ys,rfl,rfl,ha,hb,hx,hz,q1,q2⟩:=h;cases rx;cases ry;obtain⟨its,r1,p1,_⟩:=I.tuple ha;obtain⟨its2,r2,p2,_⟩:=I.tuple hb;refine HT.Oc p1 p2 (fun z=>hx (r1.yZ.mp z)) (fun z=>⟨.ref a,H,I,U,q1 (r2.yZ.mp z)⟩) (fun z=>?_) (by rw[← r1.length,← r2.length];exact hz);refine⟨.ref s.heap.objs.size,_,I.laid (t':=s.toks) (o:=.tup (xs++ys)) (fun b ob q=>U9 _ q) (Vb _) ?_,U,q2 (fun w=>z (r2.yZ.mpr w)) _ (I.hok.fresh (Vb _))⟩;exact⟨by rw[Vf];exact hz,_,r1.append r2,IsTup.new _ _⟩
end
def ixN (n:Nat)(i:Int):Option Nat:=if 0<=i then (if i < n then some i.toNat else none) else if -(n:Int)<=i then some (i+n).toNat else none
def atI {α:Type}(xs:List α)(i:Int):Option α:=(ixN xs.length i).bind fun j=>xs[j]?
def Io {n:Nat}{i:Int}{j:Nat}(h:ixN n i=some j):abV i n=some j/\j < n/\-(n:Int)<=i/\i < n:=by
 unfold ixN at h;by_cases h0:0<=i
 ·rw[if_pos h0] at h;by_cases h1:i < n;{rw[if_pos h1] at h;have e:i.toNat=j:=VV h;exact⟨by rw[seqIndex_of h0 h1,e],by lia,by lia,h1⟩};{rw[if_neg h1] at h;cases h}
 ·rw[if_neg h0] at h;by_cases h1 : -(n:Int)<=i;{rw[if_pos h1] at h;have e:(i+n).toNat=j:=VV h;exact⟨by rw[seqIndex_neg (by lia) h1,e],by lia,h1,by lia⟩};{rw[if_neg h1] at h;cases h}
def zU {α:Type}{xs:List α}{i:Int}{v:α}(h:atI xs i=some v):∃ j,abV i xs.length=some j/\xs[j]? = some v/\j < xs.length/\-(xs.length:Int)<=i/\i < xs.length:=by
 unfold atI at h;cases e:ixN xs.length i with
 | none=>rw[e] at h;cases h
 | some j =>
  rw[e] at h;obtain⟨h1,h2,h3,h4⟩:=Io e;exact⟨j,h1,h,h2,h3,h4⟩
def cX {α:Type}{xs:List α}{j:Nat}{v:α}(h:xs[j]? = some v):atI xs (j:Int)=some v:=by
 have hj:j < xs.length:=(List.getElem?_eq_some_iff.mp h).1;have e:ixN xs.length (j:Int)=some j:=by
  unfold ixN;rw[if_pos (by lia),if_pos (by lia)];simp
 unfold atI;rw[e];exact h
def KD {α:Type}(xs:List α)(v:α):atI (xs++[v]) (-1)=some v:=by
 have hl:(xs++[v]).length=xs.length+1:=by simp
 have e:ixN (xs++[v]).length (-1)=some xs.length:=by
  unfold ixN;rw[hl,if_neg (by decide),if_pos (by lia)];congr 1;lia
 unfold atI;rw[e];show (xs++[v])[xs.length]? = some v;simp
def vC (b:Expr):Prop:=∀ o i,ab8 b false o i=operate [o,i] (abg o i)
def IxR (X:Cx)(r:R2):Prop :=
 ∀ (value slice:Expr) (ZY:C1) (s:U8) (σ:St) (H:Hp) (x y:V) (v u:Value) (Q:VK),Inv X ZY σ H s->RelV x v->RelV y u->r x y H Q →
  ab8 slice false v u=operate [v,u] (abg v u)->Vh (Vl X.prog X.w) X.A (abr value slice v u) (EP X ZY σ Q) X.xe s
def MtR (X:Cx)(id:String)(r:V->List V->Hp->VK->Prop):Prop :=
 ∀ (ZY:C1) (s:U8) (σ:St) (H:Hp) (x:V) (xs:List V) (v:Value) (us:C9) (Q:VK),Inv X ZY σ H s->RelV x v->Vals xs us->r x xs H Q →
  Vh (Vl X.prog X.w) X.A (call (.builtin id) (v::us)) (EP X ZY σ Q) X.xe s
section
variable {X:Cx}{a b:Expr}{ta tb:TE}{pos:YS}
def IxR.or {r r':R2}(h:IxR X r)(h':IxR X r'):IxR X (fun x y H Q=>r x y H Q∨r' x y H Q):=by
 intro value slice ZY s σ H x y v u Q I rx ry q hs;rcases q with q | q;{exact h value slice ZY s σ H x y v u Q I rx ry q hs};{exact h' value slice ZY s σ H x y v u Q I rx ry q hs}
def Nt {r:R2}(hr:IxR X r)(ha:PE X a ta)(hb:PE X b tb)(hs:vC b):PE X (.Subscript a b pos) (tOp r ta tb):=by
 intro ZY s σ H Q I h;exact Subscript_ (Sq ha hb I h fun v u s2 x y H2 I2 rx ry q=>hr a b ZY s2 σ H2 x y v u Q I2 rx ry q (hs _ _))
inductive SJ (K:Vi)(x:V)(y:V)(H:Hp)(Q:VK):Prop where
 | mk (p:Addr) (xs:List V) (i:Int) (v:V) (_:x = .ref p) (_:y = .int i) (_:SqL K H p xs) (_:atI xs i=some v) (_:Q v H)
inductive RM (K:Vi)(x:V)(y:V)(H:Hp)(Q:VK):Prop where
 | mk (p:Addr) (xs:List V) (i:Int) (v:V) (_:x = .ref p) (_:y = .int i) (_:SqT K H p xs) (_:atI xs i=some v) (_:Q v H)
def TJ:R2:=fun x y H Q=>∃ z i c,x = .str z/\y = .int i/\z.length<=sizeLine/\atI z.cps.toList i=some c/\Q (.str ⟨#[c]⟩) H
def Gq:IxR X (SJ X.K):=by
 intro value slice ZY s σ H x y v u Q I rx ry h hs;obtain⟨p,xs,i,z,rfl,rfl,hq,he,q⟩:=h;cases rx;obtain⟨t,rfl⟩:=ry;obtain⟨its,r,pl,hz⟩:=I.list hq;obtain⟨j,h1,h2,h3,h4,h5⟩:=zU he;obtain⟨w,ew,rw'⟩:=r.get h2;have hl:=r.length;have hn:=ud;have fin:EP X ZY σ Q w s:=⟨z,H,I,rw',q⟩;by_cases h0:0<=i
 ·have hj:i.toNat=j:=by
   rw[seqIndex_of h0 h5] at h1;exact VV h1
  exact item_listR pl.isList h0 (by lia) (by rw[hj];simpa using ew) fin hs
 ·have hj:(i+(its.toArray.size:Int)).toNat=j:=by
   rw[seqIndex_neg (by lia) h4] at h1;rw[Vo,← hl];exact VV h1
  exact subscriptTail_builtinR (x:=w) pl.isList.typeIs slot_list_getitem.lookup
   (wpAny_getItem_list_neg (Q:=fun r s'=>r=w/\EP X ZY σ Q r s') pl.isList (by lia) (by rw[Vo] <;> lia) (by lia) (by rw[hj];simpa using ew) ⟨U,fin⟩) hs
def LR:IxR X (RM X.K):=by
 intro value slice ZY s σ H x y v u Q I rx ry h hs;obtain⟨p,xs,i,z,rfl,rfl,hq,he,q⟩:=h;cases rx;obtain⟨t,rfl⟩:=ry;obtain⟨its,r,pl,hz⟩:=I.tuple hq;obtain⟨j,h1,h2,h3,h4,h5⟩:=zU he;obtain⟨w,ew,rw'⟩:=r.get h2;have hl:=r.length;have hn:=ud;have fin:EP X ZY σ Q w s:=⟨z,H,I,rw',q⟩;exact subscriptTail_builtinR (x:=w) pl.typeIs slot_tuple_getitem.lookup
  (getItem_tuple (j:=j) (Q:=fun r s'=>r=w/\EP X ZY σ Q r s') pl (by lia) (by lia) (by rw[Vo,← hl];exact h1) (by simpa using ew) ⟨U,fin⟩) hs
def QM:IxR X TJ:=by
 intro value slice ZY s σ H x y v u Q I rx ry h hs;obtain⟨z,i,c,rfl,rfl,hz,he,q⟩:=h;obtain⟨t,rfl⟩:=rx;obtain⟨t',rfl⟩:=ry;obtain⟨j,h1,h2,h3,h4,h5⟩:=zU he;have hl:z.cps.toList.length=z.length:=by simp [Str.length]
 rw[hl] at h1 h4 h5;have hn:=ud
 exact tail_any (typeIs_str s z t) slot_str_getitem.lookup (getItem_str (c:=c) (by
  have e1:decide (i < -(2 ^ 63:Int))=false:=decide_eq_false (by lia);have e2:decide (i ≥ 2 ^ 63)=false:=decide_eq_false (by lia)
  rw[e1,e2,Bool.or_false]) (by rw[h1];simpa using h2) ⟨.str ⟨#[c]⟩,H,I.tok _,⟨_,U⟩,q⟩) hs
def rIx (K:Vi):R2:=fun x y H Q=>SJ K x y H Q∨RM K x y H Q∨TJ x y H Q
def Lk:IxR X (rIx X.K):=Gq.or (LR.or QM)
def DW (its:C9)(n j:Nat)(u:Value):Ys (·.setIfInBounds j u) { cls:=.type "list",data:=.seq its.toArray n }={ cls:=.type "list",data:=.seq (its.set j u).toArray n }:=by
 simp [Ys]
def Inv.lst {ZY:C1}{σ:St}{H:Hp}{s:U8}{p:Addr}{xs:List V}(I:Inv X ZY σ H s)(h:H p=some (.lst xs)) :
  ∃ (its:C9) (n:Nat),Vals xs its/\s.heap.get? p=some { cls:=.type "list",data:=.seq its.toArray n }/\xs.length<=sizeLine:=by
 obtain⟨z,its,n,r,e⟩:=I.hok p _ h;exact⟨its,n,r,e,z⟩
def Inv.Ra {ZY:C1}{σ:St}{H:Hp}{s:U8}{p:Addr}{xs ys:List V}{its its':C9}{n n':Nat}{f:Xz->Xz}(I:Inv X ZY σ H s)(h:H p=some (.lst xs))
  (ho:s.heap.get? p=some { cls:=.type "list",data:=.seq its.toArray n }) (hf:f { cls:=.type "list",data:=.seq its.toArray n }={ cls:=.type "list",data:=.seq its'.toArray n' }) (r:Vals ys its') (hz:ys.length<=sizeLine) (t:Nat) :
  Inv X ZY σ (upd H p (.lst ys)) { s with heap:=s.heap.update p f,toks:=t }:=by
 have e:(s.heap.update p f).get? p=some { cls:=.type "list",data:=.seq its'.toArray n' }:=by
  rw[VP f ho (by rw[hf] <;> rfl),hf]
 refine I.write (x:=p) (e:=p) (by rw[h];trivial) (.inl U) (fun b u hb q=>(VF _ _ (Wz hb)).trans q) ⟨_,e⟩ ?_;exact⟨hz,its',n',r,e⟩
def RZ:V->V->V->Hp->(Hp->Prop)->Prop:=fun o i v H Q=>∃ p xs k j,o = .ref p/\i = .int k/\H p=some (.lst xs)/\ixN xs.length k=some j/\Q (upd H p (.lst (xs.set j v)))
def set_list:Tt X RZ:=by
 intro ZY s σ H o i v ov iv u Q I ro ri rv h;obtain⟨p,xs,k,j,rfl,rfl,hp,hj,q⟩:=h;cases ro;obtain⟨t,rfl⟩:=ri;obtain⟨its,n,r,ho,hz⟩:=I.lst hp;obtain⟨h1,h2,h3,h4⟩:=Io hj;have hl:=r.length;have hn:=ud;have I':Inv X ZY σ (upd H p (.lst (xs.set j v))) { s with heap:=s.heap.update p (Ys (·.setIfInBounds j u)) } :=
  I.Ra hp ho (DW its n j u) (r.set rv j) (by rw[aa3];exact hz) s.toks
 by_cases h0:0<=k
 ·have hk:k.toNat=j:=by
   rw[seqIndex_of h0 h4] at h1;exact VV h1
  exact PySem.W.ki_setAt ho h0 (by lia) (by rw[Vo,← hl];exact h4) (by rw[hk];exact⟨_,I',q⟩)
 ·have hk:(k+(its.toArray.size:Int)).toNat=j:=by
   rw[seqIndex_neg (by lia) h3] at h1;rw[Vo,← hl];exact VV h1
  exact PySem.W.ki_setBack ho (by lia) (by rw[Vo,← hl];exact h3) (by lia) (by rw[hk];exact⟨_,I',q⟩)
def wz (lo hi:Da)(n:Nat):(Ye lo hi none n).1=((HT.sIx n 0 lo:Nat):Int)/\(Ye lo hi none n).2.1=((HT.sIx n n hi:Nat):Int)/\(Ye lo hi none n).2.2=1:=by
 refine⟨?_,?_,U⟩
 ·cases lo with
  | none=>simp [Ye,HT.sIx]
  | some i =>
   simp only[Ye,HT.sIx,Option.getD_none,show (1:Int) > 0 by decide,if_true];by_cases h:i < 0;{simp only[h,if_true] <;> lia}
   ·simp only[h,if_false] <;> lia
 ·cases hi with
  | none=>simp [Ye,HT.sIx]
  | some i =>
   simp only[Ye,HT.sIx,Option.getD_none,show (1:Int) > 0 by decide,if_true];by_cases h:i < 0;{simp only[h,if_true] <;> lia}
   ·simp only[h,if_false] <;> lia
def vG (its:C9)(lo hi:Da):aaD its.toArray lo hi none=((its.drop (HT.sIx its.length 0 lo)).take (HT.sIx its.length its.length hi - HT.sIx its.length 0 lo)).toArray:=by
 obtain⟨h1,h2,h3⟩:=wz lo hi its.toArray.size;unfold aaD;rw[h1,h2,h3];simp only[sliceRange_one,pick_run,Vo] <;> rfl
inductive Tv (K:Vi)(x:V)(lo:Da)(hi:Da)(H:Hp)(Q:VK):Prop where
 | mk (a:Addr) (xs:List V) (_:x = .ref a) (_:SqL K H a xs) (_:∀ p,H p=none->Q (.ref p) (upd H p (.lst (uP xs lo hi))))
def Oz:SlR X (Tv X.K):=by
 intro ZY s σ H x v vl vu lo hi sl Q I rx hs pl pu h;obtain⟨a,xs,rfl,hx,q⟩:=h;cases rx;obtain⟨its,r,ht,hz⟩:=I.list hx;have hlen:=r.length;refine⟨"list",_,slot_list_getitem.lookup,ht.isList.typeIs,?_⟩;refine wpAny_getItem_list_slice ht.isList hs pl pu .none (by simp) ?_ (by rw[Vo] <;> lia)
 rw[vG,← hlen];refine⟨.ref s.heap.objs.size,_,I.laid (t':=s.toks) (o:=.lst (uP xs lo hi)) (fun b ob q=>U9 _ q) (Vb _) ?_,U,q _ (I.hok.fresh (Vb _))⟩;exact⟨VH (rC xs lo hi) hz,_,0,(r.drop (HT.sIx xs.length 0 lo)).take (HT.sIx xs.length xs.length hi - HT.sIx xs.length 0 lo),Vn _ U⟩
def tV:V->Bool
 | .non=>true
 | .bl _=>true
 | .int _=>true
 | .str _=>true
 | _=>false
def eqV:V->V->Bool
 | .non,.non=>true
 | .bl a,.bl b=>a == b
 | .bl a,.int b=>(if a then 1 else 0) == b
 | .int a,.bl b=>a == (if b then 1 else 0)
 | .int a,.int b=>a == b
 | .str a,.str b=>a == b
 | _,_=>false
def Qq {A:V1}{s:U8}{y x:V}{u v:Value}(ry:RelV y u)(rx:RelV x v)(fy:tV y=true)(fx:tV x=true):SeqAt.EqAt A s u v (eqV y x):=by
 cases y with
 | non =>
  cases ry;cases x with
  | non=>cases rx;exact SeqAt.EqAt.same _
  | bl b=>cases rx;exact SeqAt.EqAt.none_bool b
  | int b=>obtain⟨t,rfl⟩:=rx;exact SeqAt.EqAt.none_int b t
  | str b=>obtain⟨t,rfl⟩:=rx;exact SeqAt.EqAt.none_str b t
  | _=>exact absurd (show false=true from fx) Ve
 | bl a =>
  cases ry;cases x with
  | non=>cases rx;exact SeqAt.EqAt.bool_none a
  | bl b=>cases rx;exact SeqAt.EqAt.bool_bool a b
  | int b=>obtain⟨t,rfl⟩:=rx;exact SeqAt.EqAt.bool_int a b t
  | str b=>obtain⟨t,rfl⟩:=rx;exact SeqAt.EqAt.bool_str a b t
  | _=>exact absurd (show false=true from fx) Ve
 | int a =>
  obtain⟨t',rfl⟩:=ry;cases x with
  | non=>cases rx;exact SeqAt.EqAt.int_none a t'
  | bl b=>cases rx;exact SeqAt.EqAt.int_bool a t' b
  | int b=>obtain⟨t,rfl⟩:=rx;exact SeqAt.EqAt.int_int a t' b t
  | str b=>obtain⟨t,rfl⟩:=rx;exact SeqAt.EqAt.int_str a t' b t
  | _=>exact absurd (show false=true from fx) Ve
 | str a =>
  obtain⟨t',rfl⟩:=ry;cases x with
  | non=>cases rx;exact SeqAt.EqAt.str_none a t'
  | bl b=>cases rx;exact SeqAt.EqAt.str_bool a t' b
  | int b=>obtain⟨t,rfl⟩:=rx;exact SeqAt.EqAt.str_int a t' b t
  | str b=>obtain⟨t,rfl⟩:=rx;exact SeqAt.EqAt.str_str a t' b t
  | _=>exact absurd (show false=true from fx) Ve
 | _=>exact absurd (show false=true from fy) Ve
def eqU (x:V)(u:Value):Bool:=match u with
 | .none=>eqV .non x
 | .bool b=>eqV (.bl b) x
 | .int i _=>eqV (.int i) x
 | .str z _=>eqV (.str z) x
 | _=>false
def Mt {x y:V}{u:Value}(r:RelV y u)(f:tV y=true):eqU x u=eqV y x:=by
 cases y with
 | non=>cases r;rfl
 | bl b=>cases r;rfl
 | int i=>obtain⟨t,rfl⟩:=r;rfl
 | str z=>obtain⟨t,rfl⟩:=r;rfl
 | _=>exact absurd (show false=true from f) Ve
theorem tE {x:V}:∀ {xs:List V} {us:C9},Vals xs us->xs.all tV=true->us.any (eqU x)=xs.any fun y=>eqV y x
 | _,_,.nil,_=>rfl
 | y::xs,u::us,.cons r t,f=>by
  rw[Z1,WX] at f;rw[Yz,Yz,Mt r f.1,tE t f.2]
theorem ni {A:V1}{s:U8}{x:V}{v:Value}(rx:RelV x v)(fx:tV x=true):∀ {xs:List V} {us:C9},Vals xs us->xs.all tV=true->∀ u∈us,SeqAt.EqAt A s u v (eqU x u)
 | _,_,.nil,_=>fun u hu=>by cases hu
 | y::xs,u::us,.cons r t,f=>fun u' hu=>by
  rw[Z1,WX] at f;rcases List.mem_cons.mp hu with rfl | hu;{rw[Mt r f.1];exact Qq r rx f.1 fx};{exact ni rx fx t f.2 u' hu}
def inV (x:V)(xs:List V):Bool:=xs.any fun y=>eqV y x
inductive rIn (K:Vi)(neg:Bool)(x:V)(y:V)(H:Hp)(Q:VK):Prop where
 | mk (p:Addr) (xs:List V) (_:y = .ref p) (_:(SqL K H p xs∨SqT K H p xs)) (_:tV x=true) (_:xs.all tV=true) (_:Q (.bl (if neg then !inV x xs else inV x xs)) H)
def dD:OpR X (Xm .In) (rIn X.K false):=by
 intro ZY s σ H x y v u Q I rx ry h;obtain⟨p,xs,rfl,hq,fx,fs,q⟩:=h;cases ry;rcases hq with hq | hq;{obtain⟨its,r,pl,hz⟩:=I.list hq;refine SeqAt.in_listAt (eqU x) pl.isList (fun w hw=>ni rx fx r fs w (by simpa using hw)) ⟨.bl _,H,I,U,?_⟩;rw[show its.toArray.any (eqU x)=its.any (eqU x) by simp,tE r fs];exact q};{obtain⟨its,r,pl,hz⟩:=I.tuple hq;refine SeqAt.in_tupleAt (eqU x) pl (fun w hw=>ni rx fx r fs w (by simpa using hw)) ⟨.bl _,H,I,U,?_⟩;rw[show its.toArray.any (eqU x)=its.any (eqU x) by simp,tE r fs];exact q}
def pL:OpR X (Xm .NotIn) (rIn X.K true):=by
 intro ZY s σ H x y v u Q I rx ry h;obtain⟨p,xs,rfl,hq,fx,fs,q⟩:=h;cases ry;rcases hq with hq | hq;{obtain⟨its,r,pl,hz⟩:=I.list hq;refine SeqAt.notIn_listAt (eqU x) pl.isList (fun w hw=>ni rx fx r fs w (by simpa using hw)) ⟨.bl _,H,I,U,?_⟩;rw[show its.toArray.any (eqU x)=its.any (eqU x) by simp,tE r fs];exact q};{obtain⟨its,r,pl,hz⟩:=I.tuple hq;refine SeqAt.notIn_tupleAt (eqU x) pl (fun w hw=>ni rx fx r fs w (by simpa using hw)) ⟨.bl _,H,I,U,?_⟩;rw[show its.toArray.any (eqU x)=its.any (eqU x) by simp,tE r fs];exact q}
def xr:fY X (.builtin "len") (fun xs H Q=>∃ p ys,xs=[.ref p]/\(SqL X.K H p ys∨SqT X.K H p ys)/\Q (.int ys.length) H):=by
 intro ZY s σ H xs us Q I r h;obtain⟨p,ys,rfl,hq,q⟩:=h;obtain⟨u,rfl,rx⟩:=vals1 r;cases rx;have hn:=ud;rcases hq with hq | hq;{obtain⟨its,r',pl,hz⟩:=I.list hq;have hlen:=r'.length;exact Calls.call_len_list pl.isList (by simp only[Vo] <;> lia) ⟨.int ys.length,H,I.tok _,⟨s.toks+1,by rw[Vo,hlen]⟩,q⟩}
 ·obtain⟨its,r',pl,hz⟩:=I.tuple hq;have hlen:=r'.length;exact len_tuple pl (by simp only[Vo] <;> lia) ⟨.int ys.length,H,I.tok _,⟨s.toks+1,by rw[Vo,hlen]⟩,q⟩
def wX:fY X (.type "list") (fun xs H Q=>∃ p ys,xs=[.ref p]/\(SqL X.K H p ys∨SqT X.K H p ys)/\∀ l,H l=none->Q (.ref l) (upd H l (.lst ys))):=by
 intro ZY s σ H xs us Q I r h;obtain⟨p,ys,rfl,hq,q⟩:=h;obtain⟨u,rfl,rx⟩:=vals1 r;cases rx;have fin:∀ (its:C9),Vals ys its->ys.length<=sizeLine->∀ (h':Wg) (c':Nat),(∀ b o',s.heap.get? b=some o'->h'.get? b=some o') →
   h'.get? s.heap.objs.size=some { cls:=.type "list",dict:=none,data:=.seq its.toArray c',slots:=#[] }->EP X ZY σ Q (.ref s.heap.objs.size) { s with heap:=h' }:=fun its r' hz h' c' kp e =>
  ⟨.ref s.heap.objs.size,_,I.laid (t':=s.toks) kp (Vb _) (show dN X.prog X.w _ h' _ (.lst ys) from ⟨hz,its,c',r',e⟩),U,q _ (I.hok.fresh (Vb _))⟩
 rcases hq with hq | hq;{obtain⟨its,r',pl,hz⟩:=I.list hq;have hlen:=r'.length;obtain⟨o,ho,hc,n,hd⟩:=pl.isList;exact call_list_seq p (.inl U) ho hc hd (fun h' c' kp e=>fin its r' hz h' c' kp e) (by simp only[Vo] <;> lia)}
 ·obtain⟨its,r',pl,hz⟩:=I.tuple hq;have hlen:=r'.length;obtain⟨o,ho,hc,n,hd⟩:=pl;exact call_list_seq p (.inr U) ho hc hd (fun h' c' kp e=>fin its r' hz h' c' kp e) (by simp only[Vo] <;> lia)
def vP:fY X (.type "tuple") (fun xs H Q=>∃ p ys,xs=[.ref p]/\((SqL X.K H p ys/\∀ l,H l=none->Q (.ref l) (upd H l (.tup ys)))∨(SqT X.K H p ys/\Q (.ref p) H))):=by
 intro ZY s σ H xs us Q I r h;obtain⟨p,ys,rfl,h⟩:=h;obtain⟨u,rfl,rx⟩:=vals1 r;cases rx;rcases h with⟨hq,q⟩ | ⟨hq,q⟩
 ·obtain⟨its,r',pl,hz⟩:=I.list hq;have hlen:=r'.length;refine call_tuple_list pl.isList (fun h' kp=>?_) (by simp only[Vo] <;> lia)
  have I1:Inv X ZY σ H { s with heap:=h' }:=I.kept (t':=s.toks) kp;have I2:Inv X ZY σ (upd H h'.objs.size (.tup ys)) { s with heap:=h'.push { cls:=.type "tuple",data:=.seq its.toArray } } :=
   I1.laid (t':=s.toks) (fun b o e=>U9 _ e) (Vb _) (show dN X.prog X.w _ _ _ (.tup ys) from ⟨hz,its,r',IsTup.new _ _⟩)
  exact⟨.ref h'.objs.size,_,I2,U,q _ (I1.hok.fresh (Vb _))⟩
 ·obtain⟨its,r',pl,hz⟩:=I.tuple hq;exact call_tuple_same pl ⟨.ref p,H,I,U,q⟩
def tyV (K:Vi)(T:String)(x:V)(H:Hp):Prop:=match x with
 | .str _=>T = "str"
 | .int _=>T = "int"
 | .ref p=>(T = "list"/\∃ xs,SqL K H p xs)∨(T = "tuple"/\∃ o,K.lookup p=some o/\o.cls = .type "tuple"/\o.dict=none) ∨
   (T = "dict"/\((∃ kvs,H p=some (.dK kvs))∨∃ kvs,H p=some (.dT kvs)))∨(T = "set"/\∃ S n,H p=some (.set S n))
 | _=>False
def Mf {ZY:C1}{σ:St}{H:Hp}{s:U8}{T:String}{x:V}{v:Value}(I:Inv X ZY σ H s)(r:RelV x v)(ty:tyV X.K T x H) :
  s.TypeIs v T/\∀ a,v = .ref a->∃ ob,s.heap.get? a=some ob/\ob.dict=none:=by
 cases x with
 | str z =>
  obtain⟨t,rfl⟩:=r;cases (show T = "str" from ty);exact⟨typeIs_str s z t,fun _ e=>nomatch e⟩
 | int i =>
  obtain⟨t,rfl⟩:=r;cases (show T = "int" from ty);exact⟨typeIs_int s i t,fun _ e=>nomatch e⟩
 | ref p =>
  cases r;rcases ty with⟨rfl,xs,hq⟩ | ⟨rfl,o,hk,hc,hd⟩ | ⟨rfl,hk⟩ | ⟨rfl,S,n,hk⟩;{obtain⟨its,_,pl,_⟩:=I.list hq;refine⟨pl.isList.typeIs,fun a e=>?_⟩;cases e;obtain⟨o,n,e,c,hd,_⟩:=pl;exact⟨o,e,hd⟩};{refine⟨⟨o,I.kIn p o hk,hc⟩,fun a e=>?_⟩;cases e;exact⟨o,I.kIn _ o hk,hd⟩}
  ·have z:∃ o,s.heap.get? p=some o/\o.ExactDict:=by
    rcases hk with⟨kvs,hk⟩ | ⟨kvs,hk⟩;{obtain⟨_,_,_,_,o,_,_,e,ex,_⟩:=I.hok p _ hk;exact⟨o,e,ex⟩};{obtain⟨_,_,_,_,o,_,_,e,ex,_⟩:=I.hok p _ hk;exact⟨o,e,ex⟩}
   obtain⟨o,e,ex⟩:=z;refine⟨⟨o,e,ex.1⟩,fun a e2=>?_⟩;cases e2;exact⟨o,e,ex.2.1⟩
  ·obtain⟨o,_,_,_,e,ex,_⟩:=I.hok p _ hk;refine⟨⟨o,e,ex.1⟩,fun a e2=>?_⟩;cases e2;exact⟨o,e,ex.2.1⟩
 | _=>exact V9 ty
def Ur (K:Vi)(T:String)(r:V->List V->Hp->VK->Prop)(to:TE):TE:=fun σ H Q=>to σ H fun x H1=>tyV K T x H1/\r x [] H1 Q
def tBM (K:Vi)(T:String)(r:V->List V->Hp->VK->Prop)(to:TE)(t:TA):TE:=fun σ H Q=>to σ H fun x H1=>tyV K T x H1/\t σ H1 fun xs H2=>r x xs H2 Q
variable {o e:Expr}{es:Do}{to:TE}{t:TA}{name:VB}{apos cpos:YS}{T id:String}{r:V->List V->Hp->VK->Prop}
def wI (pa:PlainAttrs T) (slot:Slot T name id) (hty:typeOf (.builtin id)=pure (.type "method_descriptor")) (hm:MtR X id r) (ho:PE X o to)
  (hbase:Yy o name X.env (Wy o X.env)=Wy o X.env:=by rfl) (hline:(apos.endLine == cpos.line)=true:=by rfl):PE X (.Call (.Attribute o name apos) [] [] cpos) (Ur X.K T r to):=by
 intro ZY s σ H Q I h;refine wpAny_Call_method0_late hbase hline (thn (ho ZY s σ H _ I h) fun v s1 ⟨x,H1,I1,r1,ty,q1⟩=>?_);obtain⟨h1,h2⟩:=Mf I1 r1 ty;exact⟨T,id,pa,slot,hty,h1,h2,aaT U (PySem.evalArgs_none (hm ZY s1 σ H1 x [] v [] Q I1 r1 .nil q1))⟩
def oX (pa:PlainAttrs T) (slot:Slot T name id) (hty:typeOf (.builtin id)=pure (.type "method_descriptor")) (hm:MtR X id r) (ho:PE X o to) (ha:PA X (e::es) t)
  (hbase:Yy o name X.env (Wy o X.env)=Wy o X.env:=by rfl)
  (hfew:((Xj cpos (Vx (e::es) X.env)).all (fun x=>!x.1) && (Z2 cpos (Yq [] X.env)).all (fun x=>x.1.isSome)
   && decide ((e::es).length+([]:C6).length+(if ([]:C6).isEmpty then 0 else 1) < 30))=true:=by rfl)
  (hline:(apos.endLine == cpos.line)=true:=by rfl) (hs:Vx (e::es) X.env=(false,Wy e X.env)::Vx es X.env:=by rfl) (hplain:(Xj cpos (Vx es X.env)).any (·.1)=false:=by rfl) :
  PE X (.Call (.Attribute o name apos) (e::es) [] cpos) (tBM X.K T r to t):=by
 intro ZY s σ H Q I h;refine wpAny_Call_method_late hbase hfew hline U (thn (ho ZY s σ H _ I h) fun v s1 ⟨x,H1,I1,r1,ty,q1⟩=>?_);obtain⟨h1,h2⟩:=Mf I1 r1 ty;refine⟨T,id,pa,slot,hty,h1,h2,?_⟩;have hA:=ha cpos ZY s1 σ H1 _ I1 q1;rw[hs] at hA ⊢;refine aaT (by show (false || (Xj cpos (Vx es X.env)).any (·.1))=false;rw[hplain] <;> rfl) (Calls.evalArgs_plain ?_)
 exact thn hA fun us s2 ⟨vs,H2,I2,r2,q2⟩=>hm ZY s2 σ H2 x vs v us Q I2 r1 r2 q2
/- xs.append(e),list.index on a module's tuple .. are MtR facts of 06m -/
end
def MtM (X:Cx)(id:String)(r:V->List V->Hp->VK->Prop):Prop :=
 ∀ (ZY:C1) (s:U8) (σ:St) (H:Hp) (x:V) (xs:List V) (v:Value) (us:C9) (Q:VK),Inv X ZY σ H s->RelV x v->Vals xs us->r x xs H Q →
  Vh (Vl X.prog X.w) X.A (call (.builtin id) (v::us)) (EP X ZY σ Q) X.xe s
theorem Vals.one:∀ {x:V} {us:C9},Vals [x] us->∃ u,us=[u]/\RelV x u
 | _,_,.cons r .nil=>⟨_,U,r⟩
theorem Vals.two:∀ {x y:V} {us:C9},Vals [x,y] us->∃ u v,us=[u,v]/\RelV x u/\RelV y v
 | _,_,_,.cons r (.cons q .nil)=>⟨_,_,U,r,q⟩
theorem Vals.zero:∀ {us:C9},Vals [] us->us=[]
 | _,.nil=>rfl
def Vals.dropLast {xs:List V}{us:C9}(h:Vals xs us):Vals xs.dropLast us.dropLast:=by
 induction h with
 | nil=>exact .nil
 | cons r t ih =>
  cases t with
  | nil=>exact .nil
  | cons q t'=>exact .cons r ih
theorem Vals.eraseIdx:∀ {xs:List V} {us:C9} (i:Nat),Vals xs us->Vals (xs.eraseIdx i) (us.eraseIdx i)
 | _,_,_,.nil=>.nil
 | _,_,0,.cons _ t=>t
 | _,_,i+1,.cons r t=>.cons r (Vals.eraseIdx i t)
def Vals.reverse {xs:List V}{us:C9}(h:Vals xs us):Vals xs.reverse us.reverse:=by
 induction h with
 | nil=>exact .nil
 | cons r t ih=>rw[aav,aav];exact Vals.append ih (.cons r .nil)
theorem Vals.rep {xs:List V}{us:C9}(h:Vals xs us):∀ k:Nat,Vals (VM k xs).flatten (VM k us).flatten
 | 0=>.nil
 | k+1=>by
  rw[Yl,Yl,aaw,aaw];exact Vals.append h (Vals.rep h k)
def Es {α:Type}(l:List α):l.eraseIdx (l.length - 1)=l.dropLast:=by
 induction l with
 | nil=>rfl
 | cons a r ih =>
  cases r with
  | nil=>rfl
  | cons b r =>
   have e:(a::b::r).length - 1=((b::r).length - 1)+1:=by
    have h1:(a::b::r).length=r.length+2:=rfl;have h2:(b::r).length=r.length+1:=rfl;lia
   rw[e,List.eraseIdx_cons_succ,ih]
   all_goals rfl
theorem xX {α:Type}:∀ (l:List α) (i:Nat),(l.eraseIdx i).length<=l.length
 | [],_=>Vb _
 | _::_,0=>WY _
 | _::r,i+1=>abZ (xX r i)
theorem foldl_rep (its:C9):∀ (k:Nat) (acc:C9),
  List.foldl (fun x1 x2=>x1++x2) acc.toArray (VM k its.toArray)=(acc++(VM k its).flatten).toArray
 | 0,acc=>by simp
 | k+1,acc=>by
  have e:acc.toArray++its.toArray=(acc++its).toArray:=by simp
  have e2:(acc++its)++(VM k its).flatten=acc++(VM (k+1) its).flatten:=by
   rw[Yl,aaw,ZM]
  rw[← e2,← foldl_rep its k (acc++its),← e,Yl,XM]
section
variable {X:Cx}{ZY:C1}{σ:St}{H:Hp}{s:U8}{l b:Addr}{xs ys zs:List V}
def Inv.RB {its its':C9}{n:Nat}{f:Array Value->Array Value}{t':Nat}(I:Inv X ZY σ H s)(hH:H l=some (.lst xs))
  (e:s.heap.get? l=some { cls:=.type "list",data:=.seq its.toArray n }) (hf:f its.toArray=its'.toArray) (hv:Vals ys its') (hz:ys.length<=sizeLine) :
  Inv X ZY σ (upd H l (.lst ys)) { s with heap:=s.heap.update l (Ys f),toks:=t' }:=by
 have q:=PySem.IsL.update e f;rw[hf] at q;refine I.write (x:=l) (e:=l) (by rw[hH];exact trivial) (.inl U) (fun b' u hb hu=>(VF s.heap (Ys f) (Wz hb)).trans hu) ⟨_,q⟩ ?_;exact⟨hz,its',_,hv,q⟩
def Inv.Rx {its:C9}{t':Nat}(I:Inv X ZY σ H s)(hv:Vals ys its)(hz:ys.length<=sizeLine) :
  Inv X ZY σ (upd H s.heap.objs.size (.lst ys)) { s with heap:=s.heap.push { cls:=.type "list",data:=.seq its.toArray },toks:=t' } :=
 I.laid (fun _ _ q=>U9 _ q) (Vb _) ⟨hz,its,0,hv,Vn _ U⟩
def Inv.fresh (I:Inv X ZY σ H s):H s.heap.objs.size=none:=I.hok.fresh (Vb _)
def Inv.Oo (I:Inv X ZY σ H s)(hH:H l=some (.lst xs)):xs.length<=sizeLine/\∃ (its:C9) (n:Nat),Vals xs its/\xs.length=its.length/\s.heap.get? l=some { cls:=.type "list",data:=.seq its.toArray n }:=by
 obtain⟨z,its,n,r,e⟩:=I.hok l _ hH;exact⟨z,its,n,r,r.length,e⟩
def KN {n:Nat}(h:n<=sizeLine):aaC n=false:=by
 unfold aaC;exact decide_eq_false (by lia)
end
section
variable {X:Cx}
inductive Om (x:V)(vs:List V)(H:Hp)(Q:VK):Prop where
 | mk (l:Addr) (xs:List V) (y:V) (_:x = .ref l) (_:vs=[y]) (_:H l=some (.lst xs)) (_:xs.length < sizeLine) (_:Q .non (upd H l (.lst (xs++[y]))))
def cz:MtM X "list.append" Om:=by
 intro ZY s σ H x vs v us Q I rx rv h;obtain⟨l,xs,y,rfl,rfl,hH,hz,q⟩:=h;cases rx;obtain⟨u,rfl,ru⟩:=rv.one;obtain⟨z,its,n,r,hl,e⟩:=I.Oo hH;refine aaL F.slot_list_append ⟨_,e,U⟩ F.entry_list_append (F.args_list_append_2 _ _) (PySem.list_append l its.toArray n u (by rw[Vo];lia)) ⟨e,?_⟩;refine⟨.non,_,I.RB (its':=its++[u]) hH e (by simp) (r.append (.cons ru .nil)) ?_,U,q⟩;rw[Vf,List.length_singleton];lia
def U3:V->List V->Hp->VK->Prop:=fun x vs H Q=>∃ l xs y,x = .ref l/\vs=[]/\H l=some (.lst xs)/\xs[xs.length - 1]? = some y/\Q y (upd H l (.lst xs.dropLast))
def Be:MtM X "list.pop" U3:=by
 intro ZY s σ H x vs v us Q I rx rv h;obtain⟨l,xs,y,rfl,rfl,hH,hy,q⟩:=h;cases rx;have hus:=rv.zero;subst hus;obtain⟨z,its,n,r,hl,e⟩:=I.Oo hH;obtain⟨u,hu,ru⟩:=r.get hy;have hy':its.toArray[its.toArray.size - 1]? = some u:=by
  show its.toArray[its.length - 1]? = some u;rw[← Wr,← hl];exact hu
 refine aaL F.slot_list_pop ⟨_,e,U⟩ F.entry_list_pop (F.args_list_pop_1 _) (MeetsSeq.list_pop_last l its.toArray n u hy' (by rw[Vo];lia)) ⟨e,?_⟩;refine⟨y,_,I.RB (its':=its.dropLast) hH e ?_ r.dropLast ?_,ru,q⟩;{show its.toArray.eraseIdxIfInBounds (its.toArray.size - 1)=its.dropLast.toArray;rw[Vo,abS,Es]};{rw[List.length_dropLast];lia}
def Ln:V->List V->Hp->VK->Prop:=fun x vs H Q=>∃ l xs i k y,x = .ref l/\vs=[.int i]/\H l=some (.lst xs)/\-(2 ^ 63)<=i/\i < 2 ^ 63/\abV i xs.length=some k/\xs[k]? = some y/\Q y (upd H l (.lst (xs.eraseIdx k)))
def JB:MtM X "list.pop" Ln:=by
 intro ZY s σ H x vs v us Q I rx rv h;obtain⟨l,xs,i,k,y,rfl,rfl,hH,h1,h2,hk,hy,q⟩:=h;cases rx;obtain⟨u,rfl,ru⟩:=rv.one;obtain⟨t,rfl⟩:=ru;obtain⟨z,its,n,r,hl,e⟩:=I.Oo hH;obtain⟨w,hw,rw'⟩:=r.get hy;refine aaL F.slot_list_pop ⟨_,e,U⟩ F.entry_list_pop (F.args_list_pop_2 _ _)
  (MeetsSeq.list_pop_at l its.toArray n i t k w (fitsIndex_both h1 h2) (by rw[Vo,← hl];exact hk) (by rw[← Wr];exact hw) (by rw[Vo];lia)) ⟨e,?_⟩
 refine⟨y,_,I.RB (its':=its.eraseIdx k) hH e ?_ (r.eraseIdx k) ?_,rw',q⟩;{show its.toArray.eraseIdxIfInBounds k=(its.eraseIdx k).toArray;rw[abS]};{have:=xX xs k;lia}
def Rk:V->List V->Hp->VK->Prop:=fun x vs H Q=>∃ l xs,x = .ref l/\vs=[]/\H l=some (.lst xs)/\Q .non (upd H l (.lst []))
def Jl:MtM X "list.clear" Rk:=by
 intro ZY s σ H x vs v us Q I rx rv h;obtain⟨l,xs,rfl,rfl,hH,q⟩:=h;cases rx;have hus:=rv.zero;subst hus;obtain⟨z,its,n,r,hl,e⟩:=I.Oo hH;refine aaL F.slot_list_clear ⟨_,e,U⟩ F.entry_list_clear (F.args_list_clear_1 _) (AutoSeq1.list_clear_list_0 l its.toArray n (by rw[Vo];lia)) ⟨e,?_⟩;exact⟨.non,_,I.RB (its':=[]) (ys:=[]) hH e U .nil (V3 _),U,q⟩
inductive Uu (x:V)(y:V)(H:Hp)(Q:VK):Prop where
 | mk (l:Addr) (b:Addr) (xs:List V) (zs:List V) (_:x = .ref l) (_:y = .ref b) (_:H l=some (.lst xs)) (_:H b=some (.lst zs)) (_:xs.length+zs.length<=sizeLine) (_:∀ p,H p=none->Q (.ref p) (upd H p (.lst (xs++zs))))
def rF:OpR X (Zr .Add) Uu:=by
 intro ZY s σ H x y v u Q I rx ry h;obtain⟨l,b,xs,zs,rfl,rfl,hH,hB,hz,q⟩:=h;cases rx;cases ry;obtain⟨z,its,n,r,hl,e⟩:=I.Oo hH;obtain⟨z2,its2,n2,r2,hl2,e2⟩:=I.Oo hB;refine PySem.P.add_list e e2 ?_ (by rw[Vo,Vo];lia);have ea:its.toArray++its2.toArray=(its++its2).toArray:=by simp
 rw[ea];exact⟨.ref _,_,I.Rx (t':=s.toks) (r.append r2) (by rw[Vf];lia),U,q _ I.fresh⟩
def Ut:R2:=fun x y H Q=>∃ l k xs,x = .ref l/\y = .int k/\H l=some (.lst xs)/\-(2 ^ 63)<=k/\k < 2 ^ 63/\xs.length * k.toNat<=sizeLine ∧
 ∀ p,H p=none->Q (.ref p) (upd H p (.lst (VM k.toNat xs).flatten))
def len_rep {α:Type}(xs:List α)(k:Nat):(VM k xs).flatten.length=k * xs.length:=by
 induction k with
 | zero=>simp
 | succ k ih=>rw[Yl,aaw,Vf,ih,Nat.succ_mul,Nat.add_comm]
def Mg:OpR X (Zr .Mult) Ut:=by
 intro ZY s σ H x y v u Q I rx ry h;obtain⟨l,k,xs,rfl,rfl,hH,h1,h2,hz,q⟩:=h;cases rx;obtain⟨t,rfl⟩:=ry;obtain⟨z,its,n,r,hl,e⟩:=I.Oo hH;have hlen:its.toArray.size * k.toNat<=sizeLine:=by rw[Vo,← hl];exact hz
 have hcap:¬ its.toArray.size * k.toNat > (2 ^ 63 - 1) / 8:=by
  have:(sizeLine:Nat)<=(2 ^ 63 - 1) / 8:=by decide
  lia
 have hfit:¬ (!Builtin.List.listFitsIndex k)=true:=by
  rw[fitsIndex_both h1 h2];exact Ve
 have hlong:¬ aaC (its.toArray.size * k.toNat)=true:=by
  rw[KN hlen];exact Ve
 have hnew:List.foldl (fun x1 x2=>x1++x2) #[] (VM (if its.toArray.isEmpty=true then 0 else k.toNat) its.toArray)=(VM k.toNat its).flatten.toArray:=by
  have f0:∀ m:Nat,List.foldl (fun x1 x2=>x1++x2) #[] (VM m its.toArray)=(VM m its).flatten.toArray:=fun m=>by
   have:=foldl_rep its m [];rw[aa2] at this;exact this
  rw[f0];cases its with
  | nil=>simp
  | cons a r'=>rw[if_neg (by simp)]
 refine wpAny_binaryOp_repeat_ref (T:="list") (U:="int") (by decide) ⟨_,e,U⟩ (fun s'=>typeIs_int s' k t) noFill_list_mul F.fills_int_mul F.slot_int_rmul repeat_list F.slot_int_index.lookup
  (aaL F.slot_int_rmul (typeIs_int s k t) F.entry_int_rmul (F.args_int_rmul_2 _ _) (int___rmul___int_list k t l its.toArray n)
   ⟨e,U,⟨_,e,U⟩,aaL F.slot_list_mul ⟨_,e,U⟩ F.entry_list_mul (F.args_list_mul_2 _ _) (AutoListH.list___mul___list_int_3 l its.toArray n k t hfit hcap hlong) ⟨e,?_⟩⟩)
 rw[hnew];exact⟨.ref _,_,I.Rx (t':=s.toks) (r.rep k.toNat) (by rw[len_rep,Nat.mul_comm];exact hz),U,q _ I.fresh⟩
end
section
variable {prog:Vt}{w:V2}{A:V1}{E:C4}{s:U8}
set_option maxRecDepth 100000 in
end
section
variable {X:Cx}
end
end L2
namespace Att
open PySem PySem.W PySem.Calls PyProof.Rows
def qZ {P:Params}{h:Wg}:∀ (ns:DC) (vs:C9),WellAll P h vs (ns.map WData.int)->Wv vs ns:=by
 intro ns
 induction ns with
 | nil =>
  intro vs w;rw[List.map_nil] at w;cases w;exact .nil
 | cons n ns ih =>
  intro vs w;rw[Wk] at w;cases w with
  | cons a b =>
   cases a;exact .cons _ _ (ih _ b)
def Ih {l:OpenLaw}{n:Nat}(hn:l.most=some n){P:Params}{h:Wg}{args:List WData}{vals:C9}
  (hpre:l.row.toRowW.claim.pre args=true) (hwl:WellAll P h vals args) :
  ∃ a vs ns,vals=[Vq a]/\args=[WData.list (ns.map WData.int)]/\h.get? a=some { cls:=.type "list",data:=.seq vs.toArray }/\Wv vs ns/\ns.length<=n:=by
 have hsh:WShape.hasAll [] args [.list .int]=true:=(pre_splitW hpre).1;have hc:l.pre.holds [] { args:=args }=true:=(pre_splitW hpre).2;obtain⟨d,r,rfl,h1,h2⟩:=hasAllW_cons hsh;obtain rfl:=hasAllW_nil h2;obtain⟨xs,rfl,h3⟩:=hasW_list h1;obtain⟨ns,rfl⟩:=items_int h3;have hlen:ns.length<=n:=by
  unfold OpenLaw.pre at hc;have h4:(WTm.not (.lt (.lit (.int (n:Int))) (.len (.arg 0)))).holds [] { args:=[.list (ns.map .int)] }=true:=by
   have h4:=(holds_andW hc).1;rw[hn] at h4;exact h4
  have h5:=condW_of h4 (w_not (w_lt w_lit (w_len_list (w_arg U))));rw[U7] at h5;refine Nat.le_of_not_lt fun q=>?_;have q':(n:Int) < ((ns.length:Nat):Int):=by lia
  first
   | (rw[decide_eq_true q'] at h5;exact absurd h5 (by decide))
   | (simp at h5;lia)
 cases hwl with
 | cons w1 w2 =>
  cases w2;cases w1 with
  | list ho hall=>exact⟨_,_,ns,U,U,ho,qZ ns _ hall,hlen⟩
def Ff (l:OpenLaw)(args:List WData):l.row.toRowW.claim.post args (.bool true) args=true :=
 postW_of (r:=l.row.toRowW) (X:=(true == true))
  (show WShape.has [] (.bool true) .bool=true by first | rfl | decide | simp [WShape.has,WShape.arms,WShape.armsAll])
  (show (WTm.eq .res (.lit (.bool true))).value [] { args:=args,res:=some (.bool true),after:=args }=some (.bool (true == true)) from w_eq_bool (w_res U) w_lit) U
def zQ {l:OpenLaw}{n:Nat}{q:Vt}{loose:DF}{XP:(VB->C5)->Wg->Prop}{YP:V2->Wg->Prop}{d:DefRec}
  (hn:l.most=some n) (hdf:d.params.defaults=[])
  (call:∀ (w:V2) (s₀ s₁:U8) (mg mb:VB->C5) (fa:Addr) (o:Xz) (pm cd doc:Value) (a:Addr) (vs:C9) (ns:DC),
   Ground q loose [] XP w s₀ mg mb s₁.heap->YP w s₁.heap →
   s₁.heap.get? fa=some o->o.data = .func (docDef d.name d.params d.body d.scope pm cd doc)->s₁.heap.CodeRec cd d.name->mg d.name=some (.ref fa) →
   s₁.heap.get? a=some { cls:=.type "list",data:=.seq vs.toArray }->Wv vs ns->ns.length<=n->s₁.gens = #[] →
   WK (Vl l.prog w) abG (.call (.ref fa) ⟨[.ref a],[]⟩) (fun r s'=>r = .ok (.ret (.bool true))/\OldK s₁.heap s'.heap/\s'.os=s₁.os/\aaz s'.gens) s₁) :
  WalkO q loose XP YP l.row.toRowW d [] (fun f vs=>PySem.call f vs):=by
 intro w s₀ s₁ mg mb G Y fa o pm cd doc dV kV ho hd hcd hD hmg hg args vals as hpre hlay hrd hwl hlo;obtain rfl:dV = .none:=Dflts.none hD hdf;obtain rfl:kV = .none:=Dflts.noKw hD;obtain⟨a,vs,ns,rfl,rfl,hobj,hints,hlen⟩:=Ih hn hpre hwl;refine enter_call (XR (call w s₀ s₁ mg mb fa o pm cd doc a vs ns G Y ho (fd_plain hd) hcd hmg hobj hints hlen hg) fun r s' hq=>?_);obtain⟨rfl,h2,h3,h4⟩:=hq;exact⟨.inl ⟨.bool true,.bool true,[],U,fun _=>U,.bool true,Ff l _,fun _=>⟨aax,fun _ hm=>(nomatch hm)⟩⟩,h2,h3,h4⟩
section
variable {prog:Vt}{w:V2}{A:V1}{E:C4}{s:U8}{K:Frag}
def O9 {R:aan->U8->Prop}{name qual:VB}{params:abj}{body:DA}{scope:XF}{dV kV doc pm cdv ct oc:Value}{an od:C7}{osl:Array (C5)}{f:Addr}{args:Args}{binds:C0}
  (X:K.In s.heap) (hlim:s.heap.NoLimit) (ho:K.lookup f=some ⟨oc,od,.func (fnOf name qual params body scope dV kV doc pm an cdv ct),osl⟩) (hcd:codeIn K cdv qual=true) (hroom:A.depth < recursionLimit)
  (hbind:aaU s (fnOf name qual params body scope dV kV doc pm an cdv ct) args binds)
  (hkind:(binds.all fun y=>scope.names.lookup y.1 == some .local || scope.names.lookup y.1 == some .cell)=true)
  (h:∀ s₁,InCallC s s.heap.objs.size (bindL (envOfC qual scope s.heap.objs.size f cdv).kindOf binds fun _=>none) (cellsFrom (s.heap.objs.size+1) scope.names [])
    (bindC (envOfC qual scope s.heap.objs.size f cdv).kindOf binds fun _=>none) s₁ →
   Vh (Vl prog w) (A.deeper (envOfC qual scope s.heap.objs.size f cdv)) (execs body (envOfC qual scope s.heap.objs.size f cdv))
    (fun fl s'=>R (.ok (.ret (match fl with | .ret v=>v | _=>.none))) s')
    (fun e s'=>Vh (Vl prog w) (A.deeper (envOfC qual scope s.heap.objs.size f cdv)) (leaving (envOfC qual scope s.heap.objs.size f cdv) e) (fun _ s''=>R (.error e) s'') (fun e' s''=>R (.error e') s'') s') s₁)
  (hco:scope.isCoroutine=false) (hgen:scope.isGenerator=false) (hk:scope.kind = .function):WK (Vl prog w) A (.call (.ref f) args) R s:=by
 refine codeAny_call_function hroom (X _ _ ho) U hco hgen U (codeRec_of X hcd) (hbind _ _ _ _ ?_);refine wpAny_newFunctionEnv_cells hk (kindsX hkind _) fun env he s₁ x=>?_;subst he;exact⟨hlim.keeps x.toInCall.keep,codeAny_func (h s₁ x)⟩
end
end Att
namespace L2
open PySem PySem.Spec PyProof.Rows
theorem iI:∀ {vs:C9} {ns:DC},Wv vs ns->Vals (ns.map V.int) vs
 | _,_,.nil=>.nil
 | _,_,.cons n t h=>.cons ⟨t,U⟩ (iI h)
def inClass (s:Stmt)(j:Nat):Stmt:=match s with
 | .ClassDef _ _ _ body _ _ _ _ _ _ _=>body.getD j (.Pass ⟨0,0,0,0⟩)
 | _=>.Pass ⟨0,0,0,0⟩
def cY (s:Stmt):abj:=match s with
 | .FunctionDef _ a _ _ _ _ _ _ _ _=>a
 | _=>{ posonlyargs:=[],args:=[],vararg:=none,kwonlyargs:=[],kw_defaults:=[],kwarg:=none,defaults:=[] }
def bG (s:Stmt):DA:=match s with
 | .FunctionDef _ _ b _ _ _ _ _ _ _=>b
 | _=>[]
def az (s:Stmt):XF:=match s with
 | .FunctionDef _ _ _ _ _ _ sc _ _ _=>sc
 | _=>{ kind:=.function,names:=[],isGenerator:=false,isCoroutine:=false }
abbrev CX0:CXT:=fun _ _ _ _ _ _=>False
abbrev E0:XK:=fun _ _ _=>False
def lR {X:Cx}:Passes CX0 X E0:=fun _ _ _ _ _ _ _ h=>h.elim
structure Fun (K:Vi)(x qual:VB)(st:Stmt)(f:Addr)(fd:Wh):Prop where
 ex:∃ (oc:Value) (od:C7) (kV doc pm:Value) (an:C7) (cdv ct:Value) (osl:Array (C5)),
  fd=Yg x qual (cY st) (bG st) (az st) .none kV doc pm an cdv ct/\K.lookup f=some ⟨oc,od,.func fd,osl⟩/\Y9 K cdv qual=true
 kp:Xa K (.ref f)=true
section
variable {P:Vt}{w:V2}{K:Vi}{mg:VB->Option Value}{base:Wg}
def Fun.ok {x qual:VB}{st:Stmt}{f:Addr}{fd:Wh}{N ps:DF}{k:Nat}{sp:Sp}(F:Fun K x qual st f fd)(S:aD N ps (az st))(len:∀ vs H Q E,sp vs H Q E->vs.length=ps.length)
  (hbody:∀ (cdv:Value) (A:V1) (outer:DB) (s:U8) (H:Hp) (vs:List V) (Q:VK) (E:XK),d9 k (A.deeper (envOfC qual (az st) s.heap.objs.size f cdv))->sp vs H Q E →
   ∃ t,PSs (wG CX0 P w K mg base N qual (az st) f cdv A outer s H E).nox (bG st) t/\t { nx:=fun _ H'=>Q .non H',rt:=Q } (start N vs) H):aZ P w K mg base CX0 (k+1) f fd ps sp:=by
 obtain⟨oc,od,kV,doc,pm,an,cdv,ct,osl,rfl,lk,hcd⟩:=F.ex;refine M6 lk hcd S len fun A outer s H vs Q E hr hsp=>?_;obtain⟨t,h,q⟩:=hbody cdv A outer s H vs Q E hr hsp;exact⟨t,h.nox,q⟩
def Fun.binds {x qual:VB}{st:Stmt}{f:Addr}{fd:Wh}{ps:DF}(F:Fun K x qual st f fd)
  (h:∀ (kV doc pm:Value) (an:C7) (cdv ct:Value) (us:C9),us.length=ps.length->YZ (Yg x qual (cY st) (bG st) (az st) .none kV doc pm an cdv ct) ⟨us,[]⟩=pure (ps.zip us)):Binds K fd ps []:=by
 obtain⟨oc,od,kV,doc,pm,an,cdv,ct,osl,rfl,lk,hcd⟩:=F.ex;exact .all (h kV doc pm an cdv ct)
def mU {x qual:VB}{st:Stmt}{f:Addr}{oc:Value}{od an:C7}{osl:Array (C5)}{kV doc pm cdv ct:Value}(l:K.lookup f=some ⟨oc,od,.func (Yg x qual (cY st) (bG st) (az st) .none kV doc pm an cdv ct),osl⟩)
  (c:Y9 K cdv qual=true) (k:Xa K (.ref f)=true):Fun K x qual st f (Yg x qual (cY st) (bG st) (az st) .none kV doc pm an cdv ct):=⟨⟨oc,od,kV,doc,pm,an,cdv,ct,osl,U,l,c⟩,k⟩
end
def aJ {n:Nat}(h:n<=1000):n < sizeLine:=Zz h (by decide)
section
variable {X:Cx}
def pv (i:Nat){x:VB}{pos:YS}(hN:X.N[i]? = some x:=by rfl)(hv:Vis X.env.scope x:=by first | exact Za rfl | exact Zn (Za rfl) | exact Zn (Zn rfl))(hd:(x == ("__debug__" : VB))=false:=by decide)
  (hcd:(x == ("__classdict__" : VB))=false:=by decide):PE X (.Name x pos) (vW i):=Mu hN hv hd hcd
end
def bK {A B:Prop}(h:B):if false=true then A else B:=by
 rw[if_neg Ve];exact h
def cL {A B:Prop}(h:A):if true=true then A else B:=by
 rw[if_pos U];exact h
def jx {c A B:Prop}[Decidable c](h1:c->A)(h2:¬ c->B):if c then A else B:=by
 by_cases h:c;{rw[if_pos h];exact h1 h};{rw[if_neg h];exact h2 h}
def aH (H H':Hp):Prop:=∀ b o,H b=some o->H' b=some o
def aH.refl (H:Hp):aH H H:=fun _ _ h=>h
def aH.trans {H H1 H2:Hp}(a:aH H H1)(b:aH H1 H2):aH H H2:=fun c o h=>b c o (a c o h)
def aH.free {H H':Hp}(e:aH H H'){l:Addr}(h:H' l=Option.none):H l=Option.none:=by
 cases q:H l with
 | none=>rfl
 | some o =>
  rw[e l o q] at h;cases h
def aH.seq {K:Vi}{H H':Hp}{a:Addr}{xs:List V}(e:aH H H')(h:SqL K H a xs):SqL K H' a xs:=by
 rcases h with (h | ⟨o,h⟩) | h;{exact .inl (.inl (e _ _ h))};{exact .inl (.inr ⟨o,e _ _ h⟩)};{exact .inr h}
end L2
set_option maxHeartbeats 4000000
namespace L2
open PySem PySem.Spec PyProof.Rows
theorem Ja {env:Env}:∀ {names:List (VB × aap)} {x:VB},names.lookup x=some .free →
  (names.map fun (n,k)=>if (k == Xo && env.scope.kind == .function && env.kindOf n == some .cell) then (n,abw) else (n,k)).lookup x=some .cell ∨
  (names.map fun (n,k)=>if (k == Xo && env.scope.kind == .function && env.kindOf n == some .cell) then (n,abw) else (n,k)).lookup x=some .free
 | [],_,h=>by simp at h
 | (n,k)::r,x,h=>by
  have ih:=@Ja env r x;rw[Wk];cases hx:x == n with
  | true =>
   rw[Wt,hx] at h;cases h;by_cases hc:(Xo == Xo && env.scope.kind == .function && env.kindOf n == some .cell)=true;{refine .inl ?_;dsimp only;rw[if_pos hc,Wt,hx]};{refine .inr ?_;dsimp only;rw[if_neg hc,Wt,hx]}
  | false =>
   rw[Wt,hx] at h;dsimp only;by_cases hc:(k == Xo && env.scope.kind == .function && env.kindOf n == some .cell)=true;{rw[if_pos hc,Wt,hx];exact ih h};{rw[if_neg hc,Wt,hx];exact ih h}
theorem za {env:Env}:∀ {names:List (VB × aap)} {x:VB} {k':aap},
  (names.map fun (n,k)=>if (k == Xo && env.scope.kind == .function && env.kindOf n == some .cell) then (n,abw) else (n,k)).lookup x=some k'->names.lookup x=some k'∨names.lookup x=some .free
 | [],_,_,h=>by simp at h
 | (n,k)::r,x,k',h=>by
  have ih:=@za env r x k';rw[Wk] at h;dsimp only at h;cases hx:x == n with
  | true =>
   rw[Wt,hx];by_cases hc:(k == Xo && env.scope.kind == .function && env.kindOf n == some .cell)=true
   ·have hk:k = .free:=by
     rw[WX,WX] at hc;exact eq_of_beq hc.1.1
    exact .inr (by rw[hk])
   ·rw[if_neg hc,Wt,hx] at h;exact .inl h
  | false =>
   rw[Wt,hx];by_cases hc:(k == Xo && env.scope.kind == .function && env.kindOf n == some .cell)=true;{rw[if_pos hc,Wt,hx] at h;exact ih h};{rw[if_neg hc,Wt,hx] at h;exact ih h}
theorem zF {env:Env}:∀ (names:List (VB × aap)) (acc:C2),(∀ y∈names,y.2 = .free->∃ c,env.cells.lookup y.1=some c)->(∀ n c,acc.lookup n=some c->env.cells.lookup n=some c) →
  ∃ cl,(forIn names acc (fun (x:VB × aap) (r:C2)=>(match x with | (name,kind)=>if (kind == Xo)=true then (do let c ← cellOf env name;pure (Zx ((name,c)::r))) else pure (Zx r):Sem (ForInStep (C2)))))=pure cl ∧
   (∀ n c,cl.lookup n=some c->env.cells.lookup n=some c)/\(∀ n c,acc.lookup n=some c->∃ c',cl.lookup n=some c')/\∀ y∈names,y.2 = .free->∃ c,cl.lookup y.1=some c
 | [],acc,_,h=>⟨acc,by rw[List.forIn_nil],h,fun _ c e=>⟨c,e⟩,fun y hy=>by simp at hy⟩
 | (n,k)::r,acc,hf,h=>by
  rw[List.forIn_cons];dsimp only;by_cases hk:(k == Xo)=true
  ·rw[if_pos hk];have hk':k = .free:=eq_of_beq hk;obtain⟨c,hc⟩:=hf (n,k) Vm hk';have hc:env.cells.lookup n=some c:=hc;have ec:cellOf env n=pure c:=by unfold cellOf;rw[hc]
   have h2:∀ m d,((n,c)::acc).lookup m=some d->env.cells.lookup m=some d:=fun m d e=>by
    rw[Wt] at e;cases hx:m == n with
    | true=>rw[hx] at e;cases e;rw[eq_of_beq hx];exact hc
    | false=>rw[hx] at e;exact h m d e
   obtain⟨cl,e1,e2,e3,e4⟩:=zF r ((n,c)::acc) (fun y hy=>hf y (Vp _ hy)) h2;refine⟨cl,by rw[ec,pure_bind,pure_bind];exact e1,e2,fun m d e=>?_,fun y hy hyf=>?_⟩;{refine (match hx:m == n with | true=>e3 m c (by rw[Wt,hx]) | false=>e3 m d (by rw[Wt,hx];exact e))}
   ·rcases List.mem_cons.mp hy with rfl | hy;{exact e3 n c (by rw[Wt,beq_self_eq_true])};{exact e4 y hy hyf}
  ·rw[if_neg hk];obtain⟨cl,e1,e2,e3,e4⟩:=zF r acc (fun y hy=>hf y (Vp _ hy)) h;refine⟨cl,by rw[pure_bind];exact e1,e2,e3,fun y hy hyf=>?_⟩;rcases List.mem_cons.mp hy with rfl | hy;{exact absurd (by rw[show k=Xo from hyf];rfl) hk};{exact e4 y hy hyf}
def uU {scope:XF}{env:Env}(h:∀ y∈scope.names,y.2 = .free->∃ c,env.cells.lookup y.1=some c) :
  ∃ cl,closureFor scope env=pure cl/\(∀ n c,cl.lookup n=some c->env.cells.lookup n=some c)/\∀ y∈scope.names,y.2 = .free->∃ c,cl.lookup y.1=some c:=by
 obtain⟨cl,e1,e2,_,e4⟩:=zF scope.names [] h (fun _ _ e=>by simp at e);refine⟨cl,?_,e2,e4⟩;unfold closureFor
 first
  | exact e1
  | (rw[← bind_pure (x:=pure cl),← e1];rfl)
  | (simp only[bind_pure];exact e1)
def bC (X:Cx)(scope:XF)(cl:C2)(C:Addr)(N:DF)(s:U8)(H:Hp)(fp:Db):Cx :=
 {X with N:=N,s₀:=s,H₀:=H,env:=abF scope cl C X.env,outer:=X.stack,ex:=fp,fn:=fun _=>false,pn:=[],xe:=fun _ _=>False }
structure pF (X:Cx)(scope:XF)(F:DF)(cap:DD):Prop where
 kind:scope.kind = .function
 cell:∀ y∈scope.names,y.2≠.cell
 nms:∀ y∈scope.names,y.2 = .local->scope.names.lookup y.1=some .local
 fr:∀ y∈scope.names,y.2 = .free->X.env.kindOf y.1=some .cell∨X.env.kindOf y.1=some .free
 len:cap.length=F.length
 at':∀ (k:Nat) (x:VB),F[k]? = some x->∃ i,cap[k]? = some i/\X.N[i]? = some x/\scope.names.lookup x=some .free
def PTs (X:Cx)(ifs:Do)(t:TT):Prop :=
 ∀ (ZY:C1) (s:U8) (σ:St) (H:Hp) (Q:Bool->Hp->Prop),Inv X ZY σ H s->t σ H Q →
  Vh (Vl X.prog X.w) X.A (forIn ifs true fun c r=>if r=true then do let ok ← isTrue c X.env (Wy c X.env);pure (Zx ok) else pure (Zx r)) (TP X ZY σ Q) X.xe s
def Ox:TT:=fun _ H Q=>Q true H
def cI {X:Cx}:PTs X [] Ox:=fun _ _ _ H _ I h=>wpAny_tests_nil ⟨H,I,h⟩
def jl {X:Cx}{c:Expr}{t:TT}(hc:PT X c t):PTs X [c] t:=fun ZY s σ H Q I h=>wpAny_tests_one (hc ZY s σ H Q I h)
def Ea {prog:Vt}{w:V2}{A:V1}{R:aan->U8->Prop}{s:U8}{elt target iter:Expr}{ifs:Do}{scope:XF}{pos:YS}{it acc:Value}{env:Env}(I:Nat->U8->Prop)
  (turn:∀ n s,I n s->Vh (Vl prog w) A (YC it) (fun r s₁=>match r with
   | none=>R (.ok .next) s₁
   | some v=>Vh (Vl prog w) A (Yc target it v) (fun _ s₀=>Vh (Vl prog w) A (aaM target env v) (fun _ s₂ =>
     Vh (Vl prog w) A (forIn ifs true fun c r=>if r=true then do let ok ← isTrue c env (Wy c env);pure (Zx ok) else pure (Zx r)) (fun ok s₃ =>
      if ok=true then Vh (Vl prog w) A (Wy elt env) (fun x s₄=>Vh (Vl prog w) A (call (.builtin "list.append") [acc,x]) (fun _ s₅=>∃ m,m < n/\I m s₅) (fun _ _=>False) s₄) (fun _ _=>False) s₃
      else ∃ m,m < n/\I m s₃) (fun _ _=>False) s₂) (fun _ _=>False) s₀) (fun _ _=>False) s₁) (fun _ _=>False) s)
  (n:Nat) (h:I n s):WK (Vl prog w) A (.compLoop (.ListComp elt [⟨target,iter,ifs,0⟩] scope pos) 0 it acc env) R s:=by
 have no:∀ {E:C4} (x:Value) (s':U8),(fun (_:Value) (_:U8)=>False) x s'->E x s':=fun _ _ z=>z.elim;refine codeAny_loop U I (fun n s hI=>?_) n h;refine (show Vh (Vl prog w) A ((compTurn (.ListComp elt [⟨target,iter,ifs,0⟩] scope pos) 0 it acc env).onRaise (fun x=>do aaf x env;ace x)) _ _ s from wpAny_noted ?_);rw[compTurn_list];refine U6 (X3 (U6 (Wc (turn n s hI) (fun r s₁ h₁=>?_) no)));cases r with
 | none=>exact Va h₁
 | some v =>
  refine U6 (Wc h₁ (fun _ s₀ h₀=>U6 (Wc h₀ (fun _ s₂ h₂=>U6 (Wc h₂ (fun ok s₃ h₃=>?_) no)) no)) no);cases ok with
  | false=>exact Va ⟨U,h₃⟩
  | true=>exact U6 (U6 (Wc h₃ (fun x s₄ h₄=>U6 (Wc h₄ (fun _ s₅ h₅=>Va (Va ⟨U,h₅⟩)) no)) no))
def lU (D:Addr)(σ0:St)(J:It)(g:TG)(tt:TT)(te:TE)(H1:Hp)(Q:Hp->Prop):Prop :=
 ∃ W:Nat->Nat->List V->St->Hp->Prop,(∃ m,W 0 m [] σ0 (upd H1 D (.lst []))) ∧
  ∀ i m ys σ' H',W i m ys σ' H'->H' D=some (.lst ys)/\((J.stop i H'/\Q H')∨(J.go i H'/\∃ N:List V->St->Hp->Prop,(∀ zs σ2 H2,N zs σ2 H2->∃ m',m' < m/\W (i+1) m' zs σ2 H2) ∧
   ∀ x H2,J.yld i H' x H2->g x σ' H2 fun σ3 H3=>tt σ3 H3 fun b H4=>if b=true then te σ3 H4 fun y H5=>H5 D=some (.lst ys)/\ys.length < sizeLine/\N (ys++[y]) σ3 (upd H5 D (.lst (ys++[y]))) else N ys σ3 H4))
def Lp (n:Nat)(cap:DD)(σ:St):St:=VM n none++cap.map fun i=>(σ[i]?).join
def Tc (n:Nat)(cap:DD)(wi:TI)(g:TG)(tt:TT)(te:TE):TE:=fun σ H Q=>wi σ H fun J H1=>∀ D,H1 D=none->lU D (Lp n cap σ) J g tt te H1 fun H2=>Q (.ref D) H2
section
variable {X:Cx}{elt tg iter:Expr}{ifs:Do}{scope:XF}{pos:YS}{L F:DF}{cap:DD}{wi:TI}{g:TG}{tt:TT}{te:TE}
def zX {ZY:C1}{σ:St}{H:Hp}{s:U8}(I:Inv X ZY σ H s){b:Addr}(h1:b≠X.env.locals)(h2:b ∉ X.fs):b ∉ frs X.stack:=fun z=>(List.mem_cons.mp (I.ux b z)).elim h1 h2
def uC {cl:C2}{ZY:C1}{σ:St}{H:Hp}{s:U8}{fp:Db}{h₁:Wg}{tk:Nat}(ok:pF X scope F cap)(I:Inv X ZY σ H s)(hfp:∀ b∈fp,yQ X ZY H b/\b < s.heap.objs.size)
  (sub:∀ n c,cl.lookup n=some c->X.env.cells.lookup n=some c) (all:∀ y∈scope.names,y.2 = .free->∃ c,cl.lookup y.1=some c)
  (ns:h₁.Ns s.heap.objs.size fun _=>none) (kp:∀ b o,s.heap.get? b=some o->h₁.get? b=some o) :
  Inv (bC X scope cl s.heap.objs.size (L++F) s H fp) [] (Lp L.length cap σ) H { s with heap:=h₁,toks:=tk }:=by
 have frk:∀ x,scope.names.lookup x=some .free->X.env.kindOf x=some .cell∨X.env.kindOf x=some .free:=fun x e=>ok.fr (x,.free) (Ws e) U;have okX:(bC X scope cl s.heap.objs.size (L++F) s H fp).Ok:=by
  refine⟨I.ok.mod,ok.kind,I.ok.glob,I.ok.blt,Vb _,fun x y c e1 e2=>I.ok.inj x y c (sub x c e1) (sub y c e2),fun x hx=>?_,fun x c hx _=>?_,I.ok.hd,I.ok.frames,.inl U,fun b hb=>?_,I.bs,VH I.ok.bsz I.sz,fun b o e hb=>?_,fun b hb=>?_,I.stack,I.zG⟩
  ·have e:scope.names.lookup x=some .free:=by
    rcases hx with hx | hx
    ·rcases za (env:=X.env) (show _=some abw from hx) with e | e;{exact absurd U (ok.cell _ (Ws e))};{exact e}
    ·rcases za (env:=X.env) (show _=some Xo from hx) with e | e <;> exact e
   exact all (x,.free) (Ws e) U
  ·exact absurd (show false=true from hx) Ve
  ·exact⟨Vw (hfp b hb).2,fun x c e=>(hfp b hb).1.2.2.2.2.1 x c (sub x c e)⟩
  ·obtain⟨_,_,_,f3,_⟩:=(hfp b hb).1;rcases f3 with z | z;{exact I.ok.noex b o e z};{exact absurd (Vc (Vj e) (VH I.ok.bsz z)) (Wj _)}
  ·obtain⟨_,f1,f2,_⟩:=(hfp b hb).1;exact zX I f1 f2
 refine⟨okX,U,I.bare,Un.kept kp,⟨_,ns,fun i x v e1 e2 e3=>?_⟩,fun x c e=>?_,I.hok.fresh (Vb _),fun x c e=>I.freeC x c (sub x c e),fun p hp=>absurd (show p∈([]:C1) from hp) (by simp),I.hok.kept kp,?_⟩
 ·have e1:(L++F)[i]? = some x:=e1;have e2:(VM L.length none++cap.map fun i=>(σ[i]?).join)[i]? = some (some v):=e2;have hL:¬ i < L.length:=fun hi=>by
   rw[List.getElem?_append_left (by simpa using hi),aaI] at e2;split at e2 <;> cases e2
  have hi:L.length<=i:=Nat.le_of_not_lt hL;rw[Zc hi] at e1;rw[Zc (by simpa using hi),YG,Vr] at e2;obtain⟨j,hj,hN,hk⟩:=ok.at' _ _ e1;rw[hj] at e2;have e4:(σ[j]?).join=some v:=by simpa using e2
  have e5:σ[j]? = some (some v):=by
   cases q:σ[j]? with
   | none=>rw[q] at e4;cases e4
   | some a=>rw[q] at e4;exact congrArg some e4
  obtain⟨m,hn,hl⟩:=I.loc;have kd:=frk x hk;obtain⟨u,r,lk⟩:=hl j x v hN e5 (kd.elim (fun z=>.inr (.inl z)) fun z=>.inr (.inr z));obtain⟨c,hc,hcell⟩:∃ c,X.env.cells.lookup x=some c/\s.heap.IsCell c (some u):=by
   rcases lk with⟨z,_⟩ | ⟨_,c,z1,z2⟩;{rcases kd with y | y <;> (rw[y] at z;cases z)}
   ·exact⟨c,z1,z2⟩
  obtain⟨c',hc'⟩:=all (x,.free) (Ws hk) U;have ec:c'=c:=by
   have:=sub x c' hc';rw[hc] at this;exact (VV this).symm
  subst ec;obtain⟨o,ho,hd⟩:=hcell;exact⟨u,r,.inr ⟨(Ja (env:=X.env) hk),c',hc',o,kp _ _ ho,hd⟩⟩
 ·obtain⟨v,o,ho,hd⟩:=I.cell x c (sub x c e);exact⟨v,o,kp _ _ ho,hd⟩
 ·show (VM L.length (none:Option V)++cap.map fun i=>(σ[i]?).join).length=(L++F).length;rw[Vf,Vf,YG,U7,ok.len]
def Bp {cl:C2}{ZY:C1}{σ:St}{s2:U8}{H2:Hp}{it:Addr}{fp:Db}{tn:Nat->Wg->Prop}{J:It}{use:Option (Value->Sem Unit)}{QQ:C4}{Z:Hp->Prop}{E:C4}
  (hc:X.calm=true) (ok:pF X scope F cap)
  (sub:∀ n c,cl.lookup n=some c->X.env.cells.lookup n=some c) (all:∀ y∈scope.names,y.2 = .free->∃ c,cl.lookup y.1=some c)
  (hg:∀ cl C s H fp,PG (bC X scope cl C (L++F) s H fp) tg g) (ht:∀ cl C s H fp,PTs (bC X scope cl C (L++F) s H fp) ifs tt) (he:∀ cl C s H fp,PE (bC X scope cl C (L++F) s H fp) elt te)
  (I2:Inv X ZY σ H2 s2) (T:Turn X.prog X.w X.K tg J fp it tn) (st2:tn 0 s2.heap) (f2:∀ b∈fp,yQ X ZY H2 b)
  (q2:lU s2.heap.objs.size (Lp L.length cap σ) J g tt te H2 Z)
  (fin:∀ (C:Addr) (s':U8) (H':Hp),Z H'->Inv X ZY σ H' s'->(∃ m,s'.heap.Ns C m)->H' C=none->C≠X.env.locals->X.s₀.heap.objs.size<=C->(∀ x c,X.env.cells.lookup x=some c->c≠C)->(∀ p∈X.pn++ZY,p.1≠C) →
   aaE (Vl X.prog X.w) X.A E use QQ (.ref s2.heap.objs.size) C (.ok .next) s') :
  Vh (Vl X.prog X.w) X.A (newList []) (fun acc s₃=>Vh (Vl X.prog X.w) X.A (newFunctionEnv scope X.env.globals cl [] X.env.qual none .none (some X.env)) (fun cenv s₄ =>
   WK (Vl X.prog X.w) X.A (.compStart (.ListComp elt [⟨tg,iter,ifs,0⟩] scope pos) 0 (.ref it) acc { cenv with scope:=relabel scope X.env }) (aaE (Vl X.prog X.w) X.A E use QQ acc cenv.locals) s₄) E s₃) E s2:=by
 have hD:H2 s2.heap.objs.size=none:=I2.fresh;refine V7 (aa6 ok.cell (by intro y hy;simp at hy) (fun h₁ hns₁ hsb₁=>?_) ok.kind);dsimp only at hns₁ hsb₁ ⊢;have I3:Inv X ZY σ (upd H2 s2.heap.objs.size (.lst [])) { s2 with heap:=s2.heap.push { cls:=.type "list",data:=.seq ([]:C9).toArray } }:=I2.Rx (t':=s2.toks) (ys:=[]) (its:=[]) .nil (V3 _);have blt:∀ b∈fp,b < s2.heap.objs.size:=fun b hb=>let ⟨_,e,_⟩:=T.obj 0 _ st2 b hb;Vj e;have szC:(s2.heap.push { cls:=.type "list",data:=.seq ([]:C9).toArray }).objs.size=s2.heap.objs.size+1:=WT _ _;generalize hs3:({ s2 with heap:=s2.heap.push { cls:=.type "list",data:=.seq ([]:C9).toArray } }:U8)=s3 at I3;have es3:s3.heap=s2.heap.push { cls:=.type "list",data:=.seq ([]:C9).toArray }:=by rw[← hs3]
 have eos:s3.os=s2.os:=by rw[← hs3]
 have fok:∀ b∈fp,yQ X ZY (upd H2 s2.heap.objs.size (.lst [])) b/\b < s3.heap.objs.size:=fun b hb=>by
  obtain⟨f0,fr⟩:=f2 b hb;refine⟨⟨by rw[aF (Vw (blt b hb))];exact f0,fr⟩,?_⟩;rw[es3,szC];exact Wn (blt b hb)
 have hkp:∀ b o,s3.heap.get? b=some o->h₁.get? b=some o:=fun b o e=>by
  have e':b < s3.heap.objs.size:=Vj e;rw[es3] at e e';exact (hsb₁.2 b (Vw e')).trans (U9 _ e)
 have hns:h₁.Ns s3.heap.objs.size fun _=>none:=by
  rw[es3];exact hns₁
 have I4:∀ tk,Inv (bC X scope cl s3.heap.objs.size (L++F) s3 (upd H2 s2.heap.objs.size (.lst [])) fp) [] (Lp L.length cap σ) (upd H2 s2.heap.objs.size (.lst [])) { s3 with heap:=h₁,toks:=tk }:=fun tk =>
  uC (L:=L) ok I3 fok sub all hns hkp
 have stat:∀ {H':Hp},(∀ b∈fp,H' b=none)->∀ b∈fp,yQ (bC X scope cl s3.heap.objs.size (L++F) s3 (upd H2 s2.heap.objs.size (.lst [])) fp) [] H' b:=fun {H'} hn b hb=>by
  obtain⟨⟨_,g1,g2,g3,g4,g5⟩,g6⟩:=fok b hb;exact⟨hn b hb,Vw g6,zX I3 g1 g2,.inl hb,fun x c e=>g4 x c (sub x c e),fun p hp=>absurd (show p∈([]:C1) from hp) (by simp)⟩
 have loop:∀ tk,WK (Vl X.prog X.w) X.A (.compLoop (.ListComp elt [⟨tg,iter,ifs,0⟩] scope pos) 0 (.ref it) (.ref s2.heap.objs.size) (abF scope cl s3.heap.objs.size X.env))
   (aaE (Vl X.prog X.w) X.A E use QQ (.ref s2.heap.objs.size) s3.heap.objs.size) { s3 with heap:=h₁,toks:=tk }:=fun tk=>by
  obtain⟨W,⟨m0,w0⟩,turn⟩:=q2;have st3:tn 0 h₁:=T.keep 0 _ _ st2 fun b hb o e=>hkp b o (by rw[es3];exact U9 _ e);refine Ea (fun n s'=>∃ i ys σ' H',Inv (bC X scope cl s3.heap.objs.size (L++F) s3 (upd H2 s2.heap.objs.size (.lst [])) fp) [] σ' H' s'/\tn i s'.heap/\(∀ b∈fp,H' b=none)/\W i n ys σ' H') ?_ m0
   ⟨0,[],_,_,I4 tk,st3,fun b hb=>(fok b hb).1.1,w0⟩
  rintro n s5 ⟨i,ys,σ5,H5,I5,st5,fr5,w5⟩;obtain⟨hDl,alt⟩:=turn i n ys σ5 H5 w5;rcases alt with⟨stop,qz⟩ | ⟨go,N,hN,step⟩
  ·refine thn (T.done (bC X scope cl s3.heap.objs.size (L++F) s3 (upd H2 s2.heap.objs.size (.lst [])) fp) U U U hc i [] s5 σ5 H5 _ I5 (stat fr5) st5 stop) fun r s6 ⟨hr,I6⟩=>?_;subst hr;have un:Un (frs X.stack) fp H2 H5 s2.heap s6.heap:=by
    have u1:Un (frs X.stack) fp H2 (upd H2 s2.heap.objs.size (.lst [])) s2.heap s3.heap:=by
     rw[es3];exact Un.laid (fun _ _ q=>U9 _ q) (Vb _) hD
    exact u1.trans I6.base
   have J1:Inv X ZY σ H5 s6:=I2.call' (I6.os.trans eos) un I6.hok I6.bare fun b hb=>by
    obtain⟨_,g1,_,g3,g4,g5⟩:=f2 b hb;exact⟨g3,g1,g4,g5⟩
   have hC:s2.heap.objs.size<=s3.heap.objs.size:=by rw[es3,szC];exact WY _
   obtain⟨m,hm,_⟩:=I6.loc;refine fin s3.heap.objs.size s6 H5 qz J1 ⟨m,hm⟩ I6.free (Yt (Vc I2.lt hC)) (VH I2.sz hC) (fun x c e z=>?_) (fun p hp z=>?_);{obtain⟨v,q⟩:=I2.cell x c e;exact absurd (Vc q.lt (by rw[z];exact hC)) (Wj _)};{exact absurd (Vc (Vj (I2.pin p hp).1) (by rw[z];exact hC)) (Wj _)}
  ·refine thn (T.item (bC X scope cl s3.heap.objs.size (L++F) s3 (upd H2 s2.heap.objs.size (.lst [])) fp) U U U hc i [] s5 σ5 H5 _ I5 (stat fr5) st5 go) fun r s6 ⟨u,hr,h6⟩=>?_;subst hr;refine thn h6 fun _ s7 ⟨x,H7,I7,r7,y7,st7,fr7⟩=>?_;have I7':=I7.pinned (stat fr7) (T.obj _ _ st7);refine thn (hg _ _ _ _ _ _ s7 σ5 H7 x u _ I7' r7 (step x H7 y7)) fun _ s8 ⟨σ8,H8,I8,q8⟩=>?_;have again:∀ {σ9:St} {H9:Hp} {s9:U8} {zs:List V},Inv (bC X scope cl s3.heap.objs.size (L++F) s3 (upd H2 s2.heap.objs.size (.lst [])) fp) ([]++pP fp s7.heap) σ9 H9 s9->N zs σ9 H9 →
     ∃ m,m < n/\∃ i ys σ' H',Inv (bC X scope cl s3.heap.objs.size (L++F) s3 (upd H2 s2.heap.objs.size (.lst [])) fp) [] σ' H' s9/\tn i s9.heap/\(∀ b∈fp,H' b=none)/\W i m ys σ' H':=fun {σ9 H9 s9 zs} I9 n9=>by
    obtain⟨m',hm,w9⟩:=hN zs σ9 H9 n9;refine⟨m',hm,i+1,zs,σ9,H9,I9.j6,T.keep _ _ _ st7 fun b hb o e=>(I9.pin (b,o) (V0 _ (V0 _ (dJ hb e)))).1,fun b hb=>?_,w9⟩;obtain⟨o,e,d⟩:=T.obj _ _ st7 b hb;exact (I9.pin (b,o) (V0 _ (V0 _ (dJ hb e)))).2.1
   refine thn (ht _ _ _ _ _ _ s8 σ8 H8 _ I8 q8) fun okb s9 ⟨H9,I9,q9⟩=>?_;cases okb with
   | false =>
    rw[if_neg Ve] at q9 ⊢;exact again I9 q9
   | true =>
    rw[if_pos U] at q9 ⊢;refine thn (he _ _ _ _ _ _ s9 σ8 H9 _ I9 q9) fun y s10 ⟨yv,H10,I10,r10,e10,z10,n10⟩=>?_;refine thn (cz _ s10 σ8 H10 (.ref s2.heap.objs.size) [yv] (.ref s2.heap.objs.size) [y] (fun _ H'=>N (ys++[yv]) σ8 H') I10 U (.cons r10 .nil) ⟨_,ys,yv,U,U,e10,z10,n10⟩) fun _ s11 ⟨_,H11,I11,_,n11⟩=>?_;exact again I11 n11
 have eC:(s2.heap.push { cls:=.type "list",data:=.seq ([]:C9).toArray }).objs.size=s3.heap.objs.size:=by rw[es3]
 have goal:∀ tk,WK (Vl X.prog X.w) X.A (.compStart (.ListComp elt [⟨tg,iter,ifs,0⟩] scope pos) 0 (.ref it) (.ref s2.heap.objs.size) (abF scope cl s3.heap.objs.size X.env))
   (aaE (Vl X.prog X.w) X.A E use QQ (.ref s2.heap.objs.size) s3.heap.objs.size) { s3 with heap:=h₁,toks:=tk }:=fun tk =>
  codeAny_compStart_list (loop tk) (T.self _ 0 _ _ _ (T.keep 0 _ _ st2 fun b hb o e=>hkp b o (by rw[es3];exact U9 _ e)) (loop tk))
 have g0:=goal (s2.toks+([]:C0).length);subst hs3;exact g0
def bU (hc:X.calm=true)(ok:pF X scope F cap)(hi:PI X tg iter wi)
  (hg:∀ cl C s H fp,PG (bC X scope cl C (L++F) s H fp) tg g) (ht:∀ cl C s H fp,PTs (bC X scope cl C (L++F) s H fp) ifs tt) (he:∀ cl C s H fp,PE (bC X scope cl C (L++F) s H fp) elt te)
  (hs:∀ x,Xq iter X.env x=pure x:=by intro _;rfl):PE X (.ListComp elt [⟨tg,iter,ifs,0⟩] scope pos) (Tc L.length cap wi g tt te):=by
 intro ZY s σ H Q I h;obtain⟨cl,e1,e2,e3⟩:=uU (scope:=scope) (env:=X.env) (fun y hy hf=>I.ok.has _ (ok.fr y hy hf));rw[eval_ListComp];refine aaA (use:=none) U hs e1 ok.kind ok.nms (thn (hi ZY s σ H _ I h) fun v s1 h1=>thn h1 fun itv s2 h2=>?_);obtain⟨it,fp,tn,J,H2,e,I2,T,st2,f2,q2⟩:=h2;subst e;refine Bp (Z:=fun H'=>Q (.ref s2.heap.objs.size) H') hc ok e2 e3 hg ht he I2 T st2 f2 (q2 _ I2.fresh) fun C s' H' z J m hCf hCl hCs hCc hCp=>?_;{obtain⟨m,hm⟩:=m;exact⟨m,hm,fun h' hs'=>⟨.ref _,H',J.turned (t':=s'.toks) (fun b o hb e=>(hs'.2 b hb).trans e) hCf hCl (.inr hCs) hCc hCp,U,z⟩⟩}
def Qf (n:Nat)(cap:DD)(wi:TI)(g:TG)(tt:TT)(te:TE)(j:Nat):TS:=fun D σ H=>wi σ H fun J H1=>∀ d,H1 d=none->lU d (Lp n cap σ) J g tt te H1 fun H2=>D.nx (σ.set j (some (.ref d))) H2
def lF {j:Nat}{y:VB}{py spos:YS}(hN:X.N.Nodup)(hj:X.N[j]? = some y)(hy:Loc X.env.scope y)(hc:X.calm=true)(ok:pF X scope F cap)(hi:PI X tg iter wi)
  (hg:∀ cl C s H fp,PG (bC X scope cl C (L++F) s H fp) tg g) (ht:∀ cl C s H fp,PTs (bC X scope cl C (L++F) s H fp) ifs tt) (he:∀ cl C s H fp,PE (bC X scope cl C (L++F) s H fp) elt te)
  (hsw:ZR (.ListComp elt [⟨tg,iter,ifs,0⟩] scope pos) (some (.Name y py)) spos.line X.env=pure true:=by rfl)
  (hs:∀ x,Xq iter X.env x=pure x:=by intro _;rfl) (hf:X.fn y=true∨X.env.scope.names.lookup y=some .local:=by first | exact .inl rfl | exact .inr rfl | assumption) :
  PS X (.Assign [.Name y py] (.ListComp elt [⟨tg,iter,ifs,0⟩] scope pos) spos) (Qf L.length cap wi g tt te j):=by
 intro ZY s σ H D I h;obtain⟨cl,e1,e2,e3⟩:=uU (scope:=scope) (env:=X.env) (fun y hy hf=>I.ok.has _ (ok.fr y hy hf));rw[exec_Assign_Name_used _ _ _ _ hsw];refine U6 (X3 (U6 ?_));show Vh (Vl X.prog X.w) X.A (do let _ ← comprehension (.ListComp elt [⟨tg,iter,ifs,0⟩] scope pos) scope X.env _ (newList []) false (Wy iter X.env) (some (aaM (.Name y py) X.env))) _ _ s
 refine U6 (Wc (aaA (use:=some (aaM (.Name y py) X.env)) (Q:=fun _ s'=>SP X ZY D .next s') U hs e1 ok.kind ok.nms
  (thn (hi ZY s σ H _ I h) fun v s1 h1=>thn h1 fun itv s2 h2=>?_)) (fun _ s' hq=>Va (Va hq)) fun _ _ e=>e)
 obtain⟨it,fp,tn,J,H2,e,I2,T,st2,f2,q2⟩:=h2;subst e;refine Bp (Z:=fun H'=>D.nx (σ.set j (some (.ref s2.heap.objs.size))) H') hc ok e2 e3 hg ht he I2 T st2 f2 (q2 _ I2.fresh) fun C s' H' z J m hCf hCl hCs hCc hCp=>?_;obtain⟨m,hm⟩:=m;refine wpAny_assign_Name (yE J hN hj hy (v:=.ref s2.heap.objs.size) U (fun s5 I5 hs5=>?_) hf);obtain⟨a,sb,ha⟩:=hs5;have hne:C≠a:=by
  rcases ha with rfl | ha;{exact hCl};{exact Wz (hCc y a ha)}
 exact⟨m,hm.sameBut sb hne,fun h' hs'=>⟨_,H',I5.turned (t':=s5.toks) (fun b o hb e=>(hs'.2 b hb).trans e) hCf hCl (.inr hCs) hCc hCp,z⟩⟩
end
structure Df (P:Vt)(w:V2)(K:Vi)(mg:VB->C5)(base:Wg)(x:VB)(k:Nat)(ps:DF)(sp:Sp):Prop where
 ex:∃ (f:Addr) (fd:Wh),aZ P w K mg base CX0 k f fd ps sp/\mg x=some (.ref f)/\Xa K (.ref f)=true/\Binds K fd ps []
section
variable {X:Cx}{k j:Nat}{x:VB}{ps:DF}{sp:Sp}{p pos:YS}{e:Expr}{es:Do}{t:TA}
def aO (D:Df X.prog X.w X.K X.mg X.base x k ps sp)(hr:d9 j X.A)(ha:PA X (e::es) t)(hk:k<=j:=by first | decide | exact Vb _ | lia)(hg:Gl X x:=by rfl)
  (hdb:(x == ("__debug__" : VB))=false:=by decide) (he:Vx (e::es) X.env=(false,Wy e X.env)::Vx es X.env:=by rfl) (hpl:(Xj pos (Vx es X.env)).any (·.1)=false:=by rfl) :
  PE X (.Call (.Name x p) (e::es) [] pos) (Gd sp [] E0 t):=by
 obtain⟨f,fd,F,hm,hkp,hb⟩:=D.ex;exact HS F (hr.mono hk) hg hm hkp hb .nil lR ha hdb he hpl
def ql {i:Int}{tk:Tok}(hm:X.mg x=some (.int i tk))(hg:Gl X x:=by rfl)(hd:(x == ("__debug__" : VB))=false:=by decide):PE X (.Name x pos) (tC (.int i)):=M9 hg hm ⟨_,U⟩ hd
def jD {T:String}(hm:X.mg x=none)(hv:We x=some (.type T))(hg:Gl X x:=by rfl)(hn:x≠"__name__":=by decide)(hd:(x == ("__debug__" : VB))=false:=by decide):PE X (.Name x pos) (tC (.ty T)):=Mx hg hm hv U hn hd
inductive vY (K:VG)(xs:List V)(H:Hp)(Q:VK):Prop where
 | mk (x:V) (T:String) (t:Value) (b:Bool) (_:xs=[x,.ty T]) (_:DR K H x t) (_:Y0 K t (.type T)=some b) (_:Q (.bl b) H)
def cF:fY X (.builtin "isinstance") (vY X.K):=by
 intro ZY s σ H xs us Q I r h;obtain⟨x,T,t,b,rfl,ty,e,q⟩:=h;obtain⟨u,v,rfl,ru,rv⟩:=vals2 r;cases (show v=Yi T from rv);exact Ik I ru ty e fun tk=>⟨.bl b,H,I.tok tk,U,q⟩
def T6 (K:VG):List V->Hp->VK->Prop:=fun xs H Q=>∃ (p:Addr) (ys:List V),xs=[.ref p]/\(SqL K H p ys∨SqT K H p ys)/\Q (.int ys.length) H
def Hf:fY X (.builtin "len") (T6 X.K):=xr
def mq (K:VG):List V->Hp->VK->Prop:=fun xs H Q=>∃ (p:Addr) (ys:List V),xs=[.ref p]/\(SqL K H p ys∨SqT K H p ys)/\∀ l,H l=none->Q (.ref l) (upd H l (.lst ys))
def fL:fY X (.type "list") (mq X.K):=wX
def fX (K:VG):List V->Hp->VK->Prop:=fun xs H Q=>∃ (p:Addr) (ys:List V),xs=[.ref p]/\((SqL K H p ys/\∀ l,H l=none->Q (.ref l) (upd H l (.tup ys)))∨(SqT K H p ys/\Q (.ref p) H))
def bz:fY X (.type "tuple") (fX X.K):=vP
theorem kW:∀ bs:List Bool,(Wx bs.length).all (fun i=>bs.getD i true)=bs.all fun b=>b
 | []=>rfl
 | b::r=>by
  have ih:=kW r;rw[Vv,ZK,Z1,abO,Z1,← ih];rfl
inductive Jy (K:VG)(xs:List V)(H:Hp)(Q:VK):Prop where
 | mk (p:Addr) (bs:List Bool) (_:xs=[.ref p]) (_:SqL K H p (bs.map V.bl)) (_:Q (.bl (bs.all fun b=>b)) H)
def rJ (hc:X.calm=true):fY X (.builtin "all") (Jy X.K):=by
 intro ZY s σ H xs us Q I r h;obtain⟨p,bs,rfl,hq,q⟩:=h;obtain⟨u,rfl,ru⟩:=vals1 r;cases ru;obtain⟨its,rv,pl,hz⟩:=I.list hq;have hlen:bs.length=its.length:=by simpa using rv.length
 refine call_all_walk (ZD pl.isList ?_);have I1:Inv X ZY σ H { s with heap:=s.heap.push { cls:=.type "list_iterator",data:=.fields #[.ref p,.int 0 0] } }:=I.kept (t':=s.toks) fun b o e=>U9 _ e;have hne:p≠s.heap.objs.size:=by
  obtain⟨o,ho,_⟩:=pl.isList;exact Vw (Vj ho)
 refine⟨s.heap.objs.size,_,_,_,_,_,fun i=>bs.getD i true,U,aby (A:=X.A.in1) (I.ok.hd hc) s.heap.objs.size p hne its.toArray,⟨⟨_,Vn _ U,U,U⟩,?_⟩,?_,fun h' tk hk=>?_⟩;{obtain⟨o,ho,hr⟩:=pl.isList;exact⟨o,U9 _ ho,hr⟩}
 ·intro i v s' Q' E' hP hQ;have hP:its[i]? = some v:=by simpa using hP
  have hi:i < bs.length:=by
   rw[hlen];exact (List.getElem?_eq_some_iff.mp hP).1
  obtain⟨u',hu',ru'⟩:=rv.get (i:=i) (x:=V.bl bs[i]) (by rw[Vr,Vg hi];rfl);rw[hP] at hu';cases hu';cases (show v=aaN bs[i] from ru');refine Xp ?_;have eg:bs.getD i true=bs[i]:=by rw[Vz,Vg hi];rfl
  have hQ':Q' (bs.getD i true) s':=hQ;rw[eg] at hQ';exact hQ'
 ·have f:=I.O8 (b:=s.heap.objs.size) (H':=H) (Vb _) I.fresh;have eall:(Wx its.toArray.size).all (fun i=>bs.getD i true)=bs.all fun b=>b:=by
   have el:its.toArray.size=bs.length:=by rw[Vo,hlen]
   rw[el];exact kW bs
  rw[eall];exact⟨.bl _,H,I1.turned (t':=tk) (it:=s.heap.objs.size) (fun b o hb e=>hk b o (by simpa using hb) e) f.1 f.2.1 f.2.2.2.1 f.2.2.2.2.1 f.2.2.2.2.2,U,q⟩
end
def Ge (osc:XF)(oN:DF)(sc:XF)(F:DF)(cap:DD):Bool :=
 decide (sc.kind = .function) && sc.names.all (fun y=>!decide (y.2 = .cell)) && sc.names.all (fun y=>!decide (y.2 = .local) || decide (sc.names.lookup y.1=some .local)) &&
 sc.names.all (fun y=>!decide (y.2 = .free) || decide (osc.names.lookup y.1=some .cell) || decide (osc.names.lookup y.1=some .free)) && decide (cap.length=F.length) &&
 (Wx F.length).all fun k=>(decide (F[k]? = none) || decide ((cap[k]?.bind fun i=>oN[i]?)=F[k]?)) && decide ((F[k]?.bind fun x=>sc.names.lookup x)=some .free)
def bj {X:Cx}{osc sc:XF}{oN F:DF}{cap:DD}(ho:X.env.scope=osc)(hN:X.N=oN)(h:Ge osc oN sc F cap=true):pF X sc F cap:=by
 unfold Ge at h;simp only[WX] at h;obtain⟨⟨⟨⟨⟨h1,h2⟩,h3⟩,h4⟩,h5⟩,h6⟩:=h;refine⟨of_decide_eq_true h1,fun y hy e=>?_,fun y hy e=>?_,fun y hy e=>?_,of_decide_eq_true h5,fun k x e=>?_⟩;{have:=List.all_eq_true.mp h2 y hy;rw[e] at this;exact absurd this (by decide)};{have:=List.all_eq_true.mp h3 y hy;rw[decide_eq_true e] at this;exact of_decide_eq_true (by simpa using this)}
 ·have:=List.all_eq_true.mp h4 y hy;rw[decide_eq_true e] at this;have z:decide (osc.names.lookup y.1=some .cell)=true∨decide (osc.names.lookup y.1=some .free)=true:=by
   rw[Bool.not_true,abx,acj] at this;exact this
  show X.env.scope.names.lookup y.1=_∨X.env.scope.names.lookup y.1=_;rw[ho];exact z.elim (fun q=>.inl (of_decide_eq_true q)) fun q=>.inr (of_decide_eq_true q)
 ·have hk:k < F.length:=(List.getElem?_eq_some_iff.mp e).1;have q:=List.all_eq_true.mp h6 k (List.mem_range.mpr hk);rw[e,WX] at q;obtain⟨q1,q2⟩:=q;have q1:(cap[k]?.bind fun i=>oN[i]?)=some x:=by
   rw[acj] at q1;rcases q1 with z | z;{exact absurd (of_decide_eq_true z) (by simp)};{exact of_decide_eq_true z}
  have q2:sc.names.lookup x=some .free:=of_decide_eq_true q2;cases hc:cap[k]? with
  | none=>rw[hc] at q1;cases q1
  | some i =>
   rw[hc] at q1;exact⟨i,U,by rw[hN];exact q1,q2⟩
def Nb {X:Cx}{scope:XF}{cl:C2}{C:Addr}{N:DF}{s:U8}{H:Hp}{fp:Db}(h:N.Nodup):(bC X scope cl C N s H fp).N.Nodup:=h
section
variable {K:VG}{a D:Addr}{xs:List V}{g:TG}{tt:TT}{te:TE}{H1:Hp}{Q:Hp->Prop}{σ0:St}
def cR (Pv:Nat->List V->St->Hp->Prop)(h0:Pv 0 [] σ0 (upd H1 D (.lst [])))(hl:∀ i ys σ H,i<=xs.length->Pv i ys σ H->SqT K H a xs/\H D=some (.lst ys))
  (hs:∀ i ys x σ H,xs[i]? = some x->Pv i ys σ H->g x σ H fun σ3 H3=>tt σ3 H3 fun b H4=>if b=true then te σ3 H4 fun y H5=>H5 D=some (.lst ys)/\ys.length < sizeLine/\Pv (i+1) (ys++[y]) σ3 (upd H5 D (.lst (ys++[y]))) else Pv (i+1) ys σ3 H4)
  (hd:∀ ys σ H,Pv xs.length ys σ H->Q H):lU D σ0 (Itt K a) g tt te H1 Q:=by
 refine⟨fun i m ys σ H=>m=xs.length - i/\i<=xs.length/\Pv i ys σ H,⟨xs.length,by simp,V3 _,h0⟩,?_⟩;rintro i m ys σ H ⟨rfl,hi,p⟩;obtain⟨q,qD⟩:=hl i ys σ H hi p;refine⟨qD,?_⟩;by_cases hlt:i < xs.length;{refine .inr ⟨⟨xs,xs[i],q,by simp [hlt]⟩,Pv (i+1),fun zs σ' H' p'=>⟨xs.length - (i+1),by lia,U,hlt,p'⟩,fun x H' y=>?_⟩;obtain⟨e,y⟩:=y;subst e;exact hs i ys x σ _ (y xs q) p}
 ·have e:i=xs.length:=by lia
  subst e;exact .inl ⟨⟨xs,q,Vb _⟩,hd ys σ H p⟩
def iH (Pv:Nat->List V->St->Hp->Prop)(h0:Pv 0 [] σ0 (upd H1 D (.lst [])))(hl:∀ i ys σ H,i<=xs.length->Pv i ys σ H->SqL K H a xs/\H D=some (.lst ys))
  (hs:∀ i ys x σ H,xs[i]? = some x->Pv i ys σ H->g x σ H fun σ3 H3=>tt σ3 H3 fun b H4=>if b=true then te σ3 H4 fun y H5=>H5 D=some (.lst ys)/\ys.length < sizeLine/\Pv (i+1) (ys++[y]) σ3 (upd H5 D (.lst (ys++[y]))) else Pv (i+1) ys σ3 H4)
  (hd:∀ ys σ H,Pv xs.length ys σ H->Q H):lU D σ0 (Itl K a) g tt te H1 Q:=by
 refine⟨fun i m ys σ H=>m=xs.length - i/\i<=xs.length/\Pv i ys σ H,⟨xs.length,by simp,V3 _,h0⟩,?_⟩;rintro i m ys σ H ⟨rfl,hi,p⟩;obtain⟨q,qD⟩:=hl i ys σ H hi p;refine⟨qD,?_⟩;by_cases hlt:i < xs.length;{refine .inr ⟨⟨xs,xs[i],q,by simp [hlt]⟩,Pv (i+1),fun zs σ' H' p'=>⟨xs.length - (i+1),by lia,U,hlt,p'⟩,fun x H' y=>?_⟩;obtain⟨e,y⟩:=y;subst e;exact hs i ys x σ _ (y xs q) p}
 ·have e:i=xs.length:=by lia
  subst e;exact .inl ⟨⟨xs,q,Vb _⟩,hd ys σ H p⟩
def cN {lo:Int}{n:Nat}(Pv:Nat->List V->St->Hp->Prop)(h0:Pv 0 [] σ0 (upd H1 D (.lst [])))(hl:∀ i ys σ H,i<=n->Pv i ys σ H->H D=some (.lst ys))
  (hs:∀ i ys σ H,i < n->Pv i ys σ H->g (.int (lo+i)) σ H fun σ3 H3=>tt σ3 H3 fun b H4=>if b=true then te σ3 H4 fun y H5=>H5 D=some (.lst ys)/\ys.length < sizeLine/\Pv (i+1) (ys++[y]) σ3 (upd H5 D (.lst (ys++[y]))) else Pv (i+1) ys σ3 H4)
  (hd:∀ ys σ H,Pv n ys σ H->Q H):lU D σ0 (Itr lo n) g tt te H1 Q:=by
 refine⟨fun i m ys σ H=>m=n - i/\i<=n/\Pv i ys σ H,⟨n,by simp,V3 _,h0⟩,?_⟩;rintro i m ys σ H ⟨rfl,hi,p⟩;refine⟨hl i ys σ H hi p,?_⟩;by_cases hlt:i < n;{refine .inr ⟨hlt,Pv (i+1),fun zs σ' H' p'=>⟨n - (i+1),by lia,U,hlt,p'⟩,fun x H' y=>?_⟩;obtain⟨e,y⟩:=y;subst e y;exact hs i ys σ _ hlt p}
 ·have e:i=n:=by lia
  subst e;exact .inl ⟨Vb _,hd ys σ H p⟩
end
structure Bt (mg:VB->C5):Prop where
 len_:mg "len" = none
 range_:mg "range" = none
 all_:mg "all" = none
 isinstance_:mg "isinstance" = none
 int_:mg "int" = none
 bool_:mg "bool" = none
 str_:mg "str" = none
 list_:mg "list" = none
 tuple_:mg "tuple" = none
 abs_:mg "abs" = none
 max_:mg "max" = none
 min_:mg "min" = none
 sum_:mg "sum" = none
 sorted_:mg "sorted" = none
 zip_:mg "zip" = none
 reversed_:mg "reversed" = none
 divmod_:mg "divmod" = none
 set_:mg "set" = none
 any_:mg "any" = none
 enumerate_:mg "enumerate" = none
def Lg:We "len" = some (.builtin "len"):=PySem.boot_len
def Je:We "all" = some (.builtin "all"):=by decide+kernel
def aU:We "isinstance" = some (.builtin "isinstance"):=by decide+kernel
def CJ:We "abs" = some (.builtin "abs"):=by decide+kernel
def sO:We "max" = some (.builtin "max"):=by decide+kernel
def Ri:We "min" = some (.builtin "min"):=by decide+kernel
def G9:We "sum" = some (.builtin "sum"):=by decide+kernel
def qP:We "int" = some (.type "int"):=by decide+kernel
def zN:We "bool" = some (.type "bool"):=by decide+kernel
def Ms:We "str" = some (.type "str"):=by decide+kernel
def jF:We "list" = some (.type "list"):=by decide+kernel
def bH:We "tuple" = some (.type "tuple"):=by decide+kernel
def eN (K:VG)(T:String):Y0 K (.type T) (.type T)=some true:=by
 unfold PySem.W.kitOne;rw[if_pos (beq_self_eq_true _)]
def lE (K:VG):Y0 K (.type "int") (.type "bool")=some false:=by kernel_rfl
def rP (K:VG):Y0 K (.type "bool") (.type "int")=some true:=by kernel_rfl
def DP (K:VG):Y0 K (.type "int") (.type "str")=some false:=by kernel_rfl
def zY (K:VG):Y0 K (.type "bool") (.type "str")=some false:=by kernel_rfl
def yF (K:VG):Y0 K (.type "tuple") (.type "str")=some false:=by kernel_rfl
def Ae (K:VG):Y0 K (.type "list") (.type "str")=some false:=by kernel_rfl
def wJ (K:VG):Y0 K (.type "tuple") (.type "int")=some false:=by kernel_rfl
def Ab (K:VG):Y0 K (.type "list") (.type "int")=some false:=by kernel_rfl
def nC (K:VG):Y0 K (.type "tuple") (.type "list")=some false:=by kernel_rfl
def nj (K:VG):Y0 K (.type "list") (.type "tuple")=some false:=by kernel_rfl
def El (K:VG):Y0 K (.type "str") (.type "int")=some false:=by kernel_rfl
inductive Dm where
 | non | bl (b:Bool) | int (i:Int) | str (x:VB) | tup (ds:List Dm) | lst (ds:List Dm)
mutual
def Dm.dep:Dm->Nat
 | .tup ds=>iD ds+1
 | .lst ds=>iD ds+1
 | _=>0
def iD:List Dm->Nat
 | []=>0
 | d::r=>max d.dep (iD r)
end
mutual
inductive Rep (H:Hp):V->Dm->Prop where
 | non:Rep H .non .non
 | bl (b:Bool):Rep H (.bl b) (.bl b)
 | int (i:Int):Rep H (.int i) (.int i)
 | str (x:VB):Rep H (.str x) (.str x)
 | tup {a:Addr} {xs:List V} {ds:List Dm}:H a=some (.tup xs)->xs.length<=100000->tH H xs ds->Rep H (.ref a) (.tup ds)
 | lst {a:Addr} {xs:List V} {ds:List Dm}:H a=some (.lst xs)->xs.length<=100000->tH H xs ds->Rep H (.ref a) (.lst ds)
inductive tH (H:Hp):List V->List Dm->Prop where
 | nil:tH H [] []
 | cons {v:V} {d:Dm} {vs:List V} {ds:List Dm}:Rep H v d->tH H vs ds->tH H (v::vs) (d::ds)
end
mutual
theorem Rep.mono {H H':Hp}(e:aH H H'):∀ {v:V} {d:Dm},Rep H v d->Rep H' v d
 | _,_,.non=>.non
 | _,_,.bl b=>.bl b
 | _,_,.int i=>.int i
 | _,_,.str x=>.str x
 | _,_,.tup h l r=>.tup (e _ _ h) l (tH.mono e r)
 | _,_,.lst h l r=>.lst (e _ _ h) l (tH.mono e r)
theorem tH.mono {H H':Hp}(e:aH H H'):∀ {vs:List V} {ds:List Dm},tH H vs ds->tH H' vs ds
 | _,_,.nil=>.nil
 | _,_,.cons h r=>.cons (Rep.mono e h) (tH.mono e r)
end
theorem tH.length {H:Hp}:∀ {vs:List V} {ds:List Dm},tH H vs ds->vs.length=ds.length
 | _,_,.nil=>rfl
 | _,_,.cons _ r=>by rw[Vv,Vv,tH.length r]
theorem tH.get {H:Hp}:∀ {vs:List V} {ds:List Dm} {i:Nat},tH H vs ds->i < vs.length->∃ v d,vs[i]? = some v/\ds[i]? = some d/\Rep H v d
 | _,_,_,.nil,h=>absurd h (aaa _)
 | _,_,0,.cons h _,_=>⟨_,_,U,U,h⟩
 | _,_,i+1,.cons _ r,h=>by
  obtain⟨v,d,e1,e2,e3⟩:=tH.get (i:=i) r (aaQ h);exact⟨v,d,by simpa using e1,by simpa using e2,e3⟩
theorem vQ:∀ {ds:List Dm} {i:Nat} {d:Dm},ds[i]? = some d->d.dep<=iD ds
 | [],_,_,h=>by simp at h
 | d::r,0,_,h=>by
  cases (show some d=some _ from h);rw[iD];exact Nat.le_max_left _ _
 | d::r,i+1,_,h=>by
  rw[iD];exact VH (vQ (i:=i) (ds:=r) (by simpa using h)) (Nat.le_max_right _ _)
theorem yg {H:Hp}:∀ ns:DC,tH H (ns.map V.int) (ns.map Dm.int)
 | []=>.nil
 | n::r=>.cons (.int n) (yg r)
section
variable {X:Cx}
inductive Tn (K:VG)(x:V)(y:V)(H:Hp)(Q:VK):Prop where
 | mk (a b:Addr) (xs:List V) (_:x = .ref a) (_:y = .ref b) (_:SqL K H a xs) (_:SqL K H b []) (_:Q (.bl xs.isEmpty) H)
def Lx (hu:X.A.units < cLine):OpR X (Xm .Eq) (Tn X.K):=by
 intro ZY s σ H x y v u Q I rx ry h;obtain⟨a,b,xs,rfl,rfl,ha,hb,q⟩:=h;cases rx;cases ry;obtain⟨its,r1,p1,_⟩:=I.list ha;obtain⟨its2,r2,p2,_⟩:=I.list hb;cases r2;cases r1 with
 | nil=>exact SeqAt.eq_listAt (e:=fun _=>true) p1.isList p2.isList U hu (fun j h1 _=>absurd h1 (by simp)) ⟨.bl true,H,I,U,q⟩
 | cons r t=>exact SeqAt.eq_list_lengthsAt p1.isList p2.isList (by simp) hu ⟨.bl false,H,I,U,q⟩
inductive Pq (K:VG)(x:V)(y:V)(H:Hp)(Q:VK):Prop where
 | mk (a b:Addr) (xs:List V) (_:x = .ref a) (_:y = .ref b) (_:SqL K H a xs) (_:SqL K H b []) (_:Q (.bl (!xs.isEmpty)) H)
def wK (hu:X.A.units < cLine):OpR X (Xm .NotEq) (Pq X.K):=by
 intro ZY s σ H x y v u Q I rx ry h;obtain⟨a,b,xs,rfl,rfl,ha,hb,q⟩:=h;cases rx;cases ry;obtain⟨its,r1,p1,_⟩:=I.list ha;obtain⟨its2,r2,p2,_⟩:=I.list hb;cases r2;cases r1 with
 | nil=>exact SeqAt.RcNeAt.lists (e:=fun _=>true) p1.isList p2.isList U hu (fun j h1 _=>absurd h1 (by simp)) X.prog X.w X.xe _ ⟨.bl false,H,I,U,q⟩
 | cons r t=>exact SeqAt.RcNeAt.lists_lengths p1.isList p2.isList (by simp) hu X.prog X.w X.xe _ ⟨.bl true,H,I,U,q⟩
end
section
variable {prog:Vt}{w:V2}{A:V1}{E:C4}{s:U8}
end
def Inv.Hl {X:Cx}{ZY:C1}{σ:St}{H:Hp}{s:U8}{h':Wg}{t':Nat}{ch:Db}(I:Inv X ZY σ H s)(k:∀ b o,b ∉ ch->s.heap.get? b=some o->h'.get? b=some o)(hf:∀ b∈ch,yQ X ZY H b) :
  Inv X ZY σ H { s with heap:=h',toks:=t' }:=by
 have nit:∀ b u,H b=some u->b ∉ ch:=fun b u e z=>by
  have:=(hf b z).1;rw[this] at e;cases e
 refine I.step (g':=s.gens) (d':=s.drawn) (ch:=ch) (fun b hb=>let ⟨_,f1,_,f3,f4,f5⟩:=hf b hb;⟨f3,f1,f4,f5⟩) (fun b o _ _ hc e _=>k b o hc e) (fun b o _ _ hc e _=>⟨o.slots,k b o hc e⟩) (fun _ _ _ _ n=>n)
  (fun b o hc e=>⟨o,k b o hc e⟩) (fun _ _ e=>e) (fun _ _ _ e=>e) (fun b ps e=>⟨#[],by rw[e];simp⟩) (fun m hm=>?_) (fun b u e=>?_) I.bare
 ·obtain⟨o,es,ep,ho,r⟩:=hm;exact⟨o,es,ep,k _ o (fun z=>(hf _ z).2.1 U) ho,r⟩
 ·refine (I.hok b u e).stay (fun c v hc q=>k c v ?_ q) (fun _ q=>q) fun _ _ q=>q;rcases hc with z | z;{rw[z];exact nit b u e};{exact nit c _ z}
theorem yd:∀ ns ms:DC,((Wx (min ns.length ms.length)).all (fun j=>ns.getD j 0 == ms.getD j 0) && ns.length == ms.length)=decide (ns=ms)
 | [],[]=>rfl
 | [],m::ms=>by rw[decide_eq_false (by simp)];rfl
 | n::ns,[]=>by rw[decide_eq_false (by simp)];rfl
 | n::ns,m::ms=>by
  have ih:=yd ns ms;have e:min (n::ns).length (m::ms).length=min ns.length ms.length+1:=by rw[Vv,Vv];lia
  have el:((n::ns).length == (m::ms).length)=(ns.length == ms.length):=by simp
  have e3:decide (n::ns=m::ms)=(n == m && decide (ns=ms)):=by
   by_cases h1:n=m
   ·subst h1;by_cases h2:ns=ms;{subst h2;simp};{simp [h2]}
   ·simp [h1]
  rw[e,ZK,Z1,abO,el,e3,← ih,Bool.and_assoc];rfl
def d7 {X:Cx}{pos:YS}{K:VG}{es:Do}{k:Nat}{t:TGs}(n:Nat)(hK:X.K=K)(hc:X.calm=true)(h:PGs X es t)
  (hn:(ZV es X.env).length=n:=by rfl) (hst:(ZV es X.env).findIdx? (·.1)=none:=by rfl):PG X (.Tuple es k pos) (TV K n t):=by
 subst hK;exact QT hc h hn hst
section
variable {X:Cx}
inductive Ph (K:VG)(x:V)(y:V)(H:Hp)(Q:VK):Prop where
 | mk (a b:Addr) (ns ms:DC) (_:x = .ref a) (_:y = .ref b) (_:SqT K H a (ns.map V.int)) (_:SqT K H b (ms.map V.int)) (_:Q (.bl (decide (ns=ms))) H)
def ints_get {ns:DC}{its:C9}(i:Wv its ns){j:Nat}(h:j < its.length):∃ t,its[j] = .int (ns.getD j 0) t:=by
 induction i generalizing j with
 | nil=>exact absurd h (aaa _)
 | cons n t r ih =>
  cases j with
  | zero=>exact⟨t,U⟩
  | succ j =>
   obtain⟨u,e⟩:=ih (j:=j) (aaQ h);exact⟨u,by simpa using e⟩
def GQ (hu:X.A.units < cLine):OpR X (Xm .Eq) (Ph X.K):=by
 intro ZY s σ H x y v u Q I rx ry h;obtain⟨a,b,ns,ms,rfl,rfl,ha,hb,q⟩:=h;cases rx;cases ry;obtain⟨its,r1,p1,_⟩:=I.tuple ha;obtain⟨its2,r2,p2,_⟩:=I.tuple hb;have i1:Wv its ns:=intsAre_of r1;have i2:Wv its2 ms:=intsAre_of r2;have l1:=i1.length;have l2:=i2.length;refine SeqAt.eq_tupleAt (e:=fun j=>ns.getD j 0 == ms.getD j 0) (show s.heap.IsTuple a its.toArray from p1) (show s.heap.IsTuple b its2.toArray from p2) hu (fun j h1 h2=>?_) ?_;{obtain⟨t,e1⟩:=ints_get i1 (j:=j) (by simpa using h1);obtain⟨t',e2⟩:=ints_get i2 (j:=j) (by simpa using h2);rw[List.getElem_toArray,List.getElem_toArray,e1,e2];exact SeqAt.EqAt.int_int _ _ _ _}
 ·refine⟨.bl _,H,I,?_,q⟩;have e:=yd ns ms;have s1:its.toArray.size=ns.length:=by rw[Vo];exact l1
  have s2:its2.toArray.size=ms.length:=by rw[Vo];exact l2
  rw[s1,s2,e];rfl
inductive iG (K:VG)(x:V)(y:V)(H:Hp)(Q:VK):Prop where
 | mk (a b:Addr) (xs ys:List V) (_:x = .ref a) (_:y = .ref b) (_:SqT K H a xs) (_:SqT K H b ys) (_:xs.length+ys.length<=sizeLine) (_:(xs=[]->Q (.ref b) H)) (_:(xs≠[]->ys=[]->Q (.ref a) H)) (_:(xs≠[]->ys≠[]->∀ p,H p=none->Q (.ref p) (upd H p (.tup (xs++ys)))))
def gA:OpR X (Zr .Add) (iG X.K):=by
 intro ZY s σ H x y v u Q I rx ry h;obtain⟨a,b,xs,ys,rfl,rfl,ha,hb,hz,q0,q1,q2⟩:=h;by_cases hx:xs=[];{subst hx;cases rx;cases ry;obtain⟨its,r1,p1,_⟩:=I.tuple ha;obtain⟨its2,r2,p2,_⟩:=I.tuple hb;cases r1;obtain⟨⟨c1,d1,dt1,sl1⟩,ho,hc,n,hd⟩:=id p1;obtain⟨⟨c2,d2,dt2,sl2⟩,ho2,hc2,n2,hd2⟩:=id p2;simp only at hc hd hc2 hd2;subst hc hd hc2 hd2;exact concat_meets ⟨_,ho,U⟩ ⟨_,ho2,U⟩ abW seq_tuple_add aaO aaG (aaB _ _) (tuple_addW0 a b _ _ n n2 d1 d2 sl1 sl2 U) ⟨ho,ho2,⟨.ref b,H,I,U,q0 U⟩⟩};{exact Pj ZY s σ H _ _ v u Q I rx ry ⟨a,b,xs,ys,U,U,ha,hb,hx,hz,q1 hx,q2 hx⟩}
end
theorem kY:∀ bs:List Bool,(Wx bs.length).any (fun i=>bs.getD i false)=bs.any fun b=>b
 | []=>rfl
 | b::r=>by
  have ih:=kY r;rw[Vv,ZK,Yz,List.any_map,Yz,← ih];rfl
section
variable {X:Cx}
inductive K1 (K:VG)(xs:List V)(H:Hp)(Q:VK):Prop where
 | mk (p:Addr) (ns:DC) (_:xs=[.ref p]) (_:SqL K H p (ns.map V.int)) (_:Q (.int ns.sum) H)
def tu (hc:X.calm=true):fY X (.builtin "sum") (K1 X.K):=by
 intro ZY s σ H xs us Q I r h;obtain⟨p,ns,rfl,hq,q⟩:=h;obtain⟨u,rfl,ru⟩:=vals1 r;cases ru;obtain⟨its,rv,pl,hz⟩:=I.list hq;have hi:Wv its ns:=intsAre_of rv;obtain⟨zs,hx⟩:=hi.allInts.items;have hl':s.heap.IsList p (intItems zs):=hx▸pl.isList;refine sum_intListG (I.ok.hd hc) hl' fun h' tk t' hk=>?_;have e1:ns=zs.toList.map (·.1):=by
  rw[← nums_intItems,← hx];exact (show numsOf its.toArray.toList=ns from hi.numsOf).symm
 have e2:preSum (numAt zs) zs.size=ns.sum:=by
  rw[preSum_eq,List.take_of_length_le (by simp),e1]
 rw[e2];exact⟨.int _,H,I.kept (t':=tk) hk,⟨_,U⟩,q⟩
inductive Qp (K:VG)(xs:List V)(H:Hp)(Q:VK):Prop where
 | mk (p:Addr) (bs:List Bool) (_:xs=[.ref p]) (_:SqL K H p (bs.map V.bl)) (_:Q (.bl (bs.any fun b=>b)) H)
def Hs (hc:X.calm=true):fY X (.builtin "any") (Qp X.K):=by
 intro ZY s σ H xs us Q I r h;obtain⟨p,bs,rfl,hq,q⟩:=h;obtain⟨u,rfl,ru⟩:=vals1 r;cases ru;obtain⟨its,rv,pl,hz⟩:=I.list hq;have hlen:bs.length=its.length:=by simpa using rv.length
 refine call_any_walk (ZD pl.isList ?_);have I1:Inv X ZY σ H { s with heap:=s.heap.push { cls:=.type "list_iterator",data:=.fields #[.ref p,.int 0 0] } }:=I.kept (t':=s.toks) fun b o e=>U9 _ e;have hne:p≠s.heap.objs.size:=by
  obtain⟨o,ho,_⟩:=pl.isList;exact Vw (Vj ho)
 refine⟨s.heap.objs.size,_,_,_,_,_,fun i=>bs.getD i false,U,aby (A:=X.A.in1) (I.ok.hd hc) s.heap.objs.size p hne its.toArray,⟨⟨_,Vn _ U,U,U⟩,?_⟩,?_,fun h' tk hk=>?_⟩;{obtain⟨o,ho,hr⟩:=pl.isList;exact⟨o,U9 _ ho,hr⟩}
 ·intro i v s' Q' E' hP hQ;have hP:its[i]? = some v:=by simpa using hP
  have hi:i < bs.length:=by
   rw[hlen];exact (List.getElem?_eq_some_iff.mp hP).1
  obtain⟨u',hu',ru'⟩:=rv.get (i:=i) (x:=V.bl bs[i]) (by rw[Vr,Vg hi];rfl);rw[hP] at hu';cases hu';cases (show v=aaN bs[i] from ru');refine Xp ?_;have eg:bs.getD i false=bs[i]:=by rw[Vz,Vg hi];rfl
  have hQ':Q' (bs.getD i false) s':=hQ;rw[eg] at hQ';exact hQ'
 ·have f:=I.O8 (b:=s.heap.objs.size) (H':=H) (Vb _) I.fresh;have eany:(Wx its.toArray.size).any (fun i=>bs.getD i false)=bs.any fun b=>b:=by
   have el:its.toArray.size=bs.length:=by rw[Vo,hlen]
   rw[el];exact kY bs
  rw[eany];exact⟨.bl _,H,I1.turned (t':=tk) (it:=s.heap.objs.size) (fun b o hb e=>hk b o (by simpa using hb) e) f.1 f.2.1 f.2.2.2.1 f.2.2.2.2.1 f.2.2.2.2.2,U,q⟩
end
def Rb:We "any" = some (.builtin "any"):=by decide+kernel
def Kw:List V->Hp->VK->Prop:=fun xs H Q=>(∃ i,xs=[.int i]/\Q (.int i) H)∨∃ k,xs=[.bl k]/\Q (.int (if k then 1 else 0)) H
end L2
namespace L2
open PySem
def Ris (xs:Array Nat):Prop:=xs.toList.Pairwise (· < ·)
def Cj {xs:Array Nat}(h:Ris xs){i j x y:Nat}(hij:i < j)(hi:xs[i]? = some x)(hj:xs[j]? = some y):x < y:=by
 rw[← Wr] at hi hj;obtain⟨li,ei⟩:=List.getElem?_eq_some_iff.mp hi;obtain⟨lj,ej⟩:=List.getElem?_eq_some_iff.mp hj;have:=List.pairwise_iff_getElem.mp h i j li lj hij;rw[ei,ej] at this;exact this
theorem uT {xs:Array Nat}(h:Ris xs)(j:Nat):∀ (fuel lo hi:Nat),hi - lo<=fuel->lo<=hi->hi<=xs.size->(∀ i x,i < lo->xs[i]? = some x->x < j)->(∀ i x,hi<=i->xs[i]? = some x->j<=x) →
  ZJ xs j fuel lo hi<=xs.size/\(∀ i x,i < ZJ xs j fuel lo hi->xs[i]? = some x->x < j)/\(∀ i x,ZJ xs j fuel lo hi<=i->xs[i]? = some x->j<=x)
 | 0,lo,hi,hf,hl,hs,h1,h2=>by
  rw[ZJ];have e:lo=hi:=by lia
  subst e;exact⟨hs,h1,h2⟩
 | fuel+1,lo,hi,hf,hl,hs,h1,h2=>by
  rw[ZJ];by_cases hlt:lo < hi
  ·rw[if_pos hlt];dsimp only;have hm1:lo<=(lo+hi) / 2:=by lia
   have hm2:(lo+hi) / 2 < hi:=by lia
   have hms:(lo+hi) / 2 < xs.size:=by lia
   generalize (lo+hi) / 2=m at *;have eg:xs[m]? = some xs[m]:=VJ hms;have ed:xs.getD m j=xs[m]:=by rw[XX,eg];rfl
   rw[ed];by_cases hc:xs[m] < j
   ·rw[if_pos hc];refine uT h j fuel (m+1) hi (by lia) (by lia) hs (fun i x hi' e=>?_) h2;by_cases hm:i=m;{subst hm;rw[eg] at e;cases e;exact hc};{exact aaP (Cj h (show i < m by lia) e eg) hc}
   ·rw[if_neg hc];refine uT h j fuel lo m (by lia) hm1 (by lia) h1 (fun i x hi' e=>?_);by_cases hm:i=m;{subst hm;rw[eg] at e;cases e;lia};{have:=Cj h (show m < i by lia) eg e;lia}
  ·rw[if_neg hlt];have e:lo=hi:=by lia
   subst e;exact⟨hs,h1,h2⟩
def uN {xs:Array Nat}(h:Ris xs)(j:Nat):WQ xs j<=xs.size/\(∀ i x,i < WQ xs j->xs[i]? = some x->x < j)/\(∀ i x,WQ xs j<=i->xs[i]? = some x->j<=x):=by
 unfold WQ;refine uT h j xs.size 0 xs.size (by lia) (V3 _) (Vb _) (fun i x hi=>absurd hi (aaa _)) fun i x hi e=>?_;rw[Yx hi] at e;cases e
def below_at {xs:Array Nat}(h:Ris xs){i x:Nat}(e:xs[i]? = some x):WQ xs (x+1)=i+1:=by
 obtain⟨h1,h2,h3⟩:=uN h (x+1);have hi:i < xs.size:=(Array.getElem?_eq_some_iff.mp e).1;generalize WQ xs (x+1)=p at *;rcases Nat.lt_trichotomy p (i+1) with hp | hp | hp;{have:=h3 i x (by lia) e;lia};{exact hp}
 ·have hs:i+1 < xs.size:=by lia
  have:=Cj h (Xw i) e (VJ hs);have:=h2 (i+1) _ hp (VJ hs);lia
def CW {xs:Array Nat}(h:Ris xs):WQ xs 0=0:=by
 obtain⟨h1,h2,h3⟩:=uN h 0;generalize WQ xs 0=p at *;rcases Nat.eq_zero_or_pos p with hp | hp;{exact hp}
 ·have hs:0 < xs.size:=by lia
  have:=h2 0 _ hp (VJ hs);lia
def N7 {xs:Array Nat}(h:Ris xs){j:Nat}(hj:xs[WQ xs j]?≠some j):Ris (SetTable.insertAt xs (WQ xs j) j):=by
 obtain⟨h1,h2,h3⟩:=uN h j;unfold Ris;rw[SetTable.toList_insertAt];generalize hp:WQ xs j=p at *;have hh:xs.toList.Pairwise (· < ·):=h;have hlt:∀ x∈xs.toList.take p,x < j:=fun x hx=>by
  obtain⟨i,hi,e⟩:=Zo hx;rw[Vs] at hi;rw[List.getElem_take] at e;exact h2 i x (by lia) (by rw[← Wr,Vg (by lia),e])
 have hgt:∀ x∈xs.toList.drop p,j < x:=fun x hx=>by
  obtain⟨i,hi,e⟩:=Zo hx;rw[Zi] at hi;rw[List.getElem_drop] at e;have ex:xs[p+i]? = some x:=by rw[← Wr,Vg (by lia),e]
  have:=h3 (p+i) x (by lia) ex;rcases Nat.lt_or_ge j x with q | q;{exact q}
  ·have ejx:x=j:=by lia
   subst ejx;by_cases hi0:i=0;{subst hi0;exact absurd ex hj}
   ·have hps:p < xs.size:=by
     have:=(Array.getElem?_eq_some_iff.mp ex).1;lia
    have:=Cj h (show p < p+i by lia) (VJ hps) ex;have:=h3 p _ (Vb _) (VJ hps);lia
 rw[Z3];refine⟨hh.sublist (List.take_sublist _ _),List.pairwise_cons.mpr ⟨hgt,hh.sublist (List.drop_sublist _ _)⟩,fun a ha b hb=>?_⟩;rcases List.mem_cons.mp hb with rfl | hb;{exact hlt a ha};{exact aaP (hlt a ha) (hgt b hb)}
def rH (t:Y7)(j:Nat):Prop:=t.place[WQ t.place j]?≠some j
def ug {t:Y7}{j:Nat}(h:t.slot j = .empty∨t.slot j = .dummy):rH t j:=by
 intro e;unfold SetTable.slot at h;dsimp only at h;rw[e,if_pos (by exact beq_self_eq_true _)] at h;rcases h with h | h <;> cases h
theorem o5 {t:Y7}{f:Nat->Int}{h:Int}:∀ (fuel:Nat) (p:SetTable.Probe) {j:Nat} {d:Option Nat},(∀ x,p.dummy=some x->rH t x)->abI t f h fuel p=some (.empty j d)->rH t j/\∀ x,d=some x->rH t x
 | 0,_,_,_,_,e=>by rw[abI] at e;cases e
 | fuel+1,p,j,d,hd,e=>by
  rw[abI] at e;have adv:∀ q:SetTable.Probe,(t.advance q).dummy=q.dummy:=fun q=>by
   unfold SetTable.advance;split <;> rfl
  cases hs:t.slot p.j with
  | empty =>
   rw[hs] at e;cases e;exact⟨ug (.inl hs),hd⟩
  | dummy =>
   rw[hs] at e;dsimp only at e;refine o5 fuel _ (fun x hx=>?_) e;rw[adv] at hx;cases hx;exact ug (.inr hs)
  | live i =>
   rw[hs] at e;dsimp only at e;by_cases hc:(f i == h)=true;{rw[if_pos hc] at e;cases e};{rw[if_neg hc] at e;exact o5 fuel _ (fun x hx=>by rw[adv] at hx;exact hd x hx) e}
def Ao {t:Y7}{h:Int}{j:Nat}{b:Bool}(e:t.freeSlot h=some (j,b)):rH t j:=by
 unfold SetTable.freeSlot SetTable.probe at e;split at e
 ·rename_i j' d hp;obtain⟨h1,h2⟩:=o5 _ _ (fun x hx=>by cases hx) hp;cases e;cases d with
  | none=>exact h1
  | some x=>exact h2 x U
 ·cases e
structure TOk (b:Bool)(t:Y7):Prop where
 led:t.led=b
 ris:t.plain=true->Ris t.place
def G3 (b:Bool):TOk b (.fresh 0 0 b):=⟨U,fun _=>aax⟩
def jg {b:Bool}{t:Y7}(h:TOk b t)(n:Nat):TOk b (t.standIn n):=⟨h.led,fun z=>by cases z⟩
def DY {b:Bool}{t:Y7}(h:TOk b t)(es:Array (Int × Value))(k:Int)(x:Value):TOk b (layNew t es k x).2.1:=by
 unfold layNew;split
 ·rename_i slot wd e;dsimp only;unfold SetTable.orStandIn;have ht:TOk b (t.put slot).1:=⟨h.led,fun z=>N7 (h.ris z) (Ao e)⟩;split;{exact ht};{exact jg ht _}
 ·exact jg h _
def Jr (owner:Array (Option Nat)):∀ l:DD,l.Pairwise (· < ·)->((l.filterMap fun j=>(owner.getD j none).map (j,·)).map (·.1)).Pairwise (· < ·):=fun l hl=>by
 have hs:List.Sublist ((l.filterMap fun j=>(owner.getD j none).map (j,·)).map (·.1)) l:=by
  induction l with
  | nil=>exact List.Sublist.slnil
  | cons a r ih =>
   have ih:=ih (List.pairwise_cons.mp hl).2;rw[XQ];cases e:owner.getD a none with
   | none=>exact ih.cons _
   | some k=>exact ih.cons₂ _
 exact hl.sublist hs
def yo {b:Bool}{t:Y7}(h:TOk b t)(es:Array (Int × Value))(m:Nat):TOk b (abE t es m).2.1:=by
 unfold abE;split
 ·rename_i t' order e;dsimp only;split
  ·unfold SetTable.relaid SetTable.laid at e;cases ho:SetTable.layClean (SetTable.sizeAbove m - 1) (es.map (·.1)) with
   | none=>rw[ho] at e;cases e
   | some owner =>
    rw[ho] at e;cases e;exact⟨h.led,fun _=>Jr owner _ List.pairwise_lt_range⟩
  ·exact jg h _
 ·exact jg h _
end L2
namespace L2
open PySem PySem.Spec PyProof.Rows
section
variable {P:Vt}{w:V2}{A:V1}{E:Value->U8->Prop}{s:U8}
def nG (P:Vt)(w:V2)(b:Bool)(h:Wg)(a:Addr)(ks:DC):Prop :=
 ∃ o es ep t,h.get? a=some o/\o.ExactSet/\o.data = .set es ep t/\ElemsOf (Zf P w) es.toList/\t.fits es.size=true/\TOk b t/\∃ ns,Wv (es.toList.map (·.2)) ns/\ns.Perm ks
def gM {l l':C9}(p:l.Perm l'):∀ {ns:DC},Wv l ns->∃ ms,Wv l' ms/\ms.Perm ns:=by
 induction p with
 | nil=>intro ns h;exact⟨ns,h,.refl _⟩
 | cons x p ih =>
  intro ns h;cases h with
  | cons n t r =>
   obtain⟨ms,h1,h2⟩:=ih r;exact⟨n::ms,.cons n t h1,h2.cons n⟩
 | swap x y l =>
  intro ns h;cases h with
  | cons n t r =>
   cases r with
   | cons m u r=>exact⟨m::n::_,.cons m u (.cons n t r),.swap _ _ _⟩
 | trans p q ih1 ih2 =>
  intro ns h;obtain⟨ms,h1,h2⟩:=ih1 h;obtain⟨ks,h3,h4⟩:=ih2 h1;exact⟨ks,h3,h4.trans h2⟩
theorem pO {k:Int}{t:Tok}:∀ {l:C9} {ns:DC},Wv l ns->Wv (l++[.int k t]) (ns++[k])
 | _,_,.nil=>.cons k t .nil
 | _,_,.cons n u r=>.cons n u (pO r)
theorem qR {k:Int}:∀ {l:C9} {ns:DC},Wv l ns->(k∈ns ↔ ∃ v∈l,(Zf P w).is k v=true)
 | _,_,.nil=>by simp
 | _,_,.cons n t r=>by
  have ih:=qR (k:=k) r;have e:(Zf P w).is k (.int n t)=decide (k=n):=KeyKind.is_eq_decide (intKind_is _ _ _ _) k;rw[Xg,ih];constructor
  ·rintro (h | ⟨v,hv,q⟩);{exact⟨_,Vm,by rw[e];exact decide_eq_true h⟩};{exact⟨v,Vp _ hv,q⟩}
  ·rintro⟨v,hv,q⟩;rcases List.mem_cons.mp hv with rfl | hv;{rw[e] at q;exact .inl (of_decide_eq_true q)};{exact .inr ⟨v,hv,q⟩}
def pI {b:Bool}{h:Wg}{a:Addr}{o:Xz}{es es':Array (Int × Value)}{ep:Nat}{t t':Y7}{ks:DC}(ho:h.get? a=some o)(hx:o.ExactSet)(hd:o.data = .set es ep t)
  (hel:ElemsOf (Zf P w) es'.toList) (hf:t'.fits es'.size=true) (tk:TOk b t') (hn:∃ ns,Wv (es'.toList.map (·.2)) ns/\ns.Perm ks) :
  (h.update a (abz es' t')).get? a=some { o with data:=.set es' (ep+1) t' }/\nG P w b (h.update a (abz es' t')) a ks:=by
 have g:(h.update a (abz es' t')).get? a=some { o with data:=.set es' (ep+1) t' }:=by
  have q:=VP (abz es' t') ho (by rw[putSet_of es' t' hd];rfl);rwa [putSet_of es' t' hd] at q
 exact⟨g,_,es',ep+1,t',g,hx,U,hel,hf,tk,hn⟩
def Mz {b:Bool}{a:Addr}{ks:DC}{k:Int}{t0:Tok}{Q:Bool->U8->Prop}(hS:nG P w b s.heap a ks)(hroom:ks.length+1 < scanBound)
  (h:∀ h' r,Yv a s.heap h'->nG P w b h' a (step_dedup ks k)->Q r { s with heap:=h' }):Vh (Vl P w) A (setAddHashed a (.int k t0) ((Zf P w).hash k)) Q E s:=by
 obtain⟨o,es,ep,t,ho,hx,hd,hel,hf,tk,ns,hi,hp⟩:=hS;have key:(Zf P w).is k (.int k t0)=true:=intKind_is _ _ _ _;have hlen:es.size=ks.length:=by
  rw[← hp.length_eq,← hi.length,U7,Wf]
 have hb:es.size < scanBound:=by lia
 have hm:=qR (P:=P) (w:=w) (k:=k) hi;unfold setAddHashed setAddHashedIn;refine Ww (U6 (YH ho hd hf ?_));dsimp only;rw[byScan_of U hb hel];simp only[↓reduceIte];unfold setAddByScan;refine U6 (U6 (aaj (U6 (wpAny_setScan_of key ho hd hf hel ?_))));cases hr:es.toList.findIdx? (fun e=>(Zf P w).is k e.2) with
 | some j =>
  dsimp only;obtain⟨hj,q,_⟩:=List.findIdx?_eq_some_iff_getElem.mp hr;have hk:k∈ks:=hp.mem_iff.mp (hm.mpr ⟨es.toList[j].2,List.mem_map.mpr ⟨_,ab0 hj,U⟩,q⟩);have es0:step_dedup ks k=ks:=by
   unfold step_dedup;have hany:(ks.any fun x=>x == k)=true:=List.any_eq_true.mpr ⟨k,hk,beq_self_eq_true k⟩;rw[if_pos hany]
  have q':=h s.heap false (Heap.SameBut.refl a s.heap) (by rw[es0];exact⟨o,es,ep,t,ho,hx,hd,hel,hf,tk,ns,hi,hp⟩);exact Va (Va q')
 | none =>
  dsimp only;have hk:k ∉ ks:=fun z=>by
   obtain⟨v,hv,q⟩:=hm.mp (hp.mem_iff.mpr z);obtain⟨e,he,rfl⟩:=List.mem_map.mp hv;rw[List.findIdx?_eq_none_iff.mp hr e he] at q;cases q
  have es0:step_dedup ks k=ks++[k]:=by
   unfold step_dedup;rw[if_neg];intro z;obtain⟨x,hx',e⟩:=List.any_eq_true.mp z;exact hk (by rw[← eq_of_beq e];exact hx')
  rw[es0] at h;have pm:=layNew_perm t es ((Zf P w).hash k) (.int k t0);have ft:=layNew_fits t es ((Zf P w).hash k) (.int k t0);have tk1:=DY tk es ((Zf P w).hash k) (.int k t0);generalize layNew t es ((Zf P w).hash k) (.int k t0)=L at pm ft tk1 ⊢;obtain⟨es1,t1,wd,gv⟩:=L;dsimp only at pm ft tk1 ⊢;rw[Array.toList_push] at pm;have hel1:ElemsOf (Zf P w) es1.toList:=(hel.push key U).perm pm;have hn1:∃ ns,Wv (es1.toList.map (·.2)) ns/\ns.Perm (ks++[k]):=by
   have i1:Wv ((es.toList++[((Zf P w).hash k,X7 k t0)]).map (·.2)) (ns++[k]):=by
    rw[Vd];exact pO hi
   obtain⟨ms,h1,h2⟩:=gM (pm.symm.map (·.2)) i1;exact⟨ms,h1,h2.trans (hp.append (.refl _))⟩
  have hs1:es1.size<=sizeLine:=by
   have:es1.size=es.size+1:=by rw[← Wf,pm.length_eq,Vf,Wf];rfl
   exact fits_of_scanBound (by lia)
  have gw:∀ (b:Bool) {s₁:U8} {Q':Unit->U8->Prop},Q' () s₁->Vh (Vl P w) A (match b with | true=>rule "set.scan.the-table-gave-way" | false=>pure ()) Q' E s₁:=fun b s₁ Q' hq=>by
   cases b;{exact Va hq};{exact aaj hq}
  have tail:∀ (g:Bool->Sem Unit) (R:C8->U8->Prop) (t2:Y7),(∀ (b:Bool) (s₁:U8) (Q':Unit->U8->Prop),Q' () s₁->Vh (Vl P w) A (g b) Q' E s₁)->t2.fits es1.size=true->TOk b t2 →
    (∀ h',Yv a s.heap h'->nG P w b h' a (ks++[k])->R (some true) { s with heap:=h' })->Vh (Vl P w) A (do
    storeSet a es1 t2
    if (!wd && t2.tooFull)=true then do
      g (abE t2 es1 (Y6 es1.size)).2.2
      storeSet a (abE t2 es1 (Y6 es1.size)).1 (abE t2 es1 (Y6 es1.size)).2.1
      pure (some true)
     else pure (some true)) R E s:=fun g R t2 hg f2 k2 hR=>by
   refine U6 (wpAny_storeSet_of ho hd ?_ hs1);obtain⟨ho1,hS1⟩:=pI (P:=P) (w:=w) ho hx hd hel1 f2 k2 hn1;have sb1:=W8 s.heap a (abz es1 t2);split
   ·have pr:=relayAll_perm t2 es1 (Y6 es1.size);have fr:=relayAll_fits t2 es1 (Y6 es1.size);have tr:=yo k2 es1 (Y6 es1.size);generalize abE t2 es1 (Y6 es1.size)=R at pr fr tr ⊢;obtain⟨es2,t3,g2⟩:=R;dsimp only at pr fr tr ⊢;have hn2:∃ ns,Wv (es2.toList.map (·.2)) ns/\ns.Perm (ks++[k]):=by
     obtain⟨ns1,i1,p1⟩:=hn1;obtain⟨ms,h1,h2⟩:=gM (pr.symm.map (·.2)) i1;exact⟨ms,h1,h2.trans p1⟩
    have hs2:es2.size<=sizeLine:=by
     have:es2.size=es1.size:=by rw[← Wf,pr.length_eq,Wf]
     lia
    refine U6 (hg _ _ _ (U6 (wpAny_storeSet_of ho1 U ?_ hs2)));obtain⟨_,hS2⟩:=pI (P:=P) (w:=w) ho1 hx U (hel1.perm pr) fr tr hn2;exact Va (hR _ (sb1.trans (W8 _ a _)) hS2)
   ·exact Va (hR _ sb1 hS1)
  refine U6 (gw _ ?_);split
  ·refine U6 ?_;rw[hashByValue_scannable 8 U];refine Va (tail _ _ _ (fun b s₁ Q' hq=>gw b hq) ?_ ?_ fun h' sb hS=>Va (h h' true sb hS));{exact ft};{exact tk1}
  ·exact U6 (Va (tail _ _ _ (fun b s₁ Q' hq=>gw b hq) ft tk1 fun h' sb hS=>Va (h h' true sb hS)))
end
def o7 {P:Vt}{w:V2}{b:Bool}{h h':Wg}{a:Addr}{ks:DC}(hk:∀ o,h.get? a=some o->h'.get? a=some o)(hS:nG P w b h a ks):nG P w b h' a ks:=by
 obtain⟨o,es,ep,t,ho,r⟩:=hS;exact⟨o,es,ep,t,hk o ho,r⟩
section
variable {P:Vt}{w:V2}{A:V1}{R:aan->U8->Prop}{I:Addr}{fp wr:List Addr}{G:Array abP->Array abP->Prop}{n:Nat}{Pv:Nat->Value->Prop}{St:Nat->U8->Prop}{b:Bool}
def J8 (W:WalksS P w A.in1 I fp wr G n Pv St)(S:Addr)(hS:S ∉ fp)(val:Nat->Int)(hv:∀ i v,Pv i v->∃ t,v = .int (val i) t)(hb:n+1 < scanBound) :
  ∀ (k i:Nat) (s:U8),n - i=k->i<=n->St i s->nG P w b s.heap S (firstMet val i)->(∀ s',Moved (S::wr) G s s'->nG P w b s'.heap S (firstMet val n)->R (.ok (.ret .none)) s') →
   WK (Vl P w) A (.builtin "set.update.loop" ⟨[.ref S,.ref I],[]⟩) R s:=by
 have nw:S ∉ wr:=fun z=>hS (W.sub _ z);have sub:∀ x∈wr,x∈S::wr:=fun x hx=>Vp _ hx;intro k
 induction k with
 | zero =>
  intro i s hk hi st hs hR;obtain rfl:i=n:=by lia
  refine Xh F.entry_set_update_loop ?_;rw[Xn aaK _];refine (show Vh _ A.in1 (YC (.ref I) >>= _) _ _ s from U6 (W.done s _ _ st fun s' hm=>?_));exact (show Vh _ A.in1 (ret WM) _ _ s' from Va (hR s' (hm.mono sub) (o7 (fun o e=>hm.heap S o nw e) hs)))
 | succ k ih =>
  intro i s hk hi st hs hR;have lt:i < n:=by lia
  refine Xh F.entry_set_update_loop ?_;rw[Xn aaK _];refine (show Vh _ A.in1 (YC (.ref I) >>= _) _ _ s from U6 (W.item i s _ _ lt st fun v s' hP st' hm=>?_));obtain⟨t,rfl⟩:=hv i v hP;have hs':=o7 (h':=s'.heap) (fun o e=>hm.heap S o nw e) hs;have room:(firstMet val i).length+1 < scanBound:=by
   have:=firstMet_length_le val i;lia
  refine (show Vh _ A.in1 (Zg [X7 (val i) t] (setAdd S (.int (val i) t)) >>= _) _ _ s' from U6 (Ww ?_));unfold setAdd;refine Ww (U6 ((Zf P w).pyHash (k:=val i) (intKind_is _ _ _ _) ?_));refine Mz (s:={ s' with toks:=s'.toks+1 }) hs' room fun h' r sb hn=>?_;rw[← firstMet_succ] at hn;refine Va ⟨Yh aaK _,ih (i+1) _ (by lia) lt (W.frame _ s' _ _ st' (WY _) fun x hx o e=>?_) hn fun s'' hm'' hs''=>?_⟩;{rw[sb.2 x (fun z:x=S=>hS (by rw[← z];exact hx))];exact e};{refine hR s'' (Moved.trans W.gtrans ((hm.mono sub).then_heap (WY _) fun x o hx e=>?_) hm'') hs'';rw[sb.2 x (fun z:x=S=>hx (by rw[z];exact Vm))];exact e}
end
section
variable {P:Vt}{w:V2}{A:V1}{E:Value->U8->Prop}{s:U8}
def JH (w:V2):Bool:=!w.params.followText "set-order"
def newS (w:V2):Xz:={ cls:=.type "set",dict:=none,data:=.set #[] 0 (.fresh 0 0 (JH w)) }
def Pb (a:Value){Q₁:C4}(h:Q₁ (.ref s.heap.objs.size) { s with heap:=s.heap.push (newS w) }) :
  WK (Vl P w) A (.call (.builtin "set.__new__") ⟨[.type "set",a],[]⟩) (wants Q₁ E) s:=by
 refine aaX (show Vh _ A.in1 (do Zh "set.__new__" ⟨[.type "set",a],[]⟩;again (.builtin "set.__new__" ⟨[.type "set",a],[]⟩)) _ _ s from ?_);refine U6 (X4 (PySem.F.newCall_set_1 a) (Va ⟨Yh PySem.F.plain_set_new _,Xh PySem.F.entry_set_new ?_⟩));rw[Xn PySem.F.plain_set_new _];unfold Yw.«set.__new__» Builtin.Frozenset.newClass;have hsub:=sub_set_self;obtain⟨hp,g,d,tk,os⟩:=s;dsimp only
 wp_walk
 refine Ym (Va ?_);dsimp only;simp only[newObj];refine U6 (wpAny_alloc (Va ?_));exact Va h
end
section
variable {P:Vt}{w:V2}{A:V1}{E:Value->U8->Prop}{s:U8}
set_option maxRecDepth 100000 in
set_option maxHeartbeats 3200000 in
def yS {l:Addr}{items:Array Value}{ns:DC}{Q:C4}(hh:A.handled=none)(hl:s.heap.IsList l items)(hi:Wv items.toList ns)(hb:items.size+1 < scanBound)
  (h:∀ (h':Wg) (tk:Nat),nG P w (JH w) h' s.heap.objs.size (firstMet (fun i=>ns.getD i 0) items.size)->(∀ b o,b < s.heap.objs.size->s.heap.get? b=some o->h'.get? b=some o)->Q (.ref s.heap.objs.size) { s with heap:=h',toks:=tk }) :
  Vh (Vl P w) A (call (.type "set") [.ref l]) Q E s:=by
 obtain⟨c,tl,hmro⟩:=PySem.F.called_set.mro;have hmade:=PySem.F.called_set.made;have hsub:=PySem.F.called_set.sub;refine YT (aaX (show Vh _ _ (callAny (.type "set") _) _ _ _ from Va ⟨aaq _ (by decide+kernel),Xh PySem.F.entry_type_call ?_⟩));rw[Around.under_plain (weight_type_call_type "set" [.ref l] []) U];have h1:=PySem.F.called_set.notType;have h2:=PySem.F.called_set.canCreate;have hct:=PySem.F.typeCall_set_1 (.ref l)
 repeat (any_goals (first | assumption | wp_step))
 refine XR (Pb (.ref l) (E:=E) (Q₁:=fun obj s₁=>obj = .ref s.heap.objs.size/\s₁={ s with heap:=s.heap.push (newS w) }) ⟨U,U⟩) fun r s₁ hr=>?_;cases r with
 | error e=>exact hr
 | ok fl =>
  cases fl with
  | ret obj =>
   obtain⟨rfl,rfl⟩:=hr;have gS:(s.heap.push (newS w)).get? s.heap.objs.size=some (newS w):=Vn _ U;have hT:Shared.TypeIs { s with heap:=s.heap.push (newS w) } (.ref s.heap.objs.size) "set":=⟨_,gS,U⟩;have hli:=PySem.F.called_set.init.lookup;have hbi:=PySem.F.called_set.init.bind (.ref s.heap.objs.size)
   repeat (any_goals (first | assumption | wp_step))
   refine XR (YX (R:=wants (fun r s₂=>r = .none/\∃ h' tk,s₂={ s with heap:=h',toks:=tk }/\nG P w (JH w) h' s.heap.objs.size (firstMet (fun i=>ns.getD i 0) items.size) ∧
     (∀ b o,b < s.heap.objs.size->s.heap.get? b=some o->h'.get? b=some o)) E) PySem.F.called_set.init.plain PySem.F.entry_set_init (check_set_init_1 hT ?_)) fun r₂ s₂ hr₂=>?_
   ·obtain⟨ol,hol,hcl,nl,hdl⟩:=hl;obtain⟨ocls,odict,odata,oslots⟩:=ol;simp only at hcl hdl;subst hcl hdl;have hol':(s.heap.push (newS w)).get? l=some { cls:=.type "list",dict:=odict,data:=.seq items nl,slots:=oslots }:=U9 _ hol;have hsls:=PySem.F.sub_list_set;have hslf:=PySem.F.sub_list_frozenset;have hne:(Yi "list" == Yi "dict")=false:=by decide
    have hl1:(s.heap.push (newS w)).IsList l items:=⟨_,hol',U,nl,U⟩;have gS':(s.heap.push (newS w)).get? s.heap.objs.size=some { cls:=.type "set",dict:=none,data:=.set #[] 0 (.fresh 0 0 (JH w)) }:=gS;unfold Yw.«set.__init__» noKeywords Builtin.Frozenset.updateFrom;generalize hPI:aa7=PI
    wp_walk
    subst hPI;refine ZD hl1 (U6 (wpAny_runValue ?_));have hlS:l < s.heap.objs.size:=Vj hol;have hh3:A.in1.in1.in1.handled=none:=by simp [hh]
    have hneI:l≠(s.heap.push (newS w)).objs.size:=by
     rw[WT];exact Vw (Wn hlS)
    have hSf:s.heap.objs.size ∉ [(s.heap.push (newS w)).objs.size,l]:=by
     rw[WT,Xg,Xk];rintro (z | z);{exact absurd z (Vw (Xw _))};{exact absurd z (Yt hlS)}
    refine J8 (b:=JH w) ((aby hh3 _ l hneI items).toS) s.heap.objs.size hSf (fun i=>ns.getD i 0) (fun i v hv=>IntsAre.int_at hi i v (by rw[Wr];exact hv)) hb (items.size - 0) 0 _ (by lia) (V3 _)
     ⟨⟨_,Vn _ U,U,U⟩,(hl1.push _)⟩ ?hS0 ?hR
    case hS0=>exact⟨newS w,#[],0,_,U9 _ gS,⟨U,U,U⟩,U,(fun e he=>by simp at he),U,G3 _,[],.nil,.refl _⟩
    case hR =>
     intro s' hm hS';obtain⟨h',g',d',tk',os'⟩:=s';obtain rfl:g'=s.gens:=hm.gens;obtain rfl:d'=s.drawn:=hm.drawn;obtain rfl:os'=s.os:=hm.os;refine (show Vh _ _ _ _ _ _ from Va (show Vh _ _ (ret WM) _ _ _ from Va ⟨U,h',tk',U,hS',fun b o hb e=>?_⟩));refine hm.heap b o ?_ (U9 _ (U9 _ e));rw[Xg,Xk,WT];rintro (z | z);{exact absurd z (Vw hb)};{exact absurd z (Vw (Wn hb))}
   ·cases r₂ with
    | error e=>exact hr₂
    | ok fl₂ =>
     cases fl₂ with
     | ret r =>
      obtain⟨rfl,h',tk,rfl,hS',hk'⟩:=hr₂
      repeat (any_goals (first | assumption | wp_step))
      exact h h' tk hS' hk'
     | _=>exact hr₂.elim
  | _=>exact hr.elim
end
def wZ:Manifest.owners.lookup (String.ofList ['r','o','t','a','r','e','t','i','_','t','e','s'].reverse)=some Manifest.sig_set_iterator:=by kernel_rfl
def bA:Slot "set_iterator" "__next__" "set_iterator.__next__" :=
 .of (owner:="set_iterator") (n:="__next__") (by rw[Zu,X8];kernel_rfl) (by decide+kernel) (by decide+kernel) (by decide+kernel) (by first | exact .inl (by decide+kernel) | exact .inr (by decide+kernel)) (by rw[Yn];kernel_rfl)
def fC:entryFor table "set_iterator.__next__" = some Yw.«set_iterator.__next__»:=entryFor_of_tree (by kernel_rfl)
def fU (a:Value):aam "set_iterator.__next__" ⟨[a],[]⟩:=by
 unfold aam;rw[abt (id:="set_iterator.__next__") (n:=['_','_','t','x','e','n','_','_']) (o:=['r','o','t','a','r','e','t','i','_','t','e','s']) (by kernel_rfl) wZ]
 kernel_rfl
def jV:Slot "set_iterator" "__iter__" "set_iterator.__iter__" :=
 .of (owner:="set_iterator") (n:="__iter__") (by rw[Zu,X8];kernel_rfl) (by decide+kernel) (by decide+kernel) (by decide+kernel) (by first | exact .inl (by decide+kernel) | exact .inr (by decide+kernel)) (by rw[Yn];kernel_rfl)
def qi:entryFor table "set_iterator.__iter__" = some Yw.«dict_keyiterator.__iter__»:=entryFor_alias (id':="dict_keyiterator.__iter__") (by kernel_rfl) U (by decide+kernel) (by kernel_rfl)
def sX (a:Value):aam "set_iterator.__iter__" ⟨[a],[]⟩:=by
 unfold aam;rw[abt (id:="set_iterator.__iter__") (n:=['_','_','r','e','t','i','_','_']) (o:=['r','o','t','a','r','e','t','i','_','t','e','s']) (by kernel_rfl) wZ]
 kernel_rfl
def qT:entryFor table "set.__iter__" = some Yw.«frozenset.__iter__»:=entryFor_alias (id':="frozenset.__iter__") (by kernel_rfl) U (by decide+kernel) (by kernel_rfl)
theorem n6 {α:Type}:∀ (l:List α) (j:Nat) (h:j < l.length),(l[j]::l.eraseIdx j).Perm l
 | a::r,0,_=>.refl _
 | a::r,j+1,h=>by
  have ih:=n6 r j (aaQ h);rw[List.getElem_cons_succ,List.eraseIdx_cons_succ];exact (List.Perm.swap _ _ _).trans (ih.cons a)
theorem ye {α:Type}(nx:Nat->Nat):∀ (fuel k:Nat) (left:List α) (out:Array α),left.length<=fuel->(pickOrder.go nx fuel k left out).toList.Perm (out.toList++left)
 | 0,k,left,out,h=>by
  rw[pickOrder.go];have e:left=[]:=V8 (by lia);subst e;rw[WR]
 | fuel+1,k,left,out,h=>by
  rw[pickOrder.go];cases hl:left with
  | nil =>
   simp
  | cons a r =>
   have hlen:nx k % (a::r).length < (a::r).length:=Nat.mod_lt _ (by simp);rw[Vg hlen];dsimp only;generalize nx k % (a::r).length=j at hlen ⊢;have ih:=ye nx fuel (k+1) ((a::r).eraseIdx j) (out.push (a::r)[j]) (by rw[List.length_eraseIdx_of_lt hlen,← hl];lia);refine ih.trans ?_;rw[Array.toList_push,ZM];refine List.Perm.append (.refl _) ?_;show ((a::r)[j]::(a::r).eraseIdx j).Perm (a::r);exact n6 _ j hlen
def qY {α:Type}(nx:Nat->Nat)(xs:Array α):(ZS nx xs).toList.Perm xs.toList:=by
 unfold ZS;have:=ye nx xs.size 0 xs.toList #[] (by rw[Wf];exact Vb _);simpa using this
section
variable {P:Vt}{w:V2}{A:V1}{E:Value->U8->Prop}{s:U8}
theorem vZ {α:Type}{Q:List α->U8->Prop}:∀ (n:Nat) (xs:List α) (s:U8),xs.length=n->(∀ ys d,ys.Perm xs->Q ys { s with drawn:=d })->Vh (Vl P w) A (drawOrder n xs) Q E s
 | 0,xs,s,h,hq=>by
  rw[drawOrder];have e:xs=[]:=V8 h;subst e;exact Va (hq [] s.drawn (.refl _))
 | n+1,[],s,h,hq=>by cases h
 | n+1,x::xs,s,h,hq=>by
  rw[drawOrder];{refine U6 (fun Γ p hΓ=>?_);show Sem.wp _ _ (.choose .order (x::xs).length .pure) _ _ _ _;rw[Sem.wp_choose];refine⟨by simp,?_⟩;rw[Sem.wp_pure];generalize (Vl P w).w.draws .order (s.drawn.get .order)=z;have hlen:z % (x::xs).length < (x::xs).length:=Nat.mod_lt _ (by simp);generalize z % (x::xs).length=j at hlen ⊢;show Vh _ _ _ _ _ _;rw[Vg hlen];dsimp only;refine U6 (vZ n ((x::xs).eraseIdx j) _ (by rw[List.length_eraseIdx_of_lt hlen];rw[Vv] at h ⊢;lia) fun ys d p=>Va ?_);exact hq _ d ((p.cons _).trans (n6 _ j hlen))};{simp}
end
def SIt (h:Wg)(I S:Addr)(f:Value)(i n ep:Nat):Prop:=h.get? I=some { cls:=.type "set_iterator",dict:=none,data:=.fields #[f,.int i 0,.ref S,.int n 0,.int ep 0],slots:=#[] }
section
variable {P:Vt}{w:V2}{A:V1}{E:Value->U8->Prop}{s:U8}{I S:Addr}{o:Xz}{es:Array (Int × Value)}{ep:Nat}{t:Y7}
def vq {sl:Int}{tk:Tok}{i:Nat}{Q:C5->U8->Prop}{r:CU}(hh:A.handled=none)(hI:SIt s.heap I S (.int sl tk) i es.size ep)(hS:s.heap.get? S=some o)(hd:o.data = .set es ep t)(hf:t.fits es.size=true)
  (hn:∀ (A:V1) (E:C4) (Q:CU->U8->Prop),Q r s->Vh (Vl P w) A (acn S sl.toNat i ep) Q E s)
  (hs:∀ x j h',r=some (x,j)->SIt h' I S (.int (j:Nat) 0) (i+1) es.size ep->Yv I s.heap h'->Q (some x) { s with heap:=h' }) (he:∀ h',r=none->Heap.ExtBut I s.heap h'->Q none { s with heap:=h' }):Vh (Vl P w) A (YC (.ref I)) Q E s:=by
 have hT:s.TypeIs (.ref I) "set_iterator":=⟨_,hI,U⟩;unfold YC;refine U6 (Zq (XD (name:=ZG "__next__") hT bA (WW bA hT fC ?_ (fU _))));refine (show Vh _ _ (fieldsOf (.ref I) >>= _) _ _ s from U6 (wpAny_fieldsOf hI U ?_));refine (show Vh _ _ (setEntries S >>= _) _ _ s from U6 (aac hS hd hf ?_));rw[if_neg (by simp)];refine (show Vh _ _ (acn S sl.toNat (i:Int).toNat (ep:Int).toNat >>= _) _ _ s from U6 ?_);rw[VL,VL];refine hn _ _ _ ?_;cases hr:r with
 | some xj =>
  obtain⟨x,j⟩:=xj;dsimp only;refine U6 (Xe hI U (by simp) ?_);have g1:=VP (Xf (·.setIfInBounds 0 (Wl (j:Int)))) hI U;refine U6 (Xe g1 U (by simp) ?_);have g2:=VP (Xf (·.setIfInBounds 1 (Wl ((i:Int)+1)))) g1 U;refine Va ⟨x,U,Va (hs x j _ hr ?_ ((W8 ..).trans (W8 ..)))⟩;exact g2
 | none =>
  dsimp only;refine U6 (Xe hI U (by simp) ?_);refine (show Vh _ _ (newExc (.type "StopIteration") [] >>= _) _ _ _ from U6 ?_);simp only[newExc,newTuple];refine U6 (V7 ?_ (by size_fits));refine U6 (m:=ZF _ _) (X4 (a:=WM) (by first | rfl | (simp only[ZF];rfl)) (V7 ?_ (by size_fits)));simp only[raiseNew];refine U6 (wpAny_handled ?_)
  first | rw[show A.in1.handled=none from hh] | rw[hh]
  refine U6 (Va (wpAny_throw ?_));refine U6 (ZQ (T:="StopIteration") (b:=true) ⟨_,Vn _ U,U⟩ isSubtype_stop (Va ?_));exact he _ hr (((W8 ..).extBut.push _).push _)
end
section
variable {P:Vt}{w:V2}{A:V1}{E:Value->U8->Prop}{s:U8}{I S:Addr}{o:Xz}{es:Array (Int × Value)}{ep:Nat}{t:Y7}
def yG {sl i:Nat} {Q:CU->U8->Prop} (hb:w.params.followText "set-order" = true) (hS:s.heap.get? S=some o) (hd:o.data = .set es ep t) (hf:t.fits es.size=true)
  (h:Q (((ZS (w.params.setOrder S ep) es)[i]?).map fun e=>(e.2,sl)) s):Vh (Vl P w) A (acn S sl i ep) Q E s:=by
 unfold acn;refine U6 (YH hS hd hf ?_);dsimp only;unfold setsByText;refine U6 (U6 (Ym (Va ?_)));rw[if_pos (show (Vl P w).w.params.followText "set-order" = true from hb),if_neg (by simp)];unfold setWalk;refine U6 (U6 (YH hS hd hf ?_));dsimp only;unfold setsByText;refine U6 (U6 (Ym (Va ?_)));rw[if_pos (show (Vl P w).w.params.followText "set-order" = true from hb)];exact U6 (Ym (Va (Va h)))
def um {sl i:Nat} {Q:CU->U8->Prop} (hb:w.params.followText "set-order" = false) (hS:s.heap.get? S=some o) (hd:o.data = .set es ep t) (hf:t.fits es.size=true) (hl:t.led=true)
  (hp:t.plain=true∨es.size<=1) (hi:WQ t.place sl=i)
  (h:Q (match es[i]?,t.place[i]? with | some (_,x),some j=>some (x,j+1) | _,_=>none) s):Vh (Vl P w) A (acn S sl i ep) Q E s:=by
 unfold acn;refine U6 (YH hS hd hf ?_);dsimp only;unfold setsByText;refine U6 (U6 (Ym (Va ?_)));rw[if_neg (show ¬ (Vl P w).w.params.followText "set-order" = true by rw[show (Vl P w).w.params.followText "set-order" = false from hb];exact Ve)];have hdr:(!t.plain && decide (es.size > 1))=false:=by
  rcases hp with q | q;{rw[q];rfl};{rw[decide_eq_false (by lia),Ze]}
 refine aaV (show decide ((!t.plain && decide (es.size > 1))=true)=false from decide_eq_false (by rw[hdr];exact Ve)) ?_;refine U6 (show Vh _ _ (if (!t.led && !es.isEmpty)=true then unsupported "set:maker-not-led" else pure ()) _ _ _ from ?_)
 rw[hl];refine aaV (decide_eq_false (by simp)) (Va (Va ?_));rw[hi];exact h
def vd {f:Value}{i n:Nat}{Q:C4}(hI:SIt s.heap I S f i n ep)(h:Q (.ref I) s):Vh (Vl P w) A (aa7 (.ref I)) Q E s:=by
 have hT:s.TypeIs (.ref I) "set_iterator":=⟨_,hI,U⟩;refine abD hT jV (WW jV hT qi (show Vh _ _ (ret (.ref I)) _ _ s from ?_) (sX _));exact Va ⟨_,U,"set_iterator",_,hT,bA.lookup,h⟩
def Jb (hh:A.handled=none) (hne:S≠I) (hb:w.params.followText "set-order" = true) (hd:o.data = .set es ep t) (hf:t.fits es.size=true) :
  Walks P w A I [I,S] [I] es.size (fun i v=>((ZS (w.params.setOrder S ep) es).toList.map (·.2))[i]? = some v) (fun i h=>(∃ (sl:Nat) (tk:Tok),SIt h I S (.int (sl:Int) tk) i es.size ep)/\h.get? S=some o) where
 sub:=fun b hb=>by simp at hb;simp [hb]
 frame:=fun i h h' st hk=>by
  obtain⟨⟨sl,tk,hI⟩,hS⟩:=st;exact⟨⟨sl,tk,hk I (by simp) _ hI⟩,hk S (by simp) _ hS⟩
 item:=fun i s Q E hi st hQ=>by
  obtain⟨⟨sl,tk,hI⟩,hS⟩:=st;have pl:(ZS (w.params.setOrder S ep) es).size=es.size:=by
   have:=(qY (w.params.setOrder S ep) es).length_eq;simpa using this
  have hx:(ZS (w.params.setOrder S ep) es)[i]? = some ((ZS (w.params.setOrder S ep) es)[i]'(by lia)):=VJ _;generalize (ZS (w.params.setOrder S ep) es)[i]'(by lia)=x at hx;refine vq (r:=some (x.2,sl)) hh hI hS hd hf (fun A E Q q=>?_) (fun v j h' hr hI' sb=>?_) (fun h' hr _=>by cases hr);{refine yG hb hS hd hf ?_;rw[VL,hx];exact q}
  ·cases hr;refine hQ _ h' s.toks ?_ ⟨⟨sl,0,hI'⟩,sb.2 S hne▸hS⟩ fun b o' hb' e=>?_;{rw[Vr,Wr,hx];rfl};{rw[sb.2 b (fun z=>hb' (by rw[z];exact List.mem_singleton.mpr U))];exact e}
 done:=fun s Q E st hQ=>by
  obtain⟨⟨sl,tk,hI⟩,hS⟩:=st;have pl:(ZS (w.params.setOrder S ep) es).size=es.size:=by
   have:=(qY (w.params.setOrder S ep) es).length_eq;simpa using this
  refine vq (r:=none) hh hI hS hd hf (fun A E Q q=>?_) (fun v j h' hr=>by cases hr) (fun h' _ hx=>?_);{refine yG hb hS hd hf ?_;rw[Yx (by lia)];exact q};{exact hQ h' s.toks fun b o' hb' e=>hx b o' (fun z=>hb' (by rw[z];exact List.mem_singleton.mpr U)) e}
 self:=fun i s Q E st hQ=>by
  obtain⟨⟨sl,tk,hI⟩,_⟩:=st;exact vd hI hQ
def slotAt (pl:Array Nat):Nat->Nat
 | 0=>0
 | i+1=>pl.getD i 0+1
theorem pG {pl:Array Nat}(h:Ris pl):∀ {i:Nat},i<=pl.size->WQ pl (slotAt pl i)=i
 | 0,_=>CW h
 | i+1,hi=>by
  have e:pl[i]? = some (pl.getD i 0):=by
   rw[VJ (by lia),XX,VJ (by lia)];rfl
  exact below_at h e
def Dp (hh:A.handled=none) (hne:S≠I) (hb:w.params.followText "set-order" = false) (hd:o.data = .set es ep t) (hf:t.fits es.size=true) (hl:t.led=true) (hp:t.plain=true∨es.size<=1) (hr:Ris t.place) :
  Walks P w A I [I,S] [I] es.size (fun i v=>(es.toList.map (·.2))[i]? = some v) (fun i h=>(∃ tk:Tok,SIt h I S (.int (slotAt t.place i:Nat) tk) i es.size ep)/\h.get? S=some o) where
 sub:=fun b hb=>by simp at hb;simp [hb]
 frame:=fun i h h' st hk=>by
  obtain⟨⟨tk,hI⟩,hS⟩:=st;exact⟨⟨tk,hk I (by simp) _ hI⟩,hk S (by simp) _ hS⟩
 item:=fun i s Q E hi st hQ=>by
  obtain⟨⟨tk,hI⟩,hS⟩:=st;have ps:t.place.size=es.size:=by
   simp only[SetTable.fits,WX,beq_iff_eq] at hf;exact hf.1
  have hx:es[i]? = some es[i]:=VJ hi;have hj:t.place[i]? = some (t.place.getD i 0):=by
   rw[VJ (by lia),XX,VJ (by lia)];rfl
  generalize es[i]=x at hx;obtain⟨k,v⟩:=x;refine vq (r:=some (v,t.place.getD i 0+1)) hh hI hS hd hf (fun A E Q q=>?_) (fun u j h' hr hI' sb=>?_) (fun h' hr _=>by cases hr);{refine um hb hS hd hf hl hp (i:=i) (by rw[VL];exact pG hr (by lia)) ?_;rw[hx,hj];exact q}
  ·cases hr;refine hQ _ h' s.toks ?_ ⟨⟨0,hI'⟩,sb.2 S hne▸hS⟩ fun b o' hb' e=>?_;{rw[Vr,Wr,hx];rfl};{rw[sb.2 b (fun z=>hb' (by rw[z];exact List.mem_singleton.mpr U))];exact e}
 done:=fun s Q E st hQ=>by
  obtain⟨⟨tk,hI⟩,hS⟩:=st;have ps:t.place.size=es.size:=by
   simp only[SetTable.fits,WX,beq_iff_eq] at hf;exact hf.1
  refine vq (r:=none) hh hI hS hd hf (fun A E Q q=>?_) (fun v j h' hr=>by cases hr) (fun h' _ hx=>?_);{refine um hb hS hd hf hl hp (i:=es.size) (by rw[VL];exact pG hr (by lia)) ?_;rw[Yx (Vb _)];exact q};{exact hQ h' s.toks fun b o' hb' e=>hx b o' (fun z=>hb' (by rw[z];exact List.mem_singleton.mpr U)) e}
 self:=fun i s Q E st hQ=>by
  obtain⟨⟨tk,hI⟩,_⟩:=st;exact vd hI hQ
end
section
variable {P:Vt}{w:V2}{A:V1}{E:Value->U8->Prop}{s:U8}{I S T:Addr}{o:Xz}{es:Array (Int × Value)}{ep:Nat}{t:Y7}
def dI (pl:DD):C9:=pl.map fun j:Nat=>Wl (j:Int)
def Ef {pl:DD}(hh:A.handled=none)(hne:S≠I)(hnt:T≠I)(hd:o.data = .set es ep t)(hf:t.fits es.size=true)(hp:pl.Perm (Wx es.size)) :
  Walks P w A I [I,S,T] [I] es.size (fun i v=>(pl.map fun j=>(es.getD j (0,.none)).2)[i]? = some v) (fun i h=>SIt h I S (.ref T) i es.size ep/\h.get? S=some o/\h.IsTuple T (dI pl).toArray) where
 sub:=fun b hb=>by simp at hb;simp [hb]
 frame:=fun i h h' st hk=>by
  obtain⟨hI,hS,o',ho',r⟩:=st;exact⟨hk I (by simp) _ hI,hk S (by simp) _ hS,o',hk T (by simp) _ ho',r⟩
 item:=fun i s Q E hi st hQ=>by
  obtain⟨hI,hS,hT⟩:=st;have lp:pl.length=es.size:=by rw[hp.length_eq,Xd]
  have hT0:s.TypeIs (.ref I) "set_iterator":=⟨_,hI,U⟩;obtain⟨j,hj⟩:∃ j,pl[i]? = some j:=⟨pl[i],Vg (by lia)⟩;have hj2:j < es.size:=List.mem_range.mp (hp.mem_iff.mp (Vy hj));have hx:es[j]? = some (es.getD j (0,.none)):=by
   rw[VJ hj2,XX,VJ hj2];rfl
  obtain⟨ot,hot,hct,nt,hdt⟩:=id hT;unfold YC;refine U6 (Zq (XD (name:=ZG "__next__") hT0 bA (WW bA hT0 fC ?_ (fU _))));refine (show Vh _ _ (fieldsOf (.ref I) >>= _) _ _ s from U6 (wpAny_fieldsOf hI U ?_));refine (show Vh _ _ (setEntries S >>= _) _ _ s from U6 (aac hS hd hf ?_));rw[if_neg (by simp)];refine (show Vh _ _ (abU (.ref T) >>= _) _ _ s from U6 (aai hot hdt ?_));have hpl:(dI pl).toArray[(i:Int).toNat]? = some (.int (j:Int) 0):=by
   rw[VL,aa5];show (pl.map fun j:Nat=>Wl (j:Int))[i]? = _;rw[Vr,hj];rfl
  dsimp only;rw[hpl];dsimp only;refine U6 (show Vh _ _ (setNextDrawn S (j:Int).toNat (ep:Int).toNat) _ _ _ from ?_);unfold setNextDrawn;refine U6 (YH hS hd hf ?_);dsimp only;rw[VL,VL,if_neg (by simp),hx];refine Va (U6 (Xe hI U (by simp) ?_));have g1:=VP (Xf (·.setIfInBounds 1 (Wl ((i:Int)+1)))) hI U;refine Va ⟨_,U,Va (hQ _ _ s.toks ?_ ⟨g1,?_,?_⟩ fun b o' hb' e=>?_)⟩;{rw[Vr,hj];rfl};{rw[VF _ _ (Wz hne)];exact hS};{exact⟨ot,by rw[VF _ _ (Wz hnt)];exact hot,hct,nt,hdt⟩};{rw[VF _ _ (fun z:I=b=>hb' (by rw[z];exact List.mem_singleton.mpr U))];exact e}
 done:=fun s Q E st hQ=>by
  obtain⟨hI,hS,hT⟩:=st;have lp:pl.length=es.size:=by rw[hp.length_eq,Xd]
  have hT0:s.TypeIs (.ref I) "set_iterator":=⟨_,hI,U⟩;obtain⟨ot,hot,hct,nt,hdt⟩:=id hT;unfold YC;refine U6 (Zq (XD (name:=ZG "__next__") hT0 bA (WW bA hT0 fC ?_ (fU _))));refine (show Vh _ _ (fieldsOf (.ref I) >>= _) _ _ s from U6 (wpAny_fieldsOf hI U ?_));refine (show Vh _ _ (setEntries S >>= _) _ _ s from U6 (aac hS hd hf ?_));rw[if_neg (by simp)];refine (show Vh _ _ (abU (.ref T) >>= _) _ _ s from U6 (aai hot hdt ?_));have hpl:(dI pl).toArray[(es.size:Int).toNat]? = none:=by
   rw[VL,aa5];show (pl.map fun j:Nat=>Wl (j:Int))[es.size]? = _;rw[Vr,Yb (by lia)];rfl
  dsimp only;rw[hpl];dsimp only;refine U6 (Xe hI U (by simp) ?_);have g1:=VP (Xf (·.setIfInBounds 0 (Wl 0))) hI U;refine U6 (Xe g1 U (by simp) ?_);refine (show Vh _ _ (newExc (.type "StopIteration") [] >>= _) _ _ _ from U6 ?_);simp only[newExc,newTuple];refine U6 (V7 ?_ (by size_fits));refine U6 (m:=ZF _ _) (X4 (a:=WM) (by first | rfl | (simp only[ZF];rfl)) (V7 ?_ (by size_fits)));simp only[raiseNew];refine U6 (wpAny_handled ?_)
  first | rw[show A.in1.handled=none from hh] | rw[hh]
  refine U6 (Va (wpAny_throw ?_));refine U6 (ZQ (T:="StopIteration") (b:=true) ⟨_,Vn _ U,U⟩ isSubtype_stop (Va ?_));refine hQ _ s.toks fun b o' hb' e=>?_;have hbI:b≠I:=fun z=>hb' (by rw[z];exact List.mem_singleton.mpr U);exact ((((W8 ..).trans (W8 ..)).extBut.push _).push _) b o' hbI e
 self:=fun i s Q E st hQ=>vd st.1 hQ
end
section
variable {P:Vt}{w:V2}{A:V1}{E:Value->U8->Prop}{s:U8}{S:Addr}
def JS {Q:Bool->U8->Prop} (hT:s.TypeIs (.ref S) "set") (h:Q false s):Vh (Vl P w) A (acp (.ref S)) Q E s:=by
 unfold acp;refine U6 (Z7 hT PySem.F.slot_set_len.lookup ?_);generalize hid:("set.__len__" : String)=id0
 wp_delta
 rw[show splitId id0=some ("set","__len__") from by subst hid;decide+kernel];subst hid;refine U6 (ZQ (T:="set") (b:=true) hT (by rw[Yn];kernel_rfl) ?_);refine acd (fun z=>absurd z (by decide)) (fun _=>acd (fun _=>?_) (fun z=>absurd (by decide+kernel) z));exact U6 (abC hT (Va h))
def Kc {b:Bool}{ks:DC}{Q:C4}(hh:A.handled=none)(hb:b=JH w)(hS:nG P w b s.heap S ks)(hz:ks.length<=sizeLine)
  (h:∀ (I:Addr) (fp:Db) (n:Nat) (vs:C9) (ns:DC) (St:Nat->Wg->Prop) (s':U8),Walks P w A I fp [I] n (fun i v=>vs[i]? = some v) St->St 0 s'.heap->Wv vs ns->ns.Perm ks->vs.length=n->(∀ x∈fp,x=S∨s.heap.objs.size<=x)->s.heap.objs.size<=I →
   s'.os=s.os->s'.gens=s.gens->(∀ b o,s.heap.get? b=some o->s'.heap.get? b=some o)->Q (.ref I) s'):Vh (Vl P w) A (aa7 (.ref S)) Q E s:=by
 obtain⟨o,es,ep,t,ho,hx,hd,hel,hf,tk,ns,hi,hp⟩:=hS;have hT:s.TypeIs (.ref S) "set":=⟨o,ho,hx.1⟩;have hlt:S < s.heap.objs.size:=Vj ho;refine abD hT PySem.F.slot_set_iter (WW PySem.F.slot_set_iter hT qT ?_ (PySem.F.args_set_iter_1 _));refine (show Vh _ _ (Builtin.Frozenset.sizeOf S >>= _) _ _ s from ?_);unfold Builtin.Frozenset.sizeOf;refine U6 (U6 (aac ho hd hf (Va ?_)));unfold setDrawn setsByText;refine U6 (U6 (YH ho hd hf ?_));dsimp only;refine U6 (U6 (Ym (Va (Va ?_))));have hps:t.place.size=es.size:=by
  simp only[SetTable.fits,WX,beq_iff_eq] at hf;exact hf.1
 have hlen:(es.toList.map (·.2)).length=es.size:=by rw[U7,Wf]
 have hez:es.size<=sizeLine:=by
  have h1:=hi.length;have h2:=hp.length_eq;lia
 have start:∀ (vs:C9) (ns':DC) (St:Nat->Wg->Prop),Walks P w A s.heap.objs.size [s.heap.objs.size,S] [s.heap.objs.size] es.size (fun i v=>vs[i]? = some v) St->(∀ h,SIt h s.heap.objs.size S (.int (0:Nat) 0) 0 es.size ep->h.get? S=some o->St 0 h) →
   Wv vs ns'->ns'.Perm ks->vs.length=es.size->Vh (Vl P w) A.in1 (do
    let first ← pure (Wl 0)
    let e ← setEpoch S
    let r ← newFields "set_iterator" [first,Wl 0,Vq S,Wl (es.size:Int),Wl (e:Int)]
    ret r) (fun fin s'=>∃ v,fin=Fin.done (Flow.ret v)/\∃ T' r,s'.TypeIs v T'/\aak (Yi T') (ZG "__next__")=pure (some r)/\Q v s') E s:=fun vs ns' St W hst hi' hp' hl'=>by
  refine U6 (Va (U6 (wpAny_setEpoch_of ho hd hf (U6 (V7 (Va ?_))))));have g:(s.heap.push { cls:=.type "set_iterator",data:=.fields [Wl 0,Wl 0,Vq S,Wl (es.size:Int),Wl (ep:Int)].toArray }).get? s.heap.objs.size=some { cls:=.type "set_iterator",data:=.fields [Wl 0,Wl 0,Vq S,Wl (es.size:Int),Wl (ep:Int)].toArray }:=Vn _ U;refine⟨_,U,"set_iterator",_,⟨_,g,U⟩,bA.lookup,?_⟩;refine h s.heap.objs.size [s.heap.objs.size,S] es.size vs ns' St _ W (hst _ g (U9 _ ho)) hi' hp' hl' (fun x hx'=>?_) (Vb _) U U fun b' o' e=>U9 _ e;rcases List.mem_cons.mp hx' with rfl | hx';{exact .inr (Vb _)};{exact .inl (List.mem_singleton.mp hx')}
 have hne:S≠s.heap.objs.size:=Vw hlt;cases hB:w.params.followText "set-order" with
 | true =>
  refine aaV (decide_eq_false (show ¬ (!w.params.followText "set-order" && (!t.plain && decide (es.size > 1)))=true by rw[hB];exact Ve)) ?_;have pp:=qY (w.params.setOrder S ep) es;obtain⟨ms,h1,h2⟩:=gM (pp.symm.map (·.2)) hi;exact start _ ms _ (Jb hh hne hB hd hf) (fun h' q1 q2=>⟨⟨0,0,q1⟩,q2⟩) h1 (h2.trans hp) (by rw[U7,pp.length_eq,Wf])
 | false =>
  have hled:t.led=true:=by
   rw[tk.led,hb];unfold JH;rw[hB];rfl
  cases hD:(!t.plain && decide (es.size > 1)) with
  | false =>
   refine aaV (decide_eq_false (show ¬ (!w.params.followText "set-order" && (!t.plain && decide (es.size > 1)))=true by rw[hD,Ze];exact Ve)) ?_;have hpl:t.plain=true∨es.size<=1:=by
    rw[Bool.and_eq_false_iff] at hD;rcases hD with q | q;{exact .inl (by simpa using q)};{exact .inr (by have:=of_decide_eq_false q;lia)}
   have hris:Ris t.place:=by
    rcases hpl with q | q;{exact tk.ris q}
    ·unfold Ris;have hl1:t.place.toList.length<=1:=by rw[Wf];lia
     generalize t.place.toList=l at hl1
     match l,hl1 with
     | [],_=>exact aax
     | [x],_=>exact List.pairwise_singleton _ _
   exact start _ ns _ (Dp hh hne hB hd hf hled hpl hris) (fun h' q1 q2=>⟨⟨0,q1⟩,q2⟩) hi hp hlen
  | true =>
   refine wpAny_ite_true (decide_eq_true (show (!w.params.followText "set-order" && (!t.plain && decide (es.size > 1)))=true by rw[hD,hB];rfl)) ?_;refine U6 (vZ es.size (Wx es.size) s Xd fun pl d pp=>?_);simp only[newTuple];have lp:pl.length=es.size:=by rw[pp.length_eq,Xd]
   refine U6 (V7 ?_ (show (dI pl).toArray.size<=sizeLine by unfold dI;rw[Vo,U7];lia));have sz1:(s.heap.push { cls:=.type "tuple",data:=.seq (dI pl).toArray }).objs.size=s.heap.objs.size+1:=WT _ _;have gT:(s.heap.push { cls:=.type "tuple",data:=.seq (dI pl).toArray }).get? s.heap.objs.size=some { cls:=.type "tuple",data:=.seq (dI pl).toArray }:=Vn _ U;have ho1:(s.heap.push { cls:=.type "tuple",data:=.seq (dI pl).toArray }).get? S=some o:=U9 _ ho;refine U6 (wpAny_setEpoch_of (o:=o) (es:=es) (t:=t) ho1 hd hf (U6 (V7 (Va ?_))));have g:((s.heap.push { cls:=.type "tuple",data:=.seq (dI pl).toArray }).push { cls:=.type "set_iterator",data:=.fields [Vq s.heap.objs.size,Wl 0,Vq S,Wl (es.size:Int),Wl (ep:Int)].toArray }).get? (s.heap.push { cls:=.type "tuple",data:=.seq (dI pl).toArray }).objs.size=some { cls:=.type "set_iterator",data:=.fields [Vq s.heap.objs.size,Wl 0,Vq S,Wl (es.size:Int),Wl (ep:Int)].toArray }:=Vn _ U;refine⟨_,U,"set_iterator",_,⟨_,g,U⟩,bA.lookup,?_⟩;have hne1:S≠(s.heap.push { cls:=.type "tuple",data:=.seq (dI pl).toArray }).objs.size:=by
    rw[sz1];exact Vw (Wn hlt)
   have hne2:s.heap.objs.size≠(s.heap.push { cls:=.type "tuple",data:=.seq (dI pl).toArray }).objs.size:=by
    rw[sz1];exact Vw (Xw _)
   have hv:(pl.map fun j=>(es.getD j (0,.none)).2).Perm (es.toList.map (·.2)):=by
    refine (pp.map _).trans ?_;have e:(Wx es.size).map (fun j=>(es.getD j (0,WM)).2)=es.toList.map (·.2):=by
     apply List.ext_getElem?;intro i;have ea:es.toList[i]? = es[i]?:=Wr;rw[Vr,Vr,ea];by_cases hi':i < es.size;{rw[abp hi',VJ hi'];simp [XX,VJ hi']};{have er:(Wx es.size)[i]? = none:=Yb (by rw[Xd];lia);rw[er,Yx (by lia)];rfl}
    rw[e]
   have le1:s.heap.objs.size<=(s.heap.push { cls:=.type "tuple",data:=.seq (dI pl).toArray }).objs.size:=by
    rw[sz1];exact WY _
   obtain⟨ms,h1,h2⟩:=gM hv.symm hi;refine h _ [(s.heap.push { cls:=.type "tuple",data:=.seq (dI pl).toArray }).objs.size,S,s.heap.objs.size] es.size _ ms _ _ (Ef (T:=s.heap.objs.size) hh hne1 hne2 hd hf pp) ⟨g,U9 _ ho1,_,U9 _ gT,U,0,U⟩ h1 (h2.trans hp) (by rw[U7];exact lp) (fun x hx'=>?_) le1 U U fun b' o' e=>U9 _ (U9 _ e);rcases List.mem_cons.mp hx' with rfl | hx';{exact .inr le1}
   ·rcases List.mem_cons.mp hx' with rfl | hx';{exact .inl U};{exact .inr (by rw[List.mem_singleton.mp hx'];exact Vb _)}
def zW {ks:DC}{Q:C9->U8->Prop}(hh:A.handled=none)(hS:nG P w (JH w) s.heap S ks)(hz:ks.length<=sizeLine)
  (h:∀ (vs:C9) (ns:DC) (s':U8),Wv vs ns->ns.Perm ks->s.heap.objs.size<=s'.heap.objs.size->s'.os=s.os->s'.gens=s.gens->(∀ b o,s.heap.get? b=some o->s'.heap.get? b=some o)->Q vs s'):Vh (Vl P w) A (collect (.ref S)) Q E s:=by
 obtain⟨o,es,ep,t,ho,hx,_⟩:=id hS;have hlt:S < s.heap.objs.size:=Vj ho;have hSl:s.heap.objs.size≠S:=Yt hlt;unfold collect;refine U6 (wpAny_runValue (Xh PySem.F.entry_proto_collect ?_));rw[Xn PySem.F.plain_proto_collect _];refine (show Vh _ A.in1 (newList [] >>= fun l=>again (.builtin "list.__iadd__" ⟨[l,.ref S],[]⟩)) _ _ s from U6 (V7 ?_));refine Va ⟨Yh PySem.F.plain_list_iadd _,Xh PySem.F.entry_list_iadd ?_⟩;rw[Xn PySem.F.plain_list_iadd _];generalize hN:s.heap.push { cls:=.type "list",data:=.seq ([]:C9).toArray }=h1;have gL:h1.get? s.heap.objs.size=some { cls:=.type "list",data:=.seq ([]:C9).toArray }:=by rw[← hN];exact Vn _ U
 have k1:∀ b o,s.heap.get? b=some o->h1.get? b=some o:=fun b o e=>by rw[← hN];exact U9 _ e
 have sz1:h1.objs.size=s.heap.objs.size+1:=by rw[← hN];exact WT _ _
 have hT:Shared.TypeIs { s with heap:=h1 } (.ref S) "set":=⟨o,k1 _ _ ho,hx.1⟩;refine (show Vh _ A.in1 (YQ (.ref s.heap.objs.size) (.ref S) (.ref s.heap.objs.size)) _ _ { s with heap:=h1 } from ?_);unfold YQ;refine U6 (abC hT ?_);have q1:Builtin.List.listSameRef (.ref s.heap.objs.size) (.ref S)=false:=by simp [Builtin.List.listSameRef,hSl]
 have q2:(Yi "set" == Yi "list")=false:=by decide
 have q3:(Yi "set" == Yi "tuple")=false:=by decide
 simp only[q1,q2,q3,Bool.or_false,abB,if_false];refine U6 (Kc (s:={ s with heap:=h1 }) hh U (o7 (fun o e=>k1 S o e) hS) hz fun I fp n vs ns St s2 W st hi hp hl hfp hI os2 gs2 k2=>?_);have gL2:=k2 _ _ gL;have hTs:s2.TypeIs (.ref S) "set":=⟨o,k2 _ _ (k1 _ _ ho),hx.1⟩;have hLf:s.heap.objs.size ∉ fp:=fun z=>by
  rcases hfp _ z with q | q;{exact hSl q};{have q':h1.objs.size<=s.heap.objs.size:=q;rw[sz1] at q';exact absurd q' (Nat.not_succ_le_self _)}
 have hz':n<=sizeLine:=by
  have e1:=hi.length;have e2:=hp.length_eq;lia
 have key:∀ (R:aan->U8->Prop),(∀ (s':U8) (c':Nat),s'.heap.get? s.heap.objs.size=some { cls:=.type "list",dict:=none,data:=.seq vs.toArray c',slots:=#[] }->s'.os=s.os->s'.gens=s.gens->(∀ b o,s.heap.get? b=some o->s'.heap.get? b=some o)->R (.ok (.ret (.ref s.heap.objs.size))) s') →
   ∀ (h':Wg) (c tk:Nat),St 0 h'->(∀ b o,b≠s.heap.objs.size->s2.heap.get? b=some o->h'.get? b=some o)->h'.get? s.heap.objs.size=some { cls:=.type "list",data:=.seq #[] c } →
   WK (Vl P w) A (.builtin "list.extend.loop" ⟨[.ref s.heap.objs.size,.ref I,.ref s.heap.objs.size],[]⟩) R { s2 with heap:=h',toks:=tk }:=fun R hR h' c tk st' kp gl=>by
  refine codeAny_extend_loopS W.toS hz' s.heap.objs.size hLf _ n 0 _ #[] c U (V3 _) st' gl (ItemsOf.nil _) fun s' acc' c' hm gL' hacc=>?_;have eacc:acc'=vs.toArray:=by
   apply Array.ext_getElem?;intro j;have ev:vs.toArray[j]? = vs[j]?:=aa5;rw[ev];by_cases hj:j < acc'.size;{have e:=hacc.2 j acc'[j] (VJ hj);rw[VJ hj];exact e.symm};{rw[Yx (by lia),Yb (by have:=hacc.1;lia)]}
  rw[eacc] at gL';refine hR s' c' gL' (hm.os.trans os2) (hm.gens.trans gs2) fun b o' e=>?_;have hbl:b < s.heap.objs.size:=Vj e;refine hm.heap b o' ?_ (kp b o' (Vw hbl) (k2 _ _ (k1 _ _ e)));rw[Xg,Xk];rintro (z | z);{exact absurd z (Vw hbl)};{have q:h1.objs.size<=I:=hI;rw[sz1,← z] at q;exact absurd (Vc hbl (YL q)) (Wj _)}
 refine U6 (Ww (JS hTs ?_));have fin:∀ (s':U8) (c':Nat),s'.heap.get? s.heap.objs.size=some { cls:=.type "list",dict:=none,data:=.seq vs.toArray c',slots:=#[] }->s'.os=s.os->s'.gens=s.gens->(∀ b o,s.heap.get? b=some o->s'.heap.get? b=some o) →
   Vh (Vl P w) A (load s.heap.objs.size >>= fun o=>match o.data with | .seq xs _=>pure xs.toList | _=>unsupported "internal:collect") Q E s':=fun s' c' g e1 e2 e3=>U6 (wpAny_load g (Va (h vs ns s' hi hp (Xb (Vj g)) e1 e2 e3)))
 refine acd (fun _=>?_) (fun _=>Va ⟨Yh PySem.F.plain_extend_loop _,key _ (fun s' c' g e1 e2 e3=>fin s' c' g e1 e2 e3) s2.heap _ s2.toks st (fun b o _ e=>e) gL2⟩);refine U6 (aaj (U6 (show Vh _ _ (updateSeq s.heap.objs.size (·.push .none) >>= fun _=>updateSeq s.heap.objs.size (·.pop)) _ _ _ from ?_)));refine U6 (Z6 gL2 U ?_);have g3:=VP (Ys (·.push WM)) gL2 U;refine Z6 (hz:=by seq_fits) g3 U ?_;have g4:=VP (Ys (·.pop)) g3 U;have oth:∀ b o',b≠s.heap.objs.size->s2.heap.get? b=some o'->((s2.heap.update s.heap.objs.size (Ys (·.push WM))).update s.heap.objs.size (Ys (·.pop))).get? b=some o':=fun b o' hb e=>by
  rw[VF _ _ (Wz hb),VF _ _ (Wz hb)];exact e
 exact Va ⟨Yh PySem.F.plain_extend_loop _,key _ (fun s' c' g e1 e2 e3=>fin s' c' g e1 e2 e3) _ _ s2.toks (W.frame 0 _ _ st fun b hb o' e=>oth b o' (fun z=>hLf (by rw[← z];exact hb)) e) oth g4⟩
end
section
variable {P:Vt}{w:V2}{A:V1}{E:Value->U8->Prop}{s:U8}{S:Addr}
def Dl {ks:DC}{Q:C4}(hh:A.handled=none)(hS:nG P w (JH w) s.heap S ks)(h64:ks.length < 64)
  (h:∀ (l:Addr) (vs:C9) (ns:DC) (c:Nat) (s':U8),Wv vs ns->ns.Perm ks->ns.Pairwise (·<=·)->s'.heap.get? l=some { cls:=.type "list",data:=.seq vs.toArray c }->s.heap.objs.size<=l->s'.os=s.os->s'.gens=s.gens →
   (∀ b o,s.heap.get? b=some o->s'.heap.get? b=some o)->Q (.ref l) s'):Vh (Vl P w) A (call (.builtin "sorted") [.ref S]) Q E s:=by
 refine aat kind_sorted plain_sorted entry_sorted (args_sorted1 _) ?_;unfold Yw.«sorted»;refine U6 (m:=checkCount "sorted" 1 1 _) (Va ?_);refine U6 (zW hh hS (Xb (Vc h64 (by decide))) fun vs ns s1 hi hp hsz os1 gs1 k1=>?_);have hl:vs.length < 64:=by
  have e1:=hi.length;have e2:=hp.length_eq;lia
 refine U6 (abq ?_);have g1:(s1.heap.push (Z9 "list" vs.toArray 0)).get? s1.heap.objs.size=some (Z9 "list" vs.toArray 0):=Vn _ U;refine U6 (Ww (WW slot_list_sort ⟨_,g1,U⟩ acf (list_sort_tree g1 hi hl fun out ns' a1 a2 a3=>⟨_,U,?_⟩) (args_list_sort _)));obtain⟨c,hc⟩:=sortedHeap_at (out:=out) g1;refine Va ⟨_,U,h s1.heap.objs.size out.toList ns' c _ a1 (a2.trans hp) a3 ?_ hsz os1 gs1 fun b o e=>?_⟩;{exact hc};{have e1:=k1 b o e;have lt:=Vj e1;rw[sortedHeap_old (Vw lt) (by rw[WT];exact Wn lt)];exact U9 _ e1}
end
def ddI (ns:DC):DC:=firstMet (fun i=>ns.getD i 0) ns.length
def Inv.J2 {X:Cx}{ZY:C1}{σ:St}{H:Hp}{s s':U8}{l:Addr}{ys:List V}{its:C9}{c:Nat}(I:Inv X ZY σ H s)(ho:s'.os=s.os)(hg:s'.gens=s.gens)(k:∀ b u,s.heap.get? b=some u->s'.heap.get? b=some u)
  (hl:s.heap.objs.size<=l) (hv:Vals ys its) (hz:ys.length<=sizeLine) (g:s'.heap.get? l=some { cls:=.type "list",data:=.seq its.toArray c }):Inv X ZY σ (upd H l (.lst ys)) s':=by
 have J:=I.laid (t':=s.toks) (o:=.lst ys) k hl ⟨hz,its,c,hv,g⟩;exact⟨J.ok,ho.trans I.os,by rw[hg];exact I.bare,J.base,J.loc,J.cell,J.free,J.freeC,J.pin,J.hok,J.len⟩
def tSS (K:VG)(te:TA):TE:=fun σ H Q=>te σ H fun xs H1=>∃ (a:Addr) (ns:DC),xs=[.ref a]/\SqL K H1 a (ns.map V.int)/\ns.length<=4000/\(ddI ns).length < 64/\∀ ms:DC,ms.Perm (ddI ns)->ms.Pairwise (·<=·)->∀ l,H1 l=none->Q (.ref l) (upd H1 l (.lst (ms.map V.int)))
def pJ {X:Cx} {e:Expr} {te:TA} {p1 p2 q1 q2:YS} (hc:X.calm=true) (hg1:Gl X "sorted") (hm1:X.mg "sorted" = none) (hg2:Gl X "set") (hm2:X.mg "set" = none) (ha:PA X [e] te)
  (hb1:We "sorted" = some (.builtin "sorted"):=by decide+kernel) (hb2:We "set" = some (.type "set"):=by decide+kernel)
  (he1:Vx [.Call (.Name "set" p2) [e] [] q2] X.env=(false,Wy (.Call (.Name "set" p2) [e] [] q2) X.env)::Vx [] X.env:=by rfl) (hp1:(Xj q1 (Vx [] X.env)).any (·.1)=false:=by rfl)
  (he2:Vx [e] X.env=(false,Wy e X.env)::Vx [] X.env:=by rfl) (hp2:(Xj q2 (Vx [] X.env)).any (·.1)=false:=by rfl) :
  PE X (.Call (.Name "sorted" p1) [.Call (.Name "set" p2) [e] [] q2] [] q1) (tSS X.K te):=by
 intro ZY s σ H Q I h;refine WL (kO I hg1 hm1 hb1 ?_ (by decide) (by decide));refine abY ?_ he1 hp1;rw[he1];refine (show Vh _ _ (spliced ((false,Wy (.Call (.Name "set" p2) [e] [] q2) X.env)::Xj q1 (Vx [] X.env))) _ _ s from aar ?_);refine WL (kO I hg2 hm2 hb2 ?_ (by decide) (by decide));refine XS (thn (ha q2 ZY s σ H _ I h) fun us s1 ⟨vs,H1,I1,r1,q⟩=>?_) he2 hp2;obtain⟨a,ns,rfl,hq,hl,h64,hQ⟩:=q;obtain⟨u,rfl,ru⟩:=vals1 r1;cases ru;obtain⟨its,rv,pl,_⟩:=I1.list hq;have hi:Wv its ns:=intsAre_of rv;have hsz:its.toArray.size=ns.length:=by rw[Vo];exact hi.length
 refine yS (I1.ok.hd hc) pl.isList hi (by rw[hsz];exact Zz (abZ hl) (by decide)) fun h' tk hS hk=>?_;rw[hsz] at hS;have I2:Inv X ZY σ H1 { s1 with heap:=h',toks:=tk }:=I1.kept (t':=tk) fun b o e=>hk b o (Vj e) e;refine (show Vh _ _ (spliced []) _ _ _ from aay ?_);refine Dl (I1.ok.hd hc) hS h64 fun l vs ms c s3 hi3 hp3 hw3 g3 hl3 os3 gs3 k3=>?_;have hml:(ms.map V.int).length<=sizeLine:=by
  rw[U7,hp3.length_eq];exact Xb (Vc h64 (by decide))
 exact⟨.ref l,_,I2.J2 os3 gs3 k3 hl3 (iI hi3) hml g3,U,hQ ms hp3 hw3 l (I2.hok.fresh hl3)⟩
section
variable {X:Cx}{ZY:C1}{s:U8}{σ:St}{H:Hp}
end
section
variable {X:Cx}{k:Nat}
end
section
variable {X:Cx}{k:Nat}
end
def mxD (d:Int):DC->Int
 | []=>d
 | a::r=>r.foldl max a
theorem uE {n:Int}:∀ {l:C9} {ns:DC} {j:Nat},Wv l ns->ns[j]? = some n->∃ t,l[j]? = some (.int n t)
 | _,_,j,.nil,h=>by simp at h
 | _,_,0,.cons _ _ _,h=>by
  cases (show some _=some n from h);exact⟨_,U⟩
 | _,_,j+1,.cons _ _ r,h=>by
  obtain⟨t,e⟩:=uE (j:=j) r (by simpa using h);exact⟨t,by simpa using e⟩
def dkw (dk:CY):C0:=dk.toList.map fun d=>(("default" : VB),X7 d.1 d.2)
section
variable {prog:Vt}{w:V2}{A:V1}{R:aan->U8->Prop}{E:C4}{s:U8}
def Fl {it l S:Addr}{items:Array Value}{ns:DC}(hh:A.handled=none)(hi:Wv items.toList ns)(hne:l≠it)(hS1:S≠it)(hS2:S≠l)(kw:C0) :
  ∀ (k j:Nat) (s:U8) (b:Int) (t:Tok) (c:Nat),ns.length - j=k->j<=ns.length->s.heap.IsListIter it l j->s.heap.IsList l items →
   s.heap.get? S=some { cls:=.type "list",dict:=none,data:=.seq #[.int b t,.int b t] c,slots:=#[] } →
   (∀ t' h' tk,(∀ a o,a≠it->a≠S->s.heap.get? a=some o->h'.get? a=some o)->R (.ok (.ret (.int ((ns.drop j).foldl max b) t'))) { s with heap:=h',toks:=tk }) →
   WK (Vl prog w) A (.builtin "max.loop" ⟨[.ref it,.none,.ref S],kw⟩) R s:=by
 have W:=aby (prog:=prog) (w:=w) (A:=A.in1) hh it l hne items;have hname:(toString "max"++toString ".loop" : String) = "max.loop":=by decide
 have hsz:items.size=ns.length:=by rw[← Wf];exact hi.length
 intro k
 induction k with
 | zero =>
  intro j s b t c hk hj h1 h2 hS hR;refine Xh ab6 ?_;rw[Xn Yp _];show Vh _ A.in1 (abU (.ref S) >>= _) _ _ s;refine U6 (aai hS U ?_);have ej:j=items.size:=by lia
  show Vh _ A.in1 (tryCatch (YC (.ref it)) _ >>= _) _ _ s;refine U6 (aah (W.done s _ _ (by rw[← ej];exact⟨h1,h2⟩) fun h' tk hm=>?_));have hS':=hm S _ (by simpa using hS1) hS;show Vh _ A.in1 (updateSeq S (fun _=>#[]) >>= _) _ _ _;refine U6 (Z6 hS' U (U6 (ab7 (Va ?_))));rw[List.drop_of_length_le (by lia)] at hR;exact hR t _ tk fun a o ha hb e=>(VF _ _ (Wz hb)).trans (hm a o (by simpa using ha) e)
 | succ k ih =>
  intro j s b t c hk hj h1 h2 hS hR;refine Xh ab6 ?_;rw[Xn Yp _];show Vh _ A.in1 (abU (.ref S) >>= _) _ _ s;refine U6 (aai hS U ?_);have hlt:j < ns.length:=by lia
  obtain⟨u,hu⟩:=uE hi (Vg hlt);have ed:ns.drop j=ns[j]::ns.drop (j+1):=Zk hlt;show Vh _ A.in1 (tryCatch (YC (.ref it)) _ >>= _) _ _ s;refine U6 (aah (W.item j s _ _ (by lia) ⟨h1,h2⟩ fun v h' tk hP st hm=>?_));obtain⟨g1,g2⟩:=st;have ev:v = .int ns[j] u:=by
   have e:items[j]? = some v:=hP;rw[← Wr,hu] at e;exact (VV e).symm
  subst ev;have hS':=hm S _ (by simpa using hS1) hS;show Vh _ A.in1 (tryCatch (Zg [X7 ns[j] u,X7 ns[j] u] (richCompare .Gt (.int ns[j] u) (.int b t) >>= _)) _ >>= _) _ _ _;refine U6 (aah (Ww (U6 ((CmpOf.ints_gt (P:=fun i v=>∃ t,v = .int (if i=0 then ns[j] else b) t) (fun i=>if i=0 then ns[j] else b) (fun _ _ h=>h)) 0 1 _ _ _ _ _ ⟨u,U⟩ ⟨t,U⟩ ?_))))
  refine U6 (Ww (Xp (U6 (ab7 (Va ?_)))));show Vh _ A.in1 (if decide (ns[j] > b)=true then _ else _) _ _ _
  by_cases hb:ns[j] > b
  ·rw[if_pos (decide_eq_true hb)];refine U6 (Z6 hS' U (U6 (ab7 ?_)));rw[hname];refine Va ⟨Yh Yp _,ih (j+1) _ ns[j] u _ (by lia) hlt ?_ ?_ (VP _ hS' U) fun t' h2 tk2 k2=>?_⟩;{exact g1.at fun o e=>(VF _ _ hS1).trans e};{exact g2.at fun o e=>(VF _ _ hS2).trans e};{have q:=hR t' h2 tk2 fun a o ha hb e=>k2 a o ha hb ((VF _ _ (Wz hb)).trans (hm a o (by simpa using ha) e));rw[ed,XM,show max b ns[j]=ns[j] by lia] at q;exact q}
  ·rw[if_neg (by simpa using hb)];refine U6 (ab7 ?_);rw[hname];refine Va ⟨Yh Yp _,ih (j+1) _ b t c (by lia) hlt g1 g2 hS' fun t' h2 tk2 k2=>?_⟩;have q:=hR t' h2 tk2 fun a o ha hb e=>k2 a o ha hb (hm a o (by simpa using ha) e);rw[ed,XM,show max b ns[j]=b by lia] at q;exact q
def Et {it l S:Addr}{items:Array Value}{ns:DC}{c:Nat}(hh:A.handled=none)(hi:Wv items.toList ns)(hne:l≠it)(hS1:S≠it)(hS2:S≠l)(dk:CY)(hd:ns=[]->dk≠none)
  (h1:s.heap.IsListIter it l 0) (h2:s.heap.IsList l items) (hS:s.heap.get? S=some { cls:=.type "list",dict:=none,data:=.seq #[] c,slots:=#[] })
  (hR:∀ t' h' tk,(∀ a o,a≠it->a≠S->s.heap.get? a=some o->h'.get? a=some o)->R (.ok (.ret (.int (mxD ((dk.map (·.1)).getD 0) ns) t'))) { s with heap:=h',toks:=tk }) :
  WK (Vl prog w) A (.builtin "max.loop" ⟨[.ref it,.none,.ref S],dkw dk⟩) R s:=by
 have W:=aby (prog:=prog) (w:=w) (A:=A.in1) hh it l hne items;have hname:(toString "max"++toString ".loop" : String) = "max.loop":=by decide
 have hsz:items.size=ns.length:=by rw[← Wf];exact hi.length
 refine Xh ab6 ?_;rw[Xn Yp _];show Vh _ A.in1 (abU (.ref S) >>= _) _ _ s;refine U6 (aai hS U ?_);show Vh _ A.in1 (tryCatch (YC (.ref it)) _ >>= _) _ _ s;cases ns with
 | nil =>
  have e0:items.size=0:=hsz;refine U6 (aah (W.done s _ _ (by rw[e0];exact⟨h1,h2⟩) fun h' tk hm=>?_));cases dk with
  | none=>exact absurd U (hd U)
  | some d =>
   refine U6 (aaj ?_);exact Va (hR d.2 h' tk fun a o ha hb e=>hm a o (by simpa using ha) e)
 | cons n r =>
  obtain⟨u,hu⟩:=uE (n:=n) (j:=0) hi U;refine U6 (aah (W.item 0 s _ _ (by rw[hsz];exact Nat.succ_pos _) ⟨h1,h2⟩ fun v h' tk hP st hm=>?_));obtain⟨g1,g2⟩:=st;have ev:v = .int n u:=by
   have e:items[0]? = some v:=hP;rw[← Wr,hu] at e;exact (VV e).symm
  subst ev;have hS':=hm S _ (by simpa using hS1) hS;show Vh _ A.in1 (updateSeq S (fun _=>#[X7 n u,X7 n u]) >>= _) _ _ _;refine U6 (Z6 hS' U ?_);rw[hname];refine Va ⟨Yh Yp _,Fl hh hi hne hS1 hS2 _ _ 1 _ n u _ U (abZ (V3 _)) ?_ ?_ (VP _ hS' U) fun t' h2 tk2 k2=>?_⟩;{exact g1.at fun o e=>(VF _ _ hS1).trans e};{exact g2.at fun o e=>(VF _ _ hS2).trans e};{exact hR t' h2 tk2 fun a o ha hb e=>k2 a o ha hb ((VF _ _ (Wz hb)).trans (hm a o (by simpa using ha) e))}
def GK (a v:Value):aam "max" ⟨[a],[("default",v)]⟩:=by unfold aam;kernel_rfl
def Jg (v:Value):aae "max" ["key","default"] 0 ⟨[],[("default",v)]⟩=pure [none,some v]:=by kernel_rfl
def Lr {l:Addr}{items:Array Value}{ns:DC}{Q:C4}(hh:A.handled=none)(hl:s.heap.IsList l items)(hi:Wv items.toList ns)(dk:CY)(hd:ns=[]->dk≠none)
  (h:∀ t h' tk,(∀ a o,s.heap.get? a=some o->h'.get? a=some o)->Q (.int (mxD ((dk.map (·.1)).getD 0) ns) t) { s with heap:=h',toks:=tk }) :
  Vh (Vl prog w) A (call (.builtin "max") [.ref l] (dkw dk)) Q E s:=by
 have ha:aam "max" ⟨[.ref l],dkw dk⟩:=by
  cases dk with
  | none=>exact F.args_max1 _
  | some d=>exact GK _ _
 have hb:aae "max" ["key","default"] 0 ⟨[],dkw dk⟩=pure [none,dk.map fun d=>.int d.1 d.2]:=by
  cases dk with
  | none=>rfl
  | some d=>exact Jg _
 have hname:(toString "max"++toString ".loop" : String) = "max.loop":=by decide
 refine YT (YX F.plain_max F.entry_max ?_)
 have main:Vh (Vl prog w) A.in1 (Yw.«max» ⟨[.ref l],dkw dk⟩) (fun fin s'=>match fin with
   | .done f=>(match (Except.ok f:aan) with | .ok (.ret v)=>Q v s' | .ok _=>False | .error e=>E e s')
   | .again c'=>c'.quiet=true/\WK (Vl prog w) A c' (fun r s'=>match r with | .ok (.ret v)=>Q v s' | .ok _=>False | .error e=>E e s') s') E s:=by
  show Vh _ A.in1 (aae "max" ["key","default"] 0 ⟨[],dkw dk⟩ >>= _) _ _ s;refine U6 (X4 hb (U6 (Va ?_)));refine U6 (ZD hl (U6 (V7 ?_)));have lt:l < s.heap.objs.size:=by obtain⟨o,e,_⟩:=hl;exact Vj e
  have hs1:(s.heap.push { cls:=.type "list_iterator",data:=.fields #[.ref l,.int 0 0] }).objs.size=s.heap.objs.size+1:=WT ..;rw[hname];have ek:(dk.map fun d=>X7 d.1 d.2).toList.map (fun d=>(("default" : VB),d))=dkw dk:=by cases dk <;> rfl
  refine Va ⟨Yh Yp _,?_⟩;show WK _ A (.builtin "max.loop" ⟨[.ref s.heap.objs.size,.none,_],(dk.map fun d=>X7 d.1 d.2).toList.map (fun d=>(("default" : VB),d))⟩) _ _;rw[ek];refine Et hh hi (Vw lt) (by rw[hs1];exact Yt (Xw _)) (by rw[hs1];exact Yt (Wn lt)) dk hd
   ⟨_,U9 _ (Vn _ U),U,U⟩ ((hl.push _).push _) (Vn _ U) fun t h' tk k=>?_
  exact h t h' tk fun a o e=>k a o (Vw (Vj e)) (by rw[hs1];exact Vw (Wn (Vj e))) (U9 _ (U9 _ e))
 simp only[Zh,F.kind_max];cases hsig:Manifest.signature? "max" with
 | none=>exact Va main
 | some sig =>
  have ha':Bind.checkArgs "max" sig ⟨[.ref l],dkw dk⟩=pure ():=by simpa only [aam,hsig] using ha
  simp only[ha'];exact Va main
end
section
variable {X:Cx}
inductive Mq (K:VG)(xs:List V)(H:Hp)(Q:VK):Prop where
 | mk (p:Addr) (ns:DC) (_:xs=[.ref p]) (_:SqL K H p (ns.map V.int)) (_:ns.length < 64) (_:∀ ms:DC,ms.Perm ns->ms.Pairwise (·<=·)->∀ l,H l=none->Q (.ref l) (upd H l (.lst (ms.map V.int))))
def Di:fY X (.builtin "sorted") (Mq X.K):=by
 intro ZY s σ H xs us Q I r h;obtain⟨p,ns,rfl,hq,h64,q⟩:=h;obtain⟨u,rfl,ru⟩:=vals1 r;cases ru;obtain⟨its,rv,pl,hz⟩:=I.list hq;have hi:Wv its ns:=intsAre_of rv;refine sorted_ints pl.isList hi (by have:=hi.length;lia) fun out ns' a1 a2 a3=>?_;obtain⟨e,he⟩:=sortedAll_at s.heap its out;have hml:(ns'.map V.int).length<=sizeLine:=by
  rw[U7,a2.length_eq];exact Xb (Vc h64 (by decide))
 exact⟨.ref _,_,I.J2 U U (fun _ _=>sortedAll_old) (WY _) (iI a1) hml he,U,q ns' a2 a3 _ (I.hok.fresh (WY _))⟩
inductive K6 (K:VG)(xs:List V)(H:Hp)(Q:VK):Prop where
 | mk (p:Addr) (ns:DC) (_:xs=[.ref p]) (_:SqL K H p (ns.map V.int)) (_:ns≠[]) (_:Q (.int (mxD 0 ns)) H)
def sE (hc:X.calm=true):fY X (.builtin "max") (K6 X.K):=by
 intro ZY s σ H xs us Q I r h;obtain⟨p,ns,rfl,hq,hne,q⟩:=h;obtain⟨u,rfl,ru⟩:=vals1 r;cases ru;obtain⟨its,rv,pl,hz⟩:=I.list hq;exact Lr (I.ok.hd hc) pl.isList (show Wv its.toArray.toList ns from intsAre_of rv) none (fun e=>absurd e hne) fun t h' tk k=>⟨.int _,H,I.kept (t':=tk) k,⟨_,U⟩,q⟩
def Su (K:VG)(d:Int)(te:TA):TE:=fun σ H Q=>te σ H fun xs H1=>∃ (p:Addr) (ns:DC),xs=[.ref p]/\SqL K H1 p (ns.map V.int)/\Q (.int (mxD d ns)) H1
def MK {e:Expr} {te:TA} {d:Int} {j} {p pos kp cp:YS} (hc:X.calm=true) (hg:Gl X "max") (hm:X.mg "max" = none) (ha:PA X [e] te)
  (hb:We "max" = some (.builtin "max"):=by decide+kernel)
  (he:Xj pos (Vx [e] X.env)=(false,Wy e X.env)::Xj pos (Vx [] X.env):=by rfl) (hp:(Xj pos (Vx [e] X.env)).any (·.1)=false:=by rfl) :
  PE X (.Call (.Name "max" p) [e] [⟨some "default",.Constant (.int d) j cp,kp⟩] pos) (Su X.K d te):=by
 intro ZY s σ H Q I h;refine WL (kO I hg hm hb ?_ (by decide) (by decide));refine callWith_kw (thn (ha pos ZY s σ H _ I h) fun us s1 ⟨vs,H1,I1,r1,q⟩=>?_) he hp;obtain⟨a,ns,rfl,hq,q⟩:=q;obtain⟨u,rfl,ru⟩:=vals1 r1;cases ru;refine kws_cons (wpAny_Constant_int (kws_nil ?_));have I2:Inv X ZY σ H1 { s1 with toks:=s1.toks+1 }:=I1.tok _;obtain⟨its,rv,pl,hz⟩:=I2.list hq;exact Lr (I.ok.hd hc) pl.isList (show Wv its.toArray.toList ns from intsAre_of rv) (some (d,_)) (fun _ z=>nomatch z) fun t h' tk k=>⟨.int _,H1,I2.kept (t':=tk) k,⟨_,U⟩,q⟩
end
def HR:Manifest.owners.lookup (String.ofList ['d','e','s','r','e','v','e','r'].reverse)=some Manifest.sig_reversed:=by kernel_rfl
def dU:Slot "reversed" "__next__" "reversed.__next__" :=
 .of (owner:="reversed") (n:="__next__") (by rw[Zu,X8];kernel_rfl) (by decide+kernel) (by decide+kernel) (by decide+kernel) (by first | exact .inl (by decide+kernel) | exact .inr (by decide+kernel)) (by rw[Yn];kernel_rfl)
def vL:Slot "reversed" "__init__" "object.__init__" :=
 .of (owner:="object") (n:="__init__") (by rw[Zu,X8];kernel_rfl) (by decide+kernel) (by decide+kernel) (by decide+kernel) (by first | exact .inl (by decide+kernel) | exact .inr (by decide+kernel)) (by rw[Yn];kernel_rfl)
def kJ:entryFor table "reversed.__next__" = some Yw.«reversed.__next__»:=entryFor_of_tree (by kernel_rfl)
def mX (a:Value):aam "reversed.__next__" ⟨[a],[]⟩:=by
 unfold aam;rw[abt (id:="reversed.__next__") (n:=['_','_','t','x','e','n','_','_']) (o:=['d','e','s','r','e','v','e','r']) (by kernel_rfl) HR]
 kernel_rfl
def m7:Slot "reversed" "__iter__" "reversed.__iter__" :=
 .of (owner:="reversed") (n:="__iter__") (by rw[Zu,X8];kernel_rfl) (by decide+kernel) (by decide+kernel) (by decide+kernel) (by first | exact .inl (by decide+kernel) | exact .inr (by decide+kernel)) (by rw[Yn];kernel_rfl)
def tO:entryFor table "reversed.__iter__" = some Yw.«dict_keyiterator.__iter__»:=entryFor_alias (id':="dict_keyiterator.__iter__") (by kernel_rfl) U (by decide+kernel) (by kernel_rfl)
def uX (a:Value):aam "reversed.__iter__" ⟨[a],[]⟩:=by
 unfold aam;rw[abt (id:="reversed.__iter__") (n:=['_','_','r','e','t','i','_','_']) (o:=['d','e','s','r','e','v','e','r']) (by kernel_rfl) HR]
 kernel_rfl
def DK:TypeCalled "reversed" "reversed.__new__" "object.__init__" :=
 ⟨by decide+kernel,by decide+kernel,⟨_,_,F.mro_reversed⟩,F.made_reversed,by decide+kernel,by rw[Yn];kernel_rfl,vL⟩
def v8:aak (.type "tuple") "__reversed__" = pure none:=by rw[Zu,X8];kernel_rfl
def yM:isSubtype (.type "tuple") (.type "dict")=pure false:=by rw[Yn];kernel_rfl
def RIt (h:Wg)(I t:Addr)(i:Int):Prop:=h.get? I=some { cls:=.type "reversed",dict:=none,data:=.fields #[.ref t,.int i 0],slots:=#[] }
def Jt (a:Value):aco "reversed" ⟨[.type "reversed",a],[]⟩=pure (.type "reversed",[a]):=by
 unfold aco;simp only[isType,F.sub_reversed_self,pure_bind,Bool.not_true,abB,if_false]
def Kh (t:Addr)(items:Array Value)(hf:(items.size:Int) < 2 ^ 63) :
  Meets (Yw.«reversed.__new__» ⟨[.type "reversed",.ref t],[]⟩) (fun _ R s=>IsTup s.heap t items/\R (.ok (.ret (.ref s.heap.objs.size))) { s with heap:=s.heap.push { cls:=.type "reversed",data:=.fields #[.ref t,.int ((items.size:Int) - 1) 0] },toks:=s.toks+1+1 }) :=
 .of_wp fun prog w A R s h=>by
  obtain⟨ht,h⟩:=h;unfold Yw.«reversed.__new__»;refine U6 (X4 (Jt _) ?_)
  try dsimp only
  refine U6 (X4 (a:=()) (by first | rfl | kernel_rfl) (U6 (X4 (a:=()) (by first | rfl | kernel_rfl) ?_)))
  try dsimp only
  refine U6 (Z7 ht.typeIs v8 ?_)
  try dsimp only
  refine (show Vh _ _ ((isInstance (.ref t) (.type "dict") >>= _) >>= _) _ _ s from U6 (U6 (ZQ ht.typeIs yM ?_)));rw[if_neg Ve];refine U6 (Z7 ht.typeIs slot_tuple_getitem.lookup ?_);dsimp only;rw[if_pos (by decide+kernel)];refine Va ?_;rw[if_neg (by simp)];refine U6 (len_tuple ht hf ?_);refine U6 (X4 (a:=some ((items.size:Nat):Int)) U ?_);dsimp only;refine U6 ?_;refine (show Vh _ _ (newObj (.type "reversed") (.fields #[.ref t,Wl ((items.size:Int) - 1)])) _ _ _ from V7 ?_);exact Va ⟨_,U,h⟩
section
variable {prog:Vt}{w:V2}{A:V1}{E:C4}{s:U8}
def Ho {t:Addr}{items:Array Value}{Q:C4}(ht:IsTup s.heap t items)(hf:(items.size:Int) < 2 ^ 63)
  (h:Q (.ref s.heap.objs.size) { s with heap:=s.heap.push { cls:=.type "reversed",data:=.fields #[.ref t,.int ((items.size:Int) - 1) 0] },toks:=s.toks+1+1 }):Vh (Vl prog w) A (call (.type "reversed") [.ref t]) Q E s:=by
 refine callType_new DK (by decide) (F.typeCall_reversed_1 _) (F.newCall_reversed_1 _) (fun obj=>F.args_object_init_2 obj _) F.entry_reversed_new (Kh t items hf) ⟨ht,?_⟩;exact⟨⟨_,Vn _ U,U⟩,h⟩
def Jz {it t:Addr}{i:Nat}{items:Array Value}{x:Value}{Q:C5->U8->Prop}(hit:RIt s.heap it t (i:Int))(ht:IsTup s.heap t items)(hi:(i:Int) < 2 ^ 63)(hx:items[i]? = some x)
  (hQ:∀ h',RIt h' it t ((i:Int) - 1)->Yv it s.heap h'->Q (some x) { s with heap:=h',toks:=s.toks+1 }):Vh (Vl prog w) A (YC (.ref it)) Q E s:=by
 have hT:s.TypeIs (.ref it) "reversed":=⟨_,hit,U⟩;unfold YC;refine U6 (Zq (XD (name:=ZG "__next__") hT dU (WW dU hT kJ ?_ (mX _))));unfold Yw.«reversed.__next__»;refine U6 (X4 (a:=(Vq it,[])) U ?_);dsimp only;refine U6 (X5 hit U (x:=.ref t) U (U6 (X5 hit U (x:=.int (i:Int) 0) U ?_)));dsimp only;rw[if_neg (by lia)];refine U6 (Z7 ht.typeIs slot_tuple_getitem.lookup ?_);rw[if_neg (by simp)];refine U6 (wpAny_mkInt ?_);have hsz:i < items.size:=(Array.getElem?_eq_some_iff.mp hx).1;have hk:abV (i:Int) items.size=some i:=by
  have e0:¬ ((i:Int) < 0):=by lia
  unfold abV;simp only[if_neg e0];simp [hsz]
 refine U6 (Zq (getItem_tuple (s:={ s with toks:=s.toks+1 }) (show IsTup s.heap t items from ht) (by lia) hi hk hx ?_));dsimp only;refine U6 (X5 (s:={ s with toks:=s.toks+1 }) hit U (x:=.int (i:Int) 0) U ?_);dsimp only;refine U6 (Xe (s:={ s with toks:=s.toks+1 }) hit U (by simp) ?_);refine Va ⟨x,U,Va (hQ _ ?_ (W8 ..))⟩;exact VP (Xf (·.setIfInBounds 1 (Wl ((i:Int) - 1)))) hit U
def Nh {it t:Addr}{Q:C5->U8->Prop}(hh:A.handled=none)(hit:RIt s.heap it t (-1))(hQ:∀ h',Heap.ExtBut it s.heap h'->Q none { s with heap:=h' }):Vh (Vl prog w) A (YC (.ref it)) Q E s:=by
 have hT:s.TypeIs (.ref it) "reversed":=⟨_,hit,U⟩;unfold YC;refine U6 (Zq (XD (name:=ZG "__next__") hT dU (WW dU hT kJ ?_ (mX _))));unfold Yw.«reversed.__next__»;refine U6 (X4 (a:=(Vq it,[])) U ?_);dsimp only;refine U6 (X5 hit U (x:=.ref t) U (U6 (X5 hit U (x:=.int (-1) 0) U ?_)));dsimp only;rw[if_pos (by decide)];refine U6 (aaj ?_);refine U6 ?_;refine (show Vh _ _ (setField (.ref it) 1 (Wl (-1)) >>= _) _ _ s from U6 (Xe hit U (by simp) ?_));have g1:=VP (Xf (·.setIfInBounds 1 (Wl (-1)))) hit U;refine Xe g1 U (by simp) ?_;refine U6 ?_;refine (show Vh _ _ (newExc (.type "StopIteration") [] >>= _) _ _ _ from U6 ?_);simp only[newExc,newTuple];refine U6 (V7 ?_ (by size_fits));refine U6 (m:=ZF _ _) (X4 (a:=WM) (by first | rfl | (simp only[ZF];rfl)) (V7 ?_ (by size_fits)));simp only[raiseNew];refine U6 (wpAny_handled ?_)
 first | rw[show A.in1.handled=none from hh] | rw[hh]
 refine U6 (Va (wpAny_throw ?_));refine U6 (ZQ (T:="StopIteration") (b:=true) ⟨_,Vn _ U,U⟩ isSubtype_stop (Va ?_));exact hQ _ ((((W8 ..).trans (W8 ..)).extBut.push _).push _)
def Bf {it t:Addr}{i:Int}{Q:C4}(hI:RIt s.heap it t i)(h:Q (.ref it) s):Vh (Vl prog w) A (aa7 (.ref it)) Q E s:=by
 have hT:s.TypeIs (.ref it) "reversed":=⟨_,hI,U⟩;refine abD hT m7 (WW m7 hT tO (show Vh _ _ (ret (.ref it)) _ _ s from ?_) (uX _));exact Va ⟨_,U,"reversed",_,hT,dU.lookup,h⟩
end
def Itv (K:VG)(a:Addr)(n:Nat):It :=
 ⟨fun i H=>i < n/\∃ xs x,SqT K H a xs/\xs.length=n/\xs[n - 1 - i]? = some x,fun i H x H'=>H'=H/\∀ xs,SqT K H a xs->xs[n - 1 - i]? = some x,fun i _=>i=n⟩
def Ky {P:Vt}{w:V2}{K:VG}{tg:Expr}(a it:Addr)(n:Nat)(hn:(n:Int) < 2 ^ 63):Turn P w K tg (Itv K a n) [it] it (fun i h=>RIt h it a ((n:Int) - 1 - (i:Int))) where
 mem:=by simp
 obj:=fun i h st b hb=>by
  have e:b=it:=by simpa using hb
  subst e;exact⟨_,st,fun v z=>by cases (show Data.fields _=Data.cell v from z)⟩
 keep:=fun i h h' st k=>k it (by simp) _ st
 item:=by
  intro X hP hw hK hc i ZY s σ H E I hf st hg;subst hP hw hK;obtain⟨hin,xs,x,hq,hlen,hx⟩:=hg;obtain⟨its,rv,p,hz⟩:=I.tuple hq;obtain⟨u,hu,ru⟩:=rv.get hx;obtain⟨f0,f1,f2,f3,f4,f5⟩:=hf it (by simp);have e:(n:Int) - 1 - (i:Int)=((n - 1 - i:Nat):Int):=by lia
  have st':RIt s.heap it a ((n - 1 - i:Nat):Int):=by rw[← e];exact st
  refine Jz st' p (by lia) (x:=u) (by simpa using hu) fun h' st2 sb=>?_;have e2:((n - 1 - i:Nat):Int) - 1=(n:Int) - 1 - ((i+1:Nat):Int):=by lia
  rw[e2] at st2;have I1:Inv X ZY σ H { s with heap:=h',toks:=s.toks+1 }:=I.turned (t':=s.toks+1) (fun b o hb e=>(sb.2 b hb).trans e) f0 f1 f3 f4 f5;exact⟨u,U,JK (s:={ s with heap:=h',toks:=s.toks+1 }) st2 U U (by decide) ⟨x,H,I1,ru,⟨U,fun ys hy=>by rw[I.xY hy hq];exact hx⟩,st2,fun b hb=>(hf b hb).1⟩⟩
 done:=by
  intro X hP hw hK hc i ZY s σ H E I hf st hg;subst hP hw hK;cases (show i=n from hg);obtain⟨f0,f1,f2,f3,f4,f5⟩:=hf it (by simp);have st':RIt s.heap it a (-1):=by
   have e:(n:Int) - 1 - (n:Int) = -1:=by lia
   rw[← e];exact st
  exact Nh (I.ok.hd hc) st' fun h' eb=>⟨U,I.turned (t':=s.toks) (fun b o hb e=>eb b o hb e) f0 f1 f3 f4 f5⟩
 self:=fun _ _ _ _ _ st h=>Bf st h
def Ui (K:VG)(ta:TA):TI:=fun σ H R=>ta σ H fun vs H1=>∃ a xs,vs=[.ref a]/\SqT K H1 a xs/\R (Itv K a xs.length) H1
def QS {X:Cx} {tg:Expr} {a:Expr} {ta:TA} {p pos:YS} (hg:Gl X "reversed") (hm:X.mg "reversed" = none) (ha:PA X [a] ta) (hs:Vx [a] X.env=[(false,Wy a X.env)]:=by rfl) :
  PI X tg (.Call (.Name "reversed" p) [a] [] pos) (Ui X.K ta):=by
 intro ZY s σ H R I h;refine Call_ (kO I hg hm boot_reversed (XS (thn (ha pos ZY s σ H _ I h) fun us s1 ⟨vs,H1,I1,r1,q1⟩=>?_) hs U));obtain⟨c,xs,e,hx,q⟩:=q1;subst e;obtain⟨u1,rfl,ru1⟩:=vals1 r1;cases ru1;obtain⟨its,rv,tp,hz⟩:=I1.tuple hx;have hl:=rv.length;have hn:=ud;have hsz:((its.toArray.size:Nat):Int) < 2 ^ 63:=by rw[Vo,← hl];lia
 refine Ho tp hsz ?_;have g:RIt (s1.heap.push { cls:=.type "reversed",data:=.fields #[.ref c,.int ((its.toArray.size:Int) - 1) 0] }) s1.heap.objs.size c ((xs.length:Int) - 1 - ((0:Nat):Int)):=by
  have e:((xs.length:Int) - 1 - ((0:Nat):Int))=(its.toArray.size:Int) - 1:=by rw[Vo,← hl];lia
  rw[e];exact Vn _ U
 refine Bf g ⟨s1.heap.objs.size,[s1.heap.objs.size],_,_,H1,U,I1.kept (t':=s1.toks+1+1) fun b o e=>U9 _ e,Ky c _ xs.length (by lia),g,fun b hb=>?_,q⟩;have e:b=s1.heap.objs.size:=by simpa using hb
 subst e;exact I1.O8 (Vb _) (I1.hok.fresh (Vb _))
def Ol {K:VG}{a:Addr}{xs:List V}{g:TG}{tb:TS}{D:Ends}{σ:St}{H:Hp}(Pv:Nat->St->Hp->Prop)(h0:Pv 0 σ H)(hl:∀ i σ H,i<=xs.length->Pv i σ H->SqT K H a xs)
  (hs:∀ i x σ H,i < xs.length->xs[xs.length - 1 - i]? = some x->Pv i σ H->g x σ H fun σ2 H2=>tb { D with nx:=Pv (i+1),ct:=Pv (i+1),bk:=D.nx } σ2 H2) (hd:∀ σ H,Pv xs.length σ H->D.nx σ H) :
  ∃ W:Nat->Nat->St->Hp->Prop,(∃ m,W 0 m σ H)/\∀ i m σ H,W i m σ H →
   ((Itv K a xs.length).stop i H/\D.nx σ H)∨((Itv K a xs.length).go i H/\∃ N:St->Hp->Prop,(∀ σ' H',N σ' H'->∃ m',m' < m/\W (i+1) m' σ' H')/\∀ x H',(Itv K a xs.length).yld i H x H'->g x σ H' fun σ2 H2=>tb { D with nx:=N,ct:=N,bk:=D.nx } σ2 H2):=by
 refine⟨fun i m σ H=>m=xs.length - i/\i<=xs.length/\Pv i σ H,⟨xs.length,by simp,V3 _,h0⟩,?_⟩;rintro i m σ H ⟨rfl,hi,p⟩;have q1:=hl i σ H hi p;by_cases hlt:i < xs.length;{refine .inr ⟨⟨hlt,xs,xs[xs.length - 1 - i],q1,U,Vg (by lia)⟩,Pv (i+1),fun σ' H' p'=>⟨xs.length - (i+1),by lia,U,hlt,p'⟩,fun v H' y=>?_⟩;obtain⟨rfl,hx⟩:=y;exact hs i v σ _ hlt (hx xs q1) p}
 ·have e:i=xs.length:=by lia
  subst e;exact .inl ⟨U,hd σ H p⟩
section
variable {prog:Vt}{w:V2}{A:V1}{E:C4}{s:U8}
end
def Itn (K : VG)(a : Addr) : It :=
  ⟨fun i H => ∃ xs x, SqL K H a xs ∧ xs[i]? = some x,
   fun i H v H' => ∃ p x, H p = none ∧ v = .ref p ∧ (∀ xs, SqL K H a xs → xs[i]? = some x) ∧ H' = upd H p (.tup [.int (i : Int), x]),
   fun i H => ∃ xs, SqL K H a xs ∧ xs.length ≤ i⟩
def tnN (e it a:Addr)(i:Nat)(h:Wg):Prop:=(∃ old,IsEnum h e it (i:Int) old)/\h.IsListIter it a i
def IV {P:Vt}{w:V2}{K:VG}{elts:Do}{x1}{pos:YS}{e it a:Addr}(hne:e≠it) :
  Turn P w K (.Tuple elts x1 pos) (Itn K a) [e,it] e (tnN e it a) where
 mem:=by simp
 obj:=fun i h st c hc=>by
  obtain⟨⟨old,he⟩,⟨o,ho,_,d⟩⟩:=st;simp only[Xg,Xy,or_false] at hc;rcases hc with rfl | rfl;{exact⟨_,he,fun v z=>by cases z⟩};{exact⟨_,ho,fun v z=>by rw[d] at z;cases z⟩}
 keep:=fun i h h' st k=>by
  obtain⟨⟨old,he⟩,j⟩:=st;exact⟨⟨old,k e (by simp) _ he⟩,j.at fun o q=>k it (by simp) o q⟩
 item:=by
  intro X hP hw hK hc i ZY s σ H E I hf st hg;subst hP hw hK;obtain⟨xs,x,hx,ex⟩:=hg;obtain⟨⟨old,he⟩,j⟩:=st;obtain⟨its,rv,pl,_⟩:=I.list hx;obtain⟨xu,hxu,rx⟩:=rv.get ex;refine wpAny_pyNext_enum_item he j pl.isList (x:=xu) (by simpa using hxu) hne fun h' e1 j1 t1 z1 kp=>⟨_,U,?_⟩;refine wpAny_letOwnedTupleGo_enum e1 fun h2 e2 b2=>?_;have el:e < s.heap.objs.size:=Vj he;have il:it < s.heap.objs.size:=by obtain⟨o,q,_⟩:=j;exact Vj q
  have I1:Inv X ZY σ (upd H s.heap.objs.size (.tup [.int (i:Int),x])) { s with heap:=s.heap.push { cls:=.type "tuple",data:=.seq #[.int i s.toks,xu] },toks:=s.toks+1 } :=
   I.laid (t':=s.toks+1) (fun _ _ q=>U9 _ q) (Vb _) ⟨by show 2<=sizeLine;decide,[.int i s.toks,xu],.cons ⟨_,U⟩ (.cons rx .nil),⟨_,Vn _ U,U,_,U⟩⟩
  have ff:∀ c∈[e,it],yQ X ZY (upd H s.heap.objs.size (.tup [.int (i:Int),x])) c:=fun c hc=>by
   obtain⟨f0,fr⟩:=hf c hc;have cl:c < s.heap.objs.size:=by
    simp only[Xg,Xy,or_false] at hc;rcases hc with rfl | rfl;{exact el};{exact il}
   exact⟨by rw[aF (Vw cl)];exact f0,fr⟩
  have kk:∀ c o,c ∉ [e,it]->(s.heap.push { cls:=.type "tuple",data:=.seq #[.int i s.toks,xu] }).get? c=some o->h2.get? c=some o:=fun c o hc q=>by
   have c1:c≠e:=fun h=>hc (by simp [h]);have c2:c≠it:=fun h=>hc (by simp [h]);refine (b2.2 c c1).trans ?_;rcases Heap.get?_push_cases q with⟨ec,eo⟩ | q';{subst ec;subst eo;exact t1};{exact kp c o c1 c2 q'}
  have I2:Inv X ZY σ (upd H s.heap.objs.size (.tup [.int (i:Int),x])) { s with heap:=h2,toks:=s.toks+1 } :=
   Inv.Hl (s:={ s with heap:=s.heap.push { cls:=.type "tuple",data:=.seq #[.int i s.toks,xu] },toks:=s.toks+1 }) (h':=h2) (t':=s.toks+1) (ch:=[e,it]) I1 kk ff
  refine⟨.ref s.heap.objs.size,_,I2,U,⟨_,x,I.fresh,U,fun zs hzs=>?_,U⟩,⟨⟨_,e2⟩,j1.at fun o q=>(b2.2 it (Wz hne)).trans q⟩,fun c hc=>(ff c hc).1⟩;rw[I.Cw hzs hx];exact ex
 done:=by
  intro X hP hw hK hc i ZY s σ H E I hf st hg;subst hP hw hK;obtain⟨xs,hx,hend⟩:=hg;obtain⟨⟨old,he⟩,j⟩:=st;obtain⟨its,rv,pl,_⟩:=I.list hx;have l1:=rv.length;refine wpAny_pyNext_enum_end (I.ok.hd hc) he j pl.isList (by simp;lia) fun h' eb=>⟨U,?_⟩;exact I.Hl (t':=s.toks) (ch:=[e,it]) (fun c o hc q=>eb c o (fun h=>hc (by simp [h])) q) hf
 self:=fun _ _ _ _ _ st h=>by
  obtain⟨⟨old,he⟩,_⟩:=st;exact wpAny_pyIter_enum he h
def Sy (K:VG)(ta:TA):TI:=fun σ H R=>ta σ H fun vs H1=>∃ a xs,vs=[.ref a]/\H1 a=some (.lst xs)/\R (Itn K a) H1
def Nq {X:Cx} {elts:Do} {x1} {tpos:YS} {a:Expr} {ta:TA} {p pos:YS} (hg:Gl X "enumerate") (hm:X.mg "enumerate" = none) (ha:PA X [a] ta) (hs:Vx [a] X.env=[(false,Wy a X.env)]:=by rfl) :
  PI X (.Tuple elts x1 tpos) (.Call (.Name "enumerate" p) [a] [] pos) (Sy X.K ta):=by
 intro ZY s σ H R I h;refine Call_ (kO I hg hm boot_enumerate (XS (thn (ha pos ZY s σ H _ I h) fun us s1 ⟨vs,H1,I1,r1,q1⟩=>?_) hs U));obtain⟨c,xs,e,hx,q⟩:=q1;subst e;obtain⟨u1,rfl,ru1⟩:=vals1 r1;cases ru1;obtain⟨z,its,n,rv,ho⟩:=I1.hok c _ hx;refine call_enumerate_1 ho fun h' e1 j1 _ kp=>?_;have en:s1.heap.objs.size+1≠s1.heap.objs.size:=Yt (Xw _);refine wpAny_pyIter_enum e1 ⟨_,_,_,_,H1,U,I1.kept (t':=s1.toks) kp,IV (a:=c) en,⟨⟨_,e1⟩,j1⟩,fun b hb=>?_,q⟩;have hle:s1.heap.objs.size<=b:=by
  simp only[Xg,Xy,or_false] at hb;rcases hb with rfl | rfl;{exact WY _};{exact Vb _}
 exact I1.O8 hle (I1.hok.fresh hle)
def K5 {K:VG}{a:Addr}{xs:List V}{g:TG}{tb:TS}{D:Ends}{σ:St}{H:Hp}(Pv:Nat->St->Hp->Prop)(h0:Pv 0 σ H)(hl:∀ i σ H,i<=xs.length->Pv i σ H->SqL K H a xs)
  (hs:∀ i x p σ H,xs[i]? = some x->H p=none->Pv i σ H->g (.ref p) σ (upd H p (.tup [.int (i:Int),x])) fun σ2 H2=>tb { D with nx:=Pv (i+1),ct:=Pv (i+1),bk:=D.nx } σ2 H2) (hd:∀ σ H,Pv xs.length σ H->D.nx σ H) :
  ∃ W:Nat->Nat->St->Hp->Prop,(∃ m,W 0 m σ H)/\∀ i m σ H,W i m σ H →
   ((Itn K a).stop i H/\D.nx σ H)∨((Itn K a).go i H/\∃ N:St->Hp->Prop,(∀ σ' H',N σ' H'->∃ m',m' < m/\W (i+1) m' σ' H')/\∀ x H',(Itn K a).yld i H x H'->g x σ H' fun σ2 H2=>tb { D with nx:=N,ct:=N,bk:=D.nx } σ2 H2):=by
 refine⟨fun i m σ H=>m=xs.length - i/\i<=xs.length/\Pv i σ H,⟨xs.length,by simp,V3 _,h0⟩,?_⟩;rintro i m σ H ⟨rfl,hi,p⟩;have q1:=hl i σ H hi p;by_cases hlt:i < xs.length;{refine .inr ⟨⟨xs,xs[i],q1,by simp [hlt]⟩,Pv (i+1),fun σ' H' p'=>⟨xs.length - (i+1),by lia,U,hlt,p'⟩,fun v H' y=>?_⟩;obtain⟨pp,x,hp,rfl,hx,rfl⟩:=y;exact hs i x pp σ _ (hx xs q1) hp p}
 ·have e:i=xs.length:=by lia
  subst e;exact .inl ⟨⟨xs,q1,Vb _⟩,hd σ H p⟩
section
variable {X:Cx}{k:Nat}
end
def K8 {X:Cx}{tg l:Expr}{tl:TE}(K:VG)(hK:X.K=K)(hl:PE X l tl):PI X tg l (Ng K tl):=by
 subst hK;exact dB hl
section
variable {prog:Vt}{w:V2}{A:V1}{E:C4}{s:U8}
end
section
variable {X:Cx}
end
theorem Ay {α β:Type}{f g:α->Option β}:∀ {l:List α},(∀ a∈l,f a=g a)->l.filterMap f=l.filterMap g
 | [],_=>rfl
 | a::l,h=>by rw[XQ,XQ,h a Vm,Ay (fun b hb=>h b (Vp _ hb))]
def Jv {α:Type}(l:List α):((Wx l.length).map fun k=>l.length - 1 - k).filterMap (fun i=>l[i]?)=l.reverse:=by
 rw[abA];have h:∀ k∈Wx l.length,((fun i=>l[i]?) ∘ fun k=>l.length - 1 - k) k=(fun k=>l.reverse[k]?) k:=fun k hk=>by
  have:=List.mem_range.mp hk;show l[l.length - 1 - k]? = l.reverse[k]?;rw[List.getElem?_reverse this]
 rw[Ay h];have e:l.length=l.reverse.length:=List.length_reverse.symm;rw[e];generalize l.reverse=r;clear h e
 induction r with
 | nil=>rfl
 | cons a r ih =>
  rw[Vv,ZK,XQ];show a::_=a::r;congr 1;rw[abA];exact ih
def JW (its:C9):aaD its.toArray none none (some (-1))=its.reverse.toArray:=by
 unfold aaD;congr 1;rw[← Jv its];have hb:Ye none none (some (-1)) its.toArray.size=((its.length:Int) - 1,-1,-1):=by
  unfold Ye;simp
 rw[hb];have hr:sliceRange ((its.length:Int) - 1) (-1) (-1)=(Wx its.length).map fun k=>its.length - 1 - k:=by
  unfold sliceRange;have hc:(if (-1:Int) > 0 then (if (its.length:Int) - 1 < -1 then (-1 - ((its.length:Int) - 1) + -1 - 1) / -1 else 0) else (if (its.length:Int) - 1 > -1 then ((its.length:Int) - 1 - -1 - -1 - 1) / (- -1) else 0)).toNat=its.length:=by
   rw[if_neg (by decide)];split;{rw[show (- -1:Int)=1 by decide,Int.ediv_one];lia};{lia}
  dsimp only;rw[hc];refine List.map_congr_left fun k hk=>?_;have:=List.mem_range.mp hk;lia
 dsimp only;rw[hr];simp
section
variable {X:Cx}
end
def z9 (elt t0 i0 t1 i1:Expr)(scope:XF)(pos:YS)(it acc:Value)(env:Env) :
  compTurn (.ListComp elt [⟨t0,i0,[],0⟩,⟨t1,i1,[],0⟩] scope pos) 0 it acc env=(do
   YJ i0.pos
   match ← YC it with
   | none=>pure (.done .next)
   | some v =>
    Yc t0 it v
    aaM t0 env v
    let x ← Wy i1 env
    YJ i1.pos
    let x ← Xq i1 env x
    let _ ← runOwn (.compStart (.ListComp elt [⟨t0,i0,[],0⟩,⟨t1,i1,[],0⟩] scope pos) 1 (← Zg [x] (aa7 x)) acc env) env
    again (.compLoop (.ListComp elt [⟨t0,i0,[],0⟩,⟨t1,i1,[],0⟩] scope pos) 0 it acc env)):=by rfl
def zV (elt t0 i0 t1 i1:Expr)(scope:XF)(pos:YS)(it acc:Value)(env:Env) :
  compTurn (.ListComp elt [⟨t0,i0,[],0⟩,⟨t1,i1,[],0⟩] scope pos) 1 it acc env=(YJ i1.pos >>= fun _=>YC it >>= fun r=>match r with
   | none=>pure (.done .next)
   | some v=>Yc t1 it v >>= fun _=>aaM t1 env v >>= fun _ =>
    (Wy elt env >>= fun x=>call (.builtin "list.append") [acc,x] >>= fun _=>pure ()) >>= fun _ =>
     again (.compLoop (.ListComp elt [⟨t0,i0,[],0⟩,⟨t1,i1,[],0⟩] scope pos) 1 it acc env)):=by rfl
section
variable {prog:Vt}{w:V2}{A:V1}{R:aan->U8->Prop}{s:U8}{elt t0 i0 t1 i1:Expr}{scope:XF}{pos:YS}{it acc:Value}{env:Env}
def xP (h0:WK (Vl prog w) A (.compLoop (.ListComp elt [⟨t0,i0,[],0⟩,⟨t1,i1,[],0⟩] scope pos) 1 it acc env) R s)
  (h:Vh (Vl prog w) A (aa7 it) (fun it' s'=>WK (Vl prog w) A (.compLoop (.ListComp elt [⟨t0,i0,[],0⟩,⟨t1,i1,[],0⟩] scope pos) 1 it' acc env) R s') (notedBy (Vl prog w) A env fun x s'=>R (.error x) s') s) :
  WK (Vl prog w) A (.compStart (.ListComp elt [⟨t0,i0,[],0⟩,⟨t1,i1,[],0⟩] scope pos) 1 it acc env) R s:=by
 refine aaX ?_;show Vh _ _ ((compStart (.ListComp elt [⟨t0,i0,[],0⟩,⟨t1,i1,[],0⟩] scope pos) 1 it acc env).onRaise (fun x=>do aaf x env;YJ theWindowsPlace)) _ _ s;refine wpAny_notedAt ?_;unfold compStart;show Vh _ _ (ask >>= _) _ _ s;refine U6 (Ym (wpAny_ite ?_));split
 ·first
   | exact U6 (Va (Va (And.intro rfl h0)))
   | exact Va (And.intro rfl h0)
 ·first
   | exact U6 (aaj (U6 (X3 (U6 (Wc h (fun it' s' h'=>Va (And.intro rfl h')) fun _ _ x=>x)))))
   | (refine U6 (aaj ?_);show Vh _ _ (YJ i1.pos >>= _) _ _ s;exact U6 (X3 (U6 (Wc h (fun it' s' h'=>Va (And.intro rfl h')) fun _ _ x=>x))))
abbrev noX:C4:=fun _ _=>False
def gY {E:C4}(x:Value)(s':U8)(z:noX x s'):E x s':=z.elim
def wQ (hs1:∀ x,Xq i1 env x=pure x)(I:Nat->U8->Prop)
  (turn:∀ n s,I n s->Vh (Vl prog w) A (YC it) (fun r s₁=>match r with
   | none=>R (.ok .next) s₁
   | some v=>Vh (Vl prog w) A (Yc t0 it v) (fun _ s₀=>Vh (Vl prog w) A (aaM t0 env v) (fun _ s₂=>Vh (Vl prog w) A (Wy i1 env) (fun x s₃=>Vh (Vl prog w) A (aa7 x) (fun it1 s₄ =>
     WK (Vl prog w) A (.compStart (.ListComp elt [⟨t0,i0,[],0⟩,⟨t1,i1,[],0⟩] scope pos) 1 it1 acc env) (fun r s'=>match r with | .ok _=>∃ m,m < n/\I m s' | .error _=>False) s₄) noX s₃) noX s₂) noX s₀) noX s₁) noX s)
  (n:Nat) (h:I n s):WK (Vl prog w) A (.compLoop (.ListComp elt [⟨t0,i0,[],0⟩,⟨t1,i1,[],0⟩] scope pos) 0 it acc env) R s:=by
 refine codeAny_loop U I (fun n s hI=>?_) n h;refine (show Vh (Vl prog w) A ((compTurn (.ListComp elt [⟨t0,i0,[],0⟩,⟨t1,i1,[],0⟩] scope pos) 0 it acc env).onRaise (fun x=>do aaf x env;ace x)) _ _ s from wpAny_noted ?_);rw[z9];refine U6 (X3 (U6 (Wc (turn n s hI) (fun r s₁ h₁=>?_) gY)));cases r with
 | none=>exact Va h₁
 | some v =>
  refine U6 (Wc h₁ (fun _ s₀ h₀=>U6 (Wc h₀ (fun _ s₂ h₂=>U6 (Wc h₂ (fun x s₃ h₃=>U6 (X3 (U6 (X4 (hs1 x) (U6 (Ww (Wc h₃ (fun it1 s₄ h₄=>?_) gY))))))) gY)) gY)) gY);refine U6 (wpAny_runOwn (XR h₄ fun r s' hr=>?_));cases r with
  | ok f=>exact Va ⟨U,hr⟩
  | error e=>exact hr.elim
def xg (I:Nat->U8->Prop)
  (turn:∀ n s,I n s->Vh (Vl prog w) A (YC it) (fun r s₁=>match r with
   | none=>R (.ok .next) s₁
   | some v=>Vh (Vl prog w) A (Yc t1 it v) (fun _ s₀=>Vh (Vl prog w) A (aaM t1 env v) (fun _ s₂=>Vh (Vl prog w) A (Wy elt env) (fun x s₄=>Vh (Vl prog w) A (call (.builtin "list.append") [acc,x]) (fun _ s₅=>∃ m,m < n/\I m s₅) noX s₄) noX s₂) noX s₀) noX s₁) noX s)
  (n:Nat) (h:I n s):WK (Vl prog w) A (.compLoop (.ListComp elt [⟨t0,i0,[],0⟩,⟨t1,i1,[],0⟩] scope pos) 1 it acc env) R s:=by
 refine codeAny_loop U I (fun n s hI=>?_) n h;refine (show Vh (Vl prog w) A ((compTurn (.ListComp elt [⟨t0,i0,[],0⟩,⟨t1,i1,[],0⟩] scope pos) 1 it acc env).onRaise (fun x=>do aaf x env;ace x)) _ _ s from wpAny_noted ?_);rw[zV];refine U6 (X3 (U6 (Wc (turn n s hI) (fun r s₁ h₁=>?_) gY)));cases r with
 | none=>exact Va h₁
 | some v =>
  refine U6 (Wc h₁ (fun _ s₀ h₀=>U6 (Wc h₀ (fun _ s₂ h₂=>U6 (U6 (Wc h₂ (fun x s₄ h₄=>U6 (Wc h₄ (fun _ s₅ h₅=>Va (Va ⟨U,h₅⟩)) gY)) gY))) gY)) gY)
end
def qJ (D:Addr)(σ0:St)(J:It)(g:TG)(wi1:TI)(g1:TG)(te:TE)(H1:Hp)(Q:Hp->Prop):Prop :=
 ∃ W:Nat->Nat->List V->St->Hp->Prop,(∃ m,W 0 m [] σ0 (upd H1 D (.lst []))) ∧
  ∀ i m ys σ' H',W i m ys σ' H'->((J.stop i H'/\Q H')∨(J.go i H'/\∃ N:List V->St->Hp->Prop,(∀ zs σ2 H2,N zs σ2 H2->∃ m',m' < m/\W (i+1) m' zs σ2 H2) ∧
   ∀ x H2,J.yld i H' x H2->g x σ' H2 fun σ3 H3=>wi1 σ3 H3 fun J1 H4 =>
    ∃ Y:Nat->Nat->List V->St->Hp->Prop,(∃ m,Y 0 m ys σ3 H4) ∧
     ∀ j m zs σ5 H5,Y j m zs σ5 H5->((J1.stop j H5/\N zs σ5 H5)∨(J1.go j H5/\∃ M:List V->St->Hp->Prop,(∀ zs σ6 H6,M zs σ6 H6->∃ m',m' < m/\Y (j+1) m' zs σ6 H6) ∧
      ∀ y H6,J1.yld j H5 y H6->g1 y σ5 H6 fun σ7 H7=>te σ7 H7 fun v H8=>H8 D=some (.lst zs)/\zs.length < sizeLine/\M (zs++[v]) σ7 (upd H8 D (.lst (zs++[v])))))))
def Q9 (n:Nat)(cap:DD)(wi:TI)(g:TG)(wi1:TI)(g1:TG)(te:TE):TE:=fun σ H Q=>wi σ H fun J H1=>∀ D,H1 D=none->qJ D (Lp n cap σ) J g wi1 g1 te H1 fun H2=>Q (.ref D) H2
section
variable {X:Cx}{elt t0 i0 t1 i1:Expr}{scope:XF}{pos:YS}{L F:DF}{cap:DD}{wi wi1:TI}{g g1:TG}{te:TE}
def GR {cl:C2}{ZY:C1}{σ:St}{s2:U8}{H2:Hp}{it:Addr}{fp:Db}{tn:Nat->Wg->Prop}{J:It}{use:Option (Value->Sem Unit)}{QQ:C4}{Z:Hp->Prop}{E:C4}
  (hc:X.calm=true) (ok:pF X scope F cap)
  (sub:∀ n c,cl.lookup n=some c->X.env.cells.lookup n=some c) (all:∀ y∈scope.names,y.2 = .free->∃ c,cl.lookup y.1=some c)
  (hg:∀ cl C s H fp,PG (bC X scope cl C (L++F) s H fp) t0 g) (hi1:∀ cl C s H fp,PI (bC X scope cl C (L++F) s H fp) t1 i1 wi1) (hg1:∀ cl C s H fp,PG (bC X scope cl C (L++F) s H fp) t1 g1) (he:∀ cl C s H fp,PE (bC X scope cl C (L++F) s H fp) elt te)
  (hs1:∀ (env:Env) x,Xq i1 env x=pure x)
  (I2:Inv X ZY σ H2 s2) (T:Turn X.prog X.w X.K t0 J fp it tn) (st2:tn 0 s2.heap) (f2:∀ b∈fp,yQ X ZY H2 b)
  (q2:qJ s2.heap.objs.size (Lp L.length cap σ) J g wi1 g1 te H2 Z)
  (fin:∀ (C:Addr) (s':U8) (H':Hp),Z H'->Inv X ZY σ H' s'->(∃ m,s'.heap.Ns C m)->H' C=none->C≠X.env.locals->X.s₀.heap.objs.size<=C->(∀ x c,X.env.cells.lookup x=some c->c≠C)->(∀ p∈X.pn++ZY,p.1≠C) →
   aaE (Vl X.prog X.w) X.A E use QQ (.ref s2.heap.objs.size) C (.ok .next) s') :
  Vh (Vl X.prog X.w) X.A (newList []) (fun acc s₃=>Vh (Vl X.prog X.w) X.A (newFunctionEnv scope X.env.globals cl [] X.env.qual none .none (some X.env)) (fun cenv s₄ =>
   WK (Vl X.prog X.w) X.A (.compStart (.ListComp elt [⟨t0,i0,[],0⟩,⟨t1,i1,[],0⟩] scope pos) 0 (.ref it) acc { cenv with scope:=relabel scope X.env }) (aaE (Vl X.prog X.w) X.A E use QQ acc cenv.locals) s₄) E s₃) E s2:=by
 have hD:H2 s2.heap.objs.size=none:=I2.fresh;refine V7 (aa6 ok.cell (by intro y hy;simp at hy) (fun h₁ hns₁ hsb₁=>?_) ok.kind);dsimp only at hns₁ hsb₁ ⊢;have I3:Inv X ZY σ (upd H2 s2.heap.objs.size (.lst [])) { s2 with heap:=s2.heap.push { cls:=.type "list",data:=.seq ([]:C9).toArray } }:=I2.Rx (t':=s2.toks) (ys:=[]) (its:=[]) .nil (V3 _);have blt:∀ b∈fp,b < s2.heap.objs.size:=fun b hb=>let ⟨_,e,_⟩:=T.obj 0 _ st2 b hb;Vj e;have szC:(s2.heap.push { cls:=.type "list",data:=.seq ([]:C9).toArray }).objs.size=s2.heap.objs.size+1:=WT _ _;generalize hs3:({ s2 with heap:=s2.heap.push { cls:=.type "list",data:=.seq ([]:C9).toArray } }:U8)=s3 at I3;have es3:s3.heap=s2.heap.push { cls:=.type "list",data:=.seq ([]:C9).toArray }:=by rw[← hs3]
 have eos:s3.os=s2.os:=by rw[← hs3]
 have fok:∀ b∈fp,yQ X ZY (upd H2 s2.heap.objs.size (.lst [])) b/\b < s3.heap.objs.size:=fun b hb=>by
  obtain⟨f0,fr⟩:=f2 b hb;refine⟨⟨by rw[aF (Vw (blt b hb))];exact f0,fr⟩,?_⟩;rw[es3,szC];exact Wn (blt b hb)
 have hkp:∀ b o,s3.heap.get? b=some o->h₁.get? b=some o:=fun b o e=>by
  have e':b < s3.heap.objs.size:=Vj e;rw[es3] at e e';exact (hsb₁.2 b (Vw e')).trans (U9 _ e)
 have hns:h₁.Ns s3.heap.objs.size fun _=>none:=by
  rw[es3];exact hns₁
 have I4:∀ tk,Inv (bC X scope cl s3.heap.objs.size (L++F) s3 (upd H2 s2.heap.objs.size (.lst [])) fp) [] (Lp L.length cap σ) (upd H2 s2.heap.objs.size (.lst [])) { s3 with heap:=h₁,toks:=tk }:=fun tk =>
  uC (L:=L) ok I3 fok sub all hns hkp
 have stat:∀ {H':Hp},(∀ b∈fp,H' b=none)->∀ b∈fp,yQ (bC X scope cl s3.heap.objs.size (L++F) s3 (upd H2 s2.heap.objs.size (.lst [])) fp) [] H' b:=fun {H'} hn b hb=>by
  obtain⟨⟨_,g1,g2,g3,g4,g5⟩,g6⟩:=fok b hb;exact⟨hn b hb,Vw g6,zX I3 g1 g2,.inl hb,fun x c e=>g4 x c (sub x c e),fun p hp=>absurd (show p∈([]:C1) from hp) (by simp)⟩
 have loop:∀ tk,WK (Vl X.prog X.w) X.A (.compLoop (.ListComp elt [⟨t0,i0,[],0⟩,⟨t1,i1,[],0⟩] scope pos) 0 (.ref it) (.ref s2.heap.objs.size) (abF scope cl s3.heap.objs.size X.env))
   (aaE (Vl X.prog X.w) X.A E use QQ (.ref s2.heap.objs.size) s3.heap.objs.size) { s3 with heap:=h₁,toks:=tk }:=fun tk=>by
  obtain⟨W,⟨m0,w0⟩,turn⟩:=q2;have st3:tn 0 h₁:=T.keep 0 _ _ st2 fun b hb o e=>hkp b o (by rw[es3];exact U9 _ e);refine wQ (hs1 _) (fun n s'=>∃ i ys σ' H',Inv (bC X scope cl s3.heap.objs.size (L++F) s3 (upd H2 s2.heap.objs.size (.lst [])) fp) [] σ' H' s'/\tn i s'.heap/\(∀ b∈fp,H' b=none)/\W i n ys σ' H') ?_ m0
   ⟨0,[],_,_,I4 tk,st3,fun b hb=>(fok b hb).1.1,w0⟩
  rintro n s5 ⟨i,ys,σ5,H5,I5,st5,fr5,w5⟩;rcases turn i n ys σ5 H5 w5 with⟨stop,qz⟩ | ⟨go,N,hN,step⟩
  ·refine thn (T.done (bC X scope cl s3.heap.objs.size (L++F) s3 (upd H2 s2.heap.objs.size (.lst [])) fp) U U U hc i [] s5 σ5 H5 _ I5 (stat fr5) st5 stop) fun r s6 ⟨hr,I6⟩=>?_;subst hr;have un:Un (frs X.stack) fp H2 H5 s2.heap s6.heap:=by
    have u1:Un (frs X.stack) fp H2 (upd H2 s2.heap.objs.size (.lst [])) s2.heap s3.heap:=by
     rw[es3];exact Un.laid (fun _ _ q=>U9 _ q) (Vb _) hD
    exact u1.trans I6.base
   have J1:Inv X ZY σ H5 s6:=I2.call' (I6.os.trans eos) un I6.hok I6.bare fun b hb=>by
    obtain⟨_,g1,_,g3,g4,g5⟩:=f2 b hb;exact⟨g3,g1,g4,g5⟩
   have hC:s2.heap.objs.size<=s3.heap.objs.size:=by rw[es3,szC];exact WY _
   obtain⟨m,hm,_⟩:=I6.loc;refine fin s3.heap.objs.size s6 H5 qz J1 ⟨m,hm⟩ I6.free (Yt (Vc I2.lt hC)) (VH I2.sz hC) (fun x c e z=>?_) (fun p hp z=>?_);{obtain⟨v,q⟩:=I2.cell x c e;exact absurd (Vc q.lt (by rw[z];exact hC)) (Wj _)};{exact absurd (Vc (Vj (I2.pin p hp).1) (by rw[z];exact hC)) (Wj _)}
  ·refine thn (T.item (bC X scope cl s3.heap.objs.size (L++F) s3 (upd H2 s2.heap.objs.size (.lst [])) fp) U U U hc i [] s5 σ5 H5 _ I5 (stat fr5) st5 go) fun r s6 ⟨u,hr,h6⟩=>?_;subst hr;refine thn h6 fun _ s7 ⟨x,H7,I7,r7,y7,st7,fr7⟩=>?_;have I7':=I7.pinned (stat fr7) (T.obj _ _ st7);refine thn (hg _ _ _ _ _ _ s7 σ5 H7 x u _ I7' r7 (step x H7 y7)) fun _ s8 ⟨σ8,H8,I8,q8⟩=>?_;have again:∀ {σ9:St} {H9:Hp} {s9:U8} {zs:List V},Inv (bC X scope cl s3.heap.objs.size (L++F) s3 (upd H2 s2.heap.objs.size (.lst [])) fp) ([]++pP fp s7.heap) σ9 H9 s9->N zs σ9 H9 →
     ∃ m,m < n/\∃ i ys σ' H',Inv (bC X scope cl s3.heap.objs.size (L++F) s3 (upd H2 s2.heap.objs.size (.lst [])) fp) [] σ' H' s9/\tn i s9.heap/\(∀ b∈fp,H' b=none)/\W i m ys σ' H':=fun {σ9 H9 s9 zs} I9 n9=>by
    obtain⟨m',hm,w9⟩:=hN zs σ9 H9 n9;refine⟨m',hm,i+1,zs,σ9,H9,I9.j6,T.keep _ _ _ st7 fun b hb o e=>(I9.pin (b,o) (V0 _ (V0 _ (dJ hb e)))).1,fun b hb=>?_,w9⟩;obtain⟨o,e,d⟩:=T.obj _ _ st7 b hb;exact (I9.pin (b,o) (V0 _ (V0 _ (dJ hb e)))).2.1
   refine thn (hi1 _ _ _ _ _ _ s8 σ8 H8 _ I8 q8) fun v1 s9 h9=>thn h9 fun itv s10 h10=>?_;obtain⟨it1,fp1,tn1,J1,H10,e,I10,T1,st10,f10,Y,⟨m1,y0⟩,turn1⟩:=h10;subst e;have stat1:∀ {H':Hp},(∀ b∈fp1,H' b=none)->∀ b∈fp1,yQ (bC X scope cl s3.heap.objs.size (L++F) s3 (upd H2 s2.heap.objs.size (.lst [])) fp) ([]++pP fp s7.heap) H' b:=fun hn b hb=>⟨hn b hb,(f10 b hb).2⟩;have loop1:WK (Vl X.prog X.w) X.A (.compLoop (.ListComp elt [⟨t0,i0,[],0⟩,⟨t1,i1,[],0⟩] scope pos) 1 (.ref it1) (.ref s2.heap.objs.size) (abF scope cl s3.heap.objs.size X.env))
     (fun r s'=>match r with | .ok _=>∃ m,m < n/\∃ i ys σ' H',Inv (bC X scope cl s3.heap.objs.size (L++F) s3 (upd H2 s2.heap.objs.size (.lst [])) fp) [] σ' H' s'/\tn i s'.heap/\(∀ b∈fp,H' b=none)/\W i m ys σ' H' | .error _=>False) s10:=by
    refine xg (fun k s'=>∃ j zs σ' H',Inv (bC X scope cl s3.heap.objs.size (L++F) s3 (upd H2 s2.heap.objs.size (.lst [])) fp) ([]++pP fp s7.heap) σ' H' s'/\tn1 j s'.heap/\(∀ b∈fp1,H' b=none)/\Y j k zs σ' H') ?_ m1
     ⟨0,ys,_,_,I10,st10,fun b hb=>(f10 b hb).1,y0⟩
    rintro k s11 ⟨j,zs,σ11,H11,I11,st11,fr11,w11⟩;rcases turn1 j k zs σ11 H11 w11 with⟨stop1,n1⟩ | ⟨go1,M,hM,step1⟩;{refine thn (T1.done (bC X scope cl s3.heap.objs.size (L++F) s3 (upd H2 s2.heap.objs.size (.lst [])) fp) U U U hc j _ s11 σ11 H11 _ I11 (stat1 fr11) st11 stop1) fun r s12 ⟨hr,I12⟩=>?_;subst hr;exact again I12 n1};{refine thn (T1.item (bC X scope cl s3.heap.objs.size (L++F) s3 (upd H2 s2.heap.objs.size (.lst [])) fp) U U U hc j _ s11 σ11 H11 _ I11 (stat1 fr11) st11 go1) fun r s12 ⟨u1,hr,h12⟩=>?_;subst hr;refine thn h12 fun _ s13 ⟨x1,H13,I13,r13,y13,st13,fr13⟩=>?_;have I13':=I13.pinned (stat1 fr13) (T1.obj _ _ st13);refine thn (hg1 _ _ _ _ _ _ s13 σ11 H13 x1 u1 _ I13' r13 (step1 x1 H13 y13)) fun _ s14 ⟨σ14,H14,I14,q14⟩=>?_;refine thn (he _ _ _ _ _ _ s14 σ14 H14 _ I14 q14) fun y s15 ⟨yv,H15,I15,r15,e15,z15,n15⟩=>?_;refine thn (cz _ s15 σ14 H15 (.ref s2.heap.objs.size) [yv] (.ref s2.heap.objs.size) [y] (fun _ H'=>M (zs++[yv]) σ14 H') I15 U (.cons r15 .nil) ⟨_,zs,yv,U,U,e15,z15,n15⟩) fun _ s16 ⟨_,H16,I16,_,n16⟩=>?_;obtain⟨m',hm,w16⟩:=hM _ _ _ n16;refine⟨m',hm,j+1,_,σ14,H16,I16.j6,T1.keep _ _ _ st13 fun b hb o e=>(I16.pin (b,o) (V0 _ (V0 _ (dJ hb e)))).1,fun b hb=>?_,w16⟩;obtain⟨o,e,d⟩:=T1.obj _ _ st13 b hb;exact (I16.pin (b,o) (V0 _ (V0 _ (dJ hb e)))).2.1}
   exact xP loop1 (T1.self _ 0 _ _ _ st10 loop1)
 have eC:(s2.heap.push { cls:=.type "list",data:=.seq ([]:C9).toArray }).objs.size=s3.heap.objs.size:=by rw[es3]
 have goal:∀ tk,WK (Vl X.prog X.w) X.A (.compStart (.ListComp elt [⟨t0,i0,[],0⟩,⟨t1,i1,[],0⟩] scope pos) 0 (.ref it) (.ref s2.heap.objs.size) (abF scope cl s3.heap.objs.size X.env))
   (aaE (Vl X.prog X.w) X.A E use QQ (.ref s2.heap.objs.size) s3.heap.objs.size) { s3 with heap:=h₁,toks:=tk }:=fun tk =>
  codeAny_compStart_list (loop tk) (T.self _ 0 _ _ _ (T.keep 0 _ _ st2 fun b hb o e=>hkp b o (by rw[es3];exact U9 _ e)) (loop tk))
 have g0:=goal (s2.toks+([]:C0).length);subst hs3;exact g0
def JX (hc:X.calm=true)(ok:pF X scope F cap)(hi:PI X t0 i0 wi)
  (hg:∀ cl C s H fp,PG (bC X scope cl C (L++F) s H fp) t0 g) (hi1:∀ cl C s H fp,PI (bC X scope cl C (L++F) s H fp) t1 i1 wi1) (hg1:∀ cl C s H fp,PG (bC X scope cl C (L++F) s H fp) t1 g1) (he:∀ cl C s H fp,PE (bC X scope cl C (L++F) s H fp) elt te)
  (hs:∀ x,Xq i0 X.env x=pure x:=by intro _;rfl) (hs1:∀ (env:Env) x,Xq i1 env x=pure x:=by intro _ _;rfl):PE X (.ListComp elt [⟨t0,i0,[],0⟩,⟨t1,i1,[],0⟩] scope pos) (Q9 L.length cap wi g wi1 g1 te):=by
 intro ZY s σ H Q I h;obtain⟨cl,e1,e2,e3⟩:=uU (scope:=scope) (env:=X.env) (fun y hy hf=>I.ok.has _ (ok.fr y hy hf));rw[eval_ListComp];refine aaA (use:=none) U hs e1 ok.kind ok.nms (thn (hi ZY s σ H _ I h) fun v s1 h1=>thn h1 fun itv s2 h2=>?_);obtain⟨it,fp,tn,J,H2,e,I2,T,st2,f2,q2⟩:=h2;subst e;refine GR (Z:=fun H'=>Q (.ref s2.heap.objs.size) H') hc ok e2 e3 hg hi1 hg1 he hs1 I2 T st2 f2 (q2 _ I2.fresh) fun C s' H' z J m hCf hCl hCs hCc hCp=>?_;obtain⟨m,hm⟩:=m;exact⟨m,hm,fun h' hs'=>⟨.ref _,H',J.turned (t':=s'.toks) (fun b o hb e=>(hs'.2 b hb).trans e) hCf hCl (.inr hCs) hCc hCp,U,z⟩⟩
end
section
variable {X:Cx}
end
def In2 (D:Addr)(J1:It)(g1:TG)(te:TE)(N:List V->St->Hp->Prop)(ys:List V)(σ3:St)(H4:Hp):Prop :=
 ∃ Y:Nat->Nat->List V->St->Hp->Prop,(∃ m,Y 0 m ys σ3 H4) ∧
  ∀ j m zs σ5 H5,Y j m zs σ5 H5->((J1.stop j H5/\N zs σ5 H5)∨(J1.go j H5/\∃ M:List V->St->Hp->Prop,(∀ zs σ6 H6,M zs σ6 H6->∃ m',m' < m/\Y (j+1) m' zs σ6 H6) ∧
   ∀ y H6,J1.yld j H5 y H6->g1 y σ5 H6 fun σ7 H7=>te σ7 H7 fun v H8=>H8 D=some (.lst zs)/\zs.length < sizeLine/\M (zs++[v]) σ7 (upd H8 D (.lst (zs++[v])))))
def Fb {K:VG}{a D:Addr}{xs:List V}{g:TG}{wi1:TI}{g1:TG}{te:TE}{H1:Hp}{Q:Hp->Prop}{σ0:St}(Pv:Nat->List V->St->Hp->Prop)(h0:Pv 0 [] σ0 (upd H1 D (.lst [])))
  (hl:∀ i ys σ H,i<=xs.length->Pv i ys σ H->SqT K H a xs)
  (hs:∀ i ys x σ H,xs[i]? = some x->Pv i ys σ H->g x σ H fun σ3 H3=>wi1 σ3 H3 fun J1 H4=>In2 D J1 g1 te (Pv (i+1)) ys σ3 H4)
  (hd:∀ ys σ H,Pv xs.length ys σ H->Q H):qJ D σ0 (Itt K a) g wi1 g1 te H1 Q:=by
 refine⟨fun i m ys σ H=>m=xs.length - i/\i<=xs.length/\Pv i ys σ H,⟨xs.length,by simp,V3 _,h0⟩,?_⟩;rintro i m ys σ H ⟨rfl,hi,p⟩;have q:=hl i ys σ H hi p;by_cases hlt:i < xs.length;{refine .inr ⟨⟨xs,xs[i],q,by simp [hlt]⟩,Pv (i+1),fun zs σ' H' p'=>⟨xs.length - (i+1),by lia,U,hlt,p'⟩,fun x H' y=>?_⟩;obtain⟨e,y⟩:=y;subst e;exact hs i ys x σ _ (y xs q) p}
 ·have e:i=xs.length:=by lia
  subst e;exact .inl ⟨⟨xs,q,Vb _⟩,hd ys σ H p⟩
def Kr {K:VG}{b D:Addr}{ws:List V}{g1:TG}{te:TE}{N:List V->St->Hp->Prop}{ys:List V}{σ3:St}{H4:Hp}(Pw:Nat->List V->St->Hp->Prop)(h0:Pw 0 ys σ3 H4)
  (hl:∀ j zs σ H,j<=ws.length->Pw j zs σ H->SqL K H b ws)
  (hs:∀ j zs y σ H,ws[j]? = some y->Pw j zs σ H->g1 y σ H fun σ7 H7=>te σ7 H7 fun v H8=>H8 D=some (.lst zs)/\zs.length < sizeLine/\Pw (j+1) (zs++[v]) σ7 (upd H8 D (.lst (zs++[v]))))
  (hd:∀ zs σ H,Pw ws.length zs σ H->N zs σ H):In2 D (Itl K b) g1 te N ys σ3 H4:=by
 refine⟨fun j m zs σ H=>m=ws.length - j/\j<=ws.length/\Pw j zs σ H,⟨ws.length,by simp,V3 _,h0⟩,?_⟩;rintro j m zs σ H ⟨rfl,hj,p⟩;have q:=hl j zs σ H hj p;by_cases hlt:j < ws.length;{refine .inr ⟨⟨ws,ws[j],q,by simp [hlt]⟩,Pw (j+1),fun zs' σ' H' p'=>⟨ws.length - (j+1),by lia,U,hlt,p'⟩,fun y H' z=>?_⟩;obtain⟨e,z⟩:=z;subst e;exact hs j zs y σ _ (z ws q) p}
 ·have e:j=ws.length:=by lia
  subst e;exact .inl ⟨⟨ws,q,Vb _⟩,hd zs σ H p⟩
section
variable {prog:Vt}{w:V2}{A:V1}{E:C4}{s:U8}
end
section
variable {X:Cx}
end
section
variable {X:Cx}{elt t0 i0 t1 i1:Expr}{scope:XF}{pos:YS}{L F:DF}{cap:DD}{wi wi1:TI}{g g1:TG}{te:TE}
end
section
variable {X:Cx}{tg:Expr}
end
section
variable {X:Cx}{elt tg iter:Expr}{ifs:Do}{scope:XF}{pos:YS}{x0:VB}{L F:DF}{cap:DD}{wi:TI}{g:TG}{tt:TT}{te:TE}
end
section
variable {X:Cx}
end
section
variable {X:Cx}{CX:CXT}{k:Nat}{f C:Addr}{fd:Wh}{ps:DF}{sp:Sp}{dvs:List V}{ds:C9}{E:XK}{c m:VB}{p pos apos:YS}{e:Expr}{es:Do}{t:TA}{mc:Value}
structure qU (K:Vi)(C:Addr)(mc:Value)(m:VB)(f:Addr):Prop where
 ga:PySem.W.specialIn K (.ref C) "__getattribute__" = some (some (.builtin "type.__getattribute__"))
 rd:PySem.W.readsIn K C mc=true
 fd:PySem.W.findCls K (.ref C) mc m=some (.val (.ref f))
 kp:Xa K (.ref f)=true
 hd:abX (.ref f)=true
def di {pl:Sem Bool}(hg:Gl X c)(hm:X.mg c=some (.ref C))(O:qU X.K C mc m f)(F:aZ X.prog X.w X.K X.mg X.base CX k f fd ps sp)(hr:d9 k X.A)(hb:Binds X.K fd ps ds)(hd:Vals dvs ds)(hx:Passes CX X E)(ha:PA X (e::es) t)
  (hdb:(c == ("__debug__" : VB))=false:=by decide) (hst:Vx (e::es) X.env=(false,Wy e X.env)::Vx es X.env:=by rfl) (hpl:(Xj pos (Vx es X.env)).any (·.1)=false:=by rfl)
  (ht:Wy (.Call (.Attribute (.Name c p) m apos) (e::es) [] pos) X.env=(do
   let ov ← Wy (.Name c p) X.env
   YJ apos.atName
   let (g,first) ← Zg [ov] (ZC ov m pl)
   aaF pos g first (Xj pos (Vx (e::es) X.env)) (Z2 pos (Yq [] X.env))):=by rfl) :
  PE X (.Call (.Attribute (.Name c p) m apos) (e::es) [] pos) (Gd sp dvs E t):=by
 intro ZY s σ H Q I h;refine ZP (pl:=pl) (jQ I hg hm ?_ hdb) ht;refine PySem.W.method_cls I.kIn O.ga (PySem.W.cls_value I.kIn O.rd O.fd O.hd ?_);have I1:=I.tok (s.toks+1);refine Zy (first:=[]) (h₀:=X.base) I.ok.mod.kin O.kp (thn (ha pos ZY _ σ H _ I1 h) fun us s1 ⟨vs,H1,I2,r,q⟩=>⟨I2.kIn,?_⟩) hst hpl;exact Cd F hr hb hd hx I2 r q
end
section
variable {P:Vt}{w:V2}{A:V1}{E:Value->U8->Prop}{hp:Wg}{g:Array abP}{d:Drawn}{tk:Nat}{os:OsState}
variable {nm q:VB}{C N:Addr}{bs bm:C9}{hdct:Bool}{sn:DF}{sub:C9}{ab:Bool}{col:C8}{dd:C7}{k0 k1 k2 k3 k5:C5}{newId:String}
abbrev qg (C t:Addr)(D:C7):Xz:={ cls:=.ref C,dict:=D,data:=.fields #[.ref t,.none,.none,.none,.bool false,.none] }
def Hh {M:Model} {x t:Addr} {D:C7} {ys:C9} {Q:Unit->U8->Prop} (hC:hp.get? C=some (Yr nm q C N bs bm hdct sn sub ab col dd k0 k1 k2 k3 k5 newId)) (hv:bm.contains (.type "ValueError")=true)
  (hx:hp.get? x=some (qg C t D)) (hq:Q () ⟨hp,g,d,tk,os⟩):Vh M A (Zh "ValueError.__init__" ⟨.ref x::ys,[]⟩) Q E ⟨hp,g,d,tk,os⟩:=by
 have hv':(Vq C::bm).contains (.type "ValueError")=true:=by rw[Xl,hv,Zj]
 have F:=PySem.F.excCall_ValueError;have hns:=F.noStar;simp only[Zh,F.initSplit,F.initKind,F.initRow]
 repeat (first | (with_reducible refine W9 hx ?_) | (with_reducible refine W9 hC ?_) | (with_reducible refine XN hC ?_;rw[hv']) | wp_step)
 refine wpAny_onRaise ?_;rw[show ∀ (a b:String) (n:Nat),Bind.check ⟨.positional,"*","ValueError",.self,[⟨"args",.varPos,false⟩]⟩ a b n (List.map (fun z=>z.fst) ({ pos:=Vq x::ys }:Args).kw)=pure () from fun a b n=>check_star_args _ _ _ _ _ _];exact Va hq
def Eb {x t:Addr} {D:C7} {y:Value} {Q:C4} (hC:hp.get? C=some (Yr nm q C N bs bm hdct sn sub ab col dd k0 k1 k2 k3 k5 newId)) (hv:bm.contains (.type "ValueError")=true)
  (hx:hp.get? x=some (qg C t D)) (h:∀ h',(∀ b o,b≠x->hp.get? b=some o->h'.get? b=some o)->h'.get? x=some (qg C hp.objs.size D)->Q .none ⟨h',g,d,tk,os⟩) :
  Vh (Vl P w) A (call (.builtin "ValueError.__init__") [.ref x,y]) Q E ⟨hp,g,d,tk,os⟩:=by
 have F:=PySem.F.excCall_ValueError;refine YT (YX F.init.plain F.initEntry (Hh hC hv hx ?_));have hx1:=U9 { cls:=.type "tuple",data:=.seq #[y] } hx
 wp_walk
 refine h _ (fun b o hb e=>?_) ?_;{rw[VF _ _ (Wz hb)];exact U9 _ e};{rw[VP _ hx1 U];rfl}
end
section
variable {P:Vt}{w:V2}{A:V1}{hp:Wg}{g:Array abP}{d:Drawn}{tk:Nat}{os:OsState}
variable {nm q:VB}{C N:Addr}{bs bm:C9}{hdct:Bool}{sn:DF}{sub:C9}{ab:Bool}{col:C8}{dd:C7}{k0 k1 k2 k3 k5:C5}
structure Rv (bm:C9):Prop where
 v:bm.contains (.type "ValueError")=true
 b:bm.contains (.type "BaseException")=true
 a:bm.contains (.type "AttributeError")=false
 n:bm.contains (.type "NameError")=false
def new_exc {R:aan->U8->Prop} (V:Rv bm) (hC:hp.get? C=some (Yr nm q C N bs bm hdct sn sub ab col dd k0 k1 k2 k3 k5 "ValueError.__new__"))
  (hq:R (.ok (.ret (.ref (hp.objs.size+1)))) ⟨(hp.push { cls:=.type "tuple",data:=.seq #[] }).push (qg C hp.objs.size none),g,d,tk,os⟩) :
  WK (Vl P w) A (.builtin "ValueError.__new__" ⟨[.ref C],[]⟩) R ⟨hp,g,d,tk,os⟩:=by
 have F:=PySem.F.excBase_ValueError;have he:=F.ends;have c1:(Vq C::bm).contains (.type "ValueError")=true:=by rw[Xl,V.v,Zj]
 have c2:(Vq C::bm).contains (.type "AttributeError")=false:=by rw[Xl,V.a];rfl
 have c3:(Vq C::bm).contains (.type "NameError")=false:=by rw[Xl,V.n];rfl
 refine codeAny_builtinAt F.entry ?_;unfold Yw.«BaseException.__new__»;refine PySem.wpAt_bind ?_;show PySem.wpAt _ _ _ (stack >>= _) _ _ _;refine PySem.wpAt_bind (PySem.wpAt_stack fun p below=>PySem.wpAt_of_wpAny ?_)
 wp_walk
 refine PySem.wpAt_of_wpAny ?_;rw[F.owner]
 repeat (first | with_reducible refine wpAny_madeHere_exc F.canon hC ?_ | with_reducible refine W9 hC ?_ | (with_reducible refine XN hC ?_;first | rw[c1] | rw[c2] | rw[c3]) | wp_step)
 show R _ _;rw[WT];exact hq
def Ot {M:Model} {E:C4} {Q:Unit->U8->Prop} (V:Rv bm) (hC:hp.get? C=some (Yr nm q C N bs bm hdct sn sub ab col dd k0 k1 k2 k3 k5 "ValueError.__new__")) (hq:Q () ⟨hp,g,d,tk,os⟩) :
  Vh M A (Zh "ValueError.__new__" ⟨[.ref C],[]⟩) Q E ⟨hp,g,d,tk,os⟩:=by
 have F:=PySem.F.excBase_ValueError;have c1:(Vq C::bm).contains (.type "ValueError")=true:=by rw[Xl,V.v,Zj]
 have hs:=F.noStar;simp only[Zh,F.newSplit,F.newKind,F.newRow]
 repeat (first | (refine XN hC ?_;rw[c1]) | refine W9 hC ?_ | refine wpAny_madeBy_exc hC ?_ | refine wpAny_staticBase_exc hC ?_ | simp only[bne_self_eq_false,abB,if_false] | wp_step)
 exact hq
def K4 {f:Addr} {R:aan->U8->Prop} (V:Rv bm) (hC:hp.get? C=some (Yr nm q C N bs bm hdct sn sub ab col dd k0 k1 k2 k3 k5 "ValueError.__new__"))
  (hl:∀ h',(∀ b o,hp.get? b=some o->h'.get? b=some o)->W.Looks (Vl P w) h' (aak (.ref C) "__init__") (some (.ref f))) (hb:∀ h' self,(∀ b o,hp.get? b=some o->h'.get? b=some o)->W.Looks (Vl P w) h' (bindSpecial (.ref f) self) (.ref f,[self]))
  (hq:WK (Vl P w) (A.under (.builtin "type.__call__" ⟨[.ref C],[]⟩)) (.call (.ref f) ⟨[.ref (hp.objs.size+1)],[]⟩) (W.InitBack (hp.objs.size+1) R) ⟨(hp.push { cls:=.type "tuple",data:=.seq #[] }).push (qg C hp.objs.size none),g,d,tk,os⟩) :
  WK (Vl P w) A (.call (.ref C) ⟨[],[]⟩) R ⟨hp,g,d,tk,os⟩:=by
 have f1:=tc_lookup;have f2:=tc_bind (.ref C);have hT:(⟨hp,g,d,tk,os⟩:U8).TypeIs (.ref C) "type":=⟨_,hC,U⟩;refine aaX ?_;show Vh _ _ (callAny (.ref C) _) _ _ _
 repeat (any_goals (first | assumption | with_reducible refine W9 hC ?_ | wp_step))
 refine⟨U,?_⟩;refine codeAny_call_builtin_at (aaq _ (by decide+kernel)) entry_typeCall (wpAny_check_type_call_sub hC ?_)
 repeat (first | with_reducible refine W9 hC ?_ | with_reducible refine wpAny_madeBy_exc hC ?_ | wp_step)
 refine codeAny_call_builtin_code (aaq _ PySem.F.excBase_ValueError.quiet) (Ot V hC ?_);refine new_exc V hC ?_;show Vh _ _ _ _ _ _;have k1:∀ b o,hp.get? b=some o->((hp.push { cls:=.type "tuple",data:=.seq #[] }).push (qg C hp.objs.size none)).get? b=some o:=fun b o e=>U9 _ (U9 _ e);have hC1:=k1 _ _ hC;have hx:((hp.push { cls:=.type "tuple",data:=.seq #[] }).push (qg C hp.objs.size none)).get? (hp.objs.size+1)=some (qg C hp.objs.size none):=by heap_get
 have cC:(Vq C::bm).contains (.ref C)=true:=by simp
 unfold isInstance
 repeat (first | with_reducible refine W9 hx ?_ | (with_reducible refine XN hC1 ?_;rw[cC]) | wp_step)
 show Vh _ _ (aak (.ref C) _) _ _ _;refine Xv (hl _ k1) ?_;refine Ww (U6 ((hb _ _ k1).here ?_));refine U6 (YT (XR hq fun r s' z=>?_));cases r with
 | error e=>exact z
 | ok fl =>
  cases fl with
  | ret v =>
   obtain⟨ev,z⟩:=z;subst ev;exact Va (Va z)
  | next=>exact V9 z
  | brk=>exact V9 z
  | cont=>exact V9 z
end
def Kq (self:Value):PySem.refuseLoop self "__setattr__" [.type "ValueError",.type "Exception",.type "BaseException",.type "object"]=pure ():=by kernel_rfl
section
variable {P:Vt}{w:V2}{A:V1}{E:Value->U8->Prop}{K:VG}{s:U8}
variable {nm q:VB}{C N x t:Addr}{bs bm:C9}{hdct:Bool}{sn:DF}{sub:C9}{ab:Bool}{col:C8}{dd:C7}{k0 k1 k2 k3 k5:C5}{newId:String}
def t8:C9->Bool
 | []=>false
 | a::r=>match a with
  | .ref _=>t8 r
  | _=>a::r == [.type "ValueError",.type "Exception",.type "BaseException",.type "object"]
def lM {a:Value} {r:C9} (h:t8 (a::r)=true):(∃ c,a = .ref c/\t8 r=true)∨a::r=[.type "ValueError",.type "Exception",.type "BaseException",.type "object"]:=by
 cases a <;> first | exact .inl ⟨_,rfl,h⟩ | exact .inr (eq_of_beq h)
theorem pN (self:Value):∀ {l:C9},t8 l=true->PySem.refuseLoop self "__setattr__" l=pure ()
 | [],h=>by cases h
 | a::r,h=>by
  rcases lM h with⟨c,rfl,h'⟩ | e;{rw[refuseLoop_ref];exact pN self h'};{rw[e];exact Kq self}
theorem yt:∀ {l:C9},t8 l=true->l.contains (.type "object")=true
 | [],h=>by cases h
 | a::r,h=>by
  rcases lM h with⟨c,rfl,h'⟩ | e;{rw[Xl,yt h',Zj]};{rw[e];rfl}
def NK {name:VB} {v:Value} {cd:ClassData} {Q:Unit->U8->Prop} (X:K.In s.heap) (hx:s.heap.get? x=some (qg C t none)) (hs:Y5 K (.ref C) "__setattr__" = some (some (.builtin "object.__setattr__")))
  (hc:W.clsIn K C=some cd) (hu:t8 cd.mro=true) (hdc:cd.hasDict=true) (hf:W.takerIn K C name=some none)
  (h:∀ h',(∀ b o,b≠x->s.heap.get? b=some o->h'.get? b=some o)->h'.get? x=some (qg C t (some s.heap.objs.size))->(∃ o,h'.get? s.heap.objs.size=some o)->h'.Ns1 s.heap.objs.size (fun y=>if y=name then some v else none)->∀ tk,Q () { s with heap:=h',toks:=tk }) :
  Vh (Vl P w) A (setAttr (.ref x) name v) Q E s:=by
 have J:PySem.W.InstAt s.heap x (qg C t none) C none:=⟨hx,U,U,trivial⟩;have SF:=PySem.F.store_object;have ne:cd.mro.isEmpty=false:=by cases q:cd.mro with | nil=>rw[q] at hu;cases hu | cons _ _=>rfl
 refine PySem.W.set_plain X J hs ?_;have sub:abv (Vl P w) s.heap (isInstance (.ref x) (.type "object")) true:=J.type.andThen (PySem.W.looks_mroIn X (by unfold PySem.W.mroIn;rw[hc,Option.bind_some,if_neg (by rw[ne];decide),yt hu]));refine YX SF.slot.plain SF.entry (@PySem.W.check_slot (Vl P w) _ _ { s with toks:=s.toks+1 } "object.__setattr__" "object" "__setattr__" (.ref x) [.str name s.toks,v] [] _ SF.kind SF.split sub (SF.args (.ref x) (.str name s.toks) v) ?_);obtain⟨attr,ha,hr⟩:=Option.bind_eq_some_iff.mp hf;have hm:abv (Vl P w) s.heap (mroOf (.ref C)) cd.mro:=(abl X hc).andThen .now;have L3:abv (Vl P w) s.heap (Builtin.ObjectAttr.storeTaker? attr) none:=by
  cases attr with
  | none=>exact .now
  | some a =>
   obtain⟨b,hb,e⟩:=Option.map_eq_some_iff.mp hr;refine (PySem.W.looks_takesIn X hb).andThen ?_;cases b;{exact .now};{cases e}
 rw[PySem.W.osa_eq,refuse_eq];obtain⟨hp,g,d,tk,os⟩:=s;refine U6 (U6 (Xv (s:=⟨hp,g,d,tk+1,os⟩) J.type (U6 (Xv (s:=⟨hp,g,d,tk+1,os⟩) hm ?_))));rw[pN _ hu];refine Va (U6 (Xv (s:=⟨hp,g,d,tk+1,os⟩) J.type (U6 (Xv (s:=⟨hp,g,d,tk+1,os⟩) (Y8 X ha) (U6 (Xv (s:=⟨hp,g,d,tk+1,os⟩) L3 ?_))))));dsimp only;unfold Builtin.ObjectAttr.storeInOwnDict;refine U6 (Va ?_);unfold Builtin.ObjectAttr.ownDictForStores instanceDict;refine U6 (U6 (wpAny_loadPart hx (U6 (Xv (s:=⟨hp,g,d,tk+1,os⟩) (abl X hc) ?_))));rw[hdc,if_neg (by decide)];have hx1:(hp.push { cls:=.type "dict",data:=.dict #[] }).get? x=some (qg C t none):=U9 _ hx;have hne:x≠hp.objs.size:=Vw (Vj hx);show Vh _ _ (do let d ← alloc { cls:=.type "dict",data:=.dict #[] };update x fun o=>{ o with dict:=some d };dictMade (.ref C) x d) _ _ _;refine U6 (wpAny_alloc (U6 (wpAny_update hx1 ?_)))
 wp_step
 refine Va ?_;dsimp only;generalize eh:(hp.push { cls:=.type "dict",data:=.dict #[] }).update x (fun o=>{ o with dict:=some hp.objs.size })=h2;have n2:h2.Ns1 hp.objs.size (fun _=>none):=by
  refine Heap.Ns1.at (Heap.Ns1.of_empty (Heap.Ns.new hp (.type "dict"))) fun o e=>?_;rw[← eh,VF _ _ hne];exact e
 have k2:∀ b o,b≠x->hp.get? b=some o->h2.get? b=some o:=fun b o hb e=>by
  rw[← eh,VF _ _ (Wz hb)];exact U9 _ e
 have x2:h2.get? x=some (qg C t (some hp.objs.size)):=by
  rw[← eh,VP _ hx1 U]
 unfold Builtin.ObjectAttr.storeInDict;refine U6 (Va ?_);refine U6 (wpAny_nsSet1 (s:=⟨h2,g,d,tk+1,os⟩) n2 fun h' hn2 hs2=>?_);obtain⟨oD,esD,epD,hoD,hdD,hcD⟩:=hn2.count (PySem.Within.cons name v PySem.Within.nil);refine U6 (wpAny_lookBehind hoD (by rw[hdD];exact pastItsLine_dict (VH hcD (by show 1<=sizeLine+1;lia))) ?_);refine Va (h _ (fun b o hb e=>?_) ((hs2.2 _ hne).trans x2) ⟨oD,hoD⟩ hn2 _);have hbn:b≠hp.objs.size:=Vw (Vj e);exact (hs2.2 _ hbn).trans (k2 b o hb e)
end
def NP (K:VG):W.findCls K (.type "ValueError") (.type "type") "__init__" = some (.val (.builtin "ValueError.__init__")):=by kernel_rfl
def Oe:We "ValueError" = some (.type "ValueError"):=by decide+kernel
def Nf:typeOf (.type "ValueError")=pure (.type "type"):=by kernel_rfl
def Oj:Manifest.isStub "ValueError" = false:=by decide+kernel
def NZ:W.handedIn (.builtin "ValueError.__init__")=true:=by decide+kernel
def xO (x C:Addr)(D:C7):HO:=.ext fun h=>∃ t,h.get? x=some (qg C t D)
def O3 {P:Vt}{w:V2}{H:Hp}{h:Wg}{x C t:Addr}{D:C7}(e:h.get? x=some (qg C t D)):dN P w H h x (xO x C D) :=
 ⟨⟨t,e⟩,⟨_,e⟩,fun h1 h2 ⟨t',e'⟩ k=>⟨t',k _ e'⟩⟩
structure Kp (K:Vi)(C f:Addr)(name:VB):Prop where
 obj:∃ nm q N bs bm hdct sn sub ab col dd k0 k1 k2 k3 k5,K.lookup C=some (Yr nm q C N bs bm hdct sn sub ab col dd k0 k1 k2 k3 k5 "ValueError.__new__")/\Rv bm
 init:Wu K (.ref C) "__init__" = some (some (.ref f))
 fn:PySem.W.typeIn K (.ref f)=some (.type "function")
 kp:Xa K (.ref C)=true
 set:Wu K (.ref C) "__setattr__" = some (some (.builtin "object.__setattr__"))
 cls:∃ cd,PySem.W.clsIn K C=some cd/\t8 cd.mro=true/\cd.hasDict=true
 tak:aaY K C name=some none
section
variable {X:Cx}{p pos apos:YS}{e:Expr}{es:Do}{t:TA}{f C:Addr}
def QR (K:VG)(t:TA):TE:=fun σ H Q=>t σ H fun vs H1=>∃ (x C f:Addr) (n:VB) (D:C7) (y:V),vs=[.ref x,y]/\H1 x=some (xO x C D)/\Kp K C f n/\Q .non (upd H1 x (xO x C D))
def JF {pl:Sem Bool} (hg:Gl X "ValueError") (hm:X.mg "ValueError" = none) (ha:PA X (e::es) t)
  (hst:Vx (e::es) X.env=(false,Wy e X.env)::Vx es X.env:=by rfl) (hpl:(Xj pos (Vx es X.env)).any (·.1)=false:=by rfl)
  (ht:Wy (.Call (.Attribute (.Name "ValueError" p) "__init__" apos) (e::es) [] pos) X.env=(do
   let ov ← Wy (.Name "ValueError" p) X.env
   YJ apos.atName
   let (g,first) ← Zg [ov] (ZC ov "__init__" pl)
   aaF pos g first (Xj pos (Vx (e::es) X.env)) (Z2 pos (Yq [] X.env))):=by rfl) :
  PE X (.Call (.Attribute (.Name "ValueError" p) "__init__" apos) (e::es) [] pos) (QR X.K t):=by
 intro ZY s σ H Q I h;refine ZP (pl:=pl) (kO I hg hm Oe ?_) ht;obtain⟨m,F⟩:=I.fr;refine PySem.W.method_type F I.ok.mod.kin Nf Oj (NP X.K) NZ ?_;have I1:=I.tok (s.toks+1);refine callWith_builtin1 (thn (ha pos ZY _ σ H _ I1 h) fun us s1 ⟨vs,H1,I2,r,x,C,f,n,D,y,ev,hx,XC,q⟩=>?_) hst hpl;subst ev;obtain⟨u,v,rfl,ru,rv⟩:=r.two;obtain rfl:u=Vq x:=ru;obtain⟨⟨t0,e0⟩,_⟩:=I2.hok x _ hx;obtain⟨nm,q1,N,bs,bm,hdct,sn,sub,ab,col,dd,k0,k1,k2,k3,k5,lk,V⟩:=XC.obj;obtain⟨hp,g,d,tk,os⟩:=s1;refine Eb (I2.kIn _ _ lk) V.v e0 fun h' k' e'=>?_;exact⟨.non,_,I2.write (x:=x) (e:=x) (by rw[hx];trivial) (.inl U) k' ⟨_,e'⟩ (O3 e'),U,q⟩
end
section
variable {X:Cx}{pos pos':YS}{o value:Expr}{ta tv:TE}{f:VB}
def R7 (K:VG)(ta tv:TE)(f:VB):TS:=fun D σ H=>tv σ H fun y H1=>ta σ H1 fun x H2=>∃ (a C fI:Addr),x = .ref a/\H2 a=some (xO a C none)/\Kp K C fI f/\∀ dx,H2 dx=none->D.nx σ (upd (upd H2 dx (.xd [(f,y)])) a (xO a C (some dx)))
def MN (ha:PE X o ta)(hv:PE X value tv)(hs:ZR value (some (.Attribute o f pos')) pos.line X.env=pure false):PS X (.Assign [.Attribute o f pos'] value pos) (R7 X.K ta tv f):=by
 intro ZY s σ H D I h;refine abQ (thn (hv ZY s σ H _ I h) fun u s1 ⟨y,H1,I1,ry,q⟩=>thn (ha ZY s1 σ H1 _ I1 q) fun ov s2 ⟨x,H2,I2,rx,a,C,fI,ex,ea,XC,q2⟩=>?_) hs;subst ex;obtain rfl:ov=Vq a:=rx;obtain⟨⟨t0,e0⟩,_⟩:=I2.hok a _ ea;obtain⟨cd,hc,hu,hd⟩:=XC.cls;refine NK I2.kIn e0 XC.set hc hu hd XC.tak fun h' k' e' ho hn tk=>?_;have fr:=I2.fresh;have hne:a≠s2.heap.objs.size:=Vw (Vj e0);have e1:(h'.update a fun _=>qg C t0 none).get? a=some (qg C t0 none):=VP _ e' U;have o1:∀ b,b≠a->(h'.update a fun _=>qg C t0 none).get? b=h'.get? b:=fun b hb=>VF _ _ (Wz hb)
 have I3:=I2.laid (a:=s2.heap.objs.size) (o:=.xd [(f,y)]) (h':=h'.update a fun _=>qg C t0 none) (t':=tk) (fun b u' q'=>by
  by_cases hb:b=a;{subst hb;rw[e0] at q';rw[e1];exact q'}
  ·rw[o1 b hb]
   exact k' b u' hb q') (Vb _) ⟨_,hn.at (fun o z=>by rw[o1 _ (Wz hne)];exact z),fun g=>by
    by_cases hg:g=f;{subst hg;simp [Zb,ue];exact ry}
    ·have:(g == f)=false:=beq_false_of_ne hg
     simp [Zb,this,hg,ue]⟩
 have I4:=I3.write (x:=a) (e:=a) (h':=h') (o:=xO a C (some s2.heap.objs.size)) (t':=tk) (by rw[aF hne,ea];trivial) (.inl U) (fun b u' hb q'=>by rw[o1 b hb] at q';exact q') ⟨_,e'⟩ (O3 e');exact⟨σ,_,I4,q2 _ fr⟩
end
section
variable {M:Model}{A:V1}{E:C4}{env:Env}
def HH {s:U8}{z:Sem Value}{Q:Flow->U8->Prop}(hh:A.handled=none)
  (h:Vh M A z (fun v s1=>∃ (e t C:Addr) (D:C7) (nm q:VB) (N:Addr) (bs bm:C9) (hdct:Bool) (sn:DF) (sub:C9) (ab:Bool) (col:C8) (dd:C7) (k0 k1 k2 k3 k5:C5) (newId:String),v = .ref e/\s1.heap.get? C=some (Yr nm q C N bs bm hdct sn sub ab col dd k0 k1 k2 k3 k5 newId)/\bm.contains (.type "BaseException")=true/\s1.heap.get? e=some (qg C t D)/\E (.ref e) s1) E s):Vh M A (raiseStmt env (some z) none) Q E s:=by
 unfold raiseStmt;refine U6 (Wc h (fun v s1 h1=>?_) fun _ _ y=>y);obtain⟨e,t,C,D,nm,q,N,bs,bm,hdct,sn,sub,ab,col,dd,k0,k1,k2,k3,k5,newId,rfl,hC,hb,he,hE⟩:=h1;have c1:(Vq C::bm).contains (.type "BaseException")=true:=by rw[Xl,hb,Zj]
 obtain⟨hp,g,d,tk,os⟩:=s1
 repeat (first | with_reducible refine W9 he ?_ | with_reducible refine W9 hC ?_ | (with_reducible refine XN hC ?_;rw[c1]) | wp_step)
 exact wpAny_raiseNew_none hh hE
end
section
variable {X:Cx}{CX:CXT}{k:Nat}{f C:Addr}{fd:Wh}{ps:DF}{sp:Sp}{c n:VB}{p pos:YS}{e:Expr}{te:TE}{E:XK}
def Qh (C:Addr)(sp:Sp)(E:XK):TE:=fun _ H Q=>∀ x,H x=none->sp [.ref x] (upd H x (xO x C none)) (fun v H2=>v = .non/\Q (.ref x) H2) E
def K7 (XC:Kp X.K C f n)(F:aZ X.prog X.w X.K X.mg X.base CX k f fd ps sp)(hr:d9 (k+1) X.A)(hg:Gl X c)(hm:X.mg c=some (.ref C))(hb:Binds X.K fd ps [])(hx:Passes CX X E)
  (hdb:(c == ("__debug__" : VB))=false:=by decide):PE X (.Call (.Name c p) [] [] pos) (Qh C sp E):=by
 intro ZY s σ H Q I h;refine WL (jQ I hg hm ?_ hdb);refine abm I.kIn XC.kp ?_;obtain⟨nm,q1,N,bs,bm,hdct,sn,sub,ab,col,dd,k0,k1,k2,k3,k5,lk,VE⟩:=XC.obj;have hq:=h (s.heap.objs.size+1) (I.hok.fresh (WY _));have kk:∀ b o,s.heap.get? b=some o->((s.heap.push { cls:=.type "tuple",data:=.seq #[] }).push (qg C s.heap.objs.size none)).get? b=some o:=fun b o z=>U9 _ (U9 _ z);have ex:((s.heap.push { cls:=.type "tuple",data:=.seq #[] }).push (qg C s.heap.objs.size none)).get? (s.heap.objs.size+1)=some (qg C s.heap.objs.size none):=by
  have:=Vn (s.heap.push { cls:=.type "tuple",data:=.seq #[] }) (o:=qg C s.heap.objs.size none) U;rwa [WT] at this
 have I2:=I.laid (a:=s.heap.objs.size+1) (o:=xO (s.heap.objs.size+1) C none) (t':=s.toks) kk (WY _) (O3 ex);have r2:Vals [V.ref (s.heap.objs.size+1)] [Vq (s.heap.objs.size+1)]:=.cons U .nil;have hl:([Vq (s.heap.objs.size+1)]++[]).length=ps.length:=by
  have z:=r2.length;rw[F.len _ _ _ _ hq] at z;exact z.symm
 have hk:=I.kIn;refine YT ?_;have mk:=K4 (P:=X.prog) (w:=X.w) (A:=X.A) (hp:=s.heap) (g:=s.gens) (d:=s.drawn) (tk:=s.toks) (os:=s.os) (f:=f) (R:=fun r s'=>match r with | .ok (.ret v)=>EP X ZY σ Q v s' | .ok _=>False | .error e=>X.xe e s') VE (hk _ _ lk) (fun h' k'=>Y8 (hk.keeps k') XC.init) (fun h' self k'=>PySem.W.bind_fn (hk.keeps k') self XC.fn)
 refine mk (XR (F.run _ X.stack _ _ ⟨[Vq (s.heap.objs.size+1)],[]⟩ [Vq (s.heap.objs.size+1)] _ _ E (hr.make C [] []) (I2.env0.make C [] []) (hb _ [Vq (s.heap.objs.size+1)] I2.kIn hl) r2 hq) fun r s' hq'=>?_);cases r with
 | error e=>exact hx ZY σ _ _ e s' I2 hq'
 | ok fl =>
  cases fl with
  | ret u =>
   obtain⟨v,H',I3,rv,ev,q3⟩:=I2.after hq';subst ev;exact⟨rv,⟨V.ref (s.heap.objs.size+1),H',I3,U,q3⟩⟩
  | next=>exact V9 hq'
  | brk=>exact V9 hq'
  | cont=>exact V9 hq'
def Throws (X:Cx)(W:Addr->Addr->Addr->Hp->Prop):Prop:=∀ (ZY:C1) (σ:St) (H:Hp) (s:U8) (x C dx:Addr),Inv X ZY σ H s->H x=some (xO x C (some dx))->W x C dx H->X.xe (.ref x) s
def Qt (K:VG)(W:Addr->Addr->Addr->Hp->Prop)(te:TE):TS:=fun _ σ H=>te σ H fun v H1=>∃ (x C f dx:Addr) (n:VB),v = .ref x/\H1 x=some (xO x C (some dx))/\Kp K C f n/\W x C dx H1
def J9 {W:Addr->Addr->Addr->Hp->Prop}(hc:X.calm=true)(he:PE X e te)(hw:Throws X W):PS X (.Raise (some e) none pos) (Qt X.K W te):=by
 intro ZY s σ H D I h;rw[arm_exec_Raise];refine U6 (X3 ?_);have go:Vh (Vl X.prog X.w) X.A (Wy e X.env) (fun v s1=>∃ x C f dx n H1,v=Vq x/\Inv X ZY σ H1 s1/\H1 x=some (xO x C (some dx))/\Kp X.K C f n/\W x C dx H1) X.xe s:=thn (he ZY s σ H _ I h) fun u s1 ⟨v,H1,I1,r,x,C,f,dx,n,ev,hx,XC,hW⟩=>by
  subst ev;exact⟨x,C,f,dx,n,H1,r,I1,hx,XC,hW⟩
 show Vh _ _ (raiseStmt X.env (some (do let v ← Wy e X.env;YJ pos;pure v)) none) _ _ _;refine HH (I.ok.hd hc) (U6 (thn go fun v s1 ⟨x,C,f,dx,n,H1,ev,I1,hx,XC,hW⟩=>U6 (X3 (Va ?_))));obtain⟨⟨t0,e0⟩,_⟩:=I1.hok x _ hx;obtain⟨nm,q1,N,bs,bm,hdct,sn,sub,ab,col,dd,k0,k1,k2,k3,k5,lk,VE⟩:=XC.obj;exact⟨x,t0,C,some dx,nm,q1,N,bs,bm,hdct,sn,sub,ab,col,dd,k0,k1,k2,k3,k5,_,ev,I1.kIn _ _ lk,VE.b,e0,hw ZY σ H1 s1 x C dx I1 hx hW⟩
end
structure Fly (B:Wg)(l:DB)(x C dx:Addr)(fl:Value)(h:Wg):Prop where
 stay:B.StaysIn h
 bx:B.get? x=none
 frs:h.FunFrames B l
 tr:∃ vs T oT ts sl,h.get? x=some { cls:=.ref C,dict:=some dx,data:=.fields vs,slots:=sl }/\vs[1]? = some (.ref T)/\B.get? T=none/\T≠x/\h.get? T=some oT/\oT.data = .fields ts/\ts[3]? = some fl
structure Up (h h':Wg):Prop where
 sl:h.UpToSlots h'
 th:∀ b o,h.get? b=some o->∃ o',h'.get? b=some o'
def Up.trans {h h1 h2:Wg}(a:Up h h1)(b:Up h1 h2):Up h h2:=⟨a.sl.trans b.sl,fun c o e=>let ⟨o1,e1⟩:=a.th c o e;b.th c o1 e1⟩
section
variable {M:Model}{A:V1}{E:C4}{s:U8}{B:Wg}{env:Env}{outer:DB}{L x C dx:Addr}{Q:Unit->U8->Prop}
def xT {vs:Array Value}{sl:Array (C5)}{head:Value}{hadNext:Bool}(hfr:A.frames=some (env::outer))(hl:s.heap.FunFrames B (env::outer))(hf:env.frame=some L)
  (ex:s.heap.get? x=some { cls:=.ref C,dict:=some dx,data:=.fields vs,slots:=sl }) (st:B.StaysIn s.heap) (bx:B.get? x=none) (sz:1 < vs.size)
  (h:∀ h',Fly B (env::outer) x C dx (Wl L) h'->Up s.heap h'->Q () { s with heap:=h' }) :
  Vh M A (do let a ← frameOf env;let pl ← entryPlaceOf L hadNext;let b ← EntryCells.newEntry head a .none (Wl L) .none pl;setField (.ref x) 1 b) Q E s:=by
 have nx:x ∉ (env::outer).filterMap (·.frame):=fun hm=>by
  obtain⟨_,o,ho,nf⟩:=hl.mem hm;rw[ex] at ho;cases ho;exact nf vs U
 refine U6 (wpAny_frameOf_fun hfr hl hf fun h1 s1=>U6 (wpAny_entryPlaceOf fun pl hpl=>?_));unfold EntryCells.newEntry newFields;refine U6 (V7 ?_ (hpl.sizeOk5 _ _ _ _ _));have e1:h1.get? x=_:=(s1.2.1 x nx).trans ex;have st1:B.StaysIn h1:=fun b o z=>(s1.2.1 b fun hm=>by rw[(hl.mem hm).1] at z;cases z).trans (st b o z);generalize eo:({ cls:=.type "traceback",dict:=none,data:=.fields ([head,.ref L,.none,Wl L,.none]++(if pl.isEmpty then VM 6 WM else pl)).toArray }:Xz)=oT
 have dT:oT.data = .fields ([head,.ref L,.none,Wl L,.none]++(if pl.isEmpty then VM 6 WM else pl)).toArray:=by rw[← eo]
 have e2:=U9 oT e1;refine Xe e2 U sz (h _ ?_ ?_)
 all_goals
  have hTx:h1.objs.size≠x:=Yt (Vj e1);have keep:∀ b o,b≠x->h1.get? b=some o->((h1.push oT).update x (Xf (·.setIfInBounds 1 (Vq h1.objs.size)))).get? b=some o:=fun b o hb z=>by
   rw[VF _ _ (Wz hb)];exact U9 _ z
  have nrec:∀ b o,s.heap.get? b=some o->(∀ vs,o.data≠.fields vs)->b≠x:=fun b o z nf q=>by
   rw[q,ex] at z;cases z;exact nf vs U
 ·refine⟨fun b o z=>keep b o (fun q=>by rw[q,bx] at z;cases z) (st1 b o z),bx,hl.of_keeps fun b o z nf=>?_,?_⟩;{obtain⟨sl',hs⟩:=s1.2.2 b o z;exact⟨_,keep b _ (nrec b o z nf) hs,U⟩}
  ·have e3:=VP (Xf (·.setIfInBounds 1 (Vq h1.objs.size))) e2 U;have hT:((h1.push oT).update x (Xf (·.setIfInBounds 1 (Vq h1.objs.size)))).get? h1.objs.size=some oT:=by
    rw[VF _ _ (Wz hTx)];exact Vn h1 (by rw[← eo];rfl)
   refine⟨vs.setIfInBounds 1 (.ref h1.objs.size),h1.objs.size,oT,_,sl,e3,by simp [sz],st1.fresh,hTx,hT,dT,?_⟩;rcases hpl with rfl | ⟨_,_,_,_,_,_,_,rfl⟩ <;> simp
 ·refine⟨fun b o z nf=>?_,fun b o z=>?_⟩;{obtain⟨sl',hs⟩:=s1.2.2 b o z;exact⟨sl',keep b _ (nrec b o z nf) hs⟩}
  ·by_cases hb:b=x;{subst hb;exact⟨_,VP (Xf (·.setIfInBounds 1 (Vq h1.objs.size))) e2 U⟩};{obtain⟨sl',hs⟩:=s1.2.2 b o z;exact⟨_,keep b _ hb hs⟩}
def qK {fl:Value}{l:DB}(F:Fly B l x C dx fl s.heap)(h:∀ h',Fly B l x C dx .none h'->Up s.heap h'->Q () { s with heap:=h' }):Vh M A (setFlight (.ref x) none) Q E s:=by
 obtain⟨st,bx,fr,vs,T,oT,ts,sl,ex,v1,bT,hTx,hT,dT,t3⟩:=F;unfold setFlight;refine U6 (X5 ex U v1 ?_);rw[if_pos (show (Vq T != WM)=true by simp)];have s3:3 < ts.size:=(Array.getElem?_eq_some_iff.mp t3).1;refine Xe hT dT s3 (h _ ?_ ?_)
 all_goals
  have keep:∀ b o,b≠T->s.heap.get? b=some o->(s.heap.update T (Xf (·.setIfInBounds 3 ((none:C7).elim WM fun f=>Wl f)))).get? b=some o:=fun b o hb z=>(VF _ _ (Wz hb)).trans z;have nrec:∀ b o,s.heap.get? b=some o->(∀ vs,o.data≠.fields vs)->b≠T:=fun b o z nf q=>by
   rw[q,hT] at z;cases z;exact nf ts dT
 ·refine⟨fun b o z=>keep b o (fun q=>by rw[q,bT] at z;cases z) (st b o z),bx,fr.of_keeps fun b o z nf=>⟨o,keep b o (nrec b o z nf) z,rfl⟩,vs,T,_,ts.setIfInBounds 3 .none,sl,keep x _ (Wz hTx) ex,v1,bT,hTx,VP _ hT (aa4 (aao dT _)),aao dT _,by simp [s3]⟩
 ·refine⟨fun b o z nf=>⟨o.slots,keep b o (nrec b o z nf) z⟩,fun b o z=>?_⟩;by_cases hb:b=T;{subst hb;exact⟨_,VP _ hT (aa4 (aao dT _))⟩};{exact⟨o,keep b o hb z⟩}
def FJ {t:Addr}(hfr:A.frames=some (env::outer))(hl:s.heap.FunFrames B (env::outer))(hf:env.frame=some L)(ex:s.heap.get? x=some (qg C t (some dx)))(st:B.StaysIn s.heap)(bx:B.get? x=none)
  (h:∀ h',Fly B (env::outer) x C dx .none h'->Up s.heap h'->Q () { s with heap:=h' }):Vh M A (leaving env (.ref x)) Q E s:=by
 unfold leaving aaf;simp only[hf];refine U6 (U6 (X5 ex U (x:=.none) U ?_));rw[if_neg (by decide)];refine xT hfr hl hf ex st bx (by show 1 < 6;decide) fun h1 F1 u1=>?_;exact qK (s:={ s with heap:=h1 }) F1 fun h2 F2 u2=>h h2 F2 (u1.trans u2)
def Cq (hfr:A.frames=some (env::outer))(hf:env.frame=some L)(F:Fly B (env::outer) x C dx .none s.heap)
  (h:∀ h',Fly B (env::outer) x C dx (Wl L) h'->Up s.heap h'->Q () { s with heap:=h' }):Vh M A (aaf (.ref x) env) Q E s:=by
 obtain⟨st,bx,fr,vs,T,oT,ts,sl,ex,v1,bT,hTx,hT,dT,t3⟩:=F;unfold aaf;simp only[hf];refine U6 (X5 ex U v1 ?_);rw[if_pos (show (Vq T != WM)=true by simp)];refine U6 (X5 hT dT t3 ?_);rw[if_neg (show ¬ ((WM == Wl L)=true) by simp [Wl])];refine U6 (Xe hT dT (Array.getElem?_eq_some_iff.mp t3).1 ?_);have keep:∀ b o,b≠T->s.heap.get? b=some o->(s.heap.update T (Xf (·.setIfInBounds 3 WM))).get? b=some o:=fun b o hb z=>(VF _ _ (Wz hb)).trans z;have nrec:∀ b o,s.heap.get? b=some o->(∀ vs,o.data≠.fields vs)->b≠T:=fun b o z nf q=>by
  rw[q,hT] at z;cases z;exact nf ts dT
 refine xT (s:={ s with heap:=s.heap.update T (Xf (·.setIfInBounds 3 WM)) }) hfr (fr.of_keeps fun b o z nf=>⟨o,keep b o (nrec b o z nf) z,U⟩) hf (keep x _ (Wz hTx) ex) (fun b o z=>keep b o (fun q=>by rw[q,bT] at z;cases z) (st b o z)) bx (Array.getElem?_eq_some_iff.mp v1).1 fun h1 F1 u1=>h h1 F1 ?_;refine Up.trans ⟨fun b o z nf=>⟨o.slots,keep b o (nrec b o z nf) z⟩,fun b o z=>?_⟩ u1;by_cases hb:b=T;{subst hb;exact⟨_,VP _ hT (aa4 (aao dT _))⟩};{exact⟨o,keep b o hb z⟩}
def BL (hfr:A.frames=some (env::outer))(hf:env.frame=some L)(F:Fly B (env::outer) x C dx .none s.heap)
  (h:∀ h',Fly B (env::outer) x C dx .none h'->Up s.heap h'->Q () { s with heap:=h' }):Vh M A (leaving env (.ref x)) Q E s:=by
 unfold leaving;refine U6 (Cq hfr hf F fun h1 F1 u1=>?_);exact qK (s:={ s with heap:=h1 }) F1 fun h2 F2 u2=>h h2 F2 (u1.trans u2)
end
structure Lie (P:Vt)(w:V2)(outer:DB)(H:Hp)(s:U8)(x C dx:Addr)(H':Hp)(B:Wg)(s':U8):Prop where
 os:s'.os=s.os
 bare:aaz s'.gens
 fly:Fly B outer x C dx .none s'.heap
 un:Un (frs outer) [] H H' s.heap s'.heap
 hok:HOk P w H' s'.heap
 kb:∀ b o,s.heap.get? b=some o->H b=none->b ∉ frs outer->B.get? b=some o
 hb:∀ b u,H' b=some u->∃ o,s'.heap.get? b=some o/\B.get? b=some o
 xn:H' x=none
def XL (P:Vt)(w:V2):CXT:=fun outer H s E e s'=>∃ (x C dx:Addr) (H':Hp) (B:Wg),e = .ref x/\Lie P w outer H s x C dx H' B s'/\E (.ref C) (some dx) H'
def off (H:Hp)(x:Addr):Hp:=fun b=>if b=x then none else H b
def off_ne {H:Hp}{x b:Addr}(h:b≠x):off H x b=H b:=if_neg h
def vg {H:Hp}{x b:Addr}{u:HO}(h:off H x b=some u):b≠x/\H b=some u:=by
 unfold off at h;split at h;{cases h};{rename_i z;exact⟨z,h⟩}
def qC {P:Vt}{w:V2}{H H':Hp}{h h':Wg}(k:HOk P w H h)(sub:∀ b u,H' b=some u->H b=some u)(ow:∀ b a,H b=some (.own a)->H' b=some (.own a))(tp:∀ b xs,H b=some (.tup xs)->H' b=some (.tup xs))(keep:∀ b u o,H' b=some u->h.get? b=some o->h'.get? b=some o):HOk P w H' h':=fun b u e =>
 (k b u (sub b u e)).stay (fun c o hc q=>by
  rcases hc with rfl | hc;{exact keep c u o e q}
  ·exact keep c _ o (ow c b hc) q) (fun c q=>ow c b q) tp
def vh {P:Vt}{w:V2}{H:Hp}{h:Wg}{a:Addr}{u:HO}(x:dN P w H h a u):∃ o,h.get? a=some o:=by
 cases u with
 | lst xs=>obtain⟨_,_,_,_,e⟩:=x;exact⟨_,e⟩
 | tup xs=>obtain⟨_,_,_,ob,e,_⟩:=x;exact⟨_,e⟩
 | dK kvs=>obtain⟨_,_,_,_,ob,_,_,e,_⟩:=x;exact⟨_,e⟩
 | dT kvs=>obtain⟨_,_,_,_,ob,_,_,e,_⟩:=x;exact⟨_,e⟩
 | set S n=>obtain⟨ob,_,_,_,e,_⟩:=x;exact⟨_,e⟩
 | ins C dx fs=>obtain⟨_,_,_,e,_⟩:=x;exact⟨_,e⟩
 | own y=>exact x
 | xd fs=>obtain⟨_,⟨od,_,_,e,_⟩,_⟩:=x;exact⟨_,e⟩
 | rng lo hi=>obtain⟨_,_,_,e⟩:=x;exact⟨_,e⟩
 | frz ob u=>exact⟨_,x.1⟩
 | tbl ps=>exact⟨_,x⟩
 | met f y=>exact⟨_,x⟩
 | ext φ=>exact x.2.1
section
variable {P:Vt}{w:V2}{K:VG}{mg:VB->Option Value}{base:Wg}{N:List VB}{qual:VB}{scope:XF}{f:Addr}{cd:Value}{A:V1}{outer:List Env}{s₀:U8}{H₀:Hp}{E:XK}
def cV:Throws (wG (XL P w) P w K mg base N qual scope f cd A outer s₀ H₀ E) fun x C dx H=>E (.ref C) (some dx) (off H x):=by
 intro ZY σ H s x C dx I hx hE;obtain⟨⟨t,ex⟩,_⟩:=I.hok x _ hx;have stk:=I.stack;have fre:=I.zG;have xs:x ∉ frs (envOfC qual scope s₀.heap.objs.size f cd::outer):=fun z=>by rw[fre x z] at hx;cases hx
 have hin:∀ env∈(envOfC qual scope s₀.heap.objs.size f cd::outer),∀ b,env.frame=some b->b∈x::frs (envOfC qual scope s₀.heap.objs.size f cd::outer):=fun env he b hb=>Vp _ (List.mem_filterMap.mpr ⟨env,he,hb⟩);have F:=PySem.W.funFrames_hide stk hin;show Vh (Vl P w) _ (leaving _ (.ref x)) _ _ s;refine FJ (B:=ach s.heap (x::frs (envOfC qual scope s₀.heap.objs.size f cd::outer))) (outer:=outer) (L:=s₀.heap.objs.size) I.ok.frames F U ex (fun b o e=>PySem.W.of_hideAll _ e) (PySem.W.hideAll_none _ Vm) fun h' F' u'=>?_;have inB:∀ b o,s.heap.get? b=some o->b≠x->b ∉ frs (envOfC qual scope s₀.heap.objs.size f cd::outer)->(ach s.heap (x::frs (envOfC qual scope s₀.heap.objs.size f cd::outer))).get? b=some o:=fun b o e h1 h2=>PySem.W.hideAll_get _ e fun z=>(List.mem_cons.mp z).elim h1 h2;have tk:∀ b u,H b=some u->b ∉ frs (envOfC qual scope s₀.heap.objs.size f cd::outer):=fun b u e z=>by rw[fre b z] at e;cases e
 have old:∀ b o,s₀.heap.get? b=some o->H₀ b=none->b ∉ frs outer->s.heap.get? b=some o/\H b=none/\b ∉ frs (envOfC qual scope s₀.heap.objs.size f cd::outer):=fun b o e n hb=>by
  refine⟨I.base.keep b o e n hb (fun z=>nomatch z),I.base.free b o e n (fun z=>nomatch z),fun z=>?_⟩;rcases List.mem_cons.mp (I.ux b z) with z | z;{have:=Vc (Vj e) I.ok.above;rw[z] at this;exact Wj _ this};{exact hb z}
 have nx:∀ b u,H b=some u->u≠xO x C (some dx)->b≠x:=fun b u e ne z=>by
  subst z;rw[hx] at e;exact ne (VV e).symm
 refine⟨x,C,dx,off H x,_,U,⟨I.os,I.bare,⟨F'.stay,F'.bx,F'.frs.2.2,F'.tr⟩,⟨fun b o e n hb _=>?_,fun b o e n hb _=>?_,fun b o e n _=>?_,fun b o e _=>?_,fun b xs' e=>?_,fun b o u e=>?_,fun b ps e=>?_⟩,?_,fun b o e n hb=>?_,fun b u e=>?_,if_pos U⟩,hE⟩;{obtain⟨e1,e2,e3⟩:=old b o e n hb;exact F'.stay b o (inB b o e1 (fun z=>by rw[z,hx] at e2;cases e2) e3)};{obtain⟨sl,e1⟩:=I.base.slot b o e n hb (fun z=>nomatch z);obtain⟨_,o',ho',nf⟩:=I.ok.uf.mem hb;have z:some o=some o':=e.symm.trans ho';cases z;obtain⟨sl',e2⟩:=u'.sl b _ e1 nf;exact⟨sl',e2⟩}
 ·have z:=I.base.free b o e n (fun z=>nomatch z);unfold off;split;{rfl};{exact z}
 ·obtain⟨o1,e1⟩:=I.base.there b o e (fun z=>nomatch z);exact u'.th b o1 e1
 ·have z:=I.base.tups b xs' e;rw[off_ne (nx b _ z (fun q=>nomatch q))];exact z
 ·have z:=I.base.frzs b o u e;rw[off_ne (nx b _ z (fun q=>nomatch q))];exact z
 ·obtain⟨more,z⟩:=I.base.tbls b ps e;exact⟨more,by rw[off_ne (nx b _ z (fun q=>nomatch q))];exact z⟩
 ·refine qC I.hok (fun b u e=>(vg e).2) (fun b a e=>by rw[off_ne (nx b _ e (fun q=>nomatch q))];exact e) (fun b xs' e=>by rw[off_ne (nx b _ e (fun q=>nomatch q))];exact e) fun b u o e q=>?_;obtain⟨h1,h2⟩:=vg e;exact F'.stay b o (inB b o q h1 (tk b u h2))
 ·obtain⟨e1,e2,e3⟩:=old b o e n hb;exact inB b o e1 (fun z=>by rw[z,hx] at e2;cases e2) e3
 ·obtain⟨h1,h2⟩:=vg e;obtain⟨o,e1⟩:=vh (I.hok b u h2);have e2:=inB b o e1 h1 (tk b u h2);exact⟨o,F'.stay b o e2,e2⟩
end
section
variable {P:Vt}{w:V2}{K:VG}{mg:VB->Option Value}{base:Wg}{N:List VB}{qual:VB}{scope:XF}{f:Addr}{cd:Value}{A:V1}{outer:List Env}{s₀:U8}{H₀:Hp}{E:XK}
def bF:Passes (XL P w) (wG (XL P w) P w K mg base N qual scope f cd A outer s₀ H₀ E) E:=by
 intro ZY σ H s e s' I hl;obtain⟨x,C,dx,H',B,rfl,Li,hE⟩:=hl;show Vh (Vl P w) _ (leaving _ (.ref x)) _ _ s';refine BL (outer:=outer) (L:=s₀.heap.objs.size) I.ok.frames U Li.fly fun h' F' u'=>?_;have old:∀ b o,s₀.heap.get? b=some o->H₀ b=none->b ∉ frs outer->s.heap.get? b=some o/\H b=none/\b ∉ frs (envOfC qual scope s₀.heap.objs.size f cd::outer):=fun b o e n hb=>by
  refine⟨I.base.keep b o e n hb (fun z=>nomatch z),I.base.free b o e n (fun z=>nomatch z),fun z=>?_⟩;rcases List.mem_cons.mp (I.ux b z) with z | z;{have:=Vc (Vj e) I.ok.above;rw[z] at this;exact Wj _ this};{exact hb z}
 have inS:∀ b,b∈frs outer->b∈frs (envOfC qual scope s₀.heap.objs.size f cd::outer):=fun b hb=>by
  obtain⟨en,h1,h2⟩:=List.mem_filterMap.mp hb;exact List.mem_filterMap.mpr ⟨en,Vp _ h1,h2⟩
 refine⟨x,C,dx,H',B,U,⟨Li.os.trans I.os,Li.bare,⟨F'.stay,F'.bx,F'.frs.2.2,F'.tr⟩,⟨fun b o e n hb _=>?_,fun b o e n hb _=>?_,fun b o e n _=>?_,fun b o e _=>?_,fun b xs' e=>Li.un.tups b xs' (I.base.tups b xs' e),fun b o u e=>Li.un.frzs b o u (I.base.frzs b o u e),fun b ps e=>?_⟩,?_,fun b o e n hb=>?_,fun b u e=>?_,Li.xn⟩,hE⟩;{obtain⟨e1,e2,e3⟩:=old b o e n hb;exact F'.stay b o (Li.kb b o e1 e2 e3)};{obtain⟨sl,e1⟩:=I.base.slot b o e n hb (fun z=>nomatch z);have n1:=I.base.free b o e n (fun z=>nomatch z);obtain⟨_,o',ho',nf⟩:=I.ok.uf.mem hb;have z:some o=some o':=e.symm.trans ho';cases z;obtain⟨sl1,e2⟩:=Li.un.slot b _ e1 n1 (inS b hb) (fun z=>nomatch z);obtain⟨sl2,e3⟩:=u'.sl b _ e2 nf;exact⟨sl2,e3⟩};{have n1:=I.base.free b o e n (fun z=>nomatch z);obtain⟨o1,e1⟩:=I.base.there b o e (fun z=>nomatch z);exact Li.un.free b o1 e1 n1 (fun z=>nomatch z)};{obtain⟨o1,e1⟩:=I.base.there b o e (fun z=>nomatch z);obtain⟨o2,e2⟩:=Li.un.there b o1 e1 (fun z=>nomatch z);exact u'.th b o2 e2};{obtain⟨m1,z⟩:=I.base.tbls b ps e;obtain⟨m2,z2⟩:=Li.un.tbls b _ z;exact⟨m1++m2,by rw[z2,aas]⟩};{refine qC Li.hok (fun _ _ e=>e) (fun _ _ e=>e) (fun _ _ e=>e) fun b u o e q=>?_;obtain⟨o',e1,e2⟩:=Li.hb b u e;rw[e1] at q;cases q;exact F'.stay b _ e2};{obtain⟨e1,e2,e3⟩:=old b o e n hb;exact Li.kb b o e1 e2 e3};{obtain⟨o',e1,e2⟩:=Li.hb b u e;exact⟨o',F'.stay b _ e2,e2⟩}
end
def Lie.on {P:Vt}{w:V2}{l:DB}{H H':Hp}{s s':U8}{x C dx:Addr}{B B0 h':Wg}(Li:Lie P w l H s x C dx H' B s')(F':Fly B l x C dx .none h')(u':Up s'.heap h')(ff:s.heap.FunFrames B0 l) :
  Lie P w l H s x C dx H' B { s' with heap:=h' }:=by
 refine⟨Li.os,Li.bare,F',⟨fun b o e n hb _=>F'.stay b o (Li.kb b o e n hb),fun b o e n hb _=>?_,fun b o e n _=>Li.un.free b o e n (fun z=>nomatch z),fun b o e _=>?_,Li.un.tups,Li.un.frzs,Li.un.tbls⟩,?_,Li.kb,fun b u e=>?_,Li.xn⟩;{obtain⟨sl,e2⟩:=Li.un.slot b o e n hb (fun z=>nomatch z);obtain⟨_,o',ho',nf⟩:=ff.mem hb;have z:some o=some o':=e.symm.trans ho';cases z;obtain⟨sl2,e3⟩:=u'.sl b _ e2 nf;exact⟨sl2,e3⟩};{obtain⟨o2,e2⟩:=Li.un.there b o e (fun z=>nomatch z);exact u'.th b o2 e2};{refine qC Li.hok (fun _ _ e=>e) (fun _ _ e=>e) (fun _ _ e=>e) fun b u o e q=>?_;obtain⟨o',e1,e2⟩:=Li.hb b u e;rw[e1] at q;cases q;exact F'.stay b _ e2};{obtain⟨o',e1,e2⟩:=Li.hb b u e;exact⟨o',F'.stay b _ e2,e2⟩}
def cO (x C dx:Addr):HO:=.ext fun h=>∃ vs sl,h.get? x=some { cls:=.ref C,dict:=some dx,data:=.fields vs,slots:=sl }
def RP {P:Vt}{w:V2}{H:Hp}{h:Wg}{x C dx:Addr}{vs:Array Value}{sl:Array (C5)}(e:h.get? x=some { cls:=.ref C,dict:=some dx,data:=.fields vs,slots:=sl }):dN P w H h x (cO x C dx) :=
 ⟨⟨vs,sl,e⟩,⟨_,e⟩,fun h1 h2 ⟨vs',sl',e'⟩ k=>⟨vs',sl',k _ e'⟩⟩
abbrev Cx.marked (X:Cx)(x:Addr):Cx:={ X with A:=X.A.mark (some (.ref x)),calm:=false,xe:=fun _ _=>False }
def Cx.Ok.marked {X:Cx}(ok:X.Ok)(x:Addr):(X.marked x).Ok :=
 ⟨ok.mod,ok.kind,ok.glob,ok.blt,ok.above,ok.inj,ok.has,ok.cab,(fun z=>nomatch z),ok.frames,ok.stk,ok.exf,ok.bs,ok.bsz,ok.noex,ok.exfs,ok.uf,ok.frf⟩
def Cx.Ok.unmarked {X:Cx}{x:Addr}(hd:X.calm=true->X.A.handled=none)(ok:(X.marked x).Ok):X.Ok :=
 ⟨ok.mod,ok.kind,ok.glob,ok.blt,ok.above,ok.inj,ok.has,ok.cab,hd,ok.frames,ok.stk,ok.exf,ok.bs,ok.bsz,ok.noex,ok.exfs,ok.uf,ok.frf⟩
section
variable {X:Cx}{ZY:C1}{σ:St}{H H':Hp}{s s':U8}{x C dx:Addr}{B:Wg}
def Inv.marked (I:Inv X ZY σ H s)(x:Addr):Inv (X.marked x) ZY σ H s:=⟨I.ok.marked x,I.os,I.bare,I.base,I.loc,I.cell,I.free,I.freeC,I.pin,I.hok,I.len⟩
def Inv.unmarked (I:Inv (X.marked x) ZY σ H s)(hd:X.calm=true->X.A.handled=none):Inv X ZY σ H s:=⟨I.ok.unmarked hd,I.os,I.bare,I.base,I.loc,I.cell,I.free,I.freeC,I.pin,I.hok,I.len⟩
def Lie.back (I:Inv X ZY σ H s)(Li:Lie X.prog X.w X.stack H s x C dx H' B s'):Inv X ZY σ (upd H' x (cO x C dx)) s':=by
 have J:=I.call' (s':=s') (ch:=[]) Li.os Li.un Li.hok Li.bare (fun b z=>nomatch z);obtain⟨vs,T,oT,ts,sl,ex,_⟩:=Li.fly.tr;have xs:x ∉ frs X.stack:=fun z=>by
  obtain⟨_,o,ho,nf⟩:=Li.fly.frs.mem z;rw[ex] at ho;cases ho;exact nf vs U
 have xl:x≠X.env.locals:=fun z=>by
  obtain⟨m,⟨o,es,ep,e,d,_⟩,_⟩:=J.loc;rw[← z,ex] at e;cases e;cases d
 have out:∀ b o,s.heap.get? b=some o->H b=none->b≠x:=fun b o e n z=>by
  subst z;have:=Li.kb b o e n xs;rw[Li.fly.bx] at this;cases this
 have hne:∀ b u,H' b=some u->b≠x:=fun b u e z=>by
  rw[z,Li.xn] at e;cases e
 refine⟨J.ok,J.os,J.bare,⟨J.base.keep,J.base.slot,fun b o e n he=>?_,J.base.there,fun b xs' e=>?_,fun b o u e=>?_,fun b ps e=>?_⟩,J.loc,J.cell,?_,fun y c e=>?_,fun p hp=>?_,?_,J.len⟩;{have n1:=I.base.free b o e n he;obtain⟨o1,e1⟩:=I.base.there b o e he;rw[aF (out b o1 e1 n1)];exact J.base.free b o e n he};{have z:=J.base.tups b xs' e;rw[aF (hne b _ z)];exact z};{have z:=J.base.frzs b o u e;rw[aF (hne b _ z)];exact z};{obtain⟨m,z⟩:=J.base.tbls b ps e;exact⟨m,by rw[aF (hne b _ z)];exact z⟩};{rw[aF (Wz xl)];exact J.free}
 ·obtain⟨v,o,ho,hd⟩:=J.cell y c e;have:c≠x:=fun z=>by
   rw[z,ex] at ho;cases ho;cases hd
  rw[aF this];exact J.freeC y c e
 ·obtain⟨e1,e2,e3⟩:=J.pin p hp;obtain⟨i1,i2,i3⟩:=I.pin p hp;refine⟨e1,?_,e3⟩;rw[aF (out _ _ i1 i2)];exact e2
 ·intro b u e;by_cases hb:b=x;{subst hb;rw[aa] at e;cases e;exact RP ex}
  ·rw[aF hb] at e;refine (J.hok b u e).stay (fun _ _ _ q=>q) (fun c q=>?_) fun c xs' q=>?_;{rw[aF (hne c _ q)];exact q};{rw[aF (hne c _ q)];exact q}
end
structure XRd (K:Vi)(C G:Addr)(f:VB):Prop where
 obj:∃ nm q N bs bm hdct sn sub ab col dd k0 k1 k2 k3 k5 id,K.lookup C=some (Yr nm q C N bs bm hdct sn sub ab col dd k0 k1 k2 k3 k5 id)/\(Vq C::bm).contains (.ref G)=true
 top:∃ nm q N bs bm hdct sn sub ab col dd k0 k1 k2 k3 k5 id,K.lookup G=some (Yr nm q G N bs bm hdct sn sub ab col dd k0 k1 k2 k3 k5 id)/\bm.contains (.type "BaseException")=true
 ga:Wu K (.ref C) "__getattribute__" = some (some (.builtin "BaseException.__getattribute__"))
 gh:Wu K (.ref C) "__getattr__" = some none
 up:∃ cd,PySem.W.clsIn K C=some cd/\t8 cd.mro=true
 hd:YK K C=true
 no:Wu K (.ref C) f=some none
section
variable {M:Model}{A:V1}{E:C4}{K:VG}{s:U8}{C G x dx:Addr}{f:VB}{vs:Array Value}{sl:Array (C5)}
def Hw {Q:Bool->U8->Prop}(X:K.In s.heap)(R:XRd K C G f)(he:s.heap.get? x=some { cls:=.ref C,dict:=some dx,data:=.fields vs,slots:=sl })(hq:Q true s):Vh M A (excMatches (.ref x) (.ref G)) Q E s:=by
 obtain⟨n1,q1,N1,bs1,bm1,hd1,sn1,sub1,ab1,col1,dd1,a0,a1,a2,a3,a5,id1,l1,c1⟩:=R.obj;obtain⟨n2,q2,N2,bs2,bm2,hd2,sn2,sub2,ab2,col2,dd2,b0,b1,b2,b3,b5,id2,l2,c2⟩:=R.top;have h1:=X _ _ l1;have h2:=X _ _ l2;have cB:(Vq G::bm2).contains (.type "BaseException")=true:=by rw[Xl,c2,Zj]
 have nt:=tc_notTuple;obtain⟨hp,g,d,tk,os⟩:=s;unfold excMatches
 repeat (first | with_reducible refine W9 he ?_ | with_reducible refine W9 h2 ?_ | (with_reducible refine XN h2 ?_;rw[cB]) | (with_reducible refine XN h1 ?_;rw[c1]) | wp_step)
 exact hq
end
theorem wO:∀ {l:C9},t8 l=true->l.contains (.type "BaseException")=true
 | [],h=>by cases h
 | a::r,h=>by
  rcases lM h with⟨c,rfl,h'⟩ | e;{rw[Xl,wO h',Zj]};{rw[e];rfl}
section
variable {prog:Vt}{w:V2}{A:V1}{E:C4}{K:VG}{s:U8}{C G x:Addr}{ox:Xz}{od:Option Xz}{f:VB}{expr:Bool}{v:Value}
def NB {Q:C4}(X:K.In s.heap)(R:XRd K C G f)(I:W.InstAt s.heap x ox C od)(hf:W.findObj K C od f=some (.value v))(hh:W.handedIn v=true)(h:Q v { s with toks:=s.toks+1 }) :
  Vh (Vl prog w) A (getAttr (.ref x) f expr) Q E s:=by
 obtain⟨cd,hc,hu⟩:=R.up;have ne:cd.mro.isEmpty=false:=by cases q:cd.mro with | nil=>rw[q] at hu;cases hu | cons _ _=>rfl
 have sub:abv (Vl prog w) s.heap (isInstance (.ref x) (.type "BaseException")) true:=I.type.andThen (PySem.W.looks_mroIn X (by unfold PySem.W.mroIn;rw[hc,Option.bind_some,if_neg (by rw[ne];decide),wO hu]));have L0:=I.type (M:=Vl prog w);have L1:=Y8 (M:=Vl prog w) X R.ga;have L2:=Y8 (M:=Vl prog w) X R.gh;have L3:=PySem.W.looks_find (M:=Vl prog w) X I hf;obtain⟨hp,g,d,t,os⟩:=s;unfold getAttr getAttrBy;refine U6 (wpAny_mkText (Ww (U6 (L0.at (U6 (L1.at ?_))))));show Vh _ _ (if (onTheHeap (Vq C) && (abu "BaseException.__getattribute__" == abu "object.__getattribute__"))=true then _ else getAttrByItsOwn (.ref x) (.str f t) (.ref C) (.builtin "BaseException.__getattribute__") true expr) _ _ _
 have nb:(abu "BaseException.__getattribute__" == abu "object.__getattribute__")=false:=by decide+kernel
 rw[nb,Ze,if_neg Ve];unfold getAttrByItsOwn;refine U6 (m:=hookBefore (.ref C)) (show Vh _ _ (aak (.ref C) "__getattr__") _ _ _ from L2.at ?_);refine U6 (Zq (Ww ?_));have ec:callGetattribute (.ref x) (.str f t) (.builtin "BaseException.__getattribute__") expr=boundAndCalled (.builtin "BaseException.__getattribute__") (.ref x) (.str f t):=by
  unfold callGetattribute;rw[if_neg (by cases expr <;> decide)]
 rw[ec];unfold boundAndCalled;rw[PySem.F.attr_ValueError.ga.bind (.ref x)];refine U6 (Va (YT (YX PySem.F.attr_ValueError.ga.plain PySem.F.entry_bexc_ga (@PySem.W.check_slot (Vl prog w) _ _ ⟨hp,g,d,t+1,os⟩ "BaseException.__getattribute__" "BaseException" "__getattribute__" (.ref x) [.str f t] [] _ (by decide+kernel) (by decide+kernel) sub (PySem.F.args_bexc_ga _ _) ?_))));unfold Yw.«object.__getattribute__»;refine U6 (Va (U6 (Va (U6 (L0.at (U6 (L3.at ?_)))))));refine Va ?_;show Vh _ _ (handedOut v) _ _ _;rw[PySem.W.handedOut_of hh];exact Va h
end
section
variable {X:Cx}{e:Expr}{f:VB}{pos:YS}{ta:TE}
def Qa (K:VG)(ta:TE)(f:VB):TE:=fun σ H Q=>ta σ H fun x H1=>∃ a C G dx fs v,x = .ref a/\H1 a=some (cO a C dx)/\H1 dx=some (.xd fs)/\XRd K C G f/\fs.lookup f=some v/\Q v H1
def Nm (he:PE X e ta)(hb:Yy e f X.env (Wy e X.env)=Wy e X.env):PE X (.Attribute e f pos) (Qa X.K ta f):=by
 intro ZY s σ H Q I h;refine Gh hb (thn (he ZY s σ H _ I h) fun u s1 ⟨x,H1,I1,rx,a,C,G,dx,fs,v,ex,ea,ed,R,l,q⟩=>?_);subst ex;obtain rfl:u=Vq a:=rx;obtain⟨⟨vs,sl,e0⟩,_⟩:=I1.hok a _ ea;obtain⟨mA,N,r⟩:=I1.hok dx _ ed;obtain⟨u,hu,ru⟩:=ue.some_of (v:=v) (o:=mA f) (by rw[← l];exact r f);obtain⟨od,ho,hl⟩:=xW N;have J:PySem.W.InstAt s1.heap a { cls:=.ref C,dict:=some dx,data:=.fields vs,slots:=sl } C (some od):=⟨e0,U,U,ho⟩;exact NB I1.kIn R J (PySem.W.findObj_own R.hd R.no U (by rw[hl,hu])) (wV ru) ⟨v,H1,I1.tok _,ru,q⟩
end
def Inv.forget {X:Cx}{ZY:C1}{σ:St}{H:Hp}{s:U8}{h':Wg}{m':VB->C5}{tk:Nat}(I:Inv X ZY σ H s)(hn:h'.Ns X.env.locals m')(hs:Yv X.env.locals s.heap h') :
  Inv X ZY (VM X.N.length none) H { s with heap:=h',toks:=tk }:=by
 have old:∀ b o,X.s₀.heap.get? b=some o->b≠X.env.locals:=fun b o e=>Vw (Vc (Vj e) I.ok.above);refine⟨I.ok,I.os,I.bare,⟨fun b o e n hb hx=>(hs.2 b (old b o e)).trans (I.base.keep b o e n hb hx),fun b o e n hb hx=>?_,I.base.free,fun b o e hx=>?_,I.base.tups,I.base.frzs,I.base.tbls⟩,⟨m',hn,fun j y v e1 e2=>?_⟩,fun y c e=>?_,I.free,I.freeC,fun p hp=>?_,fun b ob e=>?_,by simp⟩;{obtain⟨sl,e1⟩:=I.base.slot b o e n hb hx;exact⟨sl,(hs.2 b (old b o e)).trans e1⟩};{obtain⟨o',e1⟩:=I.base.there b o e hx;exact⟨o',(hs.2 b (old b o e)).trans e1⟩};{rw[aaI] at e2;split at e2 <;> cases e2}
 ·obtain⟨v,z⟩:=I.cell y c e;exact⟨v,z.sameBut hs (I.cne y c e)⟩
 ·obtain⟨e1,e2,e3,e4⟩:=I.pin p hp;exact⟨(hs.2 _ e3).trans e1,e2,e3,e4⟩
 ·refine (I.hok b ob e).stay (fun c o hc q=>(hs.2 c ?_).trans q) (fun _ q=>q) fun _ _ q=>q;rintro rfl;rcases hc with rfl | hc;{rw[I.free] at e;cases e};{rw[I.free] at hc;cases hc}
section
variable {X:Cx}{ZY:C1}{σ:St}{H H':Hp}{s s':U8}{x C G dx:Addr}{B:Wg}{c n f:VB}{p p1 p2 p3 p4 pos:YS}{k:Nat}{i:Nat}{D:Ends}{fs:List (VB × V)}{v:V}
def Ib (I:Inv X ZY σ H s)(Li:Lie X.prog X.w X.stack H s x C dx H' B s')(stk:X.stack=X.env::X.outer/\X.env.frame=some X.env.locals)(R:XRd X.K C G f)(hg:Gl X c)(hm:X.mg c=some (.ref G))(hN:X.N.Nodup)(hi:X.N[i]? = some n)
  (hl:X.env.scope.names.lookup n=some .local) (ed:H' dx=some (.xd fs)) (l:fs.lookup f=some v) (q:∀ (u:HO) (a:Addr),upd H' x u a=none->D.rt (.ref a) (upd (upd H' x u) a (.tup [v])))
  (hd:(c == ("__debug__" : VB))=false:=by decide) (hd1:(n == ("__debug__" : VB))=false:=by decide) (hd2:(n == ("__classdict__" : VB))=false:=by decide) :
  Vh (Vl X.prog X.w) X.A (aaf (.ref x) X.env) (fun _ s2=>Vh (Vl X.prog X.w) X.A (setFlight (.ref x) none) (fun _ s3 =>
   Vh (Vl X.prog X.w) X.A (handleBy (.ref x) X.env [.ExceptHandler (some (.Name c p)) (some n) [.Return (some (.Tuple [.Attribute (.Name n p1) f p2] k p3)) p4] pos]) (SP X ZY D) X.xe s3) X.xe s2) X.xe s':=by
 have fr:X.A.frames=some (X.env::X.outer):=by rw[I.ok.frames,stk.1]
 have fl0:Fly B (X.env::X.outer) x C dx .none s'.heap:=stk.1▸Li.fly;refine Cq fr stk.2 fl0 fun h1 F1 u1=>?_;refine qK (s:={ s' with heap:=h1 }) F1 fun h2 F2 u2=>?_;have fl2:Fly B X.stack x C dx .none h2:=stk.1.symm▸F2;have L2:=Li.on fl2 (u1.trans u2) I.stack;have I2:=(L2.back I).marked x;obtain⟨vs,T,oT,ts,sl,ex2,_⟩:=F2.tr;refine wpAny_handleBy_cons (codeAny_handlers_test ?_) (by intro q;cases q);refine jQ I2 hg hm ?_ hd;refine Hw I2.kIn R ex2 ?_;rw[if_pos U];refine codeAny_handlers_suite_as ?_;refine qK (s:={ s' with heap:=h2 }) F2 fun h3 F3 u3=>?_;have fl3:Fly B X.stack x C dx .none h3:=stk.1.symm▸F3;have L3:=Li.on fl3 ((u1.trans u2).trans u3) I.stack;have I3:=(L3.back I).marked x;refine uF (X:=X.marked x) (v:=.ref x) I3 hN hi (.inl hl) U (fun s4 I4=>?_) (.inr hl);have hiσ:i < σ.length:=by
  have:=I.len;rw[this];exact (List.getElem?_eq_some_iff.mp hi).1
 have dxx:dx≠x:=fun z=>by
  rw[z,Li.xn] at ed;cases ed
 have P:PSs (X.marked x) [.Return (some (.Tuple [.Attribute (.Name n p1) f p2] k p3)) p4] (RC (Rn (o4 (Qa X.K (vW i) f) wM))) :=
  aB (FT (aP (aq (Nm (Mu (X:=X.marked x) hi (.inl hl) hd1 hd2) U) cQ)))
 refine Wc (P ZY s4 (σ.set i (some (.ref x))) _ { nx:=fun _ _=>False,rt:=D.rt } I4 ?_) (fun fl s5 h5=>?_) fun _ _ z=>z.elim;{refine⟨.ref x,ZL hiσ,⟨x,C,G,dx,fs,v,U,aa,(aF dxx).trans ed,R,l,?_⟩⟩;exact⟨by rw[ab9];show 1<=_;lia,fun a ha=>q _ a ha⟩}
 ·cases fl with
  | next=>obtain⟨_,_,_,z⟩:=h5;exact V9 z
  | brk=>obtain⟨_,_,_,z⟩:=h5;exact V9 z
  | cont=>obtain⟨_,_,_,z⟩:=h5;exact V9 z
  | ret u =>
   obtain⟨v5,σ5,H5,I5,r5,q5⟩:=h5;have J5:Inv X ZY σ5 H5 s5:=I5.unmarked I.ok.hd;obtain⟨m,hn,_⟩:=id J5.loc;exact wpAny_nameGoes hl hn (by rw[I.ok.kind];rfl) fun h6 m6 hn6 hs6=>⟨v5,_,H5,J5.forget hn6 hs6,r5,q5⟩
end
abbrev Cx.held (X:Cx)(pn:C1)(E:C4):Cx:={ X with pn:=pn,xe:=E }
section
variable {X:Cx}{ZY ps qs:C1}{σ:St}{H:Hp}{s:U8}{E:C4}
def Inv.hold (I:Inv X ZY σ H s):Inv (X.held (X.pn++ZY) E) [] σ H s :=
 ⟨⟨I.ok.mod,I.ok.kind,I.ok.glob,I.ok.blt,I.ok.above,I.ok.inj,I.ok.has,I.ok.cab,I.ok.hd,I.ok.frames,I.ok.stk,I.ok.exf,I.ok.bs,I.ok.bsz,I.ok.noex,I.ok.exfs,I.ok.uf,I.ok.frf⟩,I.os,I.bare,I.base,I.loc,I.cell,I.free,I.freeC,fun p hp=>I.pin p (by simpa using hp),I.hok,I.len⟩
def Inv.sV (I:Inv (X.held (X.pn++ZY) E) qs σ H s):Inv X ZY σ H s :=
 ⟨⟨I.ok.mod,I.ok.kind,I.ok.glob,I.ok.blt,I.ok.above,I.ok.inj,I.ok.has,I.ok.cab,I.ok.hd,I.ok.frames,I.ok.stk,I.ok.exf,I.ok.bs,I.ok.bsz,I.ok.noex,I.ok.exfs,I.ok.uf,I.ok.frf⟩,I.os,I.bare,I.base,I.loc,I.cell,I.free,I.freeC,fun p hp=>I.pin p (Z4 _ hp),I.hok,I.len⟩
def SP.sV {D:Ends}{f:Flow}(h:SP (X.held (X.pn++ZY) E) qs D f s):SP X ZY D f s:=by
 cases f with
 | next=>obtain⟨a,b,I,q⟩:=h;exact⟨a,b,I.sV,q⟩
 | brk=>obtain⟨a,b,I,q⟩:=h;exact⟨a,b,I.sV,q⟩
 | cont=>obtain⟨a,b,I,q⟩:=h;exact⟨a,b,I.sV,q⟩
 | ret u=>obtain⟨v,a,b,I,r,q⟩:=h;exact⟨v,a,b,I.sV,r,q⟩
end
def XW (K:VG)(G:Addr)(f:VB)(R:VK):XK:=fun Cv dx' H=>∃ C dx fs v,Cv = .ref C/\dx'=some dx/\XRd K C G f/\H dx=some (.xd fs)/\fs.lookup f=some v/\∀ (x:Addr) (u:HO) (a:Addr),H x=none->upd H x u a=none->R (.ref a) (upd (upd H x u) a (.tup [v]))
def Uq (K:VG)(G:Addr)(f:VB)(t:XK->TS):TS:=fun D σ H=>t (XW K G f D.rt) D σ H
section
variable {X:Cx}{G:Addr}{c n f:VB}{p p1 p2 p3 p4 pos pos':YS}{k:Nat}{body:DA}{t:XK->TS}
def Qx (i:Nat)(stk:X.stack=X.env::X.outer/\X.env.frame=some X.env.locals)(hg:Gl X c)(hm:X.mg c=some (.ref G))(hN:X.N.Nodup)(hi:X.N[i]? = some n)(hl:X.env.scope.names.lookup n=some .local)
  (hb:∀ (pn:C1) (E:C4) (W:XK),Passes (XL X.prog X.w) (X.held pn E) W->PSs (X.held pn E) body (t W))
  (hd:(c == ("__debug__" : VB))=false:=by decide) (hd1:(n == ("__debug__" : VB))=false:=by decide) (hd2:(n == ("__classdict__" : VB))=false:=by decide) :
  PS X (.Try body [.ExceptHandler (some (.Name c p)) (some n) [.Return (some (.Tuple [.Attribute (.Name n p1) f p2] k p3)) p4] pos] [] [] pos') (Uq X.K G f t):=by
 intro ZY s σ H D I h;refine wpAny_Try_except ?_
 let E:C4:=fun e s'=>∃ (ZY':C1) (σ':St) (H1:Hp) (s1:U8),Inv X ZY σ' H1 s1/\XL X.prog X.w X.stack H1 s1 (XW X.K G f D.rt) e s'
 have P:Passes (XL X.prog X.w) (X.held (X.pn++ZY) E) (XW X.K G f D.rt):=fun ZY' σ' H1 s1 e s' J q=>⟨ZY',σ',H1,s1,J.sV,q⟩;refine Wc (hb _ E _ P [] s σ H D I.hold h) (fun fl s1 q=>?_) fun e s1 q=>?_
 ·have q':=q.sV;cases fl with
  | next=>exact aaW q'
  | brk=>exact q'
  | cont=>exact q'
  | ret u=>exact q'
 ·obtain⟨_,σ',H1,s0,J,x,C,dx,H',B,rfl,Li,C',dx',fs,v,e1,e2,R,ed,l,w⟩:=q;cases e1;cases e2;exact Ib J Li stk R hg hm hN hi hl ed l (fun u a ha=>w x u a Li.xn ha) hd hd1 hd2
end
def Kv {X:Cx}{E:XK}(st:X.stack=X.env::X.outer/\X.env.frame=some X.env.locals)(hex:X.ex=[])
  (hxe:∀ e s',Vh (Vl X.prog X.w) X.A (leaving X.env e) (fun _ s2=>XL X.prog X.w X.outer X.H₀ X.s₀ E e s2) (fun e2 s2=>XL X.prog X.w X.outer X.H₀ X.s₀ E e2 s2) s'->X.xe e s'):Passes (XL X.prog X.w) X E:=by
 intro ZY σ H s e s' I hl;obtain⟨x,C,dx,H',B,rfl,Li,hE⟩:=hl;have nex:∀ b,b ∉ X.ex:=fun b z=>by
  rw[hex] at z;cases z
 have fl0:Fly B (X.env::X.outer) x C dx .none s'.heap:=st.1▸Li.fly;refine hxe _ _ (BL (outer:=X.outer) (by rw[I.ok.frames,st.1]) st.2 fl0 fun h' F' u'=>?_);have old:∀ b o,X.s₀.heap.get? b=some o->X.H₀ b=none->b ∉ X.fs->s.heap.get? b=some o/\H b=none/\b ∉ frs X.stack:=fun b o e n hb=>by
  refine⟨I.base.keep b o e n hb (nex b),I.base.free b o e n (nex b),fun z=>?_⟩;rcases List.mem_cons.mp (I.ux b z) with z | z;{have:=Vc (Vj e) I.ok.above;rw[z] at this;exact Wj _ this};{exact hb z}
 have inS:∀ b,b∈X.fs->b∈frs X.stack:=fun b hb=>by
  obtain⟨en,h1,h2⟩:=List.mem_filterMap.mp hb;rw[st.1];exact List.mem_filterMap.mpr ⟨en,Vp _ h1,h2⟩
 refine⟨x,C,dx,H',B,U,⟨Li.os.trans I.os,Li.bare,⟨F'.stay,F'.bx,F'.frs.2.2,F'.tr⟩,⟨fun b o e n hb _=>?_,fun b o e n hb _=>?_,fun b o e n _=>?_,fun b o e _=>?_,fun b l e=>Li.un.tups b l (I.base.tups b l e),fun b o u e=>Li.un.frzs b o u (I.base.frzs b o u e),fun b ps e=>?_⟩,?_,fun b o e n hb=>?_,fun b u e=>?_,Li.xn⟩,hE⟩;{obtain⟨e1,e2,e3⟩:=old b o e n hb;exact F'.stay b o (Li.kb b o e1 e2 e3)};{obtain⟨sl,e1⟩:=I.base.slot b o e n hb (nex b);have n1:=I.base.free b o e n (nex b);obtain⟨_,o',ho',nf⟩:=I.ok.uf.mem hb;have z:some o=some o':=e.symm.trans ho';cases z;obtain⟨sl1,e2⟩:=Li.un.slot b _ e1 n1 (inS b hb) (fun z=>nomatch z);obtain⟨sl2,e3⟩:=u'.sl b _ e2 nf;exact⟨sl2,e3⟩};{obtain⟨o1,e1⟩:=I.base.there b o e (nex b);exact Li.un.free b o1 e1 (I.base.free b o e n (nex b)) (fun z=>nomatch z)};{obtain⟨o1,e1⟩:=I.base.there b o e (nex b);obtain⟨o2,e2⟩:=Li.un.there b o1 e1 (fun z=>nomatch z);exact u'.th b o2 e2};{obtain⟨m1,z⟩:=I.base.tbls b ps e;obtain⟨m2,z2⟩:=Li.un.tbls b _ z;exact⟨m1++m2,by rw[z2,aas]⟩};{refine qC Li.hok (fun _ _ e=>e) (fun _ _ e=>e) (fun _ _ e=>e) fun b u o e q=>?_;obtain⟨o',e1,e2⟩:=Li.hb b u e;rw[e1] at q;cases q;exact F'.stay b _ e2};{obtain⟨e1,e2,e3⟩:=old b o e n hb;exact Li.kb b o e1 e2 e3};{obtain⟨o',e1,e2⟩:=Li.hb b u e;exact⟨o',F'.stay b _ e2,e2⟩}
def zO (CX:CXT)(P:Vt)(w:V2)(K:VG)(mg:VB->C5)(base:Wg)(N:DF)(qual:VB)(scope:XF)(f:Addr)(cd:Value)(cl:C2)(A:V1)(outer:DB)(s:U8)(H:Hp)(E:XK):Cx :=
 let env:=PySem.W.envX qual scope s.heap.objs.size f cd cl
 {prog:=P,w:=w,K:=K,mg:=mg,base:=base,A:=A.deeper env,N:=N,s₀:=s,H₀:=H,env:=env,outer:=outer,stack:=env::outer,ex:=[],calm:=true,fn:=fun _=>false,pn:=[],
  xe:=fun e s'=>Vh (Vl P w) (A.deeper env) (leaving env e) (fun _ s2=>CX outer H s E e s2) (fun e2 s2=>CX outer H s E e2 s2) s' }
def DG {P:Vt}{w:V2}{K:VG}{mg:VB->C5}{base:Wg}{N:DF}{qual:VB}{scope:XF}{f:Addr}{cd:Value}{cl:C2}{A:V1}{outer:DB}{s:U8}{H:Hp}{E:XK} :
  Passes (XL P w) (zO (XL P w) P w K mg base N qual scope f cd cl A outer s H E) E :=
 Kv (X:=zO (XL P w) P w K mg base N qual scope f cd cl A outer s H E) ⟨U,U⟩ U fun _ _ z=>z
structure Q7 (N:DF)(sc:XF):Prop where
 kind:sc.kind = .function
 co:sc.isCoroutine=false
 gen:sc.isGenerator=false
 cell:∀ y∈sc.names,y.2≠.cell
 fr:∀ x∈N,sc.names.lookup x=some .free
structure U5 (N:DF)(sc:XF)(cl:C2)(σ:St)(H:Hp)(h:Wg):Prop where
 inj:∀ x y c,cl.lookup x=some c->cl.lookup y=some c->x=y
 has:∀ y∈sc.names,y.2 = .free->∃ c,cl.lookup y.1=some c
 cells:∀ x c,cl.lookup x=some c->(∃ v,h.IsCell c v)/\H c=none
 vals:∀ (i:Nat) (x:VB) (v:V),N[i]? = some x->σ[i]? = some (some v)->∃ c u,cl.lookup x=some c/\h.IsCell c (some u)/\RelV v u
 len:σ.length=N.length
def Oq {CX:CXT}{P:Vt}{w:V2}{K:VG}{mg:VB->C5}{base:Wg}{k:Nat}{N:DF}{name qual:VB}{params:abj}{body:Expr}{scope:XF}{cl:C2}{pm ctv:Value}{c' f:Addr}{A:V1}{outer:DB}{s:U8}{σ:St}{H:Hp}{Q:VK}{E:XK}{te:TE}
  (hr:d9 (k+1) A) (e0:Jk P w K mg base A outer s H) (ho:s.heap.get? f=some (W.kla_obj name qual params body scope cl pm c' ctv)) (hcd:s.heap.CodeRec (.ref c') qual)
  (hb:YZ (W.kla_fn name qual params body scope cl pm (.ref c') ctv) ⟨[],[]⟩=pure []) (S:Q7 N scope) (C:U5 N scope cl σ H s.heap)
  (hp:PE (zO CX P w K mg base N qual scope f (.ref c') cl A outer s H E) body te) (h:te σ H Q):WK (Vl P w) A (.call (.ref f) ⟨[],[]⟩) (CR CX outer P w H s Q E) s:=by
 have lim:s.heap.NoLimit:=e0.mod.nolimit.keeps fun b o e=>(e0.bs b o e).1;refine PySem.W.kla_callFunE hr.depth ho U S.co S.gen U hcd ?_;rw[hb];refine Va (aa6 S.cell (fun y hy=>nomatch hy) (fun h1 ns sb=>⟨lim.fresh _ sb,?_⟩) S.kind);have kp:∀ b o,s.heap.get? b=some o->h1.get? b=some o:=fun b o e=>sb.extBut b o (Vw (Vj e)) (U9 _ e);have noA:∀ b:Addr,b ∉ (zO CX P w K mg base N qual scope f (.ref c') cl A outer s H E).ex:=fun b z=>nomatch z;have I:Inv (zO CX P w K mg base N qual scope f (.ref c') cl A outer s H E) [] σ H { s with heap:=h1,toks:=s.toks+0 }:=by
  refine⟨⟨e0.mod,S.kind,U,U,Vb _,C.inj,fun y hy=>?_,fun y c z=>absurd (show false=true from z) Ve,fun _=>hr.hd,Around.frames_deeper e0.frames,.inr ⟨U,U⟩,fun b z=>absurd z (noA b),e0.bs,e0.bsz,fun b _ _=>noA b,fun b z=>absurd z (noA b),e0.uf,e0.frf⟩,
   rfl,e0.bare,Un.kept kp,⟨_,ns,fun i y v q1 q2 _=>?_⟩,fun y c e=>?_,e0.hok.fresh (Vb _),fun y c e=>(C.cells y c e).2,(fun p z=>nomatch z),e0.hok.kept kp,C.len⟩
  ·rcases hy with hy | hy;{exact absurd U (S.cell _ (Ws (show scope.names.lookup y=some .cell from hy)))};{exact C.has _ (Ws (show scope.names.lookup y=some .free from hy)) U}
  ·obtain⟨c,u,e1,⟨o,e2,e3⟩,r⟩:=C.vals i y v q1 q2;exact⟨u,r,.inr ⟨.inr (S.fr y (Vy q1)),c,e1,o,kp _ _ e2,e3⟩⟩
  ·obtain⟨⟨v,o,e1,e2⟩,_⟩:=C.cells y c e;exact⟨v,o,kp _ _ e1,e2⟩
 refine PySem.W.kla_codeExpr (Wc (hp [] _ σ H Q I h) (fun u s2 z=>?_) fun e s2 z=>z);obtain⟨v,H',J,r,q⟩:=z;exact⟨v,H',J.os,J.bare,J.base,J.hok,r,q⟩
section
variable {CX:CXT}{P:Vt}{w:V2}{K:VG}{mg:VB->C5}{base:Wg}{k:Nat}
def Q8 {x qual:VB}{st:Stmt}{f:Addr}{fd:Wh}{N ps:DF}{A:V1}{outer:DB}{s:U8}{H:Hp}{us:C9}{vs:List V}{Q:VK}{E:XK}(F:Fun K x qual st f fd)(S:aD N ps (az st))(hr:d9 (k+1) A)(e0:Jk P w K mg base A outer s H)
  (hb:∀ (kV doc pm:Value) (an:C7) (cdv ct:Value),YZ (aa8 x qual (cY st) (bG st) (az st) .none kV doc pm an cdv ct) ⟨us,[]⟩=pure (ps.zip us)) (r:Vals vs us) (hl:vs.length=ps.length)
  (ht:∀ cdv,∃ t,PSs (wG CX P w K mg base N qual (az st) f cdv A outer s H E) (bG st) t/\t { nx:=fun _ H'=>Q .non H',rt:=Q } (start N vs) H) :
  WK (Vl P w) A (.call (.ref f) ⟨us,[]⟩) (CR CX outer P w H s Q E) s:=by
 obtain⟨oc,od,kV,doc,pm,an,cdv,ct,osl,rfl,lk,hc⟩:=F.ex;have KX:K.In s.heap:=e0.mod.kin.keeps fun b o e=>(e0.bs b o e).1;have lim:s.heap.NoLimit:=e0.mod.nolimit.keeps fun b o e=>(e0.bs b o e).1;have hkind:((ps.zip us).all fun y=>(az st).names.lookup y.1 == some .local || (az st).names.lookup y.1 == some .cell)=true:=List.all_eq_true.mpr fun⟨n,v⟩ hy=>by
  rcases S.par n (aa1 hy).1 with q | q <;> simp [q]
 refine Att.O9 KX lim lk hc hr.depth (.of_eq (hb kV doc pm an cdv ct)) hkind (fun s1 x=>?_) S.co S.gen S.kind;obtain⟨t,h1,h2⟩:=ht cdv;have I:Inv (wG CX P w K mg base N qual (az st) f cdv A outer s H E) [] (start N vs) H s1:=yJ S hr.hd e0 hl r x;refine Wc (h1 [] s1 (start N vs) H _ I h2) (fun fl s2 z=>?_) fun e s2 z=>z;cases fl with
 | ret u =>
  obtain⟨v,σ',H',J,rv,q⟩:=z;exact⟨v,H',J.os,J.bare,J.base,J.hok,rv,q⟩
 | next =>
  obtain⟨σ',H',J,q⟩:=z;exact⟨.non,H',J.os,J.bare,J.base,J.hok,U,q⟩
 | brk=>obtain⟨_,_,_,q⟩:=z;exact V9 q
 | cont=>obtain⟨_,_,_,q⟩:=z;exact V9 q
structure QB (CX:CXT)(P:Vt)(w:V2)(K:Vi)(mg:VB->C5)(base:Wg)(k:Nat)(s₀:U8)(H₀:Hp)(fs:Db)(f:Addr)(sp:Hp->VK->XK->Prop):Prop where
 at_:∃ o fd,s₀.heap.get? f=some o/\o.data = .func fd/\H₀ f=none/\f ∉ fs
 run:∀ (A:V1) (outer:DB) (s:U8) (H:Hp) (Q:VK) (E:XK),d9 k A->Jk P w K mg base A outer s H->(∀ b o,s₀.heap.get? b=some o->H₀ b=none->b ∉ fs->s.heap.get? b=some o)->(∀ b o,s₀.heap.get? b=some o->H₀ b=none->(∃ sl,s.heap.get? b=some { o with slots:=sl })/\H b=none)->(∀ b o u,H₀ b=some (.frz o u)->H b=some (.frz o u))->sp H Q E →
  WK (Vl P w) A (.call (.ref f) ⟨[],[]⟩) (CR CX outer P w H s Q E) s
end
section
variable {X:Cx}{CX:CXT}{k:Nat}{f:Addr}{sp:Hp->VK->XK->Prop}{E:XK}{x:VB}{p pos:YS}{te:TE}
def Ua (f:Addr)(sp:Hp->VK->XK->Prop)(E:XK)(te:TE):TE:=fun σ H Q=>te σ H fun v H1=>v = .ref f/\sp H1 Q E
def QH (L:QB CX X.prog X.w X.K X.mg X.base k X.s₀ X.H₀ X.fs f sp)(hex:X.ex=[])(hr:d9 k X.A)(hx:Passes CX X E)(he:PE X (.Name x p) te):PE X (.Call (.Name x p) [] [] pos) (Ua f sp E te):=by
 intro ZY s σ H Q I h;refine WL (thn (he ZY s σ H _ I h) fun u s1 ⟨v,H1,I1,r,ev,q⟩=>?_);subst ev;obtain rfl:u=Vq f:=r;have nex:∀ b,b ∉ X.ex:=fun b z=>by
  rw[hex] at z;cases z
 obtain⟨o,fd,e1,e2,e3,e4⟩:=L.at_;have e5:=I1.base.keep f o e1 e3 e4 (nex f);refine callWith_function_kw (o:=o) (fd:=fd) (evalArgs_kw_nil U (wpAny_evalAll_nil ⟨⟨e5,e2⟩,?_⟩));refine YT (XR (L.run X.A X.stack s1 H1 Q E hr I1.env0 (fun b o e n hb=>I1.base.keep b o e n hb (nex b)) (fun b o e n=>⟨I1.base.any e n (nex b),I1.base.free b o e n (nex b)⟩) I1.base.frzs q) fun r2 s2 hq=>?_);cases r2 with
 | error e=>exact hx ZY σ H1 s1 e s2 I1 hq
 | ok fl =>
  cases fl with
  | ret u=>exact I1.after hq
  | next=>exact V9 hq
  | brk=>exact V9 hq
  | cont=>exact V9 hq
end
def TabOk (H:Hp)(P:Addr)(q:VB):Prop:=∃ ps,H P=some (.tbl ps)/\ZW ps.toList/\∀ pos cv,aag pos ps.toList=some cv->∃ c oc u vs t,cv = .ref c/\H c=some (.frz oc u)/\oc.data = .fields vs/\vs[1]? = some (.str q t)
def iR (H H1:Hp):Prop:=∀ b o,(∀ ps,o≠.tbl ps)->H b=some o->H1 b=some o
def Ku (P:Addr)(H H1:Hp):Prop:=∀ b o,b≠P->H b=some o->H1 b=some o
def Ku.t {P:Addr}{q:VB}{H H1:Hp}(h:TabOk H P q)(a:Ku P H H1):iR H H1:=fun b o n e=>a b o (fun z=>by
 obtain⟨ps,e1,_⟩:=h;rw[z,e1] at e
 exact n ps (VV e).symm) e
def iR.trans {H H1 H2:Hp}(a:iR H H1)(b:iR H1 H2):iR H H2:=fun c o n e=>b c o n (a c o n e)
def aH.t {H H1:Hp}(a:aH H H1):iR H H1:=fun c o _ e=>a c o e
def TabOk.same {H H1:Hp}{P:Addr}{q:VB}(a:aH H H1)(h:TabOk H P q):TabOk H1 P q:=by
 obtain⟨ps,e,t,f⟩:=h;refine⟨ps,a _ _ e,t,fun pos cv z=>?_⟩;obtain⟨c,oc,u,vs,tk,e1,e2,e3⟩:=f pos cv z;exact⟨c,oc,u,vs,tk,e1,a _ _ e2,e3⟩
def Gy {l:C9}(h:ZW l):l=[]∨∃ i t j u d r,l = .int i t::.int j u::d::r/\ZW r:=by
 unfold ZW at h;split at h;{exact .inl U};{exact .inr ⟨_,_,_,_,_,_,U,h⟩};{exact h.elim}
theorem qw {pos pos':YS}{c cv:Value}:∀ (n:Nat) (l:C9),l.length<=n->ZW l->(aag pos' (l++[Wl pos.line,Wl pos.col,c])=some cv->aag pos' l=some cv∨cv=c)/\ZW (l++[Wl pos.line,Wl pos.col,c])
 | 0,l,hn,h=>by
  cases V8 (Nat.le_zero.mp hn);refine⟨fun e=>?_,trivial⟩;simp only[aa2,Wl,aag] at e;split at e;{exact .inr (VV e).symm};{cases e}
 | n+1,l,hn,h=>by
  rcases Gy h with rfl | ⟨i,t,j,u,d,r,rfl,hr⟩;{exact qw n [] (V3 _) h}
  ·obtain⟨h1,h2⟩:=qw (pos:=pos) (pos':=pos') (c:=c) (cv:=cv) n r (by simp only[Vv] at hn;lia) hr;refine⟨fun e=>?_,h2⟩;simp only[aaJ,aag] at e ⊢;split at e;{rename_i z;rw[if_pos z];exact .inl e};{rename_i z;rw[if_neg z];exact h1 e}
def Eu {pos pos':YS}{c cv:Value}(l:C9)(h:ZW l)(e:aag pos' (l++[Wl pos.line,Wl pos.col,c])=some cv):aag pos' l=some cv∨cv=c:=(qw l.length l (Vb _) h).1 e
def yl {pos:YS}{c:Value}(l:C9)(h:ZW l):ZW (l++[Wl pos.line,Wl pos.col,c]):=(qw (pos':=pos) (cv:=c) l.length l (Vb _) h).2
section
variable {X:Cx}{ZY:C1}{σ:St}{H:Hp}{s:U8}{c P:Addr}{params:abj}{body:Expr}{scope:XF}{lpos:YS}{E:C4}{Q:C4}
def KZ (I:Inv X ZY σ H s) (hT:TabOk H P (X.env.qual++"<lambda>")) (hcode:X.env.code = .ref c) (C:W.CodeHd X.base c P) (hB:X.base.BuiltinsAt X.mg P) (hdef:defaultsOf params X.env=([],[]))
  (hfr:∀ y∈scope.names,y.2 = .free->X.env.kindOf y.1=some .cell∨X.env.kindOf y.1=some .free)
  (h:∀ (f c':Addr) (ctv pm:Value) (cl:C2) (H1:Hp) (s1:U8),Inv X ZY σ H1 s1->Ku P H H1->TabOk H1 P (X.env.qual++"<lambda>")->(∀ b,H b=none->b < s.heap.objs.size->H1 b=none)->(∀ b o,s.heap.get? b=some o->H b=none->s1.heap.get? b=some o) →
   s1.heap.get? f=some (aaZ "<lambda>" (X.env.qual++"<lambda>") params body scope cl pm c' ctv)->H1 f=none->s.heap.objs.size<=f->(∃ oc u vs t,H1 c'=some (.frz oc u)/\oc.data = .fields vs/\vs[1]? = some (.str (X.env.qual++"<lambda>") t)) →
   (∀ n a,cl.lookup n=some a->X.env.cells.lookup n=some a)->(∀ y∈scope.names,y.2 = .free->∃ a,cl.lookup y.1=some a)->Q (.ref f) s1) :
  Vh (Vl X.prog X.w) X.A (Wy (.Lambda params body scope lpos) X.env) Q E s:=by
 obtain⟨ps,eP,tr,am⟩:=hT;obtain⟨cl,hcl,sub,all⟩:=uU (scope:=scope) (env:=X.env) fun y hy z=>I.ok.has _ (hfr y hy z);have hP:s.heap.get? P=some (PySem.W.tabObj ps):=I.hok P _ eP;have hns:s.heap.Ns Vu X.mg:=I.mod.glob.keeps I.bk;have hgP:Vu≠P:=fun z=>by
  obtain⟨o,es,ep,e,d,_⟩:=hns;rw[z,hP] at e;cases e;cases d
 refine PySem.W.kla_eval hdef ?_;cases hit:aag lpos ps.toList with
 | some cv =>
  obtain⟨c',oc,u,vs,t,rfl,e1,e2,e3⟩:=am _ _ hit;refine PySem.W.kla_makeFunctionHit hcl I.ok.glob hns hcode (C.keeps I.bk) hP tr hit (hB.keeps I.bk) fun ctv h' tk kp sz=>?_;have kp':∀ b o,s.heap.get? b=some o->(h'.push (aaZ "<lambda>" (X.env.qual++"<lambda>") params body scope cl ((X.mg "__name__").getD .none) c' ctv)).get? b=some o:=fun b o e=>U9 _ (kp b o e);refine h h'.objs.size c' ctv ((X.mg "__name__").getD .none) cl H _ (I.un (h':=h'.push (aaZ "<lambda>" (X.env.qual++"<lambda>") params body scope cl ((X.mg "__name__").getD .none) c' ctv)) (t':=tk) (Un.kept kp') (I.hok.kept kp')) (fun _ _ _ e=>e) ⟨ps,eP,tr,am⟩ (fun _ n _=>n) (fun b o e _=>kp' b o e) ?_ (I.hok.fresh sz) sz ⟨oc,u,vs,t,e1,e2,e3⟩ sub all;exact Vn h' U
 | none =>
  refine PySem.W.kla_makeFunction hcl I.ok.glob hns hcode (C.keeps I.bk) hP tr hit hgP (hB.keeps I.bk) fun c' ctv h' tk kp l1 l2 cr hP'=>?_;obtain⟨c2,oc,vs,t,ec,e1,e2,e3⟩:=cr;cases ec;have nP:c'≠P:=fun z=>by
   have:=Vj hP;rw[← z] at this;exact Wj _ (Vc this l1)
  have fr:=I.hok.fresh l1;have lt:∀ b u,H b=some u->b < s.heap.objs.size:=fun b u e=>(I.hok b u e).lt;have nb:∀ b o,s.heap.get? b=some o->b≠c':=fun b o e z=>by
   have:=Vj e;rw[z] at this;exact Wj _ (Vc this l1)
  have sz:s.heap.objs.size<=h'.objs.size:=VH l1 (Xb l2);generalize ho:aaZ "<lambda>" (X.env.qual++"<lambda>") params body scope cl ((X.mg "__name__").getD .none) c' ctv=fo;have kq:∀ b o,h'.get? b=some o->(h'.push fo).get? b=some o:=fun b o e=>U9 _ e;have same:∀ b u,H b=some u->b≠P->upd (upd H P (.tbl (ps++#[Wl lpos.line,Wl lpos.col,.ref c']))) c' (.frz oc (.ext fun _=>True)) b=some u:=fun b u e n=>by
   rw[aF (fun z=>by rw[z,fr] at e;cases e),aF n];exact e
  have nt:∀ b u,H b=some u->(∀ ps,u≠.tbl ps)->b≠P:=fun b u e n z=>by
   rw[z,eP] at e;exact n ps (VV e).symm
  have un:Un X.fs [] H (upd (upd H P (.tbl (ps++#[Wl lpos.line,Wl lpos.col,.ref c']))) c' (.frz oc (.ext fun _=>True))) s.heap (h'.push fo):=by
   refine⟨fun b o e n _ _=>?_,fun b o e n _ _=>⟨o.slots,?_⟩,fun b o e n _=>?_,fun b o e _=>?_,fun b xs e=>same b _ e (nt b _ e (fun _ z=>nomatch z)),fun b o u e=>same b _ e (nt b _ e (fun _ z=>nomatch z)),fun b qs e=>?_⟩;{exact kq b o (kp b o (fun z=>by rw[z,eP] at n;cases n) e)};{exact kq b o (kp b o (fun z=>by rw[z,eP] at n;cases n) e)};{rw[aF (nb b o e),aF (fun z=>by rw[z,eP] at n;cases n)];exact n}
   ·by_cases hb:b=P;{subst hb;exact⟨_,kq _ _ hP'⟩};{exact⟨o,kq b o (kp b o hb e)⟩}
   ·by_cases hb:b=P;{subst hb;rw[eP] at e;cases e;exact⟨_,by rw[aF (Wz nP),aa]⟩};{exact⟨#[],by rw[same b _ e hb,Array.append_empty]⟩}
  have hok:HOk X.prog X.w (upd (upd H P (.tbl (ps++#[Wl lpos.line,Wl lpos.col,.ref c']))) c' (.frz oc (.ext fun _=>True))) (h'.push fo):=fun b u e=>by
   by_cases hb:b=c';{subst hb;rw[aa] at e;cases e;exact⟨kq _ _ e1,trivial,⟨_,kq _ _ e1⟩,fun _ _ _ _=>trivial⟩}
   ·rw[aF hb] at e;by_cases hp:b=P;{subst hp;rw[aa] at e;cases e;exact kq _ _ hP'}
    ·rw[aF hp] at e;refine (I.hok b u e).stay (fun d o hd q=>kq _ _ (kp d o (fun z=>?_) q)) (fun d q=>same d _ q (nt d _ q (fun _ z=>nomatch z))) fun d xs q=>same d _ q (nt d _ q (fun _ z=>nomatch z));rcases hd with rfl | hd;{exact hp z};{rw[z,eP] at hd;cases hd}
  have I1:=I.un (t':=tk) un hok;have f0:upd (upd H P (.tbl (ps++#[Wl lpos.line,Wl lpos.col,.ref c']))) c' (.frz oc (.ext fun _=>True)) h'.objs.size=none:=by
   rw[aF (Wz (Vw l2)),aF (Wz (Vw (Vc (Vj hP) sz)))];exact I.hok.fresh sz
  refine h h'.objs.size c' ctv ((X.mg "__name__").getD .none) cl _ _ I1 (fun b o n e=>same b o e n) ⟨_,by rw[aF (Wz nP),aa],?_,fun pos cv z=>?_⟩ (fun b n l=>?_) (fun b o e n=>kq b o (kp b o (fun z=>by rw[z,eP] at n;cases n) e)) ?_ f0 sz ⟨oc,_,vs,t,aa,e2,e3⟩ sub all;{rw[Array.toList_append];exact yl _ tr}
  ·rw[Array.toList_append] at z;rcases Eu _ tr z with z | z;{obtain⟨c1,oc1,u1,vs1,t1,a1,a2,a3⟩:=am pos cv z;exact⟨c1,oc1,u1,vs1,t1,a1,same _ _ a2 (nt _ _ a2 (fun _ z=>nomatch z)),a3⟩};{exact⟨c',oc,_,vs,t,z,aa,e2,e3⟩}
  ·have n1:b≠c':=fun z=>Wj _ (Vc (show c' < s.heap.objs.size from z▸l) l1);have n2:b≠P:=fun z=>by rw[z,eP] at n;cases n
   rw[aF n1,aF n2];exact n
  ·rw[← ho];exact Vn h' U
end
structure Oh (X:Cx)(scope:XF)(N:DF)(cap:DD):Prop where
 sc:Q7 N scope
 fr:∀ y∈scope.names,y.2 = .free->X.env.kindOf y.1=some .cell∨X.env.kindOf y.1=some .free
 len:cap.length=N.length
 at':∀ (k:Nat) (x:VB),N[k]? = some x->∃ i,cap[k]? = some i/\X.N[i]? = some x
def NQ (cap:DD)(σ:St):St:=cap.map fun i=>(σ[i]?).join
def Ss (P:Addr)(q:VB)(cap:DD)(tw:Addr->(Hp->VK->XK->Prop)->VK->Hp->Prop)(te:XK->TE):TE:=fun σ H Q=>TabOk H P q/\∀ f H1,iR H H1->TabOk H1 P q->tw f (fun H2 Q2 E2=>te E2 (NQ cap σ) H2 Q2) Q H1
def RD (Rl:Hp->Hp->Prop)(P:Addr)(q:VB)(cap:DD)(tw:Addr->(Hp->VK->XK->Prop)->VK->Hp->Prop)(te:XK->TE):TE:=fun σ H Q=>TabOk H P q/\∀ f H1,Rl H H1->TabOk H1 P q->tw f (fun H2 Q2 E2=>te E2 (NQ cap σ) H2 Q2) Q H1
section
variable {X:Cx}{c P fW:Addr}{x qual n:VB}{st:Stmt}{fd:Wh}{N NL:DF}{cap:DD}{k:Nat}{params:abj}{body:Expr}{scope:XF}{lpos p pos:YS}{te:XK->TE}{tw:Addr->(Hp->VK->XK->Prop)->VK->Hp->Prop}
def Nz {Rl:Hp->Hp->Prop} (hR:∀ {H H1:Hp},TabOk H P (X.env.qual++"<lambda>")->Ku P H H1->Rl H H1) (F:Fun X.K x qual st fW fd) (S:aD N [n] (az st)) (hr:d9 (k+1) X.A) (hg:Gl X x) (hm:X.mg x=some (.ref fW)) (L:Oh X scope NL cap)
  (hcode:X.env.code = .ref c) (C:W.CodeHd X.base c P) (hB:X.base.BuiltinsAt X.mg P)
  (hp:∀ (f:Addr) (cd:Value) (cl:C2) (A:V1) (outer:DB) (s:U8) (H:Hp) (E:XK) (j:Nat),k=j+2->d9 j (A.deeper (W.envX (X.env.qual++"<lambda>") scope s.heap.objs.size f cd cl))->PE (zO (XL X.prog X.w) X.prog X.w X.K X.mg X.base NL (X.env.qual++"<lambda>") scope f cd cl A outer s H E) body (te E))
  (ht:∀ (f:Addr) (cdv:Value) (A:V1) (outer:DB) (s:U8) (H:Hp) (Q:VK) (j:Nat) (sp:Hp->VK->XK->Prop),k=j+1->d9 k (A.deeper (envOfC qual (az st) s.heap.objs.size fW cdv))->QB (XL X.prog X.w) X.prog X.w X.K X.mg X.base k s H (frs outer) f sp->tw f sp Q H →
   ∃ t,PSs (wG CX0 X.prog X.w X.K X.mg X.base N qual (az st) fW cdv A outer s H E0) (bG st) t/\t { nx:=fun _ H'=>Q .non H',rt:=Q } (start N [.ref f]) H)
  (hdef:defaultsOf params X.env=([],[]):=by rfl) (hla:∀ (pm cd ctv:Value) (cl:C2),YZ (W.kla_fn "<lambda>" (X.env.qual++"<lambda>") params body scope cl pm cd ctv) ⟨[],[]⟩=pure []:=by intros;rfl)
  (hb:∀ (kV doc pm:Value) (an:C7) (cdv ct:Value) (u:Value),YZ (aa8 x qual (cY st) (bG st) (az st) .none kV doc pm an cdv ct) ⟨[u],[]⟩=pure [(n,u)]:=by intros;rfl) (hk:k=(k - 2)+2:=by rfl)
  (hdb:(x == ("__debug__" : VB))=false:=by decide):PE X (.Call (.Name x p) [.Lambda params body scope lpos] [] pos) (RD Rl P (X.env.qual++"<lambda>") cap tw te):=by
 intro ZY s σ H Q I ⟨hT,h⟩;refine WL (jQ I hg hm ?_ hdb);refine Zy (h₀:=X.base) I.ok.mod.kin F.kp ?_;refine aar (KZ I hT hcode C hB hdef L.fr fun f c' ctv pm cl H1 s1 I1 sm tb fre kp ef nf lf cr sub all=>aay ⟨I1.kIn,?_⟩);have nfs:f ∉ frs X.stack:=fun z=>by
  obtain⟨_,o,ho,_⟩:=I.stack.mem z;exact Wj _ (Vc (Vj ho) lf)
 have LB:QB (XL X.prog X.w) X.prog X.w X.K X.mg X.base k s1 H1 (frs X.stack) f fun H2 Q2 E2=>te E2 (NQ cap σ) H2 Q2:=by
  refine⟨⟨_,_,ef,U,nf,nfs⟩,fun A outer s3 H3 Q3 E3 room e3 k1 k2 k3 sp=>?_⟩;obtain⟨oc,u,vs,t,f1,f2,f3⟩:=cr;have cr3:s3.heap.CodeRec (.ref c') (X.env.qual++"<lambda>"):=⟨c',oc,vs,t,U,(e3.hok c' _ (k3 _ _ _ f1)).1,f2,f3⟩;have room':d9 ((k - 2)+1+1) A:=by rw[hk] at room;exact room
  have cel:∀ y a v,cl.lookup y=some a->s1.heap.IsCell a v->s3.heap.IsCell a v/\H3 a=none:=fun y a v e ⟨o,ho,hd⟩=>by
   obtain⟨⟨sl,e1⟩,e2⟩:=k2 a o ho (I1.freeC y a (sub y a e));exact⟨⟨_,e1,hd⟩,e2⟩
  refine Oq (N:=NL) room' e3 (k1 f _ ef nf nfs) cr3 (hla _ _ _ _) L.sc ⟨fun y z a e1 e2=>I.ok.inj y z a (sub y a e1) (sub z a e2),all,fun y a e=>?_,fun i y v e1 e2=>?_,?_⟩ (hp f (.ref c') cl A outer s3 H3 E3 (k - 2) hk ((room'.mono (WY _)).deeper _)) sp;{obtain⟨v,z⟩:=I1.cell y a (sub y a e);obtain⟨z1,z2⟩:=cel y a v e z;exact⟨⟨v,z1⟩,z2⟩}
  ·unfold NQ at e2;rw[Vr] at e2;obtain⟨j,hj,hN⟩:=L.at' i y e1;rw[hj] at e2;have e4:(σ[j]?).join=some v:=by simpa using e2
   have e5:σ[j]? = some (some v):=by
    cases q:σ[j]? with
    | none=>rw[q] at e4;cases e4
    | some a=>rw[q] at e4;exact congrArg some e4
   have yf:=L.sc.fr y (Vy e1);have kd:=L.fr (y,.free) (Ws yf) U;obtain⟨m,hn,hl⟩:=I1.loc;obtain⟨u,r,lk⟩:=hl j y v hN e5 (kd.elim (fun z=>.inr (.inl z)) fun z=>.inr (.inr z));obtain⟨a,ha⟩:=all (y,.free) (Ws yf) U;rcases lk with⟨z,_⟩ | ⟨_,a',z1,z2⟩;{rcases kd with w | w <;> (rw[w] at z;cases z)}
   ·have:=sub y a ha;rw[z1] at this;cases this;exact⟨a,u,ha,(cel y a _ ha z2).1,r⟩
  ·unfold NQ;rw[U7,L.len]
 have hq:=h f H1 (hR hT sm) tb;refine YT (XR (Q8 (CX:=CX0) (k:=k) (Q:=Q) (E:=E0) F S hr I1.env0 (hb · · · · · · (.ref f)) (vs:=[.ref f]) (us:=[.ref f]) (.cons U .nil) U fun cdv=>ht f cdv X.A X.stack s1 H1 Q (k - 2+1) _ hk (hr.deeper _) LB hq) fun r s2 z=>?_);cases r with
 | error e=>exact V9 z
 | ok fl =>
  cases fl with
  | ret u=>exact I1.after z
  | next=>exact V9 z
  | brk=>exact V9 z
  | cont=>exact V9 z
def Py (F:Fun X.K x qual st fW fd)(S:aD N [n] (az st))(hr:d9 (k+1) X.A)(hg:Gl X x)(hm:X.mg x=some (.ref fW))(L:Oh X scope NL cap)
  (hcode:X.env.code = .ref c) (C:W.CodeHd X.base c P) (hB:X.base.BuiltinsAt X.mg P)
  (hp:∀ (f:Addr) (cd:Value) (cl:C2) (A:V1) (outer:DB) (s:U8) (H:Hp) (E:XK) (j:Nat),k=j+2->d9 j (A.deeper (W.envX (X.env.qual++"<lambda>") scope s.heap.objs.size f cd cl))->PE (zO (XL X.prog X.w) X.prog X.w X.K X.mg X.base NL (X.env.qual++"<lambda>") scope f cd cl A outer s H E) body (te E))
  (ht:∀ (f:Addr) (cdv:Value) (A:V1) (outer:DB) (s:U8) (H:Hp) (Q:VK) (j:Nat) (sp:Hp->VK->XK->Prop),k=j+1->d9 k (A.deeper (envOfC qual (az st) s.heap.objs.size fW cdv))->QB (XL X.prog X.w) X.prog X.w X.K X.mg X.base k s H (frs outer) f sp->tw f sp Q H →
   ∃ t,PSs (wG CX0 X.prog X.w X.K X.mg X.base N qual (az st) fW cdv A outer s H E0) (bG st) t/\t { nx:=fun _ H'=>Q .non H',rt:=Q } (start N [.ref f]) H)
  (hdef:defaultsOf params X.env=([],[]):=by rfl) (hla:∀ (pm cd ctv:Value) (cl:C2),YZ (W.kla_fn "<lambda>" (X.env.qual++"<lambda>") params body scope cl pm cd ctv) ⟨[],[]⟩=pure []:=by intros;rfl)
  (hb:∀ (kV doc pm:Value) (an:C7) (cdv ct:Value) (u:Value),YZ (aa8 x qual (cY st) (bG st) (az st) .none kV doc pm an cdv ct) ⟨[u],[]⟩=pure [(n,u)]:=by intros;rfl) (hk:k=(k - 2)+2:=by rfl)
  (hdb:(x == ("__debug__" : VB))=false:=by decide):PE X (.Call (.Name x p) [.Lambda params body scope lpos] [] pos) (Ss P (X.env.qual++"<lambda>") cap tw te):=Nz (fun h s=>s.t h) F S hr hg hm L hcode C hB hp ht hdef hla hb hk hdb
end
structure Eg (mg:VB->C5)(c T:Addr)(base:Wg):Prop where
 code:PySem.W.CodeHd base c T
 blt:base.BuiltinsAt mg T
def GP {P:Vt}{w:V2}{K:VG}{mg mb:VB->C5}{k:Nat}{fa a c T:Addr}{fd:Wh}{x q:VB}{sp:Sp}{s1:U8}{vs:C9}{ns:DC}
  (KX:K.In s1.heap) (hG:s1.heap.Ns Vu mg) (hB:s1.heap.Ns builtinsNs mb) (hbb:∀ x:VB,x≠"__name__"->mb x=We x) (hlim:s1.heap.NoLimit) (hg:s1.gens = #[])
  (ha:s1.heap.get? a=some { cls:=.type "list",data:=.seq vs.toArray }) (hi:Wv vs ns) (hl:ns.length<=sizeLine) (hr:d9 k abG)
  (hT:s1.heap.get? T=some (W.tabObj #[])) (hC:W.CodeHd s1.heap c T) (hbm:s1.heap.BuiltinsAt mg T) (hno:W.noTabs K=true)
  (F:∀ base:Wg,K.In base->base.Ns Vu mg->Eg mg c T base->aZ P w K mg base CX0 k fa fd [x] sp) (hbind:∀ (s:U8) (u:Value),aaU s fd ⟨[u],[]⟩ [(x,u)])
  (hsp:∀ H:Hp,TabOk H T q->SqL K H a (ns.map V.int)->sp [.ref a] H (fun v _=>v = .bl true) fun _ _ _=>False) :
  WK (Vl P w) abG (.call (.ref fa) ⟨[.ref a],[]⟩) (fun r s2=>r = .ok (.ret (.bool true))/\OldK s1.heap s2.heap/\s2.os=s1.os/\aaz s2.gens) s1:=by
 have aT:a≠T:=fun z=>by
  rw[z,hT] at ha;cases ha
 have rv:=iI hi;have nl:=hi.length;have key:∀ Z:Hp,(∀ b u,Z b=some u->b=a/\u = .frz { cls:=.type "list",data:=.seq vs.toArray } (.lst (ns.map V.int)))->SqL K Z a (ns.map V.int)->(Z a≠none->K.lookup a=none) →
   WK (Vl P w) abG (.call (.ref fa) ⟨[.ref a],[]⟩) (fun r s2=>r = .ok (.ret (.bool true))/\OldK s1.heap s2.heap/\s2.os=s1.os/\aaz s2.gens) s1:=by
  intro Z hZ hS hK;have H1:∀ b,b≠T->upd Z T (.tbl #[]) b=Z b:=fun b n=>aF n;have hin:∀ {b:Addr} {o:Xz},s1.heap.get? b=some o->b≠T->(Z b=none)->(JZ s1.heap (upd Z T (.tbl #[]))).get? b=some o:=fun e n z=>J6 e ((H1 _ n).trans z);have seqOnly:∀ {b:Addr} {o:Xz},s1.heap.get? b=some o->(∀ its n,o.data≠.seq its n)->Z b=none:=fun {b o} e d=>by
   cases z:Z b with
   | none=>rfl
   | some u =>
    obtain⟨rfl,_⟩:=hZ b u z;rw[ha] at e;cases e;exact absurd U (d _ _)
  have notT:∀ {b:Addr} {o:Xz},s1.heap.get? b=some o->(∀ vs,o.data≠.fields vs)->b≠T:=fun {b o} e d z=>by
   rw[z,hT] at e;cases e;exact d _ U
  have nsK:∀ {b:Addr} {m:VB->C5},s1.heap.Ns b m->(JZ s1.heap (upd Z T (.tbl #[]))).Ns b m:=fun {b m} ⟨o,es,ep,e,d,r⟩ =>
   ⟨o,es,ep,hin e (notT e fun _ z=>by rw[d] at z;cases z) (seqOnly e fun _ _ z=>by rw[d] at z;cases z),d,r⟩
  have kb:K.In (JZ s1.heap (upd Z T (.tbl #[]))):=fun b o e=>hin (KX b o e) (fun z=>by
   subst z;have e2:=KX _ _ e;rw[hT] at e2;cases e2;have:=List.all_eq_true.mp hno (_,PySem.W.tabObj #[]) (PySem.W.mem_of_lookupK e)
   exact absurd (show false=true from this) Ve) (by
   cases z:Z b with
   | none=>rfl
   | some u =>
    obtain⟨rfl,_⟩:=hZ b u z;rw[hK (by rw[z];simp)] at e
    cases e)
  have hd:Eg mg c T (JZ s1.heap (upd Z T (.tbl #[]))):=by
   obtain⟨o,ws,file,tf,flags,tg,inF,text,tt,e1,e2,e3,e4,r⟩:=hC;obtain⟨bm,ob,b1,b2,b3,b4,b5,b6,b7,b8⟩:=hbm;refine⟨⟨o,ws,file,tf,flags,tg,inF,text,tt,hin e1 (fun z=>?_) (seqOnly e1 fun _ _ z=>by rw[e3] at z;cases z),e2,e3,e4,r⟩,⟨bm,ob,b1,b2,b3,b4,hin b5 b4 (seqOnly b5 fun _ _ z=>by rw[b8] at z;cases z),b6,b7,b8⟩⟩;rw[z,hT] at e1;cases e1;cases e2
  have hok:HOk P w (upd Z T (.tbl #[])) s1.heap:=fun b u e=>by
   by_cases hb:b=T;{subst hb;rw[aa] at e;cases e;exact hT};{rw[aF hb] at e;obtain⟨rfl,rfl⟩:=hZ b u e;exact⟨ha,by rw[U7];exact hl,vs,_,rv,ha⟩}
  have e0:Jk P w K mg (JZ s1.heap (upd Z T (.tbl #[]))) abG [] s1 (upd Z T (.tbl #[])) :=
   ⟨U,⟨kb,nsK hG,⟨mb,nsK hB,hbb⟩,let ⟨mc,m1,m2⟩:=hlim;⟨mc,nsK m1,m2⟩⟩,fun b o e=>Ow e,Nat.le_of_eq (Fy _ _),trivial,(fun b hb=>absurd (show b∈([]:Db) from hb) Xy),hok,.of_eq hg⟩
  have hS1:SqL K (upd Z T (.tbl #[])) a (ns.map V.int):=by
   rcases hS with (h | ⟨o,h⟩) | h;{exact .inl (.inl ((H1 a aT).trans h))};{exact .inl (.inr ⟨o,(H1 a aT).trans h⟩)};{exact .inr h}
  refine XR ((F _ kb (nsK hG) hd).run abG [] s1 _ ⟨[.ref a],[]⟩ [.ref a] [.ref a] _ _ hr e0 (hbind s1 (.ref a)) (.cons U .nil) (hsp _ ⟨#[],aa,trivial,fun pos cv z=>by cases z⟩ hS1)) fun r s2 z=>?_;cases r with
  | error e=>exact V9 z
  | ok fl =>
   cases fl with
   | next=>exact V9 z
   | brk=>exact V9 z
   | cont=>exact V9 z
   | ret u =>
    obtain⟨v,H2,os,bare,un,hok2,r2,rfl⟩:=z;obtain rfl:u=aaN true:=r2;have kept:∀ b o,s1.heap.get? b=some o->b≠T->s2.heap.get? b=some o:=fun b o e n=>by
     cases z:Z b with
     | none=>exact un.keep b o e ((H1 b n).trans z) (fun y=>nomatch y) fun y=>nomatch y
     | some u =>
      have z1:=(H1 b n).trans z;obtain⟨rfl,rfl⟩:=hZ b u z;obtain⟨e2,_⟩:=hok2 _ _ (un.frzs _ _ _ z1);rw[ha] at e;cases e;exact e2
    obtain⟨more,et⟩:=un.tbls T #[] aa;have gT:s2.heap.get? T=some (PySem.W.tabObj (#[]++more)):=hok2 T _ et;refine⟨U,⟨fun b o e=>?_,fun b o e=>?_⟩,os,bare⟩
    ·by_cases hb:b=T;{subst hb;rw[hT] at e;cases e;exact .inr (.inl ⟨(hC.tab hT).isCodeTable,U,#[],more,U,gT⟩)};{exact .inl (kept b o e hb)}
    ·by_cases hb:b=T;{subst hb;exact⟨_,gT⟩};{exact⟨o,kept b o e hb⟩}
 cases hk:K.lookup a with
 | some o =>
  have e:=KX a o hk;rw[ha] at e;cases e;exact key (fun _=>none) (fun b u z=>by cases z) (.inr ⟨_,vs.toArray,_,hk,rfl,rfl,rfl,by rw[Vo,nl];exact hl,by simpa using rv⟩) fun z=>absurd U z
 | none =>
  exact key (upd (fun _=>none) a (.frz { cls:=.type "list",data:=.seq vs.toArray } (.lst (ns.map V.int)))) (fun b u z=>by
   by_cases hb:b=a;{subst hb;rw[aa] at z;exact⟨U,(VV z).symm⟩}
   ·rw[aF hb] at z
    cases z) (.inl (.inr ⟨{ cls:=.type "list",data:=.seq vs.toArray },aa⟩)) fun _=>hk
def J4 {l:W.OpenLaw}{n k:Nat}{qp:Vt}{loose:DF}{XP:(VB->C5)->Wg->Prop}{YP:V2->Wg->Prop}{d:DefRec}{K:Params->VG}{sp:V2->Sp}{x q:VB}{T:Addr}
  (hn:l.most=some n) (hn2:n<=sizeLine) (hdf:d.params.defaults=[]) (hr:d9 k abG)
  (hY:∀ (w:V2) (h:Wg),YP w h->(K w.params).In h/\h.get? T=some (W.tabObj #[])) (hno:∀ w:V2,W.noTabs (K w.params)=true)
  (F:∀ (w:V2) (mg:VB->C5) (fa:Addr) (h:Wg),(K w.params).In h->h.Ns Vu mg->mg d.name=some (.ref fa) →
   ∃ (fd:Wh) (c:Addr),PySem.W.codeHdIn (K w.params) c T=true/\(∀ (s:U8) (u:Value),aaU s fd ⟨[u],[]⟩ [(x,u)]) ∧
    ∀ base:Wg,(K w.params).In base->base.Ns Vu mg->Eg mg c T base->aZ l.prog w (K w.params) mg base CX0 k fa fd [x] (sp w))
  (hsp:∀ (w:V2) (H:Hp) (a:Addr) (ns:DC),ns.length<=n->TabOk H T q->SqL (K w.params) H a (ns.map V.int)->sp w [.ref a] H (fun v _=>v = .bl true) fun _ _ _=>False) :
  PySem.W.WalkO qp loose XP YP l.row.toRowW d [] (fun f vs=>PySem.call f vs):=by
 refine Att.zQ hn hdf fun w s₀ s₁ mg mb fa o pm cd doc a vs ns G Y ho hd hcd hmg hobj hints hlen hg=>?_;obtain⟨KX,hT⟩:=hY w _ Y;obtain⟨fd,c,hc,hb,hF⟩:=F w mg fa _ KX G.T.g hmg;have hC:=PySem.W.codeHd_of_K KX hc;have hbm:s₁.heap.BuiltinsAt mg T:=by
  obtain⟨bm,ob,b1,b2,b3,b4,b5,b6⟩:=G.T.bmain;refine⟨bm,ob,b1,b2,fun z=>?_,fun z=>?_,b3,b4,b5,b6⟩;{obtain⟨og,es,ep,e,d,_⟩:=G.T.g;rw[z,e] at b3;cases b3;rw[d] at b6;cases b6};{rw[z,hT] at b3;cases b3;cases b4}
 exact GP KX G.T.g G.T.b G.T.builtins G.T.nolimit hg hobj hints (VH hlen hn2) hr hT hC hbm (hno w) hF hb fun H h1 h2=>hsp w H a ns hlen h1 h2
def Qc {X:Cx}{st:Stmt}{t:TS}(h:PS X.nox st t):PS X st t:=fun ZY s σ H D I z =>
 Wc (h ZY s σ H D (I.wish _) z) (fun _ _ q=>q.mY) fun _ _ y=>y.elim
structure Dx (P:Vt)(w:V2)(K:Vi)(mg:VB->C5)(base:Wg)(x:VB)(k:Nat)(ps:DF)(sp:Sp):Prop where
 ex:∃ (f:Addr) (fd:Wh),aZ P w K mg base (XL P w) k f fd ps sp/\mg x=some (.ref f)/\Xa K (.ref f)=true/\Binds K fd ps []
section
variable {X:Cx}{k j:Nat}{x:VB}{ps:DF}{sp:Sp}{p pos:YS}{e:Expr}{es:Do}{t:TA}{E:XK}
def rB (D:Dx X.prog X.w X.K X.mg X.base x k ps sp)(hr:d9 j X.A)(hx:Passes (XL X.prog X.w) X E)(ha:PA X (e::es) t)(hk:k<=j:=by first | decide | exact Vb _ | lia)(hg:Gl X x:=by rfl)
  (hdb:(x == ("__debug__" : VB))=false:=by decide) (he:Vx (e::es) X.env=(false,Wy e X.env)::Vx es X.env:=by rfl) (hpl:(Xj pos (Vx es X.env)).any (·.1)=false:=by rfl) :
  PE X (.Call (.Name x p) (e::es) [] pos) (Gd sp [] E t):=by
 obtain⟨f,fd,F,hm,hkp,hb⟩:=D.ex;exact HS F (hr.mono hk) hg hm hkp hb .nil hx ha hdb he hpl
end
section
variable {P:Vt}{w:V2}{K:VG}{mg:VB->Option Value}{base:Wg}
def Fun.okX {x qual:VB}{st:Stmt}{f:Addr}{fd:Wh}{N ps:DF}{k:Nat}{sp:Sp}(F:Fun K x qual st f fd)(S:aD N ps (az st))(len:∀ vs H Q E,sp vs H Q E->vs.length=ps.length)
  (hb:∀ (cdv:Value) (A:V1) (outer:DB) (s:U8) (H:Hp) (vs:List V) (Q:VK) (E:XK),d9 k (A.deeper (envOfC qual (az st) s.heap.objs.size f cdv))->sp vs H Q E →
   ∃ t,PSs (wG (XL P w) P w K mg base N qual (az st) f cdv A outer s H E) (bG st) t/\t { nx:=fun _ H2=>Q .non H2,rt:=Q } (start N vs) H):aZ P w K mg base (XL P w) (k+1) f fd ps sp:=by
 obtain⟨oc,od,kV,doc,pm,an,cdv,ct,osl,rfl,lk,hc⟩:=F.ex;exact M6 lk hc S len fun A outer s H vs Q E hr hs=>hb cdv A outer s H vs Q E hr hs
end
def Qs {X:Cx}{scope:XF}{NL:DF}{cap:DD}(c:pF X scope NL cap)(co:scope.isCoroutine=false:=by rfl)(gen:scope.isGenerator=false:=by rfl):Oh X scope NL cap :=
 ⟨⟨c.kind,co,gen,c.cell,fun x hx=>let ⟨_,hi⟩:=List.getElem?_of_mem hx;let ⟨_,_,_,z⟩:=c.at' _ x hi;z⟩,c.fr,c.len,fun k x e=>let ⟨i,a,b,_⟩:=c.at' k x e;⟨i,a,b⟩⟩
structure Ry (K:Vi)(x qual:VB)(st:Stmt)(f:Addr)(fd:Wh)(c:Addr):Prop where
 ex:∃ (oc:Value) (od:C7) (kV doc pm:Value) (an:C7) (ct:Value) (osl:Array (C5)),
  fd=Yg x qual (cY st) (bG st) (az st) .none kV doc pm an (.ref c) ct/\K.lookup f=some ⟨oc,od,.func fd,osl⟩/\Y9 K (.ref c) qual=true
def Ry.ok {P:Vt}{w:V2}{K:VG}{mg:VB->C5}{base:Wg}{x qual:VB}{st:Stmt}{f c:Addr}{fd:Wh}{N ps:DF}{k:Nat}{sp:Sp}(F:Ry K x qual st f fd c)(S:aD N ps (az st))(len:∀ vs H Q E,sp vs H Q E->vs.length=ps.length)
  (hb:∀ (A:V1) (outer:DB) (s:U8) (H:Hp) (vs:List V) (Q:VK) (E:XK),d9 k (A.deeper (envOfC qual (az st) s.heap.objs.size f (.ref c)))->sp vs H Q E →
   ∃ t,PSs (wG CX0 P w K mg base N qual (az st) f (.ref c) A outer s H E).nox (bG st) t/\t { nx:=fun _ H2=>Q .non H2,rt:=Q } (start N vs) H):aZ P w K mg base CX0 (k+1) f fd ps sp:=by
 obtain⟨oc,od,kV,doc,pm,an,ct,osl,rfl,lk,hc⟩:=F.ex;refine M6 lk hc S len fun A outer s H vs Q E hr hs=>?_;obtain⟨t,h1,h2⟩:=hb A outer s H vs Q E hr hs;exact⟨t,h1.nox,h2⟩
section
variable {prog:Vt}{w:V2}{A:V1}{R:aan->U8->Prop}{E:C4}{s:U8}
end
section
variable {X:Cx}{k:Nat}
end
end L2
namespace L2
open PySem PySem.Spec PyProof.Rows PySem.W
section
variable {prog:Vt}{w:V2}{A:V1}{E:C4}{κ:SortKind}{it:Array Keyed}{s:U8}
end
section
variable {X:Cx}
end
end L2
namespace L2
open PySem PySem.Spec PyProof.Rows
section
variable {X:Cx}{k:Nat}
end
section
variable {prog:Vt}{w:V2}{A:V1}{R:aan->U8->Prop}{E:C4}{s:U8}
end
section
variable {X:Cx}
end
section
variable {κ:Type}[DecidableEq κ]
def tK (kvs:List (κ × V))(k:κ):Option V:=(kvs.find? fun kv=>decide (kv.1=k)).map (·.2)
def putK (kvs:List (κ × V))(k:κ)(v:V):List (κ × V) :=
 if (kvs.any fun kv=>decide (kv.1=k))=true then kvs.map (fun kv=>if kv.1=k then (kv.1,v) else kv) else kvs++[(k,v)]
def zE (kvs:List (κ × V))(k:κ):List (κ × V):=kvs.filter fun kv=>decide (kv.1≠k)
def qF {p:κ × V}{r:List (κ × V)}{k:κ}(e:p.1=k):tK (p::r) k=some p.2:=by simp [tK,Zw,e]
def nA {p:κ × V}{r:List (κ × V)}{k:κ}(e:¬ p.1=k):tK (p::r) k=tK r k:=by simp [tK,Zw,e]
theorem qy (k:κ):∀ kvs:List (κ × V),(kvs.any fun kv=>decide (kv.1=k))=(tK kvs k).isSome
 | []=>rfl
 | p::r=>by
  rw[Yz];by_cases e:p.1=k;{simp only[qF e,decide_eq_true e,Bool.true_or,Option.isSome_some]};{rw[nA e,decide_eq_false e,abx];exact qy k r}
def rM (kvs:List (κ × V))(k:κ)(v:V):(putK kvs k v).length<=kvs.length+1:=by
 unfold putK;split;{rw[U7];lia};{rw[Vf,Vv,List.length_nil];lia}
def BK {kvs:List (κ × V)}{k:κ}(v:V)(h:tK kvs k=none):putK kvs k v=kvs++[(k,v)]:=by
 unfold putK;rw[qy,h];exact if_neg (by decide)
def ue.jT {o:Option V}{u:C5}(r:ue o u):o.isSome=u.isSome:=by
 cases o with
 | none=>cases u with
  | none=>rfl
  | some _=>exact (show False from r).elim
 | some _=>cases u with
  | none=>exact (show False from r).elim
  | some _=>rfl
def KV.val {kvs:List (κ × V)}{vs:List (κ × Value)}(r:KV kvs vs)(k:κ):ue (tK kvs k) (abf vs k):=by
 unfold KV at r
 induction r with
 | nil=>exact Yj
 | @cons p q ps qs h t ih =>
  obtain⟨h1,h2⟩:=h;by_cases e:p.1=k
  ·have e':q.1=k:=h1.symm.trans e;have b:abf (q::qs) k=some q.2:=by simp [abf,Zw,e']
   rw[qF e,b];exact h2
  ·have e':¬ q.1=k:=fun z=>e (h1.trans z);have b:abf (q::qs) k=abf qs k:=by simp [abf,Zw,e']
   rw[nA e,b];exact ih
def KV.any {kvs:List (κ × V)}{vs:List (κ × Value)}(r:KV kvs vs)(k:κ):(kvs.any fun kv=>decide (kv.1=k))=vs.any fun kv=>decide (kv.1=k):=by
 unfold KV at r
 induction r with
 | nil=>rfl
 | cons h t ih=>rw[Yz,Yz,ih,h.1]
def KV.repl {kvs:List (κ × V)}{vs:List (κ × Value)}(r:KV kvs vs)(k:κ){y:V}{u:Value}(ry:RelV y u) :
  KV (kvs.map fun kv=>if kv.1=k then (kv.1,y) else kv) (vs.map fun kv=>if kv.1=k then (kv.1,u) else kv):=by
 unfold KV at r ⊢
 induction r with
 | nil=>exact .nil
 | @cons p q ps qs h t ih =>
  rw[Wk,Wk];refine .cons ?_ ih;obtain⟨h1,h2⟩:=h;by_cases e:p.1=k;{rw[if_pos e,if_pos (h1.symm.trans e)];exact⟨h1,ry⟩};{rw[if_neg e,if_neg (fun z=>e (h1.trans z))];exact⟨h1,h2⟩}
def KV.put {kvs:List (κ × V)}{vs:List (κ × Value)}(r:KV kvs vs)(k:κ){y:V}{u:Value}(ry:RelV y u):KV (putK kvs k y) (stored vs k u):=by
 unfold putK stored;rw[r.any k];by_cases e:(vs.any fun kv=>decide (kv.1=k))=true;{rw[if_pos e,if_pos e];exact r.repl k ry};{rw[if_neg e,if_neg e];exact Paired.snoc r ⟨U,ry⟩}
def KV.drop {kvs:List (κ × V)}{vs:List (κ × Value)}(r:KV kvs vs)(k:κ):KV (zE kvs k) (without vs k):=by
 unfold KV at r ⊢;unfold zE without
 induction r with
 | nil=>exact .nil
 | @cons p q ps qs h t ih =>
  obtain⟨h1,h2⟩:=h;rw[ZZ,ZZ];by_cases e:p.1=k
  ·have a:¬ decide (p.1≠k)=true:=by simp [e]
   have b:¬ decide (q.1≠k)=true:=by simp [h1.symm.trans e]
   rw[if_neg a,if_neg b];exact ih
  ·have e':¬ q.1=k:=fun z=>e (h1.trans z);have a:decide (p.1≠k)=true:=by simp [e]
   have b:decide (q.1≠k)=true:=by simp [e']
   rw[if_pos a,if_pos b];exact .cons ⟨h1,h2⟩ ih
def KV.length {kvs:List (κ × V)}{vs:List (κ × Value)}(r:KV kvs vs):kvs.length=vs.length:=Paired.length r
def JG (kvs:List (κ × V))(k:κ):(zE kvs k).length<=kvs.length:=Wq _ _
end
def Dg {P:Vt}{w:V2}{k:Key}{u:Value}(r:RelV (kV k) u):(c7 P w).is k u=true:=by
 cases k with
 | inl i=>obtain⟨t,e⟩:=(show ∃ t,u=X7 i t from r);subst e;exact zc P w i t
 | inr x=>obtain⟨t,e⟩:=(show ∃ t,u=abi x t from r);subst e;exact zL P w x t
theorem yj {P:Vt}{w:V2}:∀ {ks:List Key} {us:C9},Vals (ks.map kV) us->ItemsAre (c7 P w) ks us
 | [],_,r=>by rw[List.map_nil] at r;cases r;exact .nil
 | k::ks,_,r=>by
  rw[Wk] at r;cases r with
  | cons h t=>exact .cons (Dg h) (yj t)
abbrev KT (H:Hp):List (List Key × V)->List (List Key × Addr × Value)->Prop:=Paired fun p q=>p.1=q.1/\H q.2.1=some (.tup (p.1.map kV))/\RelV p.2 q.2.2
def KT.val {H:Hp}{kvs:List (List Key × V)}{xs:List (List Key × Addr × Value)}(r:KT H kvs xs)(k:List Key):ue (tK kvs k) ((atKey xs k).map (·.2)):=by
 induction r with
 | nil=>exact Yj
 | @cons p q ps qs h t ih =>
  obtain⟨h1,_,h2⟩:=h;by_cases e:p.1=k
  ·have e':q.1=k:=h1.symm.trans e;have b:atKey (q::qs) k=some q.2:=by simp [atKey,Zw,e']
   rw[qF e,b];exact h2
  ·have e':¬ q.1=k:=fun z=>e (h1.trans z);have b:atKey (q::qs) k=atKey qs k:=by simp [atKey,Zw,e']
   rw[nA e,b];exact ih
def KT.repl {H:Hp}{kvs:List (List Key × V)}{xs:List (List Key × Addr × Value)}(r:KT H kvs xs)(k:List Key){y:V}{u:Value}(ry:RelV y u) :
  KT H (kvs.map fun kv=>if kv.1=k then (kv.1,y) else kv) (xs.map (putAt k u)):=by
 induction r with
 | nil=>exact .nil
 | @cons p q ps qs h t ih =>
  rw[Wk,Wk];refine .cons ?_ ih;obtain⟨h1,h2,h3⟩:=h;unfold putAt;by_cases e:p.1=k;{rw[if_pos e,if_pos (h1.symm.trans e)];exact⟨h1,h2,ry⟩};{rw[if_neg e,if_neg (fun z=>e (h1.trans z))];exact⟨h1,h2,h3⟩}
def KT.put {H:Hp}{kvs:List (List Key × V)}{xs:List (List Key × Addr × Value)}(r:KT H kvs xs)(k:List Key){b:Addr}{y:V}{u:Value}(hb:H b=some (.tup (k.map kV)))(ry:RelV y u) :
  KT H (putK kvs k y) (storedH xs k b u):=by
 have e:(kvs.any fun kv=>decide (kv.1=k))=(atKey xs k).isSome:=by
  rw[qy,(r.val k).jT,abM]
 unfold putK storedH;rw[e];by_cases q:(atKey xs k).isSome=true;{rw[if_pos q,if_pos q];exact r.repl k ry};{rw[if_neg q,if_neg q];exact Paired.snoc r ⟨U,hb,ry⟩}
def KT.keeps {H H':Hp}{kvs:List (List Key × V)}{xs:List (List Key × Addr × Value)}(r:KT H kvs xs)(ht:∀ b ys,H b=some (.tup ys)->H' b=some (.tup ys)):KT H' kvs xs :=
 Paired.RK r fun _ _ z=>⟨z.1,ht _ _ z.2.1,z.2.2⟩
section
variable {P:Vt}{w:V2}{H:Hp}{h:Wg}{a:Addr}
def QK {u:HO}(ok:HOk P w H h)(e:Rd H a u):dN P w H h a u:=e.ok ok
def xG {kvs:List (Key × V)}(ok:HOk P w H h)(e:Rd H a (.dK kvs)):kvs.length<=sizeLine/\(a == YW)=false/\∃ vs,KV kvs vs/\h.DictOf (c7 P w) a vs :=
 show dN P w H h a (.dK kvs) from QK ok e
def Ec {kvs:List (Key × V)}(ok:HOk P w H h)(e:H a=some (.dK kvs)):kvs.length<=sizeLine/\(a == YW)=false/\∃ vs,KV kvs vs/\h.DictOf (c7 P w) a vs:=xG ok (.inl e)
def xm {ks:List Key}(ok:HOk P w H h)(e:H a=some (.tup (ks.map kV))):(abT (c7 P w)).is h ks a:=by
 obtain⟨_,its,r,o,h1,h2,n,h3⟩:=(show dN P w H h a (.tup (ks.map kV)) from ok a _ e);exact⟨o,its.toArray,n,h1,h2,h3,by simpa using yj r⟩
def Ds {kvs:List (List Key × V)}(ok:HOk P w H h)(e:Rd H a (.dT kvs)):kvs.length<=sizeLine/\(a == YW)=false ∧
  ∃ xs,KT H kvs xs/\h.DictOfH (abT (c7 P w)) a xs:=by
 obtain⟨z,y,xs,r,o,es,ep,h1,h2,h3,h4,h5⟩:=(show dN P w H h a (.dT kvs) from QK ok e);refine⟨z,y,xs,r,o,es,ep,h1,h2,h3,h4,fun x hx=>?_,h5⟩;have all:∀ {l:List (List Key × V)} {m:List (List Key × Addr × Value)},KT H l m->∀ x∈m,(abT (c7 P w)).is h x.1 x.2.1:=by
  intro l m q
  induction q with
  | nil=>intro x hx;exact nomatch hx
  | @cons p q ps qs hq t ih =>
   intro x hx;rcases List.mem_cons.mp hx with e | hx;{subst e;exact xm ok (by rw[← hq.1];exact hq.2.1)};{exact ih x hx}
 exact all r x hx
def Tg {kvs:List (List Key × V)}(ok:HOk P w H h)(e:H a=some (.dT kvs)):kvs.length<=sizeLine/\(a == YW)=false ∧
  ∃ xs,KT H kvs xs/\h.DictOfH (abT (c7 P w)) a xs:=Ds ok (.inl e)
end
def rT (H:Hp)(a:Addr)(y:V)(r:Option V):Prop :=
 (∃ kvs k,Rd H a (.dK kvs)/\y=kV k/\r=tK kvs k)∨∃ kvs k b,Rd H a (.dT kvs)/\y = .ref b/\H b=some (.tup (k.map kV))/\r=tK kvs k
def M7 (H:Hp)(a:Addr)(y v:V)(H':Hp):Prop :=
 (∃ kvs k,H a=some (.dK kvs)/\y=kV k/\kvs.length < sizeLine/\H'=upd H a (.dK (putK kvs k v))) ∨
 ∃ kvs k b,H a=some (.dT kvs)/\y = .ref b/\H b=some (.tup (k.map kV))/\kvs.length < sizeLine/\H'=upd H a (.dT (putK kvs k v))
theorem rT.k {H:Hp}{a:Addr}{kvs:List (Key × V)}{k:Key}(e:H a=some (.dK kvs)):rT H a (kV k) (tK kvs k):=.inl ⟨kvs,k,.inl e,U,U⟩
theorem M7.k {H:Hp}{a:Addr}{kvs:List (Key × V)}{k:Key}{v:V}(e:H a=some (.dK kvs))(hl:kvs.length < sizeLine):M7 H a (kV k) v (upd H a (.dK (putK kvs k v))):=.inl ⟨kvs,k,e,U,hl,U⟩
section
variable {X:Cx}{ZY:C1}{σ:St}{H:Hp}{s:U8}{a:Addr}{y v:V}{u r:Value}{o:Option V}{A:V1}{E:C4}
def Inv.big (I:Inv X ZY σ H s):YW < s.heap.objs.size:=by
 have h:Vu < s.heap.objs.size:=(I.mod.glob.keeps I.bk).lt;exact aaP (by decide) h
def Gk {Q:C4}(hu:A.units+1 < cLine)(I:Inv X ZY σ H s)(g:rT H a y (some v))(ry:RelV y u)(h:∀ w' s',Inv X ZY σ H s'->RelV v w'->Q w' s') :
  Vh (Vl X.prog X.w) A (abg (.ref a) u) Q E s:=by
 rcases g with⟨kvs,k,e,ey,l⟩ | ⟨kvs,k,b,e,ey,eb,l⟩;{subst ey;obtain⟨z,hd,vs,rel,dd⟩:=xG I.hok e;obtain⟨w',hw,rw'⟩:=ue.some_of (v:=v) (o:=abf vs k) (by rw[l];exact rel.val k);exact wpAny_getItem_of (Dg ry) dd.mapOf hw (h w' _ (I.tok _) rw')};{subst ey;cases (show u=Vq b from ry);obtain⟨z,hd,xs,rel,dd⟩:=Ds I.hok e;obtain⟨w',hw,rw'⟩:=ue.some_of (v:=v) (o:=(atKey xs k).map (·.2)) (by rw[l];exact rel.val k);obtain⟨p,hp,hp2⟩:=Option.map_eq_some_iff.mp hw;refine wpAny_getItem_heap (aal hu) (xm I.hok eb) dd hp ?_;rw[hp2];exact h w' _ (I.tok _) rw'}
def Uk {Q:C4}(hu:A.units+1 < cLine)(I:Inv X ZY σ H s)(g:rT H a y o)(ry:RelV y u)(h:∀ s',Inv X ZY σ H s'->Q (.bool o.isSome) s') :
  Vh (Vl X.prog X.w) A (Xm .In u (.ref a)) Q E s:=by
 rcases g with⟨kvs,k,e,ey,l⟩ | ⟨kvs,k,b,e,ey,eb,l⟩;{subst ey;obtain⟨z,hd,vs,rel,dd⟩:=xG I.hok e;refine wpAny_in_of (Dg ry) hd dd.mapOf ?_;rw[← (rel.val k).jT,← l];exact h _ (I.tok _)};{subst ey;cases (show u=Vq b from ry);obtain⟨z,hd,xs,rel,dd⟩:=Ds I.hok e;refine wpAny_in_heap (aal hu) (xm I.hok eb) hd dd ?_;have q:=(rel.val k).jT;rw[abM] at q;rw[← q,← l];exact h _ (I.tok _)}
def MP {Q:C4}(hu:A.units+1 < cLine)(I:Inv X ZY σ H s)(g:rT H a y o)(ry:RelV y u)(h:∀ s',Inv X ZY σ H s'->Q (.bool (!o.isSome)) s') :
  Vh (Vl X.prog X.w) A (Xm .NotIn u (.ref a)) Q E s:=by
 rcases g with⟨kvs,k,e,ey,l⟩ | ⟨kvs,k,b,e,ey,eb,l⟩;{subst ey;obtain⟨z,hd,vs,rel,dd⟩:=xG I.hok e;refine wpAny_notIn_of (Dg ry) hd dd.mapOf ?_;rw[← (rel.val k).jT,← l];exact h _ (I.tok _)};{subst ey;cases (show u=Vq b from ry);obtain⟨z,hd,xs,rel,dd⟩:=Ds I.hok e;refine wpAny_notIn_heap (aal hu) (xm I.hok eb) hd dd ?_;have q:=(rel.val k).jT;rw[abM] at q;rw[← q,← l];exact h _ (I.tok _)}
def Ad {h':Wg}{t':Nat}{ob:HO}(I:Inv X ZY σ H s)(mu:Mut (H a))(hs:Yv a s.heap h')(he:∃ q,h'.get? a=some q)(new:dN X.prog X.w (upd H a ob) h' a ob) :
  Inv X ZY σ (upd H a ob) { s with heap:=h',toks:=t' } :=
 I.write (x:=a) (e:=a) mu (.inl U) (fun b q hb z=>(hs.2 b hb).trans z) he new
def Iz {P:Vt}{w:V2}{H':Hp}{h':Wg}{kvs:List (Key × V)}{vs:List (Key × Value)}(z:kvs.length<=sizeLine)(hd:(a == YW)=false)(rel:KV kvs vs)(dd:h'.DictOf (c7 P w) a vs) :
  dN P w H' h' a (.dK kvs):=⟨z,hd,vs,rel,dd⟩
def Im {H':Hp}{Q:Unit->U8->Prop}(hu:A.units+1 < cLine)(I:Inv X ZY σ H s)(g:M7 H a y v H')(ry:RelV y u)(rv:RelV v r)(h:∀ s',Inv X ZY σ H' s'->Q () s') :
  Vh (Vl X.prog X.w) A (setItem (.ref a) u r) Q E s:=by
 rcases g with⟨kvs,k,e,ey,l,eH⟩ | ⟨kvs,k,b,e,ey,eb,l,eH⟩
 ·subst ey eH;obtain⟨z,hd,vs,rel,dd⟩:=Ec I.hok e;have hz:vs.length<=sizeLine:=by rw[← rel.length];exact z
  have hl:(putK kvs k v).length<=sizeLine:=by have:=rM kvs k v;lia
  refine wpAny_setItem_pairs (hsz:=hz) (Dg ry) dd fun h' dd' hs=>h _ ?_;have he:∃ q,h'.get? a=some q:=let ⟨q,_,_,hq,_⟩:=dd';⟨q,hq⟩;exact Ad I (by rw[e];exact Yj) hs he (Iz hl hd (rel.put k rv) dd')
 ·subst ey eH;cases (show u=Vq b from ry);obtain⟨z,hd,xs,rel,dd⟩:=Tg I.hok e;have hz:xs.length<=sizeLine:=by rw[← Paired.length rel];exact z
  have hl:(putK kvs k v).length<=sizeLine:=by have:=rM kvs k v;lia
  refine wpAny_setItem_heap (hsz:=hz) (aal hu) (xm I.hok eb) dd fun h' dd' hs=>h _ ?_;obtain⟨q,es,ep,hq,h2,h3,h4,_,h5⟩:=dd';refine Ad I (by rw[e];exact Yj) hs ⟨q,hq⟩ ⟨hl,hd,_,(rel.put k eb rv).keeps fun c ys ec=>?_,q,es,ep,hq,h2,h3,h4,h5⟩;rw[aF (SX ec e (fun z=>nomatch z))];exact ec
end
section
variable {X:Cx}{ZY:C1}{σ:St}{H:Hp}{s:U8}{a:Addr}{kvs:List (Key × V)}{k:Key}{u:Value}{A:V1}{E:C4}
def Te {v:V}{more:C9}{Q:C4}(I:Inv X ZY σ H s)(e:H a=some (.dK kvs))(ry:RelV (kV k) u)(l:tK kvs k=some v)(hm:more=[]∨∃ x,more=[x])
  (h:∀ w' s',Inv X ZY σ (upd H a (.dK (zE kvs k))) s'->RelV v w'->Q w' s'):Vh (Vl X.prog X.w) A (call (.builtin "dict.pop") (.ref a::u::more)) Q E s:=by
 obtain⟨z,hd,vs,rel,dd⟩:=Ec I.hok e;obtain⟨w',hw,rw'⟩:=ue.some_of (v:=v) (o:=abf vs k) (by rw[← l];exact rel.val k);have hp:(keyPart u).isSome=true:=by
  cases k with
  | inl i=>obtain⟨t,q⟩:=(show ∃ t,u=X7 i t from ry);subst q;rfl
  | inr x=>obtain⟨t,q⟩:=(show ∃ t,u=abi x t from ry);subst q;rfl
 have ha:aam "dict.pop" ⟨.ref a::u::more,[]⟩:=by
  rcases hm with q | ⟨x,q⟩;{subst q;exact PySem.F.args_dict_pop_2 _ _};{subst q;exact PySem.F.args_dict_pop_3 _ _ _}
 refine call_meetsIn PySem.F.slot_dict_pop dd.typeIs PySem.F.entry_dict_pop ha (meets_dict_pop_there (c7 X.prog X.w) a (Dg ry) more hm hp)
  ⟨vs,w',dd,by rw[← rel.length];exact z,hw,fun h' dd' hs=>h w' _ ?_ rw'⟩
 have he:∃ q,h'.get? a=some q:=let ⟨q,_,_,hq,_⟩:=dd';⟨q,hq⟩;exact Ad I (by rw[e];exact Yj) hs he (Iz (VH (JG kvs k) z) hd (rel.drop k) dd')
def Sv {Q:C4} (I:Inv X ZY σ H s) (e:Rd H a (.dK kvs)) (h:∀ t s',Inv X ZY σ H s'->Q (.int kvs.length t) s'):Vh (Vl X.prog X.w) A (call (.builtin "len") [.ref a]) Q E s:=by
 obtain⟨z,hd,vs,rel,dd⟩:=xG I.hok e;refine call_len_dict hd dd (by rw[← rel.length];rw[ab9] at z;lia) ?_;rw[← rel.length];exact h _ _ (I.tok _)
end
def TF (i:Expr):Prop:=∀ ov iv,ab8 i false ov iv=operate [ov,iv] (abg ov iv)
def Ov {prog:Vt}{w:V2}{A:V1}{E:C4}{s:U8}{env:Env}{value slice:Expr}{pos:YS}{T id:String}{Q:C4}
  (hl:aak (.type T) "__getitem__" = pure (some (.builtin id))) (hs:TF slice)
  (h:Vh (Vl prog w) A (Wy value env) (fun o s₁=>Vh (Vl prog w) A (Wy slice env) (fun i s₂=>s₂.TypeIs o T/\Vh (Vl prog w) A (abg o i) Q E s₂) E s₁) E s) :
  Vh (Vl prog w) A (Wy (.Subscript value slice pos) env) Q E s:=by
 refine Subscript_ (Wc h (fun o s₁ h₁=>Wc h₁ (fun i s₂ h₂=>?_) fun _ _ x=>x) fun _ _ x=>x);obtain⟨hT,h₂⟩:=h₂;unfold abr;refine U6 ?_;rw[getitemInPython_of_ne hT.not_modules];refine U6 (Z7 hT hl ?_);have fin:Vh (Vl prog w) A (ab8 slice false o i) (fun r s₃=>Vh (Vl prog w) A (letTemporaryGo value o r >>= fun _=>pure r) Q E s₃) E s₂:=by
  rw[hs o i];exact wpAny_operating (Wc h₂ (fun r s₃ h₃=>U6 (wpAny_letTemporaryGo (Va h₃))) fun _ _ x=>x)
 first
  | exact Va (U6 fin)
  | exact U6 (Va (U6 fin))
  | exact U6 fin
def Aa {X:Cx} {ZY:C1} {σ:St} {H:Hp} {s:U8} {a:Addr} {y:V} {o:Option V} (I:Inv X ZY σ H s) (g:rT H a y o):s.TypeIs (.ref a) "dict":=by
 rcases g with⟨kvs,k,e,_,_⟩ | ⟨kvs,k,b,e,_,_,_⟩;{obtain⟨_,_,vs,_,dd⟩:=xG I.hok e;exact dd.typeIs};{obtain⟨_,_,xs,_,dd⟩:=Ds I.hok e;exact dd.typeIs}
def RJ (td ty:TE):TE:=fun σ H Q=>td σ H fun x H1=>ty σ H1 fun y H2=>∃ a v,x = .ref a/\rT H2 a y (some v)/\Q v H2
def U4 (ty td:TE):TE:=fun σ H Q=>ty σ H fun y H1=>td σ H1 fun x H2=>∃ a o,x = .ref a/\rT H2 a y o/\Q (.bl o.isSome) H2
def Nj (ty td:TE):TE:=fun σ H Q=>ty σ H fun y H1=>td σ H1 fun x H2=>∃ a o,x = .ref a/\rT H2 a y o/\Q (.bl (!o.isSome)) H2
def Sd (td ty tv:TE):TS:=fun D σ H=>tv σ H fun v H1=>td σ H1 fun x H2=>ty σ H2 fun y H3=>∃ a H4,x = .ref a/\M7 H3 a y v H4/\D.nx σ H4
section
variable {X:Cx}{o i e value:Expr}{pos pos' tpos:YS}{td ty tv:TE}
def jM (hu:X.A.units+1 < cLine)(ho:PE X o td)(hi:PE X i ty)(hs:TF i):PE X (.Subscript o i pos) (RJ td ty):=by
 intro ZY s σ H Q I h;refine Ov PySem.F.slot_dict_getitem.lookup hs (thn (ho ZY s σ H _ I h) fun u s1 ⟨x,H1,I1,rx,q1⟩=>thn (hi ZY s1 σ H1 _ I1 q1) fun iv s2 ⟨y,H2,I2,ry,a,v,ex,g,q2⟩=>?_);subst ex;obtain rfl:u=Vq a:=rx;exact⟨Aa I2 g,Gk hu I2 g ry fun w' s3 I3 rw'=>⟨v,H2,I3,rw',q2⟩⟩
def Ro (hu:X.A.units+1 < cLine)(hi:PE X i ty)(ho:PE X o td):PC X .In i o (U4 ty td):=by
 intro ZY s σ H Q I h;refine thn (hi ZY s σ H _ I h) fun iv s1 ⟨y,H1,I1,ry,q1⟩=>thn (ho ZY s1 σ H1 _ I1 q1) fun u s2 ⟨x,H2,I2,rx,a,ov,ex,g,q2⟩=>?_;subst ex;obtain rfl:u=Vq a:=rx;exact Uk hu I2 g ry fun s3 I3=>⟨.bl ov.isSome,H2,I3,U,q2⟩
def Fe (hu:X.A.units+1 < cLine)(hi:PE X i ty)(ho:PE X o td):PC X .NotIn i o (Nj ty td):=by
 intro ZY s σ H Q I h;refine thn (hi ZY s σ H _ I h) fun iv s1 ⟨y,H1,I1,ry,q1⟩=>thn (ho ZY s1 σ H1 _ I1 q1) fun u s2 ⟨x,H2,I2,rx,a,ov,ex,g,q2⟩=>?_;subst ex;obtain rfl:u=Vq a:=rx;exact MP hu I2 g ry fun s3 I3=>⟨.bl (!ov.isSome),H2,I3,U,q2⟩
def zZ (hu:X.A.units+1 < cLine)(ho:PE X o td)(hi:PE X i ty)(hv:PE X value tv)(hs:ZR value (some (.Subscript o i pos')) pos.line X.env=pure false) :
  PS X (.Assign [.Subscript o i pos'] value pos) (Sd td ty tv):=by
 intro ZY s σ H D I h;refine wpAny_Assign_Subscript (thn (hv ZY s σ H _ I h) fun r s1 ⟨v,H1,I1,rv,q1⟩=>thn (ho ZY s1 σ H1 _ I1 q1) fun u s2 ⟨x,H2,I2,rx,q2⟩=>thn (hi ZY s2 σ H2 _ I2 q2) fun iv s3 ⟨y,H3,I3,ry,a,H4,ex,g,q3⟩=>?_) hs;subst ex;obtain rfl:u=Vq a:=rx;exact Im hu I3 g ry rv fun s4 I4=>⟨σ,H4,I4,q3⟩
end
def Kl {P:Vt}{w:V2}{H:Hp}(h:Wg)(hb:YW < h.objs.size):dN P w H (h.push { cls:=.type "dict",data:=.dict #[] }) h.objs.size (.dK []) :=
 ⟨V3 _,beq_eq_false_iff_ne.mpr (Wz (Vw hb)),[],.nil,Heap.DictOf.new h⟩
def Rr:TE:=fun _ H Q=>∀ p,H p=none->Q (.ref p) (upd H p (.dK []))
section
variable {X:Cx}{pos:YS}
def vJ:PE X (.Dict [] [] pos) Rr:=fun ZY s σ H Q I h =>
 wpAny_Dict_empty ⟨.ref s.heap.objs.size,_,I.laid (a:=s.heap.objs.size) (o:=.dK []) (t':=s.toks) (fun _ _ q=>U9 _ q) (Vb _) (Kl s.heap I.big),U,h _ (I.hok.fresh (Vb _))⟩
end
structure M1 (X:Cx)(o:Expr)(m:VB)(apos:YS)(e:Expr)(cpos:YS):Prop where
 base:Yy o m X.env (Wy o X.env)=Wy o X.env
 few:((Xj cpos (Vx [e] X.env)).all (fun x=>!x.1) && (Z2 cpos (Yq [] X.env)).all (fun x=>x.1.isSome)
  && decide (([e]:Do).length+([]:C6).length+(if ([]:C6).isEmpty then 0 else 1) < 30))=true
 line:(apos.endLine == cpos.line)=true
 trees:Xj cpos (Vx [e] X.env)=[(false,Wy e X.env)]
def IsD (H:Hp)(a:Addr):Prop:=(∃ kvs,Rd H a (.dK kvs))∨∃ kvs,Rd H a (.dT kvs)
def PJ {X:Cx}{ZY:C1}{σ:St}{H:Hp}{s:U8}{a:Addr}(I:Inv X ZY σ H s)(d:IsD H a) :
  s.TypeIs (.ref a) "dict"/\(∀ b,Vq a = .ref b->∃ ob,s.heap.get? b=some ob/\ob.dict=none)/\(a == YW)=false:=by
 rcases d with⟨kvs,e⟩ | ⟨kvs,e⟩;{obtain⟨_,hd,vs,_,dd⟩:=xG I.hok e;refine⟨dd.typeIs,fun b q=>?_,hd⟩;cases q;obtain⟨ob,_,_,h1,h2,_⟩:=dd;exact⟨ob,h1,h2.2.1⟩};{obtain⟨_,hd,xs,_,dd⟩:=Ds I.hok e;refine⟨dd.typeIs,fun b q=>?_,hd⟩;cases q;obtain⟨ob,_,_,h1,h2,_⟩:=dd;exact⟨ob,h1,h2.2.1⟩}
section
variable {X:Cx}{ZY:C1}{σ:St}{H:Hp}{s:U8}{a:Addr}{y d:V}{u r:Value}{o:Option V}{A:V1}{E:C4}
end
def Qv (td ty:TE):TE:=fun σ H Q=>td σ H fun x H1=>∃ a,x = .ref a/\IsD H1 a/\ty σ H1 fun y H2=>∃ kvs k v,H2 a=some (.dK kvs)/\y=kV k/\tK kvs k=some v/\Q v (upd H2 a (.dK (zE kvs k)))
section
variable {X:Cx}{o e f:Expr}{apos cpos:YS}{td ty tx:TE}
def KJ (ho:PE X o td) (he:PE X e ty) (m:M1 X o "pop" apos e cpos):PE X (.Call (.Attribute o "pop" apos) [e] [] cpos) (Qv td ty):=by
 intro ZY s σ H Q I h;refine wpAny_Call_method m.base m.few m.line PySem.F.plainAttrs_dict PySem.F.slot_dict_pop PySem.F.type_dict_pop (thn (ho ZY s σ H _ I h) fun u s1 ⟨x,H1,I1,rx,a,ex,d,q1⟩=>?_);subst ex;obtain rfl:u=Vq a:=rx;obtain⟨t1,t2,_⟩:=PJ I1 d;refine⟨t1,t2,?_⟩;rw[m.trees];refine aaT U (Calls.evalArgs_plain (aar (thn (he ZY s1 σ H1 _ I1 q1) fun iv s2 ⟨y,H2,I2,ry,kvs,k,v,ea,ey,l,q2⟩=>aay ?_)));subst ey;exact Te I2 ea ry l (.inl U) fun w' s3 I3 rw'=>⟨v,_,I3,rw',q2⟩
end
section
variable {X:Cx}{ZY:C1}{σ:St}{H:Hp}{s:U8}{a:Addr}{kvs:List (Key × V)}{A:V1}{E:C4}
def Ka {Q:C4} (I:Inv X ZY σ H s) (e:Rd H a (.dK kvs)) (h:∀ p s',H p=none->Inv X ZY σ (upd H p (.dK kvs)) s'->Q (.ref p) s'):Vh (Vl X.prog X.w) A (call (.type "dict") [.ref a]) Q E s:=by
 obtain⟨z,hd,vs,rel,dd⟩:=xG I.hok e;refine kt_call_dict hd dd (by rw[← rel.length];exact z) fun h' dd' hs=>?_;refine h _ _ (I.hok.fresh (Vb _)) (I.laid (a:=s.heap.objs.size) (o:=.dK kvs) (t':=s.toks) (fun b q hq=>?_) (Vb _) (Iz z (beq_eq_false_iff_ne.mpr (Wz (Vw I.big))) rel dd'));exact (hs.2 b (Vw (Vj hq))).trans (U9 _ hq)
end
section
variable {X:Cx}{ZY:C1}{σ:St}{H:Hp}{s:U8}{a:Addr}{y:V}{u:Value}{A:V1}{E:C4}
end
def d9.iT {k:Nat}{A:V1}(r:d9 k A):A.units+1 < cLine:=by have:=r.un;lia
section
variable {X:Cx}{ZY:C1}{σ:St}{H:Hp}{s:U8}{a b:Addr}{v:V}{r:Value}{A:V1}{E:C4}
end
inductive HasDef (K:Vi)(x:VB)(st:Stmt)(f:Addr):Prop where
 | mk {od an:C7} {sl:Array (C5)} {oc kV dc pm cd ct:Value} (a:PySem.W.nsIn K Vu x=some (some (.ref f))) (l:K.lookup f=some ⟨oc,od,.func (Yg x x (cY st) (bG st) (az st) .none kV dc pm an cd ct),sl⟩) (c:Y9 K cd x=true) (k:Xa K (.ref f)=true):HasDef K x st f
section
variable {P:Vt}{w:V2}{K:VG}{mg:VB->Option Value}{base h:Wg}{x:VB}{st:Stmt}{f:Addr}{ps:List VB}{sp:Sp}{k:Nat}
def HasDef.name (q:HasDef K x st f)(X:K.In h)(G:h.Ns Vu mg):mg x=some (.ref f):=by
 obtain⟨a,l,c,k⟩:=q;exact Z0 X G a
def HasDef.df (q:HasDef K x st f)(X:K.In h)(G:h.Ns Vu mg)(hb:∀ fd,Fun K x x st f fd->Binds K fd ps [])(ok:∀ fd,Fun K x x st f fd->aZ P w K mg base CX0 k f fd ps sp):Df P w K mg base x k ps sp:=by
 obtain⟨a,l,c,k⟩:=q;have F:=mU l c k;exact⟨⟨_,_,ok _ F,Z0 X G a,k,hb _ F⟩⟩
def HasDef.law {y:VB}(q:HasDef K x st f)(hb:∀ (kV dc pm:Value) (an:C7) (cd ct:Value) (s:U8) (v:Value),aaU s (aa8 x x (cY st) (bG st) (az st) .none kV dc pm an cd ct) ⟨[v],[]⟩ [(y,v)]):∃ fd,Fun K x x st f fd/\∀ (s:U8) (v:Value),aaU s fd ⟨[v],[]⟩ [(y,v)]:=by
 obtain⟨a,l,c,k⟩:=q;exact⟨_,mU l c k,hb _ _ _ _ _ _⟩
theorem T7 {α:Type}:∀ {us:List α},us.length=1->∃ x0,us=[x0]
 | [x0],_=>⟨x0,U⟩
theorem Tr {α:Type}:∀ {us:List α},us.length=2->∃ x0 x1,us=[x0,x1]
 | [x0,x1],_=>⟨x0,x1,U⟩
theorem Ub {α:Type}:∀ {us:List α},us.length=3->∃ x0 x1 x2,us=[x0,x1,x2]
 | [x0,x1,x2],_=>⟨x0,x1,x2,U⟩
theorem Uw {α:Type}:∀ {us:List α},us.length=4->∃ x0 x1 x2 x3,us=[x0,x1,x2,x3]
 | [x0,x1,x2,x3],_=>⟨x0,x1,x2,x3,U⟩
theorem Ue {α:Type}:∀ {us:List α},us.length=5->∃ x0 x1 x2 x3 x4,us=[x0,x1,x2,x3,x4]
 | [x0,x1,x2,x3,x4],_=>⟨x0,x1,x2,x3,x4,U⟩
def bind1 {q a0:VB}(h:∀ (kV doc pm:Value) (an:C7) (cdv ct x0:Value),YZ (aa8 x q (cY st) (bG st) (az st) .none kV doc pm an cdv ct) ⟨[x0],[]⟩=pure [(a0,x0)]:=by intros;rfl):∀ fd,Fun K x q st f fd->Binds K fd [a0] []:=fun _ F=>F.binds fun kV doc pm an cdv ct us hl=>by
 obtain⟨x0,rfl⟩:=T7 hl;exact h kV doc pm an cdv ct x0
def bJ {q a0 a1:VB}(h:∀ (kV doc pm:Value) (an:C7) (cdv ct x0 x1:Value),YZ (aa8 x q (cY st) (bG st) (az st) .none kV doc pm an cdv ct) ⟨[x0,x1],[]⟩=pure [(a0,x0),(a1,x1)]:=by intros;rfl):∀ fd,Fun K x q st f fd->Binds K fd [a0,a1] []:=fun _ F=>F.binds fun kV doc pm an cdv ct us hl=>by
 obtain⟨x0,x1,rfl⟩:=Tr hl;exact h kV doc pm an cdv ct x0 x1
def fj {q a0 a1 a2:VB}(h:∀ (kV doc pm:Value) (an:C7) (cdv ct x0 x1 x2:Value),YZ (aa8 x q (cY st) (bG st) (az st) .none kV doc pm an cdv ct) ⟨[x0,x1,x2],[]⟩=pure [(a0,x0),(a1,x1),(a2,x2)]:=by intros;rfl):∀ fd,Fun K x q st f fd->Binds K fd [a0,a1,a2] []:=fun _ F=>F.binds fun kV doc pm an cdv ct us hl=>by
 obtain⟨x0,x1,x2,rfl⟩:=Ub hl;exact h kV doc pm an cdv ct x0 x1 x2
def Ar {q a0 a1 a2 a3:VB}(h:∀ (kV doc pm:Value) (an:C7) (cdv ct x0 x1 x2 x3:Value),YZ (aa8 x q (cY st) (bG st) (az st) .none kV doc pm an cdv ct) ⟨[x0,x1,x2,x3],[]⟩=pure [(a0,x0),(a1,x1),(a2,x2),(a3,x3)]:=by intros;rfl):∀ fd,Fun K x q st f fd->Binds K fd [a0,a1,a2,a3] []:=fun _ F=>F.binds fun kV doc pm an cdv ct us hl=>by
 obtain⟨x0,x1,x2,x3,rfl⟩:=Uw hl;exact h kV doc pm an cdv ct x0 x1 x2 x3
def OD {q a0 a1 a2 a3 a4:VB}(h:∀ (kV doc pm:Value) (an:C7) (cdv ct x0 x1 x2 x3 x4:Value),YZ (aa8 x q (cY st) (bG st) (az st) .none kV doc pm an cdv ct) ⟨[x0,x1,x2,x3,x4],[]⟩=pure [(a0,x0),(a1,x1),(a2,x2),(a3,x3),(a4,x4)]:=by intros;rfl):∀ fd,Fun K x q st f fd->Binds K fd [a0,a1,a2,a3,a4] []:=fun _ F=>F.binds fun kV doc pm an cdv ct us hl=>by
 obtain⟨x0,x1,x2,x3,x4,rfl⟩:=Ue hl;exact h kV doc pm an cdv ct x0 x1 x2 x3 x4
end
structure Dm2 (P:Vt)(w:V2)(K:Vi)(mg:VB->C5)(base:Wg)(C:Addr)(m:VB)(k:Nat)(ps:DF)(sp:Sp):Prop where
 ex:∃ (f:Addr) (fd:Wh),aZ P w K mg base CX0 k f fd ps sp/\Cls K C/\Meth K C m f/\Binds K fd ps []
structure Dk2 (P:Vt)(w:V2)(K:Vi)(mg:VB->C5)(base:Wg)(x:VB)(C:Addr)(k:Nat)(ps:DF)(sp:Sp):Prop where
 ex:∃ (f:Addr) (fd:Wh),aZ P w K mg base CX0 k f fd ps sp/\Mk K C f/\mg x=some (.ref C)/\Binds K fd ps []
section
variable {X:Cx}{k j:Nat}{x m:VB}{C:Addr}{ps:DF}{sp:Sp}{p pos apos:YS}{o e:Expr}{es:Do}{to:TE}{t:TA}{f:VB}
def Ed {pl:Sem Bool}(D:Dm2 X.prog X.w X.K X.mg X.base C m k ps sp)(hr:d9 j X.A)(ho:PE X o to)(ha:PA X (e::es) t)(hk:k<=j:=by first | decide | exact Vb _ | lia)
  (hst:Vx (e::es) X.env=(false,Wy e X.env)::Vx es X.env:=by rfl) (hpl:(Xj pos (Vx es X.env)).any (·.1)=false:=by rfl)
  (ht:Wy (.Call (.Attribute o m apos) (e::es) [] pos) X.env=(do
   let ov ← Wy o X.env
   YJ apos.atName
   let (f,first) ← Zg [ov] (ZC ov m pl)
   aaF pos f first (Xj pos (Vx (e::es) X.env)) (Z2 pos (Yq [] X.env))):=by rfl) :
  PE X (.Call (.Attribute o m apos) (e::es) [] pos) (DN C m sp [] E0 to t):=by
 obtain⟨f,fd,F,c,hm,hb⟩:=D.ex;exact Hn ho c hm F (hr.mono hk) hb .nil lR ha hst hpl ht
def Lj {pl:Sem Bool}(D:Dm2 X.prog X.w X.K X.mg X.base C m k ps sp)(hr:d9 j X.A)(ho:PE X o to)(hk:k<=j:=by first | decide | exact Vb _ | lia)
  (ht:Wy (.Call (.Attribute o m apos) [] [] pos) X.env=(do
   let ov ← Wy o X.env
   YJ apos.atName
   let (f,first) ← Zg [ov] (ZC ov m pl)
   aaF pos f first (Xj pos (Vx [] X.env)) (Z2 pos (Yq [] X.env))):=by rfl) :
  PE X (.Call (.Attribute o m apos) [] [] pos) (DN C m sp [] E0 to wM):=by
 obtain⟨f,fd,F,c,hm,hb⟩:=D.ex;exact Bx ho c hm F (hr.mono hk) hb .nil lR ht
def Eh (D:Dk2 X.prog X.w X.K X.mg X.base x C k ps sp)(hr:d9 j X.A)(ha:PA X (e::es) t)(hk:k+1<=j:=by first | decide | exact Vb _ | lia)(hg:Gl X x:=by rfl)
  (hdb:(x == ("__debug__" : VB))=false:=by decide) (he:Vx (e::es) X.env=(false,Wy e X.env)::Vx es X.env:=by rfl) (hpl:(Xj pos (Vx es X.env)).any (·.1)=false:=by rfl) :
  PE X (.Call (.Name x p) (e::es) [] pos) (Jo C sp [] E0 t):=by
 obtain⟨f,fd,F,M,hm,hb⟩:=D.ex;exact Ni M F (hr.mono hk) hg hm hb .nil lR ha hdb he hpl
def Qm (D:Dk2 X.prog X.w X.K X.mg X.base x C k ps sp)(hr:d9 j X.A)(hk:k+1<=j:=by first | decide | exact Vb _ | lia)(hg:Gl X x:=by rfl)
  (hdb:(x == ("__debug__" : VB))=false:=by decide):PE X (.Call (.Name x p) [] [] pos) (Jo C sp [] E0 wM):=by
 obtain⟨f,fd,F,M,hm,hb⟩:=D.ex;exact Jp M F (hr.mono hk) hg hm hb .nil lR hdb
def oh (K:VG)(hK:X.K=K)(he:PE X e to)(hb:Yy e f X.env (Wy e X.env)=Wy e X.env:=by rfl):PE X (.Attribute e f pos) (SM K to f):=by
 subst hK;exact Px he hb
end
section
variable {prog:Vt}{w:V2}{A:V1}{E:C4}{s:U8}
def Jw {t:Addr}{zs:C9}{R:C9->U8->Prop}(ht:s.heap.IsTuple t zs.toArray)(hz:zs.length<=sizeLine)
  (k:R zs { s with heap:=(s.heap.push (Z9 "list" #[] 0)).update s.heap.objs.size (Ys (·++zs.toArray)) }):Vh (Vl prog w) A (collect (.ref t)) R E s:=by
 obtain⟨o,ho,hc,m,hd⟩:=id ht;have old:(s.heap.push (Z9 "list" #[] 0)).get? t=some o:=U9 _ ho;have new:(s.heap.push (Z9 "list" #[] 0)).get? s.heap.objs.size=some (Z9 "list" #[] 0):=Vn _ U;unfold collect;apply U6;apply wpAny_runValue;apply Xh entry_proto_collect';apply U6 (m:=newList []);refine abq ?_;apply Va;refine⟨aaq _ (by decide+kernel),?_⟩;apply Xh entry_list_iadd';show Vh _ _ (YQ _ _ _) _ _ _;unfold YQ;apply U6;refine abC (T:="tuple") ⟨o,old,hc⟩ ?_;rw[if_pos (by rw[show (Yi "tuple" == Yi "tuple")=true from U];simp)];apply U6;apply listItems_at old hd;apply U6;apply listItems_at (xs:=#[]) (n:=0) new U;rw[if_neg (by simp)];apply U6;refine listUpdate_at (xs:=#[]) (n:=0) new U ?_ (V3 _) ?_
 ·apply Va;apply U6 (m:=load s.heap.objs.size);apply wpAny_load (get?_update_seq new _);show Vh _ _ (pure ((#[]:Array Value)++zs.toArray).toList) R E _;have e:((#[]:Array Value)++zs.toArray).toList=zs:=by simp
  rw[e];exact Va k
 ·have e:((#[]:Array Value)++zs.toArray).size=zs.length:=by simp
  show ((#[]:Array Value)++zs.toArray).size<=sizeLine+1;rw[e];exact Nat.le_succ_of_le hz
def Dn {t:Addr}{zs:C9}{ns:DC}{R:C4}(ht:s.heap.IsTuple t zs.toArray)(hi:Wv zs ns)(h64:zs.length < 64)
  (k:∀ (out:Array Value) (ms:DC),Wv out.toList ms->ms.Perm ns->ms.Pairwise (·<=·)->R (.ref (s.heap.objs.size+1)) { s with heap:=sortedAll s.heap zs out }):Vh (Vl prog w) A (call (.builtin "sorted") [.ref t]) R E s:=by
 apply aat kind_sorted plain_sorted entry_sorted (args_sorted1 _);unfold Yw.«sorted»;apply U6 (m:=checkCount "sorted" 1 1 _);apply Va;apply U6;apply Jw ht (Xb (aaP h64 (by decide)));apply U6;refine abq ?_ (hsz:=Xb (aaP h64 (by decide)));generalize eg:(s.heap.push (Z9 "list" #[] 0)).update s.heap.objs.size (Ys (·++zs.toArray))=g;have hg:g.objs.size=s.heap.objs.size+1:=by rw[← eg,Heap.size_update,size_push']
 have top:(g.push (Z9 "list" zs.toArray 0)).get? (s.heap.objs.size+1)=some (Z9 "list" zs.toArray 0):=by
  rw[← hg];exact Vn _ U
 show Vh _ _ _ _ _ { s with heap:=g.push (Z9 "list" zs.toArray 0) };rw[hg];apply U6;apply Ww;refine WW slot_list_sort ⟨_,top,U⟩ acf ?_ (args_list_sort _);{refine list_sort_tree top hi h64 fun out ms a1 a2 a3=>⟨_,U,?_⟩;have:=k out ms a1 a2 a3;unfold sortedAll at this;rw[eg] at this;exact Va ⟨_,U,this⟩}
end
section
variable {X:Cx}
inductive Mj (K:VG)(xs:List V)(H:Hp)(Q:VK):Prop where
 | mk (p:Addr) (ns:DC) (_:xs=[.ref p]) (_:SqT K H p (ns.map V.int)) (_:ns.length < 64) (_:∀ ms:DC,ms.Perm ns->ms.Pairwise (·<=·)->∀ l,H l=none->Q (.ref l) (upd H l (.lst (ms.map V.int))))
def Dj:fY X (.builtin "sorted") (Mj X.K):=by
 intro ZY s σ H xs us Q I r h;obtain⟨p,ns,rfl,hq,h64,q⟩:=h;obtain⟨u,rfl,ru⟩:=vals1 r;cases ru;obtain⟨its,rv,pl,hz⟩:=I.tuple hq;have hi:Wv its ns:=intsAre_of rv;refine Dn pl hi (by have:=hi.length;lia) fun out ns' a1 a2 a3=>?_;obtain⟨e,he⟩:=sortedAll_at s.heap its out;have hml:(ns'.map V.int).length<=sizeLine:=by
  rw[U7,a2.length_eq];exact Xb (Vc h64 (by decide))
 exact⟨.ref _,_,I.J2 U U (fun _ _=>sortedAll_old) (WY _) (iI a1) hml he,U,q ns' a2 a3 _ (I.hok.fresh (WY _))⟩
end
inductive ju (K:Vi)(x:VB)(C:Addr):Prop where
 | mk (a:PySem.W.nsIn K Vu x=some (some (.ref C))) (pg:ZX K C Str.empty=true) (hd:YK K C=true) (po:abJ K C=true) (sa:Wu K (.ref C) "__setattr__" = some (some (.builtin "object.__setattr__"))) (ms:acg K C=true) (kp:Xa K (.ref C)=true):ju K x C
inductive bO (K:Vi)(C:Addr)(m q:VB)(st:Stmt)(f:Addr):Prop where
 | mk {od an:C7} {sl:Array (C5)} {oc kV dc pm cd ct:Value} (a:Wu K (.ref C) m=some (some (.ref f))) (fn:abL K (.ref f)=true) (l:K.lookup f=some ⟨oc,od,.func (Yg m q (cY st) (bG st) (az st) .none kV dc pm an cd ct),sl⟩) (c:Y9 K cd q=true) (k:Xa K (.ref f)=true):bO K C m q st f
section
variable {P:Vt}{w:V2}{K:VG}{mg:VB->Option Value}{base h:Wg}{x m q:VB}{st:Stmt}{C f:Addr}{ps:List VB}{sp:Sp}{k:Nat}
def ju.cl (c:ju K x C):Cls K C:=by
 obtain⟨_,pg,hd,po,sa,_,_⟩:=c;exact⟨pg,hd,po,sa⟩
def bO.dm (o:bO K C m q st f)(c:ju K x C)(hb:∀ fd,Fun K m q st f fd->Binds K fd ps [])(ok:∀ fd,Fun K m q st f fd->aZ P w K mg base CX0 k f fd ps sp):Dm2 P w K mg base C m k ps sp:=by
 obtain⟨a,fn,l,cd,k⟩:=o;have F:=mU l cd k;exact⟨⟨_,_,ok _ F,c.cl,⟨a,fn,k⟩,hb _ F⟩⟩
def bO.dk (o:bO K C "__init__" q st f) (c:ju K x C) (X:K.In h) (G:h.Ns Vu mg) (hb:∀ fd,Fun K "__init__" q st f fd->Binds K fd ps []) (ok:∀ fd,Fun K "__init__" q st f fd->aZ P w K mg base CX0 k f fd ps sp):Dk2 P w K mg base x C k ps sp:=by
 obtain⟨a,fn,l,cd,k⟩:=o;obtain⟨n,_,_,_,_,ms,kp⟩:=c;have F:=mU l cd k;exact⟨⟨_,_,ok _ F,⟨ms,a,fn,kp⟩,Z0 X G n,hb _ F⟩⟩
end
structure Dmx (P:Vt)(w:V2)(K:Vi)(mg:VB->C5)(base:Wg)(C:Addr)(m:VB)(k:Nat)(ps:DF)(sp:Sp):Prop where
 ex:∃ (f:Addr) (fd:Wh),aZ P w K mg base (XL P w) k f fd ps sp/\Cls K C/\Meth K C m f/\Binds K fd ps []
section
variable {X:Cx}{k j:Nat}{m:VB}{C:Addr}{ps:DF}{sp:Sp}{pos apos:YS}{o e:Expr}{es:Do}{to:TE}{t:TA}{E:XK}
def yO {pl:Sem Bool}(D:Dmx X.prog X.w X.K X.mg X.base C m k ps sp)(hr:d9 j X.A)(hx:Passes (XL X.prog X.w) X E)(ho:PE X o to)(ha:PA X (e::es) t)(hk:k<=j:=by first | decide | exact Vb _ | lia)
  (hst:Vx (e::es) X.env=(false,Wy e X.env)::Vx es X.env:=by rfl) (hpl:(Xj pos (Vx es X.env)).any (·.1)=false:=by rfl)
  (ht:Wy (.Call (.Attribute o m apos) (e::es) [] pos) X.env=(do
   let ov ← Wy o X.env
   YJ apos.atName
   let (f,first) ← Zg [ov] (ZC ov m pl)
   aaF pos f first (Xj pos (Vx (e::es) X.env)) (Z2 pos (Yq [] X.env))):=by rfl) :
  PE X (.Call (.Attribute o m apos) (e::es) [] pos) (DN C m sp [] E to t):=by
 obtain⟨f,fd,F,c,hm,hb⟩:=D.ex;exact Hn ho c hm F (hr.mono hk) hb .nil hx ha hst hpl ht
def Ac {pl:Sem Bool}(D:Dmx X.prog X.w X.K X.mg X.base C m k ps sp)(hr:d9 j X.A)(hx:Passes (XL X.prog X.w) X E)(ho:PE X o to)(hk:k<=j:=by first | decide | exact Vb _ | lia)
  (ht:Wy (.Call (.Attribute o m apos) [] [] pos) X.env=(do
   let ov ← Wy o X.env
   YJ apos.atName
   let (f,first) ← Zg [ov] (ZC ov m pl)
   aaF pos f first (Xj pos (Vx [] X.env)) (Z2 pos (Yq [] X.env))):=by rfl) :
  PE X (.Call (.Attribute o m apos) [] [] pos) (DN C m sp [] E to wM):=by
 obtain⟨f,fd,F,c,hm,hb⟩:=D.ex;exact Bx ho c hm F (hr.mono hk) hb .nil hx ht
end
section
variable {P:Vt}{w:V2}{K:VG}{mg:VB->Option Value}{base h:Wg}{x m q:VB}{st:Stmt}{C f:Addr}{ps:List VB}{sp:Sp}{k:Nat}
def bO.dmx (o:bO K C m q st f)(c:ju K x C)(hb:∀ fd,Fun K m q st f fd->Binds K fd ps [])(ok:∀ fd,Fun K m q st f fd->aZ P w K mg base (XL P w) k f fd ps sp):Dmx P w K mg base C m k ps sp:=by
 obtain⟨a,fn,l,cd,k⟩:=o;have F:=mU l cd k;exact⟨⟨_,_,ok _ F,c.cl,⟨a,fn,k⟩,hb _ F⟩⟩
def HasDef.dx (q:HasDef K x st f)(X:K.In h)(G:h.Ns Vu mg)(hb:∀ fd,Fun K x x st f fd->Binds K fd ps [])(ok:∀ fd,Fun K x x st f fd->aZ P w K mg base (XL P w) k f fd ps sp):Dx P w K mg base x k ps sp:=by
 obtain⟨a,l,c,k⟩:=q;have F:=mU l c k;exact⟨⟨_,_,ok _ F,Z0 X G a,k,hb _ F⟩⟩
end
section
variable {X:Cx}
end
inductive dz (K:Vi)(x q:VB)(C fi:Addr)(st:Stmt)(bm:C9):Prop where
 | mk {nm qn:VB} {N:Addr} {bs sub:C9} {hdct ab:Bool} {sn:DF} {col:C8} {dd odi ani:C7} {k0 k1 k2 k3 k5:C5} {cd:ClassData} {sli:Array (C5)} {oci kVi dci pmi cdi cti:Value}
  (ac:Xr K Vu x=some (some (.ref C))) (oc:K.lookup C=some (Yr nm qn C N bs bm hdct sn sub ab col dd k0 k1 k2 k3 k5 "ValueError.__new__")) (ve:Rv bm) (ic:Y5 K (.ref C) "__init__" = some (some (.ref fi))) (tc:W.typeIn K (.ref fi)=some (.type "function")) (pc:W.keepIn K (.ref C)=true)
  (sc:Y5 K (.ref C) "__setattr__" = some (some (.builtin "object.__setattr__"))) (dc:W.clsIn K C=some cd) (uc:t8 cd.mro=true) (hc:cd.hasDict=true) (kc:W.takerIn K C "word" = some none) (gc:Y5 K (.ref C) "__getattribute__" = some (some (.builtin "BaseException.__getattribute__")))
  (gh:Y5 K (.ref C) "__getattr__" = some none) (nc:Y5 K (.ref C) "word" = some none) (li:K.lookup fi=some ⟨oci,odi,.func (aa8 "__init__" q (cY st) (bG st) (az st) .none kVi dci pmi ani cdi cti),sli⟩) (ci:W.codeIn K cdi q=true) (ki:W.keepIn K (.ref fi)=true):dz K x q C fi st bm
inductive lB (K:Vi)(x:VB)(st:Stmt)(f c T:Addr):Prop where
 | mk {od an:C7} {sl:Array (C5)} {oc kV dc pm ct:Value} (a:PySem.W.nsIn K Vu x=some (some (.ref f))) (l:K.lookup f=some ⟨oc,od,.func (Yg x x (cY st) (bG st) (az st) .none kV dc pm an (.ref c) ct),sl⟩) (cc:Y9 K (.ref c) x=true) (k:Xa K (.ref f)=true) (hd:PySem.W.codeHdIn K c T=true):lB K x st f c T
section
variable {K:VG}{mg:VB->C5}{h:Wg}{x q x' q':VB}{C fi C' fi' f c T:Addr}{st st':Stmt}{bm bm':C9}
def dz.name (o:dz K x q C fi st bm)(X:K.In h)(G:h.Ns Vu mg):mg x=some (.ref C):=by
 obtain⟨ac⟩:=o;exact Z0 X G ac
def dz.Ud (o:dz K x q C fi st bm):Kp K C fi "word":=by
 obtain⟨ac,oc,ve,ic,tc,pc,sc,dc,uc,hc,kc⟩:=o;exact⟨⟨_,_,_,_,_,_,_,_,_,_,_,_,_,_,_,_,oc,ve⟩,ic,tc,pc,sc,⟨_,dc,uc,hc⟩,kc⟩
def dz.fn (o:dz K x q C fi st bm):∃ fd,Fun K "__init__" q st fi fd:=by
 obtain⟨_,_,_,_,_,_,_,_,_,_,_,_,_,_,li,ci,ki⟩:=o;exact⟨_,mU li ci ki⟩
def dz.kp (o:dz K x q C fi st bm):W.keepIn K (.ref fi)=true:=by
 obtain⟨_,_,_,_,_,_,_,_,_,_,_,_,_,_,_,_,ki⟩:=o;exact ki
def dz.xrd (o:dz K x q C fi st bm) (b:dz K x' q' C' fi' st' bm') (mr:(Vq C::bm).contains (.ref C')=true):XRd K C C' "word":=by
 obtain⟨_,oc,_,_,_,_,_,dc,uc,hc,_,gc,gh,nc⟩:=o;obtain⟨_,oc',ve'⟩:=b;exact⟨⟨_,_,_,_,_,_,_,_,_,_,_,_,_,_,_,_,_,oc,mr⟩,⟨_,_,_,_,_,_,_,_,_,_,_,_,_,_,_,_,_,oc',ve'.b⟩,gc,gh,⟨_,dc,uc⟩,by unfold YK;rw[dc];exact hc,nc⟩
def HasDef.fn (o:HasDef K x st f):∃ fd,Fun K x x st f fd:=by
 obtain⟨a,l,c,k⟩:=o;exact⟨_,mU l c k⟩
theorem lB.hd (o:lB K x st f c T):W.codeHdIn K c T=true:=by
 obtain⟨_,_,_,_,hd⟩:=o;exact hd
end
section
variable {X:Cx}
def Rh {kvs:List (Key × V)}{vs:List (Key × Value)}(r:KV kvs vs):kvs.map (·.1)=vs.map (·.1):=by
 induction r with
 | nil=>rfl
 | cons h _ ih =>
  rw[Wk,Wk,ih,h.1]
def GX {ks:DC}{acc:C9}(hl:acc.length=ks.length)(h:∀ (j:Nat) (v:Value),acc[j]? = some v->∃ i:Int,ks[j]? = some i/\∃ t,v = .int i t):Wv acc ks:=by
 induction ks generalizing acc with
 | nil =>
  cases acc with
  | nil=>exact .nil
  | cons _ _=>cases hl
 | cons k ks ih =>
  cases acc with
  | nil=>cases hl
  | cons a acc =>
   obtain⟨i,e,t,rfl⟩:=h 0 a U;cases (show some k=some i from e);exact .cons _ _ (ih (Nat.succ.inj hl) fun j v e=>h (j+1) v e)
inductive yq (xs:List V)(H:Hp)(Q:VK):Prop where
 | mk (p:Addr) (kvs:List (Key × V)) (ns:DC) (_:xs=[.ref p]) (_:H p=some (.dK kvs)) (_:kvs.map (·.1)=ns.map Wi) (_:ns.length < 64) (_:∀ ms:DC,ms.Perm ns->ms.Pairwise (·<=·)->∀ l,H l=none->Q (.ref l) (upd H l (.lst (ms.map V.int))))
def j5 (hc:X.calm=true):fY X (.builtin "sorted") yq:=by
 intro ZY s σ H xs us Q I r h;obtain⟨p,kvs,ns,rfl,hp,hk,h64,q⟩:=h;obtain⟨u,rfl,ru⟩:=vals1 r;cases ru;obtain⟨z,hd,vs,rel,dd⟩:=Ec I.hok hp;obtain⟨ep,hat⟩:=dd.dictAt;have ek:=(Rh rel).symm.trans hk;have lv:vs.length=ns.length:=by
  have:=congrArg Z5 ek;rwa [U7,U7] at this
 refine aat kind_sorted plain_sorted entry_sorted (args_sorted1 _) ?_;unfold Yw.«sorted»;refine U6 (m:=checkCount "sorted" 1 1 _) (Va ?_);refine U6 (PySem.W.kdu_collect (A:=X.A.in1) (PySem.W.kdl_dict (knd:=c7 X.prog X.w) (kvs:=vs) (ep:=ep) hd) (I.ok.hd hc) hat (by rw[lv];exact Xb (Vc h64 (by decide))) fun h' tk acc hkp hacc=>?_);have I1:Inv X ZY σ H { s with heap:=h',toks:=tk }:=I.kept (t':=tk) hkp;have la:acc.toList.length=ns.length:=by rw[Wf];exact hacc.1.trans lv
 have hi:Wv acc.toList ns:=GX la fun j v e=>by
  obtain⟨k,x,hx,hkv⟩:=hacc.2 j v (by rw[← Wr];exact e);have e1:(vs.map (·.1))[j]? = some k:=by rw[Vr,hx];rfl
  rw[ek,Vr] at e1;cases z:ns[j]? with
  | none=>rw[z] at e1;cases e1
  | some i =>
   rw[z] at e1;cases e1;rcases bV (show wj (Wi i) v=true from hkv) with⟨i',t,e2,e3⟩ | ⟨x',t,e2,_⟩;{cases e2;exact⟨i,U,t,e3⟩};{cases e2}
 refine U6 (abq ?_ (by rw[la];exact Xb (Vc h64 (by decide))));have top:(h'.push (Z9 "list" acc.toList.toArray 0)).get? h'.objs.size=some (Z9 "list" acc.toList.toArray 0):=Vn _ U;show Vh _ _ _ _ _ { s with heap:=h'.push (Z9 "list" acc.toList.toArray 0),toks:=tk };apply U6;apply Ww;refine WW slot_list_sort ⟨_,top,U⟩ acf ?_ (args_list_sort _);refine list_sort_tree top hi (by rw[la];exact h64) fun out ms a1 a2 a3=>⟨_,U,Va ⟨_,U,?_⟩⟩;obtain⟨e,he⟩:=sortedHeap_at (out:=out) top;have hml:(ms.map V.int).length<=sizeLine:=by
  rw[U7,a2.length_eq];exact Xb (Vc h64 (by decide))
 have old:∀ b o,h'.get? b=some o->(sortedHeap (h'.push (Z9 "list" acc.toList.toArray 0)) h'.objs.size acc.toList out).get? b=some o:=fun b o hb=>by
  have hlt:=Vj hb;rw[sortedHeap_old (Vw hlt) (by rw[size_push'];exact Wn hlt),Heap.get?_push_ne _ _ _ (Vw hlt)];exact hb
 exact⟨.ref _,_,I1.J2 U U old (Vb _) (iI a1) hml he,U,q ms a2 a3 _ (I1.hok.fresh (Vb _))⟩
inductive Qe (xs:List V)(H:Hp)(Q:VK):Prop where
 | mk (a:Addr) (kvs:List (Key × V)) (_:xs=[.ref a]) (_:H a=some (.dK kvs)) (_:Q (.int kvs.length) H)
def CT:fY X (.builtin "len") Qe:=by
 intro ZY s σ H xs us Q I r h;obtain⟨a,kvs,rfl,ha,q⟩:=h;obtain⟨u,rfl,ru⟩:=vals1 r;cases ru;exact Sv I (.inl ha) fun t s' I'=>⟨.int kvs.length,H,I',⟨t,U⟩,q⟩
inductive Ag (xs:List V)(H:Hp)(Q:VK):Prop where
 | mk (a:Addr) (kvs:List (Key × V)) (_:xs=[.ref a]) (_:H a=some (.dK kvs)) (_:∀ p,H p=none->Q (.ref p) (upd H p (.dK kvs)))
def sU:fY X (.type "dict") Ag:=by
 intro ZY s σ H xs us Q I r h;obtain⟨a,kvs,rfl,ha,q⟩:=h;obtain⟨u,rfl,ru⟩:=vals1 r;cases ru;exact Ka I (.inl ha) fun p s' hp I'=>⟨.ref p,_,I',U,q p hp⟩
def HD:We "dict" = some (.type "dict"):=by decide+kernel
end
def KC (its:C9):aaD its.toArray none none (some 1)=its.toArray:=by
 have h:Ye none none (some 1) its.toArray.size=(((0:Nat):Int),((its.length:Nat):Int),1):=by
  unfold Ye;simp
 unfold aaD;rw[h];simp only[sliceRange_one,pick_run];simp
def Ex {α:Type}(s:Int)(xs:List α):List α:=if s=1 then xs else xs.reverse
def rZ {α:Type}(s:Int)(xs:List α):(Ex s xs).length=xs.length:=by
 unfold Ex;split;{rfl};{exact List.length_reverse}
def Lb {s:Int}(h:s=1∨s = -1)(its:C9):aaD its.toArray none none (some s)=(Ex s its).toArray:=by
 rcases h with rfl | rfl;{exact KC its};{exact JW its}
def UL (K:VG)(te:TE)(ts:TO):TE:=fun σ H Q=>te σ H fun x H1=>ts σ H1 fun o H2=>∃ (s:Int) (a:Addr) (xs:List V),o=some s/\(s=1∨s = -1)/\x = .ref a/\SqL K H2 a xs/\∀ p,H2 p=none->Q (.ref p) (upd H2 p (.lst (Ex s xs)))
def Js {s:Int}{xs:List V}{us:C9}(r:Vals xs us):Vals (Ex s xs) (Ex s us):=by
 unfold Ex;split;{exact r};{exact r.reverse}
section
variable {X:Cx}
def JL {e es:Expr}{te:TE}{ts:TO}{p2 pos:YS}(he:PE X e te)(hs:PO X (some es) ts):PE X (.Subscript e (.Slice none none (some es) p2) pos) (UL X.K te ts):=by
 intro ZY s σ H Q I h;refine Subscript_ (thn (he ZY s σ H _ I h) fun v s1 ⟨x,H1,I1,r1,q1⟩=>?_);refine wpAny_Slice ?_;rw[evalPart_none];refine Va (Va ?_);refine thn (hs ZY s1 σ H1 _ I1 q1) fun vs s3 ⟨o,H3,I3,ps,st,a,xs,eo,hst,ex,hx,q⟩=>?_;subst eo ex;have I4:Inv X ZY σ H3 { s3 with heap:=s3.heap.push { cls:=.type "slice",data:=.fields #[.none,.none,vs] } }:=I3.kept (t':=s3.toks) fun b ob q=>U9 _ q;cases r1;obtain⟨its,r,ht,hz⟩:=I4.list hx;have hlen:=r.length;show Vh (Vl X.prog X.w) X.A (abr e (.Slice none none (some es) p2) (.ref a) (.ref s3.heap.objs.size)) (EP X ZY σ Q) X.xe { s3 with heap:=s3.heap.push { cls:=.type "slice",data:=.fields #[.none,.none,vs] } };refine tail_any (ops:=[.ref a,.ref s3.heap.objs.size]) ht.isList.typeIs slot_list_getitem.lookup ?_ (by with_unfolding_all rfl);refine wpAny_getItem_list_slice ht.isList (Heap.IsSliceOf.new ..) .none .none ps (by rcases hst with rfl | rfl <;> simp) ?_ (by rw[Vo];lia)
 rw[Lb hst];refine⟨.ref _,_,I4.laid (t':=s3.toks) (o:=.lst (Ex st xs)) (fun b ob q=>U9 _ q) (Vb _) ?_,U,q _ (I4.hok.fresh (Vb _))⟩;exact⟨by rw[rZ];exact hz,_,0,Js r,Vn _ U⟩
inductive PL (x:V)(y:V)(H:Hp)(Q:VK):Prop where
 | mk (a b:Addr) (kvs:List (Key × V)) (_:x = .ref a) (_:y = .ref b) (_:H a=some (.dK kvs)) (_:H b=some (.dK [])) (_:Q (.bl (!kvs.isEmpty)) H)
def Ou (hu:X.A.units < cLine):OpR X (Xm .NotEq) PL:=by
 intro ZY s σ H x y v u Q I rx ry h;obtain⟨a,b,kvs,rfl,rfl,ha,hb,q⟩:=h;cases rx;cases ry;obtain⟨z1,n1,vs,rel,dd⟩:=Ec I.hok ha;obtain⟨z2,n2,us,rel2,dd2⟩:=Ec I.hok hb;have eu:us=[]:=by cases rel2;rfl
 subst eu;refine PySem.W.keq_ne (r:=true) n1 n2 dd dd2 hu (fun e=>?_) ?_;{have:vs=[]:=V8 e;rw[this];exact .nil};{refine⟨.bl (!kvs.isEmpty),H,I,?_,q⟩;cases rel <;> rfl}
end
section
variable {X:Cx}{ZY:C1}{σ:St}{H H':Hp}{s s':U8}{x C G dx:Addr}{B:Wg}{c f:VB}{p p1 p4 pos:YS}{k:Nat}{D:Ends}{b:Bool}
end
section
variable {X:Cx}{G:Addr}{c f:VB}{p p1 p4 pos pos':YS}{k:Nat}{body:DA}{t:XK->TS}{b:Bool}
end
section
variable {X:Cx}
inductive Qo (xs:List V)(H:Hp)(Q:VK):Prop where
 | mk (p:Addr) (kvs:List (Key × V)) (ns:DC) (_:xs=[.ref p]) (_:H p=some (.dK kvs)) (_:kvs.map (·.1)=ns.map Wi) (_:ns≠[]) (_:∀ m:Int,Q (.int m) H)
def G8 (hc:X.calm=true):fY X (.builtin "max") Qo:=by
 intro ZY s σ H xs us Q I r h;obtain⟨p,kvs,ns,rfl,hp,hk,hne,q⟩:=h;obtain⟨u,rfl,ru⟩:=vals1 r;cases ru;obtain⟨z,hd,vs,rel,dd⟩:=Ec I.hok hp;obtain⟨ep,hat⟩:=dd.dictAt;have ek:=(Rh rel).symm.trans hk;have lv:vs.length=ns.length:=by
  have:=congrArg Z5 ek;rwa [U7,U7] at this
 have hval:∀ i v,(∃ k x,vs[i]? = some (k,x)/\(c7 X.prog X.w).is k v=true)->∃ t,v = .int (ns.getD i 0) t:=fun i v ⟨k,x,hx,hkv⟩=>by
  have e1:(vs.map (·.1))[i]? = some k:=by rw[Vr,hx];rfl
  rw[ek,Vr] at e1;cases z:ns[i]? with
  | none=>rw[z] at e1;cases e1
  | some j =>
   rw[z] at e1;cases e1;rcases bV (show wj (Wi j) v=true from hkv) with⟨i',t,e2,e3⟩ | ⟨x',t,e2,_⟩;{cases e2;exact⟨t,by rw[Vz,z];exact e3⟩};{cases e2}
 obtain⟨oI,St,hit,W,st⟩:=(PySem.W.kdl_dict (knd:=c7 X.prog X.w) (kvs:=vs) (ep:=ep) hd).iter X.A.in1 s (I.ok.hd hc) hat;have lt:=hat.lt_size;refine call_max_walk (hit _ _ ⟨_,_,_,_,_,_,_,U,W,st,fun b hb=>?_,?_,CmpOf.ints_gt _ hval,fun v h' tk hP hk'=>?_⟩)
 ·rw[WT];simp only[Xg,Xy,or_false] at hb;rcases hb with rfl | rfl;{exact Xw _};{exact Wn lt}
 ·rw[lv];exact List.length_pos_iff.mpr hne
 ·obtain⟨t,rfl⟩:=hval _ _ hP;exact⟨.int _,H,I.kept (t':=tk) fun b o e=>hk' b o (fun y=>by rw[List.mem_singleton.mp y] at e;exact Wj _ (Vj e)) (U9 _ e),⟨_,U⟩,q _⟩
end
def lB.df {P:Vt}{w:V2}{K:VG}{mg:VB->C5}{base h:Wg}{x:VB}{st:Stmt}{f c T:Addr}{ps:DF}{sp:Sp}{k:Nat}(q:lB K x st f c T)(X:K.In h)(G:h.Ns Vu mg)(hb:∀ fd,Fun K x x st f fd->Binds K fd ps [])(ok:∀ fd,Ry K x x st f fd c->aZ P w K mg base CX0 k f fd ps sp):Df P w K mg base x k ps sp:=by
 obtain⟨a,l,cc,k,hd⟩:=q;exact⟨⟨_,_,ok _ ⟨⟨_,_,_,_,_,_,_,_,U,l,cc⟩⟩,Z0 X G a,k,hb _ (mU l cc k)⟩⟩
end L2
namespace My
open PySem L2
abbrev EU := List (Key × V)
abbrev EV := List (VB × V)
abbrev EW := Option V
abbrev E6 := List V
abbrev VQ : DE := ["_law_cell_here","_law_n","_law_one","_law_deep","_law_most"]
abbrev VS : DE := ["_law_past","_law_later","_law_deed_here","_law_word_here"]
abbrev VT : DE := ["_law_boon_here","_law_past","_law_later","_law_deed_here"]
abbrev VU : DE := ["_law_cell_here","_law_n","_law_deep","_law_most"]
abbrev VW : DE := ["_law_state","_law_one","_law_pledge_here"]
abbrev VX : DE := ["self","green","gone","standing","coming"]
abbrev VY : DE := ["_law_cell_here","_law_state","_law_most"]
abbrev VZ : DE := ["_law_cell_here","_law_prime","_law_many"]
abbrev WA : DE := ["_law_past","_law_later","_law_deed_here"]
abbrev WB : DE := ["_law_cell_here","_law_past","_law_most"]
abbrev WC : DE := ["_law_book","_law_floor","_law_giving"]
abbrev WE : DE := ["_law_state","_law_one","_law_table"]
abbrev WF : DE := ["many","one","thing","lowest_step"]
abbrev WG : DE := ["_law_boon_here","_law_deed_here"]
abbrev WH : DE := ["_law_pledge_here","_law_giving"]
abbrev WI : DE := ["_law_term_here","_law_giving"]
abbrev WJ : DE := ["_law_state","_law_rises_here"]
abbrev WO : DE := ["_law_cell_here","_law_parts"]
abbrev WP : DE := ["_law_state","_law_deed_here"]
abbrev WS : DE := ["_law_boon_here","_law_state"]
abbrev WU : DE := ["_law_cell_here","_law_state"]
abbrev WV : DE := ["_law_term_here","_law_row"]
abbrev WZ : DE := ["_law_cell_here","_law_k"]
abbrev Xs : DE := ["_law_some","_law_giving"]
abbrev Xt : DE := ["standing","one","giving"]
abbrev XB : DE := ["stand","one","standing"]
abbrev XE : DE := ["self","number","pledge"]
abbrev XG : DE := ["_law_book","_law_floor"]
abbrev XI : DE := ["_law_found","_law_due"]
abbrev XO : DE := ["many","thing","fewest"]
abbrev XT : DE := ["_law_state","_law_one"]
abbrev XU : DE := ["_law_table","_law_one"]
abbrev XV : DE := ["_law_script","_law_k"]
abbrev XY : DE := ["_law_number","_law_n"]
abbrev XZ : DE := ["stand","one","pledge"]
abbrev X0 : DE := ["many","thing","deep"]
abbrev X1 : DE := ["self","one","pledge"]
abbrev X2 : DE := ["_law_k","_law_state"]
abbrev X9 : DE := ["thing","low","high"]
abbrev Ya : DE := ["many","one","thing"]
abbrev Yf : DE := ["_law_pick","_law_n"]
abbrev YA : DE := ["pledge","giving"]
abbrev YE : DE := ["parts","giving"]
abbrev YI : DE := ["_law_asked","e"]
abbrev YN : DE := ["_law_term_here"]
abbrev YO : DE := ["stand","number"]
abbrev YR : DE := ["term","giving"]
abbrev YU : DE := ["stand","rises"]
abbrev YV : DE := ["self","number"]
abbrev YY : DE := ["self","stand"]
abbrev Zl : DE := ["self","rises"]
abbrev Zp : DE := ["self","word"]
abbrev Zs : DE := ["many","term"]
abbrev ZA : DE := ["_law_giving"]
abbrev ZB : DE := ["stand","one"]
abbrev ZE : DE := ["_law_script"]
abbrev ZH : DE := ["self","one"]
abbrev ZI : DE := ["_law_state"]
abbrev ZN : DE := ["_law_one"]
abbrev ZO : DE := ["self"]
abbrev ZT : DE := ["term"]
abbrev ZU : DE := ["boon"]
variable {P:Vt}{w:V2}{K:VG}{mg:VB->Option Value}{base:Wg}{f:Addr}{fd:Wh}
def top (i:Nat):Stmt:=PySem.Challenge.pw_loveboon_k36_whole_deeds_undone_and_redo.main.body.getD i (.Pass ⟨0,0,0,0⟩)
def au {H:Hp}{p:Addr}(h:H p=none)(o:HO):aH H (upd H p o):=fun b u q=>by rw[aF (cW q h)];exact q
def aM {H H':Hp}{p:Addr}(s:aH H H')(h:H p=none)(o:HO):aH H (upd H' p o):=fun b u q=>by rw[aF (cW q h)];exact s b u q
def gW {K:VG}{H H':Hp}{a:Addr}{xs:E6}(e:aH H H')(h:SqT K H a xs):SqT K H' a xs:=by
 rcases h with (h | ⟨o,h⟩) | h;{exact .inl (.inl (e _ _ h))};{exact .inl (.inr ⟨o,e _ _ h⟩)};{exact .inr h}
def Gx {H:Hp}{p:Addr}{o o':HO}:upd (upd H p o) p o'=upd H p o':=by
 funext b;unfold upd;by_cases e:b=p;{rw[if_pos e,if_pos e]};{rw[if_neg e,if_neg e,if_neg e]}
def small {n:Nat}(h:n<=1000):n<=sizeLine:=Xb (aJ h)
def int_at {ns:DC}{i:Nat}{x:V}(h:(ns.map V.int)[i]? = some x):∃ n,ns[i]? = some n/\x = .int n:=by
 rw[Vr] at h;cases e:ns[i]? with
 | none=>rw[e] at h;cases h
 | some n=>rw[e] at h;exact⟨n,U,(VV h).symm⟩
def vy {α β:Type}(f:α->β){xs:List α}{i:Nat}{x:α}(h:xs[i]? = some x):(xs.take i).map f++[f x]=(xs.take (i+1)).map f:=by
 rw[VD,h,Vd];rfl
def jH {ns:DC}{i:Nat}(h:i < ns.length):atI (ns.map V.int) (i:Int)=some (.int ns[i]):=cX (by rw[Vr,Vg h];rfl)
def gT {i:Nat}{x:V}{σ:St}{H:Hp}{A B:St->Hp->Prop}(h:A (σ.set i (some x)) H):pQ i x σ H (fun σ3 H3=>Ox σ3 H3 (fun b H4=>if b=true then A σ3 H4 else B σ3 H4)):=by
 show if true=true then A (σ.set i (some x)) H else B (σ.set i (some x)) H
 rw[if_pos U];exact h
def aG {H H1:Hp}{p:Addr}{o:HO}(e:upd H p o=H1)(h:H p=none):aH H H1/\H1 p=some o:=by
 subst e;exact⟨au h _,aa⟩
def dM {xs:E6}{k:Nat}{v:V}(h:xs[k]? = some v):atI xs (k:Int)=some v:=cX h
def jm {ns:DC}{k:Nat}{n:Int}(h:ns[k]? = some n):(ns.map V.int)[k]? = some (.int n):=by rw[Vr,h];rfl
theorem xQ:∀ ns:DC,iD (ns.map Dm.int)=0
 | []=>by simp [iD]
 | n::r=>by simp [iD,Dm.dep,xQ r]
def uO {H:Hp}{a:Addr}{ns:DC}(h:H a=some (.tup (ns.map V.int)))(l:ns.length<=1000):Rep H (.ref a) (.tup (ns.map Dm.int)):=.tup h (by rw[U7];lia) (yg ns)
def Ez (ns:DC):(Dm.tup (ns.map Dm.int)).dep=1:=by rw[Dm.dep,xQ]
def vN (i:Nat):V:=.int (i:Int)
def iy (c:DD):c.map vN=(c.map fun i:Nat=>(i:Int)).map V.int:=by rw[aaS];rfl
def vH {c:DD}{j:Nat}{x:V}(h:(c.map vN)[j]? = some x):∃ i,c[j]? = some i/\x=vN i:=by
 rw[Vr] at h;cases e:c[j]? with
 | none=>rw[e] at h;cases h
 | some i=>rw[e] at h;exact⟨i,U,(VV h).symm⟩
def cM {H:Hp}{D:Addr}{zs zs':E6}(h:H D=some (.lst zs)):∀ a xs,H a=some (HO.tup xs)->upd H D (.lst zs') a=some (HO.tup xs):=fun a xs q=>by
 rw[aF (fun z=>by rw[z,h] at q;cases q)];exact q
def Mw {α:Type}{xs:List α}{v:α}(h:xs[xs.length - 1]? = some v):atI xs (-1)=some v:=by
 have hl:xs.length - 1 < xs.length:=(List.getElem?_eq_some_iff.mp h).1;have hne:xs≠[]:=fun z=>by rw[z] at hl;exact absurd hl (Wj _)
 have e:xs=xs.dropLast++[v]:=by
  rw[← List.getLast?_eq_getElem?,acb hne] at h;rw[← VV h];exact (aci hne).symm
 rw[e];exact KD _ _
def cJ {N P:DF}{sc:XF}(h1:sc.kind = .function:=by rfl)(h2:sc.isCoroutine=false:=by rfl)(h3:sc.isGenerator=false:=by rfl)(h4:N.Nodup:=by decide+kernel)(h5:N.take P.length=P:=by rfl)(h6:∀ x∈P,sc.names.lookup x=some .local∨sc.names.lookup x=some .cell:=by decide+kernel)(h7:∀ y∈sc.names,y.2≠.free:=by decide+kernel):aD N P sc:=⟨h1,h2,h3,h4,h5,h6,h7⟩
def smN (n:Nat)(h:n<=1000:=by decide):n<=sizeLine:=small h
def gt0 {x:V}{r:E6}:atI (x::r) 0=some x:=dM (k:=0) U
def gt1 {x y:V}{r:E6}:atI (y::x::r) 1=some x:=dM (k:=1) U
def gt2 {x y z:V}{r:E6}:atI (z::y::x::r) 2=some x:=dM (k:=2) U
local macro_rules|`(⟨$xs,*⟩)=>do
 let r←xs.getElems.mapM fun x=>(match x.raw.getId with
  |`O=>do return #[←`(_),←`(rfl)]
  |`M=>do return #[←`(_),←`(_),←`(rfl),←`(rfl)]
  |`Y=>do return #[←`(_),←`(_),←`(_),←`(rfl),←`(rfl)]
  |`J=>do return #[←`(gt0),←`(rfl),←`(_),←`(rfl)]
  |`G=>do return #[←`(_),←`(rfl),←`(_),←`(rfl)]
  |`N=>do return #[←`(_),←`(rfl),←`(rfl),←`(_),←`(rfl)]
  |_=>return #[x]:Lean.MacroM (Array (Lean.TSyntax `term)))
 if r.all (·.size==1) then Lean.Macro.throwUnsupported
 let r:=r.flatten
 `(⟨$r,*⟩)
def dcT {p:Prop}[Decidable p](h:p):decide p=true:=decide_eq_true h
def dcF {p:Prop}[Decidable p](h:¬ p):decide p=false:=decide_eq_false h
def sqT {K:VG}{H:Hp}{a:Addr}{xs:E6}(h:H a=some (.tup xs)):SqT K H a xs:=SqT.of h
def sqL {K:VG}{H:Hp}{a:Addr}{xs:E6}(h:H a=some (.lst xs)):SqL K H a xs:=SqL.of h
def geS {α:Type}{l:List α}{i:Nat}{a:α}(h:l[i]? = some a):∃ h:i < l.length,l[i]=a:=List.getElem?_eq_some_iff.mp h
def iPo {c:Prop}{h:Decidable c}(hc:c){α:Sort u}{t e:α}:@ite α c h t e=t:=if_pos hc
def iNe {c:Prop}{h:Decidable c}(hc:¬ c){α:Sort u}{t e:α}:@ite α c h t e=e:=if_neg hc
abbrev oR (a:Addr):EW:=some (.ref a)
abbrev oI (i:Int):EW:=some (.int i)
section
variable {X:Cx}{a b:Expr}{ta tb:TE}{pos:YS}{op:CmpOp}{r:R2}
def pix (hr:IxR X r)(ha:PE X a ta)(hb:PE X b tb)(hs:vC b:=by exact fun _ _=>U):PE X (.Subscript a b pos) (tOp r ta tb):=Nt hr ha hb hs
def cT (ho:OpR X (Xm op) r)(ha:PE X a ta)(hb:PE X b tb)(hm:X6 op b=false:=by exact Lh _):PE X (.Compare a [op] [b] pos) (tOp r ta tb):=Ia ho ha hb hm
def aA (ho:OpR X (Xm op) r)(ha:PE X a ta)(hb:PE X b tb)(hm:X6 op b=false:=by exact Lh _):PT X (.Compare a [op] [b] pos) (Qy (tOp r ta tb)):=eQ ho ha hb hm
end
section
variable {x qual:VB}{st:Stmt}{N ps:DF}{k:Nat}{sp:Sp}
def okA (F:Fun K x qual st f fd)(S:aD N ps (az st))
  (hb:∀ {cdv:Value} {A:V1} {outer:DB} {s:U8} {vs:E6} (H:Hp) (Q:VK) (E:XK),d9 k (A.deeper (abn qual (az st) s.heap.objs.size f cdv))->sp vs H Q E →
   ∃ t,PSs (wG CX0 P w K mg base N qual (az st) f cdv A outer s H E).nox (bG st) t/\t { nx:=fun _ H2=>Q .non H2,rt:=Q } (start N vs) H)
  (len:∀ vs H Q E,sp vs H Q E->vs.length=ps.length:=by intro _ _ _ _ h;first | (cases h;subst_vars;rfl) | ((repeat obtain⟨_,h⟩:=h) <;> subst_vars <;> rfl)):aZ P w K mg base CX0 (k+1) f fd ps sp:=F.ok S len fun _ _ _ _ H _ Q E hr h=>hb H Q E hr h
def zf (F:Fun K x qual st f fd)(S:aD N ps (az st))
  (hb:∀ {cdv:Value} {A:V1} {outer:DB} {s:U8} {vs:E6} (H:Hp) (Q:VK) (E:XK),d9 k (A.deeper (abn qual (az st) s.heap.objs.size f cdv))->sp vs H Q E →
   ∃ t,PSs (wG (XL P w) P w K mg base N qual (az st) f cdv A outer s H E) (bG st) t/\t { nx:=fun _ H2=>Q .non H2,rt:=Q } (start N vs) H)
  (len:∀ vs H Q E,sp vs H Q E->vs.length=ps.length:=by intro _ _ _ _ h;first | (cases h;subst_vars;rfl) | ((repeat obtain⟨_,h⟩:=h) <;> subst_vars <;> rfl)):aZ P w K mg base (XL P w) (k+1) f fd ps sp:=F.okX S len fun _ _ _ _ H _ Q E hr h=>hb H Q E hr h
end
section
variable {X:Cx}{a b:Expr}{ta tb:TE}{pos:YS}
def pxL (K:VG)(ha:PE X a ta)(hb:PE X b tb)(hs:vC b:=by exact fun _ _=>U)(hK:X.K=K:=by rfl):PE X (.Subscript a b pos) (tOp (SJ K) ta tb):=Nt (hK▸Gq) ha hb hs
def pxT (K:VG)(ha:PE X a ta)(hb:PE X b tb)(hs:vC b:=by exact fun _ _=>U)(hK:X.K=K:=by rfl):PE X (.Subscript a b pos) (tOp (RM K) ta tb):=Nt (hK▸LR) ha hb hs
end
section
variable {X:Cx}{a b c:Expr}{ta tb tc:TE}{pos:YS}{x y z:VB}{p q r:YS}
def a1 (ha:PE X a ta)(hs:Vx [a] X.env=(false,Wy a X.env)::Vx [] X.env:=by rfl):PA X [a] (o4 ta wM):=aq ha cQ hs
def a2 (ha:PE X a ta)(hb:PE X b tb)(hs:Vx [a,b] X.env=(false,Wy a X.env)::Vx [b] X.env:=by rfl)(ht:Vx [b] X.env=(false,Wy b X.env)::Vx [] X.env:=by rfl):PA X [a,b] (o4 ta (o4 tb wM)):=aq ha (a1 hb ht) hs
def v1 (i:Nat)(hN:X.N[i]? = some x:=by rfl)(hv:Vis X.env.scope x:=by first | exact Za rfl | exact Zn (Za rfl) | exact Zn (Zn rfl))(hd:(x == ("__debug__" : VB))=false:=by decide)(hc:(x == ("__classdict__" : VB))=false:=by decide):PA X [.Name x p] (o4 (vW i) wM):=a1 (pv i hN hv hd hc) rfl
def v2 (i j:Nat)(hN:X.N[i]? = some x:=by rfl)(hv:Vis X.env.scope x:=by first | exact Za rfl | exact Zn (Za rfl) | exact Zn (Zn rfl))(hM:X.N[j]? = some y:=by rfl)(hw:Vis X.env.scope y:=by first | exact Za rfl | exact Zn (Za rfl) | exact Zn (Zn rfl))(hd:(x == ("__debug__" : VB))=false:=by decide)(hc:(x == ("__classdict__" : VB))=false:=by decide)(he:(y == ("__debug__" : VB))=false:=by decide)(hf:(y == ("__classdict__" : VB))=false:=by decide):PA X [.Name x p,.Name y q] (o4 (vW i) (o4 (vW j) wM)):=a2 (pv i hN hv hd hc) (pv j hM hw he hf) rfl rfl
def sR (h:PE X a ta):PSs X [.Return (some a) pos] (RC ta):=aB (FT h)
def ifR {tt:TT}(ht:PT X a tt)(h:PE X b tb):PS X (.If a [.Return (some b) p] [] pos) (Jj tt (RC tb) KH):=bR ht (sR h) aR
def sT (i:Nat)(hN:X.N.Nodup)(he:PE X a ta)(hi:X.N[i]? = some x:=by rfl)(hx:X.env.scope.names.lookup x=some .local:=by rfl)(hs:ZR a (some (.Name x p)) pos.line X.env=pure false:=by rfl):PS X (.Assign [.Name x p] a pos) (QX ta (pQ i)):=Ir hN hi (.inl hx) he hs (.inr hx)
def pgN (i:Nat)(hN:X.N.Nodup)(hi:X.N[i]? = some x:=by rfl)(hx:X.env.scope.names.lookup x=some .local:=by rfl):PG X (.Name x pos) (pQ i):=rO hN hi (.inl hx) (.inr hx)
def sTc (i:Nat)(hN:X.N.Nodup)(he:PE X a ta)(hi:X.N[i]? = some x:=by rfl)(hx:X.env.scope.names.lookup x=some .cell:=by rfl)(hs:ZR a (some (.Name x p)) pos.line X.env=pure false:=by rfl)(hf:X.fn x=true∨X.env.scope.names.lookup x=some .local:=by first | exact .inl rfl | exact .inr rfl | assumption):PS X (.Assign [.Name x p] a pos) (QX ta (pQ i)):=Ir hN hi (.inr hx) he hs hf
def pgC (i:Nat)(hN:X.N.Nodup:=by exact Nb (by decide+kernel))(hi:X.N[i]? = some x:=by rfl)(hx:Loc X.env.scope x:=by exact Za U)(hf:X.fn x=true∨X.env.scope.names.lookup x=some .local:=by first | exact .inl rfl | exact .inr rfl | assumption):PG X (.Name x pos) (pQ i):=rO hN hi hx hf
def pln (K:VG) (hm:X.mg "len" = none) (he:PE X a ta) (hg:Gl X "len":=by rfl) (hs:Vx [a] X.env=(false,Wy a X.env)::Vx [] X.env:=by rfl) (hK:X.K=K:=by rfl):PE X (.Call (.Name "len" p) [a] [] pos) (tCB (T6 K) (o4 ta wM)):=by
 subst hK;exact aN Hf hg hm Lg (a1 he hs) (by decide) (by decide) hs
def pfd {f:VB}(K:VG)(i:Nat)(hN:X.N[i]? = some x:=by rfl)(hv:Vis X.env.scope x:=by first | exact Za rfl | exact Zn (Za rfl) | exact Zn (Zn rfl))(hb:Yy (.Name x p) f X.env (Wy (.Name x p) X.env)=Wy (.Name x p) X.env:=by rfl)(hd:(x == ("__debug__" : VB))=false:=by decide)(hc:(x == ("__classdict__" : VB))=false:=by decide)(hK:X.K=K:=by rfl):PE X (.Attribute (.Name x p) f pos) (SM K (vW i) f):=oh K hK (pv i hN hv hd hc) hb
end
abbrev mK:Stmt:=top 53
def cH:aD ["_law_cell_here","_law_parts","_law_one","_law_two","_law_six","_law_found","_law_part"] WO (az mK):=cJ
def vz (c:Int):Int:=(c * 48271+11) % 2147483647
def J7 (c:Int):Int:=(vz c * vz c+40692 * vz c+c) % 2147483399
def Tj (c:Int):Int:=(J7 c * 16807+vz c) % 1000000007
def qm (c:Int):Int:=if decide ((if c < 0 then -c else c) < 10 ^ (18:Int).toNat)=true then J7 c+2147483399 * (Tj c+1000000007 * vz c) else (if c < 0 then -c else c) - 10 ^ (18:Int).toNat
def yR:Int->DC->DC
 | _,[]=>[]
 | c,p::ps=>c % p::yR (c / p) ps
def divC:Int->DC->Int
 | c,[]=>c
 | c,p::ps=>divC (c / p) ps
theorem qQ (p:Int):∀ (ps:DC) (c:Int),yR c (ps++[p])=yR c ps++[divC c ps % p]
 | [],_=>rfl
 | q::ps,c=>by
  show c % q::yR (c / q) (ps++[p])=c % q::(yR (c / q) ps++[divC (c / q) ps % p]);rw[qQ p ps]
theorem nF (p:Int):∀ (ps:DC) (c:Int),divC c (ps++[p])=divC c ps / p
 | [],_=>rfl
 | q::ps,c=>nF p ps (c / q)
theorem lQ:∀ (ps:DC) (c:Int),(yR c ps).length=ps.length
 | [],_=>rfl
 | _::ps,_=>congrArg Nat.succ (lQ ps _)
theorem dj:∀ {ps:DC} {c:Int} {i:Nat} {p:Int},(∀ q∈ps,0 < q)->ps[i]? = some p->∃ v,(yR c ps)[i]? = some v/\0<=v/\v < p
 | [],_,_,_,_,h=>by simp at h
 | q::ps,c,0,p,hp,h=>by
  cases (show some q=some p from h);exact⟨c % q,U,V5 _ (by have:=hp q Vm;lia),VN _ (hp q Vm)⟩
 | q::ps,c,i+1,p,hp,h=>by
  obtain⟨v,e,r⟩:=dj (ps:=ps) (c:=c / q) (i:=i) (fun z hz=>hp z (Vp _ hz)) (by simpa using h);exact⟨v,by simpa [yR] using e,r⟩
def Qu (c:Int)(ps:DC):DC:=yR (qm c) ps
def Nk (c:Int):0<=vz c/\vz c < 2147483647:=⟨V5 _ (by decide),VN _ (by decide)⟩
def Nu (c:Int):0<=J7 c/\J7 c < 2147483399:=⟨V5 _ (by decide),VN _ (by decide)⟩
inductive oW (K:VG)(vs:E6)(H:Hp)(Q:VK)(e3:XK):Prop where
 | mk (c:Int) (p:Addr) (ps:DC) (_:vs=[.int c,.ref p]) (_:SqL K H p (ps.map V.int)) (_:(∀ q∈ps,0 < q/\q < 1073741824)) (_:ps.length<=1000) (_:∀ r,H r=none->Q (.ref r) (upd H r (.lst ((Qu c ps).map V.int))))
def xU (F:Fun K "_law_draws" "_law_draws" mK f fd) (B:Bt mg) :
  aZ P w K mg base CX0 1 f fd WO (oW K):=by
 refine okA F cH fun H Q E hr h=>?_;obtain⟨c,p,ps,rfl,hS,hp,hl,q⟩:=h
 refine⟨_,(aj (bR (aA pZ (aN qu U B.abs_ CJ (v1 0)) (aK uh ao ao)) (aj (sT 2 cH.nd (aK bI (aK bD (aK gG (pv 0) ao) ao) ao))
 (aj (sT 3 cH.nd (aK bI (aK bD (aK bD (aK gG (pv 2) (pv 2)) (aK gG ao (pv 2))) (pv 0)) ao))
 (aj (sT 4 cH.nd (aK bI (aK bD (aK gG (pv 3) ao) (pv 2)) ao))
 (aB (sT 0 cH.nd (aK bD (pv 3) (aK gG ao (aK bD (pv 4) (aK gG ao (pv 2)))))))))) (aB (sT 0 cH.nd (aK eO (aN qu U B.abs_ CJ (v1 0)) (aK uh ao ao)))))
 (aj (sT 5 cH.nd (bc cQ))
 (aj (cP V4 U (dB (pv 1)) (pgN 6 cH.nd) (aj (aX (oX VR Wb Wa cz (pv 5) (a1 (aK bI (pv 0) (pv 6)))))
 (aB (sT 0 cH.nd (aK vK (pv 0) (pv 6))))))
 (sR (pv 5))))),?_⟩
 have b1:=Nk c;have b2:=Nu c;refine⟨G,M,⟨by decide,by decide,by decide⟩,_,_,U,U,_,U,?_⟩;refine jx (fun h=>?_) (fun h=>?_)
 ·refine⟨O,M,.inr ⟨by decide,by decide⟩,_,_,U,U,_,_,U,U,(by show (0:Int) < 2147483647;decide),_,U,_,U,_,_,U,U,.inl (show -(2 ^ 64) < vz c/\vz c < 2 ^ 64 from ⟨by lia,by lia⟩),_,U,_,_,U,U,.inl ⟨by decide,by decide⟩,_,_,U,U,_,U,_,_,U,U,_,_,U,U,(by show (0:Int) < 2147483399;decide),_,U,_,_,U,U,.inr ⟨by decide,by decide⟩,_,U,_,_,U,U,_,_,U,U,(by show (0:Int) < 1000000007;decide),_,U,_,U,_,U,_,_,U,U,.inl ⟨by decide,by decide⟩,_,_,U,U,_,_,U,U,.inl ⟨by decide,by decide⟩,_,_,U,U,small (V3 _),fun r hr0=>?_⟩
  refine⟨O,p,U,⟨_,(au hr0 _).seq hS⟩,d8 (K:=K) (a:=p) (xs:=ps.map V.int) (fun i σ H2=>∃ (z:Int) (o t u v:EW),z=divC (qm c) (ps.take i)/\σ=[oI z,oR p,o,t,u,oR r,v] ∧
   H2=upd H r (.lst ((yR (qm c) (ps.take i)).map V.int))) ⟨_,_,_,_,_,(iPo h).symm,U,U⟩ ?_ ?_ ?_⟩
  ·rintro i σ H2 hi ⟨z,o,t,u,v,_,_,e⟩;subst e;exact (au hr0 _).seq hS
  ·rintro i x σ H2 hx ⟨z,o,t,u,v,ez,rfl,rfl⟩;obtain⟨d,hd,rfl⟩:=int_at hx;obtain⟨h1,h2⟩:=hp d (Vy hd);have et:ps.take (i+1)=ps.take i++[d]:=by rw[VD,hd];rfl
   refine⟨O,.inl ⟨U,_,sqL aa⟩,G,M,h1,r,M,aa,?_,G,M,⟨h1,h2⟩,_,_,_,_,_,?_,U,?_⟩;{rw[U7,lQ,Vs];exact aJ (by lia)};{rw[et,nF,ez]};{rw[Gx,et,qQ,Vd,ez];rfl}
  ·rintro σ H2 ⟨z,o,t,u,v,_,rfl,rfl⟩;refine⟨O,?_⟩;have q':=q r hr0;rw[U7,Vk];exact q'
 ·refine⟨G,M,⟨by decide,by decide,by decide⟩,_,_,U,U,small (V3 _),fun r hr0=>?_⟩
  refine⟨O,p,U,⟨_,(au hr0 _).seq hS⟩,d8 (K:=K) (a:=p) (xs:=ps.map V.int) (fun i σ H2=>∃ (z:Int) (o t u v:EW),z=divC (qm c) (ps.take i)/\σ=[oI z,oR p,o,t,u,oR r,v] ∧
   H2=upd H r (.lst ((yR (qm c) (ps.take i)).map V.int))) ⟨_,_,_,_,_,(iNe h).symm,U,U⟩ ?_ ?_ ?_⟩
  ·rintro i σ H2 hi ⟨z,o,t,u,v,_,_,e⟩;subst e;exact (au hr0 _).seq hS
  ·rintro i x σ H2 hx ⟨z,o,t,u,v,ez,rfl,rfl⟩;obtain⟨d,hd,rfl⟩:=int_at hx;obtain⟨h1,h2⟩:=hp d (Vy hd);have et:ps.take (i+1)=ps.take i++[d]:=by rw[VD,hd];rfl
   refine⟨O,.inl ⟨U,_,sqL aa⟩,G,M,h1,r,M,aa,?_,G,M,⟨h1,h2⟩,_,_,_,_,_,?_,U,?_⟩;{rw[U7,lQ,Vs];exact aJ (by lia)};{rw[et,nF,ez]};{rw[Gx,et,qQ,Vd,ez];rfl}
  ·rintro σ H2 ⟨z,o,t,u,v,_,rfl,rfl⟩;refine⟨O,?_⟩;have q':=q r hr0;rw[U7,Vk];exact q'
abbrev oF:Stmt:=top 52
def zq:aD XV XV (az oF):=cJ
inductive Mv (K:VG)(vs:E6)(H:Hp)(Q:VK)(e3:XK):Prop where
 | mk (a:Addr) (ns:DC) (k:Nat) (_:vs=[.ref a,.int (k:Int)]) (_:SqL K H a (ns.map V.int)) (_:Q (.int (ns.getD k 0)) H)
def zg (F:Fun K "_law_cell" "_law_cell" oF f fd) (B:Bt mg) :
  aZ P w K mg base CX0 1 f fd XV (Mv K):=by
 refine okA F zq fun H Q E hr h=>?_;obtain⟨a,ns,k,rfl,hS,q⟩:=h
 refine⟨_,(aj (ifR (aA pZ (pv 1) (pln K B.len_ (pv 0))) (pxL K (pv 0) (pv 1)))
 (sR ao)),?_⟩
 refine⟨G,a,O,.inl hS,M,O,?_⟩;have el:(((ns.map V.int).length:Nat):Int)=(ns.length:Int):=by rw[U7]
 rw[el];refine jx (fun c=>?_) (fun c=>?_)
 ·have c':(k:Int) < (ns.length:Int):=of_decide_eq_true c;have hk:k < ns.length:=by lia
  refine⟨G,a,Y,hS,jH hk,?_⟩;rw[Vz,Vg hk] at q;exact q
 ·have c':¬ (k:Int) < (ns.length:Int):=fun z=>c (dcT z);have hk:ns.length<=k:=by lia
  rw[Vz,Yb hk] at q;exact q
abbrev oA:Stmt:=top 84
def zB:aD XI XI (az oA):=cJ
inductive pM (n:Nat)(vs:E6)(H:Hp)(Q:VK)(e3:XK):Prop where
 | mk (x y:V) (d:Dm) (_:vs=[x,y]) (_:Rep H x d) (_:Rep H y d) (_:d.dep < n) (_:∀ H',aH H H'->Q (.bl true) H')
def RV {x:V}:decide (x=x)=true:=dcT U
def Ba (n:Nat):(VM n true).all (fun b=>b)=true:=by
 induction n with
 | zero=>rfl
 | succ n ih=>rw[Yl,Z1,ih];rfl
def Bw (n:Nat):(VM n true).map V.bl=VM n (V.bl true):=List.map_replicate
def An {n:Nat} (F:Fun K "_law_same" "_law_same" oA f fd) (B:Bt mg)
  (RF:Df P w K mg base "_law_same" n XI (pM n)):aZ P w K mg base CX0 (n+1) f fd XI (pM (n+1)):=by
 refine okA F zB fun H Q E hr h=>?_;obtain⟨x,y,d,rfl,rx,ry,hd,q⟩:=h
 refine⟨_,(aj (ifR (EY (Mi (pv 1))) (Qd (Mi (pv 0))))
 (aj (ifR (cj (aN (r:=vY K) cF U B.isinstance_ aU (aq (pv 1) (a1 (jD B.str_ Ms))))) (dX (aN (r:=vY K) cF U B.isinstance_ aU (aq (pv 0) (a1 (jD B.str_ Ms)))) (iK (cT aQ (pv 0) (pv 1)))))
 (aj (ifR (cj (aN (r:=vY K) cF U B.isinstance_ aU (aq (pv 1) (a1 (jD B.int_ qP))))) (dX (aN (r:=vY K) cF U B.isinstance_ aU (aq (pv 0) (a1 (jD B.int_ qP)))) (dX (cT aQ (aN (r:=vY K) cF U B.isinstance_ aU (aq (pv 0) (a1 (jD B.bool_ zN)))) (aN (r:=vY K) cF U B.isinstance_ aU (aq (pv 1) (a1 (jD B.bool_ zN))))) (iK (cT aQ (pv 0) (pv 1))))))
 (aj (ifR (PW.pt (jw (aA vm (aN (r:=vY K) cF U B.isinstance_ aU (aq (pv 1) (a1 (jD B.list_ jF)))) (aN (r:=vY K) cF U B.isinstance_ aU (aq (pv 0) (a1 (jD B.list_ jF))))) (fH (aA vm (aN (r:=vY K) cF U B.isinstance_ aU (aq (pv 1) (a1 (jD B.tuple_ bH)))) (aN (r:=vY K) cF U B.isinstance_ aU (aq (pv 0) (a1 (jD B.tuple_ bH)))))))) fG)
 (sR (dX (cT aQ (pln K B.len_ (pv 0)) (pln K B.len_ (pv 1))) (iK (aN (r:=Jy K) (rJ U) U B.all_ Je (a1 (bU (L:=["_law_k"]) (F:=XI) (cap:=[0,1]) U (bj U U (by kernel_rfl)) (bN U B.range_ (a1 (pln K B.len_ (pv 1)))) (fun _ _ _ _ _=>(pgC 0)) (fun _ _ _ _ _=>cI) (fun _ _ _ _ _=>(aO RF hr (aq (pix (r:=rIx K) Lk (pv 1) (pv 0)) (a1 (pix (r:=rIx K) Lk (pv 2) (pv 0)))))))))))))))),?_⟩
 cases rx with
 | non =>
  cases ry;exact⟨G,cL ⟨O,q H (aH.refl H)⟩⟩
 | bl b =>
  cases ry;refine⟨G,bK ⟨O,_,_,_,O,.bl b,zY _,O,bK ⟨O,_,_,_,O,.bl b,rP _,O,cL ⟨O,_,_,_,O,.bl b,rP _,O,cL ⟨O,_,_,_,O,.bl b,eN _ _,O,_,_,_,O,.bl b,eN _ _,U,O,cL ⟨G,U,?_⟩⟩⟩⟩⟩⟩;have q':=q H (aH.refl H);rw[← RV (x:=V.bl b)] at q';exact q'
 | int i =>
  cases ry;refine⟨G,bK ⟨O,_,_,_,O,.int i,DP _,O,bK ⟨O,_,_,_,O,.int i,eN _ _,O,cL ⟨O,_,_,_,O,.int i,eN _ _,O,cL ⟨O,_,_,_,O,.int i,lE _,O,_,_,_,O,.int i,lE _,U,O,cL ⟨G,U,?_⟩⟩⟩⟩⟩⟩;have q':=q H (aH.refl H);rw[← RV (x:=V.int i)] at q';exact q'
 | str z =>
  cases ry;refine⟨G,bK ⟨O,_,_,_,O,.str z,eN _ _,O,cL ⟨O,_,_,_,O,.str z,eN _ _,O,cL ⟨G,U,?_⟩⟩⟩⟩;have q':=q H (aH.refl H);rw[← RV (x:=V.str z)] at q';exact q'
 | @tup a xs ds ha la ra =>
  cases ry with
  | @tup b ys _ hb lb rb =>
   have ex:=ra.length;have ey:=rb.length;have hdl:iD ds < n:=by
    have hd':iD ds+1 < n+1:=by rw[Dm.dep] at hd;exact hd
    lia
   refine⟨G,bK ⟨O,_,_,_,O,.tup hb,yF _,O,bK ⟨O,_,_,_,O,.tup hb,wJ _,O,bK ⟨O,_,_,_,O,.tup hb,nC _,O,_,_,_,O,.tup ha,nC _,U,O,bK ⟨O,_,_,_,O,.tup hb,eN _ _,O,_,_,_,O,.tup ha,eN _ _,U,O,bK ⟨O,a,O,.inr (sqT ha),O,b,O,.inr (sqT hb),U,O,?_⟩⟩⟩⟩⟩⟩;have ec:decide (V.int (xs.length:Int)=V.int (ys.length:Int))=true:=dcT (by rw[ex,ey]);rw[ec];refine cL ?_
   refine⟨O,b,O,.inr (sqT hb),O,by lia,by lia,fun D hD=>cN (lo:=0) (n:=ys.length) (fun i zs σ' H2=>(∃ v,σ'=[v,oR a,oR b])/\zs=VM i (V.bl true)/\aH H H2/\H2 D=some (.lst zs))
    ⟨⟨O⟩,U,au hD _,aa⟩ (fun i zs σ' H2 _ h=>h.2.2.2) ?_ ?_⟩
   ·rintro i zs σ' H2 hi ⟨⟨v,rfl⟩,rfl,sm,hDl⟩;obtain⟨v1,d1,e1,e2,r1⟩:=ra.get (i:=i) (by lia);obtain⟨v2,d2,e3,e4,r2⟩:=rb.get (i:=i) hi;rw[e2] at e4;cases e4;have at1:atI xs (0+(i:Int))=some v1:=by rw[WN];exact cX e1
    have at2:atI ys (0+(i:Int))=some v2:=by rw[WN];exact cX e3
    refine gT ?_;refine⟨G,.inr (.inl ⟨a,xs,_,v1,U,U,sqT (sm _ _ ha),at1,G,.inr (.inl ⟨b,ys,_,v2,U,U,sqT (sm _ _ hb),at2,v1,v2,d1,U,r1.mono sm,r2.mono sm,?_,fun H3 s3=>⟨s3 _ _ hDl,?_,⟨O⟩,?_,aM (sm.trans s3) hD _,aa⟩⟩)⟩)⟩;{exact Zz (vQ e2) hdl};{rw[YG];exact Vc (show i < 100000 by lia) (by decide)};{rw[abb]}
   ·rintro zs σ' H2 ⟨_,rfl,sm,hDl⟩;refine⟨D,VM ys.length true,U,sqL (by rw[hDl,Bw]),?_⟩;rw[Ba];exact q _ sm
 | @lst a xs ds ha la ra =>
  cases ry with
  | @lst b ys _ hb lb rb =>
   have ex:=ra.length;have ey:=rb.length;have hdl:iD ds < n:=by
    have hd':iD ds+1 < n+1:=by rw[Dm.dep] at hd;exact hd
    lia
   refine⟨G,bK ⟨O,_,_,_,O,.lst hb,Ae _,O,bK ⟨O,_,_,_,O,.lst hb,Ab _,O,bK ⟨O,_,_,_,O,.lst hb,eN _ _,O,_,_,_,O,.lst ha,eN _ _,U,O,bK ⟨O,_,_,_,O,.lst hb,nj _,O,_,_,_,O,.lst ha,nj _,U,O,bK ⟨O,a,O,.inl (sqL ha),O,b,O,.inl (sqL hb),U,O,?_⟩⟩⟩⟩⟩⟩;have ec:decide (V.int (xs.length:Int)=V.int (ys.length:Int))=true:=dcT (by rw[ex,ey]);rw[ec];refine cL ?_
   refine⟨O,b,O,.inl (sqL hb),O,by lia,by lia,fun D hD=>cN (lo:=0) (n:=ys.length) (fun i zs σ' H2=>(∃ v,σ'=[v,oR a,oR b])/\zs=VM i (V.bl true)/\aH H H2/\H2 D=some (.lst zs))
    ⟨⟨O⟩,U,au hD _,aa⟩ (fun i zs σ' H2 _ h=>h.2.2.2) ?_ ?_⟩
   ·rintro i zs σ' H2 hi ⟨⟨v,rfl⟩,rfl,sm,hDl⟩;obtain⟨v1,d1,e1,e2,r1⟩:=ra.get (i:=i) (by lia);obtain⟨v2,d2,e3,e4,r2⟩:=rb.get (i:=i) hi;rw[e2] at e4;cases e4;have at1:atI xs (0+(i:Int))=some v1:=by rw[WN];exact cX e1
    have at2:atI ys (0+(i:Int))=some v2:=by rw[WN];exact cX e3
    refine gT ?_;refine⟨G,.inl ( ⟨a,xs,_,v1,U,U,sqL (sm _ _ ha),at1,G,.inl ( ⟨b,ys,_,v2,U,U,sqL (sm _ _ hb),at2,v1,v2,d1,U,r1.mono sm,r2.mono sm,?_,fun H3 s3=>⟨s3 _ _ hDl,?_,⟨O⟩,?_,aM (sm.trans s3) hD _,aa⟩⟩)⟩)⟩;{exact Zz (vQ e2) hdl};{rw[YG];exact Vc (show i < 100000 by lia) (by decide)};{rw[abb]}
   ·rintro zs σ' H2 ⟨_,rfl,sm,hDl⟩;refine⟨D,VM ys.length true,U,sqL (by rw[hDl,Bw]),?_⟩;rw[Ba];exact q _ sm
def same_none:aZ P w K mg base CX0 0 f fd XI (pM 0):=by
 have no:∀ vs H Q E,¬ pM 0 vs H Q E:=fun vs H Q E h=>by
  obtain⟨x,y,d,_,_,_,h1,_⟩:=h;lia
 exact⟨fun vs H Q E h=>absurd h (no vs H Q E),fun A outer s H args us vs Q E _ _ _ _ h=>absurd h (no vs H Q E)⟩
abbrev lD:Stmt:=top 54
def gO:aD ["_law_cell_here","_law_k","_law_rest","_law_turn_here"] WZ (az lD):=cJ
def Np (c:Int)(k:Nat):Int:=if decide ((if c < 0 then -c else c) < 10 ^ (18:Int).toNat)=true then (c * 48271+7919 * (k:Int)+13) % 2147483647 else 10 ^ (18:Int).toNat+divC ((if c < 0 then -c else c) - 10 ^ (18:Int).toNat) (VM (k+1) (10 ^ (9:Int).toNat))
inductive vf (vs:E6)(H:Hp)(Q:VK)(e3:XK):Prop where
 | mk (c:Int) (k:Nat) (_:vs=[.int c,.int (k:Int)]) (_:k<=1000) (_:Q (.int (Np c k)) H)
def xq (F:Fun K "_law_under" "_law_under" lD f fd) (B:Bt mg) :
  aZ P w K mg base CX0 1 f fd WZ vf:=by
 refine okA F gO fun H Q E hr h=>?_;obtain⟨c,k,rfl,hk,q⟩:=h
 refine⟨_,(aj (ifR (aA pZ (aN qu U B.abs_ CJ (v1 0)) (aK uh ao ao)) (aK bI (aK bD (aK bD (aK gG (pv 0) ao) (aK gG ao (pv 1))) ao) ao))
 (aj (sT 2 gO.nd (aK eO (aN qu U B.abs_ CJ (v1 0)) (aK uh ao ao)))
 (aj (cP V4 U (bN U B.range_ (a1 (aK bD (pv 1) ao))) (pgN 3 gO.nd) (aB (sT 2 gO.nd (aK vK (pv 2) (aK uh ao ao)))))
 (sR (aK bD (aK uh ao ao) (pv 2)))))),?_⟩
 refine⟨G,M,⟨by decide,by decide,by decide⟩,_,_,U,U,_,U,?_⟩;refine jx (fun h=>?_) (fun h=>?_);{refine⟨O,M,.inr ⟨by decide,by decide⟩,_,U,_,_,U,U,.inl ⟨by decide,by decide⟩,_,_,U,U,_,_,U,U,_,_,U,U,(by show (0:Int) < 2147483647;decide),?_⟩;unfold Np at q;rw[iPo h] at q;exact q}
 ·unfold Np at q;rw[iNe h] at q;refine⟨G,M,⟨by decide,by decide,by decide⟩,_,_,U,U,?_⟩;have ek:((k:Int)+1).toNat=k+1:=by lia
  refine⟨O,M,O,by lia,by lia,iV (lo:=0) (n:=((k:Int)+1).toNat) (fun i σ H2=>(∃ t:EW,σ=[oI c,some (.int (k:Int)),some (.int (divC ((if c < 0 then -c else c) - 10 ^ (18:Int).toNat) (VM i (10 ^ (9:Int).toNat)))),t])/\H2=H) ⟨⟨O⟩,U⟩ ?_ ?_⟩
  ·rintro i σ H2 hi ⟨⟨t,rfl⟩,rfl⟩;refine⟨O,M,⟨by decide,by decide,by decide⟩,_,_,U,U,⟨by show (0:Int) < 10 ^ 9;decide,by show (10 ^ 9:Int) < 1073741824;decide⟩,⟨some (.int (0+(i:Int))),?_⟩,U⟩;rw[abb,nF];rfl
  ·rintro σ H2 ⟨⟨t,rfl⟩,rfl⟩;refine⟨M,⟨by decide,by decide,by decide⟩,_,U,_,_,U,U,?_⟩;rw[ek];exact q
abbrev lG:Stmt:=top 55
def gP:aD ["_law_number","_law_n","_law_found","_law_one"] XY (az lG):=cJ
inductive Aj (vs:E6)(H:Hp)(Q:VK)(e3:XK):Prop where
 | mk (m:Int) (n:Nat) (_:vs=[.int m,.int (n:Int)]) (_:n<=100) (_:∀ (c:DD) (r:Addr) (H':Hp),(∀ i∈c,i < n)->c.Pairwise (· < ·)->c.length<=n->aH H H'->H r=none->H' r=some (.tup (c.map vN))->Q (.ref r) H')
def yr (F:Fun K "_law_crowd" "_law_crowd" lG f fd) (B:Bt mg) :
  aZ P w K mg base CX0 1 f fd XY Aj:=by
 refine okA F gP fun H Q E hr h=>?_;obtain⟨m,n,rfl,hn,q⟩:=h
 refine⟨_,(aj (sT 2 gP.nd (bc cQ))
 (aj (cP V4 U (bN U B.range_ (v1 1)) (pgN 3 gP.nd) (aj (bR (aA aQ (aK bI (pv 0) ao) ao) (aB (aX (oX VR Wb Wa cz (pv 2) (v1 3)))) aR)
 (aB (sT 0 gP.nd (aK vK (pv 0) ao)))))
 (sR (aW (r:=fX K) bz U B.tuple_ bH (v1 2))))),?_⟩
 refine⟨smN 0,fun r hr0=>?_⟩;have en:((n:Int)).toNat=n:=VL n
 refine⟨G,by lia,by lia,iV (lo:=0) (n:=((n:Int)).toNat) (fun i σ H2=>∃ (z:Int) (t:EW) (c:DD),σ=[oI z,some (.int (n:Int)),oR r,t]/\H2=upd H r (.lst (c.map vN))/\(∀ j∈c,j < i)/\c.Pairwise (· < ·)/\c.length<=i)
  ⟨_,_,[],U,U,by simp,by simp,Vb _⟩ ?_ ?_⟩
 ·rintro i σ H2 hi ⟨z,t,c,rfl,rfl,hc,hp,hl⟩;refine⟨O,M,(by show (0:Int) < 2;decide),U,_,U,?_⟩;refine jx (fun _=>?_) (fun _=>?_)
  ·refine⟨O,.inl ⟨U,_,sqL aa⟩,O,r,M,aa,?_,O,M,⟨by decide,by decide⟩,_,_,c++[i],U,?_,?_,?_,?_⟩;{rw[U7];exact aJ (by lia)};{rw[Gx,Vd,WN];rfl}
   ·intro j hj;rcases List.mem_append.mp hj with h | h;{have:=hc j h;lia};{have:=List.mem_singleton.mp h;lia}
   ·rw[Z3];refine⟨hp,by simp,fun a ha b hb=>?_⟩;rw[List.mem_singleton.mp hb];exact hc a ha
   ·rw[Vf];show c.length+1<=i+1;lia
  ·refine⟨O,M,⟨by decide,by decide⟩,_,_,c,U,U,fun j hj=>Wn (hc j hj),hp,by lia⟩
 ·rintro σ H2 ⟨z,t,c,rfl,rfl,hc,hp,hl⟩;refine⟨O,r,O,.inl ⟨sqL aa,fun l hl'=>?_⟩⟩;rw[en] at hc hl;exact q c l _ hc hp hl ((au hr0 _).trans (au hl' _)) ((au hr0 _).free hl') aa
inductive Tm where
 | free | never | gives (i:Nat) (k:Int) | sum (c:DD) (k:Int) | crowd (c:DD) (k m:Int) | all (ts:List Tm) | any (ts:List Tm)
mutual
def Tm.dep:Tm->Nat
 | .all ts=>tdL ts+1
 | .any ts=>tdL ts+1
 | _=>1
def tdL:List Tm->Nat
 | []=>0
 | t::r=>max t.dep (tdL r)
end
mutual
def hF (g:DC):Tm->Bool
 | .free=>true
 | .never=>false
 | .gives i k=>decide (k<=g.getD i 0)
 | .sum c k=>decide (k<=(c.map fun i=>g.getD i 0).sum)
 | .crowd c k m=>decide (m<=((c.filter fun i=>decide (k<=g.getD i 0)).length:Int))
 | .all ts=>xM g ts
 | .any ts=>wk g ts
def xM (g:DC):List Tm->Bool
 | []=>true
 | t::r=>hF g t && xM g r
def wk (g:DC):List Tm->Bool
 | []=>false
 | t::r=>hF g t || wk g r
end
mutual
inductive ir (n:Nat)(H:Hp):V->Tm->Prop where
 | free {a:Addr}:H a=some (.tup [.str "free"])->ir n H (.ref a) .free
 | never {a:Addr}:H a=some (.tup [.str "never"])->ir n H (.ref a) .never
 | gives {a:Addr} {i:Nat} {k:Int}:H a=some (.tup [.str "gives",vN i,.int k])->i < n->1<=k->k<=9->ir n H (.ref a) (.gives i k)
 | sum {a b:Addr} {c:DD} {k:Int}:H a=some (.tup [.str "sum",.ref b,.int k])->H b=some (.tup (c.map vN))->(∀ i∈c,i < n)->c.Pairwise (· < ·)->c.length<=20->2<=c.length->1<=k->k<=99->ir n H (.ref a) (.sum c k)
 | crowd {a b:Addr} {c:DD} {k m:Int}:H a=some (.tup [.str "crowd",.ref b,.int k,.int m])->H b=some (.tup (c.map vN))->(∀ i∈c,i < n)->c.Pairwise (· < ·)->c.length<=20->1<=c.length->1<=k->k<=9->1<=m->m<=12->ir n H (.ref a) (.crowd c k m)
 | all {a b:Addr} {vs:E6} {ts:List Tm}:H a=some (.tup [.str "all",.ref b])->H b=some (.tup vs)->2<=vs.length->vs.length<=6->bW n H vs ts->ir n H (.ref a) (.all ts)
 | any {a b:Addr} {vs:E6} {ts:List Tm}:H a=some (.tup [.str "any",.ref b])->H b=some (.tup vs)->2<=vs.length->vs.length<=6->bW n H vs ts->ir n H (.ref a) (.any ts)
inductive bW (n:Nat)(H:Hp):E6->List Tm->Prop where
 | nil:bW n H [] []
 | cons {v:V} {t:Tm} {vs:E6} {ts:List Tm}:ir n H v t->bW n H vs ts->bW n H (v::vs) (t::ts)
end
mutual
theorem ir.aL {n:Nat}{H H':Hp}(e:∀ a xs,H a=some (HO.tup xs)->H' a=some (HO.tup xs)):∀ {v:V} {t:Tm},ir n H v t->ir n H' v t
 | _,_,.free h=>.free (e _ _ h)
 | _,_,.never h=>.never (e _ _ h)
 | _,_,.gives h a b c=>.gives (e _ _ h) a b c
 | _,_,.sum h h2 a b c d f g=>.sum (e _ _ h) (e _ _ h2) a b c d f g
 | _,_,.crowd h h2 a b c d f g i j=>.crowd (e _ _ h) (e _ _ h2) a b c d f g i j
 | _,_,.all h h2 a b r=>.all (e _ _ h) (e _ _ h2) a b (bW.aL e r)
 | _,_,.any h h2 a b r=>.any (e _ _ h) (e _ _ h2) a b (bW.aL e r)
theorem bW.aL {n:Nat}{H H':Hp}(e:∀ a xs,H a=some (HO.tup xs)->H' a=some (HO.tup xs)):∀ {vs:E6} {ts:List Tm},bW n H vs ts->bW n H' vs ts
 | _,_,.nil=>.nil
 | _,_,.cons h r=>.cons (ir.aL e h) (bW.aL e r)
end
def ir.mono {n:Nat}{H H':Hp}(e:aH H H'){v:V}{t:Tm}(h:ir n H v t):ir n H' v t:=h.aL fun a xs q=>e a _ q
def bW.mono {n:Nat}{H H':Hp}(e:aH H H'){vs:E6}{ts:List Tm}(h:bW n H vs ts):bW n H' vs ts:=h.aL fun a xs q=>e a _ q
theorem bW.length {n:Nat}{H:Hp}:∀ {vs:E6} {ts:List Tm},bW n H vs ts->vs.length=ts.length
 | _,_,.nil=>rfl
 | _,_,.cons _ r=>by rw[Vv,Vv,bW.length r]
theorem bW.get {n:Nat}{H:Hp}:∀ {vs:E6} {ts:List Tm} {i:Nat} {v:V},bW n H vs ts->vs[i]? = some v->∃ t,ts[i]? = some t/\ir n H v t
 | _,_,_,_,.nil,h=>by simp at h
 | _,_,0,_,.cons h _,e=>by
  cases (show some _=some _ from e);exact⟨O,h⟩
 | _,_,i+1,_,.cons _ r,e=>by
  obtain⟨t,e1,e2⟩:=bW.get (i:=i) r (by simpa using e);exact⟨t,by simpa using e1,e2⟩
theorem bW.snoc {n:Nat}{H:Hp}:∀ {vs:E6} {ts:List Tm} {v:V} {t:Tm},bW n H vs ts->ir n H v t->bW n H (vs++[v]) (ts++[t])
 | _,_,_,_,.nil,h=>.cons h .nil
 | _,_,_,_,.cons a r,h=>.cons a (bW.snoc r h)
theorem ig:∀ {ts:List Tm} {i:Nat} {t:Tm},ts[i]? = some t->t.dep<=tdL ts
 | [],_,_,h=>by simp at h
 | d::r,0,_,h=>by
  cases (show some d=some _ from h);rw[tdL];exact Nat.le_max_left _ _
 | d::r,i+1,_,h=>by
  rw[tdL];exact VH (ig (i:=i) (ts:=r) (by simpa using h)) (Nat.le_max_right _ _)
theorem Bk {m:Nat}{t:Tm}(h:t.dep<=m):∀ {ts:List Tm},tdL ts<=m->tdL (ts++[t])<=m
 | [],_=>by simp only[aa2,tdL];lia
 | d::r,h2=>by
  rw[tdL] at h2;rw[aaJ,tdL];have:=Bk (m:=m) h (ts:=r) (by lia);lia
theorem Tm.nM:∀ t:Tm,1<=t.dep
 | .free | .never | .gives .. | .sum .. | .crowd ..=>Vb 1
 | .all ts=>by rw[Tm.dep];lia
 | .any ts=>by rw[Tm.dep];lia
theorem yu:∀ {g:DC} {ts:List Tm} {i:Nat} {t:Tm},ts[i]? = some t->xM g (ts.take (i+1))=(xM g (ts.take i) && hF g t)
 | _,[],_,_,h=>by simp at h
 | g,d::r,0,t,h=>by
  cases (show some d=some _ from h);rw[Yk,xM,V6,V6,xM,Bool.and_true,YB]
 | g,d::r,i+1,t,h=>by
  rw[Yk,xM,yu (i:=i) (ts:=r) (by simpa using h),Yk,xM,Bool.and_assoc]
theorem ym:∀ {g:DC} {ts:List Tm} {i:Nat} {t:Tm},ts[i]? = some t->wk g (ts.take (i+1))=(wk g (ts.take i) || hF g t)
 | _,[],_,_,h=>by simp at h
 | g,d::r,0,t,h=>by
  cases (show some d=some _ from h);rw[Yk,wk,V6,V6,wk,Bool.or_false,abx]
 | g,d::r,i+1,t,h=>by
  rw[Yk,wk,ym (i:=i) (ts:=r) (by simpa using h),Yk,wk,Bool.or_assoc]
theorem uv:∀ {g:DC} {ts:List Tm} {i:Nat} {t:Tm},ts[i]? = some t->hF g t=false->xM g ts=false
 | _,[],_,_,h,_=>by simp at h
 | g,d::r,0,t,h,e=>by
  cases (show some d=some _ from h);rw[xM,e,Zd]
 | g,d::r,i+1,t,h,e=>by rw[xM,uv (i:=i) (ts:=r) (by simpa using h) e,Ze]
theorem wA:∀ {g:DC} {ts:List Tm} {i:Nat} {t:Tm},ts[i]? = some t->hF g t=true->wk g ts=true
 | _,[],_,_,h,_=>by simp at h
 | g,d::r,0,t,h,e=>by
  cases (show some d=some _ from h);rw[wk,e,Bool.true_or]
 | g,d::r,i+1,t,h,e=>by rw[wk,wA (i:=i) (ts:=r) (by simpa using h) e,Zj]
def aY {c A B:Prop}[Decidable c](hc:¬ c)(h:B):if decide c=true then A else B:=by
 rw[dcF hc];exact bK h
def eX {c A B:Prop}[Decidable c](hc:c)(h:A):if decide c=true then A else B:=by
 rw[dcT hc];exact cL h
def km {a b:VB}(h:a≠b):¬ V.str a=V.str b:=fun z=>h (by cases z;rfl)
def bf {a b:VB}(h:a≠b:=by decide):¬ V.str a=V.str b:=km h
def atD {g:DC}{i:Nat}(h:i < g.length):atI (g.map V.int) (i:Int)=some (.int (g.getD i 0)):=by
 rw[jH h,Vz,Vg h];rfl
abbrev nQ:Stmt:=top 25
abbrev mF:Stmt:=top 26
abbrev zy:Stmt:=top 27
def sH:aD ["parts","giving","part"] YE (az nQ):=cJ
def pH:aD ["parts","giving","part"] YE (az mF):=cJ
def Cz:aD ["term","giving","kind"] YR (az zy):=cJ
inductive dZ (K:VG)(d:Nat)(vs:E6)(H:Hp)(Q:VK)(e3:XK):Prop where
 | mk (v:V) (g:Addr) (n:Nat) (t:Tm) (ns:DC) (_:vs=[v,.ref g]) (_:ir n H v t) (_:t.dep<=d) (_:SqT K H g (ns.map V.int)) (_:n<=ns.length) (_:∀ H',aH H H'->Q (.bl (hF ns t)) H')
inductive Lf (K:VG)(d:Nat)(vs:E6)(H:Hp)(Q:VK)(e3:XK):Prop where
 | mk (b g:Addr) (n:Nat) (us:E6) (ts:List Tm) (ns:DC) (_:vs=[.ref b,.ref g]) (_:H b=some (.tup us)) (_:bW n H us ts) (_:tdL ts<=d) (_:SqT K H g (ns.map V.int)) (_:n<=ns.length) (_:∀ H',aH H H'->Q (.bl (xM ns ts)) H')
inductive Lz (K:VG)(d:Nat)(vs:E6)(H:Hp)(Q:VK)(e3:XK):Prop where
 | mk (b g:Addr) (n:Nat) (us:E6) (ts:List Tm) (ns:DC) (_:vs=[.ref b,.ref g]) (_:H b=some (.tup us)) (_:bW n H us ts) (_:tdL ts<=d) (_:SqT K H g (ns.map V.int)) (_:n<=ns.length) (_:∀ H',aH H H'->Q (.bl (wk ns ts)) H')
def Dk:aZ P w K mg base CX0 0 f fd YR (dZ K 0):=by
 have no:∀ vs H Q E,¬ dZ K 0 vs H Q E:=fun vs H Q E h=>by
  obtain⟨v,g,n,t,ns,_,_,h1,_⟩:=h;have:=t.nM;lia
 exact⟨fun vs H Q E h=>absurd h (no vs H Q E),fun A outer s H args us vs Q E _ _ _ _ h=>absurd h (no vs H Q E)⟩
def jb {d k:Nat} (F:Fun K "all_hold" "all_hold" nQ f fd) (B:Bt mg)
  (Ps:Df P w K mg base "holds" k YR (dZ K d)):aZ P w K mg base CX0 (k+1) f fd YE (Lf K d):=by
 refine okA F sH fun H Q E hr h=>?_;obtain⟨b,g,n,us,ts,ns,rfl,hb,rp,hd,hg,hn,q⟩:=h
 refine⟨_,(aj (cP V4 U (cU (pv 0)) (pgN 2 sH.nd) (aB (ifR (dC (cj (aO Ps hr (v2 2 1)))) fG)))
 (sR fG)),?_⟩
 have el:=rp.length;refine⟨O,b,U,⟨_,sqT hb⟩,dR (K:=K) (a:=b) (xs:=us) (fun i σ H2=>(∃ u,σ=[oR b,oR g,u])/\aH H H2/\xM ns (ts.take i)=true) ⟨⟨O⟩,aH.refl H,by rw[V6,xM]⟩ (fun i σ H2 _ h=>gW h.2.1 (sqT hb)) ?_ ?_⟩
 ·rintro i x σ H2 hx ⟨⟨u,rfl⟩,sm,ab⟩;obtain⟨t,ht,rt⟩:=rp.get hx;refine⟨G,x,g,n,t,ns,U,rt.mono sm,VH (ig ht) hd,gW sm hg,hn,fun H3 s3=>⟨O,?_⟩⟩;cases e:hF ns t with
  | false =>
   have q':=q H3 (sm.trans s3);rw[uv ht e] at q';exact cL q'
  | true=>exact bK ⟨⟨O⟩,sm.trans s3,by rw[yu ht,ab,e];rfl⟩
 ·rintro σ H2 ⟨⟨u,rfl⟩,sm,ab⟩;have q':=q H2 sm;rw[el,Vk] at ab;rw[ab] at q';exact q'
def gB {d k:Nat} (F:Fun K "any_holds" "any_holds" mF f fd) (B:Bt mg)
  (Ps:Df P w K mg base "holds" k YR (dZ K d)):aZ P w K mg base CX0 (k+1) f fd YE (Lz K d):=by
 refine okA F pH fun H Q E hr h=>?_;obtain⟨b,g,n,us,ts,ns,rfl,hb,rp,hd,hg,hn,q⟩:=h
 refine⟨_,(aj (cP V4 U (cU (pv 0)) (pgN 2 pH.nd) (aB (ifR (cj (aO Ps hr (v2 2 1))) fG)))
 (sR fG)),?_⟩
 have el:=rp.length;refine⟨O,b,U,⟨_,sqT hb⟩,dR (K:=K) (a:=b) (xs:=us) (fun i σ H2=>(∃ u,σ=[oR b,oR g,u])/\aH H H2/\wk ns (ts.take i)=false) ⟨⟨O⟩,aH.refl H,by rw[V6,wk]⟩ (fun i σ H2 _ h=>gW h.2.1 (sqT hb)) ?_ ?_⟩
 ·rintro i x σ H2 hx ⟨⟨u,rfl⟩,sm,ab⟩;obtain⟨t,ht,rt⟩:=rp.get hx;refine⟨G,x,g,n,t,ns,U,rt.mono sm,VH (ig ht) hd,gW sm hg,hn,fun H3 s3=>⟨O,?_⟩⟩;cases e:hF ns t with
  | true =>
   have q':=q H3 (sm.trans s3);rw[wA ht e] at q';exact cL q'
  | false=>exact bK ⟨⟨O⟩,sm.trans s3,by rw[ym ht,ab,e];rfl⟩
 ·rintro σ H2 ⟨⟨u,rfl⟩,sm,ab⟩;have q':=q H2 sm;rw[el,Vk] at ab;rw[ab] at q';exact q'
def qI {d k:Nat} (F:Fun K "holds" "holds" zy f fd) (B:Bt mg)
  (O0:Df P w K mg base "all_hold" k YE (Lf K d)) (Pc:Df P w K mg base "any_holds" k YE (Lz K d)):aZ P w K mg base CX0 (k+1) f fd YR (dZ K (d+1)):=by
 refine okA F Cz fun H Q E hr h=>?_;obtain⟨v,g,n,t,ns,rfl,rt,hd,hg,hn,q⟩:=h
 refine⟨_,(aj (sT 2 Cz.nd (pxT K (pv 0) ao))
 (aj (ifR (aA aQ (pv 2) aC) (cT mC (pxT K (pv 1) (pxT K (pv 0) ao)) (pxT K (pv 0) ao)))
 (aj (ifR (aA aQ (pv 2) aC) (cT mC (aN (r:=K1 K) (tu U) U B.sum_ G9 (a1 (bU (L:=["one"]) (F:=["giving"]) (cap:=[1]) U (bj U U (by kernel_rfl)) (cU (pxT K (pv 0) ao)) (fun _ _ _ _ _=>(pgC 0)) (fun _ _ _ _ _=>cI) (fun _ _ _ _ _=>(pxT K (pv 1) (pv 0)))))) (pxT K (pv 0) ao)))
 (aj (ifR (aA aQ (pv 2) aC) (cT mC (pln K B.len_ (bU (L:=["one"]) (F:=["giving","term"]) (cap:=[1,0]) U (bj U U (by kernel_rfl)) (cU (pxT K (pv 0) ao)) (fun _ _ _ _ _=>(pgC 0)) (fun _ _ _ _ _=>(jl (aA mC (pxT K (pv 1) (pv 0)) (pxT K (pv 2) ao)))) (fun _ _ _ _ _=>(pv 0)))) (pxT K (pv 0) ao)))
 (aj (ifR (aA aQ (pv 2) aC) (aO O0 hr (aq (pxT K (pv 0) ao) (v1 1))))
 (aj (ifR (aA aQ (pv 2) aC) (aO Pc hr (aq (pxT K (pv 0) ao) (v1 1))))
 (sR (cT aQ (pv 2) aC)))))))),?_⟩
 cases rt with
 | @free a ha =>
  refine⟨O,a,Y,sqT ha,gt0,N,aY bf ⟨N,aY bf ⟨N,aY bf ⟨N,aY bf ⟨N,aY bf ⟨O,U,?_⟩⟩⟩⟩⟩⟩;have q':=q H (aH.refl H);rw[hF] at q';rw[dcT U];exact q'
 | @never a ha =>
  refine⟨O,a,Y,sqT ha,gt0,N,aY bf ⟨N,aY bf ⟨N,aY bf ⟨N,aY bf ⟨N,aY bf ⟨O,U,?_⟩⟩⟩⟩⟩⟩;have q':=q H (aH.refl H);rw[hF] at q';rw[dcF bf];exact q'
 | @gives a i k ha hi _ _ =>
  refine⟨O,a,Y,sqT ha,gt0,N,eX U ⟨G,a,Y,sqT ha,gt1,g,Y,hg,atD (by lia),O,a,Y,sqT ha,gt2,M,?_⟩⟩;have q':=q H (aH.refl H);rw[hF] at q';exact q'
 | @sum a b c k ha hb hc _ hl _ _ _ =>
  refine⟨O,a,Y,sqT ha,gt0,N,aY bf ⟨N,eX U ?_⟩⟩
  refine⟨O,a,Y,sqT ha,gt1,b,U,⟨_,sqT hb⟩,fun D hD=>cR (K:=K) (a:=b) (xs:=c.map vN) (fun i zs σ' H2=>(∃ u,σ'=[u,oR g])/\zs=((c.take i).map fun i=>ns.getD i 0).map V.int/\aH H H2/\H2 D=some (.lst zs))
   ⟨⟨O⟩,U,au hD _,aa⟩ (fun i zs σ' H2 _ h=>⟨gW h.2.2.1 (sqT hb),h.2.2.2⟩) ?_ ?_⟩
  ·rintro j zs x σ' H2 hx ⟨⟨u,rfl⟩,e1,sm,hDl⟩;obtain⟨i,hi,rfl⟩:=vH hx;have hin:i < n:=hc i (Vy hi);refine gT ?_;refine⟨G,g,Y,gW sm hg,atD (by lia),hDl,?_,⟨O⟩,?_,aM sm hD _,aa⟩;{rw[e1,U7,U7,Vs];exact aJ (by lia)};{rw[e1,VD,hi,Vd,Vd];rfl}
  ·rintro zs σ' H2 ⟨⟨u,rfl⟩,e1,sm,hDl⟩;rw[U7,Vk] at e1;refine⟨D,O,sqL (by rw[hDl,e1]),O,a,Y,sqT (sm _ _ ha),gt2,M,?_⟩;have q':=q H2 sm;rw[hF] at q';exact q'
 | @crowd a b c k m ha hb hc _ hl _ _ _ _ _ =>
  refine⟨O,a,Y,sqT ha,gt0,N,aY bf ⟨N,aY bf ⟨N,eX U ?_⟩⟩⟩
  refine⟨O,a,Y,sqT ha,gt1,b,U,⟨_,sqT hb⟩,fun D hD=>cR (K:=K) (a:=b) (xs:=c.map vN) (fun i zs σ' H2=>(∃ u,σ'=[u,oR g,oR a])/\zs=((c.take i).filter fun i=>decide (k<=ns.getD i 0)).map vN/\aH H H2/\H2 D=some (.lst zs))
   ⟨⟨O⟩,U,au hD _,aa⟩ (fun i zs σ' H2 _ h=>⟨gW h.2.2.1 (sqT hb),h.2.2.2⟩) ?_ ?_⟩
  ·rintro j zs x σ' H2 hx ⟨⟨u,rfl⟩,e1,sm,hDl⟩;obtain⟨i,hi,rfl⟩:=vH hx;have hin:i < n:=hc i (Vy hi);have et:c.take (j+1)=c.take j++[i]:=by rw[VD,hi];rfl
   refine⟨G,g,Y,gW sm hg,atD (by lia),O,a,Y,sqT (sm _ _ ha),gt2,M,O,?_⟩;refine jx (fun cc=>?_) (fun cc=>?_)
   ·refine⟨O,hDl,?_,⟨O⟩,?_,aM sm hD _,aa⟩;{rw[e1,U7];have:=Wq (fun i=>decide (k<=ns.getD i 0)) (c.take j);rw[Vs] at this;exact aJ (by lia)};{rw[e1,et,Yu,Vd,ZZ,iPo cc];rfl}
   ·refine⟨⟨O⟩,?_,sm,hDl⟩;rw[e1,et,Yu,ZZ,iNe cc];simp
  ·rintro zs σ' H2 ⟨⟨u,rfl⟩,e1,sm,hDl⟩;rw[U7,Vk] at e1;refine⟨D,O,.inl (sqL (by rw[hDl,e1])),O,a,Y,sqT (sm _ _ ha),dM (k:=3) U,M,?_⟩;have q':=q H2 sm;rw[hF] at q';rw[U7];exact q'
 | @all a b us ts ha hb _ _ rl =>
  refine⟨O,a,Y,sqT ha,gt0,N,aY bf ⟨N,aY bf ⟨N,aY bf ⟨N,eX U ⟨O,a,Y,sqT ha,gt1,O,b,g,n,us,ts,ns,U,hb,rl,?_,hg,hn,fun H' s'=>?_⟩⟩⟩⟩⟩;{rw[Tm.dep] at hd;lia};{have q':=q H' s';rw[hF] at q';exact q'}
 | @any a b us ts ha hb _ _ rl =>
  refine⟨O,a,Y,sqT ha,gt0,N,aY bf ⟨N,aY bf ⟨N,aY bf ⟨N,aY bf ⟨N,eX U ⟨O,a,Y,sqT ha,gt1,O,b,g,n,us,ts,ns,U,hb,rl,?_,hg,hn,fun H' s'=>?_⟩⟩⟩⟩⟩⟩;{rw[Tm.dep] at hd;lia};{have q':=q H' s';rw[hF] at q';exact q'}
def nY {t u:TS}{D:Ends}{σ:St}{H:Hp}(P:St->Hp->Prop)(h2:∀ σ H,P σ H->u D σ H)(h1:∀ N:St->Hp->Prop,(∀ σ H,P σ H->N σ H)->t { D with nx:=N } σ H):Gj t u D σ H:=h1 (u D) h2
def vO {A B:TT}{t u:TS}{D:Ends}{σ:St}{H:Hp}(b1 b2:Bool)(R:Hp->Prop)(hA:∀ Q:Bool->Hp->Prop,(∀ H1,R H1->Q b1 H1)->A σ H Q)(hB:∀ H1,R H1->∀ Q:Bool->Hp->Prop,Q b2 H1->B σ H1 Q)
  (ht:∀ H1,R H1->b1=true->b2=true->t D σ H1) (hu:∀ H1,R H1->(b1=true->b2=false)->u D σ H1):Jj (TY A B) t u D σ H:=by
 refine hA _ fun H1 r1=>?_;show if b1=true then B σ H1 (fun b H2=>if b=true then t D σ H2 else u D σ H2) else (if false=true then t D σ H1 else u D σ H1)
 cases b1 with
 | false=>exact bK (bK (hu H1 r1 fun z=>by cases z))
 | true =>
  refine cL (hB H1 r1 _ ?_);cases b2 with
  | false=>exact bK (hu H1 r1 fun _=>U)
  | true=>exact cL (ht H1 r1 U U)
def gN {i:Nat}{x:V}{σ:St}{H:Hp}{P:St->Hp->Prop}(h:P (σ.set i (some x)) H):pQ i x σ H P:=h
def nN {D:Ends}{σ:St}{H:Hp}(h:D.nx σ H):KH D σ H:=h
abbrev oG:Stmt:=top 56
def fV:aD ["_law_cell_here","_law_n","_law_deep","_law_most","_law_drawn","_law_parts","_law_crowd_here"] VU (az oG):=cJ
inductive uq (d:Nat)(vs:E6)(H:Hp)(Q:VK)(e3:XK):Prop where
 | mk (c:Int) (n:Nat) (deep most:Int) (_:vs=[.int c,.int (n:Int),.int deep,.int most]) (_:1<=n) (_:n<=12) (_:1<=deep) (_:deep<=(d:Int)) (_:1<=most) (_:most<=9) (_:∀ (v:V) (t:Tm) (H':Hp),aH H H'->ir n H' v t->(t.dep:Int)<=deep->Q v H')
def term_none:aZ P w K mg base CX0 1 f fd VU (uq 0):=by
 have no:∀ vs H Q E,¬ uq 0 vs H Q E:=fun vs H Q E h=>by
  obtain⟨c,n,deep,most,_,_,_,h1,h2,_⟩:=h;lia
 exact⟨fun vs H Q E h=>absurd h (no vs H Q E),fun A outer s H args us vs Q E _ _ _ _ h=>absurd h (no vs H Q E)⟩
def mO {d:Nat} (F:Fun K "_law_term" "_law_term" oG f fd) (B:Bt mg)
  (P7:Df P w K mg base "_law_draws" 1 WO (oW K)) (RW:Df P w K mg base "_law_under" 1 WZ vf) (P4:Df P w K mg base "_law_crowd" 1 XY Aj)
  (RS:Df P w K mg base "_law_term" (d+1) VU (uq d)):aZ P w K mg base CX0 (d+2) f fd VU (uq (d+1)):=by
 refine okA F fV fun H Q E hr h=>?_;obtain⟨c,n,deep,most,rfl,n1,n12,de1,ded,m1,m9,q⟩:=h
 refine⟨_,(aj (sT 4 fV.nd (aO P7 hr (aq (pv 0) (a1 (bc (aq ao (aq ao (aq ao (aq ao (a1 ao))))))))))
 (aj (bR (PW.pt (jU (aA pZ (pxL K (pv 4) ao) ao) (fP (aA jL (pv 2) ao)))) (aj (lF (L:=["_law_k"]) (F:=["_law_n","_law_most","_law_cell_here","_law_deep"]) (cap:=[1,3,0,2]) (j:=5) fV.nd U (Za U) U (bj U U (by kernel_rfl)) (bN U B.range_ (a1 (aK bD ao (aK bI (pxL K (pv 4) ao) ao)))) (fun _ _ _ _ _=>(pgC 0)) (fun _ _ _ _ _=>cI) (fun _ _ _ _ _=>(aO RS hr (aq (aO RW hr (v2 3 0)) (aq (pv 1) (aq (aK eO (pv 4) ao) (v1 2)))))))
 (sR (aP (aq (pxL K (bc (aq aC (a1 aC))) (pxL K (pv 4) ao)) (a1 (aW (r:=fX K) bz U B.tuple_ bH (v1 5))))))) aR)
 (aj (sT 6 fV.nd (aO P4 hr (aq (pxL K (pv 4) ao) (v1 1))))
 (aj (bR (aA (r:=Ph K) (GQ hr.kj) (pv 6) (aP cQ)) (aB (sT 6 fV.nd (aP (a1 (aK bI (pxL K (pv 4) ao) (pv 1)))))) aR)
 (aj (ifR (PW.pt (jU (eQ (r:=rIn K false) dD (pxL K (pv 4) ao) (aP (aq ao (a1 ao))) U) (fP (aA jL (pln K B.len_ (pv 6)) ao)))) (aP (aq aC (aq (pv 6) (a1 (aK bD ao (aK bI (aK bD (aK gG ao (pxL K (pv 4) ao)) (pxL K (pv 4) ao)) (aN (Fv U) U B.min_ Ri (aq ao (a1 (aK gG (pv 3) (pln K B.len_ (pv 6)))))))))))))
 (aj (ifR (aA aQ (pxL K (pv 4) ao) ao) (aP (aq aC (aq (pv 6) (aq (aK bD ao (aK bI (pxL K (pv 4) ao) (pv 3))) (a1 (aK bD ao (aK bI (pxL K (pv 4) ao) (pln K B.len_ (pv 6))))))))))
 (aj (ifR (aA aQ (pxL K (pv 4) ao) ao) (aP (a1 (pxL K (bc (aq aC (aq aC (a1 aC)))) (aK bI (pxL K (pv 4) ao) ao)))))
 (sR (aP (aq aC (aq (aK bI (pxL K (pv 4) ao) (pv 1)) (a1 (aK bD ao (aK bI (pxL K (pv 4) ao) (pv 3))))))))))))))),?_⟩
 refine⟨O,smN 5,fun p1 h1=>?_⟩;generalize eH1:upd H p1 _=H1;obtain⟨g1,e1⟩:=aG eH1 h1;refine⟨c,p1,[9,12,9,4096,12],U,sqL e1,by decide,by decide,fun p2 h2=>?_⟩;generalize eH2:upd H1 p2 _=H2;obtain⟨g2,e2⟩:=aG eH2 h2;have hps:∀ q∈([9,12,9,4096,12]:DC),0 < q:=by decide
 obtain⟨d0,k0,b0⟩:=dj (c:=qm c) (i:=0) hps U;obtain⟨d1,k1,b1⟩:=dj (c:=qm c) (i:=1) hps U;obtain⟨d2,k2,b2⟩:=dj (c:=qm c) (i:=2) hps U;obtain⟨d3,k3,b3⟩:=dj (c:=qm c) (i:=3) hps U;obtain⟨d4,k4,b4⟩:=dj (c:=qm c) (i:=4) hps U;have a0:=dM (jm k0);have a1:=dM (jm k1);have a2:=dM (jm k2);have a3:=dM (jm k3);have a4:=dM (jm k4);change _=some (HO.lst ((yR (qm c) [9,12,9,4096,12]).map V.int)) at e2;generalize yR (qm c) [9,12,9,4096,12]=ds at *;have gH:aH H H2:=g1.trans g2;refine gN ?_;dsimp only;show Gj (Jj _ _ _) _ _ _ _;refine nY (fun σ H3=>σ=[oI c,some (.int (n:Int)),oI deep,oI most,oR p2,none,none]/\H2=H3) ?rest (fun _ R=>?_)
 case rest =>
  rintro σ H3 ⟨rfl,rfl⟩;refine⟨O,p2,Y,sqL e2,a3,O,d3,n,U,by lia,fun cs r3 H3 hc hp hl s3 f3 e3=>?_⟩;refine gN ?_;dsimp only;show Gj (Jj _ _ _) _ _ _ _;refine nY (fun σ H5=>∃ (rc:Addr) (cs:DD),σ=[oI c,some (.int (n:Int)),oI deep,oI most,oR p2,none,oR rc]/\aH H2 H5/\H5 rc=some (.tup (cs.map vN))/\(∀ i∈cs,i < n)/\cs.Pairwise (· < ·)/\cs.length<=n/\1<=cs.length) ?rest2 (fun _ R=>?_)
  case rest2 =>
   rintro σ H5 ⟨rc,cs,rfl,s5,e5,hc,hp,hl,h1l⟩;have e2':=s5 _ _ e2;have lenr:((cs.map vN).length:Int)=(cs.length:Int):=by rw[U7]
   show Gj (Jj _ _ _) _ _ _ _;refine nY (fun σ H6=>σ=[oI c,some (.int (n:Int)),oI deep,oI most,oR p2,none,oR rc]/\aH H5 H6) ?rest3 (fun _ R=>?_)
   case rest3 =>
    rintro σ H6 ⟨rfl,s6⟩;have e2':=s6 _ _ e2';have e5:=s6 _ _ e5;have s56:aH H H6:=gH.trans (s5.trans s6);refine⟨O,p2,Y,sqL e2',a0,U,O,?_⟩;refine jx (fun _=>?_) (fun _=>?_)
    ·refine⟨G,p2,Y,sqL e2',a2,O,M,(by show (0:Int) < most;lia),_,_,U,U,_,U,p2,_,_,_,U,U,sqL e2',a4,_,U,rc,_,U,.inr (sqT e5),_,_,U,U,?_,_,_,U,U,smN 4,fun p7 h7=>?_⟩;{rw[lenr];lia}
     ·have u1:0<=d2 % most:=V5 _ (by lia);have u2:d2 % most < most:=VN _ (by lia);have u3:0<=d4 % ((cs.map vN).length:Int):=V5 _ (by rw[lenr];lia);have u4:d4 % ((cs.map vN).length:Int) < (cs.length:Int):=by
       have:=VN d4 (b:=((cs.map vN).length:Int)) (by rw[lenr];lia);rw[lenr] at this ⊢;exact this
      refine q (.ref p7) (.crowd cs (1+d2 % most) (1+d4 % ((cs.map vN).length:Int))) _ (s56.trans (au h7 _)) (.crowd aa (au h7 _ _ _ e5) hc hp (by lia) h1l (by lia) (by lia) (by lia) (by lia)) ?_;exact de1
    ·refine⟨O,p2,Y,sqL e2',a0,U,O,?_⟩;refine jx (fun _=>?_) (fun _=>?_)
     ·refine⟨smN 3,fun p7 h7=>?_⟩;generalize eH7:upd H6 p7 _=H7;obtain⟨g7,e7⟩:=aG eH7 h7;have u1:0<=d1 % 3:=V5 _ (by lia);have u2:d1 % 3 < 3:=VN _ (by lia);have fin:∀ p8 (x:VB),H7 p8=none->(x = "free"∨x = "never")->Q (.ref p8) (upd H7 p8 (.tup [.str x])):=fun p8 x h8 hx=>by
       rcases hx with rfl | rfl;{refine q (.ref p8) .free _ (s56.trans (g7.trans (au h8 _))) (.free aa) ?_;exact de1};{refine q (.ref p8) .never _ (s56.trans (g7.trans (au h8 _))) (.never aa) ?_;exact de1}
      refine⟨O,p2,Y,sqL (g7 _ _ e2'),a1,M,(by show (0:Int) < 3;decide),?_⟩;rcases (show d1 % 3=0∨d1 % 3=1∨d1 % 3=2 by lia) with z | z | z;{exact⟨p7,Y,sqL e7,by rw[z];rfl,smN 1,fun p8 h8=>fin p8 _ h8 (.inl U)⟩};{exact⟨p7,Y,sqL e7,by rw[z];rfl,smN 1,fun p8 h8=>fin p8 _ h8 (.inl U)⟩};{exact⟨p7,Y,sqL e7,by rw[z];rfl,smN 1,fun p8 h8=>fin p8 _ h8 (.inr U)⟩}
     ·have u1:0<=d1 % (n:Int):=V5 _ (by lia);have u2:d1 % (n:Int) < (n:Int):=VN _ (by lia);have u3:0<=d2 % most:=V5 _ (by lia);have u4:d2 % most < most:=VN _ (by lia);refine⟨O,p2,Y,sqL e2',a1,O,M,(by show (0:Int) < (n:Int);lia),_,U,p2,_,_,_,U,U,sqL e2',a2,_,U,_,_,U,U,(by show (0:Int) < most;lia),_,_,U,U,smN 3,fun p7 h7=>?_⟩;obtain⟨i,hi⟩:=Wo u1;rw[hi] at u2;refine q (.ref p7) (.gives i (1+d2 % most)) _ (s56.trans (au h7 _)) (.gives (aa.trans (by show some (HO.tup [V.str "gives",V.int (d1 % (n:Int)),V.int (1+d2 % most)])=some (HO.tup [V.str "gives",V.int (i:Int),V.int (1+d2 % most)]);rw[hi])) (by lia) (by lia) (by lia)) ?_;exact de1
   ·refine vO (inV (.int d0) [.int 3,.int 4]) (decide (1 < (cs.length:Int))) (fun H6=>aH H5 H6) (fun Q' hQ=>?_) (fun H6 s6 Q' hQ=>?_) (fun H6 s6 _ hl2=>?_) (fun H6 s6 _=>R _ _ ⟨U,s6⟩);{refine⟨O,p2,Y,sqL e2',a0,smN 2,fun p6 h6=>⟨p6,O,.inr (sqT aa),U,U,O,hQ _ (au h6 _)⟩⟩};{refine⟨O,rc,O,.inr (sqT (s6 _ _ e5)),M,O,?_⟩;rw[lenr];exact hQ}
    ·have e2':=s6 _ _ e2';have e5:=s6 _ _ e5;have s56:aH H H6:=gH.trans (s5.trans s6);have hl3:(1:Int) < (cs.length:Int):=of_decide_eq_true hl2;refine⟨G,p2,Y,sqL e2',a1,M,.inl ⟨by decide,by decide⟩,_,U,p2,_,_,_,U,U,sqL e2',a2,_,_,U,U,_,U,_,U,rc,_,U,.inr (sqT e5),_,_,U,U,.inl ⟨by lia,by lia⟩,_,_,U,?_⟩;have pz:0 < most * ((cs.map vN).length:Int):=by
      rw[lenr];exact Int.mul_pos (by lia) (by lia)
     generalize hz:(if most * ((cs.map vN).length:Int) < 99 then most * ((cs.map vN).length:Int) else 99)=z
     have z1:0 < z:=by
      rw[← hz];split <;> lia
     have z2:z<=99:=by
      rw[← hz];split <;> lia
     have u3:0<=(9 * d1+d2) % z:=V5 _ (by lia);have u4:(9 * d1+d2) % z < z:=VN _ z1;refine⟨M,z1,M,smN 3,fun p7 h7=>?_⟩;refine q (.ref p7) (.sum cs (1+(9 * d1+d2) % z)) _ (s56.trans (au h7 _)) (.sum aa (au h7 _ _ _ e5) hc hp (by lia) (by lia) (by lia) (by lia)) ?_;exact de1
  ·refine⟨O,smN 0,fun p4 h4=>?_⟩;have e3':SqT K H3 r3 ((cs.map fun i:Nat=>(i:Int)).map V.int):=by rw[← iy];exact sqT e3
   have g4:aH H3 (upd H3 p4 (.tup [])):=au h4 _;refine⟨r3,p4,cs.map (fun i:Nat=>(i:Int)),[],U,U,gW g4 e3',sqT aa,_,U,?_⟩;refine jx (fun ce=>?_) (fun ce=>?_);{have u1:0<=d4 % (n:Int):=V5 _ (by lia);have u2:d4 % (n:Int) < (n:Int):=VN _ (by lia);refine⟨O,p2,Y,sqL (g4 _ _ (s3 _ _ e2)),a4,O,M,(by show (0:Int) < (n:Int);lia),smN 1,fun p5 h5=>?_⟩;obtain⟨i,hi⟩:=Wo u1;rw[hi] at u2;refine R _ _ ⟨p5,[i],U,s3.trans (g4.trans (au h5 _)),aa.trans (by show some (HO.tup [V.int (d4 % (n:Int))])=some (HO.tup [V.int (i:Int)]);rw[hi]),?_,by simp,n1,Vb _⟩;intro j hj;rw[Xk] at hj;lia}
   ·refine R _ _ ⟨r3,cs,U,s3.trans g4,g4 _ _ e3,hc,hp,hl,?_⟩;cases cs with
    | nil=>exact absurd (dcT U) ce
    | cons x xs=>rw[Vv];lia
 ·refine vO (decide (d0 < 2)) (decide (1 < deep)) (fun H3=>H2=H3) (fun Q' hQ=>?_) (fun H3 e Q' hQ=>?_) (fun H3 e c1 c2=>?_) (fun H3 e _=>R _ _ ⟨U,e⟩);{exact⟨O,p2,Y,sqL e2,a0,M,O,hQ _ U⟩};{exact⟨O,M,O,hQ⟩}
  ·subst e;have c1:d0 < 2:=of_decide_eq_true c1;have c2:1 < deep:=of_decide_eq_true c2;have u1:0<=d4 % 5:=V5 _ (by lia);have u2:d4 % 5 < 5:=VN _ (by lia)
   refine⟨O,p2,Y,sqL e2,a4,M,(by show (0:Int) < 5;decide),_,_,U,U,_,U,by lia,by lia,fun D hD=>cN (lo:=0) (n:=(2+d4 % 5).toNat)
    (fun i zs σ' H5=>(∃ u,σ'=[u,some (.int (n:Int)),oI most,oI c,oI deep])/\aH H2 H5/\H5 D=some (.lst zs)/\zs.length=i/\∃ ts,bW n H5 zs ts/\(tdL ts:Int)<=deep - 1)
    ⟨⟨O⟩,au hD _,aa,U,[],.nil,by rw[tdL];lia⟩ (fun i zs σ' H5 _ h=>h.2.2.1) ?_ ?_⟩
   ·rintro i zs σ' H5 hi ⟨⟨u,rfl⟩,s5,eD,lz,ts,rt,td⟩;refine gT ?_;refine⟨G,c,i,by rw[WN];rfl,by lia,_,U,_,U,_,_,U,U,_,U,Np c i,n,deep - 1,most,U,n1,n12,by lia,by lia,m1,m9,fun v t H6 s6 r6 d6=>?_⟩;refine⟨s6 _ _ eD,?_,⟨O⟩,aM (s5.trans s6) hD _,aa,?_,ts++[t],?_,?_⟩;{exact aJ (by lia)};{rw[Vf,lz];rfl};{have s7:=cM (zs':=zs++[v]) (s6 _ _ eD);exact ((rt.mono s6).aL s7).snoc (r6.aL s7)};{have:=Bk (m:=(deep - 1).toNat) (t:=t) (by lia) (ts:=ts) (by lia);lia}
   ·rintro zs σ' H5 ⟨⟨u,rfl⟩,s5,eD,lz,ts,rt,td⟩;refine⟨smN 2,fun p6 h6=>?_⟩;generalize eH6:upd H5 p6 _=H6;obtain⟨g6,e6⟩:=aG eH6 h6;refine⟨O,p2,Y,sqL (g6 _ _ (s5 _ _ e2)),a0,?_⟩;rcases (show d0=0∨d0=1 by lia) with z | z;{subst z;refine⟨p6,Y,sqL e6,U,O,D,O,.inl ⟨sqL (g6 _ _ eD),fun p7 h7=>?_⟩⟩;generalize eH7:upd H6 p7 _=H7;obtain⟨g7,e7⟩:=aG eH7 h7;refine⟨smN 2,fun p8 h8=>?_⟩;refine q (.ref p8) (.all ts) _ (gH.trans (s5.trans (g6.trans (g7.trans (au h8 _))))) (.all aa (au h8 _ _ _ e7) (by lia) (by lia) (rt.mono (g6.trans (g7.trans (au h8 _))))) ?_;rw[Tm.dep];lia};{subst z;refine⟨p6,Y,sqL e6,U,O,D,O,.inl ⟨sqL (g6 _ _ eD),fun p7 h7=>?_⟩⟩;generalize eH7:upd H6 p7 _=H7;obtain⟨g7,e7⟩:=aG eH7 h7;refine⟨smN 2,fun p8 h8=>?_⟩;refine q (.ref p8) (.any ts) _ (gH.trans (s5.trans (g6.trans (g7.trans (au h8 _))))) (.any aa (au h8 _ _ _ e7) (by lia) (by lia) (rt.mono (g6.trans (g7.trans (au h8 _))))) ?_;rw[Tm.dep];lia}
def JC (ns:DC)(lo hi:Da):∃ ks:DC,uP (ns.map V.int) lo hi=ks.map V.int/\ks.length<=ns.length:=by
 unfold uP;generalize HT.sIx _ _ lo=x;generalize HT.sIx _ _ hi=y;refine⟨(ns.drop x).take (y - x),by rw[List.map_take,List.map_drop],?_⟩;rw[Vs,Zi];lia
theorem vU:∀ (ns acc:DC),acc.Nodup->(ns.foldl WD acc).Nodup
 | [],acc,h=>h
 | n::r,acc,h=>by
  rw[XM];refine vU r _ ?_;unfold WD;split;{exact h};{rename_i z;rw[abN];refine⟨h,by simp,fun a ha b hb e=>?_⟩;rw[Xk] at hb;subst hb;subst e;exact z (List.any_eq_true.mpr ⟨a,ha,beq_self_eq_true a⟩)}
theorem Ht:∀ (ns acc:DC),(ns.foldl WD acc).length<=acc.length+ns.length
 | [],acc=>by simp
 | n::r,acc=>by
  rw[XM];refine VH (Ht r _) ?_;unfold WD;split;{rw[Vv];lia};{simp only[Vf,Vv,List.length_nil];lia}
def Bh (ns:DC):ddI ns=ns.foldl WD []:=by
 unfold ddI PyProof.Rows.firstMet;congr 1;apply List.ext_getElem?;intro i;rw[Vr];by_cases h:i < ns.length;{rw[abp h,Vg h];simp [Vz,Vg h]};{have e1:(Wx ns.length)[i]? = none:=Yb (by rw[Xd];lia);rw[e1,Yb (by lia)];rfl}
theorem jZ:∀ {a b:DC},a.Perm b->a.Pairwise (·<=·)->b.Pairwise (·<=·)->a=b
 | [],b,p,_,_=>(List.Perm.nil_eq p)
 | x::a,[],p,_,_=>absurd p.length_eq (by simp)
 | x::a,y::b,p,ha,hb=>by
  rw[Xx] at ha hb;have h1:x<=y:=by
   rcases List.mem_cons.mp (p.mem_iff.mpr Vm) with h | h;{lia};{exact ha.1 y h}
  have h2:y<=x:=by
   rcases List.mem_cons.mp (p.mem_iff.mp Vm) with h | h;{lia};{exact hb.1 x h}
  have e:x=y:=by lia
  subst e;rw[jZ (List.Perm.cons_inv p) ha.2 hb.2]
abbrev Pl:=List (Int × Tm)
inductive dq (n:Nat)(H:Hp):E6->Pl->Prop where
 | nil:dq n H [] []
 | cons {r:Addr} {k:Int} {v:V} {t:Tm} {vs:E6} {ps:Pl}:H r=some (.tup [.int k,v])->ir n H v t->dq n H vs ps->dq n H (.ref r::vs) ((k,t)::ps)
theorem dq.aL {n:Nat}{H H':Hp}(e:∀ a xs,H a=some (HO.tup xs)->H' a=some (HO.tup xs)):∀ {vs:E6} {ps:Pl},dq n H vs ps->dq n H' vs ps
 | _,_,.nil=>.nil
 | _,_,.cons h t r=>.cons (e _ _ h) (t.aL e) (dq.aL e r)
theorem dq.length {n:Nat}{H:Hp}:∀ {vs:E6} {ps:Pl},dq n H vs ps->vs.length=ps.length
 | _,_,.nil=>rfl
 | _,_,.cons _ _ r=>by rw[Vv,Vv,dq.length r]
theorem dq.get {n:Nat}{H:Hp}:∀ {vs:E6} {ps:Pl} {i:Nat} {v:V},dq n H vs ps->vs[i]? = some v->∃ r k u t,v = .ref r/\H r=some (.tup [.int k,u])/\ir n H u t/\ps[i]? = some (k,t)
 | _,_,_,_,.nil,h=>by simp at h
 | _,_,0,_,.cons h t _,e=>by
  cases (show some _=some _ from e);exact⟨_,_,_,O,h,t,U⟩
 | _,_,i+1,_,.cons _ _ r,e=>by
  obtain⟨a,k,u,t,h1,h2,h3,h4⟩:=dq.get (i:=i) r (by simpa using e);exact⟨a,k,u,t,h1,h2,h3,by simpa using h4⟩
theorem dq.snoc {n:Nat}{H:Hp}{r:Addr}{k:Int}{v:V}{t:Tm}(h:H r=some (.tup [.int k,v]))(ht:ir n H v t):∀ {vs:E6} {ps:Pl},dq n H vs ps->dq n H (vs++[.ref r]) (ps++[(k,t)])
 | _,_,.nil=>.cons h ht .nil
 | _,_,.cons a b c=>.cons a b (dq.snoc h ht c)
def okP (p:Pl):Prop:=p≠[]/\p.length<=9/\(p.map (·.1)).Pairwise (· < ·)/\∀ x∈p,1<=x.1/\x.1<=9/\x.2.dep<=4
def j9 (n:Nat)(H:Hp)(a:Addr)(p:Pl):Prop:=okP p/\∃ vs,H a=some (.tup vs)/\dq n H vs p
def j9.aL {n:Nat}{H H':Hp}{a:Addr}{p:Pl}(e:∀ a xs,H a=some (HO.tup xs)->H' a=some (HO.tup xs))(h:j9 n H a p):j9 n H' a p:=by
 obtain⟨ok,vs,h1,h2⟩:=h;exact⟨ok,vs,e _ _ h1,h2.aL e⟩
def j9.mono {n:Nat}{H H':Hp}{a:Addr}{p:Pl}(e:aH H H')(h:j9 n H a p):j9 n H' a p:=h.aL fun a xs q=>e a _ q
inductive eV (n:Nat)(H:Hp):Db->List Pl->Prop where
 | nil:eV n H [] []
 | cons {a:Addr} {p:Pl} {as:Db} {ps:List Pl}:j9 n H a p->eV n H as ps->eV n H (a::as) (p::ps)
theorem eV.aL {n:Nat}{H H':Hp}(e:∀ a xs,H a=some (HO.tup xs)->H' a=some (HO.tup xs)):∀ {as:Db} {ps:List Pl},eV n H as ps->eV n H' as ps
 | _,_,.nil=>.nil
 | _,_,.cons h r=>.cons (h.aL e) (eV.aL e r)
theorem eV.length {n:Nat}{H:Hp}:∀ {as:Db} {ps:List Pl},eV n H as ps->as.length=ps.length
 | _,_,.nil=>rfl
 | _,_,.cons _ r=>by rw[Vv,Vv,eV.length r]
theorem eV.get {n:Nat}{H:Hp}:∀ {as:Db} {ps:List Pl} {i:Nat} {a:Addr},eV n H as ps->as[i]? = some a->∃ p,ps[i]? = some p/\j9 n H a p
 | _,_,_,_,.nil,h=>by simp at h
 | _,_,0,_,.cons h _,e=>by
  cases (show some _=some _ from e);exact⟨O,h⟩
 | _,_,i+1,_,.cons _ r,e=>by
  obtain⟨p,h1,h2⟩:=eV.get (i:=i) r (by simpa using e);exact⟨p,by simpa using h1,h2⟩
theorem eV.snoc {n:Nat}{H:Hp}{a:Addr}{p:Pl}(h:j9 n H a p):∀ {as:Db} {ps:List Pl},eV n H as ps->eV n H (as++[a]) (ps++[p])
 | _,_,.nil=>.cons h .nil
 | _,_,.cons x r=>.cons x (eV.snoc h r)
inductive fK (n:Nat)(H:Hp):E6->List (List Pl)->Prop where
 | nil:fK n H [] []
 | cons {c:Addr} {as:Db} {ps:List Pl} {us:E6} {bs:List (List Pl)}:H c=some (.lst (as.map V.ref))->as.length<=100->eV n H as ps->fK n H us bs->fK n H (.ref c::us) (ps::bs)
theorem fK.mono {n:Nat}{H H':Hp}(e:aH H H'):∀ {us:E6} {bs:List (List Pl)},fK n H us bs->fK n H' us bs
 | _,_,.nil=>.nil
 | _,_,.cons h l p r=>.cons (e _ _ h) l (p.aL fun a xs q=>e a _ q) (fK.mono e r)
theorem fK.length {n:Nat}{H:Hp}:∀ {us:E6} {bs:List (List Pl)},fK n H us bs->us.length=bs.length
 | _,_,.nil=>rfl
 | _,_,.cons _ _ _ r=>by rw[Vv,Vv,fK.length r]
theorem fK.get {n:Nat}{H:Hp}:∀ {us:E6} {bs:List (List Pl)} {i:Nat} {u:V},fK n H us bs->us[i]? = some u->∃ c as ps,u = .ref c/\bs[i]? = some ps/\H c=some (.lst (as.map V.ref))/\as.length<=100/\eV n H as ps
 | _,_,_,_,.nil,h=>by simp at h
 | _,_,0,_,.cons h l p _,e=>by
  cases (show some _=some _ from e);exact⟨Y,h,l,p⟩
 | _,_,i+1,_,.cons _ _ _ r,e=>by
  obtain⟨c,as,ps,h1,h2,h3⟩:=fK.get (i:=i) r (by simpa using e);exact⟨c,as,ps,h1,by simpa using h2,h3⟩
theorem fK.snoc {n:Nat}{H:Hp}{c:Addr}{as:Db}{ps:List Pl}(h:H c=some (.lst (as.map V.ref)))(hl:as.length<=100)(hp:eV n H as ps):∀ {us:E6} {bs:List (List Pl)},fK n H us bs->fK n H (us++[.ref c]) (bs++[ps])
 | _,_,.nil=>.cons h hl hp .nil
 | _,_,.cons x y z r=>.cons x y z (fK.snoc h hl hp r)
def Od (n:Nat)(H:Hp)(b:Addr)(bk:List (List Pl)):Prop:=∃ us,H b=some (.lst us)/\fK n H us bk/\bk.length<=12
def Od.mono {n:Nat}{H H':Hp}{b:Addr}{bk:List (List Pl)}(e:aH H H')(h:Od n H b bk):Od n H' b bk:=by
 obtain⟨us,h1,h2,h3⟩:=h;exact⟨us,e _ _ h1,h2.mono e,h3⟩
def owS (g:DC)(f:Int)(x:Int × Tm):Int:=if hF g x.2=true then x.1 else f
def owF (g:DC)(p:Pl):Int:=p.foldl (owS g) 0
def BJ {g:DC}{p:Pl}{i:Nat}{x:Int × Tm}(h:p[i]? = some x):owF g (p.take (i+1))=if hF g x.2=true then x.1 else owF g (p.take i):=by
 unfold owF;rw[VD,h];show ((p.take i)++[x]).foldl (owS g) 0=_;rw[List.foldl_append];rfl
def lsF (p:Pl):Int:=mxD 0 (p.map (·.1))
theorem pK:∀ (l:DC) (a x:Int),(∀ y∈l,y<=x)->a<=x->(l++[x]).foldl max a=x
 | [],a,x,_,h=>by show max a x=x;lia
 | y::l,a,x,hl,h=>by
  rw[aaJ,XM];exact pK l (max a y) x (fun z hz=>hl z (Vp _ hz)) (by have:=hl y Vm;lia)
def Am {l:DC}{x:Int}(h:(l++[x]).Pairwise (· < ·)):∀ y∈l,y<=x:=fun y hy=>by
 rw[Z3] at h;have:=h.2.2 y hy x Vm;lia
def JP {q:Pl}{x:Int × Tm}(h:((q++[x]).map (·.1)).Pairwise (· < ·)):lsF (q++[x])=x.1:=by
 rw[Vd] at h;have hl:=Am (l:=q.map (·.1)) (x:=x.1) h;unfold lsF;rw[Vd];cases q with
 | nil=>rfl
 | cons y q =>
  show ((q.map (·.1))++[x.1]).foldl max y.1=x.1;exact pK _ _ _ (fun z hz=>hl z (Vp _ hz)) (hl y.1 Vm)
def duF (g:DC)(f:Int)(ps:List Pl):Int:=(ps.map (owF g)).foldl max f
def rfS (f:Int)(ps:List Pl):Int:=(ps.map lsF).foldl max f
def rfF (fl:DC)(bk:List (List Pl)):DC:=aaR rfS fl bk
def K9 {α β γ:Type}(f:α->β->γ){xs:List α}{ys:List β}{i:Nat}{x:α}{y:β}(h1:xs[i]? = some x)(h2:ys[i]? = some y):aaR f (xs.take (i+1)) (ys.take (i+1))=aaR f (xs.take i) (ys.take i)++[f x y]:=by
 have l1:i < xs.length:=(geS h1).1;have l2:i < ys.length:=(geS h2).1;rw[VD,VD,h1,h2];show aaR f (xs.take i++[x]) (ys.take i++[y])=_;rw[List.zipWith_append (by rw[Vs,Vs];lia)];rfl
def Mp {as:Db}{i:Nat}{x:V}(h:(as.map V.ref)[i]? = some x):∃ a,as[i]? = some a/\x = .ref a:=by
 rw[Vr] at h;cases e:as[i]? with
 | none=>rw[e] at h;cases h
 | some a=>rw[e] at h;exact⟨a,U,(VV h).symm⟩
def take_snoc {α β:Type}(f:α->β){xs:List α}{i:Nat}{x:α}(h:xs[i]? = some x):(xs.take (i+1)).map f=(xs.take i).map f++[f x]:=(vy f h).symm
abbrev FQ:Stmt:=top 34
def z8:aD ["pledge","giving","step","term"] YA (az FQ):=cJ
inductive Cp (K:VG)(vs:E6)(H:Hp)(Q:VK)(e3:XK):Prop where
 | mk (a g:Addr) (n:Nat) (p:Pl) (ns:DC) (_:vs=[.ref a,.ref g]) (_:j9 n H a p) (_:SqT K H g (ns.map V.int)) (_:n<=ns.length) (_:∀ H',aH H H'->Q (.int (owF ns p)) H')
def Pg {k:Nat} (F:Fun K "owes" "owes" FQ f fd) (B:Bt mg)
  (Ps:Df P w K mg base "holds" k YR (dZ K 4)):aZ P w K mg base CX0 (k+1) f fd YA (Cp K):=by
 refine okA F z8 fun H Q E hr h=>?_;obtain⟨a,g,n,p,ns,rfl,⟨ok,vs,ha,rp⟩,hg,hn,q⟩:=h
 refine⟨_,(aj (cP V4 U (QS U B.reversed_ (v1 0)) (d7 (K:=K) 2 U U (aV (pgN 2 z8.nd) (aV (pgN 3 z8.nd) dY))) (aB (ifR (cj (aO Ps hr (v2 3 1))) (pv 2))))
 (sR ao)),?_⟩
 have el:=rp.length
 refine⟨O,a,vs,U,sqT ha,Ol (K:=K) (a:=a) (xs:=vs) (fun i σ H2=>(∃ u v,σ=[oR a,oR g,u,v])/\aH H H2/\owF ns p=owF ns (p.take (p.length - i)))
  ⟨⟨_,O⟩,aH.refl H,by rw[Nat.sub_zero,Vk]⟩ (fun i σ H2 _ h=>sqT (h.2.1 _ _ ha)) ?_ ?_⟩
 ·rintro i x σ H2 hi hx ⟨⟨u,v,rfl⟩,sm,ow⟩;obtain⟨r,k0,y,t,rfl,hr0,rt,hp⟩:=rp.get hx;have hm:=Vy hp;have e1:p.length - i=vs.length - 1 - i+1:=by lia
  have e2:p.length - (i+1)=vs.length - 1 - i:=by lia
  rw[e1,BJ hp] at ow;refine⟨r,O,sqT (sm _ _ hr0),U,_,O,M,G,y,g,n,t,ns,U,rt.mono sm,(ok.2.2.2 _ hm).2.2,gW sm hg,hn,fun H3 s3=>⟨O,?_⟩⟩;cases e:hF ns t with
  | true =>
   refine cL ⟨O,?_⟩;rw[iPo e] at ow;have q':=q H3 (sm.trans s3);rw[ow] at q';exact q'
  | false =>
   refine bK ⟨⟨_,O⟩,sm.trans s3,?_⟩;rw[iNe (by rw[e];exact Ve)] at ow;rw[e2];exact ow
 ·rintro σ H2 ⟨⟨u,v,rfl⟩,sm,ow⟩;rw[el,Nat.sub_self,V6] at ow;have q':=q H2 sm;rw[ow] at q';exact q'
def O5 (x:Nat):DD->DD
 | []=>[x]
 | y::r=>if x<=y then x::y::r else y::O5 x r
def mR:DD->DD
 | []=>[]
 | x::r=>O5 x (mR r)
theorem sG (x:Nat):∀ l:DD,(O5 x l).Perm (x::l)
 | []=>.refl _
 | y::r=>by
  rw[O5];split;{exact .refl _};{exact ((sG x r).cons y).trans (.swap x y r)}
theorem gj:∀ l:DD,(mR l).Perm l
 | []=>.refl _
 | x::r=>(sG x _).trans ((gj r).cons x)
theorem sZ (x:Nat):∀ {l:DD},l.Pairwise (·<=·)->(O5 x l).Pairwise (·<=·)
 | [],_=>by rw[O5];simp
 | y::r,h=>by
  rw[O5];rw[Xx] at h;split
  ·rw[Xx,Xx];refine⟨fun z hz=>?_,h⟩;rcases List.mem_cons.mp hz with rfl | hz;{assumption};{have:=h.1 z hz;lia}
  ·rw[Xx];refine⟨fun z hz=>?_,sZ x h.2⟩;rcases List.mem_cons.mp ((sG x r).mem_iff.mp hz) with rfl | hz;{lia};{exact h.1 z hz}
theorem lJ:∀ l:DD,(mR l).Pairwise (·<=·)
 | []=>by rw[mR];simp
 | x::r=>sZ x (lJ r)
def zz {l:DD}{ms:DC}(p:ms.Perm (l.map fun i:Nat=>(i:Int)))(h:ms.Pairwise (·<=·)):ms=(mR l).map fun i:Nat=>(i:Int):=by
 refine jZ (p.trans ((gj l).map _).symm) h ?_;rw[YM];exact (lJ l).imp fun h=>by lia
mutual
def ren (f:Nat->Nat):Tm->Tm
 | .free=>.free
 | .never=>.never
 | .gives i k=>.gives (f i) k
 | .sum c k=>.sum (mR (c.map f)) k
 | .crowd c k m=>.crowd (mR (c.map f)) k m
 | .all ts=>.all (En f ts)
 | .any ts=>.any (En f ts)
def En (f:Nat->Nat):List Tm->List Tm
 | []=>[]
 | t::r=>ren f t::En f r
end
theorem mZ (f:Nat->Nat):∀ ts:List Tm,En f ts=ts.map (ren f)
 | []=>by rw[En];rfl
 | t::r=>by rw[En,mZ f r];rfl
mutual
theorem GD (f:Nat->Nat):∀ t:Tm,(ren f t).dep=t.dep
 | .free=>by rw[ren]
 | .never=>by rw[ren]
 | .gives i k=>by rw[ren,Tm.dep,Tm.dep] <;> simp
 | .sum c k=>by rw[ren,Tm.dep,Tm.dep] <;> simp
 | .crowd c k m=>by rw[ren,Tm.dep,Tm.dep] <;> simp
 | .all ts=>by rw[ren,Tm.dep,Tm.dep,vo f ts]
 | .any ts=>by rw[ren,Tm.dep,Tm.dep,vo f ts]
theorem vo (f:Nat->Nat):∀ ts:List Tm,tdL (En f ts)=tdL ts
 | []=>by rw[En]
 | t::r=>by rw[En,tdL,tdL,GD f t,vo f r]
end
def pX (rs:DD)(i:Nat):Nat:=rs.getD i 0
def Ca {rs:DD}{i:Nat}(h:i < rs.length):pX rs i∈rs:=by
 unfold pX;rw[Vz,Vg h];exact ab0 h
def JM {rs:DD}(nd:rs.Nodup){i j:Nat}(hi:i < rs.length)(hj:j < rs.length)(hij:i < j):pX rs i≠pX rs j:=by
 unfold pX;rw[Vz,Vg hi,Vz,Vg hj];exact List.pairwise_iff_getElem.mp nd i j hi hj hij
def wY {rs c:DD}{m n:Nat}(nd:rs.Nodup)(hm:m<=rs.length)(hv:∀ x∈rs,x < n)(hc:∀ i∈c,i < m)(hp:c.Pairwise (· < ·)) :
  (∀ i∈mR (c.map (pX rs)),i < n)/\(mR (c.map (pX rs))).Pairwise (· < ·)/\(mR (c.map (pX rs))).length=c.length:=by
 have pm:=gj (c.map (pX rs));refine⟨fun i hi=>?_,?_,by rw[pm.length_eq,U7]⟩;{obtain⟨j,hj,rfl⟩:=List.mem_map.mp (pm.mem_iff.mp hi);exact hv _ (Ca (Vc (hc j hj) hm))}
 ·have nd2:(c.map (pX rs)).Nodup:=by
   show (c.map (pX rs)).Pairwise (·≠·);rw[YM];exact List.Pairwise.imp_of_mem (fun {a b} ha hb h=>JM nd (Vc (hc a ha) hm) (Vc (hc b hb) hm) h) hp
  have nd3:(mR (c.map (pX rs))).Nodup:=pm.nodup_iff.mpr nd2;exact ((lJ _).and nd3).imp fun h=>by lia
def Ij {rs:DD}{i:Nat}(h:i < rs.length):atI (rs.map vN) (i:Int)=some (vN (pX rs i)):=by
 refine cX ?_;unfold pX;rw[Vr,Vz,Vg h];rfl
def JD {b:Bool}{A B:Prop}(h:b=true)(a:A):if b=true then A else B:=by rw[iPo h];exact a
def j8 {b:Bool}{A B:Prop}(h:b=false)(a:B):if b=true then A else B:=by rw[iNe (by rw[h];exact Ve)];exact a
abbrev jq:Stmt:=top 57
def tU:aD WV WV (az jq):=cJ
inductive CV (K:VG)(d:Nat)(vs:E6)(H:Hp)(Q:VK)(e3:XK):Prop where
 | mk (v:V) (row:Addr) (m n:Nat) (t:Tm) (rs:DD) (_:vs=[v,.ref row]) (_:ir m H v t) (_:t.dep<=d) (_:SqL K H row (rs.map vN)) (_:m<=rs.length) (_:rs.Nodup) (_:(∀ x∈rs,x < n)) (_:∀ (v':V) (H':Hp),aH H H'->ir n H' v' (ren (pX rs) t)->Q v' H')
def KQ:aZ P w K mg base CX0 0 f fd WV (CV K 0):=by
 have no:∀ vs H Q E,¬ CV K 0 vs H Q E:=fun vs H Q E h=>by
  obtain⟨v,row,m,n,t,rs,_,_,h1,_⟩:=h;have:=t.nM;lia
 exact⟨fun vs H Q E h=>absurd h (no vs H Q E),fun A outer s H args us vs Q E _ _ _ _ h=>absurd h (no vs H Q E)⟩
def JV {K:VG}{H H':Hp}{a:Addr}{xs:E6}(e:aH H H')(h:SqL K H a xs):SqL K H' a xs:=e.seq h
def iu {d:Nat} (F:Fun K "_law_renamed" "_law_renamed" jq f fd) (B:Bt mg)
  (Re:Df P w K mg base "_law_renamed" d WV (CV K d)):aZ P w K mg base CX0 (d+1) f fd WV (CV K (d+1)):=by
 refine okA F tU fun H Q E hr h=>?_;obtain⟨v,row,m,n,t,rs,rfl,rt,hd,hR,hm,nd,hv,q⟩:=h
 refine⟨_,(aj (ifR (aA aQ (pxT K (pv 0) ao) aC) (aP (aq aC (aq (pxL K (pv 1) (pxT K (pv 0) ao)) (a1 (pxT K (pv 0) ao))))))
 (aj (ifR (eQ (r:=rIn K false) dD (pxT K (pv 0) ao) (aP (aq aC (a1 aC))) U) (aK (r:=iG K) gA (aP (aq (pxT K (pv 0) ao) (a1 (aW (r:=fX K) bz U B.tuple_ bH (a1 (aN (r:=Mq K) Di U B.sorted_ (by decide+kernel) (a1 (bU (L:=ZN) (F:=["_law_row"]) (cap:=[1]) U (bj U U (by kernel_rfl)) (cU (pxT K (pv 0) ao)) (fun _ _ _ _ _=>(pgC 0)) (fun _ _ _ _ _=>cI) (fun _ _ _ _ _=>(pxL K (pv 1) (pv 0))))))))))) (mW (r:=JQ K) Cy (pv 0) (oY ao) qW)))
 (aj (ifR (eQ (r:=rIn K false) dD (pxT K (pv 0) ao) (aP (aq aC (a1 aC))) U) (aP (aq (pxT K (pv 0) ao) (a1 (aW (r:=fX K) bz U B.tuple_ bH (a1 (bU (L:=["_law_part"]) (F:=["_law_row"]) (cap:=[1]) U (bj U U (by kernel_rfl)) (cU (pxT K (pv 0) ao)) (fun _ _ _ _ _=>(pgC 0)) (fun _ _ _ _ _=>cI) (fun _ _ _ _ _=>(aO Re hr (v2 0 1))))))))))
 (sR (pv 0))))),?_⟩
 cases rt with
 | @free a ha =>
  refine⟨O,a,Y,sqT ha,J,aY bf ⟨O,a,Y,sqT ha,gt0,smN 2,fun p1 h1=>⟨p1,O,.inr (sqT aa),U,U,O,j8 (by decide+kernel) ?_⟩⟩⟩;generalize eH1:upd H p1 _=H1;obtain⟨g1,_⟩:=aG eH1 h1;refine⟨O,a,Y,sqT (g1 _ _ ha),gt0,smN 2,fun p2 h2=>⟨p2,O,.inr (sqT aa),U,U,O,j8 (by decide+kernel) ?_⟩⟩;generalize eH2:upd H1 p2 _=H2;obtain⟨g2,_⟩:=aG eH2 h2;refine⟨O,?_⟩;have q':=q (.ref a) H2 (g1.trans g2) (by rw[ren];exact .free (g2 _ _ (g1 _ _ ha)));exact q'
 | @never a ha =>
  refine⟨O,a,Y,sqT ha,J,aY bf ⟨O,a,Y,sqT ha,gt0,smN 2,fun p1 h1=>⟨p1,O,.inr (sqT aa),U,U,O,j8 (by decide+kernel) ?_⟩⟩⟩;generalize eH1:upd H p1 _=H1;obtain⟨g1,_⟩:=aG eH1 h1;refine⟨O,a,Y,sqT (g1 _ _ ha),gt0,smN 2,fun p2 h2=>⟨p2,O,.inr (sqT aa),U,U,O,j8 (by decide+kernel) ?_⟩⟩;generalize eH2:upd H1 p2 _=H2;obtain⟨g2,_⟩:=aG eH2 h2;refine⟨O,?_⟩;have q':=q (.ref a) H2 (g1.trans g2) (by rw[ren];exact .never (g2 _ _ (g1 _ _ ha)));exact q'
 | @gives a i k ha hi k1 k9 =>
  refine⟨O,a,Y,sqT ha,J,eX U ⟨G,a,Y,sqT ha,gt1,row,Y,hR,Ij (by lia),O,a,Y,sqT ha,gt2,smN 3,fun p1 h1=>?_⟩⟩;refine q (.ref p1) _ (au h1 _) ?_;rw[ren];exact .gives aa (hv _ (Ca (by lia))) k1 k9
 | @sum a b c k ha hb hc hp l20 l2 k1 k99 =>
  obtain⟨x1,x2,x3⟩:=wY nd hm hv hc hp;refine⟨O,a,Y,sqT ha,J,aY bf ⟨O,a,Y,sqT ha,gt0,smN 2,fun p1 h1=>⟨p1,O,.inr (sqT aa),U,U,O,JD (by decide+kernel) ?_⟩⟩⟩;generalize eH1:upd H p1 _=H1;obtain⟨g1,_⟩:=aG eH1 h1;refine⟨O,a,Y,sqT (g1 _ _ ha),gt0,?_⟩
  refine⟨O,a,Y,sqT (g1 _ _ ha),gt1,b,U,⟨_,sqT (g1 _ _ hb)⟩,fun D hD=>cR (K:=K) (a:=b) (xs:=c.map vN) (fun i zs σ' H2=>(∃ u,σ'=[u,oR row])/\zs=((c.take i).map (pX rs)).map vN/\aH H1 H2/\H2 D=some (.lst zs))
   ⟨⟨O⟩,U,au hD _,aa⟩ (fun i zs σ' H2 _ h=>⟨sqT (h.2.2.1 _ _ (g1 _ _ hb)),h.2.2.2⟩) ?_ ?_⟩
  ·rintro j zs x σ' H2 hx ⟨⟨u,rfl⟩,e1,sm,hDl⟩;obtain⟨i,hi,rfl⟩:=vH hx;have him:=hc i (Vy hi);refine gT ?_;refine⟨G,row,Y,JV (g1.trans sm) hR,Ij (by lia),hDl,?_,⟨O⟩,?_,aM sm hD _,aa⟩;{rw[e1,U7,U7,Vs];exact aJ (by lia)};{rw[e1,take_snoc (pX rs) hi,Vd];rfl}
  ·rintro zs σ' H2 ⟨_,e1,sm,hDl⟩;rw[U7,Vk] at e1;refine⟨D,(c.map (pX rs)).map fun i:Nat=>(i:Int),U,sqL (by rw[hDl,e1,iy]),by rw[U7,U7];lia,fun ms pm so l hl=>?_⟩;rw[zz pm so,← iy];generalize eH3:upd H2 l _=H3;obtain⟨g3,e3⟩:=aG eH3 hl;refine⟨l,O,.inl ⟨sqL e3,fun p4 h4=>?_⟩⟩;generalize eH4:upd H3 p4 _=H4;obtain⟨g4,e4⟩:=aG eH4 h4;refine⟨smN 2,fun p5 h5=>?_⟩;generalize eH5:upd H4 p5 _=H5;obtain⟨g5,e5⟩:=aG eH5 h5;have s5:aH H H5:=g1.trans (sm.trans (g3.trans (g4.trans g5)));refine⟨G,a,O,sqT (s5 _ _ ha),(by show ¬ (HT.sIx 3 0 (some 2)=0/\HT.sIx 3 3 none=3);decide),fun p6 h6=>?_⟩;have ec:uP [V.str "sum",.ref b,.int k] (some 2) none=[.int k]:=rfl;rw[ec];generalize eH6:upd H5 p6 _=H6;obtain⟨g6,e6⟩:=aG eH6 h6;refine⟨p5,p6,M,sqT (g6 _ _ e5),sqT e6,smN 3,fun z=>(by cases z),fun _ z=>(by cases z),fun _ _ p7 h7=>?_⟩;refine q (.ref p7) _ (s5.trans (g6.trans (au h7 _))) ?_;rw[ren];exact .sum aa (au h7 _ _ _ (g6 _ _ (g5 _ _ e4))) x1 x2 (by lia) (by lia) k1 k99
 | @crowd a b c k mm ha hb hc hp l20 l1 k1 k9 m1 m12 =>
  obtain⟨x1,x2,x3⟩:=wY nd hm hv hc hp;refine⟨O,a,Y,sqT ha,J,aY bf ⟨O,a,Y,sqT ha,gt0,smN 2,fun p1 h1=>⟨p1,O,.inr (sqT aa),U,U,O,JD (by decide+kernel) ?_⟩⟩⟩;generalize eH1:upd H p1 _=H1;obtain⟨g1,_⟩:=aG eH1 h1;refine⟨O,a,Y,sqT (g1 _ _ ha),gt0,?_⟩
  refine⟨O,a,Y,sqT (g1 _ _ ha),gt1,b,U,⟨_,sqT (g1 _ _ hb)⟩,fun D hD=>cR (K:=K) (a:=b) (xs:=c.map vN) (fun i zs σ' H2=>(∃ u,σ'=[u,oR row])/\zs=((c.take i).map (pX rs)).map vN/\aH H1 H2/\H2 D=some (.lst zs))
   ⟨⟨O⟩,U,au hD _,aa⟩ (fun i zs σ' H2 _ h=>⟨sqT (h.2.2.1 _ _ (g1 _ _ hb)),h.2.2.2⟩) ?_ ?_⟩
  ·rintro j zs x σ' H2 hx ⟨⟨u,rfl⟩,e1,sm,hDl⟩;obtain⟨i,hi,rfl⟩:=vH hx;have him:=hc i (Vy hi);refine gT ?_;refine⟨G,row,Y,JV (g1.trans sm) hR,Ij (by lia),hDl,?_,⟨O⟩,?_,aM sm hD _,aa⟩;{rw[e1,U7,U7,Vs];exact aJ (by lia)};{rw[e1,take_snoc (pX rs) hi,Vd];rfl}
  ·rintro zs σ' H2 ⟨_,e1,sm,hDl⟩;rw[U7,Vk] at e1;refine⟨D,(c.map (pX rs)).map fun i:Nat=>(i:Int),U,sqL (by rw[hDl,e1,iy]),by rw[U7,U7];lia,fun ms pm so l hl=>?_⟩;rw[zz pm so,← iy];generalize eH3:upd H2 l _=H3;obtain⟨g3,e3⟩:=aG eH3 hl;refine⟨l,O,.inl ⟨sqL e3,fun p4 h4=>?_⟩⟩;generalize eH4:upd H3 p4 _=H4;obtain⟨g4,e4⟩:=aG eH4 h4;refine⟨smN 2,fun p5 h5=>?_⟩;generalize eH5:upd H4 p5 _=H5;obtain⟨g5,e5⟩:=aG eH5 h5;have s5:aH H H5:=g1.trans (sm.trans (g3.trans (g4.trans g5)));refine⟨G,a,O,sqT (s5 _ _ ha),(by show ¬ (HT.sIx 4 0 (some 2)=0/\HT.sIx 4 4 none=4);decide),fun p6 h6=>?_⟩;have ec:uP [V.str "crowd",.ref b,.int k,.int mm] (some 2) none=[.int k,.int mm]:=rfl;rw[ec];generalize eH6:upd H5 p6 _=H6;obtain⟨g6,e6⟩:=aG eH6 h6;refine⟨p5,p6,M,sqT (g6 _ _ e5),sqT e6,smN 4,fun z=>(by cases z),fun _ z=>(by cases z),fun _ _ p7 h7=>?_⟩;refine q (.ref p7) _ (s5.trans (g6.trans (au h7 _))) ?_;rw[ren];exact .crowd aa (au h7 _ _ _ (g6 _ _ (g5 _ _ e4))) x1 x2 (by lia) (by lia) k1 k9 m1 m12
 | @all a b us ts ha hb l2 l6 rl =>
  have hdl:tdL ts<=d:=by rw[Tm.dep] at hd;lia
  have el:=rl.length;refine⟨O,a,Y,sqT ha,J,aY bf ⟨O,a,Y,sqT ha,gt0,smN 2,fun p1 h1=>⟨p1,O,.inr (sqT aa),U,U,O,j8 (by decide+kernel) ?_⟩⟩⟩;generalize eH1:upd H p1 _=H1;obtain⟨g1,_⟩:=aG eH1 h1;refine⟨O,a,Y,sqT (g1 _ _ ha),gt0,smN 2,fun p2 h2=>⟨p2,O,.inr (sqT aa),U,U,O,JD (by decide+kernel) ?_⟩⟩;generalize eH2:upd H1 p2 _=H2;obtain⟨g2,_⟩:=aG eH2 h2;have s2:aH H H2:=g1.trans g2;refine⟨O,a,Y,sqT (s2 _ _ ha),gt0,?_⟩
  refine⟨O,a,Y,sqT (s2 _ _ ha),gt1,b,U,⟨_,sqT (s2 _ _ hb)⟩,fun D hD=>cR (K:=K) (a:=b) (xs:=us) (fun i zs σ' H3=>(∃ u,σ'=[u,oR row])/\zs.length=i/\aH H2 H3/\H3 D=some (.lst zs)/\bW n H3 zs (En (pX rs) (ts.take i)))
   ⟨⟨O⟩,U,au hD _,aa,by rw[V6,En];exact .nil⟩ (fun i zs σ' H3 _ h=>⟨sqT (h.2.2.1 _ _ (s2 _ _ hb)),h.2.2.2.1⟩) ?_ ?_⟩
  ·rintro j zs x σ' H3 hx ⟨⟨u,rfl⟩,lz,sm,hDl,rz⟩;obtain⟨t,ht,rt⟩:=rl.get hx;have hj:=(geS hx).1;refine gT ?_;refine⟨G,x,row,m,n,t,rs,U,rt.mono (s2.trans sm),VH (ig ht) hdl,JV (s2.trans sm) hR,hm,nd,hv,fun v' H4 s4 r4=>?_⟩;have s7:=cM (zs':=zs++[v']) (s4 _ _ hDl);refine⟨s4 _ _ hDl,aJ (by lia),⟨O⟩,by rw[Vf,lz];rfl,aM (sm.trans s4) hD _,aa,?_⟩;rw[mZ,take_snoc (ren (pX rs)) ht,← mZ];exact ((rz.mono s4).aL s7).snoc (r4.aL s7)
  ·rintro zs σ' H3 ⟨_,lz,sm,hDl,rz⟩;rw[el,Vk] at rz;refine⟨D,O,.inl ⟨sqL hDl,fun p4 h4=>?_⟩⟩;generalize eH4:upd H3 p4 _=H4;obtain⟨g4,e4⟩:=aG eH4 h4;refine⟨smN 2,fun p5 h5=>?_⟩;refine q (.ref p5) _ (s2.trans (sm.trans (g4.trans (au h5 _)))) ?_;rw[ren];exact .all aa (au h5 _ _ _ e4) (by lia) (by lia) (rz.mono (g4.trans (au h5 _)))
 | @any a b us ts ha hb l2 l6 rl =>
  have hdl:tdL ts<=d:=by rw[Tm.dep] at hd;lia
  have el:=rl.length;refine⟨O,a,Y,sqT ha,J,aY bf ⟨O,a,Y,sqT ha,gt0,smN 2,fun p1 h1=>⟨p1,O,.inr (sqT aa),U,U,O,j8 (by decide+kernel) ?_⟩⟩⟩;generalize eH1:upd H p1 _=H1;obtain⟨g1,_⟩:=aG eH1 h1;refine⟨O,a,Y,sqT (g1 _ _ ha),gt0,smN 2,fun p2 h2=>⟨p2,O,.inr (sqT aa),U,U,O,JD (by decide+kernel) ?_⟩⟩;generalize eH2:upd H1 p2 _=H2;obtain⟨g2,_⟩:=aG eH2 h2;have s2:aH H H2:=g1.trans g2;refine⟨O,a,Y,sqT (s2 _ _ ha),gt0,?_⟩
  refine⟨O,a,Y,sqT (s2 _ _ ha),gt1,b,U,⟨_,sqT (s2 _ _ hb)⟩,fun D hD=>cR (K:=K) (a:=b) (xs:=us) (fun i zs σ' H3=>(∃ u,σ'=[u,oR row])/\zs.length=i/\aH H2 H3/\H3 D=some (.lst zs)/\bW n H3 zs (En (pX rs) (ts.take i)))
   ⟨⟨O⟩,U,au hD _,aa,by rw[V6,En];exact .nil⟩ (fun i zs σ' H3 _ h=>⟨sqT (h.2.2.1 _ _ (s2 _ _ hb)),h.2.2.2.1⟩) ?_ ?_⟩
  ·rintro j zs x σ' H3 hx ⟨⟨u,rfl⟩,lz,sm,hDl,rz⟩;obtain⟨t,ht,rt⟩:=rl.get hx;have hj:=(geS hx).1;refine gT ?_;refine⟨G,x,row,m,n,t,rs,U,rt.mono (s2.trans sm),VH (ig ht) hdl,JV (s2.trans sm) hR,hm,nd,hv,fun v' H4 s4 r4=>?_⟩;have s7:=cM (zs':=zs++[v']) (s4 _ _ hDl);refine⟨s4 _ _ hDl,aJ (by lia),⟨O⟩,by rw[Vf,lz];rfl,aM (sm.trans s4) hD _,aa,?_⟩;rw[mZ,take_snoc (ren (pX rs)) ht,← mZ];exact ((rz.mono s4).aL s7).snoc (r4.aL s7)
  ·rintro zs σ' H3 ⟨_,lz,sm,hDl,rz⟩;rw[el,Vk] at rz;refine⟨D,O,.inl ⟨sqL hDl,fun p4 h4=>?_⟩⟩;generalize eH4:upd H3 p4 _=H4;obtain⟨g4,e4⟩:=aG eH4 h4;refine⟨smN 2,fun p5 h5=>?_⟩;refine q (.ref p5) _ (s2.trans (sm.trans (g4.trans (au h5 _)))) ?_;rw[ren];exact .any aa (au h5 _ _ _ e4) (by lia) (by lia) (rz.mono (g4.trans (au h5 _)))
def shN (one k:Nat):Nat:=k+if one<=k then 1 else 0
def shR (one m:Nat):DD:=(Wx m).map (shN one)
def Gn (one m:Nat):(shR one m).Nodup:=by
 unfold shR;show ((Wx m).map (shN one)).Pairwise (·≠·);rw[YM];refine List.pairwise_lt_range.imp fun {a b} h=>?_;unfold shN;split <;> split <;> lia
def Qz {one m:Nat}:∀ x∈shR one m,x < m+1:=fun x hx=>by
 unfold shR at hx;obtain⟨k,hk,rfl⟩:=List.mem_map.mp hx;have:=List.mem_range.mp hk;unfold shN;split <;> lia
abbrev ou:Stmt:=top 58
def z7:aD VQ VQ (az ou):=cJ
inductive LQ (vs:E6)(H:Hp)(Q:VK)(e3:XK):Prop where
 | mk (c:Int) (n one:Nat) (deep:Int) (mo:Nat) (_:vs=[.int c,.int (n:Int),.int (one:Int),.int deep,.int (mo:Int)]) (_:1<=n) (_:n<=12) (_:one < n) (_:1<=deep) (_:deep<=3) (_:1<=mo) (_:mo<=9) (_:∀ (v:V) (t:Tm) (H':Hp),aH H H'->ir n H' v t->t.dep<=3->Q v H')
def zA (F:Fun K "_law_mine" "_law_mine" ou f fd) (B:Bt mg)
  (RS:Df P w K mg base "_law_term" 4 VU (uq 3)) (Re:Df P w K mg base "_law_renamed" 3 WV (CV K 3)):aZ P w K mg base CX0 5 f fd VQ LQ:=by
 refine okA F z7 fun H Q E hr h=>?_;obtain⟨c,n,one,deep,mo,rfl,n1,n12,hone,de1,de3,m1,m9,q⟩:=h
 refine⟨_,(aj (ifR (aA aQ (pv 1) ao) (aP (a1 (pxL K (bc (aq aC (aq aC (a1 aC)))) (aK bI (pv 0) ao)))))
 (sR (aO Re hr (aq (aO RS hr (aq (pv 0) (aq (aK eO (pv 1) ao) (v2 3 4)))) (a1 (bU (L:=["_law_k"]) (F:=ZN) (cap:=[2]) U (bj U U (by kernel_rfl)) (bN U B.range_ (a1 (aK eO (pv 1) ao))) (fun _ _ _ _ _=>(pgC 0)) (fun _ _ _ _ _=>cI) (fun _ _ _ _ _=>(aK bD (pv 0) (aW (r:=Kw) nq U B.int_ qP (a1 (cT mC (pv 0) (pv 1)))))))))))),?_⟩
 refine⟨N,?_⟩;refine jx (fun c1=>?_) (fun c1=>?_)
 ·have en:n=1:=by
   have:=of_decide_eq_true c1;cases n with
   | zero=>lia
   | succ n=>injection this with z;lia
  subst en;refine⟨smN 3,fun p7 h7=>?_⟩;generalize eH7:upd H p7 _=H7;obtain⟨g7,e7⟩:=aG eH7 h7;have fin:∀ p8 (x:VB),H7 p8=none->(x = "free"∨x = "never")->Q (.ref p8) (upd H7 p8 (.tup [.str x])):=fun p8 x h8 hx=>by
   rcases hx with rfl | rfl;{exact q (.ref p8) .free _ (g7.trans (au h8 _)) (.free aa) (by decide)};{exact q (.ref p8) .never _ (g7.trans (au h8 _)) (.never aa) (by decide)}
  refine⟨O,M,(by show (0:Int) < 3;decide),?_⟩;have u1:0<=c % 3:=V5 _ (by lia);have u2:c % 3 < 3:=VN _ (by lia);rcases (show c % 3=0∨c % 3=1∨c % 3=2 by lia) with z | z | z;{exact⟨p7,Y,sqL e7,by rw[z];rfl,smN 1,fun p8 h8=>fin p8 _ h8 (.inl U)⟩};{exact⟨p7,Y,sqL e7,by rw[z];rfl,smN 1,fun p8 h8=>fin p8 _ h8 (.inr U)⟩};{exact⟨p7,Y,sqL e7,by rw[z];rfl,smN 1,fun p8 h8=>fin p8 _ h8 (.inl U)⟩}
 ·have en:n≠1:=fun z=>c1 (dcT (by rw[z];rfl));obtain⟨m,rfl⟩:∃ m,n=m+1:=⟨n - 1,by lia⟩;have em:((m+1:Nat):Int) - 1=(m:Int):=by lia
  have et:(((m+1:Nat):Int) - 1).toNat=m:=by lia
  refine⟨G,M,G,c,m,deep,(mo:Int),(by show[V.int c,V.int (((m+1:Nat):Int) - 1),V.int deep,V.int (mo:Int)]=_;rw[em]),by lia,by lia,de1,by lia,by lia,by lia,fun v t H1 s1 rt td=>?_⟩
  refine⟨O,M,O,by lia,by lia,fun D hD=>cN (lo:=0) (n:=(((m+1:Nat):Int) - 1).toNat) (fun i zs σ' H2=>(∃ u,σ'=[u,some (.int (one:Int))])/\zs=((Wx i).map (shN one)).map vN/\aH H1 H2/\H2 D=some (.lst zs))
   ⟨⟨O⟩,U,au hD _,aa⟩ (fun i zs σ' H2 _ h=>h.2.2.2) ?_ ?_⟩
  ·rintro i zs σ' H2 hi ⟨⟨u,rfl⟩,e1,sm,hDl⟩;refine gT ?_;refine⟨G,O,M,.inr ⟨O,M,hDl,?_,⟨O⟩,?_,aM sm hD _,aa⟩⟩;{rw[e1,U7,U7,Xd];exact aJ (by lia)}
   ·rw[e1,aa0,Vd,Vd];congr 1;show[V.int (0+(i:Int)+_)]=[V.int ((shN one i:Nat):Int)];congr 2;unfold shN;by_cases hc:one<=i;{rw[dcT (by lia),iPo hc];simp};{rw[dcF (by lia),iNe hc];simp}
  ·rintro zs σ' H2 ⟨_,e1,sm,hDl⟩;rw[et] at e1;refine⟨v,D,m,m+1,t,shR one m,U,rt.mono sm,by lia,sqL (by rw[hDl,e1];rfl),by unfold shR;rw[U7,Xd];lia,Gn one m,Qz,fun v' H3 s3 r3=>?_⟩;exact q v' _ H3 (s1.trans (sm.trans s3)) r3 (by rw[GD];lia)
theorem Hu {x:Int}:∀ (ns acc:DC),x∈ns.foldl WD acc ↔ x∈acc∨x∈ns
 | [],acc=>by simp
 | n::r,acc=>by
  rw[XM,Hu r _];unfold WD;split
  ·rename_i h;obtain⟨y,hy,ey⟩:=List.any_eq_true.mp h;have e:=eq_of_beq ey;constructor
   ·rintro (h | h);{exact .inl h};{exact .inr (Vp _ h)}
   ·rintro (h | h);{exact .inl h}
    ·rcases List.mem_cons.mp h with rfl | h;{exact .inl (by rw[← e];exact hy)};{exact .inr h}
  ·constructor
   ·rintro (h | h)
    ·rcases List.mem_append.mp h with h | h;{exact .inl h};{exact .inr (by rw[List.mem_singleton.mp h];exact Vm)}
    ·exact .inr (Vp _ h)
   ·rintro (h | h);{exact .inl (Z4 _ h)}
    ·rcases List.mem_cons.mp h with rfl | h;{exact .inl (V0 _ Vm)};{exact .inr h}
def okS (ms:DC):Prop:=ms≠[]/\ms.length<=9/\ms.Pairwise (· < ·)/\∀ x∈ms,1<=x/\x<=9
def QL {ns ms:DC}(p:ms.Perm (ddI ns))(so:ms.Pairwise (·<=·))(h0:ns≠[])(h9:ns.length<=9)(hb:∀ x∈ns,1<=x/\x<=9):okS ms:=by
 rw[Bh] at p;have mem:∀ x,x∈ms ↔ x∈ns:=fun x=>by rw[p.mem_iff,Hu];simp
 refine⟨fun z=>?_,?_,?_,fun x hx=>hb x ((mem x).mp hx)⟩
 ·cases ns with
  | nil=>exact h0 U
  | cons a r =>
   have:=(mem a).mpr Vm;rw[z] at this;cases this
 ·have:=Ht ns [];rw[p.length_eq];simp at this;lia
 ·have nd:ms.Nodup:=p.nodup_iff.mpr (vU ns [] (by simp));exact (so.and nd).imp fun h=>by lia
def Gu {ms:DC}(h:okS ms){p:Pl}(e:p.map (·.1)=ms)(hd:∀ x∈p,x.2.dep<=4):okP p:=by
 refine⟨fun z=>?_,?_,by rw[e];exact h.2.2.1,fun x hx=>?_⟩;{subst z;exact h.1 e.symm};{have:=congrArg Z5 e;rw[U7] at this;have:=h.2.1;lia}
 ·have hm:x.1∈ms:=by rw[← e];exact List.mem_map.mpr ⟨x,hx,U⟩
  exact⟨(h.2.2.2 _ hm).1,(h.2.2.2 _ hm).2,hd x hx⟩
abbrev jE:Stmt:=top 59
def bQ:aD ["_law_cell_here","_law_n","_law_one","_law_deep","_law_most","_law_drawn","_law_steps","_law_other_one","_law_found","_law_k","_law_step"] VQ (az jE):=cJ
inductive Ci (vs:E6)(H:Hp)(Q:VK)(e3:XK):Prop where
 | mk (c:Int) (n one:Nat) (deep:Int) (mo:Nat) (_:vs=[.int c,.int (n:Int),.int (one:Int),.int deep,.int (mo:Int)]) (_:1<=n) (_:n<=12) (_:one < n) (_:1<=deep) (_:deep<=3) (_:1<=mo) (_:mo<=9) (_:∀ (a:Addr) (p:Pl) (H':Hp),aH H H'->j9 n H' a p->Q (.ref a) H')
def uV (F:Fun K "_law_pledge" "_law_pledge" jE f fd) (B:Bt mg)
  (P7:Df P w K mg base "_law_draws" 1 WO (oW K)) (RW:Df P w K mg base "_law_under" 1 WZ vf) (P4:Df P w K mg base "_law_crowd" 1 XY Aj)
  (QA:Df P w K mg base "_law_mine" 5 VQ LQ):aZ P w K mg base CX0 6 f fd VQ Ci:=by
 refine okA F bQ fun H Q E hr h=>?_;obtain⟨c,n,one,deep,mo,rfl,n1,n12,hone,de1,de3,m1,m9,q⟩:=h
 refine⟨_,(aj (sTc 5 bQ.nd (aO P7 hr (aq (pv 0) (a1 (bc (aq ao (aq ao (aq ao (aq ao (aq ao (a1 ao)))))))))))
 (aj (sT 6 bQ.nd (pJ U U B.sorted_ U B.set_ (a1 (bU (L:=["_law_k"]) (F:=["_law_most","_law_drawn"]) (cap:=[4,5]) U (bj U U (by kernel_rfl)) (bN U B.range_ (a1 (aK bD ao (aK bI (pxL K (pv 5) ao) ao)))) (fun _ _ _ _ _=>(pgC 0)) (fun _ _ _ _ _=>cI) (fun _ _ _ _ _=>(aK bD ao (aK bI (pxL K (pv 2) (aK bD ao (pv 0))) (pv 1))))))))
 (aj (bR (aA aQ (pxL K (pv 5) ao) ao) (aj (lF (L:=["_law_step"]) (F:=[]) (cap:=[]) (j:=6) bQ.nd U (Za U) U (bj U U (by kernel_rfl)) (cU (aO P4 hr (aq (pxL K (pv 5) ao) (v1 4)))) (fun _ _ _ _ _=>(pgC 0)) (fun _ _ _ _ _=>cI) (fun _ _ _ _ _=>(aK bD ao (pv 0))))
 (aB (bR (aA (r:=Tn K) (Lx hr.kj) (pv 6) (bc cQ)) (aB (sT 6 bQ.nd (bc (v1 4)))) aR))) aR)
 (aj (ifR (PW.pt (jU (aA aQ (pxL K (pv 5) ao) ao) (fP (aA jL (pv 1) ao)))) (aW (r:=fX K) bz U B.tuple_ bH (a1 (bU (L:=["_law_step"]) (F:=["_law_n","_law_one"]) (cap:=[1,2]) U (bj U U (by kernel_rfl)) (dB (pv 6)) (fun _ _ _ _ _=>(pgC 0)) (fun _ _ _ _ _=>cI) (fun _ _ _ _ _=>(aP (aq (pv 0) (a1 (aP (aq aC (aq (aK bI (aK bD (pv 2) ao) (pv 1)) (v1 0))))))))))))
 (aj (bR (PW.pt (jU (aA aQ (pxL K (pv 5) ao) ao) (fP (aA jL (pv 1) ao)))) (aj (sTc 7 bQ.nd (aK bI (aK bD (aK bD (pv 2) ao) (aK bI (pxL K (pv 5) ao) (aK eO (pv 1) ao))) (pv 1)))
 (sR (aW (r:=fX K) bz U B.tuple_ bH (a1 (bU (L:=["_law_step"]) (F:=["_law_other_one"]) (cap:=[7]) U (bj U U (by kernel_rfl)) (dB (pv 6)) (fun _ _ _ _ _=>(pgC 0)) (fun _ _ _ _ _=>cI) (fun _ _ _ _ _=>(aP (aq (pv 0) (a1 (aP (aq aC (aq (pv 1) (a1 (aN (rE U) U B.max_ sO (aq ao (a1 (aK eO (pv 0) ao))))))))))))))))) aR)
 (aj (sT 8 bQ.nd (bc cQ))
 (aj (cP V4 U (Nq U B.enumerate_ (v1 6)) (d7 (K:=K) 2 U U (aV (pgN 9 bQ.nd) (aV (pgN 10 bQ.nd) dY))) (aB (aX (oX VR Wb Wa cz (pv 8) (a1 (aP (aq (pv 10) (a1 (aO QA hr (aq (aO RW hr (v2 0 9)) (aq (pv 1) (aq (pv 2) (v2 3 4)))))))))))))
 (sR (aW (r:=fX K) bz U B.tuple_ bH (v1 8)))))))))),?_⟩
 refine⟨O,smN 6,fun p1 h1=>?_⟩;generalize eH1:upd H p1 _=H1;obtain⟨g1,e1⟩:=aG eH1 h1;refine⟨c,p1,[7,9,9,9,12,512],U,sqL e1,by decide,by decide,fun p2 h2=>?_⟩;generalize eH2:upd H1 p2 _=H2;obtain⟨g2,e2⟩:=aG eH2 h2;have hps:∀ q∈([7,9,9,9,12,512]:DC),0 < q:=by decide
 obtain⟨d0,k0,b0⟩:=dj (c:=qm c) (i:=0) hps U;obtain⟨d1,k1,b1⟩:=dj (c:=qm c) (i:=1) hps U;obtain⟨d2,k2,b2⟩:=dj (c:=qm c) (i:=2) hps U;obtain⟨d3,k3,b3⟩:=dj (c:=qm c) (i:=3) hps U;obtain⟨d4,k4,b4⟩:=dj (c:=qm c) (i:=4) hps U;obtain⟨d5,k5,b5⟩:=dj (c:=qm c) (i:=5) hps U;have a0:=dM (jm k0);have a4:=dM (jm k4);have a5:=dM (jm k5);have kk:∀ k:Nat,k < 3->∃ d,(yR (qm c) [7,9,9,9,12,512])[1+k]? = some d:=fun k hk=>by
  match k,hk with
  | 0,_=>exact⟨_,k1⟩
  | 1,_=>exact⟨_,k2⟩
  | 2,_=>exact⟨_,k3⟩
 change _=some (HO.lst ((yR (qm c) [7,9,9,9,12,512]).map V.int)) at e2;generalize yR (qm c) [7,9,9,9,12,512]=ds at *;have gH:aH H H2:=g1.trans g2;have u1:0<=d0 % 3:=V5 _ (by lia);have u2:d0 % 3 < 3:=VN _ (by lia)
 refine⟨O,p2,Y,sqL e2,a0,M,(by show (0:Int) < 3;decide),_,_,U,U,_,U,by lia,by lia,fun D hD=>cN (lo:=0) (n:=(1+d0 % 3).toNat)
  (fun i zs σ' H3=>(∃ u,σ'=[u,some (.int (mo:Int)),oR p2])/\aH H2 H3/\H3 D=some (.lst zs)/\∃ ns:DC,zs=ns.map V.int/\ns.length=i/\∀ x∈ns,1<=x/\x<=9)
  ⟨⟨O⟩,au hD _,aa,[],U,U,by simp⟩ (fun i zs σ' H3 _ h=>h.2.2.1) ?_ ?_⟩
 ·rintro i zs σ' H3 hi ⟨⟨u,rfl⟩,s3,eD,ns,e3,ln,hb⟩;obtain⟨dk,hk⟩:=kk i (by lia);have ak:atI (ds.map V.int) (1+(0+(i:Int)))=some (.int dk):=by
   rw[show (1:Int)+(0+(i:Int))=((1+i:Nat):Int) by lia];exact dM (jm hk)
  have v1:0<=dk % (mo:Int):=V5 _ (by lia);have v2:dk % (mo:Int) < (mo:Int):=VN _ (by lia);refine gT ?_;refine⟨G,M,p2,Y,sqL (s3 _ _ e2),ak,O,M,(by show (0:Int) < (mo:Int);lia),_,_,U,U,eD,?_,⟨O⟩,aM s3 hD _,aa,ns++[1+dk % (mo:Int)],?_,?_,?_⟩;{rw[e3,U7];exact aJ (by lia)};{rw[e3,Vd];rfl};{rw[Vf,ln];rfl}
  ·intro x hx;rcases List.mem_append.mp hx with h | h;{exact hb x h};{rw[List.mem_singleton.mp h];lia}
 ·rintro zs σ' H3 ⟨_,s3,eD,ns,e3,ln,hb⟩;have ln3:1<=ns.length/\ns.length<=3:=by lia
  have dl:(ddI ns).length<=ns.length:=by
   have:=Ht ns [];rw[Bh];simpa using this
  refine⟨D,ns,U,sqL (by rw[eD,e3]),by lia,by lia,fun ms pm so l hl=>?_⟩;have okm:okS ms:=QL pm so (fun z=>by rw[z] at ln3;simp at ln3) (by lia) hb;generalize eH4:upd H3 l _=H4;obtain⟨g4,e4⟩:=aG eH4 hl;have s4:aH H2 H4:=s3.trans g4;refine gN ?_;dsimp only;show Gj (Jj _ _ _) _ _ _ _;refine nY (fun σ H5=>∃ (l:Addr) (ms:DC),σ=[oI c,some (.int (n:Int)),some (.int (one:Int)),oI deep,some (.int (mo:Int)),oR p2,oR l,none,none,none,none]/\aH H2 H5/\H5 l=some (.lst (ms.map V.int))/\okS ms) ?rest (fun _ R=>?_)
  case rest =>
   clear e4 hl so pm okm eH4 g4 s4 H4 l ms;rintro σ H5 ⟨l,ms,rfl,s5,e5,okm⟩;have l9:=okm.2.1;have e2':=s5 _ _ e2;have sH5:aH H H5:=gH.trans s5;show Gj (Jj _ _ _) _ _ _ _;refine nY (fun σ H6=>σ=[oI c,some (.int (n:Int)),some (.int (one:Int)),oI deep,some (.int (mo:Int)),oR p2,oR l,none,none,none,none]/\H5=H6) ?rest2 (fun _ R=>?_)
   case rest2 =>
    rintro σ H6 ⟨rfl,rfl⟩;show Gj (Jj _ _ _) _ _ _ _;refine nY (fun σ H6=>σ=[oI c,some (.int (n:Int)),some (.int (one:Int)),oI deep,some (.int (mo:Int)),oR p2,oR l,none,none,none,none]/\H5=H6) ?rest3 (fun _ R=>?_)
    case rest3 =>
     rintro σ H6 ⟨rfl,rfl⟩;refine⟨small (V3 _),fun r hr0=>?_⟩;generalize eH6:upd H5 r _=H6;obtain⟨g6,e6⟩:=aG eH6 hr0
     refine⟨O,l,O,g6 _ _ e5,K5 (K:=K) (a:=l) (xs:=ms.map V.int) (fun i σ H7=>(∃ u v,σ=[oI c,some (.int (n:Int)),some (.int (one:Int)),oI deep,some (.int (mo:Int)),oR p2,oR l,none,oR r,u,v])/\aH H5 H7 ∧
      ∃ (vs:E6) (p:Pl),H7 r=some (.lst vs)/\dq n H7 vs p/\p.map (·.1)=ms.take i/\∀ x∈p,x.2.dep<=4) ⟨⟨_,O⟩,g6,[],[],e6,.nil,U,by simp⟩ (fun i σ H7 _ h=>sqL (h.2.1 _ _ e5)) ?_ ?_⟩
     ·rintro i x pp σ H7 hx hpp ⟨⟨u,v,rfl⟩,s7,vs,p,er,rp,ep,hd⟩;obtain⟨st,hst,rfl⟩:=int_at hx;have hi:i < ms.length:=(geS hst).1;generalize eH8:upd H7 pp _=H8;obtain⟨g8,e8⟩:=aG eH8 hpp;refine⟨pp,O,sqT e8,U,_,O,M,O,.inl ⟨U,_,sqL (g8 _ _ er)⟩,G,O,c,i,U,by lia,_,U,_,U,_,U,_,U,Np c i,n,one,deep,mo,U,n1,n12,hone,de1,de3,m1,m9,fun v' t H9 s9 rt td=>?_⟩;refine⟨smN 2,fun pa ha=>?_⟩;generalize eHa:upd H9 pa _=Ha;obtain⟨ga,ea⟩:=aG eHa ha;have s8a:aH H7 Ha:=g8.trans (s9.trans ga);have lv:=rp.length;have lp:p.length<=ms.length:=by
       have:=congrArg Z5 ep;rw[U7,Vs] at this;lia
      have tk:=cM (zs':=vs++[.ref pa]) (s8a _ _ er);refine⟨r,M,s8a _ _ er,aJ (by lia),⟨_,O⟩,aM (s7.trans s8a) hr0 _,vs++[.ref pa],p++[(st,t)],aa,?_,?_,?_⟩;{exact dq.snoc (tk _ _ ea) ((rt.mono ga).aL tk) ((rp.aL fun a xs q=>s8a a _ q).aL tk)};{rw[Vd,ep,VD,hst];rfl}
      ·intro x hx;rcases List.mem_append.mp hx with h | h;{exact hd x h};{rw[List.mem_singleton.mp h];show t.dep<=4;lia}
     ·rintro σ H7 ⟨⟨u,v,rfl⟩,s7,vs,p,er,rp,ep,hd⟩;rw[U7,Vk] at ep;refine⟨O,r,O,.inl ⟨sqL er,fun pa ha=>?_⟩⟩;have sn:=au ha (.tup vs);exact q pa p _ (sH5.trans (s7.trans sn)) ⟨Gu okm ep hd,vs,aa,rp.aL fun a xs q=>sn a _ q⟩
    ·refine vO (decide (V.int d0=V.int 5)) (decide (1 < (n:Int))) (fun H6=>H5=H6) (fun Q' hQ=>?_) (fun H6 e Q' hQ=>?_) (fun H6 e c1 c2=>?_) (fun H6 e _=>R _ _ ⟨U,e⟩);{exact⟨O,p2,Y,sqL e2',a0,U,O,hQ _ U⟩};{subst e;exact⟨O,M,O,hQ⟩}
     ·subst e;have c2:1 < (n:Int):=of_decide_eq_true c2;have w1:0<=((one:Int)+1+d4 % ((n:Int) - 1)) % (n:Int):=V5 _ (by lia);have w2:((one:Int)+1+d4 % ((n:Int) - 1)) % (n:Int) < (n:Int):=VN _ (by lia);obtain⟨j,hj⟩:=Wo w1;refine⟨O,M,O,p2,Y,sqL e2',a4,O,M,M,(by show (0:Int) < (n:Int) - 1;lia),_,_,U,U,_,U,_,_,U,U,(by show (0:Int) < (n:Int);lia),?_⟩;refine gN ?_;have es:(fun i j:Int=>V.int (i % j)) ((one:Int)+1+d4 % ((n:Int) - 1)) (n:Int)=V.int (j:Int):=by
       show V.int (((one:Int)+1+d4 % ((n:Int) - 1)) % (n:Int))=_;rw[hj]
      refine⟨O,l,U,⟨_,sqL e5⟩,fun D hD=>iH (K:=K) (a:=l) (xs:=ms.map V.int) (fun i zs σ' H7=>(∃ u,σ'=[u,some (.int (j:Int))])/\aH H5 H7/\H7 D=some (.lst zs) ∧
       dq n H7 zs ((ms.take i).map fun st=>(st,Tm.gives j (if st - 1 > 1 then st - 1 else 1)))) ⟨⟨none,?_⟩,au hD _,aa,.nil⟩ (fun i zs σ' H7 _ h=>⟨sqL (h.2.1 _ _ e5),h.2.2.1⟩) ?_ ?_⟩
      ·rw[← es];rfl
      ·rintro i zs x σ' H7 hx ⟨⟨u,rfl⟩,s7,er,rp⟩;obtain⟨st,hst,rfl⟩:=int_at hx;have hb:=okm.2.2.2 st (Vy hst);have lv:=rp.length;rw[U7,Vs] at lv;refine gT ?_;refine⟨G,O,M,_,O,smN 3,fun pa ha=>?_⟩;generalize eHa:upd H7 pa _=Ha;obtain⟨ga,ea⟩:=aG eHa ha;refine⟨smN 2,fun pb hb'=>?_⟩;generalize eHb:upd Ha pb _=Hb;obtain⟨gb,eb⟩:=aG eHb hb';have s7b:aH H7 Hb:=ga.trans gb;have tk:=cM (zs':=zs++[.ref pb]) (s7b _ _ er);refine⟨s7b _ _ er,aJ (by lia),⟨O⟩,aM (s7.trans s7b) hD _,aa,?_⟩;rw[take_snoc (fun st=>(st,Tm.gives j (if st - 1 > 1 then st - 1 else 1))) hst]
       exact dq.snoc (tk _ _ eb) (.gives (tk _ _ (gb _ _ ea)) (by lia) (by split <;> lia) (by split <;> lia)) ((rp.aL fun a xs q=>s7b a _ q).aL tk)
      ·rintro zs σ' H7 ⟨_,s7,er,rp⟩;rw[U7,Vk] at rp;refine⟨D,O,.inl ⟨sqL er,fun pa ha=>?_⟩⟩;have sn:=au ha (.tup zs);refine q pa _ _ (sH5.trans (s7.trans sn)) ⟨Gu okm ?_ ?_,zs,aa,rp.aL fun a xs q=>sn a _ q⟩;{rw[aaS];exact List.map_id' ms};{intro x hx;obtain⟨st,_,rfl⟩:=List.mem_map.mp hx;show (1:Nat)<=4;decide}
   ·refine vO (decide (V.int d0=V.int 6)) (decide (1 < (n:Int))) (fun H6=>H5=H6) (fun Q' hQ=>?_) (fun H6 e Q' hQ=>?_) (fun H6 e c1 c2=>?_) (fun H6 e _=>R _ _ ⟨U,e⟩);{exact⟨O,p2,Y,sqL e2',a0,U,O,hQ _ U⟩};{subst e;exact⟨O,M,O,hQ⟩}
    ·subst e;have w1:0<=((one:Int)+1) % (n:Int):=V5 _ (by lia);have w2:((one:Int)+1) % (n:Int) < (n:Int):=VN _ (by lia);obtain⟨j,hj⟩:=Wo w1
     refine⟨O,l,U,⟨_,sqL e5⟩,fun D hD=>iH (K:=K) (a:=l) (xs:=ms.map V.int) (fun i zs σ' H7=>(∃ u,σ'=[u,some (.int (n:Int)),some (.int (one:Int))])/\aH H5 H7/\H7 D=some (.lst zs) ∧
      dq n H7 zs ((ms.take i).map fun st=>(st,Tm.gives j st))) ⟨⟨O⟩,au hD _,aa,.nil⟩ (fun i zs σ' H7 _ h=>⟨sqL (h.2.1 _ _ e5),h.2.2.1⟩) ?_ ?_⟩
     ·rintro i zs x σ' H7 hx ⟨⟨u,rfl⟩,s7,er,rp⟩;obtain⟨st,hst,rfl⟩:=int_at hx;have hb:=okm.2.2.2 st (Vy hst);have lv:=rp.length;rw[U7,Vs] at lv;refine gT ?_;refine⟨G,M,O,M,(by show (0:Int) < (n:Int);lia),_,U,smN 3,fun pa ha=>?_⟩;generalize eHa:upd H7 pa _=Ha;obtain⟨ga,ea⟩:=aG eHa ha;have ea:Ha pa=some (.tup [.str "gives",vN j,.int st]):=by
       rw[ea];show some (HO.tup [V.str "gives",V.int (((one:Int)+1) % (n:Int)),V.int st])=some (HO.tup [V.str "gives",V.int (j:Int),V.int st]);rw[hj]
      refine⟨smN 2,fun pb hb'=>?_⟩;generalize eHb:upd Ha pb _=Hb;obtain⟨gb,eb⟩:=aG eHb hb';have s7b:aH H7 Hb:=ga.trans gb;have tk:=cM (zs':=zs++[.ref pb]) (s7b _ _ er);refine⟨s7b _ _ er,aJ (by lia),⟨O⟩,aM (s7.trans s7b) hD _,aa,?_⟩;rw[take_snoc (fun st=>(st,Tm.gives j st)) hst];exact dq.snoc (tk _ _ eb) (.gives (tk _ _ (gb _ _ ea)) (by lia) (by lia) (by lia)) ((rp.aL fun a xs q=>s7b a _ q).aL tk)
     ·rintro zs σ' H7 ⟨_,s7,er,rp⟩;rw[U7,Vk] at rp;refine⟨D,O,.inl ⟨sqL er,fun pa ha=>?_⟩⟩;have sn:=au ha (.tup zs);refine q pa _ _ (sH5.trans (s7.trans sn)) ⟨Gu okm ?_ ?_,zs,aa,rp.aL fun a xs q=>sn a _ q⟩;{rw[aaS];exact List.map_id' ms};{intro x hx;obtain⟨st,_,rfl⟩:=List.mem_map.mp hx;show (1:Nat)<=4;decide}
  ·refine⟨O,p2,Y,sqL (s4 _ _ e2),a0,U,O,?_⟩;refine jx (fun _=>?_) (fun _=>R _ _ ⟨l,ms,U,s4,e4,okm⟩);refine⟨O,p2,Y,sqL (s4 _ _ e2),a5,O,d5,mo,U,by lia,fun cs r3 H5 hc hp hl5 s5 f5 e5=>?_⟩
   refine⟨r3,U,⟨_,sqT e5⟩,fun D5 hD5=>cR (K:=K) (a:=r3) (xs:=cs.map vN) (fun i zs σ' H6=>(∃ u,σ'=[u])/\zs=((cs.take i).map fun j:Nat=>(1:Int)+(j:Int)).map V.int/\aH H5 H6/\H6 D5=some (.lst zs))
    ⟨⟨O⟩,U,au hD5 _,aa⟩ (fun i zs σ' H6 _ h=>⟨sqT (h.2.2.1 _ _ e5),h.2.2.2⟩) ?_ ?_⟩
   ·rintro i zs x σ' H6 hx ⟨⟨u,rfl⟩,e6,s6,eD6⟩;obtain⟨j,hj,rfl⟩:=vH hx;refine gT ?_;refine⟨O,M,eD6,?_,⟨O⟩,?_,aM s6 hD5 _,aa⟩;{rw[e6,U7,U7,Vs];exact aJ (by lia)};{rw[e6,take_snoc (fun j:Nat=>(1:Int)+(j:Int)) hj,Vd];rfl}
   ·rintro zs σ' H6 ⟨_,e6,s6,eD6⟩;rw[U7,Vk] at e6;rw[e6] at eD6;have s46:aH H2 H6:=s4.trans (s5.trans s6);refine⟨O,smN 0,fun p7 h7=>?_⟩;have g7:aH H6 (upd H6 p7 (.lst [])):=au h7 _;refine⟨D5,p7,O,U,sqL (g7 _ _ eD6),sqL aa,O,?_⟩;refine jx (fun ce=>?_) (fun ce=>?_);{refine⟨O,smN 1,fun p8 h8=>?_⟩;refine R _ _ ⟨p8,[(mo:Int)],U,s46.trans (g7.trans (au h8 _)),aa,by simp,by show 1<=9;decide,by simp,?_⟩;intro x hx;rw[List.mem_singleton.mp hx];lia}
    ·refine R _ _ ⟨D5,cs.map fun j:Nat=>(1:Int)+(j:Int),U,s46.trans g7,g7 _ _ eD6,?_,?_,?_,?_⟩;{intro z;apply ce;rw[z];rfl};{rw[U7];lia};{rw[YM];exact hp.imp fun h=>by lia};{intro x hx;obtain⟨j,hj,rfl⟩:=List.mem_map.mp hx;have:=hc j hj;lia}
def gm {t u:TS}{D:Ends}{σ:St}{H:Hp}(P:St->Hp->Prop)(h2:∀ σ H,P σ H->u D σ H)(h1:∀ N:St->Hp->Prop,(∀ σ H,P σ H->N σ H)->t { D with nx:=N } σ H):Gj t u D σ H:=h1 (u D) h2
def bL {t u:TS}{D:Ends}{σ:St}{H:Hp}(P:St->Hp->Prop)(h1:∀ N:St->Hp->Prop,(∀ σ H,P σ H->N σ H)->t { D with nx:=N } σ H)(h2:∀ σ H,P σ H->u D σ H):Gj t u D σ H:=h1 (u D) h2
abbrev mJ:Stmt:=top 2
def PQ (H:Hp)(x C dx:Addr)(w:VB):Hp:=upd (upd (upd H x (xO x C none)) dx (.xd [("word",.str w)])) x (xO x C (some dx))
def Rj {H:Hp}{x C dx:Addr}{w:VB}:PQ H x C dx w x=some (xO x C (some dx)):=aa
def Pz {H:Hp} {x C dx:Addr} {w:VB} (h:dx≠x):PQ H x C dx w dx=some (.xd [("word",.str w)]):=(aF h).trans aa
def KY:aD Zp Zp (az (inClass mJ 0)):=cJ
inductive ik (K:VG)(vs:E6)(H:Hp)(Q:VK)(e3:XK):Prop where
 | mk (x C f:Addr) (w:VB) (_:vs=[.ref x,.str w]) (_:H x=some (xO x C none)) (_:Kp K C f "word") (_:∀ dx,dx≠x->H dx=none->Q .non (PQ H x C dx w))
def JR (F:Fun K "__init__" "BoonError.__init__" (inClass mJ 0) f fd) (hv:mg "ValueError" = none):aZ P w K mg base CX0 1 f fd Zp (ik K):=by
 refine okA F KY fun H Q E hr h=>?_;obtain⟨x,C,f,w,rfl,hx,XC,q⟩:=h;refine⟨_,aj (aX (JF U hv (v2 0 1))) (aB (MN (pv 0) (pv 1) U)),G,x,C,f,"word",none,O,hx,XC,G,x,C,f,U,aa,XC,fun dx hd=>?_⟩;have n:dx≠x:=fun z=>by rw[z,aa] at hd;cases hd
 rw[aF n] at hd;exact q dx n hd
inductive fZ (K:VG)(w:VB)(vs:E6)(H:Hp)(Q:VK)(e3:XK):Prop where
 | mk (x C f:Addr) (_:vs=[.ref x]) (_:H x=some (xO x C none)) (_:Kp K C f "word") (_:∀ dx,dx≠x->H dx=none->Q .non (PQ H x C dx w))
structure Xc (P:Vt)(w:V2)(K:VG)(mg:VB->C5)(base:Wg)(c:VB)(C:Addr)(wd:VB):Prop where
 ex:∃ (f:Addr) (fd:Wh),aZ P w K mg base CX0 2 f fd ZO (fZ K wd)/\mg c=some (.ref C)/\Kp K C f "word"/\Binds K fd ZO []
def thrown (C:Addr)(w:VB)(H:Hp)(E:XK):Prop:=∀ dx H1,aH H H1->H1 dx=some (.xd [("word",.str w)])->E (.ref C) (some dx) H1
section
variable {X:Cx}{c wd:VB}{C:Addr}{p pos pos':YS}{E:XK}{j:Nat}
def QJ (C:Addr)(w:VB)(E:XK):TS:=fun _ _ H=>thrown C w H E
def dF (D:Xc X.prog X.w X.K X.mg X.base c C wd)(hr:d9 j X.A)(hc:X.calm=true)(hw:Throws X fun x C dx H=>E (.ref C) (some dx) (off H x))(hk:3<=j:=by decide)(hg:Gl X c:=by rfl)(hdb:(c == ("__debug__" : VB))=false:=by decide) :
  PS X (.Raise (some (.Call (.Name c p) [] [] pos)) none pos') (QJ C wd E):=by
 obtain⟨f,fd,F,hm,XC,hb⟩:=D.ex;intro ZY s σ H De I h;refine J9 (W:=fun x C dx H=>E (.ref C) (some dx) (off H x)) hc (K7 XC F (hr.mono hk) hg hm hb lR hdb) hw ZY s σ H De I fun x hx=>?_;refine⟨x,C,f,U,aa,XC,fun dx n hd=>⟨U,x,C,f,dx,"word",U,Rj,XC,?_⟩⟩;rw[aF n] at hd;refine h dx _ (fun b u e=>?_) ?_
 ·have e1:upd H x (xO x C none) b=some u:=by rw[aF (cW e hx)];exact e
  have n1:b≠x:=cW e hx;have n2:b≠dx:=cW e hd;rw[off_ne n1];unfold PQ;rw[aF n1,aF n2,aF n1];exact e1
 ·rw[off_ne n];exact Pz n
end
def uW {P:Vt} {w:V2} {K:VG} {mg:VB->C5} {base h:Wg} {x q wd:VB} {C fi:Addr} {st:Stmt} {bm:C9} (o:dz K x q C fi st bm) (X:K.In h) (G:h.Ns Vu mg) (hb:∀ fd,Fun K "__init__" q st fi fd->Binds K fd ZO []) (ok:∀ fd,Fun K "__init__" q st fi fd->aZ P w K mg base CX0 2 fi fd ZO (fZ K wd)):Xc P w K mg base x C wd:=by
 obtain⟨fd,F⟩:=o.fn;exact⟨⟨_,_,ok _ F,o.name X G,o.Ud,hb _ F⟩⟩
section
variable {fB CB:Addr} {mc:Value} {fdB:Wh} (hB:mg "BoonError" = some (.ref CB)) (O:qU K CB mc "__init__" fB) (FB:aZ P w K mg base CX0 1 fB fdB Zp (ik K)) (bB:Binds K fdB Zp [])
abbrev mG:Stmt:=top 3
def Ey:aD ZO ZO (az (inClass mG 0)):=cJ
def HQ (F:Fun K "__init__" "BadPledge.__init__" (inClass mG 0) f fd):aZ P w K mg base CX0 2 f fd ZO (fZ K "bad pledge"):=by
 refine okA F Ey fun H Q E hr h=>?_;obtain⟨x,C,f,rfl,hx,XC,q⟩:=h;exact⟨_,aB (aX (di U hB O FB hr bB .nil lR (aq (pv 0) (a1 aC)))),O,x,C,f,O,hx,XC,fun dx n hd=>q dx n hd⟩
abbrev uQ:Stmt:=top 4
def Jd:aD ZO ZO (az (inClass uQ 0)):=cJ
def HW (F:Fun K "__init__" "NoFolk.__init__" (inClass uQ 0) f fd):aZ P w K mg base CX0 2 f fd ZO (fZ K "no folk"):=by
 refine okA F Jd fun H Q E hr h=>?_;obtain⟨x,C,f,rfl,hx,XC,q⟩:=h;exact⟨_,aB (aX (di U hB O FB hr bB .nil lR (aq (pv 0) (a1 aC)))),O,x,C,f,O,hx,XC,fun dx n hd=>q dx n hd⟩
abbrev Fz:Stmt:=top 5
def Hc:aD ZO ZO (az (inClass Fz 0)):=cJ
def Hg (F:Fun K "__init__" "Gone.__init__" (inClass Fz 0) f fd):aZ P w K mg base CX0 2 f fd ZO (fZ K "gone"):=by
 refine okA F Hc fun H Q E hr h=>?_;obtain⟨x,C,f,rfl,hx,XC,q⟩:=h;exact⟨_,aB (aX (di U hB O FB hr bB .nil lR (aq (pv 0) (a1 aC)))),O,x,C,f,O,hx,XC,fun dx n hd=>q dx n hd⟩
abbrev oM:Stmt:=top 6
def Gz:aD ZO ZO (az (inClass oM 0)):=cJ
def Gv (F:Fun K "__init__" "NoPledge.__init__" (inClass oM 0) f fd):aZ P w K mg base CX0 2 f fd ZO (fZ K "no pledge"):=by
 refine okA F Gz fun H Q E hr h=>?_;obtain⟨x,C,f,rfl,hx,XC,q⟩:=h;exact⟨_,aB (aX (di U hB O FB hr bB .nil lR (aq (pv 0) (a1 aC)))),O,x,C,f,O,hx,XC,fun dx n hd=>q dx n hd⟩
abbrev Af:Stmt:=top 7
def Jc:aD ZO ZO (az (inClass Af 0)):=cJ
def HF (F:Fun K "__init__" "Bound.__init__" (inClass Af 0) f fd):aZ P w K mg base CX0 2 f fd ZO (fZ K "bound"):=by
 refine okA F Jc fun H Q E hr h=>?_;obtain⟨x,C,f,rfl,hx,XC,q⟩:=h;exact⟨_,aB (aX (di U hB O FB hr bB .nil lR (aq (pv 0) (a1 aC)))),O,x,C,f,O,hx,XC,fun dx n hd=>q dx n hd⟩
abbrev G7:Stmt:=top 10
def Jh:aD ZO ZO (az (inClass G7 0)):=cJ
def Fw (F:Fun K "__init__" "Full.__init__" (inClass G7 0) f fd):aZ P w K mg base CX0 2 f fd ZO (fZ K "full"):=by
 refine okA F Jh fun H Q E hr h=>?_;obtain⟨x,C,f,rfl,hx,XC,q⟩:=h;exact⟨_,aB (aX (di U hB O FB hr bB .nil lR (aq (pv 0) (a1 aC)))),O,x,C,f,O,hx,XC,fun dx n hd=>q dx n hd⟩
abbrev su:Stmt:=top 9
def GC:aD ZO ZO (az (inClass su 0)):=cJ
def Fg (F:Fun K "__init__" "BadRise.__init__" (inClass su 0) f fd):aZ P w K mg base CX0 2 f fd ZO (fZ K "bad rise"):=by
 refine okA F GC fun H Q E hr h=>?_;obtain⟨x,C,f,rfl,hx,XC,q⟩:=h;exact⟨_,aB (aX (di U hB O FB hr bB .nil lR (aq (pv 0) (a1 aC)))),O,x,C,f,O,hx,XC,fun dx n hd=>q dx n hd⟩
abbrev vV:Stmt:=top 8
def Ip:aD ZO ZO (az (inClass vV 0)):=cJ
def Gb (F:Fun K "__init__" "NotDue.__init__" (inClass vV 0) f fd):aZ P w K mg base CX0 2 f fd ZO (fZ K "not due"):=by
 refine okA F Ip fun H Q E hr h=>?_;obtain⟨x,C,f,rfl,hx,XC,q⟩:=h;exact⟨_,aB (aX (di U hB O FB hr bB .nil lR (aq (pv 0) (a1 aC)))),O,x,C,f,O,hx,XC,fun dx n hd=>q dx n hd⟩
abbrev ji:Stmt:=top 11
def Fi:aD ZO ZO (az (inClass ji 0)):=cJ
def IW (F:Fun K "__init__" "NothingLeft.__init__" (inClass ji 0) f fd):aZ P w K mg base CX0 2 f fd ZO (fZ K "nothing left"):=by
 refine okA F Fi fun H Q E hr h=>?_;obtain⟨x,C,f,rfl,hx,XC,q⟩:=h;exact⟨_,aB (aX (di U hB O FB hr bB .nil lR (aq (pv 0) (a1 aC)))),O,x,C,f,O,hx,XC,fun dx n hd=>q dx n hd⟩
end
abbrev fM:Stmt:=top 83
def qO:aD YI ["_law_asked"] (az fM):=cJ
def twWord (K:VG)(G:Addr):Addr->(Hp->VK->XK->Prop)->VK->Hp->Prop:=fun _ sp Q H=>sp H (fun v H2=>[V.str "told",v].length<=sizeLine/\∀ a,H2 a=none->Q (.ref a) (upd H2 a (.tup [.str "told",v]))) (XW K G "word" Q)
def O4 {fW G:Addr} {k:Nat} (TZ:mg "BoonError" = some (.ref G)) (f:Addr) (cdv:Value) (A:V1) (outer:DB) (s:U8) (H:Hp) (Q:VK) (j:Nat) (sp:Hp->VK->XK->Prop) (_:k=j+1)
  (hr:d9 k (A.deeper (abn "_law_word" (az fM) s.heap.objs.size fW cdv))) (L:QB (XL P w) P w K mg base k s H (frs outer) f sp) (h:twWord K G f sp Q H) :
  ∃ t,PSs (wG CX0 P w K mg base YI "_law_word" (az fM) fW cdv A outer s H E0) (bG fM) t/\t { nx:=fun _ H'=>Q .non H',rt:=Q } (start YI [.ref f]) H:=by
 exact⟨_,aB (Qx 1 ⟨U,U⟩ U TZ qO.nd U U fun pn E W hx=>aB (FT (aP (aq aC (a1 (QH L U hr hx (pv 0))))))),_,U,U,h⟩
mutual
def mnF:Tm->DD
 | .free=>[]
 | .never=>[]
 | .gives i _=>[i]
 | .sum c _=>c
 | .crowd c _ _=>c
 | .all ts=>mnL ts
 | .any ts=>mnL ts
def mnL:List Tm->DD
 | []=>[]
 | t::r=>mnF t++mnL r
end
theorem oZ:∀ (ts us:List Tm),mnL (ts++us)=mnL ts++mnL us
 | [],us=>by rw[mnL];rfl
 | t::r,us=>by rw[aaJ,mnL,mnL,oZ r us,ZM]
def j4 {ts:List Tm}{i:Nat}{t:Tm}(h:ts[i]? = some t):mnL (ts.take (i+1))=mnL (ts.take i)++mnF t:=by
 rw[VD,h,oZ];show _++mnL [t]=_;rw[mnL,mnL,WR]
def BP:∀ {c:DD} {n:Nat},c.Pairwise (· < ·)->(∀ i∈c,i < n)->c.length<=n:=by
 have key:∀ (c:DD) (a n:Nat),c.Pairwise (· < ·)->(∀ i∈c,a<=i/\i < n)->c.length<=n - a:=by
  intro c
  induction c with
  | nil=>intro a n _ _;exact V3 _
  | cons x r ih =>
   intro a n hp hb;rw[Xx] at hp;have hx:=hb x Vm;have:=ih (x+1) n hp.2 fun i hi=>⟨hp.1 i hi,(hb i (Vp _ hi)).2⟩;rw[Vv];lia
 intro c n hp hb;have:=key c 0 n hp fun i hi=>⟨V3 _,hb i hi⟩;lia
mutual
theorem Lq {n:Nat}{H:Hp}(hn:n<=12):∀ (d:Nat) {v:V} {t:Tm},ir n H v t->t.dep<=d+1->(mnF t).length<=12 * 6 ^ d
 | d,_,_,.free _,_=>by rw[mnF];exact V3 _
 | d,_,_,.never _,_=>by rw[mnF];exact V3 _
 | d,_,_,.gives _ _ _ _,_=>by
  rw[mnF];have:0 < 6 ^ d:=Nat.pow_pos (by decide);show 1<=_;lia
 | d,_,_,.sum _ _ hc hp _ _ _ _,_=>by
  rw[mnF];have:=BP hp hc;have:0 < 6 ^ d:=Nat.pow_pos (by decide);lia
 | d,_,_,.crowd _ _ hc hp _ _ _ _ _ _,_=>by
  rw[mnF];have:=BP hp hc;have:0 < 6 ^ d:=Nat.pow_pos (by decide);lia
 | 0,_,_,.all (vs:=vs) (ts:=ts) _ _ l2 _ rl,hd=>by
  have:=uJ rl l2;rw[Tm.dep] at hd;lia
 | d+1,_,_,.all (ts:=ts) _ _ _ l6 rl,hd=>by
  rw[mnF];rw[Tm.dep] at hd;have h1:=zR hn d rl (by lia);have h2:=rl.length;have h3:ts.length * (12 * 6 ^ d)<=6 * (12 * 6 ^ d):=Nat.mul_le_mul_right _ (by lia);rw[Nat.pow_succ];lia
 | 0,_,_,.any (vs:=vs) (ts:=ts) _ _ l2 _ rl,hd=>by
  have:=uJ rl l2;rw[Tm.dep] at hd;lia
 | d+1,_,_,.any (ts:=ts) _ _ _ l6 rl,hd=>by
  rw[mnF];rw[Tm.dep] at hd;have h1:=zR hn d rl (by lia);have h2:=rl.length;have h3:ts.length * (12 * 6 ^ d)<=6 * (12 * 6 ^ d):=Nat.mul_le_mul_right _ (by lia);rw[Nat.pow_succ];lia
theorem zR {n:Nat}{H:Hp}(hn:n<=12):∀ (d:Nat) {vs:E6} {ts:List Tm},bW n H vs ts->tdL ts<=d+1->(mnL ts).length<=ts.length * (12 * 6 ^ d)
 | d,_,_,.nil,_=>by rw[mnL];exact V3 _
 | d,_,_,.cons (ts:=ts) h r,hd=>by
  rw[tdL] at hd;have h1:=Lq hn d h (by lia);have h2:=zR hn d r (by lia);rw[mnL,Vf,Vv,Nat.add_mul,Nat.one_mul];lia
theorem uJ {n:Nat}{H:Hp}:∀ {vs:E6} {ts:List Tm},bW n H vs ts->2<=vs.length->1<=tdL ts
 | _,_,.nil,h=>by simp at h
 | _,_,.cons (t:=t) _ _,_=>by
  rw[tdL];have:=t.nM;lia
end
mutual
theorem PX {n:Nat}{H:Hp}:∀ {v:V} {t:Tm},ir n H v t->∀ i∈mnF t,i < n
 | _,_,.free _=>fun i hi=>by rw[mnF] at hi;cases hi
 | _,_,.never _=>fun i hi=>by rw[mnF] at hi;cases hi
 | _,_,.gives _ h _ _=>fun i hi=>by rw[mnF] at hi;rw[List.mem_singleton.mp hi];exact h
 | _,_,.sum _ _ hc _ _ _ _ _=>fun i hi=>by rw[mnF] at hi;exact hc i hi
 | _,_,.crowd _ _ hc _ _ _ _ _ _ _=>fun i hi=>by rw[mnF] at hi;exact hc i hi
 | _,_,.all _ _ _ _ rl=>fun i hi=>by rw[mnF] at hi;exact Iu rl i hi
 | _,_,.any _ _ _ _ rl=>fun i hi=>by rw[mnF] at hi;exact Iu rl i hi
theorem Iu {n:Nat}{H:Hp}:∀ {vs:E6} {ts:List Tm},bW n H vs ts->∀ i∈mnL ts,i < n
 | _,_,.nil=>fun i hi=>by rw[mnL] at hi;cases hi
 | _,_,.cons h r=>fun i hi=>by
  rw[mnL] at hi;rcases List.mem_append.mp hi with z | z;{exact PX h i z};{exact Iu r i z}
end
def Uh {d:Nat}(h:d<=4):12 * 6 ^ (d - 1)<=2592:=by
 have:6 ^ (d - 1)<=6 ^ 3:=Nat.pow_le_pow_right (by decide) (by lia);have:(6:Nat) ^ 3=216:=by decide
 lia
def qH {n d:Nat}{H:Hp}{v:V}{t:Tm}(hn:n<=12)(h4:d<=4)(r:ir n H v t)(hd:t.dep<=d):(mnF t).length<=2592:=by
 have:=t.nM;exact VH (Lq hn (d - 1) r (by lia)) (Uh h4)
def Gm {ts:List Tm}(i:Nat):(mnL (ts.take i)).length<=(mnL ts).length:=by
 have:=congrArg Z5 (oZ (ts.take i) (ts.drop i));rw[List.take_append_drop,Vf] at this;lia
inductive jG (d:Nat)(vs:E6)(H:Hp)(Q:VK)(e3:XK):Prop where
 | mk (v:V) (n:Nat) (t:Tm) (_:vs=[v]) (_:ir n H v t) (_:t.dep<=d) (_:d<=4) (_:n<=12) (_:∀ (r:Addr) (H':Hp),aH H H'->H r=none->H' r=some (.lst ((mnF t).map vN))->Q (.ref r) H')
def yD {ps:DF}:aZ P w K mg base CX0 0 f fd ps (jG 0):=by
 have no:∀ vs H Q E,¬ jG 0 vs H Q E:=fun vs H Q E h=>by
  obtain⟨v,n,t,_,_,h1,_⟩:=h;have:=t.nM;lia
 exact⟨fun vs H Q E h=>absurd h (no vs H Q E),fun A outer s H args us vs Q E _ _ _ _ h=>absurd h (no vs H Q E)⟩
abbrev o9:Stmt:=top 28
def qX:aD ["term","kind"] ZT (az o9):=cJ
def jd {d:Nat} (F:Fun K "mentions" "mentions" o9 f fd) (B:Bt mg)
  (Se:Df P w K mg base "mentions" d ZT (jG d)):aZ P w K mg base CX0 (d+1) f fd ZT (jG (d+1)):=by
 refine okA F qX fun H Q E hr h=>?_;obtain⟨v,n,t,rfl,rt,hd,h4,hn,q⟩:=h
 refine⟨_,(aj (sT 1 qX.nd (pxT K (pv 0) ao))
 (aj (ifR (aA aQ (pv 1) aC) (bc (a1 (pxT K (pv 0) ao))))
 (aj (ifR (PW.pt (jw (aA aQ (pv 1) aC) (fH (aA aQ (pv 1) aC)))) (aW (r:=mq K) fL U B.list_ jF (a1 (pxT K (pv 0) ao))))
 (aj (ifR (PW.pt (jw (aA aQ (pv 1) aC) (fH (aA aQ (pv 1) aC)))) (JX (L:=["part","one"]) (F:=[]) (cap:=[]) U (bj U U (by kernel_rfl)) (cU (pxT K (pv 0) ao)) (fun _ _ _ _ _=>(pgC 0)) (fun _ _ _ _ _=>(K8 K U (aO Se hr (v1 0)))) (fun _ _ _ _ _=>(pgC 1)) (fun _ _ _ _ _=>(pv 1))))
 (sR (bc cQ)))))),?_⟩
 have small':=qH hn h4 rt hd;have parts:∀ {b:Addr} {us:E6} {ts:List Tm},H b=some (.tup us)->bW n H us ts->tdL ts<=d->(mnL ts).length<=2592->∀ {σ':St} {D:Addr},H D=none->(∀ H2,aH H H2->H2 D=some (.lst ((mnL ts).map vN))->Q (.ref D) H2) →
   qJ D [none,none] (Itt K b) (pQ 0) (Ng K (Gd (jG d) [] E0 (o4 (vW 0) wM))) (pQ 1) (vW 1) H (fun H2=>Q (.ref D) H2):=by
  intro b us ts hb rl hdl lm σ' D hD hq;have el:=rl.length;refine Fb (K:=K) (a:=b) (xs:=us) (fun i zs σ' H2=>(∃ u v,σ'=[u,v])/\aH H H2/\H2 D=some (.lst zs)/\zs=(mnL (ts.take i)).map vN) ⟨⟨_,O⟩,au hD _,aa,by rw[V6,mnL];rfl⟩ (fun i zs σ' H2 _ h=>sqT (h.2.1 _ _ hb)) ?_ ?_
  ·rintro i zs x σ' H2 hx ⟨⟨u,v,rfl⟩,sm,eD,ez⟩;obtain⟨t',ht,rt'⟩:=rl.get hx;refine⟨O,x,n,t',U,rt'.mono sm,VH (ig ht) hdl,by lia,hn,fun r H3 s3 fr er=>?_⟩;have hrD:r≠D:=fun z=>by rw[z,eD] at fr;cases fr
   refine⟨r,U,⟨_,sqL er⟩,Kr (K:=K) (b:=r) (ws:=(mnF t').map vN) (fun j ws σ' H4=>(∃ u,σ'=[some x,u])/\aH H H4/\H4 r=some (.lst ((mnF t').map vN))/\H4 D=some (.lst ws)/\ws=(mnL (ts.take i)++(mnF t').take j).map vN)
    ⟨⟨O⟩,sm.trans s3,er,s3 _ _ eD,by rw[V6,WR];exact ez⟩ (fun j ws σ' H4 _ h=>sqL h.2.2.1) ?_ ?_⟩
   ·rintro j ws y σ' H4 hy ⟨⟨u,rfl⟩,s4,er4,eD4,ew⟩;obtain⟨m,hm,rfl⟩:=vH hy;have hlen:ws.length<=2592:=by
     have h1:=Gm (ts:=ts) (i+1);rw[j4 ht,Vf] at h1;rw[ew,U7,Vf,Vs];lia
    refine⟨O,eD4,Zz hlen (by decide),⟨O⟩,aM s4 hD _,?_,aa,?_⟩;{rw[aF hrD];exact er4};{rw[ew,VD,hm,← ZM];show _=List.map vN ((mnL (ts.take i)++(mnF t').take j)++[m]);rw[Vd (l₁:=mnL (ts.take i)++(mnF t').take j)];rfl}
   ·rintro ws σ' H4 ⟨⟨u,rfl⟩,s4,er4,eD4,ew⟩;rw[U7,Vk,← j4 ht] at ew;exact⟨⟨_,O⟩,s4,eD4,ew⟩
  ·rintro zs σ' H2 ⟨_,sm,eD,ez⟩;rw[el,Vk] at ez;exact hq H2 sm (by rw[eD,ez])
 cases rt with
 | @free a ha =>
  exact⟨O,a,Y,sqT ha,gt0,N,aY bf ⟨N,aY bf ⟨N,aY bf ⟨N,aY bf ⟨N,aY bf ⟨smN 0,fun r h0=>q r _ (au h0 _) h0 (by rw[aa,mnF];rfl)⟩⟩⟩⟩⟩⟩
 | @never a ha =>
  exact⟨O,a,Y,sqT ha,gt0,N,aY bf ⟨N,aY bf ⟨N,aY bf ⟨N,aY bf ⟨N,aY bf ⟨smN 0,fun r h0=>q r _ (au h0 _) h0 (by rw[aa,mnF];rfl)⟩⟩⟩⟩⟩⟩
 | @gives a i k ha hi k1 k9 =>
  exact⟨O,a,Y,sqT ha,gt0,N,eX U ⟨O,a,Y,sqT ha,gt1,smN 1,fun r h0=>q r _ (au h0 _) h0 (by rw[aa,mnF];rfl)⟩⟩
 | @sum a b c k ha hb hc hp l20 l2 k1 k99 =>
  exact⟨O,a,Y,sqT ha,gt0,N,aY bf ⟨N,eX U (cL ⟨O,a,Y,sqT ha,gt1,b,O,.inr (sqT hb),fun r h0=>q r _ (au h0 _) h0 (by rw[aa,mnF])⟩)⟩⟩
 | @crowd a b c k mm ha hb hc hp l20 l1 k1 k9 m1 m12 =>
  exact⟨O,a,Y,sqT ha,gt0,N,aY bf ⟨N,aY bf ⟨N,eX U ⟨O,a,Y,sqT ha,gt1,b,O,.inr (sqT hb),fun r h0=>q r _ (au h0 _) h0 (by rw[aa,mnF])⟩⟩⟩⟩
 | @all a b us ts ha hb l2 l6 rl =>
  have hdl:tdL ts<=d:=by rw[Tm.dep] at hd;lia
  rw[mnF] at small';exact⟨O,a,Y,sqT ha,gt0,N,aY bf ⟨N,aY bf ⟨N,aY bf ⟨N,eX U (cL ⟨O,a,Y,sqT ha,gt1,b,U,⟨_,sqT hb⟩,fun D hD=>parts (σ':=[]) hb rl hdl small' hD fun H2 sm eD=>q D H2 sm hD (by rw[eD,mnF])⟩)⟩⟩⟩⟩
 | @any a b us ts ha hb l2 l6 rl =>
  have hdl:tdL ts<=d:=by rw[Tm.dep] at hd;lia
  rw[mnF] at small';exact⟨O,a,Y,sqT ha,gt0,N,aY bf ⟨N,aY bf ⟨N,aY bf ⟨N,aY bf ⟨N,eX U ⟨O,a,Y,sqT ha,gt1,b,U,⟨_,sqT hb⟩,fun D hD=>parts (σ':=[]) hb rl hdl small' hD fun H2 sm eD=>q D H2 sm hD (by rw[eD,mnF])⟩⟩⟩⟩⟩⟩
def nmI (c:DD)(ms:DC):Prop:=ms.Perm (ddI (c.map fun i:Nat=>(i:Int)))/\ms.Pairwise (·<=·)
theorem Jf:∀ (ns acc:DC) (x:Int),x∈ns.foldl WD acc->x∈acc∨x∈ns
 | [],acc,x,h=>.inl h
 | n::r,acc,x,h=>by
  rw[XM] at h;rcases Jf r _ x h with z | z
  ·unfold WD at z;split at z;{exact .inl z}
   ·rcases List.mem_append.mp z with y | y;{exact .inl y};{rw[List.mem_singleton.mp y];exact .inr Vm}
  ·exact .inr (Vp _ z)
theorem yx:∀ (n:Nat) (l:DC),l.Nodup->(∀ x∈l,0<=x/\x < (n:Int))->l.length<=n
 | 0,l,_,h=>by
  cases l with
  | nil=>exact V3 _
  | cons x r =>
   have:=h x Vm;lia
 | n+1,l,nd,h=>by
  have h1:=yx n (l.erase (n:Int)) (nd.erase _) fun x hx=>by
   have hx':=List.mem_of_mem_erase hx;have b:=h x hx';have ne:x≠(n:Int):=fun z=>by
    rw[z] at hx;exact (List.Nodup.mem_erase_iff nd).mp hx |>.1 rfl
   lia
  have h2:l.length<=(l.erase (n:Int)).length+1:=by
   rw[List.length_erase];split <;> lia
  lia
def Q5 {c:DD}{n:Nat}(h:∀ i∈c,i < n):(ddI (c.map fun i:Nat=>(i:Int))).length<=n:=by
 rw[Bh];refine yx n _ (vU _ [] List.nodup_nil) fun x hx=>?_;rcases Jf _ [] x hx with z | z;{cases z};{obtain⟨i,hi,rfl⟩:=List.mem_map.mp z;have:=h i hi;lia}
abbrev zr:Stmt:=top 29
def JN:aD ZT ZT (az zr):=cJ
inductive Iv (vs:E6)(H:Hp)(Q:VK)(e3:XK):Prop where
 | mk (v:V) (n:Nat) (t:Tm) (_:vs=[v]) (_:ir n H v t) (_:t.dep<=4) (_:n<=12) (_:∀ (r:Addr) (ms:DC) (H':Hp),aH H H'->H r=none->nmI (mnF t) ms->H' r=some (.lst (ms.map V.int))->Q (.ref r) H')
def Jx {k:Nat} (F:Fun K "named" "named" zr f fd) (B:Bt mg)
  (Se:Df P w K mg base "mentions" k ZT (jG 4)):aZ P w K mg base CX0 (k+1) f fd ZT Iv:=by
 refine okA F JN fun H Q E hr h=>?_;obtain⟨v,n,t,rfl,rt,hd,hn,q⟩:=h;refine⟨_,(sR (pJ U U B.sorted_ U B.set_ (a1 (aO Se hr (v1 0))))),O,v,n,t,U,rt,hd,by decide,hn,fun r H1 s1 fr er=>?_⟩;have lm:=qH hn (Vb 4) rt hd;have ld:=Q5 (PX rt);refine⟨r,(mnF t).map fun i:Nat=>(i:Int),U,sqL (by rw[er,iy]),by rw[U7];lia,by lia,fun ms pm so l hl=>?_⟩;exact q l ms _ (s1.trans (au hl _)) (s1.free hl) ⟨pm,so⟩ aa
abbrev mD:Stmt:=top 15
abbrev oV:Stmt:=top 21
abbrev lH:Stmt:=top 22
abbrev eZ:Stmt:=top 23
abbrev sI:Stmt:=top 24
def xx:aD X9 X9 (az mD):=cJ
def iY:aD ["many","thing","fewest","lowest_left","one"] XO (az oV):=cJ
def xR:aD X0 X0 (az lH):=cJ
def iU:aD ["many","thing","deep","kind"] X0 (az eZ):=cJ
def Dw:aD Zs Zs (az sI):=cJ
def isNum:V->Int->Int->Bool
 | .int i,lo,hi=>decide (lo<=i) && decide (i<=hi)
 | _,_,_=>false
inductive NV:V->Prop where
 | int (i:Int):NV (.int i)
 | str (x:VB):NV (.str x)
inductive jt (vs:E6)(H:Hp)(Q:VK)(e3:XK):Prop where
 | mk (x:V) (lo hi:Int) (_:vs=[x,.int lo,.int hi]) (_:NV x) (_:Q (.bl (isNum x lo hi)) H)
def v7 (F:Fun K "is_number" "is_number" mD f fd) (B:Bt mg) :
  aZ P w K mg base CX0 1 f fd X9 jt:=by
 refine okA F xx fun H Q E hr h=>?_;obtain⟨x,lo,hi,rfl,pl,q⟩:=h;refine⟨_,(sR (dX (aN (r:=vY K) cF U B.isinstance_ aU (aq (pv 0) (a1 (jD B.int_ qP)))) (dX (Q0 (aN (r:=vY K) cF U B.isinstance_ aU (aq (pv 0) (a1 (jD B.bool_ zN))))) (dX (cT Nv (pv 1) (pv 0)) (iK (cT Nv (pv 0) (pv 2))))))),?_⟩;cases pl with
 | int i =>
  refine⟨O,_,_,_,O,.int i,eN _ _,O,cL ⟨O,_,_,_,O,.int i,lE _,G,cL ⟨G,M,O,?_⟩⟩⟩;have e:isNum (.int i) lo hi=(decide (lo<=i) && decide (i<=hi)):=rfl;rw[e] at q;cases c:decide (lo<=i) with
  | true =>
   rw[c] at q;exact cL ⟨G,M,q⟩
  | false =>
   rw[c] at q;exact bK q
 | str y=>exact⟨O,_,_,_,O,.str y,El _,O,bK q⟩
def jW {k lo hi:Int}(h1:lo<=k)(h2:k<=hi):isNum (.int k) lo hi=true:=by
 show (decide (lo<=k) && decide (k<=hi))=true;rw[dcT h1,dcT h2];rfl
def Bc {i m:Nat}{lo:Int}(h:lo<=(i:Int)):isNum (.int (i:Int)) lo ((m:Int) - 1)=decide (i < m):=by
 show (decide (lo<=(i:Int)) && decide ((i:Int)<=(m:Int) - 1))=decide (i < m);rw[dcT h,YB];exact decide_eq_decide.mpr ⟨fun z=>by lia,fun z=>by lia⟩
def ltF (m:Nat)(c:DD):Bool:=c.all fun i=>decide (i < m)
def GZ (m:Nat)(a b:DD):ltF m (a++b)=(ltF m a && ltF m b):=List.all_append
def Fj {m:Nat}{c:DD}:ltF m c=true ↔ ∀ i∈c,i < m:=by
 unfold ltF;rw[List.all_eq_true];exact⟨fun h i hi=>of_decide_eq_true (h i hi),fun h i hi=>dcT (h i hi)⟩
def Qi {m i:Nat}{c:DD}(h:i∈c)(hm:¬ i < m):ltF m c=false:=by
 cases e:ltF m c with
 | false=>rfl
 | true=>exact absurd (Fj.mp e i h) hm
inductive Ls (vs:E6)(H:Hp)(Q:VK)(e3:XK):Prop where
 | mk (b:Addr) (c:DD) (m:Nat) (few:Int) (_:vs=[.int (m:Int),.ref b,.int few]) (_:H b=some (.tup (c.map vN))) (_:c.Pairwise (· < ·)) (_:few<=(c.length:Int)) (_:Q (.bl (ltF m c)) H)
def Ah (F:Fun K "is_crowd" "is_crowd" oV f fd) (B:Bt mg)
  (PD:Df P w K mg base "is_number" 1 X9 jt):aZ P w K mg base CX0 2 f fd XO Ls:=by
 refine okA F iY fun H Q E hr h=>?_;obtain⟨b,c,m,few,rfl,hb,hp,hf,q⟩:=h
 refine⟨_,(aj (ifR (PW.pt (jw (dC (cj (aN (r:=vY K) cF U B.isinstance_ aU (aq (pv 1) (a1 (jD B.tuple_ bH)))))) (fH (aA pZ (pln K B.len_ (pv 1)) (pv 2))))) fG)
 (aj (sT 3 iY.nd ao)
 (aj (cP V4 U (cU (pv 1)) (pgN 4 iY.nd) (aj (ifR (dC (cj (aO PD hr (aq (pv 4) (aq (pv 3) (a1 (aK eO (pv 0) ao))))))) fG)
 (aB (sT 3 iY.nd (aK bD (pv 4) ao)))))
 (sR fG)))),?_⟩
 refine⟨O,_,_,_,O,.tup hb,eN _ _,O,bK ⟨O,b,O,.inr (sqT hb),O,M,O,?_⟩⟩;refine aY (by rw[U7];lia) ?_;refine⟨O,b,U,⟨_,sqT hb⟩,dR (K:=K) (a:=b) (xs:=c.map vN) (fun i σ H2=>H2=H/\∃ (lo:Int) (u:EW),σ=[some (.int (m:Int)),oR b,oI few,oI lo,u]/\(∀ x∈c.drop i,lo<=((x:Nat):Int))/\ltF m (c.take i)=true) ⟨U,0,O,fun x _=>by lia,by rw[V6];rfl⟩ (fun i σ H2 _ h2=>by rw[h2.1];exact sqT hb) ?_ ?_⟩
 ·rintro i x σ H2 hx ⟨rfl,lo,u,rfl,hlo,hlt⟩;obtain⟨y,hy,rfl⟩:=vH hx;have hi:i < c.length:=(geS hy).1;have ey:c[i]=y:=(geS hy).2;have ed:c.drop i=y::c.drop (i+1):=by rw[Zk hi,ey]
  have hl:=hlo y (by rw[ed];exact Vm);refine⟨G,O,M,vN y,lo,(m:Int) - 1,U,.int _,O,?_⟩;rw[show vN y=V.int (y:Int) from U,Bc hl];by_cases hm:y < m
  ·rw[dcT hm];refine bK ⟨O,M,U,(y:Int)+1,O,fun x hx=>?_,?_⟩;{have h1:=hp.drop (i:=i);rw[ed,Xx] at h1;have:=h1.1 x hx;lia};{rw[VD,hy,GZ,hlt,YB];show (decide (y < m) && true)=true;rw[dcT hm];rfl}
  ·rw[dcF hm];refine cL ?_;rw[Qi (Vy hy) hm] at q;exact q
 ·rintro σ H2 ⟨rfl,lo,u,rfl,hlo,hlt⟩;rw[U7,Vk] at hlt;rw[hlt] at q;exact q
def ne0 {n:Nat}(h:n≠0):¬ V.int (n:Int)=V.int 0:=fun z=>h (by injection z with z;lia)
inductive j7 (k:Nat)(vs:E6)(H:Hp)(Q:VK)(e3:XK):Prop where
 | mk (v:V) (m dp:Nat) (_:vs=[.int (m:Int),v,.int (dp:Int)]) (_:1<=dp) (_:dp<=k) (_:((∃ (n:Nat) (t:Tm),ir n H v t/\t.dep<=dp/\∀ H',aH H H'->Q (.bl (ltF m (mnF t))) H')∨(∃ e:Addr,v = .ref e/\H e=some (.tup [])/\Q (.bl false) H)))
inductive Fq (k:Nat)(vs:E6)(H:Hp)(Q:VK)(e3:XK):Prop where
 | mk (b:Addr) (us:E6) (ts:List Tm) (n m dp:Nat) (_:vs=[.int (m:Int),.ref b,.int (dp:Int)]) (_:dp<=k) (_:H b=some (.tup us)) (_:2<=us.length) (_:us.length<=6) (_:bW n H us ts) (_:tdL ts<=dp) (_:1<=dp) (_:∀ H',aH H H'->Q (.bl (ltF m (mnL ts))) H')
theorem G6 (m:Nat):∀ ts:List Tm,(ts.map fun t=>ltF m (mnF t)).all (fun b=>b)=ltF m (mnL ts)
 | []=>by rw[mnL];rfl
 | t::r=>by
  have ih:=G6 m r;rw[mnL,GZ,← ih];rfl
def gJ {n k:Nat} {t1 t2:Tok} (F:Fun K "are_parts" "are_parts" lH f fd) (B:Bt mg) (S3:mg "FEWEST_PARTS" = some (.int 2 t1)) (Tb:mg "MOST_PARTS" = some (.int 6 t2))
  (hk:1<=k) (PD:Df P w K mg base "is_number" 1 X9 jt) (PP:Df P w K mg base "is_term_within" k X0 (j7 n)):aZ P w K mg base CX0 (k+1) f fd X0 (Fq n):=by
 refine okA F xR fun H Q E hr h=>?_;obtain⟨b,us,ts,n0,m,dp,rfl,hdp,hb,l2,l6,rl,hd,d1,q⟩:=h
 refine⟨_,(aj (ifR (PW.pt (jw (dC (cj (aN (r:=vY K) cF U B.isinstance_ aU (aq (pv 1) (a1 (jD B.tuple_ bH)))))) (fH (dC (cj (aO PD hr (aq (pln K B.len_ (pv 1)) (aq (ql S3) (a1 (ql Tb)))))))))) fG)
 (sR (aN (r:=Jy K) (rJ U) U B.all_ Je (a1 (bU (L:=["part"]) (F:=["many","deep"]) (cap:=[0,2]) U (bj U U (by kernel_rfl)) (cU (pv 1)) (fun _ _ _ _ _=>(pgC 0)) (fun _ _ _ _ _=>cI) (fun _ _ _ _ _=>(aO PP hr (aq (pv 1) (v2 0 2))))))))),?_⟩
 have el:=rl.length;refine⟨O,_,_,_,O,.tup hb,eN _ _,O,bK ⟨O,b,O,.inr (sqT hb),.int (us.length:Int),2,6,U,.int _,O,?_⟩⟩;rw[jW (by lia) (by lia)]
 refine bK ⟨O,b,U,⟨_,sqT hb⟩,fun D hD=>cR (K:=K) (a:=b) (xs:=us) (fun i zs σ' H2=>(∃ u,σ'=[u,some (.int (m:Int)),some (.int (dp:Int))])/\zs=((ts.take i).map fun t=>ltF m (mnF t)).map V.bl/\aH H H2/\H2 D=some (.lst zs))
  ⟨⟨O⟩,U,au hD _,aa⟩ (fun i zs σ' H2 _ h2=>⟨gW h2.2.2.1 (sqT hb),h2.2.2.2⟩) ?_ ?_⟩
 ·rintro i zs x σ' H2 hx ⟨⟨u,rfl⟩,e1,sm,hDl⟩;have hi:i < us.length:=(geS hx).1;obtain⟨t,ht,rt⟩:=rl.get hx;refine gT ?_;refine⟨G,O,x,m,dp,U,d1,hdp,.inl ⟨n0,t,rt.mono sm,VH (ig ht) hd,fun H3 s3=>⟨s3 _ _ hDl,?_,⟨O⟩,?_,aM (sm.trans s3) hD _,aa⟩⟩⟩;{rw[e1,U7,U7,Vs];exact aJ (by lia)};{rw[e1,VD,ht,Vd,Vd];rfl}
 ·rintro zs σ' H2 ⟨_,e1,sm,hDl⟩;rw[el,Vk] at e1;refine⟨D,ts.map fun t=>ltF m (mnF t),U,sqL (by rw[hDl,e1]),?_⟩;rw[G6];exact q H2 sm
def zb:aZ P w K mg base CX0 1 f fd X0 (j7 0):=by
 have no:∀ vs H Q E,¬ j7 0 vs H Q E:=fun vs H Q E h=>by
  obtain⟨v,m,dp,_,h1,h2,_⟩:=h;lia
 exact⟨fun vs H Q E h=>absurd h (no vs H Q E),fun A outer s H args us vs Q E _ _ _ _ h=>absurd h (no vs H Q E)⟩
def dw {n k:Nat} {t1 t2 t3:Tok} (F:Fun K "is_term_within" "is_term_within" eZ f fd) (B:Bt mg)
  (To:mg "MOST_STEP" = some (.int 9 t1)) (Ts:mg "MOST_SUM" = some (.int 99 t2)) (Ta:mg "MOST_FOLK" = some (.int 12 t3)) (hk:2<=k) (PD:Df P w K mg base "is_number" 1 X9 jt) (Pt:Df P w K mg base "is_crowd" 2 XO Ls)
  (Pd:Df P w K mg base "are_parts" k X0 (Fq n)):aZ P w K mg base CX0 (k+1) f fd X0 (j7 (n+1)):=by
 refine okA F iU fun H Q E hr h=>?_;obtain⟨v,m,dp,rfl,d1,dk,h⟩:=h
 refine⟨_,(aj (ifR (PW.pt (jw (aA pZ (pv 2) ao) (jw (dC (cj (aN (r:=vY K) cF U B.isinstance_ aU (aq (pv 1) (a1 (jD B.tuple_ bH)))))) (fH (aA aQ (pln K B.len_ (pv 1)) ao))))) fG)
 (aj (sT 3 iU.nd (pxT K (pv 1) ao))
 (aj (ifR (PW.pt (jw (aA aQ (pv 3) aC) (fH (aA aQ (pv 3) aC)))) (cT aQ (pln K B.len_ (pv 1)) ao))
 (aj (ifR (aA aQ (pv 3) aC) (dX (cT aQ (pln K B.len_ (pv 1)) ao) (dX (aO PD hr (aq (pxT K (pv 1) ao) (aq ao (a1 (aK eO (pv 0) ao))))) (iK (aO PD hr (aq (pxT K (pv 1) ao) (aq ao (a1 (ql To)))))))))
 (aj (ifR (aA aQ (pv 3) aC) (dX (cT aQ (pln K B.len_ (pv 1)) ao) (dX (aO Pt hr (aq (pv 0) (aq (pxT K (pv 1) ao) (a1 ao)))) (iK (aO PD hr (aq (pxT K (pv 1) ao) (aq ao (a1 (ql Ts)))))))))
 (aj (bR (aA aQ (pv 3) aC) (aj (ifR (PW.pt (jw (aA vm (pln K B.len_ (pv 1)) ao) (fH (dC (cj (aO Pt hr (aq (pv 0) (aq (pxT K (pv 1) ao) (a1 ao))))))))) fG)
 (sR (dX (aO PD hr (aq (pxT K (pv 1) ao) (aq ao (a1 (ql To))))) (iK (aO PD hr (aq (pxT K (pv 1) ao) (aq ao (a1 (ql Ta))))))))) aR)
 (aj (ifR (PW.pt (jw (aA aQ (pv 3) aC) (fH (aA aQ (pv 3) aC)))) (dX (cT aQ (pln K B.len_ (pv 1)) ao) (iK (aO Pd hr (aq (pv 0) (aq (pxT K (pv 1) ao) (a1 (aK eO (pv 2) ao))))))))
 (sR fG)))))))),?_⟩
 refine⟨O,M,O,aY (by lia) ?_⟩;rcases h with⟨n0,t,rt,hd,q⟩ | ⟨e,rfl,he,q⟩
 ·have q0:=q H (aH.refl H);cases rt with
  | @free a ha =>
   refine⟨O,_,_,_,O,.tup ha,eN _ _,O,bK ⟨O,a,O,.inr (sqT ha),U,O,aY (ne0 (Yo _)) ⟨O,a,Y,sqT ha,gt0,⟨N,eX U (cL ?_)⟩⟩⟩⟩;rw[mnF] at q0;exact⟨O,a,O,.inr (sqT ha),U,q0⟩
  | @never a ha =>
   refine⟨O,_,_,_,O,.tup ha,eN _ _,O,bK ⟨O,a,O,.inr (sqT ha),U,O,aY (ne0 (Yo _)) ⟨O,a,Y,sqT ha,gt0,⟨N,aY bf ⟨N,eX U ?_⟩⟩⟩⟩⟩;rw[mnF] at q0;exact⟨O,a,O,.inr (sqT ha),U,q0⟩
  | @gives a i kk ha hi k1 k9 =>
   refine⟨O,_,_,_,O,.tup ha,eN _ _,O,bK ⟨O,a,O,.inr (sqT ha),U,O,aY (ne0 (Yo _)) ⟨O,a,Y,sqT ha,gt0,⟨N,aY bf ⟨N,aY bf ⟨N,eX U ⟨O,a,O,.inr (sqT ha),U,O,eX U ⟨O,a,Y,sqT ha,gt1,O,M,vN i,0,(m:Int) - 1,U,.int _,O,?_⟩⟩⟩⟩⟩⟩⟩⟩;rw[show vN i=V.int (i:Int) from U,Bc (by lia)];rw[mnF] at q0;have e:ltF m [i]=decide (i < m):=by
    show (decide (i < m) && true)=_;rw[Bool.and_true]
   rw[e] at q0;refine jx (fun c=>?_) (fun c=>?_);{rw[c] at q0;refine⟨O,a,Y,sqT ha,gt2,.int kk,1,9,U,.int _,?_⟩;rw[jW k1 k9];exact q0};{rw[Bool.eq_false_iff.mpr c] at q0;exact q0}
  | @sum a b c kk ha hb hc hp l20 l2 k1 k99 =>
   refine⟨O,_,_,_,O,.tup ha,eN _ _,O,bK ⟨O,a,O,.inr (sqT ha),U,O,aY (ne0 (Yo _)) ⟨O,a,Y,sqT ha,gt0,⟨N,aY bf ⟨N,aY bf ⟨N,aY bf ⟨N,eX U ⟨O,a,O,.inr (sqT ha),U,O,eX U ⟨G,a,Y,sqT ha,gt1,b,c,m,2,U,hb,hp,by lia,_,U,?_⟩⟩⟩⟩⟩⟩⟩⟩⟩;rw[mnF] at q0;refine jx (fun c=>?_) (fun c=>?_);{rw[c] at q0;refine⟨O,a,Y,sqT ha,gt2,.int kk,1,99,U,.int _,?_⟩;rw[jW k1 k99];exact q0};{rw[Bool.eq_false_iff.mpr c] at q0;exact q0}
  | @crowd a b c kk mm ha hb hc hp l20 l1 k1 k9 m1 m12 =>
   refine⟨O,_,_,_,O,.tup ha,eN _ _,O,bK ⟨O,a,O,.inr (sqT ha),U,O,aY (ne0 (Yo _)) ⟨O,a,Y,sqT ha,gt0,⟨N,aY bf ⟨N,aY bf ⟨N,aY bf ⟨N,aY bf ⟨N,eX U ⟨O,a,O,.inr (sqT ha),U,O,j8 U ⟨G,a,Y,sqT ha,gt1,b,c,m,1,U,hb,hp,by lia,_,U,?_⟩⟩⟩⟩⟩⟩⟩⟩⟩⟩;rw[mnF] at q0;cases z:ltF m c with
   | false =>
    rw[z] at q0;exact cL q0
   | true =>
    rw[z] at q0;refine bK ⟨O,a,Y,sqT ha,gt2,.int kk,1,9,U,.int _,O,?_⟩;rw[jW k1 k9];refine cL ⟨O,a,Y,sqT ha,dM (k:=3) U,.int mm,1,12,U,.int _,?_⟩;rw[jW m1 m12];exact q0
  | @all a b us ts ha hb l2 l6 rl =>
   have hdl:tdL ts+1<=dp:=by rw[Tm.dep] at hd;exact hd
   have t1:=uJ rl l2;refine⟨O,_,_,_,O,.tup ha,eN _ _,O,bK ⟨O,a,O,.inr (sqT ha),U,O,aY (ne0 (Yo _)) ⟨O,a,Y,sqT ha,gt0,⟨N,aY bf ⟨N,aY bf ⟨N,aY bf ⟨N,aY bf ⟨N,aY bf ⟨N,eX U (cL ⟨O,a,O,.inr (sqT ha),U,O,eX U ⟨G,a,Y,sqT ha,gt1,O,M,b,us,ts,n0,m,dp - 1,?_,by lia,hb,l2,l6,rl,by lia,by lia,fun H' s'=>?_⟩⟩)⟩⟩⟩⟩⟩⟩⟩⟩⟩;{rw[show ((dp - 1:Nat):Int)=(dp:Int) - 1 by lia];rfl};{have q1:=q H' s';rw[mnF] at q1;exact q1}
  | @any a b us ts ha hb l2 l6 rl =>
   have hdl:tdL ts+1<=dp:=by rw[Tm.dep] at hd;exact hd
   have t1:=uJ rl l2;refine⟨O,_,_,_,O,.tup ha,eN _ _,O,bK ⟨O,a,O,.inr (sqT ha),U,O,aY (ne0 (Yo _)) ⟨O,a,Y,sqT ha,gt0,⟨N,aY bf ⟨N,aY bf ⟨N,aY bf ⟨N,aY bf ⟨N,aY bf ⟨N,aY bf ⟨N,eX U ⟨O,a,O,.inr (sqT ha),U,O,eX U ⟨G,a,Y,sqT ha,gt1,O,M,b,us,ts,n0,m,dp - 1,?_,by lia,hb,l2,l6,rl,by lia,by lia,fun H' s'=>?_⟩⟩⟩⟩⟩⟩⟩⟩⟩⟩⟩⟩;{rw[show ((dp - 1:Nat):Int)=(dp:Int) - 1 by lia];rfl};{have q1:=q H' s';rw[mnF] at q1;exact q1}
 ·refine⟨O,_,_,_,O,.tup he,eN _ _,O,bK ⟨O,e,O,.inr (sqT he),U,O,eX U q⟩⟩
inductive Bg (vs:E6)(H:Hp)(Q:VK)(e3:XK):Prop where
 | mk (v:V) (m:Nat) (_:vs=[.int (m:Int),v]) (_:((∃ (n:Nat) (t:Tm),ir n H v t/\t.dep<=4/\∀ H',aH H H'->Q (.bl (ltF m (mnF t))) H')∨(∃ e:Addr,v = .ref e/\H e=some (.tup [])/\Q (.bl false) H)))
def DQ {k:Nat} {t1:Tok} (F:Fun K "is_term" "is_term" sI f fd) (B:Bt mg) (S4:mg "MOST_DEPTH" = some (.int 4 t1))
  (PP:Df P w K mg base "is_term_within" k X0 (j7 4)):aZ P w K mg base CX0 (k+1) f fd Zs Bg:=by
 refine okA F Dw fun H Q E hr h=>?_;obtain⟨v,m,rfl,h⟩:=h;exact⟨_,(sR (aO PP hr (aq (pv 0) (aq (pv 1) (a1 (ql S4)))))),G,v,m,4,U,by decide,by decide,h⟩
inductive Rg where
 | rung (k:Int) (t:Tm) | bad
inductive my (n:Nat)(H:Hp):V->Rg->Prop where
 | rung {r:Addr} {k:Int} {v:V} {t:Tm}:H r=some (.tup [.int k,v])->ir n H v t->t.dep<=4->my n H (.ref r) (.rung k t)
 | odd {r:Addr} {xs:E6}:H r=some (.tup xs)->xs.length≠2->my n H (.ref r) .bad
 | text {r:Addr} {x:VB} {v:V}:H r=some (.tup [.str x,v])->my n H (.ref r) .bad
 | hollow {r e:Addr} {k:Int}:H r=some (.tup [.int k,.ref e])->H e=some (.tup [])->my n H (.ref r) .bad
theorem my.aL {n:Nat}{H H':Hp}{v:V}{g:Rg}(e:∀ a xs,H a=some (HO.tup xs)->H' a=some (HO.tup xs)):my n H v g->my n H' v g
 | .rung h t d=>.rung (e _ _ h) (t.aL e) d
 | .odd h l=>.odd (e _ _ h) l
 | .text h=>.text (e _ _ h)
 | .hollow h h2=>.hollow (e _ _ h) (e _ _ h2)
def my.mono {n:Nat}{H H':Hp}{v:V}{g:Rg}(e:aH H H')(h:my n H v g):my n H' v g:=h.aL fun a xs q=>e a _ q
inductive lZ (n:Nat)(H:Hp):E6->List Rg->Prop where
 | nil:lZ n H [] []
 | cons {v:V} {g:Rg} {vs:E6} {gs:List Rg}:my n H v g->lZ n H vs gs->lZ n H (v::vs) (g::gs)
theorem lZ.aL {n:Nat}{H H':Hp}(e:∀ a xs,H a=some (HO.tup xs)->H' a=some (HO.tup xs)):∀ {vs:E6} {gs:List Rg},lZ n H vs gs->lZ n H' vs gs
 | _,_,.nil=>.nil
 | _,_,.cons h r=>.cons (h.aL e) (lZ.aL e r)
theorem lZ.length {n:Nat}{H:Hp}:∀ {vs:E6} {gs:List Rg},lZ n H vs gs->vs.length=gs.length
 | _,_,.nil=>rfl
 | _,_,.cons _ r=>by rw[Vv,Vv,lZ.length r]
theorem lZ.get {n:Nat}{H:Hp}:∀ {vs:E6} {gs:List Rg} {i:Nat} {v:V},lZ n H vs gs->vs[i]? = some v->∃ g,gs[i]? = some g/\my n H v g
 | _,_,_,_,.nil,h=>by simp at h
 | _,_,0,_,.cons h _,e=>by
  cases (show some _=some _ from e);exact⟨O,h⟩
 | _,_,i+1,_,.cons _ r,e=>by
  obtain⟨g,e1,e2⟩:=lZ.get (i:=i) r (by simpa using e);exact⟨g,by simpa using e1,e2⟩
def rgF (m who:Nat)(lo:Int):Rg->Bool
 | .rung k t=>(decide (lo<=k) && decide (k<=9)) && (ltF m (mnF t) && !decide (who∈mnF t))
 | .bad=>false
def rgK:Rg->Int
 | .rung k _=>k
 | .bad=>0
def plF (m who:Nat):Int->List Rg->Bool
 | _,[]=>true
 | lo,g::r=>rgF m who lo g && plF m who (rgK g+1) r
def Pn (m who:Nat)(gs:List Rg):Bool:=(decide (1<=gs.length) && decide (gs.length<=9)) && plF m who 1 gs
theorem Ck (x:Int):∀ ns:DC,inV (.int x) (ns.map V.int)=decide (x∈ns)
 | []=>by rw[dcF (by simp)];rfl
 | n::r=>by
  have ih:=Ck x r;show (eqV (.int n) (.int x) || inV (.int x) (r.map V.int))=_;rw[ih];have e:eqV (.int n) (.int x)=(n == x):=rfl;rw[e,aab];simp only[acj,decide_eq_true_eq,Xg,beq_iff_eq];exact⟨fun h=>h.elim (fun z=>.inl z.symm) .inr,fun h=>h.elim (fun z=>.inl z.symm) .inr⟩
def PB {c:DD}{ms:DC}(h:nmI c ms)(x:Nat):(x:Int)∈ms ↔ x∈c:=by
 obtain⟨p,_⟩:=h;rw[p.mem_iff,Bh,Hu];constructor
 ·rintro (h | h);{cases h}
  ·obtain⟨y,hy,e⟩:=List.mem_map.mp h;have:x=y:=by lia
   rw[this];exact hy
 ·exact fun h=>.inr (List.mem_map.mpr ⟨x,h,U⟩)
def Ko (ns:DC):(ns.map V.int).all tV=true:=by
 rw[abO];exact List.all_eq_true.mpr fun _ _=>U
abbrev qM:Stmt:=top 32
abbrev lY:Stmt:=top 33
def nO:aD ["many","one","thing","lowest_step","step","term"] WF (az qM):=cJ
def gF:aD ["many","one","thing","lowest_step","rung"] Ya (az lY):=cJ
inductive BW (vs:E6)(H:Hp)(Q:VK)(e3:XK):Prop where
 | mk (v:V) (g:Rg) (n m who:Nat) (lo:Int) (_:vs=[.int (m:Int),.int (who:Int),v,.int lo]) (_:my n H v g) (_:n<=12) (_:∀ H',aH H H'->Q (.bl (rgF m who lo g)) H')
def ne2 {n:Nat}(h:n≠2):(!decide (V.int (n:Int)=V.int 2))=true:=by
 rw[dcF fun z=>h (by injection z with z;lia)];rfl
def Ei {k:Nat} {t1:Tok} (F:Fun K "is_rung" "is_rung" qM f fd) (B:Bt mg) (To:mg "MOST_STEP" = some (.int 9 t1)) (hk:5<=k)
  (PD:Df P w K mg base "is_number" 1 X9 jt) (PM:Df P w K mg base "is_term" k Zs Bg) (Sf:Df P w K mg base "named" 5 ZT Iv):aZ P w K mg base CX0 (k+1) f fd WF BW:=by
 refine okA F nO fun H Q E hr h=>?_;obtain⟨v,g,n,m,who,lo,rfl,rg,hn,q⟩:=h
 refine⟨_,(aj (ifR (PW.pt (jw (dC (cj (aN (r:=vY K) cF U B.isinstance_ aU (aq (pv 2) (a1 (jD B.tuple_ bH)))))) (fH (aA vm (pln K B.len_ (pv 2)) ao)))) fG)
 (aj (yp (pv 2) (d7 (K:=K) 2 U U (aV (pgN 4 nO.nd) (aV (pgN 5 nO.nd) dY))))
 (sR (dX (aO PD hr (aq (pv 4) (aq (pv 3) (a1 (ql To))))) (dX (aO PM hr (v2 0 5)) (iK (Ia (r:=rIn K true) pL (pv 1) (aO Sf hr (v1 5)) U))))))),?_⟩
 have q0:=q H (aH.refl H);cases rg with
 | @rung r kk u t hr0 rt hd =>
  refine⟨O,_,_,_,O,.tup hr0,eN _ _,O,bK ⟨O,r,O,.inr (sqT hr0),U,O,j8 U ⟨O,r,O,sqT hr0,U,_,O,M,⟨G,.int kk,lo,9,U,.int _,O,?_⟩⟩⟩⟩;have er:rgF m who lo (.rung kk t)=(isNum (.int kk) lo 9 && (ltF m (mnF t) && !decide (who∈mnF t))):=rfl;rw[er] at q q0;refine jx (fun c=>?_) (fun c=>?_)
  ·rw[c,YB] at q;refine⟨G,u,m,U,.inl ⟨n,t,rt,hd,fun H1 s1=>⟨O,?_⟩⟩⟩;refine jx (fun c2=>?_) (fun c2=>?_);{rw[c2,YB] at q;refine⟨G,u,n,t,U,rt.mono s1,hd,hn,fun r1 ms H2 s2 f2 nm e2=>⟨r1,O,.inl (sqL e2),U,Ko ms,?_⟩⟩;have q':=q H2 (s1.trans s2);rw[show (decide (who∈mnF t))=inV (.int (who:Int)) (ms.map V.int) by rw[Ck];exact decide_eq_decide.mpr (PB nm who).symm] at q';exact q'};{have q':=q H1 s1;rw[Bool.eq_false_iff.mpr c2,Zd] at q';exact q'}
  ·rw[Bool.eq_false_iff.mpr c,Zd] at q0;exact q0
 | @odd r xs hr0 hl =>
  exact⟨O,_,_,_,O,.tup hr0,eN _ _,O,bK ⟨O,r,O,.inr (sqT hr0),U,O,JD (ne2 hl) q0⟩⟩
 | @text r x u hr0 =>
  exact⟨O,_,_,_,O,.tup hr0,eN _ _,O,bK ⟨O,r,O,.inr (sqT hr0),U,O,j8 U ⟨O,r,O,sqT hr0,U,_,O,M,⟨G,.str x,lo,9,U,.str _,O,bK q0⟩⟩⟩⟩
 | @hollow r e kk hr0 he =>
  refine⟨O,_,_,_,O,.tup hr0,eN _ _,O,bK ⟨O,r,O,.inr (sqT hr0),U,O,j8 U ⟨O,r,O,sqT hr0,U,_,O,M,⟨G,.int kk,lo,9,U,.int _,O,?_⟩⟩⟩⟩;refine jx (fun c=>?_) (fun c=>?_);{exact⟨G,.ref e,m,U,.inr ⟨e,U,he,O,bK q0⟩⟩};{exact q0}
inductive uA (vs:E6)(H:Hp)(Q:VK)(e3:XK):Prop where
 | mk (a:Addr) (us:E6) (gs:List Rg) (n m who:Nat) (_:vs=[.int (m:Int),.int (who:Int),.ref a]) (_:H a=some (.tup us)) (_:lZ n H us gs) (_:n<=12) (_:us.length<=20) (_:1<=m) (_:∀ H',aH H H'->Q (.bl (Pn m who gs)) H')
def my.good {n:Nat}{H:Hp}{v:V}{g:Rg}{m who:Nat}{lo:Int}(h:my n H v g)(e:rgF m who lo g=true):∃ r kk u t,v = .ref r/\H r=some (.tup [.int kk,u])/\ir n H u t/\t.dep<=4/\g = .rung kk t:=by
 cases h with
 | rung h1 h2 h3=>exact⟨_,_,_,O,h1,h2,h3,U⟩
 | odd=>cases e
 | text=>cases e
 | hollow=>cases e
def yC {k:Nat} {t1:Tok} (F:Fun K "is_pledge" "is_pledge" lY f fd) (B:Bt mg) (Tl:mg "MOST_RUNGS" = some (.int 9 t1)) (hk:1<=k)
  (PD:Df P w K mg base "is_number" 1 X9 jt) (PH:Df P w K mg base "is_rung" k WF BW):aZ P w K mg base CX0 (k+1) f fd Ya uA:=by
 refine okA F gF fun H Q E hr h=>?_;obtain⟨a,us,gs,n,m,who,rfl,ha,rg,hn,l20,hm,q⟩:=h
 refine⟨_,(aj (ifR (PW.pt (jw (dC (cj (aN (r:=vY K) cF U B.isinstance_ aU (aq (pv 2) (a1 (jD B.tuple_ bH)))))) (fH (dC (cj (aO PD hr (aq (pln K B.len_ (pv 2)) (aq ao (a1 (ql Tl)))))))))) fG)
 (aj (sT 3 gF.nd ao)
 (aj (cP V4 U (cU (pv 2)) (pgN 4 gF.nd) (aj (ifR (dC (cj (aO PH hr (aq (pv 0) (aq (pv 1) (v2 4 3)))))) fG)
 (aB (sT 3 gF.nd (aK bD (pxT K (pv 4) ao) ao)))))
 (sR fG)))),?_⟩
 have el:=rg.length;have q0:=q H (aH.refl H);refine⟨O,_,_,_,O,.tup ha,eN _ _,O,bK ⟨O,a,O,.inr (sqT ha),.int (us.length:Int),1,9,U,.int _,O,?_⟩⟩;have en:isNum (.int (us.length:Int)) 1 9=(decide (1<=gs.length) && decide (gs.length<=9)):=by
  show (decide ((1:Int)<=(us.length:Int)) && decide ((us.length:Int)<=9))=_;rw[el];congr 1;{exact decide_eq_decide.mpr ⟨fun z=>by lia,fun z=>by lia⟩};{exact decide_eq_decide.mpr ⟨fun z=>by lia,fun z=>by lia⟩}
 rw[en];unfold Pn at q q0;cases hc:(decide (1<=gs.length) && decide (gs.length<=9)) with
 | false =>
  rw[hc,Zd] at q0;exact cL q0
 | true =>
  rw[hc,YB] at q
  refine bK ⟨O,a,U,⟨_,sqT ha⟩,dR (K:=K) (a:=a) (xs:=us) (fun i σ H2=>aH H H2/\∃ (lo:Int) (u:EW),σ=[some (.int (m:Int)),some (.int (who:Int)),oR a,oI lo,u]/\plF m who lo (gs.drop i)=plF m who 1 gs)
   ⟨aH.refl H,1,O,by rw[List.drop_zero]⟩ (fun i σ H2 _ h=>sqT (h.1 _ _ ha)) ?_ ?_⟩
  ·rintro i x σ H2 hx ⟨sm,lo,u,rfl,er⟩;obtain⟨g,hg,rx⟩:=rg.get hx;have hi:i < gs.length:=(geS hg).1;have eg:gs[i]=g:=(geS hg).2;have ed:gs.drop i=g::gs.drop (i+1):=by rw[Zk hi,eg]
   rw[ed,plF] at er;refine⟨G,G,x,g,n,m,who,lo,U,rx.mono sm,hn,fun H3 s3=>⟨O,?_⟩⟩;cases e:rgF m who lo g with
   | false =>
    rw[e,Zd] at er;have q':=q H3 (sm.trans s3);rw[← er] at q';exact cL q'
   | true =>
    rw[e,YB] at er;obtain⟨r,kk,y,t,rfl,h1,_,_,rfl⟩:=rx.good e;refine bK ⟨O,r,Y,sqT (s3 _ _ (sm _ _ h1)),gt0,M,sm.trans s3,kk+1,O,er⟩
  ·rintro σ H2 ⟨sm,lo,u,rfl,er⟩;rw[el,ab4,plF] at er;have q':=q H2 sm;rw[← er] at q';exact q'
abbrev lO:Stmt:=top 61
def yh:aD WI WI (az lO):=cJ
theorem HX (g:DC):∀ ts:List Tm,(ts.map (hF g)).all (fun b=>b)=xM g ts
 | []=>by rw[xM];rfl
 | t::r=>by rw[xM,← HX g r];rfl
theorem Hr (g:DC):∀ ts:List Tm,(ts.map (hF g)).any (fun b=>b)=wk g ts
 | []=>by rw[wk];rfl
 | t::r=>by rw[wk,← Hr g r];rfl
theorem Bq (f:Nat->Bool):∀ c:DD,(c.map fun i=>if f i=true then (1:Int) else 0).sum=((c.filter f).length:Int)
 | []=>rfl
 | i::c=>by
  have ih:=Bq f c;rw[Wk,List.sum_cons,ih,ZZ];split;{rw[Vv];lia};{lia}
def Ak:aZ P w K mg base CX0 0 f fd WI (dZ K 0):=by
 have no:∀ vs H Q E,¬ dZ K 0 vs H Q E:=fun vs H Q E h=>by
  obtain⟨v,g,n,t,ns,_,_,h1,_⟩:=h;have:=t.nM;lia
 exact⟨fun vs H Q E h=>absurd h (no vs H Q E),fun A outer s H args us vs Q E _ _ _ _ h=>absurd h (no vs H Q E)⟩
def gK {d:Nat} (F:Fun K "_law_holds" "_law_holds" lO f fd) (B:Bt mg)
  (Qb:Df P w K mg base "_law_holds" d WI (dZ K d)):aZ P w K mg base CX0 (d+1) f fd WI (dZ K (d+1)):=by
 refine okA F yh fun H Q E hr h=>?_;obtain⟨v,g,n,t,ns,rfl,rt,hd,hg,hn,q⟩:=h
 refine⟨_,(aj (ifR (aA aQ (pxT K (pv 0) ao) aC) (cT mC (pxT K (pv 1) (pxT K (pv 0) ao)) (pxT K (pv 0) ao)))
 (aj (ifR (aA aQ (pxT K (pv 0) ao) aC) (cT mC (aN (r:=K1 K) (tu U) U B.sum_ G9 (a1 (bU (L:=ZN) (F:=ZA) (cap:=[1]) U (bj U U (by kernel_rfl)) (cU (pxT K (pv 0) ao)) (fun _ _ _ _ _=>(pgC 0)) (fun _ _ _ _ _=>cI) (fun _ _ _ _ _=>(pxT K (pv 1) (pv 0)))))) (pxT K (pv 0) ao)))
 (aj (ifR (aA aQ (pxT K (pv 0) ao) aC) (cT mC (aN (r:=K1 K) (tu U) U B.sum_ G9 (a1 (bU (L:=ZN) (F:=["_law_giving","_law_term_here"]) (cap:=[1,0]) U (bj U U (by kernel_rfl)) (cU (pxT K (pv 0) ao)) (fun _ _ _ _ _=>(pgC 0)) (fun _ _ _ _ _=>cI) (fun _ _ _ _ _=>(aW (r:=Kw) nq U B.int_ qP (a1 (cT mC (pxT K (pv 1) (pv 0)) (pxT K (pv 2) ao)))))))) (pxT K (pv 0) ao)))
 (aj (ifR (aA aQ (pxT K (pv 0) ao) aC) (aN (r:=Jy K) (rJ U) U B.all_ Je (a1 (bU (L:=["_law_part"]) (F:=ZA) (cap:=[1]) U (bj U U (by kernel_rfl)) (cU (pxT K (pv 0) ao)) (fun _ _ _ _ _=>(pgC 0)) (fun _ _ _ _ _=>cI) (fun _ _ _ _ _=>(aO Qb hr (v2 0 1)))))))
 (sR (Tp (cT aQ (pxT K (pv 0) ao) aC) (iK (dX (cT aQ (pxT K (pv 0) ao) aC) (iK (aN (r:=Qp K) (Hs U) U B.any_ Rb (a1 (bU (L:=["_law_part"]) (F:=ZA) (cap:=[1]) U (bj U U (by kernel_rfl)) (cU (pxT K (pv 0) ao)) (fun _ _ _ _ _=>(pgC 0)) (fun _ _ _ _ _=>cI) (fun _ _ _ _ _=>(aO Qb hr (v2 0 1))))))))))))))),?_⟩
 have parts:∀ (D:Addr),H D=none->∀ (b:Addr) (us:E6) (ts:List Tm) (Z:Hp->Prop) (te:TE),us.length<=6->H b=some (.tup us)->bW n H us ts->tdL ts<=d →
   (∀ (x:V) (t:Tm) (σ':St) (H2:Hp) (R:V->Hp->Prop),ir n H2 x t->aH H H2->t.dep<=d->σ'=[some x,oR g]->(∀ H3,aH H2 H3->R (.bl (hF ns t)) H3)->te σ' H2 R) →
   (∀ H2:Hp,aH H H2->H2 D=some (.lst ((ts.map (hF ns)).map V.bl))->Z H2)->lU D [none,some (.ref g)] (Itt K b) (pQ 0) Ox te H Z:=fun D hD b us ts Z te lu hb rl td hte hQ=>by
  have el:=rl.length;refine cR (K:=K) (a:=b) (xs:=us) (fun i zs σ' H2=>(∃ u,σ'=[u,oR g])/\zs=((ts.take i).map (hF ns)).map V.bl/\aH H H2/\H2 D=some (.lst zs))
   ⟨⟨O⟩,U,au hD _,aa⟩ (fun i zs σ' H2 _ h=>⟨gW h.2.2.1 (sqT hb),h.2.2.2⟩) ?_ ?_
  ·rintro j zs x σ' H2 hx ⟨⟨u,rfl⟩,e1,sm,hDl⟩;obtain⟨t,ht,rt⟩:=rl.get hx;have hj:j < us.length:=(geS hx).1;refine gT ?_;refine hte x t _ H2 _ (rt.mono sm) sm (VH (ig ht) td) U fun H3 s3=>⟨s3 _ _ hDl,?_,⟨O⟩,?_,aM (sm.trans s3) hD _,aa⟩;{rw[e1,U7,U7,Vs];exact aJ (by lia)};{rw[e1,VD,ht,Vd,Vd];rfl}
  ·rintro zs σ' H2 ⟨⟨u,rfl⟩,e1,sm,hDl⟩;rw[el,Vk] at e1;exact hQ H2 sm (by rw[hDl,e1])
 cases rt with
 | @free a ha =>
  refine⟨O,a,Y,sqT ha,J,aY bf ⟨O,a,Y,sqT ha,J,aY bf ⟨O,a,Y,sqT ha,J,aY bf ⟨O,a,Y,sqT ha,J,aY bf ⟨O,a,Y,sqT ha,J,eX U ?_⟩⟩⟩⟩⟩;have q':=q H (aH.refl H);rw[hF] at q';exact q'
 | @never a ha =>
  refine⟨O,a,Y,sqT ha,J,aY bf ⟨O,a,Y,sqT ha,J,aY bf ⟨O,a,Y,sqT ha,J,aY bf ⟨O,a,Y,sqT ha,J,aY bf ⟨O,a,Y,sqT ha,J,aY bf ⟨O,a,Y,sqT ha,J,aY bf ?_⟩⟩⟩⟩⟩⟩;have q':=q H (aH.refl H);rw[hF] at q';exact q'
 | @gives a i k ha hi _ _ =>
  refine⟨O,a,Y,sqT ha,J,eX U ⟨G,a,Y,sqT ha,gt1,g,Y,hg,atD (by lia),O,a,Y,sqT ha,gt2,M,?_⟩⟩;have q':=q H (aH.refl H);rw[hF] at q';exact q'
 | @sum a b c k ha hb hc _ hl _ _ _ =>
  refine⟨O,a,Y,sqT ha,J,aY bf ⟨O,a,Y,sqT ha,J,eX U ?_⟩⟩
  refine⟨O,a,Y,sqT ha,gt1,b,U,⟨_,sqT hb⟩,fun D hD=>cR (K:=K) (a:=b) (xs:=c.map vN) (fun i zs σ' H2=>(∃ u,σ'=[u,oR g])/\zs=((c.take i).map fun i=>ns.getD i 0).map V.int/\aH H H2/\H2 D=some (.lst zs))
   ⟨⟨O⟩,U,au hD _,aa⟩ (fun i zs σ' H2 _ h=>⟨gW h.2.2.1 (sqT hb),h.2.2.2⟩) ?_ ?_⟩
  ·rintro j zs x σ' H2 hx ⟨⟨u,rfl⟩,e1,sm,hDl⟩;obtain⟨i,hi,rfl⟩:=vH hx;have hin:i < n:=hc i (Vy hi);refine gT ?_;refine⟨G,g,Y,gW sm hg,atD (by lia),hDl,?_,⟨O⟩,?_,aM sm hD _,aa⟩;{rw[e1,U7,U7,Vs];exact aJ (by lia)};{rw[e1,VD,hi,Vd,Vd];rfl}
  ·rintro zs σ' H2 ⟨⟨u,rfl⟩,e1,sm,hDl⟩;rw[U7,Vk] at e1;refine⟨D,O,sqL (by rw[hDl,e1]),O,a,Y,sqT (sm _ _ ha),gt2,M,?_⟩;have q':=q H2 sm;rw[hF] at q';exact q'
 | @crowd a b c k m ha hb hc _ hl _ _ _ _ _ =>
  refine⟨O,a,Y,sqT ha,J,aY bf ⟨O,a,Y,sqT ha,J,aY bf ⟨O,a,Y,sqT ha,J,eX U ?_⟩⟩⟩
  refine⟨O,a,Y,sqT ha,gt1,b,U,⟨_,sqT hb⟩,fun D hD=>cR (K:=K) (a:=b) (xs:=c.map vN) (fun i zs σ' H2=>(∃ u,σ'=[u,oR g,oR a])/\zs=((c.take i).map fun i=>if decide (k<=ns.getD i 0)=true then (1:Int) else 0).map V.int/\aH H H2/\H2 D=some (.lst zs))
   ⟨⟨O⟩,U,au hD _,aa⟩ (fun i zs σ' H2 _ h=>⟨gW h.2.2.1 (sqT hb),h.2.2.2⟩) ?_ ?_⟩
  ·rintro j zs x σ' H2 hx ⟨⟨u,rfl⟩,e1,sm,hDl⟩;obtain⟨i,hi,rfl⟩:=vH hx;have hin:i < n:=hc i (Vy hi);refine gT ?_;refine⟨G,g,Y,gW sm hg,atD (by lia),O,a,Y,sqT (sm _ _ ha),gt2,M,.inr ⟨O,hDl,?_,⟨O⟩,?_,aM sm hD _,aa⟩⟩;{rw[e1,U7,U7,Vs];exact aJ (by lia)};{rw[e1,VD,hi,Vd,Vd];rfl}
  ·rintro zs σ' H2 ⟨⟨u,rfl⟩,e1,sm,hDl⟩;rw[U7,Vk] at e1;refine⟨D,O,sqL (by rw[hDl,e1]),O,a,Y,sqT (sm _ _ ha),dM (k:=3) U,M,?_⟩;have q':=q H2 sm;rw[hF] at q';rw[Bq];exact q'
 | @all a b us ts ha hb _ lu rl =>
  refine⟨O,a,Y,sqT ha,J,aY bf ⟨O,a,Y,sqT ha,J,aY bf ⟨O,a,Y,sqT ha,J,aY bf ⟨O,a,Y,sqT ha,J,eX U ⟨O,a,Y,sqT ha,gt1,b,U,⟨_,sqT hb⟩,fun D hD=>parts D hD b us ts _ _ lu hb rl (by rw[Tm.dep] at hd;lia) (fun x t σ' H2 R rt sm dt eσ hR=>?_) fun H2 sm hDl=>?_⟩⟩⟩⟩⟩;{subst eσ;exact⟨G,x,g,n,t,ns,U,rt,dt,gW sm hg,hn,hR⟩};{refine⟨D,O,sqL hDl,?_⟩;rw[HX];have q':=q H2 sm;rw[hF] at q';exact q'}
 | @any a b us ts ha hb _ lu rl =>
  refine⟨O,a,Y,sqT ha,J,aY bf ⟨O,a,Y,sqT ha,J,aY bf ⟨O,a,Y,sqT ha,J,aY bf ⟨O,a,Y,sqT ha,J,aY bf ⟨O,a,Y,sqT ha,J,aY bf ⟨O,a,Y,sqT ha,J,eX U ⟨O,a,Y,sqT ha,gt1,b,U,⟨_,sqT hb⟩,fun D hD=>parts D hD b us ts _ _ lu hb rl (by rw[Tm.dep] at hd;lia) (fun x t σ' H2 R rt sm dt eσ hR=>?_) fun H2 sm hDl=>?_⟩⟩⟩⟩⟩⟩⟩;{subst eσ;exact⟨G,x,g,n,t,ns,U,rt,dt,gW sm hg,hn,hR⟩};{refine⟨D,O,sqL hDl,?_⟩;rw[Hr];have q':=q H2 sm;rw[hF] at q';exact q'}
abbrev oJ:Stmt:=top 62
def fQ:aD ["_law_pledge_here","_law_giving","_law_found","_law_step","_law_term_here"] WH (az oJ):=cJ
def zH {k:Nat} (F:Fun K "_law_owes" "_law_owes" oJ f fd) (B:Bt mg)
  (Qb:Df P w K mg base "_law_holds" k WI (dZ K 4)):aZ P w K mg base CX0 (k+1) f fd WH (Cp K):=by
 refine okA F fQ fun H Q E hr h=>?_;obtain⟨a,g,n,p,ns,rfl,⟨ok,vs,ha,rp⟩,hg,hn,q⟩:=h
 refine⟨_,(aj (sT 2 fQ.nd ao)
 (aj (cP V4 U (cU (pv 0)) (d7 (K:=K) 2 U U (aV (pgN 3 fQ.nd) (aV (pgN 4 fQ.nd) dY))) (aB (bR (cj (aO Qb hr (v2 4 1))) (aB (sT 2 fQ.nd (pv 3))) aR)))
 (sR (pv 2)))),?_⟩
 have el:=rp.length
 refine⟨O,a,U,⟨_,sqT ha⟩,dR (K:=K) (a:=a) (xs:=vs) (fun i σ H2=>(∃ u v,σ=[oR a,oR g,some (.int (owF ns (p.take i))),u,v])/\aH H H2)
  ⟨⟨_,O⟩,aH.refl H⟩ (fun i σ H2 _ h=>sqT (h.2 _ _ ha)) ?_ ?_⟩
 ·rintro i x σ H2 hx ⟨⟨u,v,rfl⟩,sm⟩;obtain⟨r,k0,y,t,rfl,hr0,rt,hp⟩:=rp.get hx;have hm:=Vy hp;have ow:=BJ (g:=ns) hp;refine⟨r,O,sqT (sm _ _ hr0),U,_,O,M,G,y,g,n,t,ns,U,rt.mono sm,(ok.2.2.2 _ hm).2.2,gW sm hg,hn,fun H3 s3=>⟨O,?_⟩⟩;cases e:hF ns t with
  | true =>
   rw[iPo e] at ow;refine cL ⟨O,⟨some (.int k0),some y,?_⟩,sm.trans s3⟩;rw[ow];rfl
  | false =>
   rw[iNe (by rw[e];exact Ve)] at ow;refine bK ⟨⟨some (.int k0),some y,?_⟩,sm.trans s3⟩;rw[ow];rfl
 ·rintro σ H2 ⟨⟨u,v,rfl⟩,sm⟩;have q':=q H2 sm;refine⟨O,?_⟩;rw[el,Vk];exact q'
abbrev ph:Stmt:=top 63
def zK:aD Xs Xs (az ph):=cJ
inductive yz (K:VG)(vs:E6)(H:Hp)(Q:VK)(e3:XK):Prop where
 | mk (c g:Addr) (n:Nat) (as:Db) (ps:List Pl) (ns:DC) (_:vs=[.ref c,.ref g]) (_:H c=some (.lst (as.map V.ref))) (_:as.length<=100) (_:eV n H as ps) (_:SqT K H g (ns.map V.int)) (_:n<=ns.length) (_:∀ H',aH H H'->Q (.int (duF ns 0 ps)) H')
def zp {k:Nat} (F:Fun K "_law_owed" "_law_owed" ph f fd) (B:Bt mg)
  (QO:Df P w K mg base "_law_owes" k WH (Cp K)):aZ P w K mg base CX0 (k+1) f fd Xs (yz K):=by
 refine okA F zK fun H Q E hr h=>?_;obtain⟨c,g,n,as,ps,ns,rfl,hc,l100,rps,hg,hn,q⟩:=h;refine⟨_,(sR (aN (r:=K6 K) (sE U) U B.max_ sO (a1 (aK rF (bc (a1 ao)) (bU (L:=["_law_pledge_here"]) (F:=ZA) (cap:=[1]) U (bj U U (by kernel_rfl)) (dB (pv 0)) (fun _ _ _ _ _=>(pgC 0)) (fun _ _ _ _ _=>cI) (fun _ _ _ _ _=>(aO QO hr (v2 0 1)))))))),?_⟩;have ell:=rps.length;refine⟨smN 1,fun p4 h4=>?_⟩;generalize eH4:upd H p4 _=H4;obtain⟨g4,e4⟩:=aG eH4 h4
 refine⟨O,c,U,⟨_,sqL (g4 _ _ hc)⟩,fun D2 hD2=>iH (K:=K) (a:=c) (xs:=as.map V.ref) (fun j ws σ' H5=>(∃ u,σ'=[u,oR g])/\ws=((ps.take j).map (owF ns)).map V.int/\aH H4 H5/\H5 D2=some (.lst ws))
  ⟨⟨O⟩,U,au hD2 _,aa⟩ (fun j ws σ' H5 _ h=>⟨sqL (h.2.2.1 _ _ (g4 _ _ hc)),h.2.2.2⟩) ?_ ?_⟩
 ·rintro j ws x σ' H5 hx ⟨⟨u,rfl⟩,e5,s5,hD5⟩;obtain⟨a,ha,rfl⟩:=Mp hx;obtain⟨pl,hpl,rpl⟩:=rps.get ha;refine gT ?_;refine⟨G,a,g,n,pl,ns,U,rpl.mono (g4.trans s5),gW (g4.trans s5) hg,hn,fun H6 s6=>⟨s6 _ _ hD5,?_,⟨O⟩,?_,aM (s5.trans s6) hD2 _,aa⟩⟩;{rw[e5,U7,U7,Vs];exact aJ (by lia)};{rw[e5,take_snoc (owF ns) hpl,Vd];rfl}
 ·rintro ws σ' H5 ⟨_,e5,s5,hD5⟩;rw[U7,ell,Vk] at e5;subst e5;refine⟨p4,D2,M,s5 _ _ e4,hD5,small ?_,fun p6 h6=>?_⟩;{rw[U7,U7];show 1+ps.length<=1000;lia};generalize eH6:upd H5 p6 _=H6;obtain⟨g6,e6⟩:=aG eH6 h6;refine⟨p6,0::ps.map (owF ns),U,sqL e6,by simp,?_⟩;exact q H6 (g4.trans (s5.trans g6))
abbrev kZ:Stmt:=top 60
def eG:aD ["_law_term_here","_law_found","_law_parts","_law_one"] YN (az kZ):=cJ
def gC {d:Nat} (F:Fun K "_law_named" "_law_named" kZ f fd) (B:Bt mg)
  (QI:Df P w K mg base "_law_named" d YN (jG d)):aZ P w K mg base CX0 (d+1) f fd YN (jG (d+1)):=by
 refine okA F eG fun H Q E hr h=>?_;obtain⟨v,n,t,rfl,rt,hd,h4,hn,q⟩:=h
 refine⟨_,(aj (ifR (aA aQ (pxT K (pv 0) ao) aC) (bc (a1 (pxT K (pv 0) ao))))
 (aj (ifR (eQ (r:=rIn K false) dD (pxT K (pv 0) ao) (aP (aq aC (a1 aC))) U) (aW (r:=mq K) fL U B.list_ jF (a1 (pxT K (pv 0) ao))))
 (aj (sT 1 eG.nd (bc cQ))
 (aj (cP V4 U (cU (mW (r:=JQ K) Cy (pv 0) (oY ao) qW)) (pgN 2 eG.nd) (aB (cP V4 U (cU (pv 2)) (pgN 3 eG.nd) (aB (sT 1 eG.nd (aK rF (pv 1) (aO QI hr (v1 3))))))))
 (sR (pv 1)))))),?_⟩
 have small':=qH hn h4 rt hd;cases rt with
 | @free a ha =>
  refine⟨O,a,Y,sqT ha,J,aY bf ⟨O,a,Y,sqT ha,gt0,smN 2,fun p1 h1=>⟨p1,O,.inr (sqT aa),U,U,O,j8 (by decide+kernel) ?_⟩⟩⟩;generalize eH1:upd H p1 _=H1;obtain⟨g1,_⟩:=aG eH1 h1;refine⟨smN 0,fun r h0=>?_⟩;generalize eH2:upd H1 r _=H2;obtain⟨g2,e2⟩:=aG eH2 h0;refine⟨G,a,O,sqT (g2 _ _ (g1 _ _ ha)),(by show ¬ (HT.sIx 1 0 (some 1)=0/\HT.sIx 1 1 none=1);decide),fun p3 h3=>?_⟩;have ec:uP [V.str "free"] (some 1) none=[]:=rfl;rw[ec];generalize eH3:upd H2 p3 _=H3;obtain⟨g3,e3⟩:=aG eH3 h3;refine⟨p3,U,⟨_,sqT e3⟩,dR (K:=K) (a:=p3) (xs:=[]) (fun _ σ H4=>σ=[oR a,oR r,none,none]/\H3=H4) ⟨U,U⟩ (fun i σ H4 _ h=>by obtain⟨_,rfl⟩:=h;exact sqT e3) (fun i x σ H4 hx=>by simp at hx) ?_⟩;rintro σ H4 ⟨rfl,rfl⟩;exact⟨O,q r H3 (g1.trans (g2.trans g3)) (g1.free h0) (by rw[g3 _ _ e2,mnF];rfl)⟩
 | @never a ha =>
  refine⟨O,a,Y,sqT ha,J,aY bf ⟨O,a,Y,sqT ha,gt0,smN 2,fun p1 h1=>⟨p1,O,.inr (sqT aa),U,U,O,j8 (by decide+kernel) ?_⟩⟩⟩;generalize eH1:upd H p1 _=H1;obtain⟨g1,_⟩:=aG eH1 h1;refine⟨smN 0,fun r h0=>?_⟩;generalize eH2:upd H1 r _=H2;obtain⟨g2,e2⟩:=aG eH2 h0;refine⟨G,a,O,sqT (g2 _ _ (g1 _ _ ha)),(by show ¬ (HT.sIx 1 0 (some 1)=0/\HT.sIx 1 1 none=1);decide),fun p3 h3=>?_⟩;have ec:uP [V.str "never"] (some 1) none=[]:=rfl;rw[ec];generalize eH3:upd H2 p3 _=H3;obtain⟨g3,e3⟩:=aG eH3 h3;refine⟨p3,U,⟨_,sqT e3⟩,dR (K:=K) (a:=p3) (xs:=[]) (fun _ σ H4=>σ=[oR a,oR r,none,none]/\H3=H4) ⟨U,U⟩ (fun i σ H4 _ h=>by obtain⟨_,rfl⟩:=h;exact sqT e3) (fun i x σ H4 hx=>by simp at hx) ?_⟩;rintro σ H4 ⟨rfl,rfl⟩;exact⟨O,q r H3 (g1.trans (g2.trans g3)) (g1.free h0) (by rw[g3 _ _ e2,mnF];rfl)⟩
 | @gives a i k ha hi k1 k9 =>
  exact⟨O,a,Y,sqT ha,J,eX U ⟨O,a,Y,sqT ha,gt1,smN 1,fun r h0=>q r _ (au h0 _) h0 (by rw[aa,mnF];rfl)⟩⟩
 | @sum a b c k ha hb hc hp l20 l2 k1 k99 =>
  refine⟨O,a,Y,sqT ha,J,aY bf ⟨O,a,Y,sqT ha,gt0,smN 2,fun p1 h1=>⟨p1,O,.inr (sqT aa),U,U,O,JD (by decide+kernel) ?_⟩⟩⟩;generalize eH1:upd H p1 _=H1;obtain⟨g1,_⟩:=aG eH1 h1;exact⟨O,a,Y,sqT (g1 _ _ ha),gt1,b,O,.inr (sqT (g1 _ _ hb)),fun r h0=>q r _ (g1.trans (au h0 _)) (g1.free h0) (by rw[aa,mnF])⟩
 | @crowd a b c k mm ha hb hc hp l20 l1 k1 k9 m1 m12 =>
  refine⟨O,a,Y,sqT ha,J,aY bf ⟨O,a,Y,sqT ha,gt0,smN 2,fun p1 h1=>⟨p1,O,.inr (sqT aa),U,U,O,JD (by decide+kernel) ?_⟩⟩⟩;generalize eH1:upd H p1 _=H1;obtain⟨g1,_⟩:=aG eH1 h1;exact⟨O,a,Y,sqT (g1 _ _ ha),gt1,b,O,.inr (sqT (g1 _ _ hb)),fun r h0=>q r _ (g1.trans (au h0 _)) (g1.free h0) (by rw[aa,mnF])⟩
 | @all a b us ts ha hb l2 l6 rl =>
  have hdl:tdL ts<=d:=by rw[Tm.dep] at hd;lia
  rw[mnF] at small';have el:=rl.length;refine⟨O,a,Y,sqT ha,J,aY bf ⟨O,a,Y,sqT ha,gt0,smN 2,fun p1 h1=>⟨p1,O,.inr (sqT aa),U,U,O,j8 (by decide+kernel) ?_⟩⟩⟩;generalize eH1:upd H p1 _=H1;obtain⟨g1,_⟩:=aG eH1 h1;refine⟨smN 0,fun r h0=>?_⟩;generalize eH2:upd H1 r _=H2;obtain⟨g2,e2⟩:=aG eH2 h0;refine⟨G,a,O,sqT (g2 _ _ (g1 _ _ ha)),(by show ¬ (HT.sIx 2 0 (some 1)=0/\HT.sIx 2 2 none=2);decide),fun p3 h3=>?_⟩;have ec:uP [V.str "all",.ref b] (some 1) none=[.ref b]:=rfl;rw[ec];generalize eH3:upd H2 p3 _=H3;obtain⟨g3,e3⟩:=aG eH3 h3;have s3:aH H H3:=g1.trans (g2.trans g3);refine⟨p3,U,⟨_,sqT e3⟩,dR (K:=K) (a:=p3) (xs:=[.ref b]) (fun i σ H4=>∃ (l:Addr) (u v:EW),σ=[oR a,oR l,u,v]/\aH H3 H4/\H l=none/\H4 l=some (.lst ((if i=0 then [] else mnL ts).map vN))) ⟨r,_,O,aH.refl _,g1.free h0,g3 _ _ e2⟩ (fun i σ H4 _ h=>by obtain⟨_,_,_,_,z,_⟩:=h;exact sqT (z _ _ e3)) ?_ ?_⟩
  ·rintro i x σ H4 hx ⟨l,u,v,rfl,s4,fl,el4⟩;have hi0:i=0:=by
    have:=(geS hx).1;simpa using this
   subst hi0;cases hx;rw[iPo U] at el4;have s04:aH H H4:=s3.trans s4;refine⟨O,b,U,⟨_,sqT (s04 _ _ hb)⟩,dR (K:=K) (a:=b) (xs:=us) (fun j σ H5=>∃ (l:Addr) (u:EW),σ=[oR a,oR l,oR b,u]/\aH H4 H5/\H l=none/\H5 l=some (.lst ((mnL (ts.take j)).map vN))) ⟨l,O,aH.refl _,fl,by rw[V6,mnL];exact el4⟩ (fun j σ H5 _ h=>by obtain⟨_,_,_,z,_⟩:=h;exact sqT (z _ _ (s04 _ _ hb))) ?_ ?_⟩
   ·rintro j y σ H5 hy ⟨l',u',rfl,s5,fl',el5⟩;obtain⟨t',ht,rt'⟩:=rl.get hy;have s05:aH H H5:=s04.trans s5;refine⟨G,y,n,t',U,rt'.mono s05,VH (ig ht) hdl,by lia,hn,fun r' H6 s6 fr er=>?_⟩;have hlen:(mnL (ts.take j)).length+(mnF t').length<=2592:=by
     have h1:=Gm (ts:=ts) (j+1);rw[j4 ht,Vf] at h1;lia
    refine⟨l',r',M,s6 _ _ el5,er,by rw[U7,U7];exact VH hlen (by decide),fun p h=>?_⟩;have sn:=au h (.lst ((mnL (ts.take j)).map vN++(mnF t').map vN));exact⟨p,O,s5.trans (s6.trans sn),(s05.trans s6).free h,by rw[aa,j4 ht,Vd]⟩
   ·rintro σ H5 ⟨l',u',rfl,s5,fl',el5⟩;rw[el,Vk] at el5;exact⟨l',_,O,s4.trans s5,fl',by rw[iNe (by decide)];exact el5⟩
  ·rintro σ H4 ⟨l,u,v,rfl,s4,fl,el4⟩;exact⟨O,q l H4 (s3.trans s4) fl (by rw[el4,mnF];rfl)⟩
 | @any a b us ts ha hb l2 l6 rl =>
  have hdl:tdL ts<=d:=by rw[Tm.dep] at hd;lia
  rw[mnF] at small';have el:=rl.length;refine⟨O,a,Y,sqT ha,J,aY bf ⟨O,a,Y,sqT ha,gt0,smN 2,fun p1 h1=>⟨p1,O,.inr (sqT aa),U,U,O,j8 (by decide+kernel) ?_⟩⟩⟩;generalize eH1:upd H p1 _=H1;obtain⟨g1,_⟩:=aG eH1 h1;refine⟨smN 0,fun r h0=>?_⟩;generalize eH2:upd H1 r _=H2;obtain⟨g2,e2⟩:=aG eH2 h0;refine⟨G,a,O,sqT (g2 _ _ (g1 _ _ ha)),(by show ¬ (HT.sIx 2 0 (some 1)=0/\HT.sIx 2 2 none=2);decide),fun p3 h3=>?_⟩;have ec:uP [V.str "any",.ref b] (some 1) none=[.ref b]:=rfl;rw[ec];generalize eH3:upd H2 p3 _=H3;obtain⟨g3,e3⟩:=aG eH3 h3;have s3:aH H H3:=g1.trans (g2.trans g3);refine⟨p3,U,⟨_,sqT e3⟩,dR (K:=K) (a:=p3) (xs:=[.ref b]) (fun i σ H4=>∃ (l:Addr) (u v:EW),σ=[oR a,oR l,u,v]/\aH H3 H4/\H l=none/\H4 l=some (.lst ((if i=0 then [] else mnL ts).map vN))) ⟨r,_,O,aH.refl _,g1.free h0,g3 _ _ e2⟩ (fun i σ H4 _ h=>by obtain⟨_,_,_,_,z,_⟩:=h;exact sqT (z _ _ e3)) ?_ ?_⟩
  ·rintro i x σ H4 hx ⟨l,u,v,rfl,s4,fl,el4⟩;have hi0:i=0:=by
    have:=(geS hx).1;simpa using this
   subst hi0;cases hx;rw[iPo U] at el4;have s04:aH H H4:=s3.trans s4;refine⟨O,b,U,⟨_,sqT (s04 _ _ hb)⟩,dR (K:=K) (a:=b) (xs:=us) (fun j σ H5=>∃ (l:Addr) (u:EW),σ=[oR a,oR l,oR b,u]/\aH H4 H5/\H l=none/\H5 l=some (.lst ((mnL (ts.take j)).map vN))) ⟨l,O,aH.refl _,fl,by rw[V6,mnL];exact el4⟩ (fun j σ H5 _ h=>by obtain⟨_,_,_,z,_⟩:=h;exact sqT (z _ _ (s04 _ _ hb))) ?_ ?_⟩
   ·rintro j y σ H5 hy ⟨l',u',rfl,s5,fl',el5⟩;obtain⟨t',ht,rt'⟩:=rl.get hy;have s05:aH H H5:=s04.trans s5;refine⟨G,y,n,t',U,rt'.mono s05,VH (ig ht) hdl,by lia,hn,fun r' H6 s6 fr er=>?_⟩;have hlen:(mnL (ts.take j)).length+(mnF t').length<=2592:=by
     have h1:=Gm (ts:=ts) (j+1);rw[j4 ht,Vf] at h1;lia
    refine⟨l',r',M,s6 _ _ el5,er,by rw[U7,U7];exact VH hlen (by decide),fun p h=>?_⟩;have sn:=au h (.lst ((mnL (ts.take j)).map vN++(mnF t').map vN));exact⟨p,O,s5.trans (s6.trans sn),(s05.trans s6).free h,by rw[aa,j4 ht,Vd]⟩
   ·rintro σ H5 ⟨l',u',rfl,s5,fl',el5⟩;rw[el,Vk] at el5;exact⟨l',_,O,s4.trans s5,fl',by rw[iNe (by decide)];exact el5⟩
  ·rintro σ H4 ⟨l,u,v,rfl,s4,fl,el4⟩;exact⟨O,q l H4 (s3.trans s4) fl (by rw[el4,mnF];rfl)⟩
abbrev Ent:=Nat × Nat × Pl
inductive bZ (n:Nat)(H:Hp):E6->List Ent->Prop where
 | nil:bZ n H [] []
 | cons {e p:Addr} {num one:Nat} {pl:Pl} {us:E6} {es:List Ent}:H e=some (.tup [vN num,vN one,.ref p])->j9 n H p pl->bZ n H us es->bZ n H (.ref e::us) ((num,one,pl)::es)
theorem bZ.aL {n:Nat}{H H':Hp}(e:∀ a xs,H a=some (HO.tup xs)->H' a=some (HO.tup xs)):∀ {us:E6} {es:List Ent},bZ n H us es->bZ n H' us es
 | _,_,.nil=>.nil
 | _,_,.cons h p r=>.cons (e _ _ h) (p.aL e) (bZ.aL e r)
theorem bZ.length {n:Nat}{H:Hp}:∀ {us:E6} {es:List Ent},bZ n H us es->us.length=es.length
 | _,_,.nil=>rfl
 | _,_,.cons _ _ r=>by rw[Vv,Vv,bZ.length r]
theorem bZ.get {n:Nat}{H:Hp}:∀ {us:E6} {es:List Ent} {i:Nat} {u:V},bZ n H us es->us[i]? = some u->∃ (e p:Addr) (num one:Nat) (pl:Pl),u = .ref e/\es[i]? = some (num,one,pl)/\H e=some (.tup [vN num,vN one,.ref p])/\j9 n H p pl
 | _,_,_,_,.nil,h=>by simp at h
 | _,_,0,_,.cons h p _,e=>by
  cases (show some _=some _ from e);exact⟨_,_,Y,h,p⟩
 | _,_,i+1,_,.cons _ _ r,e=>by
  obtain⟨a,p,x,y,z,h1,h2,h3⟩:=bZ.get (i:=i) r (by simpa using e);exact⟨a,p,x,y,z,h1,by simpa using h2,h3⟩
theorem bZ.snoc {n:Nat}{H:Hp}{e p:Addr}{num one:Nat}{pl:Pl}(h:H e=some (.tup [vN num,vN one,.ref p]))(hp:j9 n H p pl):∀ {us:E6} {es:List Ent},bZ n H us es->bZ n H (us++[.ref e]) (es++[(num,one,pl)])
 | _,_,.nil=>.cons h hp .nil
 | _,_,.cons a b r=>.cons a b (bZ.snoc h hp r)
def Ks (CS:Addr)(H H':Hp):Prop:=(∀ a xs,H a=some (HO.tup xs)->H' a=some (HO.tup xs))/\∀ a dx fs,H a=some (HO.ins CS dx fs)->H' a=some (HO.ins CS dx fs)
def ksS {CS:Addr}{H H':Hp}(s:aH H H'):Ks CS H H':=⟨fun a xs h=>s a _ h,fun a dx fs h=>s a _ h⟩
def stF (ga goa sa:Addr)(co:Nat):EV:=[("green",.ref ga),("gone",.ref goa),("standing",.ref sa),("coming",vN co)]
def gf (CS:Addr)(n:Nat)(H:Hp)(a:Addr)(g:DC)(go:DD)(es:List Ent)(co:Nat):Prop :=
 ∃ (dx ga goa sa:Addr) (us:E6),H a=some (.ins CS dx (stF ga goa sa co))/\H ga=some (.tup (g.map V.int))/\H goa=some (.tup (go.map vN))/\H sa=some (.tup us)/\bZ n H us es
def gf.ks {CS:Addr}{n:Nat}{H H':Hp}{a:Addr}{g:DC}{go:DD}{es:List Ent}{co:Nat}(k:Ks CS H H')(h:gf CS n H a g go es co):gf CS n H' a g go es co:=by
 obtain⟨dx,ga,goa,sa,us,h1,h2,h3,h4,h5⟩:=h;exact⟨dx,ga,goa,sa,us,k.2 _ _ _ h1,k.1 _ _ h2,k.1 _ _ h3,k.1 _ _ h4,h5.aL k.1⟩
def bnF (nw be ah:Addr):EV:=[("now",.ref nw),("behind",.ref be),("ahead",.ref ah)]
def vA (CS CB:Addr)(n:Nat)(H:Hp)(b be:Addr)(d:Nat)(g:DC)(go:DD)(es:List Ent)(co:Nat):Prop :=
 ∃ (dx nw ah:Addr) (xs:E6),H b=some (.ins CB dx (bnF nw be ah))/\H be=some (.lst xs)/\xs.length=d/\gf CS n H nw g go es co
def But (b be:Addr)(H H':Hp):Prop:=∀ a o,a≠b->a≠be->H a=some o->H' a=some o
def But.ks {CS CB b be dx:Addr}{fs:EV}{xs:E6}{H H':Hp}(h:But b be H H')(ne:CB≠CS)(hb:H b=some (.ins CB dx fs))(hl:H be=some (.lst xs)):Ks CS H H':=by
 refine⟨fun a ys q=>h a _ (fun z=>?_) (fun z=>?_) q,fun a dx' fs' q=>h a _ (fun z=>?_) (fun z=>?_) q⟩;{rw[z,hb] at q;cases q};{rw[z,hl] at q;cases q};{rw[z,hb] at q;injection q with q;injection q with q1;exact ne q1};{rw[z,hl] at q;cases q}
def RT {b be:Addr}{H H':Hp}(s:aH H H'):But b be H H':=fun a o _ _ q=>s a o q
def But.trans {b be:Addr}{H H1 H2:Hp}(h:But b be H H1)(k:But b be H1 H2):But b be H H2:=fun a o x y q=>k a o x y (h a o x y q)
def vA.same {CS CB:Addr}{n:Nat}{H H':Hp}{b be:Addr}{d:Nat}{g:DC}{go:DD}{es:List Ent}{co:Nat}(s:aH H H')(h:vA CS CB n H b be d g go es co):vA CS CB n H' b be d g go es co:=by
 obtain⟨dx,nw,ah,xs,h1,h2,h3,h4⟩:=h;exact⟨dx,nw,ah,xs,s _ _ h1,s _ _ h2,h3,h4.ks (ksS s)⟩
structure xK (K:VG)(CS:Addr):Prop where
 cl:Cls K CS
 green:iQ K CS "green"
 gone:iQ K CS "gone"
 standing:iQ K CS "standing"
 coming:iQ K CS "coming"
structure vX (K:VG)(CB:Addr):Prop where
 cl:Cls K CB
 now:iQ K CB "now"
 behind:iQ K CB "behind"
 ahead:iQ K CB "ahead"
abbrev jz:Stmt:=inClass (top 37) 0
def nJ:aD VX VX (az jz):=cJ
inductive gD (CS:Addr)(vs:E6)(H:Hp)(Q:VK)(e3:XK):Prop where
 | mk (x dx:Addr) (g go sd co:V) (_:vs=[.ref x,g,go,sd,co]) (_:H x=some (.ins CS dx [])) (_:Q .non (upd H x (.ins CS dx [("green",g),("gone",go),("standing",sd),("coming",co)])))
def vD {CS:Addr} (F:Fun K "__init__" "Stand.__init__" jz f fd) (S:xK K CS):aZ P w K mg base CX0 1 f fd VX (gD CS):=by
 refine okA F nJ fun H Q E hr h=>?_;obtain⟨x,dx,g,go,sd,co,rfl,hx,q⟩:=h
 refine⟨_,(aj (jK (pv 0) (pv 1) U)
 (aj (jK (pv 0) (pv 2) U)
 (aj (jK (pv 0) (pv 3) U)
 (aB (jK (pv 0) (pv 4) U))))),?_⟩
 refine⟨G,x,CS,dx,O,hx,S.cl,S.green,by show 0 < 1000;decide,?_⟩;refine⟨G,x,CS,dx,O,aa,S.cl,S.gone,by show 1 < 1000;decide,?_⟩;refine⟨G,x,CS,dx,O,aa,S.cl,S.standing,by show 2 < 1000;decide,?_⟩;refine⟨G,x,CS,dx,O,aa,S.cl,S.coming,by show 3 < 1000;decide,?_⟩;rw[uY,uY,uY];exact q
abbrev lr:Stmt:=inClass (top 44) 0
def qb:aD ZO ZO (az lr):=cJ
abbrev jB:Stmt:=inClass (top 44) 1
def vB:aD YY YY (az jB):=cJ
def Ql {K:VG}{H:Hp}{a b:Addr}{xs ys:E6}{Q:VK}(ha:H a=some (.tup xs))(hb:H b=some (.tup ys))(hl:xs.length+ys.length<=1000)(q:∀ (p:Addr) (H':Hp),aH H H'->H' p=some (.tup (xs++ys))->Q (.ref p) H'):iG K (.ref a) (.ref b) H Q:=by
 refine⟨a,b,xs,ys,U,U,sqT ha,sqT hb,small hl,fun e=>?_,fun _ e=>?_,fun _ _ p hp=>q p _ (au hp _) aa⟩;{subst e;exact q b H (aH.refl _) hb};{subst e;exact q a H (aH.refl _) (by rw[WR];exact ha)}
def jY {CS x dx:Addr} {H:Hp} {g go sd co:V} {Q:VK} {E:XK} (hx:H x=none) (hdx:H dx=none) (hne:dx≠x) (q:∀ H',aH H H'->H' x=some (.ins CS dx [("green",g),("gone",go),("standing",sd),("coming",co)])->Q .non H') :
  gD CS [.ref x,g,go,sd,co] (upd (upd H dx (.own x)) x (.ins CS dx [])) Q E:=by
 refine⟨x,dx,g,go,sd,co,U,aa,?_⟩;rw[uY];exact q _ ((au hdx _).trans (au (by rw[aF hne.symm];exact hx) _)) aa
abbrev mz:Stmt:=inClass (top 44) 2
def pC:aD ["self","now"] ZO (az mz):=cJ
mutual
def nn (one:Nat):Tm->Bool
 | .free=>true
 | .never=>true
 | .gives i _=>decide (i≠one)
 | .sum c _=>decide (one ∉ c)
 | .crowd c _ _=>decide (one ∉ c)
 | .all ts=>nnL one ts
 | .any ts=>nnL one ts
def nnL (one:Nat):List Tm->Bool
 | []=>true
 | t::r=>nn one t && nnL one r
end
theorem j0 (x:Nat):∀ c:DD,inV (.int (x:Int)) (c.map vN)=decide (x∈c)
 | []=>rfl
 | y::c=>by
  have ih:=j0 x c;unfold inV at ih ⊢;rw[Wk,Yz,ih];by_cases e:x=y;{subst e;rw[dcT Vm];simp [vN,eqV]}
  ·have:eqV (vN y) (.int (x:Int))=false:=by
    simp [vN,eqV];lia
   rw[this,abx];exact decide_eq_decide.mpr (by simp [e])
def jA (c:DD):(c.map vN).all tV=true:=by
 rw[abO,List.all_eq_true];intro x _;rfl
mutual
theorem M8 {one:Nat}:∀ t:Tm,nn one t=true->one ∉ mnF t
 | .free,_=>by simp [mnF]
 | .never,_=>by simp [mnF]
 | .gives i k,h=>by
  have:=of_decide_eq_true (show decide (i≠one)=true by simpa [nn] using h);simp only[mnF];exact fun z=>this (List.mem_singleton.mp z).symm
 | .sum c k,h=>by simpa [nn,mnF] using h
 | .crowd c k m,h=>by simpa [nn,mnF] using h
 | .all ts,h=>by
  simp only[mnF];exact Gr ts (by simpa [nn] using h)
 | .any ts,h=>by
  simp only[mnF];exact Gr ts (by simpa [nn] using h)
theorem Gr {one:Nat}:∀ ts:List Tm,nnL one ts=true->one ∉ mnL ts
 | [],_=>by simp [mnL]
 | t::r,h=>by
  have h':nn one t=true/\nnL one r=true:=by simpa [nnL] using h
  rw[mnL,Zv];rintro (z | z);{exact M8 t h'.1 z};{exact Gr r h'.2 z}
end
theorem Q4 {n:Nat}{H:Hp}:∀ {us:E6} {p:Pl},dq n H us p->(∀ x∈p,x.2.dep<=4)->lZ n H us (p.map fun x=>Rg.rung x.1 x.2)
 | _,_,.nil,_=>.nil
 | _,_,.cons h t r,d=>.cons (.rung h t (d _ Vm)) (Q4 r fun x hx=>d x (Vp _ hx))
theorem Ma {n who:Nat}{H:Hp}:∀ {us:E6} {p:Pl} {lo:Int},dq n H us p->(p.map (·.1)).Pairwise (· < ·)->(∀ x∈p,lo<=x.1/\x.1<=9)->(∀ x∈p,nn who x.2=true)->plF n who lo (p.map fun x=>Rg.rung x.1 x.2)=true
 | _,_,_,.nil,_,_,_=>rfl
 | _,_,lo,.cons (k:=k) (t:=t) (ps:=ps) h tr r,pw,hb,hn=>by
  rw[Wk,Xx] at pw;show (rgF n who lo (.rung k t) && plF n who (k+1) (ps.map fun x=>Rg.rung x.1 x.2))=true;have h1:=hb (k,t) Vm;have h2:=M8 t (hn (k,t) Vm);rw[WX];refine⟨?_,Ma r pw.2 (fun x hx=>⟨?_,(hb x (Vp _ hx)).2⟩) fun x hx=>hn x (Vp _ hx)⟩;{show ((decide (lo<=k) && decide (k<=9)) && (ltF n (mnF t) && !decide (who∈mnF t)))=true;rw[dcT h1.1,dcT h1.2,Fj.mpr (PX tr),dcF h2];rfl};{have:=pw.1 x.1 (abo hx);lia}
def Ob {n who:Nat}{H:Hp}{us:E6}{p:Pl}(ok:okP p)(r:dq n H us p)(hn:∀ x∈p,nn who x.2=true):Pn n who (p.map fun x=>Rg.rung x.1 x.2)=true:=by
 obtain⟨h1,h2,h3,h4⟩:=ok;have l:1<=p.length:=by
  cases p with
  | nil=>exact absurd U h1
  | cons _ _=>rw[Vv];lia
 unfold Pn;rw[U7,dcT l,dcT h2,Ma r h3 (fun x hx=>⟨(h4 x hx).1,(h4 x hx).2.1⟩) hn];rfl
abbrev jr:Stmt:=top 38
abbrev iC:Stmt:=top 41
def tR:aD ZB ZB (az jr):=cJ
def rR:aD XZ XZ (az iC):=cJ
abbrev iZ:Stmt:=inClass (top 44) 4
def kE:aD ["self","one","pledge","now"] X1 (az iZ):=cJ
def Eo {g:DC}{p:Pl}(h:∀ x∈p,0<=x.1):0<=owF g p:=by
 have key:∀ (p:Pl) (f:Int),0<=f->(∀ x∈p,0<=x.1)->0<=p.foldl (owS g) f:=by
  intro p
  induction p with
  | nil=>intro f hf _;exact hf
  | cons x r ih =>
   intro f hf hx;rw[XM];refine ih _ ?_ fun y hy=>hx y (Vp _ hy);unfold owS;split;{exact hx x Vm};{exact hf}
 exact key p 0 (Int.le_refl _) h
abbrev tD:Stmt:=top 39
def Ek:aD Xt Xt (az tD):=cJ
def owL (es:List Ent)(one:Nat)(g:DC):DC:=(es.filter fun e=>decide (e.2.1=one)).map fun e=>owF g e.2.2
def Le {es:List Ent}{one:Nat}{g:DC}{e:Ent}:owL (es++[e]) one g=owL es one g++if e.2.1=one then [owF g e.2.2] else []:=by
 unfold owL;rw[Yu,Vd];congr 1;by_cases h:e.2.1=one;{rw[iPo h,XH (by exact dcT h)];rfl};{rw[iNe h,XJ (by rw[dcF h];exact Ve)];rfl}
inductive vp (vs:E6)(H:Hp)(Q:VK)(e3:XK):Prop where
 | mk (sa ga:Addr) (one n:Nat) (us:E6) (es:List Ent) (g:DC) (_:vs=[.ref sa,vN one,.ref ga]) (_:H sa=some (.tup us)) (_:bZ n H us es) (_:es.length<=100) (_:H ga=some (.tup (g.map V.int))) (_:g.length=n) (_:∀ H',aH H H'->Q (.int (mxD 0 (owL es one g))) H')
def Dq {k:Nat} (F:Fun K "owed_of" "owed_of" tD f fd) (B:Bt mg) (Sj:Df P w K mg base "owes" k YA (Cp K)) :
  aZ P w K mg base CX0 (k+1) f fd Xt vp:=by
 refine okA F Ek fun H Q E hr h=>?_;obtain⟨sa,ga,one,n,us,es,g,rfl,hsa,hes,l100,hga,lg,q⟩:=h;refine⟨_,(sR (MK U U B.max_ (a1 (bU (L:=["number","other","pledge"]) (F:=["giving","one"]) (cap:=[2,1]) U (bj U U (by kernel_rfl)) (cU (pv 0)) (fun _ _ _ _ _=>(d7 (K:=K) 3 U U (aV (pgC 0) (aV (pgC 1) (aV (pgC 2) dY))))) (fun _ _ _ _ _=>(jl (aA aQ (pv 1) (pv 4)))) (fun _ _ _ _ _=>(aO Sj hr (v2 2 3))))))),?_⟩;have les:=hes.length
 refine⟨O,sa,U,⟨_,sqT hsa⟩,fun D hD=>cR (K:=K) (a:=sa) (xs:=us) (fun i zs σ' H2=>(∃ u v w,σ'=[u,v,w,oR ga,some (vN one)])/\aH H H2/\H2 D=some (.lst zs)/\zs=(owL (es.take i) one g).map V.int)
  ⟨⟨_,_,O⟩,au hD _,aa,by rw[V6];rfl⟩ (fun i zs σ' H2 _ h=>⟨sqT (h.2.1 _ _ hsa),h.2.2.1⟩) ?_ ?_⟩
 ·rintro i zs x σ' H2 hx ⟨⟨u,v,w,rfl⟩,sm,eD,rfl⟩;obtain⟨e,p,num,o2,pl,rfl,he,hent,hpr⟩:=hes.get hx;have nx:owL (es.take (i+1)) one g=owL (es.take i) one g++if o2=one then [owF g pl] else []:=by
   rw[VD,he];exact Le
  have ll:(owL (es.take i) one g).length<=100:=by
   unfold owL;rw[U7];refine VH (Wq _ _) ?_;rw[Vs];lia
  refine⟨e,O,sqT (sm _ _ hent),U,_,O,_,O,M,G,U,O,?_⟩;by_cases z:o2=one;{rw[dcT (show vN o2=vN one by rw[z])];refine cL ⟨G,p,ga,n,pl,g,U,hpr.aL (fun a xs q=>sm a _ q),sqT (sm _ _ hga),by lia,fun H3 s3=>?_⟩;refine⟨s3 _ _ eD,aJ (by rw[U7];lia),⟨_,_,O⟩,aM (sm.trans s3) hD _,aa,?_⟩;rw[nx,iPo z,Vd];rfl};{rw[dcF (show ¬ vN o2=vN one from fun y=>z (by injection y with y;lia))];refine bK ⟨⟨_,_,O⟩,sm,eD,?_⟩;rw[nx,iNe z,WR]}
 ·rintro zs σ' H2 ⟨_,sm,eD,rfl⟩;rw[les,Vk] at eD;exact⟨D,O,sqL eD,q H2 sm⟩
def bZ.RG {n:Nat}{p:Ent->Bool}{e:Ent}{es:List Ent}{i:Nat}(h:es[i]? = some e):(es.take (i+1)).filter p=(es.take i).filter p++if p e=true then [e] else []:=by
 rw[VD,h,Yu];congr 1;show List.filter p [e]=_;by_cases z:p e=true;{rw[iPo z,XH z];rfl};{rw[iNe z,XJ z];rfl}
def stT {H H1:Hp}{a:Addr}{xs:E6}(s:iR H H1)(h:H a=some (.tup xs)):H1 a=some (.tup xs):=s a (.tup xs) (fun _ z=>nomatch z) h
def stL {H H1:Hp}{a:Addr}{xs:E6}(s:iR H H1)(h:H a=some (.lst xs)):H1 a=some (.lst xs):=s a (.lst xs) (fun _ z=>nomatch z) h
def thrown.mono {C:Addr}{w:VB}{H H1:Hp}{E:XK}(s:aH H H1)(h:thrown C w H E):thrown C w H1 E:=fun dx H2 s2 e=>h dx H2 (s.trans s2) e
def zu {K:VG} {C G:Addr} {w:VB} {H:Hp} {Q:VK} (R:XRd K C G "word") (q:∀ (a:Addr) (H':Hp),aH H H'->H' a=some (.tup [.str w])->Q (.ref a) H'):thrown C w H (XW K G "word" Q):=by
 intro dx H1 s ed;refine⟨C,dx,M,R,ed,U,fun x u a hx ha=>q a _ ?_ aa⟩;exact s.trans ((au hx _).trans (au ha _))
inductive m8 (CS CN CG:Addr)(vs:E6)(H:Hp)(Q:VK)(E:XK):Prop where
 | mk (st:Addr) (one:Int) (n co:Nat) (g:DC) (go:DD) (es:List Ent) (_:vs=[.ref st,.int one]) (_:gf CS n H st g go es co) (_:((one < 0∨(g.length:Int)<=one)->thrown CN "no folk" H E)) (_:(∀ i:Nat,one=i->i < g.length->i∈go->thrown CG "gone" H E)) (_:(∀ i:Nat,one=i->i < g.length->i ∉ go->Q .non H))
def qt {CS CN CG:Addr} (F:Fun K "check_there" "check_there" jr f fd) (B:Bt mg) (S:xK K CS) (PD:Df P w K mg base "is_number" 1 X9 jt)
  (SY:Xc P w K mg base "NoFolk" CN "no folk") (SW:Xc P w K mg base "Gone" CG "gone"):aZ P w K mg base (XL P w) 4 f fd ZB (m8 CS CN CG):=by
 refine zf F tR fun H Q E hr h=>?_;obtain⟨st,one,n,co,g,go,es,rfl,⟨dx,ga,goa,sa,us,hs,hga,hgo,hsa,hes⟩,hN,hG,q⟩:=h
 refine⟨_,(aj (bR (dC (cj (aO PD hr (aq (pv 1) (aq ao (a1 (aK eO (pln K B.len_ (pfd K 0)) ao))))))) (aB (dF SY hr U cV)) aR)
 (aB (bR (eQ (r:=rIn K false) dD (pv 1) (pfd K 0) U) (aB (dF SW hr U cV)) aR))),?_⟩
 refine bL (fun σ H1=>∃ i:Nat,one=i/\i < g.length/\σ=[oR st,some (vN i)]/\H1=H) ?_ ?_
 ·intro N Rc;refine⟨G,st,CS,dx,_,O,hs,S.cl,S.green,U,ga,O,.inr (sqT hga),M,.int one,0,O,.int _,O,?_⟩;by_cases hz:0<=one/\one < g.length
  ·rw[show isNum (.int one) 0 ((((g.map V.int).length:Nat):Int) - 1)=true by
    show (decide ((0:Int)<=one) && decide (one<=(((g.map V.int).length:Nat):Int) - 1))=true;rw[U7,dcT (by lia),dcT (by lia)]
    rfl]
   refine bK (Rc _ _ ⟨one.toNat,by lia,by lia,?_,U⟩);show[some (V.ref st),some (V.int one)]=[some (.ref st),some (.int (one.toNat:Int))];rw[Int.toNat_of_nonneg hz.1]
  ·rw[show isNum (.int one) 0 ((((g.map V.int).length:Nat):Int) - 1)=false by
    show (decide ((0:Int)<=one) && decide (one<=(((g.map V.int).length:Nat):Int) - 1))=false;rw[U7];by_cases h0:0<=one;{rw[dcF (show ¬ one<=(g.length:Int) - 1 by lia),Ze]}
    ·rw[dcF h0,Zd]]
   exact cL (hN (by lia))
 rintro σ H1 ⟨i,rfl,hi,rfl,rfl⟩;refine⟨G,st,CS,dx,_,O,hs,S.cl,S.gone,U,goa,O,.inr (sqT hgo),U,jA go,O,?_⟩;have e:inV (vN i) (go.map vN)=decide (i∈go):=by
  rw[show vN i=V.int (i:Int) from U,j0]
 rw[iNe (show ¬ false=true from Ve),e];by_cases z:i∈go;{rw[dcT z];exact cL (hG i U hi z)};{rw[dcF z];exact bK (q i U hi z)}
mutual
theorem MJ {one:Nat}:∀ t:Tm,one ∉ mnF t->nn one t=true
 | .free,_=>by simp [nn]
 | .never,_=>by simp [nn]
 | .gives i k,h=>by
  simp only[mnF] at h;simp only[nn];exact dcT fun z=>h (by rw[z];exact List.mem_singleton.mpr U)
 | .sum c k,h=>by simpa [nn,mnF] using h
 | .crowd c k m,h=>by simpa [nn,mnF] using h
 | .all ts,h=>by
  simp only[mnF] at h;simp only[nn];exact Ft ts h
 | .any ts,h=>by
  simp only[mnF] at h;simp only[nn];exact Ft ts h
theorem Ft {one:Nat}:∀ ts:List Tm,one ∉ mnL ts->nnL one ts=true
 | [],_=>by simp [nnL]
 | t::r,h=>by
  rw[mnL,Zv,not_or] at h;rw[nnL,MJ t h.1,Ft r h.2];rfl
end
theorem HB {n who:Nat}{x:Int × Tm}:∀ {p:Pl} {lo:Int},x∈p->nn who x.2=false->plF n who lo (p.map fun x=>Rg.rung x.1 x.2)=false
 | [],_,h,_=>by cases h
 | y::r,lo,h,e=>by
  show (rgF n who lo (.rung y.1 y.2) && plF n who (y.1+1) (r.map fun x=>Rg.rung x.1 x.2))=false;rcases List.mem_cons.mp h with z | z
  ·have hm:who∈mnF y.2:=Classical.byContradiction fun q=>by
    rw[← z,MJ x.2 (by rw[z];exact q)] at *;cases e
   show (((decide (lo<=y.1) && decide (y.1<=9)) && (ltF n (mnF y.2) && !decide (who∈mnF y.2))) && _)=false;rw[dcT hm];simp
  ·rw[HB z e,Ze]
def QD {n who:Nat}{x:Int × Tm}{p:Pl}(h:x∈p)(e:nn who x.2=false):Pn n who (p.map fun x=>Rg.rung x.1 x.2)=false:=by
 unfold Pn;rw[HB h e,Ze]
inductive zJ (CS CP:Addr)(vs:E6)(H:Hp)(Q:VK)(E:XK):Prop where
 | mk (st p:Addr) (one n co:Nat) (g:DC) (go:DD) (es:List Ent) (pl:Pl) (_:vs=[.ref st,vN one,.ref p]) (_:gf CS n H st g go es co) (_:g.length=n) (_:1<=n) (_:n<=12) (_:j9 n H p pl) (_:((∃ x∈pl,nn one x.2=false)->thrown CP "bad pledge" H E)) (_:((∀ x∈pl,nn one x.2=true)->∀ H',aH H H'->Q .non H'))
def o8 {CS CP:Addr} {k:Nat} (hk:3<=k) (F:Fun K "check_pledge" "check_pledge" iC f fd) (B:Bt mg) (S:xK K CS) (PF:Df P w K mg base "is_pledge" k Ya uA)
  (SS:Xc P w K mg base "BadPledge" CP "bad pledge"):aZ P w K mg base (XL P w) (k+1) f fd XZ (zJ CS CP):=by
 refine zf F rR fun H Q E hr h=>?_;obtain⟨st,p,one,n,co,g,go,es,pl,rfl,⟨dx,ga,goa,sa,us,hs,hga,hgo,hsa,hes⟩,lg,n1,n12,⟨okp,vs0,hp,rv⟩,hbad,q⟩:=h;refine⟨_,(aB (bR (dC (cj (aO PF hr (aq (pln K B.len_ (pfd K 0)) (v2 1 2))))) (aB (dF SS hr U cV (hk:=hk))) aR)),?_⟩;have lv:=rv.length;have p9:=okp.2.1;refine⟨O,st,CS,dx,_,O,hs,S.cl,S.green,U,ga,O,.inr (sqT hga),G,p,vs0,_,n,n,one,?_,hp,Q4 rv fun x hx=>(okp.2.2.2 x hx).2.2,n12,by lia,n1,fun H1 s1=>?_⟩;{show[V.int (((g.map V.int).length:Nat):Int),vN one,V.ref p]=_;rw[U7,lg];rfl}
 ·by_cases hn:∀ x∈pl,nn one x.2=true;{rw[Ob okp rv hn];exact⟨O,bK (q hn H1 s1)⟩}
  ·obtain⟨x,hx,e⟩:∃ x∈pl,nn one x.2=false:=Classical.byContradiction fun z=>hn fun x hx=>by
    cases e:nn one x.2 with
    | true=>rfl
    | false=>exact absurd ⟨x,hx,e⟩ z
   rw[QD hx e];exact⟨O,cL ((hbad ⟨x,hx,e⟩).mono s1)⟩
theorem xV:∀ (n:Nat) (go:DD),go.Nodup->(∀ x∈go,x < n)->go.length<=n
 | 0,go,_,h=>by
  cases go with
  | nil=>exact Vb _
  | cons a r=>exact absurd (h a Vm) (aaa _)
 | n+1,go,nd,h=>by
  have:=xV n (go.filter fun x=>decide (x≠n)) (nd.filter _) fun x hx=>by
   have h1:=List.mem_filter.mp hx;have h2:=h x h1.1;have h3:x≠n:=of_decide_eq_true h1.2;lia
  have c:=List.length_eq_countP_add_countP (p:=fun x=>decide (x≠n)) (l:=go);rw[List.countP_eq_length_filter] at c;have c2:List.countP (fun a=>decide ¬decide (a≠n)=true) go<=1:=by
   have:=List.nodup_iff_count.mp nd n;refine VH (Nat.le_of_eq ?_) this;unfold List.count;congr 1;funext x;by_cases z:x=n <;> simp [z]
  lia
def jC {T:TT}{a b:TS}{D:Ends}{σ:St}{H:Hp}(R:Bool->Hp->Prop)(hT:∀ Q:Bool->Hp->Prop,(∀ c H1,R c H1->Q c H1)->T σ H Q)(ha:∀ H1,R true H1->a D σ H1)(hb:∀ H1,R false H1->b D σ H1):Jj T a b D σ H:=by
 refine hT _ fun c H1 r=>?_;cases c;{exact hb _ r};{exact ha _ r}
mutual
theorem ir.le {n m:Nat}{H:Hp}(h:n<=m):∀ {v:V} {t:Tm},ir n H v t->ir m H v t
 | _,_,.free e=>.free e
 | _,_,.never e=>.never e
 | _,_,.gives e a b c=>.gives e (Vc a h) b c
 | _,_,.sum e e2 a b c d f g=>.sum e e2 (fun i hi=>Vc (a i hi) h) b c d f g
 | _,_,.crowd e e2 a b c d f g i j=>.crowd e e2 (fun i hi=>Vc (a i hi) h) b c d f g i j
 | _,_,.all e e2 a b r=>.all e e2 a b (bW.le h r)
 | _,_,.any e e2 a b r=>.any e e2 a b (bW.le h r)
theorem bW.le {n m:Nat}{H:Hp}(h:n<=m):∀ {vs:E6} {ts:List Tm},bW n H vs ts->bW m H vs ts
 | _,_,.nil=>.nil
 | _,_,.cons a r=>.cons (ir.le h a) (bW.le h r)
end
theorem dq.le {n m:Nat}{H:Hp}(h:n<=m):∀ {vs:E6} {p:Pl},dq n H vs p->dq m H vs p
 | _,_,.nil=>.nil
 | _,_,.cons a t r=>.cons a (t.le h) (dq.le h r)
def j9.le {n m:Nat}{H:Hp}{a:Addr}{p:Pl}(h:n<=m)(r:j9 n H a p):j9 m H a p:=⟨r.1,r.2.choose,r.2.choose_spec.1,r.2.choose_spec.2.le h⟩
theorem bZ.le {n m:Nat}{H:Hp}(h:n<=m):∀ {us:E6} {es:List Ent},bZ n H us es->bZ m H us es
 | _,_,.nil=>.nil
 | _,_,.cons a p r=>.cons a (p.le h) (bZ.le h r)
structure Bn (CS CB:Addr)(n:Nat)(H:Hp)(b be ah dx nw:Addr)(xs zs:E6)(g:DC)(go:DD)(es:List Ent)(co:Nat):Prop where
 hb:H b=some (.ins CB dx (bnF nw be ah))
 hbe:H be=some (.lst xs)
 hah:H ah=some (.lst zs)
 st:gf CS n H nw g go es co
 nb:be≠ah
 lg:g.length=n
 n12:n<=12
 l40:es.length<=40
 gn:go.Nodup
 gl:∀ x∈go,x < n
section
variable {CS CB:Addr}{n:Nat}{H H':Hp}{b be ah dx nw:Addr}{xs zs:E6}{g:DC}{go:DD}{es:List Ent}{co:Nat}
def Bn.same (B:Bn CS CB n H b be ah dx nw xs zs g go es co)(s:aH H H'):Bn CS CB n H' b be ah dx nw xs zs g go es co :=
 ⟨s _ _ B.hb,s _ _ B.hbe,s _ _ B.hah,B.st.ks (ksS s),B.nb,B.lg,B.n12,B.l40,B.gn,B.gl⟩
def Bn.sT (B:Bn CS CB n H b be ah dx nw xs zs g go es co)(s:iR H H'):Bn CS CB n H' b be ah dx nw xs zs g go es co :=
 ⟨s _ _ (fun _ z=>nomatch z) B.hb,s _ _ (fun _ z=>nomatch z) B.hbe,s _ _ (fun _ z=>nomatch z) B.hah,B.st.ks ⟨fun a ys q=>s _ _ (fun _ z=>nomatch z) q,fun a dx fs q=>s _ _ (fun _ z=>nomatch z) q⟩,B.nb,B.lg,B.n12,B.l40,B.gn,B.gl⟩
def Bn.Ul (B:Bn CS CB n H b be ah dx nw xs zs g go es co):vA CS CB n H b be xs.length g go es co:=⟨dx,nw,ah,xs,B.hb,B.hbe,U,B.st⟩
def Bn.few (B:Bn CS CB n H b be ah dx nw xs zs g go es co):go.length<=12:=VH (xV n go B.gn B.gl) B.n12
end
inductive jX (CB:Addr)(vs:E6)(H:Hp)(Q:VK)(e3:XK):Prop where
 | mk (b be st dx nw ah:Addr) (xs:E6) (_:vs=[.ref b,.ref st]) (_:H b=some (.ins CB dx (bnF nw be ah))) (_:H be=some (.lst xs)) (_:xs.length<=900) (_:∀ (ah':Addr) (H':Hp),H ah'=none->H' b=some (.ins CB dx (bnF st be ah'))->H' be=some (.lst (xs++[.ref nw]))->H' ah'=some (.lst [])->But b be H H'->Q .non H')
def t7 {CB:Addr} (F:Fun K "go_on" "Boon.go_on" jB f fd) (S:vX K CB):aZ P w K mg base CX0 1 f fd YY (jX CB):=by
 refine okA F vB fun H Q E hr h=>?_;obtain⟨b,be,st,dx,nw,ah,xs,rfl,hb,hbe,l9,q⟩:=h
 refine⟨_,(aj (aX (oX VR Wb Wa cz (pfd K 0) (a1 (pfd K 0))))
 (aj (jK (pv 0) (bc cQ) U)
 (aB (jK (pv 0) (pv 1) U)))),?_⟩
 have bb:be≠b:=fun z=>by rw[z,hb] at hbe;cases hbe
 refine⟨O,b,CB,dx,_,O,hb,S.cl,S.behind,U,.inl ⟨U,_,sqL hbe⟩,O,b,CB,dx,_,O,hb,S.cl,S.now,U,be,M,hbe,aJ (by lia),?_⟩;have k1:But b be H (upd H be (.lst (xs++[.ref nw]))):=fun a o _ h z=>by rw[aF h];exact z
 generalize eH1:upd H be _=H1 at k1;have e1:H1 be=some (.lst (xs++[.ref nw])):=by rw[← eH1];exact aa
 have e1b:H1 b=some (.ins CB dx (bnF nw be ah)):=by rw[← eH1,aF bb.symm];exact hb
 refine⟨smN 0,fun a2 h2=>?_⟩;have n2:a2≠be:=fun z=>by rw[z,e1] at h2;cases h2
 have n2b:a2≠b:=fun z=>by rw[z,e1b] at h2;cases h2
 have fr:H a2=none:=by rw[← eH1,aF n2] at h2;exact h2
 generalize eH2:upd H1 a2 _=H2;obtain⟨g2,e2⟩:=aG eH2 h2;refine⟨O,b,CB,dx,O,g2 _ _ e1b,S.cl,S.ahead,by show 3 < 1000;decide,?_⟩;have k3:∀ a o,a≠b->H2 a=some o->upd H2 b (.ins CB dx (ur "ahead" (.ref a2) (bnF nw be ah))) a=some o:=fun a o h z=>by rw[aF h];exact z
 generalize eH3:upd H2 b _=H3 at k3;have e3:H3 b=some (.ins CB dx (bnF nw be a2)):=by rw[← eH3];exact aa
 refine⟨G,b,CB,dx,O,e3,S.cl,S.now,by show 3 < 1000;decide,?_⟩;refine q a2 _ fr aa (by rw[aF bb];exact k3 _ _ bb (g2 _ _ e1)) (by rw[aF n2b];exact k3 _ _ n2b e2) fun a o h h' z=>?_;rw[aF h];exact k3 _ _ h (g2 _ _ (k1 a o h h' z))
def Ep {CS CB:Addr}{n n':Nat}{H H1:Hp}{b be ah dx nw x:Addr}{xs zs:E6}{g g':DC}{go go':DD}{es es':List Ent}{co co':Nat}{Q:VK}(B:Bn CS CB n H b be ah dx nw xs zs g go es co)(ne:CB≠CS)(l9:xs.length<=900)(s:aH H H1)(st:gf CS n' H1 x g' go' es' co')
  (lg:g'.length=n') (n12:n'<=12) (l40:es'.length<=40) (gn:go'.Nodup) (gl:∀ x∈go',x < n') (q:∀ (H':Hp) (ah':Addr),But b be H H'->H ah'=none->Bn CS CB n' H' b be ah' dx x (xs++[.ref nw]) [] g' go' es' co'->Q .non H'):jX CB [.ref b,.ref x] H1 Q E0:=by
 refine⟨b,be,x,dx,nw,ah,xs,U,s _ _ B.hb,s _ _ B.hbe,l9,fun ah' H' fa e1 e2 e3 bt=>?_⟩;refine q H' ah' ((RT s).trans bt) (s.free fa) ⟨e1,e2,e3,st.ks (bt.ks ne (s _ _ B.hb) (s _ _ B.hbe)),fun z=>?_,lg,n12,l40,gn,gl⟩;rw[← z,s _ _ B.hbe] at fa;cases fa
inductive Cu (CS CB:Addr)(vs:E6)(H:Hp)(Q:VK)(e3:XK):Prop where
 | mk (b dx:Addr) (_:vs=[.ref b]) (_:H b=some (.ins CB dx [])) (_:∀ (be ah nw:Addr) (H':Hp),H be=none->H ah=none->(∀ a o,a≠b->H a=some o->H' a=some o)->Bn CS CB 0 H' b be ah dx nw [] [] [] [] [] 0->Q .non H')
def uG {CS CB:Addr} (F:Fun K "__init__" "Boon.__init__" lr f fd) (S:vX K CB) (OZ:Dk2 P w K mg base "Stand" CS 1 VX (gD CS)) :
  aZ P w K mg base CX0 3 f fd ZO (Cu CS CB):=by
 refine okA F qb fun H Q E hr h=>?_;obtain⟨b,dx,rfl,hb,q⟩:=h
 refine⟨_,(aj (jK (pv 0) (Eh OZ hr (aq (aP cQ) (aq (aP cQ) (aq (aP cQ) (a1 ao))))) U)
 (aj (jK (pv 0) (bc cQ) U)
 (aB (jK (pv 0) (bc cQ) U)))),?_⟩
 refine⟨smN 0,fun p1 h1=>?_⟩;generalize eH1:upd H p1 _=H1;obtain⟨g1,e1⟩:=aG eH1 h1;refine⟨smN 0,fun p2 h2=>?_⟩;generalize eH2:upd H1 p2 _=H2;obtain⟨g2,e2⟩:=aG eH2 h2;refine⟨smN 0,fun p3 h3=>?_⟩;generalize eH3:upd H2 p3 _=H3;obtain⟨g3,e3⟩:=aG eH3 h3;have s3:=g1.trans (g2.trans g3);intro x dx2 hx hdx hne;refine jY hx hdx hne fun H4 sB e4=>⟨U,?_⟩;have s4:=s3.trans sB;refine⟨O,b,CB,dx,O,s4 _ _ hb,S.cl,S.now,by show 0 < 1000;decide,?_⟩;have k1:∀ a o,a≠b->H4 a=some o->upd H4 b (.ins CB dx (ur "now" (.ref x) [])) a=some o:=fun a o h z=>by rw[aF h];exact z
 generalize eH5:upd H4 b _=H5 at k1;have e5:H5 b=some (.ins CB dx [("now",.ref x)]):=by rw[← eH5];exact aa
 refine⟨smN 0,fun be hbe=>?_⟩;generalize eH6:upd H5 be _=H6;obtain⟨g6,e6⟩:=aG eH6 hbe;refine⟨O,b,CB,dx,O,g6 _ _ e5,S.cl,S.behind,by show 1 < 1000;decide,?_⟩;have bb:be≠b:=fun z=>by rw[z,e5] at hbe;cases hbe
 have k2:∀ a o,a≠b->H6 a=some o->upd H6 b (.ins CB dx (ur "behind" (.ref be) [("now",.ref x)])) a=some o:=fun a o h z=>by rw[aF h];exact z
 generalize eH7:upd H6 b _=H7 at k2;have e7:H7 b=some (.ins CB dx [("now",.ref x),("behind",.ref be)]):=by rw[← eH7];exact aa
 refine⟨smN 0,fun ah hah=>?_⟩;have ab:ah≠b:=fun z=>by rw[z,e7] at hah;cases hah
 generalize eH8:upd H7 ah _=H8;obtain⟨g8,e8⟩:=aG eH8 hah;refine⟨O,b,CB,dx,O,g8 _ _ e7,S.cl,S.ahead,by show 2 < 1000;decide,?_⟩;have k3:∀ a o,a≠b->H8 a=some o->upd H8 b (.ins CB dx (ur "ahead" (.ref ah) [("now",.ref x),("behind",.ref be)])) a=some o:=fun a o h z=>by rw[aF h];exact z
 generalize eH9:upd H8 b _=H9 at k3;have e9:H9 b=some (.ins CB dx (bnF x be ah)):=by rw[← eH9];exact aa
 have all:∀ a o,a≠b->H4 a=some o->H9 a=some o:=fun a o h z=>k3 a o h (g8 _ _ (k2 a o h (g6 _ _ (k1 a o h z))));have tp:∀ (p:Addr) (xs:E6),H4 p=some (HO.tup xs)->H9 p=some (HO.tup xs):=fun p xs z=>all p _ (fun y=>by rw[y,s4 _ _ hb] at z;cases z) z;have xb:x≠b:=fun z=>by rw[z] at hx;rw[s3 _ _ hb] at hx;cases hx
 have e6':H7 be=some (.lst []):=k2 _ _ bb e6;have old:∀ a,a≠b->H5 a=none->H a=none:=fun a hn h=>by
  cases hq:H a with
  | none=>rfl
  | some o =>
   have:=k1 a o hn (s4 _ _ hq);rw[h] at this;cases this
 refine q be ah x H9 (old be bb hbe) ?_ (fun a o h z=>all a o h (s4 _ _ z)) ⟨e9,k3 _ _ bb (g8 _ _ e6'),k3 _ _ ab e8,⟨dx2,p1,p2,p3,[],all _ _ xb e4,tp _ _ (sB _ _ (g3 _ _ (g2 _ _ e1))),tp _ _ (sB _ _ (g3 _ _ e2)),tp _ _ (sB _ _ e3),.nil⟩,fun z=>?_,U,by decide,by decide,.nil,by simp⟩
 ·refine old ah ab ?_;cases hq:H5 ah with
  | none=>rfl
  | some o =>
   have:=k2 ah o ab (g6 _ _ hq);rw[hah] at this;cases this
 ·rw[← z,e6'] at hah;cases hah
inductive Hv (CS CB CF:Addr)(vs:E6)(H:Hp)(Q:VK)(E:XK):Prop where
 | mk (b be ah dx nw:Addr) (n co:Nat) (xs zs:E6) (g:DC) (go:DD) (es:List Ent) (_:vs=[.ref b]) (_:Bn CS CB n H b be ah dx nw xs zs g go es co) (_:xs.length<=900) (_:(12<=n->thrown CF "full" H E)) (_:(n < 12->∀ (H':Hp) (nw' ah':Addr),But b be H H'->H ah'=none->Bn CS CB (n+1) H' b be ah' dx nw' (xs++[.ref nw]) [] (g++[0]) go es co->Q (vN n) H'))
def tX {CS CB CF:Addr} {t1:Tok} (ne:CB≠CS) (F:Fun K "come" "Boon.come" mz f fd) (B:Bt mg) (S:xK K CS) (T:vX K CB) (Ta:mg "MOST_FOLK" = some (.int 12 t1))
  (OZ:Dk2 P w K mg base "Stand" CS 1 VX (gD CS)) (OW:Dm2 P w K mg base CB "go_on" 1 YY (jX CB)) (SV:Xc P w K mg base "Full" CF "full") :
  aZ P w K mg base (XL P w) 4 f fd ZO (Hv CS CB CF):=by
 refine zf F pC fun H Q E hr h=>?_;obtain⟨b,be,ah,dx,nw,n,co,xs,zs,g,go,es,rfl,hB,l9,hF,q⟩:=h
 refine⟨_,(aj (sT 1 pC.nd (pfd K 0))
 (aj (bR (aA mC (pln K B.len_ (pfd K 1)) (ql Ta)) (aB (dF SV hr U cV)) aR)
 (aj (aX (Ed OW hr (pv 0) (a1 (Eh OZ hr (aq (aK (r:=iG K) gA (pfd K 1) (aP (a1 ao))) (aq (pfd K 1) (aq (pfd K 1) (a1 (pfd K 1)))))))))
 (sR (pln K B.len_ (pfd K 1)))))),?_⟩
 have hb:=hB.hb;have lg:=hB.lg;obtain⟨dx2,ga,goa,sa,us,hs,hga,hgoa,hsa,hes⟩:=id hB.st;refine bL (fun σ H1=>σ=[oR b,oR nw]/\H1=H) ?_ ?_;{intro N Rc;exact⟨O,b,CB,dx,_,O,hb,T.cl,T.now,U,Rc _ _ ⟨U,U⟩⟩};rintro σ H0 ⟨rfl,rfl⟩;refine bL (fun σ H1=>σ=[oR b,oR nw]/\H1=H0/\n < 12) ?_ ?_
 ·intro N Rc;refine⟨O,nw,CS,dx2,_,O,hs,S.cl,S.green,U,ga,O,.inr (sqT hga),M,O,?_⟩;by_cases z:12<=n;{rw[dcT (show ((12:Int)<=(((g.map V.int).length:Nat):Int)) by rw[U7];lia)];exact cL (hF z)};{rw[dcF (show ¬ ((12:Int)<=(((g.map V.int).length:Nat):Int)) by rw[U7];lia)];exact bK (Rc _ _ ⟨U,U,by lia⟩)}
 rintro σ H1 ⟨rfl,rfl,h12⟩;replace q:=q h12;refine bL (fun σ H2=>∃ (nw' ah':Addr),σ=[oR b,oR nw]/\But b be H1 H2/\H1 ah'=none/\Bn CS CB (n+1) H2 b be ah' dx nw' (xs++[.ref nw]) [] (g++[0]) go es co) ?_ ?_
 ·intro N Rc;refine⟨O,b,dx,O,hb,U,O,nw,CS,dx2,_,O,hs,S.cl,S.green,U,smN 1,fun p1 h1=>?_⟩;generalize eH2:upd H1 p1 _=H2;obtain⟨g2,e2⟩:=aG eH2 h1;refine Ql (g2 _ _ hga) e2 (by rw[U7];show g.length+1<=1000;lia) fun p H3 s3 e3=>?_;have s13:=g2.trans s3;have e3:H3 p=some (.tup ((g++[0]).map V.int)):=by rw[e3,Vd];rfl
  have hs3:=s13 _ _ hs;refine⟨O,nw,CS,dx2,_,O,hs3,S.cl,S.gone,U,O,nw,CS,dx2,_,O,hs3,S.cl,S.standing,U,O,nw,CS,dx2,_,O,hs3,S.cl,S.coming,U,fun x dx3 hx hdx hne=>?_⟩;refine jY hx hdx hne fun H4 s4 e4=>⟨U,?_⟩;have s14:=s13.trans s4;exact Ep (Q:=fun _ H1=>N [some (.ref b),some (.ref nw)] H1) hB ne l9 s14 ⟨dx3,p,goa,sa,us,e4,s4 _ _ e3,s14 _ _ hgoa,s14 _ _ hsa,(hes.aL fun a ys z=>s14 _ _ z).le (WY n)⟩ (by rw[Vf,lg];rfl) (by lia) hB.l40 hB.gn (fun x hx=>Wn (hB.gl x hx)) fun H' ah' bt fa hB'=>Rc _ _ ⟨_,ah',U,bt,fa,hB'⟩
 rintro σ H2 ⟨nw',ah',rfl,bt,fa,hB'⟩;have ks:=bt.ks ne hb hB.hbe;refine⟨O,nw,CS,dx2,_,O,ks.2 _ _ _ hs,S.cl,S.green,U,ga,O,.inr (sqT (ks.1 _ _ hga)),?_⟩;rw[U7,lg];exact q H2 nw' ah' bt fa hB'
structure XA where
 nf:Addr
 go:Addr
 bp:Addr
 fu:Addr
 np:Addr
 bd:Addr
 nd:Addr
 br:Addr
 nl:Addr
def XA.of (x:XA)(w:VB):Addr:=if w = "no folk" then x.nf else if w = "gone" then x.go else if w = "bad pledge" then x.bp else if w = "full" then x.fu else if w = "no pledge" then x.np else if w = "bound" then x.bd else if w = "not due" then x.nd else if w = "bad rise" then x.br else x.nl
def Th (x:XA)(w:VB)(H:Hp)(E:XK):Prop:=thrown (x.of w) w H E
def Th.mono {x:XA}{w:VB}{H H1:Hp}{E:XK}(s:aH H H1)(h:Th x w H E):Th x w H1 E:=thrown.mono s h
section
variable {x:XA}
def RL:x.of "no folk" = x.nf:=by unfold XA.of;rw[iPo U]
def Sh:x.of "gone" = x.go:=by unfold XA.of;rw[iNe (by decide),iPo U]
def Pu:x.of "bad pledge" = x.bp:=by unfold XA.of;rw[iNe (by decide),iNe (by decide),iPo U]
def QG:x.of "full" = x.fu:=by unfold XA.of;rw[iNe (by decide),iNe (by decide),iNe (by decide),iPo U]
def RQ:x.of "not due" = x.nd:=by unfold XA.of;rw[iNe (by decide),iNe (by decide),iNe (by decide),iNe (by decide),iNe (by decide),iNe (by decide),iPo U]
def Qw:x.of "bad rise" = x.br:=by unfold XA.of;rw[iNe (by decide),iNe (by decide),iNe (by decide),iNe (by decide),iNe (by decide),iNe (by decide),iNe (by decide),iPo U]
end
def miW (n:Nat)(go:DD)(o:Int):VB:=if o < 0∨(n:Int)<=o then "no folk" else if o.toNat∈go then "gone" else ""
def yw (n:Nat) (go:DD) (o:Int):(miW n go o = "no folk"/\(o < 0∨(n:Int)<=o))∨(∃ i:Nat,o=i/\i < n/\((i∈go/\miW n go o = "gone")∨(i ∉ go/\miW n go o = ""))):=by
 unfold miW;by_cases h:o < 0∨(n:Int)<=o;{exact .inl ⟨iPo h,h⟩}
 ·refine .inr ⟨o.toNat,by lia,by lia,?_⟩;rw[iNe h];by_cases g:o.toNat∈go;{exact .inl ⟨g,iPo g⟩};{exact .inr ⟨g,iNe g⟩}
def uy {n:Nat} {go:DD} {o:Int} (h:miW n go o = ""):∃ i:Nat,o=i/\i < n/\i ∉ go:=by
 rcases yw n go o with⟨e,_⟩ | ⟨i,e,hi,⟨_,e2⟩ | ⟨g,_⟩⟩;{rw[e] at h;exact absurd h (by decide)};{rw[e2] at h;exact absurd h (by decide)};{exact⟨i,e,hi,g⟩}
def oH {n i:Nat} {go:DD} (hi:i < n):miW n go (i:Int)=if i∈go then ("gone" : VB) else "":=by
 unfold miW;rw[iNe (by lia),VL]
def oE {CS:Addr} {x:XA} {st:Addr} {one:Int} {n co:Nat} {g:DC} {go:DD} {es:List Ent} {H:Hp} {Q:VK} {E:XK} (hst:gf CS n H st g go es co) (lg:g.length=n) (hw:miW n go one≠""->Th x (miW n go one) H E) (q:∀ i:Nat,one=i->i < n->i ∉ go->Q .non H):m8 CS x.nf x.go [.ref st,.int one] H Q E:=by
 refine⟨st,one,n,co,g,go,es,U,hst,fun z=>?_,fun i e hi hg=>?_,fun i e hi hg=>q i e (by lia) hg⟩
 ·have e:miW n go one = "no folk":=by unfold miW;rw[iPo (by lia)]
  have:=hw (by rw[e];decide);unfold Th at this;rw[e,RL] at this;exact this
 ·have e:miW n go one = "gone":=by rw[e,oH (by lia),iPo hg]
  have:=hw (by rw[e];decide);unfold Th at this;rw[e,Sh] at this;exact this
def plW (n:Nat)(go:DD)(es:List Ent)(o:Int)(pl:Pl):VB:=if miW n go o≠"" then miW n go o else if ∃ x∈pl,nn o.toNat x.2=false then "bad pledge" else if 40<=es.length then "full" else ""
inductive xF (CS CB:Addr)(x:XA)(vs:E6)(H:Hp)(Q:VK)(E:XK):Prop where
 | mk (b be ah dx nw p:Addr) (one:Int) (n co:Nat) (xs zs:E6) (g:DC) (go:DD) (es:List Ent) (pl:Pl) (_:vs=[.ref b,.int one,.ref p]) (_:Bn CS CB n H b be ah dx nw xs zs g go es co) (_:j9 n H p pl) (_:xs.length<=900) (_:(plW n go es one pl≠""->Th x (plW n go es one pl) H E)) (_:(plW n go es one pl = ""->∀ (H':Hp) (nw' ah':Addr),But b be H H'->H ah'=none->Bn CS CB n H' b be ah' dx nw' (xs++[.ref nw]) [] g go (es++[(co,one.toNat,pl)]) (co+1)->Q (vN co) H'))
def qd {CS CB:Addr} {x:XA} {t1:Tok} {k:Nat} (hk:4<=k) (ne:CB≠CS) (F:Fun K "pledge" "Boon.pledge" iZ f fd) (B:Bt mg) (S:xK K CS) (T:vX K CB) (Tk:mg "MOST_PLEDGES" = some (.int 40 t1))
  (Pf:Dx P w K mg base "check_there" 4 ZB (m8 CS x.nf x.go)) (Pe:Dx P w K mg base "check_pledge" k XZ (zJ CS x.bp))
  (OZ:Dk2 P w K mg base "Stand" CS 1 VX (gD CS)) (OW:Dm2 P w K mg base CB "go_on" 1 YY (jX CB)) (SV:Xc P w K mg base "Full" x.fu "full") :
  aZ P w K mg base (XL P w) (k+1) f fd X1 (xF CS CB x):=by
 refine zf F kE fun H Q E hr h=>?_;obtain⟨b,be,ah,dx,nw,p,one,n,co,xs,zs,g,go,es,pl,rfl,hB,hp,l9,hw,q⟩:=h
 refine⟨_,(aj (sT 3 kE.nd (pfd K 0))
 (aj (aX (rB Pf hr bF (v2 3 1)))
 (aj (aX (rB Pe hr bF (aq (pv 3) (v2 1 2))))
 (aj (bR (aA mC (pln K B.len_ (pfd K 3)) (ql Tk)) (aB (dF SV hr U cV (hk:=(YL hk)))) aR)
 (aj (aX (Ed OW hr (pv 0) (a1 (Eh OZ hr (aq (pfd K 3) (aq (pfd K 3) (aq (aK (r:=iG K) gA (pfd K 3) (aP (a1 (aP (aq (pfd K 3) (v2 1 2)))))) (a1 (aK bD (pfd K 3) ao)))))))))
 (sR (pfd K 3))))))),?_⟩
 have hb:=hB.hb;have hst:=hB.st;refine bL (fun σ H1=>σ=[oR b,oI one,oR p,oR nw]/\H1=H) ?_ ?_;{intro N Rc;exact⟨O,b,CB,dx,_,O,hb,T.cl,T.now,U,Rc _ _ ⟨U,U⟩⟩};rintro σ H0 ⟨rfl,rfl⟩;refine bL (fun σ H1=>∃ i:Nat,one=i/\i < n/\i ∉ go/\σ=[oR b,some (vN i),oR p,oR nw]/\H1=H0) ?_ ?_
 ·intro N Rc;refine⟨G,oE (Q:=fun _ H1=>N [some (.ref b),some (.int one),some (.ref p),some (.ref nw)] H1) hst hB.lg (fun z=>?_) fun i e hi hg=>Rc _ _ ⟨i,e,hi,hg,by rw[e];rfl,U⟩⟩;have e:plW n go es one pl=miW n go one:=by unfold plW;rw[iPo z]
  rw[← e];exact hw (by rw[e];exact z)
 rintro σ H1 ⟨i,rfl,hone,hgo,rfl,rfl⟩;have e0:plW n go es (i:Int) pl=if ∃ x∈pl,nn i x.2=false then ("bad pledge" : VB) else if 40<=es.length then "full" else "":=by
  unfold plW;rw[oH hone,iNe hgo,iNe (fun z=>z U),VL]
 rw[e0] at hw q;rw[VL] at q;refine bL (fun σ H2=>σ=[oR b,some (vN i),oR p,oR nw]/\aH H1 H2/\∀ x∈pl,nn i x.2=true) ?_ ?_;{intro N Rc;refine⟨G,O,nw,p,i,n,co,g,go,es,pl,U,hst,hB.lg,by lia,hB.n12,hp,fun z=>?_,fun hn H2 s2=>Rc _ _ ⟨U,s2,hn⟩⟩;rw[iPo z] at hw;have:=hw (by decide);unfold Th at this;rw[Pu] at this;exact this};rintro σ H2 ⟨rfl,s2,hn⟩;rw[iNe (fun⟨y,hy,z⟩=>by rw[hn y hy] at z;cases z)] at hw q;replace hB:=hB.same s2;obtain⟨dx2,ga,goa,sa,us,hs,hga,hgoa,hsa,hes⟩:=id hB.st;have les:=hes.length;refine bL (fun σ H3=>σ=[oR b,some (vN i),oR p,oR nw]/\H3=H2/\es.length < 40) ?_ ?_
 ·intro N Rc;refine⟨O,nw,CS,dx2,_,O,hs,S.cl,S.standing,U,sa,O,.inr (sqT hsa),M,O,?_⟩;by_cases z:40<=es.length;{rw[dcT (show ((40:Int)<=((us.length:Nat):Int)) by lia)];rw[iPo z] at hw;have:=hw (by decide);unfold Th at this;rw[QG] at this;exact cL (this.mono s2)};{rw[dcF (show ¬ ((40:Int)<=((us.length:Nat):Int)) by lia)];exact bK (Rc _ _ ⟨U,U,by lia⟩)}
 rintro σ H3 ⟨rfl,rfl,l40'⟩;rw[iNe (by lia)] at q;replace q:=q U;have hb3:=hB.hb;refine bL (fun σ H4=>∃ (nw' ah':Addr),σ=[oR b,some (vN i),oR p,oR nw]/\But b be H3 H4/\H3 ah'=none/\Bn CS CB n H4 b be ah' dx nw' (xs++[.ref nw]) [] g go (es++[(co,i,pl)]) (co+1)) ?_ ?_;{intro N Rc;refine⟨O,b,dx,O,hb3,U,O,nw,CS,dx2,_,O,hs,S.cl,S.green,U,O,nw,CS,dx2,_,O,hs,S.cl,S.gone,U,O,nw,CS,dx2,_,O,hs,S.cl,S.standing,U,O,nw,CS,dx2,_,O,hs,S.cl,S.coming,U,G,smN 3,fun p1 h1=>?_⟩;generalize eH5:upd H3 p1 _=H5;obtain⟨g5,e5⟩:=aG eH5 h1;refine⟨smN 1,fun p2 h2=>?_⟩;generalize eH6:upd H5 p2 _=H6;obtain⟨g6,e6⟩:=aG eH6 h2;have s36:=g5.trans g6;refine Ql (s36 _ _ hsa) e6 (by show us.length+1<=1000;lia) fun p3 H7 s7 e7=>?_;have s37:=s36.trans s7;refine⟨O,nw,CS,dx2,_,O,s37 _ _ hs,S.cl,S.coming,U,M,fun y dx3 hx hdx hne=>?_⟩;refine jY hx hdx hne fun H8 s8 e8=>⟨U,?_⟩;have s38:=s37.trans s8;have t38:∀ a ys,H3 a=some (HO.tup ys)->H8 a=some (HO.tup ys):=fun a ys q=>s38 a _ q;exact Ep (Q:=fun _ H1=>N [some (.ref b),some (vN i),some (.ref p),some (.ref nw)] H1) hB ne l9 s38 ⟨dx3,ga,goa,p3,us++[.ref p1],e8,s38 _ _ hga,s38 _ _ hgoa,s8 _ _ e7,bZ.snoc (s8 _ _ (s7 _ _ (g6 _ _ e5))) ((hp.aL fun a ys q=>s2 a _ q).aL t38) (hes.aL t38)⟩ hB.lg hB.n12 (by rw[Vf];show es.length+1<=40;lia) hB.gn hB.gl fun H' ah' bt fa hB'=>Rc _ _ ⟨_,ah',U,bt,fa,hB'⟩};rintro σ H4 ⟨nw',ah',rfl,bt,fa,hB4⟩;have ks:=bt.ks ne hb3 hB.hbe;exact⟨O,nw,CS,dx2,_,O,ks.2 _ _ _ hs,S.cl,S.coming,U,q H4 nw' ah' ((RT s2).trans bt) (s2.free fa) hB4⟩
inductive Ax (CS CB:Addr)(x:XA)(vs:E6)(H:Hp)(Q:VK)(E:XK):Prop where
 | mk (b be ah dx nw:Addr) (one:Int) (n co:Nat) (xs zs:E6) (g:DC) (go:DD) (es:List Ent) (_:vs=[.ref b,.int one]) (_:Bn CS CB n H b be ah dx nw xs zs g go es co) (_:xs.length<=900) (_:(miW n go one≠""->Th x (miW n go one) H E)) (_:(miW n go one = ""->∀ (H':Hp) (nw' ah':Addr),But b be H H'->H ah'=none->Bn CS CB n H' b be ah' dx nw' (xs++[.ref nw]) [] g (mR (go++[one.toNat])) (es.filter fun e=>decide (e.2.1≠one.toNat)) co->Q .non H'))
abbrev jN:Stmt:=inClass (top 44) 3
def jc:aD ["self","one","now","left"] ZH (az jN):=cJ
def qN {CS CB:Addr} {x:XA} (ne:CB≠CS) (F:Fun K "leave" "Boon.leave" jN f fd) (B:Bt mg) (S:xK K CS) (T:vX K CB)
  (Pf:Dx P w K mg base "check_there" 4 ZB (m8 CS x.nf x.go)) (OZ:Dk2 P w K mg base "Stand" CS 1 VX (gD CS)) (OW:Dm2 P w K mg base CB "go_on" 1 YY (jX CB)) :
  aZ P w K mg base (XL P w) 5 f fd ZH (Ax CS CB x):=by
 refine zf F jc fun H Q E hr h=>?_;obtain⟨b,be,ah,dx,nw,one,n,co,xs,zs,g,go,es,rfl,hB,l9,hw,q⟩:=h
 refine⟨_,(aj (sT 2 jc.nd (pfd K 0))
 (aj (aX (rB Pf hr bF (v2 2 1)))
 (aj (sT 3 jc.nd (aW (r:=fX K) bz U B.tuple_ bH (a1 (bU (L:=["entry"]) (F:=["one"]) (cap:=[1]) U (bj U U (by kernel_rfl)) (cU (pfd K 2)) (fun _ _ _ _ _=>(pgC 0)) (fun _ _ _ _ _=>(jl (aA vm (pxT K (pv 0) ao) (pv 1)))) (fun _ _ _ _ _=>(pv 0))))))
 (aB (aX (Ed OW hr (pv 0) (a1 (Eh OZ hr (aq (pfd K 2) (aq (aW (r:=fX K) bz U B.tuple_ bH (a1 (aN (r:=Mj K) Dj U B.sorted_ (by decide+kernel) (a1 (aK (r:=iG K) gA (pfd K 2) (aP (v1 1))))))) (aq (pv 3) (a1 (pfd K 2))))))))))))),?_⟩
 have hb:=hB.hb;have lgo:=hB.few;have l40:=hB.l40;obtain⟨dx2,ga,goa,sa,us,hs,hga,hgoa,hsa,hes⟩:=id hB.st;have les:=hes.length;refine bL (fun σ H1=>σ=[oR b,oI one,oR nw,none]/\H1=H) ?_ ?_;{intro N Rc;exact⟨O,b,CB,dx,_,O,hb,T.cl,T.now,U,Rc _ _ ⟨U,U⟩⟩};rintro σ H0 ⟨rfl,rfl⟩;refine bL (fun σ H1=>∃ i:Nat,one=i/\i < n/\i ∉ go/\σ=[oR b,some (vN i),oR nw,none]/\H1=H0) ?_ ?_;{intro N Rc;exact⟨G,oE (Q:=fun _ H1=>N [some (.ref b),some (.int one),some (.ref nw),none] H1) hB.st hB.lg hw fun i e hi hg=>Rc _ _ ⟨i,e,hi,hg,by rw[e];rfl,U⟩⟩};rintro σ H2 ⟨i,rfl,hone,hgo,rfl,rfl⟩;rw[oH hone,iNe hgo,VL] at q;replace q:=q U;refine bL (fun σ H3=>∃ (ch:Addr) (us':E6),σ=[oR b,some (vN i),oR nw,oR ch]/\aH H2 H3/\H3 ch=some (.tup us')/\bZ n H3 us' (es.filter fun e=>decide (e.2.1≠i))) ?_ ?_
 ·intro N Rc
  refine⟨O,nw,CS,dx2,_,O,hs,S.cl,S.standing,U,sa,U,⟨_,sqT hsa⟩,fun D hD=>cR (K:=K) (a:=sa) (xs:=us) (fun j zs σ' H3=>(∃ u,σ'=[u,some (vN i)])/\aH H2 H3/\H3 D=some (.lst zs)/\bZ n H3 zs ((es.take j).filter fun e=>decide (e.2.1≠i)))
   ⟨⟨O⟩,au hD _,aa,by rw[V6];exact .nil⟩ (fun j zs σ' H3 _ h=>⟨sqT (h.2.1 _ _ hsa),h.2.2.1⟩) ?_ ?_⟩
  ·rintro j zs y σ' H3 hx ⟨⟨u,rfl⟩,sm,eD,ez⟩;obtain⟨e,p2,nu,o2,pl2,rfl,he,hent,hpr⟩:=hes.get hx;have lz:=ez.length;have lf:=Wq (fun e:Ent=>decide (e.2.1≠i)) (es.take j);rw[Vs] at lf;have nx:=bZ.RG (n:=n) (p:=fun e:Ent=>decide (e.2.1≠i)) he;refine⟨O,e,Y,sqT (sm _ _ hent),U,N,?_⟩;by_cases z:o2=i
   ·rw[show decide (vN o2=vN i)=true from dcT (by rw[z])];show if (!true)=true then _ else _
    refine bK ⟨⟨O⟩,sm,eD,?_⟩;rw[nx,iNe (by rw[dcF (not_not_intro z)];exact Ve),WR];exact ez
   ·rw[show decide (vN o2=vN i)=false from dcF fun y=>z (by injection y with y;lia)];show if (!false)=true then _ else _
    have tk:=cM (zs':=zs++[.ref e]) eD;refine cL ⟨O,eD,aJ (by lia),⟨O⟩,aM sm hD _,aa,?_⟩;rw[nx,iPo (dcT z)];exact bZ.snoc (tk _ _ (sm _ _ hent)) ((hpr.aL fun a ys q=>sm a _ q).aL tk) (ez.aL tk)
  ·rintro zs σ' H3 ⟨_,sm,eD,ez⟩;rw[les,Vk] at ez;refine⟨D,O,.inl ⟨sqL eD,fun a ha=>?_⟩⟩;have sn:=au ha (.tup zs);exact Rc _ _ ⟨a,zs,U,sm.trans sn,aa,ez.aL fun a ys q=>sn a _ q⟩
 rintro σ H3 ⟨ch,us',rfl,s3,ech,ees⟩;have hs3:=s3 _ _ hs;refine⟨O,b,dx,O,s3 _ _ hb,U,O,nw,CS,dx2,_,O,hs3,S.cl,S.green,U,O,nw,CS,dx2,_,O,hs3,S.cl,S.gone,U,O,smN 1,fun p1 h1=>?_⟩;generalize eH4:upd H3 p1 _=H4;obtain⟨g4,e4⟩:=aG eH4 h1;refine Ql (g4 _ _ (s3 _ _ hgoa)) e4 (by rw[U7];show go.length+1<=1000;lia) fun p2 H5 s5 e5=>?_;have e5:H5 p2=some (.tup ((go++[i]).map vN)):=by rw[e5,Vd];rfl
 have ep:SqT K H5 p2 (((go++[i]).map fun i:Nat=>(i:Int)).map V.int):=sqT (e5.trans (by rw[iy]));refine⟨p2,O,ep,by rw[U7,Vf];show go.length+1 < 64;lia,fun ms pms so l hl=>?_⟩;have ems:=zz pms so;subst ems;generalize eH6:upd H5 l _=H6;obtain⟨g6,e6⟩:=aG eH6 hl;refine⟨l,O,.inl ⟨sqL e6,fun tt htt=>?_⟩⟩;generalize eH7:upd H6 tt _=H7;obtain⟨g7,e7⟩:=aG eH7 htt;have s37:=g4.trans (s5.trans (g6.trans g7));have s27:=s3.trans s37;refine⟨G,nw,CS,dx2,_,O,s37 _ _ hs3,S.cl,S.coming,U,fun y dx3 hx hdx hne=>?_⟩;refine jY hx hdx hne fun H8 s8 e8=>⟨U,?_⟩;have s28:=s27.trans s8;have mem:∀ y,y∈mR (go++[i]) ↔ y∈go∨y=i:=fun y=>by rw[(gj _).mem_iff,Zv,Xk]
 refine Ep hB ne l9 s28 ⟨dx3,ga,tt,ch,us',e8,s28 _ _ hga,s8 _ _ (e7.trans (by rw[iy])),(s37.trans s8) _ _ ech,ees.aL fun a ys q=>(s37.trans s8) a _ q⟩ hB.lg hB.n12 (VH (Wq _ _) l40) ?_ (fun y hy=>?_) fun H' ah' bt fa hB'=>q H' _ ah' bt fa hB';{refine (gj _).nodup_iff.mpr ?_;rw[abN];refine⟨hB.gn,by simp,fun y hy z hz e=>hgo ?_⟩;rw[Xk] at hz;rw[← hz,← e];exact hy}
 ·rcases (mem y).mp hy with z | z;{exact hB.gl y z};{rw[z];exact hone}
abbrev lX:Stmt:=top 43
abbrev mL:Stmt:=inClass (top 44) 7
def cZ:aD ["stand","rises","steps","crowd","one","step","green"] YU (az lX):=cJ
def wH:aD Zl Zl (az mL):=cJ
inductive RiI (H:Hp):E6->C3->Prop where
 | nil:RiI H [] []
 | cons {us:E6} {ps:C3} {e:Addr} {o s:Int} (h:H e=some (.tup [.int o,.int s])) (r:RiI H us ps):RiI H (.ref e::us) ((o,s)::ps)
theorem RiI.aL {H H':Hp}(t:∀ a xs,H a=some (HO.tup xs)->H' a=some (HO.tup xs)):∀ {us:E6} {ps:C3},RiI H us ps->RiI H' us ps
 | _,_,.nil=>.nil
 | _,_,.cons h r=>.cons (t _ _ h) (r.aL t)
theorem RiI.length {H:Hp}:∀ {us:E6} {ps:C3},RiI H us ps->us.length=ps.length
 | _,_,.nil=>rfl
 | _,_,.cons _ r=>congrArg (· + 1) r.length
theorem RiI.get {H:Hp}:∀ {us:E6} {ps:C3} {i:Nat} {u:V},RiI H us ps->us[i]? = some u->∃ (e:Addr) (o s:Int),u = .ref e/\ps[i]? = some (o,s)/\H e=some (.tup [.int o,.int s])
 | _,_,0,_,.cons h _,q=>by
  cases q;exact⟨Y,h⟩
 | _,_,i+1,_,.cons _ r,q=>r.get (i:=i) q
def seI (g:DC)(ps:C3):DC:=ps.foldl (fun g x=>g.set x.1.toNat x.2) g
def nU (ps:C3):∀ g:DC,(seI g ps).length=g.length:=by
 induction ps with
 | nil=>intro g;rfl
 | cons x r ih =>
  intro g;show (seI (g.set x.1.toNat x.2) r).length=_;rw[ih,aa3]
def Bl (g:DC)(ps:C3)(x:Int × Int):seI g (ps++[x])=(seI g ps).set x.1.toNat x.2:=by
 unfold seI;rw[List.foldl_append];rfl
def Gf {ps:C3}{j:Nat}:∀ {g:DC},(∀ x∈ps,x.1.toNat≠j)->(seI g ps).getD j 0=g.getD j 0:=by
 induction ps with
 | nil=>intro g _;rfl
 | cons x r ih =>
  intro g h;show (seI (g.set x.1.toNat x.2) r).getD j 0=_;rw[ih fun y hy=>h y (Vp _ hy),Vz,abd (h x Vm),← Vz]
def PK {ps:C3}:∀ {g:DC} {x:Int × Int},(ps.map (·.1.toNat)).Nodup->x∈ps->x.1.toNat < g.length->(seI g ps).getD x.1.toNat 0=x.2:=by
 induction ps with
 | nil=>intro g x _ h;cases h
 | cons y r ih =>
  intro g x nd h hl;rw[Wk,List.nodup_cons] at nd;show (seI (g.set y.1.toNat y.2) r).getD x.1.toNat 0=_;rcases List.mem_cons.mp h with z | z;{rw[z] at hl ⊢;rw[Gf fun w hw e=>nd.1 (by rw[← e];exact abo hw),Vz,ZL hl];rfl};{exact ih nd.2 z (by rw[aa3];exact hl)}
def riW (n:Nat)(g:DC)(go:DD):DD->C3->VB
 | _,[]=>""
 | seen,x::r=>if miW n go x.1≠"" then miW n go x.1 else if x.1.toNat∈seen∨¬ (g.getD x.1.toNat 0 < x.2/\x.2<=9) then "bad rise" else riW n g go (seen++[x.1.toNat]) r
def haW (n:Nat)(g:DC)(go:DD)(es:List Ent)(ps:C3):VB:=if ps=[] then "bad rise" else if riW n g go [] ps≠"" then riW n g go [] ps else if ∃ x∈ps,mxD 0 (owL es x.1.toNat (seI g ps)) < x.2 then "not due" else ""
structure Gp (n:Nat)(g:DC)(go:DD)(ps:C3)(i:Nat):Prop where
 on:riW n g go ((ps.take i).map (·.1.toNat)) (ps.drop i)=riW n g go [] ps
 nd:((ps.take i).map (·.1.toNat)).Nodup
 al:∀ x∈ps.take i,∃ j:Nat,x.1=j/\j < n/\j ∉ go/\g.getD j 0 < x.2/\x.2<=9
def Gp.zero (n:Nat)(g:DC)(go:DD)(ps:C3):Gp n g go ps 0:=⟨U,aax,fun x hx=>by rw[V6] at hx;cases hx⟩
section
variable {n:Nat}{g:DC}{go:DD}{ps:C3}{i:Nat}{o s:Int}
def Gp.word (h:Gp n g go ps i) (hp:ps[i]? = some (o,s)):riW n g go [] ps=if miW n go o≠"" then miW n go o else if o.toNat∈(ps.take i).map (·.1.toNat)∨¬ (g.getD o.toNat 0 < s/\s<=9) then ("bad rise" : VB) else riW n g go ((ps.take i).map (·.1.toNat)++[o.toNat]) (ps.drop (i+1)):=by
 have ip:=(geS hp).1;rw[← h.on,Zk ip,(geS hp).2];rfl
def Gp.step (h:Gp n g go ps i)(hp:ps[i]? = some (o,s)){j:Nat}(ej:o=j)(hj:j < n)(hg:j ∉ go)(hs:j ∉ (ps.take i).map (·.1.toNat))(h1:g.getD j 0 < s)(h9:s<=9):Gp n g go ps (i+1):=by
 have nx:ps.take (i+1)=ps.take i++[(o,s)]:=by rw[VD,hp];rfl
 have w:=h.word hp;rw[ej,oH hj,iNe hg,iNe (fun z=>z U),VL,iNe (fun z=>z.elim hs fun z=>z ⟨h1,h9⟩)] at w;refine⟨?_,?_,fun x hx=>?_⟩;{rw[w,nx,Vd,ej];rfl}
 ·rw[nx,Vd,abN];refine⟨h.nd,by simp,fun x hx y hy z=>hs ?_⟩;have hy':y=j:=by
   rw[ej] at hy;simpa using hy
  rw[← hy',← z];exact hx
 ·rw[nx] at hx;rcases List.mem_append.mp hx with z | z;{exact h.al x z};{rw[List.mem_singleton.mp z];exact⟨j,ej,hj,hg,h1,h9⟩}
end
inductive xN (CS:Addr)(x:XA)(vs:E6)(H:Hp)(Q:VK)(E:XK):Prop where
 | mk (st ra:Addr) (n co:Nat) (g:DC) (go:DD) (es:List Ent) (us:E6) (ps:C3) (_:vs=[.ref st,.ref ra]) (_:gf CS n H st g go es co) (_:g.length=n) (_:es.length<=40) (_:H ra=some (.lst us)) (_:RiI H us ps) (_:ps.length<=100) (_:(haW n g go es ps≠""->Th x (haW n g go es ps) H E)) (_:(haW n g go es ps = ""->∀ (st':Addr) (H':Hp),aH H H'->gf CS n H' st' (seI g ps) go es co->Q (.ref st') H'))
def tZ {CS:Addr} {x:XA} {t1:Tok} {k:Nat} (hk:4<=k) (F:Fun K "handed_in" "handed_in" lX f fd) (B:Bt mg) (S:xK K CS) (To:mg "MOST_STEP" = some (.int 9 t1))
  (Pf:Dx P w K mg base "check_there" 4 ZB (m8 CS x.nf x.go)) (PD:Df P w K mg base "is_number" 1 X9 jt) (Si:Df P w K mg base "owed_of" k Xt vp) (OZ:Dk2 P w K mg base "Stand" CS 1 VX (gD CS))
  (ST:Xc P w K mg base "BadRise" x.br "bad rise") (S1:Xc P w K mg base "NotDue" x.nd "not due") :
  aZ P w K mg base (XL P w) (k+1) f fd YU (xN CS x):=by
 refine zf F cZ fun H Q E hr h=>?_;obtain⟨st,ra,n,co,g,go,es,us,ps,rfl,hst,lg,l40,hra,hri,p100,hw,q⟩:=h
 refine⟨_,(aj (bR (aA aQ (pln K B.len_ (pv 1)) ao) (aB (dF ST hr U cV (hk:=(YL hk)))) aR)
 (aj (sT 2 cZ.nd (aW (r:=mq K) fL U B.list_ jF (a1 (pfd K 0))))
 (aj (sT 3 cZ.nd (bc cQ))
 (aj (cP PassesOwn.leaving U (dB (pv 1)) (d7 (K:=K) 2 U U (aV (pgN 4 cZ.nd) (aV (pgN 5 cZ.nd) dY))) (aj (aX (rB Pf hr bF (v2 0 4)))
 (aj (bR (PW.pt (jw (eQ (r:=rIn K false) dD (pv 4) (pv 3) U) (fH (dC (cj (aO PD hr (aq (pv 5) (aq (aK bD (pxL K (pv 2) (pv 4)) ao) (a1 (ql To)))))))))) (aB (dF ST hr U cV (hk:=(YL hk)))) aR)
 (aj (yp (pv 5) (Mr (pv 2) (pv 4) set_list))
 (aB (aX (oX VR Wb Wa cz (pv 3) (v1 4))))))))
 (aj (sT 6 cZ.nd (aW (r:=fX K) bz U B.tuple_ bH (v1 2)))
 (aj (cP PassesOwn.leaving U (dB (pv 3)) (pgN 4 cZ.nd) (aB (bR (aA jL (pxT K (pv 6) (pv 4)) (aO Si hr (aq (pfd K 0) (v2 4 6)))) (aB (dF S1 hr U cV (hk:=(YL hk)))) aR)))
 (sR (Eh OZ hr (aq (pv 6) (aq (pfd K 0) (aq (pfd K 0) (a1 (pfd K 0))))))))))))),?_⟩
 obtain⟨dx,ga,goa,sa,es0,hs,hga,hgoa,hsa,hes⟩:=id hst;have lus:=hri.length;refine bL (fun σ H1=>σ=[oR st,oR ra,none,none,none,none,none]/\H1=H/\ps≠[]) ?_ ?_
 ·intro N Rc;refine⟨O,ra,O,.inl (sqL hra),U,O,?_⟩;by_cases z:ps=[]
  ·rw[show decide (V.int ((us.length:Nat):Int)=V.int 0)=true from dcT (by rw[lus,z];rfl)];have e:haW n g go es ps = "bad rise":=by unfold haW;rw[iPo z]
   rw[e] at hw;have:=hw (by decide);unfold Th at this;rw[Qw] at this;exact cL this
  ·have p0:0 < ps.length:=List.length_pos_iff.mpr z;rw[show decide (V.int ((us.length:Nat):Int)=V.int 0)=false from dcF fun y=>by injection y with y;lia];exact bK (Rc _ _ ⟨U,U,z⟩)
 rintro σ H1 ⟨rfl,rfl,pne⟩;have eha:haW n g go es ps=if riW n g go [] ps≠"" then riW n g go [] ps else if ∃ x∈ps,mxD 0 (owL es x.1.toNat (seI g ps)) < x.2 then ("not due" : VB) else "":=by unfold haW;rw[iNe pne]
 rw[eha] at hw q;refine bL (fun σ F1=>∃ a1:Addr,σ=[oR st,oR ra,oR a1,none,none,none,none]/\aH H1 F1/\F1 a1=some (.lst (g.map V.int))/\H1 a1=none) ?_ ?_;{intro N Rc;exact⟨O,st,CS,dx,_,O,hs,S.cl,S.green,U,ga,O,.inr (sqT hga),fun a1 h1=>Rc _ _ ⟨a1,U,au h1 _,aa,h1⟩⟩};rintro σ F1 ⟨a1,rfl,gf1,ef1,h1⟩;refine bL (fun σ F2=>∃ a2:Addr,σ=[oR st,oR ra,oR a1,oR a2,none,none,none]/\aH F1 F2/\F2 a2=some (.lst [])/\F1 a2=none) ?_ ?_;{intro N Rc;exact⟨smN 0,fun a2 h2=>Rc _ _ ⟨a2,U,au h2 _,aa,h2⟩⟩};rintro σ F2 ⟨a2,rfl,gf2,ef2,h2⟩;have n12':a1≠a2:=fun z=>by rw[z,h2] at ef1;cases ef1
 have ef1':=gf2 _ _ ef1;have h2':H1 a2=none:=gf1.free h2;refine bL (fun σ H3=>∃ (u v:EW),σ=[oR st,oR ra,oR a1,oR a2,u,v,none]/\aH H1 H3/\H3 a1=some (.lst ((seI g ps).map V.int))/\H3 a2=some (.lst ((ps.map (·.1.toNat)).map vN))/\Gp n g go ps ps.length) ?_ ?_
 ·intro N Rc
  refine⟨O,ra,U,⟨_,sqL ((gf1.trans gf2) _ _ hra)⟩,d8 (K:=K) (a:=ra) (xs:=us) (fun i σ H3=>∃ (u v:EW),σ=[oR st,oR ra,oR a1,oR a2,u,v,none]/\aH H1 H3/\H3 a1=some (.lst ((seI g (ps.take i)).map V.int))/\H3 a2=some (.lst (((ps.take i).map (·.1.toNat)).map vN))/\Gp n g go ps i)
   ⟨_,O,gf1.trans gf2,ef1',ef2,.zero n g go ps⟩ (fun i σ H3 _ h=>by obtain⟨_,_,_,z,_⟩:=h;exact sqL (z _ _ hra)) ?_ ?_⟩
  ·rintro i y σ H3 hx ⟨u,v,rfl,sm,e1,e2,ok⟩;obtain⟨e,o,sp,rfl,hp,hent⟩:=hri.get hx;have ip:=(geS hp).1;have nx:ps.take (i+1)=ps.take i++[(o,sp)]:=by rw[VD,hp];rfl
   have wd:=ok.word hp;refine⟨e,O,sqT (sm _ _ hent),U,_,O,M,?_⟩;refine bL (fun σ H4=>∃ j:Nat,o=j/\j < n/\j ∉ go/\σ=[oR st,oR ra,oR a1,oR a2,some (vN j),oI sp,none]/\H4=H3) ?_ ?_;{intro N' Rc';refine⟨G,oE (Q:=fun _ H1=>N' [some (.ref st),some (.ref ra),some (.ref a1),some (.ref a2),some (.int o),some (.int sp),none] H1) (hst.ks (ksS sm)) lg (fun z=>?_) fun j ej hj hg=>Rc' _ _ ⟨j,ej,hj,hg,by rw[ej];rfl,U⟩⟩;rw[iPo z] at wd;rw[iPo (by rw[wd];exact z),wd] at hw;exact (hw z).mono sm};rintro σ H4 ⟨j,rfl,hj,hg,rfl,rfl⟩;rw[oH hj,iNe hg,iNe (fun z=>z U),VL] at wd;have hol:j < (seI g (ps.take i)).length:=by rw[nU];lia
   have bad:(j∈(ps.take i).map (·.1.toNat)∨¬ (g.getD j 0 < sp/\sp<=9))->thrown x.br "bad rise" H4 E:=fun z=>by
    rw[iPo z] at wd;rw[iPo (by rw[wd];decide),wd] at hw;have:=hw (by decide);unfold Th at this;rw[Qw] at this;exact this.mono sm
   refine bL (fun σ H5=>σ=[oR st,oR ra,oR a1,oR a2,some (vN j),oI sp,none]/\H5=H4/\j ∉ (ps.take i).map (·.1.toNat)/\g.getD j 0 < sp/\sp<=9) ?_ ?_
   ·intro N' Rc';refine⟨G,a2,O,.inl (sqL e2),U,jA _,O,?_⟩;rw[show vN j=V.int (j:Int) from U,j0];by_cases z:j∈(ps.take i).map (·.1.toNat);{rw[iNe (show ¬ false=true from Ve),dcT z];exact cL (bad (.inl z))}
    ·rw[iNe (show ¬ false=true from Ve),dcF z];have ge:(seI g (ps.take i)).getD j 0=g.getD j 0:=Gf fun y hy e=>z (by rw[← e];exact abo hy);have gei:(seI g (ps.take i)).getD j 0=(seI g (ps.take i))[j]:=by rw[Vz,Vg hol];rfl
     refine bK ?_;refine⟨G,O,a1,Y,sqL e1,jH hol,M,.int sp,_,9,U,.int _,O,?_⟩
     rw[show isNum (.int sp) ((seI g (ps.take i))[j]+1) 9=decide (g.getD j 0 < sp/\sp<=9) by
      show (decide ((seI g (ps.take i))[j]+1<=sp) && decide (sp<=9))=_;rw[← gei,ge,ack]
      rfl]
     by_cases y:g.getD j 0 < sp/\sp<=9;{rw[dcT y];exact bK (Rc' _ _ ⟨U,U,z,y⟩)};{rw[dcF y];exact cL (bad (.inr y))}
   rintro σ H5 ⟨rfl,rfl,nin,h1',h9'⟩;refine⟨G,O,a1,_,_,j,U,U,e1,?_,?_⟩;{unfold ixN;rw[iPo (by lia),iPo (by rw[U7];lia)];rfl}
   ·generalize eU:upd _ a1 _=H6;have e16:H6 a1=some (.lst ((seI g (ps.take (i+1))).map V.int)):=by
     rw[← eU,aa,nx,Bl,List.map_set];rfl
    have e26:H6 a2=some (.lst (((ps.take i).map (·.1.toNat)).map vN)):=by
     rw[← eU,aF n12'.symm];exact e2
    have s6:aH H1 H6:=by
     rw[← eU];exact aM sm h1 _
    refine⟨O,.inl ⟨U,_,sqL e26⟩,O,a2,M,e26,aJ (by rw[U7,U7,Vs];lia),_,O,aM s6 h2' _,?_,?_,ok.step hp U hj hg nin h1' h9'⟩;{rw[aF n12'];exact e16};{rw[aa,nx,Vd,Vd];rfl}
  ·rintro σ H3 ⟨u,v,rfl,sm,e1,e2,ok⟩;rw[lus] at ok;rw[lus,Vk] at e1 e2;exact Rc _ _ ⟨u,v,U,sm,e1,e2,ok⟩
 rintro σ H3 ⟨u,v,rfl,sm,e1,e2,ok⟩;have ri:riW n g go [] ps = "":=by
  rw[← ok.on,ab4];rfl
 have al:=ok.al;have ndu:=ok.nd;rw[Vk] at al ndu;rw[iNe (by rw[ri];decide)] at hw q;refine bL (fun σ H4=>∃ gr:Addr,σ=[oR st,oR ra,oR a1,oR a2,u,v,oR gr]/\aH H3 H4/\H4 gr=some (.tup ((seI g ps).map V.int))) ?_ ?_;{intro N Rc;refine⟨O,a1,O,.inl ⟨sqL e1,fun l hl=>Rc _ _ ⟨l,U,au hl _,?_⟩⟩⟩;rw[aa]};rintro σ H4 ⟨gr,rfl,s4,egr⟩;have sm4:=sm.trans s4;have sl:(seI g ps).length=n:=by rw[nU];exact lg
 refine bL (fun σ H5=>∃ u:EW,σ=[oR st,oR ra,oR a1,oR a2,u,v,oR gr]/\aH H4 H5/\∀ x∈ps,¬ mxD 0 (owL es x.1.toNat (seI g ps)) < x.2) ?_ ?_
 ·intro N Rc
  refine⟨O,a2,U,⟨_,sqL (s4 _ _ e2)⟩,d8 (K:=K) (a:=a2) (xs:=(ps.map (·.1.toNat)).map vN) (fun i σ H5=>∃ u:EW,σ=[oR st,oR ra,oR a1,oR a2,u,v,oR gr]/\aH H4 H5/\∀ x∈ps.take i,¬ mxD 0 (owL es x.1.toNat (seI g ps)) < x.2)
   ⟨O,aH.refl _,fun x hx=>by rw[V6] at hx;cases hx⟩ (fun i σ H5 _ h=>by obtain⟨_,_,z,_⟩:=h;exact sqL (z _ _ (s4 _ _ e2))) ?_ ?_⟩
  ·rintro i y σ H5 hx ⟨u,rfl,s5,hno⟩;rw[Vr,Vr] at hx;obtain⟨z,hz,rfl⟩:∃ z,ps[i]? = some z/\y=vN z.1.toNat:=by
    cases w:ps[i]? with
    | none=>rw[w] at hx;cases hx
    | some z=>rw[w] at hx;cases hx;exact⟨z,U,U⟩
   have hm:=Vy hz;obtain⟨j,ej,hj,_⟩:=al z hm;have ejn:z.1.toNat=j:=by lia
   have hol:z.1.toNat < (seI g ps).length:=by rw[sl,ejn];exact hj
   have gei:(seI g ps)[z.1.toNat]=z.2:=by
    have h1:=PK ndu hm (by rw[lg,ejn];exact hj);rw[Vz,Vg hol] at h1;exact h1
   have sm5:=sm4.trans s5;refine⟨G,gr,Y,sqT (s5 _ _ egr),jH hol,O,st,CS,dx,_,O,sm5 _ _ hs,S.cl,S.standing,U,G,sa,gr,z.1.toNat,n,es0,es,O,sm5 _ _ hsa,hes.aL fun a xs q=>sm5 a _ q,by lia,s5 _ _ egr,sl,fun H6 s6=>?_⟩;refine⟨M,O,?_⟩;rw[gei];by_cases y:mxD 0 (owL es z.1.toNat (seI g ps)) < z.2;{rw[dcT y];rw[iPo ⟨z,hm,y⟩] at hw;have:=hw (by decide);unfold Th at this;rw[RQ] at this;exact cL (this.mono (sm5.trans s6))}
   ·rw[dcF y];refine bK ⟨O,s5.trans s6,fun x hx=>?_⟩;rw[VD,hz] at hx;rcases List.mem_append.mp hx with w | w;{exact hno x w};{rw[List.mem_singleton.mp w];exact y}
  ·rintro σ H5 ⟨u,rfl,s5,hno⟩;rw[U7,U7,Vk] at hno;exact Rc _ _ ⟨u,U,s5,hno⟩
 rintro σ H5 ⟨u,rfl,s5,hno⟩;rw[iNe fun⟨x,hx,z⟩=>hno x hx z] at q;have sm5:=sm4.trans s5;have hs5:=sm5 _ _ hs;refine⟨G,st,CS,dx,_,O,hs5,S.cl,S.gone,U,O,st,CS,dx,_,O,hs5,S.cl,S.standing,U,O,st,CS,dx,_,O,hs5,S.cl,S.coming,U,fun y dx3 hx hdx hne=>?_⟩;refine jY hx hdx hne fun H6 s6 e6=>⟨U,?_⟩;have s16:=sm5.trans s6;exact q U y H6 s16 ⟨dx3,gr,goa,sa,es0,e6,s6 _ _ (s5 _ _ egr),s16 _ _ hgoa,s16 _ _ hsa,hes.aL fun a xs q=>s16 a _ q⟩
inductive FZ (CS CB:Addr)(x:XA)(vs:E6)(H:Hp)(Q:VK)(E:XK):Prop where
 | mk (b be ah dx nw ra:Addr) (n co:Nat) (xs zs us:E6) (g:DC) (go:DD) (es:List Ent) (ps:C3) (_:vs=[.ref b,.ref ra]) (_:Bn CS CB n H b be ah dx nw xs zs g go es co) (_:xs.length<=900) (_:H ra=some (.lst us)) (_:RiI H us ps) (_:ps.length<=100) (_:(haW n g go es ps≠""->Th x (haW n g go es ps) H E)) (_:(haW n g go es ps = ""->∀ (H':Hp) (nw' ah':Addr),But b be H H'->H ah'=none->Bn CS CB n H' b be ah' dx nw' (xs++[.ref nw]) [] (seI g ps) go es co->Q .non H'))
def tY {CS CB:Addr} {x:XA} {k:Nat} (hk:2<=k) (ne:CB≠CS) (F:Fun K "hand" "Boon.hand" mL f fd) (B:Bt mg) (T:vX K CB)
  (Pp:Dx P w K mg base "handed_in" k YU (xN CS x)) (OW:Dm2 P w K mg base CB "go_on" 1 YY (jX CB)):aZ P w K mg base (XL P w) (k+1) f fd Zl (FZ CS CB x):=by
 refine zf F wH fun H Q E hr h=>?_;obtain⟨b,be,ah,dx,nw,ra,n,co,xs,zs,us,g,go,es,ps,rfl,hB,l9,hra,hri,p100,hw,q⟩:=h;refine⟨_,(aB (aX (Ed OW hr (pv 0) (a1 (rB Pp hr bF (aq (pfd K 0) (v1 1))))))),O,b,dx,O,hB.hb,U,O,b,CB,dx,_,O,hB.hb,T.cl,T.now,U,O,nw,ra,n,co,g,go,es,us,ps,U,hB.st,hB.lg,hB.l40,hra,hri,p100,hw,fun z st' H1 s1 hst1=>?_⟩;exact Ep hB ne l9 s1 hst1 (by rw[nU];exact hB.lg) hB.n12 hB.l40 hB.gn hB.gl fun H' ah' bt fa hB'=>q z H' _ ah' bt fa hB'
abbrev jR:Stmt:=top 40
abbrev gZ:Stmt:=top 42
abbrev jo:Stmt:=inClass (top 44) 5
abbrev fO:Stmt:=inClass (top 44) 6
def fJ:aD ["stand","number","found","one","pledge"] YO (az jR):=cJ
def rn:aD XB XB (az gZ):=cJ
def eE:aD ["self","number","pledge","now","one","changed"] XE (az jo):=cJ
def dG:aD ["self","number","now","one","left"] YV (az fO):=cJ
section
variable {x:XA}
def Q6:x.of "no pledge" = x.np:=by unfold XA.of;rw[iNe (by decide),iNe (by decide),iNe (by decide),iNe (by decide),iPo U]
def S5:x.of "bound" = x.bd:=by unfold XA.of;rw[iNe (by decide),iNe (by decide),iNe (by decide),iNe (by decide),iNe (by decide),iPo U]
end
def fnE (es:List Ent)(k:Int):Option Ent:=es.find? fun e=>decide ((e.1:Int)=k)
def chE (es:List Ent)(k:Int)(pl:Pl):List Ent:=es.map fun e=>if (e.1:Int)=k then (e.1,e.2.1,pl) else e
def wiE (es:List Ent)(k:Int):List Ent:=es.filter fun e=>decide ((e.1:Int)≠k)
def bdW (g:DC)(es:List Ent)(one:Nat):VB:=if mxD 0 (owL es one g) < g.getD one 0 then "bound" else ""
def chW (g:DC)(es:List Ent)(k:Int)(pl:Pl):VB:=match fnE es k with
 | none=>"no pledge"
 | some e=>if ∃ x∈pl,nn e.2.1 x.2=false then "bad pledge" else bdW g (chE es k pl) e.2.1
def wiW (g:DC)(es:List Ent)(k:Int):VB:=match fnE es k with
 | none=>"no pledge"
 | some e=>bdW g (wiE es k) e.2.1
def gq {es:List Ent}{k:Int}{e:Ent}(h:fnE es k=some e):e∈es/\(e.1:Int)=k:=⟨List.mem_of_find?_eq_some h,by simpa using List.find?_some h⟩
def uZ {es:List Ent}{k:Int}(h:fnE es k=none):∀ e∈es,(e.1:Int)≠k:=fun e he=>by simpa using List.find?_eq_none.mp h e he
def Kd {es:List Ent}{i:Nat}{e:Ent}{k:Int}(he:es[i]? = some e)(h:fnE (es.take i) k=none):fnE (es.take (i+1)) k=if (e.1:Int)=k then some e else none:=by
 unfold fnE at h ⊢;rw[VD,he,List.find?_append,h,Option.none_or];show List.find? _ [e]=_;by_cases z:(e.1:Int)=k;{rw[iPo z,List.find?_cons_of_pos (by exact dcT z)]};{rw[iNe z,List.find?_cons_of_neg (by rw[dcF z];exact Ve)];rfl}
def Jm {es:List Ent}{i:Nat}{e:Ent}{k:Int}(h:fnE (es.take i) k=some e):fnE es k=some e:=by
 unfold fnE at h ⊢;rw[← List.take_append_drop i es,List.find?_append,h];rfl
inductive nT (CS:Addr)(x:XA)(vs:E6)(H:Hp)(Q:VK)(E:XK):Prop where
 | mk (st:Addr) (num:Int) (n co:Nat) (g:DC) (go:DD) (es:List Ent) (_:vs=[.ref st,.int num]) (_:gf CS n H st g go es co) (_:(∀ e∈es,e.1 < co)) (_:(fnE es num=none->thrown x.np "no pledge" H E)) (_:∀ e,fnE es num=some e->Q (vN e.2.1) H)
def rD {CS:Addr} {x:XA} (F:Fun K "pledger_of" "pledger_of" jR f fd) (B:Bt mg) (S:xK K CS) (PD:Df P w K mg base "is_number" 1 X9 jt) (SZ:Xc P w K mg base "NoPledge" x.np "no pledge") :
  aZ P w K mg base (XL P w) 4 f fd YO (nT CS x):=by
 refine zf F fJ fun H Q E hr h=>?_;obtain⟨st,num,n,co,g,go,es,rfl,⟨dx,ga,goa,sa,us,hs,hga,hgo,hsa,hes⟩,hco,hN,q⟩:=h
 refine⟨_,(aj (bR (cj (aO PD hr (aq (pv 1) (aq ao (a1 (aK eO (pfd K 0) ao)))))) (aB (Qc (cP V4 U (cU (pfd K 0)) (d7 (K:=K) 3 U U (aV (pgN 2 fJ.nd) (aV (pgN 3 fJ.nd) (aV (pgN 4 fJ.nd) dY)))) (aB (ifR (aA aQ (pv 2) (pv 1)) (pv 3)))))) aR)
 (aB (dF SZ hr U cV))),?_⟩
 refine gm (fun σ H1=>H1=H/\fnE es num=none) (fun σ H1 z=>by obtain⟨rfl,z⟩:=z;exact hN z) fun N Rc=>?_;refine⟨G,st,CS,dx,_,O,hs,S.cl,S.coming,U,M,.int num,0,O,.int _,O,?_⟩;have ei:isNum (.int num) 0 ((co:Int) - 1)=decide (0<=num/\num < co):=by
  show (decide ((0:Int)<=num) && decide (num<=(co:Int) - 1))=_;rw[← ack];exact decide_eq_decide.mpr ⟨fun h=>⟨h.1,by lia⟩,fun h=>⟨h.1,by lia⟩⟩
 rw[ei];by_cases z:0<=num/\num < co
 ·rw[dcT z];refine cL ?_
  refine⟨O,st,CS,dx,_,O,hs,S.cl,S.standing,U,sa,U,⟨_,sqT hsa⟩,dR (K:=K) (a:=sa) (xs:=us) (fun i σ H2=>(∃ u v w,σ=[oR st,oI num,u,v,w])/\H2=H/\fnE (es.take i) num=none) ⟨⟨_,_,O⟩,U,U⟩
   (fun i σ H2 _ h=>by rw[h.2.1];exact sqT hsa) ?_ ?_⟩
  ·rintro i y σ H2 hx ⟨⟨u,v,w,rfl⟩,rfl,hno⟩;obtain⟨e,p,nu,o2,pl2,rfl,he,hent,hpr⟩:=hes.get hx;have nx:=Kd he hno;refine⟨e,O,sqT hent,U,_,O,_,O,M,G,U,O,?_⟩;by_cases y:(nu:Int)=num;{rw[dcT (show vN nu=V.int num by rw[← y];rfl)];rw[iPo y] at nx;exact cL ⟨O,q _ (Jm nx)⟩};{rw[dcF (show ¬ vN nu=V.int num from fun t=>y (by injection t))];rw[iNe y] at nx;exact bK ⟨⟨_,_,O⟩,U,nx⟩}
  ·rintro σ H2 ⟨_,rfl,hno⟩;rw[hes.length,Vk] at hno;exact Rc _ _ ⟨U,hno⟩
 ·rw[dcF z];refine bK (Rc _ _ ⟨U,?_⟩);unfold fnE;refine List.find?_eq_none.mpr fun e he=>?_;have:=hco e he;simp;lia
inductive yX (CS:Addr)(x:XA)(vs:E6)(H:Hp)(Q:VK)(E:XK):Prop where
 | mk (st sa:Addr) (one n co:Nat) (g:DC) (go:DD) (es es':List Ent) (us':E6) (_:vs=[.ref st,vN one,.ref sa]) (_:gf CS n H st g go es co) (_:g.length=n) (_:one < n) (_:H sa=some (.tup us')) (_:bZ n H us' es') (_:es'.length<=100) (_:(bdW g es' one≠""->Th x (bdW g es' one) H E)) (_:(bdW g es' one = ""->∀ (st':Addr) (H':Hp),aH H H'->gf CS n H' st' g go es' co->Q (.ref st') H'))
def iM {CS:Addr} {x:XA} {k:Nat} (hk:4<=k) (F:Fun K "pledged_anew" "pledged_anew" gZ f fd) (B:Bt mg) (S:xK K CS) (Si:Df P w K mg base "owed_of" k Xt vp)
  (OZ:Dk2 P w K mg base "Stand" CS 1 VX (gD CS)) (SU:Xc P w K mg base "Bound" x.bd "bound"):aZ P w K mg base (XL P w) (k+1) f fd XB (yX CS x):=by
 refine zf F rn fun H Q E hr h=>?_;obtain⟨st,sa,one,n,co,g,go,es,es',us',rfl,⟨dx,ga,goa,sa0,us,hs,hga,hgo,hsa0,hes⟩,lg,hone,hsa,hes',l100,hw,q⟩:=h
 refine⟨_,(aj (bR (aA jL (pxT K (pfd K 0) (pv 1)) (aO Si hr (aq (pv 2) (aq (pv 1) (a1 (pfd K 0)))))) (aB (dF SU hr U cV (hk:=(YL hk)))) aR)
 (sR (Eh OZ hr (aq (pfd K 0) (aq (pfd K 0) (aq (pv 2) (a1 (pfd K 0)))))))),?_⟩
 have h1:one < g.length:=by lia
 have gei:g.getD one 0=g[one]:=by rw[Vz,Vg h1];rfl
 refine bL (fun σ H1=>σ=[oR st,some (vN one),oR sa]/\aH H H1/\bdW g es' one = "") ?_ ?_
 ·intro N Rc;refine⟨O,st,CS,dx,_,O,hs,S.cl,S.green,U,O,ga,Y,sqT hga,jH h1,G,O,st,CS,dx,_,O,hs,S.cl,S.green,U,sa,ga,one,n,us',es',g,U,hsa,hes',l100,hga,lg,fun H1 s1=>⟨M,O,?_⟩⟩;by_cases z:mxD 0 (owL es' one g) < g[one]
  ·rw[dcT z];have e:bdW g es' one = "bound":=by unfold bdW;rw[iPo (by rw[gei];exact z)]
   rw[e] at hw;have:=hw (by decide);unfold Th at this;rw[S5] at this;exact cL (this.mono s1)
  ·rw[dcF z];exact bK (Rc _ _ ⟨U,s1,by unfold bdW;rw[iNe (by rw[gei];exact z)]⟩)
 rintro σ H1 ⟨rfl,s1,hbd⟩;have hs1:=s1 _ _ hs;refine⟨O,st,CS,dx,_,O,hs1,S.cl,S.green,U,O,st,CS,dx,_,O,hs1,S.cl,S.gone,U,G,st,CS,dx,_,O,hs1,S.cl,S.coming,U,fun y dx3 hx hdx hne=>?_⟩;refine jY hx hdx hne fun H2 s2 e2=>⟨U,?_⟩;have s12:=s1.trans s2;exact q hbd y H2 s12 ⟨dx3,ga,goa,sa,us',e2,s12 _ _ hga,s12 _ _ hgo,s12 _ _ hsa,hes'.aL fun a xs q=>s12 a _ q⟩
inductive rm (CS CB:Addr)(x:XA)(vs:E6)(H:Hp)(Q:VK)(E:XK):Prop where
 | mk (b be ah dx nw:Addr) (num:Int) (n co:Nat) (xs zs:E6) (g:DC) (go:DD) (es:List Ent) (_:vs=[.ref b,.int num]) (_:Bn CS CB n H b be ah dx nw xs zs g go es co) (_:(∀ e∈es,e.1 < co/\e.2.1 < n)) (_:xs.length<=900) (_:(wiW g es num≠""->Th x (wiW g es num) H E)) (_:(wiW g es num = ""->∀ (H':Hp) (nw' ah':Addr),But b be H H'->H ah'=none->Bn CS CB n H' b be ah' dx nw' (xs++[.ref nw]) [] g go (wiE es num) co->Q .non H'))
def mV {CS CB:Addr} {x:XA} {k:Nat} (hk:4<=k) (ne:CB≠CS) (F:Fun K "withdraw" "Boon.withdraw" fO f fd) (B:Bt mg) (S:xK K CS) (T:vX K CB)
  (Sl:Dx P w K mg base "pledger_of" 4 YO (nT CS x)) (Sk:Dx P w K mg base "pledged_anew" k XB (yX CS x)) (OW:Dm2 P w K mg base CB "go_on" 1 YY (jX CB)) :
  aZ P w K mg base (XL P w) (k+1) f fd YV (rm CS CB x):=by
 refine zf F dG fun H Q E hr h=>?_;obtain⟨b,be,ah,dx,nw,num,n,co,xs,zs,g,go,es,rfl,hB,hlt,l9,hw,q⟩:=h
 refine⟨_,(aj (sT 2 dG.nd (pfd K 0))
 (aj (sT 3 dG.nd (rB Sl hr bF (v2 2 1)))
 (aj (sT 4 dG.nd (aW (r:=fX K) bz U B.tuple_ bH (a1 (bU (L:=["entry"]) (F:=["number"]) (cap:=[1]) U (bj U U (by kernel_rfl)) (cU (pfd K 2)) (fun _ _ _ _ _=>(pgC 0)) (fun _ _ _ _ _=>(jl (aA vm (pxT K (pv 0) ao) (pv 1)))) (fun _ _ _ _ _=>(pv 0))))))
 (aB (aX (Ed OW hr (pv 0) (a1 (rB Sk hr bF (aq (pv 2) (v2 3 4)))))))))),?_⟩
 have hb:=hB.hb;have l40:=hB.l40;obtain⟨dx2,ga,goa,sa,us,hs,hga,hgoa,hsa,hes⟩:=id hB.st;have les:=hes.length;refine bL (fun σ H1=>σ=[oR b,oI num,oR nw,none,none]/\H1=H) ?_ ?_;{intro N Rc;exact⟨O,b,CB,dx,_,O,hb,T.cl,T.now,U,Rc _ _ ⟨U,U⟩⟩};rintro σ H0 ⟨rfl,rfl⟩;refine bL (fun σ H1=>∃ e:Ent,fnE es num=some e/\σ=[oR b,oI num,oR nw,some (vN e.2.1),none]/\H1=H0) ?_ ?_
 ·intro N Rc;refine⟨G,nw,num,n,co,g,go,es,U,hB.st,fun e he=>(hlt e he).1,fun z=>?_,fun e z=>Rc _ _ ⟨e,z,U,U⟩⟩;have e:wiW g es num = "no pledge":=by unfold wiW;rw[z]
  rw[e] at hw;have:=hw (by decide);unfold Th at this;rw[Q6] at this;exact this
 rintro σ H2 ⟨e0,hf,rfl,rfl⟩;obtain⟨m0,k0⟩:=gq hf;have ew:wiW g es num=bdW g (wiE es num) e0.2.1:=by unfold wiW;rw[hf]
 rw[ew] at hw q;refine bL (fun σ H3=>∃ (ch:Addr) (us':E6),σ=[oR b,oI num,oR nw,some (vN e0.2.1),oR ch]/\aH H2 H3/\H3 ch=some (.tup us')/\bZ n H3 us' (wiE es num)) ?_ ?_
 ·intro N Rc
  refine⟨O,nw,CS,dx2,_,O,hs,S.cl,S.standing,U,sa,U,⟨_,sqT hsa⟩,fun D hD=>cR (K:=K) (a:=sa) (xs:=us) (fun i zs σ' H3=>(∃ u,σ'=[u,oI num])/\aH H2 H3/\H3 D=some (.lst zs)/\bZ n H3 zs (wiE (es.take i) num))
   ⟨⟨O⟩,au hD _,aa,by rw[V6];exact .nil⟩ (fun i zs σ' H3 _ h=>⟨sqT (h.2.1 _ _ hsa),h.2.2.1⟩) ?_ ?_⟩
  ·rintro i zs y σ' H3 hx ⟨⟨u,rfl⟩,sm,eD,ez⟩;obtain⟨e,p2,nu,o2,pl2,rfl,he,hent,hpr⟩:=hes.get hx;have lz:=ez.length;have lf:=Wq (fun e:Ent=>decide ((e.1:Int)≠num)) (es.take i);rw[Vs] at lf;have lz':(wiE (es.take i) num).length<=min i es.length:=lf;have nx:wiE (es.take (i+1)) num=wiE (es.take i) num++if decide ((nu:Int)≠num)=true then [(nu,o2,pl2)] else []:=bZ.RG (n:=n) (p:=fun e:Ent=>decide ((e.1:Int)≠num)) he
   refine⟨O,e,Y,sqT (sm _ _ hent),U,N,?_⟩;by_cases z:(nu:Int)=num
   ·rw[show decide (vN nu=V.int num)=true from dcT (by rw[← z];rfl)];show if (!true)=true then _ else _
    refine bK ⟨⟨O⟩,sm,eD,?_⟩;rw[nx,iNe (by rw[dcF (not_not_intro z)];exact Ve),WR];exact ez
   ·rw[show decide (vN nu=V.int num)=false from dcF fun y=>z (by injection y)];show if (!false)=true then _ else _
    have tk:=cM (zs':=zs++[.ref e]) eD;refine cL ⟨O,eD,aJ (by lia),⟨O⟩,aM sm hD _,aa,?_⟩;rw[nx,iPo (dcT z)];exact bZ.snoc (tk _ _ (sm _ _ hent)) ((hpr.aL fun a ys q=>sm a _ q).aL tk) (ez.aL tk)
  ·rintro zs σ' H3 ⟨_,sm,eD,ez⟩;rw[les,Vk] at ez;refine⟨D,O,.inl ⟨sqL eD,fun a ha=>?_⟩⟩;have sn:=au ha (.tup zs);exact Rc _ _ ⟨a,zs,U,sm.trans sn,aa,ez.aL fun a ys q=>sn a _ q⟩
 rintro σ H3 ⟨ch,us',rfl,s3,ech,ees⟩;have lw:=Wq (fun e:Ent=>decide ((e.1:Int)≠num)) es;have lw':(wiE es num).length<=es.length:=lw;refine⟨O,b,dx,O,s3 _ _ hb,U,G,O,nw,ch,e0.2.1,n,co,g,go,es,_,us',U,hB.st.ks (ksS s3),hB.lg,(hlt e0 m0).2,ech,ees,by lia,fun z=>(hw z).mono s3,fun z st' H4 s4 hst4=>?_⟩;exact Ep hB ne l9 (s3.trans s4) hst4 hB.lg hB.n12 (by lia) hB.gn hB.gl fun H' ah' bt fa hB'=>q z H' _ ah' bt fa hB'
def Gw {es:List Ent}(nd:(es.map (·.1)).Nodup){e e':Ent}(h:e∈es)(h':e'∈es)(z:e.1=e'.1):e=e':=by
 obtain⟨i,hi,rfl⟩:=Zo h;obtain⟨j,hj,rfl⟩:=Zo h';have e1:(es.map (·.1))[i]'(by rw[U7];exact hi)=(es.map (·.1))[j]'(by rw[U7];exact hj):=by rw[aaH,aaH,z]
 have:=(ab3 nd).mp e1;subst this;rfl
inductive wB (CS CB:Addr)(x:XA)(vs:E6)(H:Hp)(Q:VK)(E:XK):Prop where
 | mk (b be ah dx nw p:Addr) (num:Int) (n co:Nat) (xs zs:E6) (g:DC) (go:DD) (es:List Ent) (pl:Pl) (_:vs=[.ref b,.int num,.ref p]) (_:Bn CS CB n H b be ah dx nw xs zs g go es co) (_:(∀ e∈es,e.1 < co/\e.2.1 < n)) (_:(es.map (·.1)).Nodup) (_:j9 n H p pl) (_:xs.length<=900) (_:(chW g es num pl≠""->Th x (chW g es num pl) H E)) (_:(chW g es num pl = ""->∀ (H':Hp) (nw' ah':Addr),But b be H H'->H ah'=none->Bn CS CB n H' b be ah' dx nw' (xs++[.ref nw]) [] g go (chE es num pl) co->Q .non H'))
def pY {CS CB:Addr} {x:XA} {k:Nat} (hk:4<=k) (ne:CB≠CS) (F:Fun K "change" "Boon.change" jo f fd) (B:Bt mg) (S:xK K CS) (T:vX K CB)
  (Sl:Dx P w K mg base "pledger_of" 4 YO (nT CS x)) (Pe:Dx P w K mg base "check_pledge" k XZ (zJ CS x.bp)) (Sk:Dx P w K mg base "pledged_anew" k XB (yX CS x)) (OW:Dm2 P w K mg base CB "go_on" 1 YY (jX CB)) :
  aZ P w K mg base (XL P w) (k+1) f fd XE (wB CS CB x):=by
 refine zf F eE fun H Q E hr h=>?_;obtain⟨b,be,ah,dx,nw,p,num,n,co,xs,zs,g,go,es,pl,rfl,hB,hlt,nd,hp,l9,hw,q⟩:=h
 refine⟨_,(aj (sT 3 eE.nd (pfd K 0))
 (aj (sTc 4 eE.nd (rB Sl hr bF (v2 3 1)))
 (aj (aX (rB Pe hr bF (aq (pv 3) (v2 4 2))))
 (aj (sT 5 eE.nd (aW (r:=fX K) bz U B.tuple_ bH (a1 (bU (L:=["entry"]) (F:=["number","one","pledge"]) (cap:=[1,4,2]) U (bj U U (by kernel_rfl)) (cU (pfd K 3)) (fun _ _ _ _ _=>(pgC 0)) (fun _ _ _ _ _=>cI) (fun _ _ _ _ _=>(jj (aA aQ (pxT K (pv 0) ao) (pv 1)) (aP (aq (pv 1) (v2 2 3))) (pv 0)))))))
 (aB (aX (Ed OW hr (pv 0) (a1 (rB Sk hr bF (aq (pv 3) (v2 4 5))))))))))),?_⟩
 have hb:=hB.hb;have l40:=hB.l40;refine bL (fun σ H1=>σ=[oR b,oI num,oR p,oR nw,none,none]/\H1=H) ?_ ?_;{intro N Rc;exact⟨O,b,CB,dx,_,O,hb,T.cl,T.now,U,Rc _ _ ⟨U,U⟩⟩};rintro σ H0 ⟨rfl,rfl⟩;refine bL (fun σ H1=>∃ e:Ent,fnE es num=some e/\σ=[oR b,oI num,oR p,oR nw,some (vN e.2.1),none]/\H1=H0) ?_ ?_
 ·intro N Rc;refine⟨G,nw,num,n,co,g,go,es,U,hB.st,fun e he=>(hlt e he).1,fun z=>?_,fun e z=>Rc _ _ ⟨e,z,U,U⟩⟩;have e:chW g es num pl = "no pledge":=by unfold chW;rw[z]
  rw[e] at hw;have:=hw (by decide);unfold Th at this;rw[Q6] at this;exact this
 rintro σ H2 ⟨e0,hf,rfl,rfl⟩;obtain⟨m0,k0⟩:=gq hf;have n12:=hB.n12;have o0:=(hlt e0 m0).2;have ew:chW g es num pl=if ∃ x∈pl,nn e0.2.1 x.2=false then ("bad pledge" : VB) else bdW g (chE es num pl) e0.2.1:=by unfold chW;rw[hf]
 rw[ew] at hw q;refine bL (fun σ H3=>σ=[oR b,oI num,oR p,oR nw,some (vN e0.2.1),none]/\aH H2 H3/\∀ x∈pl,nn e0.2.1 x.2=true) ?_ ?_;{intro N Rc;refine⟨G,O,nw,p,e0.2.1,n,co,g,go,es,pl,U,hB.st,hB.lg,by lia,n12,hp,fun z=>?_,fun hn H3 s3=>Rc _ _ ⟨U,s3,hn⟩⟩;rw[iPo z] at hw;have:=hw (by decide);unfold Th at this;rw[Pu] at this;exact this};rintro σ H3 ⟨rfl,s3,hn⟩;rw[iNe (fun⟨y,hy,z⟩=>by rw[hn y hy] at z;cases z)] at hw q;have hB3:=hB.same s3;have hp3:=hp.mono s3;obtain⟨dx2,ga,goa,sa,us,hs,hga,hgoa,hsa,hes⟩:=id hB3.st;have les:=hes.length;refine bL (fun σ H4=>∃ (ch:Addr) (us':E6),σ=[oR b,oI num,oR p,oR nw,some (vN e0.2.1),oR ch]/\aH H3 H4/\H4 ch=some (.tup us')/\bZ n H4 us' (chE es num pl)) ?_ ?_
 ·intro N Rc
  refine⟨O,nw,CS,dx2,_,O,hs,S.cl,S.standing,U,sa,U,⟨_,sqT hsa⟩,fun D hD=>cR (K:=K) (a:=sa) (xs:=us) (fun i zs σ' H4=>(∃ u,σ'=[u,oI num,some (vN e0.2.1),oR p])/\aH H3 H4/\H4 D=some (.lst zs)/\bZ n H4 zs (chE (es.take i) num pl))
   ⟨⟨O⟩,au hD _,aa,by rw[V6];exact .nil⟩ (fun i zs σ' H4 _ h=>⟨sqT (h.2.1 _ _ hsa),h.2.2.1⟩) ?_ ?_⟩
  ·rintro i zs y σ' H4 hx ⟨⟨u,rfl⟩,sm,eD,ez⟩;obtain⟨e,p2,nu,o2,pl2,rfl,he,hent,hpr⟩:=hes.get hx;have lz:=ez.length;have il:=(geS he).1;unfold chE at lz;rw[U7,Vs] at lz;have nx:∀ y:Ent,(if (nu:Int)=num then (nu,o2,pl) else (nu,o2,pl2))=y->chE (es.take (i+1)) num pl=chE (es.take i) num pl++[y]:=fun y hy=>by
    rw[VD,he];unfold chE;rw[Vd,← hy];rfl
   refine gT ?_;refine⟨O,e,Y,sqT (sm _ _ hent),U,N,?_⟩;by_cases z:(nu:Int)=num
   ·rw[dcT (show vN nu=V.int num by rw[← z];rfl)];have eo:(nu,o2,pl2)=e0:=Gw nd (Vy he) m0 (by show nu=e0.1;lia);have eo2:e0.2.1=o2:=by rw[← eo]
    refine cL ⟨G,O,smN 3,fun pb hb'=>?_⟩;generalize eHb:upd H4 pb _=Hb;obtain⟨gb,eb⟩:=aG eHb hb';rw[← z,eo2] at eb;have tk:=cM (zs':=zs++[.ref pb]) (gb _ _ eD);refine⟨gb _ _ eD,aJ (by lia),⟨O⟩,aM (sm.trans gb) hD _,aa,?_⟩;rw[nx _ (iPo z)];exact bZ.snoc (tk _ _ eb) ((hp3.aL fun a ys q=>(sm.trans gb) a _ q).aL tk) ((ez.aL fun a ys q=>gb a _ q).aL tk)
   ·rw[dcF (show ¬ vN nu=V.int num from fun y=>z (by injection y))];have tk:=cM (zs':=zs++[.ref e]) eD;refine bK ⟨O,eD,aJ (by lia),⟨O⟩,aM sm hD _,aa,?_⟩;rw[nx _ (iNe z)];exact bZ.snoc (tk _ _ (sm _ _ hent)) ((hpr.aL fun a ys q=>sm a _ q).aL tk) (ez.aL tk)
  ·rintro zs σ' H4 ⟨_,sm,eD,ez⟩;rw[les,Vk] at ez;refine⟨D,O,.inl ⟨sqL eD,fun a ha=>?_⟩⟩;have sn:=au ha (.tup zs);exact Rc _ _ ⟨a,zs,U,sm.trans sn,aa,ez.aL fun a ys q=>sn a _ q⟩
 rintro σ H4 ⟨ch,us',rfl,s4,ech,ees⟩;have lw:(chE es num pl).length=es.length:=U7 _;refine⟨O,b,dx,O,(s3.trans s4) _ _ hb,U,G,O,nw,ch,e0.2.1,n,co,g,go,es,_,us',U,hB3.st.ks (ksS s4),hB.lg,o0,ech,ees,by lia,fun z=>(hw z).mono (s3.trans s4),fun z st' H5 s5 hst5=>?_⟩;exact Ep hB ne l9 (s3.trans (s4.trans s5)) hst5 hB.lg hB.n12 (by lia) hB.gn hB.gl fun H' ah' bt fa hB'=>q z H' _ ah' bt fa hB'
def Bt3 (b be ah:Addr)(H H':Hp):Prop:=∀ a o,a≠b->a≠be->a≠ah->H a=some o->H' a=some o
abbrev lW:Stmt:=inClass (top 44) 8
abbrev mQ:Stmt:=inClass (top 44) 9
abbrev f9:Stmt:=inClass (top 44) 10
abbrev gk:Stmt:=inClass (top 44) 11
def yK:aD ZO ZO (az lW):=cJ
def yc:aD ZO ZO (az mQ):=cJ
def qe:aD ZO ZO (az f9):=cJ
def qj:aD ZO ZO (az gk):=cJ
def Qg {x:XA}:x.of "nothing left" = x.nl:=by unfold XA.of;rw[iNe (by decide),iNe (by decide),iNe (by decide),iNe (by decide),iNe (by decide),iNe (by decide),iNe (by decide),iNe (by decide)]
def uz {α:Type}(l:List α):l=[]∨∃ ys a,l=ys++[a]:=by
 rcases List.eq_nil_or_concat l with z | ⟨ys,a,z⟩;{exact .inl z};{exact .inr ⟨ys,a,by rw[z,List.concat_eq_append]⟩}
def m5 {as:Db}{a:Addr}:((as++[a]).map V.ref)[((as++[a]).map V.ref).length - 1]? = some (.ref a):=by
 rw[U7,Vf,Vr];show Option.map _ ((as++[a])[as.length+1 - 1]?)=_;rw[Nat.add_sub_cancel,Zc (Vb _),Nat.sub_self];rfl
def qG {as:Db}{a:Addr}:((as++[a]).map V.ref).dropLast=as.map V.ref:=by rw[Vd];exact abe
inductive rN (CB:Addr)(x:XA)(un:Bool)(vs:E6)(H:Hp)(Q:VK)(E:XK):Prop where
 | mk (b be ah dx nw:Addr) (xs zs:Db) (_:vs=[.ref b]) (_:H b=some (.ins CB dx (bnF nw be ah))) (_:H be=some (.lst (xs.map V.ref))) (_:H ah=some (.lst (zs.map V.ref))) (_:be≠ah) (_:xs.length<=900) (_:zs.length<=900) (_:((if un=true then xs else zs)=[]->Th x "nothing left" H E)) (_:∀ ys a,(if un=true then xs else zs)=ys++[a]->∀ H',Bt3 b be ah H H'->H' b=some (.ins CB dx (bnF a be ah))->H' be=some (.lst ((if un=true then ys else xs++[nw]).map V.ref))->H' ah=some (.lst ((if un=true then zs++[nw] else ys).map V.ref))->Q .non H')
def xZ {CB:Addr} {x:XA} (F:Fun K "undo" "Boon.undo" lW f fd) (B:Bt mg) (T:vX K CB) (S2:Xc P w K mg base "NothingLeft" x.nl "nothing left"):aZ P w K mg base (XL P w) 4 f fd ZO (rN CB x true):=by
 refine zf F yK fun H Q E hr h=>?_;obtain⟨b,be,ah,dx,nw,xs,zs,rfl,hb,hbe,hah,nb,lx,lz,hw,q⟩:=h
 refine⟨_,(aj (bR (aA aQ (pln K B.len_ (pfd K 0)) ao) (aB (dF S2 hr U cV)) aR)
 (aj (aX (oX VR Wb Wa cz (pfd K 0) (a1 (pfd K 0))))
 (aB (jK (pv 0) (wI VR YF YD Be (pfd K 0)) U)))),?_⟩
 have bb:be≠b:=fun z=>by rw[z,hb] at hbe;cases hbe
 have ba:ah≠b:=fun z=>by rw[z,hb] at hah;cases hah
 rw[iPo U] at hw q;have lm:(xs.map V.ref).length=xs.length:=U7 _;refine bL (fun σ H1=>∃ ys a,σ=[oR b]/\H1=H/\xs=ys++[a]) ?_ ?_
 ·intro N Rc;refine⟨O,b,CB,dx,_,O,hb,T.cl,T.behind,U,be,O,.inl (sqL hbe),U,O,?_⟩;rcases uz xs with z | ⟨ys,a,z⟩;{rw[show decide (V.int (((xs.map V.ref).length:Nat):Int)=V.int 0)=true from dcT (by rw[lm,z];rfl)];have:=hw z;unfold Th at this;rw[Qg] at this;exact cL this};{rw[show decide (V.int (((xs.map V.ref).length:Nat):Int)=V.int 0)=false from dcF (fun y=>by rw[lm,z,Vf] at y;injection y with y;have:((ys.length+1:Nat):Int)=0:=y;lia)];exact bK (Rc _ _ ⟨ys,a,U,U,z⟩)}
 rintro σ H1 ⟨ys,a,rfl,rfl,rfl⟩;refine⟨O,b,CB,dx,_,O,hb,T.cl,T.ahead,U,.inl ⟨U,_,sqL hah⟩,O,b,CB,dx,_,O,hb,T.cl,T.now,U,ah,M,hah,aJ (by rw[U7];lia),?_⟩;have e1:upd H1 ah (.lst (zs.map V.ref++[.ref nw])) b=some (.ins CB dx (bnF nw be ah)):=by rw[aF ba.symm];exact hb
 have e2:upd H1 ah (.lst (zs.map V.ref++[.ref nw])) be=some (.lst ((ys++[a]).map V.ref)):=by rw[aF nb];exact hbe
 generalize eF:upd H1 ah _=F1 at e1 e2;have k1:∀ c o,c≠ah->H1 c=some o->F1 c=some o:=fun c o h y=>by rw[← eF,aF h];exact y
 have e3:F1 ah=some (.lst ((zs++[nw]).map V.ref)):=by rw[← eF,aa,Vd];rfl
 refine⟨O,b,CB,dx,_,O,e1,T.cl,T.behind,U,.inl ⟨U,_,sqL e2⟩,be,M,e2,m5,?_⟩;rw[qG];refine⟨O,b,CB,dx,O,by rw[aF bb.symm];exact e1,T.cl,T.now,by show 3 < 1000;decide,q ys a U _ (fun c o c1 c2 c3 y=>?_) aa ?_ ?_⟩;{rw[aF c1,aF c2];exact k1 _ _ c3 y};{rw[aF bb,aa];rfl};{rw[aF ba,aF nb.symm,e3];rfl}
def wF {CB:Addr} {x:XA} (F:Fun K "redo" "Boon.redo" mQ f fd) (B:Bt mg) (T:vX K CB) (S2:Xc P w K mg base "NothingLeft" x.nl "nothing left"):aZ P w K mg base (XL P w) 4 f fd ZO (rN CB x false):=by
 refine zf F yc fun H Q E hr h=>?_;obtain⟨b,be,ah,dx,nw,xs,zs,rfl,hb,hbe,hah,nb,lx,lz,hw,q⟩:=h
 refine⟨_,(aj (bR (aA aQ (pln K B.len_ (pfd K 0)) ao) (aB (dF S2 hr U cV)) aR)
 (aj (aX (oX VR Wb Wa cz (pfd K 0) (a1 (pfd K 0))))
 (aB (jK (pv 0) (wI VR YF YD Be (pfd K 0)) U)))),?_⟩
 have bb:be≠b:=fun z=>by rw[z,hb] at hbe;cases hbe
 have ba:ah≠b:=fun z=>by rw[z,hb] at hah;cases hah
 rw[iNe (by decide)] at hw q;have lm:(zs.map V.ref).length=zs.length:=U7 _;refine bL (fun σ H1=>∃ ys a,σ=[oR b]/\H1=H/\zs=ys++[a]) ?_ ?_
 ·intro N Rc;refine⟨O,b,CB,dx,_,O,hb,T.cl,T.ahead,U,ah,O,.inl (sqL hah),U,O,?_⟩;rcases uz zs with z | ⟨ys,a,z⟩;{rw[show decide (V.int (((zs.map V.ref).length:Nat):Int)=V.int 0)=true from dcT (by rw[lm,z];rfl)];have:=hw z;unfold Th at this;rw[Qg] at this;exact cL this};{rw[show decide (V.int (((zs.map V.ref).length:Nat):Int)=V.int 0)=false from dcF (fun y=>by rw[lm,z,Vf] at y;injection y with y;have:((ys.length+1:Nat):Int)=0:=y;lia)];exact bK (Rc _ _ ⟨ys,a,U,U,z⟩)}
 rintro σ H1 ⟨ys,a,rfl,rfl,rfl⟩;refine⟨O,b,CB,dx,_,O,hb,T.cl,T.behind,U,.inl ⟨U,_,sqL hbe⟩,O,b,CB,dx,_,O,hb,T.cl,T.now,U,be,M,hbe,aJ (by rw[U7];lia),?_⟩;have e1:upd H1 be (.lst (xs.map V.ref++[.ref nw])) b=some (.ins CB dx (bnF nw be ah)):=by rw[aF bb.symm];exact hb
 have e2:upd H1 be (.lst (xs.map V.ref++[.ref nw])) ah=some (.lst ((ys++[a]).map V.ref)):=by rw[aF nb.symm];exact hah
 generalize eF:upd H1 be _=F1 at e1 e2;have k1:∀ c o,c≠be->H1 c=some o->F1 c=some o:=fun c o h y=>by rw[← eF,aF h];exact y
 have e3:F1 be=some (.lst ((xs++[nw]).map V.ref)):=by rw[← eF,aa,Vd];rfl
 refine⟨O,b,CB,dx,_,O,e1,T.cl,T.ahead,U,.inl ⟨U,_,sqL e2⟩,ah,M,e2,m5,?_⟩;rw[qG];refine⟨O,b,CB,dx,O,by rw[aF ba.symm];exact e1,T.cl,T.now,by show 3 < 1000;decide,q ys a U _ (fun c o c1 c2 c3 y=>?_) aa ?_ ?_⟩;{rw[aF c1,aF c3];exact k1 _ _ c2 y};{rw[aF bb,aF nb,e3];rfl};{rw[aF ba,aa];rfl}
inductive BZ (CB:Addr)(un:Bool)(vs:E6)(H:Hp)(Q:VK)(e3:XK):Prop where
 | mk (b be ah dx nw:Addr) (xs zs:E6) (_:vs=[.ref b]) (_:H b=some (.ins CB dx (bnF nw be ah))) (_:H be=some (.lst xs)) (_:H ah=some (.lst zs)) (_:Q (vN (if un=true then xs else zs).length) H)
def pU {CB:Addr} (F:Fun K "undoable" "Boon.undoable" f9 f fd) (B:Bt mg) (T:vX K CB):aZ P w K mg base CX0 1 f fd ZO (BZ CB true):=by
 refine okA F qe fun H Q E hr h=>?_;obtain⟨b,be,ah,dx,nw,xs,zs,rfl,hb,hbe,hah,q⟩:=h;exact⟨_,(sR (pln K B.len_ (pfd K 0))),O,b,CB,dx,_,O,hb,T.cl,T.behind,U,be,O,.inl (sqL hbe),q⟩
def pR {CB:Addr} (F:Fun K "redoable" "Boon.redoable" gk f fd) (B:Bt mg) (T:vX K CB):aZ P w K mg base CX0 1 f fd ZO (BZ CB false):=by
 refine okA F qj fun H Q E hr h=>?_;obtain⟨b,be,ah,dx,nw,xs,zs,rfl,hb,hbe,hah,q⟩:=h;exact⟨_,(sR (pln K B.len_ (pfd K 0))),O,b,CB,dx,_,O,hb,T.cl,T.ahead,U,ah,O,.inl (sqL hah),q⟩
def prF (n:Nat)(go:DD):E6:=(Wx n).map fun i=>.bl (decide (i ∉ go))
def cu (n:Nat)(go:DD):(prF n go).length=n:=by unfold prF;rw[U7,Xd]
def Hy {n i:Nat}{go:DD}(h:i < n):(prF n go)[i]? = some (.bl (decide (i ∉ go))):=by
 unfold prF;rw[Vr,abp h];rfl
inductive TbR (n:Nat)(H:Hp):EU->List Ent->Prop where
 | nil:TbR n H [] []
 | cons {t p:Addr} {num one:Nat} {pl:Pl} {kvs:EU} {es:List Ent} (h:H t=some (.tup [vN one,.ref p])) (q:j9 n H p pl) (r:TbR n H kvs es):TbR n H ((Wi (num:Int),.ref t)::kvs) ((num,one,pl)::es)
section
variable {n m:Nat}{H H':Hp}
theorem TbR.aL (e:∀ a xs,H a=some (HO.tup xs)->H' a=some (HO.tup xs)):∀ {kvs:EU} {es:List Ent},TbR n H kvs es->TbR n H' kvs es
 | _,_,.nil=>.nil
 | _,_,.cons h q r=>.cons (e _ _ h) (q.aL e) (TbR.aL e r)
theorem TbR.le (h:n<=m):∀ {kvs:EU} {es:List Ent},TbR n H kvs es->TbR m H kvs es
 | _,_,.nil=>.nil
 | _,_,.cons a q r=>.cons a (q.le h) (TbR.le h r)
theorem TbR.length:∀ {kvs:EU} {es:List Ent},TbR n H kvs es->kvs.length=es.length
 | _,_,.nil=>rfl
 | _,_,.cons _ _ r=>congrArg (· + 1) (TbR.length r)
theorem TbR.keys:∀ {kvs:EU} {es:List Ent},TbR n H kvs es->kvs.map (·.1)=(es.map fun e=>(e.1:Int)).map Wi
 | _,_,.nil=>rfl
 | _,_,.cons _ _ r=>congrArg (_::·) (TbR.keys r)
theorem TbR.snoc {t p:Addr}{num one:Nat}{pl:Pl}(h:H t=some (.tup [vN one,.ref p]))(q:j9 n H p pl):∀ {kvs:EU} {es:List Ent},TbR n H kvs es->TbR n H (kvs++[(Wi (num:Int),.ref t)]) (es++[(num,one,pl)])
 | _,_,.nil=>.cons h q .nil
 | _,_,.cons a b r=>.cons a b (TbR.snoc h q r)
theorem TbR.val {i:Nat}{e:Ent}:∀ {kvs:EU} {es:List Ent},TbR n H kvs es->(es.map (·.1)).Nodup->es[i]? = some e->∃ (t p:Addr),tK kvs (Wi (e.1:Int))=some (.ref t)/\H t=some (.tup [vN e.2.1,.ref p])/\j9 n H p e.2.2
 | _,_,.nil,_,h=>by simp at h
 | _,_,.cons (num:=num) (es:=es) h q r,nd,he=>by
  rw[Wk,List.nodup_cons] at nd;cases i with
  | zero =>
   cases (show some _=some _ from he);exact⟨_,_,qF U,h,q⟩
  | succ i =>
   have he':es[i]? = some e:=by simpa using he
   obtain⟨t,p,h1,h2,h3⟩:=TbR.val (i:=i) r nd.2 he';refine⟨t,p,?_,h2,h3⟩;rw[nA fun z=>nd.1 ?_];{exact h1};{have:(num:Int)=(e.1:Int):=aa9 z;rw[show num=e.1 by lia];exact List.mem_map.mpr ⟨e,Vy he',U⟩}
theorem TbR.none {k:Int}:∀ {kvs:EU} {es:List Ent},TbR n H kvs es->(∀ e∈es,(e.1:Int)≠k)->tK kvs (Wi k)=none
 | _,_,.nil,_=>rfl
 | _,_,.cons _ _ r,h=>by
  rw[nA fun z=>h _ Vm (aa9 z)];exact TbR.none r fun e he=>h e (Vp _ he)
end
structure EsU (n:Nat)(go:DD)(es:List Ent)(co:Nat):Prop where
 up:(es.map (·.1)).Pairwise (· < ·)
 lt:∀ e∈es,e.1 < co/\e.2.1 < n/\e.2.1 ∉ go
section
variable {n:Nat}{go:DD}{es:List Ent}{co:Nat}
def EsU.nd (h:EsU n go es co):(es.map (·.1)).Nodup:=h.up.imp fun z=>Vw z
def EsU.sort (h:EsU n go es co){ms:DC}(p:ms.Perm (es.map fun e=>(e.1:Int)))(so:ms.Pairwise (·<=·)):ms=es.map fun e=>(e.1:Int):=by
 refine jZ p so ?_;have:=h.up;rw[YM] at this ⊢;exact this.imp fun z=>by lia
end
def StR (be:Addr)(n:Nat)(H:Hp)(a:Addr)(g:DC)(go:DD)(es:List Ent)(co:Nat):Prop :=
 ∃ (pa ga ta:Addr) (kvs:EU),H a=some (.tup [.ref pa,.ref ga,.ref ta,vN co])/\H pa=some (.lst (prF n go))/\H ga=some (.tup (g.map V.int))/\H ta=some (.dK kvs)/\TbR n H kvs es/\pa≠be
def StR.same {be:Addr}{n:Nat}{H H':Hp}{a:Addr}{g:DC}{go:DD}{es:List Ent}{co:Nat}(s:aH H H')(h:StR be n H a g go es co):StR be n H' a g go es co:=by
 obtain⟨pa,ga,ta,kvs,h1,h2,h3,h4,h5,h6⟩:=h;exact⟨pa,ga,ta,kvs,s _ _ h1,s _ _ h2,s _ _ h3,s _ _ h4,h5.aL fun a xs z=>s _ _ z,h6⟩
def StR.sT {be:Addr}{n:Nat}{H H':Hp}{a:Addr}{g:DC}{go:DD}{es:List Ent}{co:Nat}(s:iR H H')(h:StR be n H a g go es co):StR be n H' a g go es co:=by
 obtain⟨pa,ga,ta,kvs,h1,h2,h3,h4,h5,h6⟩:=h;exact⟨pa,ga,ta,kvs,stT s h1,stL s h2,stT s h3,s _ _ (fun _ z=>nomatch z) h4,h5.aL fun a xs z=>stT s z,h6⟩
abbrev jf:Stmt:=top 65
def tL:aD XT XT (az jf):=cJ
inductive sS (vs:E6)(H:Hp)(Q:VK)(e3:XK):Prop where
 | mk (be a:Addr) (o:Int) (n:Nat) (g:DC) (go:DD) (es:List Ent) (co:Nat) (_:vs=[.ref a,.int o]) (_:StR be n H a g go es co) (_:Q (.str (miW n go o)) H)
def tQ (F:Fun K "_law_missing" "_law_missing" jf f fd) (B:Bt mg):aZ P w K mg base CX0 1 f fd XT sS:=by
 refine okA F tL fun H Q E hr h=>?_;obtain⟨be,a,o,n,g,go,es,co,rfl,⟨pa,ga,ta,kvs,h1,h2,h3,h4,h5,h6⟩,q⟩:=h
 refine⟨_,(aj (ifR (PW.pt (jw (aA pZ (pv 1) ao) (fH (aA mC (pv 1) (pln K B.len_ (pxT K (pv 0) ao)))))) aC)
 (sR (jj (cj (pxL K (pxT K (pv 0) ao) (pv 1))) aC aC))),?_⟩
 refine bL (fun σ H1=>σ=[oR a,oI o]/\H1=H/\¬ (o < 0∨(n:Int)<=o)) ?_ ?_
 ·intro N Rc;have e1:(o < 0∨(n:Int)<=o)->Q (.str "no folk") H:=fun z=>by
   have:miW n go o = "no folk":=by unfold miW;rw[iPo z]
   rw[← this];exact q
  refine⟨O,M,O,?_⟩;refine jx (fun z=>cL (e1 (.inl (of_decide_eq_true z)))) (fun z=>?_);refine⟨G,a,Y,sqT h1,gt0,pa,O,.inl (sqL h2),M,O,?_⟩;rw[cu];refine jx (fun y=>e1 (.inr (of_decide_eq_true y))) (fun y=>Rc _ _ ⟨U,U,fun x=>x.elim (fun v=>z (dcT v)) (fun v=>y (dcT v))⟩)
 rintro σ H1 ⟨rfl,rfl,hn⟩;have hi:o.toNat < n:=by lia
 have eo:o=((o.toNat:Nat):Int):=by lia
 have em:miW n go o=if o.toNat∈go then ("gone" : VB) else "":=by unfold miW;rw[iNe hn]
 rw[em] at q;refine⟨O,a,Y,sqT h1,gt0,O,pa,_,_,.bl (decide (o.toNat ∉ go)),U,U,sqL h2,?_,O,?_⟩;{rw[eo];exact cX (by rw[VL];exact Hy hi)}
 ·by_cases z:o.toNat∈go;{rw[dcF (not_not_intro z)];rw[iPo z] at q;exact bK q};{rw[dcT z];rw[iNe z] at q;exact cL q}
abbrev jJ:Stmt:=top 64
def uR:aD XU XU (az jJ):=cJ
def miP (es:List Ent)(o:Int):List Pl:=(es.filter fun e=>decide ((e.2.1:Int)=o)).map fun e=>e.2.2
inductive qL (vs:E6)(H:Hp)(Q:VK)(e3:XK):Prop where
 | mk (ta:Addr) (o:Int) (n:Nat) (kvs:EU) (es:List Ent) (_:vs=[.ref ta,.int o]) (_:H ta=some (.dK kvs)) (_:TbR n H kvs es) (_:(es.map (·.1)).Pairwise (· < ·)) (_:es.length<=40) (_:∀ (l:Addr) (as:Db) (H':Hp),aH H H'->H l=none->H' l=some (.lst (as.map V.ref))->as.length<=40->eV n H' as (miP es o)->Q (.ref l) H')
def uL (F:Fun K "_law_listed" "_law_listed" jJ f fd) (B:Bt mg):aZ P w K mg base CX0 2 f fd XU qL:=by
 refine okA F uR fun H Q E hr h=>?_;obtain⟨ta,o,n,kvs,es,rfl,hta,tb,up,l40,q⟩:=h;refine⟨_,(sR (bU (L:=["_law_number"]) (F:=XU) (cap:=[0,1]) U (bj U U (by kernel_rfl)) (dB (aN (r:=yq) (j5 U) U B.sorted_ (by decide+kernel) (v1 0))) (fun _ _ _ _ _=>(pgC 0)) (fun _ _ _ _ _=>(jl (aA aQ (pxT K (jM hr.iT (pv 1) (pv 0) (fun _ _=>U)) ao) (pv 2)))) (fun _ _ _ _ _=>(pxT K (jM hr.iT (pv 1) (pv 0) (fun _ _=>U)) ao)))),?_⟩;have nd:(es.map (·.1)).Nodup:=up.imp fun z=>Vw z;refine⟨O,ta,kvs,es.map fun e=>(e.1:Int),U,hta,tb.keys,by rw[U7];lia,fun ms pm so l hl=>?_⟩;have em:ms=es.map fun e=>(e.1:Int):=jZ pm so (by rw[YM] at up ⊢;exact up.imp fun z=>by lia);subst em;generalize eH1:upd H l _=H1;obtain⟨s1,e1⟩:=aG eH1 hl
 refine⟨l,U,⟨_,sqL e1⟩,fun D hD=>iH (K:=K) (a:=l) (xs:=(es.map fun e=>(e.1:Int)).map V.int) (fun i zs σ' H2=>(∃ u,σ'=[u,oR ta,oI o])/\aH H1 H2/\H2 D=some (.lst zs)/\∃ as:Db,zs=as.map V.ref/\as.length<=i/\eV n H2 as (miP (es.take i) o))
  ⟨⟨O⟩,au hD _,aa,[],U,Vb _,by rw[V6];exact .nil⟩ (fun i zs σ' H2 _ h=>⟨sqL (h.2.1 _ _ e1),h.2.2.1⟩) ?_ ?_⟩
 ·rintro i zs x σ' H2 hx ⟨⟨u,rfl⟩,sm,eD,as,rfl,las,ps⟩;rw[Vr,Vr] at hx;obtain⟨e,he,rfl⟩:∃ e,es[i]? = some e/\x = .int (e.1:Int):=by
   cases z:es[i]? with
   | none=>rw[z] at hx;cases hx
   | some e=>rw[z] at hx;cases hx;exact⟨e,U,U⟩
  have ie:=(geS he).1;have s02:=s1.trans sm;obtain⟨t,p,hv,ht,hp⟩:=tb.val nd he;have nx:miP (es.take (i+1)) o=miP (es.take i) o++if (e.2.1:Int)=o then [e.2.2] else []:=by
   unfold miP;rw[VD,he,Yu,Vd];congr 1;by_cases z:(e.2.1:Int)=o;{rw[iPo z,show (Option.toList (some e))=[e] from U,XH (by exact dcT z)];rfl};{rw[iNe z,show (Option.toList (some e))=[e] from U,XJ (by rw[dcF z];exact Ve)];rfl}
  have dg:rT H2 ta (.int (e.1:Int)) (some (.ref t)):=by
   rw[← hv];exact rT.k (k:=Wi (e.1:Int)) (s02 _ _ hta)
  refine⟨G,ta,O,dg,t,Y,sqT (s02 _ _ ht),gt0,N,?_⟩;by_cases z:(e.2.1:Int)=o
  ·rw[show decide (vN e.2.1=V.int o)=true from dcT (by rw[← z];rfl)];refine cL ⟨G,ta,O,dg,t,Y,sqT (s02 _ _ ht),gt1,eD,aJ (by rw[U7];lia),⟨O⟩,aM sm hD _,aa,as++[p],?_,?_,?_⟩;{rw[Vd];rfl};{rw[Vf];show as.length+1<=_;lia};{rw[nx,iPo z];have tk:=cM (zs':=as.map V.ref++[.ref p]) eD;exact eV.snoc ((hp.aL fun a xs w=>s02 _ _ w).aL tk) (ps.aL tk)}
  ·rw[show decide (vN e.2.1=V.int o)=false from dcF fun y=>z (by injection y)];refine bK ⟨⟨O⟩,sm,eD,as,U,by lia,?_⟩;rw[nx,iNe z,WR];exact ps
 ·rintro zs σ' H2 ⟨_,sm,eD,as,rfl,las,ps⟩;rw[U7,U7] at las ps;rw[Vk] at ps;exact q D as H2 (s1.trans sm) (s1.free hD) eD (by lia) ps
def Ru {es:List Ent}(ok:∀ e∈es,okP e.2.2)(one:Nat)(g:DC):duF g 0 (miP es (one:Int))=mxD 0 (owL es one g):=by
 have e:owL es one g=(miP es (one:Int)).map (owF g):=by
  unfold owL miP;rw[aaS];have:(fun e:Ent=>decide (e.2.1=one))=fun e:Ent=>decide ((e.2.1:Int)=(one:Int)):=by
   funext e;exact decide_eq_decide.mpr ⟨fun h=>by rw[h],fun h=>by lia⟩
  rw[this];rfl
 unfold duF;rw[← e];have all:∀ x∈owL es one g,0<=x:=fun x hx=>by
  obtain⟨e,he,rfl⟩:=List.mem_map.mp hx;exact Eo fun y hy=>by have:=((ok e (List.mem_filter.mp he).1).2.2.2 y hy).1;lia
 cases h:owL es one g with
 | nil=>rfl
 | cons a r =>
  have:=all a (by rw[h];exact Vm);show r.foldl max (max 0 a)=r.foldl max a;rw[show max 0 a=a by lia]
theorem TbR.ok {n:Nat}{H:Hp}:∀ {kvs:EU} {es:List Ent},TbR n H kvs es->∀ e∈es,okP e.2.2
 | _,_,.nil,e,h=>by cases h
 | _,_,.cons _ p r,e,h=>by
  rcases List.mem_cons.mp h with z | z;{rw[z];exact p.1};{exact TbR.ok r e z}
abbrev nZ:Stmt:=top 66
def iW:aD ["_law_state","_law_one","_law_pledge_here","_law_step","_law_term_here","_law_names"] VW (az nZ):=cJ
inductive Ly (vs:E6)(H:Hp)(Q:VK)(e3:XK):Prop where
 | mk (be a p:Addr) (i n:Nat) (g:DC) (go:DD) (es:List Ent) (co:Nat) (pl:Pl) (_:vs=[.ref a,vN i,.ref p]) (_:StR be n H a g go es co) (_:j9 n H p pl) (_:1<=n) (_:n<=12) (_:((∃ x∈pl,nn i x.2=false)->∀ H',aH H H'->Q (.bl false) H')) (_:((¬ ∃ x∈pl,nn i x.2=false)->∀ H',aH H H'->Q (.bl true) H'))
def Rm {n:Nat}{c:DD}(hn:1<=n)(h:∀ i∈c,i < n):mxD 0 (0::c.map fun i:Nat=>(i:Int)) < (n:Int):=by
 show (c.map fun i:Nat=>(i:Int)).foldl max 0 < (n:Int);have:∀ (l:DD) (a:Int),a < n->(∀ i∈l,i < n)->(l.map fun i:Nat=>(i:Int)).foldl max a < (n:Int):=by
  intro l
  induction l with
  | nil=>intro a ha _;exact ha
  | cons b r ih =>
   intro a ha hl;refine ih _ ?_ fun i hi=>hl i (Vp _ hi);have:=hl b Vm;show max a (b:Int) < (n:Int);lia
 exact this c 0 (by lia) h
def yW (F:Fun K "_law_good" "_law_good" nZ f fd) (B:Bt mg) (QI:Df P w K mg base "_law_named" 4 YN (jG 4)):aZ P w K mg base CX0 5 f fd VW Ly:=by
 refine okA F iW fun H Q E hr h=>?_;obtain⟨be,a,p,i,n,g,go,es,co,pl,rfl,⟨pa,ga,ta,kvs,h1,h2,h3,h4,h5,h6⟩,⟨okp,vs,hp,rv⟩,n1,n12,q0,q1⟩:=h
 refine⟨_,(aj (cP V4 U (cU (pv 2)) (d7 (K:=K) 2 U U (aV (pgN 3 iW.nd) (aV (pgN 4 iW.nd) dY))) (aj (sT 5 iW.nd (aO QI hr (v1 4)))
 (aB (ifR (PW.pt (jw (eQ (r:=rIn K false) dD (pv 1) (pv 5) U) (fH (aA mC (aN (r:=K6 K) (sE U) U B.max_ sO (a1 (aK rF (bc (a1 ao)) (pv 5)))) (aN (rE U) U B.max_ sO (aq ao (a1 (pln K B.len_ (pxT K (pv 0) ao))))))))) fG))))
 (sR fG)),?_⟩
 have lv:=rv.length;refine gm (fun σ H1=>aH H H1/\¬ ∃ x∈pl,nn i x.2=false) (fun σ H1 z=>q1 z.2 H1 z.1) fun N Rc=>?_;refine⟨O,p,U,⟨_,sqT hp⟩,dR (K:=K) (a:=p) (xs:=vs) (fun k σ H1=>(∃ u v w,σ=[oR a,some (vN i),oR p,u,v,w])/\aH H H1/\∀ x∈pl.take k,nn i x.2=true) ⟨⟨_,_,O⟩,aH.refl _,fun x hx=>by rw[V6] at hx;cases hx⟩ (fun k σ H1 _ z=>sqT (z.2.1 _ _ hp)) ?_ ?_⟩
 ·rintro k x σ H1 hx ⟨⟨u,v,w',rfl⟩,s1,hno⟩;obtain⟨r,st,y,t,rfl,hr',tr,hk⟩:=rv.get hx;have hm:=Vy hk;have hd:=(okp.2.2.2 _ hm).2.2;refine⟨r,O,sqT (s1 _ _ hr'),U,_,O,M,?_⟩;refine bL (fun σ H2=>∃ l:Addr,σ=[oR a,some (vN i),oR p,oI st,some y,oR l]/\aH H1 H2/\H2 l=some (.lst ((mnF t).map vN))) ?_ ?_;{intro N' Rc';exact⟨O,y,n,t,U,tr.mono s1,hd,by decide,n12,fun l H2 s2 _ e2=>Rc' _ _ ⟨l,U,s2,e2⟩⟩};rintro σ H2 ⟨l,rfl,s2,el⟩;have s12:=s1.trans s2;refine⟨G,l,O,.inl (sqL el),U,jA _,O,?_⟩;rw[iNe (show ¬ false=true from Ve),show vN i=V.int (i:Int) from U,j0];by_cases z:i∈mnF t
  ·rw[dcT z];refine cL (cL (q0 ⟨_,hm,?_⟩ H2 s12));cases e:nn i t with
   | false=>rfl
   | true=>exact absurd z (M8 t e)
  ·rw[dcF z];refine bK ⟨smN 1,fun p4 hp4=>?_⟩;generalize eH4:upd H2 p4 _=H4;obtain⟨g4,e4⟩:=aG eH4 hp4;have sml:=qH n12 (Vb 4) tr hd;refine⟨O,p4,l,M,e4,g4 _ _ el,?_,fun p6 hp6=>?_⟩;{rw[U7];exact VH (show 1+(mnF t).length<=100000 by lia) (by decide)};generalize eH6:upd H4 p6 _=H6;obtain⟨g6,e6⟩:=aG eH6 hp6;have s26:=g4.trans g6;refine⟨p6,0::(mnF t).map (fun i:Nat=>(i:Int)),U,sqL (e6.trans (by rw[Wk,← iy];rfl)),by simp,?_⟩;refine⟨O,a,Y,sqT ((s12.trans s26) _ _ h1),gt0,pa,O,.inl (sqL ((s12.trans s26) _ _ h2)),_,O,?_⟩;rw[cu];have lt:=Rm n1 (PX tr);refine⟨M,O,?_⟩;rw[dcF (by split <;> lia)]
   refine bK ⟨⟨_,_,O⟩,s12.trans s26,fun x hx'=>?_⟩;rw[VD,hk] at hx';rcases List.mem_append.mp hx' with w | w;{exact hno x w};{rw[List.mem_singleton.mp w];exact MJ t z}
 ·rintro σ H1 ⟨⟨u,v,w',rfl⟩,s1,hno⟩;rw[lv,Vk] at hno;exact Rc _ _ ⟨s1,fun⟨x,hx,z⟩=>by rw[hno x hx] at z;cases z⟩
abbrev mj:Stmt:=top 68
def gR:aD ["_law_state","_law_rises_here","_law_green_there","_law_one","_law_step"] WJ (az mj):=cJ
inductive uH (vs:E6)(H:Hp)(Q:VK)(e3:XK):Prop where
 | mk (be a ra:Addr) (n:Nat) (g:DC) (go:DD) (es:List Ent) (co:Nat) (us:E6) (ps:C3) (_:vs=[.ref a,.ref ra]) (_:StR be n H a g go es co) (_:g.length=n) (_:H ra=some (.lst us)) (_:RiI H us ps) (_:(∀ x∈ps,∃ j:Nat,x.1=j/\j < n)) (_:∀ (r:Addr) (H':Hp),aH H H'->H' r=some (.tup ((seI g ps).map V.int))->Q (.ref r) H')
def yL (F:Fun K "_law_green" "_law_green" mj f fd) (B:Bt mg):aZ P w K mg base CX0 1 f fd WJ uH:=by
 refine okA F gR fun H Q E hr h=>?_;obtain⟨be,a,ra,n,g,go,es,co,us,ps,rfl,⟨pa,ga,ta,kvs,h1,h2,h3,h4,h5,h6⟩,lg,hra,hri,hin,q⟩:=h
 refine⟨_,(aj (sT 2 gR.nd (aW (r:=mq K) fL U B.list_ jF (a1 (pxT K (pv 0) ao))))
 (aj (cP V4 U (dB (pv 1)) (d7 (K:=K) 2 U U (aV (pgN 3 gR.nd) (aV (pgN 4 gR.nd) dY))) (aB (yp (pv 4) (Mr (pv 2) (pv 3) set_list))))
 (sR (aW (r:=fX K) bz U B.tuple_ bH (v1 2))))),?_⟩
 have lus:=hri.length;refine bL (fun σ F1=>∃ a1:Addr,σ=[oR a,oR ra,oR a1,none,none]/\aH H F1/\F1 a1=some (.lst (g.map V.int))/\H a1=none) ?_ ?_;{intro N Rc;exact⟨O,a,Y,sqT h1,gt1,ga,O,.inr (sqT h3),fun a1 hn=>Rc _ _ ⟨a1,U,au hn _,aa,hn⟩⟩};rintro σ F1 ⟨a1,rfl,gf1,ef1,hn1⟩;refine bL (fun σ H3=>∃ (u v:EW),σ=[oR a,oR ra,oR a1,u,v]/\aH H H3/\H3 a1=some (.lst ((seI g ps).map V.int))) ?_ ?_
 ·intro N Rc
  refine⟨O,ra,U,⟨_,sqL (gf1 _ _ hra)⟩,d8 (K:=K) (a:=ra) (xs:=us) (fun i σ H3=>∃ (u v:EW),σ=[oR a,oR ra,oR a1,u,v]/\aH H H3/\H3 a1=some (.lst ((seI g (ps.take i)).map V.int)))
   ⟨_,O,gf1,ef1⟩ (fun i σ H3 _ h=>by obtain⟨_,_,_,z,_⟩:=h;exact sqL (z _ _ hra)) ?_ ?_⟩
  ·rintro i y σ H3 hx ⟨u,v,rfl,sm,e1⟩;obtain⟨e,o,sp,rfl,hp,hent⟩:=hri.get hx;obtain⟨j,ej,hj⟩:=hin _ (Vy hp);have ej:o=j:=ej;have nx:ps.take (i+1)=ps.take i++[(o,sp)]:=by rw[VD,hp];rfl
   refine⟨e,O,sqT (sm _ _ hent),U,_,O,M,G,O,a1,_,_,j,U,U,e1,?_,_,O,aM sm hn1 _,?_⟩;{unfold ixN;rw[iPo (by lia),iPo (by rw[U7,nU];lia),ej];rfl};{rw[aa,nx,Bl,List.map_set];show _=some (HO.lst ((List.map V.int (seI g (ps.take i))).set o.toNat (.int sp)));rw[ej,VL]}
  ·rintro σ H3 ⟨u,v,rfl,sm,e1⟩;rw[lus,Vk] at e1;exact Rc _ _ ⟨u,v,U,sm,e1⟩
 rintro σ H3 ⟨u,v,rfl,sm,e1⟩;exact⟨O,a1,O,.inl ⟨sqL e1,fun l hl=>q l _ (sm.trans (au hl _)) aa⟩⟩
abbrev dH:Stmt:=top 69
def bh:aD ["_law_state","_law_rises_here","_law_seen","_law_one","_law_step","_law_behind_them"] WJ (az dH):=cJ
inductive Bb (vs:E6)(H:Hp)(Q:VK)(e3:XK):Prop where
 | mk (be a ra:Addr) (n:Nat) (g:DC) (go:DD) (es:List Ent) (co:Nat) (us:E6) (ps:C3) (_:vs=[.ref a,.ref ra]) (_:StR be n H a g go es co) (_:g.length=n) (_:EsU n go es co) (_:es.length<=40) (_:H ra=some (.lst us)) (_:RiI H us ps) (_:ps.length<=100) (_:∀ H',aH H H'->Q (.str (haW n g go es ps)) H')
def kh {k:Nat} (hk:2<=k) (F:Fun K "_law_rises_refusal" "_law_rises_refusal" dH f fd) (B:Bt mg) (QE:Df P w K mg base "_law_missing" 1 XT sS) (P9:Df P w K mg base "_law_green" 1 WJ uH)
  (Qr:Df P w K mg base "_law_listed" 2 XU qL) (QN:Df P w K mg base "_law_owed" k Xs (yz K)):aZ P w K mg base CX0 (k+1) f fd WJ Bb:=by
 refine okA F bh fun H Q E hr h=>?_;obtain⟨be,a,ra,n,g,go,es,co,us,ps,rfl,hst,lg,eu,l40,hra,hri,p100,q⟩:=h
 refine⟨_,(aj (sT 2 bh.nd (bc cQ))
 (aj (cP V4 U (dB (pv 1)) (d7 (K:=K) 2 U U (aV (pgN 3 bh.nd) (aV (pgN 4 bh.nd) dY))) (aj (ifR (aA vm (aO QE hr (v2 0 3)) aC) (aO QE hr (v2 0 3)))
 (aj (ifR (PW.pt (jw (eQ (r:=rIn K false) dD (pv 3) (pv 2) U) (jw (aA Nv (pv 4) (pxT K (pxT K (pv 0) ao) (pv 3))) (fH (aA jL (pv 4) ao))))) aC)
 (aB (aX (oX VR Wb Wa cz (pv 2) (v1 3)))))))
 (aj (ifR (aA (r:=Tn K) (Lx hr.kj) (pv 1) (bc cQ)) aC)
 (aj (sT 5 bh.nd (aO P9 hr (v2 0 1)))
 (aj (cP V4 U (dB (pv 1)) (d7 (K:=K) 2 U U (aV (pgN 3 bh.nd) (aV (pgN 4 bh.nd) dY))) (aB (ifR (aA jL (pv 4) (aO QN hr (aq (aO Qr hr (aq (pxT K (pv 0) ao) (v1 3))) (v1 5)))) aC)))
 (sR aC)))))),?_⟩
 have lus:=hri.length;have st_:∀ {H':Hp},aH H H'->∃ (pa ga ta:Addr) (kvs:EU),H' a=some (.tup [.ref pa,.ref ga,.ref ta,vN co])/\H' ga=some (.tup (g.map V.int))/\H' ta=some (.dK kvs)/\TbR n H' kvs es:=fun s=>by
  obtain⟨pa,ga,ta,kvs,h1,h2,h3,h4,h5,h6⟩:=hst.same s;exact⟨pa,ga,ta,kvs,h1,h3,h4,h5⟩
 refine bL (fun σ F2=>∃ a2:Addr,σ=[oR a,oR ra,oR a2,none,none,none]/\aH H F2/\F2 a2=some (.lst [])/\H a2=none) ?_ ?_;{intro N Rc;exact⟨smN 0,fun a2 h2=>Rc _ _ ⟨a2,U,au h2 _,aa,h2⟩⟩};rintro σ F2 ⟨a2,rfl,gf2,ef2,h2⟩;refine bL (fun σ H3=>∃ (u v:EW),σ=[oR a,oR ra,oR a2,u,v,none]/\aH H H3/\Gp n g go ps ps.length) ?_ ?_
 ·intro N Rc
  refine⟨O,ra,U,⟨_,sqL (gf2 _ _ hra)⟩,d8 (K:=K) (a:=ra) (xs:=us) (fun i σ H3=>∃ (u v:EW),σ=[oR a,oR ra,oR a2,u,v,none]/\aH H H3/\H3 a2=some (.lst (((ps.take i).map (·.1.toNat)).map vN))/\Gp n g go ps i)
   ⟨_,O,gf2,ef2,.zero n g go ps⟩ (fun i σ H3 _ h=>by obtain⟨_,_,_,z,_⟩:=h;exact sqL (z _ _ hra)) ?_ ?_⟩
  ·rintro i y σ H3 hx ⟨u,v,rfl,sm,e2,ok⟩;obtain⟨e,o,sp,rfl,hp,hent⟩:=hri.get hx;have ip:=(geS hp).1;have pne:ps≠[]:=fun z=>by rw[z] at ip;exact absurd ip (aaa _)
   have eha:riW n g go [] ps≠""->haW n g go es ps=riW n g go [] ps:=fun z=>by unfold haW;rw[iNe pne,iPo z]
   have nx:ps.take (i+1)=ps.take i++[(o,sp)]:=by rw[VD,hp];rfl
   have wd:=ok.word hp;have hst3:=hst.same sm;refine⟨e,O,sqT (sm _ _ hent),U,_,O,M,?_⟩;refine bL (fun σ H4=>∃ j:Nat,o=j/\j < n/\j ∉ go/\σ=[oR a,oR ra,oR a2,some (vN j),oI sp,none]/\H4=H3) ?_ ?_
   ·intro N' Rc';refine⟨G,be,a,o,n,g,go,es,co,U,hst3,U,O,?_⟩;rcases yw n go o with⟨em,_⟩ | ⟨j,ej,hj,⟨hg,em⟩ | ⟨hg,em⟩⟩;{rw[em,show decide (V.str "no folk" = V.str "")=false from dcF bf];refine cL ⟨G,be,a,o,n,g,go,es,co,U,hst3,?_⟩;rw[iPo (by rw[em];decide)] at wd;rw[← wd,← eha (by rw[wd,em];decide)];exact q H3 sm};{rw[em,show decide (V.str "gone" = V.str "")=false from dcF bf];refine cL ⟨G,be,a,o,n,g,go,es,co,U,hst3,?_⟩;rw[iPo (by rw[em];decide)] at wd;rw[← wd,← eha (by rw[wd,em];decide)];exact q H3 sm};{rw[em,show decide (V.str "" = V.str "")=true from dcT U];exact bK (Rc' _ _ ⟨j,ej,hj,hg,by rw[ej];rfl,U⟩)}
   rintro σ H4 ⟨j,rfl,hj,hg,rfl,rfl⟩;rw[oH hj,iNe hg,iNe (fun z=>z U),VL] at wd;obtain⟨pa,ga,ta,kvs,h1',h3',h4',h5'⟩:=st_ sm;have hjg:j < g.length:=by lia
   have gei:g.getD j 0=g[j]:=by rw[Vz,Vg hjg];rfl
   have bad:(j∈(ps.take i).map (·.1.toNat)∨¬ (g.getD j 0 < sp/\sp<=9))->Q (.str "bad rise") H4:=fun z=>by
    rw[iPo z] at wd;rw[← wd,← eha (by rw[wd];decide)];exact q H4 sm
   refine bL (fun σ H5=>σ=[oR a,oR ra,oR a2,some (vN j),oI sp,none]/\H5=H4/\j ∉ (ps.take i).map (·.1.toNat)/\g.getD j 0 < sp/\sp<=9) ?_ ?_
   ·intro N' Rc';refine⟨G,a2,O,.inl (sqL e2),U,jA _,O,?_⟩;rw[iNe (show ¬ false=true from Ve),show vN j=V.int (j:Int) from U,j0];by_cases z:j∈(ps.take i).map (·.1.toNat);{rw[dcT z];exact cL (cL (bad (.inl z)))}
    ·rw[dcF z];refine bK ⟨G,a,Y,sqT h1',gt1,O,ga,Y,sqT h3',jH hjg,M,O,?_⟩;by_cases y:sp<=g[j];{rw[dcT y];exact cL (cL (bad (.inr (by rw[gei];lia))))}
     ·rw[dcF y];refine bK ⟨O,M,O,?_⟩;by_cases y9:9 < sp;{rw[dcT y9];exact cL (bad (.inr (by lia)))};{rw[dcF y9];exact bK (Rc' _ _ ⟨U,U,z,by rw[gei];lia,by lia⟩)}
   rintro σ H5 ⟨rfl,rfl,nin,h1'',h9''⟩;refine⟨O,.inl ⟨U,_,sqL e2⟩,O,a2,M,e2,aJ (by rw[U7,U7,Vs];lia),_,O,aM sm h2 _,?_,ok.step hp U hj hg nin h1'' h9''⟩;rw[aa,nx,Vd,Vd];rfl
  ·rintro σ H3 ⟨u,v,rfl,sm,e2,ok⟩;rw[lus] at ok;exact Rc _ _ ⟨u,v,U,sm,ok⟩
 rintro σ H3 ⟨u,v,rfl,sm,ok⟩;have ri:riW n g go [] ps = "":=by
  rw[← ok.on,ab4];rfl
 have al:=ok.al;rw[Vk] at al;refine bL (fun σ H4=>σ=[oR a,oR ra,oR a2,u,v,none]/\aH H H4/\ps≠[]) ?_ ?_
 ·intro N Rc;refine⟨O,smN 0,fun pe he=>?_⟩;have sn:=au he (.lst []);refine⟨ra,pe,us,U,U,sqL (sn _ _ (sm _ _ hra)),sqL aa,O,?_⟩;by_cases z:ps=[]
  ·have:us=[]:=V8 (by rw[lus,z];rfl);rw[this];have e:haW n g go es ps = "bad rise":=by unfold haW;rw[iPo z]
   rw[e] at q;exact cL (q _ (sm.trans sn))
  ·have:us.isEmpty=false:=by
    cases us with
    | nil=>exact absurd (V8 lus.symm) z
    | cons _ _=>rfl
   rw[this];exact bK (Rc _ _ ⟨U,sm.trans sn,z⟩)
 rintro σ H4 ⟨rfl,s4,pne⟩;have eha:haW n g go es ps=if ∃ x∈ps,mxD 0 (owL es x.1.toNat (seI g ps)) < x.2 then ("not due" : VB) else "":=by unfold haW;rw[iNe pne,iNe (by rw[ri];decide)]
 rw[eha] at q;refine bL (fun σ H5=>∃ gr:Addr,σ=[oR a,oR ra,oR a2,u,v,oR gr]/\aH H H5/\H5 gr=some (.tup ((seI g ps).map V.int))) ?_ ?_;{intro N Rc;exact⟨G,be,a,ra,n,g,go,es,co,us,ps,U,hst.same s4,lg,s4 _ _ hra,hri.aL fun a xs z=>s4 _ _ z,fun x hx=>by obtain⟨j,ej,hj,_⟩:=al x hx;exact⟨j,ej,hj⟩,fun gr H5 s5 e5=>Rc _ _ ⟨gr,U,s4.trans s5,e5⟩⟩};rintro σ H5 ⟨gr,rfl,s5,egr⟩;have sl:(seI g ps).length=n:=by rw[nU];exact lg
 refine gm (fun σ H6=>aH H H6/\∀ x∈ps,¬ mxD 0 (owL es x.1.toNat (seI g ps)) < x.2) ?q4 ?t4
 case q4 =>
  rintro σ H6 ⟨s6,hno⟩;rw[iNe fun⟨x,hx,z⟩=>hno x hx z] at q;exact q H6 s6
 case t4 =>
 intro N Rc
 refine⟨O,ra,U,⟨_,sqL (s5 _ _ hra)⟩,d8 (K:=K) (a:=ra) (xs:=us) (fun i σ H6=>(∃ u v:EW,σ=[oR a,oR ra,oR a2,u,v,oR gr])/\aH H5 H6/\∀ x∈ps.take i,¬ mxD 0 (owL es x.1.toNat (seI g ps)) < x.2)
  ⟨⟨_,O⟩,aH.refl _,fun x hx=>by rw[V6] at hx;cases hx⟩ (fun i σ H6 _ h=>sqL (h.2.1 _ _ (s5 _ _ hra))) ?_ ?_⟩
 ·rintro i y σ H6 hx ⟨⟨u,v,rfl⟩,s6,hno⟩;obtain⟨e,o,sp,rfl,hp,hent⟩:=hri.get hx;have hm:=Vy hp;obtain⟨j,ej,hj,_⟩:=al _ hm;have ej:o=j:=ej;subst ej;have s06:=s5.trans s6;obtain⟨pa,ga,ta,kvs,h1',h3',h4',h5'⟩:=st_ s06;refine⟨e,O,sqT (s06 _ _ hent),U,_,O,M,G,a,Y,sqT h1',gt2,O,ta,(j:Int),n,kvs,es,U,h4',h5',eu.up,l40,fun l as H7 s7 _ e7 las ps7=>⟨O,l,gr,n,as,_,O,e7,by lia,ps7,sqT (s7 _ _ (s6 _ _ egr)),by lia,fun H8 s8=>?_⟩⟩;refine⟨M,O,?_⟩;rw[Ru h5'.ok];by_cases z:mxD 0 (owL es j (seI g ps)) < sp;{rw[dcT z];rw[iPo ⟨_,hm,by rw[VL];exact z⟩] at q;exact cL (q _ (s06.trans (s7.trans s8)))}
  ·rw[dcF z];refine bK ⟨⟨_,O⟩,s6.trans (s7.trans s8),fun x hx'=>?_⟩;rw[VD,hp] at hx';rcases List.mem_append.mp hx' with w | w;{exact hno x w};{rw[List.mem_singleton.mp w,VL];exact z}
 ·rintro σ H6 ⟨_,s6,hno⟩;rw[lus,Vk] at hno;exact Rc _ _ ⟨s5.trans s6,hno⟩
structure Sa where
 n:Nat
 g:DC
 go:DD
 es:List Ent
 co:Nat
inductive tG where
 | come
 | leave (o:Int)
 | pledge (o:Int) (pl:Pl)
 | hand (ps:C3)
 | change (k:Int) (pl:Pl)
 | withdraw (k:Int)
def Sa.aft (A:Sa):tG->Sa
 | .come=>⟨A.n+1,A.g++[0],A.go,A.es,A.co⟩
 | .leave o=>⟨A.n,A.g,mR (A.go++[o.toNat]),A.es.filter fun e=>decide (e.2.1≠o.toNat),A.co⟩
 | .pledge o pl=>⟨A.n,A.g,A.go,A.es++[(A.co,o.toNat,pl)],A.co+1⟩
 | .hand ps=>⟨A.n,seI A.g ps,A.go,A.es,A.co⟩
 | .change k pl=>⟨A.n,A.g,A.go,chE A.es k pl,A.co⟩
 | .withdraw k=>⟨A.n,A.g,A.go,wiE A.es k,A.co⟩
def reW (A:Sa):tG->VB
 | .come=>if 12<=A.n then "full" else ""
 | .leave o=>miW A.n A.go o
 | .pledge o pl=>plW A.n A.go A.es o pl
 | .hand ps=>haW A.n A.g A.go A.es ps
 | .change k pl=>chW A.g A.es k pl
 | .withdraw k=>wiW A.g A.es k
def vaV (A:Sa):tG->V
 | .come=>vN A.n
 | .pledge _ _=>vN A.co
 | _=>.non
inductive DeR (n:Nat)(H:Hp)(a:Addr):tG->Prop where
 | come (h:H a=some (.tup [.str "come"])):DeR n H a .come
 | leave {o:Int} (h:H a=some (.tup [.str "leave",.int o])):DeR n H a (.leave o)
 | pledge {o:Int} {p:Addr} {pl:Pl} (h:H a=some (.tup [.str "pledge",.int o,.ref p])) (q:j9 n H p pl):DeR n H a (.pledge o pl)
 | hand {r:Addr} {us:E6} {ps:C3} (h:H a=some (.tup [.str "hand",.ref r])) (hr:H r=some (.lst us)) (q:RiI H us ps) (l:ps.length<=100):DeR n H a (.hand ps)
 | change {k:Int} {p:Addr} {pl:Pl} (h:H a=some (.tup [.str "change",.int k,.ref p])) (q:j9 n H p pl):DeR n H a (.change k pl)
 | withdraw {k:Int} (h:H a=some (.tup [.str "withdraw",.int k])):DeR n H a (.withdraw k)
def DeR.sT {n:Nat}{H H':Hp}{a:Addr}{d:tG}(s:iR H H')(h:DeR n H a d):DeR n H' a d:=by
 cases h with
 | come h=>exact .come (stT s h)
 | leave h=>exact .leave (stT s h)
 | pledge h q=>exact .pledge (stT s h) (q.aL fun a xs z=>stT s z)
 | hand h hr q l=>exact .hand (stT s h) (stL s hr) (q.aL fun a xs z=>stT s z) l
 | change h q=>exact .change (stT s h) (q.aL fun a xs z=>stT s z)
 | withdraw h=>exact .withdraw (stT s h)
def DeR.same {n:Nat}{H H':Hp}{a:Addr}{d:tG}(s:aH H H')(h:DeR n H a d):DeR n H' a d:=h.sT s.t
structure AOk (A:Sa):Prop where
 lg:A.g.length=A.n
 n12:A.n<=12
 l40:A.es.length<=40
 eu:EsU A.n A.go A.es A.co
 gl:∀ x∈A.go,x < A.n
def Ie {n:Nat} {go:DD} {es:List Ent} {o:Int} {pl:Pl} (h:plW n go es o pl = ""):∃ i:Nat,o=i/\i < n/\i ∉ go/\es.length < 40:=by
 unfold plW at h;by_cases z:miW n go o≠"";{rw[iPo z] at h;exact absurd h z}
 ·rw[iNe z] at h;obtain⟨i,e,hi,hg⟩:=uy (Classical.not_not.mp z);refine⟨i,e,hi,hg,?_⟩;by_cases y:∃ x∈pl,nn o.toNat x.2=false;{rw[iPo y] at h;exact absurd h (by decide)}
  ·rw[iNe y] at h;by_cases q:40<=es.length;{rw[iPo q] at h;exact absurd h (by decide)};{lia}
def Az (es:List Ent)(k:Int)(pl:Pl):(chE es k pl).map (·.1)=es.map (·.1):=by
 unfold chE;rw[aaS];refine List.map_congr_left fun e _=>?_;show (if (e.1:Int)=k then (e.1,e.2.1,pl) else e).1=e.1
 split <;> rfl
def O2 {es:List Ent}{k:Int}{pl:Pl}{e:Ent}(h:e∈chE es k pl):∃ e'∈es,e.1=e'.1/\e.2.1=e'.2.1:=by
 obtain⟨e',he',rfl⟩:=List.mem_map.mp h;refine⟨e',he',?_⟩;show (if (e'.1:Int)=k then (e'.1,e'.2.1,pl) else e').1=e'.1/\(if (e'.1:Int)=k then (e'.1,e'.2.1,pl) else e').2.1=e'.2.1
 split <;> exact⟨U,U⟩
def AOk.aft {A:Sa} {d:tG} (k:AOk A) (h:reW A d = ""):AOk (A.aft d):=by
 cases d with
 | come =>
  have h12:¬ 12<=A.n:=fun z=>by
   have e:reW A .come = "full":=iPo z;rw[e] at h;exact absurd h (by decide)
  exact⟨by show (A.g++[0]).length=A.n+1;rw[Vf,k.lg];rfl,by show A.n+1<=12;lia,k.l40,⟨k.eu.up,fun e he=>by have:=k.eu.lt e he;exact⟨this.1,Wn this.2.1,this.2.2⟩⟩,fun x hx=>Wn (k.gl x hx)⟩
 | leave o =>
  obtain⟨i,e,hi,hg⟩:=uy (show miW A.n A.go o = "" from h);have eo:o.toNat=i:=by lia
  have mem:∀ y,y∈mR (A.go++[o.toNat]) ↔ y∈A.go∨y=i:=fun y=>by rw[(gj _).mem_iff,Zv,Xk,eo]
  refine⟨k.lg,k.n12,VH (Wq _ _) k.l40,⟨k.eu.up.sublist (List.filter_sublist.map _),fun e he=>?_⟩,fun x hx=>?_⟩;{have h1:=List.mem_filter.mp he;have h2:=k.eu.lt e h1.1;have h3:e.2.1≠o.toNat:=of_decide_eq_true h1.2;exact⟨h2.1,h2.2.1,fun z=>((mem _).mp z).elim h2.2.2 fun y=>h3 (by lia)⟩}
  ·rcases (mem x).mp hx with z | z;{exact k.gl x z};{rw[z];exact hi}
 | pledge o pl =>
  obtain⟨i,e,hi,hg,hl⟩:=Ie (show plW A.n A.go A.es o pl = "" from h);have eo:o.toNat=i:=by lia
  refine⟨k.lg,k.n12,by show (A.es++[_]).length<=40;rw[Vf];show A.es.length+1<=40;lia,⟨?_,fun e he=>?_⟩,k.gl⟩
  ·show (List.map _ (A.es++[(A.co,o.toNat,pl)])).Pairwise _;rw[Vd,Z3];refine⟨k.eu.up,by simp,fun x hx y hy=>?_⟩;obtain⟨e,he,rfl⟩:=List.mem_map.mp hx;have hy':y=A.co:=by simpa using hy
   rw[hy'];exact (k.eu.lt e he).1
  ·rcases List.mem_append.mp he with z | z;{have:=k.eu.lt e z;exact⟨Wn this.1,this.2⟩};{rw[List.mem_singleton.mp z];exact⟨Xw _,by rw[eo];exact hi,by rw[eo];exact hg⟩}
 | hand ps=>exact⟨by show (seI A.g ps).length=A.n;rw[nU];exact k.lg,k.n12,k.l40,k.eu,k.gl⟩
 | change j pl =>
  refine⟨k.lg,k.n12,by show (chE A.es j pl).length<=40;unfold chE;rw[U7];exact k.l40,⟨by show ((chE A.es j pl).map _).Pairwise _;rw[Az];exact k.eu.up,fun e he=>?_⟩,k.gl⟩;obtain⟨e',h1,h2,h3⟩:=O2 he;rw[h2,h3];exact k.eu.lt e' h1
 | withdraw j=>exact⟨k.lg,k.n12,VH (Wq _ _) k.l40,⟨k.eu.up.sublist (List.filter_sublist.map _),fun e he=>k.eu.lt e (List.mem_filter.mp he).1⟩,k.gl⟩
section
variable {n:Nat}{H:Hp}
theorem TbR.drop {k:Int}:∀ {kvs:EU} {es:List Ent},TbR n H kvs es->TbR n H (zE kvs (Wi k)) (wiE es k)
 | _,_,.nil=>.nil
 | _,_,.cons (num:=num) h q r=>by
  unfold zE wiE;by_cases z:(num:Int)=k;{rw[XJ (by rw[z];simp),XJ (by rw[z];simp)];exact TbR.drop r};{rw[XH (by exact dcT fun y=>z (aa9 y)),XH (by exact dcT z)];exact .cons h q (TbR.drop r)}
theorem TbR.put {k:Int}{t p:Addr}{one:Nat}{pl:Pl}(ht:H t=some (.tup [vN one,.ref p]))(hp:j9 n H p pl):∀ {kvs:EU} {es:List Ent},TbR n H kvs es->(∀ e∈es,(e.1:Int)=k->e.2.1=one)->TbR n H (kvs.map fun kv=>if kv.1=Wi k then (kv.1,.ref t) else kv) (chE es k pl)
 | _,_,.nil,_=>.nil
 | _,_,.cons (num:=num) (one:=o2) (pl:=pl2) (es:=es) h q r,he=>by
  have ih:=TbR.put (k:=k) ht hp r fun e hm=>he e (Vp _ hm);unfold chE at ih ⊢;rw[Wk,Wk];by_cases z:(num:Int)=k;{rw[iPo (show (Wi (num:Int):Key)=Wi k by rw[z]),iPo (show ((num,o2,pl2):Ent).1=(k:Int) from z)];have eo:o2=one:=he _ Vm z;exact .cons (by rw[eo];exact ht) hp ih};{rw[iNe (show ¬ (Wi (num:Int):Key)=Wi k from fun y=>z (aa9 y)),iNe (show ¬ ((num,o2,pl2):Ent).1=(k:Int) from z)];exact .cons h q ih}
def TbR.find {k:Int}{e:Ent}{kvs:EU}{es:List Ent}(r:TbR n H kvs es)(nd:(es.map (·.1)).Nodup)(h:fnE es k=some e):∃ (t p:Addr),tK kvs (Wi k)=some (.ref t)/\H t=some (.tup [vN e.2.1,.ref p])/\j9 n H p e.2.2:=by
 obtain⟨hm,hk⟩:=gq h;obtain⟨i,hi⟩:=List.getElem?_of_mem hm;obtain⟨t,p,h1,h2,h3⟩:=r.val nd hi;rw[hk] at h1;exact⟨t,p,h1,h2,h3⟩
end
abbrev lC:Stmt:=top 67
def wD:aD WE WE (az lC):=cJ
inductive Ce (vs:E6)(H:Hp)(Q:VK)(e3:XK):Prop where
 | mk (be a ta:Addr) (one n:Nat) (g:DC) (go:DD) (es:List Ent) (co:Nat) (kv:EU) (es':List Ent) (_:vs=[.ref a,vN one,.ref ta]) (_:StR be n H a g go es co) (_:g.length=n) (_:one < n) (_:H ta=some (.dK kv)) (_:TbR n H kv es') (_:(es'.map (·.1)).Pairwise (· < ·)) (_:es'.length<=40) (_:∀ (c:Bool) (H':Hp),aH H H'->(c=true ↔ bdW g es' one≠"")->Q (.bl c) H')
def yI {k:Nat} (hk:2<=k) (F:Fun K "_law_bound" "_law_bound" lC f fd) (B:Bt mg) (Qr:Df P w K mg base "_law_listed" 2 XU qL) (QN:Df P w K mg base "_law_owed" k Xs (yz K)):aZ P w K mg base CX0 (k+1) f fd WE Ce:=by
 refine okA F wD fun H Q E hr h=>?_;obtain⟨be,a,ta,one,n,g,go,es,co,kv,es',rfl,hst,lg,hone,hta,tb,up,l40,q⟩:=h;refine⟨_,(sR (cT jL (pxT K (pxT K (pv 0) ao) (pv 1)) (aO QN hr (aq (aO Qr hr (v2 2 1)) (a1 (pxT K (pv 0) ao)))))),?_⟩;obtain⟨pa,ga,ta0,kvs,h1,h2,h3,h4,h5,h6⟩:=hst;have hol:one < g.length:=by lia
 have gei:g.getD one 0=g[one]:=by rw[Vz,Vg hol];rfl
 refine⟨O,a,Y,sqT h1,gt1,O,ga,Y,sqT h3,jH hol,G,ta,(one:Int),n,kv,es',U,hta,tb,up,l40,fun l as H1 s1 _ e1 las ps=>⟨O,a,Y,sqT (s1 _ _ h1),gt1,l,ga,n,as,_,O,e1,by lia,ps,sqT (s1 _ _ h3),by lia,fun H2 s2=>?_⟩⟩;refine⟨M,q _ _ (s1.trans s2) ?_⟩;rw[Ru tb.ok];unfold bdW;rw[gei];by_cases z:mxD 0 (owL es' one g) < g[one];{rw[iPo z,dcT z];exact⟨fun _=>by decide,fun _=>U⟩};{rw[iNe z,dcF z];exact⟨fun y=>(by cases y),fun y=>absurd rfl y⟩}
abbrev eY:Stmt:=top 70
def iJ:aD ["_law_state","_law_deed_here","_law_table"] WP (az eY):=cJ
def twE (es:List Ent):tG->List Ent
 | .change k pl=>chE es k pl
 | .withdraw k=>wiE es k
 | _=>es
def twK:tG->Da
 | .change k _=>some k
 | .withdraw k=>some k
 | _=>none
inductive zx (vs:E6)(H:Hp)(Q:VK)(e3:XK):Prop where
 | mk (be a da:Addr) (A:Sa) (d:tG) (k:Int) (e:Ent) (_:vs=[.ref a,.ref da]) (_:StR be A.n H a A.g A.go A.es A.co) (_:AOk A) (_:DeR A.n H da d) (_:twK d=some k) (_:fnE A.es k=some e) (_:∀ (ta:Addr) (kv:EU) (H':Hp),aH H H'->H' ta=some (.dK kv)->TbR A.n H' kv (twE A.es d)->Q (.ref ta) H')
def o6 (F:Fun K "_law_table_with" "_law_table_with" eY f fd) (B:Bt mg) (OU:mg "dict" = none):aZ P w K mg base CX0 1 f fd WP zx:=by
 refine okA F iJ fun H Q E hr h=>?_;obtain⟨be,a,da,S,d,k,e,rfl,hst,ok,hd,hk,hf,q⟩:=h
 refine⟨_,(aj (sT 2 iJ.nd (aW (r:=Ag) sU U OU HD (a1 (pxT K (pv 0) ao))))
 (aj (bR (aA aQ (pxT K (pv 1) ao) aC) (aB (zZ hr.iT (pv 2) (pxT K (pv 1) ao) (aP (aq (pxT K (jM hr.iT (pv 2) (pxT K (pv 1) ao) (fun _ _=>U)) ao) (a1 (pxT K (pv 1) ao)))) U)) (aB (aX (KJ (pv 2) (pxT K (pv 1) ao) ⟨U,U,U,U⟩))))
 (sR (pv 2)))),?_⟩
 obtain⟨pa,ga,ta,kvs,h1,h2,h3,h4,h5,h6⟩:=hst;have nd:=ok.eu.nd;have l40:=ok.l40;have lk:=h5.length;obtain⟨t,p0,hv,ht,hp0⟩:=h5.find nd hf;obtain⟨hm,hek⟩:=gq hf;refine bL (fun σ H1=>∃ tb:Addr,σ=[oR a,oR da,oR tb]/\aH H H1/\H tb=none/\H1 tb=some (.dK kvs)) ?_ ?_;{intro N Rc;exact⟨O,a,Y,sqT h1,gt2,ta,kvs,U,h4,fun tb htb=>Rc _ _ ⟨tb,U,au htb _,htb,aa⟩⟩};rintro σ H1 ⟨tb,rfl,s1,ftb,etb⟩;refine gm (fun σ H2=>∃ kv:EU,σ=[oR a,oR da,oR tb]/\aH H H2/\H2 tb=some (.dK kv)/\TbR S.n H2 kv (twE S.es d)) ?q1 ?t1
 case q1 =>
  rintro σ H2 ⟨kv,rfl,s2,e2,r2⟩;exact⟨O,q tb kv H2 s2 e2 r2⟩
 case t1 =>
 intro N Rc;cases hd with
 | come h=>cases hk
 | leave h=>cases hk
 | pledge h _=>cases hk
 | hand h _ _ _=>cases hk
 | change hda hp =>
  rename_i k' p pl;obtain rfl:k'=k:=VV hk;refine⟨O,da,Y,sqT (s1 _ _ hda),J,?_⟩;rw[show decide (V.str "change" = V.str "change")=true from dcT U];have dg:rT H1 tb (.int k') (some (.ref t)):=by
   rw[← hv];exact rT.k (k:=Wi k') etb
  refine cL ⟨G,da,Y,sqT (s1 _ _ hda),gt1,tb,O,dg,t,Y,sqT (s1 _ _ ht),gt0,O,da,Y,sqT (s1 _ _ hda),gt2,smN 2,fun t2 ht2=>?_⟩;have sn:=au ht2 (.tup [vN e.2.1,.ref p]);have etb':=sn _ _ etb;have ntt:tb≠t2:=fun z=>by rw[z,ht2] at etb;cases etb
  have tk:∀ b ys,upd H1 t2 (.tup [vN e.2.1,.ref p]) b=some (HO.tup ys)->upd (upd H1 t2 (.tup [vN e.2.1,.ref p])) tb (.dK (putK kvs (Wi k') (.ref t2))) b=some (HO.tup ys):=fun b ys hb=>by rw[aF fun y=>by rw[y,etb'] at hb;cases hb];exact hb
  have eput:putK kvs (Wi k') (.ref t2)=kvs.map fun kv=>if kv.1=Wi k' then (kv.1,.ref t2) else kv:=by
   unfold putK;rw[iPo (by rw[qy,hv];rfl)]
  refine⟨G,da,Y,sqT (sn _ _ (s1 _ _ hda)),gt1,tb,O,M7.k (k:=Wi k') etb' (Vc (show kvs.length < 1000 by lia) (by decide)),Rc _ _ ⟨O,aM (s1.trans sn) ftb _,aa,?_⟩⟩;have mono:∀ b ys,H b=some (HO.tup ys)->upd (upd H1 t2 (.tup [vN e.2.1,.ref p])) tb (.dK (putK kvs (Wi k') (.ref t2))) b=some (HO.tup ys):=fun b ys hb=>tk _ _ (sn _ _ (s1 _ _ hb));have r1:TbR S.n (upd (upd H1 t2 (.tup [vN e.2.1,.ref p])) tb (.dK (putK kvs (Wi k') (.ref t2)))) kvs S.es:=h5.aL mono;rw[eput] at r1 mono tk ⊢;exact TbR.put (k:=k') (tk _ _ aa) (hp.aL mono) r1 fun e' he' z=>by rw[Gw nd he' hm (by lia)]
 | withdraw hda =>
  rename_i k';obtain rfl:k'=k:=VV hk;refine⟨O,da,Y,sqT (s1 _ _ hda),J,?_⟩;rw[show decide (V.str "withdraw" = V.str "change")=false from dcF bf];refine bK ⟨O,tb,U,?_,O,da,Y,sqT (s1 _ _ hda),gt1,kvs,Wi k',_,etb,U,hv,Rc _ _ ⟨O,aM s1 ftb _,aa,?_⟩⟩;{exact .inl ⟨kvs,.inl etb⟩};{refine TbR.drop (h5.aL fun b ys hb=>?_);have hb1:=s1 _ _ hb;rw[aF fun y=>by rw[y,etb] at hb1;cases hb1];exact hb1}
def nNx {N:St->Hp->Prop}{r:V->Hp->Prop}{σ:St}{H:Hp}(h:N σ H):KH { nx:=N,rt:=r } σ H:=h
abbrev jh:Stmt:=top 71
def iz:aD ["_law_state","_law_deed_here","_law_word_here","_law_one"] WP (az jh):=cJ
inductive wR (vs:E6)(H:Hp)(Q:VK)(e3:XK):Prop where
 | mk (be a da:Addr) (A:Sa) (d:tG) (_:vs=[.ref a,.ref da]) (_:StR be A.n H a A.g A.go A.es A.co) (_:AOk A) (_:DeR A.n H da d) (_:∀ H',aH H H'->Q (.str (reW A d)) H')
def tW {k:Nat} (hk:5<=k) (F:Fun K "_law_refusal" "_law_refusal" jh f fd) (B:Bt mg) (QE:Df P w K mg base "_law_missing" 1 XT sS) (P8:Df P w K mg base "_law_good" 5 VW Ly)
  (Rw:Df P w K mg base "_law_rises_refusal" k WJ Bb) (PY:Df P w K mg base "_law_bound" k WE Ce) (RR:Df P w K mg base "_law_table_with" 1 WP zx):aZ P w K mg base CX0 (k+1) f fd WP wR:=by
 refine okA F iz fun H Q E hr h=>?_;obtain⟨be,a,da,S,d,rfl,hst,ok,hd,q⟩:=h
 refine⟨_,(aj (ifR (aA aQ (pxT K (pv 1) ao) aC) (jj (aA mC (pln K B.len_ (pxT K (pv 0) ao)) ao) aC aC))
 (aj (ifR (aA aQ (pxT K (pv 1) ao) aC) (aO Rw hr (aq (pv 0) (a1 (pxT K (pv 1) ao)))))
 (aj (bR (eQ (r:=rIn K false) dD (pxT K (pv 1) ao) (aP (aq aC (a1 aC))) U) (aj (sT 2 iz.nd (aO QE hr (aq (pv 0) (a1 (pxT K (pv 1) ao)))))
 (aj (bR (PW.pt (jU (aA aQ (pv 2) aC) (fP (aA aQ (pxT K (pv 1) ao) aC)))) (aj (ifR (dC (cj (aO P8 hr (aq (pv 0) (aq (pxT K (pv 1) ao) (a1 (pxT K (pv 1) ao))))))) aC)
 (sR (jj (aA mC (aN (r:=Qe) CT U B.len_ Lg (a1 (pxT K (pv 0) ao))) ao) aC aC))) aR)
 (sR (pv 2)))) aR)
 (aj (ifR (EY (Fe hr.iT (pxT K (pv 1) ao) (pxT K (pv 0) ao))) aC)
 (aj (sT 3 iz.nd (pxT K (jM hr.iT (pxT K (pv 0) ao) (pxT K (pv 1) ao) (fun _ _=>U)) ao))
 (aj (ifR (PW.pt (jU (aA aQ (pxT K (pv 1) ao) aC) (fP (dC (cj (aO P8 hr (aq (pv 0) (aq (pv 3) (a1 (pxT K (pv 1) ao)))))))))) aC)
 (sR (jj (cj (aO PY hr (aq (pv 0) (aq (pv 3) (a1 (aO RR hr (v2 0 1))))))) aC aC)))))))),?_⟩
 obtain⟨pa,ga,ta,kvs,h1,h2,h3,h4,h5,h6⟩:=id hst;cases hd with
 | come hda =>
  refine⟨O,da,Y,sqT hda,J,eX U ⟨O,a,Y,sqT h1,gt0,pa,O,.inl (sqL h2),M,O,?_⟩⟩;rw[cu];have qq:=q H (aH.refl H);by_cases z:12<=S.n;{rw[dcT (by lia)];rw[show reW S .come = "full" from iPo z] at qq;exact cL qq};{rw[dcF (by lia)];rw[show reW S .come = "" from iNe z] at qq;exact bK qq}
 | leave hda =>
  rename_i o;refine⟨O,da,Y,sqT hda,J,aY bf (nN ⟨O,da,Y,sqT hda,J,aY bf (nN ⟨O,da,Y,sqT hda,gt0,smN 2,fun p1 hp1=>?_⟩)⟩)⟩;have sn:=au hp1 (.tup [.str "leave",.str "pledge"]);refine⟨p1,O,.inr (sqT aa),U,U,O,JD (by decide+kernel) ?_⟩;refine bL (fun σ H1=>σ=[oR a,oR da,some (.str (miW S.n S.go o)),none]/\H1=upd H p1 (.tup [.str "leave",.str "pledge"])) ?_ ?_;{intro N Rc;exact⟨G,da,Y,sqT (sn _ _ hda),gt1,be,a,o,S.n,S.g,S.go,S.es,S.co,U,hst.same sn,Rc _ _ ⟨U,U⟩⟩};rintro σ H1 ⟨rfl,rfl⟩;refine gm (fun σ H1=>σ=[oR a,oR da,some (.str (miW S.n S.go o)),none]/\H1=upd H p1 (.tup [.str "leave",.str "pledge"])) (fun σ H1 z=>by obtain⟨rfl,rfl⟩:=z;exact⟨O,q _ sn⟩) fun N Rc=>?_;refine jC (fun c H1=>c=false/\H1=upd H p1 (.tup [.str "leave",.str "pledge"])) (fun Q' Rq=>?_) (fun H1 z=>by cases z.1) (fun H1 z=>by obtain⟨-,rfl⟩:=z;exact Rc _ _ ⟨U,U⟩);refine⟨N,?_⟩;refine jx (fun _=>?_) (fun z=>Rq _ _ ⟨U,U⟩);refine⟨O,da,Y,sqT (sn _ _ hda),J,?_⟩;rw[show decide (V.str "leave" = V.str "pledge")=false from dcF bf];exact Rq _ _ ⟨U,U⟩
 | pledge hda hp =>
  rename_i o p pl;refine⟨O,da,Y,sqT hda,J,aY bf (nN ⟨O,da,Y,sqT hda,J,aY bf (nN ⟨O,da,Y,sqT hda,gt0,smN 2,fun p1 hp1=>?_⟩)⟩)⟩;have sn:=au hp1 (.tup [.str "leave",.str "pledge"]);refine⟨p1,O,.inr (sqT aa),U,U,O,JD (by decide+kernel) ?_⟩;refine gm (fun σ H1=>σ=[oR a,oR da,some (.str (miW S.n S.go o)),none]/\H1=upd H p1 (.tup [.str "leave",.str "pledge"])) ?qP0 ?tP0
  case tP0 =>
   intro N Rc;exact⟨G,da,Y,sqT (sn _ _ hda),gt1,be,a,o,S.n,S.g,S.go,S.es,S.co,U,hst.same sn,Rc _ _ ⟨U,U⟩⟩
  case qP0 =>
  rintro σ H1 ⟨rfl,rfl⟩;refine gm (fun σ H1=>σ=[oR a,oR da,some (.str (miW S.n S.go o)),none]/\H1=upd H p1 (.tup [.str "leave",.str "pledge"])/\¬ miW S.n S.go o = "") ?qP1 ?tP1
  case qP1 =>
   rintro σ H1 ⟨rfl,rfl,z⟩;have e:reW S (.pledge o pl)=miW S.n S.go o:=by
    show plW _ _ _ _ _=_;unfold plW;rw[iPo z]
   rw[e] at q;exact⟨O,q _ sn⟩
  case tP1 =>
  intro N Rc;refine jC (fun c H1=>H1=upd H p1 (.tup [.str "leave",.str "pledge"])/\c=decide (miW S.n S.go o = "")) (fun Q' Rq=>?_) ?pl (fun H1 z=>by obtain⟨rfl,y⟩:=z;exact Rc _ _ ⟨U,U,of_decide_eq_false y.symm⟩)
  ·refine⟨N,?_⟩;by_cases z:miW S.n S.go o = "";{rw[show decide (V.str (miW S.n S.go o)=V.str "")=true from dcT (by rw[z])];refine cL ⟨O,da,Y,sqT (sn _ _ hda),J,?_⟩;rw[show decide (V.str "pledge" = V.str "pledge")=true from dcT U];exact Rq _ _ ⟨U,(dcT z).symm⟩};{rw[show decide (V.str (miW S.n S.go o)=V.str "")=false from dcF (km z)];exact bK (Rq _ _ ⟨U,(dcF z).symm⟩)}
  case pl =>
   rintro H1 ⟨rfl,z⟩;have z:=of_decide_eq_true z.symm;obtain⟨i,rfl,hi,hg⟩:=uy z;have e0:reW S (.pledge (i:Int) pl)=if ∃ x∈pl,nn i x.2=false then ("bad pledge" : VB) else if 40<=S.es.length then "full" else "":=by
    show plW _ _ _ _ _=_;unfold plW;rw[z,iNe (fun y=>y U),VL]
   rw[e0] at q;have n12:=ok.n12;refine bL (fun σ H2=>σ=[oR a,oR da,some (.str (miW S.n S.go (i:Int))),none]/\aH H H2/\¬ ∃ x∈pl,nn i x.2=false) ?_ ?_
   ·intro N Rc;refine⟨G,da,Y,sqT (sn _ _ hda),gt1,O,da,Y,sqT (sn _ _ hda),gt2,be,a,p,i,S.n,S.g,S.go,S.es,S.co,pl,U,hst.same sn,hp.mono sn,by lia,n12,fun y H2 s2=>?_,fun y H2 s2=>?_⟩
    ·refine⟨false,U,?_⟩;show if (!false)=true then _ else _
     rw[iPo y] at q;exact cL (q _ (sn.trans s2))
    ·refine⟨true,U,?_⟩;show if (!true)=true then _ else _
     exact bK (Rc _ _ ⟨U,sn.trans s2,y⟩)
   rintro σ H2 ⟨rfl,s2,hn⟩;rw[iNe hn] at q;refine⟨O,a,Y,sqT (s2 _ _ h1),gt2,ta,kvs,U,s2 _ _ h4,M,O,?_⟩;rw[h5.length];by_cases y:40<=S.es.length;{rw[dcT (by lia)];rw[iPo y] at q;exact cL (q _ s2)};{rw[dcF (by lia)];rw[iNe y] at q;exact bK (q _ s2)}
 | hand hda hr' hri lp =>
  rename_i r us ps;exact⟨O,da,Y,sqT hda,J,aY bf (nN ⟨O,da,Y,sqT hda,J,eX U ⟨G,da,Y,sqT hda,gt1,be,a,r,S.n,S.g,S.go,S.es,S.co,us,ps,U,hst,ok.lg,ok.eu,ok.l40,hr',hri,lp,q⟩⟩)⟩
 | change hda hp =>
  rename_i k' p pl;refine⟨O,da,Y,sqT hda,J,aY bf (nN ⟨O,da,Y,sqT hda,J,aY bf (nN ⟨O,da,Y,sqT hda,gt0,smN 2,fun p1 hp1=>?_⟩)⟩)⟩;have sn:=au hp1 (.tup [.str "leave",.str "pledge"]);refine⟨p1,O,.inr (sqT aa),U,U,O,j8 (by decide+kernel) (nN ?_)⟩;generalize eH1:upd H p1 _=H1 at sn ⊢;have ew:reW S (.change k' pl)=chW S.g S.es k' pl:=rfl;rw[ew] at q;have dg:∀ (o:EW),tK kvs (Wi k')=o->rT H1 ta (.int k') o:=fun o ho=>by
   rw[← ho];exact rT.k (k:=Wi k') (sn _ _ h4)
  cases hf:fnE S.es k' with
  | none =>
   have e0:chW S.g S.es k' pl = "no pledge":=by unfold chW;rw[hf]
   rw[e0] at q;exact⟨O,da,Y,sqT (sn _ _ hda),gt1,O,a,Y,sqT (sn _ _ h1),gt2,ta,none,U,dg none (h5.none (uZ hf)),O,cL (q _ sn)⟩
  | some e =>
   obtain⟨t,p0,hv,ht,hp0⟩:=h5.find ok.eu.nd hf;obtain⟨hm,hek⟩:=gq hf;have hlt:=ok.eu.lt e hm;have n12:=ok.n12;refine⟨O,da,Y,sqT (sn _ _ hda),gt1,O,a,Y,sqT (sn _ _ h1),gt2,ta,some (.ref t),U,dg _ hv,O,bK (nNx ?_)⟩;refine bL (fun σ H2=>σ=[oR a,oR da,none,some (vN e.2.1)]/\H2=H1) ?_ ?_;{intro N Rc;exact⟨O,a,Y,sqT (sn _ _ h1),gt2,O,da,Y,sqT (sn _ _ hda),gt1,ta,O,dg _ hv,t,Y,sqT (sn _ _ ht),gt0,Rc _ _ ⟨U,U⟩⟩};rintro σ H2 ⟨rfl,rfl⟩;have e0:chW S.g S.es k' pl=if ∃ x∈pl,nn e.2.1 x.2=false then ("bad pledge" : VB) else bdW S.g (chE S.es k' pl) e.2.1:=by unfold chW;rw[hf]
   rw[e0] at q;refine bL (fun σ H3=>σ=[oR a,oR da,none,some (vN e.2.1)]/\aH H2 H3/\¬ ∃ x∈pl,nn e.2.1 x.2=false) ?_ ?_
   ·intro N Rc;refine⟨O,da,Y,sqT (sn _ _ hda),J,eX U ⟨G,O,da,Y,sqT (sn _ _ hda),gt2,be,a,p,(e.2.1:Nat),S.n,S.g,S.go,S.es,S.co,pl,U,hst.same sn,hp.mono sn,by lia,n12,fun y H3 s3=>?_,fun y H3 s3=>?_⟩⟩
    ·refine⟨false,U,?_⟩;show if (!false)=true then _ else _
     rw[iPo y] at q;exact cL (q _ (sn.trans s3))
    ·refine⟨true,U,?_⟩;show if (!true)=true then _ else _
     exact bK (Rc _ _ ⟨U,s3,y⟩)
   rintro σ H3 ⟨rfl,s3,hn⟩;rw[iNe hn] at q;have s03:=sn.trans s3;refine⟨G,G,be,a,da,S,(.change k' pl),k',e,U,hst.same s03,ok,.change (s03 _ _ hda) (hp.mono s03),U,hf,fun tb kv H4 s4 e4 r4=>⟨be,a,tb,e.2.1,S.n,S.g,S.go,S.es,S.co,kv,O,hst.same (s03.trans s4),ok.lg,hlt.2.1,e4,r4,?_,?_,fun c H5 s5 hc=>⟨c,U,?_⟩⟩⟩;{show ((chE S.es k' pl).map _).Pairwise _;rw[Az];exact ok.eu.up};{show (chE S.es k' pl).length<=40;unfold chE;rw[U7];exact ok.l40}
   ·have hb:bdW S.g (chE S.es k' pl) e.2.1=if mxD 0 (owL (chE S.es k' pl) e.2.1 S.g) < S.g.getD e.2.1 0 then ("bound" : VB) else "":=rfl
    by_cases y:mxD 0 (owL (chE S.es k' pl) e.2.1 S.g) < S.g.getD e.2.1 0;{rw[iPo y] at hb;rw[hb] at q;have:c=true:=hc.mpr (by show bdW S.g (chE S.es k' pl) e.2.1≠"";rw[hb];decide);rw[this];exact cL (q _ (s03.trans (s4.trans s5)))}
    ·rw[iNe y] at hb;rw[hb] at q;have:c=false:=by
      cases c with
      | false=>rfl
      | true=>exact absurd hb (hc.mp U)
     rw[this];exact bK (q _ (s03.trans (s4.trans s5)))
 | withdraw hda =>
  rename_i k';refine⟨O,da,Y,sqT hda,J,aY bf (nN ⟨O,da,Y,sqT hda,J,aY bf (nN ⟨O,da,Y,sqT hda,gt0,smN 2,fun p1 hp1=>?_⟩)⟩)⟩;have sn:=au hp1 (.tup [.str "leave",.str "pledge"]);refine⟨p1,O,.inr (sqT aa),U,U,O,j8 (by decide+kernel) (nN ?_)⟩;generalize eH1:upd H p1 _=H1 at sn ⊢;have ew:reW S (.withdraw k')=wiW S.g S.es k':=rfl;rw[ew] at q;have dg:∀ (o:EW),tK kvs (Wi k')=o->rT H1 ta (.int k') o:=fun o ho=>by
   rw[← ho];exact rT.k (k:=Wi k') (sn _ _ h4)
  cases hf:fnE S.es k' with
  | none =>
   have e0:wiW S.g S.es k' = "no pledge":=by unfold wiW;rw[hf]
   rw[e0] at q;exact⟨O,da,Y,sqT (sn _ _ hda),gt1,O,a,Y,sqT (sn _ _ h1),gt2,ta,none,U,dg none (h5.none (uZ hf)),O,cL (q _ sn)⟩
  | some e =>
   obtain⟨t,p0,hv,ht,hp0⟩:=h5.find ok.eu.nd hf;obtain⟨hm,hek⟩:=gq hf;have hlt:=ok.eu.lt e hm;have n12:=ok.n12;refine⟨O,da,Y,sqT (sn _ _ hda),gt1,O,a,Y,sqT (sn _ _ h1),gt2,ta,some (.ref t),U,dg _ hv,O,bK (nNx ?_)⟩;refine bL (fun σ H2=>σ=[oR a,oR da,none,some (vN e.2.1)]/\H2=H1) ?_ ?_;{intro N Rc;exact⟨O,a,Y,sqT (sn _ _ h1),gt2,O,da,Y,sqT (sn _ _ hda),gt1,ta,O,dg _ hv,t,Y,sqT (sn _ _ ht),gt0,Rc _ _ ⟨U,U⟩⟩};rintro σ H2 ⟨rfl,rfl⟩;have e0:wiW S.g S.es k'=bdW S.g (wiE S.es k') e.2.1:=by unfold wiW;rw[hf]
   rw[e0] at q;refine bL (fun σ H3=>σ=[oR a,oR da,none,some (vN e.2.1)]/\aH H2 H3) ?_ ?_;{intro N Rc;refine⟨O,da,Y,sqT (sn _ _ hda),J,?_⟩;rw[show decide (V.str "withdraw" = V.str "change")=false from dcF bf];exact bK (bK (Rc _ _ ⟨U,aH.refl _⟩))};rintro σ H3 ⟨rfl,s3⟩;have s03:=sn.trans s3;refine⟨G,G,be,a,da,S,(.withdraw k'),k',e,U,hst.same s03,ok,.withdraw (s03 _ _ hda),U,hf,fun tb kv H4 s4 e4 r4=>⟨be,a,tb,e.2.1,S.n,S.g,S.go,S.es,S.co,kv,O,hst.same (s03.trans s4),ok.lg,hlt.2.1,e4,r4,?_,?_,fun c H5 s5 hc=>⟨c,U,?_⟩⟩⟩;{exact ok.eu.up.sublist (List.filter_sublist.map _)};{exact VH (Wq _ _) ok.l40}
   ·have hb:bdW S.g (wiE S.es k') e.2.1=if mxD 0 (owL (wiE S.es k') e.2.1 S.g) < S.g.getD e.2.1 0 then ("bound" : VB) else "":=rfl
    by_cases y:mxD 0 (owL (wiE S.es k') e.2.1 S.g) < S.g.getD e.2.1 0;{rw[iPo y] at hb;rw[hb] at q;have:c=true:=hc.mpr (by show bdW S.g (wiE S.es k') e.2.1≠"";rw[hb];decide);rw[this];exact cL (q _ (s03.trans (s4.trans s5)))}
    ·rw[iNe y] at hb;rw[hb] at q;have:c=false:=by
      cases c with
      | false=>rfl
      | true=>exact absurd hb (hc.mp U)
     rw[this];exact bK (q _ (s03.trans (s4.trans s5)))
abbrev lV:Stmt:=top 73
def yP:aD WP WP (az lV):=cJ
inductive Fx (vs:E6)(H:Hp)(Q:VK)(e3:XK):Prop where
 | mk (be a da:Addr) (A:Sa) (d:tG) (_:vs=[.ref a,.ref da]) (_:StR be A.n H a A.g A.go A.es A.co) (_:DeR A.n H da d) (_:Q (vaV A d) H)
def DeR.word {n:Nat} {H:Hp} {a:Addr} {d:tG} (h:DeR n H a d):∃ (w:VB) (r:E6),H a=some (.tup (.str w::r))/\((w = "come"/\d = .come)∨(w = "pledge"/\∃ o pl,d = .pledge o pl)∨(w≠"come"/\w≠"pledge"/\∀ A,vaV A d = .non)):=by
 cases h with
 | come h=>exact⟨_,_,h,.inl ⟨U,U⟩⟩
 | leave h=>exact⟨_,_,h,.inr (.inr ⟨by decide,by decide,fun _=>U⟩)⟩
 | pledge h _=>exact⟨_,_,h,.inr (.inl ⟨U,_,O⟩)⟩
 | hand h _ _ _=>exact⟨_,_,h,.inr (.inr ⟨by decide,by decide,fun _=>U⟩)⟩
 | change h _=>exact⟨_,_,h,.inr (.inr ⟨by decide,by decide,fun _=>U⟩)⟩
 | withdraw h=>exact⟨_,_,h,.inr (.inr ⟨by decide,by decide,fun _=>U⟩)⟩
def xJ (F:Fun K "_law_value" "_law_value" lV f fd) (B:Bt mg):aZ P w K mg base CX0 1 f fd WP Fx:=by
 refine okA F yP fun H Q E hr h=>?_;obtain⟨be,a,da,S,d,rfl,⟨pa,ga,ta,kvs,h1,h2,h3,h4,h5,h6⟩,hd,q⟩:=h
 refine⟨_,(aj (ifR (aA aQ (pxT K (pv 1) ao) aC) (pln K B.len_ (pxT K (pv 0) ao)))
 (aj (ifR (aA aQ (pxT K (pv 1) ao) aC) (pxT K (pv 0) ao))
 (sR LK))),?_⟩
 obtain⟨wd,r,hda,hw⟩:=hd.word;refine⟨O,da,Y,sqT hda,J,?_⟩;rcases hw with⟨rfl,rfl⟩ | ⟨rfl,o,pl,rfl⟩ | ⟨n1,n2,e⟩;{rw[show decide (V.str "come" = V.str "come")=true from dcT U];refine cL ⟨O,a,Y,sqT h1,gt0,pa,O,.inl (sqL h2),?_⟩;rw[cu];exact q};{rw[show decide (V.str "pledge" = V.str "come")=false from dcF bf];refine bK (nN ?_);exact⟨O,da,Y,sqT hda,J,eX U ⟨O,a,Y,sqT h1,dM (k:=3) U,q⟩⟩};{rw[show decide (V.str wd=V.str "come")=false from dcF (km n1)];refine bK (nN ?_);refine⟨O,da,Y,sqT hda,J,?_⟩;rw[show decide (V.str wd=V.str "pledge")=false from dcF (km n2)];refine bK (nN ?_);rw[e] at q;exact q}
abbrev mH:Stmt:=top 72
def cA:aD ["_law_state","_law_deed_here","_law_present","_law_green_there","_law_table","_law_coming_number","_law_left","_law_some","_law_number"] WP (az mH):=cJ
inductive FW (vs:E6)(H:Hp)(Q:VK)(e3:XK):Prop where
 | mk (be a da:Addr) (A:Sa) (d:tG) (o:HO) (_:vs=[.ref a,.ref da]) (_:StR be A.n H a A.g A.go A.es A.co) (_:H be=some o) (_:AOk A) (_:DeR A.n H da d) (_:reW A d = "") (_:∀ (a':Addr) (H':Hp),aH H H'->StR be (A.aft d).n H' a' (A.aft d).g (A.aft d).go (A.aft d).es (A.aft d).co->Q (.ref a') H')
def Km {n:Nat}{go:DD}(h:∀ x∈go,x < n):prF (n+1) go=prF n go++[.bl true]:=by
 unfold prF;rw[aa0,Vd];congr 1;show[V.bl (decide (n ∉ go))]=_;rw[dcT (show n ∉ go from fun z=>Wj _ (h n z))]
theorem IK {n:Nat} {g:DC} {go:DD}:∀ {ps:C3} {seen:DD},riW n g go seen ps = ""->∀ x∈ps,∃ j:Nat,x.1=j/\j < n
 | [],_,_,x,hx=>by cases hx
 | y::r,seen,h,x,hx=>by
  rw[riW] at h;by_cases z:miW n go y.1≠"";{rw[iPo z] at h;exact absurd h z}
  ·rw[iNe z] at h;split at h;{exact absurd h (by decide)}
   ·rcases List.mem_cons.mp hx with e | e;{obtain⟨j,ej,hj,_⟩:=uy (Classical.not_not.mp z);rw[e];exact⟨j,ej,hj⟩};{exact IK h x e}
def Fo {n:Nat} {g:DC} {go:DD} {es:List Ent} {ps:C3} (h:haW n g go es ps = ""):∀ x∈ps,∃ j:Nat,x.1=j/\j < n:=by
 unfold haW at h;by_cases z:ps=[];{rw[iPo z] at h;exact absurd h (by decide)}
 ·rw[iNe z] at h;by_cases y:riW n g go [] ps≠"";{rw[iPo y] at h;exact absurd h y};{exact IK (Classical.not_not.mp y)}
def wU (F:Fun K "_law_after" "_law_after" mH f fd) (B:Bt mg) (OU:mg "dict" = none) (P9:Df P w K mg base "_law_green" 1 WJ uH) (RR:Df P w K mg base "_law_table_with" 1 WP zx):aZ P w K mg base CX0 2 f fd WP FW:=by
 refine okA F cA fun H Q E hr h=>?_;obtain⟨be,a,da,S,d,ob,rfl,hst,hbe,ok,hd,hw,q⟩:=h
 refine⟨_,(aj (yp (pv 0) (d7 (K:=K) 4 U U (aV (rO (i:=2) cA.nd U (Zn U)) (aV (pgN 3 cA.nd) (aV (pgN 4 cA.nd) (aV (pgN 5 cA.nd) dY))))))
 (aj (ifR (aA aQ (pxT K (pv 1) ao) aC) (aP (aq (aK rF (pv 2) (bc (a1 fG))) (aq (aK (r:=iG K) gA (pv 3) (aP (a1 ao))) (v2 4 5)))))
 (aj (bR (aA aQ (pxT K (pv 1) ao) aC) (aj (lF (L:=["_law_at"]) (F:=["_law_present","_law_deed_here"]) (cap:=[2,1]) (j:=6) cA.nd U (Za U) U (bj U U (by kernel_rfl)) (bN U B.range_ (a1 (pln K B.len_ (pv 2)))) (fun _ _ _ _ _=>(pgC 0)) (fun _ _ _ _ _=>cI) (fun _ _ _ _ _=>(dX (pxL K (pv 1) (pv 0)) (iK (cT vm (pv 0) (pxT K (pv 2) ao))))))
 (aj (sT 7 cA.nd vJ)
 (aj (cP V4 U (dB (aN (r:=yq) (j5 U) U B.sorted_ (by decide+kernel) (v1 4))) (pgN 8 cA.nd) (aB (bR (aA vm (pxT K (jM hr.iT (pv 4) (pv 8) (fun _ _=>U)) ao) (pxT K (pv 1) ao)) (aB (zZ hr.iT (pv 7) (pv 8) (jM hr.iT (pv 4) (pv 8) (fun _ _=>U)) U)) aR)))
 (sR (aP (aq (pv 6) (aq (pv 3) (v2 7 5)))))))) aR)
 (aj (bR (aA aQ (pxT K (pv 1) ao) aC) (aj (sT 7 cA.nd (aW (r:=Ag) sU U OU HD (v1 4)))
 (aj (zZ hr.iT (pv 7) (pv 5) (aP (aq (pxT K (pv 1) ao) (a1 (pxT K (pv 1) ao)))) U)
 (sR (aP (aq (pv 2) (aq (pv 3) (aq (pv 7) (a1 (aK bD (pv 5) ao))))))))) aR)
 (aj (ifR (aA aQ (pxT K (pv 1) ao) aC) (aP (aq (pv 2) (aq (aO P9 hr (aq (pv 0) (a1 (pxT K (pv 1) ao)))) (v2 4 5)))))
 (sR (aP (aq (pv 2) (aq (pv 3) (aq (aO RR hr (v2 0 1)) (v1 5))))))))))),?_⟩
 obtain⟨pa,ga,ta,kvs,h1,h2,h3,h4,h5,h6⟩:=id hst;have new:∀ {H1:Hp} {l:Addr},aH H H1->H1 l=none->l≠be:=fun s hl z=>by rw[z,s _ _ hbe] at hl;cases hl
 have l40:=ok.l40;refine bL (fun σ H1=>σ=[oR a,oR da,oR pa,oR ga,oR ta,some (vN S.co),none,none,none]/\H1=H) ?_ ?_;{intro N Rc;exact⟨O,a,O,sqT h1,U,_,O,_,O,_,O,M,Rc _ _ ⟨U,U⟩⟩};rintro σ H1 ⟨rfl,rfl⟩;cases hd with
 | come hda =>
  refine⟨O,da,Y,sqT hda,J,eX U ⟨O,smN 1,fun p1 hp1=>?_⟩⟩;generalize eF1:upd H1 p1 _=F1;obtain⟨gf1,ef1⟩:=aG eF1 hp1;have n12:=ok.n12;have lg:=ok.lg;refine⟨pa,p1,M,gf1 _ _ h2,ef1,small (by rw[cu];show S.n+1<=1000;lia),fun p2 hp2=>?_⟩;generalize eF2:upd F1 p2 _=F2;obtain⟨gf2,ef2⟩:=aG eF2 hp2;rw[← Km ok.gl] at ef2;refine⟨O,smN 1,fun p3 hp3=>?_⟩;generalize eF3:upd F2 p3 _=F3;obtain⟨gf3,ef3⟩:=aG eF3 hp3;have s13:=gf1.trans (gf2.trans gf3);refine Ql (s13 _ _ h3) ef3 (by rw[U7];show S.g.length+1<=1000;lia) fun p4 F4 s4 e4=>?_;refine⟨G,smN 4,fun p5 hp5=>?_⟩;generalize eF5:upd F4 p5 _=F5;obtain⟨gf5,ef5⟩:=aG eF5 hp5;have s15:=s13.trans (s4.trans gf5);refine q p5 F5 s15 ⟨p2,p4,ta,kvs,ef5,(gf3.trans (s4.trans gf5)) _ _ ef2,gf5 _ _ (e4.trans (by show _=some (HO.tup ((S.g++[0]).map V.int));rw[Vd];rfl)),s15 _ _ h4,(h5.aL fun a xs z=>s15 _ _ z).le (WY _),new gf1 hp2⟩
 | leave hda =>
  rename_i o;obtain⟨i,rfl,hi,hg⟩:=uy (show miW S.n S.go o = "" from hw);refine⟨O,da,Y,sqT hda,J,aY bf (nN ⟨O,da,Y,sqT hda,J,eX U ?_⟩)⟩;refine ?_;have n12:=ok.n12;refine bL (fun σ H2=>∃ pl:Addr,σ=[oR a,oR da,oR pa,oR ga,oR ta,some (vN S.co),oR pl,none,none]/\aH H1 H2/\H1 pl=none/\H2 pl=some (.lst (prF S.n (mR (S.go++[i]))))) ?_ ?_
  ·intro N Rc
   refine⟨O,pa,O,.inl (sqL h2),O,by rw[cu];lia,by rw[cu];lia,fun D hD=>cN (lo:=0) (n:=(((prF S.n S.go).length:Nat):Int).toNat) (fun j zs σ' H2=>(∃ u,σ'=[u,oR pa,oR da])/\aH H1 H2/\H2 D=some (.lst zs)/\zs=prF j (mR (S.go++[i])))
    ⟨⟨O⟩,au hD _,aa,U⟩ (fun j zs σ' H2 _ h=>h.2.2.1) ?_ ?_⟩
   ·rintro j zs σ' H2 hj ⟨⟨u,rfl⟩,sm,eD,rfl⟩;rw[cu] at hj;have hj':j < S.n:=by lia
    rw[WN];have nx:prF (j+1) (mR (S.go++[i]))=prF j (mR (S.go++[i]))++[.bl (decide (j ∉ S.go) && decide (j≠i))]:=by
     unfold prF;rw[aa0,Vd];congr 1;show[V.bl (decide (j ∉ mR (S.go++[i])))]=_;rw[← ack];congr 2;refine decide_eq_decide.mpr ?_;rw[(gj _).mem_iff,Zv,Xk];exact⟨fun h=>⟨fun z=>h (.inl z),fun z=>h (.inr z)⟩,fun h z=>z.elim h.1 h.2⟩
    refine gT ?_;refine⟨G,pa,_,_,.bl (decide (j ∉ S.go)),U,U,sqL (sm _ _ h2),cX (Hy hj'),?_⟩;have fin:∀ c:Bool,c=(decide (j ∉ S.go) && decide (j≠i))->H2 D=some (.lst (prF j (mR (S.go++[i]))))/\(prF j (mR (S.go++[i]))).length < sizeLine/\(∃ u:EW,[some (V.int (j:Int)),some (V.ref pa),some (V.ref da)]=[u,some (V.ref pa),some (V.ref da)])/\aH H1 (upd H2 D (.lst (prF j (mR (S.go++[i]))++[.bl c])))/\upd H2 D (.lst (prF j (mR (S.go++[i]))++[.bl c])) D=some (.lst (prF j (mR (S.go++[i]))++[.bl c]))/\prF j (mR (S.go++[i]))++[.bl c]=prF (j+1) (mR (S.go++[i])):=fun c hc =>
     ⟨eD,aJ (by rw[cu];lia),⟨O⟩,aM sm hD _,aa,by rw[nx,hc]⟩
    by_cases z:j∈S.go;{rw[dcF (not_not_intro z)] at fin ⊢;exact⟨false,U,bK (fin false U)⟩}
    ·rw[dcT z] at fin ⊢;refine⟨true,U,cL ⟨G,da,Y,sqT (sm _ _ hda),gt1,U,fin _ ?_⟩⟩;rw[YB];by_cases y:j=i;{rw[dcT (show V.int (j:Int)=V.int (i:Int) by rw[y]),dcF (not_not_intro y)];rfl};{rw[dcF (show ¬ V.int (j:Int)=V.int (i:Int) from fun x=>y (by injection x with x;lia)),dcT y];rfl}
   ·rintro zs σ' H2 ⟨_,sm,eD,rfl⟩;have e:(((prF S.n S.go).length:Nat):Int).toNat=S.n:=by rw[cu];lia
    rw[e] at eD;exact Rc _ _ ⟨D,U,sm,hD,eD⟩
  rintro σ H2 ⟨pl,rfl,s2,fpl,epl⟩;have up:=ok.eu.up;have nd:=ok.eu.nd;refine bL (fun σ H3=>∃ so:Addr,σ=[oR a,oR da,oR pa,oR ga,oR ta,some (vN S.co),oR pl,oR so,none]/\aH H2 H3/\H2 so=none/\H3 so=some (.dK [])) ?_ ?_;{intro N Rc so hso;exact Rc _ _ ⟨so,U,au hso _,hso,aa⟩};rintro σ H3 ⟨so,rfl,s3,fso,eso⟩;have s13:=s2.trans s3;have fso1:=s2.free fso;refine bL (fun σ H4=>∃ (u:EW) (kv:EU),σ=[oR a,oR da,oR pa,oR ga,oR ta,some (vN S.co),oR pl,oR so,u]/\aH H1 H4/\H4 pl=some (.lst (prF S.n (mR (S.go++[i]))))/\H4 so=some (.dK kv)/\TbR S.n H4 kv (S.es.filter fun e=>decide (e.2.1≠i))) ?_ ?_
  ·intro N Rc;refine⟨O,ta,kvs,S.es.map fun e=>(e.1:Int),U,s13 _ _ h4,h5.keys,by rw[U7];lia,fun ms pm sr l hl=>?_⟩;have em:=ok.eu.sort pm sr;subst em;generalize eH4:upd H3 l _=H4;obtain⟨s4,e4⟩:=aG eH4 hl;have nsl:so≠l:=fun z=>by rw[z,hl] at eso;cases eso
   have eso4:=s4 _ _ eso;have s14:=s13.trans s4
   refine⟨l,U,⟨_,sqL e4⟩,d8 (K:=K) (a:=l) (xs:=(S.es.map fun e=>(e.1:Int)).map V.int) (fun j σ H5=>∃ (u:EW) (kv:EU),σ=[oR a,oR da,oR pa,oR ga,oR ta,some (vN S.co),oR pl,oR so,u]/\aH H1 H5/\H5 pl=some (.lst (prF S.n (mR (S.go++[i]))))/\H5 l=some (.lst ((S.es.map fun e=>(e.1:Int)).map V.int))/\H5 so=some (.dK kv)/\TbR S.n H5 kv ((S.es.take j).filter fun e=>decide (e.2.1≠i)))
    ⟨_,[],U,s14,s4 _ _ (s3 _ _ epl),e4,eso4,by rw[V6];exact .nil⟩ (fun j σ H5 _ z=>by obtain⟨_,_,_,_,_,y,_⟩:=z;exact sqL y) ?_ ?_⟩
   ·rintro j x σ H5 hx ⟨u,kv,rfl,s5,epl5,el5,eso5,tb5⟩;rw[Vr,Vr] at hx;obtain⟨e,he,rfl⟩:∃ e,S.es[j]? = some e/\x = .int (e.1:Int):=by
     cases z:S.es[j]? with
     | none=>rw[z] at hx;cases hx
     | some e=>rw[z] at hx;cases hx;exact⟨e,U,U⟩
    obtain⟨t,p,hv,ht,hpp⟩:=h5.val nd he;have nx:=bZ.RG (n:=S.n) (p:=fun e:Ent=>decide (e.2.1≠i)) he;have dg:rT H5 ta (.int (e.1:Int)) (some (.ref t)):=by
     rw[← hv];exact rT.k (k:=Wi (e.1:Int)) (s5 _ _ h4)
    have lkv:=tb5.length;have lf:=Wq (fun e:Ent=>decide (e.2.1≠i)) (S.es.take j);rw[Vs] at lf;refine gN ?_;refine⟨G,ta,O,dg,t,Y,sqT (s5 _ _ ht),gt0,O,da,Y,sqT (s5 _ _ hda),gt1,U,O,?_⟩;by_cases z:e.2.1=i
    ·rw[show decide (vN e.2.1=V.int (i:Int))=true from dcT (by rw[z];rfl)];show if (!true)=true then _ else _
     refine bK (nN ⟨_,kv,U,s5,epl5,el5,eso5,?_⟩);rw[nx,iNe (by rw[dcF (not_not_intro z)];exact Ve),WR];exact tb5
    ·rw[show decide (vN e.2.1=V.int (i:Int))=false from dcF fun y=>z (by injection y with y;lia)];show if (!false)=true then _ else _
     have hno:tK kv (Wi (e.1:Int))=none:=tb5.none fun e' he' y=>by
      have m1:=List.mem_filter.mp he';obtain⟨k',hk',ek'⟩:=Zo m1.1;rw[Vs] at hk';rw[List.getElem_take] at ek';have je:=List.getElem?_eq_some_iff.mp he;have e1:(S.es.map (·.1))[k']'(by rw[U7];lia)=(S.es.map (·.1))[j]'(by rw[U7];exact je.1):=by
       rw[aaH,aaH,ek',je.2];lia
      have:=(ab3 nd).mp e1;lia
     refine cL ⟨G,ta,O,dg,G,so,O,M7.k (k:=Wi (e.1:Int)) eso5 (Vc (show kv.length < 1000 by lia) (by decide)),?_⟩;have tk:∀ b ys,H5 b=some (HO.tup ys)->upd H5 so (.dK (putK kv (Wi (e.1:Int)) (.ref t))) b=some (HO.tup ys):=fun b ys hb=>by rw[aF fun y=>by rw[y,eso5] at hb;cases hb];exact hb
     refine⟨_,O,aM s5 fso1 _,?_,?_,aa,?_⟩;{rw[aF fun y=>by rw[y,eso5] at epl5;cases epl5];exact epl5};{rw[aF nsl.symm];exact el5};{rw[BK _ hno,nx,iPo (dcT z)] at *;exact TbR.snoc (num:=e.1) (one:=e.2.1) (pl:=e.2.2) (tk _ _ (s5 _ _ ht)) ((hpp.aL fun a xs y=>s5 _ _ y).aL tk) (tb5.aL tk)}
   ·rintro σ H5 ⟨u,kv,rfl,s5,epl5,_,eso5,tb5⟩;rw[U7,U7,Vk] at tb5;exact Rc _ _ ⟨u,kv,U,s5,epl5,eso5,tb5⟩
  rintro σ H4 ⟨u,kv,rfl,s4,epl4,eso4,tb4⟩;refine⟨G,G,smN 4,fun p5 hp5=>?_⟩;have sn:=au hp5 (.tup [.ref pl,.ref ga,.ref so,vN S.co]);have s5:=s4.trans sn;refine q p5 _ s5 ⟨pl,ga,so,kv,aa,?_,s5 _ _ h3,sn _ _ eso4,?_,new (aH.refl _) fpl⟩;{show _=some (HO.lst (prF S.n (mR (S.go++[((i:Nat):Int).toNat]))));rw[VL];exact sn _ _ epl4};{show TbR S.n _ kv (S.es.filter fun e=>decide (e.2.1≠((i:Nat):Int).toNat));rw[VL];exact tb4.aL fun a xs y=>sn _ _ y}
 | pledge hda hp =>
  rename_i o p pl;obtain⟨i,rfl,hi,hg,hl⟩:=Ie (show plW S.n S.go S.es o pl = "" from hw);refine⟨O,da,Y,sqT hda,J,aY bf (nN ⟨O,da,Y,sqT hda,J,aY bf (nN ⟨O,da,Y,sqT hda,J,eX U ?_⟩)⟩)⟩;refine ?_;refine bL (fun σ H2=>∃ so:Addr,σ=[oR a,oR da,oR pa,oR ga,oR ta,some (vN S.co),none,oR so,none]/\aH H1 H2/\H1 so=none/\H2 so=some (.dK kvs)) ?_ ?_;{intro N Rc;exact⟨O,ta,kvs,U,h4,fun so hso=>Rc _ _ ⟨so,U,au hso _,hso,aa⟩⟩};rintro σ H2 ⟨so,rfl,s2,fso,eso⟩;have lk:=h5.length;have hno:tK kvs (Wi (S.co:Int))=none:=h5.none fun e he=>by have:=(ok.eu.lt e he).1;lia
  refine bL (fun σ H3=>∃ t:Addr,σ=[oR a,oR da,oR pa,oR ga,oR ta,some (vN S.co),none,oR so,none]/\aH H1 H3/\H3 so=some (.dK (kvs++[(Wi (S.co:Int),.ref t)]))/\H3 t=some (.tup [vN i,.ref p])) ?_ ?_
  ·intro N Rc;refine⟨O,da,Y,sqT (s2 _ _ hda),gt1,O,da,Y,sqT (s2 _ _ hda),gt2,smN 2,fun t ht=>?_⟩;have sn:=au ht (.tup [.int (i:Int),.ref p]);have eso':=sn _ _ eso;have nst:so≠t:=fun z=>by rw[z,ht] at eso;cases eso
   refine⟨G,so,O,M7.k (k:=Wi (S.co:Int)) eso' (Vc (show kvs.length < 1000 by lia) (by decide)),Rc _ _ ⟨t,U,aM (s2.trans sn) fso _,?_,?_⟩⟩;{rw[aa,BK _ hno]};{rw[aF nst.symm];exact aa}
  rintro σ H3 ⟨t,rfl,s3,eso3,et⟩;refine⟨G,G,M,smN 4,fun p5 hp5=>?_⟩;have sn:=au hp5 (.tup [.ref pa,.ref ga,.ref so,.int ((S.co:Int)+1)]);have s4:=s3.trans sn;refine q p5 _ s4 ⟨pa,ga,so,_,aa,s4 _ _ h2,s4 _ _ h3,sn _ _ eso3,?_,h6⟩;show TbR S.n _ _ (S.es++[(S.co,((i:Nat):Int).toNat,pl)]);rw[VL];exact TbR.snoc (sn _ _ et) (hp.aL fun a xs z=>s4 _ _ z) (h5.aL fun a xs z=>s4 _ _ z)
 | hand hda hr' hri lp =>
  rename_i r us ps;refine⟨O,da,Y,sqT hda,J,aY bf (nN ⟨O,da,Y,sqT hda,J,aY bf (nN ⟨O,da,Y,sqT hda,J,aY bf (nN ⟨O,da,Y,sqT hda,J,eX U ⟨G,O,da,Y,sqT hda,gt1,be,a,r,S.n,S.g,S.go,S.es,S.co,us,ps,U,hst,ok.lg,hr',hri,Fo (show haW S.n S.g S.go S.es ps = "" from hw),fun r2 H2 s2 e2=>⟨G,smN 4,fun p5 hp5=>?_⟩⟩⟩)⟩)⟩)⟩;have sn:=au hp5 (.tup [.ref pa,.ref r2,.ref ta,vN S.co]);have s5:=s2.trans sn;exact q p5 _ s5 ⟨pa,r2,ta,kvs,aa,s5 _ _ h2,sn _ _ e2,s5 _ _ h4,h5.aL fun a xs y=>s5 _ _ y,h6⟩
 | change hda hp =>
  rename_i k' p pl;refine⟨O,da,Y,sqT hda,J,aY bf (nN ⟨O,da,Y,sqT hda,J,aY bf (nN ⟨O,da,Y,sqT hda,J,aY bf (nN ⟨O,da,Y,sqT hda,J,aY bf (nN ?_)⟩)⟩)⟩)⟩;cases hf:fnE S.es k' with
  | none =>
   rw[show reW S (.change k' pl) = "no pledge" by show chW _ _ _ _=_;unfold chW;rw[hf]] at hw;exact absurd hw (by decide)
  | some e =>
   refine⟨G,G,be,a,da,S,(.change k' pl),k',e,U,hst,ok,.change hda hp,U,hf,fun tb kv H2 s2 e2 r2=>⟨O,smN 4,fun p5 hp5=>?_⟩⟩;have sn:=au hp5 (.tup [.ref pa,.ref ga,.ref tb,vN S.co]);have s5:=s2.trans sn;exact q p5 _ s5 ⟨pa,ga,tb,kv,aa,s5 _ _ h2,s5 _ _ h3,sn _ _ e2,r2.aL fun a xs y=>sn _ _ y,h6⟩
 | withdraw hda =>
  rename_i k';refine⟨O,da,Y,sqT hda,J,aY bf (nN ⟨O,da,Y,sqT hda,J,aY bf (nN ⟨O,da,Y,sqT hda,J,aY bf (nN ⟨O,da,Y,sqT hda,J,aY bf (nN ?_)⟩)⟩)⟩)⟩;cases hf:fnE S.es k' with
  | none =>
   rw[show reW S (.withdraw k') = "no pledge" by show wiW _ _ _=_;unfold wiW;rw[hf]] at hw;exact absurd hw (by decide)
  | some e =>
   refine⟨G,G,be,a,da,S,(.withdraw k'),k',e,U,hst,ok,.withdraw hda,U,hf,fun tb kv H2 s2 e2 r2=>⟨O,smN 4,fun p5 hp5=>?_⟩⟩;have sn:=au hp5 (.tup [.ref pa,.ref ga,.ref tb,vN S.co]);have s5:=s2.trans sn;exact q p5 _ s5 ⟨pa,ga,tb,kv,aa,s5 _ _ h2,s5 _ _ h3,sn _ _ e2,r2.aL fun a xs y=>sn _ _ y,h6⟩
mutual
def tmD:Tm->Dm
 | .free=>.tup [.str "free"]
 | .never=>.tup [.str "never"]
 | .gives i k=>.tup [.str "gives",.int (i:Int),.int k]
 | .sum c k=>.tup [.str "sum",.tup ((c.map fun i:Nat=>(i:Int)).map Dm.int),.int k]
 | .crowd c k m=>.tup [.str "crowd",.tup ((c.map fun i:Nat=>(i:Int)).map Dm.int),.int k,.int m]
 | .all ts=>.tup [.str "all",.tup (J0 ts)]
 | .any ts=>.tup [.str "any",.tup (J0 ts)]
def J0:List Tm->List Dm
 | []=>[]
 | t::r=>tmD t::J0 r
end
def yN {H:Hp}{b:Addr}{c:DD}(h:H b=some (.tup (c.map vN)))(l:c.length<=20):Rep H (.ref b) (.tup ((c.map fun i:Nat=>(i:Int)).map Dm.int)):=by
 rw[iy] at h;exact uO h (by rw[U7];lia)
mutual
theorem ir.rep {n:Nat}{H:Hp}:∀ {v:V} {t:Tm},ir n H v t->Rep H v (tmD t)
 | _,_,.free h=>by rw[tmD];exact .tup h (by show 1<=100000;decide) (.cons (.str _) .nil)
 | _,_,.never h=>by rw[tmD];exact .tup h (by show 1<=100000;decide) (.cons (.str _) .nil)
 | _,_,.gives h _ _ _=>by rw[tmD];exact .tup h (by show 3<=100000;decide) (.cons (.str _) (.cons (.int _) (.cons (.int _) .nil)))
 | _,_,.sum h hb _ _ l _ _ _=>by rw[tmD];exact .tup h (by show 3<=100000;decide) (.cons (.str _) (.cons (yN hb l) (.cons (.int _) .nil)))
 | _,_,.crowd h hb _ _ l _ _ _ _ _=>by rw[tmD];exact .tup h (by show 4<=100000;decide) (.cons (.str _) (.cons (yN hb l) (.cons (.int _) (.cons (.int _) .nil))))
 | _,_,.all h hb _ l6 rl=>by rw[tmD];exact .tup h (by show 2<=100000;decide) (.cons (.str _) (.cons (.tup hb (by lia) (bW.rep rl)) .nil))
 | _,_,.any h hb _ l6 rl=>by rw[tmD];exact .tup h (by show 2<=100000;decide) (.cons (.str _) (.cons (.tup hb (by lia) (bW.rep rl)) .nil))
theorem bW.rep {n:Nat}{H:Hp}:∀ {vs:E6} {ts:List Tm},bW n H vs ts->tH H vs (J0 ts)
 | _,_,.nil=>by rw[J0];exact .nil
 | _,_,.cons h r=>by rw[J0];exact .cons (ir.rep h) (bW.rep r)
end
mutual
theorem Ig:∀ t:Tm,(tmD t).dep<=2 * t.dep
 | .free=>by rw[tmD];decide
 | .never=>by rw[tmD];decide
 | .gives i k=>by rw[tmD];simp [Dm.dep,iD,Tm.dep]
 | .sum c k=>by
  rw[tmD,Dm.dep,iD,iD,Ez];simp [Dm.dep,iD,Tm.dep]
 | .crowd c k m=>by
  rw[tmD,Dm.dep,iD,iD,Ez];simp [Dm.dep,iD,Tm.dep]
 | .all ts=>by
  have:=uI ts;rw[tmD,Dm.dep,iD,iD,Dm.dep,Tm.dep];simp [Dm.dep,iD];lia
 | .any ts=>by
  have:=uI ts;rw[tmD,Dm.dep,iD,iD,Dm.dep,Tm.dep];simp [Dm.dep,iD];lia
theorem uI:∀ ts:List Tm,iD (J0 ts)<=2 * tdL ts
 | []=>by rw[J0,tdL,iD];decide
 | t::r=>by
  have h1:=Ig t;have h2:=uI r;rw[J0,iD,tdL];lia
end
abbrev G5:Stmt:=top 46
abbrev zj:Stmt:=top 48
def Oi:aD ZU ZU (az G5):=cJ
def Kz:aD ZU ZU (az zj):=cJ
inductive Hk (CS CB:Addr)(vs:E6)(H:Hp)(Q:VK)(e3:XK):Prop where
 | mk (b be:Addr) (n d co:Nat) (g:DC) (go:DD) (es:List Ent) (_:vs=[.ref b]) (_:vA CS CB n H b be d g go es co) (_:Q (.int (g.length:Int)) H)
inductive FN (CS CB:Addr)(vs:E6)(H:Hp)(Q:VK)(e3:XK):Prop where
 | mk (b be:Addr) (n d co:Nat) (g:DC) (go:DD) (es:List Ent) (_:vs=[.ref b]) (_:vA CS CB n H b be d g go es co) (_:∀ a,H a=some (.tup (g.map V.int))->Q (.ref a) H)
def O1 {CS CB:Addr} (F:Fun K "folk" "folk" G5 f fd) (B:Bt mg) (S:xK K CS) (T:vX K CB):aZ P w K mg base CX0 1 f fd ZU (Hk CS CB):=by
 refine okA F Oi fun H Q E hr h=>?_;obtain⟨b,be,n,d,co,g,go,es,rfl,⟨dx,nw,ah,xs,hb,hbe,lx,dx2,ga,goa,sa,us,hs,hga,hgoa,hsa,hes⟩,q⟩:=h;refine⟨_,(sR (pln K B.len_ (oh K U (pfd K 0)))),O,b,CB,dx,_,O,hb,T.cl,T.now,U,nw,CS,dx2,_,O,hs,S.cl,S.green,U,ga,O,.inr (sqT hga),?_⟩;rw[U7];exact q
def Jq {CS CB:Addr} (F:Fun K "green" "green" zj f fd) (B:Bt mg) (S:xK K CS) (T:vX K CB):aZ P w K mg base CX0 1 f fd ZU (FN CS CB):=by
 refine okA F Kz fun H Q E hr h=>?_;obtain⟨b,be,n,d,co,g,go,es,rfl,⟨dx,nw,ah,xs,hb,hbe,lx,dx2,ga,goa,sa,us,hs,hga,hgoa,hsa,hes⟩,q⟩:=h;exact⟨_,(sR (oh K U (pfd K 0))),O,b,CB,dx,_,O,hb,T.cl,T.now,U,nw,CS,dx2,_,O,hs,S.cl,S.green,U,q ga hga⟩
abbrev zP:Stmt:=top 47
def La:aD ZU ZU (az zP):=cJ
def thF (n:Nat)(go:DD):DD:=(Wx n).filter fun i=>decide (i ∉ go)
def Cm (n:Nat)(go:DD):thF (n+1) go=thF n go++if n∈go then [] else [n]:=by
 unfold thF;rw[aa0,Yu];congr 1;by_cases h:n∈go;{rw[iPo h,XJ (by rw[dcF (fun y=>y h)];exact Ve)];rfl};{rw[iNe h,XH (by exact dcT h)];rfl}
def zM (n:Nat)(go:DD):(thF n go).length<=n:=by
 have:=Wq (fun i=>decide (i ∉ go)) (Wx n);rw[Xd] at this;exact this
inductive Bj (CS CB:Addr)(vs:E6)(H:Hp)(Q:VK)(e3:XK):Prop where
 | mk (b be:Addr) (n d co:Nat) (g:DC) (go:DD) (es:List Ent) (_:vs=[.ref b]) (_:vA CS CB n H b be d g go es co) (_:g.length<=12) (_:∀ (a:Addr) (H':Hp),aH H H'->H a=none->H' a=some (.lst ((thF g.length go).map vN))->Q (.ref a) H')
def vh {CS CB:Addr} (F:Fun K "there" "there" zP f fd) (B:Bt mg) (S:xK K CS) (T:vX K CB) (Pm:Df P w K mg base "folk" 1 ZU (Hk CS CB)):aZ P w K mg base CX0 2 f fd ZU (Bj CS CB):=by
 refine okA F La fun H Q E hr h=>?_;obtain⟨b,be,n,d,co,g,go,es,rfl,hB,n12,q⟩:=h;refine⟨_,(sR (bU (L:=["one"]) (F:=ZU) (cap:=[0]) U (bj U U (by kernel_rfl)) (bN U B.range_ (a1 (aO Pm hr (v1 0)))) (fun _ _ _ _ _=>(pgC 0)) (fun _ _ _ _ _=>(jl (eQ (r:=rIn K true) pL (pv 0) (oh K U (pfd K 1)) U))) (fun _ _ _ _ _=>(pv 0)))),?_⟩;obtain⟨dx,nw,ah,xs,hb,hbe,lx,dx2,ga,goa,sa,us,hs,hga,hgoa,hsa,hes⟩:=id hB
 refine⟨O,b,be,n,d,co,g,go,es,U,hB,O,by lia,by lia,fun D hD=>cN (lo:=0) (n:=((g.length:Int)).toNat) (fun i zs σ' H2=>(∃ u,σ'=[u,oR b])/\aH H H2/\H2 D=some (.lst zs)/\zs=(thF i go).map vN)
  ⟨⟨O⟩,au hD _,aa,U⟩ (fun i zs σ' H2 _ h=>h.2.2.1) ?_ ?_⟩
 ·rintro i zs σ' H2 hi ⟨⟨u,rfl⟩,sm,eD,rfl⟩;rw[WN];have li:=zM i go;have nx:=Cm i go;refine⟨G,b,CB,dx,_,O,sm _ _ hb,T.cl,T.now,U,nw,CS,dx2,_,O,sm _ _ hs,S.cl,S.gone,U,goa,O,.inr (sqT (sm _ _ hgoa)),U,jA go,O,?_⟩;have e:inV (.int (i:Int)) (go.map vN)=decide (i∈go):=j0 i go;rw[iPo U,e];by_cases z:i∈go;{rw[dcT z];refine bK ⟨⟨O⟩,sm,eD,?_⟩;rw[nx,iPo z,WR]};{rw[dcF z];refine cL ⟨O,eD,aJ (by rw[U7];lia),⟨O⟩,aM sm hD _,aa,?_⟩;rw[nx,iNe z,Vd];rfl}
 ·rintro zs σ' H2 ⟨_,sm,eD,rfl⟩;exact q D H2 sm hD eD
abbrev sW:Stmt:=top 49
def Dv:aD ZU ZU (az sW):=cJ
abbrev vM:Stmt:=top 50
def HN:aD ZU ZU (az vM):=cJ
inductive uo (CS CB:Addr)(vs:E6)(H:Hp)(Q:VK)(e3:XK):Prop where
 | mk (b be:Addr) (n d co:Nat) (g:DC) (go:DD) (es:List Ent) (_:vs=[.ref b]) (_:vA CS CB n H b be d g go es co) (_:∀ (a:Addr) (us:E6) (H':Hp),aH H H'->H a=none->bZ n H us es->H' a=some (.lst us)->Q (.ref a) H')
def Ai {CS CB:Addr} (F:Fun K "pledges" "pledges" sW f fd) (B:Bt mg) (S:xK K CS) (T:vX K CB):aZ P w K mg base CX0 1 f fd ZU (uo CS CB):=by
 refine okA F Dv fun H Q E hr h=>?_;obtain⟨b,be,n,d,co,g,go,es,rfl,⟨dx,nw,ah,xs,hb,hbe,lx,dx2,ga,goa,sa,us,hs,hga,hgoa,hsa,hes⟩,q⟩:=h;exact⟨_,(sR (aW (r:=mq K) fL U B.list_ jF (a1 (oh K U (pfd K 0))))),O,b,CB,dx,_,O,hb,T.cl,T.now,U,nw,CS,dx2,_,O,hs,S.cl,S.standing,U,sa,O,.inr (sqT hsa),fun l hl=>q l us _ (au hl _) hl hes aa⟩
inductive CQ (CS CB:Addr)(vs:E6)(H:Hp)(Q:VK)(e3:XK):Prop where
 | mk (b be:Addr) (n d co:Nat) (g:DC) (go:DD) (es:List Ent) (_:vs=[.ref b]) (_:vA CS CB n H b be d g go es co) (_:Q (vN co) H)
def Hm {CS CB:Addr} (F:Fun K "coming" "coming" vM f fd) (B:Bt mg) (S:xK K CS) (T:vX K CB):aZ P w K mg base CX0 1 f fd ZU (CQ CS CB):=by
 refine okA F HN fun H Q E hr h=>?_;obtain⟨b,be,n,d,co,g,go,es,rfl,⟨dx,nw,ah,xs,hb,hbe,lx,dx2,ga,goa,sa,us,hs,hga,hgoa,hsa,hes⟩,q⟩:=h;exact⟨_,(sR (oh K U (pfd K 0))),O,b,CB,dx,_,O,hb,T.cl,T.now,U,nw,CS,dx2,_,O,hs,S.cl,S.coming,U,q⟩
abbrev qx:Stmt:=top 80
def yH:aD WG WG (az qx):=cJ
inductive TX (CS CB:Addr)(x:XA)(vs:E6)(H:Hp)(Q:VK)(E:XK):Prop where
 | mk (b be ah dx nw da:Addr) (xs zs:E6) (A:Sa) (d:tG) (_:vs=[.ref b,.ref da]) (_:Bn CS CB A.n H b be ah dx nw xs zs A.g A.go A.es A.co) (_:xs.length<=900) (_:EsU A.n A.go A.es A.co) (_:DeR A.n H da d) (_:(reW A d≠""->Th x (reW A d) H E)) (_:(reW A d = ""->∀ (H':Hp) (nw' ah':Addr),But b be H H'->H ah'=none->Bn CS CB (A.aft d).n H' b be ah' dx nw' (xs++[.ref nw]) [] (A.aft d).g (A.aft d).go (A.aft d).es (A.aft d).co->Q (vaV A d) H'))
def Il {CS CB:Addr} {x:XA} {k:Nat} (hk:5<=k) (F:Fun K "_law_do" "_law_do" qx f fd) (B:Bt mg) (SG:Dmx P w K mg base CB "come" 4 ZO (Hv CS CB x.fu)) (SI:Dmx P w K mg base CB "leave" 5 ZH (Ax CS CB x))
  (SK:Dmx P w K mg base CB "pledge" k X1 (xF CS CB x)) (SE:Dmx P w K mg base CB "change" k XE (wB CS CB x)) (SR:Dmx P w K mg base CB "withdraw" k YV (rm CS CB x)) (SH:Dmx P w K mg base CB "hand" k Zl (FZ CS CB x)):aZ P w K mg base (XL P w) (k+1) f fd WG (TX CS CB x):=by
 refine zf F yH fun H Q E hr h=>?_;obtain⟨b,be,ah,dx,nw,da,xs,zs,S,d,rfl,hB,l9,eu,hd,hw,q⟩:=h
 refine⟨_,(aj (ifR (aA aQ (pxT K (pv 1) ao) aC) (Ac SG hr bF (pv 0)))
 (aj (ifR (aA aQ (pxT K (pv 1) ao) aC) (yO SI hr bF (pv 0) (a1 (pxT K (pv 1) ao))))
 (aj (ifR (aA aQ (pxT K (pv 1) ao) aC) (yO SK hr bF (pv 0) (aq (pxT K (pv 1) ao) (a1 (pxT K (pv 1) ao)))))
 (aj (ifR (aA aQ (pxT K (pv 1) ao) aC) (yO SE hr bF (pv 0) (aq (pxT K (pv 1) ao) (a1 (pxT K (pv 1) ao)))))
 (aj (ifR (aA aQ (pxT K (pv 1) ao) aC) (yO SR hr bF (pv 0) (a1 (pxT K (pv 1) ao))))
 (aj (ifR (aA aQ (pxT K (pv 1) ao) aC) (yO SH hr bF (pv 0) (a1 (aW (r:=mq K) fL U B.list_ jF (a1 (pxT K (pv 1) ao))))))
 (aj (bR (aA aQ (pxT K (pv 1) ao) aC) (aB gQ) aR)
 (aB gQ)))))))),?_⟩
 have hb:=hB.hb;cases hd with
 | come hda =>
  refine⟨O,da,Y,sqT hda,J,eX U ⟨O,b,dx,O,hb,U,b,be,ah,dx,nw,S.n,S.co,xs,zs,S.g,S.go,S.es,U,hB,l9,fun z=>?_,fun z=>q (iNe (by lia))⟩⟩;rw[show reW S .come = "full" from iPo z] at hw;have:=hw (by decide);unfold Th at this;rw[QG] at this;exact this
 | leave hda =>
  rename_i o;exact⟨O,da,Y,sqT hda,J,aY bf (nN ⟨O,da,Y,sqT hda,J,eX U ⟨O,b,dx,O,hb,U,O,da,Y,sqT hda,gt1,b,be,ah,dx,nw,o,S.n,S.co,xs,zs,S.g,S.go,S.es,U,hB,l9,hw,q⟩⟩)⟩
 | pledge hda hp =>
  rename_i o p pl;exact⟨O,da,Y,sqT hda,J,aY bf (nN ⟨O,da,Y,sqT hda,J,aY bf (nN ⟨O,da,Y,sqT hda,J,eX U ⟨O,b,dx,O,hb,U,O,da,Y,sqT hda,gt1,O,da,Y,sqT hda,gt2,b,be,ah,dx,nw,p,o,S.n,S.co,xs,zs,S.g,S.go,S.es,pl,U,hB,hp,l9,hw,q⟩⟩)⟩)⟩
 | hand hda hr' hri lp =>
  rename_i r us ps;refine⟨O,da,Y,sqT hda,J,aY bf (nN ⟨O,da,Y,sqT hda,J,aY bf (nN ⟨O,da,Y,sqT hda,J,aY bf (nN ⟨O,da,Y,sqT hda,J,aY bf (nN ⟨O,da,Y,sqT hda,J,aY bf (nN ⟨O,da,Y,sqT hda,J,eX U ⟨O,b,dx,O,hb,U,O,da,Y,sqT hda,gt1,r,O,.inl (sqL hr'),fun r2 h2=>?_⟩⟩)⟩)⟩)⟩)⟩)⟩;have sn:=au h2 (.lst us);exact⟨b,be,ah,dx,nw,r2,S.n,S.co,xs,zs,us,S.g,S.go,S.es,ps,U,hB.same sn,l9,aa,hri.aL fun a xs z=>sn _ _ z,lp,fun z=>(hw z).mono sn,fun z H' nw' ah' bt fa hB'=>q z H' nw' ah' ((RT sn).trans bt) (sn.free fa) hB'⟩
 | change hda hp =>
  rename_i k' p pl;exact⟨O,da,Y,sqT hda,J,aY bf (nN ⟨O,da,Y,sqT hda,J,aY bf (nN ⟨O,da,Y,sqT hda,J,aY bf (nN ⟨O,da,Y,sqT hda,J,eX U ⟨O,b,dx,O,hb,U,O,da,Y,sqT hda,gt1,O,da,Y,sqT hda,gt2,b,be,ah,dx,nw,p,k',S.n,S.co,xs,zs,S.g,S.go,S.es,pl,U,hB,fun e he=>⟨(eu.lt e he).1,(eu.lt e he).2.1⟩,eu.nd,hp,l9,hw,q⟩⟩)⟩)⟩)⟩
 | withdraw hda =>
  rename_i k';exact⟨O,da,Y,sqT hda,J,aY bf (nN ⟨O,da,Y,sqT hda,J,aY bf (nN ⟨O,da,Y,sqT hda,J,aY bf (nN ⟨O,da,Y,sqT hda,J,aY bf (nN ⟨O,da,Y,sqT hda,J,eX U ⟨O,b,dx,O,hb,U,O,da,Y,sqT hda,gt1,b,be,ah,dx,nw,k',S.n,S.co,xs,zs,S.g,S.go,S.es,U,hB,fun e he=>⟨(eu.lt e he).1,(eu.lt e he).2.1⟩,l9,hw,q⟩⟩)⟩)⟩)⟩)⟩
def rgD (x:Int × Tm):Dm:=.tup [.int x.1,tmD x.2]
def plD (p:Pl):Dm:=.tup (p.map rgD)
def enD (e:Ent):Dm:=.tup [.int (e.1:Int),.int (e.2.1:Int),plD e.2.2]
theorem dq.rep {n:Nat}{H:Hp}:∀ {vs:E6} {p:Pl},dq n H vs p->tH H vs (p.map rgD)
 | _,_,.nil=>.nil
 | _,_,.cons h t r=>.cons (.tup h (by show 2<=100000;decide) (.cons (.int _) (.cons t.rep .nil))) (dq.rep r)
def j9.rep {n:Nat}{H:Hp}{a:Addr}{p:Pl}(h:j9 n H a p):Rep H (.ref a) (plD p):=by
 obtain⟨ok,vs,hv,rv⟩:=h;exact .tup hv (by have:=rv.length;have:=ok.2.1;lia) rv.rep
theorem bZ.Tf {n:Nat}{H:Hp}:∀ {us:E6} {es:List Ent},bZ n H us es->tH H us (es.map enD)
 | _,_,.nil=>.nil
 | _,_,.cons h p r=>.cons (.tup h (by show 3<=100000;decide) (.cons (.int _) (.cons (.int _) (.cons p.rep .nil)))) (bZ.Tf r)
def u9 {ds:List Dm}{k:Nat}(h:∀ d∈ds,d.dep<=k):iD ds<=k:=by
 induction ds with
 | nil=>rw[iD];exact V3 _
 | cons d r ih =>
  rw[iD];have h1:=h d Vm;have h2:=ih fun x hx=>h x (Vp _ hx);lia
def Og {p:Pl}(ok:okP p):(plD p).dep<=10:=by
 have:iD (p.map rgD)<=9:=u9 fun d hd=>by
  obtain⟨x,hx,rfl⟩:=List.mem_map.mp hd;have h1:=Ig x.2;have h2:=(ok.2.2.2 x hx).2.2;unfold rgD;simp only[Dm.dep,iD];lia
 unfold plD;rw[Dm.dep];lia
def OJ {es:List Ent}(ok:∀ e∈es,okP e.2.2):iD (es.map enD)<=11:=u9 fun d hd=>by
 obtain⟨e,he,rfl⟩:=List.mem_map.mp hd;have:=Og (ok e he);unfold enD;simp only[Dm.dep,iD];lia
theorem nR {H:Hp}:∀ c:DD,tH H (c.map vN) (c.map fun i:Nat=>Dm.int (i:Int))
 | []=>.nil
 | i::r=>.cons (.int _) (nR r)
abbrev jP:Stmt:=top 85
def cG:aD ["_law_boon_here","_law_state","_law_found","_law_present","_law_lies","_law_table","_law_after_here","_law_here","_law_rows"] WS (az jP):=cJ
inductive Aw (CS CB:Addr)(vs:E6)(H:Hp)(Q:VK)(e3:XK):Prop where
 | mk (b be ah dx nw a:Addr) (xs zs:E6) (A:Sa) (_:vs=[.ref b,.ref a]) (_:Bn CS CB A.n H b be ah dx nw xs zs A.g A.go A.es A.co) (_:StR be A.n H a A.g A.go A.es A.co) (_:AOk A) (_:∀ H',aH H H'->Q (.bl true) H')
def vR {CS CB:Addr} (F:Fun K "_law_stands" "_law_stands" jP f fd) (B:Bt mg) (Pm:Df P w K mg base "folk" 1 ZU (Hk CS CB)) (Sn:Df P w K mg base "there" 2 ZU (Bj CS CB)) (Po:Df P w K mg base "green" 1 ZU (FN CS CB))
  (Sm:Df P w K mg base "pledges" 1 ZU (uo CS CB)) (Pi:Df P w K mg base "coming" 1 ZU (CQ CS CB)) (RF:Df P w K mg base "_law_same" 14 XI (pM 14)):aZ P w K mg base CX0 15 f fd WS (Aw CS CB):=by
 refine okA F cG fun H Q E hr h=>?_;obtain⟨b,be,ah,dx,nw,a,xs,zs,S,rfl,hB,hst,ok,q⟩:=h
 refine⟨_,(aj (sT 2 cG.nd (bc (aq (aO Pm hr (v1 0)) (aq (aO Sn hr (v1 0)) (aq (aO Po hr (v1 0)) (aq (aO Sm hr (v1 0)) (a1 (aO Pi hr (v1 0)))))))))
 (aj (yp (pv 1) (d7 (K:=K) 4 U U (aV (rO (i:=3) cG.nd U (Zn U)) (aV (pgN 4 cG.nd) (aV (rO (i:=5) cG.nd U (Zn U)) (aV (pgN 6 cG.nd) dY))))))
 (aj (lF (L:=ZN) (F:=["_law_present"]) (cap:=[3]) (j:=7) cG.nd U (Za U) U (bj U U (by kernel_rfl)) (bN U B.range_ (a1 (pln K B.len_ (pv 3)))) (fun _ _ _ _ _=>(pgC 0)) (fun _ _ _ _ _=>(jl (cj (pxL K (pv 1) (pv 0))))) (fun _ _ _ _ _=>(pv 0)))
 (aj (lF (L:=["_law_number"]) (F:=["_law_table"]) (cap:=[5]) (j:=8) cG.nd U (Za U) U (bj U U (by kernel_rfl)) (dB (aN (r:=yq) (j5 U) U B.sorted_ (by decide+kernel) (v1 5))) (fun _ _ _ _ _=>(pgC 0)) (fun _ _ _ _ _=>cI) (fun _ _ _ _ _=>(aK (r:=iG K) gA (aP (v1 0)) (jM hr.iT (pv 1) (pv 0) (fun _ _=>U)))))
 (sR (aO RF hr (aq (pv 2) (a1 (bc (aq (pln K B.len_ (pv 3)) (aq (pv 7) (aq (pv 4) (v2 8 6))))))))))))),?_⟩
 have lg:=ok.lg;have n12:=ok.n12;have l40:=ok.l40;have lth:=zM S.n S.go;have hBn:=hB.Ul;refine bL (fun σ H1=>∃ (l:Addr),σ=[oR b,oR a,oR l,none,none,none,none,none,none]/\aH H H1/\Rep H1 (.ref l) (.lst [.int (S.n:Int),.lst ((thF S.n S.go).map fun i:Nat=>.int (i:Int)),.tup (S.g.map Dm.int),.lst (S.es.map enD),.int (S.co:Int)])) ?_ ?_;{intro N Rc;refine⟨O,b,be,S.n,_,S.co,S.g,S.go,S.es,U,hBn,O,b,be,S.n,_,S.co,S.g,S.go,S.es,U,hBn,by lia,fun th H1 s1 _ eth=>?_⟩;rw[lg] at eth;refine⟨O,b,be,S.n,_,S.co,S.g,S.go,S.es,U,hBn.same s1,fun ga hga=>⟨O,b,be,S.n,_,S.co,S.g,S.go,S.es,U,hBn.same s1,fun pa us H2 s2 _ hes epa=>⟨O,b,be,S.n,_,S.co,S.g,S.go,S.es,U,hBn.same (s1.trans s2),smN 5,fun l hl=>?_⟩⟩⟩;generalize eH3:upd H2 l _=H3;obtain⟨s3,e3⟩:=aG eH3 hl;have s23:=s2.trans s3;have les:=hes.length;refine Rc _ _ ⟨l,U,s1.trans s23,.lst e3 (by show 5<=100000;decide) ?_⟩;rw[lg];exact .cons (.int _) (.cons (.lst (s23 _ _ eth) (by rw[U7];lia) (nR _)) (.cons (uO (s23 _ _ hga) (by lia)) (.cons (.lst (s3 _ _ epa) (by lia) (hes.aL fun a xs z=>s23 _ _ z).Tf) (.cons (.int _) .nil))))};rintro σ H1 ⟨l,rfl,s1,rl⟩;obtain⟨pa,ga,ta,kvs,h1,h2,h3,h4,h5,h6⟩:=hst.same s1;refine bL (fun σ H2=>σ=[oR b,oR a,oR l,oR pa,oR ga,oR ta,some (vN S.co),none,none]/\H2=H1) ?_ ?_;{intro N Rc;exact⟨O,a,O,sqT h1,U,_,O,_,O,_,O,M,Rc _ _ ⟨U,U⟩⟩};rintro σ H2 ⟨rfl,rfl⟩;refine bL (fun σ H3=>∃ (hl:Addr),σ=[oR b,oR a,oR l,oR pa,oR ga,oR ta,some (vN S.co),oR hl,none]/\aH H2 H3/\H3 hl=some (.lst ((thF S.n S.go).map vN))) ?_ ?_
 ·intro N Rc
  refine⟨O,pa,O,.inl (sqL h2),O,by rw[cu];lia,by rw[cu];lia,fun D hD=>cN (lo:=0) (n:=(((prF S.n S.go).length:Nat):Int).toNat) (fun j zs σ' H3=>(∃ u,σ'=[u,oR pa])/\aH H2 H3/\H3 D=some (.lst zs)/\zs=(thF j S.go).map vN)
   ⟨⟨O⟩,au hD _,aa,U⟩ (fun j zs σ' H3 _ h=>h.2.2.1) ?_ ?_⟩
  ·rintro j zs σ' H3 hj ⟨⟨u,rfl⟩,sm,eD,rfl⟩;rw[cu] at hj;have hj':j < S.n:=by lia
   rw[WN];have nx:=Cm j S.go;have lj:=zM j S.go;refine⟨G,pa,_,_,.bl (decide (j ∉ S.go)),U,U,sqL (sm _ _ h2),cX (Hy hj'),O,?_⟩;by_cases z:j∈S.go;{rw[dcF (not_not_intro z)];refine bK ⟨⟨O⟩,sm,eD,?_⟩;rw[nx,iPo z,WR]};{rw[dcT z];refine cL ⟨O,eD,aJ (by rw[U7];lia),⟨O⟩,aM sm hD _,aa,?_⟩;rw[nx,iNe z,Vd];rfl}
  ·rintro zs σ' H3 ⟨_,sm,eD,rfl⟩;have e:(((prF S.n S.go).length:Nat):Int).toNat=S.n:=by rw[cu];lia
   rw[e] at eD;exact Rc _ _ ⟨D,U,sm,eD⟩
 rintro σ H3 ⟨hl,rfl,s3,ehl⟩;have nd:=ok.eu.nd;refine bL (fun σ H4=>∃ (rw':Addr) (us:E6),σ=[oR b,oR a,oR l,oR pa,oR ga,oR ta,some (vN S.co),oR hl,oR rw']/\aH H3 H4/\H4 rw'=some (.lst us)/\bZ S.n H4 us S.es) ?_ ?_
 ·intro N Rc;refine⟨O,ta,kvs,S.es.map fun e=>(e.1:Int),U,s3 _ _ h4,h5.keys,by rw[U7];lia,fun ms pm sr l2 hl2=>?_⟩;have em:=ok.eu.sort pm sr;subst em;generalize eH4:upd H3 l2 _=H4;obtain⟨s4,e4⟩:=aG eH4 hl2
  refine⟨l2,U,⟨_,sqL e4⟩,fun D hD=>iH (K:=K) (a:=l2) (xs:=(S.es.map fun e=>(e.1:Int)).map V.int) (fun j zs σ' H5=>(∃ u,σ'=[u,oR ta])/\aH H4 H5/\H5 D=some (.lst zs)/\bZ S.n H5 zs (S.es.take j))
   ⟨⟨O⟩,au hD _,aa,by rw[V6];exact .nil⟩ (fun j zs σ' H5 _ h=>⟨sqL (h.2.1 _ _ e4),h.2.2.1⟩) ?_ ?_⟩
  ·rintro j zs y σ' H5 hx ⟨⟨u,rfl⟩,sm,eD,ez⟩;rw[Vr,Vr] at hx;obtain⟨e,he,rfl⟩:∃ e,S.es[j]? = some e/\y = .int (e.1:Int):=by
    cases z:S.es[j]? with
    | none=>rw[z] at hx;cases hx
    | some e=>rw[z] at hx;cases hx;exact⟨e,U,U⟩
   obtain⟨t,p,hv,ht,hpp⟩:=h5.val nd he;have s25:=s3.trans (s4.trans sm);have lz:=ez.length;rw[Vs] at lz;refine gT ?_;refine⟨O,smN 1,fun p1 hp1=>?_⟩;generalize eH6:upd H5 p1 _=H6;obtain⟨s6,e6⟩:=aG eH6 hp1;have s26:=s25.trans s6;have dg:rT H6 ta (.int (e.1:Int)) (some (.ref t)):=by
    rw[← hv];exact rT.k (k:=Wi (e.1:Int)) (s26 _ _ h4)
   refine⟨G,ta,O,dg,?_⟩;refine Ql e6 (s26 _ _ ht) (by show 1+2<=1000;decide) fun p2 H7 s7 e7=>?_;have eD7:=s7 _ _ (s6 _ _ eD);have s27:=s26.trans s7;have tk:=cM (zs':=zs++[.ref p2]) eD7;refine⟨eD7,aJ (by lia),⟨O⟩,aM (sm.trans (s6.trans s7)) hD _,aa,?_⟩;rw[VD,he];exact bZ.snoc (num:=e.1) (one:=e.2.1) (pl:=e.2.2) (tk _ _ e7) ((hpp.aL fun a xs z=>s27 _ _ z).aL tk) ((ez.aL fun a xs z=>(s6.trans s7) _ _ z).aL tk)
  ·rintro zs σ' H5 ⟨_,sm,eD,ez⟩;rw[U7,U7,Vk] at ez;exact Rc _ _ ⟨D,zs,U,s4.trans sm,eD,ez⟩
 rintro σ H4 ⟨rw',us,rfl,s4,erw,ees⟩;have s24:=s3.trans s4;have les:=ees.length;refine⟨G,pa,O,.inl (sqL (s24 _ _ h2)),G,G,smN 5,fun l5 hl5=>?_⟩;rw[cu];generalize eH5:upd H4 l5 _=H5;obtain⟨s5,e5⟩:=aG eH5 hl5;have s25:=s24.trans s5;refine⟨_,_,O,rl.mono s25,.lst e5 (by show 5<=100000;decide) (.cons (.int _) (.cons (.lst ((s4.trans s5) _ _ ehl) (by rw[U7];lia) (nR _)) (.cons (uO (s25 _ _ h3) (by lia)) (.cons (.lst (s5 _ _ erw) (by lia) (ees.aL fun a xs z=>s5 _ _ z).Tf) (.cons (.int _) .nil))))),?_,fun H6 s6=>q H6 (s1.trans (s25.trans s6))⟩;have d1:=OJ h5.ok;have d2:iD ((thF S.n S.go).map fun i:Nat=>Dm.int (i:Int))<=0:=u9 fun d hd=>by obtain⟨i,_,rfl⟩:=List.mem_map.mp hd;simp [Dm.dep]
 have d3:iD (S.g.map Dm.int)<=0:=u9 fun d hd=>by obtain⟨i,_,rfl⟩:=List.mem_map.mp hd;simp [Dm.dep]
 simp only[Dm.dep,iD];lia
inductive Al (P:Addr->Sa->Prop):Db->List Sa->Prop where
 | nil:Al P [] []
 | cons {a:Addr} {A:Sa} {as:Db} {As:List Sa} (h:P a A) (r:Al P as As):Al P (a::as) (A::As)
section
variable {P R:Addr->Sa->Prop}
theorem Al.mono (f:∀ a A,P a A->R a A):∀ {as:Db} {As:List Sa},Al P as As->Al R as As
 | _,_,.nil=>.nil
 | _,_,.cons h r=>.cons (f _ _ h) (Al.mono f r)
theorem Al.length:∀ {as:Db} {As:List Sa},Al P as As->as.length=As.length
 | _,_,.nil=>rfl
 | _,_,.cons _ r=>congrArg Nat.succ (Al.length r)
theorem Al.snoc {a:Addr}{A:Sa}(h:P a A):∀ {as:Db} {As:List Sa},Al P as As->Al P (as++[a]) (As++[A])
 | _,_,.nil=>.cons h .nil
 | _,_,.cons h' r=>.cons h' (Al.snoc h r)
theorem Al.last {a:Addr}:∀ {as:Db} {As:List Sa},Al P (as++[a]) As->∃ Bs A,As=Bs++[A]/\Al P as Bs/\P a A
 | [],_,.cons h .nil=>⟨[],O,.nil,h⟩
 | _::as,_,.cons h r=>by
  obtain⟨Bs,A,e,r',h'⟩:=Al.last (as:=as) r;exact⟨_::Bs,A,by rw[e];rfl,.cons h r',h'⟩
theorem Al.Ii {A:Sa}:∀ {as:Db} {As:List Sa},Al P as (As++[A])->∃ bs a,as=bs++[a]/\Al P bs As/\P a A
 | _,[],.cons h .nil=>⟨[],O,.nil,h⟩
 | _,_::As,.cons h r=>by
  obtain⟨bs,a,e,r',h'⟩:=Al.Ii (As:=As) r;exact⟨_::bs,a,by rw[e];rfl,.cons h r',h'⟩
def Al.UT {as:Db}(h:Al P as []):as=[]:=by cases h;rfl
end
structure Hi where
 p:List Sa
 s:Sa
 l:List Sa
inductive Dd where
 | deed (d:tG)
 | undo
 | redo
def Hi.du (h:Hi):Dd->VB
 | .deed d=>reW h.s d
 | .undo=>if h.p=[] then "nothing left" else ""
 | .redo=>if h.l=[] then "nothing left" else ""
def Hi.nx (h:Hi):Dd->Hi
 | .deed d=>⟨h.p++[h.s],h.s.aft d,[]⟩
 | .undo=>⟨h.p.dropLast,h.p.getLastD h.s,h.l++[h.s]⟩
 | .redo=>⟨h.p++[h.s],h.l.getLastD h.s,h.l.dropLast⟩
def Hi.va (h:Hi):Dd->V
 | .deed d=>vaV h.s d
 | _=>.non
def Hi.Nr {As:List Sa}{A S:Sa}{l:List Sa}:(Hi.mk (As++[A]) S l).nx .undo=⟨As,A,l++[S]⟩:=by
 show Hi.mk (As++[A]).dropLast ((As++[A]).getLastD S) _=_;rw[abe,List.getLastD_eq_getLast?,List.getLast?_concat];rfl
def Hi.NT {As:List Sa}{A S:Sa}{p:List Sa}:(Hi.mk p S (As++[A])).nx .redo=⟨p++[S],A,As⟩:=by
 show Hi.mk _ ((As++[A]).getLastD S) (As++[A]).dropLast=_;rw[abe,List.getLastD_eq_getLast?,List.getLast?_concat];rfl
inductive DdR (n:Nat)(H:Hp)(a:Addr):Dd->Prop where
 | deed {d:tG} (h:DeR n H a d):DdR n H a (.deed d)
 | undo (h:H a=some (.tup [.str "undo"])):DdR n H a .undo
 | redo (h:H a=some (.tup [.str "redo"])):DdR n H a .redo
def DdR.sT {n:Nat}{H H':Hp}{a:Addr}{d:Dd}(s:iR H H')(h:DdR n H a d):DdR n H' a d:=by
 cases h with
 | deed h=>exact .deed (h.sT s)
 | undo h=>exact .undo (stT s h)
 | redo h=>exact .redo (stT s h)
def DdR.same {n:Nat}{H H':Hp}{a:Addr}{d:Dd}(s:aH H H')(h:DdR n H a d):DdR n H' a d:=h.sT s.t
def StG (CS:Addr)(H:Hp)(a:Addr)(A:Sa):Prop:=gf CS A.n H a A.g A.go A.es A.co/\A.go.Nodup/\AOk A
def StG.ks {CS:Addr}{H H':Hp}(k:Ks CS H H')(a:Addr)(A:Sa)(h:StG CS H a A):StG CS H' a A:=⟨h.1.ks k,h.2⟩
def Bu (CS CB:Addr)(H:Hp)(b be ah dx:Addr)(h:Hi):Prop:=AOk h.s/\∃ (nw:Addr) (xs zs:Db),Bn CS CB h.s.n H b be ah dx nw (xs.map V.ref) (zs.map V.ref) h.s.g h.s.go h.s.es h.s.co/\Al (StG CS H) xs h.p/\Al (StG CS H) zs h.l
section
variable {CS CB:Addr}{H H':Hp}{b be ah dx:Addr}{h:Hi}
def Bu.sT (B:Bu CS CB H b be ah dx h)(s:iR H H'):Bu CS CB H' b be ah dx h:=by
 obtain⟨ok,nw,xs,zs,hB,r1,r2⟩:=B;have k:Ks CS H H':=⟨fun a ys q=>s _ _ (fun _ z=>nomatch z) q,fun a dx fs q=>s _ _ (fun _ z=>nomatch z) q⟩;exact⟨ok,nw,xs,zs,hB.sT s,r1.mono (StG.ks k),r2.mono (StG.ks k)⟩
def Bu.same (B:Bu CS CB H b be ah dx h)(s:aH H H'):Bu CS CB H' b be ah dx h:=B.sT s.t
end
def aZ.or {CX:CXT}{k:Nat}{ps:DF}{s1 s2:Sp}(F:L2.aZ P w K mg base CX k f fd ps s1)(G:L2.aZ P w K mg base CX k f fd ps s2):L2.aZ P w K mg base CX k f fd ps fun vs H Q E=>s1 vs H Q E∨s2 vs H Q E :=
 ⟨fun vs H Q E h=>h.elim (F.len vs H Q E) (G.len vs H Q E),fun A outer s H args us vs Q E hr he hb hv h=>h.elim (F.run A outer s H args us vs Q E hr he hb hv) (G.run A outer s H args us vs Q E hr he hb hv)⟩
inductive QZ (CB:Addr)(x:XA)(vs:E6)(H:Hp)(Q:VK)(E:XK):Prop where
 | mk (b da dx nw be ah:Addr) (un:Bool) (_:vs=[.ref b,.ref da]) (_:H b=some (.ins CB dx (bnF nw be ah))) (_:H da=some (.tup [.str (if un=true then "undo" else "redo")])) (_:rN CB x un [.ref b] H Q E)
def Ew {CB:Addr} {x:XA} {k:Nat} (hk:5<=k) (F:Fun K "_law_do" "_law_do" qx f fd) (B:Bt mg) (SO:Dmx P w K mg base CB "undo" 4 ZO (rN CB x true)) (SL:Dmx P w K mg base CB "redo" 4 ZO (rN CB x false)):L2.aZ P w K mg base (XL P w) (k+1) f fd WG (QZ CB x):=by
 refine zf F yH fun H Q E hr h=>?_;obtain⟨b,da,dx,nw,be,ah,un,rfl,hb,hda,h⟩:=h
 refine⟨_,(aj (bR (aA aQ (pxT K (pv 1) ao) aC) (aB gQ) aR)
 (aj (bR (aA aQ (pxT K (pv 1) ao) aC) (aB gQ) aR)
 (aj (bR (aA aQ (pxT K (pv 1) ao) aC) (aB gQ) aR)
 (aj (bR (aA aQ (pxT K (pv 1) ao) aC) (aB gQ) aR)
 (aj (bR (aA aQ (pxT K (pv 1) ao) aC) (aB gQ) aR)
 (aj (bR (aA aQ (pxT K (pv 1) ao) aC) (aB gQ) aR)
 (aj (ifR (aA aQ (pxT K (pv 1) ao) aC) (Ac SO hr bF (pv 0)))
 (sR (Ac SL hr bF (pv 0)))))))))),?_⟩
 cases un with
 | true =>
  have hda:H da=some (.tup [.str "undo"]):=hda
  iterate 6 refine⟨O,da,Y,sqT hda,J,aY bf (nN ?_)⟩
  exact⟨O,da,Y,sqT hda,J,eX U ⟨O,b,dx,O,hb,U,h⟩⟩
 | false =>
  have hda:H da=some (.tup [.str "redo"]):=hda
  iterate 7 refine⟨O,da,Y,sqT hda,J,aY bf (nN ?_)⟩
  exact⟨O,b,dx,O,hb,U,h⟩
inductive Rt (CS CB:Addr)(x:XA)(vs:E6)(H:Hp)(Q:VK)(E:XK):Prop where
 | mk (b be ah dx da:Addr) (h:Hi) (d:Dd) (_:vs=[.ref b,.ref da]) (_:Bu CS CB H b be ah dx h) (_:h.p.length<=900) (_:h.l.length<=900) (_:DdR h.s.n H da d) (_:(h.du d≠""->Th x (h.du d) H E)) (_:(h.du d = ""->∀ (H':Hp) (ah':Addr),Bt3 b be ah H H'->ah'=ah∨H ah'=none->Bu CS CB H' b be ah' dx (h.nx d)->Q (h.va d) H'))
def Dc {CS CB:Addr}{x:XA}{k:Nat}(ne:CB≠CS)(F:L2.aZ P w K mg base (XL P w) k f fd WG (TX CS CB x))(G:L2.aZ P w K mg base (XL P w) k f fd WG (QZ CB x)):L2.aZ P w K mg base (XL P w) k f fd WG (Rt CS CB x):=by
 refine (aZ.or F G).imp fun vs H Q E h=>?_;obtain⟨b,be,ah,dx,da,h,d,rfl,⟨ok,nw,xs,zs,hB,rx,rz⟩,lp,ll,hd,hw,q⟩:=h;have lx:=rx.length;have lz:=rz.length
 have bt3:∀ {H'},Bt3 b be ah H H'->Ks CS H H':=fun bt=>⟨fun a ys y=>bt a _ (fun z=>by rw[z,hB.hb] at y;cases y) (fun z=>by rw[z,hB.hbe] at y;cases y) (fun z=>by rw[z,hB.hah] at y;cases y) y,
  fun a dx' fs y=>bt a _ (fun z=>by rw[z,hB.hb] at y;cases y;exact ne U) (fun z=>by rw[z,hB.hbe] at y;cases y) (fun z=>by rw[z,hB.hah] at y;cases y) y⟩
 have hn:StG CS H nw h.s:=⟨hB.st,hB.gn,ok⟩;cases hd with
 | deed hd =>
  rename_i d;refine .inl ⟨b,be,ah,dx,nw,da,_,_,h.s,d,U,hB,by rw[U7];lia,ok.eu,hd,hw,fun z H' nw' ah' bt fa hB'=>q z H' ah' (fun a o c1 c2 _ y=>bt a o c1 c2 y) (.inr fa) ⟨ok.aft z,nw',xs++[nw],[],?_,?_,.nil⟩⟩;{rw[Vd];exact hB'};{exact (rx.snoc hn).mono (StG.ks (bt.ks ne hB.hb hB.hbe))}
 | undo hda =>
  refine .inr ⟨b,da,dx,_,_,_,true,U,hB.hb,hda,b,be,ah,dx,nw,xs,zs,U,hB.hb,hB.hbe,hB.hah,hB.nb,by lia,by lia,fun z=>?_,fun ys a z H' bt e1 e2 e3=>?_⟩;{have z:xs=[]:=z;rw[z] at lx;have e:h.du .undo = "nothing left":=iPo (V8 lx.symm);rw[e] at hw;exact hw (by decide)};{have z:xs=ys++[a]:=z;rw[z] at rx;obtain⟨As,A,e,ra,sa⟩:=rx.last;obtain⟨p,s,l⟩:=h;have e:p=As++[A]:=e;subst e;have k:=bt3 bt;have e0:Hi.du ⟨As++[A],s,l⟩ .undo = "":=iNe (by simp);refine q e0 H' ah bt (.inl U) ?_;rw[Hi.Nr];obtain⟨s1,s2,s3⟩:=StG.ks k _ _ sa;exact⟨s3,a,ys,zs++[nw],⟨e1,e2,e3,s1,hB.nb,s3.lg,s3.n12,s3.l40,s2,s3.gl⟩,ra.mono (StG.ks k),(rz.snoc hn).mono (StG.ks k)⟩}
 | redo hda =>
  refine .inr ⟨b,da,dx,_,_,_,false,U,hB.hb,hda,b,be,ah,dx,nw,xs,zs,U,hB.hb,hB.hbe,hB.hah,hB.nb,by lia,by lia,fun z=>?_,fun ys a z H' bt e1 e2 e3=>?_⟩;{have z:zs=[]:=z;rw[z] at lz;have e:h.du .redo = "nothing left":=iPo (V8 lz.symm);rw[e] at hw;exact hw (by decide)};{have z:zs=ys++[a]:=z;rw[z] at rz;obtain⟨As,A,e,ra,sa⟩:=rz.last;obtain⟨p,s,l⟩:=h;have e:l=As++[A]:=e;subst e;have k:=bt3 bt;have e0:Hi.du ⟨p,s,As++[A]⟩ .redo = "":=iNe (by simp);refine q e0 H' ah bt (.inl U) ?_;rw[Hi.NT];obtain⟨s1,s2,s3⟩:=StG.ks k _ _ sa;exact⟨s3,a,xs++[nw],ys,⟨e1,e2,e3,s1,hB.nb,s3.lg,s3.n12,s3.l40,s2,s3.gl⟩,(rx.snoc hn).mono (StG.ks k),ra.mono (StG.ks k)⟩}
theorem fK.Pr {n:Nat}{H:Hp}{D:Addr}{zs zs':E6}(hD:H D=some (.lst zs)):∀ {us:E6} {bs:List (List Pl)},fK n H us bs->(∀ u∈us,u≠.ref D)->fK n (upd H D (.lst zs')) us bs
 | _,_,.nil,_=>.nil
 | _,_,.cons h l p r,hne=>.cons (by rw[aF fun z=>hne _ Vm (by rw[z])];exact h) l (p.aL (cM hD)) (fK.Pr hD r fun u hu=>hne u (Vp _ hu))
abbrev sy:Stmt:=top 76
def Dr:aD Yf Yf (az sy):=cJ
inductive Oa (vs:E6)(H:Hp)(Q:VK)(e3:XK):Prop where
 | mk (c n:Int) (_:vs=[.int c,.int n]) (_:0 < n) (_:∀ (z:Int) (H':Hp),aH H H'->Q (.int z) H')
def Dt (F:Fun K "_law_who" "_law_who" sy f fd) (B:Bt mg):aZ P w K mg base CX0 1 f fd Yf Oa:=by
 refine okA F Dr fun H Q E hr h=>?_;obtain⟨c,n,rfl,hn,q⟩:=h;refine⟨_,(sR (pxL K (bc (aq (aK bI (pv 0) (pv 1)) (aq (aK bI (pv 0) (pv 1)) (aq (aK bI (pv 0) (pv 1)) (aq (pv 1) (aq (xH pD ao) (a1 (aK bI (pv 0) (pv 1))))))))) (aK bI (aK vK (pv 0) ao) ao))),G,M,hn,G,M,hn,G,M,hn,G,G,M,hn,smN 6,fun p hp=>?_⟩;have sn:=au hp (.lst [.int (c % n),.int (c % n),.int (c % n),.int n,.int (-1),.int (c % n)]);obtain⟨k,ek⟩:=Wo (V5 (c / 7) (show (6:Int)≠0 by decide));have k6:k < 6:=by have:=VN (c / 7) (show (0:Int) < 6 by decide);lia
 have hz:∃ z:Int,([.int (c % n),.int (c % n),.int (c % n),.int n,.int (-1),.int (c % n)]:E6)[k]? = some (.int z):=by
  match k,k6 with
  | 0,_=>exact⟨O⟩
  | 1,_=>exact⟨O⟩
  | 2,_=>exact⟨O⟩
  | 3,_=>exact⟨O⟩
  | 4,_=>exact⟨O⟩
  | 5,_=>exact⟨O⟩
 obtain⟨z,hz⟩:=hz;refine⟨O,M,⟨by decide,by decide⟩,_,_,U,U,(by show (0:Int) < 6;decide),p,_,_,_,U,U,sqL aa,?_,q z _ sn⟩;show atI _ (c / 7 % 6)=_;rw[ek];exact cX hz
abbrev jk:Stmt:=top 77
def t6:aD ZI ZI (az jk):=cJ
inductive Br (vs:E6)(H:Hp)(Q:VK)(e3:XK):Prop where
 | mk (be a:Addr) (A:Sa) (_:vs=[.ref a]) (_:StR be A.n H a A.g A.go A.es A.co) (_:AOk A) (_:∀ (b:Addr) (bk:List (List Pl)) (H':Hp),aH H H'->Od A.n H' b bk->bk.length=A.n->Q (.ref b) H')
def tM (F:Fun K "_law_book_of" "_law_book_of" jk f fd) (B:Bt mg) (Qr:Df P w K mg base "_law_listed" 2 XU qL):aZ P w K mg base CX0 3 f fd ZI Br:=by
 refine okA F t6 fun H Q E hr h=>?_;obtain⟨be,a,S,rfl,⟨pa,ga,ta,kvs,h1,h2,h3,h4,h5,h6⟩,ok,q⟩:=h;refine⟨_,(sR (bU (L:=ZN) (F:=ZI) (cap:=[0]) U (bj U U (by kernel_rfl)) (bN U B.range_ (a1 (pln K B.len_ (pxT K (pv 0) ao)))) (fun _ _ _ _ _=>(pgC 0)) (fun _ _ _ _ _=>cI) (fun _ _ _ _ _=>(aO Qr hr (aq (pxT K (pv 1) ao) (v1 0)))))),?_⟩;have n12:=ok.n12;have l40:=ok.l40
 refine⟨O,a,Y,sqT h1,gt0,pa,O,.inl (sqL h2),O,by rw[cu];lia,by rw[cu];lia,fun D hD=>cN (lo:=0) (n:=(((prF S.n S.go).length:Nat):Int).toNat) (fun j zs σ' H2=>(∃ u,σ'=[u,oR a])/\aH H H2/\H2 D=some (.lst zs)/\(∀ u∈zs,u≠.ref D)/\∃ bs,fK S.n H2 zs bs/\bs.length=j)
  ⟨⟨O⟩,au hD _,aa,by simp,[],.nil,U⟩ (fun j zs σ' H2 _ h=>h.2.2.1) ?_ ?_⟩
 ·rintro j zs σ' H2 hj ⟨⟨u,rfl⟩,sm,eD,nD,bs,hb,lb⟩;rw[cu] at hj;refine gT ?_;refine⟨O,a,Y,sqT (sm _ _ h1),gt2,O,ta,_,S.n,kvs,S.es,U,sm _ _ h4,h5.aL fun a xs y=>sm _ _ y,ok.eu.up,l40,fun l as H3 s3 fl el las ps=>?_⟩;have eD3:=s3 _ _ eD;have hz:=hb.length;have nl:l≠D:=fun z=>by rw[z,eD] at fl;cases fl
  refine⟨eD3,aJ (by lia),⟨O⟩,aM (sm.trans s3) hD _,aa,?_,bs++[miP S.es (0+(j:Int))],?_,by rw[Vf,lb];rfl⟩
  ·intro u hu;rcases List.mem_append.mp hu with y | y;{exact nD u y};{rw[List.mem_singleton.mp y];exact fun x=>nl (by injection x)}
  ·refine fK.snoc ?_ (by lia) (ps.aL (cM eD3)) ((hb.mono s3).Pr eD3 nD);rw[aF nl];exact el
 ·rintro zs σ' H2 ⟨_,sm,eD,_,bs,hb,lb⟩;have e:(((prF S.n S.go).length:Nat):Int).toNat=S.n:=by rw[cu];lia
  rw[e] at lb;exact q D bs H2 sm ⟨zs,eD,hb,by lia⟩ lb
def Tw {K:VG}{a b:Addr}{xs ys:E6}{H:Hp}{Q:V->Hp->Prop}(ha:H a=some (.tup xs))(hb:H b=some (.tup ys))(hz:xs.length+ys.length<=1000)(h:∀ p H',aH H H'->H' p=some (.tup (xs++ys))->Q (.ref p) H'):iG K (.ref a) (.ref b) H Q :=
 ⟨a,b,xs,ys,U,U,sqT ha,sqT hb,small hz,fun e=>h b H (aH.refl H) (by rw[e,aa2];exact hb),fun _ e=>h a H (aH.refl H) (by rw[e,WR];exact ha),fun _ _ p hp=>h p _ (au hp _) aa⟩
def Uc {xs:E6}{k:Nat}(h:k<=xs.length):uP xs none (some (k:Int))=xs.take k:=by
 unfold uP;rw[HT.BX,HT.uM,List.drop_zero,Nat.sub_zero,Nat.min_eq_left h]
def SQ {xs:E6}{k:Nat}(h:k<=xs.length):uP xs (some (k:Int)) none=xs.drop k:=by
 unfold uP;rw[HT.BX,HT.uM,Nat.min_eq_left h,List.take_of_length_le (by rw[Zi];lia)]
section
variable {K:VG}{σ:St}{H:Hp}{Q:V->Hp->Prop}{i j:Nat}{a:Addr}{k:Nat}{xs:E6}
def slT (hi:σ[i]? = some (some (.ref a)))(hj:σ[j]? = some (some (.int (k:Int))))(ha:H a=some (.tup xs))(hk:k < xs.length)(h:∀ p H',aH H H'->H' p=some (.tup (xs.take k))->Q (.ref p) H'):tSl (JQ K) (vW i) rY (HY (vW j)) σ H Q:=by
 refine⟨_,hi,_,hj,O,a,xs,U,sqT ha,?_,fun p hp=>?_⟩;{rintro⟨_,z⟩;have z':HT.sIx xs.length xs.length (some (k:Int))=xs.length:=z;rw[HT.uM] at z';lia};{refine h p _ (au hp _) ?_;rw[aa,Uc (by lia)]}
def slD (hi:σ[i]? = some (some (.ref a)))(hj:σ[j]? = some (some (.int (k:Int))))(ha:H a=some (.tup xs))(hk:k < xs.length)(h:∀ p H',aH H H'->H' p=some (.tup (xs.drop (k+1)))->Q (.ref p) H') :
  tSl (JQ K) (vW i) (HY (tOp (rI0 fun i j=>.int (i+j)) (vW j) (tC (.int 1)))) rY σ H Q:=by
 refine⟨_,hi,_,hj,M,O,a,xs,U,sqT ha,?_,fun p hp=>?_⟩;{rintro⟨z,_⟩;have z':HT.sIx xs.length 0 (some ((k:Int)+1))=0:=z;rw[show (k:Int)+1=((k+1:Nat):Int) by lia,HT.uM] at z';lia};{refine h p _ (au hp _) ?_;rw[aa,show uP xs (some ((k:Int)+1)) none=xs.drop (k+1) by rw[show (k:Int)+1=((k+1:Nat):Int) by lia];exact SQ (by lia)]}
def Uy {l:Nat}{v:V}(hi:σ[i]? = some (some (.ref a)))(hj:σ[j]? = some (some (.int (k:Int))))(hv:σ[l]? = some (some v))(ha:H a=some (.tup xs))(hk:k < xs.length)(hl:xs.length<=40)(h:∀ p H',aH H H'->H' p=some (.tup (xs.set k v))->Q (.ref p) H') :
  tOp (iG K) (tOp (iG K) (tSl (JQ K) (vW i) rY (HY (vW j))) (Rn (o4 (vW l) wM))) (tSl (JQ K) (vW i) (HY (tOp (rI0 fun i j=>.int (i+j)) (vW j) (tC (.int 1)))) rY) σ H Q:=by
 refine slT hi hj ha hk fun p1 H1 s1 e1=>?_;refine⟨_,hv,smN 1,fun p2 h2=>?_⟩;generalize eH3:upd H1 p2 _=H3;obtain⟨g3,e3⟩:=aG eH3 h2;refine Tw (g3 _ _ e1) e3 (by rw[Vs];show min k xs.length+1<=1000;lia) fun p4 H4 s4 e4=>?_;have s14:aH H H4:=s1.trans (g3.trans s4);refine slD hi hj (s14 _ _ ha) hk fun p5 H5 s5 e5=>?_;refine Tw (s5 _ _ e4) e5 (by rw[Vf,Vs,Zi];show min k xs.length+1+(xs.length - (k+1))<=1000;lia) fun p6 H6 s6 e6=>?_;refine h p6 H6 (s14.trans (s5.trans s6)) ?_;rw[e6,List.set_eq_take_append_cons_drop,iPo hk,ZM];rfl
end
abbrev dW:Stmt:=top 74
def bw:aD ["_law_book","_law_floor","_law_giving","_law_here","_law_turn_here","_law_ahead","_law_one","_law_step"] WC (az dW):=cJ
inductive Cg (vs:E6)(H:Hp)(Q:VK)(e3:XK):Prop where
 | mk (b f g:Addr) (n:Nat) (bk:List (List Pl)) (fl x:DC) (_:vs=[.ref b,.ref f,.ref g]) (_:Od n H b bk) (_:bk.length=n) (_:H f=some (.tup (fl.map V.int))) (_:fl.length=n) (_:H g=some (.tup (x.map V.int))) (_:x.length=n) (_:∀ (r:Addr) (z:DC) (H':Hp),aH H H'->H' r=some (.tup (z.map V.int))->z.length=n->Q (.ref r) H')
def lK {k:Nat} (F:Fun K "_law_step_by_step" "_law_step_by_step" dW f fd) (B:Bt mg)
  (QN:Df P w K mg base "_law_owed" k Xs (yz K)):aZ P w K mg base CX0 (k+1) f fd WC Cg:=by
 refine okA F bw fun H Q E hr h=>?_;obtain⟨b,f,g,n,bk,fl,x,rfl,hB,lb,hf,lf,hg,lx,q⟩:=h
 refine⟨_,(aj (sT 3 bw.nd (pv 2))
 (aj (cP V4 U (bN U B.range_ (a1 (aK bD (aK gG ao (pln K B.len_ (pv 0))) ao))) (pgN 4 bw.nd) (aj (sT 5 bw.nd (pv 3))
 (aj (cP V4 U (bN U B.range_ (a1 (pln K B.len_ (pv 0)))) (pgN 6 bw.nd) (aj (sT 7 bw.nd (aN (rE U) U B.max_ sO (aq (pxT K (pv 1) (pv 6)) (a1 (aO QN hr (aq (pxL K (pv 0) (pv 6)) (v1 3)))))))
 (aB (sT 3 bw.nd (aK (r:=iG K) gA (aK (r:=iG K) gA (mW (r:=JQ K) Cy (pv 3) qW (oY (pv 6))) (aP (v1 7))) (mW (r:=JQ K) Cy (pv 3) (oY (aK bD (pv 6) ao)) qW))))))
 (aB (ifR (aA (r:=Ph K) (GQ hr.kj) (pv 3) (pv 5)) (pv 3))))))
 (sR (pv 3)))),?_⟩
 obtain⟨us0,hb,rb,l12⟩:=id hB;have lu0:=rb.length
 refine⟨G,b,O,.inl (sqL hb),M,.inl ⟨by decide,by decide⟩,_,_,U,U,_,U,by lia,by lia,iV (lo:=0) (n:=(9 * (us0.length:Int)+1).toNat) (fun t σ H3=>∃ (hh:Addr) (u0 u1 u2 u3:EW) (z:DC),σ=[oR b,oR f,oR g,oR hh,u0,u1,u2,u3]/\aH H H3/\H3 hh=some (.tup (z.map V.int))/\z.length=n)
  ⟨g,_,_,_,_,x,U,aH.refl _,hg,lx⟩ ?_ ?_⟩
 ·rintro t σ H3 ht ⟨hh,u0,u1,u2,u3,z,rfl,s3,eh,lz⟩;refine⟨O,?_⟩
  refine⟨O,b,O,.inl (sqL (s3 _ _ hb)),O,by lia,by lia,iV (lo:=0) (n:=us0.length) (fun i σ H4=>∃ (h2:Addr) (v0 v1:EW) (gs:DC),σ=[oR b,oR f,oR g,oR h2,some (.int (0+(t:Int))),oR hh,v0,v1]/\aH H3 H4/\H4 h2=some (.tup (gs.map V.int))/\gs.length=n)
   ⟨hh,_,_,z,U,aH.refl _,eh,lz⟩ ?_ ?_⟩
  ·rintro i σ H4 hi ⟨h2,v0,v1,gs,rfl,s4,e2,lg⟩;have hfi:i < fl.length:=by lia
   have at1:atI (fl.map V.int) (0+(i:Int))=some (.int fl[i]):=by rw[WN];exact jH hfi
   have hy:us0[i]? = some us0[i]:=Vg hi;obtain⟨c,as,ps,ec,hps,hc,l100,rps⟩:=rb.get hy;have at2:atI us0 (0+(i:Int))=some (.ref c):=by rw[WN,← ec];exact cX hy
   have s34:aH H H4:=s3.trans s4;refine⟨G,f,Y,sqT (s34 _ _ hf),at1,G,b,Y,sqL (s34 _ _ hb),at2,O,c,h2,n,as,ps,gs,U,s34 _ _ hc,l100,rps.aL (fun a xs q=>s34 a _ q),sqT e2,by lia,fun H5 s5=>?_⟩;refine⟨_,O,?_⟩;generalize (if duF gs 0 ps > fl[i] then duF gs 0 ps else fl[i])=y
   refine gN ?_;dsimp only;refine Uy (k:=i) (v:=.int y) U (by rw[WN (i:Int)];rfl) U (s5 _ _ e2) (by rw[U7];lia) (by rw[U7];lia) fun p6 H6 s6 e6=>?_;refine⟨p6,_,_,gs.set i y,U,s4.trans (s5.trans s6),?_,by rw[aa3];exact lg⟩;rw[e6,List.map_set]
  ·rintro σ H4 ⟨h2,v0,v1,gs,rfl,s4,e2,lg⟩;refine⟨G,h2,hh,M,sqT e2,sqT (s4 _ _ eh),O,?_⟩;exact jx (fun _=>⟨O,q h2 gs H4 (s3.trans s4) e2 lg⟩) (fun _=>⟨h2,_,_,_,_,gs,U,s3.trans s4,e2,lg⟩)
 ·rintro σ H3 ⟨hh,u0,u1,u2,u3,z,rfl,s3,eh,lz⟩;exact⟨O,q hh z H3 s3 eh lz⟩
inductive Mm (K:VG)(vs:E6)(H:Hp)(Q:VK)(e3:XK):Prop where
 | mk (b f:Addr) (n:Nat) (bk:List (List Pl)) (fl:DC) (_:vs=[.ref b,.ref f]) (_:Od n H b bk) (_:SqT K H f (fl.map V.int)) (_:fl.length=bk.length) (_:∀ (r:Addr) (H':Hp),aH H H'->H' r=some (.tup ((rfF fl bk).map V.int))->Q (.ref r) H')
def Ny {p:Pl}{x:Int × Tm}(ok:okP p)(h:p[p.length - 1]? = some x):lsF p=x.1:=by
 have hne:=ok.1;have e:p=p.dropLast++[x]:=by
  rw[← List.getLast?_eq_getElem?,acb hne] at h;rw[← VV h];exact (aci hne).symm
 have hp:=ok.2.2.1;rw[e] at hp ⊢;exact JP hp
abbrev nH:Stmt:=top 75
def lA:aD ["_law_book","_law_floor","_law_found","_law_at"] XG (az nH):=cJ
def zT (F:Fun K "_law_roof" "_law_roof" nH f fd) (B:Bt mg) :
  aZ P w K mg base CX0 1 f fd XG (Mm K):=by
 refine okA F lA fun H Q E hr h=>?_;obtain⟨b,f,n,bk,fl,rfl,⟨us,hb,rb,l12⟩,hf,hl,q⟩:=h
 refine⟨_,(aj (sT 2 lA.nd (bc cQ))
 (aj (cP V4 U (bN U B.range_ (a1 (pln K B.len_ (pv 0)))) (pgN 3 lA.nd) (aB (aX (oX VR Wb Wa cz (pv 2) (a1 (aN (r:=K6 K) (sE U) U B.max_ sO (a1 (aK rF (bc (a1 (pxT K (pv 1) (pv 3)))) (bU (L:=["_law_pledge_here"]) (F:=[]) (cap:=[]) U (bj U U (by kernel_rfl)) (dB (pxL K (pv 0) (pv 3))) (fun _ _ _ _ _=>(pgC 0)) (fun _ _ _ _ _=>cI) (fun _ _ _ _ _=>(pxT K (pxT K (pv 0) (xH pD ao)) ao)))))))))))
 (sR (aW (r:=fX K) bz U B.tuple_ bH (v1 2))))),?_⟩
 have el:=rb.length;refine⟨small (V3 _),fun r hr0=>?_⟩;generalize eH1:upd H r _=H1;obtain⟨g1,e1⟩:=aG eH1 hr0
 refine⟨O,b,O,.inl (sqL (g1 _ _ hb)),O,by lia,by lia,iV (lo:=0) (n:=us.length) (fun i σ H2=>(∃ u,σ=[oR b,oR f,oR r,u])/\aH H H2/\H2 r=some (.lst ((aaR rfS (fl.take i) (bk.take i)).map V.int)))
  ⟨⟨O⟩,g1,e1⟩ ?_ ?_⟩
 ·rintro i σ H2 hi ⟨⟨u,rfl⟩,sm,hr2⟩;have jn:i < fl.length:=by lia
  have at1:atI (fl.map V.int) (0+(i:Int))=some (.int fl[i]):=by rw[WN];exact jH jn
  have hy:us[i]? = some us[i]:=Vg hi;obtain⟨c,as,ps,ec,hps,hc,l100,rps⟩:=rb.get hy;have ell:=rps.length;have at2:atI us (0+(i:Int))=some (.ref c):=by rw[WN,← ec];exact cX hy
  refine⟨O,.inl ⟨U,_,sqL hr2⟩,G,f,Y,gW sm hf,at1,smN 1,fun p4 h4=>?_⟩;generalize eH4:upd H2 p4 _=H4;obtain⟨g4,e4⟩:=aG eH4 h4;have s4:aH H H4:=sm.trans g4
  refine⟨G,b,Y,sqL (s4 _ _ hb),at2,c,U,⟨_,sqL (s4 _ _ hc)⟩,fun D2 hD2=>iH (K:=K) (a:=c) (xs:=as.map V.ref) (fun j ws σ' H5=>(∃ u,σ'=[u])/\ws=((ps.take j).map lsF).map V.int/\aH H4 H5/\H5 D2=some (.lst ws))
   ⟨⟨O⟩,U,au hD2 _,aa⟩ (fun j ws σ' H5 _ h=>⟨sqL (h.2.2.1 _ _ (s4 _ _ hc)),h.2.2.2⟩) ?_ ?_⟩
  ·rintro j ws x σ' H5 hx ⟨⟨u,rfl⟩,e5,s5,hD5⟩;obtain⟨a,ha,rfl⟩:=Mp hx;obtain⟨pl,hpl,ok,vs,hav,rv⟩:=rps.get ha;have lv:=rv.length;have lne:0 < pl.length:=List.length_pos_iff.mpr ok.1;have hlast:vs[vs.length - 1]? = some (vs[vs.length - 1]'(by lia)):=Vg (by lia);obtain⟨r0,k0,y,t,er,hr0',rt,hp⟩:=rv.get hlast;rw[er] at hlast;rw[lv] at hp;have s45:=s4.trans s5;refine gT ?_;refine⟨G,a,Y,sqT (s45 _ _ hav),Mw hlast,r0,Y,sqT (s45 _ _ hr0'),gt0,hD5,?_,⟨O⟩,?_,aM s5 hD2 _,aa⟩;{rw[e5,U7,U7,Vs];exact aJ (by lia)};{rw[e5,take_snoc lsF hpl,Vd,Ny ok hp];rfl}
  ·rintro ws σ' H5 ⟨_,e5,s5,hD5⟩;rw[U7,ell,Vk] at e5;subst e5;refine⟨p4,D2,M,s5 _ _ e4,hD5,small ?_,fun p6 h6=>?_⟩;{rw[U7,U7];show 1+ps.length<=1000;lia};generalize eH6:upd H5 p6 _=H6;obtain⟨g6,e6⟩:=aG eH6 h6;have sall:aH H2 H6:=g4.trans (s5.trans g6);refine⟨p6,fl[i]::ps.map lsF,U,sqL e6,by simp,r,_,_,U,U,sall _ _ hr2,?_,⟨O⟩,aM (sm.trans sall) hr0 _,?_⟩;{rw[U7,List.length_zipWith,Vs];exact aJ (by lia)};{rw[aa,K9 rfS (Vg jn) hps,Vd];rfl}
 ·rintro σ H2 ⟨⟨u,rfl⟩,sm,hr2⟩;refine⟨O,r,O,.inl ⟨sqL hr2,fun l hl'=>?_⟩⟩;refine q l _ (sm.trans (au hl' _)) ?_;rw[aa,el,Vk,← hl,Vk];rfl
def J3 {l:Addr}{xs:E6}{k:Nat}{y:V}{H:Hp}{Q:VK}(hl:H l=some (.lst xs))(hk:k < xs.length)(h5:xs.length<=100)(hy:xs[k]? = some y)(q:Q y (upd H l (.lst (xs.eraseIdx k)))):Ln (.ref l) [.int (k:Int)] H Q:=by
 refine⟨l,xs,(k:Int),k,y,U,U,hl,by lia,by lia,?_,hy,q⟩;have hj:(if (k:Int) < 0 then (k:Int)+(xs.length:Int) else (k:Int))=(k:Int):=iNe (by lia)
 have hd:((decide (0<=(k:Int)) && decide ((k:Int) < (xs.length:Int)))=true):=by
  rw[dcT (by lia),dcT (by lia)];rfl
 show (if (decide (0<=if (k:Int) < 0 then (k:Int)+(xs.length:Int) else (k:Int)) && decide ((if (k:Int) < 0 then (k:Int)+(xs.length:Int) else (k:Int)) < (xs.length:Int)))=true then some (if (k:Int) < 0 then (k:Int)+(xs.length:Int) else (k:Int)).toNat else none)=some k
 rw[hj,iPo hd,VL]
abbrev lL:Stmt:=top 78
def cD:aD ["_law_cell_here","_law_state","_law_drawn","_law_n","_law_book","_law_some","_law_one","_law_high","_law_first"] WU (az lL):=cJ
theorem RiI.snoc {H:Hp}{e:Addr}{o s:Int}(h:H e=some (.tup [.int o,.int s])):∀ {us:E6} {ps:C3},RiI H us ps->RiI H (us++[.ref e]) (ps++[(o,s)])
 | _,_,.nil=>.cons h .nil
 | _,_,.cons h' r=>.cons h' (RiI.snoc h r)
theorem RiI.erase {H:Hp}:∀ {us:E6} {ps:C3} (k:Nat),RiI H us ps->RiI H (us.eraseIdx k) (ps.eraseIdx k)
 | _,_,_,.nil=>.nil
 | _,_,0,.cons _ r=>r
 | _,_,k+1,.cons h r=>.cons h (RiI.erase k r)
theorem RiI.rev {H:Hp}:∀ {us:E6} {ps:C3},RiI H us ps->RiI H us.reverse ps.reverse
 | _,_,.nil=>.nil
 | _,_,.cons h r=>by
  rw[aav,aav];exact RiI.snoc h (RiI.rev r)
def RiI.way {H:Hp}{us:E6}{ps:C3}(s:Int)(h:RiI H us ps):RiI H (Ex s us) (Ex s ps):=by
 unfold Ex;split;{exact h};{exact h.rev}
inductive Bo (vs:E6)(H:Hp)(Q:VK)(e3:XK):Prop where
 | mk (c:Int) (be a:Addr) (A:Sa) (_:vs=[.int c,.ref a]) (_:StR be A.n H a A.g A.go A.es A.co) (_:AOk A) (_:1<=A.n) (_:∀ (r:Addr) (us:E6) (ps:C3) (H':Hp),aH H H'->H r=none->H' r=some (.lst us)->RiI H' us ps->ps.length<=100->Q (.ref r) H')
def wg {k:Nat} (hk:3<=k) (F:Fun K "_law_rises" "_law_rises" lL f fd) (B:Bt mg) (P7:Df P w K mg base "_law_draws" 1 WO (oW K)) (PV:Df P w K mg base "_law_book_of" 3 ZI Br) (QN:Df P w K mg base "_law_owed" k Xs (yz K))
  (RO:Df P w K mg base "_law_step_by_step" (k+1) WC Cg) (RE:Df P w K mg base "_law_roof" 1 XG (Mm K)) (Sb:Df P w K mg base "_law_who" 1 Yf Oa):aZ P w K mg base CX0 (k+2) f fd WU Bo:=by
 refine okA F cD fun H Q E hr h=>?_;obtain⟨c,be,a,S,rfl,hst,ok,n1,q⟩:=h
 refine⟨_,(aj (sT 2 cD.nd (aO P7 hr (aq (aK bD (pv 0) ao) (a1 (bc (aq ao (aq ao (aq ao (aq ao (a1 ao))))))))))
 (aj (sT 3 cD.nd (pln K B.len_ (pxT K (pv 1) ao)))
 (aj (sTc 4 cD.nd (aO PV hr (v1 1)))
 (aj (bR (aA pZ (pxL K (pv 2) ao) ao) (aj (lF (L:=ZN) (F:=["_law_book","_law_state"]) (cap:=[4,1]) (j:=5) cD.nd U (Za U) U (bj U U (by kernel_rfl)) (bN U B.range_ (v1 3)) (fun _ _ _ _ _=>(pgC 0)) (fun _ _ _ _ _=>(jl (aA jL (aO QN hr (aq (pxL K (pv 1) (pv 0)) (a1 (pxT K (pv 2) ao)))) (pxT K (pxT K (pv 2) ao) (pv 0))))) (fun _ _ _ _ _=>(pv 0)))
 (aB (bR (aA (r:=Pq K) (wK hr.kj) (pv 5) (bc cQ)) (aj (sT 6 cD.nd (pxL K (pv 5) (aK bI (pxL K (pv 2) ao) (pln K B.len_ (pv 5)))))
 (sR (bc (a1 (aP (aq (pv 6) (a1 (aO QN hr (aq (pxL K (pv 4) (pv 6)) (a1 (pxT K (pv 1) ao))))))))))) aR))) aR)
 (aj (bR (aA pZ (pxL K (pv 2) ao) ao) (aj (sTc 7 cD.nd (aO RO hr (aq (pv 4) (aq (pxT K (pv 1) ao) (a1 (aO RE hr (aq (pv 4) (a1 (pxT K (pv 1) ao)))))))))
 (aj (lF (L:=ZN) (F:=["_law_high","_law_state"]) (cap:=[7,1]) (j:=5) cD.nd U (Za U) U (bj U U (by kernel_rfl)) (bN U B.range_ (v1 3)) (fun _ _ _ _ _=>(pgC 0)) (fun _ _ _ _ _=>(jl (aA jL (pxT K (pv 1) (pv 0)) (pxT K (pxT K (pv 2) ao) (pv 0))))) (fun _ _ _ _ _=>(aP (aq (pv 0) (a1 (pxT K (pv 1) (pv 0)))))))
 (aj (bR (PW.pt (jU (aA aQ (pxL K (pv 2) ao) ao) (fP (aA (r:=Pq K) (wK hr.kj) (pv 5) (bc cQ))))) (aB (aX (oX VR YF YD JB (pv 5) (a1 (aK bI (pxL K (pv 2) ao) (pln K B.len_ (pv 5))))))) aR)
 (sR (JL (pv 5) (oY (aK eO ao (aK gG ao (aK bI (pxL K (pv 2) ao) ao))))))))) aR)
 (aj (sT 8 cD.nd (aP (aq (aO Sb hr (aq (pxL K (pv 2) ao) (v1 3))) (a1 (pxL K (pv 2) ao)))))
 (sR (pxL K (bc (aq (bc (v1 8)) (a1 (bc (aq (pv 8) (a1 (aP (aq (aO Sb hr (aq (pxL K (pv 2) ao) (v1 3))) (a1 (pxL K (pv 2) ao)))))))))) (aK eO (pxL K (pv 2) ao) ao))))))))),?_⟩
 obtain⟨pa,ga,ta,kvs,h1,h2,h3,h4,h5,h6⟩:=id hst;have n12:=ok.n12;have lg:=ok.lg;have hps:∀ q∈([8,997,997,10,10]:DC),0 < q:=by decide
 refine bL (fun σ H1=>∃ (dr:Addr) (d0 d1 d2 d3 d4:Int),σ=[oI c,oR a,oR dr,none,none,none,none,none,none]/\aH H H1/\H1 dr=some (.lst [.int d0,.int d1,.int d2,.int d3,.int d4])/\0<=d0/\d0 < 8) ?_ ?_;{intro N Rc;refine⟨O,M,smN 5,fun p1 hp1=>⟨_,p1,[8,997,997,10,10],U,sqL aa,by decide,by decide,fun p2 hp2=>?_⟩⟩;obtain⟨d0,k0,b0⟩:=dj (c:=qm (c+3)) (i:=0) hps U;cases k0;exact Rc _ _ ⟨p2,_,_,_,_,O,(au hp1 _).trans (au hp2 _),aa,b0.1,b0.2⟩};rintro σ H1 ⟨dr,d0,d1,d2,d3,d4,rfl,s1,e1,b0,b8⟩;refine bL (fun σ H2=>σ=[oI c,oR a,oR dr,some (vN S.n),none,none,none,none,none]/\H2=H1) ?_ ?_;{intro N Rc;refine⟨O,a,Y,sqT (s1 _ _ h1),gt0,pa,O,.inl (sqL (s1 _ _ h2)),Rc _ _ ⟨?_,U⟩⟩;rw[cu];rfl};rintro σ H2 ⟨rfl,rfl⟩;refine bL (fun σ H3=>∃ (b:Addr) (bk:List (List Pl)),σ=[oI c,oR a,oR dr,some (vN S.n),oR b,none,none,none,none]/\aH H2 H3/\Od S.n H3 b bk/\bk.length=S.n) ?_ ?_;{intro N Rc;exact⟨O,be,a,S,U,hst.same s1,ok,fun b bk H3 s3 hb lb=>Rc _ _ ⟨b,bk,U,s3,hb,lb⟩⟩};rintro σ H3 ⟨b,bk,rfl,s3,hB,lb⟩;have e3:=s3 _ _ e1;have s03:=s1.trans s3;obtain⟨us0,hb,rb,l12⟩:=id hB;have lu0:=rb.length;have hst3:=hst.same s03;have bat:∀ j:Nat,j < S.n->∃ (c:Addr) (as:Db) (ps:List Pl),us0[j]? = some (.ref c)/\H3 c=some (.lst (as.map V.ref))/\as.length<=100/\eV S.n H3 as ps:=fun j hj=>by
  have hy:us0[j]? = some us0[j]:=Vg (by lia);obtain⟨cc,as,ps,ec,hps,hc,l100,rps⟩:=rb.get hy;exact⟨cc,as,ps,by rw[hy,ec],hc,l100,rps⟩
 have gat:∀ j:Nat,j < S.n->∃ z:Int,atI (S.g.map V.int) (j:Int)=some (.int z):=fun j hj=>⟨_,jH (by lia)⟩;refine bL (fun σ H4=>∃ (u:EW),σ=[oI c,oR a,oR dr,some (vN S.n),oR b,u,none,none,none]/\aH H3 H4) ?_ ?_
 ·intro N Rc;refine⟨O,dr,Y,sqL e3,gt0,M,O,jx (fun _=>?_) (fun _=>Rc _ _ ⟨O,aH.refl _⟩)⟩;refine bL (fun σ H4=>∃ (D:Addr) (ms:DD),σ=[oI c,oR a,oR dr,some (vN S.n),oR b,oR D,none,none,none]/\aH H3 H4/\H4 D=some (.lst (ms.map vN))/\ms.length<=S.n/\∀ x∈ms,x < S.n) ?_ ?_
  ·intro N5 R5
   refine⟨G,by lia,by lia,fun D hD=>cN (lo:=0) (n:=((S.n:Nat):Int).toNat) (fun j zs σ' H5=>(∃ u,σ'=[u,oR b,oR a])/\aH H3 H5/\H5 D=some (.lst zs)/\∃ ms:DD,zs=ms.map vN/\ms.length<=j/\∀ x∈ms,x < S.n)
    ⟨⟨O⟩,au hD _,aa,[],U,Vb _,by simp⟩ (fun j zs σ' H5 _ h=>h.2.2.1) ?_ ?_⟩
   ·rintro j zs σ' H5 hj ⟨⟨u,rfl⟩,sm,eD,ms,rfl,lm,hm⟩;have hj':j < S.n:=by lia
    rw[WN];obtain⟨cc,as,ps,hcc,hc,l100,rps⟩:=bat j hj';obtain⟨z,hz⟩:=gat j hj';refine⟨G,b,Y,sqL (sm _ _ hb),cX hcc,O,a,Y,sqT ((s03.trans sm) _ _ h1),gt1,cc,ga,S.n,as,ps,S.g,U,sm _ _ hc,l100,rps.aL (fun a xs y=>sm _ _ y),sqT ((s03.trans sm) _ _ h3),by lia,fun H6 s6=>?_⟩;have s36:=s03.trans (sm.trans s6);refine⟨O,a,Y,sqT (s36 _ _ h1),gt1,O,ga,Y,sqT (s36 _ _ h3),hz,M,O,?_⟩;refine jx (fun _=>?_) (fun _=>⟨⟨O⟩,sm.trans s6,s6 _ _ eD,ms,U,by lia,hm⟩);refine⟨O,s6 _ _ eD,aJ (by rw[U7];lia),⟨O⟩,aM (sm.trans s6) hD _,aa,ms++[j],?_,by rw[Vf];show ms.length+1<=j+1;lia,?_⟩;{rw[Vd];rfl}
    ·intro x hx;rcases List.mem_append.mp hx with y | y;{exact hm x y};{rw[List.mem_singleton.mp y];exact hj'}
   ·rintro zs σ' H5 ⟨_,sm,eD,ms,rfl,lm,hm⟩;exact R5 _ _ ⟨D,ms,U,sm,eD,by lia,hm⟩
  rintro σ H4 ⟨D,ms,rfl,s4,eD,lm,hm⟩;have e4:=s4 _ _ e3;refine⟨O,small (V3 _),fun p hp=>?_⟩;generalize eH5:upd H4 p _=H5;obtain⟨g5,e5⟩:=aG eH5 hp;have s5:=s4.trans g5;refine⟨D,p,O,U,sqL (g5 _ _ eD),sqL e5,O,?_⟩;cases ms with
  | nil=>exact bK (nN (Rc _ _ ⟨O,s5⟩))
  | cons m0 mr =>
   refine cL ?_;have lp:0 < (((m0::mr).map vN).length:Int):=by rw[U7,Vv];lia
   obtain⟨kk,ek⟩:=Wo (V5 d1 (show (((m0::mr).map vN).length:Int)≠0 by lia));have hkk:kk < (m0::mr).length:=by have:=VN d1 lp;rw[U7] at this ek;lia
   have hm0:=hm (m0::mr)[kk] (ab0 hkk);obtain⟨cc,as,ps,hcc,hc,l100,rps⟩:=bat _ hm0;refine bL (fun σ H6=>σ=[oI c,oR a,oR dr,some (vN S.n),oR b,oR D,some (vN (m0::mr)[kk]),none,none]/\H6=H5) ?_ ?_;{intro N6 R6;refine⟨G,dr,Y,sqL (g5 _ _ e4),gt1,O,D,O,.inl (sqL (g5 _ _ eD)),M,lp,D,Y,sqL (g5 _ _ eD),?_,R6 _ _ ⟨U,U⟩⟩;show atI _ (d1 % (((m0::mr).map vN).length:Int))=_;rw[ek];refine cX ?_;rw[Vr,Vg hkk];rfl};rintro σ H6 ⟨rfl,rfl⟩;have s06:=s03.trans s5;refine⟨G,O,b,Y,sqL (s5 _ _ hb),cX hcc,O,a,Y,sqT (s06 _ _ h1),gt1,cc,ga,S.n,as,ps,S.g,U,s5 _ _ hc,l100,rps.aL (fun a xs y=>s5 _ _ y),sqT (s06 _ _ h3),by lia,fun H7 s7=>?_⟩;refine⟨smN 2,fun t ht=>⟨smN 1,fun r hr0=>?_⟩⟩;have st:=au ht (.tup [vN (m0::mr)[kk],.int (duF S.g 0 ps)]);have s67:=s7.trans st;refine q r _ [((m0::mr)[kk],duF S.g 0 ps)] _ (s06.trans (s67.trans (au hr0 _))) ((s06.trans s67).free hr0) aa (.cons ?_ .nil) (by show 1<=100;decide);exact au hr0 _ _ _ aa
 rintro σ H4 ⟨u,rfl,s4⟩;have e4:=s4 _ _ e3;have s04:=s03.trans s4;refine bL (fun σ H5=>σ=[oI c,oR a,oR dr,some (vN S.n),oR b,u,none,none,none]/\H5=H4/\6<=d0) ?_ ?_
 ·intro N Rc;refine⟨O,dr,Y,sqL e4,gt0,M,O,?_⟩;by_cases z6:d0 < 6
  case neg =>
   rw[dcF z6];exact bK (nN (Rc _ _ ⟨U,U,by lia⟩))
  rw[dcT z6];refine cL ?_;refine bL (fun σ H5=>∃ (hi:Addr) (z:DC),σ=[oI c,oR a,oR dr,some (vN S.n),oR b,u,none,oR hi,none]/\aH H4 H5/\H5 hi=some (.tup (z.map V.int))/\z.length=S.n) ?_ ?_;{intro N8 R8;refine⟨G,a,Y,sqT (s04 _ _ h1),gt1,G,a,Y,sqT (s04 _ _ h1),gt1,b,ga,S.n,bk,S.g,U,hB.mono s4,sqT (s04 _ _ h3),by lia,fun r5 H5 s5 e5=>?_⟩;exact⟨b,ga,r5,S.n,bk,S.g,rfF S.g bk,U,hB.mono (s4.trans s5),lb,(s04.trans s5) _ _ h3,lg,e5,by unfold rfF;rw[List.length_zipWith];lia,fun r6 z H6 s6 e6 lz=>R8 _ _ ⟨r6,z,U,s5.trans s6,e6,lz⟩⟩};rintro σ H5 ⟨hi,z,rfl,s5,ehi,lz⟩;have zat:∀ j:Nat,j < S.n->∃ y:Int,atI (z.map V.int) (j:Int)=some (.int y):=fun j hj=>⟨_,jH (by lia)⟩;have s05:=s04.trans s5;refine bL (fun σ H6=>∃ (D:Addr) (us:E6) (ps:C3),σ=[oI c,oR a,oR dr,some (vN S.n),oR b,oR D,none,oR hi,none]/\aH H5 H6/\H5 D=none/\H6 D=some (.lst us)/\RiI H6 us ps/\ps.length<=S.n) ?_ ?_
  ·intro N9 R9
   refine⟨G,by lia,by lia,fun D hD=>cN (lo:=0) (n:=((S.n:Nat):Int).toNat) (fun j zs σ' H6=>(∃ u,σ'=[u,oR hi,oR a])/\aH H5 H6/\H6 D=some (.lst zs)/\∃ ps:C3,RiI H6 zs ps/\ps.length<=j)
    ⟨⟨O⟩,au hD _,aa,[],.nil,Vb _⟩ (fun j zs σ' H6 _ h=>h.2.2.1) ?_ ?_⟩
   ·rintro j zs σ' H6 hj ⟨⟨u,rfl⟩,sm,eD,ps,hri,lm⟩;have hj':j < S.n:=by lia
    rw[WN];obtain⟨y,hy⟩:=zat j hj';obtain⟨y2,hy2⟩:=gat j hj';have s06:=s05.trans sm;refine⟨G,hi,Y,sqT (sm _ _ ehi),hy,O,a,Y,sqT (s06 _ _ h1),gt1,O,ga,Y,sqT (s06 _ _ h3),hy2,M,O,?_⟩;refine jx (fun _=>?_) (fun _=>⟨⟨O⟩,sm,eD,ps,hri,by lia⟩);refine⟨G,O,hi,Y,sqT (sm _ _ ehi),hy,smN 2,fun t ht=>?_⟩;have st:=au ht (.tup [.int (j:Int),.int y]);have eDt:=st _ _ eD;have tk:=cM (zs':=zs++[.ref t]) eDt;have lz':=hri.length;refine⟨eDt,aJ (by lia),⟨O⟩,aM (sm.trans st) hD _,aa,ps++[((j:Int),y)],RiI.snoc (tk _ _ aa) ((hri.aL fun a xs q=>st _ _ q).aL tk),by rw[Vf];show ps.length+1<=j+1;lia⟩
   ·rintro zs σ' H6 ⟨_,sm,eD,ps,hri,lm⟩;exact R9 _ _ ⟨D,zs,ps,U,sm,hD,eD,hri,by lia⟩
  rintro σ H6 ⟨D,us,ps,rfl,s6,fD,eD,hri,lps⟩;have fD4:=s5.free fD;have lus:=hri.length;have e6:=(s5.trans s6) _ _ e4;refine bL (fun σ H7=>∃ (us:E6) (ps:C3),σ=[oI c,oR a,oR dr,some (vN S.n),oR b,oR D,none,oR hi,none]/\aH H4 H7/\H7 D=some (.lst us)/\RiI H7 us ps/\ps.length<=S.n) ?_ ?_
  ·intro NA RA;have out:∀ H7,aH H6 H7->NA [some (.int c),some (.ref a),some (.ref dr),some (vN S.n),some (.ref b),some (.ref D),none,some (.ref hi),none] H7:=fun H7 s7=>RA _ _ ⟨us,ps,U,s5.trans (s6.trans s7),s7 _ _ eD,hri.aL (fun a xs y=>s7 _ _ y),lps⟩;refine jC (fun cc H7=>aH H6 H7/\(cc=true->us≠[])) (fun Q' Rq=>?_) ?pp (fun H7 z=>out H7 z.1);{refine⟨O,dr,Y,sqL e6,J,?_⟩;refine jx (fun _=>?_) (fun _=>Rq _ _ ⟨aH.refl _,fun z=>by cases z⟩);refine⟨O,small (V3 _),fun p hp=>?_⟩;generalize eH7:upd H6 p _=H7;obtain⟨g7,e7⟩:=aG eH7 hp;refine⟨D,p,O,U,sqL (g7 _ _ eD),sqL e7,O,Rq _ _ ⟨g7,fun y x=>?_⟩⟩;rw[x] at y;cases y}
   case pp =>
    rintro H7 ⟨s7,hne⟩;have hne:=hne U;have eD7:=s7 _ _ eD;have lpo:0 < us.length:=List.length_pos_iff.mpr hne;obtain⟨kk,ek⟩:=Wo (V5 d1 (show ((us.length:Nat):Int)≠0 by lia));have hkk:kk < us.length:=by have:=VN d1 (show (0:Int) < ((us.length:Nat):Int) by lia);lia
    refine⟨O,.inl ⟨U,_,sqL eD7⟩,O,dr,Y,sqL (s7 _ _ e6),gt1,O,D,us,U,.inl (sqL eD7),M,(show (0:Int) < ((us.length:Nat):Int) by lia),?_⟩;dsimp only [wM];rw[ek];refine J3 eD7 hkk (by lia) (Vg hkk) ?_;refine RA _ _ ⟨us.eraseIdx kk,ps.eraseIdx kk,U,aM (s5.trans (s6.trans s7)) fD4 _,aa,((hri.aL fun a xs y=>s7 _ _ y).aL (cM eD7)).erase kk,?_⟩;have:=List.length_eraseIdx_le ps kk;lia
  rintro σ H7 ⟨us,ps,rfl,s7,eD7,hri,lps⟩;have wy:(1:Int) - 2 * (d2 % 2)=1∨(1:Int) - 2 * (d2 % 2) = -1:=by lia
  have s07:=s04.trans s7;refine⟨G,dr,Y,sqL (s7 _ _ e4),gt2,M,(show (0:Int) < 2 by decide),_,_,U,U,.inl ⟨by decide,by decide⟩,_,_,U,U,_,U,_,D,us,U,wy,U,sqL eD7,fun r hr0=>?_⟩;have sr:=au hr0 (.lst (Ex (1 - 2 * (d2 % 2)) us));refine q r _ (Ex (1 - 2 * (d2 % 2)) ps) _ (s07.trans sr) (s07.free hr0) aa ((hri.aL fun a xs y=>sr _ _ y).way _) (by rw[rZ];lia)
 rintro σ H5 ⟨rfl,rfl,b6⟩;refine bL (fun σ H6=>∃ (fi:Addr) (o0:Int),σ=[oI c,oR a,oR dr,some (vN S.n),oR b,u,none,none,oR fi]/\aH H5 H6/\H6 fi=some (.tup [.int o0,.int d3])) ?_ ?_;{intro N Rc;refine⟨O,dr,Y,sqL e4,gt1,O,d1,O,(show (0:Int) < ((S.n:Nat):Int) by lia),fun z H6 s6=>⟨O,dr,Y,sqL (s6 _ _ e4),dM (k:=3) U,smN 2,fun t ht=>Rc _ _ ⟨t,z,U,s6.trans (au ht _),aa⟩⟩⟩};rintro σ H6 ⟨fi,o0,rfl,s6,efi⟩;refine⟨O,smN 1,fun l1 hl1=>?_⟩;generalize eF1:upd H6 l1 _=F1;obtain⟨g1,f1⟩:=aG eF1 hl1;have s61:=s6.trans g1;refine⟨G,dr,Y,sqL (s61 _ _ e4),gt2,O,d2,O,(show (0:Int) < ((S.n:Nat):Int) by lia),fun z F2 g2=>⟨O,dr,Y,sqL ((s61.trans g2) _ _ e4),dM (k:=4) U,smN 2,fun t ht=>?_⟩⟩;generalize eF3:upd F2 t _=F3;obtain⟨g3,f3⟩:=aG eF3 ht;refine⟨smN 2,fun l2 hl2=>?_⟩;generalize eF4:upd F3 l2 _=F4;obtain⟨g4,f4⟩:=aG eF4 hl2;refine⟨smN 2,fun l3 hl3=>?_⟩;generalize eF5:upd F4 l3 _=F5;obtain⟨g5,f5⟩:=aG eF5 hl3;have s15:=g2.trans (g3.trans (g4.trans g5));have sall:=s04.trans (s61.trans s15);have hl:∃ (r:Addr) (us:E6) (ps:C3),([.ref l1,.ref l2]:E6)[(d0 - 6).toNat]? = some (.ref r)/\H r=none/\F5 r=some (.lst us)/\RiI F5 us ps/\ps.length<=2:=by
  have efi5:=(g1.trans s15) _ _ efi;rcases (show d0=6∨d0=7 by lia) with rfl | rfl;{exact⟨l1,_,[(o0,d3)],U,(s04.trans s6).free hl1,s15 _ _ f1,.cons efi5 .nil,(by show 1<=2;decide)⟩};{exact⟨l2,_,[(o0,d3),(z,d4)],U,(s04.trans (s61.trans (g2.trans g3))).free hl2,g5 _ _ f4,.cons efi5 (.cons ((g4.trans g5) _ _ f3) .nil),Vb 2⟩}
 obtain⟨r,us,ps,hr1,fr,er,hri,lps⟩:=hl;refine⟨O,dr,Y,sqL ((s61.trans s15) _ _ e4),gt0,M,l3,Y,sqL f5,?_,q r us ps F5 sall fr er hri (by lia)⟩;show atI _ (d0 - 6)=_;rw[show d0 - 6=(((d0 - 6).toNat:Nat):Int) by lia];exact cX hr1
abbrev nW:Stmt:=top 79
def bM:aD ["_law_cell_here","_law_state","_law_most","_law_drawn","_law_n","_law_one","_law_numbers","_law_number","_law_who_here","_law_pledge_here"] VY (az nW):=cJ
inductive Mh (vs:E6)(H:Hp)(Q:VK)(e3:XK):Prop where
 | mk (c:Int) (mo:Nat) (be a:Addr) (A:Sa) (_:vs=[.int c,.ref a,.int (mo:Int)]) (_:1<=mo) (_:mo<=9) (_:StR be A.n H a A.g A.go A.es A.co) (_:AOk A) (_:∀ (da:Addr) (d:tG) (H':Hp),aH H H'->DeR A.n H' da d->(∀ r,H' da=some (.tup [.str "hand",.ref r])->H r=none)->Q (.ref da) H')
def Av {k:Nat} (hk:6<=k) (F:Fun K "_law_deed" "_law_deed" nW f fd) (B:Bt mg) (P7:Df P w K mg base "_law_draws" 1 WO (oW K)) (Sb:Df P w K mg base "_law_who" 1 Yf Oa) (Rs:Df P w K mg base "_law_rises" k WU Bo)
  (RW:Df P w K mg base "_law_under" 1 WZ vf) (QY:Df P w K mg base "_law_pledge" 6 VQ Ci):aZ P w K mg base CX0 (k+1) f fd VY Mh:=by
 refine okA F bM fun H Q E hr h=>?_;obtain⟨c,mo,be,a,S,rfl,m1,m9,hst,ok,q⟩:=h
 refine⟨_,(aj (sT 3 bM.nd (aO P7 hr (aq (pv 0) (a1 (bc (aq ao (aq ao (aq ao (aq ao (a1 ao))))))))))
 (aj (sT 4 bM.nd (pln K B.len_ (pxT K (pv 1) ao)))
 (aj (ifR (PW.pt (jw (aA aQ (pv 4) ao) (fH (aA pZ (pxL K (pv 3) ao) (aK eO ao (aK gG ao (aW (r:=Kw) nq U B.int_ qP (a1 (cT jL (pv 4) ao))))))))) (aP (a1 aC)))
 (aj (sT 5 bM.nd (aO Sb hr (aq (pxL K (pv 3) ao) (v1 4))))
 (aj (sT 6 bM.nd (aN (r:=yq) (j5 U) U B.sorted_ (by decide+kernel) (a1 (pxT K (pv 1) ao))))
 (aj (sT 7 bM.nd (aK eO (pxL K (pv 3) ao) ao))
 (aj (bR (PW.pt (jU (aA (r:=Pq K) (wK hr.kj) (pv 6) (bc cQ)) (fP (aA jL (pxL K (pv 3) ao) ao)))) (aB (sT 7 bM.nd (pxL K (pv 6) (aK bI (pxL K (pv 3) ao) (pln K B.len_ (pv 6)))))) aR)
 (aj (ifR (aA aQ (pxL K (pv 3) ao) ao) (aP (aq aC (v1 5))))
 (aj (ifR (aA jL (pxL K (pv 3) ao) ao) (aP (aq aC (a1 (aO Rs hr (v2 0 1))))))
 (aj (ifR (aA aQ (pxL K (pv 3) ao) ao) (aP (aq aC (v1 7))))
 (aj (sT 8 bM.nd (pv 5))
 (aj (bR (PW.pt (jU (aA aQ (pxL K (pv 3) ao) ao) (fP (EY (Ro hr.iT (pv 7) (pxT K (pv 1) ao)))))) (aB (sT 8 bM.nd (pxT K (jM hr.iT (pxT K (pv 1) ao) (pv 7) (fun _ _=>U)) ao))) aR)
 (aj (sT 8 bM.nd (aK bI (pv 8) (pv 4)))
 (aj (sT 9 bM.nd (aO QY hr (aq (aO RW hr (aq (pv 0) (a1 ao))) (aq (pv 4) (aq (pv 8) (aq ao (v1 2)))))))
 (aj (bR (PW.pt (jU (aA aQ (pxL K (pv 3) ao) ao) (fP (aA jL (pv 4) ao)))) (aB (sT 9 bM.nd (aO QY hr (aq (aO RW hr (aq (pv 0) (a1 ao))) (aq (pv 4) (aq (aK bI (aK bD (pv 8) ao) (pv 4)) (aq ao (v1 2)))))))) aR)
 (aj (ifR (aA aQ (pxL K (pv 3) ao) ao) (aP (aq aC (v2 7 9))))
 (sR (aP (aq aC (v2 5 9)))))))))))))))))))),?_⟩
 obtain⟨pa,ga,ta,kvs,h1,h2,h3,h4,h5,h6⟩:=id hst;have n12:=ok.n12;have l40:=ok.l40;have hps:∀ q∈([18,997,40,12,9]:DC),0 < q:=by decide
 refine bL (fun σ H1=>∃ (dr:Addr) (d0 d1 d2 d3 d4:Int),σ=[oI c,oR a,some (.int (mo:Int)),oR dr,none,none,none,none,none,none]/\aH H H1/\H1 dr=some (.lst [.int d0,.int d1,.int d2,.int d3,.int d4])) ?_ ?_;{intro N Rc;refine⟨O,smN 5,fun p1 hp1=>⟨_,p1,[18,997,40,12,9],U,sqL aa,by decide,by decide,fun p2 hp2=>?_⟩⟩;exact Rc _ _ ⟨p2,_,_,_,_,O,(au hp1 _).trans (au hp2 _),aa⟩};rintro σ H1 ⟨dr,d0,d1,d2,d3,d4,rfl,s1,e1⟩;refine bL (fun σ H2=>σ=[oI c,oR a,some (.int (mo:Int)),oR dr,some (vN S.n),none,none,none,none,none]/\H2=H1) ?_ ?_;{intro N Rc;refine⟨O,a,Y,sqT (s1 _ _ h1),gt0,pa,O,.inl (sqL (s1 _ _ h2)),Rc _ _ ⟨?_,U⟩⟩;rw[cu];rfl};rintro σ H2 ⟨rfl,rfl⟩;refine bL (fun σ H3=>σ=[oI c,oR a,some (.int (mo:Int)),oR dr,some (vN S.n),none,none,none,none,none]/\H3=H2/\1<=S.n) ?_ ?_
 ·intro N Rc;refine jC (fun cc H3=>H3=H2/\(cc=false->1<=S.n)) (fun Q' Rq=>?_) (fun H3 z=>?_) (fun H3 z=>nN (Rc _ _ ⟨U,z.1,z.2 U⟩));{refine⟨N,jx (fun _=>Rq _ _ ⟨U,fun z=>by cases z⟩) (fun y=>?_)⟩;have n1:1<=S.n:=Nat.pos_of_ne_zero fun x=>y (dcT (by rw[x];rfl));exact⟨O,dr,Y,sqL e1,gt0,O,M,.inr ⟨O,M,.inl ⟨by decide,by decide⟩,_,_,U,U,_,_,U,U,_,U,Rq _ _ ⟨U,fun _=>n1⟩⟩⟩};{obtain⟨rfl,_⟩:=z;refine⟨smN 1,fun p hp=>?_⟩;have sn:=au hp (.tup [.str "come"]);refine q p .come _ (s1.trans sn) (.come aa) fun r hr0=>?_;rw[aa] at hr0;cases hr0}
 rintro σ H3 ⟨rfl,rfl,n1⟩;refine bL (fun σ H4=>∃ z1:Int,σ=[oI c,oR a,some (.int (mo:Int)),oR dr,some (vN S.n),oI z1,none,none,none,none]/\aH H3 H4) ?_ ?_;{intro N Rc;exact⟨O,dr,Y,sqL e1,gt1,O,d1,O,(show (0:Int) < ((S.n:Nat):Int) by lia),fun z H6 s6=>Rc _ _ ⟨z,U,s6⟩⟩};rintro σ H4 ⟨z1,rfl,s4⟩;have s04:=s1.trans s4;refine bL (fun σ H5=>∃ (l:Addr) (ms:DC),σ=[oI c,oR a,some (.int (mo:Int)),oR dr,some (vN S.n),oI z1,oR l,none,none,none]/\aH H4 H5/\H5 l=some (.lst (ms.map V.int))) ?_ ?_;{intro N Rc;exact⟨O,a,Y,sqT (s04 _ _ h1),gt2,ta,kvs,S.es.map fun e=>(e.1:Int),U,s04 _ _ h4,h5.keys,by rw[U7];lia,fun ms pm sr l hl=>Rc _ _ ⟨l,ms,U,au hl _,aa⟩⟩};rintro σ H5 ⟨l,ms,rfl,s5,el⟩;have s05:=s04.trans s5;have e5:=(s4.trans s5) _ _ e1;refine bL (fun σ H6=>∃ z2:Int,σ=[oI c,oR a,some (.int (mo:Int)),oR dr,some (vN S.n),oI z1,oR l,oI z2,none,none]/\H6=H5) ?_ ?_;{intro N Rc;exact⟨O,dr,Y,sqL e5,gt2,M,Rc _ _ ⟨O,U⟩⟩};rintro σ H6 ⟨z2,rfl,rfl⟩;refine bL (fun σ H7=>∃ z3:Int,σ=[oI c,oR a,some (.int (mo:Int)),oR dr,some (vN S.n),oI z1,oR l,oI z3,none,none]/\aH H6 H7) ?_ ?_
 ·intro N Rc;refine jC (fun cc H7=>aH H6 H7/\(cc=true->ms≠[])) (fun Q' Rq=>?_) ?pp (fun H7 z=>nN (Rc _ _ ⟨O,z.1⟩));{refine⟨O,small (V3 _),fun p hp=>?_⟩;generalize eH7:upd H6 p _=H7;obtain⟨g7,e7⟩:=aG eH7 hp;refine⟨l,p,O,U,sqL (g7 _ _ el),sqL e7,O,?_⟩;refine jx (fun y=>?_) (fun _=>Rq _ _ ⟨g7,fun z=>by cases z⟩);exact⟨O,dr,Y,sqL (g7 _ _ e5),dM (k:=3) U,M,O,Rq _ _ ⟨g7,fun _ x=>by rw[x] at y;cases y⟩⟩}
  case pp =>
   rintro H7 ⟨s7,hne⟩;have hne:=hne U;have lpo:0 < ms.length:=List.length_pos_iff.mpr hne;have lp:(0:Int) < (((ms.map V.int).length:Nat):Int):=by rw[U7];lia
   obtain⟨kk,ek⟩:=Wo (V5 d2 (show (((ms.map V.int).length:Nat):Int)≠0 by lia));have hkk:kk < ms.length:=by have:=VN d2 lp;rw[U7] at this ek;lia
   refine⟨G,dr,Y,sqL (s7 _ _ e5),gt2,O,l,O,.inl (sqL (s7 _ _ el)),M,lp,l,Y,sqL (s7 _ _ el),?_,Rc _ _ ⟨ms[kk],U,s7⟩⟩;show atI _ (d2 % (((ms.map V.int).length:Nat):Int))=_;rw[ek];refine cX ?_;rw[Vr,Vg hkk];rfl
 rintro σ H7 ⟨z3,rfl,s7⟩;have s07:=s05.trans s7;have e7:=s7 _ _ e5;have hst7:=hst.same s07;refine bL (fun σ H8=>σ=[oI c,oR a,some (.int (mo:Int)),oR dr,some (vN S.n),oI z1,oR l,oI z3,none,none]/\H8=H7) ?_ ?_;{intro N Rc;refine⟨O,dr,Y,sqL e7,J,jx (fun _=>⟨O,smN 2,fun p hp=>?_⟩) (fun _=>Rc _ _ ⟨U,U⟩)⟩;have sn:=au hp (.tup [.str "leave",.int z1]);refine q p _ _ (s07.trans sn) (.leave aa) fun r hr0=>?_;rw[aa] at hr0;cases hr0};rintro σ H8 ⟨rfl,rfl⟩;refine bL (fun σ H9=>σ=[oI c,oR a,some (.int (mo:Int)),oR dr,some (vN S.n),oI z1,oR l,oI z3,none,none]/\H9=H8) ?_ ?_;{intro N Rc;refine⟨O,dr,Y,sqL e7,gt0,M,O,jx (fun _=>⟨G,c,be,a,S,U,hst7,ok,n1,fun r us ps H9 s9 fr er hri lps=>⟨smN 2,fun p hp=>?_⟩⟩) (fun _=>Rc _ _ ⟨U,U⟩)⟩;have sn:=au hp (.tup [.str "hand",.ref r]);refine q p _ _ (s07.trans (s9.trans sn)) (.hand aa (sn _ _ er) (hri.aL fun a xs y=>sn _ _ y) lps) fun r' hr0=>?_;rw[aa] at hr0;cases hr0;exact s07.free fr};rintro σ H9 ⟨rfl,rfl⟩;refine bL (fun σ H10=>σ=[oI c,oR a,some (.int (mo:Int)),oR dr,some (vN S.n),oI z1,oR l,oI z3,none,none]/\H10=H9) ?_ ?_;{intro N Rc;refine⟨O,dr,Y,sqL e7,J,jx (fun _=>⟨O,smN 2,fun p hp=>?_⟩) (fun _=>Rc _ _ ⟨U,U⟩)⟩;have sn:=au hp (.tup [.str "withdraw",.int z3]);refine q p _ _ (s07.trans sn) (.withdraw aa) fun r hr0=>?_;rw[aa] at hr0;cases hr0};rintro σ H10 ⟨rfl,rfl⟩;refine bL (fun σ H11=>∃ z4:Int,σ=[oI c,oR a,some (.int (mo:Int)),oR dr,some (vN S.n),oI z1,oR l,oI z3,oI z4,none]/\H11=H10) ?_ ?_;{intro N Rc;exact⟨O,Rc _ _ ⟨z1,U,U⟩⟩};rintro σ H11 ⟨z4,rfl,rfl⟩;have h4':=s07 _ _ h4;have dg:∀ (o:EW),tK kvs (Wi z3)=o->rT H11 ta (.int z3) o:=fun o ho=>by
  rw[← ho];exact rT.k (k:=Wi z3) h4'
 refine bL (fun σ H12=>∃ z5:Int,σ=[oI c,oR a,some (.int (mo:Int)),oR dr,some (vN S.n),oI z1,oR l,oI z3,oI z5,none]/\H12=H11) ?_ ?_
 ·intro N Rc;refine jC (fun cc H12=>H12=H11/\(cc=true->∃ e,fnE S.es z3=some e)) (fun Q' Rq=>?_) ?pq (fun H12 z=>nN (Rc _ _ ⟨O,z.1⟩))
  ·refine⟨O,dr,Y,sqL e7,J,jx (fun _=>?_) (fun _=>Rq _ _ ⟨U,fun z=>by cases z⟩)⟩;cases hf:fnE S.es z3 with
   | none=>exact⟨G,a,Y,sqT (s07 _ _ h1),gt2,ta,none,U,dg none (h5.none (uZ hf)),O,Rq _ _ ⟨U,fun z=>by cases z⟩⟩
   | some e =>
    obtain⟨t,p0,hv,ht,hp0⟩:=h5.find ok.eu.nd hf;exact⟨G,a,Y,sqT (s07 _ _ h1),gt2,ta,O,dg _ hv,O,Rq _ _ ⟨U,fun _=>⟨e,hf⟩⟩⟩
  case pq =>
   rintro H12 ⟨rfl,hf⟩;obtain⟨e,hf⟩:=hf U;obtain⟨t,p0,hv,ht,hp0⟩:=h5.find ok.eu.nd hf;exact⟨O,a,Y,sqT (s07 _ _ h1),gt2,O,ta,O,dg _ hv,t,Y,sqT (s07 _ _ ht),gt0,Rc _ _ ⟨O,U⟩⟩
 rintro σ H12 ⟨z5,rfl,rfl⟩;refine bL (fun σ H13=>∃ i:Nat,σ=[oI c,oR a,some (.int (mo:Int)),oR dr,some (vN S.n),oI z1,oR l,oI z3,some (vN i),none]/\H13=H12/\i < S.n) ?_ ?_
 ·intro N Rc;obtain⟨i,ei⟩:=Wo (V5 z5 (show ((S.n:Nat):Int)≠0 by lia));have hi:i < S.n:=by have:=VN z5 (show (0:Int) < ((S.n:Nat):Int) by lia);lia
  refine⟨G,M,(show (0:Int) < ((S.n:Nat):Int) by lia),Rc _ _ ⟨i,?_,U,hi⟩⟩;show[some (.int c),some (.ref a),some (.int (mo:Int)),some (.ref dr),some (vN S.n),some (.int z1),some (.ref l),some (.int z3),some (.int (z5 % ((S.n:Nat):Int))),none]=_;rw[ei];rfl
 rintro σ H13 ⟨i,rfl,rfl,hi⟩;refine bL (fun σ H14=>∃ (pd:Addr) (pl:Pl),σ=[oI c,oR a,some (.int (mo:Int)),oR dr,some (vN S.n),oI z1,oR l,oI z3,some (vN i),oR pd]/\aH H13 H14/\j9 S.n H14 pd pl) ?_ ?_;{intro N Rc;refine⟨O,c,1,U,by decide,_,U,_,U,_,U,_,S.n,i,2,mo,U,n1,n12,hi,by decide,by decide,m1,m9,fun pd pl H14 s14 hp=>Rc _ _ ⟨pd,pl,U,s14,hp⟩⟩};rintro σ H14 ⟨pd,pl,rfl,s14,hpd⟩;have e14:=s14 _ _ e7;refine bL (fun σ H15=>∃ (pd:Addr) (pl:Pl),σ=[oI c,oR a,some (.int (mo:Int)),oR dr,some (vN S.n),oI z1,oR l,oI z3,some (vN i),oR pd]/\aH H13 H15/\j9 S.n H15 pd pl) ?_ ?_
 ·intro N Rc;refine jC (fun cc H15=>H15=H14) (fun Q' Rq=>?_) ?pr (fun H15 z=>nN (Rc _ _ ⟨pd,pl,U,by rw[z];exact s14,by rw[z];exact hpd⟩));{exact⟨O,dr,Y,sqL e14,dM (k:=4) U,U,O,jx (fun _=>⟨O,M,O,Rq _ _ U⟩) (fun _=>Rq _ _ U)⟩}
  case pr =>
   rintro H15 rfl;obtain⟨i2,ei⟩:=Wo (V5 ((i:Int)+1) (show ((S.n:Nat):Int)≠0 by lia));have hi2:i2 < S.n:=by have:=VN ((i:Int)+1) (show (0:Int) < ((S.n:Nat):Int) by lia);lia
   refine⟨O,c,1,U,by decide,_,U,_,U,_,_,U,U,_,U,_,_,U,U,(show (0:Int) < ((S.n:Nat):Int) by lia),_,U,Np c 1,S.n,i2,2,mo,?_,n1,n12,hi2,by decide,by decide,m1,m9,fun pd pl H16 s16 hp=>Rc _ _ ⟨pd,pl,U,s14.trans s16,hp⟩⟩;show[V.int (Np c 1),V.int (S.n:Int),V.int (((i:Int)+1) % ((S.n:Nat):Int)),V.int 2,V.int (mo:Int)]=_;rw[ei]
 rintro σ H15 ⟨pd,pl,rfl,s15,hpd⟩;have e15:=s15 _ _ e7;have s015:=s07.trans s15;refine bL (fun σ H16=>σ=[oI c,oR a,some (.int (mo:Int)),oR dr,some (vN S.n),oI z1,oR l,oI z3,some (vN i),oR pd]/\H16=H15) ?_ ?_;{intro N Rc;refine⟨O,dr,Y,sqL e15,J,jx (fun _=>⟨G,smN 3,fun p hp=>?_⟩) (fun _=>Rc _ _ ⟨U,U⟩)⟩;have sn:=au hp (.tup [.str "change",.int z3,.ref pd]);refine q p _ _ (s015.trans sn) (.change aa (hpd.mono sn)) fun r hr0=>?_;rw[aa] at hr0;cases hr0};rintro σ H16 ⟨rfl,rfl⟩;refine⟨G,smN 3,fun p hp=>?_⟩;have sn:=au hp (.tup [.str "pledge",.int z1,.ref pd]);refine q p _ _ (s015.trans sn) (.pledge aa (hpd.mono sn)) fun r hr0=>?_;rw[aa] at hr0;cases hr0
section
variable {CS CB:Addr}{n:Nat}{H:Hp}{b be ah dx nw l st:Addr}{xs zs us vs:E6}{g:DC}{go:DD}{es:List Ent}{co:Nat}
def UJ (h:H l=some (.lst us)):Ks CS H (upd H l (.lst vs)):=⟨fun a _ q=>by rw[aF (fun z=>by rw[z,h] at q;cases q)];exact q,fun a _ _ q=>by rw[aF (fun z=>by rw[z,h] at q;cases q)];exact q⟩
end
def Sg {A:Sa}{d:tG}:A.n<=(A.aft d).n:=by
 cases d with
 | come=>exact WY _
 | leave=>exact Vb _
 | pledge=>exact Vb _
 | hand=>exact Vb _
 | change=>exact Vb _
 | withdraw=>exact Vb _
def StR.put {x l n:Nat}{H:Hp}{st:Addr}{g:DC}{go:DD}{es:List Ent}{co:Nat}{us vs:E6}(B:StR x n H st g go es co)(C:StR l n H st g go es co)(h:H l=some (.lst us)):StR x n (upd H l (.lst vs)) st g go es co:=by
 obtain⟨pa,ga,ta,kvs,h1,h2,h3,h4,h5,h6⟩:=B;obtain⟨pa',_,_,_,k1,_,_,_,_,k6⟩:=C;have k:=UJ (CS:=0) (vs:=vs) h;have e:pa'=pa:=by rw[h1] at k1;cases k1;rfl
 rw[e] at k6;exact⟨pa,ga,ta,kvs,k.1 _ _ h1,by rw[aF k6];exact h2,k.1 _ _ h3,by rw[aF (fun z=>by rw[z,h] at h4;cases h4)];exact h4,h5.aL k.1,h6⟩
def StR.far {x y n:Nat}{H:Hp}{st:Addr}{g:DC}{go:DD}{es:List Ent}{co:Nat}{as:Db}(B:StR x n H st g go es co)(hn:1<=n)(h:H y=some (.lst (as.map V.ref))):StR y n H st g go es co:=by
 obtain⟨pa,ga,ta,kvs,h1,h2,h3,h4,h5,h6⟩:=B;refine⟨pa,ga,ta,kvs,h1,h2,h3,h4,h5,fun z=>?_⟩;rw[z,h] at h2;cases as with
 | nil=>have:=cu n go;rw[← HO.lst.inj (VV h2)] at this;cases this;cases hn
 | cons a as =>
  have:V.ref a∈prF n go:=by rw[← HO.lst.inj (VV h2)];exact Vm
  obtain⟨i,_,y⟩:=List.mem_map.mp this;cases y
def StR.free {x y n:Nat}{H:Hp}{st:Addr}{g:DC}{go:DD}{es:List Ent}{co:Nat}(B:StR x n H st g go es co)(h:H y=none):StR y n H st g go es co:=by
 obtain⟨pa,ga,ta,kvs,h1,h2,h3,h4,h5,h6⟩:=B;exact⟨pa,ga,ta,kvs,h1,h2,h3,h4,h5,fun z=>by rw[z,h] at h2;cases h2⟩
def O7 {A:Sa} {d:tG} (k:AOk A) (h:reW A d = ""):1<=(A.aft d).n:=by
 have le:=Sg (A:=A) (d:=d)
 suffices d = .come∨1<=A.n by
  rcases this with rfl | z;{exact Nat.succ_pos _};{lia}
 cases d with
 | come=>exact .inl U
 | leave o =>
  obtain⟨i,_,hi,_⟩:=uy (show miW A.n A.go o = "" from h);exact .inr (by lia)
 | pledge o pl =>
  obtain⟨i,_,hi,_⟩:=Ie (show plW A.n A.go A.es o pl = "" from h);exact .inr (by lia)
 | hand ps =>
  have h:haW A.n A.g A.go A.es ps = "":=h;cases ps with
  | nil=>unfold haW at h;rw[iPo U] at h;exact absurd h (by decide)
  | cons y r =>
   obtain⟨j,_,hj⟩:=Fo h y Vm;exact .inr (by lia)
 | change k pl =>
  have h:chW A.g A.es k pl = "":=h;unfold chW at h;cases hf:fnE A.es k with
  | none=>rw[hf] at h;exact absurd (show ("no pledge" : VB) = "" from h) (by decide)
  | some e=>exact .inr (by have:=(‹AOk A›.eu.lt e (gq hf).1).2.1;lia)
 | withdraw k =>
  have h:wiW A.g A.es k = "":=h;unfold wiW at h;cases hf:fnE A.es k with
  | none=>rw[hf] at h;exact absurd (show ("no pledge" : VB) = "" from h) (by decide)
  | some e=>exact .inr (by have:=(‹AOk A›.eu.lt e (gq hf).1).2.1;lia)
def StU (L:Db)(H:Hp)(a:Addr)(A:Sa):Prop:=AOk A/\∀ x∈L,StR x A.n H a A.g A.go A.es A.co
def StU.put {L:Db}{H:Hp}{l:Addr}{us vs:E6}(hl:l∈L)(h:H l=some (.lst us))(a:Addr)(A:Sa)(s:StU L H a A):StU L (upd H l (.lst vs)) a A:=⟨s.1,fun x hx=>(s.2 x hx).put (s.2 l hl) h⟩
def StU.sT {L:Db}{H H':Hp}(e:iR H H')(a:Addr)(A:Sa)(s:StU L H a A):StU L H' a A:=⟨s.1,fun x hx=>(s.2 x hx).sT e⟩
def Lw (H:Hp)(be ah pt lt:Addr)(h:Hi):Prop:=pt≠lt/\∃ ps ls:Db,H pt=some (.lst (ps.map V.ref))/\H lt=some (.lst (ls.map V.ref))/\Al (StU [be,ah,pt,lt] H) ps (h.p++[h.s])/\Al (StU [be,ah,pt,lt] H) ls h.l
def Lw.sT {H H':Hp}{be ah pt lt:Addr}{h:Hi}(e:iR H H')(s:Lw H be ah pt lt h):Lw H' be ah pt lt h:=by
 obtain⟨n,ps,ls,h1,h2,h3,h4⟩:=s;exact⟨n,ps,ls,stL e h1,stL e h2,h3.mono (StU.sT e),h4.mono (StU.sT e)⟩
def Lw.same {H H':Hp}{be ah pt lt:Addr}{h:Hi}(e:aH H H')(s:Lw H be ah pt lt h):Lw H' be ah pt lt h:=s.sT e.t
def Lw.now {H:Hp}{be ah pt lt:Addr}{h:Hi}(s:Lw H be ah pt lt h):∃ (bs:Db) (w:Addr),H pt=some (.lst ((bs++[w]).map V.ref))/\bs.length=h.p.length/\StU [be,ah,pt,lt] H w h.s:=by
 obtain⟨n,ps,ls,h1,h2,h3,h4⟩:=s;obtain⟨bs,w,rfl,r,u⟩:=h3.Ii;exact⟨bs,w,h1,r.length,u⟩
def n8 {bs:Db}{w:Addr}:atI ((bs++[w]).map V.ref) (-1)=some (.ref w):=Mw m5
abbrev oO:Stmt:=top 86
def zm:aD VZ VZ (az oO):=cJ
inductive Hj (vs:E6)(H:Hp)(Q:VK)(e3:XK):Prop where
 | mk (c:Int) (p m:Nat) (_:vs=[.int c,.int (p:Int),.int (m:Int)]) (_:0 < p) (_:p < 5000) (_:0 < m) (_:∀ (i:Nat) (H':Hp),aH H H'->i < m->Q (vN i) H')
def yU (F:Fun K "_law_side" "_law_side" oO f fd) (B:Bt mg) (P7:Df P w K mg base "_law_draws" 1 WO (oW K)):L2.aZ P w K mg base CX0 2 f fd VZ Hj:=by
 refine okA F zm fun H Q E hr h=>?_;obtain⟨c,p,m,rfl,p0,p5,m0,q⟩:=h;refine⟨_,(sR (aK bI (pxL K (aO P7 hr (aq (aK bD (pv 0) (pv 1)) (a1 (bc (v1 1))))) ao) (pv 2))),G,M,O,smN 1,fun p1 hp1=>⟨_,p1,[(p:Int)],U,sqL aa,fun q hq=>by rw[List.mem_singleton.mp hq];lia,by show 1<=1000;decide,fun p2 hp2=>?_⟩⟩;obtain⟨i,ei⟩:=Wo (V5 (qm (c+(p:Int)) % (p:Int)) (show (m:Int)≠0 by lia));have hi:i < m:=by have:=VN (qm (c+(p:Int)) % (p:Int)) (show (0:Int) < (m:Int) by lia);lia
 refine⟨p2,Y,sqL aa,gt0,O,M,(show (0:Int) < (m:Int) by lia),?_⟩;show Q (.int (qm (c+(p:Int)) % (p:Int) % (m:Int))) _;rw[ei];exact q i _ ((au hp1 _).trans (au hp2 _)) hi
abbrev gU:Stmt:=top 87
def jO:aD ["_law_cell_here","_law_past","_law_most","_law_turn_here"] WB (az gU):=cJ
inductive Qk (vs:E6)(H:Hp)(Q:VK)(e3:XK):Prop where
 | mk (c:Int) (mo:Nat) (be ah pt lt:Addr) (h:Hi) (_:vs=[.int c,.ref pt,.int (mo:Int)]) (_:1<=mo) (_:mo<=9) (_:Lw H be ah pt lt h) (_:∀ (da:Addr) (d:Dd) (H':Hp),aH H H'->DdR h.s.n H' da d->(∀ r,H' da=some (.tup [.str "hand",.ref r])->H r=none)->Q (.ref da) H')
def rG {k:Nat} (hk:2<=k) (F:Fun K "_law_any_deed" "_law_any_deed" gU f fd) (B:Bt mg) (RH:Df P w K mg base "_law_side" 2 VZ Hj) (P5:Df P w K mg base "_law_deed" k VY Mh):L2.aZ P w K mg base CX0 (k+1) f fd WB Qk:=by
 refine okA F jO fun H Q E hr h=>?_;obtain⟨c,mo,be,ah,pt,lt,h,rfl,m1,m9,hL,q⟩:=h
 refine⟨_,(aj (sT 3 jO.nd (aO RH hr (aq (pv 0) (aq ao (a1 ao)))))
 (aj (ifR (aA pZ (pv 3) ao) (aP (a1 aC)))
 (aj (ifR (aA aQ (pv 3) ao) (aP (a1 aC)))
 (sR (aO P5 hr (aq (pv 0) (aq (pxL K (pv 1) (xH pD ao)) (v1 2)))))))),?_⟩
 refine bL (fun σ H1=>∃ i:Nat,σ=[oI c,oR pt,some (.int (mo:Int)),some (vN i)]/\aH H H1) ?_ ?_;{intro N Rc;exact⟨O,c,1009,9,U,by decide,by decide,by decide,fun i H1 s1 _=>Rc _ _ ⟨i,U,s1⟩⟩};rintro σ H1 ⟨i,rfl,s1⟩;refine bL (fun σ H2=>σ=[oI c,oR pt,some (.int (mo:Int)),some (vN i)]/\H2=H1) ?_ ?_;{intro N Rc;refine⟨O,M,O,jx (fun _=>⟨smN 1,fun p hp=>?_⟩) (fun _=>Rc _ _ ⟨U,U⟩)⟩;refine q p .undo _ (s1.trans (au hp _)) (.undo aa) fun r hr0=>?_;rw[aa] at hr0;cases hr0};rintro σ H2 ⟨rfl,rfl⟩;refine bL (fun σ H3=>σ=[oI c,oR pt,some (.int (mo:Int)),some (vN i)]/\H3=H2) ?_ ?_;{intro N Rc;refine⟨N,jx (fun _=>⟨smN 1,fun p hp=>?_⟩) (fun _=>Rc _ _ ⟨U,U⟩)⟩;refine q p .redo _ (s1.trans (au hp _)) (.redo aa) fun r hr0=>?_;rw[aa] at hr0;cases hr0};rintro σ H3 ⟨rfl,rfl⟩;obtain⟨bs,w,e1,_,ok,u⟩:=(hL.same s1).now;refine⟨G,O,pt,Y,sqL e1,n8,O,c,mo,be,w,h.s,U,m1,m9,u be (by simp),ok,fun da d H4 s4 hd nr=>q da (.deed d) H4 (s1.trans s4) (.deed hd) fun r hr0=>s1.free (nr r hr0)⟩
abbrev iB:Stmt:=top 82
def rQ:aD WA WA (az iB):=cJ
def DeR.wd {n:Nat} {H:Hp} {a:Addr} {d:tG} (h:DeR n H a d):∃ (w:VB) (r:E6),H a=some (.tup (.str w::r))/\w≠"undo"/\w≠"redo":=by
 cases h <;> exact⟨_,_,by assumption,by decide,by decide⟩
inductive Qn (vs:E6)(H:Hp)(Q:VK)(e3:XK):Prop where
 | mk (be ah pt lt da:Addr) (h:Hi) (d:Dd) (_:vs=[.ref pt,.ref lt,.ref da]) (_:Lw H be ah pt lt h) (_:DdR h.s.n H da d) (_:∀ H',aH H H'->Q (.str (h.du d)) H')
def sJ {k:Nat} (hk:1<=k) (F:Fun K "_law_word_due" "_law_word_due" iB f fd) (B:Bt mg) (Q1:Df P w K mg base "_law_refusal" k WP wR):L2.aZ P w K mg base CX0 (k+1) f fd WA Qn:=by
 refine okA F rQ fun H Q E hr h=>?_;obtain⟨be,ah,pt,lt,da,h,d,rfl,hL,hd,q⟩:=h
 refine⟨_,(aj (ifR (aA aQ (pxT K (pv 2) ao) aC) (jj (aA jL (pln K B.len_ (pv 0)) ao) aC aC))
 (aj (ifR (aA aQ (pxT K (pv 2) ao) aC) (jj (aA (r:=Pq K) (wK hr.kj) (pv 1) (bc cQ)) aC aC))
 (sR (aO Q1 hr (aq (pxL K (pv 0) (xH pD ao)) (v1 2)))))),?_⟩
 obtain⟨bs,w,e1,lb,ok,u⟩:=hL.now;obtain⟨_,ps,ls,_,e2,_,r2⟩:=id hL;cases hd with
 | undo hda =>
  refine⟨O,da,Y,sqT hda,J,eX U ⟨O,pt,O,.inl (sqL e1),M,O,?_⟩⟩;have lm:((bs++[w]).map V.ref).length=h.p.length+1:=by rw[U7,Vf,lb];rfl
  rw[lm];have q:=q H (aH.refl _);by_cases z:h.p=[];{rw[show h.du .undo = "nothing left" from iPo z] at q;rw[dcF (by rw[z];decide)];exact bK q};{rw[show h.du .undo = "" from iNe z] at q;have:=List.length_pos_iff.mpr z;rw[dcT (by lia)];exact cL q}
 | redo hda =>
  refine⟨O,da,Y,sqT hda,J,aY bf (nN ⟨O,da,Y,sqT hda,J,eX U ⟨O,small (V3 _),fun p hp=>?_⟩⟩)⟩;have sn:=au hp (.lst []);refine⟨lt,p,O,U,sqL (sn _ _ e2),sqL aa,O,?_⟩;have q:=q _ sn;have ll:=r2.length;by_cases z:h.l=[];{rw[show h.du .redo = "nothing left" from iPo z] at q;rw[z] at ll;rw[V8 ll];exact bK q}
  ·rw[show h.du .redo = "" from iNe z] at q;cases ls with
   | nil=>exact absurd (V8 ll.symm) z
   | cons _ _=>exact cL q
 | deed hd =>
  rename_i d;obtain⟨wd,r,hda,w1,w2⟩:=hd.wd;exact⟨O,da,Y,sqT hda,J,aY (km w1) (nN ⟨O,da,Y,sqT hda,J,aY (km w2) (nN ⟨G,pt,Y,sqL e1,n8,O,be,w,da,h.s,d,U,u be (by simp),ok,hd,q⟩)⟩)⟩
abbrev pA:Stmt:=top 81
def Aq:aD VS VS (az pA):=cJ
inductive Ml (vs:E6)(H:Hp)(Q:VK)(e3:XK):Prop where
 | mk (be ah pt lt da:Addr) (xs zs:Db) (h:Hi) (d:Dd) (_:vs=[.ref pt,.ref lt,.ref da,.str (h.du d)]) (_:Lw H be ah pt lt h) (_:DdR h.s.n H da d) (_:H be=some (.lst (xs.map V.ref))) (_:H ah=some (.lst (zs.map V.ref))) (_:be≠pt) (_:be≠lt) (_:ah≠pt) (_:ah≠lt) (_:h.p.length<=900) (_:h.l.length<=900) (_:∀ H':Hp,(∀ a o,a≠pt->a≠lt->H a=some o->H' a=some o)->Lw H' be ah pt lt (if h.du d = "" then h.nx d else h)->Q .non H')
def yV (F:Fun K "_law_turn" "_law_turn" pA f fd) (B:Bt mg) (PR:Df P w K mg base "_law_after" 2 WP FW):L2.aZ P w K mg base CX0 3 f fd VS Ml:=by
 refine okA F Aq fun H Q E hr h=>?_;obtain⟨be,ah,pt,lt,da,xs,zs,h,d,rfl,hL,hd,hbe,hah,n1,n2,n3,n4,lp,ll,q⟩:=h
 refine⟨_,(aB (bR (aA aQ (pxT K (pv 2) ao) aC) (aB (bR (aA jL (pln K B.len_ (pv 0)) ao) (aB (aX (oX VR Wb Wa cz (pv 1) (a1 (wI VR YF YD Be (pv 0)))))) aR)) (aB (bR (aA aQ (pxT K (pv 2) ao) aC) (aB (bR (aA (r:=Pq K) (wK hr.kj) (pv 1) (bc cQ)) (aB (aX (oX VR Wb Wa cz (pv 0) (a1 (wI VR YF YD Be (pv 1)))))) aR)) (aB (bR (aA aQ (pv 3) aC) (aj (aX (oX VR Wb Wa cz (pv 0) (a1 (aO PR hr (aq (pxL K (pv 0) (xH pD ao)) (v1 2))))))
 (aB (aX (wI VR PySem.F.slot_list_clear PySem.F.type_list_clear Jl (pv 1))))) aR)))))),?_⟩
 obtain⟨npl,ps,ls,e1,e2,r1,r2⟩:=id hL;have lps:=r1.length;rw[Vf] at lps;have lps:ps.length=h.p.length+1:=lps;have lls:=r2.length;have mpt:pt∈[be,ah,pt,lt]:=by simp
 have mlt:lt∈[be,ah,pt,lt]:=by simp
 cases hd with
 | undo hda =>
  refine⟨O,da,Y,sqT hda,J,eX U ⟨O,pt,O,.inl (sqL e1),M,O,?_⟩⟩;rw[U7,lps];obtain⟨p,s,l⟩:=h;rcases uz p with rfl | ⟨As,A,rfl⟩
  ·rw[dcF (show ¬ (1:Int) < ((([]:List Sa).length+1:Nat):Int) by decide)];have e:Hi.du ⟨[],s,l⟩ .undo = "nothing left":=by show (if ([]:List Sa)=[] then ("nothing left" : VB) else "")=_;rw[iPo U]
   rw[e,iNe (by decide)] at q;exact bK (nN (q H (fun _ _ _ _ y=>y) hL))
  ·have:0 < (As++[A]).length:=by simp
   rw[dcT (by show (1:Int) < (((As++[A]).length+1:Nat):Int);lia)];have e:Hi.du ⟨As++[A],s,l⟩ .undo = "":=iNe (by simp);rw[e,iPo U,Hi.Nr] at q;obtain⟨bs,w,rfl,rb,uw⟩:=r1.Ii;refine cL ⟨O,.inl ⟨U,_,sqL e2⟩,O,.inl ⟨U,_,sqL e1⟩,pt,M,e1,m5,?_⟩;rw[qG];generalize eF:upd H pt _=F1;have e2':F1 lt=some (.lst (ls.map V.ref)):=by rw[← eF,aF npl.symm];exact e2
   have e1':F1 pt=some (.lst (bs.map V.ref)):=by rw[← eF];exact aa
   have kp:∀ a A,StU [be,ah,pt,lt] H a A->StU [be,ah,pt,lt] (upd F1 lt (.lst (ls.map V.ref++[.ref w]))) a A:=fun a A u=>by
    refine StU.put mlt e2' a A ?_;rw[← eF];exact StU.put mpt e1 a A u
   refine⟨lt,M,e2',aJ (by rw[U7];have:l.length<=900:=ll;have:ls.length=l.length:=lls;lia),q _ (fun a o a1 a2 y=>?_) ⟨npl,bs,ls++[w],?_,?_,rb.mono kp,(r2.snoc uw).mono kp⟩⟩;{rw[aF a2,← eF,aF a1];exact y};{rw[aF npl];exact e1'};{rw[aa,Vd];rfl}
 | redo hda =>
  refine⟨O,da,Y,sqT hda,J,aY bf ⟨O,da,Y,sqT hda,J,eX U ⟨O,small (V3 _),fun p5 hp5=>?_⟩⟩⟩;generalize eH5:upd H p5 _=H5;obtain⟨sn,e5⟩:=aG eH5 hp5;refine⟨lt,p5,O,U,sqL (sn _ _ e2),sqL e5,O,?_⟩;obtain⟨_,ps,ls',e1,e2',r3,r4⟩:=hL.same sn;have:ls'=ls:=by
   rw[sn _ _ e2] at e2';exact (List.map_inj_right (fun _ _ z=>V.ref.inj z)).mp (HO.lst.inj (VV e2')).symm
  subst this;have lps:=r3.length;rw[Vf] at lps;have lps:ps.length=h.p.length+1:=lps;obtain⟨p,s,l⟩:=h;rcases uz l with rfl | ⟨As,A,rfl⟩
  ·have e:Hi.du ⟨p,s,[]⟩ .redo = "nothing left":=by show (if ([]:List Sa)=[] then ("nothing left" : VB) else "")=_;rw[iPo U]
   rw[e,iNe (by decide)] at q;rw[r4.UT];exact bK (nN (q _ (fun _ _ _ _ y=>sn _ _ y) (hL.same sn)))
  ·have e:Hi.du ⟨p,s,As++[A]⟩ .redo = "":=iNe (by simp);rw[e,iPo U,Hi.NT] at q;obtain⟨bs,w,rfl,rb,uw⟩:=r4.Ii;have ne:(!((bs++[w]).map V.ref).isEmpty)=true:=by simp
   rw[ne];refine cL ⟨O,.inl ⟨U,_,sqL e1⟩,O,.inl ⟨U,_,sqL e2'⟩,lt,M,e2',m5,?_⟩;rw[qG];generalize eF:upd H5 lt _=F1;have f1:F1 pt=some (.lst (ps.map V.ref)):=by rw[← eF,aF npl];exact e1
   have f2:F1 lt=some (.lst (bs.map V.ref)):=by rw[← eF];exact aa
   have kp:∀ a A,StU [be,ah,pt,lt] H5 a A->StU [be,ah,pt,lt] (upd F1 pt (.lst (ps.map V.ref++[.ref w]))) a A:=fun a A u=>by
    refine StU.put mpt f1 a A ?_;rw[← eF];exact StU.put mlt e2' a A u
   refine⟨pt,M,f1,aJ (by rw[U7];have:p.length<=900:=lp;have:ps.length=p.length+1:=lps;lia),q _ (fun a o a1 a2 y=>?_) ⟨npl,ps++[w],bs,?_,?_,(r3.snoc uw).mono kp,rb.mono kp⟩⟩;{rw[aF a1,← eF,aF a2];exact sn _ _ y};{rw[aa,Vd];rfl};{rw[aF npl.symm];exact f2}
 | deed hd =>
  rename_i d;obtain⟨wd,r,hda,w1,w2⟩:=hd.wd;refine⟨O,da,Y,sqT hda,J,aY (km w1) ⟨O,da,Y,sqT hda,J,aY (km w2) ⟨N,?_⟩⟩⟩;by_cases z:h.du (.deed d) = ""
  ·rw[iPo z] at q;refine eX (by rw[z]) ?_;obtain⟨bs,w,rfl,rb,ok,uw⟩:=r1.Ii;refine⟨O,.inl ⟨U,_,sqL e1⟩,G,pt,Y,sqL e1,n8,O,be,w,da,h.s,d,O,uw be (by simp),hbe,ok,hd,z,fun a' H1 s1 hst=>?_⟩;have pos:=O7 ok z;have f1:=s1 _ _ e1;have f2:=s1 _ _ e2
   have ua:StU [be,ah,pt,lt] H1 a' (h.s.aft d):=⟨ok.aft z,fun x hx=>by
    simp only[Xg,Xy,or_false] at hx;rcases hx with rfl | rfl | rfl | rfl;{exact hst};{exact hst.far pos (s1 _ _ hah)};{exact hst.far pos f1}
    ·exact hst.far pos f2⟩
   refine⟨pt,M,f1,aJ (by rw[U7];lia),?_⟩;generalize eF:upd H1 pt _=F1;have g1:F1 pt=some (.lst ((bs++[w]++[a']).map V.ref)):=by rw[← eF,aa,Vd (l₂:=[a'])];rfl
   have g2:F1 lt=some (.lst (ls.map V.ref)):=by rw[← eF,aF npl.symm];exact f2
   have kp:∀ a A,StU [be,ah,pt,lt] H1 a A->StU [be,ah,pt,lt] (upd F1 lt (.lst [])) a A:=fun a A u=>by
    refine StU.put mlt g2 a A ?_;rw[← eF];exact StU.put mpt f1 a A u
   refine⟨O,.inl ⟨U,_,sqL g2⟩,lt,O,U,g2,q _ (fun a o a1 a2 y=>?_) ⟨npl,bs++[w]++[a'],[],?_,aa,((r1.mono (StU.sT s1.t)).snoc ua).mono kp,.nil⟩⟩;{rw[aF a2,← eF,aF a1];exact s1 _ _ y};{rw[aF npl];exact g1}
  ·rw[iNe z] at q;exact aY (km z) (nN (q H (fun _ _ _ _ y=>y) hL))
section
variable {K:VG}{G C T:Addr}{q w:VB}{cap:DD}{te:XK->TE}{σ:St}{H:Hp}{Q:VK}
def DX (hT:TabOk H T q) (R:XRd K C G "word") (h:∀ H1,iR H H1->TabOk H1 T q->∀ (Q2:VK) (E2:XK),thrown C w H1 E2->te E2 (NQ cap σ) H1 Q2)
  (k:∀ a H',iR H H'->TabOk H' T q->H' a=some (.tup [.str w])->Q (.ref a) H'):Ss T q cap (twWord K G) te σ H Q :=
 ⟨hT,fun _ H1 sm tb=>h H1 sm tb _ _ (zu R fun a H' s e=>k a H' (sm.trans s.t) (tb.same s) e)⟩
def Kf {P:V->Hp->Prop}(hT:TabOk H T q)(h:∀ H1,iR H H1->TabOk H1 T q->∀ (Q2:VK) (E2:XK),(∀ v H2,P v H2->Q2 v H2)->te E2 (NQ cap σ) H1 Q2)
  (k:∀ a v H2 H',P v H2->aH H2 H'->H' a=some (.tup [.str "told",v])->Q (.ref a) H'):Ss T q cap (twWord K G) te σ H Q :=
 ⟨hT,fun _ H1 sm tb=>h H1 sm tb _ _ fun v H2 p=>⟨smN 2,fun a ha=>k a v H2 _ p (au ha _) aa⟩⟩
end
def Bm {H:Hp}{a:Addr}{w:VB}(h:H a=some (.tup [.str w])):Rep H (.ref a) (.tup [.str w]):=.tup h (by show 1<=100000;decide) (.cons (.str _) .nil)
def Bv {H:Hp} {a:Addr} {v:V} {d:Dm} (h:H a=some (.tup [.str "told",v])) (r:Rep H v d):Rep H (.ref a) (.tup [.str "told",d]):=.tup h (by show 2<=100000;decide) (.cons (.str _) (.cons r .nil))
def Ke {w:VB}{n:Nat}(h:1 < n):(Dm.tup [.str w]).dep < n:=by simpa [Dm.dep,iD] using h
def tab_keep {H H':Hp}{T:Addr}{q:VB}(h:TabOk H T q)(k1:∀ a ps,H a=some (.tbl ps)->H' a=some (.tbl ps))(k2:∀ a o u,H a=some (.frz o u)->H' a=some (.frz o u)):TabOk H' T q:=by
 obtain⟨ps,e,t,f⟩:=h;refine⟨ps,k1 _ _ e,t,fun pos cv z=>?_⟩;obtain⟨c,oc,u,vs,tk,e1,e2,e3⟩:=f pos cv z;exact⟨c,oc,u,vs,tk,e1,k2 _ _ _ e2,e3⟩
def Pk:VB:=("_law_played" : VB)++".<locals>."++"<lambda>"
def Hi.sz (h:Hi):Nat:=h.p.length+h.l.length
def Dd.up:Dd->Nat
 | .deed _=>1
 | _=>0
def Hi.go (h:Hi)(d:Dd):Hi:=if h.du d = "" then h.nx d else h
def Hi.S7 (h:Hi)(d:Dd):(h.go d).sz<=h.sz+d.up:=by
 unfold Hi.go;split
 ·rename_i z;obtain⟨p,s,l⟩:=h;cases d with
  | deed d =>
   show (p++[s]).length+0<=p.length+l.length+1;rw[Vf];show p.length+1+0<=_;lia
  | undo =>
   rcases uz p with rfl | ⟨As,A,rfl⟩
   ·rw[show Hi.du ⟨[],s,l⟩ .undo = "nothing left" by show (if ([]:List Sa)=[] then ("nothing left" : VB) else "")=_;rw[iPo U]] at z
    exact absurd z (by decide)
   ·rw[Hi.Nr];show As.length+(l++[s]).length<=(As++[A]).length+l.length+0;rw[Vf,Vf];show As.length+(l.length+1)<=As.length+1+l.length+0;lia
  | redo =>
   rcases uz l with rfl | ⟨As,A,rfl⟩
   ·rw[show Hi.du ⟨p,s,[]⟩ .redo = "nothing left" by show (if ([]:List Sa)=[] then ("nothing left" : VB) else "")=_;rw[iPo U]] at z
    exact absurd z (by decide)
   ·rw[Hi.NT];show (p++[s]).length+As.length<=p.length+(As++[A]).length+0;rw[Vf,Vf];show p.length+1+As.length<=p.length+(As.length+1)+0;lia
 ·lia
def StR.b3 {x n:Nat}{H H':Hp}{b be ah CB dx st:Addr}{fs:EV}{u v:E6}{g:DC}{go:DD}{es:List Ent}{co:Nat}(hb:H b=some (.ins CB dx fs))(h1:H be=some (.lst u))(h2:H ah=some (.lst v))(t:Bt3 b be ah H H')(X:StR x n H st g go es co)(Y:StR be n H st g go es co)(Z:StR ah n H st g go es co):StR x n H' st g go es co:=by
 obtain⟨pa,ga,ta,kvs,k1,k2,k3,k4,k5,k6⟩:=X;obtain⟨pb,_,_,_,y1,_,_,_,_,y6⟩:=Y;obtain⟨pc,_,_,_,z1,_,_,_,_,z6⟩:=Z;have e1:pb=pa:=by rw[k1] at y1;cases y1;rfl
 have e2:pc=pa:=by rw[k1] at z1;cases z1;rfl
 rw[e1] at y6;rw[e2] at z6;have tp:∀ a ys,H a=some (HO.tup ys)->H' a=some (HO.tup ys):=fun a ys y=>t a _ (fun z=>by rw[z,hb] at y;cases y) (fun z=>by rw[z,h1] at y;cases y) (fun z=>by rw[z,h2] at y;cases y) y;exact⟨pa,ga,ta,kvs,tp _ _ k1,t _ _ (fun z=>by rw[z,hb] at k2;cases k2) y6 z6 k2,tp _ _ k3,t _ _ (fun z=>by rw[z,hb] at k4;cases k4) (fun z=>by rw[z,h1] at k4;cases k4) (fun z=>by rw[z,h2] at k4;cases k4) k4,k5.aL tp,k6⟩
def Lw.b3 {H H':Hp}{b be ah ah' pt lt CB dx:Addr}{fs:EV}{u v:E6}{h:Hi}(hb:H b=some (.ins CB dx fs))(h1:H be=some (.lst u))(h2:H ah=some (.lst v))(t:Bt3 b be ah H H')(fa:ah'=ah∨H ah'=none)(n1:be≠pt)(n2:be≠lt)(n3:ah≠pt)(n4:ah≠lt)(L:Lw H be ah pt lt h):Lw H' be ah' pt lt h:=by
 obtain⟨n,ps,ls,e1,e2,r1,r2⟩:=L
 have k:∀ a A,StU [be,ah,pt,lt] H a A->StU [be,ah',pt,lt] H' a A:=fun a A u=>⟨u.1,fun x hx=>by
  have f:∀ y∈[be,ah,pt,lt],StR y A.n H' a A.g A.go A.es A.co:=fun y hy=>StR.b3 hb h1 h2 t (u.2 y hy) (u.2 be (by simp)) (u.2 ah (by simp));simp only[Xg,Xy,or_false] at hx;rcases hx with rfl | rfl | rfl | rfl;{exact f _ (by simp)}
  ·rcases fa with rfl | fa;{exact f _ (by simp)};{exact StR.b3 hb h1 h2 t ((u.2 be (by simp)).free fa) (u.2 be (by simp)) (u.2 ah (by simp))}
  ·exact f _ (by simp)
  ·exact f _ (by simp)⟩
 exact⟨n,ps,ls,t _ _ (fun z=>by rw[z,hb] at e1;cases e1) n1.symm n3.symm e1,t _ _ (fun z=>by rw[z,hb] at e2;cases e2) n2.symm n4.symm e2,r1.mono k,r2.mono k⟩
def Bu.kp {CS CB:Addr}{H H':Hp}{b be ah dx pt lt:Addr}{h:Hi}{u v:E6}(h1:H pt=some (.lst u))(h2:H lt=some (.lst v))(n1:be≠pt)(n2:be≠lt)(n3:ah≠pt)(n4:ah≠lt)(t:∀ a o,a≠pt->a≠lt->H a=some o->H' a=some o)(B:Bu CS CB H b be ah dx h):Bu CS CB H' b be ah dx h:=by
 obtain⟨ok,nw,xs,zs,hB,r1,r2⟩:=B;have k:Ks CS H H':=⟨fun a ys y=>t a _ (fun z=>by rw[z,h1] at y;cases y) (fun z=>by rw[z,h2] at y;cases y) y,fun a _ _ y=>t a _ (fun z=>by rw[z,h1] at y;cases y) (fun z=>by rw[z,h2] at y;cases y) y⟩;have hb:=hB.hb;exact⟨ok,nw,xs,zs,⟨t _ _ (fun z=>by rw[z,h1] at hb;cases hb) (fun z=>by rw[z,h2] at hb;cases hb) hb,t _ _ n1 n2 hB.hbe,t _ _ n3 n4 hB.hah,hB.st.ks k,hB.nb,hB.lg,hB.n12,hB.l40,hB.gn,hB.gl⟩,r1.mono (StG.ks k),r2.mono (StG.ks k)⟩
structure Wp (CS CB T:Addr)(H:Hp)(b be ah dx pt lt:Addr)(h:Hi):Prop where
 bu:Bu CS CB H b be ah dx h
 lw:Lw H be ah pt lt h
 n1:be≠pt
 n2:be≠lt
 n3:ah≠pt
 n4:ah≠lt
 tb:TabOk H T Pk
def Wp.same {CS CB T:Addr}{H H':Hp}{b be ah dx pt lt:Addr}{h:Hi}(s:aH H H')(x:Wp CS CB T H b be ah dx pt lt h):Wp CS CB T H' b be ah dx pt lt h:=⟨x.bu.same s,x.lw.same s,x.n1,x.n2,x.n3,x.n4,x.tb.same s⟩
def vaE (h:Hi):Dd->Dm
 | .deed .come=>.int (h.s.n:Int)
 | .deed (.pledge _ _)=>.int (h.s.co:Int)
 | _=>.non
def Ga {H:Hp}(h:Hi)(d:Dd):Rep H (h.va d) (vaE h d):=by
 cases d with
 | deed d=>cases d <;> first | exact .non | exact .int _
 | undo=>exact .non
 | redo=>exact .non
def M5 (h:Hi)(d:Dd):(vaE h d).dep=0:=by
 cases d with
 | deed d=>cases d <;> simp [vaE,Dm.dep]
 | undo=>simp [vaE,Dm.dep]
 | redo=>simp [vaE,Dm.dep]
def DdR.word {H:Hp} {a:Addr} {h:Hi} {d:Dd} (x:DdR h.s.n H a d):∃ (w:VB) (r:E6),H a=some (.tup (.str w::r))/\(((w = "come"∨w = "pledge")/\∃ d',d = .deed d'/\DeR h.s.n H a d')∨(w≠"come"/\w≠"pledge"/\h.va d = .non)):=by
 cases x with
 | deed x =>
  obtain⟨w,r,e,z | z | z⟩:=x.word;{exact⟨w,r,e,.inl ⟨.inl z.1,O,x⟩⟩};{exact⟨w,r,e,.inl ⟨.inr z.1,O,x⟩⟩};{exact⟨w,r,e,.inr ⟨z.1,z.2.1,z.2.2 _⟩⟩}
 | undo x=>exact⟨_,_,x,.inr ⟨by decide,by decide,U⟩⟩
 | redo x=>exact⟨_,_,x,.inr ⟨by decide,by decide,U⟩⟩
def DdR.kp {n:Nat} {H H':Hp} {a:Addr} {d:Dd} (tp:∀ a ys,H a=some (HO.tup ys)->H' a=some (HO.tup ys)) (lp:∀ r ys,H a=some (.tup [.str "hand",.ref r])->H r=some (HO.lst ys)->H' r=some (HO.lst ys)) (x:DdR n H a d):DdR n H' a d:=by
 cases x with
 | deed x =>
  cases x with
  | come h=>exact .deed (.come (tp _ _ h))
  | leave h=>exact .deed (.leave (tp _ _ h))
  | pledge h q=>exact .deed (.pledge (tp _ _ h) (q.aL tp))
  | hand h hr q l=>exact .deed (.hand (tp _ _ h) (lp _ _ h hr) (q.aL tp) l)
  | change h q=>exact .deed (.change (tp _ _ h) (q.aL tp))
  | withdraw h=>exact .deed (.withdraw (tp _ _ h))
 | undo h=>exact .undo (tp _ _ h)
 | redo h=>exact .redo (tp _ _ h)
abbrev jy:Stmt:=top 88
def dh:aD ["_law_boon_here","_law_past","_law_later","_law_deed_here","_law_word_here","_law_want","_law_found"] VT (az jy):=cJ
inductive CK (CS CB T:Addr)(vs:E6)(H:Hp)(Q:VK)(e3:XK):Prop where
 | mk (b be ah dx pt lt da:Addr) (h:Hi) (d:Dd) (_:vs=[.ref b,.ref pt,.ref lt,.ref da]) (_:Wp CS CB T H b be ah dx pt lt h) (_:DdR h.s.n H da d) (_:(∀ r,H da=some (.tup [.str "hand",.ref r])->r≠be/\r≠ah/\r≠pt/\r≠lt)) (_:h.sz<=800) (_:∀ (H':Hp) (ah':Addr),(∀ a ys,H a=some (HO.tup ys)->H' a=some (HO.tup ys))->(∀ a ys,a≠be->a≠ah->a≠pt->a≠lt->H a=some (HO.lst ys)->H' a=some (HO.lst ys))->(ah'=ah∨∀ a ys,H a=some (HO.lst ys)->a≠ah')->Wp CS CB T H' b be ah' dx pt lt (h.go d)->Q (.bl true) H')
def vI {f c T fW G CS CB:Addr} {x:XA} {fd fdW:Wh} (F:Ry K "_law_played" "_law_played" jy f fd c) (B:Bt mg) (HP:Eg mg c T base) (TZ:mg "BoonError" = some (.ref G)) (RX:∀ w:VB,XRd K (x.of w) G "word")
  (SD:Fun K "_law_word" "_law_word" fM fW fdW) (m_law_word:mg "_law_word" = some (.ref fW)) (Sc:Df P w K mg base "_law_word_due" 9 WA Qn) (RY:Df P w K mg base "_law_value" 1 WP Fx) (P6:Dx P w K mg base "_law_do" 15 WG (Rt CS CB x)) (RU:Df P w K mg base "_law_turn" 3 VS Ml)
  (OY:Dm2 P w K mg base CB "undoable" 1 ZO (BZ CB true)) (OX:Dm2 P w K mg base CB "redoable" 1 ZO (BZ CB false)) (RI:Df P w K mg base "_law_stands" 15 WS (Aw CS CB)) (RF:Df P w K mg base "_law_same" 3 XI (pM 3)) :
  L2.aZ P w K mg base CX0 19 f fd VT (CK CS CB T):=by
 refine F.ok dh (fun vs H Q E h=>?_) (fun A outer s H vs Q E hr h=>?_);{obtain⟨b,be,ah,dx,pt,lt,da,h,d,rfl,_⟩:=h;rfl}
 ·obtain⟨b,be,ah,dx,pt,lt,da,h,d,rfl,W0,hd,nr,l8,q⟩:=h
  refine⟨_,(aj (sT 4 dh.nd (aO Sc hr (aq (pv 1) (v2 2 3))))
 (aj (sT 5 dh.nd (aP (v1 4)))
 (aj (bR (aA aQ (pv 4) aC) (aj (sT 5 dh.nd (aP (aq aC (a1 LK))))
 (aB (bR (eQ (r:=rIn K false) dD (pxT K (pv 3) ao) (aP (aq aC (a1 aC))) U) (aB (sT 5 dh.nd (aP (aq aC (a1 (aO RY hr (aq (pxL K (pv 1) (xH pD ao)) (v1 3)))))))) aR))) aR)
 (aj (ifR (dC (cj (aO RF hr (aq (Py (k:=17) (NL:=WG) (cap:=[0,3]) SD qO hr U m_law_word (Qs (bj U U (by kernel_rfl))) U HP.code HP.blt (fun f cd cl A outer s H E j hj hr=>(rB P6 hr DG (v2 0 1))) (O4 TZ)) (v1 5))))) fG)
 (aj (aX (aO RU hr (aq (pv 1) (aq (pv 2) (v2 3 4)))))
 (aj (sT 6 dh.nd (bc (aq (Lj OY hr (pv 0)) (a1 (Lj OX hr (pv 0))))))
 (sR (dX (aO RF hr (aq (pv 6) (a1 (bc (aq (aK eO (pln K B.len_ (pv 1)) ao) (a1 (pln K B.len_ (pv 2)))))))) (iK (aO RI hr (aq (pv 0) (a1 (pxL K (pv 1) (xH pD ao)))))))))))))),?_⟩
  have lp:h.p.length<=800:=by unfold Hi.sz at l8;lia
  have ll:h.l.length<=800:=by unfold Hi.sz at l8;lia
  refine bL (fun σ H1=>σ=[oR b,oR pt,oR lt,oR da,some (.str (h.du d)),none,none]/\aH H H1) ?_ ?_;{intro N Rc;exact⟨G,O,be,ah,pt,lt,da,h,d,U,W0.lw,hd,fun H1 s1=>Rc _ _ ⟨U,s1⟩⟩};rintro σ H1 ⟨rfl,s1⟩;refine bL (fun σ H2=>∃ wa:Addr,σ=[oR b,oR pt,oR lt,oR da,some (.str (h.du d)),oR wa,none]/\aH H H2/\H2 wa=some (.tup [.str (h.du d)])) ?_ ?_;{intro N Rc;exact⟨O,smN 1,fun wa hwa=>Rc _ _ ⟨wa,U,s1.trans (au hwa _),aa⟩⟩};rintro σ H2 ⟨wa,rfl,s2,ewa⟩;refine bL (fun σ H3=>∃ wa:Addr,σ=[oR b,oR pt,oR lt,oR da,some (.str (h.du d)),oR wa,none]/\aH H H3/\H3 wa=some (.tup (if h.du d = "" then [.str "told",h.va d] else [.str (h.du d)]))) ?_ ?_
  ·intro N Rc;refine⟨N,?_⟩;by_cases z:h.du d = ""
   case neg=>exact aY (km z) (nN (Rc _ _ ⟨wa,U,s2,by rw[iNe z];exact ewa⟩))
   refine eX (by rw[z]) ?_;rw[iPo z] at Rc;refine bL (fun σ H3=>∃ wa:Addr,σ=[oR b,oR pt,oR lt,oR da,some (.str (h.du d)),oR wa,none]/\aH H H3/\H3 wa=some (.tup [.str "told",.non])) ?_ ?_;{intro N4 R4;exact⟨smN 2,fun wa hwa=>R4 _ _ ⟨wa,U,s2.trans (au hwa _),aa⟩⟩};rintro σ H3 ⟨wa,rfl,s3,ewa⟩;obtain⟨wd,r,hda,hw⟩:=(hd.same s3).word;refine⟨O,da,Y,sqT hda,gt0,smN 2,fun p hp=>⟨p,O,.inr (sqT aa),U,U,O,?_⟩⟩;have sn:=au hp (.tup [.str "come",.str "pledge"]);generalize upd H3 p _=H4 at sn;have s4:=s3.trans sn;rcases hw with⟨hw,d',rfl,hd'⟩ | ⟨w1,w2,hv⟩
   ·obtain⟨bs,w,e1,lb,ok,u⟩:=(W0.lw.same s4).now;rw[show (if false=true then !inV (V.str wd) [V.str "come",V.str "pledge"] else inV (V.str wd) [V.str "come",V.str "pledge"])=true by rcases hw with rfl | rfl <;> rfl]
    refine cL ⟨G,pt,Y,sqL e1,n8,O,be,w,da,h.s,d',U,u be (by simp),hd'.same sn,smN 2,fun wa hwa=>Rc _ _ ⟨wa,U,s4.trans (au hwa _),aa⟩⟩
   ·rw[show (if false=true then !inV (V.str wd) [V.str "come",V.str "pledge"] else inV (V.str wd) [V.str "come",V.str "pledge"])=false by
     show inV _ _=false
     simp [inV,eqV,Wz w1,Wz w2]]
    exact bK (nN (Rc _ _ ⟨wa,U,s4,by rw[hv];exact sn _ _ ewa⟩))
  clear ewa s2 s1;rintro σ H3 ⟨wa,rfl,s3,ewa⟩
  replace nr:∀ r,H3 da=some (.tup [.str "hand",.ref r])->r≠be/\r≠ah/\r≠pt/\r≠lt:=fun r z=>nr r (by
   obtain⟨wd,ys,hy,_⟩:=hd.word;rw[s3 _ _ hy] at z;rw[hy]
   exact z)
  have W3:=W0.same s3;replace hd:=hd.same s3;obtain⟨bu,lw,n1,n2,n3,n4,tb⟩:=id W3;obtain⟨ok,nw,xs,zs,hB,rx,rz⟩:=id bu;refine bL (fun σ H4=>∃ ah':Addr,σ=[oR b,oR pt,oR lt,oR da,some (.str (h.du d)),oR wa,none]/\(∀ a ys,H3 a=some (HO.tup ys)->H4 a=some (HO.tup ys))/\(∀ a ys,a≠be->a≠ah->H3 a=some (HO.lst ys)->H4 a=some (HO.lst ys))/\(ah'=ah∨∀ a ys,H3 a=some (HO.lst ys)->a≠ah')/\Bu CS CB H4 b be ah' dx (h.go d)/\Lw H4 be ah' pt lt h/\DdR h.s.n H4 da d/\TabOk H4 T Pk) ?_ ?_
  ·intro N Rc;by_cases z:h.du d = ""
   ·rw[iPo z] at ewa;have hg:h.go d=h.nx d:=iPo z;rw[hg] at Rc;refine Kf (P:=fun v H2=>v=h.va d/\∃ (Hq:Hp) (ah':Addr),iR H3 Hq/\TabOk Hq T Pk/\Bt3 b be ah Hq H2/\(ah'=ah∨Hq ah'=none)/\Bu CS CB H2 b be ah' dx (h.nx d)) tb (fun H1 s1 t1 Q2 E2 th=>?_) (fun a v H2 H' p s' ea=>?_);{exact⟨G,b,be,ah,dx,da,h,d,U,bu.sT s1,by lia,by lia,hd.sT s1,fun y=>absurd z y,fun _ H2 ah' bt fa hB'=>th _ _ ⟨U,H1,ah',s1,t1,bt,fa,hB'⟩⟩}
    ·obtain⟨rfl,Hq,ah',sq,tq,bt,fa,bu2⟩:=p;have hBq:=hB.sT sq;have tp:∀ a ys,H3 a=some (HO.tup ys)->H' a=some (HO.tup ys):=fun a ys y=>s' _ _ (bt a _ (fun w=>by rw[w] at y;rw[hB.hb] at y;cases y) (fun w=>by rw[w] at y;rw[hB.hbe] at y;cases y) (fun w=>by rw[w] at y;rw[hB.hah] at y;cases y) (stT sq y));have lq:∀ a ys,a≠be->a≠ah->H3 a=some (HO.lst ys)->H' a=some (HO.lst ys):=fun a ys m1 m2 y=>s' _ _ (bt a _ (fun w=>by rw[w] at y;rw[hB.hb] at y;cases y) m1 m2 (stL sq y));refine⟨O,_,_,O,Bv ea (Ga h d),Bv (tp _ _ ewa) (Ga h d),by simp only[Dm.dep,iD,M5];lia,fun Hz sz=>⟨true,U,?_⟩⟩;show if (!true)=true then _ else _
     have tpz:∀ a ys,H3 a=some (HO.tup ys)->Hz a=some (HO.tup ys):=fun a ys y=>sz _ _ (tp _ _ y);have lqz:∀ a ys,a≠be->a≠ah->H3 a=some (HO.lst ys)->Hz a=some (HO.lst ys):=fun a ys m1 m2 y=>sz _ _ (lq _ _ m1 m2 y);have fa3:ah'=ah∨∀ a ys,H3 a=some (HO.lst ys)->a≠ah':=fa.imp_right fun y a ys e w=>by
      have:=stL sq e;rw[w,y] at this;cases this
     refine bK (Rc _ _ ⟨ah',U,tpz,lqz,fa3,(bu2.same s').same sz,((Lw.b3 hBq.hb hBq.hbe hBq.hah bt fa n1 n2 n3 n4 (lw.sT sq)).same s').same sz,?_,?_⟩);{exact hd.kp tpz fun r ys e y=>lqz _ _ (nr r e).1 (nr r e).2.1 y};{exact tab_keep ((tab_keep tq (fun a ps ha=>bt a _ (fun w=>by rw[w,hBq.hb] at ha;cases ha) (fun w=>by rw[w,hBq.hbe] at ha;cases ha) (fun w=>by rw[w,hBq.hah] at ha;cases ha) ha) fun a o u ha=>bt a _ (fun w=>by rw[w,hBq.hb] at ha;cases ha) (fun w=>by rw[w,hBq.hbe] at ha;cases ha) (fun w=>by rw[w,hBq.hah] at ha;cases ha) ha).same s') (fun a ps ha=>sz _ _ ha) fun a o u ha=>sz _ _ ha}
   ·rw[iNe z] at ewa;have hg:h.go d=h:=iNe z;rw[hg] at Rc;refine DX (C:=x.of (h.du d)) (w:=h.du d) tb (RX (h.du d)) (fun H1 s1 t1 Q2 E2 th=>?_) (fun a H' s' t' ea=>?_);{exact⟨G,b,be,ah,dx,da,h,d,U,bu.sT s1,by lia,by lia,hd.sT s1,fun _=>th,fun y=>absurd y z⟩}
    ·refine⟨O,_,_,O,Bm ea,Bm (stT s' ewa),Ke (by decide),fun Hz sz=>⟨true,U,?_⟩⟩;show if (!true)=true then _ else _
     have sz':=s'.trans sz.t;exact bK (Rc _ _ ⟨ah,U,fun a ys y=>stT sz' y,fun a ys _ _ y=>stL sz' y,.inl U,bu.sT sz',lw.sT sz',hd.sT sz',t'.same sz⟩)
  rintro σ H4 ⟨ah',rfl,tp,lq,fa,bu4,lw4,hd4,tb4⟩;obtain⟨npl,ps,ls,e1,e2,_,_⟩:=id lw;have m3:ah'≠pt:=fun z=>fa.elim (fun y=>n3 (y.symm.trans z)) fun y=>y pt _ e1 z.symm;have m4:ah'≠lt:=fun z=>fa.elim (fun y=>n4 (y.symm.trans z)) fun y=>y lt _ e2 z.symm;obtain⟨_,nw4,xs4,zs4,hB4,_,_⟩:=id bu4;obtain⟨_,ps4,ls4,f1,f2,_,_⟩:=id lw4;refine bL (fun σ H5=>σ=[oR b,oR pt,oR lt,oR da,some (.str (h.du d)),oR wa,none]/\(∀ a o,a≠pt->a≠lt->H4 a=some o->H5 a=some o)/\Lw H5 be ah' pt lt (h.go d)) ?_ ?_;{intro N Rc;exact⟨G,G,be,ah',pt,lt,da,xs4,zs4,h,d,U,lw4,hd4,hB4.hbe,hB4.hah,n1,n2,m3,m4,by lia,by lia,fun H5 k5 lw5=>Rc _ _ ⟨U,k5,lw5⟩⟩};rintro σ H5 ⟨rfl,k5,lw5⟩;have bu5:=bu4.kp f1 f2 n1 n2 m3 m4 k5;have tb5:TabOk H5 T Pk:=tab_keep tb4 (fun a ps ha=>k5 a _ (fun w=>by rw[w,f1] at ha;cases ha) (fun w=>by rw[w,f2] at ha;cases ha) ha) fun a o u ha=>k5 a _ (fun w=>by rw[w,f1] at ha;cases ha) (fun w=>by rw[w,f2] at ha;cases ha) ha;have tp5:∀ a ys,H a=some (HO.tup ys)->H5 a=some (HO.tup ys):=fun a ys y=>by
   have y4:=tp _ _ (s3 _ _ y);exact k5 a _ (fun w=>by rw[w,f1] at y4;cases y4) (fun w=>by rw[w,f2] at y4;cases y4) y4
  have lq5:∀ a ys,a≠be->a≠ah->a≠pt->a≠lt->H a=some (HO.lst ys)->H5 a=some (HO.lst ys):=fun a ys m1 m2 m3 m4 y=>k5 a _ m3 m4 (lq _ _ m1 m2 (s3 _ _ y));replace q:=fun H' (s:aH H5 H') (w5:Wp CS CB T H' b be ah' dx pt lt (h.go d))=>q H' ah' (fun a ys y=>s _ _ (tp5 a ys y)) (fun a ys m1 m2 m3 m4 y=>s _ _ (lq5 a ys m1 m2 m3 m4 y)) (fa.imp_right fun y a ys e=>y a ys (s3 _ _ e)) w5;have W5:Wp CS CB T H5 b be ah' dx pt lt (h.go d):=⟨bu5,lw5,n1,n2,m3,m4,tb5⟩;obtain⟨ok5,nw5,xs5,zs5,hB5,rx5,rz5⟩:=id bu5;have lx5:=rx5.length;have lz5:=rz5.length;obtain⟨_,ps5,ls5,g1,g2,rp5,rl5⟩:=id lw5;have lp5:=rp5.length;rw[Vf] at lp5;have lp5:ps5.length=(h.go d).p.length+1:=lp5;have ll5:=rl5.length;refine bL (fun σ H6=>∃ fo:Addr,σ=[oR b,oR pt,oR lt,oR da,some (.str (h.du d)),oR wa,oR fo]/\aH H5 H6/\H6 fo=some (.lst [vN xs5.length,vN zs5.length])) ?_ ?_;{intro N Rc;refine⟨O,b,dx,O,hB5.hb,U,b,be,ah',dx,nw5,_,O,hB5.hb,hB5.hbe,hB5.hah,O,b,dx,O,hB5.hb,U,b,be,ah',dx,nw5,_,O,hB5.hb,hB5.hbe,hB5.hah,smN 2,fun fo hfo=>Rc _ _ ⟨fo,U,au hfo _,?_⟩⟩;rw[aa];show some (HO.lst [vN (xs5.map V.ref).length,vN (zs5.map V.ref).length])=_;rw[U7,U7]};rintro σ H6 ⟨fo,rfl,s6,efo⟩;obtain⟨bs6,w6,e6,_,ok6,u6⟩:=(lw5.same s6).now;refine⟨G,pt,O,.inl (sqL (s6 _ _ g1)),M,O,lt,O,.inl (sqL (s6 _ _ g2)),smN 2,fun p7 hp7=>?_⟩;generalize eH7:upd H6 p7 _=H7;obtain⟨s7,e7⟩:=aG eH7 hp7;have e7':H7 p7=some (.lst [vN xs5.length,vN zs5.length]):=by
   rw[e7,U7,U7,lp5,ll5,lx5,lz5];show some (HO.lst [V.int ((((h.go d).p.length+1:Nat):Int) - 1),_])=_;rw[show (((h.go d).p.length+1:Nat):Int) - 1=((h.go d).p.length:Int) by lia];rfl
  refine⟨_,_,.lst [.int (xs5.length:Int),.int (zs5.length:Int)],U,.lst (s7 _ _ efo) (by show 2<=100000;decide) (.cons (.int _) (.cons (.int _) .nil)),.lst e7' (by show 2<=100000;decide) (.cons (.int _) (.cons (.int _) .nil)),by simp [Dm.dep,iD],fun H8 s8=>⟨true,U,cL ?_⟩⟩;have s58:=s6.trans (s7.trans s8);have s68:=s7.trans s8;refine⟨G,O,pt,Y,sqL (s68 _ _ e6),n8,b,be,ah',dx,nw5,w6,_,_,(h.go d).s,U,hB5.same s58,(u6 be (by simp)).same s68,ok6,fun H9 s9=>q H9 (s58.trans s9) (W5.same (s58.trans s9))⟩
abbrev fc:Stmt:=top 89
def oU:aD X2 X2 (az fc):=cJ
inductive FP (vs:E6)(H:Hp)(Q:VK)(e3:XK):Prop where
 | mk (k:Nat) (be a:Addr) (A:Sa) (_:vs=[.int (k:Int),.ref a]) (_:StR be A.n H a A.g A.go A.es A.co) (_:∀ (da:Addr) (d:tG) (H':Hp),aH H H'->DeR A.n H' da d->(∀ r,H' da≠some (.tup [.str "hand",.ref r]))->Q (.ref da) H')
def pB (F:Fun K "_law_plain_deed" "_law_plain_deed" fc f fd) (B:Bt mg):L2.aZ P w K mg base CX0 1 f fd X2 FP:=by
 refine okA F oU fun H Q E hr h=>?_;obtain⟨k,be,a,S,rfl,hst,q⟩:=h
 refine⟨_,(aj (ifR (aA pZ (pv 0) ao) (aP (a1 aC)))
 (aj (ifR (PW.pt (jU (aA aQ (aK bI (pv 0) ao) ao) (fP (aA (r:=PL) (Ou hr.kj) (pxT K (pv 1) ao) vJ)))) (aP (aq aC (a1 (aN (r:=Qo) (G8 U) U B.max_ sO (a1 (pxT K (pv 1) ao)))))))
 (sR (aP (aq aC (aq (aK bI (pv 0) ao) (a1 (aP (a1 (aP (aq (aK bD ao (aK bI (pv 0) ao)) (a1 (aP (a1 aC)))))))))))))),?_⟩
 obtain⟨pa,ga,ta,kvs,h1,h2,h3,h4,h5,h6⟩:=hst;refine bL (fun σ H1=>σ=[some (.int (k:Int)),oR a]/\H1=H) ?_ ?_;{intro N Rc;refine⟨O,M,O,jx (fun y=>⟨smN 1,fun p hp=>?_⟩) (fun y=>Rc _ _ ⟨U,U⟩)⟩;refine q p .come _ (au hp _) (.come aa) fun r hr0=>?_;rw[aa] at hr0;cases hr0};rintro σ H1 ⟨rfl,rfl⟩;refine bL (fun σ H2=>σ=[some (.int (k:Int)),oR a]/\aH H1 H2) ?_ ?_
 ·intro N Rc;refine jC (fun cc H2=>aH H1 H2/\(cc=true->kvs≠[])) (fun Q' Rq=>?_) ?pp (fun H2 z=>nN (Rc _ _ ⟨U,z.1⟩));{refine⟨O,M,(show (0:Int) < 2 by decide),U,_,U,jx (fun _=>?_) (fun _=>Rq _ _ ⟨aH.refl _,fun z=>by cases z⟩)⟩;refine⟨O,a,Y,sqT h1,gt2,fun p hp=>?_⟩;have sn:=au hp (.dK []);exact⟨ta,p,kvs,U,U,sn _ _ h4,aa,O,Rq _ _ ⟨sn,fun z x=>by rw[x] at z;cases z⟩⟩}
  case pp =>
   rintro H2 ⟨s2,hne⟩;have hne:=hne U;have lk:=h5.length;refine⟨O,a,Y,sqT (s2 _ _ h1),gt2,ta,kvs,S.es.map fun e=>(e.1:Int),U,s2 _ _ h4,h5.keys,fun z=>hne ?_,fun m=>⟨smN 2,fun p hp=>?_⟩⟩;{have:=congrArg Z5 z;rw[U7] at this;exact V8 (by rw[lk];exact this)};{refine q p (.withdraw m) _ (s2.trans (au hp _)) (.withdraw aa) fun r hr0=>?_;rw[aa] at hr0;cases hr0}
 rintro σ H2 ⟨rfl,s2⟩;refine⟨O,M,(show (0:Int) < 3 by decide),_,U,_,_,U,U,(show (0:Int) < 9 by decide),_,_,U,U,smN 1,fun p1 hp1=>?_⟩;generalize eF1:upd H2 p1 _=F1;obtain⟨g1,f1⟩:=aG eF1 hp1;refine⟨smN 2,fun p2 hp2=>?_⟩;generalize eF2:upd F1 p2 _=F2;obtain⟨g2,f2⟩:=aG eF2 hp2;refine⟨smN 1,fun p3 hp3=>?_⟩;generalize eF3:upd F2 p3 _=F3;obtain⟨g3,f3⟩:=aG eF3 hp3;refine⟨smN 3,fun p4 hp4=>?_⟩;generalize eF4:upd F3 p4 _=F4;obtain⟨g4,f4⟩:=aG eF4 hp4;have b0:=V5 (k:Int) (show (9:Int)≠0 by decide);have b9:=VN (k:Int) (show (0:Int) < 9 by decide);have hp:j9 S.n F4 p3 [(1+(k:Int) % 9,.free)]:=by
  refine⟨⟨by simp,by show 1<=9;decide,by simp,fun x hx=>?_⟩,_,g4 _ _ f3,.cons ((g3.trans g4) _ _ f2) (.free ((g2.trans (g3.trans g4)) _ _ f1)) .nil⟩;rw[List.mem_singleton.mp hx];exact⟨by show 1<=1+(k:Int) % 9;lia,by show 1+(k:Int) % 9<=9;lia,by show Tm.dep .free<=4;decide⟩
 refine q p4 _ F4 (s2.trans (g1.trans (g2.trans (g3.trans g4)))) (.pledge f4 hp) fun r hr0=>?_;rw[f4] at hr0;cases hr0
structure Wd (p:Prop):Prop where
 h:p
section
variable {X:Cx}{pos:YS}{e:Expr}{es:Do}{te:TE}{t:TA}{st:Stmt}{rest:DA}
def wT {x1}(h:Wd (PA X es t)):Wd (PE X (.Tuple es x1 pos) (Rn t)):=⟨aP h.h⟩
def wL (h:Wd (PA X es t)):Wd (PE X (.List es pos) (TQ t)):=⟨bc h.h⟩
def wC (ha:Wd (PE X e te))(hr:Wd (PA X es t))(hs:Vx (e::es) X.env=(false,Wy e X.env)::Vx es X.env:=by rfl):Wd (PA X (e::es) (o4 te t)):=⟨aq ha.h hr.h hs⟩
def wN:Wd (PA X [] wM):=⟨cQ⟩
def wS1 {x j x1}{p2:YS}:Wd (PE X (.Tuple [.Constant (.str x) j p2] x1 pos) (Rn (o4 (tC (.str x)) wM))):=wT (wC ⟨aC⟩ wN)
def T8 {i:Nat}{x:VB}{pos':YS}(hN:X.N.Nodup)(hi:X.N[i]? = some x)(hx:Loc X.env.scope x)(he:Wd (PE X e te))(hs:ZR e (some (.Name x pos')) pos.line X.env=pure false:=by rfl)(hf:X.env.scope.names.lookup x=some .local:=by rfl):Wd (PS X (.Assign [.Name x pos'] e pos) (QX te (pQ i))):=⟨Ir hN hi hx he.h hs (.inr hf)⟩
def Sx {tg iter:Expr}{body:DA}{tl:TE}{g:TG}{tb:TS}(hp:PassesOwn (Vl X.prog X.w) X.A X.env X.xe)(hc:X.calm=true)(hi:Wd (PE X iter tl))(hg:PG X tg g)(hb:PSs X body tb)(hs:∀ x,Xq iter X.env x=pure x:=by intro _;rfl):Wd (PS X (.For tg iter body [] pos) (T4 (Tu X.K tl) g tb)):=⟨cP hp hc (cU hi.h) hg hb hs⟩
def Rf {t u:TS}(h1:Wd (PS X st t))(h2:PSs X rest u):PSs X (st::rest) (Gj t u):=aj h1.h h2
end
def Iw (CS CB T b be dx pt lt:Addr)(ks:List (Addr × List V))(N:Nat)(H:Hp):Prop:=∃ (ah:Addr) (h:Hi),Wp CS CB T H b be ah dx pt lt h/\h.sz<=N/\∀ l ys,(l,ys)∈ks->H l=some (.lst ys)/\l≠be/\l≠ah/\l≠pt/\l≠lt
section
variable {CS CB T b be dx pt lt:Addr}{ks:List (Addr × List V)}{N:Nat}{H H':Hp}
def Iw.same (s:aH H H')(x:Iw CS CB T b be dx pt lt ks N H):Iw CS CB T b be dx pt lt ks N H':=by
 obtain⟨ah,h,W1,sz,kk⟩:=x;exact⟨ah,h,W1.same s,sz,fun l ys m=>⟨s _ _ (kk l ys m).1,(kk l ys m).2⟩⟩
def Iw.add {l:Addr}{ys:E6}(x:Iw CS CB T b be dx pt lt ks N H)(fl:H l=none):Iw CS CB T b be dx pt lt ((l,ys)::ks) N (upd H l (.lst ys)):=by
 obtain⟨ah,h,W1,sz,kk⟩:=x;have s:=au fl (.lst ys);obtain⟨_,nw,xs,zs,hB,_,_⟩:=id W1.bu;obtain⟨_,ps,ls,e1,e2,_,_⟩:=id W1.lw;refine⟨ah,h,W1.same s,sz,fun l' ys' m=>?_⟩;rcases List.mem_cons.mp m with e | m;{cases e;exact⟨aa,(fun z=>by rw[z,hB.hbe] at fl;cases fl),(fun z=>by rw[z,hB.hah] at fl;cases fl),(fun z=>by rw[z,e1] at fl;cases fl),(fun z=>by rw[z,e2] at fl;cases fl)⟩};{exact⟨s _ _ (kk l' ys' m).1,(kk l' ys' m).2⟩}
def Iw.up {M:Nat}(x:Iw CS CB T b be dx pt lt ks N H)(l:N<=M):Iw CS CB T b be dx pt lt ks M H:=by
 obtain⟨ah,h,W1,sz,kk⟩:=x;exact⟨ah,h,W1,VH sz l,kk⟩
def Iw.next {ah ah':Addr}{h:Hi}{d:Dd}(sz:h.sz<=N)(kk:∀ l ys,(l,ys)∈ks->H l=some (.lst ys)/\l≠be/\l≠ah/\l≠pt/\l≠lt)(lp:∀ a ys,a≠be->a≠ah->a≠pt->a≠lt->H a=some (HO.lst ys)->H' a=some (HO.lst ys))(fa:ah'=ah∨∀ a ys,H a=some (HO.lst ys)->a≠ah')(W2:Wp CS CB T H' b be ah' dx pt lt (h.go d)):Iw CS CB T b be dx pt lt ks (N+d.up) H':=by
 refine⟨ah',h.go d,W2,by have:=h.S7 d;lia,fun l ys m=>?_⟩;obtain⟨k1,k2,k3,k4,k5⟩:=kk l ys m;exact⟨lp _ _ k2 k3 k4 k5 k1,k2,fun z=>fa.elim (fun y=>k3 (z.trans y)) fun y=>y l ys k1 z,k4,k5⟩
def GF {n:Nat}{y v:V}(h:y∈(VM n [v]).flatten):y=v:=by
 obtain⟨l,hl,hy⟩:=List.mem_flatten.mp h;rw[(List.mem_replicate.mp hl).2] at hy;exact List.mem_singleton.mp hy
def up1 (d:Dd):d.up<=1:=by cases d <;> simp [Dd.up]
end
abbrev Pa:Stmt:=top 90
def kI:aD ["_law_script","_law_boon_here","_law_past","_law_later","_law_k","_law_cell_here","_law_many","_law_deed_here"] ZE (az Pa):=cJ
inductive Kg (K:VG)(T:Addr)(vs:E6)(H:Hp)(Q:VK)(e3:XK):Prop where
 | mk (a:Addr) (ns:DC) (_:vs=[.ref a]) (_:SqL K H a (ns.map V.int)) (_:ns.length<=63) (_:TabOk H T Pk) (_:∀ H',Q (.bl true) H')
def PN {f T CS CB:Addr} {fd:Wh} (F:Fun K "law" "law" Pa f fd) (B:Bt mg) (OV:Dk2 P w K mg base "Boon" CB 3 ZO (Cu CS CB)) (PZ:Df P w K mg base "_law_cell" 1 XV (Mv K)) (RH:Df P w K mg base "_law_side" 2 VZ Hj)
  (QP:Df P w K mg base "_law_plain_deed" 1 X2 FP) (PU:Df P w K mg base "_law_any_deed" 10 WB Qk) (QU:Df P w K mg base "_law_played" 19 VT (CK CS CB T)) :
  L2.aZ P w K mg base CX0 20 f fd ZE (Kg K T):=by
 refine okA F kI fun H Q E hr h=>?_;obtain⟨a,ns0,rfl,hS,lN,hT,q⟩:=h
 refine⟨_,(aj (sT 0 kI.nd (mW (r:=Tv K) Oz (pv 0) qW (oY ao)))
 (aj (sT 1 kI.nd (Qm OV hr))
 (Rf (T8 (i:=2) kI.nd U (Za U) (wL (wC (wT (wC (wL wN) (wC (wT wN) (wC ⟨vJ⟩ (wC ⟨ao⟩ wN))))) wN)))
 (aj (sT 3 kI.nd (bc cQ))
 (aj (cP V4 U (bN U B.range_ (a1 (aK gG ao (aW (r:=Kw) nq U B.int_ qP (a1 (cT aQ (aO RH hr (aq (aO PZ hr (aq (pv 0) (a1 ao))) (aq ao (a1 ao)))) ao)))))) (pgN 4 kI.nd) (aB (ifR (dC (cj (aO QU hr (aq (pv 1) (aq (pv 2) (aq (pv 3) (a1 (aO QP hr (aq (pv 4) (a1 (pxL K (pv 2) (xH pD ao)))))))))))) fG)))
 (aj (cP V4 U (dB (aK rF (pv 0) (bc (aq ao (a1 ao))))) (pgN 5 kI.nd) (aB (ifR (dC (cj (aO QU hr (aq (pv 1) (aq (pv 2) (aq (pv 3) (a1 (aO PU hr (aq (pv 5) (aq (pv 2) (a1 ao))))))))))) fG)))
 (aj (sT 6 kI.nd (pln K B.len_ (pv 2)))
 (aj (cP V4 U (dB (aK rF (aK Mg (bc (a1 (aP (a1 aC)))) (pv 6)) (aK Mg (bc (a1 (aP (a1 aC)))) (aK bD (aK bD (pv 6) (pln K B.len_ (pv 3))) ao)))) (pgN 7 kI.nd) (aB (ifR (dC (cj (aO QU hr (aq (pv 1) (aq (pv 2) (v2 3 7)))))) fG)))
 (Rf (Sx V4 U (wT (wC wS1 (wC wS1 (wC wS1 (wC wS1 (wC wS1 wN)))))) (pgN 7 kI.nd) (aB (ifR (dC (cj (aO QU hr (aq (pv 1) (aq (pv 2) (v2 3 7)))))) fG)))
 (sR fG)))))))))),?_⟩
 refine bL (fun σ H1=>∃ (p1:Addr) (ss:DC),σ=[oR p1,none,none,none,none,none,none,none]/\aH H H1/\H1 p1=some (.lst (ss.map V.int))/\ss.length<=63) ?_ ?_;{intro N Rc;refine⟨G,a,O,hS,fun p1 h1=>?_⟩;obtain⟨ss,es,ls⟩:=JC ns0 none (some 63);rw[es];exact Rc _ _ ⟨p1,ss,U,au h1 _,aa,by lia⟩};rintro σ H1 ⟨p1,ss,rfl,g1,e1,ls⟩;refine bL (fun σ H2=>∃ (b be ah dx nw:Addr),σ=[oR p1,oR b,none,none,none,none,none,none]/\aH H1 H2/\H1 be=none/\H1 ah=none/\Bn CS CB 0 H2 b be ah dx nw [] [] [] [] [] 0) ?_ ?_
 ·intro N Rc x dx hx hdx hne;have fr0:∀ c,H1 c≠none->c≠x/\c≠dx:=fun c h=>⟨fun z=>h (by rw[z];exact hx),fun z=>h (by rw[z];exact hdx)⟩;have old:∀ {c:Addr} {o1 o2:HO},upd (upd H1 dx o1) x o2 c=none->H1 c=none:=fun {c} {o1 o2} y=>by
   cases hq:H1 c with
   | none=>rfl
   | some o =>
    obtain⟨ax,ad⟩:=fr0 c (by rw[hq];simp);rw[aF ax,aF ad,hq] at y;cases y
  refine⟨x,dx,U,aa,fun be ah nw H4 fbe fah fr hB=>⟨U,Rc _ _ ⟨x,be,ah,dx,nw,U,fun a o h=>?_,old fbe,old fah,hB⟩⟩⟩;obtain⟨ax,ad⟩:=fr0 a (by rw[h];simp);exact fr a o ax (by rw[aF ax,aF ad];exact h)
 rintro σ H2 ⟨b,be,ah,dx,nw,rfl,s2,fbe,fah,hB⟩;have nb1:p1≠be:=fun z=>by rw[z,fbe] at e1;cases e1
 have na1:p1≠ah:=fun z=>by rw[z,fah] at e1;cases e1
 refine bL (fun σ H3=>∃ (pt st:Addr),σ=[oR p1,oR b,oR pt,none,none,none,none,none]/\aH H2 H3/\H2 pt=none/\H3 pt=some (.lst [.ref st])/\∀ x,x=pt∨(∃ o,H2 x=some o)∨H3 x=none->StR x 0 H3 st [] [] [] 0) ?_ ?_
 ·intro N Rc;refine⟨smN 0,fun a1 h1=>?_⟩;generalize eF1:upd H2 a1 _=F1;obtain⟨gf1,ef1⟩:=aG eF1 h1;refine⟨smN 0,fun a2 h2=>?_⟩;generalize eF2:upd F1 a2 _=F2;obtain⟨gf2,ef2⟩:=aG eF2 h2;intro a3 h3;generalize eF3:upd F2 a3 _=F3;obtain⟨gf3,ef3⟩:=aG eF3 h3;refine⟨smN 4,fun st hst=>?_⟩;generalize eF4:upd F3 st _=F4;obtain⟨gf4,ef4⟩:=aG eF4 hst;refine⟨smN 1,fun pt hpt=>?_⟩;generalize eF5:upd F4 pt _=F5;obtain⟨gf5,ef5⟩:=aG eF5 hpt;have s14:=gf2.trans (gf3.trans gf4);have e15:=(s14.trans gf5) _ _ ef1;refine Rc _ _ ⟨pt,st,U,gf1.trans (s14.trans gf5),(gf1.trans s14).free hpt,ef5,fun x hx=>⟨a1,a2,a3,[],gf5 _ _ ef4,e15,(gf3.trans (gf4.trans gf5)) _ _ ef2,(gf4.trans gf5) _ _ ef3,.nil,fun z=>?_⟩⟩;rcases hx with y | ⟨o,y⟩ | y;{rw[← y,← z,s14 _ _ ef1] at hpt;cases hpt};{rw[z,y] at h1;cases h1};{rw[← z,e15] at y;cases y}
 rintro σ H3 ⟨pt,st,rfl,s3,fpt,ept,hst⟩;refine bL (fun σ H4=>∃ lt:Addr,σ=[oR p1,oR b,oR pt,oR lt,none,none,none,none]/\Iw CS CB T b be dx pt lt [(p1,ss.map V.int)] 0 H4) ?_ ?_
 ·intro N Rc;refine⟨smN 0,fun lt hlt=>Rc _ _ ⟨lt,U,?_⟩⟩;have s4:=au hlt (.lst []);have s24:=s3.trans s4;have npe:pt≠be:=fun z=>by rw[z,hB.hbe] at fpt;cases fpt
  have npa:pt≠ah:=fun z=>by rw[z,hB.hah] at fpt;cases fpt
  have npl:pt≠lt:=fun z=>by rw[← z,ept] at hlt;cases hlt
  have nle:lt≠be:=fun z=>by rw[z,s3 _ _ hB.hbe] at hlt;cases hlt
  have nla:lt≠ah:=fun z=>by rw[z,s3 _ _ hB.hah] at hlt;cases hlt
  have ok0:AOk ⟨0,[],[],[],0⟩:=⟨U,by decide,by decide,⟨.nil,by simp⟩,by simp⟩;refine⟨ah,⟨[],⟨0,[],[],[],0⟩,[]⟩,⟨⟨ok0,nw,[],[],hB.same s24,.nil,.nil⟩,⟨npl,[st],[],s4 _ _ ept,aa,.cons ⟨ok0,fun x hx=>?_⟩ .nil,.nil⟩,npe.symm,nle.symm,npa.symm,nla.symm,hT.same (g1.trans (s2.trans s24))⟩,Vb _,fun l ys m=>?_⟩
  ·refine StR.same s4 (hst x ?_);simp only[Xg,Xy,or_false] at hx;rcases hx with rfl | rfl | rfl | rfl;{exact .inr (.inl ⟨_,hB.hbe⟩)};{exact .inr (.inl ⟨_,hB.hah⟩)};{exact .inl U};{exact .inr (.inr hlt)}
  ·cases List.mem_singleton.mp m;exact⟨(s2.trans s24) _ _ e1,nb1,na1,(fun z=>by rw[← z,s2 _ _ e1] at fpt;cases fpt),(fun z=>by rw[← z,(s2.trans s3) _ _ e1] at hlt;cases hlt)⟩
 clear hst ept s3 fpt hB s2;rintro σ H4 ⟨lt,rfl,iw4⟩;refine bL (fun σ H5=>∃ u4,σ=[oR p1,oR b,oR pt,oR lt,u4,none,none,none]/\Iw CS CB T b be dx pt lt [(p1,ss.map V.int)] 200 H5) ?_ ?_
 ·intro N Rc;obtain⟨_,_,_,_,kk⟩:=id iw4;refine⟨O,p1,ss,0,U,sqL (kk p1 (ss.map V.int) (by simp)).1,_,1021,8,U,by decide,by decide,by decide,fun i H5 s5 _=>⟨U,.inr ⟨O,M,.inl ⟨by decide,by decide⟩,?_⟩⟩⟩;generalize decide (vN i=V.int 0)=bb;have e2:∃ m:Nat,m<=200/\(200:Int) * (if bb=true then 1 else 0)=(m:Int):=by
   cases bb with
   | false=>exact⟨0,by decide,U⟩
   | true=>exact⟨200,by decide,U⟩
  obtain⟨m,m2,em⟩:=e2;refine⟨(200:Int) * (if bb=true then 1 else 0),U,by rw[em];lia,by rw[em];lia,iV (lo:=0) (n:=((200:Int) * (if bb=true then 1 else 0)).toNat) (fun j σ Hx=>∃ u4,σ=[oR p1,oR b,oR pt,oR lt,u4,none,none,none]/\Iw CS CB T b be dx pt lt [(p1,ss.map V.int)] j Hx) ⟨O,iw4.same s5⟩ ?_ ?_⟩
  ·rintro j σ Hx hj ⟨u4,rfl,iw⟩;rw[em] at hj;refine gN ?_;rw[WN];obtain⟨ah,h,W1,sz,kk⟩:=id iw;obtain⟨bs,w,e1,_,ok,u⟩:=W1.lw.now;refine⟨G,G,G,pt,Y,sqL e1,n8,j,be,w,h.s,U,u be (by simp),fun da d H6 s6 hd nr=>⟨b,be,ah,dx,pt,lt,da,h,.deed d,U,W1.same s6,.deed hd,(fun r y=>absurd y (nr r)),by lia,fun H7 ah' tp lp fa W7=>⟨true,U,?_⟩⟩⟩;exact bK ⟨O,Iw.next (d:=.deed d) sz (fun l ys m=>⟨s6 _ _ (kk l ys m).1,(kk l ys m).2⟩) lp fa W7⟩
  ·rintro σ Hx ⟨u4,rfl,iw⟩;rw[em] at iw;exact Rc _ _ ⟨u4,U,iw.up (by lia)⟩
 rintro σ H5 ⟨u4,rfl,iw5⟩;refine bL (fun σ H6=>∃ u5,σ=[oR p1,oR b,oR pt,oR lt,u4,u5,none,none]/\Iw CS CB T b be dx pt lt [] 265 H6) ?_ ?_
 ·intro N Rc;obtain⟨_,_,_,_,kk⟩:=id iw5;refine⟨O,smN 2,fun p5 h5=>?_⟩;generalize eH8:upd H5 p5 _=H8;obtain⟨g8,e8⟩:=aG eH8 h5;refine⟨p1,p5,M,g8 _ _ (kk p1 (ss.map V.int) (by simp)).1,e8,small (by rw[U7];show ss.length+2<=1000;lia),fun p6 h6=>?_⟩;have ec:ss.map V.int++[V.int 0,V.int 1]=(ss++[0,1]).map V.int:=by rw[Vd];rfl
  rw[ec];have iw6:=(iw5.same g8).add (ys:=(ss++[0,1]).map V.int) h6
  refine⟨p6,U,⟨_,sqL aa⟩,d8 (K:=K) (a:=p6) (xs:=(ss++[0,1]).map V.int) (fun i σ Hx=>∃ u5,σ=[oR p1,oR b,oR pt,oR lt,u4,u5,none,none]/\Iw CS CB T b be dx pt lt [(p6,(ss++[0,1]).map V.int),(p1,ss.map V.int)] (200+i) Hx)
   ⟨O,iw6⟩ (fun i σ Hx _ h=>by obtain⟨_,_,_,_,_,_,kk⟩:=h;exact sqL (kk p6 ((ss++[0,1]).map V.int) (by simp)).1) ?_ ?_⟩
  ·rintro i y σ Hx hx ⟨u5,rfl,iw⟩;obtain⟨cv,hcv,rfl⟩:=int_at hx;have il:=(geS hcv).1;rw[Vf] at il;have il:i < ss.length+2:=il;refine gN ?_;obtain⟨ah,h,W1,sz,kk⟩:=id iw;obtain⟨_,nw',xs',zs',hB',_,_⟩:=id W1.bu;obtain⟨_,ps',ls',e1',e2',_,_⟩:=id W1.lw;refine⟨G,G,O,cv,3,be,ah,pt,lt,h,U,by decide,by decide,W1.lw,fun da d H6 s6 hd nr=>?_⟩;refine⟨b,be,ah,dx,pt,lt,da,h,d,U,W1.same s6,hd,(fun r y=>?_),by lia,fun H7 ah' tp lp fa W7=>⟨true,U,?_⟩⟩
   rotate_left
   ·exact bK ⟨O,(Iw.next sz (fun l ys m=>⟨s6 _ _ (kk l ys m).1,(kk l ys m).2⟩) lp fa W7).up (by have:=up1 d;lia)⟩
   have fr:=nr r y;exact⟨(fun z=>by rw[z,hB'.hbe] at fr;cases fr),(fun z=>by rw[z,hB'.hah] at fr;cases fr),(fun z=>by rw[z,e1'] at fr;cases fr),(fun z=>by rw[z,e2'] at fr;cases fr)⟩
  ·rintro σ Hx ⟨u5,rfl,iw⟩;obtain⟨ah,h,W1,sz,_⟩:=iw;rw[U7,Vf] at sz;have sz:h.sz<=200+(ss.length+2):=sz;exact Rc _ _ ⟨u5,U,ah,h,W1,by lia,fun _ _ m=>nomatch m⟩
 rintro σ H6 ⟨u5,rfl,iw6⟩;obtain⟨ah6,h6,W6,sz6,_⟩:=id iw6;obtain⟨_,ps6,ls6,e6,f6,rp6,rl6⟩:=id W6.lw;have lp6:=rp6.length;rw[Vf] at lp6;have lp6:ps6.length=h6.p.length+1:=lp6;have ll6:=rl6.length;have sz6':h6.p.length+h6.l.length<=265:=sz6;refine bL (fun σ H7=>σ=[oR p1,oR b,oR pt,oR lt,u4,u5,some (vN ps6.length),none]/\H7=H6) ?_ ?_;{intro N Rc;refine⟨O,pt,O,.inl (sqL e6),Rc _ _ ⟨?_,U⟩⟩;rw[U7];rfl};rintro σ H7 ⟨rfl,rfl⟩;refine bL (fun σ H8=>∃ u7,σ=[oR p1,oR b,oR pt,oR lt,u4,u5,some (vN ps6.length),u7]/\Iw CS CB T b be dx pt lt [] 265 H8) ?_ ?_
 ·intro N Rc;refine⟨smN 1,fun a1 h1=>?_⟩;generalize eF1:upd H7 a1 _=F1;obtain⟨g1',f1⟩:=aG eF1 h1;refine⟨smN 1,fun l1 hl1=>?_⟩;generalize eF2:upd F1 l1 _=F2;obtain⟨g2,f2⟩:=aG eF2 hl1;refine⟨O,l1,M,f2,by lia,by lia,small (by show 1 * _<=1000;lia),fun l2 hl2=>?_⟩;generalize eF3:upd F2 l2 _=F3;obtain⟨g3,f3⟩:=aG eF3 hl2;refine⟨smN 1,fun a4 h4'=>?_⟩;generalize eF4:upd F3 a4 _=F4;obtain⟨g4,f4⟩:=aG eF4 h4';refine⟨smN 1,fun l4 hl4=>?_⟩;generalize eF5:upd F4 l4 _=F5;obtain⟨g5,f5⟩:=aG eF5 hl4;have s75:=g1'.trans (g2.trans (g3.trans (g4.trans g5)));refine⟨G,lt,O,.inl (sqL (s75 _ _ f6)),M,M,l4,M,f5,by rw[U7];lia,by rw[U7];lia,small (by rw[U7];show 1 * _<=1000;lia),fun l5 hl5=>?_⟩;generalize eF6:upd F5 l5 _=F6;obtain⟨g6,f6'⟩:=aG eF6 hl5;have f3':=(g4.trans (g5.trans g6)) _ _ f3;refine⟨l2,l5,M,f3',f6',small ?_,fun l6 hl6=>?_⟩;{rw[len_rep,len_rep,U7];show (ps6.length:Int).toNat * 1+((ps6.length:Int)+(ls6.length:Int)+1).toNat * 1<=1000;lia};have mem:∀ y,y∈(VM ((ps6.length:Nat):Int).toNat [V.ref a1]).flatten++(VM (((ps6.length:Nat):Int)+(((ls6.map V.ref).length:Nat):Int)+1).toNat [V.ref a4]).flatten->y = .ref a1∨y = .ref a4:=fun y hy=>(List.mem_append.mp hy).imp GF GF;generalize (VM ((ps6.length:Nat):Int).toNat [V.ref a1]).flatten++(VM (((ps6.length:Nat):Int)+(((ls6.map V.ref).length:Nat):Int)+1).toNat [V.ref a4]).flatten=L at mem;have iw7:=(iw6.same (s75.trans g6)).add (ys:=L) hl6;generalize eF7:upd F6 l6 _=F7 at iw7;obtain⟨sn,f7⟩:=aG eF7 hl6;have k1:=sn _ _ ((g2.trans (g3.trans (g4.trans (g5.trans g6)))) _ _ f1);have k4:=sn _ _ ((g5.trans g6) _ _ f4)
  refine⟨l6,U,⟨_,sqL f7⟩,d8 (K:=K) (a:=l6) (xs:=L) (fun i σ Hx=>∃ u7,σ=[oR p1,oR b,oR pt,oR lt,u4,u5,some (vN ps6.length),u7]/\Iw CS CB T b be dx pt lt [(l6,L)] 265 Hx/\Hx a1=some (.tup [.str "undo"])/\Hx a4=some (.tup [.str "redo"]))
   ⟨O,iw7,k1,k4⟩ (fun i σ Hx _ h=>by obtain⟨_,_,⟨_,_,_,_,kk⟩,_⟩:=h;exact sqL (kk l6 L (by simp)).1) ?_ ?_⟩
  ·rintro i y σ Hx hx ⟨u7,rfl,iw,ea,ec⟩;obtain⟨da,d,rfl,hd,hu,nr⟩:∃ da d,y = .ref da/\(∀ n,DdR n Hx da d)/\d.up=0/\∀ r,Hx da≠some (.tup [.str "hand",.ref r]):=by
    rcases mem y (Vy hx) with rfl | rfl;{exact⟨a1,.undo,U,fun _=>.undo ea,U,fun r z=>by rw[ea] at z;cases z⟩};{exact⟨a4,.redo,U,fun _=>.redo ec,U,fun r z=>by rw[ec] at z;cases z⟩}
   refine gN ?_;obtain⟨ah,h,W1,sz,kk⟩:=id iw;refine⟨G,G,b,be,ah,dx,pt,lt,da,h,d,U,W1,hd _,(fun r y=>absurd y (nr r)),by lia,fun H7 ah' tp lp fa W7=>⟨true,U,?_⟩⟩;exact bK ⟨O,(Iw.next sz kk lp fa W7).up (by lia),tp _ _ ea,tp _ _ ec⟩
  ·rintro σ Hx ⟨u7,rfl,⟨ah,h,W1,sz,_⟩,_,_⟩;exact Rc _ _ ⟨u7,U,ah,h,W1,sz,fun _ _ m=>nomatch m⟩
 rintro σ H8 ⟨u7,rfl,iw8⟩;refine gm (fun _ _=>True) (fun _ _ _=>q _) fun N Rc=>?_;refine⟨smN 1,fun t1 h1=>?_⟩;generalize eF1:upd H8 t1 _=F1;obtain⟨g1',f1⟩:=aG eF1 h1;refine⟨smN 1,fun t2 h2=>?_⟩;generalize eF2:upd F1 t2 _=F2;obtain⟨g2,f2⟩:=aG eF2 h2;refine⟨smN 1,fun t3 h3=>?_⟩;generalize eF3:upd F2 t3 _=F3;obtain⟨g3,f3⟩:=aG eF3 h3;refine⟨smN 1,fun t4 h4=>?_⟩;generalize eF4:upd F3 t4 _=F4;obtain⟨g4,f4⟩:=aG eF4 h4;refine⟨smN 1,fun t5 h5=>?_⟩;generalize eF5:upd F4 t5 _=F5;obtain⟨g5,f5⟩:=aG eF5 h5;refine⟨smN 5,fun tt htt=>?_⟩;generalize eF6:upd F5 tt _=F6;obtain⟨g6,f6⟩:=aG eF6 htt;have s5:=g5.trans g6;have s4:=g4.trans s5;have s3:=g3.trans s4;have s2:=g2.trans s3
 refine⟨tt,U,⟨_,sqT f6⟩,dR (K:=K) (a:=tt) (xs:=[.ref t1,.ref t2,.ref t3,.ref t4,.ref t5]) (fun i σ Hx=>∃ u7,σ=[oR p1,oR b,oR pt,oR lt,u4,u5,some (vN ps6.length),u7]/\Iw CS CB T b be dx pt lt [] (265+i) Hx/\Hx tt=some (.tup [.ref t1,.ref t2,.ref t3,.ref t4,.ref t5])/\Hx t1=some (.tup [.str "undo"])/\Hx t2=some (.tup [.str "come"])/\Hx t3=some (.tup [.str "redo"])/\Hx t4=some (.tup [.str "undo"])/\Hx t5=some (.tup [.str "undo"]))
  ⟨O,iw8.same (g1'.trans s2),f6,s2 _ _ f1,s3 _ _ f2,s4 _ _ f3,s5 _ _ f4,g6 _ _ f5⟩ (fun i σ Hx _ h=>by obtain⟨_,_,_,z,_⟩:=h;exact sqT z) ?_ (fun _ _ _=>Rc _ _ trivial)⟩
 rintro i y σ Hx hx ⟨u7,rfl,iw,et,e1,e2,e3,e4,e5⟩;have i5:i < 5:=(geS hx).1;obtain⟨da,d,rfl,hd,nr⟩:∃ da d,y = .ref da/\(∀ n,DdR n Hx da d)/\∀ r,Hx da≠some (.tup [.str "hand",.ref r]):=by
  have hm:=Vy hx;simp only[Xg,Xy,or_false] at hm;rcases hm with rfl | rfl | rfl | rfl | rfl;{exact⟨t1,.undo,U,fun _=>.undo e1,fun r z=>by rw[e1] at z;cases z⟩};{exact⟨t2,.deed .come,U,fun _=>.deed (.come e2),fun r z=>by rw[e2] at z;cases z⟩};{exact⟨t3,.redo,U,fun _=>.redo e3,fun r z=>by rw[e3] at z;cases z⟩};{exact⟨t4,.undo,U,fun _=>.undo e4,fun r z=>by rw[e4] at z;cases z⟩};{exact⟨t5,.undo,U,fun _=>.undo e5,fun r z=>by rw[e5] at z;cases z⟩}
 refine gN ?_;obtain⟨ah,h,W1,sz,kk⟩:=id iw;refine⟨G,G,b,be,ah,dx,pt,lt,da,h,d,U,W1,hd _,(fun r y=>absurd y (nr r)),by lia,fun H7 ah' tp lp fa W7=>⟨true,U,?_⟩⟩;exact bK ⟨O,(Iw.next sz kk lp fa W7).up (by have:=up1 d;lia),tp _ _ et,tp _ _ e1,tp _ _ e2,tp _ _ e3,tp _ _ e4,tp _ _ e5⟩
def all_mk {l:W.OpenLaw} {w:V2} {K:VG} {h:Wg} {mg:VB->C5} {fa fq1 fq2 fq3 fq4 fq5 fq6 fq7 fq8 fq9 fq10 fq11 fq12 fq13 fq14 fq15 fq16 fq17 fq18 fq19 fq20 fq21 fq22 fq23 fq24 fq25 fq26 fq27 fq28 fq29 fq30 fq31 fq32 fq33 fq34 fq35 fq36 fq37 fq38 fq39 fq40 fq41 fq42 fq43 fq44 fq45 fq46 fq47 fq48 fq49 fq50 fq51 fq52 fq53 fq54 fq55 fq56 fq57 fq58 fq59 fq60 fq61 fq62 fq63:Addr} (X:K.In h) (G:h.Ns Vu mg) (hfa:mg "law" = some (.ref fa)) {kMFO kMST kMSU kMDE kFPA kMPA kMRU kMPL:Tok} {Cw10 Cw11:Addr} {TW TD TB Ty TH TK Tx TU TC TN TL TR TM:Addr} {Cw0 fiw0 Cw1 fiw1 Cw2 fiw2 Cw3 fiw3 Cw4 fiw4 Cw5 fiw5 Cw8 fiw8 Cw7 fiw7 Cw6 fiw6 Cw9 fiw9:Addr} {bmw0 bmw1 bmw2 bmw3 bmw4 bmw5 bmw8 bmw7 bmw6 bmw9:C9} {mc:Value} {cLaw:Addr}
  (qw0:dz K "BoonError" "BoonError.__init__" Cw0 fiw0 (inClass mJ 0) bmw0)
  (xga:W.specialIn K (.ref Cw0) "__getattribute__" = some (some (.builtin "type.__getattribute__")))
  (xty:W.typeIn K (.ref Cw0)=some mc)
  (xrd:W.readsIn K Cw0 mc=true)
  (xfd:W.findCls K (.ref Cw0) mc "__init__" = some (.val (.ref fiw0)))
  (qw1:dz K "BadPledge" "BadPledge.__init__" Cw1 fiw1 (inClass mG 0) bmw1)
  (mrw1:(Vq Cw1::bmw1).contains (.ref Cw0)=true)
  (qw2:dz K "NoFolk" "NoFolk.__init__" Cw2 fiw2 (inClass uQ 0) bmw2)
  (mrw2:(Vq Cw2::bmw2).contains (.ref Cw0)=true)
  (qw3:dz K "Gone" "Gone.__init__" Cw3 fiw3 (inClass Fz 0) bmw3)
  (mrw3:(Vq Cw3::bmw3).contains (.ref Cw0)=true)
  (qw4:dz K "NoPledge" "NoPledge.__init__" Cw4 fiw4 (inClass oM 0) bmw4)
  (mrw4:(Vq Cw4::bmw4).contains (.ref Cw0)=true)
  (qw5:dz K "Bound" "Bound.__init__" Cw5 fiw5 (inClass Af 0) bmw5)
  (mrw5:(Vq Cw5::bmw5).contains (.ref Cw0)=true)
  (qw8:dz K "Full" "Full.__init__" Cw8 fiw8 (inClass G7 0) bmw8)
  (mrw8:(Vq Cw8::bmw8).contains (.ref Cw0)=true)
  (qw7:dz K "BadRise" "BadRise.__init__" Cw7 fiw7 (inClass su 0) bmw7)
  (mrw7:(Vq Cw7::bmw7).contains (.ref Cw0)=true)
  (qw6:dz K "NotDue" "NotDue.__init__" Cw6 fiw6 (inClass vV 0) bmw6)
  (mrw6:(Vq Cw6::bmw6).contains (.ref Cw0)=true)
  (qw9:dz K "NothingLeft" "NothingLeft.__init__" Cw9 fiw9 (inClass ji 0) bmw9)
  (mrw9:(Vq Cw9::bmw9).contains (.ref Cw0)=true)
  (qw10:ju K "Stand" Cw10)
  (UE:Y5 K (.ref Cw10) "green" = some none)
  (UD:Y5 K (.ref Cw10) "gone" = some none)
  (UF:Y5 K (.ref Cw10) "standing" = some none)
  (UC:Y5 K (.ref Cw10) "coming" = some none)
  (UX:bO K Cw10 "__init__" "Stand.__init__" jz TW)
  (qw11:ju K "Boon" Cw11)
  (UB:Y5 K (.ref Cw11) "now" = some none)
  (UA:Y5 K (.ref Cw11) "behind" = some none)
  (Uf:Y5 K (.ref Cw11) "ahead" = some none)
  (UN:bO K Cw11 "__init__" "Boon.__init__" lr TD)
  (UK:bO K Cw11 "go_on" "Boon.go_on" jB TB)
  (UI:bO K Cw11 "come" "Boon.come" mz Ty)
  (UO:bO K Cw11 "leave" "Boon.leave" jN TH)
  (UP:bO K Cw11 "pledge" "Boon.pledge" iZ TK)
  (UH:bO K Cw11 "change" "Boon.change" jo Tx)
  (UV:bO K Cw11 "withdraw" "Boon.withdraw" fO TU)
  (UM:bO K Cw11 "hand" "Boon.hand" mL TC)
  (US:bO K Cw11 "undo" "Boon.undo" lW TN)
  (UQ:bO K Cw11 "redo" "Boon.redo" mQ TL)
  (UU:bO K Cw11 "undoable" "Boon.undoable" f9 TR)
  (UR:bO K Cw11 "redoable" "Boon.redoable" gk TM)
  (ne_Boonw10:Cw11≠Cw10)
  (qq1:HasDef K "is_number" mD fq1)
  (qq2:HasDef K "is_crowd" oV fq2)
  (qq3:HasDef K "are_parts" lH fq3)
  (qq4:HasDef K "is_term_within" eZ fq4)
  (qq5:HasDef K "is_term" sI fq5)
  (qq6:HasDef K "all_hold" nQ fq6)
  (qq7:HasDef K "any_holds" mF fq7)
  (qq8:HasDef K "holds" zy fq8)
  (qq9:HasDef K "mentions" o9 fq9)
  (qq10:HasDef K "named" zr fq10)
  (qq11:HasDef K "is_rung" qM fq11)
  (qq12:HasDef K "is_pledge" lY fq12)
  (qq13:HasDef K "owes" FQ fq13)
  (qq14:HasDef K "check_there" jr fq14)
  (qq15:HasDef K "owed_of" tD fq15)
  (qq16:HasDef K "pledger_of" jR fq16)
  (qq17:HasDef K "check_pledge" iC fq17)
  (qq18:HasDef K "pledged_anew" gZ fq18)
  (qq19:HasDef K "handed_in" lX fq19)
  (qq20:HasDef K "folk" G5 fq20)
  (qq21:HasDef K "there" zP fq21)
  (qq22:HasDef K "green" zj fq22)
  (qq23:HasDef K "pledges" sW fq23)
  (qq24:HasDef K "coming" vM fq24)
  (qq25:HasDef K "_law_cell" oF fq25)
  (qq26:HasDef K "_law_draws" mK fq26)
  (qq27:HasDef K "_law_under" lD fq27)
  (qq28:HasDef K "_law_crowd" lG fq28)
  (qq29:HasDef K "_law_term" oG fq29)
  (qq30:HasDef K "_law_renamed" jq fq30)
  (qq31:HasDef K "_law_mine" ou fq31)
  (qq32:HasDef K "_law_pledge" jE fq32)
  (qq33:HasDef K "_law_named" kZ fq33)
  (qq34:HasDef K "_law_holds" lO fq34)
  (qq35:HasDef K "_law_owes" oJ fq35)
  (qq36:HasDef K "_law_owed" ph fq36)
  (qq37:HasDef K "_law_listed" jJ fq37)
  (qq38:HasDef K "_law_missing" jf fq38)
  (qq39:HasDef K "_law_good" nZ fq39)
  (qq40:HasDef K "_law_bound" lC fq40)
  (qq41:HasDef K "_law_green" mj fq41)
  (qq42:HasDef K "_law_rises_refusal" dH fq42)
  (qq43:HasDef K "_law_table_with" eY fq43)
  (qq44:HasDef K "_law_refusal" jh fq44)
  (qq45:HasDef K "_law_after" mH fq45)
  (qq46:HasDef K "_law_value" lV fq46)
  (qq47:HasDef K "_law_step_by_step" dW fq47)
  (qq48:HasDef K "_law_roof" nH fq48)
  (qq49:HasDef K "_law_who" sy fq49)
  (qq50:HasDef K "_law_book_of" jk fq50)
  (qq51:HasDef K "_law_rises" lL fq51)
  (qq52:HasDef K "_law_deed" nW fq52)
  (qq53:HasDef K "_law_do" qx fq53)
  (qq54:HasDef K "_law_turn" pA fq54)
  (qq55:HasDef K "_law_word_due" iB fq55)
  (qq56:HasDef K "_law_word" fM fq56)
  (qq57:HasDef K "_law_same" oA fq57)
  (qq58:HasDef K "_law_stands" jP fq58)
  (qq59:HasDef K "_law_side" oO fq59)
  (qq60:HasDef K "_law_any_deed" gU fq60)
  (qq61:lB K "_law_played" jy fq61 cLaw 718)
  (qq62:HasDef K "_law_plain_deed" fc fq62)
  (qq63:HasDef K "law" Pa fq63)
  (U1:Xr K Vu "MOST_FOLK" = some (some (.int 12 kMFO)))
  (VI:Xr K Vu "MOST_STEP" = some (some (.int 9 kMST)))
  (VO:Xr K Vu "MOST_SUM" = some (some (.int 99 kMSU)))
  (UZ:Xr K Vu "MOST_DEPTH" = some (some (.int 4 kMDE)))
  (UY:Xr K Vu "FEWEST_PARTS" = some (some (.int 2 kFPA)))
  (U2:Xr K Vu "MOST_PARTS" = some (some (.int 6 kMPA)))
  (VC:Xr K Vu "MOST_RUNGS" = some (some (.int 9 kMRU)))
  (VA:Xr K Vu "MOST_PLEDGES" = some (some (.int 40 kMPL)))
  (z_len:Xr K Vu "len" = some none)
  (z_range:Xr K Vu "range" = some none)
  (z_all:Xr K Vu "all" = some none)
  (z_isinstance:Xr K Vu "isinstance" = some none)
  (z_int:Xr K Vu "int" = some none)
  (z_bool:Xr K Vu "bool" = some none)
  (z_str:Xr K Vu "str" = some none)
  (z_list:Xr K Vu "list" = some none)
  (z_tuple:Xr K Vu "tuple" = some none)
  (z_abs:Xr K Vu "abs" = some none)
  (z_max:Xr K Vu "max" = some none)
  (z_min:Xr K Vu "min" = some none)
  (z_sum:Xr K Vu "sum" = some none)
  (z_sorted:Xr K Vu "sorted" = some none)
  (z_zip:Xr K Vu "zip" = some none)
  (z_reversed:Xr K Vu "reversed" = some none)
  (z_divmod:Xr K Vu "divmod" = some none)
  (z_set:Xr K Vu "set" = some none)
  (z_any:Xr K Vu "any" = some none)
  (z_enumerate:Xr K Vu "enumerate" = some none)
  (z_ValueError:Xr K Vu "ValueError" = some none)
  (z_dict:Xr K Vu "dict" = some none)
  : ∃ (fd:Wh) (c:Addr),W.codeHdIn K c 718=true/\(∀ (s:U8) (v:Value),aaU s fd ⟨[v],[]⟩ [("_law_script",v)])/\∀ base:Wg,K.In base->base.Ns Vu mg->Eg mg c 718 base->aZ l.prog w K mg base CX0 20 fa fd ZE (Kg K 718):=by
 have e:=hfa.symm.trans (qq63.name X G);cases e;have B:Bt mg:=⟨Wm X G z_len,Wm X G z_range,Wm X G z_all,Wm X G z_isinstance,Wm X G z_int,Wm X G z_bool,Wm X G z_str,Wm X G z_list,Wm X G z_tuple,Wm X G z_abs,Wm X G z_max,Wm X G z_min,Wm X G z_sum,Wm X G z_sorted,Wm X G z_zip,Wm X G z_reversed,Wm X G z_divmod,Wm X G z_set,Wm X G z_any,Wm X G z_enumerate⟩;have Ta:=abh X G U1;have To:=abh X G VI;have Ts:=abh X G VO;have S4:=abh X G UZ;have S3:=abh X G UY;have Tb:=abh X G U2;have Tl:=abh X G VC;have Tk:=abh X G VA;have c_dict:=Wm X G z_dict;obtain⟨_,Fq63,bq63⟩:=qq63.law (y:="_law_script") fun _ _ _ _ _ _ s v=>.of_eq U;refine⟨_,cLaw,qq61.hd,bq63,fun base _ _ HP=>?_⟩;have mw0:=qw0.name X G;obtain⟨_,Fiw0⟩:=qw0.fn;have biw0:=Fiw0.binds (ps:=Zp) fun _ _ _ _ _ _ us hl=>by obtain⟨x0,x1,rfl⟩:=Tr hl;rfl
 have z_V:=Wm X G z_ValueError;have Ow0:qU K Cw0 mc "__init__" fiw0:=⟨xga,xrd,xfd,qw0.kp,U⟩;have FB:=JR (P:=l.prog) (w:=w) (mg:=mg) (base:=base) Fiw0 z_V;have Rw1:=qw1.xrd qw0 mrw1;have Xw1:=uW qw1 X G bind1 fun _ F=>HQ mw0 Ow0 FB biw0 F;have Rw2:=qw2.xrd qw0 mrw2;have Xw2:=uW qw2 X G bind1 fun _ F=>HW mw0 Ow0 FB biw0 F;have Rw3:=qw3.xrd qw0 mrw3;have Xw3:=uW qw3 X G bind1 fun _ F=>Hg mw0 Ow0 FB biw0 F;have Rw4:=qw4.xrd qw0 mrw4;have Xw4:=uW qw4 X G bind1 fun _ F=>Gv mw0 Ow0 FB biw0 F;have Rw5:=qw5.xrd qw0 mrw5;have Xw5:=uW qw5 X G bind1 fun _ F=>HF mw0 Ow0 FB biw0 F;have Rw8:=qw8.xrd qw0 mrw8;have Xw8:=uW qw8 X G bind1 fun _ F=>Fw mw0 Ow0 FB biw0 F;have Rw7:=qw7.xrd qw0 mrw7;have Xw7:=uW qw7 X G bind1 fun _ F=>Fg mw0 Ow0 FB biw0 F;have Rw6:=qw6.xrd qw0 mrw6;have Xw6:=uW qw6 X G bind1 fun _ F=>Gb mw0 Ow0 FB biw0 F;have Rw9:=qw9.xrd qw0 mrw9;have Xw9:=uW qw9 X G bind1 fun _ F=>IW mw0 Ow0 FB biw0 F;have dd:=fun {x:VB} {st:Stmt} {f:Addr} {ps:DF} {sp:Sp} {k:Nat} (q:HasDef K x st f)=>q.df (P:=l.prog) (w:=w) (mg:=mg) (base:=base) (ps:=ps) (sp:=sp) (k:=k) X G;have dx:=fun {x:VB} {st:Stmt} {f:Addr} {ps:DF} {sp:Sp} {k:Nat} (q:HasDef K x st f)=>q.dx (P:=l.prog) (w:=w) (mg:=mg) (base:=base) (ps:=ps) (sp:=sp) (k:=k) X G;have dmx:=fun {x m q:VB} {C:Addr} {st:Stmt} {f:Addr} {ps:DF} {sp:Sp} {k:Nat} (o:bO K C m q st f) (c:ju K x C)=>o.dmx (P:=l.prog) (w:=w) (mg:=mg) (base:=base) (ps:=ps) (sp:=sp) (k:=k) c;have dm:=fun {x m q:VB} {C:Addr} {st:Stmt} {f:Addr} {ps:DF} {sp:Sp} {k:Nat} (o:bO K C m q st f) (c:ju K x C)=>o.dm (P:=l.prog) (w:=w) (mg:=mg) (base:=base) (ps:=ps) (sp:=sp) (k:=k) c;have S:xK K Cw10:=⟨qw10.cl,UE,UD,UF,UC⟩;have T:vX K Cw11:=⟨qw11.cl,UB,UA,Uf⟩;have ne:=ne_Boonw10
 let xa:XA:=⟨Cw2,Cw3,Cw1,Cw8,Cw4,Cw5,Cw6,Cw7,Cw9⟩
 have RX:∀ w:VB,XRd K (xa.of w) Cw0 "word":=fun w=>by unfold XA.of;(repeat' split) <;> first | exact Rw2 | exact Rw3 | exact Rw1 | exact Rw8 | exact Rw6 | exact Rw7 | exact Rw4 | exact Rw5 | exact Rw9
 have Dq26:=dd qq26 bJ fun _ F=>xU F B;have Dq27:=dd qq27 bJ fun _ F=>xq F B;have Dq28:=dd qq28 bJ fun _ F=>yr F B;have T0:Df l.prog w K mg base "_law_term" 1 VU (uq 0):=dd qq29 Ar fun _ _=>term_none;have T1:=dd qq29 Ar fun _ F=>mO F B Dq26 Dq27 Dq28 T0;have T2:=dd qq29 Ar fun _ F=>mO F B Dq26 Dq27 Dq28 T1;have T3:=dd qq29 Ar fun _ F=>mO F B Dq26 Dq27 Dq28 T2;have R0:Df l.prog w K mg base "_law_renamed" 0 WV (CV K 0):=dd qq30 bJ fun _ _=>KQ;have R1:=dd qq30 bJ fun _ F=>iu F B R0;have R2:=dd qq30 bJ fun _ F=>iu F B R1;have R3:=dd qq30 bJ fun _ F=>iu F B R2;have Dq31:=dd qq31 OD fun _ F=>zA F B T3 R3;have Dq32:=dd qq32 OD fun _ F=>uV F B Dq26 Dq27 Dq28 Dq31;have S0:Df l.prog w K mg base "_law_same" 0 XI (pM 0):=dd qq57 bJ fun _ _=>same_none;have SN:∀ n,Df l.prog w K mg base "_law_same" n XI (pM n):=fun n=>by induction n with | zero=>exact S0 | succ n S=>exact dd qq57 bJ fun _ F=>An F B S
 have H0:Df l.prog w K mg base "holds" 0 YR (dZ K 0):=dd qq8 bJ fun _ _=>Dk;have A1:=dd qq6 bJ fun _ F=>jb F B H0;have Y1:=dd qq7 bJ fun _ F=>gB F B H0;have H1:=dd qq8 bJ fun _ F=>qI F B A1 Y1;have A2:=dd qq6 bJ fun _ F=>jb F B H1;have Y2:=dd qq7 bJ fun _ F=>gB F B H1;have H2:=dd qq8 bJ fun _ F=>qI F B A2 Y2;have A3:=dd qq6 bJ fun _ F=>jb F B H2;have Y3:=dd qq7 bJ fun _ F=>gB F B H2;have H3:=dd qq8 bJ fun _ F=>qI F B A3 Y3;have A4:=dd qq6 bJ fun _ F=>jb F B H3;have Y4:=dd qq7 bJ fun _ F=>gB F B H3;have H4:=dd qq8 bJ fun _ F=>qI F B A4 Y4;have Dq13:=dd qq13 bJ fun _ F=>Pg F B H4;have L0:Df l.prog w K mg base "_law_holds" 0 WI (dZ K 0):=dd qq34 bJ fun _ _=>Ak;have L1:=dd qq34 bJ fun _ F=>gK F B L0;have L2:=dd qq34 bJ fun _ F=>gK F B L1;have L3:=dd qq34 bJ fun _ F=>gK F B L2;have L4:=dd qq34 bJ fun _ F=>gK F B L3;have Dq35:=dd qq35 bJ fun _ F=>zH F B L4;have Dq36:=dd qq36 bJ fun _ F=>zp F B Dq35;have Dq1:=dd qq1 fj fun _ F=>v7 F B;have Dq2:=dd qq2 fj fun _ F=>Ah F B Dq1;have W0:Df l.prog w K mg base "is_term_within" 1 X0 (j7 0):=dd qq4 fj fun _ _=>zb;have P0:=dd qq3 fj fun _ F=>gJ F B S3 Tb (by decide) Dq1 W0;have W1:=dd qq4 fj fun _ F=>dw F B To Ts Ta (by decide) Dq1 Dq2 P0;have P1:=dd qq3 fj fun _ F=>gJ F B S3 Tb (by decide) Dq1 W1;have W2:=dd qq4 fj fun _ F=>dw F B To Ts Ta (by decide) Dq1 Dq2 P1;have P2:=dd qq3 fj fun _ F=>gJ F B S3 Tb (by decide) Dq1 W2;have W3:=dd qq4 fj fun _ F=>dw F B To Ts Ta (by decide) Dq1 Dq2 P2;have P3:=dd qq3 fj fun _ F=>gJ F B S3 Tb (by decide) Dq1 W3;have W4:=dd qq4 fj fun _ F=>dw F B To Ts Ta (by decide) Dq1 Dq2 P3;have Dq5:=dd qq5 bJ fun _ F=>DQ F B S4 W4;have M0:Df l.prog w K mg base "mentions" 0 ZT (jG 0):=dd qq9 bind1 fun _ _=>yD;have M1:=dd qq9 bind1 fun _ F=>jd F B M0;have M2:=dd qq9 bind1 fun _ F=>jd F B M1;have M3:=dd qq9 bind1 fun _ F=>jd F B M2;have M4:=dd qq9 bind1 fun _ F=>jd F B M3;have Dq10:=dd qq10 bind1 fun _ F=>Jx F B M4;have N0:Df l.prog w K mg base "_law_named" 0 YN (jG 0):=dd qq33 bind1 fun _ _=>yD;have N1:=dd qq33 bind1 fun _ F=>gC F B N0;have N2:=dd qq33 bind1 fun _ F=>gC F B N1;have N3:=dd qq33 bind1 fun _ F=>gC F B N2;have N4:=dd qq33 bind1 fun _ F=>gC F B N3;have Dq11:=dd qq11 Ar fun _ F=>Ei F B To (by decide) Dq1 Dq5 Dq10;have Dq12:=dd qq12 fj fun _ F=>yC F B Tl (by decide) Dq1 Dq11;have Dw10:=UX.dk (P:=l.prog) (w:=w) (base:=base) (ps:=VX) qw10 X G OD fun _ F=>vD F S;have Dw11:=UN.dk (P:=l.prog) (w:=w) (base:=base) (ps:=ZO) qw11 X G bind1 fun _ F=>uG F T Dw10;have OW:=dm (ps:=YY) UK qw11 bJ fun _ F=>t7 F T;have SG:=dmx (ps:=ZO) UI qw11 bind1 fun _ F=>tX ne F B S T Ta Dw10 OW Xw8;have Sz:=dx qq14 bJ fun _ F=>qt F B S Dq1 Xw2 Xw3;have Sr:=dx qq17 fj fun _ F=>o8 (by decide) F B S Dq12 Xw1;have SK:=dmx (ps:=X1) UP qw11 fj fun _ F=>qd (x:=xa) (by decide) ne F B S T Tk Sz Sr Dw10 OW Xw8;have SI:=dmx (ps:=ZH) UO qw11 bJ fun _ F=>qN (x:=xa) ne F B S T Sz Dw10 OW;have Dq15:=dd qq15 fj fun _ F=>Dq F B Dq13;have SC:=dx qq16 bJ fun _ F=>rD (x:=xa) F B S Dq1 Xw4;have SB:=dx qq18 fj fun _ F=>iM (x:=xa) (by decide) F B S Dq15 Dw10 Xw5;have So:=dx qq18 fj fun _ F=>(iM (x:=xa) (by decide) F B S Dq15 Dw10 Xw5).mono (show 11<=13 by decide);have SE:=dmx (ps:=XE) UH qw11 fj fun _ F=>pY (x:=xa) (by decide) ne F B S T SC Sr So OW;have SR:=dmx (ps:=YV) UV qw11 bJ fun _ F=>(mV (x:=xa) (by decide) ne F B S T SC SB OW).mono (show 12<=14 by decide);have SA:=dx qq19 bJ fun _ F=>tZ (x:=xa) (by decide) F B S To Sz Dq1 Dq15 Dw10 Xw7 Xw6;have SH:=dmx (ps:=Zl) UM qw11 bJ fun _ F=>(tY (x:=xa) (by decide) ne F B T SA OW).mono (show 12<=14 by decide);have Dq20:=dd qq20 bind1 fun _ F=>O1 F B S T;have Dq22:=dd qq22 bind1 fun _ F=>Jq F B S T;have Dq21:=dd qq21 bind1 fun _ F=>vh F B S T Dq20;have Dq23:=dd qq23 bind1 fun _ F=>Ai F B S T;have Dq24:=dd qq24 bind1 fun _ F=>Hm F B S T;have Dq38:=dd qq38 bJ fun _ F=>tQ F B;have Dq37:=dd qq37 bJ fun _ F=>uL F B;have Dq39:=dd qq39 fj fun _ F=>yW F B N4;have Dq41:=dd qq41 bJ fun _ F=>yL F B;have Dq42:=dd qq42 bJ fun _ F=>kh (by decide) F B Dq38 Dq41 Dq37 Dq36;have Dq40:=dd qq40 fj fun _ F=>yI (by decide) F B Dq37 Dq36;have Dq43:=dd qq43 bJ fun _ F=>o6 F B c_dict;have Dq44:=dd qq44 bJ fun _ F=>tW (by decide) F B Dq38 Dq39 Dq42 Dq40 Dq43;have Dq46:=dd qq46 bJ fun _ F=>xJ F B;have Dq45:=dd qq45 bJ fun _ F=>wU F B c_dict Dq41 Dq43;have SO:=dmx (ps:=ZO) US qw11 bind1 fun _ F=>xZ (x:=xa) F B T Xw9;have SL:=dmx (ps:=ZO) UQ qw11 bind1 fun _ F=>wF (x:=xa) F B T Xw9;have OY:=dm (ps:=ZO) UU qw11 bind1 fun _ F=>pU F B T;have OX:=dm (ps:=ZO) UR qw11 bind1 fun _ F=>pR F B T;have Dq53:=dx qq53 bJ fun _ F=>Dc ne (Il (x:=xa) (by decide) F B SG SI SK SE SR SH) (Ew (x:=xa) (by decide) F B SO SL);have Dq58:=dd qq58 bJ fun _ F=>vR F B Dq20 Dq21 Dq22 Dq23 Dq24 (SN 14);have Dq49:=dd qq49 bJ fun _ F=>Dt F B;have Dq50:=dd qq50 bind1 fun _ F=>tM F B Dq37;have Dq47:=dd qq47 fj fun _ F=>lK F B Dq36;have Dq48:=dd qq48 bJ fun _ F=>zT F B;have Dq51:=dd qq51 bJ fun _ F=>wg (by decide) F B Dq26 Dq50 Dq36 Dq47 Dq48 Dq49;have Dq52:=dd qq52 fj fun _ F=>Av (by decide) F B Dq26 Dq49 Dq51 Dq27 Dq32;obtain⟨_,Fq56⟩:=qq56.fn;have mq56:=qq56.name X G;have Dq25:=dd qq25 bJ fun _ F=>zg F B;have Dq59:=dd qq59 fj fun _ F=>yU F B Dq26;have Dq60:=dd qq60 fj fun _ F=>rG (by decide) F B Dq59 Dq52;have Dq55:=dd qq55 fj fun _ F=>sJ (by decide) F B Dq44;have Dq54:=dd qq54 Ar fun _ F=>yV F B Dq45;have Dq62:=dd qq62 bJ fun _ F=>pB F B;have Dq61:=qq61.df (P:=l.prog) (w:=w) (base:=base) (ps:=VT) X G Ar fun _ F=>vI (x:=xa) F B HP mw0 RX Fq56 mq56 Dq55 Dq46 Dq53 Dq54 OY OX Dq58 (SN 3);exact PN Fq63 B Dw11 Dq25 Dq59 Dq62 Dq60 Dq61
def walk {l:W.OpenLaw}{q:Vt}{loose:DF}{XP:(VB->C5)->Wg->Prop}{YP:V2->Wg->Prop}{d:DefRec}{K:Params->VG}(hn:l.most=some 63)(hdf:d.params.defaults=[])
  (hY:∀ (w:V2) (h:Wg),YP w h->(K w.params).In h/\h.get? 718=some (W.tabObj #[])) (hno:∀ w:V2,W.noTabs (K w.params)=true)
  (F:∀ (w:V2) (mg:VB->C5) (fa:Addr) (h:Wg),(K w.params).In h->h.Ns Vu mg->mg d.name=some (.ref fa)->∃ (fd:Wh) (c:Addr),W.codeHdIn (K w.params) c 718=true/\(∀ (s:U8) (u:Value),aaU s fd ⟨[u],[]⟩ [("_law_script",u)]) ∧
   ∀ base:Wg,(K w.params).In base->base.Ns Vu mg->Eg mg c 718 base->aZ l.prog w (K w.params) mg base CX0 20 fa fd ZE (Kg (K w.params) 718)) :
  W.WalkO q loose XP YP l.row.toRowW d [] (fun f vs=>PySem.call f vs) :=
 L2.J4 (n:=63) (k:=20) (x:="_law_script") (q:=Pk) (T:=718) (sp:=fun w=>Kg (K w.params) 718) hn (by decide) hdf ⟨U,by decide,by decide⟩ hY hno F fun _ _ a ns hl hT hS=>⟨a,ns,U,hS,hl,hT,fun _=>U⟩
end My
end
open PySem PySem.W PyProof.Rows
namespace PySem.Challenge.cw_loveboon_k36_whole_deeds_undone_and_redo_holds
def X:=trivial
def tw2167130097924398138:=X
def tw17640586629680522195:=X
def tw11282869429581868858:=X
def tw5533060613378598351:=X
def tw13556029377533258813:=X
def tw4169067268589628821:=X
def tw5339013461450473398:=X
def tw7509376899588404714:=X
def tw15393933469882543348:=X
def tw11685893869003703:=X
def tw14160516356762813160:=X
def tw6422230810738541184:=X
def tw9934923893240502414:=X
def tw5110899485333763824:=X
def tw3656116952710942068:=X
def tw5915249762255086541:=X
def tw15807602659503177726:=X
def tw15609371134369906850:=X
def tw6818040812953707259:=X
def tw18303241747633595262:=X
def tw1694848271238260906:=X
def tw9791697450099126333:=X
def tw7179298959401016364:=X
def tw18294244205807918633:=X
def tw10511735210358424018:=X
def tw16913413811580817171:=X
def tw14692237100764029027:=X
def tw17183799076055307188:=X
def tw11799603738785086882:=X
def tw932694435676470071:=X
def tw13818909431274716255:=X
def tw11335276255420553987:=X
def tw16823474122697956135:=X
def tw3998523477739952987:=X
def tw16585498358984762071:=X
def tw15710169406164020439:=X
def tw14659913363105165583:=X
def tw6471810682618426718:=X
def tw7246270817719132538:=X
def tw12199250141231456032:=X
def tw9480665381357726160:=X
def tw17465585349962295989:=X
def tw6095237698944651141:=X
def tw8770855268230171391:=X
def tw3896269408300745008:=X
def tw12234698401199742025:=X
def tw14966842624402930607:=X
def tw5141739833235483976:=X
def tw7183286087855741032:=X
def tw18004627923007116510:=X
def tw8690104544906737685:=X
def tw11620845536070551460:=X
def tw1865134781347408116:=X
def tw10068432823349510468:=X
def tw7509699211346260133:=X
def tw16047736621420083044:=X
def tw11874709915500365772:=X
def tw4160985847124138651:=X
def tw4110081104359217899:=X
def tw8822249114947378668:=X
def tw6665774263089057488:=X
def tw5866040644145013288:=X
def tw13623457307741173581:=X
def tw4592270685292709410:=X
def tw2044124301556185375:=X
def tw17673202520354975883:=X
def tw95366046779308263:=X
def tw7012355734314600929:=X
def tw15550612352899275615:=X
def tw9944131096949117093:=X
def tw1892832046060369472:=X
def tw6003483248406026541:=X
def tw2112278101873251605:=X
def tw7488698849393491288:=X
def tw4833040040315365110:=X
def tw16179117241952076530:=X
def tw14743634653960472870:=X
def tw18406338421400836813:=X
def tw336004027603339004:=X
def tw17266202724262177479:=X
def tw17677830242823096455:=X
def tw17275594852110468894:=X
def tw10273843271609566301:=X
def tw768476423668234612:=X
def tw8214245394652861857:=X
def tw16220012059837973808:=X
def tw14232638187568998552:=X
def tw16904139613502100218:=X
def tw13284933517279509725:=X
def tw6424308932742920816:=X
def tw7422791631134601930:=X
def tw10082257857320145617:=X
def tw17350798387543075225:=X
def tw5364573595245637929:=X
def tw13266712426584726811:=X
def tw7531157407635369479:=X
def tw8882864606074163469:=X
def tw5637782069867704411:=X
def tw3364631266019416391:=X
def tw5329035961124384828:=X
def tw13297571980790755918:=X
def tw5828748326450516037:=X
def tw10706246636778672321:=X
def tw13901348669026794357:=X
def tw11387344232291921329:=X
def tw42937291391869768:=X
def tw6538409927345815349:=X
def tw13206725160133778736:=X
def tw15709534600508857818:=X
def tw9192427765968590159:=X
def tw445590497460827871:=X
def tw5991376805870240537:=X
def tw5512997371553162353:=X
def tw63058890756657416:=X
def tw15149000379243059829:=X
def tw404510455530277617:=X
def tw10476329331320882818:=X
def tw14211896220192343065:=X
def tw15229581746433781968:=X
def tw17537179439097018067:=X
def tw10641296265798473437:=X
def tw5599735767455278584:=X
def tw4483486535229404858:=X
def tw16729995133982219944:=X
def tw11646118036103989490:=X
def tw11862708250739195150:=X
def tw10661958063622932876:=X
def tw9161621475702045052:=X
def tw9463807999854474339:=X
def tw7156373543709052424:=X
def tw15006349198897193854:=X
def tw14697707405038734512:=X
def tw1989086456455748596:=X
def tw12380537047620055343:=X
def tw16953705397957760111:=X
def tw7529754031104851226:=X
def tw9697859028990621375:=X
def tw3556103088996538100:=X
def tw684303280814115596:=X
def tw8844377181662901567:=X
def tw3731735077162951794:=X
def tw12365193938249662082:=X
def tw6164779253282457286:=X
def tw6883942345488124179:=X
def tw9277708239793847962:=X
def tw7137824354461355805:=X
def tw8325974410943871838:=X
def tw2647643953580951315:=X
def tw12061947962314635591:=X
def tw5906068234048500952:=X
def tw2523122161777510867:=X
def tw4927054308519714676:=X
def tw14322740256980336325:=X
def tw10236537886856609353:=X
def tw12238949302519544419:=X
def tw14099769912781516386:=X
def tw12440913731658528535:=X
def tw2184131126811953651:=X
def tw14982108890811290677:=X
def tw10190695698688223965:=X
def tw7682273811666766457:=X
end PySem.Challenge.cw_loveboon_k36_whole_deeds_undone_and_redo_holds
set_option maxRecDepth 100000 in
set_option maxHeartbeats 0 in
theorem PySem.Challenge.cw_loveboon_k36_whole_deeds_undone_and_redo_holds : PySem.Challenge.rw_loveboon_k36_whole_deeds_undone_and_redo.Holds := by
 w_on;o_law;k_head;(case hw=>w_witness2)
 k_fill
 refine My.walk (l:=PySem.Challenge.rw_loveboon_k36_whole_deeds_undone_and_redo) U U (fun w h Y=>⟨W.km_in_of Y,W.km_tabs_of Y 718 (by simp)⟩) (fun w=>by kernel_rfl) ?F
 case F =>
  intro w mg fa h KX G hmg
  refine' My.all_mk KX G hmg ?qw0 ?xga ?xty ?xrd ?xfd ?qw1 ?mrw1 ?qw2 ?mrw2 ?qw3 ?mrw3 ?qw4 ?mrw4 ?qw5 ?mrw5 ?qw8 ?mrw8 ?qw7 ?mrw7 ?qw6 ?mrw6 ?qw9 ?mrw9 ?qw10 ?UE ?UD ?UF ?UC ?UX ?qw11 ?UB ?UA ?Uf ?UN ?UK ?UI ?UO ?UP ?UH ?UV ?UM ?US ?UQ ?UU ?UR ?ne_Boonw10 ?qq1 ?qq2 ?qq3 ?qq4 ?qq5 ?qq6 ?qq7 ?qq8 ?qq9 ?qq10 ?qq11 ?qq12 ?qq13 ?qq14 ?qq15 ?qq16 ?qq17 ?qq18 ?qq19 ?qq20 ?qq21 ?qq22 ?qq23 ?qq24 ?qq25 ?qq26 ?qq27 ?qq28 ?qq29 ?qq30 ?qq31 ?qq32 ?qq33 ?qq34 ?qq35 ?qq36 ?qq37 ?qq38 ?qq39 ?qq40 ?qq41 ?qq42 ?qq43 ?qq44 ?qq45 ?qq46 ?qq47 ?qq48 ?qq49 ?qq50 ?qq51 ?qq52 ?qq53 ?qq54 ?qq55 ?qq56 ?qq57 ?qq58 ?qq59 ?qq60 ?qq61 ?qq62 ?qq63 ?U1 ?VI ?VO ?UZ ?UY ?U2 ?VC ?VA ?z_len ?z_range ?z_all ?z_isinstance ?z_int ?z_bool ?z_str ?z_list ?z_tuple ?z_abs ?z_max ?z_min ?z_sum ?z_sorted ?z_zip ?z_reversed ?z_divmod ?z_set ?z_any ?z_enumerate ?z_ValueError ?z_dict
  (case qw0=>apply L2.dz.mk <;> first | exact⟨rfl,rfl,rfl,rfl⟩ | k_is | rfl)
  (case xga|xty|xrd|xfd=>k_is)
  (case qw1=>apply L2.dz.mk <;> first | exact⟨rfl,rfl,rfl,rfl⟩ | k_is | rfl)
  (case mrw1=>rfl)
  (case qw2=>apply L2.dz.mk <;> first | exact⟨rfl,rfl,rfl,rfl⟩ | k_is | rfl)
  (case mrw2=>rfl)
  (case qw3=>apply L2.dz.mk <;> first | exact⟨rfl,rfl,rfl,rfl⟩ | k_is | rfl)
  (case mrw3=>rfl)
  (case qw4=>apply L2.dz.mk <;> first | exact⟨rfl,rfl,rfl,rfl⟩ | k_is | rfl)
  (case mrw4=>rfl)
  (case qw5=>apply L2.dz.mk <;> first | exact⟨rfl,rfl,rfl,rfl⟩ | k_is | rfl)
  (case mrw5=>rfl)
  (case qw8=>apply L2.dz.mk <;> first | exact⟨rfl,rfl,rfl,rfl⟩ | k_is | rfl)
  (case mrw8=>rfl)
  (case qw7=>apply L2.dz.mk <;> first | exact⟨rfl,rfl,rfl,rfl⟩ | k_is | rfl)
  (case mrw7=>rfl)
  (case qw6=>apply L2.dz.mk <;> first | exact⟨rfl,rfl,rfl,rfl⟩ | k_is | rfl)
  (case mrw6=>rfl)
  (case qw9=>apply L2.dz.mk <;> first | exact⟨rfl,rfl,rfl,rfl⟩ | k_is | rfl)
  (case mrw9=>rfl)
  (case qw10=>apply L2.ju.mk <;> k_is)
  (case UE|UD|UF|UC=>k_is)
  (case UX=>apply L2.bO.mk <;> k_is)
  (case qw11=>apply L2.ju.mk <;> k_is)
  (case UB|UA|Uf=>k_is)
  (case UN|UK|UI|UO|UP|UH|UV|UM|US|UQ|UU|UR=>apply L2.bO.mk <;> k_is)
  (case ne_Boonw10=>decide)
  (case qq1|qq2|qq3|qq4|qq5|qq6|qq7|qq8|qq9|qq10|qq11|qq12|qq13|qq14|qq15|qq16|qq17|qq18|qq19|qq20|qq21|qq22|qq23|qq24|qq25|qq26|qq27|qq28|qq29|qq30|qq31|qq32|qq33|qq34|qq35|qq36|qq37|qq38|qq39|qq40|qq41|qq42|qq43|qq44|qq45|qq46|qq47|qq48|qq49|qq50|qq51|qq52|qq53|qq54|qq55|qq56|qq57|qq58|qq59|qq60=>apply L2.HasDef.mk <;> k_is)
  (case qq61=>apply L2.lB.mk <;> first | k_is | kernel_rfl)
  (case qq62|qq63=>apply L2.HasDef.mk <;> k_is)
  (case U1|VI|VO|UZ|UY|U2|VC|VA|z_len|z_range|z_all|z_isinstance|z_int|z_bool|z_str|z_list|z_tuple|z_abs|z_max|z_min|z_sum|z_sorted|z_zip|z_reversed|z_divmod|z_set|z_any|z_enumerate|z_ValueError|z_dict=>k_is)
