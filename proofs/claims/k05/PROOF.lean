import PyProof.Rows.All
import Wide.All
import OpenK.AllK
import Wide.FinOn
import Lean
import PyProof.EqAt
import PyProof.EqKinds
import PyProof.TupleCall
import KE.KStateDown
import PyProof.ExcBaseAll.ValueError
import PyProof.ExcClass3
import PyProof.ExcArgsOwn
import OpenK.Peek
import OpenK.KMake
import OpenK.KDescr
import KE.KIsAll
import OpenK.KOwn
import KE.KNest
import PyProof.ListStr
import PyProof.StrBlock
import KE.KSortTup
import PyProof.Rows.SeqMore2
import PyProof.ListMulRoad
import PyProof.TupleOps
import PySem.Challenge.RW_cranefloor_k05_whole_heights
set_option Elab.async false
set_option linter.all false
set_option maxRecDepth 100000
open Array renaming length_toList→aj,getElem?_toList→bb,toList_append→b_,getElem?_eq_some_iff→cY,getElem?_eq_getElem→dg,forIn_toList→fC,toList_push→hW,toList_extract→iS,toList_inj→kK,toList_reverse→mO,getD_eq_getD_getElem?→sV,mem_of_getElem?→zi
open Bool renaming false_ne_true→az,false_eq_true→aS,and_eq_true→bq,not_true→dz,not_eq_true'→fN,false_and→fV,true_and→gD,and_true→gE,and_eq_false_iff→iC,and_false→jx,eq_iff_iff→lX,or_eq_true→rV
open Classical renaming byContradiction→u6
open False renaming elim→e_
open ForInStep renaming yield→gH
open Int renaming toNat_natCast→cH,emod_lt_of_pos→gS,emod_nonneg→i7,le_refl→rm
open LawfulBEq renaming eq_of_beq→mS
open LawfulMonad renaming pure_bind→qY
open List renaming length_map→ae,getElem?_eq_getElem→ai,length_append→ak,size_toArray→ax,getElem?_eq_some_iff→aA,length_cons→aC,getElem?_map→aD,mem_singleton→aE,getD_eq_getElem?_getD→aF,append_assoc→aI,mem_iff_getElem→aL,mem_cons→aN,take_append_drop→aO,mem_of_getElem?→aP,getElem_mem→aQ,getElem_map→aR,length_take→aT,map_cons→aW,mem_map→aX,length_drop→aZ,mem_append→bh,append_nil→bj,length_set→bo,getElem?_eq_none→br,map_append→bu,pairwise_append→bJ,mem_append_right→bK,pairwise_iff_getElem→bM,length_nil→bQ,pairwise_cons→bT,mem_cons_of_mem→bX,mem_cons_self→b8,length_zip→cb,range→cn,perm_append_comm→cv,flatten_cons→cy,all_eq_true→cD,forIn_cons→cP,length_range→cW,take_of_length_le→c0,getElem_drop→c6,take_length→dq,getElem?_set→dE,take_add_one→dG,getElem_take→dI,nodup_cons→dM,drop_of_length_le→dZ,not_mem_nil→eA,replicate→eC,getElem?_append_right→eD,zip_cons_cons→eE,getElem?_append_left→eO,mem_append_left→eT,getElem_of_mem→fi,getElem?_cons_succ→fu,length_singleton→fL,ext_getElem?→fM,forIn_nil→fW,mem_of_mem_take→fX,lookup_cons→gq,mem_range→g8,take_zero→hJ,nodup_append→hV,map_map→ie,length_replicate→iB,getElem_zip→iK,mem_of_mem_drop→iT,take_append_of_le_length→iV,filterMap_cons→i_,drop_eq_getElem_cons→jT,extract_eq_take_drop→jU,lookup→jX,length→jY,take_sublist→jZ,drop_sublist→j5,pairwise_map→j6,getElem_inj→kF,cons_append→kJ,toArray→lE,range_succ→lY,getElem?_toArray→l_,nodup_nil→mK,drop_zero→mL,reverse_append→nD,zip_nil_right→oh,getElem?_take→om,zip_nil_left→oR,map_nil→oS,drop_append→qZ,map_snd_zip→q8,drop_append_of_le_length→rk,all_append→rW,getElem?_zip_eq_some→u7,map_drop→wR,getElem?_replicate→wZ,length_eq_zero_iff→w9,pairwise_singleton→w_,getElem?_set_self→yi,getElem?_set_ne→Ar,getElem?_append→Ax,getElem?_range→AH,flatten_append→AI,set_cons_succ→Dy,all_eq_false→DF,perm_middle→Fg,zipIdx_cons→Fi,mem_flatMap→Fj,prefix_refl→Fm,mem_filter→FI,of_mem_zip→FL,foldl_cons→FQ
open List.Pairwise renaming sublist→cK,nil→eW
open List.Perm renaming refl→c5,append_left→dj,trans→i9
open Nat renaming le_refl→aw,ne_of_lt→aM,lt_of_lt_of_le→aY,le_trans→bg,zero_le→bO,ne_of_gt→bY,lt_succ_of_lt→cX,lt_succ_self→eu,lt_irrefl→e9,add_sub_cancel_left→gW,not_lt_zero→i8,le_of_lt→jb,sub_self→jf,lt_of_le_of_lt→jy,mul_le_mul→jC,eq_zero_or_pos→jD,add_assoc→kq,le_of_eq→lx,le_of_not_lt→qW,zero_add→yn,le_of_ble_eq_true→zh,le_succ→As,lt_trichotomy→DG,min_le_right→Ff,le_add_right→Fh,min_eq_left→FT
open Ne renaming symm→mQ
open Option.some renaming inj→aK
open Prod renaming ext_iff→oZ
open PyProof.Rows renaming wpS_bind→aB,wpS_pure→aG,SortSt→bV,pendingOf→bW,wpS_forRange→cQ,slot_tuple_getitem→c_,seqObj→df,wpS_mono→dU,IntsAre→fB,failedOf→f6,get?_update_seq→gJ,step_dedup→iI,SortKind→iU,envOfC→ja,callWith_type1→jd,envOfC→ki,listUpdate_at→kn,AllBare→lu,wpS_get→lC,wpS_modify→lD,wpS_lift→oX,subscriptTail_builtinR→yl
open PyProof.Rows.F renaming plain_set_update_loop→gz
open PySem renaming wpAny_bind→aa,wpAny_pure→af,Shared→ah,starEach→aq,Program→ar,FuncData→aV,wpAny_newObj_type→ba,Around→bp,wpAny_field→bA,wpAny_holding→bD,wpAny_call_entry→bF,wpAny_setField_rec→bS,mainGlobals→b9,swapsWith→cg,compareOp→cj,wpAny_callSpecial?_slot→cm,mem_of_lookup→cq,SetTable→cz,wpAny_mono→cF,Builtin→cG,DictEntry→cJ,bootBuiltins→cU,wpAny_seqItems→cZ,backTo→c9,wpAny_setField→dB,codeAny_builtin→dO,rawInt→dX,behindInMarks→d_,wpAny_ite_split→eS,wpAny_truthy_bool→eU,attributeBase→fb,wpAny_rule→fc,plainId_quiet→fe,intKind→fh,wpAny_isInstance→fv,sizeLine_eq→fy,sysModules→fU,setField→fY,firstArgMember→fZ,wpAny_forIn_list→gj,wpAny_typeOf→gn,wpAny_passesOwn→gF,codeAny→gG,wpAny_specialOf→gI,slotAt→gT,pyNext→g9,foldedSetIterable→g_,wpAny_pyIter_slot→h_,binaryOp→iQ,NameKind→iR,holding→jc,tupleKind→jl,ItemsAre→jz,IsPair→jB,sliceBounds→j0,unsupported→j4,wpAny_dictEntries→j7,wpAny_attempt→kl,wpAny_askSetting→kH,codeAny_mono→lA,richCompare→mI,PassesOwn→mR,assign→n_,wpAny_Call_Name_kw→og,IsPart→oi,wpAny_pyIter_list→oO,callerA→oU,relabel→oV,ofAClassStatement→oW,call_meetsIn→o4,pyIter→qV,newExc→qX,wpAny_typeNameOfWhole_itemiter→q9,keywordEach→rg,wpAny_of_eq→rh,wpAny_letGo→rj,wpAny_typeNameOfWhole_keyiter→rp,wpAny_execs_nil→rS,letOwnedTupleGo→rU,wpAny_dictEpoch→rX,getItem→sU,bindArgs→uQ,call_meets→uS,reduceHash→uT,closureFor→uU,isSubtype_type→uV,isSubtype_stop→uW,wpAny_newTuple→uX,wpAny_typeNameOf_itemiter→u_,wpAny_standAt→wJ,setSearchFrom→wN,wpAny_handled→wO,wpAny_onRaise→wQ,wpAny_typeNameOf_keyiter→wU,concat_meets→yj,wpAny_isOneOf_itemiter→yo,builtinLookup_eq_fast→zj,hashByValue→Aw,wpAny_throw→Az,loadIfAlive→AA,wpAny_updateSeq_pair→AB,wpAny_pyIter_tuple→Dx,wpAny_eqBool_int→Fd,noFill_tuple_add→Fe,wpAny_updateSeq→FP,typeLookup_type→FU,Within→IE
open PySem.Around renaming under_plainId→cS,in1_units→iJ
open PySem.AutoSeq1 renaming wpAny_loadPart'→bf,sub_tuple_tuple→dw,sub_list_list→ym
open PySem.Builtin.Dict renaming showsAll→md
open PySem.Builtin.Dict_items renaming ownsTuple→rY
open PySem.Builtin.List renaming listTooLong→gC,listExtendWith→jg,listSameRef→km
open PySem.Builtin.Slice renaming slicePlaces→jS,sliceAdjust→u4
open PySem.Builtin.SmallTypes renaming nextOf→bE,ownedTupleIsFree→cO
open PySem.Builtin.Tuple renaming tupleHashOf→eP,tupleCompareSizes→iA,tupleExact→kj,tupleItemsOf→uR
open PySem.Calls renaming callWith_builtin→lB,call_function_entry→u9,evalArgs_plain→Au
open PySem.Data renaming seq→Av
open PySem.F renaming plain_extend_loop→dh,called_set→eF,slot_dict_keyiterator_next→gU,plainAttrs_list→gV,slot_tuple_iterator_next→ic,plain_list_iadd→kI,slot_zip_next→lZ,slot_dict_itemiterator_next→nE,slot_tuple_hash→oY,excBase_ValueError→uY,args_tuple_add_2→wK,entry_tuple_add→w8,slot_tuple_add→yk,slot_tuple_lt→zg,slot_tuple_ge→zk
open PySem.Heap renaming get?_push_of_some→ag,get?_push_size→au,lt_size→ay,SameBut→bH,size_push→cM,get?_update_other→cV,get?_update_self→di,get?_none_of_le→Aq,ExtBut→Ay
open PySem.Heap.SameBut renaming update→bG,refl→dH
open PySem.IsTupleKey renaming inj→mM
open PySem.NameKind renaming free→wL
open PySem.Obj renaming mapSeq→cR,mapFields→fI,data_mapFields→jA,isFreed_of_fields→ma
open PySem.PassesOwn renaming never→bt
open PySem.PyData renaming depthAll→c7,canLayAll0→dF,eqvAll→ef,canLay0→hG,eqv→iH,depth→je
open PySem.SetTable renaming insertAt→bR,below→cC,Probe→cN,slot→wM,runEnd→FR
open PySem.SetTable.Met renaming empty→oj
open PySem.SetTable.probe renaming go→eX
open PySem.Shared renaming TypeIs→iN
open PySem.Str renaming ofString→eV
open PySem.Value renaming ref→ao,none→a_,type→cu,bool→dJ,int→fH,isInt_shape→jW,notImplemented→mJ,str→wY
open PySem.W renaming Frag→aH,findIn→bZ,emptyDict→dD,fnOf→dY,keepIn→ft,instObj→fG,nsIn→gr,kia_one→i5,kia_tup→i6,excIn→ko,plainGet→kG,codeIn→mH,mg_of→nF,hasDictIn→oP,isFn→oQ,lookIn→uP,plainGet_of→AG,methodObj→DD,plainOver→DE,takerIn→FJ,makesIn→FK,OpenLaw→FO
open Sum renaming inl→sS,inr→sT
open True renaming intro→ck
namespace L2
open PySem PySem.Spec PyProof.Rows
abbrev Key:=Sum Int Str
def FE:Key->Value->Bool
 | .inl k,v=>Value.isInt k v
 | .inr x,v=>Value.isStrOf x v
def I_(w:World):Key->Int
 | .inl k=>hashInt k
 | .inr x=>hashStr w x
theorem eI: ∀{k:Key} {v:Value},FE k v=true->(∃i t,k=sS i/\v=fH i t)\/(∃x t,k=sT x/\v=wY x t)
 | .inl i,v,h=>by
  obtain⟨t,e⟩:=jW (k:=i) (v:=v) h
  exact .inl ⟨i,t,rfl,e⟩
 | .inr x,v,h=>by
  obtain⟨t,e⟩:=Value.isStrOf_shape (x:=x) (v:=v) h
  exact .inr ⟨x,t,rfl,e⟩
theorem GG(a b:Int):decide ((sS a:Key)=sS b)=(a==b):=by
 by_cases e:a=b
 ·subst e; simp
 ·have h: ¬(sS a:Key)=sS b:=fun q=>e (Sum.inl.inj q)
  rw [decide_eq_false h]
  exact(beq_eq_false_iff_ne.mpr e).symm
theorem F_(a b:Str):decide ((sT a:Key)=sT b)=decide (a=b):=by
 by_cases e:a=b
 ·subst e; simp
 ·have h: ¬(sT a:Key)=sT b:=fun q=>e (Sum.inr.inj q)
  rw [decide_eq_false h,decide_eq_false e]
theorem G_(a:Int)(b:Str):decide ((sS a:Key)=sT b)=false:=decide_eq_false (fun q=>nomatch q)
theorem Gb(a:Str)(b:Int):decide ((sT a:Key)=sS b)=false:=decide_eq_false (fun q=>nomatch q)
def yJ(prog:ar)(w:World):PySem.KeyKind prog w Key where
 is:=FE
 hash:=I_ w
 inj:=fun v a b ha hb=>by
  rcases eI ha with⟨i,t,rfl,rfl⟩ | ⟨x,t,rfl,rfl⟩
  ·rcases eI hb with⟨j,u,rfl,e⟩ | ⟨y,u,rfl,e⟩
   ·injection e with e1 _; rw [e1]
   ·exact nomatch e
  ·rcases eI hb with⟨j,u,rfl,e⟩ | ⟨y,u,rfl,e⟩
   ·exact nomatch e
   ·injection e with e1 _; rw [e1]
 byValue:=fun k v h=>by
  rcases eI h with⟨i,t,rfl,rfl⟩ | ⟨x,t,rfl,rfl⟩ <;> rfl
 pyHash:=fun hv h=>by
  rcases eI hv with⟨i,t,rfl,rfl⟩ | ⟨x,t,rfl,rfl⟩
  ·exact wpAny_pyHash_int h
  ·exact wpAny_pyHash_str h
 eqBool:=fun hu hv h=>by
  rcases eI hu with⟨i,t,rfl,rfl⟩ | ⟨x,t,rfl,rfl⟩
  ·rcases eI hv with⟨j,u,rfl,rfl⟩ | ⟨y,u,rfl,rfl⟩
   ·rw [GG]at h; exact Fd h
   ·rw [G_]at h; exact SeqAt.EqAt.int_str i t y u _ _ _ _ h
  ·rcases eI hv with⟨j,u,rfl,rfl⟩ | ⟨y,u,rfl,rfl⟩
   ·rw [Gb]at h; exact SeqAt.EqAt.str_int x t j u _ _ _ _ h
   ·rw [F_]at h; exact wpAny_eqBool_str h
 «strs» :=fun k x t v h=>by
  rcases eI h with⟨i,u,rfl,e⟩ | ⟨y,u,rfl,e⟩
  ·exact nomatch e
  ·injection e with e1 _
   subst e1
   cases v <;> rfl
end L2
namespace L2
open PySem PySem.Spec PyProof.Rows
inductive V where
 | non | bl (b:Bool) | int (i:Int) | str (x:Str) | byt (b:Array UInt8) | flt (b:UInt64) | ref (a:Addr) | ty (n:String)
 deriving DecidableEq
def RelV:V->Value->Prop
 | .non,u=>u=a_
 | .bl b,u=>u=dJ b
 | .int i,u=> ∃t,u=fH i t
 | .str x,u=> ∃t,u=wY x t
 | .byt b,u=> ∃t,u=Value.bytes b t
 | .flt b,u=> ∃t,u=Value.float b t
 | .ref a,u=>u=ao a
 | .ty n,u=>u=cu n
abbrev Vals:List V->List Value->Prop:=Paired RelV
theorem Vals.length{xs:List V}{us:List Value}(r:Vals xs us):xs.length=us.length:=Paired.length r
theorem Vals.get: ∀{xs:List V} {us:List Value} {i:Nat} {x:V},Vals xs us->xs[i]? =some x-> ∃u,us[i]? =some u/\RelV x u
 | _,_,_,_, .nil,e=>by simp at e
 | _,_,0,_, .cons r _,e=>by simp at e; subst e; exact⟨_,rfl,r⟩
 | _,_,i+1,x, .cons _ t,e=>by
  obtain⟨u,h1,h2⟩:=Vals.get (i:=i) (x:=x) t (by simpa using e)
  exact⟨u,by simpa using h1,h2⟩
theorem Vals.set{x:V}{u:Value}(r:RelV x u): ∀{xs:List V} {us:List Value} (i:Nat),Vals xs us->Vals (xs.set i x) (us.set i u)
 | _,_,_, .nil=> .nil
 | _,_,0, .cons _ t=> .cons r t
 | _,_,i+1, .cons q t=> .cons q (Vals.set r i t)
theorem Vals.append: ∀{xs ys:List V} {us ws:List Value},Vals xs us->Vals ys ws->Vals (xs ++ ys) (us ++ ws)
 | _,_,_,_, .nil,s=>s
 | _,_,_,_, .cons r t,s=> .cons r (Vals.append t s)
theorem Vals.take: ∀{xs:List V} {us:List Value} (n:Nat),Vals xs us->Vals (xs.take n) (us.take n)
 | _,_,0,_=> .nil
 | _,_,_+1, .nil=> .nil
 | _,_,n+1, .cons r t=> .cons r (Vals.take n t)
theorem Vals.drop: ∀{xs:List V} {us:List Value} (n:Nat),Vals xs us->Vals (xs.drop n) (us.drop n)
 | _,_,0,r=>r
 | _,_,_+1, .nil=> .nil
 | _,_,n+1, .cons _ t=>Vals.drop n t
def rQ:Option V->Option Value->Prop
 | some v,some u=>RelV v u
 | none,none=>True
 | _,_=>False
def KV{κ:Type}:List (κ×V)->List (κ×Value)->Prop:=Paired fun(p:κ×V) (q:κ×Value)=>p.1=q.1/\RelV p.2 q.2
def kV:Key->V
 | .inl i=> .int i
 | .inr x=> .str x
inductive HO where
 | lst (xs:List V)
 | tup (xs:List V)
 | dK (kvs:List (Key×V)) | dT (kvs:List (List Key×V))
 | set (S:Int->Bool) (n:Nat)
 | ins (C dx:Addr) (fs:List (Str×V))
 | own (x:Addr)
 | xd (fs:List (Str×V))
 | met (f x:Addr)
 | rng (lo hi:Int)
 | frz (o:Obj) (u:HO)
 | tbl (ps:Array Value)
 | ext (φ:Heap->Prop)
abbrev Hp:=Addr->Option HO
def upd(H:Hp)(a:Addr)(o:HO):Hp:=fun b=>if b=a then some o else H b
theorem bC{H:Hp}{a:Addr}{o:HO}:upd H a o a=some o:=by unfold upd; rw [if_pos rfl]
theorem bP{H:Hp}{a b:Addr}{o:HO}(h:b≠a):upd H a o b=H b:=by unfold upd; rw [if_neg h]
theorem fm{H:Hp}{a b:Addr}{o:HO}(h:H a=some o)(h':H b=none):a≠b:=by
 intro e; subst e; rw [h]at h'; cases h'
section
variable (P:ar)(w:World)
def dP(H:Hp)(h:Heap)(a:Addr):HO->Prop
 | .lst xs=>xs.length<=sizeLine/\ ∃(bL:List Value) (n:Nat),Vals xs bL/\h.get? a=some {cls:= .type "list",data:= .seq bL.toArray n}
 | .tup xs=>xs.length<=sizeLine/\ ∃bL:List Value,Vals xs bL/\IsTup h a bL.toArray
 | .dK kvs=>kvs.length<=sizeLine/\(a==fU)=false/\ ∃vs,KV kvs vs/\h.DictOf (yJ P w) a vs
 | .dT kvs=>kvs.length<=sizeLine/\(a==fU)=false/\ ∃xs:List (List Key×Addr×Value),
   Paired (fun(p:List Key×V) (q:List Key×Addr×Value)=>p.1=q.1/\H q.2.1=some (.tup (p.1.map kV))/\RelV p.2 q.2.2) kvs xs/\
   ∃o es ep,h.get? a=some o/\o.ExactDict/\o.data= .dict es ep/\es.toList=xs.map (entryOfKey (jl (yJ P w)))/\(xs.map (·.1)).Nodup
 | .set S n=>h.SetOf (fh P w) a S n
 | .ins C dx fs=>H dx=some (.own a)/\fs.length<=1000/\dx≠a/\h.get? a=some (fG C dx)/\
   ∃mA,h.Ns1 dx mA/\(∀f,rQ (fs.lookup f) (mA f))/\IE mA (fs.map (·.1))
 | .own _=> ∃o,h.get? a=some o
 | .xd fs=> ∃mA,h.Ns1 a mA/\ ∀f,rQ (fs.lookup f) (mA f)
 | .rng lo hi=> ∃t u v,h.get? a=some {cls:= .type "range",data:= .fields #[.int lo t, .int hi u, .int 1 v]}
 | .frz o u=>h.get? a=some o/\dP H h a u
 | .tbl ps=>h.get? a=some {cls:= .none,data:= .fields ps}
 | .met f x=>h.get? a=some (DD (.ref f) (.ref x))
 | .ext φ=>φ h/\(∃o,h.get? a=some o)/\ ∀h1 h2:Heap,φ h1->(∀o,h1.get? a=some o->h2.get? a=some o)->φ h2
def mP(H:Hp)(h:Heap):Prop:= ∀a o,H a=some o->dP P w H h a o
end
section
variable {P:ar}{w:World}{H H':Hp}{h h':Heap}{a:Addr}{o:HO}
theorem dP.lt(x:dP P w H h a o):a < h.objs.size:=by
 cases o with
 | lst xs=>obtain⟨_,_,_,_,e⟩:=x; exact ay e
 | tup xs=>obtain⟨_,_,_,p⟩:=x; exact p.lt
 | dK kvs=>obtain⟨_,_,_,_,o,_,_,e,_⟩:=x; exact ay e
 | dT kvs=>obtain⟨_,_,_,_,o,_,_,e,_⟩:=x; exact ay e
 | set S n=>obtain⟨o,_,_,_,e,_⟩:=x; exact ay e
 | ins C dx fs=>obtain⟨_,_,_,e,_⟩:=x; exact ay e
 | own y=>obtain⟨_,e⟩:=x; exact ay e
 | xd fs=>obtain⟨_,⟨_,_,_,e,_⟩,_⟩:=x; exact ay e
 | rng lo hi=>obtain⟨_,_,_,e⟩:=x; exact ay e
 | frz ob u=>obtain⟨e,_⟩:=x; exact ay e
 | tbl ps=>exact ay (show h.get? a=some _ from x)
 | met f y=>exact ay (show h.get? a=some _ from x)
 | ext φ=>obtain⟨_,⟨_,e⟩,_⟩:=x; exact ay e
theorem Paired.mapP{α β:Type}{F G:α->β->Prop}: ∀{l₁:List α} {l₂:List β},Paired F l₁ l₂->(∀a b,F a b->G a b)->Paired G l₁ l₂
 | _,_, .nil,_=> .nil
 | _,_, .cons r t,f=> .cons (f _ _ r) (Paired.mapP t f)
theorem dP.stay(x:dP P w H h a o)(k: ∀b u,(b=a\/H b=some (.own a))->h.get? b=some u->h'.get? b=some u)
  (ho: ∀b,H b=some (.own a)->H' b=some (.own a))(ht: ∀b xs,H b=some (.tup xs)->H' b=some (.tup xs)):dP P w H' h' a o:=by
 induction o with
 | lst xs=>obtain⟨z,bL,n,r,e⟩:=x; exact⟨z,bL,n,r,k _ _ (.inl rfl) e⟩
 | tup xs=>obtain⟨z,bL,r,ob,e,c⟩:=x; exact⟨z,bL,r,ob,k _ _ (.inl rfl) e,c⟩
 | dK kvs=>obtain⟨z,y,vs,r,ob,es,ep,e,c⟩:=x; exact⟨z,y,vs,r,ob,es,ep,k _ _ (.inl rfl) e,c⟩
 | dT kvs=>
  obtain⟨z,y,xs,r,ob,es,ep,e,c⟩:=x
  exact⟨z,y,xs,Paired.mapP r fun p q z=>⟨z.1,ht _ _ z.2.1,z.2.2⟩,ob,es,ep,k _ _ (.inl rfl) e,c⟩
 | set S n=>obtain⟨ob,es,ep,t,e,c⟩:=x; exact⟨ob,es,ep,t,k _ _ (.inl rfl) e,c⟩
 | ins C dx fs=>
  obtain⟨d,z,ne,e,mA,⟨od,es,ep,e2,c⟩,r⟩:=x
  exact⟨ho _ d,z,ne,k _ _ (.inl rfl) e,mA,⟨od,es,ep,k _ _ (.inr d) e2,c⟩,r⟩
 | own y=>obtain⟨ob,e⟩:=x; exact⟨ob,k _ _ (.inl rfl) e⟩
 | xd fs=>obtain⟨mA,⟨od,es,ep,e,c⟩,r⟩:=x; exact⟨mA,⟨od,es,ep,k _ _ (.inl rfl) e,c⟩,r⟩
 | rng lo hi=>obtain⟨t,u,v,e⟩:=x; exact⟨t,u,v,k _ _ (.inl rfl) e⟩
 | frz ob u ih=>obtain⟨e,q⟩:=x; exact⟨k _ _ (.inl rfl) e,ih q⟩
 | tbl ps=>
  have e:h.get? a=some {cls:= .none,data:= .fields ps}:=x
  show h'.get? a=some {cls:= .none,data:= .fields ps}
  exact k a _ (.inl rfl) e
 | met f y=>
  have e:h.get? a=some (DD (.ref f) (.ref y)):=x
  show h'.get? a=some (DD (.ref f) (.ref y))
  exact k a _ (.inl rfl) e
 | ext φ=>obtain⟨p,⟨o,e⟩,st⟩:=x; exact⟨st _ _ p fun o q=>k _ _ (.inl rfl) q,⟨o,k _ _ (.inl rfl) e⟩,st⟩
theorem mP.lt(x:mP P w H h)(e:H a=some o):a < h.objs.size:=(x a o e).lt
theorem mP.fresh(x:mP P w H h)(e:h.objs.size<=a):H a=none:=by
 cases q:H a with
 | none=>rfl
 | some u=>exact absurd (aY (x.lt q) e) (e9 _)
theorem mP.kept(x:mP P w H h)(k: ∀b u,h.get? b=some u->h'.get? b=some u):mP P w H h':=fun a o e=>
 (x a o e).stay (fun b u _ q=>k b u q) (fun _ q=>q) fun _ _ q=>q
theorem mP.laid(x:mP P w H h)(k: ∀b u,h.get? b=some u->h'.get? b=some u)(hp:h.objs.size<=a)(new:dP P w (upd H a o) h' a o):mP P w (upd H a o) h':=fun b u e=>by
 have hn:=x.fresh hp
 by_cases hb:b=a
 ·subst hb; rw [bC]at e; cases e; exact new
 ·rw [bP hb]at e
  exact(x b u e).stay (fun c v _ q=>k c v q) (fun c q=>by rw [bP (fm q hn)]; exact q) fun c xs q=>by rw [bP (fm q hn)]; exact q
end
def Rd(H:Hp)(a:Addr)(u:HO):Prop:=H a=some u\/ ∃o,H a=some (.frz o u)
theorem Rd.ok{P:ar}{w:World}{H:Hp}{h:Heap}{a:Addr}{u:HO}(r:Rd H a u)(x:mP P w H h):dP P w H h a u:=by
 rcases r with r | ⟨o,r⟩
 ·exact x a u r
 ·obtain⟨_,q⟩:=x a _ r
  exact q
def IK:Option HO->Prop
 | some (.lst _)=>True
 | some (.dK _)=>True
 | some (.dT _)=>True
 | some (.set _ _)=>True
 | some (.ins _ _ _)=>True
 | some (.ext _)=>True
 | _=>False
section
variable {P:ar}{w:World}{H:Hp}{h h':Heap}{x e:Addr}{o':HO}
theorem mP.write(ok:mP P w H h)(mu:IK (H x))(he:e=x\/H e=some (.own x))(k: ∀b u,b≠e->h.get? b=some u->h'.get? b=some u)(heo: ∃u,h'.get? e=some u)
  (new:dP P w (upd H x o') h' x o'):mP P w (upd H x o') h':=fun b u q=>by
 have nown: ∀c y,H c=some (.own y)->c≠x:=fun c y r z=>by subst z; rw [r]at mu; exact mu
 have ntup: ∀c xs,H c=some (.tup xs)->c≠x:=fun c xs r z=>by subst z; rw [r]at mu; exact mu
 by_cases hb:b=x
 ·subst hb; rw [bC]at q; cases q; exact new
 ·rw [bP hb]at q
  by_cases hbe:b=e
  ·have q':H b=some (.own x):=by
    rcases he with z | z
    ·exact absurd (hbe.trans z) hb
    ·rw [hbe]; exact z
   rw [q]at q'; cases q'
   obtain⟨v,hv⟩:=heo
   exact⟨v,by rw [hbe]; exact hv⟩
  ·refine(ok b u q).stay (fun c v hc r=>k c v ?_ r) (fun c r=>by rw [bP (nown c b r)]; exact r) fun c xs r=>by rw [bP (ntup c xs r)]; exact r
   rcases hc with rfl | hc
   ·exact hbe
   ·rintro rfl
    rcases he with z | z
    ·exact nown c b hc z
    ·rw [hc]at z; cases z; exact hb rfl
end
structure Un(fs ex:List Addr)(H H':Hp)(h h':Heap):Prop where
 keep: ∀b o,h.get? b=some o->H b=none->b∉fs->b∉ex->h'.get? b=some o
 slot: ∀b o,h.get? b=some o->H b=none->b∈fs->b∉ex-> ∃sl,h'.get? b=some {o with slots:=sl}
 free: ∀b o,h.get? b=some o->H b=none->b∉ex->H' b=none
 there: ∀b o,h.get? b=some o->b∉ex-> ∃o',h'.get? b=some o'
 rK: ∀b xs,H b=some (.tup xs)->H' b=some (.tup xs)
 p9: ∀b o u,H b=some (.frz o u)->H' b=some (.frz o u)
 rP: ∀b ps,H b=some (.tbl ps)-> ∃more,H' b=some (.tbl (ps ++ more))
section
variable {fs fs' ex ex':List Addr}{H H1 H2:Hp}{h h1 h2 h':Heap}{a x e:Addr}{o:HO}
theorem Un.any(u:Un fs ex H H1 h h1){b:Addr}{ob:Obj}(q:h.get? b=some ob)(n:H b=none)(hx:b∉ex): ∃sl,h1.get? b=some {ob with slots:=sl}:=by
 by_cases hb:b∈fs
 ·exact u.slot b ob q n hb hx
 ·exact⟨ob.slots,u.keep b ob q n hb hx⟩
theorem Un.kept(k: ∀b u,h.get? b=some u->h'.get? b=some u):Un fs ex H H h h':=
 ⟨fun b ob q _ _ _=>k b ob q,fun b ob q _ _ _=>⟨ob.slots,k b ob q⟩,fun _ _ _ n _=>n,fun b ob q _=>⟨ob,k b ob q⟩,fun _ _ q=>q,fun _ _ _ q=>q,fun _ ps q=>⟨#[],by rw [q]; simp⟩⟩
theorem Un.refl:Un fs ex H H h h:=Un.kept fun _ _ q=>q
theorem Un.laid(k: ∀b u,h.get? b=some u->h'.get? b=some u)(hp:h.objs.size<=a)(hn:H a=none):Un fs ex H (upd H a o) h h' where
 keep:=fun b u q _ _ _=>k b u q
 slot:=fun b u q _ _ _=>⟨u.slots,k b u q⟩
 free:=fun b u q n _=>by rw [bP (aM (aY (ay q) hp))]; exact n
 there:=fun b u q _=>⟨u,k b u q⟩
 rK:=fun b xs q=>by rw [bP (fm q hn)]; exact q
 p9:=fun b u xs q=>by rw [bP (fm q hn)]; exact q
 rP:=fun b ps q=>⟨#[],by rw [bP (fm q hn),q]; simp⟩
theorem Un.write(mu:IK (H x))(he:e=x\/H e=some (.own x))(k: ∀b u,b≠e->h.get? b=some u->h'.get? b=some u)(heo: ∃u,h'.get? e=some u):Un fs ex H (upd H x o) h h':=by
 have hx: ∀b,H b=none->b≠x:=fun b n z=>by subst z; rw [n]at mu; exact mu
 have hb: ∀b,H b=none->b≠e:=fun b n z=>by
  subst z
  rcases he with r | r
  ·exact hx b n r
  ·rw [n]at r; cases r
 have hm: ∀b u,H b=some u-> ¬IK (some u)->b≠x:=fun b u q nm z=>by subst z; rw [q]at mu; exact nm mu
 refine⟨fun b u q n _ _=>k b u (hb b n) q,fun b u q n _ _=>⟨u.slots,k b u (hb b n) q⟩,fun b u q n _=>by rw [bP (hx b n)]; exact n,fun b u q _=> ?_,
  fun b xs q=>by rw [bP (hm b _ q fun z=>z)]; exact q,fun b u xs q=>by rw [bP (hm b _ q fun z=>z)]; exact q,fun b ps q=>⟨#[],by rw [bP (hm b _ q fun z=>z),q]; simp⟩⟩
 by_cases hbe:b=e
 ·subst hbe; exact heo
 ·exact⟨u,k b u hbe q⟩
end
def IP(h:Heap)(H:Hp):List Addr:=(cn h.objs.size).filter fun a=>(H a).isSome
def t_(h:Heap)(H:Hp):Heap:=PySem.W.hideAll h (IP h H)
theorem zv(h:Heap)(H:Hp):(t_ h H).objs.size=h.objs.size:=PySem.W.hideAll_size _ _
theorem Bw{h:Heap}{H:Hp}{b:Addr}{o:Obj}(e:h.get? b=some o)(n:H b=none):(t_ h H).get? b=some o:=
 PySem.W.hideAll_get _ e fun hm=>by
  have q:(H b).isSome=true:=(FI.mp hm).2
  rw [n]at q; simp at q
theorem DS{h:Heap}{H:Hp}{b:Addr}{o:Obj}(e:(t_ h H).get? b=some o):h.get? b=some o/\H b=none:=by
 have e':h.get? b=some o:=PySem.W.of_hideAll (IP h H) e
 refine⟨e', ?_⟩
 cases q:H b with
 | none=>rfl
 | some x=>
  have hm:b∈IP h H:=FI.mpr ⟨g8.mpr (ay e'),by simp [q]⟩
  have z:(t_ h H).get? b=none:=PySem.W.hideAll_none (IP h H) hm
  rw [z]at e; cases e
def Ei(g h:Heap)(L:Addr):List (Addr×Obj):=(cn h.objs.size).filterMap fun a=>if a=L\/(g.get? a).isSome=true then none else(h.get? a).map fun o=>(a,o)
def rest(g h:Heap)(L d:Addr):List (Addr×Obj):=(Ei g h L).filter fun p=>decide (p.1≠d)
end L2
namespace L2
open PySem PySem.Spec PyProof.Rows
structure Mod(K:aH)(mg:Str->Option Value)(base:Heap):Prop where
 AD:K.In base
 glob:base.Ns b9 mg
 blt: ∃mb,base.Ns builtinsNs mb/\ ∀x:Str,x≠"__name__"->mb x=cU x
 nolimit:base.NoLimit
structure Cx where
 prog:ar
 w:World
 K:aH
 mg:Str->Option Value
 base:Heap
 A:bp
 N:List Str
 s₀:ah
 H₀:Hp
 env:Env
 outer:List Env
 stack:List Env
 ex:List Addr
 fn:Str->Bool
 calm:Bool
 pn:List (Addr×Obj)
 xe:Value->ah->Prop
def wW(l:List Env):List Addr:=l.filterMap (·.frame)
abbrev Cx.fs(X:Cx):List Addr:=wW X.outer
def tN(sc:Scope)(x:Str):Prop:=sc.names.lookup x=some .local\/sc.names.lookup x=some .cell\/sc.names.lookup x=some .free
def Loc(sc:Scope)(x:Str):Prop:=sc.names.lookup x=some .local\/sc.names.lookup x=some .cell
def Look(env:Env)(h:Heap)(m:Str->Option Value)(x:Str)(u:Value):Prop:=
 (env.kindOf x=some .local/\m x=some u)\/((env.kindOf x=some .cell\/env.kindOf x=some .free)/\ ∃c,env.cells.lookup x=some c/\h.IsCell c (some u))
structure Cx.Ok(X:Cx):Prop where
 mod:Mod X.K X.mg X.base
 kind:X.env.scope.kind= .function
 glob:X.env.globals=b9
 blt:X.env.builtins=builtinsNs
 above:X.s₀.heap.objs.size<=X.env.locals
 inj: ∀x y c,X.env.cells.lookup x=some c->X.env.cells.lookup y=some c->x=y
 has: ∀x,(X.env.kindOf x=some .cell\/X.env.kindOf x=some .free)-> ∃c,X.env.cells.lookup x=some c
 Hu: ∀x c,X.fn x=true->X.env.cells.lookup x=some c->X.s₀.heap.objs.size<=c
 hd:X.calm=true->X.A.handled=none
 frames:X.A.frames=some X.stack
 tQ:X.stack=X.outer\/(X.stack=X.env::X.outer/\X.env.frame=some X.env.locals)
 JC: ∀b∈X.ex,b≠X.env.locals/\ ∀x c,X.env.cells.lookup x=some c->c≠b
 bs: ∀b o,X.base.get? b=some o->X.s₀.heap.get? b=some o/\X.H₀ b=none
 Cs:X.base.objs.size<=X.s₀.heap.objs.size
 xw: ∀b o,X.base.get? b=some o->b∉X.ex
 A8: ∀b∈X.ex,b∉X.fs
 nN:X.s₀.heap.FunFrames X.base X.outer
 FF: ∀b∈X.fs,X.H₀ b=none
structure Inv(X:Cx)(pins:List (Addr×Obj))(σ:List (Option V))(H:Hp)(s:ah):Prop where
 ok:X.Ok
 os:s.os=X.s₀.os
 bare:lu s.gens
 base:Un X.fs X.ex X.H₀ H X.s₀.heap s.heap
 loc: ∃m,s.heap.Ns X.env.locals m/\ ∀(i:Nat) (x:Str) (v:V),X.N[i]? =some x->σ[i]? =some (some v)->tN X.env.scope x-> ∃u,RelV v u/\Look X.env s.heap m x u
 cell: ∀x c,X.env.cells.lookup x=some c-> ∃v,s.heap.IsCell c v
 free:H X.env.locals=none
 kz: ∀x c,X.env.cells.lookup x=some c->H c=none
 pin: ∀p∈X.pn ++ pins,s.heap.get? p.1=some p.2/\H p.1=none/\p.1≠X.env.locals/\p.1∉X.fs/\ ∀v,p.2.data≠ .cell v
 dR:mP X.prog X.w H s.heap
 len:σ.length=X.N.length
section
variable {X:Cx}{pins:List (Addr×Obj)}{σ:List (Option V)}{H H':Hp}{s:ah}{h':Heap}
theorem Cx.Ok.nofr(ok:X.Ok){b:Addr}{o:Obj}(e:X.base.get? b=some o):b∉X.fs:=fun hb=>by
 have:=(ok.nN.mem hb).1
 rw [e]at this; cases this
theorem Inv.bs(I:Inv X pins σ H s): ∀b o,X.base.get? b=some o->s.heap.get? b=some o/\H b=none:=fun b o e=>
 ⟨I.base.keep b o (I.ok.bs b o e).1 (I.ok.bs b o e).2 (I.ok.nofr e) (I.ok.xw b o e),I.base.free b o (I.ok.bs b o e).1 (I.ok.bs b o e).2 (I.ok.xw b o e)⟩
theorem Inv.bk(I:Inv X pins σ H s): ∀b o,X.base.get? b=some o->s.heap.get? b=some o:=fun b o e=>(I.bs b o e).1
theorem Inv.mod(I:Inv X pins σ H s):Mod X.K X.mg X.base:=I.ok.mod
theorem Inv.kIn(I:Inv X pins σ H s):X.K.In s.heap:=I.ok.mod.AD.keeps I.bk
theorem Inv.lt(I:Inv X pins σ H s):X.env.locals < s.heap.objs.size:=let⟨_,hn,_⟩:=I.loc; hn.lt
theorem Inv.sz(I:Inv X pins σ H s):X.s₀.heap.objs.size<=s.heap.objs.size:=bg I.ok.above (jb I.lt)
theorem Inv.nofs(I:Inv X pins σ H s){a:Addr}(h:s.heap.objs.size<=a):a∉X.fs:=fun hb=>by
 obtain⟨_,o,ho,_⟩:=I.ok.nN.mem hb
 exact absurd (aY (ay ho) (bg I.sz h)) (e9 _)
theorem Inv.cne(I:Inv X pins σ H s): ∀x c,X.env.cells.lookup x=some c->c≠X.env.locals:=fun x c e z=>by
 obtain⟨v,o,ho,hd⟩:=I.cell x c e
 obtain⟨m,⟨o',es,ep,ho',hd',_⟩,_⟩:=I.loc
 rw [z,ho']at ho; cases ho; rw [hd']at hd; cases hd
theorem Inv.nN(I:Inv X pins σ H s):s.heap.FunFrames X.base X.outer:=by
 have all: ∀(l:List Env),(∀b∈wW l,b∈X.fs)->X.s₀.heap.FunFrames X.base l->s.heap.FunFrames X.base l:=by
  intro l
  induction l with
  | nil=>intro _ _; trivial
  | cons env r ih=>
   intro hs hl
   obtain⟨hk,⟨L,o,hf,hn,ho,hd⟩,hr⟩:=hl
   have hL:L∈X.fs:=hs L (by unfold wW; rw [i_,hf]; exact b8)
   obtain⟨sl,e⟩:=I.base.slot L o ho (I.ok.FF L hL) hL fun z=>I.ok.A8 L z hL
   exact⟨hk,⟨L,_,hf,hn,e,hd⟩,ih (fun b hb=>hs b (by unfold wW; rw [i_,hf]; exact bX _ hb)) hr⟩
 exact all X.outer (fun _ hb=>hb) I.ok.nN
theorem Inv.stack(I:Inv X pins σ H s):s.heap.FunFrames X.base X.stack:=by
 rcases I.ok.tQ with e | ⟨e,hf⟩
 ·rw [e]; exact I.nN
 ·rw [e]
  obtain⟨m,hn,_⟩:=I.loc
  refine .cons (by rw [I.ok.kind]; decide) hf hn ?_ I.nN
  exact Aq (bg I.ok.Cs I.ok.above)
theorem Inv.stkSub(I:Inv X pins σ H s): ∀b∈wW X.stack,b∈X.env.locals::X.fs:=fun b hb=>by
 rcases I.ok.tQ with e | ⟨e,hf⟩
 ·rw [e]at hb; exact bX _ hb
 ·rw [e]at hb
  unfold wW at hb
  rw [i_,hf]at hb
  exact hb
theorem Inv.stkFree(I:Inv X pins σ H s): ∀b∈wW X.stack,H b=none:=fun b hb=>by
 rcases aN.mp (I.stkSub b hb)with e | hb
 ·rw [e]; exact I.free
 ·obtain⟨_,o,ho,_⟩:=I.ok.nN.mem hb
  exact I.base.free b o ho (I.ok.FF b hb) fun z=>I.ok.A8 b z hb
theorem Inv.step{g':Array GenState}{t':Nat}{d':Drawn}{ch:List Addr}(I:Inv X pins σ H s)
  (hch: ∀b∈ch,(b∈X.ex\/X.s₀.heap.objs.size<=b)/\b≠X.env.locals/\(∀x c,X.env.cells.lookup x=some c->c≠b)/\ ∀p∈X.pn ++ pins,p.1≠b)
  (keep: ∀b o,b≠X.env.locals->b∉X.fs->b∉ch->s.heap.get? b=some o->H b=none->h'.get? b=some o)
  (slot: ∀b o,b≠X.env.locals->b∈X.fs->b∉ch->s.heap.get? b=some o->H b=none-> ∃sl,h'.get? b=some {o with slots:=sl})(free: ∀b o,b∉ch->s.heap.get? b=some o->H b=none->H' b=none)
  (there: ∀b o,b∉ch->s.heap.get? b=some o-> ∃o',h'.get? b=some o')
  (rK: ∀b xs,H b=some (.tup xs)->H' b=some (.tup xs))(p9: ∀b o u,H b=some (.frz o u)->H' b=some (.frz o u))(rP: ∀b ps,H b=some (.tbl ps)-> ∃more,H' b=some (.tbl (ps ++ more)))
  (ns: ∀m,s.heap.Ns X.env.locals m->h'.Ns X.env.locals m)(dR:mP X.prog X.w H' h')(hg:lu g'):
  Inv X pins σ H' {s with heap:=h',gens:=g',drawn:=d',toks:=t'}:=by
 have neL: ∀b o,X.s₀.heap.get? b=some o->b≠X.env.locals:=fun b o e=>aM (aY (ay e) I.ok.above)
 have neC: ∀b o,X.s₀.heap.get? b=some o->b∉X.ex->b∉ch:=fun b o e hx hb=>by
  rcases(hch b hb).1 with z | z
  ·exact hx z
  ·exact absurd (aY (ay e) z) (e9 _)
 have cellK: ∀x c,X.env.cells.lookup x=some c-> ∀v,s.heap.IsCell c v->h'.IsCell c v:=fun x c e v ⟨o,ho,hd⟩=>by
  have nch:c∉ch:=fun z=>(hch c z).2.2.1 x c e rfl
  by_cases hc:c∈X.fs
  ·obtain⟨sl,q⟩:=slot c o (I.cne x c e) hc nch ho (I.kz x c e)
   exact⟨_,q,hd⟩
  ·exact⟨o,keep c o (I.cne x c e) hc nch ho (I.kz x c e),hd⟩
 refine⟨I.ok,I.os,hg,⟨fun b o e n hb hx=> ?_,fun b o e n hb hx=> ?_,fun b o e n hx=> ?_,fun b o e hx=> ?_,fun b xs e=>rK b xs (I.base.rK b xs e),fun b o xs e=>p9 b o xs (I.base.p9 b o xs e),fun b ps e=> ?_⟩, ?_,fun x c e=> ?_, ?_,fun x c e=> ?_,fun p hp=> ?_,dR,I.len⟩
 ·exact keep b o (neL b o e) hb (neC b o e hx) (I.base.keep b o e n hb hx) (I.base.free b o e n hx)
 ·obtain⟨sl,e1⟩:=I.base.slot b o e n hb hx
  obtain⟨sl',e2⟩:=slot b _ (neL b o e) hb (neC b o e hx) e1 (I.base.free b o e n hx)
  exact⟨sl',e2⟩
 ·obtain⟨o',e1⟩:=I.base.there b o e hx
  exact free b o' (neC b o e hx) e1 (I.base.free b o e n hx)
 ·obtain⟨o',e1⟩:=I.base.there b o e hx
  exact there b o' (neC b o e hx) e1
 ·obtain⟨m1,e1⟩:=I.base.rP b ps e
  obtain⟨m2,e2⟩:=rP b _ e1
  exact⟨m1 ++ m2,by rw [e2,Array.append_assoc]⟩
 ·obtain⟨m,hn,hl⟩:=I.loc
  refine⟨m,ns m hn,fun i x v e1 e2 e3=> ?_⟩
  obtain⟨u,r,l⟩:=hl i x v e1 e2 e3
  refine⟨u,r, ?_⟩
  rcases l with l | ⟨k,c,e,z⟩
  ·exact .inl l
  ·exact .inr ⟨k,c,e,cellK x c e _ z⟩
 ·obtain⟨v,z⟩:=I.cell x c e
  exact⟨v,cellK x c e v z⟩
 ·obtain⟨m,⟨o,_,_,ho,_⟩,_⟩:=I.loc
  exact free _ o (fun z=>(hch _ z).2.1 rfl) ho I.free
 ·obtain⟨v,o,ho,hd⟩:=I.cell x c e
  exact free c o (fun z=>(hch c z).2.2.1 x c e rfl) ho (I.kz x c e)
 ·obtain⟨e,n,ne,nf,d⟩:=I.pin p hp
  have nch:p.1∉ch:=fun z=>(hch p.1 z).2.2.2 p hp rfl
  exact⟨keep p.1 p.2 ne nf nch e n,free p.1 p.2 nch e n,ne,nf,d⟩
theorem Inv.un{t':Nat}(I:Inv X pins σ H s)(u:Un X.fs [] H H' s.heap h')(dR:mP X.prog X.w H' h'):Inv X pins σ H' {s with heap:=h',toks:=t'}:=by
 obtain⟨m,⟨o,es,ep,ho,r⟩,_⟩:=id I.loc
 obtain⟨sl,hL⟩:=u.any ho I.free (by simp)
 exact I.step (g':=s.gens) (d':=s.drawn) (ch:= []) (fun _ z=>nomatch z) (fun b o _ hb _ e n=>u.keep b o e n hb (by simp)) (fun b o _ hb _ e n=>u.slot b o e n hb (by simp)) (fun b o _ e n=>u.free b o e n (by simp)) (fun b o _ e=>u.there b o e (by simp)) u.rK u.p9 u.rP (fun m' hm=>by
  obtain⟨o',es',ep',ho',r'⟩:=hm
  rw [ho]at ho'; cases ho'
  exact⟨_,es',ep',hL,r'⟩) dR I.bare
theorem Inv.call{g':Array GenState}{t':Nat}{d':Drawn}{ch:List Addr}(I:Inv X pins σ H s)(u:Un (wW X.stack) ch H H' s.heap h')(dR:mP X.prog X.w H' h')(hg:lu g')
  (hch: ∀b∈ch,(b∈X.ex\/X.s₀.heap.objs.size<=b)/\b≠X.env.locals/\(∀x c,X.env.cells.lookup x=some c->c≠b)/\ ∀p∈X.pn ++ pins,p.1≠b):
  Inv X pins σ H' {s with heap:=h',gens:=g',drawn:=d',toks:=t'}:=by
 obtain⟨m,⟨o,es,ep,ho,r⟩,_⟩:=id I.loc
 obtain⟨sl,hL⟩:=u.any ho I.free fun z=>(hch _ z).2.1 rfl
 exact I.step (ch:=ch) hch (fun b o hL hb hc e n=>u.keep b o e n (fun z=>(aN.mp (I.stkSub b z)).elim hL hb) hc) (fun b o _ _ hc e n=>u.any e n hc) (fun b o hc e n=>u.free b o e n hc) (fun b o hc e=>u.there b o e hc) u.rK u.p9 u.rP (fun m' hm=>by
  obtain⟨o',es',ep',ho',r'⟩:=hm
  rw [ho]at ho'; cases ho'
  exact⟨_,es',ep',hL,r'⟩) dR hg
theorem Inv.turned{t':Nat}{it:Addr}(I:Inv X pins σ H s)(k: ∀b o,b≠it->s.heap.get? b=some o->h'.get? b=some o)(hn:H it=none)(hL:it≠X.env.locals)
  (h1:it∈X.ex\/X.s₀.heap.objs.size<=it)(h2: ∀x c,X.env.cells.lookup x=some c->c≠it)(h3: ∀p∈X.pn ++ pins,p.1≠it):Inv X pins σ H {s with heap:=h',toks:=t'}:=by
 have nit: ∀b u,H b=some u->b≠it:=fun b u e z=>by rw [z,hn]at e; cases e
 refine I.step (g':=s.gens) (d':=s.drawn) (ch:= [it]) (fun b hb=> ?_) (fun b o _ _ hc e _=>k b o (fun z=>hc (by simp [z])) e) (fun b o _ _ hc e _=>⟨o.slots,k b o (fun z=>hc (by simp [z])) e⟩) (fun _ _ _ _ n=>n)
  (fun b o hc e=>⟨o,k b o (fun z=>hc (by simp [z])) e⟩) (fun _ _ e=>e) (fun _ _ _ e=>e) (fun b ps e=>⟨#[],by rw [e]; simp⟩) (fun m hm=> ?_) (fun b u e=> ?_) I.bare
 ·have e:b=it:=by simpa using hb
  subst e
  exact⟨h1,hL,h2,h3⟩
 ·obtain⟨o,es,ep,ho,r⟩:=hm
  exact⟨o,es,ep,k _ o (mQ hL) ho,r⟩
 ·refine(I.dR b u e).stay (fun c v hc q=>k c v ?_ q) (fun _ q=>q) fun _ _ q=>q
  rcases hc with z | z
  ·rw [z]; exact nit b u e
  ·exact nit c _ z
theorem Inv.tok(I:Inv X pins σ H s)(t:Nat):Inv X pins σ H {s with toks:=t}:=I.un (h':=s.heap) (t':=t) Un.refl I.dR
theorem Inv.kept{t':Nat}(I:Inv X pins σ H s)(k: ∀b u,s.heap.get? b=some u->h'.get? b=some u):Inv X pins σ H {s with heap:=h',toks:=t'}:=I.un (Un.kept k) (I.dR.kept k)
theorem Inv.laid{a:Addr}{o:HO}{t':Nat}(I:Inv X pins σ H s)(k: ∀b u,s.heap.get? b=some u->h'.get? b=some u)(hp:s.heap.objs.size<=a)(new:dP X.prog X.w (upd H a o) h' a o):
  Inv X pins σ (upd H a o) {s with heap:=h',toks:=t'}:=I.un (Un.laid k hp (I.dR.fresh hp)) (I.dR.laid k hp new)
theorem Inv.write{x e:Addr}{o:HO}{t':Nat}(I:Inv X pins σ H s)(mu:IK (H x))(he:e=x\/H e=some (.own x))(k: ∀b u,b≠e->s.heap.get? b=some u->h'.get? b=some u)(heo: ∃u,h'.get? e=some u)
  (new:dP X.prog X.w (upd H x o) h' x o):Inv X pins σ (upd H x o) {s with heap:=h',toks:=t'}:=I.un (Un.write mu he k heo) (I.dR.write mu he k heo new)
theorem Inv.pins_of{pins':List (Addr×Obj)}(I:Inv X pins σ H s)(h: ∀p∈pins',s.heap.get? p.1=some p.2/\H p.1=none/\p.1≠X.env.locals/\p.1∉X.fs/\ ∀v,p.2.data≠ .cell v):Inv X pins' σ H s:=
 ⟨I.ok,I.os,I.bare,I.base,I.loc,I.cell,I.free,I.kz,fun p hp=>(bh.mp hp).elim (fun z=>I.pin p (eT _ z)) (h p),I.dR,I.len⟩
theorem vm{N:List Str}(hN:N.Nodup){i j:Nat}{x:Str}(a:N[i]? =some x)(b:N[j]? =some x):i=j:=by
 obtain⟨h1,e1⟩:=aA.mp a
 obtain⟨h2,e2⟩:=aA.mp b
 exact(kF hN).mp (e1.trans e2.symm)
theorem sO{M:Model}{A:bp}{E:Value->ah->Prop}{i:Nat}{x:Str}{v:V}{u:Value}{Q:Unit->ah->Prop}(I:Inv X pins σ H s)(hN:X.N.Nodup)(hi:X.N[i]? =some x)(hx:Loc X.env.scope x)(r:RelV v u)
  (h: ∀s',Inv X pins (σ.set i (some v)) H s'->(∃a,bH a s.heap s'.heap/\(a=X.env.locals\/X.env.cells.lookup x=some a))->Q () s')(hf:X.fn x=true\/X.env.scope.names.lookup x=some .local:=by first | exact .inl rfl | exact .inr rfl | assumption):wpAny M A (storeName X.env x u) Q E s:=by
 obtain⟨m,hn,hl⟩:=id I.loc
 have hcls:(X.env.scope.kind== .class || (X.env.scope.kind== .module&&X.env.locals !=X.env.globals))=false:=by rw [I.ok.kind]; rfl
 have hiσ:i < σ.length:=by rw [I.len]; exact(aA.mp hi).1
 have cne:=I.cne
 have tracked: ∀{a:Addr} {h':Heap},(∃o,s.heap.get? a=some o/\H a=none)->bH a s.heap h'->mP X.prog X.w H h':=fun{a h'} ha hs b ob e=>by
  obtain⟨_,_,hfree⟩:=ha
  refine(I.dR b ob e).stay (fun c w' hc q=>(hs.2 c ?_).trans q) (fun _ q=>q) fun _ _ q=>q
  rintro rfl
  rcases hc with rfl | hc
  ·rw [hfree]at e; cases e
  ·rw [hfree]at hc; cases hc
 rcases hx with hk | hk
 ·refine wpAny_storeName_local hk hn (fun h' hn' hs=> ?_) hcls
  obtain⟨oL,_,_,hoL,_⟩:=id hn
  refine h _ ⟨I.ok,I.os,I.bare,⟨fun b o e n hb hx=> ?_,fun b o e n hb hx=> ?_,I.base.free,fun b o e hx=> ?_,I.base.rK,I.base.p9,I.base.rP⟩,⟨_,hn',fun j y v' e1 e2 e3=> ?_⟩,fun y c e=> ?_,I.free,I.kz,fun p hp=> ?_,tracked ⟨oL,hoL,I.free⟩ hs,by simpa using I.len⟩ ⟨_,hs, .inl rfl⟩
  ·exact(hs.2 b (aM (aY (ay e) I.ok.above))).trans (I.base.keep b o e n hb hx)
  ·obtain⟨sl,e1⟩:=I.base.slot b o e n hb hx
   exact⟨sl,(hs.2 b (aM (aY (ay e) I.ok.above))).trans e1⟩
  ·obtain⟨o',e1⟩:=I.base.there b o e hx
   exact⟨o',(hs.2 b (aM (aY (ay e) I.ok.above))).trans e1⟩
  ·by_cases hj:j=i
   ·subst hj
    rw [hi]at e1; cases e1
    rw [yi hiσ]at e2
    cases e2
    exact⟨u,r, .inl ⟨hk,by simp⟩⟩
   ·rw [Ar (mQ hj)]at e2
    obtain⟨u',r',q⟩:=hl j y v' e1 e2 e3
    refine⟨u',r', ?_⟩
    rcases q with⟨k,e⟩ | ⟨k,c,e,z⟩
    ·refine .inl ⟨k, ?_⟩
     have:y≠x:=fun e=>hj (vm hN e1 (e▸hi))
     simp [this,e]
    ·exact .inr ⟨k,c,e,z.sameBut hs (cne y c e)⟩
  ·obtain⟨w',z⟩:=I.cell y c e
   exact⟨w',z.sameBut hs (cne y c e)⟩
  ·obtain⟨e,n,ne,nf,d⟩:=I.pin p hp
   exact⟨(hs.2 p.1 ne).trans e,n,ne,nf,d⟩
 ·have hfn:X.fn x=true:=by
   rcases hf with z | z
   ·exact z
   ·rw [z]at hk; cases hk
  obtain⟨c,hc⟩:=I.ok.has x (.inl hk)
  obtain⟨w',z⟩:=I.cell x c hc
  refine wpAny_storeName_cell I.ok.kind hk hc z (fun h' hc' hs=> ?_)
  obtain⟨oc,hoc,hocd⟩:=id z
  refine h {s with heap:=h'} ⟨I.ok,I.os,I.bare,⟨fun b o e n hb hx=> ?_,fun b o e n hb hx=> ?_,I.base.free,fun b o e hx=> ?_,I.base.rK,I.base.p9,I.base.rP⟩,⟨m,hn.sameBut hs (mQ (cne x c hc)),fun j y v' e1 e2 e3=> ?_⟩,fun y c' e=> ?_,I.free,I.kz,fun p hp=> ?_,tracked ⟨oc,hoc,I.kz x c hc⟩ hs,by simpa using I.len⟩ ⟨c,hs, .inr hc⟩
  ·exact(hs.2 b (aM (aY (ay e) (I.ok.Hu x c hfn hc)))).trans (I.base.keep b o e n hb hx)
  ·obtain⟨sl,e1⟩:=I.base.slot b o e n hb hx
   exact⟨sl,(hs.2 b (aM (aY (ay e) (I.ok.Hu x c hfn hc)))).trans e1⟩
  ·obtain⟨o',e1⟩:=I.base.there b o e hx
   exact⟨o',(hs.2 b (aM (aY (ay e) (I.ok.Hu x c hfn hc)))).trans e1⟩
  ·by_cases hj:j=i
   ·subst hj
    rw [hi]at e1; cases e1
    rw [yi hiσ]at e2
    cases e2
    exact⟨u,r, .inr ⟨.inl hk,c,hc,hc'⟩⟩
   ·rw [Ar (mQ hj)]at e2
    obtain⟨u',r',q⟩:=hl j y v' e1 e2 e3
    refine⟨u',r', ?_⟩
    rcases q with q | ⟨k,c',e,z'⟩
    ·exact .inl q
    ·refine .inr ⟨k,c',e,z'.sameBut hs ?_⟩
     rintro rfl
     exact hj (vm hN e1 (I.ok.inj _ _ _ e hc▸hi))
  ·by_cases hcc:c'=c
   ·subst hcc; exact⟨_,hc'⟩
   ·obtain⟨w2,z2⟩:=I.cell y c' e
    exact⟨w2,z2.sameBut hs hcc⟩
  ·obtain⟨e,n,ne,nf,d⟩:=I.pin p hp
   refine⟨(hs.2 p.1 ?_).trans e,n,ne,nf,d⟩
   intro q
   rw [q,hoc]at e
   have q':oc=p.2:=aK e
   exact d w' (by rw [<-q']; exact hocd)
theorem wA{M:Model}{A:bp}{E:Value->ah->Prop}{i:Nat}{x:Str}{v:V}{u:Value}{Q:Unit->ah->Prop}(I:Inv X pins σ H s)(hN:X.N.Nodup)(hi:X.N[i]? =some x)(hx:Loc X.env.scope x)(r:RelV v u)
  (h: ∀s',Inv X pins (σ.set i (some v)) H s'->Q () s')(hf:X.fn x=true\/X.env.scope.names.lookup x=some .local:=by first | exact .inl rfl | exact .inr rfl | assumption):wpAny M A (storeName X.env x u) Q E s:=
 sO I hN hi hx r (fun s' I' _=>h s' I') hf
theorem Inv.call'{s':ah}{ch:List Addr}(I:Inv X pins σ H s)(ho:s'.os=s.os)(u:Un (wW X.stack) ch H H' s.heap s'.heap)(dR:mP X.prog X.w H' s'.heap)(hg:lu s'.gens)
  (hch: ∀b∈ch,(b∈X.ex\/X.s₀.heap.objs.size<=b)/\b≠X.env.locals/\(∀x c,X.env.cells.lookup x=some c->c≠b)/\ ∀p∈X.pn ++ pins,p.1≠b):Inv X pins σ H' s':=by
 obtain⟨h',g',d',t',o'⟩:=s'
 have e:o'=s.os:=ho
 subst e
 exact I.call (g':=g') (t':=t') (d':=d') u dR hg hch
end
abbrev XK:=Value->Option Addr->Hp->Prop
abbrev St:=List (Option V)
abbrev VK:=V->Hp->Prop
abbrev TE:=St->Hp->VK->Prop
abbrev TT:=St->Hp->(Bool->Hp->Prop)->Prop
abbrev TA:=St->Hp->(List V->Hp->Prop)->Prop
structure Ends where
 nx:St->Hp->Prop
 rt:VK
 bk:St->Hp->Prop:=fun _ _=>False
 ct:St->Hp->Prop:=fun _ _=>False
abbrev TS:=Ends->St->Hp->Prop
def EP(X:Cx)(pins:List (Addr×Obj))(σ:St)(Q:VK)(u:Value)(s':ah):Prop:= ∃v H',Inv X pins σ H' s'/\RelV v u/\Q v H'
def TP(X:Cx)(pins:List (Addr×Obj))(σ:St)(Q:Bool->Hp->Prop)(b:Bool)(s':ah):Prop:= ∃H',Inv X pins σ H' s'/\Q b H'
def AP(X:Cx)(pins:List (Addr×Obj))(σ:St)(Q:List V->Hp->Prop)(us:List Value)(s':ah):Prop:= ∃vs H',Inv X pins σ H' s'/\Vals vs us/\Q vs H'
def SP(X:Cx)(pins:List (Addr×Obj))(D:Ends)(f:Flow)(s':ah):Prop:=
 match f with
 | .next=> ∃σ' H',Inv X pins σ' H' s'/\D.nx σ' H'
 | .brk=> ∃σ' H',Inv X pins σ' H' s'/\D.bk σ' H'
 | .cont=> ∃σ' H',Inv X pins σ' H' s'/\D.ct σ' H'
 | .ret u=> ∃v σ' H',Inv X pins σ' H' s'/\RelV v u/\D.rt v H'
def PE(X:Cx)(e:Expr)(t:TE):Prop:=
 ∀(pins:List (Addr×Obj)) (s:ah) (σ:St) (H:Hp) (Q:VK),Inv X pins σ H s->t σ H Q->wpAny (model X.prog X.w) X.A (eval e X.env) (EP X pins σ Q) X.xe s
def PT(X:Cx)(e:Expr)(t:TT):Prop:=
 ∀(pins:List (Addr×Obj)) (s:ah) (σ:St) (H:Hp) (Q:Bool->Hp->Prop),Inv X pins σ H s->t σ H Q->wpAny (model X.prog X.w) X.A (isTrue e X.env (eval e X.env)) (TP X pins σ Q) X.xe s
def PW(X:Cx)(e:Expr)(t:TT):Prop:=
 ∀(whole:Sem Value) (pins:List (Addr×Obj)) (s:ah) (σ:St) (H:Hp) (Q:Bool->Hp->Prop),Inv X pins σ H s->t σ H Q->wpAny (model X.prog X.w) X.A (isTrue e X.env whole) (TP X pins σ Q) X.xe s
theorem PW.pt{X:Cx}{e:Expr}{t:TT}(h:PW X e t):PT X e t:=h _
def PA(X:Cx)(es:List Expr)(t:TA):Prop:=
 ∀(pos:Pos) (pins:List (Addr×Obj)) (s:ah) (σ:St) (H:Hp) (Q:List V->Hp->Prop),Inv X pins σ H s->t σ H Q->wpAny (model X.prog X.w) X.A (spliced (c9 pos (aq es X.env))) (AP X pins σ Q) X.xe s
def PS(X:Cx)(st:Stmt)(t:TS):Prop:=
 ∀(pins:List (Addr×Obj)) (s:ah) (σ:St) (H:Hp) (D:Ends),Inv X pins σ H s->t D σ H->wpAny (model X.prog X.w) X.A (exec st X.env) (SP X pins D) X.xe s
def xY(X:Cx)(st:List Stmt)(t:TS):Prop:=
 ∀(pins:List (Addr×Obj)) (s:ah) (σ:St) (H:Hp) (D:Ends),Inv X pins σ H s->t D σ H->wpAny (model X.prog X.w) X.A (execs st X.env) (SP X pins D) X.xe s
theorem eQ{α:Type}{t:Sem α}{Q Q':α->ah->Prop}{M:Model}{A:bp}{E:Value->ah->Prop}{s:ah}(h:wpAny M A t Q E s)(hQ: ∀a s,Q a s->Q' a s):wpAny M A t Q' E s:=cF h hQ fun _ _ x=>x
end L2
namespace L2
open PySem PySem.Spec PyProof.Rows
section
variable {X:Cx}
def Jt(i:Nat):TE:=fun σ H Q=> ∃v,σ[i]? =some (some v)/\Q v H
def tC(v:V):TE:=fun _ H Q=>Q v H
theorem iZ{i:Nat}{x:Str}{pos:Pos}(hN:X.N[i]? =some x)(hv:tN X.env.scope x)(hd:(x==("__debug__":Str))=false:=by decide)(hcd:(x==("__classdict__":Str))=false:=by decide):PE X (.Name x pos) (Jt i):=by
 intro pins s σ H Q I h
 obtain⟨v,e,h⟩:=h
 obtain⟨m,hn,hl⟩:=I.loc
 obtain⟨u,r,l⟩:=hl i x v hN e hv
 have fin:EP X pins σ Q u s:=⟨v,H,I,r,h⟩
 rcases l with⟨hk,hm⟩ | ⟨hk,c,hc,hcell⟩
 ·exact wpAny_Name (wpAny_loadName_local I.ok.kind hk hn hm fin) hd
 ·rcases hk with hk | hk
  ·exact wpAny_Name (wpAny_loadName_cell I.ok.kind hk hc hcell fin) hd
  ·exact wpAny_Name (wpAny_loadName_free I.ok.kind hk hc hcell fin hcd) hd
theorem Gj{i j pos}:PE X (.Constant (.int i) j pos) (tC (.int i)):=fun _ _ _ H _ I h=>wpAny_Constant_int ⟨.int i,H,I.tok _,⟨_,rfl⟩,h⟩
theorem Ia{b j pos}:PE X (.Constant (.bool b) j pos) (tC (.bl b)):=fun _ _ _ H _ I h=>Constant_bool ⟨.bl b,H,I,rfl,h⟩
theorem Gx{j pos}:PE X (.Constant .none j pos) (tC .non):=fun _ _ _ H _ I h=>Constant_none ⟨.non,H,I,rfl,h⟩
theorem GI{x j pos}:PE X (.Constant (.str x) j pos) (tC (.str x)):=fun _ _ _ H _ I h=>Calls.Constant_str ⟨.str x,H,I.tok _,⟨_,rfl⟩,h⟩
def Gl(X:Cx)(x:Str):Prop:=X.env.kindOf x=some .globalImplicit
theorem pA{E:Value->ah->Prop}{pins:List (Addr×Obj)}{s:ah}{σ:St}{H:Hp}{x:Str}{u:Value}{pos:Pos}{Q:Value->ah->Prop}(I:Inv X pins σ H s)(hg:Gl X x)(hm:X.mg x=some u)(h:Q u s)
  (hd:(x==("__debug__":Str))=false:=by decide):wpAny (model X.prog X.w) X.A (eval (.Name x pos) X.env) Q E s:=
 Calls.Name_function_global I.ok.kind hg (Calls.loadGlobal_global (by rw [I.ok.glob]; exact I.mod.glob.keeps I.bk) hm h) hd
theorem nU{E:Value->ah->Prop}{pins:List (Addr×Obj)}{s:ah}{σ:St}{H:Hp}{x:Str}{u:Value}{pos:Pos}{Q:Value->ah->Prop}(I:Inv X pins σ H s)(hg:Gl X x)(hm:X.mg x=none)(hv:cU x=some u)(h:Q u s)
  (hn:x≠"__name__":=by decide)(hd:(x==("__debug__":Str))=false:=by decide):wpAny (model X.prog X.w) X.A (eval (.Name x pos) X.env) Q E s:=by
 obtain⟨mb,h1,h2⟩:=I.mod.blt
 exact Calls.Name_function_global I.ok.kind hg (Calls.loadGlobal_builtin (by rw [I.ok.glob]; exact I.mod.glob.keeps I.bk) hm (by rw [I.ok.blt]; exact h1.keeps I.bk) ((h2 x hn).trans hv) h) hd
theorem Em{x:Str}{v:V}{u:Value}{pos:Pos}(hg:Gl X x)(hm:X.mg x=some u)(r:RelV v u)(hd:(x==("__debug__":Str))=false:=by decide):PE X (.Name x pos) (tC v):=
 fun _ _ _ H _ I h=>pA I hg hm ⟨v,H,I,r,h⟩ hd
theorem uu{x:Str}{v:V}{u:Value}{pos:Pos}(hg:Gl X x)(hm:X.mg x=none)(hv:cU x=some u)(r:RelV v u)(hn:x≠"__name__":=by decide)(hd:(x==("__debug__":Str))=false:=by decide):PE X (.Name x pos) (tC v):=
 fun _ _ _ H _ I h=>nU I hg hm hv ⟨v,H,I,r,h⟩ hn hd
variable {a b:Expr}{ta tb:TE}{pos:Pos}
def tB(t:TE):TT:=fun σ H Q=>t σ H fun x H1=> ∃c,x= .bl c/\Q c H1
theorem Gs{e:Expr}{t:TE}(h:PE X e t)(he: ∀whole,isTrue e X.env whole=(do let v<-whole; standAt e.pos; jc [v] (truthy v)):=by intro _; rfl):PT X e (tB t):=by
 intro pins s σ H Q I hw
 refine isTrue_plain (eQ (h pins s σ H _ I hw) fun v s1 ⟨x,H1,I1,r1,q1⟩=> ?_) (he _)
 obtain⟨d,rfl,q⟩:=q1
 cases r1
 exact eU ⟨H1,I1,q⟩
variable {tA tB':TT}{rest:List Expr}
def JM(t u:TT):TT:=fun σ H Q=>t σ H fun c H1=>if c=true then u σ H1 Q else Q false H1
def KU(t u:TT):TT:=fun σ H Q=>t σ H fun c H1=>if c=true then Q true H1 else u σ H1 Q
def I9(t:TT):TT:=fun σ H Q=>t σ H fun c H1=>Q (!c) H1
theorem pw_and1(ha:PT X a tA):PW X (.BoolOp .And [a] pos) tA:=by
 intro wh pins s σ H Q I h
 refine isTrue_and (eQ (ha pins s σ H Q I h) fun c s1 e=> ?_)
 cases c with
 | true=>exact isTrue_and_nil e
 | false=>exact e
theorem pw_or1(ha:PT X a tA):PW X (.BoolOp .Or [a] pos) tA:=by
 intro wh pins s σ H Q I h
 refine isTrue_or (eQ (ha pins s σ H Q I h) fun c s1 e=> ?_)
 cases c with
 | false=>exact isTrue_or_nil e
 | true=>exact e
theorem pw_and(ha:PT X a tA)(hb:PW X (.BoolOp .And (b::rest) pos) tB'):PW X (.BoolOp .And (a::b::rest) pos) (JM tA tB'):=by
 intro wh pins s σ H Q I h
 refine isTrue_and (eQ (ha pins s σ H _ I h) fun c s1 ⟨H1,I1,q1⟩=> ?_)
 cases c with
 | true=>exact hb wh pins s1 σ H1 Q I1 q1
 | false=>exact⟨H1,I1,q1⟩
theorem pw_or(ha:PT X a tA)(hb:PW X (.BoolOp .Or (b::rest) pos) tB'):PW X (.BoolOp .Or (a::b::rest) pos) (KU tA tB'):=by
 intro wh pins s σ H Q I h
 refine isTrue_or (eQ (ha pins s σ H _ I h) fun c s1 ⟨H1,I1,q1⟩=> ?_)
 cases c with
 | true=>exact⟨H1,I1,q1⟩
 | false=>exact hb wh pins s1 σ H1 Q I1 q1
theorem Hd(ha:PT X a tA):PT X (.UnaryOp .Not a pos) (I9 tA):=by
 intro pins s σ H Q I h
 exact isTrue_not (ha pins s σ H (fun c H1=>Q (!c) H1) I h)
def Iq(ta tb:TE):TE:=fun σ H Q=>ta σ H fun x H1=> ∃c,x= .bl c/\if c=true then tb σ H1 Q else Q (.bl false) H1
def HS(ta:TE):TE:=fun σ H Q=>ta σ H fun x H1=> ∃c,x= .bl c/\Q (.bl (!c)) H1
theorem Gw{op}{t:TE}(h:PE X a t):PE X (.BoolOp op [a] pos) t:=fun pins s σ H Q I hw=>BoolOp_one (h pins s σ H Q I hw)
theorem FX(ha:PE X a ta)(hb:PE X (.BoolOp .And (b::rest) pos) tb):PE X (.BoolOp .And (a::b::rest) pos) (Iq ta tb):=by
 intro pins s σ H Q I h
 refine BoolOp_and (eQ (ha pins s σ H _ I h) fun v s1 ⟨x,H1,I1,r1,q1⟩=> ?_)
 obtain⟨c,rfl,q1⟩:=q1
 cases r1
 refine eU ?_
 cases c with
 | true=>exact hb pins s1 σ H1 Q I1 q1
 | false=>exact⟨.bl false,H1,I1,rfl,q1⟩
theorem Gg(ha:PE X a ta):PE X (.UnaryOp .Not a pos) (HS ta):=by
 intro pins s σ H Q I h
 refine UnaryOp_ (eQ (ha pins s σ H _ I h) fun v s1 ⟨x,H1,I1,r1,q1⟩=> ?_)
 obtain⟨c,rfl,q1⟩:=q1
 cases r1
 exact not_of (eU ⟨.bl (!c),H1,I1,rfl,q1⟩)
end
end L2
namespace L2
open PySem PySem.Spec PyProof.Rows
def kR(K:aH)(H:Hp)(a:Addr)(xs:List V):Prop:=
 Rd H a (.lst xs)\/
  ∃(o:Obj) (bL:Array Value) (n:Nat),K.lookup a=some o/\o.cls= .type "list"/\o.dict=none/\o.data= .seq bL n/\bL.size<=sizeLine/\Vals xs bL.toList
def i4(K:aH)(H:Hp)(a:Addr)(xs:List V):Prop:=
 Rd H a (.tup xs)\/
  ∃(o:Obj) (bL:Array Value) (n:Nat),K.lookup a=some o/\o.cls= .type "tuple"/\o.data= .seq bL n/\bL.size<=sizeLine/\Vals xs bL.toList
def JU:Value->Option V
 | .none=>some .non
 | .bool b=>some (.bl b)
 | .int i _=>some (.int i)
 | .str x _=>some (.str x)
 | .bytes b _=>some (.byt b)
 | .float b _=>some (.flt b)
 | .ref a=>some (.ref a)
 | .type n=>some (.ty n)
 | _=>none
theorem RelV.abs{x:V}{u:Value}(r:RelV x u):JU u=some x:=by
 cases x with
 | non=>cases r; rfl
 | bl _=>cases r; rfl
 | int _=>obtain⟨t,rfl⟩:=r; rfl
 | str _=>obtain⟨t,rfl⟩:=r; rfl
 | byt _=>obtain⟨t,rfl⟩:=r; rfl
 | flt _=>obtain⟨t,rfl⟩:=r; rfl
 | ref _=>cases r; rfl
 | ty _=>cases r; rfl
theorem RelV.inj{x y:V}{u:Value}(r:RelV x u)(q:RelV y u):x=y:=aK (r.abs.symm.trans q.abs)
theorem Vals.inj: ∀{xs ys:List V} {us:List Value},Vals xs us->Vals ys us->xs=ys
 | _,_,_, .nil, .nil=>rfl
 | _,_,_, .cons r t, .cons r' t'=>by rw [r.inj r',Vals.inj t t']
section
variable {X:Cx}{pins:List (Addr×Obj)}{σ:St}{H:Hp}{s:ah}{a:Addr}{xs ys:List V}
theorem kR.of{K:aH}(h:H a=some (.lst xs)):kR K H a xs:= .inl (.inl h)
theorem i4.of{K:aH}(h:H a=some (.tup xs)):i4 K H a xs:= .inl (.inl h)
theorem Inv.list(I:Inv X pins σ H s)(h:kR X.K H a xs): ∃bL:List Value,Vals xs bL/\PlainL s.heap a bL.toArray/\xs.length<=sizeLine:=by
 rcases h with h | ⟨o,bL,n,hk,hc,hd,hs,hz,r⟩
 ·obtain⟨z,bL,n,r,e⟩:=h.ok I.dR
  exact⟨bL,r,⟨_,n,e,rfl,rfl,rfl⟩,z⟩
 ·refine⟨bL.toList,r,⟨o,n,I.kIn a o hk,hc,hd,by simpa using hs⟩, ?_⟩
  have e:=r.length
  simp only [aj]at e
  omega
theorem Inv.tuple(I:Inv X pins σ H s)(h:i4 X.K H a xs): ∃bL:List Value,Vals xs bL/\IsTup s.heap a bL.toArray/\xs.length<=sizeLine:=by
 rcases h with h | ⟨o,bL,n,hk,hc,hs,hz,r⟩
 ·obtain⟨z,bL,r,p⟩:=h.ok I.dR
  exact⟨bL,r,p,z⟩
 ·refine⟨bL.toList,r,⟨o,I.kIn a o hk,hc,n,by simpa using hs⟩, ?_⟩
  have e:=r.length
  simp only [aj]at e
  omega
theorem Inv.list_inj(I:Inv X pins σ H s)(h:kR X.K H a xs)(h':kR X.K H a ys):xs=ys:=by
 obtain⟨bL,r,⟨o,n,e,_,_,d⟩,_⟩:=I.list h
 obtain⟨its',r',⟨o',n',e',_,_,d'⟩,_⟩:=I.list h'
 rw [e]at e'; cases e'
 rw [d]at d'
 injection d' with d1 _
 have:bL=its':=by simpa using congrArg Array.toList d1
 subst this
 exact r.inj r'
theorem Inv.tuple_inj(I:Inv X pins σ H s)(h:i4 X.K H a xs)(h':i4 X.K H a ys):xs=ys:=by
 obtain⟨bL,r,⟨o,e,_,n,d⟩,_⟩:=I.tuple h
 obtain⟨its',r',⟨o',e',_,n',d'⟩,_⟩:=I.tuple h'
 rw [e]at e'; cases e'
 rw [d]at d'
 injection d' with d1 _
 have:bL=its':=by simpa using congrArg Array.toList d1
 subst this
 exact r.inj r'
end
abbrev Cx.wish(X:Cx)(E:Value->ah->Prop):Cx:={X with xe:=E}
abbrev Cx.nox(X:Cx):Cx:=X.wish fun _ _=>False
theorem Cx.Ok.wish{X:Cx}(ok:X.Ok)(E:Value->ah->Prop):(X.wish E).Ok:=
 ⟨ok.mod,ok.kind,ok.glob,ok.blt,ok.above,ok.inj,ok.has,ok.Hu,ok.hd,ok.frames,ok.tQ,ok.JC,ok.bs,ok.Cs,ok.xw,ok.A8,ok.nN,ok.FF⟩
theorem Cx.Ok.unwish{X:Cx}{E:Value->ah->Prop}(ok:(X.wish E).Ok):X.Ok:=
 ⟨ok.mod,ok.kind,ok.glob,ok.blt,ok.above,ok.inj,ok.has,ok.Hu,ok.hd,ok.frames,ok.tQ,ok.JC,ok.bs,ok.Cs,ok.xw,ok.A8,ok.nN,ok.FF⟩
section
variable {X:Cx}{pins:List (Addr×Obj)}{σ:St}{H:Hp}{s:ah}{E:Value->ah->Prop}
theorem Inv.wish(I:Inv X pins σ H s)(E:Value->ah->Prop):Inv (X.wish E) pins σ H s:=⟨I.ok.wish E,I.os,I.bare,I.base,I.loc,I.cell,I.free,I.kz,I.pin,I.dR,I.len⟩
theorem Inv.unwish(I:Inv (X.wish E) pins σ H s):Inv X pins σ H s:=⟨I.ok.unwish,I.os,I.bare,I.base,I.loc,I.cell,I.free,I.kz,I.pin,I.dR,I.len⟩
theorem SP.unwish{D:Ends}{f:Flow}{s':ah}(h:SP (X.wish E) pins D f s'):SP X pins D f s':=by
 cases f with
 | next=>obtain⟨σ',H',I,q⟩:=h; exact⟨σ',H',I.unwish,q⟩
 | brk=>obtain⟨σ',H',I,q⟩:=h; exact⟨σ',H',I.unwish,q⟩
 | cont=>obtain⟨σ',H',I,q⟩:=h; exact⟨σ',H',I.unwish,q⟩
 | ret u=>obtain⟨v,σ',H',I,r,q⟩:=h; exact⟨v,σ',H',I.unwish,r,q⟩
theorem xY.nox{st:List Stmt}{t:TS}(h:xY X.nox st t):xY X st t:=fun pins s σ H D I hw=>
 cF (h pins s σ H D (I.wish _) hw) (fun _ _ q=>q.unwish) fun _ _ z=>e_ z
end
section
variable {X:Cx}{st:Stmt}{rest:List Stmt}{t u:TS}{e:Expr}{te:TE}{pos:Pos}
def Ij:TS:=fun D σ H=>D.nx σ H
def Je(t u:TS):TS:=fun D σ H=>t {D with nx:=u D} σ H
theorem lG:xY X [] Ij:=fun _ _ σ H _ I h=>rS ⟨σ,H,I,h⟩
theorem cE(h1:PS X st t)(h2:xY X rest u):xY X (st::rest) (Je t u):=by
 intro pins s σ H D I h
 refine wpAny_execs_cons (eQ (h1 pins s σ H {D with nx:=u D} I h) fun f s1 q=> ?_)
 cases f with
 | next=>
  obtain⟨σ',H',I',q⟩:=q
  exact h2 pins s1 σ' H' D I' q
 | ret v=>exact q
 | brk=>exact q
 | cont=>exact q
theorem ng(h1:PS X st t):xY X [st] t:=by
 intro pins s σ H D I h
 refine wpAny_execs_cons (eQ (h1 pins s σ H D I h) fun f s1 q=> ?_)
 cases f with
 | next=>exact rS q
 | ret v=>exact q
 | brk=>exact q
 | cont=>exact q
theorem Inv.quiet{pins:List (Addr×Obj)}{σ:St}{H:Hp}{s:ah}(I:Inv X pins σ H s):interactive X.env=false:=by simp [interactive,I.ok.kind]
def HC(te:TE):TS:=fun D σ H=>te σ H fun _ H1=>D.nx σ H1
theorem lM(he:PE X e te)(hs:cg e none pos.line X.env=pure false:=by rfl):PS X (.Expr e pos) (HC te):=by
 intro pins s σ H D I h
 exact wpAny_Expr_any (eQ (he pins s σ H _ I h) fun v s1 ⟨x,H1,I1,r1,q1⟩=>⟨σ,H1,I1,q1⟩) I.quiet hs
def IZ(te:TE):TS:=fun D σ H=>te σ H D.rt
theorem FV(he:PE X e te):PS X (.Return (some e) pos) (IZ te):=by
 intro pins s σ H D I h
 exact wpAny_Return_some (eQ (he pins s σ H _ I h) fun v s1 ⟨x,H1,I1,r1,q1⟩=>⟨x,σ,H1,I1,r1,q1⟩)
def Jy(c:TT)(t u:TS):TS:=fun D σ H=>c σ H fun b H1=>if b=true then t D σ H1 else u D σ H1
theorem y4{c:Expr}{a b:List Stmt}{tc:TT}(hc:PT X c tc)(ha:xY X a t)(hb:xY X b u):PS X (.If c a b pos) (Jy tc t u):=by
 intro pins s σ H D I h
 refine wpAny_If (eQ (hc pins s σ H _ I h) fun d s1 ⟨H1,I1,q1⟩=> ?_)
 cases d with
 | true=>exact ha pins s1 σ H1 D I1 q1
 | false=>exact hb pins s1 σ H1 D I1 q1
end
abbrev TG:=V->St->Hp->(St->Hp->Prop)->Prop
def PG(X:Cx)(target:Expr)(t:TG):Prop:=
 ∀(pins:List (Addr×Obj)) (s:ah) (σ:St) (H:Hp) (v:V) (u:Value) (Q:St->Hp->Prop),Inv X pins σ H s->RelV v u->t v σ H Q->
  wpAny (model X.prog X.w) X.A (n_ target X.env u) (fun _ s'=> ∃σ' H',Inv X pins σ' H' s'/\Q σ' H') X.xe s
abbrev Gm:=V->V->V->Hp->(Hp->Prop)->Prop
def HG(X:Cx)(t:Gm):Prop:=
 ∀(pins:List (Addr×Obj)) (s:ah) (σ:St) (H:Hp) (o i v:V) (ov iv u:Value) (Q:Hp->Prop),Inv X pins σ H s->RelV o ov->RelV i iv->RelV v u->t o i v H Q->
  wpAny (model X.prog X.w) X.A (setItem ov iv u) (fun _ s'=> ∃H',Inv X pins σ H' s'/\Q H') X.xe s
section
variable {X:Cx}{pos:Pos}
def Fv(i:Nat):TG:=fun v σ H Q=>Q (σ.set i (some v)) H
theorem pC{i:Nat}{x:Str}(hN:X.N.Nodup)(hi:X.N[i]? =some x)(hx:Loc X.env.scope x)(hf:X.fn x=true\/X.env.scope.names.lookup x=some .local:=by first | exact .inl rfl | exact .inr rfl | assumption):PG X (.Name x pos) (Fv i):=by
 intro pins s σ H v u Q I r h
 exact wpAny_assign_Name (wA I hN hi hx r (fun s' I'=>⟨_,H,I',h⟩) hf)
def Jb(to ti:TE)(t:Gm):TG:=fun v σ H Q=>to σ H fun o H1=>ti σ H1 fun i H2=>t o i v H2 fun H3=>Q σ H3
theorem FY{o i:Expr}{to ti:TE}{t:Gm}(ho:PE X o to)(hi:PE X i ti)(hs:HG X t)
  (ha: ∀v,n_ (.Subscript o i pos) X.env v=(do
   let ov<-jc [v] (eval o X.env)
   let iv<-jc [v,ov] (eval i X.env)
   standAt pos
   jc [v,ov,iv] (setItem ov iv v)
   release [v,ov,iv] []):=by intro _; rfl):PG X (.Subscript o i pos) (Jb to ti t):=by
 intro pins s σ H v u Q I r h
 rw [ha]
 refine aa (bD (eQ (ho pins s σ H _ I h) fun ov s1 ⟨x,H1,I1,r1,q1⟩=> ?_))
 refine aa (bD (eQ (hi pins s1 σ H1 _ I1 q1) fun iv s2 ⟨y,H2,I2,r2,q2⟩=> ?_))
 refine aa (wJ (aa (bD (eQ (hs pins s2 σ H2 x y v ov iv u _ I2 r1 r2 r q2) fun _ s3 ⟨H3,I3,q3⟩=> ?_))))
 exact wpAny_release ⟨σ,H3,I3,q3⟩
def HJ(te:TE)(g:TG):TS:=fun D σ H=>te σ H fun x H1=>g x σ H1 D.nx
theorem GN{tg e:Expr}{te:TE}{g:TG}(he:PE X e te)(hg:PG X tg g)(hs:swapsWithSole [tg] e pos.line X.env=pure false:=by rfl)(hw:swappedStores [tg] e X.env=pure none:=by rfl)
  (h1:(assignEach [tg] X.env).map (·.2)= [n_ tg X.env]:=by rfl):PS X (.Assign [tg] e pos) (HJ te g):=by
 intro pins s σ H D I h
 refine wpAny_Assign_stores (eQ (he pins s σ H _ I h) fun v s1 ⟨x,H1,I1,r1,q1⟩=> ?_) hs hw
 rw [h1]
 exact eQ (hg pins s1 σ H1 x v _ I1 r1 q1) fun _ s2 q=>q
theorem kU{i:Nat}{x:Str}{e:Expr}{te:TE}{pos':Pos}(hN:X.N.Nodup)(hi:X.N[i]? =some x)(hx:Loc X.env.scope x)(he:PE X e te)(hs:cg e (some (.Name x pos')) pos.line X.env=pure false:=by rfl)(hf:X.fn x=true\/X.env.scope.names.lookup x=some .local:=by first | exact .inl rfl | exact .inr rfl | assumption):
  PS X (.Assign [.Name x pos'] e pos) (HJ te (Fv i)):=by
 intro pins s σ H D I h
 refine wpAny_Assign_Name (eQ (he pins s σ H _ I h) fun v s1 ⟨y,H1,I1,r1,q1⟩=> ?_) hs
 exact wA I1 hN hi hx r1 (fun s2 I2=>⟨_,H1,I2,q1⟩) hf
end
section
variable {X:Cx}{pos:Pos}
def Hf(c:TT)(tb:TS):TS:=fun D σ H=> ∃W:Nat->St->Hp->Prop,(∃m,W m σ H)/\ ∀m σ H,W m σ H->
 c σ H fun b H1=>if b=true then ∃N:St->Hp->Prop,(∀σ' H',N σ' H'-> ∃m',m' < m/\W m' σ' H')/\tb {D with nx:=N,ct:=N,bk:=D.nx} σ H1 else D.nx σ H1
theorem vS{c:Expr}{body:List Stmt}{tc:TT}{tb:TS}(hp:mR (model X.prog X.w) X.A X.env X.xe)(hc:PT X c tc)(hb:xY X body tb):PS X (.While c body [] pos) (Hf tc tb):=by
 intro pins s σ H D I h
 obtain⟨W,⟨m0,w0⟩,turn⟩:=h
 refine wpAny_While (codeAny_whileLoop (fun n s'=> ∃σ' H',Inv X pins σ' H' s'/\W n σ' H') ?_ m0 ⟨σ,H,I,w0⟩)
 rintro n s1 ⟨σ1,H1,I1,w1⟩
 refine gF hp (eQ (hc pins s1 σ1 H1 _ I1 (turn n σ1 H1 w1)) fun b s2 ⟨H2,I2,q2⟩=> ?_)
 cases b with
 | true=>
  obtain⟨N,hN,q2⟩:=q2
  rw [if_pos rfl]
  refine gF hp (eQ (hb pins s2 σ1 H2 _ I2 q2) fun f s3 q3=> ?_)
  cases f with
  | next=>
   obtain⟨σ3,H3,I3,n3⟩:=q3
   obtain⟨m',hm,w3⟩:=hN σ3 H3 n3
   exact⟨m',hm,σ3,H3,I3,w3⟩
  | cont=>
   obtain⟨σ3,H3,I3,n3⟩:=q3
   obtain⟨m',hm,w3⟩:=hN σ3 H3 n3
   exact⟨m',hm,σ3,H3,I3,w3⟩
  | brk=>exact q3
  | ret v=>exact q3
 | false=>
  rw [if_neg az]
  exact rS ⟨σ1,H2,I2,q2⟩
end
structure It where
 go:Nat->Hp->Prop
 Jf:Nat->Hp->V->Hp->Prop
 stop:Nat->Hp->Prop
def kf(X:Cx)(pins:List (Addr×Obj))(H:Hp)(b:Addr):Prop:=
 H b=none/\b≠X.env.locals/\b∉X.fs/\(b∈X.ex\/X.s₀.heap.objs.size<=b)/\(∀x c,X.env.cells.lookup x=some c->c≠b)/\ ∀p∈X.pn ++ pins,p.1≠b
theorem Inv.fpOk{X:Cx}{pins:List (Addr×Obj)}{σ:St}{H H':Hp}{s:ah}{b:Addr}(I:Inv X pins σ H s)(hb:s.heap.objs.size<=b)(hn:H' b=none):kf X pins H' b:=by
 refine⟨hn,bY (aY I.lt hb),I.nofs hb, .inr (bg I.sz hb),fun x c e z=> ?_,fun p hp z=> ?_⟩
 ·obtain⟨v,q⟩:=I.cell x c e
  exact absurd (aY q.lt (by rw [z]; exact hb)) (e9 _)
 ·exact absurd (aY (ay (I.pin p hp).1) (by rw [z]; exact hb)) (e9 _)
structure Turn(P:ar)(w:World)(K:aH)(tg:Expr)(J:It)(fp:List Addr)(it:Addr)(tn:Nat->Heap->Prop):Prop where
 mem:it∈fp
 obj: ∀i h,tn i h-> ∀b∈fp, ∃o,h.get? b=some o/\ ∀v,o.data≠ .cell v
 keep: ∀i h h',tn i h->(∀b∈fp, ∀o,h.get? b=some o->h'.get? b=some o)->tn i h'
 item: ∀(X:Cx),X.prog=P->X.w=w->X.K=K->X.calm=true-> ∀(i:Nat) (pins:List (Addr×Obj)) (s:ah) (σ:St) (H:Hp) (E:Value->ah->Prop),Inv X pins σ H s->(∀b∈fp,kf X pins H b)->tn i s.heap->J.go i H->
  wpAny (model P w) X.A (g9 (.ref it)) (fun r s1=> ∃u,r=some u/\
   wpAny (model P w) X.A (rU tg (.ref it) u) (fun _ s2=> ∃x H',Inv X pins σ H' s2/\RelV x u/\J.Jf i H x H'/\tn (i+1) s2.heap/\ ∀b∈fp,H' b=none) E s1) E s
 done: ∀(X:Cx),X.prog=P->X.w=w->X.K=K->X.calm=true-> ∀(i:Nat) (pins:List (Addr×Obj)) (s:ah) (σ:St) (H:Hp) (E:Value->ah->Prop),Inv X pins σ H s->(∀b∈fp,kf X pins H b)->tn i s.heap->J.stop i H->
  wpAny (model P w) X.A (g9 (.ref it)) (fun r s1=>r=none/\Inv X pins σ H s1) E s
 self: ∀(A:bp) (i:Nat) (s:ah) (Q:Value->ah->Prop) (E:Value->ah->Prop),tn i s.heap->Q (.ref it) s->wpAny (model P w) A (qV (.ref it)) Q E s
abbrev TI:=St->Hp->(It->Hp->Prop)->Prop
def Ji(X:Cx)(pins:List (Addr×Obj))(σ:St)(tg:Expr)(R:It->Hp->Prop)(itv:Value)(s2:ah):Prop:=
 ∃(it:Addr) (fp:List Addr) (tn:Nat->Heap->Prop) (J:It) (H':Hp),itv= .ref it/\Inv X pins σ H' s2/\Turn X.prog X.w X.K tg J fp it tn/\tn 0 s2.heap/\(∀b∈fp,kf X pins H' b)/\R J H'
def PI(X:Cx)(tg iter:Expr)(wi:TI):Prop:=
 ∀(pins:List (Addr×Obj)) (s:ah) (σ:St) (H:Hp) (R:It->Hp->Prop),Inv X pins σ H s->wi σ H R->
  wpAny (model X.prog X.w) X.A (eval iter X.env) (fun v s1=>wpAny (model X.prog X.w) X.A (qV v) (Ji X pins σ tg R) X.xe s1) X.xe s
theorem yI{M:Model}{A:bp}{E:Value->ah->Prop}{s:ah}{tg:Expr}{it:Addr}{u:Value}{o:Obj}{n:String}{vs:Array Value}{Q:Unit->ah->Prop}(ho:s.heap.get? it=some o)(hc:o.cls= .type n)(hd:o.data= .fields vs)
    (hn: ["enumerate","zip","dict_itemiterator","dict_reverseitemiterator","odict_iterator","itertools.zip_longest","itertools.pairwise"].contains n=false)(hQ:Q () s):wpAny M A (rU tg (.ref it) u) Q E s:=by
  unfold rU
  cases tg <;> first
    | exact af hQ
    | (cases u <;> first
        | exact af hQ
        | (refine aa (wpAny_load ho ?_)
           rw [hc,hd]
           show wpAny M A (if(["enumerate","zip","dict_itemiterator","dict_reverseitemiterator","odict_iterator","itertools.zip_longest","itertools.pairwise"].contains n&&vs[0]? ==some (dX _))=true then _ else _) Q E s
           rw [if_neg (by intro h; rw [hn,fV]at h; cases h)]
           exact af hQ))
def JB(K:aH)(a:Addr):It:=
 ⟨fun i H=> ∃xs x,kR K H a xs/\xs[i]? =some x,fun i H x H'=>H'=H/\ ∀xs,kR K H a xs->xs[i]? =some x,fun i H=> ∃xs,kR K H a xs/\xs.length<=i⟩
def JS(K:aH)(a:Addr):It:=
 ⟨fun i H=> ∃xs x,i4 K H a xs/\xs[i]? =some x,fun i H x H'=>H'=H/\ ∀xs,i4 K H a xs->xs[i]? =some x,fun i H=> ∃xs,i4 K H a xs/\xs.length<=i⟩
def HX(lo:Int)(n:Nat):It:=⟨fun i _=>i < n,fun i H x H'=>H'=H/\x= .int (lo+i),fun i _=>n<=i⟩
theorem Aa{P:ar}{w:World}{K:aH}{tg:Expr}(a it:Addr):Turn P w K tg (JB K a) [it] it (fun i h=>h.IsListIter it a i) where
 mem:=by simp
 obj:=fun i h st b hb=>by
  have e:b=it:=by simpa using hb
  subst e
  obtain⟨o,e,c,d⟩:=st
  exact⟨o,e,fun v z=>by rw [d]at z; cases z⟩
 keep:=fun i h h' st k=>st.at fun o e=>k it (by simp) o e
 item:=by
  intro X hP hw hK hc i pins s σ H E I hf st hg
  subst hP hw hK
  obtain⟨xs,x,hq,hx⟩:=hg
  obtain⟨bL,rv,p,hz⟩:=I.list hq
  obtain⟨u,hu,ru⟩:=rv.get hx
  obtain⟨f0,f1,f2,f3,f4,f5⟩:=hf it (by simp)
  refine wpAny_pyNext_list_item st p.isList (x:=u) (by simpa using hu) fun h' st' sb=> ?_
  have I1:Inv X pins σ H {s with heap:=h'}:=I.turned (t':=s.toks) (fun b o hb e=>(sb.2 b hb).trans e) f0 f1 f3 f4 f5
  obtain⟨o,e,c,d⟩:=id st'
  exact⟨u,rfl,yI (s:={s with heap:=h'}) e c d (by decide) ⟨x,H,I1,ru,⟨rfl,fun ys hy=>by rw [I.list_inj hy hq]; exact hx⟩,st',fun b hb=>(hf b hb).1⟩⟩
 done:=by
  intro X hP hw hK hc i pins s σ H E I hf st hg
  subst hP hw hK
  obtain⟨xs,hq,hx⟩:=hg
  obtain⟨bL,rv,p,hz⟩:=I.list hq
  obtain⟨f0,f1,f2,f3,f4,f5⟩:=hf it (by simp)
  have hl:=rv.length
  exact wpAny_pyNext_list_end (I.ok.hd hc) st p.isList (by simp; omega) fun h' eb=>⟨rfl,I.turned (t':=s.toks) (fun b o hb e=>eb b o hb e) f0 f1 f3 f4 f5⟩
 self:=fun _ _ _ _ _ st h=>wpAny_pyIter_listiter st h
theorem xm{P:ar}{w:World}{K:aH}{tg:Expr}(a it:Addr):Turn P w K tg (JS K a) [it] it (fun i h=>h.IsTupleIter it a i) where
 mem:=by simp
 obj:=fun i h st b hb=>by
  have e:b=it:=by simpa using hb
  subst e
  obtain⟨o,e,c,d⟩:=st
  exact⟨o,e,fun v z=>by rw [d]at z; cases z⟩
 keep:=fun i h h' st k=>st.at fun o e=>k it (by simp) o e
 item:=by
  intro X hP hw hK hc i pins s σ H E I hf st hg
  subst hP hw hK
  obtain⟨xs,x,hq,hx⟩:=hg
  obtain⟨bL,rv,p,hz⟩:=I.tuple hq
  obtain⟨u,hu,ru⟩:=rv.get hx
  obtain⟨f0,f1,f2,f3,f4,f5⟩:=hf it (by simp)
  refine wpAny_pyNext_tuple_item st (show s.heap.IsTuple a bL.toArray from p) (x:=u) (by simpa using hu) fun h' st' sb=> ?_
  have I1:Inv X pins σ H {s with heap:=h'}:=I.turned (t':=s.toks) (fun b o hb e=>(sb.2 b hb).trans e) f0 f1 f3 f4 f5
  obtain⟨o,e,c,d⟩:=id st'
  exact⟨u,rfl,yI (s:={s with heap:=h'}) e c d (by decide) ⟨x,H,I1,ru,⟨rfl,fun ys hy=>by rw [I.tuple_inj hy hq]; exact hx⟩,st',fun b hb=>(hf b hb).1⟩⟩
 done:=by
  intro X hP hw hK hc i pins s σ H E I hf st hg
  subst hP hw hK
  obtain⟨xs,hq,hx⟩:=hg
  obtain⟨bL,rv,p,hz⟩:=I.tuple hq
  obtain⟨f0,f1,f2,f3,f4,f5⟩:=hf it (by simp)
  have hl:=rv.length
  exact wpAny_pyNext_tuple_end (I.ok.hd hc) st (show s.heap.IsTuple a bL.toArray from p) (by simp; omega) fun h' eb=>⟨rfl,I.turned (t':=s.toks) (fun b o hb e=>eb b o hb e) f0 f1 f3 f4 f5⟩
 self:=fun _ _ _ _ _ st h=>wpAny_pyIter_tupleiter st h
theorem xj{P:ar}{w:World}{K:aH}{tg:Expr}(it:Addr)(lo:Int)(n:Nat):Turn P w K tg (HX lo n) [it] it (fun i h=>IsRangeIter h it (lo+(i:Nat) * 1) ((n:Int) - (i:Nat)) 1) where
 mem:=by simp
 obj:=fun i h st b hb=>by
  have e:b=it:=by simpa using hb
  subst e
  exact⟨_,st,fun v z=>by
   have z':Data.fields _=Data.cell v:=z
   cases z'⟩
 keep:=fun i h h' st k=>k it (by simp) _ st
 item:=by
  intro X hP hw hK hc i pins s σ H E I hf st hg
  subst hP hw hK
  obtain⟨f0,f1,f2,f3,f4,f5⟩:=hf it (by simp)
  have W:=Walks.range (prog:=X.prog) (w:=X.w) (I.ok.hd hc) it lo 1 n
  refine W.item i s _ _ hg st fun v h' tk hv st' kk=> ?_
  obtain⟨t,rfl⟩:=hv
  have I1:Inv X pins σ H {s with heap:=h',toks:=tk}:=I.turned (fun b o hb e=>kk b o (by simpa using hb) e) f0 f1 f3 f4 f5
  refine⟨_,rfl,yI (s:={s with heap:=h',toks:=tk}) (n:="range_iterator") st' rfl rfl (by decide) ⟨.int (lo+i),H,I1,⟨t, ?_⟩,⟨rfl,rfl⟩,st',fun b hb=>(hf b hb).1⟩⟩
  rw [Int.mul_one]
 done:=by
  intro X hP hw hK hc i pins s σ H E I hf st hg
  subst hP hw hK
  obtain⟨f0,f1,f2,f3,f4,f5⟩:=hf it (by simp)
  exact wpAny_pyNext_range_end (I.ok.hd hc) st (by have:n<=i:=hg; omega) fun h' eb=>⟨rfl,I.turned (t':=s.toks) (fun b o hb e=>eb b o hb e) f0 f1 f3 f4 f5⟩
 self:=fun _ _ _ _ _ st h=>wpAny_pyIter_rangeiter st h
end L2
namespace L2
open PySem PySem.Spec PyProof.Rows
section
variable {X:Cx}{tg:Expr}
def HM(K:aH)(tl:TE):TI:=fun σ H R=>tl σ H fun x H1=> ∃a,x= .ref a/\(∃xs,kR K H1 a xs)/\R (JB K a) H1
def JI(K:aH)(tl:TE):TI:=fun σ H R=>tl σ H fun x H1=> ∃a,x= .ref a/\(∃xs,i4 K H1 a xs)/\R (JS K a) H1
theorem ug{l:Expr}{tl:TE}(hl:PE X l tl):PI X tg l (HM X.K tl):=by
 intro pins s σ H R I h
 refine eQ (hl pins s σ H _ I h) fun v s1 ⟨x,H1,I1,r1,q1⟩=> ?_
 obtain⟨a,e,⟨xs,hq⟩,q⟩:=q1
 subst e
 cases r1
 obtain⟨bL,rv,p,hz⟩:=I1.list hq
 refine oO p.isList ?_
 refine⟨s1.heap.objs.size, [s1.heap.objs.size],_,_,H1,rfl,I1.kept (t':=s1.toks) fun b o e=>ag _ e,Aa a _,⟨_,au _ rfl,rfl,rfl⟩,fun b hb=> ?_,q⟩
 have e:b=s1.heap.objs.size:=by simpa using hb
 subst e
 exact I1.fpOk (aw _) (I1.dR.fresh (aw _))
theorem Hg{l:Expr}{tl:TE}(hl:PE X l tl):PI X tg l (JI X.K tl):=by
 intro pins s σ H R I h
 refine eQ (hl pins s σ H _ I h) fun v s1 ⟨x,H1,I1,r1,q1⟩=> ?_
 obtain⟨a,e,⟨xs,hq⟩,q⟩:=q1
 subst e
 cases r1
 obtain⟨bL,rv,p,hz⟩:=I1.tuple hq
 refine Dx (show s1.heap.IsTuple a bL.toArray from p) ?_
 refine⟨s1.heap.objs.size, [s1.heap.objs.size],_,_,H1,rfl,I1.kept (t':=s1.toks) fun b o e=>ag _ e,xm a _,⟨_,au _ rfl,rfl,rfl⟩,fun b hb=> ?_,q⟩
 have e:b=s1.heap.objs.size:=by simpa using hb
 subst e
 exact I1.fpOk (aw _) (I1.dR.fresh (aw _))
theorem vB{pins:List (Addr×Obj)}{σ:St}{H:Hp}{s:ah}{R:It->Hp->Prop}{E:Value->ah->Prop}{lo hi:Int}{t u v:Tok}{tk:Nat}(I:Inv X pins σ H s)(h1: -(2 ^ 62)<=lo)(h2:lo < 2 ^ 62)(h3: -(2 ^ 62)<=hi)(h4:hi < 2 ^ 62)
  (q:R (HX lo (hi - lo).toNat) H):wpAny (model X.prog X.w) X.A (qV (.ref s.heap.objs.size)) (Ji X pins σ tg R) E {s with heap:=s.heap.push {cls:= .type "range",data:= .fields #[.int lo t, .int hi u, .int 1 v]},toks:=tk}:=by
 refine wpAny_pyIter_range (IsRange.new ..) (small_one h1 h2 h3 h4) ?_
 have I1:Inv X pins σ H {s with heap:=s.heap.push {cls:= .type "range",data:= .fields #[.int lo t, .int hi u, .int 1 v]},toks:=tk}:=I.kept fun b o e=>ag _ e
 refine⟨(s.heap.push {cls:= .type "range",data:= .fields #[.int lo t, .int hi u, .int 1 v]}).objs.size, [(s.heap.push {cls:= .type "range",data:= .fields #[.int lo t, .int hi u, .int 1 v]}).objs.size],_,_,H,rfl,
  I1.kept (t':=tk) fun b o e=>ag _ e,xj _ lo (hi - lo).toNat, ?_,fun b hb=> ?_,q⟩
 ·have e1:lo+((0:Nat):Int) * 1=lo:=by simp
  have e2:(((hi - lo).toNat:Nat):Int) - ((0:Nat):Int)=Builtin.Range.rangeSize lo hi 1:=by rw [rangeSize_one]; split <;> omega
  show IsRangeIter _ _ (lo+((0:Nat):Int) * 1) ((((hi - lo).toNat:Nat):Int) - ((0:Nat):Int)) 1
  rw [e1,e2]
  exact au _ rfl
 ·have e:b=(s.heap.push {cls:= .type "range",data:= .fields #[.int lo t, .int hi u, .int 1 v]}).objs.size:=by simpa using hb
  subst e
  exact I1.fpOk (aw _) (I1.dR.fresh (aw _))
def Ik(ta:TA):TI:=fun σ H R=>ta σ H fun vs H1=> ∃j:Int,vs= [.int j]/\ -(2 ^ 62)<=j/\j < 2 ^ 62/\R (HX 0 j.toNat) H1
def Ib(ta:TA):TI:=fun σ H R=>ta σ H fun vs H1=> ∃i j:Int,vs= [.int i, .int j]/\(-(2 ^ 62)<=i/\i < 2 ^ 62/\ -(2 ^ 62)<=j/\j < 2 ^ 62)/\R (HX i (j - i).toNat) H1
theorem zt{a:Expr}{ta:TA}{p pos:Pos}(hg:Gl X "range")(hm:X.mg "range"=none)(ha:PA X [a] ta)(hs:aq [a] X.env= [(false,eval a X.env)]:=by rfl):PI X tg (.Call (.Name "range" p) [a] [] pos) (Ik ta):=by
 intro pins s σ H R I h
 refine Call_ (nU I hg hm boot_range (jd (eQ (ha pos pins s σ H _ I h) fun us s1 ⟨vs,H1,I1,r1,q1⟩=> ?_) hs rfl))
 obtain⟨j,e,q1,q2,q⟩:=q1
 subst e
 cases r1 with
 | cons r rr=>
  cases rr
  obtain⟨t,rfl⟩:=r
  exact call_range_1 (vB I1 (by omega) (by omega) q1 q2 (by simpa using q))
theorem zP{a b:Expr}{ta:TA}{p pos:Pos}(hg:Gl X "range")(hm:X.mg "range"=none)(ha:PA X [a,b] ta)(hs:aq [a,b] X.env= [(false,eval a X.env),(false,eval b X.env)]:=by rfl)(hs2:aq [b] X.env= [(false,eval b X.env)]:=by rfl):
  PI X tg (.Call (.Name "range" p) [a,b] [] pos) (Ib ta):=by
 intro pins s σ H R I h
 refine Call_ (nU I hg hm boot_range (jd (eQ (ha pos pins s σ H _ I h) fun us s1 ⟨vs,H1,I1,r1,q1⟩=> ?_) (by rw [hs,hs2]) (by rw [hs2]; rfl)))
 obtain⟨i,j,e,⟨q1,q2,q3,q4⟩,q⟩:=q1
 subst e
 cases r1 with
 | cons r rr=>
  cases rr with
  | cons r' rr=>
   cases rr
   obtain⟨t,rfl⟩:=r
   obtain⟨t',rfl⟩:=r'
   exact call_range_2 (vB I1 q1 q2 q3 q4 q)
def JL(wi:TI)(g:TG)(tb:TS):TS:=fun D σ H=>wi σ H fun J H1=> ∃W:Nat->Nat->St->Hp->Prop,(∃m,W 0 m σ H1)/\ ∀i m σ H,W i m σ H->
 (J.stop i H/\D.nx σ H)\/(J.go i H/\ ∃N:St->Hp->Prop,(∀σ' H',N σ' H'-> ∃m',m' < m/\W (i+1) m' σ' H')/\ ∀x H',J.Jf i H x H'->g x σ H' fun σ2 H2=>tb {D with nx:=N,ct:=N,bk:=D.nx} σ2 H2)
def uB(fp:List Addr)(h:Heap):List (Addr×Obj):=fp.filterMap fun b=>(h.get? b).map fun o=>(b,o)
theorem j_{fp:List Addr}{h:Heap}{b:Addr}{o:Obj}(hb:b∈fp)(e:h.get? b=some o):(b,o)∈uB fp h:=List.mem_filterMap.mpr ⟨b,hb,by rw [e]; rfl⟩
theorem zH{fp:List Addr}{h:Heap}{p:Addr×Obj}(hp:p∈uB fp h):p.1∈fp/\h.get? p.1=some p.2:=by
 obtain⟨b,hb,e⟩:=List.mem_filterMap.mp hp
 cases q:h.get? b with
 | none=>rw [q]at e; cases e
 | some o=>
  rw [q]at e
  have e':(b,o)=p:=aK e
  subst e'
  exact⟨hb,q⟩
theorem Inv.pinned{pins:List (Addr×Obj)}{σ:St}{H:Hp}{s:ah}{fp:List Addr}(I:Inv X pins σ H s)(hf: ∀b∈fp,kf X pins H b)(ho: ∀b∈fp, ∃o,s.heap.get? b=some o/\ ∀v,o.data≠ .cell v):Inv X (pins ++ uB fp s.heap) σ H s:=
 I.pins_of fun p hp=>(bh.mp hp).elim (fun z=>I.pin p (bK _ z)) fun z=>by
  obtain⟨hb,e⟩:=zH z
  obtain⟨f0,f1,f2,_⟩:=hf p.1 hb
  obtain⟨o,e',d⟩:=ho p.1 hb
  rw [e]at e'; cases e'
  exact⟨e,f0,f1,f2,d⟩
theorem Inv.unpinned{pins pl:List (Addr×Obj)}{σ:St}{H:Hp}{s:ah}(I:Inv X (pins ++ pl) σ H s):Inv X pins σ H s:=I.pins_of fun p hp=>I.pin p (bK _ (eT _ hp))
theorem xr{iter:Expr}{body:List Stmt}{wi:TI}{g:TG}{tb:TS}{pos:Pos}(hp:mR (model X.prog X.w) X.A X.env X.xe)(hc:X.calm=true)(hi:PI X tg iter wi)(hg:PG X tg g)(hb:xY X body tb)
  (hs: ∀x,g_ iter X.env x=pure x:=by intro _; rfl):PS X (.For tg iter body [] pos) (JL wi g tb):=by
 intro pins s σ H D I h
 refine wpAny_For (eQ (hi pins s σ H _ I h) fun v s1 h1=>eQ h1 fun itv s2 h2=> ?_) hs
 obtain⟨it,fp,tn,J,H2,e,I2,T,st2,f2,W,⟨m0,w0⟩,turn⟩:=h2
 subst e
 have stat: ∀{H':Hp},(∀b∈fp,H' b=none)-> ∀b∈fp,kf X pins H' b:=fun hn b hb=>⟨hn b hb,(f2 b hb).2⟩
 refine codeAny_forLoop_any (fun n s'=> ∃i σ' H',Inv X pins σ' H' s'/\tn i s'.heap/\(∀b∈fp,H' b=none)/\W i n σ' H') ?_ m0 ⟨0,σ,H2,I2,st2,fun b hb=>(f2 b hb).1,w0⟩
 rintro n s3 ⟨i,σ3,H3,I3,st3,fr3,w3⟩
 rcases turn i n σ3 H3 w3 with⟨stop,qn⟩ | ⟨go,N,hN,step⟩
 ·refine gF hp (eQ (T.done X rfl rfl rfl hc i pins s3 σ3 H3 X.xe I3 (stat fr3) st3 stop) fun r s4 ⟨hr,I4⟩=> ?_)
  subst hr
  exact rS ⟨σ3,H3,I4,qn⟩
 ·refine gF hp (eQ (T.item X rfl rfl rfl hc i pins s3 σ3 H3 X.xe I3 (stat fr3) st3 go) fun r s4 ⟨u,hr,h4⟩=> ?_)
  subst hr
  refine gF hp (eQ h4 fun _ s5 ⟨x,H5,I5,r5,y5,st5,fr5⟩=> ?_)
  have I5':=I5.pinned (stat fr5) (T.obj _ _ st5)
  refine gF hp (eQ (hg _ s5 σ3 H5 x u _ I5' r5 (step x H5 y5)) fun _ s6 ⟨σ6,H6,I6,q6⟩=> ?_)
  refine gF hp (eQ (hb _ s6 σ6 H6 _ I6 q6) fun f s7 q7=> ?_)
  have again: ∀{σ7:St} {H7:Hp},Inv X (pins ++ uB fp s5.heap) σ7 H7 s7->N σ7 H7-> ∃m,m < n/\ ∃i σ' H',Inv X pins σ' H' s7/\tn i s7.heap/\(∀b∈fp,H' b=none)/\W i m σ' H':=fun{σ7 H7} I7 n7=>by
   obtain⟨m',hm,w7⟩:=hN σ7 H7 n7
   refine⟨m',hm,i+1,σ7,H7,I7.unpinned,T.keep _ _ _ st5 fun b hb o e=>(I7.pin (b,o) (bK _ (bK _ (j_ hb e)))).1,fun b hb=> ?_,w7⟩
   obtain⟨o,e,d⟩:=T.obj _ _ st5 b hb
   exact(I7.pin (b,o) (bK _ (bK _ (j_ hb e)))).2.1
  cases f with
  | next=>obtain⟨σ7,H7,I7,n7⟩:=q7; exact again I7 n7
  | cont=>obtain⟨σ7,H7,I7,n7⟩:=q7; exact again I7 n7
  | brk=>obtain⟨σ7,H7,I7,q7⟩:=q7; exact⟨σ7,H7,I7.unpinned,q7⟩
  | ret v=>obtain⟨x7,σ7,H7,I7,r7,q7⟩:=q7; exact⟨x7,σ7,H7,I7.unpinned,r7,q7⟩
end
end L2
namespace L2
open PySem PySem.Spec PyProof.Rows
abbrev R2:=V->V->Hp->VK->Prop
def l7(X:Cx)(f:Value->Value->Sem Value)(r:R2):Prop:=
 ∀(pins:List (Addr×Obj)) (s:ah) (σ:St) (H:Hp) (x y:V) (v u:Value) (Q:VK),Inv X pins σ H s->RelV x v->RelV y u->r x y H Q->
  wpAny (model X.prog X.w) X.A (f v u) (EP X pins σ Q) X.xe s
def gf(X:Cx)(f:Value)(r:List V->Hp->VK->Prop):Prop:=
 ∀(pins:List (Addr×Obj)) (s:ah) (σ:St) (H:Hp) (xs:List V) (us:List Value) (Q:VK),Inv X pins σ H s->Vals xs us->r xs H Q->
  wpAny (model X.prog X.w) X.A (call f us) (EP X pins σ Q) X.xe s
def IM(r:R2)(ta tb:TE):TE:=fun σ H Q=>ta σ H fun x H1=>tb σ H1 fun y H2=>r x y H2 Q
def rI(C:Int->Int->Prop)(g:Int->Int->V):R2:=fun x y H Q=> ∃i j,x= .int i/\y= .int j/\C i j/\Q (g i j) H
def Ea(g:Int->Int->V):R2:=fun x y H Q=> ∃i j,x= .int i/\y= .int j/\Q (g i j) H
section
variable {X:Cx}{a b c:Expr}{ta tb tc:TE}{pos:Pos}
theorem Gh(ha:PE X a ta)(hb:PE X b tb){pins:List (Addr×Obj)}{s:ah}{σ:St}{H:Hp}{R:V->V->Hp->Prop}(I:Inv X pins σ H s)
  (h:ta σ H fun x H1=>tb σ H1 fun y H2=>R x y H2){Q:Value->ah->Prop}{f:Value->Value->Sem Value}
  (hf: ∀v u s2 x y H2,Inv X pins σ H2 s2->RelV x v->RelV y u->R x y H2->wpAny (model X.prog X.w) X.A (f v u) Q X.xe s2):
  wpAny (model X.prog X.w) X.A (eval a X.env) (fun v s₁=>wpAny (model X.prog X.w) X.A (eval b X.env) (fun u s₂=>wpAny (model X.prog X.w) X.A (f v u) Q X.xe s₂) X.xe s₁) X.xe s:=by
 refine eQ (ha pins s σ H _ I h) fun v s1 ⟨x,H1,I1,r1,q1⟩=> ?_
 refine eQ (hb pins s1 σ H1 _ I1 q1) fun u s2 ⟨y,H2,I2,r2,q2⟩=> ?_
 exact hf v u s2 x y H2 I2 r1 r2 q2
theorem C9{op:Operator}{r:R2}(ho:l7 X (iQ op) r)(ha:PE X a ta)(hb:PE X b tb):PE X (.BinOp a op b pos) (IM r ta tb):=by
 intro pins s σ H Q I h
 exact wpAny_BinOp (Gh ha hb I h fun v u s2 x y H2 I2 rx ry q=>ho pins s2 σ H2 x y v u Q I2 rx ry q)
theorem Jh{f:Value->Value->Sem Value}{C:Int->Int->Prop}{g:Int->Int->Int}
  (rule: ∀(i j:Int) (t u:Tok) (s:ah) (Q:Value->ah->Prop) (E:Value->ah->Prop),C i j->Q (.int (g i j) s.toks) {s with toks:=s.toks+1}->wpAny (model X.prog X.w) X.A (f (.int i t) (.int j u)) Q E s):
  l7 X f (rI C fun i j=> .int (g i j)):=by
 intro pins s σ H x y v u Q I rx ry h
 obtain⟨i,j,rfl,rfl,hc,q⟩:=h
 obtain⟨t,rfl⟩:=rx
 obtain⟨t',rfl⟩:=ry
 exact rule i j t t' s _ _ hc ⟨.int (g i j),H,I.tok _,⟨_,rfl⟩,q⟩
theorem Hy{f:Value->Value->Sem Value}{g:Int->Int->Int}
  (rule: ∀(i j:Int) (t u:Tok) (s:ah) (Q:Value->ah->Prop) (E:Value->ah->Prop),Q (.int (g i j) s.toks) {s with toks:=s.toks+1}->wpAny (model X.prog X.w) X.A (f (.int i t) (.int j u)) Q E s):
  l7 X f (Ea fun i j=> .int (g i j)):=by
 intro pins s σ H x y v u Q I rx ry h
 obtain⟨i,j,rfl,rfl,q⟩:=h
 obtain⟨t,rfl⟩:=rx
 obtain⟨t',rfl⟩:=ry
 exact rule i j t t' s _ _ ⟨.int (g i j),H,I.tok _,⟨_,rfl⟩,q⟩
theorem E8{f:Value->Value->Sem Value}{g:Int->Int->Bool}
  (rule: ∀(i j:Int) (t u:Tok) (s:ah) (Q:Value->ah->Prop) (E:Value->ah->Prop),Q (.bool (g i j)) s->wpAny (model X.prog X.w) X.A (f (.int i t) (.int j u)) Q E s):
  l7 X f (Ea fun i j=> .bl (g i j)):=by
 intro pins s σ H x y v u Q I rx ry h
 obtain⟨i,j,rfl,rfl,q⟩:=h
 obtain⟨t,rfl⟩:=rx
 obtain⟨t',rfl⟩:=ry
 exact rule i j t t' s _ _ ⟨.bl (g i j),H,I,rfl,q⟩
def HR(i j:Int):Prop:=0 < j/\j < 1073741824
def Eg(i j:Int):Prop:=(-(2 ^ 64) < i/\i < 2 ^ 64)\/(-(2 ^ 64) < j/\j < 2 ^ 64)
theorem Eg.ok{i j:Int}(h:Eg i j):IntMulOk i j:=by
 rcases h with⟨h1,h2⟩ | ⟨h1,h2⟩
 ·exact .of_left (intBits_le_64 h1 h2)
 ·exact .of_right (intBits_le_64 h1 h2)
theorem Gi:l7 X (iQ .Add) (Ea fun i j=> .int (i+j)):=Hy fun _ _ _ _ _ _ _ q=>add_int q
theorem Ha:l7 X (iQ .Sub) (Ea fun i j=> .int (i - j)):=Hy fun _ _ _ _ _ _ _ q=>sub_int q
theorem Gr:l7 X (iQ .Mult) (rI Eg fun i j=> .int (i * j)):=Jh fun _ _ _ _ _ _ _ hc q=>mul_int q hc.ok
theorem Eh:l7 X (iQ .FloorDiv) (rI HR fun i j=> .int (i / j)):=Jh fun i j _ _ _ _ _ hc q=>by
 have h1:(0:Int) < j:=hc.1
 have h2:j < 1073741824:=hc.2
 exact floordiv_int (by omega) (by rw [Int.fdiv_eq_ediv_of_nonneg i (by omega)]; exact q) (.inl (PyProof.noPylong_small (by omega)))
theorem Gy:l7 X (iQ .Mod) (rI (fun _ j=>0 < j) fun i j=> .int (i % j)):=Jh fun i j _ _ _ _ _ hc q=>by
 have h1:(0:Int) < j:=hc
 exact mod_int' (by omega) (by rw [Int.fmod_eq_emod_of_nonneg i (by omega)]; exact q)
end
def HD:V->V->Bool
 | .non, .non=>true | .non, .int _=>true | .int _, .non=>true | .non, .bl _=>true | .bl _, .non=>true | .non, .str _=>true | .str _, .non=>true
 | .int _, .int _=>true | .bl _, .bl _=>true | .str _, .str _=>true | .byt _, .byt _=>true
 | .int _, .str _=>true | .str _, .int _=>true | .bl _, .str _=>true | .str _, .bl _=>true
 | _,_=>false
def K0:R2:=fun x y H Q=>HD x y=true/\Q (.bl (decide (x=y))) H
def K2:R2:=fun x y H Q=>HD x y=true/\Q (.bl (!decide (x=y))) H
theorem yT{i j:Int}:decide (V.int i=V.int j)=(i==j):=by
 rw [lX]
 simp
theorem C8{i j:Bool}:decide (V.bl i=V.bl j)=(i==j):=by
 rw [lX]
 simp
theorem yN{i j:Str}:decide (V.str i=V.str j)=(i==j):=by
 rw [lX]
 simp
theorem yU{i j:Array UInt8}:decide (V.byt i=V.byt j)=(i.toList==j.toList):=by
 rw [lX]
 cases i
 cases j
 simp
section
variable {X:Cx}{a b c:Expr}{ta tb tc:TE}{pos:Pos}
theorem cL{pins:List (Addr×Obj)}{σ:St}{H:Hp}{s:ah}{Q:VK}{k k':Bool}(I:Inv X pins σ H s)(q:Q (.bl k) H)(e:k=k'):EP X pins σ Q (.bool k') s:=by
 subst e
 exact⟨.bl k,H,I,rfl,q⟩
theorem Ic:l7 X (cj .Eq) K0:=by
 intro pins s σ H x y v u Q I rx ry h
 obtain⟨hs,q⟩:=h
 cases x with
 | non=>
  cases rx
  cases y with
  | non=>cases ry; exact PySem.EqNone.eq_none_none (cL I q (by simp))
  | bl j=>cases ry; exact PySem.EqNone.eq_none_bool (cL I q (by simp))
  | int j=>obtain⟨t',rfl⟩:=ry; exact PySem.EqNone.eq_none_int (cL I q (by simp))
  | str j=>obtain⟨t',rfl⟩:=ry; exact PySem.EqNone.eq_none_str (cL I q (by simp))
  | _=>exact absurd (show false=true from hs) az
 | bl i=>
  cases rx
  cases y with
  | non=>cases ry; exact PySem.EqNone.eq_bool_none (cL I q (by simp))
  | bl j=>cases ry; exact eq_bool (cL I q C8)
  | str j=>obtain⟨t',rfl⟩:=ry; exact PySem.EqMixed.eq_bool_str (cL I q (by simp))
  | _=>exact absurd (show false=true from hs) az
 | int i=>
  obtain⟨t,rfl⟩:=rx
  cases y with
  | non=>cases ry; exact PySem.EqNone.eq_int_none (cL I q (by simp))
  | int j=>obtain⟨t',rfl⟩:=ry; exact eq_int (cL I q yT)
  | str j=>obtain⟨t',rfl⟩:=ry; exact PySem.EqMixed.eq_int_str (cL I q (by simp))
  | _=>exact absurd (show false=true from hs) az
 | str i=>
  obtain⟨t,rfl⟩:=rx
  cases y with
  | non=>cases ry; exact PySem.EqNone.eq_str_none (cL I q (by simp))
  | bl j=>cases ry; exact PySem.EqMixed.eq_str_bool (cL I q (by simp))
  | int j=>obtain⟨t',rfl⟩:=ry; exact PySem.EqMixed.eq_str_int (cL I q (by simp))
  | str j=>obtain⟨t',rfl⟩:=ry; exact eq_str (cL I q yN)
  | _=>exact absurd (show false=true from hs) az
 | byt i=>
  obtain⟨t,rfl⟩:=rx
  cases y with
  | byt j=>obtain⟨t',rfl⟩:=ry; exact PySem.W.eq_bytes (cL I q yU)
  | _=>exact absurd (show false=true from hs) az
 | _=>cases y <;> exact absurd (show false=true from hs) az
theorem Ie:l7 X (cj .NotEq) K2:=by
 intro pins s σ H x y v u Q I rx ry h
 obtain⟨hs,q⟩:=h
 cases x with
 | non=>
  cases rx
  cases y with
  | non=>cases ry; exact PySem.EqNone.ne_none_none (cL I q (by simp))
  | bl j=>cases ry; exact PySem.EqNone.ne_none_bool (cL I q (by simp))
  | int j=>obtain⟨t',rfl⟩:=ry; exact PySem.EqNone.ne_none_int (cL I q (by simp))
  | str j=>obtain⟨t',rfl⟩:=ry; exact PySem.EqNone.ne_none_str (cL I q (by simp))
  | _=>exact absurd (show false=true from hs) az
 | bl i=>
  cases rx
  cases y with
  | non=>cases ry; exact PySem.EqNone.ne_bool_none (cL I q (by simp))
  | bl j=>cases ry; exact ne_bool (cL I q (congrArg not C8))
  | str j=>obtain⟨t',rfl⟩:=ry; exact PySem.EqMixed.ne_bool_str (cL I q (by simp))
  | _=>exact absurd (show false=true from hs) az
 | int i=>
  obtain⟨t,rfl⟩:=rx
  cases y with
  | non=>cases ry; exact PySem.EqNone.ne_int_none (cL I q (by simp))
  | int j=>obtain⟨t',rfl⟩:=ry; exact ne_int (cL I q (congrArg not yT))
  | str j=>obtain⟨t',rfl⟩:=ry; exact PySem.EqMixed.ne_int_str (cL I q (by simp))
  | _=>exact absurd (show false=true from hs) az
 | str i=>
  obtain⟨t,rfl⟩:=rx
  cases y with
  | non=>cases ry; exact PySem.EqNone.ne_str_none (cL I q (by simp))
  | bl j=>cases ry; exact PySem.EqMixed.ne_str_bool (cL I q (by simp))
  | int j=>obtain⟨t',rfl⟩:=ry; exact PySem.EqMixed.ne_str_int (cL I q (by simp))
  | str j=>obtain⟨t',rfl⟩:=ry; exact ne_str (cL I q (congrArg not yN))
  | _=>exact absurd (show false=true from hs) az
 | byt i=>
  obtain⟨t,rfl⟩:=rx
  cases y with
  | byt j=>obtain⟨t',rfl⟩:=ry; exact PySem.W.ne_bytes (cL I q (congrArg not yU))
  | _=>exact absurd (show false=true from hs) az
 | _=>cases y <;> exact absurd (show false=true from hs) az
theorem HF:l7 X (cj .Lt) (Ea fun i j=> .bl (decide (i < j))):=E8 fun _ _ _ _ _ _ _ q=>lt_int q
theorem HQ:l7 X (cj .LtE) (Ea fun i j=> .bl (decide (i<=j))):=E8 fun _ _ _ _ _ _ _ q=>le_int q
theorem Ii:l7 X (cj .Gt) (Ea fun i j=> .bl (decide (j < i))):=E8 fun _ _ _ _ _ _ _ q=>gt_int q
theorem H_:l7 X (cj .GtE) (Ea fun i j=> .bl (decide (j<=i))):=E8 fun _ _ _ _ _ _ _ q=>ge_int q
theorem DM:l7 X (cj .IsNot) (fun x y H Q=>y= .non/\Q (.bl (!decide (x= .non))) H):=by
 intro pins s σ H x y v u Q I rx ry h
 obtain⟨rfl,q⟩:=h
 cases ry
 refine isnot_none_gen (cL I q ?_)
 cases x <;> first
  | (cases rx; rfl)
  | (obtain⟨t,rfl⟩:=rx; rfl)
theorem xT(b:Expr){op:CmpOp}(h:op≠ .In:=by decide)(h2:op≠ .NotIn:=by decide):d_ op b=false:=by
 have e1:(op==CmpOp.In)=false:=by cases op <;> first | rfl | exact absurd rfl h
 have e2:(op==CmpOp.NotIn)=false:=by cases op <;> first | rfl | exact absurd rfl h2
 cases b <;> simp [d_,e1,e2]
theorem DZ{op:CmpOp}{r:R2}(ho:l7 X (cj op) r)(ha:PE X a ta)(hb:PE X b tb)(hm:d_ op b=false):PE X (.Compare a [op] [b] pos) (IM r ta tb):=by
 intro pins s σ H Q I h
 exact wpAny_Compare1 (Gh ha hb I h fun v u s2 x y H2 I2 rx ry q=>ho pins s2 σ H2 x y v u Q I2 rx ry q) hm
def Fs(t:TE):TT:=fun σ H Q=>t σ H fun x H'=> ∃k,x= .bl k/\Q k H'
theorem tq{op:CmpOp}{r:R2}(ho:l7 X (cj op) r)(ha:PE X a ta)(hb:PE X b tb)(hm:d_ op b=false):PT X (.Compare a [op] [b] pos) (Fs (IM r ta tb)):=by
 intro pins s σ H Q I h
 refine wpAny_isTrue_Compare1 (eQ (ha pins s σ H _ I h) fun v s1 ⟨x,H1,I1,r1,q1⟩=>eQ (hb pins s1 σ H1 _ I1 q1) fun u s2 ⟨y,H2,I2,r2,q2⟩=>
  eQ (ho pins s2 σ H2 x y v u _ I2 r1 r2 q2) fun c s3 ⟨z,H3,I3,r3,k,e,q3⟩=> ?_) hm
 subst e
 cases r3
 exact eU ⟨H3,I3,q3⟩
def A9(r r':R2)(ta tb tc:TE):TE:=fun σ H Q=>ta σ H fun x H1=>tb σ H1 fun y H2=>r x y H2 fun z H3=> ∃k,z= .bl k/\
 (if k=true then tc σ H3 fun w' H4=>r' y w' H4 Q else Q (.bl false) H3)
theorem CM{op op':CmpOp}{r r':R2}(ho:l7 X (cj op) r)(ho':l7 X (cj op') r')(ha:PE X a ta)(hb:PE X b tb)(hc:PE X c tc)
  (hm:lastMarks [op,op'] [b,c]=false:=by with_unfolding_all rfl):PE X (.Compare a [op,op'] [b,c] pos) (A9 r r' ta tb tc):=by
 intro pins s σ H Q I h
 refine Compare_chain (eQ (ha pins s σ H _ I h) fun v s1 ⟨x,H1,I1,r1,q1⟩=>chain_link (eQ (hb pins s1 σ H1 _ I1 q1) fun u s2 ⟨y,H2,I2,r2,q2⟩=>
  eQ (ho pins s2 σ H2 x y v u _ I2 r1 r2 q2) fun d s3 ⟨z,H3,I3,r3,k,e,q3⟩=> ?_)) hm
 subst e
 cases r3
 refine eU ?_
 cases k with
 | false=>exact ite_ff ⟨.bl false,H3,I3,rfl,q3⟩
 | true=>exact ite_tt (chain_last (eQ (hc pins s3 σ H3 _ I3 q3) fun w' s4 ⟨z',H4,I4,r4,q4⟩=>ho' pins s4 σ H4 y z' u w' Q I4 r2 r4 q4))
theorem BN{op op':CmpOp}{r r':R2}(ho:l7 X (cj op) r)(ho':l7 X (cj op') r')(ha:PE X a ta)(hb:PE X b tb)(hc:PE X c tc)
  (hm:lastMarks [op,op'] [b,c]=false:=by with_unfolding_all rfl):PT X (.Compare a [op,op'] [b,c] pos) (Fs (A9 r r' ta tb tc)):=by
 intro pins s σ H Q I h
 refine isTrue_chain (eQ (ha pins s σ H _ I h) fun v s1 ⟨x,H1,I1,r1,q1⟩=>test_link (eQ (hb pins s1 σ H1 _ I1 q1) fun u s2 ⟨y,H2,I2,r2,q2⟩=>
  eQ (ho pins s2 σ H2 x y v u _ I2 r1 r2 q2) fun d s3 ⟨z,H3,I3,r3,k,e,q3⟩=> ?_)) hm
 subst e
 cases r3
 refine eU ?_
 cases k with
 | false=>
  obtain⟨k',e',q'⟩:=q3
  cases e'
  exact ite_ff ⟨H3,I3,q'⟩
 | true=>
  refine ite_tt (test_last (eQ (hc pins s3 σ H3 _ I3 q3) fun w' s4 ⟨z',H4,I4,r4,q4⟩=>eQ (ho' pins s4 σ H4 y z' u w' _ I4 r2 r4 q4) fun d' s5 ⟨z2,H5,I5,r5,k2,e2,q5⟩=> ?_))
  subst e2
  cases r5
  exact eU ⟨H5,I5,q5⟩
theorem uo:(sizeLine:Nat) < 2 ^ 63:=by rw [fy]; decide
theorem vals1{x:V}{us:List Value}(r:Vals [x] us): ∃u,us= [u]/\RelV x u:=by
 cases r with
 | cons r1 r2=>cases r2; exact⟨_,rfl,r1⟩
theorem vals2{x y:V}{us:List Value}(r:Vals [x,y] us): ∃u w',us= [u,w']/\RelV x u/\RelV y w':=by
 cases r with
 | cons r1 r2=>
  cases r2 with
  | cons r3 r4=>cases r4; exact⟨_,_,rfl,r1,r3⟩
theorem BO:gf X (.builtin "abs") (fun xs H Q=> ∃i,xs= [.int i]/\Q (.int (if i < 0 then -i else i)) H):=by
 intro pins s σ H xs us Q I r h
 obtain⟨i,rfl,q⟩:=h
 obtain⟨u,rfl,t,rfl⟩:=vals1 r
 exact call_abs_int fun u tk=>⟨.int (if i < 0 then -i else i),H,I.tok _,⟨_,rfl⟩,q⟩
theorem z_(hc:X.calm=true):gf X (.builtin "min") (fun xs H Q=> ∃i j,xs= [.int i, .int j]/\Q (.int (if j < i then j else i)) H):=by
 intro pins s σ H xs us Q I r h
 obtain⟨i,j,rfl,q⟩:=h
 obtain⟨u,w',rfl,⟨t,rfl⟩,⟨t',rfl⟩⟩:=vals2 r
 refine min_two_ints (I.ok.hd hc) fun h' tk k=>⟨_,H,I.kept k, ?_,q⟩
 by_cases hj:j < i
 ·rw [if_pos hj,if_pos hj]; exact⟨_,rfl⟩
 ·rw [if_neg hj,if_neg hj]; exact⟨_,rfl⟩
end
end L2
namespace L2
open PySem PySem.Spec PyProof.Rows
structure xK(h:Heap)(x dx C:Addr)(mA:Str->Option Value):Prop where
 obj:h.get? x=some (fG C dx)
 ns:h.Ns1 dx mA
 ne:dx≠x
theorem Ag{h:Heap}{dx:Addr}{mA:Str->Option Value}(n:h.Ns1 dx mA): ∃od,h.get? dx=some od/\ ∀name,uP name od=some (mA name):=by
 obtain⟨o,es,ep,ho,hd,hk,_,hm⟩:=n
 refine⟨o,ho,fun name=> ?_⟩
 have e:=hm name
 unfold nsFind findBy at e
 rw [<-Array.find?_toList]at e
 unfold uP
 rw [hd]
 dsimp only
 split
 ·rename_i y q
  rw [q]at e
  exact congrArg some e
 ·rename_i q
  rw [q]at e
  have a:es.toList.any (·.refKey)=false:=by
   rw [List.any_eq_false]
   intro y hy
   obtain⟨z,t,hkey⟩:=hk y (Array.mem_toList_iff.mp hy)
   simp [DictEntry.refKey,hkey]
  have a': ¬es.toList.any (·.refKey)=true:=by rw [a]; exact az
  rw [if_neg a']
  exact congrArg some e
theorem xK.look{h:Heap}{x dx C:Addr}{mA:Str->Option Value}(I:xK h x dx C mA): ∃od,PySem.W.InstAt h x (fG C dx) C (some od)/\ ∀name,uP name od=some (mA name):=
 let⟨od,ho,hl⟩:=Ag I.ns
 ⟨od,⟨I.obj,rfl,rfl,ho⟩,hl⟩
section
variable {prog:ar}{w:World}{A:bp}{E:Value->ah->Prop}{s:ah}{K:aH}{x dx C f:Addr}{mA:Str->Option Value}{name:Str}{v:Value}
theorem get_map{expr:Bool}{Q:Value->ah->Prop}(X:K.In s.heap)(I:xK s.heap x dx C mA)(hg:kG K C name=true)(hh:oP K C=true)
  (ha:bZ K (.ref C) name=some none)(hv:mA name=some v)(hv':PySem.W.handedIn v=true)(h:Q v {s with toks:=s.toks+1}):
  wpAny (model prog w) A (getAttr (.ref x) name expr) Q E s:=by
 obtain⟨od,J,hl⟩:=I.look
 exact PySem.W.get_value X J (AG hg).1 (PySem.W.findObj_own hh ha rfl (by rw [hl,hv])) hv' h
theorem CJ{pl:Sem Bool}{Q:Value×List Value->ah->Prop}(X:K.In s.heap)(I:xK s.heap x dx C mA)(hg:kG K C name=true)
  (hf:bZ K (.ref C) name=some (some (.ref f)))(ht:oQ K (.ref f)=true)(hv:mA name=none)(h:Q (.ref f, [.ref x]) s):
  wpAny (model prog w) A (getMethod (.ref x) name pl) Q E s:=by
 obtain⟨od,J,hl⟩:=I.look
 exact PySem.W.method_fn X J (AG hg).1 (AG hg).2 hf (beq_iff_eq.mp ht) (by show(uP name od).map (·.isSome)=some false; rw [hl,hv]; rfl) h
theorem DL{ns:List Str}{Q:Unit->ah->Prop}(X:K.In s.heap)(I:xK s.heap x dx C mA)
  (hs:bZ K (.ref C) "__setattr__"=some (some (.builtin "object.__setattr__")))(hp:DE K C=true)(ht:FJ K C name=some none)(hh:oP K C=true)
  (hw:IE mA ns)(hsz:ns.length<=sizeLine)
  (h: ∀h',xK h' x dx C (fun y=>if y=name then some v else mA y)->bH dx s.heap h'->Q () {s with heap:=h',toks:=s.toks+2}):
  wpAny (model prog w) A (setAttr (.ref x) name v) Q E s:=by
 obtain⟨od,J,hl⟩:=I.look
 refine PySem.W.set_plain X J hs (PySem.W.osa_open (s:={s with toks:=s.toks+1}) (r:=none) X J hp ht fun b=> ?_)
 obtain⟨cd,hc,hd'⟩:=PySem.W.any_some hh
 have hx:s.heap.get? x=some ⟨.ref C,some dx, .plain, #[]⟩:=I.obj
 refine aa (af (aa (aa (wpAny_loadPart hx (aa (PySem.W.Looks.here (s:={s with toks:=s.toks+1}) (PySem.W.looks_clsIn X hc) ?_))))))
 rw [hd']
 refine af (a:=some dx) (aa (af (aa ?_)))
 refine wpAny_nsSet1 (s:={s with toks:=s.toks+1}) I.ns fun h' hn2 hs2=> ?_
 obtain⟨oD,esD,epD,hoD,hdD,hcD⟩:=hn2.count (PySem.Within.cons name v hw)
 refine aa (wpAny_lookBehind hoD (by rw [hdD]; exact pastItsLine_dict (bg hcD (by rw [aC]; omega))) ?_)
 exact af (h _ ⟨(hs2.2 _ (mQ I.ne)).trans I.obj,hn2,I.ne⟩ hs2)
theorem AO{R:Result->ah->Prop}{vs:List Value}{kw:List (Str×Value)}(X:K.In s.heap)(hm:FK K C=true)
  (hi:bZ K (.ref C) "__init__"=some (some (.ref f)))(hf:PySem.W.typeIn K (.ref f)=some (.type "function"))
  (h:gG (model prog w) (A.under (.builtin "type.__call__" ⟨.ref C::vs,kw⟩)) (.call (.ref f) ⟨.ref (s.heap.objs.size+1)::vs,kw⟩) (PySem.W.InitBack (s.heap.objs.size+1) R)
   {s with heap:=(s.heap.push dD).push (fG C s.heap.objs.size)}):
  gG (model prog w) A (.call (.ref C) ⟨vs,kw⟩) R s:=by
 obtain⟨hh,g,d,t,os⟩:=s
 exact PySem.W.make_core (PySem.W.makes_of X hm) (PySem.W.looks_findIn X hi) (fun self=>PySem.W.bind_fn X self hf) (.inl rfl) h
end
def fz(f:Str)(v:V):List (Str×V)->List (Str×V)
 | []=> [(f,v)]
 | (g,x)::r=>if g=f then(g,v)::r else(g,x)::fz f v r
theorem oC(f g:Str)(v:V): ∀fs:List (Str×V),(fz f v fs).lookup g=if g=f then some v else fs.lookup g
 | []=>by
  show jX g [(f,v)]=_
  by_cases h:g=f
  ·have hb:(g==f)=true:=beq_iff_eq.mpr h
   simp only [jX,hb,if_pos h]
  ·have hb:(g==f)=false:=beq_eq_false_iff_ne.mpr h
   simp only [jX,hb,if_neg h]
 | (k,x)::r=>by
  have ih:=oC f g v r
  rw [show fz f v ((k,x)::r)=(if k=f then(k,v)::r else(k,x)::fz f v r)from rfl]
  by_cases hk:k=f
  ·rw [if_pos hk]
   by_cases h:g=k
   ·have hb:(g==k)=true:=beq_iff_eq.mpr h
    simp only [jX,hb,if_pos (h.trans hk)]
   ·have hb:(g==k)=false:=beq_eq_false_iff_ne.mpr h
    simp only [jX,hb,if_neg (fun e:g=f=>h (e.trans hk.symm))]
  ·rw [if_neg hk]
   by_cases h:g=k
   ·have hb:(g==k)=true:=beq_iff_eq.mpr h
    simp only [jX,hb,if_neg (fun e:g=f=>hk (h.symm.trans e))]
   ·have hb:(g==k)=false:=beq_eq_false_iff_ne.mpr h
    simp only [jX,hb]
    exact ih
theorem nV(f:Str)(v:V): ∀fs:List (Str×V),f∈(fz f v fs).map (·.1)/\ ∀g,g∈fs.map (·.1)->g∈(fz f v fs).map (·.1)
 | []=>⟨by simp [fz],fun g h=>by simp at h⟩
 | (k,x)::r=>by
  obtain⟨i1,i2⟩:=nV f v r
  rw [show fz f v ((k,x)::r)=(if k=f then(k,v)::r else(k,x)::fz f v r)from rfl]
  by_cases hk:k=f
  ·rw [if_pos hk]
   subst hk
   exact⟨by simp,fun g h=>by simpa using h⟩
  ·rw [if_neg hk]
   refine⟨?_,fun g h=> ?_⟩
   ·rw [aW]
    exact bX _ i1
   ·rw [aW]at h ⊢
    rcases aN.mp h with e | e
    ·exact aN.mpr (.inl e)
    ·exact bX _ (i2 g e)
theorem iy(f:Str)(v:V): ∀fs:List (Str×V),(fz f v fs).length<=fs.length+1
 | []=>by simp [fz]
 | (k,x)::r=>by
  have ih:=iy f v r
  rw [show fz f v ((k,x)::r)=(if k=f then(k,v)::r else(k,x)::fz f v r)from rfl]
  by_cases hk:k=f
  ·rw [if_pos hk,aC,aC]; omega
  ·rw [if_neg hk,aC,aC]; omega
theorem rQ.some_of{v:V}{o:Option Value}(r:rQ (some v) o): ∃u,o=some u/\RelV v u:=by
 cases o with
 | none=>exact(show False from r).elim
 | some u=>exact⟨u,rfl,r⟩
theorem rQ.none_of{o:Option Value}(r:rQ none o):o=none:=by
 cases o with
 | none=>rfl
 | some u=>exact(show False from r).elim
theorem zY{v:V}{u:Value}(r:RelV v u):PySem.W.handedIn u=true:=by
 cases v with
 | non=>cases (show u=a_ from r); rfl
 | bl b=>cases (show u=dJ b from r); rfl
 | int i=>obtain⟨t,e⟩:=(show ∃t,u=fH i t from r); cases e; rfl
 | str x=>obtain⟨t,e⟩:=(show ∃t,u=wY x t from r); cases e; rfl
 | byt b=>obtain⟨t,e⟩:=(show ∃t,u=Value.bytes b t from r); cases e; rfl
 | flt b=>obtain⟨t,e⟩:=(show ∃t,u=Value.float b t from r); cases e; rfl
 | ref a=>cases (show u=ao a from r); rfl
 | ty n=>cases (show u=cu n from r); rfl
section
variable {P:ar}{w:World}{H H':Hp}{h h':Heap}{a C dx:Addr}{fs fs':List (Str×V)}
theorem lJ(dR:mP P w H h)(e:H a=some (.ins C dx fs)): ∃mA,xK h a dx C mA/\(∀f,rQ (fs.lookup f) (mA f))/\IE mA (fs.map (·.1))/\fs.length<=1000/\H dx=some (.own a):=by
 obtain⟨d,z,ne,ob,mA,n,r,q⟩:=(show dP P w H h a (.ins C dx fs)from dR a _ e)
 exact⟨mA,⟨ob,n,ne⟩,r,q,z,d⟩
end
structure xt(K:aH)(C:Addr):Prop where
 pg:kG K C Str.empty=true
 hd:oP K C=true
 po:DE K C=true
 sa:bZ K (.ref C) "__setattr__"=some (some (.builtin "object.__setattr__"))
theorem xt.get{K:aH}{C:Addr}(c:xt K C)(f:Str):kG K C f=true:=c.pg
def gY(K:aH)(C:Addr)(f:Str):Prop:=bZ K (.ref C) f=some none
theorem gY.taker{K:aH}{C:Addr}{f:Str}(n:gY K C f):FJ K C f=some none:=by
 unfold FJ
 rw [show bZ K (.ref C) f=some none from n]
 rfl
structure Meth(K:aH)(C:Addr)(m:Str)(f:Addr):Prop where
 at_:bZ K (.ref C) m=some (some (.ref f))
 fn:oQ K (.ref f)=true
 kp:ft K (.ref f)=true
section
variable {X:Cx}{pins:List (Addr×Obj)}{σ:St}{H:Hp}{s:ah}{a C dx:Addr}{fs:List (Str×V)}{f:Str}{v:V}{A:bp}{E:Value->ah->Prop}
theorem xM{b:Bool}{Q:Value->ah->Prop}(I:Inv X pins σ H s)(e:H a=some (.ins C dx fs))(c:xt X.K C)(n:gY X.K C f)(l:fs.lookup f=some v)
  (h: ∀u s',Inv X pins σ H s'->RelV v u->Q u s'):wpAny (model X.prog X.w) A (getAttr (.ref a) f b) Q E s:=by
 obtain⟨mA,O,r,_,_,_⟩:=lJ I.dR e
 obtain⟨u,hu,ru⟩:=rQ.some_of (v:=v) (o:=mA f) (by rw [<-l]; exact r f)
 exact get_map I.kIn O (c.get f) c.hd n hu (zY ru) (h u _ (I.tok _) ru)
theorem xf{m:Str}{g:Addr}{pl:Sem Bool}{Q:Value×List Value->ah->Prop}(I:Inv X pins σ H s)(e:H a=some (.ins C dx fs))(c:xt X.K C)(k:Meth X.K C m g)(l:fs.lookup m=none)
  (h:Q (.ref g, [.ref a]) s):wpAny (model X.prog X.w) A (getMethod (.ref a) m pl) Q E s:=by
 obtain⟨mA,O,r,_,_,_⟩:=lJ I.dR e
 have hn:mA m=none:=rQ.none_of (by rw [<-l]; exact r m)
 exact CJ I.kIn O (c.get m) k.at_ k.fn hn h
theorem xN{y:V}{u:Value}{Q:Unit->ah->Prop}(I:Inv X pins σ H s)(e:H a=some (.ins C dx fs))(c:xt X.K C)(n:gY X.K C f)(hl:fs.length < 1000)(ry:RelV y u)
  (h: ∀s',Inv X pins σ (upd H a (.ins C dx (fz f y fs))) s'->Q () s'):wpAny (model X.prog X.w) A (setAttr (.ref a) f u) Q E s:=by
 obtain⟨mA,O,r,wi,_,ho⟩:=lJ I.dR e
 have hz:(fs.map (·.1)).length<=sizeLine:=by rw [ae,fy]; omega
 refine DL I.kIn O c.sa c.po n.taker c.hd wi hz fun h' O' sb=>h _ ?_
 have hd: ∃o,h'.get? dx=some o:=let⟨o,_,_,e',_⟩:=O'.ns; ⟨o,e'⟩
 refine I.write (x:=a) (e:=dx) (by rw [e]; exact ck) (.inr ho) (fun b q hb z=>(sb.2 b hb).trans z) hd ?_
 refine⟨by rw [bP O.ne]; exact ho, ?_,O.ne,O'.obj,_,O'.ns,fun g=> ?_,fun g hg=> ?_⟩
 ·have:=iy f y fs; omega
 ·show rQ ((fz f y fs).lookup g) (if g=f then some u else mA g)
  rw [oC]
  by_cases q:g=f
  ·rw [if_pos q,if_pos q]; exact ry
  ·rw [if_neg q,if_neg q]; exact r g
 ·by_cases q:g=f
  ·rw [q]; exact(nV f y fs).1
  ·refine(nV f y fs).2 g (wi g fun z=>hg ?_)
   show(if g=f then some u else mA g)=none
   rw [if_neg q]; exact z
theorem Inv.made(I:Inv X pins σ H s):Inv X pins σ (upd (upd H s.heap.objs.size (.own (s.heap.objs.size+1))) (s.heap.objs.size+1) (.ins C s.heap.objs.size []))
  {s with heap:=(s.heap.push dD).push (fG C s.heap.objs.size)}:=by
 have e1:(s.heap.push dD).get? s.heap.objs.size=some dD:=au s.heap rfl
 have e2:((s.heap.push dD).push (fG C s.heap.objs.size)).get? (s.heap.objs.size+1)=some (fG C s.heap.objs.size):=by
  have:=au (s.heap.push dD) (o:=fG C s.heap.objs.size) rfl
  rwa [cM]at this
 have e3:(s.heap.push dD).Ns s.heap.objs.size (fun _=>none):=⟨dD, #[],_,e1,rfl,(fun e he=>absurd he (by simp)),fun _=>rfl⟩
 have I1:=I.laid (a:=s.heap.objs.size) (o:= .own (s.heap.objs.size+1)) (h':=s.heap.push dD) (t':=s.toks) (fun b u q=>ag _ q) (aw _) ⟨_,e1⟩
 refine I1.laid (a:=s.heap.objs.size+1) (o:= .ins C s.heap.objs.size []) (t':=s.toks) (fun b u q=>ag _ q) (lx (cM _ _)) ?_
 have ne:s.heap.objs.size≠s.heap.objs.size+1:=aM (eu _)
 refine⟨by rw [bP ne,bC],bO _,ne,e2,fun _=>none,(Heap.Ns1.of_empty e3).at fun o q=>ag _ q,fun _=>ck,fun y hy=>absurd rfl hy⟩
theorem Fb{prog:ar}{w:World}{env:Env}{e:Expr}{f:Str}{pos:Pos}{s:ah}{Q:Value->ah->Prop}(hb:fb e f env (eval e env)=eval e env)
  (h:wpAny (model prog w) A (eval e env) (fun o s₁=>wpAny (model prog w) A (getAttr o f true) Q E s₁) E s):wpAny (model prog w) A (eval (.Attribute e f pos) env) Q E s:=
 Attribute_any_ h (by rw [arm_eval_Attribute,hb])
end
def Jd(K:aH)(ta:TE)(f:Str):TE:=fun σ H Q=>ta σ H fun x H1=> ∃a C dx fs v,x= .ref a/\H1 a=some (.ins C dx fs)/\xt K C/\gY K C f/\fs.lookup f=some v/\Q v H1
def Jc(K:aH)(ta tv:TE)(f:Str):TS:=fun D σ H=>tv σ H fun y H1=>ta σ H1 fun x H2=> ∃a C dx fs,x= .ref a/\H2 a=some (.ins C dx fs)/\xt K C/\gY K C f/\fs.length < 1000/\
 D.nx σ (upd H2 a (.ins C dx (fz f y fs)))
section
variable {X:Cx}{o e value:Expr}{f:Str}{pos pos' tpos:Pos}{ta tv:TE}
theorem FW(he:PE X e ta)(hb:fb e f X.env (eval e X.env)=eval e X.env):PE X (.Attribute e f pos) (Jd X.K ta f):=by
 intro pins s σ H Q I h
 refine Fb hb (eQ (he pins s σ H _ I h) fun u s1 ⟨x,H1,I1,rx,a,C,dx,fs,v,ex,ea,c,n,l,q⟩=> ?_)
 subst ex
 obtain rfl:u=ao a:=rx
 exact xM I1 ea c n l fun u' s2 I2 ru=>⟨v,H1,I2,ru,q⟩
theorem Cc(ha:PE X o ta)(hv:PE X value tv)(hs:cg value (some (.Attribute o f pos')) pos.line X.env=pure false):PS X (.Assign [.Attribute o f pos'] value pos) (Jc X.K ta tv f):=by
 intro pins s σ H D I h
 refine plainObj_wpAny_Assign_Attribute (eQ (hv pins s σ H _ I h) fun u s1 ⟨y,H1,I1,ry,q⟩=>eQ (ha pins s1 σ H1 _ I1 q) fun ov s2 ⟨x,H2,I2,rx,a,C,dx,fs,ex,ea,c,n,l,q2⟩=> ?_) hs
 subst ex
 obtain rfl:ov=ao a:=rx
 exact xN I2 ea c n l ry fun s3 I3=>⟨σ,_,I3,q2⟩
end
section
variable {X:Cx}{pins:List (Addr×Obj)}{σ:St}{H:Hp}{s:ah}{A:bp}{E:Value->ah->Prop}{Q:Value->ah->Prop}{c:Value}{b:Bool}
inductive qj(K:aH)(H:Hp):V->Value->Prop where
 | non:qj K H .non (.type "NoneType")
 | bl (x:Bool):qj K H (.bl x) (.type "bool")
 | int (i:Int):qj K H (.int i) (.type "int")
 | str (x:Str):qj K H (.str x) (.type "str")
 | flt (x:UInt64):qj K H (.flt x) (.type "float")
 | lst {a:Addr} {xs:List V} (e:H a=some (.lst xs)):qj K H (.ref a) (.type "list")
 | frz {a:Addr} {o:Obj} {xs:List V} (e:H a=some (.frz o (.lst xs))):qj K H (.ref a) (.type "list")
 | tup {a:Addr} {xs:List V} (e:H a=some (.tup xs)):qj K H (.ref a) (.type "tuple")
 | dK {a:Addr} {kvs:List (Key×V)} (e:H a=some (.dK kvs)):qj K H (.ref a) (.type "dict")
 | dT {a:Addr} {kvs:List (List Key×V)} (e:H a=some (.dT kvs)):qj K H (.ref a) (.type "dict")
 | ins {a C dx:Addr} {fs:List (Str×V)} (e:H a=some (.ins C dx fs)) (cl:xt K C) (ha:bZ K (.ref C) "__class__"=some (some (.builtin "object.__class__")))
   (hn:PySem.W.specialIn K (.builtin "object.__class__") "__get__"=some (some (.builtin "getset_descriptor.__get__"))) (htk:PySem.W.takesIn K (.builtin "object.__class__")=some true)
   (hm:PySem.W.mroIn K C (.type "object")=some true):qj K H (.ref a) (.ref C)
end
end L2
namespace L2
open PySem PySem.Spec PyProof.Rows
structure eL(k:Nat)(A:bp):Prop where
 hd:A.handled=none
 dp:A.depth+3 * k+5 < recursionLimit
 un:A.units+16 * k+200 < cLine
theorem eL.mono{j k:Nat}{A:bp}(r:eL k A)(h:j<=k):eL j A:=⟨r.hd,by have:=r.dp; omega,by have:=r.un; omega⟩
theorem eL.deeper{k:Nat}{A:bp}(r:eL (k+1) A)(env:Env):eL k (A.deeper env):=
 ⟨r.hd,by have:=r.dp; show A.depth+1+3 * k+5 < _; omega,by have:=r.un; show A.units+3+16 * k+200 < _; omega⟩
theorem xO{A:bp}{C:Addr}{us:List Value}{kw:List (Str×Value)}:(A.under (.builtin "type.__call__" ⟨.ref C::us,kw⟩)).depth=A.depth+1:=by
 first | rfl | simp [Around.under,Code.weight,Code.isCreation,Code.isGuard,Code.isCaller,Code.frames,Code.isFrame,guardIds]
theorem yb{A:bp}{C:Addr}{us:List Value}{kw:List (Str×Value)}:(A.under (.builtin "type.__call__" ⟨.ref C::us,kw⟩)).units=A.units+1:=by
 first | rfl | simp [Around.under,Code.cUnits,Code.frames,Code.isFrame]
theorem eL.make{k:Nat}{A:bp}(r:eL (k+1) A)(C:Addr)(us:List Value)(kw:List (Str×Value)):eL k (A.under (.builtin "type.__call__" ⟨.ref C::us,kw⟩)):=
 ⟨r.hd,by have:=r.dp; rw [xO]; omega,by have:=r.un; rw [yb]; omega⟩
theorem eL.depth{k:Nat}{A:bp}(r:eL k A):A.depth < recursionLimit:=by have:=r.dp; omega
def HY:TA:=fun _ H Q=>Q [] H
def Io(ta:TE)(tr:TA):TA:=fun σ H Q=>ta σ H fun x H1=>tr σ H1 fun xs H2=>Q (x::xs) H2
section
variable {X:Cx}{e:Expr}{es:List Expr}{te:TE}{t:TA}{pos:Pos}
theorem gP:PA X [] HY:=fun _ _ _ _ H Q I h=>Calls.spliced_nil ⟨[],H,I, .nil,h⟩
theorem eJ(ha:PE X e te)(hr:PA X es t)(hs:aq (e::es) X.env=(false,eval e X.env)::aq es X.env:=by rfl):PA X (e::es) (Io te t):=by
 intro pos pins s σ H Q I h
 rw [hs]
 show wpAny _ _ (spliced ((false,eval e X.env)::c9 pos (aq es X.env))) _ _ s
 refine Calls.spliced_cons (eQ (ha pins s σ H _ I h) fun u s1 ⟨x,H1,I1,r1,q1⟩=> ?_)
 exact eQ (hr pos pins s1 σ H1 _ I1 q1) fun us s2 ⟨xs,H2,I2,r2,q2⟩=>⟨x::xs,H2,I2, .cons r1 r2,q2⟩
def JQ(t:TA):TE:=fun σ H Q=>t σ H fun xs H1=>xs.length<=sizeLine/\ ∀p,H1 p=none->Q (.ref p) (upd H1 p (.tup xs))
def Jj(t:TA):TE:=fun σ H Q=>t σ H fun xs H1=>xs.length<=sizeLine/\ ∀p,H1 p=none->Q (.ref p) (upd H1 p (.lst xs))
theorem Bi{x1}(h:PA X es t):PE X (.Tuple es x1 pos) (JQ t):=by
 intro pins s σ H Q I hq
 refine wpAny_Tuple_spliced (eQ (h pos pins s σ H _ I hq) fun us s1 ⟨xs,H1,I1,r,z,q⟩=>⟨by rw [<-r.length]; exact z, ?_⟩)
 have hf:H1 s1.heap.objs.size=none:=I1.dR.fresh (aw _)
 refine⟨.ref s1.heap.objs.size,upd H1 s1.heap.objs.size (.tup xs),I1.laid (t':=s1.toks) (fun b u e=>ag _ e) (aw _) ?_,rfl,q _ hf⟩
 exact⟨z,us,r,⟨_,au _ rfl,rfl,_,rfl⟩⟩
theorem Ga(h:PA X es t):PE X (.List es pos) (Jj t):=by
 intro pins s σ H Q I hq
 refine wpAny_List_spliced (eQ (h pos pins s σ H _ I hq) fun us s1 ⟨xs,H1,I1,r,z,q⟩=>⟨by rw [<-r.length]; exact z, ?_⟩)
 have hf:H1 s1.heap.objs.size=none:=I1.dR.fresh (aw _)
 refine⟨.ref s1.heap.objs.size,upd H1 s1.heap.objs.size (.lst xs),I1.laid (t':=s1.toks) (fun b u e=>ag _ e) (aw _) ?_,rfl,q _ hf⟩
 exact⟨z,us,0,r,au _ rfl⟩
end
abbrev Sp:=List V->Hp->VK->XK->Prop
abbrev fJ:=List Env->Hp->ah->XK->Value->ah->Prop
structure xD(P:ar)(w:World)(K:aH)(mg:Str->Option Value)(base:Heap)(A:bp)(outer:List Env)(s:ah)(H:Hp):Prop where
 frames:A.frames=some outer
 mod:Mod K mg base
 bs: ∀b o,base.get? b=some o->s.heap.get? b=some o/\H b=none
 Cs:base.objs.size<=s.heap.objs.size
 nN:s.heap.FunFrames base outer
 FF: ∀b∈wW outer,H b=none
 dR:mP P w H s.heap
 bare:lu s.gens
def CE(outer:List Env)(P:ar)(w:World)(H:Hp)(s:ah)(Q:VK)(u:Value)(s':ah):Prop:=
 ∃v H',s'.os=s.os/\lu s'.gens/\Un (wW outer) [] H H' s.heap s'.heap/\mP P w H' s'.heap/\RelV v u/\Q v H'
def CR(CX:fJ)(outer:List Env)(P:ar)(w:World)(H:Hp)(s:ah)(Q:VK)(E:XK)(r:Result)(s':ah):Prop:=
 match r with
 | .ok (.ret u)=>CE outer P w H s Q u s'
 | .ok _=>False
 | .error e=>CX outer H s E e s'
structure kC(P:ar)(w:World)(K:aH)(mg:Str->Option Value)(base:Heap)(CX:fJ)(k:Nat)(f:Addr)(fd:aV)(ps:List Str)(sp:Sp):Prop where
 len: ∀vs H Q E,sp vs H Q E->vs.length=ps.length
 run: ∀(A:bp) (outer:List Env) (s:ah) (H:Hp) (args:Args) (us:List Value) (vs:List V) (Q:VK) (E:XK),eL k A->xD P w K mg base A outer s H->BindsTo s fd args (ps.zip us)->Vals vs us->sp vs H Q E->
  gG (model P w) A (.call (.ref f) args) (CR CX outer P w H s Q E) s
theorem kC.imp{P:ar}{w:World}{K:aH}{mg:Str->Option Value}{base:Heap}{CX:fJ}{k:Nat}{f:Addr}{fd:aV}{ps:List Str}{sp sp':Sp}(F:kC P w K mg base CX k f fd ps sp)
  (h: ∀vs H Q E,sp' vs H Q E->sp vs H Q E):kC P w K mg base CX k f fd ps sp':=
 ⟨fun vs H Q E q=>F.len vs H Q E (h _ _ _ _ q),fun A outer s H args us vs Q E hr he hb hv hs=>F.run A outer s H args us vs Q E hr he hb hv (h _ _ _ _ hs)⟩
theorem xD.make{P:ar}{w:World}{K:aH}{mg:Str->Option Value}{base:Heap}{A:bp}{outer:List Env}{s:ah}{H:Hp}(e:xD P w K mg base A outer s H)(C:Addr)(us:List Value)(kw:List (Str×Value)):
  xD P w K mg base (A.under (.builtin "type.__call__" ⟨.ref C::us,kw⟩)) outer s H:=⟨by first | exact e.frames | (simpa [Around.under,Code.envs,Code.isFrame,pushEnvs]using e.frames),e.mod,e.bs,e.Cs,e.nN,e.FF,e.dR,e.bare⟩
section
variable {X:Cx}{pins:List (Addr×Obj)}{σ:St}{H:Hp}{s s':ah}
theorem Inv.env0(I:Inv X pins σ H s):xD X.prog X.w X.K X.mg X.base X.A X.stack s H:=
 ⟨I.ok.frames,I.ok.mod,I.bs,bg I.ok.Cs I.sz,I.stack,I.stkFree,I.dR,I.bare⟩
theorem Inv.after{Q:VK}{u:Value}(I:Inv X pins σ H s)(h:CE X.stack X.prog X.w H s Q u s'):EP X pins σ Q u s':=by
 obtain⟨v,H',os,bare,un,dR,r,q⟩:=h
 obtain⟨hh,g,d,t,os'⟩:=s'
 obtain rfl:os'=s.os:=os
 exact⟨v,H',I.call (h':=hh) (g':=g) (d':=d) (t':=t) (ch:= []) un dR bare (fun b z=>absurd z (by simp)),r,q⟩
end
def Ir(sp:Sp)(dvs:List V)(E:XK)(t:TA):TE:=fun σ H Q=>t σ H fun vs H1=>sp (vs ++ dvs) H1 Q E
def Ih(C:Addr)(m:Str)(sp:Sp)(dvs:List V)(E:XK)(ta:TE)(t:TA):TE:=fun σ H Q=>ta σ H fun x H1=> ∃a dx fs,x= .ref a/\H1 a=some (.ins C dx fs)/\fs.lookup m=none/\
 t σ H1 fun vs H2=>sp (x::(vs ++ dvs)) H2 Q E
def Iy(C:Addr)(sp:Sp)(dvs:List V)(E:XK)(t:TA):TE:=fun σ H Q=>t σ H fun vs H1=> ∀x dx,H1 x=none->H1 dx=none->dx≠x->
 sp (.ref x::(vs ++ dvs)) (upd (upd H1 dx (.own x)) x (.ins C dx [])) (fun v H2=>v= .non/\Q (.ref x) H2) E
def Binds(K:aH)(fd:aV)(ps:List Str)(ds:List Value):Prop:=
 ∀(s:ah) (us:List Value),K.In s.heap->(us ++ ds).length=ps.length->BindsTo s fd ⟨us, []⟩ (ps.zip (us ++ ds))
theorem Binds.all{K:aH}{fd:aV}{ps:List Str}(h: ∀us:List Value,us.length=ps.length->uQ fd ⟨us, []⟩=pure (ps.zip us)):Binds K fd ps []:=fun s us _ hl=>by
 rw [bj]at hl ⊢
 exact .of_eq (h us hl)
def Passes(CX:fJ)(X:Cx)(E:XK):Prop:= ∀(pins:List (Addr×Obj)) (σ:St) (H:Hp) (s:ah) (e:Value) (s':ah),Inv X pins σ H s->CX X.stack H s E e s'->X.xe e s'
section
variable {X:Cx}{CX:fJ}{k:Nat}{f C:Addr}{fd:aV}{ps:List Str}{sp:Sp}{dvs:List V}{ds:List Value}{E:XK}{x m:Str}{p pos apos:Pos}{e o:Expr}{es:List Expr}{ta:TE}{t:TA}
theorem C3{pins:List (Addr×Obj)}{σ:St}{H:Hp}{s:ah}{Q:VK}{us:List Value}{vs:List V}(F:kC X.prog X.w X.K X.mg X.base CX k f fd ps sp)(hr:eL k X.A)(hb:Binds X.K fd ps ds)(hd:Vals dvs ds)(hx:Passes CX X E)
  (I:Inv X pins σ H s)(r:Vals vs us)(h:sp (vs ++ dvs) H Q E):wpAny (model X.prog X.w) X.A (call (.ref f) us) (EP X pins σ Q) X.xe s:=by
 have r2:Vals (vs ++ dvs) (us ++ ds):=r.append hd
 have hl:(us ++ ds).length=ps.length:=by rw [<-r2.length]; exact F.len _ _ _ _ h
 refine wpAny_call (lA (F.run X.A X.stack s H ⟨us, []⟩ (us ++ ds) (vs ++ dvs) Q E hr I.env0 (hb s us I.kIn hl) r2 h) fun r s' hq=> ?_)
 cases r with
 | error e=>exact hx pins σ H s e s' I hq
 | ok fl=>
  cases fl with
  | ret u=>exact I.after hq
  | next=>exact e_ hq
  | brk=>exact e_ hq
  | cont=>exact e_ hq
theorem pB(F:kC X.prog X.w X.K X.mg X.base CX k f fd ps sp)(hr:eL k X.A)(hg:Gl X x)(hm:X.mg x=some (.ref f))(hk:ft X.K (.ref f)=true)(hb:Binds X.K fd ps ds)(hd:Vals dvs ds)(hx:Passes CX X E)
  (ha:PA X (e::es) t)(hdb:(x==("__debug__":Str))=false:=by decide)(he:aq (e::es) X.env=(false,eval e X.env)::aq es X.env:=by rfl)(hpl:(c9 pos (aq es X.env)).any (·.1)=false:=by rfl):
  PE X (.Call (.Name x p) (e::es) [] pos) (Ir sp dvs E t):=by
 intro pins s σ H Q I h
 refine og (pA I hg hm ?_ hdb)
 refine PySem.W.callWith_K (h₀:=X.base) I.ok.mod.AD hk (eQ (ha pos pins s σ H _ I h) fun us s1 ⟨vs,H1,I1,r,q⟩=>⟨I1.kIn, ?_⟩) he hpl
 exact C3 F hr hb hd hx I1 r q
theorem CD{pl:Sem Bool}(he:PE X o ta)(c:xt X.K C)(hm:Meth X.K C m f)(F:kC X.prog X.w X.K X.mg X.base CX k f fd ps sp)(hr:eL k X.A)(hb:Binds X.K fd ps ds)(hd:Vals dvs ds)(hx:Passes CX X E)
  (ht:eval (.Call (.Attribute o m apos) [] [] pos) X.env=(do
   let ov<-eval o X.env
   standAt apos.atName
   let(f,first)<-jc [ov] (getMethod ov m pl)
   callWith pos f first (c9 pos (aq [] X.env)) (backToKw pos (rg [] X.env))):=by rfl):
  PE X (.Call (.Attribute o m apos) [] [] pos) (Ih C m sp dvs E ta HY):=by
 intro pins s σ H Q I h
 refine PySem.W.methodCall_KW (pl:=pl) (eQ (he pins s σ H _ I h) fun u s1 ⟨x,H1,I1,rx,a,dx,fs,ex,ea,l,q⟩=> ?_) ht
 subst ex
 obtain rfl:u=ao a:=rx
 refine xf I1 ea c hm l ?_
 exact PySem.W.callWith_K0 (first:= [.ref a]) I1.kIn hm.kp (C3 (us:= [.ref a]) (vs:= [.ref a]) F hr hb hd hx I1 (.cons rfl .nil) q)
structure Mk(K:aH)(C f:Addr):Prop where
 makes:FK K C=true
 init:bZ K (.ref C) "__init__"=some (some (.ref f))
 fn:oQ K (.ref f)=true
 kp:ft K (.ref C)=true
theorem Cb{pins:List (Addr×Obj)}{σ:St}{H:Hp}{s:ah}{Q:VK}{us:List Value}{vs:List V}(M:Mk X.K C f)(F:kC X.prog X.w X.K X.mg X.base CX k f fd ps sp)(hr:eL (k+1) X.A)(hb:Binds X.K fd ps ds)(hd:Vals dvs ds)
  (hx:Passes CX X E)(I:Inv X pins σ H s)(r:Vals vs us)
  (h: ∀x dx,H x=none->H dx=none->dx≠x->sp (.ref x::(vs ++ dvs)) (upd (upd H dx (.own x)) x (.ins C dx [])) (fun v H2=>v= .non/\Q (.ref x) H2) E):
  wpAny (model X.prog X.w) X.A (call (.ref C) us) (EP X pins σ Q) X.xe s:=by
 have hq:=h (s.heap.objs.size+1) s.heap.objs.size (I.dR.fresh (As _)) (I.dR.fresh (aw _)) (aM (eu _))
 have I2:=Inv.made (C:=C) I
 have r2:Vals (V.ref (s.heap.objs.size+1)::(vs ++ dvs)) (ao (s.heap.objs.size+1)::(us ++ ds)):= .cons rfl (r.append hd)
 have hl:(ao (s.heap.objs.size+1)::us ++ ds).length=ps.length:=by
  have e:=r2.length
  rw [F.len _ _ _ _ hq]at e
  exact e.symm
 refine wpAny_call (AO (f:=f) I.kIn M.makes M.init (beq_iff_eq.mp M.fn) (lA (F.run _ X.stack _ _ ⟨ao (s.heap.objs.size+1)::us, []⟩ (ao (s.heap.objs.size+1)::(us ++ ds)) _ _ E (hr.make C us [])
  (I2.env0.make C us []) (hb _ (ao (s.heap.objs.size+1)::us) I2.kIn hl) r2 hq) fun r s' hq'=> ?_))
 cases r with
 | error e=>exact hx pins σ _ _ e s' I2 hq'
 | ok fl=>
  cases fl with
  | ret u=>
   obtain⟨v,H',I3,rv,ev,q3⟩:=I2.after hq'
   subst ev
   exact⟨rv,⟨V.ref (s.heap.objs.size+1),H',I3,rfl,q3⟩⟩
  | next=>exact e_ hq'
  | brk=>exact e_ hq'
  | cont=>exact e_ hq'
theorem E6(M:Mk X.K C f)(F:kC X.prog X.w X.K X.mg X.base CX k f fd ps sp)(hr:eL (k+1) X.A)(hg:Gl X x)(hm:X.mg x=some (.ref C))(hb:Binds X.K fd ps ds)(hd:Vals dvs ds)(hx:Passes CX X E)
  (ha:PA X (e::es) t)(hdb:(x==("__debug__":Str))=false:=by decide)(he:aq (e::es) X.env=(false,eval e X.env)::aq es X.env:=by rfl)(hpl:(c9 pos (aq es X.env)).any (·.1)=false:=by rfl):
  PE X (.Call (.Name x p) (e::es) [] pos) (Iy C sp dvs E t):=by
 intro pins s σ H Q I h
 refine og (pA I hg hm ?_ hdb)
 refine PySem.W.callWith_K (h₀:=X.base) I.ok.mod.AD M.kp (eQ (ha pos pins s σ H _ I h) fun us s1 ⟨vs,H1,I1,r,q⟩=>⟨I1.kIn, ?_⟩) he hpl
 exact Cb M F hr hb hd hx I1 r q
end
structure bN(N P:List Str)(sc:Scope):Prop where
 kind:sc.kind= .function
 co:sc.isCoroutine=false
 gen:sc.isGenerator=false
 nd:N.Nodup
 pre:N.take P.length=P
 par: ∀x∈P,sc.names.lookup x=some .local\/sc.names.lookup x=some .cell
 GJ: ∀y∈sc.names,y.2≠ .free
theorem sG{kindOf:Str->Option iR}{x:Str}: ∀{binds:List (Str×Value)} {m:Str->Option Value},(∀v,(x,v)∉binds)->bindL kindOf binds m x=m x
 | [],_,_=>rfl
 | (n,v)::r,m,h=>by
  unfold bindL
  rw [sG fun w hw=>h w (bX _ hw)]
  split
  ·have:x≠n:=by rintro rfl; exact h v b8
   simp [this]
  ·rfl
theorem sv{kindOf:Str->Option iR}{x:Str}: ∀{binds:List (Str×Value)} {m:Str->Option Value},(∀v,(x,v)∉binds)->bindC kindOf binds m x=m x
 | [],_,_=>rfl
 | (n,v)::r,m,h=>by
  unfold bindC
  rw [sv fun w hw=>h w (bX _ hw)]
  split
  ·rfl
  ·have:x≠n:=by rintro rfl; exact h v b8
   simp [this]
theorem sL{kindOf:Str->Option iR}{x:Str}{v:Value}: ∀{P:List Str} {vs:List Value} {i:Nat} {m:Str->Option Value},P.Nodup->P[i]? =some x->vs[i]? =some v->kindOf x=some .local->
  bindL kindOf (P.zip vs) m x=some v
 | [],_,_,_,_,h,_,_=>by simp at h
 | _::_, [],_,_,_,_,h,_=>by simp at h
 | p::P,w::vs,0,m,nd,h1,h2,hk=>by
  simp at h1 h2; subst h1; subst h2
  show bindL kindOf ((p,w)::P.zip vs) m p=_
  unfold bindL
  rw [sG fun v hv=>(dM.mp nd).1 (FL hv).1,if_pos hk]
  simp
 | p::P,w::vs,i+1,m,nd,h1,h2,hk=>by
  show bindL kindOf ((p,w)::P.zip vs) m x=_
  unfold bindL
  exact sL (i:=i) (dM.mp nd).2 (by simpa using h1) (by simpa using h2) hk
theorem sI{kindOf:Str->Option iR}{x:Str}{v:Value}: ∀{P:List Str} {vs:List Value} {i:Nat} {m:Str->Option Value},P.Nodup->P[i]? =some x->vs[i]? =some v->kindOf x≠some .local->
  bindC kindOf (P.zip vs) m x=some v
 | [],_,_,_,_,h,_,_=>by simp at h
 | _::_, [],_,_,_,_,h,_=>by simp at h
 | p::P,w::vs,0,m,nd,h1,h2,hk=>by
  simp at h1 h2; subst h1; subst h2
  show bindC kindOf ((p,w)::P.zip vs) m p=_
  unfold bindC
  rw [sv fun v hv=>(dM.mp nd).1 (FL hv).1,if_neg hk]
  simp
 | p::P,w::vs,i+1,m,nd,h1,h2,hk=>by
  show bindC kindOf ((p,w)::P.zip vs) m x=_
  unfold bindC
  exact sI (i:=i) (dM.mp nd).2 (by simpa using h1) (by simpa using h2) hk
def start(N:List Str)(vs:List V):St:=vs.map some ++ eC (N.length - vs.length) none
def kW(CX:fJ)(P:ar)(w:World)(K:aH)(mg:Str->Option Value)(base:Heap)(N:List Str)(qual:Str)(scope:Scope)(f:Addr)(cd:Value)(A:bp)(outer:List Env)(s:ah)(H:Hp)(E:XK):Cx where
 prog:=P
 w:=w
 K:=K
 mg:=mg
 base:=base
 A:=A.deeper (ki qual scope s.heap.objs.size f cd)
 N:=N
 s₀:=s
 H₀:=H
 env:=ki qual scope s.heap.objs.size f cd
 outer:=outer
 stack:=ki qual scope s.heap.objs.size f cd::outer
 ex:= []
 calm:=true
 fn:=fun _=>true
 pn:= []
 xe:=fun e s'=>wpAny (model P w) (A.deeper (ki qual scope s.heap.objs.size f cd)) (leaving (ki qual scope s.heap.objs.size f cd) e) (fun _ s''=>CX outer H s E e s'') (fun e' s''=>CX outer H s E e' s'') s'
theorem vF{sc:Scope}{n:Nat}{x:Str}(h:sc.names.lookup x=some .cell): ∃c,(cellsFrom n sc.names []).lookup x=some c:=by
 have q:=PySem.W.cellsFrom_some sc.names n [] (.inl h)
 exact Option.isSome_iff_exists.mp q
theorem zW{CX:fJ}{P:ar}{w:World}{K:aH}{mg:Str->Option Value}{base:Heap}{N ps:List Str}{qual:Str}{scope:Scope}{f:Addr}{cd:Value}{A:bp}{outer:List Env}{s s1:ah}{H:Hp}{E:XK}{us:List Value}{vs:List V}
  (S:bN N ps scope)(hd:A.handled=none)(e0:xD P w K mg base A outer s H)(hl:vs.length=ps.length)(r:Vals vs us)
  (x:InCallC s s.heap.objs.size (bindL (ki qual scope s.heap.objs.size f cd).kindOf (ps.zip us) fun _=>none) (cellsFrom (s.heap.objs.size+1) scope.names []) (bindC (ki qual scope s.heap.objs.size f cd).kindOf (ps.zip us) fun _=>none) s1):
  Inv (kW CX P w K mg base N qual scope f cd A outer s H E) [] (start N vs) H s1:=by
 have hpl:ps.length<=N.length:=by have:=congrArg jY S.pre; rw [aT]at this; omega
 obtain⟨h1,tk,rfl,hk⟩:=x.done
 have noA: ∀b:Addr,b∉(kW CX P w K mg base N qual scope f cd A outer s H E).ex:=fun b z=>absurd (show b∈([]:List Addr)from z) (by simp)
 refine⟨⟨e0.mod,S.kind,rfl,rfl,aw _,fun y z c h1 h2=> ?_,fun y hy=> ?_,fun y c _ h=> ?_,fun _=>hd,Around.frames_deeper e0.frames, .inr ⟨rfl,rfl⟩,fun b z=>absurd z (noA b),e0.bs,e0.Cs,fun b _ _=>noA b,fun b z=>absurd z (noA b),e0.nN,e0.FF⟩,
  rfl,e0.bare,Un.kept hk,⟨_,x.toInCall.ns,fun i y v h1 h2 h3=> ?_⟩,fun y c h=>⟨_,x.cell y c h⟩,e0.dR.fresh (aw _),fun y c h=> ?_,fun p hp=>absurd (show p∈([]:List (Addr×Obj))from hp) (by simp),e0.dR.kept hk, ?_⟩
 ·exact name_of_addr x.apart (cq h1) (cq h2)
 ·have hy:scope.names.lookup y=some .cell\/scope.names.lookup y=some .free:=hy
  rcases hy with hy | hy
  ·exact vF hy
  ·exact absurd rfl (S.GJ _ (cq hy))
 ·exact jb (x.above y c (cq h))
 ·have hi:i < vs.length:=by
   unfold start at h2
   by_cases hi:i < vs.length
   ·exact hi
   ·rw [eD (by simpa using hi)]at h2
    rw [wZ]at h2
    split at h2 <;> cases h2
  have ha:vs[i]? =some v:=by
   unfold start at h2
   rw [eO (by simpa using hi),aD]at h2
   cases e:vs[i]? with
   | none=>rw [e]at h2; cases h2
   | some a=>rw [e]at h2; cases h2; rfl
  obtain⟨u,hu,rv⟩:=r.get ha
  have hp:ps[i]? =some y:=by
   rw [<-S.pre,List.getElem?_take_of_lt (by omega)]; exact h1
  have ndP:ps.Nodup:=by rw [<-S.pre]; exact S.nd.sublist (jZ _ _)
  refine⟨u,rv, ?_⟩
  rcases S.par y (aP hp)with k | k
  ·exact .inl ⟨k,sL ndP hp hu k⟩
  ·obtain⟨c,e⟩:=vF (n:=s.heap.objs.size+1) k
   refine .inr ⟨.inl k,c,e, ?_⟩
   have q:=x.cell y c e
   rw [sI ndP hp hu (by show scope.names.lookup y≠_; rw [k]; decide)]at q
   exact q
 ·exact e0.dR.fresh (jb (x.above y c (cq h)))
 ·unfold start
  show _=N.length
  rw [ak,ae,iB]
  omega
theorem vx{CX:fJ}{P:ar}{w:World}{K:aH}{mg:Str->Option Value}{base:Heap}{k:Nat}{f:Addr}{name qual:Str}{params:Arguments}{body:List Stmt}{scope:Scope}{dV kV doc pm cdv ct oc:Value}{an od:Option Addr}
  {osl:Array (Option Value)}{N ps:List Str}{sp:Sp}(lk:K.lookup f=some ⟨oc,od, .func (dY name qual params body scope dV kV doc pm an cdv ct),osl⟩)(hcd:mH K cdv qual=true)(S:bN N ps scope)
  (len: ∀vs H Q E,sp vs H Q E->vs.length=ps.length)
  (hbody: ∀(A:bp) (outer:List Env) (s:ah) (H:Hp) (vs:List V) (Q:VK) (E:XK),eL k (A.deeper (ki qual scope s.heap.objs.size f cdv))->sp vs H Q E->
   ∃t,xY (kW CX P w K mg base N qual scope f cdv A outer s H E) body t/\t {nx:=fun _ H'=>Q .non H',rt:=Q} (start N vs) H):
  kC P w K mg base CX (k+1) f (dY name qual params body scope dV kV doc pm an cdv ct) ps sp:=by
 refine⟨len,fun A outer s H args us vs Q E hr e0 hb r hsp=> ?_⟩
 have hl:=len _ _ _ _ hsp
 have KX:K.In s.heap:=e0.mod.AD.keeps fun b o e=>(e0.bs b o e).1
 have lim:s.heap.NoLimit:=e0.mod.nolimit.keeps fun b o e=>(e0.bs b o e).1
 have hkind: ∀y∈ps.zip us,scope.names.lookup y.1=some .local\/(scope.names.lookup y.1=some .cell/\((cellsFrom (s.heap.objs.size+1) scope.names []).lookup y.1).isSome=true):=fun⟨n,v⟩ hy=>by
  rcases S.par n (FL hy).1 with q | q
  ·exact .inl q
  ·exact .inr ⟨q,PySem.W.cellsFrom_some _ _ _ (.inl q)⟩
 refine codeAny_call_function hr.depth (KX _ _ lk) rfl S.co S.gen rfl (PySem.W.codeRec_of KX hcd) (hb _ _ _ _ ?_)
 refine wpAny_newFunctionEnv_cells S.kind hkind fun env he s1 x=> ?_
 subst he
 refine⟨lim.keeps x.toInCall.keep,codeAny_func ?_⟩
 obtain⟨t,ht,hq⟩:=hbody A outer s H vs Q E (hr.deeper _) hsp
 have I:Inv (kW CX P w K mg base N qual scope f cdv A outer s H E) [] (start N vs) H s1:=zW S hr.hd e0 hl r x
 refine cF (ht [] s1 (start N vs) H _ I hq) (fun fl s' hs=> ?_) fun e s' hs=>hs
 have fin: ∀{σ':St} {H':Hp} {v:V} {u:Value},Inv (kW CX P w K mg base N qual scope f cdv A outer s H E) [] σ' H' s'->RelV v u->Q v H'->CE outer P w H s Q u s':=
  fun{σ' H' v u} J rv q=>⟨v,H',J.os,J.bare,J.base,J.dR,rv,q⟩
 cases fl with
 | ret u=>
  obtain⟨v,σ',H',J,rv,q⟩:=hs
  exact fin J rv q
 | next=>
  obtain⟨σ',H',J,q⟩:=hs
  exact fin (v:=V.non) (u:=a_) J rfl q
 | brk=>
  obtain⟨_,_,_,q⟩:=hs
  exact e_ q
 | cont=>
  obtain⟨_,_,_,q⟩:=hs
  exact e_ q
end L2
namespace L2
open PySem PySem.Spec PyProof.Rows
section
variable {X:Cx}{x:Str}{p pos:Pos}{e:Expr}{es:List Expr}{t:TA}{id T:String}{r:List V->Hp->VK->Prop}
def Kp(r:List V->Hp->VK->Prop)(t:TA):TE:=fun σ H Q=>t σ H fun vs H1=>r vs H1 Q
theorem gL(hc:gf X (.builtin id) r)(hg:Gl X x)(hm:X.mg x=none)(hv:cU x=some (.builtin id))(ha:PA X (e::es) t)(hn:x≠"__name__":=by decide)(hdb:(x==("__debug__":Str))=false:=by decide)
  (he:aq (e::es) X.env=(false,eval e X.env)::aq es X.env:=by rfl)(hpl:(c9 pos (aq es X.env)).any (·.1)=false:=by rfl):PE X (.Call (.Name x p) (e::es) [] pos) (Kp r t):=by
 intro pins s σ H Q I h
 refine og (nU I hg hm hv ?_ hn hdb)
 exact PyProof.Rows.callWith_builtin1 (eQ (ha pos pins s σ H _ I h) fun us s1 ⟨vs,H1,I1,r1,q1⟩=>hc pins s1 σ H1 vs us Q I1 r1 q1) he hpl
theorem lH(hc:gf X (.type T) r)(hg:Gl X x)(hm:X.mg x=none)(hv:cU x=some (.type T))(ha:PA X (e::es) t)(hn:x≠"__name__":=by decide)(hdb:(x==("__debug__":Str))=false:=by decide)
  (he:aq (e::es) X.env=(false,eval e X.env)::aq es X.env:=by rfl)(hpl:(c9 pos (aq es X.env)).any (·.1)=false:=by rfl):PE X (.Call (.Name x p) (e::es) [] pos) (Kp r t):=by
 intro pins s σ H Q I h
 refine og (nU I hg hm hv ?_ hn hdb)
 exact jd (eQ (ha pos pins s σ H _ I h) fun us s1 ⟨vs,H1,I1,r1,q1⟩=>hc pins s1 σ H1 vs us Q I1 r1 q1) he hpl
end
end L2
namespace HT
open PySem PyProof.Rows
def lexLt:List Int->List Int->Bool
 | [], []=>false
 | [],_::_=>true
 | _::_, []=>false
 | x::xs,y::ys=>if x=y then lexLt xs ys else decide (x < y)
theorem qa(x y:Int)(xs ys:List Int):lexLt (x::xs) (y::ys)=if x=y then lexLt xs ys else decide (x < y):=rfl
theorem rN:lexLt [] []=false:=rfl
theorem qm(y:Int)(ys:List Int):lexLt [] (y::ys)=true:=rfl
theorem qv(x:Int)(xs:List Int):lexLt (x::xs) []=false:=rfl
theorem vQ(A:bp)(s:ah)(a:Int)(t:Tok)(c:Int)(u:Tok): ∃e,SeqAt.EqAt A s (.int a t) (.int c u) e/\(e=true↔a=c):=
 ⟨(a==c),SeqAt.EqAt.int_int a t c u,by simp⟩
theorem B5(A:bp)(s:ah)(a:Int)(t:Tok)(c:Int)(u:Tok)(prog:ar)(w:World)(E:Value->ah->Prop)(Q:Value->ah->Prop)(h:Q (.bool (decide (a < c))) s):
  wpAny (model prog w) A (mI .Lt (.int a t) (.int c u)) Q E s:=
 (PyProof.Rows.lt_int h:wpAny (model prog w) A (cj .Lt (.int a t) (.int c u)) Q E s)
section
open PySem.SeqAt
open PySem.AutoSeq1 (wpAny_loadPart')
open PySem.MeetsSeq PySem.MeetsSeq2 PySem.MeetsSeq3
theorem rC(l b:Addr)(items items2:Array Value)(n n2:Nat)(dd dd2:Option Addr)(sl sl2:Array (Option Value))(ns ms:List Int)(hi:fB items.toList ns)(hj:fB items2.toList ms):
  Meets (cG.«tuple.__lt__» ⟨[.ref l, .ref b], []⟩)
   (fun _ R s=>s.heap.get? l=some {cls:= .type "tuple",dict:=dd,data:= .seq items n,slots:=sl}/\s.heap.get? b=some {cls:= .type "tuple",dict:=dd2,data:= .seq items2 n2,slots:=sl2}/\
    R (.ok (.ret (.bool (lexLt ns ms)))) s):=
 .of_wp fun prog w A R s h=>by
  obtain⟨hp,g,d,tk,os⟩:=s; obtain⟨hl,hb,h⟩:=h
  have f2:=dw
  have z1:items.size=ns.length:=by rw [<-hi.length]; simp
  have z2:items2.size=ms.length:=by rw [<-hj.length]; simp
  wp_walk using wpAny_loadPart' hl,wpAny_loadPart' hb,gj _ (fun rest b s'=>b.1=none/\s'=⟨hp,g,d,tk,os⟩/\ ∃(vs ws:List Value) (ns' ms':List Int),rest=vs.zip ws/\
   fB vs ns'/\fB ws ms'/\ns'.length+items2.size=ms'.length+items.size/\R (.ok (.ret (.bool (lexLt ns' ms')))) ⟨hp,g,d,tk,os⟩) _
  case turn=>
   rintro⟨y,x⟩ rest b s' ⟨hb',rfl,vs,ws,ns',ms',hz,hvi,hwi,hlen,hR⟩
   cases hvi with
   | nil=>rw [oR]at hz; cases hz
   | cons a t hvi'=>
    cases hwi with
    | nil=>rw [oh]at hz; cases hz
    | cons c u hwi'=>
     rw [eE]at hz
     injection hz with hyx hrest
     injection hyx with hy hx
     subst hy hx
     rw [qa]at hR
     simp only [aC]at hlen
     obtain⟨e,he,hiff⟩:=vQ A.in1 ⟨hp,g,d,tk,os⟩ a t c u
     refine aa (he prog w _ _ ?_)
     cases e with
     | true=>
      rw [if_pos (hiff.mp rfl)]at hR
      wp_walk
      exact⟨rfl,rfl,_,_,_,_,hrest,hvi',hwi',by omega,hR⟩
     | false=>
      rw [if_neg (fun q=>absurd (hiff.mpr q) az)]at hR
      have hri:=B5 A.in1 ⟨hp,g,d,tk,os⟩ a t c u prog w
      wp_walk using hri
      exact⟨_,rfl,by simpa using hR⟩
  case fin=>
   rintro⟨b1,b2⟩ s' ⟨hb',rfl,vs,ws,ns',ms',hz,hvi,hwi,hlen,hR⟩
   simp only at hb'
   subst hb'
   have hv:lexLt ns' ms'=decide (items.size < items2.size):=by
    cases hvi with
    | nil=>
     cases hwi with
     | nil=>
      simp only [bQ]at hlen
      rw [rN]
      exact(decide_eq_false (by omega)).symm
     | cons c u hw=>
      simp only [bQ,aC]at hlen
      rw [qm]
      exact(decide_eq_true (by omega)).symm
    | cons a t hv=>
     cases hwi with
     | nil=>
      simp only [bQ,aC]at hlen
      rw [qv]
      exact(decide_eq_false (by omega)).symm
     | cons c u hw=>
      rw [eE]at hz
      cases hz
   rw [hv]at hR
   wp_walk
   exact⟨_,rfl,by simpa [iA]using hR⟩
  case h=>
   exact⟨rfl,rfl,items.toList,items2.toList,ns,ms,rfl,hi,hj,by omega,h⟩
end
section
variable {prog:ar}{w:World}{A:bp}{E:Value->ah->Prop}{s:ah}
theorem xi{l b:Addr}{items items2:Array Value}{ns ms:List Int}{Q:Value->ah->Prop}(hl:IsTup s.heap l items)(hb:IsTup s.heap b items2)(hi:fB items.toList ns)(hj:fB items2.toList ms)
  (hu:A.units < cLine)(h:Q (.bool (lexLt ns ms)) s):wpAny (model prog w) A (cj .Lt (.ref l) (.ref b)) Q E s:=by
 obtain⟨⟨cls,dd,data,sl⟩,ho,hc,n,hd⟩:=id hl
 obtain⟨⟨cls2,dd2,data2,sl2⟩,ho2,hc2,n2,hd2⟩:=id hb
 simp only at hc hd hc2 hd2
 subst hc hd hc2 hd2
 exact richCompare_meets_room (op:= .Lt) ⟨_,ho,rfl⟩ ⟨_,ho2,rfl⟩ zg PySem.F.entry_tuple_lt (PySem.F.args_tuple_lt_2 _ _) (rC l b items items2 n n2 dd dd2 sl sl2 ns ms hi hj)
  ⟨ho,ho2,show dJ (lexLt ns ms)≠mJ/\Q (.bool (lexLt ns ms)) s from⟨(fun x=>nomatch x),h⟩⟩ hu
theorem EV{t b:Addr}{vs ws:List Value}{Q:Value->ah->Prop}(ht:IsTup s.heap t vs.toArray)(hb:IsTup s.heap b ws.toArray)(hv:vs≠ [])
  (h1:ws= []->Q (.ref t) s)(h2:ws≠ []->Q (.ref s.heap.objs.size) {s with heap:=s.heap.push {cls:= .type "tuple",data:= .seq (vs ++ ws).toArray}})
  (hsz:vs.length+ws.length<=sizeLine):wpAny (model prog w) A (iQ .Add (.ref t) (.ref b)) Q E s:=by
 obtain⟨⟨cls,dd,data,sl⟩,ho,hc,n,hd⟩:=id ht
 obtain⟨⟨cls2,dd2,data2,sl2⟩,ho2,hc2,n2,hd2⟩:=id hb
 simp only at hc hd hc2 hd2
 subst hc hd hc2 hd2
 have e:vs.toArray ++ ws.toArray=(vs ++ ws).toArray:=by simp
 by_cases hw:ws= []
 ·exact yj ⟨_,ho,rfl⟩ ⟨_,ho2,rfl⟩ Fe seq_tuple_add yk w8 (wK _ _)
   (tuple_addW1 t b vs.toArray ws.toArray n n2 dd dd2 sl sl2 (by simpa using hv) (by simp [hw])) ⟨ho,ho2,h1 hw⟩
 ·refine yj ⟨_,ho,rfl⟩ ⟨_,ho2,rfl⟩ Fe seq_tuple_add yk w8 (wK _ _)
   (tuple_addW2 t b vs.toArray ws.toArray n n2 dd dd2 sl sl2 (by simpa using hv) (by simpa using hw) (by rw [ax,ax]; exact hsz)) ⟨ho,ho2, ?_⟩
  rw [e]
  exact h2 hw
def fF(n d:Nat):Option Int->Nat
 | none=>d
 | some v=>if v < 0 then(v+(n:Int)).toNat else min v.toNat n
theorem GR(n d:Nat)(hd:d<=n)(o:Option Int):fF n d o<=n:=by
 cases o with
 | none=>exact hd
 | some v=>
  show(if v < 0 then(v+(n:Int)).toNat else min v.toNat n)<=n
  by_cases hv:v < 0
  ·rw [if_pos hv]; omega
  ·rw [if_neg hv]; exact Ff _ _
theorem zb(v:Int)(n d:Nat):(if v < 0 then max (v+(n:Int)) 0 else min v (n:Int))=((fF n d (some v):Nat):Int):=by
 show(if v < 0 then max (v+(n:Int)) 0 else min v (n:Int))=(((if v < 0 then(v+(n:Int)).toNat else min v.toNat n):Nat):Int)
 by_cases hv:v < 0
 ·simp only [if_pos hv]; omega
 ·simp only [if_neg hv]; omega
theorem xx(lo hi:Option Int)(n:Nat):u4 lo hi 1 (n:Int)=(((fF n 0 lo:Nat):Int),((fF n n hi:Nat):Int)):=by
 have h1: ¬((1:Int) < 0):=by omega
 unfold u4
 simp only [h1,if_false]
 refine Prod.ext ?_ ?_
 ·cases lo with
  | none=>rfl
  | some v=>exact zb v n 0
 ·cases hi with
  | none=>rfl
  | some v=>exact zb v n n
theorem xp(i j:Nat):jS (i:Int) (j:Int) 1=j - i:=by
 unfold jS
 have h1:(1:Int) > 0:=by omega
 simp only [h1,if_true,Int.ediv_one]
 split <;> omega
theorem pE{v:Value}{o:Option Int}{Q:Option Int->ah->Prop}(p:oi v o)(h:Q o s):wpAny (model prog w) A (Builtin.Slice.slicePartIndex v) Q E s:=by
 cases p with
 | none=>exact slicePart_none h
 | int i t=>exact slicePart_int h
theorem jP{sl:Addr}{vl vu:Value}{lo hi:Option Int}{n:Nat}{Q:Int×Int×Nat->ah->Prop}(hs:s.heap.IsSliceOf sl vl vu .none)(pl:oi vl lo)(pu:oi vu hi)
  (h:Q (((fF n 0 lo:Nat):Int),1,fF n n hi - fF n 0 lo) s):wpAny (model prog w) A (Builtin.Slice.sliceApplied (.ref sl) (pure (n:Int))) Q E s:=by
 obtain⟨os,hos,hcs,hds⟩:=id hs
 unfold Builtin.Slice.sliceApplied Builtin.Slice.sliceFields
 refine aa (aa (bA hos hds (x:=vl) rfl (aa (bA hos hds (x:=vu) rfl (aa (bA hos hds (x:= .none) rfl (af ?_)))))))
 refine aa (slicePart_none ?_)
 show wpAny _ _ (if((1:Int)==0)=true then _ else _) _ _ s
 rw [if_neg (by decide)]
 refine aa (pE pl (aa (pE pu (aa (af ?_)))))
 show wpAny _ _ (match u4 lo hi 1 (n:Int)with | (lo,hi)=>pure (lo,(1:Int),jS lo hi 1)) _ _ s
 rw [xx lo hi n]
 show wpAny _ _ (pure (((fF n 0 lo:Nat):Int),(1:Int),jS ((fF n 0 lo:Nat):Int) ((fF n n hi:Nat):Int) 1)) _ _ s
 rw [xp]
 exact af h
theorem BR(xs:Array Value)(i k:Nat):((cn k).filterMap fun(m:Nat)=>xs[((i:Int)+(m:Int) * 1).toNat]?).toArray=((xs.toList.drop i).take k).toArray:=by
 have e:(fun(m:Nat)=>xs[((i:Int)+(m:Int) * 1).toNat]?)=fun m=>xs[i+m]? :=by
  funext m
  have:((i:Int)+(m:Int) * 1).toNat=i+m:=by omega
  rw [this]
 rw [e]
 have:=pick_run xs i k
 rw [List.filterMap_map]at this
 have e2:((fun x=>xs[x]?) ∘ fun x=>i+x)=fun m=>xs[i+m]? :=rfl
 rw [e2]at this
 rw [this]
theorem nj{t sl:Addr}{items:Array Value}{vl vu:Value}{lo hi:Option Int}{Q:Value->ah->Prop}(ht:IsTup s.heap t items)(hs:s.heap.IsSliceOf sl vl vu .none)(pl:oi vl lo)(pu:oi vu hi)
  (hw: ¬(fF items.size 0 lo=0/\fF items.size items.size hi=items.size))
  (h:Q (.ref s.heap.objs.size) {s with heap:=s.heap.push {cls:= .type "tuple",data:= .seq ((items.toList.drop (fF items.size 0 lo)).take (fF items.size items.size hi - fF items.size 0 lo)).toArray}})
  (hsz:items.size<=sizeLine):wpAny (model prog w) A (sU (.ref t) (.ref sl)) Q E s:=by
 have htake:sizeOk (.seq ((items.toList.drop (fF items.size 0 lo)).take (fF items.size items.size hi - fF items.size 0 lo)).toArray):=by
  show((items.toList.drop (fF items.size 0 lo)).take (fF items.size items.size hi - fF items.size 0 lo)).toArray.size<=sizeLine
  rw [ax,aT,aZ,aj]
  omega
 have hj:fF items.size items.size hi<=items.size:=GR _ _ (aw _) hi
 obtain⟨os,hos,hcs,hds⟩:=id hs
 have hTs:s.TypeIs (.ref sl) "slice":=⟨os,hos,hcs⟩
 unfold sU
 try with_reducible refine bD ?_
 first | refine aa (af ?_) | skip
 refine aa (wpAny_sequenceKey ht.typeIs (by decide) ?_)
 refine aa (cm (name:=eV "__getitem__") ht.typeIs c_
  (bF c_ ht.typeIs entry_tuple_getitem ?_ (args_tuple_getitem _ _)))
 show wpAny _ _ (uR (.ref t) >>=_) _ _ s
 refine aa (tupleItemsOf_ ht ?_)
 refine aa (gn hTs ?_)
 rw [if_pos (by decide)]
 refine aa (jP hs pl pu ?_)
 have hno: ¬((((fF items.size 0 lo:Nat):Int)==0&&(1:Int)==1&&(fF items.size items.size hi - fF items.size 0 lo)==items.size)=true):=by
  intro q
  rw [bq,bq]at q
  have q1:((fF items.size 0 lo:Nat):Int)=0:=mS q.1.1
  have q2:fF items.size items.size hi - fF items.size 0 lo=items.size:=mS q.2
  exact hw ⟨by omega,by omega⟩
 show wpAny _ _ (if(((fF items.size 0 lo:Nat):Int)==0&&(1:Int)==1&&(fF items.size items.size hi - fF items.size 0 lo)==items.size)=true then _ else _) _ _ s
 rw [if_neg hno,BR]
 first
  | exact aa (m:=kj _) (ba (af ⟨_,rfl,af h⟩) htake)
  | exact aa (m:=kj _) (ba (aa (af (af ⟨_,rfl,af h⟩))) htake)
  | exact aa (aa (m:=kj _) (ba (af (af ⟨_,rfl,af h⟩)) htake))
  | exact aa (aa (m:=kj _) (ba (af ⟨_,rfl,af h⟩) htake))
end
end HT
namespace L2
open PySem PySem.Spec PyProof.Rows
abbrev TO:=St->Hp->(Option Int->Hp->Prop)->Prop
def PO(X:Cx)(e:Option Expr)(t:TO):Prop:=
 ∀(pins:List (Addr×Obj)) (s:ah) (σ:St) (H:Hp) (Q:Option Int->Hp->Prop),Inv X pins σ H s->t σ H Q->
  wpAny (model X.prog X.w) X.A (evalPart e X.env) (fun u s'=> ∃o H',Inv X pins σ H' s'/\oi u o/\Q o H') X.xe s
def EF:TO:=fun _ H Q=>Q none H
def HW(t:TE):TO:=fun σ H Q=>t σ H fun x H1=> ∃i,x= .int i/\Q (some i) H1
theorem intsAre_of{ns:List Int}: ∀{us:List Value},Vals (ns.map V.int) us->fB us ns:=by
 induction ns with
 | nil=>intro us r; rw [oS]at r; cases r; exact .nil
 | cons n ns ih=>
  intro us r
  rw [aW]at r
  cases r with
  | cons r1 r2=>
   obtain⟨t,e⟩:=r1
   subst e
   exact .cons n t (ih r2)
section
variable {X:Cx}{e:Expr}{te:TE}{lo hi:Option Expr}{tl th:TO}{pos p2:Pos}
theorem DV:PO X none EF:=by
 intro pins s σ H Q I h
 rw [evalPart_none]
 exact af ⟨none,H,I, .none,h⟩
theorem ER(h:PE X e te):PO X (some e) (HW te):=by
 intro pins s σ H Q I hw
 rw [evalPart_some]
 refine eQ (h pins s σ H _ I hw) fun u s1 ⟨x,H1,I1,r1,q1⟩=> ?_
 obtain⟨i,rfl,q⟩:=q1
 obtain⟨t,rfl⟩:=r1
 exact⟨some i,H1,I1, .int i t,q⟩
def IH(X:Cx)(r:V->Option Int->Option Int->Hp->VK->Prop):Prop:=
 ∀(pins:List (Addr×Obj)) (s:ah) (σ:St) (H:Hp) (x:V) (v vl vu:Value) (lo hi:Option Int) (sl:Addr) (Q:VK),Inv X pins σ H s->RelV x v->s.heap.IsSliceOf sl vl vu .none->oi vl lo->oi vu hi->r x lo hi H Q->
  ∃T id,typeLookup (.type T) "__getitem__"=pure (some (.builtin id))/\s.TypeIs v T/\wpAny (model X.prog X.w) X.A (sU v (.ref sl)) (EP X pins σ Q) X.xe s
def KZ(r:V->Option Int->Option Int->Hp->VK->Prop)(te:TE)(tl th:TO):TE:=fun σ H Q=>te σ H fun x H1=>tl σ H1 fun l H2=>th σ H2 fun u H3=>r x l u H3 Q
theorem vN{r:V->Option Int->Option Int->Hp->VK->Prop}(hr:IH X r)(he:PE X e te)(hl:PO X lo tl)(hu:PO X hi th):PE X (.Subscript e (.Slice lo hi none p2) pos) (KZ r te tl th):=by
 intro pins s σ H Q I h
 refine Subscript_ (eQ (he pins s σ H _ I h) fun v s1 ⟨x,H1,I1,r1,q1⟩=> ?_)
 refine wpAny_Slice (eQ (hl pins s1 σ H1 _ I1 q1) fun vl s2 ⟨l,H2,I2,pl,q2⟩=>eQ (hu pins s2 σ H2 _ I2 q2) fun vu s3 ⟨u,H3,I3,pu,q3⟩=> ?_)
 rw [evalPart_none]
 refine af ?_
 have I4:Inv X pins σ H3 {s3 with heap:=s3.heap.push {cls:= .type "slice",data:= .fields #[vl,vu, .none]}}:=I3.kept (t':=s3.toks) fun b ob q=>ag _ q
 obtain⟨T,id,hT,ht,hg⟩:=hr pins {s3 with heap:=s3.heap.push {cls:= .type "slice",data:= .fields #[vl,vu, .none]}} σ H3 x v vl vu l u s3.heap.objs.size Q I4 r1 (Heap.IsSliceOf.new ..) pl pu q3
 show wpAny (model X.prog X.w) X.A (subscriptTail e (.Slice lo hi none p2) v (.ref s3.heap.objs.size)) (EP X pins σ Q) X.xe {s3 with heap:=s3.heap.push {cls:= .type "slice",data:= .fields #[vl,vu, .none]}}
 exact tail_any (ops:= [.ref s3.heap.objs.size,v]) ht hT hg (by with_unfolding_all rfl)
def tj(xs:List V)(lo hi:Option Int):List V:=(xs.drop (HT.fF xs.length 0 lo)).take (HT.fF xs.length xs.length hi - HT.fF xs.length 0 lo)
theorem ot(xs:List V)(lo hi:Option Int):(tj xs lo hi).length<=xs.length:=by
 unfold tj
 rw [aT,aZ]
 omega
def Jx(K:aH):V->Option Int->Option Int->Hp->VK->Prop:=fun x lo hi H Q=> ∃a xs,x= .ref a/\i4 K H a xs/\
 ¬(HT.fF xs.length 0 lo=0/\HT.fF xs.length xs.length hi=xs.length)/\ ∀p,H p=none->Q (.ref p) (upd H p (.tup (tj xs lo hi)))
theorem GU:IH X (Jx X.K):=by
 intro pins s σ H x v vl vu lo hi sl Q I rx hs pl pu h
 obtain⟨a,xs,rfl,hx,hw,q⟩:=h
 cases rx
 obtain⟨bL,r,ht,hz⟩:=I.tuple hx
 have hlen:bL.toArray.size=xs.length:=by rw [ax]; exact r.length.symm
 refine⟨"tuple",_,c_.lookup,ht.typeIs, ?_⟩
 refine HT.nj ht hs pl pu (by rw [hlen]; exact hw) ?_ (by rw [hlen]; exact hz)
 rw [hlen]
 refine⟨.ref s.heap.objs.size,_,I.laid (t':=s.toks) (o:= .tup (tj xs lo hi)) (fun b ob q=>ag _ q) (aw _) ?_,rfl,q _ (I.dR.fresh (aw _))⟩
 exact⟨bg (ot xs lo hi) hz,_,(r.drop (HT.fF xs.length 0 lo)).take (HT.fF xs.length xs.length hi - HT.fF xs.length 0 lo),IsTup.new _ _⟩
def HE(K:aH):R2:=fun x y H Q=> ∃a b xs ys,x= .ref a/\y= .ref b/\i4 K H a xs/\i4 K H b ys/\xs≠ []/\xs.length+ys.length<=sizeLine/\
 (ys= []->Q (.ref a) H)/\(ys≠ []-> ∀p,H p=none->Q (.ref p) (upd H p (.tup (xs ++ ys))))
theorem Vals.nil_iff{xs:List V}{us:List Value}(r:Vals xs us):us= []↔xs= []:=by
 cases r with
 | nil=>simp
 | cons _ _=>simp
theorem Ep:l7 X (iQ .Add) (HE X.K):=by
 intro pins s σ H x y v u Q I rx ry h
 obtain⟨a,b,xs,ys,rfl,rfl,ha,hb,hx,hz,q1,q2⟩:=h
 cases rx
 cases ry
 obtain⟨bL,r1,p1,_⟩:=I.tuple ha
 obtain⟨its2,r2,p2,_⟩:=I.tuple hb
 refine HT.EV p1 p2 (fun z=>hx (r1.nil_iff.mp z)) (fun z=>⟨.ref a,H,I,rfl,q1 (r2.nil_iff.mp z)⟩) (fun z=> ?_) (by rw [<-r1.length, <-r2.length]; exact hz)
 refine⟨.ref s.heap.objs.size,_,I.laid (t':=s.toks) (o:= .tup (xs ++ ys)) (fun b ob q=>ag _ q) (aw _) ?_,rfl,q2 (fun w=>z (r2.nil_iff.mpr w)) _ (I.dR.fresh (aw _))⟩
 exact⟨by rw [ak]; exact hz,_,r1.append r2,IsTup.new _ _⟩
end
end L2
namespace L2
open PySem PySem.Spec PyProof.Rows
def AU(n:Nat)(i:Int):Option Nat:=if 0<=i then(if i < n then some i.toNat else none)else if -(n:Int)<=i then some (i+n).toNat else none
def sh{α:Type}(xs:List α)(i:Int):Option α:=(AU xs.length i).bind fun j=>xs[j]?
theorem pb{n:Nat}{i:Int}{j:Nat}(h:AU n i=some j):seqIndex? i n=some j/\j < n/\ -(n:Int)<=i/\i < n:=by
 unfold AU at h
 by_cases h0:0<=i
 ·rw [if_pos h0]at h
  by_cases h1:i < n
  ·rw [if_pos h1]at h
   have e:i.toNat=j:=aK h
   exact⟨by rw [seqIndex_of h0 h1,e],by omega,by omega,h1⟩
  ·rw [if_neg h1]at h; cases h
 ·rw [if_neg h0]at h
  by_cases h1: -(n:Int)<=i
  ·rw [if_pos h1]at h
   have e:(i+n).toNat=j:=aK h
   exact⟨by rw [seqIndex_neg (by omega) h1,e],by omega,h1,by omega⟩
  ·rw [if_neg h1]at h; cases h
theorem sX{α:Type}{xs:List α}{i:Int}{v:α}(h:sh xs i=some v): ∃j,seqIndex? i xs.length=some j/\xs[j]? =some v/\j < xs.length/\ -(xs.length:Int)<=i/\i < xs.length:=by
 unfold sh at h
 cases e:AU xs.length i with
 | none=>rw [e]at h; cases h
 | some j=>
  rw [e]at h
  obtain⟨h1,h2,h3,h4⟩:=pb e
  exact⟨j,h1,h,h2,h3,h4⟩
theorem yA{α:Type}{xs:List α}{j:Nat}{v:α}(h:xs[j]? =some v):sh xs (j:Int)=some v:=by
 have hj:j < xs.length:=(aA.mp h).1
 have e:AU xs.length (j:Int)=some j:=by
  unfold AU
  rw [if_pos (by omega),if_pos (by omega)]; simp
 unfold sh; rw [e]; exact h
def mX(b:Expr):Prop:= ∀o i,subscripted b false o i=operate [o,i] (sU o i)
def II(X:Cx)(r:R2):Prop:=
 ∀(value slice:Expr) (pins:List (Addr×Obj)) (s:ah) (σ:St) (H:Hp) (x y:V) (v u:Value) (Q:VK),Inv X pins σ H s->RelV x v->RelV y u->r x y H Q->
  subscripted slice false v u=operate [v,u] (sU v u)->wpAny (model X.prog X.w) X.A (subscriptTail value slice v u) (EP X pins σ Q) X.xe s
def Kl(X:Cx)(id:String)(r:V->List V->Hp->VK->Prop):Prop:=
 ∀(pins:List (Addr×Obj)) (s:ah) (σ:St) (H:Hp) (x:V) (xs:List V) (v:Value) (us:List Value) (Q:VK),Inv X pins σ H s->RelV x v->Vals xs us->r x xs H Q->
  wpAny (model X.prog X.w) X.A (call (.builtin id) (v::us)) (EP X pins σ Q) X.xe s
section
variable {X:Cx}{a b:Expr}{ta tb:TE}{pos:Pos}
theorem Ba{r:R2}(hr:II X r)(ha:PE X a ta)(hb:PE X b tb)(hs:mX b):PE X (.Subscript a b pos) (IM r ta tb):=by
 intro pins s σ H Q I h
 exact Subscript_ (Gh ha hb I h fun v u s2 x y H2 I2 rx ry q=>hr a b pins s2 σ H2 x y v u Q I2 rx ry q (hs _ _))
def Jp(K:aH):R2:=fun x y H Q=> ∃p xs i v,x= .ref p/\y= .int i/\kR K H p xs/\sh xs i=some v/\Q v H
def Jm(K:aH):R2:=fun x y H Q=> ∃p xs i v,x= .ref p/\y= .int i/\i4 K H p xs/\sh xs i=some v/\Q v H
theorem E4:II X (Jp X.K):=by
 intro value slice pins s σ H x y v u Q I rx ry h hs
 obtain⟨p,xs,i,z,rfl,rfl,hq,he,q⟩:=h
 cases rx
 obtain⟨t,rfl⟩:=ry
 obtain⟨bL,r,pl,hz⟩:=I.list hq
 obtain⟨j,h1,h2,h3,h4,h5⟩:=sX he
 obtain⟨w,ew,rw'⟩:=r.get h2
 have hl:=r.length
 have hn:=uo
 have fin:EP X pins σ Q w s:=⟨z,H,I,rw',q⟩
 by_cases h0:0<=i
 ·have hj:i.toNat=j:=by
   rw [seqIndex_of h0 h5]at h1
   exact aK h1
  exact item_listR pl.isList h0 (by omega) (by rw [hj]; simpa using ew) fin hs
 ·have hj:(i+(bL.toArray.size:Int)).toNat=j:=by
   rw [seqIndex_neg (by omega) h4]at h1
   rw [ax, <-hl]
   exact aK h1
  exact yl (x:=w) pl.isList.typeIs slot_list_getitem.lookup
   (wpAny_getItem_list_neg (Q:=fun r s'=>r=w/\EP X pins σ Q r s') pl.isList (by omega) (by rw [ax] <;> omega) (by omega) (by rw [hj]; simpa using ew) ⟨rfl,fin⟩) hs
theorem GS:II X (Jm X.K):=by
 intro value slice pins s σ H x y v u Q I rx ry h hs
 obtain⟨p,xs,i,z,rfl,rfl,hq,he,q⟩:=h
 cases rx
 obtain⟨t,rfl⟩:=ry
 obtain⟨bL,r,pl,hz⟩:=I.tuple hq
 obtain⟨j,h1,h2,h3,h4,h5⟩:=sX he
 obtain⟨w,ew,rw'⟩:=r.get h2
 have hl:=r.length
 have hn:=uo
 have fin:EP X pins σ Q w s:=⟨z,H,I,rw',q⟩
 exact yl (x:=w) pl.typeIs slot_tuple_getitem.lookup
  (getItem_tuple (j:=j) (Q:=fun r s'=>r=w/\EP X pins σ Q r s') pl (by omega) (by omega) (by rw [ax, <-hl]; exact h1) (by simpa using ew) ⟨rfl,fin⟩) hs
theorem yd(bL:List Value)(n j:Nat)(u:Value):cR (·.setIfInBounds j u) {cls:= .type "list",data:= .seq bL.toArray n}={cls:= .type "list",data:= .seq (bL.set j u).toArray n}:=by
 simp [cR]
theorem Inv.lst{pins:List (Addr×Obj)}{σ:St}{H:Hp}{s:ah}{p:Addr}{xs:List V}(I:Inv X pins σ H s)(h:H p=some (.lst xs)):
  ∃(bL:List Value) (n:Nat),Vals xs bL/\s.heap.get? p=some {cls:= .type "list",data:= .seq bL.toArray n}/\xs.length<=sizeLine:=by
 obtain⟨z,bL,n,r,e⟩:=I.dR p _ h
 exact⟨bL,n,r,e,z⟩
theorem Inv.lstUpd{pins:List (Addr×Obj)}{σ:St}{H:Hp}{s:ah}{p:Addr}{xs ys:List V}{bL its':List Value}{n n':Nat}{f:Obj->Obj}(I:Inv X pins σ H s)(h:H p=some (.lst xs))
  (ho:s.heap.get? p=some {cls:= .type "list",data:= .seq bL.toArray n})(hf:f {cls:= .type "list",data:= .seq bL.toArray n}={cls:= .type "list",data:= .seq its'.toArray n'})(r:Vals ys its')(hz:ys.length<=sizeLine)(t:Nat):
  Inv X pins σ (upd H p (.lst ys)) {s with heap:=s.heap.update p f,toks:=t}:=by
 have e:(s.heap.update p f).get? p=some {cls:= .type "list",data:= .seq its'.toArray n'}:=by
  rw [di f ho (by rw [hf] <;> rfl),hf]
 refine I.write (x:=p) (e:=p) (by rw [h]; trivial) (.inl rfl) (fun b u hb q=>(cV _ _ (mQ hb)).trans q) ⟨_,e⟩ ?_
 exact⟨hz,its',n',r,e⟩
def HZ:V->V->V->Hp->(Hp->Prop)->Prop:=fun o i v H Q=> ∃p xs k j,o= .ref p/\i= .int k/\H p=some (.lst xs)/\AU xs.length k=some j/\Q (upd H p (.lst (xs.set j v)))
theorem set_list:HG X HZ:=by
 intro pins s σ H o i v ov iv u Q I ro ri rv h
 obtain⟨p,xs,k,j,rfl,rfl,hp,hj,q⟩:=h
 cases ro
 obtain⟨t,rfl⟩:=ri
 obtain⟨bL,n,r,ho,hz⟩:=I.lst hp
 obtain⟨h1,h2,h3,h4⟩:=pb hj
 have hl:=r.length
 have hn:=uo
 have I':Inv X pins σ (upd H p (.lst (xs.set j v))) {s with heap:=s.heap.update p (cR (·.setIfInBounds j u))}:=
  I.lstUpd hp ho (yd bL n j u) (r.set rv j) (by rw [bo]; exact hz) s.toks
 by_cases h0:0<=k
 ·have hk:k.toNat=j:=by
   rw [seqIndex_of h0 h4]at h1
   exact aK h1
  exact PySem.W.ki_setAt ho h0 (by omega) (by rw [ax, <-hl]; exact h4) (by rw [hk]; exact⟨_,I',q⟩)
 ·have hk:(k+(bL.toArray.size:Int)).toNat=j:=by
   rw [seqIndex_neg (by omega) h3]at h1
   rw [ax, <-hl]
   exact aK h1
  exact PySem.W.ki_setBack ho (by omega) (by rw [ax, <-hl]; exact h3) (by omega) (by rw [hk]; exact⟨_,I',q⟩)
theorem ui(lo hi:Option Int)(n:Nat):(j0 lo hi none n).1=((HT.fF n 0 lo:Nat):Int)/\(j0 lo hi none n).2.1=((HT.fF n n hi:Nat):Int)/\(j0 lo hi none n).2.2=1:=by
 refine⟨?_, ?_,rfl⟩
 ·cases lo with
  | none=>simp [j0,HT.fF]
  | some i=>
   simp only [j0,HT.fF,Option.getD_none,show(1:Int) > 0 by decide,if_true]
   by_cases h:i < 0
   ·simp only [h,if_true] <;> omega
   ·simp only [h,if_false] <;> omega
 ·cases hi with
  | none=>simp [j0,HT.fF]
  | some i=>
   simp only [j0,HT.fF,Option.getD_none,show(1:Int) > 0 by decide,if_true]
   by_cases h:i < 0
   ·simp only [h,if_true] <;> omega
   ·simp only [h,if_false] <;> omega
theorem rM(bL:List Value)(lo hi:Option Int):slicePick bL.toArray lo hi none=((bL.drop (HT.fF bL.length 0 lo)).take (HT.fF bL.length bL.length hi - HT.fF bL.length 0 lo)).toArray:=by
 obtain⟨h1,h2,h3⟩:=ui lo hi bL.toArray.size
 unfold slicePick
 rw [h1,h2,h3]
 simp only [sliceRange_one,pick_run,ax] <;> rfl
def JH(K:aH):V->Option Int->Option Int->Hp->VK->Prop:=fun x lo hi H Q=> ∃a xs,x= .ref a/\kR K H a xs/\ ∀p,H p=none->Q (.ref p) (upd H p (.lst (tj xs lo hi)))
theorem DP:IH X (JH X.K):=by
 intro pins s σ H x v vl vu lo hi sl Q I rx hs pl pu h
 obtain⟨a,xs,rfl,hx,q⟩:=h
 cases rx
 obtain⟨bL,r,ht,hz⟩:=I.list hx
 have hlen:=r.length
 refine⟨"list",_,slot_list_getitem.lookup,ht.isList.typeIs, ?_⟩
 refine wpAny_getItem_list_slice ht.isList hs pl pu .none (by simp) ?_ (by rw [ax] <;> omega)
 rw [rM, <-hlen]
 refine⟨.ref s.heap.objs.size,_,I.laid (t':=s.toks) (o:= .lst (tj xs lo hi)) (fun b ob q=>ag _ q) (aw _) ?_,rfl,q _ (I.dR.fresh (aw _))⟩
 exact⟨bg (ot xs lo hi) hz,_,0,(r.drop (HT.fF xs.length 0 lo)).take (HT.fF xs.length xs.length hi - HT.fF xs.length 0 lo),au _ rfl⟩
theorem tm:gf X (.builtin "len") (fun xs H Q=> ∃p ys,xs= [.ref p]/\(kR X.K H p ys\/i4 X.K H p ys)/\Q (.int ys.length) H):=by
 intro pins s σ H xs us Q I r h
 obtain⟨p,ys,rfl,hq,q⟩:=h
 obtain⟨u,rfl,rx⟩:=vals1 r
 cases rx
 have hn:=uo
 rcases hq with hq | hq
 ·obtain⟨bL,r',pl,hz⟩:=I.list hq
  have hlen:=r'.length
  exact Calls.call_len_list pl.isList (by simp only [ax] <;> omega) ⟨.int ys.length,H,I.tok _,⟨s.toks+1,by rw [ax,hlen]⟩,q⟩
 ·obtain⟨bL,r',pl,hz⟩:=I.tuple hq
  have hlen:=r'.length
  exact len_tuple pl (by simp only [ax] <;> omega) ⟨.int ys.length,H,I.tok _,⟨s.toks+1,by rw [ax,hlen]⟩,q⟩
theorem tR:gf X (.type "list") (fun xs H Q=> ∃p ys,xs= [.ref p]/\(kR X.K H p ys\/i4 X.K H p ys)/\ ∀l,H l=none->Q (.ref l) (upd H l (.lst ys))):=by
 intro pins s σ H xs us Q I r h
 obtain⟨p,ys,rfl,hq,q⟩:=h
 obtain⟨u,rfl,rx⟩:=vals1 r
 cases rx
 have fin: ∀(bL:List Value),Vals ys bL->ys.length<=sizeLine-> ∀(h':Heap) (c':Nat),(∀b o',s.heap.get? b=some o'->h'.get? b=some o')->
   h'.get? s.heap.objs.size=some {cls:= .type "list",dict:=none,data:= .seq bL.toArray c',slots:= #[]}->EP X pins σ Q (.ref s.heap.objs.size) {s with heap:=h'}:=fun bL r' hz h' c' kp e=>
  ⟨.ref s.heap.objs.size,_,I.laid (t':=s.toks) kp (aw _) (show dP X.prog X.w _ h' _ (.lst ys)from⟨hz,bL,c',r',e⟩),rfl,q _ (I.dR.fresh (aw _))⟩
 rcases hq with hq | hq
 ·obtain⟨bL,r',pl,hz⟩:=I.list hq
  have hlen:=r'.length
  obtain⟨o,ho,hc,n,hd⟩:=pl.isList
  exact call_list_seq p (.inl rfl) ho hc hd (fun h' c' kp e=>fin bL r' hz h' c' kp e) (by simp only [ax] <;> omega)
 ·obtain⟨bL,r',pl,hz⟩:=I.tuple hq
  have hlen:=r'.length
  obtain⟨o,ho,hc,n,hd⟩:=pl
  exact call_list_seq p (.inr rfl) ho hc hd (fun h' c' kp e=>fin bL r' hz h' c' kp e) (by simp only [ax] <;> omega)
theorem rH:gf X (.type "tuple") (fun xs H Q=> ∃p ys,xs= [.ref p]/\((kR X.K H p ys/\ ∀l,H l=none->Q (.ref l) (upd H l (.tup ys)))\/(i4 X.K H p ys/\Q (.ref p) H))):=by
 intro pins s σ H xs us Q I r h
 obtain⟨p,ys,rfl,h⟩:=h
 obtain⟨u,rfl,rx⟩:=vals1 r
 cases rx
 rcases h with⟨hq,q⟩ | ⟨hq,q⟩
 ·obtain⟨bL,r',pl,hz⟩:=I.list hq
  have hlen:=r'.length
  refine call_tuple_list pl.isList (fun h' kp=> ?_) (by simp only [ax] <;> omega)
  have I1:Inv X pins σ H {s with heap:=h'}:=I.kept (t':=s.toks) kp
  have I2:Inv X pins σ (upd H h'.objs.size (.tup ys)) {s with heap:=h'.push {cls:= .type "tuple",data:= .seq bL.toArray}}:=
   I1.laid (t':=s.toks) (fun b o e=>ag _ e) (aw _) (show dP X.prog X.w _ _ _ (.tup ys)from⟨hz,bL,r',IsTup.new _ _⟩)
  exact⟨.ref h'.objs.size,_,I2,rfl,q _ (I1.dR.fresh (aw _))⟩
 ·obtain⟨bL,r',pl,hz⟩:=I.tuple hq
  exact call_tuple_same pl ⟨.ref p,H,I,rfl,q⟩
def JA(K:aH)(T:String)(x:V)(H:Hp):Prop:=match x with
 | .str _=>T="str"
 | .int _=>T="int"
 | .ref p=>(T="list"/\ ∃xs,kR K H p xs)\/(T="tuple"/\ ∃o,K.lookup p=some o/\o.cls= .type "tuple"/\o.dict=none)\/
   (T="dict"/\((∃kvs,H p=some (.dK kvs))\/ ∃kvs,H p=some (.dT kvs)))\/(T="set"/\ ∃S n,H p=some (.set S n))
 | _=>False
theorem C5{pins:List (Addr×Obj)}{σ:St}{H:Hp}{s:ah}{T:String}{x:V}{v:Value}(I:Inv X pins σ H s)(r:RelV x v)(ty:JA X.K T x H):
  s.TypeIs v T/\ ∀a,v= .ref a-> ∃ob,s.heap.get? a=some ob/\ob.dict=none:=by
 cases x with
 | str z=>
  obtain⟨t,rfl⟩:=r
  cases (show T="str" from ty)
  exact⟨typeIs_str s z t,fun _ e=>nomatch e⟩
 | int i=>
  obtain⟨t,rfl⟩:=r
  cases (show T="int" from ty)
  exact⟨typeIs_int s i t,fun _ e=>nomatch e⟩
 | ref p=>
  cases r
  rcases ty with⟨rfl,xs,hq⟩ | ⟨rfl,o,hk,hc,hd⟩ | ⟨rfl,hk⟩ | ⟨rfl,S,n,hk⟩
  ·obtain⟨bL,_,pl,_⟩:=I.list hq
   refine⟨pl.isList.typeIs,fun a e=> ?_⟩
   cases e
   obtain⟨o,n,e,c,hd,_⟩:=pl
   exact⟨o,e,hd⟩
  ·refine⟨⟨o,I.kIn p o hk,hc⟩,fun a e=> ?_⟩
   cases e
   exact⟨o,I.kIn _ o hk,hd⟩
  ·have z: ∃o,s.heap.get? p=some o/\o.ExactDict:=by
    rcases hk with⟨kvs,hk⟩ | ⟨kvs,hk⟩
    ·obtain⟨_,_,_,_,o,_,_,e,ex,_⟩:=I.dR p _ hk
     exact⟨o,e,ex⟩
    ·obtain⟨_,_,_,_,o,_,_,e,ex,_⟩:=I.dR p _ hk
     exact⟨o,e,ex⟩
   obtain⟨o,e,ex⟩:=z
   refine⟨⟨o,e,ex.1⟩,fun a e2=> ?_⟩
   cases e2
   exact⟨o,e,ex.2.1⟩
  ·obtain⟨o,_,_,_,e,ex,_⟩:=I.dR p _ hk
   refine⟨⟨o,e,ex.1⟩,fun a e2=> ?_⟩
   cases e2
   exact⟨o,e,ex.2.1⟩
 | _=>exact e_ ty
def IS(K:aH)(T:String)(r:V->List V->Hp->VK->Prop)(to:TE):TE:=fun σ H Q=>to σ H fun x H1=>JA K T x H1/\r x [] H1 Q
def KW(K:aH)(T:String)(r:V->List V->Hp->VK->Prop)(to:TE)(t:TA):TE:=fun σ H Q=>to σ H fun x H1=>JA K T x H1/\t σ H1 fun xs H2=>r x xs H2 Q
variable {o e:Expr}{es:List Expr}{to:TE}{t:TA}{name:Str}{apos cpos:Pos}{T id:String}{r:V->List V->Hp->VK->Prop}
theorem Gd(pa:PlainAttrs T)(slot:Slot T name id)(hty:typeOf (.builtin id)=pure (.type "method_descriptor"))(hm:Kl X id r)(ho:PE X o to)
  (hbase:fb o name X.env (eval o X.env)=eval o X.env:=by rfl)(hline:(apos.endLine==cpos.line)=true:=by rfl):PE X (.Call (.Attribute o name apos) [] [] cpos) (IS X.K T r to):=by
 intro pins s σ H Q I h
 refine wpAny_Call_method0_late hbase hline (eQ (ho pins s σ H _ I h) fun v s1 ⟨x,H1,I1,r1,ty,q1⟩=> ?_)
 obtain⟨h1,h2⟩:=C5 I1 r1 ty
 exact⟨T,id,pa,slot,hty,h1,h2,lB rfl (PySem.evalArgs_none (hm pins s1 σ H1 x [] v [] Q I1 r1 .nil q1))⟩
theorem A6(pa:PlainAttrs T)(slot:Slot T name id)(hty:typeOf (.builtin id)=pure (.type "method_descriptor"))(hm:Kl X id r)(ho:PE X o to)(ha:PA X (e::es) t)
  (hbase:fb o name X.env (eval o X.env)=eval o X.env:=by rfl)
  (hfew:((c9 cpos (aq (e::es) X.env)).all (fun x=> !x.1)&&(backToKw cpos (rg [] X.env)).all (fun x=>x.1.isSome)
   &&decide ((e::es).length+([]:List Keyword).length+(if([]:List Keyword).isEmpty then 0 else 1) < 30))=true:=by rfl)
  (hline:(apos.endLine==cpos.line)=true:=by rfl)(hs:aq (e::es) X.env=(false,eval e X.env)::aq es X.env:=by rfl)(hplain:(c9 cpos (aq es X.env)).any (·.1)=false:=by rfl):
  PE X (.Call (.Attribute o name apos) (e::es) [] cpos) (KW X.K T r to t):=by
 intro pins s σ H Q I h
 refine wpAny_Call_method_late hbase hfew hline rfl (eQ (ho pins s σ H _ I h) fun v s1 ⟨x,H1,I1,r1,ty,q1⟩=> ?_)
 obtain⟨h1,h2⟩:=C5 I1 r1 ty
 refine⟨T,id,pa,slot,hty,h1,h2, ?_⟩
 have hA:=ha cpos pins s1 σ H1 _ I1 q1
 rw [hs]at hA ⊢
 refine lB (by show(false || (c9 cpos (aq es X.env)).any (·.1))=false; rw [hplain] <;> rfl) (Au ?_)
 exact eQ hA fun us s2 ⟨vs,H2,I2,r2,q2⟩=>hm pins s2 σ H2 x vs v us Q I2 r1 r2 q2
end
end L2
namespace L2
open PySem PySem.Spec PyProof.Rows
def Hm(X:Cx)(id:String)(r:V->List V->Hp->VK->Prop):Prop:=
 ∀(pins:List (Addr×Obj)) (s:ah) (σ:St) (H:Hp) (x:V) (xs:List V) (v:Value) (us:List Value) (Q:VK),Inv X pins σ H s->RelV x v->Vals xs us->r x xs H Q->
  wpAny (model X.prog X.w) X.A (call (.builtin id) (v::us)) (EP X pins σ Q) X.xe s
theorem Vals.one: ∀{x:V} {us:List Value},Vals [x] us-> ∃u,us= [u]/\RelV x u
 | _,_, .cons r .nil=>⟨_,rfl,r⟩
theorem Vals.zero: ∀{us:List Value},Vals [] us->us= []
 | _, .nil=>rfl
theorem Vals.eraseIdx: ∀{xs:List V} {us:List Value} (i:Nat),Vals xs us->Vals (xs.eraseIdx i) (us.eraseIdx i)
 | _,_,_, .nil=> .nil
 | _,_,0, .cons _ t=>t
 | _,_,i+1, .cons r t=> .cons r (Vals.eraseIdx i t)
theorem sr{α:Type}: ∀(l:List α) (i:Nat),(l.eraseIdx i).length<=l.length
 | [],_=>aw _
 | _::_,0=>As _
 | _::r,i+1=>Nat.succ_le_succ (sr r i)
section
variable {X:Cx}{pins:List (Addr×Obj)}{σ:St}{H:Hp}{s:ah}{l b:Addr}{xs ys zs:List V}
theorem Inv.lset{bL its':List Value}{n:Nat}{f:Array Value->Array Value}{t':Nat}(I:Inv X pins σ H s)(hH:H l=some (.lst xs))
  (e:s.heap.get? l=some {cls:= .type "list",data:= .seq bL.toArray n})(hf:f bL.toArray=its'.toArray)(hv:Vals ys its')(hz:ys.length<=sizeLine):
  Inv X pins σ (upd H l (.lst ys)) {s with heap:=s.heap.update l (cR f),toks:=t'}:=by
 have q:=PySem.IsL.update e f
 rw [hf]at q
 refine I.write (x:=l) (e:=l) (by rw [hH]; exact trivial) (.inl rfl) (fun b' u hb hu=>(cV s.heap (cR f) (mQ hb)).trans hu) ⟨_,q⟩ ?_
 exact⟨hz,its',_,hv,q⟩
theorem Inv.lnew{bL:List Value}{t':Nat}(I:Inv X pins σ H s)(hv:Vals ys bL)(hz:ys.length<=sizeLine):
  Inv X pins σ (upd H s.heap.objs.size (.lst ys)) {s with heap:=s.heap.push {cls:= .type "list",data:= .seq bL.toArray},toks:=t'}:=
 I.laid (fun _ _ q=>ag _ q) (aw _) ⟨hz,bL,0,hv,au _ rfl⟩
theorem Inv.fresh(I:Inv X pins σ H s):H s.heap.objs.size=none:=I.dR.fresh (aw _)
theorem Inv.lstM(I:Inv X pins σ H s)(hH:H l=some (.lst xs)):xs.length<=sizeLine/\ ∃(bL:List Value) (n:Nat),Vals xs bL/\xs.length=bL.length/\s.heap.get? l=some {cls:= .type "list",data:= .seq bL.toArray n}:=by
 obtain⟨z,bL,n,r,e⟩:=I.dR l _ hH
 exact⟨z,bL,n,r,r.length,e⟩
theorem BK{n:Nat}(h:n<=sizeLine):gC n=false:=by
 unfold gC
 exact decide_eq_false (by omega)
end
section
variable {X:Cx}
def Ec:V->List V->Hp->VK->Prop:=fun x vs H Q=> ∃l xs y,x= .ref l/\vs= [y]/\H l=some (.lst xs)/\xs.length < sizeLine/\Q .non (upd H l (.lst (xs ++ [y])))
theorem nO:Hm X "list.append" Ec:=by
 intro pins s σ H x vs v us Q I rx rv h
 obtain⟨l,xs,y,rfl,rfl,hH,hz,q⟩:=h
 cases rx
 obtain⟨u,rfl,ru⟩:=rv.one
 obtain⟨z,bL,n,r,hl,e⟩:=I.lstM hH
 refine uS F.slot_list_append ⟨_,e,rfl⟩ F.entry_list_append (F.args_list_append_2 _ _) (PySem.list_append l bL.toArray n u (by rw [ax]; omega)) ⟨e, ?_⟩
 refine⟨.non,_,I.lset (its':=bL ++ [u]) hH e (by simp) (r.append (.cons ru .nil)) ?_,rfl,q⟩
 rw [ak,fL]
 omega
def Gv:V->List V->Hp->VK->Prop:=fun x vs H Q=> ∃l xs i k y,x= .ref l/\vs= [.int i]/\H l=some (.lst xs)/\ -(2 ^ 63)<=i/\i < 2 ^ 63/\seqIndex? i xs.length=some k/\xs[k]? =some y/\Q y (upd H l (.lst (xs.eraseIdx k)))
theorem BB:Hm X "list.pop" Gv:=by
 intro pins s σ H x vs v us Q I rx rv h
 obtain⟨l,xs,i,k,y,rfl,rfl,hH,h1,h2,hk,hy,q⟩:=h
 cases rx
 obtain⟨u,rfl,ru⟩:=rv.one
 obtain⟨t,rfl⟩:=ru
 obtain⟨z,bL,n,r,hl,e⟩:=I.lstM hH
 obtain⟨w,hw,rw'⟩:=r.get hy
 refine uS F.slot_list_pop ⟨_,e,rfl⟩ F.entry_list_pop (F.args_list_pop_2 _ _)
  (MeetsSeq.list_pop_at l bL.toArray n i t k w (fitsIndex_both h1 h2) (by rw [ax, <-hl]; exact hk) (by rw [<-bb]; exact hw) (by rw [ax]; omega)) ⟨e, ?_⟩
 refine⟨y,_,I.lset (its':=bL.eraseIdx k) hH e ?_ (r.eraseIdx k) ?_,rw',q⟩
 ·show bL.toArray.eraseIdxIfInBounds k=(bL.eraseIdx k).toArray
  rw [List.eraseIdxIfInBounds_toArray]
 ·have:=sr xs k
  omega
def Gf:V->List V->Hp->VK->Prop:=fun x vs H Q=> ∃l xs,x= .ref l/\vs= []/\H l=some (.lst xs)/\Q .non (upd H l (.lst []))
theorem AK:Hm X "list.clear" Gf:=by
 intro pins s σ H x vs v us Q I rx rv h
 obtain⟨l,xs,rfl,rfl,hH,q⟩:=h
 cases rx
 have hus:=rv.zero
 subst hus
 obtain⟨z,bL,n,r,hl,e⟩:=I.lstM hH
 refine uS F.slot_list_clear ⟨_,e,rfl⟩ F.entry_list_clear (F.args_list_clear_1 _) (AutoSeq1.list_clear_list_0 l bL.toArray n (by rw [ax]; omega)) ⟨e, ?_⟩
 exact⟨.non,_,I.lset (its':= []) (ys:= []) hH e rfl .nil (bO _),rfl,q⟩
end
end L2
namespace Att
open PySem PySem.W PySem.Calls PyProof.Rows
theorem oN{P:Params}{h:Heap}: ∀(ns:List Int) (vs:List Value),WellAll P h vs (ns.map WData.int)->fB vs ns:=by
 intro ns
 induction ns with
 | nil=>
  intro vs w
  rw [oS]at w
  cases w
  exact .nil
 | cons n ns ih=>
  intro vs w
  rw [aW]at w
  cases w with
  | cons a b=>
   cases a
   exact .cons _ _ (ih _ b)
theorem zU{l:OpenLaw}{n:Nat}(hn:l.most=some n){P:Params}{h:Heap}{args:List WData}{vals:List Value}
  (hpre:l.row.toRowW.claim.pre args=true)(hwl:WellAll P h vals args):
  ∃a vs ns,vals= [ao a]/\args= [WData.list (ns.map WData.int)]/\h.get? a=some {cls:= .type "list",data:= .seq vs.toArray}/\fB vs ns/\ns.length<=n:=by
 have hsh:WShape.hasAll [] args [.list .int]=true:=(pre_splitW hpre).1
 have hc:l.pre.holds [] {args:=args}=true:=(pre_splitW hpre).2
 obtain⟨d,r,rfl,h1,h2⟩:=hasAllW_cons hsh
 obtain rfl:=hasAllW_nil h2
 obtain⟨xs,rfl,h3⟩:=hasW_list h1
 obtain⟨ns,rfl⟩:=items_int h3
 have hlen:ns.length<=n:=by
  unfold OpenLaw.pre at hc
  have h4:(WTm.not (.lt (.lit (.int (n:Int))) (.len (.arg 0)))).holds [] {args:= [.list (ns.map .int)]}=true:=by
   have h4:=(holds_andW hc).1
   rw [hn]at h4
   exact h4
  have h5:=condW_of h4 (w_not (w_lt w_lit (w_len_list (w_arg rfl))))
  rw [ae]at h5
  refine qW fun q=> ?_
  have q':(n:Int) < ((ns.length:Nat):Int):=by omega
  first
   | (rw [decide_eq_true q']at h5; exact absurd h5 (by decide))
   | (simp at h5; omega)
 cases hwl with
 | cons w1 w2=>
  cases w2
  cases w1 with
  | list ho hall=>exact⟨_,_,ns,rfl,rfl,ho,oN ns _ hall,hlen⟩
theorem Ai(l:OpenLaw)(args:List WData):l.row.toRowW.claim.post args (.bool true) args=true:=
 postW_of (r:=l.row.toRowW) (X:=(true==true))
  (show WShape.has [] (.bool true) .bool=true by first | rfl | decide | simp [WShape.has,WShape.arms,WShape.armsAll])
  (show(WTm.eq .res (.lit (.bool true))).value [] {args:=args,res:=some (.bool true),after:=args}=some (.bool (true==true))from w_eq_bool (w_res rfl) w_lit) rfl
theorem vk{l:OpenLaw}{n:Nat}{q:ar}{loose:List Str}{XP:(Str->Option Value)->Heap->Prop}{YP:World->Heap->Prop}{d:DefRec}
  (hn:l.most=some n)(hdf:d.params.defaults= [])
  (call: ∀(w:World) (s₀ s₁:ah) (mg mb:Str->Option Value) (fa:Addr) (o:Obj) (pm cd doc:Value) (a:Addr) (vs:List Value) (ns:List Int),
   Ground q loose [] XP w s₀ mg mb s₁.heap->YP w s₁.heap->
   s₁.heap.get? fa=some o->o.data= .func (docDef d.name d.params d.body d.scope pm cd doc)->s₁.heap.CodeRec cd d.name->mg d.name=some (.ref fa)->
   s₁.heap.get? a=some {cls:= .type "list",data:= .seq vs.toArray}->fB vs ns->ns.length<=n->s₁.gens= #[]->
   gG (model l.prog w) oU (.call (.ref fa) ⟨[.ref a], []⟩) (fun r s'=>r= .ok (.ret (.bool true))/\OldK s₁.heap s'.heap/\s'.os=s₁.os/\lu s'.gens) s₁):
  WalkO q loose XP YP l.row.toRowW d [] (fun f vs=>PySem.call f vs):=by
 intro w s₀ s₁ mg mb G Y fa o pm cd doc dV kV ho hd hcd hD hmg hg args vals as hpre hlay hrd hwl hlo
 obtain rfl:dV= .none:=Dflts.none hD hdf
 obtain rfl:kV= .none:=Dflts.noKw hD
 obtain⟨a,vs,ns,rfl,rfl,hobj,hints,hlen⟩:=zU hn hpre hwl
 refine enter_call (lA (call w s₀ s₁ mg mb fa o pm cd doc a vs ns G Y ho (fd_plain hd) hcd hmg hobj hints hlen hg) fun r s' hq=> ?_)
 obtain⟨rfl,h2,h3,h4⟩:=hq
 exact⟨.inl ⟨.bool true, .bool true, [],rfl,fun _=>rfl, .bool true,Ai l _,fun _=>⟨eW,fun _ hm=>(nomatch hm)⟩⟩,h2,h3,h4⟩
end Att
namespace L2
open PySem PySem.Spec PyProof.Rows
theorem r9: ∀{vs:List Value} {ns:List Int},fB vs ns->Vals (ns.map V.int) vs
 | _,_, .nil=> .nil
 | _,_, .cons n t h=> .cons ⟨t,rfl⟩ (r9 h)
def GK(H:Hp):Prop:= ∀b,H b=none\/ ∃o xs,H b=some (.frz o (.lst xs))
theorem BW{P:ar}{w:World}{K:aH}{mg mb:Str->Option Value}{CX:fJ}{k:Nat}{fa a:Addr}{fd:aV}{x:Str}{sp:Sp}{s₁:ah}{vs:List Value}{ns:List Int}
  (KX:K.In s₁.heap)(hns:s₁.heap.Ns b9 mg)(hb:s₁.heap.Ns builtinsNs mb)(hbb: ∀x:Str,x≠"__name__"->mb x=cU x)(hlim:s₁.heap.NoLimit)(hg:s₁.gens= #[])
  (ha:s₁.heap.get? a=some {cls:= .type "list",data:= .seq vs.toArray})(hi:fB vs ns)(hl:ns.length<=sizeLine)(hr:eL k oU)
  (F: ∀base:Heap,K.In base->base.Ns b9 mg->kC P w K mg base CX k fa fd [x] sp)(hbind: ∀(s:ah) (u:Value),BindsTo s fd ⟨[u], []⟩ [(x,u)])
  (hsp: ∀H:Hp,GK H->kR K H a (ns.map V.int)->sp [.ref a] H (fun v _=>v= .bl true) fun _ _ _=>False)
  (hCX: ∀H e s',CX [] H s₁ (fun _ _ _=>False) e s'->False):
  gG (model P w) oU (.call (.ref fa) ⟨[.ref a], []⟩) (fun r s'=>r= .ok (.ret (.bool true))/\OldK s₁.heap s'.heap/\s'.os=s₁.os/\lu s'.gens) s₁:=by
 have rv:=r9 hi
 have lenV:=hi.length
 have core: ∀H:Hp,GK H->kR K H a (ns.map V.int)->mP P w H s₁.heap->(∀b,H b≠none->b=a)->(H a≠none->K.lookup a=none)->
   gG (model P w) oU (.call (.ref fa) ⟨[.ref a], []⟩) (fun r s'=>r= .ok (.ret (.bool true))/\OldK s₁.heap s'.heap/\s'.os=s₁.os/\lu s'.gens) s₁:=by
  intro H hO hS dR hA hK
  have base_of: ∀{b:Addr} {o:Obj},s₁.heap.get? b=some o->H b=none->(t_ s₁.heap H).get? b=some o:=fun e n=>Bw e n
  have noA: ∀{b:Addr} {o:Obj} {es:Array cJ} {ep:Nat},s₁.heap.get? b=some o->o.data= .dict es ep->H b=none:=fun{b o es ep} e d=>by
   cases q:H b with
   | none=>rfl
   | some u=>
    have e':b=a:=hA b (by rw [q]; simp)
    subst e'
    rw [ha]at e; cases e
    have d':Av vs.toArray _=Data.dict es ep:=d
    cases d'
  have nsK: ∀{b:Addr} {m:Str->Option Value},s₁.heap.Ns b m->(t_ s₁.heap H).Ns b m:=fun{b m} ⟨o,es,ep,e,d,r⟩=>⟨o,es,ep,base_of e (noA e d),d,r⟩
  have hKb:K.In (t_ s₁.heap H):=fun b o e=>base_of (KX b o e) (by
   cases q:H b with
   | none=>rfl
   | some u=>
    have e':b=a:=hA b (by rw [q]; simp)
    subst e'
    rw [hK (by rw [q]; simp)]at e; cases e)
  have hM:Mod K mg (t_ s₁.heap H):=⟨hKb,nsK hns,⟨mb,nsK hb,hbb⟩,let⟨mc,h1,h2⟩:=hlim; ⟨mc,nsK h1,h2⟩⟩
  have e0:xD P w K mg (t_ s₁.heap H) oU [] s₁ H:=⟨rfl,hM,fun b o e=>DS e,lx (zv _ _),trivial,fun b hb=>absurd (show b∈([]:List Addr)from hb) (by simp),dR, .of_eq hg⟩
  refine lA ((F _ hKb (nsK hns)).run oU [] s₁ H ⟨[.ref a], []⟩ [.ref a] [.ref a] _ _ hr e0 (hbind s₁ (.ref a)) (.cons rfl .nil) (hsp H hO hS)) fun r s' h=> ?_
  cases r with
  | error e=>exact(hCX H e s' h).elim
  | ok fl=>
   cases fl with
   | next=>exact e_ h
   | brk=>exact e_ h
   | cont=>exact e_ h
   | ret u=>
    obtain⟨v,H',os,bare,un,hok',r',q⟩:=h
    have q':v= .bl true:=q
    subst q'
    obtain rfl:u=dJ true:=r'
    refine⟨rfl,OldK.of_keep fun b o e=> ?_,os,bare⟩
    cases q:H b with
    | none=>exact un.keep b o e q (by intro z; exact absurd (show b∈([]:List Addr)from z) (by simp)) (by simp)
    | some u=>
     rcases hO b with z | ⟨ob,xs,z⟩
     ·rw [q]at z; cases z
     ·have z2:=un.p9 b ob _ z
      obtain⟨e1,_⟩:=dR b _ z
      obtain⟨e2,_⟩:=hok' b _ z2
      rw [e]at e1; cases e1
      exact e2
 cases hk:K.lookup a with
 | some o=>
  have e:=KX a o hk
  rw [ha]at e
  cases e
  refine core (fun _=>none) (fun _=> .inl rfl) (.inr ⟨_,vs.toArray,_,hk,rfl,rfl,rfl,by rw [ax,lenV]; exact hl,by simpa using rv⟩) (fun b u z=>by have z':(none:Option HO)=some u:=z; cases z') (fun b z=>absurd rfl z) fun z=>absurd rfl z
 | none=>
  refine core (fun b=>if b=a then some (.frz {cls:= .type "list",data:= .seq vs.toArray} (.lst (ns.map V.int)))else none) (fun b=> ?_) (.inl (.inr ⟨{cls:= .type "list",data:= .seq vs.toArray},if_pos rfl⟩)) (fun b u z=> ?_) (fun b z=> ?_) fun _=>hk
  ·by_cases hb:b=a
   ·exact .inr ⟨_,_,if_pos hb⟩
   ·exact .inl (if_neg hb)
  ·by_cases hb:b=a
   ·have z':=(if_pos hb).symm.trans z
    cases z'
    subst hb
    exact⟨ha,by rw [ae]; exact hl,vs,_,rv,ha⟩
   ·have z':=(if_neg hb).symm.trans z
    cases z'
  ·by_cases hb:b=a
   ·exact hb
   ·exact absurd (if_neg hb) z
end L2
namespace L2
open PySem PySem.Spec PyProof.Rows
theorem EU{l:FO}{n k:Nat}{q:ar}{loose:List Str}{XP:(Str->Option Value)->Heap->Prop}{YP:World->Heap->Prop}{d:DefRec}{K:Params->aH}{CX:World->fJ}{sp:World->Sp}{x:Str}
  (hn:l.most=some n)(hn2:n<=sizeLine)(hdf:d.params.defaults= [])(hr:eL k oU)
  (hY: ∀(w:World) (h:Heap),YP w h->(K w.params).In h)
  (F: ∀(w:World) (mg:Str->Option Value) (fa:Addr) (h:Heap),(K w.params).In h->h.Ns b9 mg->mg d.name=some (.ref fa)->
   ∃fd:aV,(∀(s:ah) (u:Value),BindsTo s fd ⟨[u], []⟩ [(x,u)])/\
    ∀base:Heap,(K w.params).In base->base.Ns b9 mg->kC l.prog w (K w.params) mg base (CX w) k fa fd [x] (sp w))
  (hsp: ∀(w:World) (H:Hp) (a:Addr) (ns:List Int),ns.length<=n->GK H->kR (K w.params) H a (ns.map V.int)->sp w [.ref a] H (fun v _=>v= .bl true) fun _ _ _=>False)
  (hCX: ∀(w:World) (H:Hp) (s:ah) (e:Value) (s':ah),CX w [] H s (fun _ _ _=>False) e s'->False):
  PySem.W.WalkO q loose XP YP l.row.toRowW d [] (fun f vs=>PySem.call f vs):=by
 refine Att.vk hn hdf fun w s₀ s₁ mg mb fa o pm cd doc a vs ns G Y ho hd hcd hmg hobj hints hlen hg=> ?_
 have KX:=hY w _ Y
 obtain⟨fd,hb,hF⟩:=F w mg fa _ KX G.T.g hmg
 exact BW KX G.T.g G.T.b G.T.builtins G.T.nolimit hg hobj hints (bg hlen hn2) hr hF hb (fun H hO hS=>hsp w H a ns hlen hO hS) fun H e s'=>hCX w H s₁ e s'
end L2
namespace L2
open PySem PySem.Spec PyProof.Rows
def inClass(s:Stmt)(j:Nat):Stmt:=match s with
 | .ClassDef _ _ _ body _ _ _ _ _ _ _=>body.getD j (.Pass ⟨0,0,0,0⟩)
 | _=> .Pass ⟨0,0,0,0⟩
def ik(s:Stmt):Arguments:=match s with
 | .FunctionDef _ a _ _ _ _ _ _ _ _=>a
 | _=>{posonlyargs:= [],args:= [],vararg:=none,kwonlyargs:= [],kw_defaults:= [],kwarg:=none,defaults:= []}
def bx(s:Stmt):List Stmt:=match s with
 | .FunctionDef _ _ b _ _ _ _ _ _ _=>b
 | _=> []
def aJ(s:Stmt):Scope:=match s with
 | .FunctionDef _ _ _ _ _ _ sc _ _ _=>sc
 | _=>{kind:= .function,names:= [],isGenerator:=false,isCoroutine:=false}
abbrev E0:XK:=fun _ _ _=>False
structure iY(K:aH)(x qual:Str)(st:Stmt)(f:Addr)(fd:aV):Prop where
 ex: ∃(oc:Value) (od:Option Addr) (kV doc pm:Value) (an:Option Addr) (cdv ct:Value) (osl:Array (Option Value)),
  fd=dY x qual (ik st) (bx st) (aJ st) .none kV doc pm an cdv ct/\K.lookup f=some ⟨oc,od, .func fd,osl⟩/\mH K cdv qual=true
 kp:ft K (.ref f)=true
section
variable {P:ar}{w:World}{K:aH}{mg:Str->Option Value}{base:Heap}
theorem iY.binds{x qual:Str}{st:Stmt}{f:Addr}{fd:aV}{ps:List Str}(F:iY K x qual st f fd)
  (h: ∀(kV doc pm:Value) (an:Option Addr) (cdv ct:Value) (us:List Value),us.length=ps.length->uQ (dY x qual (ik st) (bx st) (aJ st) .none kV doc pm an cdv ct) ⟨us, []⟩=pure (ps.zip us)):Binds K fd ps []:=by
 obtain⟨oc,od,kV,doc,pm,an,cdv,ct,osl,rfl,lk,hcd⟩:=F.ex
 exact .all (h kV doc pm an cdv ct)
theorem Bl{x qual:Str}{st:Stmt}{f:Addr}{oc:Value}{od an:Option Addr}{osl:Array (Option Value)}{kV doc pm cdv ct:Value}(l:K.lookup f=some ⟨oc,od, .func (dY x qual (ik st) (bx st) (aJ st) .none kV doc pm an cdv ct),osl⟩)
  (c:mH K cdv qual=true)(k:ft K (.ref f)=true):iY K x qual st f (dY x qual (ik st) (bx st) (aJ st) .none kV doc pm an cdv ct):=⟨⟨oc,od,kV,doc,pm,an,cdv,ct,osl,rfl,l,c⟩,k⟩
end
theorem qf{A B:Prop}(h:B):if false=true then A else B:=by
 rw [if_neg az]
 exact h
theorem rO{A B:Prop}(h:A):if true=true then A else B:=by
 rw [if_pos rfl]
 exact h
def bI(H H':Hp):Prop:= ∀b o,H b=some o->H' b=some o
theorem bI.refl(H:Hp):bI H H:=fun _ _ h=>h
theorem bI.trans{H H1 H2:Hp}(a:bI H H1)(b:bI H1 H2):bI H H2:=fun c o h=>b c o (a c o h)
theorem bI.free{H H':Hp}(e:bI H H'){l:Addr}(h:H' l=Option.none):H l=Option.none:=by
 cases q:H l with
 | none=>rfl
 | some o=>
  rw [e l o q]at h
  cases h
theorem bI.seq{K:aH}{H H':Hp}{a:Addr}{xs:List V}(e:bI H H')(h:kR K H a xs):kR K H' a xs:=by
 rcases h with(h | ⟨o,h⟩) | h
 ·exact .inl (.inl (e _ _ h))
 ·exact .inl (.inr ⟨o,e _ _ h⟩)
 ·exact .inr h
end L2
namespace Z
open PySem PySem.Spec PyProof.Rows L2
inductive D where
 | non | bl (b:Bool) | int (i:Int) | str (x:Str)
 | tup (xs:List D) | lst (xs:List D)
 | ins (C:Addr) (ns:List Str) (vs:List D)
 | exc (C:Addr)
 | dct (oo:Option Obj) (ks:List D) (ns:List Int)
abbrev St:=L2.St
abbrev MP:=Addr->Prop
abbrev Frag:=aH
def Hi:MP:=fun _=>False
def Ef(K:Frag)(a:Addr)(xs:List V):Prop:=
 ∃(o:Obj) (bL:Array Value) (n:Nat),K.lookup a=some o/\o.cls= .type "list"/\o.dict=none/\o.data= .seq bL n/\bL.size<=sizeLine/\Vals xs bL.toList
def DB(K:Frag)(M:MP)(H:Hp)(a:Addr)(xs:List V):Prop:=(Rd H a (.lst xs)/\ ¬M a)\/Ef K a xs
def JO(a C:Addr):HO:= .ext fun h=> ∃o,h.get? a=some o/\o.cls= .ref C/\o.dict=none/\ ∃vs,o.data= .fields vs
mutual
def m_:D->Int
 | .int i=>hashInt i
 | .tup ds=>uT (eP (g7 ds))
 | _=>0
def g7:List D->List Int
 | []=> []
 | d::ds=>m_ d::g7 ds
end
def eK:List (Int×Addr×Int)->List cJ->Prop
 | [], []=>True
 | x::xs,e::es=>(∃t,e=⟨x.1, .ref x.2.1, .int x.2.2 t⟩)/\eK xs es
 | _,_=>False
def gg(a:Addr)(o:Obj)(xs:List (Int×Addr×Int)):HO:= .ext fun h=>(a==fU)=false/\ ∃es ep,h.get? a=some o/\o.ExactDict/\o.data= .dict es ep/\eK xs es.toList
def jF(ks:List D)(bs:List Addr)(ns:List Int):List (Int×Addr×Int):=(g7 ks).zip (bs.zip ns)
mutual
def Dn(K:Frag)(M:MP)(H:Hp):D->V->Prop
 | .non,v=>v= .non
 | .bl b,v=>v= .bl b
 | .int i,v=>v= .int i
 | .str x,v=>v= .str x
 | .tup ds,v=> ∃a xs,v= .ref a/\i4 K H a xs/\cw K M H ds xs
 | .lst ds,v=> ∃a xs,v= .ref a/\DB K M H a xs/\cw K M H ds xs
 | .ins C ns ds,v=> ∃a dx fs,v= .ref a/\H a=some (.ins C dx fs)/\fs.map (·.1)=ns/\cw K M H ds (fs.map (·.2))
 | .exc C,v=> ∃a,v= .ref a/\H a=some (JO a C)
 | .dct oo ks ns,v=> ∃a bs,v= .ref a/\(∃o,(∀o',oo=some o'->o'=o)/\H a=some (gg a o (jF ks bs ns)))/\bs.length=ks.length/\ns.length=ks.length/\cw K M H ks (bs.map V.ref)
def cw(K:Frag)(M:MP)(H:Hp):List D->List V->Prop
 | [],xs=>xs= []
 | d::ds,xs=> ∃v r,xs=v::r/\Dn K M H d v/\cw K M H ds r
end
def mT(M:MP)(H H':Hp):Prop:= ∀b o,H b=some o->(∀xs,o= .lst xs-> ¬M b)->H' b=some o
section
variable {K:Frag}{M M':MP}{H H':Hp}{a:Addr}{xs:List V}
theorem nB(s:bI H H'):mT M H H':=fun b o e _=>s b o e
theorem mT.tup(k:mT M H H')(h:i4 K H a xs):i4 K H' a xs:=by
 rcases h with(h | ⟨o,h⟩) | h
 ·exact .inl (.inl (k _ _ h (fun _ e=>nomatch e)))
 ·exact .inl (.inr ⟨o,k _ _ h (fun _ e=>nomatch e)⟩)
 ·exact .inr h
theorem mT.sqm(k:mT M H H')(h:DB K M H a xs):DB K M H' a xs:=by
 rcases h with⟨h | ⟨o,h⟩,m⟩ | h
 ·exact .inl ⟨.inl (k _ _ h fun _ _=>m),m⟩
 ·exact .inl ⟨.inr ⟨o,k _ _ h (fun _ e=>nomatch e)⟩,m⟩
 ·exact .inr h
theorem DB.l(h:DB K M H a xs):kR K H a xs:=by
 rcases h with⟨h,_⟩ | h
 ·exact .inl h
 ·exact .inr h
theorem DB.re(hm: ∀a,M' a->M a\/H a=none)(h:DB K M H a xs):DB K M' H a xs:=by
 rcases h with⟨h,m⟩ | h
 ·refine .inl ⟨h,fun m'=> ?_⟩
  rcases hm _ m' with z | z
  ·exact m z
  ·rcases h with h | ⟨o,h⟩ <;> (rw [z]at h; cases h)
 ·exact .inr h
mutual
theorem Dn.keep(k:mT M H H'): ∀{d:D} {v:V},Dn K M H d v->Dn K M H' d v
 | .non,_,x=>x
 | .bl _,_,x=>x
 | .int _,_,x=>x
 | .str _,_,x=>x
 | .tup ds,_,⟨a,xs,e,s,r⟩=>⟨a,xs,e,k.tup s,cw.keep k r⟩
 | .lst ds,_,⟨a,xs,e,s,r⟩=>⟨a,xs,e,k.sqm s,cw.keep k r⟩
 | .ins _ _ ds,_,⟨a,dx,fs,e,s,n,r⟩=>⟨a,dx,fs,e,k _ _ s (fun _ e=>nomatch e),n,cw.keep k r⟩
 | .exc _,_,⟨a,e,s⟩=>⟨a,e,k _ _ s (fun _ e=>nomatch e)⟩
 | .dct _ _ _,_,⟨a,bs,e,s,l1,l2,r⟩=>⟨a,bs,e,s.imp fun _ s=>⟨s.1,k _ _ s.2 (fun _ e=>nomatch e)⟩,l1,l2,cw.keep k r⟩
theorem cw.keep(k:mT M H H'): ∀{ds:List D} {vs:List V},cw K M H ds vs->cw K M H' ds vs
 | [],_,x=>x
 | _::_,_,⟨v,r,e,p,q⟩=>⟨v,r,e,Dn.keep k p,cw.keep k q⟩
end
mutual
theorem Dn.re(hm: ∀a,M' a->M a\/H a=none): ∀{d:D} {v:V},Dn K M H d v->Dn K M' H d v
 | .non,_,x=>x
 | .bl _,_,x=>x
 | .int _,_,x=>x
 | .str _,_,x=>x
 | .tup ds,_,⟨a,xs,e,s,r⟩=>⟨a,xs,e,s,cw.re hm r⟩
 | .lst ds,_,⟨a,xs,e,s,r⟩=>⟨a,xs,e,s.re hm,cw.re hm r⟩
 | .ins _ _ ds,_,⟨a,dx,fs,e,s,n,r⟩=>⟨a,dx,fs,e,s,n,cw.re hm r⟩
 | .exc _,_,⟨a,e,s⟩=>⟨a,e,s⟩
 | .dct _ _ _,_,⟨a,bs,e,s,l1,l2,r⟩=>⟨a,bs,e,s,l1,l2,cw.re hm r⟩
theorem cw.re(hm: ∀a,M' a->M a\/H a=none): ∀{ds:List D} {vs:List V},cw K M H ds vs->cw K M' H ds vs
 | [],_,x=>x
 | _::_,_,⟨v,r,e,p,q⟩=>⟨v,r,e,Dn.re hm p,cw.re hm q⟩
end
theorem Dn.same(s:bI H H'){d:D}{v:V}(h:Dn K M H d v):Dn K M H' d v:=h.keep (nB s)
theorem cw.same(s:bI H H'){d:List D}{v:List V}(h:cw K M H d v):cw K M H' d v:=h.keep (nB s)
theorem Dn.less(hm: ∀a,M' a->M a){d:D}{v:V}(h:Dn K M H d v):Dn K M' H d v:=h.re fun a z=> .inl (hm a z)
theorem cw.less(hm: ∀a,M' a->M a){d:List D}{v:List V}(h:cw K M H d v):cw K M' H d v:=h.re fun a z=> .inl (hm a z)
theorem Dn.noM{d:D}{v:V}(h:Dn K M H d v):Dn K Hi H d v:=h.less fun _ z=>z.elim
theorem cw.len: ∀{ds:List D} {vs:List V},cw K M H ds vs->vs.length=ds.length
 | [],_,x=>by rw [show _= []from x]; rfl
 | _::_,_,⟨v,r,e,p,q⟩=>by rw [e,aC,aC,cw.len q]
theorem cw.app: ∀{ds es:List D} {vs us:List V},cw K M H ds vs->cw K M H es us->cw K M H (ds ++ es) (vs ++ us)
 | [],_,_,_,x,y=>by rw [show _= []from x]; exact y
 | _::_,_,_,_,⟨v,r,e,p,q⟩,y=>by rw [e]; exact⟨v,_,rfl,p,cw.app q y⟩
theorem cw.one{d:D}{v:V}(h:Dn K M H d v):cw K M H [d] [v]:=⟨v, [],rfl,h,rfl⟩
theorem cw.get: ∀{ds:List D} {vs:List V},cw K M H ds vs-> ∀{i:Nat} {d:D},ds[i]? =some d-> ∃v,vs[i]? =some v/\Dn K M H d v
 | [],_,_,_,_,e=>by simp at e
 | _::_,_,⟨v,r,e,p,q⟩,0,d,h=>by simp at h; subst h; rw [e]; exact⟨v,rfl,p⟩
 | _::_,_,⟨v,r,e,p,q⟩,i+1,d,h=>by
  obtain⟨u,h1,h2⟩:=cw.get q (i:=i) (by simpa using h)
  rw [e]; exact⟨u,by simpa using h1,h2⟩
theorem cw.getV: ∀{ds:List D} {vs:List V},cw K M H ds vs-> ∀{i:Nat} {v:V},vs[i]? =some v-> ∃d,ds[i]? =some d/\Dn K M H d v
 | [],_,x,i,v,e=>by rw [show _= []from x]at e; simp at e
 | d::_,_,⟨u,r,e,p,q⟩,0,v,h=>by rw [e]at h; simp at h; subst h; exact⟨d,rfl,p⟩
 | _::_,_,⟨u,r,e,p,q⟩,i+1,v,h=>by
  rw [e]at h
  obtain⟨d,h1,h2⟩:=cw.getV q (i:=i) (by simpa using h)
  exact⟨d,by simpa using h1,h2⟩
theorem cw.take: ∀{ds:List D} {vs:List V} (n:Nat),cw K M H ds vs->cw K M H (ds.take n) (vs.take n)
 | _,_,0,_=>rfl
 | [],_,_+1,x=>by rw [show _= []from x]; rfl
 | _::_,_,n+1,⟨v,r,e,p,q⟩=>by rw [e]; exact⟨v,_,rfl,p,cw.take n q⟩
theorem cw.drop: ∀{ds:List D} {vs:List V} (n:Nat),cw K M H ds vs->cw K M H (ds.drop n) (vs.drop n)
 | _,_,0,x=>x
 | [],_,_+1,x=>by rw [show _= []from x]; rfl
 | _::_,_,n+1,⟨v,r,e,p,q⟩=>by rw [e]; exact cw.drop n q
theorem cw.set{d:D}{v:V}(h:Dn K M H d v): ∀{ds:List D} {vs:List V} (n:Nat),cw K M H ds vs->cw K M H (ds.set n d) (vs.set n v)
 | [],_,_,x=>by rw [show _= []from x]; rfl
 | _::_,_,0,⟨u,r,e,p,q⟩=>by rw [e]; exact⟨v,_,rfl,h,q⟩
 | _::_,_,n+1,⟨u,r,e,p,q⟩=>by rw [e]; exact⟨u,_,rfl,p,cw.set h n q⟩
theorem cw.erase: ∀{ds:List D} {vs:List V} (n:Nat),cw K M H ds vs->cw K M H (ds.eraseIdx n) (vs.eraseIdx n)
 | [],_,_,x=>by rw [show _= []from x]; rfl
 | _::_,_,0,⟨u,r,e,p,q⟩=>by rw [e]; exact q
 | _::_,_,n+1,⟨u,r,e,p,q⟩=>by rw [e]; exact⟨u,_,rfl,p,cw.erase n q⟩
theorem cw.ints: ∀{ns:List Int} {vs:List V},cw K M H (ns.map .int) vs->vs=ns.map V.int
 | [],_,x=>x
 | n::ns,_,⟨u,r,e,p,q⟩=>by rw [e,cw.ints q,show u=V.int n from p]; rfl
theorem cw.of_ints: ∀(ns:List Int),cw K M H (ns.map .int) (ns.map V.int)
 | []=>rfl
 | n::ns=>⟨_,_,rfl,rfl,cw.of_ints ns⟩
end
def nc(K:Frag)(M:MP)(H:Hp):D->V->Prop
 | .lst ds,v=> ∃a xs,v= .ref a/\kR K H a xs/\cw K M H ds xs
 | d,v=>Dn K M H d v
section
variable {K:Frag}{M M':MP}{H H':Hp}
theorem Dn.t{d:D}{v:V}(h:Dn K M H d v):nc K M H d v:=by
 cases d with
 | lst ds=>obtain⟨a,xs,e,s,r⟩:=h; exact⟨a,xs,e,s.l,r⟩
 | _=>exact h
theorem nc.same{d:D}{v:V}(s:bI H H')(h:nc K M H d v):nc K M H' d v:=by
 cases d with
 | lst ds=>obtain⟨a,xs,e,q,r⟩:=h; exact⟨a,xs,e,s.seq q,r.same s⟩
 | _=>exact Dn.same s h
end
inductive Sl where
 | un | im (d:D) | mu (ds:List D)
abbrev eG:=List Sl
def MM(M0:MP)(ρ:eG)(α:Nat->Addr):MP:=fun a=>M0 a\/ ∃(i:Nat) (ds:List D),ρ[i]? =some (.mu ds)/\α i=a
structure Rep(K:Frag)(M0:MP)(H0:Hp)(γ:List (D×V))(α:Nat->Addr)(ρ:eG)(σ:St)(H:Hp):Prop where
 same:bI H0 H
 old: ∀a,M0 a->H0 a≠none
 inj: ∀(i j:Nat) (ds es:List D),ρ[i]? =some (.mu ds)->ρ[j]? =some (.mu es)->α i=α j->i=j
 im: ∀(i:Nat) (d:D),ρ[i]? =some (.im d)-> ∃v,σ[i]? =some (some v)/\Dn K (MM M0 ρ α) H d v
 mu: ∀(i:Nat) (ds:List D),ρ[i]? =some (.mu ds)->H0 (α i)=none/\σ[i]? =some (some (.ref (α i)))/\ ∃xs,H (α i)=some (.lst xs)/\cw K (MM M0 ρ α) H ds xs
 gh: ∀p∈γ,Dn K (MM M0 ρ α) H p.1 p.2
 len:σ.length=ρ.length
section
variable {K:Frag}{M0:MP}{H0 H H' H1:Hp}{γ:List (D×V)}{α:Nat->Addr}{ρ:eG}{σ:St}
theorem get_set{α:Type}{l:List α}{i j:Nat}{x y:α}(h:(l.set i x)[j]? =some y):(j=i/\y=x)\/(j≠i/\l[j]? =some y):=by
 rw [dE]at h
 split at h
 ·rename_i e
  split at h
  ·exact .inl ⟨e.symm,(aK h).symm⟩
  ·cases h
 ·rename_i e
  exact .inr ⟨fun z=>e z.symm,h⟩
theorem lS{α:Type}{l:List α}{i:Nat}{x:α}(h:i < l.length):(l.set i x)[i]? =some x:=by
 rw [dE,if_pos rfl,if_pos h]
theorem dA{α:Type}{l:List α}{i j:Nat}{x:α}(h:j≠i):(l.set i x)[j]? =l[j]? :=by
 rw [dE,if_neg fun z=>h z.symm]
theorem jJ{i:Nat}{s:Sl}(hs: ∀ds,s≠ .mu ds){a:Addr}(h:MM M0 (ρ.set i s) α a):MM M0 ρ α a:=by
 rcases h with h | ⟨j,ds,e,z⟩
 ·exact .inl h
 ·rcases get_set e with⟨_,q⟩ | ⟨_,q⟩
  ·exact absurd q.symm (hs ds)
  ·exact .inr ⟨j,ds,q,z⟩
theorem Rep.next(r:Rep K M0 H0 γ α ρ σ H)(s:bI H H'):Rep K M0 H0 γ α ρ σ H':=
 ⟨r.same.trans s,r.old,r.inj,fun i d e=>let⟨v,h1,h2⟩:=r.im i d e; ⟨v,h1,h2.same s⟩,
  fun i ds e=>let⟨h1,h2,xs,h3,h4⟩:=r.mu i ds e; ⟨h1,h2,xs,s _ _ h3,h4.same s⟩,fun p hp=>(r.gh p hp).same s,r.len⟩
theorem Rep.ghost{d:D}{v:V}(r:Rep K M0 H0 γ α ρ σ H)(h:Dn K (MM M0 ρ α) H d v):Rep K M0 H0 ((d,v)::γ) α ρ σ H:=
 ⟨r.same,r.old,r.inj,r.im,r.mu,fun p hp=>(aN.mp hp).elim (fun z=>by rw [z]; exact h) fun z=>r.gh p z,r.len⟩
theorem Rep.unghost{p:D×V}(r:Rep K M0 H0 (p::γ) α ρ σ H):Rep K M0 H0 γ α ρ σ H:=
 ⟨r.same,r.old,r.inj,r.im,r.mu,fun q hq=>r.gh q (bX _ hq),r.len⟩
theorem Rep.set_im{i:Nat}{d:D}{v:V}(r:Rep K M0 H0 γ α ρ σ H)(hi:i < ρ.length)(h:Dn K (MM M0 ρ α) H d v):Rep K M0 H0 γ α (ρ.set i (.im d)) (σ.set i (some v)) H:=by
 have lm: ∀a,MM M0 (ρ.set i (.im d)) α a->MM M0 ρ α a:=fun a=>jJ (by intro _ e; cases e)
 refine⟨r.same,r.old,fun j k ds es e1 e2=> ?_,fun j e q=> ?_,fun j ds q=> ?_,fun p hp=>(r.gh p hp).less lm,by rw [bo,bo,r.len]⟩
 ·rcases get_set e1 with⟨_,z⟩ | ⟨_,z1⟩
  ·cases z
  ·rcases get_set e2 with⟨_,z⟩ | ⟨_,z2⟩
   ·cases z
   ·exact r.inj j k ds es z1 z2
 ·rcases get_set q with⟨rfl,z⟩ | ⟨n,z⟩
  ·cases z
   exact⟨v,lS (by rw [r.len]; exact hi),h.less lm⟩
  ·obtain⟨u,h1,h2⟩:=r.im j e z
   exact⟨u,by rw [dA n]; exact h1,h2.less lm⟩
 ·rcases get_set q with⟨rfl,z⟩ | ⟨n,z⟩
  ·cases z
  ·obtain⟨h1,h2,xs,h3,h4⟩:=r.mu j ds z
   exact⟨h1,by rw [dA n]; exact h2,xs,h3,h4.less lm⟩
theorem Rep.forget{i:Nat}(r:Rep K M0 H0 γ α ρ σ H){ov:Option V}:Rep K M0 H0 γ α (ρ.set i .un) (σ.set i ov) H:=by
 have lm: ∀a,MM M0 (ρ.set i .un) α a->MM M0 ρ α a:=fun a=>jJ (by intro _ e; cases e)
 refine⟨r.same,r.old,fun j k ds es e1 e2=> ?_,fun j e q=> ?_,fun j ds q=> ?_,fun p hp=>(r.gh p hp).less lm,by rw [bo,bo,r.len]⟩
 ·rcases get_set e1 with⟨_,z⟩ | ⟨_,z1⟩
  ·cases z
  ·rcases get_set e2 with⟨_,z⟩ | ⟨_,z2⟩
   ·cases z
   ·exact r.inj j k ds es z1 z2
 ·rcases get_set q with⟨rfl,z⟩ | ⟨n,z⟩
  ·cases z
  ·obtain⟨u,h1,h2⟩:=r.im j e z
   exact⟨u,by rw [dA n]; exact h1,h2.less lm⟩
 ·rcases get_set q with⟨rfl,z⟩ | ⟨n,z⟩
  ·cases z
  ·obtain⟨h1,h2,xs,h3,h4⟩:=r.mu j ds z
   exact⟨h1,by rw [dA n]; exact h2,xs,h3,h4.less lm⟩
theorem Rep.drop1{i:Nat}(r:Rep K M0 H0 γ α ρ σ H):Rep K M0 H0 γ α (ρ.set i .un) σ H:=by
 have h:=r.forget (i:=i) (ov:=(σ[i]?).join)
 have e:σ.set i (σ[i]?).join=σ:=by
  apply fM
  intro j
  rw [dE]
  split
  ·rename_i e
   subst e
   split
   ·rename_i h
    rw [ai h]
    rfl
   ·rename_i h
    rw [br (qW h)]
  ·rfl
 rwa [e]at h
def Cm(α:Nat->Addr)(i:Nat)(l:Addr):Nat->Addr:=fun j=>if j=i then l else α j
theorem lW{i:Nat}{l:Addr}:Cm α i l i=l:=if_pos rfl
theorem jj{i j:Nat}{l:Addr}(h:j≠i):Cm α i l j=α j:=if_neg h
theorem Rep.set_mu{i:Nat}{l:Addr}{xs:List V}{ds:List D}(r:Rep K M0 H0 γ α ρ σ H1)(hi:i < ρ.length)(hl:H1 l=none)(s:bI H1 H)(h:H l=some (.lst xs))
  (hd:cw K (fun a=>MM M0 ρ α a\/a=l) H ds xs):Rep K M0 H0 γ (Cm α i l) (ρ.set i (.mu ds)) (σ.set i (some (.ref l))) H:=by
 have lm: ∀a,MM M0 (ρ.set i (.mu ds)) (Cm α i l) a->MM M0 ρ α a\/a=l:=fun a z=>by
  rcases z with z | ⟨j,es,e,z⟩
  ·exact .inl (.inl z)
  ·rcases get_set e with⟨rfl,q⟩ | ⟨n,q⟩
   ·rw [lW]at z; exact .inr z.symm
   ·rw [jj n]at z; exact .inl (.inr ⟨j,es,q,z⟩)
 have lm': ∀a,MM M0 (ρ.set i (.mu ds)) (Cm α i l) a->MM M0 ρ α a\/H1 a=none:=fun a z=>by
  rcases lm a z with z | rfl
  ·exact .inl z
  ·exact .inr hl
 refine⟨r.same.trans s,r.old,fun j k es fs e1 e2 ej=> ?_,fun j e q=> ?_,fun j es q=> ?_,fun p hp=>((r.gh p hp).re lm').same s,by rw [bo,bo,r.len]⟩
 ·have nl: ∀(k:Nat) (es:List D),ρ[k]? =some (Sl.mu es)->α k≠l:=fun k es z e=>by
   obtain⟨_,_,ys,h3,_⟩:=r.mu k es z
   rw [e,hl]at h3; cases h3
  rcases get_set e1 with⟨rfl,z⟩ | ⟨n1,z1⟩
  ·rcases get_set e2 with⟨rfl,z⟩ | ⟨n2,z2⟩
   ·rfl
   ·rw [lW,jj n2]at ej; exact absurd ej.symm (nl k fs z2)
  ·rcases get_set e2 with⟨rfl,z⟩ | ⟨n2,z2⟩
   ·rw [lW,jj n1]at ej; exact absurd ej (nl j es z1)
   ·rw [jj n1,jj n2]at ej; exact r.inj j k es fs z1 z2 ej
 ·rcases get_set q with⟨rfl,z⟩ | ⟨n,z⟩
  ·cases z
  ·obtain⟨u,h1,h2⟩:=r.im j e z
   exact⟨u,by rw [dA n]; exact h1,(h2.re lm').same s⟩
 ·rcases get_set q with⟨rfl,z⟩ | ⟨n,z⟩
  ·cases z
   exact⟨by rw [lW]; exact r.same.free hl,by rw [lW]; exact lS (by rw [r.len]; exact hi),xs,by rw [lW]; exact h,hd.less lm⟩
  ·obtain⟨h1,h2,ys,h3,h4⟩:=r.mu j es z
   exact⟨by rw [jj n]; exact h1,by rw [dA n,jj n]; exact h2,ys,by rw [jj n]; exact s _ _ h3,(h4.re lm').same s⟩
theorem gi{l:Addr}{o:HO}(s:bI H0 H)(h:H0 l=none):bI H0 (upd H l o):=fun b u e=>by
 rw [bP (fm e h)]; exact s b u e
theorem bB{l:Addr}{o:HO}(h:H l=none):bI H (upd H l o):=gi (bI.refl H) h
theorem Rep.upd_mu{i:Nat}{ds es:List D}{ys:List V}(r:Rep K M0 H0 γ α ρ σ H)(hi:ρ[i]? =some (.mu ds))(hd:cw K (MM M0 ρ α) H es ys):Rep K M0 H0 γ α (ρ.set i (.mu es)) σ (upd H (α i) (.lst ys)):=by
 obtain⟨a1,a2,xs,a3,a4⟩:=r.mu i ds hi
 have hlt:i < ρ.length:=(aA.mp hi).1
 have me: ∀(j:Nat) (es':List D),(ρ.set i (Sl.mu es))[j]? =some (Sl.mu es')-> ∃fs,ρ[j]? =some (Sl.mu fs):=fun j es' e=>by
  rcases get_set e with⟨rfl,_⟩ | ⟨_,q⟩
  ·exact⟨ds,hi⟩
  ·exact⟨es',q⟩
 have lm: ∀a,MM M0 (ρ.set i (.mu es)) α a->MM M0 ρ α a:=fun a z=>by
  rcases z with z | ⟨j,es',e,z⟩
  ·exact .inl z
  ·obtain⟨fs,q⟩:=me j es' e
   exact .inr ⟨j,fs,q,z⟩
 have kp:mT (MM M0 ρ α) H (upd H (α i) (.lst ys)):=fun b o e n=>by
  by_cases hb:b=α i
  ·subst hb
   rw [a3]at e; cases e
   exact absurd (.inr ⟨i,ds,hi,rfl⟩) (n _ rfl)
  ·rw [bP hb]; exact e
 refine⟨gi r.same a1,r.old,fun j k f1 f2 e1 e2=> ?_,fun j e q=> ?_,fun j f q=> ?_,fun p hp=>((r.gh p hp).keep kp).less lm,by rw [bo,r.len]⟩
 ·obtain⟨g1,z1⟩:=me j f1 e1
  obtain⟨g2,z2⟩:=me k f2 e2
  exact r.inj j k g1 g2 z1 z2
 ·rcases get_set q with⟨rfl,z⟩ | ⟨n,z⟩
  ·cases z
  ·obtain⟨u,h1,h2⟩:=r.im j e z
   exact⟨u,h1,(h2.keep kp).less lm⟩
 ·rcases get_set q with⟨rfl,z⟩ | ⟨n,z⟩
  ·cases z
   exact⟨a1,a2,ys,bC,(hd.keep kp).less lm⟩
  ·obtain⟨h1,h2,zs,h3,h4⟩:=r.mu j f z
   refine⟨h1,h2,zs, ?_,(h4.keep kp).less lm⟩
   rw [bP fun e=>n (r.inj j i f ds z hi e)]; exact h3
theorem Rep.freeze{i:Nat}{ds:List D}(r:Rep K M0 H0 γ α ρ σ H)(hi:ρ[i]? =some (.mu ds)):Rep K M0 H0 γ α (ρ.set i (.im (.lst ds))) σ H:=by
 obtain⟨a1,a2,xs,a3,a4⟩:=r.mu i ds hi
 have lm: ∀a,MM M0 (ρ.set i (.im (.lst ds))) α a->MM M0 ρ α a:=fun a=>jJ (by intro _ e; cases e)
 refine⟨r.same,r.old,fun j k d1 d2 e1 e2=> ?_,fun j e q=> ?_,fun j es q=> ?_,fun p hp=>(r.gh p hp).less lm,by rw [bo,r.len]⟩
 ·rcases get_set e1 with⟨_,z⟩ | ⟨_,z1⟩
  ·cases z
  ·rcases get_set e2 with⟨_,z⟩ | ⟨_,z2⟩
   ·cases z
   ·exact r.inj j k d1 d2 z1 z2
 ·rcases get_set q with⟨rfl,z⟩ | ⟨n,z⟩
  ·cases z
   refine⟨_,a2,α j,xs,rfl, .inl ⟨.inl a3,fun m=> ?_⟩,a4.less lm⟩
   rcases m with m | ⟨k,es,e,m⟩
   ·exact r.old _ m a1
   ·rcases get_set e with⟨_,z⟩ | ⟨n,z⟩
    ·cases z
    ·exact n (r.inj k j es ds z hi m)
  ·obtain⟨u,h1,h2⟩:=r.im j e z
   exact⟨u,h1,h2.less lm⟩
 ·rcases get_set q with⟨rfl,z⟩ | ⟨n,z⟩
  ·cases z
  ·obtain⟨h1,h2,ys,h3,h4⟩:=r.mu j es z
   exact⟨h1,h2,ys,h3,h4.less lm⟩
end
section
variable {X:Cx}{e:Expr}{es:List Expr}{st:Stmt}{sts:List Stmt}{σ:St}{H:Hp}
def tE(X:Cx)(e:Expr):TE:=fun σ H Q=> ∀(pins:List (Addr×Obj)) (s:ah),Inv X pins σ H s->wpAny (model X.prog X.w) X.A (eval e X.env) (EP X pins σ Q) X.xe s
def tT(X:Cx)(e:Expr):TT:=fun σ H Q=> ∀(pins:List (Addr×Obj)) (s:ah),Inv X pins σ H s->wpAny (model X.prog X.w) X.A (isTrue e X.env (eval e X.env)) (TP X pins σ Q) X.xe s
def tW(X:Cx)(e:Expr):TT:=fun σ H Q=> ∀(whole:Sem Value) (pins:List (Addr×Obj)) (s:ah),Inv X pins σ H s->wpAny (model X.prog X.w) X.A (isTrue e X.env whole) (TP X pins σ Q) X.xe s
def tA(X:Cx)(es:List Expr):TA:=fun σ H Q=> ∀(pos:Pos) (pins:List (Addr×Obj)) (s:ah),Inv X pins σ H s->wpAny (model X.prog X.w) X.A (spliced (c9 pos (aq es X.env))) (AP X pins σ Q) X.xe s
def tS(X:Cx)(st:Stmt):TS:=fun D σ H=> ∀(pins:List (Addr×Obj)) (s:ah),Inv X pins σ H s->wpAny (model X.prog X.w) X.A (exec st X.env) (SP X pins D) X.xe s
def kB(X:Cx)(st:List Stmt):TS:=fun D σ H=> ∀(pins:List (Addr×Obj)) (s:ah),Inv X pins σ H s->wpAny (model X.prog X.w) X.A (execs st X.env) (SP X pins D) X.xe s
theorem f7:PE X e (tE X e):=fun pins s σ H Q I h=>h pins s I
theorem BS:PT X e (tT X e):=fun pins s σ H Q I h=>h pins s I
theorem Jl:PW X e (tW X e):=fun w pins s σ H Q I h=>h w pins s I
theorem ud:PA X es (tA X es):=fun p pins s σ H Q I h=>h p pins s I
theorem oE:PS X st (tS X st):=fun pins s σ H Q I h=>h pins s I
theorem fg:xY X sts (kB X sts):=fun pins s σ H Q I h=>h pins s I
theorem _root_.L2.PE.to{t:TE}{Q:VK}(h:PE X e t)(q:t σ H Q):tE X e σ H Q:=fun pins s I=>h pins s σ H Q I q
theorem _root_.L2.PT.to{t:TT}{Q:Bool->Hp->Prop}(h:PT X e t)(q:t σ H Q):tT X e σ H Q:=fun pins s I=>h pins s σ H Q I q
theorem _root_.L2.PW.to{t:TT}{Q:Bool->Hp->Prop}(h:PW X e t)(q:t σ H Q):tW X e σ H Q:=fun w pins s I=>h w pins s σ H Q I q
theorem _root_.L2.PA.to{t:TA}{Q:List V->Hp->Prop}(h:PA X es t)(q:t σ H Q):tA X es σ H Q:=fun p pins s I=>h p pins s σ H Q I q
theorem _root_.L2.PS.to{t:TS}{D:Ends}(h:PS X st t)(q:t D σ H):tS X st D σ H:=fun pins s I=>h pins s σ H D I q
theorem _root_.L2.xY.to{t:TS}{D:Ends}(h:xY X sts t)(q:t D σ H):kB X sts D σ H:=fun pins s I=>h pins s σ H D I q
end
def av(X:Cx)(ρ:eG)(e:Expr)(d:D):Prop:= ∀(M0:MP) (H0:Hp) (γ:List (D×V)) (α:Nat->Addr) (σ:St) (H:Hp) (Q:VK),Rep X.K M0 H0 γ α ρ σ H->
 (∀v H',bI H H'->Dn X.K (MM M0 ρ α) H' d v->Q v H')->tE X e σ H Q
def ky(X:Cx)(ρ:eG)(e:Expr)(d:D):Prop:= ∀(M0:MP) (H0:Hp) (γ:List (D×V)) (α:Nat->Addr) (σ:St) (H:Hp) (Q:VK),Rep X.K M0 H0 γ α ρ σ H->
 (∀v H',bI H H'->nc X.K (MM M0 ρ α) H' d v->Q v H')->tE X e σ H Q
def ff(X:Cx)(ρ:eG)(e:Expr)(ds:List D):Prop:= ∀(M0:MP) (H0:Hp) (γ:List (D×V)) (α:Nat->Addr) (σ:St) (H:Hp) (Q:VK),Rep X.K M0 H0 γ α ρ σ H->
 (∀l xs H1 H',bI H H1->H1 l=none->bI H1 H'->H' l=some (.lst xs)->cw X.K (fun a=>MM M0 ρ α a\/a=l) H' ds xs->Q (.ref l) H')->tE X e σ H Q
def cB(X:Cx)(ρ:eG)(e:Expr)(b:Bool):Prop:= ∀(M0:MP) (H0:Hp) (γ:List (D×V)) (α:Nat->Addr) (σ:St) (H:Hp) (Q:Bool->Hp->Prop),Rep X.K M0 H0 γ α ρ σ H->
 (∀H',bI H H'->Q b H')->tT X e σ H Q
def fk(X:Cx)(ρ:eG)(e:Expr)(b:Bool):Prop:= ∀(M0:MP) (H0:Hp) (γ:List (D×V)) (α:Nat->Addr) (σ:St) (H:Hp) (Q:Bool->Hp->Prop),Rep X.K M0 H0 γ α ρ σ H->
 (∀H',bI H H'->Q b H')->tW X e σ H Q
def bz(X:Cx)(ρ:eG)(es:List Expr)(ds:List D):Prop:= ∀(M0:MP) (H0:Hp) (γ:List (D×V)) (α:Nat->Addr) (σ:St) (H:Hp) (Q:List V->Hp->Prop),Rep X.K M0 H0 γ α ρ σ H->
 (∀vs H',bI H H'->cw X.K (MM M0 ρ α) H' ds vs->Q vs H')->tA X es σ H Q
def vO(K:Frag)(M:MP)(H:Hp):List D->List V->Prop
 | [],xs=>xs= []
 | d::ds,xs=> ∃v r,xs=v::r/\nc K M H d v/\vO K M H ds r
def q_(X:Cx)(ρ:eG)(es:List Expr)(ds:List D):Prop:= ∀(M0:MP) (H0:Hp) (γ:List (D×V)) (α:Nat->Addr) (σ:St) (H:Hp) (Q:List V->Hp->Prop),Rep X.K M0 H0 γ α ρ σ H->
 (∀vs H',bI H H'->vO X.K (MM M0 ρ α) H' ds vs->Q vs H')->tA X es σ H Q
section
variable {X:Cx}{ρ:eG}{e a b:Expr}{es:List Expr}{d:D}{ds:List D}{pos p:Pos}
theorem av.r(h:av X ρ e d):ky X ρ e d:=fun M0 H0 γ α σ H Q R k=>h M0 H0 γ α σ H Q R fun v H' s x=>k v H' s x.t
theorem ff.toD(h:ff X ρ e ds):av X ρ e (.lst ds):=fun M0 H0 γ α σ H Q R k=>h M0 H0 γ α σ H Q R fun l xs H1 H' s n s' x y=>
 k _ H' (s.trans s') ⟨l,xs,rfl, .inl ⟨.inl x,fun m=>by
  rcases m with m | ⟨i,es,e,m⟩
  ·exact R.old _ m (R.same.free (s.free n))
  ·obtain⟨_,_,ys,h3,_⟩:=R.mu i es e
   rw [m]at h3
   have:=s _ _ h3
   rw [n]at this; cases this⟩,y.less fun a m=> .inl m⟩
theorem av.to{d':D}(h:av X ρ e d)(q:d=d'):av X ρ e d':=q▸h
theorem cB.to{c c':Bool}(h:cB X ρ e c)(q:c=c'):cB X ρ e c':=q▸h
theorem av.int{i:Int}{j}:av X ρ (.Constant (.int i) j pos) (.int i):=fun _ _ _ _ _ H _ _ k=>Gj.to (k _ H (bI.refl _) rfl)
theorem av.bl{i:Bool}{j}:av X ρ (.Constant (.bool i) j pos) (.bl i):=fun _ _ _ _ _ H _ _ k=>Ia.to (k _ H (bI.refl _) rfl)
theorem av.non{j}:av X ρ (.Constant .none j pos) .non:=fun _ _ _ _ _ H _ _ k=>Gx.to (k _ H (bI.refl _) rfl)
theorem av.str{x:Str}{j}:av X ρ (.Constant (.str x) j pos) (.str x):=fun _ _ _ _ _ H _ _ k=>GI.to (k _ H (bI.refl _) rfl)
theorem av.name{x:Str}(i:Nat)(hN:X.N[i]? =some x)(hv:tN X.env.scope x)(hρ:ρ[i]? =some (.im d))(hd:(x==("__debug__":Str))=false:=by decide)(hcd:(x==("__classdict__":Str))=false:=by decide):av X ρ (.Name x pos) d:=
 fun _ _ _ _ _ H _ R k=>(iZ hN hv hd hcd).to (let⟨v,h1,h2⟩:=R.im i d hρ; ⟨v,h1,k v H (bI.refl _) h2⟩)
theorem ky.name{x:Str}(i:Nat)(hN:X.N[i]? =some x)(hv:tN X.env.scope x)(hρ:ρ[i]? =some (.mu ds))(hd:(x==("__debug__":Str))=false:=by decide)(hcd:(x==("__classdict__":Str))=false:=by decide):ky X ρ (.Name x pos) (.lst ds):=
 fun _ _ _ α _ H _ R k=>(iZ hN hv hd hcd).to (let⟨_,h1,xs,h3,h4⟩:=R.mu i ds hρ; ⟨_,h1,k _ H (bI.refl _) ⟨α i,xs,rfl,kR.of h3,h4⟩⟩)
theorem av.glob{x:Str}{v:V}{u:Value}(hg:Gl X x)(hm:X.mg x=some u)(r:RelV v u)(hn: ∀M H,Dn X.K M H d v)(hd:(x==("__debug__":Str))=false:=by decide):av X ρ (.Name x pos) d:=
 fun _ _ _ _ _ H _ _ k=>(Em hg hm r hd).to (k _ H (bI.refl _) (hn _ _))
theorem bz.nil:bz X ρ [] []:=fun _ _ _ _ _ H _ _ k=>gP.to (k _ H (bI.refl _) rfl)
theorem bz.cons(h:av X ρ e d)(t:bz X ρ es ds)(hs:aq (e::es) X.env=(false,eval e X.env)::aq es X.env:=by rfl):bz X ρ (e::es) (d::ds):=
 fun M0 H0 γ α σ H Q R k=>(eJ f7 ud hs).to (h M0 H0 γ α σ H _ R fun v H1 s1 d1=>t M0 H0 γ α σ H1 _ (R.next s1) fun vs H2 s2 d2=>k _ H2 (s1.trans s2) ⟨v,vs,rfl,d1.same s2,d2⟩)
theorem q_.nil:q_ X ρ [] []:=fun _ _ _ _ _ H _ _ k=>gP.to (k _ H (bI.refl _) rfl)
theorem q_.cons(h:ky X ρ e d)(t:q_ X ρ es ds)(hs:aq (e::es) X.env=(false,eval e X.env)::aq es X.env:=by rfl):q_ X ρ (e::es) (d::ds):=
 fun M0 H0 γ α σ H Q R k=>(eJ f7 ud hs).to (h M0 H0 γ α σ H _ R fun v H1 s1 d1=>t M0 H0 γ α σ H1 _ (R.next s1) fun vs H2 s2 d2=>k _ H2 (s1.trans s2) ⟨v,vs,rfl,d1.same s2,d2⟩)
theorem ji{n:Nat}(h:n<=1000000):n<=sizeLine:=bg h (by decide)
theorem av.tup{x1}(h:bz X ρ es ds)(hl:ds.length<=1000000:=by exact zh rfl):av X ρ (.Tuple es x1 pos) (.tup ds):=
 fun M0 H0 γ α σ H Q R k=>(Bi ud).to (h M0 H0 γ α σ H _ R fun vs H1 s1 d1=>⟨by rw [d1.len]; exact ji hl,fun q hq=>
  k _ _ (s1.trans (bB hq)) ⟨q,vs,rfl,i4.of bC,d1.same (bB hq)⟩⟩)
theorem mY{K:Frag}{M:MP}{H:Hp}{l:Addr}{ds:List D}{vs:List V}(hl:H l=none)(h:cw K M H ds vs):cw K (fun a=>M a\/a=l) H ds vs:=
 h.re fun a m=>m.elim .inl fun z=> .inr (by rw [z]; exact hl)
theorem ff.lst(h:bz X ρ es ds)(hl:ds.length<=1000000:=by exact zh rfl):ff X ρ (.List es pos) ds:=
 fun M0 H0 γ α σ H Q R k=>(Ga ud).to (h M0 H0 γ α σ H _ R fun vs H1 s1 d1=>⟨by rw [d1.len]; exact ji hl,fun q hq=>
  k q vs H1 _ s1 hq (bB hq) bC ((mY hq d1).same (bB hq))⟩)
theorem av.op2{op:Operator}{r:R2}{da db:D}(ho:l7 X (iQ op) r)(ha:ky X ρ a da)(hb:ky X ρ b db)
  (hr: ∀(M:MP) (H:Hp) (x y:V) (Q:VK),nc X.K M H da x->nc X.K M H db y->(∀v H',bI H H'->Dn X.K M H' d v->Q v H')->r x y H Q):av X ρ (.BinOp a op b pos) d:=
 fun M0 H0 γ α σ H Q R k=>(C9 ho f7 f7).to (ha M0 H0 γ α σ H _ R fun v H1 s1 d1=>hb M0 H0 γ α σ H1 _ (R.next s1) fun u H2 s2 d2=>hr _ H2 v u Q (d1.same s2) d2 fun w' H3 s3 d3=>k w' H3 ((s1.trans s2).trans s3) d3)
theorem av.add{i j:Int}(ha:av X ρ a (.int i))(hb:av X ρ b (.int j)):av X ρ (.BinOp a .Add b pos) (.int (i+j)):=
 av.op2 Gi ha.r hb.r fun M H x y Q dx dy k=>⟨i,j,dx,dy,k _ H (bI.refl _) rfl⟩
theorem av.sub{i j:Int}(ha:av X ρ a (.int i))(hb:av X ρ b (.int j)):av X ρ (.BinOp a .Sub b pos) (.int (i - j)):=
 av.op2 Ha ha.r hb.r fun M H x y Q dx dy k=>⟨i,j,dx,dy,k _ H (bI.refl _) rfl⟩
theorem av.mul{i j:Int}(ha:av X ρ a (.int i))(hb:av X ρ b (.int j))(hc:Eg i j):av X ρ (.BinOp a .Mult b pos) (.int (i * j)):=
 av.op2 Gr ha.r hb.r fun M H x y Q dx dy k=>⟨i,j,dx,dy,hc,k _ H (bI.refl _) rfl⟩
theorem av.mod{i j:Int}(ha:av X ρ a (.int i))(hb:av X ρ b (.int j))(hc:0 < j):av X ρ (.BinOp a .Mod b pos) (.int (i % j)):=
 av.op2 Gy ha.r hb.r fun M H x y Q dx dy k=>⟨i,j,dx,dy,hc,k _ H (bI.refl _) rfl⟩
theorem av.fdiv{i j:Int}(ha:av X ρ a (.int i))(hb:av X ρ b (.int j))(hc:HR i j):av X ρ (.BinOp a .FloorDiv b pos) (.int (i / j)):=
 av.op2 Eh ha.r hb.r fun M H x y Q dx dy k=>⟨i,j,dx,dy,hc,k _ H (bI.refl _) rfl⟩
theorem av.cmp{op:CmpOp}{r:R2}{da db:D}{c:Bool}(ho:l7 X (cj op) r)(ha:ky X ρ a da)(hb:ky X ρ b db)(hm:d_ op b=false)
  (hr: ∀(M:MP) (H:Hp) (x y:V) (Q:VK),nc X.K M H da x->nc X.K M H db y->Q (.bl c) H->r x y H Q):av X ρ (.Compare a [op] [b] pos) (.bl c):=
 fun M0 H0 γ α σ H Q R k=>(DZ ho f7 f7 hm).to (ha M0 H0 γ α σ H _ R fun v H1 s1 d1=>hb M0 H0 γ α σ H1 _ (R.next s1) fun u H2 s2 d2=>hr _ H2 v u Q (d1.same s2) d2 (k _ H2 (s1.trans s2) rfl))
theorem cB.cmp{op:CmpOp}{r:R2}{da db:D}{c:Bool}(ho:l7 X (cj op) r)(ha:ky X ρ a da)(hb:ky X ρ b db)(hm:d_ op b=false)
  (hr: ∀(M:MP) (H:Hp) (x y:V) (Q:VK),nc X.K M H da x->nc X.K M H db y->Q (.bl c) H->r x y H Q):cB X ρ (.Compare a [op] [b] pos) c:=
 fun M0 H0 γ α σ H Q R k=>(tq ho f7 f7 hm).to (ha M0 H0 γ α σ H _ R fun v H1 s1 d1=>hb M0 H0 γ α σ H1 _ (R.next s1) fun u H2 s2 d2=>hr _ H2 v u _ (d1.same s2) d2 ⟨c,rfl,k H2 (s1.trans s2)⟩)
inductive CI:CmpOp->(Int->Int->Bool)->Prop where
 | lt:CI .Lt fun i j=>decide (i < j)
 | le:CI .LtE fun i j=>decide (i<=j)
 | gt:CI .Gt fun i j=>decide (j < i)
 | ge:CI .GtE fun i j=>decide (j<=i)
 | eq:CI .Eq fun i j=>decide (i=j)
 | ne:CI .NotEq fun i j=> !decide (i=j)
theorem wg{i j:Int}:decide (V.int i=V.int j)=decide (i=j):=by
 by_cases h:i=j
 ·subst h; simp
 ·rw [decide_eq_false h,decide_eq_false fun q=>h (by injection q)]
theorem CI.op{op:CmpOp}{g:Int->Int->Bool}(h:CI op g):l7 X (cj op) (Ea fun i j=> .bl (g i j)):=by
 cases h with
 | lt=>exact HF
 | le=>exact HQ
 | gt=>exact Ii
 | ge=>exact H_
 | eq=>
  intro pins s σ H x y v u Q I rx ry ⟨i,j,ex,ey,q⟩
  subst ex; subst ey
  exact Ic pins s σ H _ _ v u Q I rx ry ⟨rfl,by rw [wg]; exact q⟩
 | ne=>
  intro pins s σ H x y v u Q I rx ry ⟨i,j,ex,ey,q⟩
  subst ex; subst ey
  exact Ie pins s σ H _ _ v u Q I rx ry ⟨rfl,by rw [wg]; exact q⟩
theorem CI.mark{op:CmpOp}{g:Int->Int->Bool}(h:CI op g)(b:Expr):d_ op b=false:=by cases h <;> exact xT b
theorem av.cI{op:CmpOp}{g:Int->Int->Bool}{i j:Int}(hc:CI op g)(ha:av X ρ a (.int i))(hb:av X ρ b (.int j)):av X ρ (.Compare a [op] [b] pos) (.bl (g i j)):=
 av.cmp hc.op ha.r hb.r (hc.mark b) fun M H x y Q dx dy k=>⟨i,j,dx,dy,k⟩
theorem cB.cI{op:CmpOp}{g:Int->Int->Bool}{i j:Int}(hc:CI op g)(ha:av X ρ a (.int i))(hb:av X ρ b (.int j)):cB X ρ (.Compare a [op] [b] pos) (g i j):=
 cB.cmp hc.op ha.r hb.r (hc.mark b) fun M H x y Q dx dy k=>⟨i,j,dx,dy,k⟩
theorem av.chain{op op':CmpOp}{g g':Int->Int->Bool}{c:Expr}{i j k:Int}(h1:CI op g)(h2:CI op' g')(ha:av X ρ a (.int i))(hb:av X ρ b (.int j))(hc:av X ρ c (.int k))
  (hm:lastMarks [op,op'] [b,c]=false:=by with_unfolding_all rfl):av X ρ (.Compare a [op,op'] [b,c] pos) (.bl (g i j&&g' j k)):=
 fun M0 H0 γ α σ H Q R kk=>(CM h1.op h2.op f7 f7 f7 hm).to (ha M0 H0 γ α σ H _ R fun v H1 s1 d1=>hb M0 H0 γ α σ H1 _ (R.next s1) fun u H2 s2 d2=>⟨i,j,d1,d2,g i j,rfl,by
  cases e:g i j with
  | true=>exact rO (hc M0 H0 γ α σ H2 _ ((R.next s1).next s2) fun z H3 s3 d3=>⟨j,k,d2,d3,by have:=kk (.bl (g' j k)) H3 ((s1.trans s2).trans s3); rw [e]at this; exact this rfl⟩)
  | false=>exact qf (by have:=kk (.bl false) H2 (s1.trans s2); rw [e]at this; exact this rfl)⟩)
theorem cB.chain{op op':CmpOp}{g g':Int->Int->Bool}{c:Expr}{i j k:Int}(h1:CI op g)(h2:CI op' g')(ha:av X ρ a (.int i))(hb:av X ρ b (.int j))(hc:av X ρ c (.int k))
  (hm:lastMarks [op,op'] [b,c]=false:=by with_unfolding_all rfl):cB X ρ (.Compare a [op,op'] [b,c] pos) (g i j&&g' j k):=
 fun M0 H0 γ α σ H Q R kk=>(BN h1.op h2.op f7 f7 f7 hm).to (ha M0 H0 γ α σ H _ R fun v H1 s1 d1=>hb M0 H0 γ α σ H1 _ (R.next s1) fun u H2 s2 d2=>⟨i,j,d1,d2,g i j,rfl,by
  cases e:g i j with
  | true=>exact rO (hc M0 H0 γ α σ H2 _ ((R.next s1).next s2) fun z H3 s3 d3=>⟨j,k,d2,d3,_,rfl,by have:=kk H3 ((s1.trans s2).trans s3); rw [e]at this; exact this⟩)
  | false=>exact qf ⟨_,rfl,by have:=kk H2 (s1.trans s2); rw [e]at this; exact this⟩⟩)
theorem cB.val{c:Bool}(h:av X ρ e (.bl c))(he: ∀whole,isTrue e X.env whole=(do let v<-whole; standAt e.pos; jc [v] (truthy v)):=by intro _; rfl):cB X ρ e c:=
 fun M0 H0 γ α σ H Q R k=>(Gs f7 he).to (h M0 H0 γ α σ H _ R fun v H1 s1 d1=>⟨c,d1,k H1 s1⟩)
theorem fk.t{c:Bool}(h:fk X ρ e c):cB X ρ e c:=fun M0 H0 γ α σ H Q R k=>Jl.pt.to (h M0 H0 γ α σ H Q R k)
theorem cB.not{c:Bool}(h:cB X ρ a c):cB X ρ (.UnaryOp .Not a pos) (!c):=
 fun M0 H0 γ α σ H Q R k=>(Hd BS).to (h M0 H0 γ α σ H _ R fun H1 s1=>k H1 s1)
theorem av.not{c:Bool}(h:av X ρ a (.bl c)):av X ρ (.UnaryOp .Not a pos) (.bl (!c)):=
 fun M0 H0 γ α σ H Q R k=>(Gg f7).to (h M0 H0 γ α σ H _ R fun v H1 s1 d1=>⟨c,d1,k _ H1 s1 rfl⟩)
theorem fk.and1{c:Bool}(h:cB X ρ a c):fk X ρ (.BoolOp .And [a] pos) c:=fun M0 H0 γ α σ H Q R k=>(pw_and1 BS).to (h M0 H0 γ α σ H Q R k)
theorem fk.or1{c:Bool}(h:cB X ρ a c):fk X ρ (.BoolOp .Or [a] pos) c:=fun M0 H0 γ α σ H Q R k=>(pw_or1 BS).to (h M0 H0 γ α σ H Q R k)
theorem fk.and{c c':Bool}(h:cB X ρ a c)(h':c=true->fk X ρ (.BoolOp .And (b::es) pos) c'):fk X ρ (.BoolOp .And (a::b::es) pos) (c&&c'):=
 fun M0 H0 γ α σ H Q R k=>(pw_and BS Jl).to (h M0 H0 γ α σ H _ R fun H1 s1=>by
  cases e:c with
  | true=>rw [e]at k; exact rO (h' e M0 H0 γ α σ H1 _ (R.next s1) fun H2 s2=>k H2 (s1.trans s2))
  | false=>rw [e]at k; exact qf (k H1 s1))
theorem fk.or{c c':Bool}(h:cB X ρ a c)(h':c=false->fk X ρ (.BoolOp .Or (b::es) pos) c'):fk X ρ (.BoolOp .Or (a::b::es) pos) (c || c'):=
 fun M0 H0 γ α σ H Q R k=>(pw_or BS Jl).to (h M0 H0 γ α σ H _ R fun H1 s1=>by
  cases e:c with
  | false=>rw [e]at k; exact qf (h' e M0 H0 γ α σ H1 _ (R.next s1) fun H2 s2=>k H2 (s1.trans s2))
  | true=>rw [e]at k; exact rO (k H1 s1))
theorem av.one{op}(h:av X ρ a d):av X ρ (.BoolOp op [a] pos) d:=fun M0 H0 γ α σ H Q R k=>(Gw f7).to (h M0 H0 γ α σ H Q R k)
theorem av.and{c c':Bool}(h:av X ρ a (.bl c))(h':c=true->av X ρ (.BoolOp .And (b::es) pos) (.bl c')):av X ρ (.BoolOp .And (a::b::es) pos) (.bl (c&&c')):=
 fun M0 H0 γ α σ H Q R k=>(FX f7 f7).to (h M0 H0 γ α σ H _ R fun v H1 s1 d1=>⟨c,d1,by
  cases e:c with
  | true=>rw [e]at k; exact rO (h' e M0 H0 γ α σ H1 _ (R.next s1) fun u H2 s2 d2=>k u H2 (s1.trans s2) d2)
  | false=>rw [e]at k; exact qf (k _ H1 s1 rfl)⟩)
end
structure nZ where
 N:eG->Prop
 R:D->Prop
 B:eG->Prop:=fun _=>False
 C:eG->Prop:=fun _=>False
def ends(K:Frag)(M0:MP)(H0:Hp)(γ:List (D×V))(P:nZ):Ends where
 nx:=fun σ H=> ∃α ρ,Rep K M0 H0 γ α ρ σ H/\P.N ρ
 rt:=fun v H=> ∃d,P.R d/\bI H0 H/\Dn K M0 H d v
 bk:=fun σ H=> ∃α ρ,Rep K M0 H0 γ α ρ σ H/\P.B ρ
 ct:=fun σ H=> ∃α ρ,Rep K M0 H0 γ α ρ σ H/\P.C ρ
def W1(X:Cx)(M0:MP)(H0:Hp)(st:Stmt)(ρ:eG)(P:nZ):Prop:= ∀(γ:List (D×V)) (α:Nat->Addr) (σ:St) (H:Hp),Rep X.K M0 H0 γ α ρ σ H->tS X st (ends X.K M0 H0 γ P) σ H
def WS(X:Cx)(M0:MP)(H0:Hp)(st:List Stmt)(ρ:eG)(P:nZ):Prop:= ∀(γ:List (D×V)) (α:Nat->Addr) (σ:St) (H:Hp),Rep X.K M0 H0 γ α ρ σ H->kB X st (ends X.K M0 H0 γ P) σ H
section
variable {X:Cx}{M0:MP}{H0:Hp}{st:Stmt}{sts:List Stmt}{ρ:eG}{P P':nZ}{e a b c:Expr}{d:D}{ds:List D}{pos pos':Pos}{En En':Ends}{σ:St}{H:Hp}
theorem SP.mono{pins:List (Addr×Obj)}{f:Flow}{s:ah}(h1: ∀σ H,En.nx σ H->En'.nx σ H)(h2: ∀v H,En.rt v H->En'.rt v H)(h3: ∀σ H,En.bk σ H->En'.bk σ H)(h4: ∀σ H,En.ct σ H->En'.ct σ H)(h:SP X pins En f s):SP X pins En' f s:=by
 cases f with
 | next=>obtain⟨σ,H,I,q⟩:=h; exact⟨σ,H,I,h1 _ _ q⟩
 | brk=>obtain⟨σ,H,I,q⟩:=h; exact⟨σ,H,I,h3 _ _ q⟩
 | cont=>obtain⟨σ,H,I,q⟩:=h; exact⟨σ,H,I,h4 _ _ q⟩
 | ret u=>obtain⟨v,σ,H,I,r,q⟩:=h; exact⟨v,σ,H,I,r,h2 _ _ q⟩
theorem tS.mono(h1: ∀σ H,En.nx σ H->En'.nx σ H)(h2: ∀v H,En.rt v H->En'.rt v H)(h3: ∀σ H,En.bk σ H->En'.bk σ H)(h4: ∀σ H,En.ct σ H->En'.ct σ H)(h:tS X st En σ H):tS X st En' σ H:=
 fun pins s I=>eQ (h pins s I) fun f s' q=>SP.mono h1 h2 h3 h4 q
theorem kB.mono(h1: ∀σ H,En.nx σ H->En'.nx σ H)(h2: ∀v H,En.rt v H->En'.rt v H)(h3: ∀σ H,En.bk σ H->En'.bk σ H)(h4: ∀σ H,En.ct σ H->En'.ct σ H)(h:kB X sts En σ H):kB X sts En' σ H:=
 fun pins s I=>eQ (h pins s I) fun f s' q=>SP.mono h1 h2 h3 h4 q
theorem WS.nil(h:P.N ρ):WS X M0 H0 [] ρ P:=fun γ α σ H R=>lG.to ⟨α,ρ,R,h⟩
theorem WS.cons(h:W1 X M0 H0 st ρ {P with N:=fun ρ'=>WS X M0 H0 sts ρ' P}):WS X M0 H0 (st::sts) ρ P:=fun γ α σ H R=>
 (cE oE fg).to (tS.mono (En:=ends X.K M0 H0 γ {P with N:=fun ρ'=>WS X M0 H0 sts ρ' P}) (fun σ' H' ⟨α',ρ',R',w⟩=>w γ α' σ' H' R') (fun _ _ q=>q) (fun _ _ q=>q) (fun _ _ q=>q) (h γ α σ H R))
theorem WS.one(h:W1 X M0 H0 st ρ P):WS X M0 H0 [st] ρ P:=fun γ α σ H R=>(ng oE).to (h γ α σ H R)
theorem W1.imp(h:W1 X M0 H0 st ρ P)(h1: ∀ρ,P.N ρ->P'.N ρ)(h2: ∀d,P.R d->P'.R d)(h3: ∀ρ,P.B ρ->P'.B ρ)(h4: ∀ρ,P.C ρ->P'.C ρ):W1 X M0 H0 st ρ P':=fun γ α σ H R=>
 tS.mono (En:=ends X.K M0 H0 γ P) (fun _ _ ⟨α,ρ,R,q⟩=>⟨α,ρ,R,h1 _ q⟩) (fun _ _ ⟨d,q,r⟩=>⟨d,h2 _ q,r⟩) (fun _ _ ⟨α,ρ,R,q⟩=>⟨α,ρ,R,h3 _ q⟩) (fun _ _ ⟨α,ρ,R,q⟩=>⟨α,ρ,R,h4 _ q⟩) (h γ α σ H R)
theorem WS.freeze{i:Nat}(hi:ρ[i]? =some (.mu ds))(h:WS X M0 H0 sts (ρ.set i (.im (.lst ds))) P):WS X M0 H0 sts ρ P:=fun γ α σ H R=>h γ α σ H (R.freeze hi)
theorem W1.ret(h:av X ρ e d)(q:P.R d):W1 X M0 H0 (.Return (some e) pos) ρ P:=fun γ α σ H R=>
 (FV f7).to (h M0 H0 γ α σ H _ R fun v H' s x=>⟨d,q,R.same.trans s,x.less fun a m=> .inl m⟩)
theorem W1.expr(h:av X ρ e d)(q:P.N ρ)(hs:cg e none pos.line X.env=pure false:=by rfl):W1 X M0 H0 (.Expr e pos) ρ P:=fun γ α σ H R=>
 (lM f7 hs).to (h M0 H0 γ α σ H _ R fun v H' s x=>⟨α,ρ,R.next s,q⟩)
theorem W1.ite{s1 s2:List Stmt}{t:Bool}(h:cB X ρ c t)(h1:t=true->WS X M0 H0 s1 ρ P)(h2:t=false->WS X M0 H0 s2 ρ P):W1 X M0 H0 (.If c s1 s2 pos) ρ P:=fun γ α σ H R=>
 (y4 BS fg fg).to (h M0 H0 γ α σ H _ R fun H1 s=>by
  cases e:t with
  | true=>exact rO (h1 e γ α σ H1 (R.next s))
  | false=>exact qf (h2 e γ α σ H1 (R.next s)))
theorem W1.set{i:Nat}{x:Str}(hN:X.N.Nodup)(hi:X.N[i]? =some x)(hx:Loc X.env.scope x)(hl:i < ρ.length)(h:av X ρ e d)(q:P.N (ρ.set i (.im d)))
  (hs:cg e (some (.Name x pos')) pos.line X.env=pure false:=by rfl)(hf:X.fn x=true\/X.env.scope.names.lookup x=some .local:=by first | exact .inl rfl | exact .inr rfl | assumption):W1 X M0 H0 (.Assign [.Name x pos'] e pos) ρ P:=fun γ α σ H R=>
 (kU hN hi hx f7 hs hf).to (h M0 H0 γ α σ H _ R fun v H' s x=>⟨α,_,(R.next s).set_im hl x,q⟩)
theorem W1.setF{i:Nat}{x:Str}(hN:X.N.Nodup)(hi:X.N[i]? =some x)(hx:Loc X.env.scope x)(hl:i < ρ.length)(h:ff X ρ e ds)(q:P.N (ρ.set i (.mu ds)))
  (hs:cg e (some (.Name x pos')) pos.line X.env=pure false:=by rfl)(hf:X.fn x=true\/X.env.scope.names.lookup x=some .local:=by first | exact .inl rfl | exact .inr rfl | assumption):W1 X M0 H0 (.Assign [.Name x pos'] e pos) ρ P:=fun γ α σ H R=>
 (kU hN hi hx f7 hs hf).to (h M0 H0 γ α σ H _ R fun l xs H1 H' s n s' y z=>⟨_,_,(R.next s).set_mu hl n s' y z,q⟩)
def tG(X:Cx)(tg:Expr):TG:=fun v σ H Q=> ∀(pins:List (Addr×Obj)) (s:ah) (u:Value),Inv X pins σ H s->RelV v u->wpAny (model X.prog X.w) X.A (n_ tg X.env u) (fun _ s'=> ∃σ' H',Inv X pins σ' H' s'/\Q σ' H') X.xe s
theorem JR{tg:Expr}:PG X tg (tG X tg):=fun pins s σ H v u Q I r h=>h pins s u I r
theorem _root_.L2.PG.to{tg:Expr}{t:TG}{v:V}{Q:St->Hp->Prop}(h:PG X tg t)(q:t v σ H Q):tG X tg v σ H Q:=fun pins s u I r=>h pins s σ H v u Q I r q
def sJ(X:Cx)(tg:Expr)(d:D)(ρ ρ':eG):Prop:= ∀(M0:MP) (H0:Hp) (γ:List (D×V)) (α:Nat->Addr) (σ:St) (H:Hp) (v:V) (Q:St->Hp->Prop),Rep X.K M0 H0 γ α ρ σ H->Dn X.K (MM M0 ρ α) H d v->
 (∀σ',Rep X.K M0 H0 γ α ρ' σ' H->Q σ' H)->tG X tg v σ H Q
theorem sJ.name{i:Nat}{x:Str}(hN:X.N.Nodup)(hi:X.N[i]? =some x)(hx:Loc X.env.scope x)(hl:i < ρ.length)
  (hf:X.fn x=true\/X.env.scope.names.lookup x=some .local:=by first | exact .inl rfl | exact .inr rfl | assumption):sJ X (.Name x pos) d ρ (ρ.set i (.im d)):=fun M0 H0 γ α σ H v Q R h k=>
 (pC hN hi hx hf).to (k _ (R.set_im hl h))
theorem C0{body:List Stmt}{γ γ':List (D×V)}{α:Nat->Addr}{J:eG->Prop}(hg: ∀{α:Nat->Addr} {ρ:eG} {σ:St} {H:Hp},Rep X.K M0 H0 γ' α ρ σ H->Rep X.K M0 H0 γ α ρ σ H)
  (R:Rep X.K M0 H0 γ' α ρ σ H)(w:WS X M0 H0 body ρ {P with N:=J,C:=J,B:=P.N}):
  kB X body {ends X.K M0 H0 γ P with nx:=fun σ H=> ∃α ρ,Rep X.K M0 H0 γ' α ρ σ H/\J ρ,ct:=fun σ H=> ∃α ρ,Rep X.K M0 H0 γ' α ρ σ H/\J ρ,bk:=(ends X.K M0 H0 γ P).nx} σ H:=
 kB.mono (En:=ends X.K M0 H0 γ' {P with N:=J,C:=J,B:=P.N}) (fun _ _ q=>q) (fun _ _ q=>q) (fun _ _ ⟨α,ρ,R,q⟩=>⟨α,ρ,hg R,q⟩) (fun _ _ q=>q) (w γ' α σ H R)
theorem W1.while{body:List Stmt}(I:eG->Prop)(μ:eG->Nat)(hp:mR (model X.prog X.w) X.A X.env X.xe)(h0:I ρ)
  (ht: ∀ρ,I ρ-> ∃t,cB X ρ c t/\(t=true->WS X M0 H0 body ρ {P with N:=fun ρ'=>I ρ'/\μ ρ' < μ ρ,C:=fun ρ'=>I ρ'/\μ ρ' < μ ρ,B:=P.N})/\(t=false->P.N ρ)):W1 X M0 H0 (.While c body [] pos) ρ P:=fun γ α σ H R=>by
 refine(vS hp BS fg).to ⟨fun m σ H=> ∃α ρ,Rep X.K M0 H0 γ α ρ σ H/\I ρ/\μ ρ=m,⟨μ ρ,α,ρ,R,h0,rfl⟩, ?_⟩
 rintro m σ2 H2 ⟨α2,ρ2,R2,i2,rfl⟩
 obtain⟨t,h1,h2,h3⟩:=ht ρ2 i2
 refine h1 M0 H0 γ α2 σ2 H2 _ R2 fun H3 s=> ?_
 cases e:t with
 | true=>
  refine rO ⟨fun σ H=> ∃α ρ,Rep X.K M0 H0 γ α ρ σ H/\(I ρ/\μ ρ < μ ρ2),fun σ' H' ⟨α',ρ',R',i',l'⟩=>⟨_,l',α',ρ',R',i',rfl⟩, ?_⟩
  exact C0 (fun r=>r) (R2.next s) (h2 e)
 | false=>exact qf ⟨α2,ρ2,R2.next s,h3 e⟩
def Hr(X:Cx)(o:Expr)(name:Str)(e:Expr)(apos cpos:Pos):Prop:=fb o name X.env (eval o X.env)=eval o X.env/\
 ((c9 cpos (aq [e] X.env)).all (fun x=> !x.1)&&(backToKw cpos (rg [] X.env)).all (fun x=>x.1.isSome)&&decide ([e].length+([]:List Keyword).length+(if([]:List Keyword).isEmpty then 0 else 1) < 30))=true/\
 (apos.endLine==cpos.line)=true/\aq [e] X.env= [(false,eval e X.env)]
def Km(X:Cx)(o:Expr)(name:Str)(apos cpos:Pos):Prop:=fb o name X.env (eval o X.env)=eval o X.env/\(apos.endLine==cpos.line)=true
theorem W1.mt1{i:Nat}{x name:Str}{id:String}{es:List D}{r:V->List V->Hp->VK->Prop}{p1 p2 p3:Pos}(pa:PlainAttrs "list")(sl:Slot "list" name id)(hty:typeOf (.builtin id)=pure (.type "method_descriptor"))(hm:Hm X id r)
  (hi:X.N[i]? =some x)(hv:tN X.env.scope x)(hρ:ρ[i]? =some (.mu ds))(h:av X ρ e d)
  (hr: ∀(M:MP) (H:Hp) (l:Addr) (xs:List V) (v:V) (Q:VK),H l=some (.lst xs)->cw X.K M H ds xs->Dn X.K M H d v->(∀u ys,cw X.K M H es ys->Q u (upd H l (.lst ys)))->r (.ref l) [v] H Q)(q:P.N (ρ.set i (.mu es)))
  (mc:Hr X (.Name x p1) name e p2 p3)(hd:(x==("__debug__":Str))=false:=by decide)(hcd:(x==("__classdict__":Str))=false:=by decide)(hsw:cg (.Call (.Attribute (.Name x p1) name p2) [e] [] p3) none pos.line X.env=pure false:=by rfl):
  W1 X M0 H0 (.Expr (.Call (.Attribute (.Name x p1) name p2) [e] [] p3) pos) ρ P:=fun γ α σ H R=>by
 obtain⟨m1,m2,m3,m4⟩:=mc
 obtain⟨a1,a2,xs,a3,a4⟩:=R.mu i ds hρ
 refine(lM (A6 pa sl hty hm (iZ hi hv hd hcd) ud m1 m2 m3 m4 rfl) hsw).to ?_
 refine⟨_,a2, .inl ⟨rfl,_,kR.of a3⟩,(bz.cons h bz.nil m4) M0 H0 γ α σ H _ R fun vs H1 s y=> ?_⟩
 obtain⟨v,r,rfl,e1,e2⟩:=y
 cases e2
 exact hr _ H1 (α i) xs v _ (s _ _ a3) (a4.same s) e1 fun u ys hy=>⟨α,_,(R.next s).upd_mu hρ hy,q⟩
theorem W1.mt0{i:Nat}{x name:Str}{id:String}{es:List D}{r:V->List V->Hp->VK->Prop}{p1 p2 p3:Pos}(pa:PlainAttrs "list")(sl:Slot "list" name id)(hty:typeOf (.builtin id)=pure (.type "method_descriptor"))(hm:Hm X id r)
  (hi:X.N[i]? =some x)(hv:tN X.env.scope x)(hρ:ρ[i]? =some (.mu ds))
  (hr: ∀(M:MP) (H:Hp) (l:Addr) (xs:List V) (Q:VK),H l=some (.lst xs)->cw X.K M H ds xs->(∀u ys,cw X.K M H es ys->Q u (upd H l (.lst ys)))->r (.ref l) [] H Q)(q:P.N (ρ.set i (.mu es)))
  (mc:Km X (.Name x p1) name p2 p3)(hd:(x==("__debug__":Str))=false:=by decide)(hcd:(x==("__classdict__":Str))=false:=by decide)(hsw:cg (.Call (.Attribute (.Name x p1) name p2) [] [] p3) none pos.line X.env=pure false:=by rfl):
  W1 X M0 H0 (.Expr (.Call (.Attribute (.Name x p1) name p2) [] [] p3) pos) ρ P:=fun γ α σ H R=>by
 obtain⟨m1,m2⟩:=mc
 obtain⟨a1,a2,xs,a3,a4⟩:=R.mu i ds hρ
 refine(lM (Gd pa sl hty hm (iZ hi hv hd hcd) m1 m2) hsw).to ?_
 exact⟨_,a2, .inl ⟨rfl,_,kR.of a3⟩,hr _ H (α i) xs _ a3 a4 fun u ys hy=>⟨α,_,R.upd_mu hρ hy,q⟩⟩
theorem yx{n:Nat}(h:n < 1000000):n < sizeLine:=aY h (by decide)
theorem W1.append{i:Nat}{x:Str}{p1 p2 p3:Pos}(hi:X.N[i]? =some x)(hv:tN X.env.scope x)(hρ:ρ[i]? =some (.mu ds))(h:av X ρ e d)(hl:ds.length < 1000000)(q:P.N (ρ.set i (.mu (ds ++ [d]))))
  (mc:Hr X (.Name x p1) "append" e p2 p3)(hd:(x==("__debug__":Str))=false:=by decide)(hcd:(x==("__classdict__":Str))=false:=by decide)(hsw:cg (.Call (.Attribute (.Name x p1) "append" p2) [e] [] p3) none pos.line X.env=pure false:=by rfl):
  W1 X M0 H0 (.Expr (.Call (.Attribute (.Name x p1) "append" p2) [e] [] p3) pos) ρ P:=
 W1.mt1 gV PySem.F.slot_list_append PySem.F.type_list_append nO hi hv hρ h (fun M H l xs v Q a b c k=>⟨l,xs,v,rfl,rfl,a,by rw [b.len]; exact yx hl,k _ _ (cw.app b (cw.one c))⟩) q mc hd hcd hsw
theorem Ce(l b:Addr)(xs ys:Array Value)(n m:Nat)(dd:Option Addr)(sl:Array (Option Value))(h0: ¬(!xs.isEmpty&&gC (xs.size+ys.size))=true)(h1:xs.size<=sizeLine)(h2:xs.size+ys.size<=sizeLine):
  Meets (cG.«list.extend» ⟨[.ref l, .ref b], []⟩) (fun _ R s=>s.heap.get? l=some {cls:= .type "list",data:= .seq xs n}/\s.heap.get? b=some {cls:= .type "list",dict:=dd,data:= .seq ys m,slots:=sl}/\
   R (.ok (.ret a_)) {s with heap:=s.heap.update l (cR fun x=>x ++ ys),toks:=s.toks}):=
 .of_wp fun prog w A R s h=>by
  obtain⟨hp,g,d,tk,os⟩:=s
  obtain⟨hl,hb,h⟩:=h
  have f2:=dw
  have f3:=ym
  have hz:(xs ++ ys).size<=sizeLine+1:=by rw [Array.size_append]; omega
  wp_walk using (FP hl rfl (hz:=h1) (_hz':=hz)),bf hl,bf hb
  exact⟨_,rfl,h⟩
theorem zx(l b:Addr)(xs ys:Array Value)(n m:Nat)(dd:Option Addr)(sl:Array (Option Value))(h0: ¬(!xs.isEmpty&&gC (xs.size+ys.size))=true)(h1:xs.size<=sizeLine)(h2:xs.size+ys.size<=sizeLine):
  Meets (cG.«list.extend» ⟨[.ref l, .ref b], []⟩) (fun _ R s=>s.heap.get? l=some {cls:= .type "list",data:= .seq xs n}/\s.heap.get? b=some {cls:= .type "tuple",dict:=dd,data:= .seq ys m,slots:=sl}/\
   R (.ok (.ret a_)) {s with heap:=s.heap.update l (cR fun x=>x ++ ys),toks:=s.toks}):=
 .of_wp fun prog w A R s h=>by
  obtain⟨hp,g,d,tk,os⟩:=s
  obtain⟨hl,hb,h⟩:=h
  have f2:=dw
  have f3:=ym
  have hz:(xs ++ ys).size<=sizeLine+1:=by rw [Array.size_append]; omega
  wp_walk using (FP hl rfl (hz:=h1) (_hz':=hz)),bf hl,bf hb
  exact⟨_,rfl,h⟩
def Iw(K:Frag):V->List V->Hp->VK->Prop:=fun x vs H Q=> ∃l b xs zs,x= .ref l/\vs= [.ref b]/\H l=some (.lst xs)/\(kR K H b zs\/i4 K H b zs)/\xs.length+zs.length<=sizeLine/\Q .non (upd H l (.lst (xs ++ zs)))
theorem EG:Hm X "list.extend" (Iw X.K):=by
 intro pins s σ H x vs v us Q I rx rv h
 obtain⟨l,b,xs,zs,rfl,rfl,hH,hB,hz,q⟩:=h
 cases rx
 obtain⟨u,rfl,ru⟩:=rv.one
 cases ru
 obtain⟨z,bL,n,r,hl,e⟩:=I.lstM hH
 have key: ∀its2:List Value,Vals zs its2->bL.toArray.size+its2.toArray.size<=sizeLine/\ ¬(!bL.toArray.isEmpty&&gC (bL.toArray.size+its2.toArray.size))=true:=fun its2 r2=>by
  have hl2:=r2.length
  have hsz:bL.toArray.size+its2.toArray.size<=sizeLine:=by rw [ax,ax]; omega
  refine⟨hsz, ?_⟩
  rw [BK hsz,jx]
  exact az
 have fin: ∀its2:List Value,Vals zs its2->EP X pins σ Q a_ {s with heap:=s.heap.update l (cR fun x=>x ++ its2.toArray),toks:=s.toks}:=fun its2 r2=>
  ⟨.non,_,I.lset (its':=bL ++ its2) hH e (by simp) (r.append r2) (by rw [ak]; exact hz),rfl,q⟩
 rcases hB with hB | hB
 ·obtain⟨its2,r2,⟨⟨oc,od,odt,osl⟩,n2,e2,ec,ed,edt⟩,z2⟩:=I.list hB
  simp only at ec ed edt
  subst ec ed edt
  obtain⟨k1,k2⟩:=key its2 r2
  exact uS F.slot_list_extend ⟨_,e,rfl⟩ F.entry_list_extend (F.args_list_extend_2 _ _) (Ce l b bL.toArray its2.toArray n n2 none osl k2 (by rw [ax]; omega) k1) ⟨e,e2,fin its2 r2⟩
 ·obtain⟨its2,r2,⟨⟨oc,od,odt,osl⟩,e2,ec,n2,edt⟩,z2⟩:=I.tuple hB
  simp only at ec edt
  subst ec edt
  obtain⟨k1,k2⟩:=key its2 r2
  exact uS F.slot_list_extend ⟨_,e,rfl⟩ F.entry_list_extend (F.args_list_extend_2 _ _) (zx l b bL.toArray its2.toArray n n2 od osl k2 (by rw [ax]; omega) k1) ⟨e,e2,fin its2 r2⟩
end
section
variable {X:Cx}{M0:MP}{H0:Hp}{ρ:eG}{P:nZ}{e a b c:Expr}{es:List Expr}{d:D}{ds:List D}{pos p:Pos}
theorem cw.at{K:Frag}{M:MP}{H:Hp}{ds:List D}{vs:List V}{k:Int}{d:D}(h:cw K M H ds vs)(e:sh ds k=some d): ∃v,sh vs k=some v/\Dn K M H d v:=by
 obtain⟨j,h1,h2,h3,h4,h5⟩:=sX e
 obtain⟨v,q1,q2⟩:=h.get h2
 refine⟨v, ?_,q2⟩
 unfold sh at e ⊢
 rw [h.len]
 cases z:AU ds.length k with
 | none=>rw [z]at e; cases e
 | some j'=>
  obtain⟨w,_⟩:=pb z
  rw [h1]at w; cases w
  exact q1
theorem av.ixL{k:Int}(ha:ky X ρ a (.lst ds))(hb:av X ρ b (.int k))(hk:sh ds k=some d)(hs:mX b:=by intro _ _; rfl):av X ρ (.Subscript a b pos) d:=
 fun M0 H0 γ α σ H Q R kk=>(Ba E4 f7 f7 hs).to (ha M0 H0 γ α σ H _ R fun v H1 s1 d1=>hb M0 H0 γ α σ H1 _ (R.next s1) fun u H2 s2 d2=>by
  obtain⟨q,xs,rfl,sq,dn⟩:=d1.same s2
  obtain⟨w,e1,e2⟩:=dn.at hk
  exact⟨q,xs,k,w,rfl,d2,sq,e1,kk w H2 (s1.trans s2) e2⟩)
theorem av.ixT{k:Int}(ha:av X ρ a (.tup ds))(hb:av X ρ b (.int k))(hk:sh ds k=some d)(hs:mX b:=by intro _ _; rfl):av X ρ (.Subscript a b pos) d:=
 fun M0 H0 γ α σ H Q R kk=>(Ba GS f7 f7 hs).to (ha M0 H0 γ α σ H _ R fun v H1 s1 d1=>hb M0 H0 γ α σ H1 _ (R.next s1) fun u H2 s2 d2=>by
  obtain⟨q,xs,rfl,sq,dn⟩:=d1.same s2
  obtain⟨w,e1,e2⟩:=dn.at hk
  exact⟨q,xs,k,w,rfl,d2,sq,e1,kk w H2 (s1.trans s2) e2⟩)
theorem av.callB{id:String}{x:Str}{r:List V->Hp->VK->Prop}(hc:gf X (.builtin id) r)(hg:Gl X x)(hm:X.mg x=none)(hv:cU x=some (.builtin id))(ha:q_ X ρ (e::es) ds)
  (hr: ∀(M:MP) (H:Hp) (vs:List V) (Q:VK),vO X.K M H ds vs->(∀v H',bI H H'->Dn X.K M H' d v->Q v H')->r vs H Q)(hn:x≠"__name__":=by decide)(hdb:(x==("__debug__":Str))=false:=by decide)
  (he:aq (e::es) X.env=(false,eval e X.env)::aq es X.env:=by rfl)(hpl:(c9 pos (aq es X.env)).any (·.1)=false:=by rfl):av X ρ (.Call (.Name x p) (e::es) [] pos) d:=
 fun M0 H0 γ α σ H Q R k=>(gL hc hg hm hv ud hn hdb he hpl).to (ha M0 H0 γ α σ H _ R fun vs H1 s1 d1=>hr _ H1 vs Q d1 fun v H2 s2 d2=>k v H2 (s1.trans s2) d2)
theorem av.callTy{T:String}{x:Str}{r:List V->Hp->VK->Prop}(hc:gf X (.type T) r)(hg:Gl X x)(hm:X.mg x=none)(hv:cU x=some (.type T))(ha:q_ X ρ (e::es) ds)
  (hr: ∀(M:MP) (H:Hp) (vs:List V) (Q:VK),vO X.K M H ds vs->(∀v H',bI H H'->Dn X.K M H' d v->Q v H')->r vs H Q)(hn:x≠"__name__":=by decide)(hdb:(x==("__debug__":Str))=false:=by decide)
  (he:aq (e::es) X.env=(false,eval e X.env)::aq es X.env:=by rfl)(hpl:(c9 pos (aq es X.env)).any (·.1)=false:=by rfl):av X ρ (.Call (.Name x p) (e::es) [] pos) d:=
 fun M0 H0 γ α σ H Q R k=>(lH hc hg hm hv ud hn hdb he hpl).to (ha M0 H0 γ α σ H _ R fun vs H1 s1 d1=>hr _ H1 vs Q d1 fun v H2 s2 d2=>k v H2 (s1.trans s2) d2)
theorem ff.callTy{T:String}{x:Str}{fs:List D}{r:List V->Hp->VK->Prop}(hc:gf X (.type T) r)(hg:Gl X x)(hm:X.mg x=none)(hv:cU x=some (.type T))(ha:q_ X ρ (e::es) ds)
  (hr: ∀(M:MP) (H:Hp) (vs:List V) (Q:VK),vO X.K M H ds vs->(∀l xs H1 H',bI H H1->H1 l=none->bI H1 H'->H' l=some (.lst xs)->cw X.K (fun a=>M a\/a=l) H' fs xs->Q (.ref l) H')->r vs H Q)(hn:x≠"__name__":=by decide)(hdb:(x==("__debug__":Str))=false:=by decide)
  (he:aq (e::es) X.env=(false,eval e X.env)::aq es X.env:=by rfl)(hpl:(c9 pos (aq es X.env)).any (·.1)=false:=by rfl):ff X ρ (.Call (.Name x p) (e::es) [] pos) fs:=
 fun M0 H0 γ α σ H Q R k=>(lH hc hg hm hv ud hn hdb he hpl).to (ha M0 H0 γ α σ H _ R fun vs H1 s1 d1=>hr _ H1 vs Q d1 fun l xs H2 H3 s2 n s3 q dn=>k l xs H2 H3 (s1.trans s2) n s3 q dn)
theorem q_.one(h:ky X ρ e d)(hs:aq [e] X.env= [(false,eval e X.env)]:=by rfl):q_ X ρ [e] [d]:=q_.cons h q_.nil hs
def sD:D->List D->Prop
 | .lst ds,es=>ds=es
 | .tup ds,es=>ds=es
 | _,_=>False
theorem uH{K:Frag}{M:MP}{H:Hp}{d:D}{ds:List D}{v:V}(hq:sD d ds)(h:nc K M H d v): ∃q xs,v= .ref q/\(kR K H q xs\/i4 K H q xs)/\cw K M H ds xs:=by
 cases d with
 | lst es=>cases hq; obtain⟨q,xs,e,s,r⟩:=h; exact⟨q,xs,e, .inl s,r⟩
 | tup es=>cases hq; obtain⟨q,xs,e,s,r⟩:=h; exact⟨q,xs,e, .inr s,r⟩
 | _=>exact hq.elim
theorem av.len(hg:Gl X "len")(hm:X.mg "len"=none)(h:ky X ρ e d)(hq:sD d ds)(he:aq [e] X.env= [(false,eval e X.env)]:=by rfl):av X ρ (.Call (.Name "len" p) [e] [] pos) (.int ds.length):=
 av.callB tm hg hm PySem.boot_len (q_.one h he) (fun M H vs Q dn k=>by
  obtain⟨v,r,rfl,e1,e2⟩:=dn
  cases e2
  obtain⟨q,xs,rfl,s,z⟩:=uH hq e1
  exact⟨q,xs,rfl,s,k _ H (bI.refl _) (by rw [z.len]; exact rfl)⟩) (he:=he)
theorem ff.list(hg:Gl X "list")(hm:X.mg "list"=none)(hv:cU "list"=some (.type "list"))(h:ky X ρ e d)(hq:sD d ds)(he:aq [e] X.env= [(false,eval e X.env)]:=by rfl):ff X ρ (.Call (.Name "list" p) [e] [] pos) ds:=
 ff.callTy tR hg hm hv (q_.one h he) (fun M H vs Q dn k=>by
  obtain⟨v,r,rfl,e1,e2⟩:=dn
  cases e2
  obtain⟨q,xs,rfl,s,z⟩:=uH hq e1
  exact⟨q,xs,rfl,s,fun l hl=>k l xs H _ (bI.refl _) hl (bB hl) bC ((mY hl z).same (bB hl))⟩) (he:=he)
theorem av.tuple(hg:Gl X "tuple")(hm:X.mg "tuple"=none)(hv:cU "tuple"=some (.type "tuple"))(h:ky X ρ e d)(hq:sD d ds)(he:aq [e] X.env= [(false,eval e X.env)]:=by rfl):av X ρ (.Call (.Name "tuple" p) [e] [] pos) (.tup ds):=
 av.callTy rH hg hm hv (q_.one h he) (fun M H vs Q dn k=>by
  obtain⟨v,r,rfl,e1,e2⟩:=dn
  cases e2
  obtain⟨q,xs,rfl,s,z⟩:=uH hq e1
  refine⟨q,xs,rfl, ?_⟩
  rcases s with s | s
  ·exact .inl ⟨s,fun l hl=>k _ _ (bB hl) ⟨l,xs,rfl,i4.of bC,z.same (bB hl)⟩⟩
  ·exact .inr ⟨s,k _ H (bI.refl _) ⟨q,xs,rfl,s,z⟩⟩) (he:=he)
theorem av.min(hc:X.calm=true)(hg:Gl X "min")(hm:X.mg "min"=none)(hv:cU "min"=some (.builtin "min")){i j:Int}(ha:av X ρ a (.int i))(hb:av X ρ b (.int j))
  (he:aq [a,b] X.env=(false,eval a X.env)::aq [b] X.env:=by rfl)(he2:aq [b] X.env= [(false,eval b X.env)]:=by rfl)(hpl:(c9 pos (aq [b] X.env)).any (·.1)=false:=by rfl):av X ρ (.Call (.Name "min" p) [a,b] [] pos) (.int (if j < i then j else i)):=
 av.callB (z_ hc) hg hm hv (q_.cons ha.r (q_.one hb.r he2) he) (fun M H vs Q dn k=>by
  obtain⟨v,r,rfl,e1,v2,r2,rfl,e2,e3⟩:=dn
  cases e1; cases e2; cases e3
  exact⟨i,j,rfl,k _ H (bI.refl _) rfl⟩) (he:=he) (hpl:=hpl)
mutual
def D.pd:D->PyData
 | .non=> .none
 | .bl b=> .bool b
 | .int i=> .int i
 | .str x=> .str x
 | .tup ds=> .tuple (D.pds ds)
 | .lst ds=> .list (D.pds ds)
 | .ins _ _ _=> .none
 | .exc _=> .none
 | .dct _ _ _=> .none
def D.pds:List D->List PyData
 | []=> []
 | d::ds=>D.pd d::D.pds ds
end
def D.flat:Nat->D->Prop
 | _, .non=>True
 | _, .bl _=>True
 | _, .int _=>True
 | _, .str x=>PyData.strOk x=true
 | n+1, .tup ds=> ∀d∈ds,D.flat n d
 | n+1, .lst ds=> ∀d∈ds,D.flat n d
 | _,_=>False
theorem k_{pins:List (Addr×Obj)}{s:ah}{σ:St}{H:Hp}{M:MP}(I:Inv X pins σ H s): ∀(n:Nat),
  (∀(d:D) (v:V) (u:Value),D.flat n d->nc X.K M H d v->RelV v u-> ∃as,Reads s.heap u d.pd as):=by
 intro n
 have all: ∀m:Nat,(∀(d:D) (v:V) (u:Value),D.flat m d->nc X.K M H d v->RelV v u-> ∃as,Reads s.heap u d.pd as)->
   ∀(ds:List D) (vs:List V) (us:List Value),(∀d∈ds,D.flat m d)->cw X.K M H ds vs->Vals vs us-> ∃as,ReadsAll s.heap us (D.pds ds) as:=by
  intro m ih ds
  induction ds with
  | nil=>intro vs us _ h r; cases (show vs= []from h); cases r; exact⟨_, .nil⟩
  | cons d ds hi=>
   intro vs us hf h r
   obtain⟨v,t,rfl,h1,h2⟩:=h
   cases r with
   | cons r1 r2=>
    obtain⟨as,q1⟩:=ih d v _ (hf d (.head _)) h1.t r1
    obtain⟨bs,q2⟩:=hi t _ (fun x hx=>hf x (.tail _ hx)) h2 r2
    exact⟨_, .cons q1 q2⟩
 have base: ∀(m:Nat) (d:D) (v:V) (u:Value),(∀ds,d≠ .tup ds)->(∀ds,d≠ .lst ds)->D.flat m d->nc X.K M H d v->RelV v u-> ∃as,Reads s.heap u d.pd as:=by
  intro m d v u n1 n2 hf h r
  cases d with
  | non=>cases (show v= .non from h); cases (show u=a_ from r); exact⟨_, .none⟩
  | bl b=>cases (show v= .bl b from h); cases (show u=dJ b from r); exact⟨_, .bool b⟩
  | int i=>cases (show v= .int i from h); obtain⟨t,rfl⟩:=r; exact⟨_, .int i t⟩
  | str x=>cases (show v= .str x from h); obtain⟨t,rfl⟩:=r; exact⟨_, .str x t⟩
  | tup ds=>exact absurd rfl (n1 ds)
  | lst ds=>exact absurd rfl (n2 ds)
  | ins _ _ _=>cases m <;> exact hf.elim
  | exc _=>cases m <;> exact hf.elim
  | dct _ _ _=>cases m <;> exact hf.elim
 induction n with
 | zero=>
  intro d v u hf h r
  refine base 0 d v u (fun ds e=> ?_) (fun ds e=> ?_) hf h r <;> (subst e; exact hf.elim)
 | succ n ih=>
  intro d v u hf h r
  cases d with
  | tup ds=>
   obtain⟨a,xs,rfl,sq,dn⟩:=h
   cases (show u=ao a from r)
   obtain⟨bL,rv,⟨o,e1,e2,m,e3⟩,_⟩:=I.tuple sq
   obtain⟨as,q⟩:=all n ih ds xs bL hf dn rv
   exact⟨_, .tuple e1 e2 e3 (by simpa [D.pds]using q)⟩
  | lst ds=>
   obtain⟨a,xs,rfl,sq,dn⟩:=h
   cases (show u=ao a from r)
   obtain⟨bL,rv,⟨o,m,e1,e2,_,e3⟩,_⟩:=I.list sq
   obtain⟨as,q⟩:=all n ih ds xs bL hf dn rv
   exact⟨_, .list e1 e2 e3 (by simpa [D.pds]using q)⟩
  | _=>exact base (n+1) _ v u (fun ds e=>nomatch e) (fun ds e=>nomatch e) hf h r
theorem jI: ∀(n:Nat) (d:D),D.flat n d->d.pd.canLay0=true/\d.pd.depth<=n:=by
 have all: ∀m:Nat,(∀d:D,D.flat m d->d.pd.canLay0=true/\d.pd.depth<=m)-> ∀ds:List D,(∀d∈ds,D.flat m d)->dF (D.pds ds)=true/\c7 (D.pds ds)<=m:=by
  intro m ih ds
  induction ds with
  | nil=>intro _; exact⟨by simp [D.pds,dF],by simp [D.pds,c7]⟩
  | cons d ds hi=>
   intro hf
   obtain⟨a1,a2⟩:=ih d (hf d (.head _))
   obtain⟨b1,b2⟩:=hi fun x hx=>hf x (.tail _ hx)
   exact⟨by simp [D.pds,dF,a1,b1],by simp only [D.pds,c7]; omega⟩
 intro n
 induction n with
 | zero=>intro d hf; cases d <;> simp_all [D.flat,D.pd,hG,je]
 | succ n ih=>
  intro d hf
  cases d with
  | tup ds=>obtain⟨b1,b2⟩:=all n ih ds hf; exact⟨by simpa [D.pd,hG]using b1,by simp only [D.pd,je]; omega⟩
  | lst ds=>obtain⟨b1,b2⟩:=all n ih ds hf; exact⟨by simpa [D.pd,hG]using b1,by simp only [D.pd,je]; omega⟩
  | _=>simp_all [D.flat,D.pd,hG,je]
theorem oA{d:D}(h:D.flat 60 d):SeqAt.shaped d.pd=true:=by
 obtain⟨a,b⟩:=jI 60 d h
 unfold SeqAt.shaped
 rw [a,gD]
 exact decide_eq_true (by omega)
def D.eqv(a b:D):Bool:=iH a.pd b.pd
def JJ(K:Frag)(neg:Bool):R2:=fun x y H Q=> ∃M da db,nc K M H da x/\nc K M H db y/\D.flat 60 da/\D.flat 60 db/\Q (.bl (if neg then !D.eqv da db else D.eqv da db)) H
theorem GW(hu:X.A.units+64 < cLine):l7 X (cj .NotEq) (JJ X.K true):=by
 intro pins s σ H x y v u Q I rx ry ⟨M,da,db,h1,h2,f1,f2,q⟩
 obtain⟨as,r1⟩:=k_ I 60 da x v f1 h1 rx
 obtain⟨bs,r2⟩:=k_ I 60 db y u f2 h2 ry
 exact ne_dataH r1 r2 (oA f1) (oA f2) hu ⟨.bl _,H,I,rfl,q⟩
theorem cB.ne{da db:D}(hu:X.A.units+64 < cLine)(ha:ky X ρ a da)(hb:ky X ρ b db)(f1:D.flat 60 da)(f2:D.flat 60 db):cB X ρ (.Compare a [.NotEq] [b] pos) (!D.eqv da db):=
 cB.cmp (GW hu) ha hb (xT b) fun M H x y Q dx dy k=>⟨M,da,db,dx,dy,f1,f2,k⟩
def inD(d:D)(ds:List D):Bool:=ds.any fun y=>D.eqv y d
def JT(K:Frag)(neg:Bool):R2:=fun x y H Q=> ∃M da ds,nc K M H da x/\(nc K M H (.lst ds) y\/nc K M H (.tup ds) y)/\D.flat 60 da/\(∀d∈ds,D.flat 59 d)/\Q (.bl (if neg then !inD da ds else inD da ds)) H
theorem uG(d:D): ∀ds:List D,(D.pds ds).any (fun y=>iH y d.pd)=inD d ds
 | []=>rfl
 | y::ds=>by
  show(iH y.pd d.pd || (D.pds ds).any _)=(D.eqv y d || inD d ds)
  rw [uG d ds]
  rfl
theorem Cq(hu:X.A.units+65 < cLine):l7 X (cj .In) (JT X.K false):=by
 intro pins s σ H x y v u Q I rx ry ⟨M,da,ds,h1,h2,f1,f2,q⟩
 obtain⟨as,r1⟩:=k_ I 60 da x v f1 h1 rx
 obtain⟨c1,c2⟩:=jI 60 da f1
 rcases h2 with h2 | h2
 ·obtain⟨bs,r2⟩:=k_ I 60 (.lst ds) y u f2 h2 ry
  obtain⟨e1,e2⟩:=jI 60 (.lst ds) f2
  exact SeqAt.in_list_reads r2 r1 e1 c1 (by have:=Ff (c7 (D.pds ds)) da.pd.depth; omega) (by rw [uG]; exact⟨.bl _,H,I,rfl,q⟩)
 ·obtain⟨bs,r2⟩:=k_ I 60 (.tup ds) y u f2 h2 ry
  obtain⟨e1,e2⟩:=jI 60 (.tup ds) f2
  exact SeqAt.in_tuple_reads r2 r1 e1 c1 (by have:=Ff (c7 (D.pds ds)) da.pd.depth; omega) (by rw [uG]; exact⟨.bl _,H,I,rfl,q⟩)
theorem av.inL{da:D}(hu:X.A.units+65 < cLine)(ha:ky X ρ a da)(hb:ky X ρ b (.lst ds))(f1:D.flat 60 da)(f2: ∀d∈ds,D.flat 59 d)(hm:d_ .In b=false:=by with_unfolding_all rfl):av X ρ (.Compare a [.In] [b] pos) (.bl (inD da ds)):=
 av.cmp (Cq hu) ha hb hm fun M H x y Q dx dy k=>⟨M,da,ds,dx, .inl dy,f1,f2,k⟩
theorem cB.inL{da:D}(hu:X.A.units+65 < cLine)(ha:ky X ρ a da)(hb:ky X ρ b (.lst ds))(f1:D.flat 60 da)(f2: ∀d∈ds,D.flat 59 d)(hm:d_ .In b=false:=by with_unfolding_all rfl):cB X ρ (.Compare a [.In] [b] pos) (inD da ds):=
 cB.cmp (Cq hu) ha hb hm fun M H x y Q dx dy k=>⟨M,da,ds,dx, .inl dy,f1,f2,k⟩
def D.isNon:D->Bool
 | .non=>true
 | _=>false
theorem AW{K:Frag}{M:MP}{H:Hp}{d:D}{v:V}(h:nc K M H d v):decide (v= .non)=d.isNon:=by
 cases d with
 | non=>cases (show v= .non from h); rfl
 | bl b=>cases (show v= .bl b from h); rfl
 | int b=>cases (show v= .int b from h); rfl
 | str b=>cases (show v= .str b from h); rfl
 | tup ds=>obtain⟨a,_,rfl,_⟩:=h; rfl
 | lst ds=>obtain⟨a,_,rfl,_⟩:=h; rfl
 | ins _ _ _=>obtain⟨a,_,_,rfl,_⟩:=h; rfl
 | exc _=>obtain⟨a,rfl,_⟩:=h; rfl
 | dct _ _ _=>obtain⟨a,_,rfl,_⟩:=h; rfl
theorem cB.notN{da:D}{j p'}(ha:ky X ρ a da):cB X ρ (.Compare a [.IsNot] [.Constant .none j p'] pos) (!da.isNon):=
 cB.cmp DM ha av.non.r (xT _) fun M H x y Q dx dy k=>⟨dy,by rw [AW dx]; exact k⟩
def HI(K:Frag):R2:=fun x y H Q=> ∃l b xs zs,x= .ref l/\y= .ref b/\kR K H l xs/\kR K H b zs/\xs.length+zs.length<=sizeLine/\ ∀p,H p=none->Q (.ref p) (upd H p (.lst (xs ++ zs)))
theorem z7(l b:Addr)(xs ys:Array Value)(n m:Nat)(dd de:Option Addr)(sl tl:Array (Option Value))(h0:xs.size+ys.size<=sizeLine):
  Meets (cG.«list.__add__» ⟨[.ref l, .ref b], []⟩) (fun _ R s=>s.heap.get? l=some {cls:= .type "list",dict:=dd,data:= .seq xs n,slots:=sl}/\s.heap.get? b=some {cls:= .type "list",dict:=de,data:= .seq ys m,slots:=tl}/\
   R (.ok (.ret (ao s.heap.objs.size))) {s with heap:=s.heap.push {cls:=cu "list",data:=Av (xs ++ ys)},toks:=s.toks}):=
 .of_wp fun prog w A R s h=>by
  obtain⟨hp,g,d,tk,os⟩:=s
  obtain⟨hl,hb,h⟩:=h
  have f3:=ym
  wp_walk using bf hl,bf hb
  exact⟨_,rfl,h⟩
end
def Walk(K:Frag)(J:It)(ds:List D)(gs:List (D×V)):Prop:= ∀(M:MP) (H:Hp),(∀p∈gs,Dn K M H p.1 p.2)->
 (∀i d,ds[i]? =some d->J.go i H/\ ∀x H',J.Jf i H x H'->bI H H'/\Dn K M H' d x)/\J.stop ds.length H
def tI(X:Cx)(tg iter:Expr):TI:=fun σ H R=> ∀(pins:List (Addr×Obj)) (s:ah),Inv X pins σ H s->
 wpAny (model X.prog X.w) X.A (eval iter X.env) (fun v s1=>wpAny (model X.prog X.w) X.A (qV v) (Ji X pins σ tg R) X.xe s1) X.xe s
def iq(X:Cx)(ρ:eG)(tg iter:Expr)(ds:List D):Prop:= ∀(M0:MP) (H0:Hp) (γ:List (D×V)) (α:Nat->Addr) (σ:St) (H:Hp) (R:It->Hp->Prop),Rep X.K M0 H0 γ α ρ σ H->
 (∀J H1 gs,bI H H1->(∀p∈gs,Dn X.K (MM M0 ρ α) H1 p.1 p.2)->Walk X.K J ds gs->R J H1)->tI X tg iter σ H R
section
variable {X:Cx}{M0:MP}{H0:Hp}{ρ:eG}{P:nZ}{e a b c tg iter:Expr}{es:List Expr}{d:D}{ds:List D}{pos p:Pos}{σ:St}{H:Hp}
theorem KY:PI X tg iter (tI X tg iter):=fun pins s σ H R I h=>h pins s I
theorem _root_.L2.PI.to{t:TI}{R:It->Hp->Prop}(h:PI X tg iter t)(q:t σ H R):tI X tg iter σ H R:=fun pins s I=>h pins s σ H R I q
theorem iq.list(h:av X ρ e (.lst ds)):iq X ρ tg e ds:=fun M0 H0 γ α σ H R r k=>(ug f7).to (h M0 H0 γ α σ H _ r fun v H1 s x=>by
 obtain⟨q,xs,rfl,sq,dn⟩:=id x
 refine⟨q,rfl,⟨xs,sq.l⟩,k (JB X.K q) H1 [(.lst ds, .ref q)] s (fun p hp=>by rw [aE.mp hp]; exact x) fun M H2 hg=> ?_⟩
 obtain⟨q',xs',e1,sq',dn'⟩:=hg _ (aE.mpr rfl)
 cases e1
 refine⟨fun i d hi=>⟨?_,fun x H' hy=> ?_⟩,⟨xs',sq'.l,by rw [dn'.len]; exact aw _⟩⟩
 ·obtain⟨v,h1,h2⟩:=dn'.get hi
  exact⟨xs',v,sq'.l,h1⟩
 ·obtain⟨rfl,hy⟩:=hy
  obtain⟨d',h1,h2⟩:=dn'.getV (hy xs' sq'.l)
  rw [hi]at h1; cases h1
  exact⟨bI.refl _,h2⟩)
theorem iq.tup(h:av X ρ e (.tup ds)):iq X ρ tg e ds:=fun M0 H0 γ α σ H R r k=>(Hg f7).to (h M0 H0 γ α σ H _ r fun v H1 s x=>by
 obtain⟨q,xs,rfl,sq,dn⟩:=id x
 refine⟨q,rfl,⟨xs,sq⟩,k (JS X.K q) H1 [(.tup ds, .ref q)] s (fun p hp=>by rw [aE.mp hp]; exact x) fun M H2 hg=> ?_⟩
 obtain⟨q',xs',e1,sq',dn'⟩:=hg _ (aE.mpr rfl)
 cases e1
 refine⟨fun i d hi=>⟨?_,fun x H' hy=> ?_⟩,⟨xs',sq',by rw [dn'.len]; exact aw _⟩⟩
 ·obtain⟨v,h1,h2⟩:=dn'.get hi
  exact⟨xs',v,sq',h1⟩
 ·obtain⟨rfl,hy⟩:=hy
  obtain⟨d',h1,h2⟩:=dn'.getV (hy xs' sq')
  rw [hi]at h1; cases h1
  exact⟨bI.refl _,h2⟩)
def jn(lo:Int)(n:Nat):List D:=(cn n).map fun(i:Nat)=>D.int (lo+(i:Int))
theorem vD{K:Frag}(lo:Int)(n:Nat):Walk K (HX lo n) (jn lo n) []:=fun M H _=>by
 refine⟨fun i d hi=> ?_, ?_⟩
 ·unfold jn at hi
  rw [aD]at hi
  cases e:(cn n)[i]? with
  | none=>rw [e]at hi; cases hi
  | some j=>
   rw [e]at hi
   obtain⟨h1,h2⟩:=aA.mp e
   rw [cW]at h1
   rw [List.getElem_range]at h2
   subst h2
   cases hi
   exact⟨h1,fun x H' ⟨e1,e2⟩=>⟨by rw [e1]; exact bI.refl _,e2⟩⟩
 ·show n<=_
  unfold jn
  rw [ae,cW]
  exact aw _
theorem iq.range{j:Int}{p1 p2:Pos}(hg:Gl X "range")(hm:X.mg "range"=none)(hs:av X ρ e (.int j))(hj: -(2 ^ 62)<=j/\j < 2 ^ 62)(hss:aq [e] X.env= [(false,eval e X.env)]:=by rfl):
  iq X ρ tg (.Call (.Name "range" p1) [e] [] p2) (jn 0 j.toNat):=fun M0 H0 γ α σ H R r k=>(zt hg hm ud hss).to ((bz.cons hs bz.nil hss) M0 H0 γ α σ H _ r fun vs H1 s x=>by
 obtain⟨v,r,rfl,e1,e2⟩:=x
 cases e1; cases e2
 exact⟨j,rfl,hj.1,hj.2,k _ H1 [] s (fun _ hp=>nomatch hp) (vD 0 _)⟩)
theorem iq.range2{i j:Int}{p1 p2:Pos}(hg:Gl X "range")(hm:X.mg "range"=none)(ha:av X ρ a (.int i))(hs:av X ρ e (.int j))(hj: -(2 ^ 62)<=i/\i < 2 ^ 62/\ -(2 ^ 62)<=j/\j < 2 ^ 62)
  (hss:aq [a,e] X.env= [(false,eval a X.env),(false,eval e X.env)]:=by rfl)(hs2:aq [e] X.env= [(false,eval e X.env)]:=by rfl):
  iq X ρ tg (.Call (.Name "range" p1) [a,e] [] p2) (jn i (j - i).toNat):=fun M0 H0 γ α σ H R r k=>(zP hg hm ud hss hs2).to ((bz.cons ha (bz.cons hs bz.nil hs2) (by rw [hss,hs2])) M0 H0 γ α σ H _ r fun vs H1 s x=>by
 obtain⟨v,r,rfl,e1,v2,r2,rfl,e2,e3⟩:=x
 cases e1; cases e2; cases e3
 exact⟨i,j,rfl,hj,k _ H1 [] s (fun _ hp=>nomatch hp) (vD i _)⟩)
theorem Rep.ghosts{K:Frag}{γ:List (D×V)}{α:Nat->Addr}: ∀{gs:List (D×V)},Rep K M0 H0 γ α ρ σ H->(∀p∈gs,Dn K (MM M0 ρ α) H p.1 p.2)->Rep K M0 H0 (gs ++ γ) α ρ σ H:=fun{gs} r h=>
 ⟨r.same,r.old,r.inj,r.im,r.mu,fun p hp=>(bh.mp hp).elim (h p) (r.gh p),r.len⟩
theorem Rep.unghosts{K:Frag}{gs γ:List (D×V)}{α:Nat->Addr}(r:Rep K M0 H0 (gs ++ γ) α ρ σ H):Rep K M0 H0 γ α ρ σ H:=
 ⟨r.same,r.old,r.inj,r.im,r.mu,fun q hq=>r.gh q (bK _ hq),r.len⟩
theorem W1.for{body:List Stmt}(I:Nat->eG->Prop)(hp:mR (model X.prog X.w) X.A X.env X.xe)(hc:X.calm=true)(hs:iq X ρ tg e ds)(h0:I 0 ρ)
  (ht: ∀i d ρ,ds[i]? =some d->I i ρ-> ∃ρ',sJ X tg d ρ ρ'/\WS X M0 H0 body ρ' {P with N:=I (i+1),C:=I (i+1),B:=P.N})(hd: ∀ρ,I ds.length ρ->P.N ρ)
  (hf: ∀x,g_ e X.env x=pure x:=by intro _; rfl):W1 X M0 H0 (.For tg e body [] pos) ρ P:=fun γ α σ H R=>by
 refine(xr hp hc KY JR fg hf).to (hs M0 H0 γ α σ H _ R fun J H1 gs s hg w=> ?_)
 refine⟨fun i m σ H=>m=ds.length - i/\i<=ds.length/\ ∃α ρ,Rep X.K M0 H0 (gs ++ γ) α ρ σ H/\I i ρ,⟨ds.length,by simp,bO _,α,ρ,(R.next s).ghosts hg,h0⟩, ?_⟩
 rintro i m σ2 H2 ⟨rfl,hi,α2,ρ2,R2,i2⟩
 obtain⟨w1,w2⟩:=w (MM M0 ρ2 α2) H2 fun p hp=>R2.gh p (eT _ hp)
 by_cases hlt:i < ds.length
 ·obtain⟨g1,g2⟩:=w1 i ds[i] (ai hlt)
  refine .inr ⟨g1,fun σ' H'=> ∃α ρ,Rep X.K M0 H0 (gs ++ γ) α ρ σ' H'/\I (i+1) ρ,fun σ' H' ⟨α',ρ',R',i'⟩=>⟨ds.length - (i+1),by omega,rfl,hlt,α',ρ',R',i'⟩,fun y H' hy=> ?_⟩
  obtain⟨s2,dd⟩:=g2 y H' hy
  obtain⟨ρ3,g,wb⟩:=ht i _ ρ2 (ai hlt) i2
  exact g M0 H0 _ α2 σ2 _ y _ (R2.next s2) dd fun σ' R3=>C0 Rep.unghosts R3 wb
 ·have e:i=ds.length:=by omega
  subst e
  exact .inl ⟨w2,α2,ρ2,R2.unghosts,hd _ i2⟩
end
def mw(X:Cx)(N':List Str)(scope:Scope)(cl:List (Str×Addr))(C:Addr)(s₀:ah)(H₀:Hp)(fp:List Addr)(pins:List (Addr×Obj)):Cx:=
 {X with N:=N',s₀:=s₀,H₀:=H₀,env:=compEnvC scope cl C X.env,outer:=X.stack,stack:=X.stack,ex:=fp,fn:=fun _=>false,pn:=X.pn ++ pins,xe:=fun _ _=>False}
structure dW(X:Cx)(N':List Str)(js:List Nat)(scope:Scope)(x:Str)(cl:List (Str×Addr)):Prop where
 BC:uU scope X.env=pure cl
 cell: ∀y∈scope.names,y.2≠ .cell
 kind:scope.kind= .function
 names: ∀y∈scope.names,y.2= .local->scope.names.lookup y.1=some .local
 own:scope.names.lookup x=some .local
 hN: ∃r,N'=x::r/\r.length=js.length/\ ∀(i:Nat) (y:Str) (j:Nat),r[i]? =some y->js[i]? =some j->X.N[j]? =some y/\X.env.scope.names.lookup y=some .cell/\(oV scope X.env).names.lookup y=some .cell/\ ∀c,X.env.cells.lookup y=some c->cl.lookup y=some c
 sub: ∀y c,cl.lookup y=some c->X.env.cells.lookup y=some c
 has: ∀y,((oV scope X.env).names.lookup y=some .cell\/(oV scope X.env).names.lookup y=some .free)-> ∃c,cl.lookup y=some c
section
variable {X:Cx}{pins:List (Addr×Obj)}{σ:St}{H H':Hp}{s:ah}{N':List Str}{js:List Nat}{scope:Scope}{x:Str}{cl:List (Str×Addr)}{px pos:Pos}{elt iter:Expr}
theorem tU(I:Inv X pins σ H s){b:Addr}(h1:b≠X.env.locals)(h2:b∉X.fs):b∉wW X.stack:=fun z=>by
 rcases aN.mp (I.stkSub b z)with e | e
 ·exact h1 e
 ·exact h2 e
theorem dW.cx(ok:dW X N' js scope x cl)(I:Inv X pins σ H s){fp:List Addr}(hf: ∀b∈fp,kf X pins H b)(ho: ∀b∈fp,b < s.heap.objs.size):
  (mw X N' scope cl s.heap.objs.size s H fp pins).Ok where
 mod:=I.ok.mod
 kind:=ok.kind
 glob:=I.ok.glob
 blt:=I.ok.blt
 above:=aw _
 inj:=fun y z c h1 h2=>I.ok.inj y z c (ok.sub y c h1) (ok.sub z c h2)
 has:=fun y h=>ok.has y h
 Hu:=fun y c h _=>absurd (show false=true from h) az
 hd:=I.ok.hd
 frames:=I.ok.frames
 tQ:= .inl rfl
 JC:=fun b hb=>⟨aM (ho b hb),fun y c e=>(hf b hb).2.2.2.2.1 y c (ok.sub y c e)⟩
 bs:=I.bs
 Cs:=bg I.ok.Cs I.sz
 xw:=fun b o e hb=>by
  rcases(hf b hb).2.2.2.1 with z | z
  ·exact I.ok.xw b o e z
  ·exact absurd (aY (ay e) (bg I.ok.Cs z)) (e9 _)
 A8:=fun b hb=>tU I (hf b hb).2.1 (hf b hb).2.2.1
 nN:=I.stack
 FF:=I.stkFree
def IB(σ:St)(js:List Nat):St:=none::js.map fun j=>(σ[j]?).join
theorem dW.inv(ok:dW X N' js scope x cl)(I:Inv X pins σ H s){fp:List Addr}(hf: ∀b∈fp,kf X pins H b)(ho: ∀b∈fp,b < s.heap.objs.size){h₁:Heap}{tk:Nat}{m:Str->Option Value}
  (hn:h₁.Ns s.heap.objs.size m)(k: ∀b o,s.heap.get? b=some o->h₁.get? b=some o):Inv (mw X N' scope cl s.heap.objs.size s H fp pins) [] (IB σ js) H {s with heap:=h₁,toks:=tk}:=by
 obtain⟨r,rfl,hrl,hr⟩:=ok.hN
 refine⟨ok.cx I hf ho,rfl,I.bare,Un.kept k,⟨m,hn,fun i y v h1 h2 _=> ?_⟩,fun y c e=> ?_,I.dR.fresh (aw _),fun y c e=>I.kz y c (ok.sub y c e),fun p hp=> ?_,I.dR.kept k, ?_⟩
 ·cases i with
  | zero=>have h2':(none:Option V)=some v:=aK h2; cases h2'
  | succ i=>
   have h1':r[i]? =some y:=h1
   have h2':(js.map fun j=>(σ[j]?).join)[i]? =some (some v):=h2
   rw [aD]at h2'
   cases ej:js[i]? with
   | none=>rw [ej]at h2'; cases h2'
   | some j=>
    rw [ej]at h2'
    have h3:(σ[j]?).join=some v:=aK h2'
    have h4:σ[j]? =some (some v):=by
     cases e:σ[j]? with
     | none=>rw [e]at h3; cases h3
     | some w=>rw [e]at h3; exact congrArg some h3
    obtain⟨q1,q2,q3,q4⟩:=hr i y j h1' ej
    obtain⟨m0,_,hl⟩:=I.loc
    obtain⟨u,ru,lk⟩:=hl j y v q1 h4 (.inr (.inl q2))
    refine⟨u,ru, ?_⟩
    rcases lk with⟨z,_⟩ | ⟨_,c,e1,o,e2,e3⟩
    ·have z':X.env.scope.names.lookup y=some .local:=z
     rw [q2]at z'; cases z'
    ·exact .inr ⟨.inl q3,c,q4 c e1,o,k _ _ e2,e3⟩
 ·obtain⟨v,o,e1,e2⟩:=I.cell y c (ok.sub y c e)
  exact⟨v,o,k _ _ e1,e2⟩
 ·have hp':p∈X.pn ++ pins:=by
   have z:p∈(X.pn ++ pins) ++ []:=hp
   rwa [bj]at z
  obtain⟨e,n,ne,nf,d⟩:=I.pin p hp'
  exact⟨k _ _ e,n,aM (ay e),tU I ne nf,d⟩
 ·show(none::js.map fun j=>(σ[j]?).join).length=(x::r).length
  rw [aC,ae,aC,hrl]
theorem dW.out(ok:dW X N' js scope x cl)(I:Inv X pins σ H s){fp:List Addr}(hf: ∀b∈fp,kf X pins H b){σ':St}{s':ah}(J:Inv (mw X N' scope cl s.heap.objs.size s H fp pins) [] σ' H' s'):
  Inv X pins σ H' s'/\kf X pins H' s.heap.objs.size:=by
 have I':Inv X pins σ H' s':=I.call' (ch:=fp) J.os J.base J.dR J.bare fun b hb=>⟨(hf b hb).2.2.2.1,(hf b hb).2.1,(hf b hb).2.2.2.2.1,(hf b hb).2.2.2.2.2⟩
 exact⟨I',I.fpOk (aw _) J.free⟩
end
section
variable {prog:ar}{w:World}{A:bp}{R:Result->ah->Prop}{s:ah}
abbrev Fu:Value->ah->Prop:=fun _ _=>False
theorem z6{elt target iter:Expr}{scope:Scope}{pos:Pos}{it acc:Value}{env:Env}(I:Nat->ah->Prop)
  (turn: ∀n s,I n s->wpAny (model prog w) A (g9 it) (fun r s₁=>match r with
   | none=>R (.ok .next) s₁
   | some v=>wpAny (model prog w) A (rU target it v) (fun _ s₂=>wpAny (model prog w) A (n_ target env v) (fun _ s₃=>wpAny (model prog w) A (eval elt env) (fun y s₄=>
     wpAny (model prog w) A (call (.builtin "list.append") [acc,y]) (fun _ s₅=> ∃m,m < n/\I m s₅) Fu s₄) Fu s₃) Fu s₂) Fu s₁) Fu s)(n:Nat)(h:I n s):
  gG (model prog w) A (.compLoop (.ListComp elt [⟨target,iter, [],0⟩] scope pos) 0 it acc env) R s:=by
 refine codeAny_loop rfl I (fun n s hI=> ?_) n h
 show wpAny _ A ((compTurn (.ListComp elt [⟨target,iter, [],0⟩] scope pos) 0 it acc env).onRaise (fun x=>do noteFrame x env; theTreesLotGoes x)) _ _ s
 refine wpAny_noted ?_
 rw [compTurn_list]
 refine aa (wJ (aa (cF (turn n s hI) (fun r s₁ h₁=> ?_) fun _ _ z=>z.elim)))
 cases r with
 | none=>exact af h₁
 | some v=>
  refine aa (cF h₁ (fun _ s₂ h₂=> ?_) fun _ _ z=>z.elim)
  refine aa (cF h₂ (fun _ s₃ h₃=>aa (af ?_)) fun _ _ z=>z.elim)
  exact aa (aa (cF h₃ (fun y s₄ h₄=>aa (cF h₄ (fun _ s₅ h₅=>af (af ⟨rfl,h₅⟩)) fun _ _ z=>z.elim)) fun _ _ z=>z.elim))
end
structure Ja(K:Frag)(M:MP)(H1:Hp)(es:List D)(i:Nat)(D0:Addr)(ys:List V)(H:Hp):Prop where
 same:bI H1 H
 at_:H D0=some (.lst ys)
 dn:cw K (fun a=>M a\/a=D0) H (es.take i) ys
section
variable {X:Cx}{pins:List (Addr×Obj)}{σ:St}{H1:Hp}{s₂:ah}{N':List Str}{js:List Nat}{scope:Scope}{x:Str}{cl:List (Str×Addr)}{px pos:Pos}{elt iter:Expr}{J:It}{fp:List Addr}{it:Addr}{tn:Nat->Heap->Prop}
 {ds es cs:List D}{gs:List (D×V)}{M:MP}{E:Value->ah->Prop}{RR:Value->Addr->Result->ah->Prop}
def rL(d:D)(cs:List D):eG:= .im d::cs.map .im
def Fy(K:Frag)(M:MP)(H:Hp)(σ:St)(js:List Nat)(cs:List D):Prop:=js.length=cs.length/\ ∀(k j:Nat) (c:D),js[k]? =some j->cs[k]? =some c-> ∃v,σ[j]? =some (some v)/\Dn K M H c v
theorem qw(ok:dW X N' js scope x cl)(hc:X.calm=true)(hnd:N'.Nodup)(I:Inv X pins σ H1 s₂)(T:Turn X.prog X.w X.K (.Name x px) J fp it tn)(st:tn 0 s₂.heap)(hf: ∀b∈fp,kf X pins H1 b)
  (hg: ∀p∈gs,Dn X.K M H1 p.1 p.2)(w:Walk X.K J ds gs)(hl:es.length=ds.length)(hsz:ds.length<=1000000)(hcap:Fy X.K M H1 σ js cs)(hM: ∀a,M a->H1 a≠none)
  (helt: ∀(C:Addr) (s₀:ah) (H₀:Hp) (i:Nat) (d e:D),ds[i]? =some d->es[i]? =some e->av (mw X N' scope cl C s₀ H₀ fp pins) (rL d cs) elt e)
  (hRR: ∀(D0 C:Addr) (m:Str->Option Value) (s1:ah) (H:Hp) (ys:List V),Inv X pins σ H s1->s1.heap.Ns C m->kf X pins H C->H1 D0=none->bI H1 H->H D0=some (.lst ys)->cw X.K (fun a=>M a\/a=D0) H es ys->RR (.ref D0) C (.ok .next) s1):
  wpAny (model X.prog X.w) X.A (newList []) (fun acc s₃=>wpAny (model X.prog X.w) X.A (newFunctionEnv scope X.env.globals cl [] X.env.qual none .none (some X.env)) (fun cenv s₄=>
   gG (model X.prog X.w) X.A (.compStart (.ListComp elt [⟨.Name x px,iter, [],0⟩] scope pos) 0 (.ref it) acc {cenv with scope:=oV scope X.env}) (RR acc cenv.locals) s₄) E s₃) E s₂:=by
 refine ba (wpAny_newFunctionEnv ok.cell (by intro y hy; simp at hy) (fun h₁ hns₁ hsb₁=> ?_) ok.kind)
 dsimp only at hns₁ hsb₁ ⊢
 have hD:H1 s₂.heap.objs.size=none:=I.fresh
 have I3:Inv X pins σ (upd H1 s₂.heap.objs.size (.lst [])) {s₂ with heap:=s₂.heap.push {cls:= .type "list",data:= .seq ([]:List Value).toArray}}:=I.lnew (bL:= []) (t':=s₂.toks) (ys:= []) .nil (bO _)
 have obj2: ∀b∈fp, ∃o,s₂.heap.get? b=some o:=fun b hb=>let⟨o,e,_⟩:=T.obj _ _ st b hb; ⟨o,e⟩
 have lt2: ∀b∈fp,b < s₂.heap.objs.size:=fun b hb=>let⟨o,e⟩:=obj2 b hb; ay e
 have hf3: ∀b∈fp,kf X pins (upd H1 s₂.heap.objs.size (.lst [])) b:=fun b hb=>⟨by rw [bP (aM (lt2 b hb))]; exact(hf b hb).1,(hf b hb).2⟩
 generalize hH2:s₂.heap.push {cls:= .type "list",data:= .seq ([]:List Value).toArray}=H2 at I3 hns₁ hsb₁ ⊢
 have sz3:H2.objs.size=s₂.heap.objs.size+1:=by rw [<-hH2,cM]
 have lt3: ∀b∈fp,b < H2.objs.size:=fun b hb=>by rw [sz3]; exact cX (lt2 b hb)
 have k1: ∀b o,H2.get? b=some o->h₁.get? b=some o:=fun b o e=>hsb₁.extBut b o (aM (ay e)) (ag _ e)
 have k2: ∀b o,s₂.heap.get? b=some o->h₁.get? b=some o:=fun b o e=>k1 b o (by rw [<-hH2]; exact ag _ e)
 have I4:=ok.inv (tk:=s₂.toks+([]:List (Str×Value)).length) I3 hf3 lt3 hns₁ k1
 have st4:tn 0 h₁:=T.keep _ _ _ st fun b hb o e=>k2 b o e
 generalize hX:mw X N' scope cl H2.objs.size {s₂ with heap:=H2} (upd H1 s₂.heap.objs.size (.lst [])) fp pins=X' at I4
 have hfp: ∀(H:Hp),(∀b∈fp,H b=none)-> ∀b∈fp,kf X' [] H b:=fun H hn b hb=>by
  subst hX
  refine⟨hn b hb,aM (lt3 b hb),tU I3 (hf3 b hb).2.1 (hf3 b hb).2.2.1, .inl hb,fun y c e=>(hf3 b hb).2.2.2.2.1 y c (ok.sub y c e),fun p hp=> ?_⟩
  have z:p∈(X.pn ++ pins) ++ []:=hp
  rw [bj]at z
  exact(hf3 b hb).2.2.2.2.2 p z
 have out: ∀(H:Hp) (s1:ah) (σ':St),Inv X' [] σ' H s1->Inv X pins σ H s1/\kf X pins H H2.objs.size:=fun H s1 σ' J=>by
  subst hX
  exact ok.out I3 hf3 J
 have elt': ∀(i:Nat) (d e:D),ds[i]? =some d->es[i]? =some e->av X' (rL d cs) elt e:=fun i d e h1 h2=>by
  subst hX
  exact helt _ _ _ i d e h1 h2
 have env':X'.env=compEnvC scope cl H2.objs.size X.env:=by rw [<-hX]; rfl
 have N0:X'.N=N':=by rw [<-hX]; rfl
 have p1:X'.prog=X.prog:=by rw [<-hX]; rfl
 have p2:X'.w=X.w:=by rw [<-hX]; rfl
 have p3:X'.K=X.K:=by rw [<-hX]; rfl
 have p4:X'.calm=true:=by rw [<-hX]; exact hc
 have p5:X'.A=X.A:=by rw [<-hX]; rfl
 have p6:X'.xe=Fu:=by rw [<-hX]; rfl
 clear hX
 obtain⟨r0,er0,hrl,hr⟩:=ok.hN
 have hN0:X'.N[0]? =some x:=by rw [N0,er0]; rfl
 have hLoc:X'.env.scope.names.lookup x=some .local:=by rw [env']; exact lookup_relabel_local ok.own
 have hMD: ∀a,(M a\/a=s₂.heap.objs.size)-> ∀H,bI H1 H->(∃ys,H s₂.heap.objs.size=some (.lst ys))->H a≠none:=fun a ha H sm hD' z=>by
  rcases ha with ha | rfl
  ·exact hM a ha (sm.free z)
  ·obtain⟨ys,e⟩:=hD'
   rw [z]at e; cases e
 have loop: ∀s₃:ah,s₃={s₂ with heap:=h₁,toks:=s₂.toks+([]:List (Str×Value)).length}->
   gG (model X.prog X.w) X.A (.compLoop (.ListComp elt [⟨.Name x px,iter, [],0⟩] scope pos) 0 (.ref it) (.ref s₂.heap.objs.size) (compEnvC scope cl H2.objs.size X.env)) (RR (.ref s₂.heap.objs.size) H2.objs.size) s₃:=by
  intro s₃ es3
  refine z6 (fun n s'=> ∃(i:Nat) (ys:List V) (H:Hp) (σ':St),n=ds.length - i/\i<=ds.length/\Inv X' [] σ' H s'/\(∃ov,σ'=ov::(IB σ js).tail)/\tn i s'.heap/\(∀b∈fp,H b=none)/\Ja X.K M H1 es i s₂.heap.objs.size ys H) ?_ ds.length
   ⟨0, [],_,_,rfl,bO _,by rw [es3]; exact I4,⟨none,rfl⟩,by rw [es3]; exact st4,fun b hb=>(hf3 b hb).1,bB hD,bC,by rw [hJ]; exact rfl⟩
  rintro n s' ⟨i,ys,H,σ',rfl,hi,Iv,⟨ov,eσ⟩,sti,fri,ci⟩
  have gsH: ∀p∈gs,Dn X.K (fun a=>M a\/a=s₂.heap.objs.size) H p.1 p.2:=fun p hp=>((hg p hp).re fun a m=>m.elim .inl fun z=> .inr (by rw [z]; exact hD)).same ci.same
  obtain⟨w1,w2⟩:=w _ H gsH
  have item:=T.item X' p1 p2 p3 p4 i [] s' σ' H Fu Iv (hfp H fri) sti
  have done:=T.done X' p1 p2 p3 p4 i [] s' σ' H Fu Iv (hfp H fri) sti
  rw [p5]at item done
  by_cases hlt:i < ds.length
  ·obtain⟨g1,g2⟩:=w1 i ds[i] (ai hlt)
   refine eQ (item g1) fun r s4 ⟨u,hr',h4⟩=> ?_
   subst hr'
   refine eQ h4 fun _ s5 ⟨y,H5,I5,r5,y5,st5,fr5⟩=> ?_
   obtain⟨sm5,d5⟩:=g2 y H5 y5
   have I5':=I5.pinned (hfp H5 fr5) (T.obj _ _ st5)
   have asg:=pC (X:=X') (pos:=px) (i:=0) (by rw [N0]; exact hnd) hN0 (.inl hLoc) (.inr hLoc) _ s5 σ' H5 y u (fun σ6 H6=>σ6=σ'.set 0 (some y)/\H6=H5) I5' r5 ⟨rfl,rfl⟩
   rw [p1,p2,p5,p6,env']at asg
   refine eQ asg fun _ s6 ⟨σ6,H6,I6,e6,e6'⟩=> ?_
   subst e6 e6'
   have ei:es[i]? =some (es[i]'(by rw [hl]; exact hlt)):=ai _
   have ev:=elt' i _ _ (ai hlt) ei
   have sm15:bI H1 H6:=ci.same.trans sm5
   have hD5:H6 s₂.heap.objs.size=some (.lst ys):=sm5 _ _ ci.at_
   have Rp:Rep X'.K (fun a=>M a\/a=s₂.heap.objs.size) H6 [] (fun _=>0) (rL ds[i] cs) (σ'.set 0 (some y)) H6:=by
    refine⟨bI.refl _,fun a ha=>hMD a ha H6 sm15 ⟨ys,hD5⟩,fun k l fs gs' e1=> ?_,fun k d0 e1=> ?_,fun k fs e1=> ?_,(fun p hp=>by cases hp), ?_⟩
    ·exfalso
     unfold rL at e1
     cases k with
     | zero=>cases aK e1
     | succ k=>
      rw [fu,aD]at e1
      cases z:cs[k]? with
      | none=>rw [z]at e1; cases e1
      | some c=>rw [z]at e1; cases aK e1
    ·have mmM: ∀a,MM (fun a=>M a\/a=s₂.heap.objs.size) (rL ds[i] cs) (fun _=>0) a->(M a\/a=s₂.heap.objs.size):=fun a ha=>by
      rcases ha with ha | ⟨k',fs,e2,_⟩
      ·exact ha
      ·exfalso
       unfold rL at e2
       cases k' with
       | zero=>cases aK e2
       | succ k'=>
        rw [fu,aD]at e2
        cases z:cs[k']? with
        | none=>rw [z]at e2; cases e2
        | some c=>rw [z]at e2; cases aK e2
     subst eσ
     unfold rL at e1
     cases k with
     | zero=>
      have z:Sl.im ds[i]=Sl.im d0:=aK e1
      cases z
      refine⟨y,rfl, ?_⟩
      rw [p3]
      exact d5.less mmM
     | succ k=>
      rw [fu,aD]at e1
      cases z:cs[k]? with
      | none=>rw [z]at e1; cases e1
      | some c=>
       rw [z]at e1
       have z':Sl.im c=Sl.im d0:=aK e1
       have hk:k < js.length:=by rw [hcap.1]; exact(aA.mp z).1
       obtain⟨v,hv,dv⟩:=hcap.2 k js[k] c (ai hk) z
       cases z'
       refine⟨v, ?_, ?_⟩
       ·show(js.map fun j=>(σ[j]?).join)[k]? =some (some v)
        rw [aD,ai hk]
        show some (σ[js[k]]?).join=_
        rw [hv]
        rfl
       ·rw [p3]
        exact(((dv.re fun a m=>m.elim .inl fun q=> .inr (by rw [q]; exact hD)).same sm15)).less mmM
    ·exfalso
     unfold rL at e1
     cases k with
     | zero=>cases aK e1
     | succ k=>
      rw [fu,aD]at e1
      cases z:cs[k]? with
      | none=>rw [z]at e1; cases e1
      | some c=>rw [z]at e1; cases aK e1
    ·subst eσ
     rw [bo]
     show(js.map fun j=>(σ[j]?).join).length+1=(cs.map Sl.im).length+1
     rw [ae,ae,hcap.1]
   have evw:=ev _ H6 [] (fun _=>0) _ H6 (fun v H'=>bI H6 H'/\Dn X.K (fun a=>M a\/a=s₂.heap.objs.size) H' (es[i]'(by rw [hl]; exact hlt)) v) Rp (fun v H' sm dn=>⟨sm,by
    rw [p3]at dn
    exact dn.less fun a ha=> .inl ha⟩) _ s6 I6
   rw [p1,p2,p5,p6,env']at evw
   refine eQ evw fun yv s7 ⟨v,H7,I7,r7,sm7,dn7⟩=> ?_
   have ap:=nO (X:=X') _ s7 _ H7 (.ref s₂.heap.objs.size) [v] (.ref s₂.heap.objs.size) [yv] (fun _ H8=>H8=upd H7 s₂.heap.objs.size (.lst (ys ++ [v]))) I7 rfl (.cons r7 .nil)
    ⟨_,ys,v,rfl,rfl,sm7 _ _ hD5,by rw [ci.dn.len,aT]; exact jy (bg (Nat.min_le_left _ _) (by omega)) (by decide:(1000000:Nat) < sizeLine),rfl⟩
   rw [p1,p2,p5,p6]at ap
   refine eQ ap fun _ s8 ⟨_,H8,I8,_,e8⟩=> ?_
   subst e8
   refine⟨ds.length - (i+1),by omega,i+1,ys ++ [v],_,_,rfl,hlt,I8.unpinned,⟨some y,by rw [eσ]; rfl⟩,
    T.keep _ _ _ st5 fun b hb o e=>(I8.pin (b,o) (bK _ (bK _ (j_ hb e)))).1,fun b hb=> ?_, ?_⟩
   ·obtain⟨o,e,_⟩:=T.obj _ _ st5 b hb
    exact(I8.pin (b,o) (bK _ (bK _ (j_ hb e)))).2.1
   ·refine⟨gi (sm15.trans sm7) hD,bC, ?_⟩
    have kp:mT (fun a=>M a\/a=s₂.heap.objs.size) H7 (upd H7 s₂.heap.objs.size (.lst (ys ++ [v]))):=fun b o e n=>by
     by_cases hb:b=s₂.heap.objs.size
     ·subst hb
      rw [sm7 _ _ hD5]at e; cases e
      exact absurd (.inr rfl) (n _ rfl)
     ·rw [bP hb]; exact e
    rw [dG,ei]
    exact(cw.app (ci.dn.same (sm5.trans sm7)) (cw.one dn7)).keep kp
  ·have e:i=ds.length:=by omega
   subst e
   refine eQ (done w2) fun r s4 ⟨hr',I5⟩=> ?_
   subst hr'
   obtain⟨o1,o2⟩:=out H s4 σ' I5
   obtain⟨m,hn,_⟩:=I5.loc
   rw [env']at hn
   refine hRR _ _ m s4 H ys o1 hn o2 hD ci.same ci.at_ ?_
   have:=ci.dn
   rw [<-hl,dq]at this
   exact this
 exact codeAny_compStart_list (loop _ rfl) (T.self X.A 0 _ _ _ st4 (loop _ rfl))
def xn(ρ:eG)(js:List Nat)(cs:List D):Prop:=js.length=cs.length/\ ∀(k j:Nat) (c:D),js[k]? =some j->cs[k]? =some c->ρ[j]? =some (.im c)
theorem xn.ok{K:Frag}{M0:MP}{H0 H H':Hp}{γ:List (D×V)}{α:Nat->Addr}{ρ:eG}{σ:St}(h:xn ρ js cs)(R:Rep K M0 H0 γ α ρ σ H)(s:bI H H'):Fy K (MM M0 ρ α) H' σ js cs:=
 ⟨h.1,fun k j c e1 e2=>let⟨v,q1,q2⟩:=R.im j c (h.2 k j c e1 e2); ⟨v,q1,q2.same s⟩⟩
theorem jE{K:Frag}{M0:MP}{H0 H H':Hp}{γ:List (D×V)}{α:Nat->Addr}{ρ:eG}{σ:St}(R:Rep K M0 H0 γ α ρ σ H)(s:bI H H'): ∀a,MM M0 ρ α a->H' a≠none:=fun a ha z=>by
 have z':=s.free z
 rcases ha with ha | ⟨i,ds,e,rfl⟩
 ·exact R.old a ha (R.same.free z')
 ·obtain⟨_,_,xs,e3,_⟩:=R.mu i ds e
  rw [z']at e3; cases e3
theorem ff.comp{ρ:eG}(ok:dW X N' js scope x cl)(hc:X.calm=true)(hnd:N'.Nodup)(hs:iq X ρ (.Name x px) iter ds)(hcs:xn ρ js cs)(hl:es.length=ds.length)(hsz:ds.length<=1000000)
  (helt: ∀(C:Addr) (s₀:ah) (H₀:Hp) (fp:List Addr) (pins:List (Addr×Obj)) (i:Nat) (d e:D),ds[i]? =some d->es[i]? =some e->av (mw X N' scope cl C s₀ H₀ fp pins) (rL d cs) elt e)
  (hfi: ∀v,g_ iter X.env v=pure v:=by intro _; rfl):ff X ρ (.ListComp elt [⟨.Name x px,iter, [],0⟩] scope pos) es:=fun M0 H0 γ α σ H Q R k pins s I=>by
 rw [eval_ListComp]
 refine wpAny_comprehension_free (use:=none) rfl hfi ok.BC ok.kind ok.names ?_
 have h:=hs M0 H0 γ α σ H (fun J H1=> ∃gs,bI H H1/\(∀p∈gs,Dn X.K (MM M0 ρ α) H1 p.1 p.2)/\Walk X.K J ds gs) R (fun J H1 gs s g w=>⟨gs,s,g,w⟩) pins s I
 refine eQ h fun v s1 h1=>eQ h1 fun itv s2 ⟨it,fp,tn,J,H1,e,I2,T,st,f,gs,sm,hg,w⟩=> ?_
 subst e
 refine qw ok hc hnd I2 T st f hg w hl hsz (hcs.ok R sm) (jE R sm) (fun C s₀ H₀ i d e=>helt C s₀ H₀ fp pins i d e) fun D0 C m s1 H2 ys I1 hn fo hD sm1 ha dn=> ?_
 exact⟨m,hn,fun h' sb=>⟨.ref D0,H2,I1.turned (t':=s1.toks) (fun b o hb e=>sb.extBut b o hb e) fo.1 fo.2.1 fo.2.2.2.1 fo.2.2.2.2.1 fo.2.2.2.2.2,rfl,k D0 ys H1 H2 sm hD sm1 ha dn⟩⟩
theorem W1.comp{ρ:eG}{M0:MP}{H0:Hp}{P:nZ}{i:Nat}{y:Str}{py spos:Pos}(ok:dW X N' js scope x cl)(hc:X.calm=true)(hnd:N'.Nodup)(hs:iq X ρ (.Name x px) iter ds)(hcs:xn ρ js cs)(hl:es.length=ds.length)(hsz:ds.length<=1000000)
  (helt: ∀(C:Addr) (s₀:ah) (H₀:Hp) (fp:List Addr) (pins:List (Addr×Obj)) (i:Nat) (d e:D),ds[i]? =some d->es[i]? =some e->av (mw X N' scope cl C s₀ H₀ fp pins) (rL d cs) elt e)
  (hN:X.N.Nodup)(hi:X.N[i]? =some y)(hy:X.env.scope.names.lookup y=some .local)(hlt:i < ρ.length)(q:P.N (ρ.set i (.mu es)))
  (hsw:cg (.ListComp elt [⟨.Name x px,iter, [],0⟩] scope pos) (some (.Name y py)) spos.line X.env=pure true:=by rfl)(hfi: ∀v,g_ iter X.env v=pure v:=by intro _; rfl):
  W1 X M0 H0 (.Assign [.Name y py] (.ListComp elt [⟨.Name x px,iter, [],0⟩] scope pos) spos) ρ P:=fun γ α σ H R pins s I=>by
 rw [exec_Assign_Name_used _ _ _ _ hsw]
 refine aa (wJ (aa ?_))
 show wpAny _ X.A (do let _<-comprehension (.ListComp elt [⟨.Name x px,iter, [],0⟩] scope pos) scope X.env _ (newList []) false (eval iter X.env) (some (n_ (.Name y py) X.env))) _ _ s
 refine aa (cF (wpAny_comprehension_free (use:=some (n_ (.Name y py) X.env)) (Q:=fun _ s'=>SP X pins (ends X.K M0 H0 γ P) .next s') rfl hfi ok.BC ok.kind ok.names ?_) (fun _ s' hq=>af (af hq)) fun _ _ e=>e)
 have h:=hs M0 H0 γ α σ H (fun J H1=> ∃gs,bI H H1/\(∀p∈gs,Dn X.K (MM M0 ρ α) H1 p.1 p.2)/\Walk X.K J ds gs) R (fun J H1 gs s g w=>⟨gs,s,g,w⟩) pins s I
 refine eQ h fun v s1 h1=>eQ h1 fun itv s2 ⟨it,fp,tn,J,H1,e,I2,T,st,f,gs,sm,hg,w⟩=> ?_
 subst e
 refine qw ok hc hnd I2 T st f hg w hl hsz (hcs.ok R sm) (jE R sm) (fun C s₀ H₀ i d e=>helt C s₀ H₀ fp pins i d e) fun D0 C m s1 H2 ys I1 hn fo hD sm1 ha dn=> ?_
 show wpAny _ _ (n_ (.Name y py) X.env (.ref D0)) _ _ s1
 refine wpAny_assign_Name (sO (v:= .ref D0) I1 hN hi (.inl hy) rfl (fun s' I' ⟨a,sb,ea⟩=> ?_) (.inr hy))
 have hCa:C≠a:=by
  rcases ea with rfl | ea
  ·exact fo.2.1
  ·exact fun z=>fo.2.2.2.2.1 y a ea z.symm
 refine⟨m,hn.at' fun o e=>sb.extBut C o hCa e,fun h' sb'=>⟨_,H2,I'.turned (t':=s'.toks) (fun b o hb e=>sb'.extBut b o hb e) fo.1 fo.2.1 fo.2.2.2.1 fo.2.2.2.2.1 fo.2.2.2.2.2, ?_⟩⟩
 exact⟨_,_,(R.next sm).set_mu hlt hD sm1 ha dn,q⟩
end
def lj(K:Frag){ι:Type}(args:ι->List D)(pre:ι->Prop)(res:ι->Except Addr D):Sp:=fun vs H Q E=>
 ∃(i:ι) (M0:MP),(∀a,M0 a->H a≠none)/\cw K M0 H (args i) vs/\pre i/\(∀d,res i= .ok d-> ∀v H',bI H H'->Dn K M0 H' d v->Q v H')/\(∀C,res i= .error C-> ∀a H',bI H H'->E (.ref C) a H')
structure jQ(P:ar)(w:World)(K:Frag)(mg:Str->Option Value)(base:Heap)(CX:fJ)(k:Nat)(x:Str){ι:Type}(args:ι->List D)(pre:ι->Prop)(res:ι->Except Addr D):Prop where
 ex: ∃(f:Addr) (fd:aV) (ps:List Str),kC P w K mg base CX k f fd ps (lj K args pre res)/\mg x=some (.ref f)/\ft K (.ref f)=true/\Binds K fd ps []
def D.noL:Nat->D->Prop
 | _, .non=>True
 | _, .bl _=>True
 | _, .int _=>True
 | _, .str _=>True
 | n+1, .tup ds=> ∀d∈ds,D.noL n d
 | _,_=>False
theorem Dn.noL{K:Frag}{M M':MP}{H:Hp}: ∀(n:Nat) {d:D} {v:V},D.noL n d->Dn K M H d v->Dn K M' H d v:=by
 intro n
 induction n with
 | zero=>intro d v hf h; cases d <;> first | exact h | exact hf.elim
 | succ n ih=>
  intro d v hf h
  cases d with
  | tup ds=>
   obtain⟨a,xs,e,s,r⟩:=h
   refine⟨a,xs,e,s, ?_⟩
   clear s e
   induction ds generalizing xs with
   | nil=>exact r
   | cons d ds hi=>
    obtain⟨v,t,e,h1,h2⟩:=r
    exact⟨v,t,e,ih (hf d (.head _)) h1,hi (fun x hx=>hf x (.tail _ hx)) t h2⟩
  | non=>exact h
  | bl _=>exact h
  | int _=>exact h
  | str _=>exact h
  | _=>exact hf.elim
section
variable {X:Cx}{ρ:eG}{e:Expr}{es:List Expr}{d:D}{pos p:Pos}{CX:fJ}{k:Nat}{x:Str}{ι:Type}{args:ι->List D}{pre:ι->Prop}{res:ι->Except Addr D}
theorem av.call(F:jQ X.prog X.w X.K X.mg X.base CX k x args pre res)(hr:eL k X.A)(hx:Passes CX X E0)(hg:Gl X x)(i:ι)(ha:bz X ρ (e::es) (args i))(hp:pre i)(hres:res i= .ok d)(hdb:(x==("__debug__":Str))=false:=by decide)
  (he:aq (e::es) X.env=(false,eval e X.env)::aq es X.env:=by rfl)(hpl:(c9 pos (aq es X.env)).any (·.1)=false:=by rfl):av X ρ (.Call (.Name x p) (e::es) [] pos) d:=fun M0 H0 γ α σ H Q R kk=>by
 obtain⟨f,fd,ps,F,hm,hk,hb⟩:=F.ex
 refine(pB F hr hg hm hk hb .nil hx ud hdb he hpl).to (ha M0 H0 γ α σ H _ R fun vs H1 s1 d1=> ?_)
 show lj X.K args pre res (vs ++ []) H1 Q E0
 rw [bj]
 exact⟨i,MM M0 ρ α,jE R s1,d1,hp,fun d' e v H2 s2 dn=>by rw [hres]at e; cases e; exact kk v H2 (s1.trans s2) dn,fun C e=>by rw [hres]at e; cases e⟩
theorem vO.noM{K:Frag}{M:MP}{H:Hp}: ∀{ds:List D} {vs:List V},vO K M H ds vs->cw K Hi H ds vs
 | [],_,h=>h
 | d::ds,_,⟨v,r,e,h1,h2⟩=>⟨v,r,e,by
   cases d with
   | lst es=>
    obtain⟨a,xs,e1,s,q⟩:=h1
    refine⟨a,xs,e1, ?_,q.less fun _ z=>z.elim⟩
    rcases s with s | s
    ·exact .inl ⟨s,fun z=>z⟩
    ·exact .inr s
   | _=>exact Dn.noM (M:=M) h1,vO.noM h2⟩
theorem av.callR(F:jQ X.prog X.w X.K X.mg X.base CX k x args pre res)(hr:eL k X.A)(hx:Passes CX X E0)(hg:Gl X x)(i:ι)(ha:q_ X ρ (e::es) (args i))(hp:pre i)(hres:res i= .ok d)(hd:D.noL 9 d)(hdb:(x==("__debug__":Str))=false:=by decide)
  (he:aq (e::es) X.env=(false,eval e X.env)::aq es X.env:=by rfl)(hpl:(c9 pos (aq es X.env)).any (·.1)=false:=by rfl):av X ρ (.Call (.Name x p) (e::es) [] pos) d:=fun M0 H0 γ α σ H Q R kk=>by
 obtain⟨f,fd,ps,F,hm,hk,hb⟩:=F.ex
 refine(pB F hr hg hm hk hb .nil hx ud hdb he hpl).to (ha M0 H0 γ α σ H _ R fun vs H1 s1 d1=> ?_)
 show lj X.K args pre res (vs ++ []) H1 Q E0
 rw [bj]
 exact⟨i,Hi,fun a z=>z.elim,d1.noM,hp,fun d' e v H2 s2 dn=>by rw [hres]at e; cases e; exact kk v H2 (s1.trans s2) (Dn.noL 9 hd dn),fun C e=>by rw [hres]at e; cases e⟩
end
section
variable {X:Cx}{ρ:eG}{e:Expr}{ds:List D}{pos p:Pos}
theorem av.lenL(hg:Gl X "len")(hm:X.mg "len"=none)(h:ky X ρ e (.lst ds))(he:aq [e] X.env= [(false,eval e X.env)]:=by rfl):av X ρ (.Call (.Name "len" p) [e] [] pos) (.int ds.length):=av.len hg hm h rfl he
theorem av.lenT(hg:Gl X "len")(hm:X.mg "len"=none)(h:av X ρ e (.tup ds))(he:aq [e] X.env= [(false,eval e X.env)]:=by rfl):av X ρ (.Call (.Name "len" p) [e] [] pos) (.int ds.length):=av.len hg hm h.r rfl he
theorem ff.listL(hg:Gl X "list")(hm:X.mg "list"=none)(h:ky X ρ e (.lst ds))(he:aq [e] X.env= [(false,eval e X.env)]:=by rfl):ff X ρ (.Call (.Name "list" p) [e] [] pos) ds:=ff.list hg hm (by decide +kernel) h rfl he
theorem ff.listT(hg:Gl X "list")(hm:X.mg "list"=none)(h:av X ρ e (.tup ds))(he:aq [e] X.env= [(false,eval e X.env)]:=by rfl):ff X ρ (.Call (.Name "list" p) [e] [] pos) ds:=ff.list hg hm (by decide +kernel) h.r rfl he
theorem av.tupleL(hg:Gl X "tuple")(hm:X.mg "tuple"=none)(h:ky X ρ e (.lst ds))(he:aq [e] X.env= [(false,eval e X.env)]:=by rfl):av X ρ (.Call (.Name "tuple" p) [e] [] pos) (.tup ds):=av.tuple hg hm (by decide +kernel) h rfl he
end
theorem s_{α β:Type}(g:α->β)(xs:List α)(k:Int):sh (xs.map g) k=(sh xs k).map g:=by
 unfold sh
 rw [ae]
 cases AU xs.length k with
 | none=>rfl
 | some j=>show(xs.map g)[j]? =(xs[j]?).map g; rw [aD]
theorem qg{α:Type}{xs:List α}{k:Int}{j:Nat}(hk:k=(j:Int))(h:j < xs.length):sh xs k=some xs[j]:=by
 subst hk; exact yA (ai h)
def ql(N:List Str)(ds:List D):eG:=ds.map .im ++ eC (N.length - ds.length) .un
section
variable {P:ar}{w:World}{K:Frag}{mg:Str->Option Value}{base:Heap}{CX:fJ}{k:Nat}{x qual:Str}{st:Stmt}{f:Addr}{fd:aV}{N ps:List Str}{ι:Type}{args:ι->List D}{pre:ι->Prop}{res:ι->Except Addr D}
theorem rep0{ds:List D}{vs:List V}{M0:MP}{H:Hp}{α:Nat->Addr}(hM: ∀a,M0 a->H a≠none)(h:cw K M0 H ds vs):Rep K M0 H [] α (ql N ds) (L2.start N vs) H:=by
 have hl:=h.len
 have get: ∀(i:Nat) (s:Sl),(ql N ds)[i]? =some s->(∃d,ds[i]? =some d/\s= .im d)\/s= .un:=fun i s e=>by
  unfold ql at e
  by_cases hi:i < ds.length
  ·rw [eO (by simpa using hi),aD,ai hi]at e
   exact .inl ⟨_,ai hi,(aK e).symm⟩
  ·rw [eD (by simpa using hi),wZ]at e
   split at e
   ·exact .inr (aK e).symm
   ·cases e
 refine⟨bI.refl _,hM,fun i j es fs e1=> ?_,fun i d e=> ?_,fun i es e=> ?_,(fun p hp=>by cases hp), ?_⟩
 ·rcases get i _ e1 with⟨_,_,z⟩ | z <;> cases z
 ·rcases get i _ e with⟨d',e1,z⟩ | z
  ·cases z
   obtain⟨v,q1,q2⟩:=h.get e1
   have hi:i < vs.length:=(aA.mp q1).1
   refine⟨v, ?_,q2.less fun a z=> ?_⟩
   ·unfold L2.start
    rw [eO (by simpa using hi),aD,q1]
    rfl
   ·rcases z with z | ⟨j,es,e2,_⟩
    ·exact z
    ·rcases get j _ e2 with⟨_,_,z⟩ | z <;> cases z
  ·cases z
 ·rcases get i _ e with⟨_,_,z⟩ | z <;> cases z
 ·unfold L2.start ql
  simp only [ak,ae,iB,hl]
theorem eN(F:iY K x qual st f fd)(S:bN N ps (aJ st))(hm:mg x=some (.ref f))(hb:Binds K fd ps [])(hl: ∀i,(args i).length=ps.length)
  (body: ∀(cdv:Value) (A:bp) (outer:List Env) (s:ah) (H:Hp) (E:XK) (i:ι) (M0:MP),pre i->eL k (A.deeper (ki qual (aJ st) s.heap.objs.size f cdv))->
   ∃d,res i= .ok d/\WS (kW CX P w K mg base N qual (aJ st) f cdv A outer s H E).nox M0 H (bx st) (ql N (args i)) {N:=fun _=>d= .non,R:=fun d'=>d'=d}):jQ P w K mg base CX (k+1) x args pre res:=by
 refine⟨f,fd,ps, ?_,hm,F.kp,hb⟩
 obtain⟨oc,od,kV,doc,pm,an,cdv,ct,osl,rfl,lk,hcd⟩:=F.ex
 refine vx lk hcd S (fun vs H Q E ⟨i,M0,_,h,_⟩=>by rw [h.len,hl]) fun A outer s H vs Q E hr hsp=> ?_
 obtain⟨i,M0,hM,h,hp,k1,k2⟩:=hsp
 obtain⟨d,hd,ws⟩:=body cdv A outer s H E i M0 hp hr
 refine⟨kB _ (bx st),(fg (X:=(kW CX P w K mg base N qual (aJ st) f cdv A outer s H E).nox)).nox, ?_⟩
 refine kB.mono (En:=ends K M0 H [] {N:=fun _=>d= .non,R:=fun d'=>d'=d}) (fun σ' H' ⟨α,ρ,R,e⟩=> ?_) (fun v H' ⟨d',e,sm,dn⟩=> ?_) (fun _ _ ⟨_,_,_,z⟩=>z.elim) (fun _ _ ⟨_,_,_,z⟩=>z.elim) (ws [] (fun _=>0) _ H (rep0 hM h))
 ·exact k1 d hd .non H' R.same (by rw [e]; exact rfl)
 ·subst e
  exact k1 _ hd v H' sm dn
end
def Fz:D->String
 | .non=>"NoneType"
 | .bl _=>"bool"
 | .int _=>"int"
 | .str _=>"str"
 | .tup _=>"tuple"
 | .lst _=>"list"
 | .ins _ _ _=>""
 | .exc _=>""
 | .dct _ _ _=>""
def mx:D->Bool
 | .ins _ _ _=>false
 | .exc _=>false
 | .dct _ _ _=>false
 | _=>true
def oM(T:String)(d:D):Bool:=Fz d==T || (T=="int"&&Fz d=="bool")
section
variable {K:Frag}
theorem Hj{d:D}{T:String}(hp:mx d=true)(hT:T="int"\/T="bool"\/T="str"\/T="tuple"\/T="list"):PySem.W.kitOne K (.type (Fz d)) (.type T)=some (oM T d):=by
 rcases hT with rfl | rfl | rfl | rfl | rfl <;> cases d <;> first | rfl | (cases hp)
end
section
variable {X:Cx}{ρ:eG}{M0:MP}{H0:Hp}{P:nZ}{e a b:Expr}{es:List Expr}{d:D}{ds:List D}{pos p p2:Pos}
theorem Gq{pins:List (Addr×Obj)}{σ:St}{H:Hp}{s:ah}{M:MP}{v:V}{u c:Value}{r:Bool}{Q:Value->ah->Prop}{E:Value->ah->Prop}{A:bp}(I:Inv X pins σ H s)(h:nc X.K M H d v)(rv:RelV v u)(hp:mx d=true)
  (e:PySem.W.kitOne X.K (.type (Fz d)) c=some r)(k: ∀tk,Q (.bool r) {s with toks:=tk}):wpAny (model X.prog X.w) A (call (.builtin "isinstance") [u,c]) Q E s:=by
 cases d with
 | non=>cases (show v= .non from h); cases (show u=a_ from rv); exact i5 PySem.W.kitx_none I.kIn ck e (fun z=>nomatch z) k
 | bl y=>cases (show v= .bl y from h); cases (show u=dJ y from rv); exact i5 PySem.W.kitx_bool I.kIn ck e (fun z=>nomatch z) k
 | int i=>cases (show v= .int i from h); obtain⟨t,q⟩:=(show ∃t,u=fH i t from rv); cases q; exact i5 PySem.W.kitx_int I.kIn ck e (fun z=>nomatch z) k
 | str y=>cases (show v= .str y from h); obtain⟨t,q⟩:=(show ∃t,u=wY y t from rv); cases q; exact i5 PySem.W.kitx_str I.kIn ck e (fun z=>nomatch z) k
 | tup ds=>
  obtain⟨a,xs,rfl,sq,_⟩:=h
  cases (show u=ao a from rv)
  obtain⟨bL,_,⟨o,h1,h2,_⟩,_⟩:=I.tuple sq
  exact i5 PySem.W.kitx_tuple I.kIn ⟨o,h1,h2⟩ e (fun z=>nomatch z) k
 | lst ds=>
  obtain⟨a,xs,rfl,sq,_⟩:=h
  cases (show u=ao a from rv)
  obtain⟨bL,_,⟨o,n,h1,h2,_⟩,_⟩:=I.list sq
  exact i5 PySem.W.kitx_list I.kIn ⟨o,h1,h2⟩ e (fun z=>nomatch z) k
 | _=>cases hp
theorem EX{pins:List (Addr×Obj)}{σ:St}{H:Hp}{s:ah}{M:MP}{v:V}{u:Value}{tp:Addr}{dd:Option Addr}{bL:List Value}{n:Nat}{sl:Array (Option Value)}{r:Bool}{Q:Value->ah->Prop}{E:Value->ah->Prop}{A:bp}(I:Inv X pins σ H s)(h:nc X.K M H d v)(rv:RelV v u)(hp:mx d=true)
  (ht:s.heap.get? tp=some ⟨.type "tuple",dd, .seq bL.toArray n,sl⟩)(e:PySem.W.kitAny X.K (.type (Fz d)) bL=some r)(k: ∀tk,Q (.bool r) {s with toks:=tk}):wpAny (model X.prog X.w) A (call (.builtin "isinstance") [u, .ref tp]) Q E s:=by
 cases d with
 | non=>cases (show v= .non from h); cases (show u=a_ from rv); exact i6 PySem.W.kitx_none I.kIn ck ht e (fun z=>nomatch z) k
 | bl y=>cases (show v= .bl y from h); cases (show u=dJ y from rv); exact i6 PySem.W.kitx_bool I.kIn ck ht e (fun z=>nomatch z) k
 | int i=>cases (show v= .int i from h); obtain⟨t,q⟩:=(show ∃t,u=fH i t from rv); cases q; exact i6 PySem.W.kitx_int I.kIn ck ht e (fun z=>nomatch z) k
 | str y=>cases (show v= .str y from h); obtain⟨t,q⟩:=(show ∃t,u=wY y t from rv); cases q; exact i6 PySem.W.kitx_str I.kIn ck ht e (fun z=>nomatch z) k
 | tup ds=>
  obtain⟨a,xs,rfl,sq,_⟩:=h
  cases (show u=ao a from rv)
  obtain⟨bL,_,⟨o,h1,h2,_⟩,_⟩:=I.tuple sq
  exact i6 PySem.W.kitx_tuple I.kIn ⟨o,h1,h2⟩ ht e (fun z=>nomatch z) k
 | lst ds=>
  obtain⟨a,xs,rfl,sq,_⟩:=h
  cases (show u=ao a from rv)
  obtain⟨bL,_,⟨o,n,h1,h2,_⟩,_⟩:=I.list sq
  exact i6 PySem.W.kitx_list I.kIn ⟨o,h1,h2⟩ ht e (fun z=>nomatch z) k
 | _=>cases hp
def Jn(K:Frag):List V->Hp->VK->Prop:=fun xs H Q=> ∃v T M d,xs= [v, .ty T]/\nc K M H d v/\mx d=true/\(T="int"\/T="bool"\/T="str"\/T="tuple"\/T="list")/\Q (.bl (oM T d)) H
theorem Ct:gf X (.builtin "isinstance") (Jn X.K):=by
 intro pins s σ H xs us Q I r ⟨v,T,M,d,e,h,hp,hT,q⟩
 subst e
 obtain⟨u,c,rfl,r1,r2⟩:=vals2 r
 cases (show c=cu T from r2)
 exact Gq I h r1 hp (Hj hp hT) fun tk=>⟨.bl _,H,I.tok tk,rfl,q⟩
theorem av.nP{T:String}{x:Str}(hg:Gl X "isinstance")(hm:X.mg "isinstance"=none)(hgT:Gl X x)(hmT:X.mg x=none)(hv:cU x=some (.type T))(hT:T="int"\/T="bool"\/T="str"\/T="tuple"\/T="list")(h:ky X ρ e d)(hp:mx d=true)
  (he:aq [e, .Name x p2] X.env=(false,eval e X.env)::aq [.Name x p2] X.env:=by rfl)(he2:aq [.Name x p2] X.env= [(false,eval (.Name x p2) X.env)]:=by rfl)(hpl:(c9 pos (aq [.Name x p2] X.env)).any (·.1)=false:=by rfl)
  (hn:x≠"__name__":=by decide)(hd:(x==("__debug__":Str))=false:=by decide):av X ρ (.Call (.Name "isinstance" p) [e, .Name x p2] [] pos) (.bl (oM T d)):=fun M0 H0 γ α σ H Q R k=>
 (gL Ct hg hm boot_isinstance (eJ f7 (eJ (uu (v:= .ty T) hgT hmT hv rfl hn hd) gP he2) he) (by decide) (by decide) he hpl).to (h M0 H0 γ α σ H _ R fun v H1 s1 d1=>⟨v,T,_,d,rfl,d1,hp,hT,k _ H1 s1 rfl⟩)
def dN(ns:List Int):Nat:=(firstMet (fun i=>ns.getD i 0) ns.length).length
theorem zE(hc:X.calm=true):gf X (.type "set") (fun xs H Q=> ∃q ns,xs= [.ref q]/\kR X.K H q (ns.map V.int)/\ns.length < 4000/\ ∀l S,H l=none->Q (.ref l) (upd H l (.set S (dN ns)))):=by
 intro pins s σ H xs us Q I r ⟨q,ns,e,hq,hl,k⟩
 subst e
 obtain⟨u,rfl,rx⟩:=vals1 r
 cases rx
 obtain⟨bL,r',pl,hz⟩:=I.list hq
 have hlen:=r'.length
 rw [ae]at hlen
 have e:bL.toArray.size=ns.length:=by rw [ax]; exact hlen.symm
 refine PySem.call_set_list (I.ok.hd hc) pl.isList (intsAre_of r') (by rw [e]; unfold scanBound; omega) fun h' tk hS hk=> ?_
 rw [e]at hS
 exact⟨.ref s.heap.objs.size,_,I.laid (t':=tk) (fun b o e=>hk b o (ay e) e) (aw _) (o:= .set _ (dN ns)) hS,rfl,k _ _ I.fresh⟩
theorem vb:gf X (.builtin "len") (fun xs H Q=> ∃q S n,xs= [.ref q]/\H q=some (.set S n)/\Q (.int n) H):=by
 intro pins s σ H xs us Q I r ⟨q,S,n,e,hq,k⟩
 subst e
 obtain⟨u,rfl,rx⟩:=vals1 r
 cases rx
 obtain⟨o,es,ep,t,h1,h2,h3,_,_,h6,h7,h8⟩:=(show s.heap.SetOf (fh X.prog X.w) q S n from I.dR q _ hq)
 refine call_len_set h1 h2 h3 h7 (by unfold scanBound at h6; omega) ⟨.int n,H,I.tok _,⟨_,by rw [h8]⟩,k⟩
theorem av.lenSet{ns:List Int}{p3:Pos}(hc:X.calm=true)(hg:Gl X "len")(hm:X.mg "len"=none)(hg2:Gl X "set")(hm2:X.mg "set"=none)(h:ky X ρ e (.lst (ns.map .int)))(hl:ns.length < 4000)
  (he:aq [e] X.env= [(false,eval e X.env)]:=by rfl)(he2:aq [.Call (.Name "set" p2) [e] [] p3] X.env= [(false,eval (.Call (.Name "set" p2) [e] [] p3) X.env)]:=by rfl):av X ρ (.Call (.Name "len" p) [.Call (.Name "set" p2) [e] [] p3] [] pos) (.int (dN ns)):=fun M0 H0 γ α σ H Q R k=>
 (gL vb hg hm PySem.boot_len (eJ (lH (zE hc) hg2 hm2 (by decide +kernel) (eJ f7 gP he) (by decide) (by decide) he) gP he2) (by decide) (by decide) he2).to (h M0 H0 γ α σ H _ R fun v H1 s1 d1=>by
  obtain⟨q,xs,rfl,sq,dn⟩:=d1
  rw [dn.ints]at sq
  exact⟨q,ns,rfl,sq,hl,fun l S hl'=>⟨l,S,_,rfl,bC,k _ _ (s1.trans (bB hl')) rfl⟩⟩)
theorem HB(ns:List Int):dN ns<=ns.length:=firstMet_length_le _ _
theorem zA(l:List Int): ∀σ:List Int,σ.Nodup->(∀x∈l,x∈σ->False)->l.Nodup->(l.foldl iI σ).length=σ.length+l.length:=by
 induction l with
 | nil=>intro σ _ _ _; rfl
 | cons a l ih=>
  intro σ h1 h2 h3
  rw [dM]at h3
  have na:a∉σ:=fun z=>h2 a (.head _) z
  rw [FQ]
  have e:iI σ a=σ ++ [a]:=by
   unfold iI
   rw [if_neg]
   simpa using na
  rw [e,ih]
  ·simp only [ak,aC,bQ]; omega
  ·rw [hV]
   exact⟨h1,by simp,fun x hx y hy z=>by rw [aE.mp hy]at z; exact na (z▸hx)⟩
  ·intro x hx hm
   rcases bh.mp hm with hm | hm
   ·exact h2 x (.tail _ hx) hm
   ·rw [aE.mp hm]at hx; exact h3.1 hx
  ·exact h3.2
theorem A3(l:List Int): ∀σ:List Int, ¬(σ ++ l).Nodup->σ.Nodup->(l.foldl iI σ).length < σ.length+l.length:=by
 induction l with
 | nil=>intro σ h1 h2; rw [bj]at h1; exact absurd h2 h1
 | cons a l ih=>
  intro σ h1 h2
  rw [FQ]
  by_cases ha:a∈σ
  ·have e:iI σ a=σ:=by
    unfold iI
    rw [if_pos]
    simpa using ha
   rw [e]
   have:=length_foldl_step_dedup_le l σ
   rw [aC]; omega
  ·have e:iI σ a=σ ++ [a]:=by
    unfold iI
    rw [if_neg]
    simpa using ha
   rw [e]
   have:=ih (σ ++ [a]) (by rw [aI]; exact h1) (by
    rw [hV]
    exact⟨h2,by simp,fun x hx y hy z=>by rw [aE.mp hy]at z; exact ha (z▸hx)⟩)
   rw [ak,fL]at this
   rw [aC]; omega
theorem range_getD(ns:List Int):(cn ns.length).map (fun i=>ns.getD i 0)=ns:=by
 apply fM
 intro i
 rw [aD]
 by_cases h:i < ns.length
 ·rw [AH h,ai h]
  show some (ns.getD i 0)=_
  rw [aF,ai h]
  rfl
 ·rw [br (by rw [cW]; omega),br (by omega)]
  rfl
theorem BJ(ns:List Int):dN ns=ns.length↔ns.Nodup:=by
 have e:dN ns=(ns.foldl iI []).length:=by unfold dN firstMet; rw [range_getD]
 rw [e]
 by_cases h:ns.Nodup
 ·exact⟨fun _=>h,fun _=>by rw [zA ns [] mK (fun _ _ z=>by cases z) h]; simp⟩
 ·refine⟨fun z=> ?_,fun z=>absurd z h⟩
  have:=A3 ns [] (by simpa using h) mK
  simp only [bQ,yn]at this
  omega
theorem DT:l7 X (iQ .Add) (HI X.K):=by
 intro pins s σ H x y v u Q I rx ry h
 obtain⟨l,b,xs,zs,rfl,rfl,hH,hB,hz,q⟩:=h
 cases rx
 cases ry
 obtain⟨bL,r,⟨⟨oc,od,odt,osl⟩,n,e1,ec,ed,edt⟩,_⟩:=I.list hH
 obtain⟨its2,r2,⟨⟨oc2,od2,odt2,osl2⟩,n2,e2,ec2,ed2,edt2⟩,_⟩:=I.list hB
 have hl:=r.length
 have hl2:=r2.length
 simp only at ec ed edt ec2 ed2 edt2
 subst ec ed edt ec2 ed2 edt2
 refine yj ⟨_,e1,rfl⟩ ⟨_,e2,rfl⟩ noFill_list_add seq_list_add F.slot_list_add F.entry_list_add (F.args_list_add_2 _ _) (z7 l b bL.toArray its2.toArray n n2 none none osl osl2 (by rw [ax,ax]; omega)) ⟨e1,e2, ?_⟩
 have ea:bL.toArray ++ its2.toArray=(bL ++ its2).toArray:=by simp
 rw [ea]
 exact⟨.ref _,_,I.lnew (t':=s.toks) (r.append r2) (by rw [ak]; omega),rfl,q _ I.fresh⟩
theorem ff.cat{fs:List D}(ha:ky X ρ a (.lst ds))(hb:ky X ρ b (.lst fs))(hl:ds.length+fs.length<=1000000):ff X ρ (.BinOp a .Add b pos) (ds ++ fs):=fun M0 H0 γ α σ H Q R k=>
 (C9 DT f7 f7).to (ha M0 H0 γ α σ H _ R fun v H1 s1 d1=>hb M0 H0 γ α σ H1 _ (R.next s1) fun u H2 s2 d2=>by
  obtain⟨q,xs,rfl,sq,dn⟩:=d1.same s2
  obtain⟨q2,xs2,rfl,sq2,dn2⟩:=d2
  exact⟨q,q2,xs,xs2,rfl,rfl,sq,sq2,by rw [dn.len,dn2.len]; exact ji hl,fun l hl'=>k l _ H2 _ (s1.trans s2) hl' (bB hl') bC ((mY hl' (cw.app dn dn2)).same (bB hl'))⟩)
theorem W1.popAt{i j:Nat}{x y:Str}{k:Int}{n:Nat}{p1 p3 p4:Pos}(hN:X.N.Nodup)(hi:X.N[i]? =some x)(hv:tN X.env.scope x)(hρ:ρ[i]? =some (.mu ds))(hj:X.N[j]? =some y)(hy:Loc X.env.scope y)(hlt:j < ρ.length)(hij:j≠i)(h:av X ρ e (.int k))
  (hk:k=(n:Int))(hn:ds[n]? =some d)(hn2:n < 1000000)(q:P.N ((ρ.set i (.mu (ds.eraseIdx n))).set j (.im d)))
  (mc:Hr X (.Name x p1) "pop" e p2 p3)(hd:(x==("__debug__":Str))=false:=by decide)(hcd:(x==("__classdict__":Str))=false:=by decide)
  (hs:cg (.Call (.Attribute (.Name x p1) "pop" p2) [e] [] p3) (some (.Name y p4)) pos.line X.env=pure false:=by rfl)(hf:X.fn y=true\/X.env.scope.names.lookup y=some .local:=by first | exact .inl rfl | exact .inr rfl | assumption):
  W1 X M0 H0 (.Assign [.Name y p4] (.Call (.Attribute (.Name x p1) "pop" p2) [e] [] p3) pos) ρ P:=fun γ α σ H R=>by
 obtain⟨m1,m2,m3,m4⟩:=mc
 obtain⟨a1,a2,xs,a3,a4⟩:=R.mu i ds hρ
 refine(kU hN hj hy (A6 gV PySem.F.slot_list_pop PySem.F.type_list_pop BB (iZ hi hv hd hcd) ud m1 m2 m3 m4 rfl) hs hf).to ?_
 refine⟨_,a2, .inl ⟨rfl,_,kR.of a3⟩,(bz.cons h bz.nil m4) M0 H0 γ α σ H _ R fun vs H1 s y1=> ?_⟩
 obtain⟨v,r,rfl,e1,e2⟩:=y1
 cases e2
 cases (show v= .int k from e1)
 subst hk
 obtain⟨u,hu,du⟩:=(a4.same s).get hn
 have hlen:=a4.len
 have hnl:n < xs.length:=(aA.mp hu).1
 have R1:=(R.next s).upd_mu hρ ((a4.same s).erase n)
 refine⟨α i,xs,(n:Int),n,u,rfl,rfl,s _ _ a3,by omega,by omega,(pb (by unfold AU; rw [if_pos (by omega),if_pos (by omega)]; simp)).1,hu,α,_,R1.set_im (by rw [bo]; exact hlt) ?_,q⟩
 have kp:mT (MM M0 ρ α) H1 (upd H1 (α i) (.lst (xs.eraseIdx n))):=fun b o e n'=>by
  by_cases hb:b=α i
  ·subst hb
   rw [s _ _ a3]at e; cases e
   exact absurd (.inr ⟨i,ds,hρ,rfl⟩) (n' _ rfl)
  ·rw [bP hb]; exact e
 refine(du.keep kp).less fun a z=> ?_
 rcases z with z | ⟨l,es,e,z⟩
 ·exact .inl z
 ·rcases get_set e with⟨rfl,_⟩ | ⟨_,q⟩
  ·exact .inr ⟨l,ds,hρ,z⟩
  ·exact .inr ⟨l,es,q,z⟩
theorem W1.setIx{i n:Nat}{x:Str}{k:Int}{p1 p3:Pos}(hi:X.N[i]? =some x)(hv:tN X.env.scope x)(hρ:ρ[i]? =some (.mu ds))(h:av X ρ e d)(hb:av X ρ b (.int k))(hk:k=(n:Int))(hn:n < ds.length)(q:P.N (ρ.set i (.mu (ds.set n d))))
  (hd:(x==("__debug__":Str))=false:=by decide)(hcd:(x==("__classdict__":Str))=false:=by decide)
  (hs:swapsWithSole [.Subscript (.Name x p1) b p3] e pos.line X.env=pure false:=by rfl)(hw:swappedStores [.Subscript (.Name x p1) b p3] e X.env=pure none:=by rfl)
  (h1:(assignEach [.Subscript (.Name x p1) b p3] X.env).map (·.2)= [n_ (.Subscript (.Name x p1) b p3) X.env]:=by rfl)
  (ha: ∀v,n_ (.Subscript (.Name x p1) b p3) X.env v=(do
   let ov<-jc [v] (eval (.Name x p1) X.env)
   let iv<-jc [v,ov] (eval b X.env)
   standAt p3
   jc [v,ov,iv] (setItem ov iv v)
   release [v,ov,iv] []):=by intro _; rfl):
  W1 X M0 H0 (.Assign [.Subscript (.Name x p1) b p3] e pos) ρ P:=fun γ α σ H R=>by
 obtain⟨a1,a2,xs,a3,a4⟩:=R.mu i ds hρ
 refine(GN f7 (FY (iZ hi hv hd hcd) f7 set_list ha) hs hw h1).to (h M0 H0 γ α σ H _ R fun v H1 s1 d1=>⟨_,a2,hb M0 H0 γ α σ H1 _ (R.next s1) fun u H2 s2 d2=> ?_⟩)
 cases (show u= .int k from d2)
 subst hk
 have hl:=a4.len
 refine⟨α i,xs,(n:Int),n,rfl,rfl,s2 _ _ (s1 _ _ a3),by unfold AU; rw [if_pos (by omega),if_pos (by omega)]; simp,α,_,((R.next s1).next s2).upd_mu hρ ?_,q⟩
 exact cw.set (d1.same s2) n ((a4.same s1).same s2)
theorem W1.extend{i:Nat}{x:Str}{p1 p3:Pos}{fs:List D}(hi:X.N[i]? =some x)(hv:tN X.env.scope x)(hρ:ρ[i]? =some (.mu ds))(h:av X ρ e d)(hq:sD d fs)(hl:ds.length+fs.length<=1000000)(q:P.N (ρ.set i (.mu (ds ++ fs))))
  (mc:Hr X (.Name x p1) "extend" e p2 p3)(hd:(x==("__debug__":Str))=false:=by decide)(hcd:(x==("__classdict__":Str))=false:=by decide)(hsw:cg (.Call (.Attribute (.Name x p1) "extend" p2) [e] [] p3) none pos.line X.env=pure false:=by rfl):
  W1 X M0 H0 (.Expr (.Call (.Attribute (.Name x p1) "extend" p2) [e] [] p3) pos) ρ P:=
 W1.mt1 gV PySem.F.slot_list_extend PySem.F.type_list_extend EG hi hv hρ h (fun M H l xs v Q a b c k=>by
  obtain⟨q1,ys,rfl,sq,dn⟩:=uH hq c.t
  exact⟨l,q1,xs,ys,rfl,rfl,a,sq,by rw [b.len,dn.len]; exact ji hl,k _ _ (cw.app b dn)⟩) q mc hd hcd hsw
end
def vo(t:Bool)(ds:List D):D:=if t then .tup ds else .lst ds
section
variable {X:Cx}{ρ:eG}{e a b tg:Expr}{d:D}{ds:List D}{pos p:Pos}{t:Bool}
theorem Bu(t:Bool)(ds:List D):sD (vo t ds) ds:=by cases t <;> rfl
theorem av.lenS(hg:Gl X "len")(hm:X.mg "len"=none)(h:av X ρ e (vo t ds))(he:aq [e] X.env= [(false,eval e X.env)]:=by rfl):av X ρ (.Call (.Name "len" p) [e] [] pos) (.int ds.length):=av.len hg hm h.r (Bu t ds) he
theorem ff.listS(hg:Gl X "list")(hm:X.mg "list"=none)(h:av X ρ e (vo t ds))(he:aq [e] X.env= [(false,eval e X.env)]:=by rfl):ff X ρ (.Call (.Name "list" p) [e] [] pos) ds:=ff.list hg hm (by decide +kernel) h.r (Bu t ds) he
theorem av.tupleS(hg:Gl X "tuple")(hm:X.mg "tuple"=none)(h:av X ρ e (vo t ds))(he:aq [e] X.env= [(false,eval e X.env)]:=by rfl):av X ρ (.Call (.Name "tuple" p) [e] [] pos) (.tup ds):=av.tuple hg hm (by decide +kernel) h.r (Bu t ds) he
theorem av.ixS{k:Int}(ha:av X ρ a (vo t ds))(hb:av X ρ b (.int k))(hk:sh ds k=some d)(hs:mX b:=by intro _ _; rfl):av X ρ (.Subscript a b pos) d:=by
 cases t with
 | true=>exact av.ixT ha hb hk hs
 | false=>exact av.ixL ha.r hb hk hs
theorem iq.seq(h:av X ρ e (vo t ds)):iq X ρ tg e ds:=by
 cases t with
 | true=>exact iq.tup h
 | false=>exact iq.list h
end
theorem tY{scope:Scope}{env:Env}(h: ∀y∈scope.names,y.2≠ .free):(oV scope env).names=scope.names:=by
 unfold oV
 dsimp only
 have: ∀l:List (Str×iR),(∀y∈l,y.2≠ .free)->(l.map fun(n,k)=>if(k==wL&&env.scope.kind== .function&&env.kindOf n==some .cell)then(n,NameKind.cell)else(n,k))=l:=by
  intro l
  induction l with
  | nil=>intro _; rfl
  | cons y l ih=>
   intro hl
   obtain⟨n,k⟩:=y
   rw [aW,ih fun z hz=>hl z (.tail _ hz)]
   have hk:(k==wL)=false:=by
    have:=hl (n,k) (.head _)
    cases k <;> first | rfl | exact absurd rfl this
   simp [hk]
 exact this _ h
theorem dW.closed{X:Cx}{scope:Scope}{x:Str}(hf: ∀y∈scope.names,y.2≠ .free)(hc: ∀y∈scope.names,y.2≠ .cell)(hk:scope.kind= .function)(hn: ∀y∈scope.names,y.2= .local->scope.names.lookup y.1=some .local)(ho:scope.names.lookup x=some .local):
  dW X [x] [] scope x [] where
 BC:=closureFor_none hf
 cell:=hc
 kind:=hk
 names:=hn
 own:=ho
 hN:=⟨[],rfl,rfl,fun i y j h=>by simp at h⟩
 sub:=fun y c h=>by simp at h
 has:=fun y h=>by
  rw [tY hf]at h
  rcases h with h | h
  ·exact absurd rfl (hc _ (cq h))
  ·exact absurd rfl (hf _ (cq h))
theorem nX{ρ:eG}:xn ρ [] []:=⟨rfl,fun k j c h=>by simp at h⟩
theorem iq.to{X:Cx}{ρ:eG}{tg e:Expr}{ds ds':List D}(h:iq X ρ tg e ds)(q:ds=ds'):iq X ρ tg e ds':=q▸h
section
variable {X:Cx}{ρ:eG}{x:Str}{d:D}{ds:List D}{pos:Pos}
theorem fQ{i:Nat}{ρ:eG}(h:Nat.ble (i+1) ρ.length=true):i < ρ.length:=zh h
theorem nm(i:Nat)(hN:X.N[i]? =some x)(hρ:ρ[i]? =some (.im d))(hv:tN X.env.scope x:=by first | exact Or.inl rfl | exact Or.inr (Or.inl rfl) | exact Or.inr (Or.inr rfl))(hd:(x==("__debug__":Str))=false:=by decide)(hcd:(x==("__classdict__":Str))=false:=by decide):av X ρ (.Name x pos) d:=av.name i hN hv hρ hd hcd
theorem vw(i:Nat)(hN:X.N[i]? =some x)(hρ:ρ[i]? =some (.mu ds))(hv:tN X.env.scope x:=by first | exact Or.inl rfl | exact Or.inr (Or.inl rfl) | exact Or.inr (Or.inr rfl))(hd:(x==("__debug__":Str))=false:=by decide)(hcd:(x==("__classdict__":Str))=false:=by decide):ky X ρ (.Name x pos) (.lst ds):=ky.name i hN hv hρ hd hcd
theorem fx{lo:Int}{n i:Nat}{d:D}(h:(jn lo n)[i]? =some d):d= .int (lo+(i:Int))/\i < n:=by
 unfold jn at h
 rw [aD]at h
 cases e:(cn n)[i]? with
 | none=>rw [e]at h; cases h
 | some j=>
  rw [e]at h
  obtain⟨h1,h2⟩:=aA.mp e
  rw [cW]at h1
  rw [List.getElem_range]at h2
  subst h2
  exact⟨(aK h).symm,h1⟩
theorem e7{lo:Int}{n:Nat}:(jn lo n).length=n:=by unfold jn; rw [ae,cW]
end
end Z
namespace K
open PySem L2 Z
abbrev St:=L2.St
def top(i:Nat):Stmt:=PySem.Challenge.pw_cranefloor_k05_whole_heights.main.body.getD i (.Pass ⟨0,0,0,0⟩)
abbrev AQ:Stmt:=top 36
abbrev xo:Stmt:=top 38
abbrev Bc:Stmt:=top 39
abbrev lQ:Stmt:=top 40
abbrev pj:Stmt:=top 16
abbrev ke:Stmt:=top 17
abbrev qC:Stmt:=top 18
abbrev xU:Stmt:=top 19
abbrev xB:Stmt:=top 20
abbrev ua:Stmt:=top 21
abbrev nz:Stmt:=top 27
abbrev Ey:Stmt:=top 26
abbrev uK:Stmt:=top 28
abbrev ur:Stmt:=top 25
abbrev ny:Stmt:=top 24
abbrev pS:Stmt:=top 23
abbrev ye:Stmt:=top 37
abbrev uz:Stmt:=top 43
abbrev o9:Stmt:=top 44
abbrev tK:Stmt:=top 46
abbrev lO:Stmt:=top 33
abbrev k8:Stmt:=top 32
abbrev pJ:Stmt:=top 34
abbrev i3:Stmt:=top 31
abbrev pk:Stmt:=top 41
abbrev lK:Stmt:=top 42
abbrev tX:Stmt:=top 45
structure Bn(mg:Str->Option Value):Prop where
 len:mg "len"=none
 range:mg "range"=none
 list:mg "list"=none
 tuple:mg "tuple"=none
 set:mg "set"=none
def NX(CX:fJ):Prop:= ∀l H s e s',CX l H s E0 e s'->False
theorem bw{CX:fJ}{X:Cx}(h:NX CX):Passes CX X E0:=fun _ _ H s e s' _ z=>(h _ H s e s' z).elim
def cellAt(ns:List Int)(k:Nat):Int:=ns.getD k 0
def pD(p:Int×Int):D:= .tup [.int p.1, .int p.2]
structure c8 where
 st:Int
 ht:Int
 lf:Int
 fA:List (Int×Int)
def c8.d(f:c8):D:= .tup [.int f.st, .int f.ht, .int f.lf, .lst (f.fA.map pD)]
def fD(ns:List Int)(first most:Nat):Nat->List (Int×Int)
 | 0=> []
 | k+1=>
  let p:=cellAt ns (first+1+k)
  if p % most=p / most % most then fD ns first most k else fD ns first most k ++ [(p % most,p / most % most)]
def pY(ns:List Int)(first most:Nat):c8:=
 let c:=cellAt ns first
 ⟨2+c % 3,1+c / 3 % 6,1+c / 18 % 3,fD ns first most (c / 72 % 5).toNat⟩
theorem kZ(ns:List Int)(first most:Nat): ∀k,(fD ns first most k).length<=k
 | 0=>aw _
 | k+1=>by
  have:=kZ ns first most k
  unfold fD
  dsimp only
  split
  ·omega
  ·rw [ak,fL]; omega
section
variable {P:ar}{w:World}{K:Frag}{mg:Str->Option Value}{base:Heap}{CX:fJ}
theorem Gu:bN ["script","k"] ["script","k"] (aJ AQ):=⟨rfl,rfl,rfl,by decide +kernel,rfl,by decide +kernel,by decide +kernel⟩
abbrev wu(P:ar)(w:World)(K:Frag)(mg:Str->Option Value)(base:Heap)(CX:fJ):Prop:=
 jQ P w K mg base CX 1 "_law_cell_at" (fun i:List Int×Nat=> [.lst (i.1.map .int), .int i.2]) (fun _=>True) (fun i=> .ok (.int (cellAt i.1 i.2)))
theorem EZ{f:Addr}{fd:aV}(B:Bn mg)(F:iY K "_law_cell_at" "_law_cell_at" AQ f fd)(hm:mg "_law_cell_at"=some (.ref f))(hb:Binds K fd ["script","k"] []):wu P w K mg base CX:=by
 refine eN F Gu hm hb (fun i=>rfl) fun cdv A outer s H E i M0 hp hr=>⟨_,rfl, ?_⟩
 obtain⟨ns,k⟩:=i
 refine WS.cons (W1.ite (cB.cI .lt (av.name 1 rfl (.inl rfl) rfl) (av.lenL rfl B.len (av.name 0 rfl (.inl rfl) rfl).r)) (fun h=> ?_) fun h=> ?_)
 ·have h':(k:Int) < ns.length:=by simpa using of_decide_eq_true h
  have hk:k < ns.length:=by omega
  refine WS.one (W1.ret (av.ixL (av.name 0 rfl (.inl rfl) rfl).r (av.name 1 rfl (.inl rfl) rfl) (d:= .int (cellAt ns k)) ?_) rfl)
  rw [s_,qg rfl hk]
  show some (D.int ns[k])=some (D.int (ns.getD k 0))
  rw [aF,ai hk]
  rfl
 ·refine WS.nil (WS.one (W1.ret av.int ?_))
  have h': ¬(k:Int) < ns.length:=by simpa using of_decide_eq_false h
  show D.int 0=D.int (ns.getD k 0)
  rw [aF,br (by omega)]
  rfl
theorem yB:bN ["script","first","most","cell","bans","k","pair","one","other"] ["script","first","most"] (aJ xo):=⟨rfl,rfl,rfl,by decide +kernel,rfl,by decide +kernel,by decide +kernel⟩
abbrev xP(P:ar)(w:World)(K:Frag)(mg:Str->Option Value)(base:Heap)(CX:fJ):Prop:=
 jQ P w K mg base CX 2 "_law_floor" (fun i:List Int×Nat×Nat=> [.lst (i.1.map .int), .int i.2.1, .int i.2.2]) (fun i=>0 < i.2.2/\i.2.2 < 1000) (fun i=> .ok (pY i.1 i.2.1 i.2.2).d)
theorem Cd{f:Addr}{fd:aV}(nx:NX CX)(B:Bn mg)(G1:wu P w K mg base CX)(F:iY K "_law_floor" "_law_floor" xo f fd)(hm:mg "_law_floor"=some (.ref f))(hb:Binds K fd ["script","first","most"] []):xP P w K mg base CX:=by
 refine eN F yB hm hb (fun i=>rfl) fun cdv A outer s H E i M0 hp hr=>⟨_,rfl, ?_⟩
 obtain⟨ns,first,most⟩:=i
 obtain⟨hp1,hp2⟩:0 < most/\most < 1000:=hp
 have px:=yB.nd
 refine WS.cons (W1.set (i:=3) px rfl (.inl rfl) (fQ rfl) (av.call G1 hr (bw nx) rfl (ns,first) (bz.cons (nm 0 rfl rfl) (bz.cons (nm 1 rfl rfl) bz.nil)) trivial rfl) ?_)
 refine WS.cons (W1.setF (i:=4) px rfl (.inl rfl) (fQ rfl) (ff.lst bz.nil) ?_)
 refine WS.cons (W1.for (ds:=jn 0 (cellAt ns first / 72 % 5).toNat) (fun i ρ=> ∃a b c d,ρ= [.im (.lst (ns.map .int)), .im (.int first), .im (.int most), .im (.int (cellAt ns first)), .mu ((fD ns first most i).map pD),a,b,c,d]) bt rfl
  (iq.range rfl B.range (av.mod (av.fdiv (nm 3 rfl rfl) av.int ⟨by decide,by decide⟩) av.int (by decide)) (by omega)) ⟨_,_,_,_,rfl⟩ ?_ ?_)
 ·rintro i d ρ hd ⟨a,b,c,d',rfl⟩
  obtain⟨rfl,hi⟩:=fx hd
  have hlen:=kZ ns first most i
  refine⟨_,sJ.name (i:=5) px rfl (.inl rfl) (fQ rfl), ?_⟩
  have e1:(first:Int)+1+(0+(i:Int))=((first+1+i:Nat):Int):=by omega
  refine WS.cons (W1.set (i:=6) px rfl (.inl rfl) (fQ rfl) (av.call G1 hr (bw nx) rfl (ns,first+1+i) (bz.cons (nm 0 rfl rfl) (bz.cons ((av.add (av.add (nm 1 rfl rfl) av.int) (nm 5 rfl rfl)).to (by rw [e1])) bz.nil)) trivial rfl) ?_)
  refine WS.cons (W1.set (i:=7) px rfl (.inl rfl) (fQ rfl) (av.mod (nm 6 rfl rfl) (nm 2 rfl rfl) (by omega)) ?_)
  refine WS.cons (W1.set (i:=8) px rfl (.inl rfl) (fQ rfl) (av.mod (av.fdiv (nm 6 rfl rfl) (nm 2 rfl rfl) ⟨by omega,by omega⟩) (nm 2 rfl rfl) (by omega)) ?_)
  refine WS.one (W1.ite (cB.cI .ne (nm 7 rfl rfl) (nm 8 rfl rfl)) (fun h=> ?_) fun h=> ?_)
  ·refine WS.one (W1.append (i:=4) rfl (.inl rfl) rfl (av.tup (bz.cons (nm 7 rfl rfl) (bz.cons (nm 8 rfl rfl) bz.nil))) (by rw [ae]; omega) ?_ ⟨rfl,rfl,rfl,rfl⟩)
   have hne: ¬cellAt ns (first+1+i) % most=cellAt ns (first+1+i) / most % most:=by simpa using h
   have hB:fD ns first most (i+1)=fD ns first most i ++ [(cellAt ns (first+1+i) % most,cellAt ns (first+1+i) / most % most)]:=by
    rw [fD]; exact if_neg hne
   dsimp only
   rw [hB,bu]
   exact⟨_,_,_,_,rfl⟩
  ·have he:cellAt ns (first+1+i) % most=cellAt ns (first+1+i) / most % most:=by simpa using h
   have hB:fD ns first most (i+1)=fD ns first most i:=by
    rw [fD]; exact if_pos he
   refine WS.nil ?_
   dsimp only
   rw [hB]
   exact⟨_,_,_,_,rfl⟩
 ·rintro ρ ⟨a,b,c,d,rfl⟩
  rw [e7]
  refine WS.freeze (i:=4) rfl (WS.one (W1.ret (av.tup (bz.cons (av.add av.int (av.mod (nm 3 rfl rfl) av.int (by decide))) (bz.cons (av.add av.int (av.mod (av.fdiv (nm 3 rfl rfl) av.int ⟨by decide,by decide⟩) av.int (by decide)))
   (bz.cons (av.add av.int (av.mod (av.fdiv (nm 3 rfl rfl) av.int ⟨by decide,by decide⟩) av.int (by decide))) (bz.cons (nm 4 rfl rfl) bz.nil))))) rfl))
def uL(f:c8)(r:List Int)(k:Nat):Bool:=(decide (0<=r.getD k 0)&&decide (r.getD k 0<=9))&& !(decide (0 < k)&&decide ((r.getD k 0,r.getD (k - 1) 0)∈f.fA))
def ip(f:c8)(r:List Int):Bool:=decide ((r.length:Int)<=f.ht)&&(cn r.length).all (uL f r)
def good(f:c8)(rows:List (List Int)):Bool:=(decide ((rows.length:Int)=f.st)&&decide rows.flatten.Nodup)&&rows.all (ip f)
theorem xI{k:Nat}{A:bp}(hr:eL k A):A.units+65 < cLine:=by have:=hr.un; omega
theorem jO{r:List Int}{k:Nat}{z:Int}(h:k < r.length)(e:z=(k:Int)):sh (r.map D.int) z=some (.int (r.getD k 0)):=by
 rw [s_,qg e h,aF,ai h]
 rfl
theorem nJ(p:Int×Int)(bs:List (Int×Int)):inD (pD p) (bs.map pD)=decide (p∈bs):=by
 induction bs with
 | nil=>rfl
 | cons b bs ih=>
  show(D.eqv (pD b) (pD p) || inD (pD p) (bs.map pD))=_
  rw [ih]
  have e:D.eqv (pD b) (pD p)=decide (p=b):=by
   obtain⟨b1,b2⟩:=b
   obtain⟨p1,p2⟩:=p
   simp only [D.eqv,pD,D.pd,D.pds,iH,ef,gE]
   by_cases h:p1=b1/\p2=b2
   ·obtain⟨rfl,rfl⟩:=h; simp
   ·rw [decide_eq_false (by simpa using h)]
    simp only [iC,beq_eq_false_iff_ne]
    by_cases h1:p1=b1
    ·exact .inr fun z=>h ⟨h1,z.symm⟩
    ·exact .inl fun z=>h1 z.symm
  rw [e]
  by_cases h:p=b <;> simp [h]
theorem tx(n:Nat)(p:Int×Int):D.flat (n+1) (pD p):=by
 intro d hd
 rcases aN.mp hd with rfl | hd
 ·cases n <;> exact trivial
 ·rw [aE.mp hd]; cases n <;> exact trivial
theorem v_{n:Nat}{bs:List (Int×Int)}: ∀d∈bs.map pD,D.flat (n+1) d:=fun d hd=>by
 obtain⟨p,_,rfl⟩:=aX.mp hd
 exact tx n p
def aU(t:Bool)(rows:List (List Int)):List D:=rows.map fun r=>vo t (r.map .int)
theorem CZ:bN ["floor","standing","crates","stack","k"] ["floor","standing"] (aJ Bc):=⟨rfl,rfl,rfl,by decide +kernel,rfl,by decide +kernel,by decide +kernel⟩
abbrev vt(P:ar)(w:World)(K:Frag)(mg:Str->Option Value)(base:Heap)(CX:fJ):Prop:=
 jQ P w K mg base CX 1 "_law_good" (fun i:c8×Bool×List (List Int)=> [i.1.d,vo i.2.1 (aU i.2.1 i.2.2)]) (fun i=>i.2.2.flatten.length < 4000/\i.2.2.length < 4000) (fun i=> .ok (.bl (good i.1 i.2.2)))
theorem lP{rows:List (List Int)}{r:List Int}(h:r∈rows):r.length<=rows.flatten.length:=by
 induction rows with
 | nil=>cases h
 | cons a rows ih=>
  rw [cy,ak]
  rcases aN.mp h with rfl | h
  ·omega
  ·have:=ih h; omega
theorem nI{rows:List (List Int)}{i:Nat}{r:List Int}(h:rows[i]? =some r):(rows.take (i+1)).flatten=(rows.take i).flatten ++ r:=by
 rw [dG,h,AI]
 simp
theorem jq(rows:List (List Int))(i:Nat):(rows.take i).flatten.length<=rows.flatten.length:=by
 have e:rows.flatten=(rows.take i).flatten ++ (rows.drop i).flatten:=by rw [<-AI,aO]
 rw [e,ak]; omega
theorem eZ{t:Bool}{rows:List (List Int)}{i:Nat}{d:D}(h:(aU t rows)[i]? =some d): ∃r,rows[i]? =some r/\d=vo t (r.map .int):=by
 unfold aU at h
 rw [aD]at h
 cases e:rows[i]? with
 | none=>rw [e]at h; cases h
 | some r=>rw [e]at h; exact⟨r,rfl,(aK h).symm⟩
theorem Ej{f:Addr}{fd:aV}(nx:NX CX)(B:Bn mg)(F:iY K "_law_good" "_law_good" Bc f fd)(hm:mg "_law_good"=some (.ref f))(hb:Binds K fd ["floor","standing"] []):vt P w K mg base CX:=by
 refine eN F CZ hm hb (fun i=>rfl) fun cdv A outer s H E i M0 hp hr=>⟨_,rfl, ?_⟩
 obtain⟨fl,t,rows⟩:=i
 obtain⟨hp1,hp2⟩:rows.flatten.length < 4000/\rows.length < 4000:=hp
 have px:=CZ.nd
 have hlen:(aU t rows).length=rows.length:=ae ..
 refine WS.cons (W1.setF (i:=2) px rfl (.inl rfl) (fQ rfl) (ff.lst bz.nil) ?_)
 refine WS.cons (W1.for (ds:=aU t rows) (fun i ρ=> ∃a b,ρ= [.im fl.d, .im (vo t (aU t rows)), .mu ((rows.take i).flatten.map .int),a,b]) bt rfl (iq.seq (nm 1 rfl rfl)) ⟨_,_,by rw [hJ]; rfl⟩ ?_ ?_)
 ·rintro i d ρ hd ⟨a,b,rfl⟩
  obtain⟨r,hr',rfl⟩:=eZ hd
  have l1:=jq rows i
  have l2:=lP (aP hr')
  refine⟨_,sJ.name (i:=3) px rfl (.inl rfl) (fQ rfl), ?_⟩
  refine WS.one (W1.extend (i:=2) (fs:=r.map .int) rfl (.inl rfl) rfl (ff.toD (ff.listS rfl B.list (nm 3 rfl rfl))) rfl (by rw [ae,ae]; omega) ?_ ⟨rfl,rfl,rfl,rfl⟩)
  dsimp only
  rw [nI hr',bu]
  exact⟨_,_,rfl⟩
 rintro ρ ⟨a,b,rfl⟩
 rw [hlen,dq]
 refine WS.cons (W1.ite (fk.t (fk.or (cB.cI .ne (av.lenS rfl B.len (nm 1 rfl rfl)) (av.ixT (nm 0 rfl rfl) av.int rfl)) fun _=>fk.or1 (cB.cI .lt (av.lenSet rfl rfl B.len rfl B.set (vw 2 rfl rfl) hp1) (av.lenL rfl B.len (vw 2 rfl rfl))))) (fun h=> ?_) fun h=> ?_)
 ·refine WS.one (W1.ret av.bl ?_)
  rw [hlen,ae]at h
  have:good fl rows=false:=by
   unfold good
   by_cases h1:(rows.length:Int)=fl.st
   ·have h2: ¬rows.flatten.Nodup:=fun z=>by
     rw [decide_eq_true h1,dz,Bool.false_or,(BJ _).mpr z]at h
     have:=of_decide_eq_true h
     omega
    rw [decide_eq_false h2,jx,fV]
   ·rw [decide_eq_false h1,fV,fV]
  show D.bl false=D.bl (good fl rows)
  rw [this]
 refine WS.nil ?_
 rw [hlen,ae,Bool.or_eq_false_iff]at h
 have g1:(rows.length:Int)=fl.st:=by simpa using h.1
 have g2:rows.flatten.Nodup:=(BJ _).mp (by
  have h2:=of_decide_eq_false h.2
  have:=HB rows.flatten
  omega)
 refine WS.cons (W1.for (ds:=aU t rows) (fun i ρ=>(rows.take i).all (ip fl)=true/\ ∃a b,ρ= [.im fl.d, .im (vo t (aU t rows)), .mu (rows.flatten.map .int),a,b]) bt rfl (iq.seq (nm 1 rfl rfl)) ⟨by rw [hJ]; rfl,_,_,rfl⟩ ?_ ?_)
 ·rintro i d ρ hd ⟨hall,a,b,rfl⟩
  obtain⟨r,hr',rfl⟩:=eZ hd
  have l2:=lP (aP hr')
  have bad:ip fl r=false->good fl rows=false:=fun hf=>by
   unfold good
   have:rows.all (ip fl)=false:=by
    rw [DF]
    exact⟨r,aP hr',by rw [hf]; exact az⟩
   rw [this,jx]
  refine⟨_,sJ.name (i:=3) px rfl (.inl rfl) (fQ rfl), ?_⟩
  refine WS.cons (W1.ite (cB.cI .gt (av.lenS rfl B.len (nm 3 rfl rfl)) (av.ixT (nm 0 rfl rfl) av.int rfl)) (fun h3=> ?_) fun h3=>WS.nil ?_)
  ·refine WS.one (W1.ret av.bl ?_)
   have h4:=of_decide_eq_true h3
   rw [ae]at h4
   show D.bl false=D.bl (good fl rows)
   rw [bad (by unfold ip; rw [decide_eq_false (by omega),fV])]
  have h4:=of_decide_eq_false h3
  rw [ae]at h4
  refine WS.one (W1.for (ds:=jn 0 r.length) (fun j ρ=>(cn j).all (uL fl r)=true/\ ∃b,ρ= [.im fl.d, .im (vo t (aU t rows)), .mu (rows.flatten.map .int), .im (vo t (r.map .int)),b]) bt rfl
   (iq.to (iq.range rfl B.range (av.lenS rfl B.len (nm 3 rfl rfl)) (by rw [ae]; omega)) (by rw [ae]; rfl)) ⟨rfl,_,rfl⟩ ?_ ?_)
  ·rintro j d ρ hd2 ⟨hall2,b,rfl⟩
   obtain⟨rfl,hj⟩:=fx hd2
   refine⟨_,sJ.name (i:=4) px rfl (.inl rfl) (fQ rfl), ?_⟩
   have z0:(0:Int)+(j:Int)=(j:Int):=by omega
   refine WS.one (W1.ite (fk.t (fk.or (cB.not (cB.chain .le .le av.int (av.ixS (nm 3 rfl rfl) (nm 4 rfl rfl) (jO hj z0)) av.int)) fun _=>fk.or1 (fk.t (fk.and (cB.cI .gt (nm 4 rfl rfl) av.int) fun hz=>fk.and1
    (cB.inL (da:=pD (r.getD j 0,r.getD (j - 1) 0)) (ds:=fl.fA.map pD) (xI hr) (av.r (av.tup (bz.cons (av.ixS (nm 3 rfl rfl) (nm 4 rfl rfl) (jO hj z0)) (bz.cons (av.ixS (nm 3 rfl rfl) (av.sub (nm 4 rfl rfl) av.int) (jO (k:=j - 1) (by omega) (by have:=of_decide_eq_true hz; omega))) bz.nil))))
     (av.r (av.ixT (nm 0 rfl rfl) av.int rfl)) (tx 59 _) v_))))) (fun h5=> ?_) fun h5=> ?_)
   ·refine WS.one (W1.ret av.bl ?_)
    show D.bl false=D.bl (good fl rows)
    rw [bad]
    unfold ip
    have:(cn r.length).all (uL fl r)=false:=by
     rw [DF]
     refine⟨j,g8.mpr hj, ?_⟩
     unfold uL
     rw [nJ,z0]at h5
     simp only [rV,fN,bq,decide_eq_true_eq]at h5
     simp only [bq,fN,decide_eq_true_eq,iC,decide_eq_false_iff_not]
     rintro⟨⟨q1,q2⟩,q3⟩
     rcases h5 with h5 | ⟨h5,h6⟩
     ·rw [decide_eq_true q1,decide_eq_true q2]at h5; cases h5
     ·rcases q3 with q3 | q3
      ·exact q3 (by omega)
      ·exact q3 h6
    rw [this,jx]
   ·refine WS.nil ⟨?_,_,rfl⟩
    rw [lY,rW,hall2]
    rw [nJ,z0]at h5
    show(uL fl r j&&true)=true
    rw [gE]
    unfold uL
    simp only [Bool.or_eq_false_iff,Bool.not_eq_false',iC,decide_eq_false_iff_not]at h5
    obtain⟨h5,h6⟩:=h5
    rw [h5,gD]
    simp only [fN,iC,decide_eq_false_iff_not]
    rcases h6 with h6 | h6
    ·exact .inl fun z=>h6 (by omega)
    ·exact .inr h6
  ·rintro ρ ⟨hall2,b,rfl⟩
   rw [e7]at hall2
   refine⟨?_,_,_,rfl⟩
   rw [dG,hr',rW,hall]
   show(ip fl r&&true)=true
   rw [gE]
   unfold ip
   rw [hall2,decide_eq_true (by omega)]
   rfl
 ·rintro ρ ⟨hall,a,b,rfl⟩
  rw [hlen,dq]at hall
  refine WS.one (W1.ret av.bl ?_)
  show D.bl true=D.bl (good fl rows)
  unfold good
  rw [hall,decide_eq_true g1,decide_eq_true g2]
  rfl
end
def fO(f:c8)(cell:Int)(st:List (List Int)×Option Int)(k:Nat):List (List Int)×Option Int:=
 match st.2 with
 | none=>st
 | some c=>
  let n:=((cell / 61+k) % f.st).toNat
  let wider:=st.1.set n (st.1.getD n [] ++ [c])
  if good f wider then(wider,none)else st
def place(f:c8)(cell:Int)(rows:List (List Int))(c:Int)(n:Nat):List (List Int)×Option Int:=(cn n).foldl (fO f cell) (rows,some c)
def mE(f:c8):Nat->Int->List (List Int)->List Int->List (List Int)
 | 0,_,rows,_=>rows
 | m+1,cell,rows,left=>
  let cell':=(cell * 48271+17) % 2147483647
  let i:=(cell' / 7 % left.length).toNat
  mE f m cell' (place f cell' rows (left.getD i 0) f.st.toNat).1 (left.eraseIdx i)
def dQ(f:c8)(cell:Int)(crates:List Int):List (List Int):=mE f crates.length cell (eC f.st.toNat []) crates
def Kq:Option Int->D
 | none=> .non
 | some c=> .int c
theorem mi(f:c8)(cell:Int)(rows:List (List Int))(c:Int)(n:Nat):place f cell rows c (n+1)=fO f cell (place f cell rows c n) n:=by
 unfold place
 rw [lY,List.foldl_append]
 rfl
theorem nA{rows:List (List Int)}{n:Nat}{r:List Int}{k:Nat}(h:r.length<=(rows.getD n []).length+k):(rows.set n r).flatten.length<=rows.flatten.length+k:=by
 induction rows generalizing n with
 | nil=>simp
 | cons a rows ih=>
  cases n with
  | zero=>
   rw [List.set_cons_zero,cy,cy,ak,ak]
   have:(List.getD (a::rows) 0 []).length=a.length:=rfl
   omega
  | succ n=>
   rw [Dy,cy,cy,ak,ak]
   have:=ih (n:=n) (by simpa using h)
   omega
theorem rq(f:c8)(cell:Int)(st:List (List Int)×Option Int)(k:Nat):(fO f cell st k).1.length=st.1.length/\(fO f cell st k).1.flatten.length+(if(fO f cell st k).2.isSome then 1 else 0)<=st.1.flatten.length+(if st.2.isSome then 1 else 0):=by
 obtain⟨rows,oc⟩:=st
 cases oc with
 | none=>exact⟨rfl,aw _⟩
 | some c=>
  unfold fO
  dsimp only
  split
  ·refine⟨bo .., ?_⟩
   have:=nA (rows:=rows) (n:=((cell / 61+k) % f.st).toNat) (r:=rows.getD ((cell / 61+k) % f.st).toNat [] ++ [c]) (k:=1) (by rw [ak]; exact aw _)
   simpa using this
  ·exact⟨rfl,aw _⟩
theorem place_len(f:c8)(cell:Int)(rows:List (List Int))(c:Int): ∀n,(place f cell rows c n).1.length=rows.length/\(place f cell rows c n).1.flatten.length+(if(place f cell rows c n).2.isSome then 1 else 0)<=rows.flatten.length+1
 | 0=>⟨rfl,aw _⟩
 | n+1=>by
  obtain⟨a,b⟩:=place_len f cell rows c n
  obtain⟨a',b'⟩:=rq f cell (place f cell rows c n) n
  rw [mi]
  exact⟨a'.trans a,bg b' b⟩
theorem su{α β:Type}(g:α->β): ∀(l:List α) (n:Nat),(l.map g).eraseIdx n=(l.eraseIdx n).map g
 | [],_=>rfl
 | _::_,0=>rfl
 | a::l,n+1=>by rw [aW,List.eraseIdx_cons_succ,List.eraseIdx_cons_succ,aW,su g l n]
def HA(i:Nat)(ρ:eG):Nat:=match ρ[i]? with
 | some (Sl.mu ds)=>ds.length
 | _=>0
theorem zp{t:Bool}{rows:List (List Int)}{n:Nat}{r:List Int}:aU t (rows.set n r)=(aU t rows).set n (vo t (r.map .int)):=by
 unfold aU
 rw [List.map_set]
theorem gB{t:Bool}{rows:List (List Int)}:(aU t rows).length=rows.length:=ae ..
theorem y6(ns:List Int):D.eqv (.lst (ns.map .int)) (.lst [])=decide (ns= []):=by cases ns <;> rfl
theorem zN{n:Nat}{ns:List Int}:D.flat (n+1) (.lst (ns.map .int)):=fun d hd=>by
 obtain⟨i,_,rfl⟩:=aX.mp hd
 cases n <;> exact trivial
section
variable {P:ar}{w:World}{K:Frag}{mg:Str->Option Value}{base:Heap}{CX:fJ}
theorem pN:bN ["floor","cell","crates","rows","left","crate","k","spot","wider"] ["floor","cell","crates"] (aJ lQ):=⟨rfl,rfl,rfl,by decide +kernel,rfl,by decide +kernel,by decide +kernel⟩
abbrev nM(P:ar)(w:World)(K:Frag)(mg:Str->Option Value)(base:Heap)(CX:fJ):Prop:=
 jQ P w K mg base CX 2 "_law_standing" (fun i:c8×Int×List Int=> [i.1.d, .int i.2.1, .lst (i.2.2.map .int)]) (fun i=>2<=i.1.st/\i.1.st<=4/\i.2.2.length<=100) (fun i=> .ok (.tup (aU true (dQ i.1 i.2.1 i.2.2))))
theorem wq{f:Addr}{fd:aV}(nx:NX CX)(B:Bn mg)(G1:vt P w K mg base CX)(F:iY K "_law_standing" "_law_standing" lQ f fd)(hm:mg "_law_standing"=some (.ref f))(hb:Binds K fd ["floor","cell","crates"] []):nM P w K mg base CX:=by
 refine eN F pN hm hb (fun i=>rfl) fun cdv A outer s H E i M0 hp hr=>⟨_,rfl, ?_⟩
 obtain⟨fl,cell0,crates⟩:=i
 obtain⟨hp1,hp2,hp3⟩:2<=fl.st/\fl.st<=4/\crates.length<=100:=hp
 have px:=pN.nd
 change WS _ M0 H (bx lQ) [.im fl.d, .im (.int cell0), .im (.lst (crates.map .int)), .un, .un, .un, .un, .un, .un] {N:=fun _=>D.tup (aU true (dQ fl cell0 crates))= .non,R:=fun d'=>d'= .tup (aU true (dQ fl cell0 crates))}
 refine WS.cons (W1.comp (i:=3) (es:=aU false (eC fl.st.toNat [])) (cs:= []) (dW.closed (by decide +kernel) (by decide +kernel) rfl (by decide +kernel) rfl) rfl (by decide +kernel) (iq.range rfl B.range (av.ixT (nm 0 rfl rfl) av.int rfl) (by omega)) nX (by rw [e7,gB,iB]) (by rw [e7]; omega) ?_ px rfl rfl (fQ rfl) ?_)
 ·intro C s₀ H₀ fp pins i d e h1 h2
  obtain⟨r,hr',rfl⟩:=eZ h2
  have:r= []:=by
   rw [wZ]at hr'
   split at hr'
   ·exact(aK hr').symm
   ·cases hr'
  subst this
  exact ff.toD (ff.lst bz.nil)
 refine WS.freeze (i:=3) rfl ?_
 refine WS.cons (W1.setF (i:=4) px rfl (.inl rfl) (fQ rfl) (ff.listL rfl B.list (av.r (nm 2 rfl rfl))) ?_)
 refine WS.cons (W1.while (fun ρ=> ∃cell rows left a b c d,ρ= [.im fl.d, .im (.int cell), .im (.lst (crates.map .int)), .im (.lst (aU false rows)), .mu (left.map .int),a,b,c,d]/\(rows.length:Int)=fl.st/\rows.flatten.length+left.length<=100/\mE fl left.length cell rows left=dQ fl cell0 crates)
  (HA 4) bt ⟨cell0,eC fl.st.toNat [],crates,_,_,_,_,rfl,by rw [iB]; omega,by simpa using hp3,rfl⟩ ?_)
 rintro ρ ⟨cell,rows,left,a,b,c,d,rfl,hl,hsz,hrun⟩
 refine⟨_,cB.ne (Nat.lt_of_succ_lt (xI hr)) (vw 4 rfl rfl) (av.r (ff.toD (ff.lst bz.nil))) zN (fun _ h=>by cases h),fun h=> ?_,fun h=> ?_⟩
 ·rw [y6]at h
  have hne:left≠ []:=by simpa using h
  obtain⟨m,hm⟩: ∃m,left.length=m+1:=⟨left.length - 1,by have:=List.length_pos_iff.mpr hne; omega⟩
  rw [hm]at hrun
  refine WS.cons (W1.set (i:=1) px rfl (.inl rfl) (fQ rfl) (av.mod (av.add (av.mul (nm 1 rfl rfl) av.int (.inr ⟨by decide,by decide⟩)) av.int) av.int (by decide)) ?_)
  generalize hc:(cell * 48271+17) % 2147483647=cell'
  have hi0:0<=cell' / 7 % (left.length:Int):=i7 _ (by omega)
  have hi1:cell' / 7 % (left.length:Int) < left.length:=gS _ (by omega)
  generalize hix:(cell' / 7 % (left.length:Int)).toNat=ix
  have hlt:ix < left.length:=by omega
  refine WS.cons (W1.popAt (i:=4) (j:=5) (n:=ix) (d:= .int (left.getD ix 0)) px rfl (.inl rfl) rfl rfl (.inl rfl) (fQ rfl) (by decide) (av.mod (av.fdiv (nm 1 rfl rfl) av.int ⟨by decide,by decide⟩) (av.lenL rfl B.len (vw 4 rfl rfl)) (by rw [ae]; omega)) (by rw [ae]; omega)
   (by rw [aD,ai hlt,aF,ai hlt]; rfl) (by omega) ?_ ⟨rfl,rfl,rfl,rfl⟩)
  have heras:(left.map D.int).eraseIdx ix=(left.eraseIdx ix).map D.int:=su ..
  rw [heras]
  have hlen2:(left.eraseIdx ix).length+1=left.length:=by rw [List.length_eraseIdx_of_lt hlt]; omega
  refine WS.one (W1.for (ds:=jn 0 fl.st.toNat) (fun j ρ=> ∃x y z,ρ= [.im fl.d, .im (.int cell'), .im (.lst (crates.map .int)), .im (.lst (aU false (place fl cell' rows (left.getD ix 0) j).1)), .mu ((left.eraseIdx ix).map .int), .im (Kq (place fl cell' rows (left.getD ix 0) j).2),x,y,z]) bt rfl
   (iq.range rfl B.range (av.ixT (nm 0 rfl rfl) av.int rfl) (by omega)) ⟨_,_,_,rfl⟩ ?_ ?_)
  ·rintro j d ρ hd ⟨x,y,z,rfl⟩
   obtain⟨rfl,hj⟩:=fx hd
   obtain⟨pl1,pl2⟩:=place_len fl cell' rows (left.getD ix 0) j
   rw [mi]
   generalize place fl cell' rows (left.getD ix 0) j=st at pl1 pl2
   obtain⟨rw1,oc⟩:=st
   dsimp only at pl1 pl2 ⊢
   refine⟨_,sJ.name (i:=6) px rfl (.inl rfl) (fQ rfl), ?_⟩
   have s0:0<=(cell' / 61+(0+(j:Int))) % fl.st:=i7 _ (by omega)
   have s1:(cell' / 61+(0+(j:Int))) % fl.st < fl.st:=gS _ (by omega)
   refine WS.cons (W1.set (i:=7) px rfl (.inl rfl) (fQ rfl) (av.mod (av.add (av.fdiv (nm 1 rfl rfl) av.int ⟨by decide,by decide⟩) (nm 6 rfl rfl)) (av.ixT (nm 0 rfl rfl) av.int rfl) (by omega)) ?_)
   have z0:(0:Int)+(j:Int)=(j:Int):=by omega
   rw [z0]at s0 s1 ⊢
   cases oc with
   | none=>exact WS.one (W1.ite (cB.notN (av.r (nm 5 rfl rfl))) (fun h=>by cases h) fun h=>WS.nil ⟨_,_,_,rfl⟩)
   | some c=>
    refine WS.one (W1.ite (cB.notN (av.r (nm 5 rfl rfl))) (fun _=> ?_) fun h=>by cases h)
    have s2:((cell' / 61+(j:Int)) % fl.st).toNat < rw1.length:=by omega
    have s3:(cell' / 61+(j:Int)) % fl.st=(((cell' / 61+(j:Int)) % fl.st).toNat:Int):=by omega
    unfold fO
    dsimp only
    generalize ((cell' / 61+(j:Int)) % fl.st).toNat=sp at s2 s3
    have rl:=lP (rows:=rw1) (r:=rw1.getD sp []) (by rw [aF,ai s2]; exact aQ s2)
    have fl2:rw1.flatten.length+1<=rows.flatten.length+1:=by simpa using pl2
    refine WS.cons (W1.setF (i:=8) px rfl (.inl rfl) (fQ rfl) (ff.listL rfl B.list (av.r (nm 3 rfl rfl))) ?_)
    refine WS.cons (W1.setIx (i:=8) (n:=sp) rfl (.inl rfl) rfl (ff.toD (ff.cat (ds:=(rw1.getD sp []).map .int) (av.r (av.ixL (av.r (nm 3 rfl rfl)) (nm 7 rfl rfl) (by
      unfold aU
      rw [s_,qg s3 s2,aF,ai s2]
      rfl))) (av.r (ff.toD (ff.lst (bz.cons (nm 5 rfl rfl) bz.nil)))) (by rw [ae,fL]; omega))) (nm 7 rfl rfl) s3 (by rw [gB]; exact s2) ?_)
    have hset:(aU false rw1).set sp (.lst ((rw1.getD sp []).map .int ++ [D.int c]))=aU false (rw1.set sp (rw1.getD sp [] ++ [c])):=by
     rw [zp,bu]; rfl
    have hset':((aU false rw1).set sp (.lst ((rw1.getD sp []).map .int ++ [Kq (some c)])))=aU false (rw1.set sp (rw1.getD sp [] ++ [c])):=hset
    rw [hset']
    have fl3:=nA (rows:=rw1) (n:=sp) (r:=rw1.getD sp [] ++ [c]) (k:=1) (by rw [ak]; exact aw _)
    have q1:(rw1.set sp (rw1.getD sp [] ++ [c])).flatten.length < 4000:=by omega
    have q2:(rw1.set sp (rw1.getD sp [] ++ [c])).length < 4000:=by rw [bo]; omega
    refine WS.one (W1.ite (cB.val (av.callR G1 hr (bw nx) rfl (fl,false,rw1.set sp (rw1.getD sp [] ++ [c])) (q_.cons (av.r (nm 0 rfl rfl)) (q_.one (vw 8 rfl rfl))) ⟨q1,q2⟩ rfl trivial)) (fun hg=> ?_) fun hg=> ?_)
    ·refine WS.freeze (i:=8) rfl (WS.cons (W1.set (i:=3) px rfl (.inl rfl) (fQ rfl) (nm 8 rfl rfl) ?_))
     refine WS.one (W1.set (i:=5) px rfl (.inl rfl) (fQ rfl) av.non ?_)
     rw [if_pos hg]
     exact⟨_,_,_,rfl⟩
    ·refine WS.nil ?_
     have hg': ¬good fl (rw1.set sp (rw1.getD sp [] ++ [c]))=true:=by rw [show good fl (rw1.set sp (rw1.getD sp [] ++ [c]))=false from hg]; exact az
     dsimp only
     rw [if_neg hg']
     exact⟨_,_,_,rfl⟩
  ·rintro ρ ⟨x,y,z,rfl⟩
   rw [e7]
   obtain⟨pl1,pl2⟩:=place_len fl cell' rows (left.getD ix 0) fl.st.toNat
   refine⟨⟨cell',(place fl cell' rows (left.getD ix 0) fl.st.toNat).1,left.eraseIdx ix,_,_,_,_,rfl,by rw [pl1]; exact hl,by omega, ?_⟩, ?_⟩
   ·rw [<-hrun]
    have:(left.eraseIdx ix).length=m:=by omega
    rw [this]
    show _=mE fl m ((cell * 48271+17) % 2147483647) (place fl ((cell * 48271+17) % 2147483647) rows (left.getD ((cell * 48271+17) % 2147483647 / 7 % left.length).toNat 0) fl.st.toNat).1 (left.eraseIdx ((cell * 48271+17) % 2147483647 / 7 % left.length).toNat)
    rw [hc,hix]
   ·show((left.eraseIdx ix).map D.int).length < (left.map D.int).length
    rw [ae,ae]
    omega
 ·rw [y6]at h
  have hnil:left= []:=by simpa using h
  subst hnil
  have e:rows=dQ fl cell0 crates:=hrun
  subst e
  refine WS.one (W1.ret (av.tupleL rfl B.tuple (av.r (ff.toD (ff.comp (es:=aU true (dQ fl cell0 crates)) (cs:= []) (dW.closed (by decide +kernel) (by decide +kernel) rfl (by decide +kernel) rfl) rfl (by decide +kernel) (iq.list (nm 3 rfl rfl)) nX (by rw [gB,gB]) (by rw [gB]; omega) ?_)))) rfl)
  intro C s₀ H₀ fp pins i d e h1 h2
  obtain⟨r,hr1,rfl⟩:=eZ h1
  obtain⟨r2,hr2,rfl⟩:=eZ h2
  rw [hr1]at hr2
  cases hr2
  exact av.tupleS (t:=false) rfl B.tuple (nm 0 rfl rfl)
end
end K
namespace Z
open PySem PySem.Spec PyProof.Rows L2
section
variable {X:Cx}{ρ:eG}{M0:MP}{H0:Hp}{P:nZ}{e a b:Expr}{d:D}{ds:List D}{pos p:Pos}
theorem vz{K:Frag}{M:MP}{H:Hp}{bs:List Bool}{xs:List V}{bL:List Value}(h:cw K M H (bs.map .bl) xs)(r:Vals xs bL):bL=bs.map dJ:=by
 induction bs generalizing xs bL with
 | nil=>cases (show xs= []from h); cases r; rfl
 | cons b bs ih=>
  obtain⟨v,t,rfl,h1,h2⟩:=h
  cases r with
  | cons r1 r2=>
   cases (show v= .bl b from h1)
   rw [aW,ih h2 r2,show _=dJ b from r1]
theorem ow(bs:List Bool)(tr:Nat->Bool)(h: ∀i b,bs[i]? =some b->tr i=b):(cn bs.length).all tr=bs.all id/\(cn bs.length).any tr=bs.any id:=by
 have e:(cn bs.length).map tr=bs:=by
  apply fM
  intro i
  rw [aD]
  by_cases hi:i < bs.length
  ·rw [AH hi,ai hi]
   exact congrArg some (h i _ (ai hi))
  ·rw [br (by rw [cW]; omega),br (by omega)]
   rfl
 constructor
 ·rw [<-e,List.all_map,e]; rfl
 ·rw [<-e,List.any_map,e]; rfl
theorem oG{A:bp}(bs:List Bool):TruthOf X.prog X.w A (fun i v=>(bs.map dJ)[i]? =some v) (fun i=>bs.getD i false):=fun i v s Q E h k=>by
 dsimp only at h k
 rw [aD]at h
 cases e:bs[i]? with
 | none=>rw [e]at h; cases h
 | some b=>
  rw [e]at h
  cases h
  rw [aF,e]at k
  exact eU k
theorem zR(hc:X.calm=true):gf X (.builtin "all") (fun xs H Q=> ∃(q:Addr) (M:MP) (bs:List Bool),xs= [.ref q]/\nc X.K M H (.lst (bs.map .bl)) (.ref q)/\Q (.bl (bs.all id)) H):=by
 intro pins s σ H xs us Q I r ⟨q,M,bs,e,hq,k⟩
 subst e
 obtain⟨u,rfl,rx⟩:=vals1 r
 cases rx
 obtain⟨q',ys,eq,sq,dn⟩:=hq
 cases eq
 obtain⟨bL,r',pl,hz⟩:=I.list sq
 have hb:=vz dn r'
 subst hb
 have hlt:q < s.heap.objs.size:=by obtain⟨o,n,e,_⟩:=pl; exact ay e
 refine call_all_walk (oO pl.isList ?_)
 refine⟨_,_,_,_,_,_,fun i=>bs.getD i false,rfl,Walks.list (by simp [I.ok.hd hc]) s.heap.objs.size q (aM hlt) _,⟨⟨_,au _ rfl,rfl,rfl⟩,pl.isList.push _⟩, ?_,fun h' tk hk=> ?_⟩
 ·have:=oG (X:=X) (A:=X.A.in1) bs
  intro i v s Q E h
  exact this i v s Q E (by rw [l_]at h; exact h)
 ·refine⟨.bl (bs.all id),H,I.kept (t':=tk) (fun b o e=>hk b o (by intro z; rw [aE.mp z]at e; exact absurd (ay e) (e9 _)) (ag _ e)), ?_,k⟩
  show _=dJ _
  rw [ax,ae,(ow bs _ fun i b h=>by rw [aF,h]; rfl).1]
theorem zX(hc:X.calm=true):gf X (.builtin "any") (fun xs H Q=> ∃(q:Addr) (M:MP) (bs:List Bool),xs= [.ref q]/\nc X.K M H (.lst (bs.map .bl)) (.ref q)/\Q (.bl (bs.any id)) H):=by
 intro pins s σ H xs us Q I r ⟨q,M,bs,e,hq,k⟩
 subst e
 obtain⟨u,rfl,rx⟩:=vals1 r
 cases rx
 obtain⟨q',ys,eq,sq,dn⟩:=hq
 cases eq
 obtain⟨bL,r',pl,hz⟩:=I.list sq
 have hb:=vz dn r'
 subst hb
 have hlt:q < s.heap.objs.size:=by obtain⟨o,n,e,_⟩:=pl; exact ay e
 refine call_any_walk (oO pl.isList ?_)
 refine⟨_,_,_,_,_,_,fun i=>bs.getD i false,rfl,Walks.list (by simp [I.ok.hd hc]) s.heap.objs.size q (aM hlt) _,⟨⟨_,au _ rfl,rfl,rfl⟩,pl.isList.push _⟩, ?_,fun h' tk hk=> ?_⟩
 ·have:=oG (X:=X) (A:=X.A.in1) bs
  intro i v s Q E h
  exact this i v s Q E (by rw [l_]at h; exact h)
 ·refine⟨.bl (bs.any id),H,I.kept (t':=tk) (fun b o e=>hk b o (by intro z; rw [aE.mp z]at e; exact absurd (ay e) (e9 _)) (ag _ e)), ?_,k⟩
  show _=dJ _
  rw [ax,ae,(ow bs _ fun i b h=>by rw [aF,h]; rfl).2]
theorem av.all{bs:List Bool}(hc:X.calm=true)(hg:Gl X "all")(hm:X.mg "all"=none)(h:ky X ρ e (.lst (bs.map .bl)))(he:aq [e] X.env= [(false,eval e X.env)]:=by rfl):av X ρ (.Call (.Name "all" p) [e] [] pos) (.bl (bs.all id)):=
 av.callB (zR hc) hg hm (by decide +kernel) (q_.one h he) (fun M H vs Q dn k=>by
  obtain⟨v,r,rfl,e1,e2⟩:=dn
  cases e2
  obtain⟨q,xs,rfl,sq,z⟩:=id e1
  exact⟨q,M,bs,rfl,e1,k _ H (bI.refl _) rfl⟩) (he:=he)
theorem av.any{bs:List Bool}(hc:X.calm=true)(hg:Gl X "any")(hm:X.mg "any"=none)(h:ky X ρ e (.lst (bs.map .bl)))(he:aq [e] X.env= [(false,eval e X.env)]:=by rfl):av X ρ (.Call (.Name "any" p) [e] [] pos) (.bl (bs.any id)):=
 av.callB (zX hc) hg hm (by decide +kernel) (q_.one h he) (fun M H vs Q dn k=>by
  obtain⟨v,r,rfl,e1,e2⟩:=dn
  cases e2
  obtain⟨q,xs,rfl,sq,z⟩:=id e1
  exact⟨q,M,bs,rfl,e1,k _ H (bI.refl _) rfl⟩) (he:=he)
end
theorem Cf(l b:Addr)(xs ys:Array Value)(n m:Nat)(dd de:Option Addr)(sl tl:Array (Option Value))(h0:xs.isEmpty=true):
  Meets (cG.«tuple.__add__» ⟨[.ref l, .ref b], []⟩) (fun _ R s=>s.heap.get? l=some {cls:= .type "tuple",dict:=dd,data:= .seq xs n,slots:=sl}/\s.heap.get? b=some {cls:= .type "tuple",dict:=de,data:= .seq ys m,slots:=tl}/\
   R (.ok (.ret (ao b))) {s with heap:=s.heap,toks:=s.toks}):=
 .of_wp fun prog w A R s h=>by
  obtain⟨hp,g,d,tk,os⟩:=s
  obtain⟨hl,hb,h⟩:=h
  have f2:=dw
  wp_walk using bf hl,bf hb
  exact⟨_,rfl,h⟩
theorem DU{prog:ar}{w:World}{A:bp}{E:Value->ah->Prop}{s:ah}{t sl:Addr}{items:Array Value}{vl vu:Value}{lo hi:Option Int}{Q:Value->ah->Prop}(ht:IsTup s.heap t items)(hs:s.heap.IsSliceOf sl vl vu .none)(pl:oi vl lo)(pu:oi vu hi)
  (hw:HT.fF items.size 0 lo=0/\HT.fF items.size items.size hi=items.size)(h:Q (.ref t) s):wpAny (model prog w) A (sU (.ref t) (.ref sl)) Q E s:=by
 obtain⟨os,hos,hcs,hds⟩:=id hs
 have hTs:s.TypeIs (.ref sl) "slice":=⟨os,hos,hcs⟩
 unfold sU
 try with_reducible refine bD ?_
 first | refine aa (af ?_) | skip
 refine aa (wpAny_sequenceKey ht.typeIs (by decide) ?_)
 refine aa (cm (name:=eV "__getitem__") ht.typeIs c_
  (bF c_ ht.typeIs entry_tuple_getitem ?_ (args_tuple_getitem _ _)))
 show wpAny _ _ (uR (.ref t) >>=_) _ _ s
 refine aa (tupleItemsOf_ ht ?_)
 refine aa (gn hTs ?_)
 rw [if_pos (by decide)]
 refine aa (HT.jP hs pl pu ?_)
 have hyes:((((HT.fF items.size 0 lo:Nat):Int)==0&&(1:Int)==1&&(HT.fF items.size items.size hi - HT.fF items.size 0 lo)==items.size)=true):=by
  rw [hw.1,hw.2]; simp
 show wpAny _ _ (if(((HT.fF items.size 0 lo:Nat):Int)==0&&(1:Int)==1&&(HT.fF items.size items.size hi - HT.fF items.size 0 lo)==items.size)=true then _ else _) _ _ s
 rw [if_pos hyes]
 unfold Builtin.Tuple.tupleIsExact
 refine aa (aa (gn ht.typeIs (af ?_)))
 rw [if_pos (by decide)]
 exact aa (fc (af ⟨_,rfl,af h⟩))
section
variable {X:Cx}{ρ:eG}{e a b:Expr}{d:D}{ds:List D}{pos p p2:Pos}
def HV(K:Frag):V->Option Int->Option Int->Hp->VK->Prop:=fun x lo hi H Q=> ∃a xs,x= .ref a/\i4 K H a xs/\
 (HT.fF xs.length 0 lo=0/\HT.fF xs.length xs.length hi=xs.length->Q (.ref a) H)/\(¬(HT.fF xs.length 0 lo=0/\HT.fF xs.length xs.length hi=xs.length)-> ∀p,H p=none->Q (.ref p) (upd H p (.tup (tj xs lo hi))))
theorem DO:IH X (HV X.K):=by
 intro pins s σ H x v vl vu lo hi sl Q I rx hs pl pu h
 obtain⟨a,xs,rfl,hx,q1,q2⟩:=h
 by_cases hw:HT.fF xs.length 0 lo=0/\HT.fF xs.length xs.length hi=xs.length
 ·cases rx
  obtain⟨bL,r,ht,hz⟩:=I.tuple hx
  have hlen:bL.toArray.size=xs.length:=by rw [ax]; exact r.length.symm
  refine⟨"tuple",_,c_.lookup,ht.typeIs, ?_⟩
  exact DU ht hs pl pu (by rw [hlen]; exact hw) ⟨.ref a,H,I,rfl,q1 hw⟩
 ·exact GU pins s σ H (.ref a) v vl vu lo hi sl Q I rx hs pl pu ⟨a,xs,rfl,hx,hw,q2 hw⟩
def cutD(ds:List D)(lo hi:Option Int):List D:=(ds.drop (HT.fF ds.length 0 lo)).take (HT.fF ds.length ds.length hi - HT.fF ds.length 0 lo)
theorem cw.cut{K:Frag}{M:MP}{H:Hp}{xs:List V}{lo hi:Option Int}(h:cw K M H ds xs):cw K M H (cutD ds lo hi) (tj xs lo hi):=by
 unfold cutD tj
 rw [h.len]
 exact(h.drop _).take _
theorem Cg{lo hi:Option Int}(h:HT.fF ds.length 0 lo=0/\HT.fF ds.length ds.length hi=ds.length):cutD ds lo hi=ds:=by
 unfold cutD
 rw [h.1,h.2,mL,Nat.sub_zero,dq]
def si(X:Cx)(ρ:eG)(e:Option Expr)(o:Option Int):Prop:=match e,o with
 | none,o=>o=none
 | some e,o=> ∃i,o=some i/\av X ρ e (.int i)
theorem si.none:si X ρ none none:=rfl
theorem si.some{i:Int}(h:av X ρ e (.int i)):si X ρ (some e) (some i):=⟨i,rfl,h⟩
theorem si.run{eo:Option Expr}{o:Option Int}(h:si X ρ eo o): ∃t,PO X eo t/\ ∀(M0:MP) (H0:Hp) (γ:List (D×V)) (α:Nat->Addr) (σ:St) (H:Hp) (Q:Option Int->Hp->Prop),Rep X.K M0 H0 γ α ρ σ H->(∀H',bI H H'->Q o H')->t σ H Q:=by
 cases eo with
 | none=>
  cases (show o=Option.none from h)
  exact⟨_,DV,fun M0 H0 γ α σ H Q R k=>k H (bI.refl _)⟩
 | some e=>
  obtain⟨i,rfl,h⟩:=h
  exact⟨_,ER f7,fun M0 H0 γ α σ H Q R k=>h M0 H0 γ α σ H _ R fun v H1 s1 d1=>⟨i,d1,k H1 s1⟩⟩
theorem av.cutT{lo hi:Option Expr}{l u:Option Int}(ha:av X ρ a (.tup ds))(hl:si X ρ lo l)(hh:si X ρ hi u):av X ρ (.Subscript a (.Slice lo hi none p2) pos) (.tup (cutD ds l u)):=by
 obtain⟨tl,l1,l2⟩:=hl.run
 obtain⟨th,h1,h2⟩:=hh.run
 intro M0 H0 γ α σ H Q R k
 refine(vN DO f7 l1 h1).to (ha M0 H0 γ α σ H _ R fun v H1 s1 d1=>l2 M0 H0 γ α σ H1 _ (R.next s1) fun H2 s2=>h2 M0 H0 γ α σ H2 _ ((R.next s1).next s2) fun H3 s3=> ?_)
 obtain⟨q,xs,rfl,sq,dn⟩:=d1.same (s2.trans s3)
 refine⟨q,xs,rfl,sq,fun hw=> ?_,fun hw l hl=> ?_⟩
 ·rw [dn.len]at hw
  exact k _ H3 ((s1.trans s2).trans s3) ⟨q,xs,rfl,sq,by rw [Cg hw]; exact dn⟩
 ·exact k _ _ (((s1.trans s2).trans s3).trans (bB hl)) ⟨l,_,rfl,i4.of bC,dn.cut.same (bB hl)⟩
theorem ff.cutL{lo hi:Option Expr}{l u:Option Int}(ha:ky X ρ a (.lst ds))(hl:si X ρ lo l)(hh:si X ρ hi u):ff X ρ (.Subscript a (.Slice lo hi none p2) pos) (cutD ds l u):=by
 obtain⟨tl,l1,l2⟩:=hl.run
 obtain⟨th,h1,h2⟩:=hh.run
 intro M0 H0 γ α σ H Q R k
 refine(vN DP f7 l1 h1).to (ha M0 H0 γ α σ H _ R fun v H1 s1 d1=>l2 M0 H0 γ α σ H1 _ (R.next s1) fun H2 s2=>h2 M0 H0 γ α σ H2 _ ((R.next s1).next s2) fun H3 s3=> ?_)
 obtain⟨q,xs,rfl,sq,dn⟩:=d1.same (s2.trans s3)
 exact⟨q,xs,rfl,sq,fun l hl=>k l _ H3 _ ((s1.trans s2).trans s3) hl (bB hl) bC ((mY hl dn.cut).same (bB hl))⟩
def GZ(K:Frag):R2:=fun x y H Q=> ∃a b xs ys,x= .ref a/\y= .ref b/\i4 K H a xs/\i4 K H b ys/\xs.length+ys.length<=sizeLine/\(xs= []->Q (.ref b) H)/\(xs≠ []->ys= []->Q (.ref a) H)/\(xs≠ []->ys≠ []-> ∀p,H p=none->Q (.ref p) (upd H p (.tup (xs ++ ys))))
theorem Bj:l7 X (iQ .Add) (GZ X.K):=by
 intro pins s σ H x y v u Q I rx ry h
 obtain⟨a,b,xs,ys,rfl,rfl,ha,hb,hz,q0,q1,q2⟩:=h
 by_cases hx:xs= []
 ·cases rx
  cases ry
  obtain⟨bL,r1,⟨⟨cls,dd,data,sl⟩,ho,hc,n,hd⟩,_⟩:=I.tuple ha
  obtain⟨its2,r2,⟨⟨cls2,dd2,data2,sl2⟩,ho2,hc2,n2,hd2⟩,_⟩:=I.tuple hb
  simp only at hc hd hc2 hd2
  subst hc hd hc2 hd2
  have e:bL= []:=r1.nil_iff.mpr hx
  exact yj ⟨_,ho,rfl⟩ ⟨_,ho2,rfl⟩ Fe seq_tuple_add yk w8 (wK _ _)
   (Cf a b bL.toArray its2.toArray n n2 dd dd2 sl sl2 (by simp [e])) ⟨ho,ho2,⟨.ref b,H,I,rfl,q0 hx⟩⟩
 ·exact Ep pins s σ H (.ref a) (.ref b) v u Q I rx ry ⟨a,b,xs,ys,rfl,rfl,ha,hb,hx,hz,q1 hx,q2 hx⟩
theorem cw.nil_iff{K:Frag}{M:MP}{H:Hp}{xs:List V}(h:cw K M H ds xs):xs= []->ds= []:=fun e=>by
 have:=h.len
 rw [e]at this
 exact w9.mp this.symm
theorem av.catT{fs:List D}(ha:av X ρ a (.tup ds))(hb:av X ρ b (.tup fs))(hl:ds.length+fs.length<=1000000):av X ρ (.BinOp a .Add b pos) (.tup (ds ++ fs)):=fun M0 H0 γ α σ H Q R k=>
 (C9 Bj f7 f7).to (ha M0 H0 γ α σ H _ R fun v H1 s1 d1=>hb M0 H0 γ α σ H1 _ (R.next s1) fun u H2 s2 d2=>by
  obtain⟨q,xs,rfl,sq,dn⟩:=d1.same s2
  obtain⟨q2,xs2,rfl,sq2,dn2⟩:=d2
  refine⟨q,q2,xs,xs2,rfl,rfl,sq,sq2,by rw [dn.len,dn2.len]; exact ji hl,fun e=> ?_,fun _ e=> ?_,fun _ _ l hl'=> ?_⟩
  ·exact k _ H2 (s1.trans s2) ⟨q2,xs2,rfl,sq2,by rw [dn.nil_iff e]; exact dn2⟩
  ·exact k _ H2 (s1.trans s2) ⟨q,xs,rfl,sq,by rw [dn2.nil_iff e,bj]; exact dn⟩
  ·exact k _ _ ((s1.trans s2).trans (bB hl')) ⟨l,_,rfl,i4.of bC,(cw.app dn dn2).same (bB hl')⟩)
end
end Z
namespace Tx
def IC{α:Type} [DecidableEq α](s:List α)(a:α):List α:=if a∈s then s else s ++ [a]
def uniq{α:Type} [DecidableEq α](l:List α):List α:=l.foldl IC []
end Tx
namespace Z
open PySem PySem.Spec PyProof.Rows L2
end Z
namespace Z
open PySem PySem.Spec PyProof.Rows L2
theorem yE{i:Int}:oM "int" (.int i)=true:=by simp [oM,Fz]
theorem vf{i:Int}:oM "bool" (.int i)=false:=by simp [oM,Fz]
theorem kc{ds:List D}:oM "tuple" (.tup ds)=true:=by simp [oM,Fz]
theorem AR{d:D}(h:D.flat 60 d):D.eqv d d=true:=by
 unfold D.eqv
 exact PySem.SeqAt.eqv_refl _ (jI 60 d h).1
end Z
namespace Z
open PySem PySem.Spec PyProof.Rows L2
section
variable {P:ar}{w:World}{K:Frag}{mg:Str->Option Value}{base:Heap}{CX:fJ}{k:Nat}{x qual:Str}{st:Stmt}{f:Addr}{fd:aV}{N ps:List Str}{ι:Type}{args:ι->List D}{pre:ι->Prop}{res:ι->Except Addr D}
theorem yW(F:iY K x qual st f fd)(S:bN N ps (aJ st))(hl: ∀i,(args i).length=ps.length)
  (body: ∀(cdv:Value) (A:bp) (outer:List Env) (s:ah) (H:Hp) (E:XK) (i:ι) (M0:MP),pre i->eL k (A.deeper (ki qual (aJ st) s.heap.objs.size f cdv))->
   ∃d,res i= .ok d/\WS (kW CX P w K mg base N qual (aJ st) f cdv A outer s H E).nox M0 H (bx st) (ql N (args i)) {N:=fun _=>d= .non,R:=fun d'=>d'=d}):kC P w K mg base CX (k+1) f fd ps (lj K args pre res):=by
 obtain⟨oc,od,kV,doc,pm,an,cdv,ct,osl,rfl,lk,hcd⟩:=F.ex
 refine vx lk hcd S (fun vs H Q E ⟨i,M0,_,h,_⟩=>by rw [h.len,hl]) fun A outer s H vs Q E hr hsp=> ?_
 obtain⟨i,M0,hM,h,hp,k1,k2⟩:=hsp
 obtain⟨d,hd,ws⟩:=body cdv A outer s H E i M0 hp hr
 refine⟨kB _ (bx st),(fg (X:=(kW CX P w K mg base N qual (aJ st) f cdv A outer s H E).nox)).nox, ?_⟩
 refine kB.mono (En:=ends K M0 H [] {N:=fun _=>d= .non,R:=fun d'=>d'=d}) (fun σ' H' ⟨α,ρ,R,e⟩=> ?_) (fun v H' ⟨d',e,sm,dn⟩=> ?_) (fun _ _ ⟨_,_,_,z⟩=>z.elim) (fun _ _ ⟨_,_,_,z⟩=>z.elim) (ws [] (fun _=>0) _ H (rep0 hM h))
 ·exact k1 d hd .non H' R.same (by rw [e]; exact rfl)
 ·subst e
  exact k1 _ hd v H' sm dn
end
abbrev yq(K:Frag):Sp:=lj K (fun ns:List Int=> [D.lst (ns.map .int)]) (fun ns=>ns.length<=63) (fun _=> .ok (.bl true))
end Z
namespace Z
open PySem PySem.Spec PyProof.Rows
def eM(t:cz):Nat->cN->cN
 | 0,p=>p
 | k+1,p=>eM t k (t.advance p)
theorem jK(t:cz): ∀(k l:Nat) (p:cN),eM t (k+l) p=eM t l (eM t k p)
 | 0,l,p=>by rw [yn]; rfl
 | k+1,l,p=>by rw [Nat.succ_add]; exact jK t k l (t.advance p)
theorem Hh{t:cz}(hm:t.mask=7){p:cN}(h0:p.more=0):t.advance p={p with j:=(p.i * 5+1+p.perturb / 32) % 8,more:=0,i:=(p.i * 5+1+p.perturb / 32) % 8,perturb:=p.perturb / 32}:=by
 unfold SetTable.advance
 rw [h0,if_neg (by decide),hm]
 unfold SetTable.leap FR
 dsimp only
 have: ¬((p.i * 5+1+p.perturb / 32) % (7+1)+9<=7):=by omega
 rw [if_neg this]
 simp
structure mz(p:cN):Prop where
 more:p.more=0
 ij:p.i=p.j
 lt:p.j < 8
 dm:p.dummy=none
theorem mz.adv{t:cz}(hm:t.mask=7){p:cN}(h:mz p):mz (t.advance p):=by
 rw [Hh hm h.more]
 exact⟨rfl,rfl,Nat.mod_lt _ (by decide),h.dm⟩
theorem mz.eM{t:cz}(hm:t.mask=7): ∀{k:Nat} {p:cN},mz p->mz (Z.eM t k p)
 | 0,_,h=>h
 | k+1,_,h=>mz.eM hm (k:=k) (h.adv hm)
theorem va{t:cz}(hm:t.mask=7): ∀(k:Nat) (p:cN),mz p->(eM t k p).perturb=p.perturb / 32 ^ k
 | 0,p,_=>by show p.perturb=p.perturb / 1; rw [Nat.div_one]
 | k+1,p,h=>by
  show(eM t k (t.advance p)).perturb=_
  rw [va hm k _ (h.adv hm),Hh hm h.more]
  show p.perturb / 32 / 32 ^ k=_
  rw [Nat.div_div_eq_div_mul,Nat.pow_succ,Nat.mul_comm]
def Ko(j:Nat):Nat:=(j * 5+1) % 8
def zu:Nat->Nat->Nat
 | 0,j=>j
 | k+1,j=>zu k (Ko j)
theorem zc{t:cz}(hm:t.mask=7): ∀(k:Nat) (p:cN),mz p->p.perturb=0->(eM t k p).j=zu k p.j
 | 0,p,_,_=>rfl
 | k+1,p,h,hp=>by
  show(eM t k (t.advance p)).j=zu k (Ko p.j)
  have e:=Hh hm h.more
  rw [zc hm k _ (h.adv hm) (by rw [e]; show p.perturb / 32=0; rw [hp]),e]
  show zu k ((p.i * 5+1+p.perturb / 32) % 8)=_
  rw [hp,h.ij]
  rfl
theorem Er: ∀j:Fin 8, ∀r:Fin 8, ∃k:Fin 8,zu k.1 j.1=r.1:=by decide
theorem wC: ∀(n:Nat) (l:List Nat),(∀r,r < n->r∈l)->n<=l.length
 | 0,_,_=>bO _
 | n+1,l,h=>by
  have hn:=h n (eu n)
  have h1:=wC n (l.erase n) fun r hr=>(List.mem_erase_of_ne (aM hr)).mpr (h r (cX hr))
  have h2:=List.length_erase_of_mem hn
  have h3:=List.length_pos_of_mem hn
  omega
theorem sN{t:cz}(hd:t.dummies= #[]){r:Nat}(h:r∉t.place.toList):t.slot r= .empty:=by
 unfold wM
 dsimp only
 have h1:(t.place[cC t.place r]? ==some r)=false:=by
  rw [beq_eq_false_iff_ne]
  intro e
  exact h (by simpa using zi e)
 rw [h1,hd]
 rfl
theorem xS{t:cz}(hd:t.dummies= #[])(r:Nat):t.slot r= .empty\/ ∃i,t.slot r= .live i/\t.place[i]? =some r:=by
 unfold wM
 dsimp only
 by_cases h1:(t.place[cC t.place r]? ==some r)=true
 ·rw [if_pos h1]
  exact .inr ⟨_,rfl,mS h1⟩
 ·rw [if_neg h1,hd]
  exact .inl rfl
theorem reach{t:cz}(hm:t.mask=7)(hd:t.dummies= #[])(hs:t.place.size < 8){p:cN}(hp:mz p)(hb:p.perturb < 2 ^ 64): ∃K,K<=20/\t.slot (eM t K p).j= .empty:=by
 have: ∃r,r < 8/\r∉t.place.toList:=by
  apply u6
  intro hn
  have:=wC 8 t.place.toList fun r hr=>u6 fun z=>hn ⟨r,hr,z⟩
  simp at this
  omega
 obtain⟨r,hr,hnr⟩:=this
 have hq:=mz.eM hm (k:=13) hp
 have he: ∀k,eM t (13+k) p=eM t k (eM t 13 p):=fun k=>jK t 13 k p
 have hz:(eM t 13 p).perturb=0:=by
  rw [va hm 13 p hp]
  exact Nat.div_eq_of_lt (aY hb (by decide +kernel))
 generalize eM t 13 p=q at hq hz he
 obtain⟨⟨k,hk8⟩,hk⟩:=Er ⟨q.j,hq.lt⟩ ⟨r,hr⟩
 have hk':zu k q.j=r:=hk
 refine⟨13+k,by omega, ?_⟩
 rw [he,zc hm k _ hq hz,hk']
 exact sN hd hnr
theorem A0{t:cz}(hm:t.mask=7)(h:Int):mz (t.probeStart h)/\(t.probeStart h).perturb < 2 ^ 64:=by
 unfold SetTable.probeStart
 dsimp only
 rw [hm]
 have: ¬(SetTable.bits h % (7+1)+9<=7):=by omega
 refine⟨⟨?_,rfl,Nat.mod_lt _ (by decide),rfl⟩, ?_⟩
 ·show FR 7 _ - _=0
  unfold FR
  rw [if_neg this]
  omega
 ·show SetTable.bits h < 2 ^ 64
  unfold SetTable.bits
  have h1:=gS h (show(0:Int) < 2 ^ 64 by decide)
  have h2:=i7 h (show(2 ^ 64:Int)≠0 by decide)
  omega
theorem BG{t:cz}(hm:t.mask=7)(hd:t.dummies= #[]){hashAt:Nat->Int}{h:Int}: ∀(K:Nat) (p:cN) (fuel:Nat),mz p->t.slot (eM t K p).j= .empty->K < fuel->
  (∃j m,eX t hashAt h fuel p=some (.empty j none)/\t.slot j= .empty/\j < 8/\j=(eM t m p).j/\ ∀m',m' < m-> ∃i,t.slot (eM t m' p).j= .live i/\hashAt i≠h)\/
  ∃j i next K' m,eX t hashAt h fuel p=some (.candidate j i next)/\t.slot j= .live i/\t.place[i]? =some j/\K' < K/\t.slot (eM t K' next).j= .empty/\mz next/\j=(eM t m p).j/\next=eM t (m+1) p/\ ∀m',m' < m-> ∃i,t.slot (eM t m' p).j= .live i/\hashAt i≠h
 | K,p,0,_,_,hf=>by omega
 | 0,p,fuel+1,hp,he,_=>by
  refine .inl ⟨p.j,0, ?_,he,hp.lt,rfl,fun m' h=>absurd h (i8 _)⟩
  show(match t.slot p.j with | .empty=>some (oj p.j p.dummy) | .dummy=>_ | .live i=>_)=_
  rw [show t.slot p.j= .empty from he,hp.dm]
 | K+1,p,fuel+1,hp,he,hf=>by
  rcases xS hd p.j with hs | ⟨i,hs,hi⟩
  ·refine .inl ⟨p.j,0, ?_,hs,hp.lt,rfl,fun m' h=>absurd h (i8 _)⟩
   show(match t.slot p.j with | .empty=>some (oj p.j p.dummy) | .dummy=>_ | .live i=>_)=_
   rw [hs,hp.dm]
  ·by_cases hh:hashAt i=h
   ·refine .inr ⟨p.j,i,t.advance p,K,0, ?_,hs,hi,eu _,he,hp.adv hm,rfl,rfl,fun m' h=>absurd h (i8 _)⟩
    show(match t.slot p.j with | .empty=>some (oj p.j p.dummy) | .dummy=>eX t hashAt h fuel (t.advance {p with dummy:=some p.j}) | .live i=>if hashAt i==h then some (SetTable.Met.candidate p.j i (t.advance p))else eX t hashAt h fuel (t.advance p))=_
    rw [hs]
    dsimp only
    rw [if_pos (by rw [hh]; exact beq_self_eq_true h)]
   ·have e:eX t hashAt h (fuel+1) p=eX t hashAt h fuel (t.advance p):=by
     show(match t.slot p.j with | .empty=>some (oj p.j p.dummy) | .dummy=>eX t hashAt h fuel (t.advance {p with dummy:=some p.j}) | .live i=>if hashAt i==h then some (SetTable.Met.candidate p.j i (t.advance p))else eX t hashAt h fuel (t.advance p))=_
     rw [hs]
     dsimp only
     rw [if_neg (by simpa using hh)]
    rw [e]
    have one: ∀m,(∀m',m' < m-> ∃i,t.slot (eM t m' (t.advance p)).j= .live i/\hashAt i≠h)-> ∀m',m' < m+1-> ∃i,t.slot (eM t m' p).j= .live i/\hashAt i≠h:=fun m hv m' hm'=>by
     cases m' with
     | zero=>exact⟨i,hs,hh⟩
     | succ m'=>exact hv m' (by omega)
    rcases BG hm hd K (t.advance p) fuel (hp.adv hm) he (by omega)with⟨j,m,h1,h2,h3,h4,h5⟩ | ⟨j,i',next,K',m,h1,h2,h3,h4,h5,h6,h7,h8,h9⟩
    ·exact .inl ⟨j,m+1,h1,h2,h3,h4,one m h5⟩
    ·exact .inr ⟨j,i',next,K',m+1,h1,h2,h3,cX h4,h5,h6,h7,h8,one m h9⟩
def xa:List Nat->List (List Nat)
 | []=> [[]]
 | a::l=>(xa l).map (a:: ·) ++ xa l
def subs:List (List Nat):=(xa [0,1,2,3,4,5,6,7]).filter fun l=>l.length<=4
theorem Bh: []∈subs:=by decide +kernel
theorem CG:(subs.all fun l=>l.length==4 || [0,1,2,3,4,5,6,7].all fun j=>(l.toArray[cC l.toArray j]? ==some j) || subs.contains (bR l.toArray (cC l.toArray j) j).toList)=true:=by decide +kernel
theorem Al:(subs.all fun l=>(cn (l.length+1)).all fun i=>cC l.toArray (if i==0 then 0 else l.getD (i - 1) 0+1)==i)=true:=by decide +kernel
theorem DX:(subs.all fun l=>(cn l.length).all fun i=>cC l.toArray (l.getD i 0)==i)=true:=by decide +kernel
theorem EO:(subs.all fun l=> [0,1,2,3,4,5,6,7].all fun j=>decide (cC l.toArray j<=l.length))=true:=by decide +kernel
theorem CA{pl:Array Nat}(h:pl.toList∈subs){j:Nat}(hj:j < 8):cC pl j<=pl.size:=by
 have h1:=cD.mp EO _ h
 have hm:j∈ [0,1,2,3,4,5,6,7]:=by simp only [aN,eA,or_false]; omega
 have h2:=of_decide_eq_true (cD.mp h1 j hm)
 rw [aj]at h2
 exact h2
theorem slot_of{t:cz}(hp:t.place.toList∈subs){i r:Nat}(h:t.place[i]? =some r):t.slot r= .live i:=by
 have hi:i < t.place.size:=(cY.mp h).1
 have h1:=cD.mp DX _ hp
 have h2:=mS (cD.mp h1 i (g8.mpr (by rw [aj]; exact hi)))
 have e:t.place.toList.getD i 0=r:=by rw [aF,bb,h]; rfl
 rw [e]at h2
 have h3:cC t.place r=i:=h2
 unfold wM
 dsimp only
 rw [h3,h,if_pos (beq_self_eq_true _)]
theorem slot_mem{t:cz}(hd:t.dummies= #[])(hp:t.place.toList∈subs){r:Nat}:t.slot r≠ .empty↔r∈t.place.toList:=by
 constructor
 ·intro h
  exact u6 fun z=>h (sN hd z)
 ·intro h e
  obtain⟨i,hi,e1⟩:=fi h
  have:=slot_of hp (i:=i) (r:=r) (by rw [<-bb,ai hi,e1])
  rw [this]at e
  cases e
theorem Ex{pl:Array Nat}(h:pl.toList∈subs)(h4:pl.size < 4){j:Nat}(hj:j < 8)(he: ¬pl[cC pl j]? =some j):(bR pl (cC pl j) j).toList∈subs:=by
 have h1:=cD.mp CG _ h
 rw [rV]at h1
 rcases h1 with h1 | h1
 ·have:pl.toList.length=4:=mS h1
  rw [aj]at this
  omega
 ·have hm:j∈ [0,1,2,3,4,5,6,7]:=by simp only [aN,eA,or_false]; omega
  have h2:=cD.mp h1 j hm
  rw [rV]at h2
  rcases h2 with h2 | h2
  ·exact absurd (mS h2) he
  ·exact List.contains_iff_mem.mp h2
theorem CW{pl:Array Nat}(h:pl.toList∈subs){i:Nat}(hi:i<=pl.size):cC pl (if i=0 then 0 else pl.getD (i - 1) 0+1)=i:=by
 have h1:=cD.mp Al _ h
 have h2:=cD.mp h1 i (g8.mpr (by rw [aj]; omega))
 have h3:=mS h2
 have e:pl.toList.getD (i - 1) 0=pl.getD (i - 1) 0:=by simp [aF,sV]
 rw [e]at h3
 by_cases h0:i=0
 ·subst h0; exact h3
 ·rw [if_neg h0]
  rw [if_neg (by simpa using h0)]at h3
  exact h3
section
variable {prog:ar}{w:World}
abbrev TK(prog:ar)(w:World)(h:Heap)(ks:List Int)(b:Addr):Prop:=IsTupleKey (fh prog w) h ks b
abbrev jV(prog:ar)(w:World)(ks:List Int):Int:=tupleKeyHash (fh prog w) ks
structure PS(prog:ar)(w:World)(led:Bool)(h:Heap)(a:Addr)(o:Obj)(es:Array (Int×Value))(ep:Nat)(t:cz):Prop where
 get:h.get? a=some o
 ex:o.ExactSet
 dat:o.data= .set es ep t
 mask:t.mask=7
 Ed:t.dummies= #[]
 size:t.place.size=es.size
 plain:t.plain=true
 led:t.led=led
 kr:es.size<=4
 pl:t.place.toList∈subs
 el: ∀e∈es.toList, ∃ks b,e=(jV prog w ks,ao b)/\TK prog w h ks b
 on: ∀(i:Nat) (e:Int×Value),es[i]? =some e-> ∃K,t.place[i]? =some (eM t K (t.probeStart e.1)).j/\ ∀K',K' < K->t.slot (eM t K' (t.probeStart e.1)).j≠ .empty
 nd: ∃kk:List (List Int),kk.length=es.size/\kk.Nodup/\ ∀(i:Nat) (k:List Int),kk[i]? =some k-> ∃b,es[i]? =some (jV prog w k,ao b)/\TK prog w h k b
variable {led:Bool}{a:Addr}{o:Obj}{es:Array (Int×Value)}{ep:Nat}{t:cz}{A:bp}{E:Value->ah->Prop}{s:ah}
theorem PS.fits(S:PS prog w led s.heap a o es ep t):t.fits es.size=true:=by
 unfold SetTable.fits SetTable.fill
 rw [S.size,S.Ed,S.mask]
 have:=S.kr
 simp
 omega
theorem PS.state{Q:(Array (Int×Value)×Nat×cz)->ah->Prop}(S:PS prog w led s.heap a o es ep t)(h:Q (es,ep,t) s):wpAny (model prog w) A (setState a) Q E s:=
 wpAny_setState_of S.get S.dat S.fits h
theorem uf{ks:List Int}{vs:List Value}(h:jz (fh prog w) ks vs): ∀v∈vs, ∃i tk,v=fH i tk:=by
 induction h with
 | nil=>intro v hv; cases hv
 | cons h1 _ ih=>
  intro v hv
  rcases aN.mp hv with rfl | hv
  ·obtain⟨t,rfl⟩:=jW h1
   exact⟨_,t,rfl⟩
  ·exact ih v hv
theorem wd{ks:List Int}{b:Addr}{Q:Bool->ah->Prop}{n:Nat}(hk:TK prog w s.heap ks b)(h:Q false s):wpAny (model prog w) A (oW (n+1) (.ref b)) Q E s:=by
 obtain⟨ob,items,m,ho,hc,hd,hi⟩:=id hk
 unfold oW
 refine aa (gn hk.typeIs ?_)
 dsimp only
 rw [if_pos (by decide)]
 refine aa (af ?_)
 simp only [dz,aS,if_false]
 refine aa (cZ ho hd ?_)
 dsimp only
 have loop: ∀(l:List Value),(∀v∈l, ∃i tk,v=fH i tk)->wpAny (model prog w) A (forIn l ((none,()):Option Bool×Unit) fun y __s=>do
      let __do_lift<-oW n y
      if __do_lift=true then pure (ForInStep.done (some true,()))else pure (gH (none,()))) (fun r s'=>r=(none,())/\s'=s) E s:=by
  intro l
  induction l with
  | nil=>intro _; rw [fW]; exact af ⟨rfl,rfl⟩
  | cons v l ih=>
   intro hv
   rw [cP]
   obtain⟨i,tk,rfl⟩:=hv v (.head _)
   have e:oW n (.int i tk)=pure false:=by cases n <;> rfl
   rw [e]
   exact aa (af (ih fun x hx=>hv x (.tail _ hx)))
 rw [<-fC]
 refine aa (cF (loop items.toList (uf hi)) (fun r s' hr=> ?_) fun _ _ x=>x)
 obtain⟨rfl,rfl⟩:=hr
 exact af h
theorem EK{ks:List Int}{b:Addr}{Q:Bool->ah->Prop}{n:Nat}(hk:TK prog w s.heap ks b)(h:Q true s):wpAny (model prog w) A (Aw (n+1) (.ref b)) Q E s:=by
 obtain⟨ob,items,m,ho,hc,hd,hi⟩:=id hk
 unfold Aw
 refine aa (gI hk.typeIs PySem.F.slot_tuple_hash.lookup ?_)
 refine aa (cZ ho hd ?_)
 have loop: ∀(l:List Value),(∀v∈l, ∃i tk,v=fH i tk)->wpAny (model prog w) A (forIn l ((none,()):Option Bool×Unit) fun x __s=>do
      let __do_lift<-Aw n x
      if(!__do_lift)=true then pure (ForInStep.done (some false,()))else pure (gH (none,()))) (fun r s'=>r=(none,())/\s'=s) E s:=by
  intro l
  induction l with
  | nil=>intro _; rw [fW]; exact af ⟨rfl,rfl⟩
  | cons v l ih=>
   intro hv
   rw [cP]
   obtain⟨i,tk,rfl⟩:=hv v (.head _)
   have e:Aw n (.int i tk)=pure true:=by cases n <;> rfl
   rw [e]
   exact aa (af (ih fun x hx=>hv x (.tail _ hx)))
 rw [Option.getD_some, <-fC]
 refine aa (cF (loop items.toList (uf hi)) (fun r s' hr=> ?_) fun _ _ x=>x)
 obtain⟨rfl,rfl⟩:=hr
 exact af h
theorem Bp{ks:List Int}{b:Addr}{Q:Bool->ah->Prop}(hk:TK prog w s.heap ks b): ∀(l:List Value),(∀v∈l, ∃ks' b',v=ao b'/\TK prog w s.heap ks' b')->Q false s->wpAny (model prog w) A (searchCouldBeSeen (.ref b) l) Q E s:=by
 intro l hl h
 unfold searchCouldBeSeen
 have loop: ∀(l:List Value),(∀v∈l, ∃ks' b',v=ao b'/\TK prog w s.heap ks' b')-> ∀body:Value->Option Bool×Unit->Sem (ForInStep (Option Bool×Unit)),
   (∀ks' b' (R:ForInStep (Option Bool×Unit)->ah->Prop),TK prog w s.heap ks' b'->R (.yield (none,())) s->wpAny (model prog w) A (body (.ref b') (none,())) R E s)->
   wpAny (model prog w) A (forIn l ((none,()):Option Bool×Unit) body) (fun r s'=>r=(none,())/\s'=s) E s:=by
  intro l
  induction l with
  | nil=>intro _ body hb; rw [fW]; exact af ⟨rfl,rfl⟩
  | cons v l ih=>
   intro hv body hb
   rw [cP]
   obtain⟨ks',b',rfl,hk'⟩:=hv v (.head _)
   exact aa (hb ks' b' _ hk' (ih (fun x hx=>hv x (.tail _ hx)) body hb))
 refine aa (cF (loop l hl _ fun ks' b' R hk' hR=> ?_) (fun r s' hr=> ?_) fun _ _ x=>x)
 ·dsimp only
  split
  ·exact af hR
  ·refine aa (wpAny_eqIsQuiet_tuple hk ?_)
   simp only [dz,aS,if_false]
   refine aa (wpAny_eqIsQuiet_tuple hk' ?_)
   simp only [dz,aS,if_false]
   refine aa (wd hk ?_)
   simp only [aS,if_false]
   refine aa (wd hk' ?_)
   simp only [aS,if_false]
   exact af hR
 ·obtain⟨rfl,rfl⟩:=hr
  exact af h
theorem Ek{t:cz}{j i:Nat}(h:t.slot j= .live i)(hp:t.place[i]? =some j):i < t.place.size:=(cY.mp hp).1
def Cu(prog:ar)(w:World)(h:Heap)(es:Array (Int×Value))(ks:List Int)(i:Nat):Prop:= ∀b,es[i]? =some (jV prog w ks,ao b)-> ¬TK prog w h ks b
theorem r8(hu:A.units < cLine)(S:PS prog w led s.heap a o es ep t){ks:List Int}{b:Addr}(hk:TK prog w s.heap ks b){Q:SetFound->ah->Prop}
  (h1:(∃b',(jV prog w ks,ao b')∈es.toList/\TK prog w s.heap ks b')->Q (.there none) s)(h2: ∀j m,t.slot j= .empty->j < 8->j=(eM t m (t.probeStart (jV prog w ks))).j->(∀m',m' < m-> ∃i,t.slot (eM t m' (t.probeStart (jV prog w ks))).j= .live i/\Cu prog w s.heap es ks i)->Q (.free j false) s):
  ∀(K fuel:Nat) (stand:Option cN) (n0:Nat),stand.getD (t.probeStart (jV prog w ks))=eM t n0 (t.probeStart (jV prog w ks))->(∀m',m' < n0-> ∃i,t.slot (eM t m' (t.probeStart (jV prog w ks))).j= .live i/\Cu prog w s.heap es ks i)->K < fuel->mz (stand.getD (t.probeStart (jV prog w ks)))->t.slot (eM t K (stand.getD (t.probeStart (jV prog w ks)))).j= .empty->K<=20->
   wpAny (model prog w) A (wN a (.ref b) (jV prog w ks) true fuel stand) Q E s
 | K,0,_,_,_,_,hf,_,_,_=>by omega
 | K,fuel+1,stand,n0,hpos,hvis,hf,hp,he,h20=>by
  unfold wN
  refine aa (S.state ?_)
  dsimp only
  have hg:t.gaveWay=false:=by unfold SetTable.gaveWay; rw [S.mask]; rfl
  rw [hg]
  simp only [aS,if_false]
  generalize hpr:t.probe _ _ _=met
  have hturn:10 * SetTable.turns t.mask=220:=by rw [S.mask]; rfl
  have vis: ∀m:Nat,(∀m',m' < m-> ∃i,t.slot (eM t m' (stand.getD (t.probeStart (jV prog w ks)))).j= .live i/\(es[i]?.map (·.1)).getD 0≠jV prog w ks)-> ∀m',m' < n0+m-> ∃i,t.slot (eM t m' (t.probeStart (jV prog w ks))).j= .live i/\Cu prog w s.heap es ks i:=fun m hv m' hm'=>by
   by_cases hlt:m' < n0
   ·exact hvis m' hlt
   ·obtain⟨i,hi1,hi2⟩:=hv (m' - n0) (by omega)
    rw [hpos, <-jK,show n0+(m' - n0)=m' by omega]at hi1
    exact⟨i,hi1,fun b hb _=>hi2 (by rw [hb]; rfl)⟩
  rcases BG S.mask S.Ed (hashAt:=_) (h:=jV prog w ks) K _ (10 * SetTable.turns t.mask) hp he (by rw [hturn]; omega)with⟨j,m,e,hj,hj8,hjm,hv⟩ | ⟨j,i,next,K',m,e,hj,hi,hK,he',hp',hjm,hnx,hv⟩
  ·cases hpr.symm.trans e
   exact af (h2 j (n0+m) hj hj8 (by rw [hjm,hpos, <-jK]) (vis m hv))
  ·cases hpr.symm.trans e
   dsimp only
   have hlt:i < es.size:=by rw [<-S.size]; exact Ek hj hi
   have hm:es[i]∈es.toList:=by simp
   obtain⟨ks',b',ee,hk'⟩:=S.el _ hm
   have hget:es[i]? =some (jV prog w ks',ao b'):=by rw [dg hlt,ee]
   rw [ee]at hm
   have main:wpAny (model prog w) A (match es[i]? with
     | some (_,y)=>do
      let equal<-jc [y] (eqBool y (ao b))
      let __x<-setState a
      if(true&&equal)=true then pure (SetFound.there none)
       else
        match __x.2.snd.sameMemory t.moves t.mask with
        | some same=>do
         let still<-match if same=true then __x.2.snd.slot j else SetTable.Slot.empty with
          | SetTable.Slot.live i'=>
           match __x.fst[i']? with
           | some (_,y')=>do
            let __do_lift<-isSame y' y
            pure (if __do_lift=true then some i' else none)
           | none=>pure none
          | _=>pure none
         match still with
          | none=>do
           rule "set.search.anew"
           wN a (ao b) (jV prog w ks) true fuel none
          | some i'=>
           if equal=true then pure (SetFound.there (some i'))
           else wN a (ao b) (jV prog w ks) true fuel (some next)
        | _=>j4 "set.changed-during-lookup:is-the-new-block-at-the-old-address"
     | _=>j4 "internal:set-entry") Q E s:=by
    rw [hget]
    dsimp only
    refine aa (bD (wpAny_eqBool_tuple hu hk' hk ?_))
    refine aa (S.state ?_)
    by_cases hkk:ks'=ks
    ·subst hkk
     rw [decide_eq_true rfl,if_pos (show(true&&true)=true from rfl)]
     exact af (h1 ⟨b',hm,hk'⟩)
    ·rw [decide_eq_false hkk,if_neg (show ¬(true&&false)=true by decide)]
     have hsm:t.sameMemory t.moves t.mask=some true:=by unfold SetTable.sameMemory; rw [if_pos (beq_self_eq_true _)]
     dsimp only
     rw [hsm]
     dsimp only
     rw [if_pos rfl,hj]
     dsimp only
     rw [hget]
     dsimp only
     refine aa (wpAny_isSame_ref_self ?_)
     rw [if_pos rfl]
     refine aa (af ?_)
     dsimp only
     rw [if_neg (by decide)]
     refine r8 hu S hk h1 h2 K' fuel (some next) (n0+(m+1)) (by rw [Option.getD_some,hnx,hpos, <-jK]) (fun m' hm'=> ?_) (by omega) hp' he' (by omega)
     by_cases hlt:m' < n0+m
     ·exact vis m hv m' hlt
     ·have em:m'=n0+m:=by omega
      subst em
      refine⟨i,by rw [jK, <-hpos, <-hjm]; exact hj,fun b2 hb2 hk2=> ?_⟩
      rw [hget]at hb2
      have e2:b'=b2:=by injection hb2 with z; injection z with _ z; injection z
      rw [<-e2]at hk2
      exact hkk (mM hk' hk2)
   by_cases hl:t.led=true
   ·rw [hl]
    simp only [dz,aS,if_false]
    exact main
   ·rw [Bool.not_eq_true]at hl
    rw [hl]
    simp only [Bool.not_false,if_true]
    refine aa (Bp hk _ (fun v hv=> ?_) ?_)
    ·obtain⟨x,hx,rfl⟩:=aX.mp hv
     have hx':x∈es.toList:=by
      have:x∈es/\x.fst=jV prog w ks:=by simpa using hx
      simpa using this.1
     obtain⟨ks2,b2,rfl,hk2⟩:=S.el x hx'
     exact⟨ks2,b2,rfl,hk2⟩
    ·simp only [aS,if_false]
     exact main
theorem mq{α:Type}(xs:Array α)(p:Nat)(x:α):(bR xs p x).toList=xs.toList.take p ++ x::xs.toList.drop p:=by
 unfold bR
 simp [iS,c0]
theorem jG{α:Type}(xs:Array α)(p:Nat)(x:α):(bR xs p x).size=xs.size+1:=by
 rw [<-aj,mq,ak,aC,aT,aZ,aj]
 omega
theorem uq{α:Type}(xs:Array α)(p:Nat)(x e:α):e∈(bR xs p x).toList↔e∈xs.toList\/e=x:=by
 rw [mq,bh,aN]
 have h:=aO p xs.toList
 constructor
 ·rintro(h1 | h1 | h1)
  ·exact .inl (fX h1)
  ·exact .inr h1
  ·exact .inl (iT h1)
 ·rintro(h1 | h1)
  ·rw [<-h,bh]at h1
   exact h1.elim .inl fun z=> .inr (.inr z)
  ·exact .inr (.inl h1)
theorem TK.at{h h':Heap}{a b:Addr}{ks:List Int}{o:Obj}{es:Array (Int×Value)}{ep:Nat}{t:cz}(x:TK prog w h ks b)(ho:h.get? a=some o)(hd:o.data= .set es ep t)(sb:bH a h h'):TK prog w h' ks b:=by
 obtain⟨o',items,n,ho',hc,hd',hi⟩:=x
 have hne:b≠a:=by
  rintro rfl
  rw [ho]at ho'
  cases ho'
  rw [hd]at hd'
  cases hd'
 exact⟨o',items,n,(sb.2 b hne).trans ho',hc,hd',hi⟩
theorem lJ{α:Type}{xs:Array α}{p:Nat}(hp:p<=xs.size)(x:α)(i:Nat):(bR xs p x)[i]? =if i < p then xs[i]? else if i=p then some x else xs[i - 1]? :=by
 rw [<-bb,mq,Ax,aT,aj,FT hp]
 by_cases h1:i < p
 ·rw [if_pos h1,if_pos h1,om,if_pos h1,bb]
 ·rw [if_neg h1,if_neg h1]
  by_cases h2:i=p
  ·subst h2
   rw [if_pos rfl,jf]
   rfl
  ·rw [if_neg h2,show i - p=(i - p - 1)+1 by omega,fu,List.getElem?_drop,bb]
   congr 1
   omega
theorem kS(t:cz)(j:Nat): ∀(k:Nat) (p:cN),eM (t.put j).fst k p=eM t k p
 | 0,_=>rfl
 | k+1,p=>by
  show eM (t.put j).fst k ((t.put j).fst.advance p)=eM t k (t.advance p)
  rw [kS t j k]
  rfl
theorem FZ(hu:A.units < cLine)(S:PS prog w led s.heap a o es ep t)(h3:es.size < 4){ks:List Int}{b:Addr}(hk:TK prog w s.heap ks b){Q:Bool->ah->Prop}
  (h1:(∃b',(jV prog w ks,ao b')∈es.toList/\TK prog w s.heap ks b')->Q false s)
  (h2: ∀(h':Heap) (o':Obj) (es':Array (Int×Value)) (t':cz),bH a s.heap h'->PS prog w led h' a o' es' (ep+1) t'->(∀e,e∈es'.toList↔e∈es.toList\/e=(jV prog w ks,ao b))->es'.size=es.size+1->Q true {s with heap:=h'}):
  wpAny (model prog w) A (setAddHashed a (.ref b) (jV prog w ks)) Q E s:=by
 unfold setAddHashed setAddHashedIn
 refine bD (aa (S.state ?_))
 dsimp only
 have hbs:byScan (.ref b) es=false:=rfl
 rw [hbs]
 simp only [aS,if_false]
 obtain⟨p1,p2⟩:=A0 S.mask (jV prog w ks)
 obtain⟨K,hK,he⟩:=reach S.mask S.Ed (by rw [S.size]; have:=S.kr; omega) p1 p2
 refine aa ?_
 unfold setSearch
 refine r8 hu S hk (fun hx=> ?_) (fun j m hj hj8 hjm hvis=> ?_) K 100000 none 0 rfl (fun m' h=>absurd h (i8 _)) (by omega) p1 he hK
 ·exact af (h1 hx)
 ·dsimp only
  refine aa (S.state ?_)
  have hpl:(t.put j).fst.plain=true:=S.plain
  rw [if_pos hpl]
  refine aa (EK hk ?_)
  rw [if_pos rfl]
  have hsz:=S.size
  have hps:(t.put j).fst.place.size=es.size+1:=by
   show(bR t.place _ j).size=_
   rw [jG,hsz]
  have hdm:(t.put j).fst.dummies= #[]:=by
   show(if SetTable.has t.dummies j then SetTable.eraseAt t.dummies (cC t.dummies j)else t.dummies)= #[]
   rw [S.Ed]
   rfl
  have hmk:(t.put j).fst.mask=7:=S.mask
  have hfull:(t.put j).fst.tooFull=false:=by
   unfold SetTable.tooFull SetTable.fill
   rw [hps,hdm,hmk]
   simp
   omega
  refine aa (wpAny_storeSet_of S.get S.dat ?_ (by rw [jG,fy]; show es.size+1<=_; omega))
  rw [hfull]
  simp only [jx,aS,if_false]
  have hpl':(t.put j).fst.place.toList∈subs:=by
   refine Ex S.pl (by rw [hsz]; exact h3) hj8 fun z=> ?_
   unfold wM at hj
   dsimp only at hj
   rw [if_pos (by rw [z]; exact beq_self_eq_true _)]at hj
   cases hj
  have hle:(t.put j).snd<=t.place.size:=CA S.pl hj8
  have hle2:(t.put j).snd<=es.size:=by rw [<-hsz]; exact hle
  have gp: ∀i,(t.put j).fst.place[i]? =if i < (t.put j).snd then t.place[i]? else if i=(t.put j).snd then some j else t.place[i - 1]? :=lJ hle j
  have ge: ∀i,(bR es (t.put j).snd (jV prog w ks,ao b))[i]? =if i < (t.put j).snd then es[i]? else if i=(t.put j).snd then some (jV prog w ks,ao b)else es[i - 1]? :=lJ hle2 _
  have full: ∀r,t.slot r≠ .empty->(t.put j).fst.slot r≠ .empty:=fun r hr=>by
   rw [slot_mem hdm hpl']
   exact(uq _ _ _ _).mpr (.inl ((slot_mem S.Ed S.pl).mp hr))
  have alone: ∀i b',es[i]? =some (jV prog w ks,ao b')-> ¬TK prog w s.heap ks b':=fun i b' hi hk'=>by
   obtain⟨Ki,k1,k2⟩:=S.on i _ hi
   have sl:=slot_of S.pl k1
   by_cases hlt:Ki < m
   ·obtain⟨i',v1,v2⟩:=hvis Ki hlt
    rw [sl]at v1
    cases v1
    exact v2 b' hi hk'
   ·by_cases heq:Ki=m
    ·subst heq
     rw [<-hjm,hj]at sl
     cases sl
    ·exact k2 m (by omega) (by rw [<-hjm]; exact hj)
  have hsb:=bG s.heap a (Obj.putSet (bR es (t.put j).snd (jV prog w ks,ao b)) (t.put j).fst)
  refine af (h2 _ {o with data:= .set (bR es (t.put j).snd (jV prog w ks,ao b)) (ep+1) (t.put j).fst} (bR es (t.put j).snd (jV prog w ks,ao b)) (t.put j).fst hsb ⟨?_, ?_,rfl,hmk,hdm,by rw [hps,jG],hpl,S.led,by rw [jG]; omega,hpl',fun e he=> ?_,fun i e he=> ?_, ?_⟩ (fun e=>uq _ _ _ _) (jG _ _ _))
  ·have:=di (Obj.putSet (bR es (t.put j).snd (jV prog w ks,ao b)) (t.put j).fst) S.get (by rw [putSet_of _ _ S.dat]; rfl)
   rw [putSet_of _ _ S.dat]at this
   exact this
  ·exact S.ex
  ·rcases(uq _ _ _ _).mp he with he | rfl
   ·obtain⟨ks',b',e1,hk'⟩:=S.el e he
    exact⟨ks',b',e1,TK.at hk' S.get S.dat hsb⟩
   ·exact⟨ks,b,rfl,TK.at hk S.get S.dat hsb⟩
  ·have old: ∀i',es[i']? =some e->(t.put j).fst.place[i]? =t.place[i']? -> ∃K,(t.put j).fst.place[i]? =some (eM (t.put j).fst K ((t.put j).fst.probeStart e.1)).j/\ ∀K',K' < K->(t.put j).fst.slot (eM (t.put j).fst K' ((t.put j).fst.probeStart e.1)).j≠ .empty:=fun i' h1 h2=>by
    obtain⟨K,k1,k2⟩:=S.on i' e h1
    refine⟨K,by rw [h2,k1,kS]; rfl,fun K' hK'=> ?_⟩
    rw [kS]
    exact full _ (k2 K' hK')
   rw [ge i]at he
   split at he
   ·rename_i hlt
    exact old i he (by rw [gp i,if_pos hlt])
   ·rename_i hlt
    split at he
    ·rename_i heq
     cases he
     refine⟨m,by rw [gp i,if_neg hlt,if_pos heq,kS,hjm]; rfl,fun K' hK'=> ?_⟩
     rw [kS]
     obtain⟨i',v1,_⟩:=hvis K' hK'
     exact full _ (by show t.slot (eM t K' (t.probeStart (jV prog w ks))).j≠_; rw [v1]; intro z; cases z)
    ·rename_i heq
     exact old (i - 1) he (by rw [gp i,if_neg hlt,if_neg heq])
  ·obtain⟨kk,k1,k2,k3⟩:=S.nd
   have hni:ks∉kk:=fun hm'=>by
    obtain⟨i,hi,e1⟩:=fi hm'
    obtain⟨b',e2,e3⟩:=k3 i ks (by rw [ai hi,e1])
    exact alone i b' e2 e3
   have hlk:(t.put j).snd<=kk.length:=by rw [k1]; exact hle2
   refine⟨kk.take (t.put j).snd ++ ks::kk.drop (t.put j).snd, ?_, ?_,fun i k hk'=> ?_⟩
   ·rw [ak,aC,aT,aZ,jG]
    omega
   ·have hp:(kk.take (t.put j).snd ++ ks::kk.drop (t.put j).snd).Perm (ks::kk):=by
     refine Fg.trans ?_
     rw [aO]
    exact hp.symm.nodup (dM.mpr ⟨hni,k2⟩)
   ·rw [Ax,aT,FT hlk]at hk'
    have keep: ∀(i':Nat) (b':Addr),es[i']? =some (jV prog w k,ao b')->TK prog w s.heap k b'->(bR es (t.put j).snd (jV prog w ks,ao b))[i]? =es[i']? -> ∃b',(bR es (t.put j).snd (jV prog w ks,ao b))[i]? =some (jV prog w k,ao b')/\TK prog w _ k b':=fun i' b' h1 h2 h3=>⟨b',by rw [h3,h1],TK.at h2 S.get S.dat hsb⟩
    by_cases hlt:i < (t.put j).snd
    ·rw [if_pos hlt,om,if_pos hlt]at hk'
     obtain⟨b',e1,e2⟩:=k3 i k hk'
     exact keep i b' e1 e2 (by rw [ge i,if_pos hlt])
    ·rw [if_neg hlt]at hk'
     by_cases heq:i=(t.put j).snd
     ·rw [heq,jf]at hk'
      have:ks=k:=by simpa using hk'
      subst this
      exact⟨b,by rw [ge i,if_neg hlt,if_pos heq],TK.at hk S.get S.dat hsb⟩
     ·rw [show i - (t.put j).snd=(i - (t.put j).snd - 1)+1 by omega,fu,List.getElem?_drop,show(t.put j).snd+(i - (t.put j).snd - 1)=i - 1 by omega]at hk'
      obtain⟨b',e1,e2⟩:=k3 (i - 1) k hk'
      exact keep (i - 1) b' e1 e2 (by rw [ge i,if_neg hlt,if_neg heq])
end
abbrev oJ(w:World):Bool:=w.params.followText "set-order"
section
variable {prog:ar}{w:World}
def tH(prog:ar)(w:World)(h:Heap)(a:Addr)(val:Nat->List Int)(T:Nat->Addr)(i:Nat):Prop:=
 ∃o es ep t,PS prog w (!oJ w) h a o es ep t/\es.size<=i/\(∀e∈es.toList, ∃j,j < i/\e=(jV prog w (val j),ao (T j)))/\ ∀j,j < i-> ∃j',j' < i/\(jV prog w (val j'),ao (T j'))∈es.toList/\val j'=val j
theorem TK.keep{h h':Heap}{b:Addr}{ks:List Int}(x:TK prog w h ks b)(k: ∀o,h.get? b=some o->h'.get? b=some o):TK prog w h' ks b:=by
 obtain⟨o,items,n,ho,r⟩:=x
 exact⟨o,items,n,k o ho,r⟩
theorem tH.at{h h':Heap}{a:Addr}{val:Nat->List Int}{T:Nat->Addr}{i:Nat}(x:tH prog w h a val T i)(hk: ∀o,h.get? a=some o->h'.get? a=some o)(ht: ∀j,j < i-> ∀o,h.get? (T j)=some o->h'.get? (T j)=some o):tH prog w h' a val T i:=by
 obtain⟨o,es,ep,t,S,h1,h2,h3⟩:=x
 have mv: ∀ks b v,(v,ao b)∈es.toList->TK prog w h ks b->TK prog w h' ks b:=fun ks b v hm hk=>by
  obtain⟨j,hj,e⟩:=h2 _ hm
  have e2:b=T j:=by injection e with _ z; injection z
  subst e2
  exact hk.keep (ht j hj)
 refine⟨o,es,ep,t,⟨hk o S.get,S.ex,S.dat,S.mask,S.Ed,S.size,S.plain,S.led,S.kr,S.pl,fun e he=> ?_,S.on, ?_⟩,h1,h2,h3⟩
 ·obtain⟨ks,b,rfl,hkk⟩:=S.el e he
  exact⟨ks,b,rfl,mv ks b _ he hkk⟩
 ·obtain⟨kk,k1,k2,k3⟩:=S.nd
  refine⟨kk,k1,k2,fun i k e=> ?_⟩
  obtain⟨b,e1,e2⟩:=k3 i k e
  exact⟨b,e1,mv k b _ (by simpa using zi e1) e2⟩
variable {A:bp}{R:Result->ah->Prop}{I:Addr}{fp wr:List Addr}{G:Array GenState->Array GenState->Prop}{n:Nat}{P:Nat->Value->Prop}{St:Nat->ah->Prop}
theorem zJ(W:WalksS prog w A.in1 I fp wr G n P St)(hu:A.units+8 < cLine)(S:Addr)(hSf:S∉fp)(val:Nat->List Int)(T:Nat->Addr)(hval: ∀i v,P i v->v=ao (T i))(hT: ∀i,i < n->T i∉wr/\T i≠S)(hn:n<=4):
  ∀(k i:Nat) (s:ah),n - i=k->i<=n->St i s->tH prog w s.heap S val T i->(∀j,j < n->TK prog w s.heap (val j) (T j))->
   (∀s',Moved (S::wr) G s s'->tH prog w s'.heap S val T n->R (.ok (.ret .none)) s')->
   gG (model prog w) A (.builtin "set.update.loop" ⟨[.ref S, .ref I], []⟩) R s:=by
 have hSw:S∉wr:=fun h=>hSf (W.sub _ h)
 have hsub: ∀b∈wr,b∈S::wr:=fun b hb=>bX _ hb
 intro k
 induction k with
 | zero=>
  intro i s hk hi hst hS hTK hR
  have hin:i=n:=by omega
  subst hin
  refine dO PyProof.Rows.F.entry_set_update_loop ?_
  rw [cS gz _]
  show wpAny _ A.in1 (g9 (.ref I) >>=_) _ _ s
  refine aa (W.done s _ _ hst fun s' hm=> ?_)
  show wpAny _ A.in1 (ret a_) _ _ s'
  exact af (hR s' (hm.mono hsub) (hS.at (fun o e=>hm.heap S o hSw e) fun j hj o e=>hm.heap _ o (hT j hj).1 e))
 | succ k ih=>
  intro i s hk hi hst hS hTK hR
  have hlt:i < n:=by omega
  refine dO PyProof.Rows.F.entry_set_update_loop ?_
  rw [cS gz _]
  show wpAny _ A.in1 (g9 (.ref I) >>=_) _ _ s
  refine aa (W.item i s _ _ hlt hst fun v s' hP hst' hm=> ?_)
  have hv:=hval i v hP
  subst hv
  have hTK': ∀j,j < n->TK prog w s'.heap (val j) (T j):=fun j hj=>(hTK j hj).keep fun o e=>hm.heap _ o (hT j hj).1 e
  have hS':tH prog w s'.heap S val T i:=hS.at (fun o e=>hm.heap S o hSw e) fun j hj o e=>hm.heap _ o (hT j (by omega)).1 e
  show wpAny _ A.in1 (jc [ao (T i)] (setAdd S (.ref (T i))) >>=_) _ _ s'
  refine aa (bD ?_)
  unfold setAdd
  refine bD ?_
  refine aa (wpAny_pyHash_tuple (by show A.units+1 < cLine; omega) (hTK' i hlt) ?_)
  obtain⟨o,es,ep,t,PSx,q1,q2,q3⟩:=hS'
  have next: ∀h':Heap,bH S s'.heap h'->tH prog w h' S val T (i+1)-> ∀tk,s'.toks<=tk->
    gG (model prog w) A (.builtin "set.update.loop" ⟨[.ref S, .ref I], []⟩) R {s' with heap:=h',toks:=tk}:=fun h' hsb hSi tk htk=>by
   refine ih (i+1) _ (by omega) hlt (W.frame _ s' _ _ hst' htk fun b hb o e=> ?_) hSi (fun j hj=>(hTK' j hj).keep fun o e=>by rw [hsb.2 _ (hT j hj).2]; exact e) fun s'' hm'' hS''=> ?_
   ·rw [hsb.2 b (fun h:b=S=>hSf (by rw [<-h]; exact hb))]; exact e
   ·refine hR s'' (Moved.trans W.gtrans ((hm.mono hsub).then_heap htk fun b o hb e=> ?_) hm'') hS''
    rw [hsb.2 b (fun h:b=S=>hb (by rw [h]; exact b8))]; exact e
  refine FZ (s:={s' with toks:=s'.toks+((val i).length+1)}) (by show A.units+1 < cLine; omega) PSx (by omega) (hTK' i hlt) (fun hx=> ?_) fun h' o' es' t' hsb PSy hm2 hsz=> ?_
  ·refine af ⟨fe gz _,next s'.heap (dH S s'.heap) ⟨o,es,ep,t,PSx,by omega,fun e he=> ?_,fun j hj=> ?_⟩ _ (Fh _ _)⟩
   ·obtain⟨j,hj,e1⟩:=q2 e he
    exact⟨j,by omega,e1⟩
   ·by_cases hji:j=i
    ·subst hji
     obtain⟨b',hb',hk'⟩:=hx
     obtain⟨j',hj',e1⟩:=q2 _ hb'
     have e2:b'=T j':=by injection e1 with _ e3; injection e3
     rw [e2]at hk' hb'
     have e4:val j'=val j:=mM (hTK' j' (by omega)) hk'
     refine⟨j',by omega, ?_,e4⟩
     rw [e4]
     exact hb'
    ·obtain⟨j',hj',e1,e2⟩:=q3 j (by omega)
     exact⟨j',by omega,e1,e2⟩
  ·refine af ⟨fe gz _,next h' hsb ⟨o',es',ep+1,t',PSy,by omega,fun e he=> ?_,fun j hj=> ?_⟩ _ (Fh _ _)⟩
   ·rcases(hm2 e).mp he with he | he
    ·obtain⟨j,hj,e1⟩:=q2 e he
     exact⟨j,by omega,e1⟩
    ·exact⟨i,by omega,he⟩
   ·by_cases hji:j=i
    ·subst hji
     exact⟨j,by omega,(hm2 _).mpr (.inr rfl),rfl⟩
    ·obtain⟨j',hj',e1,e2⟩:=q3 j (by omega)
     exact⟨j',by omega,(hm2 _).mpr (.inl e1),e2⟩
end
section
variable {prog:ar}{w:World}{A:bp}{E:Value->ah->Prop}{s:ah}
theorem vK(a:Value){Q₁:Value->ah->Prop}(h:Q₁ (.ref s.heap.objs.size) {s with heap:=s.heap.push {cls:= .type "set",dict:=none,data:= .set #[] 0 (.fresh 0 0 (!oJ w))}}):
  gG (model prog w) A (.call (.builtin "set.__new__") ⟨[.type "set",a], []⟩) (wants Q₁ E) s:=by
 refine codeAny_of_tree ?_
 show wpAny _ A.in1 (do checkBuiltinCall "set.__new__" ⟨[.type "set",a], []⟩; again (.builtin "set.__new__" ⟨[.type "set",a], []⟩)) _ _ s
 refine aa (rh (PySem.F.newCall_set_1 a) (af ⟨fe PySem.F.plain_set_new _,dO PySem.F.entry_set_new ?_⟩))
 rw [cS PySem.F.plain_set_new _]
 unfold cG.«set.__new__» Builtin.Frozenset.newClass
 have hsub:=PySem.sub_set_self
 obtain⟨hp,g,d,tk,os⟩:=s
 dsimp only
 wp_walk
 refine kH (af ?_)
 dsimp only
 simp only [newObj]
 refine aa (wpAny_alloc (af ?_))
 exact af h
set_option maxHeartbeats 3200000 in
theorem AV{l:Addr}{items:Array Value}{n:Nat}{val:Nat->List Int}{T:Nat->Addr}{Q:Value->ah->Prop}(hh:A.handled=none)(hu:A.units+16 < cLine)(hl:s.heap.IsList l items)(hn:items.size=n)(h4:n<=4)
  (hi: ∀i,i < n->items[i]? =some (.ref (T i)))(hTK: ∀i,i < n->TK prog w s.heap (val i) (T i))
  (h: ∀(h':Heap) (tk:Nat),tH prog w h' s.heap.objs.size val T n->(∀b o,b < s.heap.objs.size->s.heap.get? b=some o->h'.get? b=some o)->Q (.ref s.heap.objs.size) {s with heap:=h',toks:=tk}):
  wpAny (model prog w) A (call (.type "set") [.ref l]) Q E s:=by
 obtain⟨c,tl,hmro⟩:=eF.mro
 have hmade:=eF.made
 have hsub:=eF.sub
 refine wpAny_call (codeAny_of_tree ?_)
 show wpAny _ _ (callAny (.type "set") _) _ _ _
 refine af ⟨Code.quiet_builtin _ (by decide +kernel),dO PySem.F.entry_type_call ?_⟩
 rw [Around.under_plain (weight_type_call_type "set" [.ref l] []) rfl]
 have h1:=eF.notType
 have h2:=eF.canCreate
 have hct:=PySem.F.typeCall_set_1 (.ref l)
 repeat (any_goals (first | assumption | wp_step))
 refine lA (vK (.ref l) (E:=E) (Q₁:=fun obj s₁=>obj= .ref s.heap.objs.size/\s₁={s with heap:=s.heap.push {cls:= .type "set",dict:=none,data:= .set #[] 0 (.fresh 0 0 (!oJ w))}}) ⟨rfl,rfl⟩) fun r s₁ hr=> ?_
 cases r with
 | error e=>exact hr
 | ok fl=>
  cases fl with
  | ret obj=>
   obtain⟨rfl,rfl⟩:=hr
   have hS:(s.heap.push {cls:= .type "set",dict:=none,data:= .set #[] 0 (.fresh 0 0 (!oJ w))}).get? s.heap.objs.size=some {cls:= .type "set",dict:=none,data:= .set #[] 0 (.fresh 0 0 (!oJ w))}:=au _ rfl
   have hT1:iN {s with heap:=s.heap.push {cls:= .type "set",dict:=none,data:= .set #[] 0 (.fresh 0 0 (!oJ w))}} (.ref s.heap.objs.size) "set":=⟨_,hS,rfl⟩
   have hli:=eF.init.lookup
   have hbi:=eF.init.bind (.ref s.heap.objs.size)
   repeat (any_goals (first | assumption | wp_step))
   refine lA (codeAny_call_builtin (R:=wants (fun r s₂=>r= .none/\ ∃h' tk,s₂={s with heap:=h',toks:=tk}/\tH prog w h' s.heap.objs.size val T n/\
     (∀b o,b < s.heap.objs.size->s.heap.get? b=some o->h'.get? b=some o)) E) eF.init.plain PySem.F.entry_set_init (check_set_init_1 hT1 ?_)) fun r₂ s₂ hr₂=> ?_
   ·obtain⟨ol,hol,hcl,nl,hdl⟩:=hl
    obtain⟨ocls,odict,odata,oslots⟩:=ol
    simp only at hcl hdl
    subst hcl; subst hdl
    have hol':(s.heap.push {cls:= .type "set",dict:=none,data:= .set #[] 0 (.fresh 0 0 (!oJ w))}).get? l=some {cls:= .type "list",dict:=odict,data:= .seq items nl,slots:=oslots}:=ag _ hol
    have hsls:=PySem.F.sub_list_set
    have hslf:=PySem.F.sub_list_frozenset
    have hne:(cu "list"==cu "dict")=false:=by decide
    have hl1:(s.heap.push {cls:= .type "set",dict:=none,data:= .set #[] 0 (.fresh 0 0 (!oJ w))}).IsList l items:=⟨_,hol',rfl,nl,rfl⟩
    unfold cG.«set.__init__» noKeywords Builtin.Frozenset.updateFrom
    generalize hPI:qV=PI
    wp_walk
    subst hPI
    refine oO hl1 ?_
    refine aa (wpAny_runValue ?_)
    have hlS:l < s.heap.objs.size:=ay hol
    have hneI:l≠(s.heap.push {cls:= .type "set",dict:=none,data:= .set #[] 0 (.fresh 0 0 (!oJ w))}).objs.size:=by
     rw [cM]; exact aM (cX hlS)
    have hSf:s.heap.objs.size∉ [(s.heap.push {cls:= .type "set",dict:=none,data:= .set #[] 0 (.fresh 0 0 (!oJ w))}).objs.size,l]:=by
     rw [cM]; simp only [aN,aE,eA,or_false,not_or]
     exact⟨aM (eu _),bY hlS⟩
    have ltT: ∀i,i < n->T i < s.heap.objs.size:=fun i hi'=>by obtain⟨o,_,_,ho,_⟩:=hTK i hi'; exact ay ho
    refine zJ ((Walks.list (by simp [hh]) _ l hneI items).toS) (by simp only [iJ]; omega) s.heap.objs.size hSf val T (fun i v hv=> ?_) (fun i hi'=>⟨?_,aM (ltT i (by omega))⟩) (by omega) (items.size - 0) 0 _ (by omega) (bO _)
     ⟨⟨_,au _ rfl,rfl,rfl⟩,(hl1.push _)⟩ ⟨_, #[],0, .fresh 0 0 (!oJ w),⟨ag _ hS,⟨rfl,rfl,rfl⟩,rfl,rfl,rfl,rfl,rfl,rfl,by decide,Bh,(fun e he=>by simp at he),(fun i e he=>by simp at he),⟨[],rfl,mK,fun i k e=>by simp at e⟩⟩,aw _,fun e he=>by simp at he,fun j hj=>by omega⟩
     (fun j hj=>(hTK j (by omega)).keep fun o e=>ag _ (ag _ e)) ?hR
    ·have hlt:i < n:=by rw [<-hn]; exact(cY.mp hv).1
     have:=hi i hlt
     rw [hv]at this
     exact aK this
    ·intro z
     have:=ltT i (by omega)
     simp only [aN,eA,or_false]at z
     rw [cM]at z
     exact absurd z (aM (cX this))
    case hR=>
     intro s' hm hS'
     obtain⟨h',g',d',tk',os'⟩:=s'
     have eg:g'=s.gens:=hm.gens
     have ed:d'=s.drawn:=hm.drawn
     have eo:os'=s.os:=hm.os
     subst eg; subst ed; subst eo
     show wpAny _ _ _ _ _ _
     refine af ?_
     show wpAny _ _ (ret a_) _ _ _
     refine af ⟨rfl,h',tk',rfl,by rw [<-hn]; exact hS',fun b o hb e=> ?_⟩
     have hb1:b≠s.heap.objs.size:=aM hb
     have hb2:b≠(s.heap.push {cls:= .type "set",dict:=none,data:= .set #[] 0 (.fresh 0 0 (!oJ w))}).objs.size:=by
      rw [cM]; exact aM (cX hb)
     exact hm.heap b o (by simp only [aN,aE,eA,or_false,not_or]; exact⟨hb1,hb2⟩) (ag _ (ag _ e))
   ·cases r₂ with
    | error e=>exact hr₂
    | ok fl₂=>
     cases fl₂ with
     | ret r=>
      obtain⟨rfl,h',tk,rfl,hS',hk'⟩:=hr₂
      repeat (any_goals (first | assumption | wp_step))
      exact h _ _ hS' hk'
     | _=>exact hr₂.elim
  | _=>exact hr.elim
end
namespace F
theorem pT:entryFor table "set.__iter__"=some cG.«frozenset.__iter__» :=entryFor_alias (id':="frozenset.__iter__") (by kernel_rfl) rfl (by decide +kernel) (by kernel_rfl)
theorem args_set_iter_1(a:Value):argsOk "set.__iter__" ⟨[a], []⟩:=by unfold argsOk; kernel_rfl
theorem gK:Slot "set_iterator" "__next__" "set_iterator.__next__":=
 .of (owner:="set_iterator") (n:="__next__") (by rw [FU,zj]; kernel_rfl) (by decide +kernel) (by decide +kernel) (by decide +kernel)
  (by first | exact .inl (by decide +kernel) | exact .inr (by decide +kernel)) (by rw [uV]; kernel_rfl)
theorem oK:entryFor table "set_iterator.__next__"=some cG.«set_iterator.__next__» :=entryFor_of_tree (by kernel_rfl)
theorem nW(a:Value):argsOk "set_iterator.__next__" ⟨[a], []⟩:=by unfold argsOk; kernel_rfl
theorem kQ:Slot "set_iterator" "__iter__" "set_iterator.__iter__":=
 .of (owner:="set_iterator") (n:="__iter__") (by rw [FU,zj]; kernel_rfl) (by decide +kernel) (by decide +kernel) (by decide +kernel)
  (by first | exact .inl (by decide +kernel) | exact .inr (by decide +kernel)) (by rw [uV]; kernel_rfl)
theorem oI:entryFor table "set_iterator.__iter__"=some cG.«dict_keyiterator.__iter__» :=entryFor_alias (id':="dict_keyiterator.__iter__") (by kernel_rfl) rfl (by decide +kernel) (by kernel_rfl)
theorem nH(a:Value):argsOk "set_iterator.__iter__" ⟨[a], []⟩:=by unfold argsOk; kernel_rfl
theorem EI:typeLookup (.type "set") "__len__"=pure (some (.builtin "set.__len__")):=by rw [FU,zj]; kernel_rfl
end F
theorem yR{α:Type}(next:Nat->Nat): ∀(fuel k:Nat) (left:List α) (out:Array α),left.length=fuel->(pickOrder.go next fuel k left out).toList.Perm (out.toList ++ left)
 | 0,k,left,out,h=>by
  have:left= []:=w9.mp h
  subst this
  show out.toList.Perm _
  rw [bj]
 | fuel+1,k,left,out,h=>by
  have hpos:0 < left.length:=by omega
  have hlt:next k % left.length < left.length:=Nat.mod_lt _ hpos
  have e:left[next k % left.length]? =some left[next k % left.length]:=ai hlt
  show(match left[next k % left.length]? with | some x=>pickOrder.go next fuel (k+1) (left.eraseIdx (next k % left.length)) (out.push x) | none=>out).toList.Perm _
  rw [e]
  dsimp only
  refine(yR next fuel (k+1) _ _ (by rw [List.length_eraseIdx_of_lt hlt]; omega)).trans ?_
  rw [hW,aI]
  refine dj _ ?_
  generalize next k % left.length=j at hlt
  have: ∀(l:List α) (j:Nat) (h:j < l.length),([l[j]] ++ l.eraseIdx j).Perm l:=by
   intro l
   induction l with
   | nil=>intro j h; simp at h
   | cons a l ih=>
    intro j h
    cases j with
    | zero=>exact c5 _
    | succ j=>
     have h':j < l.length:=by simpa using h
     refine i9 (List.Perm.swap _ _ _) ?_
     exact List.Perm.cons a (ih j h')
  exact this left j hlt
theorem Ad{α:Type}(next:Nat->Nat)(xs:Array α):(pickOrder next xs).toList.Perm xs.toList:=by
 unfold pickOrder
 refine(yR next xs.size 0 xs.toList #[] (by simp)).trans ?_
 simp
section
variable {prog:ar}{w:World}
def jN(w:World)(a:Addr)(ep:Nat)(es:Array (Int×Value)):Array (Int×Value):=if oJ w then pickOrder (w.params.setOrder a ep) es else es
theorem vM(w:World)(a:Addr)(ep:Nat)(es:Array (Int×Value)):(jN w a ep es).toList.Perm es.toList:=by
 unfold jN
 split
 ·exact Ad _ _
 ·exact c5 _
theorem qz(w:World)(a:Addr)(ep:Nat)(es:Array (Int×Value)):(jN w a ep es).size=es.size:=by
 have:=(vM w a ep es).length_eq
 simpa using this
def gT(w:World)(t:cz)(i:Nat):Nat:=if oJ w then 0 else if i=0 then 0 else t.place.getD (i - 1) 0+1
def kA(w:World)(a:Addr)(ep n:Nat)(t:cz)(i:Nat):Obj:={cls:= .type "set_iterator",data:= .fields #[.int (gT w t i) 0, .int i 0, .ref a, .int n 0, .int ep 0]}
variable {a:Addr}{o:Obj}{es:Array (Int×Value)}{ep:Nat}{t:cz}{A:bp}{E:Value->ah->Prop}{s:ah}
structure PF(led:Bool)(o:Obj)(es:Array (Int×Value))(ep:Nat)(t:cz):Prop where
 ex:o.ExactSet
 dat:o.data= .set es ep t
 mask:t.mask=7
 Ed:t.dummies= #[]
 size:t.place.size=es.size
 plain:t.plain=true
 led:t.led=led
 kr:es.size<=4
 pl:t.place.toList∈subs
theorem PS.pf{led:Bool}{h:Heap}(S:PS prog w led h a o es ep t):PF led o es ep t:=⟨S.ex,S.dat,S.mask,S.Ed,S.size,S.plain,S.led,S.kr,S.pl⟩
theorem PF.fits{led:Bool}(S:PF led o es ep t):t.fits es.size=true:=by
 unfold SetTable.fits SetTable.fill
 rw [S.size,S.Ed,S.mask]
 have:=S.kr
 simp
 omega
theorem PF.state{led:Bool}{Q:(Array (Int×Value)×Nat×cz)->ah->Prop}(S:PF led o es ep t)(hg:s.heap.get? a=some o)(h:Q (es,ep,t) s):wpAny (model prog w) A (setState a) Q E s:=
 wpAny_setState_of hg S.dat S.fits h
theorem EC{Q:Option (Value×Nat)->ah->Prop}{i:Nat}(S:PF (!oJ w) o es ep t)(hg:s.heap.get? a=some o)(hi:i<=es.size)
  (h:Q (((jN w a ep es)[i]?).map fun e=>(e.2,gT w t (i+1))) s):wpAny (model prog w) A (setNext a (gT w t i) i ep) Q E s:=by
 unfold setNext
 refine aa (S.state hg ?_)
 unfold setsByText
 refine aa (aa (kH (af ?_)))
 have hfx:({program:=(model prog w).prog,params:=(model prog w).w.params}:Setting).params.followText "set-order"=oJ w:=rfl
 rw [hfx]
 by_cases hb:oJ w=true
 ·rw [if_pos hb]
  dsimp only
  rw [if_neg (by simp)]
  unfold setWalk setsByText
  refine aa (aa (S.state hg ?_))
  refine aa (aa (kH (af ?_)))
  rw [hfx,if_pos hb]
  refine aa (kH (af (af ?_)))
  have e1:gT w t (i+1)=0:=by unfold gT; rw [if_pos hb]
  have e2:gT w t i=0:=by unfold gT; rw [if_pos hb]
  rw [e1]at h
  rw [e2]
  unfold jN at h
  rw [if_pos hb]at h
  exact h
 ·rw [if_neg hb]
  dsimp only
  split
  ·rename_i hd
   have hd':(!t.plain&&decide (es.size > 1))=true:=hd
   rw [S.plain]at hd'
   cases hd'
  ·refine aa ?_
   show wpAny (model prog w) A (if(!t.led&& !es.isEmpty)=true then j4 "set:maker-not-led" else pure ()) _ _ _
   have hbf:oJ w=false:=by simpa using hb
   have hled:t.led=true:=by rw [S.led,hbf]; rfl
   rw [hled,if_neg (by simp)]
   refine af (af ?_)
   have e0:gT w t i=if i=0 then 0 else t.place.getD (i - 1) 0+1:=by unfold gT; rw [if_neg hb]
   have hix:cC t.place (gT w t i)=i:=by rw [e0]; exact CW S.pl (by rw [S.size]; exact hi)
   rw [hix]
   unfold jN at h
   rw [if_neg hb]at h
   by_cases hlt:i < es.size
   ·have h1:es[i]? =some es[i]:=dg hlt
    have hlt2:i < t.place.size:=by rw [S.size]; exact hlt
    have h2:t.place[i]? =some t.place[i]:=dg hlt2
    rw [h1]at h ⊢
    rw [h2]
    have e1:gT w t (i+1)=t.place[i]+1:=by
     unfold gT
     rw [if_neg hb,if_neg (by omega),Nat.add_sub_cancel]
     congr 1
     simp [Array.getD,hlt2]
    rw [e1]at h
    exact h
   ·have h1:es[i]? =none:=by simp; omega
    rw [h1]at h ⊢
    exact h
theorem Cv{Q:Option Value->ah->Prop}{I:Addr}{i:Nat}(hh:A.handled=none)(S:PF (!oJ w) o es ep t)(hg:s.heap.get? a=some o)(hI:s.heap.get? I=some (kA w a ep es.size t i))(hi:i<=es.size)
  (h1: ∀e h',(jN w a ep es)[i]? =some e->h'.get? I=some (kA w a ep es.size t (i+1))->bH I s.heap h'->Q (some e.2) {s with heap:=h'})
  (h2:(jN w a ep es)[i]? =none-> ∀h',Ay I s.heap h'->Q none {s with heap:=h'}):wpAny (model prog w) A (g9 (.ref I)) Q E s:=by
 have hT:s.TypeIs (.ref I) "set_iterator":=⟨_,hI,rfl⟩
 unfold g9
 refine aa (kl (cm (name:=eV "__next__") hT F.gK (bF F.gK hT F.oK ?_ (F.nW _))))
 unfold cG.«set_iterator.__next__» slotArgs
 simp only [List.isEmpty_nil,dz,aS, ↓reduceIte,bind_assoc,bQ,bne_self_eq_false]
 refine aa (af ?_)
 refine aa (wpAny_fieldsOf hI rfl ?_)
 show wpAny (model prog w) _ (do
  let __do_lift_2<-setEntries a
  if((__do_lift_2.size:Int) !=(es.size:Int))=true then _ else _) _ _ s
 refine aa (wpAny_setEntries_of hg S.dat S.fits ?_)
 rw [if_neg (by simp)]
 show wpAny (model prog w) _ (do
  let __do_lift_3<-setNext a (gT w t i:Int).toNat (i:Int).toNat (ep:Int).toNat
  match __do_lift_3 with
   | some (x,next)=>do
    fY (.ref I) 0 (dX (next:Int))
    fY (.ref I) 1 (dX ((i:Int)+1))
    ret x
   | none=>do
    fY (.ref I) 2 a_
    let __do_lift<-qX (cu "StopIteration") []
    raiseNew __do_lift) _ _ s
 rw [cH,cH,cH]
 refine aa (EC S hg hi ?_)
 cases e:(jN w a ep es)[i]? with
 | some x=>
  dsimp only [Option.map_some]
  refine aa (dB hI rfl (by show 0 < 5; decide) ?_)
  have hI2:(s.heap.update I (fI (·.setIfInBounds 0 (dX (gT w t (i+1):Int))))).get? I=some {cls:= .type "set_iterator",data:= .fields #[.int (gT w t (i+1)) 0, .int i 0, .ref a, .int es.size 0, .int ep 0]}:=di _ hI rfl
  refine aa (dB hI2 rfl (by show 1 < 5; decide) ?_)
  refine af ⟨_,rfl,af (h1 x _ e ?_ ((bG ..).trans (bG ..)))⟩
  exact di _ hI2 rfl
 | none=>
  dsimp only [Option.map_none]
  refine aa (dB hI rfl (by show 2 < 5; decide) ?_)
  show wpAny _ _ (qX (.type "StopIteration") [] >>=_) _ _ _
  refine aa ?_
  simp only [qX,newTuple]
  refine aa (ba ?_ (by size_fits))
  refine aa (m:=fZ _ _) (rh (a:=a_) (by first | rfl | (simp only [fZ]; rfl)) ?_)
  refine ba ?_ (by size_fits)
  simp only [raiseNew]
  refine aa (wO ?_)
  rw [show A.in1.handled=none from hh]
  refine aa (af (Az ?_))
  refine aa (fv (T:="StopIteration") (b:=true) ⟨_,au _ rfl,rfl⟩ uW ?_)
  exact af (h2 e _ (((bG ..).extBut.push _).push _))
theorem zM(hh:A.handled=none)(S:PF (!oJ w) o es ep t){I:Addr}(hIa:I≠a):Walks prog w A I [I,a] [I] es.size (fun i v=> ∃e,(jN w a ep es)[i]? =some e/\v=e.2) (fun i h=>h.get? I=some (kA w a ep es.size t i)/\h.get? a=some o/\i<=es.size) where
 sub:=fun b hb=>by rw [aE.mp hb]; exact b8
 frame:=fun i h h' ⟨x,y,z⟩ hk=>⟨hk I (by simp) _ x,hk a (by simp) _ y,z⟩
 item:=fun i s Q E hi ⟨x,y,z⟩ hQ=>Cv hh S y x z (fun e h' he hI' sb=>hQ _ h' s.toks ⟨e,he,rfl⟩ ⟨hI',(sb.2 a hIa.symm).trans y,hi⟩ fun b ob hb q=>(sb.2 b (by simpa using hb)).trans q) fun he=>by
  have:=qz w a ep es
  rw [dg (by omega)]at he
  cases he
 done:=fun s Q E ⟨x,y,z⟩ hQ=>Cv hh S y x z (fun e h' he _ _=>by
  have:=qz w a ep es
  have:=(cY.mp he).1
  omega) fun _ h' eb=>hQ h' s.toks fun b ob hb q=>eb b ob (by simpa using hb) q
 self:=fun i s Q E ⟨x,y,z⟩ hQ=>by
  have hT:s.TypeIs (.ref I) "set_iterator":=⟨_,x,rfl⟩
  refine h_ hT F.kQ (bF F.kQ hT F.oI ?_ (F.nH _))
  show wpAny _ _ (ret (.ref I)) _ _ s
  exact af ⟨_,rfl,"set_iterator",_,hT,F.gK.lookup,hQ⟩
theorem CV{Q:Value->ah->Prop}(S:PF (!oJ w) o es ep t)(hg:s.heap.get? a=some o)(h:Q (.ref s.heap.objs.size) {s with heap:=s.heap.push (kA w a ep es.size t 0)}):wpAny (model prog w) A (qV (.ref a)) Q E s:=by
 have hT:s.TypeIs (.ref a) "set":=⟨_,hg,S.ex.1⟩
 refine h_ hT PySem.F.slot_set_iter (bF PySem.F.slot_set_iter hT F.pT ?_ (F.args_set_iter_1 _))
 unfold cG.«frozenset.__iter__» Builtin.Frozenset.slot0 slotArgs
 simp only [List.isEmpty_nil,dz,aS, ↓reduceIte,bind_assoc,bQ,bne_self_eq_false]
 unfold Builtin.Frozenset.addrOf Builtin.Frozenset.sizeOf
 refine aa (af ?_)
 try dsimp only
 refine aa (af ?_)
 refine aa (aa (wpAny_setEntries_of hg S.dat S.fits (af ?_)))
 unfold setDrawn setsByText
 refine aa (aa (S.state hg ?_))
 refine aa (aa (kH (af (af ?_))))
 split
 ·rename_i hd
  have hd':((!oJ w)&&(!t.plain&&decide (es.size > 1)))=true:=hd
  rw [S.plain]at hd'
  simp at hd'
 refine aa (af ?_)
 unfold setEpoch
 refine aa (aa (S.state hg (af ?_)))
 have hs0:gT w t 0=0:=by unfold gT; split <;> rfl
 refine aa (ba (af ⟨_,rfl,"set_iterator",_,⟨_,au _ rfl,rfl⟩,F.gK.lookup, ?_⟩))
 have e:(kA w a ep es.size t 0)={cls:= .type "set_iterator",data:= .fields #[.int ((0:Nat):Int) 0, .int ((0:Nat):Int) 0, .ref a, .int es.size 0, .int ep 0]}:=by unfold kA; rw [hs0]
 rw [e]at h
 exact h
theorem wB{Q:List Value->ah->Prop}(hh:A.handled=none)(S:PF (!oJ w) o es ep t)(hg:s.heap.get? a=some o)
  (hQ: ∀h' tk (vs:List Value),s.heap.objs.size < h'.objs.size->(∀b ob,s.heap.get? b=some ob->h'.get? b=some ob)->vs.Perm (es.toList.map (·.2))->Q vs {s with heap:=h',toks:=tk}):wpAny (model prog w) A (collect (.ref a)) Q E s:=by
 have hlt:a < s.heap.objs.size:=ay hg
 unfold collect
 refine aa (wpAny_runValue (dO PySem.F.entry_proto_collect ?_))
 rw [cS PySem.F.plain_proto_collect _]
 show wpAny _ A.in1 (newList [] >>=fun l=>again (.builtin "list.__iadd__" ⟨[l, .ref a], []⟩)) _ _ s
 refine aa (ba ?_)
 refine af ⟨fe kI _,dO PySem.F.entry_list_iadd ?_⟩
 rw [cS kI _]
 have hg1:(s.heap.push {cls:= .type "list",data:= .seq ([]:List Value).toArray}).get? a=some o:=ag _ hg
 have hS₁:(s.heap.push {cls:= .type "list",data:= .seq ([]:List Value).toArray}).get? s.heap.objs.size=some {cls:= .type "list",data:= .seq ([]:List Value).toArray}:=au _ rfl
 have h1:km (.ref s.heap.objs.size) (.ref a)=false:=by simp [km,bY hlt]
 have hT:iN {s with heap:=s.heap.push {cls:= .type "list",data:= .seq ([]:List Value).toArray}} (.ref a) "set":=⟨_,hg1,S.ex.1⟩
 show wpAny _ A.in1 (jg (.ref s.heap.objs.size) (.ref a) (.ref s.heap.objs.size)) _ _ _
 unfold jg
 refine aa (gn hT ?_)
 rw [if_neg (by rw [h1]; decide)]
 refine aa (CV (s:={s with heap:=s.heap.push {cls:= .type "list",data:= .seq ([]:List Value).toArray}}) S hg1 ?_)
 refine aa (bD ?_)
 unfold Builtin.List.listLengthHint
 have hT2:iN {s with heap:=(s.heap.push {cls:= .type "list",data:= .seq ([]:List Value).toArray}).push (kA w a ep es.size t 0)} (.ref a) "set":=⟨_,ag _ hg1,S.ex.1⟩
 refine aa (gI hT2 F.EI ?_)
 generalize hid:("set.__len__":String)=id0
 dsimp only
 rw [show splitId id0=some ("set","__len__")from by subst hid; decide +kernel]
 subst hid
 dsimp only
 refine aa (fv (b:=true) hT2 (by rw [uV]; kernel_rfl) ?_)
 rw [if_neg (show ¬(!true)=true by decide)]
 refine eS (fun _=> ?_) fun hs=>(hs (by decide +kernel)).elim
 refine aa (gn hT2 (af ?_))
 have szl:(s.heap.push {cls:= .type "list",data:= .seq ([]:List Value).toArray}).objs.size=s.heap.objs.size+1:=cM ..
 have hne:s.heap.objs.size≠(s.heap.push {cls:= .type "list",data:= .seq ([]:List Value).toArray}).objs.size:=by rw [szl]; exact aM (eu _)
 have hIa:(s.heap.push {cls:= .type "list",data:= .seq ([]:List Value).toArray}).objs.size≠a:=by rw [szl]; exact bY (cX hlt)
 have hL2:((s.heap.push {cls:= .type "list",data:= .seq ([]:List Value).toArray}).push (kA w a ep es.size t 0)).get? s.heap.objs.size=some {cls:= .type "list",data:= .seq ([]:List Value).toArray}:=ag _ hS₁
 have hI2:((s.heap.push {cls:= .type "list",data:= .seq ([]:List Value).toArray}).push (kA w a ep es.size t 0)).get? (s.heap.push {cls:= .type "list",data:= .seq ([]:List Value).toArray}).objs.size=some (kA w a ep es.size t 0):=au _ rfl
 have hk2: ∀b ob,s.heap.get? b=some ob->((s.heap.push {cls:= .type "list",data:= .seq ([]:List Value).toArray}).push (kA w a ep es.size t 0)).get? b=some ob:=fun b ob e=>ag _ (ag _ e)
 generalize hI0:(s.heap.push {cls:= .type "list",data:= .seq ([]:List Value).toArray}).objs.size=I0 at hne hIa hI2 szl ⊢
 generalize hH0:(s.heap.push {cls:= .type "list",data:= .seq ([]:List Value).toArray}).push (kA w a ep es.size t 0)=H0 at hL2 hI2 hk2 ⊢
 have hg0:=hk2 a o hg
 have fin: ∀(h':Heap) (c:Nat),bH s.heap.objs.size H0 h'->h'.get? s.heap.objs.size=some {cls:= .type "list",dict:=none,data:= .seq #[] c,slots:= #[]}->
   gG (model prog w) A (.builtin "list.extend.loop" ⟨[.ref s.heap.objs.size, .ref I0, .ref s.heap.objs.size], []⟩) (fun r s'=>match r with
       | Except.ok (Flow.ret v)=>
        wpAny (model prog w) A
         (match v with
         | ao a=>do
          let __do_lift<-load a
          match __do_lift.data with
           | Av xs epoch=>pure xs.toList
           | x=>j4 "internal:collect"
         | x=>j4 "internal:collect")
         Q E s'
       | Except.ok a=>False
       | Except.error e=>E e s') {s with heap:=h'}:=fun h' c sb hl=>by
  refine codeAny_extend_loopS ((zM (A:=A.in1) (by simpa using hh) S hIa).toS) (by have:=S.kr; rw [fy]; omega) s.heap.objs.size (by simp only [aN,eA,or_false,not_or]; exact⟨hne,bY hlt⟩) _ es.size 0 _ #[] c (by omega) (bO _)
   ⟨(sb.2 I0 hne.symm).trans hI2,(sb.2 a (aM hlt)).trans hg0,bO _⟩ hl (ItemsOf.nil _) fun s' acc c' hm hS' hacc=> ?_
  dsimp only
  refine aa (wpAny_load hS' ?_)
  refine af ?_
  obtain⟨h2,g',d',tk',os'⟩:=s'
  have eg:g'=s.gens:=hm.gens
  have ed:d'=s.drawn:=hm.drawn
  have eo:os'=s.os:=hm.os
  subst eg; subst ed; subst eo
  refine hQ h2 tk' acc.toList (ay hS') (fun b ob e=> ?_) ?_
  ·have hb:=ay e
   refine hm.heap b ob ?_ ((sb.2 b (aM hb)).trans (hk2 b ob e))
   simp only [aN,eA,or_false,not_or]
   exact⟨aM hb,by rw [szl]; exact aM (cX hb)⟩
  ·have e:acc.toList=(jN w a ep es).toList.map (·.2):=by
    apply fM
    intro i
    rw [aD]
    by_cases hi:i < es.size
    ·have hi2:i < acc.size:=by rw [hacc.1]; exact hi
     have h1:acc[i]? =some acc[i]:=dg hi2
     obtain⟨e,he,hv⟩:=hacc.2 i _ h1
     have h3:acc.toList[i]? =some acc[i]:=by rw [bb]; exact h1
     have h4:(jN w a ep es).toList[i]? =some e:=by simpa using he
     rw [h3,h4,hv]
     rfl
    ·have h1:acc.toList[i]? =none:=br (by rw [aj,hacc.1]; omega)
     have h2:(jN w a ep es).toList[i]? =none:=br (by rw [aj,qz]; omega)
     rw [h1,h2]
     rfl
   rw [e]
   exact(vM w a ep es).map _
 refine eS (fun _=> ?_) fun _=> ?_
 ·refine aa (fc ?_)
  unfold Builtin.List.listTouch
  refine aa (aa (kn hL2 rfl ?_ (by show 0<=_; omega) (by show 1<=_; rw [fy]; omega)))
  have hL3:=gJ hL2 fun x=>x.push a_
  refine kn hL3 rfl ?_ (by show 1<=_; rw [fy]; omega) (by show 0<=_; omega)
  have hL4:=gJ hL3 fun x=>x.pop
  exact af ⟨fe dh _,fin _ _ ((bG ..).trans (bG ..)) hL4⟩
 ·exact af ⟨fe dh _,fin _ _ (dH _ _) hL2⟩
end
end Z
namespace Z
open PySem PySem.Spec PyProof.Rows L2
def DW(X:Cx)(ρ:eG)(e:Expr)(P:D->Prop):Prop:= ∀(M0:MP) (H0:Hp) (γ:List (D×V)) (α:Nat->Addr) (σ:St) (H:Hp) (Q:VK),Rep X.K M0 H0 γ α ρ σ H->
 (∀d v H',P d->bI H H'->Dn X.K (MM M0 ρ α) H' d v->Q v H')->tE X e σ H Q
section
variable {X:Cx}{ρ:eG}{M0:MP}{H0:Hp}{P:nZ}{e a b:Expr}{d:D}{ds:List D}{pos pos' p p2 p3 p4 p5:Pos}
theorem av.toP{R:D->Prop}(h:av X ρ e d)(q:R d):DW X ρ e R:=fun M0 H0 γ α σ H Q r k=>h M0 H0 γ α σ H Q r fun v H' s x=>k d v H' q s x
def pairD(p:Int×Int):D:= .tup [.int p.1, .int p.2]
def qc(p:Int×Int):List V:= [.int p.1, .int p.2]
def u0(p:Int×Int):List Int:= [p.1,p.2]
theorem FG{pins:List (Addr×Obj)}{σ:St}{H:Hp}{s:ah}(I:Inv X pins σ H s){b:Addr}{p:Int×Int}(h:i4 X.K H b (qc p)):TK X.prog X.w s.heap (u0 p) b:=by
 obtain⟨bL,r,⟨o,ho,hc,n,hd⟩,_⟩:=I.tuple h
 refine⟨o,bL.toArray,n,ho,hc,hd, ?_⟩
 show jz (fh X.prog X.w) [p.1,p.2] bL
 cases r with
 | cons r1 r2=>
  cases r2 with
  | cons r2 r3=>
   cases r3
   obtain⟨t1,rfl⟩:=r1
   obtain⟨t2,rfl⟩:=r2
   exact .cons (intKind_is _ _ _ _) (.cons (intKind_is _ _ _ _) .nil)
theorem pairs_at{K:Frag}{M:MP}{H:Hp}: ∀{ps:List (Int×Int)} {xs:List V},cw K M H (ps.map pairD) xs-> ∃T:Nat->Addr, ∀(j:Nat) (p:Int×Int),ps[j]? =some p->xs[j]? =some (.ref (T j))/\i4 K H (T j) (qc p)
 | [],_,_=>⟨fun _=>0,fun j p h=>by simp at h⟩
 | p::ps,xs,⟨v,r,e,⟨a,ys,hv,sq,y1,r1,e1,h1,y2,r2,e2,h2,e3⟩,h⟩=>by
  obtain⟨T,hT⟩:=pairs_at h
  refine⟨fun j=>match j with | 0=>a | j+1=>T j,fun j q hq=> ?_⟩
  subst e
  cases j with
  | zero=>
   have:p=q:=by simpa using hq
   subst this
   have e4:ys=qc p:=by
    rw [e1,e2,e3,show y1=V.int p.1 from h1,show y2=V.int p.2 from h2]
    rfl
   rw [e4]at sq
   exact⟨by rw [hv]; rfl,sq⟩
  | succ j=>
   obtain⟨q1,q2⟩:=hT j q (by simpa using hq)
   exact⟨by simpa using q1,q2⟩
end
end Z
namespace Z
open PySem PySem.Spec PyProof.Rows
section
variable {prog:ar}{w:World}{A:bp}{E:Value->ah->Prop}{s:ah}
theorem qk{M:Model}{a:Addr}{Q:Option Obj->ah->Prop}(h: ∀r,Q r s):wpAny M A (AA a) Q E s:=fun _ _ _=>h _
theorem g6{it t:Addr}{i:Nat}{items:Array Value}{x:Value}{Q:Value->ah->Prop}(hit:s.heap.IsTupleIter it t i)(ht:s.heap.IsTuple t items)(hx:items[i]? =some x)
  (hQ: ∀h',h'.IsTupleIter it t (i+1)->bH it s.heap h'->Q x {s with heap:=h'}):wpAny (model prog w) A (bE (.ref it)) Q E s:=by
 obtain⟨o,ho,hc,hd⟩:=id hit
 obtain⟨ol,hol,_,nl,hdl⟩:=ht
 have hT:s.TypeIs (.ref it) "tuple_iterator":=⟨o,ho,hc⟩
 unfold bE
 refine aa (cm (name:=eV "__next__") hT ic (bF ic hT PySem.F.entry_tuple_iterator_next ?_ (PySem.F.args_tuple_iterator_next_1 _)))
 show wpAny _ _ (field (.ref it) 0 >>=_) _ _ s
 refine aa (bA ho hd (x:= .ref t) rfl ?_)
 show wpAny _ _ (if(ao t==a_)=true then _ else _) _ _ s
 rw [if_neg (show ¬((ao t==a_)=true)from az)]
 show wpAny _ _ (field (.ref it) 1 >>=_) _ _ s
 refine aa (bA ho hd (x:= .int i 0) rfl ?_)
 show wpAny _ _ (seqItems? (.ref t) >>=_) _ _ s
 refine aa (cZ hol hdl ?_)
 simp only [cH,hx]
 refine aa (dB ho hd (by simp) (af ⟨x,rfl,af (hQ _ ?_ (bG ..))⟩))
 exact⟨_,di _ ho (ma (jA hd _)),(Obj.cls_mapFields ..).trans hc,by rw [jA hd]; simp [dX]⟩
theorem gN{it t:Addr}{i:Nat}{items:Array Value}{Q:Value->ah->Prop}(hh:A.handled=none)(hit:s.heap.IsTupleIter it t i)(ht:s.heap.IsTuple t items)(hx:items[i]? =none)
  (hE: ∀h' e,Ay it s.heap h'->(∃o,h'.get? e=some o/\o.cls= .type "StopIteration")->E (.ref e) {s with heap:=h'}):wpAny (model prog w) A (bE (.ref it)) Q E s:=by
 obtain⟨o,ho,hc,hd⟩:=id hit
 obtain⟨ol,hol,_,nl,hdl⟩:=ht
 have hT:s.TypeIs (.ref it) "tuple_iterator":=⟨o,ho,hc⟩
 unfold bE
 refine aa (cm (name:=eV "__next__") hT ic (bF ic hT PySem.F.entry_tuple_iterator_next ?_ (PySem.F.args_tuple_iterator_next_1 _)))
 show wpAny _ _ (field (.ref it) 0 >>=_) _ _ s
 refine aa (bA ho hd (x:= .ref t) rfl ?_)
 show wpAny _ _ (if(ao t==a_)=true then _ else _) _ _ s
 rw [if_neg (show ¬((ao t==a_)=true)from az)]
 show wpAny _ _ (field (.ref it) 1 >>=_) _ _ s
 refine aa (bA ho hd (x:= .int i 0) rfl ?_)
 show wpAny _ _ (seqItems? (.ref t) >>=_) _ _ s
 refine aa (cZ hol hdl ?_)
 simp only [cH,hx]
 refine aa (fc (aa (dB ho hd (by simp) ?_)))
 show wpAny _ _ (qX (.type "StopIteration") [] >>=_) _ _ _
 refine aa ?_
 simp only [qX,newTuple]
 refine aa (ba ?_ (by size_fits))
 refine aa (m:=fZ _ _) (rh (a:=a_) (by first | rfl | (simp only [fZ]; rfl)) ?_)
 refine ba ?_ (by size_fits)
 simp only [raiseNew]
 refine aa (wO ?_)
 rw [show A.in1.handled=none from hh]
 refine aa (af (Az ?_))
 exact hE _ _ (((bG ..).extBut.push _).push _) ⟨_,au _ rfl,rfl⟩
def mW(h:Heap)(z TI TO i1 i2:Addr):Prop:=(∃f0 f1,h.get? z=some {cls:= .type "zip",dict:=none,data:= .fields #[f0, .bool f1, .bool false, .ref TI, .ref TO],slots:= #[]}/\(f0= .none\/ ∃T:Nat,f0=dX T))/\jB h TI (.ref i1) (.ref i2)/\ ∃a b,jB h TO a b
structure Ht(z TI TO i1 i2:Addr):Prop where
 TIz:TI≠z
 TOz:TO≠z
 i1z:i1≠z
 i2z:i2≠z
 TITO:TI≠TO
 TIi1:TI≠i1
 TIi2:TI≠i2
 TOi1:TO≠i1
 TOi2:TO≠i2
 i12:i1≠i2
theorem z5{z TI TO i1 i2 t1 t2:Addr}{k:Nat}{xs ys:Array Value}{x y:Value}{Q:Value->ah->Prop}(D:Ht z TI TO i1 i2)(D1:t1≠z/\t1≠TO/\t1≠i1/\t1≠i2)(D2:t2≠z/\t2≠TO/\t2≠i1/\t2≠i2)(hZ:mW s.heap z TI TO i1 i2)
  (h1:s.heap.IsTupleIter i1 t1 k)(h2:s.heap.IsTupleIter i2 t2 k)(ht1:s.heap.IsTuple t1 xs)(ht2:s.heap.IsTuple t2 ys)(hx:xs[k]? =some x)(hy:ys[k]? =some y)
  (hQ: ∀h',mW h' z TI TO i1 i2->h'.IsTupleIter i1 t1 (k+1)->h'.IsTupleIter i2 t2 (k+1)->jB h' s.heap.objs.size x y->
   (∀c o,c≠z->c≠TO->c≠i1->c≠i2->s.heap.get? c=some o->h'.get? c=some o)->Q (.ref s.heap.objs.size) {s with heap:=h'}):
  wpAny (model prog w) A (cG.«zip.__next__» ⟨[.ref z], []⟩) (fun fin s'=> ∃v,fin= .done (.ret v)/\Q v s') E s:=by
 obtain⟨⟨f0,f1,hz,hf0⟩,hTI,a,b,hTO⟩:=hZ
 have eb: ∀{h h':Heap} {c t:Addr} {j:Nat} {d:Addr},h.IsTupleIter c t j->bH d h h'->c≠d->h'.IsTupleIter c t j:=fun{h h' c t j d} ⟨o,e,r⟩ sb n=>⟨o,(sb.2 c n).trans e,r⟩
 have et: ∀{h h':Heap} {t:Addr} {is:Array Value} {d:Addr},h.IsTuple t is->bH d h h'->t≠d->h'.IsTuple t is:=fun{h h' t is d} ⟨o,e,r⟩ sb n=>⟨o,(sb.2 t n).trans e,r⟩
 have free:wpAny (model prog w) A (cO (.ref z)) (fun fr s1=> ∃h' f1',s1={s with heap:=h'}/\bH z s.heap h'/\h'.get? z=some {cls:= .type "zip",dict:=none,data:= .fields #[f0, .bool f1', .bool false, .ref TI, .ref TO],slots:= #[]}) E s:=by
  unfold cO
  have es:s={s with heap:=s.heap}:=by cases s; rfl
  rcases hf0 with rfl | ⟨T,rfl⟩
  ·exact aa (bA hz rfl (x:= .none) rfl (af ⟨s.heap,f1,es,dH _ _,hz⟩))
  ·refine aa (bA hz rfl (x:=dX T) rfl ?_)
   show wpAny _ _ (do
    if(<-AA (T:Int).toNat).isNone then return true
    if(<-field (.ref z) 1) != .bool true then fY (.ref z) 1 (.bool true)
    return false) _ _ _
   refine aa (qk fun r=> ?_)
   cases r with
   | none=>
    simp only [Option.isNone_none,if_true]
    exact af ⟨s.heap,f1,es,dH _ _,hz⟩
   | some ob=>
    simp only [Option.isNone_some,aS,if_false]
    refine aa (bA hz rfl (x:= .bool f1) rfl ?_)
    refine eS (fun _=> ?_) fun _=>af ⟨s.heap,f1,es,dH _ _,hz⟩
    exact aa (bS hz (by simp) fun h₁ hz₁ hs₁=>af ⟨h₁,true,rfl,hs₁,hz₁⟩)
 show wpAny _ _ (field (.ref z) 2 >>=_) _ _ _
 refine aa (bA hz rfl (x:= .bool false) rfl ?_)
 show wpAny _ _ (field (.ref z) 3 >>=_) _ _ _
 refine aa (bA hz rfl (x:= .ref TI) rfl ?_)
 refine aa (cZ hTI rfl ?_)
 show wpAny _ _ (cO (.ref z) >>=_) _ _ _
 refine aa (cF free (fun fr s1 hfr=> ?_) fun _ _ x=>x)
 obtain⟨h₀,f1',rfl,hs₀,hz₀⟩:=hfr
 have hTO₀:jB h₀ TO a b:=(hs₀.2 _ D.TOz).trans hTO
 have h1₀:=eb h1 hs₀ D.i1z
 have h2₀:=eb h2 hs₀ D.i2z
 have ht1₀:=et ht1 hs₀ D1.1
 have ht2₀:=et ht2 hs₀ D2.1
 have hTI₀:jB h₀ TI (.ref i1) (.ref i2):=(hs₀.2 _ D.TIz).trans hTI
 have hsz₀:h₀.objs.size=s.heap.objs.size:=hs₀.1
 cases fr with
 | true=>
  simp only [if_true]
  refine aa (fc ?_)
  refine aa (bA hz₀ rfl (x:= .ref TO) rfl ?_)
  refine aa (bS hz₀ (by simp) fun h₁ hz₁ hs₁=> ?_)
  refine aa ?_
  simp only [Fi,List.zipIdx_nil,cP,fW]
  refine aa (aa (wQ ?_))
  show wpAny _ _ (bE (.ref i1) >>=_) _ _ _
  refine aa (g6 (eb h1₀ hs₁ D.i1z) (et ht1₀ hs₁ D1.1) hx fun h₂ h1₂ hs₂=>af ?_)
  have hTO₂:jB h₂ TO a b:=(hs₂.2 _ D.TOi1).trans ((hs₁.2 _ D.TOz).trans hTO₀)
  refine aa (cZ hTO₂ rfl ?_)
  refine aa (AB hTO₂ fun h₃ hTO₃ hs₃=> ?_)
  replace hTO₃:jB h₃ TO x b:=hTO₃
  refine aa (rj (af ?_))
  refine aa (aa (wQ ?_))
  show wpAny _ _ (bE (.ref i2) >>=_) _ _ _
  refine aa (g6 (eb (eb (eb h2₀ hs₁ D.i2z) hs₂ D.i12.symm) hs₃ D.TOi2.symm) (et (et (et ht2₀ hs₁ D2.1) hs₂ D2.2.2.1) hs₃ D2.2.1) hy fun h₄ h2₄ hs₄=>af ?_)
  have hTO₄:jB h₄ TO x b:=(hs₄.2 _ D.TOi2).trans hTO₃
  refine aa (cZ hTO₄ rfl ?_)
  refine aa (AB hTO₄ fun h₅ hTO₅ hs₅=> ?_)
  replace hTO₅:jB h₅ TO x y:=hTO₅
  refine aa (rj (af (af ?_)))
  refine aa (cZ hTO₅ rfl ?_)
  refine aa (uX ?_)
  have hsz:h₅.objs.size=s.heap.objs.size:=by rw [hs₅.1,hs₄.1,hs₃.1,hs₂.1,hs₁.1,hsz₀]
  have k05: ∀c,c≠z->c≠TO->c≠i1->c≠i2->h₅.get? c=s.heap.get? c:=fun c c1 c2 c3 c4=>by
   rw [hs₅.2 c c2,hs₄.2 c c4,hs₃.2 c c2,hs₂.2 c c3,hs₁.2 c c1,hs₀.2 c c1]
  have hz₅:h₅.get? z=h₁.get? z:=by rw [hs₅.2 z D.TOz.symm,hs₄.2 z D.i2z.symm,hs₃.2 z D.TOz.symm,hs₂.2 z D.i1z.symm]
  rw [hz₁]at hz₅
  have h1₅:h₅.IsTupleIter i1 t1 (k+1):=eb (eb (eb h1₂ hs₃ D.TOi1.symm) hs₄ D.i12) hs₅ D.TOi1.symm
  have h2₅:h₅.IsTupleIter i2 t2 (k+1):=eb h2₄ hs₅ D.TOi2.symm
  show wpAny _ _ (Builtin.SmallTypes.ownedTupleHandOut (.ref z) (.ref h₅.objs.size) >>=_) _ _ _
  refine aa ?_
  unfold Builtin.SmallTypes.ownedTupleHandOut
  have hz₆:(h₅.push {cls:= .type "tuple",data:= .seq #[x,y]}).get? z=_:=ag _ hz₅
  refine aa (bS hz₆ (by simp) fun h₇ hz₇ hs₇=> ?_)
  refine bS hz₇ (by simp) fun h₈ hz₈ hs₈=> ?_
  have up: ∀c o,c≠z->h₅.get? c=some o->h₈.get? c=some o:=fun c o c1 e=>(hs₈.2 c c1).trans ((hs₇.2 c c1).trans (ag _ e))
  have hzlt:z < h₅.objs.size:=ay hz₅
  have hT₈:jB h₈ h₅.objs.size x y:=(hs₈.2 _ (bY hzlt)).trans ((hs₇.2 _ (bY hzlt)).trans (au _ rfl))
  refine af ⟨_,rfl, ?_⟩
  show Q (.ref h₅.objs.size) _
  rw [hsz]at hT₈ ⊢
  refine hQ h₈ ⟨⟨_,_,hz₈, .inr ⟨h₅.objs.size,rfl⟩⟩,up _ _ D.TIz ((k05 TI D.TIz D.TITO D.TIi1 D.TIi2).trans hTI),x,y,up _ _ D.TOz hTO₅⟩ ?_ ?_ hT₈ fun c o c1 c2 c3 c4 e=>up c o c1 ((k05 c c1 c2 c3 c4).trans e)
  ·obtain⟨o,e,r⟩:=h1₅; exact⟨o,up _ _ D.i1z e,r⟩
  ·obtain⟨o,e,r⟩:=h2₅; exact⟨o,up _ _ D.i2z e,r⟩
 | false=>
  simp only [aS,if_false]
  rw [<-fC]
  refine aa ?_
  show wpAny _ _ (forIn [ao i1,ao i2] _ _) _ _ _
  simp only [cP,fW]
  refine aa (aa (bD ?_))
  show wpAny _ _ (bE (.ref i1) >>=_) _ _ _
  refine aa (g6 h1₀ ht1₀ hx fun h₂ h1₂ hs₂=>af (af ?_))
  refine aa (aa (bD ?_))
  show wpAny _ _ (bE (.ref i2) >>=_) _ _ _
  refine aa (g6 (eb h2₀ hs₂ D.i12.symm) (et ht2₀ hs₂ D2.2.2.1) hy fun h₄ h2₄ hs₄=>af (af (af ?_)))
  dsimp only
  refine aa (uX (af ⟨_,rfl, ?_⟩) (by show 2<=sizeLine; decide))
  have hsz:h₄.objs.size=s.heap.objs.size:=by rw [hs₄.1,hs₂.1,hsz₀]
  show Q (.ref h₄.objs.size) {s with heap:=h₄.push {cls:= .type "tuple",data:= .seq #[x,y]}}
  have hT:jB (h₄.push {cls:= .type "tuple",data:= .seq #[x,y]}) h₄.objs.size x y:=au _ rfl
  have up: ∀c,c≠z->c≠i1->c≠i2-> ∀o,s.heap.get? c=some o->(h₄.push {cls:= .type "tuple",data:= .seq #[x,y]}).get? c=some o:=fun c c1 c2 c3 o e=>ag _ ((hs₄.2 c c3).trans ((hs₂.2 c c2).trans ((hs₀.2 c c1).trans e)))
  have hz₄:h₄.get? z=h₀.get? z:=by rw [hs₄.2 z D.i2z.symm,hs₂.2 z D.i1z.symm]
  rw [hz₀]at hz₄
  rw [hsz]at hT ⊢
  refine hQ _ ⟨⟨_,_,ag _ hz₄,hf0⟩,up _ D.TIz D.TIi1 D.TIi2 _ hTI,a,b,up _ D.TOz D.TOi1 D.TOi2 _ hTO⟩ ?_ ?_ hT fun c o c1 _ c3 c4 e=>up c c1 c3 c4 o e
  ·obtain⟨o,e,r⟩:=eb h1₂ hs₄ D.i12; exact⟨o,ag _ e,r⟩
  ·obtain⟨o,e,r⟩:=h2₄; exact⟨o,ag _ e,r⟩
theorem CK{z TI TO i1 i2 t1 t2:Addr}{k:Nat}{xs ys:Array Value}{Q:Fin->ah->Prop}(hh:A.handled=none)(D:Ht z TI TO i1 i2)(D1:t1≠z/\t1≠TO/\t1≠i1/\t1≠i2)(D2:t2≠z/\t2≠TO/\t2≠i1/\t2≠i2)(hZ:mW s.heap z TI TO i1 i2)
  (h1:s.heap.IsTupleIter i1 t1 k)(h2:s.heap.IsTupleIter i2 t2 k)(ht1:s.heap.IsTuple t1 xs)(ht2:s.heap.IsTuple t2 ys)(hend:xs[k]? =none\/ys[k]? =none)
  (hE: ∀h' e,(∀c o,c≠z->c≠TO->c≠i1->c≠i2->s.heap.get? c=some o->h'.get? c=some o)->(∃o,h'.get? e=some o/\o.cls= .type "StopIteration")->E (.ref e) {s with heap:=h'}):
  wpAny (model prog w) A (cG.«zip.__next__» ⟨[.ref z], []⟩) Q E s:=by
 obtain⟨⟨f0,f1,hz,hf0⟩,hTI,a,b,hTO⟩:=hZ
 have eb: ∀{h h':Heap} {c t:Addr} {j:Nat} {d:Addr},h.IsTupleIter c t j->bH d h h'->c≠d->h'.IsTupleIter c t j:=fun{h h' c t j d} ⟨o,e,r⟩ sb n=>⟨o,(sb.2 c n).trans e,r⟩
 have et: ∀{h h':Heap} {t:Addr} {is:Array Value} {d:Addr},h.IsTuple t is->bH d h h'->t≠d->h'.IsTuple t is:=fun{h h' t is d} ⟨o,e,r⟩ sb n=>⟨o,(sb.2 t n).trans e,r⟩
 have free:wpAny (model prog w) A (cO (.ref z)) (fun fr s1=> ∃h' f1',s1={s with heap:=h'}/\bH z s.heap h'/\h'.get? z=some {cls:= .type "zip",dict:=none,data:= .fields #[f0, .bool f1', .bool false, .ref TI, .ref TO],slots:= #[]}) E s:=by
  unfold cO
  have es:s={s with heap:=s.heap}:=by cases s; rfl
  rcases hf0 with rfl | ⟨T,rfl⟩
  ·exact aa (bA hz rfl (x:= .none) rfl (af ⟨s.heap,f1,es,dH _ _,hz⟩))
  ·refine aa (bA hz rfl (x:=dX T) rfl ?_)
   show wpAny _ _ (do
    if(<-AA (T:Int).toNat).isNone then return true
    if(<-field (.ref z) 1) != .bool true then fY (.ref z) 1 (.bool true)
    return false) _ _ _
   refine aa (qk fun r=> ?_)
   cases r with
   | none=>
    simp only [Option.isNone_none,if_true]
    exact af ⟨s.heap,f1,es,dH _ _,hz⟩
   | some ob=>
    simp only [Option.isNone_some,aS,if_false]
    refine aa (bA hz rfl (x:= .bool f1) rfl ?_)
    refine eS (fun _=> ?_) fun _=>af ⟨s.heap,f1,es,dH _ _,hz⟩
    exact aa (bS hz (by simp) fun h₁ hz₁ hs₁=>af ⟨h₁,true,rfl,hs₁,hz₁⟩)
 show wpAny _ _ (field (.ref z) 2 >>=_) _ _ _
 refine aa (bA hz rfl (x:= .bool false) rfl ?_)
 show wpAny _ _ (field (.ref z) 3 >>=_) _ _ _
 refine aa (bA hz rfl (x:= .ref TI) rfl ?_)
 refine aa (cZ hTI rfl ?_)
 show wpAny _ _ (cO (.ref z) >>=_) _ _ _
 refine aa (cF free (fun fr s1 hfr=> ?_) fun _ _ x=>x)
 obtain⟨h₀,f1',rfl,hs₀,hz₀⟩:=hfr
 have hTO₀:jB h₀ TO a b:=(hs₀.2 _ D.TOz).trans hTO
 have h1₀:=eb h1 hs₀ D.i1z
 have h2₀:=eb h2 hs₀ D.i2z
 have ht1₀:=et ht1 hs₀ D1.1
 have ht2₀:=et ht2 hs₀ D2.1
 cases fr with
 | true=>
  simp only [if_true]
  refine aa (fc ?_)
  refine aa (bA hz₀ rfl (x:= .ref TO) rfl ?_)
  refine aa (bS hz₀ (by simp) fun h₁ hz₁ hs₁=> ?_)
  refine aa ?_
  simp only [Fi,List.zipIdx_nil,cP,fW]
  refine aa (aa (wQ ?_))
  show wpAny _ _ (bE (.ref i1) >>=_) _ _ _
  cases hx:xs[k]? with
  | none=>
   refine aa (gN hh (eb h1₀ hs₁ D.i1z) (et ht1₀ hs₁ D1.1) hx fun h₂ e hs₂ he=> ?_)
   obtain⟨oe,hoe,hce⟩:=he
   have hz₂:=hs₂ _ _ D.i1z.symm hz₁
   have hez:e≠z:=fun x=>by subst x; rw [hz₂]at hoe; cases hoe; simp at hce
   refine bS hz₂ (by simp) fun h₃ _ hs₃=>hE h₃ e (fun c o c1 _ c3 _ x=>(hs₃.2 c c1).trans (hs₂ _ _ c3 ((hs₁.2 c c1).trans ((hs₀.2 c c1).trans x)))) ⟨oe,(hs₃.2 _ hez).trans hoe,hce⟩
  | some x=>
   have hy:ys[k]? =none:=by rcases hend with h | h; rw [hx]at h; cases h; exact h
   refine aa (g6 (eb h1₀ hs₁ D.i1z) (et ht1₀ hs₁ D1.1) hx fun h₂ h1₂ hs₂=>af ?_)
   have hTO₂:jB h₂ TO a b:=(hs₂.2 _ D.TOi1).trans ((hs₁.2 _ D.TOz).trans hTO₀)
   refine aa (cZ hTO₂ rfl ?_)
   refine aa (AB hTO₂ fun h₃ hTO₃ hs₃=> ?_)
   refine aa (rj (af ?_))
   refine aa (aa (wQ ?_))
   show wpAny _ _ (bE (.ref i2) >>=_) _ _ _
   refine aa (gN hh (eb (eb (eb h2₀ hs₁ D.i2z) hs₂ D.i12.symm) hs₃ D.TOi2.symm) (et (et (et ht2₀ hs₁ D2.1) hs₂ D2.2.2.1) hs₃ D2.2.1) hy fun h₄ e hs₄ he=> ?_)
   obtain⟨oe,hoe,hce⟩:=he
   have hz₃:h₃.get? z=h₁.get? z:=by rw [hs₃.2 z D.TOz.symm,hs₂.2 z D.i1z.symm]
   rw [hz₁]at hz₃
   have hz₄:=hs₄ _ _ D.i2z.symm hz₃
   have hez:e≠z:=fun x=>by subst x; rw [hz₄]at hoe; cases hoe; simp at hce
   refine bS hz₄ (by simp) fun h₅ _ hs₅=>hE h₅ e (fun c o c1 c2 c3 c4 x=>(hs₅.2 c c1).trans (hs₄ _ _ c4 ((hs₃.2 c c2).trans ((hs₂.2 c c3).trans ((hs₁.2 c c1).trans ((hs₀.2 c c1).trans x)))))) ⟨oe,(hs₅.2 _ hez).trans hoe,hce⟩
 | false=>
  simp only [aS,if_false]
  rw [<-fC]
  refine aa ?_
  show wpAny _ _ (forIn [ao i1,ao i2] _ _) _ _ _
  simp only [cP,fW]
  refine aa (aa (bD ?_))
  show wpAny _ _ (bE (.ref i1) >>=_) _ _ _
  cases hx:xs[k]? with
  | none=>exact aa (gN hh h1₀ ht1₀ hx fun h₂ e hs₂ he=>hE h₂ e (fun c o c1 _ c3 _ x=>hs₂ _ _ c3 ((hs₀.2 c c1).trans x)) he)
  | some x=>
   have hy:ys[k]? =none:=by rcases hend with h | h; rw [hx]at h; cases h; exact h
   refine aa (g6 h1₀ ht1₀ hx fun h₂ h1₂ hs₂=>af (af ?_))
   refine aa (aa (bD ?_))
   show wpAny _ _ (bE (.ref i2) >>=_) _ _ _
   exact aa (gN hh (eb h2₀ hs₂ D.i12.symm) (et ht2₀ hs₂ D2.2.2.1) hy fun h₄ e hs₄ he=>hE h₄ e (fun c o c1 _ c3 c4 x=>hs₄ _ _ c4 ((hs₂.2 c c3).trans ((hs₀.2 c c1).trans x))) he)
abbrev IJ(h:Heap)(t1:Addr):Heap:=h.push {cls:= .type "tuple_iterator",data:= .fields #[.ref t1, .int 0 0]}
abbrev IG(h:Heap)(t1 t2:Addr):Heap:=(IJ h t1).push {cls:= .type "tuple_iterator",data:= .fields #[.ref t2, .int 0 0]}
abbrev IL(h:Heap)(t1 t2:Addr):Heap:=(IG h t1 t2).push {cls:= .type "tuple",data:= .seq #[.ref h.objs.size, .ref (IJ h t1).objs.size]}
abbrev IF(h:Heap)(t1 t2:Addr):Heap:=(IL h t1 t2).push {cls:= .type "tuple",data:= .seq #[.none, .none]}
abbrev Hw(h:Heap)(t1 t2:Addr):Heap:=(IF h t1 t2).push {cls:= .type "zip",data:= .fields #[.none, .bool false, .bool false, .ref (IG h t1 t2).objs.size, .ref (IL h t1 t2).objs.size]}
theorem xE(t1 t2:Addr)(xs ys:Array Value):
  Meets (cG.«zip.__new__» ⟨[.type "zip", .ref t1, .ref t2], []⟩) (fun _ R s=>s.heap.IsTuple t1 xs/\s.heap.IsTuple t2 ys/\R (.ok (.ret (.ref (IF s.heap t1 t2).objs.size))) {s with heap:=Hw s.heap t1 t2}):=
 .of_wp fun prog w A R s h=>by
  obtain⟨hp,g,d,tk,os⟩:=s; obtain⟨hl1,hl2,h⟩:=h
  have hsub:=sub_zip
  have hL1:Heap.IsTuple (Shared.heap ⟨hp,g,d,tk,os⟩) t1 xs:=hl1
  have hL2:Heap.IsTuple (Shared.heap ⟨hp.push {cls:= .type "tuple_iterator",data:= .fields #[.ref t1, .int 0 0]},g,d,tk,os⟩) t2 ys:=by
   obtain⟨o,e,r⟩:=hl2; exact⟨o,ag _ e,r⟩
  wp_walk using Dx hL1,Dx hL2
  exact⟨_,rfl,h⟩
theorem Af{t1 t2:Addr}{xs ys:Array Value}{Q:Value->ah->Prop}(hl1:s.heap.IsTuple t1 xs)(hl2:s.heap.IsTuple t2 ys)
  (h: ∀h',mW h' (s.heap.objs.size+4) (s.heap.objs.size+2) (s.heap.objs.size+3) s.heap.objs.size (s.heap.objs.size+1)->h'.IsTupleIter s.heap.objs.size t1 0->h'.IsTupleIter (s.heap.objs.size+1) t2 0->
   (∀c o,s.heap.get? c=some o->h'.get? c=some o)->Q (.ref (s.heap.objs.size+4)) {s with heap:=h'}):
  wpAny (model prog w) A (call (.type "zip") [.ref t1, .ref t2]) Q E s:=by
 refine callType_new PySem.F.called_zip (by decide) (PySem.F.typeCall_zip_2 _ _) (PySem.F.newCall_zip_2 _ _) (fun obj=>PySem.F.args_object_init_3 obj _ _) PySem.F.entry_zip_new (xE t1 t2 xs ys) ⟨hl1,hl2, ?_⟩
 have z1:(IJ s.heap t1).objs.size=s.heap.objs.size+1:=cM ..
 have z2:(IG s.heap t1 t2).objs.size=s.heap.objs.size+2:=by rw [cM,z1]
 have z3:(IL s.heap t1 t2).objs.size=s.heap.objs.size+3:=by rw [cM,z2]
 have z4:(IF s.heap t1 t2).objs.size=s.heap.objs.size+4:=by rw [cM,z3]
 have g5:(Hw s.heap t1 t2).get? (IF s.heap t1 t2).objs.size=some _:=au _ rfl
 have g4:(Hw s.heap t1 t2).get? (IL s.heap t1 t2).objs.size=some _:=ag _ (au _ rfl)
 have g3:(Hw s.heap t1 t2).get? (IG s.heap t1 t2).objs.size=some _:=ag _ (ag _ (au _ rfl))
 have g2:(Hw s.heap t1 t2).get? (IJ s.heap t1).objs.size=some _:=ag _ (ag _ (ag _ (au _ rfl)))
 have g1:(Hw s.heap t1 t2).get? s.heap.objs.size=some _:=ag _ (ag _ (ag _ (ag _ (au _ rfl))))
 show _/\_
 rw [z2,z3,z4]at g5
 rw [z1,z2]at g3
 rw [z3]at g4
 rw [z1]at g2
 rw [z4]
 exact⟨⟨_,g5,rfl⟩,h _ ⟨⟨_,_,g5, .inl rfl⟩,g3,_,_,g4⟩ ⟨_,g1,rfl,rfl⟩ ⟨_,g2,rfl,rfl⟩ fun c o x=>ag _ (ag _ (ag _ (ag _ (ag _ x))))⟩
end
end Z
namespace Z
open PySem PySem.Spec PyProof.Rows L2
section
variable {X:Cx}{pins:List (Addr×Obj)}{σ:St}{H H':Hp}{s:ah}{h':Heap}{fp:List Addr}
theorem vi{t':Nat}(I:Inv X pins σ H s)(hf: ∀b∈fp,kf X pins H b)(k: ∀b u,b∉fp->s.heap.get? b=some u->h'.get? b=some u)(hs:bI H H')(hn: ∀b o,s.heap.get? b=some o->H b=none->H' b=none)
  (dR:mP X.prog X.w H' h'):Inv X pins σ H' {s with heap:=h',toks:=t'}:=by
 refine I.step (g':=s.gens) (d':=s.drawn) (ch:=fp) (fun b hb=> ?_) (fun b o _ _ hc e _=>k b o hc e) (fun b o _ _ hc e _=>⟨o.slots,k b o hc e⟩) (fun b o _ e n=>hn b o e n)
  (fun b o hc e=>⟨o,k b o hc e⟩) (fun b xs e=>hs b _ e) (fun b o u e=>hs b _ e) (fun b ps e=>⟨#[],by rw [hs b _ e]; simp⟩) (fun m hm=> ?_) dR I.bare
 ·obtain⟨f0,f1,f2,f3,f4,f5⟩:=hf b hb
  exact⟨f3,f1,f4,f5⟩
 ·obtain⟨o,es,ep,ho,r⟩:=hm
  exact⟨o,es,ep,k _ o (fun z=>(hf _ z).2.1 rfl) ho,r⟩
theorem CP(I:Inv X pins σ H s)(hf: ∀b∈fp,kf X pins H b)(k: ∀b u,b∉fp->s.heap.get? b=some u->h'.get? b=some u):mP X.prog X.w H h':=fun b u e=>by
 have nf: ∀c v,H c=some v->c∉fp:=fun c v e z=>by rw [(hf c z).1]at e; cases e
 refine(I.dR b u e).stay (fun c v hc q=>k c v ?_ q) (fun _ q=>q) fun _ _ q=>q
 rcases hc with z | z
 ·rw [z]; exact nf b u e
 ·exact nf c _ z
theorem B8{T:Addr}{o:HO}(I:Inv X pins σ H s)(hf: ∀b∈fp,kf X pins H b)(k: ∀b u,b∉fp->s.heap.get? b=some u->h'.get? b=some u)(hT:H T=none)(new:dP X.prog X.w (upd H T o) h' T o):mP X.prog X.w (upd H T o) h':=fun b u e=>by
 by_cases hb:b=T
 ·subst hb
  rw [bC]at e; cases e
  exact new
 ·rw [bP hb]at e
  have nf: ∀c v,H c=some v->c∉fp:=fun c v e z=>by rw [(hf c z).1]at e; cases e
  refine(I.dR b u e).stay (fun c v hc q=>k c v ?_ q) (fun c q=>bB hT c _ q) fun c _ q=>bB hT c _ q
  rcases hc with z | z
  ·rw [z]; exact nf b u e
  ·exact nf c _ z
theorem uc{a b:Addr}{xs:List V}(I:Inv X pins σ H s)(hf:kf X pins H b)(h:i4 X.K H a xs):a≠b:=fun e=>by
 subst e
 rcases h with(h | ⟨o,h⟩) | ⟨o,bL,n,hk,_⟩
 ·rw [hf.1]at h; cases h
 ·rw [hf.1]at h; cases h
 ·have hb:=I.ok.mod.AD a o hk
  rcases hf.2.2.2.1 with z | z
  ·exact I.ok.xw a o hb z
  ·exact absurd (aY (ay hb) (bg I.ok.Cs z)) (e9 _)
end
def Kk(K:Frag)(t1 t2:Addr):It:=
  ⟨fun i H=> ∃xs ys x y,i4 K H t1 xs/\i4 K H t2 ys/\xs[i]? =some x/\ys[i]? =some y,
   fun i H v H'=> ∃T x y,v= .ref T/\H T=none/\H'=upd H T (.tup [x,y])/\(∀xs,i4 K H t1 xs->xs[i]? =some x)/\ ∀ys,i4 K H t2 ys->ys[i]? =some y,
   fun i H=> ∃xs ys,i4 K H t1 xs/\i4 K H t2 ys/\(xs.length<=i\/ys.length<=i)⟩
section
variable {prog:ar}{w:World}{A:bp}{E:Value->ah->Prop}{s:ah}
theorem vV{z TI TO i1 i2 t1 t2:Addr}{k:Nat}{xs ys:Array Value}{x y:Value}{Q:Option Value->ah->Prop}(D:Ht z TI TO i1 i2)(D1:t1≠z/\t1≠TO/\t1≠i1/\t1≠i2)(D2:t2≠z/\t2≠TO/\t2≠i1/\t2≠i2)(hZ:mW s.heap z TI TO i1 i2)
  (h1:s.heap.IsTupleIter i1 t1 k)(h2:s.heap.IsTupleIter i2 t2 k)(ht1:s.heap.IsTuple t1 xs)(ht2:s.heap.IsTuple t2 ys)(hx:xs[k]? =some x)(hy:ys[k]? =some y)
  (hQ: ∀h',mW h' z TI TO i1 i2->h'.IsTupleIter i1 t1 (k+1)->h'.IsTupleIter i2 t2 (k+1)->jB h' s.heap.objs.size x y->
   (∀c o,c≠z->c≠TO->c≠i1->c≠i2->s.heap.get? c=some o->h'.get? c=some o)->Q (some (.ref s.heap.objs.size)) {s with heap:=h'}):wpAny (model prog w) A (g9 (.ref z)) Q E s:=by
 obtain⟨⟨f0,f1,hz,_⟩,_⟩:=id hZ
 have hT:s.TypeIs (.ref z) "zip":=⟨_,hz,rfl⟩
 unfold g9
 exact aa (kl (cm (name:=eV "__next__") hT lZ
  (bF lZ hT F.entry_zip_next (z5 D D1 D2 hZ h1 h2 ht1 ht2 hx hy fun h' a1 a2 a3 a4 a5=>af (hQ h' a1 a2 a3 a4 a5)) (F.args_zip_next_1 _))))
theorem oH{z TI TO i1 i2 t1 t2:Addr}{k:Nat}{xs ys:Array Value}{Q:Option Value->ah->Prop}(hh:A.handled=none)(D:Ht z TI TO i1 i2)(D1:t1≠z/\t1≠TO/\t1≠i1/\t1≠i2)(D2:t2≠z/\t2≠TO/\t2≠i1/\t2≠i2)(hZ:mW s.heap z TI TO i1 i2)
  (h1:s.heap.IsTupleIter i1 t1 k)(h2:s.heap.IsTupleIter i2 t2 k)(ht1:s.heap.IsTuple t1 xs)(ht2:s.heap.IsTuple t2 ys)(hend:xs[k]? =none\/ys[k]? =none)
  (hQ: ∀h',(∀c o,c≠z->c≠TO->c≠i1->c≠i2->s.heap.get? c=some o->h'.get? c=some o)->Q none {s with heap:=h'}):wpAny (model prog w) A (g9 (.ref z)) Q E s:=by
 obtain⟨⟨f0,f1,hz,_⟩,_⟩:=id hZ
 have hT:s.TypeIs (.ref z) "zip":=⟨_,hz,rfl⟩
 unfold g9
 refine aa (kl (cm (name:=eV "__next__") hT lZ
  (bF lZ hT F.entry_zip_next (CK hh D D1 D2 hZ h1 h2 ht1 ht2 hend fun h' e hk he=> ?_) (F.args_zip_next_1 _))))
 obtain⟨o,ho,hc⟩:=he
 refine aa (fv (T:="StopIteration") (b:=true) ⟨o,ho,hc⟩ uW ?_)
 exact af (hQ _ hk)
theorem ou{z TI TO i1 i2:Addr}{Q:Value->ah->Prop}(hZ:mW s.heap z TI TO i1 i2)(h:Q (.ref z) s):wpAny (model prog w) A (qV (.ref z)) Q E s:=by
 obtain⟨⟨f0,f1,hz,_⟩,_⟩:=id hZ
 have hT:s.TypeIs (.ref z) "zip":=⟨_,hz,rfl⟩
 refine h_ hT F.slot_zip_iter (bF F.slot_zip_iter hT F.entry_zip_iter ?_ (F.args_zip_iter_1 _))
 show wpAny _ _ (ret (.ref z)) _ _ s
 exact af ⟨_,rfl,"zip",_,hT,lZ.lookup,h⟩
end
theorem BX{P:ar}{w:World}{K:Frag}{x:Str}{px:Pos}{z TI TO i1 i2 t1 t2:Addr}(D:Ht z TI TO i1 i2):
  Turn P w K (.Name x px) (Kk K t1 t2) [z,TI,TO,i1,i2] z (fun i h=>mW h z TI TO i1 i2/\h.IsTupleIter i1 t1 i/\h.IsTupleIter i2 t2 i) where
 mem:=by simp
 obj:=fun i h ⟨⟨⟨f0,f1,hz,_⟩,hTI,a,b,hTO⟩,h1,h2⟩ c hc=>by
  have hc':c=z\/c=TI\/c=TO\/c=i1\/c=i2:=by simpa using hc
  rcases hc' with rfl | rfl | rfl | rfl | rfl
  ·exact⟨_,hz,fun v e=>by cases e⟩
  ·exact⟨_,hTI,fun v e=>by cases e⟩
  ·exact⟨_,hTO,fun v e=>by cases e⟩
  ·obtain⟨o,e,c,d⟩:=h1; exact⟨o,e,fun v z=>by rw [d]at z; cases z⟩
  ·obtain⟨o,e,c,d⟩:=h2; exact⟨o,e,fun v z=>by rw [d]at z; cases z⟩
 keep:=fun i h h' ⟨⟨⟨f0,f1,hz,q⟩,hTI,a,b,hTO⟩,h1,h2⟩ k=>
  ⟨⟨⟨f0,f1,k z (by simp) _ hz,q⟩,k TI (by simp) _ hTI,a,b,k TO (by simp) _ hTO⟩,h1.at fun o e=>k i1 (by simp) o e,h2.at fun o e=>k i2 (by simp) o e⟩
 item:=by
  intro X hP hw hK hc i pins s σ H E I hf ⟨hZ,h1,h2⟩ hg
  subst hP hw hK
  obtain⟨xs,ys,x0,y0,hq1,hq2,hx,hy⟩:=hg
  obtain⟨its1,rv1,p1,hz1⟩:=I.tuple hq1
  obtain⟨its2,rv2,p2,hz2⟩:=I.tuple hq2
  obtain⟨u,hu,ru⟩:=rv1.get hx
  obtain⟨v,hv,rv⟩:=rv2.get hy
  have n1: ∀b∈ [z,TI,TO,i1,i2],t1≠b:=fun b hb=>uc I (hf b hb) hq1
  have n2: ∀b∈ [z,TI,TO,i1,i2],t2≠b:=fun b hb=>uc I (hf b hb) hq2
  refine vV D ⟨n1 _ (by simp),n1 _ (by simp),n1 _ (by simp),n1 _ (by simp)⟩ ⟨n2 _ (by simp),n2 _ (by simp),n2 _ (by simp),n2 _ (by simp)⟩ hZ h1 h2 (show s.heap.IsTuple t1 its1.toArray from p1) (show s.heap.IsTuple t2 its2.toArray from p2) (x:=u) (y:=v) (by simpa using hu) (by simpa using hv) fun h' a1 a2 a3 a4 k=> ?_
  have kk: ∀b o,b∉ [z,TI,TO,i1,i2]->s.heap.get? b=some o->h'.get? b=some o:=fun b o hb e=>k b o (fun q=>hb (by simp [q])) (fun q=>hb (by simp [q])) (fun q=>hb (by simp [q])) (fun q=>hb (by simp [q])) e
  have I1:Inv X pins σ (upd H s.heap.objs.size (.tup [x0,y0])) {s with heap:=h'}:=vi (t':=s.toks) I hf kk (bB I.fresh) (fun b o e n=>by rw [bP (aM (ay e))]; exact n)
   (B8 I hf kk I.fresh ⟨by show 2<=sizeLine; decide, [u,v], .cons ru (.cons rv .nil),⟨_,a4,rfl,_,rfl⟩⟩)
  refine⟨_,rfl,af ⟨.ref s.heap.objs.size,_,I1,rfl,⟨s.heap.objs.size,x0,y0,rfl,I.fresh,rfl,fun zs hq=>by rw [I.tuple_inj hq hq1]; exact hx,fun zs hq=>by rw [I.tuple_inj hq hq2]; exact hy⟩,⟨a1,a2,a3⟩,fun b hb=> ?_⟩⟩
  have hbl:b < s.heap.objs.size:=by
   have hb':b=z\/b=TI\/b=TO\/b=i1\/b=i2:=by simpa using hb
   obtain⟨⟨f0,f1,hz,_⟩,hTI,a,b,hTO⟩:=hZ
   obtain⟨o1,e1,_⟩:=h1
   obtain⟨o2,e2,_⟩:=h2
   rcases hb' with rfl | rfl | rfl | rfl | rfl
   ·exact ay hz
   ·exact ay hTI
   ·exact ay hTO
   ·exact ay e1
   ·exact ay e2
  rw [bP (aM hbl)]
  exact(hf b hb).1
 done:=by
  intro X hP hw hK hc i pins s σ H E I hf ⟨hZ,h1,h2⟩ hg
  subst hP hw hK
  obtain⟨xs,ys,hq1,hq2,hx⟩:=hg
  obtain⟨its1,rv1,p1,hz1⟩:=I.tuple hq1
  obtain⟨its2,rv2,p2,hz2⟩:=I.tuple hq2
  have n1: ∀b∈ [z,TI,TO,i1,i2],t1≠b:=fun b hb=>uc I (hf b hb) hq1
  have n2: ∀b∈ [z,TI,TO,i1,i2],t2≠b:=fun b hb=>uc I (hf b hb) hq2
  have l1:=rv1.length
  have l2:=rv2.length
  refine oH (I.ok.hd hc) D ⟨n1 _ (by simp),n1 _ (by simp),n1 _ (by simp),n1 _ (by simp)⟩ ⟨n2 _ (by simp),n2 _ (by simp),n2 _ (by simp),n2 _ (by simp)⟩ hZ h1 h2 (show s.heap.IsTuple t1 its1.toArray from p1) (show s.heap.IsTuple t2 its2.toArray from p2) ?_ fun h' k=> ?_
  ·rcases hx with hx | hx
   ·exact .inl (by simp; omega)
   ·exact .inr (by simp; omega)
  have kk: ∀b o,b∉ [z,TI,TO,i1,i2]->s.heap.get? b=some o->h'.get? b=some o:=fun b o hb e=>k b o (fun q=>hb (by simp [q])) (fun q=>hb (by simp [q])) (fun q=>hb (by simp [q])) (fun q=>hb (by simp [q])) e
  exact⟨rfl,vi (t':=s.toks) I hf kk (bI.refl _) (fun b o e n=>n) (CP I hf kk)⟩
 self:=fun _ _ _ _ _ st h=>ou st.1 h
def Jk(K:Frag)(ta:TA):TI:=fun σ H R=>ta σ H fun vs H1=> ∃t1 t2,vs= [.ref t1, .ref t2]/\(∃xs,i4 K H1 t1 xs)/\(∃ys,i4 K H1 t2 ys)/\R (Kk K t1 t2) H1
section
variable {X:Cx}{ρ:eG}{e a b:Expr}{d:D}{ds es:List D}{p pos px:Pos}{x:Str}
theorem Ah:cU "zip"=some (.type "zip"):=by decide +kernel
theorem Gk{ta:TA}(hg:Gl X "zip")(hm:X.mg "zip"=none)(ha:PA X [a,b] ta)(hs:aq [a,b] X.env= [(false,eval a X.env),(false,eval b X.env)]:=by rfl)(hs2:aq [b] X.env= [(false,eval b X.env)]:=by rfl):
  PI X (.Name x px) (.Call (.Name "zip" p) [a,b] [] pos) (Jk X.K ta):=by
 intro pins s σ H R I h
 refine Call_ (nU I hg hm Ah (jd (eQ (ha pos pins s σ H _ I h) fun us s1 ⟨vs,H1,I1,r1,q1⟩=> ?_) (by rw [hs,hs2]) (by rw [hs2]; rfl)))
 obtain⟨t1,t2,e,⟨xs,hq1⟩,⟨ys,hq2⟩,q⟩:=q1
 subst e
 cases r1 with
 | cons r rr=>
  cases rr with
  | cons r' rr=>
   cases rr
   cases r
   cases r'
   obtain⟨its1,rv1,p1,hz1⟩:=I1.tuple hq1
   obtain⟨its2,rv2,p2,hz2⟩:=I1.tuple hq2
   refine Af (show s1.heap.IsTuple t1 its1.toArray from p1) (show s1.heap.IsTuple t2 its2.toArray from p2) fun h' a1 a2 a3 k=> ?_
   refine ou (s:={s1 with heap:=h'}) a1 ?_
   have D:Ht (s1.heap.objs.size+4) (s1.heap.objs.size+2) (s1.heap.objs.size+3) s1.heap.objs.size (s1.heap.objs.size+1):=by
    constructor <;> first | exact aM (by show(_:Nat) < _; omega) | exact bY (by show(_:Nat) < _; omega)
   refine⟨_, [s1.heap.objs.size+4,s1.heap.objs.size+2,s1.heap.objs.size+3,s1.heap.objs.size,s1.heap.objs.size+1],_,_,H1,rfl,I1.kept (t':=s1.toks) k,BX D,⟨a1,a2,a3⟩,fun b hb=> ?_,q⟩
   have hb':b=s1.heap.objs.size+4\/b=s1.heap.objs.size+2\/b=s1.heap.objs.size+3\/b=s1.heap.objs.size\/b=s1.heap.objs.size+1:=by simpa using hb
   have hle:s1.heap.objs.size<=b:=by rcases hb' with rfl | rfl | rfl | rfl | rfl <;> (show(_:Nat)<=_; omega)
   exact I1.fpOk hle (I1.dR.fresh hle)
def Bg(ds es:List D):List D:=(ds.zip es).map fun p=>D.tup [p.1,p.2]
theorem iq.zipT(hg:Gl X "zip")(hm:X.mg "zip"=none)(h1:av X ρ a (.tup ds))(h2:av X ρ b (.tup es))(hs:aq [a,b] X.env= [(false,eval a X.env),(false,eval b X.env)]:=by rfl)(hs2:aq [b] X.env= [(false,eval b X.env)]:=by rfl):
  iq X ρ (.Name x px) (.Call (.Name "zip" p) [a,b] [] pos) (Bg ds es):=fun M0 H0 γ α σ H R r k=>(Gk hg hm ud hs hs2).to ((bz.cons h1 (bz.cons h2 bz.nil hs2) (by rw [hs,hs2])) M0 H0 γ α σ H _ r fun vs H1 s x=>by
 obtain⟨v1,r1,rfl,e1,v2,r2,rfl,e2,e3⟩:=x
 cases e3
 obtain⟨t1,xs,rfl,sq1,dn1⟩:=id e1
 obtain⟨t2,ys,rfl,sq2,dn2⟩:=id e2
 refine⟨t1,t2,rfl,⟨xs,sq1⟩,⟨ys,sq2⟩,k _ H1 [(.tup ds, .ref t1),(.tup es, .ref t2)] s (fun p hp=> ?_) fun M H2 hg=> ?_⟩
 ·have hp':p=(.tup ds, .ref t1)\/p=(.tup es, .ref t2):=by simpa using hp
  rcases hp' with rfl | rfl
  ·exact e1
  ·exact e2
 obtain⟨q1,xs',ee1,sq1',dn1'⟩:=hg _ (b8)
 obtain⟨q2,ys',ee2,sq2',dn2'⟩:=hg _ (bX _ (b8))
 cases ee1; cases ee2
 have L1:=dn1'.len
 have L2:=dn2'.len
 refine⟨fun i d hi=> ?_,⟨xs',ys',sq1',sq2', ?_⟩⟩
 ·unfold Bg at hi
  rw [aD]at hi
  cases e:(ds.zip es)[i]? with
  | none=>rw [e]at hi; cases hi
  | some pq=>
   rw [e]at hi
   cases hi
   obtain⟨g1,g2⟩:=u7.mp e
   obtain⟨x,hx,dx⟩:=dn1'.get g1
   obtain⟨y,hy,dy⟩:=dn2'.get g2
   refine⟨⟨xs',ys',x,y,sq1',sq2',hx,hy⟩,fun v H' hv=> ?_⟩
   obtain⟨T,x',y',rfl,hT,rfl,f1,f2⟩:=hv
   have e1:=f1 xs' sq1'
   have e2:=f2 ys' sq2'
   rw [hx]at e1; cases e1
   rw [hy]at e2; cases e2
   exact⟨bB hT,T,_,rfl,i4.of bC,_,_,rfl,dx.same (bB hT),_,_,rfl,dy.same (bB hT),rfl⟩
 ·unfold Bg
  rw [ae,cb]
  omega)
end
def j8:List Str->List D->Str->Option D
 | n::ns,d::ds,f=>if f==n then some d else j8 ns ds f
 | _,_,_=>none
theorem y7{K:Frag}{M:MP}{H:Hp}{f:Str}{d:D}: ∀{ns:List Str} {ds:List D} {fs:List (Str×V)},fs.map (·.1)=ns->cw K M H ds (fs.map (·.2))->j8 ns ds f=some d-> ∃v,fs.lookup f=some v/\Dn K M H d v
 | [],_,_,_,_,h=>by simp [j8]at h
 | n::ns, [],_,_,_,h=>by simp [j8]at h
 | n::ns,d'::ds, [],e,_,_=>by cases e
 | n::ns,d'::ds,(k,x)::fs,e,⟨v,r,e2,h1,h2⟩,h=>by
  have ek:k=n:=by injection e
  have en:fs.map (·.1)=ns:=by injection e
  have ev:x=v:=by injection e2
  have er:fs.map (·.2)=r:=by injection e2
  subst ek ev er
  unfold j8 at h
  rw [gq]
  cases hb:f==k with
  | true=>rw [hb]at h; cases h; exact⟨x,rfl,h1⟩
  | false=>rw [hb]at h; exact y7 en h2 h
theorem vp{f:Str}: ∀{ns:List Str} {fs:List (Str×V)},fs.map (·.1)=ns->ns.all (fun n=> !(f==n))=true->fs.lookup f=none
 | _, [],_,_=>rfl
 | ns,(k,x)::fs,e,h=>by
  subst e
  rw [aW,List.all_cons,bq]at h
  rw [gq]
  cases hb:f==k with
  | true=>rw [hb]at h; exact absurd h.1 (by decide)
  | false=>exact vp rfl h.2
structure Hn(P:ar)(w:World)(K:Frag)(mg:Str->Option Value)(base:Heap)(CX:fJ)(k:Nat)(C:Addr)(m:Str){ι:Type}(args:ι->List D)(pre:ι->Prop)(res:ι->Except Addr D):Prop where
 ex: ∃(f:Addr) (fd:aV) (ps:List Str),kC P w K mg base CX k f fd ps (lj K args pre res)/\Meth K C m f/\Binds K fd ps []
section
variable {X:Cx}{ρ:eG}{M0:MP}{H0:Hp}{o e:Expr}{es:List Expr}{d:D}{ds:List D}{ns:List Str}{C:Addr}{f m:Str}{pos p apos:Pos}{CX:fJ}{k:Nat}{x:Str}{ι:Type}{args:ι->List D}{pre:ι->Prop}{res:ι->Except Addr D}
theorem av.fld(c:xt X.K C)(n:gY X.K C f)(h:av X ρ e (.ins C ns ds))(hf:j8 ns ds f=some d)(hb:fb e f X.env (eval e X.env)=eval e X.env:=by rfl):av X ρ (.Attribute e f pos) d:=fun M0 H0 γ α σ H Q R kk=>
 (FW f7 hb).to (h M0 H0 γ α σ H _ R fun v H1 s x=>by
  obtain⟨a,dx,fs,rfl,hH,hn,dn⟩:=x
  obtain⟨v,l,dv⟩:=y7 hn dn hf
  exact⟨a,C,dx,fs,v,rfl,hH,c,n,l,kk v H1 s dv⟩)
theorem av.meth0{pl:Sem Bool}(c:xt X.K C)(F:Hn X.prog X.w X.K X.mg X.base CX k C m args pre res)(hr:eL k X.A)(hx:Passes CX X E0)(i:ι)(h:av X ρ o (.ins C ns ds))(hi:args i= [.ins C ns ds])(hp:pre i)(hres:res i= .ok d)(hn:ns.all (fun n=> !(m==n))=true:=by decide +kernel)
  (ht:eval (.Call (.Attribute o m apos) [] [] pos) X.env=(do
   let ov<-eval o X.env
   standAt apos.atName
   let(f,first)<-jc [ov] (getMethod ov m pl)
   callWith pos f first (c9 pos (aq [] X.env)) (backToKw pos (rg [] X.env))):=by rfl):av X ρ (.Call (.Attribute o m apos) [] [] pos) d:=fun M0 H0 γ α σ H Q R kk=>by
 obtain⟨f,fd,ps,F,hm,hb⟩:=F.ex
 refine(CD f7 c hm F hr hb .nil hx ht).to (h M0 H0 γ α σ H _ R fun v H1 s1 dn=> ?_)
 obtain⟨a,dx,fs,rfl,hH,hns,dn'⟩:=id dn
 refine⟨a,dx,fs,rfl,hH,vp hns hn, ?_⟩
 refine⟨i,MM M0 ρ α,jE R s1,by rw [hi]; exact⟨_,_,rfl,dn,rfl⟩,hp,fun d' e v H2 s2 dn=>by rw [hres]at e; cases e; exact kk v H2 (s1.trans s2) dn,fun C e=>by rw [hres]at e; cases e⟩
end
section
variable {P:ar}{w:World}{K:Frag}{mg:Str->Option Value}{base:Heap}{CX:fJ}{k:Nat}{x qual:Str}{st:Stmt}{f C:Addr}{fd:aV}{N ps:List Str}{ι:Type}{args:ι->List D}{pre:ι->Prop}{res:ι->Except Addr D}
theorem s9(F:iY K x qual st f fd)(S:bN N ps (aJ st))(hm:Meth K C x f)(hb:Binds K fd ps [])(hl: ∀i,(args i).length=ps.length)
  (body: ∀(cdv:Value) (A:bp) (outer:List Env) (s:ah) (H:Hp) (E:XK) (i:ι) (M0:MP),pre i->eL k (A.deeper (ki qual (aJ st) s.heap.objs.size f cdv))->
   ∃d,res i= .ok d/\WS (kW CX P w K mg base N qual (aJ st) f cdv A outer s H E).nox M0 H (bx st) (ql N (args i)) {N:=fun _=>d= .non,R:=fun d'=>d'=d}):Hn P w K mg base CX (k+1) C x args pre res:=
 ⟨f,fd,ps,yW F S hl body,hm,hb⟩
end
def dC(H:Hp)(x:Addr):Hp:=fun b=>if b=x then none else H b
theorem nq{H:Hp}{x:Addr}:dC H x x=none:=if_pos rfl
theorem cT{H:Hp}{x:Addr}:bI (dC H x) H:=fun b o e=>by
 unfold dC at e
 split at e
 ·cases e
 ·exact e
def D.noI:Nat->D->Prop
 | _, .non=>True
 | _, .bl _=>True
 | _, .int _=>True
 | _, .str _=>True
 | n+1, .tup ds=> ∀d∈ds,D.noI n d
 | n+1, .lst ds=> ∀d∈ds,D.noI n d
 | _,_=>False
theorem tV{K:Frag}{M:MP}{H H':Hp}: ∀{ds:List D} {xs:List V},(∀d∈ds, ∀v,Dn K M H d v->Dn K M H' d v)->cw K M H ds xs->cw K M H' ds xs
 | [],_,_,r=>r
 | d::ds,_,h,⟨v,t,e,h1,h2⟩=>⟨v,t,e,h d (.head _) v h1,tV (fun x hx=>h x (.tail _ hx)) h2⟩
theorem Dn.noI{K:Frag}{M:MP}{H H':Hp}(kk: ∀b o,H b=some o->(∀C dx fs,o≠ .ins C dx fs)->H' b=some o): ∀(n:Nat) {d:D} {v:V},D.noI n d->Dn K M H d v->Dn K M H' d v:=by
 intro n
 induction n with
 | zero=>intro d v hf h; cases d <;> first | exact h | exact hf.elim
 | succ n ih=>
  intro d v hf h
  cases d with
  | tup ds=>
   obtain⟨a,xs,e,s,r⟩:=h
   refine⟨a,xs,e, ?_,tV (fun d hd v=>ih (hf d hd)) r⟩
   rcases s with(s | ⟨o,s⟩) | s
   ·exact .inl (.inl (kk _ _ s (by intros; intro z; cases z)))
   ·exact .inl (.inr ⟨o,kk _ _ s (by intros; intro z; cases z)⟩)
   ·exact .inr s
  | lst ds=>
   obtain⟨a,xs,e,s,r⟩:=h
   refine⟨a,xs,e, ?_,tV (fun d hd v=>ih (hf d hd)) r⟩
   rcases s with⟨s | ⟨o,s⟩,m⟩ | s
   ·exact .inl ⟨.inl (kk _ _ s (by intros; intro z; cases z)),m⟩
   ·exact .inl ⟨.inr ⟨o,kk _ _ s (by intros; intro z; cases z)⟩,m⟩
   ·exact .inr s
  | non=>exact h
  | bl _=>exact h
  | int _=>exact h
  | str _=>exact h
  | _=>exact hf.elim
theorem Ck{H:Hp}{x C dx:Addr}{fs fs':List (Str×V)}(hx:H x=some (.ins C dx fs)): ∀b o,H b=some o->(∀C dx fs,o≠ .ins C dx fs)->upd H x (.ins C dx fs') b=some o:=fun b o e n=>by
 by_cases hb:b=x
 ·subst hb
  rw [hx]at e; cases e
  exact absurd rfl (n _ _ _)
 ·rw [bP hb]; exact e
theorem Rep.ins{K:Frag}{M0:MP}{H0 H:Hp}{α:Nat->Addr}{ρ:eG}{σ:St}{x C dx:Addr}{fs fs':List (Str×V)}(r:Rep K M0 H0 [] α ρ σ H)(h0:H0 x=none)(hx:H x=some (.ins C dx fs))(hi: ∀s∈ρ,s= .un\/ ∃d,s= .im d/\D.noI 9 d):Rep K M0 H0 [] α ρ σ (upd H x (.ins C dx fs')):=by
 have nomu: ∀(i:Nat) (ds:List D),ρ[i]? =some (.mu ds)->False:=fun i ds e=>by
  rcases hi _ (aP e)with z | ⟨d,z,_⟩ <;> cases z
 refine⟨gi r.same h0,r.old,r.inj,fun i d e=> ?_,fun i ds e=>(nomu i ds e).elim,(fun p hp=>by cases hp),r.len⟩
 obtain⟨v,h1,h2⟩:=r.im i d e
 rcases hi _ (aP e)with z | ⟨d',z,n⟩
 ·cases z
 ·cases z
  exact⟨v,h1,Dn.noI (Ck hx) 9 n h2⟩
section
variable {X:Cx}{ρ:eG}{M0:MP}{H0 H:Hp}{γ:List (D×V)}{α:Nat->Addr}{σ:St}{En:Ends}{c e:Expr}{d:D}{s1:List Stmt}{pos pos' p:Pos}{x C dx:Addr}{f y:Str}{fs:List (Str×V)}
theorem ub(h:cB X ρ c false)(R:Rep X.K M0 H0 γ α ρ σ H)(k: ∀H',bI H H'->En.nx σ H'):tS X (.If c s1 [] pos) En σ H:=
 (y4 BS fg fg).to (h M0 H0 γ α σ H _ R fun H1 s=>qf (lG.to (k H1 s)))
theorem xZ(i:Nat)(hN:X.N[i]? =some y)(hv:tN X.env.scope y)(hσ:σ[i]? =some (some (.ref x)))(cl:xt X.K C)(n:gY X.K C f)(hl:fs.length < 1000)(h:av X ρ e d)(R:Rep X.K M0 H0 γ α ρ σ H)(hx:H x=some (.ins C dx fs))
  (k: ∀v H1,bI H H1->Dn X.K (MM M0 ρ α) H1 d v->En.nx σ (upd H1 x (.ins C dx (fz f v fs))))(hs:cg e (some (.Attribute (.Name y p) f pos')) pos.line X.env=pure false:=by rfl)(hd:(y==("__debug__":Str))=false:=by decide)(hcd:(y==("__classdict__":Str))=false:=by decide):
  tS X (.Assign [.Attribute (.Name y p) f pos'] e pos) En σ H:=
 (Cc (iZ hN hv hd hcd) f7 hs).to (h M0 H0 γ α σ H _ R fun v H1 s dn=>⟨_,hσ,x,C,dx,fs,rfl,s _ _ hx,cl,n,hl,k v H1 s dn⟩)
theorem DN{W:D->Prop}(i:Nat)(hN:X.N[i]? =some y)(hv:tN X.env.scope y)(hσ:σ[i]? =some (some (.ref x)))(cl:xt X.K C)(n:gY X.K C f)(hl:fs.length < 1000)(h:DW X ρ e W)(R:Rep X.K M0 H0 γ α ρ σ H)(hx:H x=some (.ins C dx fs))
  (k: ∀d v H1,W d->bI H H1->Dn X.K (MM M0 ρ α) H1 d v->En.nx σ (upd H1 x (.ins C dx (fz f v fs))))(hs:cg e (some (.Attribute (.Name y p) f pos')) pos.line X.env=pure false:=by rfl)(hd:(y==("__debug__":Str))=false:=by decide)(hcd:(y==("__classdict__":Str))=false:=by decide):
  tS X (.Assign [.Attribute (.Name y p) f pos'] e pos) En σ H:=
 (Cc (iZ hN hv hd hcd) f7 hs).to (h M0 H0 γ α σ H _ R fun d v H1 hd s dn=>⟨_,hσ,x,C,dx,fs,rfl,s _ _ hx,cl,n,hl,k d v H1 hd s dn⟩)
end
def Jz(K:Frag)(C:Addr)(ns:List Str){ι:Type}(args:ι->List D)(pre:ι->Prop)(res:ι->List D->Prop):Sp:=fun vs H Q E=>
 ∃(i:ι) (M0:MP) (x dx:Addr) (us:List V),vs= .ref x::us/\H x=some (.ins C dx [])/\(∀a,M0 a->dC H x a≠none)/\cw K M0 H (args i) us/\pre i/\
  ∀ds fs H',res i ds->bI (dC H x) H'->H' x=some (.ins C dx fs)->fs.map (·.1)=ns->cw K M0 H' ds (fs.map (·.2))->Q .non H'
structure IW(P:ar)(w:World)(K:Frag)(mg:Str->Option Value)(base:Heap)(CX:fJ)(k:Nat)(x:Str)(C:Addr)(ns:List Str){ι:Type}(args:ι->List D)(pre:ι->Prop)(res:ι->List D->Prop):Prop where
 ex: ∃(f:Addr) (fd:aV) (ps:List Str),kC P w K mg base CX k f fd ps (Jz K C ns args pre res)/\Mk K C f/\mg x=some (.ref C)/\Binds K fd ps []
section
variable {X:Cx}{ρ:eG}{e:Expr}{es:List Expr}{C:Addr}{x:Str}{ns:List Str}{pos p:Pos}{CX:fJ}{k:Nat}{ι:Type}{args:ι->List D}{pre:ι->Prop}{res:ι->List D->Prop}
theorem DW.make(F:IW X.prog X.w X.K X.mg X.base CX k x C ns args pre res)(hr:eL (k+1) X.A)(hx:Passes CX X E0)(hg:Gl X x)(i:ι)(ha:bz X ρ (e::es) (args i))(hp:pre i)(hdb:(x==("__debug__":Str))=false:=by decide)
  (he:aq (e::es) X.env=(false,eval e X.env)::aq es X.env:=by rfl)(hpl:(c9 pos (aq es X.env)).any (·.1)=false:=by rfl):DW X ρ (.Call (.Name x p) (e::es) [] pos) (fun d=> ∃ds,d= .ins C ns ds/\res i ds):=fun M0 H0 γ α σ H Q R kk=>by
 obtain⟨f,fd,ps,F,M,hm,hb⟩:=F.ex
 refine(E6 M F hr hg hm hb .nil hx ud hdb he hpl).to (ha M0 H0 γ α σ H _ R fun vs H1 s1 d1=>fun y dy n1 n2 ne=> ?_)
 rw [bj]
 have sm:bI H1 (upd (upd H1 dy (.own y)) y (.ins C dy [])):=fun b o e=>by rw [bP (fm e n1),bP (fm e n2)]; exact e
 have smh:bI H1 (dC (upd (upd H1 dy (.own y)) y (.ins C dy [])) y):=fun b o e=>by
  unfold dC
  rw [if_neg (fm e n1)]
  exact sm b o e
 refine⟨i,MM M0 ρ α,y,dy,vs,rfl,bC,fun a ha z=>jE R s1 a ha (smh.free z),d1.same sm,hp,fun ds fs H' hres s2 hy hns dn=>⟨rfl,kk (.ins C ns ds) (.ref y) H' ⟨ds,rfl,hres⟩ ((s1.trans smh).trans s2) ⟨y,dy,fs,rfl,hy,hns,dn⟩⟩⟩
end
def iD(env:Env)(x:Str×iR)(r:List (Str×Addr)):Sem (ForInStep (List (Str×Addr))):=do
 if x.2==wL then do
  let a<-cellOf env x.1
  pure (gH ((x.1,a)::r))
 else pure (gH r)
theorem lT{env:Env}: ∀(l rest:List (Str×iR)) (acc:List (Str×Addr)),(∀z∈l,z.2≠ .free)->forIn (l ++ rest) acc (iD env)=forIn rest acc (iD env)
 | [],_,_,_=>rfl
 | z::l,rest,acc,h=>by
  have hz:(z.2==wL)=false:=by simpa using h z (.head _)
  rw [kJ,cP]
  have e:iD env z acc=pure (gH acc):=by unfold iD; rw [hz]; rfl
  rw [e]
  simp only [qY]
  exact lT l rest acc fun w hw=>h w (.tail _ hw)
theorem p0{scope:Scope}{env:Env}{y:Str}{c:Addr}{pre post:List (Str×iR)}(hs:scope.names=pre ++ (y, .free)::post)(h1: ∀z∈pre,z.2≠ .free)(h2: ∀z∈post,z.2≠ .free)(hc:env.cells.lookup y=some c):uU scope env=pure [(y,c)]:=by
 have all:forIn scope.names ([]:List (Str×Addr)) (iD env)=pure [(y,c)]:=by
  rw [hs,lT pre _ [] h1,cP]
  have e:cellOf env y=pure c:=by unfold cellOf; rw [hc]
  have e2:iD env (y, .free) []=pure (gH [(y,c)]):=by
   unfold iD
   simp only [beq_self_eq_true,if_true,e,qY]
  rw [e2]
  simp only [qY]
  have:=lT (env:=env) post [] [(y,c)] h2
  rw [bj]at this
  rw [this]
  rfl
 have e2:=congrArg (fun m=>m >>=fun r=>(pure r:Sem (List (Str×Addr)))) all
 have e3:uU scope env=(forIn scope.names ([]:List (Str×Addr)) (iD env) >>=fun r=>pure r):=rfl
 rw [e3,all]
 rfl
theorem dW.cap1{X:Cx}{scope:Scope}{x y:Str}{c:Addr}{j:Nat}{pre post rn:List (Str×iR)}(hs:scope.names=pre ++ (y, .free)::post)(h1: ∀z∈pre,z.2≠ .free)(h2: ∀z∈post,z.2≠ .free)(hcl:X.env.cells.lookup y=some c)
  (hc: ∀z∈scope.names,z.2≠ .cell)(hk:scope.kind= .function)(hn: ∀y∈scope.names,y.2= .local->scope.names.lookup y.1=some .local)(ho:scope.names.lookup x=some .local)(hj:X.N[j]? =some y)(hy:X.env.scope.names.lookup y=some .cell)
  (hrel:(oV scope X.env).names=rn)(hrn:rn.lookup y=some .cell)(hall: ∀z∈rn,(z.2= .cell\/z.2= .free)->z.1=y):dW X [x,y] [j] scope x [(y,c)] where
 BC:=p0 hs h1 h2 hcl
 cell:=hc
 kind:=hk
 names:=hn
 own:=ho
 hN:=⟨[y],rfl,rfl,fun i z k e1 e2=>by
  cases i with
  | zero=>
   have e1':y=z:=by simpa using e1
   have e2':j=k:=by simpa using e2
   subst e1' e2'
   refine⟨hj,hy,by rw [hrel]; exact hrn,fun c' e=> ?_⟩
   rw [hcl]at e
   cases e
   simp
  | succ i=>simp at e1⟩
 sub:=fun z d h=>by
  rw [gq]at h
  cases hb:z==y with
  | true=>
   rw [hb]at h
   cases h
   rw [beq_iff_eq.mp hb]
   exact hcl
  | false=>rw [hb]at h; simp at h
 has:=fun z h=>by
  rw [hrel]at h
  have:z=y:=by
   rcases h with h | h
   ·exact hall _ (cq h) (.inl rfl)
   ·exact hall _ (cq h) (.inr rfl)
  subst this
  exact⟨c,by simp⟩
theorem ID{ρ:eG}{j:Nat}{c:D}(h:ρ[j]? =some (.im c)):xn ρ [j] [c]:=⟨rfl,fun k i d e1 e2=>by
 cases k with
 | zero=>
  have e1':j=i:=by simpa using e1
  have e2':c=d:=by simpa using e2
  subst e1' e2'
  exact h
 | succ k=>simp at e1⟩
section
variable {X:Cx}{ρ:eG}{e a b:Expr}{d:D}{ds:List D}{pos p p2 p3 p4:Pos}
def HK(K:Frag):List V->Hp->VK->Prop:=fun xs H Q=> ∃v tp M d,xs= [v, .ref tp]/\H tp=some (.tup [.ty "list", .ty "tuple"])/\nc K M H d v/\mx d=true/\Q (.bl (oM "list" d || oM "tuple" d)) H
theorem zC:gf X (.builtin "isinstance") (HK X.K):=by
 intro pins s σ H xs us Q I r ⟨v,tp,M,d,e,ht,h,hp,q⟩
 subst e
 obtain⟨u,c,rfl,r1,r2⟩:=vals2 r
 cases (show c=ao tp from r2)
 obtain⟨_,bL,rv,o,ho,hc,n,hd⟩:=(show dP X.prog X.w H s.heap tp (.tup [.ty "list", .ty "tuple"])from I.dR tp _ ht)
 obtain⟨oc,od,dt,sl⟩:=o
 cases (show oc=_ from hc)
 cases (show dt=_ from hd)
 cases rv with
 | cons q1 rv=>
  cases rv with
  | cons q2 rv=>
   cases rv
   cases (show _=cu "list" from q1)
   cases (show _=cu "tuple" from q2)
   refine EX (bL:= [.type "list", .type "tuple"]) (r:=oM "list" d || oM "tuple" d) I h r1 hp ho ?_ fun tk=>⟨.bl _,H,I.tok tk,rfl,q⟩
   cases d <;> first | rfl | (cases hp)
theorem av.isi2{x1:Nat}(hg:Gl X "isinstance")(hm:X.mg "isinstance"=none)(hg1:Gl X "list")(hm1:X.mg "list"=none)(hg2:Gl X "tuple")(hm2:X.mg "tuple"=none)(h:ky X ρ e d)(hp:mx d=true)
  (he:aq [e, .Tuple [.Name "list" p2, .Name "tuple" p3] x1 p4] X.env=(false,eval e X.env)::aq [.Tuple [.Name "list" p2, .Name "tuple" p3] x1 p4] X.env:=by rfl)(he2:aq [.Tuple [.Name "list" p2, .Name "tuple" p3] x1 p4] X.env= [(false,eval (.Tuple [.Name "list" p2, .Name "tuple" p3] x1 p4) X.env)]:=by rfl)
  (he3:aq [.Name "list" p2, .Name "tuple" p3] X.env= [(false,eval (.Name "list" p2) X.env),(false,eval (.Name "tuple" p3) X.env)]:=by rfl)(he4:aq [.Name "tuple" p3] X.env= [(false,eval (.Name "tuple" p3) X.env)]:=by rfl)
  (hpl:(c9 pos (aq [.Tuple [.Name "list" p2, .Name "tuple" p3] x1 p4] X.env)).any (·.1)=false:=by rfl):
  av X ρ (.Call (.Name "isinstance" p) [e, .Tuple [.Name "list" p2, .Name "tuple" p3] x1 p4] [] pos) (.bl (oM "list" d || oM "tuple" d)):=fun M0 H0 γ α σ H Q R k=>
 (gL zC hg hm boot_isinstance (eJ f7 (eJ (Bi (eJ (uu (v:= .ty "list") hg1 hm1 (by decide +kernel) rfl (by decide) (by decide)) (eJ (uu (v:= .ty "tuple") hg2 hm2 (by decide +kernel) rfl (by decide) (by decide)) gP he4) (by rw [he3,he4]))) gP he2) he) (by decide) (by decide) he hpl).to
  (h M0 H0 γ α σ H _ R fun v H1 s1 d1=>⟨by show 2<=sizeLine; decide,fun q hq=>⟨v,q,_,d,rfl,bC,d1.same (bB hq),hp,k _ _ (s1.trans (bB hq)) rfl⟩⟩)
end
end Z
namespace K
open PySem L2 Z
theorem BL{f:c8}(h1:0<=f.st)(h2:0<=f.ht):good f (eC f.st.toNat [])=true:=by
 unfold good
 rw [iB,decide_eq_true (by omega)]
 have e:(eC f.st.toNat ([]:List Int)).flatten= []:=by simp
 rw [e,decide_eq_true mK]
 simp only [gD,cD]
 intro r hr
 rw [List.eq_of_mem_replicate hr]
 unfold ip
 simp [h2]
theorem qd{f:c8}{cell:Int}{st:List (List Int)×Option Int}{k:Nat}(h:good f st.1=true):good f (fO f cell st k).1=true:=by
 obtain⟨rows,oc⟩:=st
 cases oc with
 | none=>exact h
 | some c=>
  unfold fO
  dsimp only
  split
  ·rename_i hg; exact hg
  ·exact h
theorem qb{f:c8}{cell:Int}{rows:List (List Int)}{c:Int}(h:good f rows=true): ∀n,good f (place f cell rows c n).1=true
 | 0=>h
 | n+1=>by rw [mi]; exact qd (qb h n)
theorem oF{f:c8}: ∀(m:Nat) (cell:Int) (rows:List (List Int)) (left:List Int),good f rows=true->good f (mE f m cell rows left)=true
 | 0,_,_,_,h=>h
 | m+1,cell,rows,left,h=>oF m _ _ _ (qb h _)
theorem rD{f:c8}{cell:Int}{crates:List Int}(h1:0<=f.st)(h2:0<=f.ht):good f (dQ f cell crates)=true:=oF _ _ _ _ (BL h1 h2)
theorem f_{f:c8}{rows:List (List Int)}(h:good f rows=true):(rows.length:Int)=f.st:=by
 unfold good at h
 simp only [bq,decide_eq_true_eq]at h
 exact h.1.1
theorem mD{f:c8}{rows:List (List Int)}(h:good f rows=true)(hf:f.st<=4)(hh:f.ht<=6):rows.flatten.length<=24/\ ∀r∈rows,r.length<=6:=by
 have hr: ∀r∈rows,r.length<=6:=fun r hr=>by
  unfold good at h
  simp only [bq,decide_eq_true_eq,cD]at h
  have h2:=h.2 r hr
  unfold ip at h2
  simp only [bq,decide_eq_true_eq]at h2
  omega
 refine⟨?_,hr⟩
 have hl:=f_ h
 have: ∀rs:List (List Int),(∀r∈rs,r.length<=6)->rs.flatten.length<=6 * rs.length:=fun rs=>by
  induction rs with
  | nil=>intro _; simp
  | cons a rs ih=>
   intro ha
   have h1:=ih fun r hr=>ha r (.tail _ hr)
   have h2:=ha a (.head _)
   rw [cy,ak,aC]
   omega
 have:=this rows hr
 omega
structure Bm(mg:Str->Option Value):Prop extends Bn mg where
 nP:mg "isinstance"=none
 int:mg "int"=none
 bool:mg "bool"=none
 all:mg "all"=none
 any:mg "any"=none
 zip:mg "zip"=none
 sorted:mg "sorted"=none
 min:mg "min"=none
 kr: ∃t,mg "FEWEST_STACKS"=some (.int 2 t)
 most: ∃t,mg "MOST_STACKS"=some (.int 4 t)
 low: ∃t,mg "LOWEST_HEIGHT"=some (.int 1 t)
 great: ∃t,mg "GREATEST_HEIGHT"=some (.int 6 t)
 weak: ∃t,mg "WEAKEST_CRANE"=some (.int 1 t)
 CB: ∃t,mg "STRONGEST_CRANE"=some (.int 3 t)
 Fw: ∃t,mg "MOST_BANS"=some (.int 20 t)
 fst: ∃t,mg "FIRST_CRATE"=some (.int 0 t)
 lst: ∃t,mg "LAST_CRATE"=some (.int 9 t)
theorem pR{X:Cx}{ρ:eG}{x:Str}{z:Int}{pos:Pos}(h: ∃t,X.mg x=some (.int z t))(hg:Gl X x)(hd:(x==("__debug__":Str))=false:=by decide):av X ρ (.Name x pos) (.int z):=
 let⟨t,e⟩:=h; av.glob (v:= .int z) hg e ⟨t,rfl⟩ (fun _ _=>rfl) hd
abbrev AF(i:Nat):Stmt:=inClass (top 15) i
abbrev wH:Stmt:=inClass (top 15) 0
section
variable {P:ar}{w:World}{K:Frag}{mg:Str->Option Value}{base:Heap}{CX:fJ}
theorem BP:bN ["value","least","most"] ["value","least","most"] (aJ ua):=⟨rfl,rfl,rfl,by decide +kernel,rfl,by decide +kernel,by decide +kernel⟩
abbrev lV(P:ar)(w:World)(K:Frag)(mg:Str->Option Value)(base:Heap)(CX:fJ):Prop:=
 jQ P w K mg base CX 1 "is_within" (fun i:Int×Int×Int=> [.int i.1, .int i.2.1, .int i.2.2]) (fun _=>True) (fun i=> .ok (.bl (decide (i.2.1<=i.1)&&decide (i.1<=i.2.2))))
theorem zB{f:Addr}{fd:aV}(B:Bm mg)(F:iY K "is_within" "is_within" ua f fd)(hm:mg "is_within"=some (.ref f))(hb:Binds K fd ["value","least","most"] []):lV P w K mg base CX:=by
 refine eN F BP hm hb (fun i=>rfl) fun cdv A outer s H E i M0 hp hr=>⟨_,rfl, ?_⟩
 obtain⟨v,lo,hi⟩:=i
 refine WS.cons (W1.ite (fk.t (fk.or (cB.not (cB.val (av.nP rfl B.nP rfl B.int (by decide +kernel) (.inl rfl) (av.r (nm 0 rfl rfl)) rfl))) fun _=>fk.or1 (cB.val (av.nP rfl B.nP rfl B.bool (by decide +kernel) (.inr (.inl rfl)) (av.r (nm 0 rfl rfl)) rfl)))) (fun h=> ?_) fun h=>WS.nil ?_)
 ·rw [yE,vf]at h
  cases h
 ·exact WS.one (W1.ret (av.chain .le .le (nm 1 rfl rfl) (nm 0 rfl rfl) (nm 2 rfl rfl)) rfl)
def iO(i:Int):Bool:=decide (0<=i)&&decide (i<=9)
theorem Ez:bN ["value"] ["value"] (aJ xB):=⟨rfl,rfl,rfl,by decide +kernel,rfl,by decide +kernel,by decide +kernel⟩
abbrev sW(P:ar)(w:World)(K:Frag)(mg:Str->Option Value)(base:Heap)(CX:fJ):Prop:=
 jQ P w K mg base CX 2 "is_crate" (fun i:Int=> [.int i]) (fun _=>True) (fun i=> .ok (.bl (iO i)))
theorem Cr{f:Addr}{fd:aV}(nx:NX CX)(B:Bm mg)(G:lV P w K mg base CX)(F:iY K "is_crate" "is_crate" xB f fd)(hm:mg "is_crate"=some (.ref f))(hb:Binds K fd ["value"] []):sW P w K mg base CX:=by
 refine eN F Ez hm hb (fun i=>rfl) fun cdv A outer s H E i M0 hp hr=>⟨_,rfl, ?_⟩
 exact WS.one (W1.ret (av.call G hr (bw nx) rfl (i,0,9) (bz.cons (nm 0 rfl rfl) (bz.cons (pR B.fst rfl) (bz.cons (pR B.lst rfl) bz.nil))) trivial rfl) rfl)
theorem DI:bN ["ban"] ["ban"] (aJ xU):=⟨rfl,rfl,rfl,by decide +kernel,rfl,by decide +kernel,by decide +kernel⟩
def ni(p:Int×Int):Bool:=iO p.1&&(iO p.2&& !decide (p.1=p.2))
abbrev xV(P:ar)(w:World)(K:Frag)(mg:Str->Option Value)(base:Heap)(CX:fJ):Prop:=
 jQ P w K mg base CX 3 "is_ban" (fun p:Int×Int=> [pD p]) (fun _=>True) (fun p=> .ok (.bl (ni p)))
theorem A2{f:Addr}{fd:aV}(nx:NX CX)(B:Bm mg)(G:sW P w K mg base CX)(F:iY K "is_ban" "is_ban" xU f fd)(hm:mg "is_ban"=some (.ref f))(hb:Binds K fd ["ban"] []):xV P w K mg base CX:=by
 refine eN F DI hm hb (fun i=>rfl) fun cdv A outer s H E p M0 hp hr=>⟨_,rfl, ?_⟩
 obtain⟨p1,p2⟩:=p
 refine WS.cons (W1.ite (fk.t (fk.or (cB.not (cB.val (av.nP rfl B.nP rfl B.tuple (by decide +kernel) (.inr (.inr (.inr (.inl rfl)))) (av.r (nm 0 rfl rfl)) rfl))) fun _=>fk.or1 (cB.cI .ne (av.lenT rfl B.len (nm 0 rfl rfl)) av.int))) (fun h=> ?_) fun h=>WS.nil ?_)
 ·rw [show oM "tuple" (pD (p1,p2))=true from rfl]at h
  simp at h
 ·exact WS.one (W1.ret (av.and (av.call G hr (bw nx) rfl p1 (bz.cons (av.ixT (nm 0 rfl rfl) av.int rfl) bz.nil) trivial rfl) fun _=>av.and (av.call G hr (bw nx) rfl p2 (bz.cons (av.ixT (nm 0 rfl rfl) av.int rfl) bz.nil) trivial rfl) fun _=>av.one (av.cI .ne (av.ixT (nm 0 rfl rfl) av.int rfl) (av.ixT (nm 0 rfl rfl) av.int rfl))) rfl)
theorem zF:bN ["bans"] ["bans"] (aJ qC):=⟨rfl,rfl,rfl,by decide +kernel,rfl,by decide +kernel,by decide +kernel⟩
abbrev pP(P:ar)(w:World)(K:Frag)(mg:Str->Option Value)(base:Heap)(CX:fJ):Prop:=
 jQ P w K mg base CX 4 "are_bans" (fun ps:List (Int×Int)=> [.lst (ps.map pD)]) (fun ps=>ps.length<=100) (fun ps=> .ok (.bl (decide (ps.length<=20)&&ps.all ni)))
theorem yc{f:Addr}{fd:aV}(nx:NX CX)(B:Bm mg)(G:xV P w K mg base CX)(F:iY K "are_bans" "are_bans" qC f fd)(hm:mg "are_bans"=some (.ref f))(hb:Binds K fd ["bans"] []):pP P w K mg base CX:=by
 refine eN F zF hm hb (fun i=>rfl) fun cdv A outer s H E ps M0 hp hr=>⟨_,rfl, ?_⟩
 have hp':ps.length<=100:=hp
 refine WS.cons (W1.ite (fk.t (fk.or (cB.not (cB.val (av.isi2 rfl B.nP rfl B.list rfl B.tuple (av.r (nm 0 rfl rfl)) rfl))) fun _=>fk.or1 (cB.cI .gt (av.lenL rfl B.len (av.r (nm 0 rfl rfl))) (pR B.Fw rfl)))) (fun h=> ?_) fun h=>WS.nil ?_)
 ·rw [show(oM "list" (D.lst (ps.map pD)) || oM "tuple" (D.lst (ps.map pD)))=true from rfl,ae]at h
  have h':(20:Int) < (ps.length:Int):=by simpa using h
  refine WS.one (W1.ret av.bl ?_)
  show D.bl false=D.bl (decide (ps.length<=20)&&ps.all ni)
  rw [decide_eq_false (by omega)]
  rfl
 ·rw [show(oM "list" (D.lst (ps.map pD)) || oM "tuple" (D.lst (ps.map pD)))=true from rfl,ae]at h
  have h': ¬(20:Int) < (ps.length:Int):=by simpa using h
  refine WS.one (W1.ret (av.to (av.all (bs:=ps.map ni) rfl rfl B.all (av.r (ff.toD (ff.comp (ds:=ps.map pD) (es:=(ps.map ni).map D.bl) (cs:= []) (dW.closed (by decide +kernel) (by decide +kernel) rfl (by decide +kernel) rfl) rfl (by decide +kernel) (iq.list (nm 0 rfl rfl)) nX (by simp) (by rw [ae]; omega) ?_)))) (d':= .bl (decide (ps.length<=20)&&ps.all ni)) (by rw [List.all_map,decide_eq_true (show ps.length<=20 by omega)]; rfl)) rfl)
  intro C s₀ H₀ fp pins i d e h1 h2
  rw [aD]at h1
  rw [aD,aD]at h2
  cases ei:ps[i]? with
  | none=>rw [ei]at h1; cases h1
  | some v=>
   rw [ei]at h1 h2
   cases h1
   cases h2
   exact av.call G hr (bw nx) rfl v (bz.cons (nm 0 rfl rfl) bz.nil) trivial rfl
end
end K
namespace Z
open PySem PySem.Spec PyProof.Rows L2
def wX(ns:List Int):List Int:=ns.mergeSort fun a b=>decide (a<=b)
theorem vC(ns:List Int):(wX ns).Perm ns:=List.mergeSort_perm _ _
theorem He(ns:List Int):(wX ns).Pairwise (· <= ·):=by
 have h:=List.pairwise_mergeSort (le:=fun a b:Int=>decide (a<=b)) (fun a b c h1 h2=>by simp only [decide_eq_true_eq]at *; omega) (fun a b=>by simp only [rV,decide_eq_true_eq]; omega) ns
 exact h.imp fun h=>of_decide_eq_true h
theorem B9{ns ns':List Int}(hp:ns'.Perm ns)(hs:ns'.Pairwise (· <= ·)):ns'=wX ns:=
 List.Perm.eq_of_pairwise (fun a b _ _ h1 h2=>Int.le_antisymm h1 h2) hs (He ns) (hp.trans (vC ns).symm)
theorem tF(ns:List Int):(wX ns).length=ns.length:=(vC ns).length_eq
theorem nt: ∀{us:List Value} {ns:List Int},fB us ns->Vals (ns.map V.int) us
 | _,_, .nil=> .nil
 | _,_, .cons _ _ h=> .cons ⟨_,rfl⟩ (nt h)
section
variable {X:Cx}{ρ:eG}{M0:MP}{H0:Hp}{P:nZ}{e a b c tg:Expr}{d:D}{ds:List D}{pos p p1 p2:Pos}
theorem uw:gf X (.builtin "sorted") (fun xs H Q=> ∃q ns,xs= [.ref q]/\kR X.K H q (ns.map V.int)/\ns.length < 64/\ ∀l,H l=none->Q (.ref l) (upd H l (.lst ((wX ns).map V.int)))):=by
 intro pins s σ H xs us Q I r ⟨q,ns,e,hq,hl,k⟩
 subst e
 obtain⟨u,rfl,rx⟩:=vals1 r
 cases rx
 obtain⟨bL,r',pl,hz⟩:=I.list hq
 have hlen:=r'.length
 rw [ae]at hlen
 refine sorted_ints pl.isList (intsAre_of r') (by omega) fun out ns' a1 a2 a3=> ?_
 obtain⟨e,he⟩:=sortedAll_at s.heap bL out
 have en:=B9 a2 a3
 subst en
 refine⟨.ref (s.heap.objs.size+1),_,I.laid (t':=s.toks) (fun b o e=>sortedAll_old e) (As _) (o:= .lst ((wX ns).map V.int)) ⟨by rw [ae,tF]; exact ji (by omega),out.toList,e,nt a1,by rw [he]⟩,rfl,k _ (I.dR.fresh (As _))⟩
theorem ff.sortedI{ns:List Int}(hg:Gl X "sorted")(hm:X.mg "sorted"=none)(h:ky X ρ e (.lst (ns.map .int)))(hl:ns.length < 64)(he:aq [e] X.env= [(false,eval e X.env)]:=by rfl):ff X ρ (.Call (.Name "sorted" p) [e] [] pos) ((wX ns).map .int):=fun M0 H0 γ α σ H Q R k=>
 (gL uw hg hm (by decide +kernel) (eJ f7 gP he) (by decide) (by decide) he).to (h M0 H0 γ α σ H _ R fun v H1 s1 d1=>by
  obtain⟨q,xs,rfl,sq,dn⟩:=d1
  rw [dn.ints]at sq
  exact⟨q,ns,rfl,sq,hl,fun l hl'=>k l _ H1 _ s1 hl' (bB hl') bC (cw.of_ints _)⟩)
end
section
variable {P:ar}{w:World}{K:Frag}{mg:Str->Option Value}{base:Heap}{CX:fJ}{k:Nat}{x qual:Str}{st:Stmt}{f:Addr}{fd:aV}{N ps:List Str}{ι:Type}{args:ι->List D}{pre:ι->Prop}{res:ι->Except Addr D}
theorem DJ(F:iY K x qual st f fd)(S:bN N ps (aJ st))(hm:mg x=some (.ref f))(hb:Binds K fd ps [])(hl: ∀i,(args i).length=ps.length)
  (body: ∀(cdv:Value) (A:bp) (outer:List Env) (s:ah) (H:Hp) (E:XK) (i:ι) (M0:MP),pre i->eL k (A.deeper (ki qual (aJ st) s.heap.objs.size f cdv))->
   ∃d,res i= .ok d/\ ∀(σ:St),Rep K M0 H [] (fun _=>0) (ql N (args i)) σ H->kB (kW CX P w K mg base N qual (aJ st) f cdv A outer s H E).nox (bx st) (ends K M0 H [] {N:=fun _=>d= .non,R:=fun d'=>d'=d}) σ H):jQ P w K mg base CX (k+1) x args pre res:=by
 refine⟨f,fd,ps, ?_,hm,F.kp,hb⟩
 obtain⟨oc,od,kV,doc,pm,an,cdv,ct,osl,rfl,lk,hcd⟩:=F.ex
 refine vx lk hcd S (fun vs H Q E ⟨i,M0,_,h,_⟩=>by rw [h.len,hl]) fun A outer s H vs Q E hr hsp=> ?_
 obtain⟨i,M0,hM,h,hp,k1,k2⟩:=hsp
 obtain⟨d,hd,ws⟩:=body cdv A outer s H E i M0 hp hr
 refine⟨kB _ (bx st),(fg (X:=(kW CX P w K mg base N qual (aJ st) f cdv A outer s H E).nox)).nox, ?_⟩
 refine kB.mono (En:=ends K M0 H [] {N:=fun _=>d= .non,R:=fun d'=>d'=d}) (fun σ' H' ⟨α,ρ,R,e⟩=> ?_) (fun v H' ⟨d',e,sm,dn⟩=> ?_) (fun _ _ ⟨_,_,_,z⟩=>z.elim) (fun _ _ ⟨_,_,_,z⟩=>z.elim) (ws _ (rep0 hM h))
 ·exact k1 d hd .non H' R.same (by rw [e]; exact rfl)
 ·subst e
  exact k1 _ hd v H' sm dn
end
end Z
namespace Z
open PySem PySem.Spec PyProof.Rows
abbrev GO(l:List Env):List Addr:=l.filterMap (·.frame)
def Jq(h:Heap)(e T:Addr)(cls:Value):Prop:=
 T≠e/\(∃oe vs,h.get? e=some oe/\oe.cls=cls/\oe.data= .fields vs/\vs[1]? =some (.ref T)/\oe.dict=none)/\ ∃oT ts,h.get? T=some oT/\oT.data= .fields ts/\ts[3]? =some .none
structure yu(l:List Env)(ch:List Addr)(e T:Addr)(cls:Value)(h h':Heap):Prop where
 new:h.objs.size<=T
 tr:Jq h' e T cls
 keep: ∀b o,b∉ch->b∉GO l->h.get? b=some o->h'.get? b=some o
 slot: ∀b o,b∈GO l->h.get? b=some o-> ∃sl,h'.get? b=some {o with slots:=sl}
section
variable {M:Model}{A:bp}{E:Value->ah->Prop}{s:ah}
theorem C4(f:Array Value->Array Value)(o:Obj):(fI f o).dict=o.dict:=by
 obtain⟨c,d,dt,sl⟩:=o
 cases dt <;> rfl
theorem qu{base:Heap}{env:Env}{outer:List Env}{L e:Addr}{oe:Obj}{vs:Array Value}{head:Value}{hn:Bool}{Q:Unit->ah->Prop}
  (hfr:A.frames=some (env::outer))(hl:s.heap.FunFrames base (env::outer))(hf:env.frame=some L)(he:s.heap.get? e=some oe)(hd:oe.data= .fields vs)(hsz:1 < vs.size)(hdn:oe.dict=none)
  (h: ∀h' T,yu (env::outer) [e] e T oe.cls s.heap h'->Q () {s with heap:=h'}):
  wpAny M A (do let a<-frameOf env; let pl<-entryPlaceOf L hn; let b<-EntryCells.newEntry head a .none (dX L) .none pl; fY (.ref e) 1 b) (fun _ s'=>wpAny M A (setFlight (.ref e) none) Q E s') E s:=by
 have nofr: ∀b∈GO (env::outer),b≠e:=fun b hb q=>by
  obtain⟨_,o,ho,nf⟩:=hl.mem hb
  rw [q,he]at ho
  cases ho
  exact nf vs hd
 refine aa (wpAny_frameOf_fun hfr hl hf fun h1 sl1=>aa (wpAny_entryPlaceOf fun pl hpl=> ?_))
 unfold EntryCells.newEntry newFields
 refine aa (ba ?_ (hpl.sizeOk5 _ _ _ _ _))
 have e1:h1.get? e=some oe:=(sl1.2.1 e fun m=>nofr e m rfl).trans he
 generalize hO:({cls:= .type "traceback",dict:=none,data:= .fields ([head, .ref L, .none,dX L, .none] ++ (if pl.isEmpty then eC 6 a_ else pl)).toArray}:Obj)=oT
 have dT: ∃ts:Array Value,oT.data= .fields ts/\3 < ts.size:=⟨_,by rw [<-hO],by simp only [ax,ak,aC]; omega⟩
 have fT:oT.isFreed=false:=by obtain⟨ts,q,_⟩:=dT; exact ma q
 have e2:(h1.push oT).get? e=some oe:=ag _ e1
 have t2:(h1.push oT).get? h1.objs.size=some oT:=au _ fT
 have ne:h1.objs.size≠e:=bY (ay e1)
 refine dB e2 hd hsz ?_
 generalize hU:(h1.push oT).update e (fI (·.setIfInBounds 1 (ao h1.objs.size)))=h3
 have d3:=jA hd (·.setIfInBounds 1 (ao h1.objs.size))
 have e3:h3.get? e=some (fI (·.setIfInBounds 1 (ao h1.objs.size)) oe):=by rw [<-hU]; exact di _ e2 (ma d3)
 have k3: ∀b,b≠e->h3.get? b=(h1.push oT).get? b:=fun b hb=>by rw [<-hU]; exact cV _ _ hb.symm
 have t3:h3.get? h1.objs.size=some oT:=(k3 _ ne).trans t2
 obtain⟨ts,dts,lts⟩:=dT
 unfold setFlight
 refine aa (bA e3 d3 (x:= .ref h1.objs.size) (by simp [hsz]) ?_)
 rw [if_pos (show(ao h1.objs.size !=a_)=true from by simp)]
 refine dB t3 dts lts (h _ h1.objs.size ⟨lx sl1.1.symm,⟨ne,⟨_,_, ?_,Obj.cls_mapFields _ _,d3,by simp [hsz],(C4 _ _).trans hdn⟩,⟨_,_,di _ t3 (ma (jA dts _)),jA dts _,by simp [lts]⟩⟩,fun b o n1 n2 q=> ?_,fun b o m q=> ?_⟩)
 ·rw [cV _ _ ne]
  exact e3
 ·have q1:h1.get? b=some o:=(sl1.2.1 b n2).trans q
  have nb:h1.objs.size≠b:=bY (ay q1)
  rw [cV _ _ nb,k3 b fun z=>n1 (by simp [z])]
  exact ag _ q1
 ·obtain⟨sl,q1⟩:=sl1.2.2 b o q
  have nb:h1.objs.size≠b:=bY (ay q1)
  refine⟨sl, ?_⟩
  rw [cV _ _ nb,k3 b (nofr b m)]
  exact ag _ q1
theorem vn{base:Heap}{env:Env}{outer:List Env}{L e:Addr}{oe:Obj}{vs:Array Value}{Q:Unit->ah->Prop}(hfr:A.frames=some (env::outer))(hl:s.heap.FunFrames base (env::outer))(hf:env.frame=some L)
  (he:s.heap.get? e=some oe)(hd:oe.data= .fields vs)(h1:vs[1]? =some .none)(hdn:oe.dict=none)(h: ∀h' T,yu (env::outer) [e] e T oe.cls s.heap h'->Q () {s with heap:=h'}):wpAny M A (leaving env (.ref e)) Q E s:=by
 unfold leaving noteFrame
 simp only [hf]
 refine aa (aa (bA he hd h1 ?_))
 rw [if_neg (by decide)]
 exact qu hfr hl hf he hd (cY.mp h1).1 hdn h
theorem xu{base:Heap}{env:Env}{outer:List Env}{L e T:Addr}{cls:Value}{Q:Unit->ah->Prop}(hfr:A.frames=some (env::outer))(hl:s.heap.FunFrames base (env::outer))(hf:env.frame=some L)(ht:Jq s.heap e T cls)
  (h: ∀h' T',yu (env::outer) [e,T] e T' cls s.heap h'->Q () {s with heap:=h'}):wpAny M A (leaving env (.ref e)) Q E s:=by
 obtain⟨ne,⟨oe,vs,he,hc,hd,h1,hdn⟩,oT,ts,hT,hdT,h3⟩:=ht
 subst hc
 unfold leaving noteFrame
 simp only [hf]
 refine aa (aa (bA he hd h1 ?_))
 rw [if_pos (show(ao T !=a_)=true from by simp)]
 refine aa (bA hT hdT h3 ?_)
 rw [if_neg (show ¬((a_==dX L)=true)from by simp [dX])]
 refine aa (dB hT hdT (cY.mp h3).1 ?_)
 have k: ∀b,b≠T->(s.heap.update T (fI (·.setIfInBounds 3 a_))).get? b=s.heap.get? b:=fun b hb=>cV _ _ hb.symm
 have nfT: ∀b∈GO (env::outer),b≠T:=fun b hb q=>by
  obtain⟨_,o,ho,nf⟩:=hl.mem hb
  rw [q,hT]at ho
  cases ho
  exact nf ts hdT
 refine qu (s:={s with heap:=s.heap.update T (fI (·.setIfInBounds 3 a_))}) hfr (hl.of_keeps fun b o q nf=>⟨o,(k b fun z=> ?_).trans q,rfl⟩) hf ((k e ne.symm).trans he) hd (cY.mp h1).1 hdn fun h' T' x=>h h' T' ⟨?_,x.tr,fun b o n1 n2 q=> ?_,fun b o m q=> ?_⟩
 ·rw [z,hT]at q
  cases q
  exact nf ts hdT
 ·have:=x.new
  rw [show(Shared.heap {s with heap:=s.heap.update T (fI (·.setIfInBounds 3 a_))}).objs.size=s.heap.objs.size from Heap.size_after_update ..]at this
  exact this
 ·exact x.keep b o (fun z=>n1 (by simp at z; simp [z])) n2 ((k b fun z=>n1 (by simp [z])).trans q)
 ·exact x.slot b o m ((k b (nfT b m)).trans q)
end
end Z
namespace Z
open PySem PySem.Spec PyProof.Rows L2
def f9(P:ar)(w:World):fJ:=fun outer H s E e s'=> ∃(a T C:Addr) (H':Hp),e= .ref a/\s'.os=s.os/\lu s'.gens/\Un (wW outer) [] H H' s.heap s'.heap/\mP P w H' s'.heap/\s.heap.get? a=none/\s.heap.get? T=none/\H' a=none/\H' T=none/\Jq s'.heap a T (.ref C)/\E (.ref C) none H'
theorem k7{P:ar}{w:World}: ∀l H s e s',f9 P w l H s E0 e s'->False:=fun _ _ _ _ _ ⟨_,_,_,_,_,_,_,_,_,_,_,_,_,_,z⟩=>z
section
variable {P:ar}{w:World}{H:Hp}{h:Heap}{a:Addr}{o:HO}
theorem Ae(x:dP P w H h a o): ∃u,h.get? a=some u:=by
 cases o with
 | lst xs=>obtain⟨_,_,_,_,e⟩:=x; exact⟨_,e⟩
 | tup xs=>obtain⟨_,_,_,o,e,_⟩:=x; exact⟨_,e⟩
 | dK kvs=>obtain⟨_,_,_,_,o,_,_,e,_⟩:=x; exact⟨_,e⟩
 | dT kvs=>obtain⟨_,_,xs,_,o,es,ep,e,_⟩:=x; exact⟨_,e⟩
 | set S n=>obtain⟨o,es,ep,t,e,_⟩:=x; exact⟨_,e⟩
 | ins C dx fs=>obtain⟨_,_,_,e,_⟩:=x; exact⟨_,e⟩
 | own b=>exact x
 | xd fs=>obtain⟨_,⟨_,_,_,e,_⟩,_⟩:=x; exact⟨_,e⟩
 | rng lo hi=>obtain⟨_,_,_,e⟩:=x; exact⟨_,e⟩
 | frz o u=>exact⟨_,x.1⟩
 | tbl ps=>exact⟨_,x⟩
 | met f y=>exact⟨_,x⟩
 | ext φ=>exact x.2.1
theorem Ca(x:mP P w H h)(e:h.get? a=none):H a=none:=by
 cases q:H a with
 | none=>rfl
 | some o=>
  obtain⟨u,z⟩:=Ae (x a o q)
  rw [e]at z; cases z
end
section
variable {X:Cx}{pins:List (Addr×Obj)}{σ:St}{H:Hp}{s:ah}{h':Heap}{ch:List Addr}{e T:Addr}{cls:Value}
theorem vE(I:Inv X pins σ H s)(hst:X.stack=X.env::X.outer)(hex:X.ex= [])(hf:X.env.frame=some X.env.locals)(x:yu (X.env::X.outer) ch e T cls s.heap h')(hch: ∀b∈ch,H b=none/\X.s₀.heap.get? b=none):
  Un (wW X.outer) [] X.H₀ H X.s₀.heap h'/\mP X.prog X.w H h':=by
 have B:Un (wW X.outer) [] X.H₀ H X.s₀.heap s.heap:=by have:=I.base; rwa [hex]at this
 have nch: ∀b o,X.s₀.heap.get? b=some o->b∉ch:=fun b o q m=>by rw [(hch b m).2]at q; cases q
 have frl: ∀b,b∈GO (X.env::X.outer)↔b=X.env.locals\/b∈wW X.outer:=fun b=>by
  show b∈List.filterMap (·.frame) (X.env::X.outer)↔_
  rw [i_,hf]
  exact aN
 have nL: ∀b o,X.s₀.heap.get? b=some o->b≠X.env.locals:=fun b o q=>aM (aY (ay q) I.ok.above)
 refine⟨⟨fun b o q n hb _=> ?_,fun b o q n hb hx=> ?_,fun b o q n hx=>B.free b o q n hx,fun b o q hx=> ?_,B.rK,B.p9,B.rP⟩,fun b u q=> ?_⟩
 ·exact x.keep b o (nch b o q) (fun m=>((frl b).mp m).elim (nL b o q) hb) (B.keep b o q n hb (by simp))
 ·obtain⟨sl,q1⟩:=B.slot b o q n hb hx
  obtain⟨sl',q2⟩:=x.slot b _ ((frl b).mpr (.inr hb)) q1
  exact⟨sl',q2⟩
 ·obtain⟨o',q1⟩:=B.there b o q hx
  by_cases m:b∈GO (X.env::X.outer)
  ·obtain⟨sl,q2⟩:=x.slot b o' m q1
   exact⟨_,q2⟩
  ·exact⟨o',x.keep b o' (nch b o q) m q1⟩
 ·have ok: ∀c v,H c=some v->c∉ch/\c∉GO (X.env::X.outer):=fun c v z=>by
   refine⟨fun m=> ?_,fun m=> ?_⟩
   ·rw [(hch c m).1]at z
    cases z
   ·have:=I.stkFree c (by rw [hst]; exact m)
    rw [this]at z
    cases z
  refine(I.dR b u q).stay (fun c v hc z=> ?_) (fun _ z=>z) fun _ _ z=>z
  have:=hc.elim (fun z=>by rw [z]; exact ok b u q) fun z=>ok c _ z
  exact x.keep c v this.1 this.2 z
end
section
variable {P:ar}{w:World}{K:Frag}{mg:Str->Option Value}{base:Heap}{N:List Str}{qual:Str}{scope:Scope}{f:Addr}{cd:Value}{A:bp}{outer:List Env}{s0:ah}{H0:Hp}{E:XK}
abbrev xv(P:ar)(w:World)(K:Frag)(mg:Str->Option Value)(base:Heap)(N:List Str)(qual:Str)(scope:Scope)(f:Addr)(cd:Value)(A:bp)(outer:List Env)(s0:ah)(H0:Hp)(E:XK):Cx:=kW (f9 P w) P w K mg base N qual scope f cd A outer s0 H0 E
theorem xF{pins:List (Addr×Obj)}{σ:St}{H:Hp}{s:ah}{h1:Heap}{e C:Addr}{vs:List Value}(I:Inv (xv P w K mg base N qual scope f cd A outer s0 H0 E) pins σ H s)(m:Heap.MadeExcOf s.heap h1 e (.ref C) vs)(hE:E (.ref C) none H):
  (xv P w K mg base N qual scope f cd A outer s0 H0 E).xe (.ref e) {s with heap:=h1}:=by
 have I1:Inv (xv P w K mg base N qual scope f cd A outer s0 H0 E) pins σ H {s with heap:=h1}:=I.kept (t':=s.toks) m.keeps
 obtain⟨t,he,_,_⟩:=m.there
 have n0:s0.heap.get? e=none:=by
  cases q:s0.heap.get? e with
  | none=>rfl
  | some o=>
   obtain⟨o',z⟩:=I.base.there e o q (by simp [kW])
   rw [m.new]at z; cases z
 refine vn (s:={s with heap:=h1}) (base:=base) I1.ok.frames I1.stack rfl he rfl rfl rfl fun h2 T x=> ?_
 have hH:H e=none:=Ca I.dR m.new
 obtain⟨u,hk⟩:=vE I1 rfl rfl rfl x (fun b hb=>by
  have:b=e:=by simpa using hb
  subst this
  exact⟨hH,n0⟩)
 have nT:s0.heap.get? T=none:=Aq (bg I1.sz x.new)
 exact⟨e,T,C,H,rfl,I.os,I.bare,u,hk,n0,nT,hH,I1.dR.fresh x.new,x.tr,hE⟩
theorem tw:Passes (f9 P w) (xv P w K mg base N qual scope f cd A outer s0 H0 E) E:=by
 intro pins σ H s e s' I ⟨a,T,C,H',ee,os,bare,un,dR,na,nT,ha,hT,tr,hE⟩
 subst ee
 obtain⟨hh,g,d,tk,os'⟩:=s'
 obtain rfl:os'=s.os:=os
 have I1:Inv (xv P w K mg base N qual scope f cd A outer s0 H0 E) pins σ H' {s with heap:=hh,gens:=g,drawn:=d,toks:=tk}:=I.call (h':=hh) (g':=g) (d':=d) (t':=tk) (ch:= []) un dR bare (fun b z=>absurd z (by simp))
 have n0: ∀b,s.heap.get? b=none->s0.heap.get? b=none:=fun b z=>by
  cases q:s0.heap.get? b with
  | none=>rfl
  | some o=>
   obtain⟨o',z'⟩:=I.base.there b o q (by simp [kW])
   rw [z]at z'; cases z'
 refine xu (s:={s with heap:=hh,gens:=g,drawn:=d,toks:=tk}) (base:=base) I1.ok.frames I1.stack rfl tr fun h2 T' x=> ?_
 obtain⟨u,hk⟩:=vE I1 rfl rfl rfl x (fun b hb=>by
  have:b=a\/b=T:=by simpa using hb
  rcases this with rfl | rfl
  ·exact⟨ha,n0 _ na⟩
  ·exact⟨hT,n0 _ nT⟩)
 have nT':s0.heap.get? T'=none:=Aq (bg I1.sz x.new)
 exact⟨a,T',C,H',rfl,I.os,bare,u,hk,n0 _ na,nT',ha,I1.dR.fresh x.new,x.tr,hE⟩
end
abbrev AX:List Value:= [.type "ValueError", .type "Exception", .type "BaseException", .type "object"]
structure zZ(x:Str)(C:Addr)(mg:Str->Option Value)(base:Heap):Prop where
 ex: ∃(newId Bn inN:String) (bmN:List Value),OwnCls x C AX newId mg base/\ExcBaseFacts Bn newId inN bmN/\AX.contains (.type Bn)=true
def Hv(X:Cx)(ρ:eG)(E:XK)(e:Expr)(C:Addr):Prop:= ∀(M0:MP) (H0:Hp) (γ:List (D×V)) (α:Nat->Addr) (σ:St) (H:Hp) (Q:VK),Rep X.K M0 H0 γ α ρ σ H->(∀a H',bI H H'->E (.ref C) a H')->tE X e σ H Q
def yz(X:Cx)(ρ:eG)(E:XK)(st:Stmt)(C:Addr):Prop:= ∀(M0:MP) (H0:Hp) (γ:List (D×V)) (α:Nat->Addr) (σ:St) (H:Hp) (En:Ends),Rep X.K M0 H0 γ α ρ σ H->(∀a H',bI H H'->E (.ref C) a H')->tS X st En σ H
def jm(X:Cx)(ρ:eG)(E:XK)(st:List Stmt)(C:Addr):Prop:= ∀(M0:MP) (H0:Hp) (γ:List (D×V)) (α:Nat->Addr) (σ:St) (H:Hp) (En:Ends),Rep X.K M0 H0 γ α ρ σ H->(∀a H',bI H H'->E (.ref C) a H')->kB X st En σ H
section
variable {X:Cx}{ρ:eG}{E:XK}{e c:Expr}{es:List Expr}{st:Stmt}{sts s1 s2:List Stmt}{C:Addr}{d:D}{pos p pos':Pos}{CX:fJ}{k:Nat}{x:Str}{ι:Type}{args:ι->List D}{pre:ι->Prop}{res:ι->Except Addr D}
theorem Hv.call{i:ι}(F:jQ X.prog X.w X.K X.mg X.base CX k x args pre res)(hr:eL k X.A)(hx:Passes CX X E)(hg:Gl X x)(ha:bz X ρ (e::es) (args i))(hp:pre i)(hres:res i= .error C)(hdb:(x==("__debug__":Str))=false:=by decide)
  (he:aq (e::es) X.env=(false,eval e X.env)::aq es X.env:=by rfl)(hpl:(c9 pos (aq es X.env)).any (·.1)=false:=by rfl):Hv X ρ E (.Call (.Name x p) (e::es) [] pos) C:=fun M0 H0 γ α σ H Q R kE=>by
 obtain⟨f,fd,ps,F,hm,hk,hb⟩:=F.ex
 refine(pB F hr hg hm hk hb .nil hx ud hdb he hpl).to (ha M0 H0 γ α σ H _ R fun vs H1 s1 d1=> ?_)
 show lj X.K args pre res (vs ++ []) H1 Q E
 rw [bj]
 exact⟨i,MM M0 ρ α,jE R s1,d1,hp,(fun d' e=>by rw [hres]at e; cases e),(fun C' e a H2 s2=>by rw [hres]at e; cases e; exact kE a H2 (s1.trans s2))⟩
theorem yz.expr(h:Hv X ρ E e C)(hs:cg e none pos.line X.env=pure false:=by rfl):yz X ρ E (.Expr e pos) C:=fun M0 H0 γ α σ H En R kE=>(lM f7 hs).to (h M0 H0 γ α σ H _ R kE)
theorem yz.ite{t:Bool}(h:cB X ρ c t)(h1:t=true->jm X ρ E s1 C)(h2:t=false->jm X ρ E s2 C):yz X ρ E (.If c s1 s2 pos) C:=fun M0 H0 γ α σ H En R kE=>
 (y4 BS fg fg).to (h M0 H0 γ α σ H _ R fun H1 s=>by
  cases e:t with
  | true=>exact rO (h1 e M0 H0 γ α σ H1 _ (R.next s) fun a H' s'=>kE a H' (s.trans s'))
  | false=>exact qf (h2 e M0 H0 γ α σ H1 _ (R.next s) fun a H' s'=>kE a H' (s.trans s')))
theorem jm.here(h:yz X ρ E st C):jm X ρ E (st::sts) C:=fun M0 H0 γ α σ H En R kE=>(cE oE fg).to (h M0 H0 γ α σ H _ R kE)
theorem jm.expr(h:av X ρ e d)(k:jm X ρ E sts C)(hs:cg e none pos.line X.env=pure false:=by rfl):jm X ρ E (.Expr e pos::sts) C:=fun M0 H0 γ α σ H En R kE=>
 (cE oE fg).to ((lM f7 hs).to (h M0 H0 γ α σ H _ R fun v H' s _=>k M0 H0 γ α σ H' En (R.next s) fun a H2 s2=>kE a H2 (s.trans s2)))
end
section
variable {P:ar}{w:World}{K:Frag}{mg:Str->Option Value}{base:Heap}{N:List Str}{qual:Str}{scope:Scope}{f:Addr}{cd:Value}{A:bp}{outer:List Env}{s0:ah}{H0:Hp}{E:XK}
theorem yz.raise{ρ:eG}{x:Str}{C:Addr}{e:Expr}{d:D}{np cpos pos:Pos}(O:zZ x C mg base)(hg:Gl (xv P w K mg base N qual scope f cd A outer s0 H0 E) x)(he:av (xv P w K mg base N qual scope f cd A outer s0 H0 E) ρ e d)
  (hs:aq [e] (xv P w K mg base N qual scope f cd A outer s0 H0 E).env= [(false,eval e (xv P w K mg base N qual scope f cd A outer s0 H0 E).env)]:=by rfl)(hdb:(x==("__debug__":Str))=false:=by decide):
  yz (xv P w K mg base N qual scope f cd A outer s0 H0 E) ρ E (.Raise (some (.Call (.Name x np) [e] [] cpos)) none pos) C:=fun M0 Hb γ α σ H En R kE pins s I=>by
 obtain⟨newId,Bn,inN,bmN,O,Fn,hBn⟩:=O.ex
 obtain⟨tl,N',nm,q,bs,hdct,sn,sub,ab,col,dd,k0,k1,k2,k3,k5,mN,hC,hN,hni,T⟩:=O.obj
 have hlen: ∀us:List Value,us.length=1->us.length<=sizeLine:=fun us h=>by rw [h]; decide
 refine wpAny_Raise_call_subU (C:=C) (nm:=nm) (q:=q) (N:=N') (bs:=bs) (bm:=tl) (hdct:=hdct) (sn:=sn) (sub:=sub) (ab:=ab) (col:=col) (dd:=dd) (k0:=k0) (k1:=k1) (k2:=k2) (k3:=k3) (k5:=k5) (newId:=newId) Fn hBn uY (mN:=mN) (T.hasType uY.hasBase) (I.ok.hd rfl) (by rw [hs]; rfl) hni (pA I hg O.bound ⟨rfl, ?_⟩ hdb)
 have run:=(eJ (f7 (X:=xv P w K mg base N qual scope f cd A outer s0 H0 E) (e:=e)) gP hs) cpos pins s σ H (fun vs H1=>vs.length=1/\bI H H1) I (he M0 Hb γ α σ H _ R fun v H1 s1 _=>⟨rfl,s1⟩)
 rw [hs]at run ⊢
 refine Au (cF run (fun us s2 h2=> ?_) fun _ _ z=>z)
 obtain⟨vs,H1,I2,r2,l1,sm⟩:=h2
 have kp: ∀b o,base.get? b=some o->s2.heap.get? b=some o:=I2.bk
 exact⟨rfl,hlen us (r2.length▸l1),kp _ _ hC,hN.keeps kp,T.keeps kp,fun h' ex m=>xF I2 m (kE none H1 sm)⟩
end
section
variable {P:ar}{w:World}{K:Frag}{mg:Str->Option Value}{base:Heap}{k:Nat}{x qual:Str}{st:Stmt}{f:Addr}{fd:aV}{N ps:List Str}{ι:Type}{args:ι->List D}{pre:ι->Prop}{res:ι->Except Addr D}
theorem o8(F:iY K x qual st f fd)(S:bN N ps (aJ st))(hm:mg x=some (.ref f))(hb:Binds K fd ps [])(hl: ∀i,(args i).length=ps.length)
  (body: ∀(cdv:Value) (A:bp) (outer:List Env) (s:ah) (H:Hp) (E:XK) (i:ι) (M0:MP),pre i->eL k (A.deeper (ki qual (aJ st) s.heap.objs.size f cdv))->
   (∃d,res i= .ok d/\WS (xv P w K mg base N qual (aJ st) f cdv A outer s H E).nox M0 H (bx st) (ql N (args i)) {N:=fun _=>d= .non,R:=fun d'=>d'=d})\/
   ∃C,res i= .error C/\jm (xv P w K mg base N qual (aJ st) f cdv A outer s H E) (ql N (args i)) E (bx st) C):jQ P w K mg base (f9 P w) (k+1) x args pre res:=by
 refine⟨f,fd,ps, ?_,hm,F.kp,hb⟩
 obtain⟨oc,od,kV,doc,pm,an,cdv,ct,osl,rfl,lk,hcd⟩:=F.ex
 refine vx lk hcd S (fun vs H Q E ⟨i,M0,_,h,_⟩=>by rw [h.len,hl]) fun A outer s H vs Q E hr hsp=> ?_
 obtain⟨i,M0,hM,h,hp,k1,k2⟩:=hsp
 rcases body cdv A outer s H E i M0 hp hr with⟨d,hd,ws⟩ | ⟨C,hC,rs⟩
 ·refine⟨kB _ (bx st),(fg (X:=(xv P w K mg base N qual (aJ st) f cdv A outer s H E).nox)).nox, ?_⟩
  refine kB.mono (En:=ends K M0 H [] {N:=fun _=>d= .non,R:=fun d'=>d'=d}) (fun σ' H' ⟨α,ρ,R,e⟩=> ?_) (fun v H' ⟨d',e,sm,dn⟩=> ?_) (fun _ _ ⟨_,_,_,z⟩=>z.elim) (fun _ _ ⟨_,_,_,z⟩=>z.elim) (ws [] (fun _=>0) _ H (rep0 hM h))
  ·exact k1 d hd .non H' R.same (by rw [e]; exact rfl)
  ·subst e
   exact k1 _ hd v H' sm dn
 ·exact⟨kB _ (bx st),fg (X:=xv P w K mg base N qual (aJ st) f cdv A outer s H E),rs M0 H [] (fun _=>0) _ H _ (rep0 hM h) fun a H' sm=>k2 C hC a H' sm⟩
end
end Z
namespace Z
open PySem PySem.Spec PyProof.Rows
end Z
namespace Z
open PySem PySem.Spec PyProof.Rows L2
end Z
namespace Z
open PySem PySem.Spec PySem.W PyProof.Rows
end Z
namespace Z
open PySem PySem.Spec PyProof.Rows L2
def D.bare:Nat->D->Prop
 | _, .non=>True
 | _, .bl _=>True
 | _, .int _=>True
 | _, .str _=>True
 | n+1, .tup ds=> ∀d∈ds,D.bare n d
 | n+1, .ins _ _ ds=> ∀d∈ds,D.bare n d
 | _,_=>False
theorem cw.map1{K:Frag}{M M':MP}{H H':Hp}: ∀{ds:List D} {xs:List V},(∀d∈ds, ∀v,Dn K M H d v->Dn K M' H' d v)->cw K M H ds xs->cw K M' H' ds xs
 | [],_,_,h=>h
 | d::ds,_,k,⟨v,t,e,h1,h2⟩=>⟨v,t,e,k d (.head _) v h1,cw.map1 (fun x hx=>k x (.tail _ hx)) h2⟩
theorem Dn.bare{K:Frag}{M M':MP}{H:Hp}: ∀(n:Nat) {d:D} {v:V},D.bare n d->Dn K M H d v->Dn K M' H d v:=by
 intro n
 induction n with
 | zero=>intro d v hf h; cases d <;> first | exact h | exact hf.elim
 | succ n ih=>
  intro d v hf h
  cases d with
  | tup ds=>
   obtain⟨a,xs,e,s,r⟩:=h
   exact⟨a,xs,e,s,cw.map1 (fun d hd v=>ih (hf d hd)) r⟩
  | ins C ns ds=>
   obtain⟨a,dx,fs,e,s,hn,r⟩:=h
   exact⟨a,dx,fs,e,s,hn,cw.map1 (fun d hd v=>ih (hf d hd)) r⟩
  | non=>exact h
  | bl _=>exact h
  | int _=>exact h
  | str _=>exact h
  | _=>exact hf.elim
theorem Bv(σ:St)(i:Nat):σ.set i (σ[i]?).join=σ:=by
 apply fM
 intro j
 rw [dE]
 split
 ·rename_i e
  subst e
  split
  ·rename_i h
   rw [ai h]
   rfl
  ·rename_i h
   rw [br (qW h)]
 ·rfl
section
variable {K:Frag}{M:MP}{H:Hp}{a b:Addr}{o:Obj}{xs ys:List V}
theorem CU(ha:H a=some (.frz o (.lst xs)))(h:Rd H b (.lst ys)):Rd (upd H a (.lst xs)) b (.lst ys):=by
 by_cases hb:b=a
 ·subst hb
  rcases h with h | ⟨o',h⟩
  ·rw [ha]at h; cases h
  ·rw [ha]at h; cases h; exact .inl bC
 ·rcases h with h | ⟨o',h⟩
  ·exact .inl (by rw [bP hb]; exact h)
  ·exact .inr ⟨o',by rw [bP hb]; exact h⟩
theorem Br(ha:H a=some (.frz o (.lst xs)))(h:i4 K H b ys):i4 K (upd H a (.lst xs)) b ys:=by
 rcases h with(h | ⟨o',h⟩) | h
 ·exact .inl (.inl (by rw [bP fun z=>by rw [z,ha]at h; cases h]; exact h))
 ·exact .inl (.inr ⟨o',by rw [bP fun z=>by rw [z,ha]at h; cases h]; exact h⟩)
 ·exact .inr h
theorem Cn(ha:H a=some (.frz o (.lst xs)))(h:DB K M H b ys):DB K M (upd H a (.lst xs)) b ys:=by
 rcases h with⟨h,m⟩ | h
 ·exact .inl ⟨CU ha h,m⟩
 ·exact .inr h
mutual
theorem Dn.rF(ha:H a=some (.frz o (.lst xs))): ∀{d:D} {v:V},Dn K M H d v->Dn K M (upd H a (.lst xs)) d v
 | .non,_,x=>x
 | .bl _,_,x=>x
 | .int _,_,x=>x
 | .str _,_,x=>x
 | .tup ds,_,⟨b,ys,e,s,r⟩=>⟨b,ys,e,Br ha s,cw.rF ha r⟩
 | .lst ds,_,⟨b,ys,e,s,r⟩=>⟨b,ys,e,Cn ha s,cw.rF ha r⟩
 | .ins _ _ ds,_,⟨b,dx,fs,e,s,n,r⟩=>⟨b,dx,fs,e,by rw [bP fun z=>by rw [z,ha]at s; cases s]; exact s,n,cw.rF ha r⟩
 | .exc C,_,⟨b,e,s⟩=>⟨b,e,by rw [bP fun z=>by rw [z,ha]at s; cases s]; exact s⟩
 | .dct _ _ _,_,⟨b,bs,e,s,l1,l2,r⟩=>⟨b,bs,e,s.imp fun _ ⟨eo,s⟩=>⟨eo,by rw [bP fun z=>by rw [z,ha]at s; cases s]; exact s⟩,l1,l2,cw.rF ha r⟩
theorem cw.rF(ha:H a=some (.frz o (.lst xs))): ∀{ds:List D} {vs:List V},cw K M H ds vs->cw K M (upd H a (.lst xs)) ds vs
 | [],_,x=>x
 | _::_,_,⟨v,r,e,p,q⟩=>⟨v,r,e,Dn.rF ha p,cw.rF ha q⟩
end
end
section
variable {X:Cx}{ρ:eG}{M0:MP}{H0 H H':Hp}{γ:List (D×V)}{α:Nat->Addr}{σ:St}{En:Ends}{sts s1 body:List Stmt}{e c tg:Expr}{es:List Expr}{d:D}{pos p pos':Pos}{CX:fJ}{k:Nat}{x:Str}{ι:Type}{args:ι->List D}{pre:ι->Prop}{res:ι->Except Addr D}{Q:VK}
theorem EA{i:ι}(F:jQ X.prog X.w X.K X.mg X.base CX k x args pre res)(hr:eL k X.A)(hx:Passes CX X E0)(hg:Gl X x)(ha:bz X ρ (e::es) (args i))(hb: ∀d∈args i,D.bare 9 d)(hp:pre i)(hres:res i= .ok d)(R:Rep X.K M0 H0 γ α ρ σ H)
  (kk: ∀v H',bI H H'->Dn X.K (fun a=>H a≠none) H' d v->Q v H')(hdb:(x==("__debug__":Str))=false:=by decide)
  (he:aq (e::es) X.env=(false,eval e X.env)::aq es X.env:=by rfl)(hpl:(c9 pos (aq es X.env)).any (·.1)=false:=by rfl):tE X (.Call (.Name x p) (e::es) [] pos) σ H Q:=by
 obtain⟨f,fd,ps,F,hm,hk,hb'⟩:=F.ex
 refine(pB F hr hg hm hk hb' .nil hx ud hdb he hpl).to (ha M0 H0 γ α σ H _ R fun vs H1 s1 d1=> ?_)
 show lj X.K args pre res (vs ++ []) H1 Q E0
 rw [bj]
 refine⟨i,fun a=>H1 a≠none,fun a z=>z,cw.map1 (fun d hd v=>Dn.bare 9 (hb d hd)) d1,hp,fun d' e v H2 s2 dn=> ?_,fun C e=>by rw [hres]at e; cases e⟩
 rw [hres]at e
 cases e
 exact kk v H2 (s1.trans s2) (dn.less fun a z w=>z (s1.free w))
theorem rF{a:Addr}{o:Obj}{xs:List V}(h0:X.H₀ a=none)(ha:H a=some (.frz o (.lst xs)))(h:kB X sts En σ (upd H a (.lst xs))):kB X sts En σ H:=fun pins s I=>by
 refine h pins s ?_
 have na: ∀b,H b=none->b≠a:=fun b n z=>by rw [z,ha]at n; cases n
 refine⟨I.ok,I.os,I.bare,⟨I.base.keep,I.base.slot,fun b o q n hx=> ?_,I.base.there,fun b xs q=> ?_,fun b o u q=> ?_,fun b ps q=> ?_⟩,I.loc,I.cell, ?_,fun x c e=> ?_,fun p hp=> ?_,fun b u q=> ?_,I.len⟩
 ·have:=I.base.free b o q n hx
  rw [bP (na b this)]; exact this
 ·have:=I.base.rK b xs q
  rw [bP fun z=>by rw [z,ha]at this; cases this]; exact this
 ·have:=I.base.p9 b o u q
  rw [bP fun z=>by rw [z,h0]at q; cases q]; exact this
 ·obtain⟨more,this⟩:=I.base.rP b ps q
  exact⟨more,by rw [bP fun z=>by rw [z,ha]at this; cases this]; exact this⟩
 ·rw [bP (na _ I.free)]; exact I.free
 ·rw [bP (na _ (I.kz x c e))]; exact I.kz x c e
 ·obtain⟨e,n,ne,nf,d⟩:=I.pin p hp
  exact⟨e,by rw [bP (na _ n)]; exact n,ne,nf,d⟩
 ·have stay: ∀{u:HO},dP X.prog X.w H s.heap b u->dP X.prog X.w (upd H a (.lst xs)) s.heap b u:=fun x=>x.stay (fun c v _ z=>z) (fun c z=>by rw [bP fun w=>by rw [w,ha]at z; cases z]; exact z) fun c ys z=>by rw [bP fun w=>by rw [w,ha]at z; cases z]; exact z
  by_cases hba:b=a
  ·subst hba
   rw [bC]at q
   cases q
   have y:dP X.prog X.w H s.heap b (.frz o (.lst xs)):=I.dR b _ ha
   exact stay y.2
  ·rw [bP hba]at q
   exact stay (I.dR b u q)
theorem xJ{i:ι}{j:Nat}{y:Str}{pos2:Pos}(hN:X.N.Nodup)(hj:X.N[j]? =some y)(hy:Loc X.env.scope y)(F:jQ X.prog X.w X.K X.mg X.base CX k x args pre res)(hr:eL k X.A)(hx:Passes CX X E0)(hg:Gl X x)(ha:bz X ρ (e::es) (args i))(hb: ∀d∈args i,D.bare 9 d)(hp:pre i)(hres:res i= .ok d)(R:Rep X.K M0 H0 γ α ρ σ H)
  (kk: ∀v H',bI H H'->Dn X.K (fun a=>H a≠none) H' d v->En.nx (σ.set j (some v)) H')(hs:cg (.Call (.Name x p) (e::es) [] pos') (some (.Name y pos)) pos2.line X.env=pure false:=by rfl)(hf:X.fn y=true\/X.env.scope.names.lookup y=some .local:=by first | exact .inl rfl | exact .inr rfl | assumption)(hdb:(x==("__debug__":Str))=false:=by decide)
  (he:aq (e::es) X.env=(false,eval e X.env)::aq es X.env:=by rfl)(hpl:(c9 pos' (aq es X.env)).any (·.1)=false:=by rfl):tS X (.Assign [.Name y pos] (.Call (.Name x p) (e::es) [] pos') pos2) En σ H:=
 (kU hN hj hy f7 hs hf).to (EA F hr hx hg ha hb hp hres R kk hdb he hpl)
end
section
variable {K:Frag}{h:Heap}{mg:Str->Option Value}{x:Str}{C D0:Addr}{tl:List Value}{nid:String}
theorem D_(ok:ko K C tl nid=true): ∃nm q N bs bm hdct sn sub ab col dd k0 k1 k2 k3 k5,K.lookup C=some (excClassObj nm q C N bs bm hdct sn sub ab col dd k0 k1 k2 k3 k5 nid)/\PySem.W.tailIn K tl bm=true/\PySem.W.nsOkIn K N=true/\gr K N "__init__"=some none:=by
 unfold ko at ok
 split at ok
 case h_2=>cases ok
 rename_i dct cdat slots look
 split at ok
 case h_2=>cases ok
 rename_i C2 above s0 s1 s2 s3 bid s5 em es
 simp only [fN,bq,beq_iff_eq]at ok
 obtain⟨⟨⟨⟨⟨w1,w2⟩,w3⟩,w4⟩,w5⟩,w6⟩:=ok
 subst w1 w2
 obtain⟨v1,v2,v3,v4,v5,v6,v7,v8,v9,v10,v11⟩:=cdat
 dsimp only at em w3 w5 w6
 subst em w3
 obtain⟨sl⟩:=slots
 have es':sl= [s0,s1,s2,s3,some (.builtin bid),s5]:=es
 subst es'
 exact⟨v1,v5,v4,v2,above,v6,v7,v8,v9,v10,dct,s0,s1,s2,s3,s5,look,w4,w5,w6⟩
theorem zD(AD:K.In h)(hmg:mg x=some (.ref C))(ok:ko K C tl nid=true):OwnCls x C tl nid mg h:=by
 obtain⟨nm,q,N,bs,bm,hdct,sn,sub,ab,col,dd,k0,k1,k2,k3,k5,look,w4,w5,w6⟩:=D_ ok
 exact⟨hmg,bm,N,nm,q,bs,hdct,sn,sub,ab,col,dd,k0,k1,k2,k3,k5,_,AD _ _ look, .of_isNs (PySem.W.isNs_of_in AD w5),PySem.W.nsMap_none_of_in AD w5 w6,PySem.W.tail_of_in AD w4⟩
theorem yw(AD:K.In h)(hmg:mg x=some (.ref C))(ok:ko K C AX "ValueError.__new__"=true):zZ x C mg h:=
 ⟨_,_,_,_,zD AD hmg ok,uY,by decide +kernel⟩
end
def Fq(K:Frag):Bool:=K.all fun p=> !(p.2.cls== .type "list")
theorem BY{K:Frag}(e:Fq K=true)(a:Addr)(xs:List V): ¬Ef K a xs:=fun⟨o,bL,n,lk,hc,_⟩=>by
 have:=cD.mp e (a,o) (PySem.W.mem_of_lookupK lk)
 dsimp only at this
 rw [hc]at this
 revert this
 decide +kernel
theorem BU{l:FO}{q:ar}{loose:List Str}{XP:(Str->Option Value)->Heap->Prop}{YP:World->Heap->Prop}{d:DefRec}{K:Params->Frag}{k:Nat}(hr:eL k oU)(hn:l.most=some 63)(hdf:d.params.defaults= [])
  (hY: ∀(w:World) (h:Heap),YP w h->(K w.params).In h)
  (F: ∀(w:World) (mg:Str->Option Value) (fa:Addr) (h:Heap),(K w.params).In h->h.Ns b9 mg->mg d.name=some (.ref fa)->
   ∃fd:aV,(∀(s:ah) (u:Value),BindsTo s fd ⟨[u], []⟩ [("script",u)])/\ ∀base:Heap,(K w.params).In base->base.Ns b9 mg->kC l.prog w (K w.params) mg base (f9 l.prog w) k fa fd ["script"] (yq (K w.params))):
  PySem.W.WalkO q loose XP YP l.row.toRowW d [] (fun f vs=>PySem.call f vs):=
 L2.EU (n:=63) (k:=k) (x:="script") (CX:=fun w=>f9 l.prog w) (sp:=fun w=>yq (K w.params)) hn (by decide) hdf hr hY F (fun w H a ns hl _ hS=>by
  refine⟨ns,Hi,fun _ z=>z.elim,⟨.ref a, [],rfl,⟨a,ns.map V.int,rfl, ?_,cw.of_ints ns⟩,rfl⟩,hl,fun d' e v H' _ dn=> ?_,fun C e=>by cases e⟩
  ·rcases hS with s | s
   ·exact .inl ⟨s,fun z=>z⟩
   ·exact .inr s
  ·cases e
   exact dn) fun w H s e s' z=>k7 [] H s e s' z
section
variable {K:Frag}{M0:MP}{H0 Hs H:Hp}{γ:List (D×V)}{α:Nat->Addr}{ρ:eG}{σ:St}{D0 l:Addr}{as:List Addr}{rows:List (List Int)}{o:HO}
theorem Rep.view{i:Nat}{d:D}{v:V}(r:Rep K M0 H0 γ α ρ σ H)(hi:i < ρ.length)(hσ:σ[i]? =some (some v))(h:Dn K (MM M0 ρ α) H d v):Rep K M0 H0 γ α (ρ.set i (.im d)) σ H:=by
 have e:σ.set i (some v)=σ:=by
  have:=Bv σ i
  rw [hσ]at this
  exact this
 have h':=r.set_im hi h
 rwa [e]at h'
end
section
variable {X:Cx}{ρ:eG}{M0:MP}{H0 Hs H:Hp}{γ:List (D×V)}{α:Nat->Addr}{σ:St}{En:Ends}{body:List Stmt}{b e tg:Expr}{d:D}{ds:List D}{pos p1 p2 p3 p4:Pos}{x:Str}{i:Nat}{D0 l:Addr}{as:List Addr}{rows:List (List Int)}{xs:List V}
theorem HL(hi:X.N[i]? =some x)(hv:tN X.env.scope x)(R:Rep X.K M0 H0 γ α ρ σ H)(hσ:σ[i]? =some (some (.ref l)))(hl:H l=some (.lst xs))(hz:xs.length < 1000000)(he:av X ρ e d)
  (q: ∀H1 v,bI H H1->Dn X.K (MM M0 ρ α) H1 d v->En.nx σ (upd H1 l (.lst (xs ++ [v]))))(mc:Hr X (.Name x p1) "append" e p2 p3)(hd:(x==("__debug__":Str))=false:=by decide)(hcd:(x==("__classdict__":Str))=false:=by decide)
  (hsw:cg (.Call (.Attribute (.Name x p1) "append" p2) [e] [] p3) none pos.line X.env=pure false:=by rfl):tS X (.Expr (.Call (.Attribute (.Name x p1) "append" p2) [e] [] p3) pos) En σ H:=by
 obtain⟨m1,m2,m3,m4⟩:=mc
 refine(lM (A6 gV PySem.F.slot_list_append PySem.F.type_list_append nO (iZ hi hv hd hcd) ud m1 m2 m3 m4 rfl) hsw).to ?_
 refine⟨_,hσ, .inl ⟨rfl,_,kR.of hl⟩,(bz.cons he bz.nil m4) M0 H0 γ α σ H _ R fun vs H1 s y=> ?_⟩
 obtain⟨v,r,rfl,e1,e2⟩:=y
 cases e2
 exact⟨l,xs,v,rfl,rfl,s _ _ hl,yx hz,q H1 v s e1⟩
end
end Z
namespace Z
open PySem PySem.Spec PySem.W PyProof.Rows
abbrev Kd:=PyProof.Rows.Keyed
structure lb(S:Kd->Prop)(lt:Kd->Kd->Bool):Prop where
 tot: ∀x y,S x->S y->x≠y->lt x y=false->lt y x=true
 Bz: ∀x y,lt x y=true->lt y x=false
 tr: ∀x y z,lt x y=true->lt y z=true->lt x z=true
def pV(prog:ar)(w:World)(A:bp)(s:ah)(κ:iU)(S:Kd->Prop)(lt:Kd->Kd->Bool):Prop:=
 ∀(x y:Kd) (Q:Bool->ah->Prop),S x->S y->Q (lt x y) s->wpAny (model prog w) A (keyLt' κ x.1 y.1) Q (fun _ _=>False) s
def Et:Bool->Kd->Array Kd->Nat->Nat->Nat->StateT bV Sem (Option Nat):=sortPriv% PySem.Builtin.gallop
section
variable {prog:ar}{w:World}{A:bp}{E:Value->ah->Prop}{s:ah}{κ:iU}{S:Kd->Prop}{lt:Kd->Kd->Bool}{st:bV}
theorem qt{x y:Kd}{Q:Option Bool->bV->Prop}(c:pV prog w A s κ S lt)(hk:kindOf st=κ)(hx:S x)(hy:S y)(h:Q (some (lt x y)) st):wpS (model prog w) A E s (lt' x y) Q st:=by
 rw [lt'_eq]
 refine aB (lC ?_)
 rw [hk]
 refine aB (oX (kl (cF (c x y (fun b s'=>b=lt x y/\s'=s) hx hy ⟨rfl,rfl⟩) ?_ fun _ _ z=>z.elim)))
 rintro b s' ⟨rfl,rfl⟩
 exact⟨rfl,aG h⟩
theorem cA{arr:Array Kd}{i:Nat}{x:Kd}{Q:Kd->bV->Prop}(hi:arr[i]? =some x)(h:Q x st):wpS (model prog w) A E s (elem' arr i) Q st:=by
 rw [elem'_eq,hi]
 exact aG h
theorem EN{left:Bool}{key:Kd}{arr:Array Kd}{i:Nat}{x:Kd}{Q:Option Bool->bV->Prop}(o:lb S lt)(c:pV prog w A s κ S lt)(hk:kindOf st=κ)(hi:arr[i]? =some x)(hx:S x)(hy:S key)(hne:x≠key)(h:Q (some (lt x key)) st):
  wpS (model prog w) A E s (do let x<-elem' arr i; if left=true then lt' x key else do let r<-lt' key x; pure (r.map (!·))) Q st:=by
 refine aB (cA hi ?_)
 cases left with
 | true=>exact qt c hk hx hy h
 | false=>
  refine aB (qt c hk hy hx (aG ?_))
  have:(!lt key x)=lt x key:=by
   cases e:lt x key with
   | true=>rw [o.Bz _ _ e]; rfl
   | false=>rw [o.tot _ _ hx hy hne e]; rfl
  show Q (some (!lt key x)) st
  rw [this]
  exact h
theorem pK{n lo hi:Nat}{p:Nat->Bool}{ω:Type}{f:Nat->Option ω×Nat×Nat->StateT bV Sem (ForInStep (Option ω×Nat×Nat))}{Q:Option ω×Nat×Nat->bV->Prop}
  (hf: ∀x lo hi (Q':ForInStep (Option ω×Nat×Nat)->bV->Prop),hi<=n->(hi<=lo->Q' (.done (none,lo,hi)) st)->(lo < hi->p (lo+(hi - lo) / 2)=true->Q' (.yield (none,lo+(hi - lo) / 2+1,hi)) st)->(lo < hi->p (lo+(hi - lo) / 2)=false->Q' (.yield (none,lo,lo+(hi - lo) / 2)) st)->wpS (model prog w) A E s (f x (none,lo,hi)) Q' st)
  (hp: ∀i j,i<=j->j < n->p j=true->p i=true)(h1:lo<=hi)(h2:hi<=n)(h3: ∀i,i < lo->p i=true)(h4: ∀i,hi<=i->i < n->p i=false)
  (h: ∀k,k<=n->(∀i,i < k->p i=true)->(∀i,k<=i->i < n->p i=false)->Q (none,k,k) st):wpS (model prog w) A E s (forIn [0:n] (none,lo,hi) f) Q st:=by
 have dn: ∀i j,i<=j->j < n->p i=false->p j=false:=fun i j hij hj e=>by
  cases e2:p j with
  | false=>rfl
  | true=>rw [hp i j hij hj e2]at e; cases e
 refine cQ (I:=fun x c st'=>st'=st/\ ∃lo hi,c=(none,lo,hi)/\lo<=hi/\hi<=n/\hi - lo<=n - x/\(∀i,i < lo->p i=true)/\(∀i,hi<=i->i < n->p i=false)) ?_ ?_ ⟨rfl,lo,hi,rfl,h1,h2,by omega,h3,h4⟩
 ·rintro x c st' _ hx ⟨rfl,lo,hi,rfl,h1,h2,h5,h3,h4⟩
  refine hf x lo hi _ h2 (fun e=> ?_) (fun e q=>⟨rfl,_,_,rfl,by omega,h2,by omega,fun i hi'=>hp i _ (by omega) (by omega) q,h4⟩) fun e q=>⟨rfl,_,_,rfl,by omega,by omega,by omega,h3,fun i hi' hn=>dn _ i hi' hn q⟩
  have:lo=hi:=by omega
  subst this
  exact h lo h2 h3 h4
 ·rintro c st' ⟨rfl,lo,hi,rfl,h1,h2,h5,h3,h4⟩
  have:lo=hi:=by omega
  subst this
  exact h lo h2 h3 h4
set_option maxHeartbeats 1000000 in
theorem gZ{left:Bool}{key:Kd}{arr:Array Kd}{base n hint:Nat}{g:Nat->Kd}{Q:Option Nat->bV->Prop}(o:lb S lt)(c:pV prog w A s κ S lt)(hk:kindOf st=κ)
  (hg: ∀i,i < n->arr[base+i]? =some (g i))(hS: ∀i,i < n->S (g i))(hne: ∀i,i < n->g i≠key)(hy:S key)(hm: ∀i j,i < j->j < n->lt (g i) (g j)=true)(hh:hint < n)
  (h: ∀k,k<=n->(∀i,i < k->lt (g i) key=true)->(∀i,k<=i->i < n->lt (g i) key=false)->Q (some k) st):wpS (model prog w) A E s (Et left key arr base n hint) Q st:=by
 have far: ∀i,i < n-> ∀Q':Option Bool->bV->Prop,Q' (some (lt (g i) key)) st->wpS (model prog w) A E s (do let x<-elem' arr (base+i); if left=true then lt' x key else do let r<-lt' key x; pure (r.map (!·))) Q' st:=fun i hi Q' hq=>EN o c hk (hg i hi) (hS i hi) hy (hne i hi) hq
 have up: ∀i j,i<=j->j < n->lt (g j) key=true->lt (g i) key=true:=fun i j hij hj e=>by
  rcases Nat.lt_or_eq_of_le hij with z | rfl
  ·exact o.tr _ _ _ (hm i j z hj) e
  ·exact e
 have dn: ∀i j,i<=j->j < n->lt (g i) key=false->lt (g j) key=false:=fun i j hij hj e=>by
  cases e2:lt (g j) key with
  | false=>rfl
  | true=>rw [up i j hij hj e2]at e; cases e
 refine aB (far hint hh _ ?_)
 cases eh:lt (g hint) key with
 | true=>
  dsimp only
  rw [if_pos rfl]
  refine aB (dU (cQ (I:=fun x c st'=>st'=st/\ ∃la ofs,c=(none,la,ofs)/\la < ofs/\x+1<=ofs/\hint+la < n/\lt (g (hint+la)) key=true)
   (Q:=fun c st'=>st'=st/\ ∃la ofs,c=(none,la,ofs)/\la < ofs/\hint+la < n/\lt (g (hint+la)) key=true/\(n - hint<=ofs\/(hint+ofs < n/\lt (g (hint+ofs)) key=false))) ?_ ?_ ⟨rfl,0,1,rfl,by omega,by omega,by omega,eh⟩) ?_)
  ·rintro x c st' _ hx ⟨rfl,la,ofs,rfl,l1,l2,l3,l4⟩
   dsimp only
   by_cases z:ofs>=n - hint
   ·rw [if_pos z]
    exact aG ⟨rfl,la,ofs,rfl,l1,l3,l4, .inl z⟩
   ·rw [if_neg z]
    refine aB (far (hint+ofs) (by omega) _ ?_)
    cases em:lt (g (hint+ofs)) key with
    | true=>exact aG ⟨rfl,ofs,2 * ofs+1,rfl,by omega,by omega,by omega,em⟩
    | false=>exact aG ⟨rfl,la,ofs,rfl,l1,l3,l4, .inr ⟨by omega,em⟩⟩
  ·rintro c st' ⟨rfl,la,ofs,rfl,l1,l2,l3,l4⟩
   exact⟨rfl,la,ofs,rfl,l1,l3,l4, .inl (by omega)⟩
  ·rintro c st' ⟨rfl,la,ofs,rfl,l1,l3,l4,l5⟩
   dsimp only
   refine aB (pK (p:=fun i=>lt (g i) key) (fun x lo hi Q' hn k1 k2 k3=> ?_) up (by omega) (by omega) (fun i hi=>up i _ (by omega) l3 l4) (fun i hi hn=> ?_) fun k hk h1 h2=>aG (h k hk h1 h2))
   ·dsimp only
    by_cases z:lo>=hi
    ·rw [if_pos z]
     exact aG (k1 z)
    ·rw [if_neg z]
     refine aB (far (lo+(hi - lo) / 2) (by omega) _ ?_)
     cases em:lt (g (lo+(hi - lo) / 2)) key with
     | true=>exact aG (k2 (by omega) em)
     | false=>exact aG (k3 (by omega) em)
   ·rcases l5 with l5 | ⟨l5,l6⟩
    ·omega
    ·exact dn (hint+ofs) i (by omega) hn l6
 | false=>
  dsimp only
  rw [if_neg (by simp)]
  refine aB (dU (cQ (I:=fun x c st'=>st'=st/\ ∃la ofs,c=(none,la,ofs)/\la < ofs/\x+1<=ofs/\la<=hint/\lt (g (hint - la)) key=false)
   (Q:=fun c st'=>st'=st/\ ∃la ofs,c=(none,la,ofs)/\la < ofs/\la<=hint/\lt (g (hint - la)) key=false/\(hint+1<=ofs\/(ofs<=hint/\lt (g (hint - ofs)) key=true))) ?_ ?_ ⟨rfl,0,1,rfl,by omega,by omega,by omega,eh⟩) ?_)
  ·rintro x c st' _ hx ⟨rfl,la,ofs,rfl,l1,l2,l3,l4⟩
   dsimp only
   by_cases z:ofs>=hint+1
   ·rw [if_pos z]
    exact aG ⟨rfl,la,ofs,rfl,l1,l3,l4, .inl z⟩
   ·rw [if_neg z]
    refine aB (far (hint - ofs) (by omega) _ ?_)
    cases em:lt (g (hint - ofs)) key with
    | true=>exact aG ⟨rfl,la,ofs,rfl,l1,l3,l4, .inr ⟨by omega,em⟩⟩
    | false=>exact aG ⟨rfl,ofs,2 * ofs+1,rfl,by omega,by omega,by omega,em⟩
  ·rintro c st' ⟨rfl,la,ofs,rfl,l1,l2,l3,l4⟩
   exact⟨rfl,la,ofs,rfl,l1,l3,l4, .inl (by omega)⟩
  ·rintro c st' ⟨rfl,la,ofs,rfl,l1,l3,l4,l5⟩
   dsimp only
   refine aB (pK (p:=fun i=>lt (g i) key) (fun x lo hi Q' hn k1 k2 k3=> ?_) up (by omega) (by omega) (fun i hi=> ?_) (fun i hi hn=>dn (hint - la) i hi hn l4) fun k hk h1 h2=>aG (h k hk h1 h2))
   ·dsimp only
    by_cases z:lo>=hi
    ·rw [if_pos z]
     exact aG (k1 z)
    ·rw [if_neg z]
     refine aB (far (lo+(hi - lo) / 2) (by omega) _ ?_)
     cases em:lt (g (lo+(hi - lo) / 2)) key with
     | true=>exact aG (k2 (by omega) em)
     | false=>exact aG (k3 (by omega) em)
   ·rcases l5 with l5 | ⟨l5,l6⟩
    ·omega
    ·exact up i (hint - ofs) (by omega) (by omega) l6
end
abbrev jM(lt:Kd->Kd->Bool)(l:List Kd):Prop:=l.Pairwise fun x y=>lt x y=true
structure gM(lt:Kd->Kd->Bool)(a b out:List Kd)(ia ib:Nat):Prop where
 ha:ia<=a.length
 hb:ib<=b.length
 perm:out.Perm (a.take ia ++ b.take ib)
 wX:jM lt out
 lo: ∀x∈out, ∀y,(y∈a.drop ia\/y∈b.drop ib)->lt x y=true
section
variable {lt:Kd->Kd->Bool}{a b out:List Kd}{ia ib k:Nat}
theorem gM.swap(m:gM lt a b out ia ib):gM lt b a out ib ia:=⟨m.hb,m.ha,m.perm.trans cv,m.wX,fun x hx y hy=>m.lo x hx y hy.symm⟩
theorem BZ(a:List Kd)(i k:Nat):a.drop i=(a.drop i).take k ++ a.drop (i+k):=by
 rw [<-List.drop_drop,aO]
theorem gM.pushA(m:gM lt a b out ia ib)(hk:ia+k<=a.length)(sa:jM lt a)(h: ∀x∈(a.drop ia).take k, ∀y∈b.drop ib,lt x y=true):gM lt a b (out ++ (a.drop ia).take k) (ia+k) ib:=by
 have sd:jM lt (a.drop ia):=cK (j5 ia a) sa
 have cut:=BZ a ia k
 have sd':=sd
 rw [cut]at sd'
 have c:=bJ.mp sd'
 refine⟨hk,m.hb, ?_,bJ.mpr ⟨m.wX,c.1,fun x hx y hy=>m.lo x hx y (.inl (fX hy))⟩,fun x hx y hy=> ?_⟩
 ·have e:a.take (ia+k)=a.take ia ++ (a.drop ia).take k:=List.take_add
  rw [e]
  refine(m.perm.append_right _).trans ?_
  rw [aI,aI]
  exact dj _ cv
 ·rcases bh.mp hx with hx | hx
  ·exact m.lo x hx y (hy.imp (fun z=>by rw [cut]; exact bK _ z) id)
  ·rcases hy with hy | hy
   ·exact c.2.2 x hx y hy
   ·exact h x hx y hy
theorem gM.pushB(m:gM lt a b out ia ib)(hk:ib+k<=b.length)(sb:jM lt b)(h: ∀x∈(b.drop ib).take k, ∀y∈a.drop ia,lt x y=true):gM lt a b (out ++ (b.drop ib).take k) ia (ib+k):=(m.swap.pushA hk sb h).swap
theorem take_one{x:Kd}{i:Nat}(h:a[i]? =some x):(a.drop i).take 1= [x]:=by
 obtain⟨hi,e⟩:=aA.mp h
 rw [jT hi,e]
 rfl
theorem above{S:Kd->Prop}(o:lb S lt)(sa:jM lt a){x y z:Kd}{i:Nat}(h:a[i]? =some x)(hz:lt z x=true)(hy:y∈a.drop i):lt z y=true:=by
 obtain⟨hi,e⟩:=aA.mp h
 have sd:jM lt (a.drop i):=cK (j5 i a) sa
 rw [jT hi,e]at hy sd
 rcases aN.mp hy with rfl | hy
 ·exact hz
 ·exact o.tr _ _ _ hz ((bT.mp sd).1 y hy)
theorem gM.finB(m:gM lt a b out ia ib)(sa:jM lt a)(sb:jM lt b)(h: ∀x∈b.drop ib, ∀y∈a.drop ia,lt x y=true):(out ++ b.drop ib ++ a.drop ia).Perm (a ++ b)/\jM lt (out ++ b.drop ib ++ a.drop ia):=by
 constructor
 ·have e1:(a ++ b).Perm ((a.take ia ++ a.drop ia) ++ (b.take ib ++ b.drop ib)):=by rw [aO,aO]
  refine i9 ?_ e1.symm
  rw [aI]
  refine(m.perm.append_right _).trans ?_
  rw [aI,aI]
  refine dj _ ?_
  rw [<-aI]
  exact cv
 ·refine bJ.mpr ⟨bJ.mpr ⟨m.wX,cK (j5 ib b) sb,fun x hx y hy=>m.lo x hx y (.inr hy)⟩,cK (j5 ia a) sa,fun x hx y hy=> ?_⟩
  rcases bh.mp hx with hx | hx
  ·exact m.lo x hx y (.inl hy)
  ·exact h x hx y hy
theorem gM.finA(m:gM lt a b out ia ib)(sa:jM lt a)(sb:jM lt b)(h: ∀x∈a.drop ia, ∀y∈b.drop ib,lt x y=true):(out ++ a.drop ia ++ b.drop ib).Perm (a ++ b)/\jM lt (out ++ a.drop ia ++ b.drop ib):=
 let⟨p,q⟩:=m.swap.finB sb sa h; ⟨p.trans cv,q⟩
end
def fE(st st':bV):Prop:=kindOf st'=kindOf st/\arrOf st'=arrOf st/\bW st'=bW st/\f6 st'=f6 st
theorem fE.refl(st:bV):fE st st:=⟨rfl,rfl,rfl,rfl⟩
theorem fE.trans{a b c:bV}(x:fE a b)(y:fE b c):fE a c:=⟨y.1.trans x.1,y.2.1.trans x.2.1,y.2.2.1.trans x.2.2.1,y.2.2.2.trans x.2.2.2⟩
def Eb:Nat->StateT bV Sem Unit:=sortPriv% PySem.Builtin.setMinGallop
def BF:Array Kd->Array Kd->StateT bV Sem (Array Kd):=sortPriv% PySem.Builtin.mergeLo
def AJ:Array Kd->Array Kd->StateT bV Sem (Array Kd):=sortPriv% PySem.Builtin.mergeHi
section
variable {prog:ar}{w:World}{A:bp}{E:Value->ah->Prop}{s:ah}{κ:iU}{S:Kd->Prop}{lt:Kd->Kd->Bool}{st:bV}
theorem j9{g:Nat}{Q:Unit->bV->Prop}(h: ∀st',fE st st'->Q () st'):wpS (model prog w) A E s (Eb g) Q st:=lD (h _ ⟨rfl,rfl,rfl,rfl⟩)
structure l0(S:Kd->Prop)(lt:Kd->Kd->Bool)(a b:Array Kd):Prop where
 sa:jM lt a.toList
 sb:jM lt b.toList
 Sa: ∀x∈a.toList,S x
 Sb: ∀x∈b.toList,S x
 ne: ∀x∈a.toList, ∀y∈b.toList,x≠y
 na:0 < a.size
 nb:0 < b.size
 fst: ∀x∈a.toList,lt (b[0]'nb) x=true
 lst: ∀x∈b.toList,lt x (a[a.size - 1]'(by omega))=true
theorem bU{α:Type}{c:Prop}{dc:Decidable c}{m1 m2:StateT bV Sem α}{Q:α->bV->Prop}(h1:c->wpS (model prog w) A E s m1 Q st)(h2: ¬c->wpS (model prog w) A E s m2 Q st):wpS (model prog w) A E s (if c then m1 else m2) Q st:=by
 by_cases e:c
 ·rw [if_pos e]; exact h1 e
 ·rw [if_neg e]; exact h2 e
theorem uh(a:Array Kd)(i k:Nat):(a.extract i (i+k)).toList=(a.toList.drop i).take k:=by
 rw [iS,jU,gW]
theorem o6(a:Array Kd)(i:Nat):(a.extract i).toList=a.toList.drop i:=by
 rw [iS,jU,c0]
 rw [aZ,aj]
 omega
def Res(lt:Kd->Kd->Bool)(a b r:Array Kd):Prop:=r.toList.Perm (a.toList ++ b.toList)/\jM lt r.toList
theorem l0.ga{a b:Array Kd}(t:l0 S lt a b){i:Nat}(h:i < a.size):S a[i]:=t.Sa _ (by simp)
theorem l0.gb{a b:Array Kd}(t:l0 S lt a b){i:Nat}(h:i < b.size):S b[i]:=t.Sb _ (by simp)
theorem at_(a:Array Kd){i:Nat}(h:i < a.size):a[i]? =some a[i]:=by simp [h]
theorem EB(a:Array Kd){i:Nat}(h:i < a.size):a.toList[i]? =some a[i]:=by simp [h]
theorem l0.nab{a b:Array Kd}(t:l0 S lt a b){i j:Nat}(h:i < a.size)(h':j < b.size):a[i]≠b[j]:=t.ne _ (by simp) _ (by simp)
theorem l0.upA{a b:Array Kd}(t:l0 S lt a b){i j:Nat}(h:i < j)(h':j < a.size):lt a[i] a[j]=true:=by
 have:=bM.mp t.sa i j (by rw [aj]; omega) (by rw [aj]; omega) h
 simpa using this
theorem l0.upB{a b:Array Kd}(t:l0 S lt a b){i j:Nat}(h:i < j)(h':j < b.size):lt b[i] b[j]=true:=by
 have:=bM.mp t.sb i j (by rw [aj]; omega) (by rw [aj]; omega) h
 simpa using this
theorem jL{a:Array Kd}{i:Nat}{y:Kd}(h:y∈a.toList.drop i): ∃j,i<=j/\ ∃hj:j < a.size,y=a[j]:=by
 obtain⟨k,hk,e⟩:=aL.mp h
 rw [aZ,aj]at hk
 refine⟨i+k,by omega,by omega, ?_⟩
 rw [<-e,c6]
 simp
theorem yX{a:Array Kd}{i k:Nat}{y:Kd}(h:y∈(a.toList.drop i).take k): ∃j,i<=j/\j < i+k/\ ∃hj:j < a.size,y=a[j]:=by
 obtain⟨m,hm,e⟩:=aL.mp h
 rw [aT,aZ,aj]at hm
 refine⟨i+m,by omega,by omega,by omega, ?_⟩
 rw [<-e,dI,c6]
 simp
section
variable {a b out:Array Kd}{ia ib:Nat}
theorem l0.doneB(t:l0 S lt a b)(m:gM lt a.toList b.toList out.toList ia ib)(h:b.size<=ib\/a.size<=ia):Res lt a b (out ++ a.extract ia ++ b.extract ib):=by
 have:=m.finA t.sa t.sb fun x hx y hy=>by
  obtain⟨j,h1,h2,_⟩:=jL hx
  obtain⟨j',h1',h2',_⟩:=jL hy
  omega
 unfold Res
 rw [b_,b_,o6,o6]
 exact this
theorem l0.lastA(t:l0 S lt a b)(m:gM lt a.toList b.toList out.toList ia ib)(h:ia+1=a.size):Res lt a b (out ++ b.extract ib ++ a.extract ia):=by
 have:=m.finB t.sa t.sb fun x hx y hy=>by
  obtain⟨j,h1,h2,rfl⟩:=jL hx
  obtain⟨j',h1',h2',rfl⟩:=jL hy
  have:=t.lst b[j] (by simp)
  have e:j'=a.size - 1:=by omega
  subst e
  exact this
 unfold Res
 rw [b_,b_,o6,o6]
 exact this
theorem l0.oneB(o:lb S lt)(t:l0 S lt a b)(m:gM lt a.toList b.toList out.toList ia ib)(hb:ib < b.size)(h: ∀y∈a.toList.drop ia,lt b[ib] y=true):gM lt a.toList b.toList (out.push b[ib]).toList ia (ib+1):=by
 have:=m.pushB (k:=1) (by rw [aj]; omega) t.sb fun x hx y hy=>by
  rw [take_one (EB b hb)]at hx
  rcases aE.mp hx with rfl
  exact h y hy
 rw [take_one (EB b hb)]at this
 rw [hW]
 exact this
theorem l0.oneA(o:lb S lt)(t:l0 S lt a b)(m:gM lt a.toList b.toList out.toList ia ib)(ha:ia < a.size)(h: ∀y∈b.toList.drop ib,lt a[ia] y=true):gM lt a.toList b.toList (out.push a[ia]).toList (ia+1) ib:=by
 have:=m.pushA (k:=1) (by rw [aj]; omega) t.sa fun x hx y hy=>by
  rw [take_one (EB a ha)]at hx
  rcases aE.mp hx with rfl
  exact h y hy
 rw [take_one (EB a ha)]at this
 rw [hW]
 exact this
end
def Jo(lt:Kd->Kd->Bool)(a b:Array Kd)(n:Nat)(c:Option (Array Kd)×Array Kd×Nat×Nat×Nat×Nat×Nat):Prop:=
 ∃out ia ib mg ac bc,c=(none,out,ia,ib,mg,ac,bc)/\gM lt a.toList b.toList out.toList ia ib/\ib < b.size/\ia+1 < a.size/\n<=ia+ib
def Kn(lt:Kd->Kd->Bool)(a b:Array Kd)(n:Nat)(c:Option (Array Kd)×Array Kd×Nat×Nat×Nat×Nat×Nat):Prop:=
 (∃r rest,c=(some r,rest)/\Res lt a b r)\/Jo lt a b n c
def JN(lt:Kd->Kd->Bool)(a b:Array Kd)(n:Nat)(L:Prop):ForInStep (Option (Array Kd)×Array Kd×Nat×Nat×Nat×Nat×Nat)->Prop
 | .done c=>L/\Kn lt a b n c
 | .yield c=>L/\Jo lt a b n c
set_option maxHeartbeats 4000000 in
theorem vg{a b:Array Kd}{Q:Array Kd->bV->Prop}(o:lb S lt)(c:pV prog w A s κ S lt)(hk:kindOf st=κ)(t:l0 S lt a b)
  (h: ∀(res:Array Kd) (st':bV),fE st st'->Res lt a b res->Q res st'):wpS (model prog w) A E s (BF a b) Q st:=by
 have na:=t.na
 have nb:=t.nb
 have m0:gM lt a.toList b.toList (#[b[0]]:Array Kd).toList 0 1:=by
  have:gM lt a.toList b.toList [] 0 0:=⟨bO _,bO _,c5 _,eW,fun x hx=>by cases hx⟩
  exact l0.oneB (out:= #[]) o t this nb t.fst
 refine aB (oX (fc ⟨rfl, ?_⟩))
 refine aB (cA (at_ b nb) ?_)
 refine bU (fun e=> ?_) fun e1=> ?_
 ·have e:(1==b.size)=true:=e
  exact aG (h _ _ (.refl _) (t.doneB m0 (.inl (by have:=beq_iff_eq.mp e; omega))))
 have e1: ¬1=b.size:=fun z=>e1 (beq_iff_eq.mpr z)
 refine bU (fun e=> ?_) fun e2=> ?_
 ·have e:(0+1==a.size)=true:=e
  exact aG (h _ _ (.refl _) (t.lastA m0 (by have:=beq_iff_eq.mp e; omega)))
 have e2: ¬0+1=a.size:=fun z=>e2 (beq_iff_eq.mpr z)
 refine aB (lC ?_)
 refine aB (dU (cQ (I:=fun x c st'=>fE st st'/\ ∃out ia ib mg,c=(none,out,ia,ib,mg)/\gM lt a.toList b.toList out.toList ia ib/\ib < b.size/\ia+1 < a.size/\x+1<=ia+ib)
   (Q:=fun c st'=> ∃r rest,c=(some r,rest)/\fE st st'/\Res lt a b r) ?_ ?_ ⟨.refl _,_,0,1,_,rfl,m0,by omega,by omega,by omega⟩) ?_)
 ·rintro x c st1 _ hx ⟨L1,out,ia,ib,mg,rfl,m,hb1,ha1,hp1⟩
  have k1:kindOf st1=κ:=L1.1.trans hk
  refine aB (dU (cQ (I:=fun y c st'=>st'=st1/\ ∃out' ia' ib' ac bc,c=(none,out',ia',ib',ac,bc)/\gM lt a.toList b.toList out'.toList ia' ib'/\ib' < b.size/\ia'+1 < a.size/\y+(ia+ib)<=ia'+ib')
   (Q:=fun c st'=>st'=st1/\((∃r rest,c=(some r,rest)/\Res lt a b r)\/ ∃out' ia' ib' ac bc,c=(none,out',ia',ib',ac,bc)/\gM lt a.toList b.toList out'.toList ia' ib'/\ib' < b.size/\ia'+1 < a.size/\ia+ib+1<=ia'+ib')) ?_ ?_ ⟨rfl,out,ia,ib,_,_,rfl,m,hb1,ha1,by omega⟩) ?_)
  ·rintro y c st' _ hy ⟨rfl,out',ia',ib',ac,bc,rfl,m',hb',ha',hp'⟩
   have ha0:ia' < a.size:=by omega
   refine aB (cA (at_ b hb') ?_)
   refine aB (cA (at_ a ha0) ?_)
   refine aB (qt c k1 (t.gb hb') (t.ga ha0) ?_)
   cases eq:lt b[ib'] a[ia']with
   | true=>
    have m2:=t.oneB o m' hb' fun y hy=>above o t.sa (EB a ha0) eq hy
    refine aB (cA (at_ b hb') ?_)
    refine bU (fun e=> ?_) fun e=> ?_
    ·have e:(ib'+1==b.size)=true:=e
     exact aG ⟨rfl, .inl ⟨_,_,rfl,t.doneB (ia:=ia') (ib:=ib'+1) m2 (.inl (by have:=beq_iff_eq.mp e; omega))⟩⟩
    ·have e: ¬ib'+1=b.size:=fun z=>e (beq_iff_eq.mpr z)
     refine bU (fun e3=>aG ?_) fun e3=>aG ?_
     ·exact⟨rfl, .inr ⟨_,ia',ib'+1,_,_,rfl,m2,by omega,by omega,by omega⟩⟩
     ·exact⟨rfl,_,ia',ib'+1,_,_,rfl,m2,by omega,by omega,by omega⟩
   | false=>
    have eq2:=o.tot _ _ (t.gb hb') (t.ga ha0) (fun z=>t.nab ha0 hb' z.symm) eq
    have m2:=t.oneA o m' ha0 fun y hy=>above o t.sb (EB b hb') eq2 hy
    refine aB (cA (at_ a ha0) ?_)
    refine bU (fun e=> ?_) fun e=> ?_
    ·have e:(ia'+1+1==a.size)=true:=e
     exact aG ⟨rfl, .inl ⟨_,_,rfl,t.lastA (ia:=ia'+1) (ib:=ib') m2 (by have:=beq_iff_eq.mp e; omega)⟩⟩
    ·have e: ¬ia'+1+1=a.size:=fun z=>e (beq_iff_eq.mpr z)
     refine bU (fun e3=>aG ?_) fun e3=>aG ?_
     ·exact⟨rfl, .inr ⟨_,ia'+1,ib',_,_,rfl,m2,by omega,by omega,by omega⟩⟩
     ·exact⟨rfl,_,ia'+1,ib',_,_,rfl,m2,by omega,by omega,by omega⟩
  ·rintro c st' ⟨rfl,out',ia',ib',ac,bc,rfl,m',hb',ha',hp'⟩
   exact⟨rfl, .inr ⟨_,ia',ib',_,_,rfl,m',hb',ha',by omega⟩⟩
  ·rintro c st' ⟨rfl,⟨r,rest,rfl,hr⟩ | ⟨out1,ia1,ib1,ac1,bc1,rfl,m1,hb2,ha2,hp2⟩⟩
   ·exact aG ⟨_,_,rfl,L1,hr⟩
   ·refine aB (oX (fc ⟨rfl, ?_⟩))
    refine aB (dU (cQ (I:=fun y c st'=>fE st st'/\Jo lt a b (ia1+ib1) c)
     (Q:=fun c st'=>fE st st'/\Kn lt a b (ia1+ib1) c) ?_ ?_ ⟨L1,_,_,_,_,_,_,rfl,m1,hb2,ha2,aw _⟩) ?_)
    ·rintro y c st' _ hy ⟨L',out',ia',ib',mg',ac,bc,rfl,m',hb',ha',hp'⟩
     have ha0:ia' < a.size:=by omega
     extract_lets v1 v2 v3 v4 v5 v6 v7 v8 v9 v10 v11 v12 jp v14
     have q2:out'=v2:=rfl
     have q4:ia'=v4:=rfl
     have q6:ib'=v6:=rfl
     have q11:bc=v11:=rfl
     have q12:ib'+1=v12:=rfl
     clear_value v2 v4 v6 v11 v12
     subst q2 q4 q6 q11 q12
     have J: ∀g,wpS (model prog w) A E s (jp () g) (fun r st2=>JN lt a b (ia1+ib1) (fE st st2) r) st':=fun g=>by
      refine aB (j9 fun st3 L3=> ?_)
      have L3:=L'.trans L3
      have k3:kindOf st3=κ:=L3.1.trans hk
      refine aB (cA (at_ b hb') ?_)
      refine aB (gZ (g:=fun i=>a.getD (ia'+i) b[ib']) o c k3 (fun i hi=> ?_) (fun i hi=> ?_) (fun i hi=> ?_) (t.gb hb') (fun i j hij hj=> ?_) (by omega) fun k hk0 g1 g2=> ?_)
      ·have:ia'+i < a.size:=by omega
       simp [this]
      ·have:ia'+i < a.size:=by omega
       simpa [this]using t.ga this
      ·have:ia'+i < a.size:=by omega
       simpa [this]using t.nab this hb'
      ·have h1:ia'+i < a.size:=by omega
       have h2:ia'+j < a.size:=by omega
       simpa [h1,h2]using t.upA (show ia'+i < ia'+j by omega) h2
      have m3:gM lt a.toList b.toList (out' ++ a.extract ia' (ia'+k)).toList (ia'+k) ib':=by
       rw [b_,uh]
       refine m'.pushA (by rw [aj]; omega) t.sa fun x hx y hy=> ?_
       obtain⟨j,j1,j2,hj,rfl⟩:=yX hx
       have z:=g1 (j - ia') (by omega)
       have e:ia'+(j - ia')=j:=by omega
       rw [e]at z
       have z:lt a[j] b[ib']=true:=by simpa [hj]using z
       exact above o t.sb (EB b hb') z hy
      have u3: ∀y∈a.toList.drop (ia'+k),lt b[ib'] y=true:=fun y hy=>by
       obtain⟨j,j1,hj,rfl⟩:=jL hy
       have z:=g2 (j - ia') (by omega) (by omega)
       have e:ia'+(j - ia')=j:=by omega
       rw [e]at z
       have z:lt a[j] b[ib']=false:=by simpa [hj]using z
       exact o.tot _ _ (t.ga hj) (t.gb hb') (t.nab hj hb') z
      dsimp -zeta only
      extract_lets ac2 jp2 out2 ia2
      have J2: ∀(out3:Array Kd) (ia3:Nat),gM lt a.toList b.toList out3.toList ia3 ib'->ia3+1 < a.size->ia'<=ia3->(∀y∈a.toList.drop ia3,lt b[ib'] y=true)->wpS (model prog w) A E s (jp2 () out3 ia3) (fun r st2=>JN lt a b (ia1+ib1) (fE st st2) r) st3:=fun out3 ia3 m3 h3 l3 u3=>by
       have m4:=t.oneB o m3 hb' u3
       have ha3:ia3 < a.size:=by omega
       refine aB (cA (at_ b hb') ?_)
       refine bU (fun e=> ?_) fun e=> ?_
       ·have e:(ib'+1==b.size)=true:=e
        exact aG ⟨L3, .inl ⟨_,_,rfl,t.doneB (ia:=ia3) (ib:=ib'+1) m4 (.inl (by have:=beq_iff_eq.mp e; omega))⟩⟩
       have e: ¬ib'+1=b.size:=fun z=>e (beq_iff_eq.mpr z)
       refine aB (cA (at_ a ha3) ?_)
       refine aB (gZ (g:=fun i=>b.getD (ib'+1+i) a[ia3]) o c k3 (fun i hi=> ?_) (fun i hi=> ?_) (fun i hi=> ?_) (t.ga ha3) (fun i j hij hj=> ?_) (by omega) fun k2 hk2 r1 r2=> ?_)
       ·have:ib'+1+i < b.size:=by omega
        simp [this]
       ·have:ib'+1+i < b.size:=by omega
        simpa [this]using t.gb this
       ·have:ib'+1+i < b.size:=by omega
        simpa [this]using fun z=>t.nab ha3 this (Eq.symm z)
       ·have h1:ib'+1+i < b.size:=by omega
        have h2:ib'+1+j < b.size:=by omega
        simpa [h1,h2]using t.upB (show ib'+1+i < ib'+1+j by omega) h2
       have m5:gM lt a.toList b.toList (out3.push b[ib'] ++ b.extract (ib'+1) (ib'+1+k2)).toList ia3 (ib'+1+k2):=by
        rw [b_,uh]
        refine m4.pushB (by rw [aj]; omega) t.sb fun x hx y hy=> ?_
        obtain⟨j,j1,j2,hj,rfl⟩:=yX hx
        have z:=r1 (j - (ib'+1)) (by omega)
        have e:ib'+1+(j - (ib'+1))=j:=by omega
        rw [e]at z
        have z:lt b[j] a[ia3]=true:=by simpa [hj]using z
        exact above o t.sa (EB a ha3) z hy
       have u5: ∀y∈b.toList.drop (ib'+1+k2),lt a[ia3] y=true:=fun y hy=>by
        obtain⟨j,j1,hj,rfl⟩:=jL hy
        have z:=r2 (j - (ib'+1)) (by omega) (by omega)
        have e:ib'+1+(j - (ib'+1))=j:=by omega
        rw [e]at z
        have z:lt b[j] a[ia3]=false:=by simpa [hj]using z
        exact o.tot _ _ (t.gb hj) (t.ga ha3) (fun z=>t.nab ha3 hj z.symm) z
       dsimp -zeta only
       extract_lets bc2 ia6 jp3 out4 ib4
       have J3: ∀(out5:Array Kd) (ib5:Nat),gM lt a.toList b.toList out5.toList ia3 ib5->ib5 < b.size->ib'+1<=ib5->(∀y∈b.toList.drop ib5,lt a[ia3] y=true)->wpS (model prog w) A E s (jp3 () out5 ib5) (fun r st2=>JN lt a b (ia1+ib1) (fE st st2) r) st3:=fun out5 ib5 m5 h5 l5 u5=>by
        have m6:=t.oneA o m5 ha3 u5
        refine aB (cA (at_ a ha3) ?_)
        refine bU (fun e=> ?_) fun e=> ?_
        ·have e:(ia3+1+1==a.size)=true:=e
         exact aG ⟨L3, .inl ⟨_,_,rfl,t.lastA (ia:=ia3+1) (ib:=ib5) m6 (by have:=beq_iff_eq.mp e; omega)⟩⟩
        ·have e: ¬ia3+1+1=a.size:=fun z=>e (beq_iff_eq.mpr z)
         refine bU (fun _=>aG ?_) fun _=>aG ?_
         ·exact⟨L3, .inr ⟨_,ia3+1,ib5,_,_,_,rfl,m6,h5,by omega,by omega⟩⟩
         ·exact⟨L3,_,ia3+1,ib5,_,_,_,rfl,m6,h5,by omega,by omega⟩
       refine bU (fun e2=> ?_) fun e2=> ?_
       ·refine bU (fun e3=> ?_) fun e3=> ?_
        ·have e3:(ib'+1+k2==b.size)=true:=e3
         exact aG ⟨L3, .inl ⟨_,_,rfl,t.doneB (ia:=ia3) (ib:=ib'+1+k2) m5 (.inl (by have:=beq_iff_eq.mp e3; omega))⟩⟩
        ·have e3: ¬ib'+1+k2=b.size:=fun z=>e3 (beq_iff_eq.mpr z)
         exact J3 _ _ m5 (by omega) (by omega) u5
       ·have z:k2=0:=by omega
        subst z
        exact J3 _ _ m4 (by omega) (by omega) u5
      refine bU (fun e2=> ?_) fun e2=> ?_
      ·refine bU (fun e3=> ?_) fun e3=> ?_
       ·have e3:(ia'+k+1==a.size)=true:=e3
        exact aG ⟨L3, .inl ⟨_,_,rfl,t.lastA (ia:=ia'+k) (ib:=ib') m3 (by have:=beq_iff_eq.mp e3; omega)⟩⟩
       ·have e3: ¬ia'+k+1=a.size:=fun z=>e3 (beq_iff_eq.mpr z)
        refine bU (fun e4=> ?_) fun e4=> ?_
        ·have e4:(ia'+k==a.size)=true:=e4
         exact aG ⟨L3, .inl ⟨_,_,rfl,t.doneB (ia:=ia'+k) (ib:=ib') m3 (.inr (by have:=beq_iff_eq.mp e4; omega))⟩⟩
        ·have e4: ¬ia'+k=a.size:=fun z=>e4 (beq_iff_eq.mpr z)
         exact J2 _ _ m3 (by omega) (by omega) u3
      ·have z:k=0:=by omega
       subst z
       exact J2 _ _ m' (by omega) (by omega) u3
     exact bU (fun _=>dU (J _) fun r st2 z=>by cases r <;> exact z) fun _=>dU (J _) fun r st2 z=>by cases r <;> exact z
    ·rintro c st' ⟨L',out',ia',ib',mg',ac,bc,rfl,m',hb',ha',hp'⟩
     exact⟨L', .inr ⟨_,_,_,_,_,_,rfl,m',hb',ha',hp'⟩⟩
    ·rintro c st' ⟨L',⟨r,rest,rfl,hr⟩ | ⟨out',ia',ib',mg',ac,bc,rfl,m',hb',ha',hp'⟩⟩
     ·exact aG ⟨_,_,rfl,L',hr⟩
     ·refine aB (j9 fun st3 L3=>aG ?_)
      exact⟨L'.trans L3,_,ia',ib',_,rfl,m',hb',ha',by omega⟩
 ·rintro c st' ⟨L',out,ia,ib,mg,rfl,m,hb1,ha1,hp1⟩
  omega
 ·rintro c st' ⟨r,rest,rfl,L',hr⟩
  exact aG (h r st' L' hr)
end
structure gO(lt:Kd->Kd->Bool)(a b out:List Kd)(na nb:Nat):Prop where
 ha:na<=a.length
 hb:nb<=b.length
 perm:out.Perm (a.drop na ++ b.drop nb)
 wX:jM lt out
 hi: ∀x,(x∈a.take na\/x∈b.take nb)-> ∀y∈out,lt x y=true
section
variable {lt:Kd->Kd->Bool}{a b out:List Kd}{na nb k:Nat}
theorem gO.swap(m:gO lt a b out na nb):gO lt b a out nb na:=⟨m.hb,m.ha,m.perm.trans cv,m.wX,fun x hx y hy=>m.hi x hx.symm y hy⟩
theorem AS(a:List Kd){i n:Nat}(h:i<=n):a.take n=a.take i ++ (a.take n).drop i:=by
 have:=aO i (a.take n)
 rw [List.take_take,FT h]at this
 exact this.symm
theorem z8(a:List Kd){i n:Nat}(h:i<=n)(hn:n<=a.length):a.drop i=(a.take n).drop i ++ a.drop n:=by
 have e:a=a.take n ++ a.drop n:=(aO n a).symm
 conv=>lhs; rw [e]
 exact rk (by rw [aT]; omega)
theorem gO.preA(m:gO lt a b out na nb)(hk:k<=na)(sa:jM lt a)(h: ∀x∈(a.take na).drop k, ∀y∈b.take nb,lt y x=true):gO lt a b ((a.take na).drop k ++ out) k nb:=by
 have sd:jM lt (a.take na):=cK (jZ na a) sa
 have cut:=AS a hk
 have sd':=sd
 rw [cut]at sd'
 have c:=bJ.mp sd'
 have mm: ∀x,x∈(a.take na).drop k->x∈a.take na:=fun x hx=>iT hx
 refine⟨bg hk m.ha,m.hb, ?_,bJ.mpr ⟨c.2.1,m.wX,fun x hx y hy=>m.hi x (.inl (mm x hx)) y hy⟩,fun x hx y hy=> ?_⟩
 ·rw [z8 a hk m.ha,aI]
  exact dj _ m.perm
 ·rcases bh.mp hy with hy | hy
  ·rcases hx with hx | hx
   ·exact c.2.2 x hx y hy
   ·exact h y hy x hx
  ·exact m.hi x (hx.imp (fun z=>by rw [cut]; exact eT _ z) id) y hy
theorem gO.preB(m:gO lt a b out na nb)(hk:k<=nb)(sb:jM lt b)(h: ∀x∈(b.take nb).drop k, ∀y∈a.take na,lt y x=true):gO lt a b ((b.take nb).drop k ++ out) na k:=(m.swap.preA hk sb h).swap
theorem gO.finA(m:gO lt a b out na nb)(sa:jM lt a)(sb:jM lt b)(h: ∀x∈a.take na, ∀y∈b.take nb,lt x y=true):(a.take na ++ b.take nb ++ out).Perm (a ++ b)/\jM lt (a.take na ++ b.take nb ++ out):=by
 constructor
 ·have e1:(a ++ b).Perm ((a.take na ++ a.drop na) ++ (b.take nb ++ b.drop nb)):=by rw [aO,aO]
  refine i9 ?_ e1.symm
  refine(m.perm.append_left _).trans ?_
  rw [aI,aI]
  refine dj _ ?_
  rw [<-aI, <-aI]
  exact cv.append_right _
 ·refine bJ.mpr ⟨bJ.mpr ⟨cK (jZ na a) sa,cK (jZ nb b) sb,h⟩,m.wX,fun x hx y hy=>m.hi x (bh.mp hx) y hy⟩
theorem gO.finB(m:gO lt a b out na nb)(sa:jM lt a)(sb:jM lt b)(h: ∀x∈b.take nb, ∀y∈a.take na,lt x y=true):(b.take nb ++ a.take na ++ out).Perm (a ++ b)/\jM lt (b.take nb ++ a.take na ++ out):=
 let⟨p,q⟩:=m.swap.finA sb sa h; ⟨p.trans cv,q⟩
end
section
variable {prog:ar}{w:World}{A:bp}{E:Value->ah->Prop}{s:ah}{κ:iU}{S:Kd->Prop}{lt:Kd->Kd->Bool}{st:bV}
theorem pz(a:Array Kd)(n:Nat):(a.extract 0 n).toList=a.toList.take n:=by
 rw [iS,jU,Nat.sub_zero,mL]
theorem tZ(a:Array Kd)(i n:Nat):(a.extract i n).toList=(a.toList.take n).drop i:=by
 rw [iS,jU,List.drop_take]
theorem iw{a:Array Kd}{i:Nat}{y:Kd}(h:y∈a.toList.take i): ∃j,j < i/\ ∃hj:j < a.size,y=a[j]:=by
 obtain⟨k,hk,e⟩:=aL.mp h
 rw [aT,aj]at hk
 refine⟨k,by omega,by omega, ?_⟩
 rw [<-e,dI]
 simp
theorem mem_mid{a:Array Kd}{i n:Nat}{y:Kd}(h:y∈(a.toList.take n).drop i): ∃j,i<=j/\j < n/\ ∃hj:j < a.size,y=a[j]:=by
 obtain⟨m,hm,e⟩:=aL.mp h
 rw [aZ,aT,aj]at hm
 refine⟨i+m,by omega,by omega,by omega, ?_⟩
 rw [<-e,c6,dI]
 simp
section
variable {a b out:Array Kd}{na nb:Nat}
theorem ph{i:Nat}(h:i < a.size):(a.toList.take (i+1)).drop i= [a[i]]:=by
 rw [dG,EB a h,rk (by rw [aT,aj]; omega)]
 rw [dZ (by rw [aT,aj]; omega)]
 rfl
theorem A_(o:lb S lt)(t:l0 S lt a b){i n:Nat}{y z:Kd}(hi:i < a.size)(hn:n<=i+1)(hy:y∈a.toList.take n)(h:lt a[i] z=true):lt y z=true:=by
 obtain⟨j,j1,hj,rfl⟩:=iw hy
 by_cases e:j=i
 ·subst e; exact h
 ·exact o.tr _ _ _ (t.upA (show j < i by omega) hi) h
theorem Bq(o:lb S lt)(t:l0 S lt a b){i n:Nat}{y z:Kd}(hi:i < b.size)(hn:n<=i+1)(hy:y∈b.toList.take n)(h:lt b[i] z=true):lt y z=true:=by
 obtain⟨j,j1,hj,rfl⟩:=iw hy
 by_cases e:j=i
 ·subst e; exact h
 ·exact o.tr _ _ _ (t.upB (show j < i by omega) hi) h
theorem l0.done0(t:l0 S lt a b)(m:gO lt a.toList b.toList out.toList.reverse na nb)(h:na=0\/nb=0):Res lt a b (a.extract 0 na ++ b.extract 0 nb ++ out.reverse):=by
 have:=m.finA t.sa t.sb fun x hx y hy=>by
  obtain⟨j,h1,h2,_⟩:=iw hx
  obtain⟨j',h1',h2',_⟩:=iw hy
  omega
 unfold Res
 rw [b_,b_,pz,pz,mO]
 exact this
theorem l0.fstB(t:l0 S lt a b)(m:gO lt a.toList b.toList out.toList.reverse na nb)(h:nb=1):Res lt a b (b.extract 0 nb ++ a.extract 0 na ++ out.reverse):=by
 have:=m.finB t.sa t.sb fun x hx y hy=>by
  obtain⟨j,h1,h2,rfl⟩:=iw hx
  obtain⟨j',h1',h2',rfl⟩:=iw hy
  have e:j=0:=by omega
  subst e
  exact t.fst a[j'] (by simp)
 unfold Res
 rw [b_,b_,pz,pz,mO]
 exact this
theorem l0.preB1(t:l0 S lt a b)(m:gO lt a.toList b.toList out.toList.reverse na (nb+1))(hb:nb < b.size)(h: ∀y∈a.toList.take na,lt y b[nb]=true):gO lt a.toList b.toList (out.push b[nb]).toList.reverse na nb:=by
 have:=m.preB (k:=nb) (by omega) t.sb fun x hx y hy=>by
  rw [ph hb]at hx
  rcases aE.mp hx with rfl
  exact h y hy
 rw [ph hb]at this
 rw [hW,nD]
 exact this
theorem l0.preA1(t:l0 S lt a b)(m:gO lt a.toList b.toList out.toList.reverse (na+1) nb)(ha:na < a.size)(h: ∀y∈b.toList.take nb,lt y a[na]=true):gO lt a.toList b.toList (out.push a[na]).toList.reverse na nb:=by
 have:=m.preA (k:=na) (by omega) t.sa fun x hx y hy=>by
  rw [ph ha]at hx
  rcases aE.mp hx with rfl
  exact h y hy
 rw [ph ha]at this
 rw [hW,nD]
 exact this
end
def JV(lt:Kd->Kd->Bool)(a b:Array Kd)(n:Nat)(c:Option (Array Kd)×Nat×Nat×Array Kd×Nat×Nat×Nat):Prop:=
 ∃na nb out mg ac bc,c=(none,na+1,nb+2,out,mg,ac,bc)/\gO lt a.toList b.toList out.toList.reverse (na+1) (nb+2)/\na+nb<=n
def Kj(lt:Kd->Kd->Bool)(a b:Array Kd)(n:Nat)(c:Option (Array Kd)×Nat×Nat×Array Kd×Nat×Nat×Nat):Prop:=
 (∃r rest,c=(some r,rest)/\Res lt a b r)\/JV lt a b n c
def JF(lt:Kd->Kd->Bool)(a b:Array Kd)(n:Nat)(L:Prop):ForInStep (Option (Array Kd)×Nat×Nat×Array Kd×Nat×Nat×Nat)->Prop
 | .done c=>L/\Kj lt a b n c
 | .yield c=>L/\JV lt a b n c
set_option maxHeartbeats 4000000 in
theorem vc{a b:Array Kd}{Q:Array Kd->bV->Prop}(o:lb S lt)(c:pV prog w A s κ S lt)(hk:kindOf st=κ)(t:l0 S lt a b)
  (h: ∀(res:Array Kd) (st':bV),fE st st'->Res lt a b res->Q res st'):wpS (model prog w) A E s (AJ a b) Q st:=by
 have na0:=t.na
 have nb0:=t.nb
 obtain⟨a1,ea⟩: ∃a1,a.size=a1+1:=⟨a.size - 1,by omega⟩
 obtain⟨b1,eb⟩: ∃b1,b.size=b1+1:=⟨b.size - 1,by omega⟩
 have hla:a1 < a.size:=by omega
 have m0:gO lt a.toList b.toList (#[a[a1]]:Array Kd).toList.reverse a1 (b1+1):=by
  have:gO lt a.toList b.toList [] (a1+1) (b1+1):=⟨by rw [aj]; omega,by rw [aj]; omega,by rw [dZ (by rw [aj]; omega),dZ (by rw [aj]; omega)]; exact c5 _,eW,fun x hx y hy=>by cases hy⟩
  refine l0.preA1 (out:= #[]) t this hla fun y hy=> ?_
  have:=t.lst y (fX hy)
  have e:a.size - 1=a1:=by omega
  simpa [e]using this
 refine aB (oX (fc ⟨rfl, ?_⟩))
 have e0:a[a.size - 1]? =some a[a1]:=by rw [show a.size - 1=a1 by omega]; exact at_ a hla
 refine aB (cA e0 ?_)
 have ea':a.size - 1=a1:=by omega
 rw [ea',eb]
 refine bU (fun e=> ?_) fun e1=> ?_
 ·have e:(a1==0)=true:=e
  exact aG (h _ _ (.refl _) (t.done0 m0 (.inl (beq_iff_eq.mp e))))
 have e1: ¬a1=0:=fun z=>e1 (beq_iff_eq.mpr z)
 refine bU (fun e=> ?_) fun e2=> ?_
 ·have e:(b1+1==1)=true:=e
  exact aG (h _ _ (.refl _) (t.fstB m0 (beq_iff_eq.mp e)))
 have e2: ¬b1+1=1:=fun z=>e2 (beq_iff_eq.mpr z)
 refine aB (lC ?_)
 refine aB (dU (cQ (I:=fun x c st'=>fE st st'/\ ∃na nb out mg,c=(none,na+1,nb+2,out,mg)/\gO lt a.toList b.toList out.toList.reverse (na+1) (nb+2)/\x+na+nb+4<=a.size+(b1+1))
   (Q:=fun c st'=> ∃r rest,c=(some r,rest)/\fE st st'/\Res lt a b r) ?_ ?_ ⟨.refl _,a1 - 1,b1 - 1,_,_,by rw [show a1 - 1+1=a1 by omega,show b1 - 1+2=b1+1 by omega],by rw [show a1 - 1+1=a1 by omega,show b1 - 1+2=b1+1 by omega]; exact m0,by omega⟩) ?_)
 ·rintro x c st1 _ hx ⟨L1,na,nb,out,mg,rfl,m,hp1⟩
  have k1:kindOf st1=κ:=L1.1.trans hk
  refine aB (dU (cQ (I:=fun y c st'=>st'=st1/\ ∃na' nb' out' ac bc,c=(none,na'+1,nb'+2,out',ac,bc)/\gO lt a.toList b.toList out'.toList.reverse (na'+1) (nb'+2)/\y+(na'+nb')<=na+nb)
   (Q:=fun c st'=>st'=st1/\((∃r rest,c=(some r,rest)/\Res lt a b r)\/ ∃na' nb' out' ac bc,c=(none,na'+1,nb'+2,out',ac,bc)/\gO lt a.toList b.toList out'.toList.reverse (na'+1) (nb'+2)/\na'+nb'+1<=na+nb)) ?_ ?_ ⟨rfl,na,nb,out,_,_,rfl,m,by omega⟩) ?_)
  ·rintro y c st' _ hy ⟨rfl,na',nb',out',ac,bc,rfl,m',hp'⟩
   have ha0:na' < a.size:=by have:=m'.ha; rw [aj]at this; omega
   have hb0:nb'+1 < b.size:=by have:=m'.hb; rw [aj]at this; omega
   refine aB (cA (at_ b hb0) ?_)
   refine aB (cA (at_ a ha0) ?_)
   refine aB (qt c k1 (t.gb hb0) (t.ga ha0) ?_)
   cases eq:lt b[nb'+1] a[na']with
   | true=>
    have m2:=t.preA1 m' ha0 fun y hy=>Bq o t hb0 (by omega) hy eq
    refine aB (cA (at_ a ha0) ?_)
    refine bU (fun e=> ?_) fun e=> ?_
    ·have e:(na'==0)=true:=e
     exact aG ⟨rfl, .inl ⟨_,_,rfl,t.done0 (na:=na') (nb:=nb'+2) m2 (.inl (beq_iff_eq.mp e))⟩⟩
    ·have e: ¬na'=0:=fun z=>e (beq_iff_eq.mpr z)
     obtain⟨n2,rfl⟩: ∃n2,na'=n2+1:=⟨na' - 1,by omega⟩
     refine bU (fun e3=>aG ?_) fun e3=>aG ?_
     ·exact⟨rfl, .inr ⟨n2,nb',_,_,_,rfl,m2,by omega⟩⟩
     ·exact⟨rfl,n2,nb',_,_,_,rfl,m2,by omega⟩
   | false=>
    have eq2:=o.tot _ _ (t.gb hb0) (t.ga ha0) (fun z=>t.nab ha0 hb0 z.symm) eq
    have m2:=t.preB1 (nb:=nb'+1) m' hb0 fun y hy=>A_ o t ha0 (by omega) hy eq2
    refine aB (cA (at_ b hb0) ?_)
    refine bU (fun e=> ?_) fun e=> ?_
    ·have e:(nb'+1==1)=true:=e
     exact aG ⟨rfl, .inl ⟨_,_,rfl,t.fstB (na:=na'+1) (nb:=nb'+1) m2 (beq_iff_eq.mp e)⟩⟩
    ·have e: ¬nb'+1=1:=fun z=>e (beq_iff_eq.mpr z)
     obtain⟨n2,rfl⟩: ∃n2,nb'=n2+1:=⟨nb' - 1,by omega⟩
     refine bU (fun e3=>aG ?_) fun e3=>aG ?_
     ·exact⟨rfl, .inr ⟨na',n2,_,_,_,rfl,m2,by omega⟩⟩
     ·exact⟨rfl,na',n2,_,_,_,rfl,m2,by omega⟩
  ·rintro c st' ⟨rfl,na',nb',out',ac,bc,rfl,m',hp'⟩
   exact⟨rfl, .inr ⟨na',nb',_,_,_,rfl,m',by omega⟩⟩
  ·rintro c st' ⟨rfl,⟨r,rest,rfl,hr⟩ | ⟨na1,nb1,out1,ac1,bc1,rfl,m1,hp2⟩⟩
   ·exact aG ⟨_,_,rfl,L1,hr⟩
   ·refine aB (oX (fc ⟨rfl, ?_⟩))
    refine aB (dU (cQ (I:=fun y c st'=>fE st st'/\JV lt a b (na1+nb1) c)
     (Q:=fun c st'=>fE st st'/\Kj lt a b (na1+nb1) c) ?_ ?_ ⟨L1,na1,nb1,_,_,_,_,rfl,m1,aw _⟩) ?_)
    ·rintro y c st' _ hy ⟨L',na',nb',out',mg',ac,bc,rfl,m',hp'⟩
     have ha0:na' < a.size:=by have:=m'.ha; rw [aj]at this; omega
     have hb0:nb'+1 < b.size:=by have:=m'.hb; rw [aj]at this; omega
     extract_lets v1 v2 v3 v4 v5 v6 v7 v8 v9 v10 v11 v12 jp v14
     have q2:na'+1=v2:=rfl
     have q4:nb'+2=v4:=rfl
     have q6:out'=v6:=rfl
     have q11:bc=v11:=rfl
     have q12:nb'+1=v12:=rfl
     clear_value v2 v4 v6 v11 v12
     subst q2 q4 q6 q11 q12
     have J: ∀g,wpS (model prog w) A E s (jp () g) (fun r st2=>JF lt a b (na1+nb1) (fE st st2) r) st':=fun g=>by
      refine aB (j9 fun st3 L3=> ?_)
      have L3:=L'.trans L3
      have k3:kindOf st3=κ:=L3.1.trans hk
      refine aB (cA (at_ b hb0) ?_)
      refine aB (gZ (g:=fun i=>a.getD i b[nb'+1]) o c k3 (fun i hi=> ?_) (fun i hi=> ?_) (fun i hi=> ?_) (t.gb hb0) (fun i j hij hj=> ?_) (by omega) fun k hk0 g1 g2=> ?_)
      ·have:i < a.size:=by omega
       simp [this]
      ·have:i < a.size:=by omega
       simpa [this]using t.ga this
      ·have:i < a.size:=by omega
       simpa [this]using t.nab this hb0
      ·have h1:i < a.size:=by omega
       have h2:j < a.size:=by omega
       simpa [h1,h2]using t.upA hij h2
      have m3:gO lt a.toList b.toList (out' ++ (a.extract k (na'+1)).reverse).toList.reverse k (nb'+2):=by
       rw [b_,mO,nD,List.reverse_reverse,tZ]
       refine m'.preA hk0 t.sa fun x hx y hy=> ?_
       obtain⟨j,j1,j2,hj,rfl⟩:=mem_mid hx
       have z:=g2 j j1 j2
       have z:lt a[j] b[nb'+1]=false:=by simpa [hj]using z
       exact Bq o t hb0 (by omega) hy (o.tot _ _ (t.ga hj) (t.gb hb0) (t.nab hj hb0) z)
      have u3: ∀y∈a.toList.take k,lt y b[nb'+1]=true:=fun y hy=>by
       obtain⟨j,j1,hj,rfl⟩:=iw hy
       have z:=g1 j j1
       simpa [hj]using z
      dsimp -zeta only
      extract_lets kk ac2 jp2 out2
      have J2: ∀(na3:Nat) (out3:Array Kd),gO lt a.toList b.toList out3.toList.reverse na3 (nb'+2)->1<=na3->na3<=na'+1->(∀y∈a.toList.take na3,lt y b[nb'+1]=true)->wpS (model prog w) A E s (jp2 () na3 out3) (fun r st2=>JF lt a b (na1+nb1) (fE st st2) r) st3:=fun na3 out3 m3 h3 l3 u3=>by
       have m4:=t.preB1 (nb:=nb'+1) m3 hb0 u3
       obtain⟨p,rfl⟩: ∃p,na3=p+1:=⟨na3 - 1,by omega⟩
       have ha3:p < a.size:=by omega
       refine aB (cA (at_ b hb0) ?_)
       refine bU (fun e=> ?_) fun e=> ?_
       ·have e:(nb'+1==1)=true:=e
        exact aG ⟨L3, .inl ⟨_,_,rfl,t.fstB (na:=p+1) (nb:=nb'+1) m4 (beq_iff_eq.mp e)⟩⟩
       have e: ¬nb'+1=1:=fun z=>e (beq_iff_eq.mpr z)
       refine aB (cA (at_ a ha3) ?_)
       refine aB (gZ (g:=fun i=>b.getD i a[p]) o c k3 (fun i hi=> ?_) (fun i hi=> ?_) (fun i hi=> ?_) (t.ga ha3) (fun i j hij hj=> ?_) (by omega) fun k2 hk2 r1 r2=> ?_)
       ·have:i < b.size:=by omega
        simp [this]
       ·have:i < b.size:=by omega
        simpa [this]using t.gb this
       ·have:i < b.size:=by omega
        simpa [this]using fun z=>t.nab ha3 this (Eq.symm z)
       ·have h1:i < b.size:=by omega
        have h2:j < b.size:=by omega
        simpa [h1,h2]using t.upB hij h2
       have m5:gO lt a.toList b.toList (out3.push b[nb'+1] ++ (b.extract k2 (nb'+1)).reverse).toList.reverse (p+1) k2:=by
        rw [b_,mO,nD,List.reverse_reverse,tZ]
        refine m4.preB hk2 t.sb fun x hx y hy=> ?_
        obtain⟨j,j1,j2,hj,rfl⟩:=mem_mid hx
        have z:=r2 j j1 j2
        have z:lt b[j] a[p]=false:=by simpa [hj]using z
        exact A_ o t ha3 (by omega) hy (o.tot _ _ (t.gb hj) (t.ga ha3) (fun z=>t.nab ha3 hj z.symm) z)
       have u5: ∀y∈b.toList.take k2,lt y a[p]=true:=fun y hy=>by
        obtain⟨j,j1,hj,rfl⟩:=iw hy
        have z:=r1 j j1
        simpa [hj]using z
       dsimp -zeta only
       extract_lets kk2 bc2 na6 jp3 out4
       have J3: ∀(nb5:Nat) (out5:Array Kd),gO lt a.toList b.toList out5.toList.reverse (p+1) nb5->2<=nb5->nb5<=nb'+1->(∀y∈b.toList.take nb5,lt y a[p]=true)->wpS (model prog w) A E s (jp3 () nb5 out5) (fun r st2=>JF lt a b (na1+nb1) (fE st st2) r) st3:=fun nb5 out5 m5 h5 l5 u5=>by
        have m6:=t.preA1 m5 ha3 u5
        obtain⟨q,rfl⟩: ∃q,nb5=q+2:=⟨nb5 - 2,by omega⟩
        refine aB (cA (at_ a ha3) ?_)
        refine bU (fun e=> ?_) fun e=> ?_
        ·have e:(p==0)=true:=e
         exact aG ⟨L3, .inl ⟨_,_,rfl,t.done0 (na:=p) (nb:=q+2) m6 (.inl (beq_iff_eq.mp e))⟩⟩
        ·have e: ¬p=0:=fun z=>e (beq_iff_eq.mpr z)
         obtain⟨p2,rfl⟩: ∃p2,p=p2+1:=⟨p - 1,by omega⟩
         refine bU (fun _=>aG ?_) fun _=>aG ?_
         ·exact⟨L3, .inr ⟨p2,q,_,_,_,_,rfl,m6,by omega⟩⟩
         ·exact⟨L3,p2,q,_,_,_,_,rfl,m6,by omega⟩
       refine bU (fun e2=> ?_) fun e2=> ?_
       ·refine bU (fun e3=> ?_) fun e3=> ?_
        ·have e3:(k2==1)=true:=e3
         exact aG ⟨L3, .inl ⟨_,_,rfl,t.fstB (na:=p+1) (nb:=k2) m5 (beq_iff_eq.mp e3)⟩⟩
        ·have e3: ¬k2=1:=fun z=>e3 (beq_iff_eq.mpr z)
         refine bU (fun e4=> ?_) fun e4=> ?_
         ·have e4:(k2==0)=true:=e4
          exact aG ⟨L3, .inl ⟨_,_,rfl,t.done0 (na:=p+1) (nb:=k2) m5 (.inr (beq_iff_eq.mp e4))⟩⟩
         ·have e4: ¬k2=0:=fun z=>e4 (beq_iff_eq.mpr z)
          exact J3 _ _ m5 (by omega) (by omega) u5
       ·have e2: ¬nb'+1 - k2 > 0:=e2
        have z:k2=nb'+1:=by omega
        subst z
        exact J3 _ _ m4 (by omega) (by omega) u5
      refine bU (fun e2=> ?_) fun e2=> ?_
      ·refine bU (fun e3=> ?_) fun e3=> ?_
       ·have e3:(k==0)=true:=e3
        exact aG ⟨L3, .inl ⟨_,_,rfl,t.done0 (na:=k) (nb:=nb'+2) m3 (.inl (beq_iff_eq.mp e3))⟩⟩
       ·have e3: ¬k=0:=fun z=>e3 (beq_iff_eq.mpr z)
        exact J2 _ _ m3 (by omega) (by omega) u3
      ·have e2: ¬na'+1 - k > 0:=e2
       have z:k=na'+1:=by omega
       subst z
       exact J2 _ _ m' (by omega) (by omega) u3
     exact bU (fun _=>dU (J _) fun r st2 z=>by cases r <;> exact z) fun _=>dU (J _) fun r st2 z=>by cases r <;> exact z
    ·rintro c st' ⟨L',na',nb',out',mg',ac,bc,rfl,m',hp'⟩
     exact⟨L', .inr ⟨na',nb',_,_,_,_,rfl,m',hp'⟩⟩
    ·rintro c st' ⟨L',⟨r,rest,rfl,hr⟩ | ⟨na',nb',out',mg',ac,bc,rfl,m',hp'⟩⟩
     ·exact aG ⟨_,_,rfl,L',hr⟩
     ·refine aB (j9 fun st3 L3=>aG ?_)
      exact⟨L'.trans L3,na',nb',_,_,rfl,m',by omega⟩
 ·rintro c st' ⟨L',na,nb,out,mg,rfl,m,hp1⟩
  omega
 ·rintro c st' ⟨r,rest,rfl,L',hr⟩
  exact aG (h r st' L' hr)
end
theorem xy{pre x rest:List Kd}{arr:Array Kd}(e:arr.toList=pre ++ (x ++ rest)){i:Nat}(h:i < x.length):arr[pre.length+i]? =some x[i]:=by
 rw [<-bb,e,eD (by omega),gW,eO h,ai h]
theorem yy: ∀(l:List Kd) (arr:Array Kd) (sa n:Nat),sa+n+l.length<=arr.size->
  ((l.zipIdx n).foldl (fun a (x:Kd×Nat)=>match x with | (p,j)=>a.setIfInBounds (sa+j) p) arr).toList=arr.toList.take (sa+n) ++ l ++ arr.toList.drop (sa+n+l.length)
 | [],arr,sa,n,h=>by simp
 | x::l,arr,sa,n,h=>by
  rw [aC]at h
  rw [Fi,FQ]
  dsimp only
  have hs:(arr.setIfInBounds (sa+n) x).size=arr.size:=Array.size_setIfInBounds
  rw [yy l _ sa (n+1) (by rw [hs]; omega),Array.toList_setIfInBounds]
  have hl:sa+n < arr.toList.length:=by rw [aj]; omega
  have e1:(arr.toList.set (sa+n) x).take (sa+(n+1))=arr.toList.take (sa+n) ++ [x]:=by
   rw [<-kq,dG,List.take_set_of_le (aw _),yi hl]
   rfl
  have e2:(arr.toList.set (sa+n) x).drop (sa+(n+1)+l.length)=arr.toList.drop (sa+n+(l.length+1)):=by
   rw [List.drop_set_of_lt (by omega)]
   congr 1
   omega
  rw [e1,e2,aC]
  simp
section
variable {prog:ar}{w:World}{A:bp}{E:Value->ah->Prop}{s:ah}{κ:iU}{S:Kd->Prop}{lt:Kd->Kd->Bool}{st:bV}
theorem BV(o:lb S lt){x1 x2 y1 y2 m:List Kd}(sx:jM lt (x1 ++ x2))(sy:jM lt (y1 ++ y2))(sm:jM lt m)(pm:m.Perm (x2 ++ y1))(h1: ∀u∈x1, ∀v∈y1 ++ y2,lt u v=true)(h2: ∀u∈x2, ∀v∈y2,lt u v=true):jM lt (x1 ++ m ++ y2):=by
 have a:=bJ.mp sx
 have b:=bJ.mp sy
 refine bJ.mpr ⟨bJ.mpr ⟨a.1,sm,fun u hu v hv=> ?_⟩,b.2.1,fun u hu v hv=> ?_⟩
 ·rcases bh.mp (pm.mem_iff.mp hv)with hv | hv
  ·exact a.2.2 u hu v hv
  ·exact h1 u hu v (eT _ hv)
 ·rcases bh.mp hu with hu | hu
  ·exact h1 u hu v (bK _ hv)
  ·rcases bh.mp (pm.mem_iff.mp hu)with hu | hu
   ·exact h2 u hu v hv
   ·exact b.2.2 u hu v hv
theorem uk{x:List Kd}(h:jM lt x){i j:Nat}(hij:i < j)(hj:j < x.length):lt (x[i]'(by omega)) x[j]=true:=bM.mp h i j (by omega) hj hij
set_option maxHeartbeats 4000000 in
theorem vd{i pw pw2:Nat}{pre x y post:List Kd}{Q:Bool->bV->Prop}(o:lb S lt)(c:pV prog w A s κ S lt)(hk:kindOf st=κ)(hf:f6 st=none)
  (hi:(bW st)[i]? =some (pre.length,x.length,pw))(hi1:(bW st)[i+1]? =some (pre.length+x.length,y.length,pw2))
  (e:(arrOf st).toList=pre ++ (x ++ (y ++ post)))(hx0:0 < x.length)(hy0:0 < y.length)(sx:jM lt x)(sy:jM lt y)(Sx: ∀u∈x,S u)(Sy: ∀u∈y,S u)(ne: ∀u∈x, ∀v∈y,u≠v)
  (h: ∀(z:List Kd) (st':bV),kindOf st'=κ->f6 st'=none->bW st'=((bW st).setIfInBounds i (pre.length,x.length+y.length,pw)).eraseIdxIfInBounds (i+1)->(arrOf st').toList=pre ++ (z ++ post)->z.Perm (x ++ y)->jM lt z->Q true st'):
  wpS (model prog w) A E s (mergeAt' i) Q st:=by
 refine aB (lC ?_)
 rw [hi,hi1]
 refine aB (lD (f:=fun _=>_) ?_)
 have hsb:(arrOf st)[pre.length+x.length]? =some y[0]:=by
  have:=xy (pre:=pre ++ x) (x:=y) (rest:=post) (arr:=arrOf st) (by rw [e]; simp) (i:=0) hy0
  simpa using this
 have hxl: ∀k (hk:k < x.length),(arrOf st)[pre.length+k]? =some x[k]:=fun k hk=>xy e hk
 have hyl: ∀k (hk:k < y.length),(arrOf st)[pre.length+x.length+k]? =some y[k]:=fun k hk=>by
  have:=xy (pre:=pre ++ x) (x:=y) (rest:=post) (arr:=arrOf st) (by rw [e]; simp) hk
  rw [ak]at this
  exact this
 have Sy0:S y[0]:=Sy _ (aQ _)
 refine aB (cA hsb ?_)
 refine aB (gZ (g:=fun k=>x.getD k y[0]) o c hk (fun k hk=> ?_) (fun k hk=> ?_) (fun k hk=> ?_) Sy0 (fun k j hij hj=> ?_) hx0 fun k hk0 g1 g2=> ?_)
 ·rw [hxl k hk]; simp [hk]
 ·simpa [hk]using Sx _ (aQ hk)
 ·simpa [hk]using ne _ (aQ hk) _ (aQ hy0)
 ·have h1:k < x.length:=by omega
  simpa [h1,hj]using uk sx hij hj
 have g1': ∀u∈x.take k,lt u y[0]=true:=fun u hu=>by
  obtain⟨j,hj,rfl⟩:=aL.mp hu
  rw [aT]at hj
  rw [dI]
  have h1:j < x.length:=by omega
  simpa [h1]using g1 j (by omega)
 have g2': ∀u∈x.drop k,lt y[0] u=true:=fun u hu=>by
  obtain⟨j,hj,rfl⟩:=aL.mp hu
  rw [aZ]at hj
  rw [c6]
  have h1:k+j < x.length:=by omega
  have z:lt x[k+j] y[0]=false:=by simpa [h1]using g2 (k+j) (by omega) h1
  exact o.tot _ _ (Sx _ (aQ h1)) Sy0 (ne _ (aQ h1) _ (aQ hy0)) z
 have y0le: ∀u,lt u y[0]=true-> ∀v∈y,lt u v=true:=fun u hu v hv=>by
  obtain⟨j,hj,rfl⟩:=aL.mp hv
  by_cases hz:j=0
  ·subst hz; exact hu
  ·exact o.tr _ _ _ hu (uk sy (by omega) hj)
 refine bU (fun e0=> ?_) fun e0=> ?_
 ·have e0:(x.length - k==0)=true:=e0
  have e0:=beq_iff_eq.mp e0
  refine aG (h (x ++ y) _ hk hf rfl (by rw [aI]; exact e) (c5 _) (bJ.mpr ⟨sx,sy,fun u hu v hv=>y0le u (g1' u ?_) v hv⟩))
  rw [c0 (by omega)]
  exact hu
 have e0: ¬x.length - k=0:=fun z=>e0 (beq_iff_eq.mpr z)
 have hl:x.length - 1 < x.length:=by omega
 have hsl:(arrOf st)[pre.length+k+(x.length - k) - 1]? =some x[x.length - 1]:=by
  rw [show pre.length+k+(x.length - k) - 1=pre.length+(x.length - 1) by omega]
  exact hxl _ hl
 have Sxl:S x[x.length - 1]:=Sx _ (aQ _)
 refine aB (cA hsl ?_)
 refine aB (gZ (g:=fun k=>y.getD k x[x.length - 1]) o c hk (fun k hk=> ?_) (fun k hk=> ?_) (fun k hk=> ?_) Sxl (fun k j hij hj=> ?_) (show y.length - 1 < y.length by omega) fun n2 hn2 r1 r2=> ?_)
 ·rw [hyl k hk]; simp [hk]
 ·simpa [hk]using Sy _ (aQ hk)
 ·simpa [hk]using fun z=>ne _ (aQ hl) _ (aQ hk) (Eq.symm z)
 ·have h1:k < y.length:=by omega
  simpa [h1,hj]using uk sy hij hj
 have r1': ∀u∈y.take n2,lt u x[x.length - 1]=true:=fun u hu=>by
  obtain⟨j,hj,rfl⟩:=aL.mp hu
  rw [aT]at hj
  rw [dI]
  have h1:j < y.length:=by omega
  simpa [h1]using r1 j (by omega)
 have r2': ∀u∈y.drop n2,lt x[x.length - 1] u=true:=fun u hu=>by
  obtain⟨j,hj,rfl⟩:=aL.mp hu
  rw [aZ]at hj
  rw [c6]
  have h1:n2+j < y.length:=by omega
  have z:lt y[n2+j] x[x.length - 1]=false:=by simpa [h1]using r2 (n2+j) (by omega) h1
  exact o.tot _ _ (Sy _ (aQ h1)) Sxl (fun z=>ne _ (aQ hl) _ (aQ h1) z.symm) z
 have xlge: ∀v,lt x[x.length - 1] v=true-> ∀u∈x,lt u v=true:=fun v hv u hu=>by
  obtain⟨j,hj,rfl⟩:=aL.mp hu
  by_cases hz:j=x.length - 1
  ·subst hz; exact hv
  ·exact o.tr _ _ _ (uk sx (show j < x.length - 1 by omega) hl) hv
 refine bU (fun e1=> ?_) fun e1=> ?_
 ·have e1:(n2==0)=true:=e1
  have e1:=beq_iff_eq.mp e1
  subst e1
  exact aG (h (x ++ y) _ hk hf rfl (by rw [aI]; exact e) (c5 _) (bJ.mpr ⟨sx,sy,fun u hu v hv=>xlge v (r2' v hv) u hu⟩))
 have e1: ¬n2=0:=fun z=>e1 (beq_iff_eq.mpr z)
 have ex:((arrOf st).extract (pre.length+k) (pre.length+x.length)).toList=x.drop k:=by
  rw [tZ,e]
  have:(pre ++ (x ++ (y ++ post))).take (pre.length+x.length)=pre ++ x:=by
   rw [<-aI,iV (by rw [ak]; omega),c0 (by rw [ak]; omega)]
  rw [this,qZ,dZ (by omega)]
  simp
 have ey:((arrOf st).extract (pre.length+x.length) (pre.length+x.length+n2)).toList=y.take n2:=by
  rw [uh,e]
  have:(pre ++ (x ++ (y ++ post))).drop (pre.length+x.length)=y ++ post:=by
   rw [<-aI,qZ,dZ (by rw [ak]; omega),ak,jf]
   rfl
  rw [this,iV hn2]
 generalize hX:(arrOf st).extract (pre.length+k) (pre.length+x.length)=X at ex
 generalize hY:(arrOf st).extract (pre.length+x.length) (pre.length+x.length+n2)=Y at ey
 have szX:X.size=x.length - k:=by rw [<-aj,ex,aZ]
 have szY:Y.size=n2:=by rw [<-aj,ey,aT]; omega
 have t:l0 S lt X Y:=by
  refine⟨by rw [ex]; exact cK (j5 _ _) sx,by rw [ey]; exact cK (jZ _ _) sy,fun u hu=> ?_,fun u hu=> ?_,fun u hu v hv=> ?_,by omega,by omega,fun u hu=> ?_,fun u hu=> ?_⟩
  ·rw [ex]at hu; exact Sx u (iT hu)
  ·rw [ey]at hu; exact Sy u (fX hu)
  ·rw [ex]at hu
   rw [ey]at hv
   exact ne u (iT hu) v (fX hv)
  ·rw [ex]at hu
   have:Y[0]'(by omega)=y[0]:=by
    have q:Y.toList[0]'(by rw [aj]; omega)=(y.take n2)[0]'(by rw [aT]; omega):=by simp only [ey]
    rw [dI]at q
    simpa using q
   rw [this]
   exact g2' u hu
  ·rw [ey]at hu
   have:X[X.size - 1]'(by omega)=x[x.length - 1]:=by
    have q:X.toList[X.size - 1]'(by rw [aj]; omega)=(x.drop k)[X.size - 1]'(by rw [aZ]; omega):=by simp only [ex]
    rw [c6]at q
    have e3:k+(X.size - 1)=x.length - 1:=by omega
    simp only [e3]at q
    simpa using q
   rw [this]
   exact r1' u hu
 have fin: ∀(res:Array Kd) (st2:bV),fE (setPending st (((bW st).setIfInBounds i (pre.length,x.length+y.length,pw)).eraseIdxIfInBounds (i+1))) st2->Res lt X Y res->
   wpS (model prog w) A E s (do
    modify fun s=>setArr s (res.toList.zipIdx.foldl (fun a (x:Kd×Nat)=>match x with | (p,j)=>a.setIfInBounds (pre.length+k+j) p) (arrOf s))
    let s<-get
    pure (f6 s).isNone) Q st2:=fun res st2 L2 hr=>by
  refine aB (lD ?_)
  refine aB (lC ?_)
  have f2:f6 st2=none:=L2.2.2.2.trans hf
  have a2:arrOf st2=arrOf st:=L2.2.1
  have hr1:res.toList.Perm (x.drop k ++ y.take n2):=by have:=hr.1; rw [ex,ey]at this; exact this
  have lr:res.toList.length=(x.length - k)+n2:=by rw [hr1.length_eq,ak,aZ,aT]; omega
  have tot:pre.length+(x.length+(y.length+post.length))=(arrOf st).size:=by rw [<-aj,e]; simp [ak]
  have put:=yy res.toList (arrOf st) (pre.length+k) 0 (by omega)
  show wpS (model prog w) A E s (pure (f6 st2).isNone) Q _
  rw [f2]
  refine aG (h (x.take k ++ res.toList ++ y.drop n2) _ (L2.1.trans hk) f2 L2.2.2.1 ?_ ?_ ?_)
  ·show(res.toList.zipIdx.foldl _ (arrOf st2)).toList=_
   rw [a2]
   refine put.trans ?_
   rw [e,lr]
   have p1:(pre ++ (x ++ (y ++ post))).take (pre.length+k+0)=pre ++ x.take k:=by
    rw [Nat.add_zero,List.take_append,c0 (by omega),gW,iV hk0]
   have p2:(pre ++ (x ++ (y ++ post))).drop (pre.length+k+0+(x.length - k+n2))=y.drop n2 ++ post:=by
    rw [show pre.length+k+0+(x.length - k+n2)=pre.length+(x.length+n2) by omega, <-List.drop_drop,qZ,dZ (aw _),jf,List.nil_append,mL, <-List.drop_drop,qZ,dZ (aw _),jf,List.nil_append,mL,rk hn2]
   rw [p1,p2]
   simp
  ·have:(x ++ y).Perm ((x.take k ++ x.drop k) ++ (y.take n2 ++ y.drop n2)):=by rw [aO,aO]
   refine i9 ?_ this.symm
   rw [aI,aI]
   refine dj _ ?_
   rw [<-aI]
   exact hr1.append_right _
  ·refine BV o (by rw [aO]; exact sx) (by rw [aO]; exact sy) hr.2 hr1 (fun u hu v hv=> ?_) fun u hu v hv=>xlge v (r2' v hv) u (iT hu)
   rw [aO]at hv
   exact y0le u (g1' u hu) v hv
 refine bU (fun _=> ?_) fun _=> ?_
 ·exact aB (vg o c hk t fun res st2 L2 hr=>fin res st2 L2 hr)
 ·exact aB (vc o c hk t fun res st2 L2 hr=>fin res st2 L2 hr)
end
def At(arr:Array Kd)(i:Nat):Kd:=arr.getD i (a_,a_)
theorem lU{arr:Array Kd}{i:Nat}(h:i < arr.size):arr[i]? =some (At arr i):=by unfold At; simp [h]
theorem kx{xs ys:Array Kd}{i j:Nat}(h:xs[i]? =ys[j]?):At xs i=At ys j:=by
 unfold At
 rw [sV,sV,h]
def Up(lt:Kd->Kd->Bool)(arr:Array Kd)(lo n:Nat):Prop:= ∀i j,i < j->j < n->lt (At arr (lo+i)) (At arr (lo+j))=true
structure SB(κ:iU)(a0:List Kd)(p:Array (Nat×Nat×Nat))(pre:List Kd)(st:bV):Prop where
 kind:kindOf st=κ
 failed:f6 st=none
 perm:(arrOf st).toList.Perm a0
 pend:bW st=p
 pre:(arrOf st).toList.take pre.length=pre
section
variable {prog:ar}{w:World}{A:bp}{E:Value->ah->Prop}{s:ah}{κ:iU}{S:Kd->Prop}{lt:Kd->Kd->Bool}{st:bV}{a0 pre:List Kd}{p:Array (Nat×Nat×Nat)}
theorem SB.size(b:SB κ a0 p pre st):(arrOf st).size=a0.length:=by rw [<-aj,b.perm.length_eq]
theorem SB.ss(b:SB κ a0 p pre st)(hS: ∀x∈a0,S x){i:Nat}(h:i < a0.length):S (At (arrOf st) i):=by
 have hi:i < (arrOf st).size:=by rw [b.size]; exact h
 have:=lU hi
 refine hS _ (b.perm.mem_iff.mp ?_)
 rw [<-bb]at this
 exact aP this
theorem SB.ne(b:SB κ a0 p pre st)(nd:a0.Nodup){i j:Nat}(h:i < a0.length)(h':j < a0.length)(hij:i≠j):At (arrOf st) i≠At (arrOf st) j:=fun z=>by
 have nd':(arrOf st).toList.Nodup:=b.perm.symm.nodup nd
 have e1:(arrOf st).toList[i]? =some (At (arrOf st) i):=by rw [bb]; exact lU (by rw [b.size]; exact h)
 have e2:(arrOf st).toList[j]? =some (At (arrOf st) j):=by rw [bb]; exact lU (by rw [b.size]; exact h')
 obtain⟨h1,e1⟩:=aA.mp e1
 obtain⟨h2,e2⟩:=aA.mp e2
 exact hij ((kF nd').mp (by rw [e1,e2,z]))
theorem lR{i j:Nat}{Q:Option Bool->bV->Prop}(c:pV prog w A s κ S lt)(b:SB κ a0 p pre st)(hS: ∀x∈a0,S x)(hi:i < a0.length)(hj:j < a0.length)(h:Q (some (lt (At (arrOf st) i) (At (arrOf st) j))) st):wpS (model prog w) A E s (ltAt' i j) Q st:=by
 rw [ltAt'_eq]
 refine aB (lC ?_)
 refine aB (cA (lU (by rw [b.size]; exact hi)) ?_)
 refine aB (cA (lU (by rw [b.size]; exact hj)) ?_)
 exact qt c b.kind (b.ss hS hi) (b.ss hS hj) h
theorem SB.setArr(b:SB κ a0 p pre st){xs:Array Kd}(hp:xs.Perm (arrOf st))(hk: ∀i,i < pre.length->xs[i]? =(arrOf st)[i]?):SB κ a0 p pre (setArr st xs):=by
 refine⟨b.kind,b.failed,hp.toList.trans b.perm,b.pend, ?_⟩
 show xs.toList.take pre.length=pre
 have:=b.pre
 rw [<-this]
 apply fM
 intro i
 rw [om,om,this]
 split
 ·rename_i h; rw [bb,bb,hk i h]
 ·rfl
theorem vG{lo nrem n:Nat}{f:Nat->Option (Option Nat)×Nat->StateT bV Sem (ForInStep (Option (Option Nat)×Nat))}{Q:Option (Option Nat)×Nat->bV->Prop}(o:lb S lt)(nd:a0.Nodup)(hS: ∀x∈a0,S x)(b:SB κ a0 p pre st)(hn:lo+nrem<=a0.length)(h1:1<=n)(h2:n<=nrem)
  (hf: ∀x m (Q':ForInStep (Option (Option Nat)×Nat)->bV->Prop),m < nrem->1<=m->(lt (At (arrOf st) (lo+m)) (At (arrOf st) (lo+m - 1))=true->Q' (.done (none,m)) st)->(lt (At (arrOf st) (lo+m)) (At (arrOf st) (lo+m - 1))=false->Q' (.yield (none,m+1)) st)->wpS (model prog w) A E s (f x (none,m)) Q' st)
  (u:Up lt (arrOf st) lo n)(h: ∀m,n<=m->m<=nrem->Up lt (arrOf st) lo m->(m=nrem\/lt (At (arrOf st) (lo+m)) (At (arrOf st) (lo+m - 1))=true)->Q (none,m) st):wpS (model prog w) A E s (forIn [n:nrem] (none,n) f) Q st:=by
 refine cQ (I:=fun x c st'=>st'=st/\c=(none,x)/\n<=x/\x<=nrem/\Up lt (arrOf st) lo x) ?_ ?_ ⟨rfl,rfl,aw _,h2,u⟩
 ·rintro x c st' hx1 hx2 ⟨rfl,rfl,h3,h4,u⟩
  refine hf x x _ hx2 (by omega) (fun e=>h x h3 h4 u (.inr e)) fun e=>⟨rfl,rfl,by omega,by omega,fun i j hij hj=> ?_⟩
  by_cases z:j < x
  ·exact u i j hij z
  ·have ej:j=x:=by omega
   subst ej
   have l:lt (At (arrOf st') (lo+j - 1)) (At (arrOf st') (lo+j))=true:=o.tot _ _ (b.ss hS (by omega)) (b.ss hS (by omega)) (b.ne nd (by omega) (by omega) (by omega)) e
   by_cases z2:i=j - 1
   ·subst z2
    rw [show lo+(j - 1)=lo+j - 1 by omega]
    exact l
   ·refine o.tr _ _ _ (u i (j - 1) (by omega) (by omega)) ?_
    rw [show lo+(j - 1)=lo+j - 1 by omega]
    exact l
 ·rintro c st' ⟨rfl,rfl,h3,h4,u⟩
  rw [Nat.max_eq_right (by omega)]at h3 h4 u ⊢
  exact h nrem h2 (aw _) u (.inl rfl)
def Down(lt:Kd->Kd->Bool)(arr:Array Kd)(lo n:Nat):Prop:= ∀i j,i < j->j < n->lt (At arr (lo+j)) (At arr (lo+i))=true
theorem E3{i j:Nat}{Q:Unit->bV->Prop}(h:Q () (setArr st (mirror (arrOf st) i j ((j - i) / 2)))):wpS (model prog w) A E s (reverseSlice' i j) Q st:=lD h
theorem CF{i j:Nat}{Q:Unit->bV->Prop}(h:Q () (setArr st (bubble (arrOf st) i (i - j)))):wpS (model prog w) A E s (moveDown' i j) Q st:=lD h
set_option maxHeartbeats 4000000 in
theorem Ao{nrem:Nat}{Q:Option Nat->bV->Prop}(o:lb S lt)(c:pV prog w A s κ S lt)(nd:a0.Nodup)(hS: ∀x∈a0,S x)(b:SB κ a0 p pre st)(hn:pre.length+nrem<=a0.length)(h1:1<=nrem)
  (h: ∀m st',SB κ a0 p pre st'->1<=m->m<=nrem->Up lt (arrOf st') pre.length m->Q (some m) st'):wpS (model prog w) A E s (countRun' pre.length nrem) Q st:=by
 refine aB (vG (lo:=pre.length) o nd hS b hn (aw 1) h1 (fun x m Q' hm hm1 k1 k2=> ?_) (fun i j hij hj=>by omega) fun m hm1 hm2 um hor=> ?_)
 ·refine aB (lR c b hS (by omega) (by omega) ?_)
  cases e:lt (At (arrOf st) (pre.length+m)) (At (arrOf st) (pre.length+m - 1))with
  | true=>exact aG (k1 e)
  | false=>exact aG (k2 e)
 refine bU (fun e=>aG (h m st b hm1 hm2 um)) fun e=> ?_
 have e: ¬m=nrem:=fun z=>e (beq_iff_eq.mpr z)
 have hlt:=hor.resolve_left e
 extract_lets n2 neq0 jp
 have q2:m+1=n2:=rfl
 have q0:0=neq0:=rfl
 clear_value n2 neq0
 subst q2 q0
 refine bU (fun e1=> ?_) fun e1=> ?_
 ·have e1:m > 1:=e1
  refine aB (lR c b hS (by omega) (show pre.length+m - 1 < a0.length by omega) ?_)
  have z:=um 0 (m - 1) (by omega) (by omega)
  rw [show pre.length+(m - 1)=pre.length+m - 1 by omega,Nat.add_zero]at z
  rw [z]
  exact aG (h m st b hm1 hm2 um)
 have e1: ¬m > 1:=e1
 have em:m=1:=by omega
 subst em
 refine aB (oX (fc ⟨rfl, ?_⟩))
 refine aB (dU (cQ (I:=fun x c st'=>st'=st/\c=(none,x,0)/\2<=x/\x<=nrem/\Down lt (arrOf st) pre.length x) (Q:=fun c st'=>st'=st/\ ∃m,c=(none,m,0)/\2<=m/\m<=nrem/\Down lt (arrOf st) pre.length m) ?_ ?_ ⟨rfl,rfl,aw _,by omega,fun i j hij hj=> ?_⟩) ?_)
 ·rintro x c' st' hx1 hx2 ⟨rfl,rfl,h3,h4,d⟩
  refine aB (lR c b hS (show pre.length+x < a0.length by omega) (show pre.length+x - 1 < a0.length by omega) ?_)
  cases eq:lt (At (arrOf st') (pre.length+x)) (At (arrOf st') (pre.length+x - 1))with
  | true=>
   refine bU (fun _=> ?_) fun z=>absurd rfl z
   refine bU (fun z=>absurd (show(0:Nat) > 0 from z) (by omega)) fun _=>aG ⟨rfl,rfl,by omega,by omega,fun i j hij hj=> ?_⟩
   by_cases z:j < x
   ·exact d i j hij z
   ·have ej:j=x:=by omega
    subst ej
    by_cases z2:i=j - 1
    ·subst z2
     rw [show pre.length+(j - 1)=pre.length+j - 1 by omega]
     exact eq
    ·refine o.tr _ _ _ eq ?_
     have:=d i (j - 1) (by omega) (by omega)
     rw [show pre.length+(j - 1)=pre.length+j - 1 by omega]at this
     exact this
  | false=>
   refine bU (fun z=>by cases z) fun _=> ?_
   refine aB (lR c b hS (show pre.length+x - 1 < a0.length by omega) (show pre.length+x < a0.length by omega) ?_)
   rw [o.tot _ _ (b.ss hS (by omega)) (b.ss hS (by omega)) (b.ne nd (by omega) (by omega) (by omega)) eq]
   exact aG ⟨rfl,x,rfl,h3,h4,d⟩
 ·rintro c' st' ⟨rfl,rfl,h3,h4,d⟩
  exact⟨rfl,_,rfl,h3,h4,d⟩
 ·have ei:i=0:=by omega
  have ej:j=1:=by omega
  subst ei ej
  exact hlt
 ·rintro c' st' ⟨rfl,m,rfl,h3,h4,d⟩
  refine bU (fun z=>absurd (show(0:Nat) > 0 from z) (by omega)) fun _=> ?_
  refine aB (E3 ?_)
  have hsz:=b.size
  have gm:=fun k=>getElem?_mirror_all (xs:=arrOf st') (i:=pre.length) (j:=pre.length+m) (by omega) k
  have b2:SB κ a0 p pre (setArr st' (mirror (arrOf st') pre.length (pre.length+m) ((pre.length+m - pre.length) / 2))):=b.setArr (mirror_perm _ _ _ _) fun k hk=>by rw [gm k,if_neg (by omega)]
  have u2:Up lt (mirror (arrOf st') pre.length (pre.length+m) ((pre.length+m - pre.length) / 2)) pre.length m:=fun i j hij hj=>by
   have e1:=gm (pre.length+i)
   have e2:=gm (pre.length+j)
   rw [if_pos (by omega),show pre.length+(pre.length+m) - 1 - (pre.length+i)=pre.length+(m - 1 - i) by omega]at e1
   rw [if_pos (by omega),show pre.length+(pre.length+m) - 1 - (pre.length+j)=pre.length+(m - 1 - j) by omega]at e2
   rw [kx e1,kx e2]
   exact d _ _ (by omega) (by omega)
  refine aB (vG (lo:=pre.length) o nd hS b2 hn (show 1<=m by omega) h4 (fun x m Q' hm hm1 k1 k2=> ?_) u2 fun m2 hm1 hm2 um hor=> ?_)
  ·refine aB (lR c b2 hS (by omega) (by omega) ?_)
   cases e:lt (At (arrOf (setArr st' (mirror (arrOf st') pre.length (pre.length+_) ((pre.length+_ - pre.length) / 2)))) (pre.length+m)) (At (arrOf (setArr st' (mirror (arrOf st') pre.length (pre.length+_) ((pre.length+_ - pre.length) / 2)))) (pre.length+m - 1))with
   | true=>exact aG (k1 e)
   | false=>exact aG (k2 e)
  ·exact aG (h m2 _ b2 (bg (show 1<=m by omega) hm1) hm2 um)
set_option maxHeartbeats 4000000 in
theorem xk{n ok:Nat}{Q:Bool->bV->Prop}(o:lb S lt)(c:pV prog w A s κ S lt)(nd:a0.Nodup)(hS: ∀x∈a0,S x)(b:SB κ a0 p pre st)(hn:pre.length+n<=a0.length)(h1:1<=ok)(h2:ok<=n)(u:Up lt (arrOf st) pre.length ok)
  (h: ∀st',SB κ a0 p pre st'->Up lt (arrOf st') pre.length n->Q true st'):wpS (model prog w) A E s (binarySort' pre.length n ok) Q st:=by
 refine aB (dU (cQ (I:=fun k c st'=>c=(none,())/\SB κ a0 p pre st'/\ok<=k/\k<=n/\Up lt (arrOf st') pre.length k) (Q:=fun c st'=>c=(none,())/\SB κ a0 p pre st'/\Up lt (arrOf st') pre.length n) ?_ ?_ ⟨rfl,b,by omega,by omega,by rw [Nat.max_eq_left h1]; exact u⟩) ?_)
 ·rintro k c' st1 hk1 hk2 ⟨rfl,b1,k3,k4,u1⟩
  have key: ∀i,i < k->lt (At (arrOf st1) (pre.length+i)) (At (arrOf st1) (pre.length+k))= !lt (At (arrOf st1) (pre.length+k)) (At (arrOf st1) (pre.length+i)):=fun i hi=>by
   cases e:lt (At (arrOf st1) (pre.length+i)) (At (arrOf st1) (pre.length+k))with
   | true=>rw [o.Bz _ _ e]; rfl
   | false=>rw [o.tot _ _ (b1.ss hS (by omega)) (b1.ss hS (by omega)) (b1.ne nd (by omega) (by omega) (by omega)) e]; rfl
  refine aB (pK (n:=k) (p:=fun i=> !lt (At (arrOf st1) (pre.length+k)) (At (arrOf st1) (pre.length+i))) (fun x l r Q' hr j1 j2 j3=> ?_) (fun i j hij hj e=> ?_) (bO _) (aw _) (fun i hi=>absurd hi (by omega)) (fun i hi hi2=>absurd hi (by omega)) fun q hq a1 a2=> ?_)
  ·refine bU (fun z=>aG (j1 z)) fun z=> ?_
   have z:l < r:=by have z: ¬l>=r:=z; omega
   have em:(l+r) / 2=l+(r - l) / 2:=by omega
   have hlt:l+(r - l) / 2 < r:=by omega
   refine aB (lR c b1 hS (show pre.length+k < a0.length by omega) (show pre.length+(l+r) / 2 < a0.length by omega) ?_)
   cases e:lt (At (arrOf st1) (pre.length+k)) (At (arrOf st1) (pre.length+(l+r) / 2))with
   | true=>
    have:=j3 z (by rw [<-em,e]; rfl)
    rw [<-em]at this
    exact aG this
   | false=>
    have:=j2 z (by rw [<-em,e]; rfl)
    rw [<-em]at this
    exact aG this
  ·rcases Nat.lt_or_eq_of_le hij with z | rfl
   ·rw [<-key i (by omega)]
    rw [<-key j hj]at e
    exact o.tr _ _ _ (u1 i j z hj) e
   ·exact e
  ·refine aB (CF (aG ?_))
   have hsz:=b1.size
   have ed:pre.length+k - (pre.length+q)=k - q:=by omega
   have gb:=fun j=>getElem?_bubble (xs:=arrOf st1) (src:=pre.length+k) (by omega) (k - q) (by omega) j
   have es:pre.length+k - (k - q)=pre.length+q:=by omega
   rw [es]at gb
   show _=_/\SB κ a0 p pre (setArr st1 (bubble (arrOf st1) (pre.length+k) (pre.length+k - (pre.length+q))))/\_/\_/\Up lt (bubble (arrOf st1) (pre.length+k) (pre.length+k - (pre.length+q))) pre.length (k+1)
   rw [ed]
   refine⟨rfl,b1.setArr (bubble_perm _ _ _) fun j hj=>by rw [gb j,if_neg (by omega),if_neg (by omega)],by omega,by omega,fun i j hij hj=> ?_⟩
   have e1:=gb (pre.length+i)
   have e2:=gb (pre.length+j)
   have lo_: ∀i,i < q->lt (At (arrOf st1) (pre.length+i)) (At (arrOf st1) (pre.length+k))=true:=fun i hi=>by rw [key i (by omega)]; exact a1 i hi
   have hi_: ∀i,q<=i->i < k->lt (At (arrOf st1) (pre.length+k)) (At (arrOf st1) (pre.length+i))=true:=fun i h1 h2=>by simpa using a2 i h1 h2
   rcases DG j q with z | z | z
   ·rw [if_neg (by omega),if_neg (by omega)]at e1 e2
    rw [kx e1,kx e2]
    exact u1 i j hij (by omega)
   ·rw [if_neg (by omega),if_neg (by omega)]at e1
    rw [if_pos (by omega)]at e2
    rw [kx e1,kx e2]
    exact lo_ i (by omega)
   ·rw [if_neg (by omega),if_pos (by omega),show pre.length+j - 1=pre.length+(j - 1) by omega]at e2
    rcases DG i q with y | y | y
    ·rw [if_neg (by omega),if_neg (by omega)]at e1
     rw [kx e1,kx e2]
     exact u1 i (j - 1) (by omega) (by omega)
    ·rw [if_pos (by omega)]at e1
     rw [kx e1,kx e2]
     exact hi_ _ (by omega) (by omega)
    ·rw [if_neg (by omega),if_pos (by omega),show pre.length+i - 1=pre.length+(i - 1) by omega]at e1
     rw [kx e1,kx e2]
     exact u1 (i - 1) (j - 1) (by omega) (by omega)
 ·rintro c' st1 ⟨rfl,b1,k3,k4,u1⟩
  have e:max (max ok 1) n=n:=by omega
  rw [e]at u1
  exact⟨rfl,b1,u1⟩
 ·rintro c' st1 ⟨rfl,b1,u1⟩
  exact aG (h st1 b1 u1)
end
abbrev Run:=List Kd×Nat
def flat(rs:List Run):List Kd:=(rs.map (·.1)).flatten
def gA:Nat->List Run->List (Nat×Nat×Nat)
 | _, []=> []
 | n,(x,pw)::r=>(n,x.length,pw)::gA (n+x.length) r
theorem Eu{α:Type}(l m:List α)(a c:α):(l ++ a::m).set l.length c=l ++ c::m:=by simp
theorem zr{α:Type}(l m:List α)(a b:α):(l ++ a::b::m).eraseIdx (l.length+1)=l ++ a::m:=by
 rw [List.eraseIdx_append_of_length_le (by omega),gW]
 rfl
theorem vI{α:Type}(l:List α)(a:α)(f:α->α):(l ++ [a]).modify ((l ++ [a]).length - 1) f=l ++ [f a]:=by
 rw [ak,fL,Nat.add_sub_cancel]
 induction l with
 | nil=>rfl
 | cons b l ih=>exact congrArg (b:: ·) ih
theorem ir(a b:List Run):flat (a ++ b)=flat a ++ flat b:=by unfold flat; rw [bu,AI]
theorem dS(x:List Kd)(pw:Nat)(b:List Run):flat ((x,pw)::b)=x ++ flat b:=by unfold flat; rw [aW,cy]
theorem iX: ∀(a b:List Run) (n:Nat),gA n (a ++ b)=gA n a ++ gA (n+(flat a).length) b
 | [],b,n=>by simp [gA,flat]
 | (x,pw)::a,b,n=>by
  rw [kJ,gA,gA,iX a b,kJ,dS,ak,kq]
theorem lI: ∀(a:List Run) (n:Nat),(gA n a).length=a.length
 | [],n=>rfl
 | (x,pw)::a,n=>by rw [gA,aC,aC,lI a]
structure RI(κ:iU)(lt:Kd->Kd->Bool)(a0:List Kd)(rs:List Run)(rest:List Kd)(st:bV):Prop where
 kind:kindOf st=κ
 failed:f6 st=none
 perm:(arrOf st).toList.Perm a0
 arr:(arrOf st).toList=flat rs ++ rest
 pend:bW st=(gA 0 rs).toArray
 good: ∀r∈rs,0 < r.1.length/\jM lt r.1
section
variable {prog:ar}{w:World}{A:bp}{E:Value->ah->Prop}{s:ah}{κ:iU}{S:Kd->Prop}{lt:Kd->Kd->Bool}{st:bV}{a0 rest:List Kd}{rs:List Run}
theorem RI.kr(b:RI κ lt a0 rs rest st):rs.length<=(flat rs).length:=by
 have g:=b.good
 clear b
 induction rs with
 | nil=>exact bO _
 | cons r rs ih=>
  obtain⟨x,pw⟩:=r
  have:=ih fun r hr=>g r (.tail _ hr)
  have:=(g (x,pw) (.head _)).1
  rw [dS,ak,aC]
  dsimp only at this
  omega
theorem RI.merge(o:lb S lt)(c:pV prog w A s κ S lt)(nd:a0.Nodup)(hS: ∀x∈a0,S x)(b:RI κ lt a0 rs rest st){i:Nat}(hi:i+1 < rs.length){Q:Bool->bV->Prop}
  (h: ∀(rs':List Run) (st':bV),RI κ lt a0 rs' rest st'->rs'.length+1=rs.length->(flat rs').length=(flat rs).length->Q true st'):wpS (model prog w) A E s (mergeAt' i) Q st:=by
 obtain⟨r1,x,pw,y,pw2,r2,rfl,hl⟩: ∃r1 x pw y pw2 r2,rs=r1 ++ (x,pw)::(y,pw2)::r2/\r1.length=i:=by
  have h0:i < rs.length:=by omega
  refine⟨rs.take i,rs[i].1,rs[i].2,rs[i+1].1,rs[i+1].2,rs.drop (i+2), ?_,by rw [aT]; omega⟩
  show rs=rs.take i ++ rs[i]::rs[i+1]::rs.drop (i+2)
  rw [<-jT hi, <-jT h0,aO]
 subst hl
 have gx:=b.good (x,pw) (by simp)
 have gy:=b.good (y,pw2) (by simp)
 have e:(arrOf st).toList=flat r1 ++ (x ++ (y ++ (flat r2 ++ rest))):=by rw [b.arr,ir,dS,dS]; simp
 have nd':(flat r1 ++ (x ++ (y ++ (flat r2 ++ rest)))).Nodup:=by rw [<-e]; exact b.perm.symm.nodup nd
 have mem: ∀u,u∈(arrOf st).toList->S u:=fun u hu=>hS u (b.perm.mem_iff.mp hu)
 have pe:bW st=(gA 0 r1 ++ ((flat r1).length,x.length,pw)::((flat r1).length+x.length,y.length,pw2)::gA ((flat r1).length+x.length+y.length) r2).toArray:=by
  rw [b.pend,iX,gA,gA,yn]
 have lp:=lI r1 0
 refine vd (pre:=flat r1) (x:=x) (y:=y) (post:=flat r2 ++ rest) o c b.kind b.failed (pw:=pw) (pw2:=pw2) ?_ ?_ e gx.1 gy.1 gx.2 gy.2 (fun u hu=>mem u (by rw [e]; simp [hu])) (fun u hu=>mem u (by rw [e]; simp [hu])) (fun u hu v hv z=> ?_) fun z st' k1 k2 k3 k4 k5 k6=> ?_
 ·rw [pe,l_,eD (by omega),lp,jf]
  rfl
 ·rw [pe,l_,eD (by omega),lp,gW]
  rfl
 ·subst z
  have:=(hV.mp (hV.mp nd').2.1).2.2 u hu u (by simp [hv])
  exact this rfl
 ·have lz:z.length=x.length+y.length:=by rw [k5.length_eq,ak]
  refine h (r1 ++ (z,pw)::r2) st' ⟨k1,k2, ?_, ?_, ?_, ?_⟩ ?_ ?_
  ·rw [k4]
   refine i9 ?_ b.perm
   rw [e]
   refine dj _ ?_
   rw [<-aI x y]
   exact k5.append_right _
  ·rw [k4,ir,dS]
   simp
  ·rw [k3,pe,iX,gA,yn,lz, <-lp]
   apply kK.mp
   rw [Array.toList_eraseIdxIfInBounds,Array.toList_setIfInBounds]
   rw [Eu,zr,kq]
  ·intro r hr
   rcases bh.mp hr with hr | hr
   ·exact b.good r (by simp [hr])
   ·rcases aN.mp hr with rfl | hr
    ·have gx1:0 < x.length:=gx.1
     exact⟨show 0 < z.length by omega,k6⟩
    ·exact b.good r (by simp [hr])
  ·simp
   omega
  ·rw [ir,dS,ir,dS,dS]
   simp [lz,kq]
theorem RI.sb(b:RI κ lt a0 rs rest st):SB κ a0 (bW st) (flat rs) st:=⟨b.kind,b.failed,b.perm,rfl,by rw [b.arr,iV (aw _),c0 (aw _)]⟩
theorem RI.next(b:RI κ lt a0 rs rest st){st':bV}{n:Nat}(b':SB κ a0 (bW st) (flat rs) st')(hn:(flat rs).length+n<=a0.length)(u:Up lt (arrOf st') (flat rs).length n): ∃x rest',RI κ lt a0 rs (x ++ rest') st'/\x.length=n/\jM lt x:=by
 have hsz:=b'.size
 refine⟨((arrOf st').toList.drop (flat rs).length).take n,((arrOf st').toList.drop (flat rs).length).drop n,⟨b'.kind,b'.failed,b'.perm, ?_,b'.pend.trans b.pend,b.good⟩, ?_, ?_⟩
 ·rw [aO]
  conv=>rhs; lhs; rw [<-b'.pre]
  rw [aO]
 ·rw [aT,aZ,aj]; omega
 ·rw [jM,bM]
  intro i j hi hj hij
  rw [aT,aZ,aj]at hi hj
  rw [dI,dI,c6,c6]
  have g: ∀k (hk:(flat rs).length+k < (arrOf st').toList.length),(arrOf st').toList[(flat rs).length+k]=At (arrOf st') ((flat rs).length+k):=fun k hk=>by
   have e:=lU (arr:=arrOf st') (i:=(flat rs).length+k) (by rw [aj]at hk; exact hk)
   rw [<-bb,ai hk]at e
   exact aK e
  rw [g,g]
  exact u i j hij (by omega)
theorem RI.push{x rest':List Kd}(b:RI κ lt a0 rs (x ++ rest') st)(hx:0 < x.length)(sx:jM lt x){lo:Nat}(hl:lo=(flat rs).length):RI κ lt a0 (rs ++ [(x,0)]) rest' (setPending st ((bW st).push (lo,x.length,0))):=by
 refine⟨b.kind,b.failed,b.perm, ?_, ?_,fun r hr=> ?_⟩
 ·show(arrOf st).toList=_
  rw [b.arr,ir,dS]
  simp [flat]
 ·show(bW st).push _=_
  rw [b.pend,iX,gA,gA,hl]
  simp
 ·rcases bh.mp hr with hr | hr
  ·exact b.good r hr
  ·rcases aE.mp hr with rfl
   exact⟨hx,sx⟩
theorem RI.power(b:RI κ lt a0 rs rest st)(pw:Nat): ∃rs',RI κ lt a0 rs' rest (setPending st ((bW st).modify ((bW st).size - 1) fun(x:Nat×Nat×Nat)=>match x with | (s,l,_)=>(s,l,pw)))/\(flat rs').length=(flat rs).length:=by
 rcases List.eq_nil_or_concat rs with rfl | ⟨r,q,rfl⟩
 ·refine⟨[],⟨b.kind,b.failed,b.perm,b.arr, ?_,b.good⟩,rfl⟩
  generalize hY:(bW st).modify ((bW st).size - 1) _=Y
  show Y=_
  rw [<-hY,b.pend]
  rfl
 ·obtain⟨x,p⟩:=q
  rw [List.concat_eq_append]at b ⊢
  refine⟨r ++ [(x,pw)],⟨b.kind,b.failed,b.perm, ?_, ?_,fun u hu=> ?_⟩,by simp [ir,dS]⟩
  ·show(arrOf st).toList=_
   rw [b.arr]
   simp [ir,dS]
  ·generalize hY:(bW st).modify ((bW st).size - 1) _=Y
   show Y=_
   rw [<-hY,b.pend,iX,iX,gA,gA,gA]
   apply kK.mp
   rw [Array.toList_modify,ax,vI]
   rfl
  ·rcases bh.mp hu with hu | hu
   ·exact b.good u (by simp [hu])
   ·rcases aE.mp hu with rfl
    exact b.good (x,p) (by simp)
set_option maxHeartbeats 4000000 in
theorem Co{Q:Unit->bV->Prop}(o:lb S lt)(c:pV prog w A s κ S lt)(nd:a0.Nodup)(hS: ∀x∈a0,S x)(hk:kindOf st=κ)(hf:f6 st=none)(hp:bW st= #[])(ha:(arrOf st).toList=a0)
  (h: ∀st',f6 st'=none->(arrOf st').toList.Perm a0->jM lt (arrOf st').toList->Q () st'):wpS (model prog w) A E s sortRuns' Q st:=by
 have hsz:(arrOf st).size=a0.length:=by rw [<-aj,ha]
 rw [sortRuns'_eq]
 refine aB (lC ?_)
 rw [hsz]
 refine aB (dU (cQ (I:=fun x c st'=> ∃rs rest,c=(none,(flat rs).length)/\RI κ lt a0 rs rest st'/\x<=(flat rs).length)
  (Q:=fun c st'=> ∃rs rest,c=(none,(flat rs).length)/\RI κ lt a0 rs rest st'/\a0.length<=(flat rs).length) ?_ ?_ ⟨[],a0,rfl,⟨hk,hf,by rw [ha],by rw [ha]; rfl,hp,fun r hr=>by cases hr⟩,bO _⟩) ?_)
 ·rintro x c' st1 _ hx ⟨rs,rest,rfl,b,hlo⟩
  refine bU (fun e=>aG ⟨rs,rest,rfl,b,e⟩) fun e=> ?_
  have e:(flat rs).length < a0.length:=by have e: ¬(flat rs).length>=a0.length:=e; omega
  refine aB (Ao (pre:=flat rs) o c nd hS b.sb (by omega) (by omega) fun m st2 b2 m1 m2 u2=> ?_)
  dsimp -zeta only
  extract_lets n1 jp force n2
  have J: ∀(n:Nat) (st3:bV),SB κ a0 (bW st1) (flat rs) st3->1<=n->(flat rs).length+n<=a0.length->Up lt (arrOf st3) (flat rs).length n->wpS (model prog w) A E s (jp () n) (fun r st'=>match r with
    | .done c'=> ∃rs rest,c'=(none,(flat rs).length)/\RI κ lt a0 rs rest st'/\a0.length<=(flat rs).length
    | .yield c'=> ∃rs rest,c'=(none,(flat rs).length)/\RI κ lt a0 rs rest st'/\x+1<=(flat rs).length) st3:=fun n st3 b3 n1 n2 u3=>by
   obtain⟨y,rest',b4,ly,sy⟩:=b.next b3 n2 u3
   refine aB (lC ?_)
   extract_lets lo2 jp2
   have J2: ∀(st4:bV) (rs4:List Run),RI κ lt a0 rs4 (y ++ rest') st4->(flat rs4).length=(flat rs).length->wpS (model prog w) A E s (jp2 ()) (fun r st'=>match r with
    | .done c'=> ∃rs rest,c'=(none,(flat rs).length)/\RI κ lt a0 rs rest st'/\a0.length<=(flat rs).length
    | .yield c'=> ∃rs rest,c'=(none,(flat rs).length)/\RI κ lt a0 rs rest st'/\x+1<=(flat rs).length) st4:=fun st4 rs4 b5 l5=>by
    refine aB (lD (aG ?_))
    have lf:(flat (rs4 ++ [(y,0)])).length=(flat rs).length+n:=by rw [ir,dS,ak,ak,l5,ly]; rfl
    refine⟨rs4 ++ [(y,0)],rest',by rw [lf], ?_,by omega⟩
    have:=b5.push (by omega) sy l5.symm
    rw [ly]at this
    exact this
   cases hb:(bW st3).back? with
   | none=>exact J2 st3 rs b4 rfl
   | some q=>
    obtain⟨s1,m1,m2⟩:=q
    refine aB (dU (cQ (I:=fun _ c st'=>c=(none,())/\ ∃rs4,RI κ lt a0 rs4 (y ++ rest') st'/\(flat rs4).length=(flat rs).length) (Q:=fun c st'=>c=(none,())/\ ∃rs4,RI κ lt a0 rs4 (y ++ rest') st'/\(flat rs4).length=(flat rs).length) ?_ (fun _ _ z=>z) ⟨rfl,rs,b4,rfl⟩) ?_)
    ·rintro x' c' st5 _ hx' ⟨rfl,rs4,b5,l5⟩
     refine aB (lC ?_)
     dsimp only
     have hps:(bW st5).size=rs4.length:=by rw [b5.pend,ax,lI]
     by_cases h1:(bW st5).size > 1
     ·rw [if_pos h1]
      cases hq:(bW st5)[(bW st5).size - 2]? with
      | none=>exact aG ⟨rfl,rs4,b5,l5⟩
      | some q=>
       obtain⟨q1,q2,older⟩:=q
       refine bU (fun _=>aG ⟨rfl,rs4,b5,l5⟩) fun _=> ?_
       rw [hps]
       refine aB (b5.merge o c nd hS (by omega) fun rs' st' b' k1 k2=> ?_)
       exact aG ⟨rfl,rs',b',by omega⟩
     ·rw [if_neg h1]
      exact aG ⟨rfl,rs4,b5,l5⟩
    ·rintro c' st5 ⟨rfl,rs4,b5,l5⟩
     refine aB (lD ?_)
     obtain⟨rs6,b6,l6⟩:=b5.power (power' a0.length (2 * s1+m1) (2 * s1+m1+m1+n) a0.length)
     exact J2 _ rs6 b6 (by omega)
  have m2:m<=a0.length - (flat rs).length:=m2
  refine bU (fun e1=> ?_) fun e1=> ?_
  ·refine aB (oX (fc ⟨rfl, ?_⟩))
   have e1:m < minRun' a0.length a0.length 0:=e1
   refine aB (xk (n:=force) o c nd hS b2 (show(flat rs).length+min (a0.length - (flat rs).length) (minRun' a0.length a0.length 0)<=a0.length by omega) m1 (show m<=min (a0.length - (flat rs).length) (minRun' a0.length a0.length 0) by omega) u2 fun st3 b3 u3=> ?_)
   exact dU (J force st3 b3 (show 1<=min (a0.length - (flat rs).length) (minRun' a0.length a0.length 0) by omega) (show(flat rs).length+min (a0.length - (flat rs).length) (minRun' a0.length a0.length 0)<=a0.length by omega) u3) fun r st' z=>by cases r <;> exact z
  ·exact dU (J m st2 b2 m1 (by omega) u2) fun r st' z=>by cases r <;> exact z
 ·rintro c' st1 ⟨rs,rest,rfl,b,hlo⟩
  exact⟨rs,rest,rfl,b,by omega⟩
 ·rintro c' st1 ⟨rs,rest,rfl,b,hlo⟩
  have hre:rest= []:=by
   have:=b.perm.length_eq
   rw [b.arr,ak]at this
   exact w9.mp (by omega)
  subst hre
  have hfl:(flat rs).length=a0.length:=by
   have:=b.perm.length_eq
   rw [b.arr,ak]at this
   simpa using this
  have hfew:=b.kr
  refine aB (dU (cQ (I:=fun x c st'=>c=(none,())/\ ∃rs,RI κ lt a0 rs [] st'/\(rs.length+x<=a0.length\/rs.length<=1)) (Q:=fun c st'=>c=(none,())/\ ∃rs,RI κ lt a0 rs [] st'/\rs.length<=1) ?_ ?_ ⟨rfl,rs,b, .inl (by omega)⟩) ?_)
  ·rintro x c' st2 _ hx ⟨rfl,rs,b,hl⟩
   refine aB (lC ?_)
   have hps:(bW st2).size=rs.length:=by rw [b.pend,ax,lI]
   dsimp only
   rw [hps]
   refine bU (fun e=>aG ⟨rfl,rs,b,e⟩) fun e=> ?_
   have e: ¬rs.length<=1:=e
   refine aB (b.merge o c nd hS ?_ fun rs' st' b' l1 l2=> ?_)
   ·by_cases z0:rs.length - 2 > 0
    ·rw [if_pos z0]
     split <;> omega
    ·rw [if_neg z0,if_neg (by simp)]
     omega
   ·exact aG ⟨rfl,rs',b', .inl (by omega)⟩
  ·rintro c' st2 ⟨rfl,rs,b,hl⟩
   exact⟨rfl,rs,b,by rcases hl with hl | hl <;> omega⟩
  ·rintro c' st2 ⟨rfl,rs,b,hl⟩
   refine aG (h st2 b.failed b.perm ?_)
   rw [b.arr,bj]
   match rs,hl,b with
   | [],_,_=>exact eW
   | [(x,pw)],_,b=>
    rw [dS]
    have:=(b.good (x,pw) (.head _)).2
    simpa [flat]using this
end
abbrev gu:=List (List Int)
section
variable {prog:ar}{w:World}
abbrev T1(prog:ar)(w:World)(h:Heap)(r:List Int)(b:Addr):Prop:=(jl (fh prog w)).is h r b
inductive nY(prog:ar)(w:World)(h:Heap):gu->List Value->Prop
 | nil:nY prog w h [] []
 | cons {r:List Int} {b:Addr} {rs:gu} {vs:List Value}:T1 prog w h r b->nY prog w h rs vs->nY prog w h (r::rs) (.ref b::vs)
def T2(prog:ar)(w:World)(h:Heap)(rs:gu)(a:Addr):Prop:= ∃o items n,h.get? a=some o/\o.cls= .type "tuple"/\o.data= .seq items n/\nY prog w h rs items.toList
theorem T1.keep{h h':Heap}{r:List Int}{b:Addr}(x:T1 prog w h r b)(k: ∀c o,(o.cls= .type "tuple"/\ ∃items n,o.data= .seq items n)->h.get? c=some o->h'.get? c=some o):T1 prog w h' r b:=
 let⟨o,items,n,h1,h2,h3⟩:=x; ⟨o,items,n,k b o ⟨h2,_,_,h3.1⟩ h1,h2,h3⟩
theorem nY.keep{h h':Heap}(k: ∀c o,(o.cls= .type "tuple"/\ ∃items n,o.data= .seq items n)->h.get? c=some o->h'.get? c=some o): ∀{rs:gu} {vs:List Value},nY prog w h rs vs->nY prog w h' rs vs
 | _,_, .nil=> .nil
 | _,_, .cons x t=> .cons (T1.keep x k) (nY.keep k t)
theorem T2.keep{h h':Heap}{rs:gu}{a:Addr}(x:T2 prog w h rs a)(k: ∀c o,(o.cls= .type "tuple"/\ ∃items n,o.data= .seq items n)->h.get? c=some o->h'.get? c=some o):T2 prog w h' rs a:=
 let⟨o,items,n,h1,h2,h3,h4⟩:=x; ⟨o,items,n,k a o ⟨h2,_,_,h3⟩ h1,h2,h3,h4.keep k⟩
theorem nY.inj{h:Heap}: ∀{x y:gu} {vs:List Value},nY prog w h x vs->nY prog w h y vs->x=y
 | _,_,_, .nil, .nil=>rfl
 | _,_,_, .cons a s, .cons b t=>by rw [(jl (fh prog w)).inj a b,nY.inj s t]
theorem T2.inj{h:Heap}{a:Addr}{x y:gu}(p:T2 prog w h x a)(q:T2 prog w h y a):x=y:=by
 obtain⟨o,i,n,h1,_,h3,h4⟩:=p
 obtain⟨o',i',n',h1',_,h3',h4'⟩:=q
 rw [h1]at h1'
 cases h1'
 rw [h3]at h3'
 cases h3'
 exact h4.inj h4'
theorem nY.len{h:Heap}: ∀{rs:gu} {vs:List Value},nY prog w h rs vs->rs.length=vs.length
 | _,_, .nil=>rfl
 | _,_, .cons _ t=>by rw [aC,aC,nY.len t]
theorem T2.ty{s:ah}{rs:gu}{a:Addr}(x:T2 prog w s.heap rs a):s.TypeIs (.ref a) "tuple":=let⟨o,_,_,h1,h2,_⟩:=x; ⟨o,h1,h2⟩
def wV(r:List Int):PyData:= .tuple (r.map .int)
def AE(rs:gu):PyData:= .tuple (rs.map wV)
theorem oz{h:Heap}: ∀{r:List Int} {vs:List Value},jz (fh prog w) r vs->ReadsAll h vs (r.map .int) []
 | _,_, .nil=> .nil
 | _,_, .cons a t=>by
  obtain⟨tk,rfl⟩:=jW a
  exact .cons (.int _ tk) (oz t)
theorem qp{h:Heap}{r:List Int}{b:Addr}(x:T1 prog w h r b): ∃as,Reads h (.ref b) (wV r) as:=by
 obtain⟨o,items,n,h1,h2,h3,h4⟩:=x
 exact⟨_, .tuple h1 h2 h3 (oz h4)⟩
theorem sA{h:Heap}: ∀{rs:gu} {vs:List Value},nY prog w h rs vs-> ∃as,ReadsAll h vs (rs.map wV) as
 | _,_, .nil=>⟨_, .nil⟩
 | _,_, .cons x t=>by
  obtain⟨as,q⟩:=qp x
  obtain⟨bs,u⟩:=sA t
  exact⟨_, .cons q u⟩
theorem wD{h:Heap}{rs:gu}{a:Addr}(x:T2 prog w h rs a): ∃as,Reads h (.ref a) (AE rs) as:=by
 obtain⟨o,items,n,h1,h2,h3,h4⟩:=x
 obtain⟨as,q⟩:=sA h4
 exact⟨_, .tuple h1 h2 h3 q⟩
theorem lay_ints: ∀r:List Int,dF (r.map .int)=true
 | []=>by simp [dF]
 | x::r=>by simp only [aW,dF,hG,lay_ints r,gE]
theorem uI(r:List Int):(wV r).canLay0=true:=by unfold wV; simp only [hG,lay_ints]
theorem we: ∀rs:gu,dF (rs.map wV)=true
 | []=>by simp [dF]
 | x::r=>by simp only [aW,dF,uI,we r,gE]
theorem y_(rs:gu):(AE rs).canLay0=true:=by unfold AE; simp only [hG,we]
theorem vy: ∀r:List Int,c7 (r.map .int)=0
 | []=>by simp [c7]
 | x::r=>by simp only [aW,c7,je,vy r,Nat.max_self]
theorem uM(r:List Int):(wV r).depth=1:=by unfold wV; simp only [je,vy]
theorem vR: ∀rs:gu,c7 (rs.map wV)<=1
 | []=>by simp [c7]
 | x::r=>by simp only [aW,c7,uM]; exact Nat.max_le.mpr ⟨aw _,vR r⟩
theorem EH(rs:gu):(AE rs).depth<=2:=by unfold AE; simp only [je]; have:=vR rs; omega
theorem Iz: ∀(x y:List Int),ef (x.map .int) (y.map .int)=decide (x=y)
 | [], []=>by simp [ef]
 | [],_::_=>by simp [ef]
 | _::_, []=>by simp [ef]
 | a::x,b::y=>by
  simp only [aW,ef,Iz x y,iH]
  by_cases h:a=b <;> by_cases h':x=y <;> simp [h,h']
theorem yr(x y:List Int):iH (wV x) (wV y)=decide (x=y):=by unfold wV; simp only [iH,Iz]
theorem Ig: ∀(x y:gu),ef (x.map wV) (y.map wV)=decide (x=y)
 | [], []=>by simp [ef]
 | [],_::_=>by simp [ef]
 | _::_, []=>by simp [ef]
 | a::x,b::y=>by
  simp only [aW,ef,Ig x y,yr]
  by_cases h:a=b <;> by_cases h':x=y <;> simp [h,h']
theorem E9(x y:gu):iH (AE x) (AE y)=decide (x=y):=by unfold AE; simp only [iH,Ig]
variable {A:bp}{E:Value->ah->Prop}{s:ah}
theorem yD{x y:List Int}{a b:Addr}(hu:A.units+1 < cLine)(p:T1 prog w s.heap x a)(q:T1 prog w s.heap y b):SeqAt.EqAt A s (.ref a) (.ref b) (decide (x=y)):=by
 obtain⟨as,r1⟩:=qp p
 obtain⟨bs,r2⟩:=qp q
 have:=SeqAt.eqAt_reads (wV x) (wV y) A s (.ref a) (.ref b) as bs r1 r2 (uI x) (uI y) (by rw [uM,uM]; exact hu)
 rw [yr]at this
 exact this
theorem yL{x y:gu}{a b:Addr}(hu:A.units+2 < cLine)(p:T2 prog w s.heap x a)(q:T2 prog w s.heap y b):SeqAt.EqAt A s (.ref a) (.ref b) (decide (x=y)):=by
 obtain⟨as,r1⟩:=wD p
 obtain⟨bs,r2⟩:=wD q
 have:=SeqAt.eqAt_reads (AE x) (AE y) A s (.ref a) (.ref b) as bs r1 r2 (y_ x) (y_ y) (by have:=EH x; have:=Nat.min_le_left (AE x).depth (AE y).depth; omega)
 rw [E9]at this
 exact this
def se(prog:ar)(w:World)(rs:gu):Int:=uT (eP (rs.map (jl (fh prog w)).hash))
def jk:gu->Nat
 | []=>0
 | r::rs=>(r.length+1)+jk rs
theorem sC: ∀a b:gu,jk (a ++ b)=jk a+jk b
 | [],b=>by simp [jk]
 | r::a,b=>by rw [kJ,jk,jk,sC a b]; omega
theorem E_{rs:gu}{a:Addr}{Q:Int->ah->Prop}(hu:A.units+1 < cLine)(x:T2 prog w s.heap rs a)(h:Q (se prog w rs) {s with toks:=s.toks+(jk rs+1)}):wpAny (model prog w) A (pyHash (.ref a)) Q E s:=by
 have ty:=x.ty
 obtain⟨o,items,n,h1,_,h3,h4⟩:=x
 have hu0:A.units < cLine:=by omega
 unfold pyHash
 first | unfold pyHashByItsType | skip
 first | refine aa (wpAny_cRoomFor_or (.inr hu0) ?_) | skip
 refine aa (gI ty oY.lookup ?_)
 show wpAny _ _ (if(some (Value.builtin "tuple.__hash__")==some a_)=true then _ else _) Q E s
 rw [if_neg (by rw [beq_builtin_none]; exact az)]
 refine aa (gI ty oY.lookup ?_)
 show wpAny _ _ (callSpecialIfBoundUnlessNone? (.ref a) "__hash__" _ >>=_) Q E s
 refine aa (wpAny_callSpecialIfBoundUnlessNone?_slot ty oY (bF oY ty F.entry_tuple_hash ?_ (F.args_tuple_hash_1 _)))
 show wpAny _ _ (uR (.ref a) >>=_) _ _ s
 refine aa (wpAny_tupleItemsOf h1 h3 ?_)
 refine aa ?_
 rw [<-fC]
 refine gj _ (fun rest (b:Array Int) s'=> ∃d l,rs=d ++ l/\nY prog w s.heap l rest/\b.toList=d.map (jl (fh prog w)).hash/\s'={s with toks:=s.toks+jk d}) _ ?_ ?_ _ _ ⟨[],rs,rfl,h4,rfl,rfl⟩
 ·rintro v rest b s' ⟨d,l,rfl,hl,hb,rfl⟩
  cases hl with
  | @cons r c ks _ q hl'=>
   refine aa ((jl (fh prog w)).pyHash (show A.in1.units < cLine from hu) q ?_)
   have e:jk (d ++ [r])=jk d+(r.length+1):=by rw [sC]; rfl
   have fin:({s with toks:=s.toks+jk d+(r.length+1)}:ah)={s with toks:=s.toks+jk (d ++ [r])}:=by rw [e,kq]
   first
    | exact af ⟨d ++ [r],ks,by simp,hl',by simp [hb],fin⟩
    | exact aa (af (af ⟨d ++ [r],ks,by simp,hl',by simp [hb],fin⟩))
 ·rintro b s' ⟨d,l,rfl,hl,hb,rfl⟩
  cases hl
  rw [bj]at h
  show wpAny _ _ (retInt (eP b.toList)) _ _ _
  rw [hb]
  refine wpAny_ret_mkInt ?_
  unfold se uT at h
  generalize eP (d.map (jl (fh prog w)).hash)=z at h ⊢
  show wpAny _ _ (if(decide (-(2:Int) ^ 63<=z)&&decide (z < 2 ^ 63))=true then _ else _) Q E _
  by_cases hz:(decide (-(2:Int) ^ 63<=z)&&decide (z < 2 ^ 63))=true
  ·rw [if_pos hz]at h ⊢
   exact af h
  ·rw [if_neg hz]at h ⊢
   exact aa (fc (af h))
theorem B_{r:List Int}{b:Addr}{n:Nat}{Q:Bool->ah->Prop}(x:T1 prog w s.heap r b)(h:Q true s):wpAny (model prog w) A (eqIsQuiet (n+1) (.ref b)) Q E s:=by
 have ty:s.TypeIs (.ref b) "tuple":=IsTupleKey.typeIs x
 obtain⟨o,items,k,h1,_,h3,h4⟩:=x
 unfold eqIsQuiet
 refine aa (gI ty F.slot_tuple_eq.lookup ?_)
 show wpAny _ _ (isInstance (.ref b) (.type "tuple") >>=_) _ _ s
 refine aa (fv ty isSubtype_tuple_tuple ?_)
 simp only [dz,aS,if_false]
 refine aa (cZ h1 h3 ?_)
 refine aa ?_
 show wpAny _ _ (forIn items _ _) _ _ s
 rw [<-fC]
 refine gj _ (fun rest z s'=>z.1=none/\s'=s/\ ∀v∈rest,carriedByValue v=true) _ ?_ ?_ _ _ ⟨rfl,rfl,h4.byValue⟩
 ·rintro v rest z s' ⟨hz,rfl,all⟩
  rw [eqIsQuiet_byValue _ (all v b8)]
  refine aa (af ?_)
  simp only [dz,aS,if_false]
  exact af ⟨rfl,rfl,fun u q=>all u (bX _ q)⟩
 ·rintro⟨z1,z2⟩ s' ⟨hz,rfl,_⟩
  simp only at hz
  subst hz
  exact af h
theorem Cw{rs:gu}{a:Addr}{n:Nat}{Q:Bool->ah->Prop}(x:T2 prog w s.heap rs a)(h:Q true s):wpAny (model prog w) A (eqIsQuiet (n+2) (.ref a)) Q E s:=by
 have ty:=x.ty
 obtain⟨o,items,k,h1,_,h3,h4⟩:=x
 unfold eqIsQuiet
 refine aa (gI ty F.slot_tuple_eq.lookup ?_)
 show wpAny _ _ (isInstance (.ref a) (.type "tuple") >>=_) _ _ s
 refine aa (fv ty isSubtype_tuple_tuple ?_)
 simp only [dz,aS,if_false]
 refine aa (cZ h1 h3 ?_)
 refine aa ?_
 show wpAny _ _ (forIn items _ _) _ _ s
 rw [<-fC]
 refine gj _ (fun rest z s'=>z.1=none/\s'=s/\ ∃l,nY prog w s.heap l rest) _ ?_ ?_ _ _ ⟨rfl,rfl,rs,h4⟩
 ·rintro v rest z s' ⟨hz,rfl,l,hl⟩
  cases hl with
  | cons q t=>
   refine aa (B_ q ?_)
   simp only [dz,aS,if_false]
   exact af ⟨rfl,rfl,_,t⟩
 ·rintro⟨z1,z2⟩ s' ⟨hz,rfl,_⟩
  simp only at hz
  subst hz
  exact af h
end
def mf(prog:ar)(w:World):HeapKind prog w gu where
 is:=T2 prog w
 hash:=se prog w
 draws:=fun rs=>jk rs+1
 room:=fun A=>A.units+2 < cLine
 inj:=fun p q=>p.inj q
 keeps:=fun{h h' k a d o es ep} x ho hd hs=>x.keep fun c u hc hu=>by
  refine(hs.2 c ?_).trans hu
  rintro rfl
  rw [hu]at ho
  cases ho
  obtain⟨_,_,_,z⟩:=hc
  rw [hd]at z
  cases z
 pyHash:=fun hu x h=>E_ (by omega) x h
 eqBool:=fun{A E s x y a b Q} hu p q h=>yL hu p q prog w E Q h
 quiet:=fun x h=>Cw (n:=6) x h
section
variable {Ky:Type}
open Classical in
noncomputable def qy (pr:List (Value×Ky)) (v:Value):Option Ky:=if h: ∃k,(v,k)∈pr then some h.choose else none
theorem tJ{pr:List (Value×Ky)}(nv:(pr.map (·.1)).Nodup){v:Value}{k:Ky}(h:(v,k)∈pr):qy pr v=some k:=by
 have hx: ∃k,(v,k)∈pr:=⟨k,h⟩
 unfold qy
 rw [dif_pos hx]
 have h2:=hx.choose_spec
 generalize hx.choose=k' at h2
 obtain⟨i,hi,e1⟩:=aL.mp h
 obtain⟨j,hj,e2⟩:=aL.mp h2
 have:i=j:=by
  refine(kF (xs:=pr.map (·.1)) (h₀:=by rw [ae]; exact hi) (h₁:=by rw [ae]; exact hj) nv).mp ?_
  rw [aR,aR,e1,e2]
 subst this
 rw [e1]at e2
 exact congrArg some (oZ.mp e2).2.symm
noncomputable def E5 (lt:Ky->Ky->Bool) (pr:List (Value×Ky)) (x y:Kd):Bool:=match qy pr x.1,qy pr y.1 with
 | some a,some b=>lt a b
 | _,_=>false
structure mr(lt:Ky->Ky->Bool):Prop where
 tot: ∀x y,x≠y->lt x y=false->lt y x=true
 Bz: ∀x y,lt x y=true->lt y x=false
 tr: ∀x y z,lt x y=true->lt y z=true->lt x z=true
def Jw(pr:List (Value×Ky))(x:Kd):Prop:= ∃k,(x.1,k)∈pr/\x.2=x.1
theorem tL{lt:Ky->Ky->Bool}{pr:List (Value×Ky)}(nv:(pr.map (·.1)).Nodup){u v:Value}{a b:Ky}(h:(u,a)∈pr)(h':(v,b)∈pr)(u2 v2:Value):E5 lt pr (u,u2) (v,v2)=lt a b:=by
 unfold E5
 rw [tJ nv h,tJ nv h']
theorem IY{lt:Ky->Ky->Bool}(o:mr lt){pr:List (Value×Ky)}(nv:(pr.map (·.1)).Nodup)(nk:(pr.map (·.2)).Nodup):lb (Jw pr) (E5 lt pr):=by
 refine⟨fun x y ⟨a,ha,ea⟩ ⟨b,hb,eb⟩ hne e=> ?_,fun x y e=> ?_,fun x y z e1 e2=> ?_⟩
 ·obtain⟨x1,x2⟩:=x
  obtain⟨y1,y2⟩:=y
  rw [tL nv ha hb]at e
  rw [tL nv hb ha]
  refine o.tot a b (fun z=>hne ?_) e
  obtain⟨i,hi,e1⟩:=aL.mp ha
  obtain⟨j,hj,e2⟩:=aL.mp hb
  have:i=j:=by
   refine(kF (xs:=pr.map (·.2)) (h₀:=by rw [ae]; exact hi) (h₁:=by rw [ae]; exact hj) nk).mp ?_
   rw [aR,aR,e1,e2]
   exact z
  subst this
  rw [e1]at e2
  have h1:x1=y1:=(oZ.mp e2).1
  have ea:x2=x1:=ea
  have eb:y2=y1:=eb
  rw [ea,eb,h1]
 ·unfold E5 at e ⊢
  cases h1:qy pr x.1 with
  | none=>rw [h1]at e; cases e
  | some a=>
   cases h2:qy pr y.1 with
   | none=>exact absurd e (by rw [h1,h2]; exact az)
   | some b=>rw [h1,h2]at e; exact o.Bz _ _ e
 ·unfold E5 at e1 e2 ⊢
  cases h1:qy pr x.1 with
  | none=>rw [h1]at e1; cases e1
  | some a=>
   cases h2:qy pr y.1 with
   | none=>rw [h1,h2]at e1; cases e1
   | some b=>
    cases h3:qy pr z.1 with
    | none=>exact absurd e2 (by rw [h2,h3]; exact az)
    | some c=>
     rw [h1,h2]at e1
     rw [h2,h3]at e2
     exact o.tr _ _ _ e1 e2
def pM(lt:Ky->Ky->Bool)(pr:List (Value×Ky))(out:List Value):Prop:= ∃q:List (Value×Ky),q.Perm pr/\q.map (·.1)=out/\q.Pairwise (fun a b=>lt a.2 b.2=true)
theorem Aj{lt:Ky->Ky->Bool}{pr:List (Value×Ky)}(nv:(pr.map (·.1)).Nodup){l:List Kd}(hp:l.Perm (pr.map fun x=>(x.1,x.1)))(hs:jM (E5 lt pr) l):pM lt pr (l.map (·.2)):=by
 have key: ∀l:List Kd,(∀x∈l,Jw pr x)->jM (E5 lt pr) l-> ∃q:List (Value×Ky),q.map (fun x=>(x.1,x.1))=l/\(∀x∈q,x∈pr)/\q.Pairwise (fun a b=>lt a.2 b.2=true):=by
  intro l
  induction l with
  | nil=>intro _ _; exact⟨[],rfl,fun x hx=>absurd hx eA,eW⟩
  | cons x l ih=>
   intro h1 h2
   obtain⟨q,e,hm,hq⟩:=ih (fun y hy=>h1 y (.tail _ hy)) (bT.mp h2).2
   obtain⟨k,hk,ek⟩:=h1 x (.head _)
   refine⟨(x.1,k)::q, ?_,fun y hy=> ?_,bT.mpr ⟨fun y hy=> ?_,hq⟩⟩
   ·rw [aW,e]
    obtain⟨x1,x2⟩:=x
    have ek:x2=x1:=ek
    rw [ek]
   ·rcases aN.mp hy with rfl | hy
    ·exact hk
    ·exact hm y hy
   ·have:=(bT.mp h2).1 (y.1,y.1) (by rw [<-e]; exact aX.mpr ⟨y,hy,rfl⟩)
    have e2:=tL (lt:=lt) nv hk (hm y hy) x.2 y.1
    rw [<-e2]
    exact this
 obtain⟨q,e,hm,hq⟩:=key l (fun x hx=>by
  obtain⟨p,hp',rfl⟩:=aX.mp (hp.mem_iff.mp hx)
  exact⟨p.2,hp',rfl⟩) hs
 refine⟨q, ?_,by rw [<-e,ie]; rfl,hq⟩
 have h1:(q.map fun x=>(x.1,x.1)).Perm (pr.map fun x=>(x.1,x.1)):=by rw [e]; exact hp
 have h2:(q.map (·.1)).Perm (pr.map (·.1)):=by
  have:=h1.map (fun x:Value×Value=>x.1)
  rw [ie,ie]at this
  exact this
 have back: ∀l:List (Value×Ky),(∀x∈l,x∈pr)->(l.map (·.1)).filterMap (fun v=>(qy pr v).map fun k=>(v,k))=l:=by
  intro l
  induction l with
  | nil=>intro _; rfl
  | cons x l ih=>
   intro h
   rw [aW,i_,tJ nv (show(x.1,x.2)∈pr from h x (.head _)),ih fun y hy=>h y (.tail _ hy)]
   rfl
 have:=h2.filterMap (fun v=>(qy pr v).map fun k=>(v,k))
 rw [back q hm,back pr fun x hx=>hx]at this
 exact this
end
section
variable {prog:ar}{w:World}{A:bp}{E:Value->ah->Prop}{s:ah}{Ky:Type}
theorem vZ{lt:Ky->Ky->Bool}{κ:iU}{a:Addr}{pr:List (Value×Ky)}{vs:List Value}(evs:vs=pr.map (·.1))(o:mr lt)(nv:(pr.map (·.1)).Nodup)(nk:(pr.map (·.2)).Nodup){n:Nat}{P:PySem.Fin->ah->Prop}(ho:s.heap.get? a=some (df "list" vs.toArray n))(hl:vs.length<=sizeLine)
  (kd:2<=vs.length-> ∀(h':Heap) (Q:iU->ah->Prop),(∀b ob,b≠a->s.heap.get? b=some ob->h'.get? b=some ob)->Q κ {s with heap:=h'}->wpAny (model prog w) A (keyKind' vs.toArray) Q E {s with heap:=h'})
  (sy: ∀(h':Heap),(∀b ob,b≠a->s.heap.get? b=some ob->h'.get? b=some ob)-> ∀x∈pr, ∀y∈pr, ∀Q:Bool->ah->Prop,Q (lt x.2 y.2) {s with heap:=h'}->wpAny (model prog w) A (keyLt' κ x.1 y.1) Q (fun _ _=>False) {s with heap:=h'})
  (h: ∀(h':Heap) (out:List Value) (c:Nat),pM lt pr out->h'.get? a=some (df "list" out.toArray c)->(∀b ob,b≠a->s.heap.get? b=some ob->h'.get? b=some ob)->P (.done (.ret .none)) {s with heap:=h'}):
  wpAny (model prog w) A (cG.«list.sort» ⟨[.ref a], []⟩) P E s:=by
 have s1:=bG s.heap a (cR fun _=>(#[]:Array Value))
 obtain⟨e1,ho1⟩: ∃e1,(s.heap.update a (cR fun _=>(#[]:Array Value))).get? a=some (df "list" #[] e1):=⟨_,gJ ho fun _=> #[]⟩
 rw [list_sort_plain]
 refine aa (listItems_at ho rfl ?_)
 refine aa (kn ho rfl ?_ (by rw [ax]; exact hl) (bO _))
 refine aa (seqEpoch_at ho1 rfl ?_)
 refine aa (uX ?_ (by show vs.length<=_; exact hl))
 refine aa (wpAny_newList ?_ (bO _))
 refine bD ?_
 have ho3:(((s.heap.update a (cR fun _=>(#[]:Array Value))).push (df "tuple" vs.toArray 0)).push (df "list" #[] 0)).get? a=some (df "list" #[] e1):=ag _ (ag _ ho1)
 have hk3: ∀b ob,b≠a->s.heap.get? b=some ob->(((s.heap.update a (cR fun _=>(#[]:Array Value))).push (df "tuple" vs.toArray 0)).push (df "list" #[] 0)).get? b=some ob:=fun b ob hb e=>ag _ (ag _ ((s1.2 b hb).trans e))
 show wpAny (model prog w) A _ P E {s with heap:=((s.heap.update a (cR fun _=>(#[]:Array Value))).push (df "tuple" vs.toArray 0)).push (df "list" #[] 0)}
 generalize ((s.heap.update a (cR fun _=>(#[]:Array Value))).push (df "tuple" vs.toArray 0)).push (df "list" #[] 0)=H3 at ho3 hk3
 have lvs:vs.length=pr.length:=by rw [evs,ae]
 dsimp only
 have tail: ∀(out:List Value) (st:bV) (R:PySem.Fin->ah->Prop),out.length=vs.length->(arrOf st).map (·.2)=lE out->f6 st=none->(∀(h':Heap) (c:Nat),h'.get? a=some (df "list" out.toArray c)->(∀b ob,b≠a->s.heap.get? b=some ob->h'.get? b=some ob)->R (.done (.ret .none)) {s with heap:=h'})->
   wpAny (model prog w) A (do
    let touched:=(<-seqEpoch a) !=e1
    Builtin.List.listUpdate (.ref a) fun _=>(arrOf st).map (·.2)
    if let some e:=f6 st then rule "list.sort.comparison-raised"; throw e
    if touched then rule "list.sort.modified"; raiseError "ValueError" "list modified during sort"
    ret .none) R E {s with heap:=H3}:=by
  intro out st R hp hout hf hR
  have hsz:(lE out).size=vs.length:=by rw [ax,hp]
  rw [hout]
  have s2:=bG H3 a (cR fun _=>lE out)
  obtain⟨c2,hc2⟩: ∃c2,(H3.update a (cR fun _=>lE out)).get? a=some (df "list" (lE out) c2):=⟨_,gJ ho3 fun _=>lE out⟩
  refine aa (seqEpoch_at ho3 rfl ?_)
  refine aa (kn ho3 rfl ?_ (bO _) (bg (lx hsz) (Nat.le_succ_of_le hl)))
  rw [hf]
  simp only [bne_self_eq_false,aS,if_false]
  exact af (hR _ c2 hc2 fun b ob hb e=>(s2.2 b hb).trans (hk3 b ob hb e))
 have zz:(vs.toArray.zip vs.toArray).toList=pr.map fun x=>(x.1,x.1):=by
  rw [Array.toList_zip]
  show vs.zip vs=_
  rw [evs,List.zip_map']
 by_cases h2:vs.length < 2
 ·have hn2:vs.toArray.size < 2:=by rw [ax]; exact h2
  rw [if_pos hn2,if_pos hn2]
  refine aa (af ?_)
  refine aa ?_
  rw [StateT.run_pure]
  refine af ?_
  dsimp only
  refine tail vs _ P rfl ?_ rfl fun h' c h3 h4=>h h' vs c ⟨pr,c5 _,evs.symm, ?_⟩ h3 h4
  ·show(vs.toArray.zip vs.toArray).map (·.2)=_
   apply kK.mp
   rw [Array.toList_map,Array.toList_zip]
   exact q8 (aw _)
  ·match pr,lvs with
   | [],_=>exact eW
   | [q],_=>exact w_ _ _
   | _::_::_,z=>simp at z; omega
 ·have hn2: ¬vs.toArray.size < 2:=by rw [ax]; exact h2
  rw [if_neg hn2,if_neg hn2]
  refine aa (kd (by omega) H3 _ hk3 ?_)
  have nd0:(pr.map fun x=>(x.1,x.1)).Nodup:=by
   have:(pr.map fun x=>(x.1,x.1))=(pr.map (·.1)).map fun v=>(v,v):=by rw [ie]; rfl
   rw [this]
   exact List.Pairwise.map _ (fun a b hab z=>hab (oZ.mp z).1) nv
  refine aa (cF (Co (s:={s with heap:=H3}) (κ:=κ) (S:=Jw pr) (lt:=E5 lt pr) (a0:=pr.map fun x=>(x.1,x.1)) (st:=SortSt.mk' κ (vs.toArray.zip vs.toArray) #[] 7 none)
   (Q:=fun _ st'=>f6 st'=none/\(arrOf st').toList.Perm (pr.map fun x=>(x.1,x.1))/\jM (E5 lt pr) (arrOf st').toList)
   (IY o nv nk) ?says nd0 (fun x hx=> ?mem) rfl rfl rfl zz fun st' a1 a2 a3=>⟨a1,a2,a3⟩) ?_ fun _ _ e=>e)
  case says=>
   rintro⟨x1,x2⟩ ⟨y1,y2⟩ Q ⟨ka,ha,ea⟩ ⟨kb,hb,eb⟩ hQ
   rw [tL nv ha hb]at hQ
   exact sy H3 hk3 (x1,ka) ha (y1,kb) hb Q hQ
  case mem=>
   obtain⟨p,hp,rfl⟩:=aX.mp hx
   exact⟨p.2,hp,rfl⟩
  rintro⟨⟨⟩,st'⟩ s' ⟨rfl,hf,hp,hs⟩
  dsimp only
  have so:=Aj nv hp hs
  have hlen:((arrOf st').toList.map (·.2)).length=vs.length:=by rw [ae,hp.length_eq,ae,lvs]
  refine tail _ st' P hlen ?_ hf fun h' c h3 h4=>h h' _ c so h3 h4
  apply kK.mp
  rw [Array.toList_map]
end
def mU{α:Type} [DecidableEq α](lt:α->α->Bool):List α->List α->Bool
 | a::as,b::bs=>if a=b then mU lt as bs else lt a b
 | [],_::_=>true
 | _, []=>false
section
variable {α:Type} [DecidableEq α]{lt:α->α->Bool}
theorem vA(o:mr lt): ∀(a b:List α),a≠b->mU lt a b=false->mU lt b a=true
 | [], [],h,_=>absurd rfl h
 | [],_::_,_,h=>by cases h
 | _::_, [],_,_=>rfl
 | a::as,b::bs,h,e=>by
  unfold mU at e ⊢
  by_cases hab:a=b
  ·rw [if_pos hab]at e
   rw [if_pos hab.symm]
   exact vA o as bs (fun z=>h (by rw [hab,z])) e
  ·rw [if_neg hab]at e
   rw [if_neg fun z=>hab z.symm]
   exact o.tot a b hab e
theorem wF(o:mr lt): ∀(a b:List α),mU lt a b=true->mU lt b a=false
 | [], [],h=>by cases h
 | [],_::_,_=>rfl
 | _::_, [],h=>by cases h
 | a::as,b::bs,e=>by
  unfold mU at e ⊢
  by_cases hab:a=b
  ·rw [if_pos hab]at e
   rw [if_pos hab.symm]
   exact wF o as bs e
  ·rw [if_neg hab]at e
   rw [if_neg fun z=>hab z.symm]
   exact o.Bz a b e
theorem yV(o:mr lt): ∀(a b c:List α),mU lt a b=true->mU lt b c=true->mU lt a c=true
 | [],_,_::_,_,_=>rfl
 | _, [], [],_,h=>by cases h
 | _,_::_, [],_,h=>by cases h
 | _::_, [],_::_,h,_=>by cases h
 | a::as,b::bs,c::cs,h1,h2=>by
  unfold mU at h1 h2 ⊢
  by_cases hab:a=b
  ·subst hab
   rw [if_pos rfl]at h1
   by_cases hac:a=c
   ·rw [if_pos hac]at h2 ⊢
    exact yV o as bs cs h1 h2
   ·rw [if_neg hac]at h2 ⊢
    exact h2
  ·rw [if_neg hab]at h1
   by_cases hbc:b=c
   ·subst hbc
    rw [if_neg hab]
    exact h1
   ·rw [if_neg hbc]at h2
    have:=o.tr a b c h1 h2
    by_cases hac:a=c
    ·subst hac
     rw [o.Bz a b h1]at h2
     cases h2
    ·rw [if_neg hac]
     exact this
theorem mr.lex(o:mr lt):mr (mU lt):=⟨vA o,wF o,yV o⟩
end
def ltI(a b:Int):Bool:=decide (a < b)
theorem wt:mr ltI:=⟨fun x y h e=>decide_eq_true (by have:=of_decide_eq_false e; omega),fun x y e=>decide_eq_false (by have:=of_decide_eq_true e; omega),fun x y z e1 e2=>decide_eq_true (by have:=of_decide_eq_true e1; have:=of_decide_eq_true e2; omega)⟩
abbrev kT:List Int->List Int->Bool:=mU ltI
abbrev jo:gu->gu->Bool:=mU kT
theorem ED:mr jo:=wt.lex.lex
def kX(a b:gu×Int):Bool:=if a.1=b.1 then ltI a.2 b.2 else jo a.1 b.1
theorem GP:mr kX:=by
 refine⟨fun x y h e=> ?_,fun x y e=> ?_,fun x y z e1 e2=> ?_⟩
 ·unfold kX at e ⊢
  by_cases q:x.1=y.1
  ·rw [if_pos q]at e
   rw [if_pos q.symm]
   exact wt.tot _ _ (fun z=>h (Prod.ext q z)) e
  ·rw [if_neg q]at e
   rw [if_neg fun z=>q z.symm]
   exact ED.tot _ _ q e
 ·unfold kX at e ⊢
  by_cases q:x.1=y.1
  ·rw [if_pos q]at e
   rw [if_pos q.symm]
   exact wt.Bz _ _ e
  ·rw [if_neg q]at e
   rw [if_neg fun z=>q z.symm]
   exact ED.Bz _ _ e
 ·obtain⟨a,i⟩:=x
  obtain⟨b,j⟩:=y
  obtain⟨c,k⟩:=z
  unfold kX at e1 e2 ⊢
  dsimp only at e1 e2 ⊢
  by_cases hab:a=b
  ·subst hab
   rw [if_pos rfl]at e1
   by_cases hac:a=c
   ·rw [if_pos hac]at e2 ⊢
    exact wt.tr _ _ _ e1 e2
   ·rw [if_neg hac]at e2 ⊢
    exact e2
  ·rw [if_neg hab]at e1
   by_cases hbc:b=c
   ·subst hbc
    rw [if_neg hab]
    exact e1
   ·rw [if_neg hbc]at e2
    by_cases hac:a=c
    ·subst hac
     rw [ED.Bz a b e1]at e2
     cases e2
    ·rw [if_neg hac]
     exact ED.tr a b c e1 e2
theorem wa: ∀a b:List Int,HT.lexLt a b=kT a b
 | [], []=>rfl
 | [],_::_=>rfl
 | _::_, []=>rfl
 | a::as,b::bs=>by
  rw [HT.qa]
  show _=if a=b then kT as bs else decide (a < b)
  rw [wa as bs]
section
variable {prog:ar}{w:World}{A:bp}{E:Value->ah->Prop}{s:ah}
theorem pv{h:Heap}{r:List Int}{b:Addr}(x:T1 prog w h r b): ∃items:Array Value,IsTup h b items/\fB items.toList r:=by
 obtain⟨o,items,n,h1,h2,h3,h4⟩:=x
 refine⟨items,⟨o,h1,h2,n,h3⟩, ?_⟩
 generalize items.toList=l at h4
 induction h4 with
 | nil=>exact .nil
 | cons a t ih=>
  obtain⟨tk,rfl⟩:=jW a
  exact .cons _ tk ih
theorem Im{x y:List Int}{a b:Addr}{Q:Value->ah->Prop}(hu:A.units < cLine)(p:T1 prog w s.heap x a)(q:T1 prog w s.heap y b)(h:Q (.bool (kT x y)) s):wpAny (model prog w) A (cj .Lt (.ref a) (.ref b)) Q E s:=by
 obtain⟨i1,t1,n1⟩:=pv p
 obtain⟨i2,t2,n2⟩:=pv q
 exact HT.xi t1 t2 n1 n2 hu (by rw [wa]; exact h)
theorem rB{l b:Addr}{items items2:Array Value}{n n2:Nat}{dd dd2:Option Addr}{sl sl2:Array (Option Value)}{x y:gu}:
  MeetsIn prog w (cG.«tuple.__lt__» ⟨[.ref l, .ref b], []⟩)
   (fun A R s=>A.units+2 < cLine/\s.heap.get? l=some {cls:= .type "tuple",dict:=dd,data:= .seq items n,slots:=sl}/\s.heap.get? b=some {cls:= .type "tuple",dict:=dd2,data:= .seq items2 n2,slots:=sl2}/\
    nY prog w s.heap x items.toList/\nY prog w s.heap y items2.toList/\R (.ok (.ret (.bool (jo x y)))) s):=
 .of_wp fun A R s h=>by
  obtain⟨hp,g,d,tk,os⟩:=s
  obtain⟨hu,hl,hb,hi,hj,h⟩:=h
  have f2:=dw
  have z1:items.size=x.length:=by rw [hi.len]; simp
  have z2:items2.size=y.length:=by rw [hj.len]; simp
  wp_walk using bf hl,bf hb,gj _ (fun rest b s'=>b.1=none/\s'=⟨hp,g,d,tk,os⟩/\ ∃(vs ws:List Value) (x' y':gu),rest=vs.zip ws/\
   nY prog w hp x' vs/\nY prog w hp y' ws/\x'.length+items2.size=y'.length+items.size/\R (.ok (.ret (.bool (jo x' y')))) ⟨hp,g,d,tk,os⟩) _
  case turn=>
   rintro⟨u,v⟩ rest b s' ⟨hb',rfl,vs,ws,x',y',hz,hv,hw,hlen,hR⟩
   cases hv with
   | nil=>rw [oR]at hz; cases hz
   | @cons r a xs vs' ha hv'=>
    cases hw with
    | nil=>rw [oh]at hz; cases hz
    | @cons r' c ys ws' hc hw'=>
     rw [eE]at hz
     injection hz with hyx hrest
     injection hyx with hy hx
     subst hy hx
     have hR':R (.ok (.ret (.bool (if r=r' then jo xs ys else kT r r')))) ⟨hp,g,d,tk,os⟩:=hR
     simp only [aC]at hlen
     refine aa (yD (A:=A.in1) (s:=⟨hp,g,d,tk,os⟩) (prog:=prog) (w:=w) (by show A.units+1+1 < cLine; omega) ha hc prog w _ _ ?_)
     by_cases e:r=r'
     ·rw [if_pos e]at hR'
      rw [decide_eq_true e]
      wp_walk
      exact⟨rfl,rfl,_,_,_,_,hrest,hv',hw',by omega,hR'⟩
     ·rw [if_neg e]at hR'
      rw [decide_eq_false e]
      have hri: ∀{E:Value->ah->Prop} {Q:Value->ah->Prop},Q (.bool (kT r r')) ⟨hp,g,d,tk,os⟩->wpAny (model prog w) A.in1 (mI .Lt (.ref a) (.ref c)) Q E ⟨hp,g,d,tk,os⟩:=fun q=>Im (A:=A.in1) (s:=⟨hp,g,d,tk,os⟩) (show A.units+1 < cLine by omega) ha hc q
      wp_walk using hri
      exact⟨_,rfl,by simpa using hR'⟩
  case fin=>
   rintro⟨b1,b2⟩ s' ⟨hb',rfl,vs,ws,x',y',hz,hv,hw,hlen,hR⟩
   simp only at hb'
   subst hb'
   have he:jo x' y'=decide (items.size < items2.size):=by
    cases hv with
    | nil=>
     cases hw with
     | nil=>
      simp only [bQ]at hlen
      exact(decide_eq_false (by omega)).symm
     | cons c hw=>
      simp only [bQ,aC]at hlen
      exact(decide_eq_true (by omega)).symm
    | cons a hv=>
     cases hw with
     | nil=>
      simp only [bQ,aC]at hlen
      exact(decide_eq_false (by omega)).symm
     | cons c hw=>
      rw [eE]at hz
      cases hz
   rw [he]at hR
   wp_walk
   exact⟨_,rfl,by simpa [iA]using hR⟩
  case h=>
   exact⟨rfl,rfl,items.toList,items2.toList,x,y,rfl,hi,hj,by omega,h⟩
theorem HU{x y:gu}{a b:Addr}{Q:Value->ah->Prop}(hu:A.units+2 < cLine)(p:T2 prog w s.heap x a)(q:T2 prog w s.heap y b)(h:Q (.bool (jo x y)) s):wpAny (model prog w) A (cj .Lt (.ref a) (.ref b)) Q E s:=by
 have ta:=p.ty
 have tb:=q.ty
 obtain⟨⟨c1,d1,e1,f1⟩,i1,n1,h1,h2,h3,h4⟩:=p
 obtain⟨⟨c2,d2,e2,f2⟩,i2,n2,k1,k2,k3,k4⟩:=q
 simp only at h2 h3 k2 k3
 subst h2 h3 k2 k3
 show wpAny (model prog w) A (mI .Lt (.ref a) (.ref b)) Q E s
 exact wpAny_richCompare_same_room ta tb zg (o4 zg ta PySem.F.entry_tuple_lt (PySem.F.args_tuple_lt_2 _ _) rB ⟨hu,h1,k1,h4,k4,show dJ (jo x y)≠mJ/\Q (.bool (jo x y)) s from⟨(fun z=>nomatch z),h⟩⟩) (by omega)
end
section
variable {prog:ar}{w:World}{A:bp}{E:Value->ah->Prop}{s:ah}
theorem Am{M:Model}{h:Heap}{b:Addr}{o:Obj}(e:h.get? b=some o)(c:o.cls= .type "tuple"):Looks M h (typeOf (.ref b)) (.type "tuple"):=fun A Q E s k q=>gn (T:="tuple") ⟨o,k _ _ e,c⟩ q
theorem Cz{M:Model}{h:Heap}{r:gu}{b:Addr}(x:T2 prog w h r b):Looks M h (typeOf (.ref b)) (.type "tuple"):=let⟨_,_,_,h1,h2,_⟩:=x; Am h1 h2
def T3(prog:ar)(w:World)(h:Heap)(k:gu×Int)(a:Addr):Prop:= ∃o n b t,h.get? a=some o/\o.cls= .type "tuple"/\o.data= .seq #[.ref b, .int k.2 t] n/\T2 prog w h k.1 b
theorem T3.keep{h h':Heap}{k:gu×Int}{a:Addr}(x:T3 prog w h k a)(q: ∀c o,(o.cls= .type "tuple"/\ ∃items n,o.data= .seq items n)->h.get? c=some o->h'.get? c=some o):T3 prog w h' k a:=
 let⟨o,n,b,t,h1,h2,h3,h4⟩:=x; ⟨o,n,b,t,q a o ⟨h2,_,_,h3⟩ h1,h2,h3,h4.keep q⟩
theorem GV{x y:gu×Int}{a b:Addr}{Q:Bool->ah->Prop}(hu:A.units+2 < cLine)(p:T3 prog w s.heap x a)(q:T3 prog w s.heap y b)(h:Q (kX x y) s):wpAny (model prog w) A (keyLt' (tuples' false) (.ref a) (.ref b)) Q (fun _ _=>False) s:=by
 obtain⟨o,n,c,t,h1,_,h3,h4⟩:=p
 obtain⟨o',n',c',t',k1,_,k3,k4⟩:=q
 refine kat_lt h1 h3 k1 k3 ?_
 show KatLex prog w A false _ Q [(.ref c, .ref c'),(.int x.2 t, .int y.2 t')] 0 s
 refine kat_cons (yL hu h4 k4 prog w _ _ ?_)
 unfold kX at h
 by_cases e:x.1=y.1
 ·rw [if_pos e]at h
  rw [decide_eq_true e]
  refine kat_yes (kat_cons (Fd ?_))
  by_cases e2:x.2=y.2
  ·rw [beq_iff_eq.mpr e2]
   refine kat_yes (kat_nil ?_)
   have z:ltI x.2 y.2=false:=decide_eq_false (by omega)
   rw [z]at h
   exact h
  ·rw [beq_eq_false_iff_ne.mpr e2]
   refine kat_no ?_
   rw [fV]
   exact kat_one _ _ (lt_int h)
 ·rw [if_neg e]at h
  rw [decide_eq_false e]
  refine kat_no ?_
  rw [fV]
  exact kat_one _ _ (HU (by omega) h4 k4 h)
theorem Fo{h:Heap}: ∀{pr:List (Value×(gu×Int))},(∀q∈pr, ∃b,q.1=ao b/\T3 prog w h q.2 b)-> ∃fs,KatTups h (pr.map (·.1)) fs/\fs.length=pr.length/\ ∀v∈fs, ∃r b,v=ao b/\T2 prog w h r b
 | [],_=>⟨[],trivial,rfl,fun v hv=>by cases hv⟩
 | q::pr,x=>by
  obtain⟨b,e,o,n,c,t,h1,h2,h3,h4⟩:=x q (.head _)
  obtain⟨fs,a1,a2,a3⟩:=Fo (pr:=pr) fun u hu=>x u (.tail _ hu)
  refine⟨.ref c::fs,⟨⟨b,o,_,n,e,h1,h2,h3,rfl⟩,a1⟩,by simp [a2],fun u hu=> ?_⟩
  rcases aN.mp hu with rfl | hu
  ·exact⟨_,c,rfl,h4⟩
  ·exact a3 u hu
theorem El{a:Addr}{pr:List (Value×(gu×Int))}{n:Nat}{P:PySem.Fin->ah->Prop}(hu:A.units+2 < cLine)(ho:s.heap.get? a=some (df "list" (pr.map (·.1)).toArray n))(hl:pr.length<=sizeLine)(y: ∀q∈pr, ∃b,q.1=ao b/\T3 prog w s.heap q.2 b)(nk:(pr.map (·.2)).Nodup)
  (h: ∀(h':Heap) (out:List Value) (c:Nat),pM kX pr out->h'.get? a=some (df "list" out.toArray c)->(∀b ob,b≠a->s.heap.get? b=some ob->h'.get? b=some ob)->P (.done (.ret .none)) {s with heap:=h'}):
  wpAny (model prog w) A (cG.«list.sort» ⟨[.ref a], []⟩) P E s:=by
 have nv:(pr.map (·.1)).Nodup:=by
  refine bM.mpr fun i j hi hj hij z=> ?_
  rw [ae]at hi hj
  rw [aR,aR]at z
  obtain⟨b,e1,o1,n1,c1,t1,p1,p2,p3,p4⟩:=y _ (aQ hi)
  obtain⟨b',e2,o2,n2,c2,t2,q1,q2,q3,q4⟩:=y _ (aQ hj)
  rw [e1,e2]at z
  cases z
  rw [p1]at q1
  cases q1
  rw [p3]at q3
  simp only [Data.seq.injEq,Array.mk.injEq,List.cons.injEq,Value.ref.injEq,Value.int.injEq,and_true]at q3
  obtain⟨⟨rfl,k2,_⟩,_⟩:=q3
  have:=(bM.mp nk) i j (by rw [ae]; exact hi) (by rw [ae]; exact hj) hij
  rw [aR,aR]at this
  exact this (Prod.ext (p4.inj q4) k2)
 have kp: ∀h':Heap,(∀b ob,b≠a->s.heap.get? b=some ob->h'.get? b=some ob)-> ∀q∈pr, ∃b,q.1=ao b/\T3 prog w h' q.2 b:=fun h' k q hq=>by
  obtain⟨b,e,t⟩:=y q hq
  exact⟨b,e,t.keep fun c o hc z=>k c o (by rintro rfl; rw [ho]at z; cases z; exact absurd (show cu "list"=cu "tuple" from hc.1) (by decide)) z⟩
 refine vZ (lt:=kX) (κ:=tuples' false) rfl GP nv nk ho (by rw [ae]; exact hl) (fun h2 h' Q k q=> ?_) (fun h' k x hx z hz Q q=> ?_) h
 ·obtain⟨fs,a1,a2,a3⟩:=Fo (prog:=prog) (w:=w) (h:=h') (pr:=pr) (kp h' k)
  rw [ae]at h2
  exact kat_kind (s:={s with heap:=h'}) (T:= .type "tuple") a1 (by omega) (fun v hv=>by obtain⟨r,b,rfl,t⟩:=a3 v hv; exact Cz t) (by decide) q
 ·obtain⟨b,e1,t1⟩:=kp h' k x hx
  obtain⟨c,e2,t2⟩:=kp h' k z hz
  rw [e1,e2]
  exact GV (s:={s with heap:=h'}) hu t1 t2 q
end
abbrev mV:List Int->List Int->Bool:=kT
theorem sQ(a b:Int)(x y:List Int):mV (a::x) (b::y)=if a=b then mV x y else decide (a < b):=rfl
theorem C7{a b:List Int}(h:a≠b)(e:mV a b=false):mV b a=true:=wt.lex.tot a b h e
theorem B6{a b:List Int}(e:mV a b=true):mV b a=false:=wt.lex.Bz a b e
theorem yF{a b c:List Int}(e:mV a b=true)(e':mV b c=true):mV a c=true:=wt.lex.tr a b c e e'
abbrev vh(pr:List (Value×List Int))(out:List Value):Prop:=pM mV pr out
theorem vh.perm{pr pr':List (Value×List Int)}{out:List Value}(h:vh pr' out)(hp:pr'.Perm pr):vh pr out:=let⟨q,a,b,c⟩:=h; ⟨q,a.trans hp,b,c⟩
theorem nG{α β:Type}{f:α->β}: ∀{r:List α} {l:List β},l.Perm (r.map f)-> ∃l':List α,l'.Perm r/\l'.map f=l
 | [],l,h=>⟨[],c5 _,by rw [oS]at h; rw [oS,h.eq_nil]⟩
 | x::r,l,h=>by
  have hm:f x∈l:=h.mem_iff.mpr (by simp)
  obtain⟨s,t,rfl⟩:=List.append_of_mem hm
  have h2:(s ++ t).Perm (r.map f):=by
   have:=Fg.symm.trans h
   rw [aW]at this
   exact this.cons_inv
  obtain⟨l',h3,h4⟩:=nG h2
  refine⟨l'.take s.length ++ x::l'.drop s.length, ?_, ?_⟩
  ·refine Fg.trans ?_
   rw [aO]
   exact h3.cons x
  ·rw [bu,aW,List.map_take,wR,h4]
   simp
section
variable {prog:ar}{w:World}{A:bp}{E:Value->ah->Prop}{s:ah}
theorem Iu{p q:Int}{t u:Tok}{b:Bool}{Q:Bool->ah->Prop}(h:Q (decide (p < q)) s):wpAny (model prog w) A (oneLt' b (.int p t) (.int q u)) Q (fun _ _=>False) s:=by
 cases b with
 | true=>exact oneLt_int h
 | false=>exact kat_one _ _ (lt_int h)
theorem wG{k:Int}{v:Value}(h:(fh prog w).is k v=true): ∃t,v=fH k t:=jW h
theorem AY{b fin:Bool}{Q:Bool->ah->Prop}: ∀(ks ks':List Int) (l l':List Value) (i:Nat),jz (fh prog w) ks l->jz (fh prog w) ks' l'->(ks.length=ks'.length)->fin=false->Q (mV ks ks') s->KatLex prog w A b fin Q (l.zip l') i s
 | [], [],l,l',i,h1,h2,_,hf,hq=>by
  cases h1
  cases h2
  subst hf
  exact hq
 | [],_::_,_,_,_,_,_,hl,_,_=>by simp at hl
 | _::_, [],_,_,_,_,_,hl,_,_=>by simp at hl
 | k::ks,k'::ks',l,l',i,h1,h2,hl,hf,hq=>by
  cases h1 with
  | cons a1 r1=>
   cases h2 with
   | cons a2 r2=>
    obtain⟨t,rfl⟩:=wG a1
    obtain⟨u,rfl⟩:=wG a2
    refine kat_cons (Fd ?_)
    refine kat_go (fun e=>kat_yes (AY ks ks' _ _ (i+1) r1 r2 (by simpa using hl) hf ?_)) fun e=>kat_no (Iu ?_)
    ·rw [sQ,if_pos (of_decide_eq_true e)]at hq
     exact hq
    ·rw [sQ,if_neg (of_decide_eq_false e)]at hq
     exact hq
def Ho(prog:ar)(w:World)(h:Heap)(pr:List (Value×List Int)):Prop:= ∀q∈pr, ∃b,q.1=ao b/\TK prog w h q.2 b/\q.2.length=2
theorem Ho.kat{h:Heap}: ∀{pr:List (Value×List Int)},Ho prog w h pr-> ∃fs,KatTups h (pr.map (·.1)) fs/\fs.length=pr.length/\ ∀v∈fs, ∃i t,v=fH i t
 | [],_=>⟨[],trivial,rfl,fun v hv=>by cases hv⟩
 | q::pr,x=>by
  obtain⟨b,e,⟨o,items,n,ho,hc,hd,hi⟩,hne⟩:=x q (.head _)
  obtain⟨fs,h1,h2,h3⟩:=Ho.kat (pr:=pr) fun u hu=>x u (.tail _ hu)
  have hin:=uf hi
  have hlen:=hi.length
  obtain⟨items⟩:=items
  cases items with
  | nil=>rw [hne]at hlen; cases hlen
  | cons f r=>
   refine⟨f::fs,⟨⟨b,o,_,n,e,ho,hc,hd,rfl⟩,h1⟩,by simp [h2],fun u hu=> ?_⟩
   rcases aN.mp hu with rfl | hu
   ·exact hin _ (.head _)
   ·exact h3 u hu
theorem AZ{a:Addr}{pr:List (Value×List Int)}{n:Nat}{P:PySem.Fin->ah->Prop}(ho:s.heap.get? a=some (df "list" (pr.map (·.1)).toArray n))(hl:pr.length<=sizeLine)(y:Ho prog w s.heap pr)(nk:(pr.map (·.2)).Nodup)
  (h: ∀(h':Heap) (out:List Value) (c:Nat),vh pr out->h'.get? a=some (df "list" out.toArray c)->(∀b ob,b≠a->s.heap.get? b=some ob->h'.get? b=some ob)->P (.done (.ret .none)) {s with heap:=h'}):
  wpAny (model prog w) A (cG.«list.sort» ⟨[.ref a], []⟩) P E s:=by
 have nv:(pr.map (·.1)).Nodup:=by
  refine bM.mpr fun i j hi hj hij z=> ?_
  rw [ae]at hi hj
  rw [aR,aR]at z
  obtain⟨b,e1,t1,_⟩:=y _ (aQ hi)
  obtain⟨b',e2,t2,_⟩:=y _ (aQ hj)
  rw [e1,e2]at z
  cases z
  have:=(bM.mp nk) i j (by rw [ae]; exact hi) (by rw [ae]; exact hj) hij
  rw [aR,aR]at this
  exact this (mM t1 t2)
 have kp: ∀h':Heap,(∀b ob,b≠a->s.heap.get? b=some ob->h'.get? b=some ob)->Ho prog w h' pr:=fun h' k q hq=>by
  obtain⟨b,e,t,l⟩:=y q hq
  have hb:b≠a:=by
   rintro rfl
   obtain⟨o,_,_,z,hc,_⟩:=t
   rw [ho]at z
   cases z
   exact absurd (show cu "list"=cu "tuple" from hc) (by decide)
  exact⟨b,e,t.keep fun o z=>k b o hb z,l⟩
 refine vZ (lt:=mV) (κ:=tuples' true) rfl wt.lex nv nk ho (by rw [ae]; exact hl) (fun h2 h' Q k q=> ?_) (fun h' k x hx z hz Q q=> ?_) h
 ·obtain⟨fs,a1,a2,a3⟩:=(kp h' k).kat
  rw [ae]at h2
  exact kat_kind (s:={s with heap:=h'}) (T:= .type "int") a1 (by omega) (fun v hv=>by obtain⟨i,t,rfl⟩:=a3 v hv; exact .now) (by decide) q
 ·obtain⟨b,e1,⟨o,items,n,ho,hc,hd,hit⟩,hl1⟩:=kp h' k x hx
  obtain⟨c,e2,⟨o',items',n',ho',hc',hd',hit'⟩,hl2⟩:=kp h' k z hz
  rw [e1,e2]
  have z1:=hit.length
  have z2:=hit'.length
  refine kat_lt (s:={s with heap:=h'}) ho hd ho' hd' (AY _ _ _ _ 0 hit hit' (by rw [hl1,hl2]) (decide_eq_false ?_) q)
  rw [aj]at z1 z2
  omega
theorem vr{a:Addr}{o:Obj}{es:Array (Int×Value)}{ep:Nat}{t:cz}{Q:Value->ah->Prop}(hh:A.handled=none)(S:PF (!oJ w) o es ep t)(hg:s.heap.get? a=some o)(pr:List (Value×List Int))(hpr:pr.map (·.1)=es.toList.map (·.2))(y:Ho prog w s.heap pr)(nd:(pr.map (·.2)).Nodup)
  (h: ∀(h':Heap) (tk D:Nat) (out:List Value) (c:Nat),s.heap.objs.size<=D->vh pr out->h'.get? D=some (df "list" out.toArray c)->(∀b ob,s.heap.get? b=some ob->h'.get? b=some ob)->Q (.ref D) {s with heap:=h',toks:=tk}):
  wpAny (model prog w) A (call (.builtin "sorted") [.ref a]) Q E s:=by
 refine u9 kind_sorted plain_sorted entry_sorted (args_sorted1 _) ?_
 unfold cG.«sorted»
 refine aa (m:=checkCount "sorted" 1 1 _) (af ?_)
 refine aa (wB (by simpa using hh) S hg fun h1 tk vs hsz hk hp=> ?_)
 have hlen:vs.length<=20:=by rw [hp.length_eq,ae,aj]; have:=S.kr; omega
 obtain⟨pr',hpp,hpm⟩:=nG (f:=fun q:Value×List Int=>q.1) (hpr▸hp)
 have nd':(pr'.map (·.2)).Nodup:=(hpp.map _).symm.nodup nd
 refine aa (wpAny_newList ?_ (by rw [fy]; omega))
 have hoL:(h1.push (df "list" vs.toArray 0)).get? h1.objs.size=some (df "list" vs.toArray 0):=au _ rfl
 have hk2: ∀b ob,s.heap.get? b=some ob->(h1.push (df "list" vs.toArray 0)).get? b=some ob:=fun b ob e=>ag _ (hk b ob e)
 have ltb: ∀b ob,s.heap.get? b=some ob->b≠h1.objs.size:=fun b ob e=>aM (Nat.lt_trans (ay e) hsz)
 show wpAny _ _ _ _ _ {s with heap:=h1.push (df "list" vs.toArray 0),toks:=tk}
 refine aa (bD (bF slot_list_sort ⟨_,hoL,rfl⟩ entry_list_sort ?body (args_list_sort _)))
 case body=>
  refine AZ (s:={s with heap:=h1.push (df "list" vs.toArray 0),toks:=tk}) (pr:=pr') (by show(h1.push (df "list" vs.toArray 0)).get? h1.objs.size=_; rw [hoL, <-hpm]) (by have:=congrArg jY hpm; rw [ae]at this; rw [fy]; omega) (fun q hq=> ?_) nd' fun h' out c hp2 hg2 hk3=> ?_
  ·obtain⟨b,e,hkk,hne⟩:=y q (hpp.mem_iff.mp hq)
   exact⟨b,e,hkk.keep fun ob z=>hk2 b ob z,hne⟩
  ·exact⟨_,rfl,af ⟨_,rfl,h h' tk h1.objs.size out c (jb hsz) (hp2.perm hpp) hg2 fun b ob e=>hk3 b ob (ltb b ob e) (hk2 b ob e)⟩⟩
end
end Z
namespace Z
open PySem PySem.Spec PyProof.Rows L2
abbrev tu(a b:Int×Int):Bool:=mV (u0 a) (u0 b)
def pZ(p:Int×Int):List (Int×Int)->List (Int×Int)
 | []=> [p]
 | q::r=>if tu p q then p::q::r else if p=q then q::r else q::pZ p r
def iu(ps:List (Int×Int)):List (Int×Int):=ps.foldr pZ []
theorem pW(p x:Int×Int): ∀l,x∈pZ p l↔x=p\/x∈l
 | []=>by simp [pZ]
 | q::r=>by
  unfold pZ
  split
  ·simp
  ·split
   ·rename_i e
    subst e
    simp
   ·rw [aN,pW p x r,aN]
    constructor
    ·rintro(h | h | h)
     ·exact .inr (.inl h)
     ·exact .inl h
     ·exact .inr (.inr h)
    ·rintro(h | h | h)
     ·exact .inr (.inl h)
     ·exact .inl h
     ·exact .inr (.inr h)
theorem qi(x:Int×Int): ∀ps,x∈iu ps↔x∈ps
 | []=>by simp [iu]
 | p::ps=>by
  show x∈pZ p (iu ps)↔_
  rw [pW,qi x ps,aN]
theorem zf{a b:Int×Int}(h:u0 a=u0 b):a=b:=by
 unfold u0 at h
 injection h with h1 h2
 injection h2 with h2 _
 exact Prod.ext h1 h2
theorem yY(p:Int×Int): ∀l:List (Int×Int),l.Pairwise (fun a b=>tu a b=true)->(pZ p l).Pairwise (fun a b=>tu a b=true)
 | [],_=>w_ _ _
 | q::r,h=>by
  unfold pZ
  have h1:=bT.mp h
  split
  ·rename_i e
   refine bT.mpr ⟨fun x hx=> ?_,h⟩
   rcases aN.mp hx with rfl | hx
   ·exact e
   ·exact yF e (h1.1 x hx)
  ·rename_i e
   split
   ·exact h
   ·rename_i ne
    refine bT.mpr ⟨fun x hx=> ?_,yY p r h1.2⟩
    rcases(pW p x r).mp hx with rfl | hx
    ·exact C7 (fun z=>ne (zf z)) (Bool.eq_false_iff.mpr e)
    ·exact h1.1 x hx
theorem yS: ∀ps:List (Int×Int),(iu ps).Pairwise (fun a b=>tu a b=true)
 | []=>eW
 | p::ps=>yY p _ (yS ps)
theorem pw_uniq: ∀{a b:List (Int×Int)},a.Pairwise (fun a b=>tu a b=true)->b.Pairwise (fun a b=>tu a b=true)->(∀x,x∈a↔x∈b)->a=b
 | [], [],_,_,_=>rfl
 | [],y::_,_,_,h=>by have:=(h y).mpr b8; cases this
 | x::_, [],_,_,h=>by have:=(h x).mp b8; cases this
 | x::a,y::b,ha,hb,h=>by
  have a1:=bT.mp ha
  have b1:=bT.mp hb
  have irr: ∀z:Int×Int,tu z z=true->False:=fun z hz=>by have:=B6 hz; rw [show mV (u0 z) (u0 z)=true from hz]at this; cases this
  have exy:x=y:=by
   rcases aN.mp ((h x).mp b8)with e | hx
   ·exact e
   ·rcases aN.mp ((h y).mpr b8)with e | hy
    ·exact e.symm
    ·exact(irr x (yF (a1.1 y hy) (b1.1 x hx))).elim
  subst exy
  rw [pw_uniq a1.2 b1.2 fun z=> ?_]
  constructor
  ·intro hz
   rcases aN.mp ((h z).mp (bX _ hz))with e | hz'
   ·subst e; exact(irr z (a1.1 z hz)).elim
   ·exact hz'
  ·intro hz
   rcases aN.mp ((h z).mpr (bX _ hz))with e | hz'
   ·subst e; exact(irr z (b1.1 z hz)).elim
   ·exact hz'
theorem zo{ps qs:List (Int×Int)}(h: ∀x,x∈qs↔x∈ps)(hp:qs.Pairwise (fun a b=>tu a b=true)):qs=iu ps:=pw_uniq hp (yS ps) fun x=>(h x).trans (qi x ps).symm
theorem BQ(ps:List (Int×Int)):(iu ps).length<=ps.length:=by
 have: ∀(p:Int×Int) l,(pZ p l).length<=l.length+1:=fun p l=>by
  induction l with
  | nil=>exact aw _
  | cons q r ih=>
   unfold pZ
   split
   ·simp
   ·split
    ·simp
    ·simp; omega
 induction ps with
 | nil=>exact aw _
 | cons p ps ih=>
  have:=this p (iu ps)
  show(pZ p (iu ps)).length<=_
  rw [aC]
  omega
def Bk(w:World)(l:Addr)(n:Nat)(val:Nat->Int×Int)(T:Nat->Addr):HO:= .ext fun h=> ∃o es ep t, ∃pr:List (Value×List Int),h.get? l=some o/\PF (!oJ w) o es ep t/\pr.map (·.1)=es.toList.map (·.2)/\(pr.map (·.2)).Nodup/\
 (∀x∈pr, ∃j,j < n/\x.1=ao (T j)/\x.2=u0 (val j))/\ ∀j,j < n-> ∃x∈pr,x.2=u0 (val j)
section
variable {X:Cx}{ρ:eG}{e:Expr}{pos p p2 p3 p4 p5:Pos}
theorem zQ(hc:X.calm=true)(hu:X.A.units+16 < cLine):gf X (.type "set") (fun xs H Q=> ∃(q:Addr) (M:MP) (ps:List (Int×Int)),xs= [.ref q]/\nc X.K M H (.lst (ps.map pairD)) (.ref q)/\ps.length<=4/\
  ∀l T,H l=none->(∀j p,ps[j]? =some p->i4 X.K H (T j) (qc p))->Q (.ref l) (upd H l (Bk X.w l ps.length (fun j=>ps.getD j (0,0)) T))):=by
 intro pins s σ H xs us Q I r ⟨q,M,ps,e,hq,hl,k⟩
 subst e
 obtain⟨u,rfl,rx⟩:=vals1 r
 cases rx
 obtain⟨q',ys,eq,sq,dn⟩:=hq
 cases eq
 obtain⟨T,hT⟩:=pairs_at dn
 obtain⟨bL,r',pl,hz⟩:=I.list sq
 have hlen:=r'.length
 have hdl:=dn.len
 rw [ae]at hdl
 have get: ∀j,j < ps.length->ps[j]? =some (ps.getD j (0,0)):=fun j h=>by rw [aF,ai h]; rfl
 have tk: ∀j,j < ps.length->TK X.prog X.w s.heap (u0 (ps.getD j (0,0))) (T j):=fun j h=>FG I (hT j _ (get j h)).2
 refine AV (n:=ps.length) (val:=fun j=>u0 (ps.getD j (0,0))) (T:=T) (I.ok.hd hc) hu pl.isList (by rw [ax]; omega) hl (fun i hi=> ?_) tk fun h' tkk hS hk=> ?_
 ·obtain⟨h1,_⟩:=hT i _ (get i hi)
  obtain⟨u,hu',ru⟩:=r'.get h1
  rw [show u=ao (T i)from ru]at hu'
  simpa using hu'
 ·obtain⟨o,es,ep,t,S,q1,q2,q3⟩:=hS
  obtain⟨kk,k1,k2,k3⟩:=S.nd
  have le:(es.toList.map (·.2)).length=kk.length:=by rw [ae,aj,k1]
  have key: ∀x∈(es.toList.map (·.2)).zip kk, ∃j,j < ps.length/\x.1=ao (T j)/\x.2=u0 (ps.getD j (0,0)):=fun x hx=>by
   obtain⟨i,hi,e1⟩:=fi hx
   have hi2:i < kk.length:=by rw [cb]at hi; omega
   have hk2:kk[i]? =some kk[i]:=ai hi2
   obtain⟨b,e2,e3⟩:=k3 i _ hk2
   obtain⟨j,hj,e4⟩:=q2 _ (by simpa using zi e2)
   have eb:b=T j:=by injection e4 with _ z; injection z
   subst eb
   have ek:kk[i]=u0 (ps.getD j (0,0)):=mM e3 ((tk j hj).keep fun o z=>hk _ o (ay z) z)
   rw [iK]at e1
   have ev:(es.toList.map (·.2))[i]'(by omega)=ao (T j):=by
    have:es.toList[i]? =some (jV X.prog X.w kk[i],ao (T j)):=by rw [bb]; exact e2
    rw [aR,(aA.mp this).2]
   refine⟨j,hj, ?_, ?_⟩
   ·rw [<-e1]; exact ev
   ·rw [<-e1]; exact ek
  refine⟨.ref s.heap.objs.size,_,I.laid (t':=tkk) (fun b o e=>hk b o (ay e) e) (aw _) (o:=Bk X.w s.heap.objs.size ps.length (fun j=>ps.getD j (0,0)) T) ⟨⟨o,es,ep,t,(es.toList.map (·.2)).zip kk,S.get,S.pf,List.map_fst_zip (lx le), ?_,key,fun j hj=> ?_⟩,⟨o,S.get⟩,fun h1 h2 ⟨o,es,ep,t,pr,x,r⟩ kk=>⟨o,es,ep,t,pr,kk o x,r⟩⟩,rfl,k _ T I.fresh (fun j p h=>(hT j p h).2)⟩
  ·rw [q8 (lx le.symm)]; exact k2
  ·obtain⟨j',hj',he,hv⟩:=q3 j hj
   obtain⟨i,hi,e1⟩:=fi he
   have hi2:i < kk.length:=by rw [aj]at hi; omega
   obtain⟨b,e2,e3⟩:=k3 i _ (ai hi2)
   have e4:es.toList[i]? =some (jV X.prog X.w (u0 (ps.getD j' (0,0))),ao (T j')):=by rw [ai hi,e1]
   rw [bb,e2]at e4
   have eb:b=T j':=by injection e4 with z; injection z with _ z; injection z
   subst eb
   have ek:kk[i]=u0 (ps.getD j' (0,0)):=mM e3 ((tk j' hj').keep fun o z=>hk _ o (ay z) z)
   refine⟨_,aQ (l:=(es.toList.map (·.2)).zip kk) (n:=i) (by rw [cb]; omega), ?_⟩
   rw [iK]
   exact ek.trans hv
theorem sZ(hc:X.calm=true):gf X (.builtin "sorted") (fun xs H Q=> ∃(q:Addr) (n:Nat) (val:Nat->Int×Int) (T:Nat->Addr),xs= [.ref q]/\H q=some (Bk X.w q n val T)/\(∀j,j < n->i4 X.K H (T j) (qc (val j)))/\
  ∀(l:Addr) (js:List Nat),H l=none->js.length<=4->(∀j∈js,j < n)->(∀j,j < n-> ∃j'∈js,val j'=val j)->js.Pairwise (fun a b=>tu (val a) (val b)=true)->Q (.ref l) (upd H l (.lst (js.map fun j=>V.ref (T j))))):=by
 intro pins s σ H xs us Q I r ⟨q,n,val,T,e,hq,hT,k⟩
 subst e
 obtain⟨u,rfl,rx⟩:=vals1 r
 cases rx
 obtain⟨⟨o,es,ep,t,pr,hg,S,hpr,nd,q2,q3⟩,_⟩:=I.dR q _ hq
 refine vr (I.ok.hd hc) S hg pr hpr (fun x hx=> ?_) nd fun h' tk D out c hD hso hg2 hk=> ?_
 ·obtain⟨j,hj,e1,e2⟩:=q2 x hx
  exact⟨_,e1,by rw [e2]; exact FG I (hT j hj),by rw [e2]; rfl⟩
 ·obtain⟨qq,hp,hout,hpw⟩:=hso
  have hlen:qq.length<=4:=by
   rw [hp.length_eq]
   have this:pr.length=es.size:=by simpa using congrArg jY hpr
   rw [this]; exact S.kr
  obtain⟨js,j1,j2,j3⟩: ∃js:List Nat,(∀j∈js,j < n)/\qq=js.map (fun j=>(ao (T j),u0 (val j)))/\True:=by
   have hall: ∀x∈qq, ∃j,j < n/\x=(ao (T j),u0 (val j)):=fun x hx=>by
    obtain⟨j,hj,e1,e2⟩:=q2 x (hp.mem_iff.mp hx)
    exact⟨j,hj,Prod.ext e1 e2⟩
   clear hp hout hpw hlen
   induction qq with
   | nil=>exact⟨[],(fun j hj=>by cases hj),rfl,trivial⟩
   | cons x qq ih=>
    obtain⟨j,hj,rfl⟩:=hall x (.head _)
    obtain⟨js,a1,a2,_⟩:=ih fun x hx=>hall x (.tail _ hx)
    refine⟨j::js,fun i hi=> ?_,by rw [aW, <-a2],trivial⟩
    rcases aN.mp hi with rfl | hi
    ·exact hj
    ·exact a1 i hi
  subst j2
  rw [ae]at hlen
  rw [j6]at hpw
  rw [ie]at hout
  subst hout
  have hval: ∀l:List Nat,Vals (l.map fun j=>V.ref (T j)) (l.map fun j=>ao (T j)):=fun l=>by
   induction l with
   | nil=>exact .nil
   | cons a l ih=>exact .cons rfl ih
  refine⟨.ref D,_,I.laid (t':=tk) hk hD (o:= .lst (js.map fun j=>V.ref (T j))) ⟨by rw [ae]; exact ji (by omega),_,c,hval js,hg2⟩,rfl,k D js (I.dR.fresh hD) hlen j1 (fun j hj=> ?_) hpw⟩
  obtain⟨x,hx,e1⟩:=q3 j hj
  obtain⟨j',hj',rfl⟩:=aX.mp (hp.mem_iff.mpr hx)
  exact⟨j',hj',zf e1⟩
theorem vJ{K:Frag}{M:MP}{H:Hp}{val:Nat->Int×Int}{T:Nat->Addr}: ∀(js:List Nat),(∀j∈js,i4 K H (T j) (qc (val j)))->cw K M H ((js.map val).map pairD) (js.map fun j=>V.ref (T j))
 | [],_=>rfl
 | j::js,h=>⟨.ref (T j),_,rfl,⟨T j,qc (val j),rfl,h j (.head _),_,_,rfl,rfl,_,_,rfl,rfl,rfl⟩,vJ js fun i hi=>h i (.tail _ hi)⟩
theorem ff.sortedSet{ps:List (Int×Int)}(hc:X.calm=true)(hu:X.A.units+16 < cLine)(hg2:Gl X "sorted")(hm2:X.mg "sorted"=none)(hg3:Gl X "set")(hm3:X.mg "set"=none)(h:ky X ρ e (.lst (ps.map pairD)))(hl:ps.length<=4)
  (he:aq [e] X.env= [(false,eval e X.env)]:=by rfl)(he2:aq [.Call (.Name "set" p4) [e] [] p5] X.env= [(false,eval (.Call (.Name "set" p4) [e] [] p5) X.env)]:=by rfl):
  ff X ρ (.Call (.Name "sorted" p2) [.Call (.Name "set" p4) [e] [] p5] [] p3) ((iu ps).map pairD):=fun M0 H0 γ α σ H Q R k=>
 (gL (sZ hc) hg2 hm2 (by decide +kernel) (eJ (lH (zQ hc hu) hg3 hm3 (by decide +kernel) (eJ f7 gP he) (by decide) (by decide) he) gP he2) (by decide) (by decide) he2).to
  (h M0 H0 γ α σ H _ R fun v H1 s1 d1=>by
   obtain⟨q,xs,e1,sq,dn⟩:=id d1
   subst e1
   have get: ∀j,j < ps.length->ps[j]? =some (ps.getD j (0,0)):=fun j h=>by rw [aF,ai h]; rfl
   refine⟨q,_,ps,rfl,d1,hl,fun l T hl1 hT=>⟨l,_,_,T,rfl,bC,fun j hj=>mT.tup (nB (M:=Hi) (bB hl1)) (hT j _ (get j hj)),fun l2 js hl2 hlen hin hcov hpw=> ?_⟩⟩
   have eq:js.map (fun j=>ps.getD j (0,0))=iu ps:=by
    refine zo (fun x=> ?_) (by rw [j6]; exact hpw)
    constructor
    ·intro hx
     obtain⟨j,hj,rfl⟩:=aX.mp hx
     exact aP (get j (hin j hj))
    ·intro hx
     obtain⟨j,hj,e1⟩:=fi hx
     obtain⟨j',hj',e2⟩:=hcov j hj
     refine aX.mpr ⟨j',hj', ?_⟩
     rw [e2,aF,ai hj]
     exact e1
   refine k l2 _ _ _ (s1.trans (bB hl1)) hl2 (bB hl2) bC ?_
   rw [<-eq]
   exact vJ js fun j hj=>mT.tup (nB (M:=Hi) (bB hl2)) (mT.tup (nB (M:=Hi) (bB hl1)) (hT j _ (get j (hin j hj)))))
theorem av.sortedSetT{ps:List (Int×Int)}(hc:X.calm=true)(hu:X.A.units+16 < cLine)(hg1:Gl X "tuple")(hm1:X.mg "tuple"=none)(hg2:Gl X "sorted")(hm2:X.mg "sorted"=none)(hg3:Gl X "set")(hm3:X.mg "set"=none)(h:ky X ρ e (.lst (ps.map pairD)))(hl:ps.length<=4)
  (he:aq [e] X.env= [(false,eval e X.env)]:=by rfl)(he2:aq [.Call (.Name "set" p4) [e] [] p5] X.env= [(false,eval (.Call (.Name "set" p4) [e] [] p5) X.env)]:=by rfl)
  (he3:aq [.Call (.Name "sorted" p2) [.Call (.Name "set" p4) [e] [] p5] [] p3] X.env= [(false,eval (.Call (.Name "sorted" p2) [.Call (.Name "set" p4) [e] [] p5] [] p3) X.env)]:=by rfl):
  av X ρ (.Call (.Name "tuple" p) [.Call (.Name "sorted" p2) [.Call (.Name "set" p4) [e] [] p5] [] p3] [] pos) (.tup ((iu ps).map pairD)):=av.tupleL hg1 hm1 (av.r (ff.toD (ff.sortedSet hc hu hg2 hm2 hg3 hm3 h hl he he2))) he3
end
end Z
namespace Z
open PySem PySem.Spec PyProof.Rows
end Z
namespace Z
open PySem PySem.Spec PyProof.Rows L2
theorem qx{scope:Scope}{env:Env}{y1 y2:Str}{c1 c2:Addr}{pre mid post:List (Str×iR)}(hs:scope.names=pre ++ (y1, .free)::(mid ++ (y2, .free)::post))(h1: ∀z∈pre,z.2≠ .free)(h2: ∀z∈mid,z.2≠ .free)(h3: ∀z∈post,z.2≠ .free)(hc1:env.cells.lookup y1=some c1)(hc2:env.cells.lookup y2=some c2):uU scope env=pure [(y2,c2),(y1,c1)]:=by
 have step: ∀(y:Str) (c:Addr) (acc:List (Str×Addr)),env.cells.lookup y=some c->iD env (y, .free) acc=pure (gH ((y,c)::acc)):=fun y c acc hc=>by
  have e:cellOf env y=pure c:=by unfold cellOf; rw [hc]
  unfold iD
  simp only [beq_self_eq_true,if_true,e,qY]
 have all:forIn scope.names ([]:List (Str×Addr)) (iD env)=pure [(y2,c2),(y1,c1)]:=by
  rw [hs,lT pre _ [] h1,cP,step y1 c1 [] hc1]
  simp only [qY]
  rw [lT mid _ _ h2,cP,step y2 c2 _ hc2]
  simp only [qY]
  have:=lT (env:=env) post [] [(y2,c2),(y1,c1)] h3
  rw [bj]at this
  rw [this]
  rfl
 have e3:uU scope env=(forIn scope.names ([]:List (Str×Addr)) (iD env) >>=fun r=>pure r):=rfl
 rw [e3,all]
 rfl
theorem dW.cap2{X:Cx}{scope:Scope}{x y1 y2:Str}{c1 c2:Addr}{j1 j2:Nat}{pre mid post rn:List (Str×iR)}(hs:scope.names=pre ++ (y1, .free)::(mid ++ (y2, .free)::post))(h1: ∀z∈pre,z.2≠ .free)(h2: ∀z∈mid,z.2≠ .free)(h3: ∀z∈post,z.2≠ .free)(hcl1:X.env.cells.lookup y1=some c1)(hcl2:X.env.cells.lookup y2=some c2)(hne:(y1==y2)=false)
  (hc: ∀z∈scope.names,z.2≠ .cell)(hk:scope.kind= .function)(hn: ∀y∈scope.names,y.2= .local->scope.names.lookup y.1=some .local)(ho:scope.names.lookup x=some .local)(hj1:X.N[j1]? =some y1)(hj2:X.N[j2]? =some y2)(hy1:X.env.scope.names.lookup y1=some .cell)(hy2:X.env.scope.names.lookup y2=some .cell)
  (hrel:(oV scope X.env).names=rn)(hrn1:rn.lookup y1=some .cell)(hrn2:rn.lookup y2=some .cell)(hall: ∀z∈rn,(z.2= .cell\/z.2= .free)->z.1=y1\/z.1=y2):dW X [x,y1,y2] [j1,j2] scope x [(y2,c2),(y1,c1)] where
 BC:=qx hs h1 h2 h3 hcl1 hcl2
 cell:=hc
 kind:=hk
 names:=hn
 own:=ho
 hN:=⟨[y1,y2],rfl,rfl,fun i z k e1 e2=>by
  match i,e1,e2 with
  | 0,e1,e2=>
   have e1':y1=z:=by simpa using e1
   have e2':j1=k:=by simpa using e2
   subst e1' e2'
   refine⟨hj1,hy1,by rw [hrel]; exact hrn1,fun c' e=> ?_⟩
   rw [hcl1]at e
   cases e
   rw [gq,hne]
   simp
  | 1,e1,e2=>
   have e1':y2=z:=by simpa using e1
   have e2':j2=k:=by simpa using e2
   subst e1' e2'
   refine⟨hj2,hy2,by rw [hrel]; exact hrn2,fun c' e=> ?_⟩
   rw [hcl2]at e
   cases e
   simp
  | i+2,e1,_=>simp at e1⟩
 sub:=fun z d h=>by
  rw [gq]at h
  cases hb:z==y2 with
  | true=>
   rw [hb]at h
   cases h
   rw [beq_iff_eq.mp hb]
   exact hcl2
  | false=>
   rw [hb]at h
   dsimp only at h
   rw [gq]at h
   cases hb1:z==y1 with
   | true=>
    rw [hb1]at h
    cases h
    rw [beq_iff_eq.mp hb1]
    exact hcl1
   | false=>rw [hb1]at h; simp at h
 has:=fun z h=>by
  rw [hrel]at h
  have:z=y1\/z=y2:=by
   rcases h with h | h
   ·exact hall _ (cq h) (.inl rfl)
   ·exact hall _ (cq h) (.inr rfl)
  rcases this with rfl | rfl
  ·exact⟨c1,by rw [gq,hne]; simp⟩
  ·exact⟨c2,by simp⟩
theorem HN{ρ:eG}{j1 j2:Nat}{d1 d2:D}(h1:ρ[j1]? =some (.im d1))(h2:ρ[j2]? =some (.im d2)):xn ρ [j1,j2] [d1,d2]:=⟨rfl,fun k i d e1 e2=>by
 match k,e1,e2 with
 | 0,e1,e2=>
  have e1':j1=i:=by simpa using e1
  have e2':d1=d:=by simpa using e2
  subst e1' e2'
  exact h1
 | 1,e1,e2=>
  have e1':j2=i:=by simpa using e1
  have e2':d2=d:=by simpa using e2
  subst e1' e2'
  exact h2
 | k+2,e1,_=>simp at e1⟩
end Z
namespace K
open PySem L2 Z
def FN:List Str:= ["stack_count","most_crates","crane_strength","banned_pairs"]
abbrev eY:=List (Int×Int)
def pQ(f:c8)(qs:eY):List D:= [.int f.st, .int f.ht, .int f.lf, .tup (qs.map pD)]
def iL(C:Addr)(f:c8)(qs:eY):D:= .ins C FN (pQ f qs)
structure Gn(K:Frag)(C:Addr):Prop where
 cl:xt K C
 n1:gY K C "stack_count"
 n2:gY K C "most_crates"
 n3:gY K C "crane_strength"
 n4:gY K C "banned_pairs"
structure p8(f:c8):Prop where
 st:2<=f.st/\f.st<=4
 ht:1<=f.ht/\f.ht<=6
 lf:1<=f.lf/\f.lf<=3
 kr:f.fA.length<=4
 ok:f.fA.all ni=true
section
variable {P:ar}{w:World}{K:Frag}{mg:Str->Option Value}{base:Heap}{CX:fJ}{C:Addr}
abbrev yp(P:ar)(w:World)(K:Frag)(mg:Str->Option Value)(base:Heap)(CX:fJ)(C:Addr):Prop:=
 Hn P w K mg base CX 1 C "stacks" (fun i:c8×eY=> [iL C i.1 i.2]) (fun _=>True) (fun i=> .ok (.int i.1.st))
abbrev yZ(P:ar)(w:World)(K:Frag)(mg:Str->Option Value)(base:Heap)(CX:fJ)(C:Addr):Prop:=
 Hn P w K mg base CX 1 C "height" (fun i:c8×eY=> [iL C i.1 i.2]) (fun _=>True) (fun i=> .ok (.int i.1.ht))
abbrev FH(P:ar)(w:World)(K:Frag)(mg:Str->Option Value)(base:Heap)(CX:fJ)(C:Addr):Prop:=
 Hn P w K mg base CX 1 C "lift" (fun i:c8×eY=> [iL C i.1 i.2]) (fun _=>True) (fun i=> .ok (.int i.1.lf))
abbrev Fp(P:ar)(w:World)(K:Frag)(mg:Str->Option Value)(base:Heap)(CX:fJ)(C:Addr):Prop:=
 Hn P w K mg base CX 1 C "bans" (fun i:c8×eY=> [iL C i.1 i.2]) (fun _=>True) (fun i=> .ok (.lst (i.2.map pD)))
theorem JD:bN ["self"] ["self"] (aJ (AF 1)):=⟨rfl,rfl,rfl,by decide +kernel,rfl,by decide +kernel,by decide +kernel⟩
theorem Ju:bN ["self"] ["self"] (aJ (AF 2)):=⟨rfl,rfl,rfl,by decide +kernel,rfl,by decide +kernel,by decide +kernel⟩
theorem JE:bN ["self"] ["self"] (aJ (AF 3)):=⟨rfl,rfl,rfl,by decide +kernel,rfl,by decide +kernel,by decide +kernel⟩
theorem IV:bN ["self"] ["self"] (aJ (AF 4)):=⟨rfl,rfl,rfl,by decide +kernel,rfl,by decide +kernel,by decide +kernel⟩
theorem IT(f:c8)(qs:eY):j8 FN (pQ f qs) "stack_count"=some (.int f.st):=rfl
theorem JK(f:c8)(qs:eY):j8 FN (pQ f qs) "most_crates"=some (.int f.ht):=by
 unfold FN pQ
 rw [j8,if_neg (by decide +kernel),j8,if_pos (by decide +kernel)]
theorem Js(f:c8)(qs:eY):j8 FN (pQ f qs) "crane_strength"=some (.int f.lf):=by
 unfold FN pQ
 rw [j8,if_neg (by decide +kernel),j8,if_neg (by decide +kernel),j8,if_pos (by decide +kernel)]
theorem JP(f:c8)(qs:eY):j8 FN (pQ f qs) "banned_pairs"=some (.tup (qs.map pD)):=by
 unfold FN pQ
 rw [j8,if_neg (by decide +kernel),j8,if_neg (by decide +kernel),j8,if_neg (by decide +kernel),j8,if_pos (by decide +kernel)]
theorem zm{f:Addr}{fd:aV}(T:Gn K C)(F:iY K "stacks" "Floor.stacks" (AF 1) f fd)(hm:Meth K C "stacks" f)(hb:Binds K fd ["self"] []):yp P w K mg base CX C:=
 s9 F JD hm hb (fun i=>rfl) fun cdv A outer s H E i M0 hp hr=>⟨_,rfl,WS.one (W1.ret (av.fld T.cl T.n1 (nm 0 rfl rfl) (IT i.1 i.2)) rfl)⟩
theorem zl{f:Addr}{fd:aV}(T:Gn K C)(F:iY K "height" "Floor.height" (AF 2) f fd)(hm:Meth K C "height" f)(hb:Binds K fd ["self"] []):yZ P w K mg base CX C:=
 s9 F Ju hm hb (fun i=>rfl) fun cdv A outer s H E i M0 hp hr=>⟨_,rfl,WS.one (W1.ret (av.fld T.cl T.n2 (nm 0 rfl rfl) (JK i.1 i.2)) rfl)⟩
theorem EE{f:Addr}{fd:aV}(T:Gn K C)(F:iY K "lift" "Floor.lift" (AF 3) f fd)(hm:Meth K C "lift" f)(hb:Binds K fd ["self"] []):FH P w K mg base CX C:=
 s9 F JE hm hb (fun i=>rfl) fun cdv A outer s H E i M0 hp hr=>⟨_,rfl,WS.one (W1.ret (av.fld T.cl T.n3 (nm 0 rfl rfl) (Js i.1 i.2)) rfl)⟩
theorem Ew{f:Addr}{fd:aV}(B:Bm mg)(T:Gn K C)(F:iY K "bans" "Floor.bans" (AF 4) f fd)(hm:Meth K C "bans" f)(hb:Binds K fd ["self"] []):Fp P w K mg base CX C:=
 s9 F IV hm hb (fun i=>rfl) fun cdv A outer s H E i M0 hp hr=>⟨_,rfl,WS.one (W1.ret (ff.toD (ff.listT rfl B.list (av.fld T.cl T.n4 (nm 0 rfl rfl) (JP i.1 i.2)))) rfl)⟩
theorem GH:bN ["self","stacks","height","lift","bans"] ["self","stacks","height","lift","bans"] (aJ wH):=⟨rfl,rfl,rfl,by decide +kernel,rfl,by decide +kernel,by decide +kernel⟩
abbrev A5(P:ar)(w:World)(K:Frag)(mg:Str->Option Value)(base:Heap)(CX:fJ)(C:Addr):Prop:=
 IW P w K mg base CX 5 "Floor" C FN (fun f:c8=> [.int f.st, .int f.ht, .int f.lf, .lst (f.fA.map pD)]) p8 (fun f ds=> ∃qs:eY,ds=pQ f qs/\qs=iu f.fA)
theorem AL{K:Frag}{M0:MP}{H H1 H':Hp}{γ:List (D×V)}{α:Nat->Addr}{ρ:eG}{σ:St}(r:Rep K M0 H γ α ρ σ H')(hM: ∀a,M0 a->H1 a≠none)(s:bI H1 H)(nomu: ∀(i:Nat) (ds:List D),ρ[i]? ≠some (.mu ds)):Rep K M0 H1 γ α ρ σ H':=
 ⟨s.trans r.same,hM,r.inj,r.im,fun i ds e=>absurd e (nomu i ds),r.gh,r.len⟩
theorem IA(a b c d:V):fz "banned_pairs" d (fz "crane_strength" c (fz "most_crates" b (fz "stack_count" a [])))=([("stack_count",a),("most_crates",b),("crane_strength",c),("banned_pairs",d)]:List (Str×V)):=by
 have n1:("stack_count":Str)≠"most_crates":=by decide +kernel
 have n2:("stack_count":Str)≠"crane_strength":=by decide +kernel
 have n3:("most_crates":Str)≠"crane_strength":=by decide +kernel
 have n4:("stack_count":Str)≠"banned_pairs":=by decide +kernel
 have n5:("most_crates":Str)≠"banned_pairs":=by decide +kernel
 have n6:("crane_strength":Str)≠"banned_pairs":=by decide +kernel
 simp only [fz,n1,n2,n3,n4,n5,n6,if_false]
theorem yM(n:Nat)(ps:eY): ∀d∈ps.map pD,D.noI (n+1) d:=fun d hd=>by
 obtain⟨p,_,rfl⟩:=aX.mp hd
 intro e he
 have:e= .int p.1\/e= .int p.2:=by simpa [pD]using he
 rcases this with rfl | rfl <;> (cases n <;> exact ck)
theorem EW{f:Addr}{fd:aV}(nx:NX CX)(B:Bm mg)(T:Gn K C)(G1:lV P w K mg base CX)(G2:pP P w K mg base CX)(F:iY K "__init__" "Floor.__init__" wH f fd)(M:Mk K C f)(hm:mg "Floor"=some (.ref C))(hb:Binds K fd ["self","stacks","height","lift","bans"] []):A5 P w K mg base CX C:=by
 refine⟨f,fd,_, ?_,M,hm,hb⟩
 obtain⟨oc,od,kV,doc,pm,an,cdv,ct,osl,rfl,lk,hcd⟩:=F.ex
 refine vx lk hcd GH (fun vs H Q E ⟨i,M0,x,dx,us,e,_,_,h,_⟩=>by subst e; rw [aC,h.len]; rfl) fun A outer s H vs Q E hr hsp=> ?_
 obtain⟨fl,M0,x,dx,us,rfl,hx,hM,hd,hp,kk⟩:=hsp
 refine⟨kB _ (bx wH),(fg (X:=(kW CX P w K mg base ["self","stacks","height","lift","bans"] "Floor.__init__" (aJ wH) f cdv A outer s H E).nox)).nox, ?_⟩
 obtain⟨⟨s2,s4⟩,⟨h1,h6⟩,⟨l1,l3⟩,hfew,dR⟩:=hp
 have hM': ∀a,M0 a->H a≠none:=fun a ha z=>hM a ha (cT.free z)
 have R1:Rep K M0 H [] (fun _=>0) (ql ["self","stacks","height","lift","bans"] (.ins C [] []:: [.int fl.st, .int fl.ht, .int fl.lf, .lst (fl.fA.map pD)])) (L2.start ["self","stacks","height","lift","bans"] (.ref x::us)) H:=
  rep0 hM' ⟨_,_,rfl,⟨x,dx, [],rfl,hx,rfl,rfl⟩,hd⟩
 have R2:=AL (R1.drop1 (i:=0)) hM cT (fun i ds e=>by
  have:i < 5:=(aA.mp e).1
  match i,this with
  | 0,_=>cases e
  | 1,_=>cases e
  | 2,_=>cases e
  | 3,_=>cases e
  | 4,_=>cases e)
 have hσ:(L2.start ["self","stacks","height","lift","bans"] (.ref x::us))[0]? =some (some (.ref x)):=rfl
 generalize L2.start ["self","stacks","height","lift","bans"] (.ref x::us)=σ at R2 hσ ⊢
 change Rep K M0 (dC H x) [] (fun _=>0) [.un, .im (.int fl.st), .im (.int fl.ht), .im (.int fl.lf), .im (.lst (fl.fA.map pD))] σ H at R2
 have hi: ∀sl∈([.un, .im (.int fl.st), .im (.int fl.ht), .im (.int fl.lf), .im (.lst (fl.fA.map pD))]:eG),sl= .un\/ ∃d,sl= .im d/\D.noI 9 d:=fun sl hs=>by
  have:sl= .un\/sl= .im (.int fl.st)\/sl= .im (.int fl.ht)\/sl= .im (.int fl.lf)\/sl= .im (.lst (fl.fA.map pD)):=by simpa using hs
  rcases this with rfl | rfl | rfl | rfl | rfl
  ·exact .inl rfl
  ·exact .inr ⟨_,rfl,trivial⟩
  ·exact .inr ⟨_,rfl,trivial⟩
  ·exact .inr ⟨_,rfl,trivial⟩
  ·exact .inr ⟨_,rfl,yM 7 _⟩
 refine(cE oE fg).to (ub (ρ:= [.un, .im (.int fl.st), .im (.int fl.ht), .im (.int fl.lf), .im (.lst (fl.fA.map pD))]) (cB.to (cB.not (cB.val (av.call G1 (hr.mono (by decide)) (bw nx) rfl (fl.st,2,4) (bz.cons (nm 1 rfl rfl) (bz.cons (pR B.kr rfl) (bz.cons (pR B.most rfl) bz.nil))) trivial rfl))) (by rw [decide_eq_true s2,decide_eq_true s4]; rfl)) R2 fun H1 t1=> ?_)
 have R3:=R2.next t1
 refine(cE oE fg).to (ub (ρ:= [.un, .im (.int fl.st), .im (.int fl.ht), .im (.int fl.lf), .im (.lst (fl.fA.map pD))]) (cB.to (cB.not (cB.val (av.call G1 (hr.mono (by decide)) (bw nx) rfl (fl.ht,1,6) (bz.cons (nm 2 rfl rfl) (bz.cons (pR B.low rfl) (bz.cons (pR B.great rfl) bz.nil))) trivial rfl))) (by rw [decide_eq_true h1,decide_eq_true h6]; rfl)) R3 fun H2 t2=> ?_)
 have R4:=R3.next t2
 refine(cE oE fg).to (ub (ρ:= [.un, .im (.int fl.st), .im (.int fl.ht), .im (.int fl.lf), .im (.lst (fl.fA.map pD))]) (cB.to (cB.not (cB.val (av.call G1 (hr.mono (by decide)) (bw nx) rfl (fl.lf,1,3) (bz.cons (nm 3 rfl rfl) (bz.cons (pR B.weak rfl) (bz.cons (pR B.CB rfl) bz.nil))) trivial rfl))) (by rw [decide_eq_true l1,decide_eq_true l3]; rfl)) R4 fun H3 t3=> ?_)
 have R5:=R4.next t3
 refine(cE oE fg).to (ub (ρ:= [.un, .im (.int fl.st), .im (.int fl.ht), .im (.int fl.lf), .im (.lst (fl.fA.map pD))]) (cB.to (cB.not (cB.val (av.call G2 hr (bw nx) rfl fl.fA (bz.cons (nm 4 rfl rfl) bz.nil) (show fl.fA.length<=100 by omega) rfl))) (by rw [dR,decide_eq_true (show fl.fA.length<=20 by omega)]; rfl)) R5 fun H4 t4=> ?_)
 have R6:=R5.next t4
 have x4:H4 x=some (.ins C dx []):=t4 _ _ (t3 _ _ (t2 _ _ (t1 _ _ hx)))
 refine(cE oE fg).to (xZ 0 rfl (.inl rfl) hσ T.cl T.n1 (by decide) (nm 1 rfl rfl) R6 x4 fun v1 H5 t5 d5=> ?_)
 cases (show v1=V.int fl.st from d5)
 have x5:=t5 _ _ x4
 have R7:=(R6.next t5).ins (fs':=fz "stack_count" (V.int fl.st) []) nq x5 hi
 refine(cE oE fg).to (xZ 0 rfl (.inl rfl) hσ T.cl T.n2 (by show 1 < 1000; decide) (nm 2 rfl rfl) R7 bC fun v2 H6 t6 d6=> ?_)
 cases (show v2=V.int fl.ht from d6)
 have x6:=t6 _ _ bC
 have R8:=(R7.next t6).ins (fs':=fz "most_crates" (V.int fl.ht) (fz "stack_count" (V.int fl.st) [])) nq x6 hi
 refine(cE oE fg).to (xZ 0 rfl (.inl rfl) hσ T.cl T.n3 (jy (iy _ _ _) (by show 2 < 1000; decide)) (nm 3 rfl rfl) R8 bC fun v3 H7 t7 d7=> ?_)
 cases (show v3=V.int fl.lf from d7)
 have x7:=t7 _ _ bC
 have R9:=(R8.next t7).ins (fs':=fz "crane_strength" (V.int fl.lf) (fz "most_crates" (V.int fl.ht) (fz "stack_count" (V.int fl.st) []))) nq x7 hi
 refine(ng oE).to (DN 0 rfl (.inl rfl) hσ T.cl T.n4 (jy (iy _ _ _) (jy (Nat.succ_le_succ (iy _ _ _)) (by show 3 < 1000; decide))) (av.toP (R:=fun d=> ∃qs:eY,d= .tup (qs.map pairD)/\qs=iu fl.fA) (av.sortedSetT (ps:=fl.fA) rfl (jy (Nat.add_le_add_left (by decide:16<=16 * 4+200) _) (by have:=hr.un; rw [kq]at this; exact this)) rfl B.tuple rfl B.sorted rfl B.set (av.r (nm 4 rfl rfl)) hfew) ⟨_,rfl,rfl⟩) R9 bC fun d4 v4 H8 hd4 t8 d8=> ?_)
 obtain⟨qs,rfl,hq⟩:=hd4
 have x8:=t8 _ _ bC
 have R10:=(R9.next t8).ins (fs':=fz "banned_pairs" v4 (fz "crane_strength" (V.int fl.lf) (fz "most_crates" (V.int fl.ht) (fz "stack_count" (V.int fl.st) [])))) nq x8 hi
 have d9:Dn K M0 (upd H8 x (.ins C dx (fz "banned_pairs" v4 (fz "crane_strength" (V.int fl.lf) (fz "most_crates" (V.int fl.ht) (fz "stack_count" (V.int fl.st) [])))))) (.tup (qs.map pD)) v4:=Dn.noI (Ck x8) 9 (yM 7 qs) (d8.less fun a ha=> .inl ha)
 refine kk (pQ fl qs) [("stack_count", .int fl.st),("most_crates", .int fl.ht),("crane_strength", .int fl.lf),("banned_pairs",v4)] _ ⟨qs,rfl,hq⟩ R10.same (by rw [bC,IA]) rfl ⟨_,_,rfl,rfl,_,_,rfl,rfl,_,_,rfl,rfl,_,_,rfl,d9,rfl⟩
end
theorem DK(n d:Nat):HT.fF n d (some 1)=min 1 n:=by
 unfold HT.fF
 simp
theorem EL(ds:List D):cutD ds (some 1) none=ds.drop 1:=by
 unfold cutD
 rw [DK]
 cases ds with
 | nil=>rfl
 | cons a l=>
  have e:min 1 (a::l).length=1:=by simp
  rw [e]
  show((a::l).drop 1).take ((a::l).length - 1)=_
  rw [c0 (by simp)]
def FA(f:c8)(r:List Int):Bool:= !((r.drop 1).zip r).any fun p=>decide (p∈f.fA)
theorem A4(f:c8)(r:List Int):ip f r=(decide ((r.length:Int)<=f.ht)&&(r.all iO&&FA f r)):=by
 unfold ip
 congr 1
 rw [lX]
 simp only [cD,g8,bq,FA,fN,List.any_eq_false,decide_eq_true_eq]
 have gd: ∀k (h:k < r.length),r.getD k 0=r[k]:=fun k h=>by rw [aF,ai h]; rfl
 constructor
 ·intro h
  refine⟨fun x hx=> ?_,fun p hp hm=> ?_⟩
  ·obtain⟨k,hk,rfl⟩:=fi hx
   have:=h k hk
   unfold uL at this
   rw [gd k hk,bq]at this
   exact this.1
  ·obtain⟨k,hk,e⟩:=fi hp
   rw [cb,aZ]at hk
   have hk1:k+1 < r.length:=by omega
   have h1:=h (k+1) hk1
   unfold uL at h1
   rw [gd _ hk1,show k+1 - 1=k from rfl,gd k (by omega)]at h1
   rw [iK,c6]at e
   have e':(r[k+1],r[k])=p:=by
    rw [<-e]
    congr 2
    omega
   rw [e']at h1
   simp [hm]at h1
 ·rintro⟨h1,h2⟩ k hk
  unfold uL
  rw [gd k hk,bq]
  refine⟨h1 _ (aQ hk), ?_⟩
  rw [fN,iC]
  by_cases h0:0 < k
  ·refine .inr (decide_eq_false ?_)
   rw [gd (k - 1) (by omega)]
   refine h2 _ ?_
   have hl:k - 1 < ((r.drop 1).zip r).length:=by rw [cb,aZ]; omega
   have e:((r.drop 1).zip r)[k - 1]=(r[k],r[k - 1]):=by
    rw [iK,c6]
    congr 2
    omega
   rw [<-e]
   exact aQ hl
  ·exact .inl (decide_eq_false h0)
structure gw(f:c8)(qs:eY):Prop where
 ok:p8 f
 kr:qs.length<=4
 mem: ∀q,q∈qs↔q∈f.fA
section
variable {P:ar}{w:World}{K:Frag}{mg:Str->Option Value}{base:Heap}{CX:fJ}{C:Addr}
structure Fl(P:ar)(w:World)(K:Frag)(mg:Str->Option Value)(base:Heap)(CX:fJ)(C:Addr):Prop where
 t:Gn K C
 st:yp P w K mg base CX C
 ht:yZ P w K mg base CX C
 lf:FH P w K mg base CX C
 bs:Fp P w K mg base CX C
theorem oy:bN ["floor","stack","bans"] ["floor","stack"] (aJ ke):=⟨rfl,rfl,rfl,by decide +kernel,rfl,by decide +kernel,by decide +kernel⟩
abbrev mj(P:ar)(w:World)(K:Frag)(mg:Str->Option Value)(base:Heap)(CX:fJ)(C:Addr):Prop:=
 jQ P w K mg base CX 3 "is_good_stack" (fun i:c8×eY×List Int=> [iL C i.1 i.2.1,vo true (i.2.2.map .int)]) (fun i=>gw i.1 i.2.1/\i.2.2.length<=1000) (fun i=> .ok (.bl (ip i.1 i.2.2)))
theorem zL(as bs:List Int):Bg (as.map .int) (bs.map .int)=(as.zip bs).map pD:=by
 unfold Bg
 rw [List.zip_map,ie]
 rfl
theorem ue{f:Addr}{fd:aV}(nx:NX CX)(B:Bm mg)(L:Fl P w K mg base CX C)(G:sW P w K mg base CX)(F:iY K "is_good_stack" "is_good_stack" ke f fd)(hm:mg "is_good_stack"=some (.ref f))(hb:Binds K fd ["floor","stack"] []):mj P w K mg base CX C:=by
 refine eN F oy hm hb (fun i=>rfl) fun cdv A outer s H E i M0 hp hr=>⟨_,rfl, ?_⟩
 obtain⟨fl,qs,r⟩:=i
 obtain⟨hS,hlen⟩:gw fl qs/\r.length<=1000:=hp
 have px:=oy.nd
 have hr1:=hr.mono (show 1<=2 by decide)
 change WS _ M0 H (bx ke) [.im (iL C fl qs), .im (.tup (r.map .int)), .un] _
 rw [A4]
 refine WS.cons (W1.ite (fk.t (fk.or (cB.not (cB.val (av.nP rfl B.nP rfl B.tuple (by decide +kernel) (.inr (.inr (.inr (.inl rfl)))) (av.r (nm 1 rfl rfl)) rfl))) fun _=>fk.or1 (cB.cI .gt (av.lenT rfl B.len (nm 1 rfl rfl)) (av.meth0 L.t.cl L.ht hr1 (bw nx) (fl,qs) (nm 0 rfl rfl) rfl trivial rfl)))) (fun h=> ?_) fun h=>WS.nil ?_)
 ·rw [kc,ae]at h
  have h':fl.ht < (r.length:Int):=by simpa using h
  exact WS.one (W1.ret av.bl (by dsimp only; rw [decide_eq_false (by omega)]; rfl))
 rw [kc,ae]at h
 have hle:(r.length:Int)<=fl.ht:=by
  have: ¬fl.ht < (r.length:Int):=by simpa using h
  omega
 rw [decide_eq_true hle,gD]
 refine WS.cons (W1.ite (cB.not (cB.val (av.all (bs:=r.map iO) rfl rfl B.all (av.r (ff.toD (ff.comp (ds:=r.map .int) (es:=(r.map iO).map D.bl) (cs:= []) (dW.closed (by decide +kernel) (by decide +kernel) rfl (by decide +kernel) rfl) rfl (by decide +kernel) (iq.tup (nm 1 rfl rfl)) nX (by simp) (by rw [ae]; omega) ?_)))))) (fun h=> ?_) fun h=>WS.nil ?_)
 ·intro C s₀ H₀ fp pins i d e h1 h2
  rw [aD]at h1
  rw [aD,aD]at h2
  cases ei:r[i]? with
  | none=>rw [ei]at h1; cases h1
  | some v=>
   rw [ei]at h1 h2
   cases h1
   cases h2
   exact av.call G hr (bw nx) rfl v (bz.cons (nm 0 rfl rfl) bz.nil) trivial rfl
 ·have h':r.all iO=false:=by simpa using h
  exact WS.one (W1.ret av.bl (by rw [h']; rfl))
 have h':r.all iO=true:=by rw [List.all_map]at h; simpa using h
 rw [h',gD]
 refine WS.cons (W1.set (i:=2) px rfl (.inr rfl) (fQ rfl) (av.meth0 L.t.cl L.bs hr1 (bw nx) (fl,qs) (nm 0 rfl rfl) rfl trivial rfl) ?_)
 change WS _ M0 H _ [.im (iL C fl qs), .im (.tup (r.map .int)), .im (.lst (qs.map pD))] _
 refine WS.one (W1.ret (av.to (av.not (av.any (bs:=((r.drop 1).zip r).map fun p=>decide (p∈fl.fA)) rfl rfl B.any (av.r (ff.toD (ff.comp (ds:=((r.drop 1).zip r).map pD) (es:=(((r.drop 1).zip r).map fun p=>decide (p∈fl.fA)).map D.bl) (cs:= [.lst (qs.map pD)]) (N':= ["pair","bans"]) (js:= [2])
  (dW.cap1 (pre:= [(".0", .local),("pair", .local)]) (post:= []) (rn:= [(".0", .local),("pair", .local),("bans", .cell)]) rfl (by decide +kernel) (by decide +kernel) rfl (by decide +kernel) rfl (by decide +kernel) rfl rfl rfl rfl rfl (by decide +kernel)) rfl (by decide +kernel)
  (iq.to (iq.zipT rfl B.zip (av.cutT (nm 1 rfl rfl) (si.some av.int) si.none) (nm 1 rfl rfl)) (by rw [EL, <-wR,zL])) (ID rfl) (by simp) (by rw [ae,cb]; omega) ?_))))) (by rw [List.any_map]; rfl)) rfl)
 intro C s₀ H₀ fp pins i d e h1 h2
 rw [aD]at h1
 rw [aD,aD]at h2
 cases ei:((r.drop 1).zip r)[i]? with
 | none=>rw [ei]at h1; cases h1
 | some v=>
  rw [ei]at h1 h2
  cases h1
  cases h2
  refine av.to (av.inL (xI hr) (av.r (nm 0 rfl rfl)) (av.r (nm 1 rfl rfl)) (tx 59 v) v_) ?_
  rw [nJ]
  congr 1
  exact decide_eq_decide.mpr (hS.mem v)
end
abbrev Rows:=List (List Int)
abbrev ml:=Int×Int×Int
def tD(t:ml):D:= .tup [.int t.1, .int t.2.1, .int t.2.2]
def tQ(f:c8)(v:Int):Bool:=decide (0<=v)&&decide (v<=f.st - 1)
def rowAt(rows:Rows)(v:Int):List Int:=rows.getD v.toNat []
def least(a b:Int):Int:=if b < a then b else a
def kN(f:c8)(rows:Rows)(t:ml):Bool:=(tQ f t.1&&(tQ f t.2.1&& !decide (t.1=t.2.1)))&&(decide (1<=t.2.2)&&decide (t.2.2<=least f.lf (rowAt rows t.1).length))
def mv(rows:Rows)(t:ml):Rows:=
 (rows.set t.1.toNat ((rowAt rows t.1).take ((rowAt rows t.1).length - t.2.2.toNat))).set t.2.1.toNat (rowAt rows t.2.1 ++ (rowAt rows t.1).drop ((rowAt rows t.1).length - t.2.2.toNat))
def isLet(f:c8)(rows:Rows)(t:ml):Bool:=kN f rows t&&good f (mv rows t)
structure DA(f:c8)(rows:Rows)(t:ml):Prop where
 a0:0<=t.1
 a1:t.1 < f.st
 b0:0<=t.2.1
 b1:t.2.1 < f.st
 ne:t.1≠t.2.1
 n1:1<=t.2.2
 nl:t.2.2<=f.lf
 nr:t.2.2<=(rowAt rows t.1).length
theorem iP{f:c8}{rows:Rows}{t:ml}:kN f rows t=true↔DA f rows t:=by
 unfold kN tQ least
 simp only [bq,decide_eq_true_eq,fN,decide_eq_false_iff_not]
 constructor
 ·rintro⟨⟨⟨h1,h2⟩,⟨h3,h4⟩,h5⟩,h6,h7⟩
  split at h7
  ·exact⟨h1,by omega,h3,by omega,h5,h6,by omega,h7⟩
  ·exact⟨h1,by omega,h3,by omega,h5,h6,h7,by omega⟩
 ·rintro⟨h1,h2,h3,h4,h5,h6,h7,h8⟩
  refine⟨⟨⟨h1,by omega⟩,⟨h3,by omega⟩,h5⟩,h6, ?_⟩
  split <;> omega
theorem lh: ∀(rows:Rows) (i:Nat) (x:List Int),i < rows.length->(rows.set i x).flatten.Perm (x ++ (rows.set i []).flatten)
 | [],i,x,h=>absurd h (i8 _)
 | r::rows,0,x,h=>by simp
 | r::rows,i+1,x,h=>by
  have ih:=lh rows i x (by simpa using h)
  rw [Dy,Dy,cy,cy]
  refine(ih.append_left r).trans ?_
  rw [<-aI, <-aI]
  exact cv.append_right _
theorem gX{rows:Rows}{v:Int}(h0:0<=v)(h:v < rows.length):rows[v.toNat]? =some (rowAt rows v):=by
 unfold rowAt
 have:v.toNat < rows.length:=by omega
 rw [aF,ai this]
 rfl
theorem mZ{rows:Rows}{i:Nat}{r:List Int}(h:rows[i]? =some r):rows.set i r=rows:=by
 apply fM
 intro j
 rw [dE]
 split
 ·rename_i e
  subst e
  have:i < rows.length:=(aA.mp h).1
  rw [if_pos this,h]
 ·rfl
theorem xg(rows:Rows)(t:ml):(mv rows t).length=rows.length:=by unfold mv; rw [bo,bo]
theorem yG{f:c8}{rows:Rows}{t:ml}(hl:(rows.length:Int)=f.st)(h:DA f rows t):(mv rows t).flatten.Perm rows.flatten:=by
 obtain⟨a0,a1,b0,b1,ne,n1,nl,nr⟩:=h
 have ha:t.1.toNat < rows.length:=by omega
 have hb:t.2.1.toNat < rows.length:=by omega
 have hne:t.1.toNat≠t.2.1.toNat:=by omega
 have ea:=gX a0 (by omega:t.1 < rows.length)
 have eb:=gX b0 (by omega:t.2.1 < rows.length)
 unfold mv
 generalize rowAt rows t.1=ra at *
 generalize rowAt rows t.2.1=rb at *
 generalize (ra.length - t.2.2.toNat)=k
 generalize t.1.toNat=i at *
 generalize t.2.1.toNat=j at *
 have p1:=lh (rows.set i (ra.take k)) j (rb ++ ra.drop k) (by rw [bo]; exact hb)
 have p2:=lh (rows.set j []) i (ra.take k) (by rw [bo]; exact ha)
 rw [List.set_comm (ra.take k) [] hne]at p1
 have q1:=lh rows i ra ha
 rw [mZ ea]at q1
 have ejb:(rows.set i [])[j]? =some rb:=by rw [Ar hne]; exact eb
 have q2:=lh (rows.set i []) j rb (by rw [bo]; exact hb)
 rw [mZ ejb,List.set_comm _ _ hne]at q2
 refine p1.trans (((p2.append_left (rb ++ ra.drop k))).trans ((q1.trans (q2.append_left ra)).trans ?_).symm)
 generalize ((rows.set j []).set i []).flatten=rest
 have e:ra=ra.take k ++ ra.drop k:=(aO k ra).symm
 rw [<-aI, <-aI]
 refine List.Perm.append_right _ ?_
 refine cv.trans ?_
 rw [aI]
 refine dj rb ?_
 refine i9 (List.Perm.of_eq e) cv
theorem yO(n d:Nat)(k:Nat)(h:k<=n):HT.fF n d (some (k:Int))=k:=by
 unfold HT.fF
 simp
 rw [if_neg (by omega)]
 omega
theorem AN{ds:List D}{k:Nat}(h:k<=ds.length):cutD ds none (some (k:Int))=ds.take k:=by
 unfold cutD
 rw [yO _ _ _ h]
 show(ds.drop 0).take (k - 0)=_
 rw [mL,Nat.sub_zero]
theorem x9{ds:List D}{k:Nat}(h:k<=ds.length):cutD ds (some (k:Int)) none=ds.drop k:=by
 unfold cutD
 rw [yO _ _ _ h]
 show(ds.drop k).take (ds.length - k)=_
 rw [c0 (by rw [aZ]; exact aw _)]
theorem C6{X:Cx}{ρ:eG}{a b:Expr}{p pos:Pos}{i j:Int}(hc:X.calm=true)(hg:Gl X "min")(hm:X.mg "min"=none)(ha:av X ρ a (.int i))(hb:av X ρ b (.int j))
  (he:aq [a,b] X.env=(false,eval a X.env)::aq [b] X.env:=by rfl)(he2:aq [b] X.env= [(false,eval b X.env)]:=by rfl)(hpl:(c9 pos (aq [b] X.env)).any (·.1)=false:=by rfl):av X ρ (.Call (.Name "min" p) [a,b] [] pos) (.int (if j < i then j else i)):=
 av.min hc hg hm (by decide +kernel) ha hb he he2 hpl
section
variable {P:ar}{w:World}{K:Frag}{mg:Str->Option Value}{base:Heap}{CX:fJ}{C:Addr}
theorem wc:bN ["floor","standing","crates","stack"] ["floor","standing"] (aJ pj):=⟨rfl,rfl,rfl,by decide +kernel,rfl,by decide +kernel,by decide +kernel⟩
structure Small(rows:Rows):Prop where
 fl:rows.flatten.length<=1000
 n:rows.length<=1000
abbrev o7(P:ar)(w:World)(K:Frag)(mg:Str->Option Value)(base:Heap)(CX:fJ)(C:Addr):Prop:=
 jQ P w K mg base CX 4 "is_good" (fun i:c8×eY×Rows=> [iL C i.1 i.2.1, .tup (aU true i.2.2)]) (fun i=>gw i.1 i.2.1/\Small i.2.2) (fun i=> .ok (.bl (good i.1 i.2.2)))
theorem Ac{f:Addr}{fd:aV}(nx:NX CX)(B:Bm mg)(L:Fl P w K mg base CX C)(G:mj P w K mg base CX C)(F:iY K "is_good" "is_good" pj f fd)(hm:mg "is_good"=some (.ref f))(hb:Binds K fd ["floor","standing"] []):o7 P w K mg base CX C:=by
 refine eN F wc hm hb (fun i=>rfl) fun cdv A outer s H E i M0 hp hr=>⟨_,rfl, ?_⟩
 obtain⟨fl,qs,rows⟩:=i
 obtain⟨hS,hp1,hp2⟩:gw fl qs/\Small rows:=hp
 have px:=wc.nd
 have hlen:(aU true rows).length=rows.length:=ae ..
 change WS _ M0 H (bx pj) [.im (iL C fl qs), .im (.tup (aU true rows)), .un, .un] {N:=fun _=>D.bl (good fl rows)= .non,R:=fun d'=>d'= .bl (good fl rows)}
 refine WS.cons (W1.ite (fk.t (fk.or (cB.not (cB.val (av.nP rfl B.nP rfl B.tuple (by decide +kernel) (.inr (.inr (.inr (.inl rfl)))) (av.r (nm 1 rfl rfl)) rfl))) fun _=>fk.or1 (cB.cI .ne (av.lenT rfl B.len (nm 1 rfl rfl)) (av.meth0 L.t.cl L.st (hr.mono (by decide)) (bw nx) (fl,qs) (nm 0 rfl rfl) rfl trivial rfl)))) (fun h=> ?_) fun h=>WS.nil ?_)
 ·rw [kc,hlen]at h
  have h': ¬(rows.length:Int)=fl.st:=by simpa using h
  refine WS.one (W1.ret av.bl ?_)
  show D.bl false=D.bl (good fl rows)
  unfold good
  rw [decide_eq_false h']
  rfl
 rw [kc,hlen]at h
 have g1:(rows.length:Int)=fl.st:=by simpa using h
 refine WS.cons (W1.setF (i:=2) px rfl (.inl rfl) (fQ rfl) (ff.lst bz.nil) ?_)
 refine WS.cons (W1.for (ds:=aU true rows) (fun i ρ=>(rows.take i).all (ip fl)=true/\ ∃a,ρ= [.im (iL C fl qs), .im (.tup (aU true rows)), .mu ((rows.take i).flatten.map .int),a]) bt rfl (iq.tup (nm 1 rfl rfl)) ⟨by rw [hJ]; rfl,_,by rw [hJ]; rfl⟩ ?_ ?_)
 ·rintro i d ρ hd ⟨hall,a,rfl⟩
  obtain⟨r,hr',rfl⟩:=eZ hd
  have l1:=jq rows i
  have l2:=lP (aP hr')
  refine⟨_,sJ.name (i:=3) px rfl (.inl rfl) (fQ rfl), ?_⟩
  change WS _ M0 H _ [.im (iL C fl qs), .im (.tup (aU true rows)), .mu ((rows.take i).flatten.map .int), .im (vo true (r.map .int))] _
  refine WS.cons (W1.ite (cB.not (cB.val (av.call G hr (bw nx) rfl (fl,qs,r) (bz.cons (nm 0 rfl rfl) (bz.cons (nm 3 rfl rfl) bz.nil)) ⟨hS,show r.length<=1000 by omega⟩ rfl))) (fun h3=> ?_) fun h3=>WS.nil ?_)
  ·refine WS.one (W1.ret av.bl ?_)
   have hf:ip fl r=false:=by simpa using h3
   show D.bl false=D.bl (good fl rows)
   unfold good
   have:rows.all (ip fl)=false:=by
    rw [DF]
    exact⟨r,aP hr',by rw [hf]; exact az⟩
   rw [this,jx]
  have hf:ip fl r=true:=by simpa using h3
  refine WS.one (W1.extend (i:=2) (fs:=r.map .int) rfl (.inl rfl) rfl (nm 3 rfl rfl) rfl (by rw [ae,ae]; omega) ?_ ⟨rfl,rfl,rfl,rfl⟩)
  refine⟨?_, ?_⟩
  ·rw [dG,hr',rW,hall]
   simp [hf]
  ·rw [nI hr',bu]
   exact⟨_,rfl⟩
 rintro ρ ⟨hall,a,rfl⟩
 rw [hlen,dq]at hall
 rw [hlen,dq]
 refine WS.one (W1.ret (av.cI .eq (av.lenSet rfl rfl B.len rfl B.set (vw 2 rfl rfl) (by omega)) (av.lenL rfl B.len (vw 2 rfl rfl))) ?_)
 show D.bl (decide (_=_))=D.bl (good fl rows)
 congr 1
 unfold good
 rw [decide_eq_true g1,hall,gD,gE,ae]
 apply decide_eq_decide.mpr
 rw [<-BJ]
 omega
theorem zG:bN ["floor","value"] ["floor","value"] (aJ nz):=⟨rfl,rfl,rfl,by decide +kernel,rfl,by decide +kernel,by decide +kernel⟩
abbrev qA(P:ar)(w:World)(K:Frag)(mg:Str->Option Value)(base:Heap)(CX:fJ)(C:Addr):Prop:=
 jQ P w K mg base CX 2 "is_stack" (fun i:c8×eY×Int=> [iL C i.1 i.2.1, .int i.2.2]) (fun _=>True) (fun i=> .ok (.bl (tQ i.1 i.2.2)))
theorem xX{f:Addr}{fd:aV}(nx:NX CX)(L:Fl P w K mg base CX C)(G:lV P w K mg base CX)(F:iY K "is_stack" "is_stack" nz f fd)(hm:mg "is_stack"=some (.ref f))(hb:Binds K fd ["floor","value"] []):qA P w K mg base CX C:=by
 refine eN F zG hm hb (fun i=>rfl) fun cdv A outer s H E i M0 hp hr=>⟨_,rfl, ?_⟩
 obtain⟨fl,qs,v⟩:=i
 change WS _ M0 H (bx nz) [.im (iL C fl qs), .im (.int v)] _
 exact WS.one (W1.ret (av.call G hr (bw nx) rfl (v,0,fl.st - 1) (bz.cons (nm 1 rfl rfl) (bz.cons av.int (bz.cons (av.sub (av.meth0 L.t.cl L.st hr (bw nx) (fl,qs) (nm 0 rfl rfl) rfl trivial rfl) av.int) bz.nil))) trivial rfl) rfl)
theorem jh{rows:Rows}{v:Int}(h0:0<=v)(h:v < rows.length):sh (aU true rows) v=some (vo true ((rowAt rows v).map .int)):=by
 have e:v=((v.toNat:Nat):Int):=by omega
 have hl:(aU true rows).length=rows.length:=ae ..
 rw [qg e (by rw [hl]; omega)]
 have:=gX h0 h
 unfold aU
 rw [aR]
 congr 3
 have h2:v.toNat < rows.length:=by omega
 rw [ai h2]at this
 exact aK this
theorem FC:bN ["floor","standing","lift","source","target"] ["floor","standing","lift"] (aJ Ey):=⟨rfl,rfl,rfl,by decide +kernel,rfl,by decide +kernel,by decide +kernel⟩
abbrev Gp(P:ar)(w:World)(K:Frag)(mg:Str->Option Value)(base:Heap)(CX:fJ)(C:Addr):Prop:=
 jQ P w K mg base CX 3 "can_be_done" (fun i:c8×eY×Rows×ml=> [iL C i.1 i.2.1, .tup (aU true i.2.2.1),tD i.2.2.2]) (fun i=>(i.2.2.1.length:Int)=i.1.st) (fun i=> .ok (.bl (kN i.1 i.2.2.1 i.2.2.2)))
theorem Gz{f:Addr}{fd:aV}(nx:NX CX)(B:Bm mg)(L:Fl P w K mg base CX C)(G1:qA P w K mg base CX C)(G2:lV P w K mg base CX)(F:iY K "can_be_done" "can_be_done" Ey f fd)(hm:mg "can_be_done"=some (.ref f))(hb:Binds K fd ["floor","standing","lift"] []):Gp P w K mg base CX C:=by
 refine eN F FC hm hb (fun i=>rfl) fun cdv A outer s H E i M0 hp hr=>⟨_,rfl, ?_⟩
 obtain⟨fl,qs,rows,a,b,n⟩:=i
 have hl:(rows.length:Int)=fl.st:=hp
 have px:=FC.nd
 have hr1:=hr.mono (show 1<=2 by decide)
 change WS _ M0 H (bx Ey) [.im (iL C fl qs), .im (.tup (aU true rows)), .im (.tup [.int a, .int b, .int n]), .un, .un] {N:=fun _=>D.bl (kN fl rows (a,b,n))= .non,R:=fun d'=>d'= .bl (kN fl rows (a,b,n))}
 refine WS.cons (W1.ite (fk.t (fk.or (cB.not (cB.val (av.nP rfl B.nP rfl B.tuple (by decide +kernel) (.inr (.inr (.inr (.inl rfl)))) (av.r (nm 2 rfl rfl)) rfl))) fun _=>fk.or1 (cB.cI .ne (av.lenT rfl B.len (nm 2 rfl rfl)) av.int))) (fun h=> ?_) fun h=>WS.nil ?_)
 ·rw [kc]at h
  simp at h
 refine WS.cons (W1.set (i:=3) px rfl (.inl rfl) (fQ rfl) (av.ixT (nm 2 rfl rfl) av.int rfl) ?_)
 refine WS.cons (W1.set (i:=4) px rfl (.inl rfl) (fQ rfl) (av.ixT (nm 2 rfl rfl) av.int rfl) ?_)
 change WS _ M0 H _ [.im (iL C fl qs), .im (.tup (aU true rows)), .im (.tup [.int a, .int b, .int n]), .im (.int a), .im (.int b)] _
 refine WS.cons (W1.ite (fk.t (fk.or (cB.not (cB.val (av.call G1 hr (bw nx) rfl (fl,qs,a) (bz.cons (nm 0 rfl rfl) (bz.cons (nm 3 rfl rfl) bz.nil)) trivial rfl))) fun _=>fk.or (cB.not (cB.val (av.call G1 hr (bw nx) rfl (fl,qs,b) (bz.cons (nm 0 rfl rfl) (bz.cons (nm 4 rfl rfl) bz.nil)) trivial rfl))) fun _=>fk.or1 (cB.cI .eq (nm 3 rfl rfl) (nm 4 rfl rfl)))) (fun h=> ?_) fun h=>WS.nil ?_)
 ·refine WS.one (W1.ret av.bl ?_)
  show D.bl false=D.bl (kN fl rows (a,b,n))
  have:(tQ fl a&&(tQ fl b&& !decide (a=b)))=false:=by
   cases h1:tQ fl a <;> cases h2:tQ fl b <;> simp_all
  unfold kN
  rw [this,fV]
 ·have h3:(tQ fl a&&(tQ fl b&& !decide (a=b)))=true:=by
   cases h1:tQ fl a <;> cases h2:tQ fl b <;> simp_all
  have ha:0<=a/\a < rows.length:=by
   rw [bq]at h3
   have:=h3.1
   unfold tQ at this
   simp only [bq,decide_eq_true_eq]at this
   omega
  refine WS.one (W1.ret (av.call G2 hr1 (bw nx) rfl (n,1,least fl.lf (rowAt rows a).length) (bz.cons (av.ixT (nm 2 rfl rfl) av.int rfl) (bz.cons av.int (bz.cons ?_ bz.nil))) trivial rfl) ?_)
  ·exact(av.to (C6 (i:=fl.lf) (j:=(rowAt rows a).length) rfl rfl B.min (av.meth0 L.t.cl L.lf hr1 (bw nx) (fl,qs) (nm 0 rfl rfl) rfl trivial rfl) (av.to (av.lenS (t:=true) rfl B.len (av.ixT (nm 1 rfl rfl) (nm 3 rfl rfl) (jh ha.1 ha.2))) (by rw [ae]))) rfl)
  show D.bl _=D.bl (kN fl rows (a,b,n))
  unfold kN
  rw [h3,gD]
end
theorem sR(rows:Rows)(i:Nat)(r:List Int):aU true (rows.set i r)=(aU true rows).set i (.tup (r.map .int)):=by
 unfold aU
 rw [List.map_set]
 rfl
structure B3(rows:Rows)(t:ml):Prop where
 a0:0<=t.1
 a1:t.1 < rows.length
 b0:0<=t.2.1
 b1:t.2.1 < rows.length
 n0:0<=t.2.2
 nr:t.2.2<=(rowAt rows t.1).length
 sm:Small rows
theorem DA.mvOk{f:c8}{rows:Rows}{t:ml}(h:DA f rows t)(hl:(rows.length:Int)=f.st)(sm:Small rows):B3 rows t:=⟨h.a0,by have:=h.a1; omega,h.b0,by have:=h.b1; omega,by have:=h.n1; omega,h.nr,sm⟩
theorem vL{f:c8}{rows:Rows}{t:ml}(hl:(rows.length:Int)=f.st)(h:DA f rows t)(sm:Small rows):Small (mv rows t):=⟨by rw [(yG hl h).length_eq]; exact sm.fl,by rw [xg]; exact sm.n⟩
theorem jH{rows:Rows}{v:Int}(h0:0<=v)(h:v < rows.length):(rowAt rows v).length<=rows.flatten.length:=lP (aP (gX h0 h))
section
variable {P:ar}{w:World}{K:Frag}{mg:Str->Option Value}{base:Heap}{CX:fJ}{C:Addr}
theorem yH:bN ["standing","lift","source","target","left","stacks"] ["standing","lift"] (aJ uK):=⟨rfl,rfl,rfl,by decide +kernel,rfl,by decide +kernel,by decide +kernel⟩
abbrev sY(P:ar)(w:World)(K:Frag)(mg:Str->Option Value)(base:Heap)(CX:fJ):Prop:=
 jQ P w K mg base CX 1 "moved" (fun i:Rows×ml=> [.tup (aU true i.1),tD i.2]) (fun i=>B3 i.1 i.2) (fun i=> .ok (.tup (aU true (mv i.1 i.2))))
theorem Bo{f:Addr}{fd:aV}(B:Bm mg)(F:iY K "moved" "moved" uK f fd)(hm:mg "moved"=some (.ref f))(hb:Binds K fd ["standing","lift"] []):sY P w K mg base CX:=by
 refine eN F yH hm hb (fun i=>rfl) fun cdv A outer s H E i M0 hp hr=>⟨_,rfl, ?_⟩
 obtain⟨rows,a,b,n⟩:=i
 obtain⟨a0,a1,b0,b1,n0,nr,sm⟩:=(hp:B3 rows (a,b,n))
 dsimp only at a0 a1 b0 b1 n0 nr
 have px:=yH.nd
 have hl:(aU true rows).length=rows.length:=ae ..
 have ra:=jH a0 a1
 have rb:=jH b0 b1
 have sf:rows.flatten.length<=1000:=sm.fl
 have ek:((rowAt rows a).length:Int) - n=(((rowAt rows a).length - n.toNat:Nat):Int):=by omega
 change WS _ M0 H (bx uK) [.im (.tup (aU true rows)), .im (.tup [.int a, .int b, .int n]), .un, .un, .un, .un] {N:=fun _=>D.tup (aU true (mv rows (a,b,n)))= .non,R:=fun d'=>d'= .tup (aU true (mv rows (a,b,n)))}
 refine WS.cons (W1.set (i:=2) px rfl (.inl rfl) (fQ rfl) (av.ixT (nm 1 rfl rfl) av.int rfl) ?_)
 refine WS.cons (W1.set (i:=3) px rfl (.inl rfl) (fQ rfl) (av.ixT (nm 1 rfl rfl) av.int rfl) ?_)
 refine WS.cons (W1.set (i:=4) px rfl (.inl rfl) (fQ rfl) (av.to (av.sub (av.lenS (t:=true) rfl B.len (av.ixT (nm 0 rfl rfl) (nm 2 rfl rfl) (jh a0 a1))) (av.ixT (nm 1 rfl rfl) av.int rfl)) (by rw [ae,ek])) ?_)
 refine WS.cons (W1.setF (i:=5) px rfl (.inl rfl) (fQ rfl) (ff.listT rfl B.list (nm 0 rfl rfl)) ?_)
 change WS _ M0 H _ [.im (.tup (aU true rows)), .im (.tup [.int a, .int b, .int n]), .im (.int a), .im (.int b), .im (.int (((rowAt rows a).length - n.toNat:Nat):Int)), .mu (aU true rows)] _
 refine WS.cons (W1.setIx (i:=5) (n:=a.toNat) rfl (.inl rfl) rfl (av.to (av.cutT (av.ixT (nm 0 rfl rfl) (nm 2 rfl rfl) (jh a0 a1)) si.none (si.some (nm 4 rfl rfl))) (d':= .tup (((rowAt rows a).take ((rowAt rows a).length - n.toNat)).map .int)) (by rw [AN (by rw [ae]; omega),List.map_take])) (nm 2 rfl rfl) (by omega) (by rw [hl]; omega) ?_)
 dsimp only
 rw [<-sR]
 change WS _ M0 H _ [.im (.tup (aU true rows)), .im (.tup [.int a, .int b, .int n]), .im (.int a), .im (.int b), .im (.int (((rowAt rows a).length - n.toNat:Nat):Int)), .mu (aU true (rows.set a.toNat ((rowAt rows a).take ((rowAt rows a).length - n.toNat))))] _
 refine WS.cons (W1.setIx (i:=5) (n:=b.toNat) rfl (.inl rfl) rfl (av.to (av.catT (av.ixT (nm 0 rfl rfl) (nm 3 rfl rfl) (jh b0 b1)) (av.cutT (av.ixT (nm 0 rfl rfl) (nm 2 rfl rfl) (jh a0 a1)) (si.some (nm 4 rfl rfl)) si.none) ?_) (d':= .tup ((rowAt rows b ++ (rowAt rows a).drop ((rowAt rows a).length - n.toNat)).map .int)) ?_) (nm 3 rfl rfl) (by omega) ?_ ?_)
 ·rw [x9 (by rw [ae]; omega),ae,aZ,ae]
  omega
 ·rw [x9 (by rw [ae]; omega),bu,wR]
 ·show b.toNat < ((rows.set a.toNat _).map _).length
  rw [ae,bo]
  omega
 dsimp only
 rw [<-sR]
 exact WS.one (W1.ret (av.tupleL rfl B.tuple (vw 5 rfl rfl)) rfl)
theorem EJ:bN ["floor","standing","lift"] ["floor","standing","lift"] (aJ ur):=⟨rfl,rfl,rfl,by decide +kernel,rfl,by decide +kernel,by decide +kernel⟩
structure A1(f:c8)(qs:eY)(rows:Rows):Prop where
 s:gw f qs
 l:(rows.length:Int)=f.st
 sm:Small rows
abbrev xH(P:ar)(w:World)(K:Frag)(mg:Str->Option Value)(base:Heap)(CX:fJ)(C:Addr):Prop:=
 jQ P w K mg base CX 5 "is_let" (fun i:c8×eY×Rows×ml=> [iL C i.1 i.2.1, .tup (aU true i.2.2.1),tD i.2.2.2]) (fun i=>A1 i.1 i.2.1 i.2.2.1) (fun i=> .ok (.bl (isLet i.1 i.2.2.1 i.2.2.2)))
theorem CC{f:Addr}{fd:aV}(nx:NX CX)(G1:Gp P w K mg base CX C)(G2:o7 P w K mg base CX C)(G3:sY P w K mg base CX)(F:iY K "is_let" "is_let" ur f fd)(hm:mg "is_let"=some (.ref f))(hb:Binds K fd ["floor","standing","lift"] []):xH P w K mg base CX C:=by
 refine eN F EJ hm hb (fun i=>rfl) fun cdv A outer s H E i M0 hp hr=>⟨_,rfl, ?_⟩
 obtain⟨fl,qs,rows,t⟩:=i
 obtain⟨hS,hl,sm⟩:=(hp:A1 fl qs rows)
 change WS _ M0 H (bx ur) [.im (iL C fl qs), .im (.tup (aU true rows)), .im (tD t)] {N:=fun _=>D.bl (isLet fl rows t)= .non,R:=fun d'=>d'= .bl (isLet fl rows t)}
 refine WS.one (W1.ret (av.and (av.call G1 (hr.mono (by decide)) (bw nx) rfl (fl,qs,rows,t) (bz.cons (nm 0 rfl rfl) (bz.cons (nm 1 rfl rfl) (bz.cons (nm 2 rfl rfl) bz.nil))) hl rfl) fun hc=>av.one (av.call G2 hr (bw nx) rfl (fl,qs,mv rows t) (bz.cons (nm 0 rfl rfl) (bz.cons (av.call G3 (hr.mono (by decide)) (bw nx) rfl (rows,t) (bz.cons (nm 1 rfl rfl) (bz.cons (nm 2 rfl rfl) bz.nil)) ((iP.mp hc).mvOk hl sm) rfl) bz.nil)) ⟨hS,vL hl (iP.mp hc) sm⟩ rfl)) rfl)
structure wm(f:c8)(qs:eY)(rows:Rows):Prop where
 s:gw f qs
 g:good f rows=true
theorem wm.sm{f:c8}{qs:eY}{rows:Rows}(h:wm f qs rows):Small rows:=by
 have h1:=mD h.g h.s.ok.st.2 h.s.ok.ht.2
 have h2:=f_ h.g
 have h3:=h.s.ok.st.2
 exact⟨by omega,by omega⟩
theorem wm.le{f:c8}{qs:eY}{rows:Rows}(h:wm f qs rows):A1 f qs rows:=⟨h.s,f_ h.g,h.sm⟩
theorem Bb:bN ["floor","standing"] ["floor","standing"] (aJ ny):=⟨rfl,rfl,rfl,by decide +kernel,rfl,by decide +kernel,by decide +kernel⟩
abbrev EY(P:ar)(w:World)(K:Frag)(mg:Str->Option Value)(base:Heap)(CX:fJ)(C:Addr):Prop:=
 jQ P w K mg base CX 5 "refuse_unless_good" (fun i:c8×eY×Rows=> [iL C i.1 i.2.1, .tup (aU true i.2.2)]) (fun i=>wm i.1 i.2.1 i.2.2) (fun i=> .ok .non)
def o5(a b k:Nat):ml:=((0:Int)+(a:Int),(0:Int)+(b:Int),(1:Int)+(k:Int))
def rd(f:c8)(rows:Rows)(a b n:Nat):List ml:=((cn n).map (o5 a b)).filter (isLet f rows)
def sH(f:c8)(rows:Rows)(a m:Nat):List ml:=(cn m).flatMap fun b=>rd f rows a b f.lf.toNat
def uE(f:c8)(rows:Rows)(m:Nat):List ml:=(cn m).flatMap fun a=>sH f rows a f.st.toNat
def lets(f:c8)(rows:Rows):List ml:=uE f rows f.st.toNat
theorem k9(f:c8)(rows:Rows)(a b n:Nat):rd f rows a b (n+1)=rd f rows a b n ++ (if isLet f rows (o5 a b n)then [o5 a b n]else []):=by
 unfold rd
 rw [lY,bu,List.filter_append]
 congr 1
 show List.filter _ [o5 a b n]=_
 rw [List.filter_cons]
 rfl
theorem pL(f:c8)(rows:Rows)(a m:Nat):sH f rows a (m+1)=sH f rows a m ++ rd f rows a m f.lf.toNat:=by
 unfold sH
 rw [lY,List.flatMap_append]
 simp
theorem qB(f:c8)(rows:Rows)(m:Nat):uE f rows (m+1)=uE f rows m ++ sH f rows m f.st.toNat:=by
 unfold uE
 rw [lY,List.flatMap_append]
 simp
theorem tP(f:c8)(rows:Rows)(a b n:Nat):(rd f rows a b n).length<=n:=by
 unfold rd
 exact bg (List.length_filter_le _ _) (by rw [ae,cW]; exact aw _)
theorem o_(f:c8)(rows:Rows)(a:Nat): ∀m,(sH f rows a m).length<=f.lf.toNat * m
 | 0=>by simp [sH]
 | m+1=>by
  have h1:=o_ f rows a m
  have h2:=tP f rows a m f.lf.toNat
  rw [pL,ak,Nat.mul_succ]
  omega
theorem t9(f:c8)(rows:Rows): ∀m,(uE f rows m).length<=f.lf.toNat * f.st.toNat * m
 | 0=>by simp [uE]
 | m+1=>by
  have h1:=t9 f rows m
  have h2:=o_ f rows m f.st.toNat
  rw [qB,ak,Nat.mul_succ]
  omega
theorem Cy{f:c8}{rows:Rows}{t:ml}(h1:0<=f.st)(h2:0<=f.lf):t∈lets f rows↔isLet f rows t=true:=by
 unfold lets uE sH rd
 simp only [Fj,g8,FI,aX]
 constructor
 ·rintro⟨a,_,b,_,_,h⟩
  exact h
 ·intro h
  have hc:DA f rows t:=iP.mp (by unfold isLet at h; rw [bq]at h; exact h.1)
  obtain⟨a0,a1,b0,b1,ne,n1,nl,nr⟩:=hc
  obtain⟨a,b,n⟩:=t
  dsimp only at *
  refine⟨a.toNat,by omega,b.toNat,by omega,⟨(n - 1).toNat,by omega, ?_⟩,h⟩
  unfold o5
  have e1:(0:Int)+(a.toNat:Int)=a:=by omega
  have e2:(0:Int)+(b.toNat:Int)=b:=by omega
  have e3:(1:Int)+((n - 1).toNat:Int)=n:=by omega
  rw [e1,e2,e3]
theorem zd:bN ["floor","standing","found","source","target","many","lift"] ["floor","standing"] (aJ pS):=⟨rfl,rfl,rfl,by decide +kernel,rfl,by decide +kernel,by decide +kernel⟩
abbrev xR(P:ar)(w:World)(K:Frag)(mg:Str->Option Value)(base:Heap)(CX:fJ)(C:Addr):Prop:=
 jQ P w K mg base CX 6 "lifts" (fun i:c8×eY×Rows=> [iL C i.1 i.2.1, .tup (aU true i.2.2)]) (fun i=>wm i.1 i.2.1 i.2.2) (fun i=> .ok (.lst ((lets i.1 i.2.2).map tD)))
end
section
variable {P:ar}{w:World}{K:Frag}{mg:Str->Option Value}{base:Heap}{C CS CL:Addr}
abbrev kO(P:ar)(w:World)(K:Frag)(mg:Str->Option Value)(base:Heap)(C CS:Addr):Prop:=
 jQ P w K mg base (f9 P w) 5 "refuse_unless_good" (fun i:c8×eY×Rows=> [iL C i.1 i.2.1, .tup (aU true i.2.2)]) (fun i=>gw i.1 i.2.1/\Small i.2.2) (fun i=>if good i.1 i.2.2 then .ok .non else .error CS)
theorem xh{f:Addr}{fd:aV}(er:zZ "NoStanding" CS mg base)(G:o7 P w K mg base (f9 P w) C)(F:iY K "refuse_unless_good" "refuse_unless_good" ny f fd)(hm:mg "refuse_unless_good"=some (.ref f))(hb:Binds K fd ["floor","standing"] []):kO P w K mg base C CS:=by
 refine o8 F Bb hm hb (fun i=>rfl) fun cdv A outer s H E i M0 hp hr=> ?_
 obtain⟨fl,qs,rows⟩:=i
 obtain⟨hS,sm⟩:gw fl qs/\Small rows:=hp
 have nx:NX (f9 P w):=k7
 by_cases hg:good fl rows=true
 ·refine .inl ⟨.non,if_pos hg, ?_⟩
  change WS _ M0 H (bx ny) [.im (iL C fl qs), .im (.tup (aU true rows))] {N:=fun _=>D.non= .non,R:=fun d'=>d'= .non}
  refine WS.one (W1.ite (cB.not (cB.val (av.call G hr (bw nx) rfl (fl,qs,rows) (bz.cons (nm 0 rfl rfl) (bz.cons (nm 1 rfl rfl) bz.nil)) ⟨hS,sm⟩ rfl))) (fun h=> ?_) fun h=>WS.nil rfl)
  rw [hg]at h
  cases h
 ·refine .inr ⟨CS,if_neg hg, ?_⟩
  change jm _ [.im (iL C fl qs), .im (.tup (aU true rows))] E (bx ny) CS
  refine jm.here (yz.ite (t:=true) (cB.to (cB.not (cB.val (av.call G hr (bw nx) rfl (fl,qs,rows) (bz.cons (nm 0 rfl rfl) (bz.cons (nm 1 rfl rfl) bz.nil)) ⟨hS,sm⟩ rfl))) (by simp [hg])) (fun _=>jm.here (yz.raise er rfl av.str)) fun h=>by cases h)
end
theorem qe{P:ar}{w:World}{K:Frag}{mg:Str->Option Value}{base:Heap}{CX:fJ}{k:Nat}{x:Str}{ι:Type}{args:ι->List D}{pre pre':ι->Prop}{res res':ι->Except Addr D}(F:jQ P w K mg base CX k x args pre res)(h: ∀i,pre' i->pre i/\res i=res' i):jQ P w K mg base CX k x args pre' res':=by
 obtain⟨f,fd,ps,F,r⟩:=F.ex
 refine⟨f,fd,ps,F.imp fun vs H Q E ⟨i,M0,hM,d,hp,k1,k2⟩=> ?_,r⟩
 obtain⟨p,e⟩:=h i hp
 exact⟨i,M0,hM,d,p,by rw [e]; exact k1,by rw [e]; exact k2⟩
section
variable {P:ar}{w:World}{K:Frag}{mg:Str->Option Value}{base:Heap}{C CS CL:Addr}
theorem vT(G:kO P w K mg base C CS):EY P w K mg base (f9 P w) C:=qe G fun i h=>⟨⟨h.s,h.sm⟩,if_pos h.g⟩
abbrev uy(P:ar)(w:World)(K:Frag)(mg:Str->Option Value)(base:Heap)(C CS:Addr):Prop:=
 jQ P w K mg base (f9 P w) 6 "lifts" (fun i:c8×eY×Rows=> [iL C i.1 i.2.1, .tup (aU true i.2.2)]) (fun i=>gw i.1 i.2.1/\Small i.2.2) (fun i=>if good i.1 i.2.2 then .ok (.lst ((lets i.1 i.2.2).map tD))else .error CS)
theorem zV{f:Addr}{fd:aV}(B:Bm mg)(L:Fl P w K mg base (f9 P w) C)(GX:kO P w K mg base C CS)(G2:xH P w K mg base (f9 P w) C)(F:iY K "lifts" "lifts" pS f fd)(hm:mg "lifts"=some (.ref f))(hb:Binds K fd ["floor","standing"] []):uy P w K mg base C CS:=by
 have nx:NX (f9 P w):=k7
 have G1:=vT GX
 refine o8 F zd hm hb (fun i=>rfl) fun cdv A outer s H E i M0 hp hr=> ?_
 obtain⟨fl,qs,rows⟩:=i
 obtain⟨hS,sm⟩:gw fl qs/\Small rows:=hp
 by_cases hgd:good fl rows=true
 ·refine .inl ⟨_,if_pos hgd, ?_⟩
  have hg:wm fl qs rows:=⟨hS,hgd⟩
  have px:=zd.nd
  have hr1:=hr.mono (show 1<=5 by decide)
  have st:=hg.s.ok.st
  have lf:=hg.s.ok.lf
  have lft:fl.lf.toNat<=3:=by omega
  have stt:fl.st.toNat<=4:=by omega
  have b1:fl.lf.toNat * fl.st.toNat<=12:=jC lft stt
  change WS _ M0 H (bx pS) [.im (iL C fl qs), .im (.tup (aU true rows)), .un, .un, .un, .un, .un] {N:=fun _=>D.lst ((lets fl rows).map tD)= .non,R:=fun d'=>d'= .lst ((lets fl rows).map tD)}
  refine WS.cons (W1.expr (av.call G1 hr (bw nx) rfl (fl,qs,rows) (bz.cons (nm 0 rfl rfl) (bz.cons (nm 1 rfl rfl) bz.nil)) hg rfl) ?_)
  refine WS.cons (W1.setF (i:=2) px rfl (.inl rfl) (fQ rfl) (ff.lst bz.nil) ?_)
  refine WS.cons (W1.for (ds:=jn 0 fl.st.toNat) (fun i ρ=> ∃a b c d,ρ= [.im (iL C fl qs), .im (.tup (aU true rows)), .mu ((uE fl rows i).map tD),a,b,c,d]) bt rfl (iq.range rfl B.range (av.meth0 L.t.cl L.st hr1 (bw nx) (fl,qs) (nm 0 rfl rfl) rfl trivial rfl) (by omega)) ⟨_,_,_,_,rfl⟩ ?_ ?_)
  ·rintro i d ρ hd ⟨a,b,c,d',rfl⟩
   obtain⟨rfl,hi⟩:=fx hd
   have hl1:=t9 fl rows i
   have b2:fl.lf.toNat * fl.st.toNat * i<=12 * 4:=jC b1 (by omega)
   refine⟨_,sJ.name (i:=3) px rfl (.inl rfl) (fQ rfl), ?_⟩
   refine WS.one (W1.for (ds:=jn 0 fl.st.toNat) (fun j ρ=> ∃b c d,ρ= [.im (iL C fl qs), .im (.tup (aU true rows)), .mu ((uE fl rows i ++ sH fl rows i j).map tD), .im (.int (0+(i:Int))),b,c,d]) bt rfl (iq.range rfl B.range (av.meth0 L.t.cl L.st hr1 (bw nx) (fl,qs) (nm 0 rfl rfl) rfl trivial rfl) (by omega)) ⟨_,_,_,by rw [show sH fl rows i 0= []from rfl,bj]; rfl⟩ ?_ ?_)
   ·rintro j d ρ hd ⟨b,c,d',rfl⟩
    obtain⟨rfl,hj⟩:=fx hd
    have hl2:=o_ fl rows i j
    have b3:fl.lf.toNat * j<=3 * 4:=jC lft (by omega)
    refine⟨_,sJ.name (i:=4) px rfl (.inl rfl) (fQ rfl), ?_⟩
    refine WS.one (W1.for (ds:=jn 1 fl.lf.toNat) (fun k ρ=> ∃c d,ρ= [.im (iL C fl qs), .im (.tup (aU true rows)), .mu ((uE fl rows i ++ sH fl rows i j ++ rd fl rows i j k).map tD), .im (.int (0+(i:Int))), .im (.int (0+(j:Int))),c,d]) bt rfl
     (iq.to (iq.range2 (i:=1) (j:=fl.lf+1) rfl B.range av.int (av.add (av.meth0 L.t.cl L.lf hr1 (bw nx) (fl,qs) (nm 0 rfl rfl) rfl trivial rfl) av.int) (by omega)) (by congr 1; omega)) ⟨_,_,by rw [show rd fl rows i j 0= []from rfl,bj]; rfl⟩ ?_ ?_)
    ·rintro k d ρ hd ⟨c,d',rfl⟩
     obtain⟨rfl,hk⟩:=fx hd
     have hl3:=tP fl rows i j k
     refine⟨_,sJ.name (i:=5) px rfl (.inl rfl) (fQ rfl), ?_⟩
     refine WS.cons (W1.set (i:=6) px rfl (.inl rfl) (fQ rfl) (av.tup (bz.cons (nm 3 rfl rfl) (bz.cons (nm 4 rfl rfl) (bz.cons (nm 5 rfl rfl) bz.nil)))) ?_)
     change WS _ M0 H _ [.im (iL C fl qs), .im (.tup (aU true rows)), .mu ((uE fl rows i ++ sH fl rows i j ++ rd fl rows i j k).map tD), .im (.int (0+(i:Int))), .im (.int (0+(j:Int))), .im (.int (1+(k:Int))), .im (tD (o5 i j k))] _
     refine WS.one (W1.ite (cB.val (av.call G2 hr (bw nx) rfl (fl,qs,rows,o5 i j k) (bz.cons (nm 0 rfl rfl) (bz.cons (nm 1 rfl rfl) (bz.cons (nm 6 rfl rfl) bz.nil))) hg.le rfl)) (fun h=> ?_) fun h=>WS.nil ?_)
     ·refine WS.one (W1.append (i:=2) rfl (.inl rfl) rfl (nm 6 rfl rfl) (by rw [ae,ak,ak]; omega) ?_ ⟨rfl,rfl,rfl,rfl⟩)
      have e:(uE fl rows i ++ sH fl rows i j ++ rd fl rows i j (k+1)).map tD=(uE fl rows i ++ sH fl rows i j ++ rd fl rows i j k).map tD ++ [tD (o5 i j k)]:=by
       rw [k9,if_pos h, <-aI,bu (l₂:= [o5 i j k])]
       rfl
      exact⟨_,_,by rw [e]; rfl⟩
     ·dsimp only
      rw [k9,if_neg (by rw [h]; exact az),bj]
      exact⟨_,_,rfl⟩
    ·rintro ρ ⟨c,d,rfl⟩
     rw [e7]
     dsimp only
     rw [pL, <-aI]
     exact⟨_,_,_,rfl⟩
   ·rintro ρ ⟨b,c,d,rfl⟩
    rw [e7]
    dsimp only
    rw [qB]
    exact⟨_,_,_,_,rfl⟩
  ·rintro ρ ⟨a,b,c,d,rfl⟩
   rw [e7]
   exact WS.freeze (i:=2) rfl (WS.one (W1.ret (nm 2 rfl rfl) rfl))
 ·refine .inr ⟨CS,if_neg hgd, ?_⟩
  change jm _ [.im (iL C fl qs), .im (.tup (aU true rows)), .un, .un, .un, .un, .un] E (bx pS) CS
  exact jm.here (yz.expr (Hv.call (i:=(fl,qs,rows)) GX hr tw rfl (bz.cons (nm 0 rfl rfl) (bz.cons (nm 1 rfl rfl) bz.nil)) ⟨hS,sm⟩ (if_neg hgd)))
end
def bk(t:ml):ml:=(t.2.1,t.1,t.2.2)
theorem kM{rows:Rows}{v:Int}{r:List Int}(h0:0<=v)(h:v < rows.length):rowAt (rows.set v.toNat r) v=r:=by
 unfold rowAt
 rw [aF,dE,if_pos rfl,if_pos (by omega)]
 rfl
theorem ux{rows:Rows}{i:Nat}{v:Int}{r:List Int}(h:i≠v.toNat):rowAt (rows.set i r) v=rowAt rows v:=by
 unfold rowAt
 rw [aF,dE,if_neg h,aF]
theorem Bf{f:c8}{rows:Rows}{t:ml}(hg:good f rows=true)(h:isLet f rows t=true):isLet f (mv rows t) (bk t)=true/\mv (mv rows t) (bk t)=rows:=by
 have hl:=f_ hg
 have hc:DA f rows t:=iP.mp (by unfold isLet at h; rw [bq]at h; exact h.1)
 obtain⟨a0,a1,b0,b1,ne,n1,nl,nr⟩:=hc
 obtain⟨a,b,n⟩:=t
 dsimp only at a0 a1 b0 b1 ne n1 nl nr
 have ha:a < rows.length:=by omega
 have hb:b < rows.length:=by omega
 have hne:a.toNat≠b.toNat:=by omega
 have eR:mv rows (a,b,n)=(rows.set a.toNat ((rowAt rows a).take ((rowAt rows a).length - n.toNat))).set b.toNat (rowAt rows b ++ (rowAt rows a).drop ((rowAt rows a).length - n.toNat)):=rfl
 have e1:rowAt (mv rows (a,b,n)) b=rowAt rows b ++ (rowAt rows a).drop ((rowAt rows a).length - n.toNat):=by
  rw [eR]
  exact kM b0 (by rw [bo]; exact hb)
 have e2:rowAt (mv rows (a,b,n)) a=(rowAt rows a).take ((rowAt rows a).length - n.toNat):=by
  rw [eR,ux hne.symm,kM a0 ha]
 have l1:(rowAt (mv rows (a,b,n)) b).length - n.toNat=(rowAt rows b).length:=by
  rw [e1,ak,aZ]
  omega
 have e3:mv (mv rows (a,b,n)) (bk (a,b,n))=rows:=by
  show(((mv rows (a,b,n)).set b.toNat ((rowAt (mv rows (a,b,n)) b).take ((rowAt (mv rows (a,b,n)) b).length - n.toNat))).set a.toNat (rowAt (mv rows (a,b,n)) a ++ (rowAt (mv rows (a,b,n)) b).drop ((rowAt (mv rows (a,b,n)) b).length - n.toNat)))=rows
  rw [l1,e1,e2,List.take_left,List.drop_left,aO,eR,List.set_set,List.set_comm _ _ hne,List.set_set,mZ (gX b0 hb),mZ (gX a0 ha)]
 refine⟨?_,e3⟩
 unfold isLet
 rw [e3,hg,gE]
 refine iP.mpr ⟨b0,b1,a0,a1,fun z=>ne z.symm,n1,nl, ?_⟩
 show n<=((rowAt (mv rows (a,b,n)) b).length:Int)
 rw [e1,ak,aZ]
 omega
abbrev rT(rows:Rows):D:= .tup (aU true rows)
theorem pG(ns:List Int)(first:Nat): ∀k,(fD ns first 5 k).all ni=true
 | 0=>rfl
 | k+1=>by
  have ih:=pG ns first k
  unfold fD
  dsimp only
  split
  ·exact ih
  ·rename_i hne
   rw [rW,ih,gD]
   simp only [List.all_cons,List.all_nil,gE]
   unfold ni iO
   dsimp only
   have h1:=i7 (cellAt ns (first+1+k)) (show((5:Nat):Int)≠0 by decide)
   have h2:=gS (cellAt ns (first+1+k)) (show(0:Int) < ((5:Nat):Int) by decide)
   have h3:=i7 (cellAt ns (first+1+k) / ((5:Nat):Int)) (show((5:Nat):Int)≠0 by decide)
   have h4:=gS (cellAt ns (first+1+k) / ((5:Nat):Int)) (show(0:Int) < ((5:Nat):Int) by decide)
   rw [decide_eq_true h1,decide_eq_true h3,decide_eq_false hne,decide_eq_true (by omega),decide_eq_true (by omega)]
   rfl
theorem E2(ns:List Int):p8 (pY ns 0 5):=by
 refine⟨?_, ?_, ?_, ?_,pG ns 0 _⟩
 ·show 2<=2+_ % 3/\2+_ % 3<=4
  omega
 ·show 1<=1+_ % 6/\1+_ % 6<=6
  omega
 ·show 1<=1+_ % 3/\1+_ % 3<=3
  omega
 ·have:=kZ ns 0 5 (cellAt ns 0 / 72 % 5).toNat
  have h2:(cellAt ns 0 / 72 % 5).toNat<=4:=by omega
  exact bg this h2
end K
namespace Z
section
variable {α:Type} [DecidableEq α]
def visit(h:Int)(kv:List (α×Int))(k:α):List (α×Int):=if k∈kv.map (·.1)then kv else kv ++ [(k,h+1)]
def mh(nb:α->List α)(kv:List (α×Int))(d:Nat):List (α×Int):=match kv[d]? with
 | some (k,h)=>(nb k).foldl (visit h) kv
 | none=>kv
def E1(nb:α->List α):Nat->List (α×Int)->Nat->List (α×Int)
 | 0,kv,_=>kv
 | n+1,kv,d=>if d < kv.length then E1 nb n (mh nb kv d) (d+1)else kv
variable {nb:α->List α}{g:α}
structure BI(nb:α->List α)(g:α)(kv:List (α×Int))(d:Nat):Prop where
 fst:kv[0]? =some (g,0)
 nd:(kv.map (·.1)).Nodup
 par: ∀(j:Nat) k h,kv[j]? =some (k,h)->0 < j-> ∃i k' h',i < j/\i < d/\kv[i]? =some (k',h')/\k∈nb k'/\h=h'+1
 Ee: ∀(i:Nat) k h,i < d->kv[i]? =some (k,h)-> ∀k'∈nb k, ∃h',(k',h')∈kv/\h'<=h+1
 asc: ∀(i j:Nat) k h k' h',i<=j->kv[i]? =some (k,h)->kv[j]? =some (k',h')->h<=h'
 top: ∀(i:Nat) k h k' h',d<=i->kv[i]? =some (k,h)->(k',h')∈kv->h'<=h+1
theorem BI.start:BI nb g [(g,0)] 0:=by
 refine⟨rfl,by simp,fun j k h e hj=> ?_,fun i k h hi=>absurd hi (by omega),fun i j k h k' h' hij e1 e2=> ?_,fun i k h k' h' _ e1 e2=> ?_⟩
 ·rw [br (by simp; omega)]at e; cases e
 ·have h1:i=0:=by
   rcases jD i with z | z
   ·exact z
   ·rw [br (by simp; omega)]at e1; cases e1
  have h2:j=0:=by
   rcases jD j with z | z
   ·exact z
   ·rw [br (by simp; omega)]at e2; cases e2
  subst h1 h2
  rw [e1]at e2
  cases e2
  exact rm _
 ·have h1:i=0:=by
   rcases jD i with z | z
   ·exact z
   ·rw [br (by simp; omega)]at e1; cases e1
  subst h1
  cases e1
  have:(k',h')=(g,0):=by simpa using e2
  cases this
  decide
structure BM(nb:α->List α)(g:α)(kv:List (α×Int))(d:Nat)(k0:α)(h0:Int)(l:List α):Prop where
 fst:kv[0]? =some (g,0)
 nd:(kv.map (·.1)).Nodup
 at_:kv[d]? =some (k0,h0)
 par: ∀(j:Nat) k h,kv[j]? =some (k,h)->0 < j-> ∃i k' h',i < j/\i < d+1/\kv[i]? =some (k',h')/\k∈nb k'/\h=h'+1
 Ee: ∀(i:Nat) k h,i < d->kv[i]? =some (k,h)-> ∀k'∈nb k, ∃h',(k',h')∈kv/\h'<=h+1
 now: ∀k'∈l, ∃h',(k',h')∈kv/\h'<=h0+1
 asc: ∀(i j:Nat) k h k' h',i<=j->kv[i]? =some (k,h)->kv[j]? =some (k',h')->h<=h'
 top: ∀k' h',(k',h')∈kv->h'<=h0+1
theorem BM.visit{kv:List (α×Int)}{d:Nat}{k0:α}{h0:Int}{l:List α}(b:BM nb g kv d k0 h0 l){k:α}(hk:k∈nb k0):BM nb g (visit h0 kv k) d k0 h0 (l ++ [k]):=by
 unfold Z.visit
 by_cases e:k∈kv.map (·.1)
 ·rw [if_pos e]
  refine⟨b.fst,b.nd,b.at_,b.par,b.Ee,fun k' hk'=> ?_,b.asc,b.top⟩
  rcases bh.mp hk' with z | z
  ·exact b.now k' z
  ·rcases aE.mp z with rfl
   obtain⟨⟨k1,h1⟩,h2,rfl⟩:=aX.mp e
   exact⟨h1,h2,b.top _ _ h2⟩
 ·rw [if_neg e]
  have up: ∀{i:Nat} {x:α×Int},kv[i]? =some x->(kv ++ [(k,h0+1)])[i]? =some x:=fun{i x} z=>by rw [eO (aA.mp z).1]; exact z
  have cs: ∀{i:Nat} {x:α×Int},(kv ++ [(k,h0+1)])[i]? =some x->kv[i]? =some x\/(i=kv.length/\x=(k,h0+1)):=fun{i x} z=>by
   rcases DG i kv.length with y | y | y
   ·rw [eO y]at z; exact .inl z
   ·subst y; rw [eD (aw _),jf]at z; exact .inr ⟨rfl,by cases z; rfl⟩
   ·rw [br (by rw [ak,fL]; omega)]at z; cases z
  have hd:=(aA.mp b.at_).1
  refine⟨up b.fst, ?_,up b.at_,fun j k1 h1 z hj=> ?_,fun i k1 h1 hi z k' hk'=> ?_,fun k' hk'=> ?_,fun i j k1 h1 k2 h2 hij z1 z2=> ?_,fun k' h' z=> ?_⟩
  ·rw [bu,hV]
   refine⟨b.nd,by simp,fun x hx y hy=> ?_⟩
   rcases aE.mp hy with rfl
   rintro rfl
   exact e hx
  ·rcases cs z with z | ⟨rfl,q⟩
   ·obtain⟨i,k',h',a1,a2,a3,a4⟩:=b.par j k1 h1 z hj
    exact⟨i,k',h',a1,a2,up a3,a4⟩
   ·cases q
    exact⟨d,k0,h0,hd,by omega,up b.at_,hk,rfl⟩
  ·rcases cs z with z | ⟨rfl,z⟩
   ·obtain⟨h',a1,a2⟩:=b.Ee i k1 h1 hi z k' hk'
    exact⟨h',eT _ a1,a2⟩
   ·omega
  ·rcases bh.mp hk' with z | z
   ·obtain⟨h',a1,a2⟩:=b.now k' z
    exact⟨h',eT _ a1,a2⟩
   ·rcases aE.mp z with rfl
    exact⟨h0+1,by simp,rm _⟩
  ·rcases cs z1 with z1 | ⟨rfl,q1⟩
   ·rcases cs z2 with z2 | ⟨rfl,q⟩
    ·exact b.asc i j k1 h1 k2 h2 hij z1 z2
    ·cases q
     exact b.top _ _ (aP z1)
   ·rcases cs z2 with z2 | ⟨hq,q2⟩
    ·have:=(aA.mp z2).1
     omega
    ·cases q1; cases q2; exact rm _
  ·rcases bh.mp z with z | z
   ·exact b.top k' h' z
   ·cases aE.mp z
    exact rm _
theorem BM.all{d:Nat}{k0:α}{h0:Int}: ∀(m l:List α) {kv:List (α×Int)},BM nb g kv d k0 h0 l->(∀k∈m,k∈nb k0)->BM nb g (m.foldl (Z.visit h0) kv) d k0 h0 (l ++ m)
 | [],l,kv,b,_=>by rw [bj]; exact b
 | k::m,l,kv,b,hm=>by
  have:=BM.all m (l ++ [k]) (b.visit (hm k (.head _))) fun x hx=>hm x (.tail _ hx)
  rw [aI]at this
  exact this
theorem BI.mid{kv:List (α×Int)}{d:Nat}{k0:α}{h0:Int}(b:BI nb g kv d)(e:kv[d]? =some (k0,h0)):BM nb g kv d k0 h0 []:=
 ⟨b.fst,b.nd,e,fun j k h z hj=>let⟨i,k',h',a1,a2,a3⟩:=b.par j k h z hj; ⟨i,k',h',a1,by omega,a3⟩,b.Ee,fun k' hk'=>(by cases hk'),b.asc,fun k' h' z=>b.top d k0 h0 k' h' (aw _) e z⟩
theorem BM.next{kv:List (α×Int)}{d:Nat}{k0:α}{h0:Int}(b:BM nb g kv d k0 h0 (nb k0)):BI nb g kv (d+1):=by
 refine⟨b.fst,b.nd,b.par,fun i k h hi z k' hk'=> ?_,b.asc,fun i k h k' h' hi z1 z2=> ?_⟩
 ·by_cases hid:i=d
  ·subst hid
   rw [b.at_]at z
   cases z
   exact b.now k' hk'
  ·exact b.Ee i k h (by omega) z k' hk'
 ·have h1:=b.top k' h' z2
  have h2:=b.asc d i _ _ _ _ (by omega) b.at_ z1
  omega
theorem BI.step{kv:List (α×Int)}{d:Nat}(b:BI nb g kv d)(hd:d < kv.length):BI nb g (mh nb kv d) (d+1):=by
 have e:kv[d]? =some (kv[d].1,kv[d].2):=ai hd
 unfold mh
 rw [e]
 have:=BM.all (nb kv[d].1) [] (b.mid e) fun k hk=>hk
 exact BM.next this
theorem z9(h:Int)(kv:List (α×Int))(k:α):kv <+:visit h kv k:=by
 unfold visit
 split
 ·exact Fm _
 ·exact List.prefix_append _ _
theorem my(h:Int): ∀(m:List α) (kv:List (α×Int)),kv <+:m.foldl (visit h) kv
 | [],kv=>Fm _
 | k::m,kv=>(z9 h kv k).trans (my h m _)
theorem r6(kv:List (α×Int))(d:Nat):kv <+:mh nb kv d:=by
 unfold mh
 split
 ·exact my _ _ _
 ·exact Fm _
theorem mC{P:α->Prop}(h:Int): ∀(m:List α) (kv:List (α×Int)),(∀x∈kv,P x.1)->(∀k∈m,P k)-> ∀x∈m.foldl (visit h) kv,P x.1
 | [],kv,hk,_=>hk
 | k::m,kv,hk,hm=>by
  refine mC h m _ ?_ fun x hx=>hm x (.tail _ hx)
  unfold visit
  split
  ·exact hk
  ·intro x hx
   rcases bh.mp hx with hx | hx
   ·exact hk x hx
   ·rcases aE.mp hx with rfl
    exact hm k (.head _)
theorem sF{P:α->Prop}{kv:List (α×Int)}{d:Nat}(hc: ∀k,P k-> ∀k'∈nb k,P k')(hk: ∀x∈kv,P x.1): ∀x∈mh nb kv d,P x.1:=by
 unfold mh
 split
 ·rename_i k h e
  exact mC h _ kv hk fun k' hk'=>hc k (hk _ (aP e)) k' hk'
 ·exact hk
theorem Cp{β:Type} [DecidableEq β]: ∀{l m:List β},l.Nodup->(∀x∈l,x∈m)->l.length<=m.length
 | [],m,_,_=>bO _
 | x::l,m,hn,hs=>by
  have hx:=hs x (.head _)
  have:=Cp (l:=l) (m:=m.erase x) (dM.mp hn).2 fun y hy=>(List.mem_erase_of_ne fun z:y=x=>(dM.mp hn).1 (z▸hy)).mpr (hs y (.tail _ hy))
  rw [List.length_erase_of_mem hx]at this
  have h0:=List.length_pos_of_mem hx
  rw [aC]
  omega
theorem yC{P:α->Prop}{N:Nat}(hc: ∀k,P k-> ∀k'∈nb k,P k')(hN: ∀kv:List (α×Int),(kv.map (·.1)).Nodup->(∀x∈kv,P x.1)->kv.length<=N):
  ∀(n:Nat) (kv:List (α×Int)) (d:Nat),BI nb g kv d->(∀x∈kv,P x.1)->d<=kv.length->N<=n+d-> ∃d',BI nb g (E1 nb n kv d) d'/\(∀x∈E1 nb n kv d,P x.1)/\(E1 nb n kv d).length<=d'
 | 0,kv,d,b,hp,hd,hn=>⟨d,b,hp,by have:=hN kv b.nd hp; show kv.length<=d; omega⟩
 | n+1,kv,d,b,hp,hd,hn=>by
  unfold E1
  by_cases h:d < kv.length
  ·rw [if_pos h]
   have:=(r6 (nb:=nb) kv d).length_le
   exact yC hc hN n _ (d+1) (b.step h) (sF hc hp) (by omega) (by omega)
  ·rw [if_neg h]
   exact⟨d,b,hp,by omega⟩
structure BE(nb:α->List α)(g:α)(kv:List (α×Int)):Prop where
 nd:(kv.map (·.1)).Nodup
 goal:(g,0)∈kv
 Ee: ∀k h,(k,h)∈kv-> ∀k'∈nb k, ∃h',(k',h')∈kv/\h'<=h+1
 par: ∀k h,(k,h)∈kv->(k=g/\h=0)\/ ∃k' h',(k',h')∈kv/\k∈nb k'/\h=h'+1
 nn: ∀k h,(k,h)∈kv->0<=h
theorem BI.fin{kv:List (α×Int)}{d:Nat}(b:BI nb g kv d)(hd:kv.length<=d):BE nb g kv:=by
 refine⟨b.nd,aP b.fst,fun k h hk=> ?_,fun k h hk=> ?_,fun k h hk=> ?_⟩
 ·obtain⟨i,hi,e⟩:=aL.mp hk
  exact b.Ee i k h (by omega) (by rw [ai hi,e])
 ·obtain⟨i,hi,e⟩:=aL.mp hk
  rcases jD i with rfl | z
  ·have:=b.fst
   rw [ai hi,e]at this
   cases this
   exact .inl ⟨rfl,rfl⟩
  ·obtain⟨j,k',h',_,_,a3,a4,a5⟩:=b.par i k h (by rw [ai hi,e]) z
   exact .inr ⟨k',h',aP a3,a4,a5⟩
 ·obtain⟨i,hi,e⟩:=aL.mp hk
  exact b.asc 0 i g 0 k h (bO _) b.fst (by rw [ai hi,e])
theorem BE.uniq{kv:List (α×Int)}(b:BE nb g kv){k:α}{h h':Int}(h1:(k,h)∈kv)(h2:(k,h')∈kv):h=h':=by
 obtain⟨i,hi,e1⟩:=aL.mp h1
 obtain⟨j,hj,e2⟩:=aL.mp h2
 have:i=j:=by
  refine(kF (xs:=kv.map (·.1)) (h₀:=by rw [ae]; exact hi) (h₁:=by rw [ae]; exact hj) b.nd).mp ?_
  rw [aR,aR,e1,e2]
 subst this
 rw [e1]at e2
 cases e2
 rfl
end
section
variable {β:Type}
def words(l:List β):Nat->List (List β)
 | 0=> [[]]
 | n+1=>l.flatMap fun x=>(words l n).map (x:: ·)
theorem nS{l:List β}: ∀{n:Nat} {w:List β},w.length=n->(∀x∈w,x∈l)->w∈words l n
 | 0, [],_,_=> .head _
 | n+1,x::w,hl,hx=>by
  unfold words
  refine Fj.mpr ⟨x,hx x (.head _),aX.mpr ⟨w,nS (by simpa using hl) fun y hy=>hx y (.tail _ hy),rfl⟩⟩
theorem n8(l:List β): ∀n:Nat,(words l n).length=l.length ^ n
 | 0=>rfl
 | n+1=>by
  unfold words
  rw [List.length_flatMap]
  have:(l.map fun x=>((words l n).map (x:: ·)).length)=l.map fun _=>l.length ^ n:=List.map_congr_left fun x _=>by rw [ae,n8 l n]
  rw [this,List.map_const',List.sum_replicate_nat,Nat.pow_succ,Nat.mul_comm]
end
theorem y9: ∀{a b:List (List Int)},a.flatten=b.flatten->a.map jY=b.map jY->a=b
 | [], [],_,_=>rfl
 | [],_::_,_,h=>by simp at h
 | _::_, [],_,h=>by simp at h
 | x::a,y::b,h1,h2=>by
  rw [aW,aW]at h2
  injection h2 with e1 e2
  rw [cy,cy]at h1
  obtain⟨e3,e4⟩:=List.append_inj h1 e1
  rw [e3,y9 e4 e2]
theorem oq{r:List Int}: ∀{a:List (List Int)},r∈a->r.length<=a.flatten.length
 | x::a,h=>by
  rw [cy,ak]
  rcases aN.mp h with rfl | h
  ·omega
  ·have:=oq h
   omega
def Of(c:List Int)(m:Nat)(k:List (List Int)):Prop:=k.flatten.Perm c/\k.length=m
theorem GY{c:List Int}{m:Nat}(hc:c.length<=4)(hm:m<=4){kv:List (List (List Int)×Int)}(nd:(kv.map (·.1)).Nodup)(h: ∀x∈kv,Of c m x.1):kv.length<=160000:=by
 have e:(kv.map (·.1)).length=kv.length:=ae _
 have nd2:((kv.map (·.1)).map fun k=>(k.flatten,k.map jY)).Nodup:=by
  refine List.Pairwise.map _ (fun a b hab z=>hab ?_) nd
  exact y9 (oZ.mp z).1 (oZ.mp z).2
 have sub: ∀x∈(kv.map (·.1)).map (fun k=>(k.flatten,k.map jY)),x∈(words c c.length).flatMap fun u=>(words (cn (c.length+1)) m).map fun v=>(u,v):=fun x hx=>by
  obtain⟨k,hk,rfl⟩:=aX.mp hx
  obtain⟨p,hp,rfl⟩:=aX.mp hk
  obtain⟨h1,h2⟩:=h p hp
  refine Fj.mpr ⟨_,nS h1.length_eq fun y hy=>h1.mem_iff.mp hy,aX.mpr ⟨_,nS (by rw [ae]; exact h2) fun y hy=> ?_,rfl⟩⟩
  obtain⟨r,hr,rfl⟩:=aX.mp hy
  have:=oq hr
  rw [h1.length_eq]at this
  exact g8.mpr (by omega)
 have:=Cp nd2 sub
 rw [ae,e,List.length_flatMap]at this
 have q:((words c c.length).map fun u=>((words (cn (c.length+1)) m).map fun v=>(u,v)).length)=(words c c.length).map fun _=>(c.length+1) ^ m:=List.map_congr_left fun x _=>by rw [ae,n8,cW]
 rw [q,List.map_const',List.sum_replicate_nat,n8]at this
 refine bg this ?_
 generalize c.length=n at hc
 have a1:n=0\/n=1\/n=2\/n=3\/n=4:=by omega
 have a2:m=0\/m=1\/m=2\/m=3\/m=4:=by omega
 clear this h nd nd2 sub e q hm
 rcases a1 with rfl | rfl | rfl | rfl | rfl <;> rcases a2 with rfl | rfl | rfl | rfl | rfl <;> decide
end Z
namespace Z
open PySem PySem.Spec PyProof.Rows L2
theorem DW.exact{X:Cx}{ρ:eG}{e:Expr}{R:D->Prop}{d:D}(h:DW X ρ e R)(u: ∀d',R d'->d'=d):av X ρ e d:=fun M0 H0 γ α σ H Q r k=>h M0 H0 γ α σ H Q r fun d' v H' q s x=>k v H' s (u d' q▸x)
end Z
namespace Z
theorem Jv{α:Type _}: ∀(us:List α),us.length=1-> ∃a,us= [a]
 | [a],_=>⟨a,rfl⟩
theorem IU{α:Type _}: ∀(us:List α),us.length=2-> ∃a b,us= [a,b]
 | [a,b],_=>⟨a,b,rfl⟩
theorem JG{α:Type _}: ∀(us:List α),us.length=3-> ∃a b c,us= [a,b,c]
 | [a,b,c],_=>⟨a,b,c,rfl⟩
theorem IX{α:Type _}: ∀(us:List α),us.length=5-> ∃a b c d e,us= [a,b,c,d,e]
 | [a,b,c,d,e],_=>⟨a,b,c,d,e,rfl⟩
end Z
namespace Z
open PySem L2 PyProof.Rows
end Z
namespace Z
open PySem PySem.Spec PyProof.Rows L2
theorem lN{H H1:Hp}{l:Addr}(s:bI H H1):bI (dC H l) (dC H1 l):=fun b o e=>by
 unfold dC at e ⊢
 split at e
 ·cases e
 ·rename_i h
  rw [if_neg h]
  exact s b o e
theorem iz{H:Hp}{l b:Addr}{o:HO}(h:b≠l)(e:H b=some o):dC H l b=some o:=by unfold dC; rw [if_neg h]; exact e
end Z
namespace Z
open PySem PySem.Spec PyProof.Rows
end Z
namespace Z
open PySem PySem.Spec PyProof.Rows L2
section
variable {X:Cx}{ρ:eG}{M0:MP}{H0:Hp}{P:nZ}{a b e:Expr}{pos:Pos}{d:D}
theorem W1.clear{i:Nat}{x:Str}{ds:List D}{p1 p2 p3:Pos}(hi:X.N[i]? =some x)(hv:tN X.env.scope x)(hρ:ρ[i]? =some (.mu ds))(q:P.N (ρ.set i (.mu [])))
  (mc:Km X (.Name x p1) "clear" p2 p3)(hd:(x==("__debug__":Str))=false:=by decide)(hcd:(x==("__classdict__":Str))=false:=by decide)(hsw:cg (.Call (.Attribute (.Name x p1) "clear" p2) [] [] p3) none pos.line X.env=pure false:=by rfl):
  W1 X M0 H0 (.Expr (.Call (.Attribute (.Name x p1) "clear" p2) [] [] p3) pos) ρ P:=
 W1.mt0 (es:= []) gV PySem.F.slot_list_clear PySem.F.type_list_clear AK hi hv hρ (fun M H l xs Q a b k=>⟨l,xs,rfl,rfl,a,k _ _ rfl⟩) q mc hd hcd hsw
end
end Z
namespace Z
open PySem PySem.Spec PySem.W PyProof.Rows
structure l9(h:Heap)(d:Addr)(es:Array cJ)(ep:Nat):Prop where
 ex: ∃o,h.get? d=some o/\o.ExactDict/\o.data= .dict es ep
theorem l9.at{h h':Heap}{d:Addr}{es:Array cJ}{ep:Nat}(x:l9 h d es ep)(k: ∀o,h.get? d=some o->h'.get? d=some o):l9 h' d es ep:=let⟨o,h1,r⟩:=x.ex; ⟨o,k o h1,r⟩
def sg(d:Addr)(i n ep:Nat):Obj:={cls:= .type "dict_keyiterator",data:= .fields #[.ref d, .int i 0, .int n 0, .int ep 0]}
section
variable {prog:ar}{w:World}{A:bp}{E:Value->ah->Prop}{s:ah}{d:Addr}{es:Array cJ}{ep:Nat}
theorem l9.ty(x:l9 s.heap d es ep):s.TypeIs (.ref d) "dict":=let⟨o,h1,h2,_⟩:=x.ex; ⟨o,h1,h2.1⟩
theorem Bd{Q:Value->ah->Prop}(hd:(d==fU)=false)(x:l9 s.heap d es ep)(h:Q (.ref s.heap.objs.size) {s with heap:=s.heap.push (sg d 0 es.size ep)}):wpAny (model prog w) A (qV (.ref d)) Q E s:=by
 have ty:=x.ty
 obtain⟨o,k1,k2,k3⟩:=x.ex
 refine h_ ty PySem.F.slot_dict_iter (bF PySem.F.slot_dict_iter ty PySem.F.entry_dict_iter ?_ (PySem.F.args_dict_iter_1 _))
 unfold cG.«dict.__iter__»
 refine aa ?_
 unfold Builtin.Dict.dictSlotNone
 refine aa (wpAny_notOrdered_dict ty ?_)
 show wpAny _ _ (pure (ao d)) _ _ s
 refine af ?_
 show wpAny _ _ (md d >>=_) _ _ s
 unfold md
 rw [if_neg (by rw [hd]; exact az)]
 refine aa (af ?_)
 refine aa (j7 k1 k3 ?_)
 refine aa (rX k1 k3 ?_)
 refine aa (ba (af ⟨_,rfl,"dict_keyiterator",_,⟨_,au _ rfl,rfl⟩,gU.lookup, ?_⟩))
 simpa [dX,sg]using h
theorem vj{I:Addr}{i:Nat}{Q:Option Value->ah->Prop}(hh:A.handled=none)(hI:s.heap.get? I=some (sg d i es.size ep))(x:l9 s.heap d es ep)
  (h1: ∀(hi:i < es.size) (h':Heap),h'.get? I=some (sg d (i+1) es.size ep)->bH I s.heap h'->Q (some es[i].key) {s with heap:=h'})
  (h2:es.size<=i-> ∀h',Ay I s.heap h'->Q none {s with heap:=h'}):wpAny (model prog w) A (g9 (.ref I)) Q E s:=by
 have ty:s.TypeIs (.ref I) "dict_keyiterator":=⟨_,hI,rfl⟩
 obtain⟨o,k1,k2,k3⟩:=x.ex
 unfold g9
 refine aa (kl (cm (name:=eV "__next__") ty gU (bF gU ty PySem.F.entry_dict_keyiterator_next ?_ (PySem.F.args_dict_keyiterator_next_1 _))))
 refine aa (af ?_)
 refine aa ?_
 refine aa ?_
 first | refine aa (rp ty (af ?_)) | refine aa (wU ty (af ?_))
 refine aa (wpAny_fieldsOf hI rfl ?_)
 have own:rY "dict_keyiterator"=false:=by decide
 simp only [own,aS,if_false]
 show wpAny _ _ (if(ao d==a_)=true then _ else _) _ _ s
 rw [if_neg (show ¬((ao d==a_)=true)from az)]
 refine aa (af ?_)
 refine aa (j7 k1 k3 ?_)
 rw [if_neg (by simp)]
 refine aa (af ?_)
 refine aa (rX k1 k3 ?_)
 rw [if_neg (by simp)]
 refine af ?_
 by_cases hi:i < es.size
 ·simp only [show ¬((i:Int) < 0)from by omega,if_false,cH,dg hi]
  refine aa ?_
  first | refine aa (rp ty (af ?_)) | refine aa (wU ty (af ?_))
  refine aa (wpAny_isOneOf_keyiter ty ?_)
  show wpAny _ _ (fY (.ref I) 1 (dX ((i:Int)+1)) >>=_) _ _ s
  refine aa (dB hI rfl (by show 1 < 4; decide) ?_)
  have hI':(s.heap.update I (fI (·.setIfInBounds 1 (dX ((i:Int)+1))))).get? I=some (sg d (i+1) es.size ep):=di _ hI rfl
  refine aa (bD ?_)
  refine aa (wpAny_isOneOf_keyiter (s:={s with heap:=s.heap.update I (fI (·.setIfInBounds 1 (dX ((i:Int)+1))))}) ⟨_,hI',rfl⟩ ?_)
  show wpAny _ _ (pure es[i].key) _ _ _
  exact af (af ⟨_,rfl,af (h1 hi _ hI' (bG ..))⟩)
 ·have hi:es.size<=i:=by omega
  simp only [show ¬((i:Int) < 0)from by omega,if_false,cH,Array.getElem?_eq_none hi]
  refine aa ?_
  first | refine aa (rp ty (af ?_)) | refine aa (wU ty (af ?_))
  show wpAny _ _ (fY (.ref I) 0 .none >>=_) _ _ s
  refine aa (dB hI rfl (by show 0 < 4; decide) ?_)
  show wpAny _ _ (qX (.type "StopIteration") [] >>=_) _ _ _
  refine aa ?_
  simp only [qX,newTuple]
  refine aa (ba ?_ (by size_fits))
  refine aa (m:=fZ _ _) (rh (a:=a_) (by first | rfl | (simp only [fZ]; rfl)) ?_)
  refine ba ?_ (by size_fits)
  simp only [raiseNew]
  refine aa (wO ?_)
  rw [show A.in1.handled=none from hh]
  refine aa (af (Az ?_))
  refine aa (fv (T:="StopIteration") (b:=true) ⟨_,au _ rfl,rfl⟩ uW ?_)
  exact af (h2 hi _ (((bG ..).extBut.push _).push _))
end
def gc(f0 f1 ok ov:Value)(d:Addr)(i n ep:Nat):Obj:={cls:= .type "dict_itemiterator",data:= .fields #[f0,f1, .ref d, .int i 0, .int n 0, .int ep 0,ok,ov]}
def ve(d:Addr):Obj:={cls:= .type "dict_items",data:= .fields #[.ref d]}
def fj(e:cJ):Obj:={cls:= .type "tuple",data:= .seq #[e.key,e.val]}
section
variable {prog:ar}{w:World}{A:bp}{E:Value->ah->Prop}{s:ah}{d v:Addr}{es:Array cJ}{ep:Nat}
theorem zq(hd:(d==fU)=false):MeetsIn prog w (cG.«dict.items» ⟨[.ref d], []⟩) (fun _ R s=>l9 s.heap d es ep/\R (.ok (.ret (.ref s.heap.objs.size))) {s with heap:=s.heap.push (ve d)}):=
 .of_wp fun A R s ⟨x,h⟩=>by
  unfold cG.«dict.items»
  refine aa ?_
  unfold Builtin.Dict.noArgs
  refine aa (wpAny_notOrdered_dict x.ty ?_)
  show wpAny _ _ (pure d) _ _ s
  refine af ?_
  show wpAny _ _ (md d >>=_) _ _ s
  unfold md
  rw [if_neg (by rw [hd]; exact az)]
  refine aa (af ?_)
  exact aa (ba (af ⟨_,rfl,h⟩))
theorem xW{Q:Value->ah->Prop}(hv:s.heap.get? v=some (ve d))(x:l9 s.heap d es ep)(h:Q (.ref s.heap.objs.size) {s with heap:=s.heap.push (gc .none (.bool false) .none .none d 0 es.size ep)}):wpAny (model prog w) A (qV (.ref v)) Q E s:=by
 have ty:s.TypeIs (.ref v) "dict_items":=⟨_,hv,rfl⟩
 obtain⟨o,k1,k2,k3⟩:=x.ex
 refine h_ ty PySem.F.slot_dict_items_iter (bF PySem.F.slot_dict_items_iter ty PySem.F.entry_dict_items_iter ?_ (PySem.F.args_dict_items_iter_1 _))
 unfold cG.«dict_items.__iter__»
 refine aa (af ?_)
 refine aa ?_
 unfold Builtin.Dict_items.dictOf
 refine aa (bA hv rfl (x:= .ref d) rfl (af ?_))
 refine aa ?_
 unfold Builtin.Dict_items.newIterator
 refine aa (j7 k1 k3 ?_)
 refine aa (rX k1 k3 ?_)
 have own:rY "dict_itemiterator"=true:=by decide
 simp only [own,if_true]
 refine ba (af ⟨_,rfl,"dict_itemiterator",_,⟨_,au _ rfl,rfl⟩,nE.lookup, ?_⟩) (by simp only [sizeOk,Builtin.Dict_items.ownedTupleFields,ax,ak,aC,bQ,fy]; omega)
 simpa [dX,gc,Builtin.Dict_items.ownedTupleFields]using h
theorem Bx{M:Model}{a:Addr}{Q:Option Obj->ah->Prop}(h:Q (s.heap.get? a) s):wpAny M A (AA a) Q E s:=fun Γ p hΓ=>h
theorem pF{I:Addr}{i:Nat}{f0 f1 ok ov:Value}{Q:Option Value->ah->Prop}(hh:A.handled=none)(hI:s.heap.get? I=some (gc f0 f1 ok ov d i es.size ep))(hf0:f0= .none\/ ∃a:Addr,f0=dX a)(x:l9 s.heap d es ep)
  (h1: ∀(hi:i < es.size) (h':Heap) (g0 g1 gk gv:Value),(g0= .none\/ ∃a:Addr,g0=dX a)->h'.get? I=some (gc g0 g1 gk gv d (i+1) es.size ep)->h'.get? s.heap.objs.size=some (fj es[i])->(∀b o,b≠I->s.heap.get? b=some o->h'.get? b=some o)->Q (some (.ref s.heap.objs.size)) {s with heap:=h'})
  (h2:es.size<=i-> ∀h',Ay I s.heap h'->Q none {s with heap:=h'}):wpAny (model prog w) A (g9 (.ref I)) Q E s:=by
 obtain⟨hp,g,dr,tk,os⟩:=s
 have ty:iN ⟨hp,g,dr,tk,os⟩ (.ref I) "dict_itemiterator":=⟨_,hI,rfl⟩
 obtain⟨o,k1,k2,k3⟩:=x.ex
 unfold g9
 refine aa (kl (cm (name:=eV "__next__") ty nE (bF nE ty PySem.F.entry_dict_itemiterator_next ?_ (PySem.F.args_dict_itemiterator_next_1 _))))
 refine aa (af ?_)
 refine aa ?_
 refine aa ?_
 first | refine aa (q9 ty (af ?_)) | refine aa (u_ ty (af ?_))
 refine aa (wpAny_fieldsOf hI rfl ?_)
 have own:rY "dict_itemiterator"=true:=by decide
 simp only [own,if_true]
 show wpAny _ _ (if(ao d==a_)=true then _ else _) _ _ _
 rw [if_neg (show ¬((ao d==a_)=true)from az)]
 refine aa (af ?_)
 refine aa (j7 k1 k3 ?_)
 rw [if_neg (by simp)]
 refine aa (af ?_)
 refine aa (rX k1 k3 ?_)
 rw [if_neg (by simp)]
 refine af ?_
 by_cases hi:i < es.size
 ·simp only [show ¬((i:Int) < 0)from by omega,if_false,cH,dg hi]
  refine aa ?_
  first | refine aa (q9 ty (af ?_)) | refine aa (u_ ty (af ?_))
  refine aa (yo ty ?_)
  show wpAny _ _ (fY (.ref I) 3 (dX ((i:Int)+1)) >>=_) _ _ ⟨hp,g,dr,tk,os⟩
  refine aa (bS hI (by show 3 < 8; decide) fun a1 e1 s1=> ?_)
  replace s1:bH I hp a1:=s1
  replace e1:a1.get? I=some (gc f0 f1 ok ov d (i+1) es.size ep):=e1
  have ty1:iN ⟨a1,g,dr,tk,os⟩ (.ref I) "dict_itemiterator":=⟨_,e1,rfl⟩
  refine aa (bD ?_)
  refine aa (yo ty1 ?_)
  refine aa (yo ty1 ?_)
  show wpAny _ _ (Builtin.Dict_items.pairFromOwner (.ref I) 6 es[i].key es[i].val) _ _ ⟨a1,g,dr,tk,os⟩
  unfold Builtin.Dict_items.pairFromOwner
  refine aa (uX ?_)
  have e2:(a1.push (fj es[i])).get? I=some (gc f0 f1 ok ov d (i+1) es.size ep):=ag _ e1
  have z1:a1.objs.size=hp.objs.size:=s1.1
  have hil:I < hp.objs.size:=ay hI
  have t2:(a1.push (fj es[i])).get? hp.objs.size=some (fj es[i]):=by rw [<-z1]; exact au _ rfl
  have q2: ∀b o,b≠I->hp.get? b=some o->(a1.push (fj es[i])).get? b=some o:=fun b o hb e=>ag _ (s1.extBut b o hb e)
  show wpAny _ _ (Builtin.Dict_items.ownedTupleIsFree (.ref I) >>=_) _ _ ⟨a1.push (fj es[i]),g,dr,tk,os⟩
  rw [z1]
  generalize a1.push (fj es[i])=a2 at e2 t2 q2
  have free: ∀{Q':Value->ah->Prop},(∀h' g0 g1 gk gv,(g0= .none\/ ∃a:Addr,g0=dX a)->h'.get? I=some (gc g0 g1 gk gv d (i+1) es.size ep)->h'.get? hp.objs.size=some (fj es[i])->(∀b o,b≠I->hp.get? b=some o->h'.get? b=some o)->Q' (.ref hp.objs.size) ⟨h',g,dr,tk,os⟩)-> ∀{E':Value->ah->Prop},
    wpAny (model prog w) A.in1 (do
     let old:= [<-field (.ref I) 6, <-field (.ref I) (6+1)]
     fY (.ref I) 6 es[i].key; fY (.ref I) (6+1) es[i].val
     fY (.ref I) 0 (dX hp.objs.size); fY (.ref I) 1 (.bool false)
     letGo old [.ref hp.objs.size]
     pure (.ref hp.objs.size)) Q' E' ⟨a2,g,dr,tk,os⟩:=fun{Q'} hQ {E'}=>by
   refine aa (bA e2 rfl (x:=ok) rfl ?_)
   refine aa (bA e2 rfl (x:=ov) rfl ?_)
   refine aa (bS e2 (by show 6 < 8; decide) fun a3 e3 s3=> ?_)
   replace s3:bH I a2 a3:=s3
   replace e3:a3.get? I=some (gc f0 f1 es[i].key ov d (i+1) es.size ep):=e3
   refine aa (bS e3 (by show 7 < 8; decide) fun a4 e4 s4=> ?_)
   replace s4:bH I a3 a4:=s4
   replace e4:a4.get? I=some (gc f0 f1 es[i].key es[i].val d (i+1) es.size ep):=e4
   refine aa (bS e4 (by show 0 < 8; decide) fun a5 e5 s5=> ?_)
   replace s5:bH I a4 a5:=s5
   replace e5:a5.get? I=some (gc (dX hp.objs.size) f1 es[i].key es[i].val d (i+1) es.size ep):=e5
   refine aa (bS e5 (by show 1 < 8; decide) fun a6 e6 s6=> ?_)
   replace s6:bH I a5 a6:=s6
   replace e6:a6.get? I=some (gc (dX hp.objs.size) (.bool false) es[i].key es[i].val d (i+1) es.size ep):=e6
   refine aa (rj (af (hQ a6 _ _ _ _ (.inr ⟨_,rfl⟩) e6 ?_ ?_)))
   ·exact s6.extBut _ _ (bY hil) (s5.extBut _ _ (bY hil) (s4.extBut _ _ (bY hil) (s3.extBut _ _ (bY hil) t2)))
   ·exact fun b o hb e=>s6.extBut b o hb (s5.extBut b o hb (s4.extBut b o hb (s3.extBut b o hb (q2 b o hb e))))
  have fin: ∀h' g0 g1 gk gv,(g0= .none\/ ∃a:Addr,g0=dX a)->h'.get? I=some (gc g0 g1 gk gv d (i+1) es.size ep)->h'.get? hp.objs.size=some (fj es[i])->(∀b o,b≠I->hp.get? b=some o->h'.get? b=some o)->Q (some (.ref hp.objs.size)) ⟨h',g,dr,tk,os⟩:=fun h' g0 g1 gk gv c1 c2 c3 c4=>h1 hi h' g0 g1 gk gv c1 c2 c3 c4
  refine aa ?_
  unfold Builtin.Dict_items.ownedTupleIsFree
  refine aa (bA e2 rfl (x:=f0) rfl ?_)
  rcases hf0 with rfl | ⟨a,rfl⟩
  ·refine af ?_
   rw [if_pos rfl]
   exact free fun h' g0 g1 gk gv c1 c2 c3 c4=>af ⟨_,rfl,af (fin h' g0 g1 gk gv c1 c2 c3 c4)⟩
  ·refine aa (Bx ?_)
   cases ea:a2.get? a with
   | none=>
    refine eS (fun _=> ?_) fun z=>absurd ?_ z
    ·refine af ?_
     rw [if_pos rfl]
     exact free fun h' g0 g1 gk gv c1 c2 c3 c4=>af ⟨_,rfl,af (fin h' g0 g1 gk gv c1 c2 c3 c4)⟩
    ·show(a2.get? ((a:Int).toNat)).isNone=true
     rw [cH,ea]
     rfl
   | some oa=>
    refine eS (fun z=>absurd (show(a2.get? ((a:Int).toNat)).isNone=true from z) (by rw [cH,ea]; exact az)) fun _=> ?_
    refine aa (bA e2 rfl (x:=f1) rfl ?_)
    refine eS (fun _=> ?_) fun _=> ?_
    ·refine aa (bS e2 (by show 1 < 8; decide) fun a3 e3 s3=> ?_)
     replace s3:bH I a2 a3:=s3
     replace e3:a3.get? I=some (gc (dX a) (.bool true) ok ov d (i+1) es.size ep):=e3
     refine af ?_
     rw [if_neg az]
     exact af (af ⟨_,rfl,af (fin a3 _ _ _ _ (.inr ⟨a,rfl⟩) e3 (s3.extBut _ _ (bY hil) t2) fun b o hb e=>s3.extBut b o hb (q2 b o hb e))⟩)
    ·refine af ?_
     rw [if_neg az]
     exact af (af ⟨_,rfl,af (fin a2 _ _ _ _ (.inr ⟨a,rfl⟩) e2 t2 q2)⟩)
 ·have hi:es.size<=i:=by omega
  simp only [show ¬((i:Int) < 0)from by omega,if_false,cH,Array.getElem?_eq_none hi]
  refine aa ?_
  first | refine aa (q9 ty (af ?_)) | refine aa (u_ ty (af ?_))
  show wpAny _ _ (fY (.ref I) 2 .none >>=_) _ _ ⟨hp,g,dr,tk,os⟩
  refine aa (dB hI rfl (by show 2 < 8; decide) ?_)
  show wpAny _ _ (qX (.type "StopIteration") [] >>=_) _ _ _
  refine aa ?_
  simp only [qX,newTuple]
  refine aa (ba ?_ (by size_fits))
  refine aa (m:=fZ _ _) (rh (a:=a_) (by first | rfl | (simp only [fZ]; rfl)) ?_)
  refine ba ?_ (by size_fits)
  simp only [raiseNew]
  refine aa (wO ?_)
  rw [show A.in1.handled=none from hh]
  refine aa (af (Az ?_))
  refine aa (fv (T:="StopIteration") (b:=true) ⟨_,au _ rfl,rfl⟩ uW ?_)
  exact af (h2 hi _ (((bG ..).extBut.push _).push _))
end
section
variable {prog:ar}{w:World}{A:bp}{E:Value->ah->Prop}{s:ah}{d v:Addr}{es:Array cJ}{ep:Nat}
theorem tf{I L:Addr}{res:Value}{R:Result->ah->Prop}{s0:ah}(hh:A.in1.handled=none)(kr:es.size<=sizeLine)(hLI:L≠I)(hId:I≠d)(hLd:L≠d){m0:Nat}:
  ∀(k i:Nat) (h:Heap) (bs:List Addr) (c:Nat),m0<=h.objs.size->(∀b∈bs,m0<=b)->es.size - i=k->i<=es.size->(∃f0 f1 ok ov,(f0= .none\/ ∃a:Addr,f0=dX a)/\h.get? I=some (gc f0 f1 ok ov d i es.size ep))->l9 h d es ep->
   h.get? L=some {cls:= .type "list",dict:=none,data:= .seq (bs.map ao).toArray c,slots:= #[]}->bs.length=i->(∀j b,bs[j]? =some b-> ∃hj:j < es.size,h.get? b=some (fj es[j]))->(∀b ob,b≠L->b≠I->s0.heap.get? b=some ob->h.get? b=some ob)->
   (∀(h':Heap) (bs':List Addr) (c':Nat),(∀b∈bs',m0<=b)->h'.get? L=some {cls:= .type "list",dict:=none,data:= .seq (bs'.map ao).toArray c',slots:= #[]}->bs'.length=es.size->(∀j b,bs'[j]? =some b-> ∃hj:j < es.size,h'.get? b=some (fj es[j]))->(∀b ob,b≠L->b≠I->s0.heap.get? b=some ob->h'.get? b=some ob)->R (.ok (.ret res)) {s0 with heap:=h'})->
   gG (model prog w) A (.builtin "list.extend.loop" ⟨[.ref L, .ref I,res], []⟩) R {s0 with heap:=h}:=by
 intro k
 induction k with
 | zero=>
  intro i h bs c hm1 hm2 hk hi ⟨f0,f1,ok,ov,hf,hI⟩ x hL hb hp hs hR
  have hin:i=es.size:=by omega
  subst hin
  refine dO PySem.F.entry_extend_loop ?_
  rw [cS dh _]
  show wpAny _ A.in1 (g9 (.ref I) >>=_) _ _ _
  refine aa (pF (s:={s0 with heap:=h}) hh hI hf x (fun hi=>absurd hi (e9 _)) fun _ h' eb=> ?_)
  refine af (hR h' bs c hm2 (eb _ _ hLI hL) hb (fun j b e=> ?_) fun b ob n1 n2 e=>eb b ob n2 (hs b ob n1 n2 e))
  obtain⟨hj,e2⟩:=hp j b e
  exact⟨hj,eb _ _ (by rintro rfl; rw [hI]at e2; exact absurd (show cu "dict_itemiterator"=cu "tuple" from congrArg Obj.cls (aK e2)) (by decide)) e2⟩
 | succ k ih=>
  intro i h bs c hm1 hm2 hk hi ⟨f0,f1,ok,ov,hf,hI⟩ x hL hb hp hs hR
  refine dO PySem.F.entry_extend_loop ?_
  rw [cS dh _]
  show wpAny _ A.in1 (g9 (.ref I) >>=_) _ _ _
  refine aa (pF (s:={s0 with heap:=h}) hh hI hf x (fun hi h' g0 g1 gk gv c1 c2 c3 c4=> ?_) fun hge=>absurd hge (by omega))
  have hL':=c4 L _ hLI hL
  have hLlt:L < h.objs.size:=ay hL
  have hIlt:I < h.objs.size:=ay hI
  have sz:(bs.map ao).toArray.size=i:=by rw [ax,ae,hb]
  show wpAny _ A.in1 (updateSeq L (·.push (.ref h.objs.size)) >>=_) _ _ _
  refine aa ?_
  have up: ∀b ob,b≠L->h'.get? b=some ob->(h'.update L (cR (·.push (.ref h.objs.size)))).get? b=some ob:=fun b ob hb e=>(cV _ _ (fun z:L=b=>hb z.symm)).trans e
  obtain⟨cc,hc2⟩: ∃cc,(h'.update L (cR (·.push (.ref h.objs.size)))).get? L=some {cls:= .type "list",dict:=none,data:= .seq ((bs ++ [h.objs.size]).map ao).toArray cc,slots:= #[]}:=by
   have e:=gJ (c:="list") hL' (·.push (.ref h.objs.size))
   have ep:((bs ++ [h.objs.size]).map ao).toArray=(bs.map ao).toArray.push (.ref h.objs.size):=by
    apply kK.mp
    rw [hW,bu]
    rfl
   rw [ep]
   exact⟨_,e⟩
  refine FP hL' rfl (af ⟨fe dh _,ih (i+1) _ (bs ++ [h.objs.size]) cc (by show m0<=(h'.update L _).objs.size; rw [Heap.size_update]; exact bg hm1 (jb (ay c3))) (fun b hb'=>(bh.mp hb').elim (hm2 b) fun z=>by rw [aE.mp z]; exact hm1) (by omega) (by omega) ⟨g0,g1,gk,gv,c1,up _ _ hLI.symm c2⟩ (x.at fun o e=>up _ _ hLd.symm (c4 _ _ hId.symm e)) hc2 (by rw [ak,hb]; rfl) (fun j b e=> ?_) (fun b ob n1 n2 e=>up _ _ n1 (c4 _ _ n2 (hs b ob n1 n2 e))) hR⟩) (by rw [sz]; omega) (by show((bs.map ao).toArray.push _).size<=sizeLine+1; rw [Array.size_push,sz]; omega)
  ·rw [Ax]at e
   split at e
   ·obtain⟨hj,e2⟩:=hp j b e
    refine⟨hj,up _ _ (by rintro rfl; rw [hL]at e2; exact absurd (show cu "list"=cu "tuple" from congrArg Obj.cls (aK e2)) (by decide)) (c4 _ _ (by rintro rfl; rw [hI]at e2; exact absurd (show cu "dict_itemiterator"=cu "tuple" from congrArg Obj.cls (aK e2)) (by decide)) e2)⟩
   ·rename_i hn
    have ej:j - bs.length=0:=by
     rcases jD (j - bs.length)with z | z
     ·exact z
     ·rw [br (by simp; omega)]at e; cases e
    rw [ej]at e
    have hj:j=i:=by omega
    subst hj
    cases e
    exact⟨hi,up _ _ (bY hLlt) c3⟩
theorem rE{Q:List Value->ah->Prop}(hh:A.handled=none)(hv:s.heap.get? v=some (ve d))(x:l9 s.heap d es ep)(kr:es.size<=sizeLine)
  (hQ: ∀(h':Heap) (bs:List Addr),s.heap.objs.size < h'.objs.size->(∀b ob,s.heap.get? b=some ob->h'.get? b=some ob)->bs.length=es.size->(∀b∈bs,s.heap.objs.size<=b)->(∀j b,bs[j]? =some b-> ∃hj:j < es.size,h'.get? b=some (fj es[j]))->Q (bs.map ao) {s with heap:=h'}):wpAny (model prog w) A (collect (.ref v)) Q E s:=by
 have hlt:v < s.heap.objs.size:=ay hv
 have hltd:d < s.heap.objs.size:=let⟨o,k1,_⟩:=x.ex; ay k1
 unfold collect
 refine aa (wpAny_runValue (dO PySem.F.entry_proto_collect ?_))
 rw [cS PySem.F.plain_proto_collect _]
 show wpAny _ A.in1 (newList [] >>=fun l=>again (.builtin "list.__iadd__" ⟨[l, .ref v], []⟩)) _ _ s
 refine aa (ba ?_)
 refine af ⟨fe kI _,dO PySem.F.entry_list_iadd ?_⟩
 rw [cS kI _]
 have x1:l9 (s.heap.push {cls:= .type "list",data:= .seq ([]:List Value).toArray}) d es ep:=x.at fun o e=>ag _ e
 have hS₁:(s.heap.push {cls:= .type "list",data:= .seq ([]:List Value).toArray}).get? s.heap.objs.size=some {cls:= .type "list",data:= .seq ([]:List Value).toArray}:=au _ rfl
 have h1:km (.ref s.heap.objs.size) (.ref v)=false:=by simp [km,bY hlt]
 have ty:iN {s with heap:=s.heap.push {cls:= .type "list",data:= .seq ([]:List Value).toArray}} (.ref v) "dict_items":=⟨_,ag _ hv,rfl⟩
 show wpAny _ A.in1 (jg (.ref s.heap.objs.size) (.ref v) (.ref s.heap.objs.size)) _ _ _
 unfold jg
 refine aa (gn ty ?_)
 rw [if_neg (by rw [h1]; decide)]
 refine aa (xW (s:={s with heap:=s.heap.push {cls:= .type "list",data:= .seq ([]:List Value).toArray}}) (ag _ hv) x1 ?_)
 refine aa (bD ?_)
 unfold Builtin.List.listLengthHint
 have x2:l9 ((s.heap.push {cls:= .type "list",data:= .seq ([]:List Value).toArray}).push (gc .none (.bool false) .none .none d 0 es.size ep)) d es ep:=x1.at fun o e=>ag _ e
 have ty2:iN {s with heap:=(s.heap.push {cls:= .type "list",data:= .seq ([]:List Value).toArray}).push (gc .none (.bool false) .none .none d 0 es.size ep)} (.ref v) "dict_items":=⟨_,ag _ (ag _ hv),rfl⟩
 refine aa (gI ty2 PySem.F.slot_dict_items_len.lookup ?_)
 generalize hid:("dict_items.__len__":String)=id0
 dsimp only
 rw [show splitId id0=some ("dict_items","__len__")from by subst hid; decide +kernel]
 subst hid
 dsimp only
 refine aa (fv (b:=true) ty2 (by rw [uV]; kernel_rfl) ?_)
 rw [if_neg (show ¬(!true)=true by decide)]
 refine eS (fun _=> ?_) fun hs=>(hs (by decide +kernel)).elim
 refine aa (gn ty2 (af ?_))
 have szl:(s.heap.push {cls:= .type "list",data:= .seq ([]:List Value).toArray}).objs.size=s.heap.objs.size+1:=cM ..
 have hne:s.heap.objs.size≠(s.heap.push {cls:= .type "list",data:= .seq ([]:List Value).toArray}).objs.size:=by rw [szl]; exact aM (eu _)
 have hId:(s.heap.push {cls:= .type "list",data:= .seq ([]:List Value).toArray}).objs.size≠d:=by rw [szl]; exact bY (cX hltd)
 have hL2:((s.heap.push {cls:= .type "list",data:= .seq ([]:List Value).toArray}).push (gc .none (.bool false) .none .none d 0 es.size ep)).get? s.heap.objs.size=some {cls:= .type "list",data:= .seq ([]:List Value).toArray}:=ag _ hS₁
 have hI2:((s.heap.push {cls:= .type "list",data:= .seq ([]:List Value).toArray}).push (gc .none (.bool false) .none .none d 0 es.size ep)).get? (s.heap.push {cls:= .type "list",data:= .seq ([]:List Value).toArray}).objs.size=some (gc .none (.bool false) .none .none d 0 es.size ep):=au _ rfl
 have hk2: ∀b ob,s.heap.get? b=some ob->((s.heap.push {cls:= .type "list",data:= .seq ([]:List Value).toArray}).push (gc .none (.bool false) .none .none d 0 es.size ep)).get? b=some ob:=fun b ob e=>ag _ (ag _ e)
 generalize hI0:(s.heap.push {cls:= .type "list",data:= .seq ([]:List Value).toArray}).objs.size=I0 at hne hId hI2 szl ⊢
 generalize hH0:(s.heap.push {cls:= .type "list",data:= .seq ([]:List Value).toArray}).push (gc .none (.bool false) .none .none d 0 es.size ep)=H0 at hL2 hI2 hk2 x2 ⊢
 have fin: ∀(h':Heap) (c:Nat),bH s.heap.objs.size H0 h'->h'.get? s.heap.objs.size=some {cls:= .type "list",dict:=none,data:= .seq #[] c,slots:= #[]}->
   gG (model prog w) A (.builtin "list.extend.loop" ⟨[.ref s.heap.objs.size, .ref I0, .ref s.heap.objs.size], []⟩) (fun r s'=>match r with
       | Except.ok (Flow.ret v)=>
        wpAny (model prog w) A
         (match v with
         | ao a=>do
          let __do_lift<-load a
          match __do_lift.data with
           | Av xs epoch=>pure xs.toList
           | x=>j4 "internal:collect"
         | x=>j4 "internal:collect")
         Q E s'
       | Except.ok a=>False
       | Except.error e=>E e s') {s with heap:=h'}:=fun h' c sb hl=>by
  refine tf (s0:=s) (L:=s.heap.objs.size) (by simpa using hh) kr hne hId (bY hltd) (m0:=s.heap.objs.size) es.size 0 h' [] c (jb (ay hl)) (fun b hb=>by cases hb) (by omega) (bO _) ⟨_,_,_,_, .inl rfl,(sb.2 I0 hne.symm).trans hI2⟩ (x2.at fun o e=>(sb.2 d (aM hltd)).trans e) hl rfl (fun j b e=>by cases e) (fun b ob h1 h2 e=>(sb.2 b h1).trans (hk2 b ob e)) (fun h2 bs c' q0 q1 q2 q3 q4=> ?_)
  dsimp only
  refine aa (wpAny_load q1 ?_)
  refine af ?_
  show Q (bs.map ao) _
  refine hQ h2 bs (ay q1) (fun b ob e=> ?_) q2 q0 q3
  have hb:=ay e
  exact q4 b ob (aM hb) (by rw [szl]; exact aM (cX hb)) e
 refine eS (fun _=> ?_) fun _=> ?_
 ·refine aa (fc ?_)
  unfold Builtin.List.listTouch
  refine aa (aa (kn hL2 rfl ?_ (by show 0<=_; omega) (by show 1<=_; rw [fy]; omega)))
  have hL3:=gJ hL2 fun x=>x.push a_
  refine kn hL3 rfl ?_ (by show 1<=_; rw [fy]; omega) (by show 0<=_; omega)
  have hL4:=gJ hL3 fun x=>x.pop
  exact af ⟨fe dh _,fin _ _ ((bG ..).trans (bG ..)) hL4⟩
 ·exact af ⟨fe dh _,fin _ _ (dH _ _) hL2⟩
end
section
variable {prog:ar}{w:World}{A:bp}{E:Value->ah->Prop}{s:ah}{d v:Addr}{es:Array cJ}{ep:Nat}
theorem Es{h:Heap}{a b:Addr}{rs:gu}{n:Int}{t:Tok}{e:cJ}(ha:h.get? a=some (fj e))(hk:e.key= .ref b)(hv:e.val= .int n t)(x:T2 prog w h rs b):T3 prog w h (rs,n) a:=by
 refine⟨_,0,b,t,ha,rfl, ?_,x⟩
 show Av #[e.key,e.val] 0=_
 rw [hk,hv]
theorem uF{ks:List (gu×Int)}{Q:Value->ah->Prop}(hh:A.handled=none)(hu:A.units+8 < cLine)(hv:s.heap.get? v=some (ve d))(x:l9 s.heap d es ep)(kr:es.size<=sizeLine)(hl:ks.length=es.size)(y: ∀j (hj:j < es.size), ∃b t,es[j].key=ao b/\es[j].val= .int (ks[j]'(by omega)).2 t/\T2 prog w s.heap (ks[j]'(by omega)).1 b)(nk:ks.Nodup)
  (h: ∀(h':Heap) (D:Nat) (bs:List Addr) (out:List Value) (c:Nat),s.heap.objs.size<=D->bs.length=ks.length->(∀b∈bs,s.heap.objs.size<=b)->(∀j b,bs[j]? =some b-> ∃hj:j < es.size,h'.get? b=some (fj es[j]))->pM kX ((bs.map ao).zip ks) out->h'.get? D=some (df "list" out.toArray c)->(∀b ob,s.heap.get? b=some ob->h'.get? b=some ob)->Q (.ref D) {s with heap:=h'}):
  wpAny (model prog w) A (call (.builtin "sorted") [.ref v]) Q E s:=by
 refine u9 kind_sorted plain_sorted entry_sorted (args_sorted1 _) ?_
 unfold cG.«sorted»
 refine aa (m:=checkCount "sorted" 1 1 _) (af ?_)
 refine aa (rE (by simpa using hh) hv x kr fun h1 bs hsz hk hbl hnew hb=> ?_)
 refine aa (wpAny_newList ?_ (by rw [ae,hbl]; exact kr))
 have hoL:(h1.push (df "list" (bs.map ao).toArray 0)).get? h1.objs.size=some (df "list" (bs.map ao).toArray 0):=au _ rfl
 have hk2: ∀b ob,h1.get? b=some ob->(h1.push (df "list" (bs.map ao).toArray 0)).get? b=some ob:=fun b ob e=>ag _ e
 have ltb: ∀b ob,h1.get? b=some ob->b≠h1.objs.size:=fun b ob e=>aM (ay e)
 have e1:((bs.map ao).zip ks).map (·.1)=bs.map ao:=List.map_fst_zip (by rw [ae]; omega)
 have e2:((bs.map ao).zip ks).map (·.2)=ks:=q8 (by rw [ae]; omega)
 show wpAny _ _ _ _ _ {s with heap:=h1.push (df "list" (bs.map ao).toArray 0)}
 refine aa (bD (bF slot_list_sort ⟨_,hoL,rfl⟩ entry_list_sort ?body (args_list_sort _)))
 case body=>
  refine El (s:={s with heap:=h1.push (df "list" (bs.map ao).toArray 0)}) (pr:=(bs.map ao).zip ks) (by simp only [iJ]; omega) (by rw [e1]; exact hoL) (by rw [cb,ae]; omega) (fun q hq=> ?_) (by rw [e2]; exact nk) fun h' out c hp2 hg2 hk3=> ?_
  ·obtain⟨j,hj,rfl⟩:=aL.mp hq
   rw [cb,ae]at hj
   have hj1:j < bs.length:=by omega
   have hj2:j < es.size:=by omega
   obtain⟨_,hp⟩:=hb j bs[j] (ai hj1)
   obtain⟨b,t,y1,y2,y3⟩:=y j hj2
   rw [iK]
   refine⟨bs[j],by rw [aR], ?_⟩
   exact Es (hk2 _ _ hp) y1 y2 (y3.keep fun c o _ z=>hk2 _ _ (hk c o z))
  ·refine⟨_,rfl,af ⟨_,rfl,h h' h1.objs.size bs out c (jb hsz) (by omega) hnew (fun j b e=> ?_) hp2 hg2 fun b ob e=>hk3 b ob (ltb b ob (hk b ob e)) (hk2 b ob (hk b ob e))⟩⟩
   obtain⟨hj,q⟩:=hb j b e
   exact⟨hj,hk3 b _ (ltb b _ q) (hk2 b _ q)⟩
end
section
variable {prog:ar}{w:World}{K:Type} [DecidableEq K]{knd:HeapKind prog w K}{A:bp}{E:Value->ah->Prop}{s:ah}{env:Env}
theorem Ci{k v:Expr}{pos:Pos}{Q:Value->ah->Prop}(hu:knd.room A)
  (h:wpAny (model prog w) A (eval k env) (fun kv s1=>wpAny (model prog w) A (eval v env) (fun vv s2=> ∃a r,kv= .ref a/\knd.is s2.heap r a/\s2.heap.DictOfH knd s.heap.objs.size []/\
   ∀h',h'.DictOfH knd s.heap.objs.size [(r,a,vv)]->bH s.heap.objs.size s2.heap h'->Q (.ref s.heap.objs.size) {s2 with heap:=h',toks:=s2.toks+knd.draws r}) E s1) E {s with heap:=s.heap.push {cls:= .type "dict",data:= .dict #[]}}):
  wpAny (model prog w) A (eval (.Dict [some k] [v] pos) env) Q E s:=by
 rw [arm_eval_Dict,zip_pairTrees [some k] [v] env pos rfl rfl,dictDisplay_pairs _ (by simp [pairTrees]) (by simp [pairTrees])]
 refine aa (wJ (aa ?_))
 unfold subDict
 refine aa (wpAny_alloc ?_)
 refine aa (bD ?_)
 rw [if_pos (by simp [pairTrees])]
 refine aa (pairTrees_cons_walk (cF h (fun kv s1 h1=>cF h1 (fun vv s2 h2=>pairTrees_nil_walk ?_) fun _ _ e=>e) fun _ _ e=>e))
 obtain⟨a,r,rfl,hk,hm,hQ⟩:=h2
 refine bD ?_
 rw [cP]
 refine aa (aa (aa (wpAny_dictSet_heap (hsz:=by show 0<=_; omega) hu hk hm fun h' hm' hs'=>af ?_)))
 dsimp only
 rw [fW]
 refine af (af (af (af ?_)))
 exact hQ h' hm' hs'
end
end Z
namespace Z
open PySem PySem.Spec PyProof.Rows L2
def xA(r:List Int):D:= .tup (r.map .int)
def iM(rs:gu):D:= .tup (rs.map xA)
abbrev kL:=List (gu×Int)
def GF(oo:Option Obj)(kv:kL):D:= .dct oo (kv.map fun x=>iM x.1) (kv.map (·.2))
def rf(kv:kL):D:= .dct none (kv.map fun x=>iM x.1) (kv.map (·.2))
theorem sj: ∀r:List Int,g7 (r.map .int)=r.map hashInt
 | []=>rfl
 | x::r=>by rw [aW,aW, <-sj r]; rfl
theorem B0(P:ar)(w:World)(r:List Int):m_ (xA r)=(jl (fh P w)).hash r:=by
 show uT (eP (g7 (r.map .int)))=_
 rw [sj]
 rfl
theorem sM(P:ar)(w:World): ∀rs:gu,g7 (rs.map xA)=rs.map (jl (fh P w)).hash
 | []=>rfl
 | x::r=>by
  rw [aW,aW, <-sM P w r, <-B0 P w x]
  rfl
theorem uJ(P:ar)(w:World)(rs:gu):m_ (iM rs)=se P w rs:=by
 show uT (eP (g7 (rs.map xA)))=_
 rw [sM P w]
 rfl
section
variable {X:Cx}{pins:List (Addr×Obj)}{σ:St}{H:Hp}{s:ah}{M:MP}
theorem vW: ∀{r:List Int} {us:List Value},Vals (r.map V.int) us->jz (fh X.prog X.w) r us
 | [],_,h=>by rw [oS]at h; cases h; exact .nil
 | x::r,_,h=>by
  rw [aW]at h
  cases h with
  | cons a t=>
   obtain⟨tk,rfl⟩:=(show ∃t,_=fH x t from a)
   exact .cons (by show Value.isInt x (.int x tk)=true; simp [Value.isInt]) (vW t)
theorem Il(I:Inv X pins σ H s){r:List Int}{v:V}{u:Value}(h:Dn X.K M H (xA r) v)(rv:RelV v u): ∃b,u= .ref b/\T1 X.prog X.w s.heap r b:=by
 obtain⟨a,xs,rfl,sq,dn⟩:=h
 cases (show u=ao a from rv)
 obtain⟨bL,rr,⟨o,e1,e2,m,e3⟩,_⟩:=I.tuple sq
 rw [cw.ints dn]at rr
 exact⟨a,rfl,o,bL.toArray,m,e1,e2,e3,by simpa using vW rr⟩
theorem Cj(I:Inv X pins σ H s): ∀{rs:gu} {vs:List V} {us:List Value},cw X.K M H (rs.map xA) vs->Vals vs us->nY X.prog X.w s.heap rs us
 | [],vs,us,h,r=>by cases (show vs= []from h); cases r; exact .nil
 | x::rs,vs,us,h,r=>by
  obtain⟨v,t,rfl,h1,h2⟩:=h
  cases r with
  | cons r1 r2=>
   obtain⟨b,rfl,t1⟩:=Il I h1 r1
   exact .cons t1 (Cj I h2 r2)
theorem nu(I:Inv X pins σ H s){rs:gu}{v:V}{u:Value}(h:Dn X.K M H (iM rs) v)(rv:RelV v u): ∃b,u= .ref b/\v= .ref b/\T2 X.prog X.w s.heap rs b:=by
 obtain⟨a,xs,rfl,sq,dn⟩:=h
 cases (show u=ao a from rv)
 obtain⟨bL,rr,⟨o,e1,e2,m,e3⟩,_⟩:=I.tuple sq
 exact⟨a,rfl,rfl,o,bL.toArray,m,e1,e2,e3,by simpa using Cj I dn rr⟩
theorem tM: ∀{kv:kL} {bs:List Addr} {es:List cJ},bs.length=kv.length->eK (jF (kv.map fun x=>iM x.1) bs (kv.map (·.2))) es-> ∃xs:List (gu×Addr×Value),es=xs.map (entryOfKey (mf X.prog X.w))/\xs.length=kv.length/\ ∀j (hj:j < kv.length) (hx:j < xs.length) (hb:j < bs.length), ∃t,xs[j]=(kv[j].1,bs[j], .int kv[j].2 t)
 | [],bs,es,hb,h=>by
  cases es with
  | nil=>exact⟨[],rfl,rfl,fun j hj=>absurd hj (by simp)⟩
  | cons e es=>cases bs <;> exact h.elim
 | x::kv, [],es,hb,h=>by simp at hb
 | x::kv,b::bs,es,hb,h=>by
  cases es with
  | nil=>exact h.elim
  | cons e es=>
   obtain⟨⟨t,e1⟩,h2⟩:=h
   obtain⟨xs,a1,a2,a3⟩:=tM (kv:=kv) (bs:=bs) (es:=es) (by simpa using hb) h2
   refine⟨(x.1,b, .int x.2 t)::xs, ?_,by rw [aC,a2]; rfl,fun j hj hx hbj=> ?_⟩
   ·rw [aW,a1,e1]
    show(⟨m_ (iM x.1), .ref b, .int x.2 t⟩:cJ)::_=_
    rw [uJ X.prog X.w]
    rfl
   ·cases j with
    | zero=>exact⟨t,rfl⟩
    | succ j=>exact a3 j (by simpa using hj) (by simpa using hx) (by simpa using hbj)
theorem cw.refs{ks:List D}{bs:List Addr}{K:Frag}(h:cw K M H ks (bs.map V.ref)){j:Nat}{k:D}{b:Addr}(h1:ks[j]? =some k)(h2:bs[j]? =some b):Dn K M H k (.ref b):=by
 obtain⟨v,e,d⟩:=h.get h1
 rw [aD,h2]at e
 cases e
 exact d
structure vX(X:Cx)(s:ah)(kv:kL)(a:Addr)(xs:List (gu×Addr×Value)):Prop where
 no:(a==fU)=false
 d:s.heap.DictOfH (mf X.prog X.w) a xs
 len:xs.length=kv.length
 it: ∀j (hj:j < kv.length) (hx:j < xs.length), ∃b t,xs[j]=(kv[j].1,b, .int kv[j].2 t)
theorem FD(I:Inv X pins σ H s){kv:kL}{a:Addr}{bs:List Addr}(nd:(kv.map (·.1)).Nodup)(h: ∃o,H a=some (gg a o (jF (kv.map fun x=>iM x.1) bs (kv.map (·.2)))))(hb:bs.length=kv.length)(dn:cw X.K M H (kv.map fun x=>iM x.1) (bs.map V.ref)): ∃xs,vX X s kv a xs:=by
 obtain⟨o,h⟩:=h
 obtain⟨⟨no,es,ep,h1,h2,h3,h4⟩,_⟩:=(show dP X.prog X.w H s.heap a (gg a o _)from I.dR a _ h)
 obtain⟨xs,a1,a2,a3⟩:=tM (X:=X) hb h4
 have ks:xs.map (·.1)=kv.map (·.1):=by
  apply List.ext_getElem (by rw [ae,ae,a2])
  intro j hj1 hj2
  rw [ae]at hj1 hj2
  obtain⟨t,e⟩:=a3 j hj2 hj1 (by omega)
  rw [aR,aR,e]
 refine⟨xs,no,⟨o,es,ep,h1,h2,h3,a1,fun x hx=> ?_,by rw [ks]; exact nd⟩,a2,fun j hj hx=> ?_⟩
 ·obtain⟨j,hj,rfl⟩:=aL.mp hx
  have hj2:j < kv.length:=by omega
  obtain⟨t,e⟩:=a3 j hj2 hj (by omega)
  rw [e]
  have d:=dn.refs (j:=j) (k:=iM kv[j].1) (b:=bs[j]'(by omega)) (by rw [aD,ai hj2]; rfl) (ai _)
  obtain⟨b,e2,_,t2⟩:=nu I d (u:= .ref (bs[j]'(by omega))) rfl
  cases e2
  exact t2
 ·obtain⟨t,e⟩:=a3 j hj hx (by omega)
  exact⟨_,t,e⟩
theorem vX.look{kv:kL}{a:Addr}{xs:List (gu×Addr×Value)}(x:vX X s kv a xs){k:gu}{n:Int}(h:(k,n)∈kv): ∃b t,atKey xs k=some (b, .int n t):=by
 obtain⟨j,hj,e⟩:=aL.mp h
 have hl:=x.len
 obtain⟨b,t,e2⟩:=x.it j hj (by omega)
 obtain⟨o,es,ep,_,_,_,_,_,nd⟩:=x.d
 refine⟨b,t,atKey_of_get nd (i:=j) ?_⟩
 rw [ai (by omega),e2,e]
theorem vX.miss{kv:kL}{a:Addr}{xs:List (gu×Addr×Value)}(x:vX X s kv a xs){k:gu}(h:k∉kv.map (·.1)):atKey xs k=none:=by
 refine atKey_none_of_get fun j p e=>h ?_
 obtain⟨hj,e⟩:=aA.mp e
 have hl:=x.len
 obtain⟨b,t,e2⟩:=x.it j (by omega) hj
 rw [e]at e2
 cases e2
 exact aX.mpr ⟨_,aQ (by omega:j < kv.length),rfl⟩
theorem vX.has{kv:kL}{a:Addr}{xs:List (gu×Addr×Value)}(x:vX X s kv a xs)(k:gu):(atKey xs k).isSome=decide (k∈kv.map (·.1)):=by
 by_cases h:k∈kv.map (·.1)
 ·obtain⟨⟨k',n⟩,hm,rfl⟩:=aX.mp h
  obtain⟨b,t,e⟩:=x.look hm
  rw [e,decide_eq_true h]
  rfl
 ·rw [x.miss h,decide_eq_false h]
  rfl
end
section
variable {X:Cx}{ρ:eG}{a b e:Expr}{pos p:Pos}{kv:kL}{k:gu}{n:Int}
def Hc(K:Frag)(kv:kL):V->Hp->Prop:=fun x H=> ∃M,Dn K M H (rf kv) x
theorem Hc.at{pins:List (Addr×Obj)}{σ:St}{H:Hp}{s:ah}{x:V}{u:Value}(nd:(kv.map (·.1)).Nodup)(I:Inv X pins σ H s)(h:Hc X.K kv x H)(r:RelV x u): ∃a xs,u= .ref a/\vX X s kv a xs:=by
 obtain⟨M,a,bs,rfl,h1,h2,h3,h4⟩:=h
 cases (show u=ao a from r)
 rw [ae]at h2
 obtain⟨xs,q⟩:=FD I nd (h1.imp fun _ z=>z.2) h2 h4
 exact⟨a,xs,rfl,q⟩
theorem HP(hu:X.A.units+8 < cLine)(nd:(kv.map (·.1)).Nodup)(hm:(k,n)∈kv):II X (fun x y H Q=>Hc X.K kv x H/\(∃M,Dn X.K M H (iM k) y)/\Q (.int n) H):=by
 intro value slice pins s σ H x y v u Q I rx ry ⟨h1,⟨M,h2⟩,q⟩ hs
 obtain⟨a,xs,rfl,dc⟩:=h1.at nd I rx
 obtain⟨b,rfl,_,t2⟩:=nu I h2 ry
 obtain⟨c,t,e⟩:=dc.look hm
 exact yl (x:= .int n t) dc.d.typeIs slot_dict_getitem.lookup (wpAny_getItem_heap (knd:=mf X.prog X.w) (Q:=fun r s'=>r= .int n t/\EP X pins σ Q r s') (by show X.A.in1.units+2 < cLine; rw [iJ]; omega) t2 dc.d e ⟨rfl, .int n,H,I.tok _,⟨t,rfl⟩,q⟩) hs
theorem av.dget(hu:X.A.units+8 < cLine)(nd:(kv.map (·.1)).Nodup)(hm:(k,n)∈kv)(ha:av X ρ a (rf kv))(hb:av X ρ b (iM k))(hs:mX b:=by intro _ _; rfl):av X ρ (.Subscript a b pos) (.int n):=
 fun M0 H0 γ α σ H Q R kk=>(Ba (HP hu nd hm) f7 f7 hs).to (ha M0 H0 γ α σ H _ R fun v H1 s1 d1=>hb M0 H0 γ α σ H1 _ (R.next s1) fun u H2 s2 d2=>⟨⟨_,d1.same s2⟩,⟨_,d2⟩,kk _ H2 (s1.trans s2) rfl⟩)
theorem xq(hu:X.A.units+8 < cLine)(nd:(kv.map (·.1)).Nodup):l7 X (cj .NotIn) (fun x y H Q=>(∃M,Dn X.K M H (iM k) x)/\Hc X.K kv y H/\Q (.bl (!decide (k∈kv.map (·.1)))) H):=by
 intro pins s σ H x y v u Q I rx ry ⟨⟨M,h1⟩,h2,q⟩
 obtain⟨a,xs,rfl,dc⟩:=h2.at nd I ry
 obtain⟨b,rfl,_,t2⟩:=nu I h1 rx
 refine wpAny_notIn_heap (knd:=mf X.prog X.w) (by show X.A.in1.units+2 < cLine; rw [iJ]; omega) t2 dc.no dc.d ?_
 rw [dc.has]
 exact⟨.bl _,H,I.tok _,rfl,q⟩
theorem cB.notInDc(hu:X.A.units+8 < cLine)(nd:(kv.map (·.1)).Nodup)(ha:av X ρ a (iM k))(hb:av X ρ b (rf kv))(hm:d_ .NotIn b=false:=by rfl):cB X ρ (.Compare a [.NotIn] [b] pos) (!decide (k∈kv.map (·.1))):=
 fun M0 H0 γ α σ H Q R kk=>(tq (xq hu nd) f7 f7 hm).to (ha M0 H0 γ α σ H _ R fun v H1 s1 d1=>hb M0 H0 γ α σ H1 _ (R.next s1) fun u H2 s2 d2=>⟨⟨_,d1.same s2⟩,⟨_,d2⟩,_,rfl,kk H2 (s1.trans s2)⟩)
end
section
variable {α:Type}{lt:α->α->Bool}
def Ak(lt:α->α->Bool)(x:α):List α->List α
 | []=> [x]
 | y::l=>if lt x y then x::y::l else y::Ak lt x l
def vq(lt:α->α->Bool)(l:List α):List α:=l.foldr (Ak lt) []
theorem nQ(x:α): ∀l:List α,(Ak lt x l).Perm (x::l)
 | []=>c5 _
 | y::l=>by
  unfold Ak
  split
  ·exact c5 _
  ·exact((nQ x l).cons y).trans (List.Perm.swap _ _ _)
theorem iW: ∀l:List α,(vq lt l).Perm l
 | []=>c5 _
 | x::l=>(nQ x _).trans ((iW l).cons x)
theorem za(o:mr lt)(x:α): ∀l:List α,x∉l->l.Pairwise (fun a b=>lt a b=true)->(Ak lt x l).Pairwise (fun a b=>lt a b=true)
 | [],_,_=>w_ _ _
 | y::l,hx,h=>by
  have h':=bT.mp h
  unfold Ak
  split
  ·rename_i e
   refine bT.mpr ⟨fun z hz=> ?_,h⟩
   rcases aN.mp hz with rfl | hz
   ·exact e
   ·exact o.tr _ _ _ e (h'.1 z hz)
  ·rename_i e
   have e:lt x y=false:=by simpa using e
   refine bT.mpr ⟨fun z hz=> ?_,za o x l (fun z=>hx (.tail _ z)) h'.2⟩
   rcases aN.mp ((nQ x l).mem_iff.mp hz)with rfl | hz
   ·exact o.tot _ _ (fun q=>hx (q▸ .head _)) e
   ·exact h'.1 z hz
theorem uC(o:mr lt): ∀l:List α,l.Nodup->(vq lt l).Pairwise (fun a b=>lt a b=true)
 | [],_=>eW
 | x::l,h=>za o x _ (fun z=>(dM.mp h).1 ((iW l).mem_iff.mp z)) (uC o l (dM.mp h).2)
theorem wy(o:mr lt): ∀{a b:List α},a.Pairwise (fun a b=>lt a b=true)->b.Pairwise (fun a b=>lt a b=true)->a.Perm b->a=b
 | [],b,_,_,h=>(List.perm_nil.mp h.symm).symm
 | x::a, [],_,_,h=>by cases List.perm_nil.mp h
 | x::a,y::b,ha,hb,h=>by
  have ha':=bT.mp ha
  have hb':=bT.mp hb
  have e:x=y:=by
   rcases aN.mp (h.mem_iff.mp (.head _))with e | e
   ·exact e
   ·rcases aN.mp (h.symm.mem_iff.mp (.head _))with q | q
    ·exact q.symm
    ·have h1:=hb'.1 x e
     have h2:=ha'.1 y q
     rw [o.Bz _ _ h1]at h2
     cases h2
  subst e
  rw [wy o ha'.2 hb'.2 h.cons_inv]
theorem Ab(o:mr lt){a l:List α}(ha:a.Pairwise (fun a b=>lt a b=true))(h:a.Perm l)(nd:l.Nodup):a=vq lt l:=wy o ha (uC o l nd) (h.trans (iW l).symm)
end
section
variable {X:Cx}{pins:List (Addr×Obj)}{σ:St}{H H':Hp}{s:ah}{h':Heap}
theorem CQ{t':Nat}(I:Inv X pins σ H s)(k: ∀b u,s.heap.get? b=some u->h'.get? b=some u)(old: ∀b,b < s.heap.objs.size->H' b=H b)(new: ∀b u,s.heap.objs.size<=b->H' b=some u->dP X.prog X.w H' h' b u):Inv X pins σ H' {s with heap:=h',toks:=t'}:=by
 have up: ∀b u,H b=some u->H' b=some u:=fun b u e=>by rw [old b (I.dR.lt e)]; exact e
 refine I.un ⟨fun b u q _ _ _=>k b u q,fun b u q _ _ _=>⟨u.slots,k b u q⟩,fun b u q n _=>by rw [old b (ay q)]; exact n,fun b u q _=>⟨u,k b u q⟩,fun b xs q=>up b _ q,fun b u xs q=>up b _ q,fun b ps q=>⟨#[],by rw [up b _ q]; simp⟩⟩ fun b u e=> ?_
 by_cases hb:b < s.heap.objs.size
 ·rw [old b hb]at e
  exact(I.dR b u e).stay (fun c v _ q=>k c v q) (fun c q=>up c _ q) fun c xs q=>up c _ q
 ·exact new b u (qW hb) e
end
section
variable {X:Cx}{ρ:eG}{e:Expr}{pos p p2 p3:Pos}{kv:kL}{m:Nat}
theorem cw.mapZ{K:Frag}{M:MP}{H:Hp}{β:Type}{f:β->D}{g:β->V}: ∀{l:List β},(∀x∈l,Dn K M H (f x) (g x))->cw K M H (l.map f) (l.map g)
 | [],_=>rfl
 | x::l,h=>⟨g x,_,rfl,h x (.head _),cw.mapZ fun y hy=>h y (.tail _ hy)⟩
theorem Ft{β:Type}{g:β->V}{g':β->Value}: ∀{l:List β},(∀x∈l,RelV (g x) (g' x))->Vals (l.map g) (l.map g')
 | [],_=> .nil
 | x::l,h=> .cons (h x (.head _)) (Ft fun y hy=>h y (.tail _ hy))
def IQ(v d:Addr):HO:= .ext fun h=>h.get? v=some (ve d)
theorem B7{o:Expr}{to:TE}(ho:PE X o to)(hbase:fb o "items" X.env (eval o X.env)=eval o X.env:=by rfl)(hline:(p2.endLine==p3.line)=true:=by rfl):
  PE X (.Call (.Attribute o "items" p2) [] [] p3) (fun σ H Q=>to σ H fun x H1=> ∃d o xs,x= .ref d/\H1 d=some (gg d o xs)/\ ∀v,H1 v=none->Q (.ref v) (upd H1 v (IQ v d))):=by
 intro pins s σ H Q I h
 refine wpAny_Call_method0_late hbase hline (eQ (ho pins s σ H _ I h) fun v s1 ⟨x,H1,I1,r1,d,ob,xs,ex,hd,q⟩=> ?_)
 subst ex
 obtain rfl:v=ao d:=r1
 obtain⟨⟨no,es,ep,g1,g2,g3,g4⟩,_⟩:=(show dP X.prog X.w H1 s1.heap d (gg d ob _)from I1.dR d _ hd)
 refine⟨"dict","dict.items",PySem.F.plainAttrs_dict,PySem.F.slot_dict_items,PySem.F.type_dict_items,⟨ob,g1,g2.1⟩,fun b q=>by cases q; exact⟨ob,g1,g2.2.1⟩,lB rfl (PySem.evalArgs_none ?_)⟩
 refine o4 PySem.F.slot_dict_items ⟨ob,g1,g2.1⟩ PySem.F.entry_dict_items (PySem.F.args_dict_items_1 _) (zq (es:=es) (ep:=ep) no) ⟨⟨ob,g1,g2,g3⟩, ?_⟩
 refine⟨.ref s1.heap.objs.size,_,I1.laid (t':=s1.toks) (fun _ _ q=>ag _ q) (aw _) (o:=IQ s1.heap.objs.size d) ⟨au _ rfl,⟨_,au _ rfl⟩,fun h1 h2 e k=>k _ e⟩,rfl,q _ (I1.dR.fresh (aw _))⟩
def uZ(x:gu×Int):D:= .tup [iM x.1, .int x.2]
theorem B4(n:Nat)(r:List Int):D.bare (n+1) (xA r):=fun d hd=>by
 obtain⟨i,_,rfl⟩:=aX.mp hd
 cases n <;> exact ck
theorem ig(n:Nat)(rs:gu):D.bare (n+2) (iM rs):=fun d hd=>by
 obtain⟨r,_,rfl⟩:=aX.mp hd
 exact B4 n r
theorem yP(n:Nat)(x:gu×Int):D.bare (n+3+1) (uZ x):=fun d hd=>by
 rcases aN.mp hd with rfl | hd
 ·exact ig (n+1) x.1
 ·rcases aE.mp hd with rfl
  exact ck
open Classical in
noncomputable def ES (H:Hp) (l:Addr) (ys:List V) (ps:List (Addr×Addr×Int)):Hp:=fun b=>if b=l then some (.lst ys)else if h: ∃p∈ps,p.1=b then some (.tup [.ref h.choose.2.1, .int h.choose.2.2])else H b
theorem rG(hh:X.A.handled=none)(hu:X.A.units+8 < cLine)(nd:(kv.map (·.1)).Nodup)(kr:kv.length<=sizeLine):gf X (.builtin "sorted") (fun xs H Q=> ∃v d M,xs= [.ref v]/\H v=some (IQ v d)/\Dn X.K M H (rf kv) (.ref d)/\ ∀l ys H',H l=none->bI H H'->H' l=some (.lst ys)->cw X.K M H' ((vq kX kv).map uZ) ys->Q (.ref l) H'):=by
 intro pins s σ H xs us Q I r ⟨v,d,M,e,hv,dn,k⟩
 subst e
 obtain⟨u,rfl,rx⟩:=vals1 r
 cases rx
 obtain⟨a,bs,ea,h1,h2,h3,h4⟩:=dn
 cases ea
 rw [ae]at h2
 obtain⟨hv1,_⟩:=(show dP X.prog X.w H s.heap v (IQ v d)from I.dR v _ hv)
 obtain⟨o,_,h1'⟩:=h1
 obtain⟨⟨no,es,ep,g1,g2,g3,g4⟩,_⟩:=(show dP X.prog X.w H s.heap d (gg d o _)from I.dR d _ h1')
 obtain⟨zs,a1,a2,a3⟩:=tM (X:=X) h2 g4
 have hes:es.size=kv.length:=by rw [<-aj,a1,ae,a2]
 have ent: ∀j (hj:j < es.size), ∃t,es[j].key= .ref (bs[j]'(by omega))/\es[j].val= .int (kv[j]'(by omega)).2 t:=fun j hj=>by
  obtain⟨t,e⟩:=a3 j (by omega) (by omega) (by omega)
  have q:es[j]=entryOfKey (mf X.prog X.w) (zs[j]'(by omega)):=by
   have:es.toList[j]'(by rw [aj]; exact hj)=(zs.map (entryOfKey (mf X.prog X.w)))[j]'(by rw [ae]; omega):=by simp only [a1]
   rw [aR]at this
   simpa using this
  rw [q,e]
  exact⟨t,rfl,rfl⟩
 have dnk: ∀j (hj:j < kv.length),Dn X.K M H (iM kv[j].1) (.ref (bs[j]'(by omega))):=fun j hj=>h4.refs (j:=j) (by rw [aD,ai hj]; rfl) (ai _)
 have ndk:kv.Nodup:=by
  refine List.Pairwise.imp ?_ (j6.mp nd)
  intro a b h z
  exact h (by rw [z])
 refine uF (ks:=kv) hh hu hv1 ⟨o,g1,g2,g3⟩ (by rw [hes]; exact kr) hes.symm (fun j hj=> ?_) ndk fun h' D cs out c hD hcl hnew hc so hg hk=> ?_
 ·obtain⟨t,e1,e2⟩:=ent j hj
  obtain⟨b,e,_,t2⟩:=nu I (dnk j (by omega)) (u:= .ref (bs[j]'(by omega))) rfl
  cases e
  exact⟨_,t,e1,e2,t2⟩
 ·obtain⟨qs,p1,p2',p3'⟩:=so
  have ez:(cs.map ao).zip kv=(cs.zip kv).map fun x=>(ao x.1,x.2):=by
   rw [List.zip_map_left]
   rfl
  rw [ez]at p1
  obtain⟨l,l1,l2⟩:=nG p1
  subst l2
  have e2:(cs.zip kv).map (·.2)=kv:=q8 (by omega)
  have ksrt:l.map (·.2)=vq kX kv:=by
   refine Ab GP ?_ ?_ ndk
   ·rw [j6]at p3' ⊢
    exact p3'
   ·have:=l1.map (fun x:Addr×(gu×Int)=>x.2)
    rw [e2]at this
    exact this
  rw [ie]at p2'
  have len:l.length=kv.length:=by rw [l1.length_eq,cb]; omega
  let ps:List (Addr×Addr×Int):=cs.zip (bs.zip (kv.map (·.2)))
  have hps: ∀p∈ps, ∃j, ∃hj:j < kv.length,p=(cs[j]'(by omega),bs[j]'(by omega),kv[j].2):=fun p hp=>by
   obtain⟨j,hj,rfl⟩:=aL.mp hp
   have hj':j < kv.length:=by simp only [ps,cb,ae]at hj; omega
   refine⟨j,hj', ?_⟩
   simp [ps]
  have pin: ∀j (hj:j < kv.length),(cs[j]'(by omega),bs[j]'(by omega),kv[j].2)∈ps:=fun j hj=>by
   have hl:j < ps.length:=by simp only [ps,cb,ae]; omega
   have:ps[j]=(cs[j]'(by omega),bs[j]'(by omega),kv[j].2):=by simp [ps]
   rw [<-this]
   exact aQ hl
  have hobj: ∀j (hj:j < kv.length), ∃t,h'.get? (cs[j]'(by omega))=some {cls:= .type "tuple",data:= .seq #[.ref (bs[j]'(by omega)), .int kv[j].2 t]}:=fun j hj=>by
   obtain⟨hj2,e⟩:=hc j (cs[j]'(by omega)) (ai _)
   obtain⟨t,q1,q2⟩:=ent j hj2
   refine⟨t, ?_⟩
   rw [e]
   unfold fj
   rw [q1,q2]
  have hDc: ∀j (hj:j < kv.length),cs[j]'(by omega)≠D:=fun j hj z=>by
   obtain⟨t,e⟩:=hobj j hj
   rw [z,hg]at e
   exact absurd (show cu "list"=cu "tuple" from congrArg Obj.cls (aK e)) (by decide)
  let ys:List V:=l.map fun x=>V.ref x.1
  have hat: ∀j (hj:j < kv.length),ES H D ys ps (cs[j]'(by omega))=some (.tup [.ref (bs[j]'(by omega)), .int kv[j].2]):=fun j hj=>by
   have hx: ∃p∈ps,p.1=cs[j]'(by omega):=⟨_,pin j hj,rfl⟩
   unfold ES
   rw [if_neg (hDc j hj),dif_pos hx]
   obtain⟨m1,m2⟩:=hx.choose_spec
   obtain⟨i,hi,ei⟩:=hps _ m1
   rw [ei]at m2 ⊢
   obtain⟨t,q1⟩:=hobj j hj
   obtain⟨t',q2⟩:=hobj i hi
   have m2:cs[i]'(by omega)=cs[j]'(by omega):=m2
   rw [m2,q1]at q2
   simp only [Option.some.injEq,Obj.mk.injEq,Data.seq.injEq,Array.mk.injEq,List.cons.injEq,Value.ref.injEq,Value.int.injEq,and_true,true_and]at q2
   obtain⟨z1,z2,_⟩:=q2
   show some (HO.tup [.ref (bs[i]'(by omega)), .int kv[i].2])=_
   rw [z1,z2]
  have old: ∀b,b < s.heap.objs.size->ES H D ys ps b=H b:=fun b hb=>by
   unfold ES
   rw [if_neg (aM (aY hb hD)),dif_neg]
   rintro⟨p,hp,rfl⟩
   obtain⟨j,hj,rfl⟩:=hps p hp
   have:=hnew (cs[j]'(by omega)) (aQ _)
   exact absurd hb (Nat.not_lt.mpr this)
  have I':Inv X pins σ (ES H D ys ps) {s with heap:=h',toks:=s.toks}:=by
   refine CQ I hk old fun b u hb e=> ?_
   by_cases hbD:b=D
   ·subst hbD
    have e:some (HO.lst ys)=some u:=by rw [<-e]; unfold ES; rw [if_pos rfl]
    cases e
    refine⟨by show(l.map _).length<=_; rw [ae,len]; exact kr,out,c, ?_,hg⟩
    rw [<-p2']
    exact Ft fun x _=>rfl
   ·by_cases hx: ∃p∈ps,p.1=b
    ·obtain⟨p,hp,rfl⟩:=hx
     obtain⟨j,hj,rfl⟩:=hps p hp
     rw [hat j hj]at e
     cases e
     obtain⟨t,q⟩:=hobj j hj
     exact⟨ji (by show 2<=_; omega), [.ref (bs[j]'(by omega)), .int kv[j].2 t], .cons rfl (.cons ⟨t,rfl⟩ .nil),_,q,rfl,_,rfl⟩
    ·have:H b=some u:=by
      unfold ES at e
      rw [if_neg hbD,dif_neg hx]at e
      exact e
     exact absurd (I.dR.lt this) (Nat.not_lt.mpr hb)
  have sm:bI H (ES H D ys ps):=fun b o e=>by rw [old b (I.dR.lt e)]; exact e
  refine⟨.ref D,_,I',rfl,k D ys _ (I.dR.fresh hD) sm (by unfold ES; rw [if_pos rfl]) ?_⟩
  rw [<-ksrt,ie]
  refine cw.mapZ fun x hx=> ?_
  have hx2:=l1.mem_iff.mp hx
  obtain⟨j,hj,rfl⟩:=aL.mp hx2
  rw [cb]at hj
  have hj':j < kv.length:=by omega
  rw [iK]
  refine⟨_,_,rfl, .inl (.inl (hat j hj')), ?_⟩
  exact⟨_,_,rfl,(dnk j hj').same sm,_,_,rfl,rfl,rfl⟩
theorem ff.sortedIt(hh:X.A.handled=none)(hu:X.A.units+8 < cLine)(nd:(kv.map (·.1)).Nodup)(kr:kv.length<=sizeLine)(hg:Gl X "sorted")(hm:X.mg "sorted"=none)(h:av X ρ e (rf kv))(hbase:fb e "items" X.env (eval e X.env)=eval e X.env:=by rfl)(hline:(p2.endLine==p3.line)=true:=by rfl)
  (he:aq [.Call (.Attribute e "items" p2) [] [] p3] X.env= [(false,eval (.Call (.Attribute e "items" p2) [] [] p3) X.env)]:=by rfl):ff X ρ (.Call (.Name "sorted" p) [.Call (.Attribute e "items" p2) [] [] p3] [] pos) ((vq kX kv).map uZ):=fun M0 H0 γ α σ H Q R k=>
 (gL (rG hh hu nd kr) hg hm (by decide +kernel) (eJ (B7 f7 hbase hline) gP he) (by decide) (by decide) he).to (h M0 H0 γ α σ H _ R fun v H1 s1 d1=>by
  have d1':=d1
  obtain⟨a,bs,rfl,⟨ob,_,hd⟩,_⟩:=d1
  refine⟨a,ob,_,rfl,hd,fun v hv=> ?_⟩
  refine⟨v,a,_,rfl,bC,d1'.same (bB hv),fun l ys H2 hl sm hl2 dn=>k l ys _ H2 (s1.trans (bB hv)) hl sm hl2 (cw.map1 (fun d hd v=> ?_) dn)⟩
  obtain⟨x,_,rfl⟩:=aX.mp hd
  exact Dn.bare 9 (yP 5 x))
end
section
variable {K:Frag}{M M':MP}{H H':Hp}{a b:Addr}{ob:Obj}{xs:List (Int×Addr×Int)}
theorem C1{ys:List V}(ha:H a=some (gg a ob xs))(h:i4 K H b ys):i4 K (dC H a) b ys:=by
 rcases h with(h | ⟨o,h⟩) | h
 ·exact .inl (.inl (iz (fun z=>by rw [z,ha]at h; cases h) h))
 ·exact .inl (.inr ⟨o,iz (fun z=>by rw [z,ha]at h; cases h) h⟩)
 ·exact .inr h
theorem Dn.hideB(ha:H a=some (gg a ob xs)): ∀(n:Nat) {d:D} {v:V},D.bare n d->Dn K M H d v->Dn K M' (dC H a) d v:=by
 intro n
 induction n with
 | zero=>intro d v hf h; cases d <;> first | exact h | exact hf.elim
 | succ n ih=>
  intro d v hf h
  cases d with
  | tup ds=>
   obtain⟨c,ys,e,s,r⟩:=h
   exact⟨c,ys,e,C1 ha s,cw.map1 (fun d hd v=>ih (hf d hd)) r⟩
  | ins C ns ds=>
   obtain⟨c,dx,fs,e,s,hn,r⟩:=h
   exact⟨c,dx,fs,e,iz (fun z=>by rw [z,ha]at s; cases s) s,hn,cw.map1 (fun d hd v=>ih (hf d hd)) r⟩
  | non=>exact h
  | bl _=>exact h
  | int _=>exact h
  | str _=>exact h
  | _=>exact hf.elim
theorem Dn.hideL(ha:H a=some (gg a ob xs)){ds:List D}{v:V}(hb: ∀d∈ds,D.bare 9 d)(h:Dn K M H (.lst ds) v):Dn K M (dC H a) (.lst ds) v:=by
 obtain⟨c,ys,e,s,r⟩:=h
 refine⟨c,ys,e, ?_,cw.map1 (fun d hd v=>Dn.hideB ha 9 (hb d hd)) r⟩
 rcases s with⟨s | ⟨o,s⟩,m⟩ | s
 ·exact .inl ⟨.inl (iz (fun z=>by rw [z,ha]at s; cases s) s),m⟩
 ·exact .inl ⟨.inr ⟨o,iz (fun z=>by rw [z,ha]at s; cases s) s⟩,m⟩
 ·exact .inr s
theorem vU{l:Addr}{o:HO}(h:l≠a):dC (upd H l o) a=upd (dC H a) l o:=by
 funext b
 unfold dC upd
 by_cases h1:b=a
 ·rw [if_pos h1]
  by_cases h2:b=l
  ·exact absurd (h2.symm.trans h1) h
  ·rw [if_neg h2]; exact(if_pos h1).symm
 ·rw [if_neg h1]
  by_cases h2:b=l
  ·rw [if_pos h2,if_pos h2]
  ·rw [if_neg h2,if_neg h2]; exact(if_neg h1).symm
theorem lg{o:HO}:dC (upd H a o) a=dC H a:=by
 funext b
 unfold dC upd
 by_cases h1:b=a
 ·rw [if_pos h1,if_pos h1]
 ·rw [if_neg h1,if_neg h1,if_neg h1]
end
abbrev kD(kv:kL):List D:=kv.map fun x=>iM x.1
structure cf(X:Cx)(M0:MP)(H0:Hp)(γ:List (D×V))(α:Nat->Addr)(ρ:eG)(σ:St)(H:Hp)(i:Nat)(a:Addr)(kv:kL):Prop where
 r:Rep X.K M0 H0 γ α ρ σ (dC H a)
 un:ρ[i]? =some .un
 at_:σ[i]? =some (some (.ref a))
 nd:(kv.map (·.1)).Nodup
 ex: ∃bs:List Addr,bs.length=kv.length/\(∃o,H a=some (gg a o (jF (kD kv) bs (kv.map (·.2)))))/\cw X.K (MM M0 ρ α) (dC H a) (kD kv) (bs.map V.ref)
section
variable {X:Cx}{ρ:eG}{M0:MP}{H0 H H':Hp}{γ:List (D×V)}{α:Nat->Addr}{σ:St}{En:Ends}{sts s1 s2 body:List Stmt}{e c:Expr}{d:D}{ds:List D}{pos pos' p p1 p2 p3:Pos}{i j t:Nat}{x:Str}{a:Addr}{kv:kL}
theorem cf.lt(B:cf X M0 H0 γ α ρ σ H i a kv):i < ρ.length:=(aA.mp B.un).1
theorem cf.next(B:cf X M0 H0 γ α ρ σ H i a kv)(s:bI H H'):cf X M0 H0 γ α ρ σ H' i a kv:=by
 obtain⟨bs,h1,h2,h3⟩:=B.ex
 exact⟨B.r.next (lN s),B.un,B.at_,B.nd,bs,h1,h2.imp fun _ q=>s _ _ q,h3.same (lN s)⟩
theorem cf.view(B:cf X M0 H0 γ α ρ σ H i a kv):Rep X.K M0 H0 γ α (ρ.set i (.im (rf kv))) σ H:=by
 obtain⟨bs,h1,h2,h3⟩:=B.ex
 exact(B.r.next cT).view B.lt B.at_ ⟨a,bs,rfl,h2.imp fun _ z=>⟨fun _ q=>(nomatch q),z⟩,by rw [h1,ae],by rw [ae,ae],h3.same cT⟩
theorem cf.obj(B:cf X M0 H0 γ α ρ σ H i a kv): ∃o xs,H a=some (gg a o xs):=let⟨_,_,⟨_,h⟩,_⟩:=B.ex; ⟨_,_,h⟩
theorem cf.unghost{q:D×V}(B:cf X M0 H0 (q::γ) α ρ σ H i a kv):cf X M0 H0 γ α ρ σ H i a kv:=⟨B.r.unghost,B.un,B.at_,B.nd,B.ex⟩
theorem cf.put_im(B:cf X M0 H0 γ α ρ σ H i a kv)(hj:j < ρ.length)(hji:j≠i){v:V}(h:Dn X.K (MM M0 ρ α) (dC H a) d v):cf X M0 H0 γ α (ρ.set j (.im d)) (σ.set j (some v)) H i a kv:=by
 obtain⟨bs,h1,h2,h3⟩:=B.ex
 exact⟨B.r.set_im hj h,by rw [dA hji.symm]; exact B.un,by rw [dA hji.symm]; exact B.at_,B.nd,bs,h1,h2,h3.less fun b z=>jJ (fun _ q=>by cases q) z⟩
theorem cf.set(B:cf X M0 H0 γ α ρ σ H i a kv)(hN:X.N.Nodup)(hj:X.N[j]? =some x)(hx:Loc X.env.scope x)(hl:j < ρ.length)(hji:j≠i)(h:av X (ρ.set i (.im (rf kv))) e d)(hb:D.bare 9 d)
  (k: ∀v H',cf X M0 H0 γ α (ρ.set j (.im d)) (σ.set j (some v)) H' i a kv->kB X sts En (σ.set j (some v)) H')
  (hs:cg e (some (.Name x pos')) pos.line X.env=pure false:=by rfl)(hf:X.fn x=true\/X.env.scope.names.lookup x=some .local:=by first | exact .inl rfl | exact .inr rfl | assumption):kB X (.Assign [.Name x pos'] e pos::sts) En σ H:=
 (cE oE fg).to ((kU hN hj hx f7 hs hf).to (h M0 H0 γ α σ H _ B.view fun v H1 s1 dn=>by
  have D1:=B.next s1
  obtain⟨_,xs,ho⟩:=D1.obj
  exact k v H1 (D1.put_im hl hji (Dn.hideB ho 9 hb dn))))
theorem cf.ite{b:Bool}(B:cf X M0 H0 γ α ρ σ H i a kv)(h:cB X (ρ.set i (.im (rf kv))) c b)(k1:b=true-> ∀H',cf X M0 H0 γ α ρ σ H' i a kv->kB X s1 En σ H')(k2:b=false-> ∀H',cf X M0 H0 γ α ρ σ H' i a kv->kB X s2 En σ H'):tS X (.If c s1 s2 pos) En σ H:=
 (y4 BS fg fg).to (h M0 H0 γ α σ H _ B.view fun H1 s1=>by
  cases e:b with
  | true=>exact rO (k1 e H1 (B.next s1))
  | false=>exact qf (k2 e H1 (B.next s1)))
theorem cf.append(B:cf X M0 H0 γ α ρ σ H i a kv)(hj:X.N[j]? =some x)(hv:tN X.env.scope x)(hji:j≠i)(hρ:ρ[j]? =some (.mu ds))(hlen:ds.length < 1000000)(h:av X (ρ.set i (.im (rf kv))) e d)(hb:D.bare 9 d)
  (k: ∀H',cf X M0 H0 γ α (ρ.set j (.mu (ds ++ [d]))) σ H' i a kv->En.nx σ H')(mc:Hr X (.Name x p1) "append" e p2 p3)(hd:(x==("__debug__":Str))=false:=by decide)(hcd:(x==("__classdict__":Str))=false:=by decide)
  (hsw:cg (.Call (.Attribute (.Name x p1) "append" p2) [e] [] p3) none pos.line X.env=pure false:=by rfl):tS X (.Expr (.Call (.Attribute (.Name x p1) "append" p2) [e] [] p3) pos) En σ H:=by
 obtain⟨a1,a2,xs,a3,a4⟩:=B.r.mu j ds hρ
 have hla:α j≠a:=fun z=>by rw [z,nq]at a3; cases a3
 refine HL hj hv B.view a2 (cT _ _ a3) (by rw [a4.len]; exact hlen) h (fun H1 v s1 dn=>k _ ?_) mc hd hcd hsw
 have D1:=B.next s1
 obtain⟨_,ys,ho⟩:=D1.obj
 obtain⟨_,_,zs,b3,b4⟩:=D1.r.mu j ds hρ
 have e3:zs=xs:=by
  have h1:=cT _ _ b3
  have h2:=s1 _ _ (cT _ _ a3)
  rw [h1]at h2
  cases h2
  rfl
 subst e3
 have dn':Dn X.K (MM M0 ρ α) (dC H1 a) d v:=Dn.hideB ho 9 hb dn
 obtain⟨bs,q1,q2,q3⟩:=D1.ex
 have R:=D1.r.upd_mu hρ (b4.app (cw.one dn'))
 have kp:mT (MM M0 ρ α) (dC H1 a) (upd (dC H1 a) (α j) (.lst (zs ++ [v]))):=fun b o e n=>by
  by_cases hb:b=α j
  ·subst hb
   rw [b3]at e
   cases e
   exact absurd (.inr ⟨j,ds,hρ,rfl⟩) (n _ rfl)
  ·rw [bP hb]; exact e
 refine⟨by rw [vU hla]; exact R,by rw [dA hji.symm]; exact D1.un,D1.at_,D1.nd,bs,q1,q2.imp fun _ q2=>by rw [bP hla.symm]; exact q2, ?_⟩
 rw [vU hla]
 refine(q3.keep kp).less fun b z=> ?_
 rcases z with z | ⟨m,es,e,z⟩
 ·exact .inl z
 ·rcases get_set e with⟨rfl,q⟩ | ⟨_,q⟩
  ·exact .inr ⟨m,ds,hρ,z⟩
  ·exact .inr ⟨m,es,q,z⟩
theorem cf.for(I:Nat->eG->kL->Prop)(hp:mR (model X.prog X.w) X.A X.env X.xe)(hc:X.calm=true)(hN:X.N.Nodup)(ht:X.N[t]? =some x)(hx:Loc X.env.scope x)(hti:t≠i)(B:cf X M0 H0 γ α ρ σ H i a kv)(hs:av X (ρ.set i (.im (rf kv))) e (.lst ds))(hb: ∀d∈ds,D.bare 9 d)(h0:I 0 ρ kv)(hlt: ∀n ρ kv,I n ρ kv->t < ρ.length)
  (turn: ∀(γ':List (D×V)) (n:Nat) (d:D) (α:Nat->Addr) (ρ:eG) (σ:St) (H:Hp) (kv:kL),ds[n]? =some d->I n ρ kv->cf X M0 H0 γ' α (ρ.set t (.im d)) σ H i a kv->kB X body {En with nx:=fun σ H=> ∃α ρ kv,cf X M0 H0 γ' α ρ σ H i a kv/\I (n+1) ρ kv,ct:=fun σ H=> ∃α ρ kv,cf X M0 H0 γ' α ρ σ H i a kv/\I (n+1) ρ kv,bk:=En.nx} σ H)
  (done: ∀α ρ σ H kv,I ds.length ρ kv->cf X M0 H0 γ α ρ σ H i a kv->En.nx σ H)(hf: ∀x,g_ e X.env x=pure x:=by intro _; rfl)(hfn:X.fn x=true\/X.env.scope.names.lookup x=some .local:=by first | exact .inl rfl | exact .inr rfl | assumption):tS X (.For (.Name x p) e body [] pos) En σ H:=by
 refine(xr hp hc (ug f7) JR fg hf).to (hs M0 H0 γ α σ H _ B.view fun v H1 s1 dn=> ?_)
 have D1:=B.next s1
 obtain⟨_,ys,ho⟩:=D1.obj
 have dn':Dn X.K (MM M0 ρ α) (dC H1 a) (.lst ds) v:=(Dn.hideL ho hb dn).less fun b z=>by
  rcases z with z | ⟨m,es,e,z⟩
  ·exact .inl z
  ·refine .inr ⟨m,es, ?_,z⟩
   rw [dA (fun q=>by rw [q,B.un]at e; cases e)]
   exact e
 obtain⟨l,xs,rfl,sq,dd⟩:=id dn'
 refine⟨l,rfl,⟨xs,cT.seq sq.l⟩,fun n m σ H=>m=ds.length - n/\n<=ds.length/\ ∃α ρ kv,cf X M0 H0 ((.lst ds, .ref l)::γ) α ρ σ H i a kv/\I n ρ kv,⟨ds.length,by simp,bO _,α,ρ,kv,⟨D1.r.ghost dn',D1.un,D1.at_,D1.nd,D1.ex⟩,h0⟩, ?_⟩
 rintro n m σ2 H2 ⟨rfl,hn,α2,ρ2,kv2,D2,i2⟩
 obtain⟨l',xs',el,sq',dn2⟩:=D2.r.gh _ b8
 cases el
 by_cases hlt':n < ds.length
 ·refine .inr ⟨⟨xs',xs'[n]'(by rw [dn2.len]; exact hlt'),cT.seq sq'.l,ai _⟩,fun σ' H'=> ∃α ρ kv,cf X M0 H0 ((.lst ds, .ref l)::γ) α ρ σ' H' i a kv/\I (n+1) ρ kv,
   fun σ' H' ⟨α',ρ',kv',D',i'⟩=>⟨ds.length - (n+1),by omega,rfl,hlt',α',ρ',kv',D',i'⟩,fun y H' hy=> ?_⟩
  obtain⟨e,hy⟩:=hy
  subst e
  obtain⟨d,hd',dd⟩:=dn2.getV (hy xs' (cT.seq sq'.l))
  refine(pC hN ht hx hfn).to ?_
  exact turn _ n d α2 ρ2 _ _ kv2 hd' i2 (D2.put_im (hlt n ρ2 kv2 i2) hti dd)
 ·have e:n=ds.length:=by omega
  subst e
  exact .inl ⟨⟨xs',cT.seq sq'.l,by rw [dn2.len]; exact aw _⟩,done α2 ρ2 σ2 H2 kv2 i2 D2.unghost⟩
theorem cf.while(I:eG->kL->Prop)(μ:eG->kL->Nat)(hp:mR (model X.prog X.w) X.A X.env X.xe)(B:cf X M0 H0 γ α ρ σ H i a kv)(h0:I ρ kv)
  (turn: ∀(α:Nat->Addr) (ρ:eG) (σ:St) (kv:kL),I ρ kv-> ∃b,cB X (ρ.set i (.im (rf kv))) c b/\(b=true-> ∀H,cf X M0 H0 γ α ρ σ H i a kv->kB X body {En with nx:=fun σ H=> ∃α ρ' kv',cf X M0 H0 γ α ρ' σ H i a kv'/\I ρ' kv'/\μ ρ' kv' < μ ρ kv,ct:=fun σ H=> ∃α ρ' kv',cf X M0 H0 γ α ρ' σ H i a kv'/\I ρ' kv'/\μ ρ' kv' < μ ρ kv,bk:=En.nx} σ H)/\(b=false-> ∀H,cf X M0 H0 γ α ρ σ H i a kv->En.nx σ H)):tS X (.While c body [] pos) En σ H:=by
 refine(vS hp BS fg).to ⟨fun m σ H=> ∃α ρ kv,cf X M0 H0 γ α ρ σ H i a kv/\I ρ kv/\μ ρ kv=m,⟨μ ρ kv,α,ρ,kv,B,h0,rfl⟩, ?_⟩
 rintro m σ2 H2 ⟨α2,ρ2,kv2,D2,i2,rfl⟩
 obtain⟨b,h1,h2,h3⟩:=turn α2 ρ2 σ2 kv2 i2
 refine h1 M0 H0 γ α2 σ2 H2 _ D2.view fun H3 s=> ?_
 cases e:b with
 | true=>exact rO ⟨fun σ H=> ∃α ρ' kv',cf X M0 H0 γ α ρ' σ H i a kv'/\I ρ' kv'/\μ ρ' kv' < μ ρ2 kv2,fun σ' H' ⟨α',ρ',kv',D',i',l'⟩=>⟨_,l',α',ρ',kv',D',i',rfl⟩,h2 e H3 (D2.next s)⟩
 | false=>exact qf (h3 e H3 (D2.next s))
end
theorem wo: ∀{xs:List (Int×Addr×Int)} {es:List cJ} {x:Int×Addr×Int} {e:cJ},eK xs es->(∃t,e=⟨x.1, .ref x.2.1, .int x.2.2 t⟩)->eK (xs ++ [x]) (es ++ [e])
 | [], [],_,_,_,h=>⟨h,trivial⟩
 | [],_::_,_,_,h,_=>h.elim
 | _::_, [],_,_,h,_=>h.elim
 | _::_,_::_,_,_,h,q=>⟨h.1,wo h.2 q⟩
theorem mB: ∀ks:List D,(g7 ks).length=ks.length
 | []=>rfl
 | k::ks=>by show(g7 ks).length+1=_; rw [mB ks]; rfl
theorem pO: ∀(a b:List D),g7 (a ++ b)=g7 a ++ g7 b
 | [],b=>rfl
 | k::a,b=>by rw [kJ]; show m_ k::g7 (a ++ b)=_; rw [pO a b]; rfl
theorem zT{ks:List D}{bs:List Addr}{ns:List Int}{k:D}{b:Addr}{n:Int}(h1:bs.length=ks.length)(h2:ns.length=ks.length):jF (ks ++ [k]) (bs ++ [b]) (ns ++ [n])=jF ks bs ns ++ [(m_ k,b,n)]:=by
 unfold jF
 rw [pO,List.zip_append (by omega),List.zip_append (by rw [mB,cb]; omega)]
 rfl
section
variable {X:Cx}{ρ:eG}{M0:MP}{H0 H H':Hp}{γ:List (D×V)}{α:Nat->Addr}{σ:St}{En:Ends}{sts:List Stmt}{k v e o i':Expr}{tk tv td:TE}{d:D}{pos pos' p p1 p2 p3:Pos}{i j:Nat}{x y:Str}{a:Addr}{kv:kL}{rs:gu}{n:Int}
theorem Bt(hu:X.A.units+8 < cLine)(hk:PE X k tk)(hv:PE X v tv):PE X (.Dict [some k] [v] pos) (fun σ H Q=> ∀a o,H a=none->tk σ (upd H a (gg a o [])) fun x H1=>tv σ H1 fun y H2=> ∃M rs n b,x= .ref b/\y= .int n/\Dn X.K M H2 (iM rs) (.ref b)/\H2 a=some (gg a o [])/\ ∀o',Q (.ref a) (upd H2 a (gg a o' [(m_ (iM rs),b,n)]))):=by
 intro pins s σ H Q I h
 have hn:=I.dR.fresh (aw s.heap.objs.size)
 have big:fU < s.heap.objs.size:=by
  have h:b9 < s.heap.objs.size:=(I.mod.glob.keeps I.bk).lt
  exact Nat.lt_trans (by decide) h
 have no:(s.heap.objs.size==fU)=false:=beq_eq_false_iff_ne.mpr (mQ (aM big))
 have I1:=I.laid (a:=s.heap.objs.size) (o:=gg s.heap.objs.size {cls:= .type "dict",data:= .dict #[]} []) (h':=s.heap.push {cls:= .type "dict",data:= .dict #[]}) (t':=s.toks) (fun _ _ q=>ag _ q) (aw _)
  ⟨⟨no, #[],0,au _ rfl,⟨rfl,rfl,rfl⟩,rfl,trivial⟩,⟨_,au _ rfl⟩,fun h1 h2 ⟨q1,es,ep,q2,q3⟩ kk=>⟨q1,es,ep,kk _ q2,q3⟩⟩
 refine Ci (knd:=mf X.prog X.w) (by show X.A.units+2 < cLine; omega) (eQ (hk pins _ σ _ _ I1 (h _ _ hn)) fun kv' s1 ⟨x,H1,J1,r1,q1⟩=>eQ (hv pins s1 σ H1 _ J1 q1) fun vv s2 ⟨y,H2,J2,r2,M,rs,n,b,ex,ey,dn,ho,q⟩=> ?_)
 subst ex ey
 obtain⟨t,rfl⟩:=(show ∃t,vv=fH n t from r2)
 obtain⟨b',e1,e2,t2⟩:=nu J2 dn r1
 cases e2
 obtain⟨⟨_,es,ep,g1,g2,g3,g4⟩,_⟩:=(show dP X.prog X.w H2 s2.heap s.heap.objs.size (gg s.heap.objs.size _ [])from J2.dR _ _ ho)
 have hes:es.toList= []:=by
  cases h:es.toList with
  | nil=>rfl
  | cons e r=>rw [h]at g4; exact g4.elim
 refine⟨b,rs,e1,t2,⟨_,es,ep,g1,g2,g3,hes,fun _ hx=>absurd hx eA,mK⟩,fun h' dd sb=> ?_⟩
 obtain⟨o2,es2,ep2,f1,f2,f3,f4,_,_⟩:=dd
 refine⟨.ref s.heap.objs.size,_, ?_,rfl,q o2⟩
 refine J2.write (x:=s.heap.objs.size) (e:=s.heap.objs.size) (by rw [ho]; exact ck) (.inl rfl) (fun b q hb z=>(sb.2 b hb).trans z) ⟨_,f1⟩ ⟨⟨no,es2,ep2,f1,f2,f3, ?_⟩,⟨_,f1⟩,fun h1 h2 ⟨q1,es,ep,q2,q3⟩ kk=>⟨q1,es,ep,kk _ q2,q3⟩⟩
 rw [f4]
 refine⟨⟨t, ?_⟩,trivial⟩
 show(⟨se X.prog X.w rs,_,_⟩:cJ)=_
 rw [uJ X.prog X.w]
theorem cf.start(hu:X.A.units+8 < cLine)(R:Rep X.K M0 H0 γ α ρ σ H)(hN:X.N.Nodup)(hj:X.N[i]? =some x)(hx:Loc X.env.scope x)(hl:i < ρ.length)(hk:av X ρ k (iM rs))(hv:av X ρ v (.int n))
  (kk: ∀a H',cf X M0 H0 γ α (ρ.set i .un) (σ.set i (some (.ref a))) H' i a [(rs,n)]->kB X sts En (σ.set i (some (.ref a))) H')
  (hs:cg (.Dict [some k] [v] p) (some (.Name x pos')) pos.line X.env=pure false:=by rfl)(hf:X.fn x=true\/X.env.scope.names.lookup x=some .local:=by first | exact .inl rfl | exact .inr rfl | assumption):kB X (.Assign [.Name x pos'] (.Dict [some k] [v] p) pos::sts) En σ H:=by
 refine(cE oE fg).to ((kU hN hj hx (Bt hu f7 f7) hs hf).to fun a o ha=>hk M0 H0 γ α σ _ _ (R.next (bB ha)) fun u H1 s1 d1=>hv M0 H0 γ α σ H1 _ ((R.next (bB ha)).next s1) fun w H2 s2 d2=> ?_)
 cases (show w= .int n from d2)
 obtain⟨b,ys,rfl,sq,dd⟩:=id d1
 have ho:H2 a=some (gg a o []):=s2 _ _ (s1 _ _ bC)
 refine⟨_,rs,n,b,rfl,rfl,d1.same s2,ho,fun o'=>kk a _ ?_⟩
 have sm:bI H (dC (upd H2 a (gg a o' [(m_ (iM rs),b,n)])) a):=fun c o e=>by
  rw [lg]
  have hne:c≠a:=fun z=>by rw [z,ha]at e; cases e
  exact iz hne (s2 _ _ (s1 _ _ ((bB ha) _ _ e)))
 have dk:Dn X.K (MM M0 ρ α) (dC (upd H2 a (gg a o' [(m_ (iM rs),b,n)])) a) (iM rs) (.ref b):=by
  rw [lg]
  exact Dn.hideB ho 9 (ig 7 rs) (d1.same s2)
 refine⟨(R.next sm).forget,lS hl,lS (by rw [R.len]; exact hl),by simp, [b],rfl, ?_, ?_⟩
 ·exact⟨o',by rw [bC]; rfl⟩
 ·exact⟨_,_,rfl,dk.less fun c z=>jJ (fun _ q=>by cases q) z,rfl⟩
theorem cf.put(hu:X.A.units+8 < cLine)(B:cf X M0 H0 γ α ρ σ H i a kv)(hi:X.N[i]? =some x)(hvx:tN X.env.scope x)(hk:av X (ρ.set i (.im (rf kv))) k (iM rs))(he:av X (ρ.set i (.im (rf kv))) e (.int n))(hnew:rs∉kv.map (·.1))(kr:kv.length<=sizeLine)
  (kk: ∀H',cf X M0 H0 γ α ρ σ H' i a (kv ++ [(rs,n)])->En.nx σ H')(hs:cg e (some (.Subscript (.Name x p1) k pos')) pos.line X.env=pure false:=by rfl)(hd:(x==("__debug__":Str))=false:=by decide)(hcd:(x==("__classdict__":Str))=false:=by decide):tS X (.Assign [.Subscript (.Name x p1) k pos'] e pos) En σ H:=by
 intro pins s I
 refine wpAny_Assign_Subscript (eQ (he M0 H0 γ α σ H (fun v H1=>bI H H1/\v= .int n) B.view (fun v H1 s1 d1=>⟨s1,d1⟩) pins s I) fun r st1 ⟨v,H1,I1,rv,s1,ev⟩=> ?_) hs
 subst ev
 obtain⟨t,rfl⟩:=(show ∃t,r=fH n t from rv)
 have B1:=B.next s1
 refine eQ ((iZ hi hvx hd hcd) pins st1 σ H1 (fun u H2=>u= .ref a/\H2=H1) I1 ⟨_,B1.at_,rfl,rfl⟩) fun u st2 ⟨z,H2,I2,rz,ez,eH⟩=> ?_
 subst ez eH
 obtain rfl:u=ao a:=rz
 refine eQ (hk M0 H0 γ α σ H2 (fun w H3=>bI H2 H3/\Dn X.K (MM M0 (ρ.set i (.im (rf kv))) α) H3 (iM rs) w) B1.view (fun w H3 s3 d3=>⟨s3,d3⟩) pins st2 I2) fun w st3 ⟨y,H3,I3,ry,s3,d3⟩=> ?_
 have B2:=B1.next s3
 obtain⟨bs,q1,q2,q3⟩:=B2.ex
 obtain⟨ob,q2⟩:=q2
 obtain⟨xs,dc⟩:=FD I3 B2.nd ⟨ob,q2⟩ q1 (q3.same cT)
 obtain⟨b,rfl,rfl,t2⟩:=nu I3 d3 ry
 have hl:=dc.len
 refine wpAny_setItem_heap (knd:=mf X.prog X.w) (hsz:=by omega) (by show X.A.in1.units+2 < cLine; rw [iJ]; omega) t2 dc.d fun h' dd sb=> ?_
 obtain⟨⟨no,es,ep,g1,g2,g3,g4⟩,_⟩:=(show dP X.prog X.w H3 st3.heap a (gg a ob _)from I3.dR a _ q2)
 rw [storedH_new (dc.miss hnew)]at dd
 obtain⟨o2,es2,ep2,f1,f2,f3,f4,_,_⟩:=dd
 obtain⟨o3,es3,ep3,e1,e2,e3,e4,_,_⟩:=dc.d
 rw [g1]at e1
 cases e1
 rw [g3]at e3
 cases e3
 have hents:eK (jF (kD (kv ++ [(rs,n)])) (bs ++ [b]) ((kv ++ [(rs,n)]).map (·.2))) es2.toList:=by
  have z1:kD (kv ++ [(rs,n)])=kD kv ++ [iM rs]:=by unfold kD; rw [bu]; rfl
  have z2:(kv ++ [(rs,n)]).map (·.2)=kv.map (·.2) ++ [n]:=by rw [bu]; rfl
  rw [z1,z2,zT (by rw [q1,ae]) (by rw [ae,ae]),f4,bu, <-e4]
  refine wo g4 ⟨t, ?_⟩
  show(⟨se X.prog X.w rs,_,_⟩:cJ)=_
  rw [uJ X.prog X.w]
 have I4:Inv X pins σ (upd H3 a (gg a o2 (jF (kD (kv ++ [(rs,n)])) (bs ++ [b]) ((kv ++ [(rs,n)]).map (·.2))))) {st3 with heap:=h',toks:=st3.toks+(mf X.prog X.w).draws rs}:=
  I3.write (x:=a) (e:=a) (by rw [q2]; exact ck) (.inl rfl) (fun b q hb z=>(sb.2 b hb).trans z) ⟨_,f1⟩ ⟨⟨no,es2,ep2,f1,f2,f3,hents⟩,⟨_,f1⟩,fun h1 h2 ⟨q1,es,ep,q2,q3⟩ kk=>⟨q1,es,ep,kk _ q2,q3⟩⟩
 refine⟨σ,_,I4,kk _ ⟨by rw [lg]; exact B2.r,B2.un,B2.at_, ?_,bs ++ [b], ?_,⟨_,bC⟩, ?_⟩⟩
 ·rw [bu,hV]
  refine⟨B2.nd,by simp,fun u hu w hw=> ?_⟩
  rcases aE.mp hw with rfl
  rintro rfl
  exact hnew hu
 ·rw [ak,ak,q1]
  rfl
 ·rw [lg]
  have z1:kD (kv ++ [(rs,n)])=kD kv ++ [iM rs]:=by unfold kD; rw [bu]; rfl
  rw [z1,bu]
  exact q3.app (cw.one (Dn.hideB q2 9 (ig 7 rs) d3))
end
section
variable {X:Cx}{ρ:eG}{M0:MP}{H0 H H':Hp}{γ:List (D×V)}{α:Nat->Addr}{σ:St}{En:Ends}{sts:List Stmt}{e:Expr}{d:D}{ds:List D}{pos pos':Pos}{i j:Nat}{x:Str}{a:Addr}{kv:kL}
theorem cf.setF(B:cf X M0 H0 γ α ρ σ H i a kv)(hN:X.N.Nodup)(hj:X.N[j]? =some x)(hx:Loc X.env.scope x)(hl:j < ρ.length)(hji:j≠i)(h:ff X (ρ.set i (.im (rf kv))) e ds)(hb: ∀d∈ds,D.bare 9 d)
  (k: ∀α v H',cf X M0 H0 γ α (ρ.set j (.mu ds)) (σ.set j (some v)) H' i a kv->kB X sts En (σ.set j (some v)) H')
  (hs:cg e (some (.Name x pos')) pos.line X.env=pure false:=by rfl)(hf:X.fn x=true\/X.env.scope.names.lookup x=some .local:=by first | exact .inl rfl | exact .inr rfl | assumption):kB X (.Assign [.Name x pos'] e pos::sts) En σ H:=
 (cE oE fg).to ((kU hN hj hx f7 hs hf).to (h M0 H0 γ α σ H _ B.view fun l xs H1 H' s n s' y z=>by
  have D1:=B.next s
  obtain⟨_,ys,ho⟩:=D1.obj
  have hla:l≠a:=fun q=>by rw [q,ho]at n; cases n
  have ho':=s' _ _ ho
  obtain⟨bs,q1,q2,q3⟩:=D1.ex
  refine k _ _ H' ⟨D1.r.set_mu hl (by unfold dC; rw [if_neg hla]; exact n) (lN s') (iz hla y) (cw.map1 (fun d hd v=>Dn.hideB ho' 9 (hb d hd)) z),by rw [dA hji.symm]; exact D1.un,by rw [dA hji.symm]; exact D1.at_,D1.nd,bs,q1,q2.imp fun _ q2=>s' _ _ q2, ?_⟩
  refine cw.map1 (fun d hd v=> ?_) (q3.same (lN s'))
  obtain⟨x,_,rfl⟩:=aX.mp hd
  exact Dn.bare 9 (ig 7 _)))
end
end Z
namespace K
open PySem L2 Z
theorem By(C:Addr)(f:c8)(qs:eY):D.bare 9 (iL C f qs):=fun d hd=>by
 have:d= .int f.st\/d= .int f.ht\/d= .int f.lf\/d= .tup (qs.map pD):=by simpa [pQ]using hd
 rcases this with rfl | rfl | rfl | rfl
 ·exact ck
 ·exact ck
 ·exact ck
 ·intro d hd
  obtain⟨p,_,rfl⟩:=aX.mp hd
  intro d hd
  have:d= .int p.1\/d= .int p.2:=by simpa [pD]using hd
  rcases this with rfl | rfl <;> exact ck
theorem DR(t:ml):D.bare 9 (tD t):=fun d hd=>by
 have:d= .int t.1\/d= .int t.2.1\/d= .int t.2.2:=by simpa [tD]using hd
 rcases this with rfl | rfl | rfl <;> exact ck
def nb(f:c8)(rs:Rows):List Rows:=(lets f rs).map (mv rs)
def oB(f:c8)(g:Rows):kL:=E1 (nb f) 160000 [(g,0)] 0
structure Dz(f:c8)(g rs:Rows):Prop where
 gd:good f rs=true
 of:Of g.flatten g.length rs
theorem xc{f:c8}{rs:Rows}{t:ml}(h:isLet f rs t=true):DA f rs t/\good f (mv rs t)=true:=by
 unfold isLet at h
 rw [bq]at h
 exact⟨iP.mp h.1,h.2⟩
theorem pH{f:c8}{rs:Rows}{t:ml}(ok:p8 f):t∈lets f rs↔isLet f rs t=true:=Cy (by have:=ok.st; omega) (by have:=ok.lf; omega)
theorem p_{f:c8}{rs r:Rows}(ok:p8 f):r∈nb f rs↔ ∃t,isLet f rs t=true/\mv rs t=r:=by
 unfold nb
 rw [aX]
 exact⟨fun⟨t,h1,h2⟩=>⟨t,(pH ok).mp h1,h2⟩,fun⟨t,h1,h2⟩=>⟨t,(pH ok).mpr h1,h2⟩⟩
theorem AM{f:c8}{g rs:Rows}(ok:p8 f)(h:Dz f g rs): ∀r∈nb f rs,Dz f g r:=fun r hr=>by
 obtain⟨t,ht,rfl⟩:=(p_ ok).mp hr
 obtain⟨hc,g2⟩:=xc ht
 exact⟨g2,(yG (f_ h.gd) hc).trans h.of.1,(xg rs t).trans h.of.2⟩
theorem ze{f:c8}{rs r:Rows}(ok:p8 f)(hg:good f rs=true)(h:r∈nb f rs):rs∈nb f r:=by
 obtain⟨t,ht,rfl⟩:=(p_ ok).mp h
 obtain⟨b1,b2⟩:=Bf hg ht
 exact(p_ ok).mpr ⟨bk t,b1,b2⟩
structure fw(f:c8)(qs:eY)(g:Rows):Prop where
 s:gw f qs
 gd:good f g=true
 kr:g.flatten.length<=4
theorem fw.BH{f:c8}{qs:eY}{g:Rows}(h:fw f qs g):Dz f g g:=⟨h.gd,c5 _,rfl⟩
theorem fw.le{f:c8}{qs:eY}{g:Rows}(h:fw f qs g){kv:kL}(nd:(kv.map (·.1)).Nodup)(hi: ∀x∈kv,Dz f g x.1):kv.length<=160000:=
 GY h.kr (by have:=f_ h.gd; have:=h.s.ok.st; omega) nd fun x hx=>(hi x hx).of
structure GD(f:c8)(g:Rows):Prop where
 be:BE (nb f) g (oB f g)
 BH: ∀x∈oB f g,Dz f g x.1
 len:(oB f g).length<=160000
theorem fw.fin{f:c8}{qs:eY}{g:Rows}(h:fw f qs g):GD f g:=by
 obtain⟨d,b,hp,hd⟩:=yC (nb:=nb f) (g:=g) (P:=Dz f g) (N:=160000) (fun k hk k'=>AM h.s.ok hk k') (fun kv nd hi=>h.le nd hi) 160000 [(g,0)] 0 BI.start (fun x hx=>by rw [aE.mp hx]; exact h.BH) (bO _) (aw _)
 exact⟨b.fin hd,hp,h.le b.nd hp⟩
structure ET(f:c8)(g:Rows)(kv:kL)(d:Nat):Prop where
 b:BI (nb f) g kv d
 BH: ∀x∈kv,Dz f g x.1
 le:d<=kv.length
 end_:E1 (nb f) (160000 - d) kv d=oB f g
theorem ET.start{f:c8}{qs:eY}{g:Rows}(h:fw f qs g):ET f g [(g,0)] 0:=⟨BI.start,fun x hx=>by rw [aE.mp hx]; exact h.BH,bO _,rfl⟩
theorem ET.step{f:c8}{qs:eY}{g:Rows}{kv:kL}{d:Nat}(h:fw f qs g)(w:ET f g kv d)(hd:d < kv.length):ET f g (mh (nb f) kv d) (d+1)/\d < 160000:=by
 have l:=h.le w.b.nd w.BH
 have p:=(r6 (nb:=nb f) kv d).length_le
 refine⟨⟨w.b.step hd,sF (P:=Dz f g) (fun k hk k'=>AM h.s.ok hk k') w.BH,by omega, ?_⟩,by omega⟩
 have e:=w.end_
 rw [show 160000 - d=160000 - (d+1)+1 by omega,E1,if_pos hd]at e
 exact e
theorem ET.done{f:c8}{g:Rows}{kv:kL}{d:Nat}(w:ET f g kv d)(hd: ¬d < kv.length):kv=oB f g:=by
 have e:=w.end_
 cases n:160000 - d with
 | zero=>rw [n]at e; exact e
 | succ n'=>rw [n,E1,if_neg hd]at e; exact e
theorem BD{f:c8}{kv:kL}{d:Nat}{rs:Rows}{h:Int}(e:kv[d]? =some (rs,h)):mh (nb f) kv d=(nb f rs).foldl (visit h) kv:=by
 unfold mh
 rw [e]
theorem foldl_take_succ{α β:Type}(F:β->α->β)(b:β){l:List α}{n:Nat}{x:α}(h:l[n]? =some x):(l.take (n+1)).foldl F b=F ((l.take n).foldl F b) x:=by
 rw [dG,h,List.foldl_append]
 rfl
def intAt(i:Nat)(ρ:eG):Nat:=match ρ[i]? with
 | some (Sl.im (.int z))=>160000 - z.toNat
 | _=>0
section
variable {P:ar}{w:World}{K:Frag}{mg:Str->Option Value}{base:Heap}{CX:fJ}{C:Addr}
theorem yQ:bN ["floor","goal","above","reached","done","standing","lift","behind"] ["floor","goal"] (aJ pJ):=⟨rfl,rfl,rfl,by decide +kernel,rfl,by decide +kernel,by decide +kernel⟩
abbrev xb(P:ar)(w:World)(K:Frag)(mg:Str->Option Value)(base:Heap)(CX:fJ)(C:Addr):Prop:=
 jQ P w K mg base CX 7 "heights_above" (fun i:c8×eY×Rows=> [iL C i.1 i.2.1,rT i.2.2]) (fun i=>fw i.1 i.2.1 i.2.2) (fun i=> .ok (rf (oB i.1 i.2.2)))
theorem Bs{f:Addr}{fd:aV}(nx:NX CX)(B:Bm mg)(G1:xR P w K mg base CX C)(G2:sY P w K mg base CX)(F:iY K "heights_above" "heights_above" pJ f fd)(hm:mg "heights_above"=some (.ref f))(hb:Binds K fd ["floor","goal"] []):xb P w K mg base CX C:=by
 refine DJ F yQ hm hb (fun i=>rfl) fun cdv A outer s H E i M0 hp hr=>⟨_,rfl,fun σ R=> ?_⟩
 obtain⟨fl,qs,g⟩:=i
 have ho:fw fl qs g:=hp
 have px:=yQ.nd
 have hu8:(A.deeper (ja "heights_above" (aJ pJ) s.heap.objs.size f cdv)).units+8 < cLine:=by have:=xI hr; omega
 change Rep K M0 H [] (fun _=>0) [.im (iL C fl qs), .im (rT g), .un, .un, .un, .un, .un, .un] σ H at R
 change kB _ (bx pJ) (ends K M0 H [] {N:=fun _=>rf (oB fl g)= .non,R:=fun d'=>d'=rf (oB fl g)}) σ H
 refine cf.start (i:=2) (rs:=g) (n:=0) hu8 R px rfl (.inl rfl) (fQ rfl) (nm 1 rfl rfl) av.int fun a H1 D1=> ?_
 change cf _ _ _ _ _ [.im (iL C fl qs), .im (rT g), .un, .un, .un, .un, .un, .un] _ _ _ _ _ at D1
 refine cf.setF (j:=3) (ds:= [iM g]) D1 px rfl (.inl rfl) (fQ rfl) (by decide) (ff.lst (bz.cons (nm 1 rfl rfl) bz.nil)) (fun d hd=>by rw [aE.mp hd]; exact ig 7 _) fun α2 v2 H2 D2=> ?_
 refine cf.set (j:=4) (d:= .int 0) D2 px rfl (.inl rfl) (fQ rfl) (by decide) av.int ck fun v3 H3 D3=> ?_
 refine(cE oE fg).to (cf.while (fun ρ kv=> ∃(d:Nat) (a5 a6 a7:Sl),ρ= [.im (iL C fl qs), .im (rT g), .un, .mu (kv.map fun x=>iM x.1), .im (.int d),a5,a6,a7]/\ET fl g kv d) (fun ρ _=>intAt 4 ρ) bt D3 ⟨0,_,_,_,rfl,ET.start ho⟩ ?_)
 rintro α ρ σ kv ⟨d,a5,a6,a7,rfl,wk⟩
 refine⟨_,cB.cI .lt (nm 4 rfl rfl) (av.lenL rfl B.len (vw 3 rfl rfl)),fun h H D=> ?_,fun h H D=> ?_⟩
 ·rw [ae]at h
  have hd:d < kv.length:=by
   have:(d:Int) < kv.length:=by simpa using h
   omega
  obtain⟨wk2,hd2⟩:=wk.step ho hd
  obtain⟨rs,hh⟩: ∃rs:Rows, ∃h:Int,kv[d]? =some (rs,h):=⟨kv[d].1,kv[d].2,ai hd⟩
  obtain⟨ht,hk⟩:=hh
  rw [BD hk]at wk2
  have hin:Dz fl g rs:=wk.BH _ (aP hk)
  have hgo:wm fl qs rs:=⟨ho.s,hin.gd⟩
  refine cf.set (j:=5) (d:=iM rs) D px rfl (.inl rfl) (fQ rfl) (by decide) (av.ixL (vw 3 rfl rfl) (nm 4 rfl rfl) (by
   rw [qg rfl (by rw [ae]; exact hd),aR]
   rw [ai hd]at hk
   rw [aK hk])) (ig 7 _) fun v4 H4 D4=> ?_
  refine(cE oE fg).to (cf.for (t:=6) (ds:=(lets fl rs).map tD) (fun n ρ kv'=> ∃a6 a7:Sl,ρ= [.im (iL C fl qs), .im (rT g), .un, .mu (kv'.map fun x=>iM x.1), .im (.int d), .im (iM rs),a6,a7]/\kv'=((nb fl rs).take n).foldl (visit ht) kv) bt rfl px rfl (.inl rfl) (by decide) D4
   (av.call G1 hr (bw nx) rfl (fl,qs,rs) (bz.cons (nm 0 rfl rfl) (bz.cons (nm 5 rfl rfl) bz.nil)) hgo rfl) (fun d hd=>by obtain⟨t,_,rfl⟩:=aX.mp hd; exact DR t) ⟨_,_,rfl,rfl⟩ (fun n ρ kv' ⟨_,_,e,_⟩=>by rw [e]; exact fQ rfl) ?_ ?_)
  ·rintro γ' n dd α ρ σ H kv' hn ⟨b6,b7,rfl,ekv⟩ D
   rw [aD]at hn
   cases et:(lets fl rs)[n]? with
   | none=>rw [et]at hn; cases hn
   | some t=>
    rw [et]at hn
    cases hn
    have hl:=(pH ho.s.ok).mp (aP et)
    obtain⟨hc,hg2⟩:=xc hl
    have en:(nb fl rs)[n]? =some (mv rs t):=by unfold nb; rw [aD,et]; rfl
    have ekv2:=foldl_take_succ (visit ht) kv en
    rw [<-ekv]at ekv2
    have hpre:kv <+:kv':=by rw [ekv]; exact my ht _ kv
    have hin': ∀x∈kv',Dz fl g x.1:=by
     rw [ekv]
     exact mC ht _ kv wk.BH fun k hk=>AM ho.s.ok hin k (fX hk)
    have hlen:=ho.le D.nd hin'
    have hrs:(rs,ht)∈kv':=hpre.subset (aP hk)
    refine cf.set (j:=7) (d:=iM (mv rs t)) D px rfl (.inl rfl) (fQ rfl) (by decide) (av.call G2 (hr.mono (by decide)) (bw nx) rfl (rs,t) (bz.cons (nm 5 rfl rfl) (bz.cons (nm 6 rfl rfl) bz.nil)) (hc.mvOk (f_ hgo.g) hgo.sm) rfl) (ig 7 _) fun v5 H5 D5=> ?_
    refine(ng oE).to (cf.ite D5 (cB.notInDc (k:=mv rs t) hu8 D5.nd (nm 7 rfl rfl) (nm 2 rfl rfl)) (fun h2 H6 D6=> ?_) fun h2 H6 D6=> ?_)
    ·have hnew:mv rs t∉kv'.map (·.1):=by simpa using h2
     have ev:visit ht kv' (mv rs t)=kv' ++ [(mv rs t,ht+1)]:=if_neg hnew
     refine(cE oE fg).to (cf.put (rs:=mv rs t) (n:=ht+1) hu8 D6 rfl (.inl rfl) (nm 7 rfl rfl) (av.add (av.dget (k:=rs) (n:=ht) hu8 D6.nd hrs (nm 2 rfl rfl) (nm 5 rfl rfl)) av.int) hnew (by show kv'.length<=sizeLine; unfold sizeLine; omega) fun H7 D7=> ?_)
     refine(ng oE).to (cf.append (j:=3) (d:=iM (mv rs t)) D7 rfl (.inl rfl) (by decide) rfl (by rw [ae]; omega) (nm 7 rfl rfl) (ig 7 _) (fun H8 D8=>⟨_,_,_,D8, .im (tD t), .im (iM (mv rs t)), ?_, ?_⟩) ⟨rfl,rfl,rfl,rfl⟩)
     ·rw [bu]; rfl
     ·rw [ekv2,ev]
    ·have hold:mv rs t∈kv'.map (·.1):=by simpa using h2
     have ev:visit ht kv' (mv rs t)=kv':=if_pos hold
     exact lG.to ⟨_,_,_,D6,_,_,rfl,by rw [ekv2,ev]⟩
  ·rintro α ρ σ H kv' ⟨b6,b7,rfl,ekv⟩ D
   rw [ae,show(lets fl rs).length=(nb fl rs).length from(ae ..).symm,dq]at ekv
   subst ekv
   refine cf.set (j:=4) (d:= .int ((d+1:Nat):Int)) D px rfl (.inl rfl) (fQ rfl) (by decide) (av.to (av.add (nm 4 rfl rfl) av.int) (by rw [Int.natCast_add]; rfl)) ck fun v9 H9 D9=> ?_
   refine lG.to ⟨_,_,_,D9,⟨d+1,_,_,_,rfl,wk2⟩, ?_⟩
   show 160000 - ((d+1:Nat):Int).toNat < 160000 - (d:Int).toNat
   omega
 ·rw [ae]at h
  have hd: ¬d < kv.length:=by
   have: ¬(d:Int) < kv.length:=by simpa using h
   omega
  have e:=wk.done hd
  subst e
  exact WS.one (W1.ret (nm 2 rfl rfl) rfl) [] _ _ _ D.view
end
def Be(kv:kL)(rs:Rows):Int:=match kv.find? fun x=>decide (x.1=rs)with
 | some x=>x.2
 | none=>0
section
variable {f:c8}{qs:eY}{g:Rows}
theorem GD.ht(e:GD f g){rs:Rows}{n:Int}(h:(rs,n)∈oB f g):Be (oB f g) rs=n:=by
 unfold Be
 cases q:(oB f g).find? fun x=>decide (x.1=rs)with
 | none=>
  have:=List.find?_eq_none.mp q _ h
  simp at this
 | some x=>
  have h1:=List.mem_of_find?_eq_some q
  have h2:=List.find?_some q
  obtain⟨k,m⟩:=x
  have h3:k=rs:=by simpa using h2
  subst h3
  exact e.be.uniq h1 h
theorem GD.nb(e:GD f g)(ok:p8 f){rs:Rows}{n:Int}(h:(rs,n)∈oB f g){t:ml}(ht:isLet f rs t=true): ∃m,(mv rs t,m)∈oB f g/\m<=n+1/\n<=m+1:=by
 have h1:=(p_ ok).mpr ⟨t,ht,rfl⟩
 obtain⟨m,hm,le⟩:=e.be.Ee _ _ h _ h1
 obtain⟨n',hn,le2⟩:=e.be.Ee _ _ hm _ (ze ok (e.BH _ h).gd h1)
 exact⟨m,hm,le,by rw [e.be.uniq h hn]; exact le2⟩
theorem GD.down(e:GD f g)(ok:p8 f){rs:Rows}{n:Int}(h:(rs,n)∈oB f g)(hn:0 < n): ∃t,isLet f rs t=true/\Be (oB f g) (mv rs t) < n:=by
 rcases e.be.par _ _ h with⟨_,h0⟩ | ⟨k,m,hk,hb,rfl⟩
 ·omega
 ·obtain⟨t,ht,q⟩:=(p_ ok).mp (ze ok (e.BH _ hk).gd hb)
  exact⟨t,ht,by rw [q,e.ht hk]; omega⟩
end
def Jg(kv:kL)(rs:Rows)(t:ml):Bool:=decide (Be kv (mv rs t) < Be kv rs)
def low(f:c8)(g rs:Rows):List ml:=(lets f rs).filter (Jg (oB f g) rs)
section
variable {P:ar}{w:World}{K:Frag}{mg:Str->Option Value}{base:Heap}{CX:fJ}{C CT:Addr}
theorem pU:bN ["standing","crates","stack"] ["standing"] (aJ lO):=⟨rfl,rfl,rfl,by decide +kernel,rfl,by decide +kernel,by decide +kernel⟩
abbrev nR(P:ar)(w:World)(K:Frag)(mg:Str->Option Value)(base:Heap)(CX:fJ):Prop:=
 jQ P w K mg base CX 1 "crates_of" (fun rows:Rows=> [rT rows]) (fun rows=>rows.flatten.length < 64) (fun rows=> .ok (.lst ((wX rows.flatten).map .int)))
theorem vH{f:Addr}{fd:aV}(B:Bm mg)(F:iY K "crates_of" "crates_of" lO f fd)(hm:mg "crates_of"=some (.ref f))(hb:Binds K fd ["standing"] []):nR P w K mg base CX:=by
 refine eN F pU hm hb (fun i=>rfl) fun cdv A outer s H E rows M0 hp hr=>⟨_,rfl, ?_⟩
 have hp':rows.flatten.length < 64:=hp
 have px:=pU.nd
 have hlen:(aU true rows).length=rows.length:=ae ..
 change WS _ M0 H (bx lO) [.im (rT rows), .un, .un] _
 refine WS.cons (W1.setF (i:=1) px rfl (.inl rfl) (fQ rfl) (ff.lst bz.nil) ?_)
 refine WS.cons (W1.for (ds:=aU true rows) (fun i ρ=> ∃a,ρ= [.im (rT rows), .mu ((rows.take i).flatten.map .int),a]) bt rfl (iq.tup (nm 0 rfl rfl)) ⟨_,by rw [hJ]; rfl⟩ ?_ ?_)
 ·rintro i d ρ hd ⟨a,rfl⟩
  obtain⟨r,hr',rfl⟩:=eZ hd
  have l1:=jq rows i
  have l2:=lP (aP hr')
  refine⟨_,sJ.name (i:=2) px rfl (.inl rfl) (fQ rfl), ?_⟩
  refine WS.one (W1.extend (i:=1) (fs:=r.map .int) rfl (.inl rfl) rfl (nm 2 rfl rfl) rfl (by rw [ae,ae]; omega) ?_ ⟨rfl,rfl,rfl,rfl⟩)
  dsimp only
  rw [nI hr',bu]
  exact⟨_,rfl⟩
 rintro ρ ⟨a,rfl⟩
 rw [hlen,dq]
 exact WS.one (W1.ret (ff.toD (ff.sortedI rfl B.sorted (vw 1 rfl rfl) hp')) rfl)
theorem Ap:bN ["standing"] ["standing"] (aJ k8):=⟨rfl,rfl,rfl,by decide +kernel,rfl,by decide +kernel,by decide +kernel⟩
abbrev pX(P:ar)(w:World)(K:Frag)(mg:Str->Option Value)(base:Heap)(CT:Addr):Prop:=
 jQ P w K mg base (f9 P w) 2 "refuse_too_many" (fun rows:Rows=> [rT rows]) (fun rows=>rows.flatten.length < 64) (fun rows=>if rows.flatten.length<=4 then .ok .non else .error CT)
theorem xG{f:Addr}{fd:aV}(er:zZ "TooMany" CT mg base)(hmc: ∃t,mg "MOST_CRATES"=some (.int 4 t))(B:Bm mg)(G:nR P w K mg base (f9 P w))(F:iY K "refuse_too_many" "refuse_too_many" k8 f fd)(hm:mg "refuse_too_many"=some (.ref f))(hb:Binds K fd ["standing"] []):pX P w K mg base CT:=by
 refine o8 F Ap hm hb (fun i=>rfl) fun cdv A outer s H E rows M0 hp hr=> ?_
 have hp':rows.flatten.length < 64:=hp
 have nx:NX (f9 P w):=k7
 by_cases hg:rows.flatten.length<=4
 ·refine .inl ⟨.non,if_pos hg, ?_⟩
  change WS _ M0 H (bx k8) [.im (rT rows)] {N:=fun _=>D.non= .non,R:=fun d'=>d'= .non}
  refine WS.one (W1.ite (cB.cI .gt (av.lenL rfl B.len (av.r (av.call G hr (bw nx) rfl rows (bz.cons (nm 0 rfl rfl) bz.nil) hp' rfl))) (pR hmc rfl)) (fun h=> ?_) fun h=>WS.nil rfl)
  rw [ae,tF]at h
  have:=of_decide_eq_true h
  omega
 ·refine .inr ⟨CT,if_neg hg, ?_⟩
  change jm _ [.im (rT rows)] E (bx k8) CT
  refine jm.here (yz.ite (t:=true) (cB.to (cB.cI .gt (av.lenL rfl B.len (av.r (av.call G hr (bw nx) rfl rows (bz.cons (nm 0 rfl rfl) bz.nil) hp' rfl))) (pR hmc rfl)) ?_) (fun _=>jm.here (yz.raise er rfl av.str)) fun h=>by cases h)
  rw [ae,tF]
  exact decide_eq_true (by omega)
end
theorem xl{P:ar}{w:World}{K:Frag}{mg:Str->Option Value}{base:Heap}{C CS:Addr}(G:uy P w K mg base C CS):xR P w K mg base (f9 P w) C:=qe G fun i h=>⟨⟨h.s,h.sm⟩,if_pos h.g⟩
def qr(kv:kL):D:= .lst ((vq kX kv).map uZ)
def Ip(CS CT:Addr)(f:c8)(rows:Rows)(d:D):Except Addr D:=if good f rows then(if rows.flatten.length<=4 then .ok d else .error CT)else .error CS
section
variable {P:ar}{w:World}{K:Frag}{mg:Str->Option Value}{base:Heap}{C CS CO CT:Addr}
theorem Fx{fl:c8}{qs:eY}{rows:Rows}(hS:gw fl qs)(hg:good fl rows=true):rows.flatten.length < 64:=by
 have:=(mD hg hS.ok.st.2 hS.ok.ht.2).1
 omega
theorem zK:bN ["floor","goal"] ["floor","goal"] (aJ i3):=⟨rfl,rfl,rfl,by decide +kernel,rfl,by decide +kernel,by decide +kernel⟩
abbrev nC(P:ar)(w:World)(K:Frag)(mg:Str->Option Value)(base:Heap)(C CS CT:Addr):Prop:=
 jQ P w K mg base (f9 P w) 8 "heights" (fun i:c8×eY×Rows=> [iL C i.1 i.2.1,rT i.2.2]) (fun i=>gw i.1 i.2.1/\Small i.2.2) (fun i=>Ip CS CT i.1 i.2.2 (qr (oB i.1 i.2.2)))
theorem ya{f:Addr}{fd:aV}(B:Bm mg)(G1:kO P w K mg base C CS)(G2:pX P w K mg base CT)(G3:xb P w K mg base (f9 P w) C)(F:iY K "heights" "heights" i3 f fd)(hm:mg "heights"=some (.ref f))(hb:Binds K fd ["floor","goal"] []):nC P w K mg base C CS CT:=by
 refine o8 F zK hm hb (fun i=>rfl) fun cdv A outer s H E i M0 hp hr=> ?_
 obtain⟨fl,qs,rows⟩:=i
 obtain⟨hS,sm⟩:gw fl qs/\Small rows:=hp
 have nx:NX (f9 P w):=k7
 have hu8:(A.deeper (ja "heights" (aJ i3) s.heap.objs.size f cdv)).units+8 < cLine:=by have:=xI hr; omega
 by_cases hg:good fl rows=true
 ·by_cases h4:rows.flatten.length<=4
  ·refine .inl ⟨_,(if_pos hg).trans (if_pos h4), ?_⟩
   have o:fw fl qs rows:=⟨hS,hg,h4⟩
   have e:=o.fin
   change WS _ M0 H (bx i3) [.im (iL C fl qs), .im (rT rows)] {N:=fun _=>qr (oB fl rows)= .non,R:=fun d'=>d'=qr (oB fl rows)}
   refine WS.cons (W1.expr (av.call G1 (hr.mono (by decide)) (bw nx) rfl (fl,qs,rows) (bz.cons (nm 0 rfl rfl) (bz.cons (nm 1 rfl rfl) bz.nil)) ⟨hS,sm⟩ (if_pos hg)) ?_)
   refine WS.cons (W1.expr (av.call G2 (hr.mono (by decide)) (bw nx) rfl rows (bz.cons (nm 1 rfl rfl) bz.nil) (Fx hS hg) (if_pos h4)) ?_)
   exact WS.one (W1.ret (ff.toD (ff.sortedIt hr.hd hu8 e.be.nd (by have:=e.len; unfold sizeLine; omega) rfl B.sorted (av.call G3 hr (bw nx) rfl (fl,qs,rows) (bz.cons (nm 0 rfl rfl) (bz.cons (nm 1 rfl rfl) bz.nil)) o rfl))) rfl)
  ·refine .inr ⟨CT,(if_pos hg).trans (if_neg h4), ?_⟩
   change jm _ [.im (iL C fl qs), .im (rT rows)] E (bx i3) CT
   refine jm.expr (av.call G1 (hr.mono (by decide)) (bw nx) rfl (fl,qs,rows) (bz.cons (nm 0 rfl rfl) (bz.cons (nm 1 rfl rfl) bz.nil)) ⟨hS,sm⟩ (if_pos hg)) ?_
   exact jm.here (yz.expr (Hv.call (i:=rows) G2 (hr.mono (by decide)) tw rfl (bz.cons (nm 1 rfl rfl) bz.nil) (Fx hS hg) (if_neg h4)))
 ·refine .inr ⟨CS,if_neg hg, ?_⟩
  change jm _ [.im (iL C fl qs), .im (rT rows)] E (bx i3) CS
  exact jm.here (yz.expr (Hv.call (i:=(fl,qs,rows)) G1 (hr.mono (by decide)) tw rfl (bz.cons (nm 0 rfl rfl) (bz.cons (nm 1 rfl rfl) bz.nil)) ⟨hS,sm⟩ (if_neg hg)))
end
section
variable {P:ar}{w:World}{K:Frag}{mg:Str->Option Value}{base:Heap}{CX:fJ}
theorem DQ:bN ["found"] ["found"] (aJ ye):=⟨rfl,rfl,rfl,by decide +kernel,rfl,by decide +kernel,by decide +kernel⟩
abbrev uD(P:ar)(w:World)(K:Frag)(mg:Str->Option Value)(base:Heap)(CX:fJ):Prop:=
 jQ P w K mg base CX 1 "_law_whole" (fun i:Int=> [.int i]) (fun _=>True) (fun _=> .ok (.bl true))
theorem CY{f:Addr}{fd:aV}(B:Bm mg)(F:iY K "_law_whole" "_law_whole" ye f fd)(hm:mg "_law_whole"=some (.ref f))(hb:Binds K fd ["found"] []):uD P w K mg base CX:=by
 refine eN F DQ hm hb (fun i=>rfl) fun cdv A outer s H E i M0 hp hr=>⟨_,rfl, ?_⟩
 refine WS.one (W1.ret (av.and (av.nP rfl B.nP rfl B.int (by decide +kernel) (.inl rfl) (av.r (nm 0 rfl rfl)) rfl) fun _=>av.one (av.not (av.nP rfl B.nP rfl B.bool (by decide +kernel) (.inr (.inl rfl)) (av.r (nm 0 rfl rfl)) rfl))) ?_)
 show D.bl (oM "int" (.int i)&& !oM "bool" (.int i))=D.bl true
 rw [yE,vf]
 rfl
theorem yK:bN ["found","due","k"] ["found","due"] (aJ uz):=⟨rfl,rfl,rfl,by decide +kernel,rfl,by decide +kernel,by decide +kernel⟩
abbrev xQ(P:ar)(w:World)(K:Frag)(mg:Str->Option Value)(base:Heap)(CX:fJ):Prop:=
 jQ P w K mg base CX 2 "_law_tuple" (fun r:List Int=> [.tup (r.map .int), .tup (r.map .int)]) (fun r=>r.length<=1000) (fun _=> .ok (.bl true))
theorem BA{f:Addr}{fd:aV}(nx:NX CX)(B:Bm mg)(G:uD P w K mg base CX)(F:iY K "_law_tuple" "_law_tuple" uz f fd)(hm:mg "_law_tuple"=some (.ref f))(hb:Binds K fd ["found","due"] []):xQ P w K mg base CX:=by
 refine eN F yK hm hb (fun i=>rfl) fun cdv A outer s H E r M0 hp hr=>⟨_,rfl, ?_⟩
 have hp':r.length<=1000:=hp
 have px:=yK.nd
 change WS _ M0 H (bx uz) [.im (.tup (r.map .int)), .im (.tup (r.map .int)), .un] {N:=fun _=>D.bl true= .non,R:=fun d'=>d'= .bl true}
 refine WS.cons (W1.ite (fk.t (fk.or (cB.not (cB.val (av.nP rfl B.nP rfl B.tuple (by decide +kernel) (.inr (.inr (.inr (.inl rfl)))) (av.r (nm 0 rfl rfl)) rfl))) fun _=>fk.or1 (cB.cI .ne (av.lenT rfl B.len (nm 0 rfl rfl)) (av.lenT rfl B.len (nm 1 rfl rfl))))) (fun h=> ?_) fun h=>WS.nil ?_)
 ·rw [kc]at h
  simp at h
 refine WS.cons (W1.for (ds:=jn 0 r.length) (fun i ρ=> ∃a,ρ= [.im (.tup (r.map .int)), .im (.tup (r.map .int)),a]) bt rfl (iq.to (iq.range rfl B.range (av.lenT rfl B.len (nm 1 rfl rfl)) (by rw [ae]; omega)) (by rw [ae]; rfl)) ⟨_,rfl⟩ ?_ ?_)
 ·rintro i d ρ hd ⟨a,rfl⟩
  obtain⟨rfl,hi⟩:=fx hd
  refine⟨_,sJ.name (i:=2) px rfl (.inl rfl) (fQ rfl), ?_⟩
  refine WS.one (W1.ite (fk.t (fk.or (cB.not (cB.val (av.call G hr (bw nx) rfl (r.getD i 0) (bz.cons (av.ixT (nm 0 rfl rfl) (nm 2 rfl rfl) (jO hi (by omega))) bz.nil) trivial rfl))) fun _=>fk.or1 (cB.cI .ne (av.ixT (nm 0 rfl rfl) (nm 2 rfl rfl) (jO hi (by omega))) (av.ixT (nm 1 rfl rfl) (nm 2 rfl rfl) (jO hi (by omega)))))) (fun h=> ?_) fun h=>WS.nil ⟨_,rfl⟩)
  simp at h
 ·rintro ρ ⟨a,rfl⟩
  exact WS.one (W1.ret av.bl rfl)
theorem vY:bN ["found","due","k"] ["found","due"] (aJ o9):=⟨rfl,rfl,rfl,by decide +kernel,rfl,by decide +kernel,by decide +kernel⟩
abbrev uA(P:ar)(w:World)(K:Frag)(mg:Str->Option Value)(base:Heap)(CX:fJ):Prop:=
 jQ P w K mg base CX 3 "_law_stands" (fun rows:Rows=> [.tup (aU true rows), .tup (aU true rows)]) (fun rows=>Small rows) (fun _=> .ok (.bl true))
theorem zw{f:Addr}{fd:aV}(nx:NX CX)(B:Bm mg)(G:xQ P w K mg base CX)(F:iY K "_law_stands" "_law_stands" o9 f fd)(hm:mg "_law_stands"=some (.ref f))(hb:Binds K fd ["found","due"] []):uA P w K mg base CX:=by
 refine eN F vY hm hb (fun i=>rfl) fun cdv A outer s H E rows M0 hp hr=>⟨_,rfl, ?_⟩
 have sm:Small rows:=hp
 have sf:=sm.fl
 have sn:=sm.n
 have px:=vY.nd
 have hl:(aU true rows).length=rows.length:=ae ..
 change WS _ M0 H (bx o9) [.im (.tup (aU true rows)), .im (.tup (aU true rows)), .un] {N:=fun _=>D.bl true= .non,R:=fun d'=>d'= .bl true}
 refine WS.cons (W1.ite (fk.t (fk.or (cB.not (cB.val (av.nP rfl B.nP rfl B.tuple (by decide +kernel) (.inr (.inr (.inr (.inl rfl)))) (av.r (nm 0 rfl rfl)) rfl))) fun _=>fk.or1 (cB.cI .ne (av.lenT rfl B.len (nm 0 rfl rfl)) (av.lenT rfl B.len (nm 1 rfl rfl))))) (fun h=> ?_) fun h=>WS.nil ?_)
 ·rw [kc]at h
  simp at h
 refine WS.cons (W1.for (ds:=jn 0 rows.length) (fun i ρ=> ∃a,ρ= [.im (.tup (aU true rows)), .im (.tup (aU true rows)),a]) bt rfl (iq.to (iq.range rfl B.range (av.lenT rfl B.len (nm 1 rfl rfl)) (by rw [hl]; omega)) (by rw [hl]; rfl)) ⟨_,rfl⟩ ?_ ?_)
 ·rintro i d ρ hd ⟨a,rfl⟩
  obtain⟨rfl,hi⟩:=fx hd
  have h0:(0:Int)<=0+(i:Int):=by omega
  have h1:(0:Int)+(i:Int) < rows.length:=by omega
  have rl:=jH h0 h1
  refine⟨_,sJ.name (i:=2) px rfl (.inl rfl) (fQ rfl), ?_⟩
  refine WS.one (W1.ite (cB.not (cB.val (av.call G hr (bw nx) rfl (rowAt rows (0+(i:Int))) (bz.cons (av.ixT (nm 0 rfl rfl) (nm 2 rfl rfl) (jh h0 h1)) (bz.cons (av.ixT (nm 1 rfl rfl) (nm 2 rfl rfl) (jh h0 h1)) bz.nil)) (show(rowAt rows (0+(i:Int))).length<=1000 by omega) rfl))) (fun h=> ?_) fun h=>WS.nil ⟨_,rfl⟩)
  cases h
 ·rintro ρ ⟨a,rfl⟩
  exact WS.one (W1.ret av.bl rfl)
end
section
variable {P:ar}{w:World}{K:Frag}{mg:Str->Option Value}{base:Heap}{CX:fJ}
theorem wx:bN ["standing","lift","rows","taken"] ["standing","lift"] (aJ pk):=⟨rfl,rfl,rfl,by decide +kernel,rfl,by decide +kernel,by decide +kernel⟩
abbrev nh(P:ar)(w:World)(K:Frag)(mg:Str->Option Value)(base:Heap)(CX:fJ):Prop:=
 jQ P w K mg base CX 1 "_law_behind" (fun i:Rows×ml=> [.tup (aU true i.1),tD i.2]) (fun i=>B3 i.1 i.2/\i.2.1≠i.2.2.1) (fun i=> .ok (.tup (aU true (mv i.1 i.2))))
theorem sk(rows:Rows)(i:Nat)(r:List Int):aU false (rows.set i r)=(aU false rows).set i (.lst (r.map .int)):=by
 unfold aU
 rw [List.map_set]
 rfl
theorem kP{rows:Rows}{v:Int}(h0:0<=v)(h:v < rows.length):sh (aU false rows) v=some (.lst ((rowAt rows v).map .int)):=by
 have e:v=((v.toNat:Nat):Int):=by omega
 rw [e]
 refine yA ?_
 unfold aU
 rw [aD,gX h0 h]
 rfl
theorem zS{f:Addr}{fd:aV}(B:Bm mg)(F:iY K "_law_behind" "_law_behind" pk f fd)(hm:mg "_law_behind"=some (.ref f))(hb:Binds K fd ["standing","lift"] []):nh P w K mg base CX:=by
 refine eN F wx hm hb (fun i=>rfl) fun cdv A outer s H E i M0 hp hr=>⟨_,rfl, ?_⟩
 obtain⟨rows,a,b,n⟩:=i
 obtain⟨⟨a0,a1,b0,b1,n0,nr,sm⟩,ne⟩:=(hp:B3 rows (a,b,n)/\a≠b)
 dsimp only at a0 a1 b0 b1 n0 nr
 have px:=wx.nd
 have sf:rows.flatten.length<=1000:=sm.fl
 have ra:=jH a0 a1
 have rb:=jH b0 b1
 have hlT:(aU true rows).length=rows.length:=ae ..
 have lF: ∀rs:Rows,(aU false rs).length=rs.length:=fun rs=>ae ..
 have sn:rows.length<=1000:=sm.n
 have ek:((rowAt rows a).length:Int) - n=(((rowAt rows a).length - n.toNat:Nat):Int):=by omega
 have ne2:a≠b:=ne
 have hne:a.toNat≠b.toNat:=by omega
 change WS _ M0 H (bx pk) [.im (.tup (aU true rows)), .im (.tup [.int a, .int b, .int n]), .un, .un] {N:=fun _=>D.tup (aU true (mv rows (a,b,n)))= .non,R:=fun d'=>d'= .tup (aU true (mv rows (a,b,n)))}
 refine WS.cons (W1.comp (i:=2) (ds:=aU true rows) (es:=aU false rows) (cs:= []) (dW.closed (by decide +kernel) (by decide +kernel) rfl (by decide +kernel) rfl) rfl (by decide +kernel) (iq.tup (nm 0 rfl rfl)) nX (by rw [hlT,lF]) (by rw [hlT]; omega) ?_ px rfl rfl (fQ rfl) ?_)
 ·intro C s₀ H₀ fp pins i d e h1 h2
  obtain⟨r,hr1,rfl⟩:=eZ h1
  obtain⟨r2,hr2,rfl⟩:=eZ h2
  rw [hr1]at hr2
  cases hr2
  exact ff.toD (ff.listS (t:=true) rfl B.list (nm 0 rfl rfl))
 refine WS.cons (W1.set (i:=3) (d:= .lst (((rowAt rows a).drop ((rowAt rows a).length - n.toNat)).map .int)) px rfl (.inl rfl) (fQ rfl) (av.to (ff.toD (ff.cutL (av.r (av.ixL (vw 2 rfl rfl) (av.ixT (nm 1 rfl rfl) av.int rfl) (kP a0 a1))) (si.some (av.to (av.sub (av.lenL rfl B.len (av.r (av.ixL (vw 2 rfl rfl) (av.ixT (nm 1 rfl rfl) av.int rfl) (kP a0 a1)))) (av.ixT (nm 1 rfl rfl) av.int rfl)) (by rw [ae,ek]))) si.none)) (by rw [x9 (by rw [ae]; omega),wR])) ?_)
 change WS _ M0 H _ [.im (.tup (aU true rows)), .im (.tup [.int a, .int b, .int n]), .mu (aU false rows), .im (.lst (((rowAt rows a).drop ((rowAt rows a).length - n.toNat)).map .int))] _
 refine WS.cons (W1.setIx (i:=2) (n:=a.toNat) (d:= .lst (((rowAt rows a).take ((rowAt rows a).length - n.toNat)).map .int)) rfl (.inl rfl) rfl (av.to (ff.toD (ff.cutL (av.r (av.ixL (vw 2 rfl rfl) (av.ixT (nm 1 rfl rfl) av.int rfl) (kP a0 a1))) si.none (si.some (av.to (av.sub (av.lenL rfl B.len (av.r (av.ixL (vw 2 rfl rfl) (av.ixT (nm 1 rfl rfl) av.int rfl) (kP a0 a1)))) (av.ixT (nm 1 rfl rfl) av.int rfl)) (by rw [ae,ek]))))) (by rw [AN (by rw [ae]; omega),List.map_take])) (av.ixT (nm 1 rfl rfl) av.int rfl) (by omega) (by rw [lF]; omega) ?_)
 dsimp only
 rw [<-sk]
 change WS _ M0 H _ [.im (.tup (aU true rows)), .im (.tup [.int a, .int b, .int n]), .mu (aU false (rows.set a.toNat ((rowAt rows a).take ((rowAt rows a).length - n.toNat)))), .im (.lst (((rowAt rows a).drop ((rowAt rows a).length - n.toNat)).map .int))] _
 have eb:rowAt (rows.set a.toNat ((rowAt rows a).take ((rowAt rows a).length - n.toNat))) b=rowAt rows b:=by
  unfold rowAt
  rw [aF,dE,if_neg hne,aF]
 refine WS.cons (W1.setIx (i:=2) (n:=b.toNat) (d:= .lst ((rowAt rows b ++ (rowAt rows a).drop ((rowAt rows a).length - n.toNat)).map .int)) rfl (.inl rfl) rfl (av.to (ff.toD (ff.cat (av.r (av.ixL (vw 2 rfl rfl) (av.ixT (nm 1 rfl rfl) av.int rfl) (kP b0 (by rw [bo]; exact b1)))) (av.r (nm 3 rfl rfl)) (by rw [eb,ae,ae,aZ]; omega))) (by rw [eb,bu])) (av.ixT (nm 1 rfl rfl) av.int rfl) (by omega) (by rw [lF,bo]; omega) ?_)
 dsimp only
 rw [<-sk]
 refine WS.freeze (i:=2) rfl (WS.one (W1.ret (av.tupleL rfl B.tuple (av.r (ff.toD (ff.comp (ds:=aU false (mv rows (a,b,n))) (es:=aU true (mv rows (a,b,n))) (cs:= []) (dW.closed (by decide +kernel) (by decide +kernel) rfl (by decide +kernel) rfl) rfl (by decide +kernel) (iq.list (nm 2 rfl rfl)) nX (by rw [gB,gB]) (by rw [gB,xg]; omega) ?_)))) rfl))
 intro C s₀ H₀ fp pins i d e h1 h2
 obtain⟨r,hr1,rfl⟩:=eZ h1
 obtain⟨r2,hr2,rfl⟩:=eZ h2
 rw [hr1]at hr2
 cases hr2
 exact av.tupleS (t:=false) rfl B.tuple (nm 0 rfl rfl)
end
theorem wz(f:c8)(rows:Rows)(a b m:Nat)(h: ∀j,m<=j->isLet f rows (o5 a b j)=false): ∀k,rd f rows a b (m+k)=rd f rows a b m
 | 0=>rfl
 | k+1=>by rw [show m+(k+1)=(m+k)+1 from rfl,k9,h (m+k) (Fh _ _),wz f rows a b m h k]; simp
section
variable {P:ar}{w:World}{K:Frag}{mg:Str->Option Value}{base:Heap}{CX:fJ}
theorem qh:bN ["floor","standing","found","a","b","many","lift"] ["floor","standing"] (aJ lK):=⟨rfl,rfl,rfl,by decide +kernel,rfl,by decide +kernel,by decide +kernel⟩
abbrev lL(P:ar)(w:World)(K:Frag)(mg:Str->Option Value)(base:Heap)(CX:fJ):Prop:=
 jQ P w K mg base CX 2 "_law_lifts" (fun i:c8×Rows=> [i.1.d, .tup (aU true i.2)]) (fun i=>p8 i.1/\good i.1 i.2=true) (fun i=> .ok (.lst ((lets i.1 i.2).map tD)))
theorem vP{f:Addr}{fd:aV}(nx:NX CX)(B:Bm mg)(G1:vt P w K mg base CX)(G2:nh P w K mg base CX)(F:iY K "_law_lifts" "_law_lifts" lK f fd)(hm:mg "_law_lifts"=some (.ref f))(hb:Binds K fd ["floor","standing"] []):lL P w K mg base CX:=by
 refine eN F qh hm hb (fun i=>rfl) fun cdv A outer s H E i M0 hp hr=>⟨_,rfl, ?_⟩
 obtain⟨fl,rows⟩:=i
 obtain⟨hF,hgd⟩:p8 fl/\good fl rows=true:=hp
 have px:=qh.nd
 have st:=hF.st
 have lf:=hF.lf
 have gl:=f_ hgd
 have gs:=mD hgd hF.st.2 hF.ht.2
 have sm:Small rows:=⟨by omega,by omega⟩
 have lft:fl.lf.toNat<=3:=by omega
 have stt:fl.st.toNat<=4:=by omega
 have b1:fl.lf.toNat * fl.st.toNat<=12:=jC lft stt
 change WS _ M0 H (bx lK) [.im fl.d, .im (.tup (aU true rows)), .un, .un, .un, .un, .un] {N:=fun _=>D.lst ((lets fl rows).map tD)= .non,R:=fun d'=>d'= .lst ((lets fl rows).map tD)}
 refine WS.cons (W1.setF (i:=2) px rfl (.inl rfl) (fQ rfl) (ff.lst bz.nil) ?_)
 refine WS.cons (W1.for (ds:=jn 0 fl.st.toNat) (fun i ρ=> ∃a b c d,ρ= [.im fl.d, .im (.tup (aU true rows)), .mu ((uE fl rows i).map tD),a,b,c,d]) bt rfl (iq.range rfl B.range (av.ixT (nm 0 rfl rfl) av.int rfl) (by omega)) ⟨_,_,_,_,rfl⟩ ?_ ?_)
 ·rintro i d ρ hd ⟨a,b,c,d',rfl⟩
  obtain⟨rfl,hi⟩:=fx hd
  have hl1:=t9 fl rows i
  have b2:fl.lf.toNat * fl.st.toNat * i<=12 * 4:=jC b1 (by omega)
  have i0:(0:Int)<=0+(i:Int):=by omega
  have i1:(0:Int)+(i:Int) < rows.length:=by omega
  refine⟨_,sJ.name (i:=3) px rfl (.inl rfl) (fQ rfl), ?_⟩
  refine WS.one (W1.for (ds:=jn 0 fl.st.toNat) (fun j ρ=> ∃b c d,ρ= [.im fl.d, .im (.tup (aU true rows)), .mu ((uE fl rows i ++ sH fl rows i j).map tD), .im (.int (0+(i:Int))),b,c,d]) bt rfl (iq.range rfl B.range (av.ixT (nm 0 rfl rfl) av.int rfl) (by omega)) ⟨_,_,_,by rw [show sH fl rows i 0= []from rfl,bj]; rfl⟩ ?_ ?_)
  ·rintro j d ρ hd ⟨b,c,d',rfl⟩
   obtain⟨rfl,hj⟩:=fx hd
   have hl2:=o_ fl rows i j
   have b3:fl.lf.toNat * j<=3 * 4:=jC lft (by omega)
   have mn:least fl.lf ((rowAt rows (0+(i:Int))).length:Int)=(((least fl.lf ((rowAt rows (0+(i:Int))).length:Int)).toNat:Nat):Int):=by unfold least; split <;> omega
   have mle:(least fl.lf ((rowAt rows (0+(i:Int))).length:Int)).toNat<=fl.lf.toNat/\(least fl.lf ((rowAt rows (0+(i:Int))).length:Int)).toNat<=(rowAt rows (0+(i:Int))).length:=by unfold least; split <;> omega
   have mst: ∀k,(least fl.lf ((rowAt rows (0+(i:Int))).length:Int)).toNat<=k->isLet fl rows (o5 i j k)=false:=fun k hk=>by
    cases e:isLet fl rows (o5 i j k)with
    | false=>rfl
    | true=>
     have hc:DA fl rows (o5 i j k):=iP.mp (by unfold isLet at e; rw [bq]at e; exact e.1)
     have c1:(1:Int)+(k:Int)<=fl.lf:=hc.nl
     have c2:(1:Int)+(k:Int)<=(rowAt rows (0+(i:Int))).length:=hc.nr
     have:least fl.lf ((rowAt rows (0+(i:Int))).length:Int)<=(k:Int):=by omega
     unfold least at this
     split at this <;> omega
   generalize hmm:(least fl.lf ((rowAt rows (0+(i:Int))).length:Int)).toNat=m at mn mle mst
   have e3:rd fl rows i j fl.lf.toNat=rd fl rows i j m:=by
    have:=wz fl rows i j m mst (fl.lf.toNat - m)
    rwa [show m+(fl.lf.toNat - m)=fl.lf.toNat by omega]at this
   refine⟨_,sJ.name (i:=4) px rfl (.inl rfl) (fQ rfl), ?_⟩
   refine WS.one (W1.for (ds:=jn 1 m) (fun k ρ=> ∃c d,ρ= [.im fl.d, .im (.tup (aU true rows)), .mu ((uE fl rows i ++ sH fl rows i j ++ rd fl rows i j k).map tD), .im (.int (0+(i:Int))), .im (.int (0+(j:Int))),c,d]) bt rfl
    (iq.to (iq.range2 (i:=1) (j:=1+(m:Int)) rfl B.range av.int (av.add av.int (av.to (C6 (i:=fl.lf) (j:=((rowAt rows (0+(i:Int))).length:Int)) rfl rfl B.min (av.ixT (nm 0 rfl rfl) av.int rfl) (av.to (av.lenS (t:=true) rfl B.len (av.ixT (nm 1 rfl rfl) (nm 3 rfl rfl) (jh i0 i1))) (by rw [ae]))) (congrArg D.int mn))) (by omega)) (by congr 1; omega)) ⟨_,_,by rw [show rd fl rows i j 0= []from rfl,bj]; rfl⟩ ?_ ?_)
   ·rintro k d ρ hd ⟨c,d',rfl⟩
    obtain⟨rfl,hk⟩:=fx hd
    have hl3:=tP fl rows i j k
    refine⟨_,sJ.name (i:=5) px rfl (.inl rfl) (fQ rfl), ?_⟩
    refine WS.cons (W1.set (i:=6) px rfl (.inl rfl) (fQ rfl) (av.tup (bz.cons (nm 3 rfl rfl) (bz.cons (nm 4 rfl rfl) (bz.cons (nm 5 rfl rfl) bz.nil)))) ?_)
    change WS _ M0 H _ [.im fl.d, .im (.tup (aU true rows)), .mu ((uE fl rows i ++ sH fl rows i j ++ rd fl rows i j k).map tD), .im (.int (0+(i:Int))), .im (.int (0+(j:Int))), .im (.int (1+(k:Int))), .im (tD (o5 i j k))] _
    have can:i≠j->DA fl rows (o5 i j k):=fun nij=>⟨i0,by show(0:Int)+(i:Int) < fl.st; omega,by show(0:Int)<=0+(j:Int); omega,by show(0:Int)+(j:Int) < fl.st; omega,by show(0:Int)+(i:Int)≠0+(j:Int); omega,by show(1:Int)<=1+(k:Int); omega,by show(1:Int)+(k:Int)<=fl.lf; omega,by show(1:Int)+(k:Int)<=(rowAt rows (0+(i:Int))).length; omega⟩
    have eqL:(!decide ((0:Int)+(i:Int)=0+(j:Int))&&good fl (mv rows (o5 i j k)))=isLet fl rows (o5 i j k):=by
     unfold isLet
     congr 1
     by_cases nij:i=j
     ·rw [decide_eq_true (by omega)]
      cases e:kN fl rows (o5 i j k)with
      | false=>rfl
      | true=>exact absurd (show(0:Int)+(i:Int)=0+(j:Int) by omega) (iP.mp e).ne
     ·rw [decide_eq_false (by omega),iP.mpr (can nij)]
      rfl
    refine WS.one (W1.ite (cB.to (fk.t (fk.and (cB.cI .ne (nm 3 rfl rfl) (nm 4 rfl rfl)) fun hne=>fk.and1 (cB.val (av.call G1 hr (bw nx) rfl (fl,true,mv rows (o5 i j k)) (bz.cons (nm 0 rfl rfl) (bz.cons (av.call G2 hr (bw nx) rfl (rows,o5 i j k) (bz.cons (nm 1 rfl rfl) (bz.cons (nm 6 rfl rfl) bz.nil)) ?_ rfl) bz.nil)) ?_ rfl)))) eqL) (fun h=> ?_) fun h=>WS.nil ?_)
    ·have nij:i≠j:=fun z=>by simp [z]at hne
     exact⟨(can nij).mvOk gl sm,(can nij).ne⟩
    ·have nij:i≠j:=fun z=>by simp [z]at hne
     have s2:=vL gl (can nij) sm
     exact⟨show(mv rows (o5 i j k)).flatten.length < 4000 by have:=s2.fl; omega,show(mv rows (o5 i j k)).length < 4000 by have:=s2.n; omega⟩
    ·refine WS.one (W1.append (i:=2) rfl (.inl rfl) rfl (nm 6 rfl rfl) (by rw [ae,ak,ak]; omega) ?_ ⟨rfl,rfl,rfl,rfl⟩)
     have e:(uE fl rows i ++ sH fl rows i j ++ rd fl rows i j (k+1)).map tD=(uE fl rows i ++ sH fl rows i j ++ rd fl rows i j k).map tD ++ [tD (o5 i j k)]:=by
      rw [k9,if_pos h, <-aI,bu (l₂:= [o5 i j k])]
      rfl
     exact⟨_,_,by rw [e]; rfl⟩
    ·dsimp only
     rw [k9,if_neg (by rw [h]; exact az),bj]
     exact⟨_,_,rfl⟩
   ·rintro ρ ⟨c,d,rfl⟩
    rw [e7]
    dsimp only
    rw [pL, <-aI,e3]
    exact⟨_,_,_,rfl⟩
  ·rintro ρ ⟨b,c,d,rfl⟩
   rw [e7]
   dsimp only
   rw [qB]
   exact⟨_,_,_,_,rfl⟩
 ·rintro ρ ⟨a,b,c,d,rfl⟩
  rw [e7]
  exact WS.freeze (i:=2) rfl (WS.one (W1.ret (nm 2 rfl rfl) rfl))
end
end K
namespace Z
open PySem PySem.Spec PyProof.Rows L2
def constsOf:List Expr->Option (List Int)
 | []=>some []
 | .Constant (.int i) _ _::es=>(constsOf es).map (i:: ·)
 | _=>none
theorem bz.consts{X:Cx}{ρ:eG}: ∀{es:List Expr} {ns:List Int},constsOf es=some ns->bz X ρ es (ns.map .int)
 | [],ns,h=>by cases h; exact bz.nil
 | e::es,ns,h=>by
  unfold constsOf at h
  split at h
  ·rename_i e1; cases e1
  ·rename_i i k p es' e1
   cases e1
   cases q:constsOf es with
   | none=>rw [q]at h; cases h
   | some l=>
    rw [q]at h
    cases h
    exact bz.cons av.int (bz.consts q)
  ·cases h
end Z
namespace K
open PySem L2 Z
theorem p7(f:c8): ∀(m:Nat) (cell:Int) (rows:Rows) (left:List Int),(mE f m cell rows left).flatten.length<=rows.flatten.length+m
 | 0,_,_,_=>aw _
 | m+1,cell,rows,left=>by
  unfold mE
  dsimp only
  refine bg (p7 f m _ _ _) ?_
  have:=(place_len f ((cell * 48271+17) % 2147483647) rows (left.getD (((cell * 48271+17) % 2147483647) / 7 % left.length).toNat 0) f.st.toNat).2
  split at this <;> omega
theorem tO(f:c8)(cell:Int)(crates:List Int):(dQ f cell crates).flatten.length<=crates.length:=by
 have:=p7 f crates.length cell (eC f.st.toNat []) crates
 have e:(eC f.st.toNat ([]:List Int)).flatten= []:=by simp
 rw [e]at this
 unfold dQ
 simpa using this
def r_(c:Int):Int:= [0,1,2,3,3,2,3,4].getD c.toNat 0
theorem pI(c:Int):sh [D.int 0, .int 1, .int 2, .int 3, .int 3, .int 2, .int 3, .int 4] (c % 8)=some (.int (r_ (c % 8)))/\0<=r_ (c % 8)/\r_ (c % 8)<=4:=by
 have h0:=i7 c (show(8:Int)≠0 by decide)
 have h1:=gS c (show(0:Int) < 8 by decide)
 have:c % 8=0\/c % 8=1\/c % 8=2\/c % 8=3\/c % 8=4\/c % 8=5\/c % 8=6\/c % 8=7:=by omega
 rcases this with e | e | e | e | e | e | e | e <;> rw [e] <;> exact⟨rfl,by decide,by decide⟩
def ll(ns:List Int)(first:Nat)(f:c8):Int:=if(decide (f.st=3)&&decide (0 < cellAt ns first / 72 % 4)) || decide (f.st=4)then least (r_ (cellAt ns first % 8)) 2 else r_ (cellAt ns first % 8)
def kY(ns:List Int)(first:Nat)(f:c8):Int:=if f.st=3 then least (ll ns first f) 3 else ll ns first f
def small(ns:List Int)(first:Nat)(f:c8):List Int:=(cn (kY ns first f).toNat).map fun(k:Nat)=>cellAt ns first / 8 % 3+(0+(k:Int))
theorem rZ{a b:Int}(ha:0<=a/\a<=4)(hb:0<=b):0<=least a b/\least a b<=4:=by unfold least; split <;> omega
theorem qo(ns:List Int)(first:Nat)(f:c8):0<=ll ns first f/\ll ns first f<=4:=by
 unfold ll
 split
 ·exact rZ (pI _).2 (by decide)
 ·exact(pI _).2
theorem qD(ns:List Int)(first:Nat)(f:c8):0<=kY ns first f/\kY ns first f<=4:=by
 unfold kY
 split
 ·exact rZ (qo _ _ _) (by decide)
 ·exact qo _ _ _
theorem zy(ns:List Int)(first:Nat)(f:c8):(small ns first f).length<=4:=by
 unfold small
 rw [ae,cW]
 have:=qD ns first f
 omega
section
variable {P:ar}{w:World}{K:Frag}{mg:Str->Option Value}{base:Heap}{CX:fJ}
theorem y8:bN ["script","first","floor","many","names"] ["script","first","floor"] (aJ tX):=⟨rfl,rfl,rfl,by decide +kernel,rfl,by decide +kernel,by decide +kernel⟩
abbrev xC(P:ar)(w:World)(K:Frag)(mg:Str->Option Value)(base:Heap)(CX:fJ):Prop:=
 jQ P w K mg base CX 2 "_law_small" (fun i:List Int×Nat×c8=> [.lst (i.1.map .int), .int i.2.1,i.2.2.d]) (fun _=>True) (fun i=> .ok (.lst ((small i.1 i.2.1 i.2.2).map .int)))
set_option maxHeartbeats 4000000 in
theorem A7{f:Addr}{fd:aV}(nx:NX CX)(B:Bm mg)(G1:wu P w K mg base CX)(F:iY K "_law_small" "_law_small" tX f fd)(hm:mg "_law_small"=some (.ref f))(hb:Binds K fd ["script","first","floor"] []):xC P w K mg base CX:=by
 refine eN F y8 hm hb (fun i=>rfl) fun cdv A outer s H E i M0 hp hr=>⟨_,rfl, ?_⟩
 obtain⟨ns,first,fl⟩:=i
 have px:=y8.nd
 obtain⟨p1,p2,p3⟩:=pI (cellAt ns first)
 obtain⟨r1,r2⟩:=qD ns first fl
 change WS _ M0 H (bx tX) [.im (.lst (ns.map .int)), .im (.int first), .im fl.d, .un, .un] {N:=fun _=>D.lst ((small ns first fl).map .int)= .non,R:=fun d'=>d'= .lst ((small ns first fl).map .int)}
 refine WS.cons (W1.set (i:=3) (d:= .int (r_ (cellAt ns first % 8))) px rfl (.inl rfl) (fQ rfl) (av.ixL (av.r (ff.toD (ff.lst (bz.consts (ns:= [0,1,2,3,3,2,3,4]) rfl)))) (av.mod (av.call G1 hr (bw nx) rfl (ns,first) (bz.cons (nm 0 rfl rfl) (bz.cons (nm 1 rfl rfl) bz.nil)) trivial rfl) av.int (by decide)) p1) ?_)
 refine WS.cons (P:=_) (W1.imp (P:={N:=fun ρ'=>ρ'= [.im (.lst (ns.map .int)), .im (.int first), .im fl.d, .im (.int (ll ns first fl)), .un],R:=fun _=>False}) (W1.ite (fk.t (fk.or (fk.t (fk.and (cB.cI .eq (av.ixT (nm 2 rfl rfl) av.int rfl) av.int) fun _=>fk.and1 (cB.cI .gt (av.mod (av.fdiv (av.call G1 hr (bw nx) rfl (ns,first) (bz.cons (nm 0 rfl rfl) (bz.cons (nm 1 rfl rfl) bz.nil)) trivial rfl) av.int ⟨by decide,by decide⟩) av.int (by decide)) av.int))) fun _=>fk.or1 (cB.cI .eq (av.ixT (nm 2 rfl rfl) av.int rfl) av.int))) (fun h=>WS.one (W1.set (i:=3) px rfl (.inl rfl) (fQ rfl) (C6 rfl rfl B.min (nm 3 rfl rfl) av.int) ?_)) fun h=>WS.nil ?_) ?_ (fun _ z=>z.elim) (fun _ z=>z.elim) fun _ z=>z.elim)
 ·show _=_
  unfold ll
  rw [if_pos h]
  rfl
 ·show _=_
  unfold ll
  rw [if_neg (by rw [h]; exact az)]
  rfl
 rintro ρ rfl
 refine WS.cons (P:=_) (W1.imp (P:={N:=fun ρ'=>ρ'= [.im (.lst (ns.map .int)), .im (.int first), .im fl.d, .im (.int (kY ns first fl)), .un],R:=fun _=>False}) (W1.ite (cB.cI .eq (av.ixT (nm 2 rfl rfl) av.int rfl) av.int) (fun h=>WS.one (W1.set (i:=3) px rfl (.inl rfl) (fQ rfl) (C6 rfl rfl B.min (nm 3 rfl rfl) av.int) ?_)) fun h=>WS.nil ?_) ?_ (fun _ z=>z.elim) (fun _ z=>z.elim) fun _ z=>z.elim)
 ·show _=_
  unfold kY
  rw [if_pos (of_decide_eq_true h)]
  rfl
 ·show _=_
  unfold kY
  rw [if_neg (of_decide_eq_false h)]
 rintro ρ rfl
 refine WS.cons (W1.comp (i:=4) (ds:=jn 0 (kY ns first fl).toNat) (es:=(small ns first fl).map .int) (cs:= [.int first, .lst (ns.map .int)]) (N':= ["k","first","script"]) (js:= [1,0])
  (dW.cap2 (pre:= [(".0", .local),("k", .local),("_law_cell_at", .globalImplicit)]) (mid:= []) (post:= []) (rn:= [(".0", .local),("k", .local),("_law_cell_at", .globalImplicit),("first", .cell),("script", .cell)]) rfl (by decide +kernel) (by decide +kernel) (by decide +kernel) rfl rfl (by decide +kernel) (by decide +kernel) rfl (by decide +kernel) rfl rfl rfl rfl rfl rfl rfl rfl (by decide +kernel)) rfl (by decide +kernel)
  (iq.range rfl B.range (nm 3 rfl rfl) (by omega)) (HN rfl rfl) (by unfold small; rw [ae,ae,cW,e7]) (by rw [e7]; omega) ?_ px rfl rfl (fQ rfl) ?_)
 ·intro C s₀ H₀ fp pins i d e h1 h2
  obtain⟨rfl,hi⟩:=fx h1
  unfold small at h2
  rw [aD,aD,AH hi]at h2
  cases h2
  exact av.add (av.mod (av.fdiv (av.call G1 hr (bw nx) rfl (ns,first) (bz.cons (nm 2 rfl rfl) (bz.cons (nm 1 rfl rfl) bz.nil)) trivial rfl) av.int ⟨by decide,by decide⟩) av.int (by decide)) (nm 0 rfl rfl)
 ·exact WS.freeze (i:=4) rfl (WS.one (W1.ret (nm 4 rfl rfl) rfl))
end
end K
namespace Z
open PySem PySem.Spec PyProof.Rows L2
section
variable {prog:ar}{w:World}
theorem DH{d:Addr}{es:Array cJ}{ep:Nat}(hd:(d==fU)=false):MeetsIn prog w (cG.«dict.__len__» ⟨[.ref d], []⟩) (fun _ R s=>l9 s.heap d es ep/\R (.ok (.ret (.int es.size s.toks))) {s with toks:=s.toks+1}):=
 .of_wp fun A R s ⟨⟨o,ho,hc,hdat⟩,h⟩=>by
  show wpAny _ _ (dictSize d >>=_) _ _ s
  unfold dictSize
  refine aa (aa (j7 ho hdat (af ?_)))
  show wpAny _ _ (Builtin.Dict.pendingCount d >>=_) _ _ s
  refine aa (wpAny_pendingCount_other hd ?_)
  refine wpAny_ret_mkInt ?_
  rw [Nat.add_zero]
  exact h
end
section
variable {X:Cx}{ρ:eG}{a b e o:Expr}{es:List Expr}{pos p apos cpos:Pos}{kv:kL}{k:gu}{n:Int}{oo:Option Obj}{tg:Expr}
theorem av.dcW(h:av X ρ e (GF oo kv)):av X ρ e (rf kv):=fun M0 H0 γ α σ H Q R kk=>h M0 H0 γ α σ H Q R fun v H' s ⟨a,bs,e1,⟨ob,_,h1⟩,r⟩=>kk v H' s ⟨a,bs,e1,⟨ob,fun _ q=>(nomatch q),h1⟩,r⟩
theorem x_(nd:(kv.map (·.1)).Nodup)(kr:kv.length<=1000000):gf X (.builtin "len") (fun xs H Q=> ∃x,xs= [x]/\Hc X.K kv x H/\Q (.int kv.length) H):=by
 intro pins s σ H xs us Q I r ⟨x,e,h,kk⟩
 subst e
 obtain⟨u,rfl,rx⟩:=vals1 r
 obtain⟨a,ys,rfl,dc⟩:=h.at nd I rx
 obtain⟨o,es,ep,ho,hc,hdat,hes,_⟩:=id dc.d
 have hl:es.size=kv.length:=by rw [<-dc.len, <-aj,hes,ae]
 refine u9 kind_len plain_len entry_len (args_len1 _) ?_
 unfold cG.«len»
 refine aa (m:=oneArg "len" _) (af ?_)
 refine aa (m:=callSpecial? (.ref a) (eV "__len__")) (cm (name:=eV "__len__") dc.d.typeIs PySem.F.slot_dict_len
  (o4 PySem.F.slot_dict_len dc.d.typeIs PySem.F.entry_dict_len (PySem.F.args_dict_len_1 _) (DH (es:=es) (ep:=ep) dc.no) ⟨⟨o,ho,hc,hdat⟩, ?_⟩))
 show wpAny _ _ _ _ _ {s with toks:=s.toks+1}
 refine aa (bD (af ?_))
 refine aa (rj ?_)
 rw [hl]
 show wpAny _ _ (if((kv.length:Nat):Int) < 0 then _ else _) _ _ _
 rw [if_neg (by omega)]
 show wpAny _ _ (if((kv.length:Nat):Int)>=2 ^ 63 then _ else _) _ _ _
 rw [if_neg (by omega)]
 exact aa (wpAny_mkInt (af ⟨_,rfl, .int kv.length,H,(I.tok _).tok _,⟨_,rfl⟩,kk⟩))
theorem av.lenDc(nd:(kv.map (·.1)).Nodup)(kr:kv.length<=1000000)(hg:Gl X "len")(hm:X.mg "len"=none)(h:av X ρ e (rf kv))(he:aq [e] X.env= [(false,eval e X.env)]:=by rfl):av X ρ (.Call (.Name "len" p) [e] [] pos) (.int kv.length):=fun M0 H0 γ α σ H Q R kk=>
 (gL (x_ nd kr) hg hm PySem.boot_len (eJ f7 gP he) (by decide) (by decide) he).to (h M0 H0 γ α σ H _ R fun v H1 s1 d1=>⟨v,rfl,⟨_,d1⟩,kk _ H1 s1 rfl⟩)
theorem av.abs{i:Int}(hg:Gl X "abs")(hm:X.mg "abs"=none)(h:av X ρ e (.int i))(he:aq [e] X.env= [(false,eval e X.env)]:=by rfl):av X ρ (.Call (.Name "abs" p) [e] [] pos) (.int (if i < 0 then -i else i)):=fun M0 H0 γ α σ H Q R kk=>
 (gL BO hg hm (by decide +kernel) (eJ f7 gP he) (by decide) (by decide) he).to (h M0 H0 γ α σ H _ R fun v H1 s1 d1=>by
  cases (show v= .int i from d1)
  exact⟨i,rfl,kk _ H1 s1 rfl⟩)
theorem av.dget2{dd:D}(hu:X.A.units+8 < cLine)(nd:(kv.map (·.1)).Nodup)(hm:(k,n)∈kv)(ho:av X ρ o (rf kv))(ha:av X ρ a (iM k))(hb:av X ρ b dd)
  (hbase:fb o "get" X.env (eval o X.env)=eval o X.env:=by rfl)
  (hfew:((c9 cpos (aq [a,b] X.env)).all (fun x=> !x.1)&&(backToKw cpos (rg [] X.env)).all (fun x=>x.1.isSome)
   &&decide ([a,b].length+([]:List Keyword).length+(if([]:List Keyword).isEmpty then 0 else 1) < 30))=true:=by rfl)
  (hline:(apos.endLine==cpos.line)=true:=by rfl)(hs:aq [a,b] X.env=(false,eval a X.env)::aq [b] X.env:=by rfl)(hs2:aq [b] X.env= [(false,eval b X.env)]:=by rfl)(hplain:(c9 cpos (aq [b] X.env)).any (·.1)=false:=by rfl):
  av X ρ (.Call (.Attribute o "get" apos) [a,b] [] cpos) (.int n):=fun M0 H0 γ α σ H Q R kk=>by
 intro pins s I
 refine wpAny_Call_method_late hbase hfew hline rfl (eQ (ho M0 H0 γ α σ H (fun x H1=>bI H H1/\Dn X.K (MM M0 ρ α) H1 (rf kv) x) R (fun v H1 s1 d1=>⟨s1,d1⟩) pins s I) fun v s1 ⟨x,H1,I1,r1,sm1,d1⟩=> ?_)
 obtain⟨d,ys,rfl,dc⟩:=Hc.at nd I1 ⟨_,d1⟩ r1
 refine⟨"dict","dict.get",PySem.F.plainAttrs_dict,PySem.F.slot_dict_get,PySem.F.type_dict_get,dc.d.typeIs,dictOfH_noDict dc.d, ?_⟩
 have hA:=ud cpos pins s1 σ H1 (fun xs H2=> ∃y z,xs= [y,z]/\bI H1 H2/\Dn X.K (MM M0 ρ α) H2 (iM k) y) I1 ((bz.cons ha (bz.cons hb bz.nil hs2) hs) M0 H0 γ α σ H1 _ (R.next sm1) fun vs H2 s2 dn=>by
  obtain⟨y,t,rfl,e1,z,t2,rfl,e2,e3⟩:=dn
  cases e3
  exact⟨y,z,rfl,s2,e1⟩)
 rw [hs]at hA ⊢
 refine lB (by show(false || (c9 cpos (aq [b] X.env)).any (·.1))=false; rw [hplain] <;> rfl) (Au ?_)
 refine eQ hA fun us s2 ⟨vs,H2,I2,r2,y,z,ev,sm2,hy⟩=> ?_
 subst ev
 obtain⟨u1,u2,rfl,ry,rz⟩:=vals2 r2
 obtain⟨d',ys',e,dc2⟩:=Hc.at nd I2 ⟨_,d1.same sm2⟩ r1
 cases e
 obtain⟨c,rfl,_,t2⟩:=nu I2 hy ry
 obtain⟨c',t,ek⟩:=dc2.look hm
 refine o4 PySem.F.slot_dict_get dc2.d.typeIs PySem.F.entry_dict_get (PySem.F.args_dict_get_3 _ _ _) (meetsH_dict_get_default (mf X.prog X.w) d c dc2.no u2) ⟨?_,k,ys',t2,dc2.d, ?_⟩
 ·show X.A.in1.units+2 < cLine
  rw [iJ]
  omega
 ·rw [ek]
  exact⟨.int n,H2,I2.tok _,⟨t,rfl⟩,kk _ H2 (sm1.trans sm2) rfl⟩
def Jr(a:Addr)(ob:Obj):It:=
 ⟨fun i H=> ∃xs,H a=some (gg a ob xs)/\i < xs.length,fun i H x H'=>H'=H/\ ∀xs,H a=some (gg a ob xs)-> ∃y,xs[i]? =some y/\x= .ref y.2.1,fun i H=> ∃xs,H a=some (gg a ob xs)/\xs.length<=i⟩
theorem eK.len: ∀{xs:List (Int×Addr×Int)} {es:List cJ},eK xs es->es.length=xs.length
 | [], [],_=>rfl
 | [],_::_,h=>h.elim
 | _::_, [],h=>h.elim
 | _::_,_::_,h=>by simp [eK.len h.2]
theorem eK.key: ∀{xs:List (Int×Addr×Int)} {es:List cJ},eK xs es-> ∀i (h:i < es.length), ∃y,xs[i]? =some y/\es[i].key= .ref y.2.1
 | [], [],_,i,h=>absurd h (i8 _)
 | [],_::_,h,_,_=>h.elim
 | _::_, [],h,_,_=>h.elim
 | x::_,_::_,h,0,_=>⟨x,rfl,by obtain⟨t,e⟩:=h.1; rw [List.getElem_cons_zero,e]⟩
 | _::_,_::_,h,i+1,hi=>eK.key h.2 i (by simpa using hi)
theorem eK.uniq: ∀{xs ys:List (Int×Addr×Int)} {es:List cJ},eK xs es->eK ys es->xs=ys
 | [], [],_,_,_=>rfl
 | [],_::_, [],_,h=>h.elim
 | [],_::_,_::_,h,_=>h.elim
 | _::_, [], [],h,_=>h.elim
 | _::_, [],_::_,_,h=>h.elim
 | _::_,_::_, [],h,_=>h.elim
 | (x1,x2,x3)::_,(y1,y2,y3)::_,_::_,h,h'=>by
  obtain⟨t,e⟩:=h.1
  obtain⟨t',e'⟩:=h'.1
  rw [e]at e'
  cases e'
  rw [eK.uniq h.2 h'.2]
theorem zI{P:ar}{w:World}{K:Frag}{d it:Addr}{ob:Obj}{es:Array cJ}{ep:Nat}(hd:ob.data= .dict es ep):Turn P w K tg (Jr d ob) [it] it (fun i h=>h.get? it=some (sg d i es.size ep)) where
 mem:=by simp
 obj:=fun i h st b hb=>by
  have e:b=it:=by simpa using hb
  subst e
  exact⟨_,st,fun v z=>by cases z⟩
 keep:=fun i h h' st k=>k it (by simp) _ st
 item:=by
  intro X hP hw hK hc i pins s σ H E I hf st ⟨xs,hH,hi⟩
  subst hP hw hK
  obtain⟨⟨no,es',ep',g1,g2,g3,g4⟩,_⟩:=(show dP X.prog X.w H s.heap d (gg d ob xs)from I.dR d _ hH)
  rw [hd]at g3
  cases g3
  obtain⟨f0,f1,f2,f3,f4,f5⟩:=hf it (by simp)
  have hl:=g4.len
  rw [aj]at hl
  refine vj (I.ok.hd hc) st ⟨ob,g1,g2,hd⟩ (fun hi' h' hI' sb=> ?_) fun he=>absurd hi (by omega)
  have I1:Inv X pins σ H {s with heap:=h'}:=I.turned (t':=s.toks) (fun b o hb e=>(sb.2 b hb).trans e) f0 f1 f3 f4 f5
  obtain⟨y,hy,ek⟩:=g4.key i (by rw [aj]; exact hi')
  rw [Array.getElem_toList]at ek
  refine⟨es[i].key,rfl,yI (s:={s with heap:=h'}) hI' rfl rfl (by decide) ⟨.ref y.2.1,H,I1,by rw [ek]; rfl,⟨rfl,fun ys hys=> ?_⟩,hI',fun b hb=>(hf b hb).1⟩⟩
  obtain⟨⟨_,es2,ep2,_,_,k3,k4⟩,_⟩:=(show dP X.prog X.w H s.heap d (gg d ob ys)from I.dR d _ hys)
  rw [hd]at k3
  cases k3
  rw [eK.uniq k4 g4]
  exact⟨y,hy,rfl⟩
 done:=by
  intro X hP hw hK hc i pins s σ H E I hf st ⟨xs,hH,hi⟩
  subst hP hw hK
  obtain⟨⟨no,es',ep',g1,g2,g3,g4⟩,_⟩:=(show dP X.prog X.w H s.heap d (gg d ob xs)from I.dR d _ hH)
  rw [hd]at g3
  cases g3
  obtain⟨f0,f1,f2,f3,f4,f5⟩:=hf it (by simp)
  have hl:=g4.len
  rw [aj]at hl
  exact vj (I.ok.hd hc) st ⟨ob,g1,g2,hd⟩ (fun hi'=>absurd hi' (by omega)) fun _ h' eb=>⟨rfl,I.turned (t':=s.toks) (fun b o hb e=>eb b o (by simpa using hb) e) f0 f1 f3 f4 f5⟩
 self:=fun A i s Q E x hQ=>by
  have ty:s.TypeIs (.ref it) "dict_keyiterator":=⟨_,x,rfl⟩
  refine h_ ty PySem.F.slot_dict_keyiterator_iter (bF PySem.F.slot_dict_keyiterator_iter ty PySem.F.entry_dict_keyiterator_iter ?_ (PySem.F.args_dict_keyiterator_iter_1 _))
  show wpAny _ _ (ret (.ref it)) _ _ s
  exact af ⟨_,rfl,"dict_keyiterator",_,ty,gU.lookup,hQ⟩
theorem DY{te:TE}(he:PE X e te):PI X tg e (fun σ H R=>te σ H fun x H1=> ∃d ob xs,x= .ref d/\H1 d=some (gg d ob xs)/\R (Jr d ob) H1):=by
 intro pins s σ H R I h
 refine eQ (he pins s σ H _ I h) fun v s1 ⟨x,H1,I1,r1,d,ob,xs,ex,hH,q⟩=> ?_
 subst ex
 cases (show v=ao d from r1)
 obtain⟨⟨no,es,ep,g1,g2,g3,g4⟩,_⟩:=(show dP X.prog X.w H1 s1.heap d (gg d ob xs)from I1.dR d _ hH)
 refine Bd no ⟨ob,g1,g2,g3⟩ ?_
 refine⟨s1.heap.objs.size, [s1.heap.objs.size],_,_,H1,rfl,I1.kept (t':=s1.toks) fun b o e=>ag _ e,zI g3,au _ rfl,fun b hb=> ?_,q⟩
 have e:b=s1.heap.objs.size:=by simpa using hb
 subst e
 exact I1.fpOk (aw _) (I1.dR.fresh (aw _))
theorem An{ks:List D}{bs:List Addr}{ns:List Int}(h1:bs.length=ks.length)(h2:ns.length=ks.length){i:Nat}{y:Int×Addr×Int}(h:(jF ks bs ns)[i]? =some y):bs[i]? =some y.2.1:=by
 unfold jF at h
 obtain⟨_,h⟩:=u7.mp h
 exact(u7.mp h).1
theorem sE{ks:List D}{bs:List Addr}{ns:List Int}(h1:bs.length=ks.length)(h2:ns.length=ks.length):(jF ks bs ns).length=ks.length:=by
 unfold jF
 rw [cb,cb,mB]
 omega
theorem iq.dc{ob:Obj}(h:av X ρ e (GF (some ob) kv)):iq X ρ tg e (kD kv):=fun M0 H0 γ α σ H R r kk=>(DY f7).to (h M0 H0 γ α σ H _ r fun v H1 s x=>by
 obtain⟨q,bs,rfl,⟨o,eo,hH⟩,l1,l2,dn⟩:=id x
 cases eo ob rfl
 refine⟨q,ob,_,rfl,hH,kk (Jr q ob) H1 [(GF (some ob) kv, .ref q)] s (fun p hp=>by rw [aE.mp hp]; exact x) fun M H2 hg=> ?_⟩
 obtain⟨q',bs',e1,⟨o',eo',hH'⟩,m1,m2,dn'⟩:=hg _ (aE.mpr rfl)
 cases e1
 cases eo' ob rfl
 refine⟨fun i d hi=>⟨⟨_,hH', ?_⟩,fun x H' hy=> ?_⟩,⟨_,hH', ?_⟩⟩
 ·rw [sE m1 m2]
  exact(aA.mp hi).1
 ·obtain⟨rfl,hy⟩:=hy
  obtain⟨y,hy2,rfl⟩:=hy _ hH'
  exact⟨bI.refl _,dn'.refs hi (An m1 m2 hy2)⟩
 ·rw [sE m1 m2]
  exact aw _)
end
end Z
namespace Z
open PySem PySem.Spec PySem.W PyProof.Rows
theorem zO(a c:Int)(x y:List Int):kT (a::x) (c::y)=if a=c then kT x y else decide (a < c):=rfl
section
variable {prog:ar}{w:World}{A:bp}{E:Value->ah->Prop}{s:ah}
theorem rJ{l b:Addr}{items items2:Array Value}{n n2:Nat}{dd dd2:Option Addr}{sl sl2:Array (Option Value)}{ns ms:List Int}(hi:fB items.toList ns)(hj:fB items2.toList ms):
  Meets (cG.«tuple.__ge__» ⟨[.ref l, .ref b], []⟩)
   (fun _ R s=>s.heap.get? l=some {cls:= .type "tuple",dict:=dd,data:= .seq items n,slots:=sl}/\s.heap.get? b=some {cls:= .type "tuple",dict:=dd2,data:= .seq items2 n2,slots:=sl2}/\
    R (.ok (.ret (.bool (!kT ns ms)))) s):=
 .of_wp fun prog w A R s h=>by
  obtain⟨hp,g,d,tk,os⟩:=s
  obtain⟨hl,hb,h⟩:=h
  have f2:=dw
  have z1:items.size=ns.length:=by rw [<-hi.length]; simp
  have z2:items2.size=ms.length:=by rw [<-hj.length]; simp
  wp_walk using bf hl,bf hb,gj _ (fun rest b s'=>b.1=none/\s'=⟨hp,g,d,tk,os⟩/\ ∃(vs ws:List Value) (ns' ms':List Int),rest=vs.zip ws/\
   fB vs ns'/\fB ws ms'/\ns'.length+items2.size=ms'.length+items.size/\R (.ok (.ret (.bool (!kT ns' ms')))) ⟨hp,g,d,tk,os⟩) _
  case turn=>
   rintro⟨y,x⟩ rest b s' ⟨hb',rfl,vs,ws,ns',ms',hz,hvi,hwi,hlen,hR⟩
   cases hvi with
   | nil=>rw [oR]at hz; cases hz
   | cons a t hvi'=>
    cases hwi with
    | nil=>rw [oh]at hz; cases hz
    | cons c u hwi'=>
     rw [eE]at hz
     injection hz with hyx hrest
     injection hyx with hy hx
     subst hy hx
     rw [zO]at hR
     simp only [aC]at hlen
     obtain⟨e,he,hiff⟩:=HT.vQ A.in1 ⟨hp,g,d,tk,os⟩ a t c u
     refine aa (he prog w _ _ ?_)
     cases e with
     | true=>
      rw [if_pos (hiff.mp rfl)]at hR
      wp_walk
      exact⟨rfl,rfl,_,_,_,_,hrest,hvi',hwi',by omega,hR⟩
     | false=>
      rw [if_neg (fun q=>absurd (hiff.mpr q) az)]at hR
      have hri: ∀{E:Value->ah->Prop} {Q:Value->ah->Prop},Q (.bool (!decide (a < c))) ⟨hp,g,d,tk,os⟩->wpAny (model prog w) A.in1 (mI .GtE (.int a t) (.int c u)) Q E ⟨hp,g,d,tk,os⟩:=fun q=>PyProof.Rows.ge_int (A:=A.in1) (by
       have:decide (c<=a)= !decide (a < c):=by by_cases z:a < c <;> simp [z] <;> omega
       rw [this]
       exact q)
      wp_walk using hri
      exact⟨_,rfl,by simpa using hR⟩
  case fin=>
   rintro⟨b1,b2⟩ s' ⟨hb',rfl,vs,ws,ns',ms',hz,hvi,hwi,hlen,hR⟩
   simp only at hb'
   subst hb'
   have hv:(!kT ns' ms')=decide (items2.size<=items.size):=by
    cases hvi with
    | nil=>
     cases hwi with
     | nil=>
      simp only [bQ]at hlen
      exact(decide_eq_true (by omega)).symm
     | cons c u hw=>
      simp only [bQ,aC]at hlen
      exact(decide_eq_false (by omega)).symm
    | cons a t hv=>
     cases hwi with
     | nil=>
      simp only [bQ,aC]at hlen
      exact(decide_eq_true (by omega)).symm
     | cons c u hw=>
      rw [eE]at hz
      cases hz
   rw [hv]at hR
   wp_walk
   exact⟨_,rfl,by simpa [iA]using hR⟩
  case h=>
   exact⟨rfl,rfl,items.toList,items2.toList,ns,ms,rfl,hi,hj,by omega,h⟩
theorem HH{x y:List Int}{a b:Addr}{Q:Value->ah->Prop}(hu:A.units < cLine)(p:T1 prog w s.heap x a)(q:T1 prog w s.heap y b)(h:Q (.bool (!kT x y)) s):wpAny (model prog w) A (cj .GtE (.ref a) (.ref b)) Q E s:=by
 obtain⟨i1,t1,n1⟩:=pv p
 obtain⟨i2,t2,n2⟩:=pv q
 obtain⟨⟨cls,dd,data,sl⟩,ho,hc,n,hd⟩:=id t1
 obtain⟨⟨cls2,dd2,data2,sl2⟩,ho2,hc2,n2',hd2⟩:=id t2
 simp only at hc hd hc2 hd2
 subst hc hd hc2 hd2
 exact richCompare_meets_room (op:= .GtE) ⟨_,ho,rfl⟩ ⟨_,ho2,rfl⟩ zk PySem.F.entry_tuple_ge (PySem.F.args_tuple_ge_2 _ _) (rJ n1 n2)
  ⟨ho,ho2,show dJ (!kT x y)≠mJ/\Q (.bool (!kT x y)) s from⟨(fun x=>nomatch x),h⟩⟩ hu
theorem rA{l b:Addr}{items items2:Array Value}{n n2:Nat}{dd dd2:Option Addr}{sl sl2:Array (Option Value)}{x y:gu}:
  MeetsIn prog w (cG.«tuple.__ge__» ⟨[.ref l, .ref b], []⟩)
   (fun A R s=>A.units+2 < cLine/\s.heap.get? l=some {cls:= .type "tuple",dict:=dd,data:= .seq items n,slots:=sl}/\s.heap.get? b=some {cls:= .type "tuple",dict:=dd2,data:= .seq items2 n2,slots:=sl2}/\
    nY prog w s.heap x items.toList/\nY prog w s.heap y items2.toList/\R (.ok (.ret (.bool (!jo x y)))) s):=
 .of_wp fun A R s h=>by
  obtain⟨hp,g,d,tk,os⟩:=s
  obtain⟨hu,hl,hb,hi,hj,h⟩:=h
  have f2:=dw
  have z1:items.size=x.length:=by rw [hi.len]; simp
  have z2:items2.size=y.length:=by rw [hj.len]; simp
  wp_walk using bf hl,bf hb,gj _ (fun rest b s'=>b.1=none/\s'=⟨hp,g,d,tk,os⟩/\ ∃(vs ws:List Value) (x' y':gu),rest=vs.zip ws/\
   nY prog w hp x' vs/\nY prog w hp y' ws/\x'.length+items2.size=y'.length+items.size/\R (.ok (.ret (.bool (!jo x' y')))) ⟨hp,g,d,tk,os⟩) _
  case turn=>
   rintro⟨u,v⟩ rest b s' ⟨hb',rfl,vs,ws,x',y',hz,hv,hw,hlen,hR⟩
   cases hv with
   | nil=>rw [oR]at hz; cases hz
   | @cons r a xs vs' ha hv'=>
    cases hw with
    | nil=>rw [oh]at hz; cases hz
    | @cons r' c ys ws' hc hw'=>
     rw [eE]at hz
     injection hz with hyx hrest
     injection hyx with hy hx
     subst hy hx
     have hR':R (.ok (.ret (.bool (!(if r=r' then jo xs ys else kT r r'))))) ⟨hp,g,d,tk,os⟩:=hR
     simp only [aC]at hlen
     refine aa (yD (A:=A.in1) (s:=⟨hp,g,d,tk,os⟩) (prog:=prog) (w:=w) (by show A.units+1+1 < cLine; omega) ha hc prog w _ _ ?_)
     by_cases e:r=r'
     ·rw [if_pos e]at hR'
      rw [decide_eq_true e]
      wp_walk
      exact⟨rfl,rfl,_,_,_,_,hrest,hv',hw',by omega,hR'⟩
     ·rw [if_neg e]at hR'
      rw [decide_eq_false e]
      have hri: ∀{E:Value->ah->Prop} {Q:Value->ah->Prop},Q (.bool (!kT r r')) ⟨hp,g,d,tk,os⟩->wpAny (model prog w) A.in1 (mI .GtE (.ref a) (.ref c)) Q E ⟨hp,g,d,tk,os⟩:=fun q=>HH (A:=A.in1) (s:=⟨hp,g,d,tk,os⟩) (show A.units+1 < cLine by omega) ha hc q
      wp_walk using hri
      exact⟨_,rfl,by simpa using hR'⟩
  case fin=>
   rintro⟨b1,b2⟩ s' ⟨hb',rfl,vs,ws,x',y',hz,hv,hw,hlen,hR⟩
   simp only at hb'
   subst hb'
   have he:(!jo x' y')=decide (items2.size<=items.size):=by
    cases hv with
    | nil=>
     cases hw with
     | nil=>
      simp only [bQ]at hlen
      exact(decide_eq_true (by omega)).symm
     | cons c hw=>
      simp only [bQ,aC]at hlen
      exact(decide_eq_false (by omega)).symm
    | cons a hv=>
     cases hw with
     | nil=>
      simp only [bQ,aC]at hlen
      exact(decide_eq_true (by omega)).symm
     | cons c hw=>
      rw [eE]at hz
      cases hz
   rw [he]at hR
   wp_walk
   exact⟨_,rfl,by simpa [iA]using hR⟩
  case h=>
   exact⟨rfl,rfl,items.toList,items2.toList,x,y,rfl,hi,hj,by omega,h⟩
theorem Hx{x y:gu}{a b:Addr}{Q:Value->ah->Prop}(hu:A.units+2 < cLine)(p:T2 prog w s.heap x a)(q:T2 prog w s.heap y b)(h:Q (.bool (!jo x y)) s):wpAny (model prog w) A (cj .GtE (.ref a) (.ref b)) Q E s:=by
 have ta:=p.ty
 have tb:=q.ty
 obtain⟨⟨c1,d1,e1,f1⟩,i1,n1,h1,h2,h3,h4⟩:=p
 obtain⟨⟨c2,d2,e2,f2⟩,i2,n2,k1,k2,k3,k4⟩:=q
 simp only at h2 h3 k2 k3
 subst h2 h3 k2 k3
 show wpAny (model prog w) A (mI .GtE (.ref a) (.ref b)) Q E s
 exact wpAny_richCompare_same_room ta tb zk (o4 zk ta PySem.F.entry_tuple_ge (PySem.F.args_tuple_ge_2 _ _) rA ⟨hu,h1,k1,h4,k4,show dJ (!jo x y)≠mJ/\Q (.bool (!jo x y)) s from⟨(fun z=>nomatch z),h⟩⟩) (by omega)
end
end Z
namespace Z
open PySem PySem.Spec PyProof.Rows L2
section
variable {X:Cx}{ρ:eG}{a b e c:Expr}{es:List Expr}{pos p p1 p2 p3 pos':Pos}{k k':gu}
theorem Fc(hu:X.A.units+8 < cLine):l7 X (cj .GtE) (fun x y H Q=>(∃M,Dn X.K M H (iM k) x)/\(∃M,Dn X.K M H (iM k') y)/\Q (.bl (!jo k k')) H):=by
 intro pins s σ H x y v u Q I rx ry ⟨⟨M,h1⟩,⟨M',h2⟩,q⟩
 obtain⟨a,rfl,_,t1⟩:=nu I h1 rx
 obtain⟨b,rfl,_,t2⟩:=nu I h2 ry
 exact Hx (by omega) t1 t2 ⟨.bl (!jo k k'),H,I,rfl,q⟩
theorem cB.geSt(hu:X.A.units+8 < cLine)(ha:av X ρ a (iM k))(hb:av X ρ b (iM k'))(hm:d_ .GtE b=false:=by rfl):cB X ρ (.Compare a [.GtE] [b] pos) (!jo k k'):=
 fun M0 H0 γ α σ H Q R kk=>(tq (Fc hu) f7 f7 hm).to (ha M0 H0 γ α σ H _ R fun v H1 s1 d1=>hb M0 H0 γ α σ H1 _ (R.next s1) fun u H2 s2 d2=>⟨⟨_,d1.same s2⟩,⟨_,d2⟩,_,rfl,kk H2 (s1.trans s2)⟩)
end
section
variable {X:Cx}{ρ:eG}{M0:MP}{H0 H H':Hp}{γ:List (D×V)}{α:Nat->Addr}{σ:St}{En:Ends}{sts s1 body:List Stmt}{e c tg:Expr}{es:List Expr}{d:D}{ds:List D}{pos p pos' p1 p2 p3:Pos}{CX:fJ}{k i j t:Nat}{x y:Str}{ι:Type}{args:ι->List D}{pre:ι->Prop}{res:ι->Except Addr D}{P:nZ}{a:Addr}{kv:kL}
theorem WS.xJ{ii:ι}{pos2:Pos}(nK: ∀a xs, ¬Ef X.K a xs)(hH:X.H₀=H0)(hN:X.N.Nodup)(hj:X.N[j]? =some y)(hy:Loc X.env.scope y)(hlt:j < ρ.length)(F:jQ X.prog X.w X.K X.mg X.base CX k x args pre res)(hr:eL k X.A)(hx:Passes CX X E0)(hg:Gl X x)(ha:bz X ρ (e::es) (args ii))(hb: ∀d∈args ii,D.bare 9 d)(hp:pre ii)(hres:res ii= .ok (.lst ds))(hbd: ∀d∈ds,D.bare 9 d)(q:WS X M0 H0 sts (ρ.set j (.mu ds)) P)
  (hs:cg (.Call (.Name x p) (e::es) [] pos') (some (.Name y pos)) pos2.line X.env=pure false:=by rfl)(hf:X.fn y=true\/X.env.scope.names.lookup y=some .local:=by first | exact .inl rfl | exact .inr rfl | assumption)(hdb:(x==("__debug__":Str))=false:=by decide)
  (he:aq (e::es) X.env=(false,eval e X.env)::aq es X.env:=by rfl)(hpl:(c9 pos' (aq es X.env)).any (·.1)=false:=by rfl):WS X M0 H0 (.Assign [.Name y pos] (.Call (.Name x p) (e::es) [] pos') pos2::sts) ρ P:=fun γ α σ H R=>by
 refine(cE oE fg).to (Z.xJ hN hj hy F hr hx hg ha hb hp hres R (fun v H2 s2 d2=> ?_) hs hf hdb he hpl)
 obtain⟨l,xs,rfl,sqm,dns⟩:=d2
 have na:H l=none:=by
  rcases sqm with⟨_,z⟩ | z
  ·cases e:H l with
   | none=>rfl
   | some o=>exact absurd (show H l≠none by rw [e]; intro w; cases w) z
  ·exact absurd z (nK l xs)
 show kB X sts _ (σ.set j (some (.ref l))) H2
 have dd: ∀H',(∀d v,Dn X.K (fun a=>H a≠none) H2 d v->Dn X.K (fun a=>H a≠none) H' d v)->cw X.K (fun a=>MM M0 ρ α a\/a=l) H' ds xs:=fun H' mv=>cw.map1 (fun d hd v z=>Dn.bare 9 (hbd d hd) (mv d v z)) dns
 rcases sqm with⟨z | ⟨o,z⟩,_⟩ | z
 ·exact q γ _ _ H2 (R.set_mu hlt na s2 z (dd H2 fun d v w=>w))
 ·exact rF (by rw [hH]; exact R.same.free na) z (q γ _ _ _ (R.set_mu hlt na (gi s2 na) bC (dd _ fun d v w=>w.rF z)))
 ·exact absurd z (nK l xs)
theorem cf.start0(R:Rep X.K M0 H0 γ α ρ σ H)(hN:X.N.Nodup)(hj:X.N[i]? =some x)(hx:Loc X.env.scope x)(hl:i < ρ.length)
  (kk: ∀a H',cf X M0 H0 γ α (ρ.set i .un) (σ.set i (some (.ref a))) H' i a []->kB X sts En (σ.set i (some (.ref a))) H')
  (hs:cg (.Dict [] [] p) (some (.Name x pos')) pos.line X.env=pure false:=by rfl)(hf:X.fn x=true\/X.env.scope.names.lookup x=some .local:=by first | exact .inl rfl | exact .inr rfl | assumption):kB X (.Assign [.Name x pos'] (.Dict [] [] p) pos::sts) En σ H:=by
 have pe:PE X (.Dict [] [] p) (fun σ H Q=> ∀a o,H a=none->Q (.ref a) (upd H a (gg a o []))):=by
  intro pins s σ H Q I h
  have hn:=I.dR.fresh (aw s.heap.objs.size)
  have big:fU < s.heap.objs.size:=by
   have h:b9 < s.heap.objs.size:=(I.mod.glob.keeps I.bk).lt
   exact Nat.lt_trans (by decide) h
  have no:(s.heap.objs.size==fU)=false:=beq_eq_false_iff_ne.mpr (mQ (aM big))
  exact wpAny_Dict_empty ⟨.ref s.heap.objs.size,_,I.laid (a:=s.heap.objs.size) (o:=gg s.heap.objs.size {cls:= .type "dict",data:= .dict #[]} []) (h':=s.heap.push {cls:= .type "dict",data:= .dict #[]}) (t':=s.toks) (fun _ _ q=>ag _ q) (aw _)
   ⟨⟨no, #[],0,au _ rfl,⟨rfl,rfl,rfl⟩,rfl,trivial⟩,⟨_,au _ rfl⟩,fun h1 h2 ⟨q1,es,ep,q2,q3⟩ kk=>⟨q1,es,ep,kk _ q2,q3⟩⟩,rfl,h _ _ hn⟩
 refine(cE oE fg).to ((kU hN hj hx pe hs hf).to fun a o ha=>kk a _ ?_)
 have sm:bI H (dC (upd H a (gg a o [])) a):=fun c o' e=>by
  rw [lg]
  exact iz (fun z=>by rw [z,ha]at e; cases e) e
 exact⟨(R.next sm).forget,lS hl,lS (by rw [R.len]; exact hl),by simp, [],rfl,⟨o,bC⟩,rfl⟩
theorem cf.viewE(B:cf X M0 H0 γ α ρ σ H i a kv): ∃ob,Rep X.K M0 H0 γ α (ρ.set i (.im (GF (some ob) kv))) σ H:=by
 obtain⟨bs,h1,⟨ob,h2⟩,h3⟩:=B.ex
 exact⟨ob,(B.r.next cT).view B.lt B.at_ ⟨a,bs,rfl,⟨ob,fun _ q=>(aK q).symm,h2⟩,by rw [h1,ae],by rw [ae,ae],h3.same cT⟩⟩
theorem cf.forMu(I:Nat->eG->kL->Prop)(hp:mR (model X.prog X.w) X.A X.env X.xe)(hc:X.calm=true)(hN:X.N.Nodup)(ht:X.N[t]? =some x)(hx:Loc X.env.scope x)(hti:t≠i)(hj:X.N[j]? =some y)(hv:tN X.env.scope y)(hji:j≠i)(B:cf X M0 H0 γ α ρ σ H i a kv)(hb: ∀d∈ds,D.bare 9 d)(h0:I 0 ρ kv)(hlt: ∀n ρ kv,I n ρ kv->t < ρ.length/\ρ[j]? =some (.mu ds))
  (turn: ∀(n:Nat) (d:D) (ρ:eG) (σ:St) (H:Hp) (kv:kL),ds[n]? =some d->I n ρ kv->cf X M0 H0 γ α (ρ.set t (.im d)) σ H i a kv->kB X body {En with nx:=fun σ H=> ∃ρ kv,cf X M0 H0 γ α ρ σ H i a kv/\I (n+1) ρ kv,ct:=fun σ H=> ∃ρ kv,cf X M0 H0 γ α ρ σ H i a kv/\I (n+1) ρ kv,bk:=En.nx} σ H)
  (done: ∀ρ σ H kv,I ds.length ρ kv->cf X M0 H0 γ α ρ σ H i a kv->En.nx σ H)(hf: ∀z,g_ (.Name y p1) X.env z=pure z:=by intro _; rfl)(hfn:X.fn x=true\/X.env.scope.names.lookup x=some .local:=by first | exact .inl rfl | exact .inr rfl | assumption)
  (hd:(y==("__debug__":Str))=false:=by decide)(hcd:(y==("__classdict__":Str))=false:=by decide):tS X (.For (.Name x p) (.Name y p1) body [] pos) En σ H:=by
 obtain⟨l1,ρ1⟩:=hlt 0 ρ kv h0
 obtain⟨a1,a2,xs,a3,a4⟩:=B.r.mu j ds ρ1
 refine(xr hp hc (ug (iZ hj hv hd hcd)) JR fg hf).to ⟨_,a2,α j,rfl,⟨xs,cT.seq (kR.of a3)⟩,fun n m σ H=>m=ds.length - n/\n<=ds.length/\ ∃ρ kv,cf X M0 H0 γ α ρ σ H i a kv/\I n ρ kv,⟨ds.length,by simp,bO _,ρ,kv,B,h0⟩, ?_⟩
 rintro n m σ2 H2 ⟨rfl,hn,ρ2,kv2,D2,i2⟩
 obtain⟨l2,e2⟩:=hlt n ρ2 kv2 i2
 obtain⟨b1,b2,xs',b3,dn2⟩:=D2.r.mu j ds e2
 have sq':=cT.seq (kR.of (K:=X.K) b3)
 by_cases hlt':n < ds.length
 ·refine .inr ⟨⟨xs',xs'[n]'(by rw [dn2.len]; exact hlt'),sq',ai _⟩,fun σ' H'=> ∃ρ kv,cf X M0 H0 γ α ρ σ' H' i a kv/\I (n+1) ρ kv,
   fun σ' H' ⟨ρ',kv',D',i'⟩=>⟨ds.length - (n+1),by omega,rfl,hlt',ρ',kv',D',i'⟩,fun y H' hy=> ?_⟩
  obtain⟨e,hy⟩:=hy
  subst e
  obtain⟨d,hd',dd⟩:=dn2.getV (hy xs' sq')
  refine(pC hN ht hx hfn).to ?_
  exact turn n d ρ2 _ _ kv2 hd' i2 (D2.put_im l2 hti dd)
 ·have e:n=ds.length:=by omega
  subst e
  exact .inl ⟨⟨xs',sq',by rw [dn2.len]; exact aw _⟩,done ρ2 σ2 H2 kv2 i2 D2⟩
end
end Z
namespace K
open PySem L2 Z
section
variable {f:c8}{qs:eY}{g:Rows}
abbrev bL(f:c8)(g:Rows):kL:=vq kX (oB f g)
theorem il{x:Rows×Int}:x∈bL f g↔x∈oB f g:=(iW _).mem_iff
theorem fw.sm(o:fw f qs g):Small g:=⟨by have:=o.kr; omega,by have:=f_ o.gd; have:=o.s.ok.st; omega⟩
theorem fw.of(o:fw f qs g){x:Rows×Int}(hx:x∈bL f g):fw f qs x.1:=by
 have i:=o.fin.BH x (il.mp hx)
 exact⟨o.s,i.gd,by rw [i.of.1.length_eq]; exact o.kr⟩
theorem fw.nd(o:fw f qs g):((bL f g).map (·.1)).Nodup:=((iW (lt:=kX) (oB f g)).map _).nodup_iff.mpr o.fin.be.nd
theorem fw.its_len(o:fw f qs g):(bL f g).length<=160000:=by
 rw [(iW (lt:=kX) (oB f g)).length_eq]
 exact o.fin.len
theorem fw.up(o:fw f qs g){m:Nat}{x y:Rows×Int}(hx:(bL f g)[m]? =some x)(hy:(bL f g)[m+1]? =some y):jo x.1 y.1=true:=by
 have nd:=o.nd
 obtain⟨h1,e1⟩:=aA.mp hx
 obtain⟨h2,e2⟩:=aA.mp hy
 have p:=bM.mp (uC GP (oB f g) ((j6.mp o.fin.be.nd).imp fun{a b} h z=>h (by rw [z]))) m (m+1) h1 h2 (eu _)
 have q:=bM.mp nd m (m+1) (by rw [ae]; exact h1) (by rw [ae]; exact h2) (eu _)
 rw [aR,aR]at q
 rw [e1,e2]at p q
 unfold kX at p
 rw [if_neg q]at p
 exact p
theorem fw.new(o:fw f qs g){n:Nat}{x:Rows×Int}(hx:(bL f g)[n]? =some x):x.1∉((bL f g).take n).map (·.1):=fun hm=>by
 obtain⟨h1,e1⟩:=aA.mp hx
 obtain⟨y,hy,e⟩:=aX.mp hm
 obtain⟨i,hi,e2⟩:=aL.mp hy
 rw [aT]at hi
 rw [dI]at e2
 have q:=bM.mp o.nd i n (by rw [ae]; omega) (by rw [ae]; exact h1) (by omega)
 rw [aR,aR,e1,e2]at q
 exact q e
theorem fw.beside(o:fw f qs g){x:Rows×Int}(hx:x∈bL f g){t:ml}(ht:isLet f x.1 t=true): ∃m,(mv x.1 t,m)∈bL f g/\m<=x.2+1/\x.2<=m+1:=by
 obtain⟨m,h1,h2⟩:=o.fin.nb o.s.ok (rs:=x.1) (n:=x.2) (il.mp hx) ht
 exact⟨m,il.mpr h1,h2⟩
theorem fw.zero(o:fw f qs g):(g,0)∈bL f g:=il.mpr o.fin.be.goal
theorem fw.nn(o:fw f qs g){x:Rows×Int}(hx:x∈bL f g):0<=x.2:=o.fin.be.nn x.1 x.2 (il.mp hx)
theorem fw.deep(o:fw f qs g){x:Rows×Int}(hx:x∈bL f g)(hne:x.1≠g): ∃t,isLet f x.1 t=true/\ ∃m,(mv x.1 t,m)∈bL f g/\m < x.2:=by
 have e:=o.fin
 have hp:0 < x.2:=by
  have h0:=o.nn hx
  rcases e.be.par x.1 x.2 (il.mp hx)with⟨h,_⟩ | ⟨k',h',hk,_,e2⟩
  ·exact absurd h hne
  ·have:=e.be.nn _ _ hk
   omega
 obtain⟨t,ht,hl⟩:=e.down o.s.ok (rs:=x.1) (n:=x.2) (il.mp hx) hp
 obtain⟨m,h1,_⟩:=o.beside hx ht
 rw [e.ht (il.mp h1)]at hl
 exact⟨t,ht,m,h1,hl⟩
theorem fw.one_ht(o:fw f qs g){k:Rows}{m n:Int}(h1:(k,m)∈bL f g)(h2:(k,n)∈bL f g):m=n:=o.fin.be.uniq (il.mp h1) (il.mp h2)
end
theorem uv(n:Nat)(rs:Rows):D.flat (n+2) (iM rs):=fun d hd=>by
 obtain⟨r,_,rfl⟩:=aX.mp hd
 intro e he
 obtain⟨i,_,rfl⟩:=aX.mp (show e∈r.map D.int from he)
 cases n <;> trivial
theorem least_le(a b:Int):least a b<=a/\least a b<=b:=by unfold least; split <;> omega
section
variable {P:ar}{w:World}{K:Frag}{mg:Str->Option Value}{base:Heap}{C CS CT CN CO:Addr}
theorem uj(G:nC P w K mg base C CS CT):jQ P w K mg base (f9 P w) 8 "heights" (fun i:c8×eY×Rows=> [iL C i.1 i.2.1,rT i.2.2]) (fun i=>fw i.1 i.2.1 i.2.2) (fun i=> .ok (qr (oB i.1 i.2.2))):=qe G fun i h=>⟨⟨h.s,h.sm⟩,(if_pos h.gd).trans (if_pos h.kr)⟩
end
theorem K1{X:Cx}{ρ:eG}{e:Expr}{es:List Expr}{C:Addr}{x:Str}{ns:List Str}{pos p:Pos}{CX:fJ}{k:Nat}{ι:Type}{args:ι->List D}{pre:ι->Prop}{res:ι->List D->Prop}{i:ι}(F:IW X.prog X.w X.K X.mg X.base CX k x C ns args pre res)(hr:eL (k+1) X.A)(hx:Passes CX X E0)(hg:Gl X x)(ha:bz X ρ (e::es) (args i))(hp:pre i)(hdb:(x==("__debug__":Str))=false:=by decide)
  (he:aq (e::es) X.env=(false,eval e X.env)::aq es X.env:=by rfl)(hpl:(c9 pos (aq es X.env)).any (·.1)=false:=by rfl):DW X ρ (.Call (.Name x p) (e::es) [] pos) (fun d=> ∃ds,d= .ins C ns ds/\res i ds):=DW.make F hr hx hg i ha hp hdb he hpl
abbrev Hz:List Str:= ["script","floor","goal","made","found","known","last","pair","standing","lowest","lift","there"]
section
variable {P:ar}{w:World}{K:Frag}{mg:Str->Option Value}{base:Heap}{C CS CT CN CO:Addr}
theorem CH:bN Hz ["script"] (aJ tK):=⟨rfl,rfl,rfl,by decide +kernel,rfl,by decide +kernel,by decide +kernel⟩
theorem n9{α β:Type}{kv:List α}{a:α->β}{i:Nat}{d:β}(h:(kv.map a)[i]? =some d): ∃x,x∈kv/\kv[i]? =some x/\d=a x:=by
 rw [aD]at h
 cases e:kv[i]? with
 | none=>rw [e]at h; cases h
 | some x=>rw [e]at h; exact⟨x,aP e,rfl,(aK h).symm⟩
theorem Eo{f:Addr}{cdv:Value}{A:bp}{outer:List Env}{s:ah}{H:Hp}{E:XK}{M0:MP}{ns:List Int}{fl:c8}{g:Rows}{ob:Obj}{l a7:Sl}(o:fw fl (iu fl.fA) g)(B:Bm mg)(babs:mg "abs"=none)(G7:jQ P w K mg base (f9 P w) 8 "heights" (fun i:c8×eY×Rows=> [iL C i.1 i.2.1,rT i.2.2]) (fun i=>fw i.1 i.2.1 i.2.2) (fun i=> .ok (qr (oB i.1 i.2.2))))(GB:lL P w K mg base (f9 P w))(GC:nh P w K mg base (f9 P w))
  (hr:eL 8 (A.deeper (ja "law" (aJ tK) s.heap.objs.size f cdv))):
  WS (kW (f9 P w) P w K mg base Hz "law" (aJ tK) f cdv A outer s H E).nox M0 H ((bx tK).drop 8) [.im (.lst (ns.map .int)), .im fl.d, .im (rT g), .im (iL C fl (iu fl.fA)), .mu ((bL fl g).map uZ), .im (GF (some ob) (bL fl g)),l,a7, .un, .un, .un, .un] {N:=fun _=>D.bl true= .non,R:=fun d'=>d'= .bl true}:=by
 have nx:NX (f9 P w):=k7
 have px:=CH.nd
 have hr1:eL 1 _:=hr.mono (by decide)
 have hr2:eL 2 _:=hr.mono (by decide)
 have hu:=xI hr
 have hu4:=Nat.lt_of_succ_lt hu
 have hu8:(A.deeper (ja "law" (aJ tK) s.heap.objs.size f cdv)).units+8 < cLine:=by omega
 have nd:=o.nd
 have hlen:=o.its_len
 refine WS.cons (W1.ite (cB.cI .ne (av.dget2 hu8 nd o.zero (av.dcW (nm 5 rfl rfl)) (nm 2 rfl rfl) av.int) av.int) (fun h=> ?_) fun h=>WS.nil ?_)
 ·simp at h
 refine WS.cons (W1.for (ds:=kD (bL fl g)) (fun n ρ=> ∃a8 a9 a10 a11,ρ= [.im (.lst (ns.map .int)), .im fl.d, .im (rT g), .im (iL C fl (iu fl.fA)), .mu ((bL fl g).map uZ), .im (GF (some ob) (bL fl g)),l,a7,a8,a9,a10,a11]) bt rfl (iq.dc (nm 5 rfl rfl)) ⟨_,_,_,_,rfl⟩ ?_ ?_)
 ·rintro n d ρ hd ⟨a8,a9,a10,a11,rfl⟩
  obtain⟨x,hx,ex,rfl⟩:=n9 hd
  have ox:=o.of hx
  refine⟨_,sJ.name (i:=8) px rfl (.inl rfl) (fQ rfl), ?_⟩
  refine WS.cons (W1.set (i:=9) px rfl (.inl rfl) (fQ rfl) (av.dget (k:=x.1) (n:=x.2) hu8 nd hx (av.dcW (nm 5 rfl rfl)) (nm 8 rfl rfl)) ?_)
  refine WS.cons (W1.for (ds:=(lets fl x.1).map tD) (fun n ρ=> ∃(lo:Int) (a10 a11:Sl),ρ= [.im (.lst (ns.map .int)), .im fl.d, .im (rT g), .im (iL C fl (iu fl.fA)), .mu ((bL fl g).map uZ), .im (GF (some ob) (bL fl g)),l,a7, .im (iM x.1), .im (.int lo),a10,a11]/\lo<=x.2/\ ∀t∈(lets fl x.1).take n, ∀m,(mv x.1 t,m)∈bL fl g->lo<=m) bt rfl
   (iq.list (av.call GB hr2 (bw nx) rfl (fl,x.1) (bz.cons (nm 1 rfl rfl) (bz.cons (nm 8 rfl rfl) bz.nil)) ⟨o.s.ok,ox.gd⟩ rfl)) ⟨x.2,_,_,rfl,rm _,fun t ht=>by rw [hJ]at ht; cases ht⟩ ?_ ?_)
  ·rintro i d ρ hd ⟨lo,b10,b11,rfl,hlo,hall⟩
   obtain⟨t,ht,et,rfl⟩:=n9 hd
   have hl:=(pH o.s.ok).mp ht
   obtain⟨hc,hg2⟩:=xc hl
   obtain⟨m,hm,m1,m2⟩:=o.beside hx hl
   refine⟨_,sJ.name (i:=10) px rfl (.inl rfl) (fQ rfl), ?_⟩
   refine WS.cons (W1.set (i:=11) px rfl (.inl rfl) (fQ rfl) (av.call GC hr1 (bw nx) rfl (x.1,t) (bz.cons (nm 8 rfl rfl) (bz.cons (nm 10 rfl rfl) bz.nil)) ⟨hc.mvOk (f_ ox.gd) ox.sm,hc.ne⟩ rfl) ?_)
   refine WS.cons (W1.ite (fk.t (fk.or (cB.notInDc (k:=mv x.1 t) hu8 nd (nm 11 rfl rfl) (av.dcW (nm 5 rfl rfl))) fun _=>fk.or1 (cB.cI .gt (av.abs rfl babs (av.sub (av.dget (k:=mv x.1 t) (n:=m) hu8 nd hm (av.dcW (nm 5 rfl rfl)) (nm 11 rfl rfl)) (av.dget (k:=x.1) (n:=x.2) hu8 nd hx (av.dcW (nm 5 rfl rfl)) (nm 8 rfl rfl)))) av.int))) (fun h=> ?_) fun h=>WS.nil ?_)
   ·exfalso
    rw [decide_eq_true (show mv x.1 t∈(bL fl g).map (·.1)from aX.mpr ⟨_,hm,rfl⟩),dz,Bool.false_or]at h
    have:=of_decide_eq_true h
    split at this <;> omega
   refine WS.one (W1.set (i:=9) px rfl (.inl rfl) (fQ rfl) (C6 rfl rfl B.min (nm 9 rfl rfl) (av.dget (k:=mv x.1 t) (n:=m) hu8 nd hm (av.dcW (nm 5 rfl rfl)) (nm 11 rfl rfl))) ?_)
   refine⟨_,_,_,rfl,Int.le_trans (least_le lo m).1 hlo,fun t' ht' m' hm'=> ?_⟩
   rw [dG,et]at ht'
   rcases bh.mp ht' with h | h
   ·exact Int.le_trans (least_le lo m).1 (hall t' h m' hm')
   ·have e:t'=t:=by simpa using h
    subst e
    rw [<-o.one_ht hm hm']
    exact(least_le lo m).2
  ·rintro ρ ⟨lo,b10,b11,rfl,hlo,hall⟩
   rw [ae,dq]at hall
   refine WS.one (W1.ite (fk.t (fk.and (cB.cI .eq (nm 9 rfl rfl) (av.dget (k:=x.1) (n:=x.2) hu8 nd hx (av.dcW (nm 5 rfl rfl)) (nm 8 rfl rfl))) fun _=>fk.and1 (cB.ne hu4 (av.r (nm 8 rfl rfl)) (av.r (nm 2 rfl rfl)) (uv 58 x.1) (uv 58 g)))) (fun h=> ?_) fun h=>WS.nil ⟨_,_,_,_,rfl⟩)
   exfalso
   rw [bq]at h
   have h1:lo=x.2:=of_decide_eq_true h.1
   by_cases hxg:x.1=g
   ·rw [hxg]at h
    have:D.eqv (iM g) (iM g)=true:=AR (uv 58 g)
    have h2:(!D.eqv (iM g) (iM g))=true:=h.2
    rw [this]at h2
    cases h2
   ·obtain⟨t,ht,m,hm,hlt⟩:=o.deep hx hxg
    have:=hall t ((pH o.s.ok).mpr ht) m hm
    omega
 ·rintro ρ ⟨a8,a9,a10,a11,rfl⟩
  refine WS.cons (W1.clear (i:=4) rfl (.inl rfl) rfl ?_ ⟨rfl,rfl⟩)
  refine WS.one (W1.ret (av.cI .eq (av.lenL rfl B.len (av.r (av.call G7 hr (bw nx) rfl (fl,iu fl.fA,g) (bz.cons (nm 3 rfl rfl) (bz.cons (nm 2 rfl rfl) bz.nil)) o rfl))) (av.lenDc nd (by omega) rfl B.len (av.dcW (nm 5 rfl rfl)))) ?_)
  show D.bl (decide ((((bL fl g).map uZ).length:Int)=((bL fl g).length:Int)))=D.bl true
  rw [ae,decide_eq_true rfl]
end
theorem wj(kv:kL): ∀d∈kv.map uZ,D.bare 9 d:=fun d hd=>by
 obtain⟨x,_,rfl⟩:=aX.mp hd
 exact yP 5 x
section
variable {P:ar}{w:World}{K:Frag}{mg:Str->Option Value}{base:Heap}{C CS CT CN CO:Addr}
set_option maxHeartbeats 4000000 in
theorem Ge{f:Addr}{fd:aV}(nK: ∀a xs, ¬Ef K a xs)(B:Bm mg)(babs:mg "abs"=none)(G1:wu P w K mg base (f9 P w))(G2:xP P w K mg base (f9 P w))(G3:nM P w K mg base (f9 P w))(G4:xC P w K mg base (f9 P w))(G5:A5 P w K mg base (f9 P w) C)(G7':nC P w K mg base C CS CT)(G8:uD P w K mg base (f9 P w))(G9:uA P w K mg base (f9 P w))(GA:vt P w K mg base (f9 P w))(GB:lL P w K mg base (f9 P w))(GC:nh P w K mg base (f9 P w))
  (F:iY K "law" "law" tK f fd):kC P w K mg base (f9 P w) 9 f fd ["script"] (yq K):=by
 have nx:NX (f9 P w):=k7
 have G7:=uj G7'
 refine yW F CH (fun i=>rfl) fun cdv A outer s H E ns M0 hp hr=>⟨_,rfl, ?_⟩
 have px:=CH.nd
 have hr1:eL 1 _:=hr.mono (by decide)
 have hr2:eL 2 _:=hr.mono (by decide)
 have hr3:eL 3 _:=hr.mono (by decide)
 have hr6:eL 6 _:=hr.mono (by decide)
 have hu:=xI hr
 have hu8:(A.deeper (ja "law" (aJ tK) s.heap.objs.size f cdv)).units+8 < cLine:=by omega
 change WS _ M0 H (bx tK) [.im (.lst (ns.map .int)), .un, .un, .un, .un, .un, .un, .un, .un, .un, .un, .un] {N:=fun _=>D.bl true= .non,R:=fun d'=>d'= .bl true}
 refine WS.cons (W1.set (i:=1) px rfl (.inl rfl) (fQ rfl) (av.call G2 hr2 (bw nx) rfl (ns,0,5) (bz.cons (nm 0 rfl rfl) (bz.cons av.int (bz.cons av.int bz.nil))) ⟨show 0 < 5 by decide,show 5 < 1000 by decide⟩ rfl) ?_)
 have hF:=E2 ns
 generalize pY ns 0 5=fl at hF
 have f1:2<=fl.st/\fl.st<=4:=hF.st
 have f2:1<=fl.ht/\fl.ht<=6:=hF.ht
 have hsl:=zy ns 7 fl
 refine WS.cons (W1.set (i:=2) px rfl (.inl rfl) (fQ rfl) (av.call G3 hr2 (bw nx) rfl (fl,cellAt ns 8 % 2147483647,small ns 7 fl) (bz.cons (nm 1 rfl rfl) (bz.cons (av.mod (av.call G1 hr1 (bw nx) rfl (ns,8) (bz.cons (nm 0 rfl rfl) (bz.cons av.int bz.nil)) trivial rfl) av.int (by decide)) (bz.cons (av.call G4 hr2 (bw nx) rfl (ns,7,fl) (bz.cons (nm 0 rfl rfl) (bz.cons av.int (bz.cons (nm 1 rfl rfl) bz.nil))) trivial rfl) bz.nil))) ⟨f1.1,f1.2,bg hsl (by decide)⟩ rfl) ?_)
 have hgg:=rD (f:=fl) (cell:=cellAt ns 8 % 2147483647) (crates:=small ns 7 fl) (by omega) (by omega)
 have hgf:=bg (tO fl (cellAt ns 8 % 2147483647) (small ns 7 fl)) hsl
 generalize dQ fl (cellAt ns 8 % 2147483647) (small ns 7 fl)=g at hgg hgf
 have hS:gw fl (iu fl.fA):=⟨hF,bg (BQ _) hF.kr,fun p=>qi p _⟩
 have o:fw fl (iu fl.fA) g:=⟨hS,hgg,hgf⟩
 refine WS.cons (W1.set (i:=3) (d:=iL C fl (iu fl.fA)) px rfl (.inl rfl) (fQ rfl) (DW.exact (d:=iL C fl (iu fl.fA)) (K1 (i:=fl) G5 hr6 (bw nx) rfl (bz.cons (av.ixT (nm 1 rfl rfl) av.int rfl) (bz.cons (av.ixT (nm 1 rfl rfl) av.int rfl) (bz.cons (av.ixT (nm 1 rfl rfl) av.int rfl) (bz.cons (ff.toD (ff.listL rfl B.list (av.r (av.ixT (nm 1 rfl rfl) av.int rfl)))) bz.nil)))) hF) fun d' ⟨ds,e1,qs,e2,e3⟩=>by subst e1 e2 e3; rfl) ?_)
 refine WS.xJ (j:=4) (ii:=(fl,iu fl.fA,g)) (ds:=(bL fl g).map uZ) nK rfl px rfl (.inl rfl) (fQ rfl) G7 hr (bw nx) rfl (bz.cons (nm 3 rfl rfl) (bz.cons (nm 2 rfl rfl) bz.nil)) (fun d hd=> ?_) o rfl (wj _) ?_
 ·have:d=iL C fl (iu fl.fA)\/d=rT g:=by simpa using hd
  rcases this with rfl | rfl
  ·exact By C fl _
  ·exact ig 7 g
 refine WS.cons (W1.ite (cB.not (cB.val (av.nP rfl B.nP rfl B.list (by decide +kernel) (.inr (.inr (.inr (.inr rfl)))) (vw 4 rfl rfl) rfl))) (fun h=> ?_) fun h=>WS.nil ?_)
 ·cases (show(!oM "list" (D.lst ((bL fl g).map uZ)))=true from h)
 intro γ α σ H1 R
 refine cf.start0 (i:=5) R px rfl (.inl rfl) (fQ rfl) fun a H2 D2=> ?_
 refine cf.set (j:=6) (d:= .non) D2 px rfl (.inl rfl) (fQ rfl) (by decide) av.non ck fun v3 H3 D3=> ?_
 have nd:=o.nd
 have hlen:=o.its_len
 refine(cE oE fg).to (cf.forMu (t:=7) (j:=4) (ds:=(bL fl g).map uZ) (fun n ρ kv=> ∃(l:D) (a7:Sl),ρ= [.im (.lst (ns.map .int)), .im fl.d, .im (rT g), .im (iL C fl (iu fl.fA)), .mu ((bL fl g).map uZ), .un, .im l,a7, .un, .un, .un, .un]/\kv=(bL fl g).take n/\((n=0/\l= .non)\/ ∃m x,n=m+1/\(bL fl g)[m]? =some x/\l=iM x.1)) bt rfl px rfl (.inl rfl) (by decide) rfl (.inl rfl) (by decide) D3 (wj _) ⟨.non,_,rfl,rfl, .inl ⟨rfl,rfl⟩⟩ (fun n ρ kv ⟨l,a7,e,_⟩=>by rw [e]; exact⟨fQ rfl,rfl⟩) ?_ ?_)
 ·rintro n d ρ σ H kv hd ⟨l,a7,rfl,rfl,hl⟩ D
  obtain⟨x,hx,ex,rfl⟩:=n9 hd
  have ox:=o.of hx
  have hnn:=o.nn hx
  have sx:=ox.sm
  change cf _ _ _ _ _ [.im (.lst (ns.map .int)), .im fl.d, .im (rT g), .im (iL C fl (iu fl.fA)), .mu ((bL fl g).map uZ), .un, .im l, .im (uZ x), .un, .un, .un, .un] _ _ _ _ _ at D
  refine(cE oE fg).to (cf.ite D (fk.t (fk.or (cB.not (cB.val (av.nP rfl B.nP rfl B.tuple (by decide +kernel) (.inr (.inr (.inr (.inl rfl)))) (av.r (nm 7 rfl rfl)) rfl))) fun _=>fk.or (cB.cI .ne (av.lenT rfl B.len (nm 7 rfl rfl)) av.int) fun _=>fk.or (cB.not (cB.val (av.call G8 hr1 (bw nx) rfl x.2 (bz.cons (av.ixT (nm 7 rfl rfl) av.int rfl) bz.nil) trivial rfl))) fun _=>fk.or1 (cB.cI .lt (av.ixT (nm 7 rfl rfl) av.int rfl) av.int))) (fun h H4 D4=> ?_) fun h H4 D4=>lG.to ?_)
  ·exfalso
   have h':(!oM "tuple" (uZ x) || (decide (((2:Nat):Int)≠2) || (!true || decide (x.2 < 0))))=true:=h
   rw [show oM "tuple" (uZ x)=true from rfl,decide_eq_false (show ¬x.2 < 0 by omega)]at h'
   cases h'
  have hlow: ∀m y,n=m+1->(bL fl g)[m]? =some y->jo y.1 x.1=true:=fun m y e hy=>o.up hy (by rw [<-e]; exact ex)
  refine(cE oE fg).to (cf.ite (b:=false) D4 (cB.to (c:=(!l.isNon&&false) || (!true || !true)) (fk.t (fk.or (fk.t (fk.and (cB.notN (av.r (nm 6 rfl rfl))) fun hz=>fk.and1 (by
   rcases hl with⟨_,rfl⟩ | ⟨m,y,e,hy,rfl⟩
   ·cases hz
   ·exact cB.to (cB.geSt (k:=y.1) (k':=x.1) hu8 (nm 6 rfl rfl) (av.ixT (nm 7 rfl rfl) av.int rfl)) (by rw [hlow m y e hy]; rfl)))) fun _=>fk.or (cB.not (cB.val (av.call G9 hr3 (bw nx) rfl x.1 (bz.cons (av.ixT (nm 7 rfl rfl) av.int rfl) (bz.cons (av.ixT (nm 7 rfl rfl) av.int rfl) bz.nil)) sx rfl))) fun _=>fk.or1 (cB.not (cB.val (av.to (av.call GA hr1 (bw nx) rfl (fl,true,x.1) (bz.cons (nm 1 rfl rfl) (bz.cons (av.ixT (nm 7 rfl rfl) av.int rfl) bz.nil)) ⟨show x.1.flatten.length < 4000 by have:=ox.kr; omega,show x.1.length < 4000 by have:=sx.n; omega⟩ rfl) (by rw [show good (fl,true,x.1).1 (fl,true,x.1).2.2=true from ox.gd])))))) (by simp)) (fun h=>by cases h) fun h H5 D5=>lG.to ?_)
  refine cf.set (j:=6) (d:=iM x.1) D5 px rfl (.inl rfl) (fQ rfl) (by decide) (av.ixT (nm 7 rfl rfl) av.int rfl) (ig 7 _) fun v6 H6 D6=> ?_
  refine(ng oE).to (cf.put (rs:=x.1) (n:=x.2) hu8 D6 rfl (.inl rfl) (nm 6 rfl rfl) (av.ixT (nm 7 rfl rfl) av.int rfl) (o.new ex) (by rw [aT]; unfold sizeLine; omega) fun H7 D7=> ?_)
  refine⟨_,_,D7,iM x.1, .im (uZ x),rfl, ?_, .inr ⟨n,x,rfl,ex,rfl⟩⟩
  rw [dG,ex]
  rfl
 ·rintro ρ σ H kv ⟨l,a7,rfl,rfl,hl⟩ D
  rw [ae,dq]at D
  obtain⟨ob,R2⟩:=D.viewE
  exact Eo o B babs G7 GB GC hr γ α σ H R2
end
end K
namespace Z
open PySem PySem.Spec PyProof.Rows L2
section
variable {K:Frag}{x q:Str}{st:Stmt}{f C:Addr}{fd:aV}{a b c d e:Str}
def eB(K:Frag)(x:Str)(st:Stmt):Prop:= ∃f fd,gr K b9 x=some (some (.ref f))/\iY K x x st f fd
theorem GQ{oc:Value}{od an:Option Addr}{osl:Array (Option Value)}{kV doc pm cdv ct:Value}(a:gr K b9 x=some (some (.ref f)))(l:K.lookup f=some ⟨oc,od, .func (dY x x (ik st) (bx st) (aJ st) .none kV doc pm an cdv ct),osl⟩)
  (c:mH K cdv x=true)(k:ft K (.ref f)=true):eB K x st:=⟨f,_,a,Bl l c k⟩
theorem eB.get{h:Heap}{mg:Str->Option Value}(d:eB K x st)(KX:K.In h)(G:h.Ns b9 mg): ∃f fd,mg x=some (.ref f)/\iY K x x st f fd:=let⟨f,fd,a,F⟩:=d; ⟨f,fd,nF KX G a,F⟩
def MethAt(K:Frag)(C:Addr)(x q:Str)(st:Stmt):Prop:= ∃f fd,bZ K (.ref C) x=some (some (.ref f))/\oQ K (.ref f)=true/\iY K x q st f fd
theorem E7{oc:Value}{od an:Option Addr}{osl:Array (Option Value)}{kV doc pm cdv ct:Value}(a:bZ K (.ref C) x=some (some (.ref f)))(i:oQ K (.ref f)=true)(l:K.lookup f=some ⟨oc,od, .func (dY x q (ik st) (bx st) (aJ st) .none kV doc pm an cdv ct),osl⟩)
  (c:mH K cdv q=true)(k:ft K (.ref f)=true):MethAt K C x q st:=⟨f,_,a,i,Bl l c k⟩
def l8(K:Frag)(x:Str):Prop:=gr K b9 x=some none
def ku(K:Frag)(x:Str)(z:Int):Prop:= ∃t,gr K b9 x=some (some (.int z t))
theorem int_mk{v:Value}{z:Int}(g:gr K b9 x=some (some v))(h: ∃t,v= .int z t):ku K x z:=let⟨t,e⟩:=h; ⟨t,e▸g⟩
theorem DC(F:iY K x q st f fd)(h: ∀(kV doc pm:Value) (an:Option Addr) (cdv ct v:Value),uQ (dY x q (ik st) (bx st) (aJ st) .none kV doc pm an cdv ct) ⟨[v], []⟩=pure [(a,v)]:=by intros; rfl):Binds K fd [a] []:=F.binds fun _ _ _ _ _ _ us hl=>by
 obtain⟨_,rfl⟩:=Jv us hl
 exact h ..
theorem yt(F:iY K x q st f fd)(h: ∀(kV doc pm:Value) (an:Option Addr) (cdv ct v v2:Value),uQ (dY x q (ik st) (bx st) (aJ st) .none kV doc pm an cdv ct) ⟨[v,v2], []⟩=pure [(a,v),(b,v2)]:=by intros; rfl):Binds K fd [a,b] []:=F.binds fun _ _ _ _ _ _ us hl=>by
 obtain⟨_,_,rfl⟩:=IU us hl
 exact h ..
theorem Hq(F:iY K x q st f fd)(h: ∀(kV doc pm:Value) (an:Option Addr) (cdv ct v v2 v3:Value),uQ (dY x q (ik st) (bx st) (aJ st) .none kV doc pm an cdv ct) ⟨[v,v2,v3], []⟩=pure [(a,v),(b,v2),(c,v3)]:=by intros; rfl):Binds K fd [a,b,c] []:=F.binds fun _ _ _ _ _ _ us hl=>by
 obtain⟨_,_,_,rfl⟩:=JG us hl
 exact h ..
theorem K3(F:iY K x q st f fd)(h: ∀(kV doc pm:Value) (an:Option Addr) (cdv ct v v2 v3 v4 v5:Value),uQ (dY x q (ik st) (bx st) (aJ st) .none kV doc pm an cdv ct) ⟨[v,v2,v3,v4,v5], []⟩=pure [(a,v),(b,v2),(c,v3),(d,v4),(e,v5)]:=by intros; rfl):Binds K fd [a,b,c,d,e] []:=F.binds fun _ _ _ _ _ _ us hl=>by
 obtain⟨_,_,_,_,_,rfl⟩:=IX us hl
 exact h ..
end
end Z
namespace K
open PySem L2 Z
theorem all_mk{l:FO}{w:World}{K:Frag}{h:Heap}{mg:Str->Option Value}{fa:Addr}(KX:K.In h)(G:h.Ns b9 mg)(hfa:mg "law"=some (.ref fa))
  {cp fP jR:Addr}
  (qE:gr K b9 "Floor"=some (some (.ref cp)))
  (D0:eB K "_law_cell_at" AQ)
  (D1:eB K "_law_floor" xo)
  (D2:eB K "_law_good" Bc)
  (D3:eB K "_law_standing" lQ)
  (D4:eB K "is_within" ua)
  (D5:eB K "is_crate" xB)
  (D6:eB K "is_ban" xU)
  (D7:eB K "are_bans" qC)
  (D8:eB K "is_good_stack" ke)
  (D9:eB K "is_good" pj)
  (JW:eB K "is_stack" nz)
  (JX:eB K "can_be_done" Ey)
  (JY:eB K "moved" uK)
  (JZ:eB K "is_let" ur)
  (J0:eB K "refuse_unless_good" ny)
  (J4:eB K "lifts" pS)
  (J5:eB K "crates_of" lO)
  (J6:eB K "refuse_too_many" k8)
  (J7:eB K "heights_above" pJ)
  (J8:eB K "heights" i3)
  (J9:eB K "_law_whole" ye)
  (J_:eB K "_law_tuple" uz)
  (Ka:eB K "_law_stands" o9)
  (Kb:eB K "_law_behind" pk)
  (Kc:eB K "_law_lifts" lK)
  (Ke:eB K "_law_small" tX)
  (Kf:eB K "law" tK)
  (qF:MethAt K cp "__init__" "Floor.__init__" wH)
  (qG:MethAt K cp "stacks" "Floor.stacks" (AF 1))
  (qH:MethAt K cp "height" "Floor.height" (AF 2))
  (qI:MethAt K cp "lift" "Floor.lift" (AF 3))
  (qJ:MethAt K cp "bans" "Floor.bans" (AF 4))
  (qK:kG K cp Str.empty=true)
  (qL:oP K cp=true)
  (qM:DE K cp=true)
  (qN:bZ K (.ref cp) "__setattr__"=some (some (.builtin "object.__setattr__")))
  (qO:FK K cp=true)
  (qP:ft K (.ref cp)=true)
  (fR:bZ K (.ref cp) "stack_count"=some none)
  (fS:bZ K (.ref cp) "most_crates"=some none)
  (fq:bZ K (.ref cp) "crane_strength"=some none)
  (fK:bZ K (.ref cp) "banned_pairs"=some none)
  (jr:gr K b9 "NoStanding"=some (some (.ref fP)))
  (mF:gr K b9 "TooMany"=some (some (.ref jR)))
  (jt:ko K fP AX "ValueError.__new__"=true)
  (mG:ko K jR AX "ValueError.__new__"=true)
  (nl:Fq K=true)
  (C_:l8 K "len")
  (uN:l8 K "range")
  (yf:l8 K "list")
  (uO:l8 K "tuple")
  (Dc:l8 K "set")
  (kg:l8 K "isinstance")
  (Dd:l8 K "int")
  (yg:l8 K "bool")
  (De:l8 K "all")
  (Df:l8 K "any")
  (Dg:l8 K "zip")
  (qQ:l8 K "sorted")
  (Dh:l8 K "min")
  (Di:l8 K "abs")
  (iE:ku K "FEWEST_STACKS" 2)
  (ju:ku K "MOST_STACKS" 4)
  (iF:ku K "LOWEST_HEIGHT" 1)
  (gQ:ku K "GREATEST_HEIGHT" 6)
  (iG:ku K "WEAKEST_CRANE" 1)
  (gR:ku K "STRONGEST_CRANE" 3)
  (lq:ku K "MOST_BANS" 20)
  (jv:ku K "FIRST_CRATE" 0)
  (kh:ku K "LAST_CRATE" 9)
  (jw:ku K "MOST_CRATES" 4):
  ∃fd:aV,(∀(s:ah) (v:Value),BindsTo s fd ⟨[v], []⟩ [("script",v)])/\ ∀base:Heap,K.In base->base.Ns b9 mg->kC l.prog w K mg base (f9 l.prog w) 9 fa fd ["script"] (yq K):=by
 obtain⟨_,_,m0,F0⟩:=D0.get KX G
 obtain⟨_,_,m1,F1⟩:=D1.get KX G
 obtain⟨_,_,m2,F2⟩:=D2.get KX G
 obtain⟨_,_,m3,F3⟩:=D3.get KX G
 obtain⟨_,_,m4,F4⟩:=D4.get KX G
 obtain⟨_,_,m5,F5⟩:=D5.get KX G
 obtain⟨_,_,m6,F6⟩:=D6.get KX G
 obtain⟨_,_,m7,F7⟩:=D7.get KX G
 obtain⟨_,_,m8,F8⟩:=D8.get KX G
 obtain⟨_,_,m9,F9⟩:=D9.get KX G
 obtain⟨_,_,K4,Kr⟩:=JW.get KX G
 obtain⟨_,_,K5,Ks⟩:=JX.get KX G
 obtain⟨_,_,K6,Kt⟩:=JY.get KX G
 obtain⟨_,_,K7,Ku⟩:=JZ.get KX G
 obtain⟨_,_,K8,Kv⟩:=J0.get KX G
 obtain⟨_,_,K9,Kw⟩:=J4.get KX G
 obtain⟨_,_,K_,Kx⟩:=J5.get KX G
 obtain⟨_,_,La,Kz⟩:=J6.get KX G
 obtain⟨_,_,Lb,KA⟩:=J7.get KX G
 obtain⟨_,_,Lc,KC⟩:=J8.get KX G
 obtain⟨_,_,Ld,KD⟩:=J9.get KX G
 obtain⟨_,_,Le,KG⟩:=J_.get KX G
 obtain⟨_,_,Lf,KH⟩:=Ka.get KX G
 obtain⟨_,_,Lg,KI⟩:=Kb.get KX G
 obtain⟨_,_,Lh,KJ⟩:=Kc.get KX G
 obtain⟨_,_,Li,KL⟩:=Ke.get KX G
 obtain⟨_,fd,Lj,KN⟩:=Kf.get KX G
 cases hfa.symm.trans Lj
 obtain⟨_,_,Dj,Dk,wI⟩:=qF
 obtain⟨_,_,Dl,Dm,qR⟩:=qG
 obtain⟨_,_,Dp,Dq,qS⟩:=qH
 obtain⟨_,_,Dr,Ds,qT⟩:=qI
 obtain⟨_,_,Dt,Du,qU⟩:=qJ
 have nx:NX (f9 l.prog w):=k7
 have ci: ∀{x:Str} {z:Int},ku K x z-> ∃t,mg x=some (.int z t):=fun⟨t,g⟩=>⟨t,nF KX G g⟩
 have un: ∀{x:Str},l8 K x->mg x=none:=fun z=>PySem.W.mg_none_of KX G z
 have Dv:=nF KX G qE
 have Dw:xt K cp:=⟨qK,qL,qM,qN⟩
 have rR:=nF KX G jr
 have yh:=nF KX G mF
 have B:Bm mg:={len:=un C_,range:=un uN,list:=un yf,tuple:=un uO,set:=un Dc,nP:=un kg,int:=un Dd,bool:=un yg,all:=un De,any:=un Df,zip:=un Dg,sorted:=un qQ,min:=un Dh,kr:=ci iE,most:=ci ju,low:=ci iF,great:=ci gQ,weak:=ci iG,CB:=ci gR,Fw:=ci lq,fst:=ci jv,lst:=ci kh}
 have T:Gn K cp:=⟨Dw,fR,fS,fq,fK⟩
 refine⟨fd,fun s v=> ?_,fun base KB GB=> ?_⟩
 ·obtain⟨_,_,_,_,_,_,_,_,_,rfl,_⟩:=KN.ex
  exact .of_eq rfl
 have G0:wu l.prog w K mg base (f9 l.prog w):=EZ B.toBn F0 m0 (yt F0)
 have G1:xP l.prog w K mg base (f9 l.prog w):=Cd nx B.toBn G0 F1 m1 (Hq F1)
 have G2:vt l.prog w K mg base (f9 l.prog w):=Ej nx B.toBn F2 m2 (yt F2)
 have G3:nM l.prog w K mg base (f9 l.prog w):=wq nx B.toBn G2 F3 m3 (Hq F3)
 have G4:lV l.prog w K mg base (f9 l.prog w):=zB B F4 m4 (Hq F4)
 have G5:sW l.prog w K mg base (f9 l.prog w):=Cr nx B G4 F5 m5 (DC F5)
 have G6:xV l.prog w K mg base (f9 l.prog w):=A2 nx B G5 F6 m6 (DC F6)
 have G7:pP l.prog w K mg base (f9 l.prog w):=yc nx B G6 F7 m7 (DC F7)
 have L:Fl l.prog w K mg base (f9 l.prog w) cp:=⟨T,zm T qR ⟨Dl,Dm,qR.kp⟩ (DC qR),zl T qS ⟨Dp,Dq,qS.kp⟩ (DC qS),EE T qT ⟨Dr,Ds,qT.kp⟩ (DC qT),Ew B T qU ⟨Dt,Du,qU.kp⟩ (DC qU)⟩
 have GM:A5 l.prog w K mg base (f9 l.prog w) cp:=EW nx B T G4 G7 wI ⟨qO,Dj,Dk,qP⟩ Dv (K3 wI)
 have G8:mj l.prog w K mg base (f9 l.prog w) cp:=ue nx B L G5 F8 m8 (yt F8)
 have G9:o7 l.prog w K mg base (f9 l.prog w) cp:=Ac nx B L G8 F9 m9 (yt F9)
 have Lk:qA l.prog w K mg base (f9 l.prog w) cp:=xX nx L G4 Kr K4 (yt Kr)
 have Ll:Gp l.prog w K mg base (f9 l.prog w) cp:=Gz nx B L Lk G4 Ks K5 (Hq Ks)
 have KO:sY l.prog w K mg base (f9 l.prog w):=Bo B Kt K6 (yt Kt)
 have Lm:xH l.prog w K mg base (f9 l.prog w) cp:=CC nx Ll G9 KO Ku K7 (Hq Ku)
 have Ln:zZ "NoStanding" fP mg base:=yw KB rR jt
 have EM:zZ "TooMany" jR mg base:=yw KB yh mG
 have KP:kO l.prog w K mg base cp fP:=xh Ln G9 Kv K8 (yt Kv)
 have Lo:uy l.prog w K mg base cp fP:=zV B L KP Lm Kw K9 (yt Kw)
 have GL:xR l.prog w K mg base (f9 l.prog w) cp:=xl Lo
 have Lp:nR l.prog w K mg base (f9 l.prog w):=vH B Kx K_ (DC Kx)
 have Lq:pX l.prog w K mg base jR:=xG EM (ci jw) B Lp Kz La (DC Kz)
 have Lr:xb l.prog w K mg base (f9 l.prog w) cp:=Bs nx B GL KO KA Lb (yt KA)
 have Ls:nC l.prog w K mg base cp fP jR:=ya B KP Lq Lr KC Lc (yt KC)
 have KQ:uD l.prog w K mg base (f9 l.prog w):=CY B KD Ld (DC KD)
 have Lu:xQ l.prog w K mg base (f9 l.prog w):=BA nx B KQ KG Le (yt KG)
 have Lv:uA l.prog w K mg base (f9 l.prog w):=zw nx B Lu KH Lf (yt KH)
 have KR:nh l.prog w K mg base (f9 l.prog w):=zS B KI Lg (yt KI)
 have Lw:lL l.prog w K mg base (f9 l.prog w):=vP nx B G2 KR KJ Lh (yt KJ)
 have Lx:xC l.prog w K mg base (f9 l.prog w):=A7 nx B G0 KL Li (Hq KL)
 exact Ge (BY nl) B (un Di) G0 G1 G3 Lx GM Ls KQ Lv G2 Lw KR KN
end K
open PySem PySem.W PyProof.Rows
def PySem.W.Fast.tw12830557305400032892:Unit:=()
def PySem.W.Fast.tw15870885857916525936:Unit:=()
def PySem.W.Fast.tw12732279347252743767:Unit:=()
def PySem.W.Fast.tw13856146446019042465:Unit:=()
def PySem.W.Fast.tw14686202412668693915:Unit:=()
def PySem.W.Fast.tw13743365507117451584:Unit:=()
def PySem.W.Fast.tw5845014292855537725:Unit:=()
def PySem.W.Fast.tw6540172823072795268:Unit:=()
def PySem.W.Fast.tw5319029475708571653:Unit:=()
def PySem.W.Fast.tw4162693702499774341:Unit:=()
def PySem.W.Fast.tw7058395164230974415:Unit:=()
def PySem.W.Fast.tw16577087244026145609:Unit:=()
def PySem.W.Fast.tw1947501926554442166:Unit:=()
def PySem.W.Fast.tw16305102752956064835:Unit:=()
def PySem.W.Fast.tw13840734902156161698:Unit:=()
def PySem.W.Fast.tw6315974054681915705:Unit:=()
def PySem.W.Fast.tw8172141130627617515:Unit:=()
def PySem.W.Fast.tw1473005274106370244:Unit:=()
def PySem.W.Fast.tw11392864563786508908:Unit:=()
def PySem.W.Fast.tw4797221930090502891:Unit:=()
def PySem.W.Fast.tw14465327453790690553:Unit:=()
def PySem.W.Fast.tw3644558665639338856:Unit:=()
def PySem.W.Fast.tw16299658930518543916:Unit:=()
def PySem.W.Fast.tw3975583440670407106:Unit:=()
def PySem.W.Fast.tw2670423339559344106:Unit:=()
def PySem.W.Fast.tw16389029601712719196:Unit:=()
def PySem.W.Fast.tw11101253562582144430:Unit:=()
def PySem.W.Fast.tw11264746468842350932:Unit:=()
def PySem.W.Fast.tw1815092970914000382:Unit:=()
def PySem.W.Fast.tw406101600892823745:Unit:=()
def PySem.W.Fast.tw4613424626156518072:Unit:=()
def PySem.W.Fast.tw14790048636044529788:Unit:=()
def PySem.W.Fast.tw10834006195542224032:Unit:=()
def PySem.W.Fast.tw11888815547959820069:Unit:=()
def PySem.W.Fast.tw7492320491955649887:Unit:=()
def PySem.W.Fast.tw16638809065106059368:Unit:=()
def PySem.W.Fast.tw13434609720307040092:Unit:=()
def PySem.W.Fast.tw4127473787862363496:Unit:=()
def PySem.W.Fast.tw6608849372776164750:Unit:=()
def PySem.W.Fast.tw14216850237348525445:Unit:=()
def PySem.W.Fast.tw6654699109678206418:Unit:=()
def PySem.W.Fast.tw16055997116328317589:Unit:=()
def PySem.W.Fast.tw12331302637441390730:Unit:=()
def PySem.W.Fast.tw10991417125314494030:Unit:=()
def PySem.W.Fast.tw2384184558593054946:Unit:=()
def PySem.W.Fast.tw16679284460960056090:Unit:=()
def PySem.W.Fast.tw14522624012510947601:Unit:=()
def PySem.W.Fast.tw11427495787158285193:Unit:=()
def PySem.W.Fast.tw4771438118337651962:Unit:=()
def PySem.W.Fast.tw18188004953317802751:Unit:=()
def PySem.W.Fast.tw16000170635243764269:Unit:=()
def PySem.W.Fast.tw18251138150050479738:Unit:=()
def PySem.W.Fast.tw8064724327335004465:Unit:=()
def PySem.W.Fast.tw14894530639761456482:Unit:=()
def PySem.W.Fast.tw12988061917525012458:Unit:=()
def PySem.W.Fast.tw153907873555131750:Unit:=()
def PySem.W.Fast.tw10605099011376256045:Unit:=()
def PySem.W.Fast.tw15638414875144867931:Unit:=()
def PySem.W.Fast.tw18280756636097188644:Unit:=()
set_option maxRecDepth 100000 in
set_option maxHeartbeats 0 in
theorem PySem.Challenge.cw_cranefloor_k05_whole_heights_holds : PySem.Challenge.rw_cranefloor_k05_whole_heights.Holds := by
 w_on; o_law; k_head; (case hw=>w_witness2)
 k_fill
 refine Z.BU (k:=9) (l:=PySem.Challenge.rw_cranefloor_k05_whole_heights) ⟨rfl,by decide,by decide⟩ rfl rfl (fun w h Y=>PySem.W.kIn_of Y) ?F
 case F=>
  intro w mg fa h KX G hmg
  refine' K.all_mk KX G hmg ?qE ?D0 ?D1 ?D2 ?D3 ?D4 ?D5 ?D6 ?D7 ?D8 ?D9 ?JW ?JX ?JY ?JZ ?J0 ?J4 ?J5 ?J6 ?J7 ?J8 ?J9 ?J_ ?Ka ?Kb ?Kc ?Ke ?Kf ?qF ?qG ?qH ?qI ?qJ ?qK ?qL ?qM ?qN ?qO ?qP ?fR ?fS ?fq ?fK ?jr ?mF ?jt ?mG ?nl ?C_ ?uN ?yf ?uO ?Dc ?kg ?Dd ?yg ?De ?Df ?Dg ?qQ ?Dh ?Di ?iE ?ju ?iF ?gQ ?iG ?gR ?lq ?jv ?kh ?jw
  (case qE=>k_is)
  (case D0|D1|D2|D3|D4|D5|D6|D7|D8|D9|JW|JX|JY|JZ|J0|J4|J5|J6|J7|J8|J9|J_|Ka|Kb|Kc|Ke|Kf=>exact Z.GQ (by k_is) (by k_is) (by k_is) (by k_is))
  (case qF|qG|qH|qI|qJ=>exact Z.E7 (by k_is) (by k_is) (by k_is) (by k_is) (by k_is))
  (case qK|qL|qM|qN|qO|qP|fR|fS|fq|fK|jr|mF=>k_is)
  (case jt|mG=>k_exc)
  (case nl=>kernel_rfl)
  (case C_|uN|yf|uO|Dc|kg|Dd|yg|De|Df|Dg|qQ|Dh|Di=>delta Z.l8; k_is)
  (case iE|ju|iF|gQ|iG|gR|lq|jv|kh|jw=>exact Z.int_mk (by k_is) ⟨_,rfl⟩)
